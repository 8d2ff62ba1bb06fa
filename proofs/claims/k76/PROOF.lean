import PyProof.Rows.All
import Wide.All
import OpenK.AllK
import Wide.FinOn
import Lean
import PyProof.EqAt
import PyProof.EqKinds
import PyProof.TupleCall
import PySem.Challenge.RW_fewspeak_k76_what_is_led_tested
set_option Elab.async false
set_option linter.all false
set_option maxRecDepth 100000
namespace L2
open PySem PySem.Spec PyProof.Rows
noncomputable abbrev Key := Sum Int Str
noncomputable def keyIs : Key → Value → Bool
  | .inl k, v => Value.isInt k v
  | .inr x, v => Value.isStrOf x v
noncomputable def keyH (w : World) : Key → Int
  | .inl k => hashInt k
  | .inr x => hashStr w x
theorem keyIs_shape : ∀ {k : Key} {v : Value}, keyIs k v = true → (∃ i t, k = Sum.inl i ∧ v = Value.int i t) ∨ (∃ x t, k = Sum.inr x ∧ v = Value.str x t)
  | .inl i, v, h => by
    obtain ⟨t, e⟩ := Value.isInt_shape (k := i) (v := v) h
    exact .inl ⟨i, t, rfl, e⟩
  | .inr x, v, h => by
    obtain ⟨t, e⟩ := Value.isStrOf_shape (x := x) (v := v) h
    exact .inr ⟨x, t, rfl, e⟩
theorem keyIs_int (i : Int) (t : Tok) : keyIs (.inl i) (.int i t) = true := by simp [keyIs, Value.isInt]
theorem keyIs_str (x : Str) (t : Tok) : keyIs (.inr x) (.str x t) = true := by simp [keyIs, Value.isStrOf]
theorem key_ll (a b : Int) : decide ((Sum.inl a : Key) = Sum.inl b) = (a == b) := by
  by_cases e : a = b
  · subst e; simp
  · have h : ¬ (Sum.inl a : Key) = Sum.inl b := fun q => e (Sum.inl.inj q)
    rw [decide_eq_false h]
    exact (beq_eq_false_iff_ne.mpr e).symm
theorem key_rr (a b : Str) : decide ((Sum.inr a : Key) = Sum.inr b) = decide (a = b) := by
  by_cases e : a = b
  · subst e; simp
  · have h : ¬ (Sum.inr a : Key) = Sum.inr b := fun q => e (Sum.inr.inj q)
    rw [decide_eq_false h, decide_eq_false e]
theorem key_lr (a : Int) (b : Str) : decide ((Sum.inl a : Key) = Sum.inr b) = false := decide_eq_false (fun q => nomatch q)
theorem key_rl (a : Str) (b : Int) : decide ((Sum.inr a : Key) = Sum.inl b) = false := decide_eq_false (fun q => nomatch q)
noncomputable def mixKind (prog : Program) (w : World) : PySem.KeyKind prog w Key where
  is := keyIs
  hash := keyH w
  inj := fun v a b ha hb => by
    rcases keyIs_shape ha with ⟨i, t, rfl, rfl⟩ | ⟨x, t, rfl, rfl⟩
    · rcases keyIs_shape hb with ⟨j, u, rfl, e⟩ | ⟨y, u, rfl, e⟩
      · injection e with e1 _; rw [e1]
      · exact nomatch e
    · rcases keyIs_shape hb with ⟨j, u, rfl, e⟩ | ⟨y, u, rfl, e⟩
      · exact nomatch e
      · injection e with e1 _; rw [e1]
  byValue := fun k v h => by
    rcases keyIs_shape h with ⟨i, t, rfl, rfl⟩ | ⟨x, t, rfl, rfl⟩ <;> rfl
  pyHash := fun hv h => by
    rcases keyIs_shape hv with ⟨i, t, rfl, rfl⟩ | ⟨x, t, rfl, rfl⟩
    · exact wpAny_pyHash_int h
    · exact wpAny_pyHash_str h
  eqBool := fun hu hv h => by
    rcases keyIs_shape hu with ⟨i, t, rfl, rfl⟩ | ⟨x, t, rfl, rfl⟩
    · rcases keyIs_shape hv with ⟨j, u, rfl, rfl⟩ | ⟨y, u, rfl, rfl⟩
      · rw [key_ll] at h; exact wpAny_eqBool_int h
      · rw [key_lr] at h; exact SeqAt.EqAt.int_str i t y u _ _ _ _ h
    · rcases keyIs_shape hv with ⟨j, u, rfl, rfl⟩ | ⟨y, u, rfl, rfl⟩
      · rw [key_rl] at h; exact SeqAt.EqAt.str_int x t j u _ _ _ _ h
      · rw [key_rr] at h; exact wpAny_eqBool_str h
  «strs» := fun k x t v h => by
    rcases keyIs_shape h with ⟨i, u, rfl, e⟩ | ⟨y, u, rfl, e⟩
    · exact nomatch e
    · injection e with e1 _
      subst e1
      cases v <;> rfl
theorem mixKind_int (prog : Program) (w : World) (i : Int) (t : Tok) : (mixKind prog w).is (.inl i) (.int i t) = true := keyIs_int i t
theorem mixKind_str (prog : Program) (w : World) (x : Str) (t : Tok) : (mixKind prog w).is (.inr x) (.str x t) = true := keyIs_str x t
end L2
namespace L2
open PySem PySem.Spec PyProof.Rows
inductive V where
  | non | bl (b : Bool) | int (i : Int) | str (x : Str) | byt (b : Array UInt8) | flt (b : UInt64) | ref (a : Addr) | ty (n : String)
  deriving DecidableEq
noncomputable def RelV : V → Value → Prop
  | .non, u => u = Value.none
  | .bl b, u => u = Value.bool b
  | .int i, u => ∃ t, u = Value.int i t
  | .str x, u => ∃ t, u = Value.str x t
  | .byt b, u => ∃ t, u = Value.bytes b t
  | .flt b, u => ∃ t, u = Value.float b t
  | .ref a, u => u = Value.ref a
  | .ty n, u => u = Value.type n
noncomputable abbrev Vals : List V → List Value → Prop := Paired RelV
theorem Vals.length {xs : List V} {us : List Value} (r : Vals xs us) : xs.length = us.length := Paired.length r
theorem Vals.get : ∀ {xs : List V} {us : List Value} {i : Nat} {x : V}, Vals xs us → xs[i]? = some x → ∃ u, us[i]? = some u ∧ RelV x u
  | _, _, _, _, .nil, e => by simp at e
  | _, _, 0, _, .cons r _, e => by simp at e; subst e; exact ⟨_, rfl, r⟩
  | _, _, i + 1, x, .cons _ t, e => by
    obtain ⟨u, h1, h2⟩ := Vals.get (i := i) (x := x) t (by simpa using e)
    exact ⟨u, by simpa using h1, h2⟩
theorem Vals.set {x : V} {u : Value} (r : RelV x u) : ∀ {xs : List V} {us : List Value} (i : Nat), Vals xs us → Vals (xs.set i x) (us.set i u)
  | _, _, _, .nil => .nil
  | _, _, 0, .cons _ t => .cons r t
  | _, _, i + 1, .cons q t => .cons q (Vals.set r i t)
theorem Vals.append : ∀ {xs ys : List V} {us ws : List Value}, Vals xs us → Vals ys ws → Vals (xs ++ ys) (us ++ ws)
  | _, _, _, _, .nil, s => s
  | _, _, _, _, .cons r t, s => .cons r (Vals.append t s)
theorem Vals.take : ∀ {xs : List V} {us : List Value} (n : Nat), Vals xs us → Vals (xs.take n) (us.take n)
  | _, _, 0, _ => .nil
  | _, _, _ + 1, .nil => .nil
  | _, _, n + 1, .cons r t => .cons r (Vals.take n t)
theorem Vals.drop : ∀ {xs : List V} {us : List Value} (n : Nat), Vals xs us → Vals (xs.drop n) (us.drop n)
  | _, _, 0, r => r
  | _, _, _ + 1, .nil => .nil
  | _, _, n + 1, .cons _ t => Vals.drop n t
noncomputable def RelO : Option V → Option Value → Prop
  | some v, some u => RelV v u
  | none, none => True
  | _, _ => False
noncomputable def KV {κ : Type} : List (κ × V) → List (κ × Value) → Prop := Paired fun (p : κ × V) (q : κ × Value) => p.1 = q.1 ∧ RelV p.2 q.2
noncomputable def kV : Key → V
  | .inl i => .int i
  | .inr x => .str x
inductive HO where
  | lst (xs : List V)
  | tup (xs : List V)
  | dK (kvs : List (Key × V)) | dT (kvs : List (List Key × V))
  | set (S : Int → Bool) (n : Nat)
  | ins (C dx : Addr) (fs : List (Str × V))
  | own (x : Addr)
  | xd (fs : List (Str × V))
  | met (f x : Addr)
  | rng (lo hi : Int)
  | frz (o : Obj) (u : HO)
  | tbl (ps : Array Value)
  | ext (φ : Heap → Prop)
noncomputable abbrev Hp := Addr → Option HO
noncomputable def upd (H : Hp) (a : Addr) (o : HO) : Hp := fun b => if b = a then some o else H b
theorem upd_same {H : Hp} {a : Addr} {o : HO} : upd H a o a = some o := by unfold upd; rw [if_pos rfl]
theorem upd_ne {H : Hp} {a b : Addr} {o : HO} (h : b ≠ a) : upd H a o b = H b := by unfold upd; rw [if_neg h]
theorem ne_of {H : Hp} {a b : Addr} {o u : HO} (h : H a = some o) (h' : H b = some u) (d : o ≠ u) : a ≠ b := by
  intro e; subst e; rw [h] at h'; exact d (Option.some.inj h')
theorem ne_of_none {H : Hp} {a b : Addr} {o : HO} (h : H a = some o) (h' : H b = none) : a ≠ b := by
  intro e; subst e; rw [h] at h'; cases h'
section
variable (P : Program) (w : World)
noncomputable def ObjOk (H : Hp) (h : Heap) (a : Addr) : HO → Prop
  | .lst xs => xs.length ≤ sizeLine ∧ ∃ (its : List Value) (n : Nat), Vals xs its ∧ h.get? a = some { cls := .type "list", data := .seq its.toArray n }
  | .tup xs => xs.length ≤ sizeLine ∧ ∃ its : List Value, Vals xs its ∧ IsTup h a its.toArray
  | .dK kvs => kvs.length ≤ sizeLine ∧ (a == sysModules) = false ∧ ∃ vs, KV kvs vs ∧ h.DictOf (mixKind P w) a vs
  | .dT kvs => kvs.length ≤ sizeLine ∧ (a == sysModules) = false ∧ ∃ xs : List (List Key × Addr × Value),
      Paired (fun (p : List Key × V) (q : List Key × Addr × Value) => p.1 = q.1 ∧ H q.2.1 = some (.tup (p.1.map kV)) ∧ RelV p.2 q.2.2) kvs xs ∧
      ∃ o es ep, h.get? a = some o ∧ o.ExactDict ∧ o.data = .dict es ep ∧ es.toList = xs.map (entryOfKey (tupleKind (mixKind P w))) ∧ (xs.map (·.1)).Nodup
  | .set S n => h.SetOf (intKind P w) a S n
  | .ins C dx fs => H dx = some (.own a) ∧ fs.length ≤ 1000 ∧ dx ≠ a ∧ h.get? a = some (PySem.W.instObj C dx) ∧
      ∃ mA, h.Ns1 dx mA ∧ (∀ f, RelO (fs.lookup f) (mA f)) ∧ PySem.Within mA (fs.map (·.1))
  | .own _ => ∃ o, h.get? a = some o
  | .xd fs => ∃ mA, h.Ns1 a mA ∧ ∀ f, RelO (fs.lookup f) (mA f)
  | .rng lo hi => ∃ t u v, h.get? a = some { cls := .type "range", data := .fields #[.int lo t, .int hi u, .int 1 v] }
  | .frz o u => h.get? a = some o ∧ ObjOk H h a u
  | .tbl ps => h.get? a = some { cls := .none, data := .fields ps }
  | .met f x => h.get? a = some (PySem.W.methodObj (.ref f) (.ref x))
  | .ext φ => φ h ∧ (∃ o, h.get? a = some o) ∧ ∀ h1 h2 : Heap, φ h1 → (∀ o, h1.get? a = some o → h2.get? a = some o) → φ h2
noncomputable def HOk (H : Hp) (h : Heap) : Prop := ∀ a o, H a = some o → ObjOk P w H h a o
end
section
variable {P : Program} {w : World} {H H' : Hp} {h h' : Heap} {a : Addr} {o : HO}
theorem ObjOk.lt (x : ObjOk P w H h a o) : a < h.objs.size := by
  cases o with
  | lst xs => obtain ⟨_, _, _, _, e⟩ := x; exact Heap.lt_size e
  | tup xs => obtain ⟨_, _, _, p⟩ := x; exact p.lt
  | dK kvs => obtain ⟨_, _, _, _, o, _, _, e, _⟩ := x; exact Heap.lt_size e
  | dT kvs => obtain ⟨_, _, _, _, o, _, _, e, _⟩ := x; exact Heap.lt_size e
  | set S n => obtain ⟨o, _, _, _, e, _⟩ := x; exact Heap.lt_size e
  | ins C dx fs => obtain ⟨_, _, _, e, _⟩ := x; exact Heap.lt_size e
  | own y => obtain ⟨_, e⟩ := x; exact Heap.lt_size e
  | xd fs => obtain ⟨_, ⟨_, _, _, e, _⟩, _⟩ := x; exact Heap.lt_size e
  | rng lo hi => obtain ⟨_, _, _, e⟩ := x; exact Heap.lt_size e
  | frz ob u => obtain ⟨e, _⟩ := x; exact Heap.lt_size e
  | tbl ps => exact Heap.lt_size (show h.get? a = some _ from x)
  | met f y => exact Heap.lt_size (show h.get? a = some _ from x)
  | ext φ => obtain ⟨_, ⟨_, e⟩, _⟩ := x; exact Heap.lt_size e
theorem Paired.mapP {α β : Type} {F G : α → β → Prop} : ∀ {l₁ : List α} {l₂ : List β}, Paired F l₁ l₂ → (∀ a b, F a b → G a b) → Paired G l₁ l₂
  | _, _, .nil, _ => .nil
  | _, _, .cons r t, f => .cons (f _ _ r) (Paired.mapP t f)
theorem ObjOk.stay (x : ObjOk P w H h a o) (k : ∀ b u, (b = a ∨ H b = some (.own a)) → h.get? b = some u → h'.get? b = some u)
    (ho : ∀ b, H b = some (.own a) → H' b = some (.own a)) (ht : ∀ b xs, H b = some (.tup xs) → H' b = some (.tup xs)) : ObjOk P w H' h' a o := by
  induction o with
  | lst xs => obtain ⟨z, its, n, r, e⟩ := x; exact ⟨z, its, n, r, k _ _ (.inl rfl) e⟩
  | tup xs => obtain ⟨z, its, r, ob, e, c⟩ := x; exact ⟨z, its, r, ob, k _ _ (.inl rfl) e, c⟩
  | dK kvs => obtain ⟨z, y, vs, r, ob, es, ep, e, c⟩ := x; exact ⟨z, y, vs, r, ob, es, ep, k _ _ (.inl rfl) e, c⟩
  | dT kvs =>
    obtain ⟨z, y, xs, r, ob, es, ep, e, c⟩ := x
    exact ⟨z, y, xs, Paired.mapP r fun p q z => ⟨z.1, ht _ _ z.2.1, z.2.2⟩, ob, es, ep, k _ _ (.inl rfl) e, c⟩
  | set S n => obtain ⟨ob, es, ep, t, e, c⟩ := x; exact ⟨ob, es, ep, t, k _ _ (.inl rfl) e, c⟩
  | ins C dx fs =>
    obtain ⟨d, z, ne, e, mA, ⟨od, es, ep, e2, c⟩, r⟩ := x
    exact ⟨ho _ d, z, ne, k _ _ (.inl rfl) e, mA, ⟨od, es, ep, k _ _ (.inr d) e2, c⟩, r⟩
  | own y => obtain ⟨ob, e⟩ := x; exact ⟨ob, k _ _ (.inl rfl) e⟩
  | xd fs => obtain ⟨mA, ⟨od, es, ep, e, c⟩, r⟩ := x; exact ⟨mA, ⟨od, es, ep, k _ _ (.inl rfl) e, c⟩, r⟩
  | rng lo hi => obtain ⟨t, u, v, e⟩ := x; exact ⟨t, u, v, k _ _ (.inl rfl) e⟩
  | frz ob u ih => obtain ⟨e, q⟩ := x; exact ⟨k _ _ (.inl rfl) e, ih q⟩
  | tbl ps =>
    have e : h.get? a = some { cls := .none, data := .fields ps } := x
    show h'.get? a = some { cls := .none, data := .fields ps }
    exact k a _ (.inl rfl) e
  | met f y =>
    have e : h.get? a = some (PySem.W.methodObj (.ref f) (.ref y)) := x
    show h'.get? a = some (PySem.W.methodObj (.ref f) (.ref y))
    exact k a _ (.inl rfl) e
  | ext φ => obtain ⟨p, ⟨o, e⟩, st⟩ := x; exact ⟨st _ _ p fun o q => k _ _ (.inl rfl) q, ⟨o, k _ _ (.inl rfl) e⟩, st⟩
theorem HOk.lt (x : HOk P w H h) (e : H a = some o) : a < h.objs.size := (x a o e).lt
theorem HOk.fresh (x : HOk P w H h) (e : h.objs.size ≤ a) : H a = none := by
  cases q : H a with
  | none => rfl
  | some u => exact absurd (Nat.lt_of_lt_of_le (x.lt q) e) (Nat.lt_irrefl _)
theorem HOk.kept (x : HOk P w H h) (k : ∀ b u, h.get? b = some u → h'.get? b = some u) : HOk P w H h' := fun a o e =>
  (x a o e).stay (fun b u _ q => k b u q) (fun _ q => q) fun _ _ q => q
theorem HOk.laid (x : HOk P w H h) (k : ∀ b u, h.get? b = some u → h'.get? b = some u) (hp : h.objs.size ≤ a) (new : ObjOk P w (upd H a o) h' a o) : HOk P w (upd H a o) h' := fun b u e => by
  have hn := x.fresh hp
  by_cases hb : b = a
  · subst hb; rw [upd_same] at e; cases e; exact new
  · rw [upd_ne hb] at e
    exact (x b u e).stay (fun c v _ q => k c v q) (fun c q => by rw [upd_ne (ne_of_none q hn)]; exact q) fun c xs q => by rw [upd_ne (ne_of_none q hn)]; exact q
end
noncomputable def Rd (H : Hp) (a : Addr) (u : HO) : Prop := H a = some u ∨ ∃ o, H a = some (.frz o u)
theorem Rd.ok {P : Program} {w : World} {H : Hp} {h : Heap} {a : Addr} {u : HO} (r : Rd H a u) (x : HOk P w H h) : ObjOk P w H h a u := by
  rcases r with r | ⟨o, r⟩
  · exact x a u r
  · obtain ⟨_, q⟩ := x a _ r
    exact q
noncomputable def Mut : Option HO → Prop
  | some (.lst _) => True
  | some (.dK _) => True
  | some (.dT _) => True
  | some (.set _ _) => True
  | some (.ins _ _ _) => True
  | some (.ext _) => True
  | _ => False
section
variable {P : Program} {w : World} {H : Hp} {h h' : Heap} {x e : Addr} {o' : HO}
theorem HOk.write (ok : HOk P w H h) (mu : Mut (H x)) (he : e = x ∨ H e = some (.own x)) (k : ∀ b u, b ≠ e → h.get? b = some u → h'.get? b = some u) (heo : ∃ u, h'.get? e = some u)
    (new : ObjOk P w (upd H x o') h' x o') : HOk P w (upd H x o') h' := fun b u q => by
  have nown : ∀ c y, H c = some (.own y) → c ≠ x := fun c y r z => by subst z; rw [r] at mu; exact mu
  have ntup : ∀ c xs, H c = some (.tup xs) → c ≠ x := fun c xs r z => by subst z; rw [r] at mu; exact mu
  by_cases hb : b = x
  · subst hb; rw [upd_same] at q; cases q; exact new
  · rw [upd_ne hb] at q
    by_cases hbe : b = e
    · have q' : H b = some (.own x) := by
        rcases he with z | z
        · exact absurd (hbe.trans z) hb
        · rw [hbe]; exact z
      rw [q] at q'; cases q'
      obtain ⟨v, hv⟩ := heo
      exact ⟨v, by rw [hbe]; exact hv⟩
    · refine (ok b u q).stay (fun c v hc r => k c v ?_ r) (fun c r => by rw [upd_ne (nown c b r)]; exact r) fun c xs r => by rw [upd_ne (ntup c xs r)]; exact r
      rcases hc with rfl | hc
      · exact hbe
      · rintro rfl
        rcases he with z | z
        · exact nown c b hc z
        · rw [hc] at z; cases z; exact hb rfl
end
structure Un (fs ex : List Addr) (H H' : Hp) (h h' : Heap) : Prop where
  keep : ∀ b o, h.get? b = some o → H b = none → b ∉ fs → b ∉ ex → h'.get? b = some o
  slot : ∀ b o, h.get? b = some o → H b = none → b ∈ fs → b ∉ ex → ∃ sl, h'.get? b = some { o with slots := sl }
  free : ∀ b o, h.get? b = some o → H b = none → b ∉ ex → H' b = none
  there : ∀ b o, h.get? b = some o → b ∉ ex → ∃ o', h'.get? b = some o'
  tups : ∀ b xs, H b = some (.tup xs) → H' b = some (.tup xs)
  frzs : ∀ b o u, H b = some (.frz o u) → H' b = some (.frz o u)
  tbls : ∀ b ps, H b = some (.tbl ps) → ∃ more, H' b = some (.tbl (ps ++ more))
section
variable {fs fs' ex ex' : List Addr} {H H1 H2 : Hp} {h h1 h2 h' : Heap} {a x e : Addr} {o : HO}
theorem Un.any (u : Un fs ex H H1 h h1) {b : Addr} {ob : Obj} (q : h.get? b = some ob) (n : H b = none) (hx : b ∉ ex) : ∃ sl, h1.get? b = some { ob with slots := sl } := by
  by_cases hb : b ∈ fs
  · exact u.slot b ob q n hb hx
  · exact ⟨ob.slots, u.keep b ob q n hb hx⟩
theorem Un.kept (k : ∀ b u, h.get? b = some u → h'.get? b = some u) : Un fs ex H H h h' :=
  ⟨fun b ob q _ _ _ => k b ob q, fun b ob q _ _ _ => ⟨ob.slots, k b ob q⟩, fun _ _ _ n _ => n, fun b ob q _ => ⟨ob, k b ob q⟩, fun _ _ q => q, fun _ _ _ q => q, fun _ ps q => ⟨#[], by rw [q]; simp⟩⟩
theorem Un.refl : Un fs ex H H h h := Un.kept fun _ _ q => q
theorem Un.laid (k : ∀ b u, h.get? b = some u → h'.get? b = some u) (hp : h.objs.size ≤ a) (hn : H a = none) : Un fs ex H (upd H a o) h h' where
  keep := fun b u q _ _ _ => k b u q
  slot := fun b u q _ _ _ => ⟨u.slots, k b u q⟩
  free := fun b u q n _ => by rw [upd_ne (Nat.ne_of_lt (Nat.lt_of_lt_of_le (Heap.lt_size q) hp))]; exact n
  there := fun b u q _ => ⟨u, k b u q⟩
  tups := fun b xs q => by rw [upd_ne (ne_of_none q hn)]; exact q
  frzs := fun b u xs q => by rw [upd_ne (ne_of_none q hn)]; exact q
  tbls := fun b ps q => ⟨#[], by rw [upd_ne (ne_of_none q hn), q]; simp⟩
theorem Un.write (mu : Mut (H x)) (he : e = x ∨ H e = some (.own x)) (k : ∀ b u, b ≠ e → h.get? b = some u → h'.get? b = some u) (heo : ∃ u, h'.get? e = some u) : Un fs ex H (upd H x o) h h' := by
  have hx : ∀ b, H b = none → b ≠ x := fun b n z => by subst z; rw [n] at mu; exact mu
  have hb : ∀ b, H b = none → b ≠ e := fun b n z => by
    subst z
    rcases he with r | r
    · exact hx b n r
    · rw [n] at r; cases r
  have hm : ∀ b u, H b = some u → ¬ Mut (some u) → b ≠ x := fun b u q nm z => by subst z; rw [q] at mu; exact nm mu
  refine ⟨fun b u q n _ _ => k b u (hb b n) q, fun b u q n _ _ => ⟨u.slots, k b u (hb b n) q⟩, fun b u q n _ => by rw [upd_ne (hx b n)]; exact n, fun b u q _ => ?_,
    fun b xs q => by rw [upd_ne (hm b _ q fun z => z)]; exact q, fun b u xs q => by rw [upd_ne (hm b _ q fun z => z)]; exact q, fun b ps q => ⟨#[], by rw [upd_ne (hm b _ q fun z => z), q]; simp⟩⟩
  by_cases hbe : b = e
  · subst hbe; exact heo
  · exact ⟨u, k b u hbe q⟩
end
noncomputable def trk (h : Heap) (H : Hp) : List Addr := (List.range h.objs.size).filter fun a => (H a).isSome
noncomputable def hidT (h : Heap) (H : Hp) : Heap := PySem.W.hideAll h (trk h H)
theorem hidT_size (h : Heap) (H : Hp) : (hidT h H).objs.size = h.objs.size := PySem.W.hideAll_size _ _
theorem hidT_get {h : Heap} {H : Hp} {b : Addr} {o : Obj} (e : h.get? b = some o) (n : H b = none) : (hidT h H).get? b = some o :=
  PySem.W.hideAll_get _ e fun hm => by
    have q : (H b).isSome = true := (List.mem_filter.mp hm).2
    rw [n] at q; simp at q
theorem of_hidT {h : Heap} {H : Hp} {b : Addr} {o : Obj} (e : (hidT h H).get? b = some o) : h.get? b = some o ∧ H b = none := by
  have e' : h.get? b = some o := PySem.W.of_hideAll (trk h H) e
  refine ⟨e', ?_⟩
  cases q : H b with
  | none => rfl
  | some x =>
    have hm : b ∈ trk h H := List.mem_filter.mpr ⟨List.mem_range.mpr (Heap.lt_size e'), by simp [q]⟩
    have z : (hidT h H).get? b = none := PySem.W.hideAll_none (trk h H) hm
    rw [z] at e; cases e
end L2
namespace L2
open PySem PySem.Spec PyProof.Rows
structure Mod (K : PySem.W.Frag) (mg : Str → Option Value) (base : Heap) : Prop where
  kin : K.In base
  glob : base.Ns mainGlobals mg
  blt : ∃ mb, base.Ns builtinsNs mb ∧ ∀ x : Str, x ≠ "__name__" → mb x = bootBuiltins x
  nolimit : base.NoLimit
/-- the context: a def's body (or a comprehension's block) running. base: fixed through the whole law; s₀, H₀: the entry; outer: the frames whose slots others may change (a def's callers); stack: all frames that run;
   ex: iterators that were made ahead of the entry and are walked here (a comprehension's); fn: the names whose cells were made at the entry (a def: all; a comprehension's block: its own); calm: not within an except suite; pn: pins that every state bears; xe: what is wanted of an exception that leaves the code -/
structure Cx where
  prog : Program
  w : World
  K : PySem.W.Frag
  mg : Str → Option Value
  base : Heap
  A : Around
  N : List Str
  s₀ : Shared
  H₀ : Hp
  env : Env
  outer : List Env
  stack : List Env
  ex : List Addr
  fn : Str → Bool
  calm : Bool
  pn : List (Addr × Obj)
  xe : Value → Shared → Prop
noncomputable def frs (l : List Env) : List Addr := l.filterMap (·.frame)
noncomputable abbrev Cx.fs (X : Cx) : List Addr := frs X.outer
noncomputable def Vis (sc : Scope) (x : Str) : Prop := sc.names.lookup x = some .local ∨ sc.names.lookup x = some .cell ∨ sc.names.lookup x = some .free
noncomputable def Loc (sc : Scope) (x : Str) : Prop := sc.names.lookup x = some .local ∨ sc.names.lookup x = some .cell
noncomputable def Look (env : Env) (h : Heap) (m : Str → Option Value) (x : Str) (u : Value) : Prop :=
  (env.kindOf x = some .local ∧ m x = some u) ∨ ((env.kindOf x = some .cell ∨ env.kindOf x = some .free) ∧ ∃ c, env.cells.lookup x = some c ∧ h.IsCell c (some u))
structure Cx.Ok (X : Cx) : Prop where
  mod : Mod X.K X.mg X.base
  kind : X.env.scope.kind = .function
  glob : X.env.globals = mainGlobals
  blt : X.env.builtins = builtinsNs
  above : X.s₀.heap.objs.size ≤ X.env.locals
  inj : ∀ x y c, X.env.cells.lookup x = some c → X.env.cells.lookup y = some c → x = y
  has : ∀ x, (X.env.kindOf x = some .cell ∨ X.env.kindOf x = some .free) → ∃ c, X.env.cells.lookup x = some c
  cab : ∀ x c, X.fn x = true → X.env.cells.lookup x = some c → X.s₀.heap.objs.size ≤ c
  hd : X.calm = true → X.A.handled = none
  frames : X.A.frames = some X.stack
  stk : X.stack = X.outer ∨ (X.stack = X.env :: X.outer ∧ X.env.frame = some X.env.locals)
  exf : ∀ b ∈ X.ex, b ≠ X.env.locals ∧ ∀ x c, X.env.cells.lookup x = some c → c ≠ b
  bs : ∀ b o, X.base.get? b = some o → X.s₀.heap.get? b = some o ∧ X.H₀ b = none
  bsz : X.base.objs.size ≤ X.s₀.heap.objs.size
  noex : ∀ b o, X.base.get? b = some o → b ∉ X.ex
  exfs : ∀ b ∈ X.ex, b ∉ X.fs
  funs : X.s₀.heap.FunFrames X.base X.outer
  frf : ∀ b ∈ X.fs, X.H₀ b = none
structure Inv (X : Cx) (pins : List (Addr × Obj)) (σ : List (Option V)) (H : Hp) (s : Shared) : Prop where
  ok : X.Ok
  os : s.os = X.s₀.os
  bare : AllBare s.gens
  base : Un X.fs X.ex X.H₀ H X.s₀.heap s.heap
  loc : ∃ m, s.heap.Ns X.env.locals m ∧ ∀ (i : Nat) (x : Str) (v : V), X.N[i]? = some x → σ[i]? = some (some v) → Vis X.env.scope x → ∃ u, RelV v u ∧ Look X.env s.heap m x u
  cell : ∀ x c, X.env.cells.lookup x = some c → ∃ v, s.heap.IsCell c v
  free : H X.env.locals = none
  freeC : ∀ x c, X.env.cells.lookup x = some c → H c = none
  pin : ∀ p ∈ X.pn ++ pins, s.heap.get? p.1 = some p.2 ∧ H p.1 = none ∧ p.1 ≠ X.env.locals ∧ p.1 ∉ X.fs ∧ ∀ v, p.2.data ≠ .cell v
  hok : HOk X.prog X.w H s.heap
  len : σ.length = X.N.length
section
variable {X : Cx} {pins : List (Addr × Obj)} {σ : List (Option V)} {H H' : Hp} {s : Shared} {h' : Heap}
theorem Cx.Ok.nofr (ok : X.Ok) {b : Addr} {o : Obj} (e : X.base.get? b = some o) : b ∉ X.fs := fun hb => by
  have := (ok.funs.mem hb).1
  rw [e] at this; cases this
theorem Inv.bs (I : Inv X pins σ H s) : ∀ b o, X.base.get? b = some o → s.heap.get? b = some o ∧ H b = none := fun b o e =>
  ⟨I.base.keep b o (I.ok.bs b o e).1 (I.ok.bs b o e).2 (I.ok.nofr e) (I.ok.noex b o e), I.base.free b o (I.ok.bs b o e).1 (I.ok.bs b o e).2 (I.ok.noex b o e)⟩
theorem Inv.bk (I : Inv X pins σ H s) : ∀ b o, X.base.get? b = some o → s.heap.get? b = some o := fun b o e => (I.bs b o e).1
theorem Inv.mod (I : Inv X pins σ H s) : Mod X.K X.mg X.base := I.ok.mod
theorem Inv.kIn (I : Inv X pins σ H s) : X.K.In s.heap := I.ok.mod.kin.keeps I.bk
theorem Inv.lt (I : Inv X pins σ H s) : X.env.locals < s.heap.objs.size := let ⟨_, hn, _⟩ := I.loc; hn.lt
theorem Inv.sz (I : Inv X pins σ H s) : X.s₀.heap.objs.size ≤ s.heap.objs.size := Nat.le_trans I.ok.above (Nat.le_of_lt I.lt)
theorem Inv.nofs (I : Inv X pins σ H s) {a : Addr} (h : s.heap.objs.size ≤ a) : a ∉ X.fs := fun hb => by
  obtain ⟨_, o, ho, _⟩ := I.ok.funs.mem hb
  exact absurd (Nat.lt_of_lt_of_le (Heap.lt_size ho) (Nat.le_trans I.sz h)) (Nat.lt_irrefl _)
theorem Inv.cne (I : Inv X pins σ H s) : ∀ x c, X.env.cells.lookup x = some c → c ≠ X.env.locals := fun x c e z => by
  obtain ⟨v, o, ho, hd⟩ := I.cell x c e
  obtain ⟨m, ⟨o', es, ep, ho', hd', _⟩, _⟩ := I.loc
  rw [z, ho'] at ho; cases ho; rw [hd'] at hd; cases hd
theorem Inv.funs (I : Inv X pins σ H s) : s.heap.FunFrames X.base X.outer := by
  have all : ∀ (l : List Env), (∀ b ∈ frs l, b ∈ X.fs) → X.s₀.heap.FunFrames X.base l → s.heap.FunFrames X.base l := by
    intro l
    induction l with
    | nil => intro _ _; trivial
    | cons env r ih =>
      intro hs hl
      obtain ⟨hk, ⟨L, o, hf, hn, ho, hd⟩, hr⟩ := hl
      have hL : L ∈ X.fs := hs L (by unfold frs; rw [List.filterMap_cons, hf]; exact List.mem_cons_self)
      obtain ⟨sl, e⟩ := I.base.slot L o ho (I.ok.frf L hL) hL fun z => I.ok.exfs L z hL
      exact ⟨hk, ⟨L, _, hf, hn, e, hd⟩, ih (fun b hb => hs b (by unfold frs; rw [List.filterMap_cons, hf]; exact List.mem_cons_of_mem _ hb)) hr⟩
  exact all X.outer (fun _ hb => hb) I.ok.funs
theorem Inv.stack (I : Inv X pins σ H s) : s.heap.FunFrames X.base X.stack := by
  rcases I.ok.stk with e | ⟨e, hf⟩
  · rw [e]; exact I.funs
  · rw [e]
    obtain ⟨m, hn, _⟩ := I.loc
    refine .cons (by rw [I.ok.kind]; decide) hf hn ?_ I.funs
    exact Heap.get?_none_of_le (Nat.le_trans I.ok.bsz I.ok.above)
theorem Inv.stkSub (I : Inv X pins σ H s) : ∀ b ∈ frs X.stack, b ∈ X.env.locals :: X.fs := fun b hb => by
  rcases I.ok.stk with e | ⟨e, hf⟩
  · rw [e] at hb; exact List.mem_cons_of_mem _ hb
  · rw [e] at hb
    unfold frs at hb
    rw [List.filterMap_cons, hf] at hb
    exact hb
theorem Inv.stkFree (I : Inv X pins σ H s) : ∀ b ∈ frs X.stack, H b = none := fun b hb => by
  rcases List.mem_cons.mp (I.stkSub b hb) with e | hb
  · rw [e]; exact I.free
  · obtain ⟨_, o, ho, _⟩ := I.ok.funs.mem hb
    exact I.base.free b o ho (I.ok.frf b hb) fun z => I.ok.exfs b z hb
theorem Inv.step {g' : Array GenState} {t' : Nat} {d' : Drawn} {ch : List Addr} (I : Inv X pins σ H s)
    (hch : ∀ b ∈ ch, (b ∈ X.ex ∨ X.s₀.heap.objs.size ≤ b) ∧ b ≠ X.env.locals ∧ (∀ x c, X.env.cells.lookup x = some c → c ≠ b) ∧ ∀ p ∈ X.pn ++ pins, p.1 ≠ b)
    (keep : ∀ b o, b ≠ X.env.locals → b ∉ X.fs → b ∉ ch → s.heap.get? b = some o → H b = none → h'.get? b = some o)
    (slot : ∀ b o, b ≠ X.env.locals → b ∈ X.fs → b ∉ ch → s.heap.get? b = some o → H b = none → ∃ sl, h'.get? b = some { o with slots := sl }) (free : ∀ b o, b ∉ ch → s.heap.get? b = some o → H b = none → H' b = none)
    (there : ∀ b o, b ∉ ch → s.heap.get? b = some o → ∃ o', h'.get? b = some o')
    (tups : ∀ b xs, H b = some (.tup xs) → H' b = some (.tup xs)) (frzs : ∀ b o u, H b = some (.frz o u) → H' b = some (.frz o u)) (tbls : ∀ b ps, H b = some (.tbl ps) → ∃ more, H' b = some (.tbl (ps ++ more)))
    (ns : ∀ m, s.heap.Ns X.env.locals m → h'.Ns X.env.locals m) (hok : HOk X.prog X.w H' h') (hg : AllBare g') :
    Inv X pins σ H' { s with heap := h', gens := g', drawn := d', toks := t' } := by
  have neL : ∀ b o, X.s₀.heap.get? b = some o → b ≠ X.env.locals := fun b o e => Nat.ne_of_lt (Nat.lt_of_lt_of_le (Heap.lt_size e) I.ok.above)
  have neC : ∀ b o, X.s₀.heap.get? b = some o → b ∉ X.ex → b ∉ ch := fun b o e hx hb => by
    rcases (hch b hb).1 with z | z
    · exact hx z
    · exact absurd (Nat.lt_of_lt_of_le (Heap.lt_size e) z) (Nat.lt_irrefl _)
  have cellK : ∀ x c, X.env.cells.lookup x = some c → ∀ v, s.heap.IsCell c v → h'.IsCell c v := fun x c e v ⟨o, ho, hd⟩ => by
    have nch : c ∉ ch := fun z => (hch c z).2.2.1 x c e rfl
    by_cases hc : c ∈ X.fs
    · obtain ⟨sl, q⟩ := slot c o (I.cne x c e) hc nch ho (I.freeC x c e)
      exact ⟨_, q, hd⟩
    · exact ⟨o, keep c o (I.cne x c e) hc nch ho (I.freeC x c e), hd⟩
  refine ⟨I.ok, I.os, hg, ⟨fun b o e n hb hx => ?_, fun b o e n hb hx => ?_, fun b o e n hx => ?_, fun b o e hx => ?_, fun b xs e => tups b xs (I.base.tups b xs e), fun b o xs e => frzs b o xs (I.base.frzs b o xs e), fun b ps e => ?_⟩, ?_, fun x c e => ?_, ?_, fun x c e => ?_, fun p hp => ?_, hok, I.len⟩
  · exact keep b o (neL b o e) hb (neC b o e hx) (I.base.keep b o e n hb hx) (I.base.free b o e n hx)
  · obtain ⟨sl, e1⟩ := I.base.slot b o e n hb hx
    obtain ⟨sl', e2⟩ := slot b _ (neL b o e) hb (neC b o e hx) e1 (I.base.free b o e n hx)
    exact ⟨sl', e2⟩
  · obtain ⟨o', e1⟩ := I.base.there b o e hx
    exact free b o' (neC b o e hx) e1 (I.base.free b o e n hx)
  · obtain ⟨o', e1⟩ := I.base.there b o e hx
    exact there b o' (neC b o e hx) e1
  · obtain ⟨m1, e1⟩ := I.base.tbls b ps e
    obtain ⟨m2, e2⟩ := tbls b _ e1
    exact ⟨m1 ++ m2, by rw [e2, Array.append_assoc]⟩
  · obtain ⟨m, hn, hl⟩ := I.loc
    refine ⟨m, ns m hn, fun i x v e1 e2 e3 => ?_⟩
    obtain ⟨u, r, l⟩ := hl i x v e1 e2 e3
    refine ⟨u, r, ?_⟩
    rcases l with l | ⟨k, c, e, z⟩
    · exact .inl l
    · exact .inr ⟨k, c, e, cellK x c e _ z⟩
  · obtain ⟨v, z⟩ := I.cell x c e
    exact ⟨v, cellK x c e v z⟩
  · obtain ⟨m, ⟨o, _, _, ho, _⟩, _⟩ := I.loc
    exact free _ o (fun z => (hch _ z).2.1 rfl) ho I.free
  · obtain ⟨v, o, ho, hd⟩ := I.cell x c e
    exact free c o (fun z => (hch c z).2.2.1 x c e rfl) ho (I.freeC x c e)
  · obtain ⟨e, n, ne, nf, d⟩ := I.pin p hp
    have nch : p.1 ∉ ch := fun z => (hch p.1 z).2.2.2 p hp rfl
    exact ⟨keep p.1 p.2 ne nf nch e n, free p.1 p.2 nch e n, ne, nf, d⟩
theorem Inv.un {t' : Nat} (I : Inv X pins σ H s) (u : Un X.fs [] H H' s.heap h') (hok : HOk X.prog X.w H' h') : Inv X pins σ H' { s with heap := h', toks := t' } := by
  obtain ⟨m, ⟨o, es, ep, ho, r⟩, _⟩ := id I.loc
  obtain ⟨sl, hL⟩ := u.any ho I.free (by simp)
  exact I.step (g' := s.gens) (d' := s.drawn) (ch := []) (fun _ z => nomatch z) (fun b o _ hb _ e n => u.keep b o e n hb (by simp)) (fun b o _ hb _ e n => u.slot b o e n hb (by simp)) (fun b o _ e n => u.free b o e n (by simp)) (fun b o _ e => u.there b o e (by simp)) u.tups u.frzs u.tbls (fun m' hm => by
    obtain ⟨o', es', ep', ho', r'⟩ := hm
    rw [ho] at ho'; cases ho'
    exact ⟨_, es', ep', hL, r'⟩) hok I.bare
theorem Inv.call {g' : Array GenState} {t' : Nat} {d' : Drawn} {ch : List Addr} (I : Inv X pins σ H s) (u : Un (frs X.stack) ch H H' s.heap h') (hok : HOk X.prog X.w H' h') (hg : AllBare g')
    (hch : ∀ b ∈ ch, (b ∈ X.ex ∨ X.s₀.heap.objs.size ≤ b) ∧ b ≠ X.env.locals ∧ (∀ x c, X.env.cells.lookup x = some c → c ≠ b) ∧ ∀ p ∈ X.pn ++ pins, p.1 ≠ b) :
    Inv X pins σ H' { s with heap := h', gens := g', drawn := d', toks := t' } := by
  obtain ⟨m, ⟨o, es, ep, ho, r⟩, _⟩ := id I.loc
  obtain ⟨sl, hL⟩ := u.any ho I.free fun z => (hch _ z).2.1 rfl
  exact I.step (ch := ch) hch (fun b o hL hb hc e n => u.keep b o e n (fun z => (List.mem_cons.mp (I.stkSub b z)).elim hL hb) hc) (fun b o _ _ hc e n => u.any e n hc) (fun b o hc e n => u.free b o e n hc) (fun b o hc e => u.there b o e hc) u.tups u.frzs u.tbls (fun m' hm => by
    obtain ⟨o', es', ep', ho', r'⟩ := hm
    rw [ho] at ho'; cases ho'
    exact ⟨_, es', ep', hL, r'⟩) hok hg
theorem Inv.turned {t' : Nat} {it : Addr} (I : Inv X pins σ H s) (k : ∀ b o, b ≠ it → s.heap.get? b = some o → h'.get? b = some o) (hn : H it = none) (hL : it ≠ X.env.locals)
    (h1 : it ∈ X.ex ∨ X.s₀.heap.objs.size ≤ it) (h2 : ∀ x c, X.env.cells.lookup x = some c → c ≠ it) (h3 : ∀ p ∈ X.pn ++ pins, p.1 ≠ it) : Inv X pins σ H { s with heap := h', toks := t' } := by
  have nit : ∀ b u, H b = some u → b ≠ it := fun b u e z => by rw [z, hn] at e; cases e
  refine I.step (g' := s.gens) (d' := s.drawn) (ch := [it]) (fun b hb => ?_) (fun b o _ _ hc e _ => k b o (fun z => hc (by simp [z])) e) (fun b o _ _ hc e _ => ⟨o.slots, k b o (fun z => hc (by simp [z])) e⟩) (fun _ _ _ _ n => n)
    (fun b o hc e => ⟨o, k b o (fun z => hc (by simp [z])) e⟩) (fun _ _ e => e) (fun _ _ _ e => e) (fun b ps e => ⟨#[], by rw [e]; simp⟩) (fun m hm => ?_) (fun b u e => ?_) I.bare
  · have e : b = it := by simpa using hb
    subst e
    exact ⟨h1, hL, h2, h3⟩
  · obtain ⟨o, es, ep, ho, r⟩ := hm
    exact ⟨o, es, ep, k _ o (Ne.symm hL) ho, r⟩
  · refine (I.hok b u e).stay (fun c v hc q => k c v ?_ q) (fun _ q => q) fun _ _ q => q
    rcases hc with z | z
    · rw [z]; exact nit b u e
    · exact nit c _ z
theorem Inv.tok (I : Inv X pins σ H s) (t : Nat) : Inv X pins σ H { s with toks := t } := I.un (h' := s.heap) (t' := t) Un.refl I.hok
theorem Inv.kept {t' : Nat} (I : Inv X pins σ H s) (k : ∀ b u, s.heap.get? b = some u → h'.get? b = some u) : Inv X pins σ H { s with heap := h', toks := t' } := I.un (Un.kept k) (I.hok.kept k)
theorem Inv.laid {a : Addr} {o : HO} {t' : Nat} (I : Inv X pins σ H s) (k : ∀ b u, s.heap.get? b = some u → h'.get? b = some u) (hp : s.heap.objs.size ≤ a) (new : ObjOk X.prog X.w (upd H a o) h' a o) :
    Inv X pins σ (upd H a o) { s with heap := h', toks := t' } := I.un (Un.laid k hp (I.hok.fresh hp)) (I.hok.laid k hp new)
theorem Inv.write {x e : Addr} {o : HO} {t' : Nat} (I : Inv X pins σ H s) (mu : Mut (H x)) (he : e = x ∨ H e = some (.own x)) (k : ∀ b u, b ≠ e → s.heap.get? b = some u → h'.get? b = some u) (heo : ∃ u, h'.get? e = some u)
    (new : ObjOk X.prog X.w (upd H x o) h' x o) : Inv X pins σ (upd H x o) { s with heap := h', toks := t' } := I.un (Un.write mu he k heo) (I.hok.write mu he k heo new)
theorem Inv.weak {σ' : List (Option V)} (I : Inv X pins σ H s) (hl : σ'.length = σ.length) (w : ∀ (i : Nat) v, σ'[i]? = some (some v) → σ[i]? = some (some v)) : Inv X pins σ' H s :=
  ⟨I.ok, I.os, I.bare, I.base, let ⟨m, hn, hl'⟩ := I.loc; ⟨m, hn, fun i x v e1 e2 e3 => hl' i x v e1 (w i v e2) e3⟩, I.cell, I.free, I.freeC, I.pin, I.hok, hl.trans I.len⟩
theorem Inv.pins_of {pins' : List (Addr × Obj)} (I : Inv X pins σ H s) (h : ∀ p ∈ pins', s.heap.get? p.1 = some p.2 ∧ H p.1 = none ∧ p.1 ≠ X.env.locals ∧ p.1 ∉ X.fs ∧ ∀ v, p.2.data ≠ .cell v) : Inv X pins' σ H s :=
  ⟨I.ok, I.os, I.bare, I.base, I.loc, I.cell, I.free, I.freeC, fun p hp => (List.mem_append.mp hp).elim (fun z => I.pin p (List.mem_append_left _ z)) (h p), I.hok, I.len⟩
theorem nodup_ix {N : List Str} (hN : N.Nodup) {i j : Nat} {x : Str} (a : N[i]? = some x) (b : N[j]? = some x) : i = j := by
  obtain ⟨h1, e1⟩ := List.getElem?_eq_some_iff.mp a
  obtain ⟨h2, e2⟩ := List.getElem?_eq_some_iff.mp b
  exact (List.getElem_inj hN).mp (e1.trans e2.symm)
theorem store_ok2 {M : Model} {A : Around} {E : Value → Shared → Prop} {i : Nat} {x : Str} {v : V} {u : Value} {Q : Unit → Shared → Prop} (I : Inv X pins σ H s) (hN : X.N.Nodup) (hi : X.N[i]? = some x) (hx : Loc X.env.scope x) (r : RelV v u)
    (h : ∀ s', Inv X pins (σ.set i (some v)) H s' → (∃ a, Heap.SameBut a s.heap s'.heap ∧ (a = X.env.locals ∨ X.env.cells.lookup x = some a)) → Q () s') (hf : X.fn x = true ∨ X.env.scope.names.lookup x = some .local := by first | exact .inl rfl | exact .inr rfl | assumption) : wpAny M A (storeName X.env x u) Q E s := by
  obtain ⟨m, hn, hl⟩ := id I.loc
  have hcls : (X.env.scope.kind == .class || (X.env.scope.kind == .module && X.env.locals != X.env.globals)) = false := by rw [I.ok.kind]; rfl
  have hiσ : i < σ.length := by rw [I.len]; exact (List.getElem?_eq_some_iff.mp hi).1
  have cne := I.cne
  have tracked : ∀ {a : Addr} {h' : Heap}, (∃ o, s.heap.get? a = some o ∧ H a = none) → Heap.SameBut a s.heap h' → HOk X.prog X.w H h' := fun {a h'} ha hs b ob e => by
    obtain ⟨_, _, hfree⟩ := ha
    refine (I.hok b ob e).stay (fun c w' hc q => (hs.2 c ?_).trans q) (fun _ q => q) fun _ _ q => q
    rintro rfl
    rcases hc with rfl | hc
    · rw [hfree] at e; cases e
    · rw [hfree] at hc; cases hc
  rcases hx with hk | hk
  · refine wpAny_storeName_local hk hn (fun h' hn' hs => ?_) hcls
    obtain ⟨oL, _, _, hoL, _⟩ := id hn
    refine h _ ⟨I.ok, I.os, I.bare, ⟨fun b o e n hb hx => ?_, fun b o e n hb hx => ?_, I.base.free, fun b o e hx => ?_, I.base.tups, I.base.frzs, I.base.tbls⟩, ⟨_, hn', fun j y v' e1 e2 e3 => ?_⟩, fun y c e => ?_, I.free, I.freeC, fun p hp => ?_, tracked ⟨oL, hoL, I.free⟩ hs, by simpa using I.len⟩ ⟨_, hs, .inl rfl⟩
    · exact (hs.2 b (Nat.ne_of_lt (Nat.lt_of_lt_of_le (Heap.lt_size e) I.ok.above))).trans (I.base.keep b o e n hb hx)
    · obtain ⟨sl, e1⟩ := I.base.slot b o e n hb hx
      exact ⟨sl, (hs.2 b (Nat.ne_of_lt (Nat.lt_of_lt_of_le (Heap.lt_size e) I.ok.above))).trans e1⟩
    · obtain ⟨o', e1⟩ := I.base.there b o e hx
      exact ⟨o', (hs.2 b (Nat.ne_of_lt (Nat.lt_of_lt_of_le (Heap.lt_size e) I.ok.above))).trans e1⟩
    · by_cases hj : j = i
      · subst hj
        rw [hi] at e1; cases e1
        rw [List.getElem?_set_self hiσ] at e2
        cases e2
        exact ⟨u, r, .inl ⟨hk, by simp⟩⟩
      · rw [List.getElem?_set_ne (Ne.symm hj)] at e2
        obtain ⟨u', r', q⟩ := hl j y v' e1 e2 e3
        refine ⟨u', r', ?_⟩
        rcases q with ⟨k, e⟩ | ⟨k, c, e, z⟩
        · refine .inl ⟨k, ?_⟩
          have : y ≠ x := fun e => hj (nodup_ix hN e1 (e ▸ hi))
          simp [this, e]
        · exact .inr ⟨k, c, e, z.sameBut hs (cne y c e)⟩
    · obtain ⟨w', z⟩ := I.cell y c e
      exact ⟨w', z.sameBut hs (cne y c e)⟩
    · obtain ⟨e, n, ne, nf, d⟩ := I.pin p hp
      exact ⟨(hs.2 p.1 ne).trans e, n, ne, nf, d⟩
  · have hfn : X.fn x = true := by
      rcases hf with z | z
      · exact z
      · rw [z] at hk; cases hk
    obtain ⟨c, hc⟩ := I.ok.has x (.inl hk)
    obtain ⟨w', z⟩ := I.cell x c hc
    refine wpAny_storeName_cell I.ok.kind hk hc z (fun h' hc' hs => ?_)
    obtain ⟨oc, hoc, hocd⟩ := id z
    refine h { s with heap := h' } ⟨I.ok, I.os, I.bare, ⟨fun b o e n hb hx => ?_, fun b o e n hb hx => ?_, I.base.free, fun b o e hx => ?_, I.base.tups, I.base.frzs, I.base.tbls⟩, ⟨m, hn.sameBut hs (Ne.symm (cne x c hc)), fun j y v' e1 e2 e3 => ?_⟩, fun y c' e => ?_, I.free, I.freeC, fun p hp => ?_, tracked ⟨oc, hoc, I.freeC x c hc⟩ hs, by simpa using I.len⟩ ⟨c, hs, .inr hc⟩
    · exact (hs.2 b (Nat.ne_of_lt (Nat.lt_of_lt_of_le (Heap.lt_size e) (I.ok.cab x c hfn hc)))).trans (I.base.keep b o e n hb hx)
    · obtain ⟨sl, e1⟩ := I.base.slot b o e n hb hx
      exact ⟨sl, (hs.2 b (Nat.ne_of_lt (Nat.lt_of_lt_of_le (Heap.lt_size e) (I.ok.cab x c hfn hc)))).trans e1⟩
    · obtain ⟨o', e1⟩ := I.base.there b o e hx
      exact ⟨o', (hs.2 b (Nat.ne_of_lt (Nat.lt_of_lt_of_le (Heap.lt_size e) (I.ok.cab x c hfn hc)))).trans e1⟩
    · by_cases hj : j = i
      · subst hj
        rw [hi] at e1; cases e1
        rw [List.getElem?_set_self hiσ] at e2
        cases e2
        exact ⟨u, r, .inr ⟨.inl hk, c, hc, hc'⟩⟩
      · rw [List.getElem?_set_ne (Ne.symm hj)] at e2
        obtain ⟨u', r', q⟩ := hl j y v' e1 e2 e3
        refine ⟨u', r', ?_⟩
        rcases q with q | ⟨k, c', e, z'⟩
        · exact .inl q
        · refine .inr ⟨k, c', e, z'.sameBut hs ?_⟩
          rintro rfl
          exact hj (nodup_ix hN e1 (I.ok.inj _ _ _ e hc ▸ hi))
    · by_cases hcc : c' = c
      · subst hcc; exact ⟨_, hc'⟩
      · obtain ⟨w2, z2⟩ := I.cell y c' e
        exact ⟨w2, z2.sameBut hs hcc⟩
    · obtain ⟨e, n, ne, nf, d⟩ := I.pin p hp
      refine ⟨(hs.2 p.1 ?_).trans e, n, ne, nf, d⟩
      intro q
      rw [q, hoc] at e
      have q' : oc = p.2 := Option.some.inj e
      exact d w' (by rw [← q']; exact hocd)
theorem store_ok {M : Model} {A : Around} {E : Value → Shared → Prop} {i : Nat} {x : Str} {v : V} {u : Value} {Q : Unit → Shared → Prop} (I : Inv X pins σ H s) (hN : X.N.Nodup) (hi : X.N[i]? = some x) (hx : Loc X.env.scope x) (r : RelV v u)
    (h : ∀ s', Inv X pins (σ.set i (some v)) H s' → Q () s') (hf : X.fn x = true ∨ X.env.scope.names.lookup x = some .local := by first | exact .inl rfl | exact .inr rfl | assumption) : wpAny M A (storeName X.env x u) Q E s :=
  store_ok2 I hN hi hx r (fun s' I' _ => h s' I') hf
theorem Inv.call' {s' : Shared} {ch : List Addr} (I : Inv X pins σ H s) (ho : s'.os = s.os) (u : Un (frs X.stack) ch H H' s.heap s'.heap) (hok : HOk X.prog X.w H' s'.heap) (hg : AllBare s'.gens)
    (hch : ∀ b ∈ ch, (b ∈ X.ex ∨ X.s₀.heap.objs.size ≤ b) ∧ b ≠ X.env.locals ∧ (∀ x c, X.env.cells.lookup x = some c → c ≠ b) ∧ ∀ p ∈ X.pn ++ pins, p.1 ≠ b) : Inv X pins σ H' s' := by
  obtain ⟨h', g', d', t', o'⟩ := s'
  have e : o' = s.os := ho
  subst e
  exact I.call (g' := g') (t' := t') (d' := d') u hok hg hch
end
noncomputable abbrev XK := Value → Option Addr → Hp → Prop
noncomputable abbrev St := List (Option V)
noncomputable abbrev VK := V → Hp → Prop
noncomputable abbrev TE := St → Hp → VK → Prop
noncomputable abbrev TT := St → Hp → (Bool → Hp → Prop) → Prop
noncomputable abbrev TA := St → Hp → (List V → Hp → Prop) → Prop
structure Ends where
  nx : St → Hp → Prop
  rt : VK
  bk : St → Hp → Prop := fun _ _ => False
  ct : St → Hp → Prop := fun _ _ => False
noncomputable abbrev TS := Ends → St → Hp → Prop
noncomputable def EP (X : Cx) (pins : List (Addr × Obj)) (σ : St) (Q : VK) (u : Value) (s' : Shared) : Prop := ∃ v H', Inv X pins σ H' s' ∧ RelV v u ∧ Q v H'
noncomputable def TP (X : Cx) (pins : List (Addr × Obj)) (σ : St) (Q : Bool → Hp → Prop) (b : Bool) (s' : Shared) : Prop := ∃ H', Inv X pins σ H' s' ∧ Q b H'
noncomputable def AP (X : Cx) (pins : List (Addr × Obj)) (σ : St) (Q : List V → Hp → Prop) (us : List Value) (s' : Shared) : Prop := ∃ vs H', Inv X pins σ H' s' ∧ Vals vs us ∧ Q vs H'
noncomputable def SP (X : Cx) (pins : List (Addr × Obj)) (D : Ends) (f : Flow) (s' : Shared) : Prop :=
  match f with
  | .next => ∃ σ' H', Inv X pins σ' H' s' ∧ D.nx σ' H'
  | .brk => ∃ σ' H', Inv X pins σ' H' s' ∧ D.bk σ' H'
  | .cont => ∃ σ' H', Inv X pins σ' H' s' ∧ D.ct σ' H'
  | .ret u => ∃ v σ' H', Inv X pins σ' H' s' ∧ RelV v u ∧ D.rt v H'
noncomputable def PE (X : Cx) (e : Expr) (t : TE) : Prop :=
  ∀ (pins : List (Addr × Obj)) (s : Shared) (σ : St) (H : Hp) (Q : VK), Inv X pins σ H s → t σ H Q → wpAny (model X.prog X.w) X.A (eval e X.env) (EP X pins σ Q) X.xe s
noncomputable def PT (X : Cx) (e : Expr) (t : TT) : Prop :=
  ∀ (pins : List (Addr × Obj)) (s : Shared) (σ : St) (H : Hp) (Q : Bool → Hp → Prop), Inv X pins σ H s → t σ H Q → wpAny (model X.prog X.w) X.A (isTrue e X.env (eval e X.env)) (TP X pins σ Q) X.xe s
noncomputable def PW (X : Cx) (e : Expr) (t : TT) : Prop :=
  ∀ (whole : Sem Value) (pins : List (Addr × Obj)) (s : Shared) (σ : St) (H : Hp) (Q : Bool → Hp → Prop), Inv X pins σ H s → t σ H Q → wpAny (model X.prog X.w) X.A (isTrue e X.env whole) (TP X pins σ Q) X.xe s
theorem PW.pt {X : Cx} {e : Expr} {t : TT} (h : PW X e t) : PT X e t := h _
noncomputable def PA (X : Cx) (es : List Expr) (t : TA) : Prop :=
  ∀ (pos : Pos) (pins : List (Addr × Obj)) (s : Shared) (σ : St) (H : Hp) (Q : List V → Hp → Prop), Inv X pins σ H s → t σ H Q → wpAny (model X.prog X.w) X.A (spliced (backTo pos (starEach es X.env))) (AP X pins σ Q) X.xe s
noncomputable def PS (X : Cx) (st : Stmt) (t : TS) : Prop :=
  ∀ (pins : List (Addr × Obj)) (s : Shared) (σ : St) (H : Hp) (D : Ends), Inv X pins σ H s → t D σ H → wpAny (model X.prog X.w) X.A (exec st X.env) (SP X pins D) X.xe s
noncomputable def PSs (X : Cx) (st : List Stmt) (t : TS) : Prop :=
  ∀ (pins : List (Addr × Obj)) (s : Shared) (σ : St) (H : Hp) (D : Ends), Inv X pins σ H s → t D σ H → wpAny (model X.prog X.w) X.A (execs st X.env) (SP X pins D) X.xe s
theorem thn {α : Type} {t : Sem α} {Q Q' : α → Shared → Prop} {M : Model} {A : Around} {E : Value → Shared → Prop} {s : Shared} (h : wpAny M A t Q E s) (hQ : ∀ a s, Q a s → Q' a s) : wpAny M A t Q' E s := wpAny_mono h hQ fun _ _ x => x
end L2
namespace L2
open PySem PySem.Spec PyProof.Rows
section
variable {X : Cx}
noncomputable def tVar (i : Nat) : TE := fun σ H Q => ∃ v, σ[i]? = some (some v) ∧ Q v H
noncomputable def tC (v : V) : TE := fun _ H Q => Q v H
theorem pe_var {i : Nat} {x : Str} {pos : Pos} (hN : X.N[i]? = some x) (hv : Vis X.env.scope x) (hd : (x == ("__debug__" : Str)) = false := by decide) (hcd : (x == ("__classdict__" : Str)) = false := by decide) : PE X (.Name x pos) (tVar i) := by
  intro pins s σ H Q I h
  obtain ⟨v, e, h⟩ := h
  obtain ⟨m, hn, hl⟩ := I.loc
  obtain ⟨u, r, l⟩ := hl i x v hN e hv
  have fin : EP X pins σ Q u s := ⟨v, H, I, r, h⟩
  rcases l with ⟨hk, hm⟩ | ⟨hk, c, hc, hcell⟩
  · exact wpAny_Name (wpAny_loadName_local I.ok.kind hk hn hm fin) hd
  · rcases hk with hk | hk
    · exact wpAny_Name (wpAny_loadName_cell I.ok.kind hk hc hcell fin) hd
    · exact wpAny_Name (wpAny_loadName_free I.ok.kind hk hc hcell fin hcd) hd
theorem pe_int {i j pos} : PE X (.Constant (.int i) j pos) (tC (.int i)) := fun _ _ _ H _ I h => wpAny_Constant_int ⟨.int i, H, I.tok _, ⟨_, rfl⟩, h⟩
theorem pe_bl {b j pos} : PE X (.Constant (.bool b) j pos) (tC (.bl b)) := fun _ _ _ H _ I h => Constant_bool ⟨.bl b, H, I, rfl, h⟩
theorem pe_non {j pos} : PE X (.Constant .none j pos) (tC .non) := fun _ _ _ H _ I h => Constant_none ⟨.non, H, I, rfl, h⟩
theorem pe_str {x j pos} : PE X (.Constant (.str x) j pos) (tC (.str x)) := fun _ _ _ H _ I h => Calls.Constant_str ⟨.str x, H, I.tok _, ⟨_, rfl⟩, h⟩
noncomputable def Gl (X : Cx) (x : Str) : Prop := X.env.kindOf x = some .globalImplicit
theorem ld_glob {E : Value → Shared → Prop} {pins : List (Addr × Obj)} {s : Shared} {σ : St} {H : Hp} {x : Str} {u : Value} {pos : Pos} {Q : Value → Shared → Prop} (I : Inv X pins σ H s) (hg : Gl X x) (hm : X.mg x = some u) (h : Q u s)
    (hd : (x == ("__debug__" : Str)) = false := by decide) : wpAny (model X.prog X.w) X.A (eval (.Name x pos) X.env) Q E s :=
  Calls.Name_function_global I.ok.kind hg (Calls.loadGlobal_global (by rw [I.ok.glob]; exact I.mod.glob.keeps I.bk) hm h) hd
theorem ld_blt {E : Value → Shared → Prop} {pins : List (Addr × Obj)} {s : Shared} {σ : St} {H : Hp} {x : Str} {u : Value} {pos : Pos} {Q : Value → Shared → Prop} (I : Inv X pins σ H s) (hg : Gl X x) (hm : X.mg x = none) (hv : bootBuiltins x = some u) (h : Q u s)
    (hn : x ≠ "__name__" := by decide) (hd : (x == ("__debug__" : Str)) = false := by decide) : wpAny (model X.prog X.w) X.A (eval (.Name x pos) X.env) Q E s := by
  obtain ⟨mb, h1, h2⟩ := I.mod.blt
  exact Calls.Name_function_global I.ok.kind hg (Calls.loadGlobal_builtin (by rw [I.ok.glob]; exact I.mod.glob.keeps I.bk) hm (by rw [I.ok.blt]; exact h1.keeps I.bk) ((h2 x hn).trans hv) h) hd
theorem pe_glob {x : Str} {v : V} {u : Value} {pos : Pos} (hg : Gl X x) (hm : X.mg x = some u) (r : RelV v u) (hd : (x == ("__debug__" : Str)) = false := by decide) : PE X (.Name x pos) (tC v) :=
  fun _ _ _ H _ I h => ld_glob I hg hm ⟨v, H, I, r, h⟩ hd
theorem pe_bltn {x : Str} {v : V} {u : Value} {pos : Pos} (hg : Gl X x) (hm : X.mg x = none) (hv : bootBuiltins x = some u) (r : RelV v u) (hn : x ≠ "__name__" := by decide) (hd : (x == ("__debug__" : Str)) = false := by decide) : PE X (.Name x pos) (tC v) :=
  fun _ _ _ H _ I h => ld_blt I hg hm hv ⟨v, H, I, r, h⟩ hn hd
variable {a b : Expr} {ta tb : TE} {pos : Pos}
noncomputable def PC (X : Cx) (op : CmpOp) (a b : Expr) (t : TE) : Prop :=
  ∀ (pins : List (Addr × Obj)) (s : Shared) (σ : St) (H : Hp) (Q : VK), Inv X pins σ H s → t σ H Q →
    wpAny (model X.prog X.w) X.A (eval a X.env) (fun v s₁ => wpAny (model X.prog X.w) X.A (eval b X.env) (fun u s₂ => wpAny (model X.prog X.w) X.A (compareOp op v u) (EP X pins σ Q) X.xe s₂) X.xe s₁) X.xe s
noncomputable def tB (t : TE) : TT := fun σ H Q => t σ H fun x H1 => ∃ c, x = .bl c ∧ Q c H1
theorem pt_cmp {op : CmpOp} {t : TE} (h : PC X op a b t) (h1 : behindInMarks op b = false := by first | exact nobehind _ (by decide) (by decide) | rfl) : PT X (.Compare a [op] [b] pos) (tB t) := by
  intro pins s σ H Q I hw
  refine wpAny_isTrue_Compare1 (thn (h pins s σ H _ I hw) fun v s1 h1 => thn h1 fun u s2 h2 => thn h2 fun c s3 ⟨x, H1, I1, r1, q1⟩ => ?_) h1
  obtain ⟨d, rfl, q⟩ := q1
  cases r1
  exact wpAny_truthy_bool ⟨H1, I1, q⟩
variable {tA tB' : TT} {rest : List Expr}
noncomputable def tAnd (t u : TT) : TT := fun σ H Q => t σ H fun c H1 => if c = true then u σ H1 Q else Q false H1
noncomputable def tOr (t u : TT) : TT := fun σ H Q => t σ H fun c H1 => if c = true then Q true H1 else u σ H1 Q
noncomputable def tNot (t : TT) : TT := fun σ H Q => t σ H fun c H1 => Q (!c) H1
theorem pw_and1 (ha : PT X a tA) : PW X (.BoolOp .And [a] pos) tA := by
  intro wh pins s σ H Q I h
  refine isTrue_and (thn (ha pins s σ H Q I h) fun c s1 e => ?_)
  cases c with
  | true => exact isTrue_and_nil e
  | false => exact e
theorem pw_or1 (ha : PT X a tA) : PW X (.BoolOp .Or [a] pos) tA := by
  intro wh pins s σ H Q I h
  refine isTrue_or (thn (ha pins s σ H Q I h) fun c s1 e => ?_)
  cases c with
  | false => exact isTrue_or_nil e
  | true => exact e
theorem pw_and (ha : PT X a tA) (hb : PW X (.BoolOp .And (b :: rest) pos) tB') : PW X (.BoolOp .And (a :: b :: rest) pos) (tAnd tA tB') := by
  intro wh pins s σ H Q I h
  refine isTrue_and (thn (ha pins s σ H _ I h) fun c s1 ⟨H1, I1, q1⟩ => ?_)
  cases c with
  | true => exact hb wh pins s1 σ H1 Q I1 q1
  | false => exact ⟨H1, I1, q1⟩
theorem pw_or (ha : PT X a tA) (hb : PW X (.BoolOp .Or (b :: rest) pos) tB') : PW X (.BoolOp .Or (a :: b :: rest) pos) (tOr tA tB') := by
  intro wh pins s σ H Q I h
  refine isTrue_or (thn (ha pins s σ H _ I h) fun c s1 ⟨H1, I1, q1⟩ => ?_)
  cases c with
  | true => exact ⟨H1, I1, q1⟩
  | false => exact hb wh pins s1 σ H1 Q I1 q1
theorem pt_not (ha : PT X a tA) : PT X (.UnaryOp .Not a pos) (tNot tA) := by
  intro pins s σ H Q I h
  exact isTrue_not (ha pins s σ H (fun c H1 => Q (!c) H1) I h)
theorem pe_one {op} {t : TE} (h : PE X a t) : PE X (.BoolOp op [a] pos) t := fun pins s σ H Q I hw => BoolOp_one (h pins s σ H Q I hw)
noncomputable def tIf (t : TT) (ta tb : TE) : TE := fun σ H Q => t σ H fun c H1 => if c = true then ta σ H1 Q else tb σ H1 Q
theorem pe_ifExp {c : Expr} (hc : PT X c tA) (ha : PE X a ta) (hb : PE X b tb) : PE X (.IfExp c a b pos) (tIf tA ta tb) := by
  intro pins s σ H Q I h
  refine wpAny_IfExp (thn (hc pins s σ H _ I h) fun d s1 ⟨H1, I1, q1⟩ => ?_)
  cases d with
  | true => exact ha pins s1 σ H1 Q I1 q1
  | false => exact hb pins s1 σ H1 Q I1 q1
end
end L2
namespace L2
open PySem PySem.Spec PyProof.Rows
noncomputable def SqL (K : PySem.W.Frag) (H : Hp) (a : Addr) (xs : List V) : Prop :=
  Rd H a (.lst xs) ∨
    ∃ (o : Obj) (its : Array Value) (n : Nat), K.lookup a = some o ∧ o.cls = .type "list" ∧ o.dict = none ∧ o.data = .seq its n ∧ its.size ≤ sizeLine ∧ Vals xs its.toList
noncomputable def SqT (K : PySem.W.Frag) (H : Hp) (a : Addr) (xs : List V) : Prop :=
  Rd H a (.tup xs) ∨
    ∃ (o : Obj) (its : Array Value) (n : Nat), K.lookup a = some o ∧ o.cls = .type "tuple" ∧ o.data = .seq its n ∧ its.size ≤ sizeLine ∧ Vals xs its.toList
noncomputable def absV : Value → Option V
  | .none => some .non
  | .bool b => some (.bl b)
  | .int i _ => some (.int i)
  | .str x _ => some (.str x)
  | .bytes b _ => some (.byt b)
  | .float b _ => some (.flt b)
  | .ref a => some (.ref a)
  | .type n => some (.ty n)
  | _ => none
theorem RelV.abs {x : V} {u : Value} (r : RelV x u) : absV u = some x := by
  cases x with
  | non => cases r; rfl
  | bl _ => cases r; rfl
  | int _ => obtain ⟨t, rfl⟩ := r; rfl
  | str _ => obtain ⟨t, rfl⟩ := r; rfl
  | byt _ => obtain ⟨t, rfl⟩ := r; rfl
  | flt _ => obtain ⟨t, rfl⟩ := r; rfl
  | ref _ => cases r; rfl
  | ty _ => cases r; rfl
theorem RelV.inj {x y : V} {u : Value} (r : RelV x u) (q : RelV y u) : x = y := Option.some.inj (r.abs.symm.trans q.abs)
theorem Vals.inj : ∀ {xs ys : List V} {us : List Value}, Vals xs us → Vals ys us → xs = ys
  | _, _, _, .nil, .nil => rfl
  | _, _, _, .cons r t, .cons r' t' => by rw [r.inj r', Vals.inj t t']
section
variable {X : Cx} {pins : List (Addr × Obj)} {σ : St} {H : Hp} {s : Shared} {a : Addr} {xs ys : List V}
theorem SqL.of {K : PySem.W.Frag} (h : H a = some (.lst xs)) : SqL K H a xs := .inl (.inl h)
theorem SqT.of {K : PySem.W.Frag} (h : H a = some (.tup xs)) : SqT K H a xs := .inl (.inl h)
theorem Inv.list (I : Inv X pins σ H s) (h : SqL X.K H a xs) : ∃ its : List Value, Vals xs its ∧ PlainL s.heap a its.toArray ∧ xs.length ≤ sizeLine := by
  rcases h with h | ⟨o, its, n, hk, hc, hd, hs, hz, r⟩
  · obtain ⟨z, its, n, r, e⟩ := h.ok I.hok
    exact ⟨its, r, ⟨_, n, e, rfl, rfl, rfl⟩, z⟩
  · refine ⟨its.toList, r, ⟨o, n, I.kIn a o hk, hc, hd, by simpa using hs⟩, ?_⟩
    have e := r.length
    simp only [Array.length_toList] at e
    lia
theorem Inv.tuple (I : Inv X pins σ H s) (h : SqT X.K H a xs) : ∃ its : List Value, Vals xs its ∧ IsTup s.heap a its.toArray ∧ xs.length ≤ sizeLine := by
  rcases h with h | ⟨o, its, n, hk, hc, hs, hz, r⟩
  · obtain ⟨z, its, r, p⟩ := h.ok I.hok
    exact ⟨its, r, p, z⟩
  · refine ⟨its.toList, r, ⟨o, I.kIn a o hk, hc, n, by simpa using hs⟩, ?_⟩
    have e := r.length
    simp only [Array.length_toList] at e
    lia
theorem Inv.list_inj (I : Inv X pins σ H s) (h : SqL X.K H a xs) (h' : SqL X.K H a ys) : xs = ys := by
  obtain ⟨its, r, ⟨o, n, e, _, _, d⟩, _⟩ := I.list h
  obtain ⟨its', r', ⟨o', n', e', _, _, d'⟩, _⟩ := I.list h'
  rw [e] at e'; cases e'
  rw [d] at d'
  injection d' with d1 _
  have : its = its' := by simpa using congrArg Array.toList d1
  subst this
  exact r.inj r'
theorem Inv.tuple_inj (I : Inv X pins σ H s) (h : SqT X.K H a xs) (h' : SqT X.K H a ys) : xs = ys := by
  obtain ⟨its, r, ⟨o, e, _, n, d⟩, _⟩ := I.tuple h
  obtain ⟨its', r', ⟨o', e', _, n', d'⟩, _⟩ := I.tuple h'
  rw [e] at e'; cases e'
  rw [d] at d'
  injection d' with d1 _
  have : its = its' := by simpa using congrArg Array.toList d1
  subst this
  exact r.inj r'
end
noncomputable abbrev Cx.wish (X : Cx) (E : Value → Shared → Prop) : Cx := { X with xe := E }
noncomputable abbrev Cx.nox (X : Cx) : Cx := X.wish fun _ _ => False
theorem Cx.Ok.wish {X : Cx} (ok : X.Ok) (E : Value → Shared → Prop) : (X.wish E).Ok :=
  ⟨ok.mod, ok.kind, ok.glob, ok.blt, ok.above, ok.inj, ok.has, ok.cab, ok.hd, ok.frames, ok.stk, ok.exf, ok.bs, ok.bsz, ok.noex, ok.exfs, ok.funs, ok.frf⟩
theorem Cx.Ok.unwish {X : Cx} {E : Value → Shared → Prop} (ok : (X.wish E).Ok) : X.Ok :=
  ⟨ok.mod, ok.kind, ok.glob, ok.blt, ok.above, ok.inj, ok.has, ok.cab, ok.hd, ok.frames, ok.stk, ok.exf, ok.bs, ok.bsz, ok.noex, ok.exfs, ok.funs, ok.frf⟩
section
variable {X : Cx} {pins : List (Addr × Obj)} {σ : St} {H : Hp} {s : Shared} {E : Value → Shared → Prop}
theorem Inv.wish (I : Inv X pins σ H s) (E : Value → Shared → Prop) : Inv (X.wish E) pins σ H s := ⟨I.ok.wish E, I.os, I.bare, I.base, I.loc, I.cell, I.free, I.freeC, I.pin, I.hok, I.len⟩
theorem Inv.unwish (I : Inv (X.wish E) pins σ H s) : Inv X pins σ H s := ⟨I.ok.unwish, I.os, I.bare, I.base, I.loc, I.cell, I.free, I.freeC, I.pin, I.hok, I.len⟩
theorem SP.unwish {D : Ends} {f : Flow} {s' : Shared} (h : SP (X.wish E) pins D f s') : SP X pins D f s' := by
  cases f with
  | next => obtain ⟨σ', H', I, q⟩ := h; exact ⟨σ', H', I.unwish, q⟩
  | brk => obtain ⟨σ', H', I, q⟩ := h; exact ⟨σ', H', I.unwish, q⟩
  | cont => obtain ⟨σ', H', I, q⟩ := h; exact ⟨σ', H', I.unwish, q⟩
  | ret u => obtain ⟨v, σ', H', I, r, q⟩ := h; exact ⟨v, σ', H', I.unwish, r, q⟩
theorem PSs.nox {st : List Stmt} {t : TS} (h : PSs X.nox st t) : PSs X st t := fun pins s σ H D I hw =>
  wpAny_mono (h pins s σ H D (I.wish _) hw) (fun _ _ q => q.unwish) fun _ _ z => False.elim z
end
section
variable {X : Cx} {st : Stmt} {rest : List Stmt} {t u : TS} {e : Expr} {te : TE} {pos : Pos}
noncomputable def tNext : TS := fun D σ H => D.nx σ H
noncomputable def tSeq (t u : TS) : TS := fun D σ H => t { D with nx := u D } σ H
theorem pss_nil : PSs X [] tNext := fun _ _ σ H _ I h => wpAny_execs_nil ⟨σ, H, I, h⟩
theorem pss_cons (h1 : PS X st t) (h2 : PSs X rest u) : PSs X (st :: rest) (tSeq t u) := by
  intro pins s σ H D I h
  refine wpAny_execs_cons (thn (h1 pins s σ H { D with nx := u D } I h) fun f s1 q => ?_)
  cases f with
  | next =>
    obtain ⟨σ', H', I', q⟩ := q
    exact h2 pins s1 σ' H' D I' q
  | ret v => exact q
  | brk => exact q
  | cont => exact q
theorem pss_one (h1 : PS X st t) : PSs X [st] t := by
  intro pins s σ H D I h
  refine wpAny_execs_cons (thn (h1 pins s σ H D I h) fun f s1 q => ?_)
  cases f with
  | next => exact wpAny_execs_nil q
  | ret v => exact q
  | brk => exact q
  | cont => exact q
noncomputable def tBreak : TS := fun D σ H => D.bk σ H
theorem ps_break : PS X (.Break pos) tBreak := fun _ _ σ H _ I h => wpAny_Break ⟨σ, H, I, h⟩
theorem Inv.quiet {pins : List (Addr × Obj)} {σ : St} {H : Hp} {s : Shared} (I : Inv X pins σ H s) : interactive X.env = false := by simp [interactive, I.ok.kind]
noncomputable def tDrop (te : TE) : TS := fun D σ H => te σ H fun _ H1 => D.nx σ H1
theorem ps_expr (he : PE X e te) (hs : swapsWith e none pos.line X.env = pure false := by rfl) : PS X (.Expr e pos) (tDrop te) := by
  intro pins s σ H D I h
  exact wpAny_Expr_any (thn (he pins s σ H _ I h) fun v s1 ⟨x, H1, I1, r1, q1⟩ => ⟨σ, H1, I1, q1⟩) I.quiet hs
noncomputable def tRet (te : TE) : TS := fun D σ H => te σ H D.rt
theorem ps_ret (he : PE X e te) : PS X (.Return (some e) pos) (tRet te) := by
  intro pins s σ H D I h
  exact wpAny_Return_some (thn (he pins s σ H _ I h) fun v s1 ⟨x, H1, I1, r1, q1⟩ => ⟨x, σ, H1, I1, r1, q1⟩)
noncomputable def tIfS (c : TT) (t u : TS) : TS := fun D σ H => c σ H fun b H1 => if b = true then t D σ H1 else u D σ H1
theorem ps_if {c : Expr} {a b : List Stmt} {tc : TT} (hc : PT X c tc) (ha : PSs X a t) (hb : PSs X b u) : PS X (.If c a b pos) (tIfS tc t u) := by
  intro pins s σ H D I h
  refine wpAny_If (thn (hc pins s σ H _ I h) fun d s1 ⟨H1, I1, q1⟩ => ?_)
  cases d with
  | true => exact ha pins s1 σ H1 D I1 q1
  | false => exact hb pins s1 σ H1 D I1 q1
noncomputable def tNever : TS := fun _ _ _ => False
theorem ps_never : PS X st tNever := fun _ _ _ _ _ _ h => h.elim
end
noncomputable abbrev TG := V → St → Hp → (St → Hp → Prop) → Prop
noncomputable abbrev TGs := List V → St → Hp → (St → Hp → Prop) → Prop
noncomputable def PG (X : Cx) (target : Expr) (t : TG) : Prop :=
  ∀ (pins : List (Addr × Obj)) (s : Shared) (σ : St) (H : Hp) (v : V) (u : Value) (Q : St → Hp → Prop), Inv X pins σ H s → RelV v u → t v σ H Q →
    wpAny (model X.prog X.w) X.A (assign target X.env u) (fun _ s' => ∃ σ' H', Inv X pins σ' H' s' ∧ Q σ' H') X.xe s
noncomputable def PGs (X : Cx) (ts : List Expr) (t : TGs) : Prop :=
  ∀ (pins : List (Addr × Obj)) (s : Shared) (σ : St) (H : Hp) (vs : List V) (us : List Value) (Q : St → Hp → Prop), Inv X pins σ H s → Vals vs us → t vs σ H Q →
    wpAny (model X.prog X.w) X.A (assignInOrder ((assignEach ts X.env).map (·.2)) us) (fun _ s' => ∃ σ' H', Inv X pins σ' H' s' ∧ Q σ' H') X.xe s
noncomputable abbrev TSet := V → V → V → Hp → (Hp → Prop) → Prop
noncomputable def PSet (X : Cx) (t : TSet) : Prop :=
  ∀ (pins : List (Addr × Obj)) (s : Shared) (σ : St) (H : Hp) (o i v : V) (ov iv u : Value) (Q : Hp → Prop), Inv X pins σ H s → RelV o ov → RelV i iv → RelV v u → t o i v H Q →
    wpAny (model X.prog X.w) X.A (setItem ov iv u) (fun _ s' => ∃ H', Inv X pins σ H' s' ∧ Q H') X.xe s
noncomputable abbrev TIp := V → V → Hp → VK → Prop
noncomputable def PIp (X : Cx) (op : Operator) (t : TIp) : Prop :=
  ∀ (pins : List (Addr × Obj)) (s : Shared) (σ : St) (H : Hp) (x y : V) (v u : Value) (Q : VK), Inv X pins σ H s → RelV x v → RelV y u → t x y H Q →
    wpAny (model X.prog X.w) X.A (inplaceOp op v u) (EP X pins σ Q) X.xe s
section
variable {X : Cx} {pos : Pos}
noncomputable def gName (i : Nat) : TG := fun v σ H Q => Q (σ.set i (some v)) H
theorem pg_name {i : Nat} {x : Str} (hN : X.N.Nodup) (hi : X.N[i]? = some x) (hx : Loc X.env.scope x) (hf : X.fn x = true ∨ X.env.scope.names.lookup x = some .local := by first | exact .inl rfl | exact .inr rfl | assumption) : PG X (.Name x pos) (gName i) := by
  intro pins s σ H v u Q I r h
  exact wpAny_assign_Name (store_ok I hN hi hx r (fun s' I' => ⟨_, H, I', h⟩) hf)
noncomputable def gNil : TGs := fun vs σ H Q => vs = [] ∧ Q σ H
inductive gCons (t : TG) (u : TGs) (vs : List V) (σ : St) (H : Hp) (Q : St → Hp → Prop) : Prop
  | mk (v : V) (r : List V) (h0 : vs = v :: r) (h1 : t v σ H fun σ' H' => u r σ' H' Q) : gCons t u vs σ H Q
theorem pgs_nil : PGs X [] gNil := by
  intro pins s σ H vs us Q I r h
  obtain ⟨e, h⟩ := h
  subst e
  cases r
  exact assignInOrder_nil ⟨σ, H, I, h⟩
theorem pgs_cons {e : Expr} {es : List Expr} {t : TG} {u : TGs} (h1 : PG X e t) (h2 : PGs X es u)
    (hs : (assignEach (e :: es) X.env).map (·.2) = assign e X.env :: (assignEach es X.env).map (·.2) := by rfl) : PGs X (e :: es) (gCons t u) := by
  intro pins s σ H vs us Q I r h
  obtain ⟨v, vr, e1, h⟩ := h
  subst e1
  cases r with
  | cons r rr =>
    rw [hs]
    refine assignInOrder_cons (thn (h1 pins s σ H _ _ _ I r h) fun _ s1 ⟨σ1, H1, I1, q1⟩ => ?_)
    exact h2 pins s1 σ1 H1 _ _ Q I1 rr q1
inductive gTup (K : PySem.W.Frag) (n : Nat) (t : TGs) (v : V) (σ : St) (H : Hp) (Q : St → Hp → Prop) : Prop
  | mk (a : Addr) (xs : List V) (h0 : v = .ref a) (h1 : SqT K H a xs) (h2 : xs.length = n) (h3 : t xs σ H Q) : gTup K n t v σ H Q
theorem pg_tup {es : List Expr} {k : Nat} {t : TGs} {n : Nat} (hc : X.calm = true) (h : PGs X es t)
    (hn : (assignEach es X.env).length = n := by rfl) (hst : (assignEach es X.env).findIdx? (·.1) = none := by rfl) : PG X (.Tuple es k pos) (gTup X.K n t) := by
  intro pins s σ H v u Q I r hw
  obtain ⟨a, xs, e1, hq, hl, hw⟩ := hw
  subst e1
  cases r
  obtain ⟨its, rv, ht, hz⟩ := I.tuple hq
  refine assign_Tuple_tuple (I.ok.hd hc) ht (by simp [hn, ← hl, rv.length]) hst fun h' hx => ?_
  have I1 : Inv X pins σ H { s with heap := h' } := I.kept (t' := s.toks) fun b o e => hx b o (Nat.ne_of_lt (Heap.lt_size e)) e
  exact h pins _ σ H xs _ Q I1 (by simpa using rv) hw
noncomputable def gSub (to ti : TE) (t : TSet) : TG := fun v σ H Q => to σ H fun o H1 => ti σ H1 fun i H2 => t o i v H2 fun H3 => Q σ H3
theorem pg_sub {o i : Expr} {to ti : TE} {t : TSet} (ho : PE X o to) (hi : PE X i ti) (hs : PSet X t)
    (ha : ∀ v, assign (.Subscript o i pos) X.env v = (do
      let ov ← holding [v] (eval o X.env)
      let iv ← holding [v, ov] (eval i X.env)
      standAt pos
      holding [v, ov, iv] (setItem ov iv v)
      release [v, ov, iv] []) := by intro _; rfl) : PG X (.Subscript o i pos) (gSub to ti t) := by
  intro pins s σ H v u Q I r h
  rw [ha]
  refine wpAny_bind (wpAny_holding (thn (ho pins s σ H _ I h) fun ov s1 ⟨x, H1, I1, r1, q1⟩ => ?_))
  refine wpAny_bind (wpAny_holding (thn (hi pins s1 σ H1 _ I1 q1) fun iv s2 ⟨y, H2, I2, r2, q2⟩ => ?_))
  refine wpAny_bind (wpAny_standAt (wpAny_bind (wpAny_holding (thn (hs pins s2 σ H2 x y v ov iv u _ I2 r1 r2 r q2) fun _ s3 ⟨H3, I3, q3⟩ => ?_))))
  exact wpAny_release ⟨σ, H3, I3, q3⟩
noncomputable def tAsg (te : TE) (g : TG) : TS := fun D σ H => te σ H fun x H1 => g x σ H1 D.nx
theorem ps_asg {tg e : Expr} {te : TE} {g : TG} (he : PE X e te) (hg : PG X tg g) (hs : swapsWithSole [tg] e pos.line X.env = pure false := by rfl) (hw : swappedStores [tg] e X.env = pure none := by rfl)
    (h1 : (assignEach [tg] X.env).map (·.2) = [assign tg X.env] := by rfl) : PS X (.Assign [tg] e pos) (tAsg te g) := by
  intro pins s σ H D I h
  refine wpAny_Assign_stores (thn (he pins s σ H _ I h) fun v s1 ⟨x, H1, I1, r1, q1⟩ => ?_) hs hw
  rw [h1]
  exact thn (hg pins s1 σ H1 x v _ I1 r1 q1) fun _ s2 q => q
theorem ps_set {i : Nat} {x : Str} {e : Expr} {te : TE} {pos' : Pos} (hN : X.N.Nodup) (hi : X.N[i]? = some x) (hx : Loc X.env.scope x) (he : PE X e te) (hs : swapsWith e (some (.Name x pos')) pos.line X.env = pure false := by rfl) (hf : X.fn x = true ∨ X.env.scope.names.lookup x = some .local := by first | exact .inl rfl | exact .inr rfl | assumption) :
    PS X (.Assign [.Name x pos'] e pos) (tAsg te (gName i)) := by
  intro pins s σ H D I h
  refine wpAny_Assign_Name (thn (he pins s σ H _ I h) fun v s1 ⟨y, H1, I1, r1, q1⟩ => ?_) hs
  exact store_ok I1 hN hi hx r1 (fun s2 I2 => ⟨_, H1, I2, q1⟩) hf
noncomputable def tAugS (to ti te : TE) (tget : V → V → Hp → VK → Prop) (tip : TIp) (tset : TSet) : TS := fun D σ H => to σ H fun o H1 => ti σ H1 fun i H2 => tget o i H2 fun x H3 => te σ H3 fun y H4 => tip x y H4 fun z H5 => tset o i z H5 fun H6 => D.nx σ H6
noncomputable def PGet (X : Cx) (t : V → V → Hp → VK → Prop) : Prop :=
  ∀ (pins : List (Addr × Obj)) (s : Shared) (σ : St) (H : Hp) (o i : V) (ov iv : Value) (Q : VK), Inv X pins σ H s → RelV o ov → RelV i iv → t o i H Q →
    wpAny (model X.prog X.w) X.A (getItem ov iv) (EP X pins σ Q) X.xe s
theorem ps_augS {o i e : Expr} {to ti te : TE} {tget : V → V → Hp → VK → Prop} {tip : TIp} {tset : TSet} {op : Operator} {tpos : Pos} (ho : PE X o to) (hi : PE X i ti) (hg : PGet X tget) (he : PE X e te) (hp : PIp X op tip) (hs : PSet X tset)
    (ha : ∀ ov iv new, augStore i ov iv new = (do holding [new, ov, iv] (setItem ov iv new); release [new, ov, iv] []; pure .next) := by intros; rfl) : PS X (.AugAssign (.Subscript o i tpos) op e pos) (tAugS to ti te tget tip tset) := by
  intro pins s σ H D I h
  refine wpAny_AugAssign_SubscriptAny (thn (ho pins s σ H _ I h) fun ov s1 ⟨x1, H1, I1, r1, q1⟩ => ?_) ha
  refine thn (hi pins s1 σ H1 _ I1 q1) fun iv s2 ⟨x2, H2, I2, r2, q2⟩ => ?_
  refine thn (hg pins s2 σ H2 x1 x2 ov iv _ I2 r1 r2 q2) fun old s3 ⟨x3, H3, I3, r3, q3⟩ => ?_
  refine thn (he pins s3 σ H3 _ I3 q3) fun v s4 ⟨x4, H4, I4, r4, q4⟩ => ?_
  refine thn (hp pins s4 σ H4 x3 x4 old v _ I4 r3 r4 q4) fun new s5 ⟨x5, H5, I5, r5, q5⟩ => ?_
  exact thn (hs pins s5 σ H5 x1 x2 x5 ov iv new _ I5 r1 r2 r5 q5) fun _ s6 ⟨H6, I6, q6⟩ => ⟨σ, H6, I6, q6⟩
noncomputable def ipI (f : Int → Int → Int) : TIp := fun x y H Q => ∃ i j, x = .int i ∧ y = .int j ∧ Q (.int (f i j)) H
theorem ip_add : PIp X .Add (ipI fun i j => i + j) := by
  intro pins s σ H x y v u Q I r1 r2 h
  obtain ⟨i, j, e1, e2, q⟩ := h
  subst e1; subst e2
  obtain ⟨t, rfl⟩ := r1
  obtain ⟨t', rfl⟩ := r2
  exact iadd_int ⟨.int _, H, I.tok _, ⟨_, rfl⟩, q⟩
end
section
variable {X : Cx} {pos : Pos}
noncomputable def tWhile (c : TT) (tb : TS) : TS := fun D σ H => ∃ W : Nat → St → Hp → Prop, (∃ m, W m σ H) ∧ ∀ m σ H, W m σ H →
  c σ H fun b H1 => if b = true then ∃ N : St → Hp → Prop, (∀ σ' H', N σ' H' → ∃ m', m' < m ∧ W m' σ' H') ∧ tb { D with nx := N, ct := N, bk := D.nx } σ H1 else D.nx σ H1
theorem ps_while {c : Expr} {body : List Stmt} {tc : TT} {tb : TS} (hp : PassesOwn (model X.prog X.w) X.A X.env X.xe) (hc : PT X c tc) (hb : PSs X body tb) : PS X (.While c body [] pos) (tWhile tc tb) := by
  intro pins s σ H D I h
  obtain ⟨W, ⟨m0, w0⟩, turn⟩ := h
  refine wpAny_While (codeAny_whileLoop (fun n s' => ∃ σ' H', Inv X pins σ' H' s' ∧ W n σ' H') ?_ m0 ⟨σ, H, I, w0⟩)
  rintro n s1 ⟨σ1, H1, I1, w1⟩
  refine wpAny_passesOwn hp (thn (hc pins s1 σ1 H1 _ I1 (turn n σ1 H1 w1)) fun b s2 ⟨H2, I2, q2⟩ => ?_)
  cases b with
  | true =>
    obtain ⟨N, hN, q2⟩ := q2
    rw [if_pos rfl]
    refine wpAny_passesOwn hp (thn (hb pins s2 σ1 H2 _ I2 q2) fun f s3 q3 => ?_)
    cases f with
    | next =>
      obtain ⟨σ3, H3, I3, n3⟩ := q3
      obtain ⟨m', hm, w3⟩ := hN σ3 H3 n3
      exact ⟨m', hm, σ3, H3, I3, w3⟩
    | cont =>
      obtain ⟨σ3, H3, I3, n3⟩ := q3
      obtain ⟨m', hm, w3⟩ := hN σ3 H3 n3
      exact ⟨m', hm, σ3, H3, I3, w3⟩
    | brk => exact q3
    | ret v => exact q3
  | false =>
    rw [if_neg Bool.false_ne_true]
    exact wpAny_execs_nil ⟨σ1, H2, I2, q2⟩
end
structure It where
  go : Nat → Hp → Prop
  yld : Nat → Hp → V → Hp → Prop
  stop : Nat → Hp → Prop
noncomputable def FpOk (X : Cx) (pins : List (Addr × Obj)) (H : Hp) (b : Addr) : Prop :=
  H b = none ∧ b ≠ X.env.locals ∧ b ∉ X.fs ∧ (b ∈ X.ex ∨ X.s₀.heap.objs.size ≤ b) ∧ (∀ x c, X.env.cells.lookup x = some c → c ≠ b) ∧ ∀ p ∈ X.pn ++ pins, p.1 ≠ b
theorem Inv.fpOk {X : Cx} {pins : List (Addr × Obj)} {σ : St} {H H' : Hp} {s : Shared} {b : Addr} (I : Inv X pins σ H s) (hb : s.heap.objs.size ≤ b) (hn : H' b = none) : FpOk X pins H' b := by
  refine ⟨hn, Nat.ne_of_gt (Nat.lt_of_lt_of_le I.lt hb), I.nofs hb, .inr (Nat.le_trans I.sz hb), fun x c e z => ?_, fun p hp z => ?_⟩
  · obtain ⟨v, q⟩ := I.cell x c e
    exact absurd (Nat.lt_of_lt_of_le q.lt (by rw [z]; exact hb)) (Nat.lt_irrefl _)
  · exact absurd (Nat.lt_of_lt_of_le (Heap.lt_size (I.pin p hp).1) (by rw [z]; exact hb)) (Nat.lt_irrefl _)
structure Turn (P : Program) (w : World) (K : PySem.W.Frag) (tg : Expr) (J : It) (fp : List Addr) (it : Addr) (tn : Nat → Heap → Prop) : Prop where
  mem : it ∈ fp
  obj : ∀ i h, tn i h → ∀ b ∈ fp, ∃ o, h.get? b = some o ∧ ∀ v, o.data ≠ .cell v
  keep : ∀ i h h', tn i h → (∀ b ∈ fp, ∀ o, h.get? b = some o → h'.get? b = some o) → tn i h'
  item : ∀ (X : Cx), X.prog = P → X.w = w → X.K = K → X.calm = true → ∀ (i : Nat) (pins : List (Addr × Obj)) (s : Shared) (σ : St) (H : Hp) (E : Value → Shared → Prop), Inv X pins σ H s → (∀ b ∈ fp, FpOk X pins H b) → tn i s.heap → J.go i H →
    wpAny (model P w) X.A (pyNext (.ref it)) (fun r s1 => ∃ u, r = some u ∧
      wpAny (model P w) X.A (letOwnedTupleGo tg (.ref it) u) (fun _ s2 => ∃ x H', Inv X pins σ H' s2 ∧ RelV x u ∧ J.yld i H x H' ∧ tn (i + 1) s2.heap ∧ ∀ b ∈ fp, H' b = none) E s1) E s
  done : ∀ (X : Cx), X.prog = P → X.w = w → X.K = K → X.calm = true → ∀ (i : Nat) (pins : List (Addr × Obj)) (s : Shared) (σ : St) (H : Hp) (E : Value → Shared → Prop), Inv X pins σ H s → (∀ b ∈ fp, FpOk X pins H b) → tn i s.heap → J.stop i H →
    wpAny (model P w) X.A (pyNext (.ref it)) (fun r s1 => r = none ∧ Inv X pins σ H s1) E s
  self : ∀ (A : Around) (i : Nat) (s : Shared) (Q : Value → Shared → Prop) (E : Value → Shared → Prop), tn i s.heap → Q (.ref it) s → wpAny (model P w) A (pyIter (.ref it)) Q E s
noncomputable abbrev TI := St → Hp → (It → Hp → Prop) → Prop
noncomputable def PIE (X : Cx) (pins : List (Addr × Obj)) (σ : St) (tg : Expr) (R : It → Hp → Prop) (itv : Value) (s2 : Shared) : Prop :=
  ∃ (it : Addr) (fp : List Addr) (tn : Nat → Heap → Prop) (J : It) (H' : Hp), itv = .ref it ∧ Inv X pins σ H' s2 ∧ Turn X.prog X.w X.K tg J fp it tn ∧ tn 0 s2.heap ∧ (∀ b ∈ fp, FpOk X pins H' b) ∧ R J H'
noncomputable def PI (X : Cx) (tg iter : Expr) (wi : TI) : Prop :=
  ∀ (pins : List (Addr × Obj)) (s : Shared) (σ : St) (H : Hp) (R : It → Hp → Prop), Inv X pins σ H s → wi σ H R →
    wpAny (model X.prog X.w) X.A (eval iter X.env) (fun v s1 => wpAny (model X.prog X.w) X.A (pyIter v) (PIE X pins σ tg R) X.xe s1) X.xe s
theorem go_of {M : Model} {A : Around} {E : Value → Shared → Prop} {s : Shared} {tg : Expr} {it : Addr} {u : Value} {o : Obj} {n : String} {vs : Array Value} {Q : Unit → Shared → Prop} (ho : s.heap.get? it = some o) (hc : o.cls = .type n) (hd : o.data = .fields vs)
    (hn : ["enumerate", "zip", "dict_itemiterator", "dict_reverseitemiterator", "odict_iterator", "itertools.zip_longest", "itertools.pairwise"].contains n = false) (hQ : Q () s) : wpAny M A (letOwnedTupleGo tg (.ref it) u) Q E s := by
  unfold letOwnedTupleGo
  cases tg <;> first
    | exact wpAny_pure hQ
    | (cases u <;> first
        | exact wpAny_pure hQ
        | (refine wpAny_bind (wpAny_load ho ?_)
           rw [hc, hd]
           show wpAny M A (if (["enumerate", "zip", "dict_itemiterator", "dict_reverseitemiterator", "odict_iterator", "itertools.zip_longest", "itertools.pairwise"].contains n && vs[0]? == some (rawInt _)) = true then _ else _) Q E s
           rw [if_neg (by intro h; rw [hn, Bool.false_and] at h; cases h)]
           exact wpAny_pure hQ))
noncomputable def Itl (K : PySem.W.Frag) (a : Addr) : It :=
  ⟨fun i H => ∃ xs x, SqL K H a xs ∧ xs[i]? = some x, fun i H x H' => H' = H ∧ ∀ xs, SqL K H a xs → xs[i]? = some x, fun i H => ∃ xs, SqL K H a xs ∧ xs.length ≤ i⟩
noncomputable def Itt (K : PySem.W.Frag) (a : Addr) : It :=
  ⟨fun i H => ∃ xs x, SqT K H a xs ∧ xs[i]? = some x, fun i H x H' => H' = H ∧ ∀ xs, SqT K H a xs → xs[i]? = some x, fun i H => ∃ xs, SqT K H a xs ∧ xs.length ≤ i⟩
noncomputable def Itr (lo : Int) (n : Nat) : It := ⟨fun i _ => i < n, fun i H x H' => H' = H ∧ x = .int (lo + i), fun i _ => n ≤ i⟩
theorem turn_list {P : Program} {w : World} {K : PySem.W.Frag} {tg : Expr} (a it : Addr) : Turn P w K tg (Itl K a) [it] it (fun i h => h.IsListIter it a i) where
  mem := by simp
  obj := fun i h st b hb => by
    have e : b = it := by simpa using hb
    subst e
    obtain ⟨o, e, c, d⟩ := st
    exact ⟨o, e, fun v z => by rw [d] at z; cases z⟩
  keep := fun i h h' st k => st.at fun o e => k it (by simp) o e
  item := by
    intro X hP hw hK hc i pins s σ H E I hf st hg
    subst hP hw hK
    obtain ⟨xs, x, hq, hx⟩ := hg
    obtain ⟨its, rv, p, hz⟩ := I.list hq
    obtain ⟨u, hu, ru⟩ := rv.get hx
    obtain ⟨f0, f1, f2, f3, f4, f5⟩ := hf it (by simp)
    refine wpAny_pyNext_list_item st p.isList (x := u) (by simpa using hu) fun h' st' sb => ?_
    have I1 : Inv X pins σ H { s with heap := h' } := I.turned (t' := s.toks) (fun b o hb e => (sb.2 b hb).trans e) f0 f1 f3 f4 f5
    obtain ⟨o, e, c, d⟩ := id st'
    exact ⟨u, rfl, go_of (s := { s with heap := h' }) e c d (by decide) ⟨x, H, I1, ru, ⟨rfl, fun ys hy => by rw [I.list_inj hy hq]; exact hx⟩, st', fun b hb => (hf b hb).1⟩⟩
  done := by
    intro X hP hw hK hc i pins s σ H E I hf st hg
    subst hP hw hK
    obtain ⟨xs, hq, hx⟩ := hg
    obtain ⟨its, rv, p, hz⟩ := I.list hq
    obtain ⟨f0, f1, f2, f3, f4, f5⟩ := hf it (by simp)
    have hl := rv.length
    exact wpAny_pyNext_list_end (I.ok.hd hc) st p.isList (by simp; lia) fun h' eb => ⟨rfl, I.turned (t' := s.toks) (fun b o hb e => eb b o hb e) f0 f1 f3 f4 f5⟩
  self := fun _ _ _ _ _ st h => wpAny_pyIter_listiter st h
theorem turn_tuple {P : Program} {w : World} {K : PySem.W.Frag} {tg : Expr} (a it : Addr) : Turn P w K tg (Itt K a) [it] it (fun i h => h.IsTupleIter it a i) where
  mem := by simp
  obj := fun i h st b hb => by
    have e : b = it := by simpa using hb
    subst e
    obtain ⟨o, e, c, d⟩ := st
    exact ⟨o, e, fun v z => by rw [d] at z; cases z⟩
  keep := fun i h h' st k => st.at fun o e => k it (by simp) o e
  item := by
    intro X hP hw hK hc i pins s σ H E I hf st hg
    subst hP hw hK
    obtain ⟨xs, x, hq, hx⟩ := hg
    obtain ⟨its, rv, p, hz⟩ := I.tuple hq
    obtain ⟨u, hu, ru⟩ := rv.get hx
    obtain ⟨f0, f1, f2, f3, f4, f5⟩ := hf it (by simp)
    refine wpAny_pyNext_tuple_item st (show s.heap.IsTuple a its.toArray from p) (x := u) (by simpa using hu) fun h' st' sb => ?_
    have I1 : Inv X pins σ H { s with heap := h' } := I.turned (t' := s.toks) (fun b o hb e => (sb.2 b hb).trans e) f0 f1 f3 f4 f5
    obtain ⟨o, e, c, d⟩ := id st'
    exact ⟨u, rfl, go_of (s := { s with heap := h' }) e c d (by decide) ⟨x, H, I1, ru, ⟨rfl, fun ys hy => by rw [I.tuple_inj hy hq]; exact hx⟩, st', fun b hb => (hf b hb).1⟩⟩
  done := by
    intro X hP hw hK hc i pins s σ H E I hf st hg
    subst hP hw hK
    obtain ⟨xs, hq, hx⟩ := hg
    obtain ⟨its, rv, p, hz⟩ := I.tuple hq
    obtain ⟨f0, f1, f2, f3, f4, f5⟩ := hf it (by simp)
    have hl := rv.length
    exact wpAny_pyNext_tuple_end (I.ok.hd hc) st (show s.heap.IsTuple a its.toArray from p) (by simp; lia) fun h' eb => ⟨rfl, I.turned (t' := s.toks) (fun b o hb e => eb b o hb e) f0 f1 f3 f4 f5⟩
  self := fun _ _ _ _ _ st h => wpAny_pyIter_tupleiter st h
theorem turn_range {P : Program} {w : World} {K : PySem.W.Frag} {tg : Expr} (it : Addr) (lo : Int) (n : Nat) : Turn P w K tg (Itr lo n) [it] it (fun i h => IsRangeIter h it (lo + (i : Nat) * 1) ((n : Int) - (i : Nat)) 1) where
  mem := by simp
  obj := fun i h st b hb => by
    have e : b = it := by simpa using hb
    subst e
    exact ⟨_, st, fun v z => by
      have z' : Data.fields _ = Data.cell v := z
      cases z'⟩
  keep := fun i h h' st k => k it (by simp) _ st
  item := by
    intro X hP hw hK hc i pins s σ H E I hf st hg
    subst hP hw hK
    obtain ⟨f0, f1, f2, f3, f4, f5⟩ := hf it (by simp)
    have W := Walks.range (prog := X.prog) (w := X.w) (I.ok.hd hc) it lo 1 n
    refine W.item i s _ _ hg st fun v h' tk hv st' kk => ?_
    obtain ⟨t, rfl⟩ := hv
    have I1 : Inv X pins σ H { s with heap := h', toks := tk } := I.turned (fun b o hb e => kk b o (by simpa using hb) e) f0 f1 f3 f4 f5
    refine ⟨_, rfl, go_of (s := { s with heap := h', toks := tk }) (n := "range_iterator") st' rfl rfl (by decide) ⟨.int (lo + i), H, I1, ⟨t, ?_⟩, ⟨rfl, rfl⟩, st', fun b hb => (hf b hb).1⟩⟩
    rw [Int.mul_one]
  done := by
    intro X hP hw hK hc i pins s σ H E I hf st hg
    subst hP hw hK
    obtain ⟨f0, f1, f2, f3, f4, f5⟩ := hf it (by simp)
    exact wpAny_pyNext_range_end (I.ok.hd hc) st (by have : n ≤ i := hg; lia) fun h' eb => ⟨rfl, I.turned (t' := s.toks) (fun b o hb e => eb b o hb e) f0 f1 f3 f4 f5⟩
  self := fun _ _ _ _ _ st h => wpAny_pyIter_rangeiter st h
end L2
namespace L2
open PySem PySem.Spec PyProof.Rows
section
variable {X : Cx} {tg : Expr}
theorem range_it {pins : List (Addr × Obj)} {σ : St} {H : Hp} {s : Shared} {R : It → Hp → Prop} {E : Value → Shared → Prop} {lo hi : Int} {t u v : Tok} {tk : Nat} (I : Inv X pins σ H s) (h1 : -(2 ^ 62) ≤ lo) (h2 : lo < 2 ^ 62) (h3 : -(2 ^ 62) ≤ hi) (h4 : hi < 2 ^ 62)
    (q : R (Itr lo (hi - lo).toNat) H) : wpAny (model X.prog X.w) X.A (pyIter (.ref s.heap.objs.size)) (PIE X pins σ tg R) E { s with heap := s.heap.push { cls := .type "range", data := .fields #[.int lo t, .int hi u, .int 1 v] }, toks := tk } := by
  refine wpAny_pyIter_range (IsRange.new ..) (small_one h1 h2 h3 h4) ?_
  have I1 : Inv X pins σ H { s with heap := s.heap.push { cls := .type "range", data := .fields #[.int lo t, .int hi u, .int 1 v] }, toks := tk } := I.kept fun b o e => Heap.get?_push_of_some _ e
  refine ⟨(s.heap.push { cls := .type "range", data := .fields #[.int lo t, .int hi u, .int 1 v] }).objs.size, [(s.heap.push { cls := .type "range", data := .fields #[.int lo t, .int hi u, .int 1 v] }).objs.size], _, _, H, rfl,
    I1.kept (t' := tk) fun b o e => Heap.get?_push_of_some _ e, turn_range _ lo (hi - lo).toNat, ?_, fun b hb => ?_, q⟩
  · have e1 : lo + ((0 : Nat) : Int) * 1 = lo := by simp
    have e2 : (((hi - lo).toNat : Nat) : Int) - ((0 : Nat) : Int) = Builtin.Range.rangeSize lo hi 1 := by rw [rangeSize_one]; split <;> lia
    show IsRangeIter _ _ (lo + ((0 : Nat) : Int) * 1) ((((hi - lo).toNat : Nat) : Int) - ((0 : Nat) : Int)) 1
    rw [e1, e2]
    exact Heap.get?_push_size _ rfl
  · have e : b = (s.heap.push { cls := .type "range", data := .fields #[.int lo t, .int hi u, .int 1 v] }).objs.size := by simpa using hb
    subst e
    exact I1.fpOk (Nat.le_refl _) (I1.hok.fresh (Nat.le_refl _))
noncomputable def iRng1 (ta : TA) : TI := fun σ H R => ta σ H fun vs H1 => ∃ j : Int, vs = [.int j] ∧ -(2 ^ 62) ≤ j ∧ j < 2 ^ 62 ∧ R (Itr 0 j.toNat) H1
noncomputable def iRng2 (ta : TA) : TI := fun σ H R => ta σ H fun vs H1 => ∃ i j : Int, vs = [.int i, .int j] ∧ (-(2 ^ 62) ≤ i ∧ i < 2 ^ 62 ∧ -(2 ^ 62) ≤ j ∧ j < 2 ^ 62) ∧ R (Itr i (j - i).toNat) H1
theorem pi_range1 {a : Expr} {ta : TA} {p pos : Pos} (hg : Gl X "range") (hm : X.mg "range" = none) (ha : PA X [a] ta) (hs : starEach [a] X.env = [(false, eval a X.env)] := by rfl) : PI X tg (.Call (.Name "range" p) [a] [] pos) (iRng1 ta) := by
  intro pins s σ H R I h
  refine Call_ (ld_blt I hg hm boot_range (PyProof.Rows.callWith_type1 (thn (ha pos pins s σ H _ I h) fun us s1 ⟨vs, H1, I1, r1, q1⟩ => ?_) hs rfl))
  obtain ⟨j, e, q1, q2, q⟩ := q1
  subst e
  cases r1 with
  | cons r rr =>
    cases rr
    obtain ⟨t, rfl⟩ := r
    exact call_range_1 (range_it I1 (by lia) (by lia) q1 q2 (by simpa using q))
theorem pi_range2 {a b : Expr} {ta : TA} {p pos : Pos} (hg : Gl X "range") (hm : X.mg "range" = none) (ha : PA X [a, b] ta) (hs : starEach [a, b] X.env = [(false, eval a X.env), (false, eval b X.env)] := by rfl) (hs2 : starEach [b] X.env = [(false, eval b X.env)] := by rfl) :
    PI X tg (.Call (.Name "range" p) [a, b] [] pos) (iRng2 ta) := by
  intro pins s σ H R I h
  refine Call_ (ld_blt I hg hm boot_range (PyProof.Rows.callWith_type1 (thn (ha pos pins s σ H _ I h) fun us s1 ⟨vs, H1, I1, r1, q1⟩ => ?_) (by rw [hs, hs2]) (by rw [hs2]; rfl)))
  obtain ⟨i, j, e, ⟨q1, q2, q3, q4⟩, q⟩ := q1
  subst e
  cases r1 with
  | cons r rr =>
    cases rr with
    | cons r' rr =>
      cases rr
      obtain ⟨t, rfl⟩ := r
      obtain ⟨t', rfl⟩ := r'
      exact call_range_2 (range_it I1 q1 q2 q3 q4 q)
noncomputable def tFor (wi : TI) (g : TG) (tb : TS) : TS := fun D σ H => wi σ H fun J H1 => ∃ W : Nat → Nat → St → Hp → Prop, (∃ m, W 0 m σ H1) ∧ ∀ i m σ H, W i m σ H →
  (J.stop i H ∧ D.nx σ H) ∨ (J.go i H ∧ ∃ N : St → Hp → Prop, (∀ σ' H', N σ' H' → ∃ m', m' < m ∧ W (i + 1) m' σ' H') ∧ ∀ x H', J.yld i H x H' → g x σ H' fun σ2 H2 => tb { D with nx := N, ct := N, bk := D.nx } σ2 H2)
noncomputable def pinsAt (fp : List Addr) (h : Heap) : List (Addr × Obj) := fp.filterMap fun b => (h.get? b).map fun o => (b, o)
theorem mem_pinsAt {fp : List Addr} {h : Heap} {b : Addr} {o : Obj} (hb : b ∈ fp) (e : h.get? b = some o) : (b, o) ∈ pinsAt fp h := List.mem_filterMap.mpr ⟨b, hb, by rw [e]; rfl⟩
theorem of_pinsAt {fp : List Addr} {h : Heap} {p : Addr × Obj} (hp : p ∈ pinsAt fp h) : p.1 ∈ fp ∧ h.get? p.1 = some p.2 := by
  obtain ⟨b, hb, e⟩ := List.mem_filterMap.mp hp
  cases q : h.get? b with
  | none => rw [q] at e; cases e
  | some o =>
    rw [q] at e
    have e' : (b, o) = p := Option.some.inj e
    subst e'
    exact ⟨hb, q⟩
theorem Inv.pinned {pins : List (Addr × Obj)} {σ : St} {H : Hp} {s : Shared} {fp : List Addr} (I : Inv X pins σ H s) (hf : ∀ b ∈ fp, FpOk X pins H b) (ho : ∀ b ∈ fp, ∃ o, s.heap.get? b = some o ∧ ∀ v, o.data ≠ .cell v) : Inv X (pins ++ pinsAt fp s.heap) σ H s :=
  I.pins_of fun p hp => (List.mem_append.mp hp).elim (fun z => I.pin p (List.mem_append_right _ z)) fun z => by
    obtain ⟨hb, e⟩ := of_pinsAt z
    obtain ⟨f0, f1, f2, _⟩ := hf p.1 hb
    obtain ⟨o, e', d⟩ := ho p.1 hb
    rw [e] at e'; cases e'
    exact ⟨e, f0, f1, f2, d⟩
theorem Inv.unpinned {pins pl : List (Addr × Obj)} {σ : St} {H : Hp} {s : Shared} (I : Inv X (pins ++ pl) σ H s) : Inv X pins σ H s := I.pins_of fun p hp => I.pin p (List.mem_append_right _ (List.mem_append_left _ hp))
theorem ps_for {iter : Expr} {body : List Stmt} {wi : TI} {g : TG} {tb : TS} {pos : Pos} (hp : PassesOwn (model X.prog X.w) X.A X.env X.xe) (hc : X.calm = true) (hi : PI X tg iter wi) (hg : PG X tg g) (hb : PSs X body tb)
    (hs : ∀ x, foldedSetIterable iter X.env x = pure x := by intro _; rfl) : PS X (.For tg iter body [] pos) (tFor wi g tb) := by
  intro pins s σ H D I h
  refine wpAny_For (thn (hi pins s σ H _ I h) fun v s1 h1 => thn h1 fun itv s2 h2 => ?_) hs
  obtain ⟨it, fp, tn, J, H2, e, I2, T, st2, f2, W, ⟨m0, w0⟩, turn⟩ := h2
  subst e
  -- what stays true of the iterator's objects through the loop
  have stat : ∀ {H' : Hp}, (∀ b ∈ fp, H' b = none) → ∀ b ∈ fp, FpOk X pins H' b := fun hn b hb => ⟨hn b hb, (f2 b hb).2⟩
  refine codeAny_forLoop_any (fun n s' => ∃ i σ' H', Inv X pins σ' H' s' ∧ tn i s'.heap ∧ (∀ b ∈ fp, H' b = none) ∧ W i n σ' H') ?_ m0 ⟨0, σ, H2, I2, st2, fun b hb => (f2 b hb).1, w0⟩
  rintro n s3 ⟨i, σ3, H3, I3, st3, fr3, w3⟩
  rcases turn i n σ3 H3 w3 with ⟨stop, qn⟩ | ⟨go, N, hN, step⟩
  · refine wpAny_passesOwn hp (thn (T.done X rfl rfl rfl hc i pins s3 σ3 H3 X.xe I3 (stat fr3) st3 stop) fun r s4 ⟨hr, I4⟩ => ?_)
    subst hr
    exact wpAny_execs_nil ⟨σ3, H3, I4, qn⟩
  · refine wpAny_passesOwn hp (thn (T.item X rfl rfl rfl hc i pins s3 σ3 H3 X.xe I3 (stat fr3) st3 go) fun r s4 ⟨u, hr, h4⟩ => ?_)
    subst hr
    refine wpAny_passesOwn hp (thn h4 fun _ s5 ⟨x, H5, I5, r5, y5, st5, fr5⟩ => ?_)
    have I5' := I5.pinned (stat fr5) (T.obj _ _ st5)
    refine wpAny_passesOwn hp (thn (hg _ s5 σ3 H5 x u _ I5' r5 (step x H5 y5)) fun _ s6 ⟨σ6, H6, I6, q6⟩ => ?_)
    refine wpAny_passesOwn hp (thn (hb _ s6 σ6 H6 _ I6 q6) fun f s7 q7 => ?_)
    have again : ∀ {σ7 : St} {H7 : Hp}, Inv X (pins ++ pinsAt fp s5.heap) σ7 H7 s7 → N σ7 H7 → ∃ m, m < n ∧ ∃ i σ' H', Inv X pins σ' H' s7 ∧ tn i s7.heap ∧ (∀ b ∈ fp, H' b = none) ∧ W i m σ' H' := fun {σ7 H7} I7 n7 => by
      obtain ⟨m', hm, w7⟩ := hN σ7 H7 n7
      refine ⟨m', hm, i + 1, σ7, H7, I7.unpinned, T.keep _ _ _ st5 fun b hb o e => (I7.pin (b, o) (List.mem_append_right _ (List.mem_append_right _ (mem_pinsAt hb e)))).1, fun b hb => ?_, w7⟩
      obtain ⟨o, e, d⟩ := T.obj _ _ st5 b hb
      exact (I7.pin (b, o) (List.mem_append_right _ (List.mem_append_right _ (mem_pinsAt hb e)))).2.1
    cases f with
    | next => obtain ⟨σ7, H7, I7, n7⟩ := q7; exact again I7 n7
    | cont => obtain ⟨σ7, H7, I7, n7⟩ := q7; exact again I7 n7
    | brk => obtain ⟨σ7, H7, I7, q7⟩ := q7; exact ⟨σ7, H7, I7.unpinned, q7⟩
    | ret v => obtain ⟨x7, σ7, H7, I7, r7, q7⟩ := q7; exact ⟨x7, σ7, H7, I7.unpinned, r7, q7⟩
end
theorem for_list {K : PySem.W.Frag} {a : Addr} {xs : List V} {g : TG} {tb : TS} {D : Ends} {σ : St} {H : Hp} (Pv : Nat → St → Hp → Prop) (h0 : Pv 0 σ H) (hl : ∀ i σ H, i ≤ xs.length → Pv i σ H → SqL K H a xs)
    (hs : ∀ i x σ H, xs[i]? = some x → Pv i σ H → g x σ H fun σ2 H2 => tb { D with nx := Pv (i + 1), ct := Pv (i + 1), bk := D.nx } σ2 H2) (hd : ∀ σ H, Pv xs.length σ H → D.nx σ H) :
    ∃ W : Nat → Nat → St → Hp → Prop, (∃ m, W 0 m σ H) ∧ ∀ i m σ H, W i m σ H →
      ((Itl K a).stop i H ∧ D.nx σ H) ∨ ((Itl K a).go i H ∧ ∃ N : St → Hp → Prop, (∀ σ' H', N σ' H' → ∃ m', m' < m ∧ W (i + 1) m' σ' H') ∧ ∀ x H', (Itl K a).yld i H x H' → g x σ H' fun σ2 H2 => tb { D with nx := N, ct := N, bk := D.nx } σ2 H2) := by
  refine ⟨fun i m σ H => m = xs.length - i ∧ i ≤ xs.length ∧ Pv i σ H, ⟨xs.length, by simp, Nat.zero_le _, h0⟩, ?_⟩
  rintro i m σ H ⟨rfl, hi, p⟩
  have q := hl i σ H hi p
  by_cases hlt : i < xs.length
  · refine .inr ⟨⟨xs, xs[i], q, by simp [hlt]⟩, Pv (i + 1), fun σ' H' p' => ⟨xs.length - (i + 1), by lia, rfl, hlt, p'⟩, fun x H' y => ?_⟩
    obtain ⟨e, y⟩ := y
    subst e
    exact hs i x σ _ (y xs q) p
  · have e : i = xs.length := by lia
    subst e
    exact .inl ⟨⟨xs, q, Nat.le_refl _⟩, hd σ H p⟩
theorem for_range {lo : Int} {n : Nat} {g : TG} {tb : TS} {D : Ends} {σ : St} {H : Hp} (Pv : Nat → St → Hp → Prop) (h0 : Pv 0 σ H)
    (hs : ∀ i σ H, i < n → Pv i σ H → g (.int (lo + i)) σ H fun σ2 H2 => tb { D with nx := Pv (i + 1), ct := Pv (i + 1), bk := D.nx } σ2 H2) (hd : ∀ σ H, Pv n σ H → D.nx σ H) :
    ∃ W : Nat → Nat → St → Hp → Prop, (∃ m, W 0 m σ H) ∧ ∀ i m σ H, W i m σ H →
      ((Itr lo n).stop i H ∧ D.nx σ H) ∨ ((Itr lo n).go i H ∧ ∃ N : St → Hp → Prop, (∀ σ' H', N σ' H' → ∃ m', m' < m ∧ W (i + 1) m' σ' H') ∧ ∀ x H', (Itr lo n).yld i H x H' → g x σ H' fun σ2 H2 => tb { D with nx := N, ct := N, bk := D.nx } σ2 H2) := by
  refine ⟨fun i m σ H => m = n - i ∧ i ≤ n ∧ Pv i σ H, ⟨n, by simp, Nat.zero_le _, h0⟩, ?_⟩
  rintro i m σ H ⟨rfl, hi, p⟩
  by_cases hlt : i < n
  · refine .inr ⟨hlt, Pv (i + 1), fun σ' H' p' => ⟨n - (i + 1), by lia, rfl, hlt, p'⟩, fun x H' y => ?_⟩
    obtain ⟨e, y⟩ := y
    subst e y
    exact hs i σ _ hlt p
  · have e : i = n := by lia
    subst e
    exact .inl ⟨Nat.le_refl _, hd σ H p⟩
end L2
namespace L2
open PySem PySem.Spec PyProof.Rows
noncomputable abbrev R2 := V → V → Hp → VK → Prop
noncomputable def OpR (X : Cx) (f : Value → Value → Sem Value) (r : R2) : Prop :=
  ∀ (pins : List (Addr × Obj)) (s : Shared) (σ : St) (H : Hp) (x y : V) (v u : Value) (Q : VK), Inv X pins σ H s → RelV x v → RelV y u → r x y H Q →
    wpAny (model X.prog X.w) X.A (f v u) (EP X pins σ Q) X.xe s
noncomputable def UnR (X : Cx) (f : Value → Sem Value) (r : V → Hp → VK → Prop) : Prop :=
  ∀ (pins : List (Addr × Obj)) (s : Shared) (σ : St) (H : Hp) (x : V) (v : Value) (Q : VK), Inv X pins σ H s → RelV x v → r x H Q →
    wpAny (model X.prog X.w) X.A (f v) (EP X pins σ Q) X.xe s
noncomputable def CallR (X : Cx) (f : Value) (r : List V → Hp → VK → Prop) : Prop :=
  ∀ (pins : List (Addr × Obj)) (s : Shared) (σ : St) (H : Hp) (xs : List V) (us : List Value) (Q : VK), Inv X pins σ H s → Vals xs us → r xs H Q →
    wpAny (model X.prog X.w) X.A (call f us) (EP X pins σ Q) X.xe s
noncomputable def TruR (X : Cx) (r : V → Hp → (Bool → Hp → Prop) → Prop) : Prop :=
  ∀ (pins : List (Addr × Obj)) (s : Shared) (σ : St) (H : Hp) (x : V) (v : Value) (Q : Bool → Hp → Prop), Inv X pins σ H s → RelV x v → r x H Q →
    wpAny (model X.prog X.w) X.A (truthy v) (TP X pins σ Q) X.xe s
noncomputable def tOp (r : R2) (ta tb : TE) : TE := fun σ H Q => ta σ H fun x H1 => tb σ H1 fun y H2 => r x y H2 Q
noncomputable def tUn (r : V → Hp → VK → Prop) (ta : TE) : TE := fun σ H Q => ta σ H fun x H1 => r x H1 Q
noncomputable def rI (C : Int → Int → Prop) (g : Int → Int → V) : R2 := fun x y H Q => ∃ i j, x = .int i ∧ y = .int j ∧ C i j ∧ Q (g i j) H
noncomputable def rI0 (g : Int → Int → V) : R2 := fun x y H Q => ∃ i j, x = .int i ∧ y = .int j ∧ Q (g i j) H
noncomputable def rU (g : Int → V) : V → Hp → VK → Prop := fun x H Q => ∃ i, x = .int i ∧ Q (g i) H
section
variable {X : Cx} {a b c : Expr} {ta tb tc : TE} {pos : Pos}
theorem binT (ha : PE X a ta) (hb : PE X b tb) {pins : List (Addr × Obj)} {s : Shared} {σ : St} {H : Hp} {R : V → V → Hp → Prop} (I : Inv X pins σ H s)
    (h : ta σ H fun x H1 => tb σ H1 fun y H2 => R x y H2) {Q : Value → Shared → Prop} {f : Value → Value → Sem Value}
    (hf : ∀ v u s2 x y H2, Inv X pins σ H2 s2 → RelV x v → RelV y u → R x y H2 → wpAny (model X.prog X.w) X.A (f v u) Q X.xe s2) :
    wpAny (model X.prog X.w) X.A (eval a X.env) (fun v s₁ => wpAny (model X.prog X.w) X.A (eval b X.env) (fun u s₂ => wpAny (model X.prog X.w) X.A (f v u) Q X.xe s₂) X.xe s₁) X.xe s := by
  refine thn (ha pins s σ H _ I h) fun v s1 ⟨x, H1, I1, r1, q1⟩ => ?_
  refine thn (hb pins s1 σ H1 _ I1 q1) fun u s2 ⟨y, H2, I2, r2, q2⟩ => ?_
  exact hf v u s2 x y H2 I2 r1 r2 q2
theorem pe_op {op : Operator} {r : R2} (ho : OpR X (binaryOp op) r) (ha : PE X a ta) (hb : PE X b tb) : PE X (.BinOp a op b pos) (tOp r ta tb) := by
  intro pins s σ H Q I h
  exact wpAny_BinOp (binT ha hb I h fun v u s2 x y H2 I2 rx ry q => ho pins s2 σ H2 x y v u Q I2 rx ry q)
theorem pe_un {op : UnaryOp} {r : V → Hp → VK → Prop} (ho : UnR X (unaryOp op) r) (ha : PE X a ta) : PE X (.UnaryOp op a pos) (tUn r ta) := by
  intro pins s σ H Q I h
  exact UnaryOp_ (thn (ha pins s σ H _ I h) fun v s1 ⟨x, H1, I1, r1, q1⟩ => ho pins s1 σ H1 x v Q I1 r1 q1)
theorem opI {f : Value → Value → Sem Value} {C : Int → Int → Prop} {g : Int → Int → Int}
    (rule : ∀ (i j : Int) (t u : Tok) (s : Shared) (Q : Value → Shared → Prop) (E : Value → Shared → Prop), C i j → Q (.int (g i j) s.toks) { s with toks := s.toks + 1 } → wpAny (model X.prog X.w) X.A (f (.int i t) (.int j u)) Q E s) :
    OpR X f (rI C fun i j => .int (g i j)) := by
  intro pins s σ H x y v u Q I rx ry h
  obtain ⟨i, j, rfl, rfl, hc, q⟩ := h
  obtain ⟨t, rfl⟩ := rx
  obtain ⟨t', rfl⟩ := ry
  exact rule i j t t' s _ _ hc ⟨.int (g i j), H, I.tok _, ⟨_, rfl⟩, q⟩
theorem opI0 {f : Value → Value → Sem Value} {g : Int → Int → Int}
    (rule : ∀ (i j : Int) (t u : Tok) (s : Shared) (Q : Value → Shared → Prop) (E : Value → Shared → Prop), Q (.int (g i j) s.toks) { s with toks := s.toks + 1 } → wpAny (model X.prog X.w) X.A (f (.int i t) (.int j u)) Q E s) :
    OpR X f (rI0 fun i j => .int (g i j)) := by
  intro pins s σ H x y v u Q I rx ry h
  obtain ⟨i, j, rfl, rfl, q⟩ := h
  obtain ⟨t, rfl⟩ := rx
  obtain ⟨t', rfl⟩ := ry
  exact rule i j t t' s _ _ ⟨.int (g i j), H, I.tok _, ⟨_, rfl⟩, q⟩
theorem opB0 {f : Value → Value → Sem Value} {g : Int → Int → Bool}
    (rule : ∀ (i j : Int) (t u : Tok) (s : Shared) (Q : Value → Shared → Prop) (E : Value → Shared → Prop), Q (.bool (g i j)) s → wpAny (model X.prog X.w) X.A (f (.int i t) (.int j u)) Q E s) :
    OpR X f (rI0 fun i j => .bl (g i j)) := by
  intro pins s σ H x y v u Q I rx ry h
  obtain ⟨i, j, rfl, rfl, q⟩ := h
  obtain ⟨t, rfl⟩ := rx
  obtain ⟨t', rfl⟩ := ry
  exact rule i j t t' s _ _ ⟨.bl (g i j), H, I, rfl, q⟩
noncomputable def CMul (i j : Int) : Prop := (-(2 ^ 64) < i ∧ i < 2 ^ 64) ∨ (-(2 ^ 64) < j ∧ j < 2 ^ 64)
theorem CMul.ok {i j : Int} (h : CMul i j) : IntMulOk i j := by
  rcases h with ⟨h1, h2⟩ | ⟨h1, h2⟩
  · exact .of_left (intBits_le_64 h1 h2)
  · exact .of_right (intBits_le_64 h1 h2)
theorem two_pow_nn (k : Nat) : (0 : Int) ≤ 2 ^ k := by
  rw [two_pow_cast]
  exact Int.natCast_nonneg _
theorem op_add : OpR X (binaryOp .Add) (rI0 fun i j => .int (i + j)) := opI0 fun _ _ _ _ _ _ _ q => add_int q
theorem op_sub : OpR X (binaryOp .Sub) (rI0 fun i j => .int (i - j)) := opI0 fun _ _ _ _ _ _ _ q => sub_int q
theorem op_mod : OpR X (binaryOp .Mod) (rI (fun _ j => 0 < j) fun i j => .int (i % j)) := opI fun i j _ _ _ _ _ hc q => by
  have h1 : (0 : Int) < j := hc
  exact mod_int' (by lia) (by rw [Int.fmod_eq_emod_of_nonneg i (by lia)]; exact q)
theorem op_shr : OpR X (binaryOp .RShift) (rI (fun _ j => 0 ≤ j) fun i j => .int (i / 2 ^ j.toNat)) := opI fun i j _ _ _ _ _ hc q =>
  rshift_int hc (by rw [Int.fdiv_eq_ediv_of_nonneg i (two_pow_nn _)]; exact q)
theorem op_and : OpR X (binaryOp .BitAnd) (rI0 fun i j => .int (Builtin.bitAnd i j)) := opI0 fun _ _ _ _ _ _ _ q => and_int q
theorem unI {f : Value → Sem Value} {g : Int → Int}
    (rule : ∀ (i : Int) (t : Tok) (s : Shared) (Q : Value → Shared → Prop) (E : Value → Shared → Prop), Q (.int (g i) s.toks) { s with toks := s.toks + 1 } → wpAny (model X.prog X.w) X.A (f (.int i t)) Q E s) :
    UnR X f (rU fun i => .int (g i)) := by
  intro pins s σ H x v Q I rx h
  obtain ⟨i, rfl, q⟩ := h
  obtain ⟨t, rfl⟩ := rx
  exact rule i t s _ _ ⟨.int (g i), H, I.tok _, ⟨_, rfl⟩, q⟩
theorem un_neg : UnR X (unaryOp .USub) (rU fun i => .int (-i)) := unI fun _ _ _ _ _ q => neg_int q
end
noncomputable def scal : V → V → Bool
  | .non, .non => true | .non, .int _ => true | .int _, .non => true | .non, .bl _ => true | .bl _, .non => true | .non, .str _ => true | .str _, .non => true
  | .int _, .int _ => true | .bl _, .bl _ => true | .str _, .str _ => true | .byt _, .byt _ => true
  | .int _, .str _ => true | .str _, .int _ => true | .bl _, .str _ => true | .str _, .bl _ => true
  | _, _ => false
noncomputable def rEq : R2 := fun x y H Q => scal x y = true ∧ Q (.bl (decide (x = y))) H
noncomputable def rNe : R2 := fun x y H Q => scal x y = true ∧ Q (.bl (!decide (x = y))) H
theorem dec_int {i j : Int} : decide (V.int i = V.int j) = (i == j) := by
  rw [Bool.eq_iff_iff]
  simp
theorem dec_bl {i j : Bool} : decide (V.bl i = V.bl j) = (i == j) := by
  rw [Bool.eq_iff_iff]
  simp
theorem dec_str {i j : Str} : decide (V.str i = V.str j) = (i == j) := by
  rw [Bool.eq_iff_iff]
  simp
theorem dec_byt {i j : Array UInt8} : decide (V.byt i = V.byt j) = (i.toList == j.toList) := by
  rw [Bool.eq_iff_iff]
  cases i
  cases j
  simp
section
variable {X : Cx} {a b c : Expr} {ta tb tc : TE} {pos : Pos}
theorem fin_bl {pins : List (Addr × Obj)} {σ : St} {H : Hp} {s : Shared} {Q : VK} {k k' : Bool} (I : Inv X pins σ H s) (q : Q (.bl k) H) (e : k = k') : EP X pins σ Q (.bool k') s := by
  subst e
  exact ⟨.bl k, H, I, rfl, q⟩
theorem op_eq : OpR X (compareOp .Eq) rEq := by
  intro pins s σ H x y v u Q I rx ry h
  obtain ⟨hs, q⟩ := h
  cases x with
  | non =>
    cases rx
    cases y with
    | non => cases ry; exact PySem.EqNone.eq_none_none (fin_bl I q (by simp))
    | bl j => cases ry; exact PySem.EqNone.eq_none_bool (fin_bl I q (by simp))
    | int j => obtain ⟨t', rfl⟩ := ry; exact PySem.EqNone.eq_none_int (fin_bl I q (by simp))
    | str j => obtain ⟨t', rfl⟩ := ry; exact PySem.EqNone.eq_none_str (fin_bl I q (by simp))
    | _ => exact absurd (show false = true from hs) Bool.false_ne_true
  | bl i =>
    cases rx
    cases y with
    | non => cases ry; exact PySem.EqNone.eq_bool_none (fin_bl I q (by simp))
    | bl j => cases ry; exact eq_bool (fin_bl I q dec_bl)
    | str j => obtain ⟨t', rfl⟩ := ry; exact PySem.EqMixed.eq_bool_str (fin_bl I q (by simp))
    | _ => exact absurd (show false = true from hs) Bool.false_ne_true
  | int i =>
    obtain ⟨t, rfl⟩ := rx
    cases y with
    | non => cases ry; exact PySem.EqNone.eq_int_none (fin_bl I q (by simp))
    | int j => obtain ⟨t', rfl⟩ := ry; exact eq_int (fin_bl I q dec_int)
    | str j => obtain ⟨t', rfl⟩ := ry; exact PySem.EqMixed.eq_int_str (fin_bl I q (by simp))
    | _ => exact absurd (show false = true from hs) Bool.false_ne_true
  | str i =>
    obtain ⟨t, rfl⟩ := rx
    cases y with
    | non => cases ry; exact PySem.EqNone.eq_str_none (fin_bl I q (by simp))
    | bl j => cases ry; exact PySem.EqMixed.eq_str_bool (fin_bl I q (by simp))
    | int j => obtain ⟨t', rfl⟩ := ry; exact PySem.EqMixed.eq_str_int (fin_bl I q (by simp))
    | str j => obtain ⟨t', rfl⟩ := ry; exact eq_str (fin_bl I q dec_str)
    | _ => exact absurd (show false = true from hs) Bool.false_ne_true
  | byt i =>
    obtain ⟨t, rfl⟩ := rx
    cases y with
    | byt j => obtain ⟨t', rfl⟩ := ry; exact PySem.W.eq_bytes (fin_bl I q dec_byt)
    | _ => exact absurd (show false = true from hs) Bool.false_ne_true
  | _ => cases y <;> exact absurd (show false = true from hs) Bool.false_ne_true
theorem op_ne : OpR X (compareOp .NotEq) rNe := by
  intro pins s σ H x y v u Q I rx ry h
  obtain ⟨hs, q⟩ := h
  cases x with
  | non =>
    cases rx
    cases y with
    | non => cases ry; exact PySem.EqNone.ne_none_none (fin_bl I q (by simp))
    | bl j => cases ry; exact PySem.EqNone.ne_none_bool (fin_bl I q (by simp))
    | int j => obtain ⟨t', rfl⟩ := ry; exact PySem.EqNone.ne_none_int (fin_bl I q (by simp))
    | str j => obtain ⟨t', rfl⟩ := ry; exact PySem.EqNone.ne_none_str (fin_bl I q (by simp))
    | _ => exact absurd (show false = true from hs) Bool.false_ne_true
  | bl i =>
    cases rx
    cases y with
    | non => cases ry; exact PySem.EqNone.ne_bool_none (fin_bl I q (by simp))
    | bl j => cases ry; exact ne_bool (fin_bl I q (congrArg not dec_bl))
    | str j => obtain ⟨t', rfl⟩ := ry; exact PySem.EqMixed.ne_bool_str (fin_bl I q (by simp))
    | _ => exact absurd (show false = true from hs) Bool.false_ne_true
  | int i =>
    obtain ⟨t, rfl⟩ := rx
    cases y with
    | non => cases ry; exact PySem.EqNone.ne_int_none (fin_bl I q (by simp))
    | int j => obtain ⟨t', rfl⟩ := ry; exact ne_int (fin_bl I q (congrArg not dec_int))
    | str j => obtain ⟨t', rfl⟩ := ry; exact PySem.EqMixed.ne_int_str (fin_bl I q (by simp))
    | _ => exact absurd (show false = true from hs) Bool.false_ne_true
  | str i =>
    obtain ⟨t, rfl⟩ := rx
    cases y with
    | non => cases ry; exact PySem.EqNone.ne_str_none (fin_bl I q (by simp))
    | bl j => cases ry; exact PySem.EqMixed.ne_str_bool (fin_bl I q (by simp))
    | int j => obtain ⟨t', rfl⟩ := ry; exact PySem.EqMixed.ne_str_int (fin_bl I q (by simp))
    | str j => obtain ⟨t', rfl⟩ := ry; exact ne_str (fin_bl I q (congrArg not dec_str))
    | _ => exact absurd (show false = true from hs) Bool.false_ne_true
  | byt i =>
    obtain ⟨t, rfl⟩ := rx
    cases y with
    | byt j => obtain ⟨t', rfl⟩ := ry; exact PySem.W.ne_bytes (fin_bl I q (congrArg not dec_byt))
    | _ => exact absurd (show false = true from hs) Bool.false_ne_true
  | _ => cases y <;> exact absurd (show false = true from hs) Bool.false_ne_true
theorem op_lt : OpR X (compareOp .Lt) (rI0 fun i j => .bl (decide (i < j))) := opB0 fun _ _ _ _ _ _ _ q => lt_int q
theorem op_le : OpR X (compareOp .LtE) (rI0 fun i j => .bl (decide (i ≤ j))) := opB0 fun _ _ _ _ _ _ _ q => le_int q
theorem op_gt : OpR X (compareOp .Gt) (rI0 fun i j => .bl (decide (j < i))) := opB0 fun _ _ _ _ _ _ _ q => gt_int q
theorem op_lt_str : OpR X (compareOp .Lt) (fun x y H Q => ∃ i j, x = .str i ∧ y = .str j ∧ Q (.bl (decide (i.cps.toList < j.cps.toList))) H) := by
  intro pins s σ H x y v u Q I rx ry h
  obtain ⟨i, j, rfl, rfl, q⟩ := h
  obtain ⟨t, rfl⟩ := rx
  obtain ⟨t', rfl⟩ := ry
  exact lt_str (fin_bl I q rfl)
theorem op_notN : OpR X (compareOp .IsNot) (fun x y H Q => y = .non ∧ Q (.bl (!decide (x = .non))) H) := by
  intro pins s σ H x y v u Q I rx ry h
  obtain ⟨rfl, q⟩ := h
  cases ry
  refine isnot_none_gen (fin_bl I q ?_)
  cases x <;> first
    | (cases rx; rfl)
    | (obtain ⟨t, rfl⟩ := rx; rfl)
theorem OpR.or {f : Value → Value → Sem Value} {r r' : R2} (h : OpR X f r) (h' : OpR X f r') : OpR X f (fun x y H Q => r x y H Q ∨ r' x y H Q) := by
  intro pins s σ H x y v u Q I rx ry q
  rcases q with q | q
  · exact h pins s σ H x y v u Q I rx ry q
  · exact h' pins s σ H x y v u Q I rx ry q
theorem nomark (b : Expr) {op : CmpOp} (h : op ≠ .In := by decide) (h2 : op ≠ .NotIn := by decide) : behindInMarks op b = false := by
  have e1 : (op == CmpOp.In) = false := by cases op <;> first | rfl | exact absurd rfl h
  have e2 : (op == CmpOp.NotIn) = false := by cases op <;> first | rfl | exact absurd rfl h2
  cases b <;> simp [behindInMarks, e1, e2]
theorem pe_cmpR {op : CmpOp} {r : R2} (ho : OpR X (compareOp op) r) (ha : PE X a ta) (hb : PE X b tb) (hm : behindInMarks op b = false) : PE X (.Compare a [op] [b] pos) (tOp r ta tb) := by
  intro pins s σ H Q I h
  exact wpAny_Compare1 (binT ha hb I h fun v u s2 x y H2 I2 rx ry q => ho pins s2 σ H2 x y v u Q I2 rx ry q) hm
noncomputable def TruV (K : PySem.W.Frag) (x : V) (H : Hp) (k : Bool) : Prop :=
  match x with
  | .non => k = false
  | .bl b => k = b
  | .int i => k = (i != 0)
  | .str y => y.length ≤ sizeLine ∧ k = ((y.length : Int) != 0)
  | .byt y => y.size ≤ sizeLine ∧ k = ((y.size : Int) != 0)
  | .ref p => (∃ xs, SqL K H p xs ∧ k = !xs.isEmpty) ∨ (∃ xs, SqT K H p xs ∧ k = !xs.isEmpty) ∨ ∃ kvs, H p = some (.dK kvs) ∧ k = !kvs.isEmpty
  | _ => False
theorem isEmpty_kv {κ : Type} {kvs : List (κ × V)} {vs : List (κ × Value)} (r : KV kvs vs) : (!vs.isEmpty) = !kvs.isEmpty := by
  cases r <;> rfl
theorem isEmpty_of {xs : List V} {its : List Value} (r : Vals xs its) : (!its.toArray.isEmpty) = !xs.isEmpty := by
  cases r <;> simp
theorem line63 : (sizeLine : Nat) < 2 ^ 63 := by rw [sizeLine_eq]; decide
theorem tru_ok : TruR X (fun x H Q => ∃ k, TruV X.K x H k ∧ Q k H) := by
  intro pins s σ H x v Q I rx h
  obtain ⟨k, e, q⟩ := h
  have hl := line63
  have hs : sizeLine = 16777216 := sizeLine_eq
  cases x with
  | non =>
    cases rx
    have e' : k = false := e
    subst e'
    exact truthy_none ⟨H, I, q⟩
  | bl b =>
    cases rx
    have e' : k = b := e
    subst e'
    exact wpAny_truthy_bool ⟨H, I, q⟩
  | int i =>
    obtain ⟨t, rfl⟩ := rx
    have e' : k = (i != 0) := e
    subst e'
    exact PySem.P.truthy_int ⟨H, I, q⟩
  | str y =>
    obtain ⟨t, rfl⟩ := rx
    obtain ⟨hy, e'⟩ : y.length ≤ sizeLine ∧ k = ((y.length : Int) != 0) := e
    subst e'
    exact PySem.P.truthy_str (by lia) ⟨H, I.tok _, q⟩
  | byt y =>
    obtain ⟨t, rfl⟩ := rx
    obtain ⟨hy, e'⟩ : y.size ≤ sizeLine ∧ k = ((y.size : Int) != 0) := e
    subst e'
    exact PySem.W.truthy_bytes (by lia) ⟨H, I.tok _, q⟩
  | ref p =>
    cases rx
    have e' : (∃ xs, SqL X.K H p xs ∧ k = !xs.isEmpty) ∨ (∃ xs, SqT X.K H p xs ∧ k = !xs.isEmpty) ∨ ∃ kvs, H p = some (.dK kvs) ∧ k = !kvs.isEmpty := e
    rcases e' with ⟨xs, hx, e'⟩ | ⟨xs, hx, e'⟩ | ⟨kvs, hx, e'⟩
    · subst e'
      obtain ⟨its, r, pl, hz⟩ := I.list hx
      have hlen := r.length
      exact wpAny_truthy_list pl.isList (by simp only [List.size_toArray]; lia) ⟨H, I.tok _, by rw [isEmpty_of r]; exact q⟩
    · subst e'
      obtain ⟨its, r, pl, hz⟩ := I.tuple hx
      have hlen := r.length
      exact truthy_tuple pl (by simp only [List.size_toArray]; lia) ⟨H, I.tok _, by rw [isEmpty_of r]; exact q⟩
    · subst e'
      obtain ⟨hz, hS, vs, r, m⟩ : kvs.length ≤ sizeLine ∧ (p == sysModules) = false ∧ ∃ vs, KV kvs vs ∧ s.heap.DictOf (mixKind X.prog X.w) p vs := I.hok p _ hx
      have hlen : kvs.length = vs.length := Paired.length r
      exact wpAny_truthy_dict hS m (by lia) ⟨H, I.tok _, by rw [isEmpty_kv r]; exact q⟩
  | _ => exact (show False from e).elim
theorem pt_truth (ha : PE X a ta) (he : ∀ whole, isTrue a X.env whole = (do let v ← whole; standAt a.pos; holding [v] (truthy v))) :
    PT X a (fun σ H Q => ta σ H fun x H' => ∃ k, TruV X.K x H' k ∧ Q k H') := by
  intro pins s σ H Q I h
  exact isTrue_plain (thn (ha pins s σ H _ I h) fun v s1 ⟨x, H1, I1, r1, q1⟩ => tru_ok pins s1 σ H1 x v Q I1 r1 q1) (he _)
theorem op_add_str : OpR X (binaryOp .Add) (fun x y H Q => ∃ i j, x = .str i ∧ y = .str j ∧ i.length + j.length ≤ sizeLine ∧ Q (.str (i ++ j)) H) := by
  intro pins s σ H x y v u Q I rx ry h
  obtain ⟨i, j, rfl, rfl, hz, q⟩ := h
  obtain ⟨t, rfl⟩ := rx
  obtain ⟨t', rfl⟩ := ry
  exact add_str (fun t' tk => ⟨.str (i ++ j), H, I.tok _, ⟨_, rfl⟩, q⟩) hz
theorem vals1 {x : V} {us : List Value} (r : Vals [x] us) : ∃ u, us = [u] ∧ RelV x u := by
  cases r with
  | cons r1 r2 => cases r2; exact ⟨_, rfl, r1⟩
theorem vals2 {x y : V} {us : List Value} (r : Vals [x, y] us) : ∃ u w', us = [u, w'] ∧ RelV x u ∧ RelV y w' := by
  cases r with
  | cons r1 r2 =>
    cases r2 with
    | cons r3 r4 => cases r4; exact ⟨_, _, rfl, r1, r3⟩
inductive rTwo (f : Int → Int → Int) (xs : List V) (H : Hp) (Q : VK) : Prop
  | mk (i j : Int) (h0 : xs = [.int i, .int j]) (h1 : Q (.int (f i j)) H) : rTwo f xs H Q
theorem call_max2 (hc : X.calm = true) : CallR X (.builtin "max") (rTwo fun i j => if j > i then j else i) := by
  intro pins s σ H xs us Q I r h
  obtain ⟨i, j, rfl, q⟩ := h
  obtain ⟨u, w', rfl, ⟨t, rfl⟩, ⟨t', rfl⟩⟩ := vals2 r
  refine max_two_ints (I.ok.hd hc) fun h' tk k => ⟨_, H, I.kept k, ?_, q⟩
  by_cases hj : j > i
  · rw [if_pos hj, if_pos hj]; exact ⟨_, rfl⟩
  · rw [if_neg hj, if_neg hj]; exact ⟨_, rfl⟩
theorem call_min2 (hc : X.calm = true) : CallR X (.builtin "min") (rTwo fun i j => if j < i then j else i) := by
  intro pins s σ H xs us Q I r h
  obtain ⟨i, j, rfl, q⟩ := h
  obtain ⟨u, w', rfl, ⟨t, rfl⟩, ⟨t', rfl⟩⟩ := vals2 r
  refine min_two_ints (I.ok.hd hc) fun h' tk k => ⟨_, H, I.kept k, ?_, q⟩
  by_cases hj : j < i
  · rw [if_pos hj, if_pos hj]; exact ⟨_, rfl⟩
  · rw [if_neg hj, if_neg hj]; exact ⟨_, rfl⟩
theorem call_int1 : CallR X (.type "int") (fun xs H Q => (∃ i, xs = [.int i] ∧ Q (.int i) H) ∨ ∃ k, xs = [.bl k] ∧ Q (.int (if k then 1 else 0)) H) := by
  intro pins s σ H xs us Q I r h
  rcases h with ⟨i, rfl, q⟩ | ⟨k, rfl, q⟩
  · obtain ⟨u, rfl, t, rfl⟩ := vals1 r
    exact call_int_int ⟨.int i, H, I, ⟨_, rfl⟩, q⟩
  · obtain ⟨u, rfl, r1⟩ := vals1 r
    cases r1
    exact call_int_bool ⟨.int (if k then 1 else 0), H, I.tok _, ⟨_, rfl⟩, q⟩
end
end L2
namespace L2
open PySem PySem.Spec PyProof.Rows
structure ObjM (h : Heap) (x dx C : Addr) (mA : Str → Option Value) : Prop where
  obj : h.get? x = some (PySem.W.instObj C dx)
  ns : h.Ns1 dx mA
  ne : dx ≠ x
theorem lookIn_ns {h : Heap} {dx : Addr} {mA : Str → Option Value} (n : h.Ns1 dx mA) : ∃ od, h.get? dx = some od ∧ ∀ name, PySem.W.lookIn name od = some (mA name) := by
  obtain ⟨o, es, ep, ho, hd, hk, _, hm⟩ := n
  refine ⟨o, ho, fun name => ?_⟩
  have e := hm name
  unfold nsFind findBy at e
  rw [← Array.find?_toList] at e
  unfold PySem.W.lookIn
  rw [hd]
  dsimp only
  split
  · rename_i y q
    rw [q] at e
    exact congrArg some e
  · rename_i q
    rw [q] at e
    have a : es.toList.any (·.refKey) = false := by
      rw [List.any_eq_false]
      intro y hy
      obtain ⟨z, t, hkey⟩ := hk y (Array.mem_toList_iff.mp hy)
      simp [DictEntry.refKey, hkey]
    have a' : ¬ es.toList.any (·.refKey) = true := by rw [a]; exact Bool.false_ne_true
    rw [if_neg a']
    exact congrArg some e
theorem ObjM.look {h : Heap} {x dx C : Addr} {mA : Str → Option Value} (I : ObjM h x dx C mA) : ∃ od, PySem.W.InstAt h x (PySem.W.instObj C dx) C (some od) ∧ ∀ name, PySem.W.lookIn name od = some (mA name) :=
  let ⟨od, ho, hl⟩ := lookIn_ns I.ns
  ⟨od, ⟨I.obj, rfl, rfl, ho⟩, hl⟩
section
variable {prog : Program} {w : World} {A : Around} {E : Value → Shared → Prop} {s : Shared} {K : PySem.W.Frag} {x dx C f : Addr} {mA : Str → Option Value} {name : Str} {v : Value}
end
theorem RelO.some_of {v : V} {o : Option Value} (r : RelO (some v) o) : ∃ u, o = some u ∧ RelV v u := by
  cases o with
  | none => exact (show False from r).elim
  | some u => exact ⟨u, rfl, r⟩
section
variable {P : Program} {w : World} {H H' : Hp} {h h' : Heap} {a C dx : Addr} {fs fs' : List (Str × V)}
theorem ins_get (hok : HOk P w H h) (e : H a = some (.ins C dx fs)) : ∃ mA, ObjM h a dx C mA ∧ (∀ f, RelO (fs.lookup f) (mA f)) ∧ PySem.Within mA (fs.map (·.1)) ∧ fs.length ≤ 1000 ∧ H dx = some (.own a) := by
  obtain ⟨d, z, ne, ob, mA, n, r, q⟩ := (show ObjOk P w H h a (.ins C dx fs) from hok a _ e)
  exact ⟨mA, ⟨ob, n, ne⟩, r, q, z, d⟩
end
structure Cls (K : PySem.W.Frag) (C : Addr) : Prop where
  pg : PySem.W.plainGet K C Str.empty = true
  hd : PySem.W.hasDictIn K C = true
  po : PySem.W.plainOver K C = true
  sa : PySem.W.findIn K (.ref C) "__setattr__" = some (some (.builtin "object.__setattr__"))
theorem Cls.get {K : PySem.W.Frag} {C : Addr} (c : Cls K C) (f : Str) : PySem.W.plainGet K C f = true := c.pg
section
variable {X : Cx} {pins : List (Addr × Obj)} {σ : St} {H : Hp} {s : Shared} {a C dx : Addr} {fs : List (Str × V)} {f : Str} {v : V} {A : Around} {E : Value → Shared → Prop}
end
section
variable {X : Cx} {o e value : Expr} {f : Str} {pos pos' tpos : Pos} {ta tv : TE}
end
section
variable {X : Cx} {pins : List (Addr × Obj)} {σ : St} {H : Hp} {s : Shared} {A : Around} {E : Value → Shared → Prop} {Q : Value → Shared → Prop} {c : Value} {b : Bool}
inductive TyOf (K : PySem.W.Frag) (H : Hp) : V → Value → Prop where
  | non : TyOf K H .non (.type "NoneType")
  | bl (x : Bool) : TyOf K H (.bl x) (.type "bool")
  | int (i : Int) : TyOf K H (.int i) (.type "int")
  | str (x : Str) : TyOf K H (.str x) (.type "str")
  | flt (x : UInt64) : TyOf K H (.flt x) (.type "float")
  | lst {a : Addr} {xs : List V} (e : H a = some (.lst xs)) : TyOf K H (.ref a) (.type "list")
  | frz {a : Addr} {o : Obj} {xs : List V} (e : H a = some (.frz o (.lst xs))) : TyOf K H (.ref a) (.type "list")
  | tup {a : Addr} {xs : List V} (e : H a = some (.tup xs)) : TyOf K H (.ref a) (.type "tuple")
  | dK {a : Addr} {kvs : List (Key × V)} (e : H a = some (.dK kvs)) : TyOf K H (.ref a) (.type "dict")
  | dT {a : Addr} {kvs : List (List Key × V)} (e : H a = some (.dT kvs)) : TyOf K H (.ref a) (.type "dict")
  | ins {a C dx : Addr} {fs : List (Str × V)} (e : H a = some (.ins C dx fs)) (cl : Cls K C) (ha : PySem.W.findIn K (.ref C) "__class__" = some (some (.builtin "object.__class__")))
      (hn : PySem.W.specialIn K (.builtin "object.__class__") "__get__" = some (some (.builtin "getset_descriptor.__get__"))) (htk : PySem.W.takesIn K (.builtin "object.__class__") = some true)
      (hm : PySem.W.mroIn K C (.type "object") = some true) : TyOf K H (.ref a) (.ref C)
end
end L2
namespace L2
open PySem PySem.Spec PyProof.Rows
structure Room (k : Nat) (A : Around) : Prop where
  hd : A.handled = none
  dp : A.depth + 3 * k + 5 < recursionLimit
  un : A.units + 16 * k + 200 < cLine
theorem Room.mono {j k : Nat} {A : Around} (r : Room k A) (h : j ≤ k) : Room j A := ⟨r.hd, by have := r.dp; lia, by have := r.un; lia⟩
theorem Room.deeper {k : Nat} {A : Around} (r : Room (k + 1) A) (env : Env) : Room k (A.deeper env) :=
  ⟨r.hd, by have := r.dp; show A.depth + 1 + 3 * k + 5 < _; lia, by have := r.un; show A.units + 3 + 16 * k + 200 < _; lia⟩
theorem Room.depth {k : Nat} {A : Around} (r : Room k A) : A.depth < recursionLimit := by have := r.dp; lia
theorem Room.units {k : Nat} {A : Around} (r : Room k A) : A.units + 64 < cLine := by have := r.un; lia
noncomputable def tNil : TA := fun _ H Q => Q [] H
noncomputable def tCons (ta : TE) (tr : TA) : TA := fun σ H Q => ta σ H fun x H1 => tr σ H1 fun xs H2 => Q (x :: xs) H2
section
variable {X : Cx} {e : Expr} {es : List Expr} {te : TE} {t : TA} {pos : Pos}
theorem pa_nil : PA X [] tNil := fun _ _ _ _ H Q I h => Calls.spliced_nil ⟨[], H, I, .nil, h⟩
theorem pa_cons (ha : PE X e te) (hr : PA X es t) (hs : starEach (e :: es) X.env = (false, eval e X.env) :: starEach es X.env := by rfl) : PA X (e :: es) (tCons te t) := by
  intro pos pins s σ H Q I h
  rw [hs]
  show wpAny _ _ (spliced ((false, eval e X.env) :: backTo pos (starEach es X.env))) _ _ s
  refine Calls.spliced_cons (thn (ha pins s σ H _ I h) fun u s1 ⟨x, H1, I1, r1, q1⟩ => ?_)
  exact thn (hr pos pins s1 σ H1 _ I1 q1) fun us s2 ⟨xs, H2, I2, r2, q2⟩ => ⟨x :: xs, H2, I2, .cons r1 r2, q2⟩
noncomputable def tTup (t : TA) : TE := fun σ H Q => t σ H fun xs H1 => xs.length ≤ sizeLine ∧ ∀ p, H1 p = none → Q (.ref p) (upd H1 p (.tup xs))
noncomputable def tLst (t : TA) : TE := fun σ H Q => t σ H fun xs H1 => xs.length ≤ sizeLine ∧ ∀ p, H1 p = none → Q (.ref p) (upd H1 p (.lst xs))
theorem pe_tup {x1} (h : PA X es t) : PE X (.Tuple es x1 pos) (tTup t) := by
  intro pins s σ H Q I hq
  refine wpAny_Tuple_spliced (thn (h pos pins s σ H _ I hq) fun us s1 ⟨xs, H1, I1, r, z, q⟩ => ⟨by rw [← r.length]; exact z, ?_⟩)
  have hf : H1 s1.heap.objs.size = none := I1.hok.fresh (Nat.le_refl _)
  refine ⟨.ref s1.heap.objs.size, upd H1 s1.heap.objs.size (.tup xs), I1.laid (t' := s1.toks) (fun b u e => Heap.get?_push_of_some _ e) (Nat.le_refl _) ?_, rfl, q _ hf⟩
  exact ⟨z, us, r, ⟨_, Heap.get?_push_size _ rfl, rfl, _, rfl⟩⟩
theorem pe_lst (h : PA X es t) : PE X (.List es pos) (tLst t) := by
  intro pins s σ H Q I hq
  refine wpAny_List_spliced (thn (h pos pins s σ H _ I hq) fun us s1 ⟨xs, H1, I1, r, z, q⟩ => ⟨by rw [← r.length]; exact z, ?_⟩)
  have hf : H1 s1.heap.objs.size = none := I1.hok.fresh (Nat.le_refl _)
  refine ⟨.ref s1.heap.objs.size, upd H1 s1.heap.objs.size (.lst xs), I1.laid (t' := s1.toks) (fun b u e => Heap.get?_push_of_some _ e) (Nat.le_refl _) ?_, rfl, q _ hf⟩
  exact ⟨z, us, 0, r, Heap.get?_push_size _ rfl⟩
end
noncomputable abbrev Sp := List V → Hp → VK → XK → Prop
noncomputable abbrev CXT := List Env → Hp → Shared → XK → Value → Shared → Prop
structure Env0 (P : Program) (w : World) (K : PySem.W.Frag) (mg : Str → Option Value) (base : Heap) (A : Around) (outer : List Env) (s : Shared) (H : Hp) : Prop where
  frames : A.frames = some outer
  mod : Mod K mg base
  bs : ∀ b o, base.get? b = some o → s.heap.get? b = some o ∧ H b = none
  bsz : base.objs.size ≤ s.heap.objs.size
  funs : s.heap.FunFrames base outer
  frf : ∀ b ∈ frs outer, H b = none
  hok : HOk P w H s.heap
  bare : AllBare s.gens
noncomputable def CE (outer : List Env) (P : Program) (w : World) (H : Hp) (s : Shared) (Q : VK) (u : Value) (s' : Shared) : Prop :=
  ∃ v H', s'.os = s.os ∧ AllBare s'.gens ∧ Un (frs outer) [] H H' s.heap s'.heap ∧ HOk P w H' s'.heap ∧ RelV v u ∧ Q v H'
noncomputable def CR (CX : CXT) (outer : List Env) (P : Program) (w : World) (H : Hp) (s : Shared) (Q : VK) (E : XK) (r : Result) (s' : Shared) : Prop :=
  match r with
  | .ok (.ret u) => CE outer P w H s Q u s'
  | .ok _ => False
  | .error e => CX outer H s E e s'
structure FnOk (P : Program) (w : World) (K : PySem.W.Frag) (mg : Str → Option Value) (base : Heap) (CX : CXT) (k : Nat) (f : Addr) (fd : FuncData) (ps : List Str) (sp : Sp) : Prop where
  len : ∀ vs H Q E, sp vs H Q E → vs.length = ps.length
  run : ∀ (A : Around) (outer : List Env) (s : Shared) (H : Hp) (args : Args) (us : List Value) (vs : List V) (Q : VK) (E : XK), Room k A → Env0 P w K mg base A outer s H → BindsTo s fd args (ps.zip us) → Vals vs us → sp vs H Q E →
    codeAny (model P w) A (.call (.ref f) args) (CR CX outer P w H s Q E) s
theorem FnOk.mono {P : Program} {w : World} {K : PySem.W.Frag} {mg : Str → Option Value} {base : Heap} {CX : CXT} {j k : Nat} {f : Addr} {fd : FuncData} {ps : List Str} {sp : Sp} (F : FnOk P w K mg base CX j f fd ps sp) (h : j ≤ k) :
    FnOk P w K mg base CX k f fd ps sp := ⟨F.len, fun A outer s H args us vs Q E hr => F.run A outer s H args us vs Q E (hr.mono h)⟩
section
variable {X : Cx} {pins : List (Addr × Obj)} {σ : St} {H : Hp} {s s' : Shared}
theorem Inv.env0 (I : Inv X pins σ H s) : Env0 X.prog X.w X.K X.mg X.base X.A X.stack s H :=
  ⟨I.ok.frames, I.ok.mod, I.bs, Nat.le_trans I.ok.bsz I.sz, I.stack, I.stkFree, I.hok, I.bare⟩
theorem Inv.after {Q : VK} {u : Value} (I : Inv X pins σ H s) (h : CE X.stack X.prog X.w H s Q u s') : EP X pins σ Q u s' := by
  obtain ⟨v, H', os, bare, un, hok, r, q⟩ := h
  obtain ⟨hh, g, d, t, os'⟩ := s'
  obtain rfl : os' = s.os := os
  exact ⟨v, H', I.call (h' := hh) (g' := g) (d' := d) (t' := t) (ch := []) un hok bare (fun b z => absurd z (by simp)), r, q⟩
end
noncomputable def tCall (sp : Sp) (dvs : List V) (E : XK) (t : TA) : TE := fun σ H Q => t σ H fun vs H1 => sp (vs ++ dvs) H1 Q E
noncomputable def Binds (K : PySem.W.Frag) (fd : FuncData) (ps : List Str) (ds : List Value) : Prop :=
  ∀ (s : Shared) (us : List Value), K.In s.heap → (us ++ ds).length = ps.length → BindsTo s fd ⟨us, []⟩ (ps.zip (us ++ ds))
theorem Binds.all {K : PySem.W.Frag} {fd : FuncData} {ps : List Str} (h : ∀ us : List Value, us.length = ps.length → bindArgs fd ⟨us, []⟩ = pure (ps.zip us)) : Binds K fd ps [] := fun s us _ hl => by
  rw [List.append_nil] at hl ⊢
  exact .of_eq (h us hl)
noncomputable def Passes (CX : CXT) (X : Cx) (E : XK) : Prop := ∀ (pins : List (Addr × Obj)) (σ : St) (H : Hp) (s : Shared) (e : Value) (s' : Shared), Inv X pins σ H s → CX X.stack H s E e s' → X.xe e s'
section
variable {X : Cx} {CX : CXT} {k : Nat} {f C : Addr} {fd : FuncData} {ps : List Str} {sp : Sp} {dvs : List V} {ds : List Value} {E : XK} {x m : Str} {p pos apos : Pos} {e o : Expr} {es : List Expr} {ta : TE} {t : TA}
theorem run_fn {pins : List (Addr × Obj)} {σ : St} {H : Hp} {s : Shared} {Q : VK} {us : List Value} {vs : List V} (F : FnOk X.prog X.w X.K X.mg X.base CX k f fd ps sp) (hr : Room k X.A) (hb : Binds X.K fd ps ds) (hd : Vals dvs ds) (hx : Passes CX X E)
    (I : Inv X pins σ H s) (r : Vals vs us) (h : sp (vs ++ dvs) H Q E) : wpAny (model X.prog X.w) X.A (call (.ref f) us) (EP X pins σ Q) X.xe s := by
  have r2 : Vals (vs ++ dvs) (us ++ ds) := r.append hd
  have hl : (us ++ ds).length = ps.length := by rw [← r2.length]; exact F.len _ _ _ _ h
  refine wpAny_call (codeAny_mono (F.run X.A X.stack s H ⟨us, []⟩ (us ++ ds) (vs ++ dvs) Q E hr I.env0 (hb s us I.kIn hl) r2 h) fun r s' hq => ?_)
  cases r with
  | error e => exact hx pins σ H s e s' I hq
  | ok fl =>
    cases fl with
    | ret u => exact I.after hq
    | next => exact False.elim hq
    | brk => exact False.elim hq
    | cont => exact False.elim hq
theorem pe_call (F : FnOk X.prog X.w X.K X.mg X.base CX k f fd ps sp) (hr : Room k X.A) (hg : Gl X x) (hm : X.mg x = some (.ref f)) (hk : PySem.W.keepIn X.K (.ref f) = true) (hb : Binds X.K fd ps ds) (hd : Vals dvs ds) (hx : Passes CX X E)
    (ha : PA X (e :: es) t) (hdb : (x == ("__debug__" : Str)) = false := by decide) (he : starEach (e :: es) X.env = (false, eval e X.env) :: starEach es X.env := by rfl) (hpl : (backTo pos (starEach es X.env)).any (·.1) = false := by rfl) :
    PE X (.Call (.Name x p) (e :: es) [] pos) (tCall sp dvs E t) := by
  intro pins s σ H Q I h
  refine wpAny_Call_Name_kw (ld_glob I hg hm ?_ hdb)
  refine PySem.W.callWith_K (h₀ := X.base) I.ok.mod.kin hk (thn (ha pos pins s σ H _ I h) fun us s1 ⟨vs, H1, I1, r, q⟩ => ⟨I1.kIn, ?_⟩) he hpl
  exact run_fn F hr hb hd hx I1 r q
end
section
variable {X : Cx} {CX : CXT} {k : Nat} {f C : Addr} {fd : FuncData} {ps ks : List Str} {sp : Sp} {E : XK} {x m : Str} {p pos apos kpos : Pos} {e o : Expr} {es : List Expr} {kws : List Keyword} {te ta : TE} {t tk : TA} {nm : Option Str}
variable {g : List Value → List Value → List Value} {gV : List V → List V → List V}
end
structure FnScope (N P : List Str) (sc : Scope) : Prop where
  kind : sc.kind = .function
  co : sc.isCoroutine = false
  gen : sc.isGenerator = false
  nd : N.Nodup
  pre : N.take P.length = P
  par : ∀ x ∈ P, sc.names.lookup x = some .local ∨ sc.names.lookup x = some .cell
  nofree : ∀ y ∈ sc.names, y.2 ≠ .free
theorem bindL_out {kindOf : Str → Option NameKind} {x : Str} : ∀ {binds : List (Str × Value)} {m : Str → Option Value}, (∀ v, (x, v) ∉ binds) → bindL kindOf binds m x = m x
  | [], _, _ => rfl
  | (n, v) :: r, m, h => by
    unfold bindL
    rw [bindL_out fun w hw => h w (List.mem_cons_of_mem _ hw)]
    split
    · have : x ≠ n := by rintro rfl; exact h v List.mem_cons_self
      simp [this]
    · rfl
theorem bindC_out {kindOf : Str → Option NameKind} {x : Str} : ∀ {binds : List (Str × Value)} {m : Str → Option Value}, (∀ v, (x, v) ∉ binds) → bindC kindOf binds m x = m x
  | [], _, _ => rfl
  | (n, v) :: r, m, h => by
    unfold bindC
    rw [bindC_out fun w hw => h w (List.mem_cons_of_mem _ hw)]
    split
    · rfl
    · have : x ≠ n := by rintro rfl; exact h v List.mem_cons_self
      simp [this]
theorem bindL_get {kindOf : Str → Option NameKind} {x : Str} {v : Value} : ∀ {P : List Str} {vs : List Value} {i : Nat} {m : Str → Option Value}, P.Nodup → P[i]? = some x → vs[i]? = some v → kindOf x = some .local →
    bindL kindOf (P.zip vs) m x = some v
  | [], _, _, _, _, h, _, _ => by simp at h
  | _ :: _, [], _, _, _, _, h, _ => by simp at h
  | p :: P, w :: vs, 0, m, nd, h1, h2, hk => by
    simp at h1 h2; subst h1; subst h2
    show bindL kindOf ((p, w) :: P.zip vs) m p = _
    unfold bindL
    rw [bindL_out fun v hv => (List.nodup_cons.mp nd).1 (List.of_mem_zip hv).1, if_pos hk]
    simp
  | p :: P, w :: vs, i + 1, m, nd, h1, h2, hk => by
    show bindL kindOf ((p, w) :: P.zip vs) m x = _
    unfold bindL
    exact bindL_get (i := i) (List.nodup_cons.mp nd).2 (by simpa using h1) (by simpa using h2) hk
theorem bindC_get {kindOf : Str → Option NameKind} {x : Str} {v : Value} : ∀ {P : List Str} {vs : List Value} {i : Nat} {m : Str → Option Value}, P.Nodup → P[i]? = some x → vs[i]? = some v → kindOf x ≠ some .local →
    bindC kindOf (P.zip vs) m x = some v
  | [], _, _, _, _, h, _, _ => by simp at h
  | _ :: _, [], _, _, _, _, h, _ => by simp at h
  | p :: P, w :: vs, 0, m, nd, h1, h2, hk => by
    simp at h1 h2; subst h1; subst h2
    show bindC kindOf ((p, w) :: P.zip vs) m p = _
    unfold bindC
    rw [bindC_out fun v hv => (List.nodup_cons.mp nd).1 (List.of_mem_zip hv).1, if_neg hk]
    simp
  | p :: P, w :: vs, i + 1, m, nd, h1, h2, hk => by
    show bindC kindOf ((p, w) :: P.zip vs) m x = _
    unfold bindC
    exact bindC_get (i := i) (List.nodup_cons.mp nd).2 (by simpa using h1) (by simpa using h2) hk
noncomputable def start (N : List Str) (vs : List V) : St := vs.map some ++ List.replicate (N.length - vs.length) none
noncomputable def cxOf (CX : CXT) (P : Program) (w : World) (K : PySem.W.Frag) (mg : Str → Option Value) (base : Heap) (N : List Str) (qual : Str) (scope : Scope) (f : Addr) (cd : Value) (A : Around) (outer : List Env) (s : Shared) (H : Hp) (E : XK) : Cx where
  prog := P
  w := w
  K := K
  mg := mg
  base := base
  A := A.deeper (envOfC qual scope s.heap.objs.size f cd)
  N := N
  s₀ := s
  H₀ := H
  env := envOfC qual scope s.heap.objs.size f cd
  outer := outer
  stack := envOfC qual scope s.heap.objs.size f cd :: outer
  ex := []
  calm := true
  fn := fun _ => true
  pn := []
  xe := fun e s' => wpAny (model P w) (A.deeper (envOfC qual scope s.heap.objs.size f cd)) (leaving (envOfC qual scope s.heap.objs.size f cd) e) (fun _ s'' => CX outer H s E e s'') (fun e' s'' => CX outer H s E e' s'') s'
theorem cell_has {sc : Scope} {n : Nat} {x : Str} (h : sc.names.lookup x = some .cell) : ∃ c, (cellsFrom n sc.names []).lookup x = some c := by
  have q := PySem.W.cellsFrom_some sc.names n [] (.inl h)
  exact Option.isSome_iff_exists.mp q
theorem inv_start {CX : CXT} {P : Program} {w : World} {K : PySem.W.Frag} {mg : Str → Option Value} {base : Heap} {N ps : List Str} {qual : Str} {scope : Scope} {f : Addr} {cd : Value} {A : Around} {outer : List Env} {s s1 : Shared} {H : Hp} {E : XK} {us : List Value} {vs : List V}
    (S : FnScope N ps scope) (hd : A.handled = none) (e0 : Env0 P w K mg base A outer s H) (hl : vs.length = ps.length) (r : Vals vs us)
    (x : InCallC s s.heap.objs.size (bindL (envOfC qual scope s.heap.objs.size f cd).kindOf (ps.zip us) fun _ => none) (cellsFrom (s.heap.objs.size + 1) scope.names []) (bindC (envOfC qual scope s.heap.objs.size f cd).kindOf (ps.zip us) fun _ => none) s1) :
    Inv (cxOf CX P w K mg base N qual scope f cd A outer s H E) [] (start N vs) H s1 := by
  have hpl : ps.length ≤ N.length := by have := congrArg List.length S.pre; rw [List.length_take] at this; lia
  obtain ⟨h1, tk, rfl, hk⟩ := x.done
  have noA : ∀ b : Addr, b ∉ (cxOf CX P w K mg base N qual scope f cd A outer s H E).ex := fun b z => absurd (show b ∈ ([] : List Addr) from z) (by simp)
  refine ⟨⟨e0.mod, S.kind, rfl, rfl, Nat.le_refl _, fun y z c h1 h2 => ?_, fun y hy => ?_, fun y c _ h => ?_, fun _ => hd, Around.frames_deeper e0.frames, .inr ⟨rfl, rfl⟩, fun b z => absurd z (noA b), e0.bs, e0.bsz, fun b _ _ => noA b, fun b z => absurd z (noA b), e0.funs, e0.frf⟩,
    rfl, e0.bare, Un.kept hk, ⟨_, x.toInCall.ns, fun i y v h1 h2 h3 => ?_⟩, fun y c h => ⟨_, x.cell y c h⟩, e0.hok.fresh (Nat.le_refl _), fun y c h => ?_, fun p hp => absurd (show p ∈ ([] : List (Addr × Obj)) from hp) (by simp), e0.hok.kept hk, ?_⟩
  · exact name_of_addr x.apart (PySem.mem_of_lookup h1) (PySem.mem_of_lookup h2)
  · have hy : scope.names.lookup y = some .cell ∨ scope.names.lookup y = some .free := hy
    rcases hy with hy | hy
    · exact cell_has hy
    · exact absurd rfl (S.nofree _ (PySem.mem_of_lookup hy))
  · exact Nat.le_of_lt (x.above y c (PySem.mem_of_lookup h))
  · have hi : i < vs.length := by
      unfold start at h2
      by_cases hi : i < vs.length
      · exact hi
      · rw [List.getElem?_append_right (by simpa using hi)] at h2
        rw [List.getElem?_replicate] at h2
        split at h2 <;> cases h2
    have ha : vs[i]? = some v := by
      unfold start at h2
      rw [List.getElem?_append_left (by simpa using hi), List.getElem?_map] at h2
      cases e : vs[i]? with
      | none => rw [e] at h2; cases h2
      | some a => rw [e] at h2; cases h2; rfl
    obtain ⟨u, hu, rv⟩ := r.get ha
    have hp : ps[i]? = some y := by
      rw [← S.pre, List.getElem?_take_of_lt (by lia)]; exact h1
    have ndP : ps.Nodup := by rw [← S.pre]; exact S.nd.sublist (List.take_sublist _ _)
    refine ⟨u, rv, ?_⟩
    rcases S.par y (List.mem_of_getElem? hp) with k | k
    · exact .inl ⟨k, bindL_get ndP hp hu k⟩
    · obtain ⟨c, e⟩ := cell_has (n := s.heap.objs.size + 1) k
      refine .inr ⟨.inl k, c, e, ?_⟩
      have q := x.cell y c e
      rw [bindC_get ndP hp hu (by show scope.names.lookup y ≠ _; rw [k]; decide)] at q
      exact q
  · exact e0.hok.fresh (Nat.le_of_lt (x.above y c (PySem.mem_of_lookup h)))
  · unfold start
    show _ = N.length
    rw [List.length_append, List.length_map, List.length_replicate]
    lia
theorem fn_of {CX : CXT} {P : Program} {w : World} {K : PySem.W.Frag} {mg : Str → Option Value} {base : Heap} {k : Nat} {f : Addr} {name qual : Str} {params : Arguments} {body : List Stmt} {scope : Scope} {dV kV doc pm cdv ct oc : Value} {an od : Option Addr}
    {osl : Array (Option Value)} {N ps : List Str} {sp : Sp} (lk : K.lookup f = some ⟨oc, od, .func (PySem.W.fnOf name qual params body scope dV kV doc pm an cdv ct), osl⟩) (hcd : PySem.W.codeIn K cdv qual = true) (S : FnScope N ps scope)
    (len : ∀ vs H Q E, sp vs H Q E → vs.length = ps.length)
    (hbody : ∀ (A : Around) (outer : List Env) (s : Shared) (H : Hp) (vs : List V) (Q : VK) (E : XK), Room k (A.deeper (envOfC qual scope s.heap.objs.size f cdv)) → sp vs H Q E →
      ∃ t, PSs (cxOf CX P w K mg base N qual scope f cdv A outer s H E) body t ∧ t { nx := fun _ H' => Q .non H', rt := Q } (start N vs) H) :
    FnOk P w K mg base CX (k + 1) f (PySem.W.fnOf name qual params body scope dV kV doc pm an cdv ct) ps sp := by
  refine ⟨len, fun A outer s H args us vs Q E hr e0 hb r hsp => ?_⟩
  have hl := len _ _ _ _ hsp
  have KX : K.In s.heap := e0.mod.kin.keeps fun b o e => (e0.bs b o e).1
  have lim : s.heap.NoLimit := e0.mod.nolimit.keeps fun b o e => (e0.bs b o e).1
  have hkind : ∀ y ∈ ps.zip us, scope.names.lookup y.1 = some .local ∨ (scope.names.lookup y.1 = some .cell ∧ ((cellsFrom (s.heap.objs.size + 1) scope.names []).lookup y.1).isSome = true) := fun ⟨n, v⟩ hy => by
    rcases S.par n (List.of_mem_zip hy).1 with q | q
    · exact .inl q
    · exact .inr ⟨q, PySem.W.cellsFrom_some _ _ _ (.inl q)⟩
  refine codeAny_call_function hr.depth (KX _ _ lk) rfl S.co S.gen rfl (PySem.W.codeRec_of KX hcd) (hb _ _ _ _ ?_)
  refine wpAny_newFunctionEnv_cells S.kind hkind fun env he s1 x => ?_
  subst he
  refine ⟨lim.keeps x.toInCall.keep, codeAny_func ?_⟩
  obtain ⟨t, ht, hq⟩ := hbody A outer s H vs Q E (hr.deeper _) hsp
  have I : Inv (cxOf CX P w K mg base N qual scope f cdv A outer s H E) [] (start N vs) H s1 := inv_start S hr.hd e0 hl r x
  refine wpAny_mono (ht [] s1 (start N vs) H _ I hq) (fun fl s' hs => ?_) fun e s' hs => hs
  have fin : ∀ {σ' : St} {H' : Hp} {v : V} {u : Value}, Inv (cxOf CX P w K mg base N qual scope f cdv A outer s H E) [] σ' H' s' → RelV v u → Q v H' → CE outer P w H s Q u s' :=
    fun {σ' H' v u} J rv q => ⟨v, H', J.os, J.bare, J.base, J.hok, rv, q⟩
  cases fl with
  | ret u =>
    obtain ⟨v, σ', H', J, rv, q⟩ := hs
    exact fin J rv q
  | next =>
    obtain ⟨σ', H', J, q⟩ := hs
    exact fin (v := V.non) (u := Value.none) J rfl q
  | brk =>
    obtain ⟨_, _, _, q⟩ := hs
    exact False.elim q
  | cont =>
    obtain ⟨_, _, _, q⟩ := hs
    exact False.elim q
end L2
namespace L2
open PySem PySem.Spec PyProof.Rows
section
variable {X : Cx} {x : Str} {p pos : Pos} {e : Expr} {es : List Expr} {t : TA} {id T : String} {r : List V → Hp → VK → Prop}
noncomputable def tCB (r : List V → Hp → VK → Prop) (t : TA) : TE := fun σ H Q => t σ H fun vs H1 => r vs H1 Q
theorem pe_callB (hc : CallR X (.builtin id) r) (hg : Gl X x) (hm : X.mg x = none) (hv : bootBuiltins x = some (.builtin id)) (ha : PA X (e :: es) t) (hn : x ≠ "__name__" := by decide) (hdb : (x == ("__debug__" : Str)) = false := by decide)
    (he : starEach (e :: es) X.env = (false, eval e X.env) :: starEach es X.env := by rfl) (hpl : (backTo pos (starEach es X.env)).any (·.1) = false := by rfl) : PE X (.Call (.Name x p) (e :: es) [] pos) (tCB r t) := by
  intro pins s σ H Q I h
  refine wpAny_Call_Name_kw (ld_blt I hg hm hv ?_ hn hdb)
  exact PyProof.Rows.callWith_builtin1 (thn (ha pos pins s σ H _ I h) fun us s1 ⟨vs, H1, I1, r1, q1⟩ => hc pins s1 σ H1 vs us Q I1 r1 q1) he hpl
theorem pe_callTy (hc : CallR X (.type T) r) (hg : Gl X x) (hm : X.mg x = none) (hv : bootBuiltins x = some (.type T)) (ha : PA X (e :: es) t) (hn : x ≠ "__name__" := by decide) (hdb : (x == ("__debug__" : Str)) = false := by decide)
    (he : starEach (e :: es) X.env = (false, eval e X.env) :: starEach es X.env := by rfl) (hpl : (backTo pos (starEach es X.env)).any (·.1) = false := by rfl) : PE X (.Call (.Name x p) (e :: es) [] pos) (tCB r t) := by
  intro pins s σ H Q I h
  refine wpAny_Call_Name_kw (ld_blt I hg hm hv ?_ hn hdb)
  exact PyProof.Rows.callWith_type1 (thn (ha pos pins s σ H _ I h) fun us s1 ⟨vs, H1, I1, r1, q1⟩ => hc pins s1 σ H1 vs us Q I1 r1 q1) he hpl
end
end L2
namespace HT
open PySem PyProof.Rows
section
open PySem.SeqAt
open PySem.AutoSeq1 (wpAny_loadPart')
open PySem.MeetsSeq PySem.MeetsSeq2 PySem.MeetsSeq3
end
section
variable {prog : Program} {w : World} {A : Around} {E : Value → Shared → Prop} {s : Shared}
noncomputable def sIx (n d : Nat) : Option Int → Nat
  | none => d
  | some v => if v < 0 then (v + (n : Int)).toNat else min v.toNat n
theorem sIx_le (n d : Nat) (hd : d ≤ n) (o : Option Int) : sIx n d o ≤ n := by
  cases o with
  | none => exact hd
  | some v =>
    show (if v < 0 then (v + (n : Int)).toNat else min v.toNat n) ≤ n
    by_cases hv : v < 0
    · rw [if_pos hv]; lia
    · rw [if_neg hv]; exact Nat.min_le_right _ _
theorem clip_eq (v : Int) (n d : Nat) : (if v < 0 then max (v + (n : Int)) 0 else min v (n : Int)) = ((sIx n d (some v) : Nat) : Int) := by
  show (if v < 0 then max (v + (n : Int)) 0 else min v (n : Int)) = (((if v < 0 then (v + (n : Int)).toNat else min v.toNat n) : Nat) : Int)
  by_cases hv : v < 0
  · simp only [if_pos hv]; lia
  · simp only [if_neg hv]; lia
theorem adjust_gen (lo hi : Option Int) (n : Nat) : Builtin.Slice.sliceAdjust lo hi 1 (n : Int) = (((sIx n 0 lo : Nat) : Int), ((sIx n n hi : Nat) : Int)) := by
  have h1 : ¬ ((1 : Int) < 0) := by lia
  unfold Builtin.Slice.sliceAdjust
  simp only [h1, if_false]
  refine Prod.ext ?_ ?_
  · cases lo with
    | none => rfl
    | some v => exact clip_eq v n 0
  · cases hi with
    | none => rfl
    | some v => exact clip_eq v n n
theorem places_gen (i j : Nat) : Builtin.Slice.slicePlaces (i : Int) (j : Int) 1 = j - i := by
  unfold Builtin.Slice.slicePlaces
  have h1 : (1 : Int) > 0 := by lia
  simp only [h1, if_true, Int.ediv_one]
  split <;> lia
theorem slicePart_ {v : Value} {o : Option Int} {Q : Option Int → Shared → Prop} (p : IsPart v o) (h : Q o s) : wpAny (model prog w) A (Builtin.Slice.slicePartIndex v) Q E s := by
  cases p with
  | none => exact slicePart_none h
  | int i t => exact slicePart_int h
theorem sliceApplied_gen {sl : Addr} {vl vu : Value} {lo hi : Option Int} {n : Nat} {Q : Int × Int × Nat → Shared → Prop} (hs : s.heap.IsSliceOf sl vl vu .none) (pl : IsPart vl lo) (pu : IsPart vu hi)
    (h : Q (((sIx n 0 lo : Nat) : Int), 1, sIx n n hi - sIx n 0 lo) s) : wpAny (model prog w) A (Builtin.Slice.sliceApplied (.ref sl) (pure (n : Int))) Q E s := by
  obtain ⟨os, hos, hcs, hds⟩ := id hs
  unfold Builtin.Slice.sliceApplied Builtin.Slice.sliceFields
  refine wpAny_bind (wpAny_bind (wpAny_field hos hds (x := vl) rfl (wpAny_bind (wpAny_field hos hds (x := vu) rfl (wpAny_bind (wpAny_field hos hds (x := .none) rfl (wpAny_pure ?_)))))))
  refine wpAny_bind (slicePart_none ?_)
  show wpAny _ _ (if ((1 : Int) == 0) = true then _ else _) _ _ s
  rw [if_neg (by decide)]
  refine wpAny_bind (slicePart_ pl (wpAny_bind (slicePart_ pu (wpAny_bind (wpAny_pure ?_)))))
  show wpAny _ _ (match Builtin.Slice.sliceAdjust lo hi 1 (n : Int) with | (lo, hi) => pure (lo, (1 : Int), Builtin.Slice.slicePlaces lo hi 1)) _ _ s
  rw [adjust_gen lo hi n]
  show wpAny _ _ (pure (((sIx n 0 lo : Nat) : Int), (1 : Int), Builtin.Slice.slicePlaces ((sIx n 0 lo : Nat) : Int) ((sIx n n hi : Nat) : Int) 1)) _ _ s
  rw [places_gen]
  exact wpAny_pure h
theorem pick_gen (xs : Array Value) (i k : Nat) : ((List.range k).filterMap fun (m : Nat) => xs[((i : Int) + (m : Int) * 1).toNat]?).toArray = ((xs.toList.drop i).take k).toArray := by
  have e : (fun (m : Nat) => xs[((i : Int) + (m : Int) * 1).toNat]?) = fun m => xs[i + m]? := by
    funext m
    have : ((i : Int) + (m : Int) * 1).toNat = i + m := by lia
    rw [this]
  rw [e]
  have := pick_run xs i k
  rw [List.filterMap_map] at this
  have e2 : ((fun x => xs[x]?) ∘ fun x => i + x) = fun m => xs[i + m]? := rfl
  rw [e2] at this
  rw [this]
theorem getItem_tuple_cut {t sl : Addr} {items : Array Value} {vl vu : Value} {lo hi : Option Int} {Q : Value → Shared → Prop} (ht : IsTup s.heap t items) (hs : s.heap.IsSliceOf sl vl vu .none) (pl : IsPart vl lo) (pu : IsPart vu hi)
    (hw : ¬ (sIx items.size 0 lo = 0 ∧ sIx items.size items.size hi = items.size))
    (h : Q (.ref s.heap.objs.size) { s with heap := s.heap.push { cls := .type "tuple", data := .seq ((items.toList.drop (sIx items.size 0 lo)).take (sIx items.size items.size hi - sIx items.size 0 lo)).toArray } })
    (hsz : items.size ≤ sizeLine) : wpAny (model prog w) A (getItem (.ref t) (.ref sl)) Q E s := by
  have htake : sizeOk (.seq ((items.toList.drop (sIx items.size 0 lo)).take (sIx items.size items.size hi - sIx items.size 0 lo)).toArray) := by
    show ((items.toList.drop (sIx items.size 0 lo)).take (sIx items.size items.size hi - sIx items.size 0 lo)).toArray.size ≤ sizeLine
    rw [List.size_toArray, List.length_take, List.length_drop, Array.length_toList]
    lia
  have hj : sIx items.size items.size hi ≤ items.size := sIx_le _ _ (Nat.le_refl _) hi
  obtain ⟨os, hos, hcs, hds⟩ := id hs
  have hTs : s.TypeIs (.ref sl) "slice" := ⟨os, hos, hcs⟩
  unfold getItem
  try with_reducible refine wpAny_holding ?_
  first | refine wpAny_bind (wpAny_pure ?_) | skip
  refine wpAny_bind (wpAny_sequenceKey ht.typeIs (by decide) ?_)
  refine wpAny_bind (wpAny_callSpecial?_slot (name := Str.ofString "__getitem__") ht.typeIs PyProof.Rows.slot_tuple_getitem
    (wpAny_call_entry PyProof.Rows.slot_tuple_getitem ht.typeIs entry_tuple_getitem ?_ (args_tuple_getitem _ _)))
  show wpAny _ _ (Builtin.Tuple.tupleItemsOf (.ref t) >>= _) _ _ s
  refine wpAny_bind (tupleItemsOf_ ht ?_)
  refine wpAny_bind (wpAny_typeOf hTs ?_)
  rw [if_pos (by decide)]
  refine wpAny_bind (sliceApplied_gen hs pl pu ?_)
  have hno : ¬ ((((sIx items.size 0 lo : Nat) : Int) == 0 && (1 : Int) == 1 && (sIx items.size items.size hi - sIx items.size 0 lo) == items.size) = true) := by
    intro q
    rw [Bool.and_eq_true, Bool.and_eq_true] at q
    have q1 : ((sIx items.size 0 lo : Nat) : Int) = 0 := eq_of_beq q.1.1
    have q2 : sIx items.size items.size hi - sIx items.size 0 lo = items.size := eq_of_beq q.2
    exact hw ⟨by lia, by lia⟩
  show wpAny _ _ (if (((sIx items.size 0 lo : Nat) : Int) == 0 && (1 : Int) == 1 && (sIx items.size items.size hi - sIx items.size 0 lo) == items.size) = true then _ else _) _ _ s
  rw [if_neg hno, pick_gen]
  first
    | exact wpAny_bind (m := Builtin.Tuple.tupleExact _) (wpAny_newObj_type (wpAny_pure ⟨_, rfl, wpAny_pure h⟩) htake)
    | exact wpAny_bind (m := Builtin.Tuple.tupleExact _) (wpAny_newObj_type (wpAny_bind (wpAny_pure (wpAny_pure ⟨_, rfl, wpAny_pure h⟩))) htake)
    | exact wpAny_bind (wpAny_bind (m := Builtin.Tuple.tupleExact _) (wpAny_newObj_type (wpAny_pure (wpAny_pure ⟨_, rfl, wpAny_pure h⟩)) htake))
    | exact wpAny_bind (wpAny_bind (m := Builtin.Tuple.tupleExact _) (wpAny_newObj_type (wpAny_pure ⟨_, rfl, wpAny_pure h⟩) htake))
end
end HT
namespace L2
open PySem PySem.Spec PyProof.Rows
noncomputable abbrev TO := St → Hp → (Option Int → Hp → Prop) → Prop
noncomputable def PO (X : Cx) (e : Option Expr) (t : TO) : Prop :=
  ∀ (pins : List (Addr × Obj)) (s : Shared) (σ : St) (H : Hp) (Q : Option Int → Hp → Prop), Inv X pins σ H s → t σ H Q →
    wpAny (model X.prog X.w) X.A (evalPart e X.env) (fun u s' => ∃ o H', Inv X pins σ H' s' ∧ IsPart u o ∧ Q o H') X.xe s
noncomputable def tNoPart : TO := fun _ H Q => Q none H
noncomputable def tPart (t : TE) : TO := fun σ H Q => t σ H fun x H1 => ∃ i, x = .int i ∧ Q (some i) H1
section
variable {X : Cx} {e : Expr} {te : TE} {lo hi : Option Expr} {tl th : TO} {pos p2 : Pos}
theorem po_none : PO X none tNoPart := by
  intro pins s σ H Q I h
  rw [evalPart_none]
  exact wpAny_pure ⟨none, H, I, .none, h⟩
theorem po_some (h : PE X e te) : PO X (some e) (tPart te) := by
  intro pins s σ H Q I hw
  rw [evalPart_some]
  refine thn (h pins s σ H _ I hw) fun u s1 ⟨x, H1, I1, r1, q1⟩ => ?_
  obtain ⟨i, rfl, q⟩ := q1
  obtain ⟨t, rfl⟩ := r1
  exact ⟨some i, H1, I1, .int i t, q⟩
noncomputable def SlR (X : Cx) (r : V → Option Int → Option Int → Hp → VK → Prop) : Prop :=
  ∀ (pins : List (Addr × Obj)) (s : Shared) (σ : St) (H : Hp) (x : V) (v vl vu : Value) (lo hi : Option Int) (sl : Addr) (Q : VK), Inv X pins σ H s → RelV x v → s.heap.IsSliceOf sl vl vu .none → IsPart vl lo → IsPart vu hi → r x lo hi H Q →
    ∃ T id, typeLookup (.type T) "__getitem__" = pure (some (.builtin id)) ∧ s.TypeIs v T ∧ wpAny (model X.prog X.w) X.A (getItem v (.ref sl)) (EP X pins σ Q) X.xe s
theorem SlR.or {r r' : V → Option Int → Option Int → Hp → VK → Prop} (h : SlR X r) (h' : SlR X r') : SlR X (fun x lo hi H Q => r x lo hi H Q ∨ r' x lo hi H Q) := by
  intro pins s σ H x v vl vu lo hi sl Q I rx hs pl pu q
  rcases q with q | q
  · exact h pins s σ H x v vl vu lo hi sl Q I rx hs pl pu q
  · exact h' pins s σ H x v vl vu lo hi sl Q I rx hs pl pu q
noncomputable def tSl (r : V → Option Int → Option Int → Hp → VK → Prop) (te : TE) (tl th : TO) : TE := fun σ H Q => te σ H fun x H1 => tl σ H1 fun l H2 => th σ H2 fun u H3 => r x l u H3 Q
theorem pe_slice {r : V → Option Int → Option Int → Hp → VK → Prop} (hr : SlR X r) (he : PE X e te) (hl : PO X lo tl) (hu : PO X hi th) : PE X (.Subscript e (.Slice lo hi none p2) pos) (tSl r te tl th) := by
  intro pins s σ H Q I h
  refine Subscript_ (thn (he pins s σ H _ I h) fun v s1 ⟨x, H1, I1, r1, q1⟩ => ?_)
  refine wpAny_Slice (thn (hl pins s1 σ H1 _ I1 q1) fun vl s2 ⟨l, H2, I2, pl, q2⟩ => thn (hu pins s2 σ H2 _ I2 q2) fun vu s3 ⟨u, H3, I3, pu, q3⟩ => ?_)
  rw [evalPart_none]
  refine wpAny_pure ?_
  have I4 : Inv X pins σ H3 { s3 with heap := s3.heap.push { cls := .type "slice", data := .fields #[vl, vu, .none] } } := I3.kept (t' := s3.toks) fun b ob q => Heap.get?_push_of_some _ q
  obtain ⟨T, id, hT, ht, hg⟩ := hr pins { s3 with heap := s3.heap.push { cls := .type "slice", data := .fields #[vl, vu, .none] } } σ H3 x v vl vu l u s3.heap.objs.size Q I4 r1 (Heap.IsSliceOf.new ..) pl pu q3
  show wpAny (model X.prog X.w) X.A (subscriptTail e (.Slice lo hi none p2) v (.ref s3.heap.objs.size)) (EP X pins σ Q) X.xe { s3 with heap := s3.heap.push { cls := .type "slice", data := .fields #[vl, vu, .none] } }
  exact tail_any (ops := [.ref s3.heap.objs.size, v]) ht hT hg (by with_unfolding_all rfl)
noncomputable def cutV (xs : List V) (lo hi : Option Int) : List V := (xs.drop (HT.sIx xs.length 0 lo)).take (HT.sIx xs.length xs.length hi - HT.sIx xs.length 0 lo)
theorem cutV_length (xs : List V) (lo hi : Option Int) : (cutV xs lo hi).length ≤ xs.length := by
  unfold cutV
  rw [List.length_take, List.length_drop]
  lia
noncomputable def rSlT (K : PySem.W.Frag) : V → Option Int → Option Int → Hp → VK → Prop := fun x lo hi H Q => ∃ a xs, x = .ref a ∧ SqT K H a xs ∧
  ¬ (HT.sIx xs.length 0 lo = 0 ∧ HT.sIx xs.length xs.length hi = xs.length) ∧ ∀ p, H p = none → Q (.ref p) (upd H p (.tup (cutV xs lo hi)))
theorem sl_tup : SlR X (rSlT X.K) := by
  intro pins s σ H x v vl vu lo hi sl Q I rx hs pl pu h
  obtain ⟨a, xs, rfl, hx, hw, q⟩ := h
  cases rx
  obtain ⟨its, r, ht, hz⟩ := I.tuple hx
  have hlen : its.toArray.size = xs.length := by rw [List.size_toArray]; exact r.length.symm
  refine ⟨"tuple", _, PyProof.Rows.slot_tuple_getitem.lookup, ht.typeIs, ?_⟩
  refine HT.getItem_tuple_cut ht hs pl pu (by rw [hlen]; exact hw) ?_ (by rw [hlen]; exact hz)
  rw [hlen]
  refine ⟨.ref s.heap.objs.size, _, I.laid (t' := s.toks) (o := .tup (cutV xs lo hi)) (fun b ob q => Heap.get?_push_of_some _ q) (Nat.le_refl _) ?_, rfl, q _ (I.hok.fresh (Nat.le_refl _))⟩
  exact ⟨Nat.le_trans (cutV_length xs lo hi) hz, _, (r.drop (HT.sIx xs.length 0 lo)).take (HT.sIx xs.length xs.length hi - HT.sIx xs.length 0 lo), IsTup.new _ _⟩
end
end L2
namespace L2
open PySem PySem.Spec PyProof.Rows
noncomputable def ixN (n : Nat) (i : Int) : Option Nat := if 0 ≤ i then (if i < n then some i.toNat else none) else if -(n : Int) ≤ i then some (i + n).toNat else none
noncomputable def atI {α : Type} (xs : List α) (i : Int) : Option α := (ixN xs.length i).bind fun j => xs[j]?
theorem ixN_seq {n : Nat} {i : Int} {j : Nat} (h : ixN n i = some j) : seqIndex? i n = some j ∧ j < n ∧ -(n : Int) ≤ i ∧ i < n := by
  unfold ixN at h
  by_cases h0 : 0 ≤ i
  · rw [if_pos h0] at h
    by_cases h1 : i < n
    · rw [if_pos h1] at h
      have e : i.toNat = j := Option.some.inj h
      exact ⟨by rw [seqIndex_of h0 h1, e], by lia, by lia, h1⟩
    · rw [if_neg h1] at h; cases h
  · rw [if_neg h0] at h
    by_cases h1 : -(n : Int) ≤ i
    · rw [if_pos h1] at h
      have e : (i + n).toNat = j := Option.some.inj h
      exact ⟨by rw [seqIndex_neg (by lia) h1, e], by lia, h1, by lia⟩
    · rw [if_neg h1] at h; cases h
theorem atI_get {α : Type} {xs : List α} {i : Int} {v : α} (h : atI xs i = some v) : ∃ j, seqIndex? i xs.length = some j ∧ xs[j]? = some v ∧ j < xs.length ∧ -(xs.length : Int) ≤ i ∧ i < xs.length := by
  unfold atI at h
  cases e : ixN xs.length i with
  | none => rw [e] at h; cases h
  | some j =>
    rw [e] at h
    obtain ⟨h1, h2, h3, h4⟩ := ixN_seq e
    exact ⟨j, h1, h, h2, h3, h4⟩
theorem atI_nat {α : Type} {xs : List α} {j : Nat} {v : α} (h : xs[j]? = some v) : atI xs (j : Int) = some v := by
  have hj : j < xs.length := (List.getElem?_eq_some_iff.mp h).1
  have e : ixN xs.length (j : Int) = some j := by
    unfold ixN
    rw [if_pos (by lia), if_pos (by lia)]; simp
  unfold atI; rw [e]; exact h
noncomputable def PlainIx (b : Expr) : Prop := ∀ o i, subscripted b false o i = operate [o, i] (getItem o i)
noncomputable def IxR (X : Cx) (r : R2) : Prop :=
  ∀ (value slice : Expr) (pins : List (Addr × Obj)) (s : Shared) (σ : St) (H : Hp) (x y : V) (v u : Value) (Q : VK), Inv X pins σ H s → RelV x v → RelV y u → r x y H Q →
    subscripted slice false v u = operate [v, u] (getItem v u) → wpAny (model X.prog X.w) X.A (subscriptTail value slice v u) (EP X pins σ Q) X.xe s
noncomputable def MtR (X : Cx) (id : String) (r : V → List V → Hp → VK → Prop) : Prop :=
  ∀ (pins : List (Addr × Obj)) (s : Shared) (σ : St) (H : Hp) (x : V) (xs : List V) (v : Value) (us : List Value) (Q : VK), Inv X pins σ H s → RelV x v → Vals xs us → r x xs H Q →
    wpAny (model X.prog X.w) X.A (call (.builtin id) (v :: us)) (EP X pins σ Q) X.xe s
section
variable {X : Cx} {a b : Expr} {ta tb : TE} {pos : Pos}
theorem IxR.or {r r' : R2} (h : IxR X r) (h' : IxR X r') : IxR X (fun x y H Q => r x y H Q ∨ r' x y H Q) := by
  intro value slice pins s σ H x y v u Q I rx ry q hs
  rcases q with q | q
  · exact h value slice pins s σ H x y v u Q I rx ry q hs
  · exact h' value slice pins s σ H x y v u Q I rx ry q hs
theorem pe_ix {r : R2} (hr : IxR X r) (ha : PE X a ta) (hb : PE X b tb) (hs : PlainIx b) : PE X (.Subscript a b pos) (tOp r ta tb) := by
  intro pins s σ H Q I h
  exact Subscript_ (binT ha hb I h fun v u s2 x y H2 I2 rx ry q => hr a b pins s2 σ H2 x y v u Q I2 rx ry q (hs _ _))
inductive rIxL (K : PySem.W.Frag) (x y : V) (H : Hp) (Q : VK) : Prop
  | mk (p : Addr) (xs : List V) (i : Int) (v : V) (h0 : x = .ref p) (h1 : y = .int i) (h2 : SqL K H p xs) (h3 : atI xs i = some v) (h4 : Q v H) : rIxL K x y H Q
inductive rIxT (K : PySem.W.Frag) (x y : V) (H : Hp) (Q : VK) : Prop
  | mk (p : Addr) (xs : List V) (i : Int) (v : V) (h0 : x = .ref p) (h1 : y = .int i) (h2 : SqT K H p xs) (h3 : atI xs i = some v) (h4 : Q v H) : rIxT K x y H Q
noncomputable def rIxS : R2 := fun x y H Q => ∃ z i c, x = .str z ∧ y = .int i ∧ z.length ≤ sizeLine ∧ atI z.cps.toList i = some c ∧ Q (.str ⟨#[c]⟩) H
theorem ix_list : IxR X (rIxL X.K) := by
  intro value slice pins s σ H x y v u Q I rx ry h hs
  obtain ⟨p, xs, i, z, rfl, rfl, hq, he, q⟩ := h
  cases rx
  obtain ⟨t, rfl⟩ := ry
  obtain ⟨its, r, pl, hz⟩ := I.list hq
  obtain ⟨j, h1, h2, h3, h4, h5⟩ := atI_get he
  obtain ⟨w, ew, rw'⟩ := r.get h2
  have hl := r.length
  have hn := line63
  have fin : EP X pins σ Q w s := ⟨z, H, I, rw', q⟩
  by_cases h0 : 0 ≤ i
  · have hj : i.toNat = j := by
      rw [seqIndex_of h0 h5] at h1
      exact Option.some.inj h1
    exact item_listR pl.isList h0 (by lia) (by rw [hj]; simpa using ew) fin hs
  · have hj : (i + (its.toArray.size : Int)).toNat = j := by
      rw [seqIndex_neg (by lia) h4] at h1
      rw [List.size_toArray, ← hl]
      exact Option.some.inj h1
    exact subscriptTail_builtinR (x := w) pl.isList.typeIs slot_list_getitem.lookup
      (wpAny_getItem_list_neg (Q := fun r s' => r = w ∧ EP X pins σ Q r s') pl.isList (by lia) (by rw [List.size_toArray] <;> lia) (by lia) (by rw [hj]; simpa using ew) ⟨rfl, fin⟩) hs
theorem ix_tup : IxR X (rIxT X.K) := by
  intro value slice pins s σ H x y v u Q I rx ry h hs
  obtain ⟨p, xs, i, z, rfl, rfl, hq, he, q⟩ := h
  cases rx
  obtain ⟨t, rfl⟩ := ry
  obtain ⟨its, r, pl, hz⟩ := I.tuple hq
  obtain ⟨j, h1, h2, h3, h4, h5⟩ := atI_get he
  obtain ⟨w, ew, rw'⟩ := r.get h2
  have hl := r.length
  have hn := line63
  have fin : EP X pins σ Q w s := ⟨z, H, I, rw', q⟩
  exact subscriptTail_builtinR (x := w) pl.typeIs slot_tuple_getitem.lookup
    (getItem_tuple (j := j) (Q := fun r s' => r = w ∧ EP X pins σ Q r s') pl (by lia) (by lia) (by rw [List.size_toArray, ← hl]; exact h1) (by simpa using ew) ⟨rfl, fin⟩) hs
theorem ix_str : IxR X rIxS := by
  intro value slice pins s σ H x y v u Q I rx ry h hs
  obtain ⟨z, i, c, rfl, rfl, hz, he, q⟩ := h
  obtain ⟨t, rfl⟩ := rx
  obtain ⟨t', rfl⟩ := ry
  obtain ⟨j, h1, h2, h3, h4, h5⟩ := atI_get he
  have hl : z.cps.toList.length = z.length := by simp [Str.length]
  rw [hl] at h1 h4 h5
  have hn := line63
  exact tail_any (typeIs_str s z t) slot_str_getitem.lookup (getItem_str (c := c) (by
    have e1 : decide (i < -(2 ^ 63 : Int)) = false := decide_eq_false (by lia)
    have e2 : decide (i ≥ 2 ^ 63) = false := decide_eq_false (by lia)
    rw [e1, e2, Bool.or_false]) (by rw [h1]; simpa using h2) ⟨.str ⟨#[c]⟩, H, I.tok _, ⟨_, rfl⟩, q⟩) hs
noncomputable def rIx (K : PySem.W.Frag) : R2 := fun x y H Q => rIxL K x y H Q ∨ rIxT K x y H Q ∨ rIxS x y H Q
theorem ix_seq : IxR X (rIx X.K) := ix_list.or (ix_tup.or ix_str)
theorem mapSeq_set (its : List Value) (n j : Nat) (u : Value) : Obj.mapSeq (·.setIfInBounds j u) { cls := .type "list", data := .seq its.toArray n } = { cls := .type "list", data := .seq (its.set j u).toArray n } := by
  simp [Obj.mapSeq]
theorem Inv.lst {pins : List (Addr × Obj)} {σ : St} {H : Hp} {s : Shared} {p : Addr} {xs : List V} (I : Inv X pins σ H s) (h : H p = some (.lst xs)) :
    ∃ (its : List Value) (n : Nat), Vals xs its ∧ s.heap.get? p = some { cls := .type "list", data := .seq its.toArray n } ∧ xs.length ≤ sizeLine := by
  obtain ⟨z, its, n, r, e⟩ := I.hok p _ h
  exact ⟨its, n, r, e, z⟩
theorem Inv.lstUpd {pins : List (Addr × Obj)} {σ : St} {H : Hp} {s : Shared} {p : Addr} {xs ys : List V} {its its' : List Value} {n n' : Nat} {f : Obj → Obj} (I : Inv X pins σ H s) (h : H p = some (.lst xs))
    (ho : s.heap.get? p = some { cls := .type "list", data := .seq its.toArray n }) (hf : f { cls := .type "list", data := .seq its.toArray n } = { cls := .type "list", data := .seq its'.toArray n' }) (r : Vals ys its') (hz : ys.length ≤ sizeLine) (t : Nat) :
    Inv X pins σ (upd H p (.lst ys)) { s with heap := s.heap.update p f, toks := t } := by
  have e : (s.heap.update p f).get? p = some { cls := .type "list", data := .seq its'.toArray n' } := by
    rw [Heap.get?_update_self f ho (by rw [hf] <;> rfl), hf]
  refine I.write (x := p) (e := p) (by rw [h]; trivial) (.inl rfl) (fun b u hb q => (Heap.get?_update_other _ _ (Ne.symm hb)).trans q) ⟨_, e⟩ ?_
  exact ⟨hz, its', n', r, e⟩
noncomputable def rSetL : V → V → V → Hp → (Hp → Prop) → Prop := fun o i v H Q => ∃ p xs k j, o = .ref p ∧ i = .int k ∧ H p = some (.lst xs) ∧ ixN xs.length k = some j ∧ Q (upd H p (.lst (xs.set j v)))
theorem set_list : PSet X rSetL := by
  intro pins s σ H o i v ov iv u Q I ro ri rv h
  obtain ⟨p, xs, k, j, rfl, rfl, hp, hj, q⟩ := h
  cases ro
  obtain ⟨t, rfl⟩ := ri
  obtain ⟨its, n, r, ho, hz⟩ := I.lst hp
  obtain ⟨h1, h2, h3, h4⟩ := ixN_seq hj
  have hl := r.length
  have hn := line63
  have I' : Inv X pins σ (upd H p (.lst (xs.set j v))) { s with heap := s.heap.update p (Obj.mapSeq (·.setIfInBounds j u)) } :=
    I.lstUpd hp ho (mapSeq_set its n j u) (r.set rv j) (by rw [List.length_set]; exact hz) s.toks
  by_cases h0 : 0 ≤ k
  · have hk : k.toNat = j := by
      rw [seqIndex_of h0 h4] at h1
      exact Option.some.inj h1
    exact PySem.W.ki_setAt ho h0 (by lia) (by rw [List.size_toArray, ← hl]; exact h4) (by rw [hk]; exact ⟨_, I', q⟩)
  · have hk : (k + (its.toArray.size : Int)).toNat = j := by
      rw [seqIndex_neg (by lia) h3] at h1
      rw [List.size_toArray, ← hl]
      exact Option.some.inj h1
    exact PySem.W.ki_setBack ho (by lia) (by rw [List.size_toArray, ← hl]; exact h3) (by lia) (by rw [hk]; exact ⟨_, I', q⟩)
theorem slice_bounds (lo hi : Option Int) (n : Nat) : (sliceBounds lo hi none n).1 = ((HT.sIx n 0 lo : Nat) : Int) ∧ (sliceBounds lo hi none n).2.1 = ((HT.sIx n n hi : Nat) : Int) ∧ (sliceBounds lo hi none n).2.2 = 1 := by
  refine ⟨?_, ?_, rfl⟩
  · cases lo with
    | none => simp [sliceBounds, HT.sIx]
    | some i =>
      simp only [sliceBounds, HT.sIx, Option.getD_none, show (1 : Int) > 0 by decide, if_true]
      by_cases h : i < 0
      · simp only [h, if_true] <;> lia
      · simp only [h, if_false] <;> lia
  · cases hi with
    | none => simp [sliceBounds, HT.sIx]
    | some i =>
      simp only [sliceBounds, HT.sIx, Option.getD_none, show (1 : Int) > 0 by decide, if_true]
      by_cases h : i < 0
      · simp only [h, if_true] <;> lia
      · simp only [h, if_false] <;> lia
theorem slicePick_cut (its : List Value) (lo hi : Option Int) : slicePick its.toArray lo hi none = ((its.drop (HT.sIx its.length 0 lo)).take (HT.sIx its.length its.length hi - HT.sIx its.length 0 lo)).toArray := by
  obtain ⟨h1, h2, h3⟩ := slice_bounds lo hi its.toArray.size
  unfold slicePick
  rw [h1, h2, h3]
  simp only [sliceRange_one, pick_run, List.size_toArray] <;> rfl
noncomputable def rSlL (K : PySem.W.Frag) : V → Option Int → Option Int → Hp → VK → Prop := fun x lo hi H Q => ∃ a xs, x = .ref a ∧ SqL K H a xs ∧ ∀ p, H p = none → Q (.ref p) (upd H p (.lst (cutV xs lo hi)))
theorem sl_list : SlR X (rSlL X.K) := by
  intro pins s σ H x v vl vu lo hi sl Q I rx hs pl pu h
  obtain ⟨a, xs, rfl, hx, q⟩ := h
  cases rx
  obtain ⟨its, r, ht, hz⟩ := I.list hx
  have hlen := r.length
  refine ⟨"list", _, slot_list_getitem.lookup, ht.isList.typeIs, ?_⟩
  refine wpAny_getItem_list_slice ht.isList hs pl pu .none (by simp) ?_ (by rw [List.size_toArray] <;> lia)
  rw [slicePick_cut, ← hlen]
  refine ⟨.ref s.heap.objs.size, _, I.laid (t' := s.toks) (o := .lst (cutV xs lo hi)) (fun b ob q => Heap.get?_push_of_some _ q) (Nat.le_refl _) ?_, rfl, q _ (I.hok.fresh (Nat.le_refl _))⟩
  exact ⟨Nat.le_trans (cutV_length xs lo hi) hz, _, 0, (r.drop (HT.sIx xs.length 0 lo)).take (HT.sIx xs.length xs.length hi - HT.sIx xs.length 0 lo), Heap.get?_push_size _ rfl⟩
noncomputable def flatV : V → Bool
  | .non => true
  | .bl _ => true
  | .int _ => true
  | .str _ => true
  | _ => false
noncomputable def eqV : V → V → Bool
  | .non, .non => true
  | .bl a, .bl b => a == b
  | .bl a, .int b => (if a then 1 else 0) == b
  | .int a, .bl b => a == (if b then 1 else 0)
  | .int a, .int b => a == b
  | .str a, .str b => a == b
  | _, _ => false
theorem eqAt_V {A : Around} {s : Shared} {y x : V} {u v : Value} (ry : RelV y u) (rx : RelV x v) (fy : flatV y = true) (fx : flatV x = true) : SeqAt.EqAt A s u v (eqV y x) := by
  cases y with
  | non =>
    cases ry
    cases x with
    | non => cases rx; exact SeqAt.EqAt.same _
    | bl b => cases rx; exact SeqAt.EqAt.none_bool b
    | int b => obtain ⟨t, rfl⟩ := rx; exact SeqAt.EqAt.none_int b t
    | str b => obtain ⟨t, rfl⟩ := rx; exact SeqAt.EqAt.none_str b t
    | _ => exact absurd (show false = true from fx) Bool.false_ne_true
  | bl a =>
    cases ry
    cases x with
    | non => cases rx; exact SeqAt.EqAt.bool_none a
    | bl b => cases rx; exact SeqAt.EqAt.bool_bool a b
    | int b => obtain ⟨t, rfl⟩ := rx; exact SeqAt.EqAt.bool_int a b t
    | str b => obtain ⟨t, rfl⟩ := rx; exact SeqAt.EqAt.bool_str a b t
    | _ => exact absurd (show false = true from fx) Bool.false_ne_true
  | int a =>
    obtain ⟨t', rfl⟩ := ry
    cases x with
    | non => cases rx; exact SeqAt.EqAt.int_none a t'
    | bl b => cases rx; exact SeqAt.EqAt.int_bool a t' b
    | int b => obtain ⟨t, rfl⟩ := rx; exact SeqAt.EqAt.int_int a t' b t
    | str b => obtain ⟨t, rfl⟩ := rx; exact SeqAt.EqAt.int_str a t' b t
    | _ => exact absurd (show false = true from fx) Bool.false_ne_true
  | str a =>
    obtain ⟨t', rfl⟩ := ry
    cases x with
    | non => cases rx; exact SeqAt.EqAt.str_none a t'
    | bl b => cases rx; exact SeqAt.EqAt.str_bool a t' b
    | int b => obtain ⟨t, rfl⟩ := rx; exact SeqAt.EqAt.str_int a t' b t
    | str b => obtain ⟨t, rfl⟩ := rx; exact SeqAt.EqAt.str_str a t' b t
    | _ => exact absurd (show false = true from fx) Bool.false_ne_true
  | _ => exact absurd (show false = true from fy) Bool.false_ne_true
noncomputable def eqU (x : V) (u : Value) : Bool := match u with
  | .none => eqV .non x
  | .bool b => eqV (.bl b) x
  | .int i _ => eqV (.int i) x
  | .str z _ => eqV (.str z) x
  | _ => false
theorem eqU_of {x y : V} {u : Value} (r : RelV y u) (f : flatV y = true) : eqU x u = eqV y x := by
  cases y with
  | non => cases r; rfl
  | bl b => cases r; rfl
  | int i => obtain ⟨t, rfl⟩ := r; rfl
  | str z => obtain ⟨t, rfl⟩ := r; rfl
  | _ => exact absurd (show false = true from f) Bool.false_ne_true
theorem any_eqU {x : V} : ∀ {xs : List V} {us : List Value}, Vals xs us → xs.all flatV = true → us.any (eqU x) = xs.any fun y => eqV y x
  | _, _, .nil, _ => rfl
  | y :: xs, u :: us, .cons r t, f => by
    rw [List.all_cons, Bool.and_eq_true] at f
    rw [List.any_cons, List.any_cons, eqU_of r f.1, any_eqU t f.2]
theorem mem_eqAt {A : Around} {s : Shared} {x : V} {v : Value} (rx : RelV x v) (fx : flatV x = true) : ∀ {xs : List V} {us : List Value}, Vals xs us → xs.all flatV = true → ∀ u ∈ us, SeqAt.EqAt A s u v (eqU x u)
  | _, _, .nil, _ => fun u hu => by cases hu
  | y :: xs, u :: us, .cons r t, f => fun u' hu => by
    rw [List.all_cons, Bool.and_eq_true] at f
    rcases List.mem_cons.mp hu with rfl | hu
    · rw [eqU_of r f.1]; exact eqAt_V r rx f.1 fx
    · exact mem_eqAt rx fx t f.2 u' hu
noncomputable def inV (x : V) (xs : List V) : Bool := xs.any fun y => eqV y x
inductive rIn (K : PySem.W.Frag) (neg : Bool) (x y : V) (H : Hp) (Q : VK) : Prop
  | mk (p : Addr) (xs : List V) (h0 : y = .ref p) (h1 : SqL K H p xs ∨ SqT K H p xs) (h2 : flatV x = true) (h3 : xs.all flatV = true) (h4 : Q (.bl (if neg then !inV x xs else inV x xs)) H) : rIn K neg x y H Q
theorem op_in_seq : OpR X (compareOp .In) (rIn X.K false) := by
  intro pins s σ H x y v u Q I rx ry h
  obtain ⟨p, xs, rfl, hq, fx, fs, q⟩ := h
  cases ry
  rcases hq with hq | hq
  · obtain ⟨its, r, pl, hz⟩ := I.list hq
    refine SeqAt.in_listAt (eqU x) pl.isList (fun w hw => mem_eqAt rx fx r fs w (by simpa using hw)) ⟨.bl _, H, I, rfl, ?_⟩
    rw [show its.toArray.any (eqU x) = its.any (eqU x) by simp, any_eqU r fs]
    exact q
  · obtain ⟨its, r, pl, hz⟩ := I.tuple hq
    refine SeqAt.in_tupleAt (eqU x) pl (fun w hw => mem_eqAt rx fx r fs w (by simpa using hw)) ⟨.bl _, H, I, rfl, ?_⟩
    rw [show its.toArray.any (eqU x) = its.any (eqU x) by simp, any_eqU r fs]
    exact q
theorem op_notIn_seq : OpR X (compareOp .NotIn) (rIn X.K true) := by
  intro pins s σ H x y v u Q I rx ry h
  obtain ⟨p, xs, rfl, hq, fx, fs, q⟩ := h
  cases ry
  rcases hq with hq | hq
  · obtain ⟨its, r, pl, hz⟩ := I.list hq
    refine SeqAt.notIn_listAt (eqU x) pl.isList (fun w hw => mem_eqAt rx fx r fs w (by simpa using hw)) ⟨.bl _, H, I, rfl, ?_⟩
    rw [show its.toArray.any (eqU x) = its.any (eqU x) by simp, any_eqU r fs]
    exact q
  · obtain ⟨its, r, pl, hz⟩ := I.tuple hq
    refine SeqAt.notIn_tupleAt (eqU x) pl (fun w hw => mem_eqAt rx fx r fs w (by simpa using hw)) ⟨.bl _, H, I, rfl, ?_⟩
    rw [show its.toArray.any (eqU x) = its.any (eqU x) by simp, any_eqU r fs]
    exact q
theorem call_len_seq : CallR X (.builtin "len") (fun xs H Q => ∃ p ys, xs = [.ref p] ∧ (SqL X.K H p ys ∨ SqT X.K H p ys) ∧ Q (.int ys.length) H) := by
  intro pins s σ H xs us Q I r h
  obtain ⟨p, ys, rfl, hq, q⟩ := h
  obtain ⟨u, rfl, rx⟩ := vals1 r
  cases rx
  have hn := line63
  rcases hq with hq | hq
  · obtain ⟨its, r', pl, hz⟩ := I.list hq
    have hlen := r'.length
    exact Calls.call_len_list pl.isList (by simp only [List.size_toArray] <;> lia) ⟨.int ys.length, H, I.tok _, ⟨s.toks + 1, by rw [List.size_toArray, hlen]⟩, q⟩
  · obtain ⟨its, r', pl, hz⟩ := I.tuple hq
    have hlen := r'.length
    exact len_tuple pl (by simp only [List.size_toArray] <;> lia) ⟨.int ys.length, H, I.tok _, ⟨s.toks + 1, by rw [List.size_toArray, hlen]⟩, q⟩
theorem call_len_str : CallR X (.builtin "len") (fun xs H Q => ∃ z, xs = [.str z] ∧ z.length ≤ sizeLine ∧ Q (.int z.length) H) := by
  intro pins s σ H xs us Q I r h
  obtain ⟨z, rfl, hz, q⟩ := h
  obtain ⟨u, rfl, t, rfl⟩ := vals1 r
  have hn := line63
  exact len_str (by lia) ⟨.int z.length, H, I.tok _, ⟨_, rfl⟩, q⟩
theorem CallR.or {f : Value} {r r' : List V → Hp → VK → Prop} (h : CallR X f r) (h' : CallR X f r') : CallR X f (fun xs H Q => r xs H Q ∨ r' xs H Q) := by
  intro pins s σ H xs us Q I rs q
  rcases q with q | q
  · exact h pins s σ H xs us Q I rs q
  · exact h' pins s σ H xs us Q I rs q
inductive rListOf (K : PySem.W.Frag) (xs : List V) (H : Hp) (Q : VK) : Prop
  | mk (p : Addr) (ys : List V) (h0 : xs = [.ref p]) (h1 : SqL K H p ys ∨ SqT K H p ys) (h2 : ∀ l, H l = none → Q (.ref l) (upd H l (.lst ys))) : rListOf K xs H Q
theorem call_list_of : CallR X (.type "list") (rListOf X.K) := by
  intro pins s σ H xs us Q I r h
  obtain ⟨p, ys, rfl, hq, q⟩ := h
  obtain ⟨u, rfl, rx⟩ := vals1 r
  cases rx
  have fin : ∀ (its : List Value), Vals ys its → ys.length ≤ sizeLine → ∀ (h' : Heap) (c' : Nat), (∀ b o', s.heap.get? b = some o' → h'.get? b = some o') →
      h'.get? s.heap.objs.size = some { cls := .type "list", dict := none, data := .seq its.toArray c', slots := #[] } → EP X pins σ Q (.ref s.heap.objs.size) { s with heap := h' } := fun its r' hz h' c' kp e =>
    ⟨.ref s.heap.objs.size, _, I.laid (t' := s.toks) kp (Nat.le_refl _) (show ObjOk X.prog X.w _ h' _ (.lst ys) from ⟨hz, its, c', r', e⟩), rfl, q _ (I.hok.fresh (Nat.le_refl _))⟩
  rcases hq with hq | hq
  · obtain ⟨its, r', pl, hz⟩ := I.list hq
    have hlen := r'.length
    obtain ⟨o, ho, hc, n, hd⟩ := pl.isList
    exact call_list_seq p (.inl rfl) ho hc hd (fun h' c' kp e => fin its r' hz h' c' kp e) (by simp only [List.size_toArray] <;> lia)
  · obtain ⟨its, r', pl, hz⟩ := I.tuple hq
    have hlen := r'.length
    obtain ⟨o, ho, hc, n, hd⟩ := pl
    exact call_list_seq p (.inr rfl) ho hc hd (fun h' c' kp e => fin its r' hz h' c' kp e) (by simp only [List.size_toArray] <;> lia)
theorem call_tuple_of : CallR X (.type "tuple") (fun xs H Q => ∃ p ys, xs = [.ref p] ∧ ((SqL X.K H p ys ∧ ∀ l, H l = none → Q (.ref l) (upd H l (.tup ys))) ∨ (SqT X.K H p ys ∧ Q (.ref p) H))) := by
  intro pins s σ H xs us Q I r h
  obtain ⟨p, ys, rfl, h⟩ := h
  obtain ⟨u, rfl, rx⟩ := vals1 r
  cases rx
  rcases h with ⟨hq, q⟩ | ⟨hq, q⟩
  · obtain ⟨its, r', pl, hz⟩ := I.list hq
    have hlen := r'.length
    refine call_tuple_list pl.isList (fun h' kp => ?_) (by simp only [List.size_toArray] <;> lia)
    have I1 : Inv X pins σ H { s with heap := h' } := I.kept (t' := s.toks) kp
    have I2 : Inv X pins σ (upd H h'.objs.size (.tup ys)) { s with heap := h'.push { cls := .type "tuple", data := .seq its.toArray } } :=
      I1.laid (t' := s.toks) (fun b o e => Heap.get?_push_of_some _ e) (Nat.le_refl _) (show ObjOk X.prog X.w _ _ _ (.tup ys) from ⟨hz, its, r', IsTup.new _ _⟩)
    exact ⟨.ref h'.objs.size, _, I2, rfl, q _ (I1.hok.fresh (Nat.le_refl _))⟩
  · obtain ⟨its, r', pl, hz⟩ := I.tuple hq
    exact call_tuple_same pl ⟨.ref p, H, I, rfl, q⟩
noncomputable def tyV (K : PySem.W.Frag) (T : String) (x : V) (H : Hp) : Prop := match x with
  | .str _ => T = "str"
  | .int _ => T = "int"
  | .ref p => (T = "list" ∧ ∃ xs, SqL K H p xs) ∨ (T = "tuple" ∧ ∃ o, K.lookup p = some o ∧ o.cls = .type "tuple" ∧ o.dict = none) ∨
      (T = "dict" ∧ ((∃ kvs, H p = some (.dK kvs)) ∨ ∃ kvs, H p = some (.dT kvs))) ∨ (T = "set" ∧ ∃ S n, H p = some (.set S n))
  | _ => False
theorem tyV_is {pins : List (Addr × Obj)} {σ : St} {H : Hp} {s : Shared} {T : String} {x : V} {v : Value} (I : Inv X pins σ H s) (r : RelV x v) (ty : tyV X.K T x H) :
    s.TypeIs v T ∧ ∀ a, v = .ref a → ∃ ob, s.heap.get? a = some ob ∧ ob.dict = none := by
  cases x with
  | str z =>
    obtain ⟨t, rfl⟩ := r
    cases (show T = "str" from ty)
    exact ⟨typeIs_str s z t, fun _ e => nomatch e⟩
  | int i =>
    obtain ⟨t, rfl⟩ := r
    cases (show T = "int" from ty)
    exact ⟨typeIs_int s i t, fun _ e => nomatch e⟩
  | ref p =>
    cases r
    rcases ty with ⟨rfl, xs, hq⟩ | ⟨rfl, o, hk, hc, hd⟩ | ⟨rfl, hk⟩ | ⟨rfl, S, n, hk⟩
    · obtain ⟨its, _, pl, _⟩ := I.list hq
      refine ⟨pl.isList.typeIs, fun a e => ?_⟩
      cases e
      obtain ⟨o, n, e, c, hd, _⟩ := pl
      exact ⟨o, e, hd⟩
    · refine ⟨⟨o, I.kIn p o hk, hc⟩, fun a e => ?_⟩
      cases e
      exact ⟨o, I.kIn _ o hk, hd⟩
    · have z : ∃ o, s.heap.get? p = some o ∧ o.ExactDict := by
        rcases hk with ⟨kvs, hk⟩ | ⟨kvs, hk⟩
        · obtain ⟨_, _, _, _, o, _, _, e, ex, _⟩ := I.hok p _ hk
          exact ⟨o, e, ex⟩
        · obtain ⟨_, _, _, _, o, _, _, e, ex, _⟩ := I.hok p _ hk
          exact ⟨o, e, ex⟩
      obtain ⟨o, e, ex⟩ := z
      refine ⟨⟨o, e, ex.1⟩, fun a e2 => ?_⟩
      cases e2
      exact ⟨o, e, ex.2.1⟩
    · obtain ⟨o, _, _, _, e, ex, _⟩ := I.hok p _ hk
      refine ⟨⟨o, e, ex.1⟩, fun a e2 => ?_⟩
      cases e2
      exact ⟨o, e, ex.2.1⟩
  | _ => exact False.elim ty
noncomputable def tBM (K : PySem.W.Frag) (T : String) (r : V → List V → Hp → VK → Prop) (to : TE) (t : TA) : TE := fun σ H Q => to σ H fun x H1 => tyV K T x H1 ∧ t σ H1 fun xs H2 => r x xs H2 Q
variable {o e : Expr} {es : List Expr} {to : TE} {t : TA} {name : Str} {apos cpos : Pos} {T id : String} {r : V → List V → Hp → VK → Prop}
theorem pe_bm (pa : PlainAttrs T) (slot : Slot T name id) (hty : typeOf (.builtin id) = pure (.type "method_descriptor")) (hm : MtR X id r) (ho : PE X o to) (ha : PA X (e :: es) t)
    (hbase : attributeBase o name X.env (eval o X.env) = eval o X.env := by rfl)
    (hfew : ((backTo cpos (starEach (e :: es) X.env)).all (fun x => !x.1) && (backToKw cpos (keywordEach [] X.env)).all (fun x => x.1.isSome)
      && decide ((e :: es).length + ([] : List Keyword).length + (if ([] : List Keyword).isEmpty then 0 else 1) < 30)) = true := by rfl)
    (hline : (apos.endLine == cpos.line) = true := by rfl) (hs : starEach (e :: es) X.env = (false, eval e X.env) :: starEach es X.env := by rfl) (hplain : (backTo cpos (starEach es X.env)).any (·.1) = false := by rfl) :
    PE X (.Call (.Attribute o name apos) (e :: es) [] cpos) (tBM X.K T r to t) := by
  intro pins s σ H Q I h
  refine wpAny_Call_method_late hbase hfew hline rfl (thn (ho pins s σ H _ I h) fun v s1 ⟨x, H1, I1, r1, ty, q1⟩ => ?_)
  obtain ⟨h1, h2⟩ := tyV_is I1 r1 ty
  refine ⟨T, id, pa, slot, hty, h1, h2, ?_⟩
  have hA := ha cpos pins s1 σ H1 _ I1 q1
  rw [hs] at hA ⊢
  refine Calls.callWith_builtin (by show (false || (backTo cpos (starEach es X.env)).any (·.1)) = false; rw [hplain] <;> rfl) (Calls.evalArgs_plain ?_)
  exact thn hA fun us s2 ⟨vs, H2, I2, r2, q2⟩ => hm pins s2 σ H2 x vs v us Q I2 r1 r2 q2
end
end L2
namespace L2
open PySem PySem.Spec PyProof.Rows
noncomputable def MtM (X : Cx) (id : String) (r : V → List V → Hp → VK → Prop) : Prop :=
  ∀ (pins : List (Addr × Obj)) (s : Shared) (σ : St) (H : Hp) (x : V) (xs : List V) (v : Value) (us : List Value) (Q : VK), Inv X pins σ H s → RelV x v → Vals xs us → r x xs H Q →
    wpAny (model X.prog X.w) X.A (call (.builtin id) (v :: us)) (EP X pins σ Q) X.xe s
theorem Vals.one : ∀ {x : V} {us : List Value}, Vals [x] us → ∃ u, us = [u] ∧ RelV x u
  | _, _, .cons r .nil => ⟨_, rfl, r⟩
theorem Vals.two : ∀ {x y : V} {us : List Value}, Vals [x, y] us → ∃ u v, us = [u, v] ∧ RelV x u ∧ RelV y v
  | _, _, _, .cons r (.cons q .nil) => ⟨_, _, rfl, r, q⟩
theorem Vals.eraseIdx : ∀ {xs : List V} {us : List Value} (i : Nat), Vals xs us → Vals (xs.eraseIdx i) (us.eraseIdx i)
  | _, _, _, .nil => .nil
  | _, _, 0, .cons _ t => t
  | _, _, i + 1, .cons r t => .cons r (Vals.eraseIdx i t)
theorem Vals.reverse {xs : List V} {us : List Value} (h : Vals xs us) : Vals xs.reverse us.reverse := by
  induction h with
  | nil => exact .nil
  | cons r t ih => rw [List.reverse_cons, List.reverse_cons]; exact Vals.append ih (.cons r .nil)
theorem len_erase {α : Type} : ∀ (l : List α) (i : Nat), (l.eraseIdx i).length ≤ l.length
  | [], _ => Nat.le_refl _
  | _ :: _, 0 => Nat.le_succ _
  | _ :: r, i + 1 => Nat.succ_le_succ (len_erase r i)
section
variable {X : Cx} {pins : List (Addr × Obj)} {σ : St} {H : Hp} {s : Shared} {l b : Addr} {xs ys zs : List V}
theorem Inv.lset {its its' : List Value} {n : Nat} {f : Array Value → Array Value} {t' : Nat} (I : Inv X pins σ H s) (hH : H l = some (.lst xs))
    (e : s.heap.get? l = some { cls := .type "list", data := .seq its.toArray n }) (hf : f its.toArray = its'.toArray) (hv : Vals ys its') (hz : ys.length ≤ sizeLine) :
    Inv X pins σ (upd H l (.lst ys)) { s with heap := s.heap.update l (Obj.mapSeq f), toks := t' } := by
  have q := PySem.IsL.update e f
  rw [hf] at q
  refine I.write (x := l) (e := l) (by rw [hH]; exact trivial) (.inl rfl) (fun b' u hb hu => (Heap.get?_update_other s.heap (Obj.mapSeq f) (Ne.symm hb)).trans hu) ⟨_, q⟩ ?_
  exact ⟨hz, its', _, hv, q⟩
theorem Inv.lnew {its : List Value} {t' : Nat} (I : Inv X pins σ H s) (hv : Vals ys its) (hz : ys.length ≤ sizeLine) :
    Inv X pins σ (upd H s.heap.objs.size (.lst ys)) { s with heap := s.heap.push { cls := .type "list", data := .seq its.toArray }, toks := t' } :=
  I.laid (fun _ _ q => Heap.get?_push_of_some _ q) (Nat.le_refl _) ⟨hz, its, 0, hv, Heap.get?_push_size _ rfl⟩
theorem Inv.fresh (I : Inv X pins σ H s) : H s.heap.objs.size = none := I.hok.fresh (Nat.le_refl _)
theorem Inv.lstM (I : Inv X pins σ H s) (hH : H l = some (.lst xs)) : xs.length ≤ sizeLine ∧ ∃ (its : List Value) (n : Nat), Vals xs its ∧ xs.length = its.length ∧ s.heap.get? l = some { cls := .type "list", data := .seq its.toArray n } := by
  obtain ⟨z, its, n, r, e⟩ := I.hok l _ hH
  exact ⟨z, its, n, r, r.length, e⟩
end
section
variable {X : Cx}
inductive rAppend (x : V) (vs : List V) (H : Hp) (Q : VK) : Prop
  | mk (l : Addr) (xs : List V) (y : V) (h0 : x = .ref l) (h1 : vs = [y]) (h2 : H l = some (.lst xs)) (h3 : xs.length < sizeLine) (h4 : Q .non (upd H l (.lst (xs ++ [y])))) : rAppend x vs H Q
theorem mt_append : MtM X "list.append" rAppend := by
  intro pins s σ H x vs v us Q I rx rv h
  obtain ⟨l, xs, y, rfl, rfl, hH, hz, q⟩ := h
  cases rx
  obtain ⟨u, rfl, ru⟩ := rv.one
  obtain ⟨z, its, n, r, hl, e⟩ := I.lstM hH
  refine call_meets F.slot_list_append ⟨_, e, rfl⟩ F.entry_list_append (F.args_list_append_2 _ _) (PySem.list_append l its.toArray n u (by rw [List.size_toArray]; lia)) ⟨e, ?_⟩
  refine ⟨.non, _, I.lset (its' := its ++ [u]) hH e (by simp) (r.append (.cons ru .nil)) ?_, rfl, q⟩
  rw [List.length_append, List.length_singleton]
  lia
noncomputable def rPopAt : V → List V → Hp → VK → Prop := fun x vs H Q => ∃ l xs i k y, x = .ref l ∧ vs = [.int i] ∧ H l = some (.lst xs) ∧ -(2 ^ 63) ≤ i ∧ i < 2 ^ 63 ∧ seqIndex? i xs.length = some k ∧ xs[k]? = some y ∧ Q y (upd H l (.lst (xs.eraseIdx k)))
theorem mt_popAt : MtM X "list.pop" rPopAt := by
  intro pins s σ H x vs v us Q I rx rv h
  obtain ⟨l, xs, i, k, y, rfl, rfl, hH, h1, h2, hk, hy, q⟩ := h
  cases rx
  obtain ⟨u, rfl, ru⟩ := rv.one
  obtain ⟨t, rfl⟩ := ru
  obtain ⟨z, its, n, r, hl, e⟩ := I.lstM hH
  obtain ⟨w, hw, rw'⟩ := r.get hy
  refine call_meets F.slot_list_pop ⟨_, e, rfl⟩ F.entry_list_pop (F.args_list_pop_2 _ _)
    (MeetsSeq.list_pop_at l its.toArray n i t k w (fitsIndex_both h1 h2) (by rw [List.size_toArray, ← hl]; exact hk) (by rw [← Array.getElem?_toList]; exact hw) (by rw [List.size_toArray]; lia)) ⟨e, ?_⟩
  refine ⟨y, _, I.lset (its' := its.eraseIdx k) hH e ?_ (r.eraseIdx k) ?_, rw', q⟩
  · show its.toArray.eraseIdxIfInBounds k = (its.eraseIdx k).toArray
    rw [List.eraseIdxIfInBounds_toArray]
  · have := len_erase xs k
    lia
inductive rCat (x y : V) (H : Hp) (Q : VK) : Prop
  | mk (l b : Addr) (xs zs : List V) (h0 : x = .ref l) (h1 : y = .ref b) (h2 : H l = some (.lst xs)) (h3 : H b = some (.lst zs)) (h4 : xs.length + zs.length ≤ sizeLine) (h5 : ∀ p, H p = none → Q (.ref p) (upd H p (.lst (xs ++ zs)))) : rCat x y H Q
theorem op_cat : OpR X (binaryOp .Add) rCat := by
  intro pins s σ H x y v u Q I rx ry h
  obtain ⟨l, b, xs, zs, rfl, rfl, hH, hB, hz, q⟩ := h
  cases rx
  cases ry
  obtain ⟨z, its, n, r, hl, e⟩ := I.lstM hH
  obtain ⟨z2, its2, n2, r2, hl2, e2⟩ := I.lstM hB
  refine PySem.P.add_list e e2 ?_ (by rw [List.size_toArray, List.size_toArray]; lia)
  have ea : its.toArray ++ its2.toArray = (its ++ its2).toArray := by simp
  rw [ea]
  exact ⟨.ref _, _, I.lnew (t' := s.toks) (r.append r2) (by rw [List.length_append]; lia), rfl, q _ I.fresh⟩
end
section
variable {prog : Program} {w : World} {A : Around} {E : Value → Shared → Prop} {s : Shared}
set_option maxRecDepth 100000 in
end
section
variable {X : Cx}
end
end L2
namespace Att
open PySem PySem.W PySem.Calls PyProof.Rows
theorem ints_of_wellAll {P : Params} {h : Heap} : ∀ (ns : List Int) (vs : List Value), WellAll P h vs (ns.map WData.int) → IntsAre vs ns := by
  intro ns
  induction ns with
  | nil =>
    intro vs w
    rw [List.map_nil] at w
    cases w
    exact .nil
  | cons n ns ih =>
    intro vs w
    rw [List.map_cons] at w
    cases w with
    | cons a b =>
      cases a
      exact .cons _ _ (ih _ b)
theorem script_of {l : OpenLaw} {n : Nat} (hn : l.most = some n) {P : Params} {h : Heap} {args : List WData} {vals : List Value}
    (hpre : l.row.toRowW.claim.pre args = true) (hwl : WellAll P h vals args) :
    ∃ a vs ns, vals = [Value.ref a] ∧ args = [WData.list (ns.map WData.int)] ∧ h.get? a = some { cls := .type "list", data := .seq vs.toArray } ∧ IntsAre vs ns ∧ ns.length ≤ n := by
  have hsh : WShape.hasAll [] args [.list .int] = true := (pre_splitW hpre).1
  have hc : l.pre.holds [] { args := args } = true := (pre_splitW hpre).2
  obtain ⟨d, r, rfl, h1, h2⟩ := hasAllW_cons hsh
  obtain rfl := hasAllW_nil h2
  obtain ⟨xs, rfl, h3⟩ := hasW_list h1
  obtain ⟨ns, rfl⟩ := items_int h3
  have hlen : ns.length ≤ n := by
    unfold OpenLaw.pre at hc
    have h4 : (WTm.not (.lt (.lit (.int (n : Int))) (.len (.arg 0)))).holds [] { args := [.list (ns.map .int)] } = true := by
      have h4 := (holds_andW hc).1
      rw [hn] at h4
      exact h4
    have h5 := condW_of h4 (w_not (w_lt w_lit (w_len_list (w_arg rfl))))
    rw [List.length_map] at h5
    refine Nat.le_of_not_lt fun q => ?_
    have q' : (n : Int) < ((ns.length : Nat) : Int) := by lia
    first
      | (rw [decide_eq_true q'] at h5; exact absurd h5 (by decide))
      | (simp at h5; lia)
  cases hwl with
  | cons w1 w2 =>
    cases w2
    cases w1 with
    | list ho hall => exact ⟨_, _, ns, rfl, rfl, ho, ints_of_wellAll ns _ hall, hlen⟩
theorem post_true (l : OpenLaw) (args : List WData) : l.row.toRowW.claim.post args (.bool true) args = true :=
  postW_of (r := l.row.toRowW) (X := (true == true))
    (show WShape.has [] (.bool true) .bool = true by first | rfl | decide | simp [WShape.has, WShape.arms, WShape.armsAll])
    (show (WTm.eq .res (.lit (.bool true))).value [] { args := args, res := some (.bool true), after := args } = some (.bool (true == true)) from w_eq_bool (w_res rfl) w_lit) rfl
theorem attach_call {l : OpenLaw} {n : Nat} {q : Program} {loose : List Str} {XP : (Str → Option Value) → Heap → Prop} {YP : World → Heap → Prop} {d : DefRec}
    (hn : l.most = some n) (hdf : d.params.defaults = [])
    (call : ∀ (w : World) (s₀ s₁ : Shared) (mg mb : Str → Option Value) (fa : Addr) (o : Obj) (pm cd doc : Value) (a : Addr) (vs : List Value) (ns : List Int),
      Ground q loose [] XP w s₀ mg mb s₁.heap → YP w s₁.heap →
      s₁.heap.get? fa = some o → o.data = .func (docDef d.name d.params d.body d.scope pm cd doc) → s₁.heap.CodeRec cd d.name → mg d.name = some (.ref fa) →
      s₁.heap.get? a = some { cls := .type "list", data := .seq vs.toArray } → IntsAre vs ns → ns.length ≤ n → s₁.gens = #[] →
      codeAny (model l.prog w) callerA (.call (.ref fa) ⟨[.ref a], []⟩) (fun r s' => r = .ok (.ret (.bool true)) ∧ OldK s₁.heap s'.heap ∧ s'.os = s₁.os ∧ AllBare s'.gens) s₁) :
    WalkO q loose XP YP l.row.toRowW d [] (fun f vs => PySem.call f vs) := by
  intro w s₀ s₁ mg mb G Y fa o pm cd doc dV kV ho hd hcd hD hmg hg args vals as hpre hlay hrd hwl hlo
  obtain rfl : dV = .none := Dflts.none hD hdf
  obtain rfl : kV = .none := Dflts.noKw hD
  obtain ⟨a, vs, ns, rfl, rfl, hobj, hints, hlen⟩ := script_of hn hpre hwl
  refine enter_call (codeAny_mono (call w s₀ s₁ mg mb fa o pm cd doc a vs ns G Y ho (fd_plain hd) hcd hmg hobj hints hlen hg) fun r s' hq => ?_)
  obtain ⟨rfl, h2, h3, h4⟩ := hq
  exact ⟨.inl ⟨.bool true, .bool true, [], rfl, fun _ => rfl, .bool true, post_true l _, fun _ => ⟨List.Pairwise.nil, fun _ hm => (nomatch hm)⟩⟩, h2, h3, h4⟩
section
variable {prog : Program} {w : World} {A : Around} {E : Value → Shared → Prop} {s : Shared} {K : Frag}
end
end Att
namespace L2
open PySem PySem.Spec PyProof.Rows
theorem vals_ints : ∀ {vs : List Value} {ns : List Int}, IntsAre vs ns → Vals (ns.map V.int) vs
  | _, _, .nil => .nil
  | _, _, .cons n t h => .cons ⟨t, rfl⟩ (vals_ints h)
end L2
namespace L2
open PySem PySem.Spec PyProof.Rows
noncomputable abbrev KOf {K : PySem.W.Frag} {h : Heap} (_ : K.In h) : PySem.W.Frag := K
end L2
namespace L2
open PySem PySem.Spec PyProof.Rows
noncomputable def defArgs (s : Stmt) : Arguments := match s with
  | .FunctionDef _ a _ _ _ _ _ _ _ _ => a
  | _ => { posonlyargs := [], args := [], vararg := none, kwonlyargs := [], kw_defaults := [], kwarg := none, defaults := [] }
noncomputable def defBody (s : Stmt) : List Stmt := match s with
  | .FunctionDef _ _ b _ _ _ _ _ _ _ => b
  | _ => []
noncomputable def defScope (s : Stmt) : Scope := match s with
  | .FunctionDef _ _ _ _ _ _ sc _ _ _ => sc
  | _ => { kind := .function, names := [], isGenerator := false, isCoroutine := false }
noncomputable abbrev CX0 : CXT := fun _ _ _ _ _ _ => False
noncomputable abbrev E0 : XK := fun _ _ _ => False
theorem pass0 {X : Cx} : Passes CX0 X E0 := fun _ _ _ _ _ _ _ h => h.elim
structure Fun (K : PySem.W.Frag) (x qual : Str) (st : Stmt) (f : Addr) (fd : FuncData) : Prop where
  ex : ∃ (oc : Value) (od : Option Addr) (kV doc pm : Value) (an : Option Addr) (cdv ct : Value) (osl : Array (Option Value)),
    fd = PySem.W.fnOf x qual (defArgs st) (defBody st) (defScope st) .none kV doc pm an cdv ct ∧ K.lookup f = some ⟨oc, od, .func fd, osl⟩ ∧ PySem.W.codeIn K cdv qual = true
  kp : PySem.W.keepIn K (.ref f) = true
section
variable {P : Program} {w : World} {K : PySem.W.Frag} {mg : Str → Option Value} {base : Heap}
theorem Fun.ok {x qual : Str} {st : Stmt} {f : Addr} {fd : FuncData} {N ps : List Str} {k : Nat} {sp : Sp} (F : Fun K x qual st f fd) (S : FnScope N ps (defScope st)) (len : ∀ vs H Q E, sp vs H Q E → vs.length = ps.length)
    (hbody : ∀ (cdv : Value) (A : Around) (outer : List Env) (s : Shared) (H : Hp) (vs : List V) (Q : VK) (E : XK), Room k (A.deeper (envOfC qual (defScope st) s.heap.objs.size f cdv)) → sp vs H Q E →
      ∃ t, PSs (cxOf CX0 P w K mg base N qual (defScope st) f cdv A outer s H E).nox (defBody st) t ∧ t { nx := fun _ H' => Q .non H', rt := Q } (start N vs) H) : FnOk P w K mg base CX0 (k + 1) f fd ps sp := by
  obtain ⟨oc, od, kV, doc, pm, an, cdv, ct, osl, rfl, lk, hcd⟩ := F.ex
  refine fn_of lk hcd S len fun A outer s H vs Q E hr hsp => ?_
  obtain ⟨t, h, q⟩ := hbody cdv A outer s H vs Q E hr hsp
  exact ⟨t, h.nox, q⟩
theorem Fun.binds {x qual : Str} {st : Stmt} {f : Addr} {fd : FuncData} {ps : List Str} (F : Fun K x qual st f fd)
    (h : ∀ (kV doc pm : Value) (an : Option Addr) (cdv ct : Value) (us : List Value), us.length = ps.length → bindArgs (PySem.W.fnOf x qual (defArgs st) (defBody st) (defScope st) .none kV doc pm an cdv ct) ⟨us, []⟩ = pure (ps.zip us)) : Binds K fd ps [] := by
  obtain ⟨oc, od, kV, doc, pm, an, cdv, ct, osl, rfl, lk, hcd⟩ := F.ex
  exact .all (h kV doc pm an cdv ct)
theorem fun_mk {x qual : Str} {st : Stmt} {f : Addr} {oc : Value} {od an : Option Addr} {osl : Array (Option Value)} {kV doc pm cdv ct : Value} (l : K.lookup f = some ⟨oc, od, .func (PySem.W.fnOf x qual (defArgs st) (defBody st) (defScope st) .none kV doc pm an cdv ct), osl⟩)
    (c : PySem.W.codeIn K cdv qual = true) (k : PySem.W.keepIn K (.ref f) = true) : Fun K x qual st f (PySem.W.fnOf x qual (defArgs st) (defBody st) (defScope st) .none kV doc pm an cdv ct) := ⟨⟨oc, od, kV, doc, pm, an, cdv, ct, osl, rfl, l, c⟩, k⟩
end
theorem hu_of {A : Around} {k : Nat} (hr : Room k A) : A.units + 1 < cLine := Nat.lt_of_le_of_lt (Nat.add_le_add_left (by decide : 1 ≤ 64) _) hr.units
section
variable {X : Cx}
end
theorem iteF {A B : Prop} (h : B) : if false = true then A else B := by
  rw [if_neg Bool.false_ne_true]
  exact h
theorem ite2 {c A B : Prop} [Decidable c] (h1 : c → A) (h2 : ¬ c → B) : if c then A else B := by
  by_cases h : c
  · rw [if_pos h]
    exact h1 h
  · rw [if_neg h]
    exact h2 h
theorem iteNS {c A B : Prop} [Decidable c] (hc : c) (h : B) : if (!decide c) = true then A else B := by
  rw [decide_eq_true hc]
  exact iteF h
noncomputable def Same (H H' : Hp) : Prop := ∀ b o, H b = some o → H' b = some o
theorem Same.refl (H : Hp) : Same H H := fun _ _ h => h
theorem Same.trans {H H1 H2 : Hp} (a : Same H H1) (b : Same H1 H2) : Same H H2 := fun c o h => b c o (a c o h)
theorem Same.free {H H' : Hp} (e : Same H H') {l : Addr} (h : H' l = Option.none) : H l = Option.none := by
  cases q : H l with
  | none => rfl
  | some o =>
    rw [e l o q] at h
    cases h
theorem Same.seq {K : PySem.W.Frag} {H H' : Hp} {a : Addr} {xs : List V} (e : Same H H') (h : SqL K H a xs) : SqL K H' a xs := by
  rcases h with (h | ⟨o, h⟩) | h
  · exact .inl (.inl (e _ _ h))
  · exact .inl (.inr ⟨o, e _ _ h⟩)
  · exact .inr h
end L2
set_option Elab.async false
set_option linter.all false
set_option maxRecDepth 100000
set_option maxHeartbeats 4000000
namespace L2
open PySem PySem.Spec PyProof.Rows
noncomputable def Its (x : Str) : It := ⟨fun i _ => i < x.cps.size, fun i H y H' => H' = H ∧ ∃ c, x.cps[i]? = some c ∧ y = .str ⟨#[c]⟩, fun i _ => x.cps.size ≤ i⟩
theorem turn_str {P : Program} {w : World} {K : PySem.W.Frag} {tg : Expr} (x : Str) (it : Addr) {ty : String} {t : Tok} (hty : ty = "str_ascii_iterator" ∨ ty = "str_iterator") :
    Turn P w K tg (Its x) [it] it (fun i h => h.IsStrIter it ty x t i) where
  mem := by simp
  obj := fun i h st b hb => by
    have e : b = it := by simpa using hb
    subst e
    obtain ⟨o, e, c, d⟩ := st
    exact ⟨o, e, fun v z => by rw [d] at z; cases z⟩
  keep := fun i h h' st k => by
    obtain ⟨o, e, r⟩ := st
    exact ⟨o, k it (by simp) o e, r⟩
  item := by
    intro X hP hw hK hc i pins s σ H E I hf st hg
    subst hP hw hK
    have hi : i < x.cps.size := hg
    obtain ⟨f0, f1, f2, f3, f4, f5⟩ := hf it (by simp)
    rcases hty with rfl | rfl
    · refine wpAny_pyNext_ascii_item st (c := x.cps[i]) (by simp [hi]) fun h' st' sb => ?_
      have I1 : Inv X pins σ H { s with heap := h', toks := s.toks + 1 } := I.turned (fun b o hb e => (sb.2 b hb).trans e) f0 f1 f3 f4 f5
      obtain ⟨o, e, c, d⟩ := id st'
      exact ⟨_, rfl, go_of (s := { s with heap := h', toks := s.toks + 1 }) e c d (by decide) ⟨.str ⟨#[x.cps[i]]⟩, H, I1, ⟨_, rfl⟩, ⟨rfl, x.cps[i], by simp [hi], rfl⟩, st', fun b hb => (hf b hb).1⟩⟩
    · refine wpAny_pyNext_wide_item st (c := x.cps[i]) (by simp [hi]) fun h' st' sb => ?_
      have I1 : Inv X pins σ H { s with heap := h', toks := s.toks + 1 } := I.turned (fun b o hb e => (sb.2 b hb).trans e) f0 f1 f3 f4 f5
      obtain ⟨o, e, c, d⟩ := id st'
      exact ⟨_, rfl, go_of (s := { s with heap := h', toks := s.toks + 1 }) e c d (by decide) ⟨.str ⟨#[x.cps[i]]⟩, H, I1, ⟨_, rfl⟩, ⟨rfl, x.cps[i], by simp [hi], rfl⟩, st', fun b hb => (hf b hb).1⟩⟩
  done := by
    intro X hP hw hK hc i pins s σ H E I hf st hg
    subst hP hw hK
    have hi : x.cps.size ≤ i := hg
    obtain ⟨f0, f1, f2, f3, f4, f5⟩ := hf it (by simp)
    rcases hty with rfl | rfl
    · exact wpAny_pyNext_ascii_end (I.ok.hd hc) st (by simp [hi]) fun h' eb => ⟨rfl, I.turned (t' := s.toks) (fun b o hb e => eb b o hb e) f0 f1 f3 f4 f5⟩
    · exact wpAny_pyNext_wide_end (I.ok.hd hc) st (by simp [hi]) fun h' eb => ⟨rfl, I.turned (t' := s.toks) (fun b o hb e => eb b o hb e) f0 f1 f3 f4 f5⟩
  self := fun _ _ _ _ _ st h => by
    rcases hty with rfl | rfl
    · exact wpAny_pyIter_striter_ascii st h
    · exact wpAny_pyIter_striter_wide st h
noncomputable def iStr (tl : TE) : TI := fun σ H R => tl σ H fun x H1 => ∃ z, x = .str z ∧ R (Its z) H1
theorem pi_str {X : Cx} {tg l : Expr} {tl : TE} (hl : PE X l tl) : PI X tg l (iStr tl) := by
  intro pins s σ H R I h
  refine thn (hl pins s σ H _ I h) fun v s1 ⟨x, H1, I1, r1, q1⟩ => ?_
  obtain ⟨z, e, q⟩ := q1
  subst e
  obtain ⟨t, rfl⟩ := r1
  refine wpAny_pyIter_strU ?_
  refine ⟨s1.heap.objs.size, [s1.heap.objs.size], _, _, H1, rfl, I1.kept (t' := s1.toks) fun b o e => Heap.get?_push_of_some _ e, turn_str (ty := strIterType z) (t := t) z _ ?_, ⟨_, Heap.get?_push_size _ rfl, rfl, rfl⟩, fun b hb => ?_, q⟩
  · unfold strIterType
    split
    · exact .inl rfl
    · exact .inr rfl
  · have e : b = s1.heap.objs.size := by simpa using hb
    subst e
    exact I1.fpOk (Nat.le_refl _) (I1.hok.fresh (Nat.le_refl _))
end L2
set_option Elab.async false
set_option linter.all false
set_option maxRecDepth 100000
set_option maxHeartbeats 4000000
namespace L2
open PySem PySem.Spec PyProof.Rows
noncomputable def Wk : St → St → Prop
  | [], [] => True
  | Option.none :: r, _ :: q => Wk r q
  | some a :: r, b :: q => b = some a ∧ Wk r q
  | _, _ => False
theorem Wk.len : ∀ {a b : St}, Wk a b → a.length = b.length
  | [], [], _ => rfl
  | Option.none :: r, _ :: q, h => congrArg (· + 1) (Wk.len (a := r) (b := q) h)
  | some _ :: r, _ :: q, h => congrArg (· + 1) (Wk.len (a := r) (b := q) h.2)
  | [], _ :: _, h => h.elim
  | Option.none :: _, [], h => h.elim
  | some _ :: _, [], h => h.elim
theorem Wk.get : ∀ {a b : St}, Wk a b → ∀ (i : Nat) v, a[i]? = some (some v) → b[i]? = some (some v)
  | [], [], _, i, v, e => by simp at e
  | Option.none :: r, y :: q, h, 0, v, e => by simp at e
  | Option.none :: r, y :: q, h, i + 1, v, e => by simpa using Wk.get (a := r) (b := q) h i v (by simpa using e)
  | some x :: r, y :: q, h, 0, v, e => by
    have e' : x = v := by simpa using e
    rw [h.1, e'] <;> simp
  | some x :: r, y :: q, h, i + 1, v, e => by simpa using Wk.get (a := r) (b := q) h.2 i v (by simpa using e)
  | [], _ :: _, h, _, _, _ => h.elim
  | Option.none :: _, [], h, _, _, _ => h.elim
  | some _ :: _, [], h, _, _, _ => h.elim
noncomputable def clOf (cells : List (Str × Addr)) : List (Str × NameKind) → List (Str × Addr) → List (Str × Addr)
  | [], acc => acc
  | (n, k) :: r, acc => if k == .free then clOf cells r ((n, (cells.lookup n).getD 0) :: acc) else clOf cells r acc
theorem closureFor_clOf {sc : Scope} {env : Env} (h : ∀ y ∈ sc.names, y.2 = .free → ∃ c, env.cells.lookup y.1 = some c) : closureFor sc env = pure (clOf env.cells sc.names []) := by
  unfold closureFor
  have key : ∀ (l : List (Str × NameKind)) (acc : List (Str × Addr)), (∀ y ∈ l, y.2 = .free → ∃ c, env.cells.lookup y.1 = some c) →
      (forIn l acc fun x r => match x with | (name, kind) => if (kind == .free) = true then do let a ← cellOf env name; pure (ForInStep.yield ((name, a) :: r)) else pure (ForInStep.yield r) : Sem (List (Str × Addr))) = pure (clOf env.cells l acc) := by
    intro l
    induction l with
    | nil => intro acc _; rfl
    | cons y r ih =>
      intro acc hy
      obtain ⟨n, k⟩ := y
      have hr : ∀ y ∈ r, y.2 = .free → ∃ c, env.cells.lookup y.1 = some c := fun y hm => hy y (List.mem_cons_of_mem _ hm)
      rw [List.forIn_cons]
      by_cases hk : k = .free
      · subst hk
        obtain ⟨c, hc⟩ := hy (n, .free) List.mem_cons_self rfl
        have e1 : cellOf env n = pure c := by unfold cellOf; rw [hc]
        have e2 : clOf env.cells ((n, .free) :: r) acc = clOf env.cells r ((n, c) :: acc) := by
          show (if (NameKind.free == NameKind.free) = true then clOf env.cells r ((n, (env.cells.lookup n).getD 0) :: acc) else clOf env.cells r acc) = _
          rw [if_pos (by decide), hc]; rfl
        rw [e2, ← ih ((n, c) :: acc) hr]
        show (do let x ← (if (NameKind.free == NameKind.free) = true then do let a ← cellOf env n; pure (ForInStep.yield ((n, a) :: acc)) else pure (ForInStep.yield acc) : Sem _); _) = _
        rw [if_pos (by decide), e1]
        rfl
      · have hb : (k == NameKind.free) = false := by simpa using hk
        have e2 : clOf env.cells ((n, k) :: r) acc = clOf env.cells r acc := by
          show (if (k == NameKind.free) = true then clOf env.cells r ((n, (env.cells.lookup n).getD 0) :: acc) else clOf env.cells r acc) = _
          rw [hb]; rfl
        rw [e2, ← ih acc hr]
        show (do let x ← (if (k == NameKind.free) = true then do let a ← cellOf env n; pure (ForInStep.yield ((n, a) :: acc)) else pure (ForInStep.yield acc) : Sem _); _) = _
        rw [hb]
        rfl
  have := key sc.names [] h
  first | exact this | (rw [this]; rfl) | simpa using this
theorem clOf_lookup {cells : List (Str × Addr)} : ∀ {l : List (Str × NameKind)} {acc : List (Str × Addr)} {n : Str} {c : Addr}, (∀ y ∈ l, y.2 = .free → ∃ c, cells.lookup y.1 = some c) → (∀ n c, acc.lookup n = some c → cells.lookup n = some c) →
    (clOf cells l acc).lookup n = some c → cells.lookup n = some c
  | [], acc, n, c, _, ha, e => ha n c e
  | (m, k) :: r, acc, n, c, hl, ha, e => by
    have hr : ∀ y ∈ r, y.2 = .free → ∃ c, cells.lookup y.1 = some c := fun y hm => hl y (List.mem_cons_of_mem _ hm)
    have e' : (if (k == NameKind.free) = true then clOf cells r ((m, (cells.lookup m).getD 0) :: acc) else clOf cells r acc).lookup n = some c := e
    by_cases hk : (k == NameKind.free) = true
    · rw [if_pos hk] at e'
      refine clOf_lookup hr (fun n c z => ?_) e'
      obtain ⟨d, hd⟩ := hl (m, k) List.mem_cons_self (by simpa using hk)
      rw [List.lookup_cons] at z
      by_cases hn : (n == m) = true
      · rw [hn] at z
        have : n = m := by simpa using hn
        subst this
        have hd' : cells.lookup n = some d := hd
        rw [hd'] at z ⊢
        simpa using z
      · have hn' : (n == m) = false := by simpa using hn
        rw [hn'] at z
        exact ha n c z
    · rw [if_neg hk] at e'
      exact clOf_lookup hr ha e'
theorem clOf_some {cells : List (Str × Addr)} : ∀ {l : List (Str × NameKind)} {acc : List (Str × Addr)} {n : Str}, ((n, NameKind.free) ∈ l ∨ ∃ c, acc.lookup n = some c) → ∃ c, (clOf cells l acc).lookup n = some c
  | [], acc, n, h => by
    rcases h with h | h
    · cases h
    · exact h
  | (m, k) :: r, acc, n, h => by
    show ∃ c, (if (k == NameKind.free) = true then clOf cells r ((m, (cells.lookup m).getD 0) :: acc) else clOf cells r acc).lookup n = some c
    have hcons : ∀ a, n = m ∨ (∃ c, acc.lookup n = some c) → ∃ c, ((m, a) :: acc).lookup n = some c := fun a z => by
      rw [List.lookup_cons]
      by_cases hn : (n == m) = true
      · rw [hn]; exact ⟨_, rfl⟩
      · have hn' : (n == m) = false := by simpa using hn
        rw [hn']
        rcases z with z | z
        · exact absurd (by simpa using z) hn
        · exact z
    by_cases hk : (k == NameKind.free) = true
    · rw [if_pos hk]
      refine clOf_some ?_
      rcases h with h | h
      · rcases List.mem_cons.mp h with e | h
        · exact .inr (hcons _ (.inl (congrArg Prod.fst e)))
        · exact .inl h
      · exact .inr (hcons _ (.inr h))
    · rw [if_neg hk]
      refine clOf_some ?_
      rcases h with h | h
      · rcases List.mem_cons.mp h with e | h
        · have : k = .free := (congrArg Prod.snd e).symm
          rw [this] at hk
          exact absurd (by decide) hk
        · exact .inl h
      · exact .inr h
noncomputable def rlb (env : Env) (p : Str × NameKind) : Str × NameKind := if (p.2 == NameKind.free && env.scope.kind == ScopeKind.function && env.kindOf p.1 == some NameKind.cell) = true then (p.1, NameKind.cell) else p
theorem relabel_names (sc : Scope) (env : Env) : (relabel sc env).names = sc.names.map (rlb env) := rfl
theorem rlb_fst (env : Env) (p : Str × NameKind) : (rlb env p).1 = p.1 := by
  unfold rlb
  split <;> rfl
theorem rlb_free {env : Env} {p : Str × NameKind} (h : p.2 ≠ .cell) (h2 : (rlb env p).2 = .cell ∨ (rlb env p).2 = .free) : p.2 = .free := by
  unfold rlb at h2
  split at h2
  · rename_i q
    rw [Bool.and_eq_true, Bool.and_eq_true] at q
    simpa using q.1.1
  · rcases h2 with h2 | h2
    · exact absurd h2 h
    · exact h2
theorem relabel_free' {env : Env} : ∀ {names : List (Str × NameKind)} {x : Str} {k : NameKind}, (∀ y ∈ names, y.2 ≠ .cell) → (k = .cell ∨ k = .free) → (names.map (rlb env)).lookup x = some k → (x, NameKind.free) ∈ names
  | [], x, k, _, _, e => by simp at e
  | p :: r, x, k, hc, hk, e => by
    have hr : ∀ y ∈ r, y.2 ≠ .cell := fun y hm => hc y (List.mem_cons_of_mem _ hm)
    have e0 : rlb env p = (p.1, (rlb env p).2) := by rw [← rlb_fst env p]
    rw [List.map_cons, e0, List.lookup_cons] at e
    by_cases hx : x = p.1
    · have hb : (x == p.1) = true := by simpa using hx
      rw [hb] at e
      have e2 : (rlb env p).2 = k := Option.some.inj e
      have hj := rlb_free (env := env) (hc p List.mem_cons_self) (by rw [e2]; exact hk)
      have : (x, NameKind.free) = p := by rw [hx, ← hj]
      rw [this]
      exact List.mem_cons_self
    · have hb : (x == p.1) = false := by simpa using hx
      rw [hb] at e
      exact List.mem_cons_of_mem _ (relabel_free' hr hk e)
theorem relabel_free {env : Env} {sc : Scope} {x : Str} {k : NameKind} (hc : ∀ y ∈ sc.names, y.2 ≠ .cell) (hk : k = .cell ∨ k = .free) (e : (relabel sc env).names.lookup x = some k) : (x, NameKind.free) ∈ sc.names :=
  relabel_free' (env := env) hc hk (by rw [← relabel_names]; exact e)
noncomputable def blkS (ix : List (Option Nat)) (σ : St) : St := ix.map fun o => o.bind fun i => (σ[i]?).join
noncomputable def FreeOk (XN : List Str) (env : Env) (sc : Scope) : List Str → List (Option Nat) → Prop
  | [], [] => True
  | _ :: N, Option.none :: ix => FreeOk XN env sc N ix
  | y :: N, some i :: ix => XN[i]? = some y ∧ env.kindOf y = some .cell ∧ (relabel sc env).names.lookup y = some .cell ∧ FreeOk XN env sc N ix
  | _, _ => False
theorem FreeOk.len {XN : List Str} {env : Env} {sc : Scope} : ∀ {N : List Str} {ix : List (Option Nat)}, FreeOk XN env sc N ix → ix.length = N.length
  | [], [], _ => rfl
  | _ :: N, Option.none :: ix, h => congrArg (· + 1) (FreeOk.len (N := N) (ix := ix) h)
  | _ :: N, some _ :: ix, h => congrArg (· + 1) (FreeOk.len (N := N) (ix := ix) h.2.2.2)
  | [], _ :: _, h => h.elim
  | _ :: _, [], h => h.elim
theorem FreeOk.get {XN : List Str} {env : Env} {sc : Scope} : ∀ {N : List Str} {ix : List (Option Nat)}, FreeOk XN env sc N ix → ∀ (j : Nat) (y : Str) (i : Nat), N[j]? = some y → ix[j]? = some (some i) →
    XN[i]? = some y ∧ env.kindOf y = some .cell ∧ (relabel sc env).names.lookup y = some .cell
  | [], [], _, j, y, i, e, _ => by simp at e
  | _ :: N, Option.none :: ix, h, 0, y, i, e, e2 => by simp at e2
  | _ :: N, Option.none :: ix, h, j + 1, y, i, e, e2 => FreeOk.get (N := N) (ix := ix) h j y i (by simpa using e) (by simpa using e2)
  | z :: N, some k :: ix, h, 0, y, i, e, e2 => by
    have e' : z = y := by simpa using e
    have e2' : k = i := by simpa using e2
    subst e'; subst e2'
    exact ⟨h.1, h.2.1, h.2.2.1⟩
  | _ :: N, some _ :: ix, h, j + 1, y, i, e, e2 => FreeOk.get (N := N) (ix := ix) h.2.2.2 j y i (by simpa using e) (by simpa using e2)
  | [], _ :: _, h, _, _, _, _, _ => h.elim
  | _ :: _, [], h, _, _, _, _, _ => h.elim
noncomputable def cxB (X : Cx) (sc : Scope) (C : Addr) (N : List Str) (s₀ : Shared) (H₀ : Hp) (fp : List Addr) : Cx :=
  { X with N := N, s₀ := s₀, H₀ := H₀, env := compEnvC sc (clOf X.env.cells sc.names []) C X.env, outer := X.stack, ex := fp, fn := fun _ => false, pn := [], xe := fun _ _ => False }
structure CompOk (X : Cx) (sc : Scope) (N : List Str) (ix : List (Option Nat)) : Prop where
  kind : sc.kind = .function
  nocell : (sc.names.all fun y => y.2 != .cell) = true
  names : (sc.names.all fun y => y.2 != .local || sc.names.lookup y.1 == some .local) = true
  free : (sc.names.all fun y => y.2 != .free || X.env.scope.names.lookup y.1 == some .cell) = true
  fr : FreeOk X.N X.env sc N ix
section
variable {X : Cx} {sc : Scope} {N : List Str} {ix : List (Option Nat)} {pins : List (Addr × Obj)} {σ : St} {H : Hp} {s : Shared}
theorem CompOk.cells (c : CompOk X sc N ix) (ok : X.Ok) : ∀ y ∈ sc.names, y.2 = .free → ∃ c, X.env.cells.lookup y.1 = some c := fun y hy e => by
  have h := List.all_eq_true.mp c.free y hy
  rw [e] at h
  have h' : X.env.scope.names.lookup y.1 = some .cell := by simpa using h
  exact ok.has y.1 (.inl h')
theorem CompOk.nc (c : CompOk X sc N ix) : ∀ y ∈ sc.names, y.2 ≠ .cell := fun y hy => by simpa using List.all_eq_true.mp c.nocell y hy
theorem CompOk.nm (c : CompOk X sc N ix) : ∀ y ∈ sc.names, y.2 = .local → sc.names.lookup y.1 = some .local := fun y hy e => by
  have h := List.all_eq_true.mp c.names y hy
  rw [e] at h
  simpa using h
theorem inv_block {C : Addr} {fp : List Addr} {h₁ : Heap} {t' : Nat} (c : CompOk X sc N ix) (I : Inv X pins σ H s) (hf : ∀ b ∈ fp, FpOk X pins H b) (hfp : ∀ b ∈ fp, b < s.heap.objs.size) (hC : s.heap.objs.size ≤ C)
    (hn : h₁.Ns C (fun _ => none)) (old : ∀ b o, s.heap.get? b = some o → h₁.get? b = some o) : Inv (cxB X sc C N s H fp) [] (blkS ix σ) H { s with heap := h₁, toks := t' } := by
  have hcells := c.cells I.ok
  have sub : ∀ n c, (clOf X.env.cells sc.names []).lookup n = some c → X.env.cells.lookup n = some c := fun n c e => clOf_lookup hcells (fun n c z => by simp at z) e
  refine ⟨⟨I.ok.mod, c.kind, I.ok.glob, I.ok.blt, hC, fun x y d h1 h2 => I.ok.inj x y d (sub x d h1) (sub y d h2), fun x hx => ?_, fun x d z => absurd z (by simp [cxB]), I.ok.hd, I.ok.frames, .inl rfl, fun b hb => ⟨?_, fun x d e => ?_⟩, I.bs, Nat.le_trans I.ok.bsz I.sz, fun b o e hb => ?_, fun b hb hs => ?_, I.stack, I.stkFree⟩,
    rfl, I.bare, Un.kept old, ⟨_, hn, fun j y v e1 e2 e3 => ?_⟩, fun x d e => ?_, I.hok.fresh hC, fun x d e => I.freeC x d (sub x d e), fun p hp => absurd (show p ∈ ([] : List (Addr × Obj)) from hp) (by simp), I.hok.kept old, ?_⟩
  · refine clOf_some (.inl ?_)
    rcases hx with hx | hx
    · exact relabel_free c.nc (.inl rfl) (show (relabel sc X.env).names.lookup x = some .cell from hx)
    · exact relabel_free c.nc (.inr rfl) (show (relabel sc X.env).names.lookup x = some .free from hx)
  · exact Nat.ne_of_lt (Nat.lt_of_lt_of_le (hfp b hb) hC)
  · exact (hf b hb).2.2.2.2.1 x d (sub x d e)
  · rcases (hf b hb).2.2.2.1 with z | z
    · exact I.ok.noex b o e z
    · exact absurd (Nat.lt_of_lt_of_le (Heap.lt_size e) (Nat.le_trans I.ok.bsz z)) (Nat.lt_irrefl _)
  · rcases List.mem_cons.mp (I.stkSub b hs) with z | z
    · exact (hf b hb).2.1 z
    · exact (hf b hb).2.2.1 z
  · have hj : ∃ i, ix[j]? = some (some i) ∧ σ[i]? = some (some v) := by
      unfold blkS at e2
      rw [List.getElem?_map] at e2
      cases q : ix[j]? with
      | none => rw [q] at e2; cases e2
      | some o =>
        rw [q] at e2
        cases o with
        | none => cases e2
        | some i =>
          refine ⟨i, rfl, ?_⟩
          have e2' : (σ[i]?).join = some v := Option.some.inj e2
          cases q2 : σ[i]? with
          | none => rw [q2] at e2'; cases e2'
          | some w => rw [q2] at e2'; exact congrArg some e2'
    obtain ⟨i, hi, hv⟩ := hj
    obtain ⟨k1, k2, k3⟩ := c.fr.get j y i e1 hi
    obtain ⟨m, hm, hl⟩ := I.loc
    obtain ⟨u, r, l⟩ := hl i y v k1 hv (.inr (.inl k2))
    refine ⟨u, r, ?_⟩
    rcases l with ⟨z, _⟩ | ⟨_, d, hd, hcell⟩
    · rw [k2] at z; cases z
    · obtain ⟨d', hd'⟩ : ∃ d', (clOf X.env.cells sc.names []).lookup y = some d' := clOf_some (.inl (relabel_free c.nc (.inl rfl) k3))
      have := sub y d' hd'
      rw [hd] at this
      cases this
      exact .inr ⟨.inl k3, d, hd', hcell.keeps old⟩
  · obtain ⟨v, z⟩ := I.cell x d (sub x d e)
    exact ⟨v, z.keeps old⟩
  · show (blkS ix σ).length = N.length
    unfold blkS
    rw [List.length_map, c.fr.len]
theorem inv_unblock {C : Addr} {fp : List Addr} {pins' : List (Addr × Obj)} {σ' : St} {H' : Hp} {s' : Shared} (I : Inv X pins σ H s) (hf : ∀ b ∈ fp, FpOk X pins H b) (J : Inv (cxB X sc C N s H fp) pins' σ' H' s') : Inv X pins σ H' s' := by
  refine I.call' (ch := fp) J.os J.base J.hok J.bare fun b hb => ?_
  obtain ⟨f0, f1, f2, f3, f4, f5⟩ := hf b hb
  exact ⟨f3, f1, f4, f5⟩
end
noncomputable def PTs (X : Cx) (ifs : List Expr) (t : TT) : Prop :=
  ∀ (pins : List (Addr × Obj)) (s : Shared) (σ : St) (H : Hp) (Q : Bool → Hp → Prop), Inv X pins σ H s → t σ H Q →
    wpAny (model X.prog X.w) X.A (forIn ifs true fun c r => if r = true then do let ok ← isTrue c X.env (eval c X.env); pure (ForInStep.yield ok) else pure (ForInStep.yield r)) (TP X pins σ Q) X.xe s
noncomputable def tAll : TT := fun _ H Q => Q true H
theorem pts_nil {X : Cx} : PTs X [] tAll := fun _ _ _ H _ I h => wpAny_tests_nil ⟨H, I, h⟩
theorem pts_one {X : Cx} {c : Expr} {t : TT} (h : PT X c t) : PTs X [c] t := fun pins s σ H Q I hw => wpAny_tests_one (h pins s σ H Q I hw)
noncomputable def CompW (J : It) (D : Addr) (σb : St) (g : TG) (tt : TT) (te : TE) (Q : Hp → List V → Prop) (W : Nat → Nat → List V → Hp → Prop) : Prop :=
  ∀ i m ys H, W i m ys H → H D = some (.lst ys) ∧ ((J.stop i H ∧ Q H ys) ∨ (J.go i H ∧ ∀ x H3, J.yld i H x H3 → g x σb H3 fun σ4 H4 => Wk σb σ4 ∧ tt σ4 H4 fun b H5 =>
    if b = true then te σ4 H5 fun y H6 => H6 D = some (.lst ys) ∧ ys.length < sizeLine ∧ ∃ m', m' < m ∧ W (i + 1) m' (ys ++ [y]) (upd H6 D (.lst (ys ++ [y]))) else ∃ m', m' < m ∧ W (i + 1) m' ys H5))
noncomputable def tComp (ix : List (Option Nat)) (wi : TI) (g : TG) (tt : TT) (te : TE) : TE := fun σ H Q => wi σ H fun J H1 => ∀ D, H1 D = none → ∃ W, (∃ m, W 0 m [] (upd H1 D (.lst []))) ∧ CompW J D (blkS ix σ) g tt te (fun H _ => Q (.ref D) H) W
section
variable {X : Cx} {sc : Scope} {N : List Str} {ix : List (Option Nat)} {elt tg iter : Expr} {ifs : List Expr} {pos : Pos} {wi : TI} {g : TG} {tt : TT} {te : TE}
structure Blk (X : Cx) (sc : Scope) (N : List Str) (tg elt : Expr) (ifs : List Expr) (g : TG) (tt : TT) (te : TE) : Prop where
  tg : ∀ C s H fp, PG (cxB X sc C N s H fp) tg g
  tests : ∀ C s H fp, PTs (cxB X sc C N s H fp) ifs tt
  elt : ∀ C s H fp, PE (cxB X sc C N s H fp) elt te
theorem comp_loop {J : It} {fp : List Addr} {it D : Addr} {tn : Nat → Heap → Prop} {σb : St} {Q : Hp → List V → Prop} {R : Result → Shared → Prop} {W : Nat → Nat → List V → Hp → Prop}
    (hc : X.calm = true) (hxe : X.xe = fun _ _ => False) (T : Turn X.prog X.w X.K tg J fp it tn) (hg : PG X tg g) (ht : PTs X ifs tt) (he : PE X elt te) (turn : CompW J D σb g tt te Q W)
    (stat : ∀ {H' : Hp}, (∀ b ∈ fp, H' b = none) → ∀ b ∈ fp, FpOk X [] H' b)
    (fin : ∀ {σ' : St} {H' : Hp} {s' : Shared} {ys : List V}, Inv X [] σ' H' s' → Q H' ys → R (.ok .next) s')
    {m0 i0 : Nat} {ys0 : List V} {H0 : Hp} {s0 : Shared} (I0 : Inv X [] σb H0 s0) (st0 : tn i0 s0.heap) (fr0 : ∀ b ∈ fp, H0 b = none) (w0 : W i0 m0 ys0 H0) :
    codeAny (model X.prog X.w) X.A (.compLoop (.ListComp elt [⟨tg, iter, ifs, 0⟩] sc pos) 0 (.ref it) (.ref D) X.env) R s0 := by
  have noE : ∀ {E' : Value → Shared → Prop} (e : Value) (s' : Shared), X.xe e s' → E' e s' := fun {E'} e s' z => by rw [hxe] at z; exact z.elim
  refine codeAny_loop rfl (fun n s' => ∃ i ys H', Inv X [] σb H' s' ∧ tn i s'.heap ∧ (∀ b ∈ fp, H' b = none) ∧ W i n ys H') ?_ m0 ⟨i0, ys0, H0, I0, st0, fr0, w0⟩
  rintro n s3 ⟨i, ys, H3, I3, st3, fr3, w3⟩
  show wpAny _ X.A ((compTurn (.ListComp elt [⟨tg, iter, ifs, 0⟩] sc pos) 0 (.ref it) (.ref D) X.env).onRaise (fun x => do noteFrame x X.env; theTreesLotGoes x)) _ _ s3
  refine wpAny_noted ?_
  rw [compTurn_list]
  refine wpAny_bind (wpAny_standAt (wpAny_bind ?_))
  obtain ⟨hDl, next⟩ := turn i n ys H3 w3
  rcases next with ⟨stop, q⟩ | ⟨go, step⟩
  · refine thn (T.done X rfl rfl rfl hc i [] s3 σb H3 _ I3 (stat fr3) st3 stop) fun r s4 ⟨hr, I4⟩ => ?_
    subst hr
    exact wpAny_pure (fin I4 q)
  · refine thn (T.item X rfl rfl rfl hc i [] s3 σb H3 _ I3 (stat fr3) st3 go) fun r s4 ⟨u, hr, h4⟩ => ?_
    subst hr
    refine wpAny_bind (thn h4 fun _ s5 ⟨x, H5, I5, r5, y5, st5, fr5⟩ => ?_)
    have I5' := I5.pinned (stat fr5) (T.obj _ _ st5)
    have back : ∀ {σ' : St} {H' : Hp} {s' : Shared}, Inv X ([] ++ pinsAt fp s5.heap) σ' H' s' → Wk σb σ' → Inv X [] σb H' s' ∧ tn (i + 1) s'.heap ∧ ∀ b ∈ fp, H' b = none := fun {σ' H' s'} I7 wk => by
      refine ⟨(I7.unpinned).weak wk.len wk.get, T.keep _ _ _ st5 fun b hb o e => (I7.pin (b, o) (List.mem_append_right _ (List.mem_append_right _ (mem_pinsAt hb e)))).1, fun b hb => ?_⟩
      obtain ⟨o, e, d⟩ := T.obj _ _ st5 b hb
      exact (I7.pin (b, o) (List.mem_append_right _ (List.mem_append_right _ (mem_pinsAt hb e)))).2.1
    refine wpAny_bind (wpAny_mono (hg _ s5 σb H5 x u _ I5' r5 (step x H5 y5)) (fun _ s6 ⟨σ6, H6, I6, wk, q6⟩ => ?_) noE)
    refine wpAny_bind (wpAny_mono (ht _ s6 σ6 H6 _ I6 q6) (fun ok s7 ⟨H7, I7, q7⟩ => ?_) noE)
    cases ok with
    | false =>
      obtain ⟨m', hm, w7⟩ := q7
      obtain ⟨b1, b2, b3⟩ := back I7 wk
      exact wpAny_pure ⟨rfl, m', hm, i + 1, ys, H7, b1, b2, b3, w7⟩
    | true =>
      refine wpAny_bind (wpAny_bind (wpAny_mono (he _ s7 σ6 H7 _ I7 q7) (fun v s8 ⟨y, H8, I8, r8, hD8, hl8, m', hm, w8⟩ => ?_) noE))
      refine wpAny_bind (wpAny_mono (mt_append _ s8 σ6 H8 (.ref D) [y] (.ref D) [v] (fun _ H9 => H9 = upd H8 D (.lst (ys ++ [y]))) I8 rfl (.cons r8 .nil) ⟨D, ys, y, rfl, rfl, hD8, hl8, rfl⟩) (fun _ s9 ⟨z, H9, I9, _, e9⟩ => ?_) noE)
      subst e9
      obtain ⟨b1, b2, b3⟩ := back I9 wk
      exact wpAny_pure (wpAny_pure ⟨rfl, m', hm, i + 1, ys ++ [y], _, b1, b2, b3, w8⟩)
theorem comp_core {pins : List (Addr × Obj)} {σ : St} {H : Hp} {s : Shared} {E : Value → Shared → Prop} {RR : Value → Addr → Result → Shared → Prop} {it : Addr} {fp : List Addr} {tn : Nat → Heap → Prop} {J : It} {Q : Addr → Hp → List V → Prop}
    (hc : X.calm = true) (c : CompOk X sc N ix) (B : Blk X sc N tg elt ifs g tt te) (I : Inv X pins σ H s) (T : Turn X.prog X.w X.K tg J fp it tn) (st : tn 0 s.heap) (hf : ∀ b ∈ fp, FpOk X pins H b)
    (h : ∀ D, H D = none → ∃ W, (∃ m, W 0 m [] (upd H D (.lst []))) ∧ CompW J D (blkS ix σ) g tt te (Q D) W)
    (hR : ∀ D C H' s' ys, Inv X pins σ H' s' → FpOk X pins H' C → (∃ m, s'.heap.Ns C m) → Q D H' ys → RR (.ref D) C (.ok .next) s') :
    wpAny (model X.prog X.w) X.A (newList []) (fun acc s₃ => wpAny (model X.prog X.w) X.A (newFunctionEnv sc X.env.globals (clOf X.env.cells sc.names []) [] X.env.qual none .none (some X.env)) (fun cenv s₄ =>
      codeAny (model X.prog X.w) X.A (.compStart (.ListComp elt [⟨tg, iter, ifs, 0⟩] sc pos) 0 (.ref it) acc { cenv with scope := relabel sc X.env }) (RR acc cenv.locals) s₄) E s₃) E s := by
  have hlt : ∀ b ∈ fp, b < s.heap.objs.size := fun b hb => let ⟨o, e, _⟩ := T.obj _ _ st b hb; Heap.lt_size e
  refine wpAny_newObj_type ?_ (by show 0 ≤ sizeLine; exact Nat.zero_le _)
  have hD : H s.heap.objs.size = none := I.hok.fresh (Nat.le_refl _)
  obtain ⟨W, ⟨m0, w0⟩, turn⟩ := h s.heap.objs.size hD
  have I1 : Inv X pins σ (upd H s.heap.objs.size (.lst [])) { s with heap := s.heap.push { cls := .type "list", data := .seq ([] : List Value).toArray } } := I.lnew (t' := s.toks) (its := []) .nil (Nat.zero_le _)
  have k1 : ∀ b o, s.heap.get? b = some o → (s.heap.push { cls := .type "list", data := .seq ([] : List Value).toArray }).get? b = some o := fun b o e => Heap.get?_push_of_some _ e
  have hne : ∀ b ∈ fp, b ≠ s.heap.objs.size := fun b hb => Nat.ne_of_lt (hlt b hb)
  have hf1 : ∀ b ∈ fp, FpOk X pins (upd H s.heap.objs.size (.lst [])) b := fun b hb => ⟨by rw [upd_ne (hne b hb)]; exact (hf b hb).1, (hf b hb).2⟩
  have st1 : tn 0 (s.heap.push { cls := .type "list", data := .seq ([] : List Value).toArray }) := T.keep _ _ _ st fun b _ o e => k1 b o e
  generalize hs1 : ({ s with heap := s.heap.push { cls := .type "list", data := .seq ([] : List Value).toArray } } : Shared) = s1 at I1
  have hs1h : s1.heap = s.heap.push { cls := .type "list", data := .seq ([] : List Value).toArray } := by rw [← hs1]
  generalize hDe : s.heap.objs.size = D at *
  show wpAny _ _ _ _ _ s1
  refine wpAny_newFunctionEnv c.nc (by intro y hy; simp at hy) (fun h₁ hns₁ hsb₁ => ?_) c.kind
  have old : ∀ b o, s1.heap.get? b = some o → h₁.get? b = some o := fun b o e => (hsb₁.2 b (Nat.ne_of_lt (Heap.lt_size e))).trans (Heap.get?_push_of_some _ e)
  have hlt1 : ∀ b ∈ fp, b < s1.heap.objs.size := fun b hb => by
    obtain ⟨o, e, _⟩ := T.obj _ _ st1 b hb
    rw [hs1h]
    exact Heap.lt_size e
  have J0 := inv_block (h₁ := h₁) (t' := s1.toks + ([] : List (Str × Value)).length) c I1 hf1 hlt1 (Nat.le_refl _) (by simpa using hns₁) old
  have stB : tn 0 h₁ := T.keep _ _ _ (by rw [hs1h]; exact st1 : tn 0 s1.heap) fun b _ o e => old b o e
  have fpB : ∀ {H' : Hp}, (∀ b ∈ fp, H' b = none) → ∀ b ∈ fp, FpOk (cxB X sc s1.heap.objs.size N s1 (upd H D (.lst [])) fp) [] H' b := fun {H'} hn b hb => by
    obtain ⟨f0, f1, f2, f3, f4, f5⟩ := hf1 b hb
    refine ⟨hn b hb, Nat.ne_of_lt (hlt1 b hb), ?_, .inl hb, fun x d e => f4 x d (clOf_lookup (c.cells I.ok) (fun n c z => by simp at z) e), fun p hp => absurd (show p ∈ ([] : List (Addr × Obj)) from hp) (by simp)⟩
    intro z
    rcases List.mem_cons.mp (I1.stkSub b z) with q | q
    · exact f1 q
    · exact f2 q
  have fin : ∀ {σ' : St} {H' : Hp} {s' : Shared} {ys : List V}, Inv (cxB X sc s1.heap.objs.size N s1 (upd H D (.lst [])) fp) [] σ' H' s' → Q D H' ys → RR (.ref D) s1.heap.objs.size (.ok .next) s' := fun {σ' H' s' ys} J q =>
    hR D _ H' s' ys (inv_unblock I1 hf1 J) (I1.fpOk (Nat.le_refl _) J.free) (let ⟨m, hn, _⟩ := J.loc; ⟨m, hn⟩) q
  have loop : codeAny (model X.prog X.w) X.A (.compLoop (.ListComp elt [⟨tg, iter, ifs, 0⟩] sc pos) 0 (.ref it) (.ref D) (cxB X sc s1.heap.objs.size N s1 (upd H D (.lst [])) fp).env) (RR (.ref D) s1.heap.objs.size) { s1 with heap := h₁, toks := s1.toks + ([] : List (Str × Value)).length } :=
    comp_loop (X := cxB X sc s1.heap.objs.size N s1 (upd H D (.lst [])) fp) hc rfl T (B.tg _ _ _ _) (B.tests _ _ _ _) (B.elt _ _ _ _) turn fpB fin J0 stB (fun b hb => (hf1 b hb).1) w0
  exact codeAny_compStart_list loop (T.self _ 0 _ _ _ stB loop)
theorem pe_comp (hc : X.calm = true) (c : CompOk X sc N ix) (hi : PI X tg iter wi) (B : Blk X sc N tg elt ifs g tt te) (hs : ∀ x, foldedSetIterable iter X.env x = pure x := by intro _; rfl) : PE X (.ListComp elt [⟨tg, iter, ifs, 0⟩] sc pos) (tComp ix wi g tt te) := by
  intro pins s σ H Q I h
  rw [eval_ListComp]
  refine wpAny_comprehension_free (use := none) rfl hs (closureFor_clOf (c.cells I.ok)) c.kind c.nm (thn (hi pins s σ H _ I h) fun xv s₁ h₁ => thn h₁ fun itv s₂ h₂ => ?_)
  obtain ⟨it, fp, tn, J, H2, e, I2, T, st2, f2, q2⟩ := h₂
  subst e
  refine comp_core (RR := fun acc C => compPost (model X.prog X.w) X.A X.xe none (EP X pins σ Q) acc C) (Q := fun D H _ => Q (.ref D) H) hc c B I2 T st2 f2 q2 ?_
  intro D C H' s' ys I' fC ns q
  refine ⟨_, ns.choose_spec, fun h' sb => ⟨.ref D, H', ?_, rfl, q⟩⟩
  obtain ⟨f0, f1, f2, f3, f4, f5⟩ := fC
  exact I'.turned (t' := s'.toks) (fun b o hb e => (sb.2 b hb).trans e) f0 f1 f3 f4 f5
theorem ps_setC {i : Nat} {y : Str} {py spos : Pos} (hc : X.calm = true) (hN : X.N.Nodup) (hy : X.N[i]? = some y) (hl : X.env.scope.names.lookup y = some .local)
    (hsw : swapsWith (.ListComp elt [⟨tg, iter, ifs, 0⟩] sc pos) (some (.Name y py)) spos.line X.env = pure true)
    (c : CompOk X sc N ix) (hi : PI X tg iter wi) (B : Blk X sc N tg elt ifs g tt te) (hs : ∀ x, foldedSetIterable iter X.env x = pure x := by intro _; rfl) :
    PS X (.Assign [.Name y py] (.ListComp elt [⟨tg, iter, ifs, 0⟩] sc pos) spos) (tAsg (tComp ix wi g tt te) (gName i)) := by
  intro pins s σ H D0 I h
  rw [exec_Assign_Name_used _ _ _ _ hsw]
  refine wpAny_bind (wpAny_standAt (wpAny_bind ?_))
  show wpAny _ X.A (do let _ ← comprehension (.ListComp elt [⟨tg, iter, ifs, 0⟩] sc pos) sc X.env _ (newList []) false (eval iter X.env) (some (assign (.Name y py) X.env))) _ _ s
  refine wpAny_bind (wpAny_mono (wpAny_comprehension_free (use := some (assign (.Name y py) X.env)) (Q := fun _ s' => SP X pins D0 .next s') rfl hs (closureFor_clOf (c.cells I.ok)) c.kind c.nm
    (thn (hi pins s σ H _ I h) fun xv s₁ h₁ => thn h₁ fun itv s₂ h₂ => ?_)) (fun _ s' hq => wpAny_pure (wpAny_pure hq)) fun _ _ e => e)
  obtain ⟨it, fp, tn, J, H2, e, I2, T, st2, f2, q2⟩ := h₂
  subst e
  refine comp_core (RR := fun acc C => compPost (model X.prog X.w) X.A X.xe (some (assign (.Name y py) X.env)) (fun _ s' => SP X pins D0 .next s') acc C) (Q := fun D H _ => D0.nx (σ.set i (some (.ref D))) H) hc c B I2 T st2 f2 q2 ?_
  intro D C H' s' ys I' fC ns q
  show wpAny _ X.A (assign (.Name y py) X.env (.ref D)) _ _ _
  obtain ⟨f0, f1, f2, f3, f4, f5⟩ := fC
  refine wpAny_assign_Name (store_ok2 I' hN hy (.inl hl) (v := .ref D) rfl (fun s2 J2 ⟨a, sb, ha⟩ => ?_) (.inr hl))
  obtain ⟨m, hn⟩ := ns
  have neC : C ≠ a := by
    rcases ha with z | z
    · rw [z]; exact f1
    · exact fun e => f4 y a z e.symm
  refine ⟨m, hn.sameBut sb neC, fun h3 sb3 => ⟨_, H', ?_, q⟩⟩
  exact J2.turned (t' := s2.toks) (fun b o hb e => (sb3.2 b hb).trans e) f0 f1 f3 f4 f5
end
end L2
set_option Elab.async false
set_option linter.all false
set_option maxRecDepth 100000
namespace L2
open PySem PySem.Spec PyProof.Rows
section
variable {κ : Type} [DecidableEq κ]
noncomputable def valV (kvs : List (κ × V)) (k : κ) : Option V := (kvs.find? fun kv => decide (kv.1 = k)).map (·.2)
noncomputable def putK (kvs : List (κ × V)) (k : κ) (v : V) : List (κ × V) :=
  if (kvs.any fun kv => decide (kv.1 = k)) = true then kvs.map (fun kv => if kv.1 = k then (kv.1, v) else kv) else kvs ++ [(k, v)]
theorem valV_pos {p : κ × V} {r : List (κ × V)} {k : κ} (e : p.1 = k) : valV (p :: r) k = some p.2 := by simp [valV, List.find?_cons, e]
theorem valV_neg {p : κ × V} {r : List (κ × V)} {k : κ} (e : ¬ p.1 = k) : valV (p :: r) k = valV r k := by simp [valV, List.find?_cons, e]
theorem valV_any (k : κ) : ∀ kvs : List (κ × V), (kvs.any fun kv => decide (kv.1 = k)) = (valV kvs k).isSome
  | [] => rfl
  | p :: r => by
    rw [List.any_cons]
    by_cases e : p.1 = k
    · simp only [valV_pos e, decide_eq_true e, Bool.true_or, Option.isSome_some]
    · rw [valV_neg e, decide_eq_false e, Bool.false_or]; exact valV_any k r
theorem length_putK (kvs : List (κ × V)) (k : κ) (v : V) : (putK kvs k v).length ≤ kvs.length + 1 := by
  unfold putK
  split
  · rw [List.length_map]; lia
  · rw [List.length_append, List.length_cons, List.length_nil]; lia
theorem RelO.isSome_eq {o : Option V} {u : Option Value} (r : RelO o u) : o.isSome = u.isSome := by
  cases o with
  | none => cases u with
    | none => rfl
    | some _ => exact (show False from r).elim
  | some _ => cases u with
    | none => exact (show False from r).elim
    | some _ => rfl
theorem KV.val {kvs : List (κ × V)} {vs : List (κ × Value)} (r : KV kvs vs) (k : κ) : RelO (valV kvs k) (valueAt vs k) := by
  unfold KV at r
  induction r with
  | nil => exact True.intro
  | @cons p q ps qs h t ih =>
    obtain ⟨h1, h2⟩ := h
    by_cases e : p.1 = k
    · have e' : q.1 = k := h1.symm.trans e
      have b : valueAt (q :: qs) k = some q.2 := by simp [valueAt, List.find?_cons, e']
      rw [valV_pos e, b]; exact h2
    · have e' : ¬ q.1 = k := fun z => e (h1.trans z)
      have b : valueAt (q :: qs) k = valueAt qs k := by simp [valueAt, List.find?_cons, e']
      rw [valV_neg e, b]; exact ih
theorem KV.any {kvs : List (κ × V)} {vs : List (κ × Value)} (r : KV kvs vs) (k : κ) : (kvs.any fun kv => decide (kv.1 = k)) = vs.any fun kv => decide (kv.1 = k) := by
  unfold KV at r
  induction r with
  | nil => rfl
  | cons h t ih => rw [List.any_cons, List.any_cons, ih, h.1]
theorem KV.repl {kvs : List (κ × V)} {vs : List (κ × Value)} (r : KV kvs vs) (k : κ) {y : V} {u : Value} (ry : RelV y u) :
    KV (kvs.map fun kv => if kv.1 = k then (kv.1, y) else kv) (vs.map fun kv => if kv.1 = k then (kv.1, u) else kv) := by
  unfold KV at r ⊢
  induction r with
  | nil => exact .nil
  | @cons p q ps qs h t ih =>
    rw [List.map_cons, List.map_cons]
    refine .cons ?_ ih
    obtain ⟨h1, h2⟩ := h
    by_cases e : p.1 = k
    · rw [if_pos e, if_pos (h1.symm.trans e)]; exact ⟨h1, ry⟩
    · rw [if_neg e, if_neg (fun z => e (h1.trans z))]; exact ⟨h1, h2⟩
theorem KV.put {kvs : List (κ × V)} {vs : List (κ × Value)} (r : KV kvs vs) (k : κ) {y : V} {u : Value} (ry : RelV y u) : KV (putK kvs k y) (stored vs k u) := by
  unfold putK stored
  rw [r.any k]
  by_cases e : (vs.any fun kv => decide (kv.1 = k)) = true
  · rw [if_pos e, if_pos e]; exact r.repl k ry
  · rw [if_neg e, if_neg e]; exact Paired.snoc r ⟨rfl, ry⟩
theorem KV.length {kvs : List (κ × V)} {vs : List (κ × Value)} (r : KV kvs vs) : kvs.length = vs.length := Paired.length r
end
theorem kV_is {P : Program} {w : World} {k : Key} {u : Value} (r : RelV (kV k) u) : (mixKind P w).is k u = true := by
  cases k with
  | inl i => obtain ⟨t, e⟩ := (show ∃ t, u = Value.int i t from r); subst e; exact mixKind_int P w i t
  | inr x => obtain ⟨t, e⟩ := (show ∃ t, u = Value.str x t from r); subst e; exact mixKind_str P w x t
theorem items_are {P : Program} {w : World} : ∀ {ks : List Key} {us : List Value}, Vals (ks.map kV) us → ItemsAre (mixKind P w) ks us
  | [], _, r => by rw [List.map_nil] at r; cases r; exact .nil
  | k :: ks, _, r => by
    rw [List.map_cons] at r
    cases r with
    | cons h t => exact .cons (kV_is h) (items_are t)
noncomputable abbrev KT (H : Hp) : List (List Key × V) → List (List Key × Addr × Value) → Prop := Paired fun p q => p.1 = q.1 ∧ H q.2.1 = some (.tup (p.1.map kV)) ∧ RelV p.2 q.2.2
theorem KT.val {H : Hp} {kvs : List (List Key × V)} {xs : List (List Key × Addr × Value)} (r : KT H kvs xs) (k : List Key) : RelO (valV kvs k) ((atKey xs k).map (·.2)) := by
  induction r with
  | nil => exact True.intro
  | @cons p q ps qs h t ih =>
    obtain ⟨h1, _, h2⟩ := h
    by_cases e : p.1 = k
    · have e' : q.1 = k := h1.symm.trans e
      have b : atKey (q :: qs) k = some q.2 := by simp [atKey, List.find?_cons, e']
      rw [valV_pos e, b]; exact h2
    · have e' : ¬ q.1 = k := fun z => e (h1.trans z)
      have b : atKey (q :: qs) k = atKey qs k := by simp [atKey, List.find?_cons, e']
      rw [valV_neg e, b]; exact ih
theorem KT.repl {H : Hp} {kvs : List (List Key × V)} {xs : List (List Key × Addr × Value)} (r : KT H kvs xs) (k : List Key) {y : V} {u : Value} (ry : RelV y u) :
    KT H (kvs.map fun kv => if kv.1 = k then (kv.1, y) else kv) (xs.map (putAt k u)) := by
  induction r with
  | nil => exact .nil
  | @cons p q ps qs h t ih =>
    rw [List.map_cons, List.map_cons]
    refine .cons ?_ ih
    obtain ⟨h1, h2, h3⟩ := h
    unfold putAt
    by_cases e : p.1 = k
    · rw [if_pos e, if_pos (h1.symm.trans e)]; exact ⟨h1, h2, ry⟩
    · rw [if_neg e, if_neg (fun z => e (h1.trans z))]; exact ⟨h1, h2, h3⟩
theorem KT.put {H : Hp} {kvs : List (List Key × V)} {xs : List (List Key × Addr × Value)} (r : KT H kvs xs) (k : List Key) {b : Addr} {y : V} {u : Value} (hb : H b = some (.tup (k.map kV))) (ry : RelV y u) :
    KT H (putK kvs k y) (storedH xs k b u) := by
  have e : (kvs.any fun kv => decide (kv.1 = k)) = (atKey xs k).isSome := by
    rw [valV_any, (r.val k).isSome_eq, Option.isSome_map]
  unfold putK storedH
  rw [e]
  by_cases q : (atKey xs k).isSome = true
  · rw [if_pos q, if_pos q]; exact r.repl k ry
  · rw [if_neg q, if_neg q]; exact Paired.snoc r ⟨rfl, hb, ry⟩
theorem KT.keeps {H H' : Hp} {kvs : List (List Key × V)} {xs : List (List Key × Addr × Value)} (r : KT H kvs xs) (ht : ∀ b ys, H b = some (.tup ys) → H' b = some (.tup ys)) : KT H' kvs xs :=
  Paired.mapP r fun _ _ z => ⟨z.1, ht _ _ z.2.1, z.2.2⟩
section
variable {P : Program} {w : World} {H : Hp} {h : Heap} {a : Addr}
theorem rd_of {u : HO} (ok : HOk P w H h) (e : Rd H a u) : ObjOk P w H h a u := e.ok ok
theorem dk_rd {kvs : List (Key × V)} (ok : HOk P w H h) (e : Rd H a (.dK kvs)) : kvs.length ≤ sizeLine ∧ (a == sysModules) = false ∧ ∃ vs, KV kvs vs ∧ h.DictOf (mixKind P w) a vs :=
  show ObjOk P w H h a (.dK kvs) from rd_of ok e
theorem dk_of {kvs : List (Key × V)} (ok : HOk P w H h) (e : H a = some (.dK kvs)) : kvs.length ≤ sizeLine ∧ (a == sysModules) = false ∧ ∃ vs, KV kvs vs ∧ h.DictOf (mixKind P w) a vs := dk_rd ok (.inl e)
theorem key_of {ks : List Key} (ok : HOk P w H h) (e : H a = some (.tup (ks.map kV))) : (tupleKind (mixKind P w)).is h ks a := by
  obtain ⟨_, its, r, o, h1, h2, n, h3⟩ := (show ObjOk P w H h a (.tup (ks.map kV)) from ok a _ e)
  exact ⟨o, its.toArray, n, h1, h2, h3, by simpa using items_are r⟩
theorem dt_rd {kvs : List (List Key × V)} (ok : HOk P w H h) (e : Rd H a (.dT kvs)) : kvs.length ≤ sizeLine ∧ (a == sysModules) = false ∧
    ∃ xs, KT H kvs xs ∧ h.DictOfH (tupleKind (mixKind P w)) a xs := by
  obtain ⟨z, y, xs, r, o, es, ep, h1, h2, h3, h4, h5⟩ := (show ObjOk P w H h a (.dT kvs) from rd_of ok e)
  refine ⟨z, y, xs, r, o, es, ep, h1, h2, h3, h4, fun x hx => ?_, h5⟩
  have all : ∀ {l : List (List Key × V)} {m : List (List Key × Addr × Value)}, KT H l m → ∀ x ∈ m, (tupleKind (mixKind P w)).is h x.1 x.2.1 := by
    intro l m q
    induction q with
    | nil => intro x hx; exact nomatch hx
    | @cons p q ps qs hq t ih =>
      intro x hx
      rcases List.mem_cons.mp hx with e | hx
      · subst e
        exact key_of ok (by rw [← hq.1]; exact hq.2.1)
      · exact ih x hx
  exact all r x hx
theorem dt_of {kvs : List (List Key × V)} (ok : HOk P w H h) (e : H a = some (.dT kvs)) : kvs.length ≤ sizeLine ∧ (a == sysModules) = false ∧
    ∃ xs, KT H kvs xs ∧ h.DictOfH (tupleKind (mixKind P w)) a xs := dt_rd ok (.inl e)
end
noncomputable def DGet (H : Hp) (a : Addr) (y : V) (r : Option V) : Prop :=
  (∃ kvs k, Rd H a (.dK kvs) ∧ y = kV k ∧ r = valV kvs k) ∨ ∃ kvs k b, Rd H a (.dT kvs) ∧ y = .ref b ∧ H b = some (.tup (k.map kV)) ∧ r = valV kvs k
noncomputable def DPut (H : Hp) (a : Addr) (y v : V) (H' : Hp) : Prop :=
  (∃ kvs k, H a = some (.dK kvs) ∧ y = kV k ∧ kvs.length < sizeLine ∧ H' = upd H a (.dK (putK kvs k v))) ∨
  ∃ kvs k b, H a = some (.dT kvs) ∧ y = .ref b ∧ H b = some (.tup (k.map kV)) ∧ kvs.length < sizeLine ∧ H' = upd H a (.dT (putK kvs k v))
theorem DGet.t {H : Hp} {a b : Addr} {kvs : List (List Key × V)} {k : List Key} (e : H a = some (.dT kvs)) (eb : H b = some (.tup (k.map kV))) : DGet H a (.ref b) (valV kvs k) := .inr ⟨kvs, k, b, .inl e, rfl, eb, rfl⟩
theorem DPut.t {H : Hp} {a b : Addr} {kvs : List (List Key × V)} {k : List Key} {v : V} (e : H a = some (.dT kvs)) (eb : H b = some (.tup (k.map kV))) (hl : kvs.length < sizeLine) :
    DPut H a (.ref b) v (upd H a (.dT (putK kvs k v))) := .inr ⟨kvs, k, b, e, rfl, eb, hl, rfl⟩
section
variable {X : Cx} {pins : List (Addr × Obj)} {σ : St} {H : Hp} {s : Shared} {a : Addr} {y v : V} {u r : Value} {o : Option V} {A : Around} {E : Value → Shared → Prop}
theorem Inv.big (I : Inv X pins σ H s) : sysModules < s.heap.objs.size := by
  have h : mainGlobals < s.heap.objs.size := (I.mod.glob.keeps I.bk).lt
  exact Nat.lt_trans (by decide) h
theorem d_getItem {Q : Value → Shared → Prop} (hu : A.units + 1 < cLine) (I : Inv X pins σ H s) (g : DGet H a y (some v)) (ry : RelV y u) (h : ∀ w' s', Inv X pins σ H s' → RelV v w' → Q w' s') :
    wpAny (model X.prog X.w) A (getItem (.ref a) u) Q E s := by
  rcases g with ⟨kvs, k, e, ey, l⟩ | ⟨kvs, k, b, e, ey, eb, l⟩
  · subst ey
    obtain ⟨z, hd, vs, rel, dd⟩ := dk_rd I.hok e
    obtain ⟨w', hw, rw'⟩ := RelO.some_of (v := v) (o := valueAt vs k) (by rw [l]; exact rel.val k)
    exact wpAny_getItem_of (kV_is ry) dd.mapOf hw (h w' _ (I.tok _) rw')
  · subst ey
    cases (show u = Value.ref b from ry)
    obtain ⟨z, hd, xs, rel, dd⟩ := dt_rd I.hok e
    obtain ⟨w', hw, rw'⟩ := RelO.some_of (v := v) (o := (atKey xs k).map (·.2)) (by rw [l]; exact rel.val k)
    obtain ⟨p, hp, hp2⟩ := Option.map_eq_some_iff.mp hw
    refine wpAny_getItem_heap (tupleKind_room_in1 hu) (key_of I.hok eb) dd hp ?_
    rw [hp2]
    exact h w' _ (I.tok _) rw'
theorem d_notIn {Q : Value → Shared → Prop} (hu : A.units + 1 < cLine) (I : Inv X pins σ H s) (g : DGet H a y o) (ry : RelV y u) (h : ∀ s', Inv X pins σ H s' → Q (.bool (!o.isSome)) s') :
    wpAny (model X.prog X.w) A (compareOp .NotIn u (.ref a)) Q E s := by
  rcases g with ⟨kvs, k, e, ey, l⟩ | ⟨kvs, k, b, e, ey, eb, l⟩
  · subst ey
    obtain ⟨z, hd, vs, rel, dd⟩ := dk_rd I.hok e
    refine wpAny_notIn_of (kV_is ry) hd dd.mapOf ?_
    rw [← (rel.val k).isSome_eq, ← l]
    exact h _ (I.tok _)
  · subst ey
    cases (show u = Value.ref b from ry)
    obtain ⟨z, hd, xs, rel, dd⟩ := dt_rd I.hok e
    refine wpAny_notIn_heap (tupleKind_room_in1 hu) (key_of I.hok eb) hd dd ?_
    have q := (rel.val k).isSome_eq
    rw [Option.isSome_map] at q
    rw [← q, ← l]
    exact h _ (I.tok _)
theorem d_write {h' : Heap} {t' : Nat} {ob : HO} (I : Inv X pins σ H s) (mu : Mut (H a)) (hs : Heap.SameBut a s.heap h') (he : ∃ q, h'.get? a = some q) (new : ObjOk X.prog X.w (upd H a ob) h' a ob) :
    Inv X pins σ (upd H a ob) { s with heap := h', toks := t' } :=
  I.write (x := a) (e := a) mu (.inl rfl) (fun b q hb z => (hs.2 b hb).trans z) he new
theorem dk_new {P : Program} {w : World} {H' : Hp} {h' : Heap} {kvs : List (Key × V)} {vs : List (Key × Value)} (z : kvs.length ≤ sizeLine) (hd : (a == sysModules) = false) (rel : KV kvs vs) (dd : h'.DictOf (mixKind P w) a vs) :
    ObjOk P w H' h' a (.dK kvs) := ⟨z, hd, vs, rel, dd⟩
theorem d_setItem {H' : Hp} {Q : Unit → Shared → Prop} (hu : A.units + 1 < cLine) (I : Inv X pins σ H s) (g : DPut H a y v H') (ry : RelV y u) (rv : RelV v r) (h : ∀ s', Inv X pins σ H' s' → Q () s') :
    wpAny (model X.prog X.w) A (setItem (.ref a) u r) Q E s := by
  rcases g with ⟨kvs, k, e, ey, l, eH⟩ | ⟨kvs, k, b, e, ey, eb, l, eH⟩
  · subst ey eH
    obtain ⟨z, hd, vs, rel, dd⟩ := dk_of I.hok e
    have hz : vs.length ≤ sizeLine := by rw [← rel.length]; exact z
    have hl : (putK kvs k v).length ≤ sizeLine := by have := length_putK kvs k v; lia
    refine wpAny_setItem_pairs (hsz := hz) (kV_is ry) dd fun h' dd' hs => h _ ?_
    have he : ∃ q, h'.get? a = some q := let ⟨q, _, _, hq, _⟩ := dd'; ⟨q, hq⟩
    exact d_write I (by rw [e]; exact True.intro) hs he (dk_new hl hd (rel.put k rv) dd')
  · subst ey eH
    cases (show u = Value.ref b from ry)
    obtain ⟨z, hd, xs, rel, dd⟩ := dt_of I.hok e
    have hz : xs.length ≤ sizeLine := by rw [← Paired.length rel]; exact z
    have hl : (putK kvs k v).length ≤ sizeLine := by have := length_putK kvs k v; lia
    refine wpAny_setItem_heap (hsz := hz) (tupleKind_room_in1 hu) (key_of I.hok eb) dd fun h' dd' hs => h _ ?_
    obtain ⟨q, es, ep, hq, h2, h3, h4, _, h5⟩ := dd'
    refine d_write I (by rw [e]; exact True.intro) hs ⟨q, hq⟩ ⟨hl, hd, _, (rel.put k eb rv).keeps fun c ys ec => ?_, q, es, ep, hq, h2, h3, h4, h5⟩
    rw [upd_ne (ne_of ec e (fun z => nomatch z))]
    exact ec
end
section
variable {X : Cx} {pins : List (Addr × Obj)} {σ : St} {H : Hp} {s : Shared} {a : Addr} {kvs : List (Key × V)} {k : Key} {u : Value} {A : Around} {E : Value → Shared → Prop}
end
noncomputable def NoSl (i : Expr) : Prop := ∀ ov iv, subscripted i false ov iv = operate [ov, iv] (getItem ov iv)
theorem subD_of {prog : Program} {w : World} {A : Around} {E : Value → Shared → Prop} {s : Shared} {env : Env} {value slice : Expr} {pos : Pos} {T id : String} {Q : Value → Shared → Prop}
    (hl : typeLookup (.type T) "__getitem__" = pure (some (.builtin id))) (hs : NoSl slice)
    (h : wpAny (model prog w) A (eval value env) (fun o s₁ => wpAny (model prog w) A (eval slice env) (fun i s₂ => s₂.TypeIs o T ∧ wpAny (model prog w) A (getItem o i) Q E s₂) E s₁) E s) :
    wpAny (model prog w) A (eval (.Subscript value slice pos) env) Q E s := by
  refine Subscript_ (wpAny_mono h (fun o s₁ h₁ => wpAny_mono h₁ (fun i s₂ h₂ => ?_) fun _ _ x => x) fun _ _ x => x)
  obtain ⟨hT, h₂⟩ := h₂
  unfold subscriptTail
  refine wpAny_bind ?_
  rw [getitemInPython_of_ne hT.not_modules]
  refine wpAny_bind (wpAny_specialOf hT hl ?_)
  have fin : wpAny (model prog w) A (subscripted slice false o i) (fun r s₃ => wpAny (model prog w) A (letTemporaryGo value o r >>= fun _ => pure r) Q E s₃) E s₂ := by
    rw [hs o i]
    exact wpAny_operating (wpAny_mono h₂ (fun r s₃ h₃ => wpAny_bind (wpAny_letTemporaryGo (wpAny_pure h₃))) fun _ _ x => x)
  first
    | exact wpAny_pure (wpAny_bind fin)
    | exact wpAny_bind (wpAny_pure (wpAny_bind fin))
    | exact wpAny_bind fin
theorem dict_typeIs {X : Cx} {pins : List (Addr × Obj)} {σ : St} {H : Hp} {s : Shared} {a : Addr} {y : V} {o : Option V} (I : Inv X pins σ H s) (g : DGet H a y o) : s.TypeIs (.ref a) "dict" := by
  rcases g with ⟨kvs, k, e, _, _⟩ | ⟨kvs, k, b, e, _, _, _⟩
  · obtain ⟨_, _, vs, _, dd⟩ := dk_rd I.hok e
    exact dd.typeIs
  · obtain ⟨_, _, xs, _, dd⟩ := dt_rd I.hok e
    exact dd.typeIs
inductive rDGet (x y : V) (H : Hp) (Q : VK) : Prop
  | mk (a : Addr) (v : V) (h0 : x = .ref a) (h1 : DGet H a y (some v)) (h2 : Q v H) : rDGet x y H Q
noncomputable def tDGet (td ty : TE) : TE := fun σ H Q => td σ H fun x H1 => ty σ H1 fun y H2 => rDGet x y H2 Q
noncomputable def tDNotIn (ty td : TE) : TE := fun σ H Q => ty σ H fun y H1 => td σ H1 fun x H2 => ∃ a o, x = .ref a ∧ DGet H2 a y o ∧ Q (.bl (!o.isSome)) H2
noncomputable def sDPut (td ty tv : TE) : TS := fun D σ H => tv σ H fun v H1 => td σ H1 fun x H2 => ty σ H2 fun y H3 => ∃ a H4, x = .ref a ∧ DPut H3 a y v H4 ∧ D.nx σ H4
section
variable {X : Cx} {o i e value : Expr} {pos pos' tpos : Pos} {td ty tv : TE}
theorem pe_dget (hu : X.A.units + 1 < cLine) (ho : PE X o td) (hi : PE X i ty) (hs : NoSl i) : PE X (.Subscript o i pos) (tDGet td ty) := by
  intro pins s σ H Q I h
  refine subD_of PySem.F.slot_dict_getitem.lookup hs (thn (ho pins s σ H _ I h) fun u s1 ⟨x, H1, I1, rx, q1⟩ => thn (hi pins s1 σ H1 _ I1 q1) fun iv s2 ⟨y, H2, I2, ry, a, v, ex, g, q2⟩ => ?_)
  subst ex
  obtain rfl : u = Value.ref a := rx
  exact ⟨dict_typeIs I2 g, d_getItem hu I2 g ry fun w' s3 I3 rw' => ⟨v, H2, I3, rw', q2⟩⟩
theorem pc_dnotin (hu : X.A.units + 1 < cLine) (hi : PE X i ty) (ho : PE X o td) : PC X .NotIn i o (tDNotIn ty td) := by
  intro pins s σ H Q I h
  refine thn (hi pins s σ H _ I h) fun iv s1 ⟨y, H1, I1, ry, q1⟩ => thn (ho pins s1 σ H1 _ I1 q1) fun u s2 ⟨x, H2, I2, rx, a, ov, ex, g, q2⟩ => ?_
  subst ex
  obtain rfl : u = Value.ref a := rx
  exact d_notIn hu I2 g ry fun s3 I3 => ⟨.bl (!ov.isSome), H2, I3, rfl, q2⟩
theorem ps_dput (hu : X.A.units + 1 < cLine) (ho : PE X o td) (hi : PE X i ty) (hv : PE X value tv) (hs : swapsWith value (some (.Subscript o i pos')) pos.line X.env = pure false) :
    PS X (.Assign [.Subscript o i pos'] value pos) (sDPut td ty tv) := by
  intro pins s σ H D I h
  refine wpAny_Assign_Subscript (thn (hv pins s σ H _ I h) fun r s1 ⟨v, H1, I1, rv, q1⟩ => thn (ho pins s1 σ H1 _ I1 q1) fun u s2 ⟨x, H2, I2, rx, q2⟩ => thn (hi pins s2 σ H2 _ I2 q2) fun iv s3 ⟨y, H3, I3, ry, a, H4, ex, g, q3⟩ => ?_) hs
  subst ex
  obtain rfl : u = Value.ref a := rx
  exact d_setItem hu I3 g ry rv fun s4 I4 => ⟨σ, H4, I4, q3⟩
end
theorem dt_empty {P : Program} {w : World} {H : Hp} (h : Heap) (hb : sysModules < h.objs.size) : ObjOk P w H (h.push { cls := .type "dict", data := .dict #[] }) h.objs.size (.dT []) :=
  ⟨Nat.zero_le _, beq_eq_false_iff_ne.mpr (Ne.symm (Nat.ne_of_lt hb)), [], .nil, _, #[], 0, Heap.get?_push_size _ rfl, ⟨rfl, rfl, rfl⟩, rfl, rfl, List.nodup_nil⟩
noncomputable def tDNewT : TE := fun _ H Q => ∀ p, H p = none → Q (.ref p) (upd H p (.dT []))
section
variable {X : Cx} {pos : Pos}
theorem pe_dnewT : PE X (.Dict [] [] pos) tDNewT := fun pins s σ H Q I h =>
  wpAny_Dict_empty ⟨.ref s.heap.objs.size, _, I.laid (a := s.heap.objs.size) (o := .dT []) (t' := s.toks) (fun _ _ q => Heap.get?_push_of_some _ q) (Nat.le_refl _) (dt_empty s.heap I.big), rfl, h _ (I.hok.fresh (Nat.le_refl _))⟩
end
section
variable {X : Cx} {pins : List (Addr × Obj)} {σ : St} {H : Hp} {s : Shared} {a : Addr} {y d : V} {u r : Value} {o : Option V} {A : Around} {E : Value → Shared → Prop}
end
section
variable {X : Cx} {o e f : Expr} {apos cpos : Pos} {td ty tx : TE}
end
section
variable {X : Cx} {pins : List (Addr × Obj)} {σ : St} {H : Hp} {s : Shared} {a : Addr} {kvs : List (Key × V)} {A : Around} {E : Value → Shared → Prop}
end
section
variable {X : Cx} {pins : List (Addr × Obj)} {σ : St} {H : Hp} {s : Shared} {a : Addr} {y : V} {u : Value} {A : Around} {E : Value → Shared → Prop}
end
end L2
set_option Elab.async false
set_option linter.all false
set_option maxRecDepth 100000
set_option maxHeartbeats 4000000
namespace L2
open PySem PySem.Spec PyProof.Rows
theorem OpR.imp {X : Cx} {f : Value → Value → Sem Value} {r r' : R2} (h : OpR X f r) (i : ∀ x y H Q, r' x y H Q → r x y H Q) : OpR X f r' :=
  fun pins s σ H x y v u Q I rx ry q => h pins s σ H x y v u Q I rx ry (i x y H Q q)
theorem CallR.imp {X : Cx} {f : Value} {r r' : List V → Hp → VK → Prop} (h : CallR X f r) (i : ∀ xs H Q, r' xs H Q → r xs H Q) : CallR X f r' :=
  fun pins s σ H xs us Q I rs q => h pins s σ H xs us Q I rs (i xs H Q q)
noncomputable def tV (i : Nat) : TE := fun σ H Q => match σ[i]? with
  | some (some v) => Q v H
  | _ => False
theorem vr {X : Cx} (i : Nat) {x : Str} {pos : Pos} (hN : X.N[i]? = some x := by rfl) (hv : Vis X.env.scope x := by first | exact Or.inl rfl | exact Or.inr (Or.inl rfl) | exact Or.inr (Or.inr rfl)) (hd : (x == ("__debug__" : Str)) = false := by decide)
    (hcd : (x == ("__classdict__" : Str)) = false := by decide) : PE X (.Name x pos) (tV i) := fun pins s σ H Q I h => by
  refine pe_var hN hv hd hcd pins s σ H Q I ?_
  unfold tV at h
  split at h
  · rename_i v e
    exact ⟨v, e, h⟩
  · exact h.elim
noncomputable def rI2 (g : Int → Int → V) : R2 := fun x y H Q => match x, y with
  | .int i, .int j => Q (g i j) H
  | _, _ => False
noncomputable def rIC (C : Int → Int → Prop) (g : Int → Int → V) : R2 := fun x y H Q => match x, y with
  | .int i, .int j => C i j ∧ Q (g i j) H
  | _, _ => False
theorem OpR.i2 {X : Cx} {f : Value → Value → Sem Value} {g : Int → Int → V} (h : OpR X f (rI0 g)) : OpR X f (rI2 g) := h.imp fun x y H Q q => by
  cases x <;> cases y <;> first | exact ⟨_, _, rfl, rfl, q⟩ | exact (show False from q).elim
theorem OpR.ic {X : Cx} {f : Value → Value → Sem Value} {C : Int → Int → Prop} {g : Int → Int → V} (h : OpR X f (rI C g)) : OpR X f (rIC C g) := h.imp fun x y H Q q => by
  cases x <;> cases y <;> first | exact ⟨_, _, rfl, rfl, q.1, q.2⟩ | exact (show False from q).elim
section
variable {X : Cx}
noncomputable def rAddM : R2 := fun x y H Q => match x, y with
  | .int i, .int j => Q (.int (i + j)) H
  | .str i, .str j => i.length + j.length ≤ sizeLine ∧ Q (.str (i ++ j)) H
  | _, _ => False
theorem o_add : OpR X (binaryOp .Add) rAddM := (op_add.or op_add_str).imp fun x y H Q q => by
  cases x <;> cases y <;> first | exact .inl ⟨_, _, rfl, rfl, q⟩ | exact .inr ⟨_, _, rfl, rfl, q.1, q.2⟩ | exact (show False from q).elim
theorem o_sub : OpR X (binaryOp .Sub) (rI2 fun i j => .int (i - j)) := op_sub.i2
noncomputable def CPos (i j : Int) : Prop := 0 < j
noncomputable def CNn (i j : Int) : Prop := 0 ≤ j
theorem cp {i j : Int} (h : 0 < j := by decide) : CPos i j := h
theorem cn {i j : Int} (h : 0 ≤ j := by decide) : CNn i j := h
theorem cl {i j : Int} (h : -(2 ^ 64) < i := by decide) (h2 : i < 2 ^ 64 := by decide) : CMul i j := .inl ⟨h, h2⟩
theorem cr {i j : Int} (h : -(2 ^ 64) < j := by decide) (h2 : j < 2 ^ 64 := by decide) : CMul i j := .inr ⟨h, h2⟩
theorem o_mod : OpR X (binaryOp .Mod) (rIC CPos fun i j => .int (i % j)) := op_mod.ic
theorem o_shr : OpR X (binaryOp .RShift) (rIC CNn fun i j => .int (i / 2 ^ j.toNat)) := op_shr.ic
theorem op_le_str : OpR X (compareOp .LtE) (fun x y H Q => ∃ i j, x = .str i ∧ y = .str j ∧ Q (.bl (!decide (j.cps.toList < i.cps.toList))) H) := by
  intro pins s σ H x y v u Q I rx ry h
  obtain ⟨i, j, rfl, rfl, q⟩ := h
  obtain ⟨t, rfl⟩ := rx
  obtain ⟨t', rfl⟩ := ry
  exact PySem.P.le_str (fin_bl I q rfl)
noncomputable def rCmpM (f : Int → Int → Bool) (g : Str → Str → Bool) : R2 := fun x y H Q => match x, y with
  | .int i, .int j => Q (.bl (f i j)) H
  | .str i, .str j => Q (.bl (g i j)) H
  | _, _ => False
theorem o_lt : OpR X (compareOp .Lt) (rCmpM (fun i j => decide (i < j)) fun i j => decide (i.cps.toList < j.cps.toList)) := (op_lt.or op_lt_str).imp fun x y H Q q => by
  cases x <;> cases y <;> first | exact .inl ⟨_, _, rfl, rfl, q⟩ | exact .inr ⟨_, _, rfl, rfl, q⟩ | exact (show False from q).elim
theorem o_le : OpR X (compareOp .LtE) (rCmpM (fun i j => decide (i ≤ j)) fun i j => !decide (j.cps.toList < i.cps.toList)) := (op_le.or op_le_str).imp fun x y H Q q => by
  cases x <;> cases y <;> first | exact .inl ⟨_, _, rfl, rfl, q⟩ | exact .inr ⟨_, _, rfl, rfl, q⟩ | exact (show False from q).elim
theorem o_gt : OpR X (compareOp .Gt) (rI2 fun i j => .bl (decide (j < i))) := op_gt.i2
noncomputable def rEqM (neg : Bool) : R2 := fun x y H Q => match x, y with
  | .int i, .int j => Q (.bl (if neg then !decide (i = j) else decide (i = j))) H
  | .str i, .str j => Q (.bl (if neg then !decide (i = j) else decide (i = j))) H
  | .bl i, .bl j => Q (.bl (if neg then !decide (i = j) else decide (i = j))) H
  | .non, .non => Q (.bl (!neg)) H
  | .non, .int _ => Q (.bl neg) H
  | .non, .str _ => Q (.bl neg) H
  | .non, .bl _ => Q (.bl neg) H
  | .int _, .non => Q (.bl neg) H
  | .str _, .non => Q (.bl neg) H
  | .bl _, .non => Q (.bl neg) H
  | .int _, .str _ => Q (.bl neg) H
  | .str _, .int _ => Q (.bl neg) H
  | _, _ => False
theorem o_eq : OpR X (compareOp .Eq) (rEqM false) := op_eq.imp fun x y H Q q => by
  cases x <;> cases y <;> first | exact (show False from q).elim | (refine ⟨rfl, ?_⟩; revert q; simp [rEqM])
theorem o_ne : OpR X (compareOp .NotEq) (rEqM true) := op_ne.imp fun x y H Q q => by
  cases x <;> cases y <;> first | exact (show False from q).elim | (refine ⟨rfl, ?_⟩; revert q; simp [rEqM])
noncomputable def rU1 (g : Int → V) : V → Hp → VK → Prop := fun x H Q => match x with
  | .int i => Q (g i) H
  | _ => False
theorem u_neg : UnR X (unaryOp .USub) (rU1 fun i => .int (-i)) := fun pins s σ H x v Q I r q => un_neg pins s σ H x v Q I r (by
  cases x <;> first | exact ⟨_, rfl, q⟩ | exact (show False from q).elim)
theorem o_isnot : OpR X (compareOp .IsNot) (fun x y H Q => match y with | .non => Q (.bl (!decide (x = .non))) H | _ => False) := op_notN.imp fun x y H Q q => by
  cases y <;> first | exact ⟨rfl, q⟩ | exact (show False from q).elim
noncomputable def mB (Q : Bool → Hp → Prop) : VK := fun x H => match x with
  | .bl c => Q c H
  | _ => False
variable {a b c : Expr} {ta tb tc : TE} {pos : Pos} {rest : List Expr}
noncomputable def mAnd (ta tb : TE) : TE := fun σ H Q => ta σ H (mB fun c H1 => if c = true then tb σ H1 Q else Q (.bl false) H1)
noncomputable def mOr (ta tb : TE) : TE := fun σ H Q => ta σ H (mB fun c H1 => if c = true then Q (.bl true) H1 else tb σ H1 Q)
noncomputable def mNot (ta : TE) : TE := fun σ H Q => ta σ H (mB fun c H1 => Q (.bl (!c)) H1)
theorem mB_iff {Q : Bool → Hp → Prop} {x : V} {H : Hp} (h : mB Q x H) : ∃ c, x = .bl c ∧ Q c H := by
  cases x <;> first | exact ⟨_, rfl, h⟩ | exact (show False from h).elim
theorem m_and (ha : PE X a ta) (hb : PE X (.BoolOp .And (b :: rest) pos) tb) : PE X (.BoolOp .And (a :: b :: rest) pos) (mAnd ta tb) := by
  intro pins s σ H Q I h
  refine BoolOp_and (thn (ha pins s σ H _ I h) fun v s1 ⟨x, H1, I1, r1, q1⟩ => ?_)
  obtain ⟨c, rfl, q1⟩ := mB_iff q1
  cases r1
  refine wpAny_truthy_bool ?_
  cases c with
  | true => exact hb pins s1 σ H1 Q I1 q1
  | false => exact ⟨.bl false, H1, I1, rfl, q1⟩
theorem m_or (ha : PE X a ta) (hb : PE X (.BoolOp .Or (b :: rest) pos) tb) : PE X (.BoolOp .Or (a :: b :: rest) pos) (mOr ta tb) := by
  intro pins s σ H Q I h
  refine BoolOp_or (thn (ha pins s σ H _ I h) fun v s1 ⟨x, H1, I1, r1, q1⟩ => ?_)
  obtain ⟨c, rfl, q1⟩ := mB_iff q1
  cases r1
  refine wpAny_truthy_bool ?_
  cases c with
  | false => exact hb pins s1 σ H1 Q I1 q1
  | true => exact ⟨.bl true, H1, I1, rfl, q1⟩
theorem m_not (ha : PE X a ta) : PE X (.UnaryOp .Not a pos) (mNot ta) := by
  intro pins s σ H Q I h
  refine UnaryOp_ (thn (ha pins s σ H _ I h) fun v s1 ⟨x, H1, I1, r1, q1⟩ => ?_)
  obtain ⟨c, rfl, q1⟩ := mB_iff q1
  cases r1
  exact not_of (wpAny_truthy_bool ⟨.bl (!c), H1, I1, rfl, q1⟩)
noncomputable def mT (t : TE) : TT := fun σ H Q => t σ H (mB Q)
theorem t_val (h : PE X a ta) (he : ∀ whole, isTrue a X.env whole = (do let v ← whole; standAt a.pos; holding [v] (truthy v)) := by intro _; rfl) : PT X a (mT ta) := by
  intro pins s σ H Q I hw
  refine isTrue_plain (thn (h pins s σ H _ I hw) fun v s1 ⟨x, H1, I1, r1, q1⟩ => ?_) (he _)
  obtain ⟨d, rfl, q⟩ := mB_iff q1
  cases r1
  exact wpAny_truthy_bool ⟨H1, I1, q⟩
theorem t_cmp {op : CmpOp} {r : R2} (ho : OpR X (compareOp op) r) (ha : PE X a ta) (hb : PE X b tb) (hm : behindInMarks op b = false) : PT X (.Compare a [op] [b] pos) (mT (tOp r ta tb)) := by
  intro pins s σ H Q I h
  refine wpAny_isTrue_Compare1 (thn (ha pins s σ H _ I h) fun v s1 ⟨x, H1, I1, r1, q1⟩ => thn (hb pins s1 σ H1 _ I1 q1) fun u s2 ⟨y, H2, I2, r2, q2⟩ =>
    thn (ho pins s2 σ H2 x y v u _ I2 r1 r2 q2) fun c s3 ⟨z, H3, I3, r3, q3⟩ => ?_) hm
  obtain ⟨k, rfl, q3⟩ := mB_iff q3
  cases r3
  exact wpAny_truthy_bool ⟨H3, I3, q3⟩
noncomputable def mChain (r r' : R2) (ta tb tc : TE) : TE := fun σ H Q => ta σ H fun x H1 => tb σ H1 fun y H2 => r x y H2 (mB fun k H3 => if k = true then tc σ H3 fun w' H4 => r' y w' H4 Q else Q (.bl false) H3)
theorem m_chain {op op' : CmpOp} {r r' : R2} (ho : OpR X (compareOp op) r) (ho' : OpR X (compareOp op') r') (ha : PE X a ta) (hb : PE X b tb) (hc : PE X c tc)
    (hm : lastMarks [op, op'] [b, c] = false := by with_unfolding_all rfl) : PE X (.Compare a [op, op'] [b, c] pos) (mChain r r' ta tb tc) := by
  intro pins s σ H Q I h
  refine Compare_chain (thn (ha pins s σ H _ I h) fun v s1 ⟨x, H1, I1, r1, q1⟩ => chain_link (thn (hb pins s1 σ H1 _ I1 q1) fun u s2 ⟨y, H2, I2, r2, q2⟩ =>
    thn (ho pins s2 σ H2 x y v u _ I2 r1 r2 q2) fun d s3 ⟨z, H3, I3, r3, q3⟩ => ?_)) hm
  obtain ⟨k, rfl, q3⟩ := mB_iff q3
  cases r3
  refine wpAny_truthy_bool ?_
  cases k with
  | false => exact ite_ff ⟨.bl false, H3, I3, rfl, q3⟩
  | true => exact ite_tt (chain_last (thn (hc pins s3 σ H3 _ I3 q3) fun w' s4 ⟨z', H4, I4, r4, q4⟩ => ho' pins s4 σ H4 y z' u w' Q I4 r2 r4 q4))
theorem t_chain {op op' : CmpOp} {r r' : R2} (ho : OpR X (compareOp op) r) (ho' : OpR X (compareOp op') r') (ha : PE X a ta) (hb : PE X b tb) (hc : PE X c tc)
    (hm : lastMarks [op, op'] [b, c] = false := by with_unfolding_all rfl) : PT X (.Compare a [op, op'] [b, c] pos) (mT (mChain r r' ta tb tc)) := by
  intro pins s σ H Q I h
  refine isTrue_chain (thn (ha pins s σ H _ I h) fun v s1 ⟨x, H1, I1, r1, q1⟩ => test_link (thn (hb pins s1 σ H1 _ I1 q1) fun u s2 ⟨y, H2, I2, r2, q2⟩ =>
    thn (ho pins s2 σ H2 x y v u _ I2 r1 r2 q2) fun d s3 ⟨z, H3, I3, r3, q3⟩ => ?_)) hm
  obtain ⟨k, rfl, q3⟩ := mB_iff q3
  cases r3
  refine wpAny_truthy_bool ?_
  cases k with
  | false => exact ite_ff ⟨H3, I3, q3⟩
  | true =>
    refine ite_tt (test_last (thn (hc pins s3 σ H3 _ I3 q3) fun w' s4 ⟨z', H4, I4, r4, q4⟩ => thn (ho' pins s4 σ H4 y z' u w' _ I4 r2 r4 q4) fun d' s5 ⟨z2, H5, I5, r5, q5⟩ => ?_))
    obtain ⟨k2, rfl, q5⟩ := mB_iff q5
    cases r5
    exact wpAny_truthy_bool ⟨H5, I5, q5⟩
open PySem.W in
theorem kit_of {pins : List (Addr × Obj)} {σ : St} {H : Hp} {s : Shared} {x : V} {u t : Value} (I : Inv X pins σ H s) (rx : RelV x u) (ty : TyOf X.K H x t) :
    ∃ Hh : Heap → Prop, KitX X.K u t Hh ∧ Hh s.heap ∧ u ≠ .builtin "__main__.__loader__#opaque" := by
  cases ty with
  | non => cases (show u = Value.none from rx); exact ⟨_, PySem.W.kitx_none, True.intro, fun z => nomatch z⟩
  | bl y => cases (show u = Value.bool y from rx); exact ⟨_, PySem.W.kitx_bool, True.intro, fun z => nomatch z⟩
  | int i => obtain ⟨t, q⟩ := (show ∃ t, u = Value.int i t from rx); cases q; exact ⟨_, PySem.W.kitx_int, True.intro, fun z => nomatch z⟩
  | str y => obtain ⟨t, q⟩ := (show ∃ t, u = Value.str y t from rx); cases q; exact ⟨_, PySem.W.kitx_str, True.intro, fun z => nomatch z⟩
  | flt y => obtain ⟨t, q⟩ := (show ∃ t, u = Value.float y t from rx); cases q; exact ⟨_, PySem.W.kitx_float, True.intro, fun z => nomatch z⟩
  | @lst a xs ea =>
    cases (show u = Value.ref a from rx)
    obtain ⟨_, _, n, _, h1⟩ := (show ObjOk X.prog X.w H s.heap a (.lst xs) from I.hok a _ ea)
    exact ⟨_, PySem.W.kitx_list, ⟨_, h1, rfl⟩, fun z => nomatch z⟩
  | @frz a ob xs ea =>
    cases (show u = Value.ref a from rx)
    obtain ⟨_, _, _, n, _, h1⟩ := (show ObjOk X.prog X.w H s.heap a (.frz ob (.lst xs)) from I.hok a _ ea)
    exact ⟨_, PySem.W.kitx_list, ⟨_, h1, rfl⟩, fun z => nomatch z⟩
  | @tup a xs ea =>
    cases (show u = Value.ref a from rx)
    obtain ⟨_, _, _, p⟩ := (show ObjOk X.prog X.w H s.heap a (.tup xs) from I.hok a _ ea)
    obtain ⟨o, h1, h2, _⟩ := p
    exact ⟨_, PySem.W.kitx_tuple, ⟨o, h1, h2⟩, fun z => nomatch z⟩
  | @dK a kvs ea =>
    cases (show u = Value.ref a from rx)
    obtain ⟨_, _, vs, _, p⟩ := (show ObjOk X.prog X.w H s.heap a (.dK kvs) from I.hok a _ ea)
    obtain ⟨o, es, ep, h1, h2, _⟩ := p
    exact ⟨_, PySem.W.kitx_dict, ⟨o, h1, h2.1⟩, fun z => nomatch z⟩
  | @dT a kvs ea =>
    cases (show u = Value.ref a from rx)
    obtain ⟨_, _, xs, _, o, es, ep, h1, h2, _⟩ := (show ObjOk X.prog X.w H s.heap a (.dT kvs) from I.hok a _ ea)
    exact ⟨_, PySem.W.kitx_dict, ⟨o, h1, h2.1⟩, fun z => nomatch z⟩
  | @ins a C dx fs ea cl ha hn htk hm =>
    cases (show u = Value.ref a from rx)
    obtain ⟨mA, O, _⟩ := ins_get I.hok ea
    obtain ⟨od, J, _⟩ := O.look
    exact ⟨_, PySem.W.kitx_own (cl.get _) cl.hd ha hn htk hm, J, fun z => nomatch z⟩
noncomputable def cVal : V → Value
  | .ty n => .type n
  | .ref a => .ref a
  | _ => .none
noncomputable def isCls : V → Bool
  | .ty _ => true
  | .ref _ => true
  | _ => false
theorem cVal_of {c : V} {u : Value} (h : isCls c = true) (r : RelV c u) : u = cVal c := by
  cases c <;> first | exact r | exact absurd (show false = true from h) Bool.false_ne_true
inductive rIsi (K : PySem.W.Frag) (xs : List V) (H : Hp) (Q : VK) : Prop
  | mk (x c : V) (t : _) (b : Bool) (h0 : xs = [x, c]) (h1 : isCls c = true) (h2 : TyOf K H x t) (h3 : PySem.W.kitOne K t (cVal c) = some b) (h4 : Q (.bl b) H) : rIsi K xs H Q
theorem call_isi : CallR X (.builtin "isinstance") (rIsi X.K) := by
  intro pins s σ H xs us Q I r h
  obtain ⟨x, c, t, b, rfl, hc, ty, e, q⟩ := h
  obtain ⟨u, w', rfl, rx, rc⟩ := vals2 r
  cases cVal_of hc rc
  obtain ⟨Hh, Z, p, hx⟩ := kit_of I rx ty
  exact PySem.W.kia_one Z I.kIn p e hx fun tk => ⟨.bl b, H, I.tok tk, rfl, q⟩
theorem call_allB (hc : X.calm = true) : CallR X (.builtin "all") (fun xs H Q => ∃ (p : Addr) (ys : List V) (bs : List Bool), xs = [.ref p] ∧ SqL X.K H p ys ∧ ys = bs.map V.bl ∧ Q (.bl (bs.all id)) H) := by
  intro pins s σ H xs us Q I r h
  obtain ⟨p, ys, bs, rfl, hq, rfl, q⟩ := h
  obtain ⟨u, rfl, rx⟩ := vals1 r
  cases rx
  obtain ⟨its, rv, pl, hz⟩ := I.list hq
  have hlt : p < s.heap.objs.size := by obtain ⟨_, _, e, _⟩ := pl; exact Heap.lt_size e
  refine call_all_walk (wpAny_pyIter_list pl.isList ?_)
  refine ⟨s.heap.objs.size, [s.heap.objs.size, p], [s.heap.objs.size], its.toArray.size, _, _, fun i => (bs[i]?).getD true, rfl, Walks.list (A := X.A.in1) (I.ok.hd hc) _ p (Nat.ne_of_lt hlt) its.toArray,
    ⟨⟨_, Heap.get?_push_size _ rfl, rfl, rfl⟩, pl.isList.push _⟩, fun i v s' Q' E' hP hQ => ?_, fun h' tk hk => ?_⟩
  · have hv : its[i]? = some v := by simpa using hP
    have hi : i < (bs.map V.bl).length := by rw [rv.length]; exact (List.getElem?_eq_some_iff.mp hv).1
    obtain ⟨b, hb⟩ : ∃ b, bs[i]? = some b := ⟨bs[i]'(by simpa using hi), by simp at hi; simp [hi]⟩
    obtain ⟨u, hu, ru⟩ := rv.get (i := i) (x := V.bl b) (by rw [List.getElem?_map, hb]; rfl)
    rw [hv] at hu
    cases hu
    cases ru
    simp only [hb, Option.getD_some] at hQ
    exact wpAny_truthy_bool hQ
  · have e : ((List.range its.toArray.size).all fun i => (bs[i]?).getD true) = bs.all id := by
      rw [List.size_toArray, ← rv.length, List.length_map]; exact LSm.range_all bs
    rw [e]
    exact ⟨.bl _, H, I.kept (LSm.kept_iter hk), rfl, q⟩
end
end L2
set_option Elab.async false
set_option linter.all false
set_option maxRecDepth 100000
set_option maxHeartbeats 4000000
namespace L2
open PySem PySem.Spec PyProof.Rows
theorem and_if {Q : V → Prop} {p r : Prop} [Decidable p] [Decidable r] (q : Q (.bl (decide (p ∧ r)))) : if decide p = true then Q (.bl (decide r)) else Q (.bl false) := by
  by_cases h : p
  · rw [if_pos (decide_eq_true h)]
    have e : decide (p ∧ r) = decide r := by by_cases z : r <;> simp [h, z]
    rw [← e]; exact q
  · rw [if_neg (fun z => h (of_decide_eq_true z))]
    have e : decide (p ∧ r) = false := decide_eq_false fun z => h z.1
    rw [← e]; exact q
theorem ifP {c : Prop} [Decidable c] {A B : Prop} (hc : c) (h : A) : if decide c = true then A else B := by rw [if_pos (decide_eq_true hc)]; exact h
theorem ifN {c : Prop} [Decidable c] {A B : Prop} (hc : ¬ c) (h : B) : if decide c = true then A else B := by rw [if_neg (fun z => hc (of_decide_eq_true z))]; exact h
theorem ifC {c : Prop} [Decidable c] {A B : Prop} (h1 : c → A) (h2 : ¬ c → B) : if decide c = true then A else B := by
  by_cases h : c
  · exact ifP h (h1 h)
  · exact ifN h (h2 h)
theorem ifB {b : Bool} {A B : Prop} (h1 : b = true → A) (h2 : b = false → B) : if b = true then A else B := by
  cases b with
  | true => rw [if_pos rfl]; exact h1 rfl
  | false => rw [if_neg Bool.false_ne_true]; exact h2 rfl
theorem bt_len : bootBuiltins "len" = some (.builtin "len") := by decide +kernel
theorem bt_isinstance : bootBuiltins "isinstance" = some (.builtin "isinstance") := by decide +kernel
theorem bt_all : bootBuiltins "all" = some (.builtin "all") := by decide +kernel
theorem bt_min : bootBuiltins "min" = some (.builtin "min") := by decide +kernel
theorem bt_max : bootBuiltins "max" = some (.builtin "max") := by decide +kernel
theorem bt_enumerate : bootBuiltins "enumerate" = some (.type "enumerate") := by decide +kernel
theorem bt_zip : bootBuiltins "zip" = some (.type "zip") := by decide +kernel
theorem bt_range : bootBuiltins "range" = some (.type "range") := by decide +kernel
theorem bt_int : bootBuiltins "int" = some (.type "int") := by decide +kernel
theorem bt_bool : bootBuiltins "bool" = some (.type "bool") := by decide +kernel
theorem bt_list : bootBuiltins "list" = some (.type "list") := by decide +kernel
theorem bt_tuple : bootBuiltins "tuple" = some (.type "tuple") := by decide +kernel
theorem pe_gl {X : Cx} {x : Str} {v : V} {pos : Pos} (hg : Gl X x) (h : ∃ u, X.mg x = some u ∧ RelV v u) (hd : (x == ("__debug__" : Str)) = false := by decide) : PE X (.Name x pos) (tC v) :=
  let ⟨_, e, r⟩ := h
  pe_glob hg e r hd
noncomputable def iAny (K : PySem.W.Frag) (tl : TE) : TI := fun σ H R => tl σ H fun x H1 => match x with
  | .str z => R (Its z) H1
  | .ref a => ((∃ xs, SqL K H1 a xs) ∧ R (Itl K a) H1) ∨ ((∃ xs, SqT K H1 a xs) ∧ R (Itt K a) H1)
  | _ => False
theorem pi_any {X : Cx} {tg l : Expr} {tl : TE} (hl : PE X l tl) : PI X tg l (iAny X.K tl) := by
  intro pins s σ H R I h
  have hl1 : PE X l tl := hl
  refine thn (hl pins s σ H _ I h) fun v s1 ⟨x, H1, I1, r1, q1⟩ => ?_
  cases x with
  | str z =>
    have := pi_str (X := X) (tg := tg) (l := l) (tl := tC (.str z)) 
    obtain ⟨t, rfl⟩ := r1
    refine wpAny_pyIter_strU ?_
    refine ⟨s1.heap.objs.size, [s1.heap.objs.size], _, _, H1, rfl, I1.kept (t' := s1.toks) fun b o e => Heap.get?_push_of_some _ e, turn_str (ty := strIterType z) (t := t) z _ ?_, ⟨_, Heap.get?_push_size _ rfl, rfl, rfl⟩, fun b hb => ?_, q1⟩
    · unfold strIterType
      split
      · exact .inl rfl
      · exact .inr rfl
    · have e : b = s1.heap.objs.size := by simpa using hb
      subst e
      exact I1.fpOk (Nat.le_refl _) (I1.hok.fresh (Nat.le_refl _))
  | ref a =>
    cases r1
    rcases q1 with ⟨⟨xs, hq⟩, q⟩ | ⟨⟨xs, hq⟩, q⟩
    · obtain ⟨its, rv, p, hz⟩ := I1.list hq
      refine wpAny_pyIter_list p.isList ?_
      refine ⟨s1.heap.objs.size, [s1.heap.objs.size], _, _, H1, rfl, I1.kept (t' := s1.toks) fun b o e => Heap.get?_push_of_some _ e, turn_list a _, ⟨_, Heap.get?_push_size _ rfl, rfl, rfl⟩, fun b hb => ?_, q⟩
      have e : b = s1.heap.objs.size := by simpa using hb
      subst e
      exact I1.fpOk (Nat.le_refl _) (I1.hok.fresh (Nat.le_refl _))
    · obtain ⟨its, rv, p, hz⟩ := I1.tuple hq
      refine wpAny_pyIter_tuple (show s1.heap.IsTuple a its.toArray from p) ?_
      refine ⟨s1.heap.objs.size, [s1.heap.objs.size], _, _, H1, rfl, I1.kept (t' := s1.toks) fun b o e => Heap.get?_push_of_some _ e, turn_tuple a _, ⟨_, Heap.get?_push_size _ rfl, rfl, rfl⟩, fun b hb => ?_, q⟩
      have e : b = s1.heap.objs.size := by simpa using hb
      subst e
      exact I1.fpOk (Nat.le_refl _) (I1.hok.fresh (Nat.le_refl _))
  | _ => exact (show False from q1).elim
inductive rLenSq (K : PySem.W.Frag) (p : Addr) (H : Hp) (Q : VK) : Prop
  | mk (ys : List V) (h0 : SqL K H p ys ∨ SqT K H p ys) (h1 : Q (.int ys.length) H) : rLenSq K p H Q
theorem call_lenM {X : Cx} : CallR X (.builtin "len") (fun xs H Q => match xs with
    | [.str z] => z.length ≤ sizeLine ∧ Q (.int z.length) H
    | [.ref p] => rLenSq X.K p H Q
    | _ => False) := (call_len_str.or call_len_seq).imp fun xs H Q q => by
  match xs, q with
  | [.str z], q => exact .inl ⟨z, rfl, q.1, q.2⟩
  | [.ref p], q => obtain ⟨ys, h, q⟩ := q; exact .inr ⟨p, ys, rfl, h, q⟩
section
variable {D : Addr} {σb : St} {g : TG} {tt : TT} {te : TE} {Q : Hp → List V → Prop} {H : Hp} {K : PySem.W.Frag}
noncomputable def CompT (D : Addr) (σb : St) (g : TG) (tt : TT) (te : TE) (x : V) (ys : List V) (H : Hp) (P : List V → Hp → Prop) : Prop :=
  g x σb H fun σ4 H4 => Wk σb σ4 ∧ tt σ4 H4 fun b H5 => if b = true then te σ4 H5 fun y H6 => H6 D = some (.lst ys) ∧ ys.length < sizeLine ∧ P (ys ++ [y]) (upd H6 D (.lst (ys ++ [y]))) else P ys H5
theorem comp_list {a : Addr} {xs : List V} (Pv : Nat → List V → Hp → Prop) (h0 : Pv 0 [] H) (hq : ∀ i ys H, Pv i ys H → SqL K H a xs) (hl : ∀ i ys H, Pv i ys H → H D = some (.lst ys))
    (hs : ∀ (i : Nat) x ys H P, xs[i]? = some x → Pv i ys H → (∀ a b, Pv (i + 1) a b → P a b) → CompT D σb g tt te x ys H P) (hd : ∀ ys H, Pv xs.length ys H → Q H ys) : ∃ W, (∃ m, W 0 m [] H) ∧ CompW (Itl K a) D σb g tt te Q W := by
  refine ⟨fun i m ys H => m = xs.length - i ∧ i ≤ xs.length ∧ Pv i ys H, ⟨_, rfl, Nat.zero_le _, h0⟩, ?_⟩
  rintro i m ys H ⟨rfl, hi, p⟩
  refine ⟨hl i ys H p, ?_⟩
  have q := hq i ys H p
  by_cases hlt : i < xs.length
  · refine .inr ⟨⟨xs, xs[i], q, by simp [hlt]⟩, fun x H3 y => ?_⟩
    obtain ⟨rfl, y⟩ := y
    exact hs i x ys _ (fun a b => ∃ m', m' < xs.length - i ∧ m' = xs.length - (i + 1) ∧ i + 1 ≤ xs.length ∧ Pv (i + 1) a b) (y xs q) p (fun a b q => ⟨xs.length - (i + 1), by lia, rfl, hlt, q⟩)
  · have e : i = xs.length := by lia
    subst e
    exact .inl ⟨⟨xs, q, Nat.le_refl _⟩, hd ys H p⟩
theorem comp_tup {a : Addr} {xs : List V} (Pv : Nat → List V → Hp → Prop) (h0 : Pv 0 [] H) (hq : ∀ i ys H, Pv i ys H → SqT K H a xs) (hl : ∀ i ys H, Pv i ys H → H D = some (.lst ys))
    (hs : ∀ (i : Nat) x ys H P, xs[i]? = some x → Pv i ys H → (∀ a b, Pv (i + 1) a b → P a b) → CompT D σb g tt te x ys H P) (hd : ∀ ys H, Pv xs.length ys H → Q H ys) : ∃ W, (∃ m, W 0 m [] H) ∧ CompW (Itt K a) D σb g tt te Q W := by
  refine ⟨fun i m ys H => m = xs.length - i ∧ i ≤ xs.length ∧ Pv i ys H, ⟨_, rfl, Nat.zero_le _, h0⟩, ?_⟩
  rintro i m ys H ⟨rfl, hi, p⟩
  refine ⟨hl i ys H p, ?_⟩
  have q := hq i ys H p
  by_cases hlt : i < xs.length
  · refine .inr ⟨⟨xs, xs[i], q, by simp [hlt]⟩, fun x H3 y => ?_⟩
    obtain ⟨rfl, y⟩ := y
    exact hs i x ys _ (fun a b => ∃ m', m' < xs.length - i ∧ m' = xs.length - (i + 1) ∧ i + 1 ≤ xs.length ∧ Pv (i + 1) a b) (y xs q) p (fun a b q => ⟨xs.length - (i + 1), by lia, rfl, hlt, q⟩)
  · have e : i = xs.length := by lia
    subst e
    exact .inl ⟨⟨xs, q, Nat.le_refl _⟩, hd ys H p⟩
theorem comp_rng {lo : Int} {n : Nat} (Pv : Nat → List V → Hp → Prop) (h0 : Pv 0 [] H) (hl : ∀ i ys H, Pv i ys H → H D = some (.lst ys))
    (hs : ∀ (i : Nat) ys H P, i < n → Pv i ys H → (∀ a b, Pv (i + 1) a b → P a b) → CompT D σb g tt te (.int (lo + i)) ys H P) (hd : ∀ ys H, Pv n ys H → Q H ys) : ∃ W, (∃ m, W 0 m [] H) ∧ CompW (Itr lo n) D σb g tt te Q W := by
  refine ⟨fun i m ys H => m = n - i ∧ i ≤ n ∧ Pv i ys H, ⟨_, rfl, Nat.zero_le _, h0⟩, ?_⟩
  rintro i m ys H ⟨rfl, hi, p⟩
  refine ⟨hl i ys H p, ?_⟩
  by_cases hlt : i < n
  · refine .inr ⟨hlt, fun x H3 y => ?_⟩
    obtain ⟨rfl, rfl⟩ := y
    exact hs i ys _ (fun a b => ∃ m', m' < n - i ∧ m' = n - (i + 1) ∧ i + 1 ≤ n ∧ Pv (i + 1) a b) hlt p (fun a b q => ⟨n - (i + 1), by lia, rfl, hlt, q⟩)
  · have e : i = n := by lia
    subst e
    exact .inl ⟨Nat.le_refl _, hd ys H p⟩
end
theorem Same.new {H : Hp} {p : Addr} {o : HO} (h : H p = none) : Same H (upd H p o) := fun b u e => by rw [upd_ne (ne_of_none e h)]; exact e
mutual
noncomputable def DV (K : PySem.W.Frag) (H : Hp) : PyData → V → Prop
  | .none, x => x = .non
  | .bool b, x => x = .bl b
  | .int i, x => x = .int i
  | .str z, x => x = .str z
  | .list ds, x => ∃ a xs, x = .ref a ∧ SqL K H a xs ∧ DVs K H ds xs
  | .tuple ds, x => ∃ a xs, x = .ref a ∧ SqT K H a xs ∧ DVs K H ds xs
  | .dict _, _ => False
noncomputable def DVs (K : PySem.W.Frag) (H : Hp) : List PyData → List V → Prop
  | [], xs => xs = []
  | d :: ds, xs => ∃ y ys, xs = y :: ys ∧ DV K H d y ∧ DVs K H ds ys
end
section
variable {X : Cx} {pins : List (Addr × Obj)} {σ : St} {H : Hp} {s : Shared}
mutual
theorem DV.reads (I : Inv X pins σ H s) : ∀ {d : PyData} {x : V} {u : Value}, DV X.K H d x → RelV x u → ∃ as, Reads s.heap u d as
  | .none, x, u, h, r => by
    rw [DV] at h; subst h; cases r; exact ⟨_, .none⟩
  | .bool b, x, u, h, r => by
    rw [DV] at h; subst h; cases r; exact ⟨_, .bool b⟩
  | .int i, x, u, h, r => by
    rw [DV] at h; subst h; obtain ⟨t, rfl⟩ := r; exact ⟨_, .int i t⟩
  | .str z, x, u, h, r => by
    rw [DV] at h; subst h; obtain ⟨t, rfl⟩ := r; exact ⟨_, .str z t⟩
  | .list ds, x, u, h, r => by
    rw [DV] at h
    obtain ⟨a, xs, rfl, h2, h3⟩ := h
    cases r
    obtain ⟨its, rv, ⟨o, n, e, c, _, d⟩, _⟩ := I.list h2
    obtain ⟨as, q⟩ := DVs.reads I h3 rv
    exact ⟨_, .list e c d (by simpa using q)⟩
  | .tuple ds, x, u, h, r => by
    rw [DV] at h
    obtain ⟨a, xs, rfl, h2, h3⟩ := h
    cases r
    obtain ⟨its, rv, ⟨o, e, c, n, d⟩, _⟩ := I.tuple h2
    obtain ⟨as, q⟩ := DVs.reads I h3 rv
    exact ⟨_, .tuple e c d (by simpa using q)⟩
  | .dict _, x, u, h, r => by rw [DV] at h; exact h.elim
theorem DVs.reads (I : Inv X pins σ H s) : ∀ {ds : List PyData} {xs : List V} {us : List Value}, DVs X.K H ds xs → Vals xs us → ∃ as, ReadsAll s.heap us ds as
  | [], xs, us, h, r => by
    rw [DVs] at h; subst h; cases r; exact ⟨_, .nil⟩
  | d :: ds, xs, us, h, r => by
    rw [DVs] at h
    obtain ⟨y, ys, rfl, h2, h3⟩ := h
    cases r with
    | cons r rs =>
      obtain ⟨as, q⟩ := DV.reads I h2 r
      obtain ⟨bs, p⟩ := DVs.reads I h3 rs
      exact ⟨_, .cons q p⟩
end
end
inductive rEqD (K : PySem.W.Frag) (neg : Bool) (x y : V) (H : Hp) (Q : VK) : Prop
  | mk (d e : PyData) (h0 : DV K H d x) (h1 : DV K H e y) (h2 : SeqAt.shaped d = true) (h3 : SeqAt.shaped e = true) (h4 : Q (.bl (if neg then !PyData.eqv d e else PyData.eqv d e)) H) : rEqD K neg x y H Q
theorem o_eqD {X : Cx} (hu : X.A.units + 64 < cLine) : OpR X (compareOp .Eq) (rEqD X.K false) := by
  intro pins s σ H x y v u Q I rx ry h
  obtain ⟨d, e, h1, h2, s1, s2, q⟩ := h
  obtain ⟨as, ra⟩ := h1.reads I rx
  obtain ⟨bs, rb⟩ := h2.reads I ry
  exact eq_dataH ra rb s1 s2 hu ⟨.bl _, H, I, rfl, q⟩
theorem o_neD {X : Cx} (hu : X.A.units + 64 < cLine) : OpR X (compareOp .NotEq) (rEqD X.K true) := by
  intro pins s σ H x y v u Q I rx ry h
  obtain ⟨d, e, h1, h2, s1, s2, q⟩ := h
  obtain ⟨as, ra⟩ := h1.reads I rx
  obtain ⟨bs, rb⟩ := h2.reads I ry
  exact ne_dataH ra rb s1 s2 hu ⟨.bl _, H, I, rfl, q⟩
end L2
set_option Elab.async false
set_option linter.all false
set_option maxRecDepth 100000
set_option maxHeartbeats 4000000
namespace L2
open PySem PySem.Spec PyProof.Rows
noncomputable def cutS (z : Str) (lo hi : Option Int) : Str := ⟨((z.cps.toList.drop (HT.sIx z.cps.size 0 lo)).take (HT.sIx z.cps.size z.cps.size hi - HT.sIx z.cps.size 0 lo)).toArray⟩
theorem clipS (n d : Nat) (v : Option Int) : (match v with | none => (d : Int) | some i => max 0 (min (if i < 0 then i + (n : Int) else i) (n : Int))) = ((HT.sIx n d v : Nat) : Int) := by
  cases v with
  | none => rfl
  | some i =>
    show max 0 (min (if i < 0 then i + (n : Int) else i) (n : Int)) = (((if i < 0 then (i + (n : Int)).toNat else min i.toNat n) : Nat) : Int)
    split <;> lia
theorem strIdx (lo hi : Option Int) (n : Nat) : Builtin.Str.strSliceIndices lo hi 1 n = (List.range (HT.sIx n n hi - HT.sIx n 0 lo)).map (HT.sIx n 0 lo + ·) := by
  have e : Builtin.Str.strSliceIndices lo hi 1 n = sliceRange ((HT.sIx n 0 lo : Nat) : Int) ((HT.sIx n n hi : Nat) : Int) 1 := by
    rw [← clipS n 0 lo, ← clipS n n hi]
    unfold Builtin.Str.strSliceIndices
    simp only [show (1 : Int) > 0 by decide, if_true]
    cases lo <;> cases hi <;> rfl
  rw [e, sliceRange_one]
theorem slice_cut (z : Str) (lo hi : Option Int) : Txt.slice z lo hi = cutS z lo hi := by
  have e : ((Builtin.Str.strSliceIndices lo hi 1 z.length).filterMap (z.cps[·]?)) = (z.cps.toList.drop (HT.sIx z.cps.size 0 lo)).take (HT.sIx z.cps.size z.cps.size hi - HT.sIx z.cps.size 0 lo) := by
    rw [strIdx]
    exact pick_run z.cps _ _
  unfold Txt.slice
  split
  · rename_i h
    have hl : (Builtin.Str.strSliceIndices lo hi 1 z.length).length = z.cps.size := by
      rw [Bool.and_eq_true] at h
      exact eq_of_beq h.2
    rw [strIdx, List.length_map, List.length_range] at hl
    have h1 := HT.sIx_le z.cps.size z.cps.size (Nat.le_refl _) hi
    have hl' : HT.sIx z.cps.size z.cps.size hi - HT.sIx z.cps.size 0 lo = z.cps.size := hl
    unfold cutS
    by_cases h0 : z.cps.size = 0
    · refine ext_toList ?_
      have hz : z.cps.toList = [] := List.length_eq_zero_iff.mp (by simpa using h0)
      show z.cps.toList = _
      rw [hz]
      simp
    · have h2 : HT.sIx z.cps.size 0 lo = 0 := by lia
      rw [hl', h2, List.drop_zero, List.take_of_length_le (by simp)]
  · rw [e]
    rfl
section
variable {X : Cx}
noncomputable def rSlS : V → Option Int → Option Int → Hp → VK → Prop := fun x lo hi H Q => ∃ z, x = .str z ∧ z.length ≤ sizeLine ∧ Q (.str (cutS z lo hi)) H
theorem sl_str : SlR X rSlS := by
  intro pins s σ H x v vl vu lo hi sl Q I rx hs pl pu h
  obtain ⟨z, rfl, hz, q⟩ := h
  obtain ⟨t, rfl⟩ := rx
  refine ⟨"str", _, F.slot_str_getitem.lookup, typeIs_str _ _ _, ?_⟩
  rw [← slice_cut] at q
  have fin : ∀ t' k, EP X pins σ Q (.str (Txt.slice z lo hi) t') { s with toks := k } := fun t' k => ⟨.str _, H, I.tok _, ⟨_, rfl⟩, q⟩
  cases pl with
  | none =>
    cases pu with
    | none => exact wpAny_getItem_str_slice (l := none) (u := none) (st := none) hs rfl (post_val_or_str ⟨Nat.le_trans (Txt.slice_le z _ _) hz, fin⟩)
    | int j uj => exact wpAny_getItem_str_slice (l := none) (u := some (j, uj)) (st := none) hs rfl (post_val_or_str ⟨Nat.le_trans (Txt.slice_le z _ _) hz, fin⟩)
  | int i ui =>
    cases pu with
    | none => exact wpAny_getItem_str_slice (l := some (i, ui)) (u := none) (st := none) hs rfl (post_val_or_str ⟨Nat.le_trans (Txt.slice_le z _ _) hz, fin⟩)
    | int j uj => exact wpAny_getItem_str_slice (l := some (i, ui)) (u := some (j, uj)) (st := none) hs rfl (post_val_or_str ⟨Nat.le_trans (Txt.slice_le z _ _) hz, fin⟩)
theorem SlR.imp {r r' : V → Option Int → Option Int → Hp → VK → Prop} (h : SlR X r) (i : ∀ x lo hi H Q, r' x lo hi H Q → r x lo hi H Q) : SlR X r' :=
  fun pins s σ H x v vl vu lo hi sl Q I rx hs pl pu q => h pins s σ H x v vl vu lo hi sl Q I rx hs pl pu (i x lo hi H Q q)
theorem sl_any : SlR X (fun x lo hi H Q => match x with
    | .str z => z.length ≤ sizeLine ∧ Q (.str (cutS z lo hi)) H
    | .ref a => (∃ xs, SqL X.K H a xs ∧ ∀ p, H p = none → Q (.ref p) (upd H p (.lst (cutV xs lo hi)))) ∨
        ∃ xs, SqT X.K H a xs ∧ ¬ (HT.sIx xs.length 0 lo = 0 ∧ HT.sIx xs.length xs.length hi = xs.length) ∧ ∀ p, H p = none → Q (.ref p) (upd H p (.tup (cutV xs lo hi)))
    | _ => False) := (sl_list.or (sl_tup.or sl_str)).imp fun x lo hi H Q q => by
  cases x with
  | str z => exact .inr (.inr ⟨z, rfl, q.1, q.2⟩)
  | ref a =>
    rcases q with ⟨xs, h1, h2⟩ | ⟨xs, h1, h2, h3⟩
    · exact .inl ⟨a, xs, rfl, h1, h2⟩
    · exact .inr (.inl ⟨a, xs, rfl, h1, h2, h3⟩)
  | _ => exact (show False from q).elim
variable {o e : Expr} {es : List Expr} {to : TE} {t : TA} {apos cpos : Pos}
end
end L2
set_option Elab.async false
set_option linter.all false
set_option maxRecDepth 100000
set_option maxHeartbeats 4000000
namespace L2
open PySem PySem.Spec PyProof.Rows
section
variable {X : Cx} {st : Stmt} {rest : List Stmt} {t u : TS} {e : Expr} {te : TE} {tt : TT}
noncomputable def tSeqM (t u : TS) : TS := fun D σ H => ∃ M : St → Hp → Prop, t { D with nx := M } σ H ∧ ∀ σ' H', M σ' H' → u D σ' H'
theorem pss_consM (h1 : PS X st t) (h2 : PSs X rest u) : PSs X (st :: rest) (tSeqM t u) := by
  intro pins s σ H D I h
  obtain ⟨M, h, hm⟩ := h
  refine wpAny_execs_cons (thn (h1 pins s σ H { D with nx := M } I h) fun f s1 q => ?_)
  cases f with
  | next =>
    obtain ⟨σ', H', I', q⟩ := q
    exact h2 pins s1 σ' H' D I' (hm _ _ q)
  | ret v => exact q
  | brk => exact q
  | cont => exact q
end
end L2
set_option Elab.async false
set_option linter.all false
set_option maxRecDepth 100000
set_option maxHeartbeats 4000000
namespace L2
open PySem PySem.Spec PyProof.Rows
section
variable {X : Cx} {pins : List (Addr × Obj)} {σ : St} {H : Hp} {s : Shared} {h' : Heap}
theorem Inv.turnedNew {t' : Nat} {ch : List Addr} {a : Addr} {o : HO} (I : Inv X pins σ H s) (k : ∀ b u, b ∉ ch → s.heap.get? b = some u → h'.get? b = some u) (hf : ∀ b ∈ ch, FpOk X pins H b)
    (ha : s.heap.objs.size ≤ a) (new : ObjOk X.prog X.w (upd H a o) h' a o) : Inv X pins σ (upd H a o) { s with heap := h', toks := t' } := by
  have hna : H a = none := I.hok.fresh ha
  have nch : ∀ b u, H b = some u → b ∉ ch := fun b u e z => by
    rw [(hf b z).1] at e
    cases e
  have nea : ∀ b u, H b = some u → b ≠ a := fun b u e z => by
    rw [z, hna] at e
    cases e
  have old : ∀ b u, s.heap.get? b = some u → b ≠ a := fun b u e => Nat.ne_of_lt (Nat.lt_of_lt_of_le (Heap.lt_size e) ha)
  refine I.step (g' := s.gens) (d' := s.drawn) (ch := ch) (fun b hb => ?_) (fun b u _ _ hc e _ => k b u hc e) (fun b u _ _ hc e _ => ⟨u.slots, k b u hc e⟩) (fun b u _ e n => ?_) (fun b u hc e => ⟨u, k b u hc e⟩)
    (fun b xs e => ?_) (fun b u v e => ?_) (fun b ps e => ⟨#[], ?_⟩) (fun m hm => ?_) (fun b u e => ?_) I.bare
  · obtain ⟨_, f1, _, f3, f4, f5⟩ := hf b hb
    exact ⟨f3, f1, f4, f5⟩
  · rw [upd_ne (old b u e)]; exact n
  · rw [upd_ne (nea b _ e)]; exact e
  · rw [upd_ne (nea b _ e)]; exact e
  · rw [upd_ne (nea b _ e), e]; simp
  · obtain ⟨ob, es, ep, ho, r⟩ := hm
    exact ⟨ob, es, ep, k _ ob (fun z => (hf _ z).2.1 rfl) ho, r⟩
  · by_cases hb : b = a
    · subst hb
      rw [upd_same] at e
      cases e
      exact new
    · rw [upd_ne hb] at e
      refine (I.hok b u e).stay (fun c v hc q => k c v ?_ q) (fun c q => ?_) fun c xs q => ?_
      · rcases hc with z | z
        · rw [z]; exact nch b u e
        · exact nch c _ z
      · rw [upd_ne (nea c _ q)]; exact q
      · rw [upd_ne (nea c _ q)]; exact q
theorem Inv.turnedN {t' : Nat} {ch : List Addr} (I : Inv X pins σ H s) (k : ∀ b u, b ∉ ch → s.heap.get? b = some u → h'.get? b = some u) (hf : ∀ b ∈ ch, FpOk X pins H b) : Inv X pins σ H { s with heap := h', toks := t' } := by
  have nch : ∀ b u, H b = some u → b ∉ ch := fun b u e z => by
    rw [(hf b z).1] at e
    cases e
  refine I.step (g' := s.gens) (d' := s.drawn) (ch := ch) (fun b hb => ?_) (fun b u _ _ hc e _ => k b u hc e) (fun b u _ _ hc e _ => ⟨u.slots, k b u hc e⟩) (fun b u _ e n => n) (fun b u hc e => ⟨u, k b u hc e⟩)
    (fun b xs e => e) (fun b u v e => e) (fun b ps e => ⟨#[], by rw [e]; simp⟩) (fun m hm => ?_) (fun b u e => ?_) I.bare
  · obtain ⟨_, f1, _, f3, f4, f5⟩ := hf b hb
    exact ⟨f3, f1, f4, f5⟩
  · obtain ⟨ob, es, ep, ho, r⟩ := hm
    exact ⟨ob, es, ep, k _ ob (fun z => (hf _ z).2.1 rfl) ho, r⟩
  · refine (I.hok b u e).stay (fun c v hc q => k c v ?_ q) (fun c q => q) fun c xs q => q
    rcases hc with z | z
    · rw [z]; exact nch b u e
    · exact nch c _ z
end
noncomputable def Ite (a : Addr) : It := ⟨fun i H => ∃ xs x, H a = some (.lst xs) ∧ xs[i]? = some x,
  fun i H x H' => ∃ p y, H p = none ∧ x = .ref p ∧ (∀ xs, H a = some (.lst xs) → xs[i]? = some y) ∧ H' = upd H p (.tup [.int (i : Nat), y]), fun i H => ∃ xs, H a = some (.lst xs) ∧ xs.length ≤ i⟩
theorem turn_enum {P : Program} {w : World} {K : PySem.W.Frag} {es : List Expr} {k : Nat} {pos : Pos} (a e it : Addr) (hne : e ≠ it) :
    Turn P w K (.Tuple es k pos) (Ite a) [e, it] e (fun i h => (∃ old, IsEnum h e it i old) ∧ h.IsListIter it a i) where
  mem := by simp
  obj := fun i h st b hb => by
    obtain ⟨⟨old, he⟩, o, h1, h2, h3⟩ := st
    rcases List.mem_cons.mp hb with rfl | hb
    · exact ⟨_, he, fun v z => by cases z⟩
    · rw [List.mem_singleton.mp hb]
      exact ⟨o, h1, fun v z => by rw [h3] at z; cases z⟩
  keep := fun i h h' st kp => by
    obtain ⟨⟨old, he⟩, o, h1, r⟩ := st
    exact ⟨⟨old, kp e (by simp) _ he⟩, o, kp it (by simp) o h1, r⟩
  item := by
    intro X hP hw hK hc i pins s σ H E I hf st hg
    subst hP hw hK
    obtain ⟨⟨old, he⟩, hit⟩ := st
    obtain ⟨xs, x, hl, hx⟩ := hg
    obtain ⟨z, its, n, r, hlen, eo⟩ := I.lstM hl
    obtain ⟨u, hu, ru⟩ := Vals.get r hx
    have hil : s.heap.IsList a its.toArray := ⟨_, eo, rfl, _, rfl⟩
    refine wpAny_pyNext_enum_item he hit hil (x := u) (by simpa using hu) hne fun h1 e1 e2 e3 e4 e5 => ?_
    refine ⟨_, rfl, wpAny_letOwnedTupleGo_enum e1 fun h2 e6 sb => ?_⟩
    have hps : s.heap.objs.size ≠ e := fun q => absurd (Heap.lt_size he) (by rw [← q]; exact Nat.lt_irrefl _)
    have hpi : s.heap.objs.size ≠ it := fun q => by
      obtain ⟨o, ho, _⟩ := hit
      exact absurd (Heap.lt_size ho) (by rw [← q]; exact Nat.lt_irrefl _)
    have hn : H s.heap.objs.size = none := I.hok.fresh (Nat.le_refl _)
    have e3' : h2.get? s.heap.objs.size = some { cls := .type "tuple", data := .seq #[.int i s.toks, u] } := (sb.2 _ hps).trans e3
    have J : Inv X pins σ (upd H s.heap.objs.size (.tup [.int (i : Nat), x])) { s with heap := h2, toks := s.toks + 1 } := by
      refine I.turnedNew (ch := [e, it]) (fun b o hb q => ?_) hf (Nat.le_refl _) ⟨by rw [sizeLine_eq]; show 2 ≤ 16777216; decide, [.int i s.toks, u], .cons ⟨_, rfl⟩ (.cons ru .nil), _, e3', rfl, 0, rfl⟩
      have b1 : b ≠ e := fun z => hb (by simp [z])
      have b2 : b ≠ it := fun z => hb (by simp [z])
      exact (sb.2 b b1).trans (e5 b o b1 b2 q)
    refine ⟨.ref s.heap.objs.size, _, J, rfl, ⟨s.heap.objs.size, x, hn, rfl, fun ys hy => ?_, rfl⟩, ⟨⟨u, ?_⟩, ?_⟩, fun b hb => ?_⟩
    · rw [hl] at hy
      cases hy
      exact hx
    · have e6' : IsEnum h2 e it ((i : Int) + 1) u := e6
      have e7 : ((i + 1 : Nat) : Int) = (i : Int) + 1 := by lia
      rw [e7]
      exact e6'
    · obtain ⟨o, ho, r⟩ := e2
      exact ⟨o, (sb.2 it (Ne.symm hne)).trans ho, r⟩
    · have hb' : b ≠ s.heap.objs.size := by
        rcases List.mem_cons.mp hb with rfl | hb
        · exact hps.symm
        · rw [List.mem_singleton.mp hb]; exact hpi.symm
      rw [upd_ne hb']
      exact (hf b hb).1
  done := by
    intro X hP hw hK hc i pins s σ H E I hf st hg
    subst hP hw hK
    obtain ⟨⟨old, he⟩, hit⟩ := st
    obtain ⟨xs, hl, hx⟩ := hg
    obtain ⟨z, its, n, r, hlen, eo⟩ := I.lstM hl
    have hil : s.heap.IsList a its.toArray := ⟨_, eo, rfl, _, rfl⟩
    refine wpAny_pyNext_enum_end (I.ok.hd hc) he hit hil (by simp; lia) fun h1 eb => ⟨rfl, I.turnedN (ch := [e, it]) (t' := s.toks) (fun b o hb q => eb b o (fun z => hb (by simp [z])) q) hf⟩
  self := fun _ _ _ _ _ st h => by
    obtain ⟨⟨old, he⟩, _⟩ := st
    exact wpAny_pyIter_enum he h
noncomputable def iEnum (ta : TA) : TI := fun σ H R => ta σ H fun vs H1 => ∃ a xs, vs = [.ref a] ∧ H1 a = some (.lst xs) ∧ R (Ite a) H1
theorem pi_enum {X : Cx} {es : List Expr} {k : Nat} {tpos : Pos} {e : Expr} {ta : TA} {p pos : Pos} (hg : Gl X "enumerate") (hm : X.mg "enumerate" = none) (ha : PA X [e] ta) (hs : starEach [e] X.env = [(false, eval e X.env)] := by rfl) :
    PI X (.Tuple es k tpos) (.Call (.Name "enumerate" p) [e] [] pos) (iEnum ta) := by
  intro pins s σ H R I h
  refine wpAny_Call_Name_kw (ld_blt I hg hm bt_enumerate ?_ (by decide) (by decide))
  refine PyProof.Rows.callWith_type1 (thn (ha pos pins s σ H _ I h) fun us s1 ⟨vs, H1, I1, r1, a, xs, e1, hl, q⟩ => ?_) hs rfl
  subst e1
  obtain ⟨u, rfl, ru⟩ := vals1 r1
  cases ru
  obtain ⟨z, its, n, r, hlen, eo⟩ := I1.lstM hl
  refine call_enumerate_1 (n := n) eo fun h2 e1 e2 e3 e4 => ?_
  have I2 : Inv X pins σ H1 { s1 with heap := h2 } := I1.kept (t' := s1.toks) e4
  have hne : s1.heap.objs.size + 1 ≠ s1.heap.objs.size := Nat.succ_ne_self _
  refine wpAny_pyIter_enum e1 ?_
  refine ⟨s1.heap.objs.size + 1, [s1.heap.objs.size + 1, s1.heap.objs.size], _, _, H1, rfl, I2, turn_enum a _ _ hne, ⟨⟨_, e1⟩, e2⟩, fun b hb => ?_, q⟩
  have hb' : s1.heap.objs.size ≤ b := by
    rcases List.mem_cons.mp hb with rfl | hb
    · lia
    · rw [List.mem_singleton.mp hb]
      exact Nat.le_refl _
  exact I1.fpOk hb' (I1.hok.fresh hb')
theorem for_enum {a : Addr} {xs : List V} {g : TG} {tb : TS} {D : Ends} {σ : St} {H : Hp} (Pv : Nat → St → Hp → Prop) (h0 : Pv 0 σ H) (hl : ∀ i σ H, Pv i σ H → H a = some (.lst xs))
    (hs : ∀ (i : Nat) x σ H p, xs[i]? = some x → Pv i σ H → H p = none → g (.ref p) σ (upd H p (.tup [.int (i : Nat), x])) fun σ2 H2 => tb { D with nx := Pv (i + 1), ct := Pv (i + 1), bk := D.nx } σ2 H2) (hd : ∀ σ H, Pv xs.length σ H → D.nx σ H) :
    ∃ W : Nat → Nat → St → Hp → Prop, (∃ m, W 0 m σ H) ∧ ∀ i m σ H, W i m σ H →
      ((Ite a).stop i H ∧ D.nx σ H) ∨ ((Ite a).go i H ∧ ∃ N : St → Hp → Prop, (∀ σ' H', N σ' H' → ∃ m', m' < m ∧ W (i + 1) m' σ' H') ∧ ∀ x H', (Ite a).yld i H x H' → g x σ H' fun σ2 H2 => tb { D with nx := N, ct := N, bk := D.nx } σ2 H2) := by
  refine ⟨fun i m σ H => m = xs.length - i ∧ i ≤ xs.length ∧ Pv i σ H, ⟨_, rfl, Nat.zero_le _, h0⟩, ?_⟩
  rintro i m σ H ⟨rfl, hi, p⟩
  have q := hl i σ H p
  by_cases hlt : i < xs.length
  · refine .inr ⟨⟨xs, xs[i], q, by simp [hlt]⟩, Pv (i + 1), fun σ' H' p' => ⟨_, by lia, rfl, hlt, p'⟩, fun x H' y => ?_⟩
    obtain ⟨b, v, hb, rfl, hv, rfl⟩ := y
    exact hs i v σ H b (hv xs q) p hb
  · have e : i = xs.length := by lia
    subst e
    exact .inl ⟨⟨xs, q, Nat.le_refl _⟩, hd σ H p⟩
noncomputable def Itz (a b : Addr) : It := ⟨fun i H => ∃ xs ys x y, H a = some (.lst xs) ∧ H b = some (.lst ys) ∧ xs[i]? = some x ∧ ys[i]? = some y,
  fun i H v H' => ∃ p x y, H p = none ∧ v = .ref p ∧ (∀ xs, H a = some (.lst xs) → xs[i]? = some x) ∧ (∀ ys, H b = some (.lst ys) → ys[i]? = some y) ∧ H' = upd H p (.tup [x, y]),
  fun i H => ∃ xs ys, H a = some (.lst xs) ∧ H b = some (.lst ys) ∧ (xs.length ≤ i ∨ ys.length ≤ i)⟩
theorem turn_zip {P : Program} {w : World} {K : PySem.W.Frag} {es : List Expr} {k : Nat} {pos : Pos} (a b z TI TO i1 i2 : Addr) (nd : [z, TI, TO, i1, i2].Nodup) :
    Turn P w K (.Tuple es k pos) (Itz a b) [z, TI, TO, i1, i2] z (fun i h => IsZip h z TI TO .none ∧ IsPair h TI (.ref i1) (.ref i2) ∧ (∃ u v, IsPair h TO u v) ∧ h.IsListIter i1 a i ∧ h.IsListIter i2 b i) := by
  have n1 : TI ≠ z := fun e => by simp [e] at nd
  have n2 : TO ≠ z := fun e => by simp [e] at nd
  have n3 : i1 ≠ z := fun e => by simp [e] at nd
  have n4 : i2 ≠ z := fun e => by simp [e] at nd
  have n5 : TI ≠ TO := fun e => by simp [e] at nd
  have n6 : TI ≠ i1 := fun e => by simp [e] at nd
  have n7 : TI ≠ i2 := fun e => by simp [e] at nd
  have n8 : TO ≠ i1 := fun e => by simp [e] at nd
  have n9 : TO ≠ i2 := fun e => by simp [e] at nd
  have n0 : i1 ≠ i2 := fun e => by simp [e] at nd
  have apart : ∀ {H : Hp} {xs ys : List V}, (∀ c ∈ [z, TI, TO, i1, i2], H c = none) → H a = some (.lst xs) → H b = some (.lst ys) → ZipApart z TI TO i1 i2 a b := fun {H xs ys} hf ha hb =>
    ⟨n1, n2, n3, n4, n5, n6, n7, n8, n9, n0, ne_of_none ha (hf z (by simp)), ne_of_none ha (hf TO (by simp)), ne_of_none ha (hf i1 (by simp)), ne_of_none ha (hf i2 (by simp)),
      ne_of_none hb (hf z (by simp)), ne_of_none hb (hf TO (by simp)), ne_of_none hb (hf i1 (by simp)), ne_of_none hb (hf i2 (by simp))⟩
  refine { mem := by simp, obj := ?_, keep := ?_, item := ?_, done := ?_, self := ?_ }
  · rintro i h ⟨h1, h2, ⟨u, v, h3⟩, ⟨o4, h4, _, d4⟩, ⟨o5, h5, _, d5⟩⟩ c hc
    simp only [List.mem_cons, List.not_mem_nil, or_false] at hc
    rcases hc with rfl | rfl | rfl | rfl | rfl
    · exact ⟨_, h1, fun v z => by cases z⟩
    · exact ⟨_, h2, fun v z => by cases z⟩
    · exact ⟨_, h3, fun v z => by cases z⟩
    · exact ⟨_, h4, fun v z => by rw [d4] at z; cases z⟩
    · exact ⟨_, h5, fun v z => by rw [d5] at z; cases z⟩
  · rintro i h h' ⟨h1, h2, ⟨u, v, h3⟩, ⟨o4, h4, r4⟩, ⟨o5, h5, r5⟩⟩ kp
    exact ⟨kp z (by simp) _ h1, kp TI (by simp) _ h2, ⟨u, v, kp TO (by simp) _ h3⟩, ⟨o4, kp i1 (by simp) _ h4, r4⟩, ⟨o5, kp i2 (by simp) _ h5, r5⟩⟩
  · intro X hP hw hK hc i pins s σ H E I hf st hg
    subst hP hw hK
    obtain ⟨h1, h2, ⟨u, v, h3⟩, h4, h5⟩ := st
    obtain ⟨xs, ys, x, y, ha, hb, hx, hy⟩ := hg
    obtain ⟨_, its, n, r, hlen, eo⟩ := I.lstM ha
    obtain ⟨_, its2, m, r2, hlen2, eo2⟩ := I.lstM hb
    obtain ⟨ux, hux, rux⟩ := Vals.get r hx
    obtain ⟨uy, huy, ruy⟩ := Vals.get r2 hy
    have hn : H s.heap.objs.size = none := I.hok.fresh (Nat.le_refl _)
    have new : ∀ c ∈ [z, TI, TO, i1, i2], c ≠ s.heap.objs.size := fun c hc q => by
      have : ∃ o, s.heap.get? c = some o := by
        simp only [List.mem_cons, List.not_mem_nil, or_false] at hc
        obtain ⟨o4, h4, _⟩ := h4
        obtain ⟨o5, h5, _⟩ := h5
        rcases hc with rfl | rfl | rfl | rfl | rfl
        · exact ⟨_, h1⟩
        · exact ⟨_, h2⟩
        · exact ⟨_, h3⟩
        · exact ⟨_, h4⟩
        · exact ⟨_, h5⟩
      obtain ⟨o, ho⟩ := this
      exact absurd (Heap.lt_size ho) (by rw [q]; exact Nat.lt_irrefl _)
    refine wpAny_pyNext_zip_item (apart (fun c hc => (hf c hc).1) ha hb) h1 h2 h3 h4 h5 (xs := its.toArray) (ys := its2.toArray) ⟨_, eo, rfl, _, rfl⟩ ⟨_, eo2, rfl, _, rfl⟩ (x := ux) (y := uy) (by simpa using hux) (by simpa using huy)
      fun h6 e1 e2 e3 e4 e5 e6 e7 => ?_
    refine ⟨_, rfl, wpAny_letOwnedTupleGo_zip e1 fun h7 e8 sb => ?_⟩
    have J : Inv X pins σ (upd H s.heap.objs.size (.tup [x, y])) { s with heap := h7 } := by
      refine I.turnedNew (t' := s.toks) (ch := [z, TI, TO, i1, i2]) (fun c o hc q => ?_) hf (Nat.le_refl _) ⟨by rw [sizeLine_eq]; show 2 ≤ 16777216; decide, [ux, uy], .cons rux (.cons ruy .nil), _, (sb.2 _ (new z (by simp)).symm).trans e5, rfl, 0, rfl⟩
      have c1 : c ≠ z := fun w => hc (by simp [w])
      exact (sb.2 c c1).trans (e7 c o c1 (fun w => hc (by simp [w])) (fun w => hc (by simp [w])) (fun w => hc (by simp [w])) q)
    refine ⟨.ref s.heap.objs.size, _, J, rfl, ⟨s.heap.objs.size, x, y, hn, rfl, fun xs' h => by rw [ha] at h; cases h; exact hx, fun ys' h => by rw [hb] at h; cases h; exact hy, rfl⟩, ⟨e8, ?_, ⟨ux, uy, ?_⟩, ?_, ?_⟩, fun c hc => ?_⟩
    · exact (sb.2 TI n1).trans (e7 TI _ n1 n5 n6 n7 h2)
    · exact (sb.2 TO n2).trans e2
    · obtain ⟨o, ho, q⟩ := e3
      exact ⟨o, (sb.2 i1 n3).trans ho, q⟩
    · obtain ⟨o, ho, q⟩ := e4
      exact ⟨o, (sb.2 i2 n4).trans ho, q⟩
    · rw [upd_ne (new c hc)]
      exact (hf c hc).1
  · intro X hP hw hK hc i pins s σ H E I hf st hg
    subst hP hw hK
    obtain ⟨h1, h2, ⟨u, v, h3⟩, h4, h5⟩ := st
    obtain ⟨xs, ys, ha, hb, hx⟩ := hg
    obtain ⟨_, its, n, r, hlen, eo⟩ := I.lstM ha
    obtain ⟨_, its2, m, r2, hlen2, eo2⟩ := I.lstM hb
    refine wpAny_pyNext_zip_end (I.ok.hd hc) (apart (fun c hc => (hf c hc).1) ha hb) h1 h2 h3 h4 h5 (xs := its.toArray) (ys := its2.toArray) ⟨_, eo, rfl, _, rfl⟩ ⟨_, eo2, rfl, _, rfl⟩ (by simp; lia) fun h6 e7 => ?_
    exact ⟨rfl, I.turnedN (t' := s.toks) (ch := [z, TI, TO, i1, i2]) (fun c o hc q => e7 c o (fun w => hc (by simp [w])) (fun w => hc (by simp [w])) (fun w => hc (by simp [w])) (fun w => hc (by simp [w])) q) hf⟩
  · exact fun _ _ _ _ _ st h => wpAny_pyIter_zip st.1 h
noncomputable def iZip (ta : TA) : TI := fun σ H R => ta σ H fun vs H1 => ∃ a b xs ys, vs = [.ref a, .ref b] ∧ H1 a = some (.lst xs) ∧ H1 b = some (.lst ys) ∧ R (Itz a b) H1
theorem pi_zip {X : Cx} {es : List Expr} {k : Nat} {tpos : Pos} {e f : Expr} {ta : TA} {p pos : Pos} (hg : Gl X "zip") (hm : X.mg "zip" = none) (ha : PA X [e, f] ta) (hs : starEach [e, f] X.env = (false, eval e X.env) :: starEach [f] X.env := by rfl)
    (hpl : (backTo pos (starEach [f] X.env)).any (·.1) = false := by rfl) : PI X (.Tuple es k tpos) (.Call (.Name "zip" p) [e, f] [] pos) (iZip ta) := by
  intro pins s σ H R I h
  refine wpAny_Call_Name_kw (ld_blt I hg hm bt_zip ?_ (by decide) (by decide))
  refine PyProof.Rows.callWith_type1 (thn (ha pos pins s σ H _ I h) fun us s1 ⟨vs, H1, I1, r1, a, b, xs, ys, e1, hl, hl2, q⟩ => ?_) hs hpl
  subst e1
  obtain ⟨u, v, rfl, ru, rv⟩ := vals2 r1
  cases ru
  cases rv
  obtain ⟨_, its, n, r, hlen, eo⟩ := I1.lstM hl
  obtain ⟨_, its2, m, r2, hlen2, eo2⟩ := I1.lstM hl2
  refine call_zip_2 (xs := its.toArray) (ys := its2.toArray) ⟨_, eo, rfl, _, rfl⟩ ⟨_, eo2, rfl, _, rfl⟩ fun h2 e1 e2 e3 e4 e5 e6 e7 => ?_
  have I2 : Inv X pins σ H1 { s1 with heap := h2 } := I1.kept (t' := s1.toks) e7
  refine wpAny_pyIter_zip e1 ?_
  refine ⟨s1.heap.objs.size + 4, [s1.heap.objs.size + 4, s1.heap.objs.size + 2, s1.heap.objs.size + 3, s1.heap.objs.size, s1.heap.objs.size + 1], _, _, H1, rfl, I2, turn_zip a b _ _ _ _ _ (by simp), ⟨e1, e2, ⟨_, _, e3⟩, e4, e5⟩, fun c hc => ?_, q⟩
  have hc' : s1.heap.objs.size ≤ c := by
    simp only [List.mem_cons, List.not_mem_nil, or_false] at hc
    rcases hc with z | z | z | z | z <;> rw [z] <;> first | exact Nat.le_refl _ | exact Nat.le_add_right _ _
  exact I1.fpOk hc' (I1.hok.fresh hc')
theorem for_zip {a b : Addr} {xs ys : List V} {g : TG} {tb : TS} {D : Ends} {σ : St} {H : Hp} (he : xs.length = ys.length) (Pv : Nat → St → Hp → Prop) (h0 : Pv 0 σ H) (hl : ∀ i σ H, Pv i σ H → H a = some (.lst xs) ∧ H b = some (.lst ys))
    (hs : ∀ (i : Nat) x y σ H p, xs[i]? = some x → ys[i]? = some y → Pv i σ H → H p = none → g (.ref p) σ (upd H p (.tup [x, y])) fun σ2 H2 => tb { D with nx := Pv (i + 1), ct := Pv (i + 1), bk := D.nx } σ2 H2) (hd : ∀ σ H, Pv xs.length σ H → D.nx σ H) :
    ∃ W : Nat → Nat → St → Hp → Prop, (∃ m, W 0 m σ H) ∧ ∀ i m σ H, W i m σ H →
      ((Itz a b).stop i H ∧ D.nx σ H) ∨ ((Itz a b).go i H ∧ ∃ N : St → Hp → Prop, (∀ σ' H', N σ' H' → ∃ m', m' < m ∧ W (i + 1) m' σ' H') ∧ ∀ x H', (Itz a b).yld i H x H' → g x σ H' fun σ2 H2 => tb { D with nx := N, ct := N, bk := D.nx } σ2 H2) := by
  refine ⟨fun i m σ H => m = xs.length - i ∧ i ≤ xs.length ∧ Pv i σ H, ⟨_, rfl, Nat.zero_le _, h0⟩, ?_⟩
  rintro i m σ H ⟨rfl, hi, p⟩
  obtain ⟨q1, q2⟩ := hl i σ H p
  by_cases hlt : i < xs.length
  · refine .inr ⟨⟨xs, ys, xs[i], ys[i]'(by lia), q1, q2, by simp [hlt], by simp [show i < ys.length by lia]⟩, Pv (i + 1), fun σ' H' p' => ⟨_, by lia, rfl, hlt, p'⟩, fun v H' y => ?_⟩
    obtain ⟨c, x, y, hc, rfl, hx, hy, rfl⟩ := y
    exact hs i x y σ H c (hx xs q1) (hy ys q2) p hc
  · have e : i = xs.length := by lia
    subst e
    exact .inl ⟨⟨xs, ys, q1, q2, .inl (Nat.le_refl _)⟩, hd σ H p⟩
theorem comp_zip {D : Addr} {σb : St} {g : TG} {tt : TT} {te : TE} {Q : Hp → List V → Prop} {H : Hp} {a b : Addr} {xs ys : List V} (he : xs.length = ys.length) (Pv : Nat → List V → Hp → Prop) (h0 : Pv 0 [] H) (hq : ∀ i zs H, Pv i zs H → H a = some (.lst xs) ∧ H b = some (.lst ys)) (hl : ∀ i zs H, Pv i zs H → H D = some (.lst zs))
    (hs : ∀ (i : Nat) x y zs H p P, xs[i]? = some x → ys[i]? = some y → Pv i zs H → H p = none → (∀ a b, Pv (i + 1) a b → P a b) → CompT D σb g tt te (.ref p) zs (upd H p (.tup [x, y])) P) (hd : ∀ zs H, Pv xs.length zs H → Q H zs) : ∃ W, (∃ m, W 0 m [] H) ∧ CompW (Itz a b) D σb g tt te Q W := by
  refine ⟨fun i m zs H => m = xs.length - i ∧ i ≤ xs.length ∧ Pv i zs H, ⟨_, rfl, Nat.zero_le _, h0⟩, ?_⟩
  rintro i m zs H ⟨rfl, hi, p⟩
  refine ⟨hl i zs H p, ?_⟩
  obtain ⟨q1, q2⟩ := hq i zs H p
  by_cases hlt : i < xs.length
  · refine .inr ⟨⟨xs, ys, xs[i], ys[i]'(by lia), q1, q2, by simp [hlt], by simp [show i < ys.length by lia]⟩, fun v H3 y => ?_⟩
    obtain ⟨c, x, y, hc, rfl, hx, hy, rfl⟩ := y
    exact hs i x y zs H c (fun a b => ∃ m', m' < xs.length - i ∧ m' = xs.length - (i + 1) ∧ i + 1 ≤ xs.length ∧ Pv (i + 1) a b) (hx xs q1) (hy ys q2) p hc fun a b r => ⟨_, by lia, rfl, hlt, r⟩
  · have e : i = xs.length := by lia
    subst e
    exact .inl ⟨⟨xs, ys, q1, q2, .inl (Nat.le_refl _)⟩, hd zs H p⟩
end L2
set_option Elab.async false
set_option linter.all false
set_option maxRecDepth 100000
set_option maxHeartbeats 4000000
namespace NumM
open PySem PySem.NumText
end NumM
namespace L2
open PySem PySem.Spec PyProof.Rows
end L2
set_option Elab.async false
set_option linter.all false
set_option maxRecDepth 100000
set_option maxHeartbeats 4000000
namespace SplM
open PySem
end SplM
namespace L2
open PySem PySem.Spec PyProof.Rows
section
variable {X : Cx}
variable {o e : Expr} {es : List Expr} {to : TE} {t : TA} {apos cpos : Pos}
theorem pe_m.append (ho : PE X o to) (ha : PA X (e :: es) t) (hbase : attributeBase o "append" X.env (eval o X.env) = eval o X.env := by rfl)
    (hfew : ((backTo cpos (starEach (e :: es) X.env)).all (fun x => !x.1) && (backToKw cpos (keywordEach [] X.env)).all (fun x => x.1.isSome) && decide ((e :: es).length + ([] : List Keyword).length + (if ([] : List Keyword).isEmpty then 0 else 1) < 30)) = true := by rfl)
    (hline : (apos.endLine == cpos.line) = true := by rfl) (hs : starEach (e :: es) X.env = (false, eval e X.env) :: starEach es X.env := by rfl) (hplain : (backTo cpos (starEach es X.env)).any (·.1) = false := by rfl) :
    PE X (.Call (.Attribute o "append" apos) (e :: es) [] cpos) (tBM X.K "list" rAppend to t) := pe_bm F.plainAttrs_list F.slot_list_append F.type_list_append mt_append ho ha hbase hfew hline hs hplain
theorem pe_m.popAt (ho : PE X o to) (ha : PA X (e :: es) t) (hbase : attributeBase o "pop" X.env (eval o X.env) = eval o X.env := by rfl)
    (hfew : ((backTo cpos (starEach (e :: es) X.env)).all (fun x => !x.1) && (backToKw cpos (keywordEach [] X.env)).all (fun x => x.1.isSome) && decide ((e :: es).length + ([] : List Keyword).length + (if ([] : List Keyword).isEmpty then 0 else 1) < 30)) = true := by rfl)
    (hline : (apos.endLine == cpos.line) = true := by rfl) (hs : starEach (e :: es) X.env = (false, eval e X.env) :: starEach es X.env := by rfl) (hplain : (backTo cpos (starEach es X.env)).any (·.1) = false := by rfl) :
    PE X (.Call (.Attribute o "pop" apos) (e :: es) [] cpos) (tBM X.K "list" rPopAt to t) := pe_bm F.plainAttrs_list F.slot_list_pop F.type_list_pop mt_popAt ho ha hbase hfew hline hs hplain
end
theorem Same.put {H H' : Hp} {D : Addr} {o : HO} (e : Same H H') (h : H D = none) : Same H (upd H' D o) := fun b u q => by
  rw [upd_ne (ne_of_none q h)]; exact e b u q
theorem atI_cons {α : Type} {xs : List α} {i : Int} {v : α} (k : Nat) (hk : (k : Int) = i) (h : xs[k]? = some v) : atI xs i = some v := by rw [← hk]; exact atI_nat h
end L2
set_option Elab.async false
set_option linter.all false
set_option maxRecDepth 100000
set_option maxHeartbeats 4000000
namespace L2
open PySem PySem.Spec PyProof.Rows
section
variable {X : Cx} {K : PySem.W.Frag}
theorem ix_seqK (h : X.K = K) : IxR X (rIx K) := h ▸ ix_seq
theorem call_isiK (h : X.K = K) : CallR X (.builtin "isinstance") (rIsi K) := h ▸ call_isi
theorem op_in_seqK (h : X.K = K) : OpR X (compareOp .In) (rIn K false) := h ▸ op_in_seq
theorem op_notIn_seqK (h : X.K = K) : OpR X (compareOp .NotIn) (rIn K true) := h ▸ op_notIn_seq
theorem pg_tupK (h : X.K = K) {es : List Expr} {k : Nat} {t : TGs} {n : Nat} {pos : Pos} (hc : X.calm = true) (hp : PGs X es t) (hn : (assignEach es X.env).length = n := by rfl) (hst : (assignEach es X.env).findIdx? (·.1) = none := by rfl) :
    PG X (.Tuple es k pos) (gTup K n t) := h ▸ pg_tup hc hp hn hst
end
end L2
set_option Elab.async false
set_option linter.all false
set_option maxRecDepth 100000
set_option maxHeartbeats 4000000
namespace L2
open PySem PySem.Spec PyProof.Rows
structure XCls (K : PySem.W.Frag) (D : Addr) : Prop where
  ga : PySem.W.findIn K (.ref D) "__getattribute__" = some (some (.builtin "BaseException.__getattribute__"))
  gn : PySem.W.findIn K (.ref D) "__getattr__" = some none
  cl : PySem.W.findIn K (.ref D) "__class__" = some (some (.builtin "object.__class__"))
  mb : PySem.W.mroIn K D (.type "BaseException") = some true
  mo : PySem.W.mroIn K D (.type "object") = some true
  isc : (PySem.W.clsIn K D).isSome = true
section
variable {prog : Program} {w : World} {A : Around} {E : Value → Shared → Prop} {h : Heap} {g : Array GenState} {d : Drawn} {t : Nat} {os : OsState} {a D : Addr} {o : Obj} {K : PySem.W.Frag}
end
end L2
set_option Elab.async false
set_option linter.all false
set_option maxRecDepth 100000
set_option maxHeartbeats 4000000
namespace L2
open PySem PySem.Spec PyProof.Rows
section
variable {P : Program} {w : World} {outer : List Env} {H H' : Hp} {s s' : Shared} {x D : Addr} {a0 : Value} {B : Heap}
end
section
variable {X : Cx} {pins : List (Addr × Obj)} {σ : St} {H H' : Hp} {s s' : Shared} {x D : Addr} {a0 : Value} {B h2 : Heap}
end
section
variable {P : Program} {w : World} {K : PySem.W.Frag} {mg : Str → Option Value} {base : Heap} {N : List Str} {qual : Str} {scope : Scope} {f : Addr} {cdv : Value} {A : Around} {outer : List Env} {s0 : Shared} {H0 : Hp} {E : XK}
end
section
variable {P : Program} {w : World} {K : PySem.W.Frag} {mg : Str → Option Value} {base : Heap}
end
end L2
set_option Elab.async false
set_option linter.all false
set_option maxRecDepth 100000
set_option maxHeartbeats 4000000
namespace L2
open PySem PySem.Spec PyProof.Rows
structure XHd (K : PySem.W.Frag) (C : Addr) : Prop where
  isc : (PySem.W.clsIn K C).isSome = true
  ty : PySem.W.typeIn K (.ref C) = some (.type "type")
  mb : PySem.W.mroIn K C (.type "BaseException") = some true
section
variable {X : Cx} {pins : List (Addr × Obj)} {σ : St} {H H' H1 : Hp} {s s' s1 : Shared} {x D C : Addr} {a0 : Value} {B h2 : Heap}
end
end L2
set_option Elab.async false
set_option linter.all false
set_option maxRecDepth 100000
set_option maxHeartbeats 4000000
namespace L2
open PySem PySem.Spec PyProof.Rows
section
variable {X : Cx} {pins : List (Addr × Obj)} {σ : St} {H H' H1 : Hp} {s s' s1 : Shared} {x D C : Addr} {a0 : Value} {B h2 : Heap} {cn en : Str} {ie : Nat} {b₀ : Stmt} {suite : List Stmt} {cp hp : Pos} {ts : TS} {DE : Ends}
end
section
variable {X : Cx} {k ie : Nat} {f C : Addr} {fd : FuncData} {ps : List Str} {sp : Sp} {dvs : List V} {ds : List Value} {fx cn en : Str} {p pos p2 cp hp tp : Pos} {e : Expr} {es : List Expr} {t : TA} {b₀ : Stmt} {suite : List Stmt} {ts : TS}
end
section
variable {X : Cx}
end
end L2
set_option Elab.async false
set_option linter.all false
set_option maxRecDepth 100000
set_option maxHeartbeats 4000000
namespace L2
open PySem PySem.Spec PyProof.Rows
section
variable {prog : Program} {w : World} {A : Around} {E : Value → Shared → Prop} {h : Heap} {g : Array GenState} {d : Drawn} {t : Nat} {os : OsState} {a D dx : Addr} {o : Obj} {vs : Array Value} {cd : ClassData} {K : PySem.W.Frag} {name : Str} {mA : Str → Option Value} {v : Value}
noncomputable abbrev bmV : List Value := [.type "ValueError", .type "Exception", .type "BaseException", .type "object"]
end
section
variable {prog : Program} {w : World} {A : Around} {E : Value → Shared → Prop} {h : Heap} {g : Array GenState} {d : Drawn} {t : Nat} {os : OsState}
variable {nm q : Str} {C N fI : Addr} {bs bm bmB : List Value} {hdct : Bool} {sn : List Str} {sub : List Value} {ab : Bool} {col : Option Bool} {dd : Option Addr} {k0 k1 k2 k3 k5 : Option Value} {B newId initId : String} {mN : Str → Option Value} {rest : List Value} {oI : Obj}
end
end L2
set_option Elab.async false
set_option linter.all false
set_option maxRecDepth 100000
set_option maxHeartbeats 4000000
namespace L2
open PySem PySem.Spec PyProof.Rows
section
variable {P : Program} {w : World} {H : Hp} {h : Heap} {a D dx : Addr} {fs : List (Str × V)}
end
section
variable {X : Cx} {pins : List (Addr × Obj)} {σ : St} {H : Hp} {s : Shared} {h' : Heap} {x dx D : Addr} {φ : Heap → Prop} {ox od : HO}
end
section
variable {X : Cx} {o e value : Expr} {f : Str} {pos pos' tpos : Pos} {ta tv : TE}
end
end L2
set_option Elab.async false
set_option linter.all false
set_option maxRecDepth 100000
set_option maxHeartbeats 4000000
namespace L2
open PySem PySem.Spec PyProof.Rows
noncomputable def xIn (K : PySem.W.Frag) (C : Addr) (fI : Option Value) : Bool := match K.lookup C with
  | some ⟨.type "type", _, .cls cd, sl⟩ => (match cd.mro, sl.toList with
    | .ref C' :: bm, [_, _, _, _, some (.builtin n), _] => C' == C && n == "ValueError.__new__" && !cd.hasDel && PySem.W.tailIn K bmV bm && PySem.W.nsOkIn K cd.ns && PySem.W.nsIn K cd.ns "__init__" == some fI
    | _, _ => false)
  | _ => false
noncomputable def xcIn (K : PySem.W.Frag) (D : Addr) : Bool := PySem.W.findIn K (.ref D) "__getattribute__" == some (some (.builtin "BaseException.__getattribute__")) && PySem.W.findIn K (.ref D) "__getattr__" == some none &&
  PySem.W.findIn K (.ref D) "__class__" == some (some (.builtin "object.__class__")) && PySem.W.mroIn K D (.type "BaseException") == some true && PySem.W.mroIn K D (.type "object") == some true && (PySem.W.clsIn K D).isSome && PySem.W.typeIn K (.ref D) == some (.type "type")
theorem xc_of {K : PySem.W.Frag} {D : Addr} (h : xcIn K D = true) : XCls K D := by
  unfold xcIn at h
  simp only [Bool.and_eq_true, beq_iff_eq] at h
  obtain ⟨⟨⟨⟨⟨⟨h1, h2⟩, h3⟩, h4⟩, h5⟩, h6⟩, h7⟩ := h
  exact ⟨h1, h2, h3, h4, h5, h6⟩
theorem xh_of {K : PySem.W.Frag} {D : Addr} (h : xcIn K D = true) : XHd K D := by
  unfold xcIn at h
  simp only [Bool.and_eq_true, beq_iff_eq] at h
  obtain ⟨⟨⟨⟨⟨⟨h1, h2⟩, h3⟩, h4⟩, h5⟩, h6⟩, h7⟩ := h
  exact ⟨h6, h7, h4⟩
section
variable {P : Program} {w : World} {K : PySem.W.Frag} {mg : Str → Option Value} {base : Heap} {N : List Str} {qual : Str} {scope : Scope} {f : Addr} {cdv : Value} {A : Around} {outer : List Env} {s0 : Shared} {H0 : Hp} {E : XK}
end
section
variable {X : Cx} {k : Nat} {f C : Addr} {fd : FuncData} {ps : List Str} {sp : Sp} {x : Str} {p pos : Pos} {e : Expr} {es : List Expr} {t : TA}
end
end L2
set_option Elab.async false
set_option linter.all false
set_option maxRecDepth 100000
set_option maxHeartbeats 4000000
namespace L2
open PySem PySem.Spec PyProof.Rows
section
variable {prog : Program} {w : World} {KT : Type} [DecidableEq KT] {knd : KeyKind prog w KT} {A : Around} {E : Value → Shared → Prop} {s : Shared} {d : Addr} {kvs : List (KT × Value)} {k : KT} {key dflt : Value}
end
section
variable {X : Cx}
end
end L2
set_option Elab.async false
set_option linter.all false
set_option maxRecDepth 100000
set_option maxHeartbeats 4000000
namespace L2
open PySem PySem.Spec PyProof.Rows
section
variable {X : Cx} {o e : Expr} {es : List Expr} {to : TE} {t : TA} {apos cpos : Pos}
end
section
variable {X : Cx} {o e : Expr} {es : List Expr} {to : TE} {t : TA} {apos cpos : Pos}
end
end L2
set_option Elab.async false
set_option linter.all false
set_option maxRecDepth 100000
set_option maxHeartbeats 4000000
namespace L2
open PySem PySem.Spec PyProof.Rows
theorem vals_at : ∀ {xs : List V} {us : List Value}, xs.length = us.length → (∀ (i : Nat) x u, xs[i]? = some x → us[i]? = some u → RelV x u) → Vals xs us
  | [], [], _, _ => .nil
  | x :: xs, u :: us, h, r => .cons (r 0 x u rfl rfl) (vals_at (by simpa using h) fun i y w h1 h2 => r (i + 1) y w (by simpa using h1) (by simpa using h2))
  | [], _ :: _, h, _ => by cases h
  | _ :: _, [], h, _ => by cases h
section
variable {X : Cx}
theorem call_rng1 : CallR X (.type "range") (fun xs H Q => ∃ b, xs = [.int b] ∧ ∀ p, H p = none → Q (.ref p) (upd H p (.rng 0 b))) := by
  intro pins s σ H xs us Q I r h
  obtain ⟨b, rfl, q⟩ := h
  obtain ⟨u, rfl, ⟨t, rfl⟩⟩ := vals1 r
  refine call_range_1 ?_
  exact ⟨.ref s.heap.objs.size, _, I.laid (o := .rng 0 b) (fun b o e => Heap.get?_push_of_some _ e) (Nat.le_refl _) ⟨_, _, _, Heap.get?_push_size _ rfl⟩, rfl, q _ (I.hok.fresh (Nat.le_refl _))⟩
end
end L2
set_option Elab.async false
set_option linter.all false
set_option maxRecDepth 100000
set_option maxHeartbeats 4000000
namespace L2
open PySem PySem.Spec PyProof.Rows
section
variable {M : Model} {A : Around} {E : Value → Shared → Prop} {s : Shared} {env : Env} {K : PySem.W.Frag} {D : Addr}
end
end L2
set_option Elab.async false
set_option linter.all false
set_option maxRecDepth 100000
set_option maxHeartbeats 4000000
namespace L2
open PySem PySem.Spec PyProof.Rows
section
variable {M : Model} {A : Around} {E : Value → Shared → Prop} {s : Shared} {base : Heap} {env : Env} {outer : List Env} {L e : Addr} {ob : Obj} {fs : Array Value} {head : Value} {more : Bool}
end
end L2
set_option Elab.async false
set_option linter.all false
set_option maxRecDepth 100000
set_option maxHeartbeats 4000000
namespace L2
open PySem PySem.Spec PyProof.Rows
section
variable {M : Model} {A : Around} {E : Value → Shared → Prop} {s : Shared} {base : Heap} {env : Env} {outer : List Env} {L e T : Addr} {ob : Obj} {fs : Array Value} {cls fl : Value} {dct : Option Addr}
end
end L2
set_option Elab.async false
set_option linter.all false
set_option maxRecDepth 100000
set_option maxHeartbeats 4000000
namespace L2
open PySem PySem.Spec PyProof.Rows
section
variable {P : Program} {w : World} {K : PySem.W.Frag} {mg : Str → Option Value} {base : Heap} {N : List Str} {qual : Str} {scope : Scope} {f : Addr} {cdv : Value} {A : Around} {outer : List Env} {s0 : Shared} {H0 : Hp} {E : XK}
end
section
variable {P : Program} {w : World} {K : PySem.W.Frag} {mg : Str → Option Value} {base : Heap}
end
end L2
set_option Elab.async false
set_option linter.all false
set_option maxRecDepth 100000
set_option maxHeartbeats 4000000
namespace L2
open PySem PySem.Spec PyProof.Rows
section
variable {P : Program} {w : World} {K : PySem.W.Frag} {mg : Str → Option Value} {base : Heap} {N : List Str} {qual : Str} {scope : Scope} {f : Addr} {cdv : Value} {A : Around} {outer : List Env} {s0 : Shared} {H0 : Hp} {E : XK}
end
end L2
set_option Elab.async false
set_option linter.all false
set_option maxRecDepth 100000
set_option maxHeartbeats 4000000
namespace L2
open PySem PySem.Spec PyProof.Rows
section
variable {X : Cx} {pins : List (Addr × Obj)} {σ : St} {H H' : Hp} {s s' : Shared} {x D C T T2 : Addr} {dct : Option Addr} {fl : Value} {h2 : Heap} {xs : List Addr}
end
section
variable {X : Cx} {pins : List (Addr × Obj)} {σ : St} {H H' : Hp} {s s' : Shared} {x D C T : Addr} {dct : Option Addr} {cn en : Str} {ie : Nat} {b₀ : Stmt} {suite : List Stmt} {cp hp : Pos} {ts : TS} {DE : Ends}
end
end L2
set_option Elab.async false
set_option linter.all false
set_option maxRecDepth 100000
set_option maxHeartbeats 4000000
namespace L2
open PySem PySem.Spec PyProof.Rows
section
variable {X : Cx} {k ie : Nat} {f C : Addr} {fd : FuncData} {ps : List Str} {sp : Sp} {dvs : List V} {ds : List Value} {fx cn en : Str} {p pos p2 cp hp tp : Pos} {e : Expr} {es : List Expr} {t : TA} {b₀ : Stmt} {suite : List Stmt} {ts : TS}
end
end L2
set_option linter.all false
namespace FrM
noncomputable def Bt (n : Nat) (i : Int) : Prop := i.natAbs < 2 ^ n
theorem Bt.mono {m n : Nat} {i : Int} (h : Bt m i) (l : m ≤ n) : Bt n i := Nat.lt_of_lt_of_le h (Nat.pow_le_pow_right (by decide) l)
end FrM
set_option linter.all false
set_option maxRecDepth 100000
namespace L2
open PySem PySem.Spec PyProof.Rows FrM
section
variable {X : Cx}
noncomputable def CMulB (i j : Int) : Prop := (Bt 8000 i ∧ Bt 8000 j) ∨ CMul i j
theorem CMulB.ok {i j : Int} (h : CMulB i j) : IntMulOk i j := by
  rcases h with ⟨h1, h2⟩ | h
  · exact IntMulOk.of_le (m := 8000) (n := 8000) (intBits_le_iff.mpr h1) (intBits_le_iff.mpr h2) (by decide)
  · exact h.ok
noncomputable def CDivB (i j : Int) : Prop := 0 < j ∧ Bt 8000 j
theorem CDivB.no {i j : Int} (h : CDivB i j) : Builtin.divisionGoesByPylong i j = false := by
  refine PyProof.noPylong_of_log2 ?_
  have h2 : j.natAbs < 2 ^ 8000 := h.2
  by_cases h0 : j.natAbs = 0
  · rw [h0]; decide +kernel
  · have : j.natAbs.log2 < 8000 := (Nat.log2_lt h0).mpr h2
    lia
theorem op_mulB : OpR X (binaryOp .Mult) (rI CMulB fun i j => .int (i * j)) := opI fun _ _ _ _ _ _ _ hc q => mul_int q hc.ok
theorem op_fdivB : OpR X (binaryOp .FloorDiv) (rI CDivB fun i j => .int (i / j)) := opI fun i j _ _ _ _ _ hc q => by
  have h1 : (0 : Int) < j := hc.1
  exact floordiv_int (by lia) (by rw [Int.fdiv_eq_ediv_of_nonneg i (by lia)]; exact q) (.inl hc.no)
theorem o_mulB : OpR X (binaryOp .Mult) (rIC CMulB fun i j => .int (i * j)) := op_mulB.ic
theorem o_fdivB : OpR X (binaryOp .FloorDiv) (rIC CDivB fun i j => .int (i / j)) := op_fdivB.ic
theorem clB {i j : Int} (h : -(2 ^ 64) < i := by decide) (h2 : i < 2 ^ 64 := by decide) : CMulB i j := .inr (cl h h2)
theorem crB {i j : Int} (h : -(2 ^ 64) < j := by decide) (h2 : j < 2 ^ 64 := by decide) : CMulB i j := .inr (cr h h2)
theorem cdB {i j : Int} {n : Nat} (h : 0 < j) (h' : Bt n j) (hn : n ≤ 8000 := by decide) : CDivB i j := ⟨h, h'.mono hn⟩
end
end L2
set_option Elab.async false
set_option linter.all false
set_option maxRecDepth 100000
set_option maxHeartbeats 4000000
namespace L2
open PySem PySem.Spec PyProof.Rows
noncomputable def isSt : Expr → Bool
  | .Starred .. => true
  | _ => false
theorem star_cons {e : Expr} {es : List Expr} {env : Env} (h : isSt e = false) : starEach (e :: es) env = (false, eval e env) :: starEach es env := by
  cases e <;> first | rfl | cases h
theorem pa_consQ {X : Cx} {e : Expr} {es : List Expr} {te : TE} {t : TA} (ha : PE X e te) (hr : PA X es t) (h : isSt e = false := by rfl) : PA X (e :: es) (tCons te t) := pa_cons ha hr (star_cons h)
theorem FnOk.or {P : Program} {w : World} {K : PySem.W.Frag} {mg : Str → Option Value} {base : Heap} {CX : CXT} {k : Nat} {f : Addr} {fd : FuncData} {ps : List Str} {sp sp' : Sp} (F : FnOk P w K mg base CX k f fd ps sp) (F' : FnOk P w K mg base CX k f fd ps sp') :
    FnOk P w K mg base CX k f fd ps (fun vs H Q E => sp vs H Q E ∨ sp' vs H Q E) :=
  ⟨fun vs H Q E h => h.elim (F.len vs H Q E) (F'.len vs H Q E), fun A outer s H args us vs Q E hr he hb hv hs => hs.elim (F.run A outer s H args us vs Q E hr he hb hv) (F'.run A outer s H args us vs Q E hr he hb hv)⟩
section
variable {X : Cx} {k ie ir : Nat} {f C : Addr} {fd : FuncData} {ps : List Str} {sp : Sp} {dvs : List V} {ds : List Value} {fx cn en rn : Str} {p pos p2 p3 cp hp tp : Pos} {e : Expr} {es : List Expr} {t : TA} {b₀ : Stmt} {suite : List Stmt} {ts : TS}
end
end L2
set_option Elab.async false
set_option linter.all false
set_option maxRecDepth 100000
set_option maxHeartbeats 4000000
namespace HT
open PySem PySem.Spec PyProof.Rows
section
variable {prog : Program} {w : World} {A : Around} {E : Value → Shared → Prop} {s : Shared}
end
end HT
namespace L2
open PySem PySem.Spec PyProof.Rows
section
variable {X : Cx}
end
end L2
set_option Elab.async false
set_option linter.all false
set_option maxRecDepth 100000
namespace L2
open PySem PySem.Spec PyProof.Rows
theorem draw_lst {prog : Program} {w : World} {A : Around} {E : Value → Shared → Prop} {it l : Addr} {items : Array Value} (hne : l ≠ it) : ∀ (n i : Nat) (s : Shared) (Q : List Value → Shared → Prop),
    s.heap.IsListIter it l i → s.heap.IsList l items → i + n ≤ items.size →
    (∀ h' : Heap, h'.IsListIter it l (i + n) → Heap.SameBut it s.heap h' → Q ((items.toList.drop i).take n) { s with heap := h' }) →
    wpAny (model prog w) A (draw (.ref it) n) Q E s
  | 0, i, s, Q, hi, hl, hle, q => by
    have q0 := q s.heap hi (by constructor <;> intros <;> first | rfl | assumption)
    rw [List.take_zero] at q0
    exact wpAny_pure q0
  | n + 1, i, s, Q, hi, hl, hle, q => by
    have hlt : i < items.size := by lia
    have hx : items[i]? = some items[i] := by simp [hlt]
    refine wpAny_bind (wpAny_pyNext_list_item hi hl hx fun h1 hi1 hs1 => ?_)
    refine wpAny_bind (wpAny_holding (draw_lst hne n (i + 1) _ _ hi1 (hl.extBut hs1.extBut hne) (by lia) fun h2 hi2 hs2 => ?_))
    refine wpAny_pure ?_
    have hi2' : h2.IsListIter it l (i + (n + 1)) := by rw [show i + (n + 1) = i + 1 + n by lia]; exact hi2
    have q1 := q h2 hi2' (hs1.trans hs2)
    have e : (items.toList.drop i).take (n + 1) = items[i] :: (items.toList.drop (i + 1)).take n := by
      rw [List.drop_eq_getElem_cons (by simpa using hlt), List.take_succ_cons]
      simp
    rw [e] at q1
    exact q1
theorem unpackItems_lst {prog : Program} {w : World} {A : Around} {E : Value → Shared → Prop} {s : Shared} {l : Addr} {items : Array Value} {Q : List Value → Shared → Prop} (hh : A.handled = none) (hl : s.heap.IsList l items)
    (q : ∀ h' : Heap, Heap.ExtBut s.heap.objs.size s.heap h' → Q items.toList { s with heap := h' }) : wpAny (model prog w) A (unpackItems (.ref l) items.size none) Q E s := by
  have hlt : l ≠ s.heap.objs.size := by
    obtain ⟨o, ho, _⟩ := hl
    exact Nat.ne_of_lt (Heap.lt_size ho)
  unfold unpackItems
  refine wpAny_bind ?_
  unfold notIterableAtAll
  refine wpAny_bind (wpAny_specialOf (Heap.IsList.typeIs hl) F.slot_list_iter.lookup (wpAny_pure ?_))
  simp only [Bool.false_eq_true, if_false]
  refine wpAny_bind (wpAny_holding (wpAny_pyIter_list hl ?_))
  have hl1 := hl.push { cls := Value.type "list_iterator", data := Data.fields #[Value.ref l, Value.int 0 0] }
  have hi1 : (s.heap.push { cls := Value.type "list_iterator", data := Data.fields #[Value.ref l, Value.int 0 0] }).IsListIter s.heap.objs.size l 0 := ⟨_, Heap.get?_push_size _ rfl, rfl, rfl⟩
  refine wpAny_bind (wpAny_holding (draw_lst hlt items.size 0 _ _ hi1 hl1 (by lia) fun h2 hi2 hs2 => ?_))
  have e : (items.toList.drop 0).take items.size = items.toList := by rw [List.drop_zero]; exact List.take_of_length_le (by simp)
  rw [e, if_neg (by simp)]
  refine wpAny_bind (wpAny_holding (wpAny_pyNext_list_end hh hi2 (hl1.extBut hs2.extBut hlt) (by simp) fun h3 hs3 => ?_))
  exact wpAny_pure (q h3 fun b o hb e => hs3 b o hb (hs2.extBut b o hb (Heap.get?_push_of_some _ e)))
section
variable {X : Cx} {pos : Pos}
noncomputable def gLst (K : PySem.W.Frag) (n : Nat) (t : TGs) : TG := fun v σ H Q => ∃ a xs, v = .ref a ∧ SqL K H a xs ∧ xs.length = n ∧ t xs σ H Q
theorem pg_lst {es : List Expr} {k : Nat} {t : TGs} {n : Nat} (hc : X.calm = true) (h : PGs X es t)
    (hn : (assignEach es X.env).length = n := by rfl) (hst : (assignEach es X.env).findIdx? (·.1) = none := by rfl) : PG X (.Tuple es k pos) (gLst X.K n t) := by
  intro pins s σ H v u Q I r hw
  obtain ⟨a, xs, e1, hq, hl, hw⟩ := hw
  subst e1
  cases r
  obtain ⟨its, rv, ⟨o, nn, e, c1, c2, d⟩, hz⟩ := I.list hq
  have hL : s.heap.IsList a its.toArray := ⟨o, e, c1, nn, d⟩
  rw [arm_assign_Tuple]
  refine wpAny_bind (wpAny_standAt ?_)
  unfold unpack
  refine wpAny_bind (wpAny_holding ?_)
  rw [hst]
  have en : (assignEach es X.env).length = its.toArray.size := by simp [hn, ← hl, rv.length]
  rw [en]
  refine unpackItems_lst (I.ok.hd hc) hL fun h' hx => ?_
  have I1 : Inv X pins σ H { s with heap := h' } := I.kept (t' := s.toks) fun b o e => hx b o (Nat.ne_of_lt (Heap.lt_size e)) e
  exact h pins _ σ H xs _ Q I1 (by simpa using rv) hw
end
end L2
set_option Elab.async false
set_option linter.all false
set_option maxRecDepth 100000
namespace L2
open PySem PySem.Spec PyProof.Rows
section
variable {X : Cx}
noncomputable def rGetL (K : PySem.W.Frag) : V → V → Hp → VK → Prop := fun o i H Q => ∃ (p : Addr) (xs : List V) (k : Int) (v : V), o = .ref p ∧ i = .int k ∧ SqL K H p xs ∧ 0 ≤ k ∧ atI xs k = some v ∧ Q v H
theorem get_list : PGet X (rGetL X.K) := by
  intro pins s σ H o i ov iv Q I ro ri h
  obtain ⟨p, xs, k, z, rfl, rfl, hq, h0, he, q⟩ := h
  cases ro
  obtain ⟨t, rfl⟩ := ri
  obtain ⟨its, r, pl, hz⟩ := I.list hq
  obtain ⟨j, h1, h2, h3, h4, h5⟩ := atI_get he
  obtain ⟨w, ew, rw'⟩ := r.get h2
  have hl := r.length
  have hn := line63
  have hj : k.toNat = j := by
    rw [seqIndex_of h0 h5] at h1
    exact Option.some.inj h1
  have fin : EP X pins σ Q w s := ⟨z, H, I, rw', q⟩
  exact wpAny_getItem_list pl.isList h0 (by lia) (by rw [hj]; simpa using ew) fin
end
end L2
set_option linter.all false
namespace FrM
end FrM
set_option Elab.async false
set_option linter.all false
set_option maxRecDepth 100000
set_option maxHeartbeats 4000000
namespace L2
open PySem PySem.Spec PyProof.Rows
section
variable {X : Cx}
theorem bt_sum : bootBuiltins "sum" = some (.builtin "sum") := by decide +kernel
theorem ints_are : ∀ {ns : List Int} {us : List Value}, Vals (ns.map V.int) us → IntsAre us ns
  | [], _, .nil => .nil
  | n :: ns, _, .cons r t => by
    obtain ⟨t', rfl⟩ := r
    exact .cons _ _ (ints_are t)
inductive rSumI (K : PySem.W.Frag) (xs : List V) (H : Hp) (Q : VK) : Prop
  | mk (p : Addr) (ns : List Int) (h0 : xs = [.ref p]) (h1 : SqL K H p (ns.map V.int)) (h2 : Q (.int ns.sum) H) : rSumI K xs H Q
theorem call_sumI (hc : X.calm = true) : CallR X (.builtin "sum") (rSumI X.K) := by
  intro pins s σ H xs us Q I r h
  obtain ⟨p, ns, rfl, hq, q⟩ := h
  obtain ⟨u, rfl, rx⟩ := vals1 r
  cases rx
  obtain ⟨its, rv, pl, hz⟩ := I.list hq
  have hi := ints_are rv
  obtain ⟨xs, ex⟩ := hi.allInts.items
  have e2 : (numsOf its) = ns := hi.numsOf
  refine sum_intListG (I.ok.hd hc) (xs := xs) (by rw [← ex]; exact pl.isList) fun h' tk t' hk => ?_
  have e3 : preSum (numAt xs) xs.size = ns.sum := by
    rw [preSum_eq, List.take_of_length_le (by simp), ← e2, ← nums_intItems, ← ex]
  rw [e3]
  exact ⟨.int ns.sum, H, I.kept hk, ⟨_, rfl⟩, q⟩
theorem call_lstRngN (hc : X.calm = true) : CallR X (.type "list") (fun xs H Q => ∃ (p : Addr) (n : Nat), xs = [.ref p] ∧ n ≤ 1000 ∧ H p = some (.rng 0 (n : Int)) ∧ ∀ l, H l = none → Q (.ref l) (upd H l (.lst ((List.range n).map fun (i : Nat) => V.int (i : Int))))) := by
  intro pins s σ H xs us Q I r h
  obtain ⟨p, n, rfl, hn, e, q⟩ := h
  obtain ⟨u, rfl, ru⟩ := vals1 r
  cases ru
  obtain ⟨t, t2, t3, ho⟩ := (show ObjOk X.prog X.w H s.heap p (.rng 0 (n : Int)) from I.hok p _ e)
  refine call_list_range (n := n) (I.ok.hd hc) ho (small_one (by decide) (by decide) (by lia) (by lia)) (by rw [rangeSize_one]; split <;> lia) (by lia) fun h' tk acc c hk hS hI => ?_
  refine ⟨.ref s.heap.objs.size, _, I.laid (t' := tk) (o := .lst ((List.range n).map fun (i : Nat) => V.int (i : Int))) hk (Nat.le_refl _) ?_, rfl, q _ (I.hok.fresh (Nat.le_refl _))⟩
  obtain ⟨z1, z2⟩ := hI
  refine ⟨by rw [List.length_map, List.length_range, sizeLine_eq]; lia, acc.toList, c, vals_at (by rw [List.length_map, List.length_range]; simpa using z1.symm) fun i x u hx hu => ?_, hS⟩
  rw [List.getElem?_map] at hx
  have hi : i < n := by
    by_cases hi : i < n
    · exact hi
    · rw [List.getElem?_eq_none (by rw [List.length_range]; lia)] at hx
      cases hx
  rw [List.getElem?_range hi] at hx
  cases hx
  obtain ⟨tt, hv⟩ := z2 i u (by simpa using hu)
  refine (show ∃ t', u = Value.int (i : Int) t' from ⟨tt, ?_⟩)
  rw [hv]
  congr 1
  lia
end
end L2
set_option Elab.async false
set_option linter.all false
set_option maxRecDepth 100000
set_option maxHeartbeats 4000000
namespace L2
open PySem PySem.Spec PyProof.Rows
section
variable {X : Cx}
end
end L2
set_option Elab.async false
set_option linter.all false
set_option maxRecDepth 100000
set_option maxHeartbeats 4000000
namespace L2
open PySem PySem.Spec PyProof.Rows
structure LamD where
  qual : Str
  params : Arguments
  body : Expr
  scope : Scope
noncomputable def LamX (f : Addr) (d : LamD) (clos : List (Str × Addr)) (c : Addr) : Heap → Prop := fun h => ∃ pm ctv, h.get? f = some (PySem.W.kla_obj "<lambda>" d.qual d.params d.body d.scope clos pm c ctv)
noncomputable def CellX (c : Addr) (v : V) : Heap → Prop := fun h => ∃ o u, h.get? c = some o ∧ o.data = .cell (some u) ∧ RelV v u
noncomputable def CodeX (c : Addr) (q : Str) : Heap → Prop := fun h => ∃ o vs t, h.get? c = some o ∧ o.data = .fields vs ∧ vs[1]? = some (.str q t)
section
variable {P : Program} {w : World} {H : Hp} {h : Heap}
theorem lamX_ok {f : Addr} {d : LamD} {clos : List (Str × Addr)} {c : Addr} {pm ctv : Value} (e : h.get? f = some (PySem.W.kla_obj "<lambda>" d.qual d.params d.body d.scope clos pm c ctv)) : ObjOk P w H h f (.ext (LamX f d clos c)) :=
  ⟨⟨pm, ctv, e⟩, ⟨_, e⟩, fun h1 h2 ⟨pm, ctv, e1⟩ k => ⟨pm, ctv, k _ e1⟩⟩
theorem cellX_ok {c : Addr} {v : V} (x : CellX c v h) : ObjOk P w H h c (.ext (CellX c v)) :=
  ⟨x, let ⟨o, _, e, _⟩ := x; ⟨o, e⟩, fun h1 h2 ⟨o, u, e1, r⟩ k => ⟨o, u, k _ e1, r⟩⟩
theorem codeX_ok {c : Addr} {q : Str} (x : CodeX c q h) : ObjOk P w H h c (.ext (CodeX c q)) :=
  ⟨x, let ⟨o, _, _, e, _⟩ := x; ⟨o, e⟩, fun h1 h2 ⟨o, vs, t, e1, r⟩ k => ⟨o, vs, t, k _ e1, r⟩⟩
end
noncomputable def notT : HO → Bool
  | .tbl _ => false
  | _ => true
noncomputable def SameT (H H' : Hp) : Prop := ∀ b o, H b = some o → (notT o = true → H' b = some o) ∧ ∃ o', H' b = some o'
theorem SameT.refl {H : Hp} : SameT H H := fun b o e => ⟨fun _ => e, o, e⟩
theorem SameT.trans {H H1 H2 : Hp} (a : SameT H H1) (b : SameT H1 H2) : SameT H H2 := fun c o e => by
  obtain ⟨f, o', e'⟩ := a c o e
  obtain ⟨g, o2, e2⟩ := b c o' e'
  exact ⟨fun n => (b c o (f n)).1 n, o2, e2⟩
theorem Same.t {H H' : Hp} (s : Same H H') : SameT H H' := fun b o e => ⟨fun _ => s b o e, o, s b o e⟩
theorem SameT.at {H H' : Hp} (s : SameT H H') {a : Addr} {o : HO} (e : H a = some o) (n : notT o = true := by rfl) : H' a = some o := (s a o e).1 n
theorem SameT.free {H H' : Hp} (s : SameT H H') {a : Addr} (e : H' a = none) : H a = none := by
  cases q : H a with
  | none => rfl
  | some o => obtain ⟨_, o', e'⟩ := s a o q; rw [e] at e'; cases e'
noncomputable def TabOk (H : Hp) (P : Addr) (ls : List (Pos × Str)) : Prop := ∃ ps, H P = some (.tbl ps) ∧ TriplesOk ps.toList ∧ ∀ l ∈ ls, codeAmong l.1 ps.toList = none ∨ ∃ c, codeAmong l.1 ps.toList = some (.ref c) ∧ H c = some (.ext (CodeX c l.2))
noncomputable abbrev Tabs := List (Addr × List (Pos × Str))
noncomputable def TabsOk (tabs : Tabs) (H : Hp) : Prop := ∀ q ∈ tabs, TabOk H q.1 q.2
theorem TabsOk.same {tabs : Tabs} {H H' : Hp} (t : TabsOk tabs H) (s : Same H H') : TabsOk tabs H' := fun q hq => by
  obtain ⟨ps, e1, e2, e3⟩ := t q hq
  exact ⟨ps, s _ _ e1, e2, fun l hl => (e3 l hl).imp id fun ⟨c, a, b⟩ => ⟨c, a, s _ _ b⟩⟩
theorem among_other {p p' : Pos} {c : Value} (l : List Value) (h : TriplesOk l) (hn : ¬ (p.line = p'.line ∧ p.col = p'.col)) : codeAmong p' (l ++ [rawInt p.line, rawInt p.col, c]) = codeAmong p' l := by
  fun_induction TriplesOk l with
  | case1 =>
    simp only [List.nil_append, codeAmong, rawInt]
    rw [if_neg]
    intro z
    rw [Bool.and_eq_true, beq_iff_eq, beq_iff_eq] at z
    exact hn ⟨by lia, by lia⟩
  | case2 a t b u x rest ih =>
    simp only [List.cons_append, codeAmong]
    rw [ih h]
  | case3 => exact h.elim
theorem triples_snoc {p : Pos} {c : Value} (l : List Value) (h : TriplesOk l) : TriplesOk (l ++ [rawInt p.line, rawInt p.col, c]) := by
  fun_induction TriplesOk l with
  | case1 => simp [TriplesOk, rawInt]
  | case2 a t b u x rest ih => exact ih h
  | case3 => exact h.elim
noncomputable def Bm (mg : Str → Option Value) (base : Heap) : Prop := ∃ bm ob, mg "__builtins__" = some (.ref bm) ∧ base.get? bm = some ob ∧ ob.cls = .type "module" ∧ ob.dict = some builtinsNs ∧ ob.data = .plain
noncomputable def tLam (tabs : Tabs) (d : LamD) (clos : List (Str × Addr)) : TE := fun σ H Q => TabsOk tabs H ∧ ∀ f c H1, SameT H H1 → TabsOk tabs H1 → H f = none → H1 f = some (.ext (LamX f d clos c)) → H1 c = some (.ext (CodeX c d.qual)) → Q (.ref f) H1
end L2
set_option Elab.async false
set_option linter.all false
set_option maxRecDepth 100000
set_option maxHeartbeats 4000000
namespace L2
open PySem PySem.Spec PyProof.Rows
theorem fst_inj {α β : Type} : ∀ {l : List (α × β)}, (l.map (·.1)).Nodup → ∀ x ∈ l, ∀ y ∈ l, x.1 = y.1 → x = y
  | [], _, x, hx, _, _, _ => by cases hx
  | a :: r, nd, x, hx, y, hy, e => by
    rw [List.map_cons, List.nodup_cons] at nd
    rcases List.mem_cons.mp hx with rfl | hx' <;> rcases List.mem_cons.mp hy with rfl | hy'
    · rfl
    · exact absurd (List.mem_map.mpr ⟨y, hy', e.symm⟩) nd.1
    · exact absurd (List.mem_map.mpr ⟨x, hx', e⟩) nd.1
    · exact fst_inj nd.2 x hx' y hy' e
theorem pos_inj : ∀ {l : List (Pos × Str)}, (l.Pairwise fun x y => ¬ (x.1.line = y.1.line ∧ x.1.col = y.1.col)) → ∀ x ∈ l, ∀ y ∈ l, (x.1.line = y.1.line ∧ x.1.col = y.1.col) → x = y
  | [], _, x, hx, _, _, _ => by cases hx
  | a :: r, nd, x, hx, y, hy, e => by
    rw [List.pairwise_cons] at nd
    rcases List.mem_cons.mp hx with rfl | hx' <;> rcases List.mem_cons.mp hy with rfl | hy'
    · rfl
    · exact absurd e (nd.1 y hy')
    · exact absurd ⟨e.1.symm, e.2.symm⟩ (nd.1 x hx')
    · exact pos_inj nd.2 x hx' y hy' e
section
variable {X : Cx} {tabs : Tabs} {P c : Addr} {ls : List (Pos × Str)} {d : LamD} {clos : List (Str × Addr)} {pos : Pos}
theorem pe_lam (hcd : X.env.code = .ref c) (hC : PySem.W.codeHdIn X.K c P = true) (hB : Bm X.mg X.base) (hq : X.env.qual ++ "<lambda>" = d.qual) (hcl : closureFor d.scope X.env = pure clos) (hdef : defaultsOf d.params X.env = ([], []))
    (hm : (P, ls) ∈ tabs) (hl : (pos, d.qual) ∈ ls) (hnd : (tabs.map (·.1)).Nodup) (hps : ls.Pairwise fun x y => ¬ (x.1.line = y.1.line ∧ x.1.col = y.1.col)) : PE X (.Lambda d.params d.body d.scope pos) (tLam tabs d clos) := by
  intro pins s σ H Q I h
  obtain ⟨hT, hQ⟩ := h
  refine PySem.W.kla_eval hdef ?_
  rw [hq]
  obtain ⟨ps, hP, htr, hls⟩ := hT _ hm
  have hgs : s.heap.Ns mainGlobals X.mg := I.mod.glob.keeps I.bk
  have C : PySem.W.CodeHd s.heap c P := PySem.W.codeHd_of_K I.kIn hC
  have hPo : s.heap.get? P = some (PySem.W.tabObj ps) := I.hok P _ hP
  have hgP : mainGlobals ≠ P := fun q => by
    obtain ⟨o, es, ep, e, hd, _⟩ := hgs
    rw [q, hPo] at e; cases e; cases hd
  obtain ⟨bm, ob, b1, b2, b3, b4, b5⟩ := hB
  have bo := I.bk _ _ b2
  have hbP : bm ≠ P := fun q => by
    rw [q, hPo] at bo; cases bo; cases b3
  have hbG : bm ≠ mainGlobals := fun q => by
    obtain ⟨o, es, ep, e, hd, _⟩ := hgs
    rw [q, e] at bo; cases bo; rw [hd] at b5; cases b5
  have hbB : bm ≠ builtinsNs := fun q => by
    obtain ⟨mb, ⟨o, es, ep, e, hd, _⟩, _⟩ := I.mod.blt
    rw [q, e] at b2; cases b2; rw [hd] at b5; cases b5
  have BA : s.heap.BuiltinsAt X.mg P := ⟨bm, ob, b1, hbB, hbG, hbP, bo, b3, b4, b5⟩
  rcases hls _ hl with hn | ⟨c', hc, hHc⟩
  · refine PySem.W.kla_makeFunction (mg := X.mg) hcl I.ok.glob hgs hcd C hPo htr hn hgP BA fun c' ctv h' tk hx hge hlt hrec htb => ?_
    have hc0 : H c' = none := I.hok.fresh hge
    have hf0 : H h'.objs.size = none := I.hok.fresh (Nat.le_trans hge (Nat.le_of_lt hlt))
    have ncf : c' ≠ h'.objs.size := Nat.ne_of_lt hlt
    have nPc : P ≠ c' := ne_of_none hP hc0
    have nPf : P ≠ h'.objs.size := ne_of_none hP hf0
    obtain ⟨f, hf⟩ : ∃ f, f = h'.objs.size := ⟨_, rfl⟩
    obtain ⟨ob', hob⟩ : ∃ o, o = PySem.W.kla_obj "<lambda>" d.qual d.params d.body d.scope clos ((X.mg "__name__").getD .none) c' ctv := ⟨_, rfl⟩
    have hfo : (h'.push ob').get? f = some ob' := by rw [hf, hob]; exact Heap.get?_push_size _ rfl
    have keep : ∀ b o, b ≠ P → s.heap.get? b = some o → (h'.push ob').get? b = some o := fun b o n e => Heap.get?_push_of_some _ (hx b o n e)
    have htb' : (h'.push ob').get? P = some (PySem.W.tabObj (ps ++ #[rawInt pos.line, rawInt pos.col, .ref c'])) := Heap.get?_push_of_some _ htb
    have hcx : CodeX c' d.qual (h'.push ob') := by
      obtain ⟨c2, oc, vs, t, e2, hoc, hdt, hv⟩ := hrec
      cases e2
      exact ⟨oc, vs, t, Heap.get?_push_of_some _ hoc, hdt, hv⟩
    rw [← hf] at hf0 ncf nPf ⊢
    rw [← hob]
    obtain ⟨H1, hH1⟩ : ∃ H1, H1 = upd (upd (upd H P (.tbl (ps ++ #[rawInt pos.line, rawInt pos.col, .ref c']))) c' (.ext (CodeX c' d.qual))) f (.ext (LamX f d clos c')) := ⟨_, rfl⟩
    have gf : H1 f = some (.ext (LamX f d clos c')) := by rw [hH1]; exact upd_same
    have gc : H1 c' = some (.ext (CodeX c' d.qual)) := by rw [hH1, upd_ne ncf]; exact upd_same
    have gP : H1 P = some (.tbl (ps ++ #[rawInt pos.line, rawInt pos.col, .ref c'])) := by rw [hH1, upd_ne nPf, upd_ne nPc]; exact upd_same
    have go : ∀ b, b ≠ P → b ≠ c' → b ≠ f → H1 b = H b := fun b h1 h2 h3 => by rw [hH1, upd_ne h3, upd_ne h2, upd_ne h1]
    have same : ∀ b o, b ≠ P → H b = some o → H1 b = some o := fun b o n e => by rw [go b n (ne_of_none e hc0) (ne_of_none e hf0)]; exact e
    have nt : ∀ b o, H b = some o → (∀ qs, o ≠ .tbl qs) → b ≠ P := fun b o e n z => by rw [z, hP] at e; cases e; exact n ps rfl
    have un : Un X.fs [] H H1 s.heap (h'.push ob') := by
      refine ⟨fun b o e n _ _ => keep b o (fun z => by rw [z, hP] at n; cases n) e, fun b o e n _ _ => ⟨o.slots, keep b o (fun z => by rw [z, hP] at n; cases n) e⟩, fun b o e n _ => ?_, fun b o e _ => ?_, fun b xs e => same b _ (nt b _ e fun _ z => nomatch z) e, fun b o u e => same b _ (nt b _ e fun _ z => nomatch z) e, fun b qs e => ?_⟩
      · have hb : b < s.heap.objs.size := Heap.lt_size e
        rw [go b (fun z => by rw [z, hP] at n; cases n) (Nat.ne_of_lt (Nat.lt_of_lt_of_le hb hge)) (by rw [hf]; exact Nat.ne_of_lt (Nat.lt_of_lt_of_le hb (Nat.le_trans hge (Nat.le_of_lt hlt))))]
        exact n
      · by_cases hb : b = P
        · rw [hb]; exact ⟨_, htb'⟩
        · exact ⟨o, keep b o hb e⟩
      · by_cases hb : b = P
        · rw [hb, hP] at e
          cases e
          rw [hb]
          exact ⟨_, gP⟩
        · exact ⟨#[], by rw [same b _ hb e]; simp⟩
    have hok : HOk X.prog X.w H1 (h'.push ob') := fun a o e => by
      by_cases h1 : a = f
      · subst h1; rw [gf] at e; cases e; exact lamX_ok (by rw [hfo, hob])
      by_cases h2 : a = c'
      · subst h2; rw [gc] at e; cases e; exact codeX_ok hcx
      by_cases h3 : a = P
      · subst h3; rw [gP] at e; cases e; exact htb'
      rw [go a h3 h2 h1] at e
      refine (I.hok a o e).stay (fun b u hb q => keep b u ?_ q) (fun b q => same b _ (nt b _ q fun _ z => nomatch z) q) fun b xs q => same b _ (nt b _ q fun _ z => nomatch z) q
      rcases hb with rfl | hb
      · exact h3
      · exact nt b _ hb fun _ z => nomatch z
    refine ⟨.ref f, H1, I.un (h' := h'.push ob') (t' := tk) un hok, rfl, hQ f c' H1 (fun b o e => ?_) (fun q hq' => ?_) hf0 gf gc⟩
    · by_cases hb : b = P
      · subst hb
        rw [hP] at e
        cases e
        exact ⟨fun z => (Bool.false_ne_true z).elim, _, gP⟩
      · exact ⟨fun _ => same b o hb e, o, same b o hb e⟩
    · by_cases hqP : q.1 = P
      · have hqe : q = (P, ls) := fst_inj hnd q hq' (P, ls) hm hqP
        subst hqe
        refine ⟨_, gP, by rw [Array.toList_append]; exact triples_snoc _ htr, fun l' hl' => ?_⟩
        rw [Array.toList_append]
        by_cases hp : pos.line = l'.1.line ∧ pos.col = l'.1.col
        · have := pos_inj hps (pos, d.qual) hl l' hl' hp
          subst this
          exact .inr ⟨c', codeAmong_snoc _ htr hn, gc⟩
        · have eo := among_other (c := .ref c') ps.toList htr hp
          rcases hls l' hl' with z | ⟨c2, z1, z2⟩
          · exact .inl (eo.trans z)
          · exact .inr ⟨c2, eo.trans z1, same c2 _ (nt c2 _ z2 fun _ z => nomatch z) z2⟩
      · obtain ⟨qs, e1, e2, e3⟩ := hT q hq'
        exact ⟨qs, same _ _ hqP e1, e2, fun l' hl' => (e3 l' hl').imp id fun ⟨c2, z1, z2⟩ => ⟨c2, z1, same c2 _ (nt c2 _ z2 fun _ z => nomatch z) z2⟩⟩
  · refine PySem.W.kla_makeFunctionHit (mg := X.mg) hcl I.ok.glob hgs hcd C hPo htr hc BA fun ctv h' tk hk hsz => ?_
    have hf0 : H h'.objs.size = none := I.hok.fresh hsz
    have sm : Same H (upd H h'.objs.size (.ext (LamX h'.objs.size d clos c'))) := Same.new hf0
    refine ⟨.ref h'.objs.size, _, I.laid (a := h'.objs.size) (o := .ext (LamX h'.objs.size d clos c')) (t' := tk) (fun b u e => Heap.get?_push_of_some _ (hk b u e)) hsz (lamX_ok (Heap.get?_push_size _ rfl)), rfl, hQ _ c' _ sm.t (hT.same sm) hf0 upd_same (sm _ _ hHc)⟩
end
end L2
set_option Elab.async false
set_option linter.all false
set_option maxRecDepth 100000
set_option maxHeartbeats 4000000
namespace L2
open PySem PySem.Spec PyProof.Rows
noncomputable def untrs (H : Hp) (cs : List Addr) : Hp := fun b => if b ∈ cs then none else H b
theorem untrs_in {H : Hp} {cs : List Addr} {b : Addr} (h : b ∈ cs) : untrs H cs b = none := by unfold untrs; rw [if_pos h]
theorem untrs_out {H : Hp} {cs : List Addr} {b : Addr} (h : b ∉ cs) : untrs H cs b = H b := by unfold untrs; rw [if_neg h]
theorem untrs_none {H : Hp} {cs : List Addr} {b : Addr} (h : H b = none) : untrs H cs b = none := by unfold untrs; split <;> first | rfl | exact h
noncomputable abbrev CellsAt (H : Hp) : List (Str × Addr) → List V → Prop := Paired fun (p : Str × Addr) (v : V) => H p.2 = some (.ext (CellX p.2 v))
theorem CellsAt.mem {H : Hp} : ∀ {clos : List (Str × Addr)} {vals : List V}, CellsAt H clos vals → ∀ p ∈ clos, ∃ v, H p.2 = some (.ext (CellX p.2 v))
  | _, _, .nil, p, h => by cases h
  | _, _, .cons r t, p, h => by
    rcases List.mem_cons.mp h with rfl | h
    · exact ⟨_, r⟩
    · exact CellsAt.mem t p h
theorem CellsAt.get {H : Hp} : ∀ {clos : List (Str × Addr)} {vals : List V} {i : Nat} {v : V}, CellsAt H clos vals → vals[i]? = some v → ∃ p, clos[i]? = some p ∧ H p.2 = some (.ext (CellX p.2 v))
  | _, _, _, _, .nil, h => by cases h
  | _, _, 0, _, .cons r t, h => by cases h; exact ⟨_, rfl, r⟩
  | _, _, i + 1, _, .cons r t, h => CellsAt.get (i := i) t h
theorem CellsAt.at {H : Hp} {clos : List (Str × Addr)} {vals : List V} (ca : CellsAt H clos vals) {b : Addr} (hb : b ∈ clos.map (·.2)) : ∃ v, H b = some (.ext (CellX b v)) := by
  obtain ⟨p, hp, rfl⟩ := List.mem_map.mp hb
  exact ca.mem p hp
theorem untrs_of {H : Hp} {clos : List (Str × Addr)} {vals : List V} {b : Addr} {o : HO} (ca : CellsAt H clos vals) (h : H b = some o) (n : ∀ v, o ≠ .ext (CellX b v)) : untrs H (clos.map (·.2)) b = some o := by
  rw [untrs_out fun z => ?_]
  · exact h
  · obtain ⟨v, e⟩ := ca.at z
    rw [h] at e
    exact n v (Option.some.inj e)
theorem lookup_of_mem {α : Type} : ∀ {l : List (Str × α)} {x : Str} {u : α}, (l.map (·.1)).Nodup → (x, u) ∈ l → l.lookup x = some u
  | [], _, _, _, h => by cases h
  | (y, w) :: r, x, u, nd, h => by
    rw [List.map_cons, List.nodup_cons] at nd
    rcases List.mem_cons.mp h with e | h
    · cases e; simp [List.lookup]
    · have : x ≠ y := fun z => nd.1 (List.mem_map.mpr ⟨(x, u), h, z⟩)
      rw [List.lookup_cons, beq_eq_false_iff_ne.mpr this]
      exact lookup_of_mem nd.2 h
theorem nodup_rev {α : Type} {l : List α} (h : l.Nodup) : l.reverse.Nodup := by
  unfold List.Nodup at h ⊢
  rw [List.pairwise_reverse]
  exact h.imp fun n z => n z.symm
noncomputable def lamEnv (d : LamD) (L f c : Addr) (clos : List (Str × Addr)) : Env := { scope := d.scope, locals := L, globals := mainGlobals, cells := clos, qual := d.qual ++ ".<locals>.", func := some f, code := .ref c, frame := some L, builtins := builtinsNs }
noncomputable def cxL (P : Program) (w : World) (K : PySem.W.Frag) (mg : Str → Option Value) (base : Heap) (N : List Str) (d : LamD) (clos : List (Str × Addr)) (f c : Addr) (A : Around) (outer : List Env) (s : Shared) (H : Hp) : Cx where
  prog := P
  w := w
  K := K
  mg := mg
  base := base
  A := A.deeper (lamEnv d s.heap.objs.size f c clos)
  N := N
  s₀ := s
  H₀ := untrs H (clos.map (·.2))
  env := lamEnv d s.heap.objs.size f c clos
  outer := outer
  stack := lamEnv d s.heap.objs.size f c clos :: outer
  ex := []
  calm := true
  fn := fun _ => false
  pn := []
  xe := fun _ _ => False
noncomputable def LamOk (P : Program) (w : World) (K : PySem.W.Frag) (mg : Str → Option Value) (base : Heap) (k : Nat) (d : LamD) (fv ps : List Str) (sp : List V → Sp) : Prop :=
  ∀ (A : Around) (outer : List Env) (s : Shared) (H : Hp) (f c : Addr) (clos : List (Str × Addr)) (us : List Value) (vs vals : List V) (Q : VK) (E : XK), Room k A → Env0 P w K mg base A outer s H → H f = some (.ext (LamX f d clos c)) → H c = some (.ext (CodeX c d.qual)) →
    clos.map (·.1) = fv → (clos.map (·.2)).Nodup → CellsAt H clos vals → Vals vs us → sp vals vs H Q E → codeAny (model P w) A (.call (.ref f) ⟨us, []⟩) (CR CX0 outer P w H s Q E) s
structure LamScope (d : LamD) (fv ps : List Str) : Prop where
  kind : d.scope.kind = .function
  co : d.scope.isCoroutine = false
  gen : d.scope.isGenerator = false
  nocell : ∀ x ∈ d.scope.names, x.2 ≠ .cell
  par : ∀ x ∈ ps, d.scope.names.lookup x = some .local
  free : ∀ x ∈ d.scope.names, x.2 = .free → x.1 ∈ fv
  fr : ∀ x ∈ fv, d.scope.names.lookup x = some .free
  nd : (ps ++ fv).Nodup
theorem mem_of_look {α β : Type} [BEq α] [LawfulBEq α] : ∀ {l : List (α × β)} {x : α} {u : β}, l.lookup x = some u → (x, u) ∈ l
  | [], _, _, h => by cases h
  | (y, w) :: r, x, u, h => by
    rw [List.lookup_cons] at h
    cases e : x == y with
    | true => rw [e] at h; cases h; rw [eq_of_beq e]; exact List.mem_cons_self ..
    | false => rw [e] at h; exact List.mem_cons_of_mem _ (mem_of_look h)
theorem inv_startL {P : Program} {w : World} {K : PySem.W.Frag} {mg : Str → Option Value} {base : Heap} {d : LamD} {fv ps : List Str} {clos : List (Str × Addr)} {f c : Addr} {A : Around} {outer : List Env} {s : Shared} {H : Hp} {us : List Value} {vs vals : List V} {h1 : Heap} {tk : Nat}
    (S : LamScope d fv ps) (hd : A.handled = none) (e0 : Env0 P w K mg base A outer s H) (hl : vs.length = ps.length) (r : Vals vs us) (hfv : clos.map (·.1) = fv) (hnd : (clos.map (·.2)).Nodup) (ca : CellsAt H clos vals)
    (hns : h1.Ns s.heap.objs.size (fun x => (ps.zip us).reverse.lookup x)) (hk : ∀ b o, s.heap.get? b = some o → h1.get? b = some o) :
    Inv (cxL P w K mg base (ps ++ fv) d clos f c A outer s H) [] ((vs ++ vals).map some) (untrs H (clos.map (·.2))) { s with heap := h1, toks := tk } := by
  have ndf : (clos.map (·.1)).Nodup := by rw [hfv]; exact (List.nodup_append.mp S.nd).2.1
  have ndp : ps.Nodup := (List.nodup_append.mp S.nd).1
  have lus : us.length = ps.length := by rw [← r.length]; exact hl
  have hin : ∀ x c', clos.lookup x = some c' → c' ∈ clos.map (·.2) := fun x c' e => List.mem_map.mpr ⟨(x, c'), mem_of_look e, rfl⟩
  have cellOf : ∀ b v, H b = some (.ext (CellX b v)) → ∃ u, RelV v u ∧ h1.IsCell b (some u) := fun b v e => by
    obtain ⟨⟨o, u, g1, g2, g3⟩, _⟩ := e0.hok b _ e
    exact ⟨u, g3, o, hk _ _ g1, g2⟩
  have noA : ∀ b : Addr, b ∉ (cxL P w K mg base (ps ++ fv) d clos f c A outer s H).ex := fun b z => absurd (show b ∈ ([] : List Addr) from z) (by simp)
  have lcl : clos.length = fv.length := by rw [← hfv, List.length_map]
  have lva : vals.length = clos.length := (Paired.length ca).symm
  refine ⟨⟨e0.mod, S.kind, rfl, rfl, Nat.le_refl _, fun y z c' h1 h2 => ?_, fun y hy => ?_, fun y c' h => (Bool.false_ne_true h).elim, fun _ => hd, Around.frames_deeper e0.frames, .inr ⟨rfl, rfl⟩, fun b z => absurd z (noA b), fun b o e => ⟨(e0.bs b o e).1, untrs_none (e0.bs b o e).2⟩, e0.bsz, fun b _ _ => noA b, fun b z => absurd z (noA b), e0.funs, fun b hb => untrs_none (e0.frf b hb)⟩,
    rfl, e0.bare, Un.kept hk, ⟨_, hns, fun i y v g1 g2 g3 => ?_⟩, fun y c' h => ?_, untrs_none (e0.hok.fresh (Nat.le_refl _)), fun y c' h => untrs_in (hin y c' h), fun p hp => absurd (show p ∈ ([] : List (Addr × Obj)) from hp) (by simp), fun b u e => ?_, ?_⟩
  · have h1 : clos.lookup y = some c' := h1
    have h2 : clos.lookup z = some c' := h2
    have e1 := mem_of_look h1
    have e2 := mem_of_look h2
    have nd2 : ((clos.map fun p => (p.2, p.1)).map (·.1)).Nodup := by rw [List.map_map]; exact hnd
    have := fst_inj nd2 (c', y) (List.mem_map.mpr ⟨_, e1, rfl⟩) (c', z) (List.mem_map.mpr ⟨_, e2, rfl⟩) rfl
    exact congrArg Prod.snd this
  · have hy : d.scope.names.lookup y = some .cell ∨ d.scope.names.lookup y = some .free := hy
    rcases hy with hy | hy
    · exact absurd rfl (S.nocell _ (mem_of_look hy))
    · have := S.free _ (mem_of_look hy) rfl
      rw [← hfv] at this
      obtain ⟨p, hp, e⟩ := List.mem_map.mp this
      have e' : p.1 = y := e
      exact ⟨p.2, lookup_of_mem ndf (by show (y, p.2) ∈ clos; rw [← e']; exact hp)⟩
  · have g1 : (ps ++ fv)[i]? = some y := g1
    by_cases hi : i < ps.length
    · rw [List.getElem?_append_left hi] at g1
      rw [List.getElem?_map, List.getElem?_append_left (by lia)] at g2
      have g2' : vs[i]? = some v := by
        cases q : vs[i]? with
        | none => rw [q] at g2; cases g2
        | some x => rw [q] at g2; cases g2; rfl
      obtain ⟨u, hu, rv⟩ := r.get g2'
      refine ⟨u, rv, .inl ⟨S.par y (List.mem_of_getElem? g1), ?_⟩⟩
      have mem : (y, u) ∈ ps.zip us := List.mem_of_getElem? (i := i) (by rw [List.getElem?_zip_eq_some]; exact ⟨g1, hu⟩)
      refine lookup_of_mem ?_ (List.mem_reverse.mpr mem)
      rw [List.map_reverse]
      refine nodup_rev ?_
      have : (ps.zip us).map (·.1) = ps := by rw [List.map_fst_zip]; lia
      rw [this]
      exact ndp
    · rw [List.getElem?_append_right (by lia)] at g1
      rw [List.getElem?_map, List.getElem?_append_right (by lia)] at g2
      have g2' : vals[i - ps.length]? = some v := by
        rw [hl] at g2
        cases q : vals[i - ps.length]? with
        | none => rw [q] at g2; cases g2
        | some x => rw [q] at g2; cases g2; rfl
      obtain ⟨p, hp, e⟩ := ca.get g2'
      rw [← hfv, List.getElem?_map, hp] at g1
      cases g1
      obtain ⟨u, rv, ic⟩ := cellOf _ _ e
      have hmem := List.mem_of_getElem? hp
      refine ⟨u, rv, .inr ⟨.inr (S.fr p.1 ?_), p.2, lookup_of_mem ndf hmem, ic⟩⟩
      rw [← hfv]
      exact List.mem_map.mpr ⟨p, hmem, rfl⟩
  · obtain ⟨v, e⟩ := ca.at (hin y c' h)
    obtain ⟨u, _, ic⟩ := cellOf _ _ e
    exact ⟨_, ic⟩
  · by_cases hb : b ∈ clos.map (·.2)
    · rw [untrs_in hb] at e; cases e
    · rw [untrs_out hb] at e
      refine (e0.hok b u e).stay (fun b' u' _ q => hk b' u' q) (fun b' q => ?_) fun b' xs q => ?_
      · exact untrs_of ca q fun v z => nomatch z
      · exact untrs_of ca q fun v z => nomatch z
  · show ((vs ++ vals).map some).length = (ps ++ fv).length
    rw [List.length_map, List.length_append, List.length_append]
    lia
end L2
set_option Elab.async false
set_option linter.all false
set_option maxRecDepth 100000
set_option maxHeartbeats 4000000
namespace L2
open PySem PySem.Spec PyProof.Rows
section
variable {P : Program} {w : World} {K : PySem.W.Frag} {mg : Str → Option Value} {base : Heap}
theorem lam_of {d : LamD} {fv ps : List Str} {k : Nat} {sp : List V → Sp} (S : LamScope d fv ps)
    (hbind : ∀ (pm ctv : Value) (clos : List (Str × Addr)) (c : Addr) (us : List Value), us.length = ps.length → bindArgs (PySem.W.kla_fn "<lambda>" d.qual d.params d.body d.scope clos pm (.ref c) ctv) ⟨us, []⟩ = pure (ps.zip us))
    (len : ∀ vals vs H Q E, sp vals vs H Q E → vs.length = ps.length)
    (hbody : ∀ (A : Around) (outer : List Env) (s : Shared) (H : Hp) (f c : Addr) (clos : List (Str × Addr)) (vals vs : List V) (Q : VK) (E : XK), Room k (A.deeper (lamEnv d s.heap.objs.size f c clos)) → clos.map (·.1) = fv → CellsAt H clos vals → sp vals vs H Q E →
      ∃ t, PE (cxL P w K mg base (ps ++ fv) d clos f c A outer s H) d.body t ∧ t ((vs ++ vals).map some) (untrs H (clos.map (·.2))) (fun v H' => ∀ H3, Same H' H3 → (∀ p ∈ clos, H3 p.2 = H p.2) → Q v H3)) :
    LamOk P w K mg base (k + 1) d fv ps sp := by
  intro A outer s H f c clos us vs vals Q E hr e0 hf hc hfv hnd ca r hsp
  have hl := len _ _ _ _ _ hsp
  have lus : us.length = ps.length := by rw [← r.length]; exact hl
  obtain ⟨⟨pm, ctv, ef⟩, _, _⟩ := e0.hok f _ hf
  obtain ⟨⟨oc, cvs, ct, ec, ed, ev⟩, _, _⟩ := e0.hok c _ hc
  have lim : s.heap.NoLimit := e0.mod.nolimit.keeps fun b o e => (e0.bs b o e).1
  obtain ⟨t, ht, hq⟩ := hbody A outer s H f c clos vals vs Q E (hr.deeper _) hfv ca hsp
  refine PySem.W.kla_callFunE (body := d.body) hr.depth ef rfl S.co S.gen rfl ⟨c, oc, cvs, ct, rfl, ec, ed, ev⟩ ?_
  rw [hbind pm ctv clos c us lus]
  refine wpAny_pure (wpAny_newFunctionEnv S.nocell (fun y hy => S.par y.1 (List.of_mem_zip hy).1) (fun h1 hns hsb => ?_) S.kind)
  have hk : ∀ b o, s.heap.get? b = some o → h1.get? b = some o := fun b o e => hsb.extBut b o (Nat.ne_of_lt (Heap.lt_size e)) (Heap.get?_push_of_some _ e)
  refine ⟨lim.fresh _ hsb, ?_⟩
  show codeAny _ _ (.expr d.body (lamEnv d s.heap.objs.size f c clos)) _ _
  have I := inv_startL (f := f) (c := c) (tk := s.toks + (ps.zip us).length) S hr.hd e0 hl r hfv hnd ca hns hk
  refine PySem.W.kla_codeExpr (wpAny_mono (ht [] _ _ _ _ I hq) (fun u s' hs => ?_) fun e s' z => False.elim z)
  obtain ⟨v, H', J, rv, q⟩ := hs
  obtain ⟨cs, hcs⟩ : ∃ cs, cs = clos.map (·.2) := ⟨_, rfl⟩
  have ub : Un (frs outer) [] (untrs H (clos.map (·.2))) H' s.heap s'.heap := J.base
  have hat : ∀ b, b ∈ clos.map (·.2) → ∃ o v, s.heap.get? b = some o ∧ H b = some (.ext (CellX b v)) := fun b hb => by
    obtain ⟨v, e⟩ := ca.at hb
    obtain ⟨⟨o, _, g, _⟩, _⟩ := e0.hok b _ e
    exact ⟨o, v, g, e⟩
  have hfr : ∀ b ∈ clos.map (·.2), H' b = none := fun b hb => by
    obtain ⟨o, v, g, _⟩ := hat b hb
    exact ub.free b o g (untrs_in hb) (by simp)
  let H3 : Hp := fun b => if b ∈ clos.map (·.2) then H b else H' b
  have g1 : ∀ b, b ∈ clos.map (·.2) → H3 b = H b := fun b hb => if_pos hb
  have g2 : ∀ b, b ∉ clos.map (·.2) → H3 b = H' b := fun b hb => if_neg hb
  have sm : Same H' H3 := fun b o e => by
    rw [g2 b fun z => by rw [hfr b z] at e; cases e]
    exact e
  have up : ∀ b o, H b = some o → (∀ v, o ≠ .ext (CellX b v)) → b ∉ clos.map (·.2) := fun b o e n z => by
    obtain ⟨v, e'⟩ := ca.at z
    rw [e] at e'
    exact n v (Option.some.inj e')
  refine ⟨v, H3, J.os, J.bare, ⟨fun b o e n hb hx => ub.keep b o e (untrs_none n) hb hx, fun b o e n hb hx => ub.slot b o e (untrs_none n) hb hx, fun b o e n hx => ?_, ub.there, fun b xs e => ?_, fun b o u e => ?_, fun b ps' e => ?_⟩, fun b o e => ?_, rv, q H3 sm fun p hp => g1 p.2 (List.mem_map.mpr ⟨p, hp, rfl⟩)⟩
  · rw [g2 b fun z => by obtain ⟨_, v, _, e'⟩ := hat b z; rw [n] at e'; cases e']
    exact ub.free b o e (untrs_none n) hx
  · exact sm _ _ (ub.tups b xs (untrs_of ca e fun v z => nomatch z))
  · exact sm _ _ (ub.frzs b o u (untrs_of ca e fun v z => nomatch z))
  · obtain ⟨more, z⟩ := ub.tbls b ps' (untrs_of ca e fun v z => nomatch z)
    exact ⟨more, sm _ _ z⟩
  · by_cases hb : b ∈ clos.map (·.2)
    · rw [g1 b hb] at e
      obtain ⟨o', v', g, e'⟩ := hat b hb
      rw [e] at e'
      cases e'
      obtain ⟨⟨o2, u2, k1, k2, k3⟩, _⟩ := e0.hok b _ e
      refine cellX_ok ⟨o2, u2, ub.keep b o2 k1 (untrs_in hb) (fun z => ?_) (by simp), k2, k3⟩
      rw [e0.frf b z] at e
      cases e
    · rw [g2 b hb] at e
      refine (J.hok b o e).stay (fun b' u' _ q => q) (fun b' q => sm _ _ q) fun b' xs q => sm _ _ q
end
noncomputable def rLam (d : LamD) (fv : List Str) (sp : List V → Sp) : V → List V → Hp → VK → Prop := fun v vs H Q => ∃ f c clos vals, v = .ref f ∧ H f = some (.ext (LamX f d clos c)) ∧ H c = some (.ext (CodeX c d.qual)) ∧ clos.map (·.1) = fv ∧ (clos.map (·.2)).Nodup ∧ CellsAt H clos vals ∧ sp vals vs H Q fun _ _ _ => False
noncomputable def tCallL (d : LamD) (fv : List Str) (sp : List V → Sp) (tf : TE) (t : TA) : TE := fun σ H Q => tf σ H fun v H1 => (∃ f d' clos c, v = .ref f ∧ H1 f = some (.ext (LamX f d' clos c))) ∧ t σ H1 fun vs H2 => (∀ f d' clos c, v = .ref f → H1 f = some (.ext (LamX f d' clos c)) → H2 f = some (.ext (LamX f d' clos c))) ∧ rLam d fv sp v vs H2 Q
section
variable {X : Cx} {d : LamD} {fv ps : List Str} {k : Nat} {sp : List V → Sp} {x : Str} {p pos : Pos} {tf : TE} {t : TA} {e : Expr} {es : List Expr}
theorem run_lam {pins : List (Addr × Obj)} {σ : St} {H : Hp} {s : Shared} {Q : VK} {us : List Value} {vs : List V} {v : V} {u : Value} (L : LamOk X.prog X.w X.K X.mg X.base k d fv ps sp) (hr : Room k X.A) (I : Inv X pins σ H s) (rv : RelV v u) (r : Vals vs us) (h : rLam d fv sp v vs H Q) :
    wpAny (model X.prog X.w) X.A (call u us) (EP X pins σ Q) X.xe s := by
  obtain ⟨f, c, clos, vals, rfl, hf, hc, h1, h2, h3, h4⟩ := h
  obtain rfl : u = Value.ref f := rv
  refine wpAny_call (codeAny_mono (L X.A X.stack s H f c clos us vs vals Q _ hr I.env0 hf hc h1 h2 h3 r h4) fun r s' hq => ?_)
  cases r with
  | error e => exact False.elim hq
  | ok fl =>
    cases fl with
    | ret u => exact I.after hq
    | next => exact False.elim hq
    | brk => exact False.elim hq
    | cont => exact False.elim hq
theorem fnAt_of {H : Hp} {s : Shared} {P : Program} {w : World} {f c : Addr} {d : LamD} {clos : List (Str × Addr)} (ok : HOk P w H s.heap) (hf : H f = some (.ext (LamX f d clos c))) : PySem.W.FnAt f s.heap := by
  obtain ⟨⟨pm, ctv, ef⟩, _, _⟩ := ok f _ hf
  exact ⟨_, _, _, _, ef⟩
theorem pe_callL (hn : PE X (.Name x p) tf) (L : LamOk X.prog X.w X.K X.mg X.base k d fv ps sp) (hr : Room k X.A) (ha : PA X (e :: es) t)
    (he : starEach (e :: es) X.env = (false, eval e X.env) :: starEach es X.env := by rfl) (hpl : (backTo pos (starEach es X.env)).any (·.1) = false := by rfl) : PE X (.Call (.Name x p) (e :: es) [] pos) (tCallL d fv sp tf t) := by
  intro pins s σ H Q I h
  refine wpAny_Call_Name_kw (thn (hn pins s σ H _ I h) fun u s1 ⟨v, H1, I1, rv, ⟨f, d', clos, c, ef, hf⟩, q⟩ => ?_)
  subst ef
  obtain rfl : u = Value.ref f := rv
  refine PySem.W.callWith_F (fnAt_of I1.hok hf) (thn (ha pos pins s1 σ H1 _ I1 q) fun us s2 ⟨vs, H2, I2, r, q2⟩ => ⟨fnAt_of I2.hok (q2.1 _ _ _ _ rfl hf), ?_⟩) he hpl
  exact run_lam L hr I2 (v := .ref f) rfl r q2.2
end
end L2
set_option Elab.async false
set_option linter.all false
set_option maxRecDepth 100000
set_option maxHeartbeats 4000000
namespace L2
open PySem PySem.Spec PyProof.Rows
section
variable {X : Cx} {e : Expr} {te : TE} {pos : Pos} {st : Stmt} {rest : List Stmt} {t : TS} {u : TR}
end
noncomputable def CellsOf (cells : List (Str × Addr)) (N : List Str) (σ : St) (H3 : Hp) : Prop := ∀ (i : Nat) (y : Str) (v : V) (c : Addr), N[i]? = some y → σ[i]? = some (some v) → cells.lookup y = some c → H3 c = some (.ext (CellX c v))
theorem cells_mem {y : Str} {c : Addr} : ∀ (names : List (Str × NameKind)) (n : Nat) (acc : List (Str × Addr)), (y, c) ∈ cellsFrom n names acc → (y, c) ∈ acc ∨ (y, NameKind.cell) ∈ names
  | [], n, acc, h => .inl h
  | (x, k) :: r, n, acc, h => by
    unfold cellsFrom at h
    split at h
    · rename_i hk
      rcases cells_mem r (n + 1) ((x, n) :: acc) h with z | z
      · rcases List.mem_cons.mp z with e | z
        · cases e
          rw [eq_of_beq hk]
          exact .inr (List.mem_cons_self ..)
        · exact .inl z
      · exact .inr (List.mem_cons_of_mem _ z)
    · rcases cells_mem r n acc h with z | z
      · exact .inl z
      · exact .inr (List.mem_cons_of_mem _ z)
section
variable {P : Program} {w : World} {K : PySem.W.Frag} {mg : Str → Option Value} {base : Heap}
theorem track {CX : CXT} {N : List Str} {qual : Str} {scope : Scope} {f : Addr} {cd : Value} {A : Around} {outer : List Env} {s s' : Shared} {H H' : Hp} {E : XK} {σ : St} (hN : N.Nodup) (hck : ∀ p ∈ scope.names, p.2 = .cell → scope.names.lookup p.1 = some .cell)
    {pins : List (Addr × Obj)} (J : Inv (cxOf CX P w K mg base N qual scope f cd A outer s H E) pins σ H' s') :
    ∃ H3, Same H' H3 ∧ CellsOf (cellsFrom (s.heap.objs.size + 1) scope.names []) N σ H3 ∧ (∀ b, H' b = none → H3 b ≠ none → ∃ y, (cellsFrom (s.heap.objs.size + 1) scope.names []).lookup y = some b) ∧ Un (frs outer) [] H H3 s.heap s'.heap ∧ HOk P w H3 s'.heap := by
  have hvis : ∀ y c, (cellsFrom (s.heap.objs.size + 1) scope.names []).lookup y = some c → scope.names.lookup y = some .cell := fun y c e => by
    rcases cells_mem _ _ _ (mem_of_look e) with z | z
    · cases z
    · exact hck _ z rfl
  obtain ⟨cells, hcells⟩ : ∃ l, l = cellsFrom (s.heap.objs.size + 1) scope.names [] := ⟨_, rfl⟩
  rw [← hcells] at hvis ⊢
  have henv : (cxOf CX P w K mg base N qual scope f cd A outer s H E).env.cells = cells := hcells.symm
  let G : Addr → V → Prop := fun b v => ∃ (i : Nat) (y : Str), N[i]? = some y ∧ σ[i]? = some (some v) ∧ cells.lookup y = some b
  have G1 : ∀ b v v', G b v → G b v' → v = v' := by
    rintro b v v' ⟨i, y, a1, a2, a3⟩ ⟨j, z, b1, b2, b3⟩
    have : y = z := J.ok.inj y z b (by rw [henv]; exact a3) (by rw [henv]; exact b3)
    subst this
    have : i = j := nodup_ix hN a1 b1
    subst this
    rw [a2] at b2
    cases b2
    rfl
  have G2 : ∀ b v, G b v → H' b = none ∧ s.heap.objs.size ≤ b ∧ CellX b v s'.heap := by
    rintro b v ⟨i, y, a1, a2, a3⟩
    refine ⟨J.freeC y b (by rw [henv]; exact a3), J.ok.cab y b rfl (by rw [henv]; exact a3), ?_⟩
    obtain ⟨m, hn, hl⟩ := J.loc
    obtain ⟨u, r, l⟩ := hl i y v a1 a2 (.inr (.inl (hvis y b a3)))
    rcases l with ⟨k, _⟩ | ⟨k, c, e, o, ho, hd⟩
    · exfalso
      have k : scope.names.lookup y = some .local := k
      rw [hvis y b a3] at k
      cases k
    · have e : cells.lookup y = some c := by rw [← henv]; exact e
      rw [a3] at e
      cases e
      exact ⟨o, u, ho, hd, r⟩
  classical
  let H3 : Hp := fun b => if h : ∃ v, G b v then some (.ext (CellX b (Classical.choose h))) else H' b
  have g1 : ∀ b v, G b v → H3 b = some (.ext (CellX b v)) := fun b v h => by
    have hx : ∃ v, G b v := ⟨v, h⟩
    show (if h : ∃ v, G b v then some (.ext (CellX b (Classical.choose h))) else H' b) = _
    rw [dif_pos hx, G1 b _ v (Classical.choose_spec hx) h]
  have g2 : ∀ b, (¬ ∃ v, G b v) → H3 b = H' b := fun b h => dif_neg h
  have sm : Same H' H3 := fun b o e => by
    rw [g2 b fun ⟨v, z⟩ => by rw [(G2 b v z).1] at e; cases e]
    exact e
  have jb : Un (frs outer) [] H H' s.heap s'.heap := J.base
  refine ⟨H3, sm, fun i y v c a1 a2 a3 => g1 c v ⟨i, y, a1, a2, a3⟩, (fun b n1 n2 => ?_), ⟨jb.keep, jb.slot, fun b o e n hx => ?_, jb.there, fun b xs e => sm _ _ (jb.tups b xs e), fun b o u e => sm _ _ (jb.frzs b o u e), fun b ps e => ?_⟩, fun b o e => ?_⟩
  · by_cases h : ∃ v, G b v
    · obtain ⟨v, i, y, _, _, a3⟩ := h
      exact ⟨y, a3⟩
    · rw [g2 b h] at n2
      exact absurd n1 n2
  · rw [g2 b fun ⟨v, z⟩ => absurd (Nat.lt_of_lt_of_le (Heap.lt_size e) (G2 b v z).2.1) (Nat.lt_irrefl _)]
    exact jb.free b o e n hx
  · obtain ⟨more, z⟩ := jb.tbls b ps e
    exact ⟨more, sm _ _ z⟩
  · by_cases h : ∃ v, G b v
    · obtain ⟨v, h⟩ := h
      rw [g1 b v h] at e
      cases e
      exact cellX_ok (G2 b v h).2.2
    · rw [g2 b h] at e
      exact (J.hok b o e).stay (fun b' u' _ q => q) (fun b' q => sm _ _ q) fun b' xs q => sm _ _ q
end
end L2
set_option Elab.async false
set_option linter.all false
set_option maxRecDepth 100000
set_option maxHeartbeats 4000000
namespace L2
open PySem PySem.Spec PyProof.Rows
theorem law_callT {P : Program} {w : World} {K : PySem.W.Frag} {mg mb : Str → Option Value} {CX : CXT} {k : Nat} {fa a : Addr} {fd : FuncData} {x : Str} {sp : Sp} {s₁ : Shared} {vs : List Value} {ns : List Int} {ts : List Addr}
    (KX : K.In s₁.heap) (hns : s₁.heap.Ns mainGlobals mg) (hb : s₁.heap.Ns builtinsNs mb) (hbb : ∀ x : Str, x ≠ "__name__" → mb x = bootBuiltins x) (hlim : s₁.heap.NoLimit) (hg : s₁.gens = #[])
    (ha : s₁.heap.get? a = some { cls := .type "list", data := .seq vs.toArray }) (hi : IntsAre vs ns) (hl : ns.length ≤ sizeLine) (hr : Room k callerA) (hbm : Bm mg s₁.heap)
    (htab : ∀ P ∈ ts, s₁.heap.get? P = some (PySem.W.tabObj #[])) (htc : ∀ P ∈ ts, ∃ c, PySem.W.codeHdIn K c P = true) (htK : ∀ P ∈ ts, K.lookup P = none)
    (F : ∀ base : Heap, K.In base → base.Ns mainGlobals mg → Bm mg base → FnOk P w K mg base CX k fa fd [x] sp) (hbind : ∀ (s : Shared) (u : Value), BindsTo s fd ⟨[u], []⟩ [(x, u)])
    (hsp : ∀ H : Hp, (∀ P ∈ ts, H P = some (.tbl #[])) → SqL K H a (ns.map V.int) → sp [.ref a] H (fun v _ => v = .bl true) fun _ _ _ => False)
    (hCX : ∀ H e s', CX [] H s₁ (fun _ _ _ => False) e s' → False) :
    codeAny (model P w) callerA (.call (.ref fa) ⟨[.ref a], []⟩) (fun r s' => r = .ok (.ret (.bool true)) ∧ OldK s₁.heap s'.heap ∧ s'.os = s₁.os ∧ AllBare s'.gens) s₁ := by
  have rv := vals_ints hi
  have lenV := hi.length
  have nat : a ∉ ts := fun z => by have := htab a z; rw [ha] at this; cases this
  have core : ∀ H : Hp, (∀ P ∈ ts, H P = some (.tbl #[])) → SqL K H a (ns.map V.int) → HOk P w H s₁.heap → (∀ b u, H b = some u → (b = a ∧ ∃ o xs, u = .frz o (.lst xs)) ∨ (b ∈ ts ∧ u = .tbl #[])) → (H a ≠ none → K.lookup a = none) →
      codeAny (model P w) callerA (.call (.ref fa) ⟨[.ref a], []⟩) (fun r s' => r = .ok (.ret (.bool true)) ∧ OldK s₁.heap s'.heap ∧ s'.os = s₁.os ∧ AllBare s'.gens) s₁ := by
    intro H hT hS hok hA hK
    have base_of : ∀ {b : Addr} {o : Obj}, s₁.heap.get? b = some o → H b = none → (hidT s₁.heap H).get? b = some o := fun e n => hidT_get e n
    have noA : ∀ {b : Addr} {o : Obj}, s₁.heap.get? b = some o → o.cls ≠ .none → (∀ its n, o.data ≠ .seq its n) → H b = none := fun {b o} e d1 d2 => by
      cases q : H b with
      | none => rfl
      | some u =>
        rcases hA b u q with ⟨rfl, _⟩ | ⟨hb, _⟩
        · rw [ha] at e; cases e; exact (d2 _ _ rfl).elim
        · rw [htab b hb] at e; cases e; exact (d1 rfl).elim
    have noD : ∀ {b : Addr} {o : Obj} {es : Array DictEntry} {ep : Nat}, s₁.heap.get? b = some o → o.data = .dict es ep → H b = none := fun {b o es ep} e d => by
      cases q : H b with
      | none => rfl
      | some u =>
        rcases hA b u q with ⟨rfl, _⟩ | ⟨hb, _⟩
        · rw [ha] at e; cases e
          have d' : Data.seq vs.toArray _ = Data.dict es ep := d
          cases d'
        · rw [htab b hb] at e; cases e; cases d
    have nsK : ∀ {b : Addr} {m : Str → Option Value}, s₁.heap.Ns b m → (hidT s₁.heap H).Ns b m := fun {b m} ⟨o, es, ep, e, d, r⟩ => ⟨o, es, ep, base_of e (noD e d), d, r⟩
    have hKb : K.In (hidT s₁.heap H) := fun b o e => base_of (KX b o e) (by
      cases q : H b with
      | none => rfl
      | some u =>
        rcases hA b u q with ⟨rfl, _⟩ | ⟨hb, _⟩
        · rw [hK (by rw [q]; simp)] at e; cases e
        · rw [htK b hb] at e; cases e)
    have hM : Mod K mg (hidT s₁.heap H) := ⟨hKb, nsK hns, ⟨mb, nsK hb, hbb⟩, let ⟨mc, h1, h2⟩ := hlim; ⟨mc, nsK h1, h2⟩⟩
    have hB : Bm mg (hidT s₁.heap H) := by
      obtain ⟨bm, ob, b1, b2, b3, b4, b5⟩ := hbm
      exact ⟨bm, ob, b1, base_of b2 (noA b2 (by rw [b3]; simp) (fun its n => by rw [b5]; intro z; cases z)), b3, b4, b5⟩
    have e0 : Env0 P w K mg (hidT s₁.heap H) callerA [] s₁ H := ⟨rfl, hM, fun b o e => of_hidT e, Nat.le_of_eq (hidT_size _ _), trivial, fun b hb => absurd (show b ∈ ([] : List Addr) from hb) (by simp), hok, .of_eq hg⟩
    refine codeAny_mono ((F _ hKb (nsK hns) hB).run callerA [] s₁ H ⟨[.ref a], []⟩ [.ref a] [.ref a] _ _ hr e0 (hbind s₁ (.ref a)) (.cons rfl .nil) (hsp H hT hS)) fun r s' h => ?_
    cases r with
    | error e => exact (hCX H e s' h).elim
    | ok fl =>
      cases fl with
      | next => exact False.elim h
      | brk => exact False.elim h
      | cont => exact False.elim h
      | ret u =>
        obtain ⟨v, H', os, bare, un, hok', r', q⟩ := h
        have q' : v = .bl true := q
        subst q'
        obtain rfl : u = Value.bool true := r'
        refine ⟨rfl, ⟨fun b o e => ?_, fun b o e => un.there b o e (by simp)⟩, os, bare⟩
        cases q : H b with
        | none => exact .inl (un.keep b o e q (by intro z; exact absurd (show b ∈ ([] : List Addr) from z) (by simp)) (by simp))
        | some u =>
          rcases hA b u q with ⟨_, ob, xs, rfl⟩ | ⟨hb, rfl⟩
          · have z2 := un.frzs b ob _ q
            obtain ⟨e1, _⟩ := hok b _ q
            obtain ⟨e2, _⟩ := hok' b _ z2
            rw [e] at e1; cases e1
            exact .inl e2
          · obtain ⟨c, hc⟩ := htc b hb
            have C := PySem.W.codeHd_of_K KX hc
            obtain ⟨more, z⟩ := un.tbls b _ q
            have z2 : s'.heap.get? b = some (PySem.W.tabObj (#[] ++ more)) := hok' b _ z
            rw [htab b hb] at e
            cases e
            exact .inr (.inl ⟨(C.tab (htab b hb)).isCodeTable, rfl, #[], more, rfl, z2⟩)
  let T : Hp := fun b => if b ∈ ts then some (.tbl #[]) else none
  cases hk : K.lookup a with
  | some o =>
    have e := KX a o hk
    rw [ha] at e
    cases e
    refine core T (fun P hP => if_pos hP) (.inr ⟨_, vs.toArray, _, hk, rfl, rfl, rfl, by rw [List.size_toArray, lenV]; exact hl, by simpa using rv⟩) (fun b u z => ?_) (fun b u z => ?_) fun z => absurd (if_neg nat) z
    · by_cases hb : b ∈ ts
      · have z' := (if_pos hb).symm.trans z
        cases z'
        exact htab b hb
      · have z' := (if_neg hb).symm.trans z
        cases z'
    · by_cases hb : b ∈ ts
      · have z' := (if_pos hb).symm.trans z
        cases z'
        exact .inr ⟨hb, rfl⟩
      · have z' := (if_neg hb).symm.trans z
        cases z'
  | none =>
    refine core (fun b => if b = a then some (.frz { cls := .type "list", data := .seq vs.toArray } (.lst (ns.map V.int))) else T b) (fun P hP => ?_) (.inl (.inr ⟨{ cls := .type "list", data := .seq vs.toArray }, if_pos rfl⟩)) (fun b u z => ?_) (fun b u z => ?_) fun _ => hk
    · have hne : P ≠ a := fun z => nat (by rw [← z]; exact hP)
      exact (if_neg hne).trans (if_pos hP)
    · by_cases hb : b = a
      · have z' := (if_pos hb).symm.trans z
        cases z'
        subst hb
        exact ⟨ha, by rw [List.length_map]; exact hl, vs, _, rv, ha⟩
      · have z' := (if_neg hb).symm.trans z
        by_cases hb : b ∈ ts
        · have z' := (if_pos hb).symm.trans z'
          cases z'
          exact htab b hb
        · have z' := (if_neg hb).symm.trans z'
          cases z'
    · by_cases hb : b = a
      · have z' := (if_pos hb).symm.trans z
        cases z'
        exact .inl ⟨hb, _, _, rfl⟩
      · have z' := (if_neg hb).symm.trans z
        by_cases hb : b ∈ ts
        · have z' := (if_pos hb).symm.trans z'
          cases z'
          exact .inr ⟨hb, rfl⟩
        · have z' := (if_neg hb).symm.trans z'
          cases z'
theorem walk_ofT {l : PySem.W.OpenLaw} {n k : Nat} {q : Program} {loose : List Str} {XP : (Str → Option Value) → Heap → Prop} {YP : World → Heap → Prop} {d : DefRec} {K : Params → PySem.W.Frag} {CX : CXT} {sp : PySem.W.Frag → List Addr → Sp} {x : Str} {ts : List Addr}
    (hn : l.most = some n) (hn2 : n ≤ sizeLine) (hdf : d.params.defaults = []) (hr : Room k callerA)
    (hY : ∀ (w : World) (h : Heap), YP w h → (K w.params).In h ∧ ∀ P ∈ ts, h.get? P = some (PySem.W.tabObj #[]))
    (F : ∀ (ts' : List Addr), ts' = ts → ∀ (w : World) (mg : Str → Option Value) (fa : Addr) (h : Heap), (K w.params).In h → h.Ns mainGlobals mg → mg d.name = some (.ref fa) →
      ∃ fd : FuncData, (∀ (s : Shared) (u : Value), BindsTo s fd ⟨[u], []⟩ [(x, u)]) ∧ (∀ P ∈ ts, ∃ c, PySem.W.codeHdIn (K w.params) c P = true) ∧ (∀ P ∈ ts, (K w.params).lookup P = none) ∧
        ∀ base : Heap, (K w.params).In base → base.Ns mainGlobals mg → Bm mg base → FnOk l.prog w (K w.params) mg base CX k fa fd [x] (sp (K w.params) ts))
    (hsp : ∀ (K : PySem.W.Frag) (H : Hp) (a : Addr) (ns : List Int), ns.length ≤ n → (∀ P ∈ ts, H P = some (.tbl #[])) → SqL K H a (ns.map V.int) → sp K ts [.ref a] H (fun v _ => v = .bl true) fun _ _ _ => False)
    (hCX : ∀ (H : Hp) (s : Shared) (e : Value) (s' : Shared), CX [] H s (fun _ _ _ => False) e s' → False) :
    PySem.W.WalkO q loose XP YP l.row.toRowW d [] (fun f vs => PySem.call f vs) := by
  refine Att.attach_call hn hdf fun w s₀ s₁ mg mb fa o pm cd doc a vs ns G Y ho hd hcd hmg hobj hints hlen hg => ?_
  obtain ⟨KX, hT⟩ := hY w _ Y
  obtain ⟨fd, hb, htc, htK, hF⟩ := F ts rfl w mg fa _ KX G.T.g hmg
  have hbm : Bm mg s₁.heap := let ⟨bm, ob, b1, _, b3, b4, b5, b6⟩ := G.T.bmain; ⟨bm, ob, b1, b3, b4, b5, b6⟩
  exact law_callT KX G.T.g G.T.b G.T.builtins G.T.nolimit hg hobj hints (Nat.le_trans hlen hn2) hr hbm hT htc htK hF hb (fun H hO hS => hsp (K w.params) H a ns hlen hO hS) fun H e s' => hCX H s₁ e s'
end L2
set_option Elab.async false
set_option linter.all false
set_option maxRecDepth 100000
set_option maxHeartbeats 4000000
namespace L2
open PySem PySem.Spec PyProof.Rows
noncomputable def dE : Expr := .Name "" ⟨0, 0, 0, 0⟩
noncomputable def stAt (st : Stmt) (i : Nat) : Stmt := (defBody st).getD i (.Pass ⟨0, 0, 0, 0⟩)
noncomputable def argE : Expr → Nat → Expr
  | .Call _ es _ _, i => es.getD i dE
  | _, _ => dE
noncomputable def lamOf (q : Str) : Expr → LamD
  | .Lambda p b s _ => ⟨q, p, b, s⟩
  | _ => ⟨q, default, dE, default⟩
noncomputable def lamP : Expr → Pos
  | .Lambda _ _ _ p => p
  | _ => ⟨0, 0, 0, 0⟩
theorem bt_sorted : bootBuiltins "sorted" = some (.builtin "sorted") := by decide +kernel
theorem vals_of_ints : ∀ {us : List Value} {ns : List Int}, IntsAre us ns → Vals (ns.map V.int) us
  | _, _, .nil => .nil
  | _, _, .cons n t h => .cons ⟨_, rfl⟩ (vals_of_ints h)
theorem call_sortedI {X : Cx} : CallR X (.builtin "sorted") (fun xs H Q => ∃ (p : Addr) (ns : List Int), xs = [.ref p] ∧ SqL X.K H p (ns.map V.int) ∧ ns.length < 64 ∧ ∀ q (ns' : List Int), ns'.Perm ns → ns'.Pairwise (· ≤ ·) → H q = none → Q (.ref q) (upd H q (.lst (ns'.map V.int)))) := by
  intro pins s σ H xs us Q I r h
  obtain ⟨p, ns, rfl, hq, hl, q⟩ := h
  obtain ⟨u, rfl, rx⟩ := vals1 r
  cases rx
  obtain ⟨its, rv, pl, hz⟩ := I.list hq
  have hi := ints_are rv
  have hlen : its.length = ns.length := by have := rv.length; rw [List.length_map] at this; exact this.symm
  refine sorted_ints pl.isList hi (by lia) fun out ns' a1 a2 a3 => ?_
  obtain ⟨e, he⟩ := sortedAll_at s.heap its out
  have hn : H (s.heap.objs.size + 1) = none := I.hok.fresh (Nat.le_succ _)
  have small : sizeLine = 16777216 := sizeLine_eq
  refine ⟨.ref (s.heap.objs.size + 1), _, I.laid (a := s.heap.objs.size + 1) (o := .lst (ns'.map V.int)) (t' := s.toks) (fun b u z => sortedAll_old z) (Nat.le_succ _) ⟨?_, out.toList, e, vals_of_ints a1, ?_⟩, rfl, q _ ns' a2 a3 hn⟩
  · rw [List.length_map, a2.length_eq]; lia
  · rw [he, Array.toArray_toList]
end L2
set_option Elab.async false
set_option linter.all false
set_option maxRecDepth 100000
namespace L2
open PySem PySem.Spec PyProof.Rows
section
variable {X : Cx} {k : Nat} {f : Addr} {fd : FuncData} {ps : List Str} {sp : Sp} {x : Str} {p pos : Pos} {e : Expr} {es : List Expr} {t : TA} {tf : TE} {ds : List Value} {dvs : List V} {CX : CXT} {E : XK}
theorem pe_callV (hn : PE X (.Name x p) tf) (F : FnOk X.prog X.w X.K X.mg X.base CX k f fd ps sp) (hr : Room k X.A) (hk : PySem.W.keepIn X.K (.ref f) = true) (hb : Binds X.K fd ps ds) (hd : Vals dvs ds) (hx : Passes CX X E)
    (ha : PA X (e :: es) t) (he : starEach (e :: es) X.env = (false, eval e X.env) :: starEach es X.env := by rfl) (hpl : (backTo pos (starEach es X.env)).any (·.1) = false := by rfl) :
    PE X (.Call (.Name x p) (e :: es) [] pos) (fun σ H Q => tf σ H fun v H1 => v = .ref f ∧ tCall sp dvs E t σ H1 Q) := by
  intro pins s σ H Q I h
  refine wpAny_Call_Name_kw (thn (hn pins s σ H _ I h) fun u s1 ⟨v, H1, I1, rv, ev, q⟩ => ?_)
  subst ev
  obtain rfl : u = Value.ref f := rv
  refine PySem.W.callWith_K (h₀ := X.base) I1.ok.mod.kin hk (thn (ha pos pins s1 σ H1 _ I1 q) fun us s1 ⟨vs, H1, I1, r, q⟩ => ⟨I1.kIn, ?_⟩) he hpl
  exact run_fn F hr hb hd hx I1 r q
end
end L2
set_option Elab.async false
set_option linter.all false
set_option maxRecDepth 100000
set_option maxHeartbeats 4000000
namespace L2
open PySem PySem.Spec PyProof.Rows
section
variable {X : Cx} {a b c d : Expr} {ta tb tc td : TE} {pos : Pos}
end
section
variable {X : Cx} {o e : Expr} {es : List Expr} {to : TE} {t : TA} {apos cpos : Pos}
end
end L2
set_option Elab.async false
set_option linter.all false
set_option maxRecDepth 100000
set_option maxHeartbeats 4000000
set_option Elab.async false
set_option linter.all false
set_option maxRecDepth 100000
set_option maxHeartbeats 4000000
namespace L2
open PySem PySem.Spec PyProof.Rows PySem.W
section
variable {prog : Program} {w : World} {A : Around} {E : Value → Shared → Prop} {s : Shared}
end
section
variable {X : Cx}
end
end L2
set_option Elab.async false
set_option linter.all false
set_option maxRecDepth 100000
set_option maxHeartbeats 4000000
namespace L2
open PySem PySem.Spec PyProof.Rows PySem.W
noncomputable def TupS (H H' : Hp) : Prop := ∀ b xs, H b = some (.tup xs) → H' b = some (.tup xs)
theorem Same.tu {H H' : Hp} (s : Same H H') : TupS H H' := fun b xs e => s _ _ e
section
variable {X : Cx} {pins : List (Addr × Obj)} {σ : St} {H : Hp} {s : Shared} {κ : SortKind} {lt : Nat → Nat → Bool} {KO : Nat → V → Hp → Prop} {xs : List V} {q : Addr}
end
end L2
set_option Elab.async false
set_option linter.all false
set_option maxRecDepth 100000
set_option maxHeartbeats 4000000
namespace L2
open PySem PySem.Spec PyProof.Rows PySem.W
section
variable {P : Program} {w : World} {K : PySem.W.Frag} {mg : Str → Option Value} {base : Heap}
end
section
variable {X : Cx} {pins : List (Addr × Obj)} {σ : St} {H : Hp} {s : Shared}
end
section
variable {X : Cx} {tabs : Tabs} {d : LamD} {clos : List (Str × Addr)} {fv ps : List Str} {k : Nat} {sp : List V → Sp} {α : Type} {p pos lp kp : Pos} {e : Expr} {te : TE} {x : Str}
end
end L2
set_option Elab.async false
set_option linter.all false
set_option maxRecDepth 100000
set_option maxHeartbeats 4000000
namespace L2
open PySem PySem.Spec PyProof.Rows PySem.W
section
variable {X : Cx}
end
end L2
set_option Elab.async false
set_option linter.all false
set_option maxRecDepth 100000
set_option maxHeartbeats 4000000
namespace L2
open PySem PySem.Spec PyProof.Rows PySem.W
noncomputable def DE (h : Heap) (d : Addr) (es : Array DictEntry) (ep : Nat) : Prop := ∃ o, h.get? d = some o ∧ o.ExactDict ∧ o.data = .dict es ep
theorem DE.ty {s : Shared} {d : Addr} {es : Array DictEntry} {ep : Nat} (x : DE s.heap d es ep) : s.TypeIs (.ref d) "dict" := let ⟨o, e, c, _⟩ := x; ⟨o, e, c.1⟩
section
variable {prog : Program} {w : World} {A : Around} {E : Value → Shared → Prop} {s : Shared} {d I : Addr} {es : Array DictEntry} {ep i : Nat}
theorem de_iter {Q : Value → Shared → Prop} (nm : (d == sysModules) = false) (x : DE s.heap d es ep)
    (q : Q (.ref s.heap.objs.size) { s with heap := s.heap.push { cls := .type "dict_keyiterator", data := .fields #[.ref d, .int 0 0, .int es.size 0, .int ep 0] } }) : wpAny (model prog w) A (pyIter (.ref d)) Q E s := by
  have ty := x.ty
  obtain ⟨ob, g1, g2, g3⟩ := id x
  refine wpAny_pyIter_slot ty F.slot_dict_iter (wpAny_call_entry F.slot_dict_iter ty F.entry_dict_iter ?_ (F.args_dict_iter_1 _))
  unfold Builtin.«dict.__iter__»; refine wpAny_bind ?_
  unfold Builtin.Dict.dictSlotNone; refine wpAny_bind (wpAny_notOrdered_dict ty (wpAny_pure ?_))
  show wpAny _ _ (Builtin.Dict.showsAll d >>= _) _ _ _
  unfold Builtin.Dict.showsAll; rw [if_neg (fun z => by rw [nm] at z; cases z)]
  refine wpAny_bind (wpAny_pure (wpAny_bind (wpAny_dictEntries g1 g3 (wpAny_bind (wpAny_dictEpoch g1 g3 ?_)))))
  refine wpAny_bind (wpAny_newObj_type (wpAny_pure ⟨_, rfl, "dict_keyiterator", _, ⟨_, Heap.get?_push_size _ rfl, rfl⟩, F.slot_dict_keyiterator_next.lookup, ?_⟩)); simpa [rawInt] using q
theorem de_item {Q : Option Value → Shared → Prop} {e : DictEntry} (ki : s.heap.IsKeyIter I d i es.size ep) (x : DE s.heap d es ep) (hx : es[i]? = some e)
    (q : ∀ h', h'.IsKeyIter I d (i + 1) es.size ep → Heap.SameBut I s.heap h' → Q (some e.key) { s with heap := h' }) : wpAny (model prog w) A (pyNext (.ref I)) Q E s := by
  obtain ⟨oi, k1, k2, k3⟩ := id ki
  obtain ⟨ob, g1, g2, g3⟩ := id x
  unfold pyNext; refine wpAny_bind (wpAny_attempt (wpAny_callSpecial?_slot (name := Str.ofString "__next__") ki.typeIs F.slot_dict_keyiterator_next (wpAny_call_entry F.slot_dict_keyiterator_next ki.typeIs F.entry_dict_keyiterator_next ?_ (F.args_dict_keyiterator_next_1 _))))
  refine wpAny_bind (wpAny_pure (wpAny_bind (wpAny_bind ?_)))
  first | refine wpAny_bind (wpAny_typeNameOfWhole_keyiter ki.typeIs (wpAny_pure ?_)) | refine wpAny_bind (wpAny_typeNameOf_keyiter ki.typeIs (wpAny_pure ?_))
  refine wpAny_bind (wpAny_fieldsOf k1 k3 ?_); have own : Builtin.Dict_items.ownsTuple "dict_keyiterator" = false := by decide
  simp only [own, Bool.false_eq_true, if_false]; show wpAny _ _ (if (Value.ref d == Value.none) = true then _ else _) _ _ _
  rw [if_neg (fun z : (Value.ref d == Value.none) = true => Bool.false_ne_true z)]; refine wpAny_bind (wpAny_pure (wpAny_bind (wpAny_dictEntries g1 g3 ?_)))
  rw [if_neg (by simp)]; refine wpAny_bind (wpAny_pure (wpAny_bind (wpAny_dictEpoch g1 g3 ?_)))
  rw [if_neg (by simp)]; refine wpAny_pure ?_
  obtain ⟨hlt, rfl⟩ := Array.getElem?_eq_some_iff.mp hx
  simp only [show ¬ ((i : Int) < 0) from by lia, if_false, Int.toNat_natCast, Array.getElem?_eq_getElem hlt]; refine wpAny_bind ?_
  first | refine wpAny_bind (wpAny_typeNameOfWhole_keyiter ki.typeIs (wpAny_pure ?_)) | refine wpAny_bind (wpAny_typeNameOf_keyiter ki.typeIs (wpAny_pure ?_))
  refine wpAny_bind (wpAny_isOneOf_keyiter ki.typeIs ?_); show wpAny _ _ (setField (.ref I) 1 (rawInt ((i : Int) + 1)) >>= _) _ _ _
  refine wpAny_bind (wpAny_setField k1 k3 (by simp) ?_)
  have ki' : (s.heap.update I (Obj.mapFields (·.setIfInBounds 1 (rawInt ((i : Int) + 1))))).IsKeyIter I d (i + 1) es.size ep := ⟨_, Heap.get?_update_self _ k1 (Obj.isFreed_of_fields (Obj.data_mapFields k3 _)), (Obj.cls_mapFields ..).trans k2, by rw [Obj.data_mapFields k3]; simp [rawInt]⟩
  refine wpAny_bind (wpAny_holding (wpAny_bind (wpAny_isOneOf_keyiter (s := { s with heap := s.heap.update I (Obj.mapFields (·.setIfInBounds 1 (rawInt ((i : Int) + 1)))) }) ki'.typeIs ?_)))
  show wpAny _ _ (pure es[i].key) _ _ _; exact wpAny_pure (wpAny_pure ⟨_, rfl, wpAny_pure (q _ ki' (Heap.SameBut.update ..))⟩)
theorem de_end {Q : Option Value → Shared → Prop} (hh : A.handled = none) (ki : s.heap.IsKeyIter I d i es.size ep) (x : DE s.heap d es ep) (hx : es.size ≤ i)
    (q : ∀ h', Heap.ExtBut I s.heap h' → Q none { s with heap := h' }) : wpAny (model prog w) A (pyNext (.ref I)) Q E s := by
  obtain ⟨oi, k1, k2, k3⟩ := id ki
  obtain ⟨ob, g1, g2, g3⟩ := id x
  unfold pyNext; refine wpAny_bind (wpAny_attempt (wpAny_callSpecial?_slot (name := Str.ofString "__next__") ki.typeIs F.slot_dict_keyiterator_next (wpAny_call_entry F.slot_dict_keyiterator_next ki.typeIs F.entry_dict_keyiterator_next ?_ (F.args_dict_keyiterator_next_1 _))))
  refine wpAny_bind (wpAny_pure (wpAny_bind (wpAny_bind ?_)))
  first | refine wpAny_bind (wpAny_typeNameOfWhole_keyiter ki.typeIs (wpAny_pure ?_)) | refine wpAny_bind (wpAny_typeNameOf_keyiter ki.typeIs (wpAny_pure ?_))
  refine wpAny_bind (wpAny_fieldsOf k1 k3 ?_); have own : Builtin.Dict_items.ownsTuple "dict_keyiterator" = false := by decide
  simp only [own, Bool.false_eq_true, if_false]; show wpAny _ _ (if (Value.ref d == Value.none) = true then _ else _) _ _ _
  rw [if_neg (fun z : (Value.ref d == Value.none) = true => Bool.false_ne_true z)]; refine wpAny_bind (wpAny_pure (wpAny_bind (wpAny_dictEntries g1 g3 ?_)))
  rw [if_neg (by simp)]; refine wpAny_bind (wpAny_pure (wpAny_bind (wpAny_dictEpoch g1 g3 ?_)))
  rw [if_neg (by simp)]; refine wpAny_pure ?_
  simp only [show ¬ ((i : Int) < 0) from by lia, if_false, Int.toNat_natCast, Array.getElem?_eq_none hx]; refine wpAny_bind ?_
  first | refine wpAny_bind (wpAny_typeNameOfWhole_keyiter ki.typeIs (wpAny_pure ?_)) | refine wpAny_bind (wpAny_typeNameOf_keyiter ki.typeIs (wpAny_pure ?_))
  show wpAny _ _ (setField (.ref I) 0 .none >>= _) _ _ _; refine wpAny_bind (wpAny_setField k1 k3 (by simp) ?_)
  show wpAny _ _ (newExc (.type "StopIteration") [] >>= _) _ _ _; refine wpAny_bind ?_; simp only [newExc, newTuple]
  refine wpAny_bind (wpAny_newObj_type (wpAny_bind (m := firstArgMember _ _) (wpAny_of_eq (a := Value.none) (by first | rfl | (simp only [firstArgMember]; rfl)) (wpAny_newObj_type ?_ (by size_fits)))) (by size_fits))
  simp only [raiseNew]; refine wpAny_bind (wpAny_handled ?_); rw [show A.in1.handled = none from hh]
  refine wpAny_bind (wpAny_pure (wpAny_throw ?_)); refine wpAny_bind (wpAny_isInstance (T := "StopIteration") (b := true) ⟨_, Heap.get?_push_size _ rfl, rfl⟩ isSubtype_stop ?_)
  exact wpAny_pure (q _ (((Heap.SameBut.update ..).extBut.push _).push _))
end
section
variable {X : Cx}
theorem KT.at {H : Hp} : ∀ {kvs : List (List Key × V)} {xs : List (List Key × Addr × Value)} {i : Nat} {kv : List Key × V}, KT H kvs xs → kvs[i]? = some kv → ∃ x, xs[i]? = some x ∧ H x.2.1 = some (.tup (kv.1.map kV))
  | _, _, _, _, .nil, h => by cases h
  | _, _, 0, _, .cons r t, h => by cases h; exact ⟨_, rfl, r.2.1⟩
  | _, _, i + 1, _, .cons r t, h => KT.at (i := i) t h
end
end L2
set_option Elab.async false
set_option linter.all false
set_option maxRecDepth 100000
set_option maxHeartbeats 4000000
namespace L2
open PySem PySem.Spec PyProof.Rows
section
variable {X : Cx} {C : Addr} {cn en : Str} {ie : Nat} {b₀ : Stmt} {suite : List Stmt} {cp hp : Pos} {ts : TS} {rest : List ExceptHandler} {tr : TH}
end
section
variable {X : Cx}
end
section
variable {X : Cx} {k : Nat} {f C : Addr} {fd : FuncData} {ps : List Str} {sp : Sp} {dvs : List V} {ds : List Value} {x m : Str} {p pos apos : Pos} {e o : Expr} {es : List Expr} {ta : TE} {t : TA}
end
end L2
set_option Elab.async false
set_option linter.all false
namespace L2
open PySem PySem.Spec PyProof.Rows
section
variable {X : Cx} {e : Expr} {es : List Expr} {pos : Pos}
theorem o_and : OpR X (binaryOp .BitAnd) (rI2 fun i j => .int (Builtin.bitAnd i j)) := op_and.i2
end
end L2
set_option Elab.async false
set_option linter.all false
set_option maxRecDepth 100000
set_option maxHeartbeats 4000000
namespace L2
open PySem PySem.Spec PyProof.Rows PySem.W
section
variable {X : Cx} {K : PySem.W.Frag}
end
end L2
set_option Elab.async false
set_option linter.all false
set_option maxRecDepth 100000
set_option maxHeartbeats 4000000
namespace L2
open PySem PySem.Spec PyProof.Rows PySem.W
section
variable {X : Cx} {pins : List (Addr × Obj)} {σ : St} {H : Hp} {s : Shared} {a : Addr} {kvs : List (List Key × V)} {o : Obj}
theorem Inv.freeze (I : Inv X pins σ H s) (h : Rd H a (.dT kvs)) (ho : s.heap.get? a = some o) : Inv X pins σ (upd H a (.frz o (.dT kvs))) s := by
  have hok := h.ok I.hok
  have hs : ∃ u, H a = some u := by rcases h with e | ⟨_, e⟩ <;> exact ⟨_, e⟩
  have nn : ∀ {b}, H b = none → b ≠ a := fun {b} e z => by subst z; obtain ⟨u, q⟩ := hs; rw [e] at q; cases q
  have nt : ∀ {b xs}, H b = some (.tup xs) → b ≠ a := fun {b xs} e z => by subst z; rcases h with q | ⟨_, q⟩ <;> (rw [e] at q; cases q)
  have no : ∀ {b y}, H b = some (.own y) → b ≠ a := fun {b y} e z => by subst z; rcases h with q | ⟨_, q⟩ <;> (rw [e] at q; cases q)
  have nb : ∀ {b ps}, H b = some (.tbl ps) → b ≠ a := fun {b ps} e z => by subst z; rcases h with q | ⟨_, q⟩ <;> (rw [e] at q; cases q)
  have fz : ∀ b u v, H b = some (.frz u v) → (upd H a (.frz o (.dT kvs))) b = some (.frz u v) := fun b u v e => by
    by_cases c : b = a
    · subst c
      rcases h with q | ⟨o', q⟩
      · rw [e] at q; cases q
      · rw [e] at q
        cases q
        obtain ⟨g, _⟩ := (show ObjOk X.prog X.w H s.heap b (.frz u (.dT kvs)) from I.hok b _ e)
        rw [ho] at g
        cases g
        exact upd_same
    · rw [upd_ne c]; exact e
  refine ⟨I.ok, I.os, I.bare, ⟨I.base.keep, I.base.slot, fun b u e n hx => ?_, I.base.there, fun b xs e => ?_, fun b u v e => fz b u v (I.base.frzs b u v e), fun b ps e => ?_⟩, I.loc, I.cell, ?_, fun x c e => ?_, fun p hp => ?_, fun b u e => ?_, I.len⟩
  · have := I.base.free b u e n hx; rw [upd_ne (nn this)]; exact this
  · have := I.base.tups b xs e; rw [upd_ne (nt this)]; exact this
  · obtain ⟨more, z⟩ := I.base.tbls b ps e; exact ⟨more, by rw [upd_ne (nb z)]; exact z⟩
  · rw [upd_ne (nn I.free)]; exact I.free
  · rw [upd_ne (nn (I.freeC x c e))]; exact I.freeC x c e
  · obtain ⟨g1, g2, g3⟩ := I.pin p hp; exact ⟨g1, by rw [upd_ne (nn g2)]; exact g2, g3⟩
  · by_cases hb : b = a
    · subst hb
      rw [upd_same] at e
      cases e
      exact ⟨ho, hok.stay (fun _ _ _ q => q) (fun c q => by rw [upd_ne (no q)]; exact q) fun c xs q => by rw [upd_ne (nt q)]; exact q⟩
    · rw [upd_ne hb] at e
      exact (I.hok b u e).stay (fun _ _ _ q => q) (fun c q => by rw [upd_ne (no q)]; exact q) fun c xs q => by rw [upd_ne (nt q)]; exact q
end
noncomputable def Itd (d : Addr) (o : Obj) (kvs : List (List Key × V)) : It :=
  ⟨fun i H => H d = some (.frz o (.dT kvs)) ∧ i < kvs.length, fun i H x H' => H' = H ∧ ∃ b kv, kvs[i]? = some kv ∧ x = .ref b ∧ H b = some (.tup (kv.1.map kV)), fun i H => H d = some (.frz o (.dT kvs)) ∧ kvs.length ≤ i⟩
theorem frz_de {P : Program} {w : World} {H : Hp} {h : Heap} {d : Addr} {o : Obj} {kvs : List (List Key × V)} (ok : HOk P w H h) (e : H d = some (.frz o (.dT kvs))) : ∃ xs es ep, KT H kvs xs ∧ h.get? d = some o ∧ o.ExactDict ∧ o.data = .dict es ep ∧ es.toList = xs.map (entryOfKey (tupleKind (mixKind P w))) ∧ (d == sysModules) = false := by
  obtain ⟨g, z, y, xs, r, o', es, ep, h1, h2, h3, h4, h5⟩ := (show ObjOk P w H h d (.frz o (.dT kvs)) from ok d _ e)
  rw [g] at h1
  cases h1
  exact ⟨xs, es, ep, r, g, h2, h3, h4, y⟩
theorem turn_dT {P : Program} {w : World} {K : PySem.W.Frag} {tg : Expr} {d it : Addr} {o : Obj} {kvs : List (List Key × V)} {es : Array DictEntry} {ep : Nat} (hdat : o.data = .dict es ep) (hsz : es.size = kvs.length) : Turn P w K tg (Itd d o kvs) [it] it (fun i h => h.IsKeyIter it d i es.size ep) where
  mem := List.mem_cons_self ..
  obj := fun i h st b hb => by
    have e : b = it := List.mem_singleton.mp hb
    subst e
    obtain ⟨o, e, c, d⟩ := st
    exact ⟨o, e, fun v z => by rw [d] at z; cases z⟩
  keep := fun i h h' st k => st.at fun o e => k it (List.mem_cons_self ..) o e
  item := by
    intro X hP hw hK hc i pins s σ H E I hf st hg
    subst hP hw hK
    obtain ⟨hd, hi⟩ := hg
    obtain ⟨xs, es', ep', rel, g1, g2, g3, g4, g5⟩ := frz_de I.hok hd
    have e0 := hdat.symm.trans g3
    cases e0
    obtain ⟨f0, f1, f2, f3, f4, f5⟩ := hf it (List.mem_cons_self ..)
    obtain ⟨kv, hkv⟩ : ∃ kv, kvs[i]? = some kv := ⟨_, List.getElem?_eq_getElem hi⟩
    obtain ⟨x, hx, hH⟩ := rel.at hkv
    have he : es[i]? = some (entryOfKey (tupleKind (mixKind X.prog X.w)) x) := by rw [entry_at g4, hx]; rfl
    refine de_item st ⟨o, g1, g2, g3⟩ he fun h' st' sb => ?_
    have I1 : Inv X pins σ H { s with heap := h' } := I.turned (t' := s.toks) (fun b o hb e => (sb.2 b hb).trans e) f0 f1 f3 f4 f5
    obtain ⟨oi, e, c, dd⟩ := id st'
    exact ⟨_, rfl, go_of (s := { s with heap := h' }) e c dd (by decide) ⟨.ref x.2.1, H, I1, rfl, ⟨rfl, x.2.1, kv, hkv, rfl, hH⟩, st', fun b hb => (hf b hb).1⟩⟩
  done := by
    intro X hP hw hK hc i pins s σ H E I hf st hg
    subst hP hw hK
    obtain ⟨hd, hi⟩ := hg
    obtain ⟨xs, es', ep', rel, g1, g2, g3, g4, g5⟩ := frz_de I.hok hd
    have e0 := hdat.symm.trans g3
    cases e0
    obtain ⟨f0, f1, f2, f3, f4, f5⟩ := hf it (List.mem_cons_self ..)
    exact de_end (I.ok.hd hc) st ⟨o, g1, g2, g3⟩ (by lia) fun h' eb => ⟨rfl, I.turned (t' := s.toks) (fun b o hb e => eb b o hb e) f0 f1 f3 f4 f5⟩
  self := fun _ _ _ _ _ st h => wpAny_pyIter_keyiter st h
theorem pi_dT {X : Cx} {tg e : Expr} {te : TE} (he : PE X e te) : PI X tg e (fun σ H R => te σ H fun x H1 => ∃ d kvs, x = .ref d ∧ Rd H1 d (.dT kvs) ∧ ∀ o, R (Itd d o kvs) (upd H1 d (.frz o (.dT kvs)))) := by
  intro pins s σ H R I h
  refine thn (he pins s σ H _ I h) fun v s1 ⟨x, H1, I1, r1, d, kvs, ex, hd, q⟩ => ?_
  subst ex
  obtain rfl : v = Value.ref d := r1
  obtain ⟨o, ho⟩ : ∃ o, s1.heap.get? d = some o := by
    obtain ⟨_, _, xs, _, o, _, _, g, _⟩ := (show ObjOk X.prog X.w H1 s1.heap d (.dT kvs) from hd.ok I1.hok)
    exact ⟨o, g⟩
  have I2 := I1.freeze hd ho
  obtain ⟨xs, es, ep, rel, g1, g2, g3, g4, g5⟩ := frz_de I2.hok upd_same
  have hsz : es.size = kvs.length := by rw [size_of_entries g4, Paired.length rel]
  refine de_iter g5 ⟨o, g1, g2, g3⟩ ?_
  refine ⟨s1.heap.objs.size, [s1.heap.objs.size], _, _, _, rfl, I2.kept (t' := s1.toks) fun b o e => Heap.get?_push_of_some _ e, turn_dT g3 hsz, ⟨_, Heap.get?_push_size _ rfl, rfl, rfl⟩, fun b hb => ?_, q o⟩
  have e : b = s1.heap.objs.size := List.mem_singleton.mp hb
  subst e
  exact I2.fpOk (Nat.le_refl _) (I2.hok.fresh (Nat.le_refl _))
theorem comp_dT {D : Addr} {σb : St} {g : TG} {tt : TT} {te : TE} {Q : Hp → List V → Prop} {H : Hp} {d : Addr} {o : Obj} {kvs : List (List Key × V)} (Pv : Nat → List V → Hp → Prop) (h0 : Pv 0 [] H) (hq : ∀ i ys H, Pv i ys H → H d = some (.frz o (.dT kvs))) (hl : ∀ i ys H, Pv i ys H → H D = some (.lst ys))
    (hs : ∀ (i : Nat) kv b ys H P, kvs[i]? = some kv → H b = some (.tup (kv.1.map kV)) → Pv i ys H → (∀ a b, Pv (i + 1) a b → P a b) → CompT D σb g tt te (.ref b) ys H P) (hd : ∀ ys H, Pv kvs.length ys H → Q H ys) : ∃ W, (∃ m, W 0 m [] H) ∧ CompW (Itd d o kvs) D σb g tt te Q W := by
  refine ⟨fun i m ys H => m = kvs.length - i ∧ i ≤ kvs.length ∧ Pv i ys H, ⟨_, rfl, Nat.zero_le _, h0⟩, ?_⟩
  rintro i m ys H ⟨rfl, hi, p⟩
  refine ⟨hl i ys H p, ?_⟩
  have q := hq i ys H p
  by_cases hlt : i < kvs.length
  · refine .inr ⟨⟨q, hlt⟩, fun x H3 y => ?_⟩
    obtain ⟨rfl, b, kv, hkv, rfl, hb⟩ := y
    exact hs i kv b ys _ (fun a b => ∃ m', m' < kvs.length - i ∧ m' = kvs.length - (i + 1) ∧ i + 1 ≤ kvs.length ∧ Pv (i + 1) a b) hkv hb p (fun a b q => ⟨kvs.length - (i + 1), by lia, rfl, hlt, q⟩)
  · have e : i = kvs.length := by lia
    subst e
    exact .inl ⟨⟨q, Nat.le_refl _⟩, hd ys H p⟩
end L2
set_option Elab.async false
set_option linter.all false
set_option maxRecDepth 100000
set_option maxHeartbeats 4000000
namespace L2
open PySem PySem.Spec PyProof.Rows PySem.W
section
variable {prog : Program} {w : World} {A : Around} {E : Value → Shared → Prop} {s : Shared} {d : Addr} {es : Array DictEntry} {ep : Nat}
theorem de_meets (nm : (d == sysModules) = false) : MeetsIn prog w (Builtin.«dict.__len__» ⟨[.ref d], []⟩) (fun _ R s => DE s.heap d es ep ∧ R (.ok (.ret (.int es.size s.toks))) { s with toks := s.toks + 1 }) :=
  .of_wp fun A R s ⟨hm, h⟩ => by
    obtain ⟨ob, g1, g2, g3⟩ := hm
    show wpAny _ _ (dictSize d >>= _) _ _ _; unfold dictSize
    refine wpAny_bind (wpAny_bind (wpAny_dictEntries g1 g3 (wpAny_pure ?_))); show wpAny _ _ (Builtin.Dict.pendingCount d >>= _) _ _ _
    refine wpAny_bind (wpAny_pendingCount_other nm (wpAny_ret_mkInt ?_)); rw [Nat.add_zero]; exact h
theorem de_lenB {Q : Value → Shared → Prop} (nm : (d == sysModules) = false) (x : DE s.heap d es ep) (hf : (es.size : Int) < 2 ^ 63)
    (h : Q (.int es.size (s.toks + 1)) { s with toks := s.toks + 1 + 1 }) : wpAny (model prog w) A (Builtin.«len» ⟨[.ref d], []⟩) (fun fin s' => ∃ r, fin = .done (.ret r) ∧ Q r s') E s := by
  unfold Builtin.«len»; refine wpAny_bind (m := oneArg "len" _) (wpAny_pure ?_)
  refine wpAny_bind (m := callSpecial? (.ref d) (Str.ofString "__len__")) (wpAny_callSpecial?_slot (name := Str.ofString "__len__") x.ty F.slot_dict_len (call_meetsIn F.slot_dict_len x.ty F.entry_dict_len (F.args_dict_len_1 _) (de_meets (es := es) (ep := ep) nm) ⟨x, ?_⟩))
  show wpAny _ _ _ _ _ { s with toks := s.toks + 1 }; refine wpAny_bind (wpAny_holding (wpAny_pure (wpAny_bind (wpAny_letGo ?_))))
  show wpAny _ _ (if ((es.size : Nat) : Int) < 0 then _ else _) _ _ _; rw [if_neg (by lia)]
  show wpAny _ _ (if ((es.size : Nat) : Int) ≥ 2 ^ 63 then _ else _) _ _ _; rw [if_neg (by lia)]
  exact wpAny_bind (wpAny_mkInt (wpAny_pure ⟨_, rfl, h⟩))
theorem de_truth {Q : Bool → Shared → Prop} (nm : (d == sysModules) = false) (x : DE s.heap d es ep) (hf : (es.size : Int) < 2 ^ 63) (h : Q ((es.size : Int) != 0) { s with toks := s.toks + 1 + 1 }) : wpAny (model prog w) A (truthy (.ref d)) Q E s := by
  have key : wpAny (model prog w) A (runValue (.builtin "len" ⟨[.ref d], []⟩)) (fun r s' => r = .int es.size (s.toks + 1) ∧ Q ((es.size : Int) != 0) s') E s := by
    refine wpAny_runValue (codeAny_builtin entry_len ?_); rw [Around.under_plainId plain_len _]
    exact wpAny_mono (de_lenB (Q := fun r s' => r = .int es.size (s.toks + 1) ∧ Q ((es.size : Int) != 0) s') nm x hf ⟨rfl, h⟩) (fun fin s' h' => by obtain ⟨r, rfl, hq⟩ := h'; exact hq) fun _ _ e => e
  unfold truthy
  first | refine wpAny_bind (wpAny_callSpecial?_none (name := Str.ofString "__bool__") x.ty noBool_dict ?_) | refine wpAny_bind (wpAny_pure (wpAny_bind (wpAny_callSpecial?_none (name := Str.ofString "__bool__") x.ty noBool_dict ?_)))
  first | refine wpAny_bind (wpAny_specialOf (name := Str.ofString "__len__") x.ty F.slot_dict_len.lookup ?_) | refine wpAny_bind (wpAny_pure (wpAny_bind (wpAny_specialOf (name := Str.ofString "__len__") x.ty F.slot_dict_len.lookup ?_)))
  first | exact wpAny_bind (wpAny_mono key (fun r s' h' => by obtain ⟨rfl, hq⟩ := h'; exact wpAny_pure hq) fun _ _ e => e) | exact wpAny_bind (wpAny_pure (wpAny_bind (wpAny_mono key (fun r s' h' => by obtain ⟨rfl, hq⟩ := h'; exact wpAny_pure hq) fun _ _ e => e)))
end
section
variable {X : Cx}
theorem pt_truthD {a : Expr} {ta : TE} (ha : PE X a ta) (he : ∀ whole, isTrue a X.env whole = (do let v ← whole; standAt a.pos; holding [v] (truthy v))) :
    PT X a (fun σ H Q => ta σ H fun x H' => ∃ d kvs, x = .ref d ∧ Rd H' d (.dT kvs) ∧ Q (!kvs.isEmpty) H') := by
  intro pins s σ H Q I h
  refine isTrue_plain (thn (ha pins s σ H _ I h) fun v s1 ⟨x, H1, I1, r1, d, kvs, ex, hd, q1⟩ => ?_) (he _)
  subst ex
  obtain rfl : v = Value.ref d := r1
  obtain ⟨z, nm, xs, rel, o, es, ep, g1, g2, g3, g4, g5⟩ := (show ObjOk X.prog X.w H1 s1.heap d (.dT kvs) from hd.ok I1.hok)
  have hsz : es.size = kvs.length := by rw [size_of_entries g4, Paired.length rel]
  have sl : sizeLine = 16777216 := sizeLine_eq
  refine de_truth nm ⟨o, g1, g2, g3⟩ (by lia) ?_
  have e : ((es.size : Int) != 0) = !kvs.isEmpty := by rw [hsz]; cases kvs <;> simp <;> lia
  rw [e]
  exact ⟨H1, I1.tok _, q1⟩
theorem call_minL (hc : X.calm = true) : CallR X (.builtin "min") (fun xs H Q => ∃ (p : Addr) (ns : List Int), xs = [.ref p] ∧ SqL X.K H p (ns.map V.int) ∧ 0 < ns.length ∧ ∀ m ∈ ns, (∀ x ∈ ns, m ≤ x) → Q (.int m) H) := by
  intro pins s σ H xs us Q I r h
  obtain ⟨p, ns, rfl, hq, hne, q⟩ := h
  obtain ⟨u, rfl, rx⟩ := vals1 r
  cases rx
  obtain ⟨its, rv, pl, hz⟩ := I.list hq
  have hi := ints_are rv
  obtain ⟨ys, e⟩ := hi.allInts.items
  have hns : ns = ys.toList.map (·.1) := by rw [← hi.numsOf, ← nums_intItems, ← e]
  have hsz : 0 < ys.size := by have h3 := hne; rw [hns, List.length_map, Array.length_toList] at h3; exact h3
  refine min_intList (I.ok.hd hc) (xs := ys) (by rw [← e]; exact pl.isList) hsz fun v h' tk hv hk => ?_
  obtain ⟨t, rfl⟩ := intItems_at hv
  obtain ⟨h1, h2⟩ := argBest_lt (numAt ys) (ys.size - 1)
  refine ⟨.int _, H, I.kept hk, ⟨_, rfl⟩, q _ ?_ fun x hx => ?_⟩
  · rw [hns, numAt_eq]; exact getD_mem (by rw [List.length_map, Array.length_toList]; lia)
  · rw [hns] at hx
    obtain ⟨j, hj, rfl⟩ := mem_getD hx
    rw [List.length_map, Array.length_toList] at hj
    rw [← numAt_eq]; exact h2 j (by lia)
noncomputable def rInsert0 : V → List V → Hp → VK → Prop := fun x vs H Q => ∃ l xs y, x = .ref l ∧ vs = [.int 0, y] ∧ H l = some (.lst xs) ∧ xs.length < sizeLine ∧ Q .non (upd H l (.lst (y :: xs)))
theorem mt_insert0 : MtM X "list.insert" rInsert0 := by
  intro pins s σ H x vs v us Q I rx rv h
  obtain ⟨l, xs, y, rfl, rfl, hH, hz, q⟩ := h
  cases rx
  obtain ⟨u0, u, rfl, ⟨t, rfl⟩, ru⟩ := rv.two
  obtain ⟨z, its, n, r, hl, e⟩ := I.lstM hH
  refine call_meets F.slot_list_insert ⟨_, e, rfl⟩ F.entry_list_insert (F.args_list_insert_3 _ _ _) (AutoListH.list_insert_list_int_val_1 l its.toArray n 0 t u (by rw [fitsIndex_both (by decide) (by decide)]; exact Bool.false_ne_true) (by rw [List.size_toArray]; lia)) ⟨e, ?_⟩
  refine ⟨.non, _, I.lset (its' := u :: its) hH e ?_ (.cons ru r) ?_, rfl, q⟩
  · simp
  · rw [List.length_cons]; lia
variable {o e : Expr} {es : List Expr} {to : TE} {t : TA} {apos cpos : Pos}
theorem pe_m.insert0 (ho : PE X o to) (ha : PA X (e :: es) t) (hbase : attributeBase o "insert" X.env (eval o X.env) = eval o X.env := by rfl)
    (hfew : ((backTo cpos (starEach (e :: es) X.env)).all (fun x => !x.1) && (backToKw cpos (keywordEach [] X.env)).all (fun x => x.1.isSome) && decide ((e :: es).length + ([] : List Keyword).length + (if ([] : List Keyword).isEmpty then 0 else 1) < 30)) = true := by rfl)
    (hline : (apos.endLine == cpos.line) = true := by rfl) (hs : starEach (e :: es) X.env = (false, eval e X.env) :: starEach es X.env := by rfl) (hplain : (backTo cpos (starEach es X.env)).any (·.1) = false := by rfl) :
    PE X (.Call (.Attribute o "insert" apos) (e :: es) [] cpos) (tBM X.K "list" rInsert0 to t) := pe_bm F.plainAttrs_list F.slot_list_insert F.type_list_insert mt_insert0 ho ha hbase hfew hline hs hplain
end
end L2
set_option Elab.async false
set_option linter.all false
set_option maxRecDepth 100000
set_option maxHeartbeats 4000000
namespace L2
open PySem PySem.Spec PyProof.Rows
noncomputable def ifE : Stmt → Expr
  | .If c _ _ _ => c
  | _ => dE
noncomputable def notE : Expr → Expr
  | .UnaryOp _ e _ => e
  | _ => dE
noncomputable abbrev TN := VK → St → Hp → Prop
noncomputable def PN (X : Cx) (sts : List Stmt) (t : TN) : Prop :=
  ∀ (pins : List (Addr × Obj)) (s : Shared) (σ : St) (H : Hp) (R : VK), Inv X pins σ H s → t R σ H →
    wpAny (model X.prog X.w) X.A (execs sts X.env) (fun f s' => f = .next ∧ ∃ H', s'.os = X.s₀.os ∧ AllBare s'.gens ∧ Un X.fs X.ex X.H₀ H' X.s₀.heap s'.heap ∧ HOk X.prog X.w H' s'.heap ∧ R .non H') X.xe s
theorem pn_cons {X : Cx} {st : Stmt} {rest : List Stmt} {t : TS} {u : TN} (h1 : PS X st t) (h2 : PN X rest u) : PN X (st :: rest) (fun R σ H => t { nx := u R, rt := fun _ _ => False } σ H) := by
  intro pins s σ H R I h
  refine wpAny_execs_cons (thn (h1 pins s σ H { nx := u R, rt := fun _ _ => False } I h) fun f s1 q => ?_)
  cases f with
  | next =>
    obtain ⟨σ', H', I', q⟩ := q
    exact h2 pins s1 σ' H' R I' q
  | ret v => obtain ⟨v', σ', H', I', r, q⟩ := q; exact False.elim q
  | brk => obtain ⟨_, _, _, q⟩ := q; exact False.elim q
  | cont => obtain ⟨_, _, _, q⟩ := q; exact False.elim q
section
variable {P : Program} {w : World} {K : PySem.W.Frag} {mg : Str → Option Value} {base : Heap}
theorem pn_ifC {N : List Str} {qual : Str} {scope : Scope} {f : Addr} {cd : Value} {A : Around} {outer : List Env} {s : Shared} {H : Hp} {E : XK} {k : Nat} {g : Addr} {fd : FuncData} {ps : List Str} {sp : Sp} {ds : List Value} {dvs : List V} {x : Str} {p pos rp p2 : Pos} {bd : List Stmt} {e : Expr} {es : List Expr} {t : TA}
    (hN : N.Nodup) (hck : ∀ p ∈ scope.names, p.2 = .cell → scope.names.lookup p.1 = some .cell)
    (F : FnOk P w K mg base CX0 k g fd ps sp) (hr : Room k (cxOf CX0 P w K mg base N qual scope f cd A outer s H E).nox.A) (hg : Gl (cxOf CX0 P w K mg base N qual scope f cd A outer s H E).nox x) (hm : mg x = some (.ref g)) (hk : PySem.W.keepIn K (.ref g) = true) (hb : Binds K fd ps ds) (hd : Vals dvs ds)
    (ha : PA (cxOf CX0 P w K mg base N qual scope f cd A outer s H E).nox (e :: es) t) (hdb : (x == ("__debug__" : Str)) = false := by decide)
    (he : starEach (e :: es) (cxOf CX0 P w K mg base N qual scope f cd A outer s H E).nox.env = (false, eval e (cxOf CX0 P w K mg base N qual scope f cd A outer s H E).nox.env) :: starEach es (cxOf CX0 P w K mg base N qual scope f cd A outer s H E).nox.env := by rfl)
    (hpl : (backTo pos (starEach es (cxOf CX0 P w K mg base N qual scope f cd A outer s H E).nox.env)).any (·.1) = false := by rfl) :
    PN (cxOf CX0 P w K mg base N qual scope f cd A outer s H E).nox [.If (.UnaryOp .Not (.Call (.Name x p) (e :: es) [] pos) p2) bd [] rp]
      (fun R σ H' => t σ H' fun vs H1 => ∀ H3, Same H1 H3 → CellsOf (cellsFrom (s.heap.objs.size + 1) scope.names []) N σ H3 → sp (vs ++ dvs) H3 (fun v H4 => v = .bl true ∧ R .non H4) fun _ _ _ => False) := by
  intro pins s1 σ H1 R I h
  refine wpAny_execs_cons (wpAny_If (isTrue_not (isTrue_plain ?_)))
  refine wpAny_Call_Name_kw (ld_glob I hg hm ?_ hdb)
  refine PySem.W.callWith_K (h₀ := base) I.ok.mod.kin hk (thn (ha pos pins s1 σ H1 _ I h) fun us s2 ⟨vs, H2, I2, r, q⟩ => ⟨I2.kIn, ?_⟩) he hpl
  have J : Inv (cxOf CX0 P w K mg base N qual scope f cd A outer s H E) pins σ H2 s2 := I2.unwish
  obtain ⟨H3, sm, hc, hnew, un, hok⟩ := track hN hck J
  have r2 : Vals (vs ++ dvs) (us ++ ds) := r.append hd
  have q' := q H3 sm hc
  have hl : (us ++ ds).length = ps.length := by rw [← r2.length]; exact F.len _ _ _ _ q'
  have hL : ∀ b ∈ frs (envOfC qual scope s.heap.objs.size f cd :: outer), b = s.heap.objs.size ∨ b ∈ frs outer := fun b hb => by
    have : b ∈ s.heap.objs.size :: frs outer := hb
    exact List.mem_cons.mp this
  have e0 : Env0 P w K mg base (cxOf CX0 P w K mg base N qual scope f cd A outer s H E).A (envOfC qual scope s.heap.objs.size f cd :: outer) s2 H3 := by
    have z := J.env0
    refine ⟨z.frames, z.mod, fun b o e => ⟨(z.bs b o e).1, un.free b o (J.ok.bs b o e).1 (J.ok.bs b o e).2 (by simp)⟩, z.bsz, z.funs, fun b hb => ?_, hok, z.bare⟩
    cases q3 : H3 b with
    | none => rfl
    | some o =>
      obtain ⟨y, hy⟩ := hnew b (z.frf b hb) (by rw [q3]; simp)
      rcases hL b hb with rfl | hb'
      · exact absurd rfl (J.cne y _ hy)
      · obtain ⟨_, o', ho', _⟩ := J.ok.funs.mem hb'
        have := J.ok.cab y b rfl hy
        exact absurd (Nat.lt_of_lt_of_le (Heap.lt_size ho') this) (Nat.lt_irrefl _)
  refine wpAny_call (codeAny_mono (F.run _ _ s2 H3 ⟨us, []⟩ (us ++ ds) (vs ++ dvs) (fun v H4 => v = .bl true ∧ R .non H4) _ hr e0 (hb s2 us J.kIn hl) r2 q') fun rr s' hq => ?_)
  cases rr with
  | error e => exact False.elim hq
  | ok fl =>
    cases fl with
    | ret u =>
      obtain ⟨v, H4, os, bare, un2, hok4, rv, qq⟩ := hq
      have hout : ∀ b o, s.heap.get? b = some o → b ∉ frs outer → b ∉ frs (envOfC qual scope s.heap.objs.size f cd :: outer) := fun b o e n z => by
        rcases hL b z with rfl | z
        · exact absurd (Heap.lt_size e) (Nat.lt_irrefl _)
        · exact n z
      have hin : ∀ b, b ∈ frs outer → b ∈ frs (envOfC qual scope s.heap.objs.size f cd :: outer) := fun b z => by
        show b ∈ s.heap.objs.size :: frs outer
        exact List.mem_cons_of_mem _ z
      obtain ⟨rfl, qq⟩ := qq
      obtain rfl : u = Value.bool true := rv
      refine wpAny_truthy_bool ?_
      refine wpAny_execs_nil (wpAny_execs_nil ⟨rfl, H4, os.trans J.os, bare, ⟨fun b o e n hb hx => un2.keep b o (un.keep b o e n hb hx) (un.free b o e n hx) (hout b o e hb) hx, fun b o e n hb hx => ?_, fun b o e n hx => ?_, fun b o e hx => ?_, fun b xs e => un2.tups b xs (un.tups b xs e), fun b o u e => un2.frzs b o u (un.frzs b o u e), fun b qs e => ?_⟩, hok4, qq⟩)
      · obtain ⟨sl, e1⟩ := un.slot b o e n hb hx
        obtain ⟨sl', e2⟩ := un2.slot b _ e1 (un.free b o e n hx) (hin b hb) hx
        exact ⟨sl', e2⟩
      · obtain ⟨o', e1⟩ := un.there b o e hx
        exact un2.free b o' e1 (un.free b o e n hx) hx
      · obtain ⟨o', e1⟩ := un.there b o e hx
        exact un2.there b o' e1 hx
      · obtain ⟨m1, e1⟩ := un.tbls b qs e
        obtain ⟨m2, e2⟩ := un2.tbls b _ e1
        exact ⟨m1 ++ m2, by rw [e2, Array.append_assoc]⟩
    | next => exact False.elim hq
    | brk => exact False.elim hq
    | cont => exact False.elim hq
theorem Fun.okN {x qual : Str} {st : Stmt} {f c : Addr} {fd : FuncData} {N ps : List Str} {k : Nat} {sp : Sp} (F : Fun K x qual st f fd) (hc : fd.code = .ref c) (S : FnScope N ps (defScope st)) (hck : ∀ p ∈ (defScope st).names, p.2 = .cell → (defScope st).names.lookup p.1 = some .cell)
    (len : ∀ vs H Q E, sp vs H Q E → vs.length = ps.length)
    (hbody : ∀ (A : Around) (outer : List Env) (s : Shared) (H : Hp) (vs : List V) (Q : VK) (E : XK), Room k (A.deeper (envOfC qual (defScope st) s.heap.objs.size f (.ref c))) → sp vs H Q E →
      ∃ t, PN (cxOf CX0 P w K mg base N qual (defScope st) f (.ref c) A outer s H E).nox (defBody st) t ∧ t Q (start N vs) H) : FnOk P w K mg base CX0 (k + 1) f fd ps sp := by
  obtain ⟨oc, od, kV, doc, pm, an, cdv, ct, osl, rfl, lk, hcd⟩ := F.ex
  obtain rfl : cdv = .ref c := hc
  refine ⟨len, fun A outer s H args us vs Q E hr e0 hb r hsp => ?_⟩
  have hl := len _ _ _ _ hsp
  have KX : K.In s.heap := e0.mod.kin.keeps fun b o e => (e0.bs b o e).1
  have lim : s.heap.NoLimit := e0.mod.nolimit.keeps fun b o e => (e0.bs b o e).1
  have hkind : ∀ y ∈ ps.zip us, (defScope st).names.lookup y.1 = some .local ∨ ((defScope st).names.lookup y.1 = some .cell ∧ ((cellsFrom (s.heap.objs.size + 1) (defScope st).names []).lookup y.1).isSome = true) := fun ⟨n, v⟩ hy => by
    rcases S.par n (List.of_mem_zip hy).1 with q | q
    · exact .inl q
    · exact .inr ⟨q, PySem.W.cellsFrom_some _ _ _ (.inl q)⟩
  refine codeAny_call_function hr.depth (KX _ _ lk) rfl S.co S.gen rfl (PySem.W.codeRec_of KX hcd) (hb _ _ _ _ ?_)
  refine wpAny_newFunctionEnv_cells S.kind hkind fun env he s1 x => ?_
  subst he
  refine ⟨lim.keeps x.toInCall.keep, codeAny_func ?_⟩
  obtain ⟨t, ht, hq⟩ := hbody A outer s H vs Q E (hr.deeper _) hsp
  have I : Inv (cxOf CX0 P w K mg base N qual (defScope st) f (.ref c) A outer s H E) [] (start N vs) H s1 := inv_start S hr.hd e0 hl r x
  refine wpAny_mono (ht [] s1 (start N vs) H Q (I.wish _) hq) (fun fl s' hs => ?_) fun e s' hs => False.elim hs
  obtain ⟨rfl, H', g1, g2, g3, g4, q⟩ := hs
  exact ⟨.non, H', g1, g2, g3, g4, rfl, q⟩
end
end L2
set_option linter.all false
set_option maxHeartbeats 1000000
namespace Led
noncomputable def sI (f : Nat → Int) : Nat → Int
  | 0 => 0
  | n + 1 => sI f n + f n
theorem sI_congr {f g : Nat → Int} : ∀ {n : Nat}, (∀ i < n, f i = g i) → sI f n = sI g n
  | 0, _ => rfl
  | n + 1, h => by rw [sI, sI, sI_congr (fun i hi => h i (by lia)), h n (by lia)]
theorem sI_add (f g : Nat → Int) : ∀ n, sI (fun i => f i + g i) n = sI f n + sI g n
  | 0 => rfl
  | n + 1 => by rw [sI, sI, sI, sI_add f g n]; lia
theorem sI_sub (f g : Nat → Int) : ∀ n, sI (fun i => f i - g i) n = sI f n - sI g n
  | 0 => rfl
  | n + 1 => by rw [sI, sI, sI, sI_sub f g n]; lia
theorem sI_zero {f : Nat → Int} : ∀ {n : Nat}, (∀ i < n, f i = 0) → sI f n = 0
  | 0, _ => rfl
  | n + 1, h => by rw [sI, sI_zero (fun i hi => h i (by lia)), h n (by lia)]; rfl
theorem sI_le {f g : Nat → Int} : ∀ {n : Nat}, (∀ i < n, f i ≤ g i) → sI f n ≤ sI g n
  | 0, _ => Int.le_refl _
  | n + 1, h => by
    rw [sI, sI]
    have := sI_le (n := n) (fun i hi => h i (by lia))
    have := h n (by lia)
    lia
theorem sI_lt {f g : Nat → Int} : ∀ {n j : Nat}, j < n → (∀ i < n, f i ≤ g i) → f j < g j → sI f n < sI g n
  | 0, j, hj, _, _ => by lia
  | n + 1, j, hj, h, hlt => by
    rw [sI, sI]
    by_cases c : j = n
    · subst c
      have := sI_le (n := j) (fun i hi => h i (by lia))
      lia
    · have := sI_lt (n := n) (j := j) (by lia) (fun i hi => h i (by lia)) hlt
      have := h n (by lia)
      lia
theorem sI_one (f : Nat → Int) (j : Nat) : ∀ n, (∀ i, i ≠ j → f i = 0) → sI f n = if j < n then f j else 0
  | 0, _ => by rw [if_neg (by lia)]; rfl
  | n + 1, h => by
    rw [sI, sI_one f j n h]
    by_cases c : j = n
    · subst c
      rw [if_neg (by lia), if_pos (by lia)]; lia
    · rw [h n (fun z => c z.symm)]
      by_cases c2 : j < n
      · rw [if_pos c2, if_pos (by lia)]; lia
      · rw [if_neg c2, if_neg (by lia)]; rfl
theorem sI_swap (f : Nat → Nat → Int) (m : Nat) : ∀ n, sI (fun i => sI (f i) m) n = sI (fun p => sI (fun i => f i p) n) m
  | 0 => (sI_zero fun _ _ => rfl).symm
  | n + 1 => by
    rw [sI, sI_swap f m n, ← sI_add]
    exact sI_congr fun p _ => rfl
structure Un where
  r : Nat
  c : Nat
  lo : Int
  hi : Int
instance : Inhabited Un := ⟨⟨0, 0, 0, 0⟩⟩
noncomputable abbrev En := Nat × Nat
noncomputable def uAt (us : List Un) (p : Nat) : Un := us.getD p default
noncomputable def wAt (ws : List Int) (p : Nat) : Int := ws.getD p 0
noncomputable def oth (u : Un) (h : En) : Option En := if h = (0, u.r) then some (1, u.c) else if h = (1, u.c) then some (0, u.r) else none
noncomputable def room (u : Un) (w : Int) (h : En) : Int := if h.1 = 0 then u.hi - w else w - u.lo
theorem oth_row (u : Un) : oth u (0, u.r) = some (1, u.c) := if_pos rfl
theorem oth_col (u : Un) : oth u (1, u.c) = some (0, u.r) := by unfold oth; rw [if_neg (fun z => by cases z), if_pos rfl]
theorem oth_cases {u : Un} {h t : En} (e : oth u h = some t) : (h = (0, u.r) ∧ t = (1, u.c)) ∨ (h = (1, u.c) ∧ t = (0, u.r)) := by
  unfold oth at e
  split at e
  · rename_i c; exact .inl ⟨c, (Option.some.inj e).symm⟩
  · split at e
    · rename_i c; exact .inr ⟨c, (Option.some.inj e).symm⟩
    · cases e
theorem oth_back {u : Un} {h t : En} (e : oth u h = some t) : oth u t = some h := by
  rcases oth_cases e with ⟨rfl, rfl⟩ | ⟨rfl, rfl⟩
  · exact oth_col u
  · exact oth_row u
theorem oth_two {u : Un} {h t h' : En} (e : oth u h = some t) (e' : (oth u h').isSome = true) : h' = h ∨ h' = t := by
  cases e2 : oth u h' with
  | none => rw [e2] at e'; cases e'
  | some t' => rcases oth_cases e with ⟨rfl, rfl⟩ | ⟨rfl, rfl⟩ <;> rcases oth_cases e2 with ⟨rfl, _⟩ | ⟨rfl, _⟩ <;> simp
section
variable (us : List Un)
noncomputable def rowW (ws : List Int) (i : Nat) : Int := sI (fun p => if (uAt us p).r = i then wAt ws p else 0) us.length
noncomputable def colW (ws : List Int) (j : Nat) : Int := sI (fun p => if (uAt us p).c = j then wAt ws p else 0) us.length
variable (rows cols : List Int)
noncomputable def sp (ws : List Int) (e : En) : Int := if e.1 = 0 then wAt rows e.2 - rowW us ws e.2 else colW us ws e.2 - wAt cols e.2
theorem wAt_set {ws : List Int} {p : Nat} (hp : p < ws.length) (v : Int) (q : Nat) : wAt (ws.set p v) q = if q = p then v else wAt ws q := by
  unfold wAt
  rw [List.getD, List.getD, List.getElem?_set]
  by_cases c : p = q
  · subst c; rw [if_pos rfl, if_pos rfl, if_pos hp]; rfl
  · rw [if_neg c, if_neg (fun z => c z.symm)]
theorem one_more {n p : Nat} (hp : p < n) (f : Nat → Bool) (w w' : Nat → Int) (d : Int) (h1 : ∀ q, q ≠ p → w' q = w q) (h2 : w' p = w p + d) : sI (fun q => if f q = true then w' q else 0) n = sI (fun q => if f q = true then w q else 0) n + if f p = true then d else 0 := by
  have e : sI (fun q => if f q = true then w' q else 0) n = sI (fun q => (if f q = true then w q else 0) + (if q = p then (if f p = true then d else 0) else 0)) n := sI_congr fun q _ => by
    by_cases c : q = p
    · subst c; rw [if_pos rfl, h2]; split <;> lia
    · rw [if_neg c, h1 q c]; lia
  rw [e, sI_add, sI_one _ p n (fun i hi => if_neg hi), if_pos hp, if_pos rfl]
noncomputable def give (m : Int) (ws : List Int) (x : En × Nat) : List Int := ws.set x.2 (wAt ws x.2 + if x.1.1 = 0 then m else -m)
theorem give_len (m : Int) (ws : List Int) (x : En × Nat) : (give m ws x).length = ws.length := List.length_set
theorem sp_give {ws : List Int} (hl : ws.length = us.length) {h t : En} {p : Nat} (hp : p < us.length) (e : oth (uAt us p) h = some t) (m : Int) (k : En) (hk : k.1 ≤ 1) : sp us rows cols (give m ws (h, p)) k = sp us rows cols ws k - (if k = h then m else 0) + (if k = t then m else 0) := by
  unfold sp rowW colW
  have g1 : ∀ q, q ≠ p → wAt (give m ws (h, p)) q = wAt ws q := fun q hq => by unfold give; rw [wAt_set (by lia), if_neg hq]
  have g2 : wAt (give m ws (h, p)) p = wAt ws p + if h.1 = 0 then m else -m := by unfold give; rw [wAt_set (by show p < ws.length; lia), if_pos rfl]
  have r1 := fun i => one_more hp (fun q => decide ((uAt us q).r = i)) (wAt ws) (wAt (give m ws (h, p))) _ g1 g2
  have r2 := fun i => one_more hp (fun q => decide ((uAt us q).c = i)) (wAt ws) (wAt (give m ws (h, p))) _ g1 g2
  simp only [decide_eq_true_eq] at r1 r2
  obtain ⟨a, b⟩ := k
  rcases oth_cases e with ⟨rfl, rfl⟩ | ⟨rfl, rfl⟩
  · by_cases c : a = 0
    · subst c
      simp only [if_true]
      rw [r1]
      by_cases c2 : (uAt us p).r = b
      · subst c2; simp; lia
      · rw [if_neg c2, if_neg (fun z => c2 (Prod.mk.inj z).2.symm), if_neg (fun z => by cases z)]; lia
    · have : a = 1 := by have : a ≤ 1 := hk; lia
      subst this
      simp only [Nat.one_ne_zero, if_false]
      rw [r2]
      by_cases c2 : (uAt us p).c = b
      · subst c2; simp; lia
      · rw [if_neg c2, if_neg (fun z => by cases z), if_neg (fun z => c2 (Prod.mk.inj z).2.symm)]; lia
  · by_cases c : a = 0
    · subst c
      simp only [if_true]
      rw [r1]
      by_cases c2 : (uAt us p).r = b
      · subst c2; simp; lia
      · rw [if_neg c2, if_neg (fun z => by cases z), if_neg (fun z => c2 (Prod.mk.inj z).2.symm)]; lia
    · have : a = 1 := by have : a ≤ 1 := hk; lia
      subst this
      simp only [Nat.one_ne_zero, if_false]
      rw [r2]
      by_cases c2 : (uAt us p).c = b
      · subst c2; simp; lia
      · rw [if_neg c2, if_neg (fun z => c2 (Prod.mk.inj z).2.symm), if_neg (fun z => by cases z)]; lia
variable (ws : List Int)
noncomputable def IsP : List (En × Nat) → En → En → Prop
  | [], s, e => s = e
  | (h, p) :: P, s, e => h = s ∧ p < us.length ∧ ∃ t, oth (uAt us p) h = some t ∧ 0 < room (uAt us p) (wAt ws p) h ∧ IsP P t e
theorem isP_succ : ∀ {P : List (En × Nat)} {s e : En}, IsP us ws P s e → ∀ {h : En} {p : Nat}, (h, p) ∈ P → ∀ {t : En}, oth (uAt us p) h = some t → t ∈ P.map (·.1) ∨ t = e
  | [], _, _, _, _, _, hm, _, _ => by cases hm
  | (h0, p0) :: P, s, e, hP, h, p, hm, t, ht => by
    obtain ⟨rfl, _, t0, e0, _, hP'⟩ := hP
    rcases List.mem_cons.mp hm with z | z
    · cases z
      rw [e0] at ht
      cases ht
      cases P with
      | nil => exact .inr hP'
      | cons x P => obtain ⟨hx, px⟩ := x; obtain ⟨rfl, _⟩ := hP'; exact .inl (by simp)
    · rcases isP_succ hP' z ht with q | q
      · exact .inl (List.mem_cons_of_mem _ q)
      · exact .inr q
theorem isP_once : ∀ {P : List (En × Nat)} {s e : En}, IsP us ws P s e → (P.map (·.1) ++ [e]).Nodup → (P.map (·.2)).Nodup
  | [], _, _, _, _ => List.nodup_nil
  | (h0, p0) :: P, s, e, hP, nd => by
    obtain ⟨rfl, _, t0, e0, _, hP'⟩ := hP
    rw [List.map_cons, List.cons_append, List.nodup_cons] at nd
    rw [List.map_cons, List.nodup_cons]
    refine ⟨fun z => ?_, isP_once hP' nd.2⟩
    obtain ⟨⟨h, p⟩, hm, rfl⟩ := List.mem_map.mp z
    have hs : (oth (uAt us p) h).isSome = true := by
      have : ∀ {P : List (En × Nat)} {s e : En}, IsP us ws P s e → (h, p) ∈ P → (oth (uAt us p) h).isSome = true := by
        intro P
        induction P with
        | nil => intro s e _ z; cases z
        | cons x P ih =>
          intro s e q z
          obtain ⟨hx, px⟩ := x
          obtain ⟨rfl, _, t, et, _, q'⟩ := q
          rcases List.mem_cons.mp z with z | z
          · cases z; rw [et]; rfl
          · exact ih q' z
      exact this hP' hm
    rcases oth_two e0 hs with c | c
    · subst c
      exact nd.1 (List.mem_append_left _ (List.mem_map.mpr ⟨_, hm, rfl⟩))
    · subst c
      rcases isP_succ us ws hP' hm (oth_back e0) with q | q
      · exact nd.1 (List.mem_append_left _ q)
      · exact nd.1 (List.mem_append_right _ (by rw [q]; exact List.mem_singleton_self _))
theorem isP_ends : ∀ {P : List (En × Nat)} {s e : En}, IsP us ws P s e → ∀ x ∈ P, x.1.1 ≤ 1 ∧ x.2 < us.length ∧ 0 < room (uAt us x.2) (wAt ws x.2) x.1
  | [], _, _, _, _, hm => by cases hm
  | (h0, p0) :: P, s, e, hP, x, hm => by
    obtain ⟨rfl, hp, t0, e0, hr, hP'⟩ := hP
    rcases List.mem_cons.mp hm with z | z
    · subst z
      refine ⟨?_, hp, hr⟩
      rcases oth_cases e0 with ⟨z, _⟩ | ⟨z, _⟩ <;> rw [z] <;> first | exact Nat.zero_le _ | exact Nat.le_refl _
    · exact isP_ends hP' x z
noncomputable def given (m : Int) (P : List (En × Nat)) (ws : List Int) : List Int := P.foldl (give m) ws
theorem given_len (m : Int) : ∀ (P : List (En × Nat)) (ws : List Int), (given m P ws).length = ws.length
  | [], _ => rfl
  | x :: P, ws => by
    show (given m P (give m ws x)).length = _
    rw [given_len m P, give_len]
theorem sp_given (m : Int) : ∀ {P : List (En × Nat)} {s e : En} (ws' : List Int), ws'.length = us.length → IsP us ws P s e → ∀ k : En, k.1 ≤ 1 → sp us rows cols (given m P ws') k = sp us rows cols ws' k - (if k = s then m else 0) + (if k = e then m else 0)
  | [], s, e, ws', _, hP, k, _ => by
    have : s = e := hP
    subst this
    show sp us rows cols ws' k = _
    lia
  | (h, p) :: P, s, e, ws', hl, hP, k, hk => by
    obtain ⟨rfl, hp, t, et, _, hP'⟩ := hP
    show sp us rows cols (given m P (give m ws' (h, p))) k = _
    rw [sp_given m (give m ws' (h, p)) (by rw [give_len]; exact hl) hP' k hk, sp_give us rows cols hl hp et m k hk]
    lia
theorem given_at (m : Int) : ∀ {P : List (En × Nat)} {ws' : List Int}, (∀ x ∈ P, x.2 < ws'.length) → (P.map (·.2)).Nodup → ∀ q, (q ∉ P.map (·.2) → wAt (given m P ws') q = wAt ws' q) ∧ ∀ x ∈ P, x.2 = q → wAt (given m P ws') q = wAt ws' q + if x.1.1 = 0 then m else -m
  | [], _, _, _, q => ⟨fun _ => rfl, fun x hx => by cases hx⟩
  | y :: P, ws', hb, nd, q => by
    rw [List.map_cons, List.nodup_cons] at nd
    have hy := hb y (List.mem_cons_self ..)
    obtain ⟨h1, h2⟩ := given_at m (P := P) (ws' := give m ws' y) (fun x hx => by rw [give_len]; exact hb x (List.mem_cons_of_mem _ hx)) nd.2 q
    refine ⟨fun hn => ?_, fun x hx e => ?_⟩
    · rw [List.map_cons, List.mem_cons] at hn
      show wAt (given m P (give m ws' y)) q = _
      rw [h1 fun z => hn (.inr z)]
      unfold give
      rw [wAt_set hy, if_neg fun z => hn (.inl z)]
    · show wAt (given m P (give m ws' y)) q = _
      rcases List.mem_cons.mp hx with z | z
      · subst z
        rw [h1 (by rw [← e]; exact nd.1)]
        unfold give
        rw [wAt_set hy, if_pos e.symm, e]
      · rw [h2 x z e]
        unfold give
        rw [wAt_set hy, if_neg]
        intro c
        exact nd.1 (List.mem_map.mpr ⟨x, z, by rw [e, c]⟩)
structure Wi (ws : List Int) : Prop where
  len : ws.length = us.length
  bd : ∀ p < us.length, (uAt us p).lo ≤ wAt ws p ∧ wAt ws p ≤ (uAt us p).hi
theorem given_wi {m : Int} {P : List (En × Nat)} {s e : En} (hw : Wi us ws) (hP : IsP us ws P s e) (nd : (P.map (·.1) ++ [e]).Nodup) (h0 : 0 ≤ m) (hm : ∀ x ∈ P, m ≤ room (uAt us x.2) (wAt ws x.2) x.1) : Wi us (given m P ws) := by
  have once := isP_once us ws hP nd
  have ends := isP_ends us ws hP
  refine ⟨by rw [given_len]; exact hw.len, fun p hp => ?_⟩
  obtain ⟨h1, h2⟩ := given_at m (P := P) (ws' := ws) (fun x hx => by rw [hw.len]; exact (ends x hx).2.1) once p
  have bd := hw.bd p hp
  by_cases c : p ∈ P.map (·.2)
  · obtain ⟨x, hx, e⟩ := List.mem_map.mp c
    rw [h2 x hx e]
    have hr := hm x hx
    have ex : x.2 = p := e
    rw [ex] at hr
    unfold room at hr
    by_cases c2 : x.1.1 = 0
    · rw [if_pos c2] at hr ⊢; lia
    · rw [if_neg c2] at hr ⊢; lia
  · rw [h1 c]; exact bd
end
noncomputable abbrev By := List (En × Option Nat)
noncomputable def keys (b : By) : List En := b.map (·.1)
section
variable (us : List Un) (ws : List Int)
noncomputable def scan1 (h : En) (st : By × List En) (p : Nat) : By × List En := match oth (uAt us p) h with
  | none => st
  | some t => if t ∈ keys st.1 then st else if 0 < room (uAt us p) (wAt ws p) h then (st.1 ++ [(t, some p)], st.2 ++ [t]) else st
noncomputable def scan (h : En) (b : By) (ah : List En) (n : Nat) : By × List En := (List.range n).foldl (scan1 us ws h) (b, ah)
theorem scan_succ (h : En) (b : By) (ah : List En) (n : Nat) : scan us ws h b ah (n + 1) = scan1 us ws h (scan us ws h b ah n) n := by
  unfold scan; rw [List.range_succ, List.foldl_append]; rfl
noncomputable def bfs : Nat → By → List En → By
  | 0, b, _ => b
  | _ + 1, b, [] => b
  | n + 1, b, h :: t => bfs n (scan us ws h b t us.length).1 (scan us ws h b t us.length).2
structure Tree (S : List En) (b : By) : Prop where
  nd : (keys b).Nodup
  par : ∀ (i : Nat) (e : En) (p : Nat), b[i]? = some (e, some p) → p < us.length ∧ ∃ j h, j < i ∧ (keys b)[j]? = some h ∧ oth (uAt us p) h = some e ∧ 0 < room (uAt us p) (wAt ws p) h
  st : ∀ e, (e, none) ∈ b → e ∈ S
theorem keys_app (b c : By) : keys (b ++ c) = keys b ++ keys c := List.map_append
theorem Tree.more {S : List En} {b : By} {h t : En} {p : Nat} (T : Tree us ws S b) (hp : p < us.length) (hh : h ∈ keys b) (ht : oth (uAt us p) h = some t) (hn : t ∉ keys b) (hr : 0 < room (uAt us p) (wAt ws p) h) : Tree us ws S (b ++ [(t, some p)]) := by
  refine ⟨?_, fun i e q hi => ?_, fun e he => ?_⟩
  · rw [keys_app]
    refine List.nodup_append.mpr ⟨T.nd, List.nodup_cons.mpr ⟨(fun z => by cases z), List.nodup_nil⟩, fun x hx y hy z => ?_⟩
    have : y = t := List.mem_singleton.mp hy
    exact hn (by rw [← this, ← z]; exact hx)
  · by_cases c : i < b.length
    · rw [List.getElem?_append_left c] at hi
      obtain ⟨h1, j, h', h2, h3, h4, h5⟩ := T.par i e q hi
      refine ⟨h1, j, h', h2, ?_, h4, h5⟩
      rw [keys_app, List.getElem?_append_left (by unfold keys; rw [List.length_map]; lia)]
      exact h3
    · rw [List.getElem?_append_right (by lia)] at hi
      have hz : i - b.length = 0 := by
        by_cases z : i - b.length = 0
        · exact z
        · rw [List.getElem?_eq_none (by rw [List.length_singleton]; lia)] at hi; cases hi
      rw [hz] at hi
      cases hi
      obtain ⟨j, hj⟩ := List.getElem?_of_mem hh
      have hjl : j < b.length := by have := (List.getElem?_eq_some_iff.mp hj).1; unfold keys at this; rw [List.length_map] at this; exact this
      refine ⟨hp, j, h, by lia, ?_, ht, hr⟩
      rw [keys_app, List.getElem?_append_left (by unfold keys; rw [List.length_map]; lia)]
      exact hj
  · rcases List.mem_append.mp he with z | z
    · exact T.st e z
    · cases List.mem_singleton.mp z
structure Sc (S : List En) (h : En) (b : By) (t : List En) (n : Nat) (b' : By) (t' : List En) : Prop where
  tree : Tree us ws S b'
  new : ∃ c, b' = b ++ c ∧ t' = t ++ keys c
  done : ∀ p < n, ∀ e, oth (uAt us p) h = some e → e ∈ keys b' ∨ ¬ 0 < room (uAt us p) (wAt ws p) h
theorem scan_spec {S : List En} {h : En} {b : By} {t : List En} (T : Tree us ws S b) (hh : h ∈ keys b) : ∀ n, n ≤ us.length → Sc us ws S h b t n (scan us ws h b t n).1 (scan us ws h b t n).2
  | 0, _ => ⟨T, ⟨[], by rw [List.append_nil]; rfl, by unfold keys; rw [List.map_nil, List.append_nil]; rfl⟩, fun p hp => by lia⟩
  | n + 1, hn => by
    have ih := scan_spec (t := t) T hh n (by lia)
    rw [scan_succ]
    generalize scan us ws h b t n = st at ih
    obtain ⟨c, e1, e2⟩ := ih.new
    have hh' : h ∈ keys st.1 := by rw [e1, keys_app]; exact List.mem_append_left _ hh
    unfold scan1
    cases eo : oth (uAt us n) h with
    | none => exact ⟨ih.tree, ih.new, fun p hp e he => by
        by_cases z : p = n
        · subst z; rw [eo] at he; cases he
        · exact ih.done p (by lia) e he⟩
    | some x =>
      simp only
      by_cases c1 : x ∈ keys st.1
      · rw [if_pos c1]
        exact ⟨ih.tree, ih.new, fun p hp e he => by
          by_cases z : p = n
          · subst z; rw [eo] at he; cases he; exact .inl c1
          · exact ih.done p (by lia) e he⟩
      · rw [if_neg c1]
        by_cases c2 : 0 < room (uAt us n) (wAt ws n) h
        · rw [if_pos c2]
          refine ⟨ih.tree.more us ws (by lia) hh' eo c1 c2, ⟨c ++ [(x, some n)], by rw [e1, List.append_assoc], by rw [e2, keys_app, List.append_assoc]; rfl⟩, fun p hp e he => ?_⟩
          rw [keys_app]
          by_cases z : p = n
          · subst z; rw [eo] at he; cases he; exact .inl (List.mem_append_right _ (List.mem_singleton_self _))
          · exact (ih.done p (by lia) e he).imp (List.mem_append_left _) id
        · rw [if_neg c2]
          exact ⟨ih.tree, ih.new, fun p hp e he => by
            by_cases z : p = n
            · subst z; rw [eo] at he; cases he; exact .inr c2
            · exact ih.done p (by lia) e he⟩
structure Fr (S : List En) (b : By) (ah : List En) : Prop where
  tree : Tree us ws S b
  sub : ∀ e ∈ ah, e ∈ keys b
  start : ∀ e ∈ S, e ∈ keys b
  shut : ∀ h ∈ keys b, h ∈ ah ∨ ∀ p < us.length, ∀ e, oth (uAt us p) h = some e → e ∈ keys b ∨ ¬ 0 < room (uAt us p) (wAt ws p) h
theorem Fr.next {S : List En} {b : By} {h : En} {t : List En} (F : Fr us ws S b (h :: t)) : Fr us ws S (scan us ws h b t us.length).1 (scan us ws h b t us.length).2 := by
  have sc := scan_spec us ws (t := t) F.tree (F.sub h (List.mem_cons_self ..)) us.length (Nat.le_refl _)
  generalize scan us ws h b t us.length = st at sc
  obtain ⟨c, e1, e2⟩ := sc.new
  have mono : ∀ e ∈ keys b, e ∈ keys st.1 := fun e he => by rw [e1, keys_app]; exact List.mem_append_left _ he
  refine ⟨sc.tree, fun e he => ?_, fun e he => mono e (F.start e he), fun k hk => ?_⟩
  · rw [e2] at he
    rcases List.mem_append.mp he with z | z
    · exact mono e (F.sub e (List.mem_cons_of_mem _ z))
    · rw [e1, keys_app]; exact List.mem_append_right _ z
  · rw [e1, keys_app] at hk
    rcases List.mem_append.mp hk with z | z
    · rcases F.shut k z with q | q
      · rcases List.mem_cons.mp q with q | q
        · subst q; exact .inr sc.done
        · exact .inl (by rw [e2]; exact List.mem_append_left _ q)
      · exact .inr fun p hp e he => (q p hp e he).imp (mono e) id
    · exact .inl (by rw [e2]; exact List.mem_append_right _ z)
noncomputable def mB (M : Nat) (b : By) (ah : List En) : Nat := 2 * (M - b.length) + ah.length
theorem mB_next {S : List En} {b : By} {h : En} {t : List En} {M : Nat} (F : Fr us ws S b (h :: t)) (hM : (scan us ws h b t us.length).1.length ≤ M) : mB M (scan us ws h b t us.length).1 (scan us ws h b t us.length).2 < mB M b (h :: t) := by
  have sc := scan_spec us ws (t := t) F.tree (F.sub h (List.mem_cons_self ..)) us.length (Nat.le_refl _)
  generalize scan us ws h b t us.length = st at sc hM
  obtain ⟨c, e1, e2⟩ := sc.new
  unfold mB
  rw [e1] at hM ⊢
  rw [e2]
  unfold keys
  rw [List.length_append] at hM
  rw [List.length_append, List.length_append, List.length_map, List.length_cons]
  lia
end
end Led
set_option linter.all false
set_option maxHeartbeats 1000000
namespace Led
noncomputable def look (b : By) (e : En) : Option (Option Nat) := (b.find? fun x => decide (x.1 = e)).map (·.2)
theorem look_at {b : By} (nd : (keys b).Nodup) {i : Nat} {x : En × Option Nat} (h : b[i]? = some x) : look b x.1 = some x.2 := by
  unfold look
  have hm : x ∈ b := List.mem_of_getElem? h
  cases hf : b.find? (fun y => decide (y.1 = x.1)) with
  | none =>
    have := List.find?_eq_none.mp hf x hm
    exact absurd (decide_eq_true rfl) this
  | some y =>
    have hy := List.mem_of_find?_eq_some hf
    have he : y.1 = x.1 := by have := List.find?_some hf; exact of_decide_eq_true this
    obtain ⟨j, hj⟩ := List.getElem?_of_mem hy
    have k1 : (keys b)[i]? = some x.1 := by unfold keys; rw [List.getElem?_map, h]; rfl
    have k2 : (keys b)[j]? = some x.1 := by unfold keys; rw [List.getElem?_map, hj, ← he]; rfl
    have : i = j := by
      obtain ⟨h1, e1⟩ := List.getElem?_eq_some_iff.mp k1
      obtain ⟨h2, e2⟩ := List.getElem?_eq_some_iff.mp k2
      have pw := List.pairwise_iff_getElem.mp nd
      rcases Nat.lt_trichotomy i j with c | c | c
      · exact absurd (e1.trans e2.symm) (pw i j h1 h2 c)
      · exact c
      · exact absurd (e2.trans e1.symm) (pw j i h2 h1 c)
    subst this
    rw [h] at hj
    cases hj
    rfl
theorem key_uniq {b : By} (nd : (keys b).Nodup) {i j : Nat} {e : En} (k1 : (keys b)[i]? = some e) (k2 : (keys b)[j]? = some e) : i = j := by
  obtain ⟨h1, e1⟩ := List.getElem?_eq_some_iff.mp k1
  obtain ⟨h2, e2⟩ := List.getElem?_eq_some_iff.mp k2
  have pw := List.pairwise_iff_getElem.mp nd
  rcases Nat.lt_trichotomy i j with c | c | c
  · exact absurd (e1.trans e2.symm) (pw i j h1 h2 c)
  · exact c
  · exact absurd (e2.trans e1.symm) (pw j i h2 h1 c)
section
variable (us : List Un) (ws : List Int)
noncomputable def pathTo (b : By) : Nat → En → List (En × Nat) → List (En × Nat)
  | 0, _, acc => acc
  | n + 1, e, acc => match look b e with
    | some (some p) => match oth (uAt us p) e with
      | some h => pathTo b n h ((h, p) :: acc)
      | none => acc
    | _ => acc
structure Wy (b : By) (i : Nat) (e l : En) (acc : List (En × Nat)) : Prop where
  at_ : (keys b)[i]? = some e
  path : IsP us ws acc e l
  nd : (acc.map (·.1) ++ [l]).Nodup
  far : ∀ x ∈ acc.map (·.1) ++ [l], ∃ j, i ≤ j ∧ (keys b)[j]? = some x
theorem Wy.first {S : List En} {b : By} {i : Nat} {e : En} (h : (keys b)[i]? = some e) : Wy us ws b i e e [] :=
  ⟨h, rfl, List.nodup_cons.mpr ⟨(fun z => by cases z), List.nodup_nil⟩, fun x hx => ⟨i, Nat.le_refl _, by rw [List.mem_singleton.mp hx]; exact h⟩⟩
theorem Wy.back {S : List En} {b : By} {i : Nat} {e l : En} {acc : List (En × Nat)} {p : Nat} (T : Tree us ws S b) (W : Wy us ws b i e l acc) (hl : look b e = some (some p)) : p < us.length ∧ ∃ j h, j < i ∧ oth (uAt us p) e = some h ∧ Wy us ws b j h l ((h, p) :: acc) := by
  have hb : b[i]? = some (e, some p) := by
    have h1 := W.at_
    unfold keys at h1
    rw [List.getElem?_map] at h1
    cases hc : b[i]? with
    | none => rw [hc] at h1; cases h1
    | some x =>
      rw [hc] at h1
      have e1 : x.1 = e := Option.some.inj h1
      have := look_at T.nd hc
      rw [e1, hl] at this
      have e2 : x.2 = some p := (Option.some.inj this).symm
      obtain ⟨x1, x2⟩ := x
      subst e1 e2
      rfl
  obtain ⟨hp, j, h, hj, hk, ho, hr⟩ := T.par i e p hb
  refine ⟨hp, j, h, hj, oth_back ho, ⟨hk, ⟨rfl, hp, e, ho, hr, W.path⟩, ?_, fun x hx => ?_⟩⟩
  · rw [List.map_cons, List.cons_append, List.nodup_cons]
    refine ⟨fun z => ?_, W.nd⟩
    obtain ⟨j', hj', hk'⟩ := W.far h z
    have := key_uniq T.nd hk hk'
    lia
  · rw [List.map_cons, List.cons_append] at hx
    rcases List.mem_cons.mp hx with z | z
    · exact ⟨j, Nat.le_refl _, by rw [z]; exact hk⟩
    · obtain ⟨j', hj', hk'⟩ := W.far x z
      exact ⟨j', by lia, hk'⟩
theorem path_spec {S : List En} {b : By} (T : Tree us ws S b) : ∀ (n i : Nat) (e l : En) (acc : List (En × Nat)), i < n → Wy us ws b i e l acc → ∃ s ∈ S, IsP us ws (pathTo us b n e acc) s l ∧ ((pathTo us b n e acc).map (·.1) ++ [l]).Nodup
  | 0, i, e, l, acc, hi, _ => by lia
  | n + 1, i, e, l, acc, hi, W => by
    have hk := W.at_
    unfold keys at hk
    rw [List.getElem?_map] at hk
    obtain ⟨x, hx⟩ : ∃ x, b[i]? = some x := by
      cases hc : b[i]? with
      | none => rw [hc] at hk; cases hk
      | some x => exact ⟨x, rfl⟩
    rw [hx] at hk
    have ex : x.1 = e := Option.some.inj hk
    have hl := look_at T.nd hx
    rw [ex] at hl
    cases hp : x.2 with
    | none =>
      rw [hp] at hl
      have e0 : pathTo us b (n + 1) e acc = acc := by rw [pathTo, hl]
      rw [e0]
      refine ⟨e, T.st e ?_, W.path, W.nd⟩
      have := List.mem_of_getElem? hx
      obtain ⟨x1, x2⟩ := x
      subst ex hp
      exact this
    | some p =>
      rw [hp] at hl
      obtain ⟨_, j, h, hj, ho, W'⟩ := W.back us ws T hl
      have e0 : pathTo us b (n + 1) e acc = pathTo us b n h ((h, p) :: acc) := by rw [pathTo, hl]; simp only [ho]
      rw [e0]
      exact path_spec T n j h l _ (by lia) W'
variable (rows cols : List Int) (R C : Nat)
noncomputable def OkU : Prop := ∀ p < us.length, (uAt us p).r < R ∧ (uAt us p).c < C ∧ (uAt us p).lo ≤ (uAt us p).hi
theorem part_row (ok : OkU us R C) (k : En → Bool) : sI (fun i => if k (0, i) = true then rowW us ws i else 0) R = sI (fun p => if k (0, (uAt us p).r) = true then wAt ws p else 0) us.length := by
  have e : sI (fun i => if k (0, i) = true then rowW us ws i else 0) R = sI (fun i => sI (fun p => if k (0, i) = true then (if (uAt us p).r = i then wAt ws p else 0) else 0) us.length) R := sI_congr fun i _ => by
    by_cases c : k (0, i) = true
    · rw [if_pos c]; exact sI_congr fun p _ => by rw [if_pos c]
    · rw [if_neg c]; exact (sI_zero fun p _ => if_neg c).symm
  rw [e, sI_swap]
  refine sI_congr fun p hp => ?_
  rw [sI_one _ (uAt us p).r R fun i hi => by
    by_cases c : k (0, i) = true
    · rw [if_pos c, if_neg fun z => hi z.symm]
    · rw [if_neg c]]
  rw [if_pos (ok p hp).1, if_pos rfl]
theorem part_col (ok : OkU us R C) (k : En → Bool) : sI (fun j => if k (1, j) = true then colW us ws j else 0) C = sI (fun p => if k (1, (uAt us p).c) = true then wAt ws p else 0) us.length := by
  have e : sI (fun i => if k (1, i) = true then colW us ws i else 0) C = sI (fun i => sI (fun p => if k (1, i) = true then (if (uAt us p).c = i then wAt ws p else 0) else 0) us.length) C := sI_congr fun i _ => by
    by_cases c : k (1, i) = true
    · rw [if_pos c]; exact sI_congr fun p _ => by rw [if_pos c]
    · rw [if_neg c]; exact (sI_zero fun p _ => if_neg c).symm
  rw [e, sI_swap]
  refine sI_congr fun p hp => ?_
  rw [sI_one _ (uAt us p).c C fun i hi => by
    by_cases c : k (1, i) = true
    · rw [if_pos c, if_neg fun z => hi z.symm]
    · rw [if_neg c]]
  rw [if_pos (ok p hp).2.1, if_pos rfl]
noncomputable def inS (k : En → Bool) : Int := sI (fun i => if k (0, i) = true then wAt rows i else 0) R
noncomputable def inT (k : En → Bool) : Int := sI (fun j => if k (1, j) = true then wAt cols j else 0) C
noncomputable def outer (k : En → Bool) (g : Un → Int → Int) : Int := sI (fun p => if k (0, (uAt us p).r) = true ∧ ¬ k (1, (uAt us p).c) = true then g (uAt us p) (wAt ws p) else 0) us.length
noncomputable def inner (k : En → Bool) (g : Un → Int → Int) : Int := sI (fun p => if ¬ k (0, (uAt us p).r) = true ∧ k (1, (uAt us p).c) = true then g (uAt us p) (wAt ws p) else 0) us.length
theorem cut_sum (ok : OkU us R C) (k : En → Bool) : sI (fun i => if k (0, i) = true then sp us rows cols ws (0, i) else 0) R + sI (fun j => if k (1, j) = true then sp us rows cols ws (1, j) else 0) C = inS rows R k - inT cols C k - outer us ws k (fun _ w => w) + inner us ws k (fun _ w => w) := by
  have e1 : sI (fun i => if k (0, i) = true then sp us rows cols ws (0, i) else 0) R = inS rows R k - sI (fun i => if k (0, i) = true then rowW us ws i else 0) R := by
    unfold inS
    rw [← sI_sub]
    exact sI_congr fun i _ => by unfold sp; split <;> simp
  have e2 : sI (fun j => if k (1, j) = true then sp us rows cols ws (1, j) else 0) C = sI (fun j => if k (1, j) = true then colW us ws j else 0) C - inT cols C k := by
    unfold inT
    rw [← sI_sub]
    exact sI_congr fun i _ => by unfold sp; split <;> simp
  rw [e1, e2, part_row us ws R C ok, part_col us ws R C ok]
  have e3 : sI (fun p => if k (0, (uAt us p).r) = true then wAt ws p else 0) us.length - sI (fun p => if k (1, (uAt us p).c) = true then wAt ws p else 0) us.length = outer us ws k (fun _ w => w) - inner us ws k (fun _ w => w) := by
    unfold outer inner
    rw [← sI_sub, ← sI_sub]
    refine sI_congr fun p _ => ?_
    by_cases c1 : k (0, (uAt us p).r) = true <;> by_cases c2 : k (1, (uAt us p).c) = true <;> simp [c1, c2]
  lia
theorem cut_over {k : En → Bool} (ok : OkU us R C) (hw : Wi us ws) (hs : ∀ p < us.length, k (0, (uAt us p).r) = true → ¬ k (1, (uAt us p).c) = true → ¬ 0 < (uAt us p).hi - wAt ws p) (ht : ∀ p < us.length, k (1, (uAt us p).c) = true → ¬ k (0, (uAt us p).r) = true → ¬ 0 < wAt ws p - (uAt us p).lo)
    (h0 : ∀ e : En, k e = true → 0 ≤ sp us rows cols ws e) {s : En} (hk : k s = true) (hpos : 0 < sp us rows cols ws s) (hr : (s.1 = 0 ∧ s.2 < R) ∨ (s.1 = 1 ∧ s.2 < C)) :
    inT cols C k - inner us ws k (fun u _ => u.lo) < inS rows R k - outer us ws k (fun u _ => u.hi) := by
  have cs := cut_sum us ws rows cols R C ok k
  have o1 : outer us ws k (fun _ w => w) = outer us ws k (fun u _ => u.hi) := sI_congr fun p hp => by
    by_cases c : k (0, (uAt us p).r) = true ∧ ¬ k (1, (uAt us p).c) = true
    · rw [if_pos c, if_pos c]
      have := hs p hp c.1 c.2
      have := (hw.bd p hp).2
      show wAt ws p = (uAt us p).hi
      lia
    · rw [if_neg c, if_neg c]
  have o2 : inner us ws k (fun _ w => w) = inner us ws k (fun u _ => u.lo) := sI_congr fun p hp => by
    by_cases c : ¬ k (0, (uAt us p).r) = true ∧ k (1, (uAt us p).c) = true
    · rw [if_pos c, if_pos c]
      have := ht p hp c.2 c.1
      have := (hw.bd p hp).1
      show wAt ws p = (uAt us p).lo
      lia
    · rw [if_neg c, if_neg c]
  have n1 : ∀ i < R, (fun _ => (0 : Int)) i ≤ (fun i => if k (0, i) = true then sp us rows cols ws (0, i) else 0) i := fun i _ => by
    show 0 ≤ if k (0, i) = true then sp us rows cols ws (0, i) else 0
    split
    · rename_i c; exact h0 _ c
    · exact Int.le_refl _
  have n2 : ∀ i < C, (fun _ => (0 : Int)) i ≤ (fun i => if k (1, i) = true then sp us rows cols ws (1, i) else 0) i := fun i _ => by
    show 0 ≤ if k (1, i) = true then sp us rows cols ws (1, i) else 0
    split
    · rename_i c; exact h0 _ c
    · exact Int.le_refl _
  have z : ∀ n, sI (fun _ => (0 : Int)) n = 0 := fun n => sI_zero fun _ _ => rfl
  have pos : 0 < sI (fun i => if k (0, i) = true then sp us rows cols ws (0, i) else 0) R + sI (fun j => if k (1, j) = true then sp us rows cols ws (1, j) else 0) C := by
    obtain ⟨a, b⟩ := s
    rcases hr with ⟨e, h⟩ | ⟨e, h⟩
    · have e' : a = 0 := e
      subst e'
      have l1 := sI_lt (j := b) h n1 (by show 0 < if k (0, b) = true then _ else _; rw [if_pos hk]; exact hpos)
      have l2 := sI_le n2
      rw [z] at l1 l2
      lia
    · have e' : a = 1 := e
      subst e'
      have l1 := sI_lt (j := b) h n2 (by show 0 < if k (1, b) = true then _ else _; rw [if_pos hk]; exact hpos)
      have l2 := sI_le n1
      rw [z] at l1 l2
      lia
  lia
theorem all_met (ok : OkU us R C) (he : inS rows R (fun _ => true) = inT cols C (fun _ => true)) (h1 : ∀ i < R, sp us rows cols ws (0, i) ≤ 0) (h2 : ∀ j < C, sp us rows cols ws (1, j) ≤ 0) : (∀ i < R, rowW us ws i = wAt rows i) ∧ ∀ j < C, colW us ws j = wAt cols j := by
  have cs := cut_sum us ws rows cols R C ok fun _ => true
  have o1 : outer us ws (fun _ => true) (fun _ w => w) = 0 := sI_zero fun p _ => if_neg fun z => z.2 rfl
  have o2 : inner us ws (fun _ => true) (fun _ w => w) = 0 := sI_zero fun p _ => if_neg fun z => z.1 rfl
  simp only [if_true] at cs
  have z : ∀ n, sI (fun _ => (0 : Int)) n = 0 := fun n => sI_zero fun _ _ => rfl
  have l1 := sI_le (f := fun i => sp us rows cols ws (0, i)) (g := fun _ => 0) h1
  have l2 := sI_le (f := fun i => sp us rows cols ws (1, i)) (g := fun _ => 0) h2
  rw [z] at l1 l2
  refine ⟨fun i hi => ?_, fun j hj => ?_⟩
  · refine Classical.byContradiction fun c => ?_
    have := h1 i hi
    have ne : sp us rows cols ws (0, i) ≠ 0 := fun q => c (by unfold sp at q; simp only [if_true] at q; lia)
    have lt := sI_lt (f := fun i => sp us rows cols ws (0, i)) (g := fun _ => 0) hi h1 (by show sp us rows cols ws (0, i) < 0; lia)
    rw [z] at lt
    lia
  · refine Classical.byContradiction fun c => ?_
    have := h2 j hj
    have ne : sp us rows cols ws (1, j) ≠ 0 := fun q => c (by unfold sp at q; simp only [Nat.one_ne_zero, if_false] at q; lia)
    have lt := sI_lt (f := fun i => sp us rows cols ws (1, i)) (g := fun _ => 0) hj h2 (by show sp us rows cols ws (1, j) < 0; lia)
    rw [z] at lt
    lia
noncomputable def pos (x : Int) : Int := if 0 < x then x else 0
noncomputable def mS : Int := sI (fun i => pos (sp us rows cols ws (0, i))) R + sI (fun j => pos (sp us rows cols ws (1, j))) C
theorem mS_nn : 0 ≤ mS us ws rows cols R C := by
  unfold mS
  have z : ∀ n, sI (fun _ => (0 : Int)) n = 0 := fun n => sI_zero fun _ _ => rfl
  have l1 := sI_le (f := fun _ => (0 : Int)) (g := fun i => pos (sp us rows cols ws (0, i))) (n := R) fun i _ => by show 0 ≤ pos _; unfold pos; split <;> lia
  have l2 := sI_le (f := fun _ => (0 : Int)) (g := fun i => pos (sp us rows cols ws (1, i))) (n := C) fun i _ => by show 0 ≤ pos _; unfold pos; split <;> lia
  rw [z] at l1 l2
  lia
theorem mS_less {ws' : List Int} {s l : En} {m : Int} (h : ∀ k : En, k.1 ≤ 1 → sp us rows cols ws' k = sp us rows cols ws k - (if k = s then m else 0) + (if k = l then m else 0)) (hm : 0 < m) (h1 : m ≤ sp us rows cols ws s) (h2 : sp us rows cols ws l ≤ -m) (hr : (s.1 = 0 ∧ s.2 < R) ∨ (s.1 = 1 ∧ s.2 < C)) : mS us ws' rows cols R C < mS us ws rows cols R C := by
  have hne : s ≠ l := fun z => by subst z; lia
  have le : ∀ k : En, k.1 ≤ 1 → pos (sp us rows cols ws' k) ≤ pos (sp us rows cols ws k) := fun k hk => by
    rw [h k hk]
    unfold pos
    by_cases c1 : k = s
    · subst c1
      rw [if_pos rfl, if_neg hne]
      split <;> split <;> lia
    · rw [if_neg c1]
      by_cases c2 : k = l
      · subst c2
        rw [if_pos rfl]
        split <;> split <;> lia
      · rw [if_neg c2]
        split <;> split <;> lia
  have lt : s.1 ≤ 1 → pos (sp us rows cols ws' s) < pos (sp us rows cols ws s) := fun hk => by
    rw [h s hk, if_pos rfl, if_neg hne]
    unfold pos
    split <;> split <;> lia
  unfold mS
  obtain ⟨a, b⟩ := s
  rcases hr with ⟨e, hb⟩ | ⟨e, hb⟩
  · have e' : a = 0 := e
    subst e'
    have := sI_lt (f := fun i => pos (sp us rows cols ws' (0, i))) (g := fun i => pos (sp us rows cols ws (0, i))) hb (fun i _ => le (0, i) (Nat.zero_le _)) (lt (Nat.zero_le _))
    have := sI_le (f := fun i => pos (sp us rows cols ws' (1, i))) (g := fun i => pos (sp us rows cols ws (1, i))) (n := C) (fun i _ => le (1, i) (Nat.le_refl _))
    lia
  · have e' : a = 1 := e
    subst e'
    have := sI_lt (f := fun i => pos (sp us rows cols ws' (1, i))) (g := fun i => pos (sp us rows cols ws (1, i))) hb (fun i _ => le (1, i) (Nat.le_refl _)) (lt (Nat.le_refl _))
    have := sI_le (f := fun i => pos (sp us rows cols ws' (0, i))) (g := fun i => pos (sp us rows cols ws (0, i))) (n := R) (fun i _ => le (0, i) (Nat.zero_le _))
    lia
end
end Led
set_option Elab.async false
set_option linter.all false
set_option maxRecDepth 100000
set_option maxHeartbeats 4000000
namespace My
open PySem L2 FrM Led
noncomputable def top (i : Nat) : Stmt := PySem.Challenge.pw_fewspeak_k76_what_is_led_tested.main.body.getD i (.Pass ⟨0, 0, 0, 0⟩)
noncomputable abbrev s_is_whole : Stmt := top 4
noncomputable abbrev s_is_list_of : Stmt := top 5
noncomputable abbrev s_is_wished_sum : Stmt := top 11
noncomputable abbrev s_is_bounded : Stmt := top 12
noncomputable abbrev s_need_bounds : Stmt := top 13
noncomputable abbrev s_sums_of : Stmt := top 14
noncomputable abbrev s_led : Stmt := top 15
noncomputable abbrev s_spare_of : Stmt := top 16
noncomputable abbrev s_reached_from : Stmt := top 17
noncomputable abbrev s_other_end : Stmt := top 18
noncomputable abbrev s_room : Stmt := top 19
noncomputable abbrev s_path_to : Stmt := top 20
noncomputable abbrev s_given_along : Stmt := top 21
noncomputable abbrev s_reached_on : Stmt := top 22
noncomputable abbrev s_is_led : Stmt := top 23
noncomputable abbrev s_are_led : Stmt := top 24
noncomputable abbrev s_shows_none : Stmt := top 25
noncomputable abbrev s_greatest_more : Stmt := top 26
noncomputable abbrev s_is_rising : Stmt := top 27
noncomputable abbrev s_L_cell : Stmt := top 29
noncomputable abbrev s_L_mix : Stmt := top 30
noncomputable abbrev s_L_row : Stmt := top 31
noncomputable abbrev s_L_whole : Stmt := top 32
noncomputable abbrev s_L_units : Stmt := top 33
noncomputable abbrev s_L_sums : Stmt := top 34
noncomputable abbrev s_L_wished : Stmt := top 35
noncomputable abbrev s_L_weights : Stmt := top 36
noncomputable abbrev s_L_numbers : Stmt := top 37
noncomputable abbrev s_L_cut : Stmt := top 38
noncomputable abbrev s_L_right : Stmt := top 39
noncomputable abbrev s_L_list : Stmt := top 40
noncomputable abbrev s_L_drawn : Stmt := top 41
noncomputable abbrev s_L_spoilt : Stmt := top 42
noncomputable abbrev s_law : Stmt := top 43
theorem sc_is_whole : FnScope ["thing", "low", "high"] ["thing", "low", "high"] (defScope s_is_whole) := ⟨rfl, rfl, rfl, by decide +kernel, rfl, by decide +kernel, by decide +kernel⟩
theorem sc_is_list_of : FnScope ["thing", "most", "is_one"] ["thing", "most", "is_one"] (defScope s_is_list_of) := ⟨rfl, rfl, rfl, by decide +kernel, rfl, by decide +kernel, by decide +kernel⟩
theorem sc_is_wished_sum : FnScope ["thing"] ["thing"] (defScope s_is_wished_sum) := ⟨rfl, rfl, rfl, by decide +kernel, rfl, by decide +kernel, by decide +kernel⟩
theorem sc_is_bounded : FnScope ["thing", "rows", "columns"] ["thing", "rows", "columns"] (defScope s_is_bounded) := ⟨rfl, rfl, rfl, by decide +kernel, rfl, by decide +kernel, by decide +kernel⟩
noncomputable abbrev le_need_bounds_1 : Expr := (argE (notE (ifE (stAt s_need_bounds 1))) 2)
noncomputable def ld_need_bounds_1 : LamD := lamOf ((("need_bounds" : Str) ++ ".<locals>.") ++ "<lambda>") le_need_bounds_1
theorem sc_need_bounds : FnScope ["rows", "columns", "units"] ["rows", "columns", "units"] (defScope s_need_bounds) := ⟨rfl, rfl, rfl, by decide +kernel, rfl, by decide +kernel, by decide +kernel⟩
theorem sc_sums_of : FnScope ["weights", "units", "side", "many", "told", "unit", "weight"] ["weights", "units", "side", "many"] (defScope s_sums_of) := ⟨rfl, rfl, rfl, by decide +kernel, rfl, by decide +kernel, by decide +kernel⟩
theorem sc_led : FnScope ["rows", "columns", "units", "word", "weights", "spare", "by", "short", "path"] ["rows", "columns", "units"] (defScope s_led) := ⟨rfl, rfl, rfl, by decide +kernel, rfl, by decide +kernel, by decide +kernel⟩
theorem sc_spare_of : FnScope ["rows", "columns", "units", "weights", "spare", "number", "told"] ["rows", "columns", "units", "weights"] (defScope s_spare_of) := ⟨rfl, rfl, rfl, by decide +kernel, rfl, by decide +kernel, by decide +kernel⟩
theorem sc_reached_from : FnScope ["starts", "units", "weights", "by", "start", "ahead", "here", "place", "unit", "there"] ["starts", "units", "weights"] (defScope s_reached_from) := ⟨rfl, rfl, rfl, by decide +kernel, rfl, by decide +kernel, by decide +kernel⟩
theorem sc_other_end : FnScope ["unit", "here"] ["unit", "here"] (defScope s_other_end) := ⟨rfl, rfl, rfl, by decide +kernel, rfl, by decide +kernel, by decide +kernel⟩
theorem sc_room : FnScope ["unit", "weight", "start"] ["unit", "weight", "start"] (defScope s_room) := ⟨rfl, rfl, rfl, by decide +kernel, rfl, by decide +kernel, by decide +kernel⟩
theorem sc_path_to : FnScope ["last", "by", "units", "path", "here", "place"] ["last", "by", "units"] (defScope s_path_to) := ⟨rfl, rfl, rfl, by decide +kernel, rfl, by decide +kernel, by decide +kernel⟩
theorem sc_given_along : FnScope ["path", "most", "units", "weights", "many", "told", "end", "place"] ["path", "most", "units", "weights"] (defScope s_given_along) := ⟨rfl, rfl, rfl, by decide +kernel, rfl, by decide +kernel, by decide +kernel⟩
theorem sc_reached_on : FnScope ["side", "by"] ["side", "by"] (defScope s_reached_on) := ⟨rfl, rfl, rfl, by decide +kernel, rfl, by decide +kernel, by decide +kernel⟩
theorem sc_is_led : FnScope ["rows", "columns", "units", "told"] ["rows", "columns", "units", "told"] (defScope s_is_led) := ⟨rfl, rfl, rfl, by decide +kernel, rfl, by decide +kernel, by decide +kernel⟩
theorem sc_are_led : FnScope ["rows", "columns", "units", "weights"] ["rows", "columns", "units", "weights"] (defScope s_are_led) := ⟨rfl, rfl, rfl, by decide +kernel, rfl, by decide +kernel, by decide +kernel⟩
theorem sc_shows_none : FnScope ["rows", "columns", "units", "told", "word", "some", "others", "more", "outer", "inner"] ["rows", "columns", "units", "told"] (defScope s_shows_none) := ⟨rfl, rfl, rfl, by decide +kernel, rfl, by decide +kernel, by decide +kernel⟩
theorem sc_greatest_more : FnScope ["ones", "others"] ["ones", "others"] (defScope s_greatest_more) := ⟨rfl, rfl, rfl, by decide +kernel, rfl, by decide +kernel, by decide +kernel⟩
theorem sc_is_rising : FnScope ["numbers", "many"] ["numbers", "many"] (defScope s_is_rising) := ⟨rfl, rfl, rfl, by decide +kernel, rfl, by decide +kernel, by decide +kernel⟩
theorem sc_L_cell : FnScope ["_law_script", "_law_k"] ["_law_script", "_law_k"] (defScope s_L_cell) := ⟨rfl, rfl, rfl, by decide +kernel, rfl, by decide +kernel, by decide +kernel⟩
theorem sc_L_mix : FnScope ["_law_cell_here", "_law_k", "_law_number"] ["_law_cell_here", "_law_k"] (defScope s_L_mix) := ⟨rfl, rfl, rfl, by decide +kernel, rfl, by decide +kernel, by decide +kernel⟩
theorem sc_L_row : FnScope ["_law_cell_here", "_law_bit", "_law_many", "_law_most", "_law_row_here", "_law_k"] ["_law_cell_here", "_law_bit", "_law_many", "_law_most"] (defScope s_L_row) := ⟨rfl, rfl, rfl, by decide +kernel, rfl, by decide +kernel, by decide +kernel⟩
theorem sc_L_whole : FnScope ["_law_found"] ["_law_found"] (defScope s_L_whole) := ⟨rfl, rfl, rfl, by decide +kernel, rfl, by decide +kernel, by decide +kernel⟩
theorem sc_L_units : FnScope ["_law_script", "_law_start", "_law_rows", "_law_columns", "_law_many", "_law_bit", "_law_top", "_law_row_here", "_law_units_here", "_law_k", "_law_low", "_law_high"] ["_law_script", "_law_start", "_law_rows", "_law_columns"] (defScope s_L_units) := ⟨rfl, rfl, rfl, by decide +kernel, rfl, by decide +kernel, by decide +kernel⟩
theorem sc_L_sums : FnScope ["_law_units_here", "_law_weights_here", "_law_place", "_law_many", "_law_found", "_law_unit", "_law_much"] ["_law_units_here", "_law_weights_here", "_law_place", "_law_many"] (defScope s_L_sums) := ⟨rfl, rfl, rfl, by decide +kernel, rfl, by decide +kernel, by decide +kernel⟩
theorem sc_L_wished : FnScope ["_law_script", "_law_start", "_law_rows", "_law_columns", "_law_units_here", "_law_bit", "_law_row_here", "_law_weights_here", "_law_unit", "_law_number", "_law_wanted", "_law_way", "_law_some", "_law_at", "_law_to", "_law_much"] ["_law_script", "_law_start", "_law_rows", "_law_columns", "_law_units_here"] (defScope s_L_wished) := ⟨rfl, rfl, rfl, by decide +kernel, rfl, by decide +kernel, by decide +kernel⟩
theorem sc_L_weights : FnScope ["_law_rows", "_law_columns", "_law_units_here", "_law_weights_here", "_law_unit", "_law_much"] ["_law_rows", "_law_columns", "_law_units_here", "_law_weights_here"] (defScope s_L_weights) := ⟨rfl, rfl, rfl, by decide +kernel, rfl, by decide +kernel, by decide +kernel⟩
theorem sc_L_numbers : FnScope ["_law_some", "_law_many"] ["_law_some", "_law_many"] (defScope s_L_numbers) := ⟨rfl, rfl, rfl, by decide +kernel, rfl, by decide +kernel, by decide +kernel⟩
theorem sc_L_cut : FnScope ["_law_rows", "_law_columns", "_law_units_here", "_law_word", "_law_some", "_law_others", "_law_one", "_law_other", "_law_row_here", "_law_column", "_law_low", "_law_high"] ["_law_rows", "_law_columns", "_law_units_here", "_law_word", "_law_some", "_law_others"] (defScope s_L_cut) := ⟨rfl, rfl, rfl, by decide +kernel, rfl, by decide +kernel, by decide +kernel⟩
theorem sc_L_right : FnScope ["_law_rows", "_law_columns", "_law_units_here", "_law_told"] ["_law_rows", "_law_columns", "_law_units_here", "_law_told"] (defScope s_L_right) := ⟨rfl, rfl, rfl, by decide +kernel, rfl, by decide +kernel, by decide +kernel⟩
theorem sc_L_list : FnScope ["_law_some", "_law_cell_here", "_law_at", "_law_step", "_law_way"] ["_law_some", "_law_cell_here"] (defScope s_L_list) := ⟨rfl, rfl, rfl, by decide +kernel, rfl, by decide +kernel, by decide +kernel⟩
theorem sc_L_drawn : FnScope ["_law_rows", "_law_columns", "_law_units_here", "_law_cell_here", "_law_weights_here", "_law_unit", "_law_number", "_law_some", "_law_others"] ["_law_rows", "_law_columns", "_law_units_here", "_law_cell_here"] (defScope s_L_drawn) := ⟨rfl, rfl, rfl, by decide +kernel, rfl, by decide +kernel, by decide +kernel⟩
theorem sc_L_spoilt : FnScope ["_law_rows", "_law_columns", "_law_units_here", "_law_told", "_law_cell_here", "_law_rest"] ["_law_rows", "_law_columns", "_law_units_here", "_law_told", "_law_cell_here"] (defScope s_L_spoilt) := ⟨rfl, rfl, rfl, by decide +kernel, rfl, by decide +kernel, by decide +kernel⟩
theorem sc_law : FnScope ["_law_script", "_law_many", "_law_units_here", "_law_rows", "_law_columns", "_law_told", "_law_k", "_law_cell_here", "_law_one", "_law_handed", "_law_found"] ["_law_script"] (defScope s_law) := ⟨rfl, rfl, rfl, by decide +kernel, rfl, by decide +kernel, by decide +kernel⟩
set_option genInjectivity false in
set_option genSizeOf false in
structure Ad where
  f_is_whole : Addr
  d_is_whole : FuncData
  f_is_list_of : Addr
  d_is_list_of : FuncData
  f_is_wished_sum : Addr
  d_is_wished_sum : FuncData
  f_is_bounded : Addr
  d_is_bounded : FuncData
  f_need_bounds : Addr
  d_need_bounds : FuncData
  f_sums_of : Addr
  d_sums_of : FuncData
  f_led : Addr
  d_led : FuncData
  f_spare_of : Addr
  d_spare_of : FuncData
  f_reached_from : Addr
  d_reached_from : FuncData
  f_other_end : Addr
  d_other_end : FuncData
  f_room : Addr
  d_room : FuncData
  f_path_to : Addr
  d_path_to : FuncData
  f_given_along : Addr
  d_given_along : FuncData
  f_reached_on : Addr
  d_reached_on : FuncData
  f_is_led : Addr
  d_is_led : FuncData
  f_are_led : Addr
  d_are_led : FuncData
  f_shows_none : Addr
  d_shows_none : FuncData
  f_greatest_more : Addr
  d_greatest_more : FuncData
  f_is_rising : Addr
  d_is_rising : FuncData
  f_L_cell : Addr
  d_L_cell : FuncData
  f_L_mix : Addr
  d_L_mix : FuncData
  f_L_row : Addr
  d_L_row : FuncData
  f_L_whole : Addr
  d_L_whole : FuncData
  f_L_units : Addr
  d_L_units : FuncData
  f_L_sums : Addr
  d_L_sums : FuncData
  f_L_wished : Addr
  d_L_wished : FuncData
  f_L_weights : Addr
  d_L_weights : FuncData
  f_L_numbers : Addr
  d_L_numbers : FuncData
  f_L_cut : Addr
  d_L_cut : FuncData
  f_L_right : Addr
  d_L_right : FuncData
  f_L_list : Addr
  d_L_list : FuncData
  f_L_drawn : Addr
  d_L_drawn : FuncData
  f_L_spoilt : Addr
  d_L_spoilt : FuncData
  f_law : Addr
  d_law : FuncData
  c_SpeakError : Addr
  c_NoBounds : Addr
  lc_need_bounds : Addr
  lp_need_bounds : Addr
noncomputable abbrev ll_need_bounds : List (Pos × Str) := [(lamP le_need_bounds_1, ((("need_bounds" : Str) ++ ".<locals>.") ++ "<lambda>"))]
theorem tp_need_bounds : (ll_need_bounds).Pairwise fun x y => ¬ (x.1.line = y.1.line ∧ x.1.col = y.1.col) := by decide +kernel
noncomputable def tabs (a : Ad) : Tabs := [(a.lp_need_bounds, ll_need_bounds)]
theorem tb_need_bounds (a : Ad) : (a.lp_need_bounds, ll_need_bounds) ∈ tabs a := (.head _)
structure Txt (K : PySem.W.Frag) (mg : Str → Option Value) (a : Ad) : Prop where
  lcd_need_bounds : a.d_need_bounds.code = .ref a.lc_need_bounds
  lch_need_bounds : PySem.W.codeHdIn K a.lc_need_bounds a.lp_need_bounds = true
  tnd : ((tabs a).map (·.1)).Nodup
  F_is_whole : Fun K "is_whole" "is_whole" s_is_whole a.f_is_whole a.d_is_whole
  B_is_whole : Binds K a.d_is_whole ["thing", "low", "high"] []
  m_is_whole : mg "is_whole" = some (.ref a.f_is_whole)
  F_is_list_of : Fun K "is_list_of" "is_list_of" s_is_list_of a.f_is_list_of a.d_is_list_of
  B_is_list_of : Binds K a.d_is_list_of ["thing", "most", "is_one"] []
  m_is_list_of : mg "is_list_of" = some (.ref a.f_is_list_of)
  F_is_wished_sum : Fun K "is_wished_sum" "is_wished_sum" s_is_wished_sum a.f_is_wished_sum a.d_is_wished_sum
  B_is_wished_sum : Binds K a.d_is_wished_sum ["thing"] []
  m_is_wished_sum : mg "is_wished_sum" = some (.ref a.f_is_wished_sum)
  F_is_bounded : Fun K "is_bounded" "is_bounded" s_is_bounded a.f_is_bounded a.d_is_bounded
  B_is_bounded : Binds K a.d_is_bounded ["thing", "rows", "columns"] []
  m_is_bounded : mg "is_bounded" = some (.ref a.f_is_bounded)
  F_need_bounds : Fun K "need_bounds" "need_bounds" s_need_bounds a.f_need_bounds a.d_need_bounds
  B_need_bounds : Binds K a.d_need_bounds ["rows", "columns", "units"] []
  m_need_bounds : mg "need_bounds" = some (.ref a.f_need_bounds)
  F_sums_of : Fun K "sums_of" "sums_of" s_sums_of a.f_sums_of a.d_sums_of
  B_sums_of : Binds K a.d_sums_of ["weights", "units", "side", "many"] []
  m_sums_of : mg "sums_of" = some (.ref a.f_sums_of)
  F_led : Fun K "led" "led" s_led a.f_led a.d_led
  B_led : Binds K a.d_led ["rows", "columns", "units"] []
  m_led : mg "led" = some (.ref a.f_led)
  F_spare_of : Fun K "spare_of" "spare_of" s_spare_of a.f_spare_of a.d_spare_of
  B_spare_of : Binds K a.d_spare_of ["rows", "columns", "units", "weights"] []
  m_spare_of : mg "spare_of" = some (.ref a.f_spare_of)
  F_reached_from : Fun K "reached_from" "reached_from" s_reached_from a.f_reached_from a.d_reached_from
  B_reached_from : Binds K a.d_reached_from ["starts", "units", "weights"] []
  m_reached_from : mg "reached_from" = some (.ref a.f_reached_from)
  F_other_end : Fun K "other_end" "other_end" s_other_end a.f_other_end a.d_other_end
  B_other_end : Binds K a.d_other_end ["unit", "here"] []
  m_other_end : mg "other_end" = some (.ref a.f_other_end)
  F_room : Fun K "room" "room" s_room a.f_room a.d_room
  B_room : Binds K a.d_room ["unit", "weight", "start"] []
  m_room : mg "room" = some (.ref a.f_room)
  F_path_to : Fun K "path_to" "path_to" s_path_to a.f_path_to a.d_path_to
  B_path_to : Binds K a.d_path_to ["last", "by", "units"] []
  m_path_to : mg "path_to" = some (.ref a.f_path_to)
  F_given_along : Fun K "given_along" "given_along" s_given_along a.f_given_along a.d_given_along
  B_given_along : Binds K a.d_given_along ["path", "most", "units", "weights"] []
  m_given_along : mg "given_along" = some (.ref a.f_given_along)
  F_reached_on : Fun K "reached_on" "reached_on" s_reached_on a.f_reached_on a.d_reached_on
  B_reached_on : Binds K a.d_reached_on ["side", "by"] []
  m_reached_on : mg "reached_on" = some (.ref a.f_reached_on)
  F_is_led : Fun K "is_led" "is_led" s_is_led a.f_is_led a.d_is_led
  B_is_led : Binds K a.d_is_led ["rows", "columns", "units", "told"] []
  m_is_led : mg "is_led" = some (.ref a.f_is_led)
  F_are_led : Fun K "are_led" "are_led" s_are_led a.f_are_led a.d_are_led
  B_are_led : Binds K a.d_are_led ["rows", "columns", "units", "weights"] []
  m_are_led : mg "are_led" = some (.ref a.f_are_led)
  F_shows_none : Fun K "shows_none" "shows_none" s_shows_none a.f_shows_none a.d_shows_none
  B_shows_none : Binds K a.d_shows_none ["rows", "columns", "units", "told"] []
  m_shows_none : mg "shows_none" = some (.ref a.f_shows_none)
  F_greatest_more : Fun K "greatest_more" "greatest_more" s_greatest_more a.f_greatest_more a.d_greatest_more
  B_greatest_more : Binds K a.d_greatest_more ["ones", "others"] []
  m_greatest_more : mg "greatest_more" = some (.ref a.f_greatest_more)
  F_is_rising : Fun K "is_rising" "is_rising" s_is_rising a.f_is_rising a.d_is_rising
  B_is_rising : Binds K a.d_is_rising ["numbers", "many"] []
  m_is_rising : mg "is_rising" = some (.ref a.f_is_rising)
  F_L_cell : Fun K "_law_cell" "_law_cell" s_L_cell a.f_L_cell a.d_L_cell
  B_L_cell : Binds K a.d_L_cell ["_law_script", "_law_k"] []
  m_L_cell : mg "_law_cell" = some (.ref a.f_L_cell)
  F_L_mix : Fun K "_law_mix" "_law_mix" s_L_mix a.f_L_mix a.d_L_mix
  B_L_mix : Binds K a.d_L_mix ["_law_cell_here", "_law_k"] []
  m_L_mix : mg "_law_mix" = some (.ref a.f_L_mix)
  F_L_row : Fun K "_law_row" "_law_row" s_L_row a.f_L_row a.d_L_row
  B_L_row : Binds K a.d_L_row ["_law_cell_here", "_law_bit", "_law_many", "_law_most"] []
  m_L_row : mg "_law_row" = some (.ref a.f_L_row)
  F_L_whole : Fun K "_law_whole" "_law_whole" s_L_whole a.f_L_whole a.d_L_whole
  B_L_whole : Binds K a.d_L_whole ["_law_found"] []
  m_L_whole : mg "_law_whole" = some (.ref a.f_L_whole)
  F_L_units : Fun K "_law_units" "_law_units" s_L_units a.f_L_units a.d_L_units
  B_L_units : Binds K a.d_L_units ["_law_script", "_law_start", "_law_rows", "_law_columns"] []
  m_L_units : mg "_law_units" = some (.ref a.f_L_units)
  F_L_sums : Fun K "_law_sums" "_law_sums" s_L_sums a.f_L_sums a.d_L_sums
  B_L_sums : Binds K a.d_L_sums ["_law_units_here", "_law_weights_here", "_law_place", "_law_many"] []
  m_L_sums : mg "_law_sums" = some (.ref a.f_L_sums)
  F_L_wished : Fun K "_law_wished" "_law_wished" s_L_wished a.f_L_wished a.d_L_wished
  B_L_wished : Binds K a.d_L_wished ["_law_script", "_law_start", "_law_rows", "_law_columns", "_law_units_here"] []
  m_L_wished : mg "_law_wished" = some (.ref a.f_L_wished)
  F_L_weights : Fun K "_law_weights" "_law_weights" s_L_weights a.f_L_weights a.d_L_weights
  B_L_weights : Binds K a.d_L_weights ["_law_rows", "_law_columns", "_law_units_here", "_law_weights_here"] []
  m_L_weights : mg "_law_weights" = some (.ref a.f_L_weights)
  F_L_numbers : Fun K "_law_numbers" "_law_numbers" s_L_numbers a.f_L_numbers a.d_L_numbers
  B_L_numbers : Binds K a.d_L_numbers ["_law_some", "_law_many"] []
  m_L_numbers : mg "_law_numbers" = some (.ref a.f_L_numbers)
  F_L_cut : Fun K "_law_cut" "_law_cut" s_L_cut a.f_L_cut a.d_L_cut
  B_L_cut : Binds K a.d_L_cut ["_law_rows", "_law_columns", "_law_units_here", "_law_word", "_law_some", "_law_others"] []
  m_L_cut : mg "_law_cut" = some (.ref a.f_L_cut)
  F_L_right : Fun K "_law_right" "_law_right" s_L_right a.f_L_right a.d_L_right
  B_L_right : Binds K a.d_L_right ["_law_rows", "_law_columns", "_law_units_here", "_law_told"] []
  m_L_right : mg "_law_right" = some (.ref a.f_L_right)
  F_L_list : Fun K "_law_list" "_law_list" s_L_list a.f_L_list a.d_L_list
  B_L_list : Binds K a.d_L_list ["_law_some", "_law_cell_here"] []
  m_L_list : mg "_law_list" = some (.ref a.f_L_list)
  F_L_drawn : Fun K "_law_drawn" "_law_drawn" s_L_drawn a.f_L_drawn a.d_L_drawn
  B_L_drawn : Binds K a.d_L_drawn ["_law_rows", "_law_columns", "_law_units_here", "_law_cell_here"] []
  m_L_drawn : mg "_law_drawn" = some (.ref a.f_L_drawn)
  F_L_spoilt : Fun K "_law_spoilt" "_law_spoilt" s_L_spoilt a.f_L_spoilt a.d_L_spoilt
  B_L_spoilt : Binds K a.d_L_spoilt ["_law_rows", "_law_columns", "_law_units_here", "_law_told", "_law_cell_here"] []
  m_L_spoilt : mg "_law_spoilt" = some (.ref a.f_L_spoilt)
  F_law : Fun K "law" "law" s_law a.f_law a.d_law
  B_law : Binds K a.d_law ["_law_script"] []
  m_law : mg "law" = some (.ref a.f_law)
  g_MOST_SUMS : ∃ u, mg "MOST_SUMS" = some u ∧ RelV (.int 6) u
  g_MOST_SUM : ∃ u, mg "MOST_SUM" = some u ∧ RelV (.int 24000000) u
  g_MOST_UNITS : ∃ u, mg "MOST_UNITS" = some u ∧ RelV (.int 24) u
  g_MOST_WEIGHT : ∃ u, mg "MOST_WEIGHT" = some u ∧ RelV (.int 1000000) u
  mc_SpeakError : mg "SpeakError" = some (.ref a.c_SpeakError)
  g_SpeakError : ∃ u, mg "SpeakError" = some u ∧ RelV (.ref a.c_SpeakError) u
  kc_SpeakError : PySem.W.keepIn K (.ref a.c_SpeakError) = true
  xc_SpeakError : XCls K a.c_SpeakError
  xh_SpeakError : XHd K a.c_SpeakError
  xi_SpeakError : xIn K a.c_SpeakError none = true
  mc_NoBounds : mg "NoBounds" = some (.ref a.c_NoBounds)
  g_NoBounds : ∃ u, mg "NoBounds" = some u ∧ RelV (.ref a.c_NoBounds) u
  kc_NoBounds : PySem.W.keepIn K (.ref a.c_NoBounds) = true
  xc_NoBounds : XCls K a.c_NoBounds
  xh_NoBounds : XHd K a.c_NoBounds
  xi_NoBounds : xIn K a.c_NoBounds none = true
  z_all : mg "all" = none
  z_bool : mg "bool" = none
  z_enumerate : mg "enumerate" = none
  z_int : mg "int" = none
  z_isinstance : mg "isinstance" = none
  z_len : mg "len" = none
  z_list : mg "list" = none
  z_max : mg "max" = none
  z_min : mg "min" = none
  z_range : mg "range" = none
  z_reversed : mg "reversed" = none
  z_set : mg "set" = none
  z_sorted : mg "sorted" = none
  z_sum : mg "sum" = none
  z_tuple : mg "tuple" = none
  z_zip : mg "zip" = none
  bl : ∀ (s : Shared) (u : Value), BindsTo s a.d_law ⟨[u], []⟩ [("_law_script", u)]
inductive spLaw (K : PySem.W.Frag) (ts : List Addr) (vs : List V) (H : Hp) (Q : VK) (_E : XK) : Prop
  | mk (p : Addr) (ns : List Int) (h0 : vs = [.ref p]) (h1 : SqL K H p (ns.map V.int)) (h2 : ns.length ≤ 63) (h3 : (∀ P ∈ ts, H P = some (.tbl #[]))) (h4 : ∀ H', Q (.bl true) H') : spLaw K ts vs H Q _E
theorem law_start {K : PySem.W.Frag} {ts : List Addr} {H : Hp} {a : Addr} {ns : List Int} (hl : ns.length ≤ 63) (hT : ∀ P ∈ ts, H P = some (.tbl #[])) (hS : SqL K H a (ns.map V.int)) : spLaw K ts [.ref a] H (fun v _ => v = .bl true) fun _ _ _ => False := ⟨a, ns, rfl, hS, hl, hT, fun _ => rfl⟩
inductive Thing (H : Hp) : V → Option Int → Prop
  | int (i : Int) : Thing H (.int i) (some i)
  | bl (b : Bool) : Thing H (.bl b) none
  | non : Thing H .non none
  | str (t : Str) : Thing H (.str t) none
  | lst (p : Addr) (xs : List V) (e : H p = some (.lst xs)) : Thing H (.ref p) none
  | tup (p : Addr) (xs : List V) (e : H p = some (.tup xs)) : Thing H (.ref p) none
  | dK (p : Addr) (kvs : List (Key × V)) (e : H p = some (.dK kvs)) : Thing H (.ref p) none
noncomputable def inR (lo hi : Int) : Option Int → Bool
  | some i => decide (lo ≤ i ∧ i ≤ hi)
  | none => false
inductive spWhole3 (vs : List V) (H : Hp) (Q : VK) (_E : XK) : Prop
  | mk (x : V) (lo hi : Int) (o : Option Int) (h0 : vs = [x, .int lo, .int hi]) (h1 : Thing H x o) (h2 : Q (.bl (inR lo hi o)) H) : spWhole3 vs H Q _E
theorem inR_yes {lo hi i : Int} (h0 : lo ≤ i) (h1 : i ≤ hi) : inR lo hi (some i) = true := decide_eq_true ⟨h0, h1⟩
theorem pget {α : Type} {R : α → V → Prop} : ∀ {fs : List α} {xs : List V} {i : Nat} {x : V}, PySem.Paired R fs xs → xs[i]? = some x → ∃ f, fs[i]? = some f ∧ R f x
  | _, _, _, _, .nil, h => by cases h
  | _, _, 0, _, .cons r _, h => ⟨_, rfl, by cases h; exact r⟩
  | _, _, i + 1, _, .cons _ t, h => pget (i := i) t h
noncomputable abbrev tupU (u : Un) : List V := [.int (u.r : Nat), .int (u.c : Nat), .int u.lo, .int u.hi]
noncomputable def IsU (H : Hp) (u : Un) (x : V) : Prop := ∃ p, x = .ref p ∧ H p = some (.tup (tupU u))
theorem IsU.tu {H H' : Hp} {u : Un} {x : V} (s : TupS H H') (h : IsU H u x) : IsU H' u x := let ⟨p, e, q⟩ := h; ⟨p, e, s _ _ q⟩
noncomputable abbrev AllU (H : Hp) : List Un → List V → Prop := PySem.Paired (IsU H)
theorem AllU.tu {H H' : Hp} (s : TupS H H') : ∀ {us : List Un} {xs : List V}, AllU H us xs → AllU H' us xs
  | _, _, .nil => .nil
  | _, _, .cons r t => .cons (r.tu s) (AllU.tu s t)
theorem AllU.snoc {H : Hp} {u : Un} {x : V} (r : IsU H u x) : ∀ {us : List Un} {xs : List V}, AllU H us xs → AllU H (us ++ [u]) (xs ++ [x])
  | _, _, .nil => .cons r .nil
  | _, _, .cons q t => .cons q (AllU.snoc r t)
theorem tu_lst {H : Hp} {D : Addr} {ys : List V} {o : HO} (h : H D = some (.lst ys)) : TupS H (upd H D o) := fun b xs e => by rw [upd_ne (fun z => by rw [z, h] at e; cases e)]; exact e
noncomputable def OkN (u : Un) (R C : Nat) : Prop := u.r < R ∧ u.c < C ∧ 0 ≤ u.lo ∧ u.lo ≤ u.hi ∧ u.hi ≤ 1000000
noncomputable def Sums (ns : List Int) : Prop := ns.length ≤ 6 ∧ ∀ v ∈ ns, 0 ≤ v ∧ v ≤ 24000000
structure In (H : Hp) (lr lc lu : Addr) (rows cols : List Int) (us : List Un) (xs : List V) : Prop where
  r : H lr = some (.lst (rows.map V.int))
  c : H lc = some (.lst (cols.map V.int))
  u : H lu = some (.lst xs)
  all : AllU H us xs
  rs : Sums rows
  cs : Sums cols
  n : us.length ≤ 24
  ok : ∀ u ∈ us, OkN u rows.length cols.length
theorem In.same {H H' : Hp} {lr lc lu : Addr} {rows cols : List Int} {us : List Un} {xs : List V} (s : Same H H') (h : In H lr lc lu rows cols us xs) : In H' lr lc lu rows cols us xs := ⟨s _ _ h.r, s _ _ h.c, s _ _ h.u, h.all.tu s.tu, h.rs, h.cs, h.n, h.ok⟩
theorem In.t {H H' : Hp} {lr lc lu : Addr} {rows cols : List Int} {us : List Un} {xs : List V} (s : SameT H H') (h : In H lr lc lu rows cols us xs) : In H' lr lc lu rows cols us xs := ⟨s.at h.r, s.at h.c, s.at h.u, h.all.tu fun b xs e => s.at e, h.rs, h.cs, h.n, h.ok⟩
theorem all_true (n : Nat) : (List.replicate n true).all id = true := by rw [List.all_eq_true]; intro b hb; rw [(List.mem_replicate.mp hb).2]; rfl
theorem nd2 (n : Nat) : ([n + 1, n + 1 + 1] : List Nat).Nodup := by
  simp only [List.nodup_cons, List.mem_cons, List.not_mem_nil, or_false, not_or, not_false_eq_true, List.nodup_nil, and_true]
  lia
inductive spWish (vs : List V) (H : Hp) (Q : VK) (_E : XK) : Prop
  | mk (v : Int) (h0 : vs = [.int v]) (h1 : 0 ≤ v) (h2 : v ≤ 24000000) (h3 : Q (.bl true) H) : spWish vs H Q _E
inductive spBounded (vs : List V) (H : Hp) (Q : VK) (_E : XK) : Prop
  | mk (x : V) (u : Un) (R C : Nat) (h0 : vs = [x, .int (R : Nat), .int (C : Nat)]) (h1 : IsU H u x) (h2 : OkN u R C) (h3 : Q (.bl true) H) : spBounded vs H Q _E
noncomputable def IsLam (H : Hp) (d : LamD) (fv : List Str) (v : V) (vals : List V) : Prop := ∃ f c clos, v = .ref f ∧ H f = some (.ext (LamX f d clos c)) ∧ H c = some (.ext (CodeX c d.qual)) ∧ clos.map (·.1) = fv ∧ (clos.map (·.2)).Nodup ∧ CellsAt H clos vals
theorem cells_t {H H' : Hp} (s : SameT H H') : ∀ {clos : List (Str × Addr)} {vals : List V}, CellsAt H clos vals → CellsAt H' clos vals
  | _, _, .nil => .nil
  | _, _, .cons r t => .cons (s.at r) (cells_t s t)
theorem IsLam.t {H H' : Hp} {d : LamD} {fv : List Str} {v : V} {vals : List V} (s : SameT H H') (h : IsLam H d fv v vals) : IsLam H' d fv v vals := by
  obtain ⟨f, c, clos, h1, h2, h3, h4, h5, h6⟩ := h
  exact ⟨f, c, clos, h1, s.at h2, s.at h3, h4, h5, cells_t s h6⟩
theorem backS {H H' H3 : Hp} {clos : List (Str × Addr)} (s : Same (untrs H (clos.map (·.2))) H') (s3 : Same H' H3) (hc : ∀ p ∈ clos, H3 p.2 = H p.2) : Same H H3 := fun b o e => by
  by_cases hb : b ∈ clos.map (·.2)
  · obtain ⟨p, hp, rfl⟩ := List.mem_map.mp hb
    rw [hc p hp, e]
  · exact (s.trans s3) b o (by rw [untrs_out hb]; exact e)
noncomputable abbrev fvB : List Str := ["rows", "columns"]
theorem lsB : LamScope ld_need_bounds_1 fvB ["thing"] := ⟨rfl, rfl, rfl, by decide +kernel, by decide +kernel, by decide +kernel, by decide +kernel, by decide +kernel⟩
noncomputable def spLam : List V → Sp := fun vals vs H Q _ => ∃ (lr lc : Addr) (rows cols : List Int) (x : V) (u : Un), vals = [.ref lr, .ref lc] ∧ vs = [x] ∧ H lr = some (.lst (rows.map V.int)) ∧ H lc = some (.lst (cols.map V.int)) ∧ IsU H u x ∧ OkN u rows.length cols.length ∧ ∀ H', Same H H' → Q (.bl true) H'
inductive spListW (f : Addr) (vs : List V) (H : Hp) (Q : VK) (_E : XK) : Prop
  | mk (l : Addr) (ns : List Int) (h0 : vs = [.ref l, .int 6, .ref f]) (h1 : H l = some (.lst (ns.map V.int))) (h2 : Sums ns) (h3 : ∀ H', Same H H' → Q (.bl true) H') : spListW f vs H Q _E
inductive spListL (vs : List V) (H : Hp) (Q : VK) (_E : XK) : Prop
  | mk (v : V) (lr lc lu : Addr) (rows cols : List Int) (us : List Un) (xs : List V) (h0 : vs = [.ref lu, .int 24, v]) (h1 : In H lr lc lu rows cols us xs) (h2 : IsLam H ld_need_bounds_1 fvB v [.ref lr, .ref lc]) (h3 : ∀ H', Same H H' → Q (.bl true) H') : spListL vs H Q _E
inductive spNeed (a : Ad) (vs : List V) (H : Hp) (Q : VK) (_E : XK) : Prop
  | mk (lr lc lu : Addr) (rows cols : List Int) (us : List Un) (xs : List V) (h0 : vs = [.ref lr, .ref lc, .ref lu]) (h1 : In H lr lc lu rows cols us xs) (h2 : TabsOk (tabs a) H) (h3 : ∀ H', SameT H H' → TabsOk (tabs a) H' → Q .non H') : spNeed a vs H Q _E
section
variable {P : Program} {w : World} {K : PySem.W.Frag} {mg : Str → Option Value} {base : Heap} {a : Ad}
theorem ok_whole3 (T : Txt K mg a) : FnOk P w K mg base CX0 1 a.f_is_whole a.d_is_whole ["thing", "low", "high"] spWhole3 := by
  refine T.F_is_whole.ok sc_is_whole (fun vs H Q E h => ?_) (fun cdv A outer s H vs Q E hr h => ?_)
  · obtain ⟨x, lo, hi, o, rfl, _⟩ := h; rfl
  · obtain ⟨x, lo, hi, o, rfl, th, q⟩ := h
    refine ⟨_, (pss_one (ps_ret (m_and (pe_callB call_isi rfl T.z_isinstance bt_isinstance (pa_cons (vr 0) (pa_cons (pe_bltn (v := .ty "int") rfl T.z_int bt_int rfl) pa_nil))) (m_and (m_not (pe_callB call_isi rfl T.z_isinstance bt_isinstance (pa_cons (vr 0) (pa_cons (pe_bltn (v := .ty "bool") rfl T.z_bool bt_bool rfl) pa_nil)))) (pe_one (m_chain o_le o_le (vr 1) (vr 0) (vr 2))))))), ?_⟩
    cases th with
    | int i =>
      refine ⟨_, _, _, true, rfl, rfl, .int i, rfl, ?_⟩
      refine ⟨_, _, _, false, rfl, rfl, .int i, rfl, ?_⟩
      exact and_if (Q := fun v => Q v H) q
    | bl b => exact ⟨_, _, _, true, rfl, rfl, .bl b, rfl, ⟨_, _, _, true, rfl, rfl, .bl b, rfl, q⟩⟩
    | non => exact ⟨_, _, _, false, rfl, rfl, .non, rfl, q⟩
    | str t => exact ⟨_, _, _, false, rfl, rfl, .str t, rfl, q⟩
    | lst p xs e => exact ⟨_, _, _, false, rfl, rfl, .lst e, rfl, q⟩
    | tup p xs e => exact ⟨_, _, _, false, rfl, rfl, .tup e, rfl, q⟩
    | dK p kvs e => exact ⟨_, _, _, false, rfl, rfl, .dK e, rfl, q⟩
theorem ok_wish (T : Txt K mg a) : FnOk P w K mg base CX0 2 a.f_is_wished_sum a.d_is_wished_sum ["thing"] spWish := by
  have G_is_whole : FnOk P w K mg base CX0 1 _ _ _ spWhole3 := ok_whole3 T
  refine T.F_is_wished_sum.ok sc_is_wished_sum (fun vs H Q E h => ?_) (fun cdv A outer s H vs Q E hr h => ?_)
  · obtain ⟨v, rfl, _⟩ := h; rfl
  · obtain ⟨v, rfl, v0, v1, q⟩ := h
    refine ⟨_, (pss_one (ps_ret (pe_call G_is_whole hr rfl T.m_is_whole T.F_is_whole.kp T.B_is_whole .nil pass0 (pa_cons (vr 0) (pa_cons pe_int (pa_cons (pe_gl rfl T.g_MOST_SUM) pa_nil)))))), ?_⟩
    refine ⟨_, _, _, _, rfl, .int _, ?_⟩
    rw [inR_yes v0 v1]
    exact q
theorem ok_bounded (T : Txt K mg a) : FnOk P w K mg base CX0 2 a.f_is_bounded a.d_is_bounded ["thing", "rows", "columns"] spBounded := by
  have G_is_whole : FnOk P w K mg base CX0 1 _ _ _ spWhole3 := ok_whole3 T
  refine T.F_is_bounded.ok sc_is_bounded (fun vs H Q E h => ?_) (fun cdv A outer s H vs Q E hr h => ?_)
  · obtain ⟨x, u, R, C, rfl, _⟩ := h; rfl
  · obtain ⟨x, u, R, C, rfl, ⟨p, rfl, hp⟩, ok, q⟩ := h
    refine ⟨_, (pss_one (ps_ret (m_and (pe_callB call_isi rfl T.z_isinstance bt_isinstance (pa_cons (vr 0) (pa_cons (pe_bltn (v := .ty "tuple") rfl T.z_tuple bt_tuple rfl) pa_nil))) (m_and (pe_cmpR o_eq (pe_callB call_lenM rfl T.z_len bt_len (pa_cons (vr 0) pa_nil)) pe_int (nomark _)) (m_and (pe_call G_is_whole hr rfl T.m_is_whole T.F_is_whole.kp T.B_is_whole .nil pass0 (pa_cons (pe_ix ix_seq (vr 0) pe_int (fun _ _ => rfl)) (pa_cons pe_int (pa_cons (pe_op o_sub (vr 1) pe_int) pa_nil)))) (m_and (pe_call G_is_whole hr rfl T.m_is_whole T.F_is_whole.kp T.B_is_whole .nil pass0 (pa_cons (pe_ix ix_seq (vr 0) pe_int (fun _ _ => rfl)) (pa_cons pe_int (pa_cons (pe_op o_sub (vr 2) pe_int) pa_nil)))) (m_and (pe_call G_is_whole hr rfl T.m_is_whole T.F_is_whole.kp T.B_is_whole .nil pass0 (pa_cons (pe_ix ix_seq (vr 0) pe_int (fun _ _ => rfl)) (pa_cons pe_int (pa_cons (pe_gl rfl T.g_MOST_WEIGHT) pa_nil)))) (pe_one (pe_call G_is_whole hr rfl T.m_is_whole T.F_is_whole.kp T.B_is_whole .nil pass0 (pa_cons (pe_ix ix_seq (vr 0) pe_int (fun _ _ => rfl)) (pa_cons (pe_ix ix_seq (vr 0) pe_int (fun _ _ => rfl)) (pa_cons (pe_gl rfl T.g_MOST_WEIGHT) pa_nil)))))))))))), ?_⟩
    obtain ⟨o1, o2, o3, o4, o5⟩ := ok
    refine ⟨_, _, _, true, rfl, rfl, .tup hp, rfl, ⟨_, .inr (SqT.of hp), ?_⟩⟩
    refine .inr (.inl ⟨p, _, _, _, rfl, rfl, SqT.of hp, atI_cons 0 rfl rfl, ⟨_, _, _, _, rfl, .int _, ?_⟩⟩)
    rw [inR_yes (by (exact Int.natCast_nonneg _)) (by lia)]
    refine .inr (.inl ⟨p, _, _, _, rfl, rfl, SqT.of hp, atI_cons 1 rfl rfl, ⟨_, _, _, _, rfl, .int _, ?_⟩⟩)
    rw [inR_yes (by (exact Int.natCast_nonneg _)) (by lia)]
    refine .inr (.inl ⟨p, _, _, _, rfl, rfl, SqT.of hp, atI_cons 2 rfl rfl, ⟨_, _, _, _, rfl, .int _, ?_⟩⟩)
    rw [inR_yes (by (assumption)) (by lia)]
    refine .inr (.inl ⟨p, _, _, _, rfl, rfl, SqT.of hp, atI_cons 3 rfl rfl, ?_⟩)
    refine .inr (.inl ⟨p, _, _, _, rfl, rfl, SqT.of hp, atI_cons 2 rfl rfl, ⟨_, _, _, _, rfl, .int _, ?_⟩⟩)
    rw [inR_yes (by (assumption)) (by (assumption))]
    exact q
theorem ok_lamB (T : Txt K mg a) : LamOk P w K mg base 3 ld_need_bounds_1 fvB ["thing"] spLam := by
  have G_is_bounded : FnOk P w K mg base CX0 2 _ _ _ spBounded := ok_bounded T
  refine lam_of lsB (fun pm ctv clos c us hl => match us, hl with | [_], _ => rfl) (fun vals vs H Q E h => ?_) (fun A outer s H f c clos vals vs Q E hr hfv ca h => ?_)
  · obtain ⟨lr, lc, rows, cols, x, u, rfl, rfl, _⟩ := h; rfl
  · obtain ⟨lr, lc, rows, cols, x, u, rfl, rfl, h1, h2, ⟨p, rfl, hp⟩, ok, q⟩ := h
    refine ⟨_, (pe_call G_is_bounded hr rfl T.m_is_bounded T.F_is_bounded.kp T.B_is_bounded .nil pass0 (pa_cons (vr 0) (pa_cons (pe_callB call_lenM rfl T.z_len bt_len (pa_cons (vr 1) pa_nil)) (pa_cons (pe_callB call_lenM rfl T.z_len bt_len (pa_cons (vr 2) pa_nil)) pa_nil)))), ?_⟩
    have g1 := untrs_of ca h1 (fun v z => by cases z)
    have g2 := untrs_of ca h2 (fun v z => by cases z)
    have gp := untrs_of ca hp (fun v z => by cases z)
    refine ⟨_, .inl (SqL.of g1), ⟨_, .inl (SqL.of g2), ?_⟩⟩
    refine ⟨.ref p, u, rows.length, cols.length, by rw [List.length_map, List.length_map]; rfl, ⟨p, rfl, gp⟩, ok, fun H3 s3 hc => ?_⟩
    exact q _ (backS (Same.refl _) s3 hc)
theorem ok_listW (T : Txt K mg a) : FnOk P w K mg base CX0 3 a.f_is_list_of a.d_is_list_of ["thing", "most", "is_one"] (spListW a.f_is_wished_sum) := by
  have G_is_wished_sum : FnOk P w K mg base CX0 2 _ _ _ spWish := ok_wish T
  refine T.F_is_list_of.ok sc_is_list_of (fun vs H Q E h => ?_) (fun cdv A outer s H vs Q E hr h => ?_)
  · obtain ⟨l, ns, rfl, _⟩ := h; rfl
  · obtain ⟨l, ns, rfl, hl, ⟨n6, nv⟩, q⟩ := h
    refine ⟨_, (pss_one (ps_ret (m_and (pe_callB call_isi rfl T.z_isinstance bt_isinstance (pa_cons (vr 0) (pa_cons (pe_bltn (v := .ty "list") rfl T.z_list bt_list rfl) pa_nil))) (m_and (pe_cmpR o_le (pe_callB call_lenM rfl T.z_len bt_len (pa_cons (vr 0) pa_nil)) (vr 1) (nomark _)) (pe_one (pe_callB (call_allB rfl) rfl T.z_all bt_all (pa_cons (pe_comp rfl (N := ["part", "is_one"]) (ix := [none, some 2]) ⟨rfl, rfl, rfl, rfl, ⟨rfl, rfl, rfl, trivial⟩⟩ (pi_any (vr 0)) ⟨fun C s H fp => pg_name (i := 0) (show List.Nodup (["part", "is_one"] : List Str) by decide +kernel) rfl (Or.inl rfl), fun C s H fp => pts_nil, fun C s H fp => (pe_callV (vr 1) G_is_wished_sum hr T.F_is_wished_sum.kp T.B_is_wished_sum .nil pass0 (pa_cons (vr 0) pa_nil))⟩) pa_nil))))))), ?_⟩
    have sl : sizeLine = 16777216 := sizeLine_eq
    refine ⟨_, _, _, true, rfl, rfl, .lst hl, rfl, ⟨_, .inl (SqL.of hl), ?_⟩⟩
    refine ifP (by show ((ns.map V.int).length : Int) ≤ 6; rw [List.length_map]; lia) ?_
    refine .inl ⟨⟨_, SqL.of hl⟩, fun D hD => ?_⟩
    refine comp_list (K := K) (a := l) (xs := ns.map V.int) (fun j ys H' => j ≤ ns.length ∧ Same H H' ∧ H' D = some (.lst ys) ∧ ys = (List.replicate j true).map V.bl) ⟨Nat.zero_le _, Same.new hD, upd_same, rfl⟩ (fun j ys H' h' => SqL.of (h'.2.1 _ _ hl)) (fun j ys H' h' => h'.2.2.1) ?_ ?_
    · rintro j y ys H' P' hy ⟨hj, s1, hD1, rfl⟩ hP
      obtain ⟨v, hv, rfl⟩ : ∃ v, ns[j]? = some v ∧ y = .int v := by
        rw [List.getElem?_map] at hy
        cases hc : ns[j]? with
        | none => rw [hc] at hy; cases hy
        | some z => rw [hc] at hy; cases hy; exact ⟨z, rfl, rfl⟩
      have hlt : j < ns.length := (List.getElem?_eq_some_iff.mp hv).1
      obtain ⟨v0, v1⟩ := nv v (List.mem_of_getElem? hv)
      refine ⟨⟨rfl, trivial⟩, rfl, v, rfl, v0, v1, hD1, by rw [List.length_map, List.length_replicate]; lia, hP _ _ ⟨hlt, s1.put hD, upd_same, ?_⟩⟩
      rw [List.replicate_succ', List.map_append]; rfl
    rintro ys H' ⟨_, s1, hD1, rfl⟩
    refine ⟨D, _, _, rfl, SqL.of hD1, rfl, ?_⟩
    rw [all_true]
    exact q _ s1
theorem ok_listL (T : Txt K mg a) : FnOk P w K mg base CX0 4 a.f_is_list_of a.d_is_list_of ["thing", "most", "is_one"] spListL := by
  have L_is_one : LamOk P w K mg base 3 ld_need_bounds_1 fvB ["thing"] spLam := ok_lamB T
  refine T.F_is_list_of.ok sc_is_list_of (fun vs H Q E h => ?_) (fun cdv A outer s H vs Q E hr h => ?_)
  · obtain ⟨v, lr, lc, lu, rows, cols, us, xs, rfl, _⟩ := h; rfl
  · obtain ⟨v, lr, lc, lu, rows, cols, us, xs, rfl, hI, hL, q⟩ := h
    refine ⟨_, (pss_one (ps_ret (m_and (pe_callB call_isi rfl T.z_isinstance bt_isinstance (pa_cons (vr 0) (pa_cons (pe_bltn (v := .ty "list") rfl T.z_list bt_list rfl) pa_nil))) (m_and (pe_cmpR o_le (pe_callB call_lenM rfl T.z_len bt_len (pa_cons (vr 0) pa_nil)) (vr 1) (nomark _)) (pe_one (pe_callB (call_allB rfl) rfl T.z_all bt_all (pa_cons (pe_comp rfl (N := ["part", "is_one"]) (ix := [none, some 2]) ⟨rfl, rfl, rfl, rfl, ⟨rfl, rfl, rfl, trivial⟩⟩ (pi_any (vr 0)) ⟨fun C s H fp => pg_name (i := 0) (show List.Nodup (["part", "is_one"] : List Str) by decide +kernel) rfl (Or.inl rfl), fun C s H fp => pts_nil, fun C s H fp => (pe_callL (vr 1) L_is_one hr (pa_cons (vr 0) pa_nil))⟩) pa_nil))))))), ?_⟩
    have sl : sizeLine = 16777216 := sizeLine_eq
    have xl : us.length = xs.length := Paired.length hI.all
    have n24 := hI.n
    refine ⟨_, _, _, true, rfl, rfl, .lst hI.u, rfl, ⟨_, .inl (SqL.of hI.u), ?_⟩⟩
    refine ifP (by show (xs.length : Int) ≤ 24; lia) ?_
    refine .inl ⟨⟨_, SqL.of hI.u⟩, fun D hD => ?_⟩
    refine comp_list (K := K) (a := lu) (xs := xs) (fun j ys H' => j ≤ xs.length ∧ Same H H' ∧ H' D = some (.lst ys) ∧ ys = (List.replicate j true).map V.bl) ⟨Nat.zero_le _, Same.new hD, upd_same, rfl⟩ (fun j ys H' h' => SqL.of (h'.2.1 _ _ hI.u)) (fun j ys H' h' => h'.2.2.1) ?_ ?_
    · rintro j y ys H' P' hy ⟨hj, s1, hD1, rfl⟩ hP
      have hlt : j < xs.length := (List.getElem?_eq_some_iff.mp hy).1
      have hI1 := hI.same s1
      obtain ⟨u, hu, hU⟩ := pget hI1.all hy
      obtain ⟨f, c, clos, rfl, e1, e2, e3, e4, e5⟩ := hL.t s1.t
      refine ⟨⟨rfl, trivial⟩, ⟨f, _, _, _, rfl, e1⟩, ?_⟩
      refine ⟨fun f' d' cl' c' _ z => z, f, c, clos, _, rfl, e1, e2, e3, e4, e5, lr, lc, rows, cols, y, u, rfl, rfl, hI1.r, hI1.c, hU, hI.ok u (List.mem_of_getElem? hu), fun H2 s2 => ?_⟩
      refine ⟨s2 _ _ hD1, by rw [List.length_map, List.length_replicate]; lia, hP _ _ ⟨hlt, (s1.trans s2).put hD, upd_same, ?_⟩⟩
      rw [List.replicate_succ', List.map_append]; rfl
    rintro ys H' ⟨_, s1, hD1, rfl⟩
    refine ⟨D, _, _, rfl, SqL.of hD1, rfl, ?_⟩
    rw [all_true]
    exact q _ s1
noncomputable def spListB (f : Addr) : Sp := fun vs H Q E => spListW f vs H Q E ∨ spListL vs H Q E
theorem ok_need (T : Txt K mg a) (hB : Bm mg base) : FnOk P w K mg base CX0 5 a.f_need_bounds a.d_need_bounds ["rows", "columns", "units"] (spNeed a) := by
  have G_is_list_of : FnOk P w K mg base CX0 4 _ _ _ (spListB a.f_is_wished_sum) := ((ok_listW T).mono (by decide)).or (ok_listL T)
  refine T.F_need_bounds.okN T.lcd_need_bounds sc_need_bounds (by decide +kernel) (fun vs H Q E h => ?_) (fun A outer s H vs Q E hr h => ?_)
  · obtain ⟨lr, lc, lu, rows, cols, us, xs, rfl, _⟩ := h; rfl
  · obtain ⟨lr, lc, lu, rows, cols, us, xs, rfl, hI, hT, q⟩ := h
    refine ⟨_, (pn_cons (ps_if (PW.pt (pw_or (pt_not (t_val (pe_call G_is_list_of hr rfl T.m_is_list_of T.F_is_list_of.kp T.B_is_list_of .nil pass0 (pa_cons (vr 0) (pa_cons (pe_gl rfl T.g_MOST_SUMS) (pa_cons (pe_gl (v := .ref a.f_is_wished_sum) rfl ⟨_, T.m_is_wished_sum, rfl⟩) pa_nil)))))) (pw_or1 (pt_not (t_val (pe_call G_is_list_of hr rfl T.m_is_list_of T.F_is_list_of.kp T.B_is_list_of .nil pass0 (pa_cons (vr 1) (pa_cons (pe_gl rfl T.g_MOST_SUMS) (pa_cons (pe_gl (v := .ref a.f_is_wished_sum) rfl ⟨_, T.m_is_wished_sum, rfl⟩) pa_nil))))))))) (pss_one ps_never) pss_nil) (pn_ifC sc_need_bounds.nd (by decide +kernel) G_is_list_of hr rfl T.m_is_list_of T.F_is_list_of.kp T.B_is_list_of .nil (pa_cons (vr 2) (pa_cons (pe_gl rfl T.g_MOST_UNITS) (pa_cons (pe_lam (d := ld_need_bounds_1) rfl T.lch_need_bounds hB rfl (by with_unfolding_all rfl) rfl (tb_need_bounds a) (.head _) T.tnd tp_need_bounds) pa_nil))))), ?_⟩
    refine .inl ⟨lr, rows, rfl, hI.r, hI.rs, fun H1 s1 => ?_⟩
    have hI1 := hI.same s1
    refine .inl ⟨lc, cols, rfl, hI1.c, hI1.cs, fun H2 s2 => ?_⟩
    have s12 := s1.trans s2
    refine ⟨hT.same s12, fun f c H3 t3 hT3 hf0 ef ec => ?_⟩
    intro H4 s4 hc
    have cR := hc 0 _ _ _ rfl rfl (by with_unfolding_all rfl)
    have cC := hc 1 _ _ _ rfl rfl (by with_unfolding_all rfl)
    have t4 := t3.trans s4.t
    have t04 : SameT H H4 := s12.t.trans t4
    refine .inr ⟨.ref f, lr, lc, lu, rows, cols, us, xs, rfl, hI.t t04, ⟨f, c, _, rfl, s4 _ _ ef, s4 _ _ ec, rfl, nd2 _, .cons cR (.cons cC .nil)⟩, fun H5 s5 => ⟨rfl, ?_⟩⟩
    exact q _ (t04.trans s5.t) ((hT3.same s4).same s5)
end
end My
set_option linter.all false
set_option maxHeartbeats 1000000
namespace Led
noncomputable def sd (s : Nat) (u : Un) : Nat := if s = 0 then u.r else u.c
noncomputable def sumL (us : List Un) (ws : List Int) (s R k : Nat) : List Int := (List.range R).map fun i => sI (fun p => if sd s (uAt us p) = i then wAt ws p else 0) k
theorem sumL_len (us : List Un) (ws : List Int) (s R k : Nat) : (sumL us ws s R k).length = R := by unfold sumL; rw [List.length_map, List.length_range]
theorem sumL_at (us : List Un) (ws : List Int) (s : Nat) {R : Nat} (k : Nat) {i : Nat} (h : i < R) : (sumL us ws s R k)[i]? = some (sI (fun p => if sd s (uAt us p) = i then wAt ws p else 0) k) := by
  unfold sumL; rw [List.getElem?_map, List.getElem?_range h]; rfl
theorem sumL_zero (us : List Un) (ws : List Int) (s R : Nat) : sumL us ws s R 0 = List.replicate R 0 := by
  refine List.ext_getElem? fun i => ?_
  by_cases h : i < R
  · rw [sumL_at us ws s 0 h, List.getElem?_replicate, if_pos h]; rfl
  · rw [List.getElem?_eq_none (by rw [sumL_len]; lia), List.getElem?_eq_none (by rw [List.length_replicate]; lia)]
theorem sumL_succ (us : List Un) (ws : List Int) (s R k : Nat) : sumL us ws s R (k + 1) = (sumL us ws s R k).set (sd s (uAt us k)) ((sumL us ws s R k).getD (sd s (uAt us k)) 0 + wAt ws k) := by
  refine List.ext_getElem? fun i => ?_
  rw [List.getElem?_set]
  by_cases h : i < R
  · rw [sumL_at us ws s _ h]
    by_cases c : sd s (uAt us k) = i
    · rw [if_pos c, sumL_len, if_pos (by lia), List.getD, c, sumL_at us ws s k h]
      rw [sI, if_pos c]; rfl
    · rw [if_neg c, sumL_at us ws s k h, sI, if_neg c, Int.add_zero]
  · rw [List.getElem?_eq_none (by rw [sumL_len]; lia)]
    by_cases c : sd s (uAt us k) = i
    · rw [if_pos c, sumL_len, if_neg (by lia)]
    · rw [if_neg c, List.getElem?_eq_none (by rw [sumL_len]; lia)]
theorem sumL_row (us : List Un) (ws : List Int) {R i : Nat} (h : i < R) : (sumL us ws 0 R us.length)[i]? = some (rowW us ws i) := by rw [sumL_at us ws 0 _ h]; rfl
theorem sumL_col (us : List Un) (ws : List Int) {R i : Nat} (h : i < R) : (sumL us ws 1 R us.length)[i]? = some (colW us ws i) := by rw [sumL_at us ws 1 _ h]; rfl
theorem uAt_of {us : List Un} {i : Nat} {u : Un} (h : us[i]? = some u) : uAt us i = u := by unfold uAt; rw [List.getD, h]; rfl
theorem wAt_of {ws : List Int} {i : Nat} {v : Int} (h : ws[i]? = some v) : wAt ws i = v := by unfold wAt; rw [List.getD, h]; rfl
noncomputable def ends (R C : Nat) : List En := (List.range R).map (fun i => (0, i)) ++ (List.range C).map (fun j => (1, j))
theorem ends_mem {R C : Nat} {e : En} : e ∈ ends R C ↔ (e.1 = 0 ∧ e.2 < R) ∨ (e.1 = 1 ∧ e.2 < C) := by
  unfold ends
  rw [List.mem_append, List.mem_map, List.mem_map]
  constructor
  · rintro (⟨i, hi, rfl⟩ | ⟨i, hi, rfl⟩)
    · exact .inl ⟨rfl, List.mem_range.mp hi⟩
    · exact .inr ⟨rfl, List.mem_range.mp hi⟩
  · obtain ⟨a, b⟩ := e
    rintro (⟨h1, h2⟩ | ⟨h1, h2⟩)
    · exact .inl ⟨b, List.mem_range.mpr h2, by have : a = 0 := h1; rw [this]⟩
    · exact .inr ⟨b, List.mem_range.mpr h2, by have : a = 1 := h1; rw [this]⟩
theorem ends_len (R C : Nat) : (ends R C).length = R + C := by unfold ends; rw [List.length_append, List.length_map, List.length_map, List.length_range, List.length_range]
theorem ends_nd (R C : Nat) : (ends R C).Nodup := by
  unfold ends
  rw [List.nodup_append]
  refine ⟨?_, ?_, fun a ha b hb z => ?_⟩
  · exact List.pairwise_map.mpr (List.Pairwise.imp (fun h z => h (Prod.mk.inj z).2) (List.nodup_range (n := _)))
  · exact List.pairwise_map.mpr (List.Pairwise.imp (fun h z => h (Prod.mk.inj z).2) (List.nodup_range (n := _)))
  · obtain ⟨i, _, rfl⟩ := List.mem_map.mp ha
    obtain ⟨j, _, rfl⟩ := List.mem_map.mp hb
    cases z
end Led
set_option Elab.async false
set_option linter.all false
set_option maxRecDepth 100000
set_option maxHeartbeats 4000000
namespace My
open PySem L2 FrM Led
theorem ixN_nat {k n : Nat} (h : k < n) : ixN n (k : Int) = some k := by
  unfold ixN
  rw [if_pos (by (exact Int.natCast_nonneg _))]
  first | rfl | (simp; done) | (simp; exact h)
theorem tupU_at {s : Nat} (hs : s ≤ 1) (u : Un) : atI (tupU u) (s : Int) = some (.int (sd s u : Nat)) := by
  rcases (show s = 0 ∨ s = 1 by lia) with rfl | rfl
  · exact atI_cons 0 rfl rfl
  · exact atI_cons 1 rfl rfl
theorem ints_at {ns : List Int} {i : Nat} {v : Int} (h : ns[i]? = some v) : atI (ns.map V.int) (i : Int) = some (.int v) := atI_nat (by rw [List.getElem?_map, h]; rfl)
theorem int_of {ns : List Int} {i : Nat} {y : V} (h : (ns.map V.int)[i]? = some y) : ∃ v, ns[i]? = some v ∧ y = .int v := by
  rw [List.getElem?_map] at h
  cases hc : ns[i]? with
  | none => rw [hc] at h; cases h
  | some z => rw [hc] at h; cases h; exact ⟨z, rfl, rfl⟩
inductive spSums (vs : List V) (H : Hp) (Q : VK) (_E : XK) : Prop
  | mk (lw lu : Addr) (ws : List Int) (us : List Un) (xs : List V) (s R : Nat) (h0 : vs = [.ref lw, .ref lu, .int (s : Nat), .int (R : Nat)]) (h1 : H lw = some (.lst (ws.map V.int))) (h2 : H lu = some (.lst xs)) (h3 : AllU H us xs) (h4 : ws.length = us.length) (h5 : s ≤ 1) (h6 : R ≤ 6) (h7 : (∀ u ∈ us, sd s u < R)) (h8 : ∀ D H', Same H H' → H D = none → H' D = some (.lst ((sumL us ws s R us.length).map V.int)) → Q (.ref D) H') : spSums vs H Q _E
inductive spSumsL (vs : List V) (H : Hp) (Q : VK) (_E : XK) : Prop
  | mk (lw lu : Addr) (ws : List Int) (us : List Un) (xs : List V) (s R : Nat) (h0 : vs = [.ref lu, .ref lw, .int (s : Nat), .int (R : Nat)]) (h1 : H lw = some (.lst (ws.map V.int))) (h2 : H lu = some (.lst xs)) (h3 : AllU H us xs) (h4 : ws.length = us.length) (h5 : s ≤ 1) (h6 : R ≤ 6) (h7 : (∀ u ∈ us, sd s u < R)) (h8 : ∀ D H', Same H H' → H D = none → H' D = some (.lst ((sumL us ws s R us.length).map V.int)) → Q (.ref D) H') : spSumsL vs H Q _E
noncomputable abbrev enV (e : En) : List V := [.int (e.1 : Nat), .int (e.2 : Nat)]
noncomputable def IsE (H : Hp) (e : En) (x : V) : Prop := ∃ p, x = .ref p ∧ H p = some (.tup (enV e))
theorem IsE.tu {H H' : Hp} {e : En} {x : V} (s : TupS H H') (h : IsE H e x) : IsE H' e x := let ⟨p, q, r⟩ := h; ⟨p, q, s _ _ r⟩
noncomputable def IsO (H : Hp) (o : Option En) (x : V) : Prop := match o with | none => x = .non | some e => IsE H e x
inductive spOther (vs : List V) (H : Hp) (Q : VK) (_E : XK) : Prop
  | mk (u : Un) (e : En) (x y : V) (h0 : vs = [x, y]) (h1 : IsU H u x) (h2 : IsE H e y) (h3 : ∀ v H', Same H H' → IsO H' (oth u e) v → Q v H') : spOther vs H Q _E
inductive spRoom (vs : List V) (H : Hp) (Q : VK) (_E : XK) : Prop
  | mk (u : Un) (e : En) (x y : V) (v : Int) (h0 : vs = [x, .int v, y]) (h1 : IsU H u x) (h2 : IsE H e y) (h3 : Q (.int (room u v e)) H) : spRoom vs H Q _E
section
variable {P : Program} {w : World} {K : PySem.W.Frag} {mg : Str → Option Value} {base : Heap} {a : Ad}
theorem ok_sums (T : Txt K mg a) : FnOk P w K mg base CX0 1 a.f_sums_of a.d_sums_of ["weights", "units", "side", "many"] spSums := by
  refine T.F_sums_of.ok sc_sums_of (fun vs H Q E h => ?_) (fun cdv A outer s H vs Q E hr h => ?_)
  · obtain ⟨lw, lu, ws, us, xs, s, R, rfl, _⟩ := h; rfl
  · obtain ⟨lw, lu, ws, us, xs, sn, R, rfl, hw, hu, hA, wl, s1', r6, hlt, q⟩ := h
    refine ⟨_, (pss_cons (ps_setC rfl (i := 4) sc_sums_of.nd rfl rfl (by with_unfolding_all rfl) (N := ["number"]) (ix := [none]) ⟨rfl, rfl, rfl, rfl, trivial⟩ (pi_range1 rfl T.z_range (pa_cons (vr 3) pa_nil)) ⟨fun C s H fp => pg_name (i := 0) (show List.Nodup (["number"] : List Str) by decide +kernel) rfl (Or.inl rfl), fun C s H fp => pts_nil, fun C s H fp => pe_int⟩) (pss_cons (ps_for PassesOwn.never rfl (pi_zip rfl T.z_zip (pa_cons (vr 1) (pa_cons (vr 0) pa_nil))) (pg_tup rfl (pgs_cons (pg_name (i := 5) sc_sums_of.nd rfl (Or.inl rfl)) (pgs_cons (pg_name (i := 6) sc_sums_of.nd rfl (Or.inl rfl)) pgs_nil))) (pss_one (ps_augS (vr 4) (pe_ix ix_seq (vr 5) (vr 2) (fun _ _ => rfl)) get_list (vr 6) ip_add set_list))) (pss_one (ps_ret (vr 4))))), ?_⟩
    have xl : us.length = xs.length := Paired.length hA
    have sl : sizeLine = 16777216 := sizeLine_eq
    refine ⟨R, rfl, by (exact Int.natCast_nonneg _), by lia, fun D hD => ?_⟩
    refine comp_rng (lo := 0) (n := R) (fun j ys H' => j ≤ R ∧ Same H H' ∧ H' D = some (.lst ys) ∧ ys = (List.replicate j (0 : Int)).map V.int) ⟨Nat.zero_le _, Same.new hD, upd_same, rfl⟩ (fun j ys H' h => h.2.2.1) ?_ ?_
    · rintro j ys H' P' hj ⟨hj', s1, hD1, rfl⟩ hP
      refine ⟨trivial, hD1, by rw [List.length_map, List.length_replicate]; lia, hP _ _ ⟨hj, s1.put hD, upd_same, ?_⟩⟩
      rw [List.replicate_succ', List.map_append]; rfl
    rintro ys H1 ⟨_, s1, hD1, rfl⟩
    have nw : D ≠ lw := fun z => by rw [z, hw] at hD; cases hD
    have nu : D ≠ lu := fun z => by rw [z, hu] at hD; cases hD
    refine ⟨lu, lw, _, _, rfl, s1 _ _ hu, s1 _ _ hw, ?_⟩
    refine for_zip (a := lu) (b := lw) (xs := xs) (ys := ws.map V.int) (by rw [List.length_map]; lia) (fun i σ H' => Same H H' ∧ H' D = some (.lst ((sumL us ws sn R i).map V.int)) ∧ ∃ (x5 x6 : Option V), σ = [some (.ref lw), some (.ref lu), some (.int (sn : Nat)), some (.int (R : Nat)), some (.ref D), x5, x6]) ⟨s1, by rw [sumL_zero]; exact hD1, none, none, rfl⟩ (fun i σ H' h => ⟨h.1 _ _ hu, h.1 _ _ hw⟩) ?_ ?_
    · rintro i x y σ H2 pt hx hy ⟨s2, hD2, x5, x6, rfl⟩ hpt
      obtain ⟨u, hu', hU⟩ := pget hA hx
      obtain ⟨v, hv, rfl⟩ := int_of hy
      have s3 := Same.new (o := .tup [x, .int v]) hpt
      obtain ⟨p, rfl, hp⟩ := hU.tu (s2.trans s3).tu
      have nD : D ≠ pt := fun z => by rw [z, hpt] at hD2; cases hD2
      have hD3 := s3 _ _ hD2
      have lt := hlt u (List.mem_of_getElem? hu')
      have ea : (sumL us ws sn R i)[sd sn u]? = some ((sumL us ws sn R i).getD (sd sn u) 0) := by rw [List.getD, List.getElem?_eq_getElem (by rw [sumL_len]; exact lt)]; rfl
      refine ⟨pt, _, rfl, SqT.of upd_same, rfl, _, _, rfl, _, _, rfl, rfl, ?_⟩
      refine .inr (.inl ⟨p, _, _, _, rfl, rfl, SqT.of hp, tupU_at s1' u, ?_⟩)
      refine ⟨D, _, _, _, rfl, rfl, SqL.of hD3, by (exact Int.natCast_nonneg _), ints_at ea, ?_⟩
      refine ⟨_, _, rfl, rfl, D, _, _, _, rfl, rfl, hD3, ixN_nat (by rw [List.length_map, sumL_len]; exact lt), ?_⟩
      refine ⟨(s2.trans s3).put hD, ?_, _, _, rfl⟩
      rw [upd_same, sumL_succ, uAt_of hu', wAt_of hv, List.map_set]
    · rintro σ H2 ⟨s2, hD2, x5, x6, rfl⟩
      rw [← xl] at hD2
      exact q D _ s2 hD hD2
theorem ok_sumsL (T : Txt K mg a) : FnOk P w K mg base CX0 1 a.f_L_sums a.d_L_sums ["_law_units_here", "_law_weights_here", "_law_place", "_law_many"] spSumsL := by
  refine T.F_L_sums.ok sc_L_sums (fun vs H Q E h => ?_) (fun cdv A outer s H vs Q E hr h => ?_)
  · obtain ⟨lw, lu, ws, us, xs, s, R, rfl, _⟩ := h; rfl
  · obtain ⟨lw, lu, ws, us, xs, sn, R, rfl, hw, hu, hA, wl, s1', r6, hlt, q⟩ := h
    refine ⟨_, (pss_cons (ps_setC rfl (i := 4) sc_L_sums.nd rfl rfl (by with_unfolding_all rfl) (N := ["_law_k"]) (ix := [none]) ⟨rfl, rfl, rfl, rfl, trivial⟩ (pi_range1 rfl T.z_range (pa_cons (vr 3) pa_nil)) ⟨fun C s H fp => pg_name (i := 0) (show List.Nodup (["_law_k"] : List Str) by decide +kernel) rfl (Or.inl rfl), fun C s H fp => pts_nil, fun C s H fp => pe_int⟩) (pss_cons (ps_for PassesOwn.never rfl (pi_zip rfl T.z_zip (pa_cons (vr 0) (pa_cons (vr 1) pa_nil))) (pg_tup rfl (pgs_cons (pg_name (i := 5) sc_L_sums.nd rfl (Or.inl rfl)) (pgs_cons (pg_name (i := 6) sc_L_sums.nd rfl (Or.inl rfl)) pgs_nil))) (pss_one (ps_asg (pe_op o_add (pe_ix ix_seq (vr 4) (pe_ix ix_seq (vr 5) (vr 2) (fun _ _ => rfl)) (fun _ _ => rfl)) (vr 6)) (pg_sub (vr 4) (pe_ix ix_seq (vr 5) (vr 2) (fun _ _ => rfl)) set_list)))) (pss_one (ps_ret (vr 4))))), ?_⟩
    have xl : us.length = xs.length := Paired.length hA
    have sl : sizeLine = 16777216 := sizeLine_eq
    refine ⟨R, rfl, by (exact Int.natCast_nonneg _), by lia, fun D hD => ?_⟩
    refine comp_rng (lo := 0) (n := R) (fun j ys H' => j ≤ R ∧ Same H H' ∧ H' D = some (.lst ys) ∧ ys = (List.replicate j (0 : Int)).map V.int) ⟨Nat.zero_le _, Same.new hD, upd_same, rfl⟩ (fun j ys H' h => h.2.2.1) ?_ ?_
    · rintro j ys H' P' hj ⟨hj', s1, hD1, rfl⟩ hP
      refine ⟨trivial, hD1, by rw [List.length_map, List.length_replicate]; lia, hP _ _ ⟨hj, s1.put hD, upd_same, ?_⟩⟩
      rw [List.replicate_succ', List.map_append]; rfl
    rintro ys H1 ⟨_, s1, hD1, rfl⟩
    have nw : D ≠ lw := fun z => by rw [z, hw] at hD; cases hD
    have nu : D ≠ lu := fun z => by rw [z, hu] at hD; cases hD
    refine ⟨lu, lw, _, _, rfl, s1 _ _ hu, s1 _ _ hw, ?_⟩
    refine for_zip (a := lu) (b := lw) (xs := xs) (ys := ws.map V.int) (by rw [List.length_map]; lia) (fun i σ H' => Same H H' ∧ H' D = some (.lst ((sumL us ws sn R i).map V.int)) ∧ ∃ (x5 x6 : Option V), σ = [some (.ref lu), some (.ref lw), some (.int (sn : Nat)), some (.int (R : Nat)), some (.ref D), x5, x6]) ⟨s1, by rw [sumL_zero]; exact hD1, none, none, rfl⟩ (fun i σ H' h => ⟨h.1 _ _ hu, h.1 _ _ hw⟩) ?_ ?_
    · rintro i x y σ H2 pt hx hy ⟨s2, hD2, x5, x6, rfl⟩ hpt
      obtain ⟨u, hu', hU⟩ := pget hA hx
      obtain ⟨v, hv, rfl⟩ := int_of hy
      have s3 := Same.new (o := .tup [x, .int v]) hpt
      obtain ⟨p, rfl, hp⟩ := hU.tu (s2.trans s3).tu
      have nD : D ≠ pt := fun z => by rw [z, hpt] at hD2; cases hD2
      have hD3 := s3 _ _ hD2
      have lt := hlt u (List.mem_of_getElem? hu')
      have ea : (sumL us ws sn R i)[sd sn u]? = some ((sumL us ws sn R i).getD (sd sn u) 0) := by rw [List.getD, List.getElem?_eq_getElem (by rw [sumL_len]; exact lt)]; rfl
      refine ⟨pt, _, rfl, SqT.of upd_same, rfl, _, _, rfl, _, _, rfl, rfl, ?_⟩
      refine .inr (.inl ⟨p, _, _, _, rfl, rfl, SqT.of hp, tupU_at s1' u, ?_⟩)
      refine .inl ⟨D, _, _, _, rfl, rfl, SqL.of hD3, ints_at ea, ?_⟩
      refine .inr (.inl ⟨p, _, _, _, rfl, rfl, SqT.of hp, tupU_at s1' u, ?_⟩)
      refine ⟨D, _, _, _, rfl, rfl, hD3, ixN_nat (by rw [List.length_map, sumL_len]; exact lt), ?_⟩
      refine ⟨(s2.trans s3).put hD, ?_, _, _, rfl⟩
      rw [upd_same, sumL_succ, uAt_of hu', wAt_of hv, List.map_set]
    · rintro σ H2 ⟨s2, hD2, x5, x6, rfl⟩
      rw [← xl] at hD2
      exact q D _ s2 hD hD2
theorem ok_room (T : Txt K mg a) : FnOk P w K mg base CX0 1 a.f_room a.d_room ["unit", "weight", "start"] spRoom := by
  refine T.F_room.ok sc_room (fun vs H Q E h => ?_) (fun cdv A outer s H vs Q E hr h => ?_)
  · obtain ⟨u, e, x, y, v, rfl, _⟩ := h; rfl
  · obtain ⟨u, e, x, y, v, rfl, ⟨p, rfl, hp⟩, ⟨p2, rfl, hp2⟩, q⟩ := h
    refine ⟨_, (pss_one (ps_ret (pe_ifExp (t_cmp o_eq (pe_ix ix_seq (vr 2) pe_int (fun _ _ => rfl)) pe_int (nomark _)) (pe_op o_sub (pe_ix ix_seq (vr 0) pe_int (fun _ _ => rfl)) (vr 1)) (pe_op o_sub (vr 1) (pe_ix ix_seq (vr 0) pe_int (fun _ _ => rfl)))))), ?_⟩
    refine .inr (.inl ⟨p2, _, _, _, rfl, rfl, SqT.of hp2, atI_cons 0 rfl rfl, ?_⟩)
    unfold room at q
    refine ifC (fun c => ?_) fun c => ?_
    · rw [if_pos (by lia)] at q
      exact .inr (.inl ⟨p, _, _, _, rfl, rfl, SqT.of hp, atI_cons 3 rfl rfl, q⟩)
    · rw [if_neg (by lia)] at q
      exact .inr (.inl ⟨p, _, _, _, rfl, rfl, SqT.of hp, atI_cons 2 rfl rfl, q⟩)
theorem dvE {H : Hp} {e : En} {p : Addr} (h : H p = some (.tup (enV e))) : DV K H (.tuple [.int (e.1 : Nat), .int (e.2 : Nat)]) (.ref p) := ⟨p, _, rfl, SqT.of h, _, _, rfl, rfl, _, _, rfl, rfl, rfl⟩
theorem eqE (e f : En) : PyData.eqv (.tuple [.int ((e.1 : Nat) : Int), .int ((e.2 : Nat) : Int)]) (.tuple [.int ((f.1 : Nat) : Int), .int ((f.2 : Nat) : Int)]) = decide (e = f) := by
  obtain ⟨a, b⟩ := e
  obtain ⟨c, d⟩ := f
  rw [Bool.eq_iff_iff, decide_eq_true_iff]
  simp [PyData.eqv, PyData.eqvAll]
  lia
theorem ok_other (T : Txt K mg a) : FnOk P w K mg base CX0 1 a.f_other_end a.d_other_end ["unit", "here"] spOther := by
  refine T.F_other_end.ok sc_other_end (fun vs H Q E h => ?_) (fun cdv A outer s H vs Q E hr h => ?_)
  · obtain ⟨u, e, x, y, rfl, _⟩ := h; rfl
  · obtain ⟨u, e, x, y, rfl, ⟨p, rfl, hp⟩, ⟨p2, rfl, hp2⟩, q⟩ := h
    refine ⟨_, (pss_cons (ps_if (t_cmp (o_eqD hr.units) (vr 1) (pe_tup (pa_cons pe_int (pa_cons (pe_ix ix_seq (vr 0) pe_int (fun _ _ => rfl)) pa_nil))) (nomark _)) (pss_one (ps_ret (pe_tup (pa_cons pe_int (pa_cons (pe_ix ix_seq (vr 0) pe_int (fun _ _ => rfl)) pa_nil))))) pss_nil) (pss_cons (ps_if (t_cmp (o_eqD hr.units) (vr 1) (pe_tup (pa_cons pe_int (pa_cons (pe_ix ix_seq (vr 0) pe_int (fun _ _ => rfl)) pa_nil))) (nomark _)) (pss_one (ps_ret (pe_tup (pa_cons pe_int (pa_cons (pe_ix ix_seq (vr 0) pe_int (fun _ _ => rfl)) pa_nil))))) pss_nil) (pss_one (ps_ret pe_non)))), ?_⟩
    have z2 : ∀ x y : V, [x, y].length ≤ sizeLine := fun x y => by rw [show sizeLine = 16777216 from sizeLine_eq]; exact (by decide : 2 ≤ 16777216)
    refine .inr (.inl ⟨p, _, _, _, rfl, rfl, SqT.of hp, atI_cons 0 rfl rfl, z2 _ _, fun t1 ht1 => ?_⟩)
    have n1 := Same.new (o := .tup (enV (0, u.r))) ht1
    refine ⟨_, _, dvE (e := e) (n1 _ _ hp2), dvE (e := (0, u.r)) upd_same, rfl, rfl, ?_⟩
    rw [eqE]
    refine ifC (fun c => ?_) fun c => ?_
    · refine .inr (.inl ⟨p, _, _, _, rfl, rfl, SqT.of (n1 _ _ hp), atI_cons 1 rfl rfl, z2 _ _, fun t2 ht2 => ?_⟩)
      refine q _ _ (n1.trans (Same.new ht2)) ?_
      unfold oth
      rw [if_pos c]
      exact ⟨t2, rfl, upd_same⟩
    · refine .inr (.inl ⟨p, _, _, _, rfl, rfl, SqT.of (n1 _ _ hp), atI_cons 1 rfl rfl, z2 _ _, fun t2 ht2 => ?_⟩)
      have n2 := n1.trans (Same.new (o := .tup (enV (1, u.c))) ht2)
      refine ⟨_, _, dvE (e := e) (n2 _ _ hp2), dvE (e := (1, u.c)) upd_same, rfl, rfl, ?_⟩
      rw [eqE]
      refine ifC (fun c2 => ?_) fun c2 => ?_
      · refine .inr (.inl ⟨p, _, _, _, rfl, rfl, SqT.of (n2 _ _ hp), atI_cons 0 rfl rfl, z2 _ _, fun t3 ht3 => ?_⟩)
        refine q _ _ (n2.trans (Same.new ht3)) ?_
        unfold oth
        rw [if_neg c, if_pos c2]
        exact ⟨t3, rfl, upd_same⟩
      · refine q _ _ n2 ?_
        unfold oth
        rw [if_neg c, if_neg c2]
        rfl
end
end My
set_option linter.all false
set_option maxHeartbeats 1000000
namespace Led
theorem nodup_len : ∀ {l m : List En}, l.Nodup → (∀ x ∈ l, x ∈ m) → l.length ≤ m.length
  | [], _, _, _ => Nat.zero_le _
  | x :: l, m, nd, h => by
    rw [List.nodup_cons] at nd
    have hx := h x (List.mem_cons_self ..)
    have := nodup_len (l := l) (m := m.erase x) nd.2 fun y hy => (List.mem_erase_of_ne (fun z => nd.1 (by rw [← z]; exact hy))).mpr (h y (List.mem_cons_of_mem _ hy))
    rw [List.length_erase_of_mem hx] at this
    have := List.length_pos_of_mem hx
    rw [List.length_cons]
    lia
noncomputable def b0 (S : List En) : By := S.map fun e => (e, none)
theorem keys_b0 (S : List En) : keys (b0 S) = S := by unfold keys b0; rw [List.map_map]; exact List.map_id _
section
variable (us : List Un) (ws : List Int)
noncomputable def reachF (M : Nat) (S : List En) : By := bfs us ws (mB M (b0 S) S) (b0 S) S
theorem fr_first {S : List En} (nd : S.Nodup) : Fr us ws S (b0 S) S := by
  refine ⟨⟨by rw [keys_b0]; exact nd, fun i e p h => ?_, fun e he => ?_⟩, fun e he => by rw [keys_b0]; exact he, fun e he => by rw [keys_b0]; exact he, fun h hh => .inl (by rw [keys_b0] at hh; exact hh)⟩
  · unfold b0 at h
    rw [List.getElem?_map] at h
    cases hc : S[i]? with
    | none => rw [hc] at h; cases h
    | some x => rw [hc] at h; cases h
  · unfold b0 at he
    obtain ⟨x, hx, e'⟩ := List.mem_map.mp he
    cases e'
    exact hx
theorem scan_in {R C : Nat} (ok : OkU us R C) {h : En} {b : By} {t : List En} (hb : ∀ e ∈ keys b, e ∈ ends R C) : ∀ n, n ≤ us.length → ∀ e ∈ keys (scan us ws h b t n).1, e ∈ ends R C
  | 0, _ => hb
  | n + 1, hn => by
    have ih := scan_in ok hb (h := h) (t := t) n (by lia)
    rw [scan_succ]
    generalize scan us ws h b t n = st at ih
    unfold scan1
    cases eo : oth (uAt us n) h with
    | none => exact ih
    | some x =>
      simp only
      split
      · exact ih
      · split
        · intro e he
          rw [keys_app] at he
          rcases List.mem_append.mp he with z | z
          · exact ih e z
          · have : e = x := List.mem_singleton.mp z
            subst this
            obtain ⟨o1, o2, _⟩ := ok n (by lia)
            rw [ends_mem]
            rcases oth_cases eo with ⟨_, rfl⟩ | ⟨_, rfl⟩
            · exact .inr ⟨rfl, o2⟩
            · exact .inl ⟨rfl, o1⟩
        · exact ih
structure Bs (R C : Nat) (S : List En) (b : By) (ah : List En) : Prop where
  fr : Fr us ws S b ah
  sub : ∀ e ∈ keys b, e ∈ ends R C
  few : ah.length ≤ b.length
  res : ∃ n, mB (R + C) b ah ≤ n ∧ bfs us ws n b ah = reachF us ws (R + C) S
theorem Bs.len {R C : Nat} {S : List En} {b : By} {ah : List En} (B : Bs us ws R C S b ah) : b.length ≤ R + C := by
  have := nodup_len B.fr.tree.nd B.sub
  rw [ends_len] at this
  unfold keys at this
  rw [List.length_map] at this
  exact this
theorem Bs.first {R C : Nat} {S : List En} (nd : S.Nodup) (hs : ∀ e ∈ S, e ∈ ends R C) : Bs us ws R C S (b0 S) S :=
  ⟨fr_first us ws nd, fun e he => hs e (by rw [keys_b0] at he; exact he), by unfold b0; rw [List.length_map]; exact Nat.le_refl _, _, Nat.le_refl _, rfl⟩
theorem scan_few {S : List En} {h : En} {b : By} {t : List En} (T : Tree us ws S b) (hh : h ∈ keys b) (hf : t.length ≤ b.length) (n : Nat) (hn : n ≤ us.length) : (scan us ws h b t n).2.length ≤ (scan us ws h b t n).1.length := by
  obtain ⟨c, e1, e2⟩ := (scan_spec us ws (t := t) T hh n hn).new
  rw [e1, e2, List.length_append, List.length_append]
  unfold keys
  rw [List.length_map]
  lia
theorem Bs.next {R C : Nat} {S : List En} {b : By} {h : En} {t : List En} (ok : OkU us R C) (B : Bs us ws R C S b (h :: t)) : Bs us ws R C S (scan us ws h b t us.length).1 (scan us ws h b t us.length).2 ∧ mB (R + C) (scan us ws h b t us.length).1 (scan us ws h b t us.length).2 < mB (R + C) b (h :: t) := by
  have F := B.fr.next
  have sub := scan_in us ws ok (h := h) (t := t) B.sub us.length (Nat.le_refl _)
  have len : (scan us ws h b t us.length).1.length ≤ R + C := by
    have := nodup_len F.tree.nd sub
    rw [ends_len] at this
    unfold keys at this
    rw [List.length_map] at this
    exact this
  have lt := mB_next us ws B.fr len
  refine ⟨⟨F, sub, scan_few us ws B.fr.tree (B.fr.sub h (List.mem_cons_self ..)) (by have := B.few; rw [List.length_cons] at this; lia) _ (Nat.le_refl _), ?_⟩, lt⟩
  obtain ⟨n, h1, h2⟩ := B.res
  cases n with
  | zero => lia
  | succ n => exact ⟨n, by lia, h2⟩
theorem Bs.done {R C : Nat} {S : List En} {b : By} (B : Bs us ws R C S b []) : b = reachF us ws (R + C) S := by
  obtain ⟨n, _, h⟩ := B.res
  rw [← h]
  cases n <;> rfl
end
end Led
set_option Elab.async false
set_option linter.all false
set_option maxRecDepth 100000
set_option maxHeartbeats 4000000
namespace My
open PySem L2 FrM Led
noncomputable abbrev key (e : En) : List Key := [.inl (e.1 : Nat), .inl (e.2 : Nat)]
theorem key_inj {e f : En} (h : key e = key f) : e = f := by
  obtain ⟨a, b⟩ := e
  obtain ⟨c, d⟩ := f
  simp [key] at h
  obtain ⟨h1, h2⟩ := h
  have : a = c := by lia
  have : b = d := by lia
  subst_vars
  rfl
noncomputable def dE (l : List (En × V)) : List (List Key × V) := l.map fun x => (key x.1, x.2)
theorem dE_len (l : List (En × V)) : (dE l).length = l.length := List.length_map ..
theorem val_dE (e : En) : ∀ l : List (En × V), valV (dE l) (key e) = (l.find? fun x => decide (x.1 = e)).map (·.2)
  | [] => rfl
  | x :: l => by
    show valV ((key x.1, x.2) :: dE l) (key e) = _
    by_cases c : x.1 = e
    · rw [valV_pos (by rw [c]), List.find?_cons_of_pos (p := fun x : En × V => decide (x.1 = e)) (decide_eq_true c)]; rfl
    · rw [valV_neg (fun z => c (key_inj z)), List.find?_cons_of_neg (p := fun x : En × V => decide (x.1 = e)) (fun z => c (of_decide_eq_true z)), val_dE e l]
theorem put_dE {l : List (En × V)} {e : En} (h : e ∉ l.map (·.1)) (v : V) : putK (dE l) (key e) v = dE (l ++ [(e, v)]) := by
  unfold putK
  rw [if_neg]
  · unfold dE; rw [List.map_append]; rfl
  · intro z
    obtain ⟨x, hx, hk⟩ := List.any_eq_true.mp z
    unfold dE at hx
    obtain ⟨y, hy, rfl⟩ := List.mem_map.mp hx
    exact h (List.mem_map.mpr ⟨y, hy, key_inj (of_decide_eq_true hk)⟩)
noncomputable def oV : Option Nat → V
  | none => .non
  | some p => .int (p : Nat)
noncomputable def byL (b : By) : List (En × V) := b.map fun x => (x.1, oV x.2)
theorem byL_keys (b : By) : (byL b).map (·.1) = keys b := by unfold byL keys; rw [List.map_map]; rfl
theorem val_by (b : By) (e : En) : valV (dE (byL b)) (key e) = (look b e).map oV := by
  rw [val_dE]
  unfold look byL
  rw [List.find?_map, Option.map_map, Option.map_map]
  rfl
theorem look_some {b : By} {e : En} : (look b e).isSome = true ↔ e ∈ keys b := by
  unfold look keys
  rw [Option.isSome_map, List.find?_isSome, List.mem_map]
  constructor
  · rintro ⟨x, hx, h⟩; exact ⟨x, hx, of_decide_eq_true h⟩
  · rintro ⟨x, hx, h⟩; exact ⟨x, hx, decide_eq_true h⟩
theorem put_by {b : By} {e : En} (h : e ∉ keys b) (o : Option Nat) : putK (dE (byL b)) (key e) (oV o) = dE (byL (b ++ [(e, o)])) := by
  rw [put_dE (by rw [byL_keys]; exact h)]
  unfold byL
  rw [List.map_append]
  rfl
noncomputable def spE (us : List Un) (rows cols ws : List Int) (R C : Nat) : List (En × V) := (ends R C).map fun e => (e, .int (sp us rows cols ws e))
theorem spE_keys (us : List Un) (rows cols ws : List Int) (R C : Nat) : (spE us rows cols ws R C).map (·.1) = ends R C := by unfold spE; rw [List.map_map]; exact List.map_id _
theorem spE_row (us : List Un) (rows cols ws : List Int) (i : Nat) : spE us rows cols ws (i + 1) 0 = spE us rows cols ws i 0 ++ [((0, i), .int (sp us rows cols ws (0, i)))] := by
  unfold spE ends
  rw [List.range_succ]
  simp
theorem spE_col (us : List Un) (rows cols ws : List Int) (R i : Nat) : spE us rows cols ws R (i + 1) = spE us rows cols ws R i ++ [((1, i), .int (sp us rows cols ws (1, i)))] := by
  unfold spE ends
  rw [List.range_succ]
  simp
theorem val_sp {us : List Un} {rows cols ws : List Int} {R C : Nat} {e : En} (h : e ∈ ends R C) : valV (dE (spE us rows cols ws R C)) (key e) = some (.int (sp us rows cols ws e)) := by
  rw [val_dE]
  unfold spE
  rw [List.find?_map, Option.map_map]
  have : ((ends R C).find? ((fun x : En × V => decide (x.1 = e)) ∘ fun e => (e, V.int (sp us rows cols ws e)))) = some e := by
    cases hf : (ends R C).find? ((fun x : En × V => decide (x.1 = e)) ∘ fun e => (e, V.int (sp us rows cols ws e))) with
    | none => exact absurd (decide_eq_true rfl) (List.find?_eq_none.mp hf e h)
    | some y => have := List.find?_some hf; rw [show y = e from of_decide_eq_true this]
  rw [this]
  rfl
noncomputable abbrev AllE (H : Hp) : List En → List V → Prop := PySem.Paired (IsE H)
theorem AllE.tu {H H' : Hp} (s : TupS H H') : ∀ {es : List En} {xs : List V}, AllE H es xs → AllE H' es xs
  | _, _, .nil => .nil
  | _, _, .cons r t => .cons (r.tu s) (AllE.tu s t)
theorem AllE.snoc {H : Hp} {e : En} {x : V} (r : IsE H e x) : ∀ {es : List En} {xs : List V}, AllE H es xs → AllE H (es ++ [e]) (xs ++ [x])
  | _, _, .nil => .cons r .nil
  | _, _, .cons q t => .cons q (AllE.snoc r t)
theorem tu_dT {H : Hp} {D : Addr} {kvs : List (List Key × V)} {o : HO} (h : H D = some (.dT kvs)) : TupS H (upd H D o) := fun b xs e => by rw [upd_ne (fun z => by rw [z, h] at e; cases e)]; exact e
structure Uw (H : Hp) (lu lw : Addr) (us : List Un) (xs : List V) (ws : List Int) : Prop where
  w : H lw = some (.lst (ws.map V.int))
  u : H lu = some (.lst xs)
  all : AllU H us xs
  len : ws.length = us.length
  n : us.length ≤ 24
theorem Uw.same {H H' : Hp} {lu lw : Addr} {us : List Un} {xs : List V} {ws : List Int} (s : Same H H') (h : Uw H lu lw us xs ws) : Uw H' lu lw us xs ws := ⟨s _ _ h.w, s _ _ h.u, h.all.tu s.tu, h.len, h.n⟩
inductive spSpare (vs : List V) (H : Hp) (Q : VK) (_E : XK) : Prop
  | mk (lr lc lu lw : Addr) (rows cols ws : List Int) (us : List Un) (xs : List V) (h0 : vs = [.ref lr, .ref lc, .ref lu, .ref lw]) (h1 : In H lr lc lu rows cols us xs) (h2 : H lw = some (.lst (ws.map V.int))) (h3 : ws.length = us.length) (h4 : ∀ D H', Same H H' → H D = none → H' D = some (.dT (dE (spE us rows cols ws rows.length cols.length))) → Q (.ref D) H') : spSpare vs H Q _E
inductive spReach (vs : List V) (H : Hp) (Q : VK) (_E : XK) : Prop
  | mk (ls lu lw : Addr) (S : List En) (ss : List V) (ws : List Int) (us : List Un) (xs : List V) (R C : Nat) (h0 : vs = [.ref ls, .ref lu, .ref lw]) (h1 : Uw H lu lw us xs ws) (h2 : H ls = some (.lst ss)) (h3 : AllE H S ss) (h4 : S.Nodup) (h5 : (∀ e ∈ S, e ∈ ends R C)) (h6 : OkU us R C) (h7 : R ≤ 6) (h8 : C ≤ 6) (h9 : ∀ D H', Same H H' → H D = none → Bs us ws R C S (reachF us ws (R + C) S) [] → H' D = some (.dT (dE (byL (reachF us ws (R + C) S)))) → Q (.ref D) H') : spReach vs H Q _E
theorem seqIx0 {n : Nat} (h : 0 < n) : seqIndex? 0 n = some 0 := by
  unfold seqIndex?
  first | (rw [if_pos (by lia)]; rfl) | simp [h]
section
variable {P : Program} {w : World} {K : PySem.W.Frag} {mg : Str → Option Value} {base : Heap} {a : Ad}
theorem ok_spare (T : Txt K mg a) : FnOk P w K mg base CX0 2 a.f_spare_of a.d_spare_of ["rows", "columns", "units", "weights"] spSpare := by
  have G_sums_of : FnOk P w K mg base CX0 1 _ _ _ spSums := ok_sums T
  refine T.F_spare_of.ok sc_spare_of (fun vs H Q E h => ?_) (fun cdv A outer s H vs Q E hr h => ?_)
  · obtain ⟨lr, lc, lu, lw, rows, cols, ws, us, xs, rfl, _⟩ := h; rfl
  · obtain ⟨lr, lc, lu, lw, rows, cols, ws, us, xs, rfl, hI, hw, wl, q⟩ := h
    refine ⟨_, (pss_cons (ps_set (i := 4) sc_spare_of.nd rfl (Or.inl rfl) pe_dnewT) (pss_cons (ps_for PassesOwn.never rfl (pi_enum rfl T.z_enumerate (pa_cons (pe_call G_sums_of hr rfl T.m_sums_of T.F_sums_of.kp T.B_sums_of .nil pass0 (pa_cons (vr 3) (pa_cons (vr 2) (pa_cons pe_int (pa_cons (pe_callB call_lenM rfl T.z_len bt_len (pa_cons (vr 0) pa_nil)) pa_nil))))) pa_nil)) (pg_tup rfl (pgs_cons (pg_name (i := 5) sc_spare_of.nd rfl (Or.inl rfl)) (pgs_cons (pg_name (i := 6) sc_spare_of.nd rfl (Or.inl rfl)) pgs_nil))) (pss_one (ps_dput (hu_of hr) (vr 4) (pe_tup (pa_cons pe_int (pa_cons (vr 5) pa_nil))) (pe_op o_sub (pe_ix ix_seq (vr 0) (vr 5) (fun _ _ => rfl)) (vr 6)) rfl))) (pss_cons (ps_for PassesOwn.never rfl (pi_enum rfl T.z_enumerate (pa_cons (pe_call G_sums_of hr rfl T.m_sums_of T.F_sums_of.kp T.B_sums_of .nil pass0 (pa_cons (vr 3) (pa_cons (vr 2) (pa_cons pe_int (pa_cons (pe_callB call_lenM rfl T.z_len bt_len (pa_cons (vr 1) pa_nil)) pa_nil))))) pa_nil)) (pg_tup rfl (pgs_cons (pg_name (i := 5) sc_spare_of.nd rfl (Or.inl rfl)) (pgs_cons (pg_name (i := 6) sc_spare_of.nd rfl (Or.inl rfl)) pgs_nil))) (pss_one (ps_dput (hu_of hr) (vr 4) (pe_tup (pa_cons pe_int (pa_cons (vr 5) pa_nil))) (pe_op o_sub (vr 6) (pe_ix ix_seq (vr 1) (vr 5) (fun _ _ => rfl))) rfl))) (pss_one (ps_ret (vr 4)))))), ?_⟩
    have sl : sizeLine = 16777216 := sizeLine_eq
    have z2 : ∀ x y : V, [x, y].length ≤ sizeLine := fun x y => by rw [sl]; exact (by decide : 2 ≤ 16777216)
    have r6 := hI.rs.1
    have c6 := hI.cs.1
    intro d hd
    have s0 := Same.new (o := .dT []) hd
    refine ⟨_, .inl (SqL.of (s0 _ _ hI.r)), ?_⟩
    refine ⟨lw, lu, ws, us, xs, 0, rows.length, by rw [List.length_map]; rfl, s0 _ _ hw, s0 _ _ hI.u, hI.all.tu s0.tu, wl, by (decide), r6, fun u hu => (hI.ok u hu).1, fun D1 H1 s1 f1 h1 => ?_⟩
    have d1 := s1 _ _ (upd_same (H := H) (a := d) (o := .dT []))
    have nD1 : D1 ≠ d := fun z => by rw [z, upd_same] at f1; cases f1
    have s01 := s0.trans s1
    refine ⟨D1, _, rfl, h1, ?_⟩
    refine for_enum (a := D1) (xs := (sumL us ws 0 rows.length us.length).map V.int) (fun i σ H' => Same H H' ∧ H' d = some (.dT (dE (spE us rows cols ws i 0))) ∧ H' D1 = some (.lst ((sumL us ws 0 rows.length us.length).map V.int)) ∧ ∃ (x5 x6 : Option V), σ = [some (.ref lr), some (.ref lc), some (.ref lu), some (.ref lw), some (.ref d), x5, x6]) ⟨s01, d1, h1, none, none, rfl⟩ (fun i σ H' h => h.2.2.1) ?_ ?_
    · rintro i x σ H2 pt hx ⟨s2, d2, h2, x5, x6, rfl⟩ hpt
      obtain ⟨v, hv, rfl⟩ := int_of hx
      have ilt : i < rows.length := by have := (List.getElem?_eq_some_iff.mp hv).1; rw [sumL_len] at this; exact this
      rw [sumL_row us ws ilt] at hv
      cases hv
      have s3 := Same.new (o := .tup [.int (i : Nat), .int (rowW us ws i)]) hpt
      refine ⟨pt, _, rfl, SqT.of upd_same, rfl, _, _, rfl, _, _, rfl, rfl, ?_⟩
      refine .inl ⟨lr, _, _, _, rfl, rfl, SqL.of ((s2.trans s3) _ _ hI.r), ints_at (List.getElem?_eq_getElem ilt), ?_⟩
      refine ⟨z2 _ _, fun t ht => ?_⟩
      have s4 := s3.trans (Same.new (o := .tup (enV (0, i))) ht)
      refine ⟨d, _, rfl, DPut.t (k := key (0, i)) (s4 _ _ d2) upd_same (by rw [dE_len]; unfold spE; rw [List.length_map, ends_len]; lia), ?_⟩
      have ew : rows[i] = wAt rows i := (wAt_of (List.getElem?_eq_getElem ilt)).symm
      refine ⟨(s2.trans s4).put hd, ?_, by rw [upd_ne nD1]; exact s4 _ _ h2, _, _, rfl⟩
      rw [upd_same, spE_row, put_dE]
      · have es : sp us rows cols ws (0, i) = rows[i] - rowW us ws i := by rw [ew]; rfl
        rw [es]
      · rw [spE_keys, ends_mem]
        rintro (⟨_, z⟩ | ⟨z, _⟩)
        · exact absurd z (Nat.lt_irrefl _)
        · cases z
    · rintro σ H2 ⟨s2, d2, _, x5, x6, rfl⟩
      rw [List.length_map, sumL_len] at d2
      refine ⟨_, .inl (SqL.of (s2 _ _ hI.c)), ?_⟩
      refine ⟨lw, lu, ws, us, xs, 1, cols.length, by rw [List.length_map]; rfl, s2 _ _ hw, s2 _ _ hI.u, hI.all.tu s2.tu, wl, by (decide), c6, fun u hu => (hI.ok u hu).2.1, fun D3 H3 s3 f3 h3 => ?_⟩
      have d3 := s3 _ _ d2
      have nD3 : D3 ≠ d := fun z => by rw [z, d2] at f3; cases f3
      have s03 := s2.trans s3
      refine ⟨D3, _, rfl, h3, ?_⟩
      refine for_enum (a := D3) (xs := (sumL us ws 1 cols.length us.length).map V.int) (fun i σ H' => Same H H' ∧ H' d = some (.dT (dE (spE us rows cols ws rows.length i))) ∧ H' D3 = some (.lst ((sumL us ws 1 cols.length us.length).map V.int)) ∧ ∃ (x5 x6 : Option V), σ = [some (.ref lr), some (.ref lc), some (.ref lu), some (.ref lw), some (.ref d), x5, x6]) ⟨s03, d3, h3, _, _, rfl⟩ (fun i σ H' h => h.2.2.1) ?_ ?_
      · rintro i x σ H4 pt hx ⟨s4, d4, h4, x5, x6, rfl⟩ hpt
        obtain ⟨v, hv, rfl⟩ := int_of hx
        have ilt : i < cols.length := by have := (List.getElem?_eq_some_iff.mp hv).1; rw [sumL_len] at this; exact this
        rw [sumL_col us ws ilt] at hv
        cases hv
        have s5 := Same.new (o := .tup [.int (i : Nat), .int (colW us ws i)]) hpt
        refine ⟨pt, _, rfl, SqT.of upd_same, rfl, _, _, rfl, _, _, rfl, rfl, ?_⟩
        refine .inl ⟨lc, _, _, _, rfl, rfl, SqL.of ((s4.trans s5) _ _ hI.c), ints_at (List.getElem?_eq_getElem ilt), ?_⟩
        refine ⟨z2 _ _, fun t ht => ?_⟩
        have s6 := s5.trans (Same.new (o := .tup (enV (1, i))) ht)
        refine ⟨d, _, rfl, DPut.t (k := key (1, i)) (s6 _ _ d4) upd_same (by rw [dE_len]; unfold spE; rw [List.length_map, ends_len]; lia), ?_⟩
        have ew : cols[i] = wAt cols i := (wAt_of (List.getElem?_eq_getElem ilt)).symm
        refine ⟨(s4.trans s6).put hd, ?_, by rw [upd_ne nD3]; exact s6 _ _ h4, _, _, rfl⟩
        rw [upd_same, spE_col, put_dE]
        · have es : sp us rows cols ws (1, i) = colW us ws i - cols[i] := by rw [ew]; rfl
          rw [es]
        · rw [spE_keys, ends_mem]
          rintro (⟨z, _⟩ | ⟨_, z⟩)
          · cases z
          · exact absurd z (Nat.lt_irrefl _)
      · rintro σ H4 ⟨s4, d4, _, x5, x6, rfl⟩
        rw [List.length_map, sumL_len] at d4
        exact q d _ s4 hd d4
theorem ok_reach (T : Txt K mg a) : FnOk P w K mg base CX0 2 a.f_reached_from a.d_reached_from ["starts", "units", "weights"] spReach := by
  have G_other_end : FnOk P w K mg base CX0 1 _ _ _ spOther := ok_other T
  have G_room : FnOk P w K mg base CX0 1 _ _ _ spRoom := ok_room T
  refine T.F_reached_from.ok sc_reached_from (fun vs H Q E h => ?_) (fun cdv A outer s H vs Q E hr h => ?_)
  · obtain ⟨ls, lu, lw, S, ss, ws, us, xs, R, C, rfl, _⟩ := h; rfl
  · obtain ⟨ls, lu, lw, S, ss, ws, us, xs, R, C, rfl, hU, hs, hS, nd, sub, okU, r6, c6, q⟩ := h
    refine ⟨_, (pss_cons (ps_set (i := 3) sc_reached_from.nd rfl (Or.inl rfl) pe_dnewT) (pss_cons (ps_for PassesOwn.never rfl (pi_any (vr 0)) (pg_name (i := 4) sc_reached_from.nd rfl (Or.inl rfl)) (pss_one (ps_dput (hu_of hr) (vr 3) (vr 4) pe_non rfl))) (pss_cons (ps_set (i := 5) sc_reached_from.nd rfl (Or.inl rfl) (pe_callTy call_list_of rfl T.z_list bt_list (pa_cons (vr 0) pa_nil))) (pss_cons (ps_while PassesOwn.never (pt_truth (vr 5) (fun _ => rfl)) (pss_cons (ps_set (i := 6) sc_reached_from.nd rfl (Or.inl rfl) (pe_m.popAt (vr 5) (pa_cons pe_int pa_nil))) (pss_one (ps_for PassesOwn.never rfl (pi_enum rfl T.z_enumerate (pa_cons (vr 1) pa_nil)) (pg_tup rfl (pgs_cons (pg_name (i := 7) sc_reached_from.nd rfl (Or.inl rfl)) (pgs_cons (pg_name (i := 8) sc_reached_from.nd rfl (Or.inl rfl)) pgs_nil))) (pss_cons (ps_set (i := 9) sc_reached_from.nd rfl (Or.inl rfl) (pe_call G_other_end hr rfl T.m_other_end T.F_other_end.kp T.B_other_end .nil pass0 (pa_cons (vr 8) (pa_cons (vr 6) pa_nil)))) (pss_one (ps_if (PW.pt (pw_and (t_cmp o_isnot (vr 9) pe_non (nomark _)) (pw_and (pt_cmp (pc_dnotin (hu_of hr) (vr 9) (vr 3))) (pw_and1 (t_cmp o_gt (pe_call G_room hr rfl T.m_room T.F_room.kp T.B_room .nil pass0 (pa_cons (vr 8) (pa_cons (pe_ix ix_seq (vr 2) (vr 7) (fun _ _ => rfl)) (pa_cons (vr 6) pa_nil)))) pe_int (nomark _)))))) (pss_cons (ps_dput (hu_of hr) (vr 3) (vr 9) (vr 7) rfl) (pss_one (ps_expr (pe_m.append (vr 5) (pa_cons (vr 9) pa_nil))))) pss_nil))))))) (pss_one (ps_ret (vr 3))))))), ?_⟩
    have sl : sizeLine = 16777216 := sizeLine_eq
    have Sl : S.length = ss.length := Paired.length hS
    have xl : us.length = xs.length := Paired.length hU.all
    have S12 : S.length ≤ R + C := by have := nodup_len nd sub; rw [ends_len] at this; exact this
    intro d hd
    have s0 := Same.new (o := .dT []) hd
    refine .inl ⟨⟨_, SqL.of (s0 _ _ hs)⟩, ?_⟩
    refine for_list (K := K) (a := ls) (xs := ss) (fun i σ H' => i ≤ S.length ∧ Same H H' ∧ H' d = some (.dT (dE (byL (b0 (S.take i))))) ∧ ∃ (x4 : Option V), σ = [some (.ref ls), some (.ref lu), some (.ref lw), some (.ref d), x4, none, none, none, none, none]) ⟨Nat.zero_le _, s0, upd_same, none, rfl⟩ (fun i σ H' _ h => SqL.of (h.2.1 _ _ hs)) ?_ ?_
    · rintro i x σ H1 hx ⟨il, s1, d1, x4, rfl⟩
      obtain ⟨e, he, hE⟩ := pget hS hx
      obtain ⟨p, rfl, hp⟩ := hE.tu s1.tu
      have ilt := (List.getElem?_eq_some_iff.mp he).1
      refine ⟨d, _, rfl, DPut.t (k := key e) d1 hp (by rw [dE_len]; unfold byL b0; rw [List.length_map, List.length_map, List.length_take]; lia), ?_⟩
      refine ⟨ilt, s1.put hd, ?_, _, rfl⟩
      have tk : S.take (i + 1) = S.take i ++ [e] := by rw [List.take_add_one, he]; rfl
      rw [upd_same, tk]
      have := put_by (b := b0 (S.take i)) (e := e) (by
        rw [keys_b0]
        intro z
        have nd' : (S.take i ++ [e]).Nodup := by rw [← tk]; exact nd.sublist (List.take_sublist ..)
        exact (List.nodup_append.mp nd').2.2 e z e (List.mem_singleton_self _) rfl) none
      unfold b0 at this ⊢
      rw [List.map_append]
      exact congrArg (fun z => some (HO.dT z)) this
    rintro σ H1 ⟨_, s1, d1, x4, rfl⟩
    rw [← Sl, List.take_of_length_le (Nat.le_refl _)] at d1
    refine ⟨ls, _, rfl, .inl (SqL.of (s1 _ _ hs)), fun la hla => ?_⟩
    have s2 := s1.trans (Same.new (o := .lst ss) hla)
    have nla : la ≠ d := fun z => by rw [z, d1] at hla; cases hla
    have hla0 : H la = none := by
      cases hh : H la with
      | none => rfl
      | some o => rw [s1 _ _ hh] at hla; cases hla
    refine ⟨fun m σ H' => ∃ (b : By) (ah : List En) (ys : List V) (x4 x6 x7 x8 x9 : Option V), m = mB (R + C) b ah ∧ Same H H' ∧ Bs us ws R C S b ah ∧ H' d = some (.dT (dE (byL b))) ∧ H' la = some (.lst ys) ∧ AllE H' ah ys ∧ σ = [some (.ref ls), some (.ref lu), some (.ref lw), some (.ref d), x4, some (.ref la), x6, x7, x8, x9], ⟨_, b0 S, S, ss, _, _, _, _, _, rfl, s2, Bs.first us ws nd sub, by rw [upd_ne (Ne.symm nla)]; exact d1, upd_same, hS.tu s2.tu, rfl⟩, ?_⟩
    rintro m σ H3 ⟨b, ah, ys, x4, x6, x7, x8, x9, rfl, s3, B, d3, a3, hA, rfl⟩
    refine ⟨_, .inl ⟨_, SqL.of a3, rfl⟩, ?_⟩
    cases hA with
    | nil =>
      have e := Bs.done us ws B
      refine iteNS (show ¬ ((!([] : List V).isEmpty) = true) from fun z => by cases z) ?_
      rw [e] at d3 B
      exact q d _ s3 hd B d3
    | @cons h x t ys hE hT =>
      refine ⟨fun σ H' => ∃ m', m' < mB (R + C) b (h :: t) ∧ ∃ (b : By) (ah : List En) (ys : List V) (x4 x6 x7 x8 x9 : Option V), m' = mB (R + C) b ah ∧ Same H H' ∧ Bs us ws R C S b ah ∧ H' d = some (.dT (dE (byL b))) ∧ H' la = some (.lst ys) ∧ AllE H' ah ys ∧ σ = [some (.ref ls), some (.ref lu), some (.ref lw), some (.ref d), x4, some (.ref la), x6, x7, x8, x9], fun σ' H' h => h, ?_⟩
      refine ⟨.inl ⟨rfl, _, SqL.of a3⟩, la, _, 0, 0, x, rfl, rfl, a3, by decide, by decide, seqIx0 (by rw [List.length_cons]; lia), rfl, ?_⟩
      have s4 : Same H (upd H3 la (.lst ((x :: ys).eraseIdx 0))) := s3.put hla0
      have d4 : (upd H3 la (.lst ((x :: ys).eraseIdx 0))) d = _ := (upd_ne (Ne.symm nla)).trans d3
      have a4 : (upd H3 la (.lst ((x :: ys).eraseIdx 0))) la = some (.lst ys) := upd_same
      have u4 : TupS H3 (upd H3 la (.lst ((x :: ys).eraseIdx 0))) := tu_lst a3
      generalize upd H3 la (.lst ((x :: ys).eraseIdx 0)) = H4 at s4 d4 a4 u4
      obtain ⟨px, rfl, hpx⟩ := hE.tu u4
      have hT4 := AllE.tu u4 hT
      have hU4 := hU.same s4
      have hb12 := B.len
      have hhk := B.fr.sub h (List.mem_cons_self ..)
      have few0 : t.length ≤ b.length := by have := B.few; rw [List.length_cons] at this; (exact Nat.le_of_lt (by assumption))
      refine ⟨lu, _, rfl, hU4.u, ?_⟩
      refine for_enum (a := lu) (xs := xs) (fun i σ H' => i ≤ us.length ∧ Same H H' ∧ H' px = some (.tup (enV h)) ∧ ∃ (ys : List V) (x7 x8 x9 : Option V), H' d = some (.dT (dE (byL (scan us ws h b t i).1))) ∧ H' la = some (.lst ys) ∧ AllE H' (scan us ws h b t i).2 ys ∧ σ = [some (.ref ls), some (.ref lu), some (.ref lw), some (.ref d), x4, some (.ref la), some (.ref px), x7, x8, x9]) ⟨Nat.zero_le _, s4, hpx, ys, x7, x8, x9, d4, a4, hT4, rfl⟩ (fun i σ H' h => h.2.1 _ _ hU.u) ?_ ?_
      · rintro i x σ H5 pt hx ⟨il, s5, hp5, zs, x7, x8, x9, d5, a5, hA5, rfl⟩ hpt
        obtain ⟨u, hu, hUx⟩ := pget hU.all hx
        have ilt := (List.getElem?_eq_some_iff.mp hu).1
        have s6 := Same.new (o := .tup [.int (i : Nat), x]) hpt
        have s56 := s5.trans s6
        refine ⟨pt, _, rfl, SqT.of upd_same, rfl, _, _, rfl, _, _, rfl, rfl, ?_⟩
        refine ⟨u, h, x, .ref px, rfl, hUx.tu s56.tu, ⟨px, rfl, s6 _ _ hp5⟩, fun v H7 s7 hv => ?_⟩
        have s57 := s6.trans s7
        have s07 := s5.trans s57
        have d7 := s57 _ _ d5
        have a7 := s57 _ _ a5
        have hp7 := s57 _ _ hp5
        have hA7 := AllE.tu s57.tu hA5
        have sc := scan_spec us ws (t := t) B.fr.tree hhk i (by (assumption))
        have len := nodup_len sc.tree.nd (scan_in us ws okU (h := h) (t := t) B.sub i (by (assumption)))
        have few := scan_few us ws (t := t) B.fr.tree hhk few0 i (by (assumption))
        rw [ends_len] at len
        unfold keys at len
        rw [List.length_map] at len
        have zl : (scan us ws h b t i).2.length = zs.length := Paired.length hA5
        rw [scan_succ]
        generalize scan us ws h b t i = st at d7 a7 hA7 len few zl
        unfold scan1
        rw [uAt_of hu]
        cases ho : oth u h with
        | none =>
          rw [ho] at hv
          have hv' : v = .non := hv
          subst hv'
          exact ⟨ilt, s07, hp7, zs, _, _, _, d7, a7, hA7, rfl⟩
        | some e =>
          rw [ho] at hv
          obtain ⟨pv, rfl, hpv⟩ := (hv : IsE H7 e v)
          refine ⟨d, _, rfl, DGet.t (k := key e) d7 hpv, ?_⟩
          rw [val_by]
          simp only
          by_cases c1 : e ∈ keys st.1
          · rw [if_pos c1]
            have c1' := look_some.mpr c1
            rw [Option.isSome_map, c1']
            refine ⟨_, rfl, ?_⟩
            exact ⟨ilt, s07, hp7, zs, _, _, _, d7, a7, hA7, rfl⟩
          · rw [if_neg c1]
            have c1' : (look st.1 e).isSome = false := by
              cases hh : (look st.1 e).isSome with
              | false => rfl
              | true => exact absurd (look_some.mp hh) c1
            rw [Option.isSome_map, c1']
            refine ⟨_, rfl, ?_⟩
            refine .inl ⟨lw, _, _, _, rfl, rfl, SqL.of (s07 _ _ hU.w), ints_at (List.getElem?_eq_getElem (by rw [hU.len]; exact ilt)), ?_⟩
            have ew : ws[i]'(by rw [hU.len]; exact ilt) = wAt ws i := (wAt_of (List.getElem?_eq_getElem (by rw [hU.len]; exact ilt))).symm
            rw [ew]
            refine ⟨u, h, x, .ref px, _, rfl, hUx.tu s07.tu, ⟨px, rfl, hp7⟩, ?_⟩
            refine ifC (fun c2 => ?_) fun c2 => ?_
            · rw [if_pos c2]
              refine ⟨d, _, rfl, DPut.t (k := key e) d7 hpv (by rw [dE_len]; unfold byL; rw [List.length_map]; lia), ?_⟩
              have n1 : d ≠ la := Ne.symm nla
              refine ⟨.inl ⟨rfl, _, SqL.of (by rw [upd_ne nla]; exact a7)⟩, la, zs, _, rfl, rfl, by rw [upd_ne nla]; exact a7, by lia, ?_⟩
              have u8 : TupS H7 (upd H7 d (.dT (putK (dE (byL st.1)) (key e) (.int (i : Nat))))) := tu_dT d7
              have a8 : (upd H7 d (.dT (putK (dE (byL st.1)) (key e) (.int (i : Nat))))) la = some (.lst zs) := by rw [upd_ne nla]; exact a7
              have u9 := tu_lst (o := .lst (zs ++ [.ref pv])) a8
              refine ⟨ilt, (s07.put hd).put hla0, u9 _ _ (u8 _ _ hp7), zs ++ [.ref pv], _, _, _, ?_, upd_same, (AllE.tu u9 (AllE.tu u8 hA7)).snoc ⟨pv, rfl, u9 _ _ (u8 _ _ hpv)⟩, rfl⟩
              rw [upd_ne n1, upd_same]
              exact congrArg (fun z => some (HO.dT z)) (put_by c1 (some i))
            · rw [if_neg c2]
              exact ⟨ilt, s07, hp7, zs, _, _, _, d7, a7, hA7, rfl⟩
      · rintro σ H5 ⟨_, s5, hp5, zs, x7, x8, x9, d5, a5, hA5, rfl⟩
        rw [← xl] at d5 hA5
        obtain ⟨B', lt⟩ := B.next us ws okU
        exact ⟨_, lt, _, _, zs, _, _, _, _, _, rfl, s5, B', d5, a5, hA5, rfl⟩
end
end My
set_option linter.all false
set_option maxHeartbeats 1000000
namespace Led
noncomputable def minL (a : Int) (l : List Int) : Int := l.foldl (fun x y => if y < x then y else x) a
theorem minL_spec : ∀ (l : List Int) (a : Int), minL a l ∈ a :: l ∧ ∀ x ∈ a :: l, minL a l ≤ x
  | [], a => ⟨List.mem_singleton_self _, fun x hx => by rw [List.mem_singleton.mp hx]; exact Int.le_refl _⟩
  | y :: l, a => by
    have ih := minL_spec l (if y < a then y else a)
    have e : minL a (y :: l) = minL (if y < a then y else a) l := rfl
    rw [e]
    refine ⟨?_, fun x hx => ?_⟩
    · rcases List.mem_cons.mp ih.1 with z | z
      · rw [z]
        split
        · exact List.mem_cons_of_mem _ (List.mem_cons_self ..)
        · exact List.mem_cons_self ..
      · exact List.mem_cons_of_mem _ (List.mem_cons_of_mem _ z)
    · have h0 := ih.2 _ (List.mem_cons_self ..)
      rcases List.mem_cons.mp hx with z | z
      · rw [z]; have h1 : (if y < a then y else a) ≤ a := by split <;> lia
        lia
      · rcases List.mem_cons.mp z with z | z
        · rw [z]; have h1 : (if y < a then y else a) ≤ y := by split <;> lia
          lia
        · exact ih.2 x (List.mem_cons_of_mem _ z)
theorem minL_uniq {m a : Int} {l : List Int} (h1 : m ∈ a :: l) (h2 : ∀ x ∈ a :: l, m ≤ x) : m = minL a l := by
  have s := minL_spec l a
  exact Int.le_antisymm (h2 _ s.1) (s.2 _ h1)
noncomputable def onF (b : By) (s R : Nat) : List Int := ((List.range R).filter fun i => decide ((s, i) ∈ keys b)).map fun (i : Nat) => (i : Int)
theorem on_mem {b : By} {s R : Nat} {v : Int} : v ∈ onF b s R ↔ ∃ i : Nat, i < R ∧ (s, i) ∈ keys b ∧ v = (i : Int) := by
  unfold onF
  rw [List.mem_map]
  constructor
  · rintro ⟨i, hi, rfl⟩
    obtain ⟨h1, h2⟩ := List.mem_filter.mp hi
    exact ⟨i, List.mem_range.mp h1, of_decide_eq_true h2, rfl⟩
  · rintro ⟨i, h1, h2, rfl⟩
    exact ⟨i, List.mem_filter.mpr ⟨List.mem_range.mpr h1, decide_eq_true h2⟩, rfl⟩
theorem on_nd (b : By) (s R : Nat) : (onF b s R).Nodup := List.pairwise_map.mpr (List.Pairwise.imp (fun h z => h (by lia)) ((List.nodup_range (n := R)).sublist List.filter_sublist))
theorem on_le (b : By) (s R : Nat) : (onF b s R).Pairwise (· ≤ ·) := List.pairwise_map.mpr (List.Pairwise.imp (fun h => by lia) ((List.pairwise_lt_range (n := R)).sublist List.filter_sublist))
theorem on_sorted {b : By} {s R : Nat} {ns : List Int} (nd : (keys b).Nodup) (hR : ∀ e ∈ keys b, e.1 = s → e.2 < R) (hp : ns.Perm (((keys b).filter fun e => decide (e.1 = s)).map fun e => (e.2 : Int))) (hs : ns.Pairwise (· ≤ ·)) : ns = onF b s R := by
  have nd2 : (((keys b).filter fun e => decide (e.1 = s)).map fun e => (e.2 : Int)).Nodup := by
    refine List.pairwise_map.mpr ?_
    refine List.Pairwise.imp_of_mem (R := fun a b => a ≠ b) (fun {x y} hx hy h z => ?_) (nd.sublist List.filter_sublist)
    have e1 : x.1 = s := of_decide_eq_true (List.mem_filter.mp hx).2
    have e2 : y.1 = s := of_decide_eq_true (List.mem_filter.mp hy).2
    exact h (Prod.ext (e1.trans e2.symm) (by lia))
  have p2 : (((keys b).filter fun e => decide (e.1 = s)).map fun e => (e.2 : Int)).Perm (onF b s R) := by
    refine (List.perm_ext_iff_of_nodup nd2 (on_nd b s R)).mpr fun v => ?_
    rw [on_mem, List.mem_map]
    constructor
    · rintro ⟨e, he, rfl⟩
      obtain ⟨h1, h2⟩ := List.mem_filter.mp he
      have h2' : e.1 = s := of_decide_eq_true h2
      exact ⟨e.2, hR e h1 h2', by rw [← h2']; exact h1, rfl⟩
    · rintro ⟨i, h1, h2, rfl⟩
      exact ⟨(s, i), List.mem_filter.mpr ⟨h2, decide_eq_true rfl⟩, rfl⟩
  exact List.Perm.eq_of_pairwise (fun a b _ _ h1 h2 => Int.le_antisymm h1 h2) hs (on_le b s R) (hp.trans p2)
section
variable (us : List Un) (rows cols : List Int) (R C : Nat)
noncomputable def strt (ws : List Int) : List En := (ends R C).filter fun e => decide (0 < sp us rows cols ws e)
noncomputable def shrt (ws : List Int) (b : By) : List En := (keys b).filter fun e => decide (sp us rows cols ws e < 0)
noncomputable def roomsF (ws : List Int) (P : List (En × Nat)) : List Int := P.map fun x => room (uAt us x.2) (wAt ws x.2) x.1
noncomputable def hdF (P : List (En × Nat)) : En := (P.headD ((0, 0), 0)).1
noncomputable def mostF (ws : List Int) (P : List (En × Nat)) (l : En) : Int := if -sp us rows cols ws l < sp us rows cols ws (hdF P) then -sp us rows cols ws l else sp us rows cols ws (hdF P)
noncomputable def stepF (ws : List Int) (b : By) (l : En) : List Int := given (minL (mostF us rows cols ws (pathTo us b b.length l []) l) (roomsF us ws (pathTo us b b.length l []))) (pathTo us b b.length l []) ws
noncomputable def byF (ws : List Int) : By := reachF us ws (R + C) (strt us rows cols R C ws)
inductive Told
  | ws (w : List Int)
  | no (over : Bool) (so ot : List Int)
noncomputable def loopF : Nat → List Int → Told
  | 0, ws => .ws ws
  | n + 1, ws => match shrt us rows cols ws (byF us rows cols R C ws) with
    | [] => if (byF us rows cols R C ws).isEmpty then .ws ws else .no true (onF (byF us rows cols R C ws) 0 R) (onF (byF us rows cols R C ws) 1 C)
    | l :: _ => loopF n (stepF us rows cols ws (byF us rows cols R C ws) l)
noncomputable def lows : List Int := us.map (·.lo)
noncomputable def upto (n : Nat) : List Int := (List.range n).map fun (i : Nat) => (i : Int)
noncomputable def ledF : Told := if rows.sum = cols.sum then loopF us rows cols R C ((mS us (lows us) rows cols R C).toNat + 1) (lows us) else .no (decide (cols.sum < rows.sum)) (upto R) (upto C)
variable {us rows cols R C}
theorem strt_nd (ws : List Int) : (strt us rows cols R C ws).Nodup := (ends_nd R C).sublist List.filter_sublist
theorem strt_sub (ws : List Int) : ∀ e ∈ strt us rows cols R C ws, e ∈ ends R C := fun e he => (List.mem_filter.mp he).1
theorem lows_wi (ok : OkU us R C) : Wi us (lows us) := by
  refine ⟨List.length_map .., fun p hp => ?_⟩
  have e : wAt (lows us) p = (uAt us p).lo := by
    unfold wAt lows uAt
    rw [List.getD, List.getD, List.getElem?_map, List.getElem?_eq_getElem hp]
    rfl
  rw [e]
  exact ⟨Int.le_refl _, (ok p hp).2.2⟩
theorem way {ws : List Int} {S : List En} {b : By} {l : En} (B : Bs us ws R C S b []) (hS : ∀ e ∈ S, 0 < sp us rows cols ws e) (hl : l ∈ shrt us rows cols ws b) : ∃ s p P, s ∈ S ∧ pathTo us b b.length l [] = (s, p) :: P ∧ IsP us ws ((s, p) :: P) s l ∧ (((s, p) :: P).map (·.1) ++ [l]).Nodup ∧ sp us rows cols ws l < 0 := by
  obtain ⟨h1, h2⟩ := List.mem_filter.mp hl
  have h2' : sp us rows cols ws l < 0 := of_decide_eq_true h2
  obtain ⟨i, hi⟩ := List.getElem?_of_mem h1
  have ilt : i < b.length := by have := (List.getElem?_eq_some_iff.mp hi).1; unfold keys at this; rw [List.length_map] at this; exact this
  obtain ⟨s, hs, hP, nd⟩ := path_spec us ws B.fr.tree b.length i l l [] ilt (Wy.first us ws (S := S) hi)
  cases hc : pathTo us b b.length l [] with
  | nil =>
    rw [hc] at hP
    have e : s = l := hP
    subst e
    have := hS s hs
    lia
  | cons x P =>
    obtain ⟨x1, x2⟩ := x
    rw [hc] at hP nd
    have e : x1 = s := hP.1
    subst e
    exact ⟨x1, x2, P, hs, rfl, hP, nd, h2'⟩
theorem step_ok {ws : List Int} {b : By} {l : En} (hw : Wi us ws) (B : Bs us ws R C (strt us rows cols R C ws) b []) (hl : l ∈ shrt us rows cols ws b) : Wi us (stepF us rows cols ws b l) ∧ mS us (stepF us rows cols ws b l) rows cols R C < mS us ws rows cols R C := by
  obtain ⟨s, p, P, hs, e, hP, nd, hneg⟩ := way (rows := rows) (cols := cols) B (fun e he => of_decide_eq_true (List.mem_filter.mp he).2) hl
  have hpos : 0 < sp us rows cols ws s := of_decide_eq_true (List.mem_filter.mp hs).2
  unfold stepF
  rw [e]
  have eh : hdF ((s, p) :: P) = s := rfl
  have sm := minL_spec (roomsF us ws ((s, p) :: P)) (mostF us rows cols ws ((s, p) :: P) l)
  have em : mostF us rows cols ws ((s, p) :: P) l = if -sp us rows cols ws l < sp us rows cols ws s then -sp us rows cols ws l else sp us rows cols ws s := rfl
  generalize minL (mostF us rows cols ws ((s, p) :: P) l) (roomsF us ws ((s, p) :: P)) = m at sm
  have m1 := sm.2 _ (List.mem_cons_self ..)
  have mr : ∀ x ∈ (s, p) :: P, m ≤ room (uAt us x.2) (wAt ws x.2) x.1 := fun x hx => sm.2 _ (List.mem_cons_of_mem _ (List.mem_map.mpr ⟨x, hx, rfl⟩))
  have mp : 0 < m := by
    rcases List.mem_cons.mp sm.1 with z | z
    · rw [z, em]; split <;> lia
    · obtain ⟨x, hx, e⟩ := List.mem_map.mp z
      have := (isP_ends us ws hP x hx).2.2
      lia
  rw [em] at m1
  have ms : m ≤ sp us rows cols ws s := by split at m1 <;> lia
  have ml : sp us rows cols ws l ≤ -m := by split at m1 <;> lia
  refine ⟨given_wi us ws hw hP nd (by lia) mr, ?_⟩
  exact mS_less us ws rows cols R C (sp_given us rows cols ws m ws hw.len hP) mp ms ml (ends_mem.mp (strt_sub ws s hs))
end
end Led
set_option Elab.async false
set_option linter.all false
set_option maxRecDepth 100000
namespace L2
open PySem PySem.Spec PyProof.Rows
theorem pi_dF {X : Cx} {tg e : Expr} {te : TE} (he : PE X e te) : PI X tg e (fun σ H R => te σ H fun x H1 => ∃ d o kvs, x = .ref d ∧ H1 d = some (.frz o (.dT kvs)) ∧ R (Itd d o kvs) H1) := by
  intro pins s σ H R I h
  refine thn (he pins s σ H _ I h) fun v s1 ⟨x, H1, I1, r1, d, o, kvs, ex, hd, q⟩ => ?_
  subst ex
  obtain rfl : v = Value.ref d := r1
  obtain ⟨xs, es, ep, rel, g1, g2, g3, g4, g5⟩ := frz_de I1.hok hd
  have hsz : es.size = kvs.length := by rw [size_of_entries g4, Paired.length rel]
  refine de_iter g5 ⟨o, g1, g2, g3⟩ ?_
  refine ⟨s1.heap.objs.size, [s1.heap.objs.size], _, _, _, rfl, I1.kept (t' := s1.toks) fun b o e => Heap.get?_push_of_some _ e, turn_dT g3 hsz, ⟨_, Heap.get?_push_size _ rfl, rfl, rfl⟩, fun b hb => ?_, q⟩
  have e : b = s1.heap.objs.size := List.mem_singleton.mp hb
  subst e
  exact I1.fpOk (Nat.le_refl _) (I1.hok.fresh (Nat.le_refl _))
end L2
set_option Elab.async false
set_option linter.all false
set_option maxRecDepth 100000
set_option maxHeartbeats 4000000
namespace My
open PySem L2 FrM Led
noncomputable def IsPt (H : Hp) (x : En × Nat) (v : V) : Prop := ∃ t p, v = .ref t ∧ H t = some (.tup [.ref p, .int (x.2 : Nat)]) ∧ H p = some (.tup (enV x.1))
theorem IsPt.tu {H H' : Hp} {x : En × Nat} {v : V} (s : TupS H H') (h : IsPt H x v) : IsPt H' x v := let ⟨t, p, q, r, z⟩ := h; ⟨t, p, q, s _ _ r, s _ _ z⟩
noncomputable abbrev AllP (H : Hp) : List (En × Nat) → List V → Prop := PySem.Paired (IsPt H)
theorem AllP.tu {H H' : Hp} (s : TupS H H') : ∀ {es : List (En × Nat)} {xs : List V}, AllP H es xs → AllP H' es xs
  | _, _, .nil => .nil
  | _, _, .cons r t => .cons (r.tu s) (AllP.tu s t)
inductive spPath (vs : List V) (H : Hp) (Q : VK) (_E : XK) : Prop
  | mk (x : V) (db lu lw : Addr) (o : Obj) (l : En) (b : By) (S : List En) (ws : List Int) (us : List Un) (xs : List V) (i : Nat) (h0 : vs = [x, .ref db, .ref lu]) (h1 : IsE H l x) (h2 : H db = some (.frz o (.dT (dE (byL b))))) (h3 : Uw H lu lw us xs ws) (h4 : Tree us ws S b) (h5 : (keys b)[i]? = some l) (h6 : b.length ≤ 12) (h7 : ∀ L H' ps, Same H H' → H L = none → H' L = some (.lst ps) → AllP H' (pathTo us b b.length l []) ps → Q (.ref L) H') : spPath vs H Q _E
inductive spGiven (vs : List V) (H : Hp) (Q : VK) (_E : XK) : Prop
  | mk (lp lu lw : Addr) (most : Int) (P : List (En × Nat)) (ps : List V) (ws : List Int) (us : List Un) (xs : List V) (h0 : vs = [.ref lp, .int most, .ref lu, .ref lw]) (h1 : H lp = some (.lst ps)) (h2 : AllP H P ps) (h3 : Uw H lu lw us xs ws) (h4 : (∀ x ∈ P, x.2 < us.length)) (h5 : P.length ≤ 24) (h6 : ∀ L H', Same H H' → H L = none → H' L = some (.lst ((given (minL most (roomsF us ws P)) P ws).map V.int)) → Q (.ref L) H') : spGiven vs H Q _E
inductive spOn (vs : List V) (H : Hp) (Q : VK) (_E : XK) : Prop
  | mk (db : Addr) (o : Obj) (b : By) (s R : Nat) (h0 : vs = [.int (s : Nat), .ref db]) (h1 : H db = some (.frz o (.dT (dE (byL b))))) (h2 : (keys b).Nodup) (h3 : (∀ e ∈ keys b, e.1 = s → e.2 < R)) (h4 : b.length ≤ 12) (h5 : ∀ L H', Same H H' → H L = none → H' L = some (.lst ((onF b s R).map V.int)) → Q (.ref L) H') : spOn vs H Q _E
section
variable {P : Program} {w : World} {K : PySem.W.Frag} {mg : Str → Option Value} {base : Heap} {a : Ad}
theorem ok_path (T : Txt K mg a) : FnOk P w K mg base CX0 2 a.f_path_to a.d_path_to ["last", "by", "units"] spPath := by
  have G_other_end : FnOk P w K mg base CX0 1 _ _ _ spOther := ok_other T
  refine T.F_path_to.ok sc_path_to (fun vs H Q E h => ?_) (fun cdv A outer s H vs Q E hr h => ?_)
  · obtain ⟨x, db, lu, lw, o, l, b, S, ws, us, xs, i, rfl, _⟩ := h; rfl
  · obtain ⟨x, db, lu, lw, o, l, b, S, ws, us, xs, i, rfl, hl, hdb, hU, hT, hi, b12, q⟩ := h
    refine ⟨_, (pss_cons (ps_set (i := 3) sc_path_to.nd rfl (Or.inl rfl) (pe_lst pa_nil)) (pss_cons (ps_set (i := 4) sc_path_to.nd rfl (Or.inl rfl) (vr 0)) (pss_cons (ps_while PassesOwn.never (t_cmp o_isnot (pe_dget (hu_of hr) (vr 1) (vr 4) (fun _ _ => rfl)) pe_non (nomark _)) (pss_cons (ps_set (i := 5) sc_path_to.nd rfl (Or.inl rfl) (pe_dget (hu_of hr) (vr 1) (vr 4) (fun _ _ => rfl))) (pss_cons (ps_set (i := 4) sc_path_to.nd rfl (Or.inl rfl) (pe_call G_other_end hr rfl T.m_other_end T.F_other_end.kp T.B_other_end .nil pass0 (pa_cons (pe_ix ix_seq (vr 2) (vr 5) (fun _ _ => rfl)) (pa_cons (vr 4) pa_nil)))) (pss_one (ps_expr (pe_m.insert0 (vr 3) (pa_cons pe_int (pa_cons (pe_tup (pa_cons (vr 4) (pa_cons (vr 5) pa_nil))) pa_nil)))))))) (pss_one (ps_ret (vr 3)))))), ?_⟩
    have sl : sizeLine = 16777216 := sizeLine_eq
    have z2 : ∀ x y : V, [x, y].length ≤ sizeLine := fun x y => by rw [sl]; exact (by decide : 2 ≤ 16777216)
    have ilt : i < b.length := by have := (List.getElem?_eq_some_iff.mp hi).1; unfold keys at this; rw [List.length_map] at this; exact this
    refine ⟨Nat.zero_le _, fun L hL => ?_⟩
    have s0 := Same.new (o := .lst []) hL
    refine ⟨fun m σ H' => ∃ (e : En) (y : V) (acc : List (En × Nat)) (ps : List V) (n : Nat) (x5 : Option V), Wy us ws b m e l acc ∧ m < n ∧ pathTo us b n e acc = pathTo us b b.length l [] ∧ acc.length + m ≤ i ∧ Same H H' ∧ H' L = some (.lst ps) ∧ AllP H' acc ps ∧ IsE H' e y ∧ σ = [some x, some (.ref db), some (.ref lu), some (.ref L), some y, x5], ⟨i, l, x, [], [], b.length, none, Wy.first us ws (S := S) hi, ilt, rfl, by rw [List.length_nil]; lia, s0, upd_same, .nil, hl.tu s0.tu, rfl⟩, ?_⟩
    rintro m σ H1 ⟨e, y, acc, ps, n, x5, W, mn, ep, al, s1, hL1, hA, ⟨pe, rfl, hpe⟩, rfl⟩
    obtain ⟨r, hr'⟩ : ∃ r, look b e = some r := by
      have := look_some.mpr (List.mem_of_getElem? W.at_)
      cases hc : look b e with
      | none => rw [hc] at this; cases this
      | some r => exact ⟨r, rfl⟩
    refine ⟨db, oV r, rfl, .inr ⟨_, key e, pe, .inr ⟨o, s1 _ _ hdb⟩, rfl, hpe, by rw [val_by, hr']; rfl⟩, ?_⟩
    cases r with
    | none =>
      obtain ⟨n', rfl⟩ : ∃ n', n = n' + 1 := ⟨n - 1, by lia⟩
      have e0 : pathTo us b (n' + 1) e acc = acc := by rw [pathTo, hr']
      rw [e0] at ep
      rw [ep] at hA
      exact q L _ _ s1 hL hL1 hA
    | some p =>
      obtain ⟨hp, j, h, hj, ho, W'⟩ := W.back us ws hT hr'
      obtain ⟨n', rfl⟩ : ∃ n', n = n' + 1 := ⟨n - 1, by lia⟩
      have e0 : pathTo us b (n' + 1) e acc = pathTo us b n' h ((h, p) :: acc) := by rw [pathTo, hr']; simp only [ho]
      rw [e0] at ep
      refine ⟨fun σ H' => ∃ m', m' < m ∧ ∃ (e : En) (y : V) (acc : List (En × Nat)) (ps : List V) (n : Nat) (x5 : Option V), Wy us ws b m' e l acc ∧ m' < n ∧ pathTo us b n e acc = pathTo us b b.length l [] ∧ acc.length + m' ≤ i ∧ Same H H' ∧ H' L = some (.lst ps) ∧ AllP H' acc ps ∧ IsE H' e y ∧ σ = [some x, some (.ref db), some (.ref lu), some (.ref L), some y, x5], fun σ' H' h => h, ?_⟩
      refine ⟨db, oV (some p), rfl, .inr ⟨_, key e, pe, .inr ⟨o, s1 _ _ hdb⟩, rfl, hpe, by rw [val_by, hr']; rfl⟩, ?_⟩
      have hU1 := hU.same s1
      have xl : us.length = xs.length := Paired.length hU.all
      have hx : xs[p]? = some (xs[p]'(by lia)) := List.getElem?_eq_getElem (by lia)
      obtain ⟨u, hu, hUx⟩ := pget hU1.all hx
      rw [uAt_of hu] at ho
      refine .inl ⟨lu, _, _, _, rfl, rfl, SqL.of hU1.u, atI_nat hx, ?_⟩
      refine ⟨u, e, _, _, rfl, hUx, ⟨pe, rfl, hpe⟩, fun v H2 s2 hv => ?_⟩
      rw [ho] at hv
      obtain ⟨pv, rfl, hpv⟩ := (hv : IsE H2 h v)
      refine ⟨.inl ⟨rfl, _, SqL.of (s2 _ _ hL1)⟩, ?_⟩
      refine ⟨z2 _ _, fun t ht => ?_⟩
      have s3 := s2.trans (Same.new (o := .tup [.ref pv, .int (p : Nat)]) ht)
      have hL3 := s3 _ _ hL1
      have al' : acc.length = ps.length := Paired.length hA
      refine ⟨L, _, _, rfl, rfl, hL3, by lia, ?_⟩
      have u4 := tu_lst (o := .lst (.ref t :: ps)) hL3
      have hpv3 := (Same.new (o := .tup [.ref pv, .int (p : Nat)]) ht) _ _ hpv
      exact ⟨j, hj, h, .ref pv, (h, p) :: acc, .ref t :: ps, n', _, W', by lia, ep, by rw [List.length_cons]; lia, (s1.trans s3).put hL, upd_same, .cons ⟨t, pv, rfl, u4 _ _ upd_same, u4 _ _ hpv3⟩ (AllP.tu u4 (AllP.tu s3.tu hA)), ⟨pv, rfl, u4 _ _ hpv3⟩, rfl⟩
theorem ok_given (T : Txt K mg a) : FnOk P w K mg base CX0 2 a.f_given_along a.d_given_along ["path", "most", "units", "weights"] spGiven := by
  have G_room : FnOk P w K mg base CX0 1 _ _ _ spRoom := ok_room T
  refine T.F_given_along.ok sc_given_along (fun vs H Q E h => ?_) (fun cdv A outer s H vs Q E hr h => ?_)
  · obtain ⟨lp, lu, lw, most, P, ps, ws, us, xs, rfl, _⟩ := h; rfl
  · obtain ⟨lp, lu, lw, most, Pt, ps, ws, us, xs, rfl, hp, hA, hU, hb, p24, q⟩ := h
    refine ⟨_, (pss_cons (ps_set (i := 4) sc_given_along.nd rfl (Or.inl rfl) (pe_callB (call_minL rfl) rfl T.z_min bt_min (pa_cons (pe_op op_cat (pe_lst (pa_cons (vr 1) pa_nil)) (pe_comp rfl (N := ["end", "place", "units", "weights"]) (ix := [none, none, some 2, some 3]) ⟨rfl, rfl, rfl, rfl, ⟨rfl, rfl, rfl, ⟨rfl, rfl, rfl, trivial⟩⟩⟩ (pi_any (vr 0)) ⟨fun C s H fp => (pg_tupK (K := K) (n := 2) rfl rfl (pgs_cons (pg_name (i := 0) (show List.Nodup (["end", "place", "units", "weights"] : List Str) by decide +kernel) rfl (Or.inl rfl)) (pgs_cons (pg_name (i := 1) (show List.Nodup (["end", "place", "units", "weights"] : List Str) by decide +kernel) rfl (Or.inl rfl)) pgs_nil))), fun C s H fp => pts_nil, fun C s H fp => (pe_call G_room hr rfl T.m_room T.F_room.kp T.B_room .nil pass0 (pa_cons (pe_ix (ix_seqK (K := K) rfl) (vr 2) (vr 1) (fun _ _ => rfl)) (pa_cons (pe_ix (ix_seqK (K := K) rfl) (vr 3) (vr 1) (fun _ _ => rfl)) (pa_cons (vr 0) pa_nil))))⟩)) pa_nil))) (pss_cons (ps_set (i := 5) sc_given_along.nd rfl (Or.inl rfl) (pe_callTy call_list_of rfl T.z_list bt_list (pa_cons (vr 3) pa_nil))) (pss_cons (ps_for PassesOwn.never rfl (pi_any (vr 0)) (pg_tup rfl (pgs_cons (pg_name (i := 6) sc_given_along.nd rfl (Or.inl rfl)) (pgs_cons (pg_name (i := 7) sc_given_along.nd rfl (Or.inl rfl)) pgs_nil))) (pss_one (ps_augS (vr 5) (vr 7) get_list (pe_ifExp (t_cmp o_eq (pe_ix ix_seq (vr 6) pe_int (fun _ _ => rfl)) pe_int (nomark _)) (vr 4) (pe_un u_neg (vr 4))) ip_add set_list))) (pss_one (ps_ret (vr 5)))))), ?_⟩
    have sl : sizeLine = 16777216 := sizeLine_eq
    have xl : us.length = xs.length := Paired.length hU.all
    have pl : Pt.length = ps.length := Paired.length hA
    refine ⟨Nat.le_of_lt (by rw [sl]; exact (by decide : 1 < 16777216)), fun l1 hl1 => ?_⟩
    have s0 := Same.new (o := .lst [.int most]) hl1
    refine .inl ⟨⟨_, SqL.of (s0 _ _ hp)⟩, fun D hD => ?_⟩
    have s0D := s0.trans (Same.new (o := .lst []) hD)
    have hD0 : H D = none := by
      cases hh : H D with
      | none => rfl
      | some o => rw [s0 _ _ hh] at hD; cases hD
    have nD : l1 ≠ D := fun z => by rw [← z, upd_same] at hD; cases hD
    refine comp_list (K := K) (a := lp) (xs := ps) (fun j ys H' => j ≤ ps.length ∧ Same H H' ∧ H' l1 = some (.lst [.int most]) ∧ H' D = some (.lst ys) ∧ ys = (roomsF us ws (Pt.take j)).map V.int) ⟨Nat.zero_le _, s0D, by rw [upd_ne nD]; exact upd_same, upd_same, rfl⟩ (fun j ys H' h' => SqL.of (h'.2.1 _ _ hp)) (fun j ys H' h' => h'.2.2.2.1) ?_ ?_
    · rintro j y ys H' P' hy ⟨hj, s1, h1, hD1, rfl⟩ hP
      have hlt : j < ps.length := (List.getElem?_eq_some_iff.mp hy).1
      obtain ⟨x, hx, hPt⟩ := pget hA hy
      obtain ⟨t, pe, rfl, ht, hpe⟩ := hPt.tu s1.tu
      have xlt := hb x (List.mem_of_getElem? hx)
      have hU1 := hU.same s1
      have hxu : xs[x.2]? = some (xs[x.2]'(by lia)) := List.getElem?_eq_getElem (by lia)
      obtain ⟨u, hu, hUx⟩ := pget hU1.all hxu
      refine ⟨t, _, rfl, SqT.of ht, rfl, _, _, rfl, _, _, rfl, rfl, ⟨rfl, rfl, trivial⟩, ?_⟩
      refine .inl ⟨lu, _, _, _, rfl, rfl, SqL.of hU1.u, atI_nat hxu, ?_⟩
      refine .inl ⟨lw, _, _, _, rfl, rfl, SqL.of hU1.w, ints_at (List.getElem?_eq_getElem (by rw [hU.len]; exact xlt)), ?_⟩
      refine ⟨u, x.1, _, _, _, rfl, hUx, ⟨pe, rfl, hpe⟩, hD1, by unfold roomsF; rw [List.length_map, List.length_map, List.length_take]; lia, hP _ _ ⟨hlt, s1.put hD0, by rw [upd_ne nD]; exact h1, upd_same, ?_⟩⟩
      have tk : Pt.take (j + 1) = Pt.take j ++ [x] := by rw [List.take_add_one, hx]; rfl
      rw [tk]
      unfold roomsF
      rw [List.map_append, List.map_append]
      show _ = _ ++ [V.int (room (uAt us x.2) (wAt ws x.2) x.1)]
      rw [uAt_of hu, wAt_of (List.getElem?_eq_getElem (by rw [hU.len]; exact xlt))]
    rintro ys H1 ⟨_, s1, h1, hD1, rfl⟩
    rw [← pl, List.take_of_length_le (Nat.le_refl _)] at hD1
    refine ⟨l1, D, _, _, rfl, rfl, h1, hD1, by unfold roomsF; rw [List.length_map, List.length_map]; show 1 + _ ≤ _; lia, fun l2 hl2 => ?_⟩
    have s2 := s1.trans (Same.new (o := .lst ([.int most] ++ (roomsF us ws Pt).map V.int)) hl2)
    refine ⟨l2, most :: roomsF us ws Pt, rfl, SqL.of upd_same, by rw [List.length_cons]; lia, fun m hm hle => ?_⟩
    rw [minL_uniq hm hle]
    have hU2 := hU.same s2
    refine ⟨lw, _, rfl, .inl (SqL.of hU2.w), fun l3 hl3 => ?_⟩
    have s3 := s2.trans (Same.new (o := .lst (ws.map V.int)) hl3)
    have hl30 : H l3 = none := by
      cases hh : H l3 with
      | none => rfl
      | some o => rw [s2 _ _ hh] at hl3; cases hl3
    refine .inl ⟨⟨_, SqL.of (s3 _ _ hp)⟩, ?_⟩
    refine for_list (K := K) (a := lp) (xs := ps) (fun i σ H' => Same H H' ∧ H' l3 = some (.lst ((given (minL most (roomsF us ws Pt)) (Pt.take i) ws).map V.int)) ∧ ∃ (x6 x7 : Option V), σ = [some (.ref lp), some (.int most), some (.ref lu), some (.ref lw), some (.int (minL most (roomsF us ws Pt))), some (.ref l3), x6, x7]) ⟨s3, upd_same, none, none, rfl⟩ (fun i σ H' _ h => SqL.of (h.1 _ _ hp)) ?_ ?_
    · rintro i x σ H4 hx ⟨s4, h4, x6, x7, rfl⟩
      obtain ⟨z, hz, hPt⟩ := pget hA hx
      obtain ⟨t, pe, rfl, ht, hpe⟩ := hPt.tu s4.tu
      have zlt := hb z (List.mem_of_getElem? hz)
      refine ⟨t, _, rfl, SqT.of ht, rfl, _, _, rfl, _, _, rfl, rfl, ?_⟩
      have gl : (given (minL most (roomsF us ws Pt)) (Pt.take i) ws).length = us.length := by rw [given_len, hU.len]
      have tk : Pt.take (i + 1) = Pt.take i ++ [z] := by rw [List.take_add_one, hz]; rfl
      have ez : given (minL most (roomsF us ws Pt)) (Pt.take (i + 1)) ws = give (minL most (roomsF us ws Pt)) (given (minL most (roomsF us ws Pt)) (Pt.take i) ws) z := by
        rw [tk]; unfold given; rw [List.foldl_append]; rfl
      rw [ez]
      generalize given (minL most (roomsF us ws Pt)) (Pt.take i) ws = gs at h4 gl
      have eg : gs[z.2]? = some (wAt gs z.2) := by rw [wAt_of (List.getElem?_eq_getElem (by lia))]; exact List.getElem?_eq_getElem (by lia)
      refine ⟨l3, _, _, _, rfl, rfl, SqL.of h4, by (exact Int.natCast_nonneg _), ints_at eg, ?_⟩
      refine .inr (.inl ⟨pe, _, _, _, rfl, rfl, SqT.of hpe, atI_cons 0 rfl rfl, ?_⟩)
      unfold give
      refine ifC (fun c => ?_) fun c => ?_
      · rw [if_pos (by lia)]
        refine ⟨_, _, rfl, rfl, l3, _, _, _, rfl, rfl, h4, ixN_nat (by rw [List.length_map, gl]; exact zlt), ?_⟩
        refine ⟨s4.put hl30, ?_, _, _, rfl⟩
        rw [upd_same, List.map_set]
      · rw [if_neg (by lia)]
        refine ⟨_, _, rfl, rfl, l3, _, _, _, rfl, rfl, h4, ixN_nat (by rw [List.length_map, gl]; exact zlt), ?_⟩
        refine ⟨s4.put hl30, ?_, _, _, rfl⟩
        rw [upd_same, List.map_set]
    · rintro σ H4 ⟨s4, h4, x6, x7, rfl⟩
      rw [← pl, List.take_of_length_le (Nat.le_refl _)] at h4
      exact q l3 _ s4 hl30 h4
theorem ok_on (T : Txt K mg a) : FnOk P w K mg base CX0 1 a.f_reached_on a.d_reached_on ["side", "by"] spOn := by
  refine T.F_reached_on.ok sc_reached_on (fun vs H Q E h => ?_) (fun cdv A outer s H vs Q E hr h => ?_)
  · obtain ⟨db, o, b, s, R, rfl, _⟩ := h; rfl
  · obtain ⟨db, o, b, sn, R, rfl, hdb, nd, hR, b12, q⟩ := h
    refine ⟨_, (pss_one (ps_ret (pe_callB call_sortedI rfl T.z_sorted bt_sorted (pa_cons (pe_comp rfl (N := ["end", "side"]) (ix := [none, some 0]) ⟨rfl, rfl, rfl, rfl, ⟨rfl, rfl, rfl, trivial⟩⟩ (pi_dF (vr 1)) ⟨fun C s H fp => pg_name (i := 0) (show List.Nodup (["end", "side"] : List Str) by decide +kernel) rfl (Or.inl rfl), fun C s H fp => pts_one (t_cmp o_eq (pe_ix (ix_seqK (K := K) rfl) (vr 0) pe_int (fun _ _ => rfl)) (vr 1) (nomark _)), fun C s H fp => (pe_ix (ix_seqK (K := K) rfl) (vr 0) pe_int (fun _ _ => rfl))⟩) pa_nil)))), ?_⟩
    have sl : sizeLine = 16777216 := sizeLine_eq
    refine ⟨db, o, _, rfl, hdb, fun D hD => ?_⟩
    have nD : db ≠ D := fun z => by rw [← z, hdb] at hD; cases hD
    have kl : (keys b).length = b.length := by unfold keys; rw [List.length_map]
    have dl : (dE (byL b)).length = b.length := by rw [dE_len]; unfold byL; rw [List.length_map]
    refine comp_dT (d := db) (o := o) (kvs := dE (byL b)) (fun j ys H' => j ≤ b.length ∧ Same H H' ∧ H' D = some (.lst ys) ∧ ys = (((((keys b).take j).filter fun e => decide (e.1 = sn)).map fun e => (e.2 : Int))).map V.int) ⟨Nat.zero_le _, Same.new hD, upd_same, rfl⟩ (fun j ys H' h => h.2.1 _ _ hdb) (fun j ys H' h => h.2.2.1) ?_ ?_
    · rintro j kv p ys H' P' hkv hp ⟨hj, s1, hD1, rfl⟩ hP
      obtain ⟨e, he, ek⟩ : ∃ e, (keys b)[j]? = some e ∧ kv.1 = key e := by
        unfold dE byL at hkv
        rw [List.getElem?_map, List.getElem?_map] at hkv
        cases hc : b[j]? with
        | none => rw [hc] at hkv; cases hkv
        | some x => rw [hc] at hkv; cases hkv; exact ⟨x.1, by unfold keys; rw [List.getElem?_map, hc]; rfl, rfl⟩
      rw [ek] at hp
      have hp' : H' p = some (.tup (enV e)) := hp
      have jlt : j < b.length := by have := (List.getElem?_eq_some_iff.mp he).1; lia
      have tk : (keys b).take (j + 1) = (keys b).take j ++ [e] := by rw [List.take_add_one, he]; rfl
      rw [tk, List.filter_append] at hP
      have fl : (((keys b).take j).filter fun e => decide (e.1 = sn)).length ≤ j := Nat.le_trans (List.length_filter_le ..) (by rw [List.length_take]; lia)
      refine ⟨⟨rfl, trivial⟩, ?_⟩
      refine .inr (.inl ⟨p, _, _, _, rfl, rfl, SqT.of hp', atI_cons 0 rfl rfl, ifC (fun c => ?_) fun c => ?_⟩)
      · have c' : e.1 = sn := by lia
        refine .inr (.inl ⟨p, _, _, _, rfl, rfl, SqT.of hp', atI_cons 1 rfl rfl, hD1, by rw [List.length_map, List.length_map]; lia, hP _ _ ⟨jlt, s1.put hD, upd_same, ?_⟩⟩)
        rw [List.filter_cons_of_pos (p := fun e : En => decide (e.1 = sn)) (decide_eq_true c'), List.map_append, List.map_append]
        rfl
      · have c' : ¬ e.1 = sn := by lia
        refine hP _ _ ⟨jlt, s1, hD1, ?_⟩
        rw [List.filter_cons_of_neg (p := fun e : En => decide (e.1 = sn)) (fun z => c' (of_decide_eq_true z)), List.filter_nil, List.append_nil]
    rintro ys H1 ⟨_, s1, hD1, rfl⟩
    rw [dl, ← kl, List.take_of_length_le (Nat.le_refl _)] at hD1
    have fl : ((keys b).filter fun e => decide (e.1 = sn)).length ≤ 12 := Nat.le_trans (List.length_filter_le ..) (by lia)
    refine ⟨D, _, rfl, SqL.of hD1, by rw [List.length_map]; (exact Nat.lt_of_le_of_lt (by assumption) (by decide)), fun L ns hperm hsort hL => ?_⟩
    have hL0 : H L = none := by
      cases hh : H L with
      | none => rfl
      | some o => rw [s1 _ _ hh] at hL; cases hL
    refine q L _ (s1.trans (Same.new hL)) hL0 ?_
    rw [upd_same, on_sorted nd hR hperm hsort]
end
end My
set_option Elab.async false
set_option linter.all false
set_option maxRecDepth 100000
set_option maxHeartbeats 4000000
namespace My
open PySem L2 FrM Led
theorem Same.free {H H' : Hp} (s : Same H H') {l : Addr} (h : H' l = none) : H l = none := by
  cases hh : H l with
  | none => rfl
  | some o => rw [s _ _ hh] at h; cases h
noncomputable def wordS (ov : Bool) : Str := if ov then "over" else "under"
noncomputable def IsT (H H' : Hp) (t : Told) (x : V) : Prop := match t with
  | .ws w => ∃ p l, x = .ref p ∧ H' p = some (.tup [.str "weights", .ref l]) ∧ H' l = some (.lst (w.map V.int)) ∧ H l = none
  | .no ov so ot => ∃ p l1 l2, x = .ref p ∧ H' p = some (.tup [.str "none", .str (wordS ov), .ref l1, .ref l2]) ∧ H' l1 = some (.lst (so.map V.int)) ∧ H' l2 = some (.lst (ot.map V.int)) ∧ H l1 = none ∧ H l2 = none ∧ l1 ≠ l2
inductive spLed (a : Ad) (vs : List V) (H : Hp) (Q : VK) (_E : XK) : Prop
  | mk (lr lc lu : Addr) (rows cols : List Int) (us : List Un) (xs : List V) (h0 : vs = [.ref lr, .ref lc, .ref lu]) (h1 : In H lr lc lu rows cols us xs) (h2 : TabsOk (tabs a) H) (h3 : ∀ x H', SameT H H' → TabsOk (tabs a) H' → IsT H H' (ledF us rows cols rows.length cols.length) x → Q x H') : spLed a vs H Q _E
theorem In.okU {H : Hp} {lr lc lu : Addr} {rows cols : List Int} {us : List Un} {xs : List V} (h : In H lr lc lu rows cols us xs) : OkU us rows.length cols.length := fun p hp => by
  have e : uAt us p = us[p] := uAt_of (List.getElem?_eq_getElem hp)
  rw [e]
  obtain ⟨h1, h2, _, h3, _⟩ := h.ok _ (List.getElem_mem hp)
  exact ⟨h1, h2, h3⟩
theorem path_len {us : List Un} {ws : List Int} {P : List (En × Nat)} {s e : En} (hP : IsP us ws P s e) (nd : (P.map (·.1) ++ [e]).Nodup) : P.length ≤ us.length := by
  have h1 := isP_once us ws hP nd
  have h2 : ((P.map (·.2)).map fun i => ((0, i) : En)).Nodup := List.pairwise_map.mpr (List.Pairwise.imp (fun h z => h (Prod.mk.inj z).2) h1)
  have := nodup_len (m := ends us.length 0) h2 fun x hx => by
    obtain ⟨i, hi, rfl⟩ := List.mem_map.mp hx
    obtain ⟨y, hy, rfl⟩ := List.mem_map.mp hi
    exact ends_mem.mpr (.inl ⟨rfl, (isP_ends us ws hP y hy).2.1⟩)
  rw [ends_len, List.length_map, List.length_map] at this
  (assumption)
theorem take_snoc {α : Type} {l : List α} {i : Nat} {x : α} (h : l[i]? = some x) : l.take (i + 1) = l.take i ++ [x] := by rw [List.take_add_one, h]; rfl
section
variable {P : Program} {w : World} {K : PySem.W.Frag} {mg : Str → Option Value} {base : Heap} {a : Ad}
theorem ok_led (T : Txt K mg a) (hB : Bm mg base) : FnOk P w K mg base CX0 6 a.f_led a.d_led ["rows", "columns", "units"] (spLed a) := by
  have G_need_bounds : FnOk P w K mg base CX0 5 _ _ _ (spNeed a) := ok_need T hB
  have G_spare_of : FnOk P w K mg base CX0 5 _ _ _ spSpare := (ok_spare T).mono (by decide)
  have G_reached_from : FnOk P w K mg base CX0 5 _ _ _ spReach := (ok_reach T).mono (by decide)
  have G_path_to : FnOk P w K mg base CX0 5 _ _ _ spPath := (ok_path T).mono (by decide)
  have G_given_along : FnOk P w K mg base CX0 5 _ _ _ spGiven := (ok_given T).mono (by decide)
  have G_reached_on : FnOk P w K mg base CX0 5 _ _ _ spOn := (ok_on T).mono (by decide)
  refine T.F_led.ok sc_led (fun vs H Q E h => ?_) (fun cdv A outer s H vs Q E hr h => ?_)
  · obtain ⟨lr, lc, lu, rows, cols, us, xs, rfl, _⟩ := h; rfl
  · obtain ⟨lr, lc, lu, rows, cols, us, xs, rfl, hI, hT, q⟩ := h
    refine ⟨_, (pss_cons (ps_expr (pe_call G_need_bounds hr rfl T.m_need_bounds T.F_need_bounds.kp T.B_need_bounds .nil pass0 (pa_cons (vr 0) (pa_cons (vr 1) (pa_cons (vr 2) pa_nil))))) (pss_cons (ps_if (t_cmp o_ne (pe_callB (call_sumI rfl) rfl T.z_sum bt_sum (pa_cons (vr 0) pa_nil)) (pe_callB (call_sumI rfl) rfl T.z_sum bt_sum (pa_cons (vr 1) pa_nil)) (nomark _)) (pss_cons (ps_set (i := 3) sc_led.nd rfl (Or.inl rfl) (pe_ifExp (t_cmp o_gt (pe_callB (call_sumI rfl) rfl T.z_sum bt_sum (pa_cons (vr 0) pa_nil)) (pe_callB (call_sumI rfl) rfl T.z_sum bt_sum (pa_cons (vr 1) pa_nil)) (nomark _)) pe_str pe_str)) (pss_one (ps_ret (pe_tup (pa_cons pe_str (pa_cons (vr 3) (pa_cons (pe_callTy (call_lstRngN rfl) rfl T.z_list bt_list (pa_cons (pe_callTy call_rng1 rfl T.z_range bt_range (pa_cons (pe_callB call_lenM rfl T.z_len bt_len (pa_cons (vr 0) pa_nil)) pa_nil)) pa_nil)) (pa_cons (pe_callTy (call_lstRngN rfl) rfl T.z_list bt_list (pa_cons (pe_callTy call_rng1 rfl T.z_range bt_range (pa_cons (pe_callB call_lenM rfl T.z_len bt_len (pa_cons (vr 1) pa_nil)) pa_nil)) pa_nil)) pa_nil)))))))) pss_nil) (pss_cons (ps_setC rfl (i := 4) sc_led.nd rfl rfl (by with_unfolding_all rfl) (N := ["row", "column", "low", "high"]) (ix := [none, none, none, none]) ⟨rfl, rfl, rfl, rfl, trivial⟩ (pi_any (vr 2)) ⟨fun C s H fp => (pg_tupK (K := K) (n := 4) rfl rfl (pgs_cons (pg_name (i := 0) (show List.Nodup (["row", "column", "low", "high"] : List Str) by decide +kernel) rfl (Or.inl rfl)) (pgs_cons (pg_name (i := 1) (show List.Nodup (["row", "column", "low", "high"] : List Str) by decide +kernel) rfl (Or.inl rfl)) (pgs_cons (pg_name (i := 2) (show List.Nodup (["row", "column", "low", "high"] : List Str) by decide +kernel) rfl (Or.inl rfl)) (pgs_cons (pg_name (i := 3) (show List.Nodup (["row", "column", "low", "high"] : List Str) by decide +kernel) rfl (Or.inl rfl)) pgs_nil))))), fun C s H fp => pts_nil, fun C s H fp => (vr 2)⟩) (pss_cons (ps_while PassesOwn.never (t_val pe_bl) (pss_cons (ps_set (i := 5) sc_led.nd rfl (Or.inr rfl) (pe_call G_spare_of hr rfl T.m_spare_of T.F_spare_of.kp T.B_spare_of .nil pass0 (pa_cons (vr 0) (pa_cons (vr 1) (pa_cons (vr 2) (pa_cons (vr 4) pa_nil)))))) (pss_cons (ps_set (i := 6) sc_led.nd rfl (Or.inl rfl) (pe_call G_reached_from hr rfl T.m_reached_from T.F_reached_from.kp T.B_reached_from .nil pass0 (pa_cons (pe_comp rfl (N := ["end", "spare"]) (ix := [none, some 5]) ⟨rfl, rfl, rfl, rfl, ⟨rfl, rfl, rfl, trivial⟩⟩ (pi_dT (vr 5)) ⟨fun C s H fp => pg_name (i := 0) (show List.Nodup (["end", "spare"] : List Str) by decide +kernel) rfl (Or.inl rfl), fun C s H fp => pts_one (t_cmp o_gt (pe_dget (hu_of hr) (vr 1) (vr 0) (fun _ _ => rfl)) pe_int (nomark _)), fun C s H fp => (vr 0)⟩) (pa_cons (vr 2) (pa_cons (vr 4) pa_nil))))) (pss_cons (ps_setC rfl (i := 7) sc_led.nd rfl rfl (by with_unfolding_all rfl) (N := ["end", "spare"]) (ix := [none, some 5]) ⟨rfl, rfl, rfl, rfl, ⟨rfl, rfl, rfl, trivial⟩⟩ (pi_dT (vr 6)) ⟨fun C s H fp => pg_name (i := 0) (show List.Nodup (["end", "spare"] : List Str) by decide +kernel) rfl (Or.inl rfl), fun C s H fp => pts_one (t_cmp o_lt (pe_dget (hu_of hr) (vr 1) (vr 0) (fun _ _ => rfl)) pe_int (nomark _)), fun C s H fp => (vr 0)⟩) (pss_cons (ps_if (pt_not (pt_truth (vr 7) (fun _ => rfl))) (pss_one ps_break) pss_nil) (pss_cons (ps_set (i := 8) sc_led.nd rfl (Or.inl rfl) (pe_call G_path_to hr rfl T.m_path_to T.F_path_to.kp T.B_path_to .nil pass0 (pa_cons (pe_ix ix_seq (vr 7) pe_int (fun _ _ => rfl)) (pa_cons (vr 6) (pa_cons (vr 2) pa_nil))))) (pss_one (ps_set (i := 4) sc_led.nd rfl (Or.inl rfl) (pe_call G_given_along hr rfl T.m_given_along T.F_given_along.kp T.B_given_along .nil pass0 (pa_cons (vr 8) (pa_cons (pe_callB (call_min2 rfl) rfl T.z_min bt_min (pa_cons (pe_dget (hu_of hr) (vr 5) (pe_ix ix_seq (pe_ix ix_seq (vr 8) pe_int (fun _ _ => rfl)) pe_int (fun _ _ => rfl)) (fun _ _ => rfl)) (pa_cons (pe_un u_neg (pe_dget (hu_of hr) (vr 5) (pe_ix ix_seq (vr 7) pe_int (fun _ _ => rfl)) (fun _ _ => rfl))) pa_nil))) (pa_cons (vr 2) (pa_cons (vr 4) pa_nil))))))))))))) (pss_cons (ps_if (pt_truthD (vr 6) (fun _ => rfl)) (pss_one (ps_ret (pe_tup (pa_cons pe_str (pa_cons pe_str (pa_cons (pe_call G_reached_on hr rfl T.m_reached_on T.F_reached_on.kp T.B_reached_on .nil pass0 (pa_cons pe_int (pa_cons (vr 6) pa_nil))) (pa_cons (pe_call G_reached_on hr rfl T.m_reached_on T.F_reached_on.kp T.B_reached_on .nil pass0 (pa_cons pe_int (pa_cons (vr 6) pa_nil))) pa_nil))))))) pss_nil) (pss_one (ps_ret (pe_tup (pa_cons pe_str (pa_cons (vr 4) pa_nil)))))))))), ?_⟩
    have sl : sizeLine = 16777216 := sizeLine_eq
    have r6 := hI.rs.1
    have c6 := hI.cs.1
    have okU := hI.okU
    have n24 := hI.n
    refine ⟨lr, lc, lu, rows, cols, us, xs, rfl, hI, hT, fun H1 t1 hT1 => ?_⟩
    have hI1 := hI.t t1
    have xl : us.length = xs.length := Paired.length hI.all
    refine ⟨lr, rows, rfl, SqL.of hI1.r, lc, cols, rfl, SqL.of hI1.c, ?_⟩
    refine ite2 (fun c' => ?_) fun c' => ?_
    · have c : ¬ rows.sum = cols.sum := by simpa using c'
      refine ⟨lr, rows, rfl, SqL.of hI1.r, lc, cols, rfl, SqL.of hI1.c, ?_⟩
      refine ifC (fun c2 => ?_) fun c2 => ?_
      · refine ⟨_, .inl (SqL.of hI1.r), _, rfl, fun p1 hp1 => ?_⟩
        have s2 := Same.new (o := .rng 0 ((rows.map V.int).length : Nat)) hp1
        refine ⟨p1, (rows.map V.int).length, rfl, by rw [List.length_map]; (exact Nat.le_trans (by assumption) (by decide)), upd_same, fun l1 hl1 => ?_⟩
        have s3 := s2.trans (Same.new (o := .lst ((List.range (rows.map V.int).length).map fun (i : Nat) => V.int (i : Int))) hl1)
        refine ⟨_, .inl (SqL.of (s3 _ _ hI1.c)), _, rfl, fun p2 hp2 => ?_⟩
        have s4 := s3.trans (Same.new (o := .rng 0 ((cols.map V.int).length : Nat)) hp2)
        refine ⟨p2, (cols.map V.int).length, rfl, by rw [List.length_map]; (exact Nat.le_trans (by assumption) (by decide)), upd_same, fun l2 hl2 => ?_⟩
        have s5 := s4.trans (Same.new (o := .lst ((List.range (cols.map V.int).length).map fun (i : Nat) => V.int (i : Int))) hl2)
        have a2 := (Same.new (o := .rng 0 ((cols.map V.int).length : Nat)) hp2).trans (Same.new (o := .lst ((List.range (cols.map V.int).length).map fun (i : Nat) => V.int (i : Int))) hl2)
        refine ⟨by show 4 ≤ sizeLine; (decide), fun t ht => ?_⟩
        have s6 := Same.new (o := .tup [.str "none", .str "over", .ref l1, .ref l2]) ht
        have e1 := s6 _ _ (a2 _ _ (upd_same (a := l1) (o := .lst ((List.range (rows.map V.int).length).map fun (i : Nat) => V.int (i : Int)))))
        have e2 := s6 _ _ (upd_same (a := l2) (o := .lst ((List.range (cols.map V.int).length).map fun (i : Nat) => V.int (i : Int))))
        have f1 := s2.free hl1
        have f2 := s4.free hl2
        have h0 := (Same.new (o := .rng 0 ((cols.map V.int).length : Nat)) hp2) _ _ (upd_same (a := l1) (o := .lst ((List.range (rows.map V.int).length).map fun (i : Nat) => V.int (i : Int))))
        have n12 : l1 ≠ l2 := fun z => by rw [← z, h0] at hl2; cases hl2
        refine q _ _ (t1.trans (s5.trans s6).t) (hT1.same (s5.trans s6)) ?_
        unfold ledF
        rw [if_neg c, decide_eq_true c2]
        refine ⟨t, l1, l2, rfl, upd_same, ?_, ?_, t1.free f1, t1.free f2, n12⟩
        · rw [e1, List.length_map]; unfold upto; rw [List.map_map]; rfl
        · rw [e2, List.length_map]; unfold upto; rw [List.map_map]; rfl
      · refine ⟨_, .inl (SqL.of hI1.r), _, rfl, fun p1 hp1 => ?_⟩
        have s2 := Same.new (o := .rng 0 ((rows.map V.int).length : Nat)) hp1
        refine ⟨p1, (rows.map V.int).length, rfl, by rw [List.length_map]; (exact Nat.le_trans (by assumption) (by decide)), upd_same, fun l1 hl1 => ?_⟩
        have s3 := s2.trans (Same.new (o := .lst ((List.range (rows.map V.int).length).map fun (i : Nat) => V.int (i : Int))) hl1)
        refine ⟨_, .inl (SqL.of (s3 _ _ hI1.c)), _, rfl, fun p2 hp2 => ?_⟩
        have s4 := s3.trans (Same.new (o := .rng 0 ((cols.map V.int).length : Nat)) hp2)
        refine ⟨p2, (cols.map V.int).length, rfl, by rw [List.length_map]; (exact Nat.le_trans (by assumption) (by decide)), upd_same, fun l2 hl2 => ?_⟩
        have s5 := s4.trans (Same.new (o := .lst ((List.range (cols.map V.int).length).map fun (i : Nat) => V.int (i : Int))) hl2)
        have a2 := (Same.new (o := .rng 0 ((cols.map V.int).length : Nat)) hp2).trans (Same.new (o := .lst ((List.range (cols.map V.int).length).map fun (i : Nat) => V.int (i : Int))) hl2)
        refine ⟨by show 4 ≤ sizeLine; (decide), fun t ht => ?_⟩
        have s6 := Same.new (o := .tup [.str "none", .str "under", .ref l1, .ref l2]) ht
        have e1 := s6 _ _ (a2 _ _ (upd_same (a := l1) (o := .lst ((List.range (rows.map V.int).length).map fun (i : Nat) => V.int (i : Int)))))
        have e2 := s6 _ _ (upd_same (a := l2) (o := .lst ((List.range (cols.map V.int).length).map fun (i : Nat) => V.int (i : Int))))
        have f1 := s2.free hl1
        have f2 := s4.free hl2
        have h0 := (Same.new (o := .rng 0 ((cols.map V.int).length : Nat)) hp2) _ _ (upd_same (a := l1) (o := .lst ((List.range (rows.map V.int).length).map fun (i : Nat) => V.int (i : Int))))
        have n12 : l1 ≠ l2 := fun z => by rw [← z, h0] at hl2; cases hl2
        refine q _ _ (t1.trans (s5.trans s6).t) (hT1.same (s5.trans s6)) ?_
        unfold ledF
        rw [if_neg c, decide_eq_false c2]
        refine ⟨t, l1, l2, rfl, upd_same, ?_, ?_, t1.free f1, t1.free f2, n12⟩
        · rw [e1, List.length_map]; unfold upto; rw [List.map_map]; rfl
        · rw [e2, List.length_map]; unfold upto; rw [List.map_map]; rfl
    · have cs : rows.sum = cols.sum := by simpa using c'
      refine .inl ⟨⟨_, SqL.of hI1.u⟩, fun D hD => ?_⟩
      refine comp_list (K := K) (a := lu) (xs := xs) (fun j ys H' => j ≤ xs.length ∧ Same H1 H' ∧ H' D = some (.lst ys) ∧ ys = (lows (us.take j)).map V.int) ⟨Nat.zero_le _, Same.new hD, upd_same, rfl⟩ (fun j ys H' h' => SqL.of (h'.2.1 _ _ hI1.u)) (fun j ys H' h' => h'.2.2.1) ?_ ?_
      · rintro j y ys H' P' hy ⟨hj, s1, hD1, rfl⟩ hP
        have hlt : j < xs.length := (List.getElem?_eq_some_iff.mp hy).1
        obtain ⟨u, hu, hU⟩ := pget hI1.all hy
        obtain ⟨p, rfl, hp⟩ := hU.tu s1.tu
        refine ⟨p, _, rfl, SqT.of hp, rfl, _, _, rfl, _, _, rfl, _, _, rfl, _, _, rfl, rfl, trivial, hD1, by unfold lows; rw [List.length_map, List.length_map, List.length_take]; lia, hP _ _ ⟨hlt, s1.put hD, upd_same, ?_⟩⟩
        rw [take_snoc hu]
        unfold lows
        rw [List.map_append, List.map_append]
        rfl
      rintro ys H2 ⟨_, s2, hD2, rfl⟩
      rw [← xl, List.take_of_length_le (Nat.le_refl _)] at hD2
      have eled : ledF us rows cols rows.length cols.length = loopF us rows cols rows.length cols.length ((mS us (lows us) rows cols rows.length cols.length).toNat + 1) (lows us) := if_pos cs
      rw [eled] at q
      obtain ⟨told, etold⟩ : ∃ told, loopF us rows cols rows.length cols.length ((mS us (lows us) rows cols rows.length cols.length).toNat + 1) (lows us) = told := ⟨_, rfl⟩
      rw [etold] at q
      refine ⟨fun m σ H' => ∃ (ws : List Int) (lw : Addr) (n : Nat) (x3 x5 x6 x7 x8 : Option V), m = (mS us ws rows cols rows.length cols.length).toNat ∧ Wi us ws ∧ m < n ∧ loopF us rows cols rows.length cols.length n ws = told ∧ Same H1 H' ∧ H' lw = some (.lst (ws.map V.int)) ∧ H1 lw = none ∧ σ = [some (.ref lr), some (.ref lc), some (.ref lu), x3, some (.ref lw), x5, x6, x7, x8], ⟨_, lows us, D, _, none, none, none, none, none, rfl, lows_wi okU, Nat.lt_succ_self _, etold, s2, hD2, hD, rfl⟩, ?_⟩
      rintro m σ H3 ⟨ws, lw, n, x3, x5, x6, x7, x8, rfl, hW, mn, el, s3, h3, f3, rfl⟩
      refine ⟨fun σ H' => ∃ m', m' < (mS us ws rows cols rows.length cols.length).toNat ∧ ∃ (ws : List Int) (lw : Addr) (n : Nat) (x3 x5 x6 x7 x8 : Option V), m' = (mS us ws rows cols rows.length cols.length).toNat ∧ Wi us ws ∧ m' < n ∧ loopF us rows cols rows.length cols.length n ws = told ∧ Same H1 H' ∧ H' lw = some (.lst (ws.map V.int)) ∧ H1 lw = none ∧ σ = [some (.ref lr), some (.ref lc), some (.ref lu), x3, some (.ref lw), x5, x6, x7, x8], fun σ' H' h => h, ?_⟩
      obtain ⟨n', rfl⟩ : ∃ n', n = n' + 1 := ⟨n - 1, by lia⟩
      refine ⟨lr, lc, lu, lw, rows, cols, ws, us, xs, rfl, hI1.same s3, h3, hW.len, fun Ds H4 s4 f4 h4 => ?_⟩
      refine ⟨Ds, _, rfl, .inl h4, fun o D1 hD1 => ?_⟩
      have s5 : Same H3 (upd H4 Ds (.frz o (.dT (dE (spE us rows cols ws rows.length cols.length))))) := s4.put f4
      have h5 : (upd H4 Ds (.frz o (.dT (dE (spE us rows cols ws rows.length cols.length))))) Ds = _ := upd_same
      generalize upd H4 Ds (.frz o (.dT (dE (spE us rows cols ws rows.length cols.length)))) = H5 at s5 h5 hD1
      have el1 := ends_len rows.length cols.length
      have dl1 : (dE (spE us rows cols ws rows.length cols.length)).length = (ends rows.length cols.length).length := by rw [dE_len]; unfold spE; rw [List.length_map]
      refine comp_dT (d := Ds) (o := o) (kvs := dE (spE us rows cols ws rows.length cols.length)) (fun j ys H' => j ≤ (ends rows.length cols.length).length ∧ Same H5 H' ∧ H' D1 = some (.lst ys) ∧ AllE H' (((ends rows.length cols.length).take j).filter fun e => decide (0 < sp us rows cols ws e)) ys) ⟨Nat.zero_le _, Same.new hD1, upd_same, .nil⟩ (fun j ys H' h => h.2.1 _ _ h5) (fun j ys H' h => h.2.2.1) ?_ ?_
      · rintro j kv p ys H' P' hkv hp ⟨hj, s1, hy, hA⟩ hP
        obtain ⟨e, he, ek⟩ : ∃ e, (ends rows.length cols.length)[j]? = some e ∧ kv.1 = key e := by
          unfold dE spE at hkv
          rw [List.getElem?_map, List.getElem?_map] at hkv
          cases hc : (ends rows.length cols.length)[j]? with
          | none => rw [hc] at hkv; cases hkv
          | some x => rw [hc] at hkv; cases hkv; exact ⟨x, rfl, rfl⟩
        rw [ek] at hp
        have hp' : H' p = some (.tup (enV e)) := hp
        have jlt := (List.getElem?_eq_some_iff.mp he).1
        have hm := List.mem_of_getElem? he
        rw [take_snoc he, List.filter_append] at hP
        have al : (((ends rows.length cols.length).take j).filter fun e => decide (0 < sp us rows cols ws e)).length = ys.length := Paired.length hA
        have fl : (((ends rows.length cols.length).take j).filter fun e => decide (0 < sp us rows cols ws e)).length ≤ j := Nat.le_trans (List.length_filter_le ..) (by rw [List.length_take]; lia)
        refine ⟨⟨rfl, trivial⟩, ?_⟩
        refine ⟨Ds, _, rfl, .inr ⟨_, key e, p, .inr ⟨o, s1 _ _ h5⟩, rfl, hp', (val_sp hm).symm⟩, ifC (fun c => ?_) fun c => ?_⟩
        · refine ⟨hy, by lia, hP _ _ ⟨jlt, s1.put hD1, upd_same, ?_⟩⟩
          rw [List.filter_cons_of_pos (p := fun e : En => decide (0 < sp us rows cols ws e)) (decide_eq_true c)]
          have u := tu_lst (o := .lst (ys ++ [.ref p])) hy
          exact (AllE.tu u hA).snoc ⟨p, rfl, u _ _ hp'⟩
        · refine hP _ _ ⟨jlt, s1, hy, ?_⟩
          rw [List.filter_cons_of_neg (p := fun e : En => decide (0 < sp us rows cols ws e)) (fun z => c (of_decide_eq_true z)), List.filter_nil, List.append_nil]
          exact hA
      rintro ys H6 ⟨_, s6, hy6, hA6⟩
      rw [dl1, List.take_of_length_le (Nat.le_refl _)] at hA6
      have s36 := s5.trans s6
      have s16 := s3.trans s36
      have hI6 := hI1.same s16
      refine ⟨D1, lu, lw, strt us rows cols rows.length cols.length ws, ys, ws, us, xs, rows.length, cols.length, rfl, ⟨s36 _ _ h3, hI6.u, hI6.all, hW.len, n24⟩, hy6, hA6, strt_nd ws, strt_sub ws, okU, r6, c6, fun Db H7 s7 f7 B hb => ?_⟩
      have eb : reachF us ws (rows.length + cols.length) (strt us rows cols rows.length cols.length ws) = byF us rows cols rows.length cols.length ws := rfl
      rw [eb] at B hb
      unfold loopF at el
      generalize byF us rows cols rows.length cols.length ws = b at B hb el
      have b12 := B.len
      refine ⟨Db, _, rfl, .inl hb, fun o2 D2 hD2 => ?_⟩
      have s8 : Same H6 (upd H7 Db (.frz o2 (.dT (dE (byL b))))) := s7.put f7
      have h8 : (upd H7 Db (.frz o2 (.dT (dE (byL b))))) Db = _ := upd_same
      generalize upd H7 Db (.frz o2 (.dT (dE (byL b)))) = H8 at s8 h8 hD2
      have s68 := s6.trans s8
      have d8 := s68 _ _ h5
      have kl : (keys b).length = b.length := by unfold keys; rw [List.length_map]
      have dl2 : (dE (byL b)).length = (keys b).length := by rw [dE_len, kl]; unfold byL; rw [List.length_map]
      refine comp_dT (d := Db) (o := o2) (kvs := dE (byL b)) (fun j ys H' => j ≤ (keys b).length ∧ Same H8 H' ∧ H' D2 = some (.lst ys) ∧ AllE H' (((keys b).take j).filter fun e => decide (sp us rows cols ws e < 0)) ys) ⟨Nat.zero_le _, Same.new hD2, upd_same, .nil⟩ (fun j ys H' h => h.2.1 _ _ h8) (fun j ys H' h => h.2.2.1) ?_ ?_
      · rintro j kv p ys H' P' hkv hp ⟨hj, s1, hy, hA⟩ hP
        obtain ⟨e, he, ek⟩ : ∃ e, (keys b)[j]? = some e ∧ kv.1 = key e := by
          unfold dE byL at hkv
          rw [List.getElem?_map, List.getElem?_map] at hkv
          cases hc : b[j]? with
          | none => rw [hc] at hkv; cases hkv
          | some x => rw [hc] at hkv; cases hkv; exact ⟨x.1, by unfold keys; rw [List.getElem?_map, hc]; rfl, rfl⟩
        rw [ek] at hp
        have hp' : H' p = some (.tup (enV e)) := hp
        have jlt := (List.getElem?_eq_some_iff.mp he).1
        have hm := B.sub e (List.mem_of_getElem? he)
        rw [take_snoc he, List.filter_append] at hP
        have al : (((keys b).take j).filter fun e => decide (sp us rows cols ws e < 0)).length = ys.length := Paired.length hA
        have fl : (((keys b).take j).filter fun e => decide (sp us rows cols ws e < 0)).length ≤ j := Nat.le_trans (List.length_filter_le ..) (by rw [List.length_take]; lia)
        refine ⟨⟨rfl, trivial⟩, ?_⟩
        refine ⟨Ds, _, rfl, .inr ⟨_, key e, p, .inr ⟨o, s1 _ _ d8⟩, rfl, hp', (val_sp hm).symm⟩, ifC (fun c => ?_) fun c => ?_⟩
        · refine ⟨hy, by lia, hP _ _ ⟨jlt, s1.put hD2, upd_same, ?_⟩⟩
          rw [List.filter_cons_of_pos (p := fun e : En => decide (sp us rows cols ws e < 0)) (decide_eq_true c)]
          have u := tu_lst (o := .lst (ys ++ [.ref p])) hy
          exact (AllE.tu u hA).snoc ⟨p, rfl, u _ _ hp'⟩
        · refine hP _ _ ⟨jlt, s1, hy, ?_⟩
          rw [List.filter_cons_of_neg (p := fun e : En => decide (sp us rows cols ws e < 0)) (fun z => c (of_decide_eq_true z)), List.filter_nil, List.append_nil]
          exact hA
      rintro ys2 H9 ⟨_, s9, hy9, hA9⟩
      rw [dl2, List.take_of_length_le (Nat.le_refl _)] at hA9
      have es : ((keys b).filter fun e => decide (sp us rows cols ws e < 0)) = shrt us rows cols ws b := rfl
      rw [es] at hA9
      have hsub : ∀ e ∈ shrt us rows cols ws b, e ∈ shrt us rows cols ws b := fun e h => h
      have s89 := s8.trans s9
      have s39 := s36.trans s89
      have s19 := s3.trans s39
      have b9 := s9 _ _ h8
      have d9 := s9 _ _ d8
      have h9 := s39 _ _ h3
      have hI9 := hI1.same s19
      refine ⟨_, .inl ⟨_, SqL.of hy9, rfl⟩, ?_⟩
      generalize hsh : shrt us rows cols ws b = sh at hA9 el
      cases hA9 with
      | nil =>
        simp only at el
        refine ⟨Db, _, rfl, .inr ⟨o2, b9⟩, ?_⟩
        cases b with
        | nil =>
          refine ⟨by show 2 ≤ sizeLine; (decide), fun t ht => ?_⟩
          have s10 := s19.trans (Same.new (o := .tup [.str "weights", .ref lw]) ht)
          refine q _ _ (t1.trans s10.t) (hT1.same s10) ?_
          rw [← el]
          exact ⟨t, lw, rfl, upd_same, (Same.new (o := .tup [.str "weights", .ref lw]) ht) _ _ h9, t1.free f3⟩
        | cons x b' =>
          generalize hbb : x :: b' = b at *
          have eI : (!(dE (byL b)).isEmpty) = true := by rw [← hbb]; rfl
          have eN : b.isEmpty = false := by rw [← hbb]; rfl
          rw [eN] at el
          rw [eI]
          refine ⟨Db, o2, b, 0, rows.length, rfl, b9, B.fr.tree.nd, fun e he h0 => ?_, by lia, fun L1 H10 s10 f10 h10 => ?_⟩
          · rcases ends_mem.mp (B.sub e he) with z | z
            · exact z.2
            · lia
          refine ⟨Db, o2, b, 1, cols.length, rfl, s10 _ _ b9, B.fr.tree.nd, fun e he h0 => ?_, by lia, fun L2 H11 s11 f11 h11 => ?_⟩
          · rcases ends_mem.mp (B.sub e he) with z | z
            · lia
            · exact z.2
          refine ⟨by show 4 ≤ sizeLine; (decide), fun t ht => ?_⟩
          have s12 := Same.new (o := .tup [.str "none", .str "over", .ref L1, .ref L2]) ht
          have s112 := s19.trans ((s10.trans s11).trans s12)
          refine q _ _ (t1.trans s112.t) (hT1.same s112) ?_
          rw [← el]
          exact ⟨t, L1, L2, rfl, upd_same, s12 _ _ (s11 _ _ h10), s12 _ _ h11, t1.free (Same.free s19 f10), t1.free (Same.free (s19.trans s10) f11), fun z => by rw [z] at h10; rw [h10] at f11; cases f11⟩
      | @cons l x sh' ys' hE hR =>
        have hl : l ∈ shrt us rows cols ws b := by rw [hsh]; exact List.mem_cons_self ..
        obtain ⟨sE, pE, Pt, hsS, ePath, hP, ndP, hneg⟩ := way (rows := rows) (cols := cols) B (fun e he => of_decide_eq_true (List.mem_filter.mp he).2) hl
        obtain ⟨stepW, stepM⟩ := step_ok (rows := rows) (cols := cols) hW B hl
        obtain ⟨i, hi⟩ := List.getElem?_of_mem (List.mem_filter.mp hl).1
        have lE := B.sub l (List.mem_filter.mp hl).1
        have sE' := strt_sub ws sE hsS
        have hU9 : Uw H9 lu lw us xs ws := ⟨h9, hI9.u, hI9.all, hW.len, n24⟩
        refine .inl ⟨D2, _, _, _, rfl, rfl, SqL.of hy9, atI_cons 0 rfl rfl, ?_⟩
        refine ⟨x, Db, lu, lw, o2, l, b, _, ws, us, xs, i, rfl, hE, b9, hU9, B.fr.tree, hi, by lia, fun L H10 ps s10 f10 h10 hP10 => ?_⟩
        have est : stepF us rows cols ws b l = given (minL (mostF us rows cols ws ((sE, pE) :: Pt) l) (roomsF us ws ((sE, pE) :: Pt))) ((sE, pE) :: Pt) ws := by unfold stepF; rw [ePath]
        rw [ePath] at hP10
        obtain ⟨pl, rfl, hpl⟩ := hE
        have hl10 := s10 _ _ hpl
        have d10 := s10 _ _ d9
        have hps := hP10
        cases hps with
        | @cons _ y _ ps' hY hPs =>
          obtain ⟨t, pe, rfl, ht, hpe⟩ := hY
          refine .inl ⟨L, _, _, _, rfl, rfl, SqL.of h10, atI_cons 0 rfl rfl, ?_⟩
          refine .inr (.inl ⟨t, _, _, _, rfl, rfl, SqT.of ht, atI_cons 0 rfl rfl, ?_⟩)
          refine ⟨Ds, _, rfl, .inr ⟨_, key sE, pe, .inr ⟨o, d10⟩, rfl, hpe, (val_sp sE').symm⟩, ?_⟩
          refine .inl ⟨D2, _, _, _, rfl, rfl, SqL.of (s10 _ _ hy9), atI_cons 0 rfl rfl, ?_⟩
          refine ⟨Ds, _, rfl, .inr ⟨_, key l, pl, .inr ⟨o, d10⟩, rfl, hl10, (val_sp lE).symm⟩, ?_⟩
          refine ⟨_, _, rfl, ?_⟩
          refine ⟨L, lu, lw, _, (sE, pE) :: Pt, _, ws, us, xs, rfl, h10, hP10, hU9.same s10, fun x hx => (isP_ends us ws hP x hx).2.1, Nat.le_trans (path_len hP ndP) n24, fun L2 H11 s11 f11 h11 => ?_⟩
          have em : (if -sp us rows cols ws l < sp us rows cols ws sE then -sp us rows cols ws l else sp us rows cols ws sE) = mostF us rows cols ws ((sE, pE) :: Pt) l := rfl
          rw [em, ← est] at h11
          have m0 := mS_nn us (stepF us rows cols ws b l) rows cols rows.length cols.length
          refine ⟨_, (by lia : (mS us (stepF us rows cols ws b l) rows cols rows.length cols.length).toNat < _), stepF us rows cols ws b l, L2, n', _, _, _, _, _, rfl, stepW, by lia, el, s19.trans (s10.trans s11), h11, Same.free (s19.trans s10) f11, rfl⟩
end
end My
set_option linter.all false
set_option maxHeartbeats 1000000
namespace Led
theorem sumL_pair (us : List Un) (ws : List Int) (s : Nat) {i j : Nat} (hij : i ≠ j) (hw : ∀ p, 0 ≤ wAt ws p ∧ wAt ws p ≤ 1000000) : ∀ k : Nat, 0 ≤ sI (fun p => if sd s (uAt us p) = i then wAt ws p else 0) k ∧ sI (fun p => if sd s (uAt us p) = i then wAt ws p else 0) k + sI (fun p => if sd s (uAt us p) = j then wAt ws p else 0) k ≤ 1000000 * (k : Int)
  | 0 => ⟨Int.le_refl _, by show (0 : Int) + 0 ≤ _; lia⟩
  | k + 1 => by
    obtain ⟨h1, h2⟩ := sumL_pair us ws s hij hw k
    obtain ⟨w0, w1⟩ := hw k
    rw [sI, sI]
    refine ⟨?_, ?_⟩
    · split <;> lia
    · by_cases c1 : sd s (uAt us k) = i
      · rw [if_pos c1, if_neg (fun z => hij (c1.symm.trans z))]; lia
      · rw [if_neg c1]
        split <;> lia
theorem sumL_one (us : List Un) (ws : List Int) (s i : Nat) (hw : ∀ p, 0 ≤ wAt ws p ∧ wAt ws p ≤ 1000000) (k : Nat) : 0 ≤ sI (fun p => if sd s (uAt us p) = i then wAt ws p else 0) k ∧ sI (fun p => if sd s (uAt us p) = i then wAt ws p else 0) k ≤ 1000000 * (k : Int) := by
  obtain ⟨h1, h2⟩ := sumL_pair us ws s (i := i) (j := i + 1) (by lia) hw k
  obtain ⟨h3, _⟩ := sumL_pair us ws s (i := i + 1) (j := i) (by lia) hw k
  exact ⟨h1, by lia⟩
noncomputable def onK (k : En → Bool) (s R : Nat) : List Int := ((List.range R).filter fun i => k (s, i)).map fun (i : Nat) => (i : Int)
section
variable (us : List Un) (rows cols : List Int) (R C : Nat)
noncomputable def Met (ws : List Int) : Prop := Wi us ws ∧ (∀ i < R, rowW us ws i = wAt rows i) ∧ ∀ j < C, colW us ws j = wAt cols j
noncomputable def oLo (k : En → Bool) : Int := outer us [] k (fun u _ => u.lo)
noncomputable def oHi (k : En → Bool) : Int := outer us [] k (fun u _ => u.hi)
noncomputable def iLo (k : En → Bool) : Int := inner us [] k (fun u _ => u.lo)
noncomputable def iHi (k : En → Bool) : Int := inner us [] k (fun u _ => u.hi)
noncomputable def Cut (ov : Bool) (k : En → Bool) : Prop := match ov with
  | true => inT cols C k - iLo us k < inS rows R k - oHi us k
  | false => inS rows R k - oLo us k < inT cols C k - iHi us k
noncomputable def Good : Told → Prop
  | .ws w => Met us rows cols R C w
  | .no ov so ot => ∃ k : En → Bool, so = onK k 0 R ∧ ot = onK k 1 C ∧ Cut us rows cols R C ov k
theorem sum_sI (l : List Int) : l.sum = sI (wAt l) l.length := by
  suffices h : ∀ n, n ≤ l.length → (l.take n).sum = sI (wAt l) n by
    have := h l.length (Nat.le_refl _)
    rw [List.take_of_length_le (Nat.le_refl _)] at this
    exact this
  intro n
  induction n with
  | zero => intro _; rfl
  | succ n ih =>
    intro hn
    have e : l[n]? = some l[n] := List.getElem?_eq_getElem (by lia)
    rw [List.take_add_one, e, List.sum_append, ih (by lia), sI, wAt_of e]
    simp
theorem out_all (g : Un → Int → Int) (ws : List Int) : outer us ws (fun _ => true) g = 0 := sI_zero fun p _ => if_neg fun z => z.2 rfl
theorem in_all (g : Un → Int → Int) (ws : List Int) : inner us ws (fun _ => true) g = 0 := sI_zero fun p _ => if_neg fun z => z.1 rfl
theorem inS_all (h : rows.length = R) : inS rows R (fun _ => true) = rows.sum := by
  subst h
  rw [sum_sI]
  exact sI_congr fun i _ => if_pos rfl
theorem inT_all (h : cols.length = C) : inT cols C (fun _ => true) = cols.sum := by
  subst h
  rw [sum_sI]
  exact sI_congr fun i _ => if_pos rfl
theorem upto_on (s n : Nat) : upto n = onK (fun _ => true) s n := by
  unfold upto onK
  rw [List.filter_eq_self.mpr fun _ _ => rfl]
variable {us rows cols R C}
theorem loop_good (ok : OkU us R C) (hr : rows.length = R) (hc : cols.length = C) (he : rows.sum = cols.sum) : ∀ (n : Nat) (ws : List Int), Wi us ws → (mS us ws rows cols R C).toNat < n → Good us rows cols R C (loopF us rows cols R C n ws)
  | 0, _, _, h => by lia
  | n + 1, ws, hW, hn => by
    have B0 := Bs.first us ws (strt_nd (us := us) (rows := rows) (cols := cols) (R := R) (C := C) ws) (strt_sub ws)
    -- the end of the search
    have run : ∀ (m : Nat) (b : By) (ah : List En), mB (R + C) b ah ≤ m → Bs us ws R C (strt us rows cols R C ws) b ah → Bs us ws R C (strt us rows cols R C ws) (reachF us ws (R + C) (strt us rows cols R C ws)) [] := by
      intro m
      induction m with
      | zero =>
        intro b ah hm B
        cases ah with
        | nil => rw [← Bs.done us ws B]; exact B
        | cons h t => unfold mB at hm; rw [List.length_cons] at hm; lia
      | succ m ih =>
        intro b ah hm B
        cases ah with
        | nil => rw [← Bs.done us ws B]; exact B
        | cons h t =>
          obtain ⟨B', lt⟩ := B.next us ws ok
          exact ih _ _ (by lia) B'
    have B : Bs us ws R C (strt us rows cols R C ws) (byF us rows cols R C ws) [] := run _ _ _ (Nat.le_refl _) B0
    unfold loopF
    generalize byF us rows cols R C ws = b at B
    cases hsh : shrt us rows cols ws b with
    | cons l t =>
      obtain ⟨h1, h2⟩ := step_ok (rows := rows) (cols := cols) hW B (by rw [hsh]; exact List.mem_cons_self ..)
      have m0 := mS_nn us (stepF us rows cols ws b l) rows cols R C
      exact loop_good ok hr hc he n _ h1 (by lia)
    | nil =>
      have h0 : ∀ e ∈ keys b, 0 ≤ sp us rows cols ws e := fun e he => by
        refine Classical.byContradiction fun z => ?_
        have : e ∈ shrt us rows cols ws b := List.mem_filter.mpr ⟨he, decide_eq_true (by lia)⟩
        rw [hsh] at this
        cases this
      simp only
      cases hb : b.isEmpty with
      | true =>
        have e : b = [] := List.isEmpty_iff.mp hb
        subst e
        simp only [if_true]
        have np : ∀ e ∈ ends R C, sp us rows cols ws e ≤ 0 := fun e he => by
          refine Classical.byContradiction fun z => ?_
          have : e ∈ strt us rows cols R C ws := List.mem_filter.mpr ⟨he, decide_eq_true (by lia)⟩
          have := B.fr.start e this
          cases this
        have am := all_met us ws rows cols R C ok (by rw [inS_all rows R hr, inT_all cols C hc, he]) (fun i hi => np _ (ends_mem.mpr (.inl ⟨rfl, hi⟩))) (fun j hj => np _ (ends_mem.mpr (.inr ⟨rfl, hj⟩)))
        exact ⟨hW, am.1, am.2⟩
      | false =>
        simp only [Bool.false_eq_true, if_false]
        refine ⟨fun e => decide (e ∈ keys b), rfl, rfl, ?_⟩
        -- a start
        obtain ⟨s, hs⟩ : ∃ s, s ∈ strt us rows cols R C ws := by
          cases b with
          | nil => cases hb
          | cons x b =>
            obtain ⟨e, o⟩ := x
            cases o with
            | none => exact ⟨e, B.fr.tree.st e (List.mem_cons_self ..)⟩
            | some p =>
              obtain ⟨_, j, _, hj, _⟩ := B.fr.tree.par 0 e p rfl
              lia
        have hk : decide (s ∈ keys b) = true := decide_eq_true (B.fr.start s hs)
        have hpos : 0 < sp us rows cols ws s := of_decide_eq_true (List.mem_filter.mp hs).2
        have shut : ∀ h ∈ keys b, ∀ p < us.length, ∀ e, oth (uAt us p) h = some e → e ∈ keys b ∨ ¬ 0 < room (uAt us p) (wAt ws p) h := fun h hh => by
          rcases B.fr.shut h hh with z | z
          · cases z
          · exact z
        have := cut_over us ws rows cols R C (k := fun e => decide (e ∈ keys b)) ok hW
          (fun p hp h1 h2 => by
            rcases shut _ (of_decide_eq_true h1) p hp _ (oth_row _) with z | z
            · exact absurd (decide_eq_true z) h2
            · exact z)
          (fun p hp h1 h2 => by
            rcases shut _ (of_decide_eq_true h1) p hp _ (oth_col _) with z | z
            · exact absurd (decide_eq_true z) h2
            · exact z)
          (fun e he => h0 e (of_decide_eq_true he)) hk hpos (ends_mem.mp (strt_sub ws s hs))
        exact this
theorem led_good (ok : OkU us R C) (hr : rows.length = R) (hc : cols.length = C) : Good us rows cols R C (ledF us rows cols R C) := by
  unfold ledF
  by_cases he : rows.sum = cols.sum
  · rw [if_pos he]
    exact loop_good ok hr hc he _ _ (lows_wi ok) (Nat.lt_succ_self _)
  · rw [if_neg he]
    refine ⟨fun _ => true, upto_on 0 R, upto_on 1 C, ?_⟩
    by_cases h : cols.sum < rows.sum
    · rw [decide_eq_true h]
      show inT cols C _ - iLo us _ < inS rows R _ - oHi us _
      unfold iLo oHi
      rw [in_all, out_all, inS_all rows R hr, inT_all cols C hc]
      lia
    · rw [decide_eq_false h]
      show inS rows R _ - oLo us _ < inT cols C _ - iHi us _
      unfold iHi oLo
      rw [in_all, out_all, inS_all rows R hr, inT_all cols C hc]
      lia
end
end Led
set_option Elab.async false
set_option linter.all false
set_option maxRecDepth 100000
set_option maxHeartbeats 4000000
namespace My
open PySem L2 FrM Led
noncomputable def cellF (ns : List Int) (k : Int) : Int := if k < (ns.length : Int) then ns.getD k.toNat 0 else 7919 * k + 13
inductive spCell (K : PySem.W.Frag) (vs : List V) (H : Hp) (Q : VK) (_E : XK) : Prop
  | mk (p : Addr) (ns : List Int) (k : Int) (h0 : vs = [.ref p, .int k]) (h1 : SqL K H p (ns.map V.int)) (h2 : ns.length ≤ 63) (h3 : 0 ≤ k) (h4 : k ≤ 1000) (h5 : Q (.int (cellF ns k)) H) : spCell K vs H Q _E
inductive spMix (vs : List V) (H : Hp) (Q : VK) (_E : XK) : Prop
  | mk (c k : Int) (h0 : vs = [.int c, .int k]) (h1 : 0 ≤ k) (h2 : k ≤ 1000) (h3 : ∀ r : Int, 0 ≤ r → Q (.int r) H) : spMix vs H Q _E
inductive spRow (vs : List V) (H : Hp) (Q : VK) (_E : XK) : Prop
  | mk (c b n m : Int) (h0 : vs = [.int c, .int b, .int n, .int m]) (h1 : 0 ≤ n) (h2 : n ≤ 200) (h3 : m = 1000003) (h4 : ∀ H' l (ns : List Int), Same H H' → H l = none → H' l = some (.lst (ns.map V.int)) → (ns.length : Int) = n → (∀ v ∈ ns, 0 ≤ v) → Q (.ref l) H') : spRow vs H Q _E
inductive spWholeL (vs : List V) (H : Hp) (Q : VK) (_E : XK) : Prop
  | mk (i : Int) (h0 : vs = [.int i]) (h1 : Q (.bl true) H) : spWholeL vs H Q _E
theorem at_get {ns : List Int} {k : Nat} (h : k < ns.length) : atI (ns.map V.int) ((k : Nat) : Int) = some (.int (ns.getD k 0)) := atI_nat (by rw [List.getElem?_map, List.getD, List.getElem?_eq_getElem h]; rfl)
inductive spUnits (K : PySem.W.Frag) (vs : List V) (H : Hp) (Q : VK) (_E : XK) : Prop
  | mk (p : Addr) (ns : List Int) (st : Int) (R C : Nat) (h0 : vs = [.ref p, .int st, .int (R : Nat), .int (C : Nat)]) (h1 : SqL K H p (ns.map V.int)) (h2 : ns.length ≤ 63) (h3 : 0 ≤ st) (h4 : st ≤ 100) (h5 : R ≤ 6) (h6 : C ≤ 6) (h7 : ∀ H' l us xs, Same H H' → H l = none → H' l = some (.lst xs) → AllU H' us xs → us.length ≤ 24 → (∀ u ∈ us, OkN u R C) → Q (.ref l) H') : spUnits K vs H Q _E
section
variable {P : Program} {w : World} {K : PySem.W.Frag} {mg : Str → Option Value} {base : Heap} {a : Ad}
theorem ok_cell (T : Txt K mg a) : FnOk P w K mg base CX0 1 a.f_L_cell a.d_L_cell ["_law_script", "_law_k"] (spCell K) := by
  refine T.F_L_cell.ok sc_L_cell (fun vs H Q E h => ?_) (fun cdv A outer s H vs Q E hr h => ?_)
  · obtain ⟨p, ns, k, rfl, _⟩ := h; rfl
  · obtain ⟨p, ns, k, rfl, hS, hl, h0, h1, q⟩ := h
    refine ⟨_, (pss_cons (ps_if (t_cmp o_lt (vr 1) (pe_callB call_lenM rfl T.z_len bt_len (pa_cons (vr 0) pa_nil)) (nomark _)) (pss_one (ps_ret (pe_ix ix_seq (vr 0) (vr 1) (fun _ _ => rfl)))) pss_nil) (pss_one (ps_ret (pe_op o_add (pe_op o_mulB pe_int (vr 1)) pe_int)))), ?_⟩
    refine ⟨ns.map V.int, .inl hS, ?_⟩
    rw [List.length_map]
    refine ite2 (fun c => ?_) (fun c => ?_)
    · have c' : k < (ns.length : Int) := of_decide_eq_true c
      refine .inl ⟨p, _, k, .int (ns.getD k.toNat 0), rfl, rfl, hS, ?_, (by unfold cellF at q; rw [if_pos c'] at q; exact q)⟩
      have e : ((k.toNat : Nat) : Int) = k := by lia
      rw [← e]
      refine atI_nat ?_
      have hk : k.toNat < ns.length := by lia
      rw [e]
      simp [List.getElem?_map, List.getD, hk]
    · have c' : ¬ k < (ns.length : Int) := fun z => c (decide_eq_true z)
      unfold cellF at q
      rw [if_neg c'] at q
      exact ⟨clB, q⟩
theorem ok_mix (T : Txt K mg a) : FnOk P w K mg base CX0 1 a.f_L_mix a.d_L_mix ["_law_cell_here", "_law_k"] spMix := by
  refine T.F_L_mix.ok sc_L_mix (fun vs H Q E h => ?_) (fun cdv A outer s H vs Q E hr h => ?_)
  · obtain ⟨c, k, rfl, _⟩ := h; rfl
  · obtain ⟨c, k, rfl, h0, h1, q⟩ := h
    refine ⟨_, (pss_cons (ps_set (i := 2) sc_L_mix.nd rfl (Or.inl rfl) (pe_op o_mod (pe_op o_mulB (pe_op o_add (pe_op o_add (pe_op o_mod (vr 0) pe_int) (pe_op o_mulB pe_int (vr 1))) pe_int) pe_int) pe_int)) (pss_cons (ps_set (i := 2) sc_L_mix.nd rfl (Or.inl rfl) (pe_op o_mod (pe_op o_add (pe_op o_mulB (vr 2) (vr 2)) (pe_op o_mulB pe_int (vr 1))) pe_int)) (pss_one (ps_ret (pe_op o_mod (pe_op o_mulB (vr 2) (pe_op o_add (vr 2) pe_int)) pe_int))))), ?_⟩
    exact ⟨cp, clB, crB, cp, clB (by lia) (by lia), clB, cp, clB (by lia) (by lia), cp, q _ (by (exact Int.emod_nonneg _ (by decide)))⟩
theorem ok_row (T : Txt K mg a) : FnOk P w K mg base CX0 2 a.f_L_row a.d_L_row ["_law_cell_here", "_law_bit", "_law_many", "_law_most"] spRow := by
  have G_L_mix : FnOk P w K mg base CX0 1 _ _ _ spMix := ok_mix T
  refine T.F_L_row.ok sc_L_row (fun vs H Q E h => ?_) (fun cdv A outer s H vs Q E hr h => ?_)
  · obtain ⟨c, b, n, m, rfl, _⟩ := h; rfl
  · obtain ⟨c, b, n, m, rfl, n0, n1, rfl, q⟩ := h
    refine ⟨_, (pss_cons (ps_set (i := 4) sc_L_row.nd rfl (Or.inl rfl) (pe_lst pa_nil)) (pss_cons (ps_for PassesOwn.never rfl (pi_range1 rfl T.z_range (pa_cons (vr 2) pa_nil)) (pg_name (i := 5) sc_L_row.nd rfl (Or.inl rfl)) (pss_one (ps_if (t_cmp o_eq (pe_op o_mod (vr 1) pe_int) pe_int (nomark _)) (pss_cons (ps_expr (pe_m.append (vr 4) (pa_cons (pe_op o_mod (vr 0) (vr 3)) pa_nil))) (pss_one (ps_set (i := 0) sc_L_row.nd rfl (Or.inl rfl) (pe_op o_fdivB (vr 0) (vr 3))))) (pss_one (ps_expr (pe_m.append (vr 4) (pa_cons (pe_op o_mod (pe_call G_L_mix hr rfl T.m_L_mix T.F_L_mix.kp T.B_L_mix .nil pass0 (pa_cons (vr 0) (pa_cons (vr 5) pa_nil))) (vr 3)) pa_nil))))))) (pss_one (ps_ret (vr 4))))), ?_⟩
    have sl : sizeLine = 16777216 := sizeLine_eq
    refine ⟨Nat.zero_le _, fun p hp => ?_⟩
    refine ⟨n, rfl, by lia, by (exact Int.lt_of_le_of_lt (by assumption) (by decide)), ?_⟩
    refine for_range (fun i σ H' => ∃ (c' : Int) (ns : List Int) (x : Option V), Same H H' ∧ H' p = some (.lst (ns.map V.int)) ∧ ns.length = i ∧ (∀ v ∈ ns, 0 ≤ v) ∧ σ = [some (.int c'), some (.int b), some (.int n), some (.int 1000003), some (.ref p), x]) ⟨c, [], none, Same.new hp, upd_same, rfl, (fun v hv => by cases hv), rfl⟩ ?_ ?_
    · rintro i σ H' hi ⟨c', ns, x, s1, hl, ln, nn, rfl⟩
      have lz : (ns.map V.int).length < sizeLine := by rw [List.length_map]; lia
      have fin : ∀ (c2 v : Int), 0 ≤ v → ∃ (c' : Int) (ns2 : List Int) (x : Option V), Same H (upd H' p (.lst (ns.map V.int ++ [V.int v]))) ∧ (upd H' p (.lst (ns.map V.int ++ [V.int v]))) p = some (.lst (ns2.map V.int)) ∧ ns2.length = i + 1 ∧ (∀ v ∈ ns2, 0 ≤ v) ∧ [some (V.int c2), some (.int b), some (.int n), some (.int 1000003), some (.ref p), some (.int (0 + (i : Int)))] = [some (.int c'), some (.int b), some (.int n), some (.int 1000003), some (.ref p), x] := fun c2 v v0 =>
        ⟨c2, ns ++ [v], _, s1.put hp, by rw [upd_same, List.map_append]; rfl, by rw [List.length_append, ln]; rfl, (fun u hu => by
          rcases List.mem_append.mp hu with hu | hu
          · exact nn u hu
          · rw [List.mem_singleton.mp hu]; exact v0), rfl⟩
      refine ⟨cp, ifC (fun _ => ?_) (fun _ => ?_)⟩
      · exact ⟨.inl ⟨rfl, _, SqL.of hl⟩, ⟨cp, ⟨p, _, _, rfl, rfl, hl, lz, ⟨cdB (by decide) (show Bt 40 (1000003 : Int) by unfold Bt; decide), fin _ _ (by (exact Int.emod_nonneg _ (by decide)))⟩⟩⟩⟩
      · exact ⟨.inl ⟨rfl, _, SqL.of hl⟩, ⟨c', _, rfl, by (exact Int.natCast_nonneg _), by lia, fun r r0 => ⟨cp, ⟨p, _, _, rfl, rfl, hl, lz, fin _ _ (by (exact Int.emod_nonneg _ (by decide)))⟩⟩⟩⟩
    · rintro σ H' ⟨c', ns, x, s1, hl, ln, nn, rfl⟩
      exact q _ p ns s1 hp hl (by lia) nn
theorem ok_wholeL (T : Txt K mg a) : FnOk P w K mg base CX0 1 a.f_L_whole a.d_L_whole ["_law_found"] spWholeL := by
  refine T.F_L_whole.ok sc_L_whole (fun vs H Q E h => ?_) (fun cdv A outer s H vs Q E hr h => ?_)
  · obtain ⟨i, rfl, _⟩ := h; rfl
  · obtain ⟨i, rfl, q⟩ := h
    exact ⟨_, (pss_one (ps_ret (m_and (pe_callB call_isi rfl T.z_isinstance bt_isinstance (pa_cons (vr 0) (pa_cons (pe_bltn (v := .ty "int") rfl T.z_int bt_int rfl) pa_nil))) (pe_one (m_not (pe_callB call_isi rfl T.z_isinstance bt_isinstance (pa_cons (vr 0) (pa_cons (pe_bltn (v := .ty "bool") rfl T.z_bool bt_bool rfl) pa_nil)))))))), ⟨_, _, _, true, rfl, rfl, .int i, rfl, ⟨_, _, _, false, rfl, rfl, .int i, rfl, q⟩⟩⟩
theorem ok_units (T : Txt K mg a) : FnOk P w K mg base CX0 3 a.f_L_units a.d_L_units ["_law_script", "_law_start", "_law_rows", "_law_columns"] (spUnits K) := by
  have G_L_cell : FnOk P w K mg base CX0 2 _ _ _ (spCell K) := (ok_cell T).mono (by decide)
  have G_L_row : FnOk P w K mg base CX0 2 _ _ _ spRow := ok_row T
  refine T.F_L_units.ok sc_L_units (fun vs H Q E h => ?_) (fun cdv A outer s H vs Q E hr h => ?_)
  · obtain ⟨p, ns, st, R, C, rfl, _⟩ := h; rfl
  · obtain ⟨p, ns, st, R, C, rfl, hS, hlen, st0, st1, r6, c6, q⟩ := h
    refine ⟨_, (pss_cons (ps_set (i := 4) sc_L_units.nd rfl (Or.inl rfl) (pe_op o_mod (pe_call G_L_cell hr rfl T.m_L_cell T.F_L_cell.kp T.B_L_cell .nil pass0 (pa_cons (vr 0) (pa_cons (vr 1) pa_nil))) pe_int)) (pss_cons (ps_set (i := 5) sc_L_units.nd rfl (Or.inl rfl) (pe_call G_L_cell hr rfl T.m_L_cell T.F_L_cell.kp T.B_L_cell .nil pass0 (pa_cons (vr 0) (pa_cons (pe_op o_add (vr 1) pe_int) pa_nil)))) (pss_cons (ps_set (i := 6) sc_L_units.nd rfl (Or.inl rfl) (pe_ix ix_seq (pe_lst (pa_cons pe_int (pa_cons pe_int (pa_cons pe_int (pa_cons pe_int pa_nil))))) (pe_op o_mod (pe_op o_fdivB (vr 5) pe_int) pe_int) (fun _ _ => rfl))) (pss_cons (ps_set (i := 7) sc_L_units.nd rfl (Or.inl rfl) (pe_call G_L_row hr rfl T.m_L_row T.F_L_row.kp T.B_L_row .nil pass0 (pa_cons (pe_call G_L_cell hr rfl T.m_L_cell T.F_L_cell.kp T.B_L_cell .nil pass0 (pa_cons (vr 0) (pa_cons (pe_op o_add (vr 1) pe_int) pa_nil))) (pa_cons (vr 5) (pa_cons (pe_op o_mulB pe_int (vr 4)) (pa_cons pe_int pa_nil)))))) (pss_cons (ps_set (i := 8) sc_L_units.nd rfl (Or.inl rfl) (pe_lst pa_nil)) (pss_cons (ps_for PassesOwn.never rfl (pi_range1 rfl T.z_range (pa_cons (pe_op o_mulB (vr 4) (pe_callB (call_min2 rfl) rfl T.z_min bt_min (pa_cons pe_int (pa_cons (pe_op o_mulB (vr 2) (vr 3)) pa_nil)))) pa_nil)) (pg_name (i := 9) sc_L_units.nd rfl (Or.inl rfl)) (pss_cons (ps_set (i := 10) sc_L_units.nd rfl (Or.inl rfl) (pe_op o_mod (pe_ix ix_seq (vr 7) (pe_op o_add (pe_op o_mulB pe_int (vr 9)) pe_int) (fun _ _ => rfl)) (pe_op o_add (vr 6) pe_int))) (pss_cons (ps_set (i := 11) sc_L_units.nd rfl (Or.inl rfl) (pe_callB (call_min2 rfl) rfl T.z_min bt_min (pa_cons pe_int (pa_cons (pe_op o_add (vr 10) (pe_op o_mod (pe_ix ix_seq (vr 7) (pe_op o_add (pe_op o_mulB pe_int (vr 9)) pe_int) (fun _ _ => rfl)) (pe_op o_add (vr 6) pe_int))) pa_nil)))) (pss_one (ps_expr (pe_m.append (vr 8) (pa_cons (pe_tup (pa_cons (pe_op o_mod (pe_ix ix_seq (vr 7) (pe_op o_mulB pe_int (vr 9)) (fun _ _ => rfl)) (vr 2)) (pa_cons (pe_op o_mod (pe_ix ix_seq (vr 7) (pe_op o_add (pe_op o_mulB pe_int (vr 9)) pe_int) (fun _ _ => rfl)) (vr 3)) (pa_cons (vr 10) (pa_cons (vr 11) pa_nil))))) pa_nil))))))) (pss_one (ps_ret (vr 8))))))))), ?_⟩
    have sl : sizeLine = 16777216 := sizeLine_eq
    refine ⟨p, ns, st, rfl, hS, hlen, by (assumption), by (exact Int.le_trans (by assumption) (by decide)), cp, ?_⟩
    generalize cellF ns st = c0
    have n0 : 0 ≤ c0 % 25 := by (exact Int.emod_nonneg _ (by decide))
    have n1 : c0 % 25 ≤ 24 := by (exact Int.le_of_lt_add_one (Int.emod_lt_of_pos _ (by decide)))
    refine ⟨p, ns, st + 1, rfl, hS, hlen, by (exact Int.add_nonneg (by assumption) (by decide)), by (exact Int.lt_of_le_of_lt (by assumption) (by decide)), ?_⟩
    generalize cellF ns (st + 1) = b
    refine ⟨(by show 4 ≤ sizeLine; (decide)), fun p1 hp1 => ⟨cdB (by decide) (show Bt 40 (2 : Int) by unfold Bt; decide), cp, ?_⟩⟩
    have s1 := Same.new (o := .lst [.int 2, .int 5, .int 1000, .int 1000000]) hp1
    obtain ⟨top, hat, t1, t2⟩ : ∃ hv : Int, atI [V.int 2, .int 5, .int 1000, .int 1000000] (b / 2 % 4) = some (.int hv) ∧ 1 ≤ hv ∧ hv ≤ 1000000 := by
      have h3 : b / 2 % 4 = ((0 : Nat) : Int) ∨ b / 2 % 4 = ((1 : Nat) : Int) ∨ b / 2 % 4 = ((2 : Nat) : Int) ∨ b / 2 % 4 = ((3 : Nat) : Int) := by lia
      rcases h3 with e | e | e | e
      · exact ⟨_, atI_cons _ e.symm rfl, by decide, by decide⟩
      · exact ⟨_, atI_cons _ e.symm rfl, by decide, by decide⟩
      · exact ⟨_, atI_cons _ e.symm rfl, by decide, by decide⟩
      · exact ⟨_, atI_cons _ e.symm rfl, by decide, by decide⟩
    refine .inl ⟨p1, _, _, _, rfl, rfl, SqL.of upd_same, hat, ?_⟩
    generalize upd H p1 (.lst [.int 2, .int 5, .int 1000, .int 1000000]) = H1 at s1
    refine ⟨p, ns, st + 2, rfl, s1.seq hS, hlen, by (exact Int.add_nonneg (by assumption) (by decide)), by (exact Int.le_trans (Int.add_le_add_right (by assumption) _) (by decide)), ⟨clB, ?_⟩⟩
    refine ⟨_, b, 4 * (c0 % 25), _, rfl, by lia, by lia, rfl, fun H2 l rs s2 f2 hl2 hln hnn => ?_⟩
    refine ⟨Nat.zero_le _, fun D hD => ?_⟩
    refine ⟨clB (by (exact Int.natCast_nonneg _)) (by lia), ?_⟩
    have s12 := s1.trans s2
    have fD := s12.free hD
    have hl3 := (Same.new (o := .lst []) hD) _ _ hl2
    obtain ⟨rc, hrc⟩ : ∃ rc : Int, rc = (R : Int) * (C : Int) := ⟨_, rfl⟩
    have rcn : 0 ≤ rc := by rw [hrc]; exact Int.mul_nonneg (by (exact Int.natCast_nonneg _)) (by (exact Int.natCast_nonneg _))
    have rc0 : 0 < rc → 0 < (R : Int) ∧ 0 < (C : Int) := fun h => by
      rcases Nat.eq_zero_or_pos R with z | z
      · subst z; simp at hrc; lia
      · rcases Nat.eq_zero_or_pos C with z2 | z2
        · subst z2; simp at hrc; lia
        · lia
    refine ⟨_, _, rfl, clB (by lia) (by (exact Int.lt_of_le_of_lt (by assumption) (by decide))), ?_⟩
    obtain ⟨nn, hnn2⟩ : ∃ nn : Int, nn = (c0 % 25) * (if (R : Int) * (C : Int) < 1 then (R : Int) * (C : Int) else 1) := ⟨_, rfl⟩
    have nnb : 0 ≤ nn ∧ nn ≤ c0 % 25 ∧ (0 < nn → 0 < rc) := by
      rw [hnn2, ← hrc]
      by_cases h : rc < 1
      · rw [if_pos h, show rc = 0 by lia, Int.mul_zero]; exact ⟨Int.le_refl _, n0, fun h => absurd h (Int.lt_irrefl _)⟩
      · rw [if_neg h, Int.mul_one]; exact ⟨n0, Int.le_refl _, fun _ => by lia⟩
    refine ⟨nn, by rw [hnn2], by lia, by lia, ?_⟩
    refine for_range (lo := 0) (n := nn.toNat) (fun i σ H' => ∃ (xs : List V) (us : List Un) (x9 x10 x11 : Option V), Same H H' ∧ H' l = some (.lst (rs.map V.int)) ∧ H' D = some (.lst xs) ∧ AllU H' us xs ∧ us.length = i ∧ (∀ u ∈ us, OkN u R C) ∧ σ = [some (.ref p), some (.int st), some (.int (R : Nat)), some (.int (C : Nat)), some (.int (c0 % 25)), some (.int b), some (.int top), some (.ref l), some (.ref D), x9, x10, x11]) ⟨[], [], none, none, none, s12.trans (Same.new hD), hl3, upd_same, .nil, rfl, (fun z hz => by cases hz), rfl⟩ ?_ ?_
    · rintro i σ H4 hi ⟨xs, us, x9, x10, x11, s4, hl4, hD4, hall, hul, hok, rfl⟩
      obtain ⟨R0, C0⟩ := rc0 (nnb.2.2 (by lia))
      have k0 : (4 * (0 + (i : Int))) = ((4 * i : Nat) : Int) := by lia
      have k1 : (4 * (0 + (i : Int)) + 1) = ((4 * i + 1 : Nat) : Int) := by lia
      have k2 : (4 * (0 + (i : Int)) + 2) = ((4 * i + 2 : Nat) : Int) := by lia
      have k3 : (4 * (0 + (i : Int)) + 3) = ((4 * i + 3 : Nat) : Int) := by lia
      refine ⟨clB, ?_⟩
      refine .inl ⟨l, _, _, _, rfl, rfl, SqL.of hl4, (by rw [k2]; exact at_get (by lia)), ?_⟩
      refine ⟨cp (by lia), ?_⟩
      refine ⟨clB, ?_⟩
      refine .inl ⟨l, _, _, _, rfl, rfl, SqL.of hl4, (by rw [k3]; exact at_get (by lia)), ?_⟩
      refine ⟨cp (by lia), ?_⟩
      refine ⟨_, _, rfl, ?_⟩
      obtain ⟨lo, hlo⟩ : ∃ lo : Int, lo = rs.getD (4 * i + 2) 0 % (top + 1) := ⟨_, rfl⟩
      obtain ⟨mo, hmo⟩ : ∃ mo : Int, mo = rs.getD (4 * i + 3) 0 % (top + 1) := ⟨_, rfl⟩
      have lo0 : 0 ≤ lo := by rw [hlo]; exact Int.emod_nonneg _ (by lia)
      have lo1 : lo < top + 1 := by rw [hlo]; exact Int.emod_lt_of_pos _ (by lia)
      have mo0 : 0 ≤ mo := by rw [hmo]; exact Int.emod_nonneg _ (by lia)
      obtain ⟨hi', hhi⟩ : ∃ hi : Int, hi = if lo + mo < 1000000 then lo + mo else 1000000 := ⟨_, rfl⟩
      have hib : lo ≤ hi' ∧ hi' ≤ 1000000 := by rw [hhi]; split <;> lia
      subst hlo hmo hhi
      refine ⟨.inl ⟨rfl, _, SqL.of hD4⟩, ⟨clB, ?_⟩⟩
      refine .inl ⟨l, _, _, _, rfl, rfl, SqL.of hl4, (by rw [k0]; exact at_get (by lia)), ?_⟩
      refine ⟨cp (by (assumption)), ⟨clB, ?_⟩⟩
      refine .inl ⟨l, _, _, _, rfl, rfl, SqL.of hl4, (by rw [k1]; exact at_get (by lia)), ?_⟩
      refine ⟨cp (by (assumption)), ?_⟩
      obtain ⟨r, hr'⟩ : ∃ r : Nat, (r : Int) = rs.getD (4 * i) 0 % (R : Int) := ⟨(rs.getD (4 * i) 0 % (R : Int)).toNat, Int.toNat_of_nonneg (Int.emod_nonneg _ (by (exact Int.ne_of_gt (by assumption))))⟩
      obtain ⟨c, hc'⟩ : ∃ c : Nat, (c : Int) = rs.getD (4 * i + 1) 0 % (C : Int) := ⟨(rs.getD (4 * i + 1) 0 % (C : Int)).toNat, Int.toNat_of_nonneg (Int.emod_nonneg _ (by (exact Int.ne_of_gt (by assumption))))⟩
      have rlt : (r : Int) < R := by rw [hr']; exact Int.emod_lt_of_pos _ (by (assumption))
      have clt : (c : Int) < C := by rw [hc']; exact Int.emod_lt_of_pos _ (by (assumption))
      refine ⟨(by show 4 ≤ sizeLine; (decide)), fun p5 hp5 => ?_⟩
      have s8 := Same.new (o := .tup [.int (rs.getD (4 * i) 0 % (R : Int)), .int (rs.getD (4 * i + 1) 0 % (C : Int)), .int (rs.getD (4 * i + 2) 0 % (top + 1)), .int (if (rs.getD (4 * i + 2) 0 % (top + 1)) + (rs.getD (4 * i + 3) 0 % (top + 1)) < 1000000 then (rs.getD (4 * i + 2) 0 % (top + 1)) + (rs.getD (4 * i + 3) 0 % (top + 1)) else 1000000)]) hp5
      have h8 : (upd H4 p5 (.tup [.int (rs.getD (4 * i) 0 % (R : Int)), .int (rs.getD (4 * i + 1) 0 % (C : Int)), .int (rs.getD (4 * i + 2) 0 % (top + 1)), .int (if (rs.getD (4 * i + 2) 0 % (top + 1)) + (rs.getD (4 * i + 3) 0 % (top + 1)) < 1000000 then (rs.getD (4 * i + 2) 0 % (top + 1)) + (rs.getD (4 * i + 3) 0 % (top + 1)) else 1000000)])) p5 = some (.tup (tupU ⟨r, c, (rs.getD (4 * i + 2) 0 % (top + 1)), (if (rs.getD (4 * i + 2) 0 % (top + 1)) + (rs.getD (4 * i + 3) 0 % (top + 1)) < 1000000 then (rs.getD (4 * i + 2) 0 % (top + 1)) + (rs.getD (4 * i + 3) 0 % (top + 1)) else 1000000)⟩)) := by
        show _ = some (HO.tup [.int (r : Int), .int (c : Int), .int (rs.getD (4 * i + 2) 0 % (top + 1)), .int (if (rs.getD (4 * i + 2) 0 % (top + 1)) + (rs.getD (4 * i + 3) 0 % (top + 1)) < 1000000 then (rs.getD (4 * i + 2) 0 % (top + 1)) + (rs.getD (4 * i + 3) 0 % (top + 1)) else 1000000)])
        rw [hr', hc']
        exact upd_same
      have hD8 := s8 _ _ hD4
      have xl : us.length = xs.length := Paired.length hall
      refine ⟨D, _, _, rfl, rfl, hD8, by lia, ?_⟩
      have nl : l ≠ D := fun z => by rw [z] at hl3; rw [z, hD] at hl2; cases hl2
      have u9 := tu_lst (o := .lst (xs ++ [.ref p5])) hD8
      refine ⟨xs ++ [.ref p5], us ++ [⟨r, c, (rs.getD (4 * i + 2) 0 % (top + 1)), (if (rs.getD (4 * i + 2) 0 % (top + 1)) + (rs.getD (4 * i + 3) 0 % (top + 1)) < 1000000 then (rs.getD (4 * i + 2) 0 % (top + 1)) + (rs.getD (4 * i + 3) 0 % (top + 1)) else 1000000)⟩], _, _, _, (s4.trans s8).put fD, by rw [upd_ne nl]; exact s8 _ _ hl4, upd_same, (AllU.tu u9 (hall.tu s8.tu)).snoc ⟨p5, rfl, u9 _ _ h8⟩, by rw [List.length_append, hul]; rfl, fun u hu => ?_, rfl⟩
      rcases List.mem_append.mp hu with hu | hu
      · exact hok u hu
      · rw [List.mem_singleton.mp hu]
        exact ⟨by show r < R; lia, by show c < C; lia, lo0, hib.1, hib.2⟩
    · rintro σ H4 ⟨xs, us, x9, x10, x11, s4, _, hD4, hall, hul, hok, rfl⟩
      exact q _ D us xs s4 fD hD4 hall (by lia) hok
end
end My
set_option linter.all false
set_option maxHeartbeats 1000000
namespace Led
noncomputable def Bd (vs : List Int) : Prop := ∀ i < vs.length, 0 ≤ wAt vs i ∧ wAt vs i ≤ 24000000
noncomputable def PB (vs : List Int) : Prop := Bd vs ∧ ∀ i j, i < vs.length → j < vs.length → i ≠ j → wAt vs i + wAt vs j ≤ 24000000
theorem pb_sum {us : List Un} {ws : List Int} (n24 : us.length ≤ 24) (hw : ∀ p, 0 ≤ wAt ws p ∧ wAt ws p ≤ 1000000) (s R : Nat) : PB (sumL us ws s R us.length) := by
  have e : ∀ i < R, wAt (sumL us ws s R us.length) i = sI (fun p => if sd s (uAt us p) = i then wAt ws p else 0) us.length := fun i hi => wAt_of (sumL_at us ws s _ hi)
  unfold PB Bd
  rw [sumL_len]
  refine ⟨fun i hi => ?_, fun i j hi hj hij => ?_⟩
  · rw [e i hi]
    have := sumL_one us ws s i hw us.length
    lia
  · rw [e i hi, e j hj]
    have := (sumL_pair us ws s hij hw us.length).2
    lia
theorem mod_one {vs : List Int} (h : PB vs) {a : Nat} (ha : a < vs.length) {m : Int} (m0 : 0 ≤ m) (m1 : m ≤ wAt vs a) : Bd (vs.set a (wAt vs a - m)) := by
  intro i hi
  rw [List.length_set] at hi
  rw [wAt_set ha]
  have := h.1 a ha
  split
  · lia
  · exact h.1 i hi
theorem mod_two {vs : List Int} (h : PB vs) {a t : Nat} (ha : a < vs.length) (ht : t < vs.length) {m : Int} (m0 : 0 ≤ m) (m1 : m ≤ wAt vs a) : Bd ((vs.set a (wAt vs a - m)).set t (wAt (vs.set a (wAt vs a - m)) t + m)) := by
  intro i hi
  rw [List.length_set, List.length_set] at hi
  rw [wAt_set (by rw [List.length_set]; exact ht), wAt_set ha, wAt_set ha]
  have := h.1 a ha
  have := h.1 t ht
  have := h.1 i hi
  by_cases c : i = t
  · subst c
    rw [if_pos rfl]
    by_cases c2 : i = a
    · subst c2; rw [if_pos rfl]; lia
    · rw [if_neg c2]
      have := h.2 i a hi ha c2
      lia
  · rw [if_neg c]
    split <;> lia
theorem met_sums {us : List Un} {ws : List Int} {R C : Nat} (hW : Wi us ws) : Met us (sumL us ws 0 R us.length) (sumL us ws 1 C us.length) R C ws :=
  ⟨hW, fun i hi => (wAt_of (sumL_row us ws hi)).symm, fun j hj => (wAt_of (sumL_col us ws hj)).symm⟩
end Led
set_option Elab.async false
set_option linter.all false
set_option maxRecDepth 100000
set_option maxHeartbeats 4000000
namespace My
open PySem L2 FrM Led
theorem for_zipS {a b : Addr} {xs ys : List V} {g : TG} {tb : TS} {D : Ends} {σ : St} {H : Hp} (he : xs.length ≤ ys.length) (Pv : Nat → St → Hp → Prop) (h0 : Pv 0 σ H) (hl : ∀ i σ H, Pv i σ H → H a = some (.lst xs) ∧ H b = some (.lst ys))
    (hs : ∀ (i : Nat) x y σ H p, xs[i]? = some x → ys[i]? = some y → Pv i σ H → H p = none → g (.ref p) σ (upd H p (.tup [x, y])) fun σ2 H2 => tb { D with nx := Pv (i + 1), ct := Pv (i + 1), bk := D.nx } σ2 H2) (hd : ∀ σ H, Pv xs.length σ H → D.nx σ H) :
    ∃ W : Nat → Nat → St → Hp → Prop, (∃ m, W 0 m σ H) ∧ ∀ i m σ H, W i m σ H →
      ((Itz a b).stop i H ∧ D.nx σ H) ∨ ((Itz a b).go i H ∧ ∃ N : St → Hp → Prop, (∀ σ' H', N σ' H' → ∃ m', m' < m ∧ W (i + 1) m' σ' H') ∧ ∀ x H', (Itz a b).yld i H x H' → g x σ H' fun σ2 H2 => tb { D with nx := N, ct := N, bk := D.nx } σ2 H2) := by
  refine ⟨fun i m σ H => m = xs.length - i ∧ i ≤ xs.length ∧ Pv i σ H, ⟨_, rfl, Nat.zero_le _, h0⟩, ?_⟩
  rintro i m σ H ⟨rfl, hi, p⟩
  obtain ⟨q1, q2⟩ := hl i σ H p
  by_cases hlt : i < xs.length
  · refine .inr ⟨⟨xs, ys, xs[i], ys[i]'(by lia), q1, q2, by simp [hlt], by simp [show i < ys.length by lia]⟩, Pv (i + 1), fun σ' H' p' => ⟨_, by lia, rfl, hlt, p'⟩, fun v H' y => ?_⟩
    obtain ⟨c, x, y, hc, rfl, hx, hy, rfl⟩ := y
    exact hs i x y σ H c (hx xs q1) (hy ys q2) p hc
  · have e : i = xs.length := by lia
    subst e
    exact .inl ⟨⟨xs, ys, q1, q2, .inl (Nat.le_refl _)⟩, hd σ H p⟩
theorem sums_of_bd {vs : List Int} (h6 : vs.length ≤ 6) (h : Bd vs) : Sums vs := ⟨h6, fun v hv => by
  obtain ⟨i, hi⟩ := List.getElem?_of_mem hv
  have := h i (List.getElem?_eq_some_iff.mp hi).1
  rw [wAt_of hi] at this
  exact this⟩
theorem ints_ne (vs : List Int) : PyData.eqv (.list (vs.map PyData.int)) (.list []) = vs.isEmpty := by
  cases vs with
  | nil => simp [PyData.eqv, PyData.eqvAll]
  | cons v vs => simp [PyData.eqv, PyData.eqvAll]
theorem dvs_i {K : PySem.W.Frag} {H : Hp} : ∀ (l : List Int), DVs K H (l.map PyData.int) (l.map V.int)
  | [] => by simp [DVs]
  | c :: l => by rw [List.map_cons, List.map_cons, DVs]; exact ⟨_, _, rfl, by simp [DV], dvs_i l⟩
theorem dv_i {K : PySem.W.Frag} {H : Hp} {p : Addr} {l : List Int} (h : H p = some (.lst (l.map V.int))) : DV K H (.list (l.map PyData.int)) (.ref p) := by
  rw [DV]; exact ⟨p, _, rfl, SqL.of h, dvs_i l⟩
theorem lay_i : ∀ (l : List Int), PyData.canLayAll0 (l.map PyData.int) = true ∧ PyData.depthAll (l.map PyData.int) ≤ 1
  | [] => by simp [PyData.canLayAll0, PyData.depthAll]
  | t :: l => by
    obtain ⟨h1, h2⟩ := lay_i l
    rw [List.map_cons, PyData.canLayAll0, PyData.depthAll, h1, PyData.canLay0]
    refine ⟨rfl, ?_⟩
    simp only [PyData.depth]
    (assumption)
theorem shaped_i (l : List Int) : SeqAt.shaped (.list (l.map PyData.int)) = true := by
  obtain ⟨k1, k2⟩ := lay_i l
  unfold SeqAt.shaped
  rw [PyData.canLay0, k1, Bool.true_and]
  refine decide_eq_true ?_
  simp only [PyData.depth]
  (exact Nat.lt_of_le_of_lt (by assumption) (by decide))
theorem ne_d {K : PySem.W.Frag} {H : Hp} {d : PyData} {x y : V} {Q : VK} (h1 : DV K H d x) (h2 : DV K H d y) (hs : SeqAt.shaped d = true) (q : Q (.bl false) H) : rEqD K true x y H Q := by
  refine ⟨_, _, h1, h2, hs, hs, ?_⟩
  rw [SeqAt.eqv_refl _ (SeqAt.canLay_of_shaped hs)]
  exact q
inductive spWished (K : PySem.W.Frag) (vs : List V) (H : Hp) (Q : VK) (_E : XK) : Prop
  | mk (p lu : Addr) (ns : List Int) (st : Int) (R C : Nat) (us : List Un) (xs : List V) (h0 : vs = [.ref p, .int st, .int (R : Nat), .int (C : Nat), .ref lu]) (h1 : SqL K H p (ns.map V.int)) (h2 : ns.length ≤ 63) (h3 : 0 ≤ st) (h4 : st ≤ 100) (h5 : R ≤ 6) (h6 : C ≤ 6) (h7 : H lu = some (.lst xs)) (h8 : AllU H us xs) (h9 : us.length ≤ 24) (h10 : (∀ u ∈ us, OkN u R C)) (h11 : ∀ H' l lr lc rows cols, Same H H' → H lr = none → H lc = none → lr ≠ lc → H' l = some (.lst [.ref lr, .ref lc]) → H' lr = some (.lst (rows.map V.int)) → H' lc = some (.lst (cols.map V.int)) → rows.length = R → cols.length = C → Sums rows → Sums cols → (cellF ns st / 2 % 4 = 0 → ∃ w, Met us rows cols R C w) → Q (.ref l) H') : spWished K vs H Q _E
section
variable {P : Program} {w : World} {K : PySem.W.Frag} {mg : Str → Option Value} {base : Heap} {a : Ad}
theorem ok_wished (T : Txt K mg a) : FnOk P w K mg base CX0 3 a.f_L_wished a.d_L_wished ["_law_script", "_law_start", "_law_rows", "_law_columns", "_law_units_here"] (spWished K) := by
  have G_L_cell : FnOk P w K mg base CX0 2 _ _ _ (spCell K) := (ok_cell T).mono (by decide)
  have G_L_row : FnOk P w K mg base CX0 2 _ _ _ spRow := ok_row T
  have G_L_sums : FnOk P w K mg base CX0 2 _ _ _ spSumsL := (ok_sumsL T).mono (by decide)
  refine T.F_L_wished.ok sc_L_wished (fun vs H Q E h => ?_) (fun cdv A outer s H vs Q E hr h => ?_)
  · obtain ⟨p, lu, ns, st, R, C, us, xs, rfl, _⟩ := h; rfl
  · obtain ⟨p, lu, ns, st, R, C, us, xs, rfl, hS, hlen, st0, st1, r6, c6, hlu, hall, n24, hok, q⟩ := h
    refine ⟨_, (pss_cons (ps_set (i := 5) sc_L_wished.nd rfl (Or.inl rfl) (pe_call G_L_cell hr rfl T.m_L_cell T.F_L_cell.kp T.B_L_cell .nil pass0 (pa_cons (vr 0) (pa_cons (vr 1) pa_nil)))) (pss_cons (ps_set (i := 6) sc_L_wished.nd rfl (Or.inl rfl) (pe_call G_L_row hr rfl T.m_L_row T.F_L_row.kp T.B_L_row .nil pass0 (pa_cons (pe_call G_L_cell hr rfl T.m_L_cell T.F_L_cell.kp T.B_L_cell .nil pass0 (pa_cons (vr 0) (pa_cons (pe_op o_add (vr 1) pe_int) pa_nil))) (pa_cons (vr 5) (pa_cons pe_int (pa_cons pe_int pa_nil)))))) (pss_cons (ps_set (i := 7) sc_L_wished.nd rfl (Or.inl rfl) (pe_lst pa_nil)) (pss_cons (ps_for PassesOwn.never rfl (pi_zip rfl T.z_zip (pa_cons (vr 4) (pa_cons (vr 6) pa_nil))) (pg_tup rfl (pgs_cons (pg_name (i := 8) sc_L_wished.nd rfl (Or.inl rfl)) (pgs_cons (pg_name (i := 9) sc_L_wished.nd rfl (Or.inl rfl)) pgs_nil))) (pss_one (ps_expr (pe_m.append (vr 7) (pa_cons (pe_op o_add (pe_ix ix_seq (vr 8) pe_int (fun _ _ => rfl)) (pe_op o_mod (vr 9) (pe_op o_add (pe_op o_sub (pe_ix ix_seq (vr 8) pe_int (fun _ _ => rfl)) (pe_ix ix_seq (vr 8) pe_int (fun _ _ => rfl))) pe_int))) pa_nil))))) (pss_cons (ps_set (i := 10) sc_L_wished.nd rfl (Or.inl rfl) (pe_lst (pa_cons (pe_call G_L_sums hr rfl T.m_L_sums T.F_L_sums.kp T.B_L_sums .nil pass0 (pa_cons (vr 4) (pa_cons (vr 7) (pa_cons pe_int (pa_cons (vr 2) pa_nil))))) (pa_cons (pe_call G_L_sums hr rfl T.m_L_sums T.F_L_sums.kp T.B_L_sums .nil pass0 (pa_cons (vr 4) (pa_cons (vr 7) (pa_cons pe_int (pa_cons (vr 3) pa_nil))))) pa_nil)))) (pss_cons (ps_set (i := 11) sc_L_wished.nd rfl (Or.inl rfl) (pe_op o_mod (pe_op o_fdivB (vr 5) pe_int) pe_int)) (pss_cons (ps_set (i := 12) sc_L_wished.nd rfl (Or.inl rfl) (pe_ix ix_seq (vr 10) (pe_op o_mod (pe_op o_fdivB (vr 5) pe_int) pe_int) (fun _ _ => rfl))) (pss_cons (ps_if (PW.pt (pw_and (t_cmp o_gt (vr 11) pe_int (nomark _)) (pw_and1 (t_cmp (o_neD hr.units) (vr 12) (pe_lst pa_nil) (nomark _))))) (pss_cons (ps_set (i := 13) sc_L_wished.nd rfl (Or.inl rfl) (pe_op o_mod (pe_ix ix_seq (vr 6) pe_int (fun _ _ => rfl)) (pe_callB call_lenM rfl T.z_len bt_len (pa_cons (vr 12) pa_nil)))) (pss_cons (ps_set (i := 14) sc_L_wished.nd rfl (Or.inl rfl) (pe_op o_mod (pe_ix ix_seq (vr 6) pe_int (fun _ _ => rfl)) (pe_callB call_lenM rfl T.z_len bt_len (pa_cons (vr 12) pa_nil)))) (pss_cons (ps_set (i := 15) sc_L_wished.nd rfl (Or.inl rfl) (pe_callB (call_min2 rfl) rfl T.z_min bt_min (pa_cons (pe_ix ix_seq (vr 12) (vr 13) (fun _ _ => rfl)) (pa_cons (pe_op o_add pe_int (pe_op o_mod (pe_ix ix_seq (vr 6) pe_int (fun _ _ => rfl)) (pe_ix ix_seq (pe_lst (pa_cons pe_int (pa_cons pe_int (pa_cons pe_int pa_nil)))) (pe_op o_mod (pe_ix ix_seq (vr 6) pe_int (fun _ _ => rfl)) pe_int) (fun _ _ => rfl)))) pa_nil)))) (pss_cons (ps_asg (pe_op o_sub (pe_ix ix_seq (vr 12) (vr 13) (fun _ _ => rfl)) (vr 15)) (pg_sub (vr 12) (vr 13) set_list)) (pss_one (ps_if (t_cmp o_gt (vr 11) pe_int (nomark _)) (pss_one (ps_asg (pe_op o_add (pe_ix ix_seq (vr 12) (vr 14) (fun _ _ => rfl)) (vr 15)) (pg_sub (vr 12) (vr 14) set_list))) pss_nil)))))) pss_nil) (pss_one (ps_ret (vr 10))))))))))), ?_⟩
    have sl : sizeLine = 16777216 := sizeLine_eq
    have xl : us.length = xs.length := Paired.length hall
    refine ⟨p, ns, st, rfl, hS, hlen, by (assumption), by (exact Int.le_trans (by assumption) (by decide)), ?_⟩
    obtain ⟨bit, hbit⟩ : ∃ b, cellF ns st = b := ⟨_, rfl⟩
    rw [hbit] at q ⊢
    refine ⟨p, ns, st + 1, rfl, hS, hlen, by (exact Int.add_nonneg (by assumption) (by decide)), by (exact Int.lt_of_le_of_lt (by assumption) (by decide)), ?_⟩
    refine ⟨_, bit, 30, _, rfl, by decide, by decide, rfl, fun H1 lr' rs s1 f1 hl1 hln hnn => ?_⟩
    refine ⟨Nat.zero_le _, fun lw hlw => ?_⟩
    have s2 := s1.trans (Same.new (o := .lst []) hlw)
    have flw := s1.free hlw
    have hl2 := (Same.new (o := .lst []) hlw) _ _ hl1
    have nl2 : lr' ≠ lw := fun z => by rw [z, hlw] at hl1; cases hl1
    refine ⟨lu, lr', _, _, rfl, s2 _ _ hlu, hl2, ?_⟩
    refine for_zipS (a := lu) (b := lr') (xs := xs) (ys := rs.map V.int) (by rw [List.length_map]; lia) (fun i σ H' => ∃ (ws : List Int) (x8 x9 : Option V), Same H H' ∧ H' lr' = some (.lst (rs.map V.int)) ∧ H' lw = some (.lst (ws.map V.int)) ∧ ws.length = i ∧ (∀ j < i, (uAt us j).lo ≤ wAt ws j ∧ wAt ws j ≤ (uAt us j).hi) ∧ σ = [some (.ref p), some (.int st), some (.int (R : Nat)), some (.int (C : Nat)), some (.ref lu), some (.int bit), some (.ref lr'), some (.ref lw), x8, x9, none, none, none, none, none, none]) ⟨[], none, none, s2, hl2, upd_same, rfl, (fun j hj => by lia), rfl⟩ (fun i σ H' h => by obtain ⟨ws, x8, x9, g1, g2, _⟩ := h; exact ⟨g1 _ _ hlu, g2⟩) ?_ ?_
    · rintro i x y σ H3 pt hx hy ⟨ws, x8, x9, s3, hr3, hw3, wl, wb, rfl⟩ hpt
      obtain ⟨u, hu, hU⟩ := pget hall hx
      obtain ⟨v, hv, rfl⟩ := int_of hy
      have ilt := (List.getElem?_eq_some_iff.mp hu).1
      obtain ⟨u1, u2, u3, u4, u5⟩ := hok u (List.mem_of_getElem? hu)
      have s4 := Same.new (o := .tup [x, .int v]) hpt
      obtain ⟨pu, rfl, hpu⟩ := hU.tu (s3.trans s4).tu
      have hw4 := s4 _ _ hw3
      refine ⟨pt, _, rfl, SqT.of upd_same, rfl, _, _, rfl, _, _, rfl, rfl, ?_⟩
      refine ⟨.inl ⟨rfl, _, SqL.of hw4⟩, ?_⟩
      refine .inr (.inl ⟨pu, _, _, _, rfl, rfl, SqT.of hpu, atI_cons 2 rfl rfl, ?_⟩)
      refine .inr (.inl ⟨pu, _, _, _, rfl, rfl, SqT.of hpu, atI_cons 3 rfl rfl, ?_⟩)
      refine .inr (.inl ⟨pu, _, _, _, rfl, rfl, SqT.of hpu, atI_cons 2 rfl rfl, ?_⟩)
      refine ⟨cp (by lia), ?_⟩
      refine ⟨lw, _, _, rfl, rfl, hw4, by rw [List.length_map]; lia, ?_⟩
      have m0 := Int.emod_nonneg v (show u.hi - u.lo + 1 ≠ 0 by lia)
      have m1 := Int.emod_lt_of_pos v (show 0 < u.hi - u.lo + 1 by lia)
      refine ⟨ws ++ [u.lo + v % (u.hi - u.lo + 1)], _, _, (s3.trans s4).put flw, by rw [upd_ne nl2]; exact s4 _ _ hr3, by rw [upd_same, List.map_append]; rfl, by rw [List.length_append, wl]; rfl, fun j hj => ?_, rfl⟩
      by_cases c : j < i
      · have e : wAt (ws ++ [u.lo + v % (u.hi - u.lo + 1)]) j = wAt ws j := by unfold wAt; rw [List.getD, List.getD, List.getElem?_append_left (by lia)]
        rw [e]
        exact wb j c
      · have ej : j = i := by lia
        subst ej
        have e : wAt (ws ++ [u.lo + v % (u.hi - u.lo + 1)]) j = u.lo + v % (u.hi - u.lo + 1) := wAt_of (by rw [List.getElem?_append_right (by lia), wl, Nat.sub_self]; rfl)
        rw [e, uAt_of hu]
        lia
    rintro σ H3 ⟨ws, x8, x9, s3, hr3, hw3, wl, wb, rfl⟩
    rw [← xl] at wl wb
    have hW : Wi us ws := ⟨wl, wb⟩
    have hwb : ∀ p, 0 ≤ wAt ws p ∧ wAt ws p ≤ 1000000 := fun p => by
      by_cases c : p < us.length
      · have h1 := wb p c
        have h2 := hok (uAt us p) (by rw [uAt_of (List.getElem?_eq_getElem c)]; exact List.getElem_mem c)
        obtain ⟨_, _, z1, _, z2⟩ := h2
        lia
      · have e : wAt ws p = 0 := by unfold wAt; rw [List.getD, List.getElem?_eq_none (by lia)]; rfl
        rw [e]; (decide)
    refine ⟨lw, lu, ws, us, xs, 0, R, rfl, hw3, s3 _ _ hlu, hall.tu s3.tu, wl, by (decide), r6, fun u hu => (hok u hu).1, fun A H4 s4 fA hA => ?_⟩
    have s04 := s3.trans s4
    refine ⟨lw, lu, ws, us, xs, 1, C, rfl, s4 _ _ hw3, s04 _ _ hlu, hall.tu s04.tu, wl, by (decide), c6, fun u hu => (hok u hu).2.1, fun B H5 s5 fB hB => ?_⟩
    have nAB : A ≠ B := fun z => by rw [z] at hA; rw [hA] at fB; cases fB
    refine ⟨(by show 2 ≤ sizeLine; (decide)), fun L hL => ?_⟩
    have s05 := s04.trans s5
    have fA0 := s3.free fA
    have fB0 := s04.free fB
    have s56 := Same.new (o := .lst [.ref A, .ref B]) hL
    have hA6 := s56 _ _ (s5 _ _ hA)
    have hB6 := s56 _ _ hB
    have hr6 := s56 _ _ (s5 _ _ (s4 _ _ hr3))
    have s06 := s05.trans s56
    have hL6 := upd_same (H := H5) (a := L) (o := .lst [.ref A, .ref B])
    have nLA : A ≠ L := fun z => by have := s5 _ _ hA; rw [z, hL] at this; cases this
    have nLB : B ≠ L := fun z => by rw [z, hL] at hB; cases hB
    generalize upd H5 L (.lst [.ref A, .ref B]) = H6 at s56 hA6 hB6 hr6 s06 hL6
    have pA := pb_sum (ws := ws) n24 hwb 0 R
    have pB := pb_sum (ws := ws) n24 hwb 1 C
    have lA := sumL_len us ws 0 R us.length
    have lB := sumL_len us ws 1 C us.length
    refine ⟨cdB (by decide) (show Bt 40 (2 : Int) by unfold Bt; decide), cp, ?_⟩
    refine ⟨cdB (by decide) (show Bt 40 (8 : Int) by unfold Bt; decide), cp, ?_⟩
    -- which one
    have hmet := met_sums (R := R) (C := C) hW
    have nAr : A ≠ lr' := fun z => by rw [z, hr3] at fA; cases fA
    have nBr : B ≠ lr' := fun z => by rw [z, s4 _ _ hr3] at fB; cases fB
    obtain ⟨X, vs, hat, hX, pX, vl, fX, nXL, nXr, fin⟩ : ∃ (X : Addr) (vs : List Int), atI [V.ref A, .ref B] (bit / 8 % 2) = some (.ref X) ∧ H6 X = some (.lst (vs.map V.int)) ∧ PB vs ∧ vs.length ≤ 6 ∧ H X = none ∧ X ≠ L ∧ X ≠ lr' ∧ (∀ (vs' : List Int) H', Same H H' → H' X = some (.lst (vs'.map V.int)) → (∀ b o, b ≠ X → H6 b = some o → H' b = some o) → vs'.length = vs.length → Bd vs' → (bit / 2 % 4 = 0 → vs' = vs) → Q (.ref L) H') := by
      have h2 : bit / 8 % 2 = ((0 : Nat) : Int) ∨ bit / 8 % 2 = ((1 : Nat) : Int) := by lia
      rcases h2 with e | e
      · exact ⟨A, _, atI_cons _ e.symm rfl, hA6, pA, by lia, fA0, nLA, nAr, fun vs' H' s' hX' ho hl hb hz => q H' L A B vs' _ s' fA0 fB0 nAB (ho L _ (Ne.symm nLA) hL6) hX' (ho B _ (Ne.symm nAB) hB6) (by lia) lB (sums_of_bd (by lia) hb) (sums_of_bd (by lia) pB.1) fun h0 => ⟨ws, by rw [hz h0]; exact hmet⟩⟩
      · exact ⟨B, _, atI_cons _ e.symm rfl, hB6, pB, by lia, fB0, nLB, nBr, fun vs' H' s' hX' ho hl hb hz => q H' L A B _ vs' s' fA0 fB0 nAB (ho L _ (Ne.symm nLB) hL6) (ho A _ nAB hA6) hX' lA (by lia) (sums_of_bd (by lia) pA.1) (sums_of_bd (by lia) hb) fun h0 => ⟨ws, by rw [hz h0]; exact hmet⟩⟩
    refine .inl ⟨L, _, _, _, rfl, rfl, SqL.of hL6, hat, ?_⟩
    refine ifC (fun c => ?_) (fun c => fin vs H6 s06 hX (fun b o _ h => h) rfl pX.1 fun _ => rfl)
    refine ⟨Nat.zero_le _, fun eL heL => ?_⟩
    have s67 := Same.new (o := .lst []) heL
    have hX7 := s67 _ _ hX
    have hr7 := s67 _ _ hr6
    have s07 := s06.trans s67
    refine ⟨_, _, dv_i (l := vs) hX7, (dv_i (l := []) upd_same), shaped_i vs, shaped_i [], ?_⟩
    have hne : PyData.eqv (.list (vs.map PyData.int)) (.list (([] : List Int).map PyData.int)) = vs.isEmpty := ints_ne vs
    rw [hne]
    generalize upd H6 eL (.lst []) = H7 at s67 hX7 hr7 s07
    cases hvs : vs.isEmpty with
    | true => exact fin vs H7 s07 hX7 (fun b o _ h => s67 _ _ h) rfl pX.1 fun _ => rfl
    | false =>
      have vpos : 0 < vs.length := by
        cases vs with
        | nil => cases hvs
        | cons _ _ => exact Nat.succ_pos _
      have vI : ((vs.map V.int).length : Int) = (vs.length : Int) := by rw [List.length_map]
      have ix : ∀ k : Nat, ∃ m : Nat, ((m : Nat) : Int) = rs.getD k 0 % ((vs.map V.int).length : Int) ∧ m < vs.length := fun k => ⟨(rs.getD k 0 % ((vs.map V.int).length : Int)).toNat, Int.toNat_of_nonneg (Int.emod_nonneg _ (by lia)), by have h1 := Int.emod_lt_of_pos (rs.getD k 0) (show 0 < ((vs.map V.int).length : Int) by lia); have h2 := Int.emod_nonneg (rs.getD k 0) (show ((vs.map V.int).length : Int) ≠ 0 by lia); lia⟩
      obtain ⟨ka, ea, la⟩ := ix 24
      obtain ⟨kt, et, lt⟩ := ix 25
      have ga : vs[ka]? = some (wAt vs ka) := by rw [wAt_of (List.getElem?_eq_getElem la)]; exact List.getElem?_eq_getElem la
      have eA : ∀ us' : List Int, us'.length = vs.length → atI (us'.map V.int) (rs.getD 24 0 % ((vs.map V.int).length : Int)) = some (.int (wAt us' ka)) := fun us' hl => by rw [← ea]; exact ints_at (by rw [wAt_of (List.getElem?_eq_getElem (by lia))]; exact List.getElem?_eq_getElem (by lia))
      have eT : ∀ us' : List Int, us'.length = vs.length → atI (us'.map V.int) (rs.getD 25 0 % ((vs.map V.int).length : Int)) = some (.int (wAt us' kt)) := fun us' hl => by rw [← et]; exact ints_at (by rw [wAt_of (List.getElem?_eq_getElem (by lia))]; exact List.getElem?_eq_getElem (by lia))
      have rl : rs.length = 30 := by lia
      refine .inl ⟨lr', _, _, _, rfl, rfl, SqL.of hr7, at_get (k := 24) (by lia), ?_⟩
      refine ⟨_, .inl (SqL.of hX7), cp (by lia), ?_⟩
      refine .inl ⟨lr', _, _, _, rfl, rfl, SqL.of hr7, at_get (k := 25) (by lia), ?_⟩
      refine ⟨_, .inl (SqL.of hX7), cp (by lia), ?_⟩
      refine .inl ⟨X, _, _, _, rfl, rfl, SqL.of hX7, eA vs rfl, ?_⟩
      refine .inl ⟨lr', _, _, _, rfl, rfl, SqL.of hr7, at_get (k := 26) (by lia), ?_⟩
      refine ⟨(by show 3 ≤ sizeLine; (decide)), fun p8 hp8 => ?_⟩
      have s78 := Same.new (o := .lst [.int 2, .int 1000, .int 1000003]) hp8
      have hX8 := s78 _ _ hX7
      have hr8 := s78 _ _ hr7
      have s08 := s07.trans s78
      refine .inl ⟨lr', _, _, _, rfl, rfl, SqL.of hr8, at_get (k := 27) (by lia), ?_⟩
      refine ⟨cp, ?_⟩
      obtain ⟨top, hat2, t1⟩ : ∃ hv : Int, atI [V.int 2, .int 1000, .int 1000003] (rs.getD 27 0 % 3) = some (.int hv) ∧ 1 ≤ hv := by
        have h3 : rs.getD 27 0 % 3 = ((0 : Nat) : Int) ∨ rs.getD 27 0 % 3 = ((1 : Nat) : Int) ∨ rs.getD 27 0 % 3 = ((2 : Nat) : Int) := by lia
        rcases h3 with e | e | e
        · exact ⟨_, atI_cons _ e.symm rfl, by decide⟩
        · exact ⟨_, atI_cons _ e.symm rfl, by decide⟩
        · exact ⟨_, atI_cons _ e.symm rfl, by decide⟩
      refine .inl ⟨p8, _, _, _, rfl, rfl, SqL.of upd_same, hat2, ?_⟩
      generalize upd H7 p8 (.lst [.int 2, .int 1000, .int 1000003]) = H8 at s78 hX8 hr8 s08
      refine ⟨cp (by (assumption)), ?_⟩
      refine ⟨_, _, rfl, ?_⟩
      obtain ⟨m, hm⟩ : ∃ m : Int, m = if 1 + rs.getD 26 0 % top < wAt vs ka then 1 + rs.getD 26 0 % top else wAt vs ka := ⟨_, rfl⟩
      have r26 := Int.emod_nonneg (rs.getD 26 0) (show top ≠ 0 by (exact Int.ne_of_gt (by assumption)))
      have va := pX.1 ka la
      have m0 : 0 ≤ m := by rw [hm]; split <;> lia
      have m1 : m ≤ wAt vs ka := by rw [hm]; split <;> lia
      refine .inl ⟨X, _, _, _, rfl, rfl, SqL.of hX8, eA vs rfl, ?_⟩
      refine ⟨X, _, _, ka, rfl, rfl, hX8, by rw [← ea]; exact ixN_nat (by rw [List.length_map]; exact la), ?_⟩
      have s09 := s08.put (o := .lst ((vs.map V.int).set ka (.int (wAt vs ka - m)))) fX
      have hX9 : (upd H8 X (.lst ((vs.map V.int).set ka (.int (wAt vs ka - m))))) X = some (.lst ((vs.set ka (wAt vs ka - m)).map V.int)) := by rw [upd_same, List.map_set]
      have o9 : ∀ b o, b ≠ X → H6 b = some o → (upd H8 X (.lst ((vs.map V.int).set ka (.int (wAt vs ka - m))))) b = some o := fun b o nb h => by rw [upd_ne nb]; exact (s67.trans s78) _ _ h
      have way0 : bit / 2 % 4 = 0 → False := fun z => by lia
      subst hm
      refine ifC (fun c2 => ?_) (fun c2 => fin _ _ s09 hX9 o9 (by rw [List.length_set]) (mod_one pX la m0 m1) fun z => (way0 z).elim)
      refine .inl ⟨X, _, _, _, rfl, rfl, SqL.of hX9, eT _ (by rw [List.length_set]), ?_⟩
      refine ⟨X, _, _, kt, rfl, rfl, hX9, by rw [← et]; exact ixN_nat (by rw [List.length_map, List.length_set]; exact lt), ?_⟩
      refine fin _ _ (s09.put fX) (by rw [upd_same, ← List.map_set]) (fun b o nb h => by rw [upd_ne nb]; exact o9 b o nb h) (by rw [List.length_set, List.length_set]) (mod_two pX la lt m0 m1) fun z => (way0 z).elim
end
end My
set_option linter.all false
set_option maxHeartbeats 1000000
namespace Led
theorem onK_mem {k : En → Bool} {s R : Nat} {v : Int} : v ∈ onK k s R ↔ ∃ i : Nat, i < R ∧ k (s, i) = true ∧ v = (i : Int) := by
  unfold onK
  rw [List.mem_map]
  constructor
  · rintro ⟨i, hi, rfl⟩
    obtain ⟨h1, h2⟩ := List.mem_filter.mp hi
    exact ⟨i, List.mem_range.mp h1, h2, rfl⟩
  · rintro ⟨i, h1, h2, rfl⟩
    exact ⟨i, List.mem_filter.mpr ⟨List.mem_range.mpr h1, h2⟩, rfl⟩
theorem onK_nat {k : En → Bool} {s R i : Nat} (h : i < R) : ((i : Int) ∈ onK k s R) ↔ k (s, i) = true := by
  rw [onK_mem]
  constructor
  · rintro ⟨j, _, h2, e⟩
    have : i = j := by lia
    rw [this]; exact h2
  · intro h2; exact ⟨i, h, h2, rfl⟩
theorem onK_len (k : En → Bool) (s R : Nat) : (onK k s R).length ≤ R := by
  unfold onK
  rw [List.length_map]
  exact Nat.le_trans (List.length_filter_le ..) (by rw [List.length_range]; exact Nat.le_refl _)
theorem onK_rise (k : En → Bool) (s R : Nat) : (onK k s R).Pairwise (· < ·) := List.pairwise_map.mpr (List.Pairwise.imp (fun h => by lia) ((List.pairwise_lt_range (n := R)).sublist List.filter_sublist))
theorem filt_sum (f : Nat → Int) (k : Nat → Bool) : ∀ R, (((List.range R).filter k).map f).sum = sI (fun i => if k i = true then f i else 0) R
  | 0 => rfl
  | R + 1 => by
    rw [List.range_succ, List.filter_append, List.map_append, List.sum_append, filt_sum f k R, sI]
    cases h : k R with
    | true => rw [List.filter_cons_of_pos h]; simp
    | false => rw [List.filter_cons_of_neg (by rw [h]; exact Bool.false_ne_true)]; simp
theorem onK_sum (k : En → Bool) (s R : Nat) (l : List Int) : ((onK k s R).map fun v => wAt l v.toNat).sum = sI (fun i => if k (s, i) = true then wAt l i else 0) R := by
  unfold onK
  rw [List.map_map]
  exact filt_sum (wAt l) (fun i => k (s, i)) R
theorem units_sum (us : List Un) (p : Un → Bool) (g : Un → Int) : ((us.filter p).map g).sum = sI (fun q => if p (uAt us q) = true then g (uAt us q) else 0) us.length := by
  suffices h : ∀ n, n ≤ us.length → (((us.take n).filter p).map g).sum = sI (fun q => if p (uAt us q) = true then g (uAt us q) else 0) n by
    have := h us.length (Nat.le_refl _)
    rw [List.take_of_length_le (Nat.le_refl _)] at this
    exact this
  intro n
  induction n with
  | zero => intro _; rfl
  | succ n ih =>
    intro hn
    have e : us[n]? = some us[n] := List.getElem?_eq_getElem (by lia)
    have tk : us.take (n + 1) = us.take n ++ [us[n]] := by rw [List.take_add_one, e]; rfl
    rw [tk, List.filter_append, List.map_append, List.sum_append, ih (by lia), sI, uAt_of e]
    cases h : p us[n] with
    | true => rw [List.filter_cons_of_pos h]; simp
    | false => rw [List.filter_cons_of_neg (by rw [h]; exact Bool.false_ne_true)]; simp
noncomputable def outB (k : En → Bool) (u : Un) : Bool := k (0, u.r) && !k (1, u.c)
noncomputable def inB (k : En → Bool) (u : Un) : Bool := k (1, u.c) && !k (0, u.r)
theorem outer_eq (us : List Un) (k : En → Bool) (g : Un → Int) : outer us [] k (fun u _ => g u) = sI (fun q => if outB k (uAt us q) = true then g (uAt us q) else 0) us.length := sI_congr fun p _ => by
  unfold outB
  by_cases c1 : k (0, (uAt us p).r) = true <;> by_cases c2 : k (1, (uAt us p).c) = true <;> simp [c1, c2]
theorem inner_eq (us : List Un) (k : En → Bool) (g : Un → Int) : inner us [] k (fun u _ => g u) = sI (fun q => if inB k (uAt us q) = true then g (uAt us q) else 0) us.length := sI_congr fun p _ => by
  unfold inB
  by_cases c1 : k (0, (uAt us p).r) = true <;> by_cases c2 : k (1, (uAt us p).c) = true <;> simp [c1, c2]
theorem met_rows {us : List Un} {rows cols ws : List Int} {R C : Nat} (hr : rows.length = R) (hc : cols.length = C) (hm : Met us rows cols R C ws) : sumL us ws 0 R us.length = rows ∧ sumL us ws 1 C us.length = cols := by
  obtain ⟨_, h1, h2⟩ := hm
  refine ⟨List.ext_getElem? fun i => ?_, List.ext_getElem? fun i => ?_⟩
  · by_cases h : i < R
    · rw [sumL_row us ws h, h1 i h]
      have e : rows[i]? = some rows[i] := List.getElem?_eq_getElem (by lia)
      rw [e, wAt_of e]
    · rw [List.getElem?_eq_none (by rw [sumL_len]; lia), List.getElem?_eq_none (by lia)]
  · by_cases h : i < C
    · rw [sumL_col us ws h, h2 i h]
      have e : cols[i]? = some cols[i] := List.getElem?_eq_getElem (by lia)
      rw [e, wAt_of e]
    · rw [List.getElem?_eq_none (by rw [sumL_len]; lia), List.getElem?_eq_none (by lia)]
end Led
set_option linter.all false
set_option maxHeartbeats 1000000
namespace Led
noncomputable def riseL (ns : List Int) (R : Nat) : List Int := ((List.range R).filter fun (i : Nat) => decide (((i : Nat) : Int) ∈ ns)).map fun (i : Nat) => (i : Int)
noncomputable def kOf (so ot : List Int) : En → Bool := fun e => if e.1 = 0 then decide ((e.2 : Int) ∈ so) else decide ((e.2 : Int) ∈ ot)
noncomputable def wiB (us : List Un) (w : List Int) (n : Nat) : Bool := (List.range n).all fun p => decide ((uAt us p).lo ≤ wAt w p ∧ wAt w p ≤ (uAt us p).hi)
theorem wiB_succ (us : List Un) (w : List Int) (n : Nat) : wiB us w (n + 1) = (wiB us w n && decide ((uAt us n).lo ≤ wAt w n ∧ wAt w n ≤ (uAt us n).hi)) := by
  unfold wiB
  rw [List.range_succ, List.all_append]
  simp
noncomputable def metB (us : List Un) (rows cols : List Int) (R C : Nat) (w : List Int) : Bool := decide (w.length = us.length) && (wiB us w us.length && (decide (sumL us w 0 R us.length = rows) && decide (sumL us w 1 C us.length = cols)))
noncomputable def cutB (us : List Un) (rows cols : List Int) (R C : Nat) (ov : Bool) (k : En → Bool) : Bool := match ov with
  | true => decide (inT cols C k - iLo us k < inS rows R k - oHi us k)
  | false => decide (inS rows R k - oLo us k < inT cols C k - iHi us k)
noncomputable def rightB (us : List Un) (rows cols : List Int) (R C : Nat) : Told → Bool
  | .ws w => metB us rows cols R C w
  | .no ov so ot => decide (so = riseL so R) && (decide (ot = riseL ot C) && cutB us rows cols R C ov (kOf so ot))
theorem rise_iff {ns : List Int} {R : Nat} : ns = riseL ns R ↔ (∀ v ∈ ns, 0 ≤ v ∧ v ≤ (R : Int) - 1) ∧ ns.Pairwise (· < ·) := by
  constructor
  · intro h
    refine ⟨fun v hv => ?_, ?_⟩
    · rw [h] at hv
      unfold riseL at hv
      obtain ⟨i, hi, rfl⟩ := List.mem_map.mp hv
      have := List.mem_range.mp (List.mem_filter.mp hi).1
      lia
    · rw [h]
      exact onK_rise (fun e => decide ((e.2 : Int) ∈ ns)) 0 R
  · rintro ⟨h1, h2⟩
    have nd : ns.Nodup := List.Pairwise.imp (fun h z => by lia) h2
    have r2 : (riseL ns R).Pairwise (· < ·) := onK_rise (fun e => decide ((e.2 : Int) ∈ ns)) 0 R
    have nd2 : (riseL ns R).Nodup := List.Pairwise.imp (fun h z => by lia) r2
    have pm : ns.Perm (riseL ns R) := (List.perm_ext_iff_of_nodup nd nd2).mpr fun v => by
      unfold riseL
      rw [List.mem_map]
      constructor
      · intro hv
        have b := h1 v hv
        have e : ((v.toNat : Nat) : Int) = v := Int.toNat_of_nonneg b.1
        exact ⟨v.toNat, List.mem_filter.mpr ⟨List.mem_range.mpr (by lia), decide_eq_true (by rw [e]; exact hv)⟩, e⟩
      · rintro ⟨i, hi, rfl⟩
        exact of_decide_eq_true (List.mem_filter.mp hi).2
    exact List.Perm.eq_of_pairwise (fun a b _ _ h1 h2 => Int.le_antisymm h1 h2) (List.Pairwise.imp (fun h => by lia) h2) (List.Pairwise.imp (fun h => by lia) r2) pm
end Led
set_option Elab.async false
set_option linter.all false
set_option maxRecDepth 100000
set_option maxHeartbeats 4000000
namespace My
open PySem L2 FrM Led
theorem flat_ints : ∀ vs : List Int, (vs.map V.int).all flatV = true
  | [] => rfl
  | _ :: vs => by rw [List.map_cons, List.all_cons, flat_ints vs]; rfl
theorem inV_ints (v : Int) : ∀ vs : List Int, inV (.int v) (vs.map V.int) = decide (v ∈ vs)
  | [] => rfl
  | x :: vs => by
    have ih := inV_ints v vs
    unfold inV at ih ⊢
    rw [List.map_cons, List.any_cons, ih]
    have e : eqV (.int x) (.int v) = decide (x = v) := rfl
    rw [e, Bool.eq_iff_iff]
    simp only [Bool.or_eq_true, decide_eq_true_eq, List.mem_cons]
    constructor
    · rintro (h | h)
      · exact .inl h.symm
      · exact .inr h
    · rintro (h | h)
      · exact .inl h.symm
      · exact .inr h
theorem inK {k : En → Bool} {s R i : Nat} (h : i < R) : inV (.int (i : Nat)) ((onK k s R).map V.int) = k (s, i) := by
  rw [inV_ints, Bool.eq_iff_iff, decide_eq_true_iff]
  exact onK_nat h
structure Rc (H : Hp) (lr lc lu : Addr) (rows cols : List Int) (us : List Un) (xs : List V) (R C : Nat) : Prop where
  r : H lr = some (.lst (rows.map V.int))
  c : H lc = some (.lst (cols.map V.int))
  u : H lu = some (.lst xs)
  all : AllU H us xs
  lr : rows.length = R
  lc : cols.length = C
  r6 : R ≤ 6
  c6 : C ≤ 6
  n : us.length ≤ 24
  ok : ∀ u ∈ us, OkN u R C
theorem Rc.same {H H' : Hp} {lr lc lu : Addr} {rows cols : List Int} {us : List Un} {xs : List V} {R C : Nat} (s : Same H H') (h : Rc H lr lc lu rows cols us xs R C) : Rc H' lr lc lu rows cols us xs R C := ⟨s _ _ h.r, s _ _ h.c, s _ _ h.u, h.all.tu s.tu, h.lr, h.lc, h.r6, h.c6, h.n, h.ok⟩
theorem Rc.t {H H' : Hp} {lr lc lu : Addr} {rows cols : List Int} {us : List Un} {xs : List V} {R C : Nat} (s : SameT H H') (h : Rc H lr lc lu rows cols us xs R C) : Rc H' lr lc lu rows cols us xs R C := ⟨s.at h.r, s.at h.c, s.at h.u, h.all.tu fun b xs e => s.at e, h.lr, h.lc, h.r6, h.c6, h.n, h.ok⟩
inductive spWeights (vs : List V) (H : Hp) (Q : VK) (_E : XK) : Prop
  | mk (lr lc lu lw : Addr) (rows cols w : List Int) (us : List Un) (xs : List V) (R C : Nat) (h0 : vs = [.ref lr, .ref lc, .ref lu, .ref lw]) (h1 : Rc H lr lc lu rows cols us xs R C) (h2 : H lw = some (.lst (w.map V.int))) (h3 : ∀ H', Same H H' → Q (.bl (metB us rows cols R C w)) H') : spWeights vs H Q _E
inductive spNums (vs : List V) (H : Hp) (Q : VK) (_E : XK) : Prop
  | mk (l : Addr) (ns : List Int) (R : Nat) (h0 : vs = [.ref l, .int (R : Nat)]) (h1 : H l = some (.lst (ns.map V.int))) (h2 : R ≤ 6) (h3 : ns.length ≤ 100) (h4 : ∀ H', Same H H' → Q (.bl (decide (ns = riseL ns R))) H') : spNums vs H Q _E
inductive spCut (vs : List V) (H : Hp) (Q : VK) (_E : XK) : Prop
  | mk (lr lc lu l1 l2 : Addr) (rows cols : List Int) (us : List Un) (xs : List V) (R C : Nat) (ov : Bool) (so ot : List Int) (h0 : vs = [.ref lr, .ref lc, .ref lu, .str (wordS ov), .ref l1, .ref l2]) (h1 : Rc H lr lc lu rows cols us xs R C) (h2 : H l1 = some (.lst (so.map V.int))) (h3 : H l2 = some (.lst (ot.map V.int))) (h4 : so.length ≤ 100) (h5 : ot.length ≤ 100) (h6 : ∀ H', Same H H' → Q (.bl (decide (so = riseL so R) && (decide (ot = riseL ot C) && cutB us rows cols R C ov (kOf so ot)))) H') : spCut vs H Q _E
theorem eqv_all : ∀ a b : List Int, PyData.eqvAll (a.map PyData.int) (b.map PyData.int) = decide (a = b)
  | [], [] => rfl
  | [], _ :: _ => rfl
  | _ :: _, [] => rfl
  | x :: a, y :: b => by
    rw [List.map_cons, List.map_cons, PyData.eqvAll, eqv_all a b, Bool.eq_iff_iff]
    simp [PyData.eqv]
theorem eqv_ints (a b : List Int) : PyData.eqv (.list (a.map PyData.int)) (.list (b.map PyData.int)) = decide (a = b) := by rw [PyData.eqv]; exact eqv_all a b
theorem wi_no {us : List Un} {w : List Int} {i : Nat} (hi : i < us.length) (h : ¬ ((uAt us i).lo ≤ wAt w i ∧ wAt w i ≤ (uAt us i).hi)) : wiB us w us.length = false := by
  cases hb : wiB us w us.length with
  | false => rfl
  | true =>
    unfold wiB at hb
    rw [List.all_eq_true] at hb
    exact absurd (of_decide_eq_true (hb i (List.mem_range.mpr hi))) h
section
variable {P : Program} {w : World} {K : PySem.W.Frag} {mg : Str → Option Value} {base : Heap} {a : Ad}
theorem ok_weights (T : Txt K mg a) : FnOk P w K mg base CX0 2 a.f_L_weights a.d_L_weights ["_law_rows", "_law_columns", "_law_units_here", "_law_weights_here"] spWeights := by
  have G_L_whole : FnOk P w K mg base CX0 1 _ _ _ spWholeL := ok_wholeL T
  have G_L_sums : FnOk P w K mg base CX0 1 _ _ _ spSumsL := ok_sumsL T
  refine T.F_L_weights.ok sc_L_weights (fun vs H Q E h => ?_) (fun cdv A outer s H vs Q E hr h => ?_)
  · obtain ⟨lr, lc, lu, lw, rows, cols, w, us, xs, R, C, rfl, _⟩ := h; rfl
  · obtain ⟨lr, lc, lu, lw, rows, cols, ws, us, xs, R, C, rfl, hR, hw, q⟩ := h
    refine ⟨_, (pss_cons (ps_if (PW.pt (pw_or (pt_not (t_val (pe_callB call_isi rfl T.z_isinstance bt_isinstance (pa_cons (vr 3) (pa_cons (pe_bltn (v := .ty "list") rfl T.z_list bt_list rfl) pa_nil))))) (pw_or1 (t_cmp o_ne (pe_callB call_lenM rfl T.z_len bt_len (pa_cons (vr 3) pa_nil)) (pe_callB call_lenM rfl T.z_len bt_len (pa_cons (vr 2) pa_nil)) (nomark _))))) (pss_one (ps_ret pe_bl)) pss_nil) (pss_cons (ps_for PassesOwn.never rfl (pi_zip rfl T.z_zip (pa_cons (vr 2) (pa_cons (vr 3) pa_nil))) (pg_tup rfl (pgs_cons (pg_name (i := 4) sc_L_weights.nd rfl (Or.inl rfl)) (pgs_cons (pg_name (i := 5) sc_L_weights.nd rfl (Or.inl rfl)) pgs_nil))) (pss_one (ps_if (PW.pt (pw_or (pt_not (t_val (pe_call G_L_whole hr rfl T.m_L_whole T.F_L_whole.kp T.B_L_whole .nil pass0 (pa_cons (vr 5) pa_nil)))) (pw_or1 (pt_not (t_chain o_le o_le (pe_ix ix_seq (vr 4) pe_int (fun _ _ => rfl)) (vr 5) (pe_ix ix_seq (vr 4) pe_int (fun _ _ => rfl))))))) (pss_one (ps_ret pe_bl)) pss_nil))) (pss_cons (ps_if (t_cmp (o_neD hr.units) (pe_call G_L_sums hr rfl T.m_L_sums T.F_L_sums.kp T.B_L_sums .nil pass0 (pa_cons (vr 2) (pa_cons (vr 3) (pa_cons pe_int (pa_cons (pe_callB call_lenM rfl T.z_len bt_len (pa_cons (vr 0) pa_nil)) pa_nil))))) (vr 0) (nomark _)) (pss_one (ps_ret pe_bl)) pss_nil) (pss_one (ps_ret (pe_cmpR (o_eqD hr.units) (pe_call G_L_sums hr rfl T.m_L_sums T.F_L_sums.kp T.B_L_sums .nil pass0 (pa_cons (vr 2) (pa_cons (vr 3) (pa_cons pe_int (pa_cons (pe_callB call_lenM rfl T.z_len bt_len (pa_cons (vr 1) pa_nil)) pa_nil))))) (vr 1) (nomark _))))))), ?_⟩
    have xl : us.length = xs.length := Paired.length hR.all
    refine ⟨_, _, _, true, rfl, rfl, .lst hw, rfl, ⟨_, .inl (SqL.of hw), ⟨_, .inl (SqL.of hR.u), ?_⟩⟩⟩
    rw [List.length_map, ← xl]
    unfold metB at q
    by_cases wl : ws.length = us.length
    case neg =>
      rw [decide_eq_false wl, Bool.false_and] at q
      refine ite2 (fun _ => q _ (Same.refl H)) fun z => absurd ?_ wl
      simp at z
      lia
    rw [decide_eq_true wl, Bool.true_and] at q
    rw [wl]
    refine iteNS rfl ?_
    refine ⟨lu, lw, _, _, rfl, hR.u, hw, ?_⟩
    refine for_zip (a := lu) (b := lw) (xs := xs) (ys := ws.map V.int) (by rw [List.length_map]; lia) (fun i σ H' => Same H H' ∧ wiB us ws i = true ∧ ∃ (x4 x5 : Option V), σ = [some (.ref lr), some (.ref lc), some (.ref lu), some (.ref lw), x4, x5]) ⟨Same.refl H, rfl, none, none, rfl⟩ (fun i σ H' h => ⟨h.1 _ _ hR.u, h.1 _ _ hw⟩) ?_ ?_
    · rintro i x y σ H1 pt hx hy ⟨s1, wb, x4, x5, rfl⟩ hpt
      obtain ⟨u, hu, hU⟩ := pget hR.all hx
      obtain ⟨v, hv, rfl⟩ := int_of hy
      have ilt := (List.getElem?_eq_some_iff.mp hu).1
      have eu := uAt_of hu
      have ev := wAt_of hv
      have s2 := Same.new (o := .tup [x, .int v]) hpt
      obtain ⟨p, rfl, hp⟩ := hU.tu (s1.trans s2).tu
      have bad : ¬ (u.lo ≤ v ∧ v ≤ u.hi) → Q (.bl false) (upd H1 pt (.tup [.ref p, .int v])) := fun hb => by
        have q1 := q _ (s1.trans s2)
        rw [wi_no ilt (by rw [eu, ev]; exact hb), Bool.false_and] at q1
        exact q1
      refine ⟨pt, _, rfl, SqT.of upd_same, rfl, _, _, rfl, _, _, rfl, rfl, ?_⟩
      refine ⟨v, rfl, ?_⟩
      refine .inr (.inl ⟨p, _, _, _, rfl, rfl, SqT.of hp, atI_cons 2 rfl rfl, ?_⟩)
      refine ifC (fun c1 => ?_) fun c1 => bad fun z => c1 z.1
      refine .inr (.inl ⟨p, _, _, _, rfl, rfl, SqT.of hp, atI_cons 3 rfl rfl, ?_⟩)
      by_cases c2 : v ≤ u.hi
      case neg => exact ite2 (fun _ => bad fun z => c2 z.2) fun z => absurd (by simpa using z) c2
      refine iteNS c2 ?_
      exact ⟨s1.trans s2, by rw [wiB_succ, wb, eu, ev, decide_eq_true ⟨c1, c2⟩]; rfl, _, _, rfl⟩
    · rintro σ H1 ⟨s1, wb, x4, x5, rfl⟩
      rw [← xl] at wb
      rw [wb, Bool.true_and] at q
      have hR1 := hR.same s1
      refine ⟨_, .inl (SqL.of hR1.r), ?_⟩
      refine ⟨lw, lu, ws, us, xs, 0, R, by rw [List.length_map, hR.lr]; rfl, s1 _ _ hw, hR1.u, hR1.all, wl, by (decide), hR.r6, fun u hu => (hR.ok u hu).1, fun D H2 s2 fD hD => ?_⟩
      have hR2 := hR1.same s2
      refine ⟨_, _, dv_i hD, dv_i hR2.r, shaped_i _, shaped_i _, ?_⟩
      rw [eqv_ints]
      by_cases e0 : sumL us ws 0 R us.length = rows
      case neg =>
        have q2 := q _ (s1.trans s2)
        rw [decide_eq_false e0, Bool.false_and] at q2
        rw [decide_eq_false e0]
        exact q2
      rw [decide_eq_true e0]
      rw [decide_eq_true e0, Bool.true_and] at q
      refine ⟨_, .inl (SqL.of hR2.c), ?_⟩
      refine ⟨lw, lu, ws, us, xs, 1, C, by rw [List.length_map, hR.lc]; rfl, s2 _ _ (s1 _ _ hw), hR2.u, hR2.all, wl, by (decide), hR.c6, fun u hu => (hR.ok u hu).2.1, fun D3 H3 s3 fD3 hD3 => ?_⟩
      refine ⟨_, _, dv_i hD3, dv_i (s3 _ _ hR2.c), shaped_i _, shaped_i _, ?_⟩
      rw [eqv_ints]
      exact q _ ((s1.trans s2).trans s3)
theorem ok_nums (T : Txt K mg a) : FnOk P w K mg base CX0 2 a.f_L_numbers a.d_L_numbers ["_law_some", "_law_many"] spNums := by
  have G_L_whole : FnOk P w K mg base CX0 1 _ _ _ spWholeL := ok_wholeL T
  refine T.F_L_numbers.ok sc_L_numbers (fun vs H Q E h => ?_) (fun cdv A outer s H vs Q E hr h => ?_)
  · obtain ⟨l, ns, R, rfl, _⟩ := h; rfl
  · obtain ⟨l, ns, R, rfl, hl, r6, n40, q⟩ := h
    refine ⟨_, (pss_cons (ps_if (PW.pt (pw_or (pt_not (t_val (pe_callB call_isi rfl T.z_isinstance bt_isinstance (pa_cons (vr 0) (pa_cons (pe_bltn (v := .ty "list") rfl T.z_list bt_list rfl) pa_nil))))) (pw_or1 (t_cmp (o_neD hr.units) (pe_comp rfl (N := ["_law_number"]) (ix := [none]) ⟨rfl, rfl, rfl, rfl, trivial⟩ (pi_any (vr 0)) ⟨fun C s H fp => pg_name (i := 0) (show List.Nodup (["_law_number"] : List Str) by decide +kernel) rfl (Or.inl rfl), fun C s H fp => pts_one (pt_not (t_val (pe_call G_L_whole hr rfl T.m_L_whole T.F_L_whole.kp T.B_L_whole .nil pass0 (pa_cons (vr 0) pa_nil)))), fun C s H fp => (vr 0)⟩) (pe_lst pa_nil) (nomark _))))) (pss_one (ps_ret pe_bl)) pss_nil) (pss_one (ps_ret (pe_cmpR (o_eqD hr.units) (vr 0) (pe_comp rfl (N := ["_law_number", "_law_some"]) (ix := [none, some 0]) ⟨rfl, rfl, rfl, rfl, ⟨rfl, rfl, rfl, trivial⟩⟩ (pi_range1 rfl T.z_range (pa_cons (vr 1) pa_nil)) ⟨fun C s H fp => pg_name (i := 0) (show List.Nodup (["_law_number", "_law_some"] : List Str) by decide +kernel) rfl (Or.inl rfl), fun C s H fp => pts_one (t_cmp (op_in_seqK (K := K) rfl) (vr 0) (vr 1) (by with_unfolding_all rfl)), fun C s H fp => (vr 0)⟩) (nomark _))))), ?_⟩
    have sl : sizeLine = 16777216 := sizeLine_eq
    refine ⟨_, _, _, true, rfl, rfl, .lst hl, rfl, ?_⟩
    refine .inl ⟨⟨_, SqL.of hl⟩, fun D hD => ?_⟩
    refine comp_list (K := K) (a := l) (xs := ns.map V.int) (fun j ys H' => Same H H' ∧ H' D = some (.lst ys) ∧ ys = []) ⟨Same.new hD, upd_same, rfl⟩ (fun j ys H' h' => SqL.of (h'.1 _ _ hl)) (fun j ys H' h' => h'.2.1) ?_ ?_
    · rintro j y ys H' P' hy ⟨s1, hD1, rfl⟩ hP
      obtain ⟨v, hv, rfl⟩ := int_of hy
      exact ⟨trivial, v, rfl, hP _ _ ⟨s1, hD1, rfl⟩⟩
    rintro ys H1 ⟨s1, hD1, rfl⟩
    refine ⟨Nat.zero_le _, fun e he => ?_⟩
    have s2 := Same.new (o := .lst []) he
    refine ne_d (d := .list (([] : List Int).map PyData.int)) (dv_i (l := []) (s2 _ _ hD1)) (dv_i (l := []) upd_same) (shaped_i []) ?_
    have s12 := s1.trans s2
    generalize upd H1 e (.lst []) = H2 at s2 s12
    refine ⟨R, rfl, by (exact Int.natCast_nonneg _), by lia, fun D3 hD3 => ?_⟩
    have hl2 := s12 _ _ hl
    refine comp_rng (lo := 0) (n := R) (fun j ys H' => j ≤ R ∧ Same H2 H' ∧ H' D3 = some (.lst ys) ∧ ys = (riseL ns j).map V.int) ⟨Nat.zero_le _, Same.new hD3, upd_same, rfl⟩ (fun j ys H' h => h.2.2.1) ?_ ?_
    · rintro j ys H' P' hj ⟨hj', s3, hD4, rfl⟩ hP
      have ej : (0 + (j : Int)) = ((j : Nat) : Int) := by (exact Int.zero_add _)
      have len : (riseL ns j).length ≤ j := onK_len (kOf ns ns) 0 j
      have step : riseL ns (j + 1) = riseL ns j ++ if decide (((j : Nat) : Int) ∈ ns) = true then [(j : Int)] else [] := by
        unfold riseL
        rw [List.range_succ, List.filter_append, List.map_append]
        cases hk : decide (((j : Nat) : Int) ∈ ns) with
        | true => rw [List.filter_cons_of_pos (p := fun (i : Nat) => decide (((i : Nat) : Int) ∈ ns)) hk]; rfl
        | false => rw [List.filter_cons_of_neg (p := fun (i : Nat) => decide (((i : Nat) : Int) ∈ ns)) (by rw [hk]; exact Bool.false_ne_true)]; rfl
      refine ⟨⟨rfl, trivial⟩, ?_⟩
      refine ⟨l, _, rfl, .inl (SqL.of (s3 _ _ hl2)), rfl, flat_ints _, ?_⟩
      refine ifB (fun c => ?_) fun c => ?_
      · have c' : inV (.int (0 + (j : Int))) (ns.map V.int) = true := c
        rw [ej, inV_ints] at c'
        refine ⟨hD4, by rw [List.length_map]; lia, hP _ _ ⟨hj, s3.put hD3, upd_same, ?_⟩⟩
        rw [step, if_pos c', List.map_append, ej]
        rfl
      · have c' : inV (.int (0 + (j : Int))) (ns.map V.int) = false := c
        rw [ej, inV_ints] at c'
        refine hP _ _ ⟨hj, s3, hD4, ?_⟩
        rw [step, if_neg (by rw [c']; exact Bool.false_ne_true), List.append_nil]
    rintro ys H3 ⟨_, s3, hD4, rfl⟩
    refine ⟨_, _, dv_i (s3 _ _ hl2), dv_i hD4, shaped_i _, shaped_i _, ?_⟩
    rw [eqv_ints]
    exact q _ (s12.trans s3)
theorem ok_cut (T : Txt K mg a) : FnOk P w K mg base CX0 3 a.f_L_cut a.d_L_cut ["_law_rows", "_law_columns", "_law_units_here", "_law_word", "_law_some", "_law_others"] spCut := by
  have G_L_numbers : FnOk P w K mg base CX0 2 _ _ _ spNums := ok_nums T
  refine T.F_L_cut.ok sc_L_cut (fun vs H Q E h => ?_) (fun cdv A outer s H vs Q E hr h => ?_)
  · obtain ⟨lr, lc, lu, l1, l2, rows, cols, us, xs, R, C, ov, so, ot, rfl, _⟩ := h; rfl
  · obtain ⟨lr, lc, lu, l1, l2, rows, cols, us, xs, R, C, ov, so, ot, rfl, hR, h1, h2, ls, lt, q⟩ := h
    refine ⟨_, (pss_cons (ps_if (PW.pt (pw_or (pt_not (t_val (pe_call G_L_numbers hr rfl T.m_L_numbers T.F_L_numbers.kp T.B_L_numbers .nil pass0 (pa_cons (vr 4) (pa_cons (pe_callB call_lenM rfl T.z_len bt_len (pa_cons (vr 0) pa_nil)) pa_nil))))) (pw_or1 (pt_not (t_val (pe_call G_L_numbers hr rfl T.m_L_numbers T.F_L_numbers.kp T.B_L_numbers .nil pass0 (pa_cons (vr 5) (pa_cons (pe_callB call_lenM rfl T.z_len bt_len (pa_cons (vr 1) pa_nil)) pa_nil)))))))) (pss_one (ps_ret pe_bl)) pss_nil) (pss_cons (ps_set (i := 6) sc_L_cut.nd rfl (Or.inl rfl) (pe_callB (call_sumI rfl) rfl T.z_sum bt_sum (pa_cons (pe_comp rfl (N := ["_law_row_here", "_law_rows"]) (ix := [none, some 0]) ⟨rfl, rfl, rfl, rfl, ⟨rfl, rfl, rfl, trivial⟩⟩ (pi_any (vr 4)) ⟨fun C s H fp => pg_name (i := 0) (show List.Nodup (["_law_row_here", "_law_rows"] : List Str) by decide +kernel) rfl (Or.inl rfl), fun C s H fp => pts_nil, fun C s H fp => (pe_ix (ix_seqK (K := K) rfl) (vr 1) (vr 0) (fun _ _ => rfl))⟩) pa_nil))) (pss_cons (ps_set (i := 7) sc_L_cut.nd rfl (Or.inl rfl) (pe_callB (call_sumI rfl) rfl T.z_sum bt_sum (pa_cons (pe_comp rfl (N := ["_law_column", "_law_columns"]) (ix := [none, some 1]) ⟨rfl, rfl, rfl, rfl, ⟨rfl, rfl, rfl, trivial⟩⟩ (pi_any (vr 5)) ⟨fun C s H fp => pg_name (i := 0) (show List.Nodup (["_law_column", "_law_columns"] : List Str) by decide +kernel) rfl (Or.inl rfl), fun C s H fp => pts_nil, fun C s H fp => (pe_ix (ix_seqK (K := K) rfl) (vr 1) (vr 0) (fun _ _ => rfl))⟩) pa_nil))) (pss_cons (ps_for PassesOwn.never rfl (pi_any (vr 2)) (pg_tup rfl (pgs_cons (pg_name (i := 8) sc_L_cut.nd rfl (Or.inl rfl)) (pgs_cons (pg_name (i := 9) sc_L_cut.nd rfl (Or.inl rfl)) (pgs_cons (pg_name (i := 10) sc_L_cut.nd rfl (Or.inl rfl)) (pgs_cons (pg_name (i := 11) sc_L_cut.nd rfl (Or.inl rfl)) pgs_nil))))) (pss_consM (ps_if (PW.pt (pw_and (t_cmp op_in_seq (vr 8) (vr 4) (by with_unfolding_all rfl)) (pw_and1 (t_cmp op_notIn_seq (vr 9) (vr 5) (by with_unfolding_all rfl))))) (pss_one (ps_set (i := 6) sc_L_cut.nd rfl (Or.inl rfl) (pe_op o_sub (vr 6) (pe_ix ix_seq (pe_lst (pa_cons (vr 10) (pa_cons (vr 11) pa_nil))) (pe_callTy call_int1 rfl T.z_int bt_int (pa_cons (pe_cmpR o_eq (vr 3) pe_str (nomark _)) pa_nil)) (fun _ _ => rfl))))) pss_nil) (pss_one (ps_if (PW.pt (pw_and (t_cmp op_notIn_seq (vr 8) (vr 4) (by with_unfolding_all rfl)) (pw_and1 (t_cmp op_in_seq (vr 9) (vr 5) (by with_unfolding_all rfl))))) (pss_one (ps_set (i := 7) sc_L_cut.nd rfl (Or.inl rfl) (pe_op o_sub (vr 7) (pe_ix ix_seq (pe_lst (pa_cons (vr 11) (pa_cons (vr 10) pa_nil))) (pe_callTy call_int1 rfl T.z_int bt_int (pa_cons (pe_cmpR o_eq (vr 3) pe_str (nomark _)) pa_nil)) (fun _ _ => rfl))))) pss_nil)))) (pss_one (ps_ret (m_or (m_and (pe_cmpR o_eq (vr 3) pe_str (nomark _)) (pe_one (pe_cmpR o_gt (vr 6) (vr 7) (nomark _)))) (pe_one (m_and (pe_cmpR o_eq (vr 3) pe_str (nomark _)) (pe_one (pe_cmpR o_gt (vr 7) (vr 6) (nomark _)))))))))))), ?_⟩
    have sl : sizeLine = 16777216 := sizeLine_eq
    have r6 := hR.r6
    have c6 := hR.c6
    refine ⟨_, .inl (SqL.of hR.r), ?_⟩
    refine ⟨l1, so, R, by rw [List.length_map, hR.lr]; rfl, h1, r6, ls, fun H1 s1 => ?_⟩
    have hR1 := hR.same s1
    by_cases cs : so = riseL so R
    case neg =>
      rw [decide_eq_false cs]
      have q1 := q _ s1
      rw [decide_eq_false cs, Bool.false_and] at q1
      exact q1
    rw [decide_eq_true cs]
    rw [decide_eq_true cs, Bool.true_and] at q
    refine ⟨_, .inl (SqL.of hR1.c), ?_⟩
    refine ⟨l2, ot, C, by rw [List.length_map, hR.lc]; rfl, s1 _ _ h2, c6, lt, fun H2 s2 => ?_⟩
    have s12 := s1.trans s2
    by_cases ct : ot = riseL ot C
    case neg =>
      rw [decide_eq_false ct]
      have q1 := q _ s12
      rw [decide_eq_false ct, Bool.false_and] at q1
      exact q1
    rw [decide_eq_true ct]
    rw [decide_eq_true ct, Bool.true_and] at q
    obtain ⟨k, hk⟩ : ∃ k, k = kOf so ot := ⟨_, rfl⟩
    have es : so = onK k 0 R := by rw [hk]; exact cs
    have et : ot = onK k 1 C := by rw [hk]; exact ct
    rw [← hk] at q
    rw [es] at h1
    rw [et] at h2
    have hR2 := hR.same s12
    have a1 := s12 _ _ h1
    have a2 := s12 _ _ h2
    have lk1 := onK_len k 0 R
    have lk2 := onK_len k 1 C
    refine .inl ⟨⟨_, SqL.of a1⟩, fun D hD => ?_⟩
    refine comp_list (K := K) (a := l1) (xs := (onK k 0 R).map V.int) (fun j ys H' => Same H2 H' ∧ H' D = some (.lst ys) ∧ ys = (((onK k 0 R).take j).map fun v => wAt rows v.toNat).map V.int) ⟨Same.new hD, upd_same, rfl⟩ (fun j ys H' h' => SqL.of (h'.1 _ _ a1)) (fun j ys H' h' => h'.2.1) ?_ ?_
    · rintro j y ys H' P' hy ⟨s3, hD1, rfl⟩ hP
      obtain ⟨v, hv, rfl⟩ := int_of hy
      obtain ⟨i, hi, _, rfl⟩ := onK_mem.mp (List.mem_of_getElem? hv)
      have jlt := (List.getElem?_eq_some_iff.mp hv).1
      have er : rows[i]? = some (wAt rows i) := by rw [wAt_of (List.getElem?_eq_getElem (by have := hR.lr; lia))]; exact List.getElem?_eq_getElem _
      refine ⟨⟨rfl, trivial⟩, .inl ⟨lr, _, _, _, rfl, rfl, SqL.of (s3 _ _ hR2.r), ints_at er, hD1, by rw [List.length_map, List.length_map, List.length_take]; lia, hP _ _ ⟨s3.put hD, upd_same, ?_⟩⟩⟩
      rw [take_snoc hv, List.map_append, List.map_append]
      rfl
    rintro ys H3 ⟨s3, hD3, rfl⟩
    rw [List.length_map, List.take_of_length_le (Nat.le_refl _)] at hD3
    refine ⟨D, _, rfl, SqL.of hD3, ?_⟩
    rw [onK_sum]
    have s13 := s12.trans s3
    have hR3 := hR.same s13
    refine .inl ⟨⟨_, SqL.of (s13 _ _ h2)⟩, fun D4 hD4 => ?_⟩
    refine comp_list (K := K) (a := l2) (xs := (onK k 1 C).map V.int) (fun j ys H' => Same H3 H' ∧ H' D4 = some (.lst ys) ∧ ys = (((onK k 1 C).take j).map fun v => wAt cols v.toNat).map V.int) ⟨Same.new hD4, upd_same, rfl⟩ (fun j ys H' h' => SqL.of (h'.1 _ _ (s13 _ _ h2))) (fun j ys H' h' => h'.2.1) ?_ ?_
    · rintro j y ys H' P' hy ⟨s4, hD1, rfl⟩ hP
      obtain ⟨v, hv, rfl⟩ := int_of hy
      obtain ⟨i, hi, _, rfl⟩ := onK_mem.mp (List.mem_of_getElem? hv)
      have jlt := (List.getElem?_eq_some_iff.mp hv).1
      have er : cols[i]? = some (wAt cols i) := by rw [wAt_of (List.getElem?_eq_getElem (by have := hR.lc; lia))]; exact List.getElem?_eq_getElem _
      refine ⟨⟨rfl, trivial⟩, .inl ⟨lc, _, _, _, rfl, rfl, SqL.of (s4 _ _ hR3.c), ints_at er, hD1, by rw [List.length_map, List.length_map, List.length_take]; lia, hP _ _ ⟨s4.put hD4, upd_same, ?_⟩⟩⟩
      rw [take_snoc hv, List.map_append, List.map_append]
      rfl
    rintro ys H4 ⟨s4, hD5, rfl⟩
    rw [List.length_map, List.take_of_length_le (Nat.le_refl _)] at hD5
    refine ⟨D4, _, rfl, SqL.of hD5, ?_⟩
    rw [onK_sum]
    have s14 := s13.trans s4
    have hR4 := hR.same s14
    have xl : us.length = xs.length := Paired.length hR.all
    obtain ⟨gO, hgO⟩ : ∃ g : Un → Int, g = fun u => if ov then u.hi else u.lo := ⟨_, rfl⟩
    obtain ⟨gI, hgI⟩ : ∃ g : Un → Int, g = fun u => if ov then u.lo else u.hi := ⟨_, rfl⟩
    refine .inl ⟨⟨_, SqL.of hR4.u⟩, ?_⟩
    refine for_list (K := K) (a := lu) (xs := xs) (fun i σ H' => Same H H' ∧ ∃ (x8 x9 x10 x11 : Option V), σ = [some (.ref lr), some (.ref lc), some (.ref lu), some (.str (wordS ov)), some (.ref l1), some (.ref l2), some (.int (sI (fun i => if k (0, i) = true then wAt rows i else 0) R - sI (fun q => if outB k (uAt us q) = true then gO (uAt us q) else 0) i)), some (.int (sI (fun i => if k (1, i) = true then wAt cols i else 0) C - sI (fun q => if inB k (uAt us q) = true then gI (uAt us q) else 0) i)), x8, x9, x10, x11]) ⟨s14, none, none, none, none, by rw [sI, sI, Int.sub_zero, Int.sub_zero]; rfl⟩ (fun i σ H' _ h => SqL.of (h.1 _ _ hR.u)) ?_ ?_
    · rintro i x σ H5 hx ⟨s5, x8, x9, x10, x11, rfl⟩
      obtain ⟨u, hu, hU⟩ := pget hR.all hx
      obtain ⟨p, rfl, hp⟩ := hU.tu s5.tu
      obtain ⟨u1, u2, _⟩ := hR.ok u (List.mem_of_getElem? hu)
      refine ⟨p, _, rfl, SqT.of hp, rfl, _, _, rfl, _, _, rfl, _, _, rfl, _, _, rfl, rfl, ?_⟩
      refine ⟨fun σ' H' => Same H H' ∧ ∃ one : Int, one = sI (fun i => if k (0, i) = true then wAt rows i else 0) R - sI (fun q => if outB k (uAt us q) = true then gO (uAt us q) else 0) (i + 1) ∧ σ' = [some (.ref lr), some (.ref lc), some (.ref lu), some (.str (wordS ov)), some (.ref l1), some (.ref l2), some (.int one), some (.int (sI (fun i => if k (1, i) = true then wAt cols i else 0) C - sI (fun q => if inB k (uAt us q) = true then gI (uAt us q) else 0) i)), some (.int (u.r : Nat)), some (.int (u.c : Nat)), some (.int u.lo), some (.int u.hi)], ?_, ?_⟩
      · refine ⟨l1, _, rfl, .inl (SqL.of (s5 _ _ h1)), rfl, flat_ints _, ?_⟩
        refine ifB (fun c => ?_) fun c => ?_
        · have c' : inV (.int (u.r : Nat)) ((onK k 0 R).map V.int) = true := c
          rw [inK u1] at c'
          refine ⟨l2, _, rfl, .inl (SqL.of (s5 _ _ h2)), rfl, flat_ints _, ?_⟩
          refine ifB (fun d => ?_) fun d => ?_
          · have d' : (!inV (.int (u.c : Nat)) ((onK k 1 C).map V.int)) = true := d
            rw [inK u2] at d'
            have eb : outB k u = true := by unfold outB; rw [c', d']; rfl
            refine ⟨by show 2 ≤ sizeLine; (decide), fun t ht => ?_⟩
            refine .inr ⟨_, rfl, ?_⟩
            refine .inl ⟨t, _, _, .int (gO u), rfl, rfl, SqL.of upd_same, ?_, ⟨s5.trans (Same.new ht), _, ?_, rfl⟩⟩
            · rw [hgO]
              cases ov with
              | true => exact atI_cons 1 (by decide +kernel) rfl
              | false => exact atI_cons 0 (by decide +kernel) rfl
            · rw [sI, uAt_of hu, if_pos eb]; lia
          · have d' : (!inV (.int (u.c : Nat)) ((onK k 1 C).map V.int)) = false := d
            rw [inK u2] at d'
            have eb : outB k u = false := by unfold outB; rw [c', d']; rfl
            refine ⟨s5, _, ?_, rfl⟩
            rw [sI, uAt_of hu, eb, if_neg Bool.false_ne_true]; lia
        · have c' : inV (.int (u.r : Nat)) ((onK k 0 R).map V.int) = false := c
          rw [inK u1] at c'
          have eb : outB k u = false := by unfold outB; rw [c']; rfl
          refine ⟨s5, _, ?_, rfl⟩
          rw [sI, uAt_of hu, eb, if_neg Bool.false_ne_true]; lia
      rintro σ' H6 ⟨s6, one, eone, rfl⟩
      have fin : ∀ (H' : Hp) (other : Int), Same H H' → other = sI (fun i => if k (1, i) = true then wAt cols i else 0) C - sI (fun q => if inB k (uAt us q) = true then gI (uAt us q) else 0) (i + 1) → Same H H' ∧ ∃ (x8 x9 x10 x11 : Option V), [some (V.ref lr), some (.ref lc), some (.ref lu), some (.str (wordS ov)), some (.ref l1), some (.ref l2), some (.int one), some (.int other), some (.int (u.r : Nat)), some (.int (u.c : Nat)), some (.int u.lo), some (.int u.hi)] = [some (.ref lr), some (.ref lc), some (.ref lu), some (.str (wordS ov)), some (.ref l1), some (.ref l2), some (.int (sI (fun i => if k (0, i) = true then wAt rows i else 0) R - sI (fun q => if outB k (uAt us q) = true then gO (uAt us q) else 0) (i + 1))), some (.int (sI (fun i => if k (1, i) = true then wAt cols i else 0) C - sI (fun q => if inB k (uAt us q) = true then gI (uAt us q) else 0) (i + 1))), x8, x9, x10, x11] := fun H' other sx eo => ⟨sx, some (.int (u.r : Nat)), some (.int (u.c : Nat)), some (.int u.lo), some (.int u.hi), by rw [eone, eo]⟩
      refine ⟨l1, _, rfl, .inl (SqL.of (s6 _ _ h1)), rfl, flat_ints _, ?_⟩
      refine ifB (fun c => ?_) fun c => ?_
      · have c' : (!inV (.int (u.r : Nat)) ((onK k 0 R).map V.int)) = true := c
        rw [inK u1] at c'
        refine ⟨l2, _, rfl, .inl (SqL.of (s6 _ _ h2)), rfl, flat_ints _, ?_⟩
        refine ifB (fun d => ?_) fun d => ?_
        · have d' : inV (.int (u.c : Nat)) ((onK k 1 C).map V.int) = true := d
          rw [inK u2] at d'
          have eb : inB k u = true := by unfold inB; rw [c', d']; rfl
          refine ⟨by show 2 ≤ sizeLine; (decide), fun t ht => ?_⟩
          refine .inr ⟨_, rfl, ?_⟩
          refine .inl ⟨t, _, _, .int (gI u), rfl, rfl, SqL.of upd_same, ?_, fin _ _ (s6.trans (Same.new ht)) ?_⟩
          · rw [hgI]
            cases ov with
            | true => exact atI_cons 1 (by decide +kernel) rfl
            | false => exact atI_cons 0 (by decide +kernel) rfl
          · rw [sI, uAt_of hu, if_pos eb]; lia
        · have d' : inV (.int (u.c : Nat)) ((onK k 1 C).map V.int) = false := d
          rw [inK u2] at d'
          have eb : inB k u = false := by unfold inB; rw [d']; rfl
          refine fin _ _ s6 ?_
          rw [sI, uAt_of hu, eb, if_neg Bool.false_ne_true]; lia
      · have c' : (!inV (.int (u.r : Nat)) ((onK k 0 R).map V.int)) = false := c
        rw [inK u1] at c'
        have eb : inB k u = false := by unfold inB; rw [c', Bool.and_false]
        refine fin _ _ s6 ?_
        rw [sI, uAt_of hu, eb, if_neg Bool.false_ne_true]; lia
    · rintro σ H5 ⟨s5, x8, x9, x10, x11, rfl⟩
      rw [← xl, ← outer_eq, ← inner_eq]
      have q5 := q _ s5
      subst hgO hgI
      cases ov with
      | true =>
        refine ifC (fun hC => ?_) fun hC => ?_
        · have e : cutB us rows cols R C true k = true := decide_eq_true hC
          rw [e] at q5
          exact q5
        · have e : cutB us rows cols R C true k = false := decide_eq_false hC
          rw [e] at q5
          exact q5
      | false => exact q5
end
end My
set_option Elab.async false
set_option linter.all false
set_option maxRecDepth 100000
set_option maxHeartbeats 4000000
namespace My
open PySem L2 FrM Led
noncomputable def ToldAt (H : Hp) (t : Told) (p : Addr) (Ls : List Addr) : Prop := match t with
  | .ws w => ∃ l, Ls = [l] ∧ H p = some (.tup [.str "weights", .ref l]) ∧ H l = some (.lst (w.map V.int))
  | .no ov so ot => ∃ l1 l2, Ls = [l1, l2] ∧ l1 ≠ l2 ∧ H p = some (.tup [.str "none", .str (wordS ov), .ref l1, .ref l2]) ∧ H l1 = some (.lst (so.map V.int)) ∧ H l2 = some (.lst (ot.map V.int))
theorem ToldAt.t {H H' : Hp} (s : SameT H H') : ∀ {t : Told} {p : Addr} {Ls : List Addr}, ToldAt H t p Ls → ToldAt H' t p Ls
  | .ws _, _, _, ⟨l, e, h1, h2⟩ => ⟨l, e, s.at h1, s.at h2⟩
  | .no _ _ _, _, _, ⟨l1, l2, e, n, h1, h2, h3⟩ => ⟨l1, l2, e, n, s.at h1, s.at h2, s.at h3⟩
noncomputable def few : Told → Prop
  | .ws w => w.length ≤ 100
  | .no _ so ot => so.length ≤ 100 ∧ ot.length ≤ 100
inductive spRight (vs : List V) (H : Hp) (Q : VK) (_E : XK) : Prop
  | mk (lr lc lu p : Addr) (Ls : List Addr) (rows cols : List Int) (us : List Un) (xs : List V) (R C : Nat) (t : Told) (h0 : vs = [.ref lr, .ref lc, .ref lu, .ref p]) (h1 : Rc H lr lc lu rows cols us xs R C) (h2 : ToldAt H t p Ls) (h3 : few t) (h4 : ∀ H', Same H H' → Q (.bl (rightB us rows cols R C t)) H') : spRight vs H Q _E
theorem one_tup {K : PySem.W.Frag} {H : Hp} {p : Addr} {z : Str} (h : H p = some (.tup [.str z])) : DV K H (.tuple [.str z]) (.ref p) := by
  rw [DV]
  exact ⟨p, _, rfl, SqT.of h, by simp [DVs, DV]⟩
section
variable {P : Program} {w : World} {K : PySem.W.Frag} {mg : Str → Option Value} {base : Heap} {a : Ad}
theorem ok_right (T : Txt K mg a) : FnOk P w K mg base CX0 4 a.f_L_right a.d_L_right ["_law_rows", "_law_columns", "_law_units_here", "_law_told"] spRight := by
  have G_L_weights : FnOk P w K mg base CX0 3 _ _ _ spWeights := (ok_weights T).mono (by decide)
  have G_L_cut : FnOk P w K mg base CX0 3 _ _ _ spCut := ok_cut T
  refine T.F_L_right.ok sc_L_right (fun vs H Q E h => ?_) (fun cdv A outer s H vs Q E hr h => ?_)
  · obtain ⟨lr, lc, lu, p, Ls, rows, cols, us, xs, R, C, t, rfl, _⟩ := h; rfl
  · obtain ⟨lr, lc, lu, p, Ls, rows, cols, us, xs, R, C, t, rfl, hR, ht, hf, q⟩ := h
    refine ⟨_, (pss_cons (ps_if (PW.pt (pw_or (pt_not (t_val (pe_callB call_isi rfl T.z_isinstance bt_isinstance (pa_cons (vr 3) (pa_cons (pe_bltn (v := .ty "tuple") rfl T.z_tuple bt_tuple rfl) pa_nil))))) (pw_or1 (t_cmp o_ne (pe_callB call_lenM rfl T.z_len bt_len (pa_cons (vr 3) pa_nil)) (pe_ix ix_seq (pe_lst (pa_cons pe_int (pa_cons pe_int pa_nil))) (pe_callTy call_int1 rfl T.z_int bt_int (pa_cons (pe_cmpR (o_eqD hr.units) (pe_slice sl_any (vr 3) po_none (po_some pe_int)) (pe_tup (pa_cons pe_str pa_nil)) (nomark _)) pa_nil)) (fun _ _ => rfl)) (nomark _))))) (pss_one (ps_ret pe_bl)) pss_nil) (pss_cons (ps_if (t_cmp o_eq (pe_ix ix_seq (vr 3) pe_int (fun _ _ => rfl)) pe_str (nomark _)) (pss_one (ps_ret (pe_call G_L_weights hr rfl T.m_L_weights T.F_L_weights.kp T.B_L_weights .nil pass0 (pa_cons (vr 0) (pa_cons (vr 1) (pa_cons (vr 2) (pa_cons (pe_ix ix_seq (vr 3) pe_int (fun _ _ => rfl)) pa_nil))))))) pss_nil) (pss_one (ps_ret (m_and (pe_cmpR o_eq (pe_ix ix_seq (vr 3) pe_int (fun _ _ => rfl)) pe_str (nomark _)) (pe_one (pe_call G_L_cut hr rfl T.m_L_cut T.F_L_cut.kp T.B_L_cut .nil pass0 (pa_consQ (vr 0) (pa_consQ (vr 1) (pa_consQ (vr 2) (pa_consQ (pe_ix ix_seq (vr 3) pe_int (fun _ _ => rfl)) (pa_consQ (pe_ix ix_seq (vr 3) pe_int (fun _ _ => rfl)) (pa_consQ (pe_ix ix_seq (vr 3) pe_int (fun _ _ => rfl)) pa_nil))))))))))))), ?_⟩
    have sl : sizeLine = 16777216 := sizeLine_eq
    cases t with
    | ws w =>
      obtain ⟨l, rfl, hp, hl⟩ := ht
      refine ⟨_, _, _, true, rfl, rfl, .tup hp, rfl, ⟨_, .inr (SqT.of hp), ?_⟩⟩
      refine ⟨by show 2 ≤ sizeLine; (decide), fun p1 hp1 => ?_⟩
      have s1 := Same.new (o := .lst [.int 2, .int 4]) hp1
      refine ⟨1, rfl, .inr ⟨_, SqT.of (s1 _ _ hp), (fun z => absurd z.2 (show ¬ (HT.sIx 2 2 (some 1) = 2) by decide +kernel)), fun p2 hp2 => ?_⟩⟩
      have s2 := s1.trans (Same.new (o := .tup (cutV [V.str "weights", .ref l] none (some 1))) hp2)
      refine ⟨by show 1 ≤ sizeLine; (decide), fun p3 hp3 => ?_⟩
      have s3 := Same.new (o := .tup [.str "none"]) hp3
      refine ⟨_, _, one_tup (z := "weights") (s3 _ _ upd_same), one_tup (z := "none") upd_same, by decide +kernel, by decide +kernel, ?_⟩
      have ee : PyData.eqv (.tuple [.str "weights"]) (.tuple [.str "none"]) = false := by decide +kernel
      rw [ee]
      refine .inr ⟨_, rfl, ?_⟩
      have s23 := (Same.new (o := .tup (cutV [V.str "weights", .ref l] none (some 1))) hp2).trans s3
      refine .inl ⟨p1, _, _, _, rfl, rfl, SqL.of (s23 _ _ upd_same), atI_cons 0 rfl rfl, ?_⟩
      have s03 := s2.trans s3
      refine .inr (.inl ⟨p, _, _, _, rfl, rfl, SqT.of (s03 _ _ hp), atI_cons 0 rfl rfl, ?_⟩)
      refine .inr (.inl ⟨p, _, _, _, rfl, rfl, SqT.of (s03 _ _ hp), atI_cons 1 rfl rfl, ?_⟩)
      exact ⟨lr, lc, lu, l, rows, cols, w, us, xs, R, C, rfl, hR.same s03, s03 _ _ hl, fun H4 s4 => q _ (s03.trans s4)⟩
    | no ov so ot =>
      obtain ⟨l1, l2, rfl, n12, hp, h1, h2⟩ := ht
      obtain ⟨f1, f2⟩ := (hf : so.length ≤ 100 ∧ ot.length ≤ 100)
      refine ⟨_, _, _, true, rfl, rfl, .tup hp, rfl, ⟨_, .inr (SqT.of hp), ?_⟩⟩
      refine ⟨by show 2 ≤ sizeLine; (decide), fun p1 hp1 => ?_⟩
      have s1 := Same.new (o := .lst [.int 2, .int 4]) hp1
      refine ⟨1, rfl, .inr ⟨_, SqT.of (s1 _ _ hp), (fun z => absurd z.2 (show ¬ (HT.sIx 4 4 (some 1) = 4) by decide +kernel)), fun p2 hp2 => ?_⟩⟩
      have s2 := s1.trans (Same.new (o := .tup (cutV [V.str "none", .str (wordS ov), .ref l1, .ref l2] none (some 1))) hp2)
      refine ⟨by show 1 ≤ sizeLine; (decide), fun p3 hp3 => ?_⟩
      have s3 := Same.new (o := .tup [.str "none"]) hp3
      refine ⟨_, _, one_tup (z := "none") (s3 _ _ upd_same), one_tup (z := "none") upd_same, by decide +kernel, by decide +kernel, ?_⟩
      have ee : PyData.eqv (.tuple [.str "none"]) (.tuple [.str "none"]) = true := by decide +kernel
      rw [ee]
      refine .inr ⟨_, rfl, ?_⟩
      have s23 := (Same.new (o := .tup (cutV [V.str "none", .str (wordS ov), .ref l1, .ref l2] none (some 1))) hp2).trans s3
      refine .inl ⟨p1, _, _, _, rfl, rfl, SqL.of (s23 _ _ upd_same), atI_cons 1 rfl rfl, ?_⟩
      have s03 := s2.trans s3
      refine .inr (.inl ⟨p, _, _, _, rfl, rfl, SqT.of (s03 _ _ hp), atI_cons 0 rfl rfl, ?_⟩)
      refine .inr (.inl ⟨p, _, _, _, rfl, rfl, SqT.of (s03 _ _ hp), atI_cons 0 rfl rfl, ?_⟩)
      refine .inr (.inl ⟨p, _, _, _, rfl, rfl, SqT.of (s03 _ _ hp), atI_cons 1 rfl rfl, ?_⟩)
      refine .inr (.inl ⟨p, _, _, _, rfl, rfl, SqT.of (s03 _ _ hp), atI_cons 2 rfl rfl, ?_⟩)
      refine .inr (.inl ⟨p, _, _, _, rfl, rfl, SqT.of (s03 _ _ hp), atI_cons 3 rfl rfl, ?_⟩)
      exact ⟨lr, lc, lu, l1, l2, rows, cols, us, xs, R, C, ov, so, ot, rfl, hR.same s03, s03 _ _ h1, s03 _ _ h2, f1, f2, fun H4 s4 => q _ (s03.trans s4)⟩
end
end My
set_option Elab.async false
set_option linter.all false
set_option maxRecDepth 100000
set_option maxHeartbeats 4000000
namespace My
open PySem L2 FrM Led
inductive spRise (vs : List V) (H : Hp) (Q : VK) (_E : XK) : Prop
  | mk (l : Addr) (ns : List Int) (R : Nat) (h0 : vs = [.ref l, .int (R : Nat)]) (h1 : H l = some (.lst (ns.map V.int))) (h2 : R ≤ 6) (h3 : ns.length ≤ 100) (h4 : ∀ H', Same H H' → Q (.bl (decide (ns = riseL ns R))) H') : spRise vs H Q _E
noncomputable def spAre : Sp := spWeights
inductive spMore (vs : List V) (H : Hp) (Q : VK) (_E : XK) : Prop
  | mk (l l' : Addr) (us us' : List Un) (xs xs' : List V) (h0 : vs = [.ref l, .ref l']) (h1 : H l = some (.lst xs)) (h2 : AllU H us xs) (h3 : H l' = some (.lst xs')) (h4 : AllU H us' xs') (h5 : us.length ≤ 24) (h6 : us'.length ≤ 24) (h7 : ∀ H', Same H H' → Q (.int ((us.map (·.hi)).sum - (us'.map (·.lo)).sum)) H') : spMore vs H Q _E
inductive spShows (vs : List V) (H : Hp) (Q : VK) (_E : XK) : Prop
  | mk (lr lc lu p : Addr) (Ls : List Addr) (rows cols : List Int) (us : List Un) (xs : List V) (R C : Nat) (ov : Bool) (so ot : List Int) (h0 : vs = [.ref lr, .ref lc, .ref lu, .ref p]) (h1 : Rc H lr lc lu rows cols us xs R C) (h2 : ToldAt H (.no ov so ot) p Ls) (h3 : so.length ≤ 100) (h4 : ot.length ≤ 100) (h5 : ∀ H', Same H H' → Q (.bl (rightB us rows cols R C (.no ov so ot))) H') : spShows vs H Q _E
inductive spIsLed (a : Ad) (vs : List V) (H : Hp) (Q : VK) (_E : XK) : Prop
  | mk (lr lc lu p : Addr) (Ls : List Addr) (rows cols : List Int) (us : List Un) (xs : List V) (R C : Nat) (t : Told) (h0 : vs = [.ref lr, .ref lc, .ref lu, .ref p]) (h1 : Rc H lr lc lu rows cols us xs R C) (h2 : Sums rows) (h3 : Sums cols) (h4 : TabsOk (tabs a) H) (h5 : ToldAt H t p Ls) (h6 : few t) (h7 : ∀ H', SameT H H' → TabsOk (tabs a) H' → Q (.bl (rightB us rows cols R C t)) H') : spIsLed a vs H Q _E
theorem Rc.in_ {H : Hp} {lr lc lu : Addr} {rows cols : List Int} {us : List Un} {xs : List V} {R C : Nat} (h : Rc H lr lc lu rows cols us xs R C) (h1 : Sums rows) (h2 : Sums cols) : In H lr lc lu rows cols us xs := ⟨h.r, h.c, h.u, h.all, h1, h2, h.n, by rw [h.lr, h.lc]; exact h.ok⟩
section
variable {P : Program} {w : World} {K : PySem.W.Frag} {mg : Str → Option Value} {base : Heap} {a : Ad}
theorem inR_is {i lo hi : Int} : inR lo hi (some i) = decide (lo ≤ i ∧ i ≤ hi) := by
  unfold inR
  first | rfl | simp
theorem all_wi (us : List Un) (w : List Int) : ∀ n, ((List.range n).map fun p => decide ((uAt us p).lo ≤ wAt w p ∧ wAt w p ≤ (uAt us p).hi)).all id = wiB us w n := fun n => by
  unfold wiB
  rw [List.all_map]
  rfl
theorem ok_are (T : Txt K mg a) : FnOk P w K mg base CX0 2 a.f_are_led a.d_are_led ["rows", "columns", "units", "weights"] spAre := by
  have G_is_whole : FnOk P w K mg base CX0 1 _ _ _ spWhole3 := ok_whole3 T
  have G_sums_of : FnOk P w K mg base CX0 1 _ _ _ spSums := ok_sums T
  refine T.F_are_led.ok sc_are_led (fun vs H Q E h => ?_) (fun cdv A outer s H vs Q E hr h => ?_)
  · obtain ⟨lr, lc, lu, lw, rows, cols, w, us, xs, R, C, rfl, _⟩ := h; rfl
  · obtain ⟨lr, lc, lu, lw, rows, cols, ws, us, xs, R, C, rfl, hR, hw, q⟩ := h
    refine ⟨_, (pss_cons (ps_if (t_cmp o_ne (pe_callB call_lenM rfl T.z_len bt_len (pa_cons (vr 3) pa_nil)) (pe_callB call_lenM rfl T.z_len bt_len (pa_cons (vr 2) pa_nil)) (nomark _)) (pss_one (ps_ret pe_bl)) pss_nil) (pss_cons (ps_if (pt_not (t_val (pe_callB (call_allB rfl) rfl T.z_all bt_all (pa_cons (pe_comp rfl (N := ["weight", "unit"]) (ix := [none, none]) ⟨rfl, rfl, rfl, rfl, trivial⟩ (pi_zip rfl T.z_zip (pa_cons (vr 3) (pa_cons (vr 2) pa_nil))) ⟨fun C s H fp => (pg_tupK (K := K) (n := 2) rfl rfl (pgs_cons (pg_name (i := 0) (show List.Nodup (["weight", "unit"] : List Str) by decide +kernel) rfl (Or.inl rfl)) (pgs_cons (pg_name (i := 1) (show List.Nodup (["weight", "unit"] : List Str) by decide +kernel) rfl (Or.inl rfl)) pgs_nil))), fun C s H fp => pts_nil, fun C s H fp => (pe_call G_is_whole hr rfl T.m_is_whole T.F_is_whole.kp T.B_is_whole .nil pass0 (pa_cons (vr 0) (pa_cons (pe_ix (ix_seqK (K := K) rfl) (vr 1) pe_int (fun _ _ => rfl)) (pa_cons (pe_ix (ix_seqK (K := K) rfl) (vr 1) pe_int (fun _ _ => rfl)) pa_nil))))⟩) pa_nil)))) (pss_one (ps_ret pe_bl)) pss_nil) (pss_one (ps_ret (m_and (pe_cmpR (o_eqD hr.units) (pe_call G_sums_of hr rfl T.m_sums_of T.F_sums_of.kp T.B_sums_of .nil pass0 (pa_cons (vr 3) (pa_cons (vr 2) (pa_cons pe_int (pa_cons (pe_callB call_lenM rfl T.z_len bt_len (pa_cons (vr 0) pa_nil)) pa_nil))))) (vr 0) (nomark _)) (pe_one (pe_cmpR (o_eqD hr.units) (pe_call G_sums_of hr rfl T.m_sums_of T.F_sums_of.kp T.B_sums_of .nil pass0 (pa_cons (vr 3) (pa_cons (vr 2) (pa_cons pe_int (pa_cons (pe_callB call_lenM rfl T.z_len bt_len (pa_cons (vr 1) pa_nil)) pa_nil))))) (vr 1) (nomark _)))))))), ?_⟩
    have sl : sizeLine = 16777216 := sizeLine_eq
    have xl : us.length = xs.length := Paired.length hR.all
    have n24 := hR.n
    refine ⟨_, .inl (SqL.of hw), ⟨_, .inl (SqL.of hR.u), ?_⟩⟩
    rw [List.length_map, ← xl]
    unfold metB at q
    by_cases wl : ws.length = us.length
    case neg =>
      rw [decide_eq_false wl, Bool.false_and] at q
      refine ite2 (fun _ => q _ (Same.refl H)) fun z => absurd ?_ wl
      simp at z
      lia
    rw [decide_eq_true wl, Bool.true_and] at q
    rw [wl]
    refine iteNS rfl ?_
    refine ⟨lw, lu, _, _, rfl, hw, hR.u, fun D hD => ?_⟩
    refine comp_zip (a := lw) (b := lu) (xs := ws.map V.int) (ys := xs) (by rw [List.length_map]; lia) (fun j ys H' => j ≤ us.length ∧ Same H H' ∧ H' D = some (.lst ys) ∧ ys = ((List.range j).map fun p => decide ((uAt us p).lo ≤ wAt ws p ∧ wAt ws p ≤ (uAt us p).hi)).map V.bl) ⟨Nat.zero_le _, Same.new hD, upd_same, rfl⟩ (fun j ys H' h' => ⟨h'.2.1 _ _ hw, h'.2.1 _ _ hR.u⟩) (fun j ys H' h' => h'.2.2.1) ?_ ?_
    · rintro j y x ys H' pt P' hy hx ⟨hj, s1, hD1, rfl⟩ hpt hP
      obtain ⟨u, hu, hU⟩ := pget hR.all hx
      obtain ⟨v, hv, rfl⟩ := int_of hy
      have ilt := (List.getElem?_eq_some_iff.mp hu).1
      have s2 := Same.new (o := .tup [.int v, x]) hpt
      obtain ⟨p, rfl, hp⟩ := hU.tu (s1.trans s2).tu
      refine ⟨pt, _, rfl, SqT.of upd_same, rfl, _, _, rfl, _, _, rfl, rfl, trivial, ?_⟩
      refine .inr (.inl ⟨p, _, _, _, rfl, rfl, SqT.of hp, atI_cons 2 rfl rfl, ?_⟩)
      refine .inr (.inl ⟨p, _, _, _, rfl, rfl, SqT.of hp, atI_cons 3 rfl rfl, ⟨_, _, _, _, rfl, .int _, ?_⟩⟩)
      rw [inR_is]
      refine ⟨s2 _ _ hD1, by rw [List.length_map, List.length_map, List.length_range]; lia, hP _ _ ⟨ilt, (s1.trans s2).put hD, upd_same, ?_⟩⟩
      rw [List.range_succ, List.map_append, List.map_append]
      show _ = _ ++ [V.bl (decide ((uAt us j).lo ≤ wAt ws j ∧ wAt ws j ≤ (uAt us j).hi))]
      rw [uAt_of hu, wAt_of hv]
    rintro ys H1 ⟨_, s1, hD1, rfl⟩
    rw [List.length_map, wl] at hD1
    refine ⟨D, _, _, rfl, SqL.of hD1, rfl, ?_⟩
    rw [all_wi]
    cases wb : wiB us ws us.length with
    | false =>
      have q1 := q _ s1
      rw [wb, Bool.false_and] at q1
      exact q1
    | true =>
      rw [wb, Bool.true_and] at q
      have hR1 := hR.same s1
      refine ⟨_, .inl (SqL.of hR1.r), ?_⟩
      refine ⟨lw, lu, ws, us, xs, 0, R, by rw [List.length_map, hR.lr]; rfl, s1 _ _ hw, hR1.u, hR1.all, wl, by (decide), hR.r6, fun u hu => (hR.ok u hu).1, fun D2 H2 s2 fD hD2 => ?_⟩
      have hR2 := hR1.same s2
      refine ⟨_, _, dv_i hD2, dv_i hR2.r, shaped_i _, shaped_i _, ?_⟩
      rw [eqv_ints]
      by_cases e0 : sumL us ws 0 R us.length = rows
      case neg =>
        have q2 := q _ (s1.trans s2)
        rw [decide_eq_false e0, Bool.false_and] at q2
        rw [decide_eq_false e0]
        exact q2
      rw [decide_eq_true e0]
      rw [decide_eq_true e0, Bool.true_and] at q
      refine ⟨_, .inl (SqL.of hR2.c), ?_⟩
      refine ⟨lw, lu, ws, us, xs, 1, C, by rw [List.length_map, hR.lc]; rfl, s2 _ _ (s1 _ _ hw), hR2.u, hR2.all, wl, by (decide), hR.c6, fun u hu => (hR.ok u hu).2.1, fun D3 H3 s3 fD3 hD3 => ?_⟩
      refine ⟨_, _, dv_i hD3, dv_i (s3 _ _ hR2.c), shaped_i _, shaped_i _, ?_⟩
      rw [eqv_ints]
      exact q _ ((s1.trans s2).trans s3)
theorem ok_more (T : Txt K mg a) : FnOk P w K mg base CX0 1 a.f_greatest_more a.d_greatest_more ["ones", "others"] spMore := by
  refine T.F_greatest_more.ok sc_greatest_more (fun vs H Q E h => ?_) (fun cdv A outer s H vs Q E hr h => ?_)
  · obtain ⟨l, l', us, us', xs, xs', rfl, _⟩ := h; rfl
  · obtain ⟨l, l', us, us', xs, xs', rfl, hl, hA, hl', hA', n1, n2, q⟩ := h
    refine ⟨_, (pss_one (ps_ret (pe_op o_sub (pe_callB (call_sumI rfl) rfl T.z_sum bt_sum (pa_cons (pe_comp rfl (N := ["unit"]) (ix := [none]) ⟨rfl, rfl, rfl, rfl, trivial⟩ (pi_any (vr 0)) ⟨fun C s H fp => pg_name (i := 0) (show List.Nodup (["unit"] : List Str) by decide +kernel) rfl (Or.inl rfl), fun C s H fp => pts_nil, fun C s H fp => (pe_ix (ix_seqK (K := K) rfl) (vr 0) pe_int (fun _ _ => rfl))⟩) pa_nil)) (pe_callB (call_sumI rfl) rfl T.z_sum bt_sum (pa_cons (pe_comp rfl (N := ["unit"]) (ix := [none]) ⟨rfl, rfl, rfl, rfl, trivial⟩ (pi_any (vr 1)) ⟨fun C s H fp => pg_name (i := 0) (show List.Nodup (["unit"] : List Str) by decide +kernel) rfl (Or.inl rfl), fun C s H fp => pts_nil, fun C s H fp => (pe_ix (ix_seqK (K := K) rfl) (vr 0) pe_int (fun _ _ => rfl))⟩) pa_nil))))), ?_⟩
    have sl : sizeLine = 16777216 := sizeLine_eq
    have xl : us.length = xs.length := Paired.length hA
    have xl' : us'.length = xs'.length := Paired.length hA'
    refine .inl ⟨⟨_, SqL.of hl⟩, fun D hD => ?_⟩
    refine comp_list (K := K) (a := l) (xs := xs) (fun j ys H' => Same H H' ∧ H' D = some (.lst ys) ∧ ys = ((us.take j).map (·.hi)).map V.int) ⟨Same.new hD, upd_same, rfl⟩ (fun j ys H' h' => SqL.of (h'.1 _ _ hl)) (fun j ys H' h' => h'.2.1) ?_ ?_
    · rintro j y ys H' P' hy ⟨s1, hD1, rfl⟩ hP
      obtain ⟨u, hu, hU⟩ := pget hA hy
      obtain ⟨p, rfl, hp⟩ := hU.tu s1.tu
      have jlt := (List.getElem?_eq_some_iff.mp hu).1
      refine ⟨trivial, .inr (.inl ⟨p, _, _, _, rfl, rfl, SqT.of hp, atI_cons 3 rfl rfl, hD1, by rw [List.length_map, List.length_map, List.length_take]; lia, hP _ _ ⟨s1.put hD, upd_same, ?_⟩⟩)⟩
      rw [take_snoc hu, List.map_append, List.map_append]
      rfl
    rintro ys H1 ⟨s1, hD1, rfl⟩
    rw [← xl, List.take_of_length_le (Nat.le_refl _)] at hD1
    refine ⟨D, _, rfl, SqL.of hD1, ?_⟩
    refine .inl ⟨⟨_, SqL.of (s1 _ _ hl')⟩, fun D2 hD2 => ?_⟩
    refine comp_list (K := K) (a := l') (xs := xs') (fun j ys H' => Same H1 H' ∧ H' D2 = some (.lst ys) ∧ ys = ((us'.take j).map (·.lo)).map V.int) ⟨Same.new hD2, upd_same, rfl⟩ (fun j ys H' h' => SqL.of (h'.1 _ _ (s1 _ _ hl'))) (fun j ys H' h' => h'.2.1) ?_ ?_
    · rintro j y ys H' P' hy ⟨s2, hD3, rfl⟩ hP
      obtain ⟨u, hu, hU⟩ := pget hA' hy
      obtain ⟨p, rfl, hp⟩ := hU.tu (s1.trans s2).tu
      have jlt := (List.getElem?_eq_some_iff.mp hu).1
      refine ⟨trivial, .inr (.inl ⟨p, _, _, _, rfl, rfl, SqT.of hp, atI_cons 2 rfl rfl, hD3, by rw [List.length_map, List.length_map, List.length_take]; lia, hP _ _ ⟨s2.put hD2, upd_same, ?_⟩⟩)⟩
      rw [take_snoc hu, List.map_append, List.map_append]
      rfl
    rintro ys H2 ⟨s2, hD3, rfl⟩
    rw [← xl', List.take_of_length_le (Nat.le_refl _)] at hD3
    exact ⟨D2, _, rfl, SqL.of hD3, q _ (s1.trans s2)⟩
theorem ok_shows (T : Txt K mg a) (GR : FnOk P w K mg base CX0 2 a.f_is_rising a.d_is_rising ["numbers", "many"] spRise) : FnOk P w K mg base CX0 3 a.f_shows_none a.d_shows_none ["rows", "columns", "units", "told"] spShows := by
  have G_is_rising : FnOk P w K mg base CX0 2 _ _ _ spRise := GR
  have G_greatest_more : FnOk P w K mg base CX0 2 _ _ _ spMore := (ok_more T).mono (by decide)
  refine T.F_shows_none.ok sc_shows_none (fun vs H Q E h => ?_) (fun cdv A outer s H vs Q E hr h => ?_)
  · obtain ⟨lr, lc, lu, p, Ls, rows, cols, us, xs, R, C, ov, so, ot, rfl, _⟩ := h; rfl
  · obtain ⟨lr, lc, lu, p, Ls, rows, cols, us, xs, R, C, ov, so, ot, rfl, hR, ht, ls, lt, q⟩ := h
    refine ⟨_, (pss_cons (ps_asg (pe_slice sl_any (vr 3) (po_some pe_int) po_none) (pg_tup rfl (pgs_cons (pg_name (i := 4) sc_shows_none.nd rfl (Or.inl rfl)) (pgs_cons (pg_name (i := 5) sc_shows_none.nd rfl (Or.inr rfl)) (pgs_cons (pg_name (i := 6) sc_shows_none.nd rfl (Or.inr rfl)) pgs_nil))))) (pss_cons (ps_if (PW.pt (pw_or (pt_not (t_val (pe_call G_is_rising hr rfl T.m_is_rising T.F_is_rising.kp T.B_is_rising .nil pass0 (pa_cons (vr 5) (pa_cons (pe_callB call_lenM rfl T.z_len bt_len (pa_cons (vr 0) pa_nil)) pa_nil))))) (pw_or1 (pt_not (t_val (pe_call G_is_rising hr rfl T.m_is_rising T.F_is_rising.kp T.B_is_rising .nil pass0 (pa_cons (vr 6) (pa_cons (pe_callB call_lenM rfl T.z_len bt_len (pa_cons (vr 1) pa_nil)) pa_nil)))))))) (pss_one (ps_ret pe_bl)) pss_nil) (pss_cons (ps_set (i := 7) sc_shows_none.nd rfl (Or.inl rfl) (pe_op o_sub (pe_callB (call_sumI rfl) rfl T.z_sum bt_sum (pa_cons (pe_comp rfl (N := ["number", "rows"]) (ix := [none, some 0]) ⟨rfl, rfl, rfl, rfl, ⟨rfl, rfl, rfl, trivial⟩⟩ (pi_any (vr 5)) ⟨fun C s H fp => pg_name (i := 0) (show List.Nodup (["number", "rows"] : List Str) by decide +kernel) rfl (Or.inl rfl), fun C s H fp => pts_nil, fun C s H fp => (pe_ix (ix_seqK (K := K) rfl) (vr 1) (vr 0) (fun _ _ => rfl))⟩) pa_nil)) (pe_callB (call_sumI rfl) rfl T.z_sum bt_sum (pa_cons (pe_comp rfl (N := ["number", "columns"]) (ix := [none, some 1]) ⟨rfl, rfl, rfl, rfl, ⟨rfl, rfl, rfl, trivial⟩⟩ (pi_any (vr 6)) ⟨fun C s H fp => pg_name (i := 0) (show List.Nodup (["number", "columns"] : List Str) by decide +kernel) rfl (Or.inl rfl), fun C s H fp => pts_nil, fun C s H fp => (pe_ix (ix_seqK (K := K) rfl) (vr 1) (vr 0) (fun _ _ => rfl))⟩) pa_nil)))) (pss_cons (ps_setC rfl (i := 8) sc_shows_none.nd rfl rfl (by with_unfolding_all rfl) (N := ["unit", "some", "others"]) (ix := [none, some 5, some 6]) ⟨rfl, rfl, rfl, rfl, ⟨rfl, rfl, rfl, ⟨rfl, rfl, rfl, trivial⟩⟩⟩ (pi_any (vr 2)) ⟨fun C s H fp => pg_name (i := 0) (show List.Nodup (["unit", "some", "others"] : List Str) by decide +kernel) rfl (Or.inl rfl), fun C s H fp => pts_one (PW.pt (pw_and (t_cmp (op_in_seqK (K := K) rfl) (pe_ix (ix_seqK (K := K) rfl) (vr 0) pe_int (fun _ _ => rfl)) (vr 1) (by with_unfolding_all rfl)) (pw_and1 (t_cmp (op_notIn_seqK (K := K) rfl) (pe_ix (ix_seqK (K := K) rfl) (vr 0) pe_int (fun _ _ => rfl)) (vr 2) (by with_unfolding_all rfl))))), fun C s H fp => (vr 0)⟩) (pss_cons (ps_setC rfl (i := 9) sc_shows_none.nd rfl rfl (by with_unfolding_all rfl) (N := ["unit", "others", "some"]) (ix := [none, some 6, some 5]) ⟨rfl, rfl, rfl, rfl, ⟨rfl, rfl, rfl, ⟨rfl, rfl, rfl, trivial⟩⟩⟩ (pi_any (vr 2)) ⟨fun C s H fp => pg_name (i := 0) (show List.Nodup (["unit", "others", "some"] : List Str) by decide +kernel) rfl (Or.inl rfl), fun C s H fp => pts_one (PW.pt (pw_and (t_cmp (op_in_seqK (K := K) rfl) (pe_ix (ix_seqK (K := K) rfl) (vr 0) pe_int (fun _ _ => rfl)) (vr 1) (by with_unfolding_all rfl)) (pw_and1 (t_cmp (op_notIn_seqK (K := K) rfl) (pe_ix (ix_seqK (K := K) rfl) (vr 0) pe_int (fun _ _ => rfl)) (vr 2) (by with_unfolding_all rfl))))), fun C s H fp => (vr 0)⟩) (pss_cons (ps_if (t_cmp o_eq (vr 4) pe_str (nomark _)) (pss_one (ps_ret (pe_cmpR o_gt (vr 7) (pe_call G_greatest_more hr rfl T.m_greatest_more T.F_greatest_more.kp T.B_greatest_more .nil pass0 (pa_cons (vr 8) (pa_cons (vr 9) pa_nil))) (nomark _)))) pss_nil) (pss_one (ps_ret (m_and (pe_cmpR o_eq (vr 4) pe_str (nomark _)) (pe_one (pe_cmpR o_gt (pe_un u_neg (vr 7)) (pe_call G_greatest_more hr rfl T.m_greatest_more T.F_greatest_more.kp T.B_greatest_more .nil pass0 (pa_cons (vr 9) (pa_cons (vr 8) pa_nil))) (nomark _)))))))))))), ?_⟩
    have sl : sizeLine = 16777216 := sizeLine_eq
    obtain ⟨l1, l2, rfl, n12, hp, h1, h2⟩ := ht
    replace q : ∀ H', Same H H' → Q (.bl (decide (so = riseL so R) && (decide (ot = riseL ot C) && cutB us rows cols R C ov (kOf so ot)))) H' := q
    have r6 := hR.r6
    have c6 := hR.c6
    have n24 := hR.n
    have xl : us.length = xs.length := Paired.length hR.all
    refine ⟨1, rfl, .inr ⟨_, SqT.of hp, (fun z => absurd z.1 (show ¬ (HT.sIx 4 0 (some 1) = 0) by decide +kernel)), fun p1 hp1 => ?_⟩⟩
    have s1 := Same.new (o := .tup (cutV [V.str "none", .str (wordS ov), .ref l1, .ref l2] (some 1) none)) hp1
    have e1 : (upd H p1 (.tup (cutV [V.str "none", .str (wordS ov), .ref l1, .ref l2] (some 1) none))) p1 = some (.tup [.str (wordS ov), .ref l1, .ref l2]) := upd_same
    generalize upd H p1 (.tup (cutV [V.str "none", .str (wordS ov), .ref l1, .ref l2] (some 1) none)) = H1 at s1 e1
    refine ⟨p1, _, rfl, SqT.of e1, rfl, _, _, rfl, _, _, rfl, _, _, rfl, rfl, ?_⟩
    have hR1 := hR.same s1
    refine ⟨_, .inl (SqL.of hR1.r), ?_⟩
    refine ⟨l1, so, R, by rw [List.length_map, hR.lr]; rfl, s1 _ _ h1, r6, ls, fun H2 s2 => ?_⟩
    have s12 := s1.trans s2
    by_cases cs : so = riseL so R
    case neg =>
      rw [decide_eq_false cs]
      have q1 := q _ s12
      rw [decide_eq_false cs, Bool.false_and] at q1
      exact q1
    rw [decide_eq_true cs]
    rw [decide_eq_true cs, Bool.true_and] at q
    have hR2 := hR.same s12
    refine ⟨_, .inl (SqL.of hR2.c), ?_⟩
    refine ⟨l2, ot, C, by rw [List.length_map, hR.lc]; rfl, s12 _ _ h2, c6, lt, fun H3 s3 => ?_⟩
    have s13 := s12.trans s3
    by_cases ct : ot = riseL ot C
    case neg =>
      rw [decide_eq_false ct]
      have q1 := q _ s13
      rw [decide_eq_false ct, Bool.false_and] at q1
      exact q1
    rw [decide_eq_true ct]
    rw [decide_eq_true ct, Bool.true_and] at q
    obtain ⟨k, hk⟩ : ∃ k, k = kOf so ot := ⟨_, rfl⟩
    have es : so = onK k 0 R := by rw [hk]; exact cs
    have et : ot = onK k 1 C := by rw [hk]; exact ct
    rw [← hk] at q
    rw [es] at h1
    rw [et] at h2
    have hR3 := hR.same s13
    have a1 := s13 _ _ h1
    have a2 := s13 _ _ h2
    have lk1 := onK_len k 0 R
    have lk2 := onK_len k 1 C
    refine .inl ⟨⟨_, SqL.of a1⟩, fun D hD => ?_⟩
    refine comp_list (K := K) (a := l1) (xs := (onK k 0 R).map V.int) (fun j ys H' => Same H3 H' ∧ H' D = some (.lst ys) ∧ ys = (((onK k 0 R).take j).map fun v => wAt rows v.toNat).map V.int) ⟨Same.new hD, upd_same, rfl⟩ (fun j ys H' h' => SqL.of (h'.1 _ _ a1)) (fun j ys H' h' => h'.2.1) ?_ ?_
    · rintro j y ys H' P' hy ⟨s4, hD1, rfl⟩ hP
      obtain ⟨v, hv, rfl⟩ := int_of hy
      obtain ⟨i, hi, _, rfl⟩ := onK_mem.mp (List.mem_of_getElem? hv)
      have jlt := (List.getElem?_eq_some_iff.mp hv).1
      have er : rows[i]? = some (wAt rows i) := by rw [wAt_of (List.getElem?_eq_getElem (by have := hR.lr; lia))]; exact List.getElem?_eq_getElem _
      refine ⟨⟨rfl, trivial⟩, .inl ⟨lr, _, _, _, rfl, rfl, SqL.of (s4 _ _ hR3.r), ints_at er, hD1, by rw [List.length_map, List.length_map, List.length_take]; lia, hP _ _ ⟨s4.put hD, upd_same, ?_⟩⟩⟩
      rw [take_snoc hv, List.map_append, List.map_append]
      rfl
    rintro ys H4 ⟨s4, hD4, rfl⟩
    rw [List.length_map, List.take_of_length_le (Nat.le_refl _)] at hD4
    refine ⟨D, _, rfl, SqL.of hD4, ?_⟩
    rw [onK_sum]
    have s14 := s13.trans s4
    have hR4 := hR.same s14
    refine .inl ⟨⟨_, SqL.of (s14 _ _ h2)⟩, fun D5 hD5 => ?_⟩
    refine comp_list (K := K) (a := l2) (xs := (onK k 1 C).map V.int) (fun j ys H' => Same H4 H' ∧ H' D5 = some (.lst ys) ∧ ys = (((onK k 1 C).take j).map fun v => wAt cols v.toNat).map V.int) ⟨Same.new hD5, upd_same, rfl⟩ (fun j ys H' h' => SqL.of (h'.1 _ _ (s14 _ _ h2))) (fun j ys H' h' => h'.2.1) ?_ ?_
    · rintro j y ys H' P' hy ⟨s5, hD1, rfl⟩ hP
      obtain ⟨v, hv, rfl⟩ := int_of hy
      obtain ⟨i, hi, _, rfl⟩ := onK_mem.mp (List.mem_of_getElem? hv)
      have jlt := (List.getElem?_eq_some_iff.mp hv).1
      have er : cols[i]? = some (wAt cols i) := by rw [wAt_of (List.getElem?_eq_getElem (by have := hR.lc; lia))]; exact List.getElem?_eq_getElem _
      refine ⟨⟨rfl, trivial⟩, .inl ⟨lc, _, _, _, rfl, rfl, SqL.of (s5 _ _ hR4.c), ints_at er, hD1, by rw [List.length_map, List.length_map, List.length_take]; lia, hP _ _ ⟨s5.put hD5, upd_same, ?_⟩⟩⟩
      rw [take_snoc hv, List.map_append, List.map_append]
      rfl
    rintro ys H5 ⟨s5, hD6, rfl⟩
    rw [List.length_map, List.take_of_length_le (Nat.le_refl _)] at hD6
    refine ⟨D5, _, rfl, SqL.of hD6, ?_⟩
    rw [onK_sum]
    have s15 := s14.trans s5
    have hR5 := hR.same s15
    -- outer
    refine .inl ⟨⟨_, SqL.of hR5.u⟩, fun D6 hD6' => ?_⟩
    refine comp_list (K := K) (a := lu) (xs := xs) (fun j ys H' => j ≤ us.length ∧ Same H5 H' ∧ H' D6 = some (.lst ys) ∧ AllU H' ((us.take j).filter (outB k)) ys) ⟨Nat.zero_le _, Same.new hD6', upd_same, .nil⟩ (fun j ys H' h' => SqL.of (h'.2.1 _ _ hR5.u)) (fun j ys H' h' => h'.2.2.1) ?_ ?_
    · rintro j y ys H' P' hy ⟨hj, s6, hD1, hA⟩ hP
      obtain ⟨u, hu, hU⟩ := pget hR5.all hy
      obtain ⟨pu, rfl, hpu⟩ := hU.tu s6.tu
      have jlt := (List.getElem?_eq_some_iff.mp hu).1
      obtain ⟨u1, u2, _⟩ := hR.ok u (List.mem_of_getElem? hu)
      have s16 := s15.trans s6
      have al : ((us.take j).filter (outB k)).length = ys.length := Paired.length hA
      have fl : ((us.take j).filter (outB k)).length ≤ j := Nat.le_trans (List.length_filter_le ..) (by rw [List.length_take]; lia)
      rw [take_snoc hu, List.filter_append] at hP
      refine ⟨⟨rfl, rfl, trivial⟩, ?_⟩
      refine .inr (.inl ⟨pu, _, _, _, rfl, rfl, SqT.of hpu, atI_cons 0 rfl rfl, ?_⟩)
      refine ⟨l1, _, rfl, .inl (SqL.of (s16 _ _ h1)), rfl, flat_ints _, ?_⟩
      refine ifB (fun c => ?_) fun c => ?_
      · have c' : inV (.int (u.r : Nat)) ((onK k 0 R).map V.int) = true := c
        rw [inK u1] at c'
        refine .inr (.inl ⟨pu, _, _, _, rfl, rfl, SqT.of hpu, atI_cons 1 rfl rfl, ?_⟩)
        refine ⟨l2, _, rfl, .inl (SqL.of (s16 _ _ h2)), rfl, flat_ints _, ?_⟩
        refine ifB (fun d => ?_) fun d => ?_
        · have d' : (!inV (.int (u.c : Nat)) ((onK k 1 C).map V.int)) = true := d
          rw [inK u2] at d'
          have eb : outB k u = true := by unfold outB; rw [c', d']; rfl
          rw [List.filter_cons_of_pos eb] at hP
          have u9 := tu_lst (o := .lst (ys ++ [.ref pu])) hD1
          exact ⟨hD1, by lia, hP _ _ ⟨jlt, s6.put hD6', upd_same, (AllU.tu u9 hA).snoc ⟨pu, rfl, u9 _ _ hpu⟩⟩⟩
        · have d' : (!inV (.int (u.c : Nat)) ((onK k 1 C).map V.int)) = false := d
          rw [inK u2] at d'
          have eb : outB k u = false := by unfold outB; rw [c', d']; rfl
          rw [List.filter_cons_of_neg (by rw [eb]; exact Bool.false_ne_true), List.filter_nil, List.append_nil] at hP
          exact hP _ _ ⟨jlt, s6, hD1, hA⟩
      · have c' : inV (.int (u.r : Nat)) ((onK k 0 R).map V.int) = false := c
        rw [inK u1] at c'
        have eb : outB k u = false := by unfold outB; rw [c']; rfl
        rw [List.filter_cons_of_neg (by rw [eb]; exact Bool.false_ne_true), List.filter_nil, List.append_nil] at hP
        exact hP _ _ ⟨jlt, s6, hD1, hA⟩
    rintro yo H6 ⟨_, s6, hO, hAO⟩
    rw [← xl, List.take_of_length_le (Nat.le_refl _)] at hAO
    have s16 := s15.trans s6
    have hR6 := hR.same s16
    refine .inl ⟨⟨_, SqL.of hR6.u⟩, fun D7 hD7 => ?_⟩
    refine comp_list (K := K) (a := lu) (xs := xs) (fun j ys H' => j ≤ us.length ∧ Same H6 H' ∧ H' D7 = some (.lst ys) ∧ AllU H' ((us.take j).filter (inB k)) ys) ⟨Nat.zero_le _, Same.new hD7, upd_same, .nil⟩ (fun j ys H' h' => SqL.of (h'.2.1 _ _ hR6.u)) (fun j ys H' h' => h'.2.2.1) ?_ ?_
    · rintro j y ys H' P' hy ⟨hj, s7, hD1, hA⟩ hP
      obtain ⟨u, hu, hU⟩ := pget hR6.all hy
      obtain ⟨pu, rfl, hpu⟩ := hU.tu s7.tu
      have jlt := (List.getElem?_eq_some_iff.mp hu).1
      obtain ⟨u1, u2, _⟩ := hR.ok u (List.mem_of_getElem? hu)
      have s17 := s16.trans s7
      have al : ((us.take j).filter (inB k)).length = ys.length := Paired.length hA
      have fl : ((us.take j).filter (inB k)).length ≤ j := Nat.le_trans (List.length_filter_le ..) (by rw [List.length_take]; lia)
      rw [take_snoc hu, List.filter_append] at hP
      refine ⟨⟨rfl, rfl, trivial⟩, ?_⟩
      refine .inr (.inl ⟨pu, _, _, _, rfl, rfl, SqT.of hpu, atI_cons 1 rfl rfl, ?_⟩)
      refine ⟨l2, _, rfl, .inl (SqL.of (s17 _ _ h2)), rfl, flat_ints _, ?_⟩
      refine ifB (fun c => ?_) fun c => ?_
      · have c' : inV (.int (u.c : Nat)) ((onK k 1 C).map V.int) = true := c
        rw [inK u2] at c'
        refine .inr (.inl ⟨pu, _, _, _, rfl, rfl, SqT.of hpu, atI_cons 0 rfl rfl, ?_⟩)
        refine ⟨l1, _, rfl, .inl (SqL.of (s17 _ _ h1)), rfl, flat_ints _, ?_⟩
        refine ifB (fun d => ?_) fun d => ?_
        · have d' : (!inV (.int (u.r : Nat)) ((onK k 0 R).map V.int)) = true := d
          rw [inK u1] at d'
          have eb : inB k u = true := by unfold inB; rw [c', d']; rfl
          rw [List.filter_cons_of_pos eb] at hP
          have u9 := tu_lst (o := .lst (ys ++ [.ref pu])) hD1
          exact ⟨hD1, by lia, hP _ _ ⟨jlt, s7.put hD7, upd_same, (AllU.tu u9 hA).snoc ⟨pu, rfl, u9 _ _ hpu⟩⟩⟩
        · have d' : (!inV (.int (u.r : Nat)) ((onK k 0 R).map V.int)) = false := d
          rw [inK u1] at d'
          have eb : inB k u = false := by unfold inB; rw [c', d']; rfl
          rw [List.filter_cons_of_neg (by rw [eb]; exact Bool.false_ne_true), List.filter_nil, List.append_nil] at hP
          exact hP _ _ ⟨jlt, s7, hD1, hA⟩
      · have c' : inV (.int (u.c : Nat)) ((onK k 1 C).map V.int) = false := c
        rw [inK u2] at c'
        have eb : inB k u = false := by unfold inB; rw [c']; rfl
        rw [List.filter_cons_of_neg (by rw [eb]; exact Bool.false_ne_true), List.filter_nil, List.append_nil] at hP
        exact hP _ _ ⟨jlt, s7, hD1, hA⟩
    rintro yi H7 ⟨_, s7, hIn, hAI⟩
    rw [← xl, List.take_of_length_le (Nat.le_refl _)] at hAI
    have s17 := s16.trans s7
    have hO7 := s7 _ _ hO
    have hAO7 := hAO.tu s7.tu
    have lo := List.length_filter_le (outB k) us
    have li := List.length_filter_le (inB k) us
    cases ov with
    | true =>
      refine ⟨D6, D7, _, _, yo, yi, rfl, hO7, hAO7, hIn, hAI, by lia, by lia, fun H8 s8 => ?_⟩
      rw [units_sum, units_sum, ← outer_eq, ← inner_eq]
      have q8 := q _ (s17.trans s8)
      have e : cutB us rows cols R C true k = decide (oHi us k - iLo us k < inS rows R k - inT cols C k) := by show decide _ = decide _; rw [decide_eq_decide]; lia
      rw [e] at q8
      exact q8
    | false =>
      refine ⟨D7, D6, _, _, yi, yo, rfl, hIn, hAI, hO7, hAO7, by lia, by lia, fun H8 s8 => ?_⟩
      rw [units_sum, units_sum, ← outer_eq, ← inner_eq]
      have q8 := q _ (s17.trans s8)
      have e : cutB us rows cols R C false k = decide (iHi us k - oLo us k < -(inS rows R k - inT cols C k)) := by show decide _ = decide _; rw [decide_eq_decide]; lia
      rw [e] at q8
      exact q8
theorem ok_isled (T : Txt K mg a) (hB : Bm mg base) (GR : FnOk P w K mg base CX0 2 a.f_is_rising a.d_is_rising ["numbers", "many"] spRise) : FnOk P w K mg base CX0 6 a.f_is_led a.d_is_led ["rows", "columns", "units", "told"] (spIsLed a) := by
  have G_need_bounds : FnOk P w K mg base CX0 5 _ _ _ (spNeed a) := ok_need T hB
  have G_are_led : FnOk P w K mg base CX0 5 _ _ _ spAre := (ok_are T).mono (by decide)
  have G_shows_none : FnOk P w K mg base CX0 5 _ _ _ spShows := (ok_shows T GR).mono (by decide)
  refine T.F_is_led.ok sc_is_led (fun vs H Q E h => ?_) (fun cdv A outer s H vs Q E hr h => ?_)
  · obtain ⟨lr, lc, lu, p, Ls, rows, cols, us, xs, R, C, t, rfl, _⟩ := h; rfl
  · obtain ⟨lr, lc, lu, p, Ls, rows, cols, us, xs, R, C, t, rfl, hR, rs, cs, hT, ht, hf, q⟩ := h
    refine ⟨_, (pss_cons (ps_expr (pe_call G_need_bounds hr rfl T.m_need_bounds T.F_need_bounds.kp T.B_need_bounds .nil pass0 (pa_cons (vr 0) (pa_cons (vr 1) (pa_cons (vr 2) pa_nil))))) (pss_cons (ps_if (t_cmp o_eq (pe_ix ix_seq (vr 3) pe_int (fun _ _ => rfl)) pe_str (nomark _)) (pss_one (ps_ret (pe_call G_are_led hr rfl T.m_are_led T.F_are_led.kp T.B_are_led .nil pass0 (pa_cons (vr 0) (pa_cons (vr 1) (pa_cons (vr 2) (pa_cons (pe_ix ix_seq (vr 3) pe_int (fun _ _ => rfl)) pa_nil))))))) pss_nil) (pss_one (ps_ret (pe_call G_shows_none hr rfl T.m_shows_none T.F_shows_none.kp T.B_shows_none .nil pass0 (pa_cons (vr 0) (pa_cons (vr 1) (pa_cons (vr 2) (pa_cons (vr 3) pa_nil))))))))), ?_⟩
    refine ⟨lr, lc, lu, rows, cols, us, xs, rfl, hR.in_ rs cs, hT, fun H1 t1 hT1 => ?_⟩
    have hR1 := hR.t t1
    have ht1 := ht.t t1
    cases t with
    | ws w =>
      obtain ⟨l, rfl, hp, hl⟩ := id ht1
      refine .inr (.inl ⟨p, _, _, _, rfl, rfl, SqT.of hp, atI_cons 0 rfl rfl, ?_⟩)
      refine .inr (.inl ⟨p, _, _, _, rfl, rfl, SqT.of hp, atI_cons 1 rfl rfl, ?_⟩)
      exact ⟨lr, lc, lu, l, rows, cols, w, us, xs, R, C, rfl, hR1, hl, fun H2 s2 => q _ (t1.trans s2.t) (hT1.same s2)⟩
    | no ov so ot =>
      obtain ⟨l1, l2, e, n, hp, _, _⟩ := id ht1
      refine .inr (.inl ⟨p, _, _, _, rfl, rfl, SqT.of hp, atI_cons 0 rfl rfl, ?_⟩)
      exact ⟨lr, lc, lu, p, Ls, rows, cols, us, xs, R, C, ov, so, ot, rfl, hR1, ht1, hf.1, hf.2, fun H2 s2 => q _ (t1.trans s2.t) (hT1.same s2)⟩
end
end My
set_option Elab.async false
set_option linter.all false
set_option maxRecDepth 100000
namespace L2
open PySem PySem.Spec PyProof.Rows
theorem call_list_ofK {X : Cx} {K : PySem.W.Frag} (h : X.K = K) : CallR X (.type "list") (rListOf K) := h ▸ call_list_of
end L2
set_option Elab.async false
set_option linter.all false
set_option maxRecDepth 100000
set_option maxHeartbeats 4000000
namespace L2
open PySem PySem.Spec PyProof.Rows PySem.W
noncomputable def tS (m : Nat) : List Nat := (List.range 6).filter fun i => m.testBit i
noncomputable def tM (m : Nat) : Nat := if 5 ≤ (tS m).length then 31 else 7
theorem d1 : ∀ m < 64, ∀ v < 6, m.testBit v = false → (((tS m).toArray[SetTable.below (tS m).toArray v]? == some v) = false ∧ SetTable.insertAt (tS m).toArray (SetTable.below (tS m).toArray v) v = (tS (m ||| 2 ^ v)).toArray ∧ (m ||| 2 ^ v) < 64 ∧ (tS (m ||| 2 ^ v)).length = (tS m).length + 1) := by decide +kernel
theorem d2 : ∀ m < 64, (tS m).length = 5 → (SetTable.layClean 31 ((tS m).map fun (v : Nat) => (v : Int)).toArray).map (fun owner => (List.range 32).filterMap fun j => (owner.getD j none).map (j, ·)) = some ((tS m).zip (List.range 5)) := by decide +kernel
theorem d3 : ∀ m < 64, ∀ i < (tS m).length, SetTable.below (tS m).toArray (if i = 0 then 0 else (tS m).getD (i - 1) 0 + 1) = i := by decide +kernel
theorem d3e : ∀ m < 64, SetTable.below (tS m).toArray (if (tS m).length = 0 then 0 else (tS m).getD ((tS m).length - 1) 0 + 1) = (tS m).length := by decide +kernel
theorem d4 : ∀ m < 64, ∀ v < 6, (v ∈ tS m ↔ m.testBit v = true) := by decide +kernel
theorem d5 : ∀ m < 64, (tS m).length ≤ 6 := by decide +kernel
theorem d6 : ∀ m < 64, ∀ v ∈ tS m, v < 6 := by decide +kernel
end L2
set_option Elab.async false
set_option linter.all false
set_option maxRecDepth 100000
set_option maxHeartbeats 4000000
namespace L2
open PySem PySem.Spec PyProof.Rows PySem.W
noncomputable def eS (m : Nat) (tok : Nat → Nat) : Array (Int × Value) := ((tS m).map fun (v : Nat) => ((v : Int), Value.int (v : Int) (tok v))).toArray
noncomputable def tbS (m : Nat) (led : Bool) (mv : Nat) : SetTable := { mask := tM m, place := (tS m).toArray, dummies := #[], finger := 0, led := led, moves := mv, plain := true }
noncomputable def byT (w : World) : Bool := w.params.followText "set-order"
noncomputable def SX (w : World) (h : Heap) (a : Addr) (m : Nat) (tok : Nat → Nat) (ep mv : Nat) : Prop := ∃ o, h.get? a = some o ∧ o.ExactSet ∧ o.data = .set (eS m tok) ep (tbS m (!byT w) mv)
theorem eS_size (m : Nat) (tok : Nat → Nat) : (eS m tok).size = (tS m).length := by unfold eS; simp
theorem tbS_fits (m : Nat) (led : Bool) (mv : Nat) (hm : m < 64) : (tbS m led mv).fits (tS m).length = true := by
  unfold SetTable.fits tbS SetTable.fill
  have h5 := d5 m hm
  have hM : 7 ≤ tM m := by unfold tM; split <;> decide
  simp
  lia
theorem SX.on {w : World} {h h' : Heap} {a : Addr} {m : Nat} {tok : Nat → Nat} {ep mv : Nat} (x : SX w h a m tok ep mv) (k : ∀ o, h.get? a = some o → h'.get? a = some o) : SX w h' a m tok ep mv := let ⟨o, e, r⟩ := x; ⟨o, k o e, r⟩
theorem SX.lt {w : World} {h : Heap} {a : Addr} {m : Nat} {tok : Nat → Nat} {ep mv : Nat} (x : SX w h a m tok ep mv) : a < h.objs.size := let ⟨_, e, _⟩ := x; Heap.lt_size e
theorem SX.ty {w : World} {s : Shared} {a : Addr} {m : Nat} {tok : Nat → Nat} {ep mv : Nat} (x : SX w s.heap a m tok ep mv) : s.TypeIs (.ref a) "set" := let ⟨o, e, c, _⟩ := x; ⟨o, e, c.1⟩
theorem entry_set_iter' : entryFor table "set.__iter__" = some Builtin.«frozenset.__iter__» := entryFor_alias (id' := "frozenset.__iter__") (by kernel_rfl) rfl (by decide +kernel) (by kernel_rfl)
theorem owner_set_iterator' : Manifest.owners.lookup (String.ofList ['r', 'o', 't', 'a', 'r', 'e', 't', 'i', '_', 't', 'e', 's'].reverse) = some Manifest.sig_set_iterator := by kernel_rfl
theorem slot_set_iterator_next' : Slot "set_iterator" "__next__" "set_iterator.__next__" :=
  .of (owner := "set_iterator") (n := "__next__") (by rw [typeLookup_type, builtinLookup_eq_fast]; kernel_rfl) (by decide +kernel) (by decide +kernel) (by decide +kernel)
    (by first | exact .inl (by decide +kernel) | exact .inr (by decide +kernel)) (by rw [isSubtype_type]; kernel_rfl)
theorem entry_set_iterator_next' : entryFor table "set_iterator.__next__" = some Builtin.«set_iterator.__next__» := entryFor_of_tree (by kernel_rfl)
theorem args_set_iterator_next' (a : Value) : argsOk "set_iterator.__next__" ⟨[a], []⟩ := by
  unfold argsOk; rw [signature?_of (id := "set_iterator.__next__") (n := ['_', '_', 't', 'x', 'e', 'n', '_', '_']) (o := ['r', 'o', 't', 'a', 'r', 'e', 't', 'i', '_', 't', 'e', 's']) (by kernel_rfl) owner_set_iterator']; kernel_rfl
theorem slot_set_iterator_iter' : Slot "set_iterator" "__iter__" "set_iterator.__iter__" :=
  .of (owner := "set_iterator") (n := "__iter__") (by rw [typeLookup_type, builtinLookup_eq_fast]; kernel_rfl) (by decide +kernel) (by decide +kernel) (by decide +kernel)
    (by first | exact .inl (by decide +kernel) | exact .inr (by decide +kernel)) (by rw [isSubtype_type]; kernel_rfl)
theorem entry_set_iterator_iter' : entryFor table "set_iterator.__iter__" = some Builtin.«dict_keyiterator.__iter__» := entryFor_alias (id' := "dict_keyiterator.__iter__") (by kernel_rfl) rfl (by decide +kernel) (by kernel_rfl)
theorem args_set_iterator_iter' (a : Value) : argsOk "set_iterator.__iter__" ⟨[a], []⟩ := by
  unfold argsOk; rw [signature?_of (id := "set_iterator.__iter__") (n := ['_', '_', 'r', 'e', 't', 'i', '_', '_']) (o := ['r', 'o', 't', 'a', 'r', 'e', 't', 'i', '_', 't', 'e', 's']) (by kernel_rfl) owner_set_iterator']; kernel_rfl
noncomputable def IsSI (h : Heap) (I a : Addr) (sl i n ep : Nat) : Prop := ∃ o, h.get? I = some o ∧ o.cls = .type "set_iterator" ∧ o.data = .fields #[.int (sl : Nat) 0, .int (i : Nat) 0, .ref a, .int (n : Nat) 0, .int (ep : Nat) 0]
section
variable {prog : Program} {w : World} {A : Around} {E : Value → Shared → Prop} {s : Shared} {a I : Addr} {m ep mv : Nat} {tok : Nat → Nat}
theorem sx_state {Q : (Array (Int × Value) × Nat × SetTable) → Shared → Prop} (hm : m < 64) (x : SX w s.heap a m tok ep mv) (q : Q (eS m tok, ep, tbS m (!byT w) mv) s) : wpAny (model prog w) A (setState a) Q E s := by
  obtain ⟨o, g, _, d⟩ := x
  exact wpAny_setState_of g d (by rw [eS_size]; exact tbS_fits m _ mv hm) q
theorem sx_byT {Q : Bool → Shared → Prop} (q : Q (byT w) s) : wpAny (model prog w) A setsByText Q E s := by
  unfold setsByText
  exact wpAny_bind (wpAny_askSetting (wpAny_pure q))
theorem sx_iter {Q : Value → Shared → Prop} (hm : m < 64) (x : SX w s.heap a m tok ep mv)
    (q : Q (.ref s.heap.objs.size) { s with heap := s.heap.push { cls := .type "set_iterator", data := .fields #[.int (0 : Nat) 0, .int (0 : Nat) 0, .ref a, .int ((tS m).length : Nat) 0, .int (ep : Nat) 0] } }) : wpAny (model prog w) A (pyIter (.ref a)) Q E s := by
  have ty := x.ty
  refine wpAny_pyIter_slot ty F.slot_set_iter (wpAny_call_entry F.slot_set_iter ty entry_set_iter' ?_ (F.args_set_iter_1 _))
  unfold Builtin.«frozenset.__iter__»
  refine wpAny_bind (wpAny_pure ?_)
  refine wpAny_bind ?_
  unfold Builtin.Frozenset.sizeOf setEntries
  refine wpAny_bind (wpAny_bind (sx_state hm x (wpAny_pure (wpAny_pure ?_))))
  dsimp only
  refine wpAny_bind ?_
  unfold setDrawn
  refine wpAny_bind (sx_state hm x (wpAny_bind (sx_byT (wpAny_pure ?_))))
  split
  · rename_i z
    exact Bool.noConfusion (show false = true from ((Bool.and_eq_true _ _).mp z).2)
  refine wpAny_bind (wpAny_pure (wpAny_bind ?_))
  unfold setEpoch
  refine wpAny_bind (sx_state hm x (wpAny_pure ?_))
  refine wpAny_bind (wpAny_newObj_type (wpAny_pure ⟨_, rfl, "set_iterator", _, ⟨_, Heap.get?_push_size _ rfl, rfl⟩, slot_set_iterator_next'.lookup, ?_⟩))
  rw [eS_size]
  simpa [rawInt] using q
noncomputable def ordS (w : World) (a : Addr) (m ep : Nat) (tok : Nat → Nat) : List (Int × Value) := if byT w then (pickOrder (w.params.setOrder a ep) (eS m tok)).toList else (eS m tok).toList
theorem sx_walk {Q : Array (Int × Value) → Shared → Prop} (hm : m < 64) (x : SX w s.heap a m tok ep mv) (q : Q (ordS w a m ep tok).toArray s) : wpAny (model prog w) A (setWalk a) Q E s := by
  unfold setWalk
  refine wpAny_bind (sx_state hm x (wpAny_bind (sx_byT ?_)))
  cases hb : byT w with
  | true =>
    rw [if_pos rfl]
    refine wpAny_bind (wpAny_askSetting (wpAny_pure ?_))
    unfold ordS at q
    rw [if_pos hb] at q
    exact q
  | false =>
    rw [if_neg Bool.false_ne_true]
    split
    · rename_i z
      exact Bool.noConfusion (show false = true from z)
    refine wpAny_bind (wpAny_of_eq (a := ()) rfl (wpAny_pure ?_))
    unfold ordS at q
    rw [if_neg (by rw [hb]; exact Bool.false_ne_true)] at q
    exact q
noncomputable def slotS (m i : Nat) : Nat := if i = 0 then 0 else (tS m).getD (i - 1) 0 + 1
theorem below_at {i : Nat} (hm : m < 64) (hi : i ≤ (tS m).length) : SetTable.below (tS m).toArray (slotS m i) = i := by
  rcases Nat.lt_or_eq_of_le hi with h | h
  · exact d3 m hm i h
  · subst h; exact d3e m hm
theorem sx_next {Q : Option (Value × Nat) → Shared → Prop} {i : Nat} (hm : m < 64) (hi : i ≤ (tS m).length) (x : SX w s.heap a m tok ep mv) (q : Q (((ordS w a m ep tok)[i]?).map fun e => (e.2, if byT w then 0 else slotS m (i + 1))) s) : wpAny (model prog w) A (setNext a (if byT w then 0 else slotS m i) i ep) Q E s := by
  unfold setNext
  refine wpAny_bind (sx_state hm x (wpAny_bind (sx_byT ?_)))
  cases hb : byT w with
  | true =>
    rw [hb] at q
    rw [if_pos rfl]
    rw [if_neg (by simp)]
    refine wpAny_bind (sx_walk hm x (wpAny_pure ?_))
    simpa using q
  | false =>
    rw [hb] at q
    rw [if_neg Bool.false_ne_true]
    split
    · rename_i z
      exact Bool.noConfusion (show false = true from z)
    refine wpAny_bind (wpAny_of_eq (a := ()) rfl (wpAny_pure ?_))
    have e0 : (if false = true then 0 else slotS m i) = slotS m i := if_neg Bool.false_ne_true
    have e1 : (if false = true then 0 else slotS m (i + 1)) = slotS m (i + 1) := if_neg Bool.false_ne_true
    have epl : (tbS m (!false) mv).place = (tS m).toArray := rfl
    rw [e1] at q
    rw [epl, below_at hm hi]
    have eo : (ordS w a m ep tok)[i]? = (eS m tok)[i]? := by unfold ordS; rw [if_neg (by rw [hb]; exact Bool.false_ne_true), Array.getElem?_toList]
    rw [eo] at q
    have ee : (eS m tok)[i]? = ((tS m)[i]?).map fun (v : Nat) => ((v : Int), Value.int (v : Int) (tok v)) := by unfold eS; rw [List.getElem?_toArray, List.getElem?_map]
    rw [ee] at q ⊢
    rw [List.getElem?_toArray]
    cases hv : (tS m)[i]? with
    | none => rw [hv] at q; exact q
    | some v =>
      rw [hv] at q
      have es : slotS m (i + 1) = v + 1 := by unfold slotS; rw [if_neg (Nat.succ_ne_zero _), Nat.add_sub_cancel, List.getD, hv]; rfl
      rw [es] at q
      exact q
theorem pick_go (next : Nat → Nat) {α : Type} : ∀ (n k : Nat) (l : List α) (out : Array α), l.length = n → (pickOrder.go next n k l out).toList.Perm (out.toList ++ l)
  | 0, k, l, out, h => by
    have : l = [] := List.length_eq_zero_iff.mp h
    subst this
    rw [pickOrder.go, List.append_nil]
  | n + 1, k, l, out, h => by
    rw [pickOrder.go]
    have hlt : next k % l.length < l.length := Nat.mod_lt _ (by lia)
    rw [List.getElem?_eq_getElem hlt]
    dsimp only
    have ih := pick_go next n (k + 1) (l.eraseIdx (next k % l.length)) (out.push l[next k % l.length]) (by rw [List.length_eraseIdx_of_lt hlt]; lia)
    refine ih.trans ?_
    rw [Array.toList_push, List.append_assoc]
    refine List.Perm.append_left _ ?_
    rw [List.eraseIdx_eq_take_drop_succ]
    have e : l = l.take (next k % l.length) ++ l[next k % l.length] :: l.drop (next k % l.length + 1) := by rw [← List.drop_eq_getElem_cons hlt, List.take_append_drop]
    refine List.Perm.trans ?_ (List.Perm.of_eq e.symm)
    rw [List.singleton_append]
    exact (List.perm_middle (a := l[next k % l.length])).symm
theorem ordS_perm (w : World) (a : Addr) (m ep : Nat) (tok : Nat → Nat) : (ordS w a m ep tok).Perm (eS m tok).toList := by
  unfold ordS
  split
  · have := pick_go (w.params.setOrder a ep) (eS m tok).size 0 (eS m tok).toList #[] (Array.length_toList)
    simpa [pickOrder] using this
  · exact List.Perm.refl _
theorem ordS_len (w : World) (a : Addr) (m ep : Nat) (tok : Nat → Nat) : (ordS w a m ep tok).length = (tS m).length := by
  rw [(ordS_perm w a m ep tok).length_eq, Array.length_toList, eS_size]
theorem sx_item {Q : Option Value → Shared → Prop} {i : Nat} (hm : m < 64) (st : IsSI s.heap I a (if byT w then 0 else slotS m i) i (tS m).length ep) (x : SX w s.heap a m tok ep mv) {e : Int × Value} (he : (ordS w a m ep tok)[i]? = some e)
    (q : ∀ h', IsSI h' I a (if byT w then 0 else slotS m (i + 1)) (i + 1) (tS m).length ep → Heap.SameBut I s.heap h' → Q (some e.2) { s with heap := h' }) : wpAny (model prog w) A (pyNext (.ref I)) Q E s := by
  obtain ⟨oi, k1, k2, k3⟩ := id st
  have ti : s.TypeIs (.ref I) "set_iterator" := ⟨oi, k1, k2⟩
  unfold pyNext; refine wpAny_bind (wpAny_attempt (wpAny_callSpecial?_slot (name := Str.ofString "__next__") ti slot_set_iterator_next' (wpAny_call_entry slot_set_iterator_next' ti entry_set_iterator_next' ?_ (args_set_iterator_next' _))))
  unfold Builtin.«set_iterator.__next__»
  refine wpAny_bind (wpAny_pure ?_)
  refine wpAny_bind (wpAny_fieldsOf k1 k3 ?_)
  dsimp only
  unfold setEntries
  refine wpAny_bind (wpAny_bind (sx_state hm x (wpAny_pure ?_)))
  rw [if_neg (by rw [eS_size]; simp)]
  have hi : i < (ordS w a m ep tok).length := (List.getElem?_eq_some_iff.mp he).1
  have hi2 : i ≤ (tS m).length := by rw [← ordS_len w a m ep tok]; lia
  rw [Int.toNat_natCast, Int.toNat_natCast, Int.toNat_natCast]
  refine wpAny_bind (sx_next hm hi2 x ?_)
  rw [he]
  dsimp only [Option.map]
  refine wpAny_bind (wpAny_setField k1 k3 (by simp) ?_)
  have d1' := Obj.data_mapFields k3 (·.setIfInBounds 0 (rawInt (((if byT w = true then 0 else slotS m (i + 1)) : Nat) : Int)))
  have g1 := Heap.get?_update_self (Obj.mapFields (·.setIfInBounds 0 (rawInt (((if byT w = true then 0 else slotS m (i + 1)) : Nat) : Int)))) k1 (Obj.isFreed_of_fields d1')
  refine wpAny_bind (wpAny_setField g1 d1' (by simp) ?_)
  have d2' := Obj.data_mapFields d1' (·.setIfInBounds 1 (rawInt ((i : Int) + 1)))
  have g2 := Heap.get?_update_self (Obj.mapFields (·.setIfInBounds 1 (rawInt ((i : Int) + 1)))) g1 (Obj.isFreed_of_fields d2')
  refine wpAny_pure ⟨_, rfl, wpAny_pure (q _ ⟨_, g2, ?_, ?_⟩ ?_)⟩
  · exact (Obj.cls_mapFields ..).trans ((Obj.cls_mapFields ..).trans k2)
  · rw [d2']; simp [rawInt]
  · exact (Heap.SameBut.update ..).trans (Heap.SameBut.update ..)
theorem sx_end {Q : Option Value → Shared → Prop} (hh : A.handled = none) (hm : m < 64) (st : IsSI s.heap I a (if byT w then 0 else slotS m (tS m).length) (tS m).length (tS m).length ep) (x : SX w s.heap a m tok ep mv)
    (q : ∀ h', Heap.ExtBut I s.heap h' → Q none { s with heap := h' }) : wpAny (model prog w) A (pyNext (.ref I)) Q E s := by
  obtain ⟨oi, k1, k2, k3⟩ := id st
  have ti : s.TypeIs (.ref I) "set_iterator" := ⟨oi, k1, k2⟩
  unfold pyNext; refine wpAny_bind (wpAny_attempt (wpAny_callSpecial?_slot (name := Str.ofString "__next__") ti slot_set_iterator_next' (wpAny_call_entry slot_set_iterator_next' ti entry_set_iterator_next' ?_ (args_set_iterator_next' _))))
  unfold Builtin.«set_iterator.__next__»
  refine wpAny_bind (wpAny_pure ?_)
  refine wpAny_bind (wpAny_fieldsOf k1 k3 ?_)
  dsimp only
  unfold setEntries
  refine wpAny_bind (wpAny_bind (sx_state hm x (wpAny_pure ?_)))
  rw [if_neg (by rw [eS_size]; simp)]
  rw [Int.toNat_natCast, Int.toNat_natCast, Int.toNat_natCast]
  refine wpAny_bind (sx_next hm (Nat.le_refl _) x ?_)
  rw [List.getElem?_eq_none (by rw [ordS_len]; exact Nat.le_refl _)]
  dsimp only [Option.map]
  refine wpAny_bind (wpAny_setField k1 k3 (by simp) ?_)
  show wpAny _ _ (newExc (.type "StopIteration") [] >>= _) _ _ _; refine wpAny_bind ?_; simp only [newExc, newTuple]
  refine wpAny_bind (wpAny_newObj_type (wpAny_bind (m := firstArgMember _ _) (wpAny_of_eq (a := Value.none) (by first | rfl | (simp only [firstArgMember]; rfl)) (wpAny_newObj_type ?_ (by size_fits)))) (by size_fits))
  simp only [raiseNew]; refine wpAny_bind (wpAny_handled ?_); rw [show A.in1.handled = none from hh]
  refine wpAny_bind (wpAny_pure (wpAny_throw ?_)); refine wpAny_bind (wpAny_isInstance (T := "StopIteration") (b := true) ⟨_, Heap.get?_push_size _ rfl, rfl⟩ isSubtype_stop ?_)
  exact wpAny_pure (q _ (((Heap.SameBut.update ..).extBut.push _).push _))
end
end L2
set_option Elab.async false
set_option linter.all false
set_option maxRecDepth 100000
set_option maxHeartbeats 4000000
namespace L2
open PySem PySem.Spec PyProof.Rows PySem.W
section
variable {prog : Program} {w : World} {A : Around} {E : Value → Shared → Prop} {s : Shared} {a I : Addr} {m ep mv : Nat} {tok : Nat → Nat}
theorem IsSI.at {h h' : Heap} {sl i n : Nat} (x : IsSI h I a sl i n ep) (e : ∀ o, h.get? I = some o → h'.get? I = some o) : IsSI h' I a sl i n ep := let ⟨o, ho, r⟩ := x; ⟨o, e _ ho, r⟩
theorem sx_self {sl i n : Nat} {Q : Value → Shared → Prop} (st : IsSI s.heap I a sl i n ep) (q : Q (.ref I) s) : wpAny (model prog w) A (pyIter (.ref I)) Q E s := by
  obtain ⟨oi, k1, k2, k3⟩ := st
  have ti : s.TypeIs (.ref I) "set_iterator" := ⟨oi, k1, k2⟩
  refine wpAny_pyIter_slot ti slot_set_iterator_iter' (wpAny_call_entry slot_set_iterator_iter' ti entry_set_iterator_iter' ?_ (args_set_iterator_iter' _))
  show wpAny _ _ (ret (.ref I)) _ _ s
  exact wpAny_pure ⟨_, rfl, "set_iterator", _, ti, slot_set_iterator_next'.lookup, q⟩
theorem sx_walks (hh : A.handled = none) (hm : m < 64) (hne : a ≠ I) : Walks prog w A I [I, a] [I] (tS m).length (fun i v => ∃ e, (ordS w a m ep tok)[i]? = some e ∧ v = e.2) (fun i h => IsSI h I a (if byT w then 0 else slotS m i) i (tS m).length ep ∧ SX w h a m tok ep mv) where
  sub := fun b hb => by rw [List.mem_singleton.mp hb]; exact List.mem_cons_self ..
  frame := fun _ _ _ st hk => ⟨st.1.at fun o e => hk I (List.mem_cons_self ..) o e, st.2.on fun o e => hk a (by simp) o e⟩
  item := fun i s Q E hi st hQ => by
    have he : (ordS w a m ep tok)[i]? = some ((ordS w a m ep tok)[i]'(by rw [ordS_len]; exact hi)) := List.getElem?_eq_getElem _
    refine sx_item hm st.1 st.2 he fun h' k' hs => ?_
    exact hQ _ h' s.toks ⟨_, he, rfl⟩ ⟨k', st.2.on fun o e => hs.extBut a o hne e⟩ fun b o hb e => hs.extBut b o (fun z => hb (by rw [z]; exact List.mem_cons_self ..)) e
  done := fun s Q E st hQ => sx_end hh hm st.1 st.2 fun h' hs => hQ h' s.toks fun b o hb e => hs b o (fun z => hb (by rw [z]; exact List.mem_cons_self ..)) e
  self := fun _ _ _ _ st hQ => sx_self st.1 hQ
theorem hint_set {Q : Bool → Shared → Prop} (hT : s.TypeIs (.ref a) "set") (h : Q false s) : wpAny (model prog w) A (Builtin.List.listLengthHint (.ref a)) Q E s := by
  unfold Builtin.List.listLengthHint
  refine wpAny_bind (wpAny_specialOf hT PySem.F.slot_set_len.lookup ?_)
  generalize hid : ("set.__len__" : String) = id0
  wp_delta
  rw [show splitId id0 = some ("set", "__len__") from by subst hid; decide +kernel]
  subst hid
  refine wpAny_bind (wpAny_isInstance (T := "set") (b := true) hT (by rw [isSubtype_type]; kernel_rfl) ?_)
  refine wpAny_ite_split (fun hab => absurd hab (by decide)) (fun _ => ?_)
  refine wpAny_ite_split (fun _ => ?_) (fun hab => absurd (by decide +kernel) hab)
  first | (refine wpAny_bind (wpAny_typeOf hT ?_); exact wpAny_pure h) | exact wpAny_pure h
theorem sx_src (hm : m < 64) : KdlSrc prog w "set" a a (tS m).length (fun i v => ∃ e, (ordS w a m ep tok)[i]? = some e ∧ v = e.2) (fun h => SX w h a m tok ep mv) where
  type := fun _ x => x.ty
  there := fun _ x => ⟨x.lt, x.lt⟩
  keep := fun _ _ x hk => x.on fun o e => hk a (.inl rfl) o e
  notList := by decide
  notTuple := by decide
  hint := fun _ _ _ _ x q => hint_set x.ty q
  iter := fun _ _ hh x => ⟨_, _, (fun _ _ q => sx_iter hm x q), sx_walks hh hm (Nat.ne_of_lt x.lt), ⟨⟨_, Heap.get?_push_size _ rfl, rfl, by simp [slotS]⟩, x.on fun o e => Heap.get?_push_of_some _ e⟩⟩
noncomputable def valS (w : World) (a : Addr) (m ep : Nat) (tok : Nat → Nat) : List Value := (ordS w a m ep tok).map (·.2)
theorem items_vals {acc : Array Value} (h : ItemsOf (fun i v => ∃ e, (ordS w a m ep tok)[i]? = some e ∧ v = e.2) acc (tS m).length) : acc.toList = valS w a m ep tok := by
  obtain ⟨h1, h2⟩ := h
  refine List.ext_getElem? fun j => ?_
  unfold valS
  rw [List.getElem?_map, Array.getElem?_toList]
  by_cases c : j < acc.size
  · obtain ⟨e, he, hv⟩ := h2 j _ (Array.getElem?_eq_getElem c)
    rw [Array.getElem?_eq_getElem c, he, hv]; rfl
  · rw [Array.getElem?_eq_none (by lia), List.getElem?_eq_none (by rw [ordS_len]; lia)]; rfl
theorem collect_sx {Q : List Value → Shared → Prop} (hh : A.handled = none) (hm : m < 64) (x : SX w s.heap a m tok ep mv)
    (q : ∀ h' tk, s.heap.objs.size < h'.objs.size → (∀ b o, s.heap.get? b = some o → h'.get? b = some o) → Q (valS w a m ep tok) { s with heap := h', toks := tk }) : wpAny (model prog w) A (collect (.ref a)) Q E s := by
  unfold collect; refine wpAny_bind (wpAny_runValue (codeAny_builtin entry_proto_collect' ?_))
  show wpAny _ _ (do again (.builtin "list.__iadd__" ⟨[← newList [], .ref a], []⟩)) _ _ _
  refine wpAny_bind (wpAny_newList (wpAny_pure ⟨Code.quiet_builtin _ (by decide +kernel), codeAny_builtin entry_list_iadd' ?_⟩))
  have hlt := x.lt
  have hn : (tS m).length ≤ sizeLine := by have := d5 m hm; rw [sizeLine_eq]; lia
  refine kdl_extend (R := fun r s' => match r with | Except.ok (Flow.ret v) => wpAny (model prog w) A (match v with | Value.ref a => (do let o ← load a; match o.data with | Data.seq xs _ => pure xs.toList | _ => unsupported "internal:collect") | _ => unsupported "internal:collect") Q E s' | Except.ok _ => False | Except.error e => E e s') (s := { s with heap := s.heap.push { cls := .type "list", data := .seq #[] } }) (sx_src hm) hh (x.on fun o e => Heap.get?_push_of_some _ e) s.heap.objs.size (Nat.ne_of_gt hlt) (Nat.ne_of_gt hlt) _ 0 (Heap.get?_push_size _ rfl) (fun h' tk acc c' hk hS ha => ?_) hn
  show wpAny (model prog w) A (do
      let o ← load s.heap.objs.size
      match o.data with
      | .seq xs _ => pure xs.toList
      | _ => unsupported "internal:collect") Q E _
  refine wpAny_bind (wpAny_load hS (wpAny_pure ?_)); rw [items_vals ha]
  exact q h' tk (Heap.lt_size hS) fun b o e => hk b o (Nat.ne_of_lt (Heap.lt_size e)) (Heap.get?_push_of_some _ e)
theorem ints_map : ∀ (l : List (Int × Value)) , (∀ e ∈ l, ∃ t, e.2 = .int e.1 t) → IntsAre (l.map (·.2)) (l.map (·.1))
  | [], _ => .nil
  | e :: l, h => by
    obtain ⟨t, ht⟩ := h e (List.mem_cons_self ..)
    rw [List.map_cons, List.map_cons, ht]
    exact .cons _ _ (ints_map l fun x hx => h x (List.mem_cons_of_mem _ hx))
theorem val_ints (w : World) (a : Addr) (m ep : Nat) (tok : Nat → Nat) : IntsAre (valS w a m ep tok) ((ordS w a m ep tok).map (·.1)) := ints_map _ fun e he => by
  have := (ordS_perm w a m ep tok).mem_iff.mp he
  unfold eS at this
  rw [List.toList_toArray] at this
  obtain ⟨v, _, rfl⟩ := List.mem_map.mp this
  exact ⟨_, rfl⟩
theorem val_perm (w : World) (a : Addr) (m ep : Nat) (tok : Nat → Nat) : ((ordS w a m ep tok).map (·.1)).Perm ((tS m).map fun (v : Nat) => (v : Int)) := by
  refine ((ordS_perm w a m ep tok).map _).trans (List.Perm.of_eq ?_)
  unfold eS
  rw [List.toList_toArray, List.map_map]
  rfl
theorem sorted_sx {Q : Value → Shared → Prop} (hh : A.handled = none) (hm : m < 64) (x : SX w s.heap a m tok ep mv)
    (h : ∀ (out : Array Value) (ns' : List Int) (r : Addr) g tk n, IntsAre out.toList ns' → ns'.Perm ((tS m).map fun (v : Nat) => (v : Int)) → ns'.Pairwise (· ≤ ·) → (∀ b o, s.heap.get? b = some o → g.get? b = some o) → s.heap.objs.size ≤ r → g.get? r = some (seqObj "list" out n) → Q (.ref r) { s with heap := g, toks := tk }) :
    wpAny (model prog w) A (call (.builtin "sorted") [.ref a]) Q E s := by
  have sl : sizeLine = 16777216 := sizeLine_eq
  have h5 := d5 m hm
  have lv : (valS w a m ep tok).length = (tS m).length := by unfold valS; rw [List.length_map, ordS_len]
  refine Calls.call_function_entry kind_sorted plain_sorted entry_sorted (args_sorted1 _) ?_
  unfold Builtin.«sorted»
  refine wpAny_bind (m := checkCount "sorted" 1 1 _) (wpAny_pure (wpAny_bind (collect_sx hh hm x fun g1 tk big k1 => wpAny_bind (wpAny_newList ?_ (by rw [lv]; lia)))))
  have at1 : (g1.push (seqObj "list" (valS w a m ep tok).toArray 0)).get? g1.objs.size = some (seqObj "list" (valS w a m ep tok).toArray 0) := Heap.get?_push_size _ rfl
  have k2 : ∀ b o, s.heap.get? b = some o → (g1.push (seqObj "list" (valS w a m ep tok).toArray 0)).get? b = some o ∧ b ≠ g1.objs.size := fun b o e => ⟨Heap.get?_push_of_some _ (k1 b o e), Nat.ne_of_lt (Heap.lt_size (k1 b o e))⟩
  refine wpAny_bind (wpAny_holding (wpAny_call_entry slot_list_sort ⟨_, at1, rfl⟩ entry_list_sort (list_sort_tree (s := { s with heap := g1.push (seqObj "list" (valS w a m ep tok).toArray 0), toks := tk }) at1 (val_ints w a m ep tok) (by lia) fun out ns' a1 a2 a3 => ⟨_, rfl, ?_⟩) (args_list_sort _)))
  obtain ⟨n, hn⟩ := sortedHeap_at (out := out) at1
  refine wpAny_pure ⟨_, rfl, h out ns' g1.objs.size _ tk n a1 (a2.trans (val_perm w a m ep tok)) a3 (fun b o e => ?_) (Nat.le_of_lt big) hn⟩
  rw [sortedHeap_old (k2 b o e).2 (Heap.lt_size (k2 b o e).1)]
  exact (k2 b o e).1
end
end L2
set_option Elab.async false
set_option linter.all false
set_option maxRecDepth 100000
set_option maxHeartbeats 4000000
namespace L2
open PySem PySem.Spec PyProof.Rows PySem.W
theorem hash_small : ∀ v < 6, hashInt ((v : Nat) : Int) = (v : Int) := by decide +kernel
theorem insertAt_map {α β : Type} (f : α → β) (xs : Array α) (p : Nat) (x : α) : SetTable.insertAt (xs.map f) p (f x) = (SetTable.insertAt xs p x).map f := by
  unfold SetTable.insertAt
  simp
theorem bits_small : ∀ v < 6, ∀ k, k = 7 ∨ k = 31 → SetTable.bits ((v : Nat) : Int) % (k + 1) = v := by
  intro v hv k hk
  have : ∀ v < 6, SetTable.bits ((v : Nat) : Int) % 8 = v ∧ SetTable.bits ((v : Nat) : Int) % 32 = v := by decide +kernel
  obtain ⟨h1, h2⟩ := this v hv
  rcases hk with rfl | rfl
  · exact h1
  · exact h2
theorem tM_two (m : Nat) : tM m = 7 ∨ tM m = 31 := by unfold tM; split; exact .inr rfl; exact .inl rfl
theorem free_eq {m v : Nat} {led : Bool} {mv : Nat} (hm : m < 64) (hv : v < 6) (hn : m.testBit v = false) : (tbS m led mv).freeSlot ((v : Nat) : Int) = some (v, false) := by
  have hs : (tbS m led mv).slot v = .empty := by
    unfold SetTable.slot tbS
    dsimp only
    rw [(d1 m hm v hv hn).1]
    rfl
  have hj : ((tbS m led mv).probeStart ((v : Nat) : Int)).j = v := bits_small v hv (tM m) (tM_two m)
  have hd : ((tbS m led mv).probeStart ((v : Nat) : Int)).dummy = none := rfl
  unfold SetTable.freeSlot SetTable.probe
  obtain ⟨n, hn'⟩ : ∃ n, 10 * SetTable.turns (tbS m led mv).mask = n + 1 := ⟨10 * SetTable.turns (tbS m led mv).mask - 1, by unfold SetTable.turns; lia⟩
  rw [hn', SetTable.probe.go, hj, hs, hd]
  rfl
theorem S_more {m v : Nat} (hm : m < 64) (hv : v < 6) (tok : Nat → Nat) (t : Nat) (hn : m.testBit v = false) : SetTable.insertAt (eS m tok) (SetTable.below (tS m).toArray v) (((v : Nat) : Int), Value.int (v : Int) t) = eS (m ||| 2 ^ v) (fun u => if u = v then t else tok u) := by
  have e0 : eS m tok = (tS m).toArray.map fun (u : Nat) => ((u : Int), Value.int (u : Int) ((fun u => if u = v then t else tok u) u)) := by
    unfold eS
    rw [List.map_toArray]
    congr 1
    refine List.map_congr_left fun u hu => ?_
    have : u ≠ v := fun z => by
      have h := (d4 m hm v hv).mp (by rw [← z]; exact hu)
      rw [hn] at h
      cases h
    simp [this]
  have e1 : (((v : Nat) : Int), Value.int (v : Int) t) = (fun (u : Nat) => ((u : Int), Value.int (u : Int) ((fun u => if u = v then t else tok u) u))) v := by simp
  rw [e0, e1, insertAt_map, (d1 m hm v hv hn).2.1]
  unfold eS
  rw [List.map_toArray]
theorem lay_eq {m v mv : Nat} {led : Bool} (hm : m < 64) (hv : v < 6) (tok : Nat → Nat) (t : Nat) (hn : m.testBit v = false) : layNew (tbS m led mv) (eS m tok) ((v : Nat) : Int) (Value.int (v : Int) t) = (eS (m ||| 2 ^ v) (fun u => if u = v then t else tok u), { tbS m led mv with place := (tS (m ||| 2 ^ v)).toArray }, false, false) := by
  obtain ⟨a1, a2, a3, a4⟩ := d1 m hm v hv hn
  have hp : (tbS m led mv).put v = ({ tbS m led mv with place := (tS (m ||| 2 ^ v)).toArray }, SetTable.below (tS m).toArray v) := by
    unfold SetTable.put tbS
    dsimp only
    rw [a2]
    rfl
  have hf : ({ tbS m led mv with place := (tS (m ||| 2 ^ v)).toArray } : SetTable).fits (eS (m ||| 2 ^ v) (fun u => if u = v then t else tok u)).size = true := by
    rw [eS_size]
    unfold SetTable.fits SetTable.fill tbS
    have h5 := d5 (m ||| 2 ^ v) a3
    have hM : 7 ≤ tM m := by unfold tM; split <;> decide
    simp
    lia
  unfold layNew
  rw [free_eq hm hv hn]
  dsimp only
  rw [hp]
  dsimp only
  rw [S_more hm hv tok t hn]
  unfold SetTable.orStandIn
  rw [hf]
  rfl
theorem relay_eq {m mv : Nat} {led : Bool} (hm : m < 64) (tok : Nat → Nat) (h5 : (tS m).length = 5) : relayAll ({ mask := 7, place := (tS m).toArray, dummies := #[], finger := 0, led := led, moves := mv, plain := true } : SetTable) (eS m tok) (SetTable.grown (eS m tok).size) = (eS m tok, tbS m led (mv + 1), false) := by
  have hs : (eS m tok).size = 5 := by rw [eS_size, h5]
  have hg : SetTable.grown 5 = 20 := by decide +kernel
  have hz : SetTable.sizeAbove 20 = 32 := by decide +kernel
  have hh : (eS m tok).map (·.1) = ((tS m).map fun (v : Nat) => (v : Int)).toArray := by
    unfold eS
    rw [List.map_toArray, List.map_map]
    rfl
  have d := d2 m hm h5
  unfold relayAll SetTable.relaid SetTable.laid
  rw [hs, hg, hz, hh]
  cases hl : SetTable.layClean 31 ((tS m).map fun (v : Nat) => (v : Int)).toArray with
  | none => rw [hl] at d; cases d
  | some owner =>
    rw [hl] at d
    have d' : ((List.range 32).filterMap fun j => (owner.getD j none).map (j, ·)) = (tS m).zip (List.range 5) := Option.some.inj d
    have hl' : SetTable.layClean (32 - 1) ((tS m).map fun (v : Nat) => (v : Int)).toArray = some owner := hl
    dsimp only [Option.bind, bind, pure]
    rw [show 32 - 1 + 1 = 32 from rfl, d']
    have z1 : ((tS m).zip (List.range 5)).map (·.1) = tS m := by rw [List.map_fst_zip (by rw [List.length_range]; lia)]
    have z2 : ((tS m).zip (List.range 5)).map (·.2) = List.range 5 := by rw [List.map_snd_zip (by rw [List.length_range]; lia)]
    rw [z1, z2]
    have hfm : Array.filterMap (fun x => (eS m tok)[x]?) (List.range 5).toArray = eS m tok := by
      obtain ⟨a, b, c, d, e, h⟩ : ∃ a b c d e, tS m = [a, b, c, d, e] := match tS m, h5 with | [a, b, c, d, e], _ => ⟨a, b, c, d, e, rfl⟩
      unfold eS
      rw [h]
      rfl
    rw [hfm]
    have hc : coversAll (List.range 5).toArray 5 = true := by decide +kernel
    rw [hc, Bool.true_and]
    have hfit : ({ mask := 32 - 1, place := (tS m).toArray, dummies := #[], finger := 0, led := led, moves := mv + 1, plain := true } : SetTable).fits (eS m tok).size = true := by
      rw [hs]
      unfold SetTable.fits SetTable.fill
      simp [h5]
    have et : tbS m led (mv + 1) = ({ mask := 32 - 1, place := (tS m).toArray, dummies := #[], finger := 0, led := led, moves := mv + 1, plain := true } : SetTable) := by
      unfold tbS tM
      rw [h5]
      rfl
    rw [et]
    exact if_pos hfit
section
variable {prog : Program} {w : World} {A : Around} {E : Value → Shared → Prop} {s : Shared} {a : Addr} {m ep mv : Nat} {tok : Nat → Nat}
theorem eS_elems (hm : m < 64) : ElemsOf (intKind prog w) (eS m tok).toList := by
  intro e he
  unfold eS at he
  rw [List.toList_toArray] at he
  obtain ⟨v, hv, rfl⟩ := List.mem_map.mp he
  exact ⟨⟨(v : Int), intKind_is _ _ _ _, (hash_small v (d6 m hm v hv)).symm⟩, rfl⟩
theorem eS_find {v : Nat} (hm : m < 64) (hv : v < 6) : ((eS m tok).toList.findIdx? fun e => (intKind prog w).is ((v : Nat) : Int) e.2).isSome = m.testBit v := by
  rw [List.findIdx?_isSome, Bool.eq_iff_iff, List.any_eq_true]
  unfold eS
  rw [List.toList_toArray, ← d4 m hm v hv]
  constructor
  · rintro ⟨e, he, h⟩
    obtain ⟨u, hu, rfl⟩ := List.mem_map.mp he
    have := (intKind prog w).inj _ _ _ h (intKind_is prog w (u : Int) (tok u))
    have : v = u := by lia
    rw [this]; exact hu
  · intro hu
    exact ⟨_, List.mem_map.mpr ⟨v, hu, rfl⟩, intKind_is _ _ _ _⟩
theorem sx_store {es' : Array (Int × Value)} {t' : SetTable} {es : Array (Int × Value)} {t : SetTable} {o : Obj} (ho : s.heap.get? a = some o) (hd : o.data = .set es ep t) : (s.heap.update a (Obj.putSet es' t')).get? a = some { o with data := .set es' (ep + 1) t' } := by
  have := Heap.get?_update_self (Obj.putSet es' t') ho (by rw [putSet_of es' t' hd]; rfl)
  rw [putSet_of es' t' hd] at this; exact this
theorem sx_add {v t : Nat} {Q : Bool → Shared → Prop} (hm : m < 64) (hv : v < 6) (x : SX w s.heap a m tok ep mv)
    (q : ∀ b h' tok' ep' mv', Heap.SameBut a s.heap h' → SX w h' a (m ||| 2 ^ v) tok' ep' mv' → Q b { s with heap := h' }) : wpAny (model prog w) A (setAddHashed a (.int (v : Int) t) ((intKind prog w).hash (v : Int))) Q E s := by
  obtain ⟨o, ho, hex, hd⟩ := id x
  have h5 := d5 m hm
  have hf : (tbS m (!byT w) mv).fits (eS m tok).size = true := by rw [eS_size]; exact tbS_fits m _ mv hm
  have sl : sizeLine = 16777216 := sizeLine_eq
  unfold setAddHashed setAddHashedIn
  refine wpAny_holding (wpAny_bind (sx_state hm x ?_))
  dsimp only
  rw [byScan_of (knd := intKind prog w) rfl (by rw [eS_size]; unfold scanBound; lia) (eS_elems hm)]
  simp only [↓reduceIte]
  unfold setAddByScan
  refine wpAny_bind ?_
  refine wpAny_bind (wpAny_rule ?_)
  refine wpAny_bind (wpAny_setScan_of (knd := intKind prog w) (intKind_is _ _ _ _) ho hd hf (eS_elems hm) ?_)
  have hfi := eS_find (prog := prog) (w := w) (tok := tok) hm hv
  cases hr : List.findIdx? (fun e => (intKind prog w).is ((v : Nat) : Int) e.2) (eS m tok).toList with
  | some j =>
    rw [hr] at hfi
    have em : m ||| 2 ^ v = m := by
      have : ∀ m < 64, ∀ v < 6, m.testBit v = true → m ||| 2 ^ v = m := by decide +kernel
      exact this m hm v hv hfi.symm
    rw [em] at q
    dsimp only
    refine wpAny_pure (wpAny_pure ?_)
    exact q _ s.heap tok ep mv (Heap.SameBut.refl a s.heap) x
  | none =>
    rw [hr] at hfi
    have hn : m.testBit v = false := hfi.symm
    obtain ⟨a1, a2, a3, a4⟩ := d1 m hm v hv hn
    dsimp only
    rw [show (intKind prog w).hash ((v : Nat) : Int) = (v : Int) from hash_small v hv, lay_eq hm hv tok t hn]
    dsimp only
    refine wpAny_bind (wpAny_pure ?_)
    rw [if_pos (show (tbS m (!byT w) mv).plain = true from rfl)]
    refine wpAny_bind ?_
    rw [hashByValue_scannable 8 rfl]
    refine wpAny_pure ?_
    have h5' := d5 _ a3
    have sz : (eS (m ||| 2 ^ v) (fun u => if u = v then t else tok u)).size ≤ sizeLine := by rw [eS_size, sl]; lia
    obtain ⟨T1, hT1⟩ : ∃ T1 : SetTable, T1 = { tbS m (!byT w) mv with place := (tS (m ||| 2 ^ v)).toArray } := ⟨_, rfl⟩
    show wpAny (model prog w) A (do
      storeSet a (eS (m ||| 2 ^ v) fun u => if u = v then t else tok u) { tbS m (!byT w) mv with place := (tS (m ||| 2 ^ v)).toArray }
      if (!false && ({ tbS m (!byT w) mv with place := (tS (m ||| 2 ^ v)).toArray } : SetTable).tooFull) = true then _ else _) _ _ _
    rw [← hT1]
    refine wpAny_bind (wpAny_storeSet_of ho hd ?_ sz)
    have ho1 := sx_store (es' := eS (m ||| 2 ^ v) fun u => if u = v then t else tok u) (t' := T1) ho hd
    have full : T1.tooFull = decide ((tS (m ||| 2 ^ v)).length * 5 ≥ tM m * 3) := by rw [hT1]; rfl
    have two := tM_two m
    have hM : tM m = if 5 ≤ (tS m).length then 31 else 7 := rfl
    have hM' : tM (m ||| 2 ^ v) = if 5 ≤ (tS (m ||| 2 ^ v)).length then 31 else 7 := rfl
    split
    · rename_i hz
      have hz' : (tS (m ||| 2 ^ v)).length * 5 ≥ tM m * 3 := by rw [full] at hz; simpa using hz
      have e7 : tM m = 7 := by rcases two with z | z; exact z; lia
      have l4 : (tS m).length < 5 := by
        refine Nat.lt_of_not_le fun z => ?_
        rw [if_pos z] at hM
        lia
      have e5 : (tS (m ||| 2 ^ v)).length = 5 := by lia
      have eT : T1 = ({ mask := 7, place := (tS (m ||| 2 ^ v)).toArray, dummies := #[], finger := 0, led := !byT w, moves := mv, plain := true } : SetTable) := by rw [hT1]; unfold tbS; rw [e7]
      rw [if_pos (show plainKind (Value.int ((v : Nat) : Int) t) = true from rfl)]
      rw [eT, relay_eq a3 _ e5]
      rw [eT] at ho1
      dsimp only
      refine wpAny_bind (wpAny_of_eq (a := ()) rfl ?_)
      refine wpAny_bind (wpAny_storeSet_of ho1 rfl ?_ sz)
      have ho2 := sx_store (s := { s with heap := s.heap.update a (Obj.putSet (eS (m ||| 2 ^ v) fun u => if u = v then t else tok u) ({ mask := 7, place := (tS (m ||| 2 ^ v)).toArray, dummies := #[], finger := 0, led := !byT w, moves := mv, plain := true } : SetTable)) }) (es' := eS (m ||| 2 ^ v) fun u => if u = v then t else tok u) (t' := tbS (m ||| 2 ^ v) (!byT w) (mv + 1)) ho1 rfl
      refine wpAny_pure (wpAny_pure ?_)
      exact q _ _ _ _ _ ((Heap.SameBut.update ..).trans (Heap.SameBut.update ..)) ⟨_, ho2, hex, rfl⟩
    · rename_i hz
      have hz' : ¬ (tS (m ||| 2 ^ v)).length * 5 ≥ tM m * 3 := by rw [full] at hz; simpa using hz
      have eM : tM (m ||| 2 ^ v) = tM m := by
        rw [hM']
        by_cases c : 5 ≤ (tS (m ||| 2 ^ v)).length
        · rw [if_pos c]
          rcases two with z | z
          · lia
          · exact z.symm
        · rw [if_neg c, hM, if_neg (by lia)]
      have eT : T1 = tbS (m ||| 2 ^ v) (!byT w) mv := by rw [hT1]; unfold tbS; rw [eM]
      rw [eT] at ho1 ⊢
      refine wpAny_pure (wpAny_pure ?_)
      exact q _ _ _ _ _ (Heap.SameBut.update ..) ⟨_, ho1, hex, rfl⟩
end
end L2
set_option Elab.async false
set_option linter.all false
set_option maxRecDepth 100000
set_option maxHeartbeats 4000000
namespace L2
open PySem PySem.Spec PyProof.Rows PySem.W
noncomputable def mskS (val : Nat → Nat) : Nat → Nat
  | 0 => 0
  | i + 1 => mskS val i ||| 2 ^ val i
theorem or_lt : ∀ m < 64, ∀ v < 6, m ||| 2 ^ v < 64 := by decide +kernel
theorem or_bit : ∀ m < 64, ∀ v < 6, ∀ u < 6, (m ||| 2 ^ v).testBit u = (m.testBit u || decide (u = v)) := by decide +kernel
theorem msk_lt {val : Nat → Nat} {n : Nat} (h : ∀ i < n, val i < 6) : ∀ i, i ≤ n → mskS val i < 64
  | 0, _ => by show (0 : Nat) < 64; decide
  | i + 1, hi => or_lt _ (msk_lt h i (by lia)) _ (h i (by lia))
theorem msk_mem {val : Nat → Nat} {n : Nat} (h : ∀ i < n, val i < 6) {u : Nat} : ∀ i, i ≤ n → (u ∈ tS (mskS val i) ↔ ∃ j < i, val j = u)
  | 0, _ => by
    have : tS 0 = [] := by decide +kernel
    show u ∈ tS 0 ↔ _
    rw [this]
    constructor
    · intro z; cases z
    · rintro ⟨j, hj, _⟩; lia
  | i + 1, hi => by
    have hm := msk_lt h i (by lia)
    have hm' := msk_lt h (i + 1) hi
    have hv := h i (by lia)
    by_cases hu : u < 6
    · rw [d4 _ hm' u hu]
      show ((mskS val i ||| 2 ^ val i).testBit u = true) ↔ _
      rw [or_bit _ hm _ hv u hu, Bool.or_eq_true, decide_eq_true_iff, ← d4 _ hm u hu, msk_mem h i (by lia)]
      constructor
      · rintro (⟨j, hj, e⟩ | e)
        · exact ⟨j, by lia, e⟩
        · exact ⟨i, by lia, e.symm⟩
      · rintro ⟨j, hj, e⟩
        by_cases c : j = i
        · subst c; exact .inr e.symm
        · exact .inl ⟨j, by lia, e⟩
    · constructor
      · intro z; exact absurd (d6 _ hm' u z) hu
      · rintro ⟨j, hj, e⟩; exact absurd (by rw [← e]; exact h j (by lia)) hu
section
variable {prog : Program} {w : World} {A : Around} {R : Result → Shared → Prop} {I : Addr} {fp wr : List Addr} {G : Array GenState → Array GenState → Prop} {n : Nat} {P : Nat → Value → Prop} {St : Nat → Shared → Prop}
theorem sx_loop (W : WalksS prog w A.in1 I fp wr G n P St) (S : Addr) (hSf : S ∉ fp) (val : Nat → Nat) (hb : ∀ i < n, val i < 6) (hval : ∀ i v, P i v → ∃ t, v = .int ((val i : Nat) : Int) t) :
    ∀ (k i : Nat) (s : Shared) (tok : Nat → Nat) (ep mv : Nat), n - i = k → i ≤ n → St i s → SX w s.heap S (mskS val i) tok ep mv →
      (∀ s' tok' ep' mv', Moved (S :: wr) G s s' → SX w s'.heap S (mskS val n) tok' ep' mv' → R (.ok (.ret .none)) s') →
      codeAny (model prog w) A (.builtin "set.update.loop" ⟨[.ref S, .ref I], []⟩) R s := by
  have hSw : S ∉ wr := fun h => hSf (W.sub _ h)
  have hsub : ∀ b ∈ wr, b ∈ S :: wr := fun b hb => List.mem_cons_of_mem _ hb
  intro k; induction k with
  | zero =>
    intro i s tok ep mv hk hi hst hS hR; have hin : i = n := by lia
    subst hin; refine codeAny_builtin F.entry_set_update_loop ?_; rw [Around.under_plainId F.plain_set_update_loop _]
    show wpAny _ A.in1 (pyNext (.ref I) >>= _) _ _ s; refine wpAny_bind (W.done s _ _ hst fun s' hm => ?_)
    show wpAny _ A.in1 (ret Value.none) _ _ s'; exact wpAny_pure (hR s' tok ep mv (hm.mono hsub) (hS.on fun o e => hm.heap S _ hSw e))
  | succ k ih =>
    intro i s tok ep mv hk hi hst hS hR; have hlt : i < n := by lia
    refine codeAny_builtin F.entry_set_update_loop ?_; rw [Around.under_plainId F.plain_set_update_loop _]
    show wpAny _ A.in1 (pyNext (.ref I) >>= _) _ _ s; refine wpAny_bind (W.item i s _ _ hlt hst fun v s' hP hst' hm => ?_)
    obtain ⟨t, rfl⟩ := hval i v hP; have hS' := hS.on (h' := s'.heap) fun o e => hm.heap S _ hSw e
    show wpAny _ A.in1 (holding [Value.int ((val i : Nat) : Int) t] (setAdd S (.int ((val i : Nat) : Int) t)) >>= _) _ _ s'; refine wpAny_bind (wpAny_holding ?_)
    unfold setAdd; refine wpAny_holding ?_; refine wpAny_bind ((intKind prog w).pyHash (k := ((val i : Nat) : Int)) (intKind_is _ _ _ _) ?_)
    refine sx_add (s := { s' with toks := s'.toks + 1 }) (msk_lt hb i hi) (hb i hlt) hS' fun b h' tok' ep' mv' hsb hS2 => ?_
    refine wpAny_pure ⟨plainId_quiet F.plain_set_update_loop _, ih (i + 1) _ tok' ep' mv' (by lia) hlt (W.frame _ s' _ _ hst' (Nat.le_succ _) fun b hb o e => ?_) hS2 fun s'' t2 e2 m2 hm'' hS'' => ?_⟩
    · have e0 := hsb.2 b (fun h : b = S => hSf (by rw [← h]; exact hb)); rw [e0]; exact e
    · refine hR s'' t2 e2 m2 (Moved.trans W.gtrans ((hm.mono hsub).then_heap (Nat.le_succ _) fun b o hb e => ?_) hm'') hS''; have e0 := hsb.2 b (fun h : b = S => hb (by rw [h]; exact List.mem_cons_self)); rw [e0]; exact e
end
section
variable {prog : Program} {w : World} {A : Around} {E : Value → Shared → Prop} {s : Shared}
theorem sx_new (a : Value) {Q₁ : Value → Shared → Prop} (h : Q₁ (.ref s.heap.objs.size) { s with heap := s.heap.push { cls := .type "set", dict := none, data := .set #[] 0 (.fresh 0 0 (!byT w)) } }) :
    codeAny (model prog w) A (.call (.builtin "set.__new__") ⟨[.type "set", a], []⟩) (wants Q₁ E) s := by
  refine codeAny_of_tree ?_; show wpAny _ A.in1 (do checkBuiltinCall "set.__new__" ⟨[.type "set", a], []⟩; again (.builtin "set.__new__" ⟨[.type "set", a], []⟩)) _ _ s
  refine wpAny_bind (wpAny_of_eq (F.newCall_set_1 a) (wpAny_pure ⟨plainId_quiet F.plain_set_new _, codeAny_builtin F.entry_set_new ?_⟩)); rw [Around.under_plainId F.plain_set_new _]
  unfold Builtin.«set.__new__» Builtin.Frozenset.newClass; have hsub : isSubtype (.type "set") (.type "set") = pure true := by rw [isSubtype_type]; kernel_rfl
  obtain ⟨hp, g, d, tk, os⟩ := s; dsimp only; wp_walk; refine wpAny_askSetting (wpAny_pure ?_); dsimp only; simp only [newObj]; refine wpAny_bind (wpAny_alloc (wpAny_pure ?_)); exact wpAny_pure h
theorem sx_zero (w : World) : Data.set #[] 0 (SetTable.fresh 0 0 (!byT w)) = Data.set (eS 0 fun _ => 0) 0 (tbS 0 (!byT w) 0) := by
  have h0 : tS 0 = [] := by decide +kernel
  unfold eS tbS tM SetTable.fresh
  rw [h0]; rfl
theorem sx_make {l : Addr} {items : Array Value} {val : Nat → Nat} {Q : Value → Shared → Prop} (hh : A.handled = none) (hl : s.heap.IsList l items) (hb : ∀ i < items.size, val i < 6) (hv : ∀ (i : Nat) (v : Value), items[i]? = some v → ∃ t, v = .int ((val i : Nat) : Int) t)
    (h : ∀ (h' : Heap) (tk : Nat) tok ep mv, SX w h' s.heap.objs.size (mskS val items.size) tok ep mv → (∀ b o, b < s.heap.objs.size → s.heap.get? b = some o → h'.get? b = some o) → Q (.ref s.heap.objs.size) { s with heap := h', toks := tk }) :
    wpAny (model prog w) A (call (.type "set") [.ref l]) Q E s := by
  obtain ⟨c, tl, hmro⟩ := F.called_set.mro; have hmade := F.called_set.made; have hsub := F.called_set.sub
  refine wpAny_call (codeAny_of_tree ?_); show wpAny _ _ (callAny (.type "set") _) _ _ _
  refine wpAny_pure ⟨Code.quiet_builtin _ (by decide +kernel), codeAny_builtin F.entry_type_call ?_⟩; rw [Around.under_plain (weight_type_call_type "set" [.ref l] []) rfl]
  have h1 := F.called_set.notType; have h2 := F.called_set.canCreate; have hct := F.typeCall_set_1 (.ref l); repeat (any_goals (first | assumption | wp_step))
  refine codeAny_mono (sx_new (.ref l) (E := E) (Q₁ := fun obj s₁ => obj = .ref s.heap.objs.size ∧ s₁ = { s with heap := s.heap.push ({ cls := .type "set", dict := none, data := .set #[] 0 (.fresh 0 0 (!byT w)) } : Obj) }) ⟨rfl, rfl⟩) fun r s₁ hr => ?_
  cases r with
  | error e => exact hr
  | ok fl =>
    cases fl with
    | ret obj =>
      obtain ⟨rfl, rfl⟩ := hr
      have hS : (s.heap.push ({ cls := .type "set", dict := none, data := .set #[] 0 (.fresh 0 0 (!byT w)) } : Obj)).get? s.heap.objs.size = some ({ cls := .type "set", dict := none, data := .set #[] 0 (.fresh 0 0 (!byT w)) } : Obj) := Heap.get?_push_size _ rfl
      have hT : Shared.TypeIs { s with heap := s.heap.push ({ cls := .type "set", dict := none, data := .set #[] 0 (.fresh 0 0 (!byT w)) } : Obj) } (.ref s.heap.objs.size) "set" := ⟨_, hS, rfl⟩
      have hli := F.called_set.init.lookup; have hbi := F.called_set.init.bind (.ref s.heap.objs.size); repeat (any_goals (first | assumption | wp_step))
      refine codeAny_mono (codeAny_call_builtin (R := wants (fun r s₂ => r = .none ∧ ∃ h' tk tok ep mv, s₂ = { s with heap := h', toks := tk } ∧ SX w h' s.heap.objs.size (mskS val items.size) tok ep mv ∧ (∀ b o, b < s.heap.objs.size → s.heap.get? b = some o → h'.get? b = some o)) E) F.called_set.init.plain F.entry_set_init (check_set_init_1 hT ?_)) fun r₂ s₂ hr₂ => ?_
      · obtain ⟨ol, hol, hcl, nl, hdl⟩ := hl; obtain ⟨ocls, odict, odata, oslots⟩ := ol; simp only at hcl hdl; subst hcl; subst hdl
        have hol' : (s.heap.push ({ cls := .type "set", dict := none, data := .set #[] 0 (.fresh 0 0 (!byT w)) } : Obj)).get? l = some { cls := .type "list", dict := odict, data := .seq items nl, slots := oslots } := Heap.get?_push_of_some _ hol
        have hsls := F.sub_list_set; have hslf := F.sub_list_frozenset; have hne : (Value.type "list" == Value.type "dict") = false := by decide
        have hl1 : (s.heap.push ({ cls := .type "set", dict := none, data := .set #[] 0 (.fresh 0 0 (!byT w)) } : Obj)).IsList l items := ⟨_, hol', rfl, nl, rfl⟩
        unfold Builtin.«set.__init__» noKeywords Builtin.Frozenset.updateFrom; generalize hPI : pyIter = PI; wp_walk; subst hPI
        refine wpAny_pyIter_list hl1 ?_; refine wpAny_bind (wpAny_runValue ?_); have hlS : l < s.heap.objs.size := Heap.lt_size hol
        have hh3 : A.in1.in1.in1.handled = none := by simp [hh]
        have hneI : l ≠ (s.heap.push ({ cls := .type "set", dict := none, data := .set #[] 0 (.fresh 0 0 (!byT w)) } : Obj)).objs.size := by rw [Heap.size_push]; exact Nat.ne_of_lt (Nat.lt_succ_of_lt hlS)
        have hSf : s.heap.objs.size ∉ [(s.heap.push ({ cls := .type "set", dict := none, data := .set #[] 0 (.fresh 0 0 (!byT w)) } : Obj)).objs.size, l] := by rw [Heap.size_push]; simp only [List.mem_cons, List.mem_singleton, List.not_mem_nil, or_false, not_or]; exact ⟨Nat.ne_of_lt (Nat.lt_succ_self _), Nat.ne_of_gt hlS⟩
        refine sx_loop ((Walks.list hh3 _ l hneI items).toS) s.heap.objs.size hSf val hb hv (items.size - 0) 0 _ (fun _ => 0) 0 0 (by lia) (Nat.zero_le _) ⟨⟨_, Heap.get?_push_size _ rfl, rfl, rfl⟩, (hl1.push _)⟩ ?hS0 ?hR
        case hS0 => exact ⟨({ cls := .type "set", dict := none, data := .set #[] 0 (.fresh 0 0 (!byT w)) } : Obj), Heap.get?_push_of_some _ hS, ⟨rfl, rfl, rfl⟩, sx_zero w⟩
        case hR =>
          intro s' tok' ep' mv' hm hS'; obtain ⟨h', g', d', tk', os'⟩ := s'; have eg : g' = s.gens := hm.gens; have ed : d' = s.drawn := hm.drawn; have eo : os' = s.os := hm.os
          subst eg; subst ed; subst eo; show wpAny _ _ _ _ _ _; refine wpAny_pure ?_; show wpAny _ _ (ret Value.none) _ _ _
          refine wpAny_pure ⟨rfl, h', tk', tok', ep', mv', rfl, hS', fun b o hb e => ?_⟩
          have hb2 : b ≠ (s.heap.push ({ cls := .type "set", dict := none, data := .set #[] 0 (.fresh 0 0 (!byT w)) } : Obj)).objs.size := by rw [Heap.size_push]; exact Nat.ne_of_lt (Nat.lt_succ_of_lt hb)
          exact hm.heap b o (by simp only [List.mem_cons, List.mem_singleton, List.not_mem_nil, or_false, not_or]; exact ⟨Nat.ne_of_lt hb, hb2⟩) (Heap.get?_push_of_some _ (Heap.get?_push_of_some _ e))
      · cases r₂ with
        | error e => exact hr₂
        | ok fl₂ =>
          cases fl₂ with
          | ret r => obtain ⟨rfl, h', tk, tok, ep, mv, rfl, hS', hk'⟩ := hr₂; repeat (any_goals (first | assumption | wp_step))
                     exact h _ _ _ _ _ hS' hk'
          | _ => exact hr₂.elim
    | _ => exact hr.elim
end
end L2
set_option Elab.async false
set_option linter.all false
set_option maxRecDepth 100000
set_option maxHeartbeats 4000000
namespace L2
open PySem PySem.Spec PyProof.Rows PySem.W
noncomputable def SXo (w : World) (a : Addr) (ns : List Int) : Heap → Prop := fun h => ∃ m tok ep mv, m < 64 ∧ (∀ v : Nat, v ∈ tS m ↔ (v : Int) ∈ ns) ∧ SX w h a m tok ep mv
theorem bt_set : bootBuiltins "set" = some (.type "set") := by decide +kernel
section
variable {X : Cx}
theorem call_setI (hc : X.calm = true) : CallR X (.type "set") (fun xs H Q => ∃ (p : Addr) (ns : List Int), xs = [.ref p] ∧ SqL X.K H p (ns.map V.int) ∧ (∀ v ∈ ns, 0 ≤ v ∧ v < 6) ∧ ∀ q, H q = none → Q (.ref q) (upd H q (.ext (SXo X.w q ns)))) := by
  intro pins s σ H xs us Q I r h
  obtain ⟨p, ns, rfl, hq, hb, q⟩ := h
  obtain ⟨u, rfl, rx⟩ := vals1 r
  cases rx
  obtain ⟨its, rv, pl, hz⟩ := I.list hq
  have hi := ints_are rv
  have hlen : its.length = ns.length := by have := rv.length; rw [List.length_map] at this; exact this.symm
  have bd : ∀ i < its.toArray.size, (ns.getD i 0).toNat < 6 := fun i h => by
    rw [List.size_toArray, hlen] at h
    have := hb (ns.getD i 0) (by rw [List.getD, List.getElem?_eq_getElem h]; exact List.getElem_mem h)
    lia
  refine sx_make (val := fun i => (ns.getD i 0).toNat) (I.ok.hd hc) pl.isList bd (fun i v hv => ?_) fun h' tk tok ep mv hS hk => ?_
  · rw [List.getElem?_toArray] at hv
    obtain ⟨t, e⟩ := IntsAre.int_at hi i v hv
    have hlt : i < ns.length := by have := (List.getElem?_eq_some_iff.mp hv).1; lia
    have := hb (ns.getD i 0) (by rw [List.getD, List.getElem?_eq_getElem hlt]; exact List.getElem_mem hlt)
    exact ⟨t, by rw [e, Int.toNat_of_nonneg this.1]⟩
  · have sz : its.toArray.size = ns.length := by rw [List.size_toArray, hlen]
    have bd' : ∀ i < ns.length, (fun i => (ns.getD i 0).toNat) i < 6 := fun i h => bd i (by rw [sz]; exact h)
    rw [sz] at hS
    have x : SXo X.w s.heap.objs.size ns h' := by
      refine ⟨_, tok, ep, mv, msk_lt bd' _ (Nat.le_refl _), fun v => ?_, hS⟩
      rw [msk_mem bd' _ (Nat.le_refl _)]
      constructor
      · rintro ⟨j, hj, e⟩
        have hm : ns.getD j 0 ∈ ns := by rw [List.getD, List.getElem?_eq_getElem hj]; exact List.getElem_mem hj
        have := hb _ hm
        have e' : ((v : Nat) : Int) = ns.getD j 0 := by rw [← e]; exact Int.toNat_of_nonneg this.1
        rw [e']; exact hm
      · intro hm
        obtain ⟨j, hj⟩ := List.getElem?_of_mem hm
        exact ⟨j, (List.getElem?_eq_some_iff.mp hj).1, by show (ns.getD j 0).toNat = v; rw [List.getD, hj]; exact Int.toNat_natCast v⟩
    have hn : H s.heap.objs.size = none := I.hok.fresh (Nat.le_refl _)
    refine ⟨.ref s.heap.objs.size, _, I.laid (a := s.heap.objs.size) (o := .ext (SXo X.w s.heap.objs.size ns)) (t' := tk) (fun b u z => hk b u (Heap.lt_size z) z) (Nat.le_refl _) ⟨x, ?_, fun h1 h2 ⟨m, tok, ep, mv, a1, a2, a3⟩ k => ⟨m, tok, ep, mv, a1, a2, a3.on fun o e => k o e⟩⟩, rfl, q _ hn⟩
    obtain ⟨o, e, _⟩ := hS
    exact ⟨o, e⟩
theorem call_sortedS (hc : X.calm = true) : CallR X (.builtin "sorted") (fun xs H Q => ∃ (p : Addr) (ns : List Int), xs = [.ref p] ∧ H p = some (.ext (SXo X.w p ns)) ∧ ∀ q (ns' : List Int), H q = none → ns'.Pairwise (· ≤ ·) → ns'.Nodup → (∀ v ∈ ns', 0 ≤ v) → (∀ v : Nat, (v : Int) ∈ ns' ↔ (v : Int) ∈ ns) → Q (.ref q) (upd H q (.lst (ns'.map V.int)))) := by
  intro pins s σ H xs us Q I r h
  obtain ⟨p, ns, rfl, hp, q⟩ := h
  obtain ⟨u, rfl, rx⟩ := vals1 r
  cases rx
  obtain ⟨⟨m, tok, ep, mv, hm, hmem, hS⟩, _⟩ := (show ObjOk X.prog X.w H s.heap p (.ext (SXo X.w p ns)) from I.hok p _ hp)
  have small : sizeLine = 16777216 := sizeLine_eq
  have h5 := d5 m hm
  refine sorted_sx (I.ok.hd hc) hm hS fun out ns' r g tk n a1 a2 a3 k big at' => ?_
  have nd : ((tS m).map fun (v : Nat) => (v : Int)).Nodup := List.pairwise_map.mpr (List.Pairwise.imp (fun h z => h (by lia)) ((List.nodup_range (n := 6)).sublist List.filter_sublist))
  have hn : H r = none := I.hok.fresh big
  refine ⟨.ref r, _, I.laid (a := r) (o := .lst (ns'.map V.int)) (t' := tk) (fun b u z => k b u z) big ⟨?_, out.toList, n, vals_of_ints a1, ?_⟩, rfl, q r ns' hn a3 (a2.nodup_iff.mpr nd) (fun v hv => ?_) fun v => ?_⟩
  · rw [List.length_map, a2.length_eq, List.length_map]; lia
  · rw [at', Array.toArray_toList]
  · obtain ⟨u, _, rfl⟩ := List.mem_map.mp (a2.mem_iff.mp hv)
    exact Int.natCast_nonneg u
  · rw [a2.mem_iff, ← hmem v, List.mem_map]
    constructor
    · rintro ⟨u, hu, e⟩
      have : u = v := by lia
      rw [← this]; exact hu
    · intro hv; exact ⟨v, hv, rfl⟩
end
end L2
set_option Elab.async false
set_option linter.all false
set_option maxRecDepth 100000
set_option maxHeartbeats 4000000
namespace My
open PySem L2 FrM Led
theorem rise_same {ns ns' : List Int} (h1 : ns.Pairwise (· < ·)) (h0 : ∀ v ∈ ns, 0 ≤ v) (a1 : ns'.Pairwise (· ≤ ·)) (a2 : ns'.Nodup) (a3 : ∀ v ∈ ns', 0 ≤ v) (a4 : ∀ v : Nat, (v : Int) ∈ ns' ↔ (v : Int) ∈ ns) : ns' = ns := by
  have nd : ns.Nodup := List.Pairwise.imp (fun h z => by lia) h1
  have pm : ns'.Perm ns := (List.perm_ext_iff_of_nodup a2 nd).mpr fun v => by
    constructor
    · intro h
      have e : ((v.toNat : Nat) : Int) = v := Int.toNat_of_nonneg (a3 v h)
      rw [← e] at h ⊢
      exact (a4 _).mp h
    · intro h
      have e : ((v.toNat : Nat) : Int) = v := Int.toNat_of_nonneg (h0 v h)
      rw [← e] at h ⊢
      exact (a4 _).mpr h
  exact List.Perm.eq_of_pairwise (fun a b _ _ h1 h2 => Int.le_antisymm h1 h2) a1 (List.Pairwise.imp (fun h => by (exact Int.le_of_lt (by assumption))) h1) pm
section
variable {P : Program} {w : World} {K : PySem.W.Frag} {mg : Str → Option Value} {base : Heap} {a : Ad}
theorem ok_rising (T : Txt K mg a) : FnOk P w K mg base CX0 2 a.f_is_rising a.d_is_rising ["numbers", "many"] spRise := by
  have G_is_whole : FnOk P w K mg base CX0 1 _ _ _ spWhole3 := ok_whole3 T
  refine T.F_is_rising.ok sc_is_rising (fun vs H Q E h => ?_) (fun cdv A outer s H vs Q E hr h => ?_)
  · obtain ⟨l, ns, R, rfl, _⟩ := h; rfl
  · obtain ⟨l, ns, R, rfl, hl, r6, n40, q⟩ := h
    refine ⟨_, (pss_one (ps_ret (m_and (pe_callB (call_allB rfl) rfl T.z_all bt_all (pa_cons (pe_comp rfl (N := ["number", "many"]) (ix := [none, some 1]) ⟨rfl, rfl, rfl, rfl, ⟨rfl, rfl, rfl, trivial⟩⟩ (pi_any (vr 0)) ⟨fun C s H fp => pg_name (i := 0) (show List.Nodup (["number", "many"] : List Str) by decide +kernel) rfl (Or.inl rfl), fun C s H fp => pts_nil, fun C s H fp => (pe_call G_is_whole hr rfl T.m_is_whole T.F_is_whole.kp T.B_is_whole .nil pass0 (pa_cons (vr 0) (pa_cons pe_int (pa_cons (pe_op o_sub (vr 1) pe_int) pa_nil))))⟩) pa_nil)) (pe_one (pe_cmpR (o_eqD hr.units) (vr 0) (pe_callB (call_sortedS rfl) rfl T.z_sorted bt_sorted (pa_cons (pe_callTy (call_setI rfl) rfl T.z_set bt_set (pa_cons (vr 0) pa_nil)) pa_nil)) (nomark _)))))), ?_⟩
    have sl : sizeLine = 16777216 := sizeLine_eq
    refine .inl ⟨⟨_, SqL.of hl⟩, fun D hD => ?_⟩
    refine comp_list (K := K) (a := l) (xs := ns.map V.int) (fun j ys H' => Same H H' ∧ H' D = some (.lst ys) ∧ ys = ((ns.take j).map fun v => decide (0 ≤ v ∧ v ≤ (R : Int) - 1)).map V.bl) ⟨Same.new hD, upd_same, rfl⟩ (fun j ys H' h' => SqL.of (h'.1 _ _ hl)) (fun j ys H' h' => h'.2.1) ?_ ?_
    · rintro j y ys H' P' hy ⟨s1, hD1, rfl⟩ hP
      obtain ⟨v, hv, rfl⟩ := int_of hy
      have jlt := (List.getElem?_eq_some_iff.mp hv).1
      refine ⟨⟨rfl, trivial⟩, _, _, _, _, rfl, .int _, ?_⟩
      rw [inR_is]
      refine ⟨hD1, by rw [List.length_map, List.length_map, List.length_take]; lia, hP _ _ ⟨s1.put hD, upd_same, ?_⟩⟩
      rw [take_snoc hv, List.map_append, List.map_append]
      rfl
    rintro ys H1 ⟨s1, hD1, rfl⟩
    rw [List.length_map, List.take_of_length_le (Nat.le_refl _)] at hD1
    refine ⟨D, _, _, rfl, SqL.of hD1, rfl, ?_⟩
    cases hb : (ns.map fun v => decide (0 ≤ v ∧ v ≤ (R : Int) - 1)).all id with
    | false =>
      have hn : ¬ ns = riseL ns R := fun z => by
        have h1 := (rise_iff.mp z).1
        have : (ns.map fun v => decide (0 ≤ v ∧ v ≤ (R : Int) - 1)).all id = true := by
          rw [List.all_map, List.all_eq_true]
          exact fun v hv => decide_eq_true (h1 v hv)
        rw [hb] at this
        cases this
      have q1 := q _ s1
      rw [decide_eq_false hn] at q1
      exact q1
    | true =>
      have inb : ∀ v ∈ ns, 0 ≤ v ∧ v ≤ (R : Int) - 1 := by
        rw [List.all_map, List.all_eq_true] at hb
        exact fun v hv => of_decide_eq_true (hb v hv)
      refine ⟨l, ns, rfl, SqL.of (s1 _ _ hl), (fun v hv => by have := inb v hv; lia), fun p hp => ?_⟩
      have s2 := Same.new (o := .ext (SXo w p ns)) hp
      refine ⟨p, ns, rfl, upd_same, fun r ns' hr' a1 a2 a3 a4 => ?_⟩
      have e : ns' = riseL ns R := by
        refine rise_same (onK_rise (kOf ns ns) 0 R) (fun v hv => ?_) a1 a2 a3 fun v => ?_
        · obtain ⟨i, _, _, rfl⟩ := onK_mem.mp (show v ∈ onK (kOf ns ns) 0 R from hv)
          exact Int.natCast_nonneg i
        · rw [a4 v]
          constructor
          · intro hv
            have b := inb _ hv
            exact (onK_nat (k := kOf ns ns) (s := 0) (R := R) (i := v) (by lia)).mpr (decide_eq_true hv)
          · intro hv
            obtain ⟨i, _, h2, e⟩ := onK_mem.mp (show ((v : Nat) : Int) ∈ onK (kOf ns ns) 0 R from hv)
            have ei : v = i := by lia
            rw [ei]
            exact of_decide_eq_true h2
      rw [e]
      have s3 := Same.new (o := .lst ((riseL ns R).map V.int)) hr'
      have s13 := s1.trans (s2.trans s3)
      refine ⟨_, _, dv_i (s13 _ _ hl), dv_i upd_same, shaped_i _, shaped_i _, ?_⟩
      rw [eqv_ints]
      exact q _ s13
end
end My
set_option Elab.async false
set_option linter.all false
set_option maxRecDepth 100000
set_option maxHeartbeats 4000000
namespace L2
open PySem PySem.Spec PyProof.Rows PySem.W
theorem slot_lri_hint : Slot "list_reverseiterator" "__length_hint__" "list_reverseiterator.__length_hint__" :=
  .of (owner := "list_reverseiterator") (n := "__length_hint__") (by rw [typeLookup_type, builtinLookup_eq_fast]; kernel_rfl) (by decide +kernel) (by decide +kernel) (by decide +kernel)
    (by first | exact .inl (by decide +kernel) | exact .inr (by decide +kernel)) (by rw [isSubtype_type]; kernel_rfl)
theorem lri_no_len : typeLookup (.type "list_reverseiterator") (Str.ofString "__len__") = pure none := by rw [typeLookup_type, builtinLookup_eq_fast]; kernel_rfl
section
variable {prog : Program} {w : World} {A : Around} {E : Value → Shared → Prop} {s : Shared} {I l : Addr} {items : Array Value}
theorem hint_lri {Q : Bool → Shared → Prop} (hT : s.TypeIs (.ref I) "list_reverseiterator") (h : Q false s) : wpAny (model prog w) A (Builtin.List.listLengthHint (.ref I)) Q E s := by
  unfold Builtin.List.listLengthHint
  refine wpAny_bind (wpAny_specialOf hT lri_no_len ?_)
  show wpAny _ A (specialOf (Value.ref I) (Str.ofString "__length_hint__") >>= _) _ _ _
  refine wpAny_bind (wpAny_specialOf hT slot_lri_hint.lookup ?_)
  generalize hid : ("list_reverseiterator.__length_hint__" : String) = id0
  wp_delta
  rw [show splitId id0 = some ("list_reverseiterator", "__length_hint__") from by subst hid; decide +kernel]
  subst hid
  refine wpAny_bind (wpAny_isInstance (T := "list_reverseiterator") (b := true) hT (by rw [isSubtype_type]; kernel_rfl) ?_)
  refine wpAny_ite_split (fun hab => absurd hab (by decide)) (fun _ => ?_)
  refine wpAny_ite_split (fun _ => ?_) (fun hab => absurd (by decide +kernel) hab)
  refine wpAny_ite_split (fun hab => absurd hab (by decide +kernel)) (fun _ => ?_)
  exact wpAny_pure h
theorem rev_items {acc : Array Value} (h : ItemsOf (fun i v => items[items.size - 1 - i]? = some v) acc items.size) : acc.toList = items.toList.reverse := by
  obtain ⟨h1, h2⟩ := h
  refine List.ext_getElem? fun j => ?_
  rw [Array.getElem?_toList]
  by_cases c : j < acc.size
  · have e := h2 j _ (Array.getElem?_eq_getElem c)
    rw [Array.getElem?_eq_getElem c, List.getElem?_reverse (by rw [Array.length_toList]; lia), Array.length_toList, Array.getElem?_toList, e]
  · rw [Array.getElem?_eq_none (by lia), List.getElem?_eq_none (by rw [List.length_reverse, Array.length_toList]; lia)]
theorem rev_list {Q : Value → Shared → Prop} (hh : A.handled = none) (hne : l ≠ I) (hit : s.heap.IsRevIter I l ((items.size : Int) - 1)) (hl : s.heap.IsList l items) (hn : items.size ≤ sizeLine)
    (hQ : ∀ h' tk acc c', (∀ b o, b ≠ I → s.heap.get? b = some o → h'.get? b = some o) → h'.get? s.heap.objs.size = some { cls := .type "list", dict := none, data := .seq acc c', slots := #[] } → acc.toList = items.toList.reverse → Q (.ref s.heap.objs.size) { s with heap := h', toks := tk }) :
    wpAny (model prog w) A (call (.type "list") [.ref I]) Q E s := by
  have W := (Walks.listRev (prog := prog) (w := w) (A := A.in1.in1) (by simpa using hh) I l hne items).toS
  have st : ∀ h : Heap, (∀ b o, s.heap.get? b = some o → h.get? b = some o) → (0 ≤ items.size ∧ h.IsRevIter I l ((items.size : Int) - 1 - ((0 : Nat) : Int)) ∧ h.IsList l items) := fun h k => ⟨Nat.zero_le _, by simpa using hit.at fun o e => k I o e, hl.at fun o e => k l o e⟩
  have hIlt : I < s.heap.objs.size := let ⟨_, e, _⟩ := hit; Heap.lt_size e
  have hllt : l < s.heap.objs.size := let ⟨_, e, _⟩ := hl; Heap.lt_size e
  have hSf : s.heap.objs.size ∉ [I, l] := by simp only [List.mem_cons, List.not_mem_nil, or_false, not_or]; exact ⟨Nat.ne_of_gt hIlt, Nat.ne_of_gt hllt⟩
  refine callType_codes (Q₁ := fun obj s₁ => obj = .ref s.heap.objs.size ∧ s₁ = { s with heap := s.heap.push { cls := .type "list", data := .seq #[] } }) F.called_list (F.typeCall_list_1 _) F.entry_list_init (code_list_new _ ⟨rfl, rfl⟩) fun obj s₁ h₁ => ?_
  obtain ⟨rfl, rfl⟩ := h₁; have hS : (s.heap.push { cls := .type "list", data := .seq #[] }).get? s.heap.objs.size = some { cls := .type "list", data := .seq #[] } := Heap.get?_push_size _ rfl
  refine ⟨⟨_, hS, rfl⟩, F.args_list_init_2 _ _, ?_⟩
  show wpAny _ _ (do let old ← Builtin.List.listItems (.ref s.heap.objs.size); Builtin.List.listUpdate (.ref s.heap.objs.size) (fun _ => #[]); letGo old.toList.reverse; Builtin.List.listExtendWith (.ref s.heap.objs.size) (.ref I) .none) _ _ _
  refine wpAny_bind ?_; unfold Builtin.List.listItems; refine wpAny_bind (wpAny_seqItems hS rfl (wpAny_pure ?_))
  show wpAny _ _ (updateSeq s.heap.objs.size (fun _ => #[]) >>= fun _ => letGo (#[] : Array Value).toList.reverse >>= fun _ => Builtin.List.listExtendWith (.ref s.heap.objs.size) (.ref I) .none) _ _ _; refine wpAny_bind (wpAny_updateSeq hS rfl ?_)
  have hS₂ := Heap.get?_update_self (Obj.mapSeq (fun _ => (#[] : Array Value))) hS rfl; refine wpAny_bind (wpAny_letGo ?_)
  have oth : ∀ b o, s.heap.get? b = some o → ((s.heap.push { cls := .type "list", data := .seq #[] }).update s.heap.objs.size (Obj.mapSeq (fun _ => (#[] : Array Value)))).get? b = some o := fun b o e => (Heap.get?_update_other _ _ (Nat.ne_of_gt (Heap.lt_size e))).trans (Heap.get?_push_of_some _ e)
  have st2 := st _ oth
  have ti : Shared.TypeIs { s with heap := (s.heap.push { cls := .type "list", data := .seq #[] }).update s.heap.objs.size (Obj.mapSeq (fun _ => (#[] : Array Value))) } (.ref I) "list_reverseiterator" := st2.2.1.typeIs
  unfold Builtin.List.listExtendWith; refine wpAny_bind (wpAny_typeOf ti ?_)
  have g1 : Builtin.List.listSameRef (.ref s.heap.objs.size) (.ref I) = false := by simp [Builtin.List.listSameRef, Nat.ne_of_gt hIlt]
  have g2 : (Value.type "list_reverseiterator" == Value.type "list") = false := by decide
  have g3 : (Value.type "list_reverseiterator" == Value.type "tuple") = false := by decide
  simp only [g1, g2, g3, Bool.or_false, Bool.false_eq_true, if_false]
  refine wpAny_bind (W.self 0 _ _ _ st2 ?_); refine wpAny_bind (wpAny_holding (hint_lri ti ?_))
  try rw [if_neg Bool.false_ne_true]
  refine wpAny_pure ⟨plainId_quiet F.plain_extend_loop _, codeAny_extend_loopS W hn _ hSf _ items.size 0 _ _ _ rfl (Nat.zero_le _) st2 hS₂ (ItemsOf.nil _) fun s' acc' c' hm hS' hacc => ?_⟩
  rw [Moved.eq_with hm]
  refine ⟨rfl, hQ s'.heap s'.toks acc' c' (fun b o hb e => hm.heap b o (fun hmem => ?_) (oth b o e)) hS' (rev_items hacc)⟩
  rcases List.mem_cons.mp hmem with e' | hmem
  · exact absurd (Heap.lt_size e) (by rw [e']; exact Nat.lt_irrefl _)
  · exact hb (List.mem_singleton.mp hmem)
end
section
variable {X : Cx} {e : Expr} {te : TE} {p1 p2 pos pos2 : Pos}
theorem pe_listRev (hc : X.calm = true) (hg1 : Gl X "list") (hm1 : X.mg "list" = none) (hg2 : Gl X "reversed") (hm2 : X.mg "reversed" = none) (ha : PE X e te)
    (he : starEach [Expr.Call (.Name "reversed" p2) [e] [] pos2] X.env = [(false, eval (.Call (.Name "reversed" p2) [e] [] pos2) X.env)] := by rfl) (he2 : starEach [e] X.env = [(false, eval e X.env)] := by rfl) :
    PE X (.Call (.Name "list" p1) [.Call (.Name "reversed" p2) [e] [] pos2] [] pos) (fun σ H Q => te σ H fun x H1 => ∃ (p : Addr) (ys : List V), x = .ref p ∧ SqL X.K H1 p ys ∧ ys.length ≤ 1000 ∧ ∀ l, H1 l = none → Q (.ref l) (upd H1 l (.lst ys.reverse))) := by
  intro pins s σ H Q I h
  have sl : sizeLine = 16777216 := sizeLine_eq
  refine wpAny_Call_Name_kw (ld_blt I hg1 hm1 bt_list ?_ (by decide) (by decide))
  refine PyProof.Rows.callWith_type1 (Calls.spliced_cons ?_) he rfl
  refine wpAny_Call_Name_kw (ld_blt I hg2 hm2 boot_reversed ?_ (by decide) (by decide))
  refine PyProof.Rows.callWith_type1 ?_ he2 rfl
  rw [he2]
  show wpAny _ _ (spliced ((false, eval e X.env) :: backTo pos2 [])) _ _ s
  refine Calls.spliced_cons (thn (ha pins s σ H _ I h) fun u s1 ⟨x, H1, I1, r1, p, ys, ex, hq, hy, q⟩ => ?_)
  subst ex
  obtain rfl : u = Value.ref p := r1
  obtain ⟨its, rv, pl, hz⟩ := I1.list hq
  refine Calls.spliced_nil ?_
  refine call_reversed_list pl.isList ?_
  refine Calls.spliced_nil ?_
  have hlen := rv.length
  have hlt : p < s1.heap.objs.size := let ⟨_, e, _⟩ := pl.isList; Heap.lt_size e
  have I2 : Inv X pins σ H1 { s1 with heap := s1.heap.push (revObj p ((its.toArray.size : Int) - 1)) } := I1.kept (t' := s1.toks) fun b o e => Heap.get?_push_of_some _ e
  have fp := I1.fpOk (Nat.le_refl _) (I1.hok.fresh (Nat.le_refl _))
  have hsz : (s1.heap.push (revObj p ((its.toArray.size : Int) - 1))).objs.size = s1.heap.objs.size + 1 := Heap.size_push ..
  refine rev_list (s := { s1 with heap := s1.heap.push (revObj p ((its.toArray.size : Int) - 1)) }) (l := p) (items := its.toArray) (I1.ok.hd hc) (Nat.ne_of_lt hlt) ⟨_, Heap.get?_push_size _ rfl, rfl, rfl⟩ (pl.isList.push _) (by rw [List.size_toArray]; lia) fun h' tk acc c' hk hnew hacc => ?_
  obtain ⟨f0, f1, f2, f3, f4, f5⟩ := fp
  have hs2 : ({ s1 with heap := s1.heap.push (revObj p ((its.toArray.size : Int) - 1)) } : Shared).heap.objs.size = s1.heap.objs.size + 1 := hsz
  have I3 : Inv X pins σ (upd H1 (s1.heap.objs.size + 1) (.lst ys.reverse)) { s1 with heap := (s1.heap.push (revObj p ((its.toArray.size : Int) - 1))).push { cls := .type "list", dict := none, data := .seq acc c', slots := #[] } } := I2.laid (a := s1.heap.objs.size + 1) (o := .lst ys.reverse) (t' := s1.toks) (fun b u z => Heap.get?_push_of_some _ z) (by rw [hs2]; exact Nat.le_refl _) ⟨by rw [List.length_reverse]; lia, acc.toList, c', ?_, ?_⟩
  · have I4 : Inv X pins σ (upd H1 (s1.heap.objs.size + 1) (.lst ys.reverse)) { s1 with heap := h', toks := tk } := Inv.turned (s := { s1 with heap := (s1.heap.push (revObj p ((its.toArray.size : Int) - 1))).push { cls := .type "list", dict := none, data := .seq acc c', slots := #[] } }) (h' := h') (t' := tk) (it := s1.heap.objs.size) I3 (fun b o hb e => ?_) (by rw [upd_ne (Nat.ne_of_lt (Nat.lt_succ_self _))]; exact f0) f1 f3 f4 f5
    · refine ⟨.ref (s1.heap.objs.size + 1), _, I4, by rw [hs2]; rfl, q _ (I1.hok.fresh (Nat.le_succ _))⟩
    · by_cases c : b = s1.heap.objs.size + 1
      · subst c
        have e2 := Heap.get?_push_size (s1.heap.push (revObj p ((its.toArray.size : Int) - 1))) (o := { cls := .type "list", dict := none, data := .seq acc c', slots := #[] }) rfl
        rw [hsz] at e2
        rw [e2] at e
        cases e
        rw [hs2] at hnew
        exact hnew
      · refine hk b o hb ?_
        rw [Heap.get?_push_ne _ _ _ (by rw [hsz]; exact c)] at e
        exact e
  · rw [hacc]
    exact rv.reverse
  · rw [Array.toArray_toList]
    have e2 := Heap.get?_push_size (s1.heap.push (revObj p ((its.toArray.size : Int) - 1))) (o := { cls := .type "list", dict := none, data := .seq acc c', slots := #[] }) rfl
    rw [hsz] at e2
    exact e2
end
end L2
set_option Elab.async false
set_option linter.all false
set_option maxRecDepth 100000
set_option maxHeartbeats 4000000
namespace My
open PySem L2 FrM Led
theorem cut_ints (ns : List Int) (lo hi : Option Int) : ∃ cs : List Int, cutV (ns.map V.int) lo hi = cs.map V.int ∧ cs.length ≤ ns.length := by
  refine ⟨(ns.drop (HT.sIx ns.length 0 lo)).take (HT.sIx ns.length ns.length hi - HT.sIx ns.length 0 lo), by unfold cutV; rw [List.length_map, List.map_take, List.map_drop], ?_⟩
  rw [List.length_take, List.length_drop]
  lia
inductive spList (vs : List V) (H : Hp) (Q : VK) (_E : XK) : Prop
  | mk (l : Addr) (ns : List Int) (c : Int) (h0 : vs = [.ref l, .int c]) (h1 : H l = some (.lst (ns.map V.int))) (h2 : ns.length ≤ 100) (h3 : ∀ (l' : Addr) (H' : Hp) (ns' : List Int), Same H H' → H l' = none → H' l' = some (.lst (ns'.map V.int)) → ns'.length ≤ 2 * ns.length + 1 → Q (.ref l') H') : spList vs H Q _E
section
variable {P : Program} {w : World} {K : PySem.W.Frag} {mg : Str → Option Value} {base : Heap} {a : Ad}
theorem ok_list (T : Txt K mg a) : FnOk P w K mg base CX0 1 a.f_L_list a.d_L_list ["_law_some", "_law_cell_here"] spList := by
  refine T.F_L_list.ok sc_L_list (fun vs H Q E h => ?_) (fun cdv A outer s H vs Q E hr h => ?_)
  · obtain ⟨l, ns, c, rfl, _⟩ := h; rfl
  · obtain ⟨l, ns, c, rfl, hl, n40, q⟩ := h
    refine ⟨_, (pss_cons (ps_set (i := 2) sc_L_list.nd rfl (Or.inl rfl) (pe_op o_mod (pe_op o_fdivB (vr 1) pe_int) (pe_op o_add (pe_callB call_lenM rfl T.z_len bt_len (pa_cons (vr 0) pa_nil)) pe_int))) (pss_cons (ps_set (i := 3) sc_L_list.nd rfl (Or.inl rfl) (pe_ix ix_seq (pe_lst (pa_cons pe_int (pa_cons (pe_un u_neg pe_int) (pa_cons pe_int (pa_cons (pe_un u_neg pe_int) pa_nil))))) (pe_op o_mod (pe_op o_fdivB (vr 1) pe_int) pe_int) (fun _ _ => rfl))) (pss_cons (ps_set (i := 4) sc_L_list.nd rfl (Or.inl rfl) (pe_op o_mod (vr 1) pe_int)) (pss_consM (ps_if (PW.pt (pw_and (t_cmp o_eq (vr 4) pe_int (nomark _)) (pw_and1 (t_cmp (o_neD hr.units) (vr 0) (pe_lst pa_nil) (nomark _))))) (pss_cons (ps_set (i := 2) sc_L_list.nd rfl (Or.inl rfl) (pe_op o_mod (vr 2) (pe_callB call_lenM rfl T.z_len bt_len (pa_cons (vr 0) pa_nil)))) (pss_one (ps_ret (pe_op op_cat (pe_op op_cat (pe_slice sl_any (vr 0) po_none (po_some (vr 2))) (pe_lst (pa_cons (pe_op o_add (pe_ix ix_seq (vr 0) (vr 2) (fun _ _ => rfl)) (vr 3)) pa_nil))) (pe_slice sl_any (vr 0) (po_some (pe_op o_add (vr 2) pe_int)) po_none))))) pss_nil) (pss_cons (ps_if (t_cmp o_eq (vr 4) pe_int (nomark _)) (pss_one (ps_ret (pe_op op_cat (pe_op op_cat (pe_slice sl_any (vr 0) po_none (po_some (vr 2))) (pe_lst (pa_cons (pe_op o_mod (pe_op o_fdivB (vr 1) pe_int) pe_int) pa_nil))) (pe_slice sl_any (vr 0) (po_some (vr 2)) po_none)))) pss_nil) (pss_cons (ps_if (t_cmp o_eq (vr 4) pe_int (nomark _)) (pss_one (ps_ret (pe_op op_cat (pe_slice sl_any (vr 0) po_none (po_some (vr 2))) (pe_slice sl_any (vr 0) (po_some (pe_op o_add (vr 2) pe_int)) po_none)))) pss_nil) (pss_cons (ps_if (t_cmp o_eq (vr 4) pe_int (nomark _)) (pss_one (ps_ret (pe_listRev rfl rfl T.z_list rfl T.z_reversed (vr 0)))) pss_nil) (pss_one (ps_ret (pe_callTy call_list_of rfl T.z_list bt_list (pa_cons (vr 0) pa_nil))))))))))), ?_⟩
    have sl : sizeLine = 16777216 := sizeLine_eq
    have z1 : ∀ x : V, [x].length ≤ sizeLine := fun x => by rw [sl]; exact (by decide : 1 ≤ 16777216)
    refine ⟨cdB (by decide) (show Bt 40 (8 : Int) by unfold Bt; decide), ⟨_, .inl (SqL.of hl), cp (by lia), ?_⟩⟩
    refine ⟨(by show 4 ≤ sizeLine; (decide)), fun p1 hp1 => ⟨cdB (by decide) (show Bt 40 (256 : Int) by unfold Bt; decide), cp, ?_⟩⟩
    have s1 := Same.new (o := .lst [.int 1, .int (-1), .int 2, .int (-7)]) hp1
    obtain ⟨st, hat⟩ : ∃ hv : Int, atI [V.int 1, .int (-1), .int 2, .int (-7)] (c / 256 % 4) = some (.int hv) := by
      have h3 : c / 256 % 4 = ((0 : Nat) : Int) ∨ c / 256 % 4 = ((1 : Nat) : Int) ∨ c / 256 % 4 = ((2 : Nat) : Int) ∨ c / 256 % 4 = ((3 : Nat) : Int) := by lia
      rcases h3 with e | e | e | e
      · exact ⟨_, atI_cons _ e.symm rfl⟩
      · exact ⟨_, atI_cons _ e.symm rfl⟩
      · exact ⟨_, atI_cons _ e.symm rfl⟩
      · exact ⟨_, atI_cons _ e.symm rfl⟩
    refine .inl ⟨p1, _, _, _, rfl, rfl, SqL.of upd_same, hat, ?_⟩
    have hl1 := s1 _ _ hl
    generalize upd H p1 (.lst [.int 1, .int (-1), .int 2, .int (-7)]) = H1 at s1 hl1
    refine ⟨cp, ?_⟩
    refine ⟨fun σ' H' => Same H H' ∧ H' l = some (.lst (ns.map V.int)) ∧ σ' = [some (.ref l), some (.int c), some (.int (c / 8 % (((ns.map V.int).length : Int) + 1))), some (.int st), some (.int (c % 5))], ?_, ?_⟩
    · refine ifC (fun w0 => ?_) fun w0 => ⟨s1, hl1, rfl⟩
      refine ⟨Nat.zero_le _, fun e0 he0 => ?_⟩
      have t2 := Same.new (o := .lst []) he0
      have hl2 := t2 _ _ hl1
      refine ⟨_, _, dv_i (l := ns) hl2, dv_i (l := []) upd_same, shaped_i ns, shaped_i [], ?_⟩
      have hne : PyData.eqv (.list (ns.map PyData.int)) (.list (([] : List Int).map PyData.int)) = ns.isEmpty := ints_ne ns
      rw [hne]
      have s2 := s1.trans t2
      generalize upd H1 e0 (.lst []) = H2 at t2 hl2 s2
      cases hns : ns.isEmpty with
      | true => exact ⟨s2, hl2, rfl⟩
      | false =>
        have npos : 0 < ns.length := by
          cases ns with
          | nil => cases hns
          | cons _ _ => exact Nat.succ_pos _
        refine ⟨_, .inl (SqL.of hl2), cp (by rw [List.length_map]; (exact Int.natCast_pos.mpr (by assumption))), ?_⟩
        refine ⟨_, rfl, .inl ⟨_, SqL.of hl2, fun pa hpa => ?_⟩⟩
        obtain ⟨cs, ec, lc⟩ := cut_ints ns none (some (c / 8 % (((ns.map V.int).length : Int) + 1) % ((ns.map V.int).length : Int)))
        have u1 := Same.new (o := .lst (cutV (ns.map V.int) none (some (c / 8 % (((ns.map V.int).length : Int) + 1) % ((ns.map V.int).length : Int))))) hpa
        have ea : (upd H2 pa (.lst (cutV (ns.map V.int) none (some (c / 8 % (((ns.map V.int).length : Int) + 1) % ((ns.map V.int).length : Int)))))) pa = some (.lst (cs.map V.int)) := by rw [upd_same, ec]
        have l1 := u1 _ _ hl2
        generalize upd H2 pa (.lst (cutV (ns.map V.int) none (some (c / 8 % (((ns.map V.int).length : Int) + 1) % ((ns.map V.int).length : Int))))) = G1 at u1 ea l1
        obtain ⟨m, em, lm⟩ : ∃ m : Nat, ((m : Nat) : Int) = c / 8 % (((ns.map V.int).length : Int) + 1) % ((ns.map V.int).length : Int) ∧ m < ns.length := ⟨(c / 8 % (((ns.map V.int).length : Int) + 1) % ((ns.map V.int).length : Int)).toNat, Int.toNat_of_nonneg (Int.emod_nonneg _ (by rw [List.length_map]; lia)), by
          have h1 := Int.emod_lt_of_pos (c / 8 % (((ns.map V.int).length : Int) + 1)) (show 0 < ((ns.map V.int).length : Int) by rw [List.length_map]; (exact Int.natCast_pos.mpr (by assumption)))
          have h2 := Int.emod_nonneg (c / 8 % (((ns.map V.int).length : Int) + 1)) (show ((ns.map V.int).length : Int) ≠ 0 by rw [List.length_map]; lia)
          rw [List.length_map] at h1 h2 ⊢
          lia⟩
        obtain ⟨vv, hvv⟩ : ∃ vv : Int, vv = ns.getD m 0 := ⟨_, rfl⟩
        refine .inl ⟨l, _, _, .int vv, rfl, rfl, SqL.of l1, by rw [← em, hvv]; exact at_get lm, ?_⟩
        refine ⟨z1 _, fun pb hpb => ?_⟩
        have u2 := Same.new (o := .lst [.int (vv + st)]) hpb
        refine ⟨pa, pb, _, _, rfl, rfl, u2 _ _ ea, upd_same, by rw [List.length_map]; show _ + 1 ≤ _; lia, fun pc hpc => ?_⟩
        have u3 := u2.trans (Same.new (o := .lst (cs.map V.int ++ [.int (vv + st)])) hpc)
        have ed : (upd (upd G1 pb (.lst [.int (vv + st)])) pc (.lst (cs.map V.int ++ [.int (vv + st)]))) pc = some (.lst ((cs ++ [vv + st]).map V.int)) := by rw [upd_same, List.map_append]; rfl
        have l2 := u3 _ _ l1
        generalize upd (upd G1 pb (.lst [.int (vv + st)])) pc (.lst (cs.map V.int ++ [.int (vv + st)])) = G2 at u3 ed l2
        refine ⟨_, rfl, .inl ⟨_, SqL.of l2, fun pd hpd => ?_⟩⟩
        obtain ⟨ds, ec2, ld⟩ := cut_ints ns (some (c / 8 % (((ns.map V.int).length : Int) + 1) % ((ns.map V.int).length : Int) + 1)) none
        have u4 := Same.new (o := .lst (cutV (ns.map V.int) (some (c / 8 % (((ns.map V.int).length : Int) + 1) % ((ns.map V.int).length : Int) + 1)) none)) hpd
        have ee : (upd G2 pd (.lst (cutV (ns.map V.int) (some (c / 8 % (((ns.map V.int).length : Int) + 1) % ((ns.map V.int).length : Int) + 1)) none))) pd = some (.lst (ds.map V.int)) := by rw [upd_same, ec2]
        generalize upd G2 pd (.lst (cutV (ns.map V.int) (some (c / 8 % (((ns.map V.int).length : Int) + 1) % ((ns.map V.int).length : Int) + 1)) none)) = G3 at u4 ee
        refine ⟨pc, pd, _, _, rfl, rfl, u4 _ _ ed, ee, by rw [List.length_map, List.length_map, List.length_append]; show _ + 1 + _ ≤ _; lia, fun pe hpe => ?_⟩
        have uu := (s2.trans u1).trans (u3.trans u4)
        refine q pe _ ((cs ++ [vv + st]) ++ ds) (uu.trans (Same.new hpe)) (Same.free uu hpe) (by rw [upd_same]; exact congrArg (fun z => some (HO.lst z)) List.map_append.symm) ?_
        rw [List.length_append, List.length_append]
        show _ + 1 + _ ≤ _
        lia
    rintro σ' H2 ⟨s2, hl2, rfl⟩
    refine ifC (fun w1 => ?_) fun w1 => ?_
    · refine ⟨_, rfl, .inl ⟨_, SqL.of hl2, fun pa hpa => ?_⟩⟩
      obtain ⟨cs, ec, lc⟩ := cut_ints ns none (some (c / 8 % (((ns.map V.int).length : Int) + 1)))
      have u1 := Same.new (o := .lst (cutV (ns.map V.int) none (some (c / 8 % (((ns.map V.int).length : Int) + 1))))) hpa
      have ea : (upd H2 pa (.lst (cutV (ns.map V.int) none (some (c / 8 % (((ns.map V.int).length : Int) + 1)))))) pa = some (.lst (cs.map V.int)) := by rw [upd_same, ec]
      have l1 := u1 _ _ hl2
      generalize upd H2 pa (.lst (cutV (ns.map V.int) none (some (c / 8 % (((ns.map V.int).length : Int) + 1))))) = G1 at u1 ea l1
      refine ⟨cdB (by decide) (show Bt 40 (1024 : Int) by unfold Bt; decide), cp, ?_⟩
      refine ⟨z1 _, fun pb hpb => ?_⟩
      have u2 := Same.new (o := .lst [.int (c / 1024 % 7)]) hpb
      refine ⟨pa, pb, _, _, rfl, rfl, u2 _ _ ea, upd_same, by rw [List.length_map]; show _ + 1 ≤ _; lia, fun pc hpc => ?_⟩
      have u3 := u2.trans (Same.new (o := .lst (cs.map V.int ++ [.int (c / 1024 % 7)])) hpc)
      have ed : (upd (upd G1 pb (.lst [.int (c / 1024 % 7)])) pc (.lst (cs.map V.int ++ [.int (c / 1024 % 7)]))) pc = some (.lst ((cs ++ [c / 1024 % 7]).map V.int)) := by rw [upd_same, List.map_append]; rfl
      have l2 := u3 _ _ l1
      generalize upd (upd G1 pb (.lst [.int (c / 1024 % 7)])) pc (.lst (cs.map V.int ++ [.int (c / 1024 % 7)])) = G2 at u3 ed l2
      refine ⟨_, rfl, .inl ⟨_, SqL.of l2, fun pd hpd => ?_⟩⟩
      obtain ⟨ds, ec2, ld⟩ := cut_ints ns (some (c / 8 % (((ns.map V.int).length : Int) + 1))) none
      have u4 := Same.new (o := .lst (cutV (ns.map V.int) (some (c / 8 % (((ns.map V.int).length : Int) + 1))) none)) hpd
      have ee : (upd G2 pd (.lst (cutV (ns.map V.int) (some (c / 8 % (((ns.map V.int).length : Int) + 1))) none))) pd = some (.lst (ds.map V.int)) := by rw [upd_same, ec2]
      generalize upd G2 pd (.lst (cutV (ns.map V.int) (some (c / 8 % (((ns.map V.int).length : Int) + 1))) none)) = G3 at u4 ee
      refine ⟨pc, pd, _, _, rfl, rfl, u4 _ _ ed, ee, by rw [List.length_map, List.length_map, List.length_append]; show _ + 1 + _ ≤ _; lia, fun pe hpe => ?_⟩
      have uu := (s2.trans u1).trans (u3.trans u4)
      refine q pe _ ((cs ++ [c / 1024 % 7]) ++ ds) (uu.trans (Same.new hpe)) (Same.free uu hpe) (by rw [upd_same]; exact congrArg (fun z => some (HO.lst z)) List.map_append.symm) ?_
      rw [List.length_append, List.length_append]
      show _ + 1 + _ ≤ _
      lia
    refine ifC (fun w2 => ?_) fun w2 => ?_
    · refine ⟨_, rfl, .inl ⟨_, SqL.of hl2, fun pa hpa => ?_⟩⟩
      obtain ⟨cs, ec, lc⟩ := cut_ints ns none (some (c / 8 % (((ns.map V.int).length : Int) + 1)))
      have u1 := Same.new (o := .lst (cutV (ns.map V.int) none (some (c / 8 % (((ns.map V.int).length : Int) + 1))))) hpa
      have ea : (upd H2 pa (.lst (cutV (ns.map V.int) none (some (c / 8 % (((ns.map V.int).length : Int) + 1)))))) pa = some (.lst (cs.map V.int)) := by rw [upd_same, ec]
      have l1 := u1 _ _ hl2
      generalize upd H2 pa (.lst (cutV (ns.map V.int) none (some (c / 8 % (((ns.map V.int).length : Int) + 1))))) = G1 at u1 ea l1
      refine ⟨_, rfl, .inl ⟨_, SqL.of l1, fun pd hpd => ?_⟩⟩
      obtain ⟨ds, ec2, ld⟩ := cut_ints ns (some (c / 8 % (((ns.map V.int).length : Int) + 1) + 1)) none
      have u4 := Same.new (o := .lst (cutV (ns.map V.int) (some (c / 8 % (((ns.map V.int).length : Int) + 1) + 1)) none)) hpd
      have ee : (upd G1 pd (.lst (cutV (ns.map V.int) (some (c / 8 % (((ns.map V.int).length : Int) + 1) + 1)) none))) pd = some (.lst (ds.map V.int)) := by rw [upd_same, ec2]
      generalize upd G1 pd (.lst (cutV (ns.map V.int) (some (c / 8 % (((ns.map V.int).length : Int) + 1) + 1)) none)) = G3 at u4 ee
      refine ⟨pa, pd, _, _, rfl, rfl, u4 _ _ ea, ee, by rw [List.length_map, List.length_map]; lia, fun pe hpe => ?_⟩
      have uu := (s2.trans u1).trans u4
      refine q pe _ (cs ++ ds) (uu.trans (Same.new hpe)) (Same.free uu hpe) (by rw [upd_same]; exact congrArg (fun z => some (HO.lst z)) List.map_append.symm) ?_
      rw [List.length_append]
      lia
    refine ifC (fun w3 => ?_) fun w3 => ?_
    · refine ⟨l, _, rfl, SqL.of hl2, by rw [List.length_map]; (exact Nat.le_trans (by assumption) (by decide)), fun pe hpe => ?_⟩
      refine q pe _ ns.reverse (s2.trans (Same.new hpe)) (Same.free s2 hpe) (by rw [upd_same, List.map_reverse]) ?_
      rw [List.length_reverse]
      lia
    · refine ⟨l, _, rfl, .inl (SqL.of hl2), fun pe hpe => ?_⟩
      refine q pe _ ns (s2.trans (Same.new hpe)) (Same.free s2 hpe) upd_same ?_
      lia
end
end My
set_option Elab.async false
set_option linter.all false
set_option maxRecDepth 100000
set_option maxHeartbeats 4000000
namespace My
open PySem L2 FrM Led
inductive spDrawn (vs : List V) (H : Hp) (Q : VK) (_E : XK) : Prop
  | mk (lr lc lu : Addr) (rows cols : List Int) (us : List Un) (xs : List V) (R C : Nat) (c : Int) (h0 : vs = [.ref lr, .ref lc, .ref lu, .int c]) (h1 : Rc H lr lc lu rows cols us xs R C) (h2 : ∀ (p : Addr) (H' : Hp) (Ls : List Addr) (t : Told), Same H H' → ToldAt H' t p Ls → few t → Q (.ref p) H') : spDrawn vs H Q _E
section
variable {P : Program} {w : World} {K : PySem.W.Frag} {mg : Str → Option Value} {base : Heap} {a : Ad}
theorem ok_drawn (T : Txt K mg a) : FnOk P w K mg base CX0 3 a.f_L_drawn a.d_L_drawn ["_law_rows", "_law_columns", "_law_units_here", "_law_cell_here"] spDrawn := by
  have G_L_row : FnOk P w K mg base CX0 2 _ _ _ spRow := ok_row T
  refine T.F_L_drawn.ok sc_L_drawn (fun vs H Q E h => ?_) (fun cdv A outer s H vs Q E hr h => ?_)
  · obtain ⟨lr, lc, lu, rows, cols, us, xs, R, C, c, rfl, _⟩ := h; rfl
  · obtain ⟨lr, lc, lu, rows, cols, us, xs, R, C, c, rfl, hR, q⟩ := h
    refine ⟨_, (pss_cons (ps_if (t_cmp o_eq (pe_op o_mod (vr 3) pe_int) pe_int (nomark _)) (pss_cons (ps_set (i := 4) sc_L_drawn.nd rfl (Or.inl rfl) (pe_lst pa_nil)) (pss_cons (ps_for PassesOwn.never rfl (pi_zip rfl T.z_zip (pa_cons (vr 2) (pa_cons (pe_call G_L_row hr rfl T.m_L_row T.F_L_row.kp T.B_L_row .nil pass0 (pa_cons (pe_op o_fdivB (vr 3) pe_int) (pa_cons pe_int (pa_cons (pe_callB call_lenM rfl T.z_len bt_len (pa_cons (vr 2) pa_nil)) (pa_cons pe_int pa_nil))))) pa_nil))) (pg_tup rfl (pgs_cons (pg_name (i := 5) sc_L_drawn.nd rfl (Or.inl rfl)) (pgs_cons (pg_name (i := 6) sc_L_drawn.nd rfl (Or.inl rfl)) pgs_nil))) (pss_one (ps_expr (pe_m.append (vr 4) (pa_cons (pe_op o_add (pe_op o_sub (pe_ix ix_seq (vr 5) pe_int (fun _ _ => rfl)) pe_int) (pe_op o_mod (vr 6) (pe_op o_add (pe_op o_sub (pe_ix ix_seq (vr 5) pe_int (fun _ _ => rfl)) (pe_ix ix_seq (vr 5) pe_int (fun _ _ => rfl))) pe_int))) pa_nil))))) (pss_one (ps_ret (pe_tup (pa_cons pe_str (pa_cons (vr 4) pa_nil))))))) pss_nil) (pss_cons (ps_setC rfl (i := 7) sc_L_drawn.nd rfl rfl (by with_unfolding_all rfl) (N := ["_law_row_here", "_law_cell_here"]) (ix := [none, some 3]) ⟨rfl, rfl, rfl, rfl, ⟨rfl, rfl, rfl, trivial⟩⟩ (pi_range1 rfl T.z_range (pa_cons (pe_callB call_lenM rfl T.z_len bt_len (pa_cons (vr 0) pa_nil)) pa_nil)) ⟨fun C s H fp => pg_name (i := 0) (show List.Nodup (["_law_row_here", "_law_cell_here"] : List Str) by decide +kernel) rfl (Or.inl rfl), fun C s H fp => pts_one (t_cmp o_eq (pe_op o_and (pe_op o_shr (pe_op o_fdivB (vr 1) pe_int) (vr 0)) pe_int) pe_int (nomark _)), fun C s H fp => (vr 0)⟩) (pss_cons (ps_setC rfl (i := 8) sc_L_drawn.nd rfl rfl (by with_unfolding_all rfl) (N := ["_law_column", "_law_cell_here"]) (ix := [none, some 3]) ⟨rfl, rfl, rfl, rfl, ⟨rfl, rfl, rfl, trivial⟩⟩ (pi_range1 rfl T.z_range (pa_cons (pe_callB call_lenM rfl T.z_len bt_len (pa_cons (vr 1) pa_nil)) pa_nil)) ⟨fun C s H fp => pg_name (i := 0) (show List.Nodup (["_law_column", "_law_cell_here"] : List Str) by decide +kernel) rfl (Or.inl rfl), fun C s H fp => pts_one (t_cmp o_eq (pe_op o_and (pe_op o_shr (pe_op o_fdivB (vr 1) pe_int) (vr 0)) pe_int) pe_int (nomark _)), fun C s H fp => (vr 0)⟩) (pss_one (ps_ret (pe_tup (pa_cons pe_str (pa_cons (pe_ix ix_seq (pe_lst (pa_cons pe_str (pa_cons pe_str pa_nil))) (pe_op o_mod (pe_op o_fdivB (vr 3) pe_int) pe_int) (fun _ _ => rfl)) (pa_cons (vr 7) (pa_cons (vr 8) pa_nil)))))))))), ?_⟩
    have sl : sizeLine = 16777216 := sizeLine_eq
    have xl : us.length = xs.length := Paired.length hR.all
    have r6 := hR.r6
    have c6 := hR.c6
    have n24 := hR.n
    refine ⟨cp, ifC (fun z => ?_) fun z => ?_⟩
    · refine ⟨Nat.zero_le _, fun lw hlw => ?_⟩
      have s1 := Same.new (o := .lst []) hlw
      refine ⟨cdB (by decide) (show Bt 40 (3 : Int) by unfold Bt; decide), ?_⟩
      refine ⟨_, .inl (SqL.of (s1 _ _ hR.u)), ?_⟩
      refine ⟨_, 1, (xs.length : Int), _, rfl, by (exact Int.natCast_nonneg _), by lia, rfl, fun H2 lq rs s2 f2 hl2 hln hnn => ?_⟩
      have s12 := s1.trans s2
      have hw2 := s2 _ _ (upd_same (H := H) (a := lw) (o := .lst []))
      have nq : lq ≠ lw := fun z => by rw [z, upd_same] at f2; cases f2
      refine ⟨lu, lq, _, _, rfl, s12 _ _ hR.u, hl2, ?_⟩
      refine for_zip (a := lu) (b := lq) (xs := xs) (ys := rs.map V.int) (by rw [List.length_map]; lia) (fun i σ H' => ∃ (ws : List Int) (x5 x6 : Option V), i ≤ xs.length ∧ Same H H' ∧ H' lq = some (.lst (rs.map V.int)) ∧ H' lw = some (.lst (ws.map V.int)) ∧ ws.length = i ∧ σ = [some (.ref lr), some (.ref lc), some (.ref lu), some (.int c), some (.ref lw), x5, x6, none, none]) ⟨[], none, none, Nat.zero_le _, s12, hl2, hw2, rfl, rfl⟩ (fun i σ H' h => by obtain ⟨ws, x5, x6, _, g1, g2, _⟩ := h; exact ⟨g1 _ _ hR.u, g2⟩) ?_ ?_
      · rintro i x y σ H3 pt hx hy ⟨ws, x5, x6, il, s3, hq3, hw3, wl, rfl⟩ hpt
        obtain ⟨u, hu, hU⟩ := pget hR.all hx
        obtain ⟨v, hv, rfl⟩ := int_of hy
        have ilt := (List.getElem?_eq_some_iff.mp hx).1
        obtain ⟨u1, u2, u3, u4, u5⟩ := hR.ok u (List.mem_of_getElem? hu)
        have s4 := Same.new (o := .tup [x, .int v]) hpt
        obtain ⟨pu, rfl, hpu⟩ := hU.tu (s3.trans s4).tu
        have hw4 := s4 _ _ hw3
        refine ⟨pt, _, rfl, SqT.of upd_same, rfl, _, _, rfl, _, _, rfl, rfl, ?_⟩
        refine ⟨.inl ⟨rfl, _, SqL.of hw4⟩, ?_⟩
        refine .inr (.inl ⟨pu, _, _, _, rfl, rfl, SqT.of hpu, atI_cons 2 rfl rfl, ?_⟩)
        refine .inr (.inl ⟨pu, _, _, _, rfl, rfl, SqT.of hpu, atI_cons 3 rfl rfl, ?_⟩)
        refine .inr (.inl ⟨pu, _, _, _, rfl, rfl, SqT.of hpu, atI_cons 2 rfl rfl, ?_⟩)
        refine ⟨cp (by lia), ?_⟩
        refine ⟨lw, _, _, rfl, rfl, hw4, by rw [List.length_map]; lia, ?_⟩
        exact ⟨ws ++ [_], _, _, ilt, (s3.trans s4).put hlw, by rw [upd_ne nq]; exact s4 _ _ hq3, by rw [upd_same, List.map_append]; rfl, by rw [List.length_append, wl]; rfl, rfl⟩
      · rintro σ H3 ⟨ws, x5, x6, _, s3, _, hw3, wl, rfl⟩
        refine ⟨by show 2 ≤ sizeLine; (decide), fun t ht => ?_⟩
        have s4 := Same.new (o := .tup [.str "weights", .ref lw]) ht
        exact q t _ [lw] (.ws ws) (s3.trans s4) ⟨lw, rfl, upd_same, s4 _ _ hw3⟩ (by show ws.length ≤ 100; lia)
    refine ⟨_, .inl (SqL.of hR.r), ?_⟩
    refine ⟨_, rfl, by rw [List.length_map, hR.lr]; (exact Int.natCast_nonneg _), by rw [List.length_map, hR.lr]; lia, fun D hD => ?_⟩
    refine comp_rng (lo := 0) (n := (((rows).map V.int).length : Int).toNat) (fun j ys H' => Same H H' ∧ H' D = some (.lst ys) ∧ ∃ ns : List Int, ys = ns.map V.int ∧ ns.length ≤ j) ⟨Same.new hD, upd_same, [], rfl, Nat.le_refl _⟩ (fun j ys H' h => h.2.1) ?_ ?_
    · rintro j ys H' P' hj ⟨t1, hD1, ns, rfl, ln⟩ hP
      have hj6 : j < 6 := by rw [List.length_map, hR.lr] at hj; lia
      refine ⟨⟨rfl, trivial⟩, cdB (by decide) (show Bt 40 (6 : Int) by unfold Bt; decide), cn (by (exact Int.natCast_nonneg _)), ifC (fun _ => ?_) fun _ => ?_⟩
      · exact ⟨hD1, by rw [List.length_map]; lia, hP _ _ ⟨t1.put hD, upd_same, ns ++ [_], by rw [List.map_append]; rfl, by rw [List.length_append]; show _ + 1 ≤ _; lia⟩⟩
      · exact hP _ _ ⟨t1, hD1, ns, rfl, by lia⟩
    rintro ys H1 ⟨s1, eD, so, rfl, lso⟩
    have lso' : so.length ≤ 6 := by rw [List.length_map, hR.lr] at lso; lia
    refine ⟨_, .inl (SqL.of (s1 _ _ hR.c)), ?_⟩
    refine ⟨_, rfl, by rw [List.length_map, hR.lc]; (exact Int.natCast_nonneg _), by rw [List.length_map, hR.lc]; lia, fun D2 hD2 => ?_⟩
    refine comp_rng (lo := 0) (n := (((cols).map V.int).length : Int).toNat) (fun j ys H' => Same H1 H' ∧ H' D2 = some (.lst ys) ∧ ∃ ns : List Int, ys = ns.map V.int ∧ ns.length ≤ j) ⟨Same.new hD2, upd_same, [], rfl, Nat.le_refl _⟩ (fun j ys H' h => h.2.1) ?_ ?_
    · rintro j ys H' P' hj ⟨t1, hD1, ns, rfl, ln⟩ hP
      have hj6 : j < 6 := by rw [List.length_map, hR.lc] at hj; lia
      refine ⟨⟨rfl, trivial⟩, cdB (by decide) (show Bt 40 (384 : Int) by unfold Bt; decide), cn (by (exact Int.natCast_nonneg _)), ifC (fun _ => ?_) fun _ => ?_⟩
      · exact ⟨hD1, by rw [List.length_map]; lia, hP _ _ ⟨t1.put hD2, upd_same, ns ++ [_], by rw [List.map_append]; rfl, by rw [List.length_append]; show _ + 1 ≤ _; lia⟩⟩
      · exact hP _ _ ⟨t1, hD1, ns, rfl, by lia⟩
    rintro ys H2 ⟨s2, eD2, ot, rfl, lot⟩
    have lot' : ot.length ≤ 6 := by rw [List.length_map, hR.lc] at lot; lia
    refine ⟨by show 2 ≤ sizeLine; (decide), fun pw hpw => ⟨cdB (by decide) (show Bt 40 (3 : Int) by unfold Bt; decide), cp, ?_⟩⟩
    have s3 := Same.new (o := .lst [.str "over", .str "under"]) hpw
    obtain ⟨ov, hat⟩ : ∃ ov : Bool, atI [V.str "over", .str "under"] (c / 3 % 2) = some (.str (wordS ov)) := by
      have h2 : c / 3 % 2 = ((0 : Nat) : Int) ∨ c / 3 % 2 = ((1 : Nat) : Int) := by lia
      rcases h2 with e | e
      · exact ⟨true, atI_cons _ e.symm rfl⟩
      · exact ⟨false, atI_cons _ e.symm rfl⟩
    refine .inl ⟨pw, _, _, _, rfl, rfl, SqL.of upd_same, hat, ?_⟩
    refine ⟨by show 4 ≤ sizeLine; (decide), fun t ht => ?_⟩
    have s4 := s3.trans (Same.new (o := .tup [.str "none", .str (wordS ov), .ref D, .ref D2]) ht)
    have e1 := s2 _ _ eD
    have n12 : D ≠ D2 := fun z => by rw [← z, eD] at hD2; cases hD2
    exact q t _ [D, D2] (.no ov so ot) ((s1.trans s2).trans s4) ⟨D, D2, rfl, n12, upd_same, s4 _ _ e1, s4 _ _ eD2⟩ ⟨by (exact Nat.le_trans (by assumption) (by decide)), by (exact Nat.le_trans (by assumption) (by decide))⟩
end
end My
set_option Elab.async false
set_option linter.all false
set_option maxRecDepth 100000
set_option maxHeartbeats 4000000
namespace My
open PySem L2 FrM Led
noncomputable def small : Told → Prop
  | .ws w => w.length ≤ 24
  | .no _ so ot => so.length ≤ 6 ∧ ot.length ≤ 6
inductive spSpoilt (vs : List V) (H : Hp) (Q : VK) (_E : XK) : Prop
  | mk (lr lc lu p : Addr) (Ls : List Addr) (rows cols : List Int) (us : List Un) (xs : List V) (R C : Nat) (t : Told) (c : Int) (h0 : vs = [.ref lr, .ref lc, .ref lu, .ref p, .int c]) (h1 : Rc H lr lc lu rows cols us xs R C) (h2 : ToldAt H t p Ls) (h3 : small t) (h4 : ∀ (p' : Addr) (H' : Hp) (Ls' : List Addr) (t' : Told), Same H H' → ToldAt H' t' p' Ls' → few t' → Q (.ref p') H') : spSpoilt vs H Q _E
section
variable {P : Program} {w : World} {K : PySem.W.Frag} {mg : Str → Option Value} {base : Heap} {a : Ad}
theorem ok_spoilt (T : Txt K mg a) : FnOk P w K mg base CX0 4 a.f_L_spoilt a.d_L_spoilt ["_law_rows", "_law_columns", "_law_units_here", "_law_told", "_law_cell_here"] spSpoilt := by
  have G_L_drawn : FnOk P w K mg base CX0 3 _ _ _ spDrawn := ok_drawn T
  have G_L_list : FnOk P w K mg base CX0 3 _ _ _ spList := (ok_list T).mono (by decide)
  refine T.F_L_spoilt.ok sc_L_spoilt (fun vs H Q E h => ?_) (fun cdv A outer s H vs Q E hr h => ?_)
  · obtain ⟨lr, lc, lu, p, Ls, rows, cols, us, xs, R, C, t, c, rfl, _⟩ := h; rfl
  · obtain ⟨lr, lc, lu, p, Ls, rows, cols, us, xs, R, C, t, c, rfl, hR, ht, sm, q⟩ := h
    refine ⟨_, (pss_cons (ps_set (i := 5) sc_L_spoilt.nd rfl (Or.inl rfl) (pe_op o_fdivB (vr 4) pe_int)) (pss_cons (ps_if (t_cmp o_eq (pe_op o_mod (vr 4) pe_int) pe_int (nomark _)) (pss_one (ps_ret (pe_call G_L_drawn hr rfl T.m_L_drawn T.F_L_drawn.kp T.B_L_drawn .nil pass0 (pa_cons (vr 0) (pa_cons (vr 1) (pa_cons (vr 2) (pa_cons (vr 5) pa_nil))))))) pss_nil) (pss_cons (ps_if (t_cmp o_eq (pe_ix ix_seq (vr 3) pe_int (fun _ _ => rfl)) pe_str (nomark _)) (pss_one (ps_ret (pe_tup (pa_cons pe_str (pa_cons (pe_call G_L_list hr rfl T.m_L_list T.F_L_list.kp T.B_L_list .nil pass0 (pa_cons (pe_ix ix_seq (vr 3) pe_int (fun _ _ => rfl)) (pa_cons (vr 5) pa_nil))) pa_nil))))) pss_nil) (pss_cons (ps_if (t_cmp o_eq (pe_op o_mod (vr 4) pe_int) pe_int (nomark _)) (pss_one (ps_ret (pe_tup (pa_cons pe_str (pa_cons (pe_ix ix_seq (pe_lst (pa_cons (pe_ix ix_seq (vr 3) pe_int (fun _ _ => rfl)) (pa_cons pe_str (pa_cons pe_str pa_nil)))) (pe_op o_mod (vr 5) pe_int) (fun _ _ => rfl)) (pa_cons (pe_callTy call_list_of rfl T.z_list bt_list (pa_cons (pe_ix ix_seq (vr 3) pe_int (fun _ _ => rfl)) pa_nil)) (pa_cons (pe_callTy call_list_of rfl T.z_list bt_list (pa_cons (pe_ix ix_seq (vr 3) pe_int (fun _ _ => rfl)) pa_nil)) pa_nil))))))) pss_nil) (pss_cons (ps_if (t_cmp o_eq (pe_op o_mod (vr 4) pe_int) pe_int (nomark _)) (pss_one (ps_ret (pe_tup (pa_cons pe_str (pa_cons (pe_ix ix_seq (vr 3) pe_int (fun _ _ => rfl)) (pa_cons (pe_call G_L_list hr rfl T.m_L_list T.F_L_list.kp T.B_L_list .nil pass0 (pa_cons (pe_ix ix_seq (vr 3) pe_int (fun _ _ => rfl)) (pa_cons (vr 5) pa_nil))) (pa_cons (pe_callTy call_list_of rfl T.z_list bt_list (pa_cons (pe_ix ix_seq (vr 3) pe_int (fun _ _ => rfl)) pa_nil)) pa_nil))))))) pss_nil) (pss_one (ps_ret (pe_tup (pa_cons pe_str (pa_cons (pe_ix ix_seq (vr 3) pe_int (fun _ _ => rfl)) (pa_cons (pe_callTy call_list_of rfl T.z_list bt_list (pa_cons (pe_ix ix_seq (vr 3) pe_int (fun _ _ => rfl)) pa_nil)) (pa_cons (pe_call G_L_list hr rfl T.m_L_list T.F_L_list.kp T.B_L_list .nil pass0 (pa_cons (pe_ix ix_seq (vr 3) pe_int (fun _ _ => rfl)) (pa_cons (vr 5) pa_nil))) pa_nil)))))))))))), ?_⟩
    have sl : sizeLine = 16777216 := sizeLine_eq
    refine ⟨cdB (by decide) (show Bt 40 (4 : Int) by unfold Bt; decide), cp, ifC (fun z => ?_) fun z => ?_⟩
    · exact ⟨lr, lc, lu, rows, cols, us, xs, R, C, _, rfl, hR, q⟩
    cases t with
    | ws w =>
      obtain ⟨l, rfl, hp, hl⟩ := ht
      have wl : w.length ≤ 24 := sm
      refine .inr (.inl ⟨p, _, _, _, rfl, rfl, SqT.of hp, atI_cons 0 rfl rfl, ?_⟩)
      refine .inr (.inl ⟨p, _, _, _, rfl, rfl, SqT.of hp, atI_cons 1 rfl rfl, ?_⟩)
      refine ⟨l, w, _, rfl, hl, by (exact Nat.le_trans (by assumption) (by decide)), fun l' H1 ns' s1 f1 e1 n1 => ?_⟩
      refine ⟨by show 2 ≤ sizeLine; (decide), fun t ht => ?_⟩
      have s2 := Same.new (o := .tup [.str "weights", .ref l']) ht
      exact q t _ [l'] (.ws ns') (s1.trans s2) ⟨l', rfl, upd_same, s2 _ _ e1⟩ (by show ns'.length ≤ 100; lia)
    | no ov so ot =>
      obtain ⟨l1, l2, rfl, n12, hp, h1, h2⟩ := ht
      obtain ⟨g1, g2⟩ := (sm : so.length ≤ 6 ∧ ot.length ≤ 6)
      refine .inr (.inl ⟨p, _, _, _, rfl, rfl, SqT.of hp, atI_cons 0 rfl rfl, ?_⟩)
      refine ⟨cp, ifC (fun z1 => ?_) fun z1 => ?_⟩
      · refine .inr (.inl ⟨p, _, _, _, rfl, rfl, SqT.of hp, atI_cons 1 rfl rfl, ?_⟩)
        refine ⟨by show 3 ≤ sizeLine; (decide), fun pw hpw => ⟨cp, ?_⟩⟩
        have s1 := Same.new (o := .lst [.str (wordS ov), .str "over", .str "under"]) hpw
        obtain ⟨ov', hat⟩ : ∃ ov' : Bool, atI [V.str (wordS ov), .str "over", .str "under"] (c / 4 % 3) = some (.str (wordS ov')) := by
          have h3 : c / 4 % 3 = ((0 : Nat) : Int) ∨ c / 4 % 3 = ((1 : Nat) : Int) ∨ c / 4 % 3 = ((2 : Nat) : Int) := by lia
          rcases h3 with e | e | e
          · exact ⟨ov, atI_cons _ e.symm rfl⟩
          · exact ⟨true, atI_cons _ e.symm rfl⟩
          · exact ⟨false, atI_cons _ e.symm rfl⟩
        refine .inl ⟨pw, _, _, _, rfl, rfl, SqL.of upd_same, hat, ?_⟩
        refine .inr (.inl ⟨p, _, _, _, rfl, rfl, SqT.of (s1 _ _ hp), atI_cons 2 rfl rfl, ?_⟩)
        refine ⟨l1, _, rfl, .inl (SqL.of (s1 _ _ h1)), fun k1 hk1 => ?_⟩
        have s2 := Same.new (o := .lst (so.map V.int)) hk1
        have s12 := s1.trans s2
        refine .inr (.inl ⟨p, _, _, _, rfl, rfl, SqT.of (s12 _ _ hp), atI_cons 3 rfl rfl, ?_⟩)
        refine ⟨l2, _, rfl, .inl (SqL.of (s12 _ _ h2)), fun k2 hk2 => ?_⟩
        have s3 := Same.new (o := .lst (ot.map V.int)) hk2
        have e1 := s3 _ _ (upd_same (a := k1) (o := .lst (so.map V.int)))
        have nk : k1 ≠ k2 := fun z => by have h0 := upd_same (H := upd H pw (.lst [.str (wordS ov), .str "over", .str "under"])) (a := k1) (o := .lst (so.map V.int)); rw [z] at h0; rw [z, h0] at hk2; cases hk2
        refine ⟨by show 4 ≤ sizeLine; (decide), fun t ht => ?_⟩
        have s4 := Same.new (o := .tup [.str "none", .str (wordS ov'), .ref k1, .ref k2]) ht
        exact q t _ [k1, k2] (.no ov' so ot) (s12.trans (s3.trans s4)) ⟨k1, k2, rfl, nk, upd_same, s4 _ _ e1, s4 _ _ upd_same⟩ ⟨by (exact Nat.le_trans (by assumption) (by decide)), by (exact Nat.le_trans (by assumption) (by decide))⟩
      refine ⟨cp, ifC (fun z2 => ?_) fun z2 => ?_⟩
      · refine .inr (.inl ⟨p, _, _, _, rfl, rfl, SqT.of hp, atI_cons 1 rfl rfl, ?_⟩)
        refine .inr (.inl ⟨p, _, _, _, rfl, rfl, SqT.of hp, atI_cons 2 rfl rfl, ?_⟩)
        refine ⟨l1, so, _, rfl, h1, by (exact Nat.le_trans (by assumption) (by decide)), fun k1 H1 ns' s1 f1 e1 n1 => ?_⟩
        refine .inr (.inl ⟨p, _, _, _, rfl, rfl, SqT.of (s1 _ _ hp), atI_cons 3 rfl rfl, ?_⟩)
        refine ⟨l2, _, rfl, .inl (SqL.of (s1 _ _ h2)), fun k2 hk2 => ?_⟩
        have s3 := Same.new (o := .lst (ot.map V.int)) hk2
        have nk : k1 ≠ k2 := fun z => by rw [← z, e1] at hk2; cases hk2
        refine ⟨by show 4 ≤ sizeLine; (decide), fun t ht => ?_⟩
        have s4 := Same.new (o := .tup [.str "none", .str (wordS ov), .ref k1, .ref k2]) ht
        exact q t _ [k1, k2] (.no ov ns' ot) (s1.trans (s3.trans s4)) ⟨k1, k2, rfl, nk, upd_same, s4 _ _ (s3 _ _ e1), s4 _ _ upd_same⟩ ⟨by lia, by (exact Nat.le_trans (by assumption) (by decide))⟩
      · refine .inr (.inl ⟨p, _, _, _, rfl, rfl, SqT.of hp, atI_cons 1 rfl rfl, ?_⟩)
        refine .inr (.inl ⟨p, _, _, _, rfl, rfl, SqT.of hp, atI_cons 2 rfl rfl, ?_⟩)
        refine ⟨l1, _, rfl, .inl (SqL.of h1), fun k1 hk1 => ?_⟩
        have s1 := Same.new (o := .lst (so.map V.int)) hk1
        refine .inr (.inl ⟨p, _, _, _, rfl, rfl, SqT.of (s1 _ _ hp), atI_cons 3 rfl rfl, ?_⟩)
        refine ⟨l2, ot, _, rfl, s1 _ _ h2, by (exact Nat.le_trans (by assumption) (by decide)), fun k2 H2 ns' s2 f2 e2 n2 => ?_⟩
        have e1 := s2 _ _ (upd_same (H := H) (a := k1) (o := .lst (so.map V.int)))
        have nk : k1 ≠ k2 := fun z => by rw [← z, upd_same] at f2; cases f2
        refine ⟨by show 4 ≤ sizeLine; (decide), fun t ht => ?_⟩
        have s4 := Same.new (o := .tup [.str "none", .str (wordS ov), .ref k1, .ref k2]) ht
        exact q t _ [k1, k2] (.no ov so ns') ((s1.trans s2).trans s4) ⟨k1, k2, rfl, nk, upd_same, s4 _ _ e1, s4 _ _ e2⟩ ⟨by (exact Nat.le_trans (by assumption) (by decide)), by lia⟩
end
end My
set_option linter.all false
set_option maxHeartbeats 1000000
namespace Led
section
variable {us : List Un} {rows cols : List Int} {R C : Nat}
theorem outer_congr (ok : OkU us R C) {k k' : En → Bool} (h0 : ∀ i < R, k (0, i) = k' (0, i)) (h1 : ∀ j < C, k (1, j) = k' (1, j)) (g : Un → Int → Int) : outer us [] k g = outer us [] k' g := sI_congr fun p hp => by
  obtain ⟨a, b, _⟩ := ok p hp
  rw [h0 _ a, h1 _ b]
theorem inner_congr (ok : OkU us R C) {k k' : En → Bool} (h0 : ∀ i < R, k (0, i) = k' (0, i)) (h1 : ∀ j < C, k (1, j) = k' (1, j)) (g : Un → Int → Int) : inner us [] k g = inner us [] k' g := sI_congr fun p hp => by
  obtain ⟨a, b, _⟩ := ok p hp
  rw [h0 _ a, h1 _ b]
theorem cut_congr (ok : OkU us R C) {k k' : En → Bool} (h0 : ∀ i < R, k (0, i) = k' (0, i)) (h1 : ∀ j < C, k (1, j) = k' (1, j)) (ov : Bool) : cutB us rows cols R C ov k = cutB us rows cols R C ov k' := by
  have eS : inS rows R k = inS rows R k' := sI_congr fun i hi => by rw [h0 i hi]
  have eT : inT cols C k = inT cols C k' := sI_congr fun j hj => by rw [h1 j hj]
  cases ov with
  | true =>
    show decide (inT cols C k - inner us [] k _ < inS rows R k - outer us [] k _) = decide (inT cols C k' - inner us [] k' _ < inS rows R k' - outer us [] k' _)
    rw [eS, eT, outer_congr ok h0 h1, inner_congr ok h0 h1]
  | false =>
    show decide (inS rows R k - outer us [] k _ < inT cols C k - inner us [] k _) = decide (inS rows R k' - outer us [] k' _ < inT cols C k' - inner us [] k' _)
    rw [eS, eT, outer_congr ok h0 h1, inner_congr ok h0 h1]
theorem onK_rises (k : En → Bool) (s R : Nat) : onK k s R = riseL (onK k s R) R := by
  rw [rise_iff]
  refine ⟨fun v hv => ?_, onK_rise k s R⟩
  obtain ⟨i, hi, _, rfl⟩ := onK_mem.mp hv
  lia
theorem good_right (ok : OkU us R C) (hr : rows.length = R) (hc : cols.length = C) : ∀ {t : Told}, Good us rows cols R C t → rightB us rows cols R C t = true
  | .ws w, h => by
    obtain ⟨e0, e1⟩ := met_rows hr hc h
    have hw : wiB us w us.length = true := by
      unfold wiB
      rw [List.all_eq_true]
      exact fun p hp => decide_eq_true (h.1.bd p (List.mem_range.mp hp))
    show metB us rows cols R C w = true
    unfold metB
    rw [decide_eq_true h.1.len, hw, decide_eq_true e0, decide_eq_true e1]
    rfl
  | .no ov so ot, ⟨k, e1, e2, hC⟩ => by
    show (decide (so = riseL so R) && (decide (ot = riseL ot C) && cutB us rows cols R C ov (kOf so ot))) = true
    have c1 : so = riseL so R := by rw [e1]; exact onK_rises k 0 R
    have c2 : ot = riseL ot C := by rw [e2]; exact onK_rises k 1 C
    rw [decide_eq_true c1, decide_eq_true c2, Bool.true_and, Bool.true_and]
    have hk : cutB us rows cols R C ov (kOf so ot) = cutB us rows cols R C ov k := by
      refine cut_congr ok (fun i hi => ?_) (fun j hj => ?_) ov
      · show decide ((i : Int) ∈ so) = k (0, i)
        rw [e1, Bool.eq_iff_iff, decide_eq_true_iff]
        exact onK_nat hi
      · show decide ((j : Int) ∈ ot) = k (1, j)
        rw [e2, Bool.eq_iff_iff, decide_eq_true_iff]
        exact onK_nat hj
    rw [hk]
    cases ov with
    | true => exact decide_eq_true hC
    | false => exact decide_eq_true hC
end
end Led
set_option Elab.async false
set_option linter.all false
set_option maxRecDepth 100000
set_option maxHeartbeats 4000000
namespace My
open PySem L2 FrM Led
theorem tabs_new {a : Ad} {ts : List Addr} {H : Hp} (hts : ∀ q ∈ tabs a, q.1 ∈ ts) (h : ∀ P ∈ ts, H P = some (.tbl #[])) : TabsOk (tabs a) H := fun q hq => ⟨#[], h _ (hts q hq), trivial, fun _ _ => .inl rfl⟩
noncomputable def dU (u : Un) : PyData := .tuple [.int (u.r : Nat), .int (u.c : Nat), .int u.lo, .int u.hi]
theorem IsU.dv {K : PySem.W.Frag} {H : Hp} {u : Un} {x : V} (h : IsU H u x) : DV K H (dU u) x := by
  obtain ⟨p, rfl, hp⟩ := h
  unfold dU
  rw [DV]
  exact ⟨p, _, rfl, SqT.of hp, by simp [DVs, DV]⟩
theorem dvs_u {K : PySem.W.Frag} {H : Hp} : ∀ {us : List Un} {xs : List V}, AllU H us xs → DVs K H (us.map dU) xs
  | _, _, .nil => by simp [DVs]
  | _, _, .cons r t => by rw [List.map_cons, DVs]; exact ⟨_, _, rfl, r.dv, dvs_u t⟩
theorem lay_u : ∀ (l : List Un), PyData.canLayAll0 (l.map dU) = true ∧ PyData.depthAll (l.map dU) ≤ 2
  | [] => by simp [PyData.canLayAll0, PyData.depthAll]
  | t :: l => by
    obtain ⟨h1, h2⟩ := lay_u l
    rw [List.map_cons, PyData.canLayAll0, PyData.depthAll, h1]
    have e : PyData.canLay0 (dU t) = true := rfl
    have e2 : PyData.depth (dU t) ≤ 2 := by unfold dU; simp [PyData.depth, PyData.depthAll]
    rw [e]
    exact ⟨rfl, by lia⟩
noncomputable def dTold : Told → PyData
  | .ws w => .tuple [.str "weights", .list (w.map PyData.int)]
  | .no ov so ot => .tuple [.str "none", .str (wordS ov), .list (so.map PyData.int), .list (ot.map PyData.int)]
theorem dv_told {K : PySem.W.Frag} {H : Hp} : ∀ {t : Told} {p : Addr} {Ls : List Addr}, ToldAt H t p Ls → DV K H (dTold t) (.ref p)
  | .ws w, p, _, ⟨l, _, hp, hl⟩ => by
    unfold dTold
    rw [DV]
    have d1 := dv_i (K := K) hl
    refine ⟨p, _, rfl, SqT.of hp, ?_⟩
    rw [DVs]; refine ⟨_, _, rfl, by rw [DV], ?_⟩
    rw [DVs]; refine ⟨_, _, rfl, d1, ?_⟩
    rw [DVs]
  | .no ov so ot, p, _, ⟨l1, l2, _, _, hp, h1, h2⟩ => by
    unfold dTold
    rw [DV]
    have d1 := dv_i (K := K) h1
    have d2 := dv_i (K := K) h2
    refine ⟨p, _, rfl, SqT.of hp, ?_⟩
    rw [DVs]; refine ⟨_, _, rfl, by rw [DV], ?_⟩
    rw [DVs]; refine ⟨_, _, rfl, by rw [DV], ?_⟩
    rw [DVs]; refine ⟨_, _, rfl, d1, ?_⟩
    rw [DVs]; refine ⟨_, _, rfl, d2, ?_⟩
    rw [DVs]
theorem IsT.at_ {H H' : Hp} : ∀ {t : Told} {x : V}, IsT H H' t x → ∃ p Ls, x = .ref p ∧ ToldAt H' t p Ls ∧ ∀ l ∈ Ls, H l = none
  | .ws w, x, ⟨p, l, e, h1, h2, f⟩ => ⟨p, [l], e, ⟨l, rfl, h1, h2⟩, fun y hy => by rw [List.mem_singleton.mp hy]; exact f⟩
  | .no ov so ot, x, ⟨p, l1, l2, e, h1, h2, h3, f1, f2, n⟩ => ⟨p, [l1, l2], e, ⟨l1, l2, rfl, n, h1, h2, h3⟩, fun y hy => by
    rcases List.mem_cons.mp hy with z | z
    · rw [z]; exact f1
    · rw [List.mem_singleton.mp z]; exact f2⟩
theorem seqT {K : PySem.W.Frag} {H H' : Hp} {a : Addr} {xs : List V} (e : SameT H H') (h : SqL K H a xs) : SqL K H' a xs := by
  rcases h with (h | ⟨o, h⟩) | h
  · exact .inl (.inl (e.at h))
  · exact .inl (.inr ⟨o, e.at h⟩)
  · exact .inr h
theorem good_small {us : List Un} {rows cols : List Int} {R C : Nat} (r6 : R ≤ 6) (c6 : C ≤ 6) (n : us.length ≤ 24) : ∀ {t : Told}, Good us rows cols R C t → small t
  | .ws w, h => by show w.length ≤ 24; rw [h.1.len]; exact n
  | .no ov so ot, ⟨k, e1, e2, _⟩ => by
    have h1 := onK_len k 0 R
    have h2 := onK_len k 1 C
    refine ⟨?_, ?_⟩
    · rw [e1]; lia
    · rw [e2]; lia
noncomputable def dRt (rows cols : List Int) (us : List Un) (t : Told) : PyData := .list [.list (rows.map PyData.int), .list (cols.map PyData.int), .list (us.map dU), dTold t]
theorem lay_told : ∀ t : Told, PyData.canLay0 (dTold t) = true ∧ PyData.depth (dTold t) ≤ 3
  | .ws w => by
    obtain ⟨k1, k2⟩ := lay_i w
    have o1 : PyData.strOk "weights" = true := by decide +kernel
    unfold dTold
    simp only [PyData.canLay0, PyData.canLayAll0, k1, o1, Bool.true_and, Bool.and_true]
    refine ⟨trivial, ?_⟩
    simp only [PyData.depth, PyData.depthAll]
    lia
  | .no ov so ot => by
    obtain ⟨k1, k2⟩ := lay_i so
    obtain ⟨j1, j2⟩ := lay_i ot
    have o1 : PyData.strOk "none" = true := by decide +kernel
    have o2 : PyData.strOk (wordS ov) = true := by cases ov <;> decide +kernel
    unfold dTold
    simp only [PyData.canLay0, PyData.canLayAll0, k1, j1, o1, o2, Bool.true_and, Bool.and_true]
    refine ⟨trivial, ?_⟩
    simp only [PyData.depth, PyData.depthAll]
    lia
theorem shaped_rt (rows cols : List Int) (us : List Un) (t : Told) : SeqAt.shaped (dRt rows cols us t) = true := by
  obtain ⟨k1, k2⟩ := lay_i rows
  obtain ⟨j1, j2⟩ := lay_i cols
  obtain ⟨i1, i2⟩ := lay_u us
  obtain ⟨h1, h2⟩ := lay_told t
  unfold SeqAt.shaped dRt
  simp only [PyData.canLay0, PyData.canLayAll0, k1, j1, i1, h1, Bool.true_and, Bool.and_true]
  refine decide_eq_true ?_
  simp only [PyData.depth, PyData.depthAll]
  lia
theorem dv_rt {K : PySem.W.Frag} {H : Hp} {l lr lc lu pt : Addr} {rows cols : List Int} {us : List Un} {xs : List V} {R C : Nat} {t : Told} {Ls : List Addr} (h : H l = some (.lst [.ref lr, .ref lc, .ref lu, .ref pt])) (hR : Rc H lr lc lu rows cols us xs R C) (hA : ToldAt H t pt Ls) : DV K H (dRt rows cols us t) (.ref l) := by
  unfold dRt
  rw [DV]
  refine ⟨l, _, rfl, SqL.of h, ?_⟩
  have d1 := dv_i (K := K) hR.r
  have d2 := dv_i (K := K) hR.c
  have d3 : DV K H (.list (us.map dU)) (.ref lu) := by rw [DV]; exact ⟨lu, xs, rfl, SqL.of hR.u, dvs_u hR.all⟩
  rw [DVs]; refine ⟨_, _, rfl, d1, ?_⟩
  rw [DVs]; refine ⟨_, _, rfl, d2, ?_⟩
  rw [DVs]; refine ⟨_, _, rfl, d3, ?_⟩
  rw [DVs]; refine ⟨_, _, rfl, dv_told hA, ?_⟩
  rw [DVs]
noncomputable def Cp (H0 : Hp) (D : Addr) (H : Hp) (x y : V) : Prop := (∃ s : Str, x = .str s ∧ y = .str s) ∨ ∃ (l k : Addr) (w : List Int), x = .ref l ∧ y = .ref k ∧ H0 l = some (.lst (w.map V.int)) ∧ H k = some (.lst (w.map V.int)) ∧ H0 k = none ∧ k ≠ D
noncomputable abbrev Cps (H0 : Hp) (D : Addr) (H : Hp) : List V → List V → Prop := PySem.Paired (Cp H0 D H)
theorem Cps.out {H0 H H' : Hp} {D : Addr} (s : ∀ b o, b ≠ D → H b = some o → H' b = some o) : ∀ {xs ys : List V}, Cps H0 D H xs ys → Cps H0 D H' xs ys
  | _, _, .nil => .nil
  | _, _, .cons (.inl r) t => .cons (.inl r) (Cps.out s t)
  | _, _, .cons (.inr ⟨l, k, w, e1, e2, h1, h2, h3, h4⟩) t => .cons (.inr ⟨l, k, w, e1, e2, h1, s _ _ h4 h2, h3, h4⟩) (Cps.out s t)
theorem Cps.snoc {H0 H : Hp} {D : Addr} {x y : V} (r : Cp H0 D H x y) : ∀ {xs ys : List V}, Cps H0 D H xs ys → Cps H0 D H (xs ++ [x]) (ys ++ [y])
  | _, _, .nil => .cons r .nil
  | _, _, .cons q t => .cons q (Cps.snoc r t)
theorem Cps.refs {H0 H : Hp} {D : Addr} : ∀ {xs ys : List V}, Cps H0 D H xs ys → ∀ k, V.ref k ∈ ys → H k ≠ none
  | _, _, .nil, k, hk => by cases hk
  | _, _, .cons r t, k, hk => by
    rcases List.mem_cons.mp hk with z | z
    · rcases r with ⟨s, _, e⟩ | ⟨l, k', w, _, e, _, h, _⟩
      · rw [e] at z; cases z
      · rw [e] at z; cases z; rw [h]; exact fun h => by cases h
    · exact Cps.refs t k z
theorem told_items {H0 : Hp} : ∀ {t : Told} {p : Addr} {Ls : List Addr}, ToldAt H0 t p Ls → ∃ its : List V, H0 p = some (.tup its) ∧ its.length ≤ 4 ∧ (∀ x ∈ its, (∃ s : Str, x = .str s) ∨ ∃ (l : Addr) (w : List Int), x = .ref l ∧ H0 l = some (.lst (w.map V.int))) ∧ ∀ {ys : List V} {D pk : Addr} {H : Hp}, Cps H0 D H its ys → (∀ k ys' ys'', ys = ys' ++ V.ref k :: ys'' → V.ref k ∉ ys') → H pk = some (.tup ys) → ∃ Ls', ToldAt H t pk Ls'
  | .ws w, p, _, ⟨l, _, hp, hl⟩ => by
    refine ⟨_, hp, by show 2 ≤ 4; decide, fun x hx => ?_, fun {ys D pk H} hc hd hk => ?_⟩
    · rcases List.mem_cons.mp hx with z | z
      · exact .inl ⟨_, z⟩
      · exact .inr ⟨l, w, List.mem_singleton.mp z, hl⟩
    · obtain _ | ⟨r1, _ | ⟨r2, _ | _⟩⟩ := hc
      rcases r1 with ⟨s, e1, e1'⟩ | ⟨l', k, w', e1, _⟩ <;> cases e1
      rcases r2 with ⟨s, e2, e2'⟩ | ⟨l', k, w', e2, e2', g1, g2, _⟩ <;> cases e2
      subst e1' e2'
      rw [hl] at g1
      have i1 := HO.lst.inj (Option.some.inj g1)
      exact ⟨[k], k, rfl, hk, by rw [g2, i1]⟩
  | .no ov so ot, p, _, ⟨l1, l2, _, _, hp, h1, h2⟩ => by
    refine ⟨_, hp, by show 4 ≤ 4; decide, fun x hx => ?_, fun {ys D pk H} hc hd hk => ?_⟩
    · rcases List.mem_cons.mp hx with z | z
      · exact .inl ⟨_, z⟩
      rcases List.mem_cons.mp z with z | z
      · exact .inl ⟨_, z⟩
      rcases List.mem_cons.mp z with z | z
      · exact .inr ⟨l1, so, z, h1⟩
      · exact .inr ⟨l2, ot, List.mem_singleton.mp z, h2⟩
    · obtain _ | ⟨r1, _ | ⟨r2, _ | ⟨r3, _ | ⟨r4, _ | _⟩⟩⟩⟩ := hc
      rcases r1 with ⟨s, e1, e1'⟩ | ⟨l', k, w', e1, _⟩ <;> cases e1
      rcases r2 with ⟨s, e2, e2'⟩ | ⟨l', k, w', e2, _⟩ <;> cases e2
      rcases r3 with ⟨s, e3, e3'⟩ | ⟨l', k, w', e3, e3', g1, g2, _⟩ <;> cases e3
      rcases r4 with ⟨s, e4, e4'⟩ | ⟨l', k', w'', e4, e4', g3, g4, _⟩ <;> cases e4
      subst e1' e2' e3' e4'
      rw [h1] at g1
      rw [h2] at g3
      have i1 := HO.lst.inj (Option.some.inj g1)
      have i3 := HO.lst.inj (Option.some.inj g3)
      have n12 : k ≠ k' := fun z => hd k' [_, _, .ref k] [] rfl (by rw [z]; exact List.mem_cons_of_mem _ (List.mem_cons_of_mem _ (List.mem_cons_self ..)))
      exact ⟨[k, k'], k, k', rfl, n12, hk, by rw [g2, i1], by rw [g4, i3]⟩
theorem refs_snoc {ys : List V} {y : V} (hd : ∀ k ys' ys'', ys = ys' ++ V.ref k :: ys'' → V.ref k ∉ ys') (hy : ∀ k, y = V.ref k → V.ref k ∉ ys) : ∀ k ys' ys'', ys ++ [y] = ys' ++ V.ref k :: ys'' → V.ref k ∉ ys' := fun k ys' ys'' e => by
  rcases List.eq_nil_or_concat ys'' with z | ⟨zs, z, hz⟩
  · subst z
    obtain ⟨e1, e2⟩ := List.append_inj' e rfl
    cases e2
    rw [← e1]
    exact hy k rfl
  · rw [hz, List.concat_eq_append, ← List.cons_append, ← List.append_assoc] at e
    exact hd k ys' zs (List.append_inj' e rfl).1
section
variable {P : Program} {w : World} {K : PySem.W.Frag} {mg : Str → Option Value} {base : Heap} {a : Ad}
noncomputable abbrev lawK : Nat := 7
theorem ok_law {ts : List Addr} (T : Txt K mg a) (hB : Bm mg base) (hts : ∀ q ∈ tabs a, q.1 ∈ ts) : FnOk P w K mg base CX0 lawK a.f_law a.d_law ["_law_script"] (spLaw K ts) := by
  have G_L_cell : FnOk P w K mg base CX0 6 _ _ _ (spCell K) := (ok_cell T).mono (by decide)
  have G_L_mix : FnOk P w K mg base CX0 6 _ _ _ spMix := (ok_mix T).mono (by decide)
  have G_L_units : FnOk P w K mg base CX0 6 _ _ _ (spUnits K) := (ok_units T).mono (by decide)
  have G_L_wished : FnOk P w K mg base CX0 6 _ _ _ (spWished K) := (ok_wished T).mono (by decide)
  have G_L_right : FnOk P w K mg base CX0 6 _ _ _ spRight := (ok_right T).mono (by decide)
  have G_L_spoilt : FnOk P w K mg base CX0 6 _ _ _ spSpoilt := (ok_spoilt T).mono (by decide)
  have G_led : FnOk P w K mg base CX0 6 _ _ _ (spLed a) := ok_led T hB
  have G_is_led : FnOk P w K mg base CX0 6 _ _ _ (spIsLed a) := ok_isled T hB (ok_rising T)
  refine T.F_law.ok sc_law (fun vs H Q E h => ?_) (fun cdv A outer s H vs Q E hr h => ?_)
  · obtain ⟨p, ns, rfl, _⟩ := h; rfl
  · obtain ⟨p, ns, rfl, hS, hlen, hT0, q⟩ := h
    refine ⟨_, (pss_cons (ps_set (i := 1) sc_law.nd rfl (Or.inl rfl) (pe_lst (pa_cons (pe_op o_mod (pe_call G_L_cell hr rfl T.m_L_cell T.F_L_cell.kp T.B_L_cell .nil pass0 (pa_cons (vr 0) (pa_cons pe_int pa_nil))) pe_int) (pa_cons (pe_op o_mod (pe_call G_L_cell hr rfl T.m_L_cell T.F_L_cell.kp T.B_L_cell .nil pass0 (pa_cons (vr 0) (pa_cons pe_int pa_nil))) pe_int) pa_nil)))) (pss_cons (ps_set (i := 2) sc_law.nd rfl (Or.inl rfl) (pe_call G_L_units hr rfl T.m_L_units T.F_L_units.kp T.B_L_units .nil pass0 (pa_cons (vr 0) (pa_cons pe_int (pa_cons (pe_ix ix_seq (vr 1) pe_int (fun _ _ => rfl)) (pa_cons (pe_ix ix_seq (vr 1) pe_int (fun _ _ => rfl)) pa_nil)))))) (pss_cons (ps_asg (pe_call G_L_wished hr rfl T.m_L_wished T.F_L_wished.kp T.B_L_wished .nil pass0 (pa_consQ (vr 0) (pa_consQ pe_int (pa_consQ (pe_ix ix_seq (vr 1) pe_int (fun _ _ => rfl)) (pa_consQ (pe_ix ix_seq (vr 1) pe_int (fun _ _ => rfl)) (pa_consQ (vr 2) pa_nil)))))) (pg_lst rfl (pgs_cons (pg_name (i := 3) sc_law.nd rfl (Or.inl rfl)) (pgs_cons (pg_name (i := 4) sc_law.nd rfl (Or.inl rfl)) pgs_nil)))) (pss_cons (ps_set (i := 5) sc_law.nd rfl (Or.inl rfl) (pe_call G_led hr rfl T.m_led T.F_led.kp T.B_led .nil pass0 (pa_cons (pe_callTy call_list_of rfl T.z_list bt_list (pa_cons (vr 3) pa_nil)) (pa_cons (pe_callTy call_list_of rfl T.z_list bt_list (pa_cons (vr 4) pa_nil)) (pa_cons (pe_callTy call_list_of rfl T.z_list bt_list (pa_cons (vr 2) pa_nil)) pa_nil))))) (pss_cons (ps_if (pt_not (t_val (pe_call G_L_right hr rfl T.m_L_right T.F_L_right.kp T.B_L_right .nil pass0 (pa_cons (vr 3) (pa_cons (vr 4) (pa_cons (vr 2) (pa_cons (vr 5) pa_nil))))))) (pss_one (ps_ret pe_bl)) pss_nil) (pss_cons (ps_for PassesOwn.never rfl (pi_range2 rfl T.z_range (pa_cons pe_int (pa_cons (pe_callB (call_max2 rfl) rfl T.z_max bt_max (pa_cons pe_int (pa_cons (pe_callB (call_min2 rfl) rfl T.z_min bt_min (pa_cons (pe_callB call_lenM rfl T.z_len bt_len (pa_cons (vr 0) pa_nil)) (pa_cons pe_int pa_nil))) pa_nil))) pa_nil))) (pg_name (i := 6) sc_law.nd rfl (Or.inl rfl)) (pss_cons (ps_set (i := 7) sc_law.nd rfl (Or.inl rfl) (pe_call G_L_cell hr rfl T.m_L_cell T.F_L_cell.kp T.B_L_cell .nil pass0 (pa_cons (vr 0) (pa_cons (vr 6) pa_nil)))) (pss_consM (ps_if (t_cmp o_eq (pe_op o_mod (vr 7) pe_int) pe_int (nomark _)) (pss_one (ps_set (i := 7) sc_law.nd rfl (Or.inl rfl) (pe_call G_L_mix hr rfl T.m_L_mix T.F_L_mix.kp T.B_L_mix .nil pass0 (pa_cons (vr 7) (pa_cons (vr 6) pa_nil))))) pss_nil) (pss_cons (ps_set (i := 8) sc_law.nd rfl (Or.inl rfl) (pe_call G_L_spoilt hr rfl T.m_L_spoilt T.F_L_spoilt.kp T.B_L_spoilt .nil pass0 (pa_consQ (vr 3) (pa_consQ (vr 4) (pa_consQ (vr 2) (pa_consQ (vr 5) (pa_consQ (pe_op o_fdivB (vr 7) pe_int) pa_nil))))))) (pss_cons (ps_set (i := 9) sc_law.nd rfl (Or.inl rfl) (pe_lst (pa_cons (pe_callTy call_list_of rfl T.z_list bt_list (pa_cons (vr 3) pa_nil)) (pa_cons (pe_callTy call_list_of rfl T.z_list bt_list (pa_cons (vr 4) pa_nil)) (pa_cons (pe_callTy call_list_of rfl T.z_list bt_list (pa_cons (vr 2) pa_nil)) (pa_cons (pe_callTy call_tuple_of rfl T.z_tuple bt_tuple (pa_cons (pe_comp rfl (N := ["_law_x"]) (ix := [none]) ⟨rfl, rfl, rfl, rfl, trivial⟩ (pi_any (vr 8)) ⟨fun C s H fp => pg_name (i := 0) (show List.Nodup (["_law_x"] : List Str) by decide +kernel) rfl (Or.inl rfl), fun C s H fp => pts_nil, fun C s H fp => (pe_ifExp (t_val (pe_callB (call_isiK (K := K) rfl) rfl T.z_isinstance bt_isinstance (pa_cons (vr 0) (pa_cons (pe_bltn (v := .ty "list") rfl T.z_list bt_list rfl) pa_nil)))) (pe_callTy (call_list_ofK (K := K) rfl) rfl T.z_list bt_list (pa_cons (vr 0) pa_nil)) (vr 0))⟩) pa_nil)) pa_nil)))))) (pss_cons (ps_set (i := 10) sc_law.nd rfl (Or.inl rfl) (pe_call G_is_led hr rfl T.m_is_led T.F_is_led.kp T.B_is_led .nil pass0 (pa_cons (pe_ix ix_seq (vr 9) pe_int (fun _ _ => rfl)) (pa_cons (pe_ix ix_seq (vr 9) pe_int (fun _ _ => rfl)) (pa_cons (pe_ix ix_seq (vr 9) pe_int (fun _ _ => rfl)) (pa_cons (pe_ix ix_seq (vr 9) pe_int (fun _ _ => rfl)) pa_nil)))))) (pss_cons (ps_if (PW.pt (pw_or (pt_not (t_val (pe_callB call_isi rfl T.z_isinstance bt_isinstance (pa_cons (vr 10) (pa_cons (pe_bltn (v := .ty "bool") rfl T.z_bool bt_bool rfl) pa_nil))))) (pw_or1 (t_cmp (o_neD hr.units) (vr 10) (pe_call G_L_right hr rfl T.m_L_right T.F_L_right.kp T.B_L_right .nil pass0 (pa_cons (vr 3) (pa_cons (vr 4) (pa_cons (vr 2) (pa_cons (vr 8) pa_nil))))) (nomark _))))) (pss_one (ps_ret pe_bl)) pss_nil) (pss_one (ps_if (t_cmp (o_neD hr.units) (vr 9) (pe_lst (pa_cons (vr 3) (pa_cons (vr 4) (pa_cons (vr 2) (pa_cons (vr 8) pa_nil))))) (nomark _)) (pss_one (ps_ret pe_bl)) pss_nil))))))))) (pss_one (ps_ret pe_bl)))))))), ?_⟩
    have sl : sizeLine = 16777216 := sizeLine_eq
    have hT := tabs_new hts hT0
    refine ⟨p, ns, 0, rfl, hS, hlen, by decide, by decide, cp, ?_⟩
    refine ⟨p, ns, 1, rfl, hS, hlen, by decide, by decide, cp, ?_⟩
    obtain ⟨R, eR⟩ : ∃ R : Nat, (R : Int) = cellF ns 0 % 7 := ⟨(cellF ns 0 % 7).toNat, Int.toNat_of_nonneg (Int.emod_nonneg _ (by decide))⟩
    obtain ⟨C, eC⟩ : ∃ C : Nat, (C : Int) = cellF ns 1 % 7 := ⟨(cellF ns 1 % 7).toNat, Int.toNat_of_nonneg (Int.emod_nonneg _ (by decide))⟩
    have r6 : R ≤ 6 := by lia
    have c6 : C ≤ 6 := by lia
    refine ⟨by show 2 ≤ sizeLine; (decide), fun lm hlm => ?_⟩
    have s1 := Same.new (o := .lst [.int (cellF ns 0 % 7), .int (cellF ns 1 % 7)]) hlm
    have em : (upd H lm (.lst [.int (cellF ns 0 % 7), .int (cellF ns 1 % 7)])) lm = some (.lst [.int (R : Int), .int (C : Int)]) := by rw [eR, eC]; exact upd_same
    have hm0 : atI [V.int (R : Int), .int (C : Int)] 0 = some (.int (R : Int)) := atI_cons 0 rfl rfl
    have hm1 : atI [V.int (R : Int), .int (C : Int)] 1 = some (.int (C : Int)) := atI_cons 1 rfl rfl
    generalize upd H lm (.lst [.int (cellF ns 0 % 7), .int (cellF ns 1 % 7)]) = H1 at s1 em
    refine .inl ⟨lm, _, _, _, rfl, rfl, SqL.of em, hm0, ?_⟩
    refine .inl ⟨lm, _, _, _, rfl, rfl, SqL.of em, hm1, ?_⟩
    refine ⟨p, ns, 2, R, C, rfl, s1.seq hS, hlen, by decide, by decide, r6, c6, fun H2 lu us xs s2 fu hu hall n24 hok => ?_⟩
    have s12 := s1.trans s2
    have em2 := s2 _ _ em
    refine .inl ⟨lm, _, _, _, rfl, rfl, SqL.of em2, hm0, ?_⟩
    refine .inl ⟨lm, _, _, _, rfl, rfl, SqL.of em2, hm1, ?_⟩
    refine ⟨p, lu, ns, 5, R, C, us, xs, rfl, s12.seq hS, hlen, by decide, by decide, r6, c6, hu, hall, n24, hok, fun H3 l lr lc rows cols s3 fr fc nrc hl hr hc lr' lc' sr sc hw0 => ?_⟩
    have s13 := s12.trans s3
    have hR3 : Rc H3 lr lc lu rows cols us xs R C := ⟨hr, hc, s3 _ _ hu, hall.tu s3.tu, lr', lc', r6, c6, n24, hok⟩
    refine ⟨l, _, rfl, SqL.of hl, rfl, _, _, rfl, _, _, rfl, rfl, ?_⟩
    refine ⟨lr, _, rfl, .inl (SqL.of hR3.r), fun hr1 hhr1 => ?_⟩
    have s4 := Same.new (o := .lst (rows.map V.int)) hhr1
    refine ⟨lc, _, rfl, .inl (SqL.of (s4 _ _ hR3.c)), fun hc1 hhc1 => ?_⟩
    have s5 := Same.new (o := .lst (cols.map V.int)) hhc1
    have s45 := s4.trans s5
    refine ⟨lu, _, rfl, .inl (SqL.of (s45 _ _ hR3.u)), fun hu1 hhu1 => ?_⟩
    have s6 := Same.new (o := .lst xs) hhu1
    have s37 := s45.trans s6
    have g1 := (s5.trans s6) _ _ (upd_same (H := H3) (a := hr1) (o := .lst (rows.map V.int)))
    have g2 := s6 _ _ (upd_same (H := upd H3 hr1 (.lst (rows.map V.int))) (a := hc1) (o := .lst (cols.map V.int)))
    have g3 := upd_same (H := upd (upd H3 hr1 (.lst (rows.map V.int))) hc1 (.lst (cols.map V.int))) (a := hu1) (o := .lst xs)
    have hR7 := hR3.same s37
    have s07 := s13.trans s37
    generalize upd (upd (upd H3 hr1 (.lst (rows.map V.int))) hc1 (.lst (cols.map V.int))) hu1 (.lst xs) = H7 at g1 g2 g3 hR7 s07
    have hK7 : Rc H7 hr1 hc1 hu1 rows cols us xs R C := ⟨g1, g2, g3, hR7.all, lr', lc', r6, c6, n24, hok⟩
    refine ⟨hr1, hc1, hu1, rows, cols, us, xs, rfl, hK7.in_ sr sc, hT.same s07, fun x H8 t8 hT8 hIs => ?_⟩
    have okU := (hK7.in_ sr sc).okU
    rw [lr', lc'] at hIs okU
    have good := led_good (rows := rows) (cols := cols) okU lr' lc'
    obtain ⟨t, et⟩ : ∃ t, ledF us rows cols R C = t := ⟨_, rfl⟩
    rw [et] at hIs good
    obtain ⟨pt, Ls, rfl, hA8, _⟩ := hIs.at_
    have sm := good_small r6 c6 n24 good
    have hR8 := hR7.t t8
    have t08 := s07.t.trans t8
    refine ⟨lr, lc, lu, pt, Ls, rows, cols, us, xs, R, C, t, rfl, hR8, hA8, (by cases t with | ws w => exact Nat.le_trans (show w.length ≤ 24 from sm) (by decide) | no ov so ot => exact ⟨Nat.le_trans (And.left (show so.length ≤ 6 ∧ ot.length ≤ 6 from sm)) (by decide), Nat.le_trans (And.right (show so.length ≤ 6 ∧ ot.length ≤ 6 from sm)) (by decide)⟩), fun H9 s9 => ?_⟩
    rw [good_right okU lr' lc' good]
    have t09 := t08.trans s9.t
    have hR9 := hR8.same s9
    have hA9 := hA8.t s9.t
    have hT9 := hT8.same s9
    clear t08 hT8 hA8 hR8 s9 t8 hIs hK7 hR7
    refine ⟨ns.map V.int, .inl (seqT t09 hS), ((ns.map V.int).length : Int), 31, rfl, 10, _, rfl, 7, _, rfl, ⟨by decide, by decide, by split <;> split <;> lia, by split <;> split <;> lia⟩, ?_⟩
    obtain ⟨top, htop⟩ : ∃ top : Int, top = (if (if (31 : Int) < ((ns.map V.int).length : Int) then (31 : Int) else ((ns.map V.int).length : Int)) > 10 then (if (31 : Int) < ((ns.map V.int).length : Int) then (31 : Int) else ((ns.map V.int).length : Int)) else 10) := ⟨_, rfl⟩
    have top31 : top ≤ 31 := by rw [htop]; split <;> split <;> lia
    rw [← htop]
    refine for_range (lo := 7) (n := (top - 7).toNat) (fun i σ H' => SameT H9 H' ∧ TabsOk (tabs a) H' ∧ ∃ (x6 x7 x8 x9 x10 : Option V), σ = [some (.ref p), some (.ref lm), some (.ref lu), some (.ref lr), some (.ref lc), some (.ref pt), x6, x7, x8, x9, x10]) ⟨SameT.refl, hT9, none, none, none, none, none, rfl⟩ ?_ ?_
    · rintro i σ G hi ⟨tG, hTG, x6, x7, x8, x9, x10, rfl⟩
      have hSG := seqT (t09.trans tG) hS
      have hRG := hR9.t tG
      have hAG := hA9.t tG
      refine ⟨p, ns, 7 + (i : Int), rfl, hSG, hlen, by (exact Int.natCast_nonneg _), by lia, ?_⟩
      refine ⟨fun σ' H' => H' = G ∧ ∃ c : Int, σ' = [some (.ref p), some (.ref lm), some (.ref lu), some (.ref lr), some (.ref lc), some (.ref pt), some (.int (7 + (i : Int))), some (.int c), x8, x9, x10], ?_, ?_⟩
      · refine ⟨cp, ifC (fun _ => ?_) fun _ => ⟨rfl, _, rfl⟩⟩
        exact ⟨_, _, rfl, by (exact Int.natCast_nonneg _), by lia, fun r _ => ⟨rfl, _, rfl⟩⟩
      rintro σ' H' ⟨rfl, c, rfl⟩
      refine ⟨cdB (by decide) (show Bt 40 (2 : Int) by unfold Bt; decide), ?_⟩
      refine ⟨lr, lc, lu, pt, Ls, rows, cols, us, xs, R, C, t, _, rfl, hRG, hAG, sm, fun po G1 Lo to sG1 hO ho => ?_⟩
      have hRG1 := hRG.same sG1
      refine ⟨lr, _, rfl, .inl (SqL.of hRG1.r), fun k1 hk1 => ?_⟩
      have u1 := Same.new (o := .lst (rows.map V.int)) hk1
      refine ⟨lc, _, rfl, .inl (SqL.of (u1 _ _ hRG1.c)), fun k2 hk2 => ?_⟩
      have u2 := Same.new (o := .lst (cols.map V.int)) hk2
      have u12 := u1.trans u2
      refine ⟨lu, _, rfl, .inl (SqL.of (u12 _ _ hRG1.u)), fun k3 hk3 => ?_⟩
      have u3 := Same.new (o := .lst xs) hk3
      have u13 := u12.trans u3
      have f1 := (u2.trans u3) _ _ (upd_same (H := G1) (a := k1) (o := .lst (rows.map V.int)))
      have f2 := u3 _ _ (upd_same (H := upd G1 k1 (.lst (rows.map V.int))) (a := k2) (o := .lst (cols.map V.int)))
      have f3 := upd_same (H := upd (upd G1 k1 (.lst (rows.map V.int))) k2 (.lst (cols.map V.int))) (a := k3) (o := .lst xs)
      have hRG4 := hRG1.same u13
      have hO4 := hO.t u13.t
      have sG4 := sG1.trans u13
      generalize upd (upd (upd G1 k1 (.lst (rows.map V.int))) k2 (.lst (cols.map V.int))) k3 (.lst xs) = G4 at f1 f2 f3 hRG4 hO4 sG4
      have hKG4 : Rc G4 k1 k2 k3 rows cols us xs R C := ⟨f1, f2, f3, hRG4.all, lr', lc', r6, c6, n24, hok⟩
      obtain ⟨its, hpo, il4, hits, hback⟩ := told_items hO4
      refine .inr ⟨⟨_, SqT.of hpo⟩, fun D hD => ?_⟩
      refine comp_tup (K := K) (a := po) (xs := its) (fun j ys H' => j ≤ its.length ∧ Same G4 H' ∧ H' D = some (.lst ys) ∧ Cps G4 D H' (its.take j) ys ∧ ∀ k ys' ys'', ys = ys' ++ V.ref k :: ys'' → V.ref k ∉ ys') ⟨Nat.zero_le _, Same.new hD, upd_same, .nil, fun k ys' ys'' e => by cases ys' <;> cases e⟩ (fun j ys H' h => SqT.of (h.2.1 _ _ hpo)) (fun j ys H' h => h.2.2.1) ?_ ?_
      · rintro j x ys H' P' hx ⟨_, v1, hD1, hcp, hds⟩ hP
        have jlt := (List.getElem?_eq_some_iff.mp hx).1
        have yl : (its.take j).length = ys.length := Paired.length hcp
        rw [List.length_take] at yl
        rw [take_snoc hx] at hP
        rcases hits x (List.mem_of_getElem? hx) with ⟨z, rfl⟩ | ⟨lx, wx, rfl, hlx⟩
        · refine ⟨trivial, _, _, _, false, rfl, rfl, .str _, rfl, hD1, by lia, hP _ _ ⟨jlt, v1.put hD, upd_same, Cps.snoc (.inl ⟨z, rfl, rfl⟩) (hcp.out fun b o n e => by rw [upd_ne n]; exact e), refs_snoc hds fun k e => by cases e⟩⟩
        · refine ⟨trivial, _, _, _, true, rfl, rfl, .lst (v1 _ _ hlx), rfl, ?_⟩
          refine ⟨lx, _, rfl, .inl (SqL.of (v1 _ _ hlx)), fun k hk => ?_⟩
          have v2 := Same.new (o := .lst (wx.map V.int)) hk
          have nk : k ≠ D := fun z => by rw [z, hD1] at hk; cases hk
          refine ⟨v2 _ _ hD1, by lia, hP _ _ ⟨jlt, (v1.trans v2).put hD, upd_same, Cps.snoc (.inr ⟨lx, k, wx, rfl, rfl, hlx, by rw [upd_ne nk]; exact upd_same, Same.free v1 hk, nk⟩) (hcp.out fun b o n e => by rw [upd_ne n]; exact v2 _ _ e), refs_snoc hds fun k' e => ?_⟩⟩
          cases e
          exact fun h => hcp.refs k h hk
      rintro ys G5 ⟨_, v1, hD1, hcp, hds⟩
      rw [List.take_of_length_le (Nat.le_refl _)] at hcp
      refine ⟨D, _, rfl, .inl ⟨SqL.of hD1, fun pk hpk => ?_⟩⟩
      have v2 := Same.new (o := .tup ys) hpk
      obtain ⟨Lk, hA6⟩ := hback (hcp.out fun b o _ e => v2 _ _ e) hds upd_same
      have v12 := v1.trans v2
      generalize upd G5 pk (.tup ys) = G6 at v2 hA6 v12
      refine ⟨by show 4 ≤ sizeLine; (decide), fun lh hlh => ?_⟩
      have v3 := Same.new (o := .lst [.ref k1, .ref k2, .ref k3, .ref pk]) hlh
      have hH := upd_same (H := G6) (a := lh) (o := .lst [.ref k1, .ref k2, .ref k3, .ref pk])
      have v13 := v12.trans v3
      have hA7 := hA6.t v3.t
      generalize upd G6 lh (.lst [.ref k1, .ref k2, .ref k3, .ref pk]) = G7 at hH v13 hA7
      have hK7 := hKG4.same v13
      have hR7 := hRG4.same v13
      have hO7 := hO4.t v13.t
      have hT7 := hTG.same (sG4.trans v13)
      have tG7 := tG.trans (sG4.trans v13).t
      refine .inl ⟨lh, _, _, _, rfl, rfl, SqL.of hH, atI_cons 0 rfl rfl, ?_⟩
      refine .inl ⟨lh, _, _, _, rfl, rfl, SqL.of hH, atI_cons 1 rfl rfl, ?_⟩
      refine .inl ⟨lh, _, _, _, rfl, rfl, SqL.of hH, atI_cons 2 rfl rfl, ?_⟩
      refine .inl ⟨lh, _, _, _, rfl, rfl, SqL.of hH, atI_cons 3 rfl rfl, ?_⟩
      refine ⟨k1, k2, k3, pk, Lk, rows, cols, us, xs, R, C, to, rfl, hK7, sr, sc, hT7, hA7, ho, fun G8 w8 hT8 => ?_⟩
      refine ⟨_, _, _, true, rfl, rfl, .bl _, rfl, ?_⟩
      refine ⟨lr, lc, lu, po, Lo, rows, cols, us, xs, R, C, to, rfl, hR7.t w8, hO7.t w8, ho, fun G9 s9 => ?_⟩
      have w9 := w8.trans s9.t
      refine ne_d (d := .bool (rightB us rows cols R C to)) (by rw [DV]) (by rw [DV]) (by cases rightB us rows cols R C to <;> rfl) ?_
      refine ⟨by show 4 ≤ sizeLine; (decide), fun e1 he1 => ?_⟩
      have s10 := Same.new (o := .lst [.ref lr, .ref lc, .ref lu, .ref po]) he1
      have w10 := w9.trans s10.t
      refine ne_d (dv_rt (s10 _ _ (w9.at hH)) (hK7.t w10) (hA7.t w10)) (dv_rt upd_same (hR7.t w10) (hO7.t w10)) (shaped_rt _ _ _ _) ?_
      exact ⟨tG7.trans w10, (hT8.same s9).same s10, _, _, _, _, _, rfl⟩
    · rintro σ G ⟨_, _, x6, x7, x8, x9, x10, rfl⟩
      exact q _
end
end My
set_option Elab.async false
set_option linter.all false
set_option maxRecDepth 100000
set_option maxHeartbeats 4000000
namespace My
open PySem L2
theorem us0 {α : Type} : ∀ {us : List α}, us.length = 0 → us = []
  | [], _ => rfl
theorem us1 {α : Type} : ∀ {us : List α}, us.length = 1 → ∃ a0, us = [a0]
  | [_], _ => ⟨_, rfl⟩
theorem us2 {α : Type} : ∀ {us : List α}, us.length = 2 → ∃ a0 a1, us = [a0, a1]
  | [_, _], _ => ⟨_, _, rfl⟩
theorem us3 {α : Type} : ∀ {us : List α}, us.length = 3 → ∃ a0 a1 a2, us = [a0, a1, a2]
  | [_, _, _], _ => ⟨_, _, _, rfl⟩
theorem us4 {α : Type} : ∀ {us : List α}, us.length = 4 → ∃ a0 a1 a2 a3, us = [a0, a1, a2, a3]
  | [_, _, _, _], _ => ⟨_, _, _, _, rfl⟩
theorem us5 {α : Type} : ∀ {us : List α}, us.length = 5 → ∃ a0 a1 a2 a3 a4, us = [a0, a1, a2, a3, a4]
  | [_, _, _, _, _], _ => ⟨_, _, _, _, _, rfl⟩
theorem us6 {α : Type} : ∀ {us : List α}, us.length = 6 → ∃ a0 a1 a2 a3 a4 a5, us = [a0, a1, a2, a3, a4, a5]
  | [_, _, _, _, _, _], _ => ⟨_, _, _, _, _, _, rfl⟩
theorem us7 {α : Type} : ∀ {us : List α}, us.length = 7 → ∃ a0 a1 a2 a3 a4 a5 a6, us = [a0, a1, a2, a3, a4, a5, a6]
  | [_, _, _, _, _, _, _], _ => ⟨_, _, _, _, _, _, _, rfl⟩
theorem txt_mk {K : PySem.W.Frag} {h : Heap} {mg : Str → Option Value} {f0 : Addr} {od0 an0 : Option Addr} {sl0 : Array (Option Value)} {oc0 kV0 dc0 pm0 cd0 ct0 : Value} {f1 : Addr} {od1 an1 : Option Addr} {sl1 : Array (Option Value)} {oc1 kV1 dc1 pm1 cd1 ct1 : Value} {f2 : Addr} {od2 an2 : Option Addr} {sl2 : Array (Option Value)} {oc2 kV2 dc2 pm2 cd2 ct2 : Value} {f3 : Addr} {od3 an3 : Option Addr} {sl3 : Array (Option Value)} {oc3 kV3 dc3 pm3 cd3 ct3 : Value} {f4 : Addr} {od4 an4 : Option Addr} {sl4 : Array (Option Value)} {oc4 kV4 dc4 pm4 cd4 ct4 : Value} {f5 : Addr} {od5 an5 : Option Addr} {sl5 : Array (Option Value)} {oc5 kV5 dc5 pm5 cd5 ct5 : Value} {f6 : Addr} {od6 an6 : Option Addr} {sl6 : Array (Option Value)} {oc6 kV6 dc6 pm6 cd6 ct6 : Value} {f7 : Addr} {od7 an7 : Option Addr} {sl7 : Array (Option Value)} {oc7 kV7 dc7 pm7 cd7 ct7 : Value} {f8 : Addr} {od8 an8 : Option Addr} {sl8 : Array (Option Value)} {oc8 kV8 dc8 pm8 cd8 ct8 : Value} {f9 : Addr} {od9 an9 : Option Addr} {sl9 : Array (Option Value)} {oc9 kV9 dc9 pm9 cd9 ct9 : Value} {f10 : Addr} {od10 an10 : Option Addr} {sl10 : Array (Option Value)} {oc10 kV10 dc10 pm10 cd10 ct10 : Value} {f11 : Addr} {od11 an11 : Option Addr} {sl11 : Array (Option Value)} {oc11 kV11 dc11 pm11 cd11 ct11 : Value} {f12 : Addr} {od12 an12 : Option Addr} {sl12 : Array (Option Value)} {oc12 kV12 dc12 pm12 cd12 ct12 : Value} {f13 : Addr} {od13 an13 : Option Addr} {sl13 : Array (Option Value)} {oc13 kV13 dc13 pm13 cd13 ct13 : Value} {f14 : Addr} {od14 an14 : Option Addr} {sl14 : Array (Option Value)} {oc14 kV14 dc14 pm14 cd14 ct14 : Value} {f15 : Addr} {od15 an15 : Option Addr} {sl15 : Array (Option Value)} {oc15 kV15 dc15 pm15 cd15 ct15 : Value} {f16 : Addr} {od16 an16 : Option Addr} {sl16 : Array (Option Value)} {oc16 kV16 dc16 pm16 cd16 ct16 : Value} {f17 : Addr} {od17 an17 : Option Addr} {sl17 : Array (Option Value)} {oc17 kV17 dc17 pm17 cd17 ct17 : Value} {f18 : Addr} {od18 an18 : Option Addr} {sl18 : Array (Option Value)} {oc18 kV18 dc18 pm18 cd18 ct18 : Value} {f19 : Addr} {od19 an19 : Option Addr} {sl19 : Array (Option Value)} {oc19 kV19 dc19 pm19 cd19 ct19 : Value} {f20 : Addr} {od20 an20 : Option Addr} {sl20 : Array (Option Value)} {oc20 kV20 dc20 pm20 cd20 ct20 : Value} {f21 : Addr} {od21 an21 : Option Addr} {sl21 : Array (Option Value)} {oc21 kV21 dc21 pm21 cd21 ct21 : Value} {f22 : Addr} {od22 an22 : Option Addr} {sl22 : Array (Option Value)} {oc22 kV22 dc22 pm22 cd22 ct22 : Value} {f23 : Addr} {od23 an23 : Option Addr} {sl23 : Array (Option Value)} {oc23 kV23 dc23 pm23 cd23 ct23 : Value} {f24 : Addr} {od24 an24 : Option Addr} {sl24 : Array (Option Value)} {oc24 kV24 dc24 pm24 cd24 ct24 : Value} {f25 : Addr} {od25 an25 : Option Addr} {sl25 : Array (Option Value)} {oc25 kV25 dc25 pm25 cd25 ct25 : Value} {f26 : Addr} {od26 an26 : Option Addr} {sl26 : Array (Option Value)} {oc26 kV26 dc26 pm26 cd26 ct26 : Value} {f27 : Addr} {od27 an27 : Option Addr} {sl27 : Array (Option Value)} {oc27 kV27 dc27 pm27 cd27 ct27 : Value} {f28 : Addr} {od28 an28 : Option Addr} {sl28 : Array (Option Value)} {oc28 kV28 dc28 pm28 cd28 ct28 : Value} {f29 : Addr} {od29 an29 : Option Addr} {sl29 : Array (Option Value)} {oc29 kV29 dc29 pm29 cd29 ct29 : Value} {f30 : Addr} {od30 an30 : Option Addr} {sl30 : Array (Option Value)} {oc30 kV30 dc30 pm30 cd30 ct30 : Value} {f31 : Addr} {od31 an31 : Option Addr} {sl31 : Array (Option Value)} {oc31 kV31 dc31 pm31 cd31 ct31 : Value} {f32 : Addr} {od32 an32 : Option Addr} {sl32 : Array (Option Value)} {oc32 kV32 dc32 pm32 cd32 ct32 : Value} {f33 : Addr} {od33 an33 : Option Addr} {sl33 : Array (Option Value)} {oc33 kV33 dc33 pm33 cd33 ct33 : Value} {u0 : Value} {u1 : Value} {u2 : Value} {u3 : Value} {c_SpeakError : Addr} {c_NoBounds : Addr} {lc_need_bounds lp_need_bounds : Addr} {lo_need_bounds : Value} {lod_need_bounds : Option Addr} {lvs_need_bounds : Array Value} {lsl_need_bounds : Array (Option Value)} (X : K.In h) (G : h.Ns mainGlobals mg)
    (a0 : PySem.W.nsIn K mainGlobals "is_whole" = some (some (.ref f0))) (l0 : K.lookup f0 = some ⟨oc0, od0, .func (PySem.W.fnOf "is_whole" "is_whole" (defArgs s_is_whole) (defBody s_is_whole) (defScope s_is_whole) .none kV0 dc0 pm0 an0 cd0 ct0), sl0⟩) (c0 : PySem.W.codeIn K cd0 "is_whole" = true) (k0 : PySem.W.keepIn K (.ref f0) = true)
    (a1 : PySem.W.nsIn K mainGlobals "is_list_of" = some (some (.ref f1))) (l1 : K.lookup f1 = some ⟨oc1, od1, .func (PySem.W.fnOf "is_list_of" "is_list_of" (defArgs s_is_list_of) (defBody s_is_list_of) (defScope s_is_list_of) .none kV1 dc1 pm1 an1 cd1 ct1), sl1⟩) (c1 : PySem.W.codeIn K cd1 "is_list_of" = true) (k1 : PySem.W.keepIn K (.ref f1) = true)
    (a2 : PySem.W.nsIn K mainGlobals "is_wished_sum" = some (some (.ref f2))) (l2 : K.lookup f2 = some ⟨oc2, od2, .func (PySem.W.fnOf "is_wished_sum" "is_wished_sum" (defArgs s_is_wished_sum) (defBody s_is_wished_sum) (defScope s_is_wished_sum) .none kV2 dc2 pm2 an2 cd2 ct2), sl2⟩) (c2 : PySem.W.codeIn K cd2 "is_wished_sum" = true) (k2 : PySem.W.keepIn K (.ref f2) = true)
    (a3 : PySem.W.nsIn K mainGlobals "is_bounded" = some (some (.ref f3))) (l3 : K.lookup f3 = some ⟨oc3, od3, .func (PySem.W.fnOf "is_bounded" "is_bounded" (defArgs s_is_bounded) (defBody s_is_bounded) (defScope s_is_bounded) .none kV3 dc3 pm3 an3 cd3 ct3), sl3⟩) (c3 : PySem.W.codeIn K cd3 "is_bounded" = true) (k3 : PySem.W.keepIn K (.ref f3) = true)
    (a4 : PySem.W.nsIn K mainGlobals "need_bounds" = some (some (.ref f4))) (l4 : K.lookup f4 = some ⟨oc4, od4, .func (PySem.W.fnOf "need_bounds" "need_bounds" (defArgs s_need_bounds) (defBody s_need_bounds) (defScope s_need_bounds) .none kV4 dc4 pm4 an4 cd4 ct4), sl4⟩) (c4 : PySem.W.codeIn K cd4 "need_bounds" = true) (k4 : PySem.W.keepIn K (.ref f4) = true)
    (a5 : PySem.W.nsIn K mainGlobals "sums_of" = some (some (.ref f5))) (l5 : K.lookup f5 = some ⟨oc5, od5, .func (PySem.W.fnOf "sums_of" "sums_of" (defArgs s_sums_of) (defBody s_sums_of) (defScope s_sums_of) .none kV5 dc5 pm5 an5 cd5 ct5), sl5⟩) (c5 : PySem.W.codeIn K cd5 "sums_of" = true) (k5 : PySem.W.keepIn K (.ref f5) = true)
    (a6 : PySem.W.nsIn K mainGlobals "led" = some (some (.ref f6))) (l6 : K.lookup f6 = some ⟨oc6, od6, .func (PySem.W.fnOf "led" "led" (defArgs s_led) (defBody s_led) (defScope s_led) .none kV6 dc6 pm6 an6 cd6 ct6), sl6⟩) (c6 : PySem.W.codeIn K cd6 "led" = true) (k6 : PySem.W.keepIn K (.ref f6) = true)
    (a7 : PySem.W.nsIn K mainGlobals "spare_of" = some (some (.ref f7))) (l7 : K.lookup f7 = some ⟨oc7, od7, .func (PySem.W.fnOf "spare_of" "spare_of" (defArgs s_spare_of) (defBody s_spare_of) (defScope s_spare_of) .none kV7 dc7 pm7 an7 cd7 ct7), sl7⟩) (c7 : PySem.W.codeIn K cd7 "spare_of" = true) (k7 : PySem.W.keepIn K (.ref f7) = true)
    (a8 : PySem.W.nsIn K mainGlobals "reached_from" = some (some (.ref f8))) (l8 : K.lookup f8 = some ⟨oc8, od8, .func (PySem.W.fnOf "reached_from" "reached_from" (defArgs s_reached_from) (defBody s_reached_from) (defScope s_reached_from) .none kV8 dc8 pm8 an8 cd8 ct8), sl8⟩) (c8 : PySem.W.codeIn K cd8 "reached_from" = true) (k8 : PySem.W.keepIn K (.ref f8) = true)
    (a9 : PySem.W.nsIn K mainGlobals "other_end" = some (some (.ref f9))) (l9 : K.lookup f9 = some ⟨oc9, od9, .func (PySem.W.fnOf "other_end" "other_end" (defArgs s_other_end) (defBody s_other_end) (defScope s_other_end) .none kV9 dc9 pm9 an9 cd9 ct9), sl9⟩) (c9 : PySem.W.codeIn K cd9 "other_end" = true) (k9 : PySem.W.keepIn K (.ref f9) = true)
    (a10 : PySem.W.nsIn K mainGlobals "room" = some (some (.ref f10))) (l10 : K.lookup f10 = some ⟨oc10, od10, .func (PySem.W.fnOf "room" "room" (defArgs s_room) (defBody s_room) (defScope s_room) .none kV10 dc10 pm10 an10 cd10 ct10), sl10⟩) (c10 : PySem.W.codeIn K cd10 "room" = true) (k10 : PySem.W.keepIn K (.ref f10) = true)
    (a11 : PySem.W.nsIn K mainGlobals "path_to" = some (some (.ref f11))) (l11 : K.lookup f11 = some ⟨oc11, od11, .func (PySem.W.fnOf "path_to" "path_to" (defArgs s_path_to) (defBody s_path_to) (defScope s_path_to) .none kV11 dc11 pm11 an11 cd11 ct11), sl11⟩) (c11 : PySem.W.codeIn K cd11 "path_to" = true) (k11 : PySem.W.keepIn K (.ref f11) = true)
    (a12 : PySem.W.nsIn K mainGlobals "given_along" = some (some (.ref f12))) (l12 : K.lookup f12 = some ⟨oc12, od12, .func (PySem.W.fnOf "given_along" "given_along" (defArgs s_given_along) (defBody s_given_along) (defScope s_given_along) .none kV12 dc12 pm12 an12 cd12 ct12), sl12⟩) (c12 : PySem.W.codeIn K cd12 "given_along" = true) (k12 : PySem.W.keepIn K (.ref f12) = true)
    (a13 : PySem.W.nsIn K mainGlobals "reached_on" = some (some (.ref f13))) (l13 : K.lookup f13 = some ⟨oc13, od13, .func (PySem.W.fnOf "reached_on" "reached_on" (defArgs s_reached_on) (defBody s_reached_on) (defScope s_reached_on) .none kV13 dc13 pm13 an13 cd13 ct13), sl13⟩) (c13 : PySem.W.codeIn K cd13 "reached_on" = true) (k13 : PySem.W.keepIn K (.ref f13) = true)
    (a14 : PySem.W.nsIn K mainGlobals "is_led" = some (some (.ref f14))) (l14 : K.lookup f14 = some ⟨oc14, od14, .func (PySem.W.fnOf "is_led" "is_led" (defArgs s_is_led) (defBody s_is_led) (defScope s_is_led) .none kV14 dc14 pm14 an14 cd14 ct14), sl14⟩) (c14 : PySem.W.codeIn K cd14 "is_led" = true) (k14 : PySem.W.keepIn K (.ref f14) = true)
    (a15 : PySem.W.nsIn K mainGlobals "are_led" = some (some (.ref f15))) (l15 : K.lookup f15 = some ⟨oc15, od15, .func (PySem.W.fnOf "are_led" "are_led" (defArgs s_are_led) (defBody s_are_led) (defScope s_are_led) .none kV15 dc15 pm15 an15 cd15 ct15), sl15⟩) (c15 : PySem.W.codeIn K cd15 "are_led" = true) (k15 : PySem.W.keepIn K (.ref f15) = true)
    (a16 : PySem.W.nsIn K mainGlobals "shows_none" = some (some (.ref f16))) (l16 : K.lookup f16 = some ⟨oc16, od16, .func (PySem.W.fnOf "shows_none" "shows_none" (defArgs s_shows_none) (defBody s_shows_none) (defScope s_shows_none) .none kV16 dc16 pm16 an16 cd16 ct16), sl16⟩) (c16 : PySem.W.codeIn K cd16 "shows_none" = true) (k16 : PySem.W.keepIn K (.ref f16) = true)
    (a17 : PySem.W.nsIn K mainGlobals "greatest_more" = some (some (.ref f17))) (l17 : K.lookup f17 = some ⟨oc17, od17, .func (PySem.W.fnOf "greatest_more" "greatest_more" (defArgs s_greatest_more) (defBody s_greatest_more) (defScope s_greatest_more) .none kV17 dc17 pm17 an17 cd17 ct17), sl17⟩) (c17 : PySem.W.codeIn K cd17 "greatest_more" = true) (k17 : PySem.W.keepIn K (.ref f17) = true)
    (a18 : PySem.W.nsIn K mainGlobals "is_rising" = some (some (.ref f18))) (l18 : K.lookup f18 = some ⟨oc18, od18, .func (PySem.W.fnOf "is_rising" "is_rising" (defArgs s_is_rising) (defBody s_is_rising) (defScope s_is_rising) .none kV18 dc18 pm18 an18 cd18 ct18), sl18⟩) (c18 : PySem.W.codeIn K cd18 "is_rising" = true) (k18 : PySem.W.keepIn K (.ref f18) = true)
    (a19 : PySem.W.nsIn K mainGlobals "_law_cell" = some (some (.ref f19))) (l19 : K.lookup f19 = some ⟨oc19, od19, .func (PySem.W.fnOf "_law_cell" "_law_cell" (defArgs s_L_cell) (defBody s_L_cell) (defScope s_L_cell) .none kV19 dc19 pm19 an19 cd19 ct19), sl19⟩) (c19 : PySem.W.codeIn K cd19 "_law_cell" = true) (k19 : PySem.W.keepIn K (.ref f19) = true)
    (a20 : PySem.W.nsIn K mainGlobals "_law_mix" = some (some (.ref f20))) (l20 : K.lookup f20 = some ⟨oc20, od20, .func (PySem.W.fnOf "_law_mix" "_law_mix" (defArgs s_L_mix) (defBody s_L_mix) (defScope s_L_mix) .none kV20 dc20 pm20 an20 cd20 ct20), sl20⟩) (c20 : PySem.W.codeIn K cd20 "_law_mix" = true) (k20 : PySem.W.keepIn K (.ref f20) = true)
    (a21 : PySem.W.nsIn K mainGlobals "_law_row" = some (some (.ref f21))) (l21 : K.lookup f21 = some ⟨oc21, od21, .func (PySem.W.fnOf "_law_row" "_law_row" (defArgs s_L_row) (defBody s_L_row) (defScope s_L_row) .none kV21 dc21 pm21 an21 cd21 ct21), sl21⟩) (c21 : PySem.W.codeIn K cd21 "_law_row" = true) (k21 : PySem.W.keepIn K (.ref f21) = true)
    (a22 : PySem.W.nsIn K mainGlobals "_law_whole" = some (some (.ref f22))) (l22 : K.lookup f22 = some ⟨oc22, od22, .func (PySem.W.fnOf "_law_whole" "_law_whole" (defArgs s_L_whole) (defBody s_L_whole) (defScope s_L_whole) .none kV22 dc22 pm22 an22 cd22 ct22), sl22⟩) (c22 : PySem.W.codeIn K cd22 "_law_whole" = true) (k22 : PySem.W.keepIn K (.ref f22) = true)
    (a23 : PySem.W.nsIn K mainGlobals "_law_units" = some (some (.ref f23))) (l23 : K.lookup f23 = some ⟨oc23, od23, .func (PySem.W.fnOf "_law_units" "_law_units" (defArgs s_L_units) (defBody s_L_units) (defScope s_L_units) .none kV23 dc23 pm23 an23 cd23 ct23), sl23⟩) (c23 : PySem.W.codeIn K cd23 "_law_units" = true) (k23 : PySem.W.keepIn K (.ref f23) = true)
    (a24 : PySem.W.nsIn K mainGlobals "_law_sums" = some (some (.ref f24))) (l24 : K.lookup f24 = some ⟨oc24, od24, .func (PySem.W.fnOf "_law_sums" "_law_sums" (defArgs s_L_sums) (defBody s_L_sums) (defScope s_L_sums) .none kV24 dc24 pm24 an24 cd24 ct24), sl24⟩) (c24 : PySem.W.codeIn K cd24 "_law_sums" = true) (k24 : PySem.W.keepIn K (.ref f24) = true)
    (a25 : PySem.W.nsIn K mainGlobals "_law_wished" = some (some (.ref f25))) (l25 : K.lookup f25 = some ⟨oc25, od25, .func (PySem.W.fnOf "_law_wished" "_law_wished" (defArgs s_L_wished) (defBody s_L_wished) (defScope s_L_wished) .none kV25 dc25 pm25 an25 cd25 ct25), sl25⟩) (c25 : PySem.W.codeIn K cd25 "_law_wished" = true) (k25 : PySem.W.keepIn K (.ref f25) = true)
    (a26 : PySem.W.nsIn K mainGlobals "_law_weights" = some (some (.ref f26))) (l26 : K.lookup f26 = some ⟨oc26, od26, .func (PySem.W.fnOf "_law_weights" "_law_weights" (defArgs s_L_weights) (defBody s_L_weights) (defScope s_L_weights) .none kV26 dc26 pm26 an26 cd26 ct26), sl26⟩) (c26 : PySem.W.codeIn K cd26 "_law_weights" = true) (k26 : PySem.W.keepIn K (.ref f26) = true)
    (a27 : PySem.W.nsIn K mainGlobals "_law_numbers" = some (some (.ref f27))) (l27 : K.lookup f27 = some ⟨oc27, od27, .func (PySem.W.fnOf "_law_numbers" "_law_numbers" (defArgs s_L_numbers) (defBody s_L_numbers) (defScope s_L_numbers) .none kV27 dc27 pm27 an27 cd27 ct27), sl27⟩) (c27 : PySem.W.codeIn K cd27 "_law_numbers" = true) (k27 : PySem.W.keepIn K (.ref f27) = true)
    (a28 : PySem.W.nsIn K mainGlobals "_law_cut" = some (some (.ref f28))) (l28 : K.lookup f28 = some ⟨oc28, od28, .func (PySem.W.fnOf "_law_cut" "_law_cut" (defArgs s_L_cut) (defBody s_L_cut) (defScope s_L_cut) .none kV28 dc28 pm28 an28 cd28 ct28), sl28⟩) (c28 : PySem.W.codeIn K cd28 "_law_cut" = true) (k28 : PySem.W.keepIn K (.ref f28) = true)
    (a29 : PySem.W.nsIn K mainGlobals "_law_right" = some (some (.ref f29))) (l29 : K.lookup f29 = some ⟨oc29, od29, .func (PySem.W.fnOf "_law_right" "_law_right" (defArgs s_L_right) (defBody s_L_right) (defScope s_L_right) .none kV29 dc29 pm29 an29 cd29 ct29), sl29⟩) (c29 : PySem.W.codeIn K cd29 "_law_right" = true) (k29 : PySem.W.keepIn K (.ref f29) = true)
    (a30 : PySem.W.nsIn K mainGlobals "_law_list" = some (some (.ref f30))) (l30 : K.lookup f30 = some ⟨oc30, od30, .func (PySem.W.fnOf "_law_list" "_law_list" (defArgs s_L_list) (defBody s_L_list) (defScope s_L_list) .none kV30 dc30 pm30 an30 cd30 ct30), sl30⟩) (c30 : PySem.W.codeIn K cd30 "_law_list" = true) (k30 : PySem.W.keepIn K (.ref f30) = true)
    (a31 : PySem.W.nsIn K mainGlobals "_law_drawn" = some (some (.ref f31))) (l31 : K.lookup f31 = some ⟨oc31, od31, .func (PySem.W.fnOf "_law_drawn" "_law_drawn" (defArgs s_L_drawn) (defBody s_L_drawn) (defScope s_L_drawn) .none kV31 dc31 pm31 an31 cd31 ct31), sl31⟩) (c31 : PySem.W.codeIn K cd31 "_law_drawn" = true) (k31 : PySem.W.keepIn K (.ref f31) = true)
    (a32 : PySem.W.nsIn K mainGlobals "_law_spoilt" = some (some (.ref f32))) (l32 : K.lookup f32 = some ⟨oc32, od32, .func (PySem.W.fnOf "_law_spoilt" "_law_spoilt" (defArgs s_L_spoilt) (defBody s_L_spoilt) (defScope s_L_spoilt) .none kV32 dc32 pm32 an32 cd32 ct32), sl32⟩) (c32 : PySem.W.codeIn K cd32 "_law_spoilt" = true) (k32 : PySem.W.keepIn K (.ref f32) = true)
    (a33 : PySem.W.nsIn K mainGlobals "law" = some (some (.ref f33))) (l33 : K.lookup f33 = some ⟨oc33, od33, .func (PySem.W.fnOf "law" "law" (defArgs s_law) (defBody s_law) (defScope s_law) .none kV33 dc33 pm33 an33 cd33 ct33), sl33⟩) (c33 : PySem.W.codeIn K cd33 "law" = true) (k33 : PySem.W.keepIn K (.ref f33) = true)
    (b0 : PySem.W.nsIn K mainGlobals "MOST_SUMS" = some (some u0))
    (b1 : PySem.W.nsIn K mainGlobals "MOST_SUM" = some (some u1))
    (b2 : PySem.W.nsIn K mainGlobals "MOST_UNITS" = some (some u2))
    (b3 : PySem.W.nsIn K mainGlobals "MOST_WEIGHT" = some (some u3))
    (ca_SpeakError : PySem.W.nsIn K mainGlobals "SpeakError" = some (some (.ref c_SpeakError))) (cb_SpeakError : PySem.W.keepIn K (.ref c_SpeakError) = true) (cc_SpeakError : xcIn K c_SpeakError = true)
    (cx_SpeakError : xIn K c_SpeakError none = true)
    (ca_NoBounds : PySem.W.nsIn K mainGlobals "NoBounds" = some (some (.ref c_NoBounds))) (cb_NoBounds : PySem.W.keepIn K (.ref c_NoBounds) = true) (cc_NoBounds : xcIn K c_NoBounds = true)
    (cx_NoBounds : xIn K c_NoBounds none = true)
    (lca_need_bounds : cd4 = .ref lc_need_bounds) (lct_need_bounds : K.lookup lc_need_bounds = some ⟨lo_need_bounds, lod_need_bounds, .fields lvs_need_bounds, lsl_need_bounds⟩) (lcq_need_bounds : lvs_need_bounds[11]? = some (.ref lp_need_bounds)) (lch_need_bounds : PySem.W.codeHdIn K lc_need_bounds lp_need_bounds = true)
    (ltnd : ([lp_need_bounds] : List Addr).Nodup)
    (z0 : PySem.W.nsIn K mainGlobals "all" = some none)
    (z1 : PySem.W.nsIn K mainGlobals "bool" = some none)
    (z2 : PySem.W.nsIn K mainGlobals "enumerate" = some none)
    (z3 : PySem.W.nsIn K mainGlobals "int" = some none)
    (z4 : PySem.W.nsIn K mainGlobals "isinstance" = some none)
    (z5 : PySem.W.nsIn K mainGlobals "len" = some none)
    (z6 : PySem.W.nsIn K mainGlobals "list" = some none)
    (z7 : PySem.W.nsIn K mainGlobals "max" = some none)
    (z8 : PySem.W.nsIn K mainGlobals "min" = some none)
    (z9 : PySem.W.nsIn K mainGlobals "range" = some none)
    (z10 : PySem.W.nsIn K mainGlobals "reversed" = some none)
    (z11 : PySem.W.nsIn K mainGlobals "set" = some none)
    (z12 : PySem.W.nsIn K mainGlobals "sorted" = some none)
    (z13 : PySem.W.nsIn K mainGlobals "sum" = some none)
    (z14 : PySem.W.nsIn K mainGlobals "tuple" = some none)
    (z15 : PySem.W.nsIn K mainGlobals "zip" = some none) (r0 : RelV (.int 6) u0) (r1 : RelV (.int 24000000) u1) (r2 : RelV (.int 24) u2) (r3 : RelV (.int 1000000) u3) : ∃ a : Ad, Txt K mg a ∧ (tabs a).map (·.1) = [lp_need_bounds] := by
  refine ⟨{ f_is_whole := f0, d_is_whole := PySem.W.fnOf "is_whole" "is_whole" (defArgs s_is_whole) (defBody s_is_whole) (defScope s_is_whole) .none kV0 dc0 pm0 an0 cd0 ct0, f_is_list_of := f1, d_is_list_of := PySem.W.fnOf "is_list_of" "is_list_of" (defArgs s_is_list_of) (defBody s_is_list_of) (defScope s_is_list_of) .none kV1 dc1 pm1 an1 cd1 ct1, f_is_wished_sum := f2, d_is_wished_sum := PySem.W.fnOf "is_wished_sum" "is_wished_sum" (defArgs s_is_wished_sum) (defBody s_is_wished_sum) (defScope s_is_wished_sum) .none kV2 dc2 pm2 an2 cd2 ct2, f_is_bounded := f3, d_is_bounded := PySem.W.fnOf "is_bounded" "is_bounded" (defArgs s_is_bounded) (defBody s_is_bounded) (defScope s_is_bounded) .none kV3 dc3 pm3 an3 cd3 ct3, f_need_bounds := f4, d_need_bounds := PySem.W.fnOf "need_bounds" "need_bounds" (defArgs s_need_bounds) (defBody s_need_bounds) (defScope s_need_bounds) .none kV4 dc4 pm4 an4 cd4 ct4, f_sums_of := f5, d_sums_of := PySem.W.fnOf "sums_of" "sums_of" (defArgs s_sums_of) (defBody s_sums_of) (defScope s_sums_of) .none kV5 dc5 pm5 an5 cd5 ct5, f_led := f6, d_led := PySem.W.fnOf "led" "led" (defArgs s_led) (defBody s_led) (defScope s_led) .none kV6 dc6 pm6 an6 cd6 ct6, f_spare_of := f7, d_spare_of := PySem.W.fnOf "spare_of" "spare_of" (defArgs s_spare_of) (defBody s_spare_of) (defScope s_spare_of) .none kV7 dc7 pm7 an7 cd7 ct7, f_reached_from := f8, d_reached_from := PySem.W.fnOf "reached_from" "reached_from" (defArgs s_reached_from) (defBody s_reached_from) (defScope s_reached_from) .none kV8 dc8 pm8 an8 cd8 ct8, f_other_end := f9, d_other_end := PySem.W.fnOf "other_end" "other_end" (defArgs s_other_end) (defBody s_other_end) (defScope s_other_end) .none kV9 dc9 pm9 an9 cd9 ct9, f_room := f10, d_room := PySem.W.fnOf "room" "room" (defArgs s_room) (defBody s_room) (defScope s_room) .none kV10 dc10 pm10 an10 cd10 ct10, f_path_to := f11, d_path_to := PySem.W.fnOf "path_to" "path_to" (defArgs s_path_to) (defBody s_path_to) (defScope s_path_to) .none kV11 dc11 pm11 an11 cd11 ct11, f_given_along := f12, d_given_along := PySem.W.fnOf "given_along" "given_along" (defArgs s_given_along) (defBody s_given_along) (defScope s_given_along) .none kV12 dc12 pm12 an12 cd12 ct12, f_reached_on := f13, d_reached_on := PySem.W.fnOf "reached_on" "reached_on" (defArgs s_reached_on) (defBody s_reached_on) (defScope s_reached_on) .none kV13 dc13 pm13 an13 cd13 ct13, f_is_led := f14, d_is_led := PySem.W.fnOf "is_led" "is_led" (defArgs s_is_led) (defBody s_is_led) (defScope s_is_led) .none kV14 dc14 pm14 an14 cd14 ct14, f_are_led := f15, d_are_led := PySem.W.fnOf "are_led" "are_led" (defArgs s_are_led) (defBody s_are_led) (defScope s_are_led) .none kV15 dc15 pm15 an15 cd15 ct15, f_shows_none := f16, d_shows_none := PySem.W.fnOf "shows_none" "shows_none" (defArgs s_shows_none) (defBody s_shows_none) (defScope s_shows_none) .none kV16 dc16 pm16 an16 cd16 ct16, f_greatest_more := f17, d_greatest_more := PySem.W.fnOf "greatest_more" "greatest_more" (defArgs s_greatest_more) (defBody s_greatest_more) (defScope s_greatest_more) .none kV17 dc17 pm17 an17 cd17 ct17, f_is_rising := f18, d_is_rising := PySem.W.fnOf "is_rising" "is_rising" (defArgs s_is_rising) (defBody s_is_rising) (defScope s_is_rising) .none kV18 dc18 pm18 an18 cd18 ct18, f_L_cell := f19, d_L_cell := PySem.W.fnOf "_law_cell" "_law_cell" (defArgs s_L_cell) (defBody s_L_cell) (defScope s_L_cell) .none kV19 dc19 pm19 an19 cd19 ct19, f_L_mix := f20, d_L_mix := PySem.W.fnOf "_law_mix" "_law_mix" (defArgs s_L_mix) (defBody s_L_mix) (defScope s_L_mix) .none kV20 dc20 pm20 an20 cd20 ct20, f_L_row := f21, d_L_row := PySem.W.fnOf "_law_row" "_law_row" (defArgs s_L_row) (defBody s_L_row) (defScope s_L_row) .none kV21 dc21 pm21 an21 cd21 ct21, f_L_whole := f22, d_L_whole := PySem.W.fnOf "_law_whole" "_law_whole" (defArgs s_L_whole) (defBody s_L_whole) (defScope s_L_whole) .none kV22 dc22 pm22 an22 cd22 ct22, f_L_units := f23, d_L_units := PySem.W.fnOf "_law_units" "_law_units" (defArgs s_L_units) (defBody s_L_units) (defScope s_L_units) .none kV23 dc23 pm23 an23 cd23 ct23, f_L_sums := f24, d_L_sums := PySem.W.fnOf "_law_sums" "_law_sums" (defArgs s_L_sums) (defBody s_L_sums) (defScope s_L_sums) .none kV24 dc24 pm24 an24 cd24 ct24, f_L_wished := f25, d_L_wished := PySem.W.fnOf "_law_wished" "_law_wished" (defArgs s_L_wished) (defBody s_L_wished) (defScope s_L_wished) .none kV25 dc25 pm25 an25 cd25 ct25, f_L_weights := f26, d_L_weights := PySem.W.fnOf "_law_weights" "_law_weights" (defArgs s_L_weights) (defBody s_L_weights) (defScope s_L_weights) .none kV26 dc26 pm26 an26 cd26 ct26, f_L_numbers := f27, d_L_numbers := PySem.W.fnOf "_law_numbers" "_law_numbers" (defArgs s_L_numbers) (defBody s_L_numbers) (defScope s_L_numbers) .none kV27 dc27 pm27 an27 cd27 ct27, f_L_cut := f28, d_L_cut := PySem.W.fnOf "_law_cut" "_law_cut" (defArgs s_L_cut) (defBody s_L_cut) (defScope s_L_cut) .none kV28 dc28 pm28 an28 cd28 ct28, f_L_right := f29, d_L_right := PySem.W.fnOf "_law_right" "_law_right" (defArgs s_L_right) (defBody s_L_right) (defScope s_L_right) .none kV29 dc29 pm29 an29 cd29 ct29, f_L_list := f30, d_L_list := PySem.W.fnOf "_law_list" "_law_list" (defArgs s_L_list) (defBody s_L_list) (defScope s_L_list) .none kV30 dc30 pm30 an30 cd30 ct30, f_L_drawn := f31, d_L_drawn := PySem.W.fnOf "_law_drawn" "_law_drawn" (defArgs s_L_drawn) (defBody s_L_drawn) (defScope s_L_drawn) .none kV31 dc31 pm31 an31 cd31 ct31, f_L_spoilt := f32, d_L_spoilt := PySem.W.fnOf "_law_spoilt" "_law_spoilt" (defArgs s_L_spoilt) (defBody s_L_spoilt) (defScope s_L_spoilt) .none kV32 dc32 pm32 an32 cd32 ct32, f_law := f33, d_law := PySem.W.fnOf "law" "law" (defArgs s_law) (defBody s_law) (defScope s_law) .none kV33 dc33 pm33 an33 cd33 ct33, c_SpeakError := c_SpeakError, c_NoBounds := c_NoBounds, lc_need_bounds := lc_need_bounds, lp_need_bounds := lp_need_bounds }, ?_, rfl⟩
  exact {
    lcd_need_bounds := lca_need_bounds
    lch_need_bounds := lch_need_bounds
    tnd := ltnd
    F_is_whole := fun_mk (st := s_is_whole) l0 c0 k0
    B_is_whole := (fun_mk (st := s_is_whole) l0 c0 k0).binds (ps := ["thing", "low", "high"]) fun _ _ _ _ _ _ us hl => (by obtain ⟨_, _, _, rfl⟩ := us3 hl; rfl)
    m_is_whole := PySem.W.mg_of X G a0
    F_is_list_of := fun_mk (st := s_is_list_of) l1 c1 k1
    B_is_list_of := (fun_mk (st := s_is_list_of) l1 c1 k1).binds (ps := ["thing", "most", "is_one"]) fun _ _ _ _ _ _ us hl => (by obtain ⟨_, _, _, rfl⟩ := us3 hl; rfl)
    m_is_list_of := PySem.W.mg_of X G a1
    F_is_wished_sum := fun_mk (st := s_is_wished_sum) l2 c2 k2
    B_is_wished_sum := (fun_mk (st := s_is_wished_sum) l2 c2 k2).binds (ps := ["thing"]) fun _ _ _ _ _ _ us hl => (by obtain ⟨_, rfl⟩ := us1 hl; rfl)
    m_is_wished_sum := PySem.W.mg_of X G a2
    F_is_bounded := fun_mk (st := s_is_bounded) l3 c3 k3
    B_is_bounded := (fun_mk (st := s_is_bounded) l3 c3 k3).binds (ps := ["thing", "rows", "columns"]) fun _ _ _ _ _ _ us hl => (by obtain ⟨_, _, _, rfl⟩ := us3 hl; rfl)
    m_is_bounded := PySem.W.mg_of X G a3
    F_need_bounds := fun_mk (st := s_need_bounds) l4 c4 k4
    B_need_bounds := (fun_mk (st := s_need_bounds) l4 c4 k4).binds (ps := ["rows", "columns", "units"]) fun _ _ _ _ _ _ us hl => (by obtain ⟨_, _, _, rfl⟩ := us3 hl; rfl)
    m_need_bounds := PySem.W.mg_of X G a4
    F_sums_of := fun_mk (st := s_sums_of) l5 c5 k5
    B_sums_of := (fun_mk (st := s_sums_of) l5 c5 k5).binds (ps := ["weights", "units", "side", "many"]) fun _ _ _ _ _ _ us hl => (by obtain ⟨_, _, _, _, rfl⟩ := us4 hl; rfl)
    m_sums_of := PySem.W.mg_of X G a5
    F_led := fun_mk (st := s_led) l6 c6 k6
    B_led := (fun_mk (st := s_led) l6 c6 k6).binds (ps := ["rows", "columns", "units"]) fun _ _ _ _ _ _ us hl => (by obtain ⟨_, _, _, rfl⟩ := us3 hl; rfl)
    m_led := PySem.W.mg_of X G a6
    F_spare_of := fun_mk (st := s_spare_of) l7 c7 k7
    B_spare_of := (fun_mk (st := s_spare_of) l7 c7 k7).binds (ps := ["rows", "columns", "units", "weights"]) fun _ _ _ _ _ _ us hl => (by obtain ⟨_, _, _, _, rfl⟩ := us4 hl; rfl)
    m_spare_of := PySem.W.mg_of X G a7
    F_reached_from := fun_mk (st := s_reached_from) l8 c8 k8
    B_reached_from := (fun_mk (st := s_reached_from) l8 c8 k8).binds (ps := ["starts", "units", "weights"]) fun _ _ _ _ _ _ us hl => (by obtain ⟨_, _, _, rfl⟩ := us3 hl; rfl)
    m_reached_from := PySem.W.mg_of X G a8
    F_other_end := fun_mk (st := s_other_end) l9 c9 k9
    B_other_end := (fun_mk (st := s_other_end) l9 c9 k9).binds (ps := ["unit", "here"]) fun _ _ _ _ _ _ us hl => (by obtain ⟨_, _, rfl⟩ := us2 hl; rfl)
    m_other_end := PySem.W.mg_of X G a9
    F_room := fun_mk (st := s_room) l10 c10 k10
    B_room := (fun_mk (st := s_room) l10 c10 k10).binds (ps := ["unit", "weight", "start"]) fun _ _ _ _ _ _ us hl => (by obtain ⟨_, _, _, rfl⟩ := us3 hl; rfl)
    m_room := PySem.W.mg_of X G a10
    F_path_to := fun_mk (st := s_path_to) l11 c11 k11
    B_path_to := (fun_mk (st := s_path_to) l11 c11 k11).binds (ps := ["last", "by", "units"]) fun _ _ _ _ _ _ us hl => (by obtain ⟨_, _, _, rfl⟩ := us3 hl; rfl)
    m_path_to := PySem.W.mg_of X G a11
    F_given_along := fun_mk (st := s_given_along) l12 c12 k12
    B_given_along := (fun_mk (st := s_given_along) l12 c12 k12).binds (ps := ["path", "most", "units", "weights"]) fun _ _ _ _ _ _ us hl => (by obtain ⟨_, _, _, _, rfl⟩ := us4 hl; rfl)
    m_given_along := PySem.W.mg_of X G a12
    F_reached_on := fun_mk (st := s_reached_on) l13 c13 k13
    B_reached_on := (fun_mk (st := s_reached_on) l13 c13 k13).binds (ps := ["side", "by"]) fun _ _ _ _ _ _ us hl => (by obtain ⟨_, _, rfl⟩ := us2 hl; rfl)
    m_reached_on := PySem.W.mg_of X G a13
    F_is_led := fun_mk (st := s_is_led) l14 c14 k14
    B_is_led := (fun_mk (st := s_is_led) l14 c14 k14).binds (ps := ["rows", "columns", "units", "told"]) fun _ _ _ _ _ _ us hl => (by obtain ⟨_, _, _, _, rfl⟩ := us4 hl; rfl)
    m_is_led := PySem.W.mg_of X G a14
    F_are_led := fun_mk (st := s_are_led) l15 c15 k15
    B_are_led := (fun_mk (st := s_are_led) l15 c15 k15).binds (ps := ["rows", "columns", "units", "weights"]) fun _ _ _ _ _ _ us hl => (by obtain ⟨_, _, _, _, rfl⟩ := us4 hl; rfl)
    m_are_led := PySem.W.mg_of X G a15
    F_shows_none := fun_mk (st := s_shows_none) l16 c16 k16
    B_shows_none := (fun_mk (st := s_shows_none) l16 c16 k16).binds (ps := ["rows", "columns", "units", "told"]) fun _ _ _ _ _ _ us hl => (by obtain ⟨_, _, _, _, rfl⟩ := us4 hl; rfl)
    m_shows_none := PySem.W.mg_of X G a16
    F_greatest_more := fun_mk (st := s_greatest_more) l17 c17 k17
    B_greatest_more := (fun_mk (st := s_greatest_more) l17 c17 k17).binds (ps := ["ones", "others"]) fun _ _ _ _ _ _ us hl => (by obtain ⟨_, _, rfl⟩ := us2 hl; rfl)
    m_greatest_more := PySem.W.mg_of X G a17
    F_is_rising := fun_mk (st := s_is_rising) l18 c18 k18
    B_is_rising := (fun_mk (st := s_is_rising) l18 c18 k18).binds (ps := ["numbers", "many"]) fun _ _ _ _ _ _ us hl => (by obtain ⟨_, _, rfl⟩ := us2 hl; rfl)
    m_is_rising := PySem.W.mg_of X G a18
    F_L_cell := fun_mk (st := s_L_cell) l19 c19 k19
    B_L_cell := (fun_mk (st := s_L_cell) l19 c19 k19).binds (ps := ["_law_script", "_law_k"]) fun _ _ _ _ _ _ us hl => (by obtain ⟨_, _, rfl⟩ := us2 hl; rfl)
    m_L_cell := PySem.W.mg_of X G a19
    F_L_mix := fun_mk (st := s_L_mix) l20 c20 k20
    B_L_mix := (fun_mk (st := s_L_mix) l20 c20 k20).binds (ps := ["_law_cell_here", "_law_k"]) fun _ _ _ _ _ _ us hl => (by obtain ⟨_, _, rfl⟩ := us2 hl; rfl)
    m_L_mix := PySem.W.mg_of X G a20
    F_L_row := fun_mk (st := s_L_row) l21 c21 k21
    B_L_row := (fun_mk (st := s_L_row) l21 c21 k21).binds (ps := ["_law_cell_here", "_law_bit", "_law_many", "_law_most"]) fun _ _ _ _ _ _ us hl => (by obtain ⟨_, _, _, _, rfl⟩ := us4 hl; rfl)
    m_L_row := PySem.W.mg_of X G a21
    F_L_whole := fun_mk (st := s_L_whole) l22 c22 k22
    B_L_whole := (fun_mk (st := s_L_whole) l22 c22 k22).binds (ps := ["_law_found"]) fun _ _ _ _ _ _ us hl => (by obtain ⟨_, rfl⟩ := us1 hl; rfl)
    m_L_whole := PySem.W.mg_of X G a22
    F_L_units := fun_mk (st := s_L_units) l23 c23 k23
    B_L_units := (fun_mk (st := s_L_units) l23 c23 k23).binds (ps := ["_law_script", "_law_start", "_law_rows", "_law_columns"]) fun _ _ _ _ _ _ us hl => (by obtain ⟨_, _, _, _, rfl⟩ := us4 hl; rfl)
    m_L_units := PySem.W.mg_of X G a23
    F_L_sums := fun_mk (st := s_L_sums) l24 c24 k24
    B_L_sums := (fun_mk (st := s_L_sums) l24 c24 k24).binds (ps := ["_law_units_here", "_law_weights_here", "_law_place", "_law_many"]) fun _ _ _ _ _ _ us hl => (by obtain ⟨_, _, _, _, rfl⟩ := us4 hl; rfl)
    m_L_sums := PySem.W.mg_of X G a24
    F_L_wished := fun_mk (st := s_L_wished) l25 c25 k25
    B_L_wished := (fun_mk (st := s_L_wished) l25 c25 k25).binds (ps := ["_law_script", "_law_start", "_law_rows", "_law_columns", "_law_units_here"]) fun _ _ _ _ _ _ us hl => (by obtain ⟨_, _, _, _, _, rfl⟩ := us5 hl; rfl)
    m_L_wished := PySem.W.mg_of X G a25
    F_L_weights := fun_mk (st := s_L_weights) l26 c26 k26
    B_L_weights := (fun_mk (st := s_L_weights) l26 c26 k26).binds (ps := ["_law_rows", "_law_columns", "_law_units_here", "_law_weights_here"]) fun _ _ _ _ _ _ us hl => (by obtain ⟨_, _, _, _, rfl⟩ := us4 hl; rfl)
    m_L_weights := PySem.W.mg_of X G a26
    F_L_numbers := fun_mk (st := s_L_numbers) l27 c27 k27
    B_L_numbers := (fun_mk (st := s_L_numbers) l27 c27 k27).binds (ps := ["_law_some", "_law_many"]) fun _ _ _ _ _ _ us hl => (by obtain ⟨_, _, rfl⟩ := us2 hl; rfl)
    m_L_numbers := PySem.W.mg_of X G a27
    F_L_cut := fun_mk (st := s_L_cut) l28 c28 k28
    B_L_cut := (fun_mk (st := s_L_cut) l28 c28 k28).binds (ps := ["_law_rows", "_law_columns", "_law_units_here", "_law_word", "_law_some", "_law_others"]) fun _ _ _ _ _ _ us hl => (by obtain ⟨_, _, _, _, _, _, rfl⟩ := us6 hl; rfl)
    m_L_cut := PySem.W.mg_of X G a28
    F_L_right := fun_mk (st := s_L_right) l29 c29 k29
    B_L_right := (fun_mk (st := s_L_right) l29 c29 k29).binds (ps := ["_law_rows", "_law_columns", "_law_units_here", "_law_told"]) fun _ _ _ _ _ _ us hl => (by obtain ⟨_, _, _, _, rfl⟩ := us4 hl; rfl)
    m_L_right := PySem.W.mg_of X G a29
    F_L_list := fun_mk (st := s_L_list) l30 c30 k30
    B_L_list := (fun_mk (st := s_L_list) l30 c30 k30).binds (ps := ["_law_some", "_law_cell_here"]) fun _ _ _ _ _ _ us hl => (by obtain ⟨_, _, rfl⟩ := us2 hl; rfl)
    m_L_list := PySem.W.mg_of X G a30
    F_L_drawn := fun_mk (st := s_L_drawn) l31 c31 k31
    B_L_drawn := (fun_mk (st := s_L_drawn) l31 c31 k31).binds (ps := ["_law_rows", "_law_columns", "_law_units_here", "_law_cell_here"]) fun _ _ _ _ _ _ us hl => (by obtain ⟨_, _, _, _, rfl⟩ := us4 hl; rfl)
    m_L_drawn := PySem.W.mg_of X G a31
    F_L_spoilt := fun_mk (st := s_L_spoilt) l32 c32 k32
    B_L_spoilt := (fun_mk (st := s_L_spoilt) l32 c32 k32).binds (ps := ["_law_rows", "_law_columns", "_law_units_here", "_law_told", "_law_cell_here"]) fun _ _ _ _ _ _ us hl => (by obtain ⟨_, _, _, _, _, rfl⟩ := us5 hl; rfl)
    m_L_spoilt := PySem.W.mg_of X G a32
    F_law := fun_mk (st := s_law) l33 c33 k33
    B_law := (fun_mk (st := s_law) l33 c33 k33).binds (ps := ["_law_script"]) fun _ _ _ _ _ _ us hl => (by obtain ⟨_, rfl⟩ := us1 hl; rfl)
    m_law := PySem.W.mg_of X G a33
    g_MOST_SUMS := ⟨u0, PySem.W.mg_of X G b0, r0⟩
    g_MOST_SUM := ⟨u1, PySem.W.mg_of X G b1, r1⟩
    g_MOST_UNITS := ⟨u2, PySem.W.mg_of X G b2, r2⟩
    g_MOST_WEIGHT := ⟨u3, PySem.W.mg_of X G b3, r3⟩
    mc_SpeakError := PySem.W.mg_of X G ca_SpeakError
    g_SpeakError := ⟨_, PySem.W.mg_of X G ca_SpeakError, rfl⟩
    kc_SpeakError := cb_SpeakError
    xc_SpeakError := xc_of cc_SpeakError
    xh_SpeakError := xh_of cc_SpeakError
    xi_SpeakError := cx_SpeakError
    mc_NoBounds := PySem.W.mg_of X G ca_NoBounds
    g_NoBounds := ⟨_, PySem.W.mg_of X G ca_NoBounds, rfl⟩
    kc_NoBounds := cb_NoBounds
    xc_NoBounds := xc_of cc_NoBounds
    xh_NoBounds := xh_of cc_NoBounds
    xi_NoBounds := cx_NoBounds
    z_all := PySem.W.mg_none_of X G z0
    z_bool := PySem.W.mg_none_of X G z1
    z_enumerate := PySem.W.mg_none_of X G z2
    z_int := PySem.W.mg_none_of X G z3
    z_isinstance := PySem.W.mg_none_of X G z4
    z_len := PySem.W.mg_none_of X G z5
    z_list := PySem.W.mg_none_of X G z6
    z_max := PySem.W.mg_none_of X G z7
    z_min := PySem.W.mg_none_of X G z8
    z_range := PySem.W.mg_none_of X G z9
    z_reversed := PySem.W.mg_none_of X G z10
    z_set := PySem.W.mg_none_of X G z11
    z_sorted := PySem.W.mg_none_of X G z12
    z_sum := PySem.W.mg_none_of X G z13
    z_tuple := PySem.W.mg_none_of X G z14
    z_zip := PySem.W.mg_none_of X G z15
    bl := fun s u => .of_eq rfl }
end My
open PySem PySem.W PyProof.Rows
set_option maxRecDepth 100000 in
set_option maxHeartbeats 0 in
theorem PySem.Challenge.cw_fewspeak_k76_what_is_led_tested_holds : PySem.Challenge.rw_fewspeak_k76_what_is_led_tested.Holds := by
  w_on; o_law; k_head; (case hw => w_witness2)
  k_fill
  refine L2.walk_ofT (l := PySem.Challenge.rw_fewspeak_k76_what_is_led_tested) (n := 63) (k := My.lawK) (x := "_law_script") (CX := L2.CX0) (sp := My.spLaw) rfl (by decide) rfl ⟨rfl, by decide, by decide⟩ (fun w h Y => ⟨PySem.W.km_in_of Y, PySem.W.km_tabs_of Y⟩) ?F ?S ?C
  case F =>
    intro ts' hts w mg fa h KX G hmg
    have T : ∃ a, My.Txt (L2.KOf KX) mg a ∧ (My.tabs a).map (·.1) = ts' := by
      rw [hts]
      dsimp only [L2.KOf]
      refine' My.txt_mk KX G ?a0 ?l0 ?c0 ?k0 ?a1 ?l1 ?c1 ?k1 ?a2 ?l2 ?c2 ?k2 ?a3 ?l3 ?c3 ?k3 ?a4 ?l4 ?c4 ?k4 ?a5 ?l5 ?c5 ?k5 ?a6 ?l6 ?c6 ?k6 ?a7 ?l7 ?c7 ?k7 ?a8 ?l8 ?c8 ?k8 ?a9 ?l9 ?c9 ?k9 ?a10 ?l10 ?c10 ?k10 ?a11 ?l11 ?c11 ?k11 ?a12 ?l12 ?c12 ?k12 ?a13 ?l13 ?c13 ?k13 ?a14 ?l14 ?c14 ?k14 ?a15 ?l15 ?c15 ?k15 ?a16 ?l16 ?c16 ?k16 ?a17 ?l17 ?c17 ?k17 ?a18 ?l18 ?c18 ?k18 ?a19 ?l19 ?c19 ?k19 ?a20 ?l20 ?c20 ?k20 ?a21 ?l21 ?c21 ?k21 ?a22 ?l22 ?c22 ?k22 ?a23 ?l23 ?c23 ?k23 ?a24 ?l24 ?c24 ?k24 ?a25 ?l25 ?c25 ?k25 ?a26 ?l26 ?c26 ?k26 ?a27 ?l27 ?c27 ?k27 ?a28 ?l28 ?c28 ?k28 ?a29 ?l29 ?c29 ?k29 ?a30 ?l30 ?c30 ?k30 ?a31 ?l31 ?c31 ?k31 ?a32 ?l32 ?c32 ?k32 ?a33 ?l33 ?c33 ?k33 ?b0 ?b1 ?b2 ?b3 ?ca_SpeakError ?cb_SpeakError ?cc_SpeakError ?cx_SpeakError ?ca_NoBounds ?cb_NoBounds ?cc_NoBounds ?cx_NoBounds ?lca_need_bounds ?lct_need_bounds ?lcq_need_bounds ?lch_need_bounds ?ltnd ?z0 ?z1 ?z2 ?z3 ?z4 ?z5 ?z6 ?z7 ?z8 ?z9 ?z10 ?z11 ?z12 ?z13 ?z14 ?z15 ?r0 ?r1 ?r2 ?r3
      (case a0 => k_is)
      (case l0 => k_is)
      (case c0 => k_is)
      (case k0 => k_is)
      (case a1 => k_is)
      (case l1 => k_is)
      (case c1 => k_is)
      (case k1 => k_is)
      (case a2 => k_is)
      (case l2 => k_is)
      (case c2 => k_is)
      (case k2 => k_is)
      (case a3 => k_is)
      (case l3 => k_is)
      (case c3 => k_is)
      (case k3 => k_is)
      (case a4 => k_is)
      (case l4 => k_is)
      (case c4 => k_is)
      (case k4 => k_is)
      (case a5 => k_is)
      (case l5 => k_is)
      (case c5 => k_is)
      (case k5 => k_is)
      (case a6 => k_is)
      (case l6 => k_is)
      (case c6 => k_is)
      (case k6 => k_is)
      (case a7 => k_is)
      (case l7 => k_is)
      (case c7 => k_is)
      (case k7 => k_is)
      (case a8 => k_is)
      (case l8 => k_is)
      (case c8 => k_is)
      (case k8 => k_is)
      (case a9 => k_is)
      (case l9 => k_is)
      (case c9 => k_is)
      (case k9 => k_is)
      (case a10 => k_is)
      (case l10 => k_is)
      (case c10 => k_is)
      (case k10 => k_is)
      (case a11 => k_is)
      (case l11 => k_is)
      (case c11 => k_is)
      (case k11 => k_is)
      (case a12 => k_is)
      (case l12 => k_is)
      (case c12 => k_is)
      (case k12 => k_is)
      (case a13 => k_is)
      (case l13 => k_is)
      (case c13 => k_is)
      (case k13 => k_is)
      (case a14 => k_is)
      (case l14 => k_is)
      (case c14 => k_is)
      (case k14 => k_is)
      (case a15 => k_is)
      (case l15 => k_is)
      (case c15 => k_is)
      (case k15 => k_is)
      (case a16 => k_is)
      (case l16 => k_is)
      (case c16 => k_is)
      (case k16 => k_is)
      (case a17 => k_is)
      (case l17 => k_is)
      (case c17 => k_is)
      (case k17 => k_is)
      (case a18 => k_is)
      (case l18 => k_is)
      (case c18 => k_is)
      (case k18 => k_is)
      (case a19 => k_is)
      (case l19 => k_is)
      (case c19 => k_is)
      (case k19 => k_is)
      (case a20 => k_is)
      (case l20 => k_is)
      (case c20 => k_is)
      (case k20 => k_is)
      (case a21 => k_is)
      (case l21 => k_is)
      (case c21 => k_is)
      (case k21 => k_is)
      (case a22 => k_is)
      (case l22 => k_is)
      (case c22 => k_is)
      (case k22 => k_is)
      (case a23 => k_is)
      (case l23 => k_is)
      (case c23 => k_is)
      (case k23 => k_is)
      (case a24 => k_is)
      (case l24 => k_is)
      (case c24 => k_is)
      (case k24 => k_is)
      (case a25 => k_is)
      (case l25 => k_is)
      (case c25 => k_is)
      (case k25 => k_is)
      (case a26 => k_is)
      (case l26 => k_is)
      (case c26 => k_is)
      (case k26 => k_is)
      (case a27 => k_is)
      (case l27 => k_is)
      (case c27 => k_is)
      (case k27 => k_is)
      (case a28 => k_is)
      (case l28 => k_is)
      (case c28 => k_is)
      (case k28 => k_is)
      (case a29 => k_is)
      (case l29 => k_is)
      (case c29 => k_is)
      (case k29 => k_is)
      (case a30 => k_is)
      (case l30 => k_is)
      (case c30 => k_is)
      (case k30 => k_is)
      (case a31 => k_is)
      (case l31 => k_is)
      (case c31 => k_is)
      (case k31 => k_is)
      (case a32 => k_is)
      (case l32 => k_is)
      (case c32 => k_is)
      (case k32 => k_is)
      (case a33 => k_is)
      (case l33 => k_is)
      (case c33 => k_is)
      (case k33 => k_is)
      (case b0 => k_is)
      (case b1 => k_is)
      (case b2 => k_is)
      (case b3 => k_is)
      (case ca_SpeakError => k_is)
      (case cb_SpeakError => k_is)
      (case cc_SpeakError => kernel_rfl)
      (case cx_SpeakError => kernel_rfl)
      (case ca_NoBounds => k_is)
      (case cb_NoBounds => k_is)
      (case cc_NoBounds => kernel_rfl)
      (case cx_NoBounds => kernel_rfl)
      (case lca_need_bounds => exact rfl)
      (case lct_need_bounds => k_is)
      (case lcq_need_bounds => exact rfl)
      (case lch_need_bounds => kernel_rfl)
      (case ltnd => decide)
      (case z0 => k_is)
      (case z1 => k_is)
      (case z2 => k_is)
      (case z3 => k_is)
      (case z4 => k_is)
      (case z5 => k_is)
      (case z6 => k_is)
      (case z7 => k_is)
      (case z8 => k_is)
      (case z9 => k_is)
      (case z10 => k_is)
      (case z11 => k_is)
      (case z12 => k_is)
      (case z13 => k_is)
      (case z14 => k_is)
      (case z15 => k_is)
      (case r0 => first | exact rfl | exact ⟨_, rfl⟩)
      (case r1 => first | exact rfl | exact ⟨_, rfl⟩)
      (case r2 => first | exact rfl | exact ⟨_, rfl⟩)
      (case r3 => first | exact rfl | exact ⟨_, rfl⟩)
    obtain ⟨a, T, e1⟩ := T
    have e1 := e1.trans hts
    have e0 := hmg.symm.trans T.m_law
    cases e0
    refine' ⟨a.d_law, ?b, ?t, ?u, fun base kb nb hB => My.ok_law T hB ?v⟩
    case b => exact T.bl
    case t =>
      intro P hP
      have hP := e1.symm ▸ hP
      simp only [My.tabs, List.map_cons, List.map_nil, List.mem_cons, List.not_mem_nil, or_false] at hP
      rcases hP with rfl
      · exact ⟨_, T.lch_need_bounds⟩
    case u =>
      intro P hP
      simp only [List.mem_cons, List.not_mem_nil, or_false] at hP
      rcases hP with rfl <;> kernel_rfl
    case v =>
      intro q hq
      rw [← e1]
      exact List.mem_map_of_mem hq
  case S => exact fun K H a ns hl hO hS => My.law_start hl hO hS
  case C => exact fun H s e s' z => z
