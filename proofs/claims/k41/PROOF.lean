import PyProof.Rows.All
import Wide.All
import OpenK.AllK
import Wide.FinOn
import Lean
import PyProof.EqAt
import PyProof.EqKinds
import PyProof.TupleCall
import PySem.Challenge.RW_fewspeak_k41_plans_as_texts
set_option Elab.async false
set_option linter.all false
set_option maxRecDepth 100000
namespace L2
open PySem PySem.Spec PyProof.Rows
abbrev Key := Sum Int Str
def keyIs : Key → Value → Bool
  | .inl k, v => Value.isInt k v
  | .inr x, v => Value.isStrOf x v
def keyH (w : World) : Key → Int
  | .inl k => hashInt k
  | .inr x => hashStr w x
theorem keyIs_shape : ∀ {k : Key} {v : Value}, keyIs k v = true → (∃ i t, k = Sum.inl i ∧ v = Value.int i t) ∨ (∃ x t, k = Sum.inr x ∧ v = Value.str x t)
  | .inl i, v, h => by
    obtain ⟨t, e⟩ := Value.isInt_shape (k := i) (v := v) h
    exact .inl ⟨i, t, rfl, e⟩
  | .inr x, v, h => by
    obtain ⟨t, e⟩ := Value.isStrOf_shape (x := x) (v := v) h
    exact .inr ⟨x, t, rfl, e⟩
theorem key_ll (a b : Int) : decide ((Sum.inl a : Key) = Sum.inl b) = (a == b) := by
  by_cases e : a = b
  · subst e; simp
  · have h : ¬ (Sum.inl a : Key) = Sum.inl b := fun q => e (Sum.inl.inj q)
    rw [decide_eq_false h]
    exact (beq_eq_false_iff_ne.mpr e).symm
theorem key_rr (a b : Str) : decide ((Sum.inr a : Key) = Sum.inr b) = decide (a = b) := by
  by_cases e : a = b
  · subst e; simp
  · have h : ¬ (Sum.inr a : Key) = Sum.inr b := fun q => e (Sum.inr.inj q)
    rw [decide_eq_false h, decide_eq_false e]
theorem key_lr (a : Int) (b : Str) : decide ((Sum.inl a : Key) = Sum.inr b) = false := decide_eq_false (fun q => nomatch q)
theorem key_rl (a : Str) (b : Int) : decide ((Sum.inr a : Key) = Sum.inl b) = false := decide_eq_false (fun q => nomatch q)
def mixKind (prog : Program) (w : World) : PySem.KeyKind prog w Key where
  is := keyIs
  hash := keyH w
  inj := fun v a b ha hb => by
    rcases keyIs_shape ha with ⟨i, t, rfl, rfl⟩ | ⟨x, t, rfl, rfl⟩
    · rcases keyIs_shape hb with ⟨j, u, rfl, e⟩ | ⟨y, u, rfl, e⟩
      · injection e with e1 _; rw [e1]
      · exact nomatch e
    · rcases keyIs_shape hb with ⟨j, u, rfl, e⟩ | ⟨y, u, rfl, e⟩
      · exact nomatch e
      · injection e with e1 _; rw [e1]
  byValue := fun k v h => by
    rcases keyIs_shape h with ⟨i, t, rfl, rfl⟩ | ⟨x, t, rfl, rfl⟩ <;> rfl
  pyHash := fun hv h => by
    rcases keyIs_shape hv with ⟨i, t, rfl, rfl⟩ | ⟨x, t, rfl, rfl⟩
    · exact wpAny_pyHash_int h
    · exact wpAny_pyHash_str h
  eqBool := fun hu hv h => by
    rcases keyIs_shape hu with ⟨i, t, rfl, rfl⟩ | ⟨x, t, rfl, rfl⟩
    · rcases keyIs_shape hv with ⟨j, u, rfl, rfl⟩ | ⟨y, u, rfl, rfl⟩
      · rw [key_ll] at h; exact wpAny_eqBool_int h
      · rw [key_lr] at h; exact SeqAt.EqAt.int_str i t y u _ _ _ _ h
    · rcases keyIs_shape hv with ⟨j, u, rfl, rfl⟩ | ⟨y, u, rfl, rfl⟩
      · rw [key_rl] at h; exact SeqAt.EqAt.str_int x t j u _ _ _ _ h
      · rw [key_rr] at h; exact wpAny_eqBool_str h
  «strs» := fun k x t v h => by
    rcases keyIs_shape h with ⟨i, u, rfl, e⟩ | ⟨y, u, rfl, e⟩
    · exact nomatch e
    · injection e with e1 _
      subst e1
      cases v <;> rfl
end L2
namespace L2
open PySem PySem.Spec PyProof.Rows
inductive V where
  | non | bl (b : Bool) | int (i : Int) | str (x : Str) | byt (b : Array UInt8) | flt (b : UInt64) | ref (a : Addr) | ty (n : String)
  deriving DecidableEq
def RelV : V → Value → Prop
  | .non, u => u = Value.none
  | .bl b, u => u = Value.bool b
  | .int i, u => ∃ t, u = Value.int i t
  | .str x, u => ∃ t, u = Value.str x t
  | .byt b, u => ∃ t, u = Value.bytes b t
  | .flt b, u => ∃ t, u = Value.float b t
  | .ref a, u => u = Value.ref a
  | .ty n, u => u = Value.type n
abbrev Vals : List V → List Value → Prop := Paired RelV
theorem Vals.length {xs : List V} {us : List Value} (r : Vals xs us) : xs.length = us.length := Paired.length r
theorem Vals.get : ∀ {xs : List V} {us : List Value} {i : Nat} {x : V}, Vals xs us → xs[i]? = some x → ∃ u, us[i]? = some u ∧ RelV x u
  | _, _, _, _, .nil, e => by simp at e
  | _, _, 0, _, .cons r _, e => by simp at e; subst e; exact ⟨_, rfl, r⟩
  | _, _, i + 1, x, .cons _ t, e => by
    obtain ⟨u, h1, h2⟩ := Vals.get (i := i) (x := x) t (by simpa using e)
    exact ⟨u, by simpa using h1, h2⟩
theorem Vals.append : ∀ {xs ys : List V} {us ws : List Value}, Vals xs us → Vals ys ws → Vals (xs ++ ys) (us ++ ws)
  | _, _, _, _, .nil, s => s
  | _, _, _, _, .cons r t, s => .cons r (Vals.append t s)
theorem Vals.take : ∀ {xs : List V} {us : List Value} (n : Nat), Vals xs us → Vals (xs.take n) (us.take n)
  | _, _, 0, _ => .nil
  | _, _, _ + 1, .nil => .nil
  | _, _, n + 1, .cons r t => .cons r (Vals.take n t)
theorem Vals.drop : ∀ {xs : List V} {us : List Value} (n : Nat), Vals xs us → Vals (xs.drop n) (us.drop n)
  | _, _, 0, r => r
  | _, _, _ + 1, .nil => .nil
  | _, _, n + 1, .cons _ t => Vals.drop n t
def RelO : Option V → Option Value → Prop
  | some v, some u => RelV v u
  | none, none => True
  | _, _ => False
def KV {κ : Type} : List (κ × V) → List (κ × Value) → Prop := Paired fun (p : κ × V) (q : κ × Value) => p.1 = q.1 ∧ RelV p.2 q.2
def kV : Key → V
  | .inl i => .int i
  | .inr x => .str x
inductive HO where
  | lst (xs : List V)
  | tup (xs : List V)
  | dK (kvs : List (Key × V)) | dT (kvs : List (List Key × V))
  | set (S : Int → Bool) (n : Nat)
  | ins (C dx : Addr) (fs : List (Str × V))
  | own (x : Addr)
  | xd (fs : List (Str × V))
  | met (f x : Addr)
  | rng (lo hi : Int)
  | frz (o : Obj) (u : HO)
  | tbl (ps : Array Value)
  | ext (φ : Heap → Prop)
abbrev Hp := Addr → Option HO
def upd (H : Hp) (a : Addr) (o : HO) : Hp := fun b => if b = a then some o else H b
theorem upd_same {H : Hp} {a : Addr} {o : HO} : upd H a o a = some o := by unfold upd; rw [if_pos rfl]
theorem upd_ne {H : Hp} {a b : Addr} {o : HO} (h : b ≠ a) : upd H a o b = H b := by unfold upd; rw [if_neg h]
theorem upd_upd {H : Hp} {a : Addr} {o u : HO} : upd (upd H a o) a u = upd H a u := by
  funext b; unfold upd; split <;> rfl
theorem ne_of_none {H : Hp} {a b : Addr} {o : HO} (h : H a = some o) (h' : H b = none) : a ≠ b := by
  intro e; subst e; rw [h] at h'; cases h'
section
variable (P : Program) (w : World)
def ObjOk (H : Hp) (h : Heap) (a : Addr) : HO → Prop
  | .lst xs => xs.length ≤ sizeLine ∧ ∃ (its : List Value) (n : Nat), Vals xs its ∧ h.get? a = some { cls := .type "list", data := .seq its.toArray n }
  | .tup xs => xs.length ≤ sizeLine ∧ ∃ its : List Value, Vals xs its ∧ IsTup h a its.toArray
  | .dK kvs => kvs.length ≤ sizeLine ∧ (a == sysModules) = false ∧ ∃ vs, KV kvs vs ∧ h.DictOf (mixKind P w) a vs
  | .dT kvs => kvs.length ≤ sizeLine ∧ (a == sysModules) = false ∧ ∃ xs : List (List Key × Addr × Value),
      Paired (fun (p : List Key × V) (q : List Key × Addr × Value) => p.1 = q.1 ∧ H q.2.1 = some (.tup (p.1.map kV)) ∧ RelV p.2 q.2.2) kvs xs ∧
      ∃ o es ep, h.get? a = some o ∧ o.ExactDict ∧ o.data = .dict es ep ∧ es.toList = xs.map (entryOfKey (tupleKind (mixKind P w))) ∧ (xs.map (·.1)).Nodup
  | .set S n => h.SetOf (intKind P w) a S n
  | .ins C dx fs => H dx = some (.own a) ∧ fs.length ≤ 1000 ∧ dx ≠ a ∧ h.get? a = some (PySem.W.instObj C dx) ∧
      ∃ mA, h.Ns1 dx mA ∧ (∀ f, RelO (fs.lookup f) (mA f)) ∧ PySem.Within mA (fs.map (·.1))
  | .own _ => ∃ o, h.get? a = some o
  | .xd fs => ∃ mA, h.Ns1 a mA ∧ ∀ f, RelO (fs.lookup f) (mA f)
  | .rng lo hi => ∃ t u v, h.get? a = some { cls := .type "range", data := .fields #[.int lo t, .int hi u, .int 1 v] }
  | .frz o u => h.get? a = some o ∧ ObjOk H h a u
  | .tbl ps => h.get? a = some { cls := .none, data := .fields ps }
  | .met f x => h.get? a = some (PySem.W.methodObj (.ref f) (.ref x))
  | .ext φ => φ h ∧ (∃ o, h.get? a = some o) ∧ ∀ h1 h2 : Heap, φ h1 → (∀ o, h1.get? a = some o → h2.get? a = some o) → φ h2
def HOk (H : Hp) (h : Heap) : Prop := ∀ a o, H a = some o → ObjOk P w H h a o
end
section
variable {P : Program} {w : World} {H H' : Hp} {h h' : Heap} {a : Addr} {o : HO}
theorem ObjOk.lt (x : ObjOk P w H h a o) : a < h.objs.size := by
  cases o with
  | lst xs => obtain ⟨_, _, _, _, e⟩ := x; exact Heap.lt_size e
  | tup xs => obtain ⟨_, _, _, p⟩ := x; exact p.lt
  | dK kvs => obtain ⟨_, _, _, _, o, _, _, e, _⟩ := x; exact Heap.lt_size e
  | dT kvs => obtain ⟨_, _, _, _, o, _, _, e, _⟩ := x; exact Heap.lt_size e
  | set S n => obtain ⟨o, _, _, _, e, _⟩ := x; exact Heap.lt_size e
  | ins C dx fs => obtain ⟨_, _, _, e, _⟩ := x; exact Heap.lt_size e
  | own y => obtain ⟨_, e⟩ := x; exact Heap.lt_size e
  | xd fs => obtain ⟨_, ⟨_, _, _, e, _⟩, _⟩ := x; exact Heap.lt_size e
  | rng lo hi => obtain ⟨_, _, _, e⟩ := x; exact Heap.lt_size e
  | frz ob u => obtain ⟨e, _⟩ := x; exact Heap.lt_size e
  | tbl ps => exact Heap.lt_size (show h.get? a = some _ from x)
  | met f y => exact Heap.lt_size (show h.get? a = some _ from x)
  | ext φ => obtain ⟨_, ⟨_, e⟩, _⟩ := x; exact Heap.lt_size e
theorem Paired.mapP {α β : Type} {F G : α → β → Prop} : ∀ {l₁ : List α} {l₂ : List β}, Paired F l₁ l₂ → (∀ a b, F a b → G a b) → Paired G l₁ l₂
  | _, _, .nil, _ => .nil
  | _, _, .cons r t, f => .cons (f _ _ r) (Paired.mapP t f)
theorem ObjOk.stay (x : ObjOk P w H h a o) (k : ∀ b u, (b = a ∨ H b = some (.own a)) → h.get? b = some u → h'.get? b = some u)
    (ho : ∀ b, H b = some (.own a) → H' b = some (.own a)) (ht : ∀ b xs, H b = some (.tup xs) → H' b = some (.tup xs)) : ObjOk P w H' h' a o := by
  induction o with
  | lst xs => obtain ⟨z, its, n, r, e⟩ := x; exact ⟨z, its, n, r, k _ _ (.inl rfl) e⟩
  | tup xs => obtain ⟨z, its, r, ob, e, c⟩ := x; exact ⟨z, its, r, ob, k _ _ (.inl rfl) e, c⟩
  | dK kvs => obtain ⟨z, y, vs, r, ob, es, ep, e, c⟩ := x; exact ⟨z, y, vs, r, ob, es, ep, k _ _ (.inl rfl) e, c⟩
  | dT kvs =>
    obtain ⟨z, y, xs, r, ob, es, ep, e, c⟩ := x
    exact ⟨z, y, xs, Paired.mapP r fun p q z => ⟨z.1, ht _ _ z.2.1, z.2.2⟩, ob, es, ep, k _ _ (.inl rfl) e, c⟩
  | set S n => obtain ⟨ob, es, ep, t, e, c⟩ := x; exact ⟨ob, es, ep, t, k _ _ (.inl rfl) e, c⟩
  | ins C dx fs =>
    obtain ⟨d, z, ne, e, mA, ⟨od, es, ep, e2, c⟩, r⟩ := x
    exact ⟨ho _ d, z, ne, k _ _ (.inl rfl) e, mA, ⟨od, es, ep, k _ _ (.inr d) e2, c⟩, r⟩
  | own y => obtain ⟨ob, e⟩ := x; exact ⟨ob, k _ _ (.inl rfl) e⟩
  | xd fs => obtain ⟨mA, ⟨od, es, ep, e, c⟩, r⟩ := x; exact ⟨mA, ⟨od, es, ep, k _ _ (.inl rfl) e, c⟩, r⟩
  | rng lo hi => obtain ⟨t, u, v, e⟩ := x; exact ⟨t, u, v, k _ _ (.inl rfl) e⟩
  | frz ob u ih => obtain ⟨e, q⟩ := x; exact ⟨k _ _ (.inl rfl) e, ih q⟩
  | tbl ps =>
    have e : h.get? a = some { cls := .none, data := .fields ps } := x
    show h'.get? a = some { cls := .none, data := .fields ps }
    exact k a _ (.inl rfl) e
  | met f y =>
    have e : h.get? a = some (PySem.W.methodObj (.ref f) (.ref y)) := x
    show h'.get? a = some (PySem.W.methodObj (.ref f) (.ref y))
    exact k a _ (.inl rfl) e
  | ext φ => obtain ⟨p, ⟨o, e⟩, st⟩ := x; exact ⟨st _ _ p fun o q => k _ _ (.inl rfl) q, ⟨o, k _ _ (.inl rfl) e⟩, st⟩
theorem HOk.lt (x : HOk P w H h) (e : H a = some o) : a < h.objs.size := (x a o e).lt
theorem HOk.fresh (x : HOk P w H h) (e : h.objs.size ≤ a) : H a = none := by
  cases q : H a with
  | none => rfl
  | some u => exact absurd (Nat.lt_of_lt_of_le (x.lt q) e) (Nat.lt_irrefl _)
theorem HOk.kept (x : HOk P w H h) (k : ∀ b u, h.get? b = some u → h'.get? b = some u) : HOk P w H h' := fun a o e =>
  (x a o e).stay (fun b u _ q => k b u q) (fun _ q => q) fun _ _ q => q
theorem HOk.laid (x : HOk P w H h) (k : ∀ b u, h.get? b = some u → h'.get? b = some u) (hp : h.objs.size ≤ a) (new : ObjOk P w (upd H a o) h' a o) : HOk P w (upd H a o) h' := fun b u e => by
  have hn := x.fresh hp
  by_cases hb : b = a
  · subst hb; rw [upd_same] at e; cases e; exact new
  · rw [upd_ne hb] at e
    exact (x b u e).stay (fun c v _ q => k c v q) (fun c q => by rw [upd_ne (ne_of_none q hn)]; exact q) fun c xs q => by rw [upd_ne (ne_of_none q hn)]; exact q
end
def Rd (H : Hp) (a : Addr) (u : HO) : Prop := H a = some u ∨ ∃ o, H a = some (.frz o u)
theorem Rd.ok {P : Program} {w : World} {H : Hp} {h : Heap} {a : Addr} {u : HO} (r : Rd H a u) (x : HOk P w H h) : ObjOk P w H h a u := by
  rcases r with r | ⟨o, r⟩
  · exact x a u r
  · obtain ⟨_, q⟩ := x a _ r
    exact q
def Mut : Option HO → Prop
  | some (.lst _) => True
  | some (.dK _) => True
  | some (.dT _) => True
  | some (.set _ _) => True
  | some (.ins _ _ _) => True
  | some (.ext _) => True
  | _ => False
section
variable {P : Program} {w : World} {H : Hp} {h h' : Heap} {x e : Addr} {o' : HO}
theorem HOk.write (ok : HOk P w H h) (mu : Mut (H x)) (he : e = x ∨ H e = some (.own x)) (k : ∀ b u, b ≠ e → h.get? b = some u → h'.get? b = some u) (heo : ∃ u, h'.get? e = some u)
    (new : ObjOk P w (upd H x o') h' x o') : HOk P w (upd H x o') h' := fun b u q => by
  have nown : ∀ c y, H c = some (.own y) → c ≠ x := fun c y r z => by subst z; rw [r] at mu; exact mu
  have ntup : ∀ c xs, H c = some (.tup xs) → c ≠ x := fun c xs r z => by subst z; rw [r] at mu; exact mu
  by_cases hb : b = x
  · subst hb; rw [upd_same] at q; cases q; exact new
  · rw [upd_ne hb] at q
    by_cases hbe : b = e
    · have q' : H b = some (.own x) := by
        rcases he with z | z
        · exact absurd (hbe.trans z) hb
        · rw [hbe]; exact z
      rw [q] at q'; cases q'
      obtain ⟨v, hv⟩ := heo
      exact ⟨v, by rw [hbe]; exact hv⟩
    · refine (ok b u q).stay (fun c v hc r => k c v ?_ r) (fun c r => by rw [upd_ne (nown c b r)]; exact r) fun c xs r => by rw [upd_ne (ntup c xs r)]; exact r
      rcases hc with rfl | hc
      · exact hbe
      · rintro rfl
        rcases he with z | z
        · exact nown c b hc z
        · rw [hc] at z; cases z; exact hb rfl
end
structure Un (fs ex : List Addr) (H H' : Hp) (h h' : Heap) : Prop where
  keep : ∀ b o, h.get? b = some o → H b = none → b ∉ fs → b ∉ ex → h'.get? b = some o
  slot : ∀ b o, h.get? b = some o → H b = none → b ∈ fs → b ∉ ex → ∃ sl, h'.get? b = some { o with slots := sl }
  free : ∀ b o, h.get? b = some o → H b = none → b ∉ ex → H' b = none
  there : ∀ b o, h.get? b = some o → b ∉ ex → ∃ o', h'.get? b = some o'
  tups : ∀ b xs, H b = some (.tup xs) → H' b = some (.tup xs)
  frzs : ∀ b o u, H b = some (.frz o u) → H' b = some (.frz o u)
  tbls : ∀ b ps, H b = some (.tbl ps) → ∃ more, H' b = some (.tbl (ps ++ more))
section
variable {fs fs' ex ex' : List Addr} {H H1 H2 : Hp} {h h1 h2 h' : Heap} {a x e : Addr} {o : HO}
theorem Un.any (u : Un fs ex H H1 h h1) {b : Addr} {ob : Obj} (q : h.get? b = some ob) (n : H b = none) (hx : b ∉ ex) : ∃ sl, h1.get? b = some { ob with slots := sl } := by
  by_cases hb : b ∈ fs
  · exact u.slot b ob q n hb hx
  · exact ⟨ob.slots, u.keep b ob q n hb hx⟩
theorem Un.trans (a : Un fs ex H H1 h h1) (b : Un fs ex H1 H2 h1 h2) : Un fs ex H H2 h h2 where
  keep := fun c ob q n hc hx => b.keep c ob (a.keep c ob q n hc hx) (a.free c ob q n hx) hc hx
  slot := fun c ob q n hc hx => by
    obtain ⟨sl, e1⟩ := a.slot c ob q n hc hx
    obtain ⟨sl', e2⟩ := b.slot c _ e1 (a.free c ob q n hx) hc hx
    exact ⟨sl', e2⟩
  free := fun c ob q n hx => by
    obtain ⟨o', e1⟩ := a.there c ob q hx
    exact b.free c o' e1 (a.free c ob q n hx) hx
  there := fun c ob q hx => by
    obtain ⟨o', e1⟩ := a.there c ob q hx
    exact b.there c o' e1 hx
  tups := fun c xs q => b.tups c xs (a.tups c xs q)
  frzs := fun c ob xs q => b.frzs c ob xs (a.frzs c ob xs q)
  tbls := fun c ps q => by
    obtain ⟨m1, e1⟩ := a.tbls c ps q
    obtain ⟨m2, e2⟩ := b.tbls c _ e1
    exact ⟨m1 ++ m2, by rw [e2, Array.append_assoc]⟩
theorem Un.kept (k : ∀ b u, h.get? b = some u → h'.get? b = some u) : Un fs ex H H h h' :=
  ⟨fun b ob q _ _ _ => k b ob q, fun b ob q _ _ _ => ⟨ob.slots, k b ob q⟩, fun _ _ _ n _ => n, fun b ob q _ => ⟨ob, k b ob q⟩, fun _ _ q => q, fun _ _ _ q => q, fun _ ps q => ⟨#[], by rw [q]; simp⟩⟩
theorem Un.refl : Un fs ex H H h h := Un.kept fun _ _ q => q
theorem Un.laid (k : ∀ b u, h.get? b = some u → h'.get? b = some u) (hp : h.objs.size ≤ a) (hn : H a = none) : Un fs ex H (upd H a o) h h' where
  keep := fun b u q _ _ _ => k b u q
  slot := fun b u q _ _ _ => ⟨u.slots, k b u q⟩
  free := fun b u q n _ => by rw [upd_ne (Nat.ne_of_lt (Nat.lt_of_lt_of_le (Heap.lt_size q) hp))]; exact n
  there := fun b u q _ => ⟨u, k b u q⟩
  tups := fun b xs q => by rw [upd_ne (ne_of_none q hn)]; exact q
  frzs := fun b u xs q => by rw [upd_ne (ne_of_none q hn)]; exact q
  tbls := fun b ps q => ⟨#[], by rw [upd_ne (ne_of_none q hn), q]; simp⟩
theorem Un.write (mu : Mut (H x)) (he : e = x ∨ H e = some (.own x)) (k : ∀ b u, b ≠ e → h.get? b = some u → h'.get? b = some u) (heo : ∃ u, h'.get? e = some u) : Un fs ex H (upd H x o) h h' := by
  have hx : ∀ b, H b = none → b ≠ x := fun b n z => by subst z; rw [n] at mu; exact mu
  have hb : ∀ b, H b = none → b ≠ e := fun b n z => by
    subst z
    rcases he with r | r
    · exact hx b n r
    · rw [n] at r; cases r
  have hm : ∀ b u, H b = some u → ¬ Mut (some u) → b ≠ x := fun b u q nm z => by subst z; rw [q] at mu; exact nm mu
  refine ⟨fun b u q n _ _ => k b u (hb b n) q, fun b u q n _ _ => ⟨u.slots, k b u (hb b n) q⟩, fun b u q n _ => by rw [upd_ne (hx b n)]; exact n, fun b u q _ => ?_,
    fun b xs q => by rw [upd_ne (hm b _ q fun z => z)]; exact q, fun b u xs q => by rw [upd_ne (hm b _ q fun z => z)]; exact q, fun b ps q => ⟨#[], by rw [upd_ne (hm b _ q fun z => z), q]; simp⟩⟩
  by_cases hbe : b = e
  · subst hbe; exact heo
  · exact ⟨u, k b u hbe q⟩
end
def trk (h : Heap) (H : Hp) : List Addr := (List.range h.objs.size).filter fun a => (H a).isSome
def hidT (h : Heap) (H : Hp) : Heap := PySem.W.hideAll h (trk h H)
theorem hidT_size (h : Heap) (H : Hp) : (hidT h H).objs.size = h.objs.size := PySem.W.hideAll_size _ _
theorem hidT_get {h : Heap} {H : Hp} {b : Addr} {o : Obj} (e : h.get? b = some o) (n : H b = none) : (hidT h H).get? b = some o :=
  PySem.W.hideAll_get _ e fun hm => by
    have q : (H b).isSome = true := (List.mem_filter.mp hm).2
    rw [n] at q; simp at q
theorem of_hidT {h : Heap} {H : Hp} {b : Addr} {o : Obj} (e : (hidT h H).get? b = some o) : h.get? b = some o ∧ H b = none := by
  have e' : h.get? b = some o := PySem.W.of_hideAll (trk h H) e
  refine ⟨e', ?_⟩
  cases q : H b with
  | none => rfl
  | some x =>
    have hm : b ∈ trk h H := List.mem_filter.mpr ⟨List.mem_range.mpr (Heap.lt_size e'), by simp [q]⟩
    have z : (hidT h H).get? b = none := PySem.W.hideAll_none (trk h H) hm
    rw [z] at e; cases e
def allNews (g h : Heap) (L : Addr) : List (Addr × Obj) := (List.range h.objs.size).filterMap fun a => if a = L ∨ (g.get? a).isSome = true then none else (h.get? a).map fun o => (a, o)
def rest (g h : Heap) (L d : Addr) : List (Addr × Obj) := (allNews g h L).filter fun p => decide (p.1 ≠ d)
end L2
namespace L2
open PySem PySem.Spec PyProof.Rows
structure Mod (K : PySem.W.Frag) (mg : Str → Option Value) (base : Heap) : Prop where
  kin : K.In base
  glob : base.Ns mainGlobals mg
  blt : ∃ mb, base.Ns builtinsNs mb ∧ ∀ x : Str, x ≠ "__name__" → mb x = bootBuiltins x
  nolimit : base.NoLimit
/-- the context: a def's body (or a comprehension's block) running. base: fixed through the whole law; s₀, H₀: the entry; outer: the frames whose slots others may change (a def's callers); stack: all frames that run;
   ex: iterators that were made ahead of the entry and are walked here (a comprehension's); fn: the names whose cells were made at the entry (a def: all; a comprehension's block: its own); calm: not within an except suite; pn: pins that every state bears; xe: what is wanted of an exception that leaves the code -/
structure Cx where
  prog : Program
  w : World
  K : PySem.W.Frag
  mg : Str → Option Value
  base : Heap
  A : Around
  N : List Str
  s₀ : Shared
  H₀ : Hp
  env : Env
  outer : List Env
  stack : List Env
  ex : List Addr
  fn : Str → Bool
  calm : Bool
  pn : List (Addr × Obj)
  xe : Value → Shared → Prop
def frs (l : List Env) : List Addr := l.filterMap (·.frame)
abbrev Cx.fs (X : Cx) : List Addr := frs X.outer
def Vis (sc : Scope) (x : Str) : Prop := sc.names.lookup x = some .local ∨ sc.names.lookup x = some .cell ∨ sc.names.lookup x = some .free
def Loc (sc : Scope) (x : Str) : Prop := sc.names.lookup x = some .local ∨ sc.names.lookup x = some .cell
def Look (env : Env) (h : Heap) (m : Str → Option Value) (x : Str) (u : Value) : Prop :=
  (env.kindOf x = some .local ∧ m x = some u) ∨ ((env.kindOf x = some .cell ∨ env.kindOf x = some .free) ∧ ∃ c, env.cells.lookup x = some c ∧ h.IsCell c (some u))
structure Cx.Ok (X : Cx) : Prop where
  mod : Mod X.K X.mg X.base
  kind : X.env.scope.kind = .function
  glob : X.env.globals = mainGlobals
  blt : X.env.builtins = builtinsNs
  above : X.s₀.heap.objs.size ≤ X.env.locals
  inj : ∀ x y c, X.env.cells.lookup x = some c → X.env.cells.lookup y = some c → x = y
  has : ∀ x, (X.env.kindOf x = some .cell ∨ X.env.kindOf x = some .free) → ∃ c, X.env.cells.lookup x = some c
  cab : ∀ x c, X.fn x = true → X.env.cells.lookup x = some c → X.s₀.heap.objs.size ≤ c
  hd : X.calm = true → X.A.handled = none
  frames : X.A.frames = some X.stack
  stk : X.stack = X.outer ∨ (X.stack = X.env :: X.outer ∧ X.env.frame = some X.env.locals)
  exf : ∀ b ∈ X.ex, b ≠ X.env.locals ∧ ∀ x c, X.env.cells.lookup x = some c → c ≠ b
  bs : ∀ b o, X.base.get? b = some o → X.s₀.heap.get? b = some o ∧ X.H₀ b = none
  bsz : X.base.objs.size ≤ X.s₀.heap.objs.size
  noex : ∀ b o, X.base.get? b = some o → b ∉ X.ex
  exfs : ∀ b ∈ X.ex, b ∉ X.fs
  funs : X.s₀.heap.FunFrames X.base X.outer
  frf : ∀ b ∈ X.fs, X.H₀ b = none
structure Inv (X : Cx) (pins : List (Addr × Obj)) (σ : List (Option V)) (H : Hp) (s : Shared) : Prop where
  ok : X.Ok
  os : s.os = X.s₀.os
  bare : AllBare s.gens
  base : Un X.fs X.ex X.H₀ H X.s₀.heap s.heap
  loc : ∃ m, s.heap.Ns X.env.locals m ∧ ∀ (i : Nat) (x : Str) (v : V), X.N[i]? = some x → σ[i]? = some (some v) → Vis X.env.scope x → ∃ u, RelV v u ∧ Look X.env s.heap m x u
  cell : ∀ x c, X.env.cells.lookup x = some c → ∃ v, s.heap.IsCell c v
  free : H X.env.locals = none
  freeC : ∀ x c, X.env.cells.lookup x = some c → H c = none
  pin : ∀ p ∈ X.pn ++ pins, s.heap.get? p.1 = some p.2 ∧ H p.1 = none ∧ p.1 ≠ X.env.locals ∧ p.1 ∉ X.fs ∧ ∀ v, p.2.data ≠ .cell v
  hok : HOk X.prog X.w H s.heap
  len : σ.length = X.N.length
section
variable {X : Cx} {pins : List (Addr × Obj)} {σ : List (Option V)} {H H' : Hp} {s : Shared} {h' : Heap}
theorem Cx.Ok.nofr (ok : X.Ok) {b : Addr} {o : Obj} (e : X.base.get? b = some o) : b ∉ X.fs := fun hb => by
  have := (ok.funs.mem hb).1
  rw [e] at this; cases this
theorem Inv.bs (I : Inv X pins σ H s) : ∀ b o, X.base.get? b = some o → s.heap.get? b = some o ∧ H b = none := fun b o e =>
  ⟨I.base.keep b o (I.ok.bs b o e).1 (I.ok.bs b o e).2 (I.ok.nofr e) (I.ok.noex b o e), I.base.free b o (I.ok.bs b o e).1 (I.ok.bs b o e).2 (I.ok.noex b o e)⟩
theorem Inv.bk (I : Inv X pins σ H s) : ∀ b o, X.base.get? b = some o → s.heap.get? b = some o := fun b o e => (I.bs b o e).1
theorem Inv.mod (I : Inv X pins σ H s) : Mod X.K X.mg X.base := I.ok.mod
theorem Inv.kIn (I : Inv X pins σ H s) : X.K.In s.heap := I.ok.mod.kin.keeps I.bk
theorem Inv.lt (I : Inv X pins σ H s) : X.env.locals < s.heap.objs.size := let ⟨_, hn, _⟩ := I.loc; hn.lt
theorem Inv.sz (I : Inv X pins σ H s) : X.s₀.heap.objs.size ≤ s.heap.objs.size := Nat.le_trans I.ok.above (Nat.le_of_lt I.lt)
theorem Inv.nofs (I : Inv X pins σ H s) {a : Addr} (h : s.heap.objs.size ≤ a) : a ∉ X.fs := fun hb => by
  obtain ⟨_, o, ho, _⟩ := I.ok.funs.mem hb
  exact absurd (Nat.lt_of_lt_of_le (Heap.lt_size ho) (Nat.le_trans I.sz h)) (Nat.lt_irrefl _)
theorem Inv.cne (I : Inv X pins σ H s) : ∀ x c, X.env.cells.lookup x = some c → c ≠ X.env.locals := fun x c e z => by
  obtain ⟨v, o, ho, hd⟩ := I.cell x c e
  obtain ⟨m, ⟨o', es, ep, ho', hd', _⟩, _⟩ := I.loc
  rw [z, ho'] at ho; cases ho; rw [hd'] at hd; cases hd
theorem Inv.funs (I : Inv X pins σ H s) : s.heap.FunFrames X.base X.outer := by
  have all : ∀ (l : List Env), (∀ b ∈ frs l, b ∈ X.fs) → X.s₀.heap.FunFrames X.base l → s.heap.FunFrames X.base l := by
    intro l
    induction l with
    | nil => intro _ _; trivial
    | cons env r ih =>
      intro hs hl
      obtain ⟨hk, ⟨L, o, hf, hn, ho, hd⟩, hr⟩ := hl
      have hL : L ∈ X.fs := hs L (by unfold frs; rw [List.filterMap_cons, hf]; exact List.mem_cons_self)
      obtain ⟨sl, e⟩ := I.base.slot L o ho (I.ok.frf L hL) hL fun z => I.ok.exfs L z hL
      exact ⟨hk, ⟨L, _, hf, hn, e, hd⟩, ih (fun b hb => hs b (by unfold frs; rw [List.filterMap_cons, hf]; exact List.mem_cons_of_mem _ hb)) hr⟩
  exact all X.outer (fun _ hb => hb) I.ok.funs
theorem Inv.stack (I : Inv X pins σ H s) : s.heap.FunFrames X.base X.stack := by
  rcases I.ok.stk with e | ⟨e, hf⟩
  · rw [e]; exact I.funs
  · rw [e]
    obtain ⟨m, hn, _⟩ := I.loc
    refine .cons (by rw [I.ok.kind]; decide) hf hn ?_ I.funs
    exact Heap.get?_none_of_le (Nat.le_trans I.ok.bsz I.ok.above)
theorem Inv.stkSub (I : Inv X pins σ H s) : ∀ b ∈ frs X.stack, b ∈ X.env.locals :: X.fs := fun b hb => by
  rcases I.ok.stk with e | ⟨e, hf⟩
  · rw [e] at hb; exact List.mem_cons_of_mem _ hb
  · rw [e] at hb
    unfold frs at hb
    rw [List.filterMap_cons, hf] at hb
    exact hb
theorem Inv.stkFree (I : Inv X pins σ H s) : ∀ b ∈ frs X.stack, H b = none := fun b hb => by
  rcases List.mem_cons.mp (I.stkSub b hb) with e | hb
  · rw [e]; exact I.free
  · obtain ⟨_, o, ho, _⟩ := I.ok.funs.mem hb
    exact I.base.free b o ho (I.ok.frf b hb) fun z => I.ok.exfs b z hb
theorem Inv.step {g' : Array GenState} {t' : Nat} {d' : Drawn} {ch : List Addr} (I : Inv X pins σ H s)
    (hch : ∀ b ∈ ch, (b ∈ X.ex ∨ X.s₀.heap.objs.size ≤ b) ∧ b ≠ X.env.locals ∧ (∀ x c, X.env.cells.lookup x = some c → c ≠ b) ∧ ∀ p ∈ X.pn ++ pins, p.1 ≠ b)
    (keep : ∀ b o, b ≠ X.env.locals → b ∉ X.fs → b ∉ ch → s.heap.get? b = some o → H b = none → h'.get? b = some o)
    (slot : ∀ b o, b ≠ X.env.locals → b ∈ X.fs → b ∉ ch → s.heap.get? b = some o → H b = none → ∃ sl, h'.get? b = some { o with slots := sl }) (free : ∀ b o, b ∉ ch → s.heap.get? b = some o → H b = none → H' b = none)
    (there : ∀ b o, b ∉ ch → s.heap.get? b = some o → ∃ o', h'.get? b = some o')
    (tups : ∀ b xs, H b = some (.tup xs) → H' b = some (.tup xs)) (frzs : ∀ b o u, H b = some (.frz o u) → H' b = some (.frz o u)) (tbls : ∀ b ps, H b = some (.tbl ps) → ∃ more, H' b = some (.tbl (ps ++ more)))
    (ns : ∀ m, s.heap.Ns X.env.locals m → h'.Ns X.env.locals m) (hok : HOk X.prog X.w H' h') (hg : AllBare g') :
    Inv X pins σ H' { s with heap := h', gens := g', drawn := d', toks := t' } := by
  have neL : ∀ b o, X.s₀.heap.get? b = some o → b ≠ X.env.locals := fun b o e => Nat.ne_of_lt (Nat.lt_of_lt_of_le (Heap.lt_size e) I.ok.above)
  have neC : ∀ b o, X.s₀.heap.get? b = some o → b ∉ X.ex → b ∉ ch := fun b o e hx hb => by
    rcases (hch b hb).1 with z | z
    · exact hx z
    · exact absurd (Nat.lt_of_lt_of_le (Heap.lt_size e) z) (Nat.lt_irrefl _)
  have cellK : ∀ x c, X.env.cells.lookup x = some c → ∀ v, s.heap.IsCell c v → h'.IsCell c v := fun x c e v ⟨o, ho, hd⟩ => by
    have nch : c ∉ ch := fun z => (hch c z).2.2.1 x c e rfl
    by_cases hc : c ∈ X.fs
    · obtain ⟨sl, q⟩ := slot c o (I.cne x c e) hc nch ho (I.freeC x c e)
      exact ⟨_, q, hd⟩
    · exact ⟨o, keep c o (I.cne x c e) hc nch ho (I.freeC x c e), hd⟩
  refine ⟨I.ok, I.os, hg, ⟨fun b o e n hb hx => ?_, fun b o e n hb hx => ?_, fun b o e n hx => ?_, fun b o e hx => ?_, fun b xs e => tups b xs (I.base.tups b xs e), fun b o xs e => frzs b o xs (I.base.frzs b o xs e), fun b ps e => ?_⟩, ?_, fun x c e => ?_, ?_, fun x c e => ?_, fun p hp => ?_, hok, I.len⟩
  · exact keep b o (neL b o e) hb (neC b o e hx) (I.base.keep b o e n hb hx) (I.base.free b o e n hx)
  · obtain ⟨sl, e1⟩ := I.base.slot b o e n hb hx
    obtain ⟨sl', e2⟩ := slot b _ (neL b o e) hb (neC b o e hx) e1 (I.base.free b o e n hx)
    exact ⟨sl', e2⟩
  · obtain ⟨o', e1⟩ := I.base.there b o e hx
    exact free b o' (neC b o e hx) e1 (I.base.free b o e n hx)
  · obtain ⟨o', e1⟩ := I.base.there b o e hx
    exact there b o' (neC b o e hx) e1
  · obtain ⟨m1, e1⟩ := I.base.tbls b ps e
    obtain ⟨m2, e2⟩ := tbls b _ e1
    exact ⟨m1 ++ m2, by rw [e2, Array.append_assoc]⟩
  · obtain ⟨m, hn, hl⟩ := I.loc
    refine ⟨m, ns m hn, fun i x v e1 e2 e3 => ?_⟩
    obtain ⟨u, r, l⟩ := hl i x v e1 e2 e3
    refine ⟨u, r, ?_⟩
    rcases l with l | ⟨k, c, e, z⟩
    · exact .inl l
    · exact .inr ⟨k, c, e, cellK x c e _ z⟩
  · obtain ⟨v, z⟩ := I.cell x c e
    exact ⟨v, cellK x c e v z⟩
  · obtain ⟨m, ⟨o, _, _, ho, _⟩, _⟩ := I.loc
    exact free _ o (fun z => (hch _ z).2.1 rfl) ho I.free
  · obtain ⟨v, o, ho, hd⟩ := I.cell x c e
    exact free c o (fun z => (hch c z).2.2.1 x c e rfl) ho (I.freeC x c e)
  · obtain ⟨e, n, ne, nf, d⟩ := I.pin p hp
    have nch : p.1 ∉ ch := fun z => (hch p.1 z).2.2.2 p hp rfl
    exact ⟨keep p.1 p.2 ne nf nch e n, free p.1 p.2 nch e n, ne, nf, d⟩
theorem Inv.un {t' : Nat} (I : Inv X pins σ H s) (u : Un X.fs [] H H' s.heap h') (hok : HOk X.prog X.w H' h') : Inv X pins σ H' { s with heap := h', toks := t' } := by
  obtain ⟨m, ⟨o, es, ep, ho, r⟩, _⟩ := id I.loc
  obtain ⟨sl, hL⟩ := u.any ho I.free (by simp)
  exact I.step (g' := s.gens) (d' := s.drawn) (ch := []) (fun _ z => nomatch z) (fun b o _ hb _ e n => u.keep b o e n hb (by simp)) (fun b o _ hb _ e n => u.slot b o e n hb (by simp)) (fun b o _ e n => u.free b o e n (by simp)) (fun b o _ e => u.there b o e (by simp)) u.tups u.frzs u.tbls (fun m' hm => by
    obtain ⟨o', es', ep', ho', r'⟩ := hm
    rw [ho] at ho'; cases ho'
    exact ⟨_, es', ep', hL, r'⟩) hok I.bare
theorem Inv.call {g' : Array GenState} {t' : Nat} {d' : Drawn} {ch : List Addr} (I : Inv X pins σ H s) (u : Un (frs X.stack) ch H H' s.heap h') (hok : HOk X.prog X.w H' h') (hg : AllBare g')
    (hch : ∀ b ∈ ch, (b ∈ X.ex ∨ X.s₀.heap.objs.size ≤ b) ∧ b ≠ X.env.locals ∧ (∀ x c, X.env.cells.lookup x = some c → c ≠ b) ∧ ∀ p ∈ X.pn ++ pins, p.1 ≠ b) :
    Inv X pins σ H' { s with heap := h', gens := g', drawn := d', toks := t' } := by
  obtain ⟨m, ⟨o, es, ep, ho, r⟩, _⟩ := id I.loc
  obtain ⟨sl, hL⟩ := u.any ho I.free fun z => (hch _ z).2.1 rfl
  exact I.step (ch := ch) hch (fun b o hL hb hc e n => u.keep b o e n (fun z => (List.mem_cons.mp (I.stkSub b z)).elim hL hb) hc) (fun b o _ _ hc e n => u.any e n hc) (fun b o hc e n => u.free b o e n hc) (fun b o hc e => u.there b o e hc) u.tups u.frzs u.tbls (fun m' hm => by
    obtain ⟨o', es', ep', ho', r'⟩ := hm
    rw [ho] at ho'; cases ho'
    exact ⟨_, es', ep', hL, r'⟩) hok hg
theorem Inv.turned {t' : Nat} {it : Addr} (I : Inv X pins σ H s) (k : ∀ b o, b ≠ it → s.heap.get? b = some o → h'.get? b = some o) (hn : H it = none) (hL : it ≠ X.env.locals)
    (h1 : it ∈ X.ex ∨ X.s₀.heap.objs.size ≤ it) (h2 : ∀ x c, X.env.cells.lookup x = some c → c ≠ it) (h3 : ∀ p ∈ X.pn ++ pins, p.1 ≠ it) : Inv X pins σ H { s with heap := h', toks := t' } := by
  have nit : ∀ b u, H b = some u → b ≠ it := fun b u e z => by rw [z, hn] at e; cases e
  refine I.step (g' := s.gens) (d' := s.drawn) (ch := [it]) (fun b hb => ?_) (fun b o _ _ hc e _ => k b o (fun z => hc (by simp [z])) e) (fun b o _ _ hc e _ => ⟨o.slots, k b o (fun z => hc (by simp [z])) e⟩) (fun _ _ _ _ n => n)
    (fun b o hc e => ⟨o, k b o (fun z => hc (by simp [z])) e⟩) (fun _ _ e => e) (fun _ _ _ e => e) (fun b ps e => ⟨#[], by rw [e]; simp⟩) (fun m hm => ?_) (fun b u e => ?_) I.bare
  · have e : b = it := by simpa using hb
    subst e
    exact ⟨h1, hL, h2, h3⟩
  · obtain ⟨o, es, ep, ho, r⟩ := hm
    exact ⟨o, es, ep, k _ o (Ne.symm hL) ho, r⟩
  · refine (I.hok b u e).stay (fun c v hc q => k c v ?_ q) (fun _ q => q) fun _ _ q => q
    rcases hc with z | z
    · rw [z]; exact nit b u e
    · exact nit c _ z
theorem Inv.tok (I : Inv X pins σ H s) (t : Nat) : Inv X pins σ H { s with toks := t } := I.un (h' := s.heap) (t' := t) Un.refl I.hok
theorem Inv.kept {t' : Nat} (I : Inv X pins σ H s) (k : ∀ b u, s.heap.get? b = some u → h'.get? b = some u) : Inv X pins σ H { s with heap := h', toks := t' } := I.un (Un.kept k) (I.hok.kept k)
theorem Inv.laid {a : Addr} {o : HO} {t' : Nat} (I : Inv X pins σ H s) (k : ∀ b u, s.heap.get? b = some u → h'.get? b = some u) (hp : s.heap.objs.size ≤ a) (new : ObjOk X.prog X.w (upd H a o) h' a o) :
    Inv X pins σ (upd H a o) { s with heap := h', toks := t' } := I.un (Un.laid k hp (I.hok.fresh hp)) (I.hok.laid k hp new)
theorem Inv.write {x e : Addr} {o : HO} {t' : Nat} (I : Inv X pins σ H s) (mu : Mut (H x)) (he : e = x ∨ H e = some (.own x)) (k : ∀ b u, b ≠ e → s.heap.get? b = some u → h'.get? b = some u) (heo : ∃ u, h'.get? e = some u)
    (new : ObjOk X.prog X.w (upd H x o) h' x o) : Inv X pins σ (upd H x o) { s with heap := h', toks := t' } := I.un (Un.write mu he k heo) (I.hok.write mu he k heo new)
theorem Inv.weak {σ' : List (Option V)} (I : Inv X pins σ H s) (hl : σ'.length = σ.length) (w : ∀ (i : Nat) v, σ'[i]? = some (some v) → σ[i]? = some (some v)) : Inv X pins σ' H s :=
  ⟨I.ok, I.os, I.bare, I.base, let ⟨m, hn, hl'⟩ := I.loc; ⟨m, hn, fun i x v e1 e2 e3 => hl' i x v e1 (w i v e2) e3⟩, I.cell, I.free, I.freeC, I.pin, I.hok, hl.trans I.len⟩
theorem Inv.pins_of {pins' : List (Addr × Obj)} (I : Inv X pins σ H s) (h : ∀ p ∈ pins', s.heap.get? p.1 = some p.2 ∧ H p.1 = none ∧ p.1 ≠ X.env.locals ∧ p.1 ∉ X.fs ∧ ∀ v, p.2.data ≠ .cell v) : Inv X pins' σ H s :=
  ⟨I.ok, I.os, I.bare, I.base, I.loc, I.cell, I.free, I.freeC, fun p hp => (List.mem_append.mp hp).elim (fun z => I.pin p (List.mem_append_left _ z)) (h p), I.hok, I.len⟩
theorem nodup_ix {N : List Str} (hN : N.Nodup) {i j : Nat} {x : Str} (a : N[i]? = some x) (b : N[j]? = some x) : i = j := by
  obtain ⟨h1, e1⟩ := List.getElem?_eq_some_iff.mp a
  obtain ⟨h2, e2⟩ := List.getElem?_eq_some_iff.mp b
  exact (List.getElem_inj hN).mp (e1.trans e2.symm)
theorem store_ok2 {M : Model} {A : Around} {E : Value → Shared → Prop} {i : Nat} {x : Str} {v : V} {u : Value} {Q : Unit → Shared → Prop} (I : Inv X pins σ H s) (hN : X.N.Nodup) (hi : X.N[i]? = some x) (hx : Loc X.env.scope x) (r : RelV v u)
    (h : ∀ s', Inv X pins (σ.set i (some v)) H s' → (∃ a, Heap.SameBut a s.heap s'.heap ∧ (a = X.env.locals ∨ X.env.cells.lookup x = some a)) → Q () s') (hf : X.fn x = true ∨ X.env.scope.names.lookup x = some .local := by first | exact .inl rfl | exact .inr rfl | assumption) : wpAny M A (storeName X.env x u) Q E s := by
  obtain ⟨m, hn, hl⟩ := id I.loc
  have hcls : (X.env.scope.kind == .class || (X.env.scope.kind == .module && X.env.locals != X.env.globals)) = false := by rw [I.ok.kind]; rfl
  have hiσ : i < σ.length := by rw [I.len]; exact (List.getElem?_eq_some_iff.mp hi).1
  have cne := I.cne
  have tracked : ∀ {a : Addr} {h' : Heap}, (∃ o, s.heap.get? a = some o ∧ H a = none) → Heap.SameBut a s.heap h' → HOk X.prog X.w H h' := fun {a h'} ha hs b ob e => by
    obtain ⟨_, _, hfree⟩ := ha
    refine (I.hok b ob e).stay (fun c w' hc q => (hs.2 c ?_).trans q) (fun _ q => q) fun _ _ q => q
    rintro rfl
    rcases hc with rfl | hc
    · rw [hfree] at e; cases e
    · rw [hfree] at hc; cases hc
  rcases hx with hk | hk
  · refine wpAny_storeName_local hk hn (fun h' hn' hs => ?_) hcls
    obtain ⟨oL, _, _, hoL, _⟩ := id hn
    refine h _ ⟨I.ok, I.os, I.bare, ⟨fun b o e n hb hx => ?_, fun b o e n hb hx => ?_, I.base.free, fun b o e hx => ?_, I.base.tups, I.base.frzs, I.base.tbls⟩, ⟨_, hn', fun j y v' e1 e2 e3 => ?_⟩, fun y c e => ?_, I.free, I.freeC, fun p hp => ?_, tracked ⟨oL, hoL, I.free⟩ hs, by simpa using I.len⟩ ⟨_, hs, .inl rfl⟩
    · exact (hs.2 b (Nat.ne_of_lt (Nat.lt_of_lt_of_le (Heap.lt_size e) I.ok.above))).trans (I.base.keep b o e n hb hx)
    · obtain ⟨sl, e1⟩ := I.base.slot b o e n hb hx
      exact ⟨sl, (hs.2 b (Nat.ne_of_lt (Nat.lt_of_lt_of_le (Heap.lt_size e) I.ok.above))).trans e1⟩
    · obtain ⟨o', e1⟩ := I.base.there b o e hx
      exact ⟨o', (hs.2 b (Nat.ne_of_lt (Nat.lt_of_lt_of_le (Heap.lt_size e) I.ok.above))).trans e1⟩
    · by_cases hj : j = i
      · subst hj
        rw [hi] at e1; cases e1
        rw [List.getElem?_set_self hiσ] at e2
        cases e2
        exact ⟨u, r, .inl ⟨hk, by simp⟩⟩
      · rw [List.getElem?_set_ne (Ne.symm hj)] at e2
        obtain ⟨u', r', q⟩ := hl j y v' e1 e2 e3
        refine ⟨u', r', ?_⟩
        rcases q with ⟨k, e⟩ | ⟨k, c, e, z⟩
        · refine .inl ⟨k, ?_⟩
          have : y ≠ x := fun e => hj (nodup_ix hN e1 (e ▸ hi))
          simp [this, e]
        · exact .inr ⟨k, c, e, z.sameBut hs (cne y c e)⟩
    · obtain ⟨w', z⟩ := I.cell y c e
      exact ⟨w', z.sameBut hs (cne y c e)⟩
    · obtain ⟨e, n, ne, nf, d⟩ := I.pin p hp
      exact ⟨(hs.2 p.1 ne).trans e, n, ne, nf, d⟩
  · have hfn : X.fn x = true := by
      rcases hf with z | z
      · exact z
      · rw [z] at hk; cases hk
    obtain ⟨c, hc⟩ := I.ok.has x (.inl hk)
    obtain ⟨w', z⟩ := I.cell x c hc
    refine wpAny_storeName_cell I.ok.kind hk hc z (fun h' hc' hs => ?_)
    obtain ⟨oc, hoc, hocd⟩ := id z
    refine h { s with heap := h' } ⟨I.ok, I.os, I.bare, ⟨fun b o e n hb hx => ?_, fun b o e n hb hx => ?_, I.base.free, fun b o e hx => ?_, I.base.tups, I.base.frzs, I.base.tbls⟩, ⟨m, hn.sameBut hs (Ne.symm (cne x c hc)), fun j y v' e1 e2 e3 => ?_⟩, fun y c' e => ?_, I.free, I.freeC, fun p hp => ?_, tracked ⟨oc, hoc, I.freeC x c hc⟩ hs, by simpa using I.len⟩ ⟨c, hs, .inr hc⟩
    · exact (hs.2 b (Nat.ne_of_lt (Nat.lt_of_lt_of_le (Heap.lt_size e) (I.ok.cab x c hfn hc)))).trans (I.base.keep b o e n hb hx)
    · obtain ⟨sl, e1⟩ := I.base.slot b o e n hb hx
      exact ⟨sl, (hs.2 b (Nat.ne_of_lt (Nat.lt_of_lt_of_le (Heap.lt_size e) (I.ok.cab x c hfn hc)))).trans e1⟩
    · obtain ⟨o', e1⟩ := I.base.there b o e hx
      exact ⟨o', (hs.2 b (Nat.ne_of_lt (Nat.lt_of_lt_of_le (Heap.lt_size e) (I.ok.cab x c hfn hc)))).trans e1⟩
    · by_cases hj : j = i
      · subst hj
        rw [hi] at e1; cases e1
        rw [List.getElem?_set_self hiσ] at e2
        cases e2
        exact ⟨u, r, .inr ⟨.inl hk, c, hc, hc'⟩⟩
      · rw [List.getElem?_set_ne (Ne.symm hj)] at e2
        obtain ⟨u', r', q⟩ := hl j y v' e1 e2 e3
        refine ⟨u', r', ?_⟩
        rcases q with q | ⟨k, c', e, z'⟩
        · exact .inl q
        · refine .inr ⟨k, c', e, z'.sameBut hs ?_⟩
          rintro rfl
          exact hj (nodup_ix hN e1 (I.ok.inj _ _ _ e hc ▸ hi))
    · by_cases hcc : c' = c
      · subst hcc; exact ⟨_, hc'⟩
      · obtain ⟨w2, z2⟩ := I.cell y c' e
        exact ⟨w2, z2.sameBut hs hcc⟩
    · obtain ⟨e, n, ne, nf, d⟩ := I.pin p hp
      refine ⟨(hs.2 p.1 ?_).trans e, n, ne, nf, d⟩
      intro q
      rw [q, hoc] at e
      have q' : oc = p.2 := Option.some.inj e
      exact d w' (by rw [← q']; exact hocd)
theorem store_ok {M : Model} {A : Around} {E : Value → Shared → Prop} {i : Nat} {x : Str} {v : V} {u : Value} {Q : Unit → Shared → Prop} (I : Inv X pins σ H s) (hN : X.N.Nodup) (hi : X.N[i]? = some x) (hx : Loc X.env.scope x) (r : RelV v u)
    (h : ∀ s', Inv X pins (σ.set i (some v)) H s' → Q () s') (hf : X.fn x = true ∨ X.env.scope.names.lookup x = some .local := by first | exact .inl rfl | exact .inr rfl | assumption) : wpAny M A (storeName X.env x u) Q E s :=
  store_ok2 I hN hi hx r (fun s' I' _ => h s' I') hf
theorem Inv.call' {s' : Shared} {ch : List Addr} (I : Inv X pins σ H s) (ho : s'.os = s.os) (u : Un (frs X.stack) ch H H' s.heap s'.heap) (hok : HOk X.prog X.w H' s'.heap) (hg : AllBare s'.gens)
    (hch : ∀ b ∈ ch, (b ∈ X.ex ∨ X.s₀.heap.objs.size ≤ b) ∧ b ≠ X.env.locals ∧ (∀ x c, X.env.cells.lookup x = some c → c ≠ b) ∧ ∀ p ∈ X.pn ++ pins, p.1 ≠ b) : Inv X pins σ H' s' := by
  obtain ⟨h', g', d', t', o'⟩ := s'
  have e : o' = s.os := ho
  subst e
  exact I.call (g' := g') (t' := t') (d' := d') u hok hg hch
end
abbrev XK := Value → Option Addr → Hp → Prop
abbrev St := List (Option V)
abbrev VK := V → Hp → Prop
abbrev TE := St → Hp → VK → Prop
abbrev TT := St → Hp → (Bool → Hp → Prop) → Prop
abbrev TA := St → Hp → (List V → Hp → Prop) → Prop
structure Ends where
  nx : St → Hp → Prop
  rt : VK
  bk : St → Hp → Prop := fun _ _ => False
  ct : St → Hp → Prop := fun _ _ => False
abbrev TS := Ends → St → Hp → Prop
def EP (X : Cx) (pins : List (Addr × Obj)) (σ : St) (Q : VK) (u : Value) (s' : Shared) : Prop := ∃ v H', Inv X pins σ H' s' ∧ RelV v u ∧ Q v H'
def TP (X : Cx) (pins : List (Addr × Obj)) (σ : St) (Q : Bool → Hp → Prop) (b : Bool) (s' : Shared) : Prop := ∃ H', Inv X pins σ H' s' ∧ Q b H'
def AP (X : Cx) (pins : List (Addr × Obj)) (σ : St) (Q : List V → Hp → Prop) (us : List Value) (s' : Shared) : Prop := ∃ vs H', Inv X pins σ H' s' ∧ Vals vs us ∧ Q vs H'
def SP (X : Cx) (pins : List (Addr × Obj)) (D : Ends) (f : Flow) (s' : Shared) : Prop :=
  match f with
  | .next => ∃ σ' H', Inv X pins σ' H' s' ∧ D.nx σ' H'
  | .brk => ∃ σ' H', Inv X pins σ' H' s' ∧ D.bk σ' H'
  | .cont => ∃ σ' H', Inv X pins σ' H' s' ∧ D.ct σ' H'
  | .ret u => ∃ v σ' H', Inv X pins σ' H' s' ∧ RelV v u ∧ D.rt v H'
def PE (X : Cx) (e : Expr) (t : TE) : Prop :=
  ∀ (pins : List (Addr × Obj)) (s : Shared) (σ : St) (H : Hp) (Q : VK), Inv X pins σ H s → t σ H Q → wpAny (model X.prog X.w) X.A (eval e X.env) (EP X pins σ Q) X.xe s
def PT (X : Cx) (e : Expr) (t : TT) : Prop :=
  ∀ (pins : List (Addr × Obj)) (s : Shared) (σ : St) (H : Hp) (Q : Bool → Hp → Prop), Inv X pins σ H s → t σ H Q → wpAny (model X.prog X.w) X.A (isTrue e X.env (eval e X.env)) (TP X pins σ Q) X.xe s
def PW (X : Cx) (e : Expr) (t : TT) : Prop :=
  ∀ (whole : Sem Value) (pins : List (Addr × Obj)) (s : Shared) (σ : St) (H : Hp) (Q : Bool → Hp → Prop), Inv X pins σ H s → t σ H Q → wpAny (model X.prog X.w) X.A (isTrue e X.env whole) (TP X pins σ Q) X.xe s
theorem PW.pt {X : Cx} {e : Expr} {t : TT} (h : PW X e t) : PT X e t := h _
def PA (X : Cx) (es : List Expr) (t : TA) : Prop :=
  ∀ (pos : Pos) (pins : List (Addr × Obj)) (s : Shared) (σ : St) (H : Hp) (Q : List V → Hp → Prop), Inv X pins σ H s → t σ H Q → wpAny (model X.prog X.w) X.A (spliced (backTo pos (starEach es X.env))) (AP X pins σ Q) X.xe s
def PS (X : Cx) (st : Stmt) (t : TS) : Prop :=
  ∀ (pins : List (Addr × Obj)) (s : Shared) (σ : St) (H : Hp) (D : Ends), Inv X pins σ H s → t D σ H → wpAny (model X.prog X.w) X.A (exec st X.env) (SP X pins D) X.xe s
def PSs (X : Cx) (st : List Stmt) (t : TS) : Prop :=
  ∀ (pins : List (Addr × Obj)) (s : Shared) (σ : St) (H : Hp) (D : Ends), Inv X pins σ H s → t D σ H → wpAny (model X.prog X.w) X.A (execs st X.env) (SP X pins D) X.xe s
theorem thn {α : Type} {t : Sem α} {Q Q' : α → Shared → Prop} {M : Model} {A : Around} {E : Value → Shared → Prop} {s : Shared} (h : wpAny M A t Q E s) (hQ : ∀ a s, Q a s → Q' a s) : wpAny M A t Q' E s := wpAny_mono h hQ fun _ _ x => x
end L2
namespace L2
open PySem PySem.Spec PyProof.Rows
section
variable {X : Cx}
def tVar (i : Nat) : TE := fun σ H Q => ∃ v, σ[i]? = some (some v) ∧ Q v H
def tC (v : V) : TE := fun _ H Q => Q v H
theorem pe_var {i : Nat} {x : Str} {pos : Pos} (hN : X.N[i]? = some x) (hv : Vis X.env.scope x) (hd : (x == ("__debug__" : Str)) = false := by decide) (hcd : (x == ("__classdict__" : Str)) = false := by decide) : PE X (.Name x pos) (tVar i) := by
  intro pins s σ H Q I h
  obtain ⟨v, e, h⟩ := h
  obtain ⟨m, hn, hl⟩ := I.loc
  obtain ⟨u, r, l⟩ := hl i x v hN e hv
  have fin : EP X pins σ Q u s := ⟨v, H, I, r, h⟩
  rcases l with ⟨hk, hm⟩ | ⟨hk, c, hc, hcell⟩
  · exact wpAny_Name (wpAny_loadName_local I.ok.kind hk hn hm fin) hd
  · rcases hk with hk | hk
    · exact wpAny_Name (wpAny_loadName_cell I.ok.kind hk hc hcell fin) hd
    · exact wpAny_Name (wpAny_loadName_free I.ok.kind hk hc hcell fin hcd) hd
theorem pe_int {i j pos} : PE X (.Constant (.int i) j pos) (tC (.int i)) := fun _ _ _ H _ I h => wpAny_Constant_int ⟨.int i, H, I.tok _, ⟨_, rfl⟩, h⟩
theorem pe_bl {b j pos} : PE X (.Constant (.bool b) j pos) (tC (.bl b)) := fun _ _ _ H _ I h => Constant_bool ⟨.bl b, H, I, rfl, h⟩
theorem pe_non {j pos} : PE X (.Constant .none j pos) (tC .non) := fun _ _ _ H _ I h => Constant_none ⟨.non, H, I, rfl, h⟩
theorem pe_str {x j pos} : PE X (.Constant (.str x) j pos) (tC (.str x)) := fun _ _ _ H _ I h => Calls.Constant_str ⟨.str x, H, I.tok _, ⟨_, rfl⟩, h⟩
def Gl (X : Cx) (x : Str) : Prop := X.env.kindOf x = some .globalImplicit
theorem ld_glob {E : Value → Shared → Prop} {pins : List (Addr × Obj)} {s : Shared} {σ : St} {H : Hp} {x : Str} {u : Value} {pos : Pos} {Q : Value → Shared → Prop} (I : Inv X pins σ H s) (hg : Gl X x) (hm : X.mg x = some u) (h : Q u s)
    (hd : (x == ("__debug__" : Str)) = false := by decide) : wpAny (model X.prog X.w) X.A (eval (.Name x pos) X.env) Q E s :=
  Calls.Name_function_global I.ok.kind hg (Calls.loadGlobal_global (by rw [I.ok.glob]; exact I.mod.glob.keeps I.bk) hm h) hd
theorem ld_blt {E : Value → Shared → Prop} {pins : List (Addr × Obj)} {s : Shared} {σ : St} {H : Hp} {x : Str} {u : Value} {pos : Pos} {Q : Value → Shared → Prop} (I : Inv X pins σ H s) (hg : Gl X x) (hm : X.mg x = none) (hv : bootBuiltins x = some u) (h : Q u s)
    (hn : x ≠ "__name__" := by decide) (hd : (x == ("__debug__" : Str)) = false := by decide) : wpAny (model X.prog X.w) X.A (eval (.Name x pos) X.env) Q E s := by
  obtain ⟨mb, h1, h2⟩ := I.mod.blt
  exact Calls.Name_function_global I.ok.kind hg (Calls.loadGlobal_builtin (by rw [I.ok.glob]; exact I.mod.glob.keeps I.bk) hm (by rw [I.ok.blt]; exact h1.keeps I.bk) ((h2 x hn).trans hv) h) hd
theorem pe_glob {x : Str} {v : V} {u : Value} {pos : Pos} (hg : Gl X x) (hm : X.mg x = some u) (r : RelV v u) (hd : (x == ("__debug__" : Str)) = false := by decide) : PE X (.Name x pos) (tC v) :=
  fun _ _ _ H _ I h => ld_glob I hg hm ⟨v, H, I, r, h⟩ hd
theorem pe_bltn {x : Str} {v : V} {u : Value} {pos : Pos} (hg : Gl X x) (hm : X.mg x = none) (hv : bootBuiltins x = some u) (r : RelV v u) (hn : x ≠ "__name__" := by decide) (hd : (x == ("__debug__" : Str)) = false := by decide) : PE X (.Name x pos) (tC v) :=
  fun _ _ _ H _ I h => ld_blt I hg hm hv ⟨v, H, I, r, h⟩ hn hd
def t2I (ta tb : TE) (k : Int → Int → Hp → Prop) : St → Hp → Prop := fun σ H => ta σ H fun x H1 => tb σ H1 fun y H2 => ∃ i j, x = .int i ∧ y = .int j ∧ k i j H2
def tAdd (ta tb : TE) : TE := fun σ H Q => t2I ta tb (fun i j H2 => Q (.int (i + j)) H2) σ H
def tSub (ta tb : TE) : TE := fun σ H Q => t2I ta tb (fun i j H2 => Q (.int (i - j)) H2) σ H
def tMul (ta tb : TE) : TE := fun σ H Q => t2I ta tb (fun i j H2 => (-(2 ^ 64) < i ∧ i < 2 ^ 64) ∧ Q (.int (i * j)) H2) σ H
variable {a b : Expr} {ta tb : TE} {pos : Pos}
def PC (X : Cx) (op : CmpOp) (a b : Expr) (t : TE) : Prop :=
  ∀ (pins : List (Addr × Obj)) (s : Shared) (σ : St) (H : Hp) (Q : VK), Inv X pins σ H s → t σ H Q →
    wpAny (model X.prog X.w) X.A (eval a X.env) (fun v s₁ => wpAny (model X.prog X.w) X.A (eval b X.env) (fun u s₂ => wpAny (model X.prog X.w) X.A (compareOp op v u) (EP X pins σ Q) X.xe s₂) X.xe s₁) X.xe s
def tCmp (p : Int → Int → Bool) (ta tb : TE) : TE := fun σ H Q => t2I ta tb (fun i j H2 => Q (.bl (p i j)) H2) σ H
abbrev tLt : TE → TE → TE := tCmp fun i j => decide (i < j)
abbrev tLe : TE → TE → TE := tCmp fun i j => decide (i ≤ j)
abbrev tGt : TE → TE → TE := tCmp fun i j => decide (j < i)
abbrev tGe : TE → TE → TE := tCmp fun i j => decide (j ≤ i)
abbrev tEqI : TE → TE → TE := tCmp fun i j => decide (i = j)
abbrev tNeI : TE → TE → TE := tCmp fun i j => !decide (i = j)
def tIsN (ta : TE) : TE := fun σ H Q => ta σ H fun x H1 => Q (.bl (decide (x = .non))) H1
def tNotN (ta : TE) : TE := fun σ H Q => ta σ H fun x H1 => Q (.bl (!decide (x = .non))) H1
def tB (t : TE) : TT := fun σ H Q => t σ H fun x H1 => ∃ c, x = .bl c ∧ Q c H1
variable {tA tB' : TT} {rest : List Expr}
def tAnd (t u : TT) : TT := fun σ H Q => t σ H fun c H1 => if c = true then u σ H1 Q else Q false H1
def tOr (t u : TT) : TT := fun σ H Q => t σ H fun c H1 => if c = true then Q true H1 else u σ H1 Q
def tNot (t : TT) : TT := fun σ H Q => t σ H fun c H1 => Q (!c) H1
theorem pw_and1 (ha : PT X a tA) : PW X (.BoolOp .And [a] pos) tA := by
  intro wh pins s σ H Q I h
  refine isTrue_and (thn (ha pins s σ H Q I h) fun c s1 e => ?_)
  cases c with
  | true => exact isTrue_and_nil e
  | false => exact e
theorem pw_or1 (ha : PT X a tA) : PW X (.BoolOp .Or [a] pos) tA := by
  intro wh pins s σ H Q I h
  refine isTrue_or (thn (ha pins s σ H Q I h) fun c s1 e => ?_)
  cases c with
  | false => exact isTrue_or_nil e
  | true => exact e
theorem pw_and (ha : PT X a tA) (hb : PW X (.BoolOp .And (b :: rest) pos) tB') : PW X (.BoolOp .And (a :: b :: rest) pos) (tAnd tA tB') := by
  intro wh pins s σ H Q I h
  refine isTrue_and (thn (ha pins s σ H _ I h) fun c s1 ⟨H1, I1, q1⟩ => ?_)
  cases c with
  | true => exact hb wh pins s1 σ H1 Q I1 q1
  | false => exact ⟨H1, I1, q1⟩
theorem pw_or (ha : PT X a tA) (hb : PW X (.BoolOp .Or (b :: rest) pos) tB') : PW X (.BoolOp .Or (a :: b :: rest) pos) (tOr tA tB') := by
  intro wh pins s σ H Q I h
  refine isTrue_or (thn (ha pins s σ H _ I h) fun c s1 ⟨H1, I1, q1⟩ => ?_)
  cases c with
  | true => exact ⟨H1, I1, q1⟩
  | false => exact hb wh pins s1 σ H1 Q I1 q1
theorem pt_not (ha : PT X a tA) : PT X (.UnaryOp .Not a pos) (tNot tA) := by
  intro pins s σ H Q I h
  exact isTrue_not (ha pins s σ H (fun c H1 => Q (!c) H1) I h)
def tAndV (ta tb : TE) : TE := fun σ H Q => ta σ H fun x H1 => ∃ c, x = .bl c ∧ if c = true then tb σ H1 Q else Q (.bl false) H1
def tOrV (ta tb : TE) : TE := fun σ H Q => ta σ H fun x H1 => ∃ c, x = .bl c ∧ if c = true then Q (.bl true) H1 else tb σ H1 Q
def tNotV (ta : TE) : TE := fun σ H Q => ta σ H fun x H1 => ∃ c, x = .bl c ∧ Q (.bl (!c)) H1
theorem pe_one {op} {t : TE} (h : PE X a t) : PE X (.BoolOp op [a] pos) t := fun pins s σ H Q I hw => BoolOp_one (h pins s σ H Q I hw)
def tIf (t : TT) (ta tb : TE) : TE := fun σ H Q => t σ H fun c H1 => if c = true then ta σ H1 Q else tb σ H1 Q
theorem pe_ifExp {c : Expr} (hc : PT X c tA) (ha : PE X a ta) (hb : PE X b tb) : PE X (.IfExp c a b pos) (tIf tA ta tb) := by
  intro pins s σ H Q I h
  refine wpAny_IfExp (thn (hc pins s σ H _ I h) fun d s1 ⟨H1, I1, q1⟩ => ?_)
  cases d with
  | true => exact ha pins s1 σ H1 Q I1 q1
  | false => exact hb pins s1 σ H1 Q I1 q1
end
end L2
namespace L2
open PySem PySem.Spec PyProof.Rows
def SqL (K : PySem.W.Frag) (H : Hp) (a : Addr) (xs : List V) : Prop :=
  Rd H a (.lst xs) ∨
    ∃ (o : Obj) (its : Array Value) (n : Nat), K.lookup a = some o ∧ o.cls = .type "list" ∧ o.dict = none ∧ o.data = .seq its n ∧ its.size ≤ sizeLine ∧ Vals xs its.toList
def SqT (K : PySem.W.Frag) (H : Hp) (a : Addr) (xs : List V) : Prop :=
  Rd H a (.tup xs) ∨
    ∃ (o : Obj) (its : Array Value) (n : Nat), K.lookup a = some o ∧ o.cls = .type "tuple" ∧ o.data = .seq its n ∧ its.size ≤ sizeLine ∧ Vals xs its.toList
def absV : Value → Option V
  | .none => some .non
  | .bool b => some (.bl b)
  | .int i _ => some (.int i)
  | .str x _ => some (.str x)
  | .bytes b _ => some (.byt b)
  | .float b _ => some (.flt b)
  | .ref a => some (.ref a)
  | .type n => some (.ty n)
  | _ => none
theorem RelV.abs {x : V} {u : Value} (r : RelV x u) : absV u = some x := by
  cases x with
  | non => cases r; rfl
  | bl _ => cases r; rfl
  | int _ => obtain ⟨t, rfl⟩ := r; rfl
  | str _ => obtain ⟨t, rfl⟩ := r; rfl
  | byt _ => obtain ⟨t, rfl⟩ := r; rfl
  | flt _ => obtain ⟨t, rfl⟩ := r; rfl
  | ref _ => cases r; rfl
  | ty _ => cases r; rfl
theorem RelV.inj {x y : V} {u : Value} (r : RelV x u) (q : RelV y u) : x = y := Option.some.inj (r.abs.symm.trans q.abs)
theorem Vals.inj : ∀ {xs ys : List V} {us : List Value}, Vals xs us → Vals ys us → xs = ys
  | _, _, _, .nil, .nil => rfl
  | _, _, _, .cons r t, .cons r' t' => by rw [r.inj r', Vals.inj t t']
section
variable {X : Cx} {pins : List (Addr × Obj)} {σ : St} {H : Hp} {s : Shared} {a : Addr} {xs ys : List V}
theorem SqL.of {K : PySem.W.Frag} (h : H a = some (.lst xs)) : SqL K H a xs := .inl (.inl h)
theorem SqT.of {K : PySem.W.Frag} (h : H a = some (.tup xs)) : SqT K H a xs := .inl (.inl h)
theorem Inv.list (I : Inv X pins σ H s) (h : SqL X.K H a xs) : ∃ its : List Value, Vals xs its ∧ PlainL s.heap a its.toArray ∧ xs.length ≤ sizeLine := by
  rcases h with h | ⟨o, its, n, hk, hc, hd, hs, hz, r⟩
  · obtain ⟨z, its, n, r, e⟩ := h.ok I.hok
    exact ⟨its, r, ⟨_, n, e, rfl, rfl, rfl⟩, z⟩
  · refine ⟨its.toList, r, ⟨o, n, I.kIn a o hk, hc, hd, by simpa using hs⟩, ?_⟩
    have e := r.length
    simp only [Array.length_toList] at e
    omega
theorem Inv.tuple (I : Inv X pins σ H s) (h : SqT X.K H a xs) : ∃ its : List Value, Vals xs its ∧ IsTup s.heap a its.toArray ∧ xs.length ≤ sizeLine := by
  rcases h with h | ⟨o, its, n, hk, hc, hs, hz, r⟩
  · obtain ⟨z, its, r, p⟩ := h.ok I.hok
    exact ⟨its, r, p, z⟩
  · refine ⟨its.toList, r, ⟨o, I.kIn a o hk, hc, n, by simpa using hs⟩, ?_⟩
    have e := r.length
    simp only [Array.length_toList] at e
    omega
theorem Inv.list_inj (I : Inv X pins σ H s) (h : SqL X.K H a xs) (h' : SqL X.K H a ys) : xs = ys := by
  obtain ⟨its, r, ⟨o, n, e, _, _, d⟩, _⟩ := I.list h
  obtain ⟨its', r', ⟨o', n', e', _, _, d'⟩, _⟩ := I.list h'
  rw [e] at e'; cases e'
  rw [d] at d'
  injection d' with d1 _
  have : its = its' := by simpa using congrArg Array.toList d1
  subst this
  exact r.inj r'
theorem Inv.tuple_inj (I : Inv X pins σ H s) (h : SqT X.K H a xs) (h' : SqT X.K H a ys) : xs = ys := by
  obtain ⟨its, r, ⟨o, e, _, n, d⟩, _⟩ := I.tuple h
  obtain ⟨its', r', ⟨o', e', _, n', d'⟩, _⟩ := I.tuple h'
  rw [e] at e'; cases e'
  rw [d] at d'
  injection d' with d1 _
  have : its = its' := by simpa using congrArg Array.toList d1
  subst this
  exact r.inj r'
end
abbrev Cx.wish (X : Cx) (E : Value → Shared → Prop) : Cx := { X with xe := E }
abbrev Cx.nox (X : Cx) : Cx := X.wish fun _ _ => False
theorem Cx.Ok.wish {X : Cx} (ok : X.Ok) (E : Value → Shared → Prop) : (X.wish E).Ok :=
  ⟨ok.mod, ok.kind, ok.glob, ok.blt, ok.above, ok.inj, ok.has, ok.cab, ok.hd, ok.frames, ok.stk, ok.exf, ok.bs, ok.bsz, ok.noex, ok.exfs, ok.funs, ok.frf⟩
theorem Cx.Ok.unwish {X : Cx} {E : Value → Shared → Prop} (ok : (X.wish E).Ok) : X.Ok :=
  ⟨ok.mod, ok.kind, ok.glob, ok.blt, ok.above, ok.inj, ok.has, ok.cab, ok.hd, ok.frames, ok.stk, ok.exf, ok.bs, ok.bsz, ok.noex, ok.exfs, ok.funs, ok.frf⟩
section
variable {X : Cx} {pins : List (Addr × Obj)} {σ : St} {H : Hp} {s : Shared} {E : Value → Shared → Prop}
theorem Inv.wish (I : Inv X pins σ H s) (E : Value → Shared → Prop) : Inv (X.wish E) pins σ H s := ⟨I.ok.wish E, I.os, I.bare, I.base, I.loc, I.cell, I.free, I.freeC, I.pin, I.hok, I.len⟩
theorem Inv.unwish (I : Inv (X.wish E) pins σ H s) : Inv X pins σ H s := ⟨I.ok.unwish, I.os, I.bare, I.base, I.loc, I.cell, I.free, I.freeC, I.pin, I.hok, I.len⟩
theorem SP.unwish {D : Ends} {f : Flow} {s' : Shared} (h : SP (X.wish E) pins D f s') : SP X pins D f s' := by
  cases f with
  | next => obtain ⟨σ', H', I, q⟩ := h; exact ⟨σ', H', I.unwish, q⟩
  | brk => obtain ⟨σ', H', I, q⟩ := h; exact ⟨σ', H', I.unwish, q⟩
  | cont => obtain ⟨σ', H', I, q⟩ := h; exact ⟨σ', H', I.unwish, q⟩
  | ret u => obtain ⟨v, σ', H', I, r, q⟩ := h; exact ⟨v, σ', H', I.unwish, r, q⟩
theorem PSs.nox {st : List Stmt} {t : TS} (h : PSs X.nox st t) : PSs X st t := fun pins s σ H D I hw =>
  wpAny_mono (h pins s σ H D (I.wish _) hw) (fun _ _ q => q.unwish) fun _ _ z => False.elim z
end
section
variable {X : Cx} {st : Stmt} {rest : List Stmt} {t u : TS} {e : Expr} {te : TE} {pos : Pos}
def tNext : TS := fun D σ H => D.nx σ H
def tSeq (t u : TS) : TS := fun D σ H => t { D with nx := u D } σ H
theorem pss_nil : PSs X [] tNext := fun _ _ σ H _ I h => wpAny_execs_nil ⟨σ, H, I, h⟩
theorem pss_cons (h1 : PS X st t) (h2 : PSs X rest u) : PSs X (st :: rest) (tSeq t u) := by
  intro pins s σ H D I h
  refine wpAny_execs_cons (thn (h1 pins s σ H { D with nx := u D } I h) fun f s1 q => ?_)
  cases f with
  | next =>
    obtain ⟨σ', H', I', q⟩ := q
    exact h2 pins s1 σ' H' D I' q
  | ret v => exact q
  | brk => exact q
  | cont => exact q
theorem pss_one (h1 : PS X st t) : PSs X [st] t := by
  intro pins s σ H D I h
  refine wpAny_execs_cons (thn (h1 pins s σ H D I h) fun f s1 q => ?_)
  cases f with
  | next => exact wpAny_execs_nil q
  | ret v => exact q
  | brk => exact q
  | cont => exact q
def tBreak : TS := fun D σ H => D.bk σ H
def tCont : TS := fun D σ H => D.ct σ H
theorem Inv.quiet {pins : List (Addr × Obj)} {σ : St} {H : Hp} {s : Shared} (I : Inv X pins σ H s) : interactive X.env = false := by simp [interactive, I.ok.kind]
def tDrop (te : TE) : TS := fun D σ H => te σ H fun _ H1 => D.nx σ H1
theorem ps_expr (he : PE X e te) (hs : swapsWith e none pos.line X.env = pure false := by rfl) : PS X (.Expr e pos) (tDrop te) := by
  intro pins s σ H D I h
  exact wpAny_Expr_any (thn (he pins s σ H _ I h) fun v s1 ⟨x, H1, I1, r1, q1⟩ => ⟨σ, H1, I1, q1⟩) I.quiet hs
def tRet (te : TE) : TS := fun D σ H => te σ H D.rt
theorem ps_ret (he : PE X e te) : PS X (.Return (some e) pos) (tRet te) := by
  intro pins s σ H D I h
  exact wpAny_Return_some (thn (he pins s σ H _ I h) fun v s1 ⟨x, H1, I1, r1, q1⟩ => ⟨x, σ, H1, I1, r1, q1⟩)
def tRetN : TS := fun D _ H => D.rt .non H
def tIfS (c : TT) (t u : TS) : TS := fun D σ H => c σ H fun b H1 => if b = true then t D σ H1 else u D σ H1
theorem ps_if {c : Expr} {a b : List Stmt} {tc : TT} (hc : PT X c tc) (ha : PSs X a t) (hb : PSs X b u) : PS X (.If c a b pos) (tIfS tc t u) := by
  intro pins s σ H D I h
  refine wpAny_If (thn (hc pins s σ H _ I h) fun d s1 ⟨H1, I1, q1⟩ => ?_)
  cases d with
  | true => exact ha pins s1 σ H1 D I1 q1
  | false => exact hb pins s1 σ H1 D I1 q1
def tNever : TS := fun _ _ _ => False
end
abbrev TG := V → St → Hp → (St → Hp → Prop) → Prop
abbrev TGs := List V → St → Hp → (St → Hp → Prop) → Prop
def PG (X : Cx) (target : Expr) (t : TG) : Prop :=
  ∀ (pins : List (Addr × Obj)) (s : Shared) (σ : St) (H : Hp) (v : V) (u : Value) (Q : St → Hp → Prop), Inv X pins σ H s → RelV v u → t v σ H Q →
    wpAny (model X.prog X.w) X.A (assign target X.env u) (fun _ s' => ∃ σ' H', Inv X pins σ' H' s' ∧ Q σ' H') X.xe s
def PGs (X : Cx) (ts : List Expr) (t : TGs) : Prop :=
  ∀ (pins : List (Addr × Obj)) (s : Shared) (σ : St) (H : Hp) (vs : List V) (us : List Value) (Q : St → Hp → Prop), Inv X pins σ H s → Vals vs us → t vs σ H Q →
    wpAny (model X.prog X.w) X.A (assignInOrder ((assignEach ts X.env).map (·.2)) us) (fun _ s' => ∃ σ' H', Inv X pins σ' H' s' ∧ Q σ' H') X.xe s
abbrev TSet := V → V → V → Hp → (Hp → Prop) → Prop
def PSet (X : Cx) (t : TSet) : Prop :=
  ∀ (pins : List (Addr × Obj)) (s : Shared) (σ : St) (H : Hp) (o i v : V) (ov iv u : Value) (Q : Hp → Prop), Inv X pins σ H s → RelV o ov → RelV i iv → RelV v u → t o i v H Q →
    wpAny (model X.prog X.w) X.A (setItem ov iv u) (fun _ s' => ∃ H', Inv X pins σ H' s' ∧ Q H') X.xe s
abbrev TIp := V → V → Hp → VK → Prop
def PIp (X : Cx) (op : Operator) (t : TIp) : Prop :=
  ∀ (pins : List (Addr × Obj)) (s : Shared) (σ : St) (H : Hp) (x y : V) (v u : Value) (Q : VK), Inv X pins σ H s → RelV x v → RelV y u → t x y H Q →
    wpAny (model X.prog X.w) X.A (inplaceOp op v u) (EP X pins σ Q) X.xe s
section
variable {X : Cx} {pos : Pos}
def gName (i : Nat) : TG := fun v σ H Q => Q (σ.set i (some v)) H
theorem pg_name {i : Nat} {x : Str} (hN : X.N.Nodup) (hi : X.N[i]? = some x) (hx : Loc X.env.scope x) (hf : X.fn x = true ∨ X.env.scope.names.lookup x = some .local := by first | exact .inl rfl | exact .inr rfl | assumption) : PG X (.Name x pos) (gName i) := by
  intro pins s σ H v u Q I r h
  exact wpAny_assign_Name (store_ok I hN hi hx r (fun s' I' => ⟨_, H, I', h⟩) hf)
def gNil : TGs := fun vs σ H Q => vs = [] ∧ Q σ H
inductive gCons (t : TG) (u : TGs) (vs : List V) (σ : St) (H : Hp) (Q : St → Hp → Prop) : Prop
  | mk (v : V) (r : List V) (h0 : vs = v :: r) (h1 : t v σ H fun σ' H' => u r σ' H' Q) : gCons t u vs σ H Q
theorem pgs_nil : PGs X [] gNil := by
  intro pins s σ H vs us Q I r h
  obtain ⟨e, h⟩ := h
  subst e
  cases r
  exact assignInOrder_nil ⟨σ, H, I, h⟩
theorem pgs_cons {e : Expr} {es : List Expr} {t : TG} {u : TGs} (h1 : PG X e t) (h2 : PGs X es u)
    (hs : (assignEach (e :: es) X.env).map (·.2) = assign e X.env :: (assignEach es X.env).map (·.2) := by rfl) : PGs X (e :: es) (gCons t u) := by
  intro pins s σ H vs us Q I r h
  obtain ⟨v, vr, e1, h⟩ := h
  subst e1
  cases r with
  | cons r rr =>
    rw [hs]
    refine assignInOrder_cons (thn (h1 pins s σ H _ _ _ I r h) fun _ s1 ⟨σ1, H1, I1, q1⟩ => ?_)
    exact h2 pins s1 σ1 H1 _ _ Q I1 rr q1
inductive gTup (K : PySem.W.Frag) (n : Nat) (t : TGs) (v : V) (σ : St) (H : Hp) (Q : St → Hp → Prop) : Prop
  | mk (a : Addr) (xs : List V) (h0 : v = .ref a) (h1 : SqT K H a xs) (h2 : xs.length = n) (h3 : t xs σ H Q) : gTup K n t v σ H Q
theorem pg_tup {es : List Expr} {k : Nat} {t : TGs} {n : Nat} (hc : X.calm = true) (h : PGs X es t)
    (hn : (assignEach es X.env).length = n := by rfl) (hst : (assignEach es X.env).findIdx? (·.1) = none := by rfl) : PG X (.Tuple es k pos) (gTup X.K n t) := by
  intro pins s σ H v u Q I r hw
  obtain ⟨a, xs, e1, hq, hl, hw⟩ := hw
  subst e1
  cases r
  obtain ⟨its, rv, ht, hz⟩ := I.tuple hq
  refine assign_Tuple_tuple (I.ok.hd hc) ht (by simp [hn, ← hl, rv.length]) hst fun h' hx => ?_
  have I1 : Inv X pins σ H { s with heap := h' } := I.kept (t' := s.toks) fun b o e => hx b o (Nat.ne_of_lt (Heap.lt_size e)) e
  exact h pins _ σ H xs _ Q I1 (by simpa using rv) hw
def gSub (to ti : TE) (t : TSet) : TG := fun v σ H Q => to σ H fun o H1 => ti σ H1 fun i H2 => t o i v H2 fun H3 => Q σ H3
def tAsg (te : TE) (g : TG) : TS := fun D σ H => te σ H fun x H1 => g x σ H1 D.nx
theorem ps_asg {tg e : Expr} {te : TE} {g : TG} (he : PE X e te) (hg : PG X tg g) (hs : swapsWithSole [tg] e pos.line X.env = pure false := by rfl) (hw : swappedStores [tg] e X.env = pure none := by rfl)
    (h1 : (assignEach [tg] X.env).map (·.2) = [assign tg X.env] := by rfl) : PS X (.Assign [tg] e pos) (tAsg te g) := by
  intro pins s σ H D I h
  refine wpAny_Assign_stores (thn (he pins s σ H _ I h) fun v s1 ⟨x, H1, I1, r1, q1⟩ => ?_) hs hw
  rw [h1]
  exact thn (hg pins s1 σ H1 x v _ I1 r1 q1) fun _ s2 q => q
theorem ps_set {i : Nat} {x : Str} {e : Expr} {te : TE} {pos' : Pos} (hN : X.N.Nodup) (hi : X.N[i]? = some x) (hx : Loc X.env.scope x) (he : PE X e te) (hs : swapsWith e (some (.Name x pos')) pos.line X.env = pure false := by rfl) (hf : X.fn x = true ∨ X.env.scope.names.lookup x = some .local := by first | exact .inl rfl | exact .inr rfl | assumption) :
    PS X (.Assign [.Name x pos'] e pos) (tAsg te (gName i)) := by
  intro pins s σ H D I h
  refine wpAny_Assign_Name (thn (he pins s σ H _ I h) fun v s1 ⟨y, H1, I1, r1, q1⟩ => ?_) hs
  exact store_ok I1 hN hi hx r1 (fun s2 I2 => ⟨_, H1, I2, q1⟩) hf
def tPar (i j : Nat) (ta : TA) : TS := fun D σ H => ta σ H fun vs H1 => ∃ v w, vs = [v, w] ∧ D.nx ((σ.set i (some v)).set j (some w)) H1
def tAug (i : Nat) (te : TE) (ti : TIp) : TS := fun D σ H => ∃ x, σ[i]? = some (some x) ∧ te σ H fun y H1 => ti x y H1 fun z H2 => D.nx (σ.set i (some z)) H2
def tAugS (to ti te : TE) (tget : V → V → Hp → VK → Prop) (tip : TIp) (tset : TSet) : TS := fun D σ H => to σ H fun o H1 => ti σ H1 fun i H2 => tget o i H2 fun x H3 => te σ H3 fun y H4 => tip x y H4 fun z H5 => tset o i z H5 fun H6 => D.nx σ H6
def PGet (X : Cx) (t : V → V → Hp → VK → Prop) : Prop :=
  ∀ (pins : List (Addr × Obj)) (s : Shared) (σ : St) (H : Hp) (o i : V) (ov iv : Value) (Q : VK), Inv X pins σ H s → RelV o ov → RelV i iv → t o i H Q →
    wpAny (model X.prog X.w) X.A (getItem ov iv) (EP X pins σ Q) X.xe s
def ipI (f : Int → Int → Int) : TIp := fun x y H Q => ∃ i j, x = .int i ∧ y = .int j ∧ Q (.int (f i j)) H
end
section
variable {X : Cx} {pos : Pos}
def tWhile (c : TT) (tb : TS) : TS := fun D σ H => ∃ W : Nat → St → Hp → Prop, (∃ m, W m σ H) ∧ ∀ m σ H, W m σ H →
  c σ H fun b H1 => if b = true then ∃ N : St → Hp → Prop, (∀ σ' H', N σ' H' → ∃ m', m' < m ∧ W m' σ' H') ∧ tb { D with nx := N, ct := N, bk := D.nx } σ H1 else D.nx σ H1
theorem ps_while {c : Expr} {body : List Stmt} {tc : TT} {tb : TS} (hp : PassesOwn (model X.prog X.w) X.A X.env X.xe) (hc : PT X c tc) (hb : PSs X body tb) : PS X (.While c body [] pos) (tWhile tc tb) := by
  intro pins s σ H D I h
  obtain ⟨W, ⟨m0, w0⟩, turn⟩ := h
  refine wpAny_While (codeAny_whileLoop (fun n s' => ∃ σ' H', Inv X pins σ' H' s' ∧ W n σ' H') ?_ m0 ⟨σ, H, I, w0⟩)
  rintro n s1 ⟨σ1, H1, I1, w1⟩
  refine wpAny_passesOwn hp (thn (hc pins s1 σ1 H1 _ I1 (turn n σ1 H1 w1)) fun b s2 ⟨H2, I2, q2⟩ => ?_)
  cases b with
  | true =>
    obtain ⟨N, hN, q2⟩ := q2
    rw [if_pos rfl]
    refine wpAny_passesOwn hp (thn (hb pins s2 σ1 H2 _ I2 q2) fun f s3 q3 => ?_)
    cases f with
    | next =>
      obtain ⟨σ3, H3, I3, n3⟩ := q3
      obtain ⟨m', hm, w3⟩ := hN σ3 H3 n3
      exact ⟨m', hm, σ3, H3, I3, w3⟩
    | cont =>
      obtain ⟨σ3, H3, I3, n3⟩ := q3
      obtain ⟨m', hm, w3⟩ := hN σ3 H3 n3
      exact ⟨m', hm, σ3, H3, I3, w3⟩
    | brk => exact q3
    | ret v => exact q3
  | false =>
    rw [if_neg Bool.false_ne_true]
    exact wpAny_execs_nil ⟨σ1, H2, I2, q2⟩
end
structure It where
  go : Nat → Hp → Prop
  yld : Nat → Hp → V → Hp → Prop
  stop : Nat → Hp → Prop
def FpOk (X : Cx) (pins : List (Addr × Obj)) (H : Hp) (b : Addr) : Prop :=
  H b = none ∧ b ≠ X.env.locals ∧ b ∉ X.fs ∧ (b ∈ X.ex ∨ X.s₀.heap.objs.size ≤ b) ∧ (∀ x c, X.env.cells.lookup x = some c → c ≠ b) ∧ ∀ p ∈ X.pn ++ pins, p.1 ≠ b
theorem Inv.fpOk {X : Cx} {pins : List (Addr × Obj)} {σ : St} {H H' : Hp} {s : Shared} {b : Addr} (I : Inv X pins σ H s) (hb : s.heap.objs.size ≤ b) (hn : H' b = none) : FpOk X pins H' b := by
  refine ⟨hn, Nat.ne_of_gt (Nat.lt_of_lt_of_le I.lt hb), I.nofs hb, .inr (Nat.le_trans I.sz hb), fun x c e z => ?_, fun p hp z => ?_⟩
  · obtain ⟨v, q⟩ := I.cell x c e
    exact absurd (Nat.lt_of_lt_of_le q.lt (by rw [z]; exact hb)) (Nat.lt_irrefl _)
  · exact absurd (Nat.lt_of_lt_of_le (Heap.lt_size (I.pin p hp).1) (by rw [z]; exact hb)) (Nat.lt_irrefl _)
structure Turn (P : Program) (w : World) (K : PySem.W.Frag) (tg : Expr) (J : It) (fp : List Addr) (it : Addr) (tn : Nat → Heap → Prop) : Prop where
  mem : it ∈ fp
  obj : ∀ i h, tn i h → ∀ b ∈ fp, ∃ o, h.get? b = some o ∧ ∀ v, o.data ≠ .cell v
  keep : ∀ i h h', tn i h → (∀ b ∈ fp, ∀ o, h.get? b = some o → h'.get? b = some o) → tn i h'
  item : ∀ (X : Cx), X.prog = P → X.w = w → X.K = K → X.calm = true → ∀ (i : Nat) (pins : List (Addr × Obj)) (s : Shared) (σ : St) (H : Hp) (E : Value → Shared → Prop), Inv X pins σ H s → (∀ b ∈ fp, FpOk X pins H b) → tn i s.heap → J.go i H →
    wpAny (model P w) X.A (pyNext (.ref it)) (fun r s1 => ∃ u, r = some u ∧
      wpAny (model P w) X.A (letOwnedTupleGo tg (.ref it) u) (fun _ s2 => ∃ x H', Inv X pins σ H' s2 ∧ RelV x u ∧ J.yld i H x H' ∧ tn (i + 1) s2.heap ∧ ∀ b ∈ fp, H' b = none) E s1) E s
  done : ∀ (X : Cx), X.prog = P → X.w = w → X.K = K → X.calm = true → ∀ (i : Nat) (pins : List (Addr × Obj)) (s : Shared) (σ : St) (H : Hp) (E : Value → Shared → Prop), Inv X pins σ H s → (∀ b ∈ fp, FpOk X pins H b) → tn i s.heap → J.stop i H →
    wpAny (model P w) X.A (pyNext (.ref it)) (fun r s1 => r = none ∧ Inv X pins σ H s1) E s
  self : ∀ (A : Around) (i : Nat) (s : Shared) (Q : Value → Shared → Prop) (E : Value → Shared → Prop), tn i s.heap → Q (.ref it) s → wpAny (model P w) A (pyIter (.ref it)) Q E s
abbrev TI := St → Hp → (It → Hp → Prop) → Prop
def PIE (X : Cx) (pins : List (Addr × Obj)) (σ : St) (tg : Expr) (R : It → Hp → Prop) (itv : Value) (s2 : Shared) : Prop :=
  ∃ (it : Addr) (fp : List Addr) (tn : Nat → Heap → Prop) (J : It) (H' : Hp), itv = .ref it ∧ Inv X pins σ H' s2 ∧ Turn X.prog X.w X.K tg J fp it tn ∧ tn 0 s2.heap ∧ (∀ b ∈ fp, FpOk X pins H' b) ∧ R J H'
def PI (X : Cx) (tg iter : Expr) (wi : TI) : Prop :=
  ∀ (pins : List (Addr × Obj)) (s : Shared) (σ : St) (H : Hp) (R : It → Hp → Prop), Inv X pins σ H s → wi σ H R →
    wpAny (model X.prog X.w) X.A (eval iter X.env) (fun v s1 => wpAny (model X.prog X.w) X.A (pyIter v) (PIE X pins σ tg R) X.xe s1) X.xe s
theorem go_of {M : Model} {A : Around} {E : Value → Shared → Prop} {s : Shared} {tg : Expr} {it : Addr} {u : Value} {o : Obj} {n : String} {vs : Array Value} {Q : Unit → Shared → Prop} (ho : s.heap.get? it = some o) (hc : o.cls = .type n) (hd : o.data = .fields vs)
    (hn : ["enumerate", "zip", "dict_itemiterator", "dict_reverseitemiterator", "odict_iterator", "itertools.zip_longest", "itertools.pairwise"].contains n = false) (hQ : Q () s) : wpAny M A (letOwnedTupleGo tg (.ref it) u) Q E s := by
  unfold letOwnedTupleGo
  cases tg <;> first
    | exact wpAny_pure hQ
    | (cases u <;> first
        | exact wpAny_pure hQ
        | (refine wpAny_bind (wpAny_load ho ?_)
           rw [hc, hd]
           show wpAny M A (if (["enumerate", "zip", "dict_itemiterator", "dict_reverseitemiterator", "odict_iterator", "itertools.zip_longest", "itertools.pairwise"].contains n && vs[0]? == some (rawInt _)) = true then _ else _) Q E s
           rw [if_neg (by intro h; rw [hn, Bool.false_and] at h; cases h)]
           exact wpAny_pure hQ))
def Itl (K : PySem.W.Frag) (a : Addr) : It :=
  ⟨fun i H => ∃ xs x, SqL K H a xs ∧ xs[i]? = some x, fun i H x H' => H' = H ∧ ∀ xs, SqL K H a xs → xs[i]? = some x, fun i H => ∃ xs, SqL K H a xs ∧ xs.length ≤ i⟩
def Itt (K : PySem.W.Frag) (a : Addr) : It :=
  ⟨fun i H => ∃ xs x, SqT K H a xs ∧ xs[i]? = some x, fun i H x H' => H' = H ∧ ∀ xs, SqT K H a xs → xs[i]? = some x, fun i H => ∃ xs, SqT K H a xs ∧ xs.length ≤ i⟩
def Itr (lo : Int) (n : Nat) : It := ⟨fun i _ => i < n, fun i H x H' => H' = H ∧ x = .int (lo + i), fun i _ => n ≤ i⟩
theorem turn_list {P : Program} {w : World} {K : PySem.W.Frag} {tg : Expr} (a it : Addr) : Turn P w K tg (Itl K a) [it] it (fun i h => h.IsListIter it a i) where
  mem := by simp
  obj := fun i h st b hb => by
    have e : b = it := by simpa using hb
    subst e
    obtain ⟨o, e, c, d⟩ := st
    exact ⟨o, e, fun v z => by rw [d] at z; cases z⟩
  keep := fun i h h' st k => st.at fun o e => k it (by simp) o e
  item := by
    intro X hP hw hK hc i pins s σ H E I hf st hg
    subst hP hw hK
    obtain ⟨xs, x, hq, hx⟩ := hg
    obtain ⟨its, rv, p, hz⟩ := I.list hq
    obtain ⟨u, hu, ru⟩ := rv.get hx
    obtain ⟨f0, f1, f2, f3, f4, f5⟩ := hf it (by simp)
    refine wpAny_pyNext_list_item st p.isList (x := u) (by simpa using hu) fun h' st' sb => ?_
    have I1 : Inv X pins σ H { s with heap := h' } := I.turned (t' := s.toks) (fun b o hb e => (sb.2 b hb).trans e) f0 f1 f3 f4 f5
    obtain ⟨o, e, c, d⟩ := id st'
    exact ⟨u, rfl, go_of (s := { s with heap := h' }) e c d (by decide) ⟨x, H, I1, ru, ⟨rfl, fun ys hy => by rw [I.list_inj hy hq]; exact hx⟩, st', fun b hb => (hf b hb).1⟩⟩
  done := by
    intro X hP hw hK hc i pins s σ H E I hf st hg
    subst hP hw hK
    obtain ⟨xs, hq, hx⟩ := hg
    obtain ⟨its, rv, p, hz⟩ := I.list hq
    obtain ⟨f0, f1, f2, f3, f4, f5⟩ := hf it (by simp)
    have hl := rv.length
    exact wpAny_pyNext_list_end (I.ok.hd hc) st p.isList (by simp; omega) fun h' eb => ⟨rfl, I.turned (t' := s.toks) (fun b o hb e => eb b o hb e) f0 f1 f3 f4 f5⟩
  self := fun _ _ _ _ _ st h => wpAny_pyIter_listiter st h
theorem turn_tuple {P : Program} {w : World} {K : PySem.W.Frag} {tg : Expr} (a it : Addr) : Turn P w K tg (Itt K a) [it] it (fun i h => h.IsTupleIter it a i) where
  mem := by simp
  obj := fun i h st b hb => by
    have e : b = it := by simpa using hb
    subst e
    obtain ⟨o, e, c, d⟩ := st
    exact ⟨o, e, fun v z => by rw [d] at z; cases z⟩
  keep := fun i h h' st k => st.at fun o e => k it (by simp) o e
  item := by
    intro X hP hw hK hc i pins s σ H E I hf st hg
    subst hP hw hK
    obtain ⟨xs, x, hq, hx⟩ := hg
    obtain ⟨its, rv, p, hz⟩ := I.tuple hq
    obtain ⟨u, hu, ru⟩ := rv.get hx
    obtain ⟨f0, f1, f2, f3, f4, f5⟩ := hf it (by simp)
    refine wpAny_pyNext_tuple_item st (show s.heap.IsTuple a its.toArray from p) (x := u) (by simpa using hu) fun h' st' sb => ?_
    have I1 : Inv X pins σ H { s with heap := h' } := I.turned (t' := s.toks) (fun b o hb e => (sb.2 b hb).trans e) f0 f1 f3 f4 f5
    obtain ⟨o, e, c, d⟩ := id st'
    exact ⟨u, rfl, go_of (s := { s with heap := h' }) e c d (by decide) ⟨x, H, I1, ru, ⟨rfl, fun ys hy => by rw [I.tuple_inj hy hq]; exact hx⟩, st', fun b hb => (hf b hb).1⟩⟩
  done := by
    intro X hP hw hK hc i pins s σ H E I hf st hg
    subst hP hw hK
    obtain ⟨xs, hq, hx⟩ := hg
    obtain ⟨its, rv, p, hz⟩ := I.tuple hq
    obtain ⟨f0, f1, f2, f3, f4, f5⟩ := hf it (by simp)
    have hl := rv.length
    exact wpAny_pyNext_tuple_end (I.ok.hd hc) st (show s.heap.IsTuple a its.toArray from p) (by simp; omega) fun h' eb => ⟨rfl, I.turned (t' := s.toks) (fun b o hb e => eb b o hb e) f0 f1 f3 f4 f5⟩
  self := fun _ _ _ _ _ st h => wpAny_pyIter_tupleiter st h
theorem turn_range {P : Program} {w : World} {K : PySem.W.Frag} {tg : Expr} (it : Addr) (lo : Int) (n : Nat) : Turn P w K tg (Itr lo n) [it] it (fun i h => IsRangeIter h it (lo + (i : Nat) * 1) ((n : Int) - (i : Nat)) 1) where
  mem := by simp
  obj := fun i h st b hb => by
    have e : b = it := by simpa using hb
    subst e
    exact ⟨_, st, fun v z => by
      have z' : Data.fields _ = Data.cell v := z
      cases z'⟩
  keep := fun i h h' st k => k it (by simp) _ st
  item := by
    intro X hP hw hK hc i pins s σ H E I hf st hg
    subst hP hw hK
    obtain ⟨f0, f1, f2, f3, f4, f5⟩ := hf it (by simp)
    have W := Walks.range (prog := X.prog) (w := X.w) (I.ok.hd hc) it lo 1 n
    refine W.item i s _ _ hg st fun v h' tk hv st' kk => ?_
    obtain ⟨t, rfl⟩ := hv
    have I1 : Inv X pins σ H { s with heap := h', toks := tk } := I.turned (fun b o hb e => kk b o (by simpa using hb) e) f0 f1 f3 f4 f5
    refine ⟨_, rfl, go_of (s := { s with heap := h', toks := tk }) (n := "range_iterator") st' rfl rfl (by decide) ⟨.int (lo + i), H, I1, ⟨t, ?_⟩, ⟨rfl, rfl⟩, st', fun b hb => (hf b hb).1⟩⟩
    rw [Int.mul_one]
  done := by
    intro X hP hw hK hc i pins s σ H E I hf st hg
    subst hP hw hK
    obtain ⟨f0, f1, f2, f3, f4, f5⟩ := hf it (by simp)
    exact wpAny_pyNext_range_end (I.ok.hd hc) st (by have : n ≤ i := hg; omega) fun h' eb => ⟨rfl, I.turned (t' := s.toks) (fun b o hb e => eb b o hb e) f0 f1 f3 f4 f5⟩
  self := fun _ _ _ _ _ st h => wpAny_pyIter_rangeiter st h
end L2
namespace L2
open PySem PySem.Spec PyProof.Rows
section
variable {X : Cx} {tg : Expr}
def iList (K : PySem.W.Frag) (tl : TE) : TI := fun σ H R => tl σ H fun x H1 => ∃ a, x = .ref a ∧ (∃ xs, SqL K H1 a xs) ∧ R (Itl K a) H1
def iTup (K : PySem.W.Frag) (tl : TE) : TI := fun σ H R => tl σ H fun x H1 => ∃ a, x = .ref a ∧ (∃ xs, SqT K H1 a xs) ∧ R (Itt K a) H1
theorem range_it {pins : List (Addr × Obj)} {σ : St} {H : Hp} {s : Shared} {R : It → Hp → Prop} {E : Value → Shared → Prop} {lo hi : Int} {t u v : Tok} {tk : Nat} (I : Inv X pins σ H s) (h1 : -(2 ^ 62) ≤ lo) (h2 : lo < 2 ^ 62) (h3 : -(2 ^ 62) ≤ hi) (h4 : hi < 2 ^ 62)
    (q : R (Itr lo (hi - lo).toNat) H) : wpAny (model X.prog X.w) X.A (pyIter (.ref s.heap.objs.size)) (PIE X pins σ tg R) E { s with heap := s.heap.push { cls := .type "range", data := .fields #[.int lo t, .int hi u, .int 1 v] }, toks := tk } := by
  refine wpAny_pyIter_range (IsRange.new ..) (small_one h1 h2 h3 h4) ?_
  have I1 : Inv X pins σ H { s with heap := s.heap.push { cls := .type "range", data := .fields #[.int lo t, .int hi u, .int 1 v] }, toks := tk } := I.kept fun b o e => Heap.get?_push_of_some _ e
  refine ⟨(s.heap.push { cls := .type "range", data := .fields #[.int lo t, .int hi u, .int 1 v] }).objs.size, [(s.heap.push { cls := .type "range", data := .fields #[.int lo t, .int hi u, .int 1 v] }).objs.size], _, _, H, rfl,
    I1.kept (t' := tk) fun b o e => Heap.get?_push_of_some _ e, turn_range _ lo (hi - lo).toNat, ?_, fun b hb => ?_, q⟩
  · have e1 : lo + ((0 : Nat) : Int) * 1 = lo := by simp
    have e2 : (((hi - lo).toNat : Nat) : Int) - ((0 : Nat) : Int) = Builtin.Range.rangeSize lo hi 1 := by rw [rangeSize_one]; split <;> omega
    show IsRangeIter _ _ (lo + ((0 : Nat) : Int) * 1) ((((hi - lo).toNat : Nat) : Int) - ((0 : Nat) : Int)) 1
    rw [e1, e2]
    exact Heap.get?_push_size _ rfl
  · have e : b = (s.heap.push { cls := .type "range", data := .fields #[.int lo t, .int hi u, .int 1 v] }).objs.size := by simpa using hb
    subst e
    exact I1.fpOk (Nat.le_refl _) (I1.hok.fresh (Nat.le_refl _))
def iRng1 (ta : TA) : TI := fun σ H R => ta σ H fun vs H1 => ∃ j : Int, vs = [.int j] ∧ -(2 ^ 62) ≤ j ∧ j < 2 ^ 62 ∧ R (Itr 0 j.toNat) H1
def iRng2 (ta : TA) : TI := fun σ H R => ta σ H fun vs H1 => ∃ i j : Int, vs = [.int i, .int j] ∧ (-(2 ^ 62) ≤ i ∧ i < 2 ^ 62 ∧ -(2 ^ 62) ≤ j ∧ j < 2 ^ 62) ∧ R (Itr i (j - i).toNat) H1
theorem pi_range1 {a : Expr} {ta : TA} {p pos : Pos} (hg : Gl X "range") (hm : X.mg "range" = none) (ha : PA X [a] ta) (hs : starEach [a] X.env = [(false, eval a X.env)] := by rfl) : PI X tg (.Call (.Name "range" p) [a] [] pos) (iRng1 ta) := by
  intro pins s σ H R I h
  refine Call_ (ld_blt I hg hm boot_range (PyProof.Rows.callWith_type1 (thn (ha pos pins s σ H _ I h) fun us s1 ⟨vs, H1, I1, r1, q1⟩ => ?_) hs rfl))
  obtain ⟨j, e, q1, q2, q⟩ := q1
  subst e
  cases r1 with
  | cons r rr =>
    cases rr
    obtain ⟨t, rfl⟩ := r
    exact call_range_1 (range_it I1 (by omega) (by omega) q1 q2 (by simpa using q))
theorem pi_range2 {a b : Expr} {ta : TA} {p pos : Pos} (hg : Gl X "range") (hm : X.mg "range" = none) (ha : PA X [a, b] ta) (hs : starEach [a, b] X.env = [(false, eval a X.env), (false, eval b X.env)] := by rfl) (hs2 : starEach [b] X.env = [(false, eval b X.env)] := by rfl) :
    PI X tg (.Call (.Name "range" p) [a, b] [] pos) (iRng2 ta) := by
  intro pins s σ H R I h
  refine Call_ (ld_blt I hg hm boot_range (PyProof.Rows.callWith_type1 (thn (ha pos pins s σ H _ I h) fun us s1 ⟨vs, H1, I1, r1, q1⟩ => ?_) (by rw [hs, hs2]) (by rw [hs2]; rfl)))
  obtain ⟨i, j, e, ⟨q1, q2, q3, q4⟩, q⟩ := q1
  subst e
  cases r1 with
  | cons r rr =>
    cases rr with
    | cons r' rr =>
      cases rr
      obtain ⟨t, rfl⟩ := r
      obtain ⟨t', rfl⟩ := r'
      exact call_range_2 (range_it I1 q1 q2 q3 q4 q)
def tFor (wi : TI) (g : TG) (tb : TS) : TS := fun D σ H => wi σ H fun J H1 => ∃ W : Nat → Nat → St → Hp → Prop, (∃ m, W 0 m σ H1) ∧ ∀ i m σ H, W i m σ H →
  (J.stop i H ∧ D.nx σ H) ∨ (J.go i H ∧ ∃ N : St → Hp → Prop, (∀ σ' H', N σ' H' → ∃ m', m' < m ∧ W (i + 1) m' σ' H') ∧ ∀ x H', J.yld i H x H' → g x σ H' fun σ2 H2 => tb { D with nx := N, ct := N, bk := D.nx } σ2 H2)
def pinsAt (fp : List Addr) (h : Heap) : List (Addr × Obj) := fp.filterMap fun b => (h.get? b).map fun o => (b, o)
theorem mem_pinsAt {fp : List Addr} {h : Heap} {b : Addr} {o : Obj} (hb : b ∈ fp) (e : h.get? b = some o) : (b, o) ∈ pinsAt fp h := List.mem_filterMap.mpr ⟨b, hb, by rw [e]; rfl⟩
theorem of_pinsAt {fp : List Addr} {h : Heap} {p : Addr × Obj} (hp : p ∈ pinsAt fp h) : p.1 ∈ fp ∧ h.get? p.1 = some p.2 := by
  obtain ⟨b, hb, e⟩ := List.mem_filterMap.mp hp
  cases q : h.get? b with
  | none => rw [q] at e; cases e
  | some o =>
    rw [q] at e
    have e' : (b, o) = p := Option.some.inj e
    subst e'
    exact ⟨hb, q⟩
theorem Inv.pinned {pins : List (Addr × Obj)} {σ : St} {H : Hp} {s : Shared} {fp : List Addr} (I : Inv X pins σ H s) (hf : ∀ b ∈ fp, FpOk X pins H b) (ho : ∀ b ∈ fp, ∃ o, s.heap.get? b = some o ∧ ∀ v, o.data ≠ .cell v) : Inv X (pins ++ pinsAt fp s.heap) σ H s :=
  I.pins_of fun p hp => (List.mem_append.mp hp).elim (fun z => I.pin p (List.mem_append_right _ z)) fun z => by
    obtain ⟨hb, e⟩ := of_pinsAt z
    obtain ⟨f0, f1, f2, _⟩ := hf p.1 hb
    obtain ⟨o, e', d⟩ := ho p.1 hb
    rw [e] at e'; cases e'
    exact ⟨e, f0, f1, f2, d⟩
theorem Inv.unpinned {pins pl : List (Addr × Obj)} {σ : St} {H : Hp} {s : Shared} (I : Inv X (pins ++ pl) σ H s) : Inv X pins σ H s := I.pins_of fun p hp => I.pin p (List.mem_append_right _ (List.mem_append_left _ hp))
theorem ps_for {iter : Expr} {body : List Stmt} {wi : TI} {g : TG} {tb : TS} {pos : Pos} (hp : PassesOwn (model X.prog X.w) X.A X.env X.xe) (hc : X.calm = true) (hi : PI X tg iter wi) (hg : PG X tg g) (hb : PSs X body tb)
    (hs : ∀ x, foldedSetIterable iter X.env x = pure x := by intro _; rfl) : PS X (.For tg iter body [] pos) (tFor wi g tb) := by
  intro pins s σ H D I h
  refine wpAny_For (thn (hi pins s σ H _ I h) fun v s1 h1 => thn h1 fun itv s2 h2 => ?_) hs
  obtain ⟨it, fp, tn, J, H2, e, I2, T, st2, f2, W, ⟨m0, w0⟩, turn⟩ := h2
  subst e
  -- what stays true of the iterator's objects through the loop
  have stat : ∀ {H' : Hp}, (∀ b ∈ fp, H' b = none) → ∀ b ∈ fp, FpOk X pins H' b := fun hn b hb => ⟨hn b hb, (f2 b hb).2⟩
  refine codeAny_forLoop_any (fun n s' => ∃ i σ' H', Inv X pins σ' H' s' ∧ tn i s'.heap ∧ (∀ b ∈ fp, H' b = none) ∧ W i n σ' H') ?_ m0 ⟨0, σ, H2, I2, st2, fun b hb => (f2 b hb).1, w0⟩
  rintro n s3 ⟨i, σ3, H3, I3, st3, fr3, w3⟩
  rcases turn i n σ3 H3 w3 with ⟨stop, qn⟩ | ⟨go, N, hN, step⟩
  · refine wpAny_passesOwn hp (thn (T.done X rfl rfl rfl hc i pins s3 σ3 H3 X.xe I3 (stat fr3) st3 stop) fun r s4 ⟨hr, I4⟩ => ?_)
    subst hr
    exact wpAny_execs_nil ⟨σ3, H3, I4, qn⟩
  · refine wpAny_passesOwn hp (thn (T.item X rfl rfl rfl hc i pins s3 σ3 H3 X.xe I3 (stat fr3) st3 go) fun r s4 ⟨u, hr, h4⟩ => ?_)
    subst hr
    refine wpAny_passesOwn hp (thn h4 fun _ s5 ⟨x, H5, I5, r5, y5, st5, fr5⟩ => ?_)
    have I5' := I5.pinned (stat fr5) (T.obj _ _ st5)
    refine wpAny_passesOwn hp (thn (hg _ s5 σ3 H5 x u _ I5' r5 (step x H5 y5)) fun _ s6 ⟨σ6, H6, I6, q6⟩ => ?_)
    refine wpAny_passesOwn hp (thn (hb _ s6 σ6 H6 _ I6 q6) fun f s7 q7 => ?_)
    have again : ∀ {σ7 : St} {H7 : Hp}, Inv X (pins ++ pinsAt fp s5.heap) σ7 H7 s7 → N σ7 H7 → ∃ m, m < n ∧ ∃ i σ' H', Inv X pins σ' H' s7 ∧ tn i s7.heap ∧ (∀ b ∈ fp, H' b = none) ∧ W i m σ' H' := fun {σ7 H7} I7 n7 => by
      obtain ⟨m', hm, w7⟩ := hN σ7 H7 n7
      refine ⟨m', hm, i + 1, σ7, H7, I7.unpinned, T.keep _ _ _ st5 fun b hb o e => (I7.pin (b, o) (List.mem_append_right _ (List.mem_append_right _ (mem_pinsAt hb e)))).1, fun b hb => ?_, w7⟩
      obtain ⟨o, e, d⟩ := T.obj _ _ st5 b hb
      exact (I7.pin (b, o) (List.mem_append_right _ (List.mem_append_right _ (mem_pinsAt hb e)))).2.1
    cases f with
    | next => obtain ⟨σ7, H7, I7, n7⟩ := q7; exact again I7 n7
    | cont => obtain ⟨σ7, H7, I7, n7⟩ := q7; exact again I7 n7
    | brk => obtain ⟨σ7, H7, I7, q7⟩ := q7; exact ⟨σ7, H7, I7.unpinned, q7⟩
    | ret v => obtain ⟨x7, σ7, H7, I7, r7, q7⟩ := q7; exact ⟨x7, σ7, H7, I7.unpinned, r7, q7⟩
end
theorem for_range {lo : Int} {n : Nat} {g : TG} {tb : TS} {D : Ends} {σ : St} {H : Hp} (Pv : Nat → St → Hp → Prop) (h0 : Pv 0 σ H)
    (hs : ∀ i σ H, i < n → Pv i σ H → g (.int (lo + i)) σ H fun σ2 H2 => tb { D with nx := Pv (i + 1), ct := Pv (i + 1), bk := D.nx } σ2 H2) (hd : ∀ σ H, Pv n σ H → D.nx σ H) :
    ∃ W : Nat → Nat → St → Hp → Prop, (∃ m, W 0 m σ H) ∧ ∀ i m σ H, W i m σ H →
      ((Itr lo n).stop i H ∧ D.nx σ H) ∨ ((Itr lo n).go i H ∧ ∃ N : St → Hp → Prop, (∀ σ' H', N σ' H' → ∃ m', m' < m ∧ W (i + 1) m' σ' H') ∧ ∀ x H', (Itr lo n).yld i H x H' → g x σ H' fun σ2 H2 => tb { D with nx := N, ct := N, bk := D.nx } σ2 H2) := by
  refine ⟨fun i m σ H => m = n - i ∧ i ≤ n ∧ Pv i σ H, ⟨n, by simp, Nat.zero_le _, h0⟩, ?_⟩
  rintro i m σ H ⟨rfl, hi, p⟩
  by_cases hlt : i < n
  · refine .inr ⟨hlt, Pv (i + 1), fun σ' H' p' => ⟨n - (i + 1), by omega, rfl, hlt, p'⟩, fun x H' y => ?_⟩
    obtain ⟨e, y⟩ := y
    subst e y
    exact hs i σ _ hlt p
  · have e : i = n := by omega
    subst e
    exact .inl ⟨Nat.le_refl _, hd σ H p⟩
end L2
namespace L2
open PySem PySem.Spec PyProof.Rows
abbrev R2 := V → V → Hp → VK → Prop
def OpR (X : Cx) (f : Value → Value → Sem Value) (r : R2) : Prop :=
  ∀ (pins : List (Addr × Obj)) (s : Shared) (σ : St) (H : Hp) (x y : V) (v u : Value) (Q : VK), Inv X pins σ H s → RelV x v → RelV y u → r x y H Q →
    wpAny (model X.prog X.w) X.A (f v u) (EP X pins σ Q) X.xe s
def UnR (X : Cx) (f : Value → Sem Value) (r : V → Hp → VK → Prop) : Prop :=
  ∀ (pins : List (Addr × Obj)) (s : Shared) (σ : St) (H : Hp) (x : V) (v : Value) (Q : VK), Inv X pins σ H s → RelV x v → r x H Q →
    wpAny (model X.prog X.w) X.A (f v) (EP X pins σ Q) X.xe s
def CallR (X : Cx) (f : Value) (r : List V → Hp → VK → Prop) : Prop :=
  ∀ (pins : List (Addr × Obj)) (s : Shared) (σ : St) (H : Hp) (xs : List V) (us : List Value) (Q : VK), Inv X pins σ H s → Vals xs us → r xs H Q →
    wpAny (model X.prog X.w) X.A (call f us) (EP X pins σ Q) X.xe s
def TruR (X : Cx) (r : V → Hp → (Bool → Hp → Prop) → Prop) : Prop :=
  ∀ (pins : List (Addr × Obj)) (s : Shared) (σ : St) (H : Hp) (x : V) (v : Value) (Q : Bool → Hp → Prop), Inv X pins σ H s → RelV x v → r x H Q →
    wpAny (model X.prog X.w) X.A (truthy v) (TP X pins σ Q) X.xe s
def tOp (r : R2) (ta tb : TE) : TE := fun σ H Q => ta σ H fun x H1 => tb σ H1 fun y H2 => r x y H2 Q
def tUn (r : V → Hp → VK → Prop) (ta : TE) : TE := fun σ H Q => ta σ H fun x H1 => r x H1 Q
def rI (C : Int → Int → Prop) (g : Int → Int → V) : R2 := fun x y H Q => ∃ i j, x = .int i ∧ y = .int j ∧ C i j ∧ Q (g i j) H
def rI0 (g : Int → Int → V) : R2 := fun x y H Q => ∃ i j, x = .int i ∧ y = .int j ∧ Q (g i j) H
def rU (g : Int → V) : V → Hp → VK → Prop := fun x H Q => ∃ i, x = .int i ∧ Q (g i) H
section
variable {X : Cx} {a b c : Expr} {ta tb tc : TE} {pos : Pos}
theorem binT (ha : PE X a ta) (hb : PE X b tb) {pins : List (Addr × Obj)} {s : Shared} {σ : St} {H : Hp} {R : V → V → Hp → Prop} (I : Inv X pins σ H s)
    (h : ta σ H fun x H1 => tb σ H1 fun y H2 => R x y H2) {Q : Value → Shared → Prop} {f : Value → Value → Sem Value}
    (hf : ∀ v u s2 x y H2, Inv X pins σ H2 s2 → RelV x v → RelV y u → R x y H2 → wpAny (model X.prog X.w) X.A (f v u) Q X.xe s2) :
    wpAny (model X.prog X.w) X.A (eval a X.env) (fun v s₁ => wpAny (model X.prog X.w) X.A (eval b X.env) (fun u s₂ => wpAny (model X.prog X.w) X.A (f v u) Q X.xe s₂) X.xe s₁) X.xe s := by
  refine thn (ha pins s σ H _ I h) fun v s1 ⟨x, H1, I1, r1, q1⟩ => ?_
  refine thn (hb pins s1 σ H1 _ I1 q1) fun u s2 ⟨y, H2, I2, r2, q2⟩ => ?_
  exact hf v u s2 x y H2 I2 r1 r2 q2
theorem pe_op {op : Operator} {r : R2} (ho : OpR X (binaryOp op) r) (ha : PE X a ta) (hb : PE X b tb) : PE X (.BinOp a op b pos) (tOp r ta tb) := by
  intro pins s σ H Q I h
  exact wpAny_BinOp (binT ha hb I h fun v u s2 x y H2 I2 rx ry q => ho pins s2 σ H2 x y v u Q I2 rx ry q)
theorem opI {f : Value → Value → Sem Value} {C : Int → Int → Prop} {g : Int → Int → Int}
    (rule : ∀ (i j : Int) (t u : Tok) (s : Shared) (Q : Value → Shared → Prop) (E : Value → Shared → Prop), C i j → Q (.int (g i j) s.toks) { s with toks := s.toks + 1 } → wpAny (model X.prog X.w) X.A (f (.int i t) (.int j u)) Q E s) :
    OpR X f (rI C fun i j => .int (g i j)) := by
  intro pins s σ H x y v u Q I rx ry h
  obtain ⟨i, j, rfl, rfl, hc, q⟩ := h
  obtain ⟨t, rfl⟩ := rx
  obtain ⟨t', rfl⟩ := ry
  exact rule i j t t' s _ _ hc ⟨.int (g i j), H, I.tok _, ⟨_, rfl⟩, q⟩
theorem opI0 {f : Value → Value → Sem Value} {g : Int → Int → Int}
    (rule : ∀ (i j : Int) (t u : Tok) (s : Shared) (Q : Value → Shared → Prop) (E : Value → Shared → Prop), Q (.int (g i j) s.toks) { s with toks := s.toks + 1 } → wpAny (model X.prog X.w) X.A (f (.int i t) (.int j u)) Q E s) :
    OpR X f (rI0 fun i j => .int (g i j)) := by
  intro pins s σ H x y v u Q I rx ry h
  obtain ⟨i, j, rfl, rfl, q⟩ := h
  obtain ⟨t, rfl⟩ := rx
  obtain ⟨t', rfl⟩ := ry
  exact rule i j t t' s _ _ ⟨.int (g i j), H, I.tok _, ⟨_, rfl⟩, q⟩
theorem opB0 {f : Value → Value → Sem Value} {g : Int → Int → Bool}
    (rule : ∀ (i j : Int) (t u : Tok) (s : Shared) (Q : Value → Shared → Prop) (E : Value → Shared → Prop), Q (.bool (g i j)) s → wpAny (model X.prog X.w) X.A (f (.int i t) (.int j u)) Q E s) :
    OpR X f (rI0 fun i j => .bl (g i j)) := by
  intro pins s σ H x y v u Q I rx ry h
  obtain ⟨i, j, rfl, rfl, q⟩ := h
  obtain ⟨t, rfl⟩ := rx
  obtain ⟨t', rfl⟩ := ry
  exact rule i j t t' s _ _ ⟨.bl (g i j), H, I, rfl, q⟩
def CDiv (i j : Int) : Prop := 0 < j ∧ j < 1073741824
def CDivN (i j : Int) : Prop := j ≠ 0 ∧ j.natAbs < 1073741824
def CPow (i j : Int) : Prop := 0 ≤ j ∧ j ≤ 1000000 ∧ i.natAbs < 2 ^ 64
def CMul (i j : Int) : Prop := (-(2 ^ 64) < i ∧ i < 2 ^ 64) ∨ (-(2 ^ 64) < j ∧ j < 2 ^ 64)
theorem CMul.ok {i j : Int} (h : CMul i j) : IntMulOk i j := by
  rcases h with ⟨h1, h2⟩ | ⟨h1, h2⟩
  · exact .of_left (intBits_le_64 h1 h2)
  · exact .of_right (intBits_le_64 h1 h2)
theorem two_pow_nn (k : Nat) : (0 : Int) ≤ 2 ^ k := by
  rw [two_pow_cast]
  exact Int.natCast_nonneg _
theorem op_add : OpR X (binaryOp .Add) (rI0 fun i j => .int (i + j)) := opI0 fun _ _ _ _ _ _ _ q => add_int q
theorem op_mul : OpR X (binaryOp .Mult) (rI CMul fun i j => .int (i * j)) := opI fun _ _ _ _ _ _ _ hc q => mul_int q hc.ok
theorem op_fdiv : OpR X (binaryOp .FloorDiv) (rI CDiv fun i j => .int (i / j)) := opI fun i j _ _ _ _ _ hc q => by
  have h1 : (0 : Int) < j := hc.1
  have h2 : j < 1073741824 := hc.2
  exact floordiv_int (by omega) (by rw [Int.fdiv_eq_ediv_of_nonneg i (by omega)]; exact q) (.inl (PyProof.noPylong_small (by omega)))
theorem op_mod : OpR X (binaryOp .Mod) (rI (fun _ j => 0 < j) fun i j => .int (i % j)) := opI fun i j _ _ _ _ _ hc q => by
  have h1 : (0 : Int) < j := hc
  exact mod_int' (by omega) (by rw [Int.fmod_eq_emod_of_nonneg i (by omega)]; exact q)
theorem op_pow : OpR X (binaryOp .Pow) (rI CPow fun i j => .int (i ^ j.toNat)) := opI fun _ _ _ _ _ _ _ hc q => pow_int_small hc.1 hc.2.1 hc.2.2 q
theorem op_shr : OpR X (binaryOp .RShift) (rI (fun _ j => 0 ≤ j) fun i j => .int (i / 2 ^ j.toNat)) := opI fun i j _ _ _ _ _ hc q =>
  rshift_int hc (by rw [Int.fdiv_eq_ediv_of_nonneg i (two_pow_nn _)]; exact q)
end
def scal : V → V → Bool
  | .non, .non => true | .non, .int _ => true | .int _, .non => true | .non, .bl _ => true | .bl _, .non => true | .non, .str _ => true | .str _, .non => true
  | .int _, .int _ => true | .bl _, .bl _ => true | .str _, .str _ => true | .byt _, .byt _ => true
  | .int _, .str _ => true | .str _, .int _ => true | .bl _, .str _ => true | .str _, .bl _ => true
  | _, _ => false
def rEq : R2 := fun x y H Q => scal x y = true ∧ Q (.bl (decide (x = y))) H
def rNe : R2 := fun x y H Q => scal x y = true ∧ Q (.bl (!decide (x = y))) H
theorem dec_int {i j : Int} : decide (V.int i = V.int j) = (i == j) := by
  rw [Bool.eq_iff_iff]
  simp
theorem dec_bl {i j : Bool} : decide (V.bl i = V.bl j) = (i == j) := by
  rw [Bool.eq_iff_iff]
  simp
theorem dec_str {i j : Str} : decide (V.str i = V.str j) = (i == j) := by
  rw [Bool.eq_iff_iff]
  simp
theorem dec_byt {i j : Array UInt8} : decide (V.byt i = V.byt j) = (i.toList == j.toList) := by
  rw [Bool.eq_iff_iff]
  cases i
  cases j
  simp
section
variable {X : Cx} {a b c : Expr} {ta tb tc : TE} {pos : Pos}
theorem fin_bl {pins : List (Addr × Obj)} {σ : St} {H : Hp} {s : Shared} {Q : VK} {k k' : Bool} (I : Inv X pins σ H s) (q : Q (.bl k) H) (e : k = k') : EP X pins σ Q (.bool k') s := by
  subst e
  exact ⟨.bl k, H, I, rfl, q⟩
theorem op_eq : OpR X (compareOp .Eq) rEq := by
  intro pins s σ H x y v u Q I rx ry h
  obtain ⟨hs, q⟩ := h
  cases x with
  | non =>
    cases rx
    cases y with
    | non => cases ry; exact PySem.EqNone.eq_none_none (fin_bl I q (by simp))
    | bl j => cases ry; exact PySem.EqNone.eq_none_bool (fin_bl I q (by simp))
    | int j => obtain ⟨t', rfl⟩ := ry; exact PySem.EqNone.eq_none_int (fin_bl I q (by simp))
    | str j => obtain ⟨t', rfl⟩ := ry; exact PySem.EqNone.eq_none_str (fin_bl I q (by simp))
    | _ => exact absurd (show false = true from hs) Bool.false_ne_true
  | bl i =>
    cases rx
    cases y with
    | non => cases ry; exact PySem.EqNone.eq_bool_none (fin_bl I q (by simp))
    | bl j => cases ry; exact eq_bool (fin_bl I q dec_bl)
    | str j => obtain ⟨t', rfl⟩ := ry; exact PySem.EqMixed.eq_bool_str (fin_bl I q (by simp))
    | _ => exact absurd (show false = true from hs) Bool.false_ne_true
  | int i =>
    obtain ⟨t, rfl⟩ := rx
    cases y with
    | non => cases ry; exact PySem.EqNone.eq_int_none (fin_bl I q (by simp))
    | int j => obtain ⟨t', rfl⟩ := ry; exact eq_int (fin_bl I q dec_int)
    | str j => obtain ⟨t', rfl⟩ := ry; exact PySem.EqMixed.eq_int_str (fin_bl I q (by simp))
    | _ => exact absurd (show false = true from hs) Bool.false_ne_true
  | str i =>
    obtain ⟨t, rfl⟩ := rx
    cases y with
    | non => cases ry; exact PySem.EqNone.eq_str_none (fin_bl I q (by simp))
    | bl j => cases ry; exact PySem.EqMixed.eq_str_bool (fin_bl I q (by simp))
    | int j => obtain ⟨t', rfl⟩ := ry; exact PySem.EqMixed.eq_str_int (fin_bl I q (by simp))
    | str j => obtain ⟨t', rfl⟩ := ry; exact eq_str (fin_bl I q dec_str)
    | _ => exact absurd (show false = true from hs) Bool.false_ne_true
  | byt i =>
    obtain ⟨t, rfl⟩ := rx
    cases y with
    | byt j => obtain ⟨t', rfl⟩ := ry; exact PySem.W.eq_bytes (fin_bl I q dec_byt)
    | _ => exact absurd (show false = true from hs) Bool.false_ne_true
  | _ => cases y <;> exact absurd (show false = true from hs) Bool.false_ne_true
theorem op_ne : OpR X (compareOp .NotEq) rNe := by
  intro pins s σ H x y v u Q I rx ry h
  obtain ⟨hs, q⟩ := h
  cases x with
  | non =>
    cases rx
    cases y with
    | non => cases ry; exact PySem.EqNone.ne_none_none (fin_bl I q (by simp))
    | bl j => cases ry; exact PySem.EqNone.ne_none_bool (fin_bl I q (by simp))
    | int j => obtain ⟨t', rfl⟩ := ry; exact PySem.EqNone.ne_none_int (fin_bl I q (by simp))
    | str j => obtain ⟨t', rfl⟩ := ry; exact PySem.EqNone.ne_none_str (fin_bl I q (by simp))
    | _ => exact absurd (show false = true from hs) Bool.false_ne_true
  | bl i =>
    cases rx
    cases y with
    | non => cases ry; exact PySem.EqNone.ne_bool_none (fin_bl I q (by simp))
    | bl j => cases ry; exact ne_bool (fin_bl I q (congrArg not dec_bl))
    | str j => obtain ⟨t', rfl⟩ := ry; exact PySem.EqMixed.ne_bool_str (fin_bl I q (by simp))
    | _ => exact absurd (show false = true from hs) Bool.false_ne_true
  | int i =>
    obtain ⟨t, rfl⟩ := rx
    cases y with
    | non => cases ry; exact PySem.EqNone.ne_int_none (fin_bl I q (by simp))
    | int j => obtain ⟨t', rfl⟩ := ry; exact ne_int (fin_bl I q (congrArg not dec_int))
    | str j => obtain ⟨t', rfl⟩ := ry; exact PySem.EqMixed.ne_int_str (fin_bl I q (by simp))
    | _ => exact absurd (show false = true from hs) Bool.false_ne_true
  | str i =>
    obtain ⟨t, rfl⟩ := rx
    cases y with
    | non => cases ry; exact PySem.EqNone.ne_str_none (fin_bl I q (by simp))
    | bl j => cases ry; exact PySem.EqMixed.ne_str_bool (fin_bl I q (by simp))
    | int j => obtain ⟨t', rfl⟩ := ry; exact PySem.EqMixed.ne_str_int (fin_bl I q (by simp))
    | str j => obtain ⟨t', rfl⟩ := ry; exact ne_str (fin_bl I q (congrArg not dec_str))
    | _ => exact absurd (show false = true from hs) Bool.false_ne_true
  | byt i =>
    obtain ⟨t, rfl⟩ := rx
    cases y with
    | byt j => obtain ⟨t', rfl⟩ := ry; exact PySem.W.ne_bytes (fin_bl I q (congrArg not dec_byt))
    | _ => exact absurd (show false = true from hs) Bool.false_ne_true
  | _ => cases y <;> exact absurd (show false = true from hs) Bool.false_ne_true
theorem op_lt : OpR X (compareOp .Lt) (rI0 fun i j => .bl (decide (i < j))) := opB0 fun _ _ _ _ _ _ _ q => lt_int q
theorem op_le : OpR X (compareOp .LtE) (rI0 fun i j => .bl (decide (i ≤ j))) := opB0 fun _ _ _ _ _ _ _ q => le_int q
theorem op_lt_str : OpR X (compareOp .Lt) (fun x y H Q => ∃ i j, x = .str i ∧ y = .str j ∧ Q (.bl (decide (i.cps.toList < j.cps.toList))) H) := by
  intro pins s σ H x y v u Q I rx ry h
  obtain ⟨i, j, rfl, rfl, q⟩ := h
  obtain ⟨t, rfl⟩ := rx
  obtain ⟨t', rfl⟩ := ry
  exact lt_str (fin_bl I q rfl)
theorem op_in_str : OpR X (compareOp .In) (fun x y H Q => ∃ i j, x = .str i ∧ y = .str j ∧ Q (.bl (!(Builtin.Str.occurrences j i 0 j.length 1).isEmpty)) H) := by
  intro pins s σ H x y v u Q I rx ry h
  obtain ⟨i, j, rfl, rfl, q⟩ := h
  obtain ⟨t, rfl⟩ := rx
  obtain ⟨t', rfl⟩ := ry
  exact in_str (fin_bl I q rfl)
theorem op_isN : OpR X (compareOp .Is) (fun x y H Q => y = .non ∧ Q (.bl (decide (x = .non))) H) := by
  intro pins s σ H x y v u Q I rx ry h
  obtain ⟨rfl, q⟩ := h
  cases ry
  refine is_none_gen (fin_bl I q ?_)
  cases x <;> first
    | (cases rx; rfl)
    | (obtain ⟨t, rfl⟩ := rx; rfl)
def isObj : HO → Bool
  | .lst _ => true
  | .ins _ _ _ => true
  | _ => false
theorem OpR.or {f : Value → Value → Sem Value} {r r' : R2} (h : OpR X f r) (h' : OpR X f r') : OpR X f (fun x y H Q => r x y H Q ∨ r' x y H Q) := by
  intro pins s σ H x y v u Q I rx ry q
  rcases q with q | q
  · exact h pins s σ H x y v u Q I rx ry q
  · exact h' pins s σ H x y v u Q I rx ry q
theorem nomark (b : Expr) {op : CmpOp} (h : op ≠ .In := by decide) (h2 : op ≠ .NotIn := by decide) : behindInMarks op b = false := by
  have e1 : (op == CmpOp.In) = false := by cases op <;> first | rfl | exact absurd rfl h
  have e2 : (op == CmpOp.NotIn) = false := by cases op <;> first | rfl | exact absurd rfl h2
  cases b <;> simp [behindInMarks, e1, e2]
theorem pe_cmpR {op : CmpOp} {r : R2} (ho : OpR X (compareOp op) r) (ha : PE X a ta) (hb : PE X b tb) (hm : behindInMarks op b = false) : PE X (.Compare a [op] [b] pos) (tOp r ta tb) := by
  intro pins s σ H Q I h
  exact wpAny_Compare1 (binT ha hb I h fun v u s2 x y H2 I2 rx ry q => ho pins s2 σ H2 x y v u Q I2 rx ry q) hm
def tTest (t : TE) : TT := fun σ H Q => t σ H fun x H' => ∃ k, x = .bl k ∧ Q k H'
def tChain (r r' : R2) (ta tb tc : TE) : TE := fun σ H Q => ta σ H fun x H1 => tb σ H1 fun y H2 => r x y H2 fun z H3 => ∃ k, z = .bl k ∧
  (if k = true then tc σ H3 fun w' H4 => r' y w' H4 Q else Q (.bl false) H3)
def TruV (K : PySem.W.Frag) (x : V) (H : Hp) (k : Bool) : Prop :=
  match x with
  | .non => k = false
  | .bl b => k = b
  | .int i => k = (i != 0)
  | .str y => y.length ≤ sizeLine ∧ k = ((y.length : Int) != 0)
  | .byt y => y.size ≤ sizeLine ∧ k = ((y.size : Int) != 0)
  | .ref p => (∃ xs, SqL K H p xs ∧ k = !xs.isEmpty) ∨ (∃ xs, SqT K H p xs ∧ k = !xs.isEmpty) ∨ ∃ kvs, H p = some (.dK kvs) ∧ k = !kvs.isEmpty
  | _ => False
theorem isEmpty_kv {κ : Type} {kvs : List (κ × V)} {vs : List (κ × Value)} (r : KV kvs vs) : (!vs.isEmpty) = !kvs.isEmpty := by
  cases r <;> rfl
theorem isEmpty_of {xs : List V} {its : List Value} (r : Vals xs its) : (!its.toArray.isEmpty) = !xs.isEmpty := by
  cases r <;> simp
theorem line63 : (sizeLine : Nat) < 2 ^ 63 := by rw [sizeLine_eq]; decide
theorem tru_ok : TruR X (fun x H Q => ∃ k, TruV X.K x H k ∧ Q k H) := by
  intro pins s σ H x v Q I rx h
  obtain ⟨k, e, q⟩ := h
  have hl := line63
  have hs : sizeLine = 16777216 := sizeLine_eq
  cases x with
  | non =>
    cases rx
    have e' : k = false := e
    subst e'
    exact truthy_none ⟨H, I, q⟩
  | bl b =>
    cases rx
    have e' : k = b := e
    subst e'
    exact wpAny_truthy_bool ⟨H, I, q⟩
  | int i =>
    obtain ⟨t, rfl⟩ := rx
    have e' : k = (i != 0) := e
    subst e'
    exact PySem.P.truthy_int ⟨H, I, q⟩
  | str y =>
    obtain ⟨t, rfl⟩ := rx
    obtain ⟨hy, e'⟩ : y.length ≤ sizeLine ∧ k = ((y.length : Int) != 0) := e
    subst e'
    exact PySem.P.truthy_str (by omega) ⟨H, I.tok _, q⟩
  | byt y =>
    obtain ⟨t, rfl⟩ := rx
    obtain ⟨hy, e'⟩ : y.size ≤ sizeLine ∧ k = ((y.size : Int) != 0) := e
    subst e'
    exact PySem.W.truthy_bytes (by omega) ⟨H, I.tok _, q⟩
  | ref p =>
    cases rx
    have e' : (∃ xs, SqL X.K H p xs ∧ k = !xs.isEmpty) ∨ (∃ xs, SqT X.K H p xs ∧ k = !xs.isEmpty) ∨ ∃ kvs, H p = some (.dK kvs) ∧ k = !kvs.isEmpty := e
    rcases e' with ⟨xs, hx, e'⟩ | ⟨xs, hx, e'⟩ | ⟨kvs, hx, e'⟩
    · subst e'
      obtain ⟨its, r, pl, hz⟩ := I.list hx
      have hlen := r.length
      exact wpAny_truthy_list pl.isList (by simp only [List.size_toArray]; omega) ⟨H, I.tok _, by rw [isEmpty_of r]; exact q⟩
    · subst e'
      obtain ⟨its, r, pl, hz⟩ := I.tuple hx
      have hlen := r.length
      exact truthy_tuple pl (by simp only [List.size_toArray]; omega) ⟨H, I.tok _, by rw [isEmpty_of r]; exact q⟩
    · subst e'
      obtain ⟨hz, hS, vs, r, m⟩ : kvs.length ≤ sizeLine ∧ (p == sysModules) = false ∧ ∃ vs, KV kvs vs ∧ s.heap.DictOf (mixKind X.prog X.w) p vs := I.hok p _ hx
      have hlen : kvs.length = vs.length := Paired.length r
      exact wpAny_truthy_dict hS m (by omega) ⟨H, I.tok _, by rw [isEmpty_kv r]; exact q⟩
  | _ => exact (show False from e).elim
theorem pt_truth (ha : PE X a ta) (he : ∀ whole, isTrue a X.env whole = (do let v ← whole; standAt a.pos; holding [v] (truthy v))) :
    PT X a (fun σ H Q => ta σ H fun x H' => ∃ k, TruV X.K x H' k ∧ Q k H') := by
  intro pins s σ H Q I h
  exact isTrue_plain (thn (ha pins s σ H _ I h) fun v s1 ⟨x, H1, I1, r1, q1⟩ => tru_ok pins s1 σ H1 x v Q I1 r1 q1) (he _)
theorem op_add_str : OpR X (binaryOp .Add) (fun x y H Q => ∃ i j, x = .str i ∧ y = .str j ∧ i.length + j.length ≤ sizeLine ∧ Q (.str (i ++ j)) H) := by
  intro pins s σ H x y v u Q I rx ry h
  obtain ⟨i, j, rfl, rfl, hz, q⟩ := h
  obtain ⟨t, rfl⟩ := rx
  obtain ⟨t', rfl⟩ := ry
  exact add_str (fun t' tk => ⟨.str (i ++ j), H, I.tok _, ⟨_, rfl⟩, q⟩) hz
def PlainIxT (b : Expr) : Prop := ∀ o i, subscripted b false o i = operate [o, i] (getItem o i)
theorem vals1 {x : V} {us : List Value} (r : Vals [x] us) : ∃ u, us = [u] ∧ RelV x u := by
  cases r with
  | cons r1 r2 => cases r2; exact ⟨_, rfl, r1⟩
theorem vals2 {x y : V} {us : List Value} (r : Vals [x, y] us) : ∃ u w', us = [u, w'] ∧ RelV x u ∧ RelV y w' := by
  cases r with
  | cons r1 r2 =>
    cases r2 with
    | cons r3 r4 => cases r4; exact ⟨_, _, rfl, r1, r3⟩
inductive rTwo (f : Int → Int → Int) (xs : List V) (H : Hp) (Q : VK) : Prop
  | mk (i j : Int) (h0 : xs = [.int i, .int j]) (h1 : Q (.int (f i j)) H) : rTwo f xs H Q
theorem call_max2 (hc : X.calm = true) : CallR X (.builtin "max") (rTwo fun i j => if j > i then j else i) := by
  intro pins s σ H xs us Q I r h
  obtain ⟨i, j, rfl, q⟩ := h
  obtain ⟨u, w', rfl, ⟨t, rfl⟩, ⟨t', rfl⟩⟩ := vals2 r
  refine max_two_ints (I.ok.hd hc) fun h' tk k => ⟨_, H, I.kept k, ?_, q⟩
  by_cases hj : j > i
  · rw [if_pos hj, if_pos hj]; exact ⟨_, rfl⟩
  · rw [if_neg hj, if_neg hj]; exact ⟨_, rfl⟩
theorem call_min2 (hc : X.calm = true) : CallR X (.builtin "min") (rTwo fun i j => if j < i then j else i) := by
  intro pins s σ H xs us Q I r h
  obtain ⟨i, j, rfl, q⟩ := h
  obtain ⟨u, w', rfl, ⟨t, rfl⟩, ⟨t', rfl⟩⟩ := vals2 r
  refine min_two_ints (I.ok.hd hc) fun h' tk k => ⟨_, H, I.kept k, ?_, q⟩
  by_cases hj : j < i
  · rw [if_pos hj, if_pos hj]; exact ⟨_, rfl⟩
  · rw [if_neg hj, if_neg hj]; exact ⟨_, rfl⟩
theorem call_int1 : CallR X (.type "int") (fun xs H Q => (∃ i, xs = [.int i] ∧ Q (.int i) H) ∨ ∃ k, xs = [.bl k] ∧ Q (.int (if k then 1 else 0)) H) := by
  intro pins s σ H xs us Q I r h
  rcases h with ⟨i, rfl, q⟩ | ⟨k, rfl, q⟩
  · obtain ⟨u, rfl, t, rfl⟩ := vals1 r
    exact call_int_int ⟨.int i, H, I, ⟨_, rfl⟩, q⟩
  · obtain ⟨u, rfl, r1⟩ := vals1 r
    cases r1
    exact call_int_bool ⟨.int (if k then 1 else 0), H, I.tok _, ⟨_, rfl⟩, q⟩
theorem call_str_int : CallR X (.type "str") (fun xs H Q => ∃ i, xs = [.int i] ∧ i.natAbs.log2 < 1920 ∧ Q (.str (toString i)) H) := by
  intro pins s σ H xs us Q I r h
  obtain ⟨i, rfl, hz, q⟩ := h
  obtain ⟨u, rfl, t, rfl⟩ := vals1 r
  exact PySem.P.str_of_int hz ⟨.str _, H, I.tok _, ⟨_, rfl⟩, q⟩
def LenV (K : PySem.W.Frag) (x : V) (H : Hp) (n : Nat) : Prop :=
  match x with
  | .str y => y.length ≤ sizeLine ∧ n = y.length
  | .byt y => y.size ≤ sizeLine ∧ n = y.size
  | .ref p => (∃ xs, SqL K H p xs ∧ n = xs.length) ∨ ∃ xs, SqT K H p xs ∧ n = xs.length
  | _ => False
end
end L2
namespace L2
open PySem PySem.Spec PyProof.Rows
structure ObjM (h : Heap) (x dx C : Addr) (mA : Str → Option Value) : Prop where
  obj : h.get? x = some (PySem.W.instObj C dx)
  ns : h.Ns1 dx mA
  ne : dx ≠ x
theorem lookIn_ns {h : Heap} {dx : Addr} {mA : Str → Option Value} (n : h.Ns1 dx mA) : ∃ od, h.get? dx = some od ∧ ∀ name, PySem.W.lookIn name od = some (mA name) := by
  obtain ⟨o, es, ep, ho, hd, hk, _, hm⟩ := n
  refine ⟨o, ho, fun name => ?_⟩
  have e := hm name
  unfold nsFind findBy at e
  rw [← Array.find?_toList] at e
  unfold PySem.W.lookIn
  rw [hd]
  dsimp only
  split
  · rename_i y q
    rw [q] at e
    exact congrArg some e
  · rename_i q
    rw [q] at e
    have a : es.toList.any (·.refKey) = false := by
      rw [List.any_eq_false]
      intro y hy
      obtain ⟨z, t, hkey⟩ := hk y (Array.mem_toList_iff.mp hy)
      simp [DictEntry.refKey, hkey]
    have a' : ¬ es.toList.any (·.refKey) = true := by rw [a]; exact Bool.false_ne_true
    rw [if_neg a']
    exact congrArg some e
theorem ObjM.look {h : Heap} {x dx C : Addr} {mA : Str → Option Value} (I : ObjM h x dx C mA) : ∃ od, PySem.W.InstAt h x (PySem.W.instObj C dx) C (some od) ∧ ∀ name, PySem.W.lookIn name od = some (mA name) :=
  let ⟨od, ho, hl⟩ := lookIn_ns I.ns
  ⟨od, ⟨I.obj, rfl, rfl, ho⟩, hl⟩
section
variable {prog : Program} {w : World} {A : Around} {E : Value → Shared → Prop} {s : Shared} {K : PySem.W.Frag} {x dx C f : Addr} {mA : Str → Option Value} {name : Str} {v : Value}
theorem get_map {expr : Bool} {Q : Value → Shared → Prop} (X : K.In s.heap) (I : ObjM s.heap x dx C mA) (hg : PySem.W.plainGet K C name = true) (hh : PySem.W.hasDictIn K C = true)
    (ha : PySem.W.findIn K (.ref C) name = some none) (hv : mA name = some v) (hv' : PySem.W.handedIn v = true) (h : Q v { s with toks := s.toks + 1 }) :
    wpAny (model prog w) A (getAttr (.ref x) name expr) Q E s := by
  obtain ⟨od, J, hl⟩ := I.look
  exact PySem.W.get_value X J (PySem.W.plainGet_of hg).1 (PySem.W.findObj_own hh ha rfl (by rw [hl, hv])) hv' h
theorem get_meth {pl : Sem Bool} {Q : Value × List Value → Shared → Prop} (X : K.In s.heap) (I : ObjM s.heap x dx C mA) (hg : PySem.W.plainGet K C name = true)
    (hf : PySem.W.findIn K (.ref C) name = some (some (.ref f))) (ht : PySem.W.isFn K (.ref f) = true) (hv : mA name = none) (h : Q (.ref f, [.ref x]) s) :
    wpAny (model prog w) A (getMethod (.ref x) name pl) Q E s := by
  obtain ⟨od, J, hl⟩ := I.look
  exact PySem.W.method_fn X J (PySem.W.plainGet_of hg).1 (PySem.W.plainGet_of hg).2 hf (beq_iff_eq.mp ht) (by show (PySem.W.lookIn name od).map (·.isSome) = some false; rw [hl, hv]; rfl) h
theorem set_map {ns : List Str} {Q : Unit → Shared → Prop} (X : K.In s.heap) (I : ObjM s.heap x dx C mA)
    (hs : PySem.W.findIn K (.ref C) "__setattr__" = some (some (.builtin "object.__setattr__"))) (hp : PySem.W.plainOver K C = true) (ht : PySem.W.takerIn K C name = some none) (hh : PySem.W.hasDictIn K C = true)
    (hw : PySem.Within mA ns) (hsz : ns.length ≤ sizeLine)
    (h : ∀ h', ObjM h' x dx C (fun y => if y = name then some v else mA y) → Heap.SameBut dx s.heap h' → Q () { s with heap := h', toks := s.toks + 2 }) :
    wpAny (model prog w) A (setAttr (.ref x) name v) Q E s := by
  obtain ⟨od, J, hl⟩ := I.look
  refine PySem.W.set_plain X J hs (PySem.W.osa_open (s := { s with toks := s.toks + 1 }) (r := none) X J hp ht fun b => ?_)
  obtain ⟨cd, hc, hd'⟩ := PySem.W.any_some hh
  have hx : s.heap.get? x = some ⟨.ref C, some dx, .plain, #[]⟩ := I.obj
  refine wpAny_bind (wpAny_pure (wpAny_bind (wpAny_bind (wpAny_loadPart hx (wpAny_bind (PySem.W.Looks.here (s := { s with toks := s.toks + 1 }) (PySem.W.looks_clsIn X hc) ?_))))))
  rw [hd']
  refine wpAny_pure (a := some dx) (wpAny_bind (wpAny_pure (wpAny_bind ?_)))
  refine wpAny_nsSet1 (s := { s with toks := s.toks + 1 }) I.ns fun h' hn2 hs2 => ?_
  obtain ⟨oD, esD, epD, hoD, hdD, hcD⟩ := hn2.count (PySem.Within.cons name v hw)
  refine wpAny_bind (wpAny_lookBehind hoD (by rw [hdD]; exact pastItsLine_dict (Nat.le_trans hcD (by rw [List.length_cons]; omega))) ?_)
  exact wpAny_pure (h _ ⟨(hs2.2 _ (Ne.symm I.ne)).trans I.obj, hn2, I.ne⟩ hs2)
theorem make_map {R : Result → Shared → Prop} {vs : List Value} {kw : List (Str × Value)} (X : K.In s.heap) (hm : PySem.W.makesIn K C = true)
    (hi : PySem.W.findIn K (.ref C) "__init__" = some (some (.ref f))) (hf : PySem.W.typeIn K (.ref f) = some (.type "function"))
    (h : codeAny (model prog w) (A.under (.builtin "type.__call__" ⟨.ref C :: vs, kw⟩)) (.call (.ref f) ⟨.ref (s.heap.objs.size + 1) :: vs, kw⟩) (PySem.W.InitBack (s.heap.objs.size + 1) R)
      { s with heap := (s.heap.push PySem.W.emptyDict).push (PySem.W.instObj C s.heap.objs.size) }) :
    codeAny (model prog w) A (.call (.ref C) ⟨vs, kw⟩) R s := by
  obtain ⟨hh, g, d, t, os⟩ := s
  exact PySem.W.make_core (PySem.W.makes_of X hm) (PySem.W.looks_findIn X hi) (fun self => PySem.W.bind_fn X self hf) (.inl rfl) h
end
def putF (f : Str) (v : V) : List (Str × V) → List (Str × V)
  | [] => [(f, v)]
  | (g, x) :: r => if g = f then (g, v) :: r else (g, x) :: putF f v r
theorem lookup_putF (f g : Str) (v : V) : ∀ fs : List (Str × V), (putF f v fs).lookup g = if g = f then some v else fs.lookup g
  | [] => by
    show List.lookup g [(f, v)] = _
    by_cases h : g = f
    · have hb : (g == f) = true := beq_iff_eq.mpr h
      simp only [List.lookup, hb, if_pos h]
    · have hb : (g == f) = false := beq_eq_false_iff_ne.mpr h
      simp only [List.lookup, hb, if_neg h]
  | (k, x) :: r => by
    have ih := lookup_putF f g v r
    rw [show putF f v ((k, x) :: r) = (if k = f then (k, v) :: r else (k, x) :: putF f v r) from rfl]
    by_cases hk : k = f
    · rw [if_pos hk]
      by_cases h : g = k
      · have hb : (g == k) = true := beq_iff_eq.mpr h
        simp only [List.lookup, hb, if_pos (h.trans hk)]
      · have hb : (g == k) = false := beq_eq_false_iff_ne.mpr h
        simp only [List.lookup, hb, if_neg (fun e : g = f => h (e.trans hk.symm))]
    · rw [if_neg hk]
      by_cases h : g = k
      · have hb : (g == k) = true := beq_iff_eq.mpr h
        simp only [List.lookup, hb, if_neg (fun e : g = f => hk (h.symm.trans e))]
      · have hb : (g == k) = false := beq_eq_false_iff_ne.mpr h
        simp only [List.lookup, hb]
        exact ih
theorem keys_putF (f : Str) (v : V) : ∀ fs : List (Str × V), f ∈ (putF f v fs).map (·.1) ∧ ∀ g, g ∈ fs.map (·.1) → g ∈ (putF f v fs).map (·.1)
  | [] => ⟨by simp [putF], fun g h => by simp at h⟩
  | (k, x) :: r => by
    obtain ⟨i1, i2⟩ := keys_putF f v r
    rw [show putF f v ((k, x) :: r) = (if k = f then (k, v) :: r else (k, x) :: putF f v r) from rfl]
    by_cases hk : k = f
    · rw [if_pos hk]
      subst hk
      exact ⟨by simp, fun g h => by simpa using h⟩
    · rw [if_neg hk]
      refine ⟨?_, fun g h => ?_⟩
      · rw [List.map_cons]
        exact List.mem_cons_of_mem _ i1
      · rw [List.map_cons] at h ⊢
        rcases List.mem_cons.mp h with e | e
        · exact List.mem_cons.mpr (.inl e)
        · exact List.mem_cons_of_mem _ (i2 g e)
theorem length_putF (f : Str) (v : V) : ∀ fs : List (Str × V), (putF f v fs).length ≤ fs.length + 1
  | [] => by simp [putF]
  | (k, x) :: r => by
    have ih := length_putF f v r
    rw [show putF f v ((k, x) :: r) = (if k = f then (k, v) :: r else (k, x) :: putF f v r) from rfl]
    by_cases hk : k = f
    · rw [if_pos hk, List.length_cons, List.length_cons]; omega
    · rw [if_neg hk, List.length_cons, List.length_cons]; omega
theorem RelO.some_of {v : V} {o : Option Value} (r : RelO (some v) o) : ∃ u, o = some u ∧ RelV v u := by
  cases o with
  | none => exact (show False from r).elim
  | some u => exact ⟨u, rfl, r⟩
theorem RelO.none_of {o : Option Value} (r : RelO none o) : o = none := by
  cases o with
  | none => rfl
  | some u => exact (show False from r).elim
theorem handed_of {v : V} {u : Value} (r : RelV v u) : PySem.W.handedIn u = true := by
  cases v with
  | non => cases (show u = Value.none from r); rfl
  | bl b => cases (show u = Value.bool b from r); rfl
  | int i => obtain ⟨t, e⟩ := (show ∃ t, u = Value.int i t from r); cases e; rfl
  | str x => obtain ⟨t, e⟩ := (show ∃ t, u = Value.str x t from r); cases e; rfl
  | byt b => obtain ⟨t, e⟩ := (show ∃ t, u = Value.bytes b t from r); cases e; rfl
  | flt b => obtain ⟨t, e⟩ := (show ∃ t, u = Value.float b t from r); cases e; rfl
  | ref a => cases (show u = Value.ref a from r); rfl
  | ty n => cases (show u = Value.type n from r); rfl
section
variable {P : Program} {w : World} {H H' : Hp} {h h' : Heap} {a C dx : Addr} {fs fs' : List (Str × V)}
theorem ins_get (hok : HOk P w H h) (e : H a = some (.ins C dx fs)) : ∃ mA, ObjM h a dx C mA ∧ (∀ f, RelO (fs.lookup f) (mA f)) ∧ PySem.Within mA (fs.map (·.1)) ∧ fs.length ≤ 1000 ∧ H dx = some (.own a) := by
  obtain ⟨d, z, ne, ob, mA, n, r, q⟩ := (show ObjOk P w H h a (.ins C dx fs) from hok a _ e)
  exact ⟨mA, ⟨ob, n, ne⟩, r, q, z, d⟩
end
structure Cls (K : PySem.W.Frag) (C : Addr) : Prop where
  pg : PySem.W.plainGet K C Str.empty = true
  hd : PySem.W.hasDictIn K C = true
  po : PySem.W.plainOver K C = true
  sa : PySem.W.findIn K (.ref C) "__setattr__" = some (some (.builtin "object.__setattr__"))
theorem Cls.get {K : PySem.W.Frag} {C : Addr} (c : Cls K C) (f : Str) : PySem.W.plainGet K C f = true := c.pg
def NoAttr (K : PySem.W.Frag) (C : Addr) (f : Str) : Prop := PySem.W.findIn K (.ref C) f = some none
theorem NoAttr.taker {K : PySem.W.Frag} {C : Addr} {f : Str} (n : NoAttr K C f) : PySem.W.takerIn K C f = some none := by
  unfold PySem.W.takerIn
  rw [show PySem.W.findIn K (.ref C) f = some none from n]
  rfl
structure Con (K : PySem.W.Frag) (C : Addr) (f : Str) (v : V) (u : Value) : Prop where
  at_ : PySem.W.findIn K (.ref C) f = some (some u)
  rel : RelV v u
  get : PySem.W.specialIn K u "__get__" = some none
  cp : PySem.W.copiedNames.contains f = false
structure Meth (K : PySem.W.Frag) (C : Addr) (m : Str) (f : Addr) : Prop where
  at_ : PySem.W.findIn K (.ref C) m = some (some (.ref f))
  fn : PySem.W.isFn K (.ref f) = true
  kp : PySem.W.keepIn K (.ref f) = true
section
variable {X : Cx} {pins : List (Addr × Obj)} {σ : St} {H : Hp} {s : Shared} {a C dx : Addr} {fs : List (Str × V)} {f : Str} {v : V} {A : Around} {E : Value → Shared → Prop}
theorem getattr_ok {b : Bool} {Q : Value → Shared → Prop} (I : Inv X pins σ H s) (e : H a = some (.ins C dx fs)) (c : Cls X.K C) (n : NoAttr X.K C f) (l : fs.lookup f = some v)
    (h : ∀ u s', Inv X pins σ H s' → RelV v u → Q u s') : wpAny (model X.prog X.w) A (getAttr (.ref a) f b) Q E s := by
  obtain ⟨mA, O, r, _, _, _⟩ := ins_get I.hok e
  obtain ⟨u, hu, ru⟩ := RelO.some_of (v := v) (o := mA f) (by rw [← l]; exact r f)
  exact get_map I.kIn O (c.get f) c.hd n hu (handed_of ru) (h u _ (I.tok _) ru)
theorem getmeth_ok {m : Str} {g : Addr} {pl : Sem Bool} {Q : Value × List Value → Shared → Prop} (I : Inv X pins σ H s) (e : H a = some (.ins C dx fs)) (c : Cls X.K C) (k : Meth X.K C m g) (l : fs.lookup m = none)
    (h : Q (.ref g, [.ref a]) s) : wpAny (model X.prog X.w) A (getMethod (.ref a) m pl) Q E s := by
  obtain ⟨mA, O, r, _, _, _⟩ := ins_get I.hok e
  have hn : mA m = none := RelO.none_of (by rw [← l]; exact r m)
  exact get_meth I.kIn O (c.get m) k.at_ k.fn hn h
theorem setattr_ok {y : V} {u : Value} {Q : Unit → Shared → Prop} (I : Inv X pins σ H s) (e : H a = some (.ins C dx fs)) (c : Cls X.K C) (n : NoAttr X.K C f) (hl : fs.length < 1000) (ry : RelV y u)
    (h : ∀ s', Inv X pins σ (upd H a (.ins C dx (putF f y fs))) s' → Q () s') : wpAny (model X.prog X.w) A (setAttr (.ref a) f u) Q E s := by
  obtain ⟨mA, O, r, wi, _, ho⟩ := ins_get I.hok e
  have hz : (fs.map (·.1)).length ≤ sizeLine := by rw [List.length_map, sizeLine_eq]; omega
  refine set_map I.kIn O c.sa c.po n.taker c.hd wi hz fun h' O' sb => h _ ?_
  have hd : ∃ o, h'.get? dx = some o := let ⟨o, _, _, e', _⟩ := O'.ns; ⟨o, e'⟩
  refine I.write (x := a) (e := dx) (by rw [e]; exact True.intro) (.inr ho) (fun b q hb z => (sb.2 b hb).trans z) hd ?_
  refine ⟨by rw [upd_ne O.ne]; exact ho, ?_, O.ne, O'.obj, _, O'.ns, fun g => ?_, fun g hg => ?_⟩
  · have := length_putF f y fs; omega
  · show RelO ((putF f y fs).lookup g) (if g = f then some u else mA g)
    rw [lookup_putF]
    by_cases q : g = f
    · rw [if_pos q, if_pos q]; exact ry
    · rw [if_neg q, if_neg q]; exact r g
  · by_cases q : g = f
    · rw [q]; exact (keys_putF f y fs).1
    · refine (keys_putF f y fs).2 g (wi g fun z => hg ?_)
      show (if g = f then some u else mA g) = none
      rw [if_neg q]; exact z
theorem Inv.made (I : Inv X pins σ H s) : Inv X pins σ (upd (upd H s.heap.objs.size (.own (s.heap.objs.size + 1))) (s.heap.objs.size + 1) (.ins C s.heap.objs.size []))
    { s with heap := (s.heap.push PySem.W.emptyDict).push (PySem.W.instObj C s.heap.objs.size) } := by
  have e1 : (s.heap.push PySem.W.emptyDict).get? s.heap.objs.size = some PySem.W.emptyDict := Heap.get?_push_size s.heap rfl
  have e2 : ((s.heap.push PySem.W.emptyDict).push (PySem.W.instObj C s.heap.objs.size)).get? (s.heap.objs.size + 1) = some (PySem.W.instObj C s.heap.objs.size) := by
    have := Heap.get?_push_size (s.heap.push PySem.W.emptyDict) (o := PySem.W.instObj C s.heap.objs.size) rfl
    rwa [Heap.size_push] at this
  have e3 : (s.heap.push PySem.W.emptyDict).Ns s.heap.objs.size (fun _ => none) := ⟨PySem.W.emptyDict, #[], _, e1, rfl, (fun e he => absurd he (by simp)), fun _ => rfl⟩
  have I1 := I.laid (a := s.heap.objs.size) (o := .own (s.heap.objs.size + 1)) (h' := s.heap.push PySem.W.emptyDict) (t' := s.toks) (fun b u q => Heap.get?_push_of_some _ q) (Nat.le_refl _) ⟨_, e1⟩
  refine I1.laid (a := s.heap.objs.size + 1) (o := .ins C s.heap.objs.size []) (t' := s.toks) (fun b u q => Heap.get?_push_of_some _ q) (Nat.le_of_eq (Heap.size_push _ _)) ?_
  have ne : s.heap.objs.size ≠ s.heap.objs.size + 1 := Nat.ne_of_lt (Nat.lt_succ_self _)
  refine ⟨by rw [upd_ne ne, upd_same], Nat.zero_le _, ne, e2, fun _ => none, (Heap.Ns1.of_empty e3).at fun o q => Heap.get?_push_of_some _ q, fun _ => True.intro, fun y hy => absurd rfl hy⟩
theorem attr_of {prog : Program} {w : World} {env : Env} {e : Expr} {f : Str} {pos : Pos} {s : Shared} {Q : Value → Shared → Prop} (hb : attributeBase e f env (eval e env) = eval e env)
    (h : wpAny (model prog w) A (eval e env) (fun o s₁ => wpAny (model prog w) A (getAttr o f true) Q E s₁) E s) : wpAny (model prog w) A (eval (.Attribute e f pos) env) Q E s :=
  Attribute_any_ h (by rw [arm_eval_Attribute, hb])
end
def tFld (K : PySem.W.Frag) (ta : TE) (f : Str) : TE := fun σ H Q => ta σ H fun x H1 => ∃ a C dx fs v, x = .ref a ∧ H1 a = some (.ins C dx fs) ∧ Cls K C ∧ NoAttr K C f ∧ fs.lookup f = some v ∧ Q v H1
def tCon (K : PySem.W.Frag) (ta : TE) (f : Str) : TE := fun σ H Q => ta σ H fun x H1 => ∃ a C dx fs v u, x = .ref a ∧ H1 a = some (.ins C dx fs) ∧ Cls K C ∧ Con K C f v u ∧ fs.lookup f = none ∧ Q v H1
def sFld (K : PySem.W.Frag) (ta tv : TE) (f : Str) : TS := fun D σ H => tv σ H fun y H1 => ta σ H1 fun x H2 => ∃ a C dx fs, x = .ref a ∧ H2 a = some (.ins C dx fs) ∧ Cls K C ∧ NoAttr K C f ∧ fs.length < 1000 ∧
  D.nx σ (upd H2 a (.ins C dx (putF f y fs)))
def InOp (X : Cx) (op : Operator) (rd : V → V → Hp → VK → Prop) : Prop :=
  ∀ (pins : List (Addr × Obj)) (s : Shared) (σ : St) (H : Hp) (x y : V) (u v : Value) (Q : VK), Inv X pins σ H s → RelV x u → RelV y v → rd x y H Q → wpAny (model X.prog X.w) X.A (inplaceOp op u v) (EP X pins σ Q) X.xe s
def sFldAug (K : PySem.W.Frag) (ta tv : TE) (rd : V → V → Hp → VK → Prop) (f : Str) : TS := fun D σ H => ta σ H fun x H1 => ∃ a C dx fs v, x = .ref a ∧ H1 a = some (.ins C dx fs) ∧ Cls K C ∧ NoAttr K C f ∧ fs.lookup f = some v ∧
  tv σ H1 fun y H2 => rd v y H2 fun z H3 => ∃ dx' fs', H3 a = some (.ins C dx' fs') ∧ fs'.length < 1000 ∧ D.nx σ (upd H3 a (.ins C dx' (putF f z fs')))
section
variable {X : Cx} {o e value : Expr} {f : Str} {pos pos' tpos : Pos} {ta tv : TE}
theorem pe_fld (he : PE X e ta) (hb : attributeBase e f X.env (eval e X.env) = eval e X.env) : PE X (.Attribute e f pos) (tFld X.K ta f) := by
  intro pins s σ H Q I h
  refine attr_of hb (thn (he pins s σ H _ I h) fun u s1 ⟨x, H1, I1, rx, a, C, dx, fs, v, ex, ea, c, n, l, q⟩ => ?_)
  subst ex
  obtain rfl : u = Value.ref a := rx
  exact getattr_ok I1 ea c n l fun u' s2 I2 ru => ⟨v, H1, I2, ru, q⟩
theorem ps_fld (ha : PE X o ta) (hv : PE X value tv) (hs : swapsWith value (some (.Attribute o f pos')) pos.line X.env = pure false) : PS X (.Assign [.Attribute o f pos'] value pos) (sFld X.K ta tv f) := by
  intro pins s σ H D I h
  refine plainObj_wpAny_Assign_Attribute (thn (hv pins s σ H _ I h) fun u s1 ⟨y, H1, I1, ry, q⟩ => thn (ha pins s1 σ H1 _ I1 q) fun ov s2 ⟨x, H2, I2, rx, a, C, dx, fs, ex, ea, c, n, l, q2⟩ => ?_) hs
  subst ex
  obtain rfl : ov = Value.ref a := rx
  exact setattr_ok I2 ea c n l ry fun s3 I3 => ⟨σ, _, I3, q2⟩
def rAdd : V → V → Hp → VK → Prop := fun x y H Q => ∃ i j, x = .int i ∧ y = .int j ∧ Q (.int (i + j)) H
def rSub : V → V → Hp → VK → Prop := fun x y H Q => ∃ i j, x = .int i ∧ y = .int j ∧ Q (.int (i - j)) H
end
section
variable {X : Cx} {pins : List (Addr × Obj)} {σ : St} {H : Hp} {s : Shared} {A : Around} {E : Value → Shared → Prop} {Q : Value → Shared → Prop} {c : Value} {b : Bool}
inductive TyOf (K : PySem.W.Frag) (H : Hp) : V → Value → Prop where
  | non : TyOf K H .non (.type "NoneType")
  | bl (x : Bool) : TyOf K H (.bl x) (.type "bool")
  | int (i : Int) : TyOf K H (.int i) (.type "int")
  | str (x : Str) : TyOf K H (.str x) (.type "str")
  | flt (x : UInt64) : TyOf K H (.flt x) (.type "float")
  | lst {a : Addr} {xs : List V} (e : H a = some (.lst xs)) : TyOf K H (.ref a) (.type "list")
  | frz {a : Addr} {o : Obj} {xs : List V} (e : H a = some (.frz o (.lst xs))) : TyOf K H (.ref a) (.type "list")
  | tup {a : Addr} {xs : List V} (e : H a = some (.tup xs)) : TyOf K H (.ref a) (.type "tuple")
  | dK {a : Addr} {kvs : List (Key × V)} (e : H a = some (.dK kvs)) : TyOf K H (.ref a) (.type "dict")
  | dT {a : Addr} {kvs : List (List Key × V)} (e : H a = some (.dT kvs)) : TyOf K H (.ref a) (.type "dict")
  | ins {a C dx : Addr} {fs : List (Str × V)} (e : H a = some (.ins C dx fs)) (cl : Cls K C) (ha : PySem.W.findIn K (.ref C) "__class__" = some (some (.builtin "object.__class__")))
      (hn : PySem.W.specialIn K (.builtin "object.__class__") "__get__" = some (some (.builtin "getset_descriptor.__get__"))) (htk : PySem.W.takesIn K (.builtin "object.__class__") = some true)
      (hm : PySem.W.mroIn K C (.type "object") = some true) : TyOf K H (.ref a) (.ref C)
end
end L2
namespace L2
open PySem PySem.Spec PyProof.Rows
structure Room (k : Nat) (A : Around) : Prop where
  hd : A.handled = none
  dp : A.depth + 3 * k + 5 < recursionLimit
  un : A.units + 16 * k + 200 < cLine
theorem Room.mono {j k : Nat} {A : Around} (r : Room k A) (h : j ≤ k) : Room j A := ⟨r.hd, by have := r.dp; omega, by have := r.un; omega⟩
theorem Room.deeper {k : Nat} {A : Around} (r : Room (k + 1) A) (env : Env) : Room k (A.deeper env) :=
  ⟨r.hd, by have := r.dp; show A.depth + 1 + 3 * k + 5 < _; omega, by have := r.un; show A.units + 3 + 16 * k + 200 < _; omega⟩
theorem make_depth {A : Around} {C : Addr} {us : List Value} {kw : List (Str × Value)} : (A.under (.builtin "type.__call__" ⟨.ref C :: us, kw⟩)).depth = A.depth + 1 := by
  first | rfl | simp [Around.under, Code.weight, Code.isCreation, Code.isGuard, Code.isCaller, Code.frames, Code.isFrame, guardIds]
theorem make_units {A : Around} {C : Addr} {us : List Value} {kw : List (Str × Value)} : (A.under (.builtin "type.__call__" ⟨.ref C :: us, kw⟩)).units = A.units + 1 := by
  first | rfl | simp [Around.under, Code.cUnits, Code.frames, Code.isFrame]
theorem Room.make {k : Nat} {A : Around} (r : Room (k + 1) A) (C : Addr) (us : List Value) (kw : List (Str × Value)) : Room k (A.under (.builtin "type.__call__" ⟨.ref C :: us, kw⟩)) :=
  ⟨r.hd, by have := r.dp; rw [make_depth]; omega, by have := r.un; rw [make_units]; omega⟩
theorem Room.depth {k : Nat} {A : Around} (r : Room k A) : A.depth < recursionLimit := by have := r.dp; omega
theorem Room.units {k : Nat} {A : Around} (r : Room k A) : A.units + 64 < cLine := by have := r.un; omega
def tNil : TA := fun _ H Q => Q [] H
def tCons (ta : TE) (tr : TA) : TA := fun σ H Q => ta σ H fun x H1 => tr σ H1 fun xs H2 => Q (x :: xs) H2
section
variable {X : Cx} {e : Expr} {es : List Expr} {te : TE} {t : TA} {pos : Pos}
theorem pa_nil : PA X [] tNil := fun _ _ _ _ H Q I h => Calls.spliced_nil ⟨[], H, I, .nil, h⟩
theorem pa_cons (ha : PE X e te) (hr : PA X es t) (hs : starEach (e :: es) X.env = (false, eval e X.env) :: starEach es X.env := by rfl) : PA X (e :: es) (tCons te t) := by
  intro pos pins s σ H Q I h
  rw [hs]
  show wpAny _ _ (spliced ((false, eval e X.env) :: backTo pos (starEach es X.env))) _ _ s
  refine Calls.spliced_cons (thn (ha pins s σ H _ I h) fun u s1 ⟨x, H1, I1, r1, q1⟩ => ?_)
  exact thn (hr pos pins s1 σ H1 _ I1 q1) fun us s2 ⟨xs, H2, I2, r2, q2⟩ => ⟨x :: xs, H2, I2, .cons r1 r2, q2⟩
def tTup (t : TA) : TE := fun σ H Q => t σ H fun xs H1 => xs.length ≤ sizeLine ∧ ∀ p, H1 p = none → Q (.ref p) (upd H1 p (.tup xs))
def tLst (t : TA) : TE := fun σ H Q => t σ H fun xs H1 => xs.length ≤ sizeLine ∧ ∀ p, H1 p = none → Q (.ref p) (upd H1 p (.lst xs))
theorem pe_tup {x1} (h : PA X es t) : PE X (.Tuple es x1 pos) (tTup t) := by
  intro pins s σ H Q I hq
  refine wpAny_Tuple_spliced (thn (h pos pins s σ H _ I hq) fun us s1 ⟨xs, H1, I1, r, z, q⟩ => ⟨by rw [← r.length]; exact z, ?_⟩)
  have hf : H1 s1.heap.objs.size = none := I1.hok.fresh (Nat.le_refl _)
  refine ⟨.ref s1.heap.objs.size, upd H1 s1.heap.objs.size (.tup xs), I1.laid (t' := s1.toks) (fun b u e => Heap.get?_push_of_some _ e) (Nat.le_refl _) ?_, rfl, q _ hf⟩
  exact ⟨z, us, r, ⟨_, Heap.get?_push_size _ rfl, rfl, _, rfl⟩⟩
theorem pe_lst (h : PA X es t) : PE X (.List es pos) (tLst t) := by
  intro pins s σ H Q I hq
  refine wpAny_List_spliced (thn (h pos pins s σ H _ I hq) fun us s1 ⟨xs, H1, I1, r, z, q⟩ => ⟨by rw [← r.length]; exact z, ?_⟩)
  have hf : H1 s1.heap.objs.size = none := I1.hok.fresh (Nat.le_refl _)
  refine ⟨.ref s1.heap.objs.size, upd H1 s1.heap.objs.size (.lst xs), I1.laid (t' := s1.toks) (fun b u e => Heap.get?_push_of_some _ e) (Nat.le_refl _) ?_, rfl, q _ hf⟩
  exact ⟨z, us, 0, r, Heap.get?_push_size _ rfl⟩
end
abbrev Sp := List V → Hp → VK → XK → Prop
abbrev CXT := List Env → Hp → Shared → XK → Value → Shared → Prop
structure Env0 (P : Program) (w : World) (K : PySem.W.Frag) (mg : Str → Option Value) (base : Heap) (A : Around) (outer : List Env) (s : Shared) (H : Hp) : Prop where
  frames : A.frames = some outer
  mod : Mod K mg base
  bs : ∀ b o, base.get? b = some o → s.heap.get? b = some o ∧ H b = none
  bsz : base.objs.size ≤ s.heap.objs.size
  funs : s.heap.FunFrames base outer
  frf : ∀ b ∈ frs outer, H b = none
  hok : HOk P w H s.heap
  bare : AllBare s.gens
def CE (outer : List Env) (P : Program) (w : World) (H : Hp) (s : Shared) (Q : VK) (u : Value) (s' : Shared) : Prop :=
  ∃ v H', s'.os = s.os ∧ AllBare s'.gens ∧ Un (frs outer) [] H H' s.heap s'.heap ∧ HOk P w H' s'.heap ∧ RelV v u ∧ Q v H'
def CR (CX : CXT) (outer : List Env) (P : Program) (w : World) (H : Hp) (s : Shared) (Q : VK) (E : XK) (r : Result) (s' : Shared) : Prop :=
  match r with
  | .ok (.ret u) => CE outer P w H s Q u s'
  | .ok _ => False
  | .error e => CX outer H s E e s'
structure FnOk (P : Program) (w : World) (K : PySem.W.Frag) (mg : Str → Option Value) (base : Heap) (CX : CXT) (k : Nat) (f : Addr) (fd : FuncData) (ps : List Str) (sp : Sp) : Prop where
  len : ∀ vs H Q E, sp vs H Q E → vs.length = ps.length
  run : ∀ (A : Around) (outer : List Env) (s : Shared) (H : Hp) (args : Args) (us : List Value) (vs : List V) (Q : VK) (E : XK), Room k A → Env0 P w K mg base A outer s H → BindsTo s fd args (ps.zip us) → Vals vs us → sp vs H Q E →
    codeAny (model P w) A (.call (.ref f) args) (CR CX outer P w H s Q E) s
theorem FnOk.mono {P : Program} {w : World} {K : PySem.W.Frag} {mg : Str → Option Value} {base : Heap} {CX : CXT} {j k : Nat} {f : Addr} {fd : FuncData} {ps : List Str} {sp : Sp} (F : FnOk P w K mg base CX j f fd ps sp) (h : j ≤ k) :
    FnOk P w K mg base CX k f fd ps sp := ⟨F.len, fun A outer s H args us vs Q E hr => F.run A outer s H args us vs Q E (hr.mono h)⟩
theorem Env0.make {P : Program} {w : World} {K : PySem.W.Frag} {mg : Str → Option Value} {base : Heap} {A : Around} {outer : List Env} {s : Shared} {H : Hp} (e : Env0 P w K mg base A outer s H) (C : Addr) (us : List Value) (kw : List (Str × Value)) :
    Env0 P w K mg base (A.under (.builtin "type.__call__" ⟨.ref C :: us, kw⟩)) outer s H := ⟨by first | exact e.frames | (simpa [Around.under, Code.envs, Code.isFrame, pushEnvs] using e.frames), e.mod, e.bs, e.bsz, e.funs, e.frf, e.hok, e.bare⟩
section
variable {X : Cx} {pins : List (Addr × Obj)} {σ : St} {H : Hp} {s s' : Shared}
theorem Inv.env0 (I : Inv X pins σ H s) : Env0 X.prog X.w X.K X.mg X.base X.A X.stack s H :=
  ⟨I.ok.frames, I.ok.mod, I.bs, Nat.le_trans I.ok.bsz I.sz, I.stack, I.stkFree, I.hok, I.bare⟩
theorem Inv.after {Q : VK} {u : Value} (I : Inv X pins σ H s) (h : CE X.stack X.prog X.w H s Q u s') : EP X pins σ Q u s' := by
  obtain ⟨v, H', os, bare, un, hok, r, q⟩ := h
  obtain ⟨hh, g, d, t, os'⟩ := s'
  obtain rfl : os' = s.os := os
  exact ⟨v, H', I.call (h' := hh) (g' := g) (d' := d) (t' := t) (ch := []) un hok bare (fun b z => absurd z (by simp)), r, q⟩
end
def tCall (sp : Sp) (dvs : List V) (E : XK) (t : TA) : TE := fun σ H Q => t σ H fun vs H1 => sp (vs ++ dvs) H1 Q E
def tMeth (C : Addr) (m : Str) (sp : Sp) (dvs : List V) (E : XK) (ta : TE) (t : TA) : TE := fun σ H Q => ta σ H fun x H1 => ∃ a dx fs, x = .ref a ∧ H1 a = some (.ins C dx fs) ∧ fs.lookup m = none ∧
  t σ H1 fun vs H2 => sp (x :: (vs ++ dvs)) H2 Q E
def tMake (C : Addr) (sp : Sp) (dvs : List V) (E : XK) (t : TA) : TE := fun σ H Q => t σ H fun vs H1 => ∀ x dx, H1 x = none → H1 dx = none → dx ≠ x →
  sp (.ref x :: (vs ++ dvs)) (upd (upd H1 dx (.own x)) x (.ins C dx [])) (fun v H2 => v = .non ∧ Q (.ref x) H2) E
def Binds (K : PySem.W.Frag) (fd : FuncData) (ps : List Str) (ds : List Value) : Prop :=
  ∀ (s : Shared) (us : List Value), K.In s.heap → (us ++ ds).length = ps.length → BindsTo s fd ⟨us, []⟩ (ps.zip (us ++ ds))
theorem Binds.all {K : PySem.W.Frag} {fd : FuncData} {ps : List Str} (h : ∀ us : List Value, us.length = ps.length → bindArgs fd ⟨us, []⟩ = pure (ps.zip us)) : Binds K fd ps [] := fun s us _ hl => by
  rw [List.append_nil] at hl ⊢
  exact .of_eq (h us hl)
def Passes (CX : CXT) (X : Cx) (E : XK) : Prop := ∀ (pins : List (Addr × Obj)) (σ : St) (H : Hp) (s : Shared) (e : Value) (s' : Shared), Inv X pins σ H s → CX X.stack H s E e s' → X.xe e s'
section
variable {X : Cx} {CX : CXT} {k : Nat} {f C : Addr} {fd : FuncData} {ps : List Str} {sp : Sp} {dvs : List V} {ds : List Value} {E : XK} {x m : Str} {p pos apos : Pos} {e o : Expr} {es : List Expr} {ta : TE} {t : TA}
theorem run_fn {pins : List (Addr × Obj)} {σ : St} {H : Hp} {s : Shared} {Q : VK} {us : List Value} {vs : List V} (F : FnOk X.prog X.w X.K X.mg X.base CX k f fd ps sp) (hr : Room k X.A) (hb : Binds X.K fd ps ds) (hd : Vals dvs ds) (hx : Passes CX X E)
    (I : Inv X pins σ H s) (r : Vals vs us) (h : sp (vs ++ dvs) H Q E) : wpAny (model X.prog X.w) X.A (call (.ref f) us) (EP X pins σ Q) X.xe s := by
  have r2 : Vals (vs ++ dvs) (us ++ ds) := r.append hd
  have hl : (us ++ ds).length = ps.length := by rw [← r2.length]; exact F.len _ _ _ _ h
  refine wpAny_call (codeAny_mono (F.run X.A X.stack s H ⟨us, []⟩ (us ++ ds) (vs ++ dvs) Q E hr I.env0 (hb s us I.kIn hl) r2 h) fun r s' hq => ?_)
  cases r with
  | error e => exact hx pins σ H s e s' I hq
  | ok fl =>
    cases fl with
    | ret u => exact I.after hq
    | next => exact False.elim hq
    | brk => exact False.elim hq
    | cont => exact False.elim hq
theorem pe_call (F : FnOk X.prog X.w X.K X.mg X.base CX k f fd ps sp) (hr : Room k X.A) (hg : Gl X x) (hm : X.mg x = some (.ref f)) (hk : PySem.W.keepIn X.K (.ref f) = true) (hb : Binds X.K fd ps ds) (hd : Vals dvs ds) (hx : Passes CX X E)
    (ha : PA X (e :: es) t) (hdb : (x == ("__debug__" : Str)) = false := by decide) (he : starEach (e :: es) X.env = (false, eval e X.env) :: starEach es X.env := by rfl) (hpl : (backTo pos (starEach es X.env)).any (·.1) = false := by rfl) :
    PE X (.Call (.Name x p) (e :: es) [] pos) (tCall sp dvs E t) := by
  intro pins s σ H Q I h
  refine wpAny_Call_Name_kw (ld_glob I hg hm ?_ hdb)
  refine PySem.W.callWith_K (h₀ := X.base) I.ok.mod.kin hk (thn (ha pos pins s σ H _ I h) fun us s1 ⟨vs, H1, I1, r, q⟩ => ⟨I1.kIn, ?_⟩) he hpl
  exact run_fn F hr hb hd hx I1 r q
theorem pe_meth0 {pl : Sem Bool} (he : PE X o ta) (c : Cls X.K C) (hm : Meth X.K C m f) (F : FnOk X.prog X.w X.K X.mg X.base CX k f fd ps sp) (hr : Room k X.A) (hb : Binds X.K fd ps ds) (hd : Vals dvs ds) (hx : Passes CX X E)
    (ht : eval (.Call (.Attribute o m apos) [] [] pos) X.env = (do
      let ov ← eval o X.env
      standAt apos.atName
      let (f, first) ← holding [ov] (getMethod ov m pl)
      callWith pos f first (backTo pos (starEach [] X.env)) (backToKw pos (keywordEach [] X.env))) := by rfl) :
    PE X (.Call (.Attribute o m apos) [] [] pos) (tMeth C m sp dvs E ta tNil) := by
  intro pins s σ H Q I h
  refine PySem.W.methodCall_KW (pl := pl) (thn (he pins s σ H _ I h) fun u s1 ⟨x, H1, I1, rx, a, dx, fs, ex, ea, l, q⟩ => ?_) ht
  subst ex
  obtain rfl : u = Value.ref a := rx
  refine getmeth_ok I1 ea c hm l ?_
  exact PySem.W.callWith_K0 (first := [.ref a]) I1.kIn hm.kp (run_fn (us := [.ref a]) (vs := [.ref a]) F hr hb hd hx I1 (.cons rfl .nil) q)
structure Mk (K : PySem.W.Frag) (C f : Addr) : Prop where
  makes : PySem.W.makesIn K C = true
  init : PySem.W.findIn K (.ref C) "__init__" = some (some (.ref f))
  fn : PySem.W.isFn K (.ref f) = true
  kp : PySem.W.keepIn K (.ref C) = true
theorem run_make {pins : List (Addr × Obj)} {σ : St} {H : Hp} {s : Shared} {Q : VK} {us : List Value} {vs : List V} (M : Mk X.K C f) (F : FnOk X.prog X.w X.K X.mg X.base CX k f fd ps sp) (hr : Room (k + 1) X.A) (hb : Binds X.K fd ps ds) (hd : Vals dvs ds)
    (hx : Passes CX X E) (I : Inv X pins σ H s) (r : Vals vs us)
    (h : ∀ x dx, H x = none → H dx = none → dx ≠ x → sp (.ref x :: (vs ++ dvs)) (upd (upd H dx (.own x)) x (.ins C dx [])) (fun v H2 => v = .non ∧ Q (.ref x) H2) E) :
    wpAny (model X.prog X.w) X.A (call (.ref C) us) (EP X pins σ Q) X.xe s := by
  have hq := h (s.heap.objs.size + 1) s.heap.objs.size (I.hok.fresh (Nat.le_succ _)) (I.hok.fresh (Nat.le_refl _)) (Nat.ne_of_lt (Nat.lt_succ_self _))
  have I2 := Inv.made (C := C) I
  have r2 : Vals (V.ref (s.heap.objs.size + 1) :: (vs ++ dvs)) (Value.ref (s.heap.objs.size + 1) :: (us ++ ds)) := .cons rfl (r.append hd)
  have hl : (Value.ref (s.heap.objs.size + 1) :: us ++ ds).length = ps.length := by
    have e := r2.length
    rw [F.len _ _ _ _ hq] at e
    exact e.symm
  refine wpAny_call (make_map (f := f) I.kIn M.makes M.init (beq_iff_eq.mp M.fn) (codeAny_mono (F.run _ X.stack _ _ ⟨Value.ref (s.heap.objs.size + 1) :: us, []⟩ (Value.ref (s.heap.objs.size + 1) :: (us ++ ds)) _ _ E (hr.make C us [])
    (I2.env0.make C us []) (hb _ (Value.ref (s.heap.objs.size + 1) :: us) I2.kIn hl) r2 hq) fun r s' hq' => ?_))
  cases r with
  | error e => exact hx pins σ _ _ e s' I2 hq'
  | ok fl =>
    cases fl with
    | ret u =>
      obtain ⟨v, H', I3, rv, ev, q3⟩ := I2.after hq'
      subst ev
      exact ⟨rv, ⟨V.ref (s.heap.objs.size + 1), H', I3, rfl, q3⟩⟩
    | next => exact False.elim hq'
    | brk => exact False.elim hq'
    | cont => exact False.elim hq'
theorem pe_make (M : Mk X.K C f) (F : FnOk X.prog X.w X.K X.mg X.base CX k f fd ps sp) (hr : Room (k + 1) X.A) (hg : Gl X x) (hm : X.mg x = some (.ref C)) (hb : Binds X.K fd ps ds) (hd : Vals dvs ds) (hx : Passes CX X E)
    (ha : PA X (e :: es) t) (hdb : (x == ("__debug__" : Str)) = false := by decide) (he : starEach (e :: es) X.env = (false, eval e X.env) :: starEach es X.env := by rfl) (hpl : (backTo pos (starEach es X.env)).any (·.1) = false := by rfl) :
    PE X (.Call (.Name x p) (e :: es) [] pos) (tMake C sp dvs E t) := by
  intro pins s σ H Q I h
  refine wpAny_Call_Name_kw (ld_glob I hg hm ?_ hdb)
  refine PySem.W.callWith_K (h₀ := X.base) I.ok.mod.kin M.kp (thn (ha pos pins s σ H _ I h) fun us s1 ⟨vs, H1, I1, r, q⟩ => ⟨I1.kIn, ?_⟩) he hpl
  exact run_make M F hr hb hd hx I1 r q
end
def PK (X : Cx) (kws : List Keyword) (t : TA) : Prop :=
  ∀ (pos : Pos) (pins : List (Addr × Obj)) (s : Shared) (σ : St) (H : Hp) (Q : List V → Hp → Prop), Inv X pins σ H s → t σ H Q → wpAny (model X.prog X.w) X.A (evalAll ((backToKw pos (keywordEach kws X.env)).map (·.2))) (AP X pins σ Q) X.xe s
section
variable {X : Cx} {CX : CXT} {k : Nat} {f C : Addr} {fd : FuncData} {ps ks : List Str} {sp : Sp} {E : XK} {x m : Str} {p pos apos kpos : Pos} {e o : Expr} {es : List Expr} {kws : List Keyword} {te ta : TE} {t tk : TA} {nm : Option Str}
structure KBinds (K : PySem.W.Frag) (fd : FuncData) (ps ks : List Str) (g : List Value → List Value → List Value) (gV : List V → List V → List V) : Prop where
  to : ∀ (s : Shared) (us ws : List Value), K.In s.heap → (g us ws).length = ps.length → BindsTo s fd ⟨us, ks.zip ws⟩ (ps.zip (g us ws))
  rel : ∀ {vs : List V} {us : List Value} {zs : List V} {ws : List Value}, Vals vs us → Vals zs ws → Vals (gV vs zs) (g us ws)
def tCallK (sp : Sp) (gV : List V → List V → List V) (E : XK) (t tk : TA) : TE := fun σ H Q => t σ H fun vs H1 => tk σ H1 fun zs H2 => sp (gV vs zs) H2 Q E
variable {g : List Value → List Value → List Value} {gV : List V → List V → List V}
end
structure FnScope (N P : List Str) (sc : Scope) : Prop where
  kind : sc.kind = .function
  co : sc.isCoroutine = false
  gen : sc.isGenerator = false
  nd : N.Nodup
  pre : N.take P.length = P
  par : ∀ x ∈ P, sc.names.lookup x = some .local ∨ sc.names.lookup x = some .cell
  nofree : ∀ y ∈ sc.names, y.2 ≠ .free
theorem bindL_out {kindOf : Str → Option NameKind} {x : Str} : ∀ {binds : List (Str × Value)} {m : Str → Option Value}, (∀ v, (x, v) ∉ binds) → bindL kindOf binds m x = m x
  | [], _, _ => rfl
  | (n, v) :: r, m, h => by
    unfold bindL
    rw [bindL_out fun w hw => h w (List.mem_cons_of_mem _ hw)]
    split
    · have : x ≠ n := by rintro rfl; exact h v List.mem_cons_self
      simp [this]
    · rfl
theorem bindC_out {kindOf : Str → Option NameKind} {x : Str} : ∀ {binds : List (Str × Value)} {m : Str → Option Value}, (∀ v, (x, v) ∉ binds) → bindC kindOf binds m x = m x
  | [], _, _ => rfl
  | (n, v) :: r, m, h => by
    unfold bindC
    rw [bindC_out fun w hw => h w (List.mem_cons_of_mem _ hw)]
    split
    · rfl
    · have : x ≠ n := by rintro rfl; exact h v List.mem_cons_self
      simp [this]
theorem bindL_get {kindOf : Str → Option NameKind} {x : Str} {v : Value} : ∀ {P : List Str} {vs : List Value} {i : Nat} {m : Str → Option Value}, P.Nodup → P[i]? = some x → vs[i]? = some v → kindOf x = some .local →
    bindL kindOf (P.zip vs) m x = some v
  | [], _, _, _, _, h, _, _ => by simp at h
  | _ :: _, [], _, _, _, _, h, _ => by simp at h
  | p :: P, w :: vs, 0, m, nd, h1, h2, hk => by
    simp at h1 h2; subst h1; subst h2
    show bindL kindOf ((p, w) :: P.zip vs) m p = _
    unfold bindL
    rw [bindL_out fun v hv => (List.nodup_cons.mp nd).1 (List.of_mem_zip hv).1, if_pos hk]
    simp
  | p :: P, w :: vs, i + 1, m, nd, h1, h2, hk => by
    show bindL kindOf ((p, w) :: P.zip vs) m x = _
    unfold bindL
    exact bindL_get (i := i) (List.nodup_cons.mp nd).2 (by simpa using h1) (by simpa using h2) hk
theorem bindC_get {kindOf : Str → Option NameKind} {x : Str} {v : Value} : ∀ {P : List Str} {vs : List Value} {i : Nat} {m : Str → Option Value}, P.Nodup → P[i]? = some x → vs[i]? = some v → kindOf x ≠ some .local →
    bindC kindOf (P.zip vs) m x = some v
  | [], _, _, _, _, h, _, _ => by simp at h
  | _ :: _, [], _, _, _, _, h, _ => by simp at h
  | p :: P, w :: vs, 0, m, nd, h1, h2, hk => by
    simp at h1 h2; subst h1; subst h2
    show bindC kindOf ((p, w) :: P.zip vs) m p = _
    unfold bindC
    rw [bindC_out fun v hv => (List.nodup_cons.mp nd).1 (List.of_mem_zip hv).1, if_neg hk]
    simp
  | p :: P, w :: vs, i + 1, m, nd, h1, h2, hk => by
    show bindC kindOf ((p, w) :: P.zip vs) m x = _
    unfold bindC
    exact bindC_get (i := i) (List.nodup_cons.mp nd).2 (by simpa using h1) (by simpa using h2) hk
def start (N : List Str) (vs : List V) : St := vs.map some ++ List.replicate (N.length - vs.length) none
def cxOf (CX : CXT) (P : Program) (w : World) (K : PySem.W.Frag) (mg : Str → Option Value) (base : Heap) (N : List Str) (qual : Str) (scope : Scope) (f : Addr) (cd : Value) (A : Around) (outer : List Env) (s : Shared) (H : Hp) (E : XK) : Cx where
  prog := P
  w := w
  K := K
  mg := mg
  base := base
  A := A.deeper (envOfC qual scope s.heap.objs.size f cd)
  N := N
  s₀ := s
  H₀ := H
  env := envOfC qual scope s.heap.objs.size f cd
  outer := outer
  stack := envOfC qual scope s.heap.objs.size f cd :: outer
  ex := []
  calm := true
  fn := fun _ => true
  pn := []
  xe := fun e s' => wpAny (model P w) (A.deeper (envOfC qual scope s.heap.objs.size f cd)) (leaving (envOfC qual scope s.heap.objs.size f cd) e) (fun _ s'' => CX outer H s E e s'') (fun e' s'' => CX outer H s E e' s'') s'
theorem cell_has {sc : Scope} {n : Nat} {x : Str} (h : sc.names.lookup x = some .cell) : ∃ c, (cellsFrom n sc.names []).lookup x = some c := by
  have q := PySem.W.cellsFrom_some sc.names n [] (.inl h)
  exact Option.isSome_iff_exists.mp q
theorem inv_start {CX : CXT} {P : Program} {w : World} {K : PySem.W.Frag} {mg : Str → Option Value} {base : Heap} {N ps : List Str} {qual : Str} {scope : Scope} {f : Addr} {cd : Value} {A : Around} {outer : List Env} {s s1 : Shared} {H : Hp} {E : XK} {us : List Value} {vs : List V}
    (S : FnScope N ps scope) (hd : A.handled = none) (e0 : Env0 P w K mg base A outer s H) (hl : vs.length = ps.length) (r : Vals vs us)
    (x : InCallC s s.heap.objs.size (bindL (envOfC qual scope s.heap.objs.size f cd).kindOf (ps.zip us) fun _ => none) (cellsFrom (s.heap.objs.size + 1) scope.names []) (bindC (envOfC qual scope s.heap.objs.size f cd).kindOf (ps.zip us) fun _ => none) s1) :
    Inv (cxOf CX P w K mg base N qual scope f cd A outer s H E) [] (start N vs) H s1 := by
  have hpl : ps.length ≤ N.length := by have := congrArg List.length S.pre; rw [List.length_take] at this; omega
  obtain ⟨h1, tk, rfl, hk⟩ := x.done
  have noA : ∀ b : Addr, b ∉ (cxOf CX P w K mg base N qual scope f cd A outer s H E).ex := fun b z => absurd (show b ∈ ([] : List Addr) from z) (by simp)
  refine ⟨⟨e0.mod, S.kind, rfl, rfl, Nat.le_refl _, fun y z c h1 h2 => ?_, fun y hy => ?_, fun y c _ h => ?_, fun _ => hd, Around.frames_deeper e0.frames, .inr ⟨rfl, rfl⟩, fun b z => absurd z (noA b), e0.bs, e0.bsz, fun b _ _ => noA b, fun b z => absurd z (noA b), e0.funs, e0.frf⟩,
    rfl, e0.bare, Un.kept hk, ⟨_, x.toInCall.ns, fun i y v h1 h2 h3 => ?_⟩, fun y c h => ⟨_, x.cell y c h⟩, e0.hok.fresh (Nat.le_refl _), fun y c h => ?_, fun p hp => absurd (show p ∈ ([] : List (Addr × Obj)) from hp) (by simp), e0.hok.kept hk, ?_⟩
  · exact name_of_addr x.apart (PySem.mem_of_lookup h1) (PySem.mem_of_lookup h2)
  · have hy : scope.names.lookup y = some .cell ∨ scope.names.lookup y = some .free := hy
    rcases hy with hy | hy
    · exact cell_has hy
    · exact absurd rfl (S.nofree _ (PySem.mem_of_lookup hy))
  · exact Nat.le_of_lt (x.above y c (PySem.mem_of_lookup h))
  · have hi : i < vs.length := by
      unfold start at h2
      by_cases hi : i < vs.length
      · exact hi
      · rw [List.getElem?_append_right (by simpa using hi)] at h2
        rw [List.getElem?_replicate] at h2
        split at h2 <;> cases h2
    have ha : vs[i]? = some v := by
      unfold start at h2
      rw [List.getElem?_append_left (by simpa using hi), List.getElem?_map] at h2
      cases e : vs[i]? with
      | none => rw [e] at h2; cases h2
      | some a => rw [e] at h2; cases h2; rfl
    obtain ⟨u, hu, rv⟩ := r.get ha
    have hp : ps[i]? = some y := by
      rw [← S.pre, List.getElem?_take_of_lt (by omega)]; exact h1
    have ndP : ps.Nodup := by rw [← S.pre]; exact S.nd.sublist (List.take_sublist _ _)
    refine ⟨u, rv, ?_⟩
    rcases S.par y (List.mem_of_getElem? hp) with k | k
    · exact .inl ⟨k, bindL_get ndP hp hu k⟩
    · obtain ⟨c, e⟩ := cell_has (n := s.heap.objs.size + 1) k
      refine .inr ⟨.inl k, c, e, ?_⟩
      have q := x.cell y c e
      rw [bindC_get ndP hp hu (by show scope.names.lookup y ≠ _; rw [k]; decide)] at q
      exact q
  · exact e0.hok.fresh (Nat.le_of_lt (x.above y c (PySem.mem_of_lookup h)))
  · unfold start
    show _ = N.length
    rw [List.length_append, List.length_map, List.length_replicate]
    omega
theorem fn_of {CX : CXT} {P : Program} {w : World} {K : PySem.W.Frag} {mg : Str → Option Value} {base : Heap} {k : Nat} {f : Addr} {name qual : Str} {params : Arguments} {body : List Stmt} {scope : Scope} {dV kV doc pm cdv ct oc : Value} {an od : Option Addr}
    {osl : Array (Option Value)} {N ps : List Str} {sp : Sp} (lk : K.lookup f = some ⟨oc, od, .func (PySem.W.fnOf name qual params body scope dV kV doc pm an cdv ct), osl⟩) (hcd : PySem.W.codeIn K cdv qual = true) (S : FnScope N ps scope)
    (len : ∀ vs H Q E, sp vs H Q E → vs.length = ps.length)
    (hbody : ∀ (A : Around) (outer : List Env) (s : Shared) (H : Hp) (vs : List V) (Q : VK) (E : XK), Room k (A.deeper (envOfC qual scope s.heap.objs.size f cdv)) → sp vs H Q E →
      ∃ t, PSs (cxOf CX P w K mg base N qual scope f cdv A outer s H E) body t ∧ t { nx := fun _ H' => Q .non H', rt := Q } (start N vs) H) :
    FnOk P w K mg base CX (k + 1) f (PySem.W.fnOf name qual params body scope dV kV doc pm an cdv ct) ps sp := by
  refine ⟨len, fun A outer s H args us vs Q E hr e0 hb r hsp => ?_⟩
  have hl := len _ _ _ _ hsp
  have KX : K.In s.heap := e0.mod.kin.keeps fun b o e => (e0.bs b o e).1
  have lim : s.heap.NoLimit := e0.mod.nolimit.keeps fun b o e => (e0.bs b o e).1
  have hkind : ∀ y ∈ ps.zip us, scope.names.lookup y.1 = some .local ∨ (scope.names.lookup y.1 = some .cell ∧ ((cellsFrom (s.heap.objs.size + 1) scope.names []).lookup y.1).isSome = true) := fun ⟨n, v⟩ hy => by
    rcases S.par n (List.of_mem_zip hy).1 with q | q
    · exact .inl q
    · exact .inr ⟨q, PySem.W.cellsFrom_some _ _ _ (.inl q)⟩
  refine codeAny_call_function hr.depth (KX _ _ lk) rfl S.co S.gen rfl (PySem.W.codeRec_of KX hcd) (hb _ _ _ _ ?_)
  refine wpAny_newFunctionEnv_cells S.kind hkind fun env he s1 x => ?_
  subst he
  refine ⟨lim.keeps x.toInCall.keep, codeAny_func ?_⟩
  obtain ⟨t, ht, hq⟩ := hbody A outer s H vs Q E (hr.deeper _) hsp
  have I : Inv (cxOf CX P w K mg base N qual scope f cdv A outer s H E) [] (start N vs) H s1 := inv_start S hr.hd e0 hl r x
  refine wpAny_mono (ht [] s1 (start N vs) H _ I hq) (fun fl s' hs => ?_) fun e s' hs => hs
  have fin : ∀ {σ' : St} {H' : Hp} {v : V} {u : Value}, Inv (cxOf CX P w K mg base N qual scope f cdv A outer s H E) [] σ' H' s' → RelV v u → Q v H' → CE outer P w H s Q u s' :=
    fun {σ' H' v u} J rv q => ⟨v, H', J.os, J.bare, J.base, J.hok, rv, q⟩
  cases fl with
  | ret u =>
    obtain ⟨v, σ', H', J, rv, q⟩ := hs
    exact fin J rv q
  | next =>
    obtain ⟨σ', H', J, q⟩ := hs
    exact fin (v := V.non) (u := Value.none) J rfl q
  | brk =>
    obtain ⟨_, _, _, q⟩ := hs
    exact False.elim q
  | cont =>
    obtain ⟨_, _, _, q⟩ := hs
    exact False.elim q
end L2
namespace L2
open PySem PySem.Spec PyProof.Rows
section
variable {X : Cx} {x : Str} {p pos : Pos} {e : Expr} {es : List Expr} {t : TA} {id T : String} {r : List V → Hp → VK → Prop}
def tCB (r : List V → Hp → VK → Prop) (t : TA) : TE := fun σ H Q => t σ H fun vs H1 => r vs H1 Q
theorem pe_callB (hc : CallR X (.builtin id) r) (hg : Gl X x) (hm : X.mg x = none) (hv : bootBuiltins x = some (.builtin id)) (ha : PA X (e :: es) t) (hn : x ≠ "__name__" := by decide) (hdb : (x == ("__debug__" : Str)) = false := by decide)
    (he : starEach (e :: es) X.env = (false, eval e X.env) :: starEach es X.env := by rfl) (hpl : (backTo pos (starEach es X.env)).any (·.1) = false := by rfl) : PE X (.Call (.Name x p) (e :: es) [] pos) (tCB r t) := by
  intro pins s σ H Q I h
  refine wpAny_Call_Name_kw (ld_blt I hg hm hv ?_ hn hdb)
  exact PyProof.Rows.callWith_builtin1 (thn (ha pos pins s σ H _ I h) fun us s1 ⟨vs, H1, I1, r1, q1⟩ => hc pins s1 σ H1 vs us Q I1 r1 q1) he hpl
theorem pe_callTy (hc : CallR X (.type T) r) (hg : Gl X x) (hm : X.mg x = none) (hv : bootBuiltins x = some (.type T)) (ha : PA X (e :: es) t) (hn : x ≠ "__name__" := by decide) (hdb : (x == ("__debug__" : Str)) = false := by decide)
    (he : starEach (e :: es) X.env = (false, eval e X.env) :: starEach es X.env := by rfl) (hpl : (backTo pos (starEach es X.env)).any (·.1) = false := by rfl) : PE X (.Call (.Name x p) (e :: es) [] pos) (tCB r t) := by
  intro pins s σ H Q I h
  refine wpAny_Call_Name_kw (ld_blt I hg hm hv ?_ hn hdb)
  exact PyProof.Rows.callWith_type1 (thn (ha pos pins s σ H _ I h) fun us s1 ⟨vs, H1, I1, r1, q1⟩ => hc pins s1 σ H1 vs us Q I1 r1 q1) he hpl
end
end L2
namespace HT
open PySem PyProof.Rows
def lexLt : List Int → List Int → Bool
  | [], [] => false
  | [], _ :: _ => true
  | _ :: _, [] => false
  | x :: xs, y :: ys => if x = y then lexLt xs ys else decide (x < y)
section
open PySem.SeqAt
open PySem.AutoSeq1 (wpAny_loadPart')
open PySem.MeetsSeq PySem.MeetsSeq2 PySem.MeetsSeq3
end
section
variable {prog : Program} {w : World} {A : Around} {E : Value → Shared → Prop} {s : Shared}
def sIx (n d : Nat) : Option Int → Nat
  | none => d
  | some v => if v < 0 then (v + (n : Int)).toNat else min v.toNat n
theorem sIx_none (n d : Nat) : sIx n d none = d := rfl
theorem sIx_nat (n d k : Nat) : sIx n d (some (k : Int)) = min k n := by
  show (if (k : Int) < 0 then ((k : Int) + (n : Int)).toNat else min (k : Int).toNat n) = min k n
  rw [if_neg (by omega), Int.toNat_natCast]
theorem sIx_le (n d : Nat) (hd : d ≤ n) (o : Option Int) : sIx n d o ≤ n := by
  cases o with
  | none => exact hd
  | some v =>
    show (if v < 0 then (v + (n : Int)).toNat else min v.toNat n) ≤ n
    by_cases hv : v < 0
    · rw [if_pos hv]; omega
    · rw [if_neg hv]; exact Nat.min_le_right _ _
theorem clip_eq (v : Int) (n d : Nat) : (if v < 0 then max (v + (n : Int)) 0 else min v (n : Int)) = ((sIx n d (some v) : Nat) : Int) := by
  show (if v < 0 then max (v + (n : Int)) 0 else min v (n : Int)) = (((if v < 0 then (v + (n : Int)).toNat else min v.toNat n) : Nat) : Int)
  by_cases hv : v < 0
  · simp only [if_pos hv]; omega
  · simp only [if_neg hv]; omega
theorem adjust_gen (lo hi : Option Int) (n : Nat) : Builtin.Slice.sliceAdjust lo hi 1 (n : Int) = (((sIx n 0 lo : Nat) : Int), ((sIx n n hi : Nat) : Int)) := by
  have h1 : ¬ ((1 : Int) < 0) := by omega
  unfold Builtin.Slice.sliceAdjust
  simp only [h1, if_false]
  refine Prod.ext ?_ ?_
  · cases lo with
    | none => rfl
    | some v => exact clip_eq v n 0
  · cases hi with
    | none => rfl
    | some v => exact clip_eq v n n
theorem places_gen (i j : Nat) : Builtin.Slice.slicePlaces (i : Int) (j : Int) 1 = j - i := by
  unfold Builtin.Slice.slicePlaces
  have h1 : (1 : Int) > 0 := by omega
  simp only [h1, if_true, Int.ediv_one]
  split <;> omega
theorem slicePart_ {v : Value} {o : Option Int} {Q : Option Int → Shared → Prop} (p : IsPart v o) (h : Q o s) : wpAny (model prog w) A (Builtin.Slice.slicePartIndex v) Q E s := by
  cases p with
  | none => exact slicePart_none h
  | int i t => exact slicePart_int h
theorem sliceApplied_gen {sl : Addr} {vl vu : Value} {lo hi : Option Int} {n : Nat} {Q : Int × Int × Nat → Shared → Prop} (hs : s.heap.IsSliceOf sl vl vu .none) (pl : IsPart vl lo) (pu : IsPart vu hi)
    (h : Q (((sIx n 0 lo : Nat) : Int), 1, sIx n n hi - sIx n 0 lo) s) : wpAny (model prog w) A (Builtin.Slice.sliceApplied (.ref sl) (pure (n : Int))) Q E s := by
  obtain ⟨os, hos, hcs, hds⟩ := id hs
  unfold Builtin.Slice.sliceApplied Builtin.Slice.sliceFields
  refine wpAny_bind (wpAny_bind (wpAny_field hos hds (x := vl) rfl (wpAny_bind (wpAny_field hos hds (x := vu) rfl (wpAny_bind (wpAny_field hos hds (x := .none) rfl (wpAny_pure ?_)))))))
  refine wpAny_bind (slicePart_none ?_)
  show wpAny _ _ (if ((1 : Int) == 0) = true then _ else _) _ _ s
  rw [if_neg (by decide)]
  refine wpAny_bind (slicePart_ pl (wpAny_bind (slicePart_ pu (wpAny_bind (wpAny_pure ?_)))))
  show wpAny _ _ (match Builtin.Slice.sliceAdjust lo hi 1 (n : Int) with | (lo, hi) => pure (lo, (1 : Int), Builtin.Slice.slicePlaces lo hi 1)) _ _ s
  rw [adjust_gen lo hi n]
  show wpAny _ _ (pure (((sIx n 0 lo : Nat) : Int), (1 : Int), Builtin.Slice.slicePlaces ((sIx n 0 lo : Nat) : Int) ((sIx n n hi : Nat) : Int) 1)) _ _ s
  rw [places_gen]
  exact wpAny_pure h
theorem pick_gen (xs : Array Value) (i k : Nat) : ((List.range k).filterMap fun (m : Nat) => xs[((i : Int) + (m : Int) * 1).toNat]?).toArray = ((xs.toList.drop i).take k).toArray := by
  have e : (fun (m : Nat) => xs[((i : Int) + (m : Int) * 1).toNat]?) = fun m => xs[i + m]? := by
    funext m
    have : ((i : Int) + (m : Int) * 1).toNat = i + m := by omega
    rw [this]
  rw [e]
  have := pick_run xs i k
  rw [List.filterMap_map] at this
  have e2 : ((fun x => xs[x]?) ∘ fun x => i + x) = fun m => xs[i + m]? := rfl
  rw [e2] at this
  rw [this]
theorem getItem_tuple_cut {t sl : Addr} {items : Array Value} {vl vu : Value} {lo hi : Option Int} {Q : Value → Shared → Prop} (ht : IsTup s.heap t items) (hs : s.heap.IsSliceOf sl vl vu .none) (pl : IsPart vl lo) (pu : IsPart vu hi)
    (hw : ¬ (sIx items.size 0 lo = 0 ∧ sIx items.size items.size hi = items.size))
    (h : Q (.ref s.heap.objs.size) { s with heap := s.heap.push { cls := .type "tuple", data := .seq ((items.toList.drop (sIx items.size 0 lo)).take (sIx items.size items.size hi - sIx items.size 0 lo)).toArray } })
    (hsz : items.size ≤ sizeLine) : wpAny (model prog w) A (getItem (.ref t) (.ref sl)) Q E s := by
  have htake : sizeOk (.seq ((items.toList.drop (sIx items.size 0 lo)).take (sIx items.size items.size hi - sIx items.size 0 lo)).toArray) := by
    show ((items.toList.drop (sIx items.size 0 lo)).take (sIx items.size items.size hi - sIx items.size 0 lo)).toArray.size ≤ sizeLine
    rw [List.size_toArray, List.length_take, List.length_drop, Array.length_toList]
    omega
  have hj : sIx items.size items.size hi ≤ items.size := sIx_le _ _ (Nat.le_refl _) hi
  obtain ⟨os, hos, hcs, hds⟩ := id hs
  have hTs : s.TypeIs (.ref sl) "slice" := ⟨os, hos, hcs⟩
  unfold getItem
  try with_reducible refine wpAny_holding ?_
  first | refine wpAny_bind (wpAny_pure ?_) | skip
  refine wpAny_bind (wpAny_sequenceKey ht.typeIs (by decide) ?_)
  refine wpAny_bind (wpAny_callSpecial?_slot (name := Str.ofString "__getitem__") ht.typeIs PyProof.Rows.slot_tuple_getitem
    (wpAny_call_entry PyProof.Rows.slot_tuple_getitem ht.typeIs entry_tuple_getitem ?_ (args_tuple_getitem _ _)))
  show wpAny _ _ (Builtin.Tuple.tupleItemsOf (.ref t) >>= _) _ _ s
  refine wpAny_bind (tupleItemsOf_ ht ?_)
  refine wpAny_bind (wpAny_typeOf hTs ?_)
  rw [if_pos (by decide)]
  refine wpAny_bind (sliceApplied_gen hs pl pu ?_)
  have hno : ¬ ((((sIx items.size 0 lo : Nat) : Int) == 0 && (1 : Int) == 1 && (sIx items.size items.size hi - sIx items.size 0 lo) == items.size) = true) := by
    intro q
    rw [Bool.and_eq_true, Bool.and_eq_true] at q
    have q1 : ((sIx items.size 0 lo : Nat) : Int) = 0 := eq_of_beq q.1.1
    have q2 : sIx items.size items.size hi - sIx items.size 0 lo = items.size := eq_of_beq q.2
    exact hw ⟨by omega, by omega⟩
  show wpAny _ _ (if (((sIx items.size 0 lo : Nat) : Int) == 0 && (1 : Int) == 1 && (sIx items.size items.size hi - sIx items.size 0 lo) == items.size) = true then _ else _) _ _ s
  rw [if_neg hno, pick_gen]
  first
    | exact wpAny_bind (m := Builtin.Tuple.tupleExact _) (wpAny_newObj_type (wpAny_pure ⟨_, rfl, wpAny_pure h⟩) htake)
    | exact wpAny_bind (m := Builtin.Tuple.tupleExact _) (wpAny_newObj_type (wpAny_bind (wpAny_pure (wpAny_pure ⟨_, rfl, wpAny_pure h⟩))) htake)
    | exact wpAny_bind (wpAny_bind (m := Builtin.Tuple.tupleExact _) (wpAny_newObj_type (wpAny_pure (wpAny_pure ⟨_, rfl, wpAny_pure h⟩)) htake))
    | exact wpAny_bind (wpAny_bind (m := Builtin.Tuple.tupleExact _) (wpAny_newObj_type (wpAny_pure ⟨_, rfl, wpAny_pure h⟩) htake))
end
end HT
namespace L2
open PySem PySem.Spec PyProof.Rows
abbrev TO := St → Hp → (Option Int → Hp → Prop) → Prop
def PO (X : Cx) (e : Option Expr) (t : TO) : Prop :=
  ∀ (pins : List (Addr × Obj)) (s : Shared) (σ : St) (H : Hp) (Q : Option Int → Hp → Prop), Inv X pins σ H s → t σ H Q →
    wpAny (model X.prog X.w) X.A (evalPart e X.env) (fun u s' => ∃ o H', Inv X pins σ H' s' ∧ IsPart u o ∧ Q o H') X.xe s
def tNoPart : TO := fun _ H Q => Q none H
def tPart (t : TE) : TO := fun σ H Q => t σ H fun x H1 => ∃ i, x = .int i ∧ Q (some i) H1
section
variable {X : Cx} {e : Expr} {te : TE} {lo hi : Option Expr} {tl th : TO} {pos p2 : Pos}
theorem po_none : PO X none tNoPart := by
  intro pins s σ H Q I h
  rw [evalPart_none]
  exact wpAny_pure ⟨none, H, I, .none, h⟩
theorem po_some (h : PE X e te) : PO X (some e) (tPart te) := by
  intro pins s σ H Q I hw
  rw [evalPart_some]
  refine thn (h pins s σ H _ I hw) fun u s1 ⟨x, H1, I1, r1, q1⟩ => ?_
  obtain ⟨i, rfl, q⟩ := q1
  obtain ⟨t, rfl⟩ := r1
  exact ⟨some i, H1, I1, .int i t, q⟩
def SlR (X : Cx) (r : V → Option Int → Option Int → Hp → VK → Prop) : Prop :=
  ∀ (pins : List (Addr × Obj)) (s : Shared) (σ : St) (H : Hp) (x : V) (v vl vu : Value) (lo hi : Option Int) (sl : Addr) (Q : VK), Inv X pins σ H s → RelV x v → s.heap.IsSliceOf sl vl vu .none → IsPart vl lo → IsPart vu hi → r x lo hi H Q →
    ∃ T id, typeLookup (.type T) "__getitem__" = pure (some (.builtin id)) ∧ s.TypeIs v T ∧ wpAny (model X.prog X.w) X.A (getItem v (.ref sl)) (EP X pins σ Q) X.xe s
theorem SlR.or {r r' : V → Option Int → Option Int → Hp → VK → Prop} (h : SlR X r) (h' : SlR X r') : SlR X (fun x lo hi H Q => r x lo hi H Q ∨ r' x lo hi H Q) := by
  intro pins s σ H x v vl vu lo hi sl Q I rx hs pl pu q
  rcases q with q | q
  · exact h pins s σ H x v vl vu lo hi sl Q I rx hs pl pu q
  · exact h' pins s σ H x v vl vu lo hi sl Q I rx hs pl pu q
def tSl (r : V → Option Int → Option Int → Hp → VK → Prop) (te : TE) (tl th : TO) : TE := fun σ H Q => te σ H fun x H1 => tl σ H1 fun l H2 => th σ H2 fun u H3 => r x l u H3 Q
theorem pe_slice {r : V → Option Int → Option Int → Hp → VK → Prop} (hr : SlR X r) (he : PE X e te) (hl : PO X lo tl) (hu : PO X hi th) : PE X (.Subscript e (.Slice lo hi none p2) pos) (tSl r te tl th) := by
  intro pins s σ H Q I h
  refine Subscript_ (thn (he pins s σ H _ I h) fun v s1 ⟨x, H1, I1, r1, q1⟩ => ?_)
  refine wpAny_Slice (thn (hl pins s1 σ H1 _ I1 q1) fun vl s2 ⟨l, H2, I2, pl, q2⟩ => thn (hu pins s2 σ H2 _ I2 q2) fun vu s3 ⟨u, H3, I3, pu, q3⟩ => ?_)
  rw [evalPart_none]
  refine wpAny_pure ?_
  have I4 : Inv X pins σ H3 { s3 with heap := s3.heap.push { cls := .type "slice", data := .fields #[vl, vu, .none] } } := I3.kept (t' := s3.toks) fun b ob q => Heap.get?_push_of_some _ q
  obtain ⟨T, id, hT, ht, hg⟩ := hr pins { s3 with heap := s3.heap.push { cls := .type "slice", data := .fields #[vl, vu, .none] } } σ H3 x v vl vu l u s3.heap.objs.size Q I4 r1 (Heap.IsSliceOf.new ..) pl pu q3
  show wpAny (model X.prog X.w) X.A (subscriptTail e (.Slice lo hi none p2) v (.ref s3.heap.objs.size)) (EP X pins σ Q) X.xe { s3 with heap := s3.heap.push { cls := .type "slice", data := .fields #[vl, vu, .none] } }
  exact tail_any (ops := [.ref s3.heap.objs.size, v]) ht hT hg (by with_unfolding_all rfl)
def cutV (xs : List V) (lo hi : Option Int) : List V := (xs.drop (HT.sIx xs.length 0 lo)).take (HT.sIx xs.length xs.length hi - HT.sIx xs.length 0 lo)
theorem cutV_length (xs : List V) (lo hi : Option Int) : (cutV xs lo hi).length ≤ xs.length := by
  unfold cutV
  rw [List.length_take, List.length_drop]
  omega
def rSlT (K : PySem.W.Frag) : V → Option Int → Option Int → Hp → VK → Prop := fun x lo hi H Q => ∃ a xs, x = .ref a ∧ SqT K H a xs ∧
  ¬ (HT.sIx xs.length 0 lo = 0 ∧ HT.sIx xs.length xs.length hi = xs.length) ∧ ∀ p, H p = none → Q (.ref p) (upd H p (.tup (cutV xs lo hi)))
theorem sl_tup : SlR X (rSlT X.K) := by
  intro pins s σ H x v vl vu lo hi sl Q I rx hs pl pu h
  obtain ⟨a, xs, rfl, hx, hw, q⟩ := h
  cases rx
  obtain ⟨its, r, ht, hz⟩ := I.tuple hx
  have hlen : its.toArray.size = xs.length := by rw [List.size_toArray]; exact r.length.symm
  refine ⟨"tuple", _, PyProof.Rows.slot_tuple_getitem.lookup, ht.typeIs, ?_⟩
  refine HT.getItem_tuple_cut ht hs pl pu (by rw [hlen]; exact hw) ?_ (by rw [hlen]; exact hz)
  rw [hlen]
  refine ⟨.ref s.heap.objs.size, _, I.laid (t' := s.toks) (o := .tup (cutV xs lo hi)) (fun b ob q => Heap.get?_push_of_some _ q) (Nat.le_refl _) ?_, rfl, q _ (I.hok.fresh (Nat.le_refl _))⟩
  exact ⟨Nat.le_trans (cutV_length xs lo hi) hz, _, (r.drop (HT.sIx xs.length 0 lo)).take (HT.sIx xs.length xs.length hi - HT.sIx xs.length 0 lo), IsTup.new _ _⟩
def rLtT (K : PySem.W.Frag) : R2 := fun x y H Q => ∃ a b ns ms, x = .ref a ∧ y = .ref b ∧ SqT K H a (ns.map V.int) ∧ SqT K H b (ms.map V.int) ∧ Q (.bl (HT.lexLt ns ms)) H
def rCatT (K : PySem.W.Frag) : R2 := fun x y H Q => ∃ a b xs ys, x = .ref a ∧ y = .ref b ∧ SqT K H a xs ∧ SqT K H b ys ∧ xs ≠ [] ∧ xs.length + ys.length ≤ sizeLine ∧
  (ys = [] → Q (.ref a) H) ∧ (ys ≠ [] → ∀ p, H p = none → Q (.ref p) (upd H p (.tup (xs ++ ys))))
end
end L2
namespace L2
open PySem PySem.Spec PyProof.Rows
def ixN (n : Nat) (i : Int) : Option Nat := if 0 ≤ i then (if i < n then some i.toNat else none) else if -(n : Int) ≤ i then some (i + n).toNat else none
def atI {α : Type} (xs : List α) (i : Int) : Option α := (ixN xs.length i).bind fun j => xs[j]?
theorem ixN_seq {n : Nat} {i : Int} {j : Nat} (h : ixN n i = some j) : seqIndex? i n = some j ∧ j < n ∧ -(n : Int) ≤ i ∧ i < n := by
  unfold ixN at h
  by_cases h0 : 0 ≤ i
  · rw [if_pos h0] at h
    by_cases h1 : i < n
    · rw [if_pos h1] at h
      have e : i.toNat = j := Option.some.inj h
      exact ⟨by rw [seqIndex_of h0 h1, e], by omega, by omega, h1⟩
    · rw [if_neg h1] at h; cases h
  · rw [if_neg h0] at h
    by_cases h1 : -(n : Int) ≤ i
    · rw [if_pos h1] at h
      have e : (i + n).toNat = j := Option.some.inj h
      exact ⟨by rw [seqIndex_neg (by omega) h1, e], by omega, h1, by omega⟩
    · rw [if_neg h1] at h; cases h
theorem atI_get {α : Type} {xs : List α} {i : Int} {v : α} (h : atI xs i = some v) : ∃ j, seqIndex? i xs.length = some j ∧ xs[j]? = some v ∧ j < xs.length ∧ -(xs.length : Int) ≤ i ∧ i < xs.length := by
  unfold atI at h
  cases e : ixN xs.length i with
  | none => rw [e] at h; cases h
  | some j =>
    rw [e] at h
    obtain ⟨h1, h2, h3, h4⟩ := ixN_seq e
    exact ⟨j, h1, h, h2, h3, h4⟩
theorem atI_nat {α : Type} {xs : List α} {j : Nat} {v : α} (h : xs[j]? = some v) : atI xs (j : Int) = some v := by
  have hj : j < xs.length := (List.getElem?_eq_some_iff.mp h).1
  have e : ixN xs.length (j : Int) = some j := by
    unfold ixN
    rw [if_pos (by omega), if_pos (by omega)]; simp
  unfold atI; rw [e]; exact h
def PlainIx (b : Expr) : Prop := ∀ o i, subscripted b false o i = operate [o, i] (getItem o i)
def IxR (X : Cx) (r : R2) : Prop :=
  ∀ (value slice : Expr) (pins : List (Addr × Obj)) (s : Shared) (σ : St) (H : Hp) (x y : V) (v u : Value) (Q : VK), Inv X pins σ H s → RelV x v → RelV y u → r x y H Q →
    subscripted slice false v u = operate [v, u] (getItem v u) → wpAny (model X.prog X.w) X.A (subscriptTail value slice v u) (EP X pins σ Q) X.xe s
def MtR (X : Cx) (id : String) (r : V → List V → Hp → VK → Prop) : Prop :=
  ∀ (pins : List (Addr × Obj)) (s : Shared) (σ : St) (H : Hp) (x : V) (xs : List V) (v : Value) (us : List Value) (Q : VK), Inv X pins σ H s → RelV x v → Vals xs us → r x xs H Q →
    wpAny (model X.prog X.w) X.A (call (.builtin id) (v :: us)) (EP X pins σ Q) X.xe s
section
variable {X : Cx} {a b : Expr} {ta tb : TE} {pos : Pos}
theorem IxR.or {r r' : R2} (h : IxR X r) (h' : IxR X r') : IxR X (fun x y H Q => r x y H Q ∨ r' x y H Q) := by
  intro value slice pins s σ H x y v u Q I rx ry q hs
  rcases q with q | q
  · exact h value slice pins s σ H x y v u Q I rx ry q hs
  · exact h' value slice pins s σ H x y v u Q I rx ry q hs
theorem pe_ix {r : R2} (hr : IxR X r) (ha : PE X a ta) (hb : PE X b tb) (hs : PlainIx b) : PE X (.Subscript a b pos) (tOp r ta tb) := by
  intro pins s σ H Q I h
  exact Subscript_ (binT ha hb I h fun v u s2 x y H2 I2 rx ry q => hr a b pins s2 σ H2 x y v u Q I2 rx ry q (hs _ _))
inductive rIxL (K : PySem.W.Frag) (x y : V) (H : Hp) (Q : VK) : Prop
  | mk (p : Addr) (xs : List V) (i : Int) (v : V) (h0 : x = .ref p) (h1 : y = .int i) (h2 : SqL K H p xs) (h3 : atI xs i = some v) (h4 : Q v H) : rIxL K x y H Q
inductive rIxT (K : PySem.W.Frag) (x y : V) (H : Hp) (Q : VK) : Prop
  | mk (p : Addr) (xs : List V) (i : Int) (v : V) (h0 : x = .ref p) (h1 : y = .int i) (h2 : SqT K H p xs) (h3 : atI xs i = some v) (h4 : Q v H) : rIxT K x y H Q
def rIxS : R2 := fun x y H Q => ∃ z i c, x = .str z ∧ y = .int i ∧ z.length ≤ sizeLine ∧ atI z.cps.toList i = some c ∧ Q (.str ⟨#[c]⟩) H
theorem ix_list : IxR X (rIxL X.K) := by
  intro value slice pins s σ H x y v u Q I rx ry h hs
  obtain ⟨p, xs, i, z, rfl, rfl, hq, he, q⟩ := h
  cases rx
  obtain ⟨t, rfl⟩ := ry
  obtain ⟨its, r, pl, hz⟩ := I.list hq
  obtain ⟨j, h1, h2, h3, h4, h5⟩ := atI_get he
  obtain ⟨w, ew, rw'⟩ := r.get h2
  have hl := r.length
  have hn := line63
  have fin : EP X pins σ Q w s := ⟨z, H, I, rw', q⟩
  by_cases h0 : 0 ≤ i
  · have hj : i.toNat = j := by
      rw [seqIndex_of h0 h5] at h1
      exact Option.some.inj h1
    exact item_listR pl.isList h0 (by omega) (by rw [hj]; simpa using ew) fin hs
  · have hj : (i + (its.toArray.size : Int)).toNat = j := by
      rw [seqIndex_neg (by omega) h4] at h1
      rw [List.size_toArray, ← hl]
      exact Option.some.inj h1
    exact subscriptTail_builtinR (x := w) pl.isList.typeIs slot_list_getitem.lookup
      (wpAny_getItem_list_neg (Q := fun r s' => r = w ∧ EP X pins σ Q r s') pl.isList (by omega) (by rw [List.size_toArray] <;> omega) (by omega) (by rw [hj]; simpa using ew) ⟨rfl, fin⟩) hs
theorem ix_tup : IxR X (rIxT X.K) := by
  intro value slice pins s σ H x y v u Q I rx ry h hs
  obtain ⟨p, xs, i, z, rfl, rfl, hq, he, q⟩ := h
  cases rx
  obtain ⟨t, rfl⟩ := ry
  obtain ⟨its, r, pl, hz⟩ := I.tuple hq
  obtain ⟨j, h1, h2, h3, h4, h5⟩ := atI_get he
  obtain ⟨w, ew, rw'⟩ := r.get h2
  have hl := r.length
  have hn := line63
  have fin : EP X pins σ Q w s := ⟨z, H, I, rw', q⟩
  exact subscriptTail_builtinR (x := w) pl.typeIs slot_tuple_getitem.lookup
    (getItem_tuple (j := j) (Q := fun r s' => r = w ∧ EP X pins σ Q r s') pl (by omega) (by omega) (by rw [List.size_toArray, ← hl]; exact h1) (by simpa using ew) ⟨rfl, fin⟩) hs
theorem ix_str : IxR X rIxS := by
  intro value slice pins s σ H x y v u Q I rx ry h hs
  obtain ⟨z, i, c, rfl, rfl, hz, he, q⟩ := h
  obtain ⟨t, rfl⟩ := rx
  obtain ⟨t', rfl⟩ := ry
  obtain ⟨j, h1, h2, h3, h4, h5⟩ := atI_get he
  have hl : z.cps.toList.length = z.length := by simp [Str.length]
  rw [hl] at h1 h4 h5
  have hn := line63
  exact tail_any (typeIs_str s z t) slot_str_getitem.lookup (getItem_str (c := c) (by
    have e1 : decide (i < -(2 ^ 63 : Int)) = false := decide_eq_false (by omega)
    have e2 : decide (i ≥ 2 ^ 63) = false := decide_eq_false (by omega)
    rw [e1, e2, Bool.or_false]) (by rw [h1]; simpa using h2) ⟨.str ⟨#[c]⟩, H, I.tok _, ⟨_, rfl⟩, q⟩) hs
def rIx (K : PySem.W.Frag) : R2 := fun x y H Q => rIxL K x y H Q ∨ rIxT K x y H Q ∨ rIxS x y H Q
theorem ix_seq : IxR X (rIx X.K) := ix_list.or (ix_tup.or ix_str)
def rSetL : V → V → V → Hp → (Hp → Prop) → Prop := fun o i v H Q => ∃ p xs k j, o = .ref p ∧ i = .int k ∧ H p = some (.lst xs) ∧ ixN xs.length k = some j ∧ Q (upd H p (.lst (xs.set j v)))
theorem slice_bounds (lo hi : Option Int) (n : Nat) : (sliceBounds lo hi none n).1 = ((HT.sIx n 0 lo : Nat) : Int) ∧ (sliceBounds lo hi none n).2.1 = ((HT.sIx n n hi : Nat) : Int) ∧ (sliceBounds lo hi none n).2.2 = 1 := by
  refine ⟨?_, ?_, rfl⟩
  · cases lo with
    | none => simp [sliceBounds, HT.sIx]
    | some i =>
      simp only [sliceBounds, HT.sIx, Option.getD_none, show (1 : Int) > 0 by decide, if_true]
      by_cases h : i < 0
      · simp only [h, if_true] <;> omega
      · simp only [h, if_false] <;> omega
  · cases hi with
    | none => simp [sliceBounds, HT.sIx]
    | some i =>
      simp only [sliceBounds, HT.sIx, Option.getD_none, show (1 : Int) > 0 by decide, if_true]
      by_cases h : i < 0
      · simp only [h, if_true] <;> omega
      · simp only [h, if_false] <;> omega
theorem slicePick_cut (its : List Value) (lo hi : Option Int) : slicePick its.toArray lo hi none = ((its.drop (HT.sIx its.length 0 lo)).take (HT.sIx its.length its.length hi - HT.sIx its.length 0 lo)).toArray := by
  obtain ⟨h1, h2, h3⟩ := slice_bounds lo hi its.toArray.size
  unfold slicePick
  rw [h1, h2, h3]
  simp only [sliceRange_one, pick_run, List.size_toArray] <;> rfl
def rSlL (K : PySem.W.Frag) : V → Option Int → Option Int → Hp → VK → Prop := fun x lo hi H Q => ∃ a xs, x = .ref a ∧ SqL K H a xs ∧ ∀ p, H p = none → Q (.ref p) (upd H p (.lst (cutV xs lo hi)))
theorem sl_list : SlR X (rSlL X.K) := by
  intro pins s σ H x v vl vu lo hi sl Q I rx hs pl pu h
  obtain ⟨a, xs, rfl, hx, q⟩ := h
  cases rx
  obtain ⟨its, r, ht, hz⟩ := I.list hx
  have hlen := r.length
  refine ⟨"list", _, slot_list_getitem.lookup, ht.isList.typeIs, ?_⟩
  refine wpAny_getItem_list_slice ht.isList hs pl pu .none (by simp) ?_ (by rw [List.size_toArray] <;> omega)
  rw [slicePick_cut, ← hlen]
  refine ⟨.ref s.heap.objs.size, _, I.laid (t' := s.toks) (o := .lst (cutV xs lo hi)) (fun b ob q => Heap.get?_push_of_some _ q) (Nat.le_refl _) ?_, rfl, q _ (I.hok.fresh (Nat.le_refl _))⟩
  exact ⟨Nat.le_trans (cutV_length xs lo hi) hz, _, 0, (r.drop (HT.sIx xs.length 0 lo)).take (HT.sIx xs.length xs.length hi - HT.sIx xs.length 0 lo), Heap.get?_push_size _ rfl⟩
def flatV : V → Bool
  | .non => true
  | .bl _ => true
  | .int _ => true
  | .str _ => true
  | _ => false
def eqV : V → V → Bool
  | .non, .non => true
  | .bl a, .bl b => a == b
  | .bl a, .int b => (if a then 1 else 0) == b
  | .int a, .bl b => a == (if b then 1 else 0)
  | .int a, .int b => a == b
  | .str a, .str b => a == b
  | _, _ => false
theorem eqAt_V {A : Around} {s : Shared} {y x : V} {u v : Value} (ry : RelV y u) (rx : RelV x v) (fy : flatV y = true) (fx : flatV x = true) : SeqAt.EqAt A s u v (eqV y x) := by
  cases y with
  | non =>
    cases ry
    cases x with
    | non => cases rx; exact SeqAt.EqAt.same _
    | bl b => cases rx; exact SeqAt.EqAt.none_bool b
    | int b => obtain ⟨t, rfl⟩ := rx; exact SeqAt.EqAt.none_int b t
    | str b => obtain ⟨t, rfl⟩ := rx; exact SeqAt.EqAt.none_str b t
    | _ => exact absurd (show false = true from fx) Bool.false_ne_true
  | bl a =>
    cases ry
    cases x with
    | non => cases rx; exact SeqAt.EqAt.bool_none a
    | bl b => cases rx; exact SeqAt.EqAt.bool_bool a b
    | int b => obtain ⟨t, rfl⟩ := rx; exact SeqAt.EqAt.bool_int a b t
    | str b => obtain ⟨t, rfl⟩ := rx; exact SeqAt.EqAt.bool_str a b t
    | _ => exact absurd (show false = true from fx) Bool.false_ne_true
  | int a =>
    obtain ⟨t', rfl⟩ := ry
    cases x with
    | non => cases rx; exact SeqAt.EqAt.int_none a t'
    | bl b => cases rx; exact SeqAt.EqAt.int_bool a t' b
    | int b => obtain ⟨t, rfl⟩ := rx; exact SeqAt.EqAt.int_int a t' b t
    | str b => obtain ⟨t, rfl⟩ := rx; exact SeqAt.EqAt.int_str a t' b t
    | _ => exact absurd (show false = true from fx) Bool.false_ne_true
  | str a =>
    obtain ⟨t', rfl⟩ := ry
    cases x with
    | non => cases rx; exact SeqAt.EqAt.str_none a t'
    | bl b => cases rx; exact SeqAt.EqAt.str_bool a t' b
    | int b => obtain ⟨t, rfl⟩ := rx; exact SeqAt.EqAt.str_int a t' b t
    | str b => obtain ⟨t, rfl⟩ := rx; exact SeqAt.EqAt.str_str a t' b t
    | _ => exact absurd (show false = true from fx) Bool.false_ne_true
  | _ => exact absurd (show false = true from fy) Bool.false_ne_true
def eqU (x : V) (u : Value) : Bool := match u with
  | .none => eqV .non x
  | .bool b => eqV (.bl b) x
  | .int i _ => eqV (.int i) x
  | .str z _ => eqV (.str z) x
  | _ => false
theorem eqU_of {x y : V} {u : Value} (r : RelV y u) (f : flatV y = true) : eqU x u = eqV y x := by
  cases y with
  | non => cases r; rfl
  | bl b => cases r; rfl
  | int i => obtain ⟨t, rfl⟩ := r; rfl
  | str z => obtain ⟨t, rfl⟩ := r; rfl
  | _ => exact absurd (show false = true from f) Bool.false_ne_true
theorem any_eqU {x : V} : ∀ {xs : List V} {us : List Value}, Vals xs us → xs.all flatV = true → us.any (eqU x) = xs.any fun y => eqV y x
  | _, _, .nil, _ => rfl
  | y :: xs, u :: us, .cons r t, f => by
    rw [List.all_cons, Bool.and_eq_true] at f
    rw [List.any_cons, List.any_cons, eqU_of r f.1, any_eqU t f.2]
theorem mem_eqAt {A : Around} {s : Shared} {x : V} {v : Value} (rx : RelV x v) (fx : flatV x = true) : ∀ {xs : List V} {us : List Value}, Vals xs us → xs.all flatV = true → ∀ u ∈ us, SeqAt.EqAt A s u v (eqU x u)
  | _, _, .nil, _ => fun u hu => by cases hu
  | y :: xs, u :: us, .cons r t, f => fun u' hu => by
    rw [List.all_cons, Bool.and_eq_true] at f
    rcases List.mem_cons.mp hu with rfl | hu
    · rw [eqU_of r f.1]; exact eqAt_V r rx f.1 fx
    · exact mem_eqAt rx fx t f.2 u' hu
def inV (x : V) (xs : List V) : Bool := xs.any fun y => eqV y x
inductive rIn (K : PySem.W.Frag) (neg : Bool) (x y : V) (H : Hp) (Q : VK) : Prop
  | mk (p : Addr) (xs : List V) (h0 : y = .ref p) (h1 : SqL K H p xs ∨ SqT K H p xs) (h2 : flatV x = true) (h3 : xs.all flatV = true) (h4 : Q (.bl (if neg then !inV x xs else inV x xs)) H) : rIn K neg x y H Q
theorem op_in_seq : OpR X (compareOp .In) (rIn X.K false) := by
  intro pins s σ H x y v u Q I rx ry h
  obtain ⟨p, xs, rfl, hq, fx, fs, q⟩ := h
  cases ry
  rcases hq with hq | hq
  · obtain ⟨its, r, pl, hz⟩ := I.list hq
    refine SeqAt.in_listAt (eqU x) pl.isList (fun w hw => mem_eqAt rx fx r fs w (by simpa using hw)) ⟨.bl _, H, I, rfl, ?_⟩
    rw [show its.toArray.any (eqU x) = its.any (eqU x) by simp, any_eqU r fs]
    exact q
  · obtain ⟨its, r, pl, hz⟩ := I.tuple hq
    refine SeqAt.in_tupleAt (eqU x) pl (fun w hw => mem_eqAt rx fx r fs w (by simpa using hw)) ⟨.bl _, H, I, rfl, ?_⟩
    rw [show its.toArray.any (eqU x) = its.any (eqU x) by simp, any_eqU r fs]
    exact q
theorem op_notIn_seq : OpR X (compareOp .NotIn) (rIn X.K true) := by
  intro pins s σ H x y v u Q I rx ry h
  obtain ⟨p, xs, rfl, hq, fx, fs, q⟩ := h
  cases ry
  rcases hq with hq | hq
  · obtain ⟨its, r, pl, hz⟩ := I.list hq
    refine SeqAt.notIn_listAt (eqU x) pl.isList (fun w hw => mem_eqAt rx fx r fs w (by simpa using hw)) ⟨.bl _, H, I, rfl, ?_⟩
    rw [show its.toArray.any (eqU x) = its.any (eqU x) by simp, any_eqU r fs]
    exact q
  · obtain ⟨its, r, pl, hz⟩ := I.tuple hq
    refine SeqAt.notIn_tupleAt (eqU x) pl (fun w hw => mem_eqAt rx fx r fs w (by simpa using hw)) ⟨.bl _, H, I, rfl, ?_⟩
    rw [show its.toArray.any (eqU x) = its.any (eqU x) by simp, any_eqU r fs]
    exact q
theorem call_len_seq : CallR X (.builtin "len") (fun xs H Q => ∃ p ys, xs = [.ref p] ∧ (SqL X.K H p ys ∨ SqT X.K H p ys) ∧ Q (.int ys.length) H) := by
  intro pins s σ H xs us Q I r h
  obtain ⟨p, ys, rfl, hq, q⟩ := h
  obtain ⟨u, rfl, rx⟩ := vals1 r
  cases rx
  have hn := line63
  rcases hq with hq | hq
  · obtain ⟨its, r', pl, hz⟩ := I.list hq
    have hlen := r'.length
    exact Calls.call_len_list pl.isList (by simp only [List.size_toArray] <;> omega) ⟨.int ys.length, H, I.tok _, ⟨s.toks + 1, by rw [List.size_toArray, hlen]⟩, q⟩
  · obtain ⟨its, r', pl, hz⟩ := I.tuple hq
    have hlen := r'.length
    exact len_tuple pl (by simp only [List.size_toArray] <;> omega) ⟨.int ys.length, H, I.tok _, ⟨s.toks + 1, by rw [List.size_toArray, hlen]⟩, q⟩
theorem call_len_str : CallR X (.builtin "len") (fun xs H Q => ∃ z, xs = [.str z] ∧ z.length ≤ sizeLine ∧ Q (.int z.length) H) := by
  intro pins s σ H xs us Q I r h
  obtain ⟨z, rfl, hz, q⟩ := h
  obtain ⟨u, rfl, t, rfl⟩ := vals1 r
  have hn := line63
  exact len_str (by omega) ⟨.int z.length, H, I.tok _, ⟨_, rfl⟩, q⟩
theorem CallR.or {f : Value} {r r' : List V → Hp → VK → Prop} (h : CallR X f r) (h' : CallR X f r') : CallR X f (fun xs H Q => r xs H Q ∨ r' xs H Q) := by
  intro pins s σ H xs us Q I rs q
  rcases q with q | q
  · exact h pins s σ H xs us Q I rs q
  · exact h' pins s σ H xs us Q I rs q
inductive rListOf (K : PySem.W.Frag) (xs : List V) (H : Hp) (Q : VK) : Prop
  | mk (p : Addr) (ys : List V) (h0 : xs = [.ref p]) (h1 : SqL K H p ys ∨ SqT K H p ys) (h2 : ∀ l, H l = none → Q (.ref l) (upd H l (.lst ys))) : rListOf K xs H Q
def tyV (K : PySem.W.Frag) (T : String) (x : V) (H : Hp) : Prop := match x with
  | .str _ => T = "str"
  | .int _ => T = "int"
  | .ref p => (T = "list" ∧ ∃ xs, SqL K H p xs) ∨ (T = "tuple" ∧ ∃ o, K.lookup p = some o ∧ o.cls = .type "tuple" ∧ o.dict = none) ∨
      (T = "dict" ∧ ((∃ kvs, H p = some (.dK kvs)) ∨ ∃ kvs, H p = some (.dT kvs))) ∨ (T = "set" ∧ ∃ S n, H p = some (.set S n))
  | _ => False
theorem tyV_is {pins : List (Addr × Obj)} {σ : St} {H : Hp} {s : Shared} {T : String} {x : V} {v : Value} (I : Inv X pins σ H s) (r : RelV x v) (ty : tyV X.K T x H) :
    s.TypeIs v T ∧ ∀ a, v = .ref a → ∃ ob, s.heap.get? a = some ob ∧ ob.dict = none := by
  cases x with
  | str z =>
    obtain ⟨t, rfl⟩ := r
    cases (show T = "str" from ty)
    exact ⟨typeIs_str s z t, fun _ e => nomatch e⟩
  | int i =>
    obtain ⟨t, rfl⟩ := r
    cases (show T = "int" from ty)
    exact ⟨typeIs_int s i t, fun _ e => nomatch e⟩
  | ref p =>
    cases r
    rcases ty with ⟨rfl, xs, hq⟩ | ⟨rfl, o, hk, hc, hd⟩ | ⟨rfl, hk⟩ | ⟨rfl, S, n, hk⟩
    · obtain ⟨its, _, pl, _⟩ := I.list hq
      refine ⟨pl.isList.typeIs, fun a e => ?_⟩
      cases e
      obtain ⟨o, n, e, c, hd, _⟩ := pl
      exact ⟨o, e, hd⟩
    · refine ⟨⟨o, I.kIn p o hk, hc⟩, fun a e => ?_⟩
      cases e
      exact ⟨o, I.kIn _ o hk, hd⟩
    · have z : ∃ o, s.heap.get? p = some o ∧ o.ExactDict := by
        rcases hk with ⟨kvs, hk⟩ | ⟨kvs, hk⟩
        · obtain ⟨_, _, _, _, o, _, _, e, ex, _⟩ := I.hok p _ hk
          exact ⟨o, e, ex⟩
        · obtain ⟨_, _, _, _, o, _, _, e, ex, _⟩ := I.hok p _ hk
          exact ⟨o, e, ex⟩
      obtain ⟨o, e, ex⟩ := z
      refine ⟨⟨o, e, ex.1⟩, fun a e2 => ?_⟩
      cases e2
      exact ⟨o, e, ex.2.1⟩
    · obtain ⟨o, _, _, _, e, ex, _⟩ := I.hok p _ hk
      refine ⟨⟨o, e, ex.1⟩, fun a e2 => ?_⟩
      cases e2
      exact ⟨o, e, ex.2.1⟩
  | _ => exact False.elim ty
def tBM0 (K : PySem.W.Frag) (T : String) (r : V → List V → Hp → VK → Prop) (to : TE) : TE := fun σ H Q => to σ H fun x H1 => tyV K T x H1 ∧ r x [] H1 Q
def tBM (K : PySem.W.Frag) (T : String) (r : V → List V → Hp → VK → Prop) (to : TE) (t : TA) : TE := fun σ H Q => to σ H fun x H1 => tyV K T x H1 ∧ t σ H1 fun xs H2 => r x xs H2 Q
variable {o e : Expr} {es : List Expr} {to : TE} {t : TA} {name : Str} {apos cpos : Pos} {T id : String} {r : V → List V → Hp → VK → Prop}
theorem pe_bm0 (pa : PlainAttrs T) (slot : Slot T name id) (hty : typeOf (.builtin id) = pure (.type "method_descriptor")) (hm : MtR X id r) (ho : PE X o to)
    (hbase : attributeBase o name X.env (eval o X.env) = eval o X.env := by rfl) (hline : (apos.endLine == cpos.line) = true := by rfl) : PE X (.Call (.Attribute o name apos) [] [] cpos) (tBM0 X.K T r to) := by
  intro pins s σ H Q I h
  refine wpAny_Call_method0_late hbase hline (thn (ho pins s σ H _ I h) fun v s1 ⟨x, H1, I1, r1, ty, q1⟩ => ?_)
  obtain ⟨h1, h2⟩ := tyV_is I1 r1 ty
  exact ⟨T, id, pa, slot, hty, h1, h2, Calls.callWith_builtin rfl (PySem.evalArgs_none (hm pins s1 σ H1 x [] v [] Q I1 r1 .nil q1))⟩
theorem pe_bm (pa : PlainAttrs T) (slot : Slot T name id) (hty : typeOf (.builtin id) = pure (.type "method_descriptor")) (hm : MtR X id r) (ho : PE X o to) (ha : PA X (e :: es) t)
    (hbase : attributeBase o name X.env (eval o X.env) = eval o X.env := by rfl)
    (hfew : ((backTo cpos (starEach (e :: es) X.env)).all (fun x => !x.1) && (backToKw cpos (keywordEach [] X.env)).all (fun x => x.1.isSome)
      && decide ((e :: es).length + ([] : List Keyword).length + (if ([] : List Keyword).isEmpty then 0 else 1) < 30)) = true := by rfl)
    (hline : (apos.endLine == cpos.line) = true := by rfl) (hs : starEach (e :: es) X.env = (false, eval e X.env) :: starEach es X.env := by rfl) (hplain : (backTo cpos (starEach es X.env)).any (·.1) = false := by rfl) :
    PE X (.Call (.Attribute o name apos) (e :: es) [] cpos) (tBM X.K T r to t) := by
  intro pins s σ H Q I h
  refine wpAny_Call_method_late hbase hfew hline rfl (thn (ho pins s σ H _ I h) fun v s1 ⟨x, H1, I1, r1, ty, q1⟩ => ?_)
  obtain ⟨h1, h2⟩ := tyV_is I1 r1 ty
  refine ⟨T, id, pa, slot, hty, h1, h2, ?_⟩
  have hA := ha cpos pins s1 σ H1 _ I1 q1
  rw [hs] at hA ⊢
  refine Calls.callWith_builtin (by show (false || (backTo cpos (starEach es X.env)).any (·.1)) = false; rw [hplain] <;> rfl) (Calls.evalArgs_plain ?_)
  exact thn hA fun us s2 ⟨vs, H2, I2, r2, q2⟩ => hm pins s2 σ H2 x vs v us Q I2 r1 r2 q2
end
end L2
namespace L2
open PySem PySem.Spec PyProof.Rows
def MtM (X : Cx) (id : String) (r : V → List V → Hp → VK → Prop) : Prop :=
  ∀ (pins : List (Addr × Obj)) (s : Shared) (σ : St) (H : Hp) (x : V) (xs : List V) (v : Value) (us : List Value) (Q : VK), Inv X pins σ H s → RelV x v → Vals xs us → r x xs H Q →
    wpAny (model X.prog X.w) X.A (call (.builtin id) (v :: us)) (EP X pins σ Q) X.xe s
theorem Vals.one : ∀ {x : V} {us : List Value}, Vals [x] us → ∃ u, us = [u] ∧ RelV x u
  | _, _, .cons r .nil => ⟨_, rfl, r⟩
theorem Vals.zero : ∀ {us : List Value}, Vals [] us → us = []
  | _, .nil => rfl
theorem Vals.dropLast {xs : List V} {us : List Value} (h : Vals xs us) : Vals xs.dropLast us.dropLast := by
  induction h with
  | nil => exact .nil
  | cons r t ih =>
    cases t with
    | nil => exact .nil
    | cons q t' => exact .cons r ih
theorem erase_last {α : Type} (l : List α) : l.eraseIdx (l.length - 1) = l.dropLast := by
  induction l with
  | nil => rfl
  | cons a r ih =>
    cases r with
    | nil => rfl
    | cons b r =>
      have e : (a :: b :: r).length - 1 = ((b :: r).length - 1) + 1 := by
        have h1 : (a :: b :: r).length = r.length + 2 := rfl
        have h2 : (b :: r).length = r.length + 1 := rfl
        omega
      rw [e, List.eraseIdx_cons_succ, ih]
      all_goals rfl
section
variable {X : Cx} {pins : List (Addr × Obj)} {σ : St} {H : Hp} {s : Shared} {l b : Addr} {xs ys zs : List V}
theorem Inv.lset {its its' : List Value} {n : Nat} {f : Array Value → Array Value} {t' : Nat} (I : Inv X pins σ H s) (hH : H l = some (.lst xs))
    (e : s.heap.get? l = some { cls := .type "list", data := .seq its.toArray n }) (hf : f its.toArray = its'.toArray) (hv : Vals ys its') (hz : ys.length ≤ sizeLine) :
    Inv X pins σ (upd H l (.lst ys)) { s with heap := s.heap.update l (Obj.mapSeq f), toks := t' } := by
  have q := PySem.IsL.update e f
  rw [hf] at q
  refine I.write (x := l) (e := l) (by rw [hH]; exact trivial) (.inl rfl) (fun b' u hb hu => (Heap.get?_update_other s.heap (Obj.mapSeq f) (Ne.symm hb)).trans hu) ⟨_, q⟩ ?_
  exact ⟨hz, its', _, hv, q⟩
theorem Inv.lnew {its : List Value} {t' : Nat} (I : Inv X pins σ H s) (hv : Vals ys its) (hz : ys.length ≤ sizeLine) :
    Inv X pins σ (upd H s.heap.objs.size (.lst ys)) { s with heap := s.heap.push { cls := .type "list", data := .seq its.toArray }, toks := t' } :=
  I.laid (fun _ _ q => Heap.get?_push_of_some _ q) (Nat.le_refl _) ⟨hz, its, 0, hv, Heap.get?_push_size _ rfl⟩
theorem Inv.fresh (I : Inv X pins σ H s) : H s.heap.objs.size = none := I.hok.fresh (Nat.le_refl _)
theorem Inv.lstM (I : Inv X pins σ H s) (hH : H l = some (.lst xs)) : xs.length ≤ sizeLine ∧ ∃ (its : List Value) (n : Nat), Vals xs its ∧ xs.length = its.length ∧ s.heap.get? l = some { cls := .type "list", data := .seq its.toArray n } := by
  obtain ⟨z, its, n, r, e⟩ := I.hok l _ hH
  exact ⟨z, its, n, r, r.length, e⟩
theorem notLongL {n : Nat} (h : n ≤ sizeLine) : Builtin.List.listTooLong n = false := by
  unfold Builtin.List.listTooLong
  exact decide_eq_false (by omega)
end
section
variable {X : Cx}
inductive rAppend (x : V) (vs : List V) (H : Hp) (Q : VK) : Prop
  | mk (l : Addr) (xs : List V) (y : V) (h0 : x = .ref l) (h1 : vs = [y]) (h2 : H l = some (.lst xs)) (h3 : xs.length < sizeLine) (h4 : Q .non (upd H l (.lst (xs ++ [y])))) : rAppend x vs H Q
theorem mt_append : MtM X "list.append" rAppend := by
  intro pins s σ H x vs v us Q I rx rv h
  obtain ⟨l, xs, y, rfl, rfl, hH, hz, q⟩ := h
  cases rx
  obtain ⟨u, rfl, ru⟩ := rv.one
  obtain ⟨z, its, n, r, hl, e⟩ := I.lstM hH
  refine call_meets F.slot_list_append ⟨_, e, rfl⟩ F.entry_list_append (F.args_list_append_2 _ _) (PySem.list_append l its.toArray n u (by rw [List.size_toArray]; omega)) ⟨e, ?_⟩
  refine ⟨.non, _, I.lset (its' := its ++ [u]) hH e (by simp) (r.append (.cons ru .nil)) ?_, rfl, q⟩
  rw [List.length_append, List.length_singleton]
  omega
def rExtend : V → List V → Hp → VK → Prop := fun x vs H Q => ∃ l b xs zs, x = .ref l ∧ vs = [.ref b] ∧ H l = some (.lst xs) ∧ H b = some (.lst zs) ∧ xs.length + zs.length ≤ sizeLine ∧ Q .non (upd H l (.lst (xs ++ zs)))
theorem mt_extend : MtM X "list.extend" rExtend := by
  intro pins s σ H x vs v us Q I rx rv h
  obtain ⟨l, b, xs, zs, rfl, rfl, hH, hB, hz, q⟩ := h
  cases rx
  obtain ⟨u, rfl, ru⟩ := rv.one
  cases ru
  obtain ⟨z, its, n, r, hl, e⟩ := I.lstM hH
  obtain ⟨z2, its2, n2, r2, hl2, e2⟩ := I.lstM hB
  have hsz : its.toArray.size + its2.toArray.size ≤ sizeLine := by rw [List.size_toArray, List.size_toArray]; omega
  have hlong : ¬ (!its.toArray.isEmpty && Builtin.List.listTooLong (its.toArray.size + its2.toArray.size)) = true := by
    rw [notLongL hsz, Bool.and_false]
    exact Bool.false_ne_true
  refine call_meets F.slot_list_extend ⟨_, e, rfl⟩ F.entry_list_extend (F.args_list_extend_2 _ _)
    (AutoSeq1.list_extend_list_list_0 l its.toArray n b its2.toArray n2 hlong (by rw [List.size_toArray]; omega) (by omega)) ⟨e, e2, ?_⟩
  refine ⟨.non, _, I.lset (its' := its ++ its2) hH e (by simp) (r.append r2) ?_, rfl, q⟩
  rw [List.length_append]
  omega
def rPop : V → List V → Hp → VK → Prop := fun x vs H Q => ∃ l xs y, x = .ref l ∧ vs = [] ∧ H l = some (.lst xs) ∧ xs[xs.length - 1]? = some y ∧ Q y (upd H l (.lst xs.dropLast))
theorem mt_pop : MtM X "list.pop" rPop := by
  intro pins s σ H x vs v us Q I rx rv h
  obtain ⟨l, xs, y, rfl, rfl, hH, hy, q⟩ := h
  cases rx
  have hus := rv.zero
  subst hus
  obtain ⟨z, its, n, r, hl, e⟩ := I.lstM hH
  obtain ⟨u, hu, ru⟩ := r.get hy
  have hy' : its.toArray[its.toArray.size - 1]? = some u := by
    show its.toArray[its.length - 1]? = some u
    rw [← Array.getElem?_toList, ← hl]
    exact hu
  refine call_meets F.slot_list_pop ⟨_, e, rfl⟩ F.entry_list_pop (F.args_list_pop_1 _) (MeetsSeq.list_pop_last l its.toArray n u hy' (by rw [List.size_toArray]; omega)) ⟨e, ?_⟩
  refine ⟨y, _, I.lset (its' := its.dropLast) hH e ?_ r.dropLast ?_, ru, q⟩
  · show its.toArray.eraseIdxIfInBounds (its.toArray.size - 1) = its.dropLast.toArray
    rw [List.size_toArray, List.eraseIdxIfInBounds_toArray, erase_last]
  · rw [List.length_dropLast]
    omega
def rPopAt : V → List V → Hp → VK → Prop := fun x vs H Q => ∃ l xs i k y, x = .ref l ∧ vs = [.int i] ∧ H l = some (.lst xs) ∧ -(2 ^ 63) ≤ i ∧ i < 2 ^ 63 ∧ seqIndex? i xs.length = some k ∧ xs[k]? = some y ∧ Q y (upd H l (.lst (xs.eraseIdx k)))
def rReverse : V → List V → Hp → VK → Prop := fun x vs H Q => ∃ l xs, x = .ref l ∧ vs = [] ∧ H l = some (.lst xs) ∧ Q .non (upd H l (.lst xs.reverse))
def rClear : V → List V → Hp → VK → Prop := fun x vs H Q => ∃ l xs, x = .ref l ∧ vs = [] ∧ H l = some (.lst xs) ∧ Q .non (upd H l (.lst []))
inductive rCat (x y : V) (H : Hp) (Q : VK) : Prop
  | mk (l b : Addr) (xs zs : List V) (h0 : x = .ref l) (h1 : y = .ref b) (h2 : H l = some (.lst xs)) (h3 : H b = some (.lst zs)) (h4 : xs.length + zs.length ≤ sizeLine) (h5 : ∀ p, H p = none → Q (.ref p) (upd H p (.lst (xs ++ zs)))) : rCat x y H Q
theorem op_cat : OpR X (binaryOp .Add) rCat := by
  intro pins s σ H x y v u Q I rx ry h
  obtain ⟨l, b, xs, zs, rfl, rfl, hH, hB, hz, q⟩ := h
  cases rx
  cases ry
  obtain ⟨z, its, n, r, hl, e⟩ := I.lstM hH
  obtain ⟨z2, its2, n2, r2, hl2, e2⟩ := I.lstM hB
  refine PySem.P.add_list e e2 ?_ (by rw [List.size_toArray, List.size_toArray]; omega)
  have ea : its.toArray ++ its2.toArray = (its ++ its2).toArray := by simp
  rw [ea]
  exact ⟨.ref _, _, I.lnew (t' := s.toks) (r.append r2) (by rw [List.length_append]; omega), rfl, q _ I.fresh⟩
def rRep : R2 := fun x y H Q => ∃ l k xs, x = .ref l ∧ y = .int k ∧ H l = some (.lst xs) ∧ -(2 ^ 63) ≤ k ∧ k < 2 ^ 63 ∧ xs.length * k.toNat ≤ sizeLine ∧
  ∀ p, H p = none → Q (.ref p) (upd H p (.lst (List.replicate k.toNat xs).flatten))
end
section
variable {prog : Program} {w : World} {A : Around} {E : Value → Shared → Prop} {s : Shared}
set_option maxRecDepth 100000 in
end
section
variable {X : Cx}
end
end L2
namespace Att
open PySem PySem.W PySem.Calls PyProof.Rows
theorem ints_of_wellAll {P : Params} {h : Heap} : ∀ (ns : List Int) (vs : List Value), WellAll P h vs (ns.map WData.int) → IntsAre vs ns := by
  intro ns
  induction ns with
  | nil =>
    intro vs w
    rw [List.map_nil] at w
    cases w
    exact .nil
  | cons n ns ih =>
    intro vs w
    rw [List.map_cons] at w
    cases w with
    | cons a b =>
      cases a
      exact .cons _ _ (ih _ b)
theorem script_of {l : OpenLaw} {n : Nat} (hn : l.most = some n) {P : Params} {h : Heap} {args : List WData} {vals : List Value}
    (hpre : l.row.toRowW.claim.pre args = true) (hwl : WellAll P h vals args) :
    ∃ a vs ns, vals = [Value.ref a] ∧ args = [WData.list (ns.map WData.int)] ∧ h.get? a = some { cls := .type "list", data := .seq vs.toArray } ∧ IntsAre vs ns ∧ ns.length ≤ n := by
  have hsh : WShape.hasAll [] args [.list .int] = true := (pre_splitW hpre).1
  have hc : l.pre.holds [] { args := args } = true := (pre_splitW hpre).2
  obtain ⟨d, r, rfl, h1, h2⟩ := hasAllW_cons hsh
  obtain rfl := hasAllW_nil h2
  obtain ⟨xs, rfl, h3⟩ := hasW_list h1
  obtain ⟨ns, rfl⟩ := items_int h3
  have hlen : ns.length ≤ n := by
    unfold OpenLaw.pre at hc
    have h4 : (WTm.not (.lt (.lit (.int (n : Int))) (.len (.arg 0)))).holds [] { args := [.list (ns.map .int)] } = true := by
      have h4 := (holds_andW hc).1
      rw [hn] at h4
      exact h4
    have h5 := condW_of h4 (w_not (w_lt w_lit (w_len_list (w_arg rfl))))
    rw [List.length_map] at h5
    refine Nat.le_of_not_lt fun q => ?_
    have q' : (n : Int) < ((ns.length : Nat) : Int) := by omega
    first
      | (rw [decide_eq_true q'] at h5; exact absurd h5 (by decide))
      | (simp at h5; omega)
  cases hwl with
  | cons w1 w2 =>
    cases w2
    cases w1 with
    | list ho hall => exact ⟨_, _, ns, rfl, rfl, ho, ints_of_wellAll ns _ hall, hlen⟩
theorem post_true (l : OpenLaw) (args : List WData) : l.row.toRowW.claim.post args (.bool true) args = true :=
  postW_of (r := l.row.toRowW) (X := (true == true))
    (show WShape.has [] (.bool true) .bool = true by first | rfl | decide | simp [WShape.has, WShape.arms, WShape.armsAll])
    (show (WTm.eq .res (.lit (.bool true))).value [] { args := args, res := some (.bool true), after := args } = some (.bool (true == true)) from w_eq_bool (w_res rfl) w_lit) rfl
theorem attach_call {l : OpenLaw} {n : Nat} {q : Program} {loose : List Str} {XP : (Str → Option Value) → Heap → Prop} {YP : World → Heap → Prop} {d : DefRec}
    (hn : l.most = some n) (hdf : d.params.defaults = [])
    (call : ∀ (w : World) (s₀ s₁ : Shared) (mg mb : Str → Option Value) (fa : Addr) (o : Obj) (pm cd doc : Value) (a : Addr) (vs : List Value) (ns : List Int),
      Ground q loose [] XP w s₀ mg mb s₁.heap → YP w s₁.heap →
      s₁.heap.get? fa = some o → o.data = .func (docDef d.name d.params d.body d.scope pm cd doc) → s₁.heap.CodeRec cd d.name → mg d.name = some (.ref fa) →
      s₁.heap.get? a = some { cls := .type "list", data := .seq vs.toArray } → IntsAre vs ns → ns.length ≤ n → s₁.gens = #[] →
      codeAny (model l.prog w) callerA (.call (.ref fa) ⟨[.ref a], []⟩) (fun r s' => r = .ok (.ret (.bool true)) ∧ OldK s₁.heap s'.heap ∧ s'.os = s₁.os ∧ AllBare s'.gens) s₁) :
    WalkO q loose XP YP l.row.toRowW d [] (fun f vs => PySem.call f vs) := by
  intro w s₀ s₁ mg mb G Y fa o pm cd doc dV kV ho hd hcd hD hmg hg args vals as hpre hlay hrd hwl hlo
  obtain rfl : dV = .none := Dflts.none hD hdf
  obtain rfl : kV = .none := Dflts.noKw hD
  obtain ⟨a, vs, ns, rfl, rfl, hobj, hints, hlen⟩ := script_of hn hpre hwl
  refine enter_call (codeAny_mono (call w s₀ s₁ mg mb fa o pm cd doc a vs ns G Y ho (fd_plain hd) hcd hmg hobj hints hlen hg) fun r s' hq => ?_)
  obtain ⟨rfl, h2, h3, h4⟩ := hq
  exact ⟨.inl ⟨.bool true, .bool true, [], rfl, fun _ => rfl, .bool true, post_true l _, fun _ => ⟨List.Pairwise.nil, fun _ hm => (nomatch hm)⟩⟩, h2, h3, h4⟩
section
variable {prog : Program} {w : World} {A : Around} {E : Value → Shared → Prop} {s : Shared} {K : Frag}
def noObjs (h : Heap) : Heap := { h with objs := #[] }
def ledger (h : Heap) (L d : Addr) : List (Addr × Obj) := (List.range h.objs.size).filterMap fun a => if a = L ∨ a = d then none else (h.get? a).map fun o => (a, o)
end
end Att
namespace L2
open PySem PySem.Spec PyProof.Rows
theorem vals_ints : ∀ {vs : List Value} {ns : List Int}, IntsAre vs ns → Vals (ns.map V.int) vs
  | _, _, .nil => .nil
  | _, _, .cons n t h => .cons ⟨t, rfl⟩ (vals_ints h)
def Only (H : Hp) : Prop := ∀ b, H b = none ∨ ∃ o xs, H b = some (.frz o (.lst xs))
theorem law_call {P : Program} {w : World} {K : PySem.W.Frag} {mg mb : Str → Option Value} {CX : CXT} {k : Nat} {fa a : Addr} {fd : FuncData} {x : Str} {sp : Sp} {s₁ : Shared} {vs : List Value} {ns : List Int}
    (KX : K.In s₁.heap) (hns : s₁.heap.Ns mainGlobals mg) (hb : s₁.heap.Ns builtinsNs mb) (hbb : ∀ x : Str, x ≠ "__name__" → mb x = bootBuiltins x) (hlim : s₁.heap.NoLimit) (hg : s₁.gens = #[])
    (ha : s₁.heap.get? a = some { cls := .type "list", data := .seq vs.toArray }) (hi : IntsAre vs ns) (hl : ns.length ≤ sizeLine) (hr : Room k callerA)
    (F : ∀ base : Heap, K.In base → base.Ns mainGlobals mg → FnOk P w K mg base CX k fa fd [x] sp) (hbind : ∀ (s : Shared) (u : Value), BindsTo s fd ⟨[u], []⟩ [(x, u)])
    (hsp : ∀ H : Hp, Only H → SqL K H a (ns.map V.int) → sp [.ref a] H (fun v _ => v = .bl true) fun _ _ _ => False)
    (hCX : ∀ H e s', CX [] H s₁ (fun _ _ _ => False) e s' → False) :
    codeAny (model P w) callerA (.call (.ref fa) ⟨[.ref a], []⟩) (fun r s' => r = .ok (.ret (.bool true)) ∧ OldK s₁.heap s'.heap ∧ s'.os = s₁.os ∧ AllBare s'.gens) s₁ := by
  have rv := vals_ints hi
  have lenV := hi.length
  -- from an abstract heap in which nothing but the script may be tracked
  have core : ∀ H : Hp, Only H → SqL K H a (ns.map V.int) → HOk P w H s₁.heap → (∀ b, H b ≠ none → b = a) → (H a ≠ none → K.lookup a = none) →
      codeAny (model P w) callerA (.call (.ref fa) ⟨[.ref a], []⟩) (fun r s' => r = .ok (.ret (.bool true)) ∧ OldK s₁.heap s'.heap ∧ s'.os = s₁.os ∧ AllBare s'.gens) s₁ := by
    intro H hO hS hok hA hK
    have base_of : ∀ {b : Addr} {o : Obj}, s₁.heap.get? b = some o → H b = none → (hidT s₁.heap H).get? b = some o := fun e n => hidT_get e n
    have noA : ∀ {b : Addr} {o : Obj} {es : Array DictEntry} {ep : Nat}, s₁.heap.get? b = some o → o.data = .dict es ep → H b = none := fun {b o es ep} e d => by
      cases q : H b with
      | none => rfl
      | some u =>
        have e' : b = a := hA b (by rw [q]; simp)
        subst e'
        rw [ha] at e; cases e
        have d' : Data.seq vs.toArray _ = Data.dict es ep := d
        cases d'
    have nsK : ∀ {b : Addr} {m : Str → Option Value}, s₁.heap.Ns b m → (hidT s₁.heap H).Ns b m := fun {b m} ⟨o, es, ep, e, d, r⟩ => ⟨o, es, ep, base_of e (noA e d), d, r⟩
    have hKb : K.In (hidT s₁.heap H) := fun b o e => base_of (KX b o e) (by
      cases q : H b with
      | none => rfl
      | some u =>
        have e' : b = a := hA b (by rw [q]; simp)
        subst e'
        rw [hK (by rw [q]; simp)] at e; cases e)
    have hM : Mod K mg (hidT s₁.heap H) := ⟨hKb, nsK hns, ⟨mb, nsK hb, hbb⟩, let ⟨mc, h1, h2⟩ := hlim; ⟨mc, nsK h1, h2⟩⟩
    have e0 : Env0 P w K mg (hidT s₁.heap H) callerA [] s₁ H := ⟨rfl, hM, fun b o e => of_hidT e, Nat.le_of_eq (hidT_size _ _), trivial, fun b hb => absurd (show b ∈ ([] : List Addr) from hb) (by simp), hok, .of_eq hg⟩
    refine codeAny_mono ((F _ hKb (nsK hns)).run callerA [] s₁ H ⟨[.ref a], []⟩ [.ref a] [.ref a] _ _ hr e0 (hbind s₁ (.ref a)) (.cons rfl .nil) (hsp H hO hS)) fun r s' h => ?_
    cases r with
    | error e => exact (hCX H e s' h).elim
    | ok fl =>
      cases fl with
      | next => exact False.elim h
      | brk => exact False.elim h
      | cont => exact False.elim h
      | ret u =>
        obtain ⟨v, H', os, bare, un, hok', r', q⟩ := h
        have q' : v = .bl true := q
        subst q'
        obtain rfl : u = Value.bool true := r'
        refine ⟨rfl, OldK.of_keep fun b o e => ?_, os, bare⟩
        cases q : H b with
        | none => exact un.keep b o e q (by intro z; exact absurd (show b ∈ ([] : List Addr) from z) (by simp)) (by simp)
        | some u =>
          rcases hO b with z | ⟨ob, xs, z⟩
          · rw [q] at z; cases z
          · have z2 := un.frzs b ob _ z
            obtain ⟨e1, _⟩ := hok b _ z
            obtain ⟨e2, _⟩ := hok' b _ z2
            rw [e] at e1; cases e1
            exact e2
  cases hk : K.lookup a with
  | some o =>
    -- the script is one of the module's own objects
    have e := KX a o hk
    rw [ha] at e
    cases e
    refine core (fun _ => none) (fun _ => .inl rfl) (.inr ⟨_, vs.toArray, _, hk, rfl, rfl, rfl, by rw [List.size_toArray, lenV]; exact hl, by simpa using rv⟩) (fun b u z => by have z' : (none : Option HO) = some u := z; cases z') (fun b z => absurd rfl z) fun z => absurd rfl z
  | none =>
    refine core (fun b => if b = a then some (.frz { cls := .type "list", data := .seq vs.toArray } (.lst (ns.map V.int))) else none) (fun b => ?_) (.inl (.inr ⟨{ cls := .type "list", data := .seq vs.toArray }, if_pos rfl⟩)) (fun b u z => ?_) (fun b z => ?_) fun _ => hk
    · by_cases hb : b = a
      · exact .inr ⟨_, _, if_pos hb⟩
      · exact .inl (if_neg hb)
    · by_cases hb : b = a
      · have z' := (if_pos hb).symm.trans z
        cases z'
        subst hb
        exact ⟨ha, by rw [List.length_map]; exact hl, vs, _, rv, ha⟩
      · have z' := (if_neg hb).symm.trans z
        cases z'
    · by_cases hb : b = a
      · exact hb
      · exact absurd (if_neg hb) z
end L2
namespace L2
open PySem PySem.Spec PyProof.Rows
abbrev KOf {K : PySem.W.Frag} {h : Heap} (_ : K.In h) : PySem.W.Frag := K
theorem walk_of {l : PySem.W.OpenLaw} {n k : Nat} {q : Program} {loose : List Str} {XP : (Str → Option Value) → Heap → Prop} {YP : World → Heap → Prop} {d : DefRec} {K : Params → PySem.W.Frag} {CX : World → CXT} {sp : World → Sp} {x : Str}
    (hn : l.most = some n) (hn2 : n ≤ sizeLine) (hdf : d.params.defaults = []) (hr : Room k callerA)
    (hY : ∀ (w : World) (h : Heap), YP w h → (K w.params).In h)
    (F : ∀ (w : World) (mg : Str → Option Value) (fa : Addr) (h : Heap), (K w.params).In h → h.Ns mainGlobals mg → mg d.name = some (.ref fa) →
      ∃ fd : FuncData, (∀ (s : Shared) (u : Value), BindsTo s fd ⟨[u], []⟩ [(x, u)]) ∧
        ∀ base : Heap, (K w.params).In base → base.Ns mainGlobals mg → FnOk l.prog w (K w.params) mg base (CX w) k fa fd [x] (sp w))
    (hsp : ∀ (w : World) (H : Hp) (a : Addr) (ns : List Int), ns.length ≤ n → Only H → SqL (K w.params) H a (ns.map V.int) → sp w [.ref a] H (fun v _ => v = .bl true) fun _ _ _ => False)
    (hCX : ∀ (w : World) (H : Hp) (s : Shared) (e : Value) (s' : Shared), CX w [] H s (fun _ _ _ => False) e s' → False) :
    PySem.W.WalkO q loose XP YP l.row.toRowW d [] (fun f vs => PySem.call f vs) := by
  refine Att.attach_call hn hdf fun w s₀ s₁ mg mb fa o pm cd doc a vs ns G Y ho hd hcd hmg hobj hints hlen hg => ?_
  have KX := hY w _ Y
  obtain ⟨fd, hb, hF⟩ := F w mg fa _ KX G.T.g hmg
  exact law_call KX G.T.g G.T.b G.T.builtins G.T.nolimit hg hobj hints (Nat.le_trans hlen hn2) hr hF hb (fun H hO hS => hsp w H a ns hlen hO hS) fun H e s' => hCX w H s₁ e s'
theorem walk_ofK {l : PySem.W.OpenLaw} {n k : Nat} {q : Program} {loose : List Str} {XP : (Str → Option Value) → Heap → Prop} {YP : World → Heap → Prop} {d : DefRec} {K : Params → PySem.W.Frag} {CX : CXT} {sp : PySem.W.Frag → Sp} {x : Str}
    (hn : l.most = some n) (hn2 : n ≤ sizeLine) (hdf : d.params.defaults = []) (hr : Room k callerA)
    (hY : ∀ (w : World) (h : Heap), YP w h → (K w.params).In h)
    (F : ∀ (w : World) (mg : Str → Option Value) (fa : Addr) (h : Heap), (K w.params).In h → h.Ns mainGlobals mg → mg d.name = some (.ref fa) →
      ∃ fd : FuncData, (∀ (s : Shared) (u : Value), BindsTo s fd ⟨[u], []⟩ [(x, u)]) ∧
        ∀ base : Heap, (K w.params).In base → base.Ns mainGlobals mg → FnOk l.prog w (K w.params) mg base CX k fa fd [x] (sp (K w.params)))
    (hsp : ∀ (K : PySem.W.Frag) (H : Hp) (a : Addr) (ns : List Int), ns.length ≤ n → Only H → SqL K H a (ns.map V.int) → sp K [.ref a] H (fun v _ => v = .bl true) fun _ _ _ => False)
    (hCX : ∀ (H : Hp) (s : Shared) (e : Value) (s' : Shared), CX [] H s (fun _ _ _ => False) e s' → False) :
    PySem.W.WalkO q loose XP YP l.row.toRowW d [] (fun f vs => PySem.call f vs) :=
  walk_of (K := K) (CX := fun _ => CX) (sp := fun w => sp (K w.params)) hn hn2 hdf hr hY F (fun w H a ns h1 h2 h3 => hsp (K w.params) H a ns h1 h2 h3) fun _ H s e s' => hCX H s e s'
end L2
namespace L2
open PySem PySem.Spec PyProof.Rows
def inClass (s : Stmt) (j : Nat) : Stmt := match s with
  | .ClassDef _ _ _ body _ _ _ _ _ _ _ => body.getD j (.Pass ⟨0, 0, 0, 0⟩)
  | _ => .Pass ⟨0, 0, 0, 0⟩
def defArgs (s : Stmt) : Arguments := match s with
  | .FunctionDef _ a _ _ _ _ _ _ _ _ => a
  | _ => { posonlyargs := [], args := [], vararg := none, kwonlyargs := [], kw_defaults := [], kwarg := none, defaults := [] }
def defBody (s : Stmt) : List Stmt := match s with
  | .FunctionDef _ _ b _ _ _ _ _ _ _ => b
  | _ => []
def defScope (s : Stmt) : Scope := match s with
  | .FunctionDef _ _ _ _ _ _ sc _ _ _ => sc
  | _ => { kind := .function, names := [], isGenerator := false, isCoroutine := false }
abbrev CX0 : CXT := fun _ _ _ _ _ _ => False
abbrev E0 : XK := fun _ _ _ => False
theorem pass0 {X : Cx} : Passes CX0 X E0 := fun _ _ _ _ _ _ _ h => h.elim
structure Fun (K : PySem.W.Frag) (x qual : Str) (st : Stmt) (f : Addr) (fd : FuncData) : Prop where
  ex : ∃ (oc : Value) (od : Option Addr) (kV doc pm : Value) (an : Option Addr) (cdv ct : Value) (osl : Array (Option Value)),
    fd = PySem.W.fnOf x qual (defArgs st) (defBody st) (defScope st) .none kV doc pm an cdv ct ∧ K.lookup f = some ⟨oc, od, .func fd, osl⟩ ∧ PySem.W.codeIn K cdv qual = true
  kp : PySem.W.keepIn K (.ref f) = true
section
variable {P : Program} {w : World} {K : PySem.W.Frag} {mg : Str → Option Value} {base : Heap}
theorem Fun.ok {x qual : Str} {st : Stmt} {f : Addr} {fd : FuncData} {N ps : List Str} {k : Nat} {sp : Sp} (F : Fun K x qual st f fd) (S : FnScope N ps (defScope st)) (len : ∀ vs H Q E, sp vs H Q E → vs.length = ps.length)
    (hbody : ∀ (cdv : Value) (A : Around) (outer : List Env) (s : Shared) (H : Hp) (vs : List V) (Q : VK) (E : XK), Room k (A.deeper (envOfC qual (defScope st) s.heap.objs.size f cdv)) → sp vs H Q E →
      ∃ t, PSs (cxOf CX0 P w K mg base N qual (defScope st) f cdv A outer s H E).nox (defBody st) t ∧ t { nx := fun _ H' => Q .non H', rt := Q } (start N vs) H) : FnOk P w K mg base CX0 (k + 1) f fd ps sp := by
  obtain ⟨oc, od, kV, doc, pm, an, cdv, ct, osl, rfl, lk, hcd⟩ := F.ex
  refine fn_of lk hcd S len fun A outer s H vs Q E hr hsp => ?_
  obtain ⟨t, h, q⟩ := hbody cdv A outer s H vs Q E hr hsp
  exact ⟨t, h.nox, q⟩
theorem Fun.binds {x qual : Str} {st : Stmt} {f : Addr} {fd : FuncData} {ps : List Str} (F : Fun K x qual st f fd)
    (h : ∀ (kV doc pm : Value) (an : Option Addr) (cdv ct : Value) (us : List Value), us.length = ps.length → bindArgs (PySem.W.fnOf x qual (defArgs st) (defBody st) (defScope st) .none kV doc pm an cdv ct) ⟨us, []⟩ = pure (ps.zip us)) : Binds K fd ps [] := by
  obtain ⟨oc, od, kV, doc, pm, an, cdv, ct, osl, rfl, lk, hcd⟩ := F.ex
  exact .all (h kV doc pm an cdv ct)
theorem fun_mk {x qual : Str} {st : Stmt} {f : Addr} {oc : Value} {od an : Option Addr} {osl : Array (Option Value)} {kV doc pm cdv ct : Value} (l : K.lookup f = some ⟨oc, od, .func (PySem.W.fnOf x qual (defArgs st) (defBody st) (defScope st) .none kV doc pm an cdv ct), osl⟩)
    (c : PySem.W.codeIn K cdv qual = true) (k : PySem.W.keepIn K (.ref f) = true) : Fun K x qual st f (PySem.W.fnOf x qual (defArgs st) (defBody st) (defScope st) .none kV doc pm an cdv ct) := ⟨⟨oc, od, kV, doc, pm, an, cdv, ct, osl, rfl, l, c⟩, k⟩
end
section
variable {X : Cx}
end
theorem iteF {A B : Prop} (h : B) : if false = true then A else B := by
  rw [if_neg Bool.false_ne_true]
  exact h
theorem iteT {A B : Prop} (h : A) : if true = true then A else B := by
  rw [if_pos rfl]
  exact h
theorem ite2 {c A B : Prop} [Decidable c] (h1 : c → A) (h2 : ¬ c → B) : if c then A else B := by
  by_cases h : c
  · rw [if_pos h]
    exact h1 h
  · rw [if_neg h]
    exact h2 h
def Same (H H' : Hp) : Prop := ∀ b o, H b = some o → H' b = some o
theorem Same.refl (H : Hp) : Same H H := fun _ _ h => h
theorem Same.trans {H H1 H2 : Hp} (a : Same H H1) (b : Same H1 H2) : Same H H2 := fun c o h => b c o (a c o h)
theorem Same.seq {K : PySem.W.Frag} {H H' : Hp} {a : Addr} {xs : List V} (e : Same H H') (h : SqL K H a xs) : SqL K H' a xs := by
  rcases h with (h | ⟨o, h⟩) | h
  · exact .inl (.inl (e _ _ h))
  · exact .inl (.inr ⟨o, e _ _ h⟩)
  · exact .inr h
end L2
set_option Elab.async false
set_option linter.all false
set_option maxRecDepth 100000
set_option maxHeartbeats 4000000
namespace L2
open PySem PySem.Spec PyProof.Rows
def Its (x : Str) : It := ⟨fun i _ => i < x.cps.size, fun i H y H' => H' = H ∧ ∃ c, x.cps[i]? = some c ∧ y = .str ⟨#[c]⟩, fun i _ => x.cps.size ≤ i⟩
theorem turn_str {P : Program} {w : World} {K : PySem.W.Frag} {tg : Expr} (x : Str) (it : Addr) {ty : String} {t : Tok} (hty : ty = "str_ascii_iterator" ∨ ty = "str_iterator") :
    Turn P w K tg (Its x) [it] it (fun i h => h.IsStrIter it ty x t i) where
  mem := by simp
  obj := fun i h st b hb => by
    have e : b = it := by simpa using hb
    subst e
    obtain ⟨o, e, c, d⟩ := st
    exact ⟨o, e, fun v z => by rw [d] at z; cases z⟩
  keep := fun i h h' st k => by
    obtain ⟨o, e, r⟩ := st
    exact ⟨o, k it (by simp) o e, r⟩
  item := by
    intro X hP hw hK hc i pins s σ H E I hf st hg
    subst hP hw hK
    have hi : i < x.cps.size := hg
    obtain ⟨f0, f1, f2, f3, f4, f5⟩ := hf it (by simp)
    rcases hty with rfl | rfl
    · refine wpAny_pyNext_ascii_item st (c := x.cps[i]) (by simp [hi]) fun h' st' sb => ?_
      have I1 : Inv X pins σ H { s with heap := h', toks := s.toks + 1 } := I.turned (fun b o hb e => (sb.2 b hb).trans e) f0 f1 f3 f4 f5
      obtain ⟨o, e, c, d⟩ := id st'
      exact ⟨_, rfl, go_of (s := { s with heap := h', toks := s.toks + 1 }) e c d (by decide) ⟨.str ⟨#[x.cps[i]]⟩, H, I1, ⟨_, rfl⟩, ⟨rfl, x.cps[i], by simp [hi], rfl⟩, st', fun b hb => (hf b hb).1⟩⟩
    · refine wpAny_pyNext_wide_item st (c := x.cps[i]) (by simp [hi]) fun h' st' sb => ?_
      have I1 : Inv X pins σ H { s with heap := h', toks := s.toks + 1 } := I.turned (fun b o hb e => (sb.2 b hb).trans e) f0 f1 f3 f4 f5
      obtain ⟨o, e, c, d⟩ := id st'
      exact ⟨_, rfl, go_of (s := { s with heap := h', toks := s.toks + 1 }) e c d (by decide) ⟨.str ⟨#[x.cps[i]]⟩, H, I1, ⟨_, rfl⟩, ⟨rfl, x.cps[i], by simp [hi], rfl⟩, st', fun b hb => (hf b hb).1⟩⟩
  done := by
    intro X hP hw hK hc i pins s σ H E I hf st hg
    subst hP hw hK
    have hi : x.cps.size ≤ i := hg
    obtain ⟨f0, f1, f2, f3, f4, f5⟩ := hf it (by simp)
    rcases hty with rfl | rfl
    · exact wpAny_pyNext_ascii_end (I.ok.hd hc) st (by simp [hi]) fun h' eb => ⟨rfl, I.turned (t' := s.toks) (fun b o hb e => eb b o hb e) f0 f1 f3 f4 f5⟩
    · exact wpAny_pyNext_wide_end (I.ok.hd hc) st (by simp [hi]) fun h' eb => ⟨rfl, I.turned (t' := s.toks) (fun b o hb e => eb b o hb e) f0 f1 f3 f4 f5⟩
  self := fun _ _ _ _ _ st h => by
    rcases hty with rfl | rfl
    · exact wpAny_pyIter_striter_ascii st h
    · exact wpAny_pyIter_striter_wide st h
def iStr (tl : TE) : TI := fun σ H R => tl σ H fun x H1 => ∃ z, x = .str z ∧ R (Its z) H1
theorem pi_str {X : Cx} {tg l : Expr} {tl : TE} (hl : PE X l tl) : PI X tg l (iStr tl) := by
  intro pins s σ H R I h
  refine thn (hl pins s σ H _ I h) fun v s1 ⟨x, H1, I1, r1, q1⟩ => ?_
  obtain ⟨z, e, q⟩ := q1
  subst e
  obtain ⟨t, rfl⟩ := r1
  refine wpAny_pyIter_strU ?_
  refine ⟨s1.heap.objs.size, [s1.heap.objs.size], _, _, H1, rfl, I1.kept (t' := s1.toks) fun b o e => Heap.get?_push_of_some _ e, turn_str (ty := strIterType z) (t := t) z _ ?_, ⟨_, Heap.get?_push_size _ rfl, rfl, rfl⟩, fun b hb => ?_, q⟩
  · unfold strIterType
    split
    · exact .inl rfl
    · exact .inr rfl
  · have e : b = s1.heap.objs.size := by simpa using hb
    subst e
    exact I1.fpOk (Nat.le_refl _) (I1.hok.fresh (Nat.le_refl _))
end L2
set_option Elab.async false
set_option linter.all false
set_option maxRecDepth 100000
set_option maxHeartbeats 4000000
namespace L2
open PySem PySem.Spec PyProof.Rows
def Wk : St → St → Prop
  | [], [] => True
  | Option.none :: r, _ :: q => Wk r q
  | some a :: r, b :: q => b = some a ∧ Wk r q
  | _, _ => False
theorem Wk.len : ∀ {a b : St}, Wk a b → a.length = b.length
  | [], [], _ => rfl
  | Option.none :: r, _ :: q, h => congrArg (· + 1) (Wk.len (a := r) (b := q) h)
  | some _ :: r, _ :: q, h => congrArg (· + 1) (Wk.len (a := r) (b := q) h.2)
  | [], _ :: _, h => h.elim
  | Option.none :: _, [], h => h.elim
  | some _ :: _, [], h => h.elim
theorem Wk.get : ∀ {a b : St}, Wk a b → ∀ (i : Nat) v, a[i]? = some (some v) → b[i]? = some (some v)
  | [], [], _, i, v, e => by simp at e
  | Option.none :: r, y :: q, h, 0, v, e => by simp at e
  | Option.none :: r, y :: q, h, i + 1, v, e => by simpa using Wk.get (a := r) (b := q) h i v (by simpa using e)
  | some x :: r, y :: q, h, 0, v, e => by
    have e' : x = v := by simpa using e
    rw [h.1, e'] <;> simp
  | some x :: r, y :: q, h, i + 1, v, e => by simpa using Wk.get (a := r) (b := q) h.2 i v (by simpa using e)
  | [], _ :: _, h, _, _, _ => h.elim
  | Option.none :: _, [], h, _, _, _ => h.elim
  | some _ :: _, [], h, _, _, _ => h.elim
def clOf (cells : List (Str × Addr)) : List (Str × NameKind) → List (Str × Addr) → List (Str × Addr)
  | [], acc => acc
  | (n, k) :: r, acc => if k == .free then clOf cells r ((n, (cells.lookup n).getD 0) :: acc) else clOf cells r acc
theorem closureFor_clOf {sc : Scope} {env : Env} (h : ∀ y ∈ sc.names, y.2 = .free → ∃ c, env.cells.lookup y.1 = some c) : closureFor sc env = pure (clOf env.cells sc.names []) := by
  unfold closureFor
  have key : ∀ (l : List (Str × NameKind)) (acc : List (Str × Addr)), (∀ y ∈ l, y.2 = .free → ∃ c, env.cells.lookup y.1 = some c) →
      (forIn l acc fun x r => match x with | (name, kind) => if (kind == .free) = true then do let a ← cellOf env name; pure (ForInStep.yield ((name, a) :: r)) else pure (ForInStep.yield r) : Sem (List (Str × Addr))) = pure (clOf env.cells l acc) := by
    intro l
    induction l with
    | nil => intro acc _; rfl
    | cons y r ih =>
      intro acc hy
      obtain ⟨n, k⟩ := y
      have hr : ∀ y ∈ r, y.2 = .free → ∃ c, env.cells.lookup y.1 = some c := fun y hm => hy y (List.mem_cons_of_mem _ hm)
      rw [List.forIn_cons]
      by_cases hk : k = .free
      · subst hk
        obtain ⟨c, hc⟩ := hy (n, .free) List.mem_cons_self rfl
        have e1 : cellOf env n = pure c := by unfold cellOf; rw [hc]
        have e2 : clOf env.cells ((n, .free) :: r) acc = clOf env.cells r ((n, c) :: acc) := by
          show (if (NameKind.free == NameKind.free) = true then clOf env.cells r ((n, (env.cells.lookup n).getD 0) :: acc) else clOf env.cells r acc) = _
          rw [if_pos (by decide), hc]; rfl
        rw [e2, ← ih ((n, c) :: acc) hr]
        show (do let x ← (if (NameKind.free == NameKind.free) = true then do let a ← cellOf env n; pure (ForInStep.yield ((n, a) :: acc)) else pure (ForInStep.yield acc) : Sem _); _) = _
        rw [if_pos (by decide), e1]
        rfl
      · have hb : (k == NameKind.free) = false := by simpa using hk
        have e2 : clOf env.cells ((n, k) :: r) acc = clOf env.cells r acc := by
          show (if (k == NameKind.free) = true then clOf env.cells r ((n, (env.cells.lookup n).getD 0) :: acc) else clOf env.cells r acc) = _
          rw [hb]; rfl
        rw [e2, ← ih acc hr]
        show (do let x ← (if (k == NameKind.free) = true then do let a ← cellOf env n; pure (ForInStep.yield ((n, a) :: acc)) else pure (ForInStep.yield acc) : Sem _); _) = _
        rw [hb]
        rfl
  have := key sc.names [] h
  first | exact this | (rw [this]; rfl) | simpa using this
theorem clOf_lookup {cells : List (Str × Addr)} : ∀ {l : List (Str × NameKind)} {acc : List (Str × Addr)} {n : Str} {c : Addr}, (∀ y ∈ l, y.2 = .free → ∃ c, cells.lookup y.1 = some c) → (∀ n c, acc.lookup n = some c → cells.lookup n = some c) →
    (clOf cells l acc).lookup n = some c → cells.lookup n = some c
  | [], acc, n, c, _, ha, e => ha n c e
  | (m, k) :: r, acc, n, c, hl, ha, e => by
    have hr : ∀ y ∈ r, y.2 = .free → ∃ c, cells.lookup y.1 = some c := fun y hm => hl y (List.mem_cons_of_mem _ hm)
    have e' : (if (k == NameKind.free) = true then clOf cells r ((m, (cells.lookup m).getD 0) :: acc) else clOf cells r acc).lookup n = some c := e
    by_cases hk : (k == NameKind.free) = true
    · rw [if_pos hk] at e'
      refine clOf_lookup hr (fun n c z => ?_) e'
      obtain ⟨d, hd⟩ := hl (m, k) List.mem_cons_self (by simpa using hk)
      rw [List.lookup_cons] at z
      by_cases hn : (n == m) = true
      · rw [hn] at z
        have : n = m := by simpa using hn
        subst this
        have hd' : cells.lookup n = some d := hd
        rw [hd'] at z ⊢
        simpa using z
      · have hn' : (n == m) = false := by simpa using hn
        rw [hn'] at z
        exact ha n c z
    · rw [if_neg hk] at e'
      exact clOf_lookup hr ha e'
theorem clOf_some {cells : List (Str × Addr)} : ∀ {l : List (Str × NameKind)} {acc : List (Str × Addr)} {n : Str}, ((n, NameKind.free) ∈ l ∨ ∃ c, acc.lookup n = some c) → ∃ c, (clOf cells l acc).lookup n = some c
  | [], acc, n, h => by
    rcases h with h | h
    · cases h
    · exact h
  | (m, k) :: r, acc, n, h => by
    show ∃ c, (if (k == NameKind.free) = true then clOf cells r ((m, (cells.lookup m).getD 0) :: acc) else clOf cells r acc).lookup n = some c
    have hcons : ∀ a, n = m ∨ (∃ c, acc.lookup n = some c) → ∃ c, ((m, a) :: acc).lookup n = some c := fun a z => by
      rw [List.lookup_cons]
      by_cases hn : (n == m) = true
      · rw [hn]; exact ⟨_, rfl⟩
      · have hn' : (n == m) = false := by simpa using hn
        rw [hn']
        rcases z with z | z
        · exact absurd (by simpa using z) hn
        · exact z
    by_cases hk : (k == NameKind.free) = true
    · rw [if_pos hk]
      refine clOf_some ?_
      rcases h with h | h
      · rcases List.mem_cons.mp h with e | h
        · exact .inr (hcons _ (.inl (congrArg Prod.fst e)))
        · exact .inl h
      · exact .inr (hcons _ (.inr h))
    · rw [if_neg hk]
      refine clOf_some ?_
      rcases h with h | h
      · rcases List.mem_cons.mp h with e | h
        · have : k = .free := (congrArg Prod.snd e).symm
          rw [this] at hk
          exact absurd (by decide) hk
        · exact .inl h
      · exact .inr h
def rlb (env : Env) (p : Str × NameKind) : Str × NameKind := if (p.2 == NameKind.free && env.scope.kind == ScopeKind.function && env.kindOf p.1 == some NameKind.cell) = true then (p.1, NameKind.cell) else p
theorem relabel_names (sc : Scope) (env : Env) : (relabel sc env).names = sc.names.map (rlb env) := rfl
theorem rlb_fst (env : Env) (p : Str × NameKind) : (rlb env p).1 = p.1 := by
  unfold rlb
  split <;> rfl
theorem rlb_free {env : Env} {p : Str × NameKind} (h : p.2 ≠ .cell) (h2 : (rlb env p).2 = .cell ∨ (rlb env p).2 = .free) : p.2 = .free := by
  unfold rlb at h2
  split at h2
  · rename_i q
    rw [Bool.and_eq_true, Bool.and_eq_true] at q
    simpa using q.1.1
  · rcases h2 with h2 | h2
    · exact absurd h2 h
    · exact h2
theorem relabel_free' {env : Env} : ∀ {names : List (Str × NameKind)} {x : Str} {k : NameKind}, (∀ y ∈ names, y.2 ≠ .cell) → (k = .cell ∨ k = .free) → (names.map (rlb env)).lookup x = some k → (x, NameKind.free) ∈ names
  | [], x, k, _, _, e => by simp at e
  | p :: r, x, k, hc, hk, e => by
    have hr : ∀ y ∈ r, y.2 ≠ .cell := fun y hm => hc y (List.mem_cons_of_mem _ hm)
    have e0 : rlb env p = (p.1, (rlb env p).2) := by rw [← rlb_fst env p]
    rw [List.map_cons, e0, List.lookup_cons] at e
    by_cases hx : x = p.1
    · have hb : (x == p.1) = true := by simpa using hx
      rw [hb] at e
      have e2 : (rlb env p).2 = k := Option.some.inj e
      have hj := rlb_free (env := env) (hc p List.mem_cons_self) (by rw [e2]; exact hk)
      have : (x, NameKind.free) = p := by rw [hx, ← hj]
      rw [this]
      exact List.mem_cons_self
    · have hb : (x == p.1) = false := by simpa using hx
      rw [hb] at e
      exact List.mem_cons_of_mem _ (relabel_free' hr hk e)
theorem relabel_free {env : Env} {sc : Scope} {x : Str} {k : NameKind} (hc : ∀ y ∈ sc.names, y.2 ≠ .cell) (hk : k = .cell ∨ k = .free) (e : (relabel sc env).names.lookup x = some k) : (x, NameKind.free) ∈ sc.names :=
  relabel_free' (env := env) hc hk (by rw [← relabel_names]; exact e)
def blkS (ix : List (Option Nat)) (σ : St) : St := ix.map fun o => o.bind fun i => (σ[i]?).join
def FreeOk (XN : List Str) (env : Env) (sc : Scope) : List Str → List (Option Nat) → Prop
  | [], [] => True
  | _ :: N, Option.none :: ix => FreeOk XN env sc N ix
  | y :: N, some i :: ix => XN[i]? = some y ∧ env.kindOf y = some .cell ∧ (relabel sc env).names.lookup y = some .cell ∧ FreeOk XN env sc N ix
  | _, _ => False
theorem FreeOk.len {XN : List Str} {env : Env} {sc : Scope} : ∀ {N : List Str} {ix : List (Option Nat)}, FreeOk XN env sc N ix → ix.length = N.length
  | [], [], _ => rfl
  | _ :: N, Option.none :: ix, h => congrArg (· + 1) (FreeOk.len (N := N) (ix := ix) h)
  | _ :: N, some _ :: ix, h => congrArg (· + 1) (FreeOk.len (N := N) (ix := ix) h.2.2.2)
  | [], _ :: _, h => h.elim
  | _ :: _, [], h => h.elim
theorem FreeOk.get {XN : List Str} {env : Env} {sc : Scope} : ∀ {N : List Str} {ix : List (Option Nat)}, FreeOk XN env sc N ix → ∀ (j : Nat) (y : Str) (i : Nat), N[j]? = some y → ix[j]? = some (some i) →
    XN[i]? = some y ∧ env.kindOf y = some .cell ∧ (relabel sc env).names.lookup y = some .cell
  | [], [], _, j, y, i, e, _ => by simp at e
  | _ :: N, Option.none :: ix, h, 0, y, i, e, e2 => by simp at e2
  | _ :: N, Option.none :: ix, h, j + 1, y, i, e, e2 => FreeOk.get (N := N) (ix := ix) h j y i (by simpa using e) (by simpa using e2)
  | z :: N, some k :: ix, h, 0, y, i, e, e2 => by
    have e' : z = y := by simpa using e
    have e2' : k = i := by simpa using e2
    subst e'; subst e2'
    exact ⟨h.1, h.2.1, h.2.2.1⟩
  | _ :: N, some _ :: ix, h, j + 1, y, i, e, e2 => FreeOk.get (N := N) (ix := ix) h.2.2.2 j y i (by simpa using e) (by simpa using e2)
  | [], _ :: _, h, _, _, _, _, _ => h.elim
  | _ :: _, [], h, _, _, _, _, _ => h.elim
def cxB (X : Cx) (sc : Scope) (C : Addr) (N : List Str) (s₀ : Shared) (H₀ : Hp) (fp : List Addr) : Cx :=
  { X with N := N, s₀ := s₀, H₀ := H₀, env := compEnvC sc (clOf X.env.cells sc.names []) C X.env, outer := X.stack, ex := fp, fn := fun _ => false, pn := [], xe := fun _ _ => False }
structure CompOk (X : Cx) (sc : Scope) (N : List Str) (ix : List (Option Nat)) : Prop where
  kind : sc.kind = .function
  nocell : (sc.names.all fun y => y.2 != .cell) = true
  names : (sc.names.all fun y => y.2 != .local || sc.names.lookup y.1 == some .local) = true
  free : (sc.names.all fun y => y.2 != .free || X.env.scope.names.lookup y.1 == some .cell) = true
  fr : FreeOk X.N X.env sc N ix
section
variable {X : Cx} {sc : Scope} {N : List Str} {ix : List (Option Nat)} {pins : List (Addr × Obj)} {σ : St} {H : Hp} {s : Shared}
theorem CompOk.cells (c : CompOk X sc N ix) (ok : X.Ok) : ∀ y ∈ sc.names, y.2 = .free → ∃ c, X.env.cells.lookup y.1 = some c := fun y hy e => by
  have h := List.all_eq_true.mp c.free y hy
  rw [e] at h
  have h' : X.env.scope.names.lookup y.1 = some .cell := by simpa using h
  exact ok.has y.1 (.inl h')
theorem CompOk.nc (c : CompOk X sc N ix) : ∀ y ∈ sc.names, y.2 ≠ .cell := fun y hy => by simpa using List.all_eq_true.mp c.nocell y hy
theorem CompOk.nm (c : CompOk X sc N ix) : ∀ y ∈ sc.names, y.2 = .local → sc.names.lookup y.1 = some .local := fun y hy e => by
  have h := List.all_eq_true.mp c.names y hy
  rw [e] at h
  simpa using h
theorem inv_block {C : Addr} {fp : List Addr} {h₁ : Heap} {t' : Nat} (c : CompOk X sc N ix) (I : Inv X pins σ H s) (hf : ∀ b ∈ fp, FpOk X pins H b) (hfp : ∀ b ∈ fp, b < s.heap.objs.size) (hC : s.heap.objs.size ≤ C)
    (hn : h₁.Ns C (fun _ => none)) (old : ∀ b o, s.heap.get? b = some o → h₁.get? b = some o) : Inv (cxB X sc C N s H fp) [] (blkS ix σ) H { s with heap := h₁, toks := t' } := by
  have hcells := c.cells I.ok
  have sub : ∀ n c, (clOf X.env.cells sc.names []).lookup n = some c → X.env.cells.lookup n = some c := fun n c e => clOf_lookup hcells (fun n c z => by simp at z) e
  refine ⟨⟨I.ok.mod, c.kind, I.ok.glob, I.ok.blt, hC, fun x y d h1 h2 => I.ok.inj x y d (sub x d h1) (sub y d h2), fun x hx => ?_, fun x d z => absurd z (by simp [cxB]), I.ok.hd, I.ok.frames, .inl rfl, fun b hb => ⟨?_, fun x d e => ?_⟩, I.bs, Nat.le_trans I.ok.bsz I.sz, fun b o e hb => ?_, fun b hb hs => ?_, I.stack, I.stkFree⟩,
    rfl, I.bare, Un.kept old, ⟨_, hn, fun j y v e1 e2 e3 => ?_⟩, fun x d e => ?_, I.hok.fresh hC, fun x d e => I.freeC x d (sub x d e), fun p hp => absurd (show p ∈ ([] : List (Addr × Obj)) from hp) (by simp), I.hok.kept old, ?_⟩
  · refine clOf_some (.inl ?_)
    rcases hx with hx | hx
    · exact relabel_free c.nc (.inl rfl) (show (relabel sc X.env).names.lookup x = some .cell from hx)
    · exact relabel_free c.nc (.inr rfl) (show (relabel sc X.env).names.lookup x = some .free from hx)
  · exact Nat.ne_of_lt (Nat.lt_of_lt_of_le (hfp b hb) hC)
  · exact (hf b hb).2.2.2.2.1 x d (sub x d e)
  · rcases (hf b hb).2.2.2.1 with z | z
    · exact I.ok.noex b o e z
    · exact absurd (Nat.lt_of_lt_of_le (Heap.lt_size e) (Nat.le_trans I.ok.bsz z)) (Nat.lt_irrefl _)
  · rcases List.mem_cons.mp (I.stkSub b hs) with z | z
    · exact (hf b hb).2.1 z
    · exact (hf b hb).2.2.1 z
  · have hj : ∃ i, ix[j]? = some (some i) ∧ σ[i]? = some (some v) := by
      unfold blkS at e2
      rw [List.getElem?_map] at e2
      cases q : ix[j]? with
      | none => rw [q] at e2; cases e2
      | some o =>
        rw [q] at e2
        cases o with
        | none => cases e2
        | some i =>
          refine ⟨i, rfl, ?_⟩
          have e2' : (σ[i]?).join = some v := Option.some.inj e2
          cases q2 : σ[i]? with
          | none => rw [q2] at e2'; cases e2'
          | some w => rw [q2] at e2'; exact congrArg some e2'
    obtain ⟨i, hi, hv⟩ := hj
    obtain ⟨k1, k2, k3⟩ := c.fr.get j y i e1 hi
    obtain ⟨m, hm, hl⟩ := I.loc
    obtain ⟨u, r, l⟩ := hl i y v k1 hv (.inr (.inl k2))
    refine ⟨u, r, ?_⟩
    rcases l with ⟨z, _⟩ | ⟨_, d, hd, hcell⟩
    · rw [k2] at z; cases z
    · obtain ⟨d', hd'⟩ : ∃ d', (clOf X.env.cells sc.names []).lookup y = some d' := clOf_some (.inl (relabel_free c.nc (.inl rfl) k3))
      have := sub y d' hd'
      rw [hd] at this
      cases this
      exact .inr ⟨.inl k3, d, hd', hcell.keeps old⟩
  · obtain ⟨v, z⟩ := I.cell x d (sub x d e)
    exact ⟨v, z.keeps old⟩
  · show (blkS ix σ).length = N.length
    unfold blkS
    rw [List.length_map, c.fr.len]
theorem inv_unblock {C : Addr} {fp : List Addr} {pins' : List (Addr × Obj)} {σ' : St} {H' : Hp} {s' : Shared} (I : Inv X pins σ H s) (hf : ∀ b ∈ fp, FpOk X pins H b) (J : Inv (cxB X sc C N s H fp) pins' σ' H' s') : Inv X pins σ H' s' := by
  refine I.call' (ch := fp) J.os J.base J.hok J.bare fun b hb => ?_
  obtain ⟨f0, f1, f2, f3, f4, f5⟩ := hf b hb
  exact ⟨f3, f1, f4, f5⟩
end
def PTs (X : Cx) (ifs : List Expr) (t : TT) : Prop :=
  ∀ (pins : List (Addr × Obj)) (s : Shared) (σ : St) (H : Hp) (Q : Bool → Hp → Prop), Inv X pins σ H s → t σ H Q →
    wpAny (model X.prog X.w) X.A (forIn ifs true fun c r => if r = true then do let ok ← isTrue c X.env (eval c X.env); pure (ForInStep.yield ok) else pure (ForInStep.yield r)) (TP X pins σ Q) X.xe s
def tAll : TT := fun _ H Q => Q true H
theorem pts_nil {X : Cx} : PTs X [] tAll := fun _ _ _ H _ I h => wpAny_tests_nil ⟨H, I, h⟩
def CompW (J : It) (D : Addr) (σb : St) (g : TG) (tt : TT) (te : TE) (Q : Hp → List V → Prop) (W : Nat → Nat → List V → Hp → Prop) : Prop :=
  ∀ i m ys H, W i m ys H → H D = some (.lst ys) ∧ ((J.stop i H ∧ Q H ys) ∨ (J.go i H ∧ ∀ x H3, J.yld i H x H3 → g x σb H3 fun σ4 H4 => Wk σb σ4 ∧ tt σ4 H4 fun b H5 =>
    if b = true then te σ4 H5 fun y H6 => H6 D = some (.lst ys) ∧ ys.length < sizeLine ∧ ∃ m', m' < m ∧ W (i + 1) m' (ys ++ [y]) (upd H6 D (.lst (ys ++ [y]))) else ∃ m', m' < m ∧ W (i + 1) m' ys H5))
def tComp (ix : List (Option Nat)) (wi : TI) (g : TG) (tt : TT) (te : TE) : TE := fun σ H Q => wi σ H fun J H1 => ∀ D, H1 D = none → ∃ W, (∃ m, W 0 m [] (upd H1 D (.lst []))) ∧ CompW J D (blkS ix σ) g tt te (fun H _ => Q (.ref D) H) W
section
variable {X : Cx} {sc : Scope} {N : List Str} {ix : List (Option Nat)} {elt tg iter : Expr} {ifs : List Expr} {pos : Pos} {wi : TI} {g : TG} {tt : TT} {te : TE}
structure Blk (X : Cx) (sc : Scope) (N : List Str) (tg elt : Expr) (ifs : List Expr) (g : TG) (tt : TT) (te : TE) : Prop where
  tg : ∀ C s H fp, PG (cxB X sc C N s H fp) tg g
  tests : ∀ C s H fp, PTs (cxB X sc C N s H fp) ifs tt
  elt : ∀ C s H fp, PE (cxB X sc C N s H fp) elt te
theorem comp_loop {J : It} {fp : List Addr} {it D : Addr} {tn : Nat → Heap → Prop} {σb : St} {Q : Hp → List V → Prop} {R : Result → Shared → Prop} {W : Nat → Nat → List V → Hp → Prop}
    (hc : X.calm = true) (hxe : X.xe = fun _ _ => False) (T : Turn X.prog X.w X.K tg J fp it tn) (hg : PG X tg g) (ht : PTs X ifs tt) (he : PE X elt te) (turn : CompW J D σb g tt te Q W)
    (stat : ∀ {H' : Hp}, (∀ b ∈ fp, H' b = none) → ∀ b ∈ fp, FpOk X [] H' b)
    (fin : ∀ {σ' : St} {H' : Hp} {s' : Shared} {ys : List V}, Inv X [] σ' H' s' → Q H' ys → R (.ok .next) s')
    {m0 i0 : Nat} {ys0 : List V} {H0 : Hp} {s0 : Shared} (I0 : Inv X [] σb H0 s0) (st0 : tn i0 s0.heap) (fr0 : ∀ b ∈ fp, H0 b = none) (w0 : W i0 m0 ys0 H0) :
    codeAny (model X.prog X.w) X.A (.compLoop (.ListComp elt [⟨tg, iter, ifs, 0⟩] sc pos) 0 (.ref it) (.ref D) X.env) R s0 := by
  have noE : ∀ {E' : Value → Shared → Prop} (e : Value) (s' : Shared), X.xe e s' → E' e s' := fun {E'} e s' z => by rw [hxe] at z; exact z.elim
  refine codeAny_loop rfl (fun n s' => ∃ i ys H', Inv X [] σb H' s' ∧ tn i s'.heap ∧ (∀ b ∈ fp, H' b = none) ∧ W i n ys H') ?_ m0 ⟨i0, ys0, H0, I0, st0, fr0, w0⟩
  rintro n s3 ⟨i, ys, H3, I3, st3, fr3, w3⟩
  show wpAny _ X.A ((compTurn (.ListComp elt [⟨tg, iter, ifs, 0⟩] sc pos) 0 (.ref it) (.ref D) X.env).onRaise (fun x => do noteFrame x X.env; theTreesLotGoes x)) _ _ s3
  refine wpAny_noted ?_
  rw [compTurn_list]
  refine wpAny_bind (wpAny_standAt (wpAny_bind ?_))
  obtain ⟨hDl, next⟩ := turn i n ys H3 w3
  rcases next with ⟨stop, q⟩ | ⟨go, step⟩
  · refine thn (T.done X rfl rfl rfl hc i [] s3 σb H3 _ I3 (stat fr3) st3 stop) fun r s4 ⟨hr, I4⟩ => ?_
    subst hr
    exact wpAny_pure (fin I4 q)
  · refine thn (T.item X rfl rfl rfl hc i [] s3 σb H3 _ I3 (stat fr3) st3 go) fun r s4 ⟨u, hr, h4⟩ => ?_
    subst hr
    refine wpAny_bind (thn h4 fun _ s5 ⟨x, H5, I5, r5, y5, st5, fr5⟩ => ?_)
    have I5' := I5.pinned (stat fr5) (T.obj _ _ st5)
    have back : ∀ {σ' : St} {H' : Hp} {s' : Shared}, Inv X ([] ++ pinsAt fp s5.heap) σ' H' s' → Wk σb σ' → Inv X [] σb H' s' ∧ tn (i + 1) s'.heap ∧ ∀ b ∈ fp, H' b = none := fun {σ' H' s'} I7 wk => by
      refine ⟨(I7.unpinned).weak wk.len wk.get, T.keep _ _ _ st5 fun b hb o e => (I7.pin (b, o) (List.mem_append_right _ (List.mem_append_right _ (mem_pinsAt hb e)))).1, fun b hb => ?_⟩
      obtain ⟨o, e, d⟩ := T.obj _ _ st5 b hb
      exact (I7.pin (b, o) (List.mem_append_right _ (List.mem_append_right _ (mem_pinsAt hb e)))).2.1
    refine wpAny_bind (wpAny_mono (hg _ s5 σb H5 x u _ I5' r5 (step x H5 y5)) (fun _ s6 ⟨σ6, H6, I6, wk, q6⟩ => ?_) noE)
    refine wpAny_bind (wpAny_mono (ht _ s6 σ6 H6 _ I6 q6) (fun ok s7 ⟨H7, I7, q7⟩ => ?_) noE)
    cases ok with
    | false =>
      obtain ⟨m', hm, w7⟩ := q7
      obtain ⟨b1, b2, b3⟩ := back I7 wk
      exact wpAny_pure ⟨rfl, m', hm, i + 1, ys, H7, b1, b2, b3, w7⟩
    | true =>
      refine wpAny_bind (wpAny_bind (wpAny_mono (he _ s7 σ6 H7 _ I7 q7) (fun v s8 ⟨y, H8, I8, r8, hD8, hl8, m', hm, w8⟩ => ?_) noE))
      refine wpAny_bind (wpAny_mono (mt_append _ s8 σ6 H8 (.ref D) [y] (.ref D) [v] (fun _ H9 => H9 = upd H8 D (.lst (ys ++ [y]))) I8 rfl (.cons r8 .nil) ⟨D, ys, y, rfl, rfl, hD8, hl8, rfl⟩) (fun _ s9 ⟨z, H9, I9, _, e9⟩ => ?_) noE)
      subst e9
      obtain ⟨b1, b2, b3⟩ := back I9 wk
      exact wpAny_pure (wpAny_pure ⟨rfl, m', hm, i + 1, ys ++ [y], _, b1, b2, b3, w8⟩)
theorem comp_core {pins : List (Addr × Obj)} {σ : St} {H : Hp} {s : Shared} {E : Value → Shared → Prop} {RR : Value → Addr → Result → Shared → Prop} {it : Addr} {fp : List Addr} {tn : Nat → Heap → Prop} {J : It} {Q : Addr → Hp → List V → Prop}
    (hc : X.calm = true) (c : CompOk X sc N ix) (B : Blk X sc N tg elt ifs g tt te) (I : Inv X pins σ H s) (T : Turn X.prog X.w X.K tg J fp it tn) (st : tn 0 s.heap) (hf : ∀ b ∈ fp, FpOk X pins H b)
    (h : ∀ D, H D = none → ∃ W, (∃ m, W 0 m [] (upd H D (.lst []))) ∧ CompW J D (blkS ix σ) g tt te (Q D) W)
    (hR : ∀ D C H' s' ys, Inv X pins σ H' s' → FpOk X pins H' C → (∃ m, s'.heap.Ns C m) → Q D H' ys → RR (.ref D) C (.ok .next) s') :
    wpAny (model X.prog X.w) X.A (newList []) (fun acc s₃ => wpAny (model X.prog X.w) X.A (newFunctionEnv sc X.env.globals (clOf X.env.cells sc.names []) [] X.env.qual none .none (some X.env)) (fun cenv s₄ =>
      codeAny (model X.prog X.w) X.A (.compStart (.ListComp elt [⟨tg, iter, ifs, 0⟩] sc pos) 0 (.ref it) acc { cenv with scope := relabel sc X.env }) (RR acc cenv.locals) s₄) E s₃) E s := by
  have hlt : ∀ b ∈ fp, b < s.heap.objs.size := fun b hb => let ⟨o, e, _⟩ := T.obj _ _ st b hb; Heap.lt_size e
  refine wpAny_newObj_type ?_ (by show 0 ≤ sizeLine; exact Nat.zero_le _)
  have hD : H s.heap.objs.size = none := I.hok.fresh (Nat.le_refl _)
  obtain ⟨W, ⟨m0, w0⟩, turn⟩ := h s.heap.objs.size hD
  have I1 : Inv X pins σ (upd H s.heap.objs.size (.lst [])) { s with heap := s.heap.push { cls := .type "list", data := .seq ([] : List Value).toArray } } := I.lnew (t' := s.toks) (its := []) .nil (Nat.zero_le _)
  have k1 : ∀ b o, s.heap.get? b = some o → (s.heap.push { cls := .type "list", data := .seq ([] : List Value).toArray }).get? b = some o := fun b o e => Heap.get?_push_of_some _ e
  have hne : ∀ b ∈ fp, b ≠ s.heap.objs.size := fun b hb => Nat.ne_of_lt (hlt b hb)
  have hf1 : ∀ b ∈ fp, FpOk X pins (upd H s.heap.objs.size (.lst [])) b := fun b hb => ⟨by rw [upd_ne (hne b hb)]; exact (hf b hb).1, (hf b hb).2⟩
  have st1 : tn 0 (s.heap.push { cls := .type "list", data := .seq ([] : List Value).toArray }) := T.keep _ _ _ st fun b _ o e => k1 b o e
  generalize hs1 : ({ s with heap := s.heap.push { cls := .type "list", data := .seq ([] : List Value).toArray } } : Shared) = s1 at I1
  have hs1h : s1.heap = s.heap.push { cls := .type "list", data := .seq ([] : List Value).toArray } := by rw [← hs1]
  generalize hDe : s.heap.objs.size = D at *
  show wpAny _ _ _ _ _ s1
  refine wpAny_newFunctionEnv c.nc (by intro y hy; simp at hy) (fun h₁ hns₁ hsb₁ => ?_) c.kind
  have old : ∀ b o, s1.heap.get? b = some o → h₁.get? b = some o := fun b o e => (hsb₁.2 b (Nat.ne_of_lt (Heap.lt_size e))).trans (Heap.get?_push_of_some _ e)
  have hlt1 : ∀ b ∈ fp, b < s1.heap.objs.size := fun b hb => by
    obtain ⟨o, e, _⟩ := T.obj _ _ st1 b hb
    rw [hs1h]
    exact Heap.lt_size e
  have J0 := inv_block (h₁ := h₁) (t' := s1.toks + ([] : List (Str × Value)).length) c I1 hf1 hlt1 (Nat.le_refl _) (by simpa using hns₁) old
  have stB : tn 0 h₁ := T.keep _ _ _ (by rw [hs1h]; exact st1 : tn 0 s1.heap) fun b _ o e => old b o e
  have fpB : ∀ {H' : Hp}, (∀ b ∈ fp, H' b = none) → ∀ b ∈ fp, FpOk (cxB X sc s1.heap.objs.size N s1 (upd H D (.lst [])) fp) [] H' b := fun {H'} hn b hb => by
    obtain ⟨f0, f1, f2, f3, f4, f5⟩ := hf1 b hb
    refine ⟨hn b hb, Nat.ne_of_lt (hlt1 b hb), ?_, .inl hb, fun x d e => f4 x d (clOf_lookup (c.cells I.ok) (fun n c z => by simp at z) e), fun p hp => absurd (show p ∈ ([] : List (Addr × Obj)) from hp) (by simp)⟩
    intro z
    rcases List.mem_cons.mp (I1.stkSub b z) with q | q
    · exact f1 q
    · exact f2 q
  have fin : ∀ {σ' : St} {H' : Hp} {s' : Shared} {ys : List V}, Inv (cxB X sc s1.heap.objs.size N s1 (upd H D (.lst [])) fp) [] σ' H' s' → Q D H' ys → RR (.ref D) s1.heap.objs.size (.ok .next) s' := fun {σ' H' s' ys} J q =>
    hR D _ H' s' ys (inv_unblock I1 hf1 J) (I1.fpOk (Nat.le_refl _) J.free) (let ⟨m, hn, _⟩ := J.loc; ⟨m, hn⟩) q
  have loop : codeAny (model X.prog X.w) X.A (.compLoop (.ListComp elt [⟨tg, iter, ifs, 0⟩] sc pos) 0 (.ref it) (.ref D) (cxB X sc s1.heap.objs.size N s1 (upd H D (.lst [])) fp).env) (RR (.ref D) s1.heap.objs.size) { s1 with heap := h₁, toks := s1.toks + ([] : List (Str × Value)).length } :=
    comp_loop (X := cxB X sc s1.heap.objs.size N s1 (upd H D (.lst [])) fp) hc rfl T (B.tg _ _ _ _) (B.tests _ _ _ _) (B.elt _ _ _ _) turn fpB fin J0 stB (fun b hb => (hf1 b hb).1) w0
  exact codeAny_compStart_list loop (T.self _ 0 _ _ _ stB loop)
theorem pe_comp (hc : X.calm = true) (c : CompOk X sc N ix) (hi : PI X tg iter wi) (B : Blk X sc N tg elt ifs g tt te) (hs : ∀ x, foldedSetIterable iter X.env x = pure x := by intro _; rfl) : PE X (.ListComp elt [⟨tg, iter, ifs, 0⟩] sc pos) (tComp ix wi g tt te) := by
  intro pins s σ H Q I h
  rw [eval_ListComp]
  refine wpAny_comprehension_free (use := none) rfl hs (closureFor_clOf (c.cells I.ok)) c.kind c.nm (thn (hi pins s σ H _ I h) fun xv s₁ h₁ => thn h₁ fun itv s₂ h₂ => ?_)
  obtain ⟨it, fp, tn, J, H2, e, I2, T, st2, f2, q2⟩ := h₂
  subst e
  refine comp_core (RR := fun acc C => compPost (model X.prog X.w) X.A X.xe none (EP X pins σ Q) acc C) (Q := fun D H _ => Q (.ref D) H) hc c B I2 T st2 f2 q2 ?_
  intro D C H' s' ys I' fC ns q
  refine ⟨_, ns.choose_spec, fun h' sb => ⟨.ref D, H', ?_, rfl, q⟩⟩
  obtain ⟨f0, f1, f2, f3, f4, f5⟩ := fC
  exact I'.turned (t' := s'.toks) (fun b o hb e => (sb.2 b hb).trans e) f0 f1 f3 f4 f5
end
end L2
set_option Elab.async false
set_option linter.all false
set_option maxRecDepth 100000
namespace L2
open PySem PySem.Spec PyProof.Rows
section
variable {κ : Type} [DecidableEq κ]
def valV (kvs : List (κ × V)) (k : κ) : Option V := (kvs.find? fun kv => decide (kv.1 = k)).map (·.2)
def putK (kvs : List (κ × V)) (k : κ) (v : V) : List (κ × V) :=
  if (kvs.any fun kv => decide (kv.1 = k)) = true then kvs.map (fun kv => if kv.1 = k then (kv.1, v) else kv) else kvs ++ [(k, v)]
def dropK (kvs : List (κ × V)) (k : κ) : List (κ × V) := kvs.filter fun kv => decide (kv.1 ≠ k)
end
abbrev KT (H : Hp) : List (List Key × V) → List (List Key × Addr × Value) → Prop := Paired fun p q => p.1 = q.1 ∧ H q.2.1 = some (.tup (p.1.map kV)) ∧ RelV p.2 q.2.2
section
variable {P : Program} {w : World} {H : Hp} {h : Heap} {a : Addr}
end
def DGet (H : Hp) (a : Addr) (y : V) (r : Option V) : Prop :=
  (∃ kvs k, Rd H a (.dK kvs) ∧ y = kV k ∧ r = valV kvs k) ∨ ∃ kvs k b, Rd H a (.dT kvs) ∧ y = .ref b ∧ H b = some (.tup (k.map kV)) ∧ r = valV kvs k
def DPut (H : Hp) (a : Addr) (y v : V) (H' : Hp) : Prop :=
  (∃ kvs k, H a = some (.dK kvs) ∧ y = kV k ∧ kvs.length < sizeLine ∧ H' = upd H a (.dK (putK kvs k v))) ∨
  ∃ kvs k b, H a = some (.dT kvs) ∧ y = .ref b ∧ H b = some (.tup (k.map kV)) ∧ kvs.length < sizeLine ∧ H' = upd H a (.dT (putK kvs k v))
theorem DGet.k {H : Hp} {a : Addr} {kvs : List (Key × V)} {k : Key} (e : H a = some (.dK kvs)) : DGet H a (kV k) (valV kvs k) := .inl ⟨kvs, k, .inl e, rfl, rfl⟩
theorem DPut.k {H : Hp} {a : Addr} {kvs : List (Key × V)} {k : Key} {v : V} (e : H a = some (.dK kvs)) (hl : kvs.length < sizeLine) : DPut H a (kV k) v (upd H a (.dK (putK kvs k v))) := .inl ⟨kvs, k, e, rfl, hl, rfl⟩
section
variable {X : Cx} {pins : List (Addr × Obj)} {σ : St} {H : Hp} {s : Shared} {a : Addr} {y v : V} {u r : Value} {o : Option V} {A : Around} {E : Value → Shared → Prop}
theorem Inv.big (I : Inv X pins σ H s) : sysModules < s.heap.objs.size := by
  have h : mainGlobals < s.heap.objs.size := (I.mod.glob.keeps I.bk).lt
  exact Nat.lt_trans (by decide) h
end
section
variable {X : Cx} {pins : List (Addr × Obj)} {σ : St} {H : Hp} {s : Shared} {a : Addr} {kvs : List (Key × V)} {k : Key} {u : Value} {A : Around} {E : Value → Shared → Prop}
end
def NoSl (i : Expr) : Prop := ∀ ov iv, subscripted i false ov iv = operate [ov, iv] (getItem ov iv)
inductive rDGet (x y : V) (H : Hp) (Q : VK) : Prop
  | mk (a : Addr) (v : V) (h0 : x = .ref a) (h1 : DGet H a y (some v)) (h2 : Q v H) : rDGet x y H Q
def tDGet (td ty : TE) : TE := fun σ H Q => td σ H fun x H1 => ty σ H1 fun y H2 => rDGet x y H2 Q
def tDIn (ty td : TE) : TE := fun σ H Q => ty σ H fun y H1 => td σ H1 fun x H2 => ∃ a o, x = .ref a ∧ DGet H2 a y o ∧ Q (.bl o.isSome) H2
def tDNotIn (ty td : TE) : TE := fun σ H Q => ty σ H fun y H1 => td σ H1 fun x H2 => ∃ a o, x = .ref a ∧ DGet H2 a y o ∧ Q (.bl (!o.isSome)) H2
def sDPut (td ty tv : TE) : TS := fun D σ H => tv σ H fun v H1 => td σ H1 fun x H2 => ty σ H2 fun y H3 => ∃ a H4, x = .ref a ∧ DPut H3 a y v H4 ∧ D.nx σ H4
def sDAug (td ty tv : TE) (rd : V → V → Hp → VK → Prop) : TS := fun D σ H => td σ H fun x H1 => ty σ H1 fun y H2 => ∃ a v, x = .ref a ∧ DGet H2 a y (some v) ∧
  tv σ H2 fun y2 H3 => rd v y2 H3 fun z H4 => ∃ H5, DPut H4 a y z H5 ∧ D.nx σ H5
def sDDel (td ty : TE) : TS := fun D σ H => td σ H fun x H1 => ty σ H1 fun y H2 => ∃ a kvs k, x = .ref a ∧ H2 a = some (.dK kvs) ∧ y = kV k ∧ (valV kvs k).isSome = true ∧ D.nx σ (upd H2 a (.dK (dropK kvs k)))
section
variable {X : Cx} {o i e value : Expr} {pos pos' tpos : Pos} {td ty tv : TE}
end
theorem dk_empty {P : Program} {w : World} {H : Hp} (h : Heap) (hb : sysModules < h.objs.size) : ObjOk P w H (h.push { cls := .type "dict", data := .dict #[] }) h.objs.size (.dK []) :=
  ⟨Nat.zero_le _, beq_eq_false_iff_ne.mpr (Ne.symm (Nat.ne_of_lt hb)), [], .nil, Heap.DictOf.new h⟩
def tDNewK : TE := fun _ H Q => ∀ p, H p = none → Q (.ref p) (upd H p (.dK []))
def tDNewT : TE := fun _ H Q => ∀ p, H p = none → Q (.ref p) (upd H p (.dT []))
section
variable {X : Cx} {pos : Pos}
theorem pe_dnewK : PE X (.Dict [] [] pos) tDNewK := fun pins s σ H Q I h =>
  wpAny_Dict_empty ⟨.ref s.heap.objs.size, _, I.laid (a := s.heap.objs.size) (o := .dK []) (t' := s.toks) (fun _ _ q => Heap.get?_push_of_some _ q) (Nat.le_refl _) (dk_empty s.heap I.big), rfl, h _ (I.hok.fresh (Nat.le_refl _))⟩
end
def tPairs : List (TE × TE) → St → Hp → (List (V × V) → Hp → Prop) → Prop
  | [], _, H, Q => Q [] H
  | (tk, tv) :: r, σ, H, Q => tk σ H fun x H1 => tv σ H1 fun y H2 => tPairs r σ H2 fun ps H3 => Q ((x, y) :: ps) H3
abbrev VV : List (V × V) → List (Value × Value) → Prop := Paired fun p q => RelV p.1 q.1 ∧ RelV p.2 q.2
def PPs (X : Cx) (pos : Pos) (keys : List (Option Expr)) (values : List Expr) (trs : List (TE × TE)) : Prop :=
  ∀ (pins : List (Addr × Obj)) (s : Shared) (σ : St) (H : Hp) (Q : List (V × V) → Hp → Prop), Inv X pins σ H s → tPairs trs σ H Q →
    wpAny (model X.prog X.w) X.A (evalPairs (pairTrees keys values X.env pos)) (fun vs s' => ∃ ps H', Inv X pins σ H' s' ∧ VV ps vs ∧ Q ps H') X.xe s
def mergeK (kvs more : List (Key × V)) : List (Key × V) := more.foldl (fun acc kv => putK acc kv.1 kv.2) kvs
def tDisp (trs : List (TE × TE)) : TE := fun σ H Q => ∀ p, H p = none → tPairs trs σ (upd H p (.dK [])) fun ps H2 => H2 p = some (.dK []) ∧ ∃ kvs : List (Key × V), ps = kvs.map (fun kv => (kV kv.1, kv.2)) ∧ kvs.length ≤ 15 ∧ Q (.ref p) (upd H2 p (.dK (mergeK [] kvs)))
structure M1 (X : Cx) (o : Expr) (m : Str) (apos : Pos) (e : Expr) (cpos : Pos) : Prop where
  base : attributeBase o m X.env (eval o X.env) = eval o X.env
  few : ((backTo cpos (starEach [e] X.env)).all (fun x => !x.1) && (backToKw cpos (keywordEach [] X.env)).all (fun x => x.1.isSome)
    && decide (([e] : List Expr).length + ([] : List Keyword).length + (if ([] : List Keyword).isEmpty then 0 else 1) < 30)) = true
  line : (apos.endLine == cpos.line) = true
  trees : backTo cpos (starEach [e] X.env) = [(false, eval e X.env)]
structure M2 (X : Cx) (o : Expr) (m : Str) (apos : Pos) (e f : Expr) (cpos : Pos) : Prop where
  base : attributeBase o m X.env (eval o X.env) = eval o X.env
  few : ((backTo cpos (starEach [e, f] X.env)).all (fun x => !x.1) && (backToKw cpos (keywordEach [] X.env)).all (fun x => x.1.isSome)
    && decide (([e, f] : List Expr).length + ([] : List Keyword).length + (if ([] : List Keyword).isEmpty then 0 else 1) < 30)) = true
  line : (apos.endLine == cpos.line) = true
  trees : backTo cpos (starEach [e, f] X.env) = [(false, eval e X.env), (false, eval f X.env)]
def IsD (H : Hp) (a : Addr) : Prop := (∃ kvs, Rd H a (.dK kvs)) ∨ ∃ kvs, Rd H a (.dT kvs)
section
variable {X : Cx} {pins : List (Addr × Obj)} {σ : St} {H : Hp} {s : Shared} {a : Addr} {y d : V} {u r : Value} {o : Option V} {A : Around} {E : Value → Shared → Prop}
end
def tDGet1 (td ty : TE) : TE := fun σ H Q => td σ H fun x H1 => ∃ a, x = .ref a ∧ IsD H1 a ∧ ty σ H1 fun y H2 => ∃ o, DGet H2 a y o ∧ Q (o.getD .non) H2
def tDGet2 (td ty tx : TE) : TE := fun σ H Q => td σ H fun x H1 => ∃ a, x = .ref a ∧ IsD H1 a ∧ ty σ H1 fun y H2 => tx σ H2 fun z H3 => ∃ o, DGet H3 a y o ∧ Q (o.getD z) H3
def tDPop1 (td ty : TE) : TE := fun σ H Q => td σ H fun x H1 => ∃ a, x = .ref a ∧ IsD H1 a ∧ ty σ H1 fun y H2 => ∃ kvs k v, H2 a = some (.dK kvs) ∧ y = kV k ∧ valV kvs k = some v ∧ Q v (upd H2 a (.dK (dropK kvs k)))
def tDPop2 (td ty tx : TE) : TE := fun σ H Q => td σ H fun x H1 => ∃ a, x = .ref a ∧ IsD H1 a ∧ ty σ H1 fun y H2 => tx σ H2 fun z H3 => ∃ kvs k, H3 a = some (.dK kvs) ∧ y = kV k ∧
  (∀ v, valV kvs k = some v → Q v (upd H3 a (.dK (dropK kvs k)))) ∧ (valV kvs k = none → Q z H3)
section
variable {X : Cx} {o e f : Expr} {apos cpos : Pos} {td ty tx : TE}
end
section
variable {X : Cx} {pins : List (Addr × Obj)} {σ : St} {H : Hp} {s : Shared} {a : Addr} {kvs : List (Key × V)} {A : Around} {E : Value → Shared → Prop}
end
section
variable {X : Cx} {pins : List (Addr × Obj)} {σ : St} {H : Hp} {s : Shared} {a : Addr} {y : V} {u : Value} {A : Around} {E : Value → Shared → Prop}
end
end L2
set_option Elab.async false
set_option linter.all false
set_option maxRecDepth 100000
set_option maxHeartbeats 4000000
namespace L2
open PySem PySem.Spec PyProof.Rows
theorem OpR.imp {X : Cx} {f : Value → Value → Sem Value} {r r' : R2} (h : OpR X f r) (i : ∀ x y H Q, r' x y H Q → r x y H Q) : OpR X f r' :=
  fun pins s σ H x y v u Q I rx ry q => h pins s σ H x y v u Q I rx ry (i x y H Q q)
theorem CallR.imp {X : Cx} {f : Value} {r r' : List V → Hp → VK → Prop} (h : CallR X f r) (i : ∀ xs H Q, r' xs H Q → r xs H Q) : CallR X f r' :=
  fun pins s σ H xs us Q I rs q => h pins s σ H xs us Q I rs (i xs H Q q)
def tV (i : Nat) : TE := fun σ H Q => match σ[i]? with
  | some (some v) => Q v H
  | _ => False
theorem vr {X : Cx} (i : Nat) {x : Str} {pos : Pos} (hN : X.N[i]? = some x := by rfl) (hv : Vis X.env.scope x := by first | exact Or.inl rfl | exact Or.inr (Or.inl rfl) | exact Or.inr (Or.inr rfl)) (hd : (x == ("__debug__" : Str)) = false := by decide)
    (hcd : (x == ("__classdict__" : Str)) = false := by decide) : PE X (.Name x pos) (tV i) := fun pins s σ H Q I h => by
  refine pe_var hN hv hd hcd pins s σ H Q I ?_
  unfold tV at h
  split at h
  · rename_i v e
    exact ⟨v, e, h⟩
  · exact h.elim
def rI2 (g : Int → Int → V) : R2 := fun x y H Q => match x, y with
  | .int i, .int j => Q (g i j) H
  | _, _ => False
def rIC (C : Int → Int → Prop) (g : Int → Int → V) : R2 := fun x y H Q => match x, y with
  | .int i, .int j => C i j ∧ Q (g i j) H
  | _, _ => False
theorem OpR.ic {X : Cx} {f : Value → Value → Sem Value} {C : Int → Int → Prop} {g : Int → Int → V} (h : OpR X f (rI C g)) : OpR X f (rIC C g) := h.imp fun x y H Q q => by
  cases x <;> cases y <;> first | exact ⟨_, _, rfl, rfl, q.1, q.2⟩ | exact (show False from q).elim
section
variable {X : Cx}
def rAddM : R2 := fun x y H Q => match x, y with
  | .int i, .int j => Q (.int (i + j)) H
  | .str i, .str j => i.length + j.length ≤ sizeLine ∧ Q (.str (i ++ j)) H
  | _, _ => False
theorem o_add : OpR X (binaryOp .Add) rAddM := (op_add.or op_add_str).imp fun x y H Q q => by
  cases x <;> cases y <;> first | exact .inl ⟨_, _, rfl, rfl, q⟩ | exact .inr ⟨_, _, rfl, rfl, q.1, q.2⟩ | exact (show False from q).elim
theorem o_mul : OpR X (binaryOp .Mult) (rIC CMul fun i j => .int (i * j)) := op_mul.ic
theorem o_fdiv : OpR X (binaryOp .FloorDiv) (rIC CDiv fun i j => .int (i / j)) := op_fdiv.ic
def CPos (i j : Int) : Prop := 0 < j
def CNn (i j : Int) : Prop := 0 ≤ j
theorem cp {i j : Int} (h : 0 < j := by decide) : CPos i j := h
theorem cn {i j : Int} (h : 0 ≤ j := by decide) : CNn i j := h
theorem cd {i j : Int} (h : 0 < j := by decide) (h2 : j < 1073741824 := by decide) : CDiv i j := ⟨h, h2⟩
theorem cw {i j : Int} (h : 0 ≤ j := by decide) (h2 : j ≤ 1000000 := by decide) (h3 : i.natAbs < 2 ^ 64 := by decide) : CPow i j := ⟨h, h2, h3⟩
theorem cl {i j : Int} (h : -(2 ^ 64) < i := by decide) (h2 : i < 2 ^ 64 := by decide) : CMul i j := .inl ⟨h, h2⟩
theorem cr {i j : Int} (h : -(2 ^ 64) < j := by decide) (h2 : j < 2 ^ 64 := by decide) : CMul i j := .inr ⟨h, h2⟩
theorem o_mod : OpR X (binaryOp .Mod) (rIC CPos fun i j => .int (i % j)) := op_mod.ic
theorem o_pow : OpR X (binaryOp .Pow) (rIC CPow fun i j => .int (i ^ j.toNat)) := op_pow.ic
theorem o_shr : OpR X (binaryOp .RShift) (rIC CNn fun i j => .int (i / 2 ^ j.toNat)) := op_shr.ic
theorem op_le_str : OpR X (compareOp .LtE) (fun x y H Q => ∃ i j, x = .str i ∧ y = .str j ∧ Q (.bl (!decide (j.cps.toList < i.cps.toList))) H) := by
  intro pins s σ H x y v u Q I rx ry h
  obtain ⟨i, j, rfl, rfl, q⟩ := h
  obtain ⟨t, rfl⟩ := rx
  obtain ⟨t', rfl⟩ := ry
  exact PySem.P.le_str (fin_bl I q rfl)
def rCmpM (f : Int → Int → Bool) (g : Str → Str → Bool) : R2 := fun x y H Q => match x, y with
  | .int i, .int j => Q (.bl (f i j)) H
  | .str i, .str j => Q (.bl (g i j)) H
  | _, _ => False
theorem o_lt : OpR X (compareOp .Lt) (rCmpM (fun i j => decide (i < j)) fun i j => decide (i.cps.toList < j.cps.toList)) := (op_lt.or op_lt_str).imp fun x y H Q q => by
  cases x <;> cases y <;> first | exact .inl ⟨_, _, rfl, rfl, q⟩ | exact .inr ⟨_, _, rfl, rfl, q⟩ | exact (show False from q).elim
theorem o_le : OpR X (compareOp .LtE) (rCmpM (fun i j => decide (i ≤ j)) fun i j => !decide (j.cps.toList < i.cps.toList)) := (op_le.or op_le_str).imp fun x y H Q q => by
  cases x <;> cases y <;> first | exact .inl ⟨_, _, rfl, rfl, q⟩ | exact .inr ⟨_, _, rfl, rfl, q⟩ | exact (show False from q).elim
def rEqM (neg : Bool) : R2 := fun x y H Q => match x, y with
  | .int i, .int j => Q (.bl (if neg then !decide (i = j) else decide (i = j))) H
  | .str i, .str j => Q (.bl (if neg then !decide (i = j) else decide (i = j))) H
  | .bl i, .bl j => Q (.bl (if neg then !decide (i = j) else decide (i = j))) H
  | .non, .non => Q (.bl (!neg)) H
  | .non, .int _ => Q (.bl neg) H
  | .non, .str _ => Q (.bl neg) H
  | .non, .bl _ => Q (.bl neg) H
  | .int _, .non => Q (.bl neg) H
  | .str _, .non => Q (.bl neg) H
  | .bl _, .non => Q (.bl neg) H
  | .int _, .str _ => Q (.bl neg) H
  | .str _, .int _ => Q (.bl neg) H
  | _, _ => False
theorem o_eq : OpR X (compareOp .Eq) (rEqM false) := op_eq.imp fun x y H Q q => by
  cases x <;> cases y <;> first | exact (show False from q).elim | (refine ⟨rfl, ?_⟩; revert q; simp [rEqM])
theorem o_ne : OpR X (compareOp .NotEq) (rEqM true) := op_ne.imp fun x y H Q q => by
  cases x <;> cases y <;> first | exact (show False from q).elim | (refine ⟨rfl, ?_⟩; revert q; simp [rEqM])
def rU1 (g : Int → V) : V → Hp → VK → Prop := fun x H Q => match x with
  | .int i => Q (g i) H
  | _ => False
theorem o_is : OpR X (compareOp .Is) (fun x y H Q => match y with | .non => Q (.bl (decide (x = .non))) H | _ => False) := op_isN.imp fun x y H Q q => by
  cases y <;> first | exact ⟨rfl, q⟩ | exact (show False from q).elim
def rInS (neg : Bool) : R2 := fun x y H Q => match x, y with
  | .str i, .str j => Q (.bl (if neg then (Builtin.Str.occurrences j i 0 j.length 1).isEmpty else !(Builtin.Str.occurrences j i 0 j.length 1).isEmpty)) H
  | _, _ => False
theorem o_inS : OpR X (compareOp .In) (rInS false) := op_in_str.imp fun x y H Q q => by
  cases x <;> cases y <;> first | exact ⟨_, _, rfl, rfl, q⟩ | exact (show False from q).elim
def mB (Q : Bool → Hp → Prop) : VK := fun x H => match x with
  | .bl c => Q c H
  | _ => False
variable {a b c : Expr} {ta tb tc : TE} {pos : Pos} {rest : List Expr}
def mAnd (ta tb : TE) : TE := fun σ H Q => ta σ H (mB fun c H1 => if c = true then tb σ H1 Q else Q (.bl false) H1)
def mOr (ta tb : TE) : TE := fun σ H Q => ta σ H (mB fun c H1 => if c = true then Q (.bl true) H1 else tb σ H1 Q)
def mNot (ta : TE) : TE := fun σ H Q => ta σ H (mB fun c H1 => Q (.bl (!c)) H1)
theorem mB_iff {Q : Bool → Hp → Prop} {x : V} {H : Hp} (h : mB Q x H) : ∃ c, x = .bl c ∧ Q c H := by
  cases x <;> first | exact ⟨_, rfl, h⟩ | exact (show False from h).elim
theorem m_and (ha : PE X a ta) (hb : PE X (.BoolOp .And (b :: rest) pos) tb) : PE X (.BoolOp .And (a :: b :: rest) pos) (mAnd ta tb) := by
  intro pins s σ H Q I h
  refine BoolOp_and (thn (ha pins s σ H _ I h) fun v s1 ⟨x, H1, I1, r1, q1⟩ => ?_)
  obtain ⟨c, rfl, q1⟩ := mB_iff q1
  cases r1
  refine wpAny_truthy_bool ?_
  cases c with
  | true => exact hb pins s1 σ H1 Q I1 q1
  | false => exact ⟨.bl false, H1, I1, rfl, q1⟩
theorem m_not (ha : PE X a ta) : PE X (.UnaryOp .Not a pos) (mNot ta) := by
  intro pins s σ H Q I h
  refine UnaryOp_ (thn (ha pins s σ H _ I h) fun v s1 ⟨x, H1, I1, r1, q1⟩ => ?_)
  obtain ⟨c, rfl, q1⟩ := mB_iff q1
  cases r1
  exact not_of (wpAny_truthy_bool ⟨.bl (!c), H1, I1, rfl, q1⟩)
def mT (t : TE) : TT := fun σ H Q => t σ H (mB Q)
theorem t_val (h : PE X a ta) (he : ∀ whole, isTrue a X.env whole = (do let v ← whole; standAt a.pos; holding [v] (truthy v)) := by intro _; rfl) : PT X a (mT ta) := by
  intro pins s σ H Q I hw
  refine isTrue_plain (thn (h pins s σ H _ I hw) fun v s1 ⟨x, H1, I1, r1, q1⟩ => ?_) (he _)
  obtain ⟨d, rfl, q⟩ := mB_iff q1
  cases r1
  exact wpAny_truthy_bool ⟨H1, I1, q⟩
theorem t_cmp {op : CmpOp} {r : R2} (ho : OpR X (compareOp op) r) (ha : PE X a ta) (hb : PE X b tb) (hm : behindInMarks op b = false) : PT X (.Compare a [op] [b] pos) (mT (tOp r ta tb)) := by
  intro pins s σ H Q I h
  refine wpAny_isTrue_Compare1 (thn (ha pins s σ H _ I h) fun v s1 ⟨x, H1, I1, r1, q1⟩ => thn (hb pins s1 σ H1 _ I1 q1) fun u s2 ⟨y, H2, I2, r2, q2⟩ =>
    thn (ho pins s2 σ H2 x y v u _ I2 r1 r2 q2) fun c s3 ⟨z, H3, I3, r3, q3⟩ => ?_) hm
  obtain ⟨k, rfl, q3⟩ := mB_iff q3
  cases r3
  exact wpAny_truthy_bool ⟨H3, I3, q3⟩
def mChain (r r' : R2) (ta tb tc : TE) : TE := fun σ H Q => ta σ H fun x H1 => tb σ H1 fun y H2 => r x y H2 (mB fun k H3 => if k = true then tc σ H3 fun w' H4 => r' y w' H4 Q else Q (.bl false) H3)
theorem m_chain {op op' : CmpOp} {r r' : R2} (ho : OpR X (compareOp op) r) (ho' : OpR X (compareOp op') r') (ha : PE X a ta) (hb : PE X b tb) (hc : PE X c tc)
    (hm : lastMarks [op, op'] [b, c] = false := by with_unfolding_all rfl) : PE X (.Compare a [op, op'] [b, c] pos) (mChain r r' ta tb tc) := by
  intro pins s σ H Q I h
  refine Compare_chain (thn (ha pins s σ H _ I h) fun v s1 ⟨x, H1, I1, r1, q1⟩ => chain_link (thn (hb pins s1 σ H1 _ I1 q1) fun u s2 ⟨y, H2, I2, r2, q2⟩ =>
    thn (ho pins s2 σ H2 x y v u _ I2 r1 r2 q2) fun d s3 ⟨z, H3, I3, r3, q3⟩ => ?_)) hm
  obtain ⟨k, rfl, q3⟩ := mB_iff q3
  cases r3
  refine wpAny_truthy_bool ?_
  cases k with
  | false => exact ite_ff ⟨.bl false, H3, I3, rfl, q3⟩
  | true => exact ite_tt (chain_last (thn (hc pins s3 σ H3 _ I3 q3) fun w' s4 ⟨z', H4, I4, r4, q4⟩ => ho' pins s4 σ H4 y z' u w' Q I4 r2 r4 q4))
theorem t_chain {op op' : CmpOp} {r r' : R2} (ho : OpR X (compareOp op) r) (ho' : OpR X (compareOp op') r') (ha : PE X a ta) (hb : PE X b tb) (hc : PE X c tc)
    (hm : lastMarks [op, op'] [b, c] = false := by with_unfolding_all rfl) : PT X (.Compare a [op, op'] [b, c] pos) (mT (mChain r r' ta tb tc)) := by
  intro pins s σ H Q I h
  refine isTrue_chain (thn (ha pins s σ H _ I h) fun v s1 ⟨x, H1, I1, r1, q1⟩ => test_link (thn (hb pins s1 σ H1 _ I1 q1) fun u s2 ⟨y, H2, I2, r2, q2⟩ =>
    thn (ho pins s2 σ H2 x y v u _ I2 r1 r2 q2) fun d s3 ⟨z, H3, I3, r3, q3⟩ => ?_)) hm
  obtain ⟨k, rfl, q3⟩ := mB_iff q3
  cases r3
  refine wpAny_truthy_bool ?_
  cases k with
  | false => exact ite_ff ⟨H3, I3, q3⟩
  | true =>
    refine ite_tt (test_last (thn (hc pins s3 σ H3 _ I3 q3) fun w' s4 ⟨z', H4, I4, r4, q4⟩ => thn (ho' pins s4 σ H4 y z' u w' _ I4 r2 r4 q4) fun d' s5 ⟨z2, H5, I5, r5, q5⟩ => ?_))
    obtain ⟨k2, rfl, q5⟩ := mB_iff q5
    cases r5
    exact wpAny_truthy_bool ⟨H5, I5, q5⟩
open PySem.W in
theorem kit_of {pins : List (Addr × Obj)} {σ : St} {H : Hp} {s : Shared} {x : V} {u t : Value} (I : Inv X pins σ H s) (rx : RelV x u) (ty : TyOf X.K H x t) :
    ∃ Hh : Heap → Prop, KitX X.K u t Hh ∧ Hh s.heap ∧ u ≠ .builtin "__main__.__loader__#opaque" := by
  cases ty with
  | non => cases (show u = Value.none from rx); exact ⟨_, PySem.W.kitx_none, True.intro, fun z => nomatch z⟩
  | bl y => cases (show u = Value.bool y from rx); exact ⟨_, PySem.W.kitx_bool, True.intro, fun z => nomatch z⟩
  | int i => obtain ⟨t, q⟩ := (show ∃ t, u = Value.int i t from rx); cases q; exact ⟨_, PySem.W.kitx_int, True.intro, fun z => nomatch z⟩
  | str y => obtain ⟨t, q⟩ := (show ∃ t, u = Value.str y t from rx); cases q; exact ⟨_, PySem.W.kitx_str, True.intro, fun z => nomatch z⟩
  | flt y => obtain ⟨t, q⟩ := (show ∃ t, u = Value.float y t from rx); cases q; exact ⟨_, PySem.W.kitx_float, True.intro, fun z => nomatch z⟩
  | @lst a xs ea =>
    cases (show u = Value.ref a from rx)
    obtain ⟨_, _, n, _, h1⟩ := (show ObjOk X.prog X.w H s.heap a (.lst xs) from I.hok a _ ea)
    exact ⟨_, PySem.W.kitx_list, ⟨_, h1, rfl⟩, fun z => nomatch z⟩
  | @frz a ob xs ea =>
    cases (show u = Value.ref a from rx)
    obtain ⟨_, _, _, n, _, h1⟩ := (show ObjOk X.prog X.w H s.heap a (.frz ob (.lst xs)) from I.hok a _ ea)
    exact ⟨_, PySem.W.kitx_list, ⟨_, h1, rfl⟩, fun z => nomatch z⟩
  | @tup a xs ea =>
    cases (show u = Value.ref a from rx)
    obtain ⟨_, _, _, p⟩ := (show ObjOk X.prog X.w H s.heap a (.tup xs) from I.hok a _ ea)
    obtain ⟨o, h1, h2, _⟩ := p
    exact ⟨_, PySem.W.kitx_tuple, ⟨o, h1, h2⟩, fun z => nomatch z⟩
  | @dK a kvs ea =>
    cases (show u = Value.ref a from rx)
    obtain ⟨_, _, vs, _, p⟩ := (show ObjOk X.prog X.w H s.heap a (.dK kvs) from I.hok a _ ea)
    obtain ⟨o, es, ep, h1, h2, _⟩ := p
    exact ⟨_, PySem.W.kitx_dict, ⟨o, h1, h2.1⟩, fun z => nomatch z⟩
  | @dT a kvs ea =>
    cases (show u = Value.ref a from rx)
    obtain ⟨_, _, xs, _, o, es, ep, h1, h2, _⟩ := (show ObjOk X.prog X.w H s.heap a (.dT kvs) from I.hok a _ ea)
    exact ⟨_, PySem.W.kitx_dict, ⟨o, h1, h2.1⟩, fun z => nomatch z⟩
  | @ins a C dx fs ea cl ha hn htk hm =>
    cases (show u = Value.ref a from rx)
    obtain ⟨mA, O, _⟩ := ins_get I.hok ea
    obtain ⟨od, J, _⟩ := O.look
    exact ⟨_, PySem.W.kitx_own (cl.get _) cl.hd ha hn htk hm, J, fun z => nomatch z⟩
def cVal : V → Value
  | .ty n => .type n
  | .ref a => .ref a
  | _ => .none
def isCls : V → Bool
  | .ty _ => true
  | .ref _ => true
  | _ => false
theorem cVal_of {c : V} {u : Value} (h : isCls c = true) (r : RelV c u) : u = cVal c := by
  cases c <;> first | exact r | exact absurd (show false = true from h) Bool.false_ne_true
inductive rIsi (K : PySem.W.Frag) (xs : List V) (H : Hp) (Q : VK) : Prop
  | mk (x c : V) (t : _) (b : Bool) (h0 : xs = [x, c]) (h1 : isCls c = true) (h2 : TyOf K H x t) (h3 : PySem.W.kitOne K t (cVal c) = some b) (h4 : Q (.bl b) H) : rIsi K xs H Q
theorem call_isi : CallR X (.builtin "isinstance") (rIsi X.K) := by
  intro pins s σ H xs us Q I r h
  obtain ⟨x, c, t, b, rfl, hc, ty, e, q⟩ := h
  obtain ⟨u, w', rfl, rx, rc⟩ := vals2 r
  cases cVal_of hc rc
  obtain ⟨Hh, Z, p, hx⟩ := kit_of I rx ty
  exact PySem.W.kia_one Z I.kIn p e hx fun tk => ⟨.bl b, H, I.tok tk, rfl, q⟩
theorem call_allB (hc : X.calm = true) : CallR X (.builtin "all") (fun xs H Q => ∃ (p : Addr) (ys : List V) (bs : List Bool), xs = [.ref p] ∧ SqL X.K H p ys ∧ ys = bs.map V.bl ∧ Q (.bl (bs.all id)) H) := by
  intro pins s σ H xs us Q I r h
  obtain ⟨p, ys, bs, rfl, hq, rfl, q⟩ := h
  obtain ⟨u, rfl, rx⟩ := vals1 r
  cases rx
  obtain ⟨its, rv, pl, hz⟩ := I.list hq
  have hlt : p < s.heap.objs.size := by obtain ⟨_, _, e, _⟩ := pl; exact Heap.lt_size e
  refine call_all_walk (wpAny_pyIter_list pl.isList ?_)
  refine ⟨s.heap.objs.size, [s.heap.objs.size, p], [s.heap.objs.size], its.toArray.size, _, _, fun i => (bs[i]?).getD true, rfl, Walks.list (A := X.A.in1) (I.ok.hd hc) _ p (Nat.ne_of_lt hlt) its.toArray,
    ⟨⟨_, Heap.get?_push_size _ rfl, rfl, rfl⟩, pl.isList.push _⟩, fun i v s' Q' E' hP hQ => ?_, fun h' tk hk => ?_⟩
  · have hv : its[i]? = some v := by simpa using hP
    have hi : i < (bs.map V.bl).length := by rw [rv.length]; exact (List.getElem?_eq_some_iff.mp hv).1
    obtain ⟨b, hb⟩ : ∃ b, bs[i]? = some b := ⟨bs[i]'(by simpa using hi), by simp at hi; simp [hi]⟩
    obtain ⟨u, hu, ru⟩ := rv.get (i := i) (x := V.bl b) (by rw [List.getElem?_map, hb]; rfl)
    rw [hv] at hu
    cases hu
    cases ru
    simp only [hb, Option.getD_some] at hQ
    exact wpAny_truthy_bool hQ
  · have e : ((List.range its.toArray.size).all fun i => (bs[i]?).getD true) = bs.all id := by
      rw [List.size_toArray, ← rv.length, List.length_map]; exact LSm.range_all bs
    rw [e]
    exact ⟨.bl _, H, I.kept (LSm.kept_iter hk), rfl, q⟩
end
end L2
set_option Elab.async false
set_option linter.all false
set_option maxRecDepth 100000
set_option maxHeartbeats 4000000
namespace L2
open PySem PySem.Spec PyProof.Rows
theorem and_if {Q : V → Prop} {p r : Prop} [Decidable p] [Decidable r] (q : Q (.bl (decide (p ∧ r)))) : if decide p = true then Q (.bl (decide r)) else Q (.bl false) := by
  by_cases h : p
  · rw [if_pos (decide_eq_true h)]
    have e : decide (p ∧ r) = decide r := by by_cases z : r <;> simp [h, z]
    rw [← e]; exact q
  · rw [if_neg (fun z => h (of_decide_eq_true z))]
    have e : decide (p ∧ r) = false := decide_eq_false fun z => h z.1
    rw [← e]; exact q
theorem ifP {c : Prop} [Decidable c] {A B : Prop} (hc : c) (h : A) : if decide c = true then A else B := by rw [if_pos (decide_eq_true hc)]; exact h
theorem ifN {c : Prop} [Decidable c] {A B : Prop} (hc : ¬ c) (h : B) : if decide c = true then A else B := by rw [if_neg (fun z => hc (of_decide_eq_true z))]; exact h
theorem ifC {c : Prop} [Decidable c] {A B : Prop} (h1 : c → A) (h2 : ¬ c → B) : if decide c = true then A else B := by
  by_cases h : c
  · exact ifP h (h1 h)
  · exact ifN h (h2 h)
theorem ifB {b : Bool} {A B : Prop} (h1 : b = true → A) (h2 : b = false → B) : if b = true then A else B := by
  cases b with
  | true => rw [if_pos rfl]; exact h1 rfl
  | false => rw [if_neg Bool.false_ne_true]; exact h2 rfl
theorem atI_ex {α : Type} {xs : List α} {i : Int} (h0 : 0 ≤ i) (h1 : i < xs.length) : ∃ c, c ∈ xs ∧ atI xs i = some c := by
  have hk : i.toNat < xs.length := by omega
  refine ⟨xs[i.toNat], List.getElem_mem hk, ?_⟩
  have e : ((i.toNat : Nat) : Int) = i := by omega
  have := atI_nat (xs := xs) (j := i.toNat) (v := xs[i.toNat]) (by simp [hk])
  rwa [e] at this
theorem bt_len : bootBuiltins "len" = some (.builtin "len") := by decide +kernel
theorem bt_isinstance : bootBuiltins "isinstance" = some (.builtin "isinstance") := by decide +kernel
theorem bt_all : bootBuiltins "all" = some (.builtin "all") := by decide +kernel
theorem bt_min : bootBuiltins "min" = some (.builtin "min") := by decide +kernel
theorem bt_max : bootBuiltins "max" = some (.builtin "max") := by decide +kernel
theorem bt_enumerate : bootBuiltins "enumerate" = some (.type "enumerate") := by decide +kernel
theorem bt_str : bootBuiltins "str" = some (.type "str") := by decide +kernel
theorem bt_int : bootBuiltins "int" = some (.type "int") := by decide +kernel
theorem bt_bool : bootBuiltins "bool" = some (.type "bool") := by decide +kernel
theorem pe_gl {X : Cx} {x : Str} {v : V} {pos : Pos} (hg : Gl X x) (h : ∃ u, X.mg x = some u ∧ RelV v u) (hd : (x == ("__debug__" : Str)) = false := by decide) : PE X (.Name x pos) (tC v) :=
  let ⟨_, e, r⟩ := h
  pe_glob hg e r hd
def iAny (K : PySem.W.Frag) (tl : TE) : TI := fun σ H R => tl σ H fun x H1 => match x with
  | .str z => R (Its z) H1
  | .ref a => ((∃ xs, SqL K H1 a xs) ∧ R (Itl K a) H1) ∨ ((∃ xs, SqT K H1 a xs) ∧ R (Itt K a) H1)
  | _ => False
theorem pi_any {X : Cx} {tg l : Expr} {tl : TE} (hl : PE X l tl) : PI X tg l (iAny X.K tl) := by
  intro pins s σ H R I h
  have hl1 : PE X l tl := hl
  refine thn (hl pins s σ H _ I h) fun v s1 ⟨x, H1, I1, r1, q1⟩ => ?_
  cases x with
  | str z =>
    have := pi_str (X := X) (tg := tg) (l := l) (tl := tC (.str z)) 
    obtain ⟨t, rfl⟩ := r1
    refine wpAny_pyIter_strU ?_
    refine ⟨s1.heap.objs.size, [s1.heap.objs.size], _, _, H1, rfl, I1.kept (t' := s1.toks) fun b o e => Heap.get?_push_of_some _ e, turn_str (ty := strIterType z) (t := t) z _ ?_, ⟨_, Heap.get?_push_size _ rfl, rfl, rfl⟩, fun b hb => ?_, q1⟩
    · unfold strIterType
      split
      · exact .inl rfl
      · exact .inr rfl
    · have e : b = s1.heap.objs.size := by simpa using hb
      subst e
      exact I1.fpOk (Nat.le_refl _) (I1.hok.fresh (Nat.le_refl _))
  | ref a =>
    cases r1
    rcases q1 with ⟨⟨xs, hq⟩, q⟩ | ⟨⟨xs, hq⟩, q⟩
    · obtain ⟨its, rv, p, hz⟩ := I1.list hq
      refine wpAny_pyIter_list p.isList ?_
      refine ⟨s1.heap.objs.size, [s1.heap.objs.size], _, _, H1, rfl, I1.kept (t' := s1.toks) fun b o e => Heap.get?_push_of_some _ e, turn_list a _, ⟨_, Heap.get?_push_size _ rfl, rfl, rfl⟩, fun b hb => ?_, q⟩
      have e : b = s1.heap.objs.size := by simpa using hb
      subst e
      exact I1.fpOk (Nat.le_refl _) (I1.hok.fresh (Nat.le_refl _))
    · obtain ⟨its, rv, p, hz⟩ := I1.tuple hq
      refine wpAny_pyIter_tuple (show s1.heap.IsTuple a its.toArray from p) ?_
      refine ⟨s1.heap.objs.size, [s1.heap.objs.size], _, _, H1, rfl, I1.kept (t' := s1.toks) fun b o e => Heap.get?_push_of_some _ e, turn_tuple a _, ⟨_, Heap.get?_push_size _ rfl, rfl, rfl⟩, fun b hb => ?_, q⟩
      have e : b = s1.heap.objs.size := by simpa using hb
      subst e
      exact I1.fpOk (Nat.le_refl _) (I1.hok.fresh (Nat.le_refl _))
  | _ => exact (show False from q1).elim
inductive rLenSq (K : PySem.W.Frag) (p : Addr) (H : Hp) (Q : VK) : Prop
  | mk (ys : List V) (h0 : SqL K H p ys ∨ SqT K H p ys) (h1 : Q (.int ys.length) H) : rLenSq K p H Q
theorem call_lenM {X : Cx} : CallR X (.builtin "len") (fun xs H Q => match xs with
    | [.str z] => z.length ≤ sizeLine ∧ Q (.int z.length) H
    | [.ref p] => rLenSq X.K p H Q
    | _ => False) := (call_len_str.or call_len_seq).imp fun xs H Q q => by
  match xs, q with
  | [.str z], q => exact .inl ⟨z, rfl, q.1, q.2⟩
  | [.ref p], q => obtain ⟨ys, h, q⟩ := q; exact .inr ⟨p, ys, rfl, h, q⟩
section
variable {D : Addr} {σb : St} {g : TG} {tt : TT} {te : TE} {Q : Hp → List V → Prop} {H : Hp} {K : PySem.W.Frag}
def CompT (D : Addr) (σb : St) (g : TG) (tt : TT) (te : TE) (x : V) (ys : List V) (H : Hp) (P : List V → Hp → Prop) : Prop :=
  g x σb H fun σ4 H4 => Wk σb σ4 ∧ tt σ4 H4 fun b H5 => if b = true then te σ4 H5 fun y H6 => H6 D = some (.lst ys) ∧ ys.length < sizeLine ∧ P (ys ++ [y]) (upd H6 D (.lst (ys ++ [y]))) else P ys H5
theorem comp_str {z : Str} (Pv : Nat → List V → Hp → Prop) (h0 : Pv 0 [] H) (hl : ∀ i ys H, Pv i ys H → H D = some (.lst ys))
    (hs : ∀ (i c : Nat) ys H P, z.cps[i]? = some c → Pv i ys H → (∀ a b, Pv (i + 1) a b → P a b) → CompT D σb g tt te (.str ⟨#[c]⟩) ys H P) (hd : ∀ ys H, Pv z.cps.size ys H → Q H ys) : ∃ W, (∃ m, W 0 m [] H) ∧ CompW (Its z) D σb g tt te Q W := by
  refine ⟨fun i m ys H => m = z.cps.size - i ∧ i ≤ z.cps.size ∧ Pv i ys H, ⟨_, rfl, Nat.zero_le _, h0⟩, ?_⟩
  rintro i m ys H ⟨rfl, hi, p⟩
  refine ⟨hl i ys H p, ?_⟩
  by_cases hlt : i < z.cps.size
  · refine .inr ⟨hlt, fun x H3 y => ?_⟩
    obtain ⟨rfl, c, hc, rfl⟩ := y
    exact hs i c ys _ (fun a b => ∃ m', m' < z.cps.size - i ∧ m' = z.cps.size - (i + 1) ∧ i + 1 ≤ z.cps.size ∧ Pv (i + 1) a b) hc p (fun a b q => ⟨z.cps.size - (i + 1), by omega, rfl, hlt, q⟩)
  · have e : i = z.cps.size := by omega
    subst e
    exact .inl ⟨Nat.le_refl _, hd ys H p⟩
theorem comp_list {a : Addr} {xs : List V} (Pv : Nat → List V → Hp → Prop) (h0 : Pv 0 [] H) (hq : ∀ i ys H, Pv i ys H → SqL K H a xs) (hl : ∀ i ys H, Pv i ys H → H D = some (.lst ys))
    (hs : ∀ (i : Nat) x ys H P, xs[i]? = some x → Pv i ys H → (∀ a b, Pv (i + 1) a b → P a b) → CompT D σb g tt te x ys H P) (hd : ∀ ys H, Pv xs.length ys H → Q H ys) : ∃ W, (∃ m, W 0 m [] H) ∧ CompW (Itl K a) D σb g tt te Q W := by
  refine ⟨fun i m ys H => m = xs.length - i ∧ i ≤ xs.length ∧ Pv i ys H, ⟨_, rfl, Nat.zero_le _, h0⟩, ?_⟩
  rintro i m ys H ⟨rfl, hi, p⟩
  refine ⟨hl i ys H p, ?_⟩
  have q := hq i ys H p
  by_cases hlt : i < xs.length
  · refine .inr ⟨⟨xs, xs[i], q, by simp [hlt]⟩, fun x H3 y => ?_⟩
    obtain ⟨rfl, y⟩ := y
    exact hs i x ys _ (fun a b => ∃ m', m' < xs.length - i ∧ m' = xs.length - (i + 1) ∧ i + 1 ≤ xs.length ∧ Pv (i + 1) a b) (y xs q) p (fun a b q => ⟨xs.length - (i + 1), by omega, rfl, hlt, q⟩)
  · have e : i = xs.length := by omega
    subst e
    exact .inl ⟨⟨xs, q, Nat.le_refl _⟩, hd ys H p⟩
theorem comp_rng {lo : Int} {n : Nat} (Pv : Nat → List V → Hp → Prop) (h0 : Pv 0 [] H) (hl : ∀ i ys H, Pv i ys H → H D = some (.lst ys))
    (hs : ∀ (i : Nat) ys H P, i < n → Pv i ys H → (∀ a b, Pv (i + 1) a b → P a b) → CompT D σb g tt te (.int (lo + i)) ys H P) (hd : ∀ ys H, Pv n ys H → Q H ys) : ∃ W, (∃ m, W 0 m [] H) ∧ CompW (Itr lo n) D σb g tt te Q W := by
  refine ⟨fun i m ys H => m = n - i ∧ i ≤ n ∧ Pv i ys H, ⟨_, rfl, Nat.zero_le _, h0⟩, ?_⟩
  rintro i m ys H ⟨rfl, hi, p⟩
  refine ⟨hl i ys H p, ?_⟩
  by_cases hlt : i < n
  · refine .inr ⟨hlt, fun x H3 y => ?_⟩
    obtain ⟨rfl, rfl⟩ := y
    exact hs i ys _ (fun a b => ∃ m', m' < n - i ∧ m' = n - (i + 1) ∧ i + 1 ≤ n ∧ Pv (i + 1) a b) hlt p (fun a b q => ⟨n - (i + 1), by omega, rfl, hlt, q⟩)
  · have e : i = n := by omega
    subst e
    exact .inl ⟨Nat.le_refl _, hd ys H p⟩
end
theorem Same.new {H : Hp} {p : Addr} {o : HO} (h : H p = none) : Same H (upd H p o) := fun b u e => by rw [upd_ne (ne_of_none e h)]; exact e
mutual
def DV (K : PySem.W.Frag) (H : Hp) : PyData → V → Prop
  | .none, x => x = .non
  | .bool b, x => x = .bl b
  | .int i, x => x = .int i
  | .str z, x => x = .str z
  | .list ds, x => ∃ a xs, x = .ref a ∧ SqL K H a xs ∧ DVs K H ds xs
  | .tuple ds, x => ∃ a xs, x = .ref a ∧ SqT K H a xs ∧ DVs K H ds xs
  | .dict _, _ => False
def DVs (K : PySem.W.Frag) (H : Hp) : List PyData → List V → Prop
  | [], xs => xs = []
  | d :: ds, xs => ∃ y ys, xs = y :: ys ∧ DV K H d y ∧ DVs K H ds ys
end
section
variable {X : Cx} {pins : List (Addr × Obj)} {σ : St} {H : Hp} {s : Shared}
mutual
theorem DV.reads (I : Inv X pins σ H s) : ∀ {d : PyData} {x : V} {u : Value}, DV X.K H d x → RelV x u → ∃ as, Reads s.heap u d as
  | .none, x, u, h, r => by
    rw [DV] at h; subst h; cases r; exact ⟨_, .none⟩
  | .bool b, x, u, h, r => by
    rw [DV] at h; subst h; cases r; exact ⟨_, .bool b⟩
  | .int i, x, u, h, r => by
    rw [DV] at h; subst h; obtain ⟨t, rfl⟩ := r; exact ⟨_, .int i t⟩
  | .str z, x, u, h, r => by
    rw [DV] at h; subst h; obtain ⟨t, rfl⟩ := r; exact ⟨_, .str z t⟩
  | .list ds, x, u, h, r => by
    rw [DV] at h
    obtain ⟨a, xs, rfl, h2, h3⟩ := h
    cases r
    obtain ⟨its, rv, ⟨o, n, e, c, _, d⟩, _⟩ := I.list h2
    obtain ⟨as, q⟩ := DVs.reads I h3 rv
    exact ⟨_, .list e c d (by simpa using q)⟩
  | .tuple ds, x, u, h, r => by
    rw [DV] at h
    obtain ⟨a, xs, rfl, h2, h3⟩ := h
    cases r
    obtain ⟨its, rv, ⟨o, e, c, n, d⟩, _⟩ := I.tuple h2
    obtain ⟨as, q⟩ := DVs.reads I h3 rv
    exact ⟨_, .tuple e c d (by simpa using q)⟩
  | .dict _, x, u, h, r => by rw [DV] at h; exact h.elim
theorem DVs.reads (I : Inv X pins σ H s) : ∀ {ds : List PyData} {xs : List V} {us : List Value}, DVs X.K H ds xs → Vals xs us → ∃ as, ReadsAll s.heap us ds as
  | [], xs, us, h, r => by
    rw [DVs] at h; subst h; cases r; exact ⟨_, .nil⟩
  | d :: ds, xs, us, h, r => by
    rw [DVs] at h
    obtain ⟨y, ys, rfl, h2, h3⟩ := h
    cases r with
    | cons r rs =>
      obtain ⟨as, q⟩ := DV.reads I h2 r
      obtain ⟨bs, p⟩ := DVs.reads I h3 rs
      exact ⟨_, .cons q p⟩
end
end
inductive rEqD (K : PySem.W.Frag) (neg : Bool) (x y : V) (H : Hp) (Q : VK) : Prop
  | mk (d e : PyData) (h0 : DV K H d x) (h1 : DV K H e y) (h2 : SeqAt.shaped d = true) (h3 : SeqAt.shaped e = true) (h4 : Q (.bl (if neg then !PyData.eqv d e else PyData.eqv d e)) H) : rEqD K neg x y H Q
theorem o_eqD {X : Cx} (hu : X.A.units + 64 < cLine) : OpR X (compareOp .Eq) (rEqD X.K false) := by
  intro pins s σ H x y v u Q I rx ry h
  obtain ⟨d, e, h1, h2, s1, s2, q⟩ := h
  obtain ⟨as, ra⟩ := h1.reads I rx
  obtain ⟨bs, rb⟩ := h2.reads I ry
  exact eq_dataH ra rb s1 s2 hu ⟨.bl _, H, I, rfl, q⟩
theorem o_neD {X : Cx} (hu : X.A.units + 64 < cLine) : OpR X (compareOp .NotEq) (rEqD X.K true) := by
  intro pins s σ H x y v u Q I rx ry h
  obtain ⟨d, e, h1, h2, s1, s2, q⟩ := h
  obtain ⟨as, ra⟩ := h1.reads I rx
  obtain ⟨bs, rb⟩ := h2.reads I ry
  exact ne_dataH ra rb s1 s2 hu ⟨.bl _, H, I, rfl, q⟩
end L2
set_option Elab.async false
set_option linter.all false
set_option maxRecDepth 100000
set_option maxHeartbeats 4000000
namespace L2
open PySem PySem.Spec PyProof.Rows
def cutS (z : Str) (lo hi : Option Int) : Str := ⟨((z.cps.toList.drop (HT.sIx z.cps.size 0 lo)).take (HT.sIx z.cps.size z.cps.size hi - HT.sIx z.cps.size 0 lo)).toArray⟩
theorem clipS (n d : Nat) (v : Option Int) : (match v with | none => (d : Int) | some i => max 0 (min (if i < 0 then i + (n : Int) else i) (n : Int))) = ((HT.sIx n d v : Nat) : Int) := by
  cases v with
  | none => rfl
  | some i =>
    show max 0 (min (if i < 0 then i + (n : Int) else i) (n : Int)) = (((if i < 0 then (i + (n : Int)).toNat else min i.toNat n) : Nat) : Int)
    split <;> omega
theorem strIdx (lo hi : Option Int) (n : Nat) : Builtin.Str.strSliceIndices lo hi 1 n = (List.range (HT.sIx n n hi - HT.sIx n 0 lo)).map (HT.sIx n 0 lo + ·) := by
  have e : Builtin.Str.strSliceIndices lo hi 1 n = sliceRange ((HT.sIx n 0 lo : Nat) : Int) ((HT.sIx n n hi : Nat) : Int) 1 := by
    rw [← clipS n 0 lo, ← clipS n n hi]
    unfold Builtin.Str.strSliceIndices
    simp only [show (1 : Int) > 0 by decide, if_true]
    cases lo <;> cases hi <;> rfl
  rw [e, sliceRange_one]
theorem slice_cut (z : Str) (lo hi : Option Int) : Txt.slice z lo hi = cutS z lo hi := by
  have e : ((Builtin.Str.strSliceIndices lo hi 1 z.length).filterMap (z.cps[·]?)) = (z.cps.toList.drop (HT.sIx z.cps.size 0 lo)).take (HT.sIx z.cps.size z.cps.size hi - HT.sIx z.cps.size 0 lo) := by
    rw [strIdx]
    exact pick_run z.cps _ _
  unfold Txt.slice
  split
  · rename_i h
    have hl : (Builtin.Str.strSliceIndices lo hi 1 z.length).length = z.cps.size := by
      rw [Bool.and_eq_true] at h
      exact eq_of_beq h.2
    rw [strIdx, List.length_map, List.length_range] at hl
    have h1 := HT.sIx_le z.cps.size z.cps.size (Nat.le_refl _) hi
    have hl' : HT.sIx z.cps.size z.cps.size hi - HT.sIx z.cps.size 0 lo = z.cps.size := hl
    unfold cutS
    by_cases h0 : z.cps.size = 0
    · refine ext_toList ?_
      have hz : z.cps.toList = [] := List.length_eq_zero_iff.mp (by simpa using h0)
      show z.cps.toList = _
      rw [hz]
      simp
    · have h2 : HT.sIx z.cps.size 0 lo = 0 := by omega
      rw [hl', h2, List.drop_zero, List.take_of_length_le (by simp)]
  · rw [e]
    rfl
theorem cutS_le (z : Str) (lo hi : Option Int) : (cutS z lo hi).cps.size ≤ z.cps.size := by
  show ((z.cps.toList.drop _).take _).toArray.size ≤ _
  rw [List.size_toArray, List.length_take, List.length_drop]
  simp only [Array.length_toList]
  omega
section
variable {X : Cx}
def rSlS : V → Option Int → Option Int → Hp → VK → Prop := fun x lo hi H Q => ∃ z, x = .str z ∧ z.length ≤ sizeLine ∧ Q (.str (cutS z lo hi)) H
theorem sl_str : SlR X rSlS := by
  intro pins s σ H x v vl vu lo hi sl Q I rx hs pl pu h
  obtain ⟨z, rfl, hz, q⟩ := h
  obtain ⟨t, rfl⟩ := rx
  refine ⟨"str", _, F.slot_str_getitem.lookup, typeIs_str _ _ _, ?_⟩
  rw [← slice_cut] at q
  have fin : ∀ t' k, EP X pins σ Q (.str (Txt.slice z lo hi) t') { s with toks := k } := fun t' k => ⟨.str _, H, I.tok _, ⟨_, rfl⟩, q⟩
  cases pl with
  | none =>
    cases pu with
    | none => exact wpAny_getItem_str_slice (l := none) (u := none) (st := none) hs rfl (post_val_or_str ⟨Nat.le_trans (Txt.slice_le z _ _) hz, fin⟩)
    | int j uj => exact wpAny_getItem_str_slice (l := none) (u := some (j, uj)) (st := none) hs rfl (post_val_or_str ⟨Nat.le_trans (Txt.slice_le z _ _) hz, fin⟩)
  | int i ui =>
    cases pu with
    | none => exact wpAny_getItem_str_slice (l := some (i, ui)) (u := none) (st := none) hs rfl (post_val_or_str ⟨Nat.le_trans (Txt.slice_le z _ _) hz, fin⟩)
    | int j uj => exact wpAny_getItem_str_slice (l := some (i, ui)) (u := some (j, uj)) (st := none) hs rfl (post_val_or_str ⟨Nat.le_trans (Txt.slice_le z _ _) hz, fin⟩)
theorem SlR.imp {r r' : V → Option Int → Option Int → Hp → VK → Prop} (h : SlR X r) (i : ∀ x lo hi H Q, r' x lo hi H Q → r x lo hi H Q) : SlR X r' :=
  fun pins s σ H x v vl vu lo hi sl Q I rx hs pl pu q => h pins s σ H x v vl vu lo hi sl Q I rx hs pl pu (i x lo hi H Q q)
theorem sl_any : SlR X (fun x lo hi H Q => match x with
    | .str z => z.length ≤ sizeLine ∧ Q (.str (cutS z lo hi)) H
    | .ref a => (∃ xs, SqL X.K H a xs ∧ ∀ p, H p = none → Q (.ref p) (upd H p (.lst (cutV xs lo hi)))) ∨
        ∃ xs, SqT X.K H a xs ∧ ¬ (HT.sIx xs.length 0 lo = 0 ∧ HT.sIx xs.length xs.length hi = xs.length) ∧ ∀ p, H p = none → Q (.ref p) (upd H p (.tup (cutV xs lo hi)))
    | _ => False) := (sl_list.or (sl_tup.or sl_str)).imp fun x lo hi H Q q => by
  cases x with
  | str z => exact .inr (.inr ⟨z, rfl, q.1, q.2⟩)
  | ref a =>
    rcases q with ⟨xs, h1, h2⟩ | ⟨xs, h1, h2, h3⟩
    · exact .inl ⟨a, xs, rfl, h1, h2⟩
    · exact .inr (.inl ⟨a, xs, rfl, h1, h2, h3⟩)
  | _ => exact (show False from q).elim
def rStarts : V → List V → Hp → VK → Prop := fun x xs H Q => match x, xs with
  | .str z, [.str y] => Q (.bl (Txt.startswith z y)) H
  | _, _ => False
theorem mt_starts : MtR X "str.startswith" rStarts := by
  intro pins s σ H x xs v us Q I rx rs q
  match x, xs, q with
  | .str z, [.str y], q =>
    obtain ⟨t, rfl⟩ := rx
    obtain ⟨u, rfl, t', rfl⟩ := vals1 rs
    exact SC.startswith ⟨.bl _, H, I, rfl, q⟩
def rIndexS : V → List V → Hp → VK → Prop := fun x xs H Q => match x, xs with
  | .str z, [.str y] => ∃ i rest, Builtin.Str.occurrences z y 0 z.length 1 = i :: rest ∧ Q (.int (i : Nat)) H
  | _, _ => False
theorem call_strI : CallR X (.type "str") (fun xs H Q => match xs with
    | [.int i] => i.natAbs.log2 < 1920 ∧ Q (.str (toString i)) H
    | _ => False) := call_str_int.imp fun xs H Q q => by
  match xs, q with
  | [.int i], q => exact ⟨i, rfl, q.1, q.2⟩
theorem call_intS : CallR X (.type "int") (fun xs H Q => match xs with
    | [.str z] => ∃ n, PySem.intText? z = some n ∧ z.length ≤ 640 ∧ Q (.int n) H
    | _ => False) := by
  intro pins s σ H xs us Q I r h
  match xs, h with
  | [.str z], h =>
    obtain ⟨n, e, hl, q⟩ := h
    obtain ⟨u, rfl, t, rfl⟩ := vals1 r
    exact PySem.W.KIN.call_text e hl ⟨.int n, H, I.tok _, ⟨_, rfl⟩, q⟩
variable {o e : Expr} {es : List Expr} {to : TE} {t : TA} {apos cpos : Pos}
theorem pe_m.startswith (ho : PE X o to) (ha : PA X (e :: es) t)
    (hbase : attributeBase o "startswith" X.env (eval o X.env) = eval o X.env := by rfl)
    (hfew : ((backTo cpos (starEach (e :: es) X.env)).all (fun x => !x.1) && (backToKw cpos (keywordEach [] X.env)).all (fun x => x.1.isSome)
      && decide ((e :: es).length + ([] : List Keyword).length + (if ([] : List Keyword).isEmpty then 0 else 1) < 30)) = true := by rfl)
    (hline : (apos.endLine == cpos.line) = true := by rfl) (hs : starEach (e :: es) X.env = (false, eval e X.env) :: starEach es X.env := by rfl) (hplain : (backTo cpos (starEach es X.env)).any (·.1) = false := by rfl) :
    PE X (.Call (.Attribute o "startswith" apos) (e :: es) [] cpos) (tBM X.K "str" rStarts to t) := pe_bm F.plainAttrs_str F.slot_str_startswith F.type_str_startswith mt_starts ho ha hbase hfew hline hs hplain
end
theorem starts_one (z : Str) (c : Nat) : Txt.startswith z ⟨#[c]⟩ = decide (z.cps.toList.head? = some c) := by
  obtain ⟨⟨l⟩⟩ := z
  cases l with
  | nil => rfl
  | cons a l =>
    rw [Bool.eq_iff_iff, decide_eq_true_eq]
    simp [Txt.startswith, Builtin.Str.subAt, Str.length]
end L2
set_option Elab.async false
set_option linter.all false
set_option maxRecDepth 100000
set_option maxHeartbeats 4000000
namespace L2
open PySem PySem.Spec PyProof.Rows
section
variable {X : Cx} {st : Stmt} {rest : List Stmt} {t u : TS} {e : Expr} {te : TE} {tt : TT}
def tSeqM (t u : TS) : TS := fun D σ H => ∃ M : St → Hp → Prop, t { D with nx := M } σ H ∧ ∀ σ' H', M σ' H' → u D σ' H'
theorem pss_consM (h1 : PS X st t) (h2 : PSs X rest u) : PSs X (st :: rest) (tSeqM t u) := by
  intro pins s σ H D I h
  obtain ⟨M, h, hm⟩ := h
  refine wpAny_execs_cons (thn (h1 pins s σ H { D with nx := M } I h) fun f s1 q => ?_)
  cases f with
  | next =>
    obtain ⟨σ', H', I', q⟩ := q
    exact h2 pins s1 σ' H' D I' (hm _ _ q)
  | ret v => exact q
  | brk => exact q
  | cont => exact q
def tCutE (t : TE) : TE := fun σ H Q => ∃ M : VK, t σ H M ∧ ∀ v H', M v H' → Q v H'
theorem pe_cut (h : PE X e te) : PE X e (tCutE te) := by
  intro pins s σ H Q I hq
  obtain ⟨M, hq, hm⟩ := hq
  exact thn (h pins s σ H M I hq) fun v s1 ⟨x, H1, I1, r1, q1⟩ => ⟨x, H1, I1, r1, hm _ _ q1⟩
def tCutT (t : TT) : TT := fun σ H Q => ∃ M : Bool → Hp → Prop, t σ H M ∧ ∀ v H', M v H' → Q v H'
end
end L2
set_option Elab.async false
set_option linter.all false
set_option maxRecDepth 100000
set_option maxHeartbeats 4000000
namespace L2
open PySem PySem.Spec PyProof.Rows
section
variable {X : Cx} {pins : List (Addr × Obj)} {σ : St} {H : Hp} {s : Shared} {h' : Heap}
theorem Inv.turnedNew {t' : Nat} {ch : List Addr} {a : Addr} {o : HO} (I : Inv X pins σ H s) (k : ∀ b u, b ∉ ch → s.heap.get? b = some u → h'.get? b = some u) (hf : ∀ b ∈ ch, FpOk X pins H b)
    (ha : s.heap.objs.size ≤ a) (new : ObjOk X.prog X.w (upd H a o) h' a o) : Inv X pins σ (upd H a o) { s with heap := h', toks := t' } := by
  have hna : H a = none := I.hok.fresh ha
  have nch : ∀ b u, H b = some u → b ∉ ch := fun b u e z => by
    rw [(hf b z).1] at e
    cases e
  have nea : ∀ b u, H b = some u → b ≠ a := fun b u e z => by
    rw [z, hna] at e
    cases e
  have old : ∀ b u, s.heap.get? b = some u → b ≠ a := fun b u e => Nat.ne_of_lt (Nat.lt_of_lt_of_le (Heap.lt_size e) ha)
  refine I.step (g' := s.gens) (d' := s.drawn) (ch := ch) (fun b hb => ?_) (fun b u _ _ hc e _ => k b u hc e) (fun b u _ _ hc e _ => ⟨u.slots, k b u hc e⟩) (fun b u _ e n => ?_) (fun b u hc e => ⟨u, k b u hc e⟩)
    (fun b xs e => ?_) (fun b u v e => ?_) (fun b ps e => ⟨#[], ?_⟩) (fun m hm => ?_) (fun b u e => ?_) I.bare
  · obtain ⟨_, f1, _, f3, f4, f5⟩ := hf b hb
    exact ⟨f3, f1, f4, f5⟩
  · rw [upd_ne (old b u e)]; exact n
  · rw [upd_ne (nea b _ e)]; exact e
  · rw [upd_ne (nea b _ e)]; exact e
  · rw [upd_ne (nea b _ e), e]; simp
  · obtain ⟨ob, es, ep, ho, r⟩ := hm
    exact ⟨ob, es, ep, k _ ob (fun z => (hf _ z).2.1 rfl) ho, r⟩
  · by_cases hb : b = a
    · subst hb
      rw [upd_same] at e
      cases e
      exact new
    · rw [upd_ne hb] at e
      refine (I.hok b u e).stay (fun c v hc q => k c v ?_ q) (fun c q => ?_) fun c xs q => ?_
      · rcases hc with z | z
        · rw [z]; exact nch b u e
        · exact nch c _ z
      · rw [upd_ne (nea c _ q)]; exact q
      · rw [upd_ne (nea c _ q)]; exact q
theorem Inv.turnedN {t' : Nat} {ch : List Addr} (I : Inv X pins σ H s) (k : ∀ b u, b ∉ ch → s.heap.get? b = some u → h'.get? b = some u) (hf : ∀ b ∈ ch, FpOk X pins H b) : Inv X pins σ H { s with heap := h', toks := t' } := by
  have nch : ∀ b u, H b = some u → b ∉ ch := fun b u e z => by
    rw [(hf b z).1] at e
    cases e
  refine I.step (g' := s.gens) (d' := s.drawn) (ch := ch) (fun b hb => ?_) (fun b u _ _ hc e _ => k b u hc e) (fun b u _ _ hc e _ => ⟨u.slots, k b u hc e⟩) (fun b u _ e n => n) (fun b u hc e => ⟨u, k b u hc e⟩)
    (fun b xs e => e) (fun b u v e => e) (fun b ps e => ⟨#[], by rw [e]; simp⟩) (fun m hm => ?_) (fun b u e => ?_) I.bare
  · obtain ⟨_, f1, _, f3, f4, f5⟩ := hf b hb
    exact ⟨f3, f1, f4, f5⟩
  · obtain ⟨ob, es, ep, ho, r⟩ := hm
    exact ⟨ob, es, ep, k _ ob (fun z => (hf _ z).2.1 rfl) ho, r⟩
  · refine (I.hok b u e).stay (fun c v hc q => k c v ?_ q) (fun c q => q) fun c xs q => q
    rcases hc with z | z
    · rw [z]; exact nch b u e
    · exact nch c _ z
end
def Ite (a : Addr) : It := ⟨fun i H => ∃ xs x, H a = some (.lst xs) ∧ xs[i]? = some x,
  fun i H x H' => ∃ p y, H p = none ∧ x = .ref p ∧ (∀ xs, H a = some (.lst xs) → xs[i]? = some y) ∧ H' = upd H p (.tup [.int (i : Nat), y]), fun i H => ∃ xs, H a = some (.lst xs) ∧ xs.length ≤ i⟩
theorem turn_enum {P : Program} {w : World} {K : PySem.W.Frag} {es : List Expr} {k : Nat} {pos : Pos} (a e it : Addr) (hne : e ≠ it) :
    Turn P w K (.Tuple es k pos) (Ite a) [e, it] e (fun i h => (∃ old, IsEnum h e it i old) ∧ h.IsListIter it a i) where
  mem := by simp
  obj := fun i h st b hb => by
    obtain ⟨⟨old, he⟩, o, h1, h2, h3⟩ := st
    rcases List.mem_cons.mp hb with rfl | hb
    · exact ⟨_, he, fun v z => by cases z⟩
    · rw [List.mem_singleton.mp hb]
      exact ⟨o, h1, fun v z => by rw [h3] at z; cases z⟩
  keep := fun i h h' st kp => by
    obtain ⟨⟨old, he⟩, o, h1, r⟩ := st
    exact ⟨⟨old, kp e (by simp) _ he⟩, o, kp it (by simp) o h1, r⟩
  item := by
    intro X hP hw hK hc i pins s σ H E I hf st hg
    subst hP hw hK
    obtain ⟨⟨old, he⟩, hit⟩ := st
    obtain ⟨xs, x, hl, hx⟩ := hg
    obtain ⟨z, its, n, r, hlen, eo⟩ := I.lstM hl
    obtain ⟨u, hu, ru⟩ := Vals.get r hx
    have hil : s.heap.IsList a its.toArray := ⟨_, eo, rfl, _, rfl⟩
    refine wpAny_pyNext_enum_item he hit hil (x := u) (by simpa using hu) hne fun h1 e1 e2 e3 e4 e5 => ?_
    refine ⟨_, rfl, wpAny_letOwnedTupleGo_enum e1 fun h2 e6 sb => ?_⟩
    have hps : s.heap.objs.size ≠ e := fun q => absurd (Heap.lt_size he) (by rw [← q]; exact Nat.lt_irrefl _)
    have hpi : s.heap.objs.size ≠ it := fun q => by
      obtain ⟨o, ho, _⟩ := hit
      exact absurd (Heap.lt_size ho) (by rw [← q]; exact Nat.lt_irrefl _)
    have hn : H s.heap.objs.size = none := I.hok.fresh (Nat.le_refl _)
    have e3' : h2.get? s.heap.objs.size = some { cls := .type "tuple", data := .seq #[.int i s.toks, u] } := (sb.2 _ hps).trans e3
    have J : Inv X pins σ (upd H s.heap.objs.size (.tup [.int (i : Nat), x])) { s with heap := h2, toks := s.toks + 1 } := by
      refine I.turnedNew (ch := [e, it]) (fun b o hb q => ?_) hf (Nat.le_refl _) ⟨by rw [sizeLine_eq]; show 2 ≤ 16777216; decide, [.int i s.toks, u], .cons ⟨_, rfl⟩ (.cons ru .nil), _, e3', rfl, 0, rfl⟩
      have b1 : b ≠ e := fun z => hb (by simp [z])
      have b2 : b ≠ it := fun z => hb (by simp [z])
      exact (sb.2 b b1).trans (e5 b o b1 b2 q)
    refine ⟨.ref s.heap.objs.size, _, J, rfl, ⟨s.heap.objs.size, x, hn, rfl, fun ys hy => ?_, rfl⟩, ⟨⟨u, ?_⟩, ?_⟩, fun b hb => ?_⟩
    · rw [hl] at hy
      cases hy
      exact hx
    · have e6' : IsEnum h2 e it ((i : Int) + 1) u := e6
      have e7 : ((i + 1 : Nat) : Int) = (i : Int) + 1 := by omega
      rw [e7]
      exact e6'
    · obtain ⟨o, ho, r⟩ := e2
      exact ⟨o, (sb.2 it (Ne.symm hne)).trans ho, r⟩
    · have hb' : b ≠ s.heap.objs.size := by
        rcases List.mem_cons.mp hb with rfl | hb
        · exact hps.symm
        · rw [List.mem_singleton.mp hb]; exact hpi.symm
      rw [upd_ne hb']
      exact (hf b hb).1
  done := by
    intro X hP hw hK hc i pins s σ H E I hf st hg
    subst hP hw hK
    obtain ⟨⟨old, he⟩, hit⟩ := st
    obtain ⟨xs, hl, hx⟩ := hg
    obtain ⟨z, its, n, r, hlen, eo⟩ := I.lstM hl
    have hil : s.heap.IsList a its.toArray := ⟨_, eo, rfl, _, rfl⟩
    refine wpAny_pyNext_enum_end (I.ok.hd hc) he hit hil (by simp; omega) fun h1 eb => ⟨rfl, I.turnedN (ch := [e, it]) (t' := s.toks) (fun b o hb q => eb b o (fun z => hb (by simp [z])) q) hf⟩
  self := fun _ _ _ _ _ st h => by
    obtain ⟨⟨old, he⟩, _⟩ := st
    exact wpAny_pyIter_enum he h
def iEnum (ta : TA) : TI := fun σ H R => ta σ H fun vs H1 => ∃ a xs, vs = [.ref a] ∧ H1 a = some (.lst xs) ∧ R (Ite a) H1
theorem pi_enum {X : Cx} {es : List Expr} {k : Nat} {tpos : Pos} {e : Expr} {ta : TA} {p pos : Pos} (hg : Gl X "enumerate") (hm : X.mg "enumerate" = none) (ha : PA X [e] ta) (hs : starEach [e] X.env = [(false, eval e X.env)] := by rfl) :
    PI X (.Tuple es k tpos) (.Call (.Name "enumerate" p) [e] [] pos) (iEnum ta) := by
  intro pins s σ H R I h
  refine wpAny_Call_Name_kw (ld_blt I hg hm bt_enumerate ?_ (by decide) (by decide))
  refine PyProof.Rows.callWith_type1 (thn (ha pos pins s σ H _ I h) fun us s1 ⟨vs, H1, I1, r1, a, xs, e1, hl, q⟩ => ?_) hs rfl
  subst e1
  obtain ⟨u, rfl, ru⟩ := vals1 r1
  cases ru
  obtain ⟨z, its, n, r, hlen, eo⟩ := I1.lstM hl
  refine call_enumerate_1 (n := n) eo fun h2 e1 e2 e3 e4 => ?_
  have I2 : Inv X pins σ H1 { s1 with heap := h2 } := I1.kept (t' := s1.toks) e4
  have hne : s1.heap.objs.size + 1 ≠ s1.heap.objs.size := Nat.succ_ne_self _
  refine wpAny_pyIter_enum e1 ?_
  refine ⟨s1.heap.objs.size + 1, [s1.heap.objs.size + 1, s1.heap.objs.size], _, _, H1, rfl, I2, turn_enum a _ _ hne, ⟨⟨_, e1⟩, e2⟩, fun b hb => ?_, q⟩
  have hb' : s1.heap.objs.size ≤ b := by
    rcases List.mem_cons.mp hb with rfl | hb
    · omega
    · rw [List.mem_singleton.mp hb]
      exact Nat.le_refl _
  exact I1.fpOk hb' (I1.hok.fresh hb')
theorem for_enum {a : Addr} {xs : List V} {g : TG} {tb : TS} {D : Ends} {σ : St} {H : Hp} (Pv : Nat → St → Hp → Prop) (h0 : Pv 0 σ H) (hl : ∀ i σ H, Pv i σ H → H a = some (.lst xs))
    (hs : ∀ (i : Nat) x σ H p, xs[i]? = some x → Pv i σ H → H p = none → g (.ref p) σ (upd H p (.tup [.int (i : Nat), x])) fun σ2 H2 => tb { D with nx := Pv (i + 1), ct := Pv (i + 1), bk := D.nx } σ2 H2) (hd : ∀ σ H, Pv xs.length σ H → D.nx σ H) :
    ∃ W : Nat → Nat → St → Hp → Prop, (∃ m, W 0 m σ H) ∧ ∀ i m σ H, W i m σ H →
      ((Ite a).stop i H ∧ D.nx σ H) ∨ ((Ite a).go i H ∧ ∃ N : St → Hp → Prop, (∀ σ' H', N σ' H' → ∃ m', m' < m ∧ W (i + 1) m' σ' H') ∧ ∀ x H', (Ite a).yld i H x H' → g x σ H' fun σ2 H2 => tb { D with nx := N, ct := N, bk := D.nx } σ2 H2) := by
  refine ⟨fun i m σ H => m = xs.length - i ∧ i ≤ xs.length ∧ Pv i σ H, ⟨_, rfl, Nat.zero_le _, h0⟩, ?_⟩
  rintro i m σ H ⟨rfl, hi, p⟩
  have q := hl i σ H p
  by_cases hlt : i < xs.length
  · refine .inr ⟨⟨xs, xs[i], q, by simp [hlt]⟩, Pv (i + 1), fun σ' H' p' => ⟨_, by omega, rfl, hlt, p'⟩, fun x H' y => ?_⟩
    obtain ⟨b, v, hb, rfl, hv, rfl⟩ := y
    exact hs i v σ H b (hv xs q) p hb
  · have e : i = xs.length := by omega
    subst e
    exact .inl ⟨⟨xs, q, Nat.le_refl _⟩, hd σ H p⟩
def Itz (a b : Addr) : It := ⟨fun i H => ∃ xs ys x y, H a = some (.lst xs) ∧ H b = some (.lst ys) ∧ xs[i]? = some x ∧ ys[i]? = some y,
  fun i H v H' => ∃ p x y, H p = none ∧ v = .ref p ∧ (∀ xs, H a = some (.lst xs) → xs[i]? = some x) ∧ (∀ ys, H b = some (.lst ys) → ys[i]? = some y) ∧ H' = upd H p (.tup [x, y]),
  fun i H => ∃ xs ys, H a = some (.lst xs) ∧ H b = some (.lst ys) ∧ (xs.length ≤ i ∨ ys.length ≤ i)⟩
def iZip (ta : TA) : TI := fun σ H R => ta σ H fun vs H1 => ∃ a b xs ys, vs = [.ref a, .ref b] ∧ H1 a = some (.lst xs) ∧ H1 b = some (.lst ys) ∧ R (Itz a b) H1
end L2
set_option Elab.async false
set_option linter.all false
set_option maxRecDepth 100000
set_option maxHeartbeats 4000000
namespace NumM
open PySem PySem.NumText
def digB (l : List Nat) : Bool := decide (1 ≤ l.length ∧ l.length ≤ 12) && l.all fun c => decide (48 ≤ c ∧ c ≤ 57)
def bareL (l : List Nat) : List Nat := if l.head? = some 45 then l.tail else l
def valS (l : List Nat) : Int := if l.head? = some 45 then -((digitsVal (bareL l) : Nat) : Int) else ((digitsVal (bareL l) : Nat) : Int)
def badZ (l : List Nat) : Bool := decide ((bareL l).head? = some 48) && decide (l ≠ [48])
def numO (l : List Nat) : Option Int := if (digB (bareL l) && !badZ l) = true then some (valS l) else none
def codesI (n : Int) : List Nat := (toString n : String).toList.map Char.toNat
theorem digB_all {l : List Nat} (h : digB l = true) : AllDigits l ∧ 1 ≤ l.length ∧ l.length ≤ 12 := by
  unfold digB at h
  rw [Bool.and_eq_true, decide_eq_true_eq, List.all_eq_true] at h
  exact ⟨fun c hc => by have := h.2 c hc; simpa using this, h.1⟩
theorem codes_nat (m : Nat) : codesI (m : Int) = (Nat.toDigits 10 m).map Char.toNat := by
  unfold codesI
  show (Nat.repr m).toList.map Char.toNat = _
  rw [Nat.toList_repr]
theorem codes_neg (m : Nat) (h : 0 < m) : codesI (-(m : Int)) = 45 :: (Nat.toDigits 10 m).map Char.toNat := by
  obtain ⟨k, rfl⟩ : ∃ k, m = k + 1 := ⟨m - 1, by omega⟩
  have e : -((k + 1 : Nat) : Int) = Int.negSucc k := rfl
  rw [e]
  unfold codesI
  have e2 : (toString (Int.negSucc k) : String) = "-" ++ Nat.repr (k + 1) := rfl
  rw [e2, String.toList_append, Nat.toList_repr]
  rfl
theorem toNat_ofNat {c : Nat} (h : c < 128) : (Char.ofNat c).toNat = c := by
  have : c.isValidChar := Or.inl (by omega)
  simp [Char.ofNat, this, Char.toNat, Char.ofNatAux]
theorem back {cs : List Nat} (h : AllDigits cs) : (cs.map Char.ofNat).map Char.toNat = cs := by
  rw [List.map_map]
  induction cs with
  | nil => rfl
  | cons c cs ih =>
    rw [List.map_cons, ih h.tail]
    have := h.head
    show (Char.ofNat c).toNat :: cs = _
    rw [toNat_ofNat (by omega)]
theorem drop_all {cs : List Nat} (h : AllDigits cs) : AllDigits (cs.dropWhile (· == 48)) := by
  induction cs with
  | nil => exact h
  | cons c cs ih =>
    rw [List.dropWhile_cons]
    split
    · exact ih h.tail
    · exact h
theorem codes_val {cs : List Nat} (h : AllDigits cs) : (Nat.toDigits 10 (digitsVal cs)).map Char.toNat = if cs.dropWhile (· == 48) = [] then [48] else cs.dropWhile (· == 48) := by
  rw [toDigits_all cs h]
  have hd := drop_all h
  split
  · rename_i e
    rw [if_pos e]; rfl
  · rename_i c r e
    rw [if_neg (by rw [e]; exact List.cons_ne_nil _ _), e]
    rw [e] at hd
    exact back hd
theorem drop_len (cs : List Nat) : (cs.dropWhile (· == 48)).length ≤ cs.length := by
  induction cs with
  | nil => exact Nat.le_refl _
  | cons c cs ih =>
    rw [List.dropWhile_cons]
    split
    · rw [List.length_cons]; omega
    · exact Nat.le_refl _
theorem val_eq {cs : List Nat} (h : AllDigits cs) (h1 : 1 ≤ cs.length) : (Nat.toDigits 10 (digitsVal cs)).map Char.toNat = cs ↔ ¬ (cs.head? = some 48 ∧ cs ≠ [48]) := by
  rw [codes_val h]
  match cs, h1 with
  | c :: r, _ =>
    by_cases hc : c = 48
    · subst hc
      have e : (48 :: r).dropWhile (· == 48) = r.dropWhile (· == 48) := by rw [List.dropWhile_cons]; rfl
      rw [e]
      have hl := drop_len r
      constructor
      · intro q z
        by_cases hn : r.dropWhile (· == 48) = []
        · rw [if_pos hn] at q; exact z.2 q.symm
        · rw [if_neg hn] at q
          have := congrArg List.length q
          rw [List.length_cons] at this
          omega
      · intro z
        have hr : r = [] := by
          by_cases hr : r = []
          · exact hr
          · exact absurd ⟨rfl, by simpa using hr⟩ z
        subst hr
        rfl
    · have e : (c :: r).dropWhile (· == 48) = c :: r := by
        rw [List.dropWhile_cons, if_neg (by simpa using hc)]
      rw [e, if_neg (List.cons_ne_nil _ _)]
      constructor
      · intro _ z
        exact hc (by simpa using z.1)
      · intro _; rfl
theorem val_zero {cs : List Nat} (h : AllDigits cs) (h1 : 1 ≤ cs.length) (hz : digitsVal cs = 0) : cs.head? = some 48 := by
  match cs, h1 with
  | c :: r, _ =>
    have hc := h.head
    by_cases e : c = 48
    · rw [e]; rfl
    · have := digitsVal_pos (c := c) (cs := r) (by omega)
      omega
theorem str_back {l : List Nat} (h : digB (bareL l) = true) : codesI (valS l) = l ↔ badZ l = false := by
  obtain ⟨ha, h1, h2⟩ := digB_all h
  have hb : badZ l = false ↔ ¬ ((bareL l).head? = some 48 ∧ l ≠ [48]) := by
    unfold badZ
    rw [← Bool.not_eq_true, Bool.and_eq_true, decide_eq_true_eq, decide_eq_true_eq]
  rw [hb]
  by_cases hn : l.head? = some 45
  · obtain ⟨r, rfl⟩ : ∃ r, l = 45 :: r := by
      cases l with
      | nil => cases hn
      | cons c r => exact ⟨r, by rw [show c = 45 by simpa using hn]⟩
    have eb : bareL (45 :: r) = r := rfl
    have ev : valS (45 :: r) = -((digitsVal r : Nat) : Int) := rfl
    rw [eb] at ha h1 ⊢
    rw [ev]
    by_cases hz : digitsVal r = 0
    · rw [hz]
      have e0 : codesI (-((0 : Nat) : Int)) = [48] := by decide
      rw [e0]
      constructor
      · intro z; cases z
      · intro z; exact absurd ⟨val_zero ha h1 hz, by intro q; cases q⟩ z
    · rw [codes_neg _ (by omega)]
      have := val_eq ha h1
      constructor
      · intro q z
        injection q with _ q
        have q' := this.mp q
        refine q' ⟨z.1, ?_⟩
        intro e
        rw [e] at hz
        exact hz (by decide)
      · intro z
        rw [this.mpr fun q => z ⟨q.1, by intro e; cases e⟩]
  · have eb : bareL l = l := by unfold bareL; rw [if_neg hn]
    have ev : valS l = ((digitsVal l : Nat) : Int) := by unfold valS; rw [if_neg hn, eb]
    rw [eb] at ha h1 ⊢
    rw [ev, codes_nat]
    exact val_eq ha h1
end NumM
namespace L2
open PySem PySem.Spec PyProof.Rows
def mixed (c k : Int) : Int := if c % 4 = 1 then c / 2 ^ (2 + 40 * k).toNat % 2 ^ (40 : Int).toNat else
  ((((c + 7919 * k) % 2147483647 * 48271 + k) % 2147483647) * ((((c + 7919 * k) % 2147483647 * 48271 + k) % 2147483647) + 7) % 2147483629) * (((((c + 7919 * k) % 2147483647 * 48271 + k) % 2147483647) * ((((c + 7919 * k) % 2147483647 * 48271 + k) % 2147483647) + 7) % 2147483629) + 3) % 2147483587
theorem mixed_bd (c k : Int) : 0 ≤ mixed c k ∧ mixed c k < 1099511627776 := by
  unfold mixed
  split
  · rw [show ((2 : Int) ^ (40 : Int).toNat) = 1099511627776 by decide]
    omega
  · generalize (((c + 7919 * k) % 2147483647 * 48271 + k) % 2147483647) * ((((c + 7919 * k) % 2147483647 * 48271 + k) % 2147483647) + 7) % 2147483629 = n
    generalize n * (n + 3) = m
    omega
def cellAt (ns : List Int) (k : Int) : Int := if k < ns.length then ns.getD k.toNat 0 else 7919 * k + 14
theorem small_log {i : Int} (h : i.natAbs < 2 ^ 64) : i.natAbs.log2 < 1920 := by
  by_cases h0 : i.natAbs = 0
  · rw [h0]; decide
  · have := (Nat.log2_lt h0).mpr h
    omega
theorem toStr_codes (n : Int) : ((toString n : String) : Str).cps.toList = NumM.codesI n := signs_ofString _
theorem dig_len : ∀ (k m : Nat), m < 10 ^ (k + 1) → (Nat.toDigits 10 m).length ≤ k + 1
  | 0, m, h => by
    rw [Nat.toDigits_of_lt_base (by simpa using h)]
    exact Nat.le_refl _
  | k + 1, m, h => by
    by_cases hm : m < 10
    · rw [Nat.toDigits_of_lt_base hm]
      simp
    · have hr : m % 10 < 10 := Nat.mod_lt m (by decide)
      have t : Nat.toDigits 10 (m / 10) ++ Nat.toDigits 10 (m % 10) = Nat.toDigits 10 (10 * (m / 10) + m % 10) := Nat.toDigits_append_toDigits (by decide) (by omega) hr
      rw [Nat.div_add_mod] at t
      rw [← t, List.length_append, Nat.toDigits_of_lt_base hr]
      have := dig_len k (m / 10) (by rw [Nat.pow_succ] at h; omega)
      simp only [List.length_cons, List.length_nil]
      omega
theorem codes_len {k : Nat} {n : Int} (h : n.natAbs < 10 ^ (k + 1)) : (NumM.codesI n).length ≤ k + 2 := by
  by_cases h0 : 0 ≤ n
  · obtain ⟨m, rfl⟩ := Int.eq_ofNat_of_zero_le h0
    rw [NumM.codes_nat, List.length_map]
    have := dig_len k m (by simpa using h)
    omega
  · obtain ⟨m, rfl⟩ : ∃ m : Nat, n = -(m : Int) := ⟨n.natAbs, by omega⟩
    rw [NumM.codes_neg m (by omega), List.length_cons, List.length_map]
    have := dig_len k m (by simpa using h)
    omega
theorem codes_ascii {n : Int} {c : Nat} (h : c ∈ NumM.codesI n) : c = 45 ∨ (48 ≤ c ∧ c ≤ 57) := by
  by_cases hc : c = 45 ∨ (48 ≤ c ∧ c ≤ 57)
  · exact hc
  · exact absurd (by rw [← toStr_codes] at h; exact h) (int_text_free' c ⟨by omega, by omega⟩ n)
def oV : Option Int → V
  | none => .non
  | some n => .int n
def within (lo hi : Int) : Option Int → Option Int
  | some n => if lo ≤ n ∧ n ≤ hi then some n else none
  | none => none
theorem cut1_codes (t : Str) : (cutS t (some 1) none).cps.toList = t.cps.toList.tail := by
  unfold cutS
  rw [List.toList_toArray]
  have e : HT.sIx t.cps.size 0 (some 1) = min 1 t.cps.size := HT.sIx_nat _ _ 1
  have e2 : HT.sIx t.cps.size t.cps.size none = t.cps.size := rfl
  rw [e, e2]
  obtain ⟨⟨l⟩⟩ := t
  cases l with
  | nil => rfl
  | cons a l => simp
def madeB (t S : Str) (m : Int) : Bool := decide (1 ≤ (t.cps.size : Int) ∧ (t.cps.size : Int) ≤ m) && t.cps.toList.all fun c => decide (c ∈ S.cps.toList)
theorem figures_codes (c : Nat) : c ∈ ("0123456789" : Str).cps.toList ↔ 48 ≤ c ∧ c ≤ 57 := by
  have e : ("0123456789" : Str).cps.toList = [48, 49, 50, 51, 52, 53, 54, 55, 56, 57] := by decide +kernel
  rw [e]
  simp only [List.mem_cons, List.not_mem_nil, or_false]
  omega
theorem made_fig (t : Str) : madeB t "0123456789" 12 = NumM.digB t.cps.toList := by
  unfold madeB NumM.digB
  have e : (fun c => decide (c ∈ ("0123456789" : Str).cps.toList)) = fun c => decide (48 ≤ c ∧ c ≤ 57) := by
    funext c
    rw [Bool.eq_iff_iff, decide_eq_true_eq, decide_eq_true_eq]
    exact figures_codes c
  rw [e]
  congr 1
  rw [Bool.eq_iff_iff, decide_eq_true_eq, decide_eq_true_eq]
  simp only [Array.length_toList]
  omega
end L2
set_option Elab.async false
set_option linter.all false
set_option maxRecDepth 100000
set_option maxHeartbeats 4000000
namespace SplM
open PySem
def splitC (c : Nat) : List Nat → List (List Nat)
  | [] => [[]]
  | a :: l => if a = c then [] :: splitC c l else match splitC c l with
    | [] => [[a]]
    | p :: r => (a :: p) :: r
def joinC (c : Nat) : List (List Nat) → List Nat
  | [] => []
  | [p] => p
  | p :: q :: r => p ++ c :: joinC c (q :: r)
theorem splitC_ne (c : Nat) : ∀ l, splitC c l ≠ []
  | [] => by simp [splitC]
  | a :: l => by
    unfold splitC
    split
    · exact List.cons_ne_nil _ _
    · split <;> exact List.cons_ne_nil _ _
theorem joinC_cons (c : Nat) (p : List Nat) {r : List (List Nat)} (h : r ≠ []) : joinC c (p :: r) = p ++ c :: joinC c r := by
  cases r with
  | nil => exact absurd rfl h
  | cons q r => rfl
theorem split_app (c : Nat) : ∀ (p l : List Nat), c ∉ p → splitC c (p ++ c :: l) = p :: splitC c l
  | [], l, _ => by simp [splitC]
  | a :: p, l, h => by
    have ha : a ≠ c := fun e => h (by rw [e]; exact List.mem_cons_self)
    have ih := split_app c p l fun z => h (List.mem_cons_of_mem _ z)
    rw [List.cons_append, splitC, if_neg ha, ih]
theorem split_free (c : Nat) : ∀ (p : List Nat), c ∉ p → splitC c p = [p]
  | [], _ => rfl
  | a :: p, h => by
    have ha : a ≠ c := fun e => h (by rw [e]; exact List.mem_cons_self)
    unfold splitC
    rw [if_neg ha, split_free c p fun z => h (List.mem_cons_of_mem _ z)]
theorem split_join (c : Nat) : ∀ (ps : List (List Nat)), ps ≠ [] → (∀ p ∈ ps, c ∉ p) → splitC c (joinC c ps) = ps
  | [], h, _ => absurd rfl h
  | [p], _, h => split_free c p (h p List.mem_cons_self)
  | p :: q :: r, _, h => by
    rw [joinC, split_app c p _ (h p List.mem_cons_self), split_join c (q :: r) (List.cons_ne_nil _ _) fun x hx => h x (List.mem_cons_of_mem _ hx)]
theorem join_split (c : Nat) : ∀ l, joinC c (splitC c l) = l
  | [] => rfl
  | a :: l => by
    have ih := join_split c l
    unfold splitC
    split
    · rename_i e
      rw [joinC_cons c [] (splitC_ne c l), ih, e]; rfl
    · cases hs : splitC c l with
      | nil => exact absurd hs (splitC_ne c l)
      | cons p r =>
        rw [hs] at ih
        show joinC c ((a :: p) :: r) = a :: l
        cases r with
        | nil => rw [← ih]; rfl
        | cons q r => rw [← ih]; rfl
theorem split_len (c : Nat) : ∀ l, (splitC c l).length ≤ l.length + 1
  | [] => Nat.le_refl _
  | a :: l => by
    have ih := split_len c l
    unfold splitC
    split
    · simp only [List.length_cons]; omega
    · cases hs : splitC c l with
      | nil => simp
      | cons q r => rw [hs] at ih; simp only [List.length_cons] at ih ⊢; omega
theorem codes_join (c : Nat) : ∀ ts : List Str, (Str.join ⟨#[c]⟩ ts).cps.toList = joinC c (ts.map fun t => t.cps.toList)
  | [] => rfl
  | [t] => rfl
  | t :: u :: r => by
    have ih := codes_join c (u :: r)
    show (t ++ (⟨#[c]⟩ : Str) ++ Str.join ⟨#[c]⟩ (u :: r)).cps.toList = _
    rw [Str.cps_append, Str.cps_append, Array.toList_append, Array.toList_append, ih]
    show t.cps.toList ++ [c] ++ _ = t.cps.toList ++ c :: _
    rw [List.append_assoc]; rfl
theorem codes_split (x : Str) (c : Nat) : (Txt.split x ⟨#[c]⟩).map (fun t => t.cps.toList) = splitC c x.cps.toList := by
  have h1 := StrLaws.join_split x ⟨#[c]⟩
  have h2 := StrLaws.split_free x c
  have hne : Txt.split x ⟨#[c]⟩ ≠ [] := by
    unfold Txt.split
    split
    · exact List.cons_ne_nil _ _
    · split
      · exact List.cons_ne_nil _ _
      · rw [StrLaws.partsBetween_eq]
        obtain ⟨p, r, e⟩ := StrLaws.partsFrom_ne x (⟨#[c]⟩ : Str).length 0 (Builtin.Str.occurrences x ⟨#[c]⟩ 0 x.length (x.length + 1))
        rw [e]; exact List.cons_ne_nil _ _
  have h3 := codes_join c (Txt.split x ⟨#[c]⟩)
  rw [h1] at h3
  rw [h3, split_join c _ (by simpa using hne) ?_]
  intro p hp
  obtain ⟨t, ht, rfl⟩ := List.mem_map.mp hp
  exact h2 t ht
end SplM
namespace L2
open PySem PySem.Spec PyProof.Rows
section
variable {X : Cx}
theorem vals_strs : ∀ {ts : List Str} {us : List Value}, Vals (ts.map V.str) us → StrsAre us ts
  | [], us, r => by
    rw [List.map_nil] at r
    cases r
    exact .nil
  | t :: ts, us, r => by
    rw [List.map_cons] at r
    cases r with
    | cons r1 r2 =>
      obtain ⟨k, rfl⟩ := r1
      exact .cons t k (vals_strs r2)
def rJoin (K : PySem.W.Frag) : V → List V → Hp → VK → Prop := fun x xs H Q => ∃ (z : Str) (p : Addr) (ts : List Str), x = .str z ∧ xs = [.ref p] ∧ (SqL K H p (ts.map V.str) ∨ SqT K H p (ts.map V.str)) ∧
  (ts.map (·.length)).sum + ts.length * z.length ≤ 16777216 ∧ Q (.str (Txt.join z ts)) H
theorem mt_join : MtR X "str.join" (rJoin X.K) := by
  intro pins s σ H x xs v us Q I rx rs h
  obtain ⟨z, p, ts, rfl, rfl, hp, hz, q⟩ := h
  obtain ⟨t, rfl⟩ := rx
  obtain ⟨u, rfl, ru⟩ := vals1 rs
  cases ru
  rcases hp with hp | hp
  · obtain ⟨its, r, pl, _⟩ := I.list hp
    exact join_list pl.isList (by simpa using vals_strs r) hz fun t' k => ⟨.str _, H, I.tok _, ⟨_, rfl⟩, q⟩
  · obtain ⟨its, r, pl, _⟩ := I.tuple hp
    exact join_tuple pl (by simpa using vals_strs r) hz fun t' k => ⟨.str _, H, I.tok _, ⟨_, rfl⟩, q⟩
theorem vals_of_strs : ∀ (l : List (Str × Tok)), Vals ((l.map (·.1)).map V.str) (strValues l)
  | [] => .nil
  | p :: l => .cons ⟨p.2, rfl⟩ (vals_of_strs l)
open Builtin.Str in
theorem split_new {P : Program} {w : World} {A : Around} {E : Value → Shared → Prop} {s : Shared} {x y : Str} {t u : Tok} {Q : Value → Shared → Prop} (hy : (y.length == 0) = false) (hx : x.length ≤ sizeLine)
    (hp : (partsBetween x (occurrences x y 0 x.length (x.length + 1)) y.length).length ≤ sizeLine)
    (h : ∀ (l : List (Str × Tok)) (k : Nat), l.map (·.1) = Txt.split x y → Q (.ref s.heap.objs.size) { s with heap := s.heap.push { cls := .type "list", data := .seq (strValues l).toArray }, toks := k }) :
    wpAny (model P w) A (call (.builtin "str.split") [.str x t, .str y u]) Q E s := by
  by_cases h1 : (decide (x.length < y.length) || decide (strKind x < strKind y)) = true
  · refine call_meets F.slot_str_split (typeIs_str s x t) F.entry_str_split (F.args_str_split_2 _ _) (meets_str_split_cannot_occur x y t u h1) ?_
    exact h [(x, t)] s.toks (by unfold Txt.split; rw [if_pos h1]; rfl)
  · have h1' := eq_false_of_ne_true h1
    by_cases h2 : (occurrences x y 0 x.length (x.length + 1)).isEmpty = true
    · refine call_meets F.slot_str_split (typeIs_str s x t) F.entry_str_split (F.args_str_split_2 _ _) (meets_str_split_not_found x y t u h1' hy h2) ?_
      exact h [(x, t)] s.toks (by unfold Txt.split; rw [if_neg h1, if_pos h2]; rfl)
    · have h2' := eq_false_of_ne_true h2
      refine call_meets F.slot_str_split (typeIs_str s x t) F.entry_str_split (F.args_str_split_2 _ _) (meets_str_split_sep x y t u h1' hy h2' hx hp) ?_
      have := h (numbered s.toks (partsBetween x (occurrences x y 0 x.length (x.length + 1)) y.length)) (s.toks + (partsBetween x (occurrences x y 0 x.length (x.length + 1)) y.length).length)
        ((numbered_texts _ _).trans (by unfold Txt.split; rw [if_neg h1, if_neg h2]))
      rw [← strsFrom_eq] at this
      exact this
def rSplit : V → List V → Hp → VK → Prop := fun x xs H Q => ∃ (z : Str) (c : Nat), x = .str z ∧ xs = [.str ⟨#[c]⟩] ∧ z.cps.size + 2 ≤ sizeLine ∧
  ∀ (l : Addr) (ts : List Str), H l = none → ts.map (fun t => t.cps.toList) = SplM.splitC c z.cps.toList → Q (.ref l) (upd H l (.lst (ts.map V.str)))
theorem mt_split : MtR X "str.split" rSplit := by
  intro pins s σ H x xs v us Q I rx rs h
  obtain ⟨z, c, rfl, rfl, hz, q⟩ := h
  obtain ⟨t, rfl⟩ := rx
  obtain ⟨u, rfl, t', rfl⟩ := vals1 rs
  have hs : (Txt.split z ⟨#[c]⟩).length ≤ sizeLine := by
    have h1 := congrArg List.length (SplM.codes_split z c)
    have h2 := SplM.split_len c z.cps.toList
    rw [List.length_map] at h1
    simp only [Array.length_toList] at h2
    omega
  have hpl : (Builtin.Str.partsBetween z (Builtin.Str.occurrences z ⟨#[c]⟩ 0 z.length (z.length + 1)) (⟨#[c]⟩ : Str).length).length ≤ sizeLine := by
    have h1 := PySem.StrLaws.occ_length_le z ⟨#[c]⟩ 0 z.length (z.length + 1)
    rw [PySem.StrLaws.partsBetween_eq]
    have h3 : ∀ (cuts : List Nat) (a : Nat), (PySem.StrLaws.partsFrom z (⟨#[c]⟩ : Str).length a cuts).length = cuts.length + 1 := by
      intro cuts
      induction cuts with
      | nil => intro a; rfl
      | cons d cuts ih => intro a; show (_ :: _).length = _; rw [List.length_cons, ih]; rfl
    rw [h3]
    have h4 := PySem.StrLaws.occ_length_le_len z ⟨#[c]⟩ 0 z.length (z.length + 1)
    have e : z.length = z.cps.size := rfl
    omega
  refine split_new rfl (show z.cps.size ≤ sizeLine by omega) hpl fun l k e => ?_
  refine ⟨.ref s.heap.objs.size, _, I.lnew (t' := k) (ys := (l.map (·.1)).map V.str) (vals_of_strs l) (by rw [List.length_map, e]; exact hs), rfl, q _ _ (I.hok.fresh (Nat.le_refl _)) ?_⟩
  rw [e]
  exact SplM.codes_split z c
abbrev TJ := Str → St → Hp → (Str → Hp → Prop) → Prop
def PJ (X : Cx) (vs : List Expr) (t : TJ) : Prop := ∀ (pins : List (Addr × Obj)) (s : Shared) (σ : St) (H : Hp) (acc : Str) (Q : VK), Inv X pins σ H s → t acc σ H (fun out H' => Q (.str out) H') →
  wpAny (model X.prog X.w) X.A (joinParts acc (evalEach vs X.env)) (EP X pins σ Q) X.xe s
def jNil : TJ := fun acc _ H R => acc.length ≤ sizeLine ∧ R acc H
def jCons (te : TE) (tr : TJ) : TJ := fun acc σ H R => te σ H fun x H1 => match x with
  | .str y => (acc ++ y).length ≤ sizeLine ∧ tr (acc ++ y) σ H1 R
  | _ => False
theorem pj_nil : PJ X [] jNil := fun pins s σ H acc Q I h => joinParts_nil ⟨.str acc, H, I.tok _, ⟨_, rfl⟩, h.2⟩ h.1
theorem pj_cons {e : Expr} {es : List Expr} {te : TE} {tr : TJ} (he : PE X e te) (hr : PJ X es tr) : PJ X (e :: es) (jCons te tr) := by
  intro pins s σ H acc Q I h
  show wpAny _ _ (joinParts acc (eval e X.env :: evalEach es X.env)) _ _ s
  refine joinParts_cons (thn (he pins s σ H _ I h) fun v s1 ⟨x, H1, I1, r1, q1⟩ => ?_)
  cases x with
  | str y =>
    obtain ⟨t, rfl⟩ := r1
    exact ⟨q1.1, hr pins s1 σ H1 (acc ++ y) Q I1 q1.2⟩
  | _ => exact (show False from q1).elim
def tFstr (t : TJ) : TE := fun σ H Q => t Str.empty σ H fun out H' => Q (.str out) H'
theorem pe_fstr {v1 v2 : Expr} {rest : List Expr} {pos : Pos} {t : TJ} (h : PJ X (v1 :: v2 :: rest) t) : PE X (.JoinedStr (v1 :: v2 :: rest) pos) (tFstr t) := fun pins s σ H Q I q => JoinedStr_many (h pins s σ H Str.empty Q I q)
def tFmt (te : TE) : TE := fun σ H Q => te σ H fun x H1 => match x with
  | .str y => y.length ≤ sizeLine ∧ Q (.str y) H1
  | .int i => i.natAbs.log2 < 1920 ∧ Q (.str (toString i)) H1
  | _ => False
theorem pe_fmt {e : Expr} {te : TE} {pos : Pos} (he : PE X e te) : PE X (.FormattedValue e (-1) none pos) (tFmt te) := by
  intro pins s σ H Q I h
  refine FormattedValue_plain (thn (he pins s σ H _ I h) fun v s1 ⟨x, H1, I1, r1, q1⟩ => ?_)
  cases x with
  | str y =>
    obtain ⟨t, rfl⟩ := r1
    exact formatField_str (fun t' tk => ⟨.str y, H1, I1.tok _, ⟨_, rfl⟩, q1.2⟩) q1.1
  | int i =>
    obtain ⟨t, rfl⟩ := r1
    exact formatField_int_small q1.1 ⟨.str _, H1, I1.tok _, ⟨_, rfl⟩, q1.2⟩
  | _ => exact (show False from q1).elim
variable {o e : Expr} {es : List Expr} {to : TE} {t : TA} {apos cpos : Pos}
theorem pe_m.join (ho : PE X o to) (ha : PA X (e :: es) t) (hbase : attributeBase o "join" X.env (eval o X.env) = eval o X.env := by rfl)
    (hfew : ((backTo cpos (starEach (e :: es) X.env)).all (fun x => !x.1) && (backToKw cpos (keywordEach [] X.env)).all (fun x => x.1.isSome) && decide ((e :: es).length + ([] : List Keyword).length + (if ([] : List Keyword).isEmpty then 0 else 1) < 30)) = true := by rfl)
    (hline : (apos.endLine == cpos.line) = true := by rfl) (hs : starEach (e :: es) X.env = (false, eval e X.env) :: starEach es X.env := by rfl) (hplain : (backTo cpos (starEach es X.env)).any (·.1) = false := by rfl) :
    PE X (.Call (.Attribute o "join" apos) (e :: es) [] cpos) (tBM X.K "str" (rJoin X.K) to t) := pe_bm F.plainAttrs_str F.slot_str_join F.type_str_join mt_join ho ha hbase hfew hline hs hplain
theorem pe_m.split (ho : PE X o to) (ha : PA X (e :: es) t) (hbase : attributeBase o "split" X.env (eval o X.env) = eval o X.env := by rfl)
    (hfew : ((backTo cpos (starEach (e :: es) X.env)).all (fun x => !x.1) && (backToKw cpos (keywordEach [] X.env)).all (fun x => x.1.isSome) && decide ((e :: es).length + ([] : List Keyword).length + (if ([] : List Keyword).isEmpty then 0 else 1) < 30)) = true := by rfl)
    (hline : (apos.endLine == cpos.line) = true := by rfl) (hs : starEach (e :: es) X.env = (false, eval e X.env) :: starEach es X.env := by rfl) (hplain : (backTo cpos (starEach es X.env)).any (·.1) = false := by rfl) :
    PE X (.Call (.Attribute o "split" apos) (e :: es) [] cpos) (tBM X.K "str" rSplit to t) := pe_bm F.plainAttrs_str F.slot_str_split F.type_str_split mt_split ho ha hbase hfew hline hs hplain
theorem pe_m.append (ho : PE X o to) (ha : PA X (e :: es) t) (hbase : attributeBase o "append" X.env (eval o X.env) = eval o X.env := by rfl)
    (hfew : ((backTo cpos (starEach (e :: es) X.env)).all (fun x => !x.1) && (backToKw cpos (keywordEach [] X.env)).all (fun x => x.1.isSome) && decide ((e :: es).length + ([] : List Keyword).length + (if ([] : List Keyword).isEmpty then 0 else 1) < 30)) = true := by rfl)
    (hline : (apos.endLine == cpos.line) = true := by rfl) (hs : starEach (e :: es) X.env = (false, eval e X.env) :: starEach es X.env := by rfl) (hplain : (backTo cpos (starEach es X.env)).any (·.1) = false := by rfl) :
    PE X (.Call (.Attribute o "append" apos) (e :: es) [] cpos) (tBM X.K "list" rAppend to t) := pe_bm F.plainAttrs_list F.slot_list_append F.type_list_append mt_append ho ha hbase hfew hline hs hplain
theorem pe_m.pop (ho : PE X o to) (hbase : attributeBase o "pop" X.env (eval o X.env) = eval o X.env := by rfl) (hline : (apos.endLine == cpos.line) = true := by rfl) :
    PE X (.Call (.Attribute o "pop" apos) [] [] cpos) (tBM0 X.K "list" rPop to) := pe_bm0 F.plainAttrs_list F.slot_list_pop F.type_list_pop mt_pop ho hbase hline
end
def TK (H H' : Hp) : Prop := ∀ b xs, H b = some (.tup xs) → H' b = some (.tup xs)
theorem TK.trans {H H1 H2 : Hp} (a : TK H H1) (b : TK H1 H2) : TK H H2 := fun c o h => b c o (a c o h)
theorem Same.put {H H' : Hp} {D : Addr} {o : HO} (e : Same H H') (h : H D = none) : Same H (upd H' D o) := fun b u q => by
  rw [upd_ne (ne_of_none q h)]; exact e b u q
theorem cutV_take (xs : List V) (k : Nat) (h : k ≤ xs.length) : cutV xs none (some (k : Int)) = xs.take k := by
  unfold cutV
  rw [HT.sIx_nat, HT.sIx_none, List.drop_zero, Nat.sub_zero, Nat.min_eq_left h]
theorem cutV_drop (xs : List V) (k : Nat) : cutV xs (some (k : Int)) none = xs.drop k := by
  unfold cutV
  rw [HT.sIx_nat, HT.sIx_none]
  by_cases h : k ≤ xs.length
  · rw [Nat.min_eq_left h, List.take_of_length_le (by simp)]
  · rw [Nat.min_eq_right (by omega), Nat.sub_self, List.take_zero, List.drop_of_length_le (by omega)]
theorem inV_strs (n : Str) : ∀ ts : List Str, inV (.str n) (ts.map V.str) = decide (n ∈ ts)
  | [] => rfl
  | t :: ts => by
    have ih := inV_strs n ts
    unfold inV at ih ⊢
    rw [List.map_cons, List.any_cons, ih]
    by_cases h : t = n
    · have e : eqV (V.str t) (V.str n) = true := by rw [h]; simp only [eqV, beq_self_eq_true]
      rw [e, Bool.true_or, decide_eq_true (by rw [h]; exact List.mem_cons_self)]
    · have e : eqV (V.str t) (V.str n) = false := by simp only [eqV]; exact beq_false_of_ne h
      rw [e, Bool.false_or, Bool.eq_iff_iff, decide_eq_true_eq, decide_eq_true_eq, List.mem_cons]
      exact ⟨.inr, fun z => z.elim (fun q => absurd q.symm h) id⟩
theorem flat_strs : ∀ ts : List Str, (ts.map V.str).all flatV = true
  | [] => rfl
  | t :: ts => by rw [List.map_cons, List.all_cons, flat_strs ts]; rfl
def nameB (t : Str) : Bool := madeB t "abcdefghijklmnopqrstuvwxyz" 8
end L2
set_option Elab.async false
set_option linter.all false
set_option maxRecDepth 100000
set_option maxHeartbeats 4000000
namespace L2
open PySem PySem.Spec PyProof.Rows
structure U where
  name : Str
  value : Int
  size : Int
  path : List Str
def uV (p : Addr) (u : U) : List V := [.str u.name, .int u.value, .int u.size, .ref p]
def IsU (H : Hp) (u : U) (x : V) : Prop := ∃ a p, x = .ref a ∧ H a = some (.tup (uV p u)) ∧ H p = some (.tup (u.path.map V.str))
abbrev AllU (H : Hp) : List U → List V → Prop := Paired (IsU H)
theorem AllU.len {H : Hp} {us : List U} {xs : List V} (h : AllU H us xs) : us.length = xs.length := Paired.length h
structure GoodU (u : U) : Prop where
  nm : nameB u.name = true
  v0 : -1000000000 ≤ u.value
  v1 : u.value ≤ 1000000000
  s0 : 1 ≤ u.size
  s1 : u.size ≤ 1000000
  pl : u.path.length ≤ 3
  pn : ∀ n ∈ u.path, nameB n = true
structure GoodL (us : List U) : Prop where
  l1 : 1 ≤ us.length
  l2 : us.length ≤ 24
  each : ∀ u ∈ us, GoodU u
  nd : (us.map U.name).Nodup
  pth : ∀ u ∈ us, ∀ v ∈ us, u.path.length = v.path.length
def pathS : List Str → Str
  | [] => "-"
  | p :: r => Txt.join "." (p :: r)
def lineW (u : U) : List Str := [u.name, toString u.value, toString u.size, pathS u.path]
def lineS (u : U) : Str := Txt.join " " (lineW u)
theorem blank_code : (" " : Str) = ⟨#[32]⟩ := by decide +kernel
theorem join_codes (c : Nat) (ts : List Str) : (Txt.join ⟨#[c]⟩ ts).cps.toList = SplM.joinC c (ts.map fun t => t.cps.toList) := by
  show (Builtin.Str.glued ⟨#[c]⟩ ts).cps.toList = _
  rw [PySem.StrLaws.glued_eq_join]
  exact SplM.codes_join c ts
theorem len_joinC (c n : Nat) : ∀ ps : List (List Nat), (∀ p ∈ ps, p.length ≤ n) → (SplM.joinC c ps).length ≤ ps.length * (n + 1)
  | [], _ => Nat.zero_le _
  | [p], h => by
    show p.length ≤ 1 * (n + 1)
    have := h p List.mem_cons_self
    omega
  | p :: q :: r, h => by
    rw [SplM.joinC, List.length_append, List.length_cons]
    have h1 := len_joinC c n (q :: r) fun x hx => h x (List.mem_cons_of_mem _ hx)
    have h2 := h p List.mem_cons_self
    rw [List.length_cons] at h1
    rw [List.length_cons, List.length_cons, Nat.add_mul]
    omega
theorem strs_inj : ∀ {ts us : List Str}, ts.map (fun t => t.cps.toList) = us.map (fun t => t.cps.toList) → ts = us
  | [], [], _ => rfl
  | [], _ :: _, h => by cases h
  | _ :: _, [], h => by cases h
  | t :: ts, u :: us, h => by
    rw [List.map_cons, List.map_cons] at h
    injection h with h1 h2
    rw [ext_toList h1, strs_inj h2]
theorem num_codes {n : Int} (h : n.natAbs < 10 ^ 12) : NumM.numO (NumM.codesI n) = some n := by
  have hv : NumM.valS (NumM.codesI n) = n ∧ NumM.digB (NumM.bareL (NumM.codesI n)) = true := by
    have dig : ∀ m : Nat, m < 10 ^ 12 → NumM.digB ((Nat.toDigits 10 m).map Char.toNat) = true := fun m hm => by
      have h1 := dig_len 11 m hm
      have h2 := toDigits_len_ge 10 m
      unfold NumM.digB
      rw [decide_eq_true (by rw [List.length_map]; omega), Bool.true_and, List.all_eq_true]
      intro c hc
      have : c ∈ NumM.codesI (m : Int) := by rw [NumM.codes_nat]; exact hc
      have h3 := codes_ascii this
      obtain ⟨ch, hch, e⟩ := List.mem_map.mp hc
      have r := digit_range (Nat.isDigit_of_mem_toDigits (by decide) (by decide) hch)
      rw [← e]
      exact decide_eq_true r
    have head : ∀ m : Nat, ((Nat.toDigits 10 m).map Char.toNat).head? ≠ some 45 := fun m z => by
      have hm : 45 ∈ (Nat.toDigits 10 m).map Char.toNat := List.mem_of_mem_head? z
      obtain ⟨ch, hch, e⟩ := List.mem_map.mp hm
      have r := digit_range (Nat.isDigit_of_mem_toDigits (by decide) (by decide) hch)
      omega
    by_cases h0 : 0 ≤ n
    · obtain ⟨m, rfl⟩ := Int.eq_ofNat_of_zero_le h0
      rw [NumM.codes_nat]
      have eb : NumM.bareL ((Nat.toDigits 10 m).map Char.toNat) = (Nat.toDigits 10 m).map Char.toNat := by unfold NumM.bareL; rw [if_neg (head m)]
      refine ⟨?_, by rw [eb]; exact dig m (by simpa using h)⟩
      unfold NumM.valS
      rw [if_neg (head m), eb, PySem.W.KIN.val_back]
    · obtain ⟨m, rfl⟩ : ∃ m : Nat, n = -(m : Int) := ⟨n.natAbs, by omega⟩
      rw [NumM.codes_neg m (by omega)]
      have eb : NumM.bareL (45 :: (Nat.toDigits 10 m).map Char.toNat) = (Nat.toDigits 10 m).map Char.toNat := rfl
      refine ⟨?_, by rw [eb]; exact dig m (by simpa using h)⟩
      unfold NumM.valS
      rw [if_pos (show (45 :: (Nat.toDigits 10 m).map Char.toNat).head? = some 45 from rfl), eb, PySem.W.KIN.val_back]
  unfold NumM.numO
  rw [hv.2, (NumM.str_back hv.2).mp (by rw [hv.1]), hv.1]
  rfl
def uD (u : U) : PyData := .tuple [.str u.name, .int u.value, .int u.size, .tuple (u.path.map PyData.str)]
section
variable {X : Cx} {K : PySem.W.Frag}
theorem ix_seqK (h : X.K = K) : IxR X (rIx K) := h ▸ ix_seq
end
end L2
set_option Elab.async false
set_option linter.all false
set_option maxRecDepth 100000
set_option maxHeartbeats 4000000
namespace L2
open PySem PySem.Spec PyProof.Rows
structure XCls (K : PySem.W.Frag) (D : Addr) : Prop where
  ga : PySem.W.findIn K (.ref D) "__getattribute__" = some (some (.builtin "BaseException.__getattribute__"))
  gn : PySem.W.findIn K (.ref D) "__getattr__" = some none
  cl : PySem.W.findIn K (.ref D) "__class__" = some (some (.builtin "object.__class__"))
  mb : PySem.W.mroIn K D (.type "BaseException") = some true
  mo : PySem.W.mroIn K D (.type "object") = some true
  isc : (PySem.W.clsIn K D).isSome = true
section
variable {prog : Program} {w : World} {A : Around} {E : Value → Shared → Prop} {h : Heap} {g : Array GenState} {d : Drawn} {t : Nat} {os : OsState} {a D : Addr} {o : Obj} {K : PySem.W.Frag}
theorem xc_check {M : Model} {nameV : Value} {Q : Unit → Shared → Prop} (c : XCls K D) (X : K.In h) (hx : h.get? a = some o) (hc : o.cls = .ref D) (hq : Q () ⟨h, g, d, t, os⟩) :
    wpAny M A (checkBuiltinCall "BaseException.__getattribute__" ⟨[.ref a, nameV], []⟩) Q E ⟨h, g, d, t, os⟩ := by
  have hk : builtinKind "BaseException.__getattribute__" = some .slot := by decide +kernel
  have hsplit : splitId "BaseException.__getattribute__" = some ("BaseException", "__getattribute__") := by decide +kernel
  have ha := F.args_bexc_ga (.ref a) nameV
  simp only [checkBuiltinCall, hk, hsplit]
  refine wpAny_bind ?_
  unfold isInstance
  repeat (first | (with_reducible refine wpAny_loadPart_at hx ?_; rw [hc]) | with_reducible refine (PySem.W.looks_mroIn X c.mb).at ?_ | wp_step)
  exact hq
theorem xc_get {R : Result → Shared → Prop} (c : XCls K D) (X : K.In h) (hx : h.get? a = some o) (hc : o.cls = .ref D) (hq : R (.ok (.ret (.ref D))) ⟨h, g, d, t, os⟩) :
    codeAny (model prog w) A (.call (.builtin "getset_descriptor.__get__") ⟨[.builtin "object.__class__", .ref a, .ref D], []⟩) R ⟨h, g, d, t, os⟩ := by
  have hT5 : (⟨h, g, d, t, os⟩ : Shared).TypeIs (.builtin "object.__class__") "getset_descriptor" := F.typeOf_object_class
  have hO : PySem.W.Looks (model prog w) h (isSubtype (.ref D) (.type (".".intercalate ("object.__class__".cutAt '.').dropLast))) true := by
    rw [F.owner_object_class]; exact PySem.W.looks_mroIn X c.mo
  refine codeAny_call_builtin F.slot_gs_get.plain F.entry_gs_get (F.slot_gs_get.check _ _ _ _ _ _ _ _ hT5 (F.args_gs_get _ _ _) ?_)
  repeat (any_goals (first | assumption | (with_reducible refine wpAny_loadPart_at hx ?_; rw [hc]) | with_reducible refine hO.at ?_ | wp_step))
  refine ⟨Code.quiet_builtin _ (by decide +kernel), codeAny_builtin F.entry_object_class ?_⟩
  repeat (any_goals (first | assumption | (with_reducible refine wpAny_loadPart_at hx ?_; rw [hc]) | wp_step))
theorem xc_entry {tk : Tok} {Q : Fin → Shared → Prop} (c : XCls K D) (X : K.In h) (hx : h.get? a = some o) (hc : o.cls = .ref D) (hq : Q (.done (.ret (.ref D))) ⟨h, g, d, t, os⟩) :
    wpAny (model prog w) A (Builtin.«object.__getattribute__» ⟨[.ref a, .str "__class__" tk], []⟩) Q E ⟨h, g, d, t, os⟩ := by
  have hT5 : (⟨h, g, d, t, os⟩ : Shared).TypeIs (.builtin "object.__class__") "getset_descriptor" := F.typeOf_object_class
  have f5 := F.typeOf_object_class
  have f6 := F.slot_gs_get.lookup
  have f7 := F.slot_gs_set.lookup
  repeat (any_goals (first | assumption | (with_reducible refine wpAny_loadPart_at hx ?_; rw [hc]) | with_reducible refine (PySem.W.looks_findIn X c.cl).at ?_ | wp_step))
  refine xc_get c X hx hc ?_
  repeat (any_goals (first | assumption | wp_step))
theorem xc_by {tk : Tok} {fill expr : Bool} {Q : Value → Shared → Prop} (c : XCls K D) (X : K.In h) (hx : h.get? a = some o) (hc : o.cls = .ref D) (hq : Q (.ref D) ⟨h, g, d, t, os⟩) :
    wpAny (model prog w) A (getAttrBy (.ref a) (.str "__class__" tk) fill expr) Q E ⟨h, g, d, t, os⟩ := by
  have f3 := PySem.F.attrBase_ValueError.ga.bind (.ref a)
  have hx0 : (expr && onTheHeap (Value.builtin "BaseException.__getattribute__")) = false := by cases expr <;> rfl
  have hx2 : (Value.builtin "BaseException.__getattribute__" == Value.builtin "object.__getattribute__") = false := by decide +kernel
  have hx1 : (onTheHeap (Value.ref D) && Value.builtin "BaseException.__getattribute__" == Value.builtin "object.__getattribute__") = false := by rw [hx2]; rfl
  repeat (any_goals (first | assumption | (with_reducible refine wpAny_loadPart_at hx ?_; rw [hc]) | with_reducible refine (PySem.W.looks_findIn X c.ga).at ?_ | with_reducible refine (PySem.W.looks_findIn X c.gn).at ?_ | wp_step))
  refine codeAny_call_builtin PySem.F.attrBase_ValueError.ga.plain F.entry_bexc_ga (xc_check c X hx hc (xc_entry c X hx hc ?_))
  repeat (any_goals (first | assumption | wp_step))
theorem xc_attr {Q : Option Value → Shared → Prop} (c : XCls K D) (X : K.In h) (hx : h.get? a = some o) (hc : o.cls = .ref D) (hq : Q (some (.ref D)) ⟨h, g, d, t + 1, os⟩) :
    wpAny (model prog w) A (getAttr? (.ref a) "__class__") Q E ⟨h, g, d, t, os⟩ := by
  unfold getAttr? getAttrBy?
  repeat (any_goals (first | assumption | with_reducible apply xc_by c X hx hc | wp_step))
end
def XAt (a D : Addr) (h : Heap) : Prop := ∃ o, h.get? a = some o ∧ o.cls = .ref D
theorem kitx_exc {K : PySem.W.Frag} {a D : Addr} (c : XCls K D) : PySem.W.KitX K (.ref a) (.ref D) (XAt a D) where
  ty := fun M h _ p => by
    obtain ⟨o, h1, h2⟩ := p
    exact h2 ▸ (PySem.W.Looks.ld h1).andThen .now
  it := fun _ _ X _ => by
    obtain ⟨cdD, hcD⟩ := Option.isSome_iff_exists.mp c.isc
    unfold PySem.W.clsIn at hcD
    split at hcD
    · rename_i c' d' cd' sl' ho
      intro A' Q' E' s' k q
      unfold isType loadHead
      exact wpAny_bind (wpAny_loadPart (k _ _ (X _ _ ho)) (wpAny_pure q))
    · cases hcD
  ne := fun h tp dd its n sl X htp => by
    obtain ⟨cdD, hcD⟩ := Option.isSome_iff_exists.mp c.isc
    refine Bool.eq_false_iff.mpr fun q => ?_
    have e : D = tp := Value.ref.inj (beq_iff_eq.mp q)
    subst e
    unfold PySem.W.clsIn at hcD
    split at hcD
    · rename_i c' d' cd' sl' ho
      have z := (X _ _ ho).symm.trans htp
      cases z
    · cases hcD
  ca := fun {_ _ _ _ _ s} X p k => by
    obtain ⟨h, g, d, t, os⟩ := s
    obtain ⟨o, h1, h2⟩ := p
    exact xc_attr c X h1 h2 k
end L2
set_option Elab.async false
set_option linter.all false
set_option maxRecDepth 100000
set_option maxHeartbeats 4000000
namespace L2
open PySem PySem.Spec PyProof.Rows
theorem un_more {fs : List Addr} {H0 H : Hp} {h0 h h2 : Heap} (u : Un fs [] H0 H h0 h) (k : ∀ b o, (∃ o', h0.get? b = some o') → b ∉ fs → h.get? b = some o → h2.get? b = some o)
    (sl : ∀ b o, b ∈ fs → h.get? b = some o → ∃ l, h2.get? b = some { o with slots := l }) : Un fs [] H0 H h0 h2 where
  keep := fun b o q n hf hx => k b o ⟨o, q⟩ hf (u.keep b o q n hf hx)
  slot := fun b o q n hf hx => by
    obtain ⟨l, e⟩ := u.slot b o q n hf hx
    obtain ⟨l', e'⟩ := sl b _ hf e
    exact ⟨l', e'⟩
  free := u.free
  there := fun b o q hx => by
    obtain ⟨o', e⟩ := u.there b o q hx
    by_cases hf : b ∈ fs
    · obtain ⟨l, e'⟩ := sl b o' hf e
      exact ⟨_, e'⟩
    · exact ⟨o', k b o' ⟨o, q⟩ hf e⟩
  tups := u.tups
  frzs := u.frzs
  tbls := u.tbls
theorem hok_more {P : Program} {w : World} {H : Hp} {h h2 : Heap} (x : HOk P w H h) (k : ∀ b o u, H b = some u → h.get? b = some o → h2.get? b = some o) : HOk P w H h2 := fun a o e =>
  (x a o e).stay (fun b u hb q => by
    rcases hb with z | z
    · rw [z] at q ⊢
      exact k a u o e q
    · exact k b u _ z q) (fun _ q => q) fun _ _ q => q
theorem ObjOk.isObj {P : Program} {w : World} {H : Hp} {h : Heap} {a : Addr} {o : HO} (x : ObjOk P w H h a o) : ∃ u, h.get? a = some u := by
  cases o with
  | lst xs => obtain ⟨_, _, _, _, e⟩ := x; exact ⟨_, e⟩
  | tup xs => obtain ⟨_, _, _, _, e, _⟩ := x; exact ⟨_, e⟩
  | dK kvs => obtain ⟨_, _, _, _, o, _, _, e, _⟩ := x; exact ⟨_, e⟩
  | dT kvs => obtain ⟨_, _, _, _, o, _, _, e, _⟩ := x; exact ⟨_, e⟩
  | set S n => obtain ⟨o, _, _, _, e, _⟩ := x; exact ⟨_, e⟩
  | ins C dx fs => obtain ⟨_, _, _, e, _⟩ := x; exact ⟨_, e⟩
  | own y => exact x
  | xd fs => obtain ⟨_, ⟨_, _, _, e, _⟩, _⟩ := x; exact ⟨_, e⟩
  | rng lo hi => obtain ⟨_, _, _, e⟩ := x; exact ⟨_, e⟩
  | frz ob u => exact ⟨_, x.1⟩
  | tbl ps => exact ⟨_, x⟩
  | met f y => exact ⟨_, x⟩
  | ext φ => exact x.2.1
structure XF (P : Program) (w : World) (outer : List Env) (H : Hp) (s : Shared) (x D : Addr) (a0 : Value) (B : Heap) (H' : Hp) (s' : Shared) : Prop where
  os : s'.os = s.os
  bare : AllBare s'.gens
  un : Un (frs outer) [] H H' s.heap s'.heap
  hok : HOk P w H' s'.heap
  fly : Heap.FlyingW B outer x (.ref D) a0 s'.heap
  cov : ∀ b o, s'.heap.get? b = some o → ((∃ o', s.heap.get? b = some o') ∨ (∃ u, H' b = some u)) → b ∉ frs outer → B.get? b = some o
def CXE (P : Program) (w : World) : CXT := fun outer H s E e s' => ∃ x D a0 B H', e = .ref x ∧ XF P w outer H s x D a0 B H' s' ∧ E (.ref D) none H'
section
variable {P : Program} {w : World} {outer : List Env} {H H' : Hp} {s s' : Shared} {x D : Addr} {a0 : Value} {B : Heap}
end
section
variable {X : Cx} {pins : List (Addr × Obj)} {σ : St} {H H' : Hp} {s s' : Shared} {x D : Addr} {a0 : Value} {B h2 : Heap}
theorem old_out (J : Inv X pins σ H' s') {b : Addr} (h : ∃ o', X.s₀.heap.get? b = some o') (hn : b ∉ frs X.outer) : b ∉ frs X.stack := fun hb => by
  obtain ⟨o', e⟩ := h
  rcases List.mem_cons.mp (J.stkSub b hb) with z | z
  · have h1 := Heap.lt_size e
    have h2 := J.ok.above
    rw [z] at h1
    exact absurd (Nat.lt_of_lt_of_le h1 h2) (Nat.lt_irrefl _)
  · exact hn z
theorem trk_out (J : Inv X pins σ H' s') {b : Addr} {u : HO} (e : H' b = some u) : b ∉ frs X.stack := fun hb => by
  rw [J.stkFree b hb] at e
  cases e
end
section
variable {P : Program} {w : World} {K : PySem.W.Frag} {mg : Str → Option Value} {base : Heap} {N : List Str} {qual : Str} {scope : Scope} {f : Addr} {cdv : Value} {A : Around} {outer : List Env} {s0 : Shared} {H0 : Hp} {E : XK}
abbrev cxE (P : Program) (w : World) (K : PySem.W.Frag) (mg : Str → Option Value) (base : Heap) (N : List Str) (qual : Str) (scope : Scope) (f : Addr) (cdv : Value) (A : Around) (outer : List Env) (s0 : Shared) (H0 : Hp) (E : XK) : Cx :=
  cxOf (CXE P w) P w K mg base N qual scope f cdv A outer s0 H0 E
def tRaise (E : XK) (C : Addr) : TS := fun _ _ H => E (.ref C) none H
end
section
variable {P : Program} {w : World} {K : PySem.W.Frag} {mg : Str → Option Value} {base : Heap}
end
end L2
set_option Elab.async false
set_option linter.all false
set_option maxRecDepth 100000
set_option maxHeartbeats 4000000
namespace L2
open PySem PySem.Spec PyProof.Rows
structure XHd (K : PySem.W.Frag) (C : Addr) : Prop where
  isc : (PySem.W.clsIn K C).isSome = true
  ty : PySem.W.typeIn K (.ref C) = some (.type "type")
  mb : PySem.W.mroIn K C (.type "BaseException") = some true
theorem x_isType {K : PySem.W.Frag} {M : Model} {h : Heap} {C : Addr} (X : K.In h) (e : (PySem.W.clsIn K C).isSome = true) : PySem.W.Looks M h (isType (.ref C)) true := by
  obtain ⟨cdD, hcD⟩ := Option.isSome_iff_exists.mp e
  unfold PySem.W.clsIn at hcD
  split at hcD
  · rename_i c' d' cd' sl' ho
    intro A' Q' E' s' k q
    unfold isType loadHead
    exact wpAny_bind (wpAny_loadPart (k _ _ (X _ _ ho)) (wpAny_pure q))
  · cases hcD
theorem x_matches {K : PySem.W.Frag} {M : Model} {h : Heap} {C D x : Addr} {ob : Obj} (X : K.In h) (c : XHd K C) (hx : h.get? x = some ob) (hc : ob.cls = .ref D) (hm : PySem.W.mroIn K D (.ref C) = some true) :
    PySem.W.Looks M h (excMatches (.ref x) (.ref C)) true := by
  have L1 : PySem.W.Looks M h (typeOf (.ref C)) (.type "type") := PySem.W.looks_typeIn X c.ty
  have L2' : PySem.W.Looks M h (isSubtype (.type "type") (.type "tuple")) false := PySem.W.Looks.of_pure tc_notTuple
  have L3 : PySem.W.Looks M h (isInstance (.ref C) (.type "tuple")) false := L1.andThen L2'
  have L4 : PySem.W.Looks M h (isExcClass (.ref C)) true := by
    unfold isExcClass
    exact (x_isType X c.isc).andThen (PySem.W.looks_mroIn X c.mb)
  have L5 : PySem.W.Looks M h (typeOf (.ref x)) (.ref D) := hc ▸ (PySem.W.Looks.ld hx).andThen .now
  have L6 : PySem.W.Looks M h (isSubtype (.ref D) (.ref C)) true := PySem.W.looks_mroIn X hm
  intro A Q E s k q
  unfold excMatches
  refine wpAny_bind (L3 A _ E s k ?_)
  rw [if_neg Bool.false_ne_true]
  refine wpAny_bind (wpAny_pure ?_)
  simp only [List.forIn_cons, List.forIn_nil, bind_assoc, pure_bind]
  refine wpAny_bind (L4 A _ E s k ?_)
  simp only [Bool.not_true, Bool.false_eq_true, if_false, pure_bind]
  refine wpAny_bind (L5 A _ E s k ?_)
  refine wpAny_bind (L6 A _ E s k ?_)
  simp only [if_true, pure_bind]
  exact wpAny_pure q
def Cx.inX (X : Cx) (x : Addr) : Cx := { X with A := X.A.mark (some (.ref x)), calm := false, xe := fun _ _ => False }
section
variable {X : Cx} {pins : List (Addr × Obj)} {σ : St} {H H' H1 : Hp} {s s' s1 : Shared} {x D C : Addr} {a0 : Value} {B h2 : Heap}
theorem Inv.inX (I : Inv X pins σ H s) (x : Addr) : Inv (X.inX x) pins σ H s :=
  ⟨⟨I.ok.mod, I.ok.kind, I.ok.glob, I.ok.blt, I.ok.above, I.ok.inj, I.ok.has, I.ok.cab, fun z => absurd (show false = true from z) Bool.false_ne_true, I.ok.frames, I.ok.stk, I.ok.exf, I.ok.bs, I.ok.bsz, I.ok.noex, I.ok.exfs, I.ok.funs, I.ok.frf⟩,
    I.os, I.bare, I.base, I.loc, I.cell, I.free, I.freeC, I.pin, I.hok, I.len⟩
theorem Inv.outX (hk : X.calm = true → X.A.handled = none) (I : Inv (X.inX x) pins σ H s) : Inv X pins σ H s :=
  ⟨⟨I.ok.mod, I.ok.kind, I.ok.glob, I.ok.blt, I.ok.above, I.ok.inj, I.ok.has, I.ok.cab, hk, I.ok.frames, I.ok.stk, I.ok.exf, I.ok.bs, I.ok.bsz, I.ok.noex, I.ok.exfs, I.ok.funs, I.ok.frf⟩,
    I.os, I.bare, I.base, I.loc, I.cell, I.free, I.freeC, I.pin, I.hok, I.len⟩
theorem Inv.gone {i : Nat} {n : Str} {m : Str → Option Value} {v : Option Value} {h' : Heap} {t' : Nat} (I : Inv X pins σ H s) (hN : X.N.Nodup) (hi : X.N[i]? = some n) (hl : X.env.kindOf n = some .local)
    (hm : ∀ (j : Nat) (y : Str) (w : V), X.N[j]? = some y → σ[j]? = some (some w) → Vis X.env.scope y → ∃ u, RelV w u ∧ Look X.env s.heap m y u)
    (hn : h'.Ns X.env.locals (fun y => if y = n then v else m y)) (sb : Heap.SameBut X.env.locals s.heap h') : Inv X pins (σ.set i none) H { s with heap := h', toks := t' } := by
  have lt : i < σ.length := by rw [I.len]; exact (List.getElem?_eq_some_iff.mp hi).1
  have ne0 : ∀ b o, X.s₀.heap.get? b = some o → b ≠ X.env.locals := fun b o e => Nat.ne_of_lt (Nat.lt_of_lt_of_le (Heap.lt_size e) I.ok.above)
  have u := I.base
  refine ⟨I.ok, I.os, I.bare, ⟨fun b o e n hf hx => (sb.2 b (ne0 b o e)).trans (u.keep b o e n hf hx), fun b o e n hf hx => ?_, u.free, fun b o e hx => ?_, u.tups, u.frzs, u.tbls⟩, ⟨_, hn, fun j y w e1 e2 e3 => ?_⟩, fun x c e => ?_, I.free, I.freeC, fun p hp => ?_, ?_, by rw [List.length_set]; exact I.len⟩
  · obtain ⟨sl, e'⟩ := u.slot b o e n hf hx
    exact ⟨sl, (sb.2 b (ne0 b o e)).trans e'⟩
  · obtain ⟨o', e'⟩ := u.there b o e hx
    exact ⟨o', (sb.2 b (ne0 b o e)).trans e'⟩
  · have hij : i ≠ j := fun z => by
      subst z
      rw [List.getElem?_set_self lt] at e2
      cases e2
    rw [List.getElem?_set_ne hij] at e2
    have hy : y ≠ n := fun z => by
      subst z
      exact hij ((List.getElem?_inj (List.getElem?_eq_some_iff.mp hi).1 hN).mp (hi.trans e1.symm))
    obtain ⟨u', r, l⟩ := hm j y w e1 e2 e3
    refine ⟨u', r, ?_⟩
    rcases l with ⟨z1, z2⟩ | ⟨z1, c, z2, z3⟩
    · exact .inl ⟨z1, by simp only [if_neg hy]; exact z2⟩
    · exact .inr ⟨z1, c, z2, z3.sameBut sb (I.cne y c z2)⟩
  · obtain ⟨v', z⟩ := I.cell x c e
    exact ⟨v', z.sameBut sb (I.cne x c e)⟩
  · obtain ⟨p1, p2, p3, p4, p5⟩ := I.pin p hp
    exact ⟨(sb.2 _ p3).trans p1, p2, p3, p4, p5⟩
  · exact hok_more I.hok fun b o u' e q => (sb.2 b fun z => by rw [z, I.free] at e; cases e).trans q
end
end L2
set_option Elab.async false
set_option linter.all false
set_option maxRecDepth 100000
set_option maxHeartbeats 4000000
namespace L2
open PySem PySem.Spec PyProof.Rows
section
variable {X : Cx} {pins : List (Addr × Obj)} {σ : St} {H H' H1 : Hp} {s s' s1 : Shared} {x D C : Addr} {a0 : Value} {B h2 : Heap} {cn en : Str} {ie : Nat} {b₀ : Stmt} {suite : List Stmt} {cp hp : Pos} {ts : TS} {DE : Ends}
def Ends.asG (DE : Ends) (ie : Nat) : Ends := { nx := fun σ' H' => DE.nx (σ'.set ie none) H', rt := fun _ _ => False }
end
def tTryX (K : PySem.W.Frag) (C : Addr) (sp : Sp) (dvs : List V) (t : TA) (ie : Nat) (ts : TS) : TS := fun DE σ H => t σ H fun vs H1 => sp (vs ++ dvs) H1 (fun _ H2 => DE.nx σ H2) (fun cls _ H2 => ∃ D, cls = .ref D ∧
  PySem.W.mroIn K D (.ref C) = some true ∧ ∀ x, H2 x = none → ts (DE.asG ie) (σ.set ie (some (.ref x))) (upd H2 x (.ext (XAt x D))))
section
variable {X : Cx} {k ie : Nat} {f C : Addr} {fd : FuncData} {ps : List Str} {sp : Sp} {dvs : List V} {ds : List Value} {fx cn en : Str} {p pos p2 cp hp tp : Pos} {e : Expr} {es : List Expr} {t : TA} {b₀ : Stmt} {suite : List Stmt} {ts : TS}
end
def TyX (K : PySem.W.Frag) (H : Hp) (x : V) (t : Value) : Prop := TyOf K H x t ∨ ∃ a D φ, x = .ref a ∧ t = .ref D ∧ XCls K D ∧ H a = some (.ext φ) ∧ ∀ h, φ h → XAt a D h
section
variable {X : Cx}
open PySem.W in
theorem kit_ofX {pins : List (Addr × Obj)} {σ : St} {H : Hp} {s : Shared} {x : V} {u t : Value} (I : Inv X pins σ H s) (rx : RelV x u) (ty : TyX X.K H x t) :
    ∃ Hh : Heap → Prop, KitX X.K u t Hh ∧ Hh s.heap ∧ u ≠ .builtin "__main__.__loader__#opaque" := by
  rcases ty with ty | ⟨a, D, φ, rfl, rfl, c, e, hφ⟩
  · exact kit_of I rx ty
  · cases (show u = Value.ref a from rx)
    exact ⟨_, kitx_exc c, hφ _ (I.hok a _ e).1, fun z => nomatch z⟩
def rIsX (K : PySem.W.Frag) : List V → Hp → VK → Prop := fun xs H Q => ∃ x c t b, xs = [x, c] ∧ isCls c = true ∧ TyX K H x t ∧ PySem.W.kitOne K t (cVal c) = some b ∧ Q (.bl b) H
theorem call_isx : CallR X (.builtin "isinstance") (rIsX X.K) := by
  intro pins s σ H xs us Q I r h
  obtain ⟨x, c, t, b, rfl, hc, ty, e, q⟩ := h
  obtain ⟨u, w', rfl, rx, rc⟩ := vals2 r
  cases cVal_of hc rc
  obtain ⟨Hh, Z, p, hx⟩ := kit_ofX I rx ty
  exact PySem.W.kia_one Z I.kIn p e hx fun tk => ⟨.bl b, H, I.tok tk, rfl, q⟩
def rIsXT (K : PySem.W.Frag) : List V → Hp → VK → Prop := fun xs H Q => ∃ x p cs t b, xs = [x, .ref p] ∧ H p = some (.tup cs) ∧ (cs.all isCls) = true ∧ TyX K H x t ∧ PySem.W.kitAny K t (cs.map cVal) = some b ∧ Q (.bl b) H
theorem cVals_of : ∀ {cs : List V} {us : List Value}, (cs.all isCls) = true → Vals cs us → us = cs.map cVal
  | [], _, _, .nil => rfl
  | c :: cs, _, h, .cons r t => by
    rw [List.all_cons, Bool.and_eq_true] at h
    rw [List.map_cons, cVal_of h.1 r, cVals_of h.2 t]
theorem call_isxT : CallR X (.builtin "isinstance") (rIsXT X.K) := by
  intro pins s σ H xs us Q I r h
  obtain ⟨x, p, cs, t, b, rfl, hp, hc, ty, e, q⟩ := h
  obtain ⟨u, w', rfl, rx, rc⟩ := vals2 r
  cases (show w' = Value.ref p from rc)
  obtain ⟨_, its, rv, o, ho, hoc, n, hod⟩ := (show ObjOk X.prog X.w H s.heap p (.tup cs) from I.hok p _ hp)
  obtain ⟨oc, dd, dt, sl⟩ := o
  obtain rfl : oc = .type "tuple" := hoc
  obtain rfl : dt = _ := hod
  rw [cVals_of hc rv] at ho
  obtain ⟨Hh, Z, z, hx⟩ := kit_ofX I rx ty
  exact PySem.W.kia_tup Z I.kIn z ho e hx fun tk => ⟨.bl b, H, I.tok tk, rfl, q⟩
end
end L2
set_option Elab.async false
set_option linter.all false
set_option maxRecDepth 100000
set_option maxHeartbeats 4000000
namespace L2
open PySem PySem.Spec PyProof.Rows
section
variable {prog : Program} {w : World} {A : Around} {E : Value → Shared → Prop} {h : Heap} {g : Array GenState} {d : Drawn} {t : Nat} {os : OsState} {a D dx : Addr} {o : Obj} {vs : Array Value} {cd : ClassData} {K : PySem.W.Frag} {name : Str} {mA : Str → Option Value} {v : Value}
theorem xa_entry {tk : Tok} {Q : Fin → Shared → Prop} (X : K.In h) (na : PySem.W.findIn K (.ref D) name = some none) (hk : PySem.W.clsIn K D = some cd) (hkd : cd.hasDict = true) (hx : h.get? a = some o) (hc : o.cls = .ref D) (hdt : o.data = .fields vs) (hd : o.dict = some dx)
    (hn : h.Ns dx mA) (hv : mA name = some v) (hq : Q (.done (.ret v)) ⟨h, g, d, t, os⟩) : wpAny (model prog w) A (Builtin.«object.__getattribute__» ⟨[.ref a, .str name tk], []⟩) Q E ⟨h, g, d, t, os⟩ := by
  unfold Builtin.«object.__getattribute__»
  repeat (any_goals (first | assumption | (with_reducible refine wpAny_loadPart_at hx ?_; rw [hc]) | with_reducible refine (PySem.W.looks_findIn X na).at ?_ | wp_step))
  rw [hdt]
  show wpAny _ _ (instanceDict a false) _ _ _
  unfold instanceDict
  refine wpAny_bind (wpAny_loadPart_at hx ?_)
  rw [hc]
  refine wpAny_bind ((PySem.W.looks_clsIn X hk).at ?_)
  rw [hkd, hd]
  simp only [Bool.not_true, Bool.false_eq_true, if_false]
  refine wpAny_pure ?_
  unfold Builtin.ObjectAttr.inDict
  refine wpAny_nsGet hn ?_
  rw [hv]
  refine wpAny_bind (wpAny_rule (wpAny_pure ?_))
  exact wpAny_pure hq
theorem xa_by {tk : Tok} {fill expr : Bool} {Q : Value → Shared → Prop} (c : XCls K D) (X : K.In h) (na : PySem.W.findIn K (.ref D) name = some none) (hk : PySem.W.clsIn K D = some cd) (hkd : cd.hasDict = true) (hx : h.get? a = some o) (hc : o.cls = .ref D)
    (hdt : o.data = .fields vs) (hd : o.dict = some dx) (hn : h.Ns dx mA) (hv : mA name = some v) (hb : ∀ id, v ≠ .builtin id) (hq : Q v ⟨h, g, d, t, os⟩) :
    wpAny (model prog w) A (getAttrBy (.ref a) (.str name tk) fill expr) Q E ⟨h, g, d, t, os⟩ := by
  have f3 := PySem.F.attrBase_ValueError.ga.bind (.ref a)
  have hx0 : (expr && onTheHeap (Value.builtin "BaseException.__getattribute__")) = false := by cases expr <;> rfl
  have hx2 : (Value.builtin "BaseException.__getattribute__" == Value.builtin "object.__getattribute__") = false := by decide +kernel
  have hx1 : (onTheHeap (Value.ref D) && Value.builtin "BaseException.__getattribute__" == Value.builtin "object.__getattribute__") = false := by rw [hx2]; rfl
  repeat (any_goals (first | assumption | (with_reducible refine wpAny_loadPart_at hx ?_; rw [hc]) | with_reducible refine (PySem.W.looks_findIn X c.ga).at ?_ | with_reducible refine (PySem.W.looks_findIn X c.gn).at ?_ | wp_step))
  refine codeAny_call_builtin PySem.F.attrBase_ValueError.ga.plain F.entry_bexc_ga (xc_check c X hx hc (xa_entry X na hk hkd hx hc hdt hd hn hv ?_))
  repeat (any_goals (first | assumption | wp_step))
  cases v with
  | builtin id => exact absurd rfl (hb id)
  | _ => exact wpAny_pure hq
theorem xa_attr {expr : Bool} {Q : Value → Shared → Prop} (c : XCls K D) (X : K.In h) (na : PySem.W.findIn K (.ref D) name = some none) (hk : PySem.W.clsIn K D = some cd) (hkd : cd.hasDict = true) (hx : h.get? a = some o) (hc : o.cls = .ref D)
    (hdt : o.data = .fields vs) (hd : o.dict = some dx) (hn : h.Ns dx mA) (hv : mA name = some v) (hb : ∀ id, v ≠ .builtin id) (hq : Q v ⟨h, g, d, t + 1, os⟩) :
    wpAny (model prog w) A (getAttr (.ref a) name expr) Q E ⟨h, g, d, t, os⟩ := by
  unfold getAttr
  repeat (any_goals (first | assumption | with_reducible apply xa_by c X na hk hkd hx hc hdt hd hn hv hb | wp_step))
abbrev bmV : List Value := [.type "ValueError", .type "Exception", .type "BaseException", .type "object"]
def isRf : Value → Bool
  | .ref _ => true
  | _ => false
def vTail (l : List Value) : Bool := l.dropWhile isRf == bmV
theorem refuse_v (self : Value) : ∀ {l : List Value}, vTail l = true → refuseLoop self "__setattr__" l = pure ()
  | [], e => by cases e
  | x :: r, e => by
    by_cases hx : isRf x = true
    · have e' : vTail r = true := by
        unfold vTail at e ⊢
        rw [List.dropWhile_cons_of_pos hx] at e
        exact e
      cases x <;> first | exact absurd hx Bool.false_ne_true | (rw [refuseLoop_ref]; exact refuse_v self e')
    · unfold vTail at e
      rw [List.dropWhile_cons_of_neg hx] at e
      rw [beq_iff_eq.mp e]
      exact PySem.F.store_ValueError.passes self
structure XSet (K : PySem.W.Frag) (D : Addr) (name : Str) (cd : ClassData) : Prop where
  k : PySem.W.clsIn K D = some cd
  dct : cd.hasDict = true
  mro : vTail cd.mro = true
  mo : PySem.W.mroIn K D (.type "object") = some true
  sa : PySem.W.findIn K (.ref D) "__setattr__" = some (some (.builtin "object.__setattr__"))
  na : PySem.W.findIn K (.ref D) name = some none
theorem xs_open {tk : Tok} {Q : Fin → Shared → Prop} (c : XSet K D name cd) (X : K.In h) (hx : h.get? a = some o) (hc : o.cls = .ref D)
    (hq : wpAny (model prog w) A (instanceDict a true) (fun r s' => wpAny (model prog w) A (match r with | some d' => Builtin.ObjectAttr.storeInDict d' (.str name tk) name v | none => Builtin.ObjectAttr.noDictFor (.ref a) (.ref D) name false) Q E s') E ⟨h, g, d, t, os⟩) :
    wpAny (model prog w) A (Builtin.«object.__setattr__» ⟨[.ref a, .str name tk, v], []⟩) Q E ⟨h, g, d, t, os⟩ := by
  have LT : PySem.W.Looks (model prog w) h (typeOf (.ref a)) (.ref D) := hc ▸ (PySem.W.Looks.ld hx).andThen .now
  have LM : PySem.W.Looks (model prog w) h (mroOf (.ref D)) cd.mro := (PySem.W.looks_clsIn X c.k).andThen .now
  rw [PySem.W.osa_eq, refuse_eq]
  refine wpAny_bind (wpAny_bind (LT.at (wpAny_bind (LM.at ?_))))
  rw [refuse_v _ c.mro]
  refine wpAny_pure (wpAny_bind (LT.at (wpAny_bind ((PySem.W.looks_findIn X c.na).at ?_))))
  refine wpAny_bind (wpAny_pure ?_)
  show wpAny _ _ (Builtin.ObjectAttr.storeInOwnDict (.ref a) (.ref D) (.str name tk) name v false) _ _ _
  unfold Builtin.ObjectAttr.storeInOwnDict
  refine wpAny_bind (wpAny_pure ?_)
  rw [if_neg (show ¬ ((Value.ref D == Value.type "module") = true) from fun z => by cases eq_of_beq z)]
  exact wpAny_bind hq
theorem xs_store {tk : Tok} {Q : Fin → Shared → Prop} {dd : Addr} {ns : List Str} (hn : h.Ns1 dd mA) (hw : PySem.Within mA ns) (hz : ns.length ≤ 1000)
    (hq : ∀ h', h'.Ns1 dd (fun y => if y = name then some v else mA y) → Heap.SameBut dd h h' → Q (.done (.ret .none)) ⟨h', g, d, t + 1, os⟩) :
    wpAny (model prog w) A (Builtin.ObjectAttr.storeInDict dd (.str name tk) name v) Q E ⟨h, g, d, t, os⟩ := by
  unfold Builtin.ObjectAttr.storeInDict Builtin.ObjectAttr.newKeyGuard
  refine wpAny_bind (wpAny_pure (wpAny_bind (wpAny_nsSet1 hn fun h1 n1 s1 => ?_)))
  obtain ⟨o1, es1, ep1, g1, d1, c1⟩ := n1.count (PySem.Within.cons name v hw)
  have z1 : es1.size ≤ sizeLine := Nat.le_trans c1 (by rw [List.length_cons, sizeLine_eq]; omega)
  refine wpAny_bind (wpAny_lookBehind g1 (by rw [d1]; exact pastItsLine_dict (Nat.le_succ_of_le z1)) ?_)
  exact wpAny_pure (hq h1 n1 s1)
theorem xs_first {tk : Tok} {Q : Fin → Shared → Prop} (c : XSet K D name cd) (X : K.In h) (hx : h.get? a = some o) (hc : o.cls = .ref D) (hdt : o.data = .fields vs) (hd : o.dict = none)
    (hq : ∀ h', h'.Ns1 h.objs.size (fun y => if y = name then some v else none) → h'.get? a = some { o with dict := some h.objs.size } → (∀ b u, b ≠ a → h.get? b = some u → h'.get? b = some u) → Q (.done (.ret .none)) ⟨h', g, d, t + 1, os⟩) :
    wpAny (model prog w) A (Builtin.«object.__setattr__» ⟨[.ref a, .str name tk, v], []⟩) Q E ⟨h, g, d, t, os⟩ := by
  refine xs_open c X hx hc ?_
  have hx1 : (h.push { cls := .type "dict", data := .dict #[] }).get? a = some o := Heap.get?_push_of_some _ hx
  have hne : a ≠ h.objs.size := Nat.ne_of_lt (Heap.lt_size hx)
  unfold instanceDict
  refine wpAny_bind (wpAny_loadPart_at hx ?_)
  rw [hc]
  refine wpAny_bind ((PySem.W.looks_clsIn X c.k).at ?_)
  rw [c.dct, hd, hdt]
  simp only [Bool.not_true, Bool.false_eq_true, if_false]
  rw [if_neg (by simp [typeHasDict])]
  refine wpAny_bind (wpAny_alloc' (wpAny_bind (wpAny_update' hx1 (wpAny_pure ?_))))
  have e1 : ((h.push { cls := .type "dict", data := .dict #[] }).update a fun u => { u with dict := some h.objs.size }).get? h.objs.size = some { cls := .type "dict", data := .dict #[] } :=
    (Heap.get?_update_ne _ _ _ _ hne.symm).trans (Heap.get?_push_at rfl rfl)
  refine xs_store (Heap.Ns1.of_empty ⟨_, #[], _, e1, rfl, fun u hu => absurd hu (by simp), fun _ => rfl⟩) PySem.Within.nil (by simp) fun h2 n2 s2 => hq h2 n2 ?_ fun b u hb e => ?_
  · refine (s2.2 a hne).trans (Heap.get?_update_self _ hx1 ?_)
    rw [Obj.isFreed_of_fields (vs := vs)]
    exact hdt
  · exact (s2.2 b (Nat.ne_of_lt (Heap.lt_size e))).trans ((Heap.get?_update_ne _ _ _ _ hb).trans (Heap.get?_push_of_some _ e))
theorem xs_next {tk : Tok} {Q : Fin → Shared → Prop} {ns : List Str} (c : XSet K D name cd) (X : K.In h) (hx : h.get? a = some o) (hc : o.cls = .ref D) (hd : o.dict = some dx) (hn : h.Ns1 dx mA) (hw : PySem.Within mA ns) (hz : ns.length ≤ 1000)
    (hq : ∀ h', h'.Ns1 dx (fun y => if y = name then some v else mA y) → Heap.SameBut dx h h' → Q (.done (.ret .none)) ⟨h', g, d, t + 1, os⟩) :
    wpAny (model prog w) A (Builtin.«object.__setattr__» ⟨[.ref a, .str name tk, v], []⟩) Q E ⟨h, g, d, t, os⟩ := by
  refine xs_open c X hx hc ?_
  unfold instanceDict
  refine wpAny_bind (wpAny_loadPart_at hx ?_)
  rw [hc]
  refine wpAny_bind ((PySem.W.looks_clsIn X c.k).at ?_)
  rw [c.dct, hd]
  simp only [Bool.not_true, Bool.false_eq_true, if_false]
  exact wpAny_pure (xs_store hn hw hz hq)
theorem xs_attr {Q : Unit → Shared → Prop} (c : XSet K D name cd) (X : K.In h) (hx : h.get? a = some o) (hc : o.cls = .ref D)
    (hq : ∀ (B : Around) (tk : Tok) (Q' : Fin → Shared → Prop) (E' : Value → Shared → Prop), (∀ s', Q () s' → Q' (.done (.ret .none)) s') → wpAny (model prog w) B (Builtin.«object.__setattr__» ⟨[.ref a, .str name tk, v], []⟩) Q' E' ⟨h, g, d, t + 1, os⟩) :
    wpAny (model prog w) A (setAttr (.ref a) name v) Q E ⟨h, g, d, t, os⟩ := by
  have f3 := PySem.F.store_ValueError.slot.bind (.ref a)
  have SF := PySem.F.store_ValueError
  have LT : PySem.W.Looks (model prog w) h (typeOf (.ref a)) (.ref D) := hc ▸ (PySem.W.Looks.ld hx).andThen .now
  have LO : PySem.W.Looks (model prog w) h (isInstance (.ref a) (.type "object")) true := LT.andThen (PySem.W.looks_mroIn X c.mo)
  unfold setAttr callSpecial? specialOf
  repeat (any_goals (first | assumption | (with_reducible refine wpAny_loadPart_at hx ?_; rw [hc]) | with_reducible refine (PySem.W.looks_findIn X c.sa).at ?_ | wp_step))
  refine codeAny_call_builtin SF.slot.plain SF.entry (@PySem.W.check_slot (model prog w) _ _ ⟨h, g, d, t + 1, os⟩ "object.__setattr__" "object" "__setattr__" (.ref a) [.str name t, v] [] _ SF.kind SF.split LO (SF.args (.ref a) (.str name t) v) ?_)
  exact hq _ t _ _ fun s' q => wpAny_pure (wpAny_pure q)
end
section
variable {prog : Program} {w : World} {A : Around} {E : Value → Shared → Prop} {h : Heap} {g : Array GenState} {d : Drawn} {t : Nat} {os : OsState}
variable {nm q : Str} {C N fI : Addr} {bs bm bmB : List Value} {hdct : Bool} {sn : List Str} {sub : List Value} {ab : Bool} {col : Option Bool} {dd : Option Addr} {k0 k1 k2 k3 k5 : Option Value} {B newId initId : String} {mN : Str → Option Value} {rest : List Value} {oI : Obj}
abbrev bareX (h : Heap) (C : Addr) (rest : List Value) : Heap := (h.push { cls := .type "tuple", data := .seq rest.toArray }).push { cls := .ref C, data := .fields #[.ref h.objs.size, .none, .none, .none, .bool false, .none] }
theorem xm_type {Q : Fin → Shared → Prop} (F : ExcBaseFacts B newId initId bmB) (T : OwnTail h bmB bm) (hC : h.get? C = some (excClassObj nm q C N bs bm hdct sn sub ab col dd k0 k1 k2 k3 k5 newId)) (hn : h.Ns N mN) (hi : mN "__init__" = some (.ref fI))
    (hf : h.get? fI = some oI) (hfc : oI.cls = .type "function") (hz : rest.length ≤ sizeLine)
    (hq : wpAny (model prog w) A (call (.ref fI) (.ref (h.objs.size + 1) :: rest)) (fun r s' => r = .none ∧ Q (.done (.ret (.ref (h.objs.size + 1)))) s') E ⟨bareX h C rest, g, d, t, os⟩) :
    wpAny (model prog w) A (Builtin.«type.__call__» ⟨.ref C :: rest, []⟩) Q E ⟨h, g, d, t, os⟩ := by
  have up : ∀ b o, h.get? b = some o → (bareX h C rest).get? b = some o := fun b o e => Heap.get?_push_of_some _ (Heap.get?_push_of_some _ e)
  have C1 := up C _ hC
  have N1 : (bareX h C rest).Ns N mN := hn.keeps up
  have T1 : OwnTail (bareX h C rest) bmB bm := T.keeps up
  have X1 : (bareX h C rest).get? (h.objs.size + 1) = some { cls := .ref C, data := .fields #[.ref h.objs.size, .none, .none, .none, .bool false, .none] } := by heap_get
  have self : (Value.ref C :: bm).contains (.ref C) = true := by simp
  repeat (first | with_reducible refine wpAny_loadPart_at hC ?_ | with_reducible refine wpAny_madeBy_exc hC ?_ | wp_step)
  refine codeAny_call_builtin_code (Code.quiet_builtin _ F.quiet) (wpAny_check_new_subT F T hC (codeAny_exc_new_subT F T hC ?_ hz))
  show wpAny _ _ _ _ _ ⟨bareX h C rest, g, d, t, os⟩
  unfold isInstance
  repeat (first | with_reducible refine wpAny_loadPart_at X1 ?_ | (with_reducible refine wpAny_isSubtype_exc C1 ?_; rw [self]) | wp_step)
  show wpAny _ _ (typeLookup (.ref C) _) _ _ _
  refine wpAny_typeLookup_tail C1 N1 T1 F.mroIs F.init.lookup ?_
  rw [hi]
  refine wpAny_holding (wpAny_bind ?_)
  unfold bindSpecial
  refine wpAny_bind (wpAny_typeOf (T := "function") ⟨oI, up fI _ hf, hfc⟩ ?_)
  rw [if_pos (by decide)]
  refine wpAny_pure (wpAny_bind (wpAny_mono hq (fun r s' hr => ?_) fun _ _ z => z))
  obtain ⟨rfl, hQ⟩ := hr
  wp_walk
  exact hQ
theorem xm_call {Q : Value → Shared → Prop} (F : ExcBaseFacts B newId initId bmB) (T : OwnTail h bmB bm) (hC : h.get? C = some (excClassObj nm q C N bs bm hdct sn sub ab col dd k0 k1 k2 k3 k5 newId)) (hn : h.Ns N mN) (hi : mN "__init__" = some (.ref fI))
    (hf : h.get? fI = some oI) (hfc : oI.cls = .type "function") (hz : rest.length ≤ sizeLine)
    (hq : wpAny (model prog w) (A.under (.builtin "type.__call__" ⟨.ref C :: rest, []⟩)) (call (.ref fI) (.ref (h.objs.size + 1) :: rest)) (fun r s' => r = .none ∧ Q (.ref (h.objs.size + 1)) s') E ⟨bareX h C rest, g, d, t, os⟩) :
    wpAny (model prog w) A (call (.ref C) rest) Q E ⟨h, g, d, t, os⟩ := by
  have l1 := tc_lookup
  have l2 := tc_bind (.ref C)
  have tyC : (⟨h, g, d, t, os⟩ : Shared).TypeIs (.ref C) "type" := ⟨_, hC, rfl⟩
  refine wpAny_call (codeAny_of_tree ?_)
  show wpAny _ _ (callAny (.ref C) _) _ _ _
  repeat (any_goals (first | assumption | with_reducible refine wpAny_loadPart_at hC ?_ | wp_step))
  exact ⟨rfl, codeAny_call_builtin_at (Code.quiet_builtin _ (by decide +kernel)) entry_typeCall (wpAny_check_type_call_sub hC (xm_type F T hC hn hi hf hfc hz hq))⟩
end
end L2
set_option Elab.async false
set_option linter.all false
set_option maxRecDepth 100000
set_option maxHeartbeats 4000000
namespace L2
open PySem PySem.Spec PyProof.Rows
def XD0 (a D : Addr) : Heap → Prop := fun h => ∃ o vs, h.get? a = some o ∧ o.cls = .ref D ∧ o.data = .fields vs ∧ o.dict = none ∧ vs[1]? = some .none ∧ vs[2]? = some .none
def XD1 (a D dx : Addr) : Heap → Prop := fun h => ∃ o vs, h.get? a = some o ∧ o.cls = .ref D ∧ o.data = .fields vs ∧ o.dict = some dx ∧ vs[1]? = some .none ∧ vs[2]? = some .none
def XDct (dx : Addr) (fs : List (Str × V)) : Heap → Prop := fun h => ∃ mA, h.Ns1 dx mA ∧ ∀ f, RelO (fs.lookup f) (mA f)
section
variable {P : Program} {w : World} {H : Hp} {h : Heap} {a D dx : Addr} {fs : List (Str × V)}
theorem XD0.ok (x : XD0 a D h) : ObjOk P w H h a (.ext (XD0 a D)) := ⟨x, let ⟨o, _, e, _⟩ := x; ⟨o, e⟩, fun _ _ ⟨o, vs, e, r⟩ k => ⟨o, vs, k o e, r⟩⟩
theorem XD1.ok (x : XD1 a D dx h) : ObjOk P w H h a (.ext (XD1 a D dx)) := ⟨x, let ⟨o, _, e, _⟩ := x; ⟨o, e⟩, fun _ _ ⟨o, vs, e, r⟩ k => ⟨o, vs, k o e, r⟩⟩
theorem XDct.ok (x : XDct dx fs h) : ObjOk P w H h dx (.ext (XDct dx fs)) := ⟨x, let ⟨_, ⟨o, _, _, e, _⟩, _⟩ := x; ⟨o, e⟩, fun _ _ ⟨mA, n, r⟩ k => ⟨mA, n.at k, r⟩⟩
end
section
variable {X : Cx} {pins : List (Addr × Obj)} {σ : St} {H : Hp} {s : Shared} {h' : Heap} {x dx D : Addr} {φ : Heap → Prop} {ox od : HO}
theorem Inv.put2 {t' : Nat} (I : Inv X pins σ H s) (hx : H x = some (.ext φ)) (hd : s.heap.objs.size ≤ dx) (k : ∀ b u, b ≠ x → s.heap.get? b = some u → h'.get? b = some u) (n1 : ObjOk X.prog X.w (upd (upd H dx od) x ox) h' x ox)
    (n2 : ObjOk X.prog X.w (upd (upd H dx od) x ox) h' dx od) : Inv X pins σ (upd (upd H dx od) x ox) { s with heap := h', toks := t' } := by
  have hdn : H dx = none := I.hok.fresh hd
  have hxd : x ≠ dx := fun z => by rw [z, hdn] at hx; cases hx
  have ne : ∀ b o, s.heap.get? b = some o → b ≠ dx := fun b o e => Nat.ne_of_lt (Nat.lt_of_lt_of_le (Heap.lt_size e) hd)
  have nh : ∀ b u, H b = some u → b ≠ dx := fun b u e z => by rw [z, hdn] at e; cases e
  have nx : ∀ b, H b = none → b ≠ x := fun b e z => by rw [z, hx] at e; cases e
  have nt : ∀ b u, H b = some u → (∀ ψ, u ≠ .ext ψ) → b ≠ x := fun b u e n z => by
    rw [z, hx] at e
    cases e
    exact n φ rfl
  obtain ⟨ux, hux⟩ := n1.isObj
  refine I.un ⟨fun b o e n _ _ => k b o (nx b n) e, fun b o e n _ _ => ⟨o.slots, k b o (nx b n) e⟩, fun b o e n _ => ?_, fun b o e _ => ?_, fun b xs e => ?_, fun b o u e => ?_, fun b ps e => ⟨#[], ?_⟩⟩ fun b u e => ?_
  · rw [upd_ne (nx b n), upd_ne (ne b o e)]; exact n
  · by_cases hb : b = x
    · subst hb; exact ⟨ux, hux⟩
    · exact ⟨o, k b o hb e⟩
  · rw [upd_ne (nt b _ e fun _ z => nomatch z), upd_ne (nh b _ e)]; exact e
  · rw [upd_ne (nt b _ e fun _ z => nomatch z), upd_ne (nh b _ e)]; exact e
  · rw [upd_ne (nt b _ e fun _ z => nomatch z), upd_ne (nh b _ e), e]; simp
  · by_cases hb : b = x
    · subst hb
      rw [upd_same] at e
      cases e
      exact n1
    · by_cases hb2 : b = dx
      · subst hb2
        rw [upd_ne hb, upd_same] at e
        cases e
        exact n2
      · rw [upd_ne hb, upd_ne hb2] at e
        refine (I.hok b u e).stay (fun c v hc q => k c v ?_ q) (fun c q => ?_) fun c xs q => ?_
        · rintro rfl
          rcases hc with z | z
          · exact hb z.symm
          · rw [hx] at z; cases z
        · rw [upd_ne (nt c _ q fun _ z => nomatch z), upd_ne (nh c _ q)]; exact q
        · rw [upd_ne (nt c _ q fun _ z => nomatch z), upd_ne (nh c _ q)]; exact q
end
def sFldX (K : PySem.W.Frag) (ta tv : TE) (f : Str) : TS := fun D σ H => tv σ H fun y H1 => ta σ H1 fun x H2 => ∃ a C cd, x = .ref a ∧ XSet K C f cd ∧
  ((H2 a = some (.ext (XD0 a C)) ∧ ∀ dx, H2 dx = none → dx ≠ a → D.nx σ (upd (upd H2 dx (.ext (XDct dx [(f, y)]))) a (.ext (XD1 a C dx)))) ∨
    ∃ dx fs, H2 a = some (.ext (XD1 a C dx)) ∧ H2 dx = some (.ext (XDct dx fs)) ∧ fs.length ≤ 900 ∧ D.nx σ (upd H2 dx (.ext (XDct dx ((f, y) :: fs)))))
def tFldX (K : PySem.W.Frag) (ta : TE) (f : Str) : TE := fun σ H Q => ta σ H fun x H1 => ∃ a C cd dx fs v, x = .ref a ∧ XSet K C f cd ∧ XCls K C ∧ H1 a = some (.ext (XD1 a C dx)) ∧ H1 dx = some (.ext (XDct dx fs)) ∧ fs.lookup f = some v ∧ Q v H1
theorem relV_nb {v : V} {u : Value} (r : RelV v u) : ∀ id, u ≠ .builtin id := fun id z => by
  subst z
  cases v with
  | non => cases r
  | bl b => cases r
  | int i => obtain ⟨_, z⟩ := r; cases z
  | str x => obtain ⟨_, z⟩ := r; cases z
  | byt b => obtain ⟨_, z⟩ := r; cases z
  | flt b => obtain ⟨_, z⟩ := r; cases z
  | ref a => cases r
  | ty n => cases r
theorem lookup_cons_if {f g : Str} {y : V} {fs : List (Str × V)} : List.lookup g ((f, y) :: fs) = if g = f then some y else fs.lookup g := by
  rw [List.lookup_cons]
  by_cases z : g = f
  · rw [if_pos z, show (g == f) = true by simpa using z]
  · rw [if_neg z, show (g == f) = false by simpa using z]
section
variable {X : Cx} {o e value : Expr} {f : Str} {pos pos' tpos : Pos} {ta tv : TE}
theorem ps_fldX (ha : PE X o ta) (hv : PE X value tv) (hs : swapsWith value (some (.Attribute o f pos')) pos.line X.env = pure false) : PS X (.Assign [.Attribute o f pos'] value pos) (sFldX X.K ta tv f) := by
  intro pins s σ H D I h
  refine plainObj_wpAny_Assign_Attribute (thn (hv pins s σ H _ I h) fun u s1 ⟨y, H1, I1, ry, q⟩ => thn (ha pins s1 σ H1 _ I1 q) fun ov s2 ⟨x, H2, I2, rx, a, C, cd, ex, c, q2⟩ => ?_) hs
  subst ex
  obtain rfl : ov = Value.ref a := rx
  obtain ⟨h2, g2, d2, t2, os2⟩ := s2
  rcases q2 with ⟨ea, q2⟩ | ⟨dx, fs, ea, ed, hl, q2⟩
  · obtain ⟨⟨ob, vs, e1, e2, e3, e4, e5⟩, _⟩ := I2.hok a _ ea
    refine xs_attr c I2.kIn e1 e2 fun B tk Q' E' hQ => xs_first c I2.kIn e1 e2 e3 e4 fun h' n' o' k' => hQ _ ?_
    have hf : H2 h2.objs.size = none := I2.hok.fresh (Nat.le_refl _)
    have hne : h2.objs.size ≠ a := Nat.ne_of_gt (Heap.lt_size e1)
    refine ⟨σ, _, I2.put2 (t' := t2 + 1 + 1) (h' := h') (x := a) (dx := h2.objs.size) (od := .ext (XDct h2.objs.size [(f, y)])) (ox := .ext (XD1 a C h2.objs.size)) ea (Nat.le_refl _) k' (XD1.ok ⟨_, vs, o', e2, e3, rfl, e5⟩) (XDct.ok ⟨_, n', fun g => ?_⟩), q2 _ hf hne⟩
    rw [lookup_cons_if]
    by_cases z : g = f
    · rw [if_pos z, if_pos z]; exact ry
    · rw [if_neg z, if_neg z]; exact True.intro
  · obtain ⟨⟨ob, vs, e1, e2, e3, e4, e5⟩, _⟩ := I2.hok a _ ea
    obtain ⟨⟨mA, nA, rA⟩, _⟩ := I2.hok dx _ ed
    have wi : PySem.Within mA (fs.map (·.1)) := fun g hg => by
      cases q : fs.lookup g with
      | none =>
        have := rA g
        rw [q] at this
        exact absurd (RelO.none_of this) hg
      | some v => exact List.mem_map.mpr ⟨(g, v), PySem.mem_of_lookup q, rfl⟩
    refine xs_attr c I2.kIn e1 e2 fun B tk Q' E' hQ => xs_next c I2.kIn e1 e2 e4 nA wi (by rw [List.length_map]; omega) fun h' n' sb => hQ _ ?_
    refine ⟨σ, _, I2.write (t' := t2 + 1 + 1) (h' := h') (x := dx) (e := dx) (o := .ext (XDct dx ((f, y) :: fs))) (by rw [ed]; exact True.intro) (.inl rfl) (fun b u hb e => (sb.2 b hb).trans e) (let ⟨o', _, _, e', _⟩ := n'; ⟨o', e'⟩) (XDct.ok ⟨_, n', fun g => ?_⟩), q2⟩
    rw [lookup_cons_if]
    by_cases z : g = f
    · rw [if_pos z, if_pos z]; exact ry
    · rw [if_neg z, if_neg z]; exact rA g
end
end L2
set_option Elab.async false
set_option linter.all false
set_option maxRecDepth 100000
set_option maxHeartbeats 4000000
namespace L2
open PySem PySem.Spec PyProof.Rows
theorem ns_some_of {K : PySem.W.Frag} {h : Heap} {N : Addr} {m : Str → Option Value} {n : Str} {v : Value} (X : K.In h) (G : h.Ns N m) (q : PySem.W.nsIn K N n = some (some v)) : m n = some v := by
  obtain ⟨ob, en, ep, gob, dob, _, fnd⟩ := G
  unfold PySem.W.nsIn at q
  split at q
  · rename_i c0 d0 en0 k0 sl0 lk
    have at0 := X _ _ lk
    rw [gob] at at0
    cases at0
    cases dob
    split at q
    · rename_i entry found
      cases q
      rw [← fnd]
      unfold nsFind findBy
      rw [← Array.find?_toList, found]
      rfl
    · split at q <;> cases q
  · cases q
def xIn (K : PySem.W.Frag) (C : Addr) (fI : Option Value) : Bool := match K.lookup C with
  | some ⟨.type "type", _, .cls cd, sl⟩ => (match cd.mro, sl.toList with
    | .ref C' :: bm, [_, _, _, _, some (.builtin n), _] => C' == C && n == "ValueError.__new__" && !cd.hasDel && PySem.W.tailIn K bmV bm && PySem.W.nsOkIn K cd.ns && PySem.W.nsIn K cd.ns "__init__" == some fI
    | _, _ => false)
  | _ => false
structure XObj (h : Heap) (C : Addr) (fI : Option Value) : Prop where
  obj : ∃ bm N nm q bs hdct sn sub ab col dd k0 k1 k2 k3 k5 mN, h.get? C = some (excClassObj nm q C N bs bm hdct sn sub ab col dd k0 k1 k2 k3 k5 "ValueError.__new__") ∧ h.Ns N mN ∧ mN "__init__" = fI ∧ OwnTail h bmV bm
theorem x_of_in {K : PySem.W.Frag} {h : Heap} {C : Addr} {fI : Option Value} (X : K.In h) (z : xIn K C fI = true) : XObj h C fI := by
  unfold xIn at z
  split at z
  · rename_i dct cld slt lk
    split at z
    · rename_i C' tl a0 a1 a2 a3 nid a5 hmro hsl
      simp only [Bool.and_eq_true, beq_iff_eq, Bool.not_eq_true'] at z
      obtain ⟨⟨⟨⟨⟨rfl, rfl⟩, hdel⟩, ht⟩, hok⟩, hin⟩ := z
      obtain ⟨nm, bs, mro, ns, qn, hd, sn, sub, ab, col, del⟩ := cld
      dsimp only at hmro hdel hok hin
      subst hmro hdel
      have es : slt = #[a0, a1, a2, a3, some (.builtin "ValueError.__new__"), a5] := by
        obtain ⟨l⟩ := slt
        simp only at hsl
        rw [hsl]
      subst es
      have hN : h.Ns ns (h.nsMap ns) := .of_isNs (PySem.W.isNs_of_in X hok)
      refine ⟨tl, ns, nm, qn, bs, hd, sn, sub, ab, col, dct, a0, a1, a2, a3, a5, _, X _ _ lk, hN, ?_, PySem.W.tail_of_in X ht⟩
      cases fI with
      | none => exact PySem.W.ns_none_of X hN hin
      | some v => exact ns_some_of X hN hin
    · cases z
  · cases z
def xcIn (K : PySem.W.Frag) (D : Addr) : Bool := PySem.W.findIn K (.ref D) "__getattribute__" == some (some (.builtin "BaseException.__getattribute__")) && PySem.W.findIn K (.ref D) "__getattr__" == some none &&
  PySem.W.findIn K (.ref D) "__class__" == some (some (.builtin "object.__class__")) && PySem.W.mroIn K D (.type "BaseException") == some true && PySem.W.mroIn K D (.type "object") == some true && (PySem.W.clsIn K D).isSome && PySem.W.typeIn K (.ref D) == some (.type "type")
theorem xc_of {K : PySem.W.Frag} {D : Addr} (h : xcIn K D = true) : XCls K D := by
  unfold xcIn at h
  simp only [Bool.and_eq_true, beq_iff_eq] at h
  obtain ⟨⟨⟨⟨⟨⟨h1, h2⟩, h3⟩, h4⟩, h5⟩, h6⟩, h7⟩ := h
  exact ⟨h1, h2, h3, h4, h5, h6⟩
theorem xh_of {K : PySem.W.Frag} {D : Addr} (h : xcIn K D = true) : XHd K D := by
  unfold xcIn at h
  simp only [Bool.and_eq_true, beq_iff_eq] at h
  obtain ⟨⟨⟨⟨⟨⟨h1, h2⟩, h3⟩, h4⟩, h5⟩, h6⟩, h7⟩ := h
  exact ⟨h6, h7, h4⟩
def xsIn (K : PySem.W.Frag) (D : Addr) (name : Str) : Bool := ((PySem.W.clsIn K D).any fun cd => cd.hasDict && vTail cd.mro) && PySem.W.mroIn K D (.type "object") == some true &&
  PySem.W.findIn K (.ref D) "__setattr__" == some (some (.builtin "object.__setattr__")) && PySem.W.findIn K (.ref D) name == some none
theorem xs_of {K : PySem.W.Frag} {D : Addr} {name : Str} (h : xsIn K D name = true) : ∃ cd, XSet K D name cd := by
  unfold xsIn at h
  simp only [Bool.and_eq_true, beq_iff_eq] at h
  obtain ⟨⟨⟨h1, h2⟩, h3⟩, h4⟩ := h
  obtain ⟨cd, e, e2⟩ := PySem.W.any_some h1
  rw [Bool.and_eq_true] at e2
  exact ⟨cd, e, e2.1, e2.2, h2, h3, h4⟩
def kitTab (K : PySem.W.Frag) (cs : List Addr) : Bool := (List.range cs.length).all fun i => (List.range cs.length).all fun j => PySem.W.kitOne K (.ref (cs.getD i 0)) (.ref (cs.getD j 0)) == some (decide (i = j))
def kitAll (K : PySem.W.Frag) (cs : List Addr) (v : Value) : Bool := cs.all fun c => PySem.W.kitOne K (.ref c) v == some true
section
variable {P : Program} {w : World} {K : PySem.W.Frag} {mg : Str → Option Value} {base : Heap} {N : List Str} {qual : Str} {scope : Scope} {f : Addr} {cdv : Value} {A : Around} {outer : List Env} {s0 : Shared} {H0 : Hp} {E : XK}
end
def tMkX0 (C : Addr) : TE := fun _ H Q => ∀ a, H a = none → Q (.ref a) (upd H a (.ext (XD0 a C)))
def tMkX (C : Addr) (sp : Sp) (t : TA) : TE := fun σ H Q => t σ H fun vs H1 => ∀ a, H1 a = none → sp (.ref a :: vs) (upd H1 a (.ext (XD0 a C))) (fun v H2 => v = .non ∧ Q (.ref a) H2) E0
section
variable {X : Cx} {k : Nat} {f C : Addr} {fd : FuncData} {ps : List Str} {sp : Sp} {x : Str} {p pos : Pos} {e : Expr} {es : List Expr} {t : TA}
theorem pe_mkX (z : xIn X.K C (some (.ref f)) = true) (kp : PySem.W.keepIn X.K (.ref C) = true) (fn : PySem.W.isFn X.K (.ref f) = true) (F : FnOk X.prog X.w X.K X.mg X.base CX0 k f fd ps sp) (hr : Room (k + 1) X.A) (hg : Gl X x) (hm : X.mg x = some (.ref C))
    (hb : Binds X.K fd ps []) (ha : PA X (e :: es) t) (hz : ∀ vs H Q E, sp vs H Q E → vs.length ≤ 100) (hdb : (x == ("__debug__" : Str)) = false := by decide) (he : starEach (e :: es) X.env = (false, eval e X.env) :: starEach es X.env := by rfl)
    (hpl : (backTo pos (starEach es X.env)).any (·.1) = false := by rfl) : PE X (.Call (.Name x p) (e :: es) [] pos) (tMkX C sp t) := by
  intro pins s σ H Q I h
  refine wpAny_Call_Name_kw (ld_glob I hg hm ?_ hdb)
  refine PySem.W.callWith_K (h₀ := X.base) I.ok.mod.kin kp (thn (ha pos pins s σ H _ I h) fun us s1 ⟨vs, H1, I1, r, q⟩ => ⟨I1.kIn, ?_⟩) he hpl
  obtain ⟨bm, N, nm, qn, bs, hdct, sn, sub, ab, col, dd, k0, k1, k2, k3, k5, mN, hC, hN, hni, T⟩ := (x_of_in I1.kIn z).obj
  have q1 := q (s1.heap.objs.size + 1) (I1.hok.fresh (Nat.le_succ _))
  have hlen : us.length ≤ sizeLine := by
    have := hz _ _ _ _ q1
    rw [List.length_cons] at this
    rw [← r.length]
    exact Nat.le_trans (Nat.le_of_succ_le this) (by decide)
  have up : ∀ b o, s1.heap.get? b = some o → (bareX s1.heap C us).get? b = some o := fun b o e => Heap.get?_push_of_some _ (Heap.get?_push_of_some _ e)
  have e2 : (bareX s1.heap C us).get? (s1.heap.objs.size + 1) = some { cls := .ref C, data := .fields #[.ref s1.heap.objs.size, .none, .none, .none, .bool false, .none] } := by heap_get
  have I2 := I1.laid (t' := s1.toks) (h' := bareX s1.heap C us) (a := s1.heap.objs.size + 1) (o := .ext (XD0 (s1.heap.objs.size + 1) C)) up (Nat.le_succ _) (XD0.ok ⟨_, _, e2, rfl, rfl, rfl, rfl, rfl⟩)
  obtain ⟨oI, hfI, hfc⟩ : ∃ oI, s1.heap.get? f = some oI ∧ oI.cls = .type "function" := by
    have := beq_iff_eq.mp fn
    unfold PySem.W.typeIn at this
    obtain ⟨ob, lk, hcl⟩ := Option.map_eq_some_iff.mp this
    exact ⟨ob, I1.kIn _ _ lk, hcl⟩
  have r2 : Vals (V.ref (s1.heap.objs.size + 1) :: vs) (Value.ref (s1.heap.objs.size + 1) :: us) := .cons rfl r
  have hl2 : (Value.ref (s1.heap.objs.size + 1) :: us).length = ps.length := by rw [← r2.length]; exact F.len _ _ _ _ q1
  have b2 := hb { s1 with heap := bareX s1.heap C us, toks := s1.toks } (Value.ref (s1.heap.objs.size + 1) :: us) I2.kIn (by rw [List.append_nil]; exact hl2)
  rw [List.append_nil] at b2
  have goal : wpAny (model X.prog X.w) X.A (call (.ref C) us) (EP X pins σ Q) X.xe s1 := by
    obtain ⟨h1, g1, d1, t1, os1⟩ := s1
    refine xm_call PySem.F.excBase_ValueError T hC hN hni hfI hfc hlen ?_
    refine wpAny_call (codeAny_mono (F.run _ X.stack _ _ ⟨Value.ref (h1.objs.size + 1) :: us, []⟩ (Value.ref (h1.objs.size + 1) :: us) _ _ E0 (hr.make C us []) (I2.env0.make C us []) b2 r2 q1) fun r s' hq => ?_)
    cases r with
    | error e => exact False.elim hq
    | ok fl =>
      cases fl with
      | ret u =>
        obtain ⟨v, H', I3, rv, ev, q3⟩ := I2.after hq
        subst ev
        exact ⟨rv, ⟨V.ref (h1.objs.size + 1), H', I3, rfl, q3⟩⟩
      | next => exact False.elim hq
      | brk => exact False.elim hq
      | cont => exact False.elim hq
  exact goal
end
end L2
set_option Elab.async false
set_option linter.all false
set_option maxRecDepth 100000
set_option maxHeartbeats 4000000
namespace L2
open PySem PySem.Spec PyProof.Rows
section
variable {prog : Program} {w : World} {KT : Type} [DecidableEq KT] {knd : KeyKind prog w KT} {A : Around} {E : Value → Shared → Prop} {s : Shared} {d : Addr} {kvs : List (KT × Value)} {k : KT} {key dflt : Value}
end
def rSetD : V → List V → Hp → VK → Prop := fun x vs H Q => ∃ (a : Addr) (kvs : List (Key × V)) (k : Key) (v : V), x = .ref a ∧ vs = [kV k, v] ∧ H a = some (.dK kvs) ∧ kvs.length < sizeLine ∧
  (∀ y, valV kvs k = some y → Q y H) ∧ (valV kvs k = none → Q v (upd H a (.dK (kvs ++ [(k, v)]))))
section
variable {X : Cx}
end
end L2
set_option Elab.async false
set_option linter.all false
set_option maxRecDepth 100000
set_option maxHeartbeats 4000000
namespace L2
open PySem PySem.Spec PyProof.Rows
def IV (v d : Addr) : Heap → Prop := fun h => h.IsItemsView v d
def rItems : V → List V → Hp → VK → Prop := fun x vs H Q => ∃ (d : Addr) (kvs : List (Key × V)), x = .ref d ∧ vs = [] ∧ H d = some (.dK kvs) ∧ ∀ v, H v = none → Q (.ref v) (upd H v (.ext (IV v d)))
section
variable {X : Cx} {o e : Expr} {es : List Expr} {to : TE} {t : TA} {apos cpos : Pos}
def rLstIt : List V → Hp → VK → Prop := fun xs H Q => ∃ (v d : Addr) (kvs : List (Key × V)), xs = [.ref v] ∧ H v = some (.ext (IV v d)) ∧ H d = some (.dK kvs) ∧
  ∀ (l : Addr) (as : List Addr) (H' : Hp), Same H H' → H l = none → H' l = some (.lst (as.map V.ref)) → as.length = kvs.length →
    (∀ (j : Nat) (a : Addr) (k : Key) (y : V), as[j]? = some a → kvs[j]? = some (k, y) → H a = none ∧ H' a = some (.tup [kV k, y])) → Q (.ref l) H'
end
section
variable {X : Cx} {o e : Expr} {es : List Expr} {to : TE} {t : TA} {apos cpos : Pos}
end
end L2
set_option Elab.async false
set_option linter.all false
set_option maxRecDepth 100000
set_option maxHeartbeats 4000000
namespace L2
open PySem PySem.Spec PyProof.Rows
section
variable {X : Cx}
end
end L2
set_option Elab.async false
set_option linter.all false
set_option maxRecDepth 100000
set_option maxHeartbeats 4000000
namespace L2
open PySem PySem.Spec PyProof.Rows
section
variable {M : Model} {A : Around} {E : Value → Shared → Prop} {s : Shared} {env : Env} {K : PySem.W.Frag} {D : Addr}
theorem xr_stmt {x : Sem Value} {Q : Flow → Shared → Prop} (c : XCls K D) (hd : XHd K D) (hh : A.handled = none)
    (h : wpAny M A x (fun v s₁ => ∃ e ob vs, v = .ref e ∧ K.In s₁.heap ∧ s₁.heap.get? e = some ob ∧ ob.cls = .ref D ∧ ob.data = .fields vs ∧ vs[1]? = some .none ∧ E (.ref e) s₁) E s) : wpAny M A (raiseStmt env (some x) none) Q E s := by
  unfold raiseStmt
  refine wpAny_bind (wpAny_mono h (fun v s₁ h₁ => ?_) fun _ _ z => z)
  obtain ⟨e, ob, vs, rfl, X, ge, gc, gd, g1, hE⟩ := h₁
  obtain ⟨hp, g, d, tk, os⟩ := s₁
  repeat (first | with_reducible refine (PySem.W.looks_typeIn X hd.ty).at ?_ | (with_reducible refine wpAny_loadPart_at ge ?_; first | rw [gc] | rw [gd]) | with_reducible refine (PySem.W.looks_mroIn X c.mb).at ?_ | with_reducible refine wpAny_field ge gd g1 ?_ | wp_step)
  exact wpAny_raiseNew_none hh hE
end
end L2
set_option Elab.async false
set_option linter.all false
set_option maxRecDepth 100000
set_option maxHeartbeats 4000000
namespace L2
open PySem PySem.Spec PyProof.Rows
def Fx (h : Heap) (e : Addr) (cls : Value) (dct : Option Addr) (fl : Value) (T : Addr) : Prop :=
  ∃ ob fs oT ts, h.get? e = some ob ∧ ob.cls = cls ∧ ob.dict = dct ∧ ob.data = .fields fs ∧ fs[1]? = some (.ref T) ∧ T ≠ e ∧ h.get? T = some oT ∧ oT.data = .fields ts ∧ ts[3]? = some fl
theorem dict_mapFields (f : Array Value → Array Value) (o : Obj) : (Obj.mapFields f o).dict = o.dict := by
  obtain ⟨c, d, dt, sl⟩ := o
  cases dt <;> rfl
theorem cls_mapF (f : Array Value → Array Value) (o : Obj) : (Obj.mapFields f o).cls = o.cls := Obj.cls_mapFields _ _
section
variable {M : Model} {A : Around} {E : Value → Shared → Prop} {s : Shared} {base : Heap} {env : Env} {outer : List Env} {L e : Addr} {ob : Obj} {fs : Array Value} {head : Value} {more : Bool}
theorem fx_entry {Q : Unit → Shared → Prop} (fr : A.frames = some (env :: outer)) (ff : s.heap.FunFrames base (env :: outer)) (fL : env.frame = some L) (ge : s.heap.get? e = some ob) (de : ob.data = .fields fs) (sz : 1 < fs.size)
    (h : ∀ h' T, Fx h' e ob.cls ob.dict (rawInt L) T → s.heap.get? T = none → (∀ b o, b ≠ e → b ∉ frs (env :: outer) → s.heap.get? b = some o → h'.get? b = some o) →
      (∀ b o, b ≠ e → s.heap.get? b = some o → ∃ sl, h'.get? b = some { o with slots := sl }) → Q () { s with heap := h' }) :
    wpAny M A (do let a ← frameOf env; let pl ← entryPlaceOf L more; let b ← EntryCells.newEntry head a .none (rawInt L) .none pl; setField (.ref e) 1 b) Q E s := by
  have out : e ∉ frs (env :: outer) := fun hm => by
    obtain ⟨_, o, go, nf⟩ := ff.mem hm
    rw [ge] at go
    cases go
    exact nf fs de
  refine wpAny_bind (wpAny_frameOf_fun fr ff fL fun h1 so => ?_)
  refine wpAny_bind (wpAny_entryPlaceOf fun pl isP => ?_)
  unfold EntryCells.newEntry newFields
  refine wpAny_bind (wpAny_newObj_type ?_ (isP.sizeOk5 _ _ _ _ _))
  have e1 : h1.get? e = some ob := (so.2.1 e out).trans ge
  have e2 := Heap.get?_push_of_some (h := h1) { cls := .type "traceback", dict := none, data := .fields ([head, .ref L, .none, rawInt L, .none] ++ (if pl.isEmpty then List.replicate 6 Value.none else pl)).toArray } e1
  have nT : h1.objs.size ≠ e := Nat.ne_of_gt (Heap.lt_size e1)
  have dm := Obj.data_mapFields de (·.setIfInBounds 1 (Value.ref h1.objs.size))
  have e3 := Heap.get?_update_self (Obj.mapFields (·.setIfInBounds 1 (Value.ref h1.objs.size))) e2 (Obj.isFreed_of_fields dm)
  have oth : ∀ b o, b ≠ e → h1.get? b = some o → ((h1.push { cls := .type "traceback", dict := none, data := .fields ([head, .ref L, .none, rawInt L, .none] ++ (if pl.isEmpty then List.replicate 6 Value.none else pl)).toArray }).update e (Obj.mapFields (·.setIfInBounds 1 (Value.ref h1.objs.size)))).get? b = some o :=
    fun b o nb gb => (Heap.get?_update_other _ _ (Ne.symm nb)).trans (Heap.get?_push_of_some _ gb)
  refine wpAny_setField e2 de sz (h _ h1.objs.size ⟨_, _, _, _, e3, cls_mapF _ _, dict_mapFields _ _, dm, by simp [sz], nT, (Heap.get?_update_other _ _ (Ne.symm nT)).trans (Heap.get?_push_size _ rfl), rfl, ?_⟩ ?_ (fun b o nb nf gb => oth b o nb ((so.2.1 b nf).trans gb)) fun b o nb gb => ?_)
  · simp
  · have : s.heap.objs.size = h1.objs.size := so.1.symm
    rw [← this]
    exact Heap.get?_none_of_le (Nat.le_refl _)
  · obtain ⟨sl, g1⟩ := so.2.2 b o gb
    exact ⟨sl, oth b _ nb g1⟩
end
end L2
set_option Elab.async false
set_option linter.all false
set_option maxRecDepth 100000
set_option maxHeartbeats 4000000
namespace L2
open PySem PySem.Spec PyProof.Rows
section
variable {M : Model} {A : Around} {E : Value → Shared → Prop} {s : Shared} {base : Heap} {env : Env} {outer : List Env} {L e T : Addr} {ob : Obj} {fs : Array Value} {cls fl : Value} {dct : Option Addr}
def KeptBut (xs fr : List Addr) (h h' : Heap) : Prop :=
  (∀ b o, b ∉ xs → b ∉ fr → h.get? b = some o → h'.get? b = some o) ∧ ∀ b o, b ∉ xs → h.get? b = some o → ∃ sl, h'.get? b = some { o with slots := sl }
theorem KeptBut.trans {xs ys fr : List Addr} {h h1 h2 : Heap} (a : KeptBut xs fr h h1) (b : KeptBut ys fr h1 h2) : KeptBut (xs ++ ys) fr h h2 :=
  ⟨fun c o n f g => b.1 c o (fun z => n (List.mem_append_right _ z)) f (a.1 c o (fun z => n (List.mem_append_left _ z)) f g), fun c o n g => by
    obtain ⟨s1, g1⟩ := a.2 c o (fun z => n (List.mem_append_left _ z)) g
    obtain ⟨s2, g2⟩ := b.2 c _ (fun z => n (List.mem_append_right _ z)) g1
    exact ⟨s2, g2⟩⟩
theorem fx_first {Q : Unit → Shared → Prop} (fr : A.frames = some (env :: outer)) (ff : s.heap.FunFrames base (env :: outer)) (fL : env.frame = some L) (ge : s.heap.get? e = some ob) (de : ob.data = .fields fs) (f1 : fs[1]? = some .none)
    (h : ∀ h' T, Fx h' e ob.cls ob.dict (rawInt L) T → s.heap.get? T = none → KeptBut [e] (frs (env :: outer)) s.heap h' → Q () { s with heap := h' }) : wpAny M A (noteFrame (.ref e) env) Q E s := by
  unfold noteFrame
  simp only [fL]
  refine wpAny_bind (wpAny_field ge de f1 ?_)
  rw [if_neg (by decide)]
  exact fx_entry fr ff fL ge de (Array.getElem?_eq_some_iff.mp f1).1 fun h' T x nT k1 k2 => h h' T x nT ⟨fun b o n f g => k1 b o (by simpa using n) f g, fun b o n g => k2 b o (by simpa using n) g⟩
theorem fx_next {Q : Unit → Shared → Prop} (fr : A.frames = some (env :: outer)) (ff : s.heap.FunFrames base (env :: outer)) (fL : env.frame = some L) (x : Fx s.heap e cls dct .none T)
    (h : ∀ h' T', Fx h' e cls dct (rawInt L) T' → s.heap.get? T' = none → KeptBut [T, e] (frs (env :: outer)) s.heap h' → Q () { s with heap := h' }) : wpAny M A (noteFrame (.ref e) env) Q E s := by
  obtain ⟨ob, fs, oT, ts, ge, rfl, rfl, de, f1, nT, gT, dT, t3⟩ := x
  unfold noteFrame
  simp only [fL]
  refine wpAny_bind (wpAny_field ge de f1 ?_)
  rw [if_pos (show (Value.ref T != Value.none) = true from by simp)]
  refine wpAny_bind (wpAny_field gT dT t3 ?_)
  rw [if_neg (show ¬ ((Value.none == rawInt L) = true) from by simp [rawInt])]
  refine wpAny_bind (wpAny_setField gT dT (Array.getElem?_eq_some_iff.mp t3).1 ?_)
  have oth : ∀ b, b ≠ T → (s.heap.update T (Obj.mapFields (·.setIfInBounds 3 Value.none))).get? b = s.heap.get? b := fun b nb => Heap.get?_update_other _ _ (Ne.symm nb)
  have nrec : ∀ b o, s.heap.get? b = some o → (∀ vs, o.data ≠ .fields vs) → b ≠ T := fun b o gb nf z => by
    rw [z, gT] at gb
    cases gb
    exact nf ts dT
  have gT' := Heap.get?_update_self (Obj.mapFields (·.setIfInBounds 3 Value.none)) gT (Obj.isFreed_of_fields (Obj.data_mapFields dT _))
  refine fx_entry fr (ff.of_keeps fun b o gb nf => ⟨o, (oth b (nrec b o gb nf)).trans gb, rfl⟩) fL ((oth e nT.symm).trans ge) de (Array.getElem?_eq_some_iff.mp f1).1 fun h' T' x' nT' k1 k2 => h h' T' x' ?_ ⟨fun b o n f g => ?_, fun b o n g => ?_⟩
  · cases q : s.heap.get? T' with
    | none => rfl
    | some o =>
      by_cases z : T' = T
      · rw [z, gT'] at nT'
        cases nT'
      · have nT'' := nT'
        rw [oth T' z, q] at nT''
        cases nT''
  · have n1 : b ≠ T := fun z => n (by rw [z]; exact List.mem_cons_self)
    have n2 : b ≠ e := fun z => n (by rw [z]; simp)
    exact k1 b o n2 f ((oth b n1).trans g)
  · have n1 : b ≠ T := fun z => n (by rw [z]; exact List.mem_cons_self)
    have n2 : b ≠ e := fun z => n (by rw [z]; simp)
    exact k2 b o n2 ((oth b n1).trans g)
theorem fx_flight {Q : Unit → Shared → Prop} {fr : List Addr} (x : Fx s.heap e cls dct fl T) (h : ∀ h', Fx h' e cls dct .none T → KeptBut [T] fr s.heap h' → Q () { s with heap := h' }) : wpAny M A (setFlight (.ref e) none) Q E s := by
  obtain ⟨ob, fs, oT, ts, ge, rfl, rfl, de, f1, nT, gT, dT, t3⟩ := x
  have z3 : 3 < ts.size := (Array.getElem?_eq_some_iff.mp t3).1
  have oth : ∀ b, b ≠ T → (s.heap.update T (Obj.mapFields (·.setIfInBounds 3 ((none : Option Addr).elim Value.none fun f => rawInt f)))).get? b = s.heap.get? b := fun b nb => Heap.get?_update_other _ _ (Ne.symm nb)
  unfold setFlight
  refine wpAny_bind (wpAny_field ge de f1 ?_)
  rw [if_pos (show (Value.ref T != Value.none) = true from by simp)]
  refine wpAny_setField gT dT z3 (h _ ⟨ob, fs, _, _, (oth e nT.symm).trans ge, rfl, rfl, de, f1, nT, Heap.get?_update_self _ gT (Obj.isFreed_of_fields (Obj.data_mapFields dT _)), Obj.data_mapFields dT _, by simp [z3]⟩ ⟨fun b o n _ g => ?_, fun b o n g => ?_⟩)
  · exact (oth b (by simpa using n)).trans g
  · exact ⟨o.slots, (oth b (by simpa using n)).trans g⟩
theorem fx_leave {Q : Unit → Shared → Prop} (fr : A.frames = some (env :: outer)) (ff : s.heap.FunFrames base (env :: outer)) (fL : env.frame = some L) (x : Fx s.heap e cls dct .none T)
    (h : ∀ h' T', Fx h' e cls dct .none T' → s.heap.get? T' = none → KeptBut [T, e, T'] (frs (env :: outer)) s.heap h' → Q () { s with heap := h' }) : wpAny M A (leaving env (.ref e)) Q E s := by
  unfold leaving
  refine wpAny_bind (fx_next fr ff fL x fun h1 T1 x1 n1 k1 => fx_flight (s := { s with heap := h1 }) x1 fun h2 x2 k2 => h h2 T1 x2 n1 (k1.trans k2))
theorem fx_leave0 {Q : Unit → Shared → Prop} (fr : A.frames = some (env :: outer)) (ff : s.heap.FunFrames base (env :: outer)) (fL : env.frame = some L) (ge : s.heap.get? e = some ob) (de : ob.data = .fields fs) (f1 : fs[1]? = some .none)
    (h : ∀ h' T', Fx h' e ob.cls ob.dict .none T' → s.heap.get? T' = none → KeptBut [e, T'] (frs (env :: outer)) s.heap h' → Q () { s with heap := h' }) : wpAny M A (leaving env (.ref e)) Q E s := by
  unfold leaving
  refine wpAny_bind (fx_first fr ff fL ge de f1 fun h1 T1 x1 n1 k1 => fx_flight (s := { s with heap := h1 }) x1 fun h2 x2 k2 => h h2 T1 x2 n1 (k1.trans k2))
end
end L2
set_option Elab.async false
set_option linter.all false
set_option maxRecDepth 100000
set_option maxHeartbeats 4000000
namespace L2
open PySem PySem.Spec PyProof.Rows
structure XG (P : Program) (w : World) (outer : List Env) (H : Hp) (s : Shared) (x D : Addr) (dct : Option Addr) (T : Addr) (H' : Hp) (s' : Shared) : Prop where
  os : s'.os = s.os
  bare : AllBare s'.gens
  un : Un (frs outer) [] H H' s.heap s'.heap
  hok : HOk P w H' s'.heap
  fx : Fx s'.heap x (.ref D) dct .none T
  nx : s.heap.get? x = none
  nT : s.heap.get? T = none
  ux : H' x = none
  uT : H' T = none
def CXG (P : Program) (w : World) : CXT := fun outer H s E e s' => ∃ x D dct T H', e = .ref x ∧ XG P w outer H s x D dct T H' s' ∧ E (.ref D) dct H'
theorem gone_of_there {fs : List Addr} {H H' : Hp} {h h' : Heap} {b : Addr} (u : Un fs [] H H' h h') (n : h'.get? b = none) : h.get? b = none := by
  cases q : h.get? b with
  | none => rfl
  | some o =>
    obtain ⟨o', e⟩ := u.there b o q (by simp)
    rw [n] at e
    cases e
section
variable {P : Program} {w : World} {K : PySem.W.Frag} {mg : Str → Option Value} {base : Heap} {N : List Str} {qual : Str} {scope : Scope} {f : Addr} {cdv : Value} {A : Around} {outer : List Env} {s0 : Shared} {H0 : Hp} {E : XK}
abbrev cxG (P : Program) (w : World) (K : PySem.W.Frag) (mg : Str → Option Value) (base : Heap) (N : List Str) (qual : Str) (scope : Scope) (f : Addr) (cdv : Value) (A : Around) (outer : List Env) (s0 : Shared) (H0 : Hp) (E : XK) : Cx :=
  cxOf (CXG P w) P w K mg base N qual scope f cdv A outer s0 H0 E
theorem cxg_out {X : Cx} {pins : List (Addr × Obj)} {σ : St} {H' : Hp} {s' : Shared} {h2 : Heap} {x D T : Addr} {dct : Option Addr} {xs : List Addr} (J : Inv X pins σ H' s') (hex : X.ex = [])
    (k : KeptBut xs (frs X.stack) s'.heap h2) (hxs : ∀ b ∈ xs, X.s₀.heap.get? b = none ∧ H' b = none ∧ b ∉ frs X.outer) (fx : Fx h2 x (.ref D) dct .none T) (mx : x ∈ xs) (mT : T ∈ xs) :
    XG X.prog X.w X.outer X.H₀ X.s₀ x D dct T H' { s' with heap := h2 } := by
  have jb : Un (frs X.outer) [] X.H₀ H' X.s₀.heap s'.heap := by
    have := J.base
    rw [hex] at this
    exact this
  refine ⟨J.os, J.bare, un_more jb (fun b o h0 hf e => k.1 b o (fun z => ?_) (old_out J h0 hf) e) (fun b o hf e => k.2 b o (fun z => (hxs b z).2.2 hf) e), hok_more J.hok (fun b o u hu e => k.1 b o (fun z => ?_) (trk_out J hu) e), fx, (hxs x mx).1, (hxs T mT).1, (hxs x mx).2.1, (hxs T mT).2.1⟩
  · obtain ⟨o0, e0⟩ := h0
    rw [(hxs b z).1] at e0
    cases e0
  · rw [(hxs b z).2.1] at hu
    cases hu
theorem frs_out {X : Cx} {pins : List (Addr × Obj)} {σ : St} {H : Hp} {s : Shared} (I : Inv X pins σ H s) {b : Addr} (h : s.heap.get? b = none) : b ∉ frs X.outer := fun z => by
  obtain ⟨_, o, e, _⟩ := I.funs.mem z
  rw [h] at e
  cases e
theorem passG : Passes (CXG P w) (cxG P w K mg base N qual scope f cdv A outer s0 H0 E) E := by
  intro pins σ H s e s' I hx
  obtain ⟨x, D, dct, T, H', rfl, G, q⟩ := hx
  have J : Inv (cxG P w K mg base N qual scope f cdv A outer s0 H0 E) pins σ H' s' := I.call' (ch := []) G.os G.un G.hok G.bare (by simp)
  have ib : Un (frs outer) [] H0 H s0.heap s.heap := I.base
  have jb : Un (frs outer) [] H0 H' s0.heap s'.heap := J.base
  show wpAny _ _ (leaving _ (.ref x)) _ _ s'
  refine fx_leave I.ok.frames J.stack rfl G.fx fun h2 T2 x2 n2 k => ?_
  refine ⟨x, D, dct, T2, H', rfl, cxg_out J rfl k (fun b hb => ?_) x2 (by simp) (by simp), q⟩
  have hb' : b = T ∨ b = x ∨ b = T2 := by simpa using hb
  rcases hb' with rfl | rfl | rfl
  · exact ⟨gone_of_there ib G.nT, G.uT, frs_out I G.nT⟩
  · exact ⟨gone_of_there ib G.nx, G.ux, frs_out I G.nx⟩
  · refine ⟨gone_of_there jb n2, ?_, frs_out J n2⟩
    cases z : H' b with
    | none => rfl
    | some u =>
      obtain ⟨o, e⟩ := (J.hok b u z).isObj
      rw [n2] at e
      cases e
end
section
variable {P : Program} {w : World} {K : PySem.W.Frag} {mg : Str → Option Value} {base : Heap}
theorem Fun.okG {x qual : Str} {st : Stmt} {f : Addr} {fd : FuncData} {N ps : List Str} {k : Nat} {sp : Sp} (F : Fun K x qual st f fd) (S : FnScope N ps (defScope st)) (len : ∀ vs H Q E, sp vs H Q E → vs.length = ps.length)
    (hbody : ∀ (cdv : Value) (A : Around) (outer : List Env) (s : Shared) (H : Hp) (vs : List V) (Q : VK) (E : XK), Room k (A.deeper (envOfC qual (defScope st) s.heap.objs.size f cdv)) → sp vs H Q E →
      ∃ t, PSs (cxG P w K mg base N qual (defScope st) f cdv A outer s H E) (defBody st) t ∧ t { nx := fun _ H' => Q .non H', rt := Q } (start N vs) H) : FnOk P w K mg base (CXG P w) (k + 1) f fd ps sp := by
  obtain ⟨oc, od, kV, doc, pm, an, cdv, ct, osl, rfl, lk, hcd⟩ := F.ex
  exact fn_of lk hcd S len fun A outer s H vs Q E hr hsp => hbody cdv A outer s H vs Q E hr hsp
end
end L2
set_option Elab.async false
set_option linter.all false
set_option maxRecDepth 100000
set_option maxHeartbeats 4000000
namespace L2
open PySem PySem.Spec PyProof.Rows
def untr (H : Hp) (x : Addr) : Hp := fun b => if b = x then none else H b
theorem untr_ne {H : Hp} {x b : Addr} (h : b ≠ x) : untr H x b = H b := by unfold untr; rw [if_neg h]
theorem untr_same {H : Hp} {x : Addr} : untr H x x = none := by unfold untr; rw [if_pos rfl]
def XU (a D : Addr) (dct : Option Addr) : Heap → Prop := fun h => ∃ o vs, h.get? a = some o ∧ o.cls = .ref D ∧ o.data = .fields vs ∧ o.dict = dct ∧ vs[1]? = some .none ∧ vs[2]? = some .none
theorem Inv.untr {X : Cx} {pins : List (Addr × Obj)} {σ : St} {H : Hp} {s : Shared} {x : Addr} {φ : Heap → Prop} (I : Inv X pins σ H s) (hx : H x = some (.ext φ)) : Inv X pins σ (untr H x) s := by
  have nt : ∀ b u, H b = some u → (∀ ψ, u ≠ .ext ψ) → b ≠ x := fun b u e n z => by
    rw [z, hx] at e
    cases e
    exact n φ rfl
  have fr : ∀ b, H b = none → L2.untr H x b = none := fun b e => by
    by_cases z : b = x
    · rw [z]; exact untr_same
    · rw [untr_ne z]; exact e
  have hok : HOk X.prog X.w (L2.untr H x) s.heap := fun b u e => by
    by_cases z : b = x
    · rw [z, untr_same] at e
      cases e
    · rw [untr_ne z] at e
      refine (I.hok b u e).stay (fun _ _ _ q => q) (fun c q => ?_) fun c xs q => ?_
      · rw [untr_ne (nt c _ q fun _ z => nomatch z)]; exact q
      · rw [untr_ne (nt c _ q fun _ z => nomatch z)]; exact q
  exact I.un (t' := s.toks) (h' := s.heap) ⟨fun b o e _ _ _ => e, fun b o e _ _ _ => ⟨o.slots, e⟩, fun b o e n _ => fr b n, fun b o e _ => ⟨o, e⟩, fun b xs e => by rw [untr_ne (nt b _ e fun _ z => nomatch z)]; exact e,
    fun b o u e => by rw [untr_ne (nt b _ e fun _ z => nomatch z)]; exact e, fun b ps e => ⟨#[], by rw [untr_ne (nt b _ e fun _ z => nomatch z), e]; simp⟩⟩ hok
section
variable {P : Program} {w : World} {K : PySem.W.Frag} {mg : Str → Option Value} {base : Heap} {N : List Str} {qual : Str} {scope : Scope} {f : Addr} {cdv : Value} {A : Around} {outer : List Env} {s0 : Shared} {H0 : Hp} {E : XK}
def tRaiseG (K : PySem.W.Frag) (H0 : Hp) (E : XK) (D : Addr) (te : TE) : TS := fun _ σ H => te σ H fun v H1 => ∃ x dct φ, v = .ref x ∧ H1 x = some (.ext φ) ∧ (∀ h, φ h → XU x D dct h) ∧ H0 x = none ∧ E (.ref D) dct (untr H1 x)
theorem ps_raiseG {ex : Expr} {te : TE} {D : Addr} {pos : Pos} (c : XCls K D) (hd : XHd K D) (he : PE (cxG P w K mg base N qual scope f cdv A outer s0 H0 E) ex te) :
    PS (cxG P w K mg base N qual scope f cdv A outer s0 H0 E) (.Raise (some ex) none pos) (tRaiseG K H0 E D te) := by
  intro pins s σ H DE I h
  rw [arm_exec_Raise]
  refine wpAny_bind (wpAny_standAt ?_)
  show wpAny _ _ (raiseStmt _ (some (do let v ← eval ex (cxG P w K mg base N qual scope f cdv A outer s0 H0 E).env; standAt pos; pure v)) none) _ _ s
  refine xr_stmt (K := K) (D := D) c hd (I.ok.hd rfl) (wpAny_bind (thn (he pins s σ H _ I h) fun v s1 ⟨y, H1, I1, ry, x, dct, φ, ey, hx, hφ, h0, q⟩ => wpAny_bind (wpAny_standAt (wpAny_pure ?_))))
  subst ey
  obtain rfl : v = Value.ref x := ry
  obtain ⟨ob, vs, g1, g2, g3, g4, g5⟩ := hφ _ (I1.hok x _ hx).1
  refine ⟨x, ob, vs, rfl, I1.kIn, g1, g2, g3, g5.1, ?_⟩
  show wpAny _ _ (leaving _ (.ref x)) _ _ s1
  have J := I1.untr hx
  have jb : Un (frs outer) [] H0 (untr H1 x) s0.heap s1.heap := J.base
  have ib : Un (frs outer) [] H0 H1 s0.heap s1.heap := I1.base
  have nx : s0.heap.get? x = none := by
    cases z : s0.heap.get? x with
    | none => rfl
    | some o =>
      have := ib.free x o z h0 (by simp)
      rw [hx] at this
      cases this
  refine fx_leave0 I1.ok.frames J.stack rfl g1 g3 g5.1 fun h2 T fx nT k => ?_
  rw [g2, g4] at fx
  refine ⟨x, D, dct, T, untr H1 x, rfl, cxg_out J rfl k (fun b hb => ?_) fx (by simp) (by simp), q⟩
  have hb' : b = x ∨ b = T := by simpa using hb
  rcases hb' with rfl | rfl
  · refine ⟨nx, untr_same, fun z => ?_⟩
    obtain ⟨_, o, e, nf⟩ := J.funs.mem z
    rw [g1] at e
    cases e
    exact nf vs g3
  · refine ⟨gone_of_there jb nT, ?_, frs_out J nT⟩
    cases z : untr H1 x b with
    | none => rfl
    | some u =>
      obtain ⟨o, e⟩ := (J.hok b u z).isObj
      rw [nT] at e
      cases e
end
end L2
set_option Elab.async false
set_option linter.all false
set_option maxRecDepth 100000
set_option maxHeartbeats 4000000
namespace L2
open PySem PySem.Spec PyProof.Rows
def XCt (a D : Addr) (dct : Option Addr) : Heap → Prop := fun h => ∃ o vs, h.get? a = some o ∧ o.cls = .ref D ∧ o.data = .fields vs ∧ o.dict = dct
theorem XCt.at {a D : Addr} {dct : Option Addr} {h : Heap} (x : XCt a D dct h) : XAt a D h := let ⟨o, _, e, c, _⟩ := x; ⟨o, e, c⟩
section
variable {X : Cx} {pins : List (Addr × Obj)} {σ : St} {H H' : Hp} {s s' : Shared} {x D C T T2 : Addr} {dct : Option Addr} {fl : Value} {h2 : Heap} {xs : List Addr}
theorem landG (I : Inv X pins σ H s) (G : XG X.prog X.w X.stack H s x D dct T H' s') (k : KeptBut xs (frs X.stack) s'.heap h2) (hxs : ∀ b ∈ xs, s.heap.get? b = none ∧ H' b = none ∧ b ∉ frs X.stack) (fx : Fx h2 x (.ref D) dct fl T2) :
    Inv X pins σ (upd H' x (.ext (XCt x D dct))) { s' with heap := h2 } := by
  have hnx : ∀ b u, H' b = some u → b ≠ x := fun b u e z => by rw [z, G.ux] at e; cases e
  have trk : ∀ b u, H' b = some u → b ∉ frs X.stack := fun b u e hb => by
    obtain ⟨_, o, ho, _⟩ := I.stack.mem hb
    rw [G.un.free b o ho (I.stkFree b hb) (by simp)] at e
    cases e
  have u2 : Un (frs X.stack) [] H H' s.heap h2 := un_more G.un (fun b o h0 hf e => k.1 b o (fun z => by obtain ⟨o0, e0⟩ := h0; rw [(hxs b z).1] at e0; cases e0) hf e) (fun b o hf e => k.2 b o (fun z => (hxs b z).2.2 hf) e)
  have hk2 : HOk X.prog X.w H' h2 := hok_more G.hok (fun b o u hu e => k.1 b o (fun z => by rw [(hxs b z).2.1] at hu; cases hu) (trk b u hu) e)
  obtain ⟨ob, fs, _, _, gx, gc, gd, gf, _⟩ := fx
  refine I.call' (ch := []) (s' := { s' with heap := h2 }) G.os ⟨u2.keep, u2.slot, fun b o e n hx' => ?_, u2.there, fun b xs e => ?_, fun b o u e => ?_, fun b ps e => ?_⟩ (fun a o e => ?_) G.bare (by simp)
  · have : b ≠ x := fun z => by rw [z, G.nx] at e; cases e
    rw [upd_ne this]
    exact u2.free b o e n hx'
  · have e' := u2.tups b xs e
    rw [upd_ne (hnx b _ e')]
    exact e'
  · have e' := u2.frzs b o u e
    rw [upd_ne (hnx b _ e')]
    exact e'
  · obtain ⟨more, e'⟩ := u2.tbls b ps e
    exact ⟨more, by rw [upd_ne (hnx b _ e')]; exact e'⟩
  · by_cases ha : a = x
    · subst ha
      rw [upd_same] at e
      cases e
      exact ⟨⟨ob, fs, gx, gc, gf, gd⟩, ⟨ob, gx⟩, fun h1 h3 ⟨o, vs, e1, r⟩ kk => ⟨o, vs, kk o e1, r⟩⟩
    · rw [upd_ne ha] at e
      exact (hk2 a o e).stay (fun _ _ _ q => q) (fun b q => by rw [upd_ne (hnx b _ q)]; exact q) fun b xs q => by rw [upd_ne (hnx b _ q)]; exact q
end
section
variable {X : Cx} {pins : List (Addr × Obj)} {σ : St} {H H' : Hp} {s s' : Shared} {x D C T : Addr} {dct : Option Addr} {cn en : Str} {ie : Nat} {b₀ : Stmt} {suite : List Stmt} {cp hp : Pos} {ts : TS} {DE : Ends}
end
end L2
set_option Elab.async false
set_option linter.all false
set_option maxRecDepth 100000
set_option maxHeartbeats 4000000
namespace L2
open PySem PySem.Spec PyProof.Rows
def tTryG (K : PySem.W.Frag) (C : Addr) (sp : Sp) (dvs : List V) (t : TA) (ie : Nat) (ts : TS) : TS := fun DE σ H => t σ H fun vs H1 => sp (vs ++ dvs) H1 (fun _ H2 => DE.nx σ H2) (fun cls dct H2 => ∃ D, cls = .ref D ∧
  PySem.W.mroIn K D (.ref C) = some true ∧ ∀ x, H2 x = none → ts (DE.asG ie) (σ.set ie (some (.ref x))) (upd H2 x (.ext (XCt x D dct))))
section
variable {X : Cx} {k ie : Nat} {f C : Addr} {fd : FuncData} {ps : List Str} {sp : Sp} {dvs : List V} {ds : List Value} {fx cn en : Str} {p pos p2 cp hp tp : Pos} {e : Expr} {es : List Expr} {t : TA} {b₀ : Stmt} {suite : List Stmt} {ts : TS}
end
def tFldC (K : PySem.W.Frag) (ta : TE) (f : Str) : TE := fun σ H Q => ta σ H fun x H1 => ∃ a C cd dx fs v φ, x = .ref a ∧ XSet K C f cd ∧ XCls K C ∧ H1 a = some (.ext φ) ∧ (∀ h, φ h → XCt a C (some dx) h) ∧ H1 dx = some (.ext (XDct dx fs)) ∧ fs.lookup f = some v ∧ Q v H1
theorem pe_fldC {X : Cx} {e : Expr} {f : Str} {pos : Pos} {ta : TE} (he : PE X e ta) (hb : attributeBase e f X.env (eval e X.env) = eval e X.env := by rfl) : PE X (.Attribute e f pos) (tFldC X.K ta f) := by
  intro pins s σ H Q I h
  refine attr_of hb (thn (he pins s σ H _ I h) fun u s1 ⟨x, H1, I1, rx, a, C, cd, dx, fs, v, φ, ex, c, cl, ea, hφ, ed, l, q⟩ => ?_)
  subst ex
  obtain rfl : u = Value.ref a := rx
  obtain ⟨h1, g1, d1, t1, os1⟩ := s1
  obtain ⟨ob, vs, e1, e2, e3, e4⟩ := hφ _ (I1.hok a _ ea).1
  obtain ⟨⟨mA, nA, rA⟩, _⟩ := I1.hok dx _ ed
  have := rA f
  rw [l] at this
  obtain ⟨u', hu, ru⟩ := RelO.some_of this
  exact xa_attr cl I1.kIn c.na c.k c.dct e1 e2 e3 e4 nA.ns hu (relV_nb ru) ⟨v, H1, I1.tok _, ru, q⟩
end L2
set_option linter.all false
namespace FrM
def Bt (n : Nat) (i : Int) : Prop := i.natAbs < 2 ^ n
structure Low (T B t b : Int) : Prop where
  pos : 1 ≤ b
  cop : Int.gcd t b = 1
  eq : t * B = T * b
theorem low (t b : Int) (hb : 0 < b) : 0 < (Int.gcd t b : Int) ∧ (Int.gcd t b : Int) ≤ b ∧ Low t b (t / (Int.gcd t b : Int)) (b / (Int.gcd t b : Int)) ∧ (t / (Int.gcd t b : Int)).natAbs ≤ t.natAbs ∧ (b / (Int.gcd t b : Int)).natAbs ≤ b.natAbs := by
  have hg : 0 < Int.gcd t b := Int.gcd_pos_iff.mpr (.inr (by omega))
  have hgi : 0 < (Int.gcd t b : Int) := by omega
  have d1 := Int.gcd_dvd_left t b
  have d2 := Int.gcd_dvd_right t b
  have e1 := Int.ediv_mul_cancel d1
  have e2 := Int.ediv_mul_cancel d2
  have hle : (Int.gcd t b : Int) ≤ b := Int.le_of_dvd hb d2
  refine ⟨hgi, hle, ⟨?_, Int.gcd_ediv_gcd_ediv_gcd hg, ?_⟩, ?_, ?_⟩
  · have := Int.ediv_pos_of_pos_of_dvd hb (by omega) d2
    omega
  · rw [← Int.mul_ediv_assoc _ d2, Int.mul_comm, ← Int.mul_ediv_assoc _ d1, Int.mul_comm]
  · have := congrArg Int.natAbs e1
    rw [Int.natAbs_mul] at this
    rw [← this]
    exact Nat.le_mul_of_pos_right _ (by simpa using hg)
  · have := congrArg Int.natAbs e2
    rw [Int.natAbs_mul] at this
    rw [← this]
    exact Nat.le_mul_of_pos_right _ (by simpa using hg)
end FrM
set_option linter.all false
set_option maxRecDepth 100000
namespace L2
open PySem PySem.Spec PyProof.Rows FrM
section
variable {X : Cx}
def CMulB (i j : Int) : Prop := (Bt 8000 i ∧ Bt 8000 j) ∨ CMul i j
theorem CMulB.ok {i j : Int} (h : CMulB i j) : IntMulOk i j := by
  rcases h with ⟨h1, h2⟩ | h
  · exact IntMulOk.of_le (m := 8000) (n := 8000) (intBits_le_iff.mpr h1) (intBits_le_iff.mpr h2) (by decide)
  · exact h.ok
def CDivB (i j : Int) : Prop := 0 < j ∧ Bt 8000 j
theorem op_mulB : OpR X (binaryOp .Mult) (rI CMulB fun i j => .int (i * j)) := opI fun _ _ _ _ _ _ _ hc q => mul_int q hc.ok
theorem o_mulB : OpR X (binaryOp .Mult) (rIC CMulB fun i j => .int (i * j)) := op_mulB.ic
theorem clB {i j : Int} (h : -(2 ^ 64) < i := by decide) (h2 : i < 2 ^ 64 := by decide) : CMulB i j := .inr (cl h h2)
end
end L2
set_option Elab.async false
set_option linter.all false
set_option maxRecDepth 100000
set_option maxHeartbeats 4000000
namespace L2
open PySem PySem.Spec PyProof.Rows
def isSt : Expr → Bool
  | .Starred .. => true
  | _ => false
theorem star_cons {e : Expr} {es : List Expr} {env : Env} (h : isSt e = false) : starEach (e :: es) env = (false, eval e env) :: starEach es env := by
  cases e <;> first | rfl | cases h
theorem pa_consQ {X : Cx} {e : Expr} {es : List Expr} {te : TE} {t : TA} (ha : PE X e te) (hr : PA X es t) (h : isSt e = false := by rfl) : PA X (e :: es) (tCons te t) := pa_cons ha hr (star_cons h)
@[irreducible] def PSq (X : Cx) (sts : List Stmt) (t : TS) : Prop := PSs X sts t
theorem pss_consI {X : Cx} {st : Stmt} {sts : List Stmt} {t u : TS} (h1 : PS X st t) (h2 : PSq X sts u) : PSs X (st :: sts) (tSeq t u) := by
  unfold PSq at h2
  exact pss_cons h1 h2
theorem pe_fldCK {X : Cx} {K : PySem.W.Frag} {e : Expr} {f : Str} {pos : Pos} {ta : TE} (h : X.K = K) (he : PE X e ta) (hb : attributeBase e f X.env (eval e X.env) = eval e X.env := by rfl) : PE X (.Attribute e f pos) (tFldC K ta f) := h ▸ pe_fldC he hb
theorem call_isxK {X : Cx} {K : PySem.W.Frag} (h : X.K = K) : CallR X (.builtin "isinstance") (rIsX K) := h ▸ call_isx
def tTryGA (K : PySem.W.Frag) (C : Addr) (sp : Sp) (dvs : List V) (t : TA) (ie ir : Nat) (ts : TS) : TS := fun DE σ H => t σ H fun vs H1 => sp (vs ++ dvs) H1 (fun v H2 => DE.nx (σ.set ir (some v)) H2) (fun cls dct H2 => ∃ D, cls = .ref D ∧
  PySem.W.mroIn K D (.ref C) = some true ∧ ∀ x, H2 x = none → ts (DE.asG ie) (σ.set ie (some (.ref x))) (upd H2 x (.ext (XCt x D dct))))
section
variable {X : Cx} {k ie ir : Nat} {f C : Addr} {fd : FuncData} {ps : List Str} {sp : Sp} {dvs : List V} {ds : List Value} {fx cn en rn : Str} {p pos p2 p3 cp hp tp : Pos} {e : Expr} {es : List Expr} {t : TA} {b₀ : Stmt} {suite : List Stmt} {ts : TS}
end
end L2
set_option Elab.async false
set_option linter.all false
set_option maxRecDepth 100000
set_option maxHeartbeats 4000000
namespace L2
open PySem PySem.Spec PyProof.Rows
theorem x_nomatch {K : PySem.W.Frag} {M : Model} {h : Heap} {C D x : Addr} {ob : Obj} (X : K.In h) (c : XHd K C) (hx : h.get? x = some ob) (hc : ob.cls = .ref D) (hm : PySem.W.mroIn K D (.ref C) = some false) :
    PySem.W.Looks M h (excMatches (.ref x) (.ref C)) false := by
  have L1 : PySem.W.Looks M h (typeOf (.ref C)) (.type "type") := PySem.W.looks_typeIn X c.ty
  have L2' : PySem.W.Looks M h (isSubtype (.type "type") (.type "tuple")) false := PySem.W.Looks.of_pure tc_notTuple
  have L3 : PySem.W.Looks M h (isInstance (.ref C) (.type "tuple")) false := L1.andThen L2'
  have L4 : PySem.W.Looks M h (isExcClass (.ref C)) true := by
    unfold isExcClass
    exact (x_isType X c.isc).andThen (PySem.W.looks_mroIn X c.mb)
  have L5 : PySem.W.Looks M h (typeOf (.ref x)) (.ref D) := hc ▸ (PySem.W.Looks.ld hx).andThen .now
  have L6 : PySem.W.Looks M h (isSubtype (.ref D) (.ref C)) false := PySem.W.looks_mroIn X hm
  intro A Q E s k q
  unfold excMatches
  refine wpAny_bind (L3 A _ E s k ?_)
  rw [if_neg Bool.false_ne_true]
  refine wpAny_bind (wpAny_pure ?_)
  simp only [List.forIn_cons, List.forIn_nil, bind_assoc, pure_bind]
  refine wpAny_bind (L4 A _ E s k ?_)
  simp only [Bool.not_true, Bool.false_eq_true, if_false, pure_bind]
  refine wpAny_bind (L5 A _ E s k ?_)
  refine wpAny_bind (L6 A _ E s k ?_)
  simp only [Bool.false_eq_true, if_false, pure_bind]
  exact wpAny_pure q
structure Lnd (X : Cx) (pins : List (Addr × Obj)) (σ : St) (H : Hp) (s : Shared) (x D : Addr) (dct : Option Addr) (T : Addr) (H' : Hp) (s' : Shared) (T4 : Addr) (h5 : Heap) : Prop where
  I : Inv X pins σ H s
  G : XG X.prog X.w X.stack H s x D dct T H' s'
  k : KeptBut ([T, x] ++ [T4]) (frs X.stack) s'.heap h5
  hxs : ∀ b, b = T ∨ b = x ∨ b = T4 → s.heap.get? b = none ∧ H' b = none ∧ b ∉ frs X.stack
  fx : Fx h5 x (.ref D) dct .none T4
abbrev TH := Addr → Option Addr → Addr → Ends → St → Hp → Prop
def PH (X : Cx) (hs : List ExceptHandler) (th : TH) : Prop :=
  ∀ (pins : List (Addr × Obj)) (σ : St) (H : Hp) (s : Shared) (x D : Addr) (dct : Option Addr) (T : Addr) (H' : Hp) (s' : Shared) (T4 : Addr) (h5 : Heap) (DE : Ends), Lnd X pins σ H s x D dct T H' s' T4 h5 → th D dct x DE σ (upd H' x (.ext (XCt x D dct))) →
    wpAny (model X.prog X.w) X.A (handleBy (.ref x) X.env hs) (SP X pins DE) X.xe { s' with heap := h5 }
theorem ph_nil {X : Cx} : PH X [] (fun _ _ _ _ _ _ => False) := fun _ _ _ _ _ _ _ _ _ _ _ _ _ _ q => False.elim q
section
variable {X : Cx} {C : Addr} {cn en : Str} {ie : Nat} {b₀ : Stmt} {suite : List Stmt} {cp hp : Pos} {ts : TS} {rest : List ExceptHandler} {tr : TH}
theorem Lnd.J {pins : List (Addr × Obj)} {σ : St} {H : Hp} {s : Shared} {x D : Addr} {dct : Option Addr} {T : Addr} {H' : Hp} {s' : Shared} {T4 : Addr} {h5 : Heap} (L : Lnd X pins σ H s x D dct T H' s' T4 h5) : Inv X pins σ (upd H' x (.ext (XCt x D dct))) { s' with heap := h5 } :=
  landG (h2 := h5) L.I L.G L.k (fun b hb => L.hxs b (by simpa using hb)) L.fx
theorem ph_as (hst : X.stack = X.env :: X.outer ∧ X.env.frame = some X.env.locals) (gC : Gl X cn) (mC : X.mg cn = some (.ref C)) (cC : XHd X.K C) (hN : X.N.Nodup) (hi : X.N[ie]? = some en) (hl : X.env.kindOf en = some .local)
    (hs : ∀ x, PSs (X.inX x) (b₀ :: suite) ts) (hr : PH X rest tr) (hdb : (cn == ("__debug__" : Str)) = false := by decide) :
    PH X (.ExceptHandler (some (.Name cn cp)) (some en) (b₀ :: suite) hp :: rest) (fun D dct x DE σ H1 => (PySem.W.mroIn X.K D (.ref C) = some true ∧ ts (DE.asG ie) (σ.set ie (some (.ref x))) H1) ∨ (PySem.W.mroIn X.K D (.ref C) = some false ∧ tr D dct x DE σ H1)) := by
  intro pins σ H s x D dct T H' s' T4 h5 DE L q
  have J5 := L.J
  obtain ⟨o5, ho5, hc5⟩ : ∃ o, h5.get? x = some o ∧ o.cls = .ref D := let ⟨o, _, _, _, e, c, _⟩ := L.fx; ⟨o, e, c⟩
  refine wpAny_handleBy_cons (codeAny_handlers_test (ld_glob (X := X.inX x) (J5.inX x) gC mC ?_ hdb)) (by intro z; cases z)
  rcases q with ⟨hm, q⟩ | ⟨hm, q⟩
  · refine (x_matches J5.kIn cC ho5 hc5 hm).at ?_
    refine codeAny_handlers_suite_as ?_
    refine fx_flight (s := { s' with heap := h5 }) (fr := frs (X.env :: X.outer)) L.fx fun h6 x6 k6 => ?_
    have k46 : KeptBut ([T, x] ++ [T4] ++ [T4]) (frs X.stack) s'.heap h6 := by
      have := L.k
      rw [hst.1] at this ⊢
      exact this.trans k6
    have J6 := landG (h2 := h6) L.I L.G k46 (fun b hb => L.hxs b (by
      have : b = T ∨ b = x ∨ b = T4 ∨ b = T4 := by simpa using hb
      rcases this with z | z | z | z
      · exact .inl z
      · exact .inr (.inl z)
      · exact .inr (.inr z)
      · exact .inr (.inr z))) x6
    refine store_ok J6 hN hi (.inl hl) (v := .ref x) rfl (fun s7 I7 => ?_) (.inr hl)
    refine wpAny_mono (hs x pins s7 _ _ _ (I7.inX x) q) (fun fl s8 hf => ?_) (fun _ _ z => False.elim z)
    cases fl with
    | next =>
      obtain ⟨σ8, H8, I8, q8⟩ := hf
      have J8 : Inv X pins σ8 H8 s8 := I8.outX L.I.ok.hd
      obtain ⟨m, hn, hlk⟩ := id J8.loc
      refine wpAny_nameGoes_keeps hl hn (by rw [L.I.ok.kind]; rfl) fun h9 v hn9 sb => ?_
      exact ⟨_, H8, J8.gone hN hi hl hlk hn9 sb, q8⟩
    | ret u => obtain ⟨_, _, _, _, _, z⟩ := hf; exact False.elim z
    | brk => obtain ⟨_, _, _, z⟩ := hf; exact False.elim z
    | cont => obtain ⟨_, _, _, z⟩ := hf; exact False.elim z
  · refine (x_nomatch J5.kIn cC ho5 hc5 hm).at ?_
    exact hr pins σ H s x D dct T H' s' T4 h5 DE L q
end
def HX (X : Cx) (pins : List (Addr × Obj)) (hr : Value → Option Addr → St → Hp → Prop) (e : Value) (s' : Shared) : Prop := ∃ σ H s, Inv X pins σ H s ∧ CXG X.prog X.w X.stack H s (fun c d H' => hr c d σ H') e s'
abbrev TB := (St → Hp → Prop) → VK → (Value → Option Addr → St → Hp → Prop) → St → Hp → Prop
def PB1 (X : Cx) (st : Stmt) (t : TB) : Prop :=
  ∀ (pins : List (Addr × Obj)) (s : Shared) (σ : St) (H : Hp) (nx : St → Hp → Prop) (rt : VK) (hr : Value → Option Addr → St → Hp → Prop), Inv X pins σ H s → t nx rt hr σ H → wpAny (model X.prog X.w) X.A (exec st X.env) (SP X pins { nx := nx, rt := rt }) (HX X pins hr) s
def PB (X : Cx) (sts : List Stmt) (t : TB) : Prop :=
  ∀ (pins : List (Addr × Obj)) (s : Shared) (σ : St) (H : Hp) (nx : St → Hp → Prop) (rt : VK) (hr : Value → Option Addr → St → Hp → Prop), Inv X pins σ H s → t nx rt hr σ H → wpAny (model X.prog X.w) X.A (execs sts X.env) (SP X pins { nx := nx, rt := rt }) (HX X pins hr) s
section
variable {X : Cx}
theorem pb_cons {st : Stmt} {rest : List Stmt} {t u : TB} (h1 : PB1 X st t) (h2 : PB X rest u) : PB X (st :: rest) (fun nx rt hr σ H => t (u nx rt hr) rt hr σ H) := by
  intro pins s σ H nx rt hr I h
  refine wpAny_execs_cons (thn (h1 pins s σ H (u nx rt hr) rt hr I h) fun f s1 q => ?_)
  cases f with
  | next =>
    obtain ⟨σ', H', I', q⟩ := q
    exact h2 pins s1 σ' H' nx rt hr I' q
  | ret v => exact q
  | brk => obtain ⟨_, _, _, q⟩ := q; exact False.elim q
  | cont => obtain ⟨_, _, _, q⟩ := q; exact False.elim q
theorem pb_one {st : Stmt} {t : TB} (h1 : PB1 X st t) : PB X [st] t := by
  intro pins s σ H nx rt hr I h
  refine wpAny_execs_cons (thn (h1 pins s σ H nx rt hr I h) fun f s1 q => ?_)
  cases f with
  | next => exact wpAny_execs_nil q
  | ret v => exact q
  | brk => exact q
  | cont => exact q
theorem pb1_of {st : Stmt} {t : TS} (h : PS X.nox st t) : PB1 X st (fun nx rt _ σ H => t { nx := nx, rt := rt } σ H) := by
  intro pins s σ H nx rt hr I q
  refine wpAny_mono (h pins s σ H _ (I.wish _) q) (fun f s1 z => ?_) fun _ _ z => False.elim z
  cases f with
  | next => obtain ⟨σ', H', I', q⟩ := z; exact ⟨σ', H', I'.unwish, q⟩
  | ret v => obtain ⟨v', σ', H', I', r, q⟩ := z; exact ⟨v', σ', H', I'.unwish, r, q⟩
  | brk => obtain ⟨σ', H', I', q⟩ := z; exact ⟨σ', H', I'.unwish, q⟩
  | cont => obtain ⟨σ', H', I', q⟩ := z; exact ⟨σ', H', I'.unwish, q⟩
def PX (X : Cx) (e : Expr) (t : VK → XK → St → Hp → Prop) : Prop :=
  ∀ (pins : List (Addr × Obj)) (s : Shared) (σ : St) (H : Hp) (Q : VK) (E : XK), Inv X pins σ H s → t Q E σ H →
    wpAny (model X.prog X.w) X.A (eval e X.env) (EP X pins σ Q) (fun e s' => ∃ H1 s1, Inv X pins σ H1 s1 ∧ CXG X.prog X.w X.stack H1 s1 E e s') s
theorem pb1_set {e : Expr} {t : VK → XK → St → Hp → Prop} {i : Nat} {x : Str} {pos pos' : Pos} (hN : X.N.Nodup) (hi : X.N[i]? = some x) (hl : X.env.scope.names.lookup x = some .local) (h : PX X e t) (hsw : swapsWith e (some (.Name x pos')) pos.line X.env = pure false := by rfl) :
    PB1 X (.Assign [.Name x pos'] e pos) (fun nx _ hr σ H => t (fun v H1 => nx (σ.set i (some v)) H1) (fun c d H' => hr c d σ H') σ H) := by
  intro pins s σ H nx rt hr I q
  refine wpAny_Assign_Name (wpAny_mono (h pins s σ H _ _ I q) (fun u s1 ⟨v, H1, I1, r, q1⟩ => ?_) fun e s' ⟨H1, s1, I1, c⟩ => ⟨σ, H1, s1, I1, c⟩) hsw
  exact store_ok I1 hN hi (.inl hl) r (fun s3 I3 => ⟨_, H1, I3, q1⟩) (.inr hl)
end
section
variable {X : Cx} {k : Nat} {f C : Addr} {fd : FuncData} {ps : List Str} {sp : Sp} {dvs : List V} {ds : List Value} {x m : Str} {p pos apos : Pos} {e o : Expr} {es : List Expr} {ta : TE} {t : TA}
theorem run_px {pins : List (Addr × Obj)} {σ : St} {H : Hp} {s : Shared} {Q : VK} {E : XK} {us : List Value} {vs : List V} (F : FnOk X.prog X.w X.K X.mg X.base (CXG X.prog X.w) k f fd ps sp) (hr : Room k X.A) (hb : Binds X.K fd ps ds) (hd : Vals dvs ds)
    (I : Inv X pins σ H s) (r : Vals vs us) (h : sp (vs ++ dvs) H Q E) : wpAny (model X.prog X.w) X.A (call (.ref f) us) (EP X pins σ Q) (fun e s' => ∃ H1 s1, Inv X pins σ H1 s1 ∧ CXG X.prog X.w X.stack H1 s1 E e s') s := by
  have r2 : Vals (vs ++ dvs) (us ++ ds) := r.append hd
  have hl : (us ++ ds).length = ps.length := by rw [← r2.length]; exact F.len _ _ _ _ h
  refine wpAny_call (codeAny_mono (F.run X.A X.stack s H ⟨us, []⟩ (us ++ ds) (vs ++ dvs) Q E hr I.env0 (hb s us I.kIn hl) r2 h) fun r s' hq => ?_)
  cases r with
  | error e => exact ⟨H, s, I, hq⟩
  | ok fl =>
    cases fl with
    | ret u => exact I.after hq
    | next => exact False.elim hq
    | brk => exact False.elim hq
    | cont => exact False.elim hq
theorem px_call (F : FnOk X.prog X.w X.K X.mg X.base (CXG X.prog X.w) k f fd ps sp) (hr : Room k X.A) (hg : Gl X x) (hm : X.mg x = some (.ref f)) (hk : PySem.W.keepIn X.K (.ref f) = true) (hb : Binds X.K fd ps ds) (hd : Vals dvs ds)
    (ha : PA X.nox (e :: es) t) (hdb : (x == ("__debug__" : Str)) = false := by decide) (he : starEach (e :: es) X.env = (false, eval e X.env) :: starEach es X.env := by rfl) (hpl : (backTo pos (starEach es X.env)).any (·.1) = false := by rfl) :
    PX X (.Call (.Name x p) (e :: es) [] pos) (fun Q E σ H => t σ H fun vs H1 => sp (vs ++ dvs) H1 Q E) := by
  intro pins s σ H Q E I h
  refine wpAny_Call_Name_kw (ld_glob I hg hm ?_ hdb)
  refine PySem.W.callWith_K (h₀ := X.base) I.ok.mod.kin hk (wpAny_mono (ha pos pins s σ H _ (I.wish _) h) (fun us s1 ⟨vs, H1, I1, r, q⟩ => ⟨I1.unwish.kIn, ?_⟩) fun _ _ z => False.elim z) he hpl
  exact run_px F hr hb hd I1.unwish r q
theorem ps_tryN {body : List Stmt} {h₀ : ExceptHandler} {hs : List ExceptHandler} {tb : TB} {th : TH} {tp : Pos} (hst : X.stack = X.env :: X.outer ∧ X.env.frame = some X.env.locals) (hb : PB X body tb) (hh : PH X (h₀ :: hs) th) :
    PS X (.Try body (h₀ :: hs) [] [] tp) (fun DE σ H => tb DE.nx DE.rt (fun c dct σ' H' => ∃ D, c = .ref D ∧ ∀ x, H' x = none → th D dct x DE σ' (upd H' x (.ext (XCt x D dct)))) σ H) := by
  intro pins s σ H DE I h
  refine wpAny_Try_except ?_
  refine wpAny_mono (hb pins s σ H DE.nx DE.rt _ I h) (fun f s1 q => ?_) fun e s' z => ?_
  · cases f with
    | next => exact wpAny_execs_nil q
    | ret u => exact q
    | brk => obtain ⟨_, _, _, z⟩ := q; exact False.elim z
    | cont => obtain ⟨_, _, _, z⟩ := q; exact False.elim z
  · obtain ⟨σ1, H1, s1, I1, x, D, dct, T, H', rfl, G, D', eD, hq⟩ := z
    cases eD
    have J : Inv X pins σ1 H' s' := I1.call' (ch := []) G.os G.un G.hok G.bare (by simp)
    have st : s'.heap.FunFrames X.base (X.env :: X.outer) := hst.1 ▸ J.stack
    refine fx_next (by rw [I1.ok.frames, hst.1]) st hst.2 G.fx fun h4 T4 x4 n4 k4 => ?_
    refine fx_flight (s := { s' with heap := h4 }) (fr := frs (X.env :: X.outer)) x4 fun h5 x5 k5 => ?_
    have k45 : KeptBut ([T, x] ++ [T4]) (frs X.stack) s'.heap h5 := by rw [hst.1]; exact k4.trans k5
    have so : ∀ b, s1.heap.get? b = none → b ∉ frs X.stack := fun b n z => by
      obtain ⟨_, o, e, _⟩ := I1.stack.mem z
      rw [n] at e
      cases e
    have h4s : s1.heap.get? T4 = none := gone_of_there G.un n4
    have u4 : H' T4 = none := by
      cases z : H' T4 with
      | none => rfl
      | some u =>
        obtain ⟨o, e⟩ := (J.hok T4 u z).isObj
        rw [n4] at e
        cases e
    refine hh pins σ1 H1 s1 x D dct T H' s' T4 h5 DE ⟨I1, G, k45, fun b hb => ?_, x5⟩ (hq x G.ux)
    rcases hb with rfl | rfl | rfl
    · exact ⟨G.nT, G.uT, so _ G.nT⟩
    · exact ⟨G.nx, G.ux, so _ G.nx⟩
    · exact ⟨h4s, u4, so _ h4s⟩
end
end L2
set_option Elab.async false
set_option linter.all false
set_option maxRecDepth 100000
set_option maxHeartbeats 4000000
namespace L2
open PySem PySem.Spec PyProof.Rows
def Fc (h : Heap) (x : Addr) : Prop := ∃ ob fs, h.get? x = some ob ∧ ob.data = .fields fs ∧ fs[2]? = some .none
section
variable {M : Model} {A : Around} {E : Value → Shared → Prop} {s : Shared} {base : Heap} {env : Env} {outer : List Env} {L e T : Addr} {ob : Obj} {fs : Array Value} {head : Value} {more : Bool} {cls fl : Value} {dct : Option Addr}
theorem fx_entryC {Q : Unit → Shared → Prop} (fr : A.frames = some (env :: outer)) (ff : s.heap.FunFrames base (env :: outer)) (fL : env.frame = some L) (ge : s.heap.get? e = some ob) (de : ob.data = .fields fs) (sz : 1 < fs.size) (f2 : fs[2]? = some .none)
    (h : ∀ h' T, Fx h' e ob.cls ob.dict (rawInt L) T → Fc h' e → s.heap.get? T = none → (∀ b o, b ≠ e → b ∉ frs (env :: outer) → s.heap.get? b = some o → h'.get? b = some o) →
      (∀ b o, b ≠ e → s.heap.get? b = some o → ∃ sl, h'.get? b = some { o with slots := sl }) → Q () { s with heap := h' }) :
    wpAny M A (do let a ← frameOf env; let pl ← entryPlaceOf L more; let b ← EntryCells.newEntry head a .none (rawInt L) .none pl; setField (.ref e) 1 b) Q E s := by
  have out : e ∉ frs (env :: outer) := fun hm => by
    obtain ⟨_, o, go, nf⟩ := ff.mem hm
    rw [ge] at go
    cases go
    exact nf fs de
  refine wpAny_bind (wpAny_frameOf_fun fr ff fL fun h1 so => ?_)
  refine wpAny_bind (wpAny_entryPlaceOf fun pl isP => ?_)
  unfold EntryCells.newEntry newFields
  refine wpAny_bind (wpAny_newObj_type ?_ (isP.sizeOk5 _ _ _ _ _))
  have e1 : h1.get? e = some ob := (so.2.1 e out).trans ge
  have e2 := Heap.get?_push_of_some (h := h1) { cls := .type "traceback", dict := none, data := .fields ([head, .ref L, .none, rawInt L, .none] ++ (if pl.isEmpty then List.replicate 6 Value.none else pl)).toArray } e1
  have nT : h1.objs.size ≠ e := Nat.ne_of_gt (Heap.lt_size e1)
  have dm := Obj.data_mapFields de (·.setIfInBounds 1 (Value.ref h1.objs.size))
  have e3 := Heap.get?_update_self (Obj.mapFields (·.setIfInBounds 1 (Value.ref h1.objs.size))) e2 (Obj.isFreed_of_fields dm)
  have oth : ∀ b o, b ≠ e → h1.get? b = some o → ((h1.push { cls := .type "traceback", dict := none, data := .fields ([head, .ref L, .none, rawInt L, .none] ++ (if pl.isEmpty then List.replicate 6 Value.none else pl)).toArray }).update e (Obj.mapFields (·.setIfInBounds 1 (Value.ref h1.objs.size)))).get? b = some o :=
    fun b o nb gb => (Heap.get?_update_other _ _ (Ne.symm nb)).trans (Heap.get?_push_of_some _ gb)
  refine wpAny_setField e2 de sz (h _ h1.objs.size ⟨_, _, _, _, e3, cls_mapF _ _, dict_mapFields _ _, dm, by simp [sz], nT, (Heap.get?_update_other _ _ (Ne.symm nT)).trans (Heap.get?_push_size _ rfl), rfl, ?_⟩ ⟨_, _, e3, dm, ?_⟩ ?_ (fun b o nb nf gb => oth b o nb ((so.2.1 b nf).trans gb)) fun b o nb gb => ?_)
  · simp
  · rw [Array.getElem?_setIfInBounds_ne (by decide)]; exact f2
  · have : s.heap.objs.size = h1.objs.size := so.1.symm
    rw [← this]
    exact Heap.get?_none_of_le (Nat.le_refl _)
  · obtain ⟨sl, g1⟩ := so.2.2 b o gb
    exact ⟨sl, oth b _ nb g1⟩
theorem Fc.at {h : Heap} (f : Fc h e) (ge : h.get? e = some ob) (de : ob.data = .fields fs) : fs[2]? = some .none := by
  obtain ⟨o, vs, e1, e2, e3⟩ := f
  rw [ge] at e1
  cases e1
  rw [de] at e2
  cases e2
  exact e3
theorem fx_firstC {Q : Unit → Shared → Prop} (fr : A.frames = some (env :: outer)) (ff : s.heap.FunFrames base (env :: outer)) (fL : env.frame = some L) (ge : s.heap.get? e = some ob) (de : ob.data = .fields fs) (f1 : fs[1]? = some .none) (f2 : fs[2]? = some .none)
    (h : ∀ h' T, Fx h' e ob.cls ob.dict (rawInt L) T → Fc h' e → s.heap.get? T = none → KeptBut [e] (frs (env :: outer)) s.heap h' → Q () { s with heap := h' }) : wpAny M A (noteFrame (.ref e) env) Q E s := by
  unfold noteFrame
  simp only [fL]
  refine wpAny_bind (wpAny_field ge de f1 ?_)
  rw [if_neg (by decide)]
  exact fx_entryC fr ff fL ge de (Array.getElem?_eq_some_iff.mp f1).1 f2 fun h' T x c nT k1 k2 => h h' T x c nT ⟨fun b o n f g => k1 b o (by simpa using n) f g, fun b o n g => k2 b o (by simpa using n) g⟩
theorem fx_nextC {Q : Unit → Shared → Prop} (fr : A.frames = some (env :: outer)) (ff : s.heap.FunFrames base (env :: outer)) (fL : env.frame = some L) (x : Fx s.heap e cls dct .none T) (fc : Fc s.heap e)
    (h : ∀ h' T', Fx h' e cls dct (rawInt L) T' → Fc h' e → s.heap.get? T' = none → KeptBut [T, e] (frs (env :: outer)) s.heap h' → Q () { s with heap := h' }) : wpAny M A (noteFrame (.ref e) env) Q E s := by
  obtain ⟨ob, fs, oT, ts, ge, rfl, rfl, de, f1, nT, gT, dT, t3⟩ := x
  have f2 := fc.at ge de
  unfold noteFrame
  simp only [fL]
  refine wpAny_bind (wpAny_field ge de f1 ?_)
  rw [if_pos (show (Value.ref T != Value.none) = true from by simp)]
  refine wpAny_bind (wpAny_field gT dT t3 ?_)
  rw [if_neg (show ¬ ((Value.none == rawInt L) = true) from by simp [rawInt])]
  refine wpAny_bind (wpAny_setField gT dT (Array.getElem?_eq_some_iff.mp t3).1 ?_)
  have oth : ∀ b, b ≠ T → (s.heap.update T (Obj.mapFields (·.setIfInBounds 3 Value.none))).get? b = s.heap.get? b := fun b nb => Heap.get?_update_other _ _ (Ne.symm nb)
  have nrec : ∀ b o, s.heap.get? b = some o → (∀ vs, o.data ≠ .fields vs) → b ≠ T := fun b o gb nf z => by
    rw [z, gT] at gb
    cases gb
    exact nf ts dT
  have gT' := Heap.get?_update_self (Obj.mapFields (·.setIfInBounds 3 Value.none)) gT (Obj.isFreed_of_fields (Obj.data_mapFields dT _))
  refine fx_entryC fr (ff.of_keeps fun b o gb nf => ⟨o, (oth b (nrec b o gb nf)).trans gb, rfl⟩) fL ((oth e nT.symm).trans ge) de (Array.getElem?_eq_some_iff.mp f1).1 f2 fun h' T' x' c' nT' k1 k2 => h h' T' x' c' ?_ ⟨fun b o n f g => ?_, fun b o n g => ?_⟩
  · cases q : s.heap.get? T' with
    | none => rfl
    | some o =>
      by_cases z : T' = T
      · rw [z, gT'] at nT'
        cases nT'
      · have nT'' := nT'
        rw [oth T' z, q] at nT''
        cases nT''
  · have n1 : b ≠ T := fun z => n (by rw [z]; exact List.mem_cons_self)
    have n2 : b ≠ e := fun z => n (by rw [z]; simp)
    exact k1 b o n2 f ((oth b n1).trans g)
  · have n1 : b ≠ T := fun z => n (by rw [z]; exact List.mem_cons_self)
    have n2 : b ≠ e := fun z => n (by rw [z]; simp)
    exact k2 b o n2 ((oth b n1).trans g)
theorem fx_flightC {Q : Unit → Shared → Prop} {fr : List Addr} (x : Fx s.heap e cls dct fl T) (fc : Fc s.heap e) (h : ∀ h', Fx h' e cls dct .none T → Fc h' e → KeptBut [T] fr s.heap h' → Q () { s with heap := h' }) : wpAny M A (setFlight (.ref e) none) Q E s := by
  obtain ⟨ob, fs, oT, ts, ge, rfl, rfl, de, f1, nT, gT, dT, t3⟩ := x
  have f2 := fc.at ge de
  have z3 : 3 < ts.size := (Array.getElem?_eq_some_iff.mp t3).1
  have oth : ∀ b, b ≠ T → (s.heap.update T (Obj.mapFields (·.setIfInBounds 3 ((none : Option Addr).elim Value.none fun f => rawInt f)))).get? b = s.heap.get? b := fun b nb => Heap.get?_update_other _ _ (Ne.symm nb)
  unfold setFlight
  refine wpAny_bind (wpAny_field ge de f1 ?_)
  rw [if_pos (show (Value.ref T != Value.none) = true from by simp)]
  refine wpAny_setField gT dT z3 (h _ ⟨ob, fs, _, _, (oth e nT.symm).trans ge, rfl, rfl, de, f1, nT, Heap.get?_update_self _ gT (Obj.isFreed_of_fields (Obj.data_mapFields dT _)), Obj.data_mapFields dT _, by simp [z3]⟩ ⟨ob, fs, (oth e nT.symm).trans ge, de, f2⟩ ⟨fun b o n _ g => ?_, fun b o n g => ?_⟩)
  · exact (oth b (by simpa using n)).trans g
  · exact ⟨o.slots, (oth b (by simpa using n)).trans g⟩
theorem fx_leaveC {Q : Unit → Shared → Prop} (fr : A.frames = some (env :: outer)) (ff : s.heap.FunFrames base (env :: outer)) (fL : env.frame = some L) (x : Fx s.heap e cls dct .none T) (fc : Fc s.heap e)
    (h : ∀ h' T', Fx h' e cls dct .none T' → Fc h' e → s.heap.get? T' = none → KeptBut [T, e, T'] (frs (env :: outer)) s.heap h' → Q () { s with heap := h' }) : wpAny M A (leaving env (.ref e)) Q E s := by
  unfold leaving
  refine wpAny_bind (fx_nextC fr ff fL x fc fun h1 T1 x1 c1 n1 k1 => fx_flightC (s := { s with heap := h1 }) x1 c1 fun h2 x2 c2 k2 => h h2 T1 x2 c2 n1 (k1.trans k2))
theorem fx_leave0C {Q : Unit → Shared → Prop} (fr : A.frames = some (env :: outer)) (ff : s.heap.FunFrames base (env :: outer)) (fL : env.frame = some L) (ge : s.heap.get? e = some ob) (de : ob.data = .fields fs) (f1 : fs[1]? = some .none) (f2 : fs[2]? = some .none)
    (h : ∀ h' T', Fx h' e ob.cls ob.dict .none T' → Fc h' e → s.heap.get? T' = none → KeptBut [e, T'] (frs (env :: outer)) s.heap h' → Q () { s with heap := h' }) : wpAny M A (leaving env (.ref e)) Q E s := by
  unfold leaving
  refine wpAny_bind (fx_firstC fr ff fL ge de f1 f2 fun h1 T1 x1 c1 n1 k1 => fx_flightC (s := { s with heap := h1 }) x1 c1 fun h2 x2 c2 k2 => h h2 T1 x2 c2 n1 (k1.trans k2))
end
def CXN (P : Program) (w : World) : CXT := fun outer H s E e s' => ∃ x D dct T H', e = .ref x ∧ XG P w outer H s x D dct T H' s' ∧ Fc s'.heap x ∧ E (.ref D) dct H'
section
variable {P : Program} {w : World} {K : PySem.W.Frag} {mg : Str → Option Value} {base : Heap} {N : List Str} {qual : Str} {scope : Scope} {f : Addr} {cdv : Value} {A : Around} {outer : List Env} {s0 : Shared} {H0 : Hp} {E : XK}
abbrev cxN (P : Program) (w : World) (K : PySem.W.Frag) (mg : Str → Option Value) (base : Heap) (N : List Str) (qual : Str) (scope : Scope) (f : Addr) (cdv : Value) (A : Around) (outer : List Env) (s0 : Shared) (H0 : Hp) (E : XK) : Cx :=
  cxOf (CXN P w) P w K mg base N qual scope f cdv A outer s0 H0 E
theorem passN : Passes (CXN P w) (cxN P w K mg base N qual scope f cdv A outer s0 H0 E) E := by
  intro pins σ H s e s' I hx
  obtain ⟨x, D, dct, T, H', rfl, G, fc, q⟩ := hx
  have J : Inv (cxN P w K mg base N qual scope f cdv A outer s0 H0 E) pins σ H' s' := I.call' (ch := []) G.os G.un G.hok G.bare (by simp)
  have ib : Un (frs outer) [] H0 H s0.heap s.heap := I.base
  have jb : Un (frs outer) [] H0 H' s0.heap s'.heap := J.base
  show wpAny _ _ (leaving _ (.ref x)) _ _ s'
  refine fx_leaveC I.ok.frames J.stack rfl G.fx fc fun h2 T2 x2 c2 n2 k => ?_
  refine ⟨x, D, dct, T2, H', rfl, cxg_out J rfl k (fun b hb => ?_) x2 (by simp) (by simp), c2, q⟩
  have hb' : b = T ∨ b = x ∨ b = T2 := by simpa using hb
  rcases hb' with rfl | rfl | rfl
  · exact ⟨gone_of_there ib G.nT, G.uT, frs_out I G.nT⟩
  · exact ⟨gone_of_there ib G.nx, G.ux, frs_out I G.nx⟩
  · refine ⟨gone_of_there jb n2, ?_, frs_out J n2⟩
    cases z : H' b with
    | none => rfl
    | some u =>
      obtain ⟨o, e⟩ := (J.hok b u z).isObj
      rw [n2] at e
      cases e
theorem ps_raiseN {ex : Expr} {te : TE} {D : Addr} {pos : Pos} (c : XCls K D) (hd : XHd K D) (he : PE (cxN P w K mg base N qual scope f cdv A outer s0 H0 E) ex te) :
    PS (cxN P w K mg base N qual scope f cdv A outer s0 H0 E) (.Raise (some ex) none pos) (tRaiseG K H0 E D te) := by
  intro pins s σ H DE I h
  rw [arm_exec_Raise]
  refine wpAny_bind (wpAny_standAt ?_)
  show wpAny _ _ (raiseStmt _ (some (do let v ← eval ex (cxN P w K mg base N qual scope f cdv A outer s0 H0 E).env; standAt pos; pure v)) none) _ _ s
  refine xr_stmt (K := K) (D := D) c hd (I.ok.hd rfl) (wpAny_bind (thn (he pins s σ H _ I h) fun v s1 ⟨y, H1, I1, ry, x, dct, φ, ey, hx, hφ, h0, q⟩ => wpAny_bind (wpAny_standAt (wpAny_pure ?_))))
  subst ey
  obtain rfl : v = Value.ref x := ry
  obtain ⟨ob, vs, g1, g2, g3, g4, g5⟩ := hφ _ (I1.hok x _ hx).1
  refine ⟨x, ob, vs, rfl, I1.kIn, g1, g2, g3, g5.1, ?_⟩
  show wpAny _ _ (leaving _ (.ref x)) _ _ s1
  have J := I1.untr hx
  have jb : Un (frs outer) [] H0 (untr H1 x) s0.heap s1.heap := J.base
  have ib : Un (frs outer) [] H0 H1 s0.heap s1.heap := I1.base
  have nx : s0.heap.get? x = none := by
    cases z : s0.heap.get? x with
    | none => rfl
    | some o =>
      have := ib.free x o z h0 (by simp)
      rw [hx] at this
      cases this
  refine fx_leave0C I1.ok.frames J.stack rfl g1 g3 g5.1 g5.2 fun h2 T fx fc nT k => ?_
  rw [g2, g4] at fx
  refine ⟨x, D, dct, T, untr H1 x, rfl, cxg_out J rfl k (fun b hb => ?_) fx (by simp) (by simp), fc, q⟩
  have hb' : b = x ∨ b = T := by simpa using hb
  rcases hb' with rfl | rfl
  · refine ⟨nx, untr_same, fun z => ?_⟩
    obtain ⟨_, o, e, nf⟩ := J.funs.mem z
    rw [g1] at e
    cases e
    exact nf vs g3
  · refine ⟨gone_of_there jb nT, ?_, frs_out J nT⟩
    cases z : untr H1 x b with
    | none => rfl
    | some u =>
      obtain ⟨o, e⟩ := (J.hok b u z).isObj
      rw [nT] at e
      cases e
end
section
variable {P : Program} {w : World} {K : PySem.W.Frag} {mg : Str → Option Value} {base : Heap}
theorem Fun.okN' {x qual : Str} {st : Stmt} {f : Addr} {fd : FuncData} {N ps : List Str} {k : Nat} {sp : Sp} (F : Fun K x qual st f fd) (S : FnScope N ps (defScope st)) (len : ∀ vs H Q E, sp vs H Q E → vs.length = ps.length)
    (hbody : ∀ (cdv : Value) (A : Around) (outer : List Env) (s : Shared) (H : Hp) (vs : List V) (Q : VK) (E : XK), Room k (A.deeper (envOfC qual (defScope st) s.heap.objs.size f cdv)) → sp vs H Q E →
      ∃ t, PSs (cxN P w K mg base N qual (defScope st) f cdv A outer s H E) (defBody st) t ∧ t { nx := fun _ H' => Q .non H', rt := Q } (start N vs) H) : FnOk P w K mg base (CXN P w) (k + 1) f fd ps sp := by
  obtain ⟨oc, od, kV, doc, pm, an, cdv, ct, osl, rfl, lk, hcd⟩ := F.ex
  exact fn_of lk hcd S len fun A outer s H vs Q E hr hsp => hbody cdv A outer s H vs Q E hr hsp
end
end L2
set_option Elab.async false
set_option linter.all false
set_option maxRecDepth 100000
set_option maxHeartbeats 4000000
namespace L2
open PySem PySem.Spec PyProof.Rows
structure RoomH (k : Nat) (A : Around) : Prop where
  dp : A.depth + 3 * k + 5 < recursionLimit
  un : A.units + 16 * k + 200 < cLine
theorem Room.h {k : Nat} {A : Around} (r : Room k A) (x : Option Value) : RoomH k (A.mark x) := ⟨r.dp, r.un⟩
theorem RoomH.deeper {k : Nat} {A : Around} (r : RoomH (k + 1) A) (env : Env) : RoomH k (A.deeper env) :=
  ⟨by have := r.dp; show A.depth + 1 + 3 * k + 5 < _; omega, by have := r.un; show A.units + 3 + 16 * k + 200 < _; omega⟩
theorem RoomH.make {k : Nat} {A : Around} (r : RoomH (k + 1) A) (C : Addr) (us : List Value) (kw : List (Str × Value)) : RoomH k (A.under (.builtin "type.__call__" ⟨.ref C :: us, kw⟩)) :=
  ⟨by have := r.dp; rw [make_depth]; omega, by have := r.un; rw [make_units]; omega⟩
theorem RoomH.depth {k : Nat} {A : Around} (r : RoomH k A) : A.depth < recursionLimit := by have := r.dp; omega
structure FnOkH (P : Program) (w : World) (K : PySem.W.Frag) (mg : Str → Option Value) (base : Heap) (k : Nat) (f : Addr) (fd : FuncData) (ps : List Str) (sp : Sp) : Prop where
  len : ∀ vs H Q E, sp vs H Q E → vs.length = ps.length
  run : ∀ (A : Around) (outer : List Env) (s : Shared) (H : Hp) (args : Args) (us : List Value) (vs : List V) (Q : VK) (E : XK), RoomH k A → Env0 P w K mg base A outer s H → BindsTo s fd args (ps.zip us) → Vals vs us → sp vs H Q E →
    codeAny (model P w) A (.call (.ref f) args) (CR CX0 outer P w H s Q E) s
section
variable {P : Program} {w : World} {K : PySem.W.Frag} {mg : Str → Option Value} {base : Heap}
abbrev cxH (P : Program) (w : World) (K : PySem.W.Frag) (mg : Str → Option Value) (base : Heap) (N : List Str) (qual : Str) (scope : Scope) (f : Addr) (cd : Value) (A : Around) (outer : List Env) (s : Shared) (H : Hp) (E : XK) : Cx :=
  { cxOf CX0 P w K mg base N qual scope f cd A outer s H E with calm := false }
theorem Fun.okH {x qual : Str} {st : Stmt} {f : Addr} {fd : FuncData} {N ps : List Str} {k : Nat} {sp : Sp} (F : Fun K x qual st f fd) (S : FnScope N ps (defScope st)) (len : ∀ vs H Q E, sp vs H Q E → vs.length = ps.length)
    (hbody : ∀ (cdv : Value) (A : Around) (outer : List Env) (s : Shared) (H : Hp) (vs : List V) (Q : VK) (E : XK), RoomH k (A.deeper (envOfC qual (defScope st) s.heap.objs.size f cdv)) → sp vs H Q E →
      ∃ t, PSs (cxH P w K mg base N qual (defScope st) f cdv A outer s H E) (defBody st) t ∧ t { nx := fun _ H' => Q .non H', rt := Q } (start N vs) H) : FnOkH P w K mg base (k + 1) f fd ps sp := by
  obtain ⟨oc, od, kV, doc, pm, an, cdv, ct, osl, rfl, lk, hcd⟩ := F.ex
  refine ⟨len, fun A outer s H args us vs Q E hr e0 hb r hsp => ?_⟩
  have hl := len _ _ _ _ hsp
  have KX : K.In s.heap := e0.mod.kin.keeps fun b o e => (e0.bs b o e).1
  have lim : s.heap.NoLimit := e0.mod.nolimit.keeps fun b o e => (e0.bs b o e).1
  have hkind : ∀ y ∈ ps.zip us, (defScope st).names.lookup y.1 = some .local ∨ ((defScope st).names.lookup y.1 = some .cell ∧ ((cellsFrom (s.heap.objs.size + 1) (defScope st).names []).lookup y.1).isSome = true) := fun ⟨n, v⟩ hy => by
    rcases S.par n (List.of_mem_zip hy).1 with q | q
    · exact .inl q
    · exact .inr ⟨q, PySem.W.cellsFrom_some _ _ _ (.inl q)⟩
  refine codeAny_call_function hr.depth (KX _ _ lk) rfl S.co S.gen rfl (PySem.W.codeRec_of KX hcd) (hb _ _ _ _ ?_)
  refine wpAny_newFunctionEnv_cells S.kind hkind fun env he s1 x => ?_
  subst he
  refine ⟨lim.keeps x.toInCall.keep, codeAny_func ?_⟩
  obtain ⟨t, ht, hq⟩ := hbody cdv A outer s H vs Q E (hr.deeper _) hsp
  have e1 : Env0 P w K mg base { A with handled := none } outer s H := ⟨e0.frames, e0.mod, e0.bs, e0.bsz, e0.funs, e0.frf, e0.hok, e0.bare⟩
  have I0 := inv_start (CX := CX0) (E := E) (A := { A with handled := none }) S rfl e1 hl r x
  have I : Inv (cxH P w K mg base N qual (defScope st) f cdv A outer s H E) [] (start N vs) H s1 :=
    ⟨⟨I0.ok.mod, I0.ok.kind, I0.ok.glob, I0.ok.blt, I0.ok.above, I0.ok.inj, I0.ok.has, I0.ok.cab, fun z => absurd (show false = true from z) Bool.false_ne_true, Around.frames_deeper e0.frames, I0.ok.stk, I0.ok.exf, I0.ok.bs, I0.ok.bsz, I0.ok.noex, I0.ok.exfs, I0.ok.funs, I0.ok.frf⟩,
      I0.os, I0.bare, I0.base, I0.loc, I0.cell, I0.free, I0.freeC, I0.pin, I0.hok, I0.len⟩
  refine wpAny_mono (ht [] s1 (start N vs) H _ I hq) (fun fl s' hs => ?_) fun e s' hs => hs
  have fin : ∀ {σ' : St} {H' : Hp} {v : V} {u : Value}, Inv (cxH P w K mg base N qual (defScope st) f cdv A outer s H E) [] σ' H' s' → RelV v u → Q v H' → CE outer P w H s Q u s' :=
    fun {σ' H' v u} J rv q => ⟨v, H', J.os, J.bare, J.base, J.hok, rv, q⟩
  cases fl with
  | ret u =>
    obtain ⟨v, σ', H', J, rv, q⟩ := hs
    exact fin J rv q
  | next =>
    obtain ⟨σ', H', J, q⟩ := hs
    exact fin (v := V.non) (u := Value.none) J rfl q
  | brk =>
    obtain ⟨_, _, _, q⟩ := hs
    exact False.elim q
  | cont =>
    obtain ⟨_, _, _, q⟩ := hs
    exact False.elim q
end
section
variable {X : Cx} {k : Nat} {f C : Addr} {fd : FuncData} {ps : List Str} {sp : Sp} {x : Str} {p pos : Pos} {e : Expr} {es : List Expr} {t : TA}
theorem pe_mkXH (z : xIn X.K C (some (.ref f)) = true) (kp : PySem.W.keepIn X.K (.ref C) = true) (fn : PySem.W.isFn X.K (.ref f) = true) (F : FnOkH X.prog X.w X.K X.mg X.base k f fd ps sp) (hr : RoomH (k + 1) X.A) (hg : Gl X x) (hm : X.mg x = some (.ref C))
    (hb : Binds X.K fd ps []) (ha : PA X (e :: es) t) (hz : ∀ vs H Q E, sp vs H Q E → vs.length ≤ 100) (hdb : (x == ("__debug__" : Str)) = false := by decide) (he : starEach (e :: es) X.env = (false, eval e X.env) :: starEach es X.env := by rfl)
    (hpl : (backTo pos (starEach es X.env)).any (·.1) = false := by rfl) : PE X (.Call (.Name x p) (e :: es) [] pos) (tMkX C sp t) := by
  intro pins s σ H Q I h
  refine wpAny_Call_Name_kw (ld_glob I hg hm ?_ hdb)
  refine PySem.W.callWith_K (h₀ := X.base) I.ok.mod.kin kp (thn (ha pos pins s σ H _ I h) fun us s1 ⟨vs, H1, I1, r, q⟩ => ⟨I1.kIn, ?_⟩) he hpl
  obtain ⟨bm, N, nm, qn, bs, hdct, sn, sub, ab, col, dd, k0, k1, k2, k3, k5, mN, hC, hN, hni, T⟩ := (x_of_in I1.kIn z).obj
  have q1 := q (s1.heap.objs.size + 1) (I1.hok.fresh (Nat.le_succ _))
  have hlen : us.length ≤ sizeLine := by
    have := hz _ _ _ _ q1
    rw [List.length_cons] at this
    rw [← r.length]
    exact Nat.le_trans (Nat.le_of_succ_le this) (by decide)
  have up : ∀ b o, s1.heap.get? b = some o → (bareX s1.heap C us).get? b = some o := fun b o e => Heap.get?_push_of_some _ (Heap.get?_push_of_some _ e)
  have e2 : (bareX s1.heap C us).get? (s1.heap.objs.size + 1) = some { cls := .ref C, data := .fields #[.ref s1.heap.objs.size, .none, .none, .none, .bool false, .none] } := by heap_get
  have I2 := I1.laid (t' := s1.toks) (h' := bareX s1.heap C us) (a := s1.heap.objs.size + 1) (o := .ext (XD0 (s1.heap.objs.size + 1) C)) up (Nat.le_succ _) (XD0.ok ⟨_, _, e2, rfl, rfl, rfl, rfl, rfl⟩)
  obtain ⟨oI, hfI, hfc⟩ : ∃ oI, s1.heap.get? f = some oI ∧ oI.cls = .type "function" := by
    have := beq_iff_eq.mp fn
    unfold PySem.W.typeIn at this
    obtain ⟨ob, lk, hcl⟩ := Option.map_eq_some_iff.mp this
    exact ⟨ob, I1.kIn _ _ lk, hcl⟩
  have r2 : Vals (V.ref (s1.heap.objs.size + 1) :: vs) (Value.ref (s1.heap.objs.size + 1) :: us) := .cons rfl r
  have hl2 : (Value.ref (s1.heap.objs.size + 1) :: us).length = ps.length := by rw [← r2.length]; exact F.len _ _ _ _ q1
  have b2 := hb { s1 with heap := bareX s1.heap C us, toks := s1.toks } (Value.ref (s1.heap.objs.size + 1) :: us) I2.kIn (by rw [List.append_nil]; exact hl2)
  rw [List.append_nil] at b2
  have goal : wpAny (model X.prog X.w) X.A (call (.ref C) us) (EP X pins σ Q) X.xe s1 := by
    obtain ⟨h1, g1, d1, t1, os1⟩ := s1
    refine xm_call PySem.F.excBase_ValueError T hC hN hni hfI hfc hlen ?_
    refine wpAny_call (codeAny_mono (F.run _ X.stack _ _ ⟨Value.ref (h1.objs.size + 1) :: us, []⟩ (Value.ref (h1.objs.size + 1) :: us) _ _ E0 (hr.make C us []) (I2.env0.make C us []) b2 r2 q1) fun r s' hq => ?_)
    cases r with
    | error e => exact False.elim hq
    | ok fl =>
      cases fl with
      | ret u =>
        obtain ⟨v, H', I3, rv, ev, q3⟩ := I2.after hq
        subst ev
        exact ⟨rv, ⟨V.ref (h1.objs.size + 1), H', I3, rfl, q3⟩⟩
      | next => exact False.elim hq
      | brk => exact False.elim hq
      | cont => exact False.elim hq
  exact goal
end
theorem entry_unchain : entryFor table "proto.unchain" = some Builtin.«proto.unchain» := entryFor_of_fast (by kernel_rfl)
section
variable {prog : Program} {w : World} {A : Around} {E : Value → Shared → Prop} {s : Shared} {env : Env} {K : PySem.W.Frag} {D : Addr}
theorem raiseNew_ctx {α : Type} {Q : α → Shared → Prop} {x e : Addr} {ob : Obj} {fs : Array Value} (hh : A.handled = some (.ref x)) (hne : x ≠ e) (fc : Fc s.heap x) (ge : s.heap.get? e = some ob) (de : ob.data = .fields fs) (sz : 2 < fs.size)
    (h : E (.ref e) { s with heap := s.heap.update e (Obj.mapFields (·.setIfInBounds 2 (.ref x))) }) : wpAny (model prog w) A (raiseNew (.ref e) : Sem α) Q E s := by
  obtain ⟨ox, fx, gx, dx, f2⟩ := fc
  unfold raiseNew
  refine wpAny_bind (wpAny_handled ?_)
  rw [hh]
  have b : (Value.ref x != Value.ref e) = true := by simpa using hne
  simp only [b, if_true]
  refine wpAny_bind (wpAny_holding (wpAny_runValue (codeAny_builtin entry_unchain ?_)))
  unfold Builtin.«proto.unchain»
  refine wpAny_bind (wpAny_field gx dx f2 ?_)
  rw [if_pos (by decide)]
  refine wpAny_bind (wpAny_pure (wpAny_pure ?_))
  refine wpAny_bind (wpAny_setField ge de sz ?_)
  exact wpAny_throw h
theorem xr_stmtH {x : Addr} {m : Sem Value} {Q : Flow → Shared → Prop} (c : XCls K D) (hd : XHd K D) (hh : A.handled = some (.ref x))
    (h : wpAny (model prog w) A m (fun v s₁ => ∃ e ob vs, v = .ref e ∧ K.In s₁.heap ∧ x ≠ e ∧ Fc s₁.heap x ∧ s₁.heap.get? e = some ob ∧ ob.cls = .ref D ∧ ob.data = .fields vs ∧ vs[1]? = some .none ∧ 2 < vs.size ∧ E (.ref e) { s₁ with heap := s₁.heap.update e (Obj.mapFields (·.setIfInBounds 2 (.ref x))) }) E s) : wpAny (model prog w) A (raiseStmt env (some m) none) Q E s := by
  unfold raiseStmt
  refine wpAny_bind (wpAny_mono h (fun v s₁ h₁ => ?_) fun _ _ z => z)
  obtain ⟨e, ob, vs, rfl, X, hne, fc, ge, gc, gd, g1, g2, hE⟩ := h₁
  obtain ⟨hp, g, d, tk, os⟩ := s₁
  repeat (first | with_reducible refine (PySem.W.looks_typeIn X hd.ty).at ?_ | (with_reducible refine wpAny_loadPart_at ge ?_; first | rw [gc] | rw [gd]) | with_reducible refine (PySem.W.looks_mroIn X c.mb).at ?_ | with_reducible refine wpAny_field ge gd g1 ?_ | wp_step)
  exact raiseNew_ctx hh hne fc ge gd g2 hE
end
end L2
set_option Elab.async false
set_option linter.all false
set_option maxRecDepth 100000
set_option maxHeartbeats 4000000
namespace L2
open PySem PySem.Spec PyProof.Rows
def XCn (a D : Addr) (dct : Option Addr) : Heap → Prop := fun h => ∃ o vs, h.get? a = some o ∧ o.cls = .ref D ∧ o.data = .fields vs ∧ o.dict = dct ∧ vs[2]? = some .none
theorem XCn.fc {a D : Addr} {dct : Option Addr} {h : Heap} (x : XCn a D dct h) : Fc h a := let ⟨o, vs, e, _, d, _, f⟩ := x; ⟨o, vs, e, d, f⟩
section
variable {X : Cx} {pins : List (Addr × Obj)} {σ : St} {H H' : Hp} {s s' : Shared} {x D C T T2 : Addr} {dct : Option Addr} {fl : Value} {h2 : Heap} {xs : List Addr}
theorem landN (I : Inv X pins σ H s) (G : XG X.prog X.w X.stack H s x D dct T H' s') (k : KeptBut xs (frs X.stack) s'.heap h2) (hxs : ∀ b ∈ xs, s.heap.get? b = none ∧ H' b = none ∧ b ∉ frs X.stack) (fx : Fx h2 x (.ref D) dct fl T2) (fc : Fc h2 x) :
    Inv X pins σ (upd H' x (.ext (XCn x D dct))) { s' with heap := h2 } := by
  have hnx : ∀ b u, H' b = some u → b ≠ x := fun b u e z => by rw [z, G.ux] at e; cases e
  have trk : ∀ b u, H' b = some u → b ∉ frs X.stack := fun b u e hb => by
    obtain ⟨_, o, ho, _⟩ := I.stack.mem hb
    rw [G.un.free b o ho (I.stkFree b hb) (by simp)] at e
    cases e
  have u2 : Un (frs X.stack) [] H H' s.heap h2 := un_more G.un (fun b o h0 hf e => k.1 b o (fun z => by obtain ⟨o0, e0⟩ := h0; rw [(hxs b z).1] at e0; cases e0) hf e) (fun b o hf e => k.2 b o (fun z => (hxs b z).2.2 hf) e)
  have hk2 : HOk X.prog X.w H' h2 := hok_more G.hok (fun b o u hu e => k.1 b o (fun z => by rw [(hxs b z).2.1] at hu; cases hu) (trk b u hu) e)
  obtain ⟨ob, fs, _, _, gx, gc, gd, gf, _⟩ := fx
  have f2 := fc.at gx gf
  refine I.call' (ch := []) (s' := { s' with heap := h2 }) G.os ⟨u2.keep, u2.slot, fun b o e n hx' => ?_, u2.there, fun b xs e => ?_, fun b o u e => ?_, fun b ps e => ?_⟩ (fun a o e => ?_) G.bare (by simp)
  · have : b ≠ x := fun z => by rw [z, G.nx] at e; cases e
    rw [upd_ne this]
    exact u2.free b o e n hx'
  · have e' := u2.tups b xs e
    rw [upd_ne (hnx b _ e')]
    exact e'
  · have e' := u2.frzs b o u e
    rw [upd_ne (hnx b _ e')]
    exact e'
  · obtain ⟨more, e'⟩ := u2.tbls b ps e
    exact ⟨more, by rw [upd_ne (hnx b _ e')]; exact e'⟩
  · by_cases ha : a = x
    · subst ha
      rw [upd_same] at e
      cases e
      exact ⟨⟨ob, fs, gx, gc, gf, gd, f2⟩, ⟨ob, gx⟩, fun h1 h3 ⟨o, vs, e1, r⟩ kk => ⟨o, vs, kk o e1, r⟩⟩
    · rw [upd_ne ha] at e
      exact (hk2 a o e).stay (fun _ _ _ q => q) (fun b q => by rw [upd_ne (hnx b _ q)]; exact q) fun b xs q => by rw [upd_ne (hnx b _ q)]; exact q
end
section
variable {M : Model} {A : Around} {E : Value → Shared → Prop} {s : Shared} {env : Env} {L e T : Addr} {cls fl : Value} {dct : Option Addr}
theorem fx_flightL {Q : Unit → Shared → Prop} {fr : List Addr} (x : Fx s.heap e cls dct fl T) (h : ∀ h', Fx h' e cls dct (rawInt L) T → KeptBut [T] fr s.heap h' → Q () { s with heap := h' }) : wpAny M A (setFlight (.ref e) (some L)) Q E s := by
  obtain ⟨ob, fs, oT, ts, ge, rfl, rfl, de, f1, nT, gT, dT, t3⟩ := x
  have z3 : 3 < ts.size := (Array.getElem?_eq_some_iff.mp t3).1
  have oth : ∀ b, b ≠ T → (s.heap.update T (Obj.mapFields (·.setIfInBounds 3 ((some L : Option Addr).elim Value.none fun f => rawInt f)))).get? b = s.heap.get? b := fun b nb => Heap.get?_update_other _ _ (Ne.symm nb)
  unfold setFlight
  refine wpAny_bind (wpAny_field ge de f1 ?_)
  rw [if_pos (show (Value.ref T != Value.none) = true from by simp)]
  refine wpAny_setField gT dT z3 (h _ ⟨ob, fs, _, _, (oth e nT.symm).trans ge, rfl, rfl, de, f1, nT, Heap.get?_update_self _ gT (Obj.isFreed_of_fields (Obj.data_mapFields dT _)), Obj.data_mapFields dT _, by simp [z3]⟩ ⟨fun b o n _ g => ?_, fun b o n g => ?_⟩)
  · exact (oth b (by simpa using n)).trans g
  · exact ⟨o.slots, (oth b (by simpa using n)).trans g⟩
theorem fx_back {E' : Value → Shared → Prop} {fr : List Addr} (fL : env.frame = some L) (x : Fx s.heap e cls dct fl T) (h : ∀ h', Fx h' e cls dct (rawInt L) T → KeptBut [T] fr s.heap h' → E (.ref e) { s with heap := h' }) : cameBackBy M A env E (.ref e) s := by
  obtain ⟨ob, fs, oT, ts, ge, c1, c2, de, f1, r⟩ := id x
  unfold cameBackBy
  refine wpAny_bind (wpAny_field ge de f1 ?_)
  rw [if_neg (show ¬ ((Value.ref T == Value.none) = true) from by simp)]
  rw [fL]
  exact fx_flightL (fr := fr) x h
theorem fx_leaveL {Q : Unit → Shared → Prop} {fr : List Addr} (fL : env.frame = some L) (x : Fx s.heap e cls dct (rawInt L) T) (h : ∀ h', Fx h' e cls dct .none T → KeptBut [T] fr s.heap h' → Q () { s with heap := h' }) : wpAny M A (leaving env (.ref e)) Q E s := by
  obtain ⟨ob, fs, oT, ts, ge, c1, c2, de, f1, nT, gT, dT, t3⟩ := id x
  unfold leaving
  refine wpAny_bind ?_
  unfold noteFrame
  simp only [fL]
  refine wpAny_bind (wpAny_field ge de f1 ?_)
  rw [if_pos (show (Value.ref T != Value.none) = true from by simp)]
  refine wpAny_bind (wpAny_field gT dT t3 ?_)
  rw [if_pos (by simp)]
  exact wpAny_pure (fx_flight (fr := fr) x h)
end
section
variable {P : Program} {w : World} {K : PySem.W.Frag} {mg : Str → Option Value} {base : Heap} {N : List Str} {qual : Str} {scope : Scope} {f0 : Addr} {cdv : Value} {A : Around} {outer : List Env} {s0 : Shared} {H0 : Hp} {E : XK}
variable {k : Nat} {f C D2 : Addr} {fd : FuncData} {ps : List Str} {sp : Sp} {dvs : List V} {ds : List Value} {fx cn : Str} {p pos p2 cp hp tp rp : Pos} {e ex : Expr} {es : List Expr} {t : TA} {te : TE}
def tTryR (K : PySem.W.Frag) (H0 : Hp) (E : XK) (C D2 : Addr) (sp : Sp) (dvs : List V) (t : TA) (te : TE) : TS := fun DE σ H => t σ H fun vs H1 => sp (vs ++ dvs) H1 DE.rt (fun cls dct H2 => ∃ D, cls = .ref D ∧ PySem.W.mroIn K D (.ref C) = some true ∧
  ∀ x, H2 x = none → te σ (upd H2 x (.ext (XCn x D dct))) fun v H3 => ∃ y dct2 φ, v = .ref y ∧ y ≠ x ∧ H3 y = some (.ext φ) ∧ (∀ h, φ h → XU y D2 dct2 h) ∧ H3 x = some (.ext (XCn x D dct)) ∧ H0 y = none ∧ E (.ref D2) dct2 (untr H3 y))
theorem ps_tryR (F : FnOk P w K mg base (CXN P w) k f fd ps sp) (hr : Room k (cxG P w K mg base N qual scope f0 cdv A outer s0 H0 E).A) (hg : Gl (cxG P w K mg base N qual scope f0 cdv A outer s0 H0 E) fx) (hm : mg fx = some (.ref f)) (hk : PySem.W.keepIn K (.ref f) = true)
    (hb : Binds K fd ps ds) (hd : Vals dvs ds) (ha : PA (cxG P w K mg base N qual scope f0 cdv A outer s0 H0 E).nox (e :: es) t) (gC : Gl (cxG P w K mg base N qual scope f0 cdv A outer s0 H0 E) cn) (mC : mg cn = some (.ref C)) (cC : XHd K C) (c2 : XCls K D2) (hd2 : XHd K D2)
    (he : ∀ x, PE ((cxG P w K mg base N qual scope f0 cdv A outer s0 H0 E).inX x) ex te) (hdb : (fx == ("__debug__" : Str)) = false := by decide) (hdc : (cn == ("__debug__" : Str)) = false := by decide)
    (hst : starEach (e :: es) (cxG P w K mg base N qual scope f0 cdv A outer s0 H0 E).env = (false, eval e (cxG P w K mg base N qual scope f0 cdv A outer s0 H0 E).env) :: starEach es (cxG P w K mg base N qual scope f0 cdv A outer s0 H0 E).env := by rfl) (hpl : (backTo pos (starEach es (cxG P w K mg base N qual scope f0 cdv A outer s0 H0 E).env)).any (·.1) = false := by rfl) :
    PS (cxG P w K mg base N qual scope f0 cdv A outer s0 H0 E) (.Try [.Return (some (.Call (.Name fx p) (e :: es) [] pos)) p2] [.ExceptHandler (some (.Name cn cp)) none [.Raise (some ex) none rp] hp] [] [] tp) (tTryR K H0 E C D2 sp dvs t te) := by
  intro pins s σ H DE I h
  refine wpAny_Try_except ?_
  refine wpAny_execs_cons (wpAny_Return_some ?_)
  refine wpAny_Call_Name_kw (ld_glob I hg hm ?_ hdb)
  refine PySem.W.callWith_K (h₀ := base) I.ok.mod.kin hk (wpAny_mono (ha pos pins s σ H _ (I.wish _) h) (fun us s1 ⟨vs, H1, I1, r, q⟩ => ⟨I1.unwish.kIn, ?_⟩) fun _ _ z => False.elim z) hst hpl
  have I1 : Inv (cxG P w K mg base N qual scope f0 cdv A outer s0 H0 E) pins σ H1 s1 := I1.unwish
  have r2 : Vals (vs ++ dvs) (us ++ ds) := r.append hd
  have hlen : (us ++ ds).length = ps.length := by rw [← r2.length]; exact F.len _ _ _ _ q
  refine wpAny_call (codeAny_mono (F.run _ _ s1 H1 ⟨us, []⟩ (us ++ ds) (vs ++ dvs) _ _ hr I1.env0 (hb s1 us I1.kIn hlen) r2 q) fun r s' hq => ?_)
  cases r with
  | ok fl =>
    cases fl with
    | ret u =>
      obtain ⟨v, H2, I2, rv, q2⟩ := I1.after hq
      exact ⟨v, σ, H2, I2, rv, q2⟩
    | next => exact False.elim hq
    | brk => exact False.elim hq
    | cont => exact False.elim hq
  | error e =>
    obtain ⟨x, D, dct, T, H', rfl, G, fc, D', eD, hmro, q'⟩ := hq
    cases eD
    have J : Inv (cxG P w K mg base N qual scope f0 cdv A outer s0 H0 E) pins σ H' s' := I1.call' (ch := []) G.os G.un G.hok G.bare (by simp)
    refine fx_nextC I1.ok.frames J.stack rfl G.fx fc fun h4 T4 x4 c4 n4 k4 => ?_
    refine fx_flightC (s := { s' with heap := h4 }) (fr := frs (cxG P w K mg base N qual scope f0 cdv A outer s0 H0 E).stack) x4 c4 fun h5 x5 c5 k5 => ?_
    have k45 : KeptBut ([T, x] ++ [T4]) (frs (cxG P w K mg base N qual scope f0 cdv A outer s0 H0 E).stack) s'.heap h5 := k4.trans k5
    have so : ∀ b, s1.heap.get? b = none → b ∉ frs (cxG P w K mg base N qual scope f0 cdv A outer s0 H0 E).stack := fun b n z => by
      obtain ⟨_, o, e, _⟩ := I1.stack.mem z
      rw [n] at e
      cases e
    have h4s : s1.heap.get? T4 = none := gone_of_there G.un n4
    have u4 : H' T4 = none := by
      cases z : H' T4 with
      | none => rfl
      | some u =>
        obtain ⟨o, e⟩ := (J.hok T4 u z).isObj
        rw [n4] at e
        cases e
    have hxs : ∀ b, b = T ∨ b = x ∨ b = T4 → s1.heap.get? b = none ∧ H' b = none ∧ b ∉ frs (cxG P w K mg base N qual scope f0 cdv A outer s0 H0 E).stack := fun b hb => by
      rcases hb with rfl | rfl | rfl
      · exact ⟨G.nT, G.uT, so _ G.nT⟩
      · exact ⟨G.nx, G.ux, so _ G.nx⟩
      · exact ⟨h4s, u4, so _ h4s⟩
    have J5 := landN (h2 := h5) I1 G k45 (fun b hb => hxs b (by simpa using hb)) x5 c5
    obtain ⟨o5, ho5, hc5⟩ : ∃ o, h5.get? x = some o ∧ o.cls = .ref D := let ⟨o, _, _, _, e, c, _⟩ := x5; ⟨o, e, c⟩
    refine wpAny_handleBy_cons (codeAny_handlers_test (ld_glob (X := (cxG P w K mg base N qual scope f0 cdv A outer s0 H0 E).inX x) (J5.inX x) gC mC ?_ hdc)) (by intro z; cases z)
    refine (x_matches J5.kIn cC ho5 hc5 hmro).at ?_
    refine codeAny_handlers_suite ?_
    refine fx_flightC (s := { s' with heap := h5 }) (fr := frs (cxG P w K mg base N qual scope f0 cdv A outer s0 H0 E).stack) x5 c5 fun h6 x6 c6 k6 => ?_
    have J6 := landN (h2 := h6) I1 G (k45.trans k6) (fun b hb => hxs b (by
      have : b = T ∨ b = x ∨ b = T4 ∨ b = T4 := by simpa using hb
      rcases this with z | z | z | z
      · exact .inl z
      · exact .inr (.inl z)
      · exact .inr (.inr z)
      · exact .inr (.inr z))) x6 c6
    refine wpAny_execs_cons ?_
    rw [arm_exec_Raise]
    refine wpAny_bind (wpAny_standAt ?_)
    show wpAny _ _ (raiseStmt _ (some (do let v ← eval ex (cxG P w K mg base N qual scope f0 cdv A outer s0 H0 E).env; standAt rp; pure v)) none) _ _ _
    refine xr_stmtH (K := K) (D := D2) (x := x) c2 hd2 rfl (wpAny_bind (wpAny_mono (he x pins _ σ _ _ (J6.inX x) (q' x G.ux)) (fun v s7 ⟨v', H3, I7, rv, y, dct2, φ, ev, hyx, hy, hφ, hx3, hy0, qE⟩ => wpAny_bind (wpAny_standAt (wpAny_pure ?_))) fun _ _ z => False.elim z))
    subst ev
    obtain rfl : v = Value.ref y := rv
    have J7 : Inv (cxG P w K mg base N qual scope f0 cdv A outer s0 H0 E) pins σ H3 s7 := I7.outX I.ok.hd
    obtain ⟨ob, vs7, g1, g2, g3, g4, g5, g6⟩ := hφ _ (J7.hok y _ hy).1
    have fcx : Fc s7.heap x := XCn.fc (J7.hok x _ hx3).1
    have z2 : 2 < vs7.size := (Array.getElem?_eq_some_iff.mp g6).1
    refine ⟨y, ob, vs7, rfl, J7.kIn, Ne.symm hyx, fcx, g1, g2, g3, g5, z2, ?_⟩
    have dm := Obj.data_mapFields g3 (·.setIfInBounds 2 (Value.ref x))
    have gy := Heap.get?_update_self (Obj.mapFields (·.setIfInBounds 2 (Value.ref x))) g1 (Obj.isFreed_of_fields dm)
    have oth : ∀ b, b ≠ y → (s7.heap.update y (Obj.mapFields (·.setIfInBounds 2 (Value.ref x)))).get? b = s7.heap.get? b := fun b nb => Heap.get?_update_other _ _ (Ne.symm nb)
    have f1 : (vs7.setIfInBounds 2 (Value.ref x))[1]? = some .none := by rw [Array.getElem?_setIfInBounds_ne (by decide)]; exact g5
    generalize s7.heap.update y (Obj.mapFields (·.setIfInBounds 2 (Value.ref x))) = h8 at gy oth
    have J := J7.untr hy
    have nrec : ∀ b o, s7.heap.get? b = some o → (∀ vs, o.data ≠ .fields vs) → b ≠ y := fun b o gb nf z => by
      rw [z, g1] at gb
      cases gb
      exact nf vs7 g3
    have st8 : h8.FunFrames base (cxG P w K mg base N qual scope f0 cdv A outer s0 H0 E).stack := J7.stack.of_keeps fun b o gb nf => ⟨o, (oth b (nrec b o gb nf)).trans gb, rfl⟩
    have k78 : KeptBut [y] (frs (cxG P w K mg base N qual scope f0 cdv A outer s0 H0 E).stack) s7.heap h8 := ⟨fun b o n _ g => (oth b (by simpa using n)).trans g, fun b o n g => ⟨o.slots, (oth b (by simpa using n)).trans g⟩⟩
    unfold notedBy
    refine fx_first (s := { s7 with heap := h8 }) (base := base) I.ok.frames st8 rfl gy dm f1 fun h9 T9 x9 n9 k9 => ?_
    refine fx_back (E' := fun _ _ => True) (fr := frs (cxG P w K mg base N qual scope f0 cdv A outer s0 H0 E).stack) (s := { s7 with heap := h9 }) rfl x9 fun h10 x10 k10 => ?_
    show wpAny _ _ (leaving _ (.ref y)) _ _ _
    refine fx_leaveL (fr := frs (cxG P w K mg base N qual scope f0 cdv A outer s0 H0 E).stack) (s := { s7 with heap := h10 }) rfl x10 fun h11 x11 k11 => ?_
    rw [cls_mapF, dict_mapFields, g2, g4] at x11
    have kk : KeptBut ([y] ++ [y] ++ [T9] ++ [T9]) (frs (cxG P w K mg base N qual scope f0 cdv A outer s0 H0 E).stack) s7.heap h11 := ((k78.trans k9).trans k10).trans k11
    have n9' : s7.heap.get? T9 = none := by
      cases z : s7.heap.get? T9 with
      | none => rfl
      | some o =>
        by_cases e : T9 = y
        · have n9 : h8.get? T9 = none := n9
          rw [e, gy] at n9; cases n9
        · have n9 : h8.get? T9 = none := n9
          rw [oth T9 e, z] at n9; cases n9
    have jb : Un (frs outer) [] H0 (untr H3 y) s0.heap s7.heap := J.base
    have ib : Un (frs outer) [] H0 H3 s0.heap s7.heap := J7.base
    have ny : s0.heap.get? y = none := by
      cases z : s0.heap.get? y with
      | none => rfl
      | some o =>
        have := ib.free y o z hy0 (by simp)
        rw [hy] at this
        cases this
    refine ⟨y, D2, dct2, T9, untr H3 y, rfl, cxg_out J rfl kk (fun b hb => ?_) x11 (by simp) (by simp), qE⟩
    have hb' : b = y ∨ b = T9 := by
      have : b = y ∨ b = y ∨ b = T9 ∨ b = T9 := by simpa using hb
      rcases this with z | z | z | z
      · exact .inl z
      · exact .inl z
      · exact .inr z
      · exact .inr z
    rcases hb' with rfl | rfl
    · refine ⟨ny, untr_same, fun z => ?_⟩
      obtain ⟨_, o, e, nf⟩ := J.funs.mem z
      rw [g1] at e
      cases e
      exact nf vs7 g3
    · refine ⟨gone_of_there jb n9', ?_, frs_out J n9'⟩
      cases z : untr H3 y b with
      | none => rfl
      | some u =>
        obtain ⟨o, e⟩ := (J.hok b u z).isObj
        rw [n9'] at e
        cases e
end
end L2
set_option Elab.async false
set_option linter.all false
set_option maxRecDepth 100000
set_option maxHeartbeats 4000000
namespace HT
open PySem PySem.Spec PyProof.Rows
section
variable {prog : Program} {w : World} {A : Around} {E : Value → Shared → Prop} {s : Shared}
end
end HT
namespace L2
open PySem PySem.Spec PyProof.Rows
section
variable {X : Cx}
def rCatT0 (K : PySem.W.Frag) : R2 := fun x y H Q => ∃ a b ys, x = .ref a ∧ y = .ref b ∧ SqT K H a [] ∧ SqT K H b ys ∧ Q (.ref b) H
def rSlTW (K : PySem.W.Frag) : V → Option Int → Option Int → Hp → VK → Prop := fun x lo hi H Q => ∃ a xs, x = .ref a ∧ SqT K H a xs ∧ (HT.sIx xs.length 0 lo = 0 ∧ HT.sIx xs.length xs.length hi = xs.length) ∧ Q (.ref a) H
@[irreducible] def PAq (X : Cx) (es : List Expr) (t : TA) : Prop := PA X es t
theorem paq_nil : PAq X [] tNil := by unfold PAq; exact pa_nil
theorem paq_cons {e : Expr} {es : List Expr} {te : TE} {t : TA} (ha : PE X e te) (hr : PAq X es t) (h : isSt e = false := by rfl) : PAq X (e :: es) (tCons te t) := by
  unfold PAq at hr ⊢
  exact pa_consQ ha hr h
theorem pe_lstQ {es : List Expr} {t : TA} {pos : Pos} (h : PAq X es t) : PE X (.List es pos) (tLst t) := by
  unfold PAq at h
  exact pe_lst h
end
end L2
set_option linter.all false
namespace FrM
def lowP (t b : Int) : Int × Int := (t / (Int.gcd t b : Int), b / (Int.gcd t b : Int))
def sz (z : List Int) (k : Nat) : Int := z.getD k 0
def sumL (z : List Int) (l : List Nat) : Int := (l.map (sz z)).sum
def stay (z : List Int) (l : List Nat) (w : Int) : List Nat := l.filter fun k => decide (sz z k * w < sumL z l)
theorem stay_le (z : List Int) (l : List Nat) (w : Int) : (stay z l w).length ≤ l.length := List.length_filter_le _ _
def fin (z : List Int) (l : List Nat) (w : Int) : List Nat × Int :=
  if (stay z l w).length = l.length then (l, w) else fin z (stay z l w) (w - ((l.length : Int) - ((stay z l w).length : Int)))
termination_by l.length
decreasing_by
  have := stay_le z l w
  lia
theorem sumL_ge (z : List Int) : ∀ (l : List Nat), (∀ k ∈ l, 1 ≤ sz z k) → (l.length : Int) ≤ sumL z l
  | [], _ => by simp [sumL]
  | a :: l, h => by
    have := sumL_ge z l (fun k hk => h k (List.mem_cons_of_mem _ hk))
    have h1 := h a List.mem_cons_self
    unfold sumL at *
    rw [List.map_cons, List.sum_cons, List.length_cons]
    lia
theorem sum_ge_mul (z : List Int) (w S : Int) : ∀ (l : List Nat), (∀ k ∈ l, S ≤ sz z k * w) → (l.length : Int) * S ≤ sumL z l * w
  | [], _ => by simp [sumL]
  | a :: l, h => by
    have := sum_ge_mul z w S l (fun k hk => h k (List.mem_cons_of_mem _ hk))
    have h1 := h a List.mem_cons_self
    unfold sumL at *
    rw [List.map_cons, List.sum_cons, List.length_cons, Int.add_mul]
    have e : ((l.length + 1 : Nat) : Int) * S = (l.length : Int) * S + S := by rw [Int.natCast_add, Int.add_mul]; simp
    rw [e]
    lia
theorem stay_pos {z : List Int} {l : List Nat} {w : Int} (hz : ∀ k ∈ l, 1 ≤ sz z k) (hw : w < l.length) (hl : 0 < l.length) : 0 < (stay z l w).length := by
  by_cases h : 0 < (stay z l w).length
  · exact h
  · exfalso
    have e : stay z l w = [] := List.length_eq_zero_iff.mp (by lia)
    have hall : ∀ k ∈ l, sumL z l ≤ sz z k * w := fun k hk => by
      have := (List.filter_eq_nil_iff.mp e) k hk
      simp at this
      exact this
    have h1 := sum_ge_mul z w (sumL z l) l hall
    have h2 := sumL_ge z l hz
    have h3 : 0 < sumL z l := by lia
    rw [Int.mul_comm (sumL z l) w] at h1
    have := Int.le_of_mul_le_mul_right h1 h3
    lia
structure Rnd (z : List Int) (n : Nat) (m : Int) (l : List Nat) (w : Int) : Prop where
  pos : 0 < l.length
  sub : ∀ k ∈ l, k < n
  lt : w < l.length
  dif : w - l.length = m - n
  fil : l = (List.range n).filter fun k => decide (k ∈ l)
theorem Rnd.len {z : List Int} {n : Nat} {m : Int} {l : List Nat} {w : Int} (h : Rnd z n m l w) : l.length ≤ n := by
  have e := congrArg List.length h.fil
  have := List.length_filter_le (fun k => decide (k ∈ l)) (List.range n)
  rw [List.length_range] at this
  lia
theorem Rnd.start {z : List Int} {n : Nat} {m : Int} (h0 : 0 < n) (hm : m < n) : Rnd z n m (List.range n) m := by
  refine ⟨by rw [List.length_range]; exact h0, fun k hk => List.mem_range.mp hk, by rw [List.length_range]; exact hm, by rw [List.length_range], ?_⟩
  rw [List.filter_eq_self.mpr]
  intro k hk
  exact decide_eq_true hk
theorem Rnd.step {z : List Int} {n : Nat} {m : Int} {l : List Nat} {w : Int} (hz : ∀ k, k < n → 1 ≤ sz z k) (h : Rnd z n m l w) : Rnd z n m (stay z l w) (w - ((l.length : Int) - ((stay z l w).length : Int))) := by
  have hp := stay_pos (fun k hk => hz k (h.sub k hk)) h.lt h.pos
  refine ⟨hp, fun k hk => h.sub k (List.mem_filter.mp hk).1, by have := h.lt; lia, by have := h.dif; lia, ?_⟩
  have e : (List.range n).filter (fun k => decide (k ∈ stay z l w)) = ((List.range n).filter fun k => decide (k ∈ l)).filter fun k => decide (sz z k * w < sumL z l) := by
    rw [List.filter_filter]
    refine List.filter_congr fun k _ => ?_
    rw [Bool.eq_iff_iff]
    simp [stay]
    exact And.comm
  rw [e, ← h.fil]
  rfl
structure Top (m : Int) (n : Nat) (S : Int) (N : Nat → Int) : Prop where
  pos : 0 < S
  all : ((List.range n).map N).sum = m * S
def due (z : List Int) (m : Int) : List (Int × Int) :=
  if (z.length : Int) ≤ m then z.map fun _ => (1, 1) else if m = 0 then z.map fun _ => (0, 1)
  else (List.range z.length).map fun k => if decide (k ∈ (fin z (List.range z.length) m).1) = true then lowP (sz z k * (fin z (List.range z.length) m).2) (sumL z (fin z (List.range z.length) m).1) else (1, 1)
end FrM
set_option Elab.async false
set_option linter.all false
set_option maxRecDepth 100000
set_option maxHeartbeats 4000000
namespace L2
open PySem PySem.Spec PyProof.Rows
def intsIn : List V → List Value → Bool
  | [], [] => true
  | .int i :: xs, .int j _ :: us => decide (i = j) && intsIn xs us
  | _, _ => false
def tupIn (K : PySem.W.Frag) (a : Addr) (xs : List V) : Bool :=
  match K.lookup a with
  | some o =>
    (match o.cls with
    | .type t => t == "tuple"
    | _ => false) &&
    (match o.data with
    | .seq its _ => decide (its.size ≤ 1000) && intsIn xs its.toList
    | _ => false)
  | none => false
def TyS (K : PySem.W.Frag) (H : Hp) (x : V) (t : Value) : Prop := TyOf K H x t ∨ ∃ a xs, x = .ref a ∧ t = .type "tuple" ∧ SqT K H a xs
section
variable {X : Cx}
open PySem.W in
theorem kit_ofS {pins : List (Addr × Obj)} {σ : St} {H : Hp} {s : Shared} {x : V} {u t : Value} (I : Inv X pins σ H s) (rx : RelV x u) (ty : TyS X.K H x t) :
    ∃ Hh : Heap → Prop, KitX X.K u t Hh ∧ Hh s.heap ∧ u ≠ .builtin "__main__.__loader__#opaque" := by
  rcases ty with ty | ⟨a, xs, rfl, rfl, hq⟩
  · exact kit_of I rx ty
  · cases (show u = Value.ref a from rx)
    obtain ⟨its, rv, p, hz⟩ := I.tuple hq
    exact ⟨_, PySem.W.kitx_tuple, let ⟨o, e, c, _⟩ := p; ⟨o, e, c⟩, fun z => nomatch z⟩
def rIsS (K : PySem.W.Frag) : List V → Hp → VK → Prop := fun xs H Q => ∃ x c t b, xs = [x, c] ∧ isCls c = true ∧ TyS K H x t ∧ PySem.W.kitOne K t (cVal c) = some b ∧ Q (.bl b) H
inductive rSumI (K : PySem.W.Frag) (xs : List V) (H : Hp) (Q : VK) : Prop
  | mk (p : Addr) (ns : List Int) (h0 : xs = [.ref p]) (h1 : SqL K H p (ns.map V.int)) (h2 : Q (.int ns.sum) H) : rSumI K xs H Q
def Itr3 (lo c : Int) (n : Nat) : It := ⟨fun i _ => i < n, fun i H x H' => H' = H ∧ x = .int (lo + i * c), fun i _ => n ≤ i⟩
def two_n (i j : Int) : Nat := (Builtin.Range.rangeSize i j 2).toNat
def iRng3 (ta : TA) : TI := fun σ H R => ta σ H fun vs H1 => ∃ i j : Int, vs = [.int i, .int j, .int 2] ∧ (0 ≤ i ∧ i < 2 ^ 60 ∧ -(2 ^ 60) ≤ j ∧ j < 2 ^ 60) ∧ R (Itr3 i 2 (two_n i j)) H1
end
end L2
set_option Elab.async false
set_option linter.all false
set_option maxRecDepth 100000
set_option maxHeartbeats 4000000
namespace L2
open PySem PySem.Spec PyProof.Rows
section
variable {X : Cx} {a b c d : Expr} {ta tb tc td : TE} {pos : Pos}
def mChain3 (r r' r2 : R2) (ta tb tc td : TE) : TE := fun σ H Q => ta σ H fun x H1 => tb σ H1 fun y H2 => r x y H2 (mB fun k H3 => if k = true then tc σ H3 fun z H4 => r' y z H4 (mB fun k2 H5 => if k2 = true then td σ H5 fun w' H6 => r2 z w' H6 Q else Q (.bl false) H5) else Q (.bl false) H3)
end
section
variable {X : Cx} {o e : Expr} {es : List Expr} {to : TE} {t : TA} {apos cpos : Pos}
theorem pe_m.extend (ho : PE X o to) (ha : PA X (e :: es) t) (hbase : attributeBase o "extend" X.env (eval o X.env) = eval o X.env := by rfl)
    (hfew : ((backTo cpos (starEach (e :: es) X.env)).all (fun x => !x.1) && (backToKw cpos (keywordEach [] X.env)).all (fun x => x.1.isSome) && decide ((e :: es).length + ([] : List Keyword).length + (if ([] : List Keyword).isEmpty then 0 else 1) < 30)) = true := by rfl)
    (hline : (apos.endLine == cpos.line) = true := by rfl) (hs : starEach (e :: es) X.env = (false, eval e X.env) :: starEach es X.env := by rfl) (hplain : (backTo cpos (starEach es X.env)).any (·.1) = false := by rfl) :
    PE X (.Call (.Attribute o "extend" apos) (e :: es) [] cpos) (tBM X.K "list" rExtend to t) := pe_bm F.plainAttrs_list F.slot_list_extend F.type_list_extend mt_extend ho ha hbase hfew hline hs hplain
end
theorem call_isxTK {X : Cx} {K : PySem.W.Frag} (h : X.K = K) : CallR X (.builtin "isinstance") (rIsXT K) := h ▸ call_isxT
end L2
set_option Elab.async false
set_option linter.all false
set_option maxRecDepth 100000
set_option maxHeartbeats 4000000
namespace L2
open PySem PySem.Spec PyProof.Rows
def txtsIn : List V → List Value → Bool
  | [], [] => true
  | .str z :: xs, .str y _ :: us => decide (z = y) && txtsIn xs us
  | _, _ => false
theorem txtsIn_vals : ∀ {xs : List V} {us : List Value}, txtsIn xs us = true → Vals xs us
  | [], [], _ => .nil
  | .str i :: xs, .str j t :: us, h => by
    rw [txtsIn, Bool.and_eq_true] at h
    have e := of_decide_eq_true h.1
    exact .cons ⟨t, by rw [e]⟩ (txtsIn_vals h.2)
def tupInS (K : PySem.W.Frag) (a : Addr) (xs : List V) : Bool :=
  match K.lookup a with
  | some o =>
    (match o.cls with
    | .type t => t == "tuple"
    | _ => false) &&
    (match o.data with
    | .seq its _ => decide (its.size ≤ 1000) && txtsIn xs its.toList
    | _ => false)
  | none => false
theorem tupS_in {K : PySem.W.Frag} {H : Hp} {a : Addr} {xs : List V} (h : tupInS K a xs = true) : SqT K H a xs := by
  unfold tupInS at h
  split at h
  · rename_i o e
    rw [Bool.and_eq_true] at h
    obtain ⟨h1, h2⟩ := h
    split at h1
    · rename_i t ec
      split at h2
      · rename_i its n ed
        rw [Bool.and_eq_true] at h2
        refine .inr ⟨o, its, n, e, by rw [ec, beq_iff_eq.mp h1], ed, ?_, txtsIn_vals h2.2⟩
        have := of_decide_eq_true h2.1
        have : sizeLine = 16777216 := sizeLine_eq
        omega
      · cases h2
    · cases h1
  · cases h
theorem PE.or {X : Cx} {e : Expr} {t t' : TE} (h : PE X e t) (h' : PE X e t') : PE X e (fun σ H Q => t σ H Q ∨ t' σ H Q) := fun pins s σ H Q I q => q.elim (h pins s σ H Q I) (h' pins s σ H Q I)
section
variable {P : Program} {w : World} {K : PySem.W.Frag} {mg : Str → Option Value} {base : Heap}
theorem calmG {k : Nat} {f : Addr} {fd : FuncData} {ps : List Str} {sp : Sp} (F : FnOk P w K mg base (CXG P w) k f fd ps sp) : FnOk P w K mg base CX0 k f fd ps (fun vs H Q _ => sp vs H Q E0) :=
  ⟨fun vs H Q E h => F.len vs H Q E0 h, fun A outer s H args us vs Q E hr e0 hb hv hs => codeAny_mono (F.run A outer s H args us vs Q E0 hr e0 hb hv hs) fun r s' hq => by
    cases r with
    | error e => obtain ⟨_, _, _, _, _, _, _, z⟩ := hq; exact z
    | ok fl => cases fl <;> exact hq⟩
end
end L2
set_option Elab.async false
set_option linter.all false
set_option maxRecDepth 100000
set_option maxHeartbeats 4000000
namespace Pt
open PySem L2
inductive Pl
  | cnt (k : Nat) (i : Int)
  | each (p : Pl)
  | fst (p q : Pl)
def nm (k : Nat) : Str := if k = 0 then "few" else if k = 1 then "start" else if k = 2 then "loose" else "duel"
def nmB (k : Nat) : Str := if k = 0 then "few " else if k = 1 then "start " else if k = 2 then "loose " else "duel "
def lo (k : Nat) : Int := if k = 1 then 1 else 0
def hi (k : Nat) : Int := if k = 1 then 100 else 24
def tS (i : Int) : Str := ((toString i : String) : Str)
def kind (w : Str) : Option Nat := if w = "few" then some 0 else if w = "start" then some 1 else if w = "loose" then some 2 else if w = "duel" then some 3 else none
def numK (k : Nat) (w : Str) : Option Int := within (lo k) (hi k) (within 0 100 (NumM.numO w.cps.toList))
inductive Rs
  | bad (q : Nat)
  | ok (pl : Pl) (r : List Str) (e : Nat)
def Rs.on (s : Rs) (f : Pl → List Str → Nat → Rs) : Rs := match s with
  | .bad q => .bad q
  | .ok pl r e => f pl r e
def eat (x : Str) (r : List Str) (p : Nat) (f : List Str → Nat → Rs) : Rs := match r with
  | [] => .bad p
  | u :: r1 => if u = x then f r1 (p + 1) else .bad p
def brk (f : List Str → Nat → Rs) (r : List Str) (p : Nat) : Rs := eat "(" r p fun r1 p1 => (f r1 p1).on fun pl r2 p2 => eat ")" r2 p2 fun r3 p3 => .ok pl r3 p3
def cnt (k : Nat) (r : List Str) (p : Nat) : Rs := match r with
  | [] => .bad p
  | u :: r1 => match numK k u with
    | some i => .ok (.cnt k i) r1 (p + 1)
    | none => .bad p
def eachR (f : List Str → Nat → Rs) (r : List Str) (p : Nat) : Rs := (brk f r p).on fun pl r2 p2 => .ok (.each pl) r2 p2
def fstR (f : List Str → Nat → Rs) (r : List Str) (p : Nat) : Rs := (brk f r p).on fun pl r2 p2 => eat "then" r2 p2 fun r3 p3 => (brk f r3 p3).on fun pl2 r4 p4 => .ok (.fst pl pl2) r4 p4
def stp (f : Option (List Str → Nat → Rs)) (r : List Str) (p : Nat) : Rs := match r with
  | [] => .bad p
  | w :: r1 => match kind w with
    | some k => cnt k r1 (p + 1)
    | none => match f with
      | none => .bad p
      | some f => if w = "each" then eachR f r1 (p + 1) else if w = "first" then fstR f r1 (p + 1) else .bad p
def parse : Nat → List Str → Nat → Rs
  | 0 => stp none
  | m + 1 => stp (some (parse m))
inductive Tk
  | lev (n : Nat)
  | num (b : Bool)
  | wd (w : Str)
def numB (b : Bool) (w : Str) : Bool := (numK (if b then 1 else 0) w).isSome
def opens (w : Str) (n : Nat) : Option (List Tk) := match kind w with
  | some k => some [.num (k == 1)]
  | none => match n with
    | 0 => none
    | m + 1 => if w = "each" then some [.wd "(", .lev m, .wd ")"] else if w = "first" then some [.wd "(", .lev m, .wd ")", .wd "then", .wd "(", .lev m, .wd ")"] else none
def mach : List Str → Nat → List Tk → Option Nat
  | [], _, [] => none
  | [], p, _ :: _ => some p
  | _ :: _, p, [] => some p
  | w :: r, p, .num b :: S => if numB b w = true then mach r (p + 1) S else some p
  | w :: r, p, .wd x :: S => if w = x then mach r (p + 1) S else some p
  | w :: r, p, .lev n :: S => match opens w n with
    | none => some p
    | some M => mach r (p + 1) (M ++ S)
def Rs.m (s : Rs) (S : List Tk) : Option Nat := match s with
  | .bad q => some q
  | .ok _ r e => mach r e S
theorem eat_m {x : Str} {S S' : List Tk} {f : List Str → Nat → Rs} (h : ∀ r p, mach r p S = (f r p).m S') (r : List Str) (p : Nat) : mach r p (.wd x :: S) = (eat x r p f).m S' := by
  cases r with
  | nil => rfl
  | cons u r1 =>
    unfold eat
    rw [mach]
    by_cases c : u = x
    · simp only [if_pos c]; exact h _ _
    · simp only [if_neg c]; rfl
theorem on_m {s : Rs} {S S' : List Tk} {f : Pl → List Str → Nat → Rs} (h : ∀ pl r e, mach r e S = (f pl r e).m S') : s.m S = (s.on f).m S' := by
  cases s with
  | bad q => rfl
  | ok pl r e => exact h pl r e
theorem brk_m {f : List Str → Nat → Rs} {n : Nat} (h : ∀ S r p, mach r p (.lev n :: S) = (f r p).m S) (S : List Tk) (r : List Str) (p : Nat) : mach r p (.wd "(" :: .lev n :: .wd ")" :: S) = (brk f r p).m S :=
  eat_m (fun r p => (h _ r p).trans (on_m fun pl r e => eat_m (fun r p => rfl) r e)) r p
theorem cnt_m {k : Nat} (hk : k < 4) (S : List Tk) (r : List Str) (p : Nat) : mach r p (.num (k == 1) :: S) = (cnt k r p).m S := by
  cases r with
  | nil => rfl
  | cons u r1 =>
    have e : numK (if (k == 1) = true then 1 else 0) u = numK k u := by
      unfold numK lo hi
      rcases (by omega : k = 0 ∨ k = 1 ∨ k = 2 ∨ k = 3) with rfl | rfl | rfl | rfl <;> rfl
    have g : mach (u :: r1) p (.num (k == 1) :: S) = if (numK k u).isSome = true then mach r1 (p + 1) S else some p := by
      rw [mach, numB, e]
    rw [g]
    cases hn : numK k u with
    | none => simp [cnt, hn, Rs.m]
    | some i => simp [cnt, hn, Rs.m]
theorem kind_lt {w : Str} {k : Nat} (h : kind w = some k) : k < 4 ∧ w = nm k := by
  unfold kind at h
  split at h
  · cases h; exact ⟨by decide, by assumption⟩
  split at h
  · cases h; exact ⟨by decide, by assumption⟩
  split at h
  · cases h; exact ⟨by decide, by assumption⟩
  split at h
  · cases h; exact ⟨by decide, by assumption⟩
  cases h
theorem stp_k {f : Option (List Str → Nat → Rs)} {w : Str} {r : List Str} {p k : Nat} (h : kind w = some k) : stp f (w :: r) p = cnt k r (p + 1) := by simp only [stp, h]
theorem stp_0 {w : Str} {r : List Str} {p : Nat} (h : kind w = none) : stp none (w :: r) p = .bad p := by simp only [stp, h]
theorem stp_f {f : List Str → Nat → Rs} {w : Str} {r : List Str} {p : Nat} (h : kind w = none) : stp (some f) (w :: r) p = if w = "each" then eachR f r (p + 1) else if w = "first" then fstR f r (p + 1) else .bad p := by simp only [stp, h]
theorem opens_k {w : Str} {n k : Nat} (h : kind w = some k) : opens w n = some [.num (k == 1)] := by simp only [opens, h]
theorem opens_0 {w : Str} (h : kind w = none) : opens w 0 = none := by simp only [opens, h]
theorem opens_f {w : Str} {m : Nat} (h : kind w = none) : opens w (m + 1) = if w = "each" then some [.wd "(", .lev m, .wd ")"] else if w = "first" then some [.wd "(", .lev m, .wd ")", .wd "then", .wd "(", .lev m, .wd ")"] else none := by simp only [opens, h]
theorem mach_lev {w : Str} {r : List Str} {p n : Nat} {S M : List Tk} (h : opens w n = some M) : mach (w :: r) p (.lev n :: S) = mach r (p + 1) (M ++ S) := by simp only [mach, h]
theorem mach_lev0 {w : Str} {r : List Str} {p n : Nat} {S : List Tk} (h : opens w n = none) : mach (w :: r) p (.lev n :: S) = some p := by simp only [mach, h]
theorem mach_parse : ∀ (n : Nat) (S : List Tk) (r : List Str) (p : Nat), mach r p (.lev n :: S) = (parse n r p).m S
  | 0, S, [], p => rfl
  | 0, S, w :: r, p => by
    show _ = (stp none (w :: r) p).m S
    cases hk : kind w with
    | some k => rw [stp_k hk, mach_lev (opens_k hk)]; exact cnt_m (kind_lt hk).1 S r (p + 1)
    | none => rw [stp_0 hk, mach_lev0 (opens_0 hk)]; rfl
  | n + 1, S, [], p => rfl
  | n + 1, S, w :: r, p => by
    show _ = (stp (some (parse n)) (w :: r) p).m S
    cases hk : kind w with
    | some k => rw [stp_k hk, mach_lev (opens_k hk)]; exact cnt_m (kind_lt hk).1 S r (p + 1)
    | none =>
      have ho := opens_f (m := n) hk
      rw [stp_f hk]
      by_cases c : w = "each"
      · rw [if_pos c] at ho ⊢
        rw [mach_lev ho]
        exact (brk_m (mach_parse n) S r (p + 1)).trans (on_m fun _ _ _ => rfl)
      · rw [if_neg c] at ho ⊢
        by_cases c2 : w = "first"
        · rw [if_pos c2] at ho ⊢
          rw [mach_lev ho]
          exact (brk_m (mach_parse n) (.wd "then" :: .wd "(" :: .lev n :: .wd ")" :: S) r (p + 1)).trans (on_m fun _ r e => eat_m (fun r p => (brk_m (mach_parse n) S r p).trans (on_m fun _ _ _ => rfl)) r e)
        · rw [if_neg c2] at ho ⊢
          rw [mach_lev0 ho]; rfl
def words : Pl → List Str
  | .cnt k i => [nm k, tS i]
  | .each p => ([("each" : Str), "("] ++ words p ++ [(")" : Str)])
  | .fst p q => ([("first" : Str), "("] ++ words p ++ [(")" : Str), "then", "("] ++ words q ++ [(")" : Str)])
def Good : Nat → Pl → Prop
  | _, .cnt k i => k < 4 ∧ lo k ≤ i ∧ i ≤ hi k
  | 0, _ => False
  | n + 1, .each p => Good n p
  | n + 1, .fst p q => Good n p ∧ Good n q
theorem tS_codes (i : Int) : (tS i).cps.toList = NumM.codesI i := toStr_codes i
theorem within_of {lo hi : Int} {o : Option Int} {i : Int} (h : within lo hi o = some i) : o = some i ∧ lo ≤ i ∧ i ≤ hi := by
  cases o with
  | none => cases h
  | some j =>
    have h : (if lo ≤ j ∧ j ≤ hi then some j else none) = some i := h
    by_cases c : lo ≤ j ∧ j ≤ hi
    · rw [if_pos c] at h; cases h; exact ⟨rfl, c⟩
    · rw [if_neg c] at h; cases h
theorem numO_text {w : Str} {i : Int} (h : NumM.numO w.cps.toList = some i) : w = tS i := by
  unfold NumM.numO at h
  by_cases c : (NumM.digB (NumM.bareL w.cps.toList) && !NumM.badZ w.cps.toList) = true
  · rw [if_pos c] at h
    rw [Bool.and_eq_true] at c
    cases h
    refine PyProof.Rows.ext_toList ?_
    rw [tS_codes]
    exact ((NumM.str_back c.1).mpr (by simpa using c.2)).symm
  · rw [if_neg c] at h; cases h
theorem numK_some {k : Nat} {w : Str} {i : Int} (h : numK k w = some i) : w = tS i ∧ lo k ≤ i ∧ i ≤ hi k := by
  obtain ⟨h1, b⟩ := within_of h
  exact ⟨numO_text (within_of h1).1, b⟩
theorem lohi (k : Nat) : 0 ≤ lo k ∧ hi k ≤ 100 := by unfold lo hi; split <;> decide
theorem numK_tS {k : Nat} {i : Int} (h : lo k ≤ i) (h' : i ≤ hi k) : numK k (tS i) = some i := by
  have b := lohi k
  unfold numK
  rw [tS_codes, num_codes (by omega)]
  show within (lo k) (hi k) (if 0 ≤ i ∧ i ≤ 100 then some i else none) = _
  rw [if_pos (by omega)]
  show (if lo k ≤ i ∧ i ≤ hi k then some i else none) = _
  rw [if_pos ⟨h, h'⟩]
theorem kind_nm {k : Nat} (h : k < 4) : kind (nm k) = some k := by
  rcases (by omega : k = 0 ∨ k = 1 ∨ k = 2 ∨ k = 3) with rfl | rfl | rfl | rfl <;> decide +kernel
def Rs.Rd (s : Rs) (r : List Str) (p : Nat) (G : Pl → List Str → Prop) : Prop := match s with
  | .bad _ => True
  | .ok pl r' e => ∃ ws, r = ws ++ r' ∧ e = p + ws.length ∧ G pl ws
theorem eat_rd {x : Str} {r : List Str} {p : Nat} {f : List Str → Nat → Rs} {G : Pl → List Str → Prop} (h : ∀ r p, (f r p).Rd r p fun pl ws => G pl (x :: ws)) : (eat x r p f).Rd r p G := by
  cases r with
  | nil => trivial
  | cons u r1 =>
    unfold eat
    by_cases c : u = x
    · simp only [if_pos c]
      subst c
      have := h r1 (p + 1)
      revert this
      cases f r1 (p + 1) with
      | bad q => exact fun _ => trivial
      | ok pl r' e => exact fun ⟨ws, e1, e2, g⟩ => ⟨u :: ws, by rw [e1]; rfl, by rw [e2, List.length_cons]; omega, g⟩
    · simp only [if_neg c]; trivial
theorem on_rd {s : Rs} {r : List Str} {p : Nat} {f : Pl → List Str → Nat → Rs} {G G' : Pl → List Str → Prop} (h : s.Rd r p G) (h' : ∀ pl ws, G pl ws → ∀ r' p', (f pl r' p').Rd r' p' fun pl' ws' => G' pl' (ws ++ ws')) : (s.on f).Rd r p G' := by
  cases s with
  | bad q => trivial
  | ok pl r' e =>
    obtain ⟨ws, e1, e2, g⟩ := h
    have := h' pl ws g r' e
    revert this
    show (f pl r' e).Rd r' e _ → (f pl r' e).Rd r p G'
    cases f pl r' e with
    | bad q => exact fun _ => trivial
    | ok pl2 r2 e2' => exact fun ⟨ws2, q1, q2, q3⟩ => ⟨ws ++ ws2, by rw [e1, q1, List.append_assoc], by rw [q2, e2, List.length_append]; omega, q3⟩
theorem ok_rd {pl : Pl} {r : List Str} {p : Nat} {G : Pl → List Str → Prop} (h : G pl []) : (Rs.ok pl r p).Rd r p G := ⟨[], rfl, rfl, h⟩
theorem brk_rd {f : List Str → Nat → Rs} {n : Nat} (h : ∀ r p, (f r p).Rd r p fun pl ws => ws = words pl ∧ Good n pl) (r : List Str) (p : Nat) : (brk f r p).Rd r p fun pl ws => ws = [("(" : Str)] ++ words pl ++ [(")" : Str)] ∧ Good n pl :=
  eat_rd fun r p => on_rd (h r p) fun pl ws g r' p' => eat_rd fun r p => ok_rd ⟨by rw [g.1]; rfl, g.2⟩
theorem cnt_rd {k n : Nat} (hk : k < 4) (r : List Str) (p : Nat) : (cnt k r p).Rd r p fun pl ws => nm k :: ws = words pl ∧ Good n pl := by
  cases r with
  | nil => trivial
  | cons u r1 =>
    cases hn : numK k u with
    | none => simp only [cnt, hn]; trivial
    | some i =>
      simp only [cnt, hn]
      obtain ⟨e, b⟩ := numK_some hn
      refine ⟨[u], rfl, rfl, by rw [e]; rfl, ?_⟩
      cases n <;> exact ⟨hk, b⟩
theorem cons_rd {s : Rs} {w : Str} {r : List Str} {p : Nat} {G : Pl → List Str → Prop} (h : s.Rd r (p + 1) fun pl ws => G pl (w :: ws)) : s.Rd (w :: r) p G := by
  cases s with
  | bad q => trivial
  | ok pl r' e =>
    obtain ⟨ws, e1, e2, g⟩ := h
    exact ⟨w :: ws, by rw [e1]; rfl, by rw [e2, List.length_cons]; omega, g⟩
theorem parse_rd : ∀ (n : Nat) (r : List Str) (p : Nat), (parse n r p).Rd r p fun pl ws => ws = words pl ∧ Good n pl
  | 0, [], p => trivial
  | 0, w :: r, p => by
    show (stp none (w :: r) p).Rd _ _ _
    cases hk : kind w with
    | some k =>
      rw [stp_k hk]
      obtain ⟨k4, rfl⟩ := kind_lt hk
      exact cons_rd (cnt_rd k4 r (p + 1))
    | none => rw [stp_0 hk]; trivial
  | n + 1, [], p => trivial
  | n + 1, w :: r, p => by
    show (stp (some (parse n)) (w :: r) p).Rd _ _ _
    cases hk : kind w with
    | some k =>
      rw [stp_k hk]
      obtain ⟨k4, rfl⟩ := kind_lt hk
      exact cons_rd (cnt_rd k4 r (p + 1))
    | none =>
      rw [stp_f hk]
      by_cases c : w = "each"
      · rw [if_pos c]
        subst c
        exact cons_rd (on_rd (brk_rd (parse_rd n) r (p + 1)) fun pl ws g r' p' => ok_rd ⟨by rw [g.1]; simp [words], g.2⟩)
      · rw [if_neg c]
        by_cases c2 : w = "first"
        · rw [if_pos c2]
          subst c2
          refine cons_rd (on_rd (brk_rd (parse_rd n) r (p + 1)) fun pl ws g r' p' => eat_rd fun r3 p3 => on_rd (brk_rd (parse_rd n) r3 p3) fun pl2 ws2 g2 r4 p4 => ok_rd ⟨?_, g.2, g2.2⟩)
          rw [g.1, g2.1]
          simp [words]
        · rw [if_neg c2]; trivial
theorem parse_ok {n : Nat} {r r' : List Str} {p e : Nat} {pl : Pl} (h : parse n r p = .ok pl r' e) : r = words pl ++ r' ∧ e = p + (words pl).length ∧ Good n pl := by
  have := parse_rd n r p
  rw [h] at this
  obtain ⟨ws, e1, e2, rfl, g⟩ := this
  exact ⟨e1, e2, g⟩
theorem eat_hit {x : Str} {r : List Str} {p : Nat} {f : List Str → Nat → Rs} : eat x (x :: r) p f = f r (p + 1) := by simp [eat]
theorem on_ok {pl : Pl} {r : List Str} {e : Nat} {f : Pl → List Str → Nat → Rs} : (Rs.ok pl r e).on f = f pl r e := rfl
theorem brk_words {f : List Str → Nat → Rs} {pl : Pl} (h : ∀ r p, f (words pl ++ r) p = .ok pl r (p + (words pl).length)) (r : List Str) (p : Nat) : brk f ("(" :: (words pl ++ ((")" : Str) :: r))) p = .ok pl r (p + (words pl).length + 2) := by
  unfold brk
  rw [eat_hit, h, on_ok, eat_hit]
  congr 1
  omega
theorem parse_words : ∀ (n : Nat) (pl : Pl) (_ : Good n pl) (r : List Str) (p : Nat), parse n (words pl ++ r) p = .ok pl r (p + (words pl).length)
  | n, .cnt k i, g, r, p => by
    have g' : k < 4 ∧ lo k ≤ i ∧ i ≤ hi k := by cases n <;> exact g
    have h : ∀ f, stp f (words (.cnt k i) ++ r) p = .ok (.cnt k i) r (p + 2) := fun f => by
      show stp f (nm k :: tS i :: r) p = _
      rw [stp_k (kind_nm g'.1)]
      simp only [cnt, numK_tS g'.2.1 g'.2.2]
    cases n <;> exact h _
  | n + 1, .each q, g, r, p => by
    have e : words (.each q) ++ r = ("each" : Str) :: ("(" : Str) :: (words q ++ ((")" : Str) :: r)) := by simp [words]
    have hk : kind "each" = none := by decide +kernel
    rw [e]
    show stp (some (parse n)) _ p = _
    rw [stp_f hk, if_pos rfl]
    unfold eachR
    rw [brk_words (parse_words n q g), on_ok]
    congr 1
    simp [words]
    omega
  | n + 1, .fst q q2, g, r, p => by
    have e : words (.fst q q2) ++ r = ("first" : Str) :: ("(" : Str) :: (words q ++ ((")" : Str) :: ((("then" : Str) :: ((("(" : Str) :: (words q2 ++ ((")" : Str) :: r))) : List Str) : List Str) : List Str))) := by simp [words]
    have hk : kind "first" = none := by decide +kernel
    have hf : ¬ ("first" : Str) = "each" := by decide +kernel
    rw [e]
    show stp (some (parse n)) _ p = _
    rw [stp_f hk, if_neg hf, if_pos rfl]
    unfold fstR
    rw [brk_words (parse_words n q g.1), on_ok, eat_hit, brk_words (parse_words n q2 g.2), on_ok]
    congr 1
    simp [words]
    omega
def wrong (ws : List Str) : Option Nat := mach ws 0 [.lev 3]
theorem wrong_eq (ws : List Str) : wrong ws = match parse 3 ws 0 with
    | .bad q => some q
    | .ok _ r e => if r = [] then none else some e := by
  unfold wrong
  rw [mach_parse]
  cases parse 3 ws 0 with
  | bad q => rfl
  | ok pl r e =>
    cases r with
    | nil => rfl
    | cons u r => rfl
def text : Pl → Str
  | .cnt k i => nmB k ++ tS i
  | .each p => "each ( " ++ text p ++ " )"
  | .fst p q => "first ( " ++ text p ++ " ) then ( " ++ text q ++ " )"
theorem words_ne (p : Pl) : words p ≠ [] := by cases p <;> simp [words]
theorem app_codes (x y : Str) : (x ++ y).cps.toList = x.cps.toList ++ y.cps.toList := PySem.W.KT.app_list _ _
theorem join_app (c : Nat) : ∀ (a b : List (List Nat)), a ≠ [] → b ≠ [] → SplM.joinC c (a ++ b) = SplM.joinC c a ++ c :: SplM.joinC c b
  | [], _, h, _ => absurd rfl h
  | [x], b, _, hb => by rw [List.singleton_append, SplM.joinC_cons c x hb]; rfl
  | x :: y :: r, b, _, hb => by
    rw [List.cons_append, SplM.joinC_cons c x (by simp), SplM.joinC_cons c x (by simp), join_app c (y :: r) b (by simp) hb, List.append_assoc]
    rfl
theorem text_codes : ∀ pl : Pl, (text pl).cps.toList = SplM.joinC 32 ((words pl).map fun t => t.cps.toList)
  | .cnt k i => by
    have e : (nmB k).cps.toList = (nm k).cps.toList ++ [32] := by unfold nmB nm; split; decide +kernel; split; decide +kernel; split <;> decide +kernel
    show (nmB k ++ tS i).cps.toList = _
    rw [app_codes, e, List.append_assoc]
    rfl
  | .each p => by
    have n1 : (words p).map (fun t => t.cps.toList) ≠ [] := by simp [words_ne p]
    have e1 : ("each ( " : Str).cps.toList = ("each" : Str).cps.toList ++ 32 :: (("(" : Str).cps.toList ++ [32]) := by decide +kernel
    have e2 : (" )" : Str).cps.toList = 32 :: (")" : Str).cps.toList := by decide +kernel
    show ("each ( " ++ text p ++ " )" : Str).cps.toList = SplM.joinC 32 ((([("each" : Str), "("] ++ words p ++ [(")" : Str)])).map fun t => t.cps.toList)
    rw [app_codes, app_codes, text_codes p, List.map_append, List.map_append, join_app 32 _ _ (by simp) (by simp), join_app 32 _ _ (by simp) n1, e1, e2]
    show _ = (("each" : Str).cps.toList ++ 32 :: ("(" : Str).cps.toList ++ _) ++ 32 :: (")" : Str).cps.toList
    simp
  | .fst p q => by
    have n1 : (words p).map (fun t => t.cps.toList) ≠ [] := by simp [words_ne p]
    have n2 : (words q).map (fun t => t.cps.toList) ≠ [] := by simp [words_ne q]
    have e1 : ("first ( " : Str).cps.toList = ("first" : Str).cps.toList ++ 32 :: (("(" : Str).cps.toList ++ [32]) := by decide +kernel
    have e2 : (" )" : Str).cps.toList = 32 :: (")" : Str).cps.toList := by decide +kernel
    have e3 : (" ) then ( " : Str).cps.toList = 32 :: ((")" : Str).cps.toList ++ 32 :: (("then" : Str).cps.toList ++ 32 :: (("(" : Str).cps.toList ++ [32]))) := by decide +kernel
    show ("first ( " ++ text p ++ " ) then ( " ++ text q ++ " )" : Str).cps.toList = SplM.joinC 32 ((([("first" : Str), "("] ++ words p ++ [(")" : Str), "then", "("] ++ words q ++ [(")" : Str)])).map fun t => t.cps.toList)
    rw [app_codes, app_codes, app_codes, app_codes, text_codes p, text_codes q, List.map_append, List.map_append, List.map_append, List.map_append, join_app 32 _ _ (by simp) (by simp), join_app 32 _ _ (by simp) n2, join_app 32 _ _ (by simp) (by simp), join_app 32 _ _ (by simp) n1, e1, e2, e3]
    show _ = (((("first" : Str).cps.toList ++ 32 :: ("(" : Str).cps.toList ++ _) ++ 32 :: ((")" : Str).cps.toList ++ 32 :: (("then" : Str).cps.toList ++ 32 :: ("(" : Str).cps.toList))) ++ _) ++ 32 :: (")" : Str).cps.toList
    simp
def sz : Pl → Nat
  | .cnt _ _ => 1
  | .each p => sz p + 4
  | .fst p q => sz p + sz q + 6
def bd : Nat → Nat
  | 0 => 1
  | n + 1 => 2 * bd n + 6
theorem bd_pos (n : Nat) : 1 ≤ bd n := by cases n <;> simp [bd]
theorem sz_bd : ∀ (n : Nat) (p : Pl), Good n p → sz p ≤ bd n
  | n, .cnt k i, _ => bd_pos n
  | n + 1, .each p, g => by have := sz_bd n p g; simp only [sz, bd]; omega
  | n + 1, .fst p q, g => by have := sz_bd n p g.1; have := sz_bd n q g.2; simp only [sz, bd]; omega
theorem sz_pos (p : Pl) : 1 ≤ sz p := by cases p <;> simp [sz] <;> omega
theorem words_len (p : Pl) : (words p).length ≤ 2 * sz p := by
  induction p with
  | cnt k i => simp [words, sz]
  | each p ih => simp [words, sz]; omega
  | fst p q ih1 ih2 => simp [words, sz]; omega
end Pt
set_option Elab.async false
set_option linter.all false
set_option maxRecDepth 100000
set_option maxHeartbeats 4000000
namespace My
open PySem L2 Pt
def top (i : Nat) : Stmt := PySem.Challenge.pw_fewspeak_k41_plans_as_texts.main.body.getD i (.Pass ⟨0, 0, 0, 0⟩)
abbrev s_wall : Stmt := top 0
abbrev s_NoListing___init__ : Stmt := inClass (top 3) 0
abbrev s_NoPlan___init__ : Stmt := inClass (top 5) 0
abbrev s_NoThrow___init__ : Stmt := inClass (top 7) 0
abbrev s_is_whole : Stmt := top 11
abbrev s_is_made_of : Stmt := top 12
abbrev s_number_of : Stmt := top 13
abbrev s_need_number : Stmt := top 17
abbrev s_Plan_need_levels : Stmt := inClass (top 18) 0
abbrev s_Few___init__ : Stmt := inClass (top 19) 0
abbrev s_Few_node : Stmt := inClass (top 19) 1
abbrev s_Few_matrix : Stmt := inClass (top 19) 2
abbrev s_Few_bounds : Stmt := inClass (top 19) 3
abbrev s_Few_text : Stmt := inClass (top 19) 4
abbrev s_Start___init__ : Stmt := inClass (top 20) 0
abbrev s_Start_node : Stmt := inClass (top 20) 1
abbrev s_Start_matrix : Stmt := inClass (top 20) 2
abbrev s_Start_bounds : Stmt := inClass (top 20) 3
abbrev s_Start_text : Stmt := inClass (top 20) 4
abbrev s_Loose___init__ : Stmt := inClass (top 21) 0
abbrev s_Loose_node : Stmt := inClass (top 21) 1
abbrev s_Loose_matrix : Stmt := inClass (top 21) 2
abbrev s_Loose_bounds : Stmt := inClass (top 21) 3
abbrev s_Loose_text : Stmt := inClass (top 21) 4
abbrev s_Duel___init__ : Stmt := inClass (top 23) 0
abbrev s_Duel_node : Stmt := inClass (top 23) 1
abbrev s_Duel_matrix : Stmt := inClass (top 23) 2
abbrev s_Duel_bounds : Stmt := inClass (top 23) 3
abbrev s_Duel_text : Stmt := inClass (top 23) 4
abbrev s_Each___init__ : Stmt := inClass (top 25) 0
abbrev s_Each_node : Stmt := inClass (top 25) 1
abbrev s_Each_matrix : Stmt := inClass (top 25) 2
abbrev s_Each_bounds : Stmt := inClass (top 25) 3
abbrev s_Each_text : Stmt := inClass (top 25) 4
abbrev s_Each_need_levels : Stmt := inClass (top 25) 5
abbrev s_First___init__ : Stmt := inClass (top 26) 0
abbrev s_First_node : Stmt := inClass (top 26) 1
abbrev s_First_matrix : Stmt := inClass (top 26) 2
abbrev s_First_bounds : Stmt := inClass (top 26) 3
abbrev s_First_text : Stmt := inClass (top 26) 4
abbrev s_First_need_levels : Stmt := inClass (top 26) 5
abbrev s_text_of : Stmt := top 27
abbrev s_plan_of : Stmt := top 31
abbrev s_plan_at : Stmt := top 32
abbrev s_word_at : Stmt := top 33
abbrev s_behind_word : Stmt := top 34
abbrev s_counted_at : Stmt := top 35
abbrev s_counted_plan : Stmt := top 36
abbrev s_each_at : Stmt := top 37
abbrev s_first_at : Stmt := top 38
abbrev s_bracketed_at : Stmt := top 39
abbrev s_L_cell : Stmt := top 41
abbrev s_L_mixed : Stmt := top 42
abbrev s_L_tree : Stmt := top 43
abbrev s_L_words : Stmt := top 44
abbrev s_L_whole : Stmt := top 45
abbrev s_L_is : Stmt := top 46
abbrev s_L_spoiled : Stmt := top 47
abbrev s_L_opens : Stmt := top 48
abbrev s_L_wrong : Stmt := top 49
abbrev s_L_told : Stmt := top 50
abbrev s_L_right : Stmt := top 51
abbrev s_law : Stmt := top 52
theorem sc_NoPlan___init__ : FnScope ["self", "place"] ["self", "place"] (defScope s_NoPlan___init__) := ⟨rfl, rfl, rfl, by decide +kernel, rfl, by decide +kernel, by decide +kernel⟩
theorem sc_is_whole : FnScope ["thing", "low", "high"] ["thing", "low", "high"] (defScope s_is_whole) := ⟨rfl, rfl, rfl, by decide +kernel, rfl, by decide +kernel, by decide +kernel⟩
theorem sc_is_made_of : FnScope ["text", "signs", "most"] ["text", "signs", "most"] (defScope s_is_made_of) := ⟨rfl, rfl, rfl, by decide +kernel, rfl, by decide +kernel, by decide +kernel⟩
theorem sc_number_of : FnScope ["text", "low", "high", "figures", "number"] ["text", "low", "high"] (defScope s_number_of) := ⟨rfl, rfl, rfl, by decide +kernel, rfl, by decide +kernel, by decide +kernel⟩
theorem sc_need_number : FnScope ["thing", "low", "high"] ["thing", "low", "high"] (defScope s_need_number) := ⟨rfl, rfl, rfl, by decide +kernel, rfl, by decide +kernel, by decide +kernel⟩
theorem sc_Few___init__ : FnScope ["self", "many"] ["self", "many"] (defScope s_Few___init__) := ⟨rfl, rfl, rfl, by decide +kernel, rfl, by decide +kernel, by decide +kernel⟩
theorem sc_Few_text : FnScope ["self", "many"] ["self"] (defScope s_Few_text) := ⟨rfl, rfl, rfl, by decide +kernel, rfl, by decide +kernel, by decide +kernel⟩
theorem sc_Start___init__ : FnScope ["self", "step"] ["self", "step"] (defScope s_Start___init__) := ⟨rfl, rfl, rfl, by decide +kernel, rfl, by decide +kernel, by decide +kernel⟩
theorem sc_Start_text : FnScope ["self", "step"] ["self"] (defScope s_Start_text) := ⟨rfl, rfl, rfl, by decide +kernel, rfl, by decide +kernel, by decide +kernel⟩
theorem sc_Loose___init__ : FnScope ["self", "many"] ["self", "many"] (defScope s_Loose___init__) := ⟨rfl, rfl, rfl, by decide +kernel, rfl, by decide +kernel, by decide +kernel⟩
theorem sc_Loose_text : FnScope ["self", "many"] ["self"] (defScope s_Loose_text) := ⟨rfl, rfl, rfl, by decide +kernel, rfl, by decide +kernel, by decide +kernel⟩
theorem sc_Duel___init__ : FnScope ["self", "many"] ["self", "many"] (defScope s_Duel___init__) := ⟨rfl, rfl, rfl, by decide +kernel, rfl, by decide +kernel, by decide +kernel⟩
theorem sc_Duel_text : FnScope ["self", "many"] ["self"] (defScope s_Duel_text) := ⟨rfl, rfl, rfl, by decide +kernel, rfl, by decide +kernel, by decide +kernel⟩
theorem sc_Each___init__ : FnScope ["self", "inside"] ["self", "inside"] (defScope s_Each___init__) := ⟨rfl, rfl, rfl, by decide +kernel, rfl, by decide +kernel, by decide +kernel⟩
theorem sc_Each_text : FnScope ["self"] ["self"] (defScope s_Each_text) := ⟨rfl, rfl, rfl, by decide +kernel, rfl, by decide +kernel, by decide +kernel⟩
theorem sc_First___init__ : FnScope ["self", "outside", "inside"] ["self", "outside", "inside"] (defScope s_First___init__) := ⟨rfl, rfl, rfl, by decide +kernel, rfl, by decide +kernel, by decide +kernel⟩
theorem sc_First_text : FnScope ["self"] ["self"] (defScope s_First_text) := ⟨rfl, rfl, rfl, by decide +kernel, rfl, by decide +kernel, by decide +kernel⟩
theorem sc_text_of : FnScope ["plan", "told", "ahead", "here"] ["plan"] (defScope s_text_of) := ⟨rfl, rfl, rfl, by decide +kernel, rfl, by decide +kernel, by decide +kernel⟩
theorem sc_plan_of : FnScope ["text", "words", "plan", "place"] ["text"] (defScope s_plan_of) := ⟨rfl, rfl, rfl, by decide +kernel, rfl, by decide +kernel, by decide +kernel⟩
theorem sc_plan_at : FnScope ["words", "place", "around", "word"] ["words", "place", "around"] (defScope s_plan_at) := ⟨rfl, rfl, rfl, by decide +kernel, rfl, by decide +kernel, by decide +kernel⟩
theorem sc_word_at : FnScope ["words", "place"] ["words", "place"] (defScope s_word_at) := ⟨rfl, rfl, rfl, by decide +kernel, rfl, by decide +kernel, by decide +kernel⟩
theorem sc_behind_word : FnScope ["words", "place", "wanted"] ["words", "place", "wanted"] (defScope s_behind_word) := ⟨rfl, rfl, rfl, by decide +kernel, rfl, by decide +kernel, by decide +kernel⟩
theorem sc_counted_at : FnScope ["words", "place", "number"] ["words", "place"] (defScope s_counted_at) := ⟨rfl, rfl, rfl, by decide +kernel, rfl, by decide +kernel, by decide +kernel⟩
theorem sc_counted_plan : FnScope ["word", "number"] ["word", "number"] (defScope s_counted_plan) := ⟨rfl, rfl, rfl, by decide +kernel, rfl, by decide +kernel, by decide +kernel⟩
theorem sc_each_at : FnScope ["words", "place", "around", "inside", "end"] ["words", "place", "around"] (defScope s_each_at) := ⟨rfl, rfl, rfl, by decide +kernel, rfl, by decide +kernel, by decide +kernel⟩
theorem sc_first_at : FnScope ["words", "place", "around", "outside", "end", "inside"] ["words", "place", "around"] (defScope s_first_at) := ⟨rfl, rfl, rfl, by decide +kernel, rfl, by decide +kernel, by decide +kernel⟩
theorem sc_bracketed_at : FnScope ["words", "place", "around", "plan", "end"] ["words", "place", "around"] (defScope s_bracketed_at) := ⟨rfl, rfl, rfl, by decide +kernel, rfl, by decide +kernel, by decide +kernel⟩
theorem sc_L_cell : FnScope ["_law_script", "_law_k"] ["_law_script", "_law_k"] (defScope s_L_cell) := ⟨rfl, rfl, rfl, by decide +kernel, rfl, by decide +kernel, by decide +kernel⟩
theorem sc_L_mixed : FnScope ["_law_cell_here", "_law_k", "_law_number"] ["_law_cell_here", "_law_k"] (defScope s_L_mixed) := ⟨rfl, rfl, rfl, by decide +kernel, rfl, by decide +kernel, by decide +kernel⟩
theorem sc_L_tree : FnScope ["_law_number", "_law_deep", "_law_wide", "_law_way", "_law_one", "_law_other"] ["_law_number", "_law_deep", "_law_wide"] (defScope s_L_tree) := ⟨rfl, rfl, rfl, by decide +kernel, rfl, by decide +kernel, by decide +kernel⟩
theorem sc_L_words : FnScope ["_law_tree_here"] ["_law_tree_here"] (defScope s_L_words) := ⟨rfl, rfl, rfl, by decide +kernel, rfl, by decide +kernel, by decide +kernel⟩
theorem sc_L_whole : FnScope ["_law_found", "_law_due"] ["_law_found", "_law_due"] (defScope s_L_whole) := ⟨rfl, rfl, rfl, by decide +kernel, rfl, by decide +kernel, by decide +kernel⟩
theorem sc_L_is : FnScope ["_law_plan", "_law_tree_here", "_law_kinds"] ["_law_plan", "_law_tree_here"] (defScope s_L_is) := ⟨rfl, rfl, rfl, by decide +kernel, rfl, by decide +kernel, by decide +kernel⟩
theorem sc_L_spoiled : FnScope ["_law_words_here", "_law_cell_here", "_law_number", "_law_way", "_law_at", "_law_some", "_law_sign"] ["_law_words_here", "_law_cell_here"] (defScope s_L_spoiled) := ⟨rfl, rfl, rfl, by decide +kernel, rfl, by decide +kernel, by decide +kernel⟩
theorem sc_L_opens : FnScope ["_law_word", "_law_deep"] ["_law_word", "_law_deep"] (defScope s_L_opens) := ⟨rfl, rfl, rfl, by decide +kernel, rfl, by decide +kernel, by decide +kernel⟩
theorem sc_L_wrong : FnScope ["_law_words_here", "_law_stack", "_law_place", "_law_word", "_law_due", "_law_more"] ["_law_words_here"] (defScope s_L_wrong) := ⟨rfl, rfl, rfl, by decide +kernel, rfl, by decide +kernel, by decide +kernel⟩
theorem sc_L_told : FnScope ["_law_text", "_law_told_here", "_law_plan", "e"] ["_law_text"] (defScope s_L_told) := ⟨rfl, rfl, rfl, by decide +kernel, rfl, by decide +kernel, by decide +kernel⟩
theorem sc_L_right : FnScope ["_law_words_here", "_law_text", "_law_due", "_law_told_here"] ["_law_words_here"] (defScope s_L_right) := ⟨rfl, rfl, rfl, by decide +kernel, rfl, by decide +kernel, by decide +kernel⟩
theorem sc_law : FnScope ["_law_script", "_law_k", "_law_cell_here", "_law_number", "_law_tree_here", "_law_words_here", "_law_thing"] ["_law_script"] (defScope s_law) := ⟨rfl, rfl, rfl, by decide +kernel, rfl, by decide +kernel, by decide +kernel⟩
def mroIn' (K : PySem.W.Frag) (D C : Addr) : Bool := PySem.W.mroIn K D (.ref C) == some true
set_option genInjectivity false in
set_option genSizeOf false in
structure Ad where
  f_is_whole : Addr
  d_is_whole : FuncData
  f_is_made_of : Addr
  d_is_made_of : FuncData
  f_number_of : Addr
  d_number_of : FuncData
  f_need_number : Addr
  d_need_number : FuncData
  f_text_of : Addr
  d_text_of : FuncData
  f_plan_of : Addr
  d_plan_of : FuncData
  f_plan_at : Addr
  d_plan_at : FuncData
  f_word_at : Addr
  d_word_at : FuncData
  f_behind_word : Addr
  d_behind_word : FuncData
  f_counted_at : Addr
  d_counted_at : FuncData
  f_counted_plan : Addr
  d_counted_plan : FuncData
  f_each_at : Addr
  d_each_at : FuncData
  f_first_at : Addr
  d_first_at : FuncData
  f_bracketed_at : Addr
  d_bracketed_at : FuncData
  f_L_cell : Addr
  d_L_cell : FuncData
  f_L_mixed : Addr
  d_L_mixed : FuncData
  f_L_tree : Addr
  d_L_tree : FuncData
  f_L_words : Addr
  d_L_words : FuncData
  f_L_whole : Addr
  d_L_whole : FuncData
  f_L_is : Addr
  d_L_is : FuncData
  f_L_spoiled : Addr
  d_L_spoiled : FuncData
  f_L_opens : Addr
  d_L_opens : FuncData
  f_L_wrong : Addr
  d_L_wrong : FuncData
  f_L_told : Addr
  d_L_told : FuncData
  f_L_right : Addr
  d_L_right : FuncData
  f_law : Addr
  d_law : FuncData
  c_SpeakError : Addr
  c_NoListing : Addr
  i_NoListing : Addr
  e_NoListing : FuncData
  c_NoUnits : Addr
  c_NoPlan : Addr
  i_NoPlan : Addr
  e_NoPlan : FuncData
  c_NoLevel : Addr
  c_NoThrow : Addr
  i_NoThrow : Addr
  e_NoThrow : FuncData
  c_Plan : Addr
  c_Few : Addr
  i_Few : Addr
  e_Few : FuncData
  c_Start : Addr
  i_Start : Addr
  e_Start : FuncData
  c_Loose : Addr
  i_Loose : Addr
  e_Loose : FuncData
  c_Duel : Addr
  i_Duel : Addr
  e_Duel : FuncData
  c_Each : Addr
  i_Each : Addr
  e_Each : FuncData
  c_First : Addr
  i_First : Addr
  e_First : FuncData
  x_Few_text : Addr
  y_Few_text : FuncData
  x_Start_text : Addr
  y_Start_text : FuncData
  x_Loose_text : Addr
  y_Loose_text : FuncData
  x_Duel_text : Addr
  y_Duel_text : FuncData
  x_Each_text : Addr
  y_Each_text : FuncData
  x_First_text : Addr
  y_First_text : FuncData
  k_COUNTED : Addr
structure Txt (K : PySem.W.Frag) (mg : Str → Option Value) (a : Ad) : Prop where
  F_is_whole : Fun K "is_whole" "is_whole" s_is_whole a.f_is_whole a.d_is_whole
  B_is_whole : Binds K a.d_is_whole ["thing", "low", "high"] []
  m_is_whole : mg "is_whole" = some (.ref a.f_is_whole)
  F_is_made_of : Fun K "is_made_of" "is_made_of" s_is_made_of a.f_is_made_of a.d_is_made_of
  B_is_made_of : Binds K a.d_is_made_of ["text", "signs", "most"] []
  m_is_made_of : mg "is_made_of" = some (.ref a.f_is_made_of)
  F_number_of : Fun K "number_of" "number_of" s_number_of a.f_number_of a.d_number_of
  B_number_of : Binds K a.d_number_of ["text", "low", "high"] []
  m_number_of : mg "number_of" = some (.ref a.f_number_of)
  F_need_number : Fun K "need_number" "need_number" s_need_number a.f_need_number a.d_need_number
  B_need_number : Binds K a.d_need_number ["thing", "low", "high"] []
  m_need_number : mg "need_number" = some (.ref a.f_need_number)
  F_text_of : Fun K "text_of" "text_of" s_text_of a.f_text_of a.d_text_of
  B_text_of : Binds K a.d_text_of ["plan"] []
  m_text_of : mg "text_of" = some (.ref a.f_text_of)
  F_plan_of : Fun K "plan_of" "plan_of" s_plan_of a.f_plan_of a.d_plan_of
  B_plan_of : Binds K a.d_plan_of ["text"] []
  m_plan_of : mg "plan_of" = some (.ref a.f_plan_of)
  F_plan_at : Fun K "plan_at" "plan_at" s_plan_at a.f_plan_at a.d_plan_at
  B_plan_at : Binds K a.d_plan_at ["words", "place", "around"] []
  m_plan_at : mg "plan_at" = some (.ref a.f_plan_at)
  F_word_at : Fun K "word_at" "word_at" s_word_at a.f_word_at a.d_word_at
  B_word_at : Binds K a.d_word_at ["words", "place"] []
  m_word_at : mg "word_at" = some (.ref a.f_word_at)
  F_behind_word : Fun K "behind_word" "behind_word" s_behind_word a.f_behind_word a.d_behind_word
  B_behind_word : Binds K a.d_behind_word ["words", "place", "wanted"] []
  m_behind_word : mg "behind_word" = some (.ref a.f_behind_word)
  F_counted_at : Fun K "counted_at" "counted_at" s_counted_at a.f_counted_at a.d_counted_at
  B_counted_at : Binds K a.d_counted_at ["words", "place"] []
  m_counted_at : mg "counted_at" = some (.ref a.f_counted_at)
  F_counted_plan : Fun K "counted_plan" "counted_plan" s_counted_plan a.f_counted_plan a.d_counted_plan
  B_counted_plan : Binds K a.d_counted_plan ["word", "number"] []
  m_counted_plan : mg "counted_plan" = some (.ref a.f_counted_plan)
  F_each_at : Fun K "each_at" "each_at" s_each_at a.f_each_at a.d_each_at
  B_each_at : Binds K a.d_each_at ["words", "place", "around"] []
  m_each_at : mg "each_at" = some (.ref a.f_each_at)
  F_first_at : Fun K "first_at" "first_at" s_first_at a.f_first_at a.d_first_at
  B_first_at : Binds K a.d_first_at ["words", "place", "around"] []
  m_first_at : mg "first_at" = some (.ref a.f_first_at)
  F_bracketed_at : Fun K "bracketed_at" "bracketed_at" s_bracketed_at a.f_bracketed_at a.d_bracketed_at
  B_bracketed_at : Binds K a.d_bracketed_at ["words", "place", "around"] []
  m_bracketed_at : mg "bracketed_at" = some (.ref a.f_bracketed_at)
  F_L_cell : Fun K "_law_cell" "_law_cell" s_L_cell a.f_L_cell a.d_L_cell
  B_L_cell : Binds K a.d_L_cell ["_law_script", "_law_k"] []
  m_L_cell : mg "_law_cell" = some (.ref a.f_L_cell)
  F_L_mixed : Fun K "_law_mixed" "_law_mixed" s_L_mixed a.f_L_mixed a.d_L_mixed
  B_L_mixed : Binds K a.d_L_mixed ["_law_cell_here", "_law_k"] []
  m_L_mixed : mg "_law_mixed" = some (.ref a.f_L_mixed)
  F_L_tree : Fun K "_law_tree" "_law_tree" s_L_tree a.f_L_tree a.d_L_tree
  B_L_tree : Binds K a.d_L_tree ["_law_number", "_law_deep", "_law_wide"] []
  m_L_tree : mg "_law_tree" = some (.ref a.f_L_tree)
  F_L_words : Fun K "_law_words" "_law_words" s_L_words a.f_L_words a.d_L_words
  B_L_words : Binds K a.d_L_words ["_law_tree_here"] []
  m_L_words : mg "_law_words" = some (.ref a.f_L_words)
  F_L_whole : Fun K "_law_whole" "_law_whole" s_L_whole a.f_L_whole a.d_L_whole
  B_L_whole : Binds K a.d_L_whole ["_law_found", "_law_due"] []
  m_L_whole : mg "_law_whole" = some (.ref a.f_L_whole)
  F_L_is : Fun K "_law_is" "_law_is" s_L_is a.f_L_is a.d_L_is
  B_L_is : Binds K a.d_L_is ["_law_plan", "_law_tree_here"] []
  m_L_is : mg "_law_is" = some (.ref a.f_L_is)
  F_L_spoiled : Fun K "_law_spoiled" "_law_spoiled" s_L_spoiled a.f_L_spoiled a.d_L_spoiled
  B_L_spoiled : Binds K a.d_L_spoiled ["_law_words_here", "_law_cell_here"] []
  m_L_spoiled : mg "_law_spoiled" = some (.ref a.f_L_spoiled)
  F_L_opens : Fun K "_law_opens" "_law_opens" s_L_opens a.f_L_opens a.d_L_opens
  B_L_opens : Binds K a.d_L_opens ["_law_word", "_law_deep"] []
  m_L_opens : mg "_law_opens" = some (.ref a.f_L_opens)
  F_L_wrong : Fun K "_law_wrong" "_law_wrong" s_L_wrong a.f_L_wrong a.d_L_wrong
  B_L_wrong : Binds K a.d_L_wrong ["_law_words_here"] []
  m_L_wrong : mg "_law_wrong" = some (.ref a.f_L_wrong)
  F_L_told : Fun K "_law_told" "_law_told" s_L_told a.f_L_told a.d_L_told
  B_L_told : Binds K a.d_L_told ["_law_text"] []
  m_L_told : mg "_law_told" = some (.ref a.f_L_told)
  F_L_right : Fun K "_law_right" "_law_right" s_L_right a.f_L_right a.d_L_right
  B_L_right : Binds K a.d_L_right ["_law_words_here"] []
  m_L_right : mg "_law_right" = some (.ref a.f_L_right)
  F_law : Fun K "law" "law" s_law a.f_law a.d_law
  B_law : Binds K a.d_law ["_law_script"] []
  m_law : mg "law" = some (.ref a.f_law)
  g_FIGURES : ∃ u, mg "FIGURES" = some u ∧ RelV (.str "0123456789") u
  g_MOST_FIGURES : ∃ u, mg "MOST_FIGURES" = some u ∧ RelV (.int 12) u
  g_MOST_MANY : ∃ u, mg "MOST_MANY" = some u ∧ RelV (.int 24) u
  g_MOST_STEP : ∃ u, mg "MOST_STEP" = some u ∧ RelV (.int 100) u
  g_COUNTED : ∃ u, mg "COUNTED" = some u ∧ RelV (.ref a.k_COUNTED) u
  t_COUNTED : tupInS K a.k_COUNTED [(.str "few"), (.str "start"), (.str "loose"), (.str "duel")] = true
  g_MOST_AROUND : ∃ u, mg "MOST_AROUND" = some u ∧ RelV (.int 3) u
  mc_SpeakError : mg "SpeakError" = some (.ref a.c_SpeakError)
  g_SpeakError : ∃ u, mg "SpeakError" = some u ∧ RelV (.ref a.c_SpeakError) u
  kc_SpeakError : PySem.W.keepIn K (.ref a.c_SpeakError) = true
  xc_SpeakError : XCls K a.c_SpeakError
  xh_SpeakError : XHd K a.c_SpeakError
  xi_SpeakError : xIn K a.c_SpeakError none = true
  mc_NoListing : mg "NoListing" = some (.ref a.c_NoListing)
  g_NoListing : ∃ u, mg "NoListing" = some u ∧ RelV (.ref a.c_NoListing) u
  kc_NoListing : PySem.W.keepIn K (.ref a.c_NoListing) = true
  xc_NoListing : XCls K a.c_NoListing
  xh_NoListing : XHd K a.c_NoListing
  xi_NoListing : xIn K a.c_NoListing (some (.ref a.i_NoListing)) = true
  fn_NoListing : PySem.W.isFn K (.ref a.i_NoListing) = true
  Fi_NoListing : Fun K "__init__" "NoListing.__init__" s_NoListing___init__ a.i_NoListing a.e_NoListing
  Bi_NoListing : Binds K a.e_NoListing ["self", "line", "word"] []
  sx_NoListing_line : ∃ cd, XSet K a.c_NoListing "line" cd
  sx_NoListing_word : ∃ cd, XSet K a.c_NoListing "word" cd
  mc_NoUnits : mg "NoUnits" = some (.ref a.c_NoUnits)
  g_NoUnits : ∃ u, mg "NoUnits" = some u ∧ RelV (.ref a.c_NoUnits) u
  kc_NoUnits : PySem.W.keepIn K (.ref a.c_NoUnits) = true
  xc_NoUnits : XCls K a.c_NoUnits
  xh_NoUnits : XHd K a.c_NoUnits
  xi_NoUnits : xIn K a.c_NoUnits none = true
  mc_NoPlan : mg "NoPlan" = some (.ref a.c_NoPlan)
  g_NoPlan : ∃ u, mg "NoPlan" = some u ∧ RelV (.ref a.c_NoPlan) u
  kc_NoPlan : PySem.W.keepIn K (.ref a.c_NoPlan) = true
  xc_NoPlan : XCls K a.c_NoPlan
  xh_NoPlan : XHd K a.c_NoPlan
  xi_NoPlan : xIn K a.c_NoPlan (some (.ref a.i_NoPlan)) = true
  fn_NoPlan : PySem.W.isFn K (.ref a.i_NoPlan) = true
  Fi_NoPlan : Fun K "__init__" "NoPlan.__init__" s_NoPlan___init__ a.i_NoPlan a.e_NoPlan
  Bi_NoPlan : Binds K a.e_NoPlan ["self", "place"] []
  sx_NoPlan_place : ∃ cd, XSet K a.c_NoPlan "place" cd
  mc_NoLevel : mg "NoLevel" = some (.ref a.c_NoLevel)
  g_NoLevel : ∃ u, mg "NoLevel" = some u ∧ RelV (.ref a.c_NoLevel) u
  kc_NoLevel : PySem.W.keepIn K (.ref a.c_NoLevel) = true
  xc_NoLevel : XCls K a.c_NoLevel
  xh_NoLevel : XHd K a.c_NoLevel
  xi_NoLevel : xIn K a.c_NoLevel none = true
  mc_NoThrow : mg "NoThrow" = some (.ref a.c_NoThrow)
  g_NoThrow : ∃ u, mg "NoThrow" = some u ∧ RelV (.ref a.c_NoThrow) u
  kc_NoThrow : PySem.W.keepIn K (.ref a.c_NoThrow) = true
  xc_NoThrow : XCls K a.c_NoThrow
  xh_NoThrow : XHd K a.c_NoThrow
  xi_NoThrow : xIn K a.c_NoThrow (some (.ref a.i_NoThrow)) = true
  fn_NoThrow : PySem.W.isFn K (.ref a.i_NoThrow) = true
  Fi_NoThrow : Fun K "__init__" "NoThrow.__init__" s_NoThrow___init__ a.i_NoThrow a.e_NoThrow
  Bi_NoThrow : Binds K a.e_NoThrow ["self", "place"] []
  sx_NoThrow_place : ∃ cd, XSet K a.c_NoThrow "place" cd
  mc_Plan : mg "Plan" = some (.ref a.c_Plan)
  g_Plan : ∃ u, mg "Plan" = some u ∧ RelV (.ref a.c_Plan) u
  cl_Plan : Cls K a.c_Plan
  ty_Plan : ∀ H x dx fs, H x = some (.ins a.c_Plan dx fs) → TyOf K H (.ref x) (.ref a.c_Plan)
  mc_Few : mg "Few" = some (.ref a.c_Few)
  g_Few : ∃ u, mg "Few" = some u ∧ RelV (.ref a.c_Few) u
  cl_Few : Cls K a.c_Few
  ty_Few : ∀ H x dx fs, H x = some (.ins a.c_Few dx fs) → TyOf K H (.ref x) (.ref a.c_Few)
  mk_Few : Mk K a.c_Few a.i_Few
  Fi_Few : Fun K "__init__" "Few.__init__" s_Few___init__ a.i_Few a.e_Few
  Bi_Few : Binds K a.e_Few ["self", "many"] []
  na_Few_many : NoAttr K a.c_Few "many"
  mt_Few_text : Meth K a.c_Few "text" a.x_Few_text
  mc_Start : mg "Start" = some (.ref a.c_Start)
  g_Start : ∃ u, mg "Start" = some u ∧ RelV (.ref a.c_Start) u
  cl_Start : Cls K a.c_Start
  ty_Start : ∀ H x dx fs, H x = some (.ins a.c_Start dx fs) → TyOf K H (.ref x) (.ref a.c_Start)
  mk_Start : Mk K a.c_Start a.i_Start
  Fi_Start : Fun K "__init__" "Start.__init__" s_Start___init__ a.i_Start a.e_Start
  Bi_Start : Binds K a.e_Start ["self", "step"] []
  na_Start_step : NoAttr K a.c_Start "step"
  mt_Start_text : Meth K a.c_Start "text" a.x_Start_text
  mc_Loose : mg "Loose" = some (.ref a.c_Loose)
  g_Loose : ∃ u, mg "Loose" = some u ∧ RelV (.ref a.c_Loose) u
  cl_Loose : Cls K a.c_Loose
  ty_Loose : ∀ H x dx fs, H x = some (.ins a.c_Loose dx fs) → TyOf K H (.ref x) (.ref a.c_Loose)
  mk_Loose : Mk K a.c_Loose a.i_Loose
  Fi_Loose : Fun K "__init__" "Loose.__init__" s_Loose___init__ a.i_Loose a.e_Loose
  Bi_Loose : Binds K a.e_Loose ["self", "many"] []
  na_Loose_many : NoAttr K a.c_Loose "many"
  mt_Loose_text : Meth K a.c_Loose "text" a.x_Loose_text
  mc_Duel : mg "Duel" = some (.ref a.c_Duel)
  g_Duel : ∃ u, mg "Duel" = some u ∧ RelV (.ref a.c_Duel) u
  cl_Duel : Cls K a.c_Duel
  ty_Duel : ∀ H x dx fs, H x = some (.ins a.c_Duel dx fs) → TyOf K H (.ref x) (.ref a.c_Duel)
  mk_Duel : Mk K a.c_Duel a.i_Duel
  Fi_Duel : Fun K "__init__" "Duel.__init__" s_Duel___init__ a.i_Duel a.e_Duel
  Bi_Duel : Binds K a.e_Duel ["self", "many"] []
  na_Duel_many : NoAttr K a.c_Duel "many"
  mt_Duel_text : Meth K a.c_Duel "text" a.x_Duel_text
  mc_Each : mg "Each" = some (.ref a.c_Each)
  g_Each : ∃ u, mg "Each" = some u ∧ RelV (.ref a.c_Each) u
  cl_Each : Cls K a.c_Each
  ty_Each : ∀ H x dx fs, H x = some (.ins a.c_Each dx fs) → TyOf K H (.ref x) (.ref a.c_Each)
  mk_Each : Mk K a.c_Each a.i_Each
  Fi_Each : Fun K "__init__" "Each.__init__" s_Each___init__ a.i_Each a.e_Each
  Bi_Each : Binds K a.e_Each ["self", "inside"] []
  na_Each_inside : NoAttr K a.c_Each "inside"
  mt_Each_text : Meth K a.c_Each "text" a.x_Each_text
  mc_First : mg "First" = some (.ref a.c_First)
  g_First : ∃ u, mg "First" = some u ∧ RelV (.ref a.c_First) u
  cl_First : Cls K a.c_First
  ty_First : ∀ H x dx fs, H x = some (.ins a.c_First dx fs) → TyOf K H (.ref x) (.ref a.c_First)
  mk_First : Mk K a.c_First a.i_First
  Fi_First : Fun K "__init__" "First.__init__" s_First___init__ a.i_First a.e_First
  Bi_First : Binds K a.e_First ["self", "outside", "inside"] []
  na_First_outside : NoAttr K a.c_First "outside"
  na_First_inside : NoAttr K a.c_First "inside"
  mt_First_text : Meth K a.c_First "text" a.x_First_text
  F_Few_text : Fun K "text" "Few.text" s_Few_text a.x_Few_text a.y_Few_text
  B_Few_text : Binds K a.y_Few_text ["self"] []
  F_Start_text : Fun K "text" "Start.text" s_Start_text a.x_Start_text a.y_Start_text
  B_Start_text : Binds K a.y_Start_text ["self"] []
  F_Loose_text : Fun K "text" "Loose.text" s_Loose_text a.x_Loose_text a.y_Loose_text
  B_Loose_text : Binds K a.y_Loose_text ["self"] []
  F_Duel_text : Fun K "text" "Duel.text" s_Duel_text a.x_Duel_text a.y_Duel_text
  B_Duel_text : Binds K a.y_Duel_text ["self"] []
  F_Each_text : Fun K "text" "Each.text" s_Each_text a.x_Each_text a.y_Each_text
  B_Each_text : Binds K a.y_Each_text ["self"] []
  F_First_text : Fun K "text" "First.text" s_First_text a.x_First_text a.y_First_text
  B_First_text : Binds K a.y_First_text ["self"] []
  sf : PySem.W.kitOne K (.ref a.c_Few) (.type "str") = some false
  ss : PySem.W.kitOne K (.ref a.c_Start) (.type "str") = some false
  sl : PySem.W.kitOne K (.ref a.c_Loose) (.type "str") = some false
  sd : PySem.W.kitOne K (.ref a.c_Duel) (.type "str") = some false
  se : PySem.W.kitOne K (.ref a.c_Each) (.type "str") = some false
  sa : PySem.W.kitOne K (.ref a.c_First) (.type "str") = some false
  tn : mroIn' K a.c_NoPlan a.c_NoPlan = true
  ts : mroIn' K a.c_NoPlan a.c_SpeakError = true
  x1 : PySem.W.kitOne K (.ref a.c_NoPlan) (.ref a.c_NoPlan) = some true
  x2 : PySem.W.kitAny K (.ref a.c_NoPlan) [.ref a.c_NoLevel, .ref a.c_NoListing, .ref a.c_NoThrow, .ref a.c_NoUnits] = some false
  kff : PySem.W.kitOne K (.ref a.c_Few) (.ref a.c_Few) = some true
  kfs : PySem.W.kitOne K (.ref a.c_Few) (.ref a.c_Start) = some false
  kfl : PySem.W.kitOne K (.ref a.c_Few) (.ref a.c_Loose) = some false
  kfd : PySem.W.kitOne K (.ref a.c_Few) (.ref a.c_Duel) = some false
  kfe : PySem.W.kitOne K (.ref a.c_Few) (.ref a.c_Each) = some false
  kfa : PySem.W.kitOne K (.ref a.c_Few) (.ref a.c_First) = some false
  kfp : PySem.W.kitOne K (.ref a.c_Few) (.ref a.c_Plan) = some true
  ksf : PySem.W.kitOne K (.ref a.c_Start) (.ref a.c_Few) = some false
  kss : PySem.W.kitOne K (.ref a.c_Start) (.ref a.c_Start) = some true
  ksl : PySem.W.kitOne K (.ref a.c_Start) (.ref a.c_Loose) = some false
  ksd : PySem.W.kitOne K (.ref a.c_Start) (.ref a.c_Duel) = some false
  kse : PySem.W.kitOne K (.ref a.c_Start) (.ref a.c_Each) = some false
  ksa : PySem.W.kitOne K (.ref a.c_Start) (.ref a.c_First) = some false
  ksp : PySem.W.kitOne K (.ref a.c_Start) (.ref a.c_Plan) = some true
  klf : PySem.W.kitOne K (.ref a.c_Loose) (.ref a.c_Few) = some false
  kls : PySem.W.kitOne K (.ref a.c_Loose) (.ref a.c_Start) = some false
  kll : PySem.W.kitOne K (.ref a.c_Loose) (.ref a.c_Loose) = some true
  kld : PySem.W.kitOne K (.ref a.c_Loose) (.ref a.c_Duel) = some false
  kle : PySem.W.kitOne K (.ref a.c_Loose) (.ref a.c_Each) = some false
  kla : PySem.W.kitOne K (.ref a.c_Loose) (.ref a.c_First) = some false
  klp : PySem.W.kitOne K (.ref a.c_Loose) (.ref a.c_Plan) = some true
  kdf : PySem.W.kitOne K (.ref a.c_Duel) (.ref a.c_Few) = some false
  kds : PySem.W.kitOne K (.ref a.c_Duel) (.ref a.c_Start) = some false
  kdl : PySem.W.kitOne K (.ref a.c_Duel) (.ref a.c_Loose) = some false
  kdd : PySem.W.kitOne K (.ref a.c_Duel) (.ref a.c_Duel) = some true
  kde : PySem.W.kitOne K (.ref a.c_Duel) (.ref a.c_Each) = some false
  kda : PySem.W.kitOne K (.ref a.c_Duel) (.ref a.c_First) = some false
  kdp : PySem.W.kitOne K (.ref a.c_Duel) (.ref a.c_Plan) = some true
  kef : PySem.W.kitOne K (.ref a.c_Each) (.ref a.c_Few) = some false
  kes : PySem.W.kitOne K (.ref a.c_Each) (.ref a.c_Start) = some false
  kel : PySem.W.kitOne K (.ref a.c_Each) (.ref a.c_Loose) = some false
  ked : PySem.W.kitOne K (.ref a.c_Each) (.ref a.c_Duel) = some false
  kee : PySem.W.kitOne K (.ref a.c_Each) (.ref a.c_Each) = some true
  kea : PySem.W.kitOne K (.ref a.c_Each) (.ref a.c_First) = some false
  kep : PySem.W.kitOne K (.ref a.c_Each) (.ref a.c_Plan) = some true
  kaf : PySem.W.kitOne K (.ref a.c_First) (.ref a.c_Few) = some false
  kas : PySem.W.kitOne K (.ref a.c_First) (.ref a.c_Start) = some false
  kal : PySem.W.kitOne K (.ref a.c_First) (.ref a.c_Loose) = some false
  kad : PySem.W.kitOne K (.ref a.c_First) (.ref a.c_Duel) = some false
  kae : PySem.W.kitOne K (.ref a.c_First) (.ref a.c_Each) = some false
  kaa : PySem.W.kitOne K (.ref a.c_First) (.ref a.c_First) = some true
  kap : PySem.W.kitOne K (.ref a.c_First) (.ref a.c_Plan) = some true
  z_all : mg "all" = none
  z_bool : mg "bool" = none
  z_enumerate : mg "enumerate" = none
  z_int : mg "int" = none
  z_isinstance : mg "isinstance" = none
  z_len : mg "len" = none
  z_max : mg "max" = none
  z_min : mg "min" = none
  z_range : mg "range" = none
  z_str : mg "str" = none
  bl : ∀ (s : Shared) (u : Value), BindsTo s a.d_law ⟨[u], []⟩ [("_law_script", u)]
theorem within_some (lo hi n : Int) : within lo hi (some n) = if lo ≤ n ∧ n ≤ hi then some n else none := rfl
def spCell (K : PySem.W.Frag) : Sp := fun vs H Q _ => ∃ (p : Addr) (ns : List Int) (k : Int), vs = [.ref p, .int k] ∧ SqL K H p (ns.map V.int) ∧ ns.length ≤ 63 ∧ 0 ≤ k ∧ k ≤ 1000 ∧ Q (.int (cellAt ns k)) H
def spMixed : Sp := fun vs H Q _ => ∃ (c k : Int), vs = [.int c, .int k] ∧ 0 ≤ k ∧ k ≤ 1000 ∧ Q (.int (mixed c k)) H
def spMade : Sp := fun vs H Q _ => ∃ (t S : Str) (m : Int), vs = [.str t, .str S, .int m] ∧ t.length ≤ sizeLine ∧ ∀ H', Same H H' → Q (.bl (madeB t S m)) H'
def spNumOf : Sp := fun vs H Q _ => ∃ (t : Str) (lo hi : Int), vs = [.str t, .int lo, .int hi] ∧ t.length ≤ 640 ∧ ∀ H', Same H H' → Q (oV (within lo hi (NumM.numO t.cps.toList))) H'
def spLaw (K : PySem.W.Frag) : Sp := fun vs H Q _ => ∃ (p : Addr) (ns : List Int), vs = [.ref p] ∧ SqL K H p (ns.map V.int) ∧ ns.length ≤ 63 ∧ ∀ H', Q (.bl true) H'
theorem law_start {K : PySem.W.Frag} {H : Hp} {a : Addr} {ns : List Int} (hl : ns.length ≤ 63) (_ : Only H) (hS : SqL K H a (ns.map V.int)) : spLaw K [.ref a] H (fun v _ => v = .bl true) fun _ _ _ => False := ⟨a, ns, rfl, hS, hl, fun _ => rfl⟩
inductive Thing (H : Hp) : V → Option Int → Prop
  | int (i : Int) : Thing H (.int i) (some i)
  | bl (b : Bool) : Thing H (.bl b) none
  | non : Thing H .non none
  | str (t : Str) : Thing H (.str t) none
  | lst (p : Addr) (xs : List V) (e : H p = some (.lst xs)) : Thing H (.ref p) none
  | tup (p : Addr) (xs : List V) (e : H p = some (.tup xs)) : Thing H (.ref p) none
  | dK (p : Addr) (kvs : List (Key × V)) (e : H p = some (.dK kvs)) : Thing H (.ref p) none
def inR (lo hi : Int) : Option Int → Bool
  | some i => decide (lo ≤ i ∧ i ≤ hi)
  | none => false
def spWhole3 : Sp := fun vs H Q _ => ∃ (x : V) (lo hi : Int) (o : Option Int), vs = [x, .int lo, .int hi] ∧ Thing H x o ∧ Q (.bl (inR lo hi o)) H
def spI1 (c : Addr) (f1 : Str) : Sp := fun vs H Q _ => ∃ (x : Addr) (m : Int), vs = [.ref x, .int m] ∧ H x = some (.ext (XD0 x c)) ∧
  ∀ dx, H dx = none → dx ≠ x → Q .non (upd (upd H dx (.ext (XDct dx [(f1, .int m)]))) x (.ext (XD1 x c dx)))
theorem len1 {c : Addr} {f1 : Str} : ∀ vs H Q E, spI1 c f1 vs H Q E → vs.length ≤ 100 := by
  rintro _ _ _ _ ⟨_, _, rfl, _⟩; exact (by decide : 2 ≤ 100)
def Ref (a : Ad) (q : Int) (H : Hp) (E : XK) : Prop := ∀ H' dx, Same H H' → H' dx = some (.ext (XDct dx [("place", .int q)])) → E (.ref a.c_NoPlan) (some dx) H'
def spNeed (a : Ad) : Sp := fun vs H Q E => ∃ (x : V) (lo hi : Int) (o : Option Int), vs = [x, .int lo, .int hi] ∧ Thing H x o ∧ ((inR lo hi o = true ∧ Q .non H) ∨ (inR lo hi o = false ∧ Ref a 0 H E))
def spInit (a : Ad) (C : Addr) (f : Str) (lo hi : Int) : Sp := fun vs H Q E => ∃ (x dx : Addr) (v : V) (o : Option Int), vs = [.ref x, v] ∧ H x = some (.ins C dx []) ∧ Thing H v o ∧
  ((inR lo hi o = true ∧ Q .non (upd H x (.ins C dx [(f, v)]))) ∨ (inR lo hi o = false ∧ Ref a 0 H E))
def spText (C : Addr) (f : Str) (t : Str) : Sp := fun vs H Q _ => ∃ (x dx : Addr) (i : Int), vs = [.ref x] ∧ H x = some (.ins C dx [(f, .int i)]) ∧ 0 ≤ i ∧ i ≤ 100 ∧ Q (.str (t ++ ((toString i : String) : Str))) H
section
variable {P : Program} {w : World} {K : PySem.W.Frag} {mg : Str → Option Value} {base : Heap} {a : Ad}
theorem ok_cell (T : Txt K mg a) : FnOk P w K mg base CX0 1 a.f_L_cell a.d_L_cell ["_law_script", "_law_k"] (spCell K) := by
  refine T.F_L_cell.ok sc_L_cell (fun vs H Q E h => ?_) (fun cdv A outer s H vs Q E hr h => ?_)
  · obtain ⟨p, ns, k, rfl, _⟩ := h; rfl
  · obtain ⟨p, ns, k, rfl, hS, hl, h0, h1, q⟩ := h
    refine ⟨_, (pss_cons (ps_if (t_cmp o_lt (vr 1) (pe_callB call_lenM rfl T.z_len bt_len (pa_cons (vr 0) pa_nil)) (nomark _)) (pss_one (ps_ret (pe_ix ix_seq (vr 0) (vr 1) (fun _ _ => rfl)))) pss_nil) (pss_one (ps_ret (pe_op o_add (pe_op o_mul pe_int (vr 1)) pe_int)))), ?_⟩
    refine ⟨ns.map V.int, .inl hS, ?_⟩
    rw [List.length_map]
    unfold cellAt at q
    refine ite2 (fun c => ?_) (fun c => ?_)
    · have c' : k < (ns.length : Int) := of_decide_eq_true c
      rw [if_pos c'] at q
      refine .inl ⟨p, _, k, .int (ns.getD k.toNat 0), rfl, rfl, hS, ?_, q⟩
      have e : ((k.toNat : Nat) : Int) = k := by omega
      rw [← e]
      refine atI_nat ?_
      have hk : k.toNat < ns.length := by omega
      rw [e]
      simp [List.getElem?_map, List.getD, hk]
    · have c' : ¬ k < (ns.length : Int) := fun z => c (decide_eq_true z)
      rw [if_neg c'] at q
      exact ⟨cl, q⟩
theorem ok_mixed (T : Txt K mg a) : FnOk P w K mg base CX0 1 a.f_L_mixed a.d_L_mixed ["_law_cell_here", "_law_k"] spMixed := by
  refine T.F_L_mixed.ok sc_L_mixed (fun vs H Q E h => ?_) (fun cdv A outer s H vs Q E hr h => ?_)
  · obtain ⟨c, k, rfl, _⟩ := h; rfl
  · obtain ⟨c, k, rfl, h0, h1, q⟩ := h
    refine ⟨_, (pss_cons (ps_if (t_cmp o_eq (pe_op o_mod (vr 0) pe_int) pe_int (nomark _)) (pss_one (ps_ret (pe_op o_mod (pe_op o_shr (vr 0) (pe_op o_add pe_int (pe_op o_mul pe_int (vr 1)))) (pe_op o_pow pe_int pe_int)))) pss_nil) (pss_cons (ps_set (i := 2) sc_L_mixed.nd rfl (Or.inl rfl) (pe_op o_mod (pe_op o_add (vr 0) (pe_op o_mul pe_int (vr 1))) pe_int)) (pss_cons (ps_set (i := 2) sc_L_mixed.nd rfl (Or.inl rfl) (pe_op o_mod (pe_op o_add (pe_op o_mul (vr 2) pe_int) (vr 1)) pe_int)) (pss_cons (ps_set (i := 2) sc_L_mixed.nd rfl (Or.inl rfl) (pe_op o_mod (pe_op o_mul (vr 2) (pe_op o_add (vr 2) pe_int)) pe_int)) (pss_one (ps_ret (pe_op o_mod (pe_op o_mul (vr 2) (pe_op o_add (vr 2) pe_int)) pe_int))))))), ?_⟩
    unfold mixed at q
    refine ⟨cp, ?_⟩
    refine ite2 (fun e => ?_) (fun e => ?_)
    · rw [if_pos (of_decide_eq_true e)] at q
      exact ⟨cl, cn (by omega), cw, cp, q⟩
    · rw [if_neg (fun z => e (decide_eq_true z))] at q
      exact ⟨cl, cp, cr, cp, cl (by omega) (by omega), cp, cl (by omega) (by omega), cp, q⟩
theorem ok_made (T : Txt K mg a) : FnOk P w K mg base CX0 1 a.f_is_made_of a.d_is_made_of ["text", "signs", "most"] spMade := by
  refine T.F_is_made_of.ok sc_is_made_of (fun vs H Q E h => ?_) (fun cdv A outer s H vs Q E hr h => ?_)
  · obtain ⟨t, S, m, rfl, _⟩ := h; rfl
  · obtain ⟨t, S, m, rfl, hz, q⟩ := h
    refine ⟨_, (pss_one (ps_ret (m_and (m_chain o_le o_le pe_int (pe_callB call_lenM rfl T.z_len bt_len (pa_cons (vr 0) pa_nil)) (vr 2)) (pe_one (pe_callB (call_allB rfl) rfl T.z_all bt_all (pa_cons (pe_comp rfl (N := ["sign", "signs"]) (ix := [none, some 1]) ⟨rfl, rfl, rfl, rfl, ⟨rfl, rfl, rfl, trivial⟩⟩ (pi_any (vr 0)) ⟨fun C s H fp => pg_name (i := 0) (show List.Nodup (["sign", "signs"] : List Str) by decide +kernel) rfl (Or.inl rfl), fun C s H fp => pts_nil, fun C s H fp => (pe_cmpR o_inS (vr 0) (vr 1) (by with_unfolding_all rfl))⟩) pa_nil)))))), ?_⟩
    have no : ∀ H', Same H H' → ¬ (1 ≤ (t.cps.size : Int) ∧ (t.cps.size : Int) ≤ m) → Q (.bl false) H' := fun H' e c => by
      have := q H' e
      unfold madeB at this
      rw [decide_eq_false c] at this
      exact this
    refine ⟨hz, ?_⟩
    refine ifC (fun c1 => ?_) (fun c1 => (no H (Same.refl H) fun z => c1 z.1))
    refine ifC (fun c2 => ?_) (fun c2 => no H (Same.refl H) fun z => c2 z.2)
    have c : 1 ≤ (t.cps.size : Int) ∧ (t.cps.size : Int) ≤ m := ⟨c1, c2⟩
    intro D hD
    refine comp_str (fun i ys H' => H' = upd H D (.lst ys) ∧ ys = (t.cps.toList.take i).map fun c => V.bl (decide (c ∈ S.cps.toList))) ⟨rfl, rfl⟩ (fun i ys H' ⟨e, _⟩ => by rw [e]; exact upd_same) ?_ ?_
    · rintro i c ys H' P hc ⟨rfl, rfl⟩ hP
      refine ⟨⟨rfl, trivial⟩, ?_⟩
      have hl : t.cps.toList[i]? = some c := by simpa using hc
      refine ⟨upd_same, ?_, hP _ _ ⟨upd_upd, ?_⟩⟩
      · rw [List.length_map, List.length_take]
        have h1 : i < t.cps.toList.length := (List.getElem?_eq_some_iff.mp hl).1
        have : t.cps.toList.length = t.cps.size := by simp
        have h3 : t.cps.size ≤ sizeLine := hz
        omega
      · rw [List.take_add_one, hl, List.map_append]
        show _ = _ ++ [V.bl (decide (c ∈ S.cps.toList))]
        congr 2
        show V.bl (!(Builtin.Str.occurrences _ _ 0 _ 1).isEmpty) = _
        rw [PySem.StrLaws.found_one]
    · rintro ys H' ⟨rfl, rfl⟩
      refine ⟨D, _, t.cps.toList.map fun c => decide (c ∈ S.cps.toList), rfl, SqL.of upd_same, ?_, ?_⟩
      · rw [List.map_map, List.take_of_length_le (by simp)]
        rfl
      · have en : (t.cps.toList.map fun c => decide (c ∈ S.cps.toList)).all id = madeB t S m := by
          unfold madeB
          rw [decide_eq_true c, Bool.true_and, List.all_map]
          rfl
        rw [en]
        exact q _ (Same.new hD)
theorem ok_numof (T : Txt K mg a) : FnOk P w K mg base CX0 2 a.f_number_of a.d_number_of ["text", "low", "high"] spNumOf := by
  have G_is_made_of : FnOk P w K mg base CX0 1 _ _ _ spMade := ok_made T
  refine T.F_number_of.ok sc_number_of (fun vs H Q E h => ?_) (fun cdv A outer s H vs Q E hr h => ?_)
  · obtain ⟨t, lo, hi, rfl, _⟩ := h; rfl
  · obtain ⟨t, lo, hi, rfl, hz, q⟩ := h
    have hz' : t.length ≤ sizeLine := Nat.le_trans hz (by rw [sizeLine_eq]; decide)
    have none_of : NumM.numO t.cps.toList = none → ∀ H', Same H H' → Q .non H' := fun e H' s => by
      have := q H' s
      rw [e] at this
      exact this
    have eminus : ("-" : Str) = ⟨#[45]⟩ := by decide +kernel
    have ezero : ("0" : Str) = ⟨#[48]⟩ := by decide +kernel
    refine ⟨_, (pss_cons (ps_set (i := 3) sc_number_of.nd rfl (Or.inl rfl) (pe_cut (pe_ifExp (t_val (pe_m.startswith (vr 0) (pa_cons pe_str pa_nil))) (pe_slice sl_any (vr 0) (po_some pe_int) po_none) (vr 0)))) (pss_cons (ps_if (pt_not (t_val (pe_call G_is_made_of hr rfl T.m_is_made_of T.F_is_made_of.kp T.B_is_made_of .nil pass0 (pa_cons (vr 3) (pa_cons (pe_gl rfl T.g_FIGURES) (pa_cons (pe_gl rfl T.g_MOST_FIGURES) pa_nil)))))) (pss_one (ps_ret pe_non)) pss_nil) (pss_consM (ps_if (PW.pt (pw_and (t_val (pe_m.startswith (vr 3) (pa_cons pe_str pa_nil))) (pw_and1 (t_cmp o_ne (vr 0) pe_str (nomark _))))) (pss_one (ps_ret pe_non)) pss_nil) (pss_cons (ps_set (i := 4) sc_number_of.nd rfl (Or.inl rfl) (pe_callTy call_intS rfl T.z_int bt_int (pa_cons (vr 0) pa_nil))) (pss_one (ps_ret (pe_ifExp (t_chain o_le o_le (vr 1) (vr 4) (vr 2)) (vr 4) pe_non))))))), ?_⟩
    obtain ⟨F, f1, f2, f3, f4⟩ : ∃ F : Str, F.cps.toList = NumM.bareL t.cps.toList ∧ F.length ≤ sizeLine ∧ (Txt.startswith t "-" = true → cutS t (some 1) none = F) ∧ (Txt.startswith t "-" = false → t = F) := by
      by_cases hn : t.cps.toList.head? = some 45
      · refine ⟨cutS t (some 1) none, ?_, Nat.le_trans (cutS_le _ _ _) hz', fun _ => rfl, fun h => ?_⟩
        · rw [cut1_codes]; unfold NumM.bareL; rw [if_pos hn]
        · rw [eminus, starts_one, decide_eq_true hn] at h; cases h
      · refine ⟨t, ?_, hz', fun h => ?_, fun _ => rfl⟩
        · unfold NumM.bareL; rw [if_neg hn]
        · rw [eminus, starts_one, decide_eq_false hn] at h; cases h
    have key : ∀ H1, Same H H1 → madeB F "0123456789" 12 = true → (Txt.startswith F "0" = true → ¬ t ≠ "0") → PySem.intText? t = some (NumM.valS t.cps.toList) ∧ NumM.numO t.cps.toList = some (NumM.valS t.cps.toList) := by
      intro H1 s1 h1 h2
      rw [made_fig, f1] at h1
      obtain ⟨ha, hl1, hl2⟩ := NumM.digB_all h1
      have hbz : NumM.badZ t.cps.toList = false := by
        unfold NumM.badZ
        rw [← Bool.not_eq_true, Bool.and_eq_true, decide_eq_true_eq, decide_eq_true_eq]
        rintro ⟨z1, z2⟩
        refine h2 (by rw [ezero, starts_one, f1]; exact decide_eq_true z1) fun e => z2 ?_
        rw [e]; decide +kernel
      refine ⟨?_, by unfold NumM.numO; rw [h1, hbz]; rfl⟩
      by_cases hn : t.cps.toList.head? = some 45
      · have e : t.cps.toList = 45 :: NumM.bareL t.cps.toList := by
          unfold NumM.bareL
          rw [if_pos hn]
          cases hl : t.cps.toList with
          | nil => rw [hl] at hn; cases hn
          | cons c r => rw [hl] at hn; have : c = 45 := by simpa using hn
                        rw [this]; rfl
        have := PySem.intText_neg e ha (by intro z; rw [z] at hl1; exact absurd hl1 (by decide)) (Nat.le_trans hz (by decide))
        rw [this]; unfold NumM.valS; rw [if_pos hn]
      · have e : NumM.bareL t.cps.toList = t.cps.toList := by unfold NumM.bareL; rw [if_neg hn]
        rw [e] at ha hl1
        have := PySem.intText_digits ha (by intro z; rw [z] at hl1; exact absurd hl1 (by decide)) (Nat.le_trans hz (by decide))
        rw [this]; unfold NumM.valS; rw [if_neg hn, e]
    have bad : madeB F "0123456789" 12 = false ∨ (Txt.startswith F "0" = true ∧ t ≠ "0") → NumM.numO t.cps.toList = none := by
      intro h
      unfold NumM.numO
      rcases h with h | ⟨h, h'⟩
      · rw [made_fig, f1] at h
        rw [h]; rfl
      · rw [ezero, starts_one, f1] at h
        have : NumM.badZ t.cps.toList = true := by
          unfold NumM.badZ
          rw [h, Bool.true_and]
          refine decide_eq_true fun e => h' ?_
          rw [ezero]
          exact PyProof.Rows.ext_toList e
        rw [this, Bool.not_true, Bool.and_false]; rfl
    refine ⟨fun v H' => v = .str F ∧ H' = H, ⟨rfl, ifB (fun h1 => ⟨1, rfl, hz', by rw [f3 h1], rfl⟩) (fun h1 => ⟨by rw [f4 h1], rfl⟩)⟩, ?_⟩
    rintro v H' ⟨rfl, rfl⟩
    refine ⟨F, "0123456789", 12, rfl, f2, fun H1 s1 => ?_⟩
    refine ifB (fun h2 => none_of (bad (.inl (by simpa using h2))) H1 s1) (fun h2 => ?_)
    have h2' : madeB F "0123456789" 12 = true := by simpa using h2
    refine ⟨fun σ' H' => σ' = [some (.str t), some (.int lo), some (.int hi), some (.str F), none] ∧ H' = H1 ∧ (Txt.startswith F "0" = true → ¬ t ≠ "0"), ⟨rfl, ifB (fun h3 => ifB (fun h4 => none_of (bad (.inr ⟨h3, by simpa using h4⟩)) H1 s1) (fun h4 => ⟨rfl, rfl, fun _ z => by simp [z] at h4⟩)) (fun h3 => iteF ⟨rfl, rfl, fun z => by rw [h3] at z; cases z⟩)⟩, ?_⟩
    rintro σ' H' ⟨rfl, rfl, h5⟩
    obtain ⟨k1, k2⟩ := key H' s1 h2' h5
    have := q H' s1
    rw [k2] at this
    refine ⟨_, k1, hz, ifC (fun c1 => ifC (fun c2 => ?_) (fun c2 => ?_)) (fun c1 => ?_)⟩
    · rw [within_some, if_pos ⟨c1, c2⟩] at this; exact this
    · rw [within_some, if_neg fun z => c2 z.2] at this; exact this
    · rw [within_some, if_neg fun z => c1 z.1] at this; exact this
theorem ok_whole3 (T : Txt K mg a) : FnOk P w K mg base CX0 1 a.f_is_whole a.d_is_whole ["thing", "low", "high"] spWhole3 := by
  refine T.F_is_whole.ok sc_is_whole (fun vs H Q E h => ?_) (fun cdv A outer s H vs Q E hr h => ?_)
  · obtain ⟨x, lo, hi, o, rfl, _⟩ := h; rfl
  · obtain ⟨x, lo, hi, o, rfl, th, q⟩ := h
    refine ⟨_, (pss_one (ps_ret (m_and (pe_callB call_isi rfl T.z_isinstance bt_isinstance (pa_cons (vr 0) (pa_cons (pe_bltn (v := .ty "int") rfl T.z_int bt_int rfl) pa_nil))) (m_and (m_not (pe_callB call_isi rfl T.z_isinstance bt_isinstance (pa_cons (vr 0) (pa_cons (pe_bltn (v := .ty "bool") rfl T.z_bool bt_bool rfl) pa_nil)))) (pe_one (m_chain o_le o_le (vr 1) (vr 0) (vr 2))))))), ?_⟩
    cases th with
    | int i =>
      refine ⟨_, _, _, true, rfl, rfl, .int i, rfl, ?_⟩
      refine ⟨_, _, _, false, rfl, rfl, .int i, rfl, ?_⟩
      exact and_if (Q := fun v => Q v H) q
    | bl b => exact ⟨_, _, _, true, rfl, rfl, .bl b, rfl, ⟨_, _, _, true, rfl, rfl, .bl b, rfl, q⟩⟩
    | non => exact ⟨_, _, _, false, rfl, rfl, .non, rfl, q⟩
    | str t => exact ⟨_, _, _, false, rfl, rfl, .str t, rfl, q⟩
    | lst p xs e => exact ⟨_, _, _, false, rfl, rfl, .lst e, rfl, q⟩
    | tup p xs e => exact ⟨_, _, _, false, rfl, rfl, .tup e, rfl, q⟩
    | dK p kvs e => exact ⟨_, _, _, false, rfl, rfl, .dK e, rfl, q⟩
theorem oi_NoPlan (T : Txt K mg a) : FnOk P w K mg base CX0 1 a.i_NoPlan a.e_NoPlan ["self", "place"] (spI1 a.c_NoPlan "place") := by
  refine T.Fi_NoPlan.ok sc_NoPlan___init__ (fun vs H Q E h => ?_) (fun cdv A outer s H vs Q E hr h => ?_)
  · obtain ⟨x, m, rfl, _⟩ := h; rfl
  · obtain ⟨x, m, rfl, hx, q⟩ := h
    obtain ⟨cd1, s1⟩ := T.sx_NoPlan_place
    refine ⟨_, (pss_one (ps_fldX (vr 0) (vr 1) rfl)), ?_⟩
    exact ⟨x, a.c_NoPlan, cd1, rfl, s1, .inl ⟨hx, fun dx hd hne => q dx hd hne⟩⟩
theorem oi_NoPlanH (T : Txt K mg a) (k : Nat) : FnOkH P w K mg base (k + 1) a.i_NoPlan a.e_NoPlan ["self", "place"] (spI1 a.c_NoPlan "place") := by
  refine T.Fi_NoPlan.okH sc_NoPlan___init__ (fun vs H Q E h => ?_) (fun cdv A outer s H vs Q E hr h => ?_)
  · obtain ⟨x, m, rfl, _⟩ := h; rfl
  · obtain ⟨x, m, rfl, hx, q⟩ := h
    obtain ⟨cd1, s1⟩ := T.sx_NoPlan_place
    refine ⟨_, (pss_one (ps_fldX (vr 0) (vr 1) rfl)), ?_⟩
    exact ⟨x, a.c_NoPlan, cd1, rfl, s1, .inl ⟨hx, fun dx hd hne => q dx hd hne⟩⟩
theorem ok_need (T : Txt K mg a) : FnOk P w K mg base (CXN P w) 3 a.f_need_number a.d_need_number ["thing", "low", "high"] (spNeed a) := by
  have G_is_whole : FnOk P w K mg base CX0 2 _ _ _ spWhole3 := (ok_whole3 T).mono (by decide)
  have G_NoPlan : FnOk P w K mg base CX0 1 _ _ _ (spI1 a.c_NoPlan "place") := oi_NoPlan T
  refine T.F_need_number.okN' sc_need_number (fun vs H Q E h => ?_) (fun cdv A outer s H vs Q E hr h => ?_)
  · obtain ⟨x, lo, hi, o, rfl, _⟩ := h; rfl
  · obtain ⟨x, lo, hi, o, rfl, th, h⟩ := h
    refine ⟨_, (pss_one (ps_if (pt_not (t_val (pe_call G_is_whole hr rfl T.m_is_whole T.F_is_whole.kp T.B_is_whole .nil pass0 (pa_cons (vr 0) (pa_cons (vr 1) (pa_cons (vr 2) pa_nil)))))) (pss_one (ps_raiseN T.xc_NoPlan T.xh_NoPlan (pe_mkX T.xi_NoPlan T.kc_NoPlan T.fn_NoPlan G_NoPlan hr rfl T.mc_NoPlan T.Bi_NoPlan (pa_cons pe_int pa_nil) len1))) pss_nil)), ?_⟩
    refine ⟨x, lo, hi, o, rfl, th, ?_⟩
    rcases h with ⟨hi, q⟩ | ⟨hi, q⟩
    · refine ifB (fun c => by rw [hi] at c; cases c) (fun _ => q)
    · refine ifB (fun _ => ?_) (fun c => by rw [hi] at c; cases c)
      intro x hx
      refine ⟨x, 0, rfl, upd_same, fun dx hd hne => ⟨rfl, x, some dx, _, rfl, upd_same, fun h z => z, hx, ?_⟩⟩
      have hd' : H dx = none := by rw [upd_ne hne] at hd; exact hd
      refine q _ dx (fun b o e => ?_) ?_
      · have b1 : b ≠ x := fun z => by rw [z, hx] at e; cases e
        have b2 : b ≠ dx := fun z => by rw [z, hd'] at e; cases e
        rw [untr_ne b1, upd_ne b1, upd_ne b2, upd_ne b1]
        exact e
      · rw [untr_ne hne, upd_ne hne]
        exact upd_same
theorem ref_same {H H' : Hp} {E : XK} {q : Int} (s : Same H H') (h : Ref a q H E) : Ref a q H' E := fun H2 dx s2 e => h H2 dx (s.trans s2) e
theorem oi_Few (T : Txt K mg a) : FnOk P w K mg base (CXN P w) 4 a.i_Few a.e_Few ["self", "many"] (spInit a a.c_Few "many" 0 24) := by
  have G_need_number : FnOk P w K mg base (CXN P w) 3 _ _ _ (spNeed a) := ok_need T
  refine T.Fi_Few.okN' sc_Few___init__ (fun vs H Q E h => ?_) (fun cdv A outer s H vs Q E hr h => ?_)
  · obtain ⟨x, dx, v, o, rfl, _⟩ := h; rfl
  · obtain ⟨x, dx, v, o, rfl, hx, th, h⟩ := h
    refine ⟨_, (pss_cons (ps_expr (pe_call G_need_number hr rfl T.m_need_number T.F_need_number.kp T.B_need_number .nil passN (pa_cons (vr 1) (pa_cons pe_int (pa_cons (pe_gl rfl T.g_MOST_MANY) pa_nil))))) (pss_one (ps_fld (vr 0) (vr 1) rfl))), ?_⟩
    refine ⟨v, 0, 24, o, rfl, th, ?_⟩
    rcases h with ⟨hi, q⟩ | ⟨hi, q⟩
    · exact .inl ⟨hi, ⟨x, _, dx, _, rfl, hx, T.cl_Few, T.na_Few_many, by decide, q⟩⟩
    · exact .inr ⟨hi, q⟩
theorem oi_Start (T : Txt K mg a) : FnOk P w K mg base (CXN P w) 4 a.i_Start a.e_Start ["self", "step"] (spInit a a.c_Start "step" 1 100) := by
  have G_need_number : FnOk P w K mg base (CXN P w) 3 _ _ _ (spNeed a) := ok_need T
  refine T.Fi_Start.okN' sc_Start___init__ (fun vs H Q E h => ?_) (fun cdv A outer s H vs Q E hr h => ?_)
  · obtain ⟨x, dx, v, o, rfl, _⟩ := h; rfl
  · obtain ⟨x, dx, v, o, rfl, hx, th, h⟩ := h
    refine ⟨_, (pss_cons (ps_expr (pe_call G_need_number hr rfl T.m_need_number T.F_need_number.kp T.B_need_number .nil passN (pa_cons (vr 1) (pa_cons pe_int (pa_cons (pe_gl rfl T.g_MOST_STEP) pa_nil))))) (pss_one (ps_fld (vr 0) (vr 1) rfl))), ?_⟩
    refine ⟨v, 1, 100, o, rfl, th, ?_⟩
    rcases h with ⟨hi, q⟩ | ⟨hi, q⟩
    · exact .inl ⟨hi, ⟨x, _, dx, _, rfl, hx, T.cl_Start, T.na_Start_step, by decide, q⟩⟩
    · exact .inr ⟨hi, q⟩
theorem oi_Loose (T : Txt K mg a) : FnOk P w K mg base (CXN P w) 4 a.i_Loose a.e_Loose ["self", "many"] (spInit a a.c_Loose "many" 0 24) := by
  have G_need_number : FnOk P w K mg base (CXN P w) 3 _ _ _ (spNeed a) := ok_need T
  refine T.Fi_Loose.okN' sc_Loose___init__ (fun vs H Q E h => ?_) (fun cdv A outer s H vs Q E hr h => ?_)
  · obtain ⟨x, dx, v, o, rfl, _⟩ := h; rfl
  · obtain ⟨x, dx, v, o, rfl, hx, th, h⟩ := h
    refine ⟨_, (pss_cons (ps_expr (pe_call G_need_number hr rfl T.m_need_number T.F_need_number.kp T.B_need_number .nil passN (pa_cons (vr 1) (pa_cons pe_int (pa_cons (pe_gl rfl T.g_MOST_MANY) pa_nil))))) (pss_one (ps_fld (vr 0) (vr 1) rfl))), ?_⟩
    refine ⟨v, 0, 24, o, rfl, th, ?_⟩
    rcases h with ⟨hi, q⟩ | ⟨hi, q⟩
    · exact .inl ⟨hi, ⟨x, _, dx, _, rfl, hx, T.cl_Loose, T.na_Loose_many, by decide, q⟩⟩
    · exact .inr ⟨hi, q⟩
theorem oi_Duel (T : Txt K mg a) : FnOk P w K mg base (CXN P w) 4 a.i_Duel a.e_Duel ["self", "many"] (spInit a a.c_Duel "many" 0 24) := by
  have G_need_number : FnOk P w K mg base (CXN P w) 3 _ _ _ (spNeed a) := ok_need T
  refine T.Fi_Duel.okN' sc_Duel___init__ (fun vs H Q E h => ?_) (fun cdv A outer s H vs Q E hr h => ?_)
  · obtain ⟨x, dx, v, o, rfl, _⟩ := h; rfl
  · obtain ⟨x, dx, v, o, rfl, hx, th, h⟩ := h
    refine ⟨_, (pss_cons (ps_expr (pe_call G_need_number hr rfl T.m_need_number T.F_need_number.kp T.B_need_number .nil passN (pa_cons (vr 1) (pa_cons pe_int (pa_cons (pe_gl rfl T.g_MOST_MANY) pa_nil))))) (pss_one (ps_fld (vr 0) (vr 1) rfl))), ?_⟩
    refine ⟨v, 0, 24, o, rfl, th, ?_⟩
    rcases h with ⟨hi, q⟩ | ⟨hi, q⟩
    · exact .inl ⟨hi, ⟨x, _, dx, _, rfl, hx, T.cl_Duel, T.na_Duel_many, by decide, q⟩⟩
    · exact .inr ⟨hi, q⟩
theorem made_same {H : Hp} {x dx : Addr} {C : Addr} (hx : H x = none) (hd : H dx = none) : Same H (upd (upd H dx (.own x)) x (.ins C dx [])) := fun b o e => by
  have b1 : b ≠ x := fun z => by rw [z, hx] at e; cases e
  have b2 : b ≠ dx := fun z => by rw [z, hd] at e; cases e
  rw [upd_ne b1, upd_ne b2]
  exact e
theorem made_same2 {H : Hp} {x dx : Addr} {C : Addr} {fs : List (Str × V)} (hx : H x = none) (hd : H dx = none) : Same H (upd (upd (upd H dx (.own x)) x (.ins C dx [])) x (.ins C dx fs)) := fun b o e => by
  have b1 : b ≠ x := fun z => by rw [z, hx] at e; cases e
  rw [upd_ne b1]
  exact made_same hx hd b o e
theorem slog {i : Int} (h0 : 0 ≤ i) (h1 : i ≤ 100) : i.natAbs.log2 < 1920 := small_log (by omega)
theorem slen {i : Int} (h0 : 0 ≤ i) (h1 : i ≤ 100) : ((toString i : String) : Str).length ≤ 14 := by
  have h := codes_len (k := 12) (n := i) (by omega)
  rw [← toStr_codes] at h
  simpa [Str.length] using h
theorem emp (x : Str) : (Str.empty ++ x : Str) = x := by
  refine PyProof.Rows.ext_toList ?_
  show ((#[] : Array Nat) ++ x.cps).toList = x.cps.toList
  simp
theorem ok_tFew (T : Txt K mg a) : FnOk P w K mg base CX0 1 a.x_Few_text a.y_Few_text ["self"] (spText a.c_Few "many" "few ") := by
  refine T.F_Few_text.ok sc_Few_text (fun vs H Q E h => ?_) (fun cdv A outer s H vs Q E hr h => ?_)
  · obtain ⟨x, dx, i, rfl, _⟩ := h; rfl
  · obtain ⟨x, dx, i, rfl, hx, h0, h1, q⟩ := h
    refine ⟨_, (pss_cons (ps_set (i := 1) sc_Few_text.nd rfl (Or.inl rfl) (pe_fld (vr 0) rfl)) (pss_one (ps_ret (pe_fstr (pj_cons pe_str (pj_cons (pe_fmt (vr 1)) pj_nil)))))), ?_⟩
    have hl := slen h0 h1
    have sl : sizeLine = 16777216 := sizeLine_eq
    have e1 : ((Str.empty ++ ("few " : Str) : Str)).length ≤ 8 := by decide +kernel
    have e2 : ((Str.empty ++ ("few " : Str)) ++ ((toString i : String) : Str) : Str).length ≤ sizeLine := by rw [strLen_append]; omega
    refine ⟨x, _, dx, _, _, rfl, hx, T.cl_Few, T.na_Few_many, rfl, ?_⟩
    refine ⟨by omega, slog h0 h1, e2, e2, ?_⟩
    rw [emp]
    exact q
theorem ok_tStart (T : Txt K mg a) : FnOk P w K mg base CX0 1 a.x_Start_text a.y_Start_text ["self"] (spText a.c_Start "step" "start ") := by
  refine T.F_Start_text.ok sc_Start_text (fun vs H Q E h => ?_) (fun cdv A outer s H vs Q E hr h => ?_)
  · obtain ⟨x, dx, i, rfl, _⟩ := h; rfl
  · obtain ⟨x, dx, i, rfl, hx, h0, h1, q⟩ := h
    refine ⟨_, (pss_cons (ps_set (i := 1) sc_Start_text.nd rfl (Or.inl rfl) (pe_fld (vr 0) rfl)) (pss_one (ps_ret (pe_fstr (pj_cons pe_str (pj_cons (pe_fmt (vr 1)) pj_nil)))))), ?_⟩
    have hl := slen h0 h1
    have sl : sizeLine = 16777216 := sizeLine_eq
    have e1 : ((Str.empty ++ ("start " : Str) : Str)).length ≤ 8 := by decide +kernel
    have e2 : ((Str.empty ++ ("start " : Str)) ++ ((toString i : String) : Str) : Str).length ≤ sizeLine := by rw [strLen_append]; omega
    refine ⟨x, _, dx, _, _, rfl, hx, T.cl_Start, T.na_Start_step, rfl, ?_⟩
    refine ⟨by omega, slog h0 h1, e2, e2, ?_⟩
    rw [emp]
    exact q
theorem ok_tLoose (T : Txt K mg a) : FnOk P w K mg base CX0 1 a.x_Loose_text a.y_Loose_text ["self"] (spText a.c_Loose "many" "loose ") := by
  refine T.F_Loose_text.ok sc_Loose_text (fun vs H Q E h => ?_) (fun cdv A outer s H vs Q E hr h => ?_)
  · obtain ⟨x, dx, i, rfl, _⟩ := h; rfl
  · obtain ⟨x, dx, i, rfl, hx, h0, h1, q⟩ := h
    refine ⟨_, (pss_cons (ps_set (i := 1) sc_Loose_text.nd rfl (Or.inl rfl) (pe_fld (vr 0) rfl)) (pss_one (ps_ret (pe_fstr (pj_cons pe_str (pj_cons (pe_fmt (vr 1)) pj_nil)))))), ?_⟩
    have hl := slen h0 h1
    have sl : sizeLine = 16777216 := sizeLine_eq
    have e1 : ((Str.empty ++ ("loose " : Str) : Str)).length ≤ 8 := by decide +kernel
    have e2 : ((Str.empty ++ ("loose " : Str)) ++ ((toString i : String) : Str) : Str).length ≤ sizeLine := by rw [strLen_append]; omega
    refine ⟨x, _, dx, _, _, rfl, hx, T.cl_Loose, T.na_Loose_many, rfl, ?_⟩
    refine ⟨by omega, slog h0 h1, e2, e2, ?_⟩
    rw [emp]
    exact q
theorem ok_tDuel (T : Txt K mg a) : FnOk P w K mg base CX0 1 a.x_Duel_text a.y_Duel_text ["self"] (spText a.c_Duel "many" "duel ") := by
  refine T.F_Duel_text.ok sc_Duel_text (fun vs H Q E h => ?_) (fun cdv A outer s H vs Q E hr h => ?_)
  · obtain ⟨x, dx, i, rfl, _⟩ := h; rfl
  · obtain ⟨x, dx, i, rfl, hx, h0, h1, q⟩ := h
    refine ⟨_, (pss_cons (ps_set (i := 1) sc_Duel_text.nd rfl (Or.inl rfl) (pe_fld (vr 0) rfl)) (pss_one (ps_ret (pe_fstr (pj_cons pe_str (pj_cons (pe_fmt (vr 1)) pj_nil)))))), ?_⟩
    have hl := slen h0 h1
    have sl : sizeLine = 16777216 := sizeLine_eq
    have e1 : ((Str.empty ++ ("duel " : Str) : Str)).length ≤ 8 := by decide +kernel
    have e2 : ((Str.empty ++ ("duel " : Str)) ++ ((toString i : String) : Str) : Str).length ≤ sizeLine := by rw [strLen_append]; omega
    refine ⟨x, _, dx, _, _, rfl, hx, T.cl_Duel, T.na_Duel_many, rfl, ?_⟩
    refine ⟨by omega, slog h0 h1, e2, e2, ?_⟩
    rw [emp]
    exact q
end
end My
set_option Elab.async false
set_option linter.all false
set_option maxRecDepth 100000
set_option maxHeartbeats 4000000
namespace My
open PySem L2 Pt
def Ws (H : Hp) (p : Addr) (ws : List Str) : Prop := H p = some (.lst (ws.map V.str)) ∧ ws.length ≤ 1000 ∧ ∀ w ∈ ws, w.length ≤ 640
theorem Ws.same {H H' : Hp} {p : Addr} {ws : List Str} (s : Same H H') (h : Ws H p ws) : Ws H' p ws := ⟨s _ _ h.1, h.2⟩
def cK (a : Ad) (k : Nat) : Addr := if k = 0 then a.c_Few else if k = 1 then a.c_Start else if k = 2 then a.c_Loose else a.c_Duel
def fK (k : Nat) : Str := if k = 1 then "step" else "many"
def IsPl (a : Ad) (H : Hp) : V → Pl → Prop
  | v, .cnt k i => ∃ x dx, v = .ref x ∧ H x = some (.ins (cK a k) dx [(fK k, .int i)])
  | v, .each p => ∃ x dx u, v = .ref x ∧ H x = some (.ins a.c_Each dx [("inside", u)]) ∧ IsPl a H u p
  | v, .fst p q => ∃ x dx u1 u2, v = .ref x ∧ H x = some (.ins a.c_First dx [("outside", u1), ("inside", u2)]) ∧ IsPl a H u1 p ∧ IsPl a H u2 q
theorem IsPl.same {a : Ad} {H H' : Hp} (s : Same H H') : ∀ {pl : Pl} {v : V}, IsPl a H v pl → IsPl a H' v pl
  | .cnt k i, v, ⟨x, dx, e, h⟩ => ⟨x, dx, e, s _ _ h⟩
  | .each p, v, ⟨x, dx, u, e, h, r⟩ => ⟨x, dx, u, e, s _ _ h, IsPl.same s r⟩
  | .fst p q, v, ⟨x, dx, u1, u2, e, h, r1, r2⟩ => ⟨x, dx, u1, u2, e, s _ _ h, IsPl.same s r1, IsPl.same s r2⟩
def Out (a : Ad) (s : Rs) (H : Hp) (Q : VK) (E : XK) : Prop := match s with
  | .bad q => Ref a q H E
  | .ok pl _ e => ∀ H' t v, Same H H' → H' t = some (.tup [v, .int (e : Nat)]) → IsPl a H' v pl → Q (.ref t) H'
def spWordAt (a : Ad) : Sp := fun vs H Q E => ∃ (p : Addr) (ws : List Str) (i : Nat), vs = [.ref p, .int i] ∧ Ws H p ws ∧ i ≤ ws.length ∧ (match ws.drop i with
  | [] => Ref a i H E
  | w :: _ => Q (.str w) H)
def spBehind (a : Ad) : Sp := fun vs H Q E => ∃ (p : Addr) (ws : List Str) (i : Nat) (x : Str), vs = [.ref p, .int i, .str x] ∧ Ws H p ws ∧ i ≤ ws.length ∧ (match ws.drop i with
  | [] => Ref a i H E
  | w :: _ => if w = x then Q (.int ((i + 1 : Nat) : Int)) H else Ref a i H E)
def spCPlan (a : Ad) : Sp := fun vs H Q E => ∃ (k : Nat) (o : Option Int), vs = [.str (nm k), oV o] ∧ k < 4 ∧ (match within (lo k) (hi k) o with
  | some i => ∀ H' v, Same H H' → IsPl a H' v (.cnt k i) → Q v H'
  | none => Ref a 0 H E)
def spCAt (a : Ad) : Sp := fun vs H Q E => ∃ (p : Addr) (ws : List Str) (i k : Nat) (r : List Str), vs = [.ref p, .int i] ∧ Ws H p ws ∧ ws.drop i = nm k :: r ∧ k < 4 ∧ (match Pt.cnt k r (i + 1) with
  | .bad q => Ref a q H E
  | .ok pl _ _ => ∀ H' v, Same H H' → IsPl a H' v pl → Q v H')
def spEachI (a : Ad) : Sp := fun vs H Q _ => ∃ (x dx : Addr) (v : V), vs = [.ref x, v] ∧ H x = some (.ins a.c_Each dx []) ∧ Q .non (upd H x (.ins a.c_Each dx [("inside", v)]))
def spFirstI (a : Ad) : Sp := fun vs H Q _ => ∃ (x dx : Addr) (v u : V), vs = [.ref x, v, u] ∧ H x = some (.ins a.c_First dx []) ∧ Q .non (upd H x (.ins a.c_First dx [("outside", v), ("inside", u)]))
section
variable {P : Program} {w : World} {K : PySem.W.Frag} {mg : Str → Option Value} {base : Heap} {a : Ad}
theorem raise_at {q : Int} {H0 H1 : Hp} {E : XK} (s : Same H0 H1) (r : Ref a q H0 E) : ∀ x, H1 x = none → spI1 a.c_NoPlan "place" [.ref x, .int q] (upd H1 x (.ext (XD0 x a.c_NoPlan)))
    (fun v H2 => v = .non ∧ ∃ y dct φ, V.ref x = .ref y ∧ H2 y = some (.ext φ) ∧ (∀ h, φ h → XU y a.c_NoPlan dct h) ∧ H0 y = none ∧ E (.ref a.c_NoPlan) dct (untr H2 y)) E0 := by
  intro x hx
  have hx0 : H0 x = none := by
    cases z : H0 x with
    | none => rfl
    | some u => have := s _ _ z; rw [hx] at this; cases this
  refine ⟨x, q, rfl, upd_same, fun dx hd hne => ⟨rfl, x, some dx, _, rfl, upd_same, fun h z => z, hx0, ?_⟩⟩
  have hd' : H1 dx = none := by rw [upd_ne hne] at hd; exact hd
  refine r _ dx (s.trans fun b o e => ?_) ?_
  · have b1 : b ≠ x := fun z => by rw [z, hx] at e; cases e
    have b2 : b ≠ dx := fun z => by rw [z, hd'] at e; cases e
    rw [untr_ne b1, upd_ne b1, upd_ne b2, upd_ne b1]
    exact e
  · rw [untr_ne hne, upd_ne hne]
    exact upd_same
theorem drop_at {ws r : List Str} {i : Nat} {w : Str} (h : ws.drop i = w :: r) : ws[i]? = some w ∧ ws.drop (i + 1) = r ∧ i < ws.length := by
  have h1 : ws[i]? = some w := by
    have := congrArg (fun l => l[0]?) h
    simpa using this
  refine ⟨h1, ?_, (List.getElem?_eq_some_iff.mp h1).1⟩
  have := congrArg List.tail h
  simpa using this
theorem drop_end {ws : List Str} {i : Nat} (h : ws.drop i = []) (hi : i ≤ ws.length) : i = ws.length := by
  have := List.drop_eq_nil_iff.mp h
  omega
theorem Ws.at {H : Hp} {p : Addr} {ws : List Str} {i : Nat} {w : Str} (h : ws[i]? = some w) : atI (ws.map V.str) (i : Int) = some (.str w) := atI_nat (by rw [List.getElem?_map, h]; rfl)
theorem ok_wordat (T : Txt K mg a) : FnOk P w K mg base (CXG P w) 3 a.f_word_at a.d_word_at ["words", "place"] (spWordAt a) := by
  have G_NoPlan : FnOk P w K mg base CX0 1 _ _ _ (spI1 a.c_NoPlan "place") := oi_NoPlan T
  refine T.F_word_at.okG sc_word_at (fun vs H Q E h => ?_) (fun cdv A outer s H vs Q E hr h => ?_)
  · obtain ⟨p, ws, i, rfl, _⟩ := h; rfl
  · obtain ⟨p, ws, i, rfl, hw, hi, h⟩ := h
    refine ⟨_, (pss_cons (ps_if (t_cmp o_eq (vr 1) (pe_callB call_lenM rfl T.z_len bt_len (pa_cons (vr 0) pa_nil)) (nomark _)) (pss_one (ps_raiseG T.xc_NoPlan T.xh_NoPlan (pe_mkX T.xi_NoPlan T.kc_NoPlan T.fn_NoPlan G_NoPlan hr rfl T.mc_NoPlan T.Bi_NoPlan (pa_cons (vr 1) pa_nil) len1))) pss_nil) (pss_one (ps_ret (pe_ix ix_seq (vr 0) (vr 1) (fun _ _ => rfl))))), ?_⟩
    refine ⟨ws.map V.str, .inl (SqL.of hw.1), ?_⟩
    rw [List.length_map]
    cases hd : ws.drop i with
    | nil =>
      rw [hd] at h
      have e := drop_end hd hi
      refine ifC (fun c => raise_at (Same.refl H) h) (fun c => absurd (by rw [e]) c)
    | cons u r =>
      rw [hd] at h
      obtain ⟨h1, h2, h3⟩ := drop_at hd
      refine ifC (fun c => ?_) (fun c => ?_)
      · have c' : (i : Int) = (ws.length : Int) := c
        omega
      · exact .inl ⟨p, _, i, .str u, rfl, rfl, SqL.of hw.1, Ws.at (H := H) (p := p) h1, h⟩
theorem ok_behind (T : Txt K mg a) : FnOk P w K mg base (CXG P w) 4 a.f_behind_word a.d_behind_word ["words", "place", "wanted"] (spBehind a) := by
  have G_NoPlan : FnOk P w K mg base CX0 2 _ _ _ (spI1 a.c_NoPlan "place") := (oi_NoPlan T).mono (by decide)
  have G_word_at : FnOk P w K mg base (CXG P w) 3 _ _ _ (spWordAt a) := ok_wordat T
  refine T.F_behind_word.okG sc_behind_word (fun vs H Q E h => ?_) (fun cdv A outer s H vs Q E hr h => ?_)
  · obtain ⟨p, ws, i, x, rfl, _⟩ := h; rfl
  · obtain ⟨p, ws, i, x, rfl, hw, hi, h⟩ := h
    refine ⟨_, (pss_cons (ps_if (t_cmp o_ne (pe_call G_word_at hr rfl T.m_word_at T.F_word_at.kp T.B_word_at .nil passG (pa_cons (vr 0) (pa_cons (vr 1) pa_nil))) (vr 2) (nomark _)) (pss_one (ps_raiseG T.xc_NoPlan T.xh_NoPlan (pe_mkX T.xi_NoPlan T.kc_NoPlan T.fn_NoPlan G_NoPlan hr rfl T.mc_NoPlan T.Bi_NoPlan (pa_cons (vr 1) pa_nil) len1))) pss_nil) (pss_one (ps_ret (pe_op o_add (vr 1) pe_int)))), ?_⟩
    refine ⟨p, ws, i, rfl, hw, hi, ?_⟩
    cases hd : ws.drop i with
    | nil => rw [hd] at h; exact h
    | cons u r =>
      rw [hd] at h
      refine ifB (fun c => ?_) (fun c => ?_)
      · have c' : u ≠ x := by simpa using c
        simp only [if_neg c'] at h
        exact raise_at (Same.refl H) h
      · have c' : u = x := by simpa using c
        simp only [if_pos c'] at h
        exact h
theorem inR_within {lo hi : Int} {o : Option Int} : inR lo hi o = (within lo hi o).isSome := by
  cases o with
  | none => rfl
  | some i =>
    show decide (lo ≤ i ∧ i ≤ hi) = (if lo ≤ i ∧ i ≤ hi then some i else none).isSome
    by_cases c : lo ≤ i ∧ i ≤ hi
    · rw [if_pos c, decide_eq_true c]; rfl
    · rw [if_neg c, decide_eq_false c]; rfl
theorem thing_oV {H : Hp} (o : Option Int) : Thing H (oV o) o := by
  cases o with
  | none => exact .non
  | some i => exact .int i
theorem ok_cplan (T : Txt K mg a) : FnOk P w K mg base (CXN P w) 6 a.f_counted_plan a.d_counted_plan ["word", "number"] (spCPlan a) := by
  have G_Few : FnOk P w K mg base (CXN P w) 4 _ _ _ (spInit a a.c_Few "many" 0 24) := oi_Few T
  have G_Start : FnOk P w K mg base (CXN P w) 4 _ _ _ (spInit a a.c_Start "step" 1 100) := oi_Start T
  have G_Loose : FnOk P w K mg base (CXN P w) 4 _ _ _ (spInit a a.c_Loose "many" 0 24) := oi_Loose T
  have G_Duel : FnOk P w K mg base (CXN P w) 4 _ _ _ (spInit a a.c_Duel "many" 0 24) := oi_Duel T
  refine T.F_counted_plan.okN' sc_counted_plan (fun vs H Q E h => ?_) (fun cdv A outer s H vs Q E hr h => ?_)
  · obtain ⟨k, o, rfl, _⟩ := h; rfl
  · obtain ⟨k, o, rfl, k4, h⟩ := h
    have fin : ∀ x dx, H x = none → H dx = none → dx ≠ x → spInit a (cK a k) (fK k) (lo k) (hi k) [.ref x, oV o] (upd (upd H dx (.own x)) x (.ins (cK a k) dx [])) (fun v H2 => v = .non ∧ Q (.ref x) H2) E := fun x dx hx hd hne => by
      refine ⟨x, dx, oV o, o, rfl, upd_same, thing_oV o, ?_⟩
      cases hw : within (lo k) (hi k) o with
      | none =>
        rw [hw] at h
        exact .inr ⟨by rw [inR_within, hw]; rfl, ref_same (made_same hx hd) h⟩
      | some i =>
        rw [hw] at h
        obtain ⟨rfl, _⟩ := within_of hw
        exact .inl ⟨by rw [inR_within, hw]; rfl, rfl, h _ _ (made_same2 hx hd) ⟨x, dx, rfl, upd_same⟩⟩
    refine ⟨_, (pss_cons (ps_if (t_cmp o_eq (vr 0) pe_str (nomark _)) (pss_one (ps_ret (pe_make T.mk_Few G_Few hr rfl T.mc_Few T.Bi_Few .nil passN (pa_cons (vr 1) pa_nil)))) pss_nil) (pss_cons (ps_if (t_cmp o_eq (vr 0) pe_str (nomark _)) (pss_one (ps_ret (pe_make T.mk_Start G_Start hr rfl T.mc_Start T.Bi_Start .nil passN (pa_cons (vr 1) pa_nil)))) pss_nil) (pss_cons (ps_if (t_cmp o_eq (vr 0) pe_str (nomark _)) (pss_one (ps_ret (pe_make T.mk_Loose G_Loose hr rfl T.mc_Loose T.Bi_Loose .nil passN (pa_cons (vr 1) pa_nil)))) pss_nil) (pss_one (ps_ret (pe_make T.mk_Duel G_Duel hr rfl T.mc_Duel T.Bi_Duel .nil passN (pa_cons (vr 1) pa_nil))))))), ?_⟩
    rcases (by omega : k = 0 ∨ k = 1 ∨ k = 2 ∨ k = 3) with rfl | rfl | rfl | rfl
    · exact fin
    · exact fin
    · exact fin
    · exact fin
theorem oi_Each (T : Txt K mg a) : FnOk P w K mg base CX0 1 a.i_Each a.e_Each ["self", "inside"] (spEachI a) := by
  refine T.Fi_Each.ok sc_Each___init__ (fun vs H Q E h => ?_) (fun cdv A outer s H vs Q E hr h => ?_)
  · obtain ⟨x, dx, v, rfl, _⟩ := h; rfl
  · obtain ⟨x, dx, v, rfl, hx, q⟩ := h
    refine ⟨_, (pss_one (ps_fld (vr 0) (vr 1) rfl)), ?_⟩
    exact ⟨x, _, dx, _, rfl, hx, T.cl_Each, T.na_Each_inside, by decide, q⟩
theorem oi_First (T : Txt K mg a) : FnOk P w K mg base CX0 1 a.i_First a.e_First ["self", "outside", "inside"] (spFirstI a) := by
  refine T.Fi_First.ok sc_First___init__ (fun vs H Q E h => ?_) (fun cdv A outer s H vs Q E hr h => ?_)
  · obtain ⟨x, dx, v, u, rfl, _⟩ := h; rfl
  · obtain ⟨x, dx, v, u, rfl, hx, q⟩ := h
    refine ⟨_, (pss_cons (ps_fld (vr 0) (vr 1) rfl) (pss_one (ps_fld (vr 0) (vr 2) rfl))), ?_⟩
    refine ⟨x, _, dx, _, rfl, hx, T.cl_First, T.na_First_outside, by decide, ?_⟩
    refine ⟨x, _, dx, _, rfl, upd_same, T.cl_First, T.na_First_inside, (show 1 < 1000 by decide), ?_⟩
    rw [upd_upd]
    exact q
theorem ok_cat (T : Txt K mg a) : FnOk P w K mg base (CXG P w) 7 a.f_counted_at a.d_counted_at ["words", "place"] (spCAt a) := by
  have G_number_of : FnOk P w K mg base CX0 6 _ _ _ spNumOf := (ok_numof T).mono (by decide)
  have G_word_at : FnOk P w K mg base (CXG P w) 6 _ _ _ (spWordAt a) := (ok_wordat T).mono (by decide)
  have G_counted_plan : FnOk P w K mg base (CXN P w) 6 _ _ _ (spCPlan a) := ok_cplan T
  have GH_NoPlan : FnOkH P w K mg base 5 _ _ _ (spI1 a.c_NoPlan "place") := oi_NoPlanH T 4
  refine T.F_counted_at.okG sc_counted_at (fun vs H Q E h => ?_) (fun cdv A outer s H vs Q E hr h => ?_)
  · obtain ⟨p, ws, i, k, r, rfl, _⟩ := h; rfl
  · obtain ⟨p, ws, i, k, r, rfl, hw, hd, k4, h⟩ := h
    obtain ⟨h1, h2, h3⟩ := drop_at hd
    refine ⟨_, (pss_cons (ps_set (i := 2) sc_counted_at.nd rfl (Or.inl rfl) (pe_call G_number_of hr rfl T.m_number_of T.F_number_of.kp T.B_number_of .nil pass0 (pa_cons (pe_call G_word_at hr rfl T.m_word_at T.F_word_at.kp T.B_word_at .nil passG (pa_cons (vr 0) (pa_cons (pe_op o_add (vr 1) pe_int) pa_nil))) (pa_cons pe_int (pa_cons (pe_gl rfl T.g_MOST_STEP) pa_nil))))) (pss_one (ps_tryR G_counted_plan hr rfl T.m_counted_plan T.F_counted_plan.kp T.B_counted_plan .nil (pa_cons (pe_ix ix_seq (vr 0) (vr 1) (fun _ _ => rfl)) (pa_cons (vr 2) pa_nil)) rfl T.mc_NoPlan T.xh_NoPlan T.xc_NoPlan T.xh_NoPlan (fun x => pe_mkXH T.xi_NoPlan T.kc_NoPlan T.fn_NoPlan GH_NoPlan (hr.h _) rfl T.mc_NoPlan T.Bi_NoPlan (pa_cons (pe_op o_add (vr 1) pe_int) pa_nil) len1)))), ?_⟩
    refine ⟨p, ws, i + 1, rfl, hw, by omega, ?_⟩
    rw [h2]
    cases r with
    | nil => exact h
    | cons u r1 =>
      have hu : u.length ≤ 640 := hw.2.2 u (List.mem_of_getElem? (drop_at h2).1)
      refine ⟨u, 0, 100, rfl, hu, fun H1 s1 => ?_⟩
      refine .inl ⟨p, _, i, .str (nm k), rfl, rfl, SqL.of (s1 _ _ hw.1), Ws.at (H := H) (p := p) h1, ?_⟩
      refine ⟨k, _, rfl, k4, ?_⟩
      have e : within (lo k) (hi k) (within 0 100 (NumM.numO u.cps.toList)) = numK k u := rfl
      rw [e]
      cases hn : numK k u with
      | some j =>
        simp only [Pt.cnt, hn] at h
        exact fun H' v s2 hv => h H' v (s1.trans s2) hv
      | none =>
        simp only [Pt.cnt, hn] at h
        intro H2 dx s2 hdx
        refine ⟨_, rfl, beq_iff_eq.mp T.tn, fun x hx y hy => ?_⟩
        have yx : y ≠ x := fun z => by rw [z, upd_same] at hy; cases hy
        have hy2 : H2 y = none := by rw [upd_ne yx] at hy; exact hy
        have hy0 : H y = none := by
          cases z : H y with
          | none => rfl
          | some u => have := s2 _ _ (s1 _ _ z); rw [hy2] at this; cases this
        refine ⟨y, ((i + 1 : Nat) : Int), rfl, upd_same, fun d hd' hne => ⟨rfl, y, some d, _, rfl, yx, upd_same, fun h z => z, ?_, hy0, ?_⟩⟩
        · have dx' : x ≠ d := fun z => by rw [← z, upd_ne yx.symm, upd_same] at hd'; cases hd'
          rw [upd_ne yx.symm, upd_ne dx', upd_ne yx.symm, upd_same]
        · have hd1 : upd H2 x (.ext (XCn x a.c_NoPlan (some dx))) d = none := by rw [upd_ne hne] at hd'; exact hd'
          refine h _ d (s1.trans (s2.trans fun b o e => ?_)) ?_
          · have b0 : b ≠ x := fun z => by rw [z, hx] at e; cases e
            have b1 : b ≠ y := fun z => by rw [z, hy2] at e; cases e
            have b2 : b ≠ d := fun z => by
              have b0' : d ≠ x := z ▸ b0
              rw [upd_ne b0', ← z, e] at hd1; cases hd1
            rw [untr_ne b1, upd_ne b1, upd_ne b2, upd_ne b1, upd_ne b0]
            exact e
          · rw [untr_ne hne, upd_ne hne]
            exact upd_same
end
end My
set_option Elab.async false
set_option linter.all false
set_option maxRecDepth 100000
set_option maxHeartbeats 4000000
namespace My
open PySem L2 Pt
def spPlanAt (a : Ad) (n : Nat) : Sp := fun vs H Q E => ∃ (p : Addr) (ws : List Str) (i : Nat) (d : Int), vs = [.ref p, .int i, .int d] ∧ d + n = 3 ∧ Ws H p ws ∧ i ≤ ws.length ∧ Out a (parse n (ws.drop i) i) H Q E
def spBrk (a : Ad) (n : Nat) : Sp := fun vs H Q E => ∃ (p : Addr) (ws : List Str) (i : Nat) (d : Int), vs = [.ref p, .int i, .int d] ∧ d + n = 3 ∧ Ws H p ws ∧ i ≤ ws.length ∧ Out a (brk (parse n) (ws.drop i) i) H Q E
def spEachAt (a : Ad) (n : Nat) : Sp := fun vs H Q E => ∃ (p : Addr) (ws : List Str) (i m : Nat) (d : Int), n = m + 1 ∧ vs = [.ref p, .int i, .int d] ∧ d + n = 3 ∧ Ws H p ws ∧ i + 1 ≤ ws.length ∧ Out a (eachR (parse m) (ws.drop (i + 1)) (i + 1)) H Q E
def spFirstAt (a : Ad) (n : Nat) : Sp := fun vs H Q E => ∃ (p : Addr) (ws : List Str) (i m : Nat) (d : Int), n = m + 1 ∧ vs = [.ref p, .int i, .int d] ∧ d + n = 3 ∧ Ws H p ws ∧ i + 1 ≤ ws.length ∧ Out a (fstR (parse m) (ws.drop (i + 1)) (i + 1)) H Q E
def spPlanOf (a : Ad) : Sp := fun vs H Q E => ∃ (v : V), vs = [v] ∧ (
  (∃ t ws, v = .str t ∧ t.length ≤ 100000 ∧ ws.map (fun t => t.cps.toList) = SplM.splitC 32 t.cps.toList ∧ ws.length ≤ 1000 ∧ (∀ w ∈ ws, w.length ≤ 640) ∧ (match parse 3 ws 0 with
    | .bad q => Ref a q H E
    | .ok pl r e => if r = [] then ∀ H' v, Same H H' → IsPl a H' v pl → Q v H' else Ref a e H E)) ∨
  ((∀ t, v ≠ .str t) ∧ (∃ o, Thing H v o) ∧ Ref a 0 H E))
theorem kind_in (u : Str) : decide (u ∈ ([("few" : Str), "start", "loose", "duel"] : List Str)) = (kind u).isSome := by
  by_cases c1 : u = "few"
  · subst c1; decide +kernel
  by_cases c2 : u = "start"
  · subst c2; decide +kernel
  by_cases c3 : u = "loose"
  · subst c3; decide +kernel
  by_cases c4 : u = "duel"
  · subst c4; decide +kernel
  unfold kind
  rw [if_neg c1, if_neg c2, if_neg c3, if_neg c4]
  refine decide_eq_false fun z => ?_
  rcases List.mem_cons.mp z with z | z
  · exact c1 z
  rcases List.mem_cons.mp z with z | z
  · exact c2 z
  rcases List.mem_cons.mp z with z | z
  · exact c3 z
  exact c4 (List.mem_singleton.mp z)
theorem cnt_e {k : Nat} {r r' : List Str} {p e : Nat} {pl : Pl} (h : Pt.cnt k r p = .ok pl r' e) : e = p + 1 := by
  cases r with
  | nil => cases h
  | cons u r1 =>
    cases hn : numK k u with
    | none => simp only [Pt.cnt, hn] at h; cases h
    | some i => simp only [Pt.cnt, hn] at h; cases h; rfl
theorem parse_at {n : Nat} {ws r : List Str} {i e : Nat} {pl : Pl} (h : parse n (ws.drop i) i = .ok pl r e) (hi : i ≤ ws.length) : ws.drop e = r ∧ e ≤ ws.length := by
  obtain ⟨h1, h2, _⟩ := parse_ok h
  have h3 := congrArg List.length h1
  rw [List.length_drop, List.length_append] at h3
  refine ⟨?_, by omega⟩
  rw [h2, ← List.drop_drop, h1, List.drop_left]
theorem brk_at {n : Nat} {ws r : List Str} {i e : Nat} {pl : Pl} (h : brk (parse n) (ws.drop i) i = .ok pl r e) (hi : i ≤ ws.length) : ws.drop e = r ∧ e ≤ ws.length := by
  have g := brk_rd (parse_rd n) (ws.drop i) i
  rw [h] at g
  obtain ⟨us, h1, h2, _⟩ := g
  have h3 := congrArg List.length h1
  rw [List.length_drop, List.length_append] at h3
  refine ⟨?_, by omega⟩
  rw [h2, ← List.drop_drop, h1, List.drop_left]
section
variable {P : Program} {w : World} {K : PySem.W.Frag} {mg : Str → Option Value} {base : Heap} {a : Ad}
theorem ok_brk (T : Txt K mg a) (n : Nat) (G_plan_at : FnOk P w K mg base (CXG P w) (3 * n + 10) a.f_plan_at a.d_plan_at ["words", "place", "around"] (spPlanAt a n)) : FnOk P w K mg base (CXG P w) (3 * n + 11) a.f_bracketed_at a.d_bracketed_at ["words", "place", "around"] (spBrk a n) := by
  have G_behind_word : FnOk P w K mg base (CXG P w) (3 * n + 10) _ _ _ (spBehind a) := (ok_behind T).mono (by omega)
  refine T.F_bracketed_at.okG sc_bracketed_at (fun vs H Q E h => ?_) (fun cdv A outer s H vs Q E hr h => ?_)
  · obtain ⟨p, ws, i, d, rfl, _⟩ := h; rfl
  · obtain ⟨p, ws, i, d, rfl, hd, hw, hi, h⟩ := h
    refine ⟨_, (pss_cons (ps_asg (pe_call G_plan_at hr rfl T.m_plan_at T.F_plan_at.kp T.B_plan_at .nil passG (pa_cons (vr 0) (pa_cons (pe_call G_behind_word hr rfl T.m_behind_word T.F_behind_word.kp T.B_behind_word .nil passG (pa_cons (vr 0) (pa_cons (vr 1) (pa_cons pe_str pa_nil)))) (pa_cons (vr 2) pa_nil)))) (pg_tup rfl (pgs_cons (pg_name (i := 3) sc_bracketed_at.nd rfl (Or.inl rfl)) (pgs_cons (pg_name (i := 4) sc_bracketed_at.nd rfl (Or.inl rfl)) pgs_nil)))) (pss_one (ps_ret (pe_tup (pa_cons (vr 3) (pa_cons (pe_call G_behind_word hr rfl T.m_behind_word T.F_behind_word.kp T.B_behind_word .nil passG (pa_cons (vr 0) (pa_cons (vr 4) (pa_cons pe_str pa_nil)))) pa_nil)))))), ?_⟩
    refine ⟨p, ws, i, "(", rfl, hw, hi, ?_⟩
    unfold brk eat at h
    cases hr1 : ws.drop i with
    | nil => rw [hr1] at h; exact h
    | cons u r1 =>
      rw [hr1] at h
      obtain ⟨z1, z2, z3⟩ := drop_at hr1
      show if u = "(" then _ else _
      by_cases c : u = "("
      · simp only [if_pos c] at h
        rw [if_pos c]
        refine ⟨p, ws, i + 1, d, rfl, hd, hw, by omega, ?_⟩
        rw [z2]
        cases hp : parse n r1 (i + 1) with
        | bad q => rw [hp] at h; exact h
        | ok pl r2 e =>
          rw [hp] at h
          intro H1 t v s1 ht hv
          obtain ⟨y1, y2⟩ := parse_at (ws := ws) (i := i + 1) (by rw [z2]; exact hp) (by omega)
          refine ⟨t, _, rfl, SqT.of ht, rfl, ?_⟩
          refine ⟨_, _, rfl, ?_⟩
          refine ⟨_, _, rfl, ?_⟩
          refine ⟨rfl, ?_⟩
          refine ⟨p, ws, e, ")", rfl, hw.same s1, y2, ?_⟩
          rw [y1]
          have h : Out a (eat ")" r2 e fun r3 p3 => .ok pl r3 p3) H Q E := h
          cases r2 with
          | nil => exact ref_same s1 h
          | cons u2 r3 =>
            unfold eat at h
            show if u2 = ")" then _ else _
            by_cases c2 : u2 = ")"
            · simp only [if_pos c2] at h
              rw [if_pos c2]
              refine ⟨(by decide : 2 ≤ sizeLine), fun t2 ht2 => ?_⟩
              exact h _ t2 v (s1.trans (Same.new ht2)) upd_same (hv.same (Same.new ht2))
            · simp only [if_neg c2] at h
              rw [if_neg c2]
              exact ref_same s1 h
      · simp only [if_neg c] at h
        rw [if_neg c]
        exact h
theorem ok_each (T : Txt K mg a) (m : Nat) (G_bracketed_at : FnOk P w K mg base (CXG P w) (3 * m + 11) a.f_bracketed_at a.d_bracketed_at ["words", "place", "around"] (spBrk a m)) : FnOk P w K mg base (CXG P w) (3 * m + 12) a.f_each_at a.d_each_at ["words", "place", "around"] (spEachAt a (m + 1)) := by
  have G_Each : FnOk P w K mg base CX0 (3 * m + 10) _ _ _ (spEachI a) := (oi_Each T).mono (by omega)
  refine T.F_each_at.okG sc_each_at (fun vs H Q E h => ?_) (fun cdv A outer s H vs Q E hr h => ?_)
  · obtain ⟨p, ws, i, m', d, _, rfl, _⟩ := h; rfl
  · obtain ⟨p, ws, i, m', d, em, rfl, hd, hw, hi, h⟩ := h
    obtain rfl : m = m' := by omega
    refine ⟨_, (pss_cons (ps_asg (pe_call G_bracketed_at hr rfl T.m_bracketed_at T.F_bracketed_at.kp T.B_bracketed_at .nil passG (pa_cons (vr 0) (pa_cons (pe_op o_add (vr 1) pe_int) (pa_cons (pe_op o_add (vr 2) pe_int) pa_nil)))) (pg_tup rfl (pgs_cons (pg_name (i := 3) sc_each_at.nd rfl (Or.inl rfl)) (pgs_cons (pg_name (i := 4) sc_each_at.nd rfl (Or.inl rfl)) pgs_nil)))) (pss_one (ps_ret (pe_tup (pa_cons (pe_make T.mk_Each G_Each hr rfl T.mc_Each T.Bi_Each .nil pass0 (pa_cons (vr 3) pa_nil)) (pa_cons (vr 4) pa_nil)))))), ?_⟩
    refine ⟨p, ws, i + 1, d + 1, rfl, by omega, hw, hi, ?_⟩
    unfold eachR at h
    cases hp : brk (parse m) (ws.drop (i + 1)) (i + 1) with
    | bad q => rw [hp] at h; exact h
    | ok pl r e =>
      rw [hp] at h
      intro H1 t v s1 ht hv
      refine ⟨t, _, rfl, SqT.of ht, rfl, ?_⟩
      refine ⟨_, _, rfl, ?_⟩
      refine ⟨_, _, rfl, ?_⟩
      refine ⟨rfl, ?_⟩
      refine fun x dx hx hdx hne => ⟨x, dx, v, rfl, upd_same, rfl, ?_⟩
      refine ⟨(by decide : 2 ≤ sizeLine), fun t2 ht2 => ?_⟩
      have s2 := made_same2 (C := a.c_Each) (fs := [("inside", v)]) hx hdx
      have s3 := s2.trans (Same.new (o := .tup [.ref x, .int e]) ht2)
      exact h _ t2 (.ref x) (s1.trans s3) upd_same ⟨x, dx, v, rfl, Same.new ht2 _ _ upd_same, hv.same s3⟩
theorem ok_first (T : Txt K mg a) (m : Nat) (G_bracketed_at : FnOk P w K mg base (CXG P w) (3 * m + 11) a.f_bracketed_at a.d_bracketed_at ["words", "place", "around"] (spBrk a m)) : FnOk P w K mg base (CXG P w) (3 * m + 12) a.f_first_at a.d_first_at ["words", "place", "around"] (spFirstAt a (m + 1)) := by
  have G_First : FnOk P w K mg base CX0 (3 * m + 10) _ _ _ (spFirstI a) := (oi_First T).mono (by omega)
  have G_behind_word : FnOk P w K mg base (CXG P w) (3 * m + 11) _ _ _ (spBehind a) := (ok_behind T).mono (by omega)
  refine T.F_first_at.okG sc_first_at (fun vs H Q E h => ?_) (fun cdv A outer s H vs Q E hr h => ?_)
  · obtain ⟨p, ws, i, m', d, _, rfl, _⟩ := h; rfl
  · obtain ⟨p, ws, i, m', d, em, rfl, hd, hw, hi, h⟩ := h
    obtain rfl : m = m' := by omega
    refine ⟨_, (pss_cons (ps_asg (pe_call G_bracketed_at hr rfl T.m_bracketed_at T.F_bracketed_at.kp T.B_bracketed_at .nil passG (pa_cons (vr 0) (pa_cons (pe_op o_add (vr 1) pe_int) (pa_cons (pe_op o_add (vr 2) pe_int) pa_nil)))) (pg_tup rfl (pgs_cons (pg_name (i := 3) sc_first_at.nd rfl (Or.inl rfl)) (pgs_cons (pg_name (i := 4) sc_first_at.nd rfl (Or.inl rfl)) pgs_nil)))) (pss_cons (ps_asg (pe_call G_bracketed_at hr rfl T.m_bracketed_at T.F_bracketed_at.kp T.B_bracketed_at .nil passG (pa_cons (vr 0) (pa_cons (pe_call G_behind_word hr rfl T.m_behind_word T.F_behind_word.kp T.B_behind_word .nil passG (pa_cons (vr 0) (pa_cons (vr 4) (pa_cons pe_str pa_nil)))) (pa_cons (pe_op o_add (vr 2) pe_int) pa_nil)))) (pg_tup rfl (pgs_cons (pg_name (i := 5) sc_first_at.nd rfl (Or.inl rfl)) (pgs_cons (pg_name (i := 4) sc_first_at.nd rfl (Or.inl rfl)) pgs_nil)))) (pss_one (ps_ret (pe_tup (pa_cons (pe_make T.mk_First G_First hr rfl T.mc_First T.Bi_First .nil pass0 (pa_cons (vr 3) (pa_cons (vr 5) pa_nil))) (pa_cons (vr 4) pa_nil))))))), ?_⟩
    refine ⟨p, ws, i + 1, d + 1, rfl, by omega, hw, hi, ?_⟩
    unfold fstR at h
    cases hp : brk (parse m) (ws.drop (i + 1)) (i + 1) with
    | bad q => rw [hp] at h; exact h
    | ok pl r e =>
      rw [hp] at h
      intro H1 t v s1 ht hv
      obtain ⟨y1, y2⟩ := brk_at hp hi
      refine ⟨t, _, rfl, SqT.of ht, rfl, ?_⟩
      refine ⟨_, _, rfl, ?_⟩
      refine ⟨_, _, rfl, ?_⟩
      refine ⟨rfl, ?_⟩
      refine ⟨p, ws, e, "then", rfl, hw.same s1, y2, ?_⟩
      have h : Out a (eat "then" r e fun r3 p3 => (brk (parse m) r3 p3).on fun pl2 r4 p4 => .ok (.fst pl pl2) r4 p4) H Q E := h
      rw [y1]
      cases r with
      | nil => exact ref_same s1 h
      | cons u r3 =>
        obtain ⟨z1, z2, z3⟩ := drop_at y1
        unfold eat at h
        show if u = "then" then _ else _
        by_cases c : u = "then"
        · simp only [if_pos c] at h
          rw [if_pos c]
          refine ⟨p, ws, e + 1, d + 1, rfl, by omega, hw.same s1, by omega, ?_⟩
          rw [z2]
          cases hp2 : brk (parse m) r3 (e + 1) with
          | bad q => rw [hp2] at h; exact ref_same s1 h
          | ok pl2 r4 e4 =>
            rw [hp2] at h
            intro H2 t2 v2 s2 ht2 hv2
            refine ⟨t2, _, rfl, SqT.of ht2, rfl, ?_⟩
            refine ⟨_, _, rfl, ?_⟩
            refine ⟨_, _, rfl, ?_⟩
            refine ⟨rfl, ?_⟩
            refine fun x dx hx hdx hne => ⟨x, dx, v, v2, rfl, upd_same, rfl, ?_⟩
            refine ⟨(by decide : 2 ≤ sizeLine), fun t3 ht3 => ?_⟩
            have s3 := made_same2 (C := a.c_First) (fs := [("outside", v), ("inside", v2)]) hx hdx
            have s4 := s3.trans (Same.new (o := .tup [.ref x, .int e4]) ht3)
            exact h _ t3 (.ref x) (s1.trans (s2.trans s4)) upd_same ⟨x, dx, v, v2, rfl, Same.new ht3 _ _ upd_same, hv.same (s2.trans s4), hv2.same s4⟩
        · simp only [if_neg c] at h
          rw [if_neg c]
          exact ref_same s1 h
theorem ok_each0 (T : Txt K mg a) (k : Nat) : FnOk P w K mg base (CXG P w) (k + 1) a.f_each_at a.d_each_at ["words", "place", "around"] (spEachAt a 0) := by
  refine T.F_each_at.okG sc_each_at (fun vs H Q E h => ?_) (fun cdv A outer s H vs Q E hr h => ?_)
  · obtain ⟨p, ws, i, m', d, _, rfl, _⟩ := h; rfl
  · obtain ⟨p, ws, i, m', d, em, _⟩ := h; cases em
theorem ok_first0 (T : Txt K mg a) (k : Nat) : FnOk P w K mg base (CXG P w) (k + 1) a.f_first_at a.d_first_at ["words", "place", "around"] (spFirstAt a 0) := by
  refine T.F_first_at.okG sc_first_at (fun vs H Q E h => ?_) (fun cdv A outer s H vs Q E hr h => ?_)
  · obtain ⟨p, ws, i, m', d, _, rfl, _⟩ := h; rfl
  · obtain ⟨p, ws, i, m', d, em, _⟩ := h; cases em
theorem ok_plan1 (T : Txt K mg a) (n : Nat) (G_each_at : FnOk P w K mg base (CXG P w) (3 * n + 9) a.f_each_at a.d_each_at ["words", "place", "around"] (spEachAt a n)) (G_first_at : FnOk P w K mg base (CXG P w) (3 * n + 9) a.f_first_at a.d_first_at ["words", "place", "around"] (spFirstAt a n)) :
    FnOk P w K mg base (CXG P w) (3 * n + 10) a.f_plan_at a.d_plan_at ["words", "place", "around"] (spPlanAt a n) := by
  have G_NoPlan : FnOk P w K mg base CX0 (3 * n + 8) _ _ _ (spI1 a.c_NoPlan "place") := (oi_NoPlan T).mono (by omega)
  have G_word_at : FnOk P w K mg base (CXG P w) (3 * n + 9) _ _ _ (spWordAt a) := (ok_wordat T).mono (by omega)
  have G_counted_at : FnOk P w K mg base (CXG P w) (3 * n + 9) _ _ _ (spCAt a) := (ok_cat T).mono (by omega)
  refine T.F_plan_at.okG sc_plan_at (fun vs H Q E h => ?_) (fun cdv A outer s H vs Q E hr h => ?_)
  · obtain ⟨p, ws, i, d, rfl, _⟩ := h; rfl
  · obtain ⟨p, ws, i, d, rfl, hd, hw, hi, h⟩ := h
    refine ⟨_, (pss_cons (ps_set (i := 3) sc_plan_at.nd rfl (Or.inl rfl) (pe_call G_word_at hr rfl T.m_word_at T.F_word_at.kp T.B_word_at .nil passG (pa_cons (vr 0) (pa_cons (vr 1) pa_nil)))) (pss_cons (ps_if (t_cmp op_in_seq (vr 3) (pe_gl rfl T.g_COUNTED) (by with_unfolding_all rfl)) (pss_one (ps_ret (pe_tup (pa_cons (pe_call G_counted_at hr rfl T.m_counted_at T.F_counted_at.kp T.B_counted_at .nil passG (pa_cons (vr 0) (pa_cons (vr 1) pa_nil))) (pa_cons (pe_op o_add (vr 1) pe_int) pa_nil))))) pss_nil) (pss_cons (ps_if (PW.pt (pw_and (t_cmp o_eq (vr 3) pe_str (nomark _)) (pw_and1 (t_cmp o_lt (vr 2) (pe_gl rfl T.g_MOST_AROUND) (nomark _))))) (pss_one (ps_ret (pe_call G_each_at hr rfl T.m_each_at T.F_each_at.kp T.B_each_at .nil passG (pa_cons (vr 0) (pa_cons (vr 1) (pa_cons (vr 2) pa_nil)))))) pss_nil) (pss_cons (ps_if (PW.pt (pw_and (t_cmp o_eq (vr 3) pe_str (nomark _)) (pw_and1 (t_cmp o_lt (vr 2) (pe_gl rfl T.g_MOST_AROUND) (nomark _))))) (pss_one (ps_ret (pe_call G_first_at hr rfl T.m_first_at T.F_first_at.kp T.B_first_at .nil passG (pa_cons (vr 0) (pa_cons (vr 1) (pa_cons (vr 2) pa_nil)))))) pss_nil) (pss_one (ps_raiseG T.xc_NoPlan T.xh_NoPlan (pe_mkX T.xi_NoPlan T.kc_NoPlan T.fn_NoPlan G_NoPlan hr rfl T.mc_NoPlan T.Bi_NoPlan (pa_cons (vr 1) pa_nil) len1))))))), ?_⟩
    refine ⟨p, ws, i, rfl, hw, hi, ?_⟩
    cases hr1 : ws.drop i with
    | nil => rw [hr1] at h; cases n <;> exact h
    | cons u r =>
      rw [hr1] at h
      obtain ⟨z1, z2, z3⟩ := drop_at hr1
      refine ⟨_, _, rfl, .inr (tupS_in T.t_COUNTED), rfl, by decide +kernel, ?_⟩
      have ein : inV (.str u) [.str "few", .str "start", .str "loose", .str "duel"] = (kind u).isSome := (inV_strs u ["few", "start", "loose", "duel"]).trans (kind_in u)
      show if inV (.str u) [.str "few", .str "start", .str "loose", .str "duel"] = true then _ else _
      rw [ein]
      cases hk : kind u with
      | some k =>
        obtain ⟨k4, rfl⟩ := kind_lt hk
        have h : Out a (Pt.cnt k r (i + 1)) H Q E := by
          rw [← stp_k (f := match n with | 0 => none | m + 1 => some (parse m)) hk]
          cases n <;> exact h
        refine iteT ⟨p, ws, i, k, r, rfl, hw, hr1, k4, ?_⟩
        cases hc : Pt.cnt k r (i + 1) with
        | bad q => rw [hc] at h; exact h
        | ok pl r' e =>
          rw [hc] at h
          have ee := cnt_e hc
          intro H1 v s1 hv
          refine ⟨(by decide : 2 ≤ sizeLine), fun t ht => ?_⟩
          refine h _ t v (s1.trans (Same.new ht)) ?_ (hv.same (Same.new ht))
          rw [upd_same, ee]
          rfl
      | none =>
        refine iteF ?_
        cases n with
        | zero =>
          have h : Ref a i H E := by
            have z : parse 0 (u :: r) i = .bad i := stp_0 hk
            rw [z] at h; exact h
          have hn : ¬ d < 3 := by omega
          have raise := raise_at (Same.refl H) h
          have two : ∀ G : Prop, G → G := fun _ g => g
          refine ifB (fun c => ifC (fun c2 => absurd c2 hn) (fun _ => ?_)) (fun c => iteF ?_)
          · exact ifB (fun c => ifC (fun c2 => absurd c2 hn) (fun _ => raise)) (fun c => iteF raise)
          · exact ifB (fun c => ifC (fun c2 => absurd c2 hn) (fun _ => raise)) (fun c => iteF raise)
        | succ m =>
          have h : Out a (if u = "each" then eachR (parse m) r (i + 1) else if u = "first" then fstR (parse m) r (i + 1) else .bad i) H Q E := by
            have z : parse (m + 1) (u :: r) i = _ := stp_f hk
            rw [z] at h; exact h
          have hn : d < 3 := by omega
          by_cases c1 : u = "each"
          · rw [if_pos c1] at h
            refine ifB (fun c => ifC (fun c2 => ?_) (fun c2 => absurd hn c2)) (fun c => absurd c1 (by simpa using c))
            refine ⟨p, ws, i, m, d, rfl, rfl, hd, hw, by omega, ?_⟩
            rw [z2]
            exact h
          · rw [if_neg c1] at h
            refine ifB (fun c => absurd (by simpa using c) c1) (fun c => iteF ?_)
            by_cases c2 : u = "first"
            · rw [if_pos c2] at h
              refine ifB (fun c => ifC (fun c2 => ?_) (fun c2 => absurd hn c2)) (fun c => absurd c2 (by simpa using c))
              refine ⟨p, ws, i, m, d, rfl, rfl, hd, hw, by omega, ?_⟩
              rw [z2]
              exact h
            · rw [if_neg c2] at h
              exact ifB (fun c => absurd (by simpa using c) c2) (fun c => iteF (raise_at (Same.refl H) h))
theorem ok_plan (T : Txt K mg a) : ∀ n : Nat, FnOk P w K mg base (CXG P w) (3 * n + 10) a.f_plan_at a.d_plan_at ["words", "place", "around"] (spPlanAt a n)
  | 0 => ok_plan1 T 0 (ok_each0 T _) (ok_first0 T _)
  | n + 1 => ok_plan1 T (n + 1) (ok_each T n (ok_brk T n (ok_plan T n))) (ok_first T n (ok_brk T n (ok_plan T n)))
theorem ok_planof (T : Txt K mg a) : FnOk P w K mg base (CXG P w) 20 a.f_plan_of a.d_plan_of ["text"] (spPlanOf a) := by
  have G_NoPlan : FnOk P w K mg base CX0 18 _ _ _ (spI1 a.c_NoPlan "place") := (oi_NoPlan T).mono (by decide)
  have G_plan_at : FnOk P w K mg base (CXG P w) 19 _ _ _ (spPlanAt a 3) := ok_plan T 3
  refine T.F_plan_of.okG sc_plan_of (fun vs H Q E h => ?_) (fun cdv A outer s H vs Q E hr h => ?_)
  · obtain ⟨v, rfl, _⟩ := h; rfl
  · obtain ⟨v, rfl, h⟩ := h
    refine ⟨_, (pss_cons (ps_if (pt_not (t_val (pe_callB call_isi rfl T.z_isinstance bt_isinstance (pa_cons (vr 0) (pa_cons (pe_bltn (v := .ty "str") rfl T.z_str bt_str rfl) pa_nil))))) (pss_one (ps_raiseG T.xc_NoPlan T.xh_NoPlan (pe_mkX T.xi_NoPlan T.kc_NoPlan T.fn_NoPlan G_NoPlan hr rfl T.mc_NoPlan T.Bi_NoPlan (pa_cons pe_int pa_nil) len1))) pss_nil) (pss_cons (ps_set (i := 1) sc_plan_of.nd rfl (Or.inl rfl) (pe_m.split (vr 0) (pa_cons pe_str pa_nil))) (pss_cons (ps_asg (pe_call G_plan_at hr rfl T.m_plan_at T.F_plan_at.kp T.B_plan_at .nil passG (pa_cons (vr 1) (pa_cons pe_int (pa_cons pe_int pa_nil)))) (pg_tup rfl (pgs_cons (pg_name (i := 2) sc_plan_of.nd rfl (Or.inl rfl)) (pgs_cons (pg_name (i := 3) sc_plan_of.nd rfl (Or.inl rfl)) pgs_nil)))) (pss_cons (ps_if (t_cmp o_lt (vr 3) (pe_callB call_lenM rfl T.z_len bt_len (pa_cons (vr 1) pa_nil)) (nomark _)) (pss_one (ps_raiseG T.xc_NoPlan T.xh_NoPlan (pe_mkX T.xi_NoPlan T.kc_NoPlan T.fn_NoPlan G_NoPlan hr rfl T.mc_NoPlan T.Bi_NoPlan (pa_cons (vr 3) pa_nil) len1))) pss_nil) (pss_one (ps_ret (vr 2))))))), ?_⟩
    rcases h with ⟨t, ws, rfl, ht, hws, hl, hm, h⟩ | ⟨hn, ⟨o, th⟩, h⟩
    · have sl : sizeLine = 16777216 := sizeLine_eq
      refine ⟨_, _, _, true, rfl, rfl, .str t, rfl, ?_⟩
      refine ⟨rfl, t, 32, rfl, by rw [blank_code], by show t.length + 2 ≤ _; omega, fun l ts hl0 hts => ?_⟩
      obtain rfl : ts = ws := strs_inj (hts.trans hws.symm)
      have s1 := Same.new (o := .lst (ts.map V.str)) hl0
      refine ⟨l, ts, 0, 0, rfl, rfl, ⟨upd_same, hl, hm⟩, Nat.zero_le _, ?_⟩
      show Out a (parse 3 ts 0) _ _ _
      cases hp : parse 3 ts 0 with
      | bad q => rw [hp] at h; exact ref_same s1 h
      | ok pl r e =>
        rw [hp] at h
        intro H2 t2 v s2 ht2 hv
        obtain ⟨y1, y2⟩ := parse_at (ws := ts) (i := 0) hp (Nat.zero_le _)
        refine ⟨t2, _, rfl, SqT.of ht2, rfl, ?_⟩
        refine ⟨_, _, rfl, ?_⟩
        refine ⟨_, _, rfl, ?_⟩
        refine ⟨rfl, ?_⟩
        refine ⟨ts.map V.str, .inl (SqL.of (s2 _ _ upd_same)), ?_⟩
        rw [List.length_map]
        by_cases c : r = []
        · simp only [if_pos c] at h
          refine ifC (fun c2 => ?_) (fun _ => h _ _ (s1.trans s2) hv)
          have c2' : (e : Int) < (ts.length : Int) := c2
          rw [c, List.drop_eq_nil_iff] at y1
          omega
        · simp only [if_neg c] at h
          refine ifC (fun _ => raise_at (s1.trans s2) h) (fun c2 => ?_)
          have c2' : ¬ (e : Int) < (ts.length : Int) := c2
          exact absurd (y1.symm.trans (List.drop_eq_nil_iff.mpr (by omega))) c
    · have no : ∀ b : Bool, b = false → True := fun _ _ => trivial
      cases th with
      | int i => exact ⟨_, _, _, false, rfl, rfl, .int i, rfl, raise_at (Same.refl H) h⟩
      | bl b => exact ⟨_, _, _, false, rfl, rfl, .bl b, rfl, raise_at (Same.refl H) h⟩
      | non => exact ⟨_, _, _, false, rfl, rfl, .non, rfl, raise_at (Same.refl H) h⟩
      | str t => exact absurd rfl (hn t)
      | lst p xs e => exact ⟨_, _, _, false, rfl, rfl, .lst e, rfl, raise_at (Same.refl H) h⟩
      | tup p xs e => exact ⟨_, _, _, false, rfl, rfl, .tup e, rfl, raise_at (Same.refl H) h⟩
      | dK p kvs e => exact ⟨_, _, _, false, rfl, rfl, .dK e, rfl, raise_at (Same.refl H) h⟩
end
end My
set_option Elab.async false
set_option linter.all false
set_option maxRecDepth 100000
set_option maxHeartbeats 4000000
namespace My
open PySem L2 Pt
inductive Wk
  | s (t : Str)
  | p (pl : Pl)
def wtext : Wk → Str
  | .s t => t
  | .p pl => text pl
def wsz : Wk → Nat
  | .s _ => 1
  | .p pl => sz pl
def WkOk (a : Ad) (H : Hp) : Wk → V → Prop
  | .s t, v => v = .str t ∧ t.length ≤ 30
  | .p pl, v => IsPl a H v pl ∧ ∃ n, Good n pl
inductive Stk (a : Ad) (H : Hp) : List Wk → List V → Prop
  | nil : Stk a H [] []
  | cons {k : Wk} {v : V} {L : List Wk} {vs : List V} (h : WkOk a H k v) (r : Stk a H L vs) : Stk a H (k :: L) (vs ++ [v])
theorem Stk.len {a : Ad} {H : Hp} {L : List Wk} {vs : List V} (h : Stk a H L vs) : L.length = vs.length := by
  induction h with
  | nil => rfl
  | cons h r ih => rw [List.length_cons, List.length_append, ih]; rfl
def flat (ts : List Str) : List Nat := (ts.map fun t => t.cps.toList).flatten
theorem flat_app (x y : List Str) : flat (x ++ y) = flat x ++ flat y := by unfold flat; rw [List.map_append, List.flatten_append]
theorem flat_one (x : Str) : flat [x] = x.cps.toList := by simp [flat]
theorem join0 : ∀ ts : List Str, (Str.join "" ts).cps.toList = flat ts
  | [] => by decide +kernel
  | [t] => by rw [flat_one]; rfl
  | t :: u :: r => by
    have ih := join0 (u :: r)
    show (t ++ ("" : Str) ++ Str.join "" (u :: r)).cps.toList = _
    rw [Str.cps_append, Str.cps_append, Array.toList_append, Array.toList_append, ih]
    show t.cps.toList ++ ("" : Str).cps.toList ++ flat (u :: r) = _
    rw [show ("" : Str).cps.toList = [] from by decide +kernel, List.append_nil]
    rfl
theorem join0_codes (ts : List Str) : (Txt.join "" ts).cps.toList = flat ts := by
  show (Builtin.Str.glued "" ts).cps.toList = _
  rw [PySem.StrLaws.glued_eq_join]
  exact join0 ts
def rest (L : List Wk) : List Nat := flat (L.map wtext)
def size (L : List Wk) : Nat := (L.map wsz).sum
theorem sum_le : ∀ (ts : List Str), (∀ t ∈ ts, t.length ≤ 30) → (ts.map (·.length)).sum ≤ 30 * ts.length
  | [], _ => Nat.le_refl _
  | t :: r, h => by
    have := sum_le r fun x hx => h x (List.mem_cons_of_mem _ hx)
    have := h t List.mem_cons_self
    simp only [List.map_cons, List.sum_cons, List.length_cons]
    omega
def spTextOf (a : Ad) : Sp := fun vs H Q _ => ∃ (v : V) (pl : Pl) (n : Nat), vs = [v] ∧ IsPl a H v pl ∧ Good n pl ∧ sz pl ≤ 1000 ∧ ∀ H', Same H H' → Q (.str (text pl)) H'
def spTextM (a : Ad) (C : Addr) : Sp := fun vs H Q _ => ∃ (x dx : Addr) (fs : List (Str × V)) (pl : Pl) (n : Nat), vs = [.ref x] ∧ H x = some (.ins C dx fs) ∧ IsPl a H (.ref x) pl ∧ Good n pl ∧ sz pl ≤ 1000 ∧ ∀ H', Same H H' → Q (.str (text pl)) H'
section
variable {P : Program} {w : World} {K : PySem.W.Frag} {mg : Str → Option Value} {base : Heap} {a : Ad}
theorem ok_textof (T : Txt K mg a) : FnOk P w K mg base CX0 2 a.f_text_of a.d_text_of ["plan"] (spTextOf a) := by
  have G_Few_text : FnOk P w K mg base CX0 1 _ _ _ (spText a.c_Few "many" "few ") := ok_tFew T
  have G_Start_text : FnOk P w K mg base CX0 1 _ _ _ (spText a.c_Start "step" "start ") := ok_tStart T
  have G_Loose_text : FnOk P w K mg base CX0 1 _ _ _ (spText a.c_Loose "many" "loose ") := ok_tLoose T
  have G_Duel_text : FnOk P w K mg base CX0 1 _ _ _ (spText a.c_Duel "many" "duel ") := ok_tDuel T
  refine T.F_text_of.ok sc_text_of (fun vs H Q E h => ?_) (fun cdv A outer s H vs Q E hr h => ?_)
  · obtain ⟨v, pl, n, rfl, _⟩ := h; rfl
  · obtain ⟨v, pl, n, rfl, hp, hg, hz, q⟩ := h
    have sl : sizeLine = 16777216 := sizeLine_eq
    refine ⟨_, (pss_cons (ps_set (i := 1) sc_text_of.nd rfl (Or.inl rfl) (pe_lst pa_nil)) (pss_cons (ps_set (i := 2) sc_text_of.nd rfl (Or.inl rfl) (pe_lst (pa_cons (vr 0) pa_nil))) (pss_cons (ps_while PassesOwn.never (pt_truth (vr 2) (fun _ => rfl)) (pss_cons (ps_set (i := 3) sc_text_of.nd rfl (Or.inl rfl) (pe_m.pop (vr 2))) (pss_one (ps_if (t_val (pe_callB call_isi rfl T.z_isinstance bt_isinstance (pa_cons (vr 3) (pa_cons (pe_bltn (v := .ty "str") rfl T.z_str bt_str rfl) pa_nil)))) (pss_one (ps_expr (pe_m.append (vr 1) (pa_cons (vr 3) pa_nil)))) (pss_one (ps_if (t_val (pe_callB call_isi rfl T.z_isinstance bt_isinstance (pa_cons (vr 3) (pa_cons (pe_gl rfl T.g_Each) pa_nil)))) (pss_one (ps_expr (pe_m.extend (vr 2) (pa_cons (pe_lst (pa_cons pe_str (pa_cons (pe_fld (vr 3) rfl) (pa_cons pe_str pa_nil)))) pa_nil)))) (pss_one (ps_if (t_val (pe_callB call_isi rfl T.z_isinstance bt_isinstance (pa_cons (vr 3) (pa_cons (pe_gl rfl T.g_First) pa_nil)))) (pss_one (ps_expr (pe_m.extend (vr 2) (pa_cons (pe_lst (pa_consQ pe_str (pa_consQ (pe_fld (vr 3) rfl) (pa_consQ pe_str (pa_consQ (pe_fld (vr 3) rfl) (pa_consQ pe_str pa_nil)))))) pa_nil)))) (pss_one (ps_expr (pe_m.append (vr 1) (pa_cons (PE.or (pe_meth0 (vr 3) T.cl_Few T.mt_Few_text G_Few_text hr T.B_Few_text .nil pass0) (PE.or (pe_meth0 (vr 3) T.cl_Start T.mt_Start_text G_Start_text hr T.B_Start_text .nil pass0) (PE.or (pe_meth0 (vr 3) T.cl_Loose T.mt_Loose_text G_Loose_text hr T.B_Loose_text .nil pass0) (pe_meth0 (vr 3) T.cl_Duel T.mt_Duel_text G_Duel_text hr T.B_Duel_text .nil pass0)))) pa_nil)))))))))))) (pss_one (ps_ret (pe_m.join pe_str (pa_cons (vr 1) pa_nil))))))), ?_⟩
    refine ⟨Nat.zero_le _, fun l hl => ?_⟩
    refine ⟨(by decide : 1 ≤ sizeLine), fun m hm => ?_⟩
    have lm : m ≠ l := fun z => by rw [z, upd_same] at hm; cases hm
    have hm0 : H m = none := by rw [upd_ne lm] at hm; exact hm
    refine ⟨fun k σ H' => ∃ (ts : List Str) (L : List Wk) (vs : List V) (x : Option V), σ = [some v, some (.ref l), some (.ref m), x] ∧ k = size L ∧ Same H H' ∧ H' l = some (.lst (ts.map V.str)) ∧ H' m = some (.lst vs) ∧ Stk a H L vs ∧
      flat ts ++ rest L = (text pl).cps.toList ∧ (∀ t ∈ ts, t.length ≤ 30) ∧ ts.length + size L ≤ sz pl, ?_, ?_⟩
    · refine ⟨_, [], [.p pl], [v], none, rfl, rfl, ?_, ?_, upd_same, Stk.cons (vs := []) ⟨hp, n, hg⟩ .nil, ?_, by simp, by simp [size, wsz]⟩
      · exact (Same.new hl).trans (Same.new hm)
      · rw [upd_ne lm.symm]; exact upd_same
      · simp [flat, rest, wtext]
    rintro k σ H' ⟨ts, L, vs, x, rfl, rfl, s1, h1, h2, hs, hf, h30, hle⟩
    cases hs with
    | nil =>
      refine ⟨false, .inl ⟨[], SqL.of h2, rfl⟩, ?_⟩
      refine iteF ?_
      refine ⟨rfl, "", l, ts, rfl, rfl, .inl (SqL.of h1), ?_, ?_⟩
      · have := sum_le ts h30
        have e0 : ("" : Str).length = 0 := by decide +kernel
        rw [e0]
        omega
      · have e : Txt.join "" ts = text pl := PyProof.Rows.ext_toList (by rw [join0_codes, ← hf]; simp [rest, flat])
        rw [e]
        exact q _ s1
    | @cons kk u L' vs' hu hr' =>
      have hne : (vs' ++ [u]).isEmpty = false := by cases vs' <;> rfl
      refine ⟨true, .inl ⟨_, SqL.of h2, by rw [hne]; rfl⟩, ?_⟩
      refine iteT ?_
      refine ⟨fun σ' H2 => ∃ (ts : List Str) (L : List Wk) (vs : List V) (x : Option V), σ' = [some v, some (.ref l), some (.ref m), x] ∧ size L < size (kk :: L') ∧ Same H H2 ∧ H2 l = some (.lst (ts.map V.str)) ∧ H2 m = some (.lst vs) ∧ Stk a H L vs ∧
        flat ts ++ rest L = (text pl).cps.toList ∧ (∀ t ∈ ts, t.length ≤ 30) ∧ ts.length + size L ≤ sz pl, fun σ' H2 ⟨ts, L, vs, x, e1, e2, r⟩ => ⟨size L, e2, ts, L, vs, x, e1, rfl, r⟩, ?_⟩
      refine ⟨.inl ⟨rfl, _, SqL.of h2⟩, m, _, u, rfl, rfl, h2, by simp, ?_⟩
      rw [List.dropLast_concat]
      have ml : l ≠ m := lm.symm
      have s2 : Same H (upd H' m (.lst vs')) := s1.put hm0
      have g1 : upd H' m (.lst vs') l = some (.lst (ts.map V.str)) := by rw [upd_ne ml]; exact h1
      have g2 : upd H' m (.lst vs') m = some (.lst vs') := upd_same
      have hl0 : H l = none := hl
      have htl : ts.length < 1000 := by
        have : 1 ≤ wsz kk := by cases kk with
          | s t => exact Nat.le_refl _
          | p pl => exact sz_pos pl
        simp only [size, List.map_cons, List.sum_cons] at hle
        omega
      have esz : size (kk :: L') = wsz kk + size L' := by simp [size]
      have erest : rest (kk :: L') = (wtext kk).cps.toList ++ rest L' := by simp [rest, flat]
      generalize upd H' m (.lst vs') = H2 at s2 g1 g2
      cases kk with
      | s t =>
        obtain ⟨rfl, ht⟩ := hu
        refine ⟨_, _, _, true, rfl, rfl, .str t, rfl, ?_⟩
        refine ⟨.inl ⟨rfl, _, SqL.of g1⟩, l, _, _, rfl, rfl, g1, by rw [List.length_map]; omega, ?_⟩
        refine ⟨ts ++ [t], L', vs', _, rfl, by rw [esz]; simp [wsz], s2.put hl0, by rw [upd_same, List.map_append]; rfl, by rw [upd_ne lm]; exact g2, hr', ?_, ?_, ?_⟩
        · rw [flat_app, flat_one, List.append_assoc, ← hf, erest]; rfl
        · intro x hx
          rcases List.mem_append.mp hx with z | z
          · exact h30 x z
          · rw [List.mem_singleton.mp z]; exact ht
        · rw [esz] at hle
          rw [List.length_append]
          simp [wsz] at hle ⊢
          omega
      | p pl' =>
        obtain ⟨hpl, n', hg'⟩ := hu
        cases pl' with
        | cnt k i =>
          obtain ⟨x0, dx, rfl, hx⟩ := hpl
          have hx2 := s2 _ _ hx
          have g' : k < 4 ∧ lo k ≤ i ∧ i ≤ hi k := by cases n' <;> exact hg'
          have b := lohi k
          have i0 : 0 ≤ i := by omega
          have i1 : i ≤ 100 := by omega
          have fin : ∀ H3, H3 = H2 → ∃ (ts' : List Str) (L : List Wk) (vs : List V) (x : Option V), [some v, some (V.ref l), some (.ref m), some (.ref x0)] = [some v, some (.ref l), some (.ref m), x] ∧ size L < size (.p (.cnt k i) :: L') ∧ Same H (upd H3 l (.lst (ts.map V.str ++ [.str (text (.cnt k i))]))) ∧ upd H3 l (.lst (ts.map V.str ++ [.str (text (.cnt k i))])) l = some (.lst (ts'.map V.str)) ∧ upd H3 l (.lst (ts.map V.str ++ [.str (text (.cnt k i))])) m = some (.lst vs) ∧ Stk a H L vs ∧
              flat ts' ++ rest L = (text pl).cps.toList ∧ (∀ t ∈ ts', t.length ≤ 30) ∧ ts'.length + size L ≤ sz pl := by
            rintro H3 rfl
            refine ⟨ts ++ [text (.cnt k i)], L', vs', _, rfl, by rw [esz]; simp [wsz, sz], s2.put hl0, by rw [upd_same, List.map_append]; rfl, by rw [upd_ne lm]; exact g2, hr', ?_, ?_, ?_⟩
            · rw [flat_app, flat_one, List.append_assoc, ← hf, erest]; rfl
            · intro x hx
              rcases List.mem_append.mp hx with z | z
              · exact h30 x z
              · rw [List.mem_singleton.mp z]
                have z1 := slen i0 i1
                have z2 : (nmB k).length ≤ 8 := by
                  rcases (by omega : k = 0 ∨ k = 1 ∨ k = 2 ∨ k = 3) with rfl | rfl | rfl | rfl <;> decide +kernel
                show (nmB k ++ tS i : Str).length ≤ 30
                rw [strLen_append]
                have z3 : (tS i).length ≤ 14 := z1
                omega
            · rw [esz] at hle
              rw [List.length_append]
              simp [wsz, sz] at hle ⊢
              omega
          rcases (by omega : k = 0 ∨ k = 1 ∨ k = 2 ∨ k = 3) with rfl | rfl | rfl | rfl
          · have ty := T.ty_Few H2 x0 dx _ hx2
            refine ⟨_, _, _, false, rfl, rfl, ty, T.sf, ?_⟩
            refine ⟨_, _, _, false, rfl, rfl, ty, T.kfe, ?_⟩
            refine ⟨_, _, _, false, rfl, rfl, ty, T.kfa, ?_⟩
            exact ⟨.inl ⟨rfl, _, SqL.of g1⟩, .inl (⟨x0, dx, _, rfl, hx2, rfl, ⟨x0, dx, i, rfl, hx2, i0, i1, l, _, _, rfl, rfl, g1, by rw [List.length_map]; omega, fin H2 rfl⟩⟩)⟩
          · have ty := T.ty_Start H2 x0 dx _ hx2
            refine ⟨_, _, _, false, rfl, rfl, ty, T.ss, ?_⟩
            refine ⟨_, _, _, false, rfl, rfl, ty, T.kse, ?_⟩
            refine ⟨_, _, _, false, rfl, rfl, ty, T.ksa, ?_⟩
            exact ⟨.inl ⟨rfl, _, SqL.of g1⟩, .inr (.inl (⟨x0, dx, _, rfl, hx2, rfl, ⟨x0, dx, i, rfl, hx2, i0, i1, l, _, _, rfl, rfl, g1, by rw [List.length_map]; omega, fin H2 rfl⟩⟩))⟩
          · have ty := T.ty_Loose H2 x0 dx _ hx2
            refine ⟨_, _, _, false, rfl, rfl, ty, T.sl, ?_⟩
            refine ⟨_, _, _, false, rfl, rfl, ty, T.kle, ?_⟩
            refine ⟨_, _, _, false, rfl, rfl, ty, T.kla, ?_⟩
            exact ⟨.inl ⟨rfl, _, SqL.of g1⟩, .inr (.inr (.inl (⟨x0, dx, _, rfl, hx2, rfl, ⟨x0, dx, i, rfl, hx2, i0, i1, l, _, _, rfl, rfl, g1, by rw [List.length_map]; omega, fin H2 rfl⟩⟩)))⟩
          · have ty := T.ty_Duel H2 x0 dx _ hx2
            refine ⟨_, _, _, false, rfl, rfl, ty, T.sd, ?_⟩
            refine ⟨_, _, _, false, rfl, rfl, ty, T.kde, ?_⟩
            refine ⟨_, _, _, false, rfl, rfl, ty, T.kda, ?_⟩
            exact ⟨.inl ⟨rfl, _, SqL.of g1⟩, .inr (.inr (.inr (⟨x0, dx, _, rfl, hx2, rfl, ⟨x0, dx, i, rfl, hx2, i0, i1, l, _, _, rfl, rfl, g1, by rw [List.length_map]; omega, fin H2 rfl⟩⟩)))⟩
        | each p =>
          obtain ⟨x0, dx, u0, rfl, hx, hu⟩ := hpl
          have hx2 := s2 _ _ hx
          have hgp : ∃ n, Good n p := by
            cases n' with
            | zero => exact hg'.elim
            | succ n' => exact ⟨n', hg'⟩
          have ty := T.ty_Each H2 x0 dx _ hx2
          refine ⟨_, _, _, false, rfl, rfl, ty, T.se, ?_⟩
          refine ⟨_, _, _, true, rfl, rfl, ty, T.kee, ?_⟩
          refine ⟨.inl ⟨rfl, _, SqL.of g2⟩, ?_⟩
          refine ⟨x0, _, dx, _, _, rfl, hx2, T.cl_Each, T.na_Each_inside, rfl, ?_⟩
          refine ⟨(by decide : 3 ≤ sizeLine), fun b hb => ?_⟩
          have s3 := Same.new (o := .lst [.str " )", u0, .str "each ( "]) hb
          have hl' := hr'.len
          have hlv : L'.length ≤ size L' := by
            clear hf hle esz erest hr' hl'
            induction L' with
            | nil => exact Nat.le_refl _
            | cons kk r ih =>
              have : 1 ≤ wsz kk := by cases kk with
                | s t => exact Nat.le_refl _
                | p pl => exact sz_pos pl
              simp only [size, List.map_cons, List.sum_cons, List.length_cons] at ih ⊢
              omega
          rw [esz] at hle
          refine ⟨m, b, _, _, rfl, rfl, s3 _ _ g2, upd_same, by show vs'.length + 3 ≤ _; omega, ?_⟩
          refine ⟨ts, .s "each ( " :: .p p :: .s " )" :: L', vs' ++ [.str " )"] ++ [u0] ++ [.str "each ( "], _, rfl, ?_, (s2.trans s3).put hm0, ?_, ?_, ?_, ?_, h30, ?_⟩
          · rw [esz]; simp only [size, List.map_cons, List.sum_cons, wsz, sz]; omega
          · rw [upd_ne ml]; exact s3 _ _ g1
          · rw [upd_same]; simp
          · exact .cons ⟨rfl, by decide +kernel⟩ (.cons ⟨hu, hgp⟩ (.cons ⟨rfl, by decide +kernel⟩ hr'))
          · rw [← hf, erest]
            have e1 : (text (.each p)).cps.toList = ("each ( " : Str).cps.toList ++ ((text p).cps.toList ++ (" )" : Str).cps.toList) := by
              show ("each ( " ++ text p ++ " )" : Str).cps.toList = _
              rw [app_codes, app_codes, List.append_assoc]
            show flat ts ++ rest (.s "each ( " :: .p p :: .s " )" :: L') = flat ts ++ ((text (.each p)).cps.toList ++ rest L')
            rw [e1]
            simp [rest, flat, wtext]
          · simp only [size, List.map_cons, List.sum_cons, wsz, sz] at hle ⊢; omega
        | fst p q =>
          obtain ⟨x0, dx, u1, u2, rfl, hx, hu1, hu2⟩ := hpl
          have hx2 := s2 _ _ hx
          have hgp : (∃ n, Good n p) ∧ ∃ n, Good n q := by
            cases n' with
            | zero => exact hg'.elim
            | succ n' => exact ⟨⟨n', hg'.1⟩, ⟨n', hg'.2⟩⟩
          have ty := T.ty_First H2 x0 dx _ hx2
          refine ⟨_, _, _, false, rfl, rfl, ty, T.sa, ?_⟩
          refine ⟨_, _, _, false, rfl, rfl, ty, T.kae, ?_⟩
          refine ⟨_, _, _, true, rfl, rfl, ty, T.kaa, ?_⟩
          refine ⟨.inl ⟨rfl, _, SqL.of g2⟩, ?_⟩
          refine ⟨x0, _, dx, _, _, rfl, hx2, T.cl_First, T.na_First_inside, rfl, ?_⟩
          refine ⟨x0, _, dx, _, _, rfl, hx2, T.cl_First, T.na_First_outside, rfl, ?_⟩
          refine ⟨(by decide : 5 ≤ sizeLine), fun b hb => ?_⟩
          have s3 := Same.new (o := .lst [.str " )", u2, .str " ) then ( ", u1, .str "first ( "]) hb
          have hl' := hr'.len
          have hlv : L'.length ≤ size L' := by
            clear hf hle esz erest hr' hl'
            induction L' with
            | nil => exact Nat.le_refl _
            | cons kk r ih =>
              have : 1 ≤ wsz kk := by cases kk with
                | s t => exact Nat.le_refl _
                | p pl => exact sz_pos pl
              simp only [size, List.map_cons, List.sum_cons, List.length_cons] at ih ⊢
              omega
          rw [esz] at hle
          refine ⟨m, b, _, _, rfl, rfl, s3 _ _ g2, upd_same, by show vs'.length + 5 ≤ _; omega, ?_⟩
          refine ⟨ts, .s "first ( " :: .p p :: .s " ) then ( " :: .p q :: .s " )" :: L', vs' ++ [.str " )"] ++ [u2] ++ [.str " ) then ( "] ++ [u1] ++ [.str "first ( "], _, rfl, ?_, (s2.trans s3).put hm0, ?_, ?_, ?_, ?_, h30, ?_⟩
          · rw [esz]; simp only [size, List.map_cons, List.sum_cons, wsz, sz]; omega
          · rw [upd_ne ml]; exact s3 _ _ g1
          · rw [upd_same]; simp
          · exact .cons ⟨rfl, by decide +kernel⟩ (.cons ⟨hu1, hgp.1⟩ (.cons ⟨rfl, by decide +kernel⟩ (.cons ⟨hu2, hgp.2⟩ (.cons ⟨rfl, by decide +kernel⟩ hr'))))
          · rw [← hf, erest]
            have e1 : (text (.fst p q)).cps.toList = ("first ( " : Str).cps.toList ++ ((text p).cps.toList ++ ((" ) then ( " : Str).cps.toList ++ ((text q).cps.toList ++ (" )" : Str).cps.toList))) := by
              show ("first ( " ++ text p ++ " ) then ( " ++ text q ++ " )" : Str).cps.toList = _
              rw [app_codes, app_codes, app_codes, app_codes, List.append_assoc, List.append_assoc, List.append_assoc]
            show flat ts ++ rest (.s "first ( " :: .p p :: .s " ) then ( " :: .p q :: .s " )" :: L') = flat ts ++ ((text (.fst p q)).cps.toList ++ rest L')
            rw [e1]
            simp [rest, flat, wtext]
          · simp only [size, List.map_cons, List.sum_cons, wsz, sz] at hle ⊢; omega
theorem ok_tEach (T : Txt K mg a) : FnOk P w K mg base CX0 3 a.x_Each_text a.y_Each_text ["self"] (spTextM a a.c_Each) := by
  have G_text_of : FnOk P w K mg base CX0 2 _ _ _ (spTextOf a) := ok_textof T
  refine T.F_Each_text.ok sc_Each_text (fun vs H Q E h => ?_) (fun cdv A outer s H vs Q E hr h => ?_)
  · obtain ⟨x, dx, fs, pl, n, rfl, _⟩ := h; rfl
  · obtain ⟨x, dx, fs, pl, n, rfl, hx, h⟩ := h
    exact ⟨_, (pss_one (ps_ret (pe_call G_text_of hr rfl T.m_text_of T.F_text_of.kp T.B_text_of .nil pass0 (pa_cons (vr 0) pa_nil)))), ⟨_, pl, n, rfl, h⟩⟩
theorem ok_tFirst (T : Txt K mg a) : FnOk P w K mg base CX0 3 a.x_First_text a.y_First_text ["self"] (spTextM a a.c_First) := by
  have G_text_of : FnOk P w K mg base CX0 2 _ _ _ (spTextOf a) := ok_textof T
  refine T.F_First_text.ok sc_First_text (fun vs H Q E h => ?_) (fun cdv A outer s H vs Q E hr h => ?_)
  · obtain ⟨x, dx, fs, pl, n, rfl, _⟩ := h; rfl
  · obtain ⟨x, dx, fs, pl, n, rfl, hx, h⟩ := h
    exact ⟨_, (pss_one (ps_ret (pe_call G_text_of hr rfl T.m_text_of T.F_text_of.kp T.B_text_of .nil pass0 (pa_cons (vr 0) pa_nil)))), ⟨_, pl, n, rfl, h⟩⟩
end
end My
set_option Elab.async false
set_option linter.all false
set_option maxRecDepth 100000
set_option maxHeartbeats 4000000
namespace My
open PySem L2 Pt
def toldV (ws : List Str) : V := match parse 3 ws 0 with
  | .bad q => .int (q : Nat)
  | .ok pl r e => if r = [] then .str (text pl) else .int (e : Nat)
def TxtOf (t : Str) (ws : List Str) : Prop := t.length ≤ 100000 ∧ ws.map (fun t => t.cps.toList) = SplM.splitC 32 t.cps.toList ∧ ws.length ≤ 1000 ∧ ∀ w ∈ ws, w.length ≤ 640
def spTold (a : Ad) : Sp := fun vs H Q _ => ∃ (v : V), vs = [v] ∧ (
  (∃ t ws, v = .str t ∧ TxtOf t ws ∧ ∀ H', Same H H' → Q (toldV ws) H') ∨
  ((∀ t, v ≠ .str t) ∧ (∃ o, Thing H v o) ∧ ∀ H', Same H H' → Q (.int 0) H'))
def spWhole (due : Int) : Sp := fun vs H Q _ => ∃ (x : V) (o : Option Int), vs = [x, .int due] ∧ Thing H x o ∧ Q (.bl (decide (o = some due))) H
section
variable {P : Program} {w : World} {K : PySem.W.Frag} {mg : Str → Option Value} {base : Heap} {a : Ad}
theorem ok_whole (T : Txt K mg a) (due : Int) : FnOk P w K mg base CX0 1 a.f_L_whole a.d_L_whole ["_law_found", "_law_due"] (spWhole due) := by
  refine T.F_L_whole.ok sc_L_whole (fun vs H Q E h => ?_) (fun cdv A outer s H vs Q E hr h => ?_)
  · obtain ⟨x, o, rfl, _⟩ := h; rfl
  · obtain ⟨x, o, rfl, th, q⟩ := h
    refine ⟨_, (pss_one (ps_ret (m_and (pe_callB call_isi rfl T.z_isinstance bt_isinstance (pa_cons (vr 0) (pa_cons (pe_bltn (v := .ty "int") rfl T.z_int bt_int rfl) pa_nil))) (m_and (m_not (pe_callB call_isi rfl T.z_isinstance bt_isinstance (pa_cons (vr 0) (pa_cons (pe_bltn (v := .ty "bool") rfl T.z_bool bt_bool rfl) pa_nil)))) (pe_one (pe_cmpR o_eq (vr 0) (vr 1) (nomark _))))))), ?_⟩
    cases th with
    | int i =>
      refine ⟨_, _, _, true, rfl, rfl, .int i, rfl, ⟨_, _, _, false, rfl, rfl, .int i, rfl, ?_⟩⟩
      have e : decide (some i = some due) = decide (i = due) := by
        by_cases c : i = due
        · rw [decide_eq_true c, decide_eq_true (by rw [c])]
        · rw [decide_eq_false c, decide_eq_false fun z => c (by cases z; rfl)]
      rw [e] at q
      exact q
    | bl b => exact ⟨_, _, _, true, rfl, rfl, .bl b, rfl, ⟨_, _, _, true, rfl, rfl, .bl b, rfl, q⟩⟩
    | non => exact ⟨_, _, _, false, rfl, rfl, .non, rfl, q⟩
    | str t => exact ⟨_, _, _, false, rfl, rfl, .str t, rfl, q⟩
    | lst p xs e => exact ⟨_, _, _, false, rfl, rfl, .lst e, rfl, q⟩
    | tup p xs e => exact ⟨_, _, _, false, rfl, rfl, .tup e, rfl, q⟩
    | dK p kvs e => exact ⟨_, _, _, false, rfl, rfl, .dK e, rfl, q⟩
theorem planof_split {v : V} {H : Hp} {Q Qg : VK} {Eg : XK} (key : ∀ q : Int, (∀ H', Same H H' → Q (.int q) H') → Ref a q H Eg)
    (good : ∀ pl H' v', Good 3 pl → (∀ H', Same H H' → Q (.str (text pl)) H') → Same H H' → IsPl a H' v' pl → Qg v' H')
    (h : (∃ t ws, v = .str t ∧ TxtOf t ws ∧ ∀ H', Same H H' → Q (toldV ws) H') ∨ ((∀ t, v ≠ .str t) ∧ (∃ o, Thing H v o) ∧ ∀ H', Same H H' → Q (.int 0) H')) : spPlanOf a [v] H Qg Eg := by
  refine ⟨v, rfl, ?_⟩
  rcases h with ⟨t, ws, rfl, ⟨h1, h2, h3, h4⟩, q⟩ | ⟨hn, th, q⟩
  · refine .inl ⟨t, ws, rfl, h1, h2, h3, h4, ?_⟩
    unfold toldV at q
    cases hp : parse 3 ws 0 with
    | bad p => rw [hp] at q; exact key _ q
    | ok pl r e =>
      rw [hp] at q
      have g := (parse_ok hp).2.2
      by_cases c : r = []
      · simp only [if_pos c] at q ⊢
        exact fun H' v' s1 hv => good pl H' v' g q s1 hv
      · simp only [if_neg c] at q ⊢
        exact key _ q
  · exact .inr ⟨hn, th, key _ q⟩
theorem ok_told (T : Txt K mg a) : FnOk P w K mg base CX0 21 a.f_L_told a.d_L_told ["_law_text"] (spTold a) := by
  have G_plan_of : FnOk P w K mg base (CXG P w) 20 _ _ _ (spPlanOf a) := ok_planof T
  have G_Few_text : FnOk P w K mg base CX0 20 _ _ _ (spText a.c_Few "many" "few ") := (ok_tFew T).mono (by decide)
  have G_Start_text : FnOk P w K mg base CX0 20 _ _ _ (spText a.c_Start "step" "start ") := (ok_tStart T).mono (by decide)
  have G_Loose_text : FnOk P w K mg base CX0 20 _ _ _ (spText a.c_Loose "many" "loose ") := (ok_tLoose T).mono (by decide)
  have G_Duel_text : FnOk P w K mg base CX0 20 _ _ _ (spText a.c_Duel "many" "duel ") := (ok_tDuel T).mono (by decide)
  have G_Each_text : FnOk P w K mg base CX0 20 _ _ _ (spTextM a a.c_Each) := (ok_tEach T).mono (by decide)
  have G_First_text : FnOk P w K mg base CX0 20 _ _ _ (spTextM a a.c_First) := (ok_tFirst T).mono (by decide)
  refine T.F_L_told.ok sc_L_told (fun vs H Q E h => ?_) (fun cdv A outer s H vs Q E hr h => ?_)
  · obtain ⟨v, rfl, _⟩ := h; rfl
  · obtain ⟨v, rfl, h⟩ := h
    refine ⟨_, (pss_cons (ps_set (i := 1) sc_L_told.nd rfl (Or.inl rfl) pe_non) (pss_cons (ps_tryN ⟨rfl, rfl⟩ (pb_cons (pb1_set (i := 2) sc_L_told.nd rfl rfl (px_call G_plan_of hr rfl T.m_plan_of T.F_plan_of.kp T.B_plan_of .nil (pa_cons (vr 0) pa_nil))) (pb_one (pb1_of (ps_set (i := 1) sc_L_told.nd rfl (Or.inl rfl) (PE.or (pe_meth0 (vr 2) T.cl_Few T.mt_Few_text G_Few_text hr T.B_Few_text .nil pass0) (PE.or (pe_meth0 (vr 2) T.cl_Start T.mt_Start_text G_Start_text hr T.B_Start_text .nil pass0) (PE.or (pe_meth0 (vr 2) T.cl_Loose T.mt_Loose_text G_Loose_text hr T.B_Loose_text .nil pass0) (PE.or (pe_meth0 (vr 2) T.cl_Duel T.mt_Duel_text G_Duel_text hr T.B_Duel_text .nil pass0) (PE.or (pe_meth0 (vr 2) T.cl_Each T.mt_Each_text G_Each_text hr T.B_Each_text .nil pass0) (pe_meth0 (vr 2) T.cl_First T.mt_First_text G_First_text hr T.B_First_text .nil pass0)))))))))) (ph_as ⟨rfl, rfl⟩ rfl T.mc_SpeakError T.xh_SpeakError sc_L_told.nd (ie := 3) rfl rfl (fun x => (pss_cons (ps_set (i := 1) sc_L_told.nd rfl (Or.inl rfl) pe_str) (pss_one (ps_if (PW.pt (pw_and (t_val (pe_callB (call_isxK (K := K) rfl) rfl T.z_isinstance bt_isinstance (pa_cons (vr 3) (pa_cons (pe_gl rfl T.g_NoPlan) pa_nil)))) (pw_and1 (pt_not (t_val (pe_callB (call_isxTK (K := K) rfl) rfl T.z_isinstance bt_isinstance (pa_cons (vr 3) (pa_cons (pe_tup (pa_cons (pe_gl rfl T.g_NoLevel) (pa_cons (pe_gl rfl T.g_NoListing) (pa_cons (pe_gl rfl T.g_NoThrow) (pa_cons (pe_gl rfl T.g_NoUnits) pa_nil))))) pa_nil)))))))) (pss_one (ps_set (i := 1) sc_L_told.nd rfl (Or.inl rfl) ((pe_fldCK (K := K) rfl) (vr 3)))) pss_nil)))) ph_nil)) (pss_one (ps_ret (vr 1))))), ?_⟩
    refine planof_split (Q := Q) (v := v) (fun q hq H' dx s1 hdx => ?_) (fun pl H' v' g hq s1 hv => ?_) h
    · refine ⟨_, rfl, fun x hx => .inl ⟨beq_iff_eq.mp T.ts, ?_⟩⟩
      have sx : Same H' (upd H' x (.ext (XCt x a.c_NoPlan (some dx)))) := Same.new hx
      obtain ⟨cd1, sx1⟩ := T.sx_NoPlan_place
      have ty : ∀ H2, Same (upd H' x (.ext (XCt x a.c_NoPlan (some dx)))) H2 → TyX K H2 (.ref x) (.ref a.c_NoPlan) := fun H2 s2 => .inr ⟨x, _, _, rfl, rfl, T.xc_NoPlan, s2 _ _ upd_same, fun _ z => XCt.at z⟩
      refine ⟨_, _, _, true, rfl, rfl, ty _ (Same.refl _), T.x1, ?_⟩
      refine ⟨(by decide : 4 ≤ sizeLine), fun p hp => ?_⟩
      have sp := Same.new (o := .tup [.ref a.c_NoLevel, .ref a.c_NoListing, .ref a.c_NoThrow, .ref a.c_NoUnits]) hp
      refine ⟨_, p, _, _, false, rfl, upd_same, rfl, ty _ sp, T.x2, ?_⟩
      refine ⟨x, _, cd1, dx, _, _, _, rfl, sx1, T.xc_NoPlan, sp _ _ upd_same, fun _ z => z, sp _ _ (sx _ _ hdx), rfl, ?_⟩
      exact hq _ (s1.trans (sx.trans sp))
    · cases pl with
      | cnt k i =>
        obtain ⟨x0, dx, rfl, hx⟩ := hv
        have g' : k < 4 ∧ lo k ≤ i ∧ i ≤ hi k := g
        have b := lohi k
        have i0 : 0 ≤ i := by omega
        have i1 : i ≤ 100 := by omega
        rcases (by omega : k = 0 ∨ k = 1 ∨ k = 2 ∨ k = 3) with rfl | rfl | rfl | rfl
        · exact .inl (⟨x0, dx, _, rfl, hx, rfl, ⟨x0, dx, i, rfl, hx, i0, i1, hq _ s1⟩⟩)
        · exact .inr (.inl (⟨x0, dx, _, rfl, hx, rfl, ⟨x0, dx, i, rfl, hx, i0, i1, hq _ s1⟩⟩))
        · exact .inr (.inr (.inl (⟨x0, dx, _, rfl, hx, rfl, ⟨x0, dx, i, rfl, hx, i0, i1, hq _ s1⟩⟩)))
        · exact .inr (.inr (.inr (.inl (⟨x0, dx, _, rfl, hx, rfl, ⟨x0, dx, i, rfl, hx, i0, i1, hq _ s1⟩⟩))))
      | each p =>
        obtain ⟨x0, dx, u, rfl, hx, hu⟩ := id hv
        have hz := sz_bd 3 _ g
        exact .inr (.inr (.inr (.inr (.inl (⟨x0, dx, _, rfl, hx, rfl, ⟨x0, dx, _, .each p, 3, rfl, hx, hv, g, Nat.le_trans hz (by decide), fun H2 s2 => hq _ (s1.trans s2)⟩⟩)))))
      | fst p q =>
        obtain ⟨x0, dx, u1, u2, rfl, hx, hu⟩ := id hv
        have hz := sz_bd 3 _ g
        exact .inr (.inr (.inr (.inr (.inr (⟨x0, dx, _, rfl, hx, rfl, ⟨x0, dx, _, .fst p q, 3, rfl, hx, hv, g, Nat.le_trans hz (by decide), fun H2 s2 => hq _ (s1.trans s2)⟩⟩)))))
end
end My
set_option Elab.async false
set_option linter.all false
set_option maxRecDepth 100000
set_option maxHeartbeats 4000000
namespace My
open PySem L2 Pt
def itV : Tk → V
  | .lev n => .int (3 - (n : Nat))
  | .num b => .str (if b then "1 to 100" else "0 to 24")
  | .wd w => .str w
def itD : Tk → PyData
  | .lev n => .int (3 - (n : Nat))
  | .num b => .str (if b then "1 to 100" else "0 to 24")
  | .wd w => .str w
def ItOk : Tk → Prop
  | .lev n => n ≤ 3
  | .num _ => True
  | .wd w => w = "(" ∨ w = ")" ∨ w = "then"
def woV : Option Nat → V
  | none => .non
  | some q => .int (q : Nat)
def spOpens : Sp := fun vs H Q _ => ∃ (w : Str) (n : Nat), vs = [.str w, itV (.lev n)] ∧ n ≤ 3 ∧ (match opens w n with
  | none => ∀ H', Same H H' → Q .non H'
  | some M => ∀ H' p, Same H H' → H' p = some (.lst (M.reverse.map itV)) → Q (.ref p) H')
def spWrong : Sp := fun vs H Q _ => ∃ (p : Addr) (ws : List Str), vs = [.ref p] ∧ Ws H p ws ∧ ∀ H', Same H H' → Q (woV (wrong ws)) H'
theorem kind_none {w : Str} (h : kind w = none) : w ≠ "few" ∧ w ≠ "start" ∧ w ≠ "loose" ∧ w ≠ "duel" := by
  refine ⟨fun z => ?_, fun z => ?_, fun z => ?_, fun z => ?_⟩ <;> subst z <;> exact absurd h (by decide +kernel)
theorem in3 (w : Str) : inV (.str w) [.str "few", .str "loose", .str "duel"] = decide (w ∈ ([("few" : Str), "loose", "duel"] : List Str)) := inV_strs w [("few" : Str), "loose", "duel"]
theorem in3_none {w : Str} (h : kind w = none) : inV (.str w) [.str "few", .str "loose", .str "duel"] = false := by
  obtain ⟨h1, h2, h3, h4⟩ := kind_none h
  rw [in3]
  refine decide_eq_false fun z => ?_
  rcases List.mem_cons.mp z with z | z
  · exact h1 z
  rcases List.mem_cons.mp z with z | z
  · exact h3 z
  exact h4 (List.mem_singleton.mp z)
theorem dvs_it {K : PySem.W.Frag} {H : Hp} : ∀ (l : List Tk), DVs K H (l.map itD) (l.map itV)
  | [] => by simp [DVs]
  | c :: l => by
    rw [List.map_cons, List.map_cons, DVs]
    refine ⟨_, _, rfl, ?_, dvs_it l⟩
    cases c <;> simp [itD, itV, DV]
theorem it_lay {c : Tk} (h : ItOk c) : PyData.canLay0 (itD c) = true ∧ PyData.depth (itD c) ≤ 1 := by
  cases c with
  | lev n =>
    have : n = 0 ∨ n = 1 ∨ n = 2 ∨ n = 3 := by have : n ≤ 3 := h; omega
    rcases this with rfl | rfl | rfl | rfl <;> exact ⟨by decide +kernel, by decide +kernel⟩
  | num b => cases b <;> exact ⟨by decide +kernel, by decide +kernel⟩
  | wd w => rcases h with rfl | rfl | rfl <;> exact ⟨by decide +kernel, by decide +kernel⟩
theorem its_lay : ∀ (l : List Tk), (∀ c ∈ l, ItOk c) → PyData.canLayAll0 (l.map itD) = true ∧ PyData.depthAll (l.map itD) ≤ 1
  | [], _ => by simp [PyData.canLayAll0, PyData.depthAll]
  | c :: l, h => by
    obtain ⟨h1, h2⟩ := its_lay l fun n hn => h n (List.mem_cons_of_mem _ hn)
    obtain ⟨h3, h4⟩ := it_lay (h c List.mem_cons_self)
    rw [List.map_cons, PyData.canLayAll0, PyData.depthAll, h1, h3]
    exact ⟨rfl, by omega⟩
theorem its_shaped (l : List Tk) (h : ∀ n ∈ l, ItOk n) : SeqAt.shaped (.list (l.map itD)) = true := by
  obtain ⟨k1, k2⟩ := its_lay l h
  unfold SeqAt.shaped
  rw [PyData.canLay0, k1, Bool.true_and]
  refine decide_eq_true ?_
  simp only [PyData.depth]
  omega
theorem its_nil (l : List Tk) : PyData.eqv (.list (l.map itD)) (.list []) = l.isEmpty := by
  rw [PyData.eqv]
  cases l with
  | nil => simp [PyData.eqvAll]
  | cons x l => simp [PyData.eqvAll]
def nums (b : Bool) : List Str := (List.range (if b then 100 else 25)).map fun j => tS ((if b then 1 else 0) + (j : Nat))
theorem nums_mem (b : Bool) (w : Str) : decide (w ∈ nums b) = numB b w := by
  rw [Bool.eq_iff_iff, decide_eq_true_iff]
  unfold numB nums
  rw [List.mem_map]
  constructor
  · rintro ⟨j, hj, rfl⟩
    rw [List.mem_range] at hj
    cases b with
    | true =>
      show (numK 1 (tS (1 + (j : Nat)))).isSome = true
      rw [numK_tS (k := 1) (by show (1 : Int) ≤ 1 + (j : Nat); omega) (by show 1 + ((j : Nat) : Int) ≤ 100; simp at hj; omega)]
      rfl
    | false =>
      show (numK 0 (tS (0 + (j : Nat)))).isSome = true
      rw [numK_tS (k := 0) (by show (0 : Int) ≤ 0 + (j : Nat); omega) (by show 0 + ((j : Nat) : Int) ≤ 24; simp at hj; omega)]
      rfl
  · intro h
    obtain ⟨i, hi⟩ := Option.isSome_iff_exists.mp h
    obtain ⟨e, h1, h2⟩ := numK_some hi
    cases b with
    | true =>
      have h1 : (1 : Int) ≤ i := h1
      have h2 : i ≤ 100 := h2
      refine ⟨(i - 1).toNat, List.mem_range.mpr (by simp; omega), ?_⟩
      rw [e]
      congr 1
      simp
      omega
    | false =>
      have h1 : (0 : Int) ≤ i := h1
      have h2 : i ≤ 24 := h2
      refine ⟨i.toNat, List.mem_range.mpr (by simp; omega), ?_⟩
      rw [e]
      congr 1
      simp
      omega
theorem opens_ok {w : Str} {n : Nat} {M : List Tk} (hn : n ≤ 3) (h : opens w n = some M) : (∀ c ∈ M, ItOk c) ∧ M.length ≤ 7 := by
  cases hk : kind w with
  | some k => rw [opens_k hk] at h; cases h; exact ⟨by simp [ItOk], by simp⟩
  | none =>
    cases n with
    | zero => rw [opens_0 hk] at h; cases h
    | succ m =>
      rw [opens_f hk] at h
      by_cases c : w = "each"
      · rw [if_pos c] at h; cases h
        refine ⟨fun c hc => ?_, by simp⟩
        simp at hc
        rcases hc with rfl | rfl | rfl
        · exact .inl rfl
        · show m ≤ 3; omega
        · exact .inr (.inl rfl)
      · rw [if_neg c] at h
        by_cases c2 : w = "first"
        · rw [if_pos c2] at h; cases h
          refine ⟨fun c hc => ?_, by simp⟩
          have hm : ItOk (.lev m) := by show m ≤ 3; omega
          simp at hc
          rcases hc with rfl | rfl | rfl | rfl | rfl | rfl | rfl
          · exact .inl rfl
          · exact hm
          · exact .inr (.inl rfl)
          · exact .inr (.inr rfl)
          · exact .inl rfl
          · exact hm
          · exact .inr (.inl rfl)
        · rw [if_neg c2] at h; cases h
section
variable {P : Program} {w : World} {K : PySem.W.Frag} {mg : Str → Option Value} {base : Heap} {a : Ad}
theorem ok_opens (T : Txt K mg a) : FnOk P w K mg base CX0 1 a.f_L_opens a.d_L_opens ["_law_word", "_law_deep"] spOpens := by
  refine T.F_L_opens.ok sc_L_opens (fun vs H Q E h => ?_) (fun cdv A outer s H vs Q E hr h => ?_)
  · obtain ⟨w, n, rfl, _⟩ := h; rfl
  · obtain ⟨w, n, rfl, hn, q⟩ := h
    refine ⟨_, (pss_cons (ps_if (t_cmp op_in_seq (vr 0) (pe_tup (pa_cons pe_str (pa_cons pe_str (pa_cons pe_str pa_nil)))) (by with_unfolding_all rfl)) (pss_one (ps_ret (pe_lst (pa_cons pe_str pa_nil)))) pss_nil) (pss_cons (ps_if (t_cmp o_eq (vr 0) pe_str (nomark _)) (pss_one (ps_ret (pe_lst (pa_cons pe_str pa_nil)))) pss_nil) (pss_cons (ps_if (PW.pt (pw_and (t_cmp o_lt (vr 1) pe_int (nomark _)) (pw_and1 (t_cmp o_eq (vr 0) pe_str (nomark _))))) (pss_one (ps_ret (pe_lst (pa_cons pe_str (pa_cons (pe_op o_add (vr 1) pe_int) (pa_cons pe_str pa_nil)))))) pss_nil) (pss_cons (ps_if (PW.pt (pw_and (t_cmp o_lt (vr 1) pe_int (nomark _)) (pw_and1 (t_cmp o_eq (vr 0) pe_str (nomark _))))) (pss_one (ps_ret (pe_lstQ (paq_cons pe_str (paq_cons (pe_op o_add (vr 1) pe_int) (paq_cons pe_str (paq_cons pe_str (paq_cons pe_str (paq_cons (pe_op o_add (vr 1) pe_int) (paq_cons pe_str paq_nil)))))))))) pss_nil) (pss_one (ps_ret pe_non)))))), ?_⟩
    refine ⟨(by decide : 3 ≤ sizeLine), fun t ht => ?_⟩
    have s1 := Same.new (o := .tup [.str "few", .str "loose", .str "duel"]) ht
    refine ⟨t, _, rfl, .inr (SqT.of upd_same), rfl, by decide +kernel, ?_⟩
    cases hk : kind w with
    | some k =>
      obtain ⟨k4, hw⟩ := kind_lt hk
      rw [opens_k hk] at q
      have ret : ∀ b, (k == 1) = b → ∀ p, upd H t (.tup [.str "few", .str "loose", .str "duel"]) p = none → Q (.ref p) (upd (upd H t (.tup [.str "few", .str "loose", .str "duel"])) p (.lst [itV (.num b)])) := fun b hb p hp => by
        subst hb
        exact q _ p (s1.trans (Same.new hp)) upd_same
      by_cases k1 : k = 1
      · subst k1
        have c0 : inV (.str w) [.str "few", .str "loose", .str "duel"] = false := by rw [hw]; decide +kernel
        refine ifB (fun c => absurd c (by rw [c0]; decide)) (fun _ => ?_)
        refine ifB (fun _ => ⟨(by decide : 1 ≤ sizeLine), fun p hp => ret true rfl p hp⟩) (fun c => absurd (show w = "start" from hw) (by simpa using c))
      · have c0 : inV (.str w) [.str "few", .str "loose", .str "duel"] = true := by
          rw [hw]
          rcases (by omega : k = 0 ∨ k = 2 ∨ k = 3) with rfl | rfl | rfl <;> decide +kernel
        have kb : (k == 1) = false := by simpa using k1
        exact ifB (fun _ => ⟨(by decide : 1 ≤ sizeLine), fun p hp => ret false kb p hp⟩) (fun c => absurd c (by rw [c0]; decide))
    | none =>
      have h3 := in3_none hk
      obtain ⟨_, h2, _, _⟩ := kind_none hk
      refine ifB (fun c => absurd c (by rw [h3]; decide)) (fun _ => ifB (fun c => absurd (by simpa using c) h2) (fun _ => ?_))
      cases n with
      | zero =>
        rw [opens_0 hk] at q
        have no : ¬ ((3 : Int) - ((0 : Nat) : Int) < 3) := by omega
        exact q _ s1
      | succ m =>
        rw [opens_f hk] at q
        have yes : (3 : Int) - ((m + 1 : Nat) : Int) < 3 := by omega
        have ee : (3 : Int) - ((m + 1 : Nat) : Int) + 1 = 3 - (m : Nat) := by omega
        by_cases c1 : w = "each"
        · rw [if_pos c1] at q
          refine ifC (fun _ => ?_) (fun c => absurd yes c)
          refine ifB (fun _ => ?_) (fun c => absurd c1 (by simpa using c))
          refine ⟨(by decide : 3 ≤ sizeLine), fun p hp => q _ p (s1.trans (Same.new hp)) ?_⟩
          rw [upd_same]
          show some (HO.lst [.str ")", .int (3 - ((m + 1 : Nat) : Int) + 1), .str "("]) = _
          rw [ee]
          rfl
        · rw [if_neg c1] at q
          refine ifC (fun _ => ?_) (fun c => absurd yes c)
          refine ifB (fun c => absurd (by simpa using c) c1) (fun _ => ?_)
          by_cases c2 : w = "first"
          · rw [if_pos c2] at q
            refine ifC (fun _ => ?_) (fun c => absurd yes c)
            refine ifB (fun _ => ?_) (fun c => absurd c2 (by simpa using c))
            refine ⟨(by decide : 7 ≤ sizeLine), fun p hp => q _ p (s1.trans (Same.new hp)) ?_⟩
            rw [upd_same]
            show some (HO.lst [.str ")", .int (3 - ((m + 1 : Nat) : Int) + 1), .str "(", .str "then", .str ")", .int (3 - ((m + 1 : Nat) : Int) + 1), .str "("]) = _
            rw [ee]
            rfl
          · rw [if_neg c2] at q
            refine ifC (fun _ => ?_) (fun c => absurd yes c)
            exact ifB (fun c => absurd (by simpa using c) c2) (fun _ => q _ s1)
end
end My
set_option Elab.async false
set_option linter.all false
set_option maxRecDepth 100000
set_option maxHeartbeats 4000000
namespace My
open PySem L2 Pt
section
variable {P : Program} {w : World} {K : PySem.W.Frag} {mg : Str → Option Value} {base : Heap} {a : Ad}
theorem ok_wrong (T : Txt K mg a) : FnOk P w K mg base CX0 2 a.f_L_wrong a.d_L_wrong ["_law_words_here"] spWrong := by
  have G_L_opens : FnOk P w K mg base CX0 1 _ _ _ spOpens := ok_opens T
  refine T.F_L_wrong.ok sc_L_wrong (fun vs H Q E h => ?_) (fun cdv A outer s H vs Q E hr h => ?_)
  · obtain ⟨p, ws, rfl, _⟩ := h; rfl
  · obtain ⟨p, ws, rfl, hw, q⟩ := h
    have sl : sizeLine = 16777216 := sizeLine_eq
    refine ⟨_, (pss_cons (ps_set (i := 1) sc_L_wrong.nd rfl (Or.inl rfl) (pe_lst (pa_cons pe_int pa_nil))) (pss_cons (ps_for PassesOwn.never rfl (pi_enum rfl T.z_enumerate (pa_cons (vr 0) pa_nil)) (pg_tup rfl (pgs_cons (pg_name (i := 2) sc_L_wrong.nd rfl (Or.inl rfl)) (pgs_cons (pg_name (i := 3) sc_L_wrong.nd rfl (Or.inl rfl)) pgs_nil))) (pss_cons (ps_if (t_cmp (o_eqD hr.units) (vr 1) (pe_lst pa_nil) (nomark _)) (pss_one (ps_ret (vr 2))) pss_nil) (pss_cons (ps_set (i := 4) sc_L_wrong.nd rfl (Or.inl rfl) (pe_m.pop (vr 1))) (pss_one (ps_if (t_cmp op_in_seq (vr 4) (pe_tup (pa_cons pe_str (pa_cons pe_str pa_nil))) (by with_unfolding_all rfl)) (pss_one (ps_if (t_cmp op_notIn_seq (vr 3) (pe_comp rfl (N := ["_law_number"]) (ix := [none]) ⟨rfl, rfl, rfl, rfl, trivial⟩ (pi_range2 rfl T.z_range (pa_cons (pe_callTy call_int1 rfl T.z_int bt_int (pa_cons (pe_cmpR o_eq (vr 4) pe_str (nomark _)) pa_nil)) (pa_cons (pe_ix ix_seq (pe_lst (pa_cons pe_int (pa_cons pe_int pa_nil))) (pe_callTy call_int1 rfl T.z_int bt_int (pa_cons (pe_cmpR o_eq (vr 4) pe_str (nomark _)) pa_nil)) (fun _ _ => rfl)) pa_nil))) ⟨fun C s H fp => pg_name (i := 0) (show List.Nodup (["_law_number"] : List Str) by decide +kernel) rfl (Or.inl rfl), fun C s H fp => pts_nil, fun C s H fp => (pe_callTy call_strI rfl T.z_str bt_str (pa_cons (vr 0) pa_nil))⟩) (by with_unfolding_all rfl)) (pss_one (ps_ret (vr 2))) pss_nil)) (pss_one (ps_if (t_val (pe_callB call_isi rfl T.z_isinstance bt_isinstance (pa_cons (vr 4) (pa_cons (pe_bltn (v := .ty "str") rfl T.z_str bt_str rfl) pa_nil)))) (pss_one (ps_if (t_cmp o_ne (vr 3) (vr 4) (nomark _)) (pss_one (ps_ret (vr 2))) pss_nil)) (pss_cons (ps_set (i := 5) sc_L_wrong.nd rfl (Or.inl rfl) (pe_call G_L_opens hr rfl T.m_L_opens T.F_L_opens.kp T.B_L_opens .nil pass0 (pa_cons (vr 3) (pa_cons (vr 4) pa_nil)))) (pss_cons (ps_if (t_cmp o_is (vr 5) pe_non (nomark _)) (pss_one (ps_ret (vr 2))) pss_nil) (pss_one (ps_expr (pe_m.extend (vr 1) (pa_cons (vr 5) pa_nil))))))))))))) (pss_cons (ps_if (t_cmp (o_neD hr.units) (vr 1) (pe_lst pa_nil) (nomark _)) (pss_one (ps_ret (pe_callB call_lenM rfl T.z_len bt_len (pa_cons (vr 0) pa_nil)))) pss_nil) (pss_one (ps_ret pe_non))))), ?_⟩
    refine ⟨(by decide : 1 ≤ sizeLine), fun l hl => ?_⟩
    have hpl : p ≠ l := fun z => by rw [← z, hw.1] at hl; cases hl
    refine ⟨p, _, rfl, Same.new hl _ _ hw.1, ?_⟩
    refine for_enum (a := p) (xs := ws.map V.str) (fun i σ H' => ∃ (S : List Tk) (x2 x3 x4 x5 : Option V), σ = [some (.ref p), some (.ref l), x2, x3, x4, x5] ∧ i ≤ ws.length ∧ Same H H' ∧ H' l = some (.lst (S.reverse.map itV)) ∧ mach (ws.drop i) i S = wrong ws ∧ (∀ c ∈ S, ItOk c) ∧ S.length ≤ 1 + 7 * i)
      ⟨[.lev 3], none, none, none, none, rfl, Nat.zero_le _, Same.new hl, upd_same, rfl, by simp [ItOk], by simp⟩ (fun i σ H' h => ?_) ?_ ?_
    · obtain ⟨S, x2, x3, x4, x5, _, _, s1, _⟩ := h
      exact s1 _ _ hw.1
    · rintro i x σ H' t hx ⟨S, x2, x3, x4, x5, rfl, hi, s1, hS, hm, hok, hlen⟩ ht
      obtain ⟨u, hu, rfl⟩ : ∃ u, ws[i]? = some u ∧ x = .str u := by
        rw [List.getElem?_map] at hx
        cases hg : ws[i]? with
        | none => rw [hg] at hx; cases hx
        | some u => rw [hg] at hx; cases hx; exact ⟨u, rfl, rfl⟩
      have hi' : i < ws.length := (List.getElem?_eq_some_iff.mp hu).1
      have hdr : ws.drop i = u :: ws.drop (i + 1) := by
        obtain ⟨h1, h2⟩ := List.getElem?_eq_some_iff.mp hu
        rw [List.drop_eq_getElem_cons h1, h2]
      have st := Same.new (o := .tup [.int (i : Nat), .str u]) ht
      have hS1 := st _ _ hS
      have s2 := s1.trans st
      refine ⟨t, _, rfl, SqT.of upd_same, rfl, _, _, rfl, _, _, rfl, rfl, ?_⟩
      generalize upd H' t (.tup [.int (i : Nat), .str u]) = H1 at hS1 s2
      have hi1000 : i < 1000 := by have := hw.2.1; omega
      rw [hdr] at hm
      refine ⟨Nat.zero_le _, fun l2 hl2 => ?_⟩
      have s3 := s2.trans (Same.new (o := .lst []) hl2)
      have hS2 := Same.new (o := .lst []) hl2 _ _ hS1
      refine ⟨.list (S.reverse.map itD), .list [], ?_, ?_, its_shaped _ (fun c hc => hok c (List.mem_reverse.mp hc)), by decide +kernel, ?_⟩
      · rw [DV]; exact ⟨l, _, rfl, SqL.of hS2, dvs_it _⟩
      · rw [DV]; exact ⟨l2, [], rfl, SqL.of upd_same, by simp [DVs]⟩
      generalize upd H1 l2 (.lst []) = H2 at s3 hS2
      have en : PyData.eqv (.list (S.reverse.map itD)) (.list []) = S.isEmpty := by rw [its_nil]; cases S <;> simp
      show if PyData.eqv (.list (S.reverse.map itD)) (.list []) = true then _ else _
      rw [en]
      cases S with
      | nil =>
        refine iteT ?_
        have e : wrong ws = some i := by rw [← hm]; rfl
        have := q _ s3
        rw [e] at this
        exact this
      | cons c S =>
        refine iteF ?_
        have hr1 : (c :: S).reverse.map itV = S.reverse.map itV ++ [itV c] := by simp
        rw [hr1] at hS2
        refine ⟨.inl ⟨rfl, _, SqL.of hS2⟩, l, _, itV c, rfl, rfl, hS2, by simp, ?_⟩
        rw [List.dropLast_concat]
        have hl0 : H l = none := hl
        have s4 : Same H (upd H2 l (.lst (S.reverse.map itV))) := s3.put hl0
        have g4 : upd H2 l (.lst (S.reverse.map itV)) l = some (.lst (S.reverse.map itV)) := upd_same
        generalize upd H2 l (.lst (S.reverse.map itV)) = H4 at s4 g4
        have hok' : ∀ c ∈ S, ItOk c := fun c hc => hok c (List.mem_cons_of_mem _ hc)
        have hc := hok c List.mem_cons_self
        rw [List.length_cons] at hlen
        refine ⟨(by decide : 2 ≤ sizeLine), fun t2 ht2 => ?_⟩
        have st2 := Same.new (o := .tup [.str "0 to 24", .str "1 to 100"]) ht2
        have s5 := s4.trans st2
        have g5 := st2 _ _ g4
        refine ⟨t2, _, rfl, .inr (SqT.of upd_same), ?_, by decide +kernel, ?_⟩
        · cases c <;> rfl
        generalize upd H4 t2 (.tup [.str "0 to 24", .str "1 to 100"]) = H5 at s5 g5
        cases c with
        | num b =>
          have c0 : inV (itV (.num b)) [.str "0 to 24", .str "1 to 100"] = true := by cases b <;> decide +kernel
          refine ifB (fun _ => ?_) (fun z => absurd z (by rw [c0]; decide))
          refine .inr ⟨_, rfl, ?_⟩
          refine ⟨(by decide : 2 ≤ sizeLine), fun l3 hl3 => ?_⟩
          refine .inr ⟨_, rfl, ?_⟩
          have st3 := Same.new (o := .lst [.int 25, .int 101]) hl3
          have s6 := s5.trans st3
          have g6 := st3 _ _ g5
          have eb : (decide ((if b then "1 to 100" else "0 to 24" : Str) = "1 to 100")) = b := by cases b <;> decide +kernel
          refine .inl ⟨l3, _, _, .int (if b then 101 else 25), rfl, rfl, SqL.of upd_same, ?_, ?_⟩
          · cases b <;> decide +kernel
          cases b with
          | true =>
            refine ⟨1, 101, by decide +kernel, by decide, fun D hD => ?_⟩
            generalize upd H5 l3 (.lst [.int 25, .int 101]) = H6 at s6 g6 hD
            refine comp_rng (lo := 1) (n := 100) (fun j ys H' => j ≤ 100 ∧ H' = upd H6 D (.lst ys) ∧ ys = ((List.range j).map fun (j : Nat) => V.str (tS (1 + (j : Nat))))) ⟨Nat.zero_le _, rfl, rfl⟩ (fun j ys H' h => by rw [h.2.1]; exact upd_same) ?_ ?_
            · rintro j ys H' P' hj ⟨hj2, rfl, rfl⟩ hP
              refine ⟨trivial, small_log (by omega), upd_same, ?_, hP _ _ ⟨hj, upd_upd, ?_⟩⟩
              · rw [List.length_map, List.length_range]; omega
              · rw [List.range_succ, List.map_append]; rfl
            · rintro ys H' ⟨_, rfl, rfl⟩
              have ey : ((List.range 100).map fun (j : Nat) => V.str (tS (1 + (j : Nat)))) = (nums true).map V.str := by
                unfold nums
                rw [List.map_map]
                rfl
              rw [ey]
              have s7 := Same.new (o := .lst ((nums true).map V.str)) hD
              refine ⟨D, _, rfl, .inl (SqL.of upd_same), rfl, flat_strs _, ?_⟩
              show if (!inV (.str u) ((nums true).map V.str)) = true then _ else _
              rw [inV_strs, nums_mem]
              cases hn : numB true u with
              | false =>
                refine iteT ?_
                have e2 : wrong ws = some i := by rw [← hm, mach, if_neg (by rw [hn]; decide)]
                have := q _ (s6.trans s7)
                rw [e2] at this
                exact this
              | true =>
                refine iteF ⟨S, _, _, _, _, rfl, by omega, s6.trans s7, s7 _ _ g6, ?_, hok', by omega⟩
                rw [← hm, mach, if_pos hn]
          | false =>
            refine ⟨0, 25, by decide +kernel, by decide, fun D hD => ?_⟩
            generalize upd H5 l3 (.lst [.int 25, .int 101]) = H6 at s6 g6 hD
            refine comp_rng (lo := 0) (n := 25) (fun j ys H' => j ≤ 25 ∧ H' = upd H6 D (.lst ys) ∧ ys = ((List.range j).map fun (j : Nat) => V.str (tS (0 + (j : Nat))))) ⟨Nat.zero_le _, rfl, rfl⟩ (fun j ys H' h => by rw [h.2.1]; exact upd_same) ?_ ?_
            · rintro j ys H' P' hj ⟨hj2, rfl, rfl⟩ hP
              refine ⟨trivial, small_log (by omega), upd_same, ?_, hP _ _ ⟨hj, upd_upd, ?_⟩⟩
              · rw [List.length_map, List.length_range]; omega
              · rw [List.range_succ, List.map_append]; rfl
            · rintro ys H' ⟨_, rfl, rfl⟩
              have ey : ((List.range 25).map fun (j : Nat) => V.str (tS (0 + (j : Nat)))) = (nums false).map V.str := by
                unfold nums
                rw [List.map_map]
                rfl
              rw [ey]
              have s7 := Same.new (o := .lst ((nums false).map V.str)) hD
              refine ⟨D, _, rfl, .inl (SqL.of upd_same), rfl, flat_strs _, ?_⟩
              show if (!inV (.str u) ((nums false).map V.str)) = true then _ else _
              rw [inV_strs, nums_mem]
              cases hn : numB false u with
              | false =>
                refine iteT ?_
                have e2 : wrong ws = some i := by rw [← hm, mach, if_neg (by rw [hn]; decide)]
                have := q _ (s6.trans s7)
                rw [e2] at this
                exact this
              | true =>
                refine iteF ⟨S, _, _, _, _, rfl, by omega, s6.trans s7, s7 _ _ g6, ?_, hok', by omega⟩
                rw [← hm, mach, if_pos hn]
        | wd x =>
          have c0 : inV (itV (.wd x)) [.str "0 to 24", .str "1 to 100"] = false := by
            rcases hc with rfl | rfl | rfl <;> decide +kernel
          refine ifB (fun z => absurd z (by rw [c0]; decide)) (fun _ => ?_)
          refine ⟨_, _, _, true, rfl, rfl, .str x, rfl, ?_⟩
          by_cases e : u = x
          · refine ifB (fun z => absurd e (by simpa using z)) (fun _ => ?_)
            refine ⟨S, _, _, _, _, rfl, by omega, s5, g5, ?_, hok', by omega⟩
            rw [← hm, mach, if_pos e]
          · refine ifB (fun _ => ?_) (fun z => absurd (by simpa using z) e)
            have e2 : wrong ws = some i := by rw [← hm, mach, if_neg e]
            have := q _ s5
            rw [e2] at this
            exact this
        | lev n =>
          refine ⟨_, _, _, false, rfl, rfl, .int _, rfl, ?_⟩
          refine ⟨u, n, rfl, hc, ?_⟩
          cases ho : opens u n with
          | none =>
            intro H6 s6
            have e2 : wrong ws = some i := by rw [← hm]; exact mach_lev0 ho
            have := q _ (s5.trans s6)
            rw [e2] at this
            exact this
          | some M =>
            intro H6 m6 s6 h6
            obtain ⟨o1, o2⟩ := opens_ok hc ho
            have g6 := s6 _ _ g5
            refine ⟨.inl ⟨rfl, _, SqL.of g6⟩, l, m6, _, _, rfl, rfl, g6, h6, ?_, ?_⟩
            · simp only [List.length_map, List.length_reverse]; omega
            refine ⟨M ++ S, _, _, _, _, rfl, by omega, (s5.trans s6).put hl0, ?_, ?_, ?_, ?_⟩
            · rw [upd_same]; simp
            · rw [← hm]; exact (mach_lev ho).symm
            · intro c hc
              rcases List.mem_append.mp hc with z | z
              · exact o1 c z
              · exact hok' c z
            · rw [List.length_append]; omega
    · rintro σ H' ⟨S, x2, x3, x4, x5, rfl, hi, s1, hS, hm, hok, hlen⟩
      rw [List.length_map] at hm
      have hnil : ws.drop ws.length = [] := List.drop_length
      rw [hnil] at hm
      refine ⟨Nat.zero_le _, fun l2 hl2 => ?_⟩
      have s3 := s1.trans (Same.new (o := .lst []) hl2)
      have hS2 := Same.new (o := .lst []) hl2 _ _ hS
      refine ⟨.list (S.reverse.map itD), .list [], ?_, ?_, its_shaped _ (fun c hc => hok c (List.mem_reverse.mp hc)), by decide +kernel, ?_⟩
      · rw [DV]; exact ⟨l, _, rfl, SqL.of hS2, dvs_it _⟩
      · rw [DV]; exact ⟨l2, [], rfl, SqL.of upd_same, by simp [DVs]⟩
      have en : PyData.eqv (.list (S.reverse.map itD)) (.list []) = S.isEmpty := by rw [its_nil]; cases S <;> simp
      show if (!PyData.eqv (.list (S.reverse.map itD)) (.list [])) = true then _ else _
      rw [en]
      cases S with
      | nil =>
        refine iteF ?_
        have e : wrong ws = none := by rw [← hm]; rfl
        have := q _ s3
        rw [e] at this
        exact this
      | cons c S =>
        refine iteT ?_
        refine ⟨_, .inl (SqL.of (s3 _ _ hw.1)), ?_⟩
        rw [List.length_map]
        have e : wrong ws = some ws.length := by rw [← hm]; rfl
        have := q _ s3
        rw [e] at this
        exact this
end
end My
set_option Elab.async false
set_option linter.all false
set_option maxRecDepth 100000
set_option maxHeartbeats 4000000
namespace My
open PySem L2 Pt
theorem told_wrong (ws : List Str) : match wrong ws with
    | none => ∃ pl, toldV ws = .str (text pl) ∧ ws = words pl
    | some q => toldV ws = .int (q : Nat) := by
  rw [wrong_eq]
  unfold toldV
  cases hp : parse 3 ws 0 with
  | bad q => rfl
  | ok pl r e =>
    by_cases c : r = []
    · simp only [if_pos c]
      refine ⟨pl, rfl, ?_⟩
      have := (parse_ok hp).1
      rw [c, List.append_nil] at this
      exact this
    · simp only [if_neg c]
def Wsh (ws : List Str) : Prop := ws.length ≤ 500 ∧ ∀ w ∈ ws, w.length ≤ 20 ∧ 32 ∉ w.cps.toList
def one (ws : List Str) : List Str := if ws = [] then [""] else ws
theorem one_ok {ws : List Str} (h : Wsh ws) : (one ws).length ≤ 500 ∧ (∀ w ∈ one ws, w.length ≤ 20) ∧ (one ws).map (fun t => t.cps.toList) = SplM.splitC 32 (Txt.join " " ws).cps.toList := by
  unfold one
  rw [blank_code, join_codes]
  by_cases c : ws = []
  · subst c
    refine ⟨by decide, by decide +kernel, by decide +kernel⟩
  · rw [if_neg c]
    refine ⟨h.1, fun w hw => (h.2 w hw).1, ?_⟩
    rw [SplM.split_join 32 _ (by simpa using c)]
    intro p hp
    obtain ⟨t, ht, rfl⟩ := List.mem_map.mp hp
    exact (h.2 t ht).2
theorem join_len {ws : List Str} (h : Wsh ws) : (Txt.join " " ws).length ≤ 100000 := by
  have e : (Txt.join " " ws).length = (Txt.join " " ws).cps.toList.length := by simp [Str.length]
  rw [e, blank_code, join_codes]
  have := len_joinC 32 20 (ws.map fun t => t.cps.toList) (fun p hp => by
    obtain ⟨t, ht, rfl⟩ := List.mem_map.mp hp
    have := (h.2 t ht).1
    simpa [Str.length] using this)
  rw [List.length_map] at this
  have := h.1
  omega
theorem sum20 : ∀ (ts : List Str), (∀ t ∈ ts, t.length ≤ 20) → (ts.map (·.length)).sum ≤ 20 * ts.length
  | [], _ => Nat.le_refl _
  | t :: r, h => by
    have := sum20 r fun x hx => h x (List.mem_cons_of_mem _ hx)
    have := h t List.mem_cons_self
    simp only [List.map_cons, List.sum_cons, List.length_cons]
    omega
theorem join_sz {ws : List Str} (h : Wsh ws) : (ws.map (·.length)).sum + ws.length * (" " : Str).length ≤ 16777216 := by
  have := sum20 ws fun t ht => (h.2 t ht).1
  have e : (" " : Str).length = 1 := by decide +kernel
  have := h.1
  rw [e]
  omega
def spRight : Sp := fun vs H Q _ => ∃ (p : Addr) (ws : List Str), vs = [.ref p] ∧ H p = some (.lst (ws.map V.str)) ∧ Wsh ws ∧ ∀ H', Same H H' → Q (.bl true) H'
section
variable {P : Program} {w : World} {K : PySem.W.Frag} {mg : Str → Option Value} {base : Heap} {a : Ad}
theorem ok_right (T : Txt K mg a) : FnOk P w K mg base CX0 22 a.f_L_right a.d_L_right ["_law_words_here"] spRight := by
  have G_L_wrong : FnOk P w K mg base CX0 21 _ _ _ spWrong := (ok_wrong T).mono (by decide)
  have G_L_told : FnOk P w K mg base CX0 21 _ _ _ (spTold a) := ok_told T
  have G_wh : ∀ d, FnOk P w K mg base CX0 21 _ _ _ (spWhole d) := fun d => (ok_whole T d).mono (by decide)
  refine T.F_L_right.ok sc_L_right (fun vs H Q E h => ?_) (fun cdv A outer s H vs Q E hr h => ?_)
  · obtain ⟨p, ws, rfl, _⟩ := h; rfl
  · obtain ⟨p, ws, rfl, hp, hw, q⟩ := h
    obtain ⟨o1, o2, o3⟩ := one_ok hw
    have G_L_whole : FnOk P w K mg base CX0 21 _ _ _ (spWhole (match wrong (one ws) with | none => 0 | some q => (q : Nat))) := G_wh _
    have jl := join_len hw
    have sl : sizeLine = 16777216 := sizeLine_eq
    have tx : TxtOf (Txt.join " " ws) (one ws) := ⟨jl, o3, by omega, fun w hw => by have := o2 w hw; omega⟩
    refine ⟨_, (pss_cons (ps_set (i := 1) sc_L_right.nd rfl (Or.inl rfl) (pe_m.join pe_str (pa_cons (vr 0) pa_nil))) (pss_cons (ps_set (i := 2) sc_L_right.nd rfl (Or.inl rfl) (pe_call G_L_wrong hr rfl T.m_L_wrong T.F_L_wrong.kp T.B_L_wrong .nil pass0 (pa_cons (pe_m.split (vr 1) (pa_cons pe_str pa_nil)) pa_nil))) (pss_cons (ps_set (i := 3) sc_L_right.nd rfl (Or.inl rfl) (pe_call G_L_told hr rfl T.m_L_told T.F_L_told.kp T.B_L_told .nil pass0 (pa_cons (vr 1) pa_nil))) (pss_cons (ps_if (t_cmp o_is (vr 2) pe_non (nomark _)) (pss_one (ps_ret (m_and (pe_callB call_isi rfl T.z_isinstance bt_isinstance (pa_cons (vr 3) (pa_cons (pe_bltn (v := .ty "str") rfl T.z_str bt_str rfl) pa_nil))) (pe_one (pe_cmpR o_eq (vr 3) (vr 1) (nomark _)))))) pss_nil) (pss_one (ps_ret (pe_call G_L_whole hr rfl T.m_L_whole T.F_L_whole.kp T.B_L_whole .nil pass0 (pa_cons (vr 3) (pa_cons (vr 2) pa_nil))))))))), ?_⟩
    refine ⟨rfl, " ", p, ws, rfl, rfl, .inl (SqL.of hp), join_sz hw, ?_⟩
    refine ⟨rfl, Txt.join " " ws, 32, rfl, by rw [blank_code], by show (Txt.join " " ws).length + 2 ≤ _; omega, fun l ts hl hts => ?_⟩
    obtain rfl : ts = one ws := strs_inj (hts.trans o3.symm)
    have s1 := Same.new (o := .lst ((one ws).map V.str)) hl
    refine ⟨l, one ws, rfl, ⟨upd_same, by omega, fun w hw => by have := o2 w hw; omega⟩, fun H1 s2 => ?_⟩
    refine ⟨_, rfl, .inl ⟨Txt.join " " ws, one ws, rfl, tx, fun H2 s3 => ?_⟩⟩
    have s4 := s1.trans (s2.trans s3)
    have tw := told_wrong (one ws)
    cases hx : wrong (one ws) with
    | none =>
      rw [hx] at tw
      obtain ⟨pl, e1, e2⟩ := tw
      rw [e1]
      have ej : text pl = Txt.join " " ws := PyProof.Rows.ext_toList (by
        rw [text_codes, ← e2, o3, SplM.join_split])
      rw [ej]
      refine ⟨_, _, _, true, rfl, rfl, .str _, rfl, ?_⟩
      have e0 : decide (Txt.join " " ws = Txt.join " " ws) = true := decide_eq_true rfl
      show Q (.bl (decide (Txt.join " " ws = Txt.join " " ws))) H2
      rw [e0]
      exact q _ s4
    | some d =>
      rw [hx] at tw
      rw [tw]
      refine ⟨.int (d : Nat), some (d : Nat), rfl, .int _, ?_⟩
      have e : decide (some ((d : Nat) : Int) = some ((d : Nat) : Int)) = true := decide_eq_true rfl
      show Q (.bl (decide (some ((d : Nat) : Int) = some ((d : Nat) : Int)))) H2
      rw [e]
      exact q _ s4
end
end My
set_option Elab.async false
set_option linter.all false
set_option maxRecDepth 100000
set_option maxHeartbeats 4000000
namespace My
open PySem L2 Pt
def IsTr (H : Hp) : V → Pl → Prop
  | v, .cnt k i => ∃ x, v = .ref x ∧ H x = some (.tup [.str (nm k), .int i])
  | v, .each p => ∃ x u, v = .ref x ∧ H x = some (.tup [.str "each", u]) ∧ IsTr H u p
  | v, .fst p q => ∃ x u1 u2, v = .ref x ∧ H x = some (.tup [.str "first", u1, u2]) ∧ IsTr H u1 p ∧ IsTr H u2 q
theorem IsTr.same {H H' : Hp} (s : Same H H') : ∀ {pl : Pl} {v : V}, IsTr H v pl → IsTr H' v pl
  | .cnt k i, v, ⟨x, e, h⟩ => ⟨x, e, s _ _ h⟩
  | .each p, v, ⟨x, u, e, h, r⟩ => ⟨x, u, e, s _ _ h, IsTr.same s r⟩
  | .fst p q, v, ⟨x, u1, u2, e, h, r1, r2⟩ => ⟨x, u1, u2, e, s _ _ h, IsTr.same s r1, IsTr.same s r2⟩
def Gd : Nat → Pl → Prop
  | 0, _ => False
  | n + 1, pl => Good n pl
theorem Gd.each {n : Nat} {p : Pl} (h : Gd (n + 1) (.each p)) : Gd n p := by
  cases n with
  | zero => exact h.elim
  | succ n => exact h
theorem Gd.fst {n : Nat} {p q : Pl} (h : Gd (n + 1) (.fst p q)) : Gd n p ∧ Gd n q := by
  cases n with
  | zero => exact h.elim
  | succ n => exact h
theorem Gd.cnt {n k : Nat} {i : Int} (h : Gd (n + 1) (.cnt k i)) : k < 4 ∧ lo k ≤ i ∧ i ≤ hi k := by
  cases n <;> exact h
theorem Gd.sz {n : Nat} {p : Pl} (h : Gd n p) (hn : n ≤ 4) : sz p ≤ 50 := by
  cases n with
  | zero => exact h.elim
  | succ n =>
    have := sz_bd n p h
    rcases (by omega : n = 0 ∨ n = 1 ∨ n = 2 ∨ n = 3) with rfl | rfl | rfl | rfl <;> exact Nat.le_trans this (by decide)
def spWords (n : Nat) : Sp := fun vs H Q _ => ∃ (v : V) (pl : Pl), vs = [v] ∧ Gd n pl ∧ IsTr H v pl ∧ ∀ H' q, Same H H' → H' q = some (.lst ((words pl).map V.str)) → Q (.ref q) H'
def spTree (n : Nat) : Sp := fun vs H Q _ => ∃ (N d : Int), vs = [.int N, .int d, .bl true] ∧ d + n = 4 ∧ 1 ≤ n ∧ 0 ≤ N ∧ ∀ H' t v pl N', Same H H' → H' t = some (.tup [v, .int N']) → 0 ≤ N' → IsTr H' v pl → Gd n pl → Q (.ref t) H'
section
variable {P : Program} {w : World} {K : PySem.W.Frag} {mg : Str → Option Value} {base : Heap} {a : Ad}
theorem nm_each {k : Nat} (h : k < 4) : nm k ≠ "each" ∧ nm k ≠ "first" := by
  rcases (by omega : k = 0 ∨ k = 1 ∨ k = 2 ∨ k = 3) with rfl | rfl | rfl | rfl <;> exact ⟨by decide +kernel, by decide +kernel⟩
theorem ok_words (T : Txt K mg a) : ∀ n : Nat, n ≤ 4 → FnOk P w K mg base CX0 (n + 1) a.f_L_words a.d_L_words ["_law_tree_here"] (spWords n)
  | 0, _ => by
    refine T.F_L_words.ok sc_L_words (fun vs H Q E h => ?_) (fun cdv A outer s H vs Q E hr h => ?_)
    · obtain ⟨v, pl, rfl, _⟩ := h; rfl
    · obtain ⟨v, pl, rfl, h, _⟩ := h; exact h.elim
  | n + 1, hn => by
    have G_L_words : FnOk P w K mg base CX0 (n + 1) _ _ _ (spWords n) := ok_words T n (by omega)
    refine T.F_L_words.ok sc_L_words (fun vs H Q E h => ?_) (fun cdv A outer s H vs Q E hr h => ?_)
    · obtain ⟨v, pl, rfl, _⟩ := h; rfl
    · obtain ⟨v, pl, rfl, g, ht, q⟩ := h
      have sl : sizeLine = 16777216 := sizeLine_eq
      refine ⟨_, (pss_cons (ps_if (t_cmp o_eq (pe_ix ix_seq (vr 0) pe_int (fun _ _ => rfl)) pe_str (nomark _)) (pss_one (ps_ret (pe_op op_cat (pe_op op_cat (pe_lst (pa_cons pe_str (pa_cons pe_str pa_nil))) (pe_call G_L_words hr rfl T.m_L_words T.F_L_words.kp T.B_L_words .nil pass0 (pa_cons (pe_ix ix_seq (vr 0) pe_int (fun _ _ => rfl)) pa_nil))) (pe_lst (pa_cons pe_str pa_nil))))) pss_nil) (pss_cons (ps_if (t_cmp o_eq (pe_ix ix_seq (vr 0) pe_int (fun _ _ => rfl)) pe_str (nomark _)) (pss_one (ps_ret (pe_op op_cat (pe_op op_cat (pe_op op_cat (pe_op op_cat (pe_lst (pa_cons pe_str (pa_cons pe_str pa_nil))) (pe_call G_L_words hr rfl T.m_L_words T.F_L_words.kp T.B_L_words .nil pass0 (pa_cons (pe_ix ix_seq (vr 0) pe_int (fun _ _ => rfl)) pa_nil))) (pe_lst (pa_cons pe_str (pa_cons pe_str (pa_cons pe_str pa_nil))))) (pe_call G_L_words hr rfl T.m_L_words T.F_L_words.kp T.B_L_words .nil pass0 (pa_cons (pe_ix ix_seq (vr 0) pe_int (fun _ _ => rfl)) pa_nil))) (pe_lst (pa_cons pe_str pa_nil))))) pss_nil) (pss_one (ps_ret (pe_lst (pa_cons (pe_ix ix_seq (vr 0) pe_int (fun _ _ => rfl)) (pa_cons (pe_callTy call_strI rfl T.z_str bt_str (pa_cons (pe_ix ix_seq (vr 0) pe_int (fun _ _ => rfl)) pa_nil)) pa_nil))))))), ?_⟩
      cases pl with
      | cnt k i =>
        obtain ⟨x, rfl, hx⟩ := ht
        obtain ⟨k4, i0, i1⟩ := g.cnt
        obtain ⟨n1, n2⟩ := nm_each k4
        have b := lohi k
        have ix : ∀ j v, atI [.str (nm k), .int i] j = some v → ∀ R : VK, R v H → rIx K (.ref x) (.int j) H R := fun j v e R r => .inr (.inl ⟨x, _, j, v, rfl, rfl, SqT.of hx, e, r⟩)
        refine ix 0 _ rfl _ (ifB (fun c => absurd (by simpa using c) n1) (fun _ => ?_))
        refine ix 0 _ rfl _ (ifB (fun c => absurd (by simpa using c) n2) (fun _ => ?_))
        refine ix 0 _ rfl _ (ix 1 _ rfl _ ⟨small_log (by omega), ?_⟩)
        refine ⟨(by decide : 2 ≤ sizeLine), fun p hp => ?_⟩
        exact q _ p (Same.new hp) upd_same
      | each p =>
        obtain ⟨x, u, rfl, hx, hu⟩ := ht
        have gp := g.each
        have wl := words_len p
        have zl := gp.sz (by omega)
        have ix : ∀ H1, Same H H1 → ∀ j v, atI [.str "each", u] j = some v → ∀ R : VK, R v H1 → rIx K (.ref x) (.int j) H1 R := fun H1 s1 j v e R r => .inr (.inl ⟨x, _, j, v, rfl, rfl, SqT.of (s1 _ _ hx), e, r⟩)
        refine ix H (Same.refl _) 0 _ rfl _ ?_
        refine ⟨(by decide : 2 ≤ sizeLine), fun l1 hl1 => ?_⟩
        have s1 := Same.new (o := .lst ([("each" : Str), "("].map V.str)) hl1
        refine ix _ s1 1 _ rfl _ ⟨u, p, rfl, gp, hu.same s1, fun H2 q2 s2 h2 => ?_⟩
        refine ⟨l1, q2, _, _, rfl, rfl, s2 _ _ upd_same, h2, by simp; omega, fun p3 hp3 => ?_⟩
        have s3 := Same.new (o := .lst ([("each" : Str), "("].map V.str ++ (words p).map V.str)) hp3
        refine ⟨(by decide : 1 ≤ sizeLine), fun l4 hl4 => ?_⟩
        have s4 := Same.new (o := .lst [.str ")"]) hl4
        refine ⟨p3, l4, _, _, rfl, rfl, s4 _ _ upd_same, upd_same, by simp; omega, fun p5 hp5 => ?_⟩
        refine q _ p5 (s1.trans (s2.trans (s3.trans (s4.trans (Same.new hp5))))) ?_
        rw [upd_same]
        simp [words]
      | fst p r =>
        obtain ⟨x, u1, u2, rfl, hx, hu1, hu2⟩ := ht
        obtain ⟨g1, g2⟩ := g.fst
        have wl := words_len p
        have zl := g1.sz (by omega)
        have wl2 := words_len r
        have zl2 := g2.sz (by omega)
        have ix : ∀ H1, Same H H1 → ∀ j v, atI [.str "first", u1, u2] j = some v → ∀ R : VK, R v H1 → rIx K (.ref x) (.int j) H1 R := fun H1 s1 j v e R r => .inr (.inl ⟨x, _, j, v, rfl, rfl, SqT.of (s1 _ _ hx), e, r⟩)
        refine ix H (Same.refl _) 0 _ rfl _ ?_
        refine ix H (Same.refl _) 0 _ rfl _ ?_
        refine ⟨(by decide : 2 ≤ sizeLine), fun l1 hl1 => ?_⟩
        have s1 := Same.new (o := .lst ([("first" : Str), "("].map V.str)) hl1
        refine ix _ s1 1 _ rfl _ ⟨u1, p, rfl, g1, hu1.same s1, fun H2 q2 s2 h2 => ?_⟩
        refine ⟨l1, q2, _, _, rfl, rfl, s2 _ _ upd_same, h2, by simp; omega, fun p3 hp3 => ?_⟩
        have s3 := Same.new (o := .lst ([("first" : Str), "("].map V.str ++ (words p).map V.str)) hp3
        refine ⟨(by decide : 3 ≤ sizeLine), fun l4 hl4 => ?_⟩
        have s4 := Same.new (o := .lst [.str ")", .str "then", .str "("]) hl4
        refine ⟨p3, l4, _, _, rfl, rfl, s4 _ _ upd_same, upd_same, by simp; omega, fun p5 hp5 => ?_⟩
        have s5 := Same.new (o := .lst ([("first" : Str), "("].map V.str ++ (words p).map V.str ++ [.str ")", .str "then", .str "("])) hp5
        have t5 := s1.trans (s2.trans (s3.trans (s4.trans s5)))
        refine ix _ t5 2 _ rfl _ ⟨u2, r, rfl, g2, hu2.same t5, fun H6 q6 s6 h6 => ?_⟩
        refine ⟨p5, q6, _, _, rfl, rfl, s6 _ _ upd_same, h6, by simp; omega, fun p7 hp7 => ?_⟩
        have s7 := Same.new (o := .lst ([("first" : Str), "("].map V.str ++ (words p).map V.str ++ [.str ")", .str "then", .str "("] ++ (words r).map V.str)) hp7
        refine ⟨(by decide : 1 ≤ sizeLine), fun l8 hl8 => ?_⟩
        have s8 := Same.new (o := .lst [.str ")"]) hl8
        refine ⟨p7, l8, _, _, rfl, rfl, s8 _ _ upd_same, upd_same, by simp; omega, fun p9 hp9 => ?_⟩
        refine q _ p9 (t5.trans (s6.trans (s7.trans (s8.trans (Same.new hp9))))) ?_
        rw [upd_same]
        simp [words]
theorem ok_tree (T : Txt K mg a) : ∀ n : Nat, n ≤ 4 → FnOk P w K mg base CX0 (n + 1) a.f_L_tree a.d_L_tree ["_law_number", "_law_deep", "_law_wide"] (spTree n)
  | 0, _ => by
    refine T.F_L_tree.ok sc_L_tree (fun vs H Q E h => ?_) (fun cdv A outer s H vs Q E hr h => ?_)
    · obtain ⟨N, d, rfl, _⟩ := h; rfl
    · obtain ⟨N, d, rfl, _, h, _⟩ := h; exact absurd h (by decide)
  | n + 1, hn => by
    have G_L_tree : FnOk P w K mg base CX0 (n + 1) _ _ _ (spTree n) := ok_tree T n (by omega)
    refine T.F_L_tree.ok sc_L_tree (fun vs H Q E h => ?_) (fun cdv A outer s H vs Q E hr h => ?_)
    · obtain ⟨N, d, rfl, _⟩ := h; rfl
    · obtain ⟨N, d, rfl, hd, _, N0, q⟩ := h
      have sl : sizeLine = 16777216 := sizeLine_eq
      refine ⟨_, (pss_cons (ps_set (i := 3) sc_L_tree.nd rfl (Or.inl rfl) (pe_op o_mod (vr 0) pe_int)) (pss_cons (ps_set (i := 0) sc_L_tree.nd rfl (Or.inl rfl) (pe_op o_fdiv (vr 0) pe_int)) (pss_consM (ps_if (t_cmp o_eq (vr 1) pe_int (nomark _)) (pss_one (ps_set (i := 3) sc_L_tree.nd rfl (Or.inl rfl) (pe_op o_mod (vr 3) pe_int))) pss_nil) (pss_consM (ps_if (PW.pt (pw_and (t_cmp o_eq (vr 3) pe_int (nomark _)) (pw_and1 (pt_not (t_val (vr 2)))))) (pss_one (ps_set (i := 3) sc_L_tree.nd rfl (Or.inl rfl) pe_int)) pss_nil) (pss_cons (ps_if (t_cmp o_eq (vr 3) pe_int (nomark _)) (pss_one (ps_ret (pe_tup (pa_cons (pe_tup (pa_cons pe_str (pa_cons (pe_op o_add pe_int (pe_op o_mod (vr 0) (pe_ix ix_seq (pe_lst (pa_cons pe_int (pa_cons pe_int pa_nil))) (pe_op o_mod (pe_op o_fdiv (vr 0) pe_int) pe_int) (fun _ _ => rfl)))) pa_nil))) (pa_cons (pe_op o_fdiv (vr 0) pe_int) pa_nil))))) pss_nil) (pss_cons (ps_if (t_cmp o_lt (vr 3) pe_int (nomark _)) (pss_one (ps_ret (pe_tup (pa_cons (pe_tup (pa_cons (pe_ix ix_seq (pe_lst (pa_cons pe_str (pa_cons pe_str (pa_cons pe_str (pa_cons pe_str pa_nil))))) (vr 3) (fun _ _ => rfl)) (pa_cons (pe_op o_mod (vr 0) (pe_ix ix_seq (pe_lst (pa_cons pe_int (pa_cons pe_int pa_nil))) (pe_op o_mod (pe_op o_fdiv (vr 0) pe_int) pe_int) (fun _ _ => rfl))) pa_nil))) (pa_cons (pe_op o_fdiv (vr 0) pe_int) pa_nil))))) pss_nil) (pss_cons (ps_asg (pe_call G_L_tree hr rfl T.m_L_tree T.F_L_tree.kp T.B_L_tree .nil pass0 (pa_cons (vr 0) (pa_cons (pe_op o_add (vr 1) pe_int) (pa_cons (vr 2) pa_nil)))) (pg_tup rfl (pgs_cons (pg_name (i := 4) sc_L_tree.nd rfl (Or.inl rfl)) (pgs_cons (pg_name (i := 0) sc_L_tree.nd rfl (Or.inl rfl)) pgs_nil)))) (pss_cons (ps_if (t_cmp o_eq (vr 3) pe_int (nomark _)) (pss_one (ps_ret (pe_tup (pa_cons (pe_tup (pa_cons pe_str (pa_cons (vr 4) pa_nil))) (pa_cons (vr 0) pa_nil))))) pss_nil) (pss_cons (ps_asg (pe_call G_L_tree hr rfl T.m_L_tree T.F_L_tree.kp T.B_L_tree .nil pass0 (pa_cons (vr 0) (pa_cons (pe_op o_add (vr 1) pe_int) (pa_cons (vr 2) pa_nil)))) (pg_tup rfl (pgs_cons (pg_name (i := 5) sc_L_tree.nd rfl (Or.inl rfl)) (pgs_cons (pg_name (i := 0) sc_L_tree.nd rfl (Or.inl rfl)) pgs_nil)))) (pss_one (ps_ret (pe_tup (pa_cons (pe_tup (pa_cons pe_str (pa_cons (vr 4) (pa_cons (vr 5) pa_nil)))) (pa_cons (vr 0) pa_nil)))))))))))))), ?_⟩
      refine ⟨cp, cd, ?_⟩
      have w0 : 0 ≤ N % 6 := Int.emod_nonneg _ (by decide)
      have w1 : N % 6 < 6 := Int.emod_lt_of_pos _ (by decide)
      have M0 : 0 ≤ N / 6 := Int.ediv_nonneg N0 (by decide)
      refine ⟨fun σ' H' => H' = H ∧ ∃ M way : Int, σ' = [some (.int M), some (.int d), some (.bl true), some (.int way), none, none] ∧ 0 ≤ M ∧ 0 ≤ way ∧ way < 6 ∧ (n = 0 → way < 4), ?_, ?_⟩
      · refine ifC (fun c => ⟨cp, rfl, N / 6, N % 6 % 4, rfl, M0, by omega, by omega, fun _ => by omega⟩) (fun c => ⟨rfl, N / 6, N % 6, rfl, M0, w0, w1, fun z => ?_⟩)
        have c' : ¬ d = 3 := c
        omega
      clear M0
      rintro σ' H' ⟨rfl, M, way, rfl, M0, v0, v1, v2⟩
      refine ⟨fun σ' H'' => H'' = H' ∧ σ' = [some (.int M), some (.int d), some (.bl true), some (.int way), none, none], ?_, ?_⟩
      · exact ifC (fun c => ⟨rfl, rfl⟩) (fun c => iteF ⟨rfl, rfl⟩)
      rintro σ' H'' ⟨rfl, rfl⟩
      have two : ∀ k : Int, 0 ≤ M / k % 2 ∧ M / k % 2 < 2 := fun k => ⟨Int.emod_nonneg _ (by decide), Int.emod_lt_of_pos _ (by decide)⟩
      refine ifC (fun c => ?_) (fun c => ?_)
      · have c' : way = 1 := c
        refine ⟨(by decide : 2 ≤ sizeLine), fun l hl => ?_⟩
        have s1 := Same.new (o := .lst [.int 4, .int 100]) hl
        obtain ⟨b0, b1⟩ := two 100
        refine ⟨cd, cp, ?_⟩
        obtain ⟨z, hz, hz0, hz1⟩ : ∃ z : Int, atI [V.int 4, .int 100] (M / 100 % 2) = some (.int z) ∧ 0 < z ∧ z ≤ 100 := by
          rcases (by omega : M / 100 % 2 = 0 ∨ M / 100 % 2 = 1) with e | e <;> rw [e]
          · exact ⟨4, rfl, by decide, by decide⟩
          · exact ⟨100, rfl, by decide, by decide⟩
        refine .inl ⟨l, _, _, .int z, rfl, rfl, SqL.of upd_same, hz, cp (by omega), ?_⟩
        have r0 := Int.emod_nonneg M (show z ≠ 0 by omega)
        have r1 := Int.emod_lt_of_pos M hz0
        refine ⟨(by decide : 2 ≤ sizeLine), fun t1 ht1 => ?_⟩
        have s2 := Same.new (o := .tup [.str "start", .int (1 + M % z)]) ht1
        refine ⟨cd, ?_⟩
        refine ⟨(by decide : 2 ≤ sizeLine), fun t2 ht2 => ?_⟩
        have s3 := Same.new (o := .tup [.ref t1, .int (M / 200)]) ht2
        refine q _ t2 _ (.cnt 1 (1 + M % z)) _ (s1.trans (s2.trans s3)) upd_same (Int.ediv_nonneg M0 (by decide)) ⟨t1, rfl, s3 _ _ upd_same⟩ ?_
        show Good n _
        have : (1 < 4) ∧ (1 : Int) ≤ 1 + M % z ∧ 1 + M % z ≤ 100 := ⟨by decide, by omega, by omega⟩
        cases n <;> exact this
      have c1' : ¬ way = 1 := c
      refine ifC (fun c => ?_) (fun c => ?_)
      · have c' : way < 4 := c
        refine ⟨(by decide : 4 ≤ sizeLine), fun l0 hl0 => ?_⟩
        have s0 := Same.new (o := .lst [.str "few", .str "", .str "loose", .str "duel"]) hl0
        obtain ⟨k, hk, hk1, hkn⟩ : ∃ k : Nat, k < 4 ∧ k ≠ 1 ∧ atI [V.str "few", .str "", .str "loose", .str "duel"] way = some (.str (nm k)) := by
          rcases (by omega : way = 0 ∨ way = 2 ∨ way = 3) with e | e | e <;> rw [e]
          · exact ⟨0, by decide, by decide, rfl⟩
          · exact ⟨2, by decide, by decide, rfl⟩
          · exact ⟨3, by decide, by decide, rfl⟩
        refine .inl ⟨l0, _, _, .str (nm k), rfl, rfl, SqL.of upd_same, hkn, ?_⟩
        refine ⟨(by decide : 2 ≤ sizeLine), fun l hl => ?_⟩
        have s1 := Same.new (o := .lst [.int 5, .int 25]) hl
        obtain ⟨b0, b1⟩ := two 25
        refine ⟨cd, cp, ?_⟩
        obtain ⟨z, hz, hz0, hz1⟩ : ∃ z : Int, atI [V.int 5, .int 25] (M / 25 % 2) = some (.int z) ∧ 0 < z ∧ z ≤ 25 := by
          rcases (by omega : M / 25 % 2 = 0 ∨ M / 25 % 2 = 1) with e | e <;> rw [e]
          · exact ⟨5, rfl, by decide, by decide⟩
          · exact ⟨25, rfl, by decide, by decide⟩
        refine .inl ⟨l, _, _, .int z, rfl, rfl, SqL.of upd_same, hz, cp (by omega), ?_⟩
        have r0 := Int.emod_nonneg M (show z ≠ 0 by omega)
        have r1 := Int.emod_lt_of_pos M hz0
        refine ⟨(by decide : 2 ≤ sizeLine), fun t1 ht1 => ?_⟩
        have s2 := Same.new (o := .tup [.str (nm k), .int (M % z)]) ht1
        refine ⟨cd, ?_⟩
        refine ⟨(by decide : 2 ≤ sizeLine), fun t2 ht2 => ?_⟩
        have s3 := Same.new (o := .tup [.ref t1, .int (M / 50)]) ht2
        refine q _ t2 _ (.cnt k (M % z)) _ (s0.trans (s1.trans (s2.trans s3))) upd_same (Int.ediv_nonneg M0 (by decide)) ⟨t1, rfl, s3 _ _ upd_same⟩ ?_
        show Good n _
        have : (k < 4) ∧ lo k ≤ M % z ∧ M % z ≤ hi k := by
          unfold lo hi
          rw [if_neg hk1, if_neg hk1]
          exact ⟨hk, by omega, by omega⟩
        cases n <;> exact this
      · have c' : ¬ way < 4 := c
        have n1 : 1 ≤ n := by
          by_cases z : n = 0
          · exact absurd (v2 z) c'
          · omega
        refine ⟨M, d + 1, rfl, by omega, n1, M0, fun H1 t v pl N1 s1 ht N10 htr g1 => ?_⟩
        refine ⟨t, _, rfl, SqT.of ht, rfl, _, _, rfl, _, _, rfl, rfl, ?_⟩
        refine ifC (fun c => ?_) (fun c => ?_)
        · refine ⟨(by decide : 2 ≤ sizeLine), fun t1 ht1 => ?_⟩
          have s2 := Same.new (o := .tup [.str "each", v]) ht1
          refine ⟨(by decide : 2 ≤ sizeLine), fun t2 ht2 => ?_⟩
          have s3 := Same.new (o := .tup [.ref t1, .int N1]) ht2
          refine q _ t2 _ (.each pl) _ (s1.trans (s2.trans s3)) upd_same N10 ⟨t1, v, rfl, s3 _ _ upd_same, htr.same (s2.trans s3)⟩ ?_
          show Good n _
          cases n with
          | zero => exact absurd n1 (by decide)
          | succ n => exact g1
        · refine ⟨N1, d + 1, rfl, by omega, n1, N10, fun H2 tt v2 pl2 N2 s2 ht2 N20 htr2 g2 => ?_⟩
          refine ⟨tt, _, rfl, SqT.of ht2, rfl, _, _, rfl, _, _, rfl, rfl, ?_⟩
          refine ⟨(by decide : 3 ≤ sizeLine), fun t1 ht1 => ?_⟩
          have s3 := Same.new (o := .tup [.str "first", v, v2]) ht1
          refine ⟨(by decide : 2 ≤ sizeLine), fun t2 ht2' => ?_⟩
          have s4 := Same.new (o := .tup [.ref t1, .int N2]) ht2'
          refine q _ t2 _ (.fst pl pl2) _ (s1.trans (s2.trans (s3.trans s4))) upd_same N20 ⟨t1, v, v2, rfl, s4 _ _ upd_same, htr.same (s2.trans (s3.trans s4)), htr2.same (s3.trans s4)⟩ ?_
          show Good n _
          cases n with
          | zero => exact absurd n1 (by decide)
          | succ n => exact ⟨g1, g2⟩
end
end My
set_option Elab.async false
set_option linter.all false
set_option maxRecDepth 100000
set_option maxHeartbeats 4000000
namespace My
open PySem L2 Pt
structure KW (K : PySem.W.Frag) (a : Ad) (C : Addr) (w : Str) : Prop where
  k0 : PySem.W.kitOne K (.ref C) (.ref a.c_Few) = some (decide (w = "few"))
  k1 : PySem.W.kitOne K (.ref C) (.ref a.c_Start) = some (decide (w = "start"))
  k2 : PySem.W.kitOne K (.ref C) (.ref a.c_Loose) = some (decide (w = "loose"))
  k3 : PySem.W.kitOne K (.ref C) (.ref a.c_Duel) = some (decide (w = "duel"))
  k4 : PySem.W.kitOne K (.ref C) (.ref a.c_Each) = some (decide (w = "each"))
  k5 : PySem.W.kitOne K (.ref C) (.ref a.c_First) = some (decide (w = "first"))
  kp : PySem.W.kitOne K (.ref C) (.ref a.c_Plan) = some true
  kn : decide (w = ("none" : Str)) = false
def spIs (a : Ad) (n : Nat) : Sp := fun vs H Q _ => ∃ (v t : V) (pl : Pl), vs = [v, t] ∧ Gd n pl ∧ IsPl a H v pl ∧ IsTr H t pl ∧ ∀ H', Same H H' → Q (.bl true) H'
def dueOf : Pl → Int
  | .cnt _ i => i
  | _ => 0
def seven : List Str := [("few" : Str), "start", "loose", "duel", "each", "first", "none"]
section
variable {P : Program} {w : World} {K : PySem.W.Frag} {mg : Str → Option Value} {base : Heap} {a : Ad}
theorem kw_Few (T : Txt K mg a) : KW K a a.c_Few "few" := ⟨T.kff.trans (by decide +kernel), T.kfs.trans (by decide +kernel), T.kfl.trans (by decide +kernel), T.kfd.trans (by decide +kernel), T.kfe.trans (by decide +kernel), T.kfa.trans (by decide +kernel), T.kfp, by decide +kernel⟩
theorem kw_Start (T : Txt K mg a) : KW K a a.c_Start "start" := ⟨T.ksf.trans (by decide +kernel), T.kss.trans (by decide +kernel), T.ksl.trans (by decide +kernel), T.ksd.trans (by decide +kernel), T.kse.trans (by decide +kernel), T.ksa.trans (by decide +kernel), T.ksp, by decide +kernel⟩
theorem kw_Loose (T : Txt K mg a) : KW K a a.c_Loose "loose" := ⟨T.klf.trans (by decide +kernel), T.kls.trans (by decide +kernel), T.kll.trans (by decide +kernel), T.kld.trans (by decide +kernel), T.kle.trans (by decide +kernel), T.kla.trans (by decide +kernel), T.klp, by decide +kernel⟩
theorem kw_Duel (T : Txt K mg a) : KW K a a.c_Duel "duel" := ⟨T.kdf.trans (by decide +kernel), T.kds.trans (by decide +kernel), T.kdl.trans (by decide +kernel), T.kdd.trans (by decide +kernel), T.kde.trans (by decide +kernel), T.kda.trans (by decide +kernel), T.kdp, by decide +kernel⟩
theorem kw_Each (T : Txt K mg a) : KW K a a.c_Each "each" := ⟨T.kef.trans (by decide +kernel), T.kes.trans (by decide +kernel), T.kel.trans (by decide +kernel), T.ked.trans (by decide +kernel), T.kee.trans (by decide +kernel), T.kea.trans (by decide +kernel), T.kep, by decide +kernel⟩
theorem kw_First (T : Txt K mg a) : KW K a a.c_First "first" := ⟨T.kaf.trans (by decide +kernel), T.kas.trans (by decide +kernel), T.kal.trans (by decide +kernel), T.kad.trans (by decide +kernel), T.kae.trans (by decide +kernel), T.kaa.trans (by decide +kernel), T.kap, by decide +kernel⟩
theorem kinds_of (T : Txt K mg a) {n : Nat} {pl : Pl} {H : Hp} {v t : V} (g : Gd (n + 1) pl) (hv : IsPl a H v pl) (ht : IsTr H t pl) :
    ∃ (x dx C : Addr) (fs : List (Str × V)) (y : Addr) (w : Str) (r : List V), v = .ref x ∧ H x = some (.ins C dx fs) ∧ (∀ H1, H1 x = some (.ins C dx fs) → TyOf K H1 (.ref x) (.ref C)) ∧ KW K a C w ∧ t = .ref y ∧ H y = some (.tup (.str w :: r)) := by
  cases pl with
  | cnt k i =>
    obtain ⟨x, dx, rfl, hx⟩ := hv
    obtain ⟨y, rfl, hy⟩ := ht
    obtain ⟨k4, _⟩ := g.cnt
    rcases (by omega : k = 0 ∨ k = 1 ∨ k = 2 ∨ k = 3) with rfl | rfl | rfl | rfl
    · exact ⟨x, dx, a.c_Few, _, y, "few", _, rfl, hx, fun H1 h => T.ty_Few H1 x dx _ h, kw_Few T, rfl, hy⟩
    · exact ⟨x, dx, a.c_Start, _, y, "start", _, rfl, hx, fun H1 h => T.ty_Start H1 x dx _ h, kw_Start T, rfl, hy⟩
    · exact ⟨x, dx, a.c_Loose, _, y, "loose", _, rfl, hx, fun H1 h => T.ty_Loose H1 x dx _ h, kw_Loose T, rfl, hy⟩
    · exact ⟨x, dx, a.c_Duel, _, y, "duel", _, rfl, hx, fun H1 h => T.ty_Duel H1 x dx _ h, kw_Duel T, rfl, hy⟩
  | each p =>
    obtain ⟨x, dx, u, rfl, hx, _⟩ := hv
    obtain ⟨y, u', rfl, hy, _⟩ := ht
    exact ⟨x, dx, a.c_Each, _, y, "each", _, rfl, hx, fun H1 h => T.ty_Each H1 x dx _ h, kw_Each T, rfl, hy⟩
  | fst p q =>
    obtain ⟨x, dx, u1, u2, rfl, hx, _⟩ := hv
    obtain ⟨y, u1', u2', rfl, hy, _⟩ := ht
    exact ⟨x, dx, a.c_First, _, y, "first", _, rfl, hx, fun H1 h => T.ty_First H1 x dx _ h, kw_First T, rfl, hy⟩
theorem dvs_bool {H : Hp} : ∀ (l : List Bool), DVs K H (l.map PyData.bool) (l.map V.bl)
  | [] => by simp [DVs]
  | c :: l => by
    rw [List.map_cons, List.map_cons, DVs]
    exact ⟨_, _, rfl, by simp [DV], dvs_bool l⟩
theorem lay_bools : ∀ (l : List Bool), PyData.canLayAll0 (l.map PyData.bool) = true ∧ PyData.depthAll (l.map PyData.bool) ≤ 1
  | [] => by simp [PyData.canLayAll0, PyData.depthAll]
  | t :: l => by
    obtain ⟨h1, h2⟩ := lay_bools l
    rw [List.map_cons, PyData.canLayAll0, PyData.depthAll, h1, PyData.canLay0]
    refine ⟨rfl, ?_⟩
    simp only [PyData.depth]
    omega
theorem ne_bools {H : Hp} {ns : List Bool} {l r : Addr} {Q : VK} (h1 : H l = some (.lst (ns.map V.bl))) (h2 : H r = some (.lst (ns.map V.bl))) (q : Q (.bl false) H) : rEqD K true (.ref l) (.ref r) H Q := by
  have hs : SeqAt.shaped (.list (ns.map PyData.bool)) = true := by
    obtain ⟨k1, k2⟩ := lay_bools ns
    unfold SeqAt.shaped
    rw [PyData.canLay0, k1, Bool.true_and]
    refine decide_eq_true ?_
    simp only [PyData.depth]
    omega
  refine ⟨.list (ns.map PyData.bool), .list (ns.map PyData.bool), by rw [DV]; exact ⟨l, _, rfl, SqL.of h1, dvs_bool _⟩, by rw [DV]; exact ⟨r, _, rfl, SqL.of h2, dvs_bool _⟩, hs, hs, ?_⟩
  rw [SeqAt.eqv_refl _ (SeqAt.canLay_of_shaped hs)]
  exact q
theorem ok_is (T : Txt K mg a) : ∀ n : Nat, n ≤ 4 → FnOk P w K mg base CX0 (n + 2) a.f_L_is a.d_L_is ["_law_plan", "_law_tree_here"] (spIs a n)
  | 0, _ => by
    refine T.F_L_is.ok sc_L_is (fun vs H Q E h => ?_) (fun cdv A outer s H vs Q E hr h => ?_)
    · obtain ⟨v, t, pl, rfl, _⟩ := h; rfl
    · obtain ⟨v, t, pl, rfl, h, _⟩ := h; exact h.elim
  | n + 1, hn => by
    have G_L_is : FnOk P w K mg base CX0 (n + 2) _ _ _ (spIs a n) := ok_is T n (by omega)
    have G_wh : ∀ d, FnOk P w K mg base CX0 (n + 2) _ _ _ (spWhole d) := fun d => (ok_whole T d).mono (by omega)
    refine T.F_L_is.ok sc_L_is (fun vs H Q E h => ?_) (fun cdv A outer s H vs Q E hr h => ?_)
    · obtain ⟨v, t, pl, rfl, _⟩ := h; rfl
    · obtain ⟨v, t, pl, rfl, g, hv, ht, q⟩ := h
      have sl : sizeLine = 16777216 := sizeLine_eq
      have G_L_whole : FnOk P w K mg base CX0 (n + 2) _ _ _ (spWhole (dueOf pl)) := G_wh _
      obtain ⟨x, dx, C, fs, y, w', r, rfl, hx, ty, kw, rfl, hy⟩ := kinds_of T g hv ht
      refine ⟨_, (pss_cons (ps_set (i := 2) sc_L_is.nd rfl (Or.inl rfl) (pe_lst (pa_cons (pe_callB call_isi rfl T.z_isinstance bt_isinstance (pa_cons (vr 0) (pa_cons (pe_gl rfl T.g_Few) pa_nil))) (pa_cons (pe_callB call_isi rfl T.z_isinstance bt_isinstance (pa_cons (vr 0) (pa_cons (pe_gl rfl T.g_Start) pa_nil))) (pa_cons (pe_callB call_isi rfl T.z_isinstance bt_isinstance (pa_cons (vr 0) (pa_cons (pe_gl rfl T.g_Loose) pa_nil))) (pa_cons (pe_callB call_isi rfl T.z_isinstance bt_isinstance (pa_cons (vr 0) (pa_cons (pe_gl rfl T.g_Duel) pa_nil))) pa_nil)))))) (pss_cons (ps_set (i := 2) sc_L_is.nd rfl (Or.inl rfl) (pe_op op_cat (vr 2) (pe_lst (pa_cons (pe_callB call_isi rfl T.z_isinstance bt_isinstance (pa_cons (vr 0) (pa_cons (pe_gl rfl T.g_Each) pa_nil))) (pa_cons (pe_callB call_isi rfl T.z_isinstance bt_isinstance (pa_cons (vr 0) (pa_cons (pe_gl rfl T.g_First) pa_nil))) (pa_cons (m_not (pe_callB call_isi rfl T.z_isinstance bt_isinstance (pa_cons (vr 0) (pa_cons (pe_gl rfl T.g_Plan) pa_nil)))) pa_nil)))))) (pss_cons (ps_if (t_cmp (o_neD hr.units) (vr 2) (pe_comp rfl (N := ["_law_word", "_law_tree_here"]) (ix := [none, some 1]) ⟨rfl, rfl, rfl, rfl, ⟨rfl, rfl, rfl, trivial⟩⟩ (pi_any (pe_lstQ (paq_cons pe_str (paq_cons pe_str (paq_cons pe_str (paq_cons pe_str (paq_cons pe_str (paq_cons pe_str (paq_cons pe_str paq_nil))))))))) ⟨fun C s H fp => pg_name (i := 0) (show List.Nodup (["_law_word", "_law_tree_here"] : List Str) by decide +kernel) rfl (Or.inl rfl), fun C s H fp => pts_nil, fun C s H fp => (pe_cmpR o_eq (pe_ix (ix_seqK (K := K) rfl) (vr 1) pe_int (fun _ _ => rfl)) (vr 0) (nomark _))⟩) (nomark _)) (pss_one (ps_ret pe_bl)) pss_nil) (pss_cons (ps_if (t_cmp o_eq (pe_ix ix_seq (vr 1) pe_int (fun _ _ => rfl)) pe_str (nomark _)) (pss_one (ps_ret (pe_call G_L_is hr rfl T.m_L_is T.F_L_is.kp T.B_L_is .nil pass0 (pa_cons (pe_fld (vr 0) rfl) (pa_cons (pe_ix ix_seq (vr 1) pe_int (fun _ _ => rfl)) pa_nil))))) pss_nil) (pss_cons (ps_if (t_cmp o_eq (pe_ix ix_seq (vr 1) pe_int (fun _ _ => rfl)) pe_str (nomark _)) (pss_one (ps_ret (m_and (pe_call G_L_is hr rfl T.m_L_is T.F_L_is.kp T.B_L_is .nil pass0 (pa_cons (pe_fld (vr 0) rfl) (pa_cons (pe_ix ix_seq (vr 1) pe_int (fun _ _ => rfl)) pa_nil))) (pe_one (pe_call G_L_is hr rfl T.m_L_is T.F_L_is.kp T.B_L_is .nil pass0 (pa_cons (pe_fld (vr 0) rfl) (pa_cons (pe_ix ix_seq (vr 1) pe_int (fun _ _ => rfl)) pa_nil))))))) pss_nil) (pss_cons (ps_if (t_cmp o_eq (pe_ix ix_seq (vr 1) pe_int (fun _ _ => rfl)) pe_str (nomark _)) (pss_one (ps_ret (pe_call G_L_whole hr rfl T.m_L_whole T.F_L_whole.kp T.B_L_whole .nil pass0 (pa_cons (pe_fld (vr 0) rfl) (pa_cons (pe_ix ix_seq (vr 1) pe_int (fun _ _ => rfl)) pa_nil))))) pss_nil) (pss_one (ps_ret (pe_call G_L_whole hr rfl T.m_L_whole T.F_L_whole.kp T.B_L_whole .nil pass0 (pa_cons (pe_fld (vr 0) rfl) (pa_cons (pe_ix ix_seq (vr 1) pe_int (fun _ _ => rfl)) pa_nil))))))))))), ?_⟩
      refine ⟨_, _, _, _, rfl, rfl, ty _ hx, kw.k0, ?_⟩
      refine ⟨_, _, _, _, rfl, rfl, ty _ hx, kw.k1, ?_⟩
      refine ⟨_, _, _, _, rfl, rfl, ty _ hx, kw.k2, ?_⟩
      refine ⟨_, _, _, _, rfl, rfl, ty _ hx, kw.k3, ?_⟩
      refine ⟨(by decide : 4 ≤ sizeLine), fun l1 hl1 => ?_⟩
      have s1 := Same.new (o := .lst [.bl (decide (w' = "few")), .bl (decide (w' = "start")), .bl (decide (w' = "loose")), .bl (decide (w' = "duel"))]) hl1
      have hx1 := s1 _ _ hx
      refine ⟨_, _, _, _, rfl, rfl, ty _ hx1, kw.k4, ?_⟩
      refine ⟨_, _, _, _, rfl, rfl, ty _ hx1, kw.k5, ?_⟩
      refine ⟨_, _, _, _, rfl, rfl, ty _ hx1, kw.kp, ?_⟩
      refine ⟨(by decide : 3 ≤ sizeLine), fun l2 hl2 => ?_⟩
      have s2 := Same.new (o := .lst [.bl (decide (w' = "each")), .bl (decide (w' = "first")), .bl (!true)]) hl2
      refine ⟨l1, l2, _, _, rfl, rfl, s2 _ _ upd_same, upd_same, (by decide : 7 ≤ sizeLine), fun l3 hl3 => ?_⟩
      obtain ⟨ns, hns⟩ : ∃ ns : List Bool, ns = seven.map fun u => decide (w' = u) := ⟨_, rfl⟩
      have e3 : ([.bl (decide (w' = "few")), .bl (decide (w' = "start")), .bl (decide (w' = "loose")), .bl (decide (w' = "duel"))] ++ [.bl (decide (w' = "each")), .bl (decide (w' = "first")), .bl (!true)] : List V) = ns.map V.bl := by
        rw [hns]
        show _ = [V.bl (decide (w' = "few")), .bl (decide (w' = "start")), .bl (decide (w' = "loose")), .bl (decide (w' = "duel")), .bl (decide (w' = "each")), .bl (decide (w' = "first")), .bl (decide (w' = "none"))]
        rw [kw.kn]
        rfl
      have s3 := s1.trans (s2.trans (Same.new (o := .lst (ns.map V.bl)) hl3))
      rw [e3]
      refine ⟨(by decide : 7 ≤ sizeLine), fun l4 hl4 => ?_⟩
      have s4 := s3.trans (Same.new (o := .lst (seven.map V.str)) hl4)
      have g4 := Same.new (o := .lst (seven.map V.str)) hl4 l3 _ upd_same
      obtain ⟨H4, hH4⟩ : ∃ H4, H4 = upd (upd (upd (upd H l1 (.lst [.bl (decide (w' = "few")), .bl (decide (w' = "start")), .bl (decide (w' = "loose")), .bl (decide (w' = "duel"))])) l2 (.lst [.bl (decide (w' = "each")), .bl (decide (w' = "first")), .bl (!true)])) l3 (.lst (ns.map V.bl))) l4 (.lst (seven.map V.str)) := ⟨_, rfl⟩
      have s4 : Same H H4 := hH4 ▸ s4
      have g4 : H4 l3 = some (.lst (ns.map V.bl)) := hH4 ▸ g4
      have g5 : H4 l4 = some (.lst (seven.map V.str)) := by rw [hH4]; exact upd_same
      refine .inl ⟨⟨_, SqL.of upd_same⟩, fun D hD => ?_⟩
      have hD' : H4 D = none := by rw [hH4]; exact hD
      refine comp_list (K := K) (a := l4) (xs := seven.map V.str) (fun i ys H' => i ≤ 7 ∧ H' = upd H4 D (.lst ys) ∧ ys = (seven.take i).map fun u => V.bl (decide (w' = u))) ⟨by decide, by rw [hH4]; rfl, rfl⟩ (fun i ys H' h => by rw [h.2.1]; exact SqL.of (Same.new hD' _ _ g5)) (fun i ys H' h => by rw [h.2.1]; exact upd_same) ?_ ?_
      · rintro i z ys H' P' hz ⟨hi, rfl, rfl⟩ hP
        rw [List.getElem?_map] at hz
        obtain ⟨u, hu, rfl⟩ : ∃ u, seven[i]? = some u ∧ z = .str u := by
          cases hg : seven[i]? with
          | none => rw [hg] at hz; cases hz
          | some u => rw [hg] at hz; cases hz; exact ⟨u, rfl, rfl⟩
        have hi7 : i < 7 := (List.getElem?_eq_some_iff.mp hu).1
        have hyD := Same.new (o := .lst ((seven.take i).map fun u => V.bl (decide (w' = u)))) hD' _ _ (s4 _ _ hy)
        refine ⟨⟨rfl, trivial⟩, .inr (.inl ⟨y, _, 0, .str w', rfl, rfl, SqT.of hyD, atI_nat (j := 0) rfl, ?_⟩)⟩
        refine ⟨upd_same, ?_, hP _ _ ⟨hi7, upd_upd, ?_⟩⟩
        · rw [List.length_map, List.length_take]; omega
        · rw [List.take_add_one, hu, List.map_append]; rfl
      · rintro ys H' ⟨_, rfl, rfl⟩
        have ey : ((seven.take (seven.map V.str).length).map fun u => V.bl (decide (w' = u))) = ns.map V.bl := by
          rw [hns, List.map_map]; rfl
        rw [ey]
        have s5 := Same.new (o := .lst (ns.map V.bl)) hD'
        have t5 := s4.trans s5
        refine ne_bools (ns := ns) (s5 _ _ g4) upd_same ?_
        have hv5 := hv.same t5
        have ht5 := ht.same t5
        generalize upd H4 D (.lst (ns.map V.bl)) = H5 at t5 hv5 ht5
        cases pl with
        | cnt k i =>
          obtain ⟨x', dx', e1, hx5⟩ := hv5
          cases e1
          obtain ⟨y', e2, hy5⟩ := ht5
          cases e2
          obtain ⟨k4, _⟩ := g.cnt
          obtain ⟨n1, n2⟩ := nm_each k4
          have ix : ∀ j v, atI [.str (nm k), .int i] j = some v → ∀ R : VK, R v H5 → rIx K (.ref y) (.int j) H5 R := fun j v e R r => .inr (.inl ⟨y, _, j, v, rfl, rfl, SqT.of hy5, e, r⟩)
          have fin : ∀ R : VK, (∀ H', Same H H' → R (.bl true) H') → spWhole (dueOf (.cnt k i)) [.int i, .int i] H5 R E0 := fun R q => by
            refine ⟨.int i, some i, rfl, .int i, ?_⟩
            show R (.bl (decide (some i = some i))) H5
            rw [decide_eq_true rfl]
            exact q _ t5
          refine ix 0 _ rfl _ (ifB (fun c => absurd (by simpa using c) n1) (fun _ => ?_))
          refine ix 0 _ rfl _ (ifB (fun c => absurd (by simpa using c) n2) (fun _ => ?_))
          by_cases k1 : k = 1
          · subst k1
            refine ix 0 _ rfl _ ?_
            refine ⟨x, _, dx', _, _, rfl, hx5, T.cl_Start, T.na_Start_step, rfl, ?_⟩
            exact ix 1 _ rfl _ (fin _ q)
          · have n3 : nm k ≠ "start" := by
              rcases (by omega : k = 0 ∨ k = 2 ∨ k = 3) with rfl | rfl | rfl <;> decide +kernel
            refine ix 0 _ rfl _ (ifB (fun c => absurd (by simpa using c) n3) (fun _ => ?_))
            rcases (by omega : k = 0 ∨ k = 2 ∨ k = 3) with rfl | rfl | rfl
            · refine ⟨x, _, dx', _, _, rfl, hx5, T.cl_Few, T.na_Few_many, rfl, ?_⟩
              exact ix 1 _ rfl _ (fin _ q)
            · refine ⟨x, _, dx', _, _, rfl, hx5, T.cl_Loose, T.na_Loose_many, rfl, ?_⟩
              exact ix 1 _ rfl _ (fin _ q)
            · refine ⟨x, _, dx', _, _, rfl, hx5, T.cl_Duel, T.na_Duel_many, rfl, ?_⟩
              exact ix 1 _ rfl _ (fin _ q)
        | each p =>
          obtain ⟨x', dx', u, e1, hx5, hu⟩ := hv5
          cases e1
          obtain ⟨y', u', e2, hy5, hu'⟩ := ht5
          cases e2
          have ix : ∀ j v, atI [.str "each", u'] j = some v → ∀ R : VK, R v H5 → rIx K (.ref y) (.int j) H5 R := fun j v e R r => .inr (.inl ⟨y, _, j, v, rfl, rfl, SqT.of hy5, e, r⟩)
          refine ix 0 _ rfl _ ?_
          refine ⟨x, _, dx', _, _, rfl, hx5, T.cl_Each, T.na_Each_inside, rfl, ?_⟩
          exact ix 1 _ rfl _ ⟨u, u', p, rfl, g.each, hu, hu', fun H' s' => q _ (t5.trans s')⟩
        | fst p r' =>
          obtain ⟨x', dx', u1, u2, e1, hx5, hu1, hu2⟩ := hv5
          cases e1
          obtain ⟨y', v1, v2, e2, hy5, hv1, hv2⟩ := ht5
          cases e2
          have ix : ∀ H6, Same H5 H6 → ∀ j v, atI [.str "first", v1, v2] j = some v → ∀ R : VK, R v H6 → rIx K (.ref y) (.int j) H6 R := fun H6 s6 j v e R r => .inr (.inl ⟨y, _, j, v, rfl, rfl, SqT.of (s6 _ _ hy5), e, r⟩)
          refine ix H5 (Same.refl _) 0 _ rfl _ ?_
          refine ix H5 (Same.refl _) 0 _ rfl _ ?_
          refine ⟨x, _, dx', _, _, rfl, hx5, T.cl_First, T.na_First_outside, rfl, ?_⟩
          refine ix H5 (Same.refl _) 1 _ rfl _ ⟨u1, v1, p, rfl, g.fst.1, hu1, hv1, fun H6 s6 => ?_⟩
          refine ⟨x, _, dx', _, _, rfl, s6 _ _ hx5, T.cl_First, T.na_First_inside, rfl, ?_⟩
          exact ix H6 s6 2 _ rfl _ ⟨u2, v2, r', rfl, g.fst.2, hu2.same s6, hv2.same s6, fun H' s' => q _ (t5.trans (s6.trans s'))⟩
end
end My
set_option Elab.async false
set_option linter.all false
set_option maxRecDepth 100000
set_option maxHeartbeats 4000000
namespace L2
open PySem PySem.Spec PyProof.Rows
section
variable {X : Cx}
@[irreducible] def PEq (X : Cx) (e : Expr) (t : TE) : Prop := PE X e t
@[irreducible] def PSt (X : Cx) (st : Stmt) (t : TS) : Prop := PS X st t
theorem peq_of {e : Expr} {t : TE} (h : PE X e t) : PEq X e t := by unfold PEq; exact h
theorem peq_out {e : Expr} {t : TE} (h : PEq X e t) : PE X e t := by unfold PEq at h; exact h
theorem pst_of {st : Stmt} {t : TS} (h : PS X st t) : PSt X st t := by unfold PSt; exact h
theorem pst_out {st : Stmt} {t : TS} (h : PSt X st t) : PS X st t := by unfold PSt at h; exact h
theorem peq_lst {es : List Expr} {t : TA} {pos : Pos} (h : PAq X es t) : PEq X (.List es pos) (tLst t) := peq_of (pe_lstQ h)
theorem paq_consq {e : Expr} {es : List Expr} {te : TE} {t : TA} (ha : PEq X e te) (hr : PAq X es t) (h : isSt e = false := by rfl) : PAq X (e :: es) (tCons te t) := paq_cons (peq_out ha) hr h
theorem psq_one {st : Stmt} {t : TS} (h : PSt X st t) : PSq X [st] t := by unfold PSq; exact pss_one (pst_out h)
theorem psq_cons {st : Stmt} {sts : List Stmt} {t u : TS} (h : PSt X st t) (h2 : PSq X sts u) : PSq X (st :: sts) (tSeq t u) := by
  unfold PSq at h2 ⊢
  exact pss_cons (pst_out h) h2
theorem psq_out {sts : List Stmt} {t : TS} (h : PSq X sts t) : PSs X sts t := by unfold PSq at h; exact h
theorem pst_set {i : Nat} {x : Str} {e : Expr} {te : TE} {pos pos' : Pos} (hN : X.N.Nodup) (hi : X.N[i]? = some x) (hx : Loc X.env.scope x) (he : PEq X e te) (hs : swapsWith e (some (.Name x pos')) pos.line X.env = pure false := by rfl) (hf : X.fn x = true ∨ X.env.scope.names.lookup x = some .local := by first | exact .inl rfl | exact .inr rfl | assumption) :
    PSt X (.Assign [.Name x pos'] e pos) (tAsg te (gName i)) := pst_of (ps_set hN hi hx (peq_out he) hs hf)
end
end L2
set_option Elab.async false
set_option linter.all false
set_option maxRecDepth 100000
set_option maxHeartbeats 4000000
namespace L2
open PySem PySem.Spec PyProof.Rows
section
variable {X : Cx}
theorem peq_op {a b : Expr} {ta tb : TE} {op : Operator} {r : R2} {pos : Pos} (ho : OpR X (binaryOp op) r) (ha : PEq X a ta) (hb : PEq X b tb) : PEq X (.BinOp a op b pos) (tOp r ta tb) := peq_of (pe_op ho (peq_out ha) (peq_out hb))
theorem pst_ret {e : Expr} {te : TE} {pos : Pos} (he : PEq X e te) : PSt X (.Return (some e) pos) (tRet te) := pst_of (ps_ret (peq_out he))
theorem psq_nil : PSq X [] tNext := by unfold PSq; exact pss_nil
theorem pst_if {c : Expr} {b o : List Stmt} {tt : TT} {tb to : TS} {pos : Pos} (hc : PT X c tt) (hb : PSq X b tb) (ho : PSq X o to) : PSt X (.If c b o pos) (tIfS tt tb to) := pst_of (ps_if hc (psq_out hb) (psq_out ho))
end
section
variable {P : Program} {w : World} {K : PySem.W.Frag} {mg : Str → Option Value} {base : Heap}
theorem Fun.okQ {x qual : Str} {st : Stmt} {f : Addr} {fd : FuncData} {N ps : List Str} {k : Nat} {sp : Sp} (F : Fun K x qual st f fd) (S : FnScope N ps (defScope st)) (len : ∀ vs H Q E, sp vs H Q E → vs.length = ps.length)
    (hbody : ∀ (cdv : Value) (A : Around) (outer : List Env) (s : Shared) (H : Hp) (vs : List V) (Q : VK) (E : XK), Room k (A.deeper (envOfC qual (defScope st) s.heap.objs.size f cdv)) → sp vs H Q E →
      ∃ t, PSq (cxOf CX0 P w K mg base N qual (defScope st) f cdv A outer s H E).nox (defBody st) t ∧ t { nx := fun _ H' => Q .non H', rt := Q } (start N vs) H) : FnOk P w K mg base CX0 (k + 1) f fd ps sp :=
  F.ok S len fun cdv A outer s H vs Q E hr h => let ⟨t, h1, h2⟩ := hbody cdv A outer s H vs Q E hr h; ⟨t, psq_out h1, h2⟩
end
end L2
set_option Elab.async false
set_option linter.all false
set_option maxRecDepth 100000
set_option maxHeartbeats 4000000
namespace My
open PySem L2 Pt
def signs : List Str := [("few" : Str), "start", "loose", "duel", "each", "first", "(", ")", "then", "0", "1", "24", "25", "100", "101"] ++ [("03" : Str), "-1", "", "Few", "few(", "1.0", "x"]
theorem signs_ok : ∀ w ∈ signs, w.length ≤ 20 ∧ 32 ∉ w.cps.toList := by decide +kernel
def spSpoiled : Sp := fun vs H Q _ => ∃ (p : Addr) (ws : List Str) (c : Int), vs = [.ref p, .int c] ∧ H p = some (.lst (ws.map V.str)) ∧ ws ≠ [] ∧ ws.length ≤ 400 ∧ (∀ w ∈ ws, w.length ≤ 20 ∧ 32 ∉ w.cps.toList) ∧ ∀ H' q us, Same H H' → H' q = some (.lst (us.map V.str)) → Wsh us → Q (.ref q) H'
section
variable {P : Program} {w : World} {K : PySem.W.Frag} {mg : Str → Option Value} {base : Heap} {a : Ad}
theorem ok_spoiled (T : Txt K mg a) : FnOk P w K mg base CX0 2 a.f_L_spoiled a.d_L_spoiled ["_law_words_here", "_law_cell_here"] spSpoiled := by
  have G_L_mixed : FnOk P w K mg base CX0 1 _ _ _ spMixed := ok_mixed T
  refine T.F_L_spoiled.okQ sc_L_spoiled (fun vs H Q E h => ?_) (fun cdv A outer s H vs Q E hr h => ?_)
  · obtain ⟨p, ws, c, rfl, _⟩ := h; rfl
  · obtain ⟨p, ws, c, rfl, hp, hne, hl, hw, q⟩ := h
    have sl : sizeLine = 16777216 := sizeLine_eq
    have hpos : 0 < ws.length := List.length_pos_iff.mpr hne
    refine ⟨_, (psq_cons (pst_set (i := 2) sc_L_spoiled.nd rfl (Or.inl rfl) (peq_of (pe_call G_L_mixed hr rfl T.m_L_mixed T.F_L_mixed.kp T.B_L_mixed .nil pass0 (pa_cons (vr 1) (pa_cons pe_int pa_nil))))) (psq_cons (pst_set (i := 3) sc_L_spoiled.nd rfl (Or.inl rfl) (peq_of (pe_op o_mod (vr 2) pe_int))) (psq_cons (pst_set (i := 2) sc_L_spoiled.nd rfl (Or.inl rfl) (peq_of (pe_op o_fdiv (vr 2) pe_int))) (psq_cons (pst_set (i := 4) sc_L_spoiled.nd rfl (Or.inl rfl) (peq_of (pe_op o_mod (vr 2) (pe_callB call_lenM rfl T.z_len bt_len (pa_cons (vr 0) pa_nil))))) (psq_cons (pst_set (i := 2) sc_L_spoiled.nd rfl (Or.inl rfl) (peq_of (pe_op o_fdiv (vr 2) (pe_callB call_lenM rfl T.z_len bt_len (pa_cons (vr 0) pa_nil))))) (psq_cons (pst_set (i := 5) sc_L_spoiled.nd rfl (Or.inl rfl) (peq_lst (paq_consq (peq_of pe_str) (paq_consq (peq_of pe_str) (paq_consq (peq_of pe_str) (paq_consq (peq_of pe_str) (paq_consq (peq_of pe_str) (paq_consq (peq_of pe_str) (paq_consq (peq_of pe_str) (paq_consq (peq_of pe_str) (paq_consq (peq_of pe_str) (paq_consq (peq_of pe_str) (paq_consq (peq_of pe_str) (paq_consq (peq_of pe_str) (paq_consq (peq_of pe_str) (paq_consq (peq_of pe_str) (paq_consq (peq_of pe_str) paq_nil))))))))))))))))) (psq_cons (pst_set (i := 5) sc_L_spoiled.nd rfl (Or.inl rfl) (peq_op op_cat (peq_of (vr 5)) (peq_lst (paq_consq (peq_of pe_str) (paq_consq (peq_of pe_str) (paq_consq (peq_of pe_str) (paq_consq (peq_of pe_str) (paq_consq (peq_of pe_str) (paq_consq (peq_of pe_str) (paq_consq (peq_of pe_str) paq_nil)))))))))) (psq_cons (pst_set (i := 6) sc_L_spoiled.nd rfl (Or.inl rfl) (peq_of (pe_ix ix_seq (vr 5) (pe_op o_mod (vr 2) (pe_callB call_lenM rfl T.z_len bt_len (pa_cons (vr 5) pa_nil))) (fun _ _ => rfl)))) (psq_cons (pst_if (t_cmp o_eq (vr 3) pe_int (nomark _)) (psq_one (pst_ret (peq_of (pe_op op_cat (pe_slice sl_list (vr 0) po_none (po_some (vr 4))) (pe_slice sl_list (vr 0) (po_some (pe_op o_add (vr 4) pe_int)) po_none))))) psq_nil) (psq_cons (pst_if (t_cmp o_eq (vr 3) pe_int (nomark _)) (psq_one (pst_ret (peq_op op_cat (peq_op op_cat (peq_of (pe_slice sl_list (vr 0) po_none (po_some (vr 4)))) (peq_lst (paq_consq (peq_of (vr 6)) paq_nil))) (peq_of (pe_slice sl_list (vr 0) (po_some (vr 4)) po_none))))) psq_nil) (psq_cons (pst_if (t_cmp o_eq (vr 3) pe_int (nomark _)) (psq_one (pst_ret (peq_of (pe_slice sl_list (vr 0) po_none (po_some (vr 4)))))) psq_nil) (psq_cons (pst_if (t_cmp o_eq (vr 3) pe_int (nomark _)) (psq_one (pst_ret (peq_op op_cat (peq_of (vr 0)) (peq_lst (paq_consq (peq_of (vr 6)) paq_nil))))) psq_nil) (psq_one (pst_ret (peq_op op_cat (peq_op op_cat (peq_of (pe_slice sl_list (vr 0) po_none (po_some (vr 4)))) (peq_lst (paq_consq (peq_of (vr 6)) paq_nil))) (peq_of (pe_slice sl_list (vr 0) (po_some (pe_op o_add (vr 4) pe_int)) po_none))))))))))))))))), ?_⟩
    refine ⟨c, 1, rfl, by decide, by decide, cp, cd, ?_⟩
    generalize mixed c 1 = m
    have hlm : ((ws.map V.str).length : Int) = (ws.length : Int) := by rw [List.length_map]
    have hpm : 0 < ((ws.map V.str).length : Int) := by omega
    obtain ⟨j, hj, hj1⟩ : ∃ j : Nat, m / 6 % ((ws.map V.str).length : Int) = (j : Nat) ∧ j < ws.length := by
      have h0 := Int.emod_nonneg (m / 6) (show ((ws.map V.str).length : Int) ≠ 0 by omega)
      have h1 := Int.emod_lt_of_pos (m / 6) hpm
      exact ⟨(m / 6 % ((ws.map V.str).length : Int)).toNat, by omega, by omega⟩
    refine ⟨ws.map V.str, .inl (SqL.of hp), cp hpm, ?_⟩
    refine ⟨ws.map V.str, .inl (SqL.of hp), cd (by omega) (by omega), ?_⟩
    refine ⟨(by decide : 15 ≤ sizeLine), fun l1 hl1 => ?_⟩
    have s1 := Same.new (o := .lst [.str "few", .str "start", .str "loose", .str "duel", .str "each", .str "first", .str "(", .str ")", .str "then", .str "0", .str "1", .str "24", .str "25", .str "100", .str "101"]) hl1
    refine ⟨(by decide : 7 ≤ sizeLine), fun l2 hl2 => ?_⟩
    have s2 := Same.new (o := .lst [.str "03", .str "-1", .str "", .str "Few", .str "few(", .str "1.0", .str "x"]) hl2
    refine ⟨l1, l2, _, _, rfl, rfl, s2 _ _ upd_same, upd_same, (by decide : 22 ≤ sizeLine), fun l3 hl3 => ?_⟩
    obtain ⟨H3, hH3⟩ : ∃ H3, H3 = upd (upd (upd H l1 (.lst [.str "few", .str "start", .str "loose", .str "duel", .str "each", .str "first", .str "(", .str ")", .str "then", .str "0", .str "1", .str "24", .str "25", .str "100", .str "101"])) l2 (.lst [.str "03", .str "-1", .str "", .str "Few", .str "few(", .str "1.0", .str "x"])) l3 (.lst (signs.map V.str)) := ⟨_, rfl⟩
    have s3 : Same H H3 := by rw [hH3]; exact s1.trans (s2.trans (Same.new hl3))
    have g3 : H3 l3 = some (.lst (signs.map V.str)) := by rw [hH3]; exact upd_same
    have e3 : upd (upd (upd H l1 (.lst [.str "few", .str "start", .str "loose", .str "duel", .str "each", .str "first", .str "(", .str ")", .str "then", .str "0", .str "1", .str "24", .str "25", .str "100", .str "101"])) l2 (.lst [.str "03", .str "-1", .str "", .str "Few", .str "few(", .str "1.0", .str "x"])) l3 (.lst ([.str "few", .str "start", .str "loose", .str "duel", .str "each", .str "first", .str "(", .str ")", .str "then", .str "0", .str "1", .str "24", .str "25", .str "100", .str "101"] ++ [.str "03", .str "-1", .str "", .str "Few", .str "few(", .str "1.0", .str "x"])) = H3 := by rw [hH3]; rfl
    rw [e3]
    have hp3 := s3 _ _ hp
    refine ⟨signs.map V.str, .inl (SqL.of g3), ?_⟩
    refine ⟨cp (show (0 : Int) < ((signs.map V.str).length : Int) by decide +kernel), ?_⟩
    obtain ⟨z, hz, hzm⟩ : ∃ z, atI (signs.map V.str) (m / 6 / ((ws.map V.str).length : Int) % ((signs.map V.str).length : Int)) = some (.str z) ∧ z ∈ signs := by
      have e22 : ((signs.map V.str).length : Int) = 22 := by decide +kernel
      have h0 := Int.emod_nonneg (m / 6 / ((ws.map V.str).length : Int)) (show (22 : Int) ≠ 0 by decide)
      have h1 := Int.emod_lt_of_pos (m / 6 / ((ws.map V.str).length : Int)) (show (0 : Int) < 22 by decide)
      obtain ⟨v, h2, h3⟩ := atI_ex (xs := signs.map V.str) (i := m / 6 / ((ws.map V.str).length : Int) % 22) h0 (by rw [e22]; exact h1)
      obtain ⟨z, hz, rfl⟩ := List.mem_map.mp h2
      exact ⟨z, by rw [e22]; exact h3, hz⟩
    refine .inl ⟨l3, _, _, .str z, rfl, rfl, SqL.of g3, hz, ?_⟩
    have tk : cutV (ws.map V.str) none (some (m / 6 % ((ws.map V.str).length : Int))) = (ws.take j).map V.str := by
      rw [hj, cutV_take _ _ (by rw [List.length_map]; omega), List.map_take]
    have dr : cutV (ws.map V.str) (some (m / 6 % ((ws.map V.str).length : Int))) none = (ws.drop j).map V.str := by
      rw [hj, cutV_drop, List.map_drop]
    have dr1 : cutV (ws.map V.str) (some (m / 6 % ((ws.map V.str).length : Int) + 1)) none = (ws.drop (j + 1)).map V.str := by
      rw [hj, show ((j : Nat) : Int) + 1 = ((j + 1 : Nat) : Int) by omega, cutV_drop, List.map_drop]
    have zo := signs_ok z hzm
    have ok : ∀ us : List Str, us.length ≤ 500 → (∀ w ∈ us, w ∈ ws ∨ w = z) → Wsh us := fun us h1 h2 => ⟨h1, fun w hw' => by
      rcases h2 w hw' with e | e
      · exact hw w e
      · rw [e]; exact zo⟩
    have lt : (ws.take j).length ≤ 400 := by rw [List.length_take]; omega
    have ld : ∀ j, (ws.drop j).length ≤ 400 := fun j => by rw [List.length_drop]; omega
    have slT : ∀ H4, Same H H4 → ∀ R : VK, (∀ p1, H4 p1 = none → R (.ref p1) (upd H4 p1 (.lst ((ws.take j).map V.str)))) → rSlL K (.ref p) none (some (m / 6 % ((ws.map V.str).length : Int))) H4 R := fun H4 s4 R r => ⟨p, _, rfl, SqL.of (s4 _ _ hp), fun p1 h1 => by rw [tk]; exact r p1 h1⟩
    have slD : ∀ H4, Same H H4 → ∀ R : VK, (∀ p1, H4 p1 = none → R (.ref p1) (upd H4 p1 (.lst ((ws.drop j).map V.str)))) → rSlL K (.ref p) (some (m / 6 % ((ws.map V.str).length : Int))) none H4 R := fun H4 s4 R r => ⟨p, _, rfl, SqL.of (s4 _ _ hp), fun p1 h1 => by rw [dr]; exact r p1 h1⟩
    have slE : ∀ H4, Same H H4 → ∀ R : VK, (∀ p1, H4 p1 = none → R (.ref p1) (upd H4 p1 (.lst ((ws.drop (j + 1)).map V.str)))) → rSlL K (.ref p) (some (m / 6 % ((ws.map V.str).length : Int) + 1)) none H4 R := fun H4 s4 R r => ⟨p, _, rfl, SqL.of (s4 _ _ hp), fun p1 h1 => by rw [dr1]; exact r p1 h1⟩
    refine ifC (fun _ => ?_) (fun _ => ?_)
    · refine ⟨_, rfl, slT H3 s3 _ fun p1 h1 => ?_⟩
      have a1 := Same.new (o := .lst ((ws.take j).map V.str)) h1
      refine ⟨m / 6 % ((ws.map V.str).length : Int) + 1, rfl, p, _, rfl, SqL.of ((s3.trans a1) _ _ hp), fun p2 h2 => ?_⟩
      rw [dr1]
      have a2 := Same.new (o := .lst ((ws.drop (j + 1)).map V.str)) h2
      have := ld (j + 1)
      refine ⟨p1, p2, _, _, rfl, rfl, a2 _ _ upd_same, upd_same, by rw [List.length_map, List.length_map]; omega, fun p3 h3 => ?_⟩
      refine q _ p3 (ws.take j ++ ws.drop (j + 1)) (s3.trans (a1.trans (a2.trans (Same.new h3)))) (by rw [upd_same]; simp) (ok _ ?_ ?_)
      · rw [List.length_append, List.length_take, List.length_drop]; omega
      · intro w hw'
        rcases List.mem_append.mp hw' with e | e
        · exact .inl (List.mem_of_mem_take e)
        · exact .inl (List.mem_of_mem_drop e)
    refine ifC (fun _ => ?_) (fun _ => ?_)
    · refine ⟨_, rfl, slT H3 s3 _ fun p1 h1 => ?_⟩
      have a1 := Same.new (o := .lst ((ws.take j).map V.str)) h1
      refine ⟨(by decide : 1 ≤ sizeLine), fun p2 h2 => ?_⟩
      have a2 := Same.new (o := .lst [.str z]) h2
      refine ⟨p1, p2, _, _, rfl, rfl, a2 _ _ upd_same, upd_same, by simp; omega, fun p3 h3 => ?_⟩
      have a3 := Same.new (o := .lst ((ws.take j).map V.str ++ [.str z])) h3
      have b3 := s3.trans (a1.trans (a2.trans a3))
      refine ⟨m / 6 % ((ws.map V.str).length : Int), rfl, p, _, rfl, SqL.of (b3 _ _ hp), fun p4 h4 => ?_⟩
      rw [dr]
      have a4 := Same.new (o := .lst ((ws.drop j).map V.str)) h4
      have := ld (j)
      refine ⟨p3, p4, _, _, rfl, rfl, a4 _ _ upd_same, upd_same, by rw [List.length_append, List.length_map, List.length_map]; simp only [List.length_cons, List.length_nil]; omega, fun p5 h5 => ?_⟩
      refine q _ p5 (ws.take j ++ [z] ++ ws.drop j) (b3.trans (a4.trans (Same.new h5))) (by rw [upd_same]; simp) (ok _ ?_ ?_)
      · rw [List.length_append, List.length_append]; simp only [List.length_cons, List.length_nil, List.length_take, List.length_drop]; omega
      · intro w hw'
        rcases List.mem_append.mp hw' with e | e
        · rcases List.mem_append.mp e with e | e
          · exact .inl (List.mem_of_mem_take e)
          · exact .inr (List.mem_singleton.mp e)
        · exact .inl (List.mem_of_mem_drop e)
    refine ifC (fun _ => ?_) (fun _ => ?_)
    · refine ⟨_, rfl, slT H3 s3 _ fun p1 h1 => ?_⟩
      exact q _ p1 (ws.take j) (s3.trans (Same.new h1)) upd_same (ok _ (by omega) fun w hw' => .inl (List.mem_of_mem_take hw'))
    refine ifC (fun _ => ?_) (fun _ => ?_)
    · refine ⟨(by decide : 1 ≤ sizeLine), fun p2 h2 => ?_⟩
      have a2 := Same.new (o := .lst [.str z]) h2
      refine ⟨p, p2, _, _, rfl, rfl, a2 _ _ hp3, upd_same, by simp; omega, fun p3 h3 => ?_⟩
      refine q _ p3 (ws ++ [z]) (s3.trans (a2.trans (Same.new h3))) (by rw [upd_same]; simp) (ok _ (by simp; omega) fun w hw' => ?_)
      rcases List.mem_append.mp hw' with e | e
      · exact .inl e
      · exact .inr (List.mem_singleton.mp e)
    · refine ⟨_, rfl, slT H3 s3 _ fun p1 h1 => ?_⟩
      have a1 := Same.new (o := .lst ((ws.take j).map V.str)) h1
      refine ⟨(by decide : 1 ≤ sizeLine), fun p2 h2 => ?_⟩
      have a2 := Same.new (o := .lst [.str z]) h2
      refine ⟨p1, p2, _, _, rfl, rfl, a2 _ _ upd_same, upd_same, by simp; omega, fun p3 h3 => ?_⟩
      have a3 := Same.new (o := .lst ((ws.take j).map V.str ++ [.str z])) h3
      have b3 := s3.trans (a1.trans (a2.trans a3))
      refine ⟨m / 6 % ((ws.map V.str).length : Int) + 1, rfl, p, _, rfl, SqL.of (b3 _ _ hp), fun p4 h4 => ?_⟩
      rw [dr1]
      have a4 := Same.new (o := .lst ((ws.drop (j + 1)).map V.str)) h4
      have := ld (j + 1)
      refine ⟨p3, p4, _, _, rfl, rfl, a4 _ _ upd_same, upd_same, by rw [List.length_append, List.length_map, List.length_map]; simp only [List.length_cons, List.length_nil]; omega, fun p5 h5 => ?_⟩
      refine q _ p5 (ws.take j ++ [z] ++ ws.drop (j + 1)) (b3.trans (a4.trans (Same.new h5))) (by rw [upd_same]; simp) (ok _ ?_ ?_)
      · rw [List.length_append, List.length_append]; simp only [List.length_cons, List.length_nil, List.length_take, List.length_drop]; omega
      · intro w hw'
        rcases List.mem_append.mp hw' with e | e
        · rcases List.mem_append.mp e with e | e
          · exact .inl (List.mem_of_mem_take e)
          · exact .inr (List.mem_singleton.mp e)
        · exact .inl (List.mem_of_mem_drop e)
end
end My
set_option Elab.async false
set_option linter.all false
set_option maxRecDepth 100000
set_option maxHeartbeats 4000000
namespace My
open PySem L2 Pt
theorem words_ok : ∀ (n : Nat) (pl : Pl), Good n pl → ∀ w ∈ words pl, w.length ≤ 20 ∧ 32 ∉ w.cps.toList
  | n, .cnt k i, g, w, hw => by
    have g' : k < 4 ∧ lo k ≤ i ∧ i ≤ hi k := by cases n <;> exact g
    have b := lohi k
    rcases List.mem_cons.mp hw with rfl | hw
    · rcases (by omega : k = 0 ∨ k = 1 ∨ k = 2 ∨ k = 3) with rfl | rfl | rfl | rfl <;> exact ⟨by decide +kernel, by decide +kernel⟩
    · obtain rfl := List.mem_singleton.mp hw
      have z : (tS i).length ≤ 14 := slen (by omega) (by omega)
      refine ⟨by omega, fun h => ?_⟩
      rw [tS_codes] at h
      have := codes_ascii h
      omega
  | n + 1, .each p, g, w, hw => by
    have hp := words_ok n p g w
    simp only [words, List.mem_append, List.mem_cons, List.mem_singleton, List.not_mem_nil, or_false] at hw
    rcases hw with ((rfl | rfl) | h) | rfl
    · exact ⟨by decide +kernel, by decide +kernel⟩
    · exact ⟨by decide +kernel, by decide +kernel⟩
    · exact hp h
    · exact ⟨by decide +kernel, by decide +kernel⟩
  | n + 1, .fst p q, g, w, hw => by
    have hp := words_ok n p g.1 w
    have hq := words_ok n q g.2 w
    simp only [words, List.mem_append, List.mem_cons, List.mem_singleton, List.not_mem_nil, or_false] at hw
    rcases hw with ((((rfl | rfl) | h) | (rfl | rfl | rfl)) | h) | rfl
    · exact ⟨by decide +kernel, by decide +kernel⟩
    · exact ⟨by decide +kernel, by decide +kernel⟩
    · exact hp h
    · exact ⟨by decide +kernel, by decide +kernel⟩
    · exact ⟨by decide +kernel, by decide +kernel⟩
    · exact ⟨by decide +kernel, by decide +kernel⟩
    · exact hq h
    · exact ⟨by decide +kernel, by decide +kernel⟩
section
variable {P : Program} {w : World} {K : PySem.W.Frag} {mg : Str → Option Value} {base : Heap} {a : Ad}
abbrev lawK : Nat := 23
theorem ok_law (T : Txt K mg a) : FnOk P w K mg base CX0 lawK a.f_law a.d_law ["_law_script"] (spLaw K) := by
  have G_L_cell : FnOk P w K mg base CX0 22 _ _ _ (spCell K) := (ok_cell T).mono (by decide)
  have G_L_mixed : FnOk P w K mg base CX0 22 _ _ _ spMixed := (ok_mixed T).mono (by decide)
  have G_L_tree : FnOk P w K mg base CX0 22 _ _ _ (spTree 4) := (ok_tree T 4 (by decide)).mono (by decide)
  have G_L_words : FnOk P w K mg base CX0 22 _ _ _ (spWords 4) := (ok_words T 4 (by decide)).mono (by decide)
  have G_L_right : FnOk P w K mg base CX0 22 _ _ _ spRight := ok_right T
  have G_L_is : FnOk P w K mg base CX0 22 _ _ _ (spIs a 4) := (ok_is T 4 (by decide)).mono (by decide)
  have G_plan_of : FnOk P w K mg base CX0 22 _ _ _ (fun vs H Q _ => spPlanOf a vs H Q E0) := (calmG (ok_planof T)).mono (by decide)
  have G_L_spoiled : FnOk P w K mg base CX0 22 _ _ _ spSpoiled := (ok_spoiled T).mono (by decide)
  have G_L_whole : FnOk P w K mg base CX0 22 _ _ _ (spWhole 0) := (ok_whole T 0).mono (by decide)
  have G_L_told : FnOk P w K mg base CX0 22 _ _ _ (spTold a) := (ok_told T).mono (by decide)
  refine T.F_law.ok sc_law (fun vs H Q E h => ?_) (fun cdv A outer s H vs Q E hr h => ?_)
  · obtain ⟨p, ns, rfl, _⟩ := h; rfl
  · obtain ⟨p, ns, rfl, hS, hlen, q⟩ := h
    refine ⟨_, (pss_cons (ps_for PassesOwn.never rfl (pi_range1 rfl T.z_range (pa_cons (pe_callB (call_max2 rfl) rfl T.z_max bt_max (pa_cons pe_int (pa_cons (pe_callB (call_min2 rfl) rfl T.z_min bt_min (pa_cons pe_int (pa_cons (pe_callB call_lenM rfl T.z_len bt_len (pa_cons (vr 0) pa_nil)) pa_nil))) pa_nil))) pa_nil)) (pg_name (i := 1) sc_law.nd rfl (Or.inl rfl)) (pss_cons (ps_set (i := 2) sc_law.nd rfl (Or.inl rfl) (pe_call G_L_cell hr rfl T.m_L_cell T.F_L_cell.kp T.B_L_cell .nil pass0 (pa_cons (vr 0) (pa_cons (vr 1) pa_nil)))) (pss_cons (ps_set (i := 3) sc_law.nd rfl (Or.inl rfl) (pe_op o_add (pe_op o_add (pe_call G_L_mixed hr rfl T.m_L_mixed T.F_L_mixed.kp T.B_L_mixed .nil pass0 (pa_cons (vr 2) (pa_cons pe_int pa_nil))) (pe_op o_mulB (pe_call G_L_mixed hr rfl T.m_L_mixed T.F_L_mixed.kp T.B_L_mixed .nil pass0 (pa_cons (vr 2) (pa_cons pe_int pa_nil))) (pe_op o_pow pe_int pe_int))) (pe_op o_mulB (pe_call G_L_mixed hr rfl T.m_L_mixed T.F_L_mixed.kp T.B_L_mixed .nil pass0 (pa_cons (vr 2) (pa_cons pe_int pa_nil))) (pe_op o_pow pe_int pe_int)))) (pss_cons (ps_set (i := 4) sc_law.nd rfl (Or.inl rfl) (pe_ix ix_seq (pe_call G_L_tree hr rfl T.m_L_tree T.F_L_tree.kp T.B_L_tree .nil pass0 (pa_cons (vr 3) (pa_cons pe_int (pa_cons pe_bl pa_nil)))) pe_int (fun _ _ => rfl))) (pss_cons (ps_set (i := 5) sc_law.nd rfl (Or.inl rfl) (pe_call G_L_words hr rfl T.m_L_words T.F_L_words.kp T.B_L_words .nil pass0 (pa_cons (vr 4) pa_nil))) (pss_cons (ps_if (PW.pt (pw_or (pt_not (t_val (pe_call G_L_right hr rfl T.m_L_right T.F_L_right.kp T.B_L_right .nil pass0 (pa_cons (vr 5) pa_nil)))) (pw_or1 (pt_not (t_val (pe_call G_L_is hr rfl T.m_L_is T.F_L_is.kp T.B_L_is .nil pass0 (pa_cons (pe_call G_plan_of hr rfl T.m_plan_of T.F_plan_of.kp T.B_plan_of .nil pass0 (pa_cons (pe_m.join pe_str (pa_cons (vr 5) pa_nil)) pa_nil)) (pa_cons (vr 4) pa_nil)))))))) (pss_one (ps_ret pe_bl)) pss_nil) (pss_cons (ps_if (pt_not (t_val (pe_call G_L_right hr rfl T.m_L_right T.F_L_right.kp T.B_L_right .nil pass0 (pa_cons (pe_call G_L_spoiled hr rfl T.m_L_spoiled T.F_L_spoiled.kp T.B_L_spoiled .nil pass0 (pa_cons (vr 5) (pa_cons (vr 2) pa_nil))) pa_nil)))) (pss_one (ps_ret pe_bl)) pss_nil) (pss_cons (ps_set (i := 6) sc_law.nd rfl (Or.inl rfl) (pe_ix ix_seq (pe_lstQ (paq_cons pe_non (paq_cons pe_int (paq_cons (vr 5) (paq_cons (pe_tup (pa_cons pe_str (pa_cons pe_str pa_nil))) (paq_cons pe_bl (paq_cons pe_dnewK paq_nil))))))) (pe_op o_mod (vr 3) pe_int) (fun _ _ => rfl))) (pss_one (ps_if (pt_not (t_val (pe_call G_L_whole hr rfl T.m_L_whole T.F_L_whole.kp T.B_L_whole .nil pass0 (pa_cons (pe_call G_L_told hr rfl T.m_L_told T.F_L_told.kp T.B_L_told .nil pass0 (pa_cons (vr 6) pa_nil)) (pa_cons pe_int pa_nil))))) (pss_one (ps_ret pe_bl)) pss_nil)))))))))) (pss_one (ps_ret (m_and (pe_call G_L_right hr rfl T.m_L_right T.F_L_right.kp T.B_L_right .nil pass0 (pa_cons (pe_lst (pa_cons pe_str pa_nil)) pa_nil)) (m_and (pe_call G_L_right hr rfl T.m_L_right T.F_L_right.kp T.B_L_right .nil pass0 (pa_cons (pe_lst (pa_cons pe_str pa_nil)) pa_nil)) (pe_one (pe_call G_L_right hr rfl T.m_L_right T.F_L_right.kp T.B_L_right .nil pass0 (pa_cons (pe_lst (pa_cons pe_str (pa_cons pe_str (pa_cons pe_str pa_nil)))) pa_nil)))))))), ?_⟩
    refine ⟨ns.map V.int, .inl hS, 20, ((ns.map V.int).length : Int), rfl, 1, _, rfl, _, rfl, by split <;> split <;> omega, by split <;> split <;> omega, ?_⟩
    refine for_range (fun i σ H' => Same H H' ∧ ∃ (x1 x2 x3 x4 x5 x6 : Option V), σ = [some (.ref p), x1, x2, x3, x4, x5, x6]) ⟨Same.refl H, none, none, none, none, none, none, rfl⟩ ?_ ?_
    · rintro k σ H1 hk ⟨s1, x1, x2, x3, x4, x5, x6, rfl⟩
      have hk' : k < 40 := by revert hk; split <;> split <;> omega
      refine ⟨p, ns, 0 + (k : Int), rfl, s1.seq hS, hlen, by omega, by omega, ?_⟩
      generalize cellAt ns (0 + (k : Int)) = c
      have b0 := mixed_bd c 0
      have b2 := mixed_bd c 2
      have b3 := mixed_bd c 3
      refine ⟨c, 0, rfl, by decide, by decide, c, 2, rfl, by decide, by decide, cw, clB (by omega) (by omega), c, 3, rfl, by decide, by decide, cw, clB (by omega) (by omega), ?_⟩
      have N0 : 0 ≤ mixed c 0 + mixed c 2 * 2 ^ (40 : Int).toNat + mixed c 3 * 2 ^ (64 : Int).toNat := by
        have h2 : 0 ≤ mixed c 2 * 2 ^ (40 : Int).toNat := Int.mul_nonneg (by omega) (by decide)
        have h3 : 0 ≤ mixed c 3 * 2 ^ (64 : Int).toNat := Int.mul_nonneg (by omega) (by decide)
        omega
      refine ⟨mixed c 0 + mixed c 2 * 2 ^ (40 : Int).toNat + mixed c 3 * 2 ^ (64 : Int).toNat, 0, rfl, rfl, by decide, N0, fun H2 t v pl N' s2 ht N1 htr g => ?_⟩
      refine .inr (.inl ⟨t, _, 0, v, rfl, rfl, SqT.of ht, rfl, ?_⟩)
      refine ⟨v, pl, rfl, g, htr, fun H3 q3 s3 h3 => ?_⟩
      have g3 : Good 3 pl := g
      have wl := words_len pl
      have zl := g.sz (by decide)
      have wo := words_ok 3 pl g3
      have wsh : Wsh (words pl) := ⟨by omega, wo⟩
      have eone : one (words pl) = words pl := if_neg (words_ne pl)
      have t3 := s1.trans (s2.trans s3)
      refine ⟨q3, words pl, rfl, h3, wsh, fun H4 s4 => ?_⟩
      refine ⟨rfl, " ", q3, words pl, rfl, rfl, .inl (SqL.of (s4 _ _ h3)), join_sz wsh, ?_⟩
      refine ⟨_, rfl, .inl ⟨Txt.join " " (words pl), words pl, rfl, join_len wsh, ?_, by omega, fun w hw => by have := (wo w hw).1; omega, ?_⟩⟩
      · have := (one_ok wsh).2.2
        rw [eone] at this
        exact this
      have pw := parse_words 3 pl g3 [] 0
      rw [List.append_nil] at pw
      rw [pw]
      intro H5 v5 s5 hv5
      have t45 := s4.trans s5
      refine ⟨v5, v, pl, rfl, g, hv5, htr.same (s3.trans t45), fun H6 s6 => ?_⟩
      have t36 := t45.trans s6
      refine ⟨q3, words pl, c, rfl, t36 _ _ h3, words_ne pl, by omega, wo, fun H7 q7 us s7 h7 w7 => ?_⟩
      refine ⟨q7, us, rfl, h7, w7, fun H8 s8 => ?_⟩
      have t8 := t3.trans (t36.trans (s7.trans s8))
      have h38 := (t36.trans (s7.trans s8)) _ _ h3
      refine ⟨(by decide : 2 ≤ sizeLine), fun t9 ht9 => ?_⟩
      have s9 := Same.new (o := .tup [.str "few", .str "1"]) ht9
      refine fun d9 hd9 => ?_
      have s10 := Same.new (o := .dK []) hd9
      refine ⟨(by decide : 6 ≤ sizeLine), fun l9 hl9 => ?_⟩
      have s11 := Same.new (o := .lst [.non, .int 7, .ref q3, .ref t9, .bl true, .ref d9]) hl9
      have t11 := s9.trans (s10.trans s11)
      obtain ⟨v9, o9, e9, th9, ns9⟩ : ∃ v9 o9, atI [V.non, .int 7, .ref q3, .ref t9, .bl true, .ref d9] ((mixed c 0 + mixed c 2 * 2 ^ (40 : Int).toNat + mixed c 3 * 2 ^ (64 : Int).toNat) % 6) = some v9 ∧ Thing (upd (upd (upd H8 t9 (.tup [.str "few", .str "1"])) d9 (.dK [])) l9 (.lst [.non, .int 7, .ref q3, .ref t9, .bl true, .ref d9])) v9 o9 ∧ ∀ t, v9 ≠ .str t := by
        have m0 := Int.emod_nonneg (mixed c 0 + mixed c 2 * 2 ^ (40 : Int).toNat + mixed c 3 * 2 ^ (64 : Int).toNat) (show (6 : Int) ≠ 0 by decide)
        have m1 := Int.emod_lt_of_pos (mixed c 0 + mixed c 2 * 2 ^ (40 : Int).toNat + mixed c 3 * 2 ^ (64 : Int).toNat) (show (0 : Int) < 6 by decide)
        generalize (mixed c 0 + mixed c 2 * 2 ^ (40 : Int).toNat + mixed c 3 * 2 ^ (64 : Int).toNat) % 6 = mm at m0 m1
        rcases (by omega : mm = 0 ∨ mm = 1 ∨ mm = 2 ∨ mm = 3 ∨ mm = 4 ∨ mm = 5) with rfl | rfl | rfl | rfl | rfl | rfl
        · exact ⟨_, _, rfl, .non, fun _ z => by cases z⟩
        · exact ⟨_, _, rfl, .int 7, fun _ z => by cases z⟩
        · exact ⟨_, _, rfl, .lst q3 _ (t11 _ _ h38), fun _ z => by cases z⟩
        · exact ⟨_, _, rfl, .tup t9 _ ((s10.trans s11) _ _ upd_same), fun _ z => by cases z⟩
        · exact ⟨_, _, rfl, .bl true, fun _ z => by cases z⟩
        · exact ⟨_, _, rfl, .dK d9 _ (s11 _ _ upd_same), fun _ z => by cases z⟩
      refine ⟨cp, ?_⟩
      refine .inl ⟨l9, _, _, v9, rfl, rfl, SqL.of upd_same, e9, ?_⟩
      refine ⟨v9, rfl, .inr ⟨ns9, ⟨o9, th9⟩, fun H12 s12 => ?_⟩⟩
      refine ⟨.int 0, some 0, rfl, .int 0, ?_⟩
      exact ⟨t8.trans (t11.trans s12), _, _, _, _, _, _, rfl⟩
    · rintro σ H' ⟨s1, x1, x2, x3, x4, x5, x6, rfl⟩
      refine ⟨(by decide : 1 ≤ sizeLine), fun l1 h1 => ?_⟩
      refine ⟨l1, [""], rfl, upd_same, ⟨by decide, by decide +kernel⟩, fun H2 s2 => ?_⟩
      refine ⟨(by decide : 1 ≤ sizeLine), fun l3 h3 => ?_⟩
      refine ⟨l3, ["few"], rfl, upd_same, ⟨by decide, by decide +kernel⟩, fun H4 s4 => ?_⟩
      refine ⟨(by decide : 3 ≤ sizeLine), fun l5 h5 => ?_⟩
      exact ⟨l5, ["few", "3", ""], rfl, upd_same, ⟨by decide, by decide +kernel⟩, fun H6 s6 => q H6⟩
end
end My
set_option Elab.async false
set_option linter.all false
set_option maxRecDepth 100000
set_option maxHeartbeats 4000000
namespace My
open PySem L2 Pt
theorem us0 {α : Type} : ∀ {us : List α}, us.length = 0 → us = []
  | [], _ => rfl
theorem us1 {α : Type} : ∀ {us : List α}, us.length = 1 → ∃ a0, us = [a0]
  | [_], _ => ⟨_, rfl⟩
theorem us2 {α : Type} : ∀ {us : List α}, us.length = 2 → ∃ a0 a1, us = [a0, a1]
  | [_, _], _ => ⟨_, _, rfl⟩
theorem us3 {α : Type} : ∀ {us : List α}, us.length = 3 → ∃ a0 a1 a2, us = [a0, a1, a2]
  | [_, _, _], _ => ⟨_, _, _, rfl⟩
theorem us4 {α : Type} : ∀ {us : List α}, us.length = 4 → ∃ a0 a1 a2 a3, us = [a0, a1, a2, a3]
  | [_, _, _, _], _ => ⟨_, _, _, _, rfl⟩
theorem us5 {α : Type} : ∀ {us : List α}, us.length = 5 → ∃ a0 a1 a2 a3 a4, us = [a0, a1, a2, a3, a4]
  | [_, _, _, _, _], _ => ⟨_, _, _, _, _, rfl⟩
theorem us6 {α : Type} : ∀ {us : List α}, us.length = 6 → ∃ a0 a1 a2 a3 a4 a5, us = [a0, a1, a2, a3, a4, a5]
  | [_, _, _, _, _, _], _ => ⟨_, _, _, _, _, _, rfl⟩
theorem us7 {α : Type} : ∀ {us : List α}, us.length = 7 → ∃ a0 a1 a2 a3 a4 a5 a6, us = [a0, a1, a2, a3, a4, a5, a6]
  | [_, _, _, _, _, _, _], _ => ⟨_, _, _, _, _, _, _, rfl⟩
theorem txt_mk {K : PySem.W.Frag} {h : Heap} {mg : Str → Option Value} {f0 : Addr} {od0 an0 : Option Addr} {sl0 : Array (Option Value)} {oc0 kV0 dc0 pm0 cd0 ct0 : Value} {f1 : Addr} {od1 an1 : Option Addr} {sl1 : Array (Option Value)} {oc1 kV1 dc1 pm1 cd1 ct1 : Value} {f2 : Addr} {od2 an2 : Option Addr} {sl2 : Array (Option Value)} {oc2 kV2 dc2 pm2 cd2 ct2 : Value} {f3 : Addr} {od3 an3 : Option Addr} {sl3 : Array (Option Value)} {oc3 kV3 dc3 pm3 cd3 ct3 : Value} {f4 : Addr} {od4 an4 : Option Addr} {sl4 : Array (Option Value)} {oc4 kV4 dc4 pm4 cd4 ct4 : Value} {f5 : Addr} {od5 an5 : Option Addr} {sl5 : Array (Option Value)} {oc5 kV5 dc5 pm5 cd5 ct5 : Value} {f6 : Addr} {od6 an6 : Option Addr} {sl6 : Array (Option Value)} {oc6 kV6 dc6 pm6 cd6 ct6 : Value} {f7 : Addr} {od7 an7 : Option Addr} {sl7 : Array (Option Value)} {oc7 kV7 dc7 pm7 cd7 ct7 : Value} {f8 : Addr} {od8 an8 : Option Addr} {sl8 : Array (Option Value)} {oc8 kV8 dc8 pm8 cd8 ct8 : Value} {f9 : Addr} {od9 an9 : Option Addr} {sl9 : Array (Option Value)} {oc9 kV9 dc9 pm9 cd9 ct9 : Value} {f10 : Addr} {od10 an10 : Option Addr} {sl10 : Array (Option Value)} {oc10 kV10 dc10 pm10 cd10 ct10 : Value} {f11 : Addr} {od11 an11 : Option Addr} {sl11 : Array (Option Value)} {oc11 kV11 dc11 pm11 cd11 ct11 : Value} {f12 : Addr} {od12 an12 : Option Addr} {sl12 : Array (Option Value)} {oc12 kV12 dc12 pm12 cd12 ct12 : Value} {f13 : Addr} {od13 an13 : Option Addr} {sl13 : Array (Option Value)} {oc13 kV13 dc13 pm13 cd13 ct13 : Value} {f14 : Addr} {od14 an14 : Option Addr} {sl14 : Array (Option Value)} {oc14 kV14 dc14 pm14 cd14 ct14 : Value} {f15 : Addr} {od15 an15 : Option Addr} {sl15 : Array (Option Value)} {oc15 kV15 dc15 pm15 cd15 ct15 : Value} {f16 : Addr} {od16 an16 : Option Addr} {sl16 : Array (Option Value)} {oc16 kV16 dc16 pm16 cd16 ct16 : Value} {f17 : Addr} {od17 an17 : Option Addr} {sl17 : Array (Option Value)} {oc17 kV17 dc17 pm17 cd17 ct17 : Value} {f18 : Addr} {od18 an18 : Option Addr} {sl18 : Array (Option Value)} {oc18 kV18 dc18 pm18 cd18 ct18 : Value} {f19 : Addr} {od19 an19 : Option Addr} {sl19 : Array (Option Value)} {oc19 kV19 dc19 pm19 cd19 ct19 : Value} {f20 : Addr} {od20 an20 : Option Addr} {sl20 : Array (Option Value)} {oc20 kV20 dc20 pm20 cd20 ct20 : Value} {f21 : Addr} {od21 an21 : Option Addr} {sl21 : Array (Option Value)} {oc21 kV21 dc21 pm21 cd21 ct21 : Value} {f22 : Addr} {od22 an22 : Option Addr} {sl22 : Array (Option Value)} {oc22 kV22 dc22 pm22 cd22 ct22 : Value} {f23 : Addr} {od23 an23 : Option Addr} {sl23 : Array (Option Value)} {oc23 kV23 dc23 pm23 cd23 ct23 : Value} {f24 : Addr} {od24 an24 : Option Addr} {sl24 : Array (Option Value)} {oc24 kV24 dc24 pm24 cd24 ct24 : Value} {f25 : Addr} {od25 an25 : Option Addr} {sl25 : Array (Option Value)} {oc25 kV25 dc25 pm25 cd25 ct25 : Value} {k_COUNTED : Addr} {u0 : Value} {u1 : Value} {u2 : Value} {u3 : Value} {u4 : Value} {c_SpeakError : Addr} {c_NoListing : Addr} {i_NoListing : Addr} {od_NoListing an_NoListing : Option Addr} {sl_NoListing : Array (Option Value)} {oc_NoListing kV_NoListing dc_NoListing pm_NoListing cd_NoListing ct_NoListing : Value} {c_NoUnits : Addr} {c_NoPlan : Addr} {i_NoPlan : Addr} {od_NoPlan an_NoPlan : Option Addr} {sl_NoPlan : Array (Option Value)} {oc_NoPlan kV_NoPlan dc_NoPlan pm_NoPlan cd_NoPlan ct_NoPlan : Value} {c_NoLevel : Addr} {c_NoThrow : Addr} {i_NoThrow : Addr} {od_NoThrow an_NoThrow : Option Addr} {sl_NoThrow : Array (Option Value)} {oc_NoThrow kV_NoThrow dc_NoThrow pm_NoThrow cd_NoThrow ct_NoThrow : Value} {c_Plan : Addr} {c_Few : Addr} {i_Few : Addr} {od_Few an_Few : Option Addr} {sl_Few : Array (Option Value)} {oc_Few kV_Few dc_Few pm_Few cd_Few ct_Few : Value} {c_Start : Addr} {i_Start : Addr} {od_Start an_Start : Option Addr} {sl_Start : Array (Option Value)} {oc_Start kV_Start dc_Start pm_Start cd_Start ct_Start : Value} {c_Loose : Addr} {i_Loose : Addr} {od_Loose an_Loose : Option Addr} {sl_Loose : Array (Option Value)} {oc_Loose kV_Loose dc_Loose pm_Loose cd_Loose ct_Loose : Value} {c_Duel : Addr} {i_Duel : Addr} {od_Duel an_Duel : Option Addr} {sl_Duel : Array (Option Value)} {oc_Duel kV_Duel dc_Duel pm_Duel cd_Duel ct_Duel : Value} {c_Each : Addr} {i_Each : Addr} {od_Each an_Each : Option Addr} {sl_Each : Array (Option Value)} {oc_Each kV_Each dc_Each pm_Each cd_Each ct_Each : Value} {c_First : Addr} {i_First : Addr} {od_First an_First : Option Addr} {sl_First : Array (Option Value)} {oc_First kV_First dc_First pm_First cd_First ct_First : Value} {x_Few_text : Addr} {od_Few_text an_Few_text : Option Addr} {sl_Few_text : Array (Option Value)} {oc_Few_text kV_Few_text dc_Few_text pm_Few_text cd_Few_text ct_Few_text : Value} {x_Start_text : Addr} {od_Start_text an_Start_text : Option Addr} {sl_Start_text : Array (Option Value)} {oc_Start_text kV_Start_text dc_Start_text pm_Start_text cd_Start_text ct_Start_text : Value} {x_Loose_text : Addr} {od_Loose_text an_Loose_text : Option Addr} {sl_Loose_text : Array (Option Value)} {oc_Loose_text kV_Loose_text dc_Loose_text pm_Loose_text cd_Loose_text ct_Loose_text : Value} {x_Duel_text : Addr} {od_Duel_text an_Duel_text : Option Addr} {sl_Duel_text : Array (Option Value)} {oc_Duel_text kV_Duel_text dc_Duel_text pm_Duel_text cd_Duel_text ct_Duel_text : Value} {x_Each_text : Addr} {od_Each_text an_Each_text : Option Addr} {sl_Each_text : Array (Option Value)} {oc_Each_text kV_Each_text dc_Each_text pm_Each_text cd_Each_text ct_Each_text : Value} {x_First_text : Addr} {od_First_text an_First_text : Option Addr} {sl_First_text : Array (Option Value)} {oc_First_text kV_First_text dc_First_text pm_First_text cd_First_text ct_First_text : Value} (X : K.In h) (G : h.Ns mainGlobals mg)
    (a0 : PySem.W.nsIn K mainGlobals "is_whole" = some (some (.ref f0))) (l0 : K.lookup f0 = some ⟨oc0, od0, .func (PySem.W.fnOf "is_whole" "is_whole" (defArgs s_is_whole) (defBody s_is_whole) (defScope s_is_whole) .none kV0 dc0 pm0 an0 cd0 ct0), sl0⟩) (c0 : PySem.W.codeIn K cd0 "is_whole" = true) (k0 : PySem.W.keepIn K (.ref f0) = true)
    (a1 : PySem.W.nsIn K mainGlobals "is_made_of" = some (some (.ref f1))) (l1 : K.lookup f1 = some ⟨oc1, od1, .func (PySem.W.fnOf "is_made_of" "is_made_of" (defArgs s_is_made_of) (defBody s_is_made_of) (defScope s_is_made_of) .none kV1 dc1 pm1 an1 cd1 ct1), sl1⟩) (c1 : PySem.W.codeIn K cd1 "is_made_of" = true) (k1 : PySem.W.keepIn K (.ref f1) = true)
    (a2 : PySem.W.nsIn K mainGlobals "number_of" = some (some (.ref f2))) (l2 : K.lookup f2 = some ⟨oc2, od2, .func (PySem.W.fnOf "number_of" "number_of" (defArgs s_number_of) (defBody s_number_of) (defScope s_number_of) .none kV2 dc2 pm2 an2 cd2 ct2), sl2⟩) (c2 : PySem.W.codeIn K cd2 "number_of" = true) (k2 : PySem.W.keepIn K (.ref f2) = true)
    (a3 : PySem.W.nsIn K mainGlobals "need_number" = some (some (.ref f3))) (l3 : K.lookup f3 = some ⟨oc3, od3, .func (PySem.W.fnOf "need_number" "need_number" (defArgs s_need_number) (defBody s_need_number) (defScope s_need_number) .none kV3 dc3 pm3 an3 cd3 ct3), sl3⟩) (c3 : PySem.W.codeIn K cd3 "need_number" = true) (k3 : PySem.W.keepIn K (.ref f3) = true)
    (a4 : PySem.W.nsIn K mainGlobals "text_of" = some (some (.ref f4))) (l4 : K.lookup f4 = some ⟨oc4, od4, .func (PySem.W.fnOf "text_of" "text_of" (defArgs s_text_of) (defBody s_text_of) (defScope s_text_of) .none kV4 dc4 pm4 an4 cd4 ct4), sl4⟩) (c4 : PySem.W.codeIn K cd4 "text_of" = true) (k4 : PySem.W.keepIn K (.ref f4) = true)
    (a5 : PySem.W.nsIn K mainGlobals "plan_of" = some (some (.ref f5))) (l5 : K.lookup f5 = some ⟨oc5, od5, .func (PySem.W.fnOf "plan_of" "plan_of" (defArgs s_plan_of) (defBody s_plan_of) (defScope s_plan_of) .none kV5 dc5 pm5 an5 cd5 ct5), sl5⟩) (c5 : PySem.W.codeIn K cd5 "plan_of" = true) (k5 : PySem.W.keepIn K (.ref f5) = true)
    (a6 : PySem.W.nsIn K mainGlobals "plan_at" = some (some (.ref f6))) (l6 : K.lookup f6 = some ⟨oc6, od6, .func (PySem.W.fnOf "plan_at" "plan_at" (defArgs s_plan_at) (defBody s_plan_at) (defScope s_plan_at) .none kV6 dc6 pm6 an6 cd6 ct6), sl6⟩) (c6 : PySem.W.codeIn K cd6 "plan_at" = true) (k6 : PySem.W.keepIn K (.ref f6) = true)
    (a7 : PySem.W.nsIn K mainGlobals "word_at" = some (some (.ref f7))) (l7 : K.lookup f7 = some ⟨oc7, od7, .func (PySem.W.fnOf "word_at" "word_at" (defArgs s_word_at) (defBody s_word_at) (defScope s_word_at) .none kV7 dc7 pm7 an7 cd7 ct7), sl7⟩) (c7 : PySem.W.codeIn K cd7 "word_at" = true) (k7 : PySem.W.keepIn K (.ref f7) = true)
    (a8 : PySem.W.nsIn K mainGlobals "behind_word" = some (some (.ref f8))) (l8 : K.lookup f8 = some ⟨oc8, od8, .func (PySem.W.fnOf "behind_word" "behind_word" (defArgs s_behind_word) (defBody s_behind_word) (defScope s_behind_word) .none kV8 dc8 pm8 an8 cd8 ct8), sl8⟩) (c8 : PySem.W.codeIn K cd8 "behind_word" = true) (k8 : PySem.W.keepIn K (.ref f8) = true)
    (a9 : PySem.W.nsIn K mainGlobals "counted_at" = some (some (.ref f9))) (l9 : K.lookup f9 = some ⟨oc9, od9, .func (PySem.W.fnOf "counted_at" "counted_at" (defArgs s_counted_at) (defBody s_counted_at) (defScope s_counted_at) .none kV9 dc9 pm9 an9 cd9 ct9), sl9⟩) (c9 : PySem.W.codeIn K cd9 "counted_at" = true) (k9 : PySem.W.keepIn K (.ref f9) = true)
    (a10 : PySem.W.nsIn K mainGlobals "counted_plan" = some (some (.ref f10))) (l10 : K.lookup f10 = some ⟨oc10, od10, .func (PySem.W.fnOf "counted_plan" "counted_plan" (defArgs s_counted_plan) (defBody s_counted_plan) (defScope s_counted_plan) .none kV10 dc10 pm10 an10 cd10 ct10), sl10⟩) (c10 : PySem.W.codeIn K cd10 "counted_plan" = true) (k10 : PySem.W.keepIn K (.ref f10) = true)
    (a11 : PySem.W.nsIn K mainGlobals "each_at" = some (some (.ref f11))) (l11 : K.lookup f11 = some ⟨oc11, od11, .func (PySem.W.fnOf "each_at" "each_at" (defArgs s_each_at) (defBody s_each_at) (defScope s_each_at) .none kV11 dc11 pm11 an11 cd11 ct11), sl11⟩) (c11 : PySem.W.codeIn K cd11 "each_at" = true) (k11 : PySem.W.keepIn K (.ref f11) = true)
    (a12 : PySem.W.nsIn K mainGlobals "first_at" = some (some (.ref f12))) (l12 : K.lookup f12 = some ⟨oc12, od12, .func (PySem.W.fnOf "first_at" "first_at" (defArgs s_first_at) (defBody s_first_at) (defScope s_first_at) .none kV12 dc12 pm12 an12 cd12 ct12), sl12⟩) (c12 : PySem.W.codeIn K cd12 "first_at" = true) (k12 : PySem.W.keepIn K (.ref f12) = true)
    (a13 : PySem.W.nsIn K mainGlobals "bracketed_at" = some (some (.ref f13))) (l13 : K.lookup f13 = some ⟨oc13, od13, .func (PySem.W.fnOf "bracketed_at" "bracketed_at" (defArgs s_bracketed_at) (defBody s_bracketed_at) (defScope s_bracketed_at) .none kV13 dc13 pm13 an13 cd13 ct13), sl13⟩) (c13 : PySem.W.codeIn K cd13 "bracketed_at" = true) (k13 : PySem.W.keepIn K (.ref f13) = true)
    (a14 : PySem.W.nsIn K mainGlobals "_law_cell" = some (some (.ref f14))) (l14 : K.lookup f14 = some ⟨oc14, od14, .func (PySem.W.fnOf "_law_cell" "_law_cell" (defArgs s_L_cell) (defBody s_L_cell) (defScope s_L_cell) .none kV14 dc14 pm14 an14 cd14 ct14), sl14⟩) (c14 : PySem.W.codeIn K cd14 "_law_cell" = true) (k14 : PySem.W.keepIn K (.ref f14) = true)
    (a15 : PySem.W.nsIn K mainGlobals "_law_mixed" = some (some (.ref f15))) (l15 : K.lookup f15 = some ⟨oc15, od15, .func (PySem.W.fnOf "_law_mixed" "_law_mixed" (defArgs s_L_mixed) (defBody s_L_mixed) (defScope s_L_mixed) .none kV15 dc15 pm15 an15 cd15 ct15), sl15⟩) (c15 : PySem.W.codeIn K cd15 "_law_mixed" = true) (k15 : PySem.W.keepIn K (.ref f15) = true)
    (a16 : PySem.W.nsIn K mainGlobals "_law_tree" = some (some (.ref f16))) (l16 : K.lookup f16 = some ⟨oc16, od16, .func (PySem.W.fnOf "_law_tree" "_law_tree" (defArgs s_L_tree) (defBody s_L_tree) (defScope s_L_tree) .none kV16 dc16 pm16 an16 cd16 ct16), sl16⟩) (c16 : PySem.W.codeIn K cd16 "_law_tree" = true) (k16 : PySem.W.keepIn K (.ref f16) = true)
    (a17 : PySem.W.nsIn K mainGlobals "_law_words" = some (some (.ref f17))) (l17 : K.lookup f17 = some ⟨oc17, od17, .func (PySem.W.fnOf "_law_words" "_law_words" (defArgs s_L_words) (defBody s_L_words) (defScope s_L_words) .none kV17 dc17 pm17 an17 cd17 ct17), sl17⟩) (c17 : PySem.W.codeIn K cd17 "_law_words" = true) (k17 : PySem.W.keepIn K (.ref f17) = true)
    (a18 : PySem.W.nsIn K mainGlobals "_law_whole" = some (some (.ref f18))) (l18 : K.lookup f18 = some ⟨oc18, od18, .func (PySem.W.fnOf "_law_whole" "_law_whole" (defArgs s_L_whole) (defBody s_L_whole) (defScope s_L_whole) .none kV18 dc18 pm18 an18 cd18 ct18), sl18⟩) (c18 : PySem.W.codeIn K cd18 "_law_whole" = true) (k18 : PySem.W.keepIn K (.ref f18) = true)
    (a19 : PySem.W.nsIn K mainGlobals "_law_is" = some (some (.ref f19))) (l19 : K.lookup f19 = some ⟨oc19, od19, .func (PySem.W.fnOf "_law_is" "_law_is" (defArgs s_L_is) (defBody s_L_is) (defScope s_L_is) .none kV19 dc19 pm19 an19 cd19 ct19), sl19⟩) (c19 : PySem.W.codeIn K cd19 "_law_is" = true) (k19 : PySem.W.keepIn K (.ref f19) = true)
    (a20 : PySem.W.nsIn K mainGlobals "_law_spoiled" = some (some (.ref f20))) (l20 : K.lookup f20 = some ⟨oc20, od20, .func (PySem.W.fnOf "_law_spoiled" "_law_spoiled" (defArgs s_L_spoiled) (defBody s_L_spoiled) (defScope s_L_spoiled) .none kV20 dc20 pm20 an20 cd20 ct20), sl20⟩) (c20 : PySem.W.codeIn K cd20 "_law_spoiled" = true) (k20 : PySem.W.keepIn K (.ref f20) = true)
    (a21 : PySem.W.nsIn K mainGlobals "_law_opens" = some (some (.ref f21))) (l21 : K.lookup f21 = some ⟨oc21, od21, .func (PySem.W.fnOf "_law_opens" "_law_opens" (defArgs s_L_opens) (defBody s_L_opens) (defScope s_L_opens) .none kV21 dc21 pm21 an21 cd21 ct21), sl21⟩) (c21 : PySem.W.codeIn K cd21 "_law_opens" = true) (k21 : PySem.W.keepIn K (.ref f21) = true)
    (a22 : PySem.W.nsIn K mainGlobals "_law_wrong" = some (some (.ref f22))) (l22 : K.lookup f22 = some ⟨oc22, od22, .func (PySem.W.fnOf "_law_wrong" "_law_wrong" (defArgs s_L_wrong) (defBody s_L_wrong) (defScope s_L_wrong) .none kV22 dc22 pm22 an22 cd22 ct22), sl22⟩) (c22 : PySem.W.codeIn K cd22 "_law_wrong" = true) (k22 : PySem.W.keepIn K (.ref f22) = true)
    (a23 : PySem.W.nsIn K mainGlobals "_law_told" = some (some (.ref f23))) (l23 : K.lookup f23 = some ⟨oc23, od23, .func (PySem.W.fnOf "_law_told" "_law_told" (defArgs s_L_told) (defBody s_L_told) (defScope s_L_told) .none kV23 dc23 pm23 an23 cd23 ct23), sl23⟩) (c23 : PySem.W.codeIn K cd23 "_law_told" = true) (k23 : PySem.W.keepIn K (.ref f23) = true)
    (a24 : PySem.W.nsIn K mainGlobals "_law_right" = some (some (.ref f24))) (l24 : K.lookup f24 = some ⟨oc24, od24, .func (PySem.W.fnOf "_law_right" "_law_right" (defArgs s_L_right) (defBody s_L_right) (defScope s_L_right) .none kV24 dc24 pm24 an24 cd24 ct24), sl24⟩) (c24 : PySem.W.codeIn K cd24 "_law_right" = true) (k24 : PySem.W.keepIn K (.ref f24) = true)
    (a25 : PySem.W.nsIn K mainGlobals "law" = some (some (.ref f25))) (l25 : K.lookup f25 = some ⟨oc25, od25, .func (PySem.W.fnOf "law" "law" (defArgs s_law) (defBody s_law) (defScope s_law) .none kV25 dc25 pm25 an25 cd25 ct25), sl25⟩) (c25 : PySem.W.codeIn K cd25 "law" = true) (k25 : PySem.W.keepIn K (.ref f25) = true)
    (b_COUNTED : PySem.W.nsIn K mainGlobals "COUNTED" = some (some (.ref k_COUNTED))) (bt_COUNTED : tupInS K k_COUNTED [(.str "few"), (.str "start"), (.str "loose"), (.str "duel")] = true)
    (b0 : PySem.W.nsIn K mainGlobals "FIGURES" = some (some u0))
    (b1 : PySem.W.nsIn K mainGlobals "MOST_FIGURES" = some (some u1))
    (b2 : PySem.W.nsIn K mainGlobals "MOST_MANY" = some (some u2))
    (b3 : PySem.W.nsIn K mainGlobals "MOST_STEP" = some (some u3))
    (b4 : PySem.W.nsIn K mainGlobals "MOST_AROUND" = some (some u4))
    (ca_SpeakError : PySem.W.nsIn K mainGlobals "SpeakError" = some (some (.ref c_SpeakError))) (cb_SpeakError : PySem.W.keepIn K (.ref c_SpeakError) = true) (cc_SpeakError : xcIn K c_SpeakError = true)
    (cx_SpeakError : xIn K c_SpeakError none = true)
    (ca_NoListing : PySem.W.nsIn K mainGlobals "NoListing" = some (some (.ref c_NoListing))) (cb_NoListing : PySem.W.keepIn K (.ref c_NoListing) = true) (cc_NoListing : xcIn K c_NoListing = true)
    (cf_NoListing : PySem.W.findIn K (.ref c_NoListing) "__init__" = some (some (.ref i_NoListing))) (cx_NoListing : xIn K c_NoListing (some (.ref i_NoListing)) = true) (cg_NoListing : PySem.W.isFn K (.ref i_NoListing) = true)
    (cl_NoListing : K.lookup i_NoListing = some ⟨oc_NoListing, od_NoListing, .func (PySem.W.fnOf "__init__" "NoListing.__init__" (defArgs s_NoListing___init__) (defBody s_NoListing___init__) (defScope s_NoListing___init__) .none kV_NoListing dc_NoListing pm_NoListing an_NoListing cd_NoListing ct_NoListing), sl_NoListing⟩) (co_NoListing : PySem.W.codeIn K cd_NoListing "NoListing.__init__" = true) (ck_NoListing : PySem.W.keepIn K (.ref i_NoListing) = true)
    (cs_NoListing_line : xsIn K c_NoListing "line" = true)
    (cs_NoListing_word : xsIn K c_NoListing "word" = true)
    (ca_NoUnits : PySem.W.nsIn K mainGlobals "NoUnits" = some (some (.ref c_NoUnits))) (cb_NoUnits : PySem.W.keepIn K (.ref c_NoUnits) = true) (cc_NoUnits : xcIn K c_NoUnits = true)
    (cx_NoUnits : xIn K c_NoUnits none = true)
    (ca_NoPlan : PySem.W.nsIn K mainGlobals "NoPlan" = some (some (.ref c_NoPlan))) (cb_NoPlan : PySem.W.keepIn K (.ref c_NoPlan) = true) (cc_NoPlan : xcIn K c_NoPlan = true)
    (cf_NoPlan : PySem.W.findIn K (.ref c_NoPlan) "__init__" = some (some (.ref i_NoPlan))) (cx_NoPlan : xIn K c_NoPlan (some (.ref i_NoPlan)) = true) (cg_NoPlan : PySem.W.isFn K (.ref i_NoPlan) = true)
    (cl_NoPlan : K.lookup i_NoPlan = some ⟨oc_NoPlan, od_NoPlan, .func (PySem.W.fnOf "__init__" "NoPlan.__init__" (defArgs s_NoPlan___init__) (defBody s_NoPlan___init__) (defScope s_NoPlan___init__) .none kV_NoPlan dc_NoPlan pm_NoPlan an_NoPlan cd_NoPlan ct_NoPlan), sl_NoPlan⟩) (co_NoPlan : PySem.W.codeIn K cd_NoPlan "NoPlan.__init__" = true) (ck_NoPlan : PySem.W.keepIn K (.ref i_NoPlan) = true)
    (cs_NoPlan_place : xsIn K c_NoPlan "place" = true)
    (ca_NoLevel : PySem.W.nsIn K mainGlobals "NoLevel" = some (some (.ref c_NoLevel))) (cb_NoLevel : PySem.W.keepIn K (.ref c_NoLevel) = true) (cc_NoLevel : xcIn K c_NoLevel = true)
    (cx_NoLevel : xIn K c_NoLevel none = true)
    (ca_NoThrow : PySem.W.nsIn K mainGlobals "NoThrow" = some (some (.ref c_NoThrow))) (cb_NoThrow : PySem.W.keepIn K (.ref c_NoThrow) = true) (cc_NoThrow : xcIn K c_NoThrow = true)
    (cf_NoThrow : PySem.W.findIn K (.ref c_NoThrow) "__init__" = some (some (.ref i_NoThrow))) (cx_NoThrow : xIn K c_NoThrow (some (.ref i_NoThrow)) = true) (cg_NoThrow : PySem.W.isFn K (.ref i_NoThrow) = true)
    (cl_NoThrow : K.lookup i_NoThrow = some ⟨oc_NoThrow, od_NoThrow, .func (PySem.W.fnOf "__init__" "NoThrow.__init__" (defArgs s_NoThrow___init__) (defBody s_NoThrow___init__) (defScope s_NoThrow___init__) .none kV_NoThrow dc_NoThrow pm_NoThrow an_NoThrow cd_NoThrow ct_NoThrow), sl_NoThrow⟩) (co_NoThrow : PySem.W.codeIn K cd_NoThrow "NoThrow.__init__" = true) (ck_NoThrow : PySem.W.keepIn K (.ref i_NoThrow) = true)
    (cs_NoThrow_place : xsIn K c_NoThrow "place" = true)
    (ca_Plan : PySem.W.nsIn K mainGlobals "Plan" = some (some (.ref c_Plan))) (pa_Plan : PySem.W.plainGet K c_Plan Str.empty = true) (pb_Plan : PySem.W.hasDictIn K c_Plan = true) (pc_Plan : PySem.W.plainOver K c_Plan = true)
    (pd_Plan : PySem.W.findIn K (.ref c_Plan) "__setattr__" = some (some (.builtin "object.__setattr__"))) (pe_Plan : PySem.W.findIn K (.ref c_Plan) "__class__" = some (some (.builtin "object.__class__"))) (pf_Plan : PySem.W.specialIn K (.builtin "object.__class__") "__get__" = some (some (.builtin "getset_descriptor.__get__"))) (pg_Plan : PySem.W.takesIn K (.builtin "object.__class__") = some true) (ph_Plan : PySem.W.mroIn K c_Plan (.type "object") = some true)
    (ca_Few : PySem.W.nsIn K mainGlobals "Few" = some (some (.ref c_Few))) (pa_Few : PySem.W.plainGet K c_Few Str.empty = true) (pb_Few : PySem.W.hasDictIn K c_Few = true) (pc_Few : PySem.W.plainOver K c_Few = true)
    (pd_Few : PySem.W.findIn K (.ref c_Few) "__setattr__" = some (some (.builtin "object.__setattr__"))) (pe_Few : PySem.W.findIn K (.ref c_Few) "__class__" = some (some (.builtin "object.__class__"))) (pf_Few : PySem.W.specialIn K (.builtin "object.__class__") "__get__" = some (some (.builtin "getset_descriptor.__get__"))) (pg_Few : PySem.W.takesIn K (.builtin "object.__class__") = some true) (ph_Few : PySem.W.mroIn K c_Few (.type "object") = some true)
    (qa_Few : PySem.W.makesIn K c_Few = true) (qb_Few : PySem.W.findIn K (.ref c_Few) "__init__" = some (some (.ref i_Few))) (qc_Few : PySem.W.isFn K (.ref i_Few) = true) (qd_Few : PySem.W.keepIn K (.ref c_Few) = true)
    (qn_Few_many : PySem.W.findIn K (.ref c_Few) "many" = some none)
    (cl_Few : K.lookup i_Few = some ⟨oc_Few, od_Few, .func (PySem.W.fnOf "__init__" "Few.__init__" (defArgs s_Few___init__) (defBody s_Few___init__) (defScope s_Few___init__) .none kV_Few dc_Few pm_Few an_Few cd_Few ct_Few), sl_Few⟩) (co_Few : PySem.W.codeIn K cd_Few "Few.__init__" = true) (ck_Few : PySem.W.keepIn K (.ref i_Few) = true)
    (ca_Start : PySem.W.nsIn K mainGlobals "Start" = some (some (.ref c_Start))) (pa_Start : PySem.W.plainGet K c_Start Str.empty = true) (pb_Start : PySem.W.hasDictIn K c_Start = true) (pc_Start : PySem.W.plainOver K c_Start = true)
    (pd_Start : PySem.W.findIn K (.ref c_Start) "__setattr__" = some (some (.builtin "object.__setattr__"))) (pe_Start : PySem.W.findIn K (.ref c_Start) "__class__" = some (some (.builtin "object.__class__"))) (pf_Start : PySem.W.specialIn K (.builtin "object.__class__") "__get__" = some (some (.builtin "getset_descriptor.__get__"))) (pg_Start : PySem.W.takesIn K (.builtin "object.__class__") = some true) (ph_Start : PySem.W.mroIn K c_Start (.type "object") = some true)
    (qa_Start : PySem.W.makesIn K c_Start = true) (qb_Start : PySem.W.findIn K (.ref c_Start) "__init__" = some (some (.ref i_Start))) (qc_Start : PySem.W.isFn K (.ref i_Start) = true) (qd_Start : PySem.W.keepIn K (.ref c_Start) = true)
    (qn_Start_step : PySem.W.findIn K (.ref c_Start) "step" = some none)
    (cl_Start : K.lookup i_Start = some ⟨oc_Start, od_Start, .func (PySem.W.fnOf "__init__" "Start.__init__" (defArgs s_Start___init__) (defBody s_Start___init__) (defScope s_Start___init__) .none kV_Start dc_Start pm_Start an_Start cd_Start ct_Start), sl_Start⟩) (co_Start : PySem.W.codeIn K cd_Start "Start.__init__" = true) (ck_Start : PySem.W.keepIn K (.ref i_Start) = true)
    (ca_Loose : PySem.W.nsIn K mainGlobals "Loose" = some (some (.ref c_Loose))) (pa_Loose : PySem.W.plainGet K c_Loose Str.empty = true) (pb_Loose : PySem.W.hasDictIn K c_Loose = true) (pc_Loose : PySem.W.plainOver K c_Loose = true)
    (pd_Loose : PySem.W.findIn K (.ref c_Loose) "__setattr__" = some (some (.builtin "object.__setattr__"))) (pe_Loose : PySem.W.findIn K (.ref c_Loose) "__class__" = some (some (.builtin "object.__class__"))) (pf_Loose : PySem.W.specialIn K (.builtin "object.__class__") "__get__" = some (some (.builtin "getset_descriptor.__get__"))) (pg_Loose : PySem.W.takesIn K (.builtin "object.__class__") = some true) (ph_Loose : PySem.W.mroIn K c_Loose (.type "object") = some true)
    (qa_Loose : PySem.W.makesIn K c_Loose = true) (qb_Loose : PySem.W.findIn K (.ref c_Loose) "__init__" = some (some (.ref i_Loose))) (qc_Loose : PySem.W.isFn K (.ref i_Loose) = true) (qd_Loose : PySem.W.keepIn K (.ref c_Loose) = true)
    (qn_Loose_many : PySem.W.findIn K (.ref c_Loose) "many" = some none)
    (cl_Loose : K.lookup i_Loose = some ⟨oc_Loose, od_Loose, .func (PySem.W.fnOf "__init__" "Loose.__init__" (defArgs s_Loose___init__) (defBody s_Loose___init__) (defScope s_Loose___init__) .none kV_Loose dc_Loose pm_Loose an_Loose cd_Loose ct_Loose), sl_Loose⟩) (co_Loose : PySem.W.codeIn K cd_Loose "Loose.__init__" = true) (ck_Loose : PySem.W.keepIn K (.ref i_Loose) = true)
    (ca_Duel : PySem.W.nsIn K mainGlobals "Duel" = some (some (.ref c_Duel))) (pa_Duel : PySem.W.plainGet K c_Duel Str.empty = true) (pb_Duel : PySem.W.hasDictIn K c_Duel = true) (pc_Duel : PySem.W.plainOver K c_Duel = true)
    (pd_Duel : PySem.W.findIn K (.ref c_Duel) "__setattr__" = some (some (.builtin "object.__setattr__"))) (pe_Duel : PySem.W.findIn K (.ref c_Duel) "__class__" = some (some (.builtin "object.__class__"))) (pf_Duel : PySem.W.specialIn K (.builtin "object.__class__") "__get__" = some (some (.builtin "getset_descriptor.__get__"))) (pg_Duel : PySem.W.takesIn K (.builtin "object.__class__") = some true) (ph_Duel : PySem.W.mroIn K c_Duel (.type "object") = some true)
    (qa_Duel : PySem.W.makesIn K c_Duel = true) (qb_Duel : PySem.W.findIn K (.ref c_Duel) "__init__" = some (some (.ref i_Duel))) (qc_Duel : PySem.W.isFn K (.ref i_Duel) = true) (qd_Duel : PySem.W.keepIn K (.ref c_Duel) = true)
    (qn_Duel_many : PySem.W.findIn K (.ref c_Duel) "many" = some none)
    (cl_Duel : K.lookup i_Duel = some ⟨oc_Duel, od_Duel, .func (PySem.W.fnOf "__init__" "Duel.__init__" (defArgs s_Duel___init__) (defBody s_Duel___init__) (defScope s_Duel___init__) .none kV_Duel dc_Duel pm_Duel an_Duel cd_Duel ct_Duel), sl_Duel⟩) (co_Duel : PySem.W.codeIn K cd_Duel "Duel.__init__" = true) (ck_Duel : PySem.W.keepIn K (.ref i_Duel) = true)
    (ca_Each : PySem.W.nsIn K mainGlobals "Each" = some (some (.ref c_Each))) (pa_Each : PySem.W.plainGet K c_Each Str.empty = true) (pb_Each : PySem.W.hasDictIn K c_Each = true) (pc_Each : PySem.W.plainOver K c_Each = true)
    (pd_Each : PySem.W.findIn K (.ref c_Each) "__setattr__" = some (some (.builtin "object.__setattr__"))) (pe_Each : PySem.W.findIn K (.ref c_Each) "__class__" = some (some (.builtin "object.__class__"))) (pf_Each : PySem.W.specialIn K (.builtin "object.__class__") "__get__" = some (some (.builtin "getset_descriptor.__get__"))) (pg_Each : PySem.W.takesIn K (.builtin "object.__class__") = some true) (ph_Each : PySem.W.mroIn K c_Each (.type "object") = some true)
    (qa_Each : PySem.W.makesIn K c_Each = true) (qb_Each : PySem.W.findIn K (.ref c_Each) "__init__" = some (some (.ref i_Each))) (qc_Each : PySem.W.isFn K (.ref i_Each) = true) (qd_Each : PySem.W.keepIn K (.ref c_Each) = true)
    (qn_Each_inside : PySem.W.findIn K (.ref c_Each) "inside" = some none)
    (cl_Each : K.lookup i_Each = some ⟨oc_Each, od_Each, .func (PySem.W.fnOf "__init__" "Each.__init__" (defArgs s_Each___init__) (defBody s_Each___init__) (defScope s_Each___init__) .none kV_Each dc_Each pm_Each an_Each cd_Each ct_Each), sl_Each⟩) (co_Each : PySem.W.codeIn K cd_Each "Each.__init__" = true) (ck_Each : PySem.W.keepIn K (.ref i_Each) = true)
    (ca_First : PySem.W.nsIn K mainGlobals "First" = some (some (.ref c_First))) (pa_First : PySem.W.plainGet K c_First Str.empty = true) (pb_First : PySem.W.hasDictIn K c_First = true) (pc_First : PySem.W.plainOver K c_First = true)
    (pd_First : PySem.W.findIn K (.ref c_First) "__setattr__" = some (some (.builtin "object.__setattr__"))) (pe_First : PySem.W.findIn K (.ref c_First) "__class__" = some (some (.builtin "object.__class__"))) (pf_First : PySem.W.specialIn K (.builtin "object.__class__") "__get__" = some (some (.builtin "getset_descriptor.__get__"))) (pg_First : PySem.W.takesIn K (.builtin "object.__class__") = some true) (ph_First : PySem.W.mroIn K c_First (.type "object") = some true)
    (qa_First : PySem.W.makesIn K c_First = true) (qb_First : PySem.W.findIn K (.ref c_First) "__init__" = some (some (.ref i_First))) (qc_First : PySem.W.isFn K (.ref i_First) = true) (qd_First : PySem.W.keepIn K (.ref c_First) = true)
    (qn_First_outside : PySem.W.findIn K (.ref c_First) "outside" = some none)
    (qn_First_inside : PySem.W.findIn K (.ref c_First) "inside" = some none)
    (cl_First : K.lookup i_First = some ⟨oc_First, od_First, .func (PySem.W.fnOf "__init__" "First.__init__" (defArgs s_First___init__) (defBody s_First___init__) (defScope s_First___init__) .none kV_First dc_First pm_First an_First cd_First ct_First), sl_First⟩) (co_First : PySem.W.codeIn K cd_First "First.__init__" = true) (ck_First : PySem.W.keepIn K (.ref i_First) = true)
    (mf_Few_text : PySem.W.findIn K (.ref c_Few) "text" = some (some (.ref x_Few_text)))
    (ml_Few_text : K.lookup x_Few_text = some ⟨oc_Few_text, od_Few_text, .func (PySem.W.fnOf "text" "Few.text" (defArgs s_Few_text) (defBody s_Few_text) (defScope s_Few_text) .none kV_Few_text dc_Few_text pm_Few_text an_Few_text cd_Few_text ct_Few_text), sl_Few_text⟩) (mo_Few_text : PySem.W.codeIn K cd_Few_text "Few.text" = true) (mk_Few_text : PySem.W.keepIn K (.ref x_Few_text) = true) (mi_Few_text : PySem.W.isFn K (.ref x_Few_text) = true)
    (mf_Start_text : PySem.W.findIn K (.ref c_Start) "text" = some (some (.ref x_Start_text)))
    (ml_Start_text : K.lookup x_Start_text = some ⟨oc_Start_text, od_Start_text, .func (PySem.W.fnOf "text" "Start.text" (defArgs s_Start_text) (defBody s_Start_text) (defScope s_Start_text) .none kV_Start_text dc_Start_text pm_Start_text an_Start_text cd_Start_text ct_Start_text), sl_Start_text⟩) (mo_Start_text : PySem.W.codeIn K cd_Start_text "Start.text" = true) (mk_Start_text : PySem.W.keepIn K (.ref x_Start_text) = true) (mi_Start_text : PySem.W.isFn K (.ref x_Start_text) = true)
    (mf_Loose_text : PySem.W.findIn K (.ref c_Loose) "text" = some (some (.ref x_Loose_text)))
    (ml_Loose_text : K.lookup x_Loose_text = some ⟨oc_Loose_text, od_Loose_text, .func (PySem.W.fnOf "text" "Loose.text" (defArgs s_Loose_text) (defBody s_Loose_text) (defScope s_Loose_text) .none kV_Loose_text dc_Loose_text pm_Loose_text an_Loose_text cd_Loose_text ct_Loose_text), sl_Loose_text⟩) (mo_Loose_text : PySem.W.codeIn K cd_Loose_text "Loose.text" = true) (mk_Loose_text : PySem.W.keepIn K (.ref x_Loose_text) = true) (mi_Loose_text : PySem.W.isFn K (.ref x_Loose_text) = true)
    (mf_Duel_text : PySem.W.findIn K (.ref c_Duel) "text" = some (some (.ref x_Duel_text)))
    (ml_Duel_text : K.lookup x_Duel_text = some ⟨oc_Duel_text, od_Duel_text, .func (PySem.W.fnOf "text" "Duel.text" (defArgs s_Duel_text) (defBody s_Duel_text) (defScope s_Duel_text) .none kV_Duel_text dc_Duel_text pm_Duel_text an_Duel_text cd_Duel_text ct_Duel_text), sl_Duel_text⟩) (mo_Duel_text : PySem.W.codeIn K cd_Duel_text "Duel.text" = true) (mk_Duel_text : PySem.W.keepIn K (.ref x_Duel_text) = true) (mi_Duel_text : PySem.W.isFn K (.ref x_Duel_text) = true)
    (mf_Each_text : PySem.W.findIn K (.ref c_Each) "text" = some (some (.ref x_Each_text)))
    (ml_Each_text : K.lookup x_Each_text = some ⟨oc_Each_text, od_Each_text, .func (PySem.W.fnOf "text" "Each.text" (defArgs s_Each_text) (defBody s_Each_text) (defScope s_Each_text) .none kV_Each_text dc_Each_text pm_Each_text an_Each_text cd_Each_text ct_Each_text), sl_Each_text⟩) (mo_Each_text : PySem.W.codeIn K cd_Each_text "Each.text" = true) (mk_Each_text : PySem.W.keepIn K (.ref x_Each_text) = true) (mi_Each_text : PySem.W.isFn K (.ref x_Each_text) = true)
    (mf_First_text : PySem.W.findIn K (.ref c_First) "text" = some (some (.ref x_First_text)))
    (ml_First_text : K.lookup x_First_text = some ⟨oc_First_text, od_First_text, .func (PySem.W.fnOf "text" "First.text" (defArgs s_First_text) (defBody s_First_text) (defScope s_First_text) .none kV_First_text dc_First_text pm_First_text an_First_text cd_First_text ct_First_text), sl_First_text⟩) (mo_First_text : PySem.W.codeIn K cd_First_text "First.text" = true) (mk_First_text : PySem.W.keepIn K (.ref x_First_text) = true) (mi_First_text : PySem.W.isFn K (.ref x_First_text) = true)
    (fact_sf : PySem.W.kitOne K (.ref c_Few) (.type "str") = some false)
    (fact_ss : PySem.W.kitOne K (.ref c_Start) (.type "str") = some false)
    (fact_sl : PySem.W.kitOne K (.ref c_Loose) (.type "str") = some false)
    (fact_sd : PySem.W.kitOne K (.ref c_Duel) (.type "str") = some false)
    (fact_se : PySem.W.kitOne K (.ref c_Each) (.type "str") = some false)
    (fact_sa : PySem.W.kitOne K (.ref c_First) (.type "str") = some false)
    (fact_tn : mroIn' K c_NoPlan c_NoPlan = true)
    (fact_ts : mroIn' K c_NoPlan c_SpeakError = true)
    (fact_x1 : PySem.W.kitOne K (.ref c_NoPlan) (.ref c_NoPlan) = some true)
    (fact_x2 : PySem.W.kitAny K (.ref c_NoPlan) [.ref c_NoLevel, .ref c_NoListing, .ref c_NoThrow, .ref c_NoUnits] = some false)
    (fact_kff : PySem.W.kitOne K (.ref c_Few) (.ref c_Few) = some true)
    (fact_kfs : PySem.W.kitOne K (.ref c_Few) (.ref c_Start) = some false)
    (fact_kfl : PySem.W.kitOne K (.ref c_Few) (.ref c_Loose) = some false)
    (fact_kfd : PySem.W.kitOne K (.ref c_Few) (.ref c_Duel) = some false)
    (fact_kfe : PySem.W.kitOne K (.ref c_Few) (.ref c_Each) = some false)
    (fact_kfa : PySem.W.kitOne K (.ref c_Few) (.ref c_First) = some false)
    (fact_kfp : PySem.W.kitOne K (.ref c_Few) (.ref c_Plan) = some true)
    (fact_ksf : PySem.W.kitOne K (.ref c_Start) (.ref c_Few) = some false)
    (fact_kss : PySem.W.kitOne K (.ref c_Start) (.ref c_Start) = some true)
    (fact_ksl : PySem.W.kitOne K (.ref c_Start) (.ref c_Loose) = some false)
    (fact_ksd : PySem.W.kitOne K (.ref c_Start) (.ref c_Duel) = some false)
    (fact_kse : PySem.W.kitOne K (.ref c_Start) (.ref c_Each) = some false)
    (fact_ksa : PySem.W.kitOne K (.ref c_Start) (.ref c_First) = some false)
    (fact_ksp : PySem.W.kitOne K (.ref c_Start) (.ref c_Plan) = some true)
    (fact_klf : PySem.W.kitOne K (.ref c_Loose) (.ref c_Few) = some false)
    (fact_kls : PySem.W.kitOne K (.ref c_Loose) (.ref c_Start) = some false)
    (fact_kll : PySem.W.kitOne K (.ref c_Loose) (.ref c_Loose) = some true)
    (fact_kld : PySem.W.kitOne K (.ref c_Loose) (.ref c_Duel) = some false)
    (fact_kle : PySem.W.kitOne K (.ref c_Loose) (.ref c_Each) = some false)
    (fact_kla : PySem.W.kitOne K (.ref c_Loose) (.ref c_First) = some false)
    (fact_klp : PySem.W.kitOne K (.ref c_Loose) (.ref c_Plan) = some true)
    (fact_kdf : PySem.W.kitOne K (.ref c_Duel) (.ref c_Few) = some false)
    (fact_kds : PySem.W.kitOne K (.ref c_Duel) (.ref c_Start) = some false)
    (fact_kdl : PySem.W.kitOne K (.ref c_Duel) (.ref c_Loose) = some false)
    (fact_kdd : PySem.W.kitOne K (.ref c_Duel) (.ref c_Duel) = some true)
    (fact_kde : PySem.W.kitOne K (.ref c_Duel) (.ref c_Each) = some false)
    (fact_kda : PySem.W.kitOne K (.ref c_Duel) (.ref c_First) = some false)
    (fact_kdp : PySem.W.kitOne K (.ref c_Duel) (.ref c_Plan) = some true)
    (fact_kef : PySem.W.kitOne K (.ref c_Each) (.ref c_Few) = some false)
    (fact_kes : PySem.W.kitOne K (.ref c_Each) (.ref c_Start) = some false)
    (fact_kel : PySem.W.kitOne K (.ref c_Each) (.ref c_Loose) = some false)
    (fact_ked : PySem.W.kitOne K (.ref c_Each) (.ref c_Duel) = some false)
    (fact_kee : PySem.W.kitOne K (.ref c_Each) (.ref c_Each) = some true)
    (fact_kea : PySem.W.kitOne K (.ref c_Each) (.ref c_First) = some false)
    (fact_kep : PySem.W.kitOne K (.ref c_Each) (.ref c_Plan) = some true)
    (fact_kaf : PySem.W.kitOne K (.ref c_First) (.ref c_Few) = some false)
    (fact_kas : PySem.W.kitOne K (.ref c_First) (.ref c_Start) = some false)
    (fact_kal : PySem.W.kitOne K (.ref c_First) (.ref c_Loose) = some false)
    (fact_kad : PySem.W.kitOne K (.ref c_First) (.ref c_Duel) = some false)
    (fact_kae : PySem.W.kitOne K (.ref c_First) (.ref c_Each) = some false)
    (fact_kaa : PySem.W.kitOne K (.ref c_First) (.ref c_First) = some true)
    (fact_kap : PySem.W.kitOne K (.ref c_First) (.ref c_Plan) = some true)
    (z0 : PySem.W.nsIn K mainGlobals "all" = some none)
    (z1 : PySem.W.nsIn K mainGlobals "bool" = some none)
    (z2 : PySem.W.nsIn K mainGlobals "enumerate" = some none)
    (z3 : PySem.W.nsIn K mainGlobals "int" = some none)
    (z4 : PySem.W.nsIn K mainGlobals "isinstance" = some none)
    (z5 : PySem.W.nsIn K mainGlobals "len" = some none)
    (z6 : PySem.W.nsIn K mainGlobals "max" = some none)
    (z7 : PySem.W.nsIn K mainGlobals "min" = some none)
    (z8 : PySem.W.nsIn K mainGlobals "range" = some none)
    (z9 : PySem.W.nsIn K mainGlobals "str" = some none) (r0 : RelV (.str "0123456789") u0) (r1 : RelV (.int 12) u1) (r2 : RelV (.int 24) u2) (r3 : RelV (.int 100) u3) (r4 : RelV (.int 3) u4) : ∃ a : Ad, Txt K mg a := by
  refine ⟨{ f_is_whole := f0, d_is_whole := PySem.W.fnOf "is_whole" "is_whole" (defArgs s_is_whole) (defBody s_is_whole) (defScope s_is_whole) .none kV0 dc0 pm0 an0 cd0 ct0, f_is_made_of := f1, d_is_made_of := PySem.W.fnOf "is_made_of" "is_made_of" (defArgs s_is_made_of) (defBody s_is_made_of) (defScope s_is_made_of) .none kV1 dc1 pm1 an1 cd1 ct1, f_number_of := f2, d_number_of := PySem.W.fnOf "number_of" "number_of" (defArgs s_number_of) (defBody s_number_of) (defScope s_number_of) .none kV2 dc2 pm2 an2 cd2 ct2, f_need_number := f3, d_need_number := PySem.W.fnOf "need_number" "need_number" (defArgs s_need_number) (defBody s_need_number) (defScope s_need_number) .none kV3 dc3 pm3 an3 cd3 ct3, f_text_of := f4, d_text_of := PySem.W.fnOf "text_of" "text_of" (defArgs s_text_of) (defBody s_text_of) (defScope s_text_of) .none kV4 dc4 pm4 an4 cd4 ct4, f_plan_of := f5, d_plan_of := PySem.W.fnOf "plan_of" "plan_of" (defArgs s_plan_of) (defBody s_plan_of) (defScope s_plan_of) .none kV5 dc5 pm5 an5 cd5 ct5, f_plan_at := f6, d_plan_at := PySem.W.fnOf "plan_at" "plan_at" (defArgs s_plan_at) (defBody s_plan_at) (defScope s_plan_at) .none kV6 dc6 pm6 an6 cd6 ct6, f_word_at := f7, d_word_at := PySem.W.fnOf "word_at" "word_at" (defArgs s_word_at) (defBody s_word_at) (defScope s_word_at) .none kV7 dc7 pm7 an7 cd7 ct7, f_behind_word := f8, d_behind_word := PySem.W.fnOf "behind_word" "behind_word" (defArgs s_behind_word) (defBody s_behind_word) (defScope s_behind_word) .none kV8 dc8 pm8 an8 cd8 ct8, f_counted_at := f9, d_counted_at := PySem.W.fnOf "counted_at" "counted_at" (defArgs s_counted_at) (defBody s_counted_at) (defScope s_counted_at) .none kV9 dc9 pm9 an9 cd9 ct9, f_counted_plan := f10, d_counted_plan := PySem.W.fnOf "counted_plan" "counted_plan" (defArgs s_counted_plan) (defBody s_counted_plan) (defScope s_counted_plan) .none kV10 dc10 pm10 an10 cd10 ct10, f_each_at := f11, d_each_at := PySem.W.fnOf "each_at" "each_at" (defArgs s_each_at) (defBody s_each_at) (defScope s_each_at) .none kV11 dc11 pm11 an11 cd11 ct11, f_first_at := f12, d_first_at := PySem.W.fnOf "first_at" "first_at" (defArgs s_first_at) (defBody s_first_at) (defScope s_first_at) .none kV12 dc12 pm12 an12 cd12 ct12, f_bracketed_at := f13, d_bracketed_at := PySem.W.fnOf "bracketed_at" "bracketed_at" (defArgs s_bracketed_at) (defBody s_bracketed_at) (defScope s_bracketed_at) .none kV13 dc13 pm13 an13 cd13 ct13, f_L_cell := f14, d_L_cell := PySem.W.fnOf "_law_cell" "_law_cell" (defArgs s_L_cell) (defBody s_L_cell) (defScope s_L_cell) .none kV14 dc14 pm14 an14 cd14 ct14, f_L_mixed := f15, d_L_mixed := PySem.W.fnOf "_law_mixed" "_law_mixed" (defArgs s_L_mixed) (defBody s_L_mixed) (defScope s_L_mixed) .none kV15 dc15 pm15 an15 cd15 ct15, f_L_tree := f16, d_L_tree := PySem.W.fnOf "_law_tree" "_law_tree" (defArgs s_L_tree) (defBody s_L_tree) (defScope s_L_tree) .none kV16 dc16 pm16 an16 cd16 ct16, f_L_words := f17, d_L_words := PySem.W.fnOf "_law_words" "_law_words" (defArgs s_L_words) (defBody s_L_words) (defScope s_L_words) .none kV17 dc17 pm17 an17 cd17 ct17, f_L_whole := f18, d_L_whole := PySem.W.fnOf "_law_whole" "_law_whole" (defArgs s_L_whole) (defBody s_L_whole) (defScope s_L_whole) .none kV18 dc18 pm18 an18 cd18 ct18, f_L_is := f19, d_L_is := PySem.W.fnOf "_law_is" "_law_is" (defArgs s_L_is) (defBody s_L_is) (defScope s_L_is) .none kV19 dc19 pm19 an19 cd19 ct19, f_L_spoiled := f20, d_L_spoiled := PySem.W.fnOf "_law_spoiled" "_law_spoiled" (defArgs s_L_spoiled) (defBody s_L_spoiled) (defScope s_L_spoiled) .none kV20 dc20 pm20 an20 cd20 ct20, f_L_opens := f21, d_L_opens := PySem.W.fnOf "_law_opens" "_law_opens" (defArgs s_L_opens) (defBody s_L_opens) (defScope s_L_opens) .none kV21 dc21 pm21 an21 cd21 ct21, f_L_wrong := f22, d_L_wrong := PySem.W.fnOf "_law_wrong" "_law_wrong" (defArgs s_L_wrong) (defBody s_L_wrong) (defScope s_L_wrong) .none kV22 dc22 pm22 an22 cd22 ct22, f_L_told := f23, d_L_told := PySem.W.fnOf "_law_told" "_law_told" (defArgs s_L_told) (defBody s_L_told) (defScope s_L_told) .none kV23 dc23 pm23 an23 cd23 ct23, f_L_right := f24, d_L_right := PySem.W.fnOf "_law_right" "_law_right" (defArgs s_L_right) (defBody s_L_right) (defScope s_L_right) .none kV24 dc24 pm24 an24 cd24 ct24, f_law := f25, d_law := PySem.W.fnOf "law" "law" (defArgs s_law) (defBody s_law) (defScope s_law) .none kV25 dc25 pm25 an25 cd25 ct25, c_SpeakError := c_SpeakError, c_NoListing := c_NoListing, i_NoListing := i_NoListing, e_NoListing := PySem.W.fnOf "__init__" "NoListing.__init__" (defArgs s_NoListing___init__) (defBody s_NoListing___init__) (defScope s_NoListing___init__) .none kV_NoListing dc_NoListing pm_NoListing an_NoListing cd_NoListing ct_NoListing, c_NoUnits := c_NoUnits, c_NoPlan := c_NoPlan, i_NoPlan := i_NoPlan, e_NoPlan := PySem.W.fnOf "__init__" "NoPlan.__init__" (defArgs s_NoPlan___init__) (defBody s_NoPlan___init__) (defScope s_NoPlan___init__) .none kV_NoPlan dc_NoPlan pm_NoPlan an_NoPlan cd_NoPlan ct_NoPlan, c_NoLevel := c_NoLevel, c_NoThrow := c_NoThrow, i_NoThrow := i_NoThrow, e_NoThrow := PySem.W.fnOf "__init__" "NoThrow.__init__" (defArgs s_NoThrow___init__) (defBody s_NoThrow___init__) (defScope s_NoThrow___init__) .none kV_NoThrow dc_NoThrow pm_NoThrow an_NoThrow cd_NoThrow ct_NoThrow, c_Plan := c_Plan, c_Few := c_Few, i_Few := i_Few, e_Few := PySem.W.fnOf "__init__" "Few.__init__" (defArgs s_Few___init__) (defBody s_Few___init__) (defScope s_Few___init__) .none kV_Few dc_Few pm_Few an_Few cd_Few ct_Few, c_Start := c_Start, i_Start := i_Start, e_Start := PySem.W.fnOf "__init__" "Start.__init__" (defArgs s_Start___init__) (defBody s_Start___init__) (defScope s_Start___init__) .none kV_Start dc_Start pm_Start an_Start cd_Start ct_Start, c_Loose := c_Loose, i_Loose := i_Loose, e_Loose := PySem.W.fnOf "__init__" "Loose.__init__" (defArgs s_Loose___init__) (defBody s_Loose___init__) (defScope s_Loose___init__) .none kV_Loose dc_Loose pm_Loose an_Loose cd_Loose ct_Loose, c_Duel := c_Duel, i_Duel := i_Duel, e_Duel := PySem.W.fnOf "__init__" "Duel.__init__" (defArgs s_Duel___init__) (defBody s_Duel___init__) (defScope s_Duel___init__) .none kV_Duel dc_Duel pm_Duel an_Duel cd_Duel ct_Duel, c_Each := c_Each, i_Each := i_Each, e_Each := PySem.W.fnOf "__init__" "Each.__init__" (defArgs s_Each___init__) (defBody s_Each___init__) (defScope s_Each___init__) .none kV_Each dc_Each pm_Each an_Each cd_Each ct_Each, c_First := c_First, i_First := i_First, e_First := PySem.W.fnOf "__init__" "First.__init__" (defArgs s_First___init__) (defBody s_First___init__) (defScope s_First___init__) .none kV_First dc_First pm_First an_First cd_First ct_First, x_Few_text := x_Few_text, y_Few_text := PySem.W.fnOf "text" "Few.text" (defArgs s_Few_text) (defBody s_Few_text) (defScope s_Few_text) .none kV_Few_text dc_Few_text pm_Few_text an_Few_text cd_Few_text ct_Few_text, x_Start_text := x_Start_text, y_Start_text := PySem.W.fnOf "text" "Start.text" (defArgs s_Start_text) (defBody s_Start_text) (defScope s_Start_text) .none kV_Start_text dc_Start_text pm_Start_text an_Start_text cd_Start_text ct_Start_text, x_Loose_text := x_Loose_text, y_Loose_text := PySem.W.fnOf "text" "Loose.text" (defArgs s_Loose_text) (defBody s_Loose_text) (defScope s_Loose_text) .none kV_Loose_text dc_Loose_text pm_Loose_text an_Loose_text cd_Loose_text ct_Loose_text, x_Duel_text := x_Duel_text, y_Duel_text := PySem.W.fnOf "text" "Duel.text" (defArgs s_Duel_text) (defBody s_Duel_text) (defScope s_Duel_text) .none kV_Duel_text dc_Duel_text pm_Duel_text an_Duel_text cd_Duel_text ct_Duel_text, x_Each_text := x_Each_text, y_Each_text := PySem.W.fnOf "text" "Each.text" (defArgs s_Each_text) (defBody s_Each_text) (defScope s_Each_text) .none kV_Each_text dc_Each_text pm_Each_text an_Each_text cd_Each_text ct_Each_text, x_First_text := x_First_text, y_First_text := PySem.W.fnOf "text" "First.text" (defArgs s_First_text) (defBody s_First_text) (defScope s_First_text) .none kV_First_text dc_First_text pm_First_text an_First_text cd_First_text ct_First_text, k_COUNTED := k_COUNTED }, ?_⟩
  exact {
    F_is_whole := fun_mk (st := s_is_whole) l0 c0 k0
    B_is_whole := (fun_mk (st := s_is_whole) l0 c0 k0).binds (ps := ["thing", "low", "high"]) fun _ _ _ _ _ _ us hl => (by obtain ⟨_, _, _, rfl⟩ := us3 hl; rfl)
    m_is_whole := PySem.W.mg_of X G a0
    F_is_made_of := fun_mk (st := s_is_made_of) l1 c1 k1
    B_is_made_of := (fun_mk (st := s_is_made_of) l1 c1 k1).binds (ps := ["text", "signs", "most"]) fun _ _ _ _ _ _ us hl => (by obtain ⟨_, _, _, rfl⟩ := us3 hl; rfl)
    m_is_made_of := PySem.W.mg_of X G a1
    F_number_of := fun_mk (st := s_number_of) l2 c2 k2
    B_number_of := (fun_mk (st := s_number_of) l2 c2 k2).binds (ps := ["text", "low", "high"]) fun _ _ _ _ _ _ us hl => (by obtain ⟨_, _, _, rfl⟩ := us3 hl; rfl)
    m_number_of := PySem.W.mg_of X G a2
    F_need_number := fun_mk (st := s_need_number) l3 c3 k3
    B_need_number := (fun_mk (st := s_need_number) l3 c3 k3).binds (ps := ["thing", "low", "high"]) fun _ _ _ _ _ _ us hl => (by obtain ⟨_, _, _, rfl⟩ := us3 hl; rfl)
    m_need_number := PySem.W.mg_of X G a3
    F_text_of := fun_mk (st := s_text_of) l4 c4 k4
    B_text_of := (fun_mk (st := s_text_of) l4 c4 k4).binds (ps := ["plan"]) fun _ _ _ _ _ _ us hl => (by obtain ⟨_, rfl⟩ := us1 hl; rfl)
    m_text_of := PySem.W.mg_of X G a4
    F_plan_of := fun_mk (st := s_plan_of) l5 c5 k5
    B_plan_of := (fun_mk (st := s_plan_of) l5 c5 k5).binds (ps := ["text"]) fun _ _ _ _ _ _ us hl => (by obtain ⟨_, rfl⟩ := us1 hl; rfl)
    m_plan_of := PySem.W.mg_of X G a5
    F_plan_at := fun_mk (st := s_plan_at) l6 c6 k6
    B_plan_at := (fun_mk (st := s_plan_at) l6 c6 k6).binds (ps := ["words", "place", "around"]) fun _ _ _ _ _ _ us hl => (by obtain ⟨_, _, _, rfl⟩ := us3 hl; rfl)
    m_plan_at := PySem.W.mg_of X G a6
    F_word_at := fun_mk (st := s_word_at) l7 c7 k7
    B_word_at := (fun_mk (st := s_word_at) l7 c7 k7).binds (ps := ["words", "place"]) fun _ _ _ _ _ _ us hl => (by obtain ⟨_, _, rfl⟩ := us2 hl; rfl)
    m_word_at := PySem.W.mg_of X G a7
    F_behind_word := fun_mk (st := s_behind_word) l8 c8 k8
    B_behind_word := (fun_mk (st := s_behind_word) l8 c8 k8).binds (ps := ["words", "place", "wanted"]) fun _ _ _ _ _ _ us hl => (by obtain ⟨_, _, _, rfl⟩ := us3 hl; rfl)
    m_behind_word := PySem.W.mg_of X G a8
    F_counted_at := fun_mk (st := s_counted_at) l9 c9 k9
    B_counted_at := (fun_mk (st := s_counted_at) l9 c9 k9).binds (ps := ["words", "place"]) fun _ _ _ _ _ _ us hl => (by obtain ⟨_, _, rfl⟩ := us2 hl; rfl)
    m_counted_at := PySem.W.mg_of X G a9
    F_counted_plan := fun_mk (st := s_counted_plan) l10 c10 k10
    B_counted_plan := (fun_mk (st := s_counted_plan) l10 c10 k10).binds (ps := ["word", "number"]) fun _ _ _ _ _ _ us hl => (by obtain ⟨_, _, rfl⟩ := us2 hl; rfl)
    m_counted_plan := PySem.W.mg_of X G a10
    F_each_at := fun_mk (st := s_each_at) l11 c11 k11
    B_each_at := (fun_mk (st := s_each_at) l11 c11 k11).binds (ps := ["words", "place", "around"]) fun _ _ _ _ _ _ us hl => (by obtain ⟨_, _, _, rfl⟩ := us3 hl; rfl)
    m_each_at := PySem.W.mg_of X G a11
    F_first_at := fun_mk (st := s_first_at) l12 c12 k12
    B_first_at := (fun_mk (st := s_first_at) l12 c12 k12).binds (ps := ["words", "place", "around"]) fun _ _ _ _ _ _ us hl => (by obtain ⟨_, _, _, rfl⟩ := us3 hl; rfl)
    m_first_at := PySem.W.mg_of X G a12
    F_bracketed_at := fun_mk (st := s_bracketed_at) l13 c13 k13
    B_bracketed_at := (fun_mk (st := s_bracketed_at) l13 c13 k13).binds (ps := ["words", "place", "around"]) fun _ _ _ _ _ _ us hl => (by obtain ⟨_, _, _, rfl⟩ := us3 hl; rfl)
    m_bracketed_at := PySem.W.mg_of X G a13
    F_L_cell := fun_mk (st := s_L_cell) l14 c14 k14
    B_L_cell := (fun_mk (st := s_L_cell) l14 c14 k14).binds (ps := ["_law_script", "_law_k"]) fun _ _ _ _ _ _ us hl => (by obtain ⟨_, _, rfl⟩ := us2 hl; rfl)
    m_L_cell := PySem.W.mg_of X G a14
    F_L_mixed := fun_mk (st := s_L_mixed) l15 c15 k15
    B_L_mixed := (fun_mk (st := s_L_mixed) l15 c15 k15).binds (ps := ["_law_cell_here", "_law_k"]) fun _ _ _ _ _ _ us hl => (by obtain ⟨_, _, rfl⟩ := us2 hl; rfl)
    m_L_mixed := PySem.W.mg_of X G a15
    F_L_tree := fun_mk (st := s_L_tree) l16 c16 k16
    B_L_tree := (fun_mk (st := s_L_tree) l16 c16 k16).binds (ps := ["_law_number", "_law_deep", "_law_wide"]) fun _ _ _ _ _ _ us hl => (by obtain ⟨_, _, _, rfl⟩ := us3 hl; rfl)
    m_L_tree := PySem.W.mg_of X G a16
    F_L_words := fun_mk (st := s_L_words) l17 c17 k17
    B_L_words := (fun_mk (st := s_L_words) l17 c17 k17).binds (ps := ["_law_tree_here"]) fun _ _ _ _ _ _ us hl => (by obtain ⟨_, rfl⟩ := us1 hl; rfl)
    m_L_words := PySem.W.mg_of X G a17
    F_L_whole := fun_mk (st := s_L_whole) l18 c18 k18
    B_L_whole := (fun_mk (st := s_L_whole) l18 c18 k18).binds (ps := ["_law_found", "_law_due"]) fun _ _ _ _ _ _ us hl => (by obtain ⟨_, _, rfl⟩ := us2 hl; rfl)
    m_L_whole := PySem.W.mg_of X G a18
    F_L_is := fun_mk (st := s_L_is) l19 c19 k19
    B_L_is := (fun_mk (st := s_L_is) l19 c19 k19).binds (ps := ["_law_plan", "_law_tree_here"]) fun _ _ _ _ _ _ us hl => (by obtain ⟨_, _, rfl⟩ := us2 hl; rfl)
    m_L_is := PySem.W.mg_of X G a19
    F_L_spoiled := fun_mk (st := s_L_spoiled) l20 c20 k20
    B_L_spoiled := (fun_mk (st := s_L_spoiled) l20 c20 k20).binds (ps := ["_law_words_here", "_law_cell_here"]) fun _ _ _ _ _ _ us hl => (by obtain ⟨_, _, rfl⟩ := us2 hl; rfl)
    m_L_spoiled := PySem.W.mg_of X G a20
    F_L_opens := fun_mk (st := s_L_opens) l21 c21 k21
    B_L_opens := (fun_mk (st := s_L_opens) l21 c21 k21).binds (ps := ["_law_word", "_law_deep"]) fun _ _ _ _ _ _ us hl => (by obtain ⟨_, _, rfl⟩ := us2 hl; rfl)
    m_L_opens := PySem.W.mg_of X G a21
    F_L_wrong := fun_mk (st := s_L_wrong) l22 c22 k22
    B_L_wrong := (fun_mk (st := s_L_wrong) l22 c22 k22).binds (ps := ["_law_words_here"]) fun _ _ _ _ _ _ us hl => (by obtain ⟨_, rfl⟩ := us1 hl; rfl)
    m_L_wrong := PySem.W.mg_of X G a22
    F_L_told := fun_mk (st := s_L_told) l23 c23 k23
    B_L_told := (fun_mk (st := s_L_told) l23 c23 k23).binds (ps := ["_law_text"]) fun _ _ _ _ _ _ us hl => (by obtain ⟨_, rfl⟩ := us1 hl; rfl)
    m_L_told := PySem.W.mg_of X G a23
    F_L_right := fun_mk (st := s_L_right) l24 c24 k24
    B_L_right := (fun_mk (st := s_L_right) l24 c24 k24).binds (ps := ["_law_words_here"]) fun _ _ _ _ _ _ us hl => (by obtain ⟨_, rfl⟩ := us1 hl; rfl)
    m_L_right := PySem.W.mg_of X G a24
    F_law := fun_mk (st := s_law) l25 c25 k25
    B_law := (fun_mk (st := s_law) l25 c25 k25).binds (ps := ["_law_script"]) fun _ _ _ _ _ _ us hl => (by obtain ⟨_, rfl⟩ := us1 hl; rfl)
    m_law := PySem.W.mg_of X G a25
    g_COUNTED := ⟨_, PySem.W.mg_of X G b_COUNTED, rfl⟩
    t_COUNTED := bt_COUNTED
    F_Few_text := fun_mk (st := s_Few_text) ml_Few_text mo_Few_text mk_Few_text
    B_Few_text := (fun_mk (st := s_Few_text) ml_Few_text mo_Few_text mk_Few_text).binds (ps := ["self"]) fun _ _ _ _ _ _ us hl => (by obtain ⟨_, rfl⟩ := us1 hl; rfl)
    F_Start_text := fun_mk (st := s_Start_text) ml_Start_text mo_Start_text mk_Start_text
    B_Start_text := (fun_mk (st := s_Start_text) ml_Start_text mo_Start_text mk_Start_text).binds (ps := ["self"]) fun _ _ _ _ _ _ us hl => (by obtain ⟨_, rfl⟩ := us1 hl; rfl)
    F_Loose_text := fun_mk (st := s_Loose_text) ml_Loose_text mo_Loose_text mk_Loose_text
    B_Loose_text := (fun_mk (st := s_Loose_text) ml_Loose_text mo_Loose_text mk_Loose_text).binds (ps := ["self"]) fun _ _ _ _ _ _ us hl => (by obtain ⟨_, rfl⟩ := us1 hl; rfl)
    F_Duel_text := fun_mk (st := s_Duel_text) ml_Duel_text mo_Duel_text mk_Duel_text
    B_Duel_text := (fun_mk (st := s_Duel_text) ml_Duel_text mo_Duel_text mk_Duel_text).binds (ps := ["self"]) fun _ _ _ _ _ _ us hl => (by obtain ⟨_, rfl⟩ := us1 hl; rfl)
    F_Each_text := fun_mk (st := s_Each_text) ml_Each_text mo_Each_text mk_Each_text
    B_Each_text := (fun_mk (st := s_Each_text) ml_Each_text mo_Each_text mk_Each_text).binds (ps := ["self"]) fun _ _ _ _ _ _ us hl => (by obtain ⟨_, rfl⟩ := us1 hl; rfl)
    F_First_text := fun_mk (st := s_First_text) ml_First_text mo_First_text mk_First_text
    B_First_text := (fun_mk (st := s_First_text) ml_First_text mo_First_text mk_First_text).binds (ps := ["self"]) fun _ _ _ _ _ _ us hl => (by obtain ⟨_, rfl⟩ := us1 hl; rfl)
    mt_Few_text := ⟨mf_Few_text, mi_Few_text, mk_Few_text⟩
    mt_Start_text := ⟨mf_Start_text, mi_Start_text, mk_Start_text⟩
    mt_Loose_text := ⟨mf_Loose_text, mi_Loose_text, mk_Loose_text⟩
    mt_Duel_text := ⟨mf_Duel_text, mi_Duel_text, mk_Duel_text⟩
    mt_Each_text := ⟨mf_Each_text, mi_Each_text, mk_Each_text⟩
    mt_First_text := ⟨mf_First_text, mi_First_text, mk_First_text⟩
    mc_Plan := PySem.W.mg_of X G ca_Plan
    g_Plan := ⟨_, PySem.W.mg_of X G ca_Plan, rfl⟩
    cl_Plan := ⟨pa_Plan, pb_Plan, pc_Plan, pd_Plan⟩
    ty_Plan := fun H x dx fs e => .ins e ⟨pa_Plan, pb_Plan, pc_Plan, pd_Plan⟩ pe_Plan pf_Plan pg_Plan ph_Plan
    mc_Few := PySem.W.mg_of X G ca_Few
    g_Few := ⟨_, PySem.W.mg_of X G ca_Few, rfl⟩
    cl_Few := ⟨pa_Few, pb_Few, pc_Few, pd_Few⟩
    ty_Few := fun H x dx fs e => .ins e ⟨pa_Few, pb_Few, pc_Few, pd_Few⟩ pe_Few pf_Few pg_Few ph_Few
    mk_Few := ⟨qa_Few, qb_Few, qc_Few, qd_Few⟩
    na_Few_many := qn_Few_many
    Fi_Few := fun_mk (st := s_Few___init__) cl_Few co_Few ck_Few
    Bi_Few := (fun_mk (st := s_Few___init__) cl_Few co_Few ck_Few).binds (ps := ["self", "many"]) fun _ _ _ _ _ _ us hl => (by obtain ⟨_, _, rfl⟩ := us2 hl; rfl)
    mc_Start := PySem.W.mg_of X G ca_Start
    g_Start := ⟨_, PySem.W.mg_of X G ca_Start, rfl⟩
    cl_Start := ⟨pa_Start, pb_Start, pc_Start, pd_Start⟩
    ty_Start := fun H x dx fs e => .ins e ⟨pa_Start, pb_Start, pc_Start, pd_Start⟩ pe_Start pf_Start pg_Start ph_Start
    mk_Start := ⟨qa_Start, qb_Start, qc_Start, qd_Start⟩
    na_Start_step := qn_Start_step
    Fi_Start := fun_mk (st := s_Start___init__) cl_Start co_Start ck_Start
    Bi_Start := (fun_mk (st := s_Start___init__) cl_Start co_Start ck_Start).binds (ps := ["self", "step"]) fun _ _ _ _ _ _ us hl => (by obtain ⟨_, _, rfl⟩ := us2 hl; rfl)
    mc_Loose := PySem.W.mg_of X G ca_Loose
    g_Loose := ⟨_, PySem.W.mg_of X G ca_Loose, rfl⟩
    cl_Loose := ⟨pa_Loose, pb_Loose, pc_Loose, pd_Loose⟩
    ty_Loose := fun H x dx fs e => .ins e ⟨pa_Loose, pb_Loose, pc_Loose, pd_Loose⟩ pe_Loose pf_Loose pg_Loose ph_Loose
    mk_Loose := ⟨qa_Loose, qb_Loose, qc_Loose, qd_Loose⟩
    na_Loose_many := qn_Loose_many
    Fi_Loose := fun_mk (st := s_Loose___init__) cl_Loose co_Loose ck_Loose
    Bi_Loose := (fun_mk (st := s_Loose___init__) cl_Loose co_Loose ck_Loose).binds (ps := ["self", "many"]) fun _ _ _ _ _ _ us hl => (by obtain ⟨_, _, rfl⟩ := us2 hl; rfl)
    mc_Duel := PySem.W.mg_of X G ca_Duel
    g_Duel := ⟨_, PySem.W.mg_of X G ca_Duel, rfl⟩
    cl_Duel := ⟨pa_Duel, pb_Duel, pc_Duel, pd_Duel⟩
    ty_Duel := fun H x dx fs e => .ins e ⟨pa_Duel, pb_Duel, pc_Duel, pd_Duel⟩ pe_Duel pf_Duel pg_Duel ph_Duel
    mk_Duel := ⟨qa_Duel, qb_Duel, qc_Duel, qd_Duel⟩
    na_Duel_many := qn_Duel_many
    Fi_Duel := fun_mk (st := s_Duel___init__) cl_Duel co_Duel ck_Duel
    Bi_Duel := (fun_mk (st := s_Duel___init__) cl_Duel co_Duel ck_Duel).binds (ps := ["self", "many"]) fun _ _ _ _ _ _ us hl => (by obtain ⟨_, _, rfl⟩ := us2 hl; rfl)
    mc_Each := PySem.W.mg_of X G ca_Each
    g_Each := ⟨_, PySem.W.mg_of X G ca_Each, rfl⟩
    cl_Each := ⟨pa_Each, pb_Each, pc_Each, pd_Each⟩
    ty_Each := fun H x dx fs e => .ins e ⟨pa_Each, pb_Each, pc_Each, pd_Each⟩ pe_Each pf_Each pg_Each ph_Each
    mk_Each := ⟨qa_Each, qb_Each, qc_Each, qd_Each⟩
    na_Each_inside := qn_Each_inside
    Fi_Each := fun_mk (st := s_Each___init__) cl_Each co_Each ck_Each
    Bi_Each := (fun_mk (st := s_Each___init__) cl_Each co_Each ck_Each).binds (ps := ["self", "inside"]) fun _ _ _ _ _ _ us hl => (by obtain ⟨_, _, rfl⟩ := us2 hl; rfl)
    mc_First := PySem.W.mg_of X G ca_First
    g_First := ⟨_, PySem.W.mg_of X G ca_First, rfl⟩
    cl_First := ⟨pa_First, pb_First, pc_First, pd_First⟩
    ty_First := fun H x dx fs e => .ins e ⟨pa_First, pb_First, pc_First, pd_First⟩ pe_First pf_First pg_First ph_First
    mk_First := ⟨qa_First, qb_First, qc_First, qd_First⟩
    na_First_outside := qn_First_outside
    na_First_inside := qn_First_inside
    Fi_First := fun_mk (st := s_First___init__) cl_First co_First ck_First
    Bi_First := (fun_mk (st := s_First___init__) cl_First co_First ck_First).binds (ps := ["self", "outside", "inside"]) fun _ _ _ _ _ _ us hl => (by obtain ⟨_, _, _, rfl⟩ := us3 hl; rfl)
    g_FIGURES := ⟨u0, PySem.W.mg_of X G b0, r0⟩
    g_MOST_FIGURES := ⟨u1, PySem.W.mg_of X G b1, r1⟩
    g_MOST_MANY := ⟨u2, PySem.W.mg_of X G b2, r2⟩
    g_MOST_STEP := ⟨u3, PySem.W.mg_of X G b3, r3⟩
    g_MOST_AROUND := ⟨u4, PySem.W.mg_of X G b4, r4⟩
    mc_SpeakError := PySem.W.mg_of X G ca_SpeakError
    g_SpeakError := ⟨_, PySem.W.mg_of X G ca_SpeakError, rfl⟩
    kc_SpeakError := cb_SpeakError
    xc_SpeakError := xc_of cc_SpeakError
    xh_SpeakError := xh_of cc_SpeakError
    xi_SpeakError := cx_SpeakError
    mc_NoListing := PySem.W.mg_of X G ca_NoListing
    g_NoListing := ⟨_, PySem.W.mg_of X G ca_NoListing, rfl⟩
    kc_NoListing := cb_NoListing
    xc_NoListing := xc_of cc_NoListing
    xh_NoListing := xh_of cc_NoListing
    xi_NoListing := cx_NoListing
    fn_NoListing := cg_NoListing
    Fi_NoListing := fun_mk (st := s_NoListing___init__) cl_NoListing co_NoListing ck_NoListing
    Bi_NoListing := (fun_mk (st := s_NoListing___init__) cl_NoListing co_NoListing ck_NoListing).binds (ps := ["self", "line", "word"]) fun _ _ _ _ _ _ us hl => (by obtain ⟨_, _, _, rfl⟩ := us3 hl; rfl)
    sx_NoListing_line := xs_of cs_NoListing_line
    sx_NoListing_word := xs_of cs_NoListing_word
    mc_NoUnits := PySem.W.mg_of X G ca_NoUnits
    g_NoUnits := ⟨_, PySem.W.mg_of X G ca_NoUnits, rfl⟩
    kc_NoUnits := cb_NoUnits
    xc_NoUnits := xc_of cc_NoUnits
    xh_NoUnits := xh_of cc_NoUnits
    xi_NoUnits := cx_NoUnits
    mc_NoPlan := PySem.W.mg_of X G ca_NoPlan
    g_NoPlan := ⟨_, PySem.W.mg_of X G ca_NoPlan, rfl⟩
    kc_NoPlan := cb_NoPlan
    xc_NoPlan := xc_of cc_NoPlan
    xh_NoPlan := xh_of cc_NoPlan
    xi_NoPlan := cx_NoPlan
    fn_NoPlan := cg_NoPlan
    Fi_NoPlan := fun_mk (st := s_NoPlan___init__) cl_NoPlan co_NoPlan ck_NoPlan
    Bi_NoPlan := (fun_mk (st := s_NoPlan___init__) cl_NoPlan co_NoPlan ck_NoPlan).binds (ps := ["self", "place"]) fun _ _ _ _ _ _ us hl => (by obtain ⟨_, _, rfl⟩ := us2 hl; rfl)
    sx_NoPlan_place := xs_of cs_NoPlan_place
    mc_NoLevel := PySem.W.mg_of X G ca_NoLevel
    g_NoLevel := ⟨_, PySem.W.mg_of X G ca_NoLevel, rfl⟩
    kc_NoLevel := cb_NoLevel
    xc_NoLevel := xc_of cc_NoLevel
    xh_NoLevel := xh_of cc_NoLevel
    xi_NoLevel := cx_NoLevel
    mc_NoThrow := PySem.W.mg_of X G ca_NoThrow
    g_NoThrow := ⟨_, PySem.W.mg_of X G ca_NoThrow, rfl⟩
    kc_NoThrow := cb_NoThrow
    xc_NoThrow := xc_of cc_NoThrow
    xh_NoThrow := xh_of cc_NoThrow
    xi_NoThrow := cx_NoThrow
    fn_NoThrow := cg_NoThrow
    Fi_NoThrow := fun_mk (st := s_NoThrow___init__) cl_NoThrow co_NoThrow ck_NoThrow
    Bi_NoThrow := (fun_mk (st := s_NoThrow___init__) cl_NoThrow co_NoThrow ck_NoThrow).binds (ps := ["self", "place"]) fun _ _ _ _ _ _ us hl => (by obtain ⟨_, _, rfl⟩ := us2 hl; rfl)
    sx_NoThrow_place := xs_of cs_NoThrow_place
    sf := fact_sf
    ss := fact_ss
    sl := fact_sl
    sd := fact_sd
    se := fact_se
    sa := fact_sa
    tn := fact_tn
    ts := fact_ts
    x1 := fact_x1
    x2 := fact_x2
    kff := fact_kff
    kfs := fact_kfs
    kfl := fact_kfl
    kfd := fact_kfd
    kfe := fact_kfe
    kfa := fact_kfa
    kfp := fact_kfp
    ksf := fact_ksf
    kss := fact_kss
    ksl := fact_ksl
    ksd := fact_ksd
    kse := fact_kse
    ksa := fact_ksa
    ksp := fact_ksp
    klf := fact_klf
    kls := fact_kls
    kll := fact_kll
    kld := fact_kld
    kle := fact_kle
    kla := fact_kla
    klp := fact_klp
    kdf := fact_kdf
    kds := fact_kds
    kdl := fact_kdl
    kdd := fact_kdd
    kde := fact_kde
    kda := fact_kda
    kdp := fact_kdp
    kef := fact_kef
    kes := fact_kes
    kel := fact_kel
    ked := fact_ked
    kee := fact_kee
    kea := fact_kea
    kep := fact_kep
    kaf := fact_kaf
    kas := fact_kas
    kal := fact_kal
    kad := fact_kad
    kae := fact_kae
    kaa := fact_kaa
    kap := fact_kap
    z_all := PySem.W.mg_none_of X G z0
    z_bool := PySem.W.mg_none_of X G z1
    z_enumerate := PySem.W.mg_none_of X G z2
    z_int := PySem.W.mg_none_of X G z3
    z_isinstance := PySem.W.mg_none_of X G z4
    z_len := PySem.W.mg_none_of X G z5
    z_max := PySem.W.mg_none_of X G z6
    z_min := PySem.W.mg_none_of X G z7
    z_range := PySem.W.mg_none_of X G z8
    z_str := PySem.W.mg_none_of X G z9
    bl := fun s u => .of_eq rfl }
end My
open PySem PySem.W PyProof.Rows
def PySem.W.Fast.tw3042797068723565888 : Nat := 0
def PySem.W.Fast.tw15359084636182171234 : Nat := 0
def PySem.W.Fast.tw16140194718045498275 : Nat := 0
def PySem.W.Fast.tw3842458873341820324 : Nat := 0
def PySem.W.Fast.tw969114127241109156 : Nat := 0
def PySem.W.Fast.tw16685223814285456711 : Nat := 0
def PySem.W.Fast.tw3043719883592857575 : Nat := 0
def PySem.W.Fast.tw16610294620232637832 : Nat := 0
def PySem.W.Fast.tw240668577647715082 : Nat := 0
def PySem.W.Fast.tw4141368703582060237 : Nat := 0
def PySem.W.Fast.tw4064240429098762992 : Nat := 0
def PySem.W.Fast.tw5381714857728362065 : Nat := 0
def PySem.W.Fast.tw9057757687347498676 : Nat := 0
def PySem.W.Fast.tw12097943296972990295 : Nat := 0
def PySem.W.Fast.tw8820538942474630970 : Nat := 0
def PySem.W.Fast.tw7766465522420300987 : Nat := 0
def PySem.W.Fast.tw18257668027184124411 : Nat := 0
def PySem.W.Fast.tw17532860998348429084 : Nat := 0
def PySem.W.Fast.tw8889722966241430879 : Nat := 0
set_option maxRecDepth 100000 in
set_option maxHeartbeats 0 in
theorem PySem.Challenge.cw_fewspeak_k41_plans_as_texts_holds : PySem.Challenge.rw_fewspeak_k41_plans_as_texts.Holds := by
  w_on; o_law; k_head; (case hw => w_witness2)
  k_fill
  refine L2.walk_ofK (l := PySem.Challenge.rw_fewspeak_k41_plans_as_texts) (n := 63) (k := My.lawK) (x := "_law_script") (CX := L2.CX0) (sp := My.spLaw) rfl (by decide) rfl ⟨rfl, by decide, by decide⟩ (fun w h Y => PySem.W.kIn_of Y) ?F ?S ?C
  case F =>
    intro w mg fa h KX G hmg
    have T : ∃ a, My.Txt (L2.KOf KX) mg a := by
      dsimp only [L2.KOf]
      refine' My.txt_mk KX G ?a0 ?l0 ?c0 ?k0 ?a1 ?l1 ?c1 ?k1 ?a2 ?l2 ?c2 ?k2 ?a3 ?l3 ?c3 ?k3 ?a4 ?l4 ?c4 ?k4 ?a5 ?l5 ?c5 ?k5 ?a6 ?l6 ?c6 ?k6 ?a7 ?l7 ?c7 ?k7 ?a8 ?l8 ?c8 ?k8 ?a9 ?l9 ?c9 ?k9 ?a10 ?l10 ?c10 ?k10 ?a11 ?l11 ?c11 ?k11 ?a12 ?l12 ?c12 ?k12 ?a13 ?l13 ?c13 ?k13 ?a14 ?l14 ?c14 ?k14 ?a15 ?l15 ?c15 ?k15 ?a16 ?l16 ?c16 ?k16 ?a17 ?l17 ?c17 ?k17 ?a18 ?l18 ?c18 ?k18 ?a19 ?l19 ?c19 ?k19 ?a20 ?l20 ?c20 ?k20 ?a21 ?l21 ?c21 ?k21 ?a22 ?l22 ?c22 ?k22 ?a23 ?l23 ?c23 ?k23 ?a24 ?l24 ?c24 ?k24 ?a25 ?l25 ?c25 ?k25 ?b_COUNTED ?bt_COUNTED ?b0 ?b1 ?b2 ?b3 ?b4 ?ca_SpeakError ?cb_SpeakError ?cc_SpeakError ?cx_SpeakError ?ca_NoListing ?cb_NoListing ?cc_NoListing ?cf_NoListing ?cx_NoListing ?cg_NoListing ?cl_NoListing ?co_NoListing ?ck_NoListing ?cs_NoListing_line ?cs_NoListing_word ?ca_NoUnits ?cb_NoUnits ?cc_NoUnits ?cx_NoUnits ?ca_NoPlan ?cb_NoPlan ?cc_NoPlan ?cf_NoPlan ?cx_NoPlan ?cg_NoPlan ?cl_NoPlan ?co_NoPlan ?ck_NoPlan ?cs_NoPlan_place ?ca_NoLevel ?cb_NoLevel ?cc_NoLevel ?cx_NoLevel ?ca_NoThrow ?cb_NoThrow ?cc_NoThrow ?cf_NoThrow ?cx_NoThrow ?cg_NoThrow ?cl_NoThrow ?co_NoThrow ?ck_NoThrow ?cs_NoThrow_place ?ca_Plan ?pa_Plan ?pb_Plan ?pc_Plan ?pd_Plan ?pe_Plan ?pf_Plan ?pg_Plan ?ph_Plan ?ca_Few ?pa_Few ?pb_Few ?pc_Few ?pd_Few ?pe_Few ?pf_Few ?pg_Few ?ph_Few ?qa_Few ?qb_Few ?qc_Few ?qd_Few ?qn_Few_many ?cl_Few ?co_Few ?ck_Few ?ca_Start ?pa_Start ?pb_Start ?pc_Start ?pd_Start ?pe_Start ?pf_Start ?pg_Start ?ph_Start ?qa_Start ?qb_Start ?qc_Start ?qd_Start ?qn_Start_step ?cl_Start ?co_Start ?ck_Start ?ca_Loose ?pa_Loose ?pb_Loose ?pc_Loose ?pd_Loose ?pe_Loose ?pf_Loose ?pg_Loose ?ph_Loose ?qa_Loose ?qb_Loose ?qc_Loose ?qd_Loose ?qn_Loose_many ?cl_Loose ?co_Loose ?ck_Loose ?ca_Duel ?pa_Duel ?pb_Duel ?pc_Duel ?pd_Duel ?pe_Duel ?pf_Duel ?pg_Duel ?ph_Duel ?qa_Duel ?qb_Duel ?qc_Duel ?qd_Duel ?qn_Duel_many ?cl_Duel ?co_Duel ?ck_Duel ?ca_Each ?pa_Each ?pb_Each ?pc_Each ?pd_Each ?pe_Each ?pf_Each ?pg_Each ?ph_Each ?qa_Each ?qb_Each ?qc_Each ?qd_Each ?qn_Each_inside ?cl_Each ?co_Each ?ck_Each ?ca_First ?pa_First ?pb_First ?pc_First ?pd_First ?pe_First ?pf_First ?pg_First ?ph_First ?qa_First ?qb_First ?qc_First ?qd_First ?qn_First_outside ?qn_First_inside ?cl_First ?co_First ?ck_First ?mf_Few_text ?ml_Few_text ?mo_Few_text ?mk_Few_text ?mi_Few_text ?mf_Start_text ?ml_Start_text ?mo_Start_text ?mk_Start_text ?mi_Start_text ?mf_Loose_text ?ml_Loose_text ?mo_Loose_text ?mk_Loose_text ?mi_Loose_text ?mf_Duel_text ?ml_Duel_text ?mo_Duel_text ?mk_Duel_text ?mi_Duel_text ?mf_Each_text ?ml_Each_text ?mo_Each_text ?mk_Each_text ?mi_Each_text ?mf_First_text ?ml_First_text ?mo_First_text ?mk_First_text ?mi_First_text ?fact_sf ?fact_ss ?fact_sl ?fact_sd ?fact_se ?fact_sa ?fact_tn ?fact_ts ?fact_x1 ?fact_x2 ?fact_kff ?fact_kfs ?fact_kfl ?fact_kfd ?fact_kfe ?fact_kfa ?fact_kfp ?fact_ksf ?fact_kss ?fact_ksl ?fact_ksd ?fact_kse ?fact_ksa ?fact_ksp ?fact_klf ?fact_kls ?fact_kll ?fact_kld ?fact_kle ?fact_kla ?fact_klp ?fact_kdf ?fact_kds ?fact_kdl ?fact_kdd ?fact_kde ?fact_kda ?fact_kdp ?fact_kef ?fact_kes ?fact_kel ?fact_ked ?fact_kee ?fact_kea ?fact_kep ?fact_kaf ?fact_kas ?fact_kal ?fact_kad ?fact_kae ?fact_kaa ?fact_kap ?z0 ?z1 ?z2 ?z3 ?z4 ?z5 ?z6 ?z7 ?z8 ?z9 ?r0 ?r1 ?r2 ?r3 ?r4
      (case a0 => k_is)
      (case l0 => k_is)
      (case c0 => k_is)
      (case k0 => k_is)
      (case a1 => k_is)
      (case l1 => k_is)
      (case c1 => k_is)
      (case k1 => k_is)
      (case a2 => k_is)
      (case l2 => k_is)
      (case c2 => k_is)
      (case k2 => k_is)
      (case a3 => k_is)
      (case l3 => k_is)
      (case c3 => k_is)
      (case k3 => k_is)
      (case a4 => k_is)
      (case l4 => k_is)
      (case c4 => k_is)
      (case k4 => k_is)
      (case a5 => k_is)
      (case l5 => k_is)
      (case c5 => k_is)
      (case k5 => k_is)
      (case a6 => k_is)
      (case l6 => k_is)
      (case c6 => k_is)
      (case k6 => k_is)
      (case a7 => k_is)
      (case l7 => k_is)
      (case c7 => k_is)
      (case k7 => k_is)
      (case a8 => k_is)
      (case l8 => k_is)
      (case c8 => k_is)
      (case k8 => k_is)
      (case a9 => k_is)
      (case l9 => k_is)
      (case c9 => k_is)
      (case k9 => k_is)
      (case a10 => k_is)
      (case l10 => k_is)
      (case c10 => k_is)
      (case k10 => k_is)
      (case a11 => k_is)
      (case l11 => k_is)
      (case c11 => k_is)
      (case k11 => k_is)
      (case a12 => k_is)
      (case l12 => k_is)
      (case c12 => k_is)
      (case k12 => k_is)
      (case a13 => k_is)
      (case l13 => k_is)
      (case c13 => k_is)
      (case k13 => k_is)
      (case a14 => k_is)
      (case l14 => k_is)
      (case c14 => k_is)
      (case k14 => k_is)
      (case a15 => k_is)
      (case l15 => k_is)
      (case c15 => k_is)
      (case k15 => k_is)
      (case a16 => k_is)
      (case l16 => k_is)
      (case c16 => k_is)
      (case k16 => k_is)
      (case a17 => k_is)
      (case l17 => k_is)
      (case c17 => k_is)
      (case k17 => k_is)
      (case a18 => k_is)
      (case l18 => k_is)
      (case c18 => k_is)
      (case k18 => k_is)
      (case a19 => k_is)
      (case l19 => k_is)
      (case c19 => k_is)
      (case k19 => k_is)
      (case a20 => k_is)
      (case l20 => k_is)
      (case c20 => k_is)
      (case k20 => k_is)
      (case a21 => k_is)
      (case l21 => k_is)
      (case c21 => k_is)
      (case k21 => k_is)
      (case a22 => k_is)
      (case l22 => k_is)
      (case c22 => k_is)
      (case k22 => k_is)
      (case a23 => k_is)
      (case l23 => k_is)
      (case c23 => k_is)
      (case k23 => k_is)
      (case a24 => k_is)
      (case l24 => k_is)
      (case c24 => k_is)
      (case k24 => k_is)
      (case a25 => k_is)
      (case l25 => k_is)
      (case c25 => k_is)
      (case k25 => k_is)
      (case b_COUNTED => k_is)
      (case bt_COUNTED => kernel_rfl)
      (case b0 => k_is)
      (case b1 => k_is)
      (case b2 => k_is)
      (case b3 => k_is)
      (case b4 => k_is)
      (case ca_SpeakError => k_is)
      (case cb_SpeakError => k_is)
      (case cc_SpeakError => kernel_rfl)
      (case cx_SpeakError => kernel_rfl)
      (case ca_NoListing => k_is)
      (case cb_NoListing => k_is)
      (case cc_NoListing => kernel_rfl)
      (case cf_NoListing => k_is)
      (case cx_NoListing => kernel_rfl)
      (case cg_NoListing => k_is)
      (case cl_NoListing => k_is)
      (case co_NoListing => k_is)
      (case ck_NoListing => k_is)
      (case cs_NoListing_line => kernel_rfl)
      (case cs_NoListing_word => kernel_rfl)
      (case ca_NoUnits => k_is)
      (case cb_NoUnits => k_is)
      (case cc_NoUnits => kernel_rfl)
      (case cx_NoUnits => kernel_rfl)
      (case ca_NoPlan => k_is)
      (case cb_NoPlan => k_is)
      (case cc_NoPlan => kernel_rfl)
      (case cf_NoPlan => k_is)
      (case cx_NoPlan => kernel_rfl)
      (case cg_NoPlan => k_is)
      (case cl_NoPlan => k_is)
      (case co_NoPlan => k_is)
      (case ck_NoPlan => k_is)
      (case cs_NoPlan_place => kernel_rfl)
      (case ca_NoLevel => k_is)
      (case cb_NoLevel => k_is)
      (case cc_NoLevel => kernel_rfl)
      (case cx_NoLevel => kernel_rfl)
      (case ca_NoThrow => k_is)
      (case cb_NoThrow => k_is)
      (case cc_NoThrow => kernel_rfl)
      (case cf_NoThrow => k_is)
      (case cx_NoThrow => kernel_rfl)
      (case cg_NoThrow => k_is)
      (case cl_NoThrow => k_is)
      (case co_NoThrow => k_is)
      (case ck_NoThrow => k_is)
      (case cs_NoThrow_place => kernel_rfl)
      (case ca_Plan => k_is)
      (case pa_Plan => (first | k_is | kernel_rfl))
      (case pb_Plan => (first | k_is | kernel_rfl))
      (case pc_Plan => (first | k_is | kernel_rfl))
      (case pd_Plan => (first | k_is | kernel_rfl))
      (case pe_Plan => (first | k_is | kernel_rfl))
      (case pf_Plan => (first | k_is | kernel_rfl))
      (case pg_Plan => (first | k_is | kernel_rfl))
      (case ph_Plan => (first | k_is | kernel_rfl))
      (case ca_Few => k_is)
      (case pa_Few => (first | k_is | kernel_rfl))
      (case pb_Few => (first | k_is | kernel_rfl))
      (case pc_Few => (first | k_is | kernel_rfl))
      (case pd_Few => (first | k_is | kernel_rfl))
      (case pe_Few => (first | k_is | kernel_rfl))
      (case pf_Few => (first | k_is | kernel_rfl))
      (case pg_Few => (first | k_is | kernel_rfl))
      (case ph_Few => (first | k_is | kernel_rfl))
      (case qa_Few => (first | k_is | kernel_rfl))
      (case qb_Few => (first | k_is | kernel_rfl))
      (case qc_Few => (first | k_is | kernel_rfl))
      (case qd_Few => (first | k_is | kernel_rfl))
      (case qn_Few_many => (first | k_is | kernel_rfl))
      (case cl_Few => k_is)
      (case co_Few => k_is)
      (case ck_Few => k_is)
      (case ca_Start => k_is)
      (case pa_Start => (first | k_is | kernel_rfl))
      (case pb_Start => (first | k_is | kernel_rfl))
      (case pc_Start => (first | k_is | kernel_rfl))
      (case pd_Start => (first | k_is | kernel_rfl))
      (case pe_Start => (first | k_is | kernel_rfl))
      (case pf_Start => (first | k_is | kernel_rfl))
      (case pg_Start => (first | k_is | kernel_rfl))
      (case ph_Start => (first | k_is | kernel_rfl))
      (case qa_Start => (first | k_is | kernel_rfl))
      (case qb_Start => (first | k_is | kernel_rfl))
      (case qc_Start => (first | k_is | kernel_rfl))
      (case qd_Start => (first | k_is | kernel_rfl))
      (case qn_Start_step => (first | k_is | kernel_rfl))
      (case cl_Start => k_is)
      (case co_Start => k_is)
      (case ck_Start => k_is)
      (case ca_Loose => k_is)
      (case pa_Loose => (first | k_is | kernel_rfl))
      (case pb_Loose => (first | k_is | kernel_rfl))
      (case pc_Loose => (first | k_is | kernel_rfl))
      (case pd_Loose => (first | k_is | kernel_rfl))
      (case pe_Loose => (first | k_is | kernel_rfl))
      (case pf_Loose => (first | k_is | kernel_rfl))
      (case pg_Loose => (first | k_is | kernel_rfl))
      (case ph_Loose => (first | k_is | kernel_rfl))
      (case qa_Loose => (first | k_is | kernel_rfl))
      (case qb_Loose => (first | k_is | kernel_rfl))
      (case qc_Loose => (first | k_is | kernel_rfl))
      (case qd_Loose => (first | k_is | kernel_rfl))
      (case qn_Loose_many => (first | k_is | kernel_rfl))
      (case cl_Loose => k_is)
      (case co_Loose => k_is)
      (case ck_Loose => k_is)
      (case ca_Duel => k_is)
      (case pa_Duel => (first | k_is | kernel_rfl))
      (case pb_Duel => (first | k_is | kernel_rfl))
      (case pc_Duel => (first | k_is | kernel_rfl))
      (case pd_Duel => (first | k_is | kernel_rfl))
      (case pe_Duel => (first | k_is | kernel_rfl))
      (case pf_Duel => (first | k_is | kernel_rfl))
      (case pg_Duel => (first | k_is | kernel_rfl))
      (case ph_Duel => (first | k_is | kernel_rfl))
      (case qa_Duel => (first | k_is | kernel_rfl))
      (case qb_Duel => (first | k_is | kernel_rfl))
      (case qc_Duel => (first | k_is | kernel_rfl))
      (case qd_Duel => (first | k_is | kernel_rfl))
      (case qn_Duel_many => (first | k_is | kernel_rfl))
      (case cl_Duel => k_is)
      (case co_Duel => k_is)
      (case ck_Duel => k_is)
      (case ca_Each => k_is)
      (case pa_Each => (first | k_is | kernel_rfl))
      (case pb_Each => (first | k_is | kernel_rfl))
      (case pc_Each => (first | k_is | kernel_rfl))
      (case pd_Each => (first | k_is | kernel_rfl))
      (case pe_Each => (first | k_is | kernel_rfl))
      (case pf_Each => (first | k_is | kernel_rfl))
      (case pg_Each => (first | k_is | kernel_rfl))
      (case ph_Each => (first | k_is | kernel_rfl))
      (case qa_Each => (first | k_is | kernel_rfl))
      (case qb_Each => (first | k_is | kernel_rfl))
      (case qc_Each => (first | k_is | kernel_rfl))
      (case qd_Each => (first | k_is | kernel_rfl))
      (case qn_Each_inside => (first | k_is | kernel_rfl))
      (case cl_Each => k_is)
      (case co_Each => k_is)
      (case ck_Each => k_is)
      (case ca_First => k_is)
      (case pa_First => (first | k_is | kernel_rfl))
      (case pb_First => (first | k_is | kernel_rfl))
      (case pc_First => (first | k_is | kernel_rfl))
      (case pd_First => (first | k_is | kernel_rfl))
      (case pe_First => (first | k_is | kernel_rfl))
      (case pf_First => (first | k_is | kernel_rfl))
      (case pg_First => (first | k_is | kernel_rfl))
      (case ph_First => (first | k_is | kernel_rfl))
      (case qa_First => (first | k_is | kernel_rfl))
      (case qb_First => (first | k_is | kernel_rfl))
      (case qc_First => (first | k_is | kernel_rfl))
      (case qd_First => (first | k_is | kernel_rfl))
      (case qn_First_outside => (first | k_is | kernel_rfl))
      (case qn_First_inside => (first | k_is | kernel_rfl))
      (case cl_First => k_is)
      (case co_First => k_is)
      (case ck_First => k_is)
      (case mf_Few_text => (first | k_is | kernel_rfl))
      (case ml_Few_text => k_is)
      (case mo_Few_text => k_is)
      (case mk_Few_text => k_is)
      (case mi_Few_text => (first | k_is | kernel_rfl))
      (case mf_Start_text => (first | k_is | kernel_rfl))
      (case ml_Start_text => k_is)
      (case mo_Start_text => k_is)
      (case mk_Start_text => k_is)
      (case mi_Start_text => (first | k_is | kernel_rfl))
      (case mf_Loose_text => (first | k_is | kernel_rfl))
      (case ml_Loose_text => k_is)
      (case mo_Loose_text => k_is)
      (case mk_Loose_text => k_is)
      (case mi_Loose_text => (first | k_is | kernel_rfl))
      (case mf_Duel_text => (first | k_is | kernel_rfl))
      (case ml_Duel_text => k_is)
      (case mo_Duel_text => k_is)
      (case mk_Duel_text => k_is)
      (case mi_Duel_text => (first | k_is | kernel_rfl))
      (case mf_Each_text => (first | k_is | kernel_rfl))
      (case ml_Each_text => k_is)
      (case mo_Each_text => k_is)
      (case mk_Each_text => k_is)
      (case mi_Each_text => (first | k_is | kernel_rfl))
      (case mf_First_text => (first | k_is | kernel_rfl))
      (case ml_First_text => k_is)
      (case mo_First_text => k_is)
      (case mk_First_text => k_is)
      (case mi_First_text => (first | k_is | kernel_rfl))
      (case fact_sf => kernel_rfl)
      (case fact_ss => kernel_rfl)
      (case fact_sl => kernel_rfl)
      (case fact_sd => kernel_rfl)
      (case fact_se => kernel_rfl)
      (case fact_sa => kernel_rfl)
      (case fact_tn => kernel_rfl)
      (case fact_ts => kernel_rfl)
      (case fact_x1 => kernel_rfl)
      (case fact_x2 => kernel_rfl)
      (case fact_kff => kernel_rfl)
      (case fact_kfs => kernel_rfl)
      (case fact_kfl => kernel_rfl)
      (case fact_kfd => kernel_rfl)
      (case fact_kfe => kernel_rfl)
      (case fact_kfa => kernel_rfl)
      (case fact_kfp => kernel_rfl)
      (case fact_ksf => kernel_rfl)
      (case fact_kss => kernel_rfl)
      (case fact_ksl => kernel_rfl)
      (case fact_ksd => kernel_rfl)
      (case fact_kse => kernel_rfl)
      (case fact_ksa => kernel_rfl)
      (case fact_ksp => kernel_rfl)
      (case fact_klf => kernel_rfl)
      (case fact_kls => kernel_rfl)
      (case fact_kll => kernel_rfl)
      (case fact_kld => kernel_rfl)
      (case fact_kle => kernel_rfl)
      (case fact_kla => kernel_rfl)
      (case fact_klp => kernel_rfl)
      (case fact_kdf => kernel_rfl)
      (case fact_kds => kernel_rfl)
      (case fact_kdl => kernel_rfl)
      (case fact_kdd => kernel_rfl)
      (case fact_kde => kernel_rfl)
      (case fact_kda => kernel_rfl)
      (case fact_kdp => kernel_rfl)
      (case fact_kef => kernel_rfl)
      (case fact_kes => kernel_rfl)
      (case fact_kel => kernel_rfl)
      (case fact_ked => kernel_rfl)
      (case fact_kee => kernel_rfl)
      (case fact_kea => kernel_rfl)
      (case fact_kep => kernel_rfl)
      (case fact_kaf => kernel_rfl)
      (case fact_kas => kernel_rfl)
      (case fact_kal => kernel_rfl)
      (case fact_kad => kernel_rfl)
      (case fact_kae => kernel_rfl)
      (case fact_kaa => kernel_rfl)
      (case fact_kap => kernel_rfl)
      (case z0 => k_is)
      (case z1 => k_is)
      (case z2 => k_is)
      (case z3 => k_is)
      (case z4 => k_is)
      (case z5 => k_is)
      (case z6 => k_is)
      (case z7 => k_is)
      (case z8 => k_is)
      (case z9 => k_is)
      (case r0 => first | exact rfl | exact ⟨_, rfl⟩)
      (case r1 => first | exact rfl | exact ⟨_, rfl⟩)
      (case r2 => first | exact rfl | exact ⟨_, rfl⟩)
      (case r3 => first | exact rfl | exact ⟨_, rfl⟩)
      (case r4 => first | exact rfl | exact ⟨_, rfl⟩)
    obtain ⟨a, T⟩ := T
    have e0 := hmg.symm.trans T.m_law
    cases e0
    refine' ⟨a.d_law, ?b, fun base kb nb => My.ok_law T⟩
    exact T.bl
  case S => exact fun K H a ns hl hO hS => My.law_start hl hO hS
  case C => exact fun H s e s' z => z
