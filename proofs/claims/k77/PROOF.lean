import PyProof.Rows.All
import Wide.All
import OpenK.AllK
import Wide.FinOn
import Lean
import PyProof.EqAt
import PyProof.EqKinds
import PyProof.TupleCall
import PySem.Challenge.RW_fewspeak_k77_no_bounds_and_no_answers
noncomputable section
set_option Elab.async false
set_option linter.all false
set_option maxRecDepth 100000
namespace L2
open PySem PySem.Spec PyProof.Rows
abbrev Key:=Sum Int Str
def kr:Key→Value→Bool
  | .inl k,v=>Value.isInt k v
  | .inr x,v=>Value.isStrOf x v
def zk (w:World):Key→Int
  | .inl k=>hashInt k
  | .inr x=>hashStr w x
theorem bF:∀ {k:Key} {v:Value},kr k v = true→(∃ i t,k = Sum.inl i∧v = Value.int i t)∨(∃ x t,k = Sum.inr x∧v = Value.str x t)
  | .inl i,v,h=>by
    obtain ⟨t,e⟩:=Value.isInt_shape (k:=i) (v:=v) h
    exact .inl ⟨i,t,rfl,e⟩
  | .inr x,v,h=>by
    obtain ⟨t,e⟩:=Value.isStrOf_shape (x:=x) (v:=v) h
    exact .inr ⟨x,t,rfl,e⟩
theorem pH (i:Int) (t:Tok):kr (.inl i) (.int i t) = true:=by simp [kr,Value.isInt]
theorem pb (x:Str) (t:Tok):kr (.inr x) (.str x t) = true:=by simp [kr,Value.isStrOf]
theorem wL (a b:Int):decide ((Sum.inl a:Key) = Sum.inl b) = (a == b):=by
  by_cases e:a = b
  · subst e; simp
  · have h:¬ (Sum.inl a:Key) = Sum.inl b:=fun q=>e (Sum.inl.inj q)
    rw [decide_eq_false h]
    exact (beq_eq_false_iff_ne.mpr e).symm
theorem wP (a b:Str):decide ((Sum.inr a:Key) = Sum.inr b) = decide (a = b):=by
  by_cases e:a = b
  · subst e; simp
  · have h:¬ (Sum.inr a:Key) = Sum.inr b:=fun q=>e (Sum.inr.inj q)
    rw [decide_eq_false h,decide_eq_false e]
theorem wV (a:Int) (b:Str):decide ((Sum.inl a:Key) = Sum.inr b) = false:=decide_eq_false (fun q=>nomatch q)
theorem wz (a:Str) (b:Int):decide ((Sum.inr a:Key) = Sum.inl b) = false:=decide_eq_false (fun q=>nomatch q)
def bR (prog:Program) (w:World):PySem.KeyKind prog w Key where
  is:=kr
  hash:=zk w
  inj:=fun v a b ha hb=>by
    rcases bF ha with ⟨i,t,rfl,rfl⟩ | ⟨x,t,rfl,rfl⟩
    · rcases bF hb with ⟨j,u,rfl,e⟩ | ⟨y,u,rfl,e⟩
      · injection e with e1 _; rw [e1]
      · exact nomatch e
    · rcases bF hb with ⟨j,u,rfl,e⟩ | ⟨y,u,rfl,e⟩
      · exact nomatch e
      · injection e with e1 _; rw [e1]
  byValue:=fun k v h=>by
    rcases bF h with ⟨i,t,rfl,rfl⟩ | ⟨x,t,rfl,rfl⟩ <;> rfl
  pyHash:=fun hv h=>by
    rcases bF hv with ⟨i,t,rfl,rfl⟩ | ⟨x,t,rfl,rfl⟩
    · exact wpAny_pyHash_int h
    · exact wpAny_pyHash_str h
  eqBool:=fun hu hv h=>by
    rcases bF hu with ⟨i,t,rfl,rfl⟩ | ⟨x,t,rfl,rfl⟩
    · rcases bF hv with ⟨j,u,rfl,rfl⟩ | ⟨y,u,rfl,rfl⟩
      · rw [wL] at h; exact wpAny_eqBool_int h
      · rw [wV] at h; exact SeqAt.EqAt.int_str i t y u _ _ _ _ h
    · rcases bF hv with ⟨j,u,rfl,rfl⟩ | ⟨y,u,rfl,rfl⟩
      · rw [wz] at h; exact SeqAt.EqAt.str_int x t j u _ _ _ _ h
      · rw [wP] at h; exact wpAny_eqBool_str h
  «strs»:=fun k x t v h=>by
    rcases bF h with ⟨i,u,rfl,e⟩ | ⟨y,u,rfl,e⟩
    · exact nomatch e
    · injection e with e1 _
      subst e1
      cases v <;> rfl
theorem lI (prog:Program) (w:World) (i:Int) (t:Tok):(bR prog w).is (.inl i) (.int i t) = true:=pH i t
theorem mQ (prog:Program) (w:World) (x:Str) (t:Tok):(bR prog w).is (.inr x) (.str x t) = true:=pb x t
end L2
namespace L2
open PySem PySem.Spec PyProof.Rows
inductive V where
  | non | bl (b:Bool) | int (i:Int) | str (x:Str) | byt (b:Array UInt8) | flt (b:UInt64) | ref (a:Addr) | ty (n:String)
  deriving DecidableEq
def RelV:V→Value→Prop
  | .non,u=>u = Value.none
  | .bl b,u=>u = Value.bool b
  | .int i,u=>∃ t,u = Value.int i t
  | .str x,u=>∃ t,u = Value.str x t
  | .byt b,u=>∃ t,u = Value.bytes b t
  | .flt b,u=>∃ t,u = Value.float b t
  | .ref a,u=>u = Value.ref a
  | .ty n,u=>u = Value.type n
abbrev Vals:List V→List Value→Prop:=Paired RelV
theorem Vals.length {xs:List V} {us:List Value} (r:Vals xs us):xs.length = us.length:=Paired.length r
theorem Vals.get:∀ {xs:List V} {us:List Value} {i:Nat} {x:V},Vals xs us→xs[i]? = some x→∃ u,us[i]? = some u∧RelV x u
  | _,_,_,_,.nil,e=>by simp at e
  | _,_,0,_,.cons r _,e=>by simp at e; subst e; exact ⟨_,rfl,r⟩
  | _,_,i + 1,x,.cons _ t,e=>by
    obtain ⟨u,h1,h2⟩:=Vals.get (i:=i) (x:=x) t (by simpa using e)
    exact ⟨u,by simpa using h1,h2⟩
theorem Vals.set {x:V} {u:Value} (r:RelV x u):∀ {xs:List V} {us:List Value} (i:Nat),Vals xs us→Vals (xs.set i x) (us.set i u)
  | _,_,_,.nil=>.nil
  | _,_,0,.cons _ t=>.cons r t
  | _,_,i + 1,.cons q t=>.cons q (Vals.set r i t)
theorem Vals.append:∀ {xs ys:List V} {us ws:List Value},Vals xs us→Vals ys ws→Vals (xs ++ ys) (us ++ ws)
  | _,_,_,_,.nil,s=>s
  | _,_,_,_,.cons r t,s=>.cons r (Vals.append t s)
theorem Vals.take:∀ {xs:List V} {us:List Value} (n:Nat),Vals xs us→Vals (xs.take n) (us.take n)
  | _,_,0,_=>.nil
  | _,_,_ + 1,.nil=>.nil
  | _,_,n + 1,.cons r t=>.cons r (Vals.take n t)
theorem Vals.drop:∀ {xs:List V} {us:List Value} (n:Nat),Vals xs us→Vals (xs.drop n) (us.drop n)
  | _,_,0,r=>r
  | _,_,_ + 1,.nil=>.nil
  | _,_,n + 1,.cons _ t=>Vals.drop n t
def RelO:Option V→Option Value→Prop
  | some v,some u=>RelV v u
  | none,none=>True
  | _,_=>False
def KV {κ:Type}:List (κ×V)→List (κ×Value)→Prop:=Paired fun (p:κ×V) (q:κ×Value)=>p.1 = q.1∧RelV p.2 q.2
def kV:Key→V
  | .inl i=>.int i
  | .inr x=>.str x
inductive HO where
  | lst (xs:List V)
  | tup (xs:List V)
  | dK (kvs:List (Key×V)) | dT (kvs:List (List Key×V))
  | set (S:Int→Bool) (n:Nat)
  | ins (C dx:Addr) (fs:List (Str×V))
  | own (x:Addr)
  | xd (fs:List (Str×V))
  | met (f x:Addr)
  | rng (lo hi:Int)
  | frz (o:Obj) (u:HO)
  | tbl (ps:Array Value)
  | ext (φ:Heap→Prop)
abbrev Hp:=Addr→Option HO
def upd (H:Hp) (a:Addr) (o:HO):Hp:=fun b=>if b = a then some o else H b
theorem ac {H:Hp} {a:Addr} {o:HO}:upd H a o a = some o:=by unfold upd; rw [if_pos rfl]
theorem ao {H:Hp} {a b:Addr} {o:HO} (h:b≠a):upd H a o b = H b:=by unfold upd; rw [if_neg h]
theorem oY {H:Hp} {a:Addr} {o u:HO}:upd (upd H a o) a u = upd H a u:=by
  funext b; unfold upd; split <;> rfl
theorem yo {H:Hp} {a b:Addr} {o u:HO} (h:H a = some o) (h':H b = some u) (d:o≠u):a≠b:=by
  intro e; subst e; rw [h] at h'; exact d (Option.some.inj h')
theorem ay {H:Hp} {a b:Addr} {o:HO} (h:H a = some o) (h':H b = none):a≠b:=by
  intro e; subst e; rw [h] at h'; cases h'
section
variable (P:Program) (w:World)
def ObjOk (H:Hp) (h:Heap) (a:Addr):HO→Prop
  | .lst xs=>xs.length≤sizeLine∧∃ (its:List Value) (n:Nat),Vals xs its∧h.get? a = some { cls:=.type "list",data:=.seq its.toArray n }
  | .tup xs=>xs.length≤sizeLine∧∃ its:List Value,Vals xs its∧IsTup h a its.toArray
  | .dK kvs=>kvs.length≤sizeLine∧(a == sysModules) = false∧∃ vs,KV kvs vs∧h.DictOf (bR P w) a vs
  | .dT kvs=>kvs.length≤sizeLine∧(a == sysModules) = false∧∃ xs:List (List Key×Addr×Value),
      Paired (fun (p:List Key×V) (q:List Key×Addr×Value)=>p.1 = q.1∧H q.2.1 = some (.tup (p.1.map kV))∧RelV p.2 q.2.2) kvs xs ∧
      ∃ o es ep,h.get? a = some o∧o.ExactDict∧o.data = .dict es ep∧es.toList = xs.map (entryOfKey (tupleKind (bR P w)))∧(xs.map (·.1)).Nodup
  | .set S n=>h.SetOf (intKind P w) a S n
  | .ins C dx fs=>H dx = some (.own a)∧fs.length≤1000∧dx≠a∧h.get? a = some (PySem.W.instObj C dx) ∧
      ∃ mA,h.Ns1 dx mA∧(∀ f,RelO (fs.lookup f) (mA f))∧PySem.Within mA (fs.map (·.1))
  | .own _=>∃ o,h.get? a = some o
  | .xd fs=>∃ mA,h.Ns1 a mA∧∀ f,RelO (fs.lookup f) (mA f)
  | .rng lo hi=>∃ t u v,h.get? a = some { cls:=.type "range",data:=.fields #[.int lo t,.int hi u,.int 1 v] }
  | .frz o u=>h.get? a = some o∧ObjOk H h a u
  | .tbl ps=>h.get? a = some { cls:=.none,data:=.fields ps }
  | .met f x=>h.get? a = some (PySem.W.methodObj (.ref f) (.ref x))
  | .ext φ=>φ h∧(∃ o,h.get? a = some o)∧∀ h1 h2:Heap,φ h1→(∀ o,h1.get? a = some o→h2.get? a = some o)→φ h2
def HOk (H:Hp) (h:Heap):Prop:=∀ a o,H a = some o→ObjOk P w H h a o
end
section
variable {P:Program} {w:World} {H H':Hp} {h h':Heap} {a:Addr} {o:HO}
theorem ObjOk.lt (x:ObjOk P w H h a o):a < h.objs.size:=by
  cases o with
  | lst xs=>obtain ⟨_,_,_,_,e⟩:=x; exact Heap.lt_size e
  | tup xs=>obtain ⟨_,_,_,p⟩:=x; exact p.lt
  | dK kvs=>obtain ⟨_,_,_,_,o,_,_,e,_⟩:=x; exact Heap.lt_size e
  | dT kvs=>obtain ⟨_,_,_,_,o,_,_,e,_⟩:=x; exact Heap.lt_size e
  | set S n=>obtain ⟨o,_,_,_,e,_⟩:=x; exact Heap.lt_size e
  | ins C dx fs=>obtain ⟨_,_,_,e,_⟩:=x; exact Heap.lt_size e
  | own y=>obtain ⟨_,e⟩:=x; exact Heap.lt_size e
  | xd fs=>obtain ⟨_,⟨_,_,_,e,_⟩,_⟩:=x; exact Heap.lt_size e
  | rng lo hi=>obtain ⟨_,_,_,e⟩:=x; exact Heap.lt_size e
  | frz ob u=>obtain ⟨e,_⟩:=x; exact Heap.lt_size e
  | tbl ps=>exact Heap.lt_size (show h.get? a = some _ from x)
  | met f y=>exact Heap.lt_size (show h.get? a = some _ from x)
  | ext φ=>obtain ⟨_,⟨_,e⟩,_⟩:=x; exact Heap.lt_size e
theorem Paired.mapP {α β:Type} {F G:α→β→Prop}:∀ {l₁:List α} {l₂:List β},Paired F l₁ l₂→(∀ a b,F a b→G a b)→Paired G l₁ l₂
  | _,_,.nil,_=>.nil
  | _,_,.cons r t,f=>.cons (f _ _ r) (Paired.mapP t f)
theorem ObjOk.stay (x:ObjOk P w H h a o) (k:∀ b u,(b = a∨H b = some (.own a))→h.get? b = some u→h'.get? b = some u)
    (ho:∀ b,H b = some (.own a)→H' b = some (.own a)) (ht:∀ b xs,H b = some (.tup xs)→H' b = some (.tup xs)):ObjOk P w H' h' a o:=by
  induction o with
  | lst xs=>obtain ⟨z,its,n,r,e⟩:=x; exact ⟨z,its,n,r,k _ _ (.inl rfl) e⟩
  | tup xs=>obtain ⟨z,its,r,ob,e,c⟩:=x; exact ⟨z,its,r,ob,k _ _ (.inl rfl) e,c⟩
  | dK kvs=>obtain ⟨z,y,vs,r,ob,es,ep,e,c⟩:=x; exact ⟨z,y,vs,r,ob,es,ep,k _ _ (.inl rfl) e,c⟩
  | dT kvs =>
    obtain ⟨z,y,xs,r,ob,es,ep,e,c⟩:=x
    exact ⟨z,y,xs,Paired.mapP r fun p q z=>⟨z.1,ht _ _ z.2.1,z.2.2⟩,ob,es,ep,k _ _ (.inl rfl) e,c⟩
  | set S n=>obtain ⟨ob,es,ep,t,e,c⟩:=x; exact ⟨ob,es,ep,t,k _ _ (.inl rfl) e,c⟩
  | ins C dx fs =>
    obtain ⟨d,z,ne,e,mA,⟨od,es,ep,e2,c⟩,r⟩:=x
    exact ⟨ho _ d,z,ne,k _ _ (.inl rfl) e,mA,⟨od,es,ep,k _ _ (.inr d) e2,c⟩,r⟩
  | own y=>obtain ⟨ob,e⟩:=x; exact ⟨ob,k _ _ (.inl rfl) e⟩
  | xd fs=>obtain ⟨mA,⟨od,es,ep,e,c⟩,r⟩:=x; exact ⟨mA,⟨od,es,ep,k _ _ (.inl rfl) e,c⟩,r⟩
  | rng lo hi=>obtain ⟨t,u,v,e⟩:=x; exact ⟨t,u,v,k _ _ (.inl rfl) e⟩
  | frz ob u ih=>obtain ⟨e,q⟩:=x; exact ⟨k _ _ (.inl rfl) e,ih q⟩
  | tbl ps =>
    have e:h.get? a = some { cls:=.none,data:=.fields ps }:=x
    show h'.get? a = some { cls:=.none,data:=.fields ps }
    exact k a _ (.inl rfl) e
  | met f y =>
    have e:h.get? a = some (PySem.W.methodObj (.ref f) (.ref y)):=x
    show h'.get? a = some (PySem.W.methodObj (.ref f) (.ref y))
    exact k a _ (.inl rfl) e
  | ext φ=>obtain ⟨p,⟨o,e⟩,st⟩:=x; exact ⟨st _ _ p fun o q=>k _ _ (.inl rfl) q,⟨o,k _ _ (.inl rfl) e⟩,st⟩
theorem HOk.lt (x:HOk P w H h) (e:H a = some o):a < h.objs.size:=(x a o e).lt
theorem HOk.fresh (x:HOk P w H h) (e:h.objs.size≤a):H a = none:=by
  cases q:H a with
  | none=>rfl
  | some u=>exact absurd (Nat.lt_of_lt_of_le (x.lt q) e) (Nat.lt_irrefl _)
theorem HOk.kept (x:HOk P w H h) (k:∀ b u,h.get? b = some u→h'.get? b = some u):HOk P w H h':=fun a o e =>
  (x a o e).stay (fun b u _ q=>k b u q) (fun _ q=>q) fun _ _ q=>q
theorem HOk.laid (x:HOk P w H h) (k:∀ b u,h.get? b = some u→h'.get? b = some u) (hp:h.objs.size≤a) (new:ObjOk P w (upd H a o) h' a o):HOk P w (upd H a o) h':=fun b u e=>by
  have hn:=x.fresh hp
  by_cases hb:b = a
  · subst hb; rw [ac] at e; cases e; exact new
  · rw [ao hb] at e
    exact (x b u e).stay (fun c v _ q=>k c v q) (fun c q=>by rw [ao (ay q hn)]; exact q) fun c xs q=>by rw [ao (ay q hn)]; exact q
end
def Rd (H:Hp) (a:Addr) (u:HO):Prop:=H a = some u∨∃ o,H a = some (.frz o u)
theorem Rd.ok {P:Program} {w:World} {H:Hp} {h:Heap} {a:Addr} {u:HO} (r:Rd H a u) (x:HOk P w H h):ObjOk P w H h a u:=by
  rcases r with r | ⟨o,r⟩
  · exact x a u r
  · obtain ⟨_,q⟩:=x a _ r
    exact q
def Mut:Option HO→Prop
  | some (.lst _)=>True
  | some (.dK _)=>True
  | some (.dT _)=>True
  | some (.set _ _)=>True
  | some (.ins _ _ _)=>True
  | some (.ext _)=>True
  | _=>False
section
variable {P:Program} {w:World} {H:Hp} {h h':Heap} {x e:Addr} {o':HO}
theorem HOk.write (ok:HOk P w H h) (mu:Mut (H x)) (he:e = x∨H e = some (.own x)) (k:∀ b u,b≠e→h.get? b = some u→h'.get? b = some u) (heo:∃ u,h'.get? e = some u)
    (new:ObjOk P w (upd H x o') h' x o'):HOk P w (upd H x o') h':=fun b u q=>by
  have nown:∀ c y,H c = some (.own y)→c≠x:=fun c y r z=>by subst z; rw [r] at mu; exact mu
  have ntup:∀ c xs,H c = some (.tup xs)→c≠x:=fun c xs r z=>by subst z; rw [r] at mu; exact mu
  by_cases hb:b = x
  · subst hb; rw [ac] at q; cases q; exact new
  · rw [ao hb] at q
    by_cases hbe:b = e
    · have q':H b = some (.own x):=by
        rcases he with z | z
        · exact absurd (hbe.trans z) hb
        · rw [hbe]; exact z
      rw [q] at q'; cases q'
      obtain ⟨v,hv⟩:=heo
      exact ⟨v,by rw [hbe]; exact hv⟩
    · refine (ok b u q).stay (fun c v hc r=>k c v ?_ r) (fun c r=>by rw [ao (nown c b r)]; exact r) fun c xs r=>by rw [ao (ntup c xs r)]; exact r
      rcases hc with rfl | hc
      · exact hbe
      · rintro rfl
        rcases he with z | z
        · exact nown c b hc z
        · rw [hc] at z; cases z; exact hb rfl
end
structure Un (fs ex:List Addr) (H H':Hp) (h h':Heap):Prop where
  keep:∀ b o,h.get? b = some o→H b = none→b ∉ fs→b ∉ ex→h'.get? b = some o
  slot:∀ b o,h.get? b = some o→H b = none→b ∈ fs→b ∉ ex→∃ sl,h'.get? b = some { o with slots:=sl }
  free:∀ b o,h.get? b = some o→H b = none→b ∉ ex→H' b = none
  there:∀ b o,h.get? b = some o→b ∉ ex→∃ o',h'.get? b = some o'
  tups:∀ b xs,H b = some (.tup xs)→H' b = some (.tup xs)
  frzs:∀ b o u,H b = some (.frz o u)→H' b = some (.frz o u)
  tbls:∀ b ps,H b = some (.tbl ps)→∃ more,H' b = some (.tbl (ps ++ more))
section
variable {fs fs' ex ex':List Addr} {H H1 H2:Hp} {h h1 h2 h':Heap} {a x e:Addr} {o:HO}
theorem Un.any (u:Un fs ex H H1 h h1) {b:Addr} {ob:Obj} (q:h.get? b = some ob) (n:H b = none) (hx:b ∉ ex):∃ sl,h1.get? b = some { ob with slots:=sl }:=by
  by_cases hb:b ∈ fs
  · exact u.slot b ob q n hb hx
  · exact ⟨ob.slots,u.keep b ob q n hb hx⟩
theorem Un.trans (a:Un fs ex H H1 h h1) (b:Un fs ex H1 H2 h1 h2):Un fs ex H H2 h h2 where
  keep:=fun c ob q n hc hx=>b.keep c ob (a.keep c ob q n hc hx) (a.free c ob q n hx) hc hx
  slot:=fun c ob q n hc hx=>by
    obtain ⟨sl,e1⟩:=a.slot c ob q n hc hx
    obtain ⟨sl',e2⟩:=b.slot c _ e1 (a.free c ob q n hx) hc hx
    exact ⟨sl',e2⟩
  free:=fun c ob q n hx=>by
    obtain ⟨o',e1⟩:=a.there c ob q hx
    exact b.free c o' e1 (a.free c ob q n hx) hx
  there:=fun c ob q hx=>by
    obtain ⟨o',e1⟩:=a.there c ob q hx
    exact b.there c o' e1 hx
  tups:=fun c xs q=>b.tups c xs (a.tups c xs q)
  frzs:=fun c ob xs q=>b.frzs c ob xs (a.frzs c ob xs q)
  tbls:=fun c ps q=>by
    obtain ⟨m1,e1⟩:=a.tbls c ps q
    obtain ⟨m2,e2⟩:=b.tbls c _ e1
    exact ⟨m1 ++ m2,by rw [e2,Array.append_assoc]⟩
theorem Un.kept (k:∀ b u,h.get? b = some u→h'.get? b = some u):Un fs ex H H h h' :=
  ⟨fun b ob q _ _ _=>k b ob q,fun b ob q _ _ _=>⟨ob.slots,k b ob q⟩,fun _ _ _ n _=>n,fun b ob q _=>⟨ob,k b ob q⟩,fun _ _ q=>q,fun _ _ _ q=>q,fun _ ps q=>⟨#[],by rw [q]; simp⟩⟩
theorem Un.refl:Un fs ex H H h h:=Un.kept fun _ _ q=>q
theorem Un.laid (k:∀ b u,h.get? b = some u→h'.get? b = some u) (hp:h.objs.size≤a) (hn:H a = none):Un fs ex H (upd H a o) h h' where
  keep:=fun b u q _ _ _=>k b u q
  slot:=fun b u q _ _ _=>⟨u.slots,k b u q⟩
  free:=fun b u q n _=>by rw [ao (Nat.ne_of_lt (Nat.lt_of_lt_of_le (Heap.lt_size q) hp))]; exact n
  there:=fun b u q _=>⟨u,k b u q⟩
  tups:=fun b xs q=>by rw [ao (ay q hn)]; exact q
  frzs:=fun b u xs q=>by rw [ao (ay q hn)]; exact q
  tbls:=fun b ps q=>⟨#[],by rw [ao (ay q hn),q]; simp⟩
theorem Un.write (mu:Mut (H x)) (he:e = x∨H e = some (.own x)) (k:∀ b u,b≠e→h.get? b = some u→h'.get? b = some u) (heo:∃ u,h'.get? e = some u):Un fs ex H (upd H x o) h h':=by
  have hx:∀ b,H b = none→b≠x:=fun b n z=>by subst z; rw [n] at mu; exact mu
  have hb:∀ b,H b = none→b≠e:=fun b n z=>by
    subst z
    rcases he with r | r
    · exact hx b n r
    · rw [n] at r; cases r
  have hm:∀ b u,H b = some u→¬ Mut (some u)→b≠x:=fun b u q nm z=>by subst z; rw [q] at mu; exact nm mu
  refine ⟨fun b u q n _ _=>k b u (hb b n) q,fun b u q n _ _=>⟨u.slots,k b u (hb b n) q⟩,fun b u q n _=>by rw [ao (hx b n)]; exact n,fun b u q _=>?_,
    fun b xs q=>by rw [ao (hm b _ q fun z=>z)]; exact q,fun b u xs q=>by rw [ao (hm b _ q fun z=>z)]; exact q,fun b ps q=>⟨#[],by rw [ao (hm b _ q fun z=>z),q]; simp⟩⟩
  by_cases hbe:b = e
  · subst hbe; exact heo
  · exact ⟨u,k b u hbe q⟩
end
def trk (h:Heap) (H:Hp):List Addr:=(List.range h.objs.size).filter fun a=>(H a).isSome
def jT (h:Heap) (H:Hp):Heap:=PySem.W.hideAll h (trk h H)
theorem pM (h:Heap) (H:Hp):(jT h H).objs.size = h.objs.size:=PySem.W.hideAll_size _ _
theorem qm {h:Heap} {H:Hp} {b:Addr} {o:Obj} (e:h.get? b = some o) (n:H b = none):(jT h H).get? b = some o :=
  PySem.W.hideAll_get _ e fun hm=>by
    have q:(H b).isSome = true:=(List.mem_filter.mp hm).2
    rw [n] at q; simp at q
theorem sV {h:Heap} {H:Hp} {b:Addr} {o:Obj} (e:(jT h H).get? b = some o):h.get? b = some o∧H b = none:=by
  have e':h.get? b = some o:=PySem.W.of_hideAll (trk h H) e
  refine ⟨e',?_⟩
  cases q:H b with
  | none=>rfl
  | some x =>
    have hm:b ∈ trk h H:=List.mem_filter.mpr ⟨List.mem_range.mpr (Heap.lt_size e'),by simp [q]⟩
    have z:(jT h H).get? b = none:=PySem.W.hideAll_none (trk h H) hm
    rw [z] at e; cases e
def uL (g h:Heap) (L:Addr):List (Addr×Obj):=(List.range h.objs.size).filterMap fun a=>if a = L∨(g.get? a).isSome = true then none else (h.get? a).map fun o=>(a,o)
def rest (g h:Heap) (L d:Addr):List (Addr×Obj):=(uL g h L).filter fun p=>decide (p.1≠d)
end L2
namespace L2
open PySem PySem.Spec PyProof.Rows
structure Mod (K:PySem.W.Frag) (mg:Str→Option Value) (base:Heap):Prop where
  kin:K.In base
  glob:base.Ns mainGlobals mg
  blt:∃ mb,base.Ns builtinsNs mb∧∀ x:Str,x ≠ "__name__" → mb x = bootBuiltins x
  nolimit:base.NoLimit
/-- the context: a def's body (or a comprehension's block) running. base: fixed through the whole law; s₀, H₀: the entry; outer: the frames whose slots others may change (a def's callers); stack: all frames that run;
   ex: iterators that were made ahead of the entry and are walked here (a comprehension's); fn: the names whose cells were made at the entry (a def: all; a comprehension's block: its own); calm: not ww an except suite; pn: pins that every state bears; xe: what is wanted of an exception that leaves the code -/
structure Cx where
  prog:Program
  w:World
  K:PySem.W.Frag
  mg:Str→Option Value
  base:Heap
  A:Around
  N:List Str
  s₀:Shared
  H₀:Hp
  env:Env
  outer:List Env
  stack:List Env
  ex:List Addr
  fn:Str→Bool
  calm:Bool
  pn:List (Addr×Obj)
  xe:Value→Shared→Prop
def frs (l:List Env):List Addr:=l.filterMap (·.frame)
abbrev Cx.fs (X:Cx):List Addr:=frs X.outer
def Vis (sc:Scope) (x:Str):Prop:=sc.names.lookup x = some .local∨sc.names.lookup x = some .cell∨sc.names.lookup x = some .free
def Loc (sc:Scope) (x:Str):Prop:=sc.names.lookup x = some .local∨sc.names.lookup x = some .cell
def wx (env:Env) (h:Heap) (m:Str→Option Value) (x:Str) (u:Value):Prop :=
  (env.kindOf x = some .local∧m x = some u)∨((env.kindOf x = some .cell∨env.kindOf x = some .free)∧∃ c,env.cells.lookup x = some c∧h.IsCell c (some u))
structure Cx.Ok (X:Cx):Prop where
  mod:Mod X.K X.mg X.base
  kind:X.env.scope.kind = .function
  glob:X.env.globals = mainGlobals
  blt:X.env.builtins = builtinsNs
  above:X.s₀.heap.objs.size≤X.env.locals
  inj:∀ x y c,X.env.cells.lookup x = some c→X.env.cells.lookup y = some c→x = y
  has:∀ x,(X.env.kindOf x = some .cell∨X.env.kindOf x = some .free)→∃ c,X.env.cells.lookup x = some c
  cab:∀ x c,X.fn x = true→X.env.cells.lookup x = some c→X.s₀.heap.objs.size≤c
  hd:X.calm = true→X.A.handled = none
  frames:X.A.frames = some X.stack
  stk:X.stack = X.outer∨(X.stack = X.env :: X.outer∧X.env.frame = some X.env.locals)
  exf:∀ b ∈ X.ex,b≠X.env.locals∧∀ x c,X.env.cells.lookup x = some c→c≠b
  bs:∀ b o,X.base.get? b = some o→X.s₀.heap.get? b = some o∧X.H₀ b = none
  bsz:X.base.objs.size≤X.s₀.heap.objs.size
  noex:∀ b o,X.base.get? b = some o→b ∉ X.ex
  exfs:∀ b ∈ X.ex,b ∉ X.fs
  funs:X.s₀.heap.FunFrames X.base X.outer
  frf:∀ b ∈ X.fs,X.H₀ b = none
structure Inv (X:Cx) (pins:List (Addr×Obj)) (σ:List (Option V)) (H:Hp) (s:Shared):Prop where
  ok:X.Ok
  os:s.os = X.s₀.os
  bare:AllBare s.gens
  base:Un X.fs X.ex X.H₀ H X.s₀.heap s.heap
  loc:∃ m,s.heap.Ns X.env.locals m∧∀ (i:Nat) (x:Str) (v:V),X.N[i]? = some x→σ[i]? = some (some v)→Vis X.env.scope x→∃ u,RelV v u∧wx X.env s.heap m x u
  cell:∀ x c,X.env.cells.lookup x = some c→∃ v,s.heap.IsCell c v
  free:H X.env.locals = none
  freeC:∀ x c,X.env.cells.lookup x = some c→H c = none
  pin:∀ p ∈ X.pn ++ pins,s.heap.get? p.1 = some p.2∧H p.1 = none∧p.1≠X.env.locals∧p.1 ∉ X.fs∧∀ v,p.2.data≠.cell v
  hok:HOk X.prog X.w H s.heap
  len:σ.length = X.N.length
section
variable {X:Cx} {pins:List (Addr×Obj)} {σ:List (Option V)} {H H':Hp} {s:Shared} {h':Heap}
theorem Cx.Ok.nofr (ok:X.Ok) {b:Addr} {o:Obj} (e:X.base.get? b = some o):b ∉ X.fs:=fun hb=>by
  have:=(ok.funs.mem hb).1
  rw [e] at this; cases this
theorem Inv.bs (I:Inv X pins σ H s):∀ b o,X.base.get? b = some o→s.heap.get? b = some o∧H b = none:=fun b o e =>
  ⟨I.base.keep b o (I.ok.bs b o e).1 (I.ok.bs b o e).2 (I.ok.nofr e) (I.ok.noex b o e),I.base.free b o (I.ok.bs b o e).1 (I.ok.bs b o e).2 (I.ok.noex b o e)⟩
theorem Inv.bk (I:Inv X pins σ H s):∀ b o,X.base.get? b = some o→s.heap.get? b = some o:=fun b o e=>(I.bs b o e).1
theorem Inv.mod (I:Inv X pins σ H s):Mod X.K X.mg X.base:=I.ok.mod
theorem Inv.kIn (I:Inv X pins σ H s):X.K.In s.heap:=I.ok.mod.kin.keeps I.bk
theorem Inv.lt (I:Inv X pins σ H s):X.env.locals < s.heap.objs.size:=let ⟨_,hn,_⟩:=I.loc; hn.lt
theorem Inv.sz (I:Inv X pins σ H s):X.s₀.heap.objs.size≤s.heap.objs.size:=Nat.le_trans I.ok.above (Nat.le_of_lt I.lt)
theorem Inv.nofs (I:Inv X pins σ H s) {a:Addr} (h:s.heap.objs.size≤a):a ∉ X.fs:=fun hb=>by
  obtain ⟨_,o,ho,_⟩:=I.ok.funs.mem hb
  exact absurd (Nat.lt_of_lt_of_le (Heap.lt_size ho) (Nat.le_trans I.sz h)) (Nat.lt_irrefl _)
theorem Inv.cne (I:Inv X pins σ H s):∀ x c,X.env.cells.lookup x = some c→c≠X.env.locals:=fun x c e z=>by
  obtain ⟨v,o,ho,hd⟩:=I.cell x c e
  obtain ⟨m,⟨o',es,ep,ho',hd',_⟩,_⟩:=I.loc
  rw [z,ho'] at ho; cases ho; rw [hd'] at hd; cases hd
theorem Inv.funs (I:Inv X pins σ H s):s.heap.FunFrames X.base X.outer:=by
  have all:∀ (l:List Env),(∀ b ∈ frs l,b ∈ X.fs)→X.s₀.heap.FunFrames X.base l→s.heap.FunFrames X.base l:=by
    intro l
    induction l with
    | nil=>intro _ _; trivial
    | cons env r ih =>
      intro hs hl
      obtain ⟨hk,⟨L,o,hf,hn,ho,hd⟩,hr⟩:=hl
      have hL:L ∈ X.fs:=hs L (by unfold frs; rw [List.filterMap_cons,hf]; exact List.mem_cons_self)
      obtain ⟨sl,e⟩:=I.base.slot L o ho (I.ok.frf L hL) hL fun z=>I.ok.exfs L z hL
      exact ⟨hk,⟨L,_,hf,hn,e,hd⟩,ih (fun b hb=>hs b (by unfold frs; rw [List.filterMap_cons,hf]; exact List.mem_cons_of_mem _ hb)) hr⟩
  exact all X.outer (fun _ hb=>hb) I.ok.funs
theorem Inv.stack (I:Inv X pins σ H s):s.heap.FunFrames X.base X.stack:=by
  rcases I.ok.stk with e | ⟨e,hf⟩
  · rw [e]; exact I.funs
  · rw [e]
    obtain ⟨m,hn,_⟩:=I.loc
    refine .cons (by rw [I.ok.kind]; decide) hf hn ?_ I.funs
    exact Heap.get?_none_of_le (Nat.le_trans I.ok.bsz I.ok.above)
theorem Inv.stkSub (I:Inv X pins σ H s):∀ b ∈ frs X.stack,b ∈ X.env.locals :: X.fs:=fun b hb=>by
  rcases I.ok.stk with e | ⟨e,hf⟩
  · rw [e] at hb; exact List.mem_cons_of_mem _ hb
  · rw [e] at hb
    unfold frs at hb
    rw [List.filterMap_cons,hf] at hb
    exact hb
theorem Inv.stkFree (I:Inv X pins σ H s):∀ b ∈ frs X.stack,H b = none:=fun b hb=>by
  rcases List.mem_cons.mp (I.stkSub b hb) with e | hb
  · rw [e]; exact I.free
  · obtain ⟨_,o,ho,_⟩:=I.ok.funs.mem hb
    exact I.base.free b o ho (I.ok.frf b hb) fun z=>I.ok.exfs b z hb
theorem Inv.step {g':Array GenState} {t':Nat} {d':Drawn} {ch:List Addr} (I:Inv X pins σ H s)
    (hch:∀ b ∈ ch,(b ∈ X.ex∨X.s₀.heap.objs.size≤b)∧b≠X.env.locals∧(∀ x c,X.env.cells.lookup x = some c→c≠b)∧∀ p ∈ X.pn ++ pins,p.1≠b)
    (keep:∀ b o,b≠X.env.locals→b ∉ X.fs→b ∉ ch→s.heap.get? b = some o→H b = none→h'.get? b = some o)
    (slot:∀ b o,b≠X.env.locals→b ∈ X.fs→b ∉ ch→s.heap.get? b = some o→H b = none→∃ sl,h'.get? b = some { o with slots:=sl }) (free:∀ b o,b ∉ ch→s.heap.get? b = some o→H b = none→H' b = none)
    (there:∀ b o,b ∉ ch→s.heap.get? b = some o→∃ o',h'.get? b = some o')
    (tups:∀ b xs,H b = some (.tup xs)→H' b = some (.tup xs)) (frzs:∀ b o u,H b = some (.frz o u)→H' b = some (.frz o u)) (tbls:∀ b ps,H b = some (.tbl ps)→∃ more,H' b = some (.tbl (ps ++ more)))
    (ns:∀ m,s.heap.Ns X.env.locals m→h'.Ns X.env.locals m) (hok:HOk X.prog X.w H' h') (hg:AllBare g') :
    Inv X pins σ H' { s with heap:=h',gens:=g',drawn:=d',toks:=t' }:=by
  have neL:∀ b o,X.s₀.heap.get? b = some o→b≠X.env.locals:=fun b o e=>Nat.ne_of_lt (Nat.lt_of_lt_of_le (Heap.lt_size e) I.ok.above)
  have neC:∀ b o,X.s₀.heap.get? b = some o→b ∉ X.ex→b ∉ ch:=fun b o e hx hb=>by
    rcases (hch b hb).1 with z | z
    · exact hx z
    · exact absurd (Nat.lt_of_lt_of_le (Heap.lt_size e) z) (Nat.lt_irrefl _)
  have cellK:∀ x c,X.env.cells.lookup x = some c→∀ v,s.heap.IsCell c v→h'.IsCell c v:=fun x c e v ⟨o,ho,hd⟩=>by
    have nch:c ∉ ch:=fun z=>(hch c z).2.2.1 x c e rfl
    by_cases hc:c ∈ X.fs
    · obtain ⟨sl,q⟩:=slot c o (I.cne x c e) hc nch ho (I.freeC x c e)
      exact ⟨_,q,hd⟩
    · exact ⟨o,keep c o (I.cne x c e) hc nch ho (I.freeC x c e),hd⟩
  refine ⟨I.ok,I.os,hg,⟨fun b o e n hb hx=>?_,fun b o e n hb hx=>?_,fun b o e n hx=>?_,fun b o e hx=>?_,fun b xs e=>tups b xs (I.base.tups b xs e),fun b o xs e=>frzs b o xs (I.base.frzs b o xs e),fun b ps e=>?_⟩,?_,fun x c e=>?_,?_,fun x c e=>?_,fun p hp=>?_,hok,I.len⟩
  · exact keep b o (neL b o e) hb (neC b o e hx) (I.base.keep b o e n hb hx) (I.base.free b o e n hx)
  · obtain ⟨sl,e1⟩:=I.base.slot b o e n hb hx
    obtain ⟨sl',e2⟩:=slot b _ (neL b o e) hb (neC b o e hx) e1 (I.base.free b o e n hx)
    exact ⟨sl',e2⟩
  · obtain ⟨o',e1⟩:=I.base.there b o e hx
    exact free b o' (neC b o e hx) e1 (I.base.free b o e n hx)
  · obtain ⟨o',e1⟩:=I.base.there b o e hx
    exact there b o' (neC b o e hx) e1
  · obtain ⟨m1,e1⟩:=I.base.tbls b ps e
    obtain ⟨m2,e2⟩:=tbls b _ e1
    exact ⟨m1 ++ m2,by rw [e2,Array.append_assoc]⟩
  · obtain ⟨m,hn,hl⟩:=I.loc
    refine ⟨m,ns m hn,fun i x v e1 e2 e3=>?_⟩
    obtain ⟨u,r,l⟩:=hl i x v e1 e2 e3
    refine ⟨u,r,?_⟩
    rcases l with l | ⟨k,c,e,z⟩
    · exact .inl l
    · exact .inr ⟨k,c,e,cellK x c e _ z⟩
  · obtain ⟨v,z⟩:=I.cell x c e
    exact ⟨v,cellK x c e v z⟩
  · obtain ⟨m,⟨o,_,_,ho,_⟩,_⟩:=I.loc
    exact free _ o (fun z=>(hch _ z).2.1 rfl) ho I.free
  · obtain ⟨v,o,ho,hd⟩:=I.cell x c e
    exact free c o (fun z=>(hch c z).2.2.1 x c e rfl) ho (I.freeC x c e)
  · obtain ⟨e,n,ne,nf,d⟩:=I.pin p hp
    have nch:p.1 ∉ ch:=fun z=>(hch p.1 z).2.2.2 p hp rfl
    exact ⟨keep p.1 p.2 ne nf nch e n,free p.1 p.2 nch e n,ne,nf,d⟩
theorem Inv.un {t':Nat} (I:Inv X pins σ H s) (u:Un X.fs [] H H' s.heap h') (hok:HOk X.prog X.w H' h'):Inv X pins σ H' { s with heap:=h',toks:=t' }:=by
  obtain ⟨m,⟨o,es,ep,ho,r⟩,_⟩:=id I.loc
  obtain ⟨sl,hL⟩:=u.any ho I.free (by simp)
  exact I.step (g':=s.gens) (d':=s.drawn) (ch:=[]) (fun _ z=>nomatch z) (fun b o _ hb _ e n=>u.keep b o e n hb (by simp)) (fun b o _ hb _ e n=>u.slot b o e n hb (by simp)) (fun b o _ e n=>u.free b o e n (by simp)) (fun b o _ e=>u.there b o e (by simp)) u.tups u.frzs u.tbls (fun m' hm=>by
    obtain ⟨o',es',ep',ho',r'⟩:=hm
    rw [ho] at ho'; cases ho'
    exact ⟨_,es',ep',hL,r'⟩) hok I.bare
theorem Inv.call {g':Array GenState} {t':Nat} {d':Drawn} {ch:List Addr} (I:Inv X pins σ H s) (u:Un (frs X.stack) ch H H' s.heap h') (hok:HOk X.prog X.w H' h') (hg:AllBare g')
    (hch:∀ b ∈ ch,(b ∈ X.ex∨X.s₀.heap.objs.size≤b)∧b≠X.env.locals∧(∀ x c,X.env.cells.lookup x = some c→c≠b)∧∀ p ∈ X.pn ++ pins,p.1≠b) :
    Inv X pins σ H' { s with heap:=h',gens:=g',drawn:=d',toks:=t' }:=by
  obtain ⟨m,⟨o,es,ep,ho,r⟩,_⟩:=id I.loc
  obtain ⟨sl,hL⟩:=u.any ho I.free fun z=>(hch _ z).2.1 rfl
  exact I.step (ch:=ch) hch (fun b o hL hb hc e n=>u.keep b o e n (fun z=>(List.mem_cons.mp (I.stkSub b z)).elim hL hb) hc) (fun b o _ _ hc e n=>u.any e n hc) (fun b o hc e n=>u.free b o e n hc) (fun b o hc e=>u.there b o e hc) u.tups u.frzs u.tbls (fun m' hm=>by
    obtain ⟨o',es',ep',ho',r'⟩:=hm
    rw [ho] at ho'; cases ho'
    exact ⟨_,es',ep',hL,r'⟩) hok hg
theorem Inv.turned {t':Nat} {it:Addr} (I:Inv X pins σ H s) (k:∀ b o,b≠it→s.heap.get? b = some o→h'.get? b = some o) (hn:H it = none) (hL:it≠X.env.locals)
    (h1:it ∈ X.ex∨X.s₀.heap.objs.size≤it) (h2:∀ x c,X.env.cells.lookup x = some c→c≠it) (h3:∀ p ∈ X.pn ++ pins,p.1≠it):Inv X pins σ H { s with heap:=h',toks:=t' }:=by
  have nit:∀ b u,H b = some u→b≠it:=fun b u e z=>by rw [z,hn] at e; cases e
  refine I.step (g':=s.gens) (d':=s.drawn) (ch:=[it]) (fun b hb=>?_) (fun b o _ _ hc e _=>k b o (fun z=>hc (by simp [z])) e) (fun b o _ _ hc e _=>⟨o.slots,k b o (fun z=>hc (by simp [z])) e⟩) (fun _ _ _ _ n=>n)
    (fun b o hc e=>⟨o,k b o (fun z=>hc (by simp [z])) e⟩) (fun _ _ e=>e) (fun _ _ _ e=>e) (fun b ps e=>⟨#[],by rw [e]; simp⟩) (fun m hm=>?_) (fun b u e=>?_) I.bare
  · have e:b = it:=by simpa using hb
    subst e
    exact ⟨h1,hL,h2,h3⟩
  · obtain ⟨o,es,ep,ho,r⟩:=hm
    exact ⟨o,es,ep,k _ o (Ne.symm hL) ho,r⟩
  · refine (I.hok b u e).stay (fun c v hc q=>k c v ?_ q) (fun _ q=>q) fun _ _ q=>q
    rcases hc with z | z
    · rw [z]; exact nit b u e
    · exact nit c _ z
theorem Inv.tok (I:Inv X pins σ H s) (t:Nat):Inv X pins σ H { s with toks:=t }:=I.un (h':=s.heap) (t':=t) Un.refl I.hok
theorem Inv.kept {t':Nat} (I:Inv X pins σ H s) (k:∀ b u,s.heap.get? b = some u→h'.get? b = some u):Inv X pins σ H { s with heap:=h',toks:=t' }:=I.un (Un.kept k) (I.hok.kept k)
theorem Inv.laid {a:Addr} {o:HO} {t':Nat} (I:Inv X pins σ H s) (k:∀ b u,s.heap.get? b = some u→h'.get? b = some u) (hp:s.heap.objs.size≤a) (new:ObjOk X.prog X.w (upd H a o) h' a o) :
    Inv X pins σ (upd H a o) { s with heap:=h',toks:=t' }:=I.un (Un.laid k hp (I.hok.fresh hp)) (I.hok.laid k hp new)
theorem Inv.write {x e:Addr} {o:HO} {t':Nat} (I:Inv X pins σ H s) (mu:Mut (H x)) (he:e = x∨H e = some (.own x)) (k:∀ b u,b≠e→s.heap.get? b = some u→h'.get? b = some u) (heo:∃ u,h'.get? e = some u)
    (new:ObjOk X.prog X.w (upd H x o) h' x o):Inv X pins σ (upd H x o) { s with heap:=h',toks:=t' }:=I.un (Un.write mu he k heo) (I.hok.write mu he k heo new)
theorem Inv.weak {σ':List (Option V)} (I:Inv X pins σ H s) (hl:σ'.length = σ.length) (w:∀ (i:Nat) v,σ'[i]? = some (some v)→σ[i]? = some (some v)):Inv X pins σ' H s :=
  ⟨I.ok,I.os,I.bare,I.base,let ⟨m,hn,hl'⟩:=I.loc; ⟨m,hn,fun i x v e1 e2 e3=>hl' i x v e1 (w i v e2) e3⟩,I.cell,I.free,I.freeC,I.pin,I.hok,hl.trans I.len⟩
theorem Inv.pins_of {pins':List (Addr×Obj)} (I:Inv X pins σ H s) (h:∀ p ∈ pins',s.heap.get? p.1 = some p.2∧H p.1 = none∧p.1≠X.env.locals∧p.1 ∉ X.fs∧∀ v,p.2.data≠.cell v):Inv X pins' σ H s :=
  ⟨I.ok,I.os,I.bare,I.base,I.loc,I.cell,I.free,I.freeC,fun p hp=>(List.mem_append.mp hp).elim (fun z=>I.pin p (List.mem_append_left _ z)) (h p),I.hok,I.len⟩
theorem gS {N:List Str} (hN:N.Nodup) {i j:Nat} {x:Str} (a:N[i]? = some x) (b:N[j]? = some x):i = j:=by
  obtain ⟨h1,e1⟩:=List.getElem?_eq_some_iff.mp a
  obtain ⟨h2,e2⟩:=List.getElem?_eq_some_iff.mp b
  exact (List.getElem_inj hN).mp (e1.trans e2.symm)
theorem kn {M:Model} {A:Around} {E:Value→Shared→Prop} {i:Nat} {x:Str} {v:V} {u:Value} {Q:Unit→Shared→Prop} (I:Inv X pins σ H s) (hN:X.N.Nodup) (hi:X.N[i]? = some x) (hx:Loc X.env.scope x) (r:RelV v u)
    (h:∀ s',Inv X pins (σ.set i (some v)) H s'→(∃ a,Heap.SameBut a s.heap s'.heap∧(a = X.env.locals∨X.env.cells.lookup x = some a))→Q () s') (hf:X.fn x = true∨X.env.scope.names.lookup x = some .local:=by first | exact .inl rfl | exact .inr rfl | assumption):wpAny M A (storeName X.env x u) Q E s:=by
  obtain ⟨m,hn,hl⟩:=id I.loc
  have hcls:(X.env.scope.kind == .class || (X.env.scope.kind == .module && X.env.locals != X.env.globals)) = false:=by rw [I.ok.kind]; rfl
  have hiσ:i < σ.length:=by rw [I.len]; exact (List.getElem?_eq_some_iff.mp hi).1
  have cne:=I.cne
  have tracked:∀ {a:Addr} {h':Heap},(∃ o,s.heap.get? a = some o∧H a = none)→Heap.SameBut a s.heap h'→HOk X.prog X.w H h':=fun {a h'} ha hs b ob e=>by
    obtain ⟨_,_,hfree⟩:=ha
    refine (I.hok b ob e).stay (fun c w' hc q=>(hs.2 c ?_).trans q) (fun _ q=>q) fun _ _ q=>q
    rintro rfl
    rcases hc with rfl | hc
    · rw [hfree] at e; cases e
    · rw [hfree] at hc; cases hc
  rcases hx with hk | hk
  · refine wpAny_storeName_local hk hn (fun h' hn' hs=>?_) hcls
    obtain ⟨oL,_,_,hoL,_⟩:=id hn
    refine h _ ⟨I.ok,I.os,I.bare,⟨fun b o e n hb hx=>?_,fun b o e n hb hx=>?_,I.base.free,fun b o e hx=>?_,I.base.tups,I.base.frzs,I.base.tbls⟩,⟨_,hn',fun j y v' e1 e2 e3=>?_⟩,fun y c e=>?_,I.free,I.freeC,fun p hp=>?_,tracked ⟨oL,hoL,I.free⟩ hs,by simpa using I.len⟩ ⟨_,hs,.inl rfl⟩
    · exact (hs.2 b (Nat.ne_of_lt (Nat.lt_of_lt_of_le (Heap.lt_size e) I.ok.above))).trans (I.base.keep b o e n hb hx)
    · obtain ⟨sl,e1⟩:=I.base.slot b o e n hb hx
      exact ⟨sl,(hs.2 b (Nat.ne_of_lt (Nat.lt_of_lt_of_le (Heap.lt_size e) I.ok.above))).trans e1⟩
    · obtain ⟨o',e1⟩:=I.base.there b o e hx
      exact ⟨o',(hs.2 b (Nat.ne_of_lt (Nat.lt_of_lt_of_le (Heap.lt_size e) I.ok.above))).trans e1⟩
    · by_cases hj:j = i
      · subst hj
        rw [hi] at e1; cases e1
        rw [List.getElem?_set_self hiσ] at e2
        cases e2
        exact ⟨u,r,.inl ⟨hk,by simp⟩⟩
      · rw [List.getElem?_set_ne (Ne.symm hj)] at e2
        obtain ⟨u',r',q⟩:=hl j y v' e1 e2 e3
        refine ⟨u',r',?_⟩
        rcases q with ⟨k,e⟩ | ⟨k,c,e,z⟩
        · refine .inl ⟨k,?_⟩
          have:y≠x:=fun e=>hj (gS hN e1 (e ▸ hi))
          simp [this,e]
        · exact .inr ⟨k,c,e,z.sameBut hs (cne y c e)⟩
    · obtain ⟨w',z⟩:=I.cell y c e
      exact ⟨w',z.sameBut hs (cne y c e)⟩
    · obtain ⟨e,n,ne,nf,d⟩:=I.pin p hp
      exact ⟨(hs.2 p.1 ne).trans e,n,ne,nf,d⟩
  · have hfn:X.fn x = true:=by
      rcases hf with z | z
      · exact z
      · rw [z] at hk; cases hk
    obtain ⟨c,hc⟩:=I.ok.has x (.inl hk)
    obtain ⟨w',z⟩:=I.cell x c hc
    refine wpAny_storeName_cell I.ok.kind hk hc z (fun h' hc' hs=>?_)
    obtain ⟨oc,hoc,hocd⟩:=id z
    refine h { s with heap:=h' } ⟨I.ok,I.os,I.bare,⟨fun b o e n hb hx=>?_,fun b o e n hb hx=>?_,I.base.free,fun b o e hx=>?_,I.base.tups,I.base.frzs,I.base.tbls⟩,⟨m,hn.sameBut hs (Ne.symm (cne x c hc)),fun j y v' e1 e2 e3=>?_⟩,fun y c' e=>?_,I.free,I.freeC,fun p hp=>?_,tracked ⟨oc,hoc,I.freeC x c hc⟩ hs,by simpa using I.len⟩ ⟨c,hs,.inr hc⟩
    · exact (hs.2 b (Nat.ne_of_lt (Nat.lt_of_lt_of_le (Heap.lt_size e) (I.ok.cab x c hfn hc)))).trans (I.base.keep b o e n hb hx)
    · obtain ⟨sl,e1⟩:=I.base.slot b o e n hb hx
      exact ⟨sl,(hs.2 b (Nat.ne_of_lt (Nat.lt_of_lt_of_le (Heap.lt_size e) (I.ok.cab x c hfn hc)))).trans e1⟩
    · obtain ⟨o',e1⟩:=I.base.there b o e hx
      exact ⟨o',(hs.2 b (Nat.ne_of_lt (Nat.lt_of_lt_of_le (Heap.lt_size e) (I.ok.cab x c hfn hc)))).trans e1⟩
    · by_cases hj:j = i
      · subst hj
        rw [hi] at e1; cases e1
        rw [List.getElem?_set_self hiσ] at e2
        cases e2
        exact ⟨u,r,.inr ⟨.inl hk,c,hc,hc'⟩⟩
      · rw [List.getElem?_set_ne (Ne.symm hj)] at e2
        obtain ⟨u',r',q⟩:=hl j y v' e1 e2 e3
        refine ⟨u',r',?_⟩
        rcases q with q | ⟨k,c',e,z'⟩
        · exact .inl q
        · refine .inr ⟨k,c',e,z'.sameBut hs ?_⟩
          rintro rfl
          exact hj (gS hN e1 (I.ok.inj _ _ _ e hc ▸ hi))
    · by_cases hcc:c' = c
      · subst hcc; exact ⟨_,hc'⟩
      · obtain ⟨w2,z2⟩:=I.cell y c' e
        exact ⟨w2,z2.sameBut hs hcc⟩
    · obtain ⟨e,n,ne,nf,d⟩:=I.pin p hp
      refine ⟨(hs.2 p.1 ?_).trans e,n,ne,nf,d⟩
      intro q
      rw [q,hoc] at e
      have q':oc = p.2:=Option.some.inj e
      exact d w' (by rw [← q']; exact hocd)
theorem fu {M:Model} {A:Around} {E:Value→Shared→Prop} {i:Nat} {x:Str} {v:V} {u:Value} {Q:Unit→Shared→Prop} (I:Inv X pins σ H s) (hN:X.N.Nodup) (hi:X.N[i]? = some x) (hx:Loc X.env.scope x) (r:RelV v u)
    (h:∀ s',Inv X pins (σ.set i (some v)) H s'→Q () s') (hf:X.fn x = true∨X.env.scope.names.lookup x = some .local:=by first | exact .inl rfl | exact .inr rfl | assumption):wpAny M A (storeName X.env x u) Q E s :=
  kn I hN hi hx r (fun s' I' _=>h s' I') hf
theorem Inv.call' {s':Shared} {ch:List Addr} (I:Inv X pins σ H s) (ho:s'.os = s.os) (u:Un (frs X.stack) ch H H' s.heap s'.heap) (hok:HOk X.prog X.w H' s'.heap) (hg:AllBare s'.gens)
    (hch:∀ b ∈ ch,(b ∈ X.ex∨X.s₀.heap.objs.size≤b)∧b≠X.env.locals∧(∀ x c,X.env.cells.lookup x = some c→c≠b)∧∀ p ∈ X.pn ++ pins,p.1≠b):Inv X pins σ H' s':=by
  obtain ⟨h',g',d',t',o'⟩:=s'
  have e:o' = s.os:=ho
  subst e
  exact I.call (g':=g') (t':=t') (d':=d') u hok hg hch
end
abbrev XK:=Value→Option Addr→Hp→Prop
abbrev St:=List (Option V)
abbrev VK:=V→Hp→Prop
abbrev TE:=St→Hp→VK→Prop
abbrev TT:=St→Hp→(Bool→Hp→Prop)→Prop
abbrev TA:=St→Hp→(List V→Hp→Prop)→Prop
structure Ends where
  nx:St→Hp→Prop
  rt:VK
  bk:St→Hp→Prop:=fun _ _=>False
  ct:St→Hp→Prop:=fun _ _=>False
abbrev TS:=Ends→St→Hp→Prop
def EP (X:Cx) (pins:List (Addr×Obj)) (σ:St) (Q:VK) (u:Value) (s':Shared):Prop:=∃ v H',Inv X pins σ H' s'∧RelV v u∧Q v H'
def TP (X:Cx) (pins:List (Addr×Obj)) (σ:St) (Q:Bool→Hp→Prop) (b:Bool) (s':Shared):Prop:=∃ H',Inv X pins σ H' s'∧Q b H'
def AP (X:Cx) (pins:List (Addr×Obj)) (σ:St) (Q:List V→Hp→Prop) (us:List Value) (s':Shared):Prop:=∃ vs H',Inv X pins σ H' s'∧Vals vs us∧Q vs H'
def SP (X:Cx) (pins:List (Addr×Obj)) (D:Ends) (f:Flow) (s':Shared):Prop :=
  match f with
  | .next=>∃ σ' H',Inv X pins σ' H' s'∧D.nx σ' H'
  | .brk=>∃ σ' H',Inv X pins σ' H' s'∧D.bk σ' H'
  | .cont=>∃ σ' H',Inv X pins σ' H' s'∧D.ct σ' H'
  | .ret u=>∃ v σ' H',Inv X pins σ' H' s'∧RelV v u∧D.rt v H'
def PE (X:Cx) (e:Expr) (t:TE):Prop :=
  ∀ (pins:List (Addr×Obj)) (s:Shared) (σ:St) (H:Hp) (Q:VK),Inv X pins σ H s→t σ H Q→wpAny (model X.prog X.w) X.A (eval e X.env) (EP X pins σ Q) X.xe s
def PT (X:Cx) (e:Expr) (t:TT):Prop :=
  ∀ (pins:List (Addr×Obj)) (s:Shared) (σ:St) (H:Hp) (Q:Bool→Hp→Prop),Inv X pins σ H s→t σ H Q→wpAny (model X.prog X.w) X.A (isTrue e X.env (eval e X.env)) (TP X pins σ Q) X.xe s
def PW (X:Cx) (e:Expr) (t:TT):Prop :=
  ∀ (whole:Sem Value) (pins:List (Addr×Obj)) (s:Shared) (σ:St) (H:Hp) (Q:Bool→Hp→Prop),Inv X pins σ H s→t σ H Q→wpAny (model X.prog X.w) X.A (isTrue e X.env whole) (TP X pins σ Q) X.xe s
theorem PW.pt {X:Cx} {e:Expr} {t:TT} (h:PW X e t):PT X e t:=h _
def PA (X:Cx) (es:List Expr) (t:TA):Prop :=
  ∀ (pos:Pos) (pins:List (Addr×Obj)) (s:Shared) (σ:St) (H:Hp) (Q:List V→Hp→Prop),Inv X pins σ H s→t σ H Q→wpAny (model X.prog X.w) X.A (spliced (backTo pos (starEach es X.env))) (AP X pins σ Q) X.xe s
def PS (X:Cx) (st:Stmt) (t:TS):Prop :=
  ∀ (pins:List (Addr×Obj)) (s:Shared) (σ:St) (H:Hp) (D:Ends),Inv X pins σ H s→t D σ H→wpAny (model X.prog X.w) X.A (exec st X.env) (SP X pins D) X.xe s
def PSs (X:Cx) (st:List Stmt) (t:TS):Prop :=
  ∀ (pins:List (Addr×Obj)) (s:Shared) (σ:St) (H:Hp) (D:Ends),Inv X pins σ H s→t D σ H→wpAny (model X.prog X.w) X.A (execs st X.env) (SP X pins D) X.xe s
theorem thn {α:Type} {t:Sem α} {Q Q':α→Shared→Prop} {M:Model} {A:Around} {E:Value→Shared→Prop} {s:Shared} (h:wpAny M A t Q E s) (hQ:∀ a s,Q a s→Q' a s):wpAny M A t Q' E s:=wpAny_mono h hQ fun _ _ x=>x
end L2
namespace L2
open PySem PySem.Spec PyProof.Rows
section
variable {X:Cx}
def xN (i:Nat):TE:=fun σ H Q=>∃ v,σ[i]? = some (some v)∧Q v H
def tC (v:V):TE:=fun _ H Q=>Q v H
theorem sK {i:Nat} {x:Str} {pos:Pos} (hN:X.N[i]? = some x) (hv:Vis X.env.scope x) (hd:(x == ("__debug__" : Str)) = false:=by decide) (hcd:(x == ("__classdict__" : Str)) = false:=by decide):PE X (.Name x pos) (xN i):=by
  intro pins s σ H Q I h
  obtain ⟨v,e,h⟩:=h
  obtain ⟨m,hn,hl⟩:=I.loc
  obtain ⟨u,r,l⟩:=hl i x v hN e hv
  have fin:EP X pins σ Q u s:=⟨v,H,I,r,h⟩
  rcases l with ⟨hk,hm⟩ | ⟨hk,c,hc,hcell⟩
  · exact wpAny_Name (wpAny_loadName_local I.ok.kind hk hn hm fin) hd
  · rcases hk with hk | hk
    · exact wpAny_Name (wpAny_loadName_cell I.ok.kind hk hc hcell fin) hd
    · exact wpAny_Name (wpAny_loadName_free I.ok.kind hk hc hcell fin hcd) hd
theorem af {i j pos}:PE X (.Constant (.int i) j pos) (tC (.int i)):=fun _ _ _ H _ I h=>wpAny_Constant_int ⟨.int i,H,I.tok _,⟨_,rfl⟩,h⟩
theorem gW {b j pos}:PE X (.Constant (.bool b) j pos) (tC (.bl b)):=fun _ _ _ H _ I h=>Constant_bool ⟨.bl b,H,I,rfl,h⟩
theorem dh {j pos}:PE X (.Constant .none j pos) (tC .non):=fun _ _ _ H _ I h=>Constant_none ⟨.non,H,I,rfl,h⟩
theorem dI {x j pos}:PE X (.Constant (.str x) j pos) (tC (.str x)):=fun _ _ _ H _ I h=>Calls.Constant_str ⟨.str x,H,I.tok _,⟨_,rfl⟩,h⟩
def Gl (X:Cx) (x:Str):Prop:=X.env.kindOf x = some .globalImplicit
theorem fV {E:Value→Shared→Prop} {pins:List (Addr×Obj)} {s:Shared} {σ:St} {H:Hp} {x:Str} {u:Value} {pos:Pos} {Q:Value→Shared→Prop} (I:Inv X pins σ H s) (hg:Gl X x) (hm:X.mg x = some u) (h:Q u s)
    (hd:(x == ("__debug__" : Str)) = false:=by decide):wpAny (model X.prog X.w) X.A (eval (.Name x pos) X.env) Q E s :=
  Calls.Name_function_global I.ok.kind hg (Calls.loadGlobal_global (by rw [I.ok.glob]; exact I.mod.glob.keeps I.bk) hm h) hd
theorem gr {E:Value→Shared→Prop} {pins:List (Addr×Obj)} {s:Shared} {σ:St} {H:Hp} {x:Str} {u:Value} {pos:Pos} {Q:Value→Shared→Prop} (I:Inv X pins σ H s) (hg:Gl X x) (hm:X.mg x = none) (hv:bootBuiltins x = some u) (h:Q u s)
    (hn:x ≠ "__name__" := by decide) (hd:(x == ("__debug__" : Str)) = false:=by decide):wpAny (model X.prog X.w) X.A (eval (.Name x pos) X.env) Q E s:=by
  obtain ⟨mb,h1,h2⟩:=I.mod.blt
  exact Calls.Name_function_global I.ok.kind hg (Calls.loadGlobal_builtin (by rw [I.ok.glob]; exact I.mod.glob.keeps I.bk) hm (by rw [I.ok.blt]; exact h1.keeps I.bk) ((h2 x hn).trans hv) h) hd
theorem uH {x:Str} {v:V} {u:Value} {pos:Pos} (hg:Gl X x) (hm:X.mg x = some u) (r:RelV v u) (hd:(x == ("__debug__" : Str)) = false:=by decide):PE X (.Name x pos) (tC v) :=
  fun _ _ _ H _ I h=>fV I hg hm ⟨v,H,I,r,h⟩ hd
theorem cO {x:Str} {v:V} {u:Value} {pos:Pos} (hg:Gl X x) (hm:X.mg x = none) (hv:bootBuiltins x = some u) (r:RelV v u) (hn:x ≠ "__name__" := by decide) (hd:(x == ("__debug__" : Str)) = false:=by decide):PE X (.Name x pos) (tC v) :=
  fun _ _ _ H _ I h=>gr I hg hm hv ⟨v,H,I,r,h⟩ hn hd
variable {a b:Expr} {ta tb:TE} {pos:Pos}
def PC (X:Cx) (op:CmpOp) (a b:Expr) (t:TE):Prop :=
  ∀ (pins:List (Addr×Obj)) (s:Shared) (σ:St) (H:Hp) (Q:VK),Inv X pins σ H s→t σ H Q →
    wpAny (model X.prog X.w) X.A (eval a X.env) (fun v s₁=>wpAny (model X.prog X.w) X.A (eval b X.env) (fun u s₂=>wpAny (model X.prog X.w) X.A (compareOp op v u) (EP X pins σ Q) X.xe s₂) X.xe s₁) X.xe s
theorem qB (b:Expr) {op:CmpOp} (h:op≠.In) (h2:op≠.NotIn):behindInMarks op b = false:=by
  have e1:(op == CmpOp.In) = false:=by cases op <;> first | rfl | exact absurd rfl h
  have e2:(op == CmpOp.NotIn) = false:=by cases op <;> first | rfl | exact absurd rfl h2
  cases b <;> simp [behindInMarks,e1,e2]
def tB (t:TE):TT:=fun σ H Q=>t σ H fun x H1=>∃ c,x = .bl c∧Q c H1
theorem wH {op:CmpOp} {t:TE} (h:PC X op a b t) (h1:behindInMarks op b = false:=by first | exact qB _ (by decide) (by decide) | rfl):PT X (.Compare a [op] [b] pos) (tB t):=by
  intro pins s σ H Q I hw
  refine wpAny_isTrue_Compare1 (thn (h pins s σ H _ I hw) fun v s1 h1=>thn h1 fun u s2 h2=>thn h2 fun c s3 ⟨x,H1,I1,r1,q1⟩=>?_) h1
  obtain ⟨d,rfl,q⟩:=q1
  cases r1
  exact wpAny_truthy_bool ⟨H1,I1,q⟩
variable {tA tB':TT} {rest:List Expr}
def y8 (t u:TT):TT:=fun σ H Q=>t σ H fun c H1=>if c = true then u σ H1 Q else Q false H1
def tOr (t u:TT):TT:=fun σ H Q=>t σ H fun c H1=>if c = true then Q true H1 else u σ H1 Q
def zh (t:TT):TT:=fun σ H Q=>t σ H fun c H1=>Q (!c) H1
theorem lg (ha:PT X a tA):PW X (.BoolOp .And [a] pos) tA:=by
  intro wh pins s σ H Q I h
  refine isTrue_and (thn (ha pins s σ H Q I h) fun c s1 e=>?_)
  cases c with
  | true=>exact isTrue_and_nil e
  | false=>exact e
theorem m8 (ha:PT X a tA):PW X (.BoolOp .Or [a] pos) tA:=by
  intro wh pins s σ H Q I h
  refine isTrue_or (thn (ha pins s σ H Q I h) fun c s1 e=>?_)
  cases c with
  | false=>exact isTrue_or_nil e
  | true=>exact e
theorem kY (ha:PT X a tA) (hb:PW X (.BoolOp .And (b :: rest) pos) tB'):PW X (.BoolOp .And (a :: b :: rest) pos) (y8 tA tB'):=by
  intro wh pins s σ H Q I h
  refine isTrue_and (thn (ha pins s σ H _ I h) fun c s1 ⟨H1,I1,q1⟩=>?_)
  cases c with
  | true=>exact hb wh pins s1 σ H1 Q I1 q1
  | false=>exact ⟨H1,I1,q1⟩
theorem qA (ha:PT X a tA) (hb:PW X (.BoolOp .Or (b :: rest) pos) tB'):PW X (.BoolOp .Or (a :: b :: rest) pos) (tOr tA tB'):=by
  intro wh pins s σ H Q I h
  refine isTrue_or (thn (ha pins s σ H _ I h) fun c s1 ⟨H1,I1,q1⟩=>?_)
  cases c with
  | true=>exact ⟨H1,I1,q1⟩
  | false=>exact hb wh pins s1 σ H1 Q I1 q1
theorem jh (ha:PT X a tA):PT X (.UnaryOp .Not a pos) (zh tA):=by
  intro pins s σ H Q I h
  exact isTrue_not (ha pins s σ H (fun c H1=>Q (!c) H1) I h)
theorem dZ {op} {t:TE} (h:PE X a t):PE X (.BoolOp op [a] pos) t:=fun pins s σ H Q I hw=>BoolOp_one (h pins s σ H Q I hw)
def tIf (t:TT) (ta tb:TE):TE:=fun σ H Q=>t σ H fun c H1=>if c = true then ta σ H1 Q else tb σ H1 Q
theorem fF {c:Expr} (hc:PT X c tA) (ha:PE X a ta) (hb:PE X b tb):PE X (.IfExp c a b pos) (tIf tA ta tb):=by
  intro pins s σ H Q I h
  refine wpAny_IfExp (thn (hc pins s σ H _ I h) fun d s1 ⟨H1,I1,q1⟩=>?_)
  cases d with
  | true=>exact ha pins s1 σ H1 Q I1 q1
  | false=>exact hb pins s1 σ H1 Q I1 q1
end
end L2
namespace L2
open PySem PySem.Spec PyProof.Rows
def SqL (K:PySem.W.Frag) (H:Hp) (a:Addr) (xs:List V):Prop :=
  Rd H a (.lst xs) ∨
    ∃ (o:Obj) (its:Array Value) (n:Nat),K.lookup a = some o∧o.cls = .type "list" ∧ o.dict = none∧o.data = .seq its n∧its.size≤sizeLine∧Vals xs its.toList
def SqT (K:PySem.W.Frag) (H:Hp) (a:Addr) (xs:List V):Prop :=
  Rd H a (.tup xs) ∨
    ∃ (o:Obj) (its:Array Value) (n:Nat),K.lookup a = some o∧o.cls = .type "tuple" ∧ o.data = .seq its n∧its.size≤sizeLine∧Vals xs its.toList
def zt:Value→Option V
  | .none=>some .non
  | .bool b=>some (.bl b)
  | .int i _=>some (.int i)
  | .str x _=>some (.str x)
  | .bytes b _=>some (.byt b)
  | .float b _=>some (.flt b)
  | .ref a=>some (.ref a)
  | .type n=>some (.ty n)
  | _=>none
theorem RelV.abs {x:V} {u:Value} (r:RelV x u):zt u = some x:=by
  cases x with
  | non=>cases r; rfl
  | bl _=>cases r; rfl
  | int _=>obtain ⟨t,rfl⟩:=r; rfl
  | str _=>obtain ⟨t,rfl⟩:=r; rfl
  | byt _=>obtain ⟨t,rfl⟩:=r; rfl
  | flt _=>obtain ⟨t,rfl⟩:=r; rfl
  | ref _=>cases r; rfl
  | ty _=>cases r; rfl
theorem RelV.inj {x y:V} {u:Value} (r:RelV x u) (q:RelV y u):x = y:=Option.some.inj (r.abs.symm.trans q.abs)
theorem Vals.inj:∀ {xs ys:List V} {us:List Value},Vals xs us→Vals ys us→xs = ys
  | _,_,_,.nil,.nil=>rfl
  | _,_,_,.cons r t,.cons r' t'=>by rw [r.inj r',Vals.inj t t']
section
variable {X:Cx} {pins:List (Addr×Obj)} {σ:St} {H:Hp} {s:Shared} {a:Addr} {xs ys:List V}
theorem SqL.of {K:PySem.W.Frag} (h:H a = some (.lst xs)):SqL K H a xs:=.inl (.inl h)
theorem SqT.of {K:PySem.W.Frag} (h:H a = some (.tup xs)):SqT K H a xs:=.inl (.inl h)
theorem Inv.list (I:Inv X pins σ H s) (h:SqL X.K H a xs):∃ its:List Value,Vals xs its∧PlainL s.heap a its.toArray∧xs.length≤sizeLine:=by
  rcases h with h | ⟨o,its,n,hk,hc,hd,hs,hz,r⟩
  · obtain ⟨z,its,n,r,e⟩:=h.ok I.hok
    exact ⟨its,r,⟨_,n,e,rfl,rfl,rfl⟩,z⟩
  · refine ⟨its.toList,r,⟨o,n,I.kIn a o hk,hc,hd,by simpa using hs⟩,?_⟩
    have e:=r.length
    simp only [Array.length_toList] at e
    omega
theorem Inv.tuple (I:Inv X pins σ H s) (h:SqT X.K H a xs):∃ its:List Value,Vals xs its∧IsTup s.heap a its.toArray∧xs.length≤sizeLine:=by
  rcases h with h | ⟨o,its,n,hk,hc,hs,hz,r⟩
  · obtain ⟨z,its,r,p⟩:=h.ok I.hok
    exact ⟨its,r,p,z⟩
  · refine ⟨its.toList,r,⟨o,I.kIn a o hk,hc,n,by simpa using hs⟩,?_⟩
    have e:=r.length
    simp only [Array.length_toList] at e
    omega
theorem Inv.list_inj (I:Inv X pins σ H s) (h:SqL X.K H a xs) (h':SqL X.K H a ys):xs = ys:=by
  obtain ⟨its,r,⟨o,n,e,_,_,d⟩,_⟩:=I.list h
  obtain ⟨its',r',⟨o',n',e',_,_,d'⟩,_⟩:=I.list h'
  rw [e] at e'; cases e'
  rw [d] at d'
  injection d' with d1 _
  have:its = its':=by simpa using congrArg Array.toList d1
  subst this
  exact r.inj r'
theorem Inv.tuple_inj (I:Inv X pins σ H s) (h:SqT X.K H a xs) (h':SqT X.K H a ys):xs = ys:=by
  obtain ⟨its,r,⟨o,e,_,n,d⟩,_⟩:=I.tuple h
  obtain ⟨its',r',⟨o',e',_,n',d'⟩,_⟩:=I.tuple h'
  rw [e] at e'; cases e'
  rw [d] at d'
  injection d' with d1 _
  have:its = its':=by simpa using congrArg Array.toList d1
  subst this
  exact r.inj r'
end
abbrev Cx.wish (X:Cx) (E:Value→Shared→Prop):Cx:={ X with xe:=E }
abbrev Cx.nox (X:Cx):Cx:=X.wish fun _ _=>False
theorem Cx.Ok.wish {X:Cx} (ok:X.Ok) (E:Value→Shared→Prop):(X.wish E).Ok :=
  ⟨ok.mod,ok.kind,ok.glob,ok.blt,ok.above,ok.inj,ok.has,ok.cab,ok.hd,ok.frames,ok.stk,ok.exf,ok.bs,ok.bsz,ok.noex,ok.exfs,ok.funs,ok.frf⟩
theorem Cx.Ok.unwish {X:Cx} {E:Value→Shared→Prop} (ok:(X.wish E).Ok):X.Ok :=
  ⟨ok.mod,ok.kind,ok.glob,ok.blt,ok.above,ok.inj,ok.has,ok.cab,ok.hd,ok.frames,ok.stk,ok.exf,ok.bs,ok.bsz,ok.noex,ok.exfs,ok.funs,ok.frf⟩
section
variable {X:Cx} {pins:List (Addr×Obj)} {σ:St} {H:Hp} {s:Shared} {E:Value→Shared→Prop}
theorem Inv.wish (I:Inv X pins σ H s) (E:Value→Shared→Prop):Inv (X.wish E) pins σ H s:=⟨I.ok.wish E,I.os,I.bare,I.base,I.loc,I.cell,I.free,I.freeC,I.pin,I.hok,I.len⟩
theorem Inv.unwish (I:Inv (X.wish E) pins σ H s):Inv X pins σ H s:=⟨I.ok.unwish,I.os,I.bare,I.base,I.loc,I.cell,I.free,I.freeC,I.pin,I.hok,I.len⟩
theorem SP.unwish {D:Ends} {f:Flow} {s':Shared} (h:SP (X.wish E) pins D f s'):SP X pins D f s':=by
  cases f with
  | next=>obtain ⟨σ',H',I,q⟩:=h; exact ⟨σ',H',I.unwish,q⟩
  | brk=>obtain ⟨σ',H',I,q⟩:=h; exact ⟨σ',H',I.unwish,q⟩
  | cont=>obtain ⟨σ',H',I,q⟩:=h; exact ⟨σ',H',I.unwish,q⟩
  | ret u=>obtain ⟨v,σ',H',I,r,q⟩:=h; exact ⟨v,σ',H',I.unwish,r,q⟩
theorem PSs.nox {st:List Stmt} {t:TS} (h:PSs X.nox st t):PSs X st t:=fun pins s σ H D I hw =>
  wpAny_mono (h pins s σ H D (I.wish _) hw) (fun _ _ q=>q.unwish) fun _ _ z=>False.elim z
end
section
variable {X:Cx} {st:Stmt} {rest:List Stmt} {t u:TS} {e:Expr} {te:TE} {pos:Pos}
def vJ:TS:=fun D σ H=>D.nx σ H
def vW (t u:TS):TS:=fun D σ H=>t { D with nx:=u D } σ H
theorem bC:PSs X [] vJ:=fun _ _ σ H _ I h=>wpAny_execs_nil ⟨σ,H,I,h⟩
theorem am (h1:PS X st t) (h2:PSs X rest u):PSs X (st :: rest) (vW t u):=by
  intro pins s σ H D I h
  refine wpAny_execs_cons (thn (h1 pins s σ H { D with nx:=u D } I h) fun f s1 q=>?_)
  cases f with
  | next =>
    obtain ⟨σ',H',I',q⟩:=q
    exact h2 pins s1 σ' H' D I' q
  | ret v=>exact q
  | brk=>exact q
  | cont=>exact q
theorem ap (h1:PS X st t):PSs X [st] t:=by
  intro pins s σ H D I h
  refine wpAny_execs_cons (thn (h1 pins s σ H D I h) fun f s1 q=>?_)
  cases f with
  | next=>exact wpAny_execs_nil q
  | ret v=>exact q
  | brk=>exact q
  | cont=>exact q
def wg:TS:=fun D σ H=>D.bk σ H
theorem sj:PS X (.Break pos) wg:=fun _ _ σ H _ I h=>wpAny_Break ⟨σ,H,I,h⟩
theorem Inv.quiet {pins:List (Addr×Obj)} {σ:St} {H:Hp} {s:Shared} (I:Inv X pins σ H s):interactive X.env = false:=by simp [interactive,I.ok.kind]
def yv (te:TE):TS:=fun D σ H=>te σ H fun _ H1=>D.nx σ H1
theorem cQ (he:PE X e te) (hs:swapsWith e none pos.line X.env = pure false:=by rfl):PS X (.Expr e pos) (yv te):=by
  intro pins s σ H D I h
  exact wpAny_Expr_any (thn (he pins s σ H _ I h) fun v s1 ⟨x,H1,I1,r1,q1⟩=>⟨σ,H1,I1,q1⟩) I.quiet hs
def xJ (te:TE):TS:=fun D σ H=>te σ H D.rt
theorem aG (he:PE X e te):PS X (.Return (some e) pos) (xJ te):=by
  intro pins s σ H D I h
  exact wpAny_Return_some (thn (he pins s σ H _ I h) fun v s1 ⟨x,H1,I1,r1,q1⟩=>⟨x,σ,H1,I1,r1,q1⟩)
def yq (c:TT) (t u:TS):TS:=fun D σ H=>c σ H fun b H1=>if b = true then t D σ H1 else u D σ H1
theorem cX {c:Expr} {a b:List Stmt} {tc:TT} (hc:PT X c tc) (ha:PSs X a t) (hb:PSs X b u):PS X (.If c a b pos) (yq tc t u):=by
  intro pins s σ H D I h
  refine wpAny_If (thn (hc pins s σ H _ I h) fun d s1 ⟨H1,I1,q1⟩=>?_)
  cases d with
  | true=>exact ha pins s1 σ H1 D I1 q1
  | false=>exact hb pins s1 σ H1 D I1 q1
def wU:TS:=fun _ _ _=>False
theorem fQ {sts:List Stmt}:PSs X sts wU:=fun _ _ _ _ _ _ h=>h.elim
end
abbrev TG:=V→St→Hp→(St→Hp→Prop)→Prop
abbrev TGs:=List V→St→Hp→(St→Hp→Prop)→Prop
def PG (X:Cx) (target:Expr) (t:TG):Prop :=
  ∀ (pins:List (Addr×Obj)) (s:Shared) (σ:St) (H:Hp) (v:V) (u:Value) (Q:St→Hp→Prop),Inv X pins σ H s→RelV v u→t v σ H Q →
    wpAny (model X.prog X.w) X.A (assign target X.env u) (fun _ s'=>∃ σ' H',Inv X pins σ' H' s'∧Q σ' H') X.xe s
def PGs (X:Cx) (ts:List Expr) (t:TGs):Prop :=
  ∀ (pins:List (Addr×Obj)) (s:Shared) (σ:St) (H:Hp) (vs:List V) (us:List Value) (Q:St→Hp→Prop),Inv X pins σ H s→Vals vs us→t vs σ H Q →
    wpAny (model X.prog X.w) X.A (assignInOrder ((assignEach ts X.env).map (·.2)) us) (fun _ s'=>∃ σ' H',Inv X pins σ' H' s'∧Q σ' H') X.xe s
abbrev sD:=V→V→V→Hp→(Hp→Prop)→Prop
def wy (X:Cx) (t:sD):Prop :=
  ∀ (pins:List (Addr×Obj)) (s:Shared) (σ:St) (H:Hp) (o i v:V) (ov iv u:Value) (Q:Hp→Prop),Inv X pins σ H s→RelV o ov→RelV i iv→RelV v u→t o i v H Q →
    wpAny (model X.prog X.w) X.A (setItem ov iv u) (fun _ s'=>∃ H',Inv X pins σ H' s'∧Q H') X.xe s
abbrev TIp:=V→V→Hp→VK→Prop
def PIp (X:Cx) (op:Operator) (t:TIp):Prop :=
  ∀ (pins:List (Addr×Obj)) (s:Shared) (σ:St) (H:Hp) (x y:V) (v u:Value) (Q:VK),Inv X pins σ H s→RelV x v→RelV y u→t x y H Q →
    wpAny (model X.prog X.w) X.A (inplaceOp op v u) (EP X pins σ Q) X.xe s
section
variable {X:Cx} {pos:Pos}
def nY (i:Nat):TG:=fun v σ H Q=>Q (σ.set i (some v)) H
theorem aw {i:Nat} {x:Str} (hN:X.N.Nodup) (hi:X.N[i]? = some x) (hx:Loc X.env.scope x) (hf:X.fn x = true∨X.env.scope.names.lookup x = some .local:=by first | exact .inl rfl | exact .inr rfl | assumption):PG X (.Name x pos) (nY i):=by
  intro pins s σ H v u Q I r h
  exact wpAny_assign_Name (fu I hN hi hx r (fun s' I'=>⟨_,H,I',h⟩) hf)
def zb:TGs:=fun vs σ H Q=>vs = []∧Q σ H
inductive gCons (t:TG) (u:TGs) (vs:List V) (σ:St) (H:Hp) (Q:St→Hp→Prop):Prop
  | mk (v:V) (r:List V) (h0:vs = v :: r) (h1:t v σ H fun σ' H'=>u r σ' H' Q):gCons t u vs σ H Q
theorem bP:PGs X [] zb:=by
  intro pins s σ H vs us Q I r h
  obtain ⟨e,h⟩:=h
  subst e
  cases r
  exact assignInOrder_nil ⟨σ,H,I,h⟩
theorem az {e:Expr} {es:List Expr} {t:TG} {u:TGs} (h1:PG X e t) (h2:PGs X es u)
    (hs:(assignEach (e :: es) X.env).map (·.2) = assign e X.env :: (assignEach es X.env).map (·.2):=by rfl):PGs X (e :: es) (gCons t u):=by
  intro pins s σ H vs us Q I r h
  obtain ⟨v,vr,e1,h⟩:=h
  subst e1
  cases r with
  | cons r rr =>
    rw [hs]
    refine assignInOrder_cons (thn (h1 pins s σ H _ _ _ I r h) fun _ s1 ⟨σ1,H1,I1,q1⟩=>?_)
    exact h2 pins s1 σ1 H1 _ _ Q I1 rr q1
inductive gTup (K:PySem.W.Frag) (n:Nat) (t:TGs) (v:V) (σ:St) (H:Hp) (Q:St→Hp→Prop):Prop
  | mk (a:Addr) (xs:List V) (h0:v = .ref a) (h1:SqT K H a xs) (h2:xs.length = n) (h3:t xs σ H Q):gTup K n t v σ H Q
theorem iJ {es:List Expr} {k:Nat} {t:TGs} {n:Nat} (hc:X.calm = true) (h:PGs X es t)
    (hn:(assignEach es X.env).length = n:=by rfl) (hst:(assignEach es X.env).findIdx? (·.1) = none:=by rfl):PG X (.Tuple es k pos) (gTup X.K n t):=by
  intro pins s σ H v u Q I r hw
  obtain ⟨a,xs,e1,hq,hl,hw⟩:=hw
  subst e1
  cases r
  obtain ⟨its,rv,ht,hz⟩:=I.tuple hq
  refine assign_Tuple_tuple (I.ok.hd hc) ht (by simp [hn,← hl,rv.length]) hst fun h' hx=>?_
  have I1:Inv X pins σ H { s with heap:=h' }:=I.kept (t':=s.toks) fun b o e=>hx b o (Nat.ne_of_lt (Heap.lt_size e)) e
  exact h pins _ σ H xs _ Q I1 (by simpa using rv) hw
def zr (to ti:TE) (t:sD):TG:=fun v σ H Q=>to σ H fun o H1=>ti σ H1 fun i H2=>t o i v H2 fun H3=>Q σ H3
theorem m9 {o i:Expr} {to ti:TE} {t:sD} (ho:PE X o to) (hi:PE X i ti) (hs:wy X t)
    (ha:∀ v,assign (.Subscript o i pos) X.env v = (do
      let ov ← holding [v] (eval o X.env)
      let iv ← holding [v,ov] (eval i X.env)
      standAt pos
      holding [v,ov,iv] (setItem ov iv v)
      release [v,ov,iv] []):=by intro _; rfl):PG X (.Subscript o i pos) (zr to ti t):=by
  intro pins s σ H v u Q I r h
  rw [ha]
  refine wpAny_bind (wpAny_holding (thn (ho pins s σ H _ I h) fun ov s1 ⟨x,H1,I1,r1,q1⟩=>?_))
  refine wpAny_bind (wpAny_holding (thn (hi pins s1 σ H1 _ I1 q1) fun iv s2 ⟨y,H2,I2,r2,q2⟩=>?_))
  refine wpAny_bind (wpAny_standAt (wpAny_bind (wpAny_holding (thn (hs pins s2 σ H2 x y v ov iv u _ I2 r1 r2 r q2) fun _ s3 ⟨H3,I3,q3⟩=>?_))))
  exact wpAny_release ⟨σ,H3,I3,q3⟩
def uY (te:TE) (g:TG):TS:=fun D σ H=>te σ H fun x H1=>g x σ H1 D.nx
theorem mR {tg e:Expr} {te:TE} {g:TG} (he:PE X e te) (hg:PG X tg g) (hs:swapsWithSole [tg] e pos.line X.env = pure false:=by rfl) (hw:swappedStores [tg] e X.env = pure none:=by rfl)
    (h1:(assignEach [tg] X.env).map (·.2) = [assign tg X.env]:=by rfl):PS X (.Assign [tg] e pos) (uY te g):=by
  intro pins s σ H D I h
  refine wpAny_Assign_stores (thn (he pins s σ H _ I h) fun v s1 ⟨x,H1,I1,r1,q1⟩=>?_) hs hw
  rw [h1]
  exact thn (hg pins s1 σ H1 x v _ I1 r1 q1) fun _ s2 q=>q
theorem bg {i:Nat} {x:Str} {e:Expr} {te:TE} {pos':Pos} (hN:X.N.Nodup) (hi:X.N[i]? = some x) (hx:Loc X.env.scope x) (he:PE X e te) (hs:swapsWith e (some (.Name x pos')) pos.line X.env = pure false:=by rfl) (hf:X.fn x = true∨X.env.scope.names.lookup x = some .local:=by first | exact .inl rfl | exact .inr rfl | assumption) :
    PS X (.Assign [.Name x pos'] e pos) (uY te (nY i)):=by
  intro pins s σ H D I h
  refine wpAny_Assign_Name (thn (he pins s σ H _ I h) fun v s1 ⟨y,H1,I1,r1,q1⟩=>?_) hs
  exact fu I1 hN hi hx r1 (fun s2 I2=>⟨_,H1,I2,q1⟩) hf
def yU (i j:Nat) (ta:TA):TS:=fun D σ H=>ta σ H fun vs H1=>∃ v w,vs = [v,w]∧D.nx ((σ.set i (some v)).set j (some w)) H1
theorem vZ {i j:Nat} {x y:Str} {a b:Expr} {ta:TA} {px py pt:Pos} {kt k2 pt2} (hc:X.calm = true) (hN:X.N.Nodup) (hi:X.N[i]? = some x) (hj:X.N[j]? = some y) (hij:i≠j)
    (hx:X.env.scope.names.lookup x = some .local) (hy:X.env.scope.names.lookup y = some .local) (ha:PA X [a,b] ta)
    (hw:swappedStores [.Tuple [.Name x px,.Name y py] kt pt] (.Tuple [a,b] k2 pt2) X.env = pure (some [x,y]))
    (hs:swapsWithSole [.Tuple [.Name x px,.Name y py] kt pt] (.Tuple [a,b] k2 pt2) pos.line X.env = pure false:=by rfl) :
    PS X (.Assign [.Tuple [.Name x px,.Name y py] kt pt] (.Tuple [a,b] k2 pt2) pos) (yU i j ta):=by
  intro pins s σ H D I h
  rw [exec_Assign_arm]
  refine wpAny_bind (wpAny_standAt ?_)
  rw [hs]
  refine wpAny_bind (wpAny_pure ?_)
  rw [if_neg (by decide)]
  refine wpAny_bind (Tuple_ (thn (ha _ pins s σ H _ I h) fun us s1 ⟨vs,H1,I1,r1,q1⟩=>?_))
  obtain ⟨v,w,e1,q1⟩:=q1
  subst e1
  obtain ⟨u1,u2,rfl,rv,rw'⟩:∃ u1 u2,us = [u1,u2]∧RelV v u1∧RelV w u2:=by
    cases r1 with
    | cons p q =>
      cases q with
      | cons p' q' =>
        cases q'
        exact ⟨_,_,rfl,p,p'⟩
  refine wpAny_newObj_type ?_ (by show 2≤sizeLine; decide)
  have I2:Inv X pins σ H1 { s1 with heap:=s1.heap.push { cls:=.type "tuple",data:=.seq [u1,u2].toArray } }:=I1.kept (t':=s1.toks) fun b o e=>Heap.get?_push_of_some _ e
  rw [hw]
  refine wpAny_bind (wpAny_pure ?_)
  show wpAny (model X.prog X.w) X.A (do rule "assign.swapped-stores"; let items ← unpackItems (.ref s1.heap.objs.size) 2 none; assignInOrder [fun v=>bindName X.env y v,fun v=>bindName X.env x v] items.reverse; pure Flow.next) _ _ _
  refine wpAny_bind (wpAny_rule (wpAny_bind (unpackItems_tuple (items:=#[u1,u2]) (I.ok.hd hc) (IsTup.new s1.heap _) fun h' hx'=>?_)))
  have I3:=I2.kept (h':=h') (t':=s1.toks) fun b o e=>hx' b o (Nat.ne_of_lt (Heap.lt_size e)) e
  show wpAny _ _ (assignInOrder [fun v=>bindName X.env y v,fun v=>bindName X.env x v] [u2,u1] >>= fun _=>pure Flow.next) _ _ _
  refine wpAny_bind (assignInOrder_cons (wpAny_bindName (fu I3 hN hj (.inl hy) rw' (fun s2 I4=>?_) (.inr hy))))
  refine assignInOrder_cons (wpAny_bindName (fu I4 hN hi (.inl hx) rv (fun s3 I5=>assignInOrder_nil (wpAny_pure ?_)) (.inr hx)))
  rw [List.set_comm _ _ (Ne.symm hij)] at I5
  exact ⟨_,H1,I5,q1⟩
def yL (to ti te:TE) (tget:V→V→Hp→VK→Prop) (tip:TIp) (tset:sD):TS:=fun D σ H=>to σ H fun o H1=>ti σ H1 fun i H2=>tget o i H2 fun x H3=>te σ H3 fun y H4=>tip x y H4 fun z H5=>tset o i z H5 fun H6=>D.nx σ H6
def xV (X:Cx) (t:V→V→Hp→VK→Prop):Prop :=
  ∀ (pins:List (Addr×Obj)) (s:Shared) (σ:St) (H:Hp) (o i:V) (ov iv:Value) (Q:VK),Inv X pins σ H s→RelV o ov→RelV i iv→t o i H Q →
    wpAny (model X.prog X.w) X.A (getItem ov iv) (EP X pins σ Q) X.xe s
theorem oH {o i e:Expr} {to ti te:TE} {tget:V→V→Hp→VK→Prop} {tip:TIp} {tset:sD} {op:Operator} {tpos:Pos} (ho:PE X o to) (hi:PE X i ti) (hg:xV X tget) (he:PE X e te) (hp:PIp X op tip) (hs:wy X tset)
    (ha:∀ ov iv new,augStore i ov iv new = (do holding [new,ov,iv] (setItem ov iv new); release [new,ov,iv] []; pure .next):=by intros; rfl):PS X (.AugAssign (.Subscript o i tpos) op e pos) (yL to ti te tget tip tset):=by
  intro pins s σ H D I h
  refine wpAny_AugAssign_SubscriptAny (thn (ho pins s σ H _ I h) fun ov s1 ⟨x1,H1,I1,r1,q1⟩=>?_) ha
  refine thn (hi pins s1 σ H1 _ I1 q1) fun iv s2 ⟨x2,H2,I2,r2,q2⟩=>?_
  refine thn (hg pins s2 σ H2 x1 x2 ov iv _ I2 r1 r2 q2) fun old s3 ⟨x3,H3,I3,r3,q3⟩=>?_
  refine thn (he pins s3 σ H3 _ I3 q3) fun v s4 ⟨x4,H4,I4,r4,q4⟩=>?_
  refine thn (hp pins s4 σ H4 x3 x4 old v _ I4 r3 r4 q4) fun new s5 ⟨x5,H5,I5,r5,q5⟩=>?_
  exact thn (hs pins s5 σ H5 x1 x2 x5 ov iv new _ I5 r1 r2 r5 q5) fun _ s6 ⟨H6,I6,q6⟩=>⟨σ,H6,I6,q6⟩
def ipI (f:Int→Int→Int):TIp:=fun x y H Q=>∃ i j,x = .int i∧y = .int j∧Q (.int (f i j)) H
theorem rQ:PIp X .Add (ipI fun i j=>i + j):=by
  intro pins s σ H x y v u Q I r1 r2 h
  obtain ⟨i,j,e1,e2,q⟩:=h
  subst e1; subst e2
  obtain ⟨t,rfl⟩:=r1
  obtain ⟨t',rfl⟩:=r2
  exact iadd_int ⟨.int _,H,I.tok _,⟨_,rfl⟩,q⟩
end
section
variable {X:Cx} {pos:Pos}
def wR (c:TT) (tb:TS):TS:=fun D σ H=>∃ W:Nat→St→Hp→Prop,(∃ m,W m σ H)∧∀ m σ H,W m σ H →
  c σ H fun b H1=>if b = true then ∃ N:St→Hp→Prop,(∀ σ' H',N σ' H'→∃ m',m' < m∧W m' σ' H')∧tb { D with nx:=N,ct:=N,bk:=D.nx } σ H1 else D.nx σ H1
theorem hV {c:Expr} {body:List Stmt} {tc:TT} {tb:TS} (hp:PassesOwn (model X.prog X.w) X.A X.env X.xe) (hc:PT X c tc) (hb:PSs X body tb):PS X (.While c body [] pos) (wR tc tb):=by
  intro pins s σ H D I h
  obtain ⟨W,⟨m0,w0⟩,bG⟩:=h
  refine wpAny_While (codeAny_whileLoop (fun n s'=>∃ σ' H',Inv X pins σ' H' s'∧W n σ' H') ?_ m0 ⟨σ,H,I,w0⟩)
  rintro n s1 ⟨σ1,H1,I1,w1⟩
  refine wpAny_passesOwn hp (thn (hc pins s1 σ1 H1 _ I1 (bG n σ1 H1 w1)) fun b s2 ⟨H2,I2,q2⟩=>?_)
  cases b with
  | true =>
    obtain ⟨N,hN,q2⟩:=q2
    rw [if_pos rfl]
    refine wpAny_passesOwn hp (thn (hb pins s2 σ1 H2 _ I2 q2) fun f s3 q3=>?_)
    cases f with
    | next =>
      obtain ⟨σ3,H3,I3,n3⟩:=q3
      obtain ⟨m',hm,w3⟩:=hN σ3 H3 n3
      exact ⟨m',hm,σ3,H3,I3,w3⟩
    | cont =>
      obtain ⟨σ3,H3,I3,n3⟩:=q3
      obtain ⟨m',hm,w3⟩:=hN σ3 H3 n3
      exact ⟨m',hm,σ3,H3,I3,w3⟩
    | brk=>exact q3
    | ret v=>exact q3
  | false =>
    rw [if_neg Bool.false_ne_true]
    exact wpAny_execs_nil ⟨σ1,H2,I2,q2⟩
end
structure It where
  go:Nat→Hp→Prop
  yld:Nat→Hp→V→Hp→Prop
  stop:Nat→Hp→Prop
def fE (X:Cx) (pins:List (Addr×Obj)) (H:Hp) (b:Addr):Prop :=
  H b = none∧b≠X.env.locals∧b ∉ X.fs∧(b ∈ X.ex∨X.s₀.heap.objs.size≤b)∧(∀ x c,X.env.cells.lookup x = some c→c≠b)∧∀ p ∈ X.pn ++ pins,p.1≠b
theorem Inv.fpOk {X:Cx} {pins:List (Addr×Obj)} {σ:St} {H H':Hp} {s:Shared} {b:Addr} (I:Inv X pins σ H s) (hb:s.heap.objs.size≤b) (hn:H' b = none):fE X pins H' b:=by
  refine ⟨hn,Nat.ne_of_gt (Nat.lt_of_lt_of_le I.lt hb),I.nofs hb,.inr (Nat.le_trans I.sz hb),fun x c e z=>?_,fun p hp z=>?_⟩
  · obtain ⟨v,q⟩:=I.cell x c e
    exact absurd (Nat.lt_of_lt_of_le q.lt (by rw [z]; exact hb)) (Nat.lt_irrefl _)
  · exact absurd (Nat.lt_of_lt_of_le (Heap.lt_size (I.pin p hp).1) (by rw [z]; exact hb)) (Nat.lt_irrefl _)
structure Turn (P:Program) (w:World) (K:PySem.W.Frag) (tg:Expr) (J:It) (fp:List Addr) (it:Addr) (tn:Nat→Heap→Prop):Prop where
  mem:it ∈ fp
  obj:∀ i h,tn i h→∀ b ∈ fp,∃ o,h.get? b = some o∧∀ v,o.data≠.cell v
  keep:∀ i h h',tn i h→(∀ b ∈ fp,∀ o,h.get? b = some o→h'.get? b = some o)→tn i h'
  item:∀ (X:Cx),X.prog = P→X.w = w→X.K = K→X.calm = true→∀ (i:Nat) (pins:List (Addr×Obj)) (s:Shared) (σ:St) (H:Hp) (E:Value→Shared→Prop),Inv X pins σ H s→(∀ b ∈ fp,fE X pins H b)→tn i s.heap→J.go i H →
    wpAny (model P w) X.A (pyNext (.ref it)) (fun r s1=>∃ u,r = some u ∧
      wpAny (model P w) X.A (letOwnedTupleGo tg (.ref it) u) (fun _ s2=>∃ x H',Inv X pins σ H' s2∧RelV x u∧J.yld i H x H'∧tn (i + 1) s2.heap∧∀ b ∈ fp,H' b = none) E s1) E s
  done:∀ (X:Cx),X.prog = P→X.w = w→X.K = K→X.calm = true→∀ (i:Nat) (pins:List (Addr×Obj)) (s:Shared) (σ:St) (H:Hp) (E:Value→Shared→Prop),Inv X pins σ H s→(∀ b ∈ fp,fE X pins H b)→tn i s.heap→J.stop i H →
    wpAny (model P w) X.A (pyNext (.ref it)) (fun r s1=>r = none∧Inv X pins σ H s1) E s
  self:∀ (A:Around) (i:Nat) (s:Shared) (Q:Value→Shared→Prop) (E:Value→Shared→Prop),tn i s.heap→Q (.ref it) s→wpAny (model P w) A (pyIter (.ref it)) Q E s
abbrev TI:=St→Hp→(It→Hp→Prop)→Prop
def PIE (X:Cx) (pins:List (Addr×Obj)) (σ:St) (tg:Expr) (R:It→Hp→Prop) (itv:Value) (s2:Shared):Prop :=
  ∃ (it:Addr) (fp:List Addr) (tn:Nat→Heap→Prop) (J:It) (H':Hp),itv = .ref it∧Inv X pins σ H' s2∧Turn X.prog X.w X.K tg J fp it tn∧tn 0 s2.heap∧(∀ b ∈ fp,fE X pins H' b)∧R J H'
def PI (X:Cx) (tg iter:Expr) (wi:TI):Prop :=
  ∀ (pins:List (Addr×Obj)) (s:Shared) (σ:St) (H:Hp) (R:It→Hp→Prop),Inv X pins σ H s→wi σ H R →
    wpAny (model X.prog X.w) X.A (eval iter X.env) (fun v s1=>wpAny (model X.prog X.w) X.A (pyIter v) (PIE X pins σ tg R) X.xe s1) X.xe s
theorem ke {M:Model} {A:Around} {E:Value→Shared→Prop} {s:Shared} {tg:Expr} {it:Addr} {u:Value} {o:Obj} {n:String} {vs:Array Value} {Q:Unit→Shared→Prop} (ho:s.heap.get? it = some o) (hc:o.cls = .type n) (hd:o.data = .fields vs)
    (hn:["enumerate", "zip", "dict_itemiterator", "dict_reverseitemiterator", "odict_iterator", "itertools.zip_longest", "itertools.pairwise"].contains n = false) (hQ:Q () s):wpAny M A (letOwnedTupleGo tg (.ref it) u) Q E s:=by
  unfold letOwnedTupleGo
  cases tg <;> first
    | exact wpAny_pure hQ
    | (cases u <;> first
        | exact wpAny_pure hQ
        | (refine wpAny_bind (wpAny_load ho ?_)
           rw [hc,hd]
           show wpAny M A (if (["enumerate", "zip", "dict_itemiterator", "dict_reverseitemiterator", "odict_iterator", "itertools.zip_longest", "itertools.pairwise"].contains n && vs[0]? == some (rawInt _)) = true then _ else _) Q E s
           rw [if_neg (by intro h; rw [hn,Bool.false_and] at h; cases h)]
           exact wpAny_pure hQ))
def Itl (K:PySem.W.Frag) (a:Addr):It :=
  ⟨fun i H=>∃ xs x,SqL K H a xs∧xs[i]? = some x,fun i H x H'=>H' = H∧∀ xs,SqL K H a xs→xs[i]? = some x,fun i H=>∃ xs,SqL K H a xs∧xs.length≤i⟩
def Itt (K:PySem.W.Frag) (a:Addr):It :=
  ⟨fun i H=>∃ xs x,SqT K H a xs∧xs[i]? = some x,fun i H x H'=>H' = H∧∀ xs,SqT K H a xs→xs[i]? = some x,fun i H=>∃ xs,SqT K H a xs∧xs.length≤i⟩
def Itr (lo:Int) (n:Nat):It:=⟨fun i _=>i < n,fun i H x H'=>H' = H∧x = .int (lo + i),fun i _=>n≤i⟩
theorem pW {P:Program} {w:World} {K:PySem.W.Frag} {tg:Expr} (a it:Addr):Turn P w K tg (Itl K a) [it] it (fun i h=>h.IsListIter it a i) where
  mem:=by simp
  obj:=fun i h st b hb=>by
    have e:b = it:=by simpa using hb
    subst e
    obtain ⟨o,e,c,d⟩:=st
    exact ⟨o,e,fun v z=>by rw [d] at z; cases z⟩
  keep:=fun i h h' st k=>st.at fun o e=>k it (by simp) o e
  item:=by
    intro X hP hw hK hc i pins s σ H E I hf st hg
    subst hP hw hK
    obtain ⟨xs,x,hq,hx⟩:=hg
    obtain ⟨its,rv,p,hz⟩:=I.list hq
    obtain ⟨u,hu,ru⟩:=rv.get hx
    obtain ⟨f0,f1,f2,f3,f4,f5⟩:=hf it (by simp)
    refine wpAny_pyNext_list_item st p.isList (x:=u) (by simpa using hu) fun h' st' sb=>?_
    have I1:Inv X pins σ H { s with heap:=h' }:=I.turned (t':=s.toks) (fun b o hb e=>(sb.2 b hb).trans e) f0 f1 f3 f4 f5
    obtain ⟨o,e,c,d⟩:=id st'
    exact ⟨u,rfl,ke (s:={ s with heap:=h' }) e c d (by decide) ⟨x,H,I1,ru,⟨rfl,fun ys hy=>by rw [I.list_inj hy hq]; exact hx⟩,st',fun b hb=>(hf b hb).1⟩⟩
  done:=by
    intro X hP hw hK hc i pins s σ H E I hf st hg
    subst hP hw hK
    obtain ⟨xs,hq,hx⟩:=hg
    obtain ⟨its,rv,p,hz⟩:=I.list hq
    obtain ⟨f0,f1,f2,f3,f4,f5⟩:=hf it (by simp)
    have hl:=rv.length
    exact wpAny_pyNext_list_end (I.ok.hd hc) st p.isList (by simp; omega) fun h' eb=>⟨rfl,I.turned (t':=s.toks) (fun b o hb e=>eb b o hb e) f0 f1 f3 f4 f5⟩
  self:=fun _ _ _ _ _ st h=>wpAny_pyIter_listiter st h
theorem mW {P:Program} {w:World} {K:PySem.W.Frag} {tg:Expr} (a it:Addr):Turn P w K tg (Itt K a) [it] it (fun i h=>h.IsTupleIter it a i) where
  mem:=by simp
  obj:=fun i h st b hb=>by
    have e:b = it:=by simpa using hb
    subst e
    obtain ⟨o,e,c,d⟩:=st
    exact ⟨o,e,fun v z=>by rw [d] at z; cases z⟩
  keep:=fun i h h' st k=>st.at fun o e=>k it (by simp) o e
  item:=by
    intro X hP hw hK hc i pins s σ H E I hf st hg
    subst hP hw hK
    obtain ⟨xs,x,hq,hx⟩:=hg
    obtain ⟨its,rv,p,hz⟩:=I.tuple hq
    obtain ⟨u,hu,ru⟩:=rv.get hx
    obtain ⟨f0,f1,f2,f3,f4,f5⟩:=hf it (by simp)
    refine wpAny_pyNext_tuple_item st (show s.heap.IsTuple a its.toArray from p) (x:=u) (by simpa using hu) fun h' st' sb=>?_
    have I1:Inv X pins σ H { s with heap:=h' }:=I.turned (t':=s.toks) (fun b o hb e=>(sb.2 b hb).trans e) f0 f1 f3 f4 f5
    obtain ⟨o,e,c,d⟩:=id st'
    exact ⟨u,rfl,ke (s:={ s with heap:=h' }) e c d (by decide) ⟨x,H,I1,ru,⟨rfl,fun ys hy=>by rw [I.tuple_inj hy hq]; exact hx⟩,st',fun b hb=>(hf b hb).1⟩⟩
  done:=by
    intro X hP hw hK hc i pins s σ H E I hf st hg
    subst hP hw hK
    obtain ⟨xs,hq,hx⟩:=hg
    obtain ⟨its,rv,p,hz⟩:=I.tuple hq
    obtain ⟨f0,f1,f2,f3,f4,f5⟩:=hf it (by simp)
    have hl:=rv.length
    exact wpAny_pyNext_tuple_end (I.ok.hd hc) st (show s.heap.IsTuple a its.toArray from p) (by simp; omega) fun h' eb=>⟨rfl,I.turned (t':=s.toks) (fun b o hb e=>eb b o hb e) f0 f1 f3 f4 f5⟩
  self:=fun _ _ _ _ _ st h=>wpAny_pyIter_tupleiter st h
theorem nB {P:Program} {w:World} {K:PySem.W.Frag} {tg:Expr} (it:Addr) (lo:Int) (n:Nat):Turn P w K tg (Itr lo n) [it] it (fun i h=>IsRangeIter h it (lo + (i:Nat) * 1) ((n:Int) - (i:Nat)) 1) where
  mem:=by simp
  obj:=fun i h st b hb=>by
    have e:b = it:=by simpa using hb
    subst e
    exact ⟨_,st,fun v z=>by
      have z':Data.fields _ = Data.cell v:=z
      cases z'⟩
  keep:=fun i h h' st k=>k it (by simp) _ st
  item:=by
    intro X hP hw hK hc i pins s σ H E I hf st hg
    subst hP hw hK
    obtain ⟨f0,f1,f2,f3,f4,f5⟩:=hf it (by simp)
    have W:=Walks.range (prog:=X.prog) (w:=X.w) (I.ok.hd hc) it lo 1 n
    refine W.item i s _ _ hg st fun v h' tk hv st' kk=>?_
    obtain ⟨t,rfl⟩:=hv
    have I1:Inv X pins σ H { s with heap:=h',toks:=tk }:=I.turned (fun b o hb e=>kk b o (by simpa using hb) e) f0 f1 f3 f4 f5
    refine ⟨_,rfl,ke (s:={ s with heap:=h',toks:=tk }) (n := "range_iterator") st' rfl rfl (by decide) ⟨.int (lo + i),H,I1,⟨t,?_⟩,⟨rfl,rfl⟩,st',fun b hb=>(hf b hb).1⟩⟩
    rw [Int.mul_one]
  done:=by
    intro X hP hw hK hc i pins s σ H E I hf st hg
    subst hP hw hK
    obtain ⟨f0,f1,f2,f3,f4,f5⟩:=hf it (by simp)
    exact wpAny_pyNext_range_end (I.ok.hd hc) st (by have:n≤i:=hg; omega) fun h' eb=>⟨rfl,I.turned (t':=s.toks) (fun b o hb e=>eb b o hb e) f0 f1 f3 f4 f5⟩
  self:=fun _ _ _ _ _ st h=>wpAny_pyIter_rangeiter st h
end L2
namespace L2
open PySem PySem.Spec PyProof.Rows
section
variable {X:Cx} {tg:Expr}
theorem qS {pins:List (Addr×Obj)} {σ:St} {H:Hp} {s:Shared} {R:It→Hp→Prop} {E:Value→Shared→Prop} {lo hi:Int} {t u v:Tok} {tk:Nat} (I:Inv X pins σ H s) (h1:-(2 ^ 62)≤lo) (h2:lo < 2 ^ 62) (h3:-(2 ^ 62)≤hi) (h4:hi < 2 ^ 62)
    (q:R (Itr lo (hi - lo).toNat) H):wpAny (model X.prog X.w) X.A (pyIter (.ref s.heap.objs.size)) (PIE X pins σ tg R) E { s with heap:=s.heap.push { cls:=.type "range",data:=.fields #[.int lo t,.int hi u,.int 1 v] },toks:=tk }:=by
  refine wpAny_pyIter_range (IsRange.new ..) (small_one h1 h2 h3 h4) ?_
  have I1:Inv X pins σ H { s with heap:=s.heap.push { cls:=.type "range",data:=.fields #[.int lo t,.int hi u,.int 1 v] },toks:=tk }:=I.kept fun b o e=>Heap.get?_push_of_some _ e
  refine ⟨(s.heap.push { cls:=.type "range",data:=.fields #[.int lo t,.int hi u,.int 1 v] }).objs.size,[(s.heap.push { cls:=.type "range",data:=.fields #[.int lo t,.int hi u,.int 1 v] }).objs.size],_,_,H,rfl,
    I1.kept (t':=tk) fun b o e=>Heap.get?_push_of_some _ e,nB _ lo (hi - lo).toNat,?_,fun b hb=>?_,q⟩
  · have e1:lo + ((0:Nat):Int) * 1 = lo:=by simp
    have e2:(((hi - lo).toNat:Nat):Int) - ((0:Nat):Int) = Builtin.Range.rangeSize lo hi 1:=by rw [rangeSize_one]; split <;> omega
    show IsRangeIter _ _ (lo + ((0:Nat):Int) * 1) ((((hi - lo).toNat:Nat):Int) - ((0:Nat):Int)) 1
    rw [e1,e2]
    exact Heap.get?_push_size _ rfl
  · have e:b = (s.heap.push { cls:=.type "range",data:=.fields #[.int lo t,.int hi u,.int 1 v] }).objs.size:=by simpa using hb
    subst e
    exact I1.fpOk (Nat.le_refl _) (I1.hok.fresh (Nat.le_refl _))
def xH (ta:TA):TI:=fun σ H R=>ta σ H fun vs H1=>∃ j:Int,vs = [.int j]∧-(2 ^ 62)≤j∧j < 2 ^ 62∧R (Itr 0 j.toNat) H1
theorem kE {a:Expr} {ta:TA} {p pos:Pos} (hg:Gl X "range") (hm:X.mg "range" = none) (ha:PA X [a] ta) (hs:starEach [a] X.env = [(false,eval a X.env)]:=by rfl):PI X tg (.Call (.Name "range" p) [a] [] pos) (xH ta):=by
  intro pins s σ H R I h
  refine Call_ (gr I hg hm boot_range (PyProof.Rows.callWith_type1 (thn (ha pos pins s σ H _ I h) fun us s1 ⟨vs,H1,I1,r1,q1⟩=>?_) hs rfl))
  obtain ⟨j,e,q1,q2,q⟩:=q1
  subst e
  cases r1 with
  | cons r rr =>
    cases rr
    obtain ⟨t,rfl⟩:=r
    exact call_range_1 (qS I1 (by omega) (by omega) q1 q2 (by simpa using q))
def zj (wi:TI) (g:TG) (tb:TS):TS:=fun D σ H=>wi σ H fun J H1=>∃ W:Nat→Nat→St→Hp→Prop,(∃ m,W 0 m σ H1)∧∀ i m σ H,W i m σ H →
  (J.stop i H∧D.nx σ H)∨(J.go i H∧∃ N:St→Hp→Prop,(∀ σ' H',N σ' H'→∃ m',m' < m∧W (i + 1) m' σ' H')∧∀ x H',J.yld i H x H'→g x σ H' fun σ2 H2=>tb { D with nx:=N,ct:=N,bk:=D.nx } σ2 H2)
def jJ (fp:List Addr) (h:Heap):List (Addr×Obj):=fp.filterMap fun b=>(h.get? b).map fun o=>(b,o)
theorem eJ {fp:List Addr} {h:Heap} {b:Addr} {o:Obj} (hb:b ∈ fp) (e:h.get? b = some o):(b,o) ∈ jJ fp h:=List.mem_filterMap.mpr ⟨b,hb,by rw [e]; rfl⟩
theorem pP {fp:List Addr} {h:Heap} {p:Addr×Obj} (hp:p ∈ jJ fp h):p.1 ∈ fp∧h.get? p.1 = some p.2:=by
  obtain ⟨b,hb,e⟩:=List.mem_filterMap.mp hp
  cases q:h.get? b with
  | none=>rw [q] at e; cases e
  | some o =>
    rw [q] at e
    have e':(b,o) = p:=Option.some.inj e
    subst e'
    exact ⟨hb,q⟩
theorem Inv.pinned {pins:List (Addr×Obj)} {σ:St} {H:Hp} {s:Shared} {fp:List Addr} (I:Inv X pins σ H s) (hf:∀ b ∈ fp,fE X pins H b) (ho:∀ b ∈ fp,∃ o,s.heap.get? b = some o∧∀ v,o.data≠.cell v):Inv X (pins ++ jJ fp s.heap) σ H s :=
  I.pins_of fun p hp=>(List.mem_append.mp hp).elim (fun z=>I.pin p (List.mem_append_right _ z)) fun z=>by
    obtain ⟨hb,e⟩:=pP z
    obtain ⟨f0,f1,f2,_⟩:=hf p.1 hb
    obtain ⟨o,e',d⟩:=ho p.1 hb
    rw [e] at e'; cases e'
    exact ⟨e,f0,f1,f2,d⟩
theorem Inv.unpinned {pins pl:List (Addr×Obj)} {σ:St} {H:Hp} {s:Shared} (I:Inv X (pins ++ pl) σ H s):Inv X pins σ H s:=I.pins_of fun p hp=>I.pin p (List.mem_append_right _ (List.mem_append_left _ hp))
theorem fB {iter:Expr} {body:List Stmt} {wi:TI} {g:TG} {tb:TS} {pos:Pos} (hp:PassesOwn (model X.prog X.w) X.A X.env X.xe) (hc:X.calm = true) (hi:PI X tg iter wi) (hg:PG X tg g) (hb:PSs X body tb)
    (hs:∀ x,foldedSetIterable iter X.env x = pure x:=by intro _; rfl):PS X (.For tg iter body [] pos) (zj wi g tb):=by
  intro pins s σ H D I h
  refine wpAny_For (thn (hi pins s σ H _ I h) fun v s1 h1=>thn h1 fun itv s2 h2=>?_) hs
  obtain ⟨it,fp,tn,J,H2,e,I2,T,st2,f2,W,⟨m0,w0⟩,bG⟩:=h2
  subst e
  -- what stays true of the iterator's objects through the loop
  have stat:∀ {H':Hp},(∀ b ∈ fp,H' b = none)→∀ b ∈ fp,fE X pins H' b:=fun hn b hb=>⟨hn b hb,(f2 b hb).2⟩
  refine codeAny_forLoop_any (fun n s'=>∃ i σ' H',Inv X pins σ' H' s'∧tn i s'.heap∧(∀ b ∈ fp,H' b = none)∧W i n σ' H') ?_ m0 ⟨0,σ,H2,I2,st2,fun b hb=>(f2 b hb).1,w0⟩
  rintro n s3 ⟨i,σ3,H3,I3,st3,fr3,w3⟩
  rcases bG i n σ3 H3 w3 with ⟨stop,qn⟩ | ⟨go,N,hN,step⟩
  · refine wpAny_passesOwn hp (thn (T.done X rfl rfl rfl hc i pins s3 σ3 H3 X.xe I3 (stat fr3) st3 stop) fun r s4 ⟨hr,I4⟩=>?_)
    subst hr
    exact wpAny_execs_nil ⟨σ3,H3,I4,qn⟩
  · refine wpAny_passesOwn hp (thn (T.item X rfl rfl rfl hc i pins s3 σ3 H3 X.xe I3 (stat fr3) st3 go) fun r s4 ⟨u,hr,h4⟩=>?_)
    subst hr
    refine wpAny_passesOwn hp (thn h4 fun _ s5 ⟨x,H5,I5,r5,y5,st5,fr5⟩=>?_)
    have I5':=I5.pinned (stat fr5) (T.obj _ _ st5)
    refine wpAny_passesOwn hp (thn (hg _ s5 σ3 H5 x u _ I5' r5 (step x H5 y5)) fun _ s6 ⟨σ6,H6,I6,q6⟩=>?_)
    refine wpAny_passesOwn hp (thn (hb _ s6 σ6 H6 _ I6 q6) fun f s7 q7=>?_)
    have again:∀ {σ7:St} {H7:Hp},Inv X (pins ++ jJ fp s5.heap) σ7 H7 s7→N σ7 H7→∃ m,m < n∧∃ i σ' H',Inv X pins σ' H' s7∧tn i s7.heap∧(∀ b ∈ fp,H' b = none)∧W i m σ' H':=fun {σ7 H7} I7 n7=>by
      obtain ⟨m',hm,w7⟩:=hN σ7 H7 n7
      refine ⟨m',hm,i + 1,σ7,H7,I7.unpinned,T.keep _ _ _ st5 fun b hb o e=>(I7.pin (b,o) (List.mem_append_right _ (List.mem_append_right _ (eJ hb e)))).1,fun b hb=>?_,w7⟩
      obtain ⟨o,e,d⟩:=T.obj _ _ st5 b hb
      exact (I7.pin (b,o) (List.mem_append_right _ (List.mem_append_right _ (eJ hb e)))).2.1
    cases f with
    | next=>obtain ⟨σ7,H7,I7,n7⟩:=q7; exact again I7 n7
    | cont=>obtain ⟨σ7,H7,I7,n7⟩:=q7; exact again I7 n7
    | brk=>obtain ⟨σ7,H7,I7,q7⟩:=q7; exact ⟨σ7,H7,I7.unpinned,q7⟩
    | ret v=>obtain ⟨x7,σ7,H7,I7,r7,q7⟩:=q7; exact ⟨x7,σ7,H7,I7.unpinned,r7,q7⟩
end
theorem jE {K:PySem.W.Frag} {a:Addr} {xs:List V} {g:TG} {tb:TS} {D:Ends} {σ:St} {H:Hp} (Pv:Nat→St→Hp→Prop) (h0:Pv 0 σ H) (hl:∀ i σ H,i≤xs.length→Pv i σ H→SqL K H a xs)
    (hs:∀ i x σ H,xs[i]? = some x→Pv i σ H→g x σ H fun σ2 H2=>tb { D with nx:=Pv (i + 1),ct:=Pv (i + 1),bk:=D.nx } σ2 H2) (hd:∀ σ H,Pv xs.length σ H→D.nx σ H) :
    ∃ W:Nat→Nat→St→Hp→Prop,(∃ m,W 0 m σ H)∧∀ i m σ H,W i m σ H →
      ((Itl K a).stop i H∧D.nx σ H)∨((Itl K a).go i H∧∃ N:St→Hp→Prop,(∀ σ' H',N σ' H'→∃ m',m' < m∧W (i + 1) m' σ' H')∧∀ x H',(Itl K a).yld i H x H'→g x σ H' fun σ2 H2=>tb { D with nx:=N,ct:=N,bk:=D.nx } σ2 H2):=by
  refine ⟨fun i m σ H=>m = xs.length - i∧i≤xs.length∧Pv i σ H,⟨xs.length,by simp,Nat.zero_le _,h0⟩,?_⟩
  rintro i m σ H ⟨rfl,hi,p⟩
  have q:=hl i σ H hi p
  by_cases hlt:i < xs.length
  · refine .inr ⟨⟨xs,xs[i],q,by simp [hlt]⟩,Pv (i + 1),fun σ' H' p'=>⟨xs.length - (i + 1),by omega,rfl,hlt,p'⟩,fun x H' y=>?_⟩
    obtain ⟨e,y⟩:=y
    subst e
    exact hs i x σ _ (y xs q) p
  · have e:i = xs.length:=by omega
    subst e
    exact .inl ⟨⟨xs,q,Nat.le_refl _⟩,hd σ H p⟩
theorem pL {lo:Int} {n:Nat} {g:TG} {tb:TS} {D:Ends} {σ:St} {H:Hp} (Pv:Nat→St→Hp→Prop) (h0:Pv 0 σ H)
    (hs:∀ i σ H,i < n→Pv i σ H→g (.int (lo + i)) σ H fun σ2 H2=>tb { D with nx:=Pv (i + 1),ct:=Pv (i + 1),bk:=D.nx } σ2 H2) (hd:∀ σ H,Pv n σ H→D.nx σ H) :
    ∃ W:Nat→Nat→St→Hp→Prop,(∃ m,W 0 m σ H)∧∀ i m σ H,W i m σ H →
      ((Itr lo n).stop i H∧D.nx σ H)∨((Itr lo n).go i H∧∃ N:St→Hp→Prop,(∀ σ' H',N σ' H'→∃ m',m' < m∧W (i + 1) m' σ' H')∧∀ x H',(Itr lo n).yld i H x H'→g x σ H' fun σ2 H2=>tb { D with nx:=N,ct:=N,bk:=D.nx } σ2 H2):=by
  refine ⟨fun i m σ H=>m = n - i∧i≤n∧Pv i σ H,⟨n,by simp,Nat.zero_le _,h0⟩,?_⟩
  rintro i m σ H ⟨rfl,hi,p⟩
  by_cases hlt:i < n
  · refine .inr ⟨hlt,Pv (i + 1),fun σ' H' p'=>⟨n - (i + 1),by omega,rfl,hlt,p'⟩,fun x H' y=>?_⟩
    obtain ⟨e,y⟩:=y
    subst e y
    exact hs i σ _ hlt p
  · have e:i = n:=by omega
    subst e
    exact .inl ⟨Nat.le_refl _,hd σ H p⟩
end L2
namespace L2
open PySem PySem.Spec PyProof.Rows
abbrev R2:=V→V→Hp→VK→Prop
def OpR (X:Cx) (f:Value→Value→Sem Value) (r:R2):Prop :=
  ∀ (pins:List (Addr×Obj)) (s:Shared) (σ:St) (H:Hp) (x y:V) (v u:Value) (Q:VK),Inv X pins σ H s→RelV x v→RelV y u→r x y H Q →
    wpAny (model X.prog X.w) X.A (f v u) (EP X pins σ Q) X.xe s
def UnR (X:Cx) (f:Value→Sem Value) (r:V→Hp→VK→Prop):Prop :=
  ∀ (pins:List (Addr×Obj)) (s:Shared) (σ:St) (H:Hp) (x:V) (v:Value) (Q:VK),Inv X pins σ H s→RelV x v→r x H Q →
    wpAny (model X.prog X.w) X.A (f v) (EP X pins σ Q) X.xe s
def CallR (X:Cx) (f:Value) (r:List V→Hp→VK→Prop):Prop :=
  ∀ (pins:List (Addr×Obj)) (s:Shared) (σ:St) (H:Hp) (xs:List V) (us:List Value) (Q:VK),Inv X pins σ H s→Vals xs us→r xs H Q →
    wpAny (model X.prog X.w) X.A (call f us) (EP X pins σ Q) X.xe s
def zn (X:Cx) (r:V→Hp→(Bool→Hp→Prop)→Prop):Prop :=
  ∀ (pins:List (Addr×Obj)) (s:Shared) (σ:St) (H:Hp) (x:V) (v:Value) (Q:Bool→Hp→Prop),Inv X pins σ H s→RelV x v→r x H Q →
    wpAny (model X.prog X.w) X.A (truthy v) (TP X pins σ Q) X.xe s
def tOp (r:R2) (ta tb:TE):TE:=fun σ H Q=>ta σ H fun x H1=>tb σ H1 fun y H2=>r x y H2 Q
def tUn (r:V→Hp→VK→Prop) (ta:TE):TE:=fun σ H Q=>ta σ H fun x H1=>r x H1 Q
def rI (C:Int→Int→Prop) (g:Int→Int→V):R2:=fun x y H Q=>∃ i j,x = .int i∧y = .int j∧C i j∧Q (g i j) H
def rI0 (g:Int→Int→V):R2:=fun x y H Q=>∃ i j,x = .int i∧y = .int j∧Q (g i j) H
def rU (g:Int→V):V→Hp→VK→Prop:=fun x H Q=>∃ i,x = .int i∧Q (g i) H
section
variable {X:Cx} {a b c:Expr} {ta tb tc:TE} {pos:Pos}
theorem vR (ha:PE X a ta) (hb:PE X b tb) {pins:List (Addr×Obj)} {s:Shared} {σ:St} {H:Hp} {R:V→V→Hp→Prop} (I:Inv X pins σ H s)
    (h:ta σ H fun x H1=>tb σ H1 fun y H2=>R x y H2) {Q:Value→Shared→Prop} {f:Value→Value→Sem Value}
    (hf:∀ v u s2 x y H2,Inv X pins σ H2 s2→RelV x v→RelV y u→R x y H2→wpAny (model X.prog X.w) X.A (f v u) Q X.xe s2) :
    wpAny (model X.prog X.w) X.A (eval a X.env) (fun v s₁=>wpAny (model X.prog X.w) X.A (eval b X.env) (fun u s₂=>wpAny (model X.prog X.w) X.A (f v u) Q X.xe s₂) X.xe s₁) X.xe s:=by
  refine thn (ha pins s σ H _ I h) fun v s1 ⟨x,H1,I1,r1,q1⟩=>?_
  refine thn (hb pins s1 σ H1 _ I1 q1) fun u s2 ⟨y,H2,I2,r2,q2⟩=>?_
  exact hf v u s2 x y H2 I2 r1 r2 q2
theorem aB {op:Operator} {r:R2} (ho:OpR X (binaryOp op) r) (ha:PE X a ta) (hb:PE X b tb):PE X (.BinOp a op b pos) (tOp r ta tb):=by
  intro pins s σ H Q I h
  exact wpAny_BinOp (vR ha hb I h fun v u s2 x y H2 I2 rx ry q=>ho pins s2 σ H2 x y v u Q I2 rx ry q)
theorem gN {op:UnaryOp} {r:V→Hp→VK→Prop} (ho:UnR X (unaryOp op) r) (ha:PE X a ta):PE X (.UnaryOp op a pos) (tUn r ta):=by
  intro pins s σ H Q I h
  exact UnaryOp_ (thn (ha pins s σ H _ I h) fun v s1 ⟨x,H1,I1,r1,q1⟩=>ho pins s1 σ H1 x v Q I1 r1 q1)
theorem opI {f:Value→Value→Sem Value} {C:Int→Int→Prop} {g:Int→Int→Int}
    (rule:∀ (i j:Int) (t u:Tok) (s:Shared) (Q:Value→Shared→Prop) (E:Value→Shared→Prop),C i j→Q (.int (g i j) s.toks) { s with toks:=s.toks + 1 }→wpAny (model X.prog X.w) X.A (f (.int i t) (.int j u)) Q E s) :
    OpR X f (rI C fun i j=>.int (g i j)):=by
  intro pins s σ H x y v u Q I rx ry h
  obtain ⟨i,j,rfl,rfl,hc,q⟩:=h
  obtain ⟨t,rfl⟩:=rx
  obtain ⟨t',rfl⟩:=ry
  exact rule i j t t' s _ _ hc ⟨.int (g i j),H,I.tok _,⟨_,rfl⟩,q⟩
theorem yj {f:Value→Value→Sem Value} {g:Int→Int→Int}
    (rule:∀ (i j:Int) (t u:Tok) (s:Shared) (Q:Value→Shared→Prop) (E:Value→Shared→Prop),Q (.int (g i j) s.toks) { s with toks:=s.toks + 1 }→wpAny (model X.prog X.w) X.A (f (.int i t) (.int j u)) Q E s) :
    OpR X f (rI0 fun i j=>.int (g i j)):=by
  intro pins s σ H x y v u Q I rx ry h
  obtain ⟨i,j,rfl,rfl,q⟩:=h
  obtain ⟨t,rfl⟩:=rx
  obtain ⟨t',rfl⟩:=ry
  exact rule i j t t' s _ _ ⟨.int (g i j),H,I.tok _,⟨_,rfl⟩,q⟩
theorem wB {f:Value→Value→Sem Value} {g:Int→Int→Bool}
    (rule:∀ (i j:Int) (t u:Tok) (s:Shared) (Q:Value→Shared→Prop) (E:Value→Shared→Prop),Q (.bool (g i j)) s→wpAny (model X.prog X.w) X.A (f (.int i t) (.int j u)) Q E s) :
    OpR X f (rI0 fun i j=>.bl (g i j)):=by
  intro pins s σ H x y v u Q I rx ry h
  obtain ⟨i,j,rfl,rfl,q⟩:=h
  obtain ⟨t,rfl⟩:=rx
  obtain ⟨t',rfl⟩:=ry
  exact rule i j t t' s _ _ ⟨.bl (g i j),H,I,rfl,q⟩
def zv (i j:Int):Prop:=0 < j∧j < 1073741824
def wI (i j:Int):Prop:=0≤j∧j≤1000000∧i.natAbs < 2 ^ 64
def CMul (i j:Int):Prop:=(-(2 ^ 64) < i∧i < 2 ^ 64)∨(-(2 ^ 64) < j∧j < 2 ^ 64)
theorem CMul.ok {i j:Int} (h:CMul i j):IntMulOk i j:=by
  rcases h with ⟨h1,h2⟩ | ⟨h1,h2⟩
  · exact .of_left (intBits_le_64 h1 h2)
  · exact .of_right (intBits_le_64 h1 h2)
theorem op_add:OpR X (binaryOp .Add) (rI0 fun i j=>.int (i + j)):=yj fun _ _ _ _ _ _ _ q=>add_int q
theorem op_sub:OpR X (binaryOp .Sub) (rI0 fun i j=>.int (i - j)):=yj fun _ _ _ _ _ _ _ q=>sub_int q
theorem op_mod:OpR X (binaryOp .Mod) (rI (fun _ j=>0 < j) fun i j=>.int (i % j)):=opI fun i j _ _ _ _ _ hc q=>by
  have h1:(0:Int) < j:=hc
  exact mod_int' (by omega) (by rw [Int.fmod_eq_emod_of_nonneg i (by omega)]; exact q)
theorem op_pow:OpR X (binaryOp .Pow) (rI wI fun i j=>.int (i ^ j.toNat)):=opI fun _ _ _ _ _ _ _ hc q=>pow_int_small hc.1 hc.2.1 hc.2.2 q
theorem unI {f:Value→Sem Value} {g:Int→Int}
    (rule:∀ (i:Int) (t:Tok) (s:Shared) (Q:Value→Shared→Prop) (E:Value→Shared→Prop),Q (.int (g i) s.toks) { s with toks:=s.toks + 1 }→wpAny (model X.prog X.w) X.A (f (.int i t)) Q E s) :
    UnR X f (rU fun i=>.int (g i)):=by
  intro pins s σ H x v Q I rx h
  obtain ⟨i,rfl,q⟩:=h
  obtain ⟨t,rfl⟩:=rx
  exact rule i t s _ _ ⟨.int (g i),H,I.tok _,⟨_,rfl⟩,q⟩
theorem wt:UnR X (unaryOp .USub) (rU fun i=>.int (-i)):=unI fun _ _ _ _ _ q=>neg_int q
end
def yf:V→V→Bool
  | .non,.non=>true | .non,.int _=>true | .int _,.non=>true | .non,.bl _=>true | .bl _,.non=>true | .non,.str _=>true | .str _,.non=>true
  | .int _,.int _=>true | .bl _,.bl _=>true | .str _,.str _=>true | .byt _,.byt _=>true
  | .int _,.str _=>true | .str _,.int _=>true | .bl _,.str _=>true | .str _,.bl _=>true
  | _,_=>false
def rEq:R2:=fun x y H Q=>yf x y = true∧Q (.bl (decide (x = y))) H
def rNe:R2:=fun x y H Q=>yf x y = true∧Q (.bl (!decide (x = y))) H
theorem ow {i j:Int}:decide (V.int i = V.int j) = (i == j):=by
  rw [Bool.eq_iff_iff]
  simp
theorem re {i j:Bool}:decide (V.bl i = V.bl j) = (i == j):=by
  rw [Bool.eq_iff_iff]
  simp
theorem oD {i j:Str}:decide (V.str i = V.str j) = (i == j):=by
  rw [Bool.eq_iff_iff]
  simp
theorem nP {i j:Array UInt8}:decide (V.byt i = V.byt j) = (i.toList == j.toList):=by
  rw [Bool.eq_iff_iff]
  cases i
  cases j
  simp
section
variable {X:Cx} {a b c:Expr} {ta tb tc:TE} {pos:Pos}
theorem aS {pins:List (Addr×Obj)} {σ:St} {H:Hp} {s:Shared} {Q:VK} {k k':Bool} (I:Inv X pins σ H s) (q:Q (.bl k) H) (e:k = k'):EP X pins σ Q (.bool k') s:=by
  subst e
  exact ⟨.bl k,H,I,rfl,q⟩
theorem op_eq:OpR X (compareOp .Eq) rEq:=by
  intro pins s σ H x y v u Q I rx ry h
  obtain ⟨hs,q⟩:=h
  cases x with
  | non =>
    cases rx
    cases y with
    | non=>cases ry; exact PySem.EqNone.eq_none_none (aS I q (by simp))
    | bl j=>cases ry; exact PySem.EqNone.eq_none_bool (aS I q (by simp))
    | int j=>obtain ⟨t',rfl⟩:=ry; exact PySem.EqNone.eq_none_int (aS I q (by simp))
    | str j=>obtain ⟨t',rfl⟩:=ry; exact PySem.EqNone.eq_none_str (aS I q (by simp))
    | _=>exact absurd (show false = true from hs) Bool.false_ne_true
  | bl i =>
    cases rx
    cases y with
    | non=>cases ry; exact PySem.EqNone.eq_bool_none (aS I q (by simp))
    | bl j=>cases ry; exact eq_bool (aS I q re)
    | str j=>obtain ⟨t',rfl⟩:=ry; exact PySem.EqMixed.eq_bool_str (aS I q (by simp))
    | _=>exact absurd (show false = true from hs) Bool.false_ne_true
  | int i =>
    obtain ⟨t,rfl⟩:=rx
    cases y with
    | non=>cases ry; exact PySem.EqNone.eq_int_none (aS I q (by simp))
    | int j=>obtain ⟨t',rfl⟩:=ry; exact eq_int (aS I q ow)
    | str j=>obtain ⟨t',rfl⟩:=ry; exact PySem.EqMixed.eq_int_str (aS I q (by simp))
    | _=>exact absurd (show false = true from hs) Bool.false_ne_true
  | str i =>
    obtain ⟨t,rfl⟩:=rx
    cases y with
    | non=>cases ry; exact PySem.EqNone.eq_str_none (aS I q (by simp))
    | bl j=>cases ry; exact PySem.EqMixed.eq_str_bool (aS I q (by simp))
    | int j=>obtain ⟨t',rfl⟩:=ry; exact PySem.EqMixed.eq_str_int (aS I q (by simp))
    | str j=>obtain ⟨t',rfl⟩:=ry; exact eq_str (aS I q oD)
    | _=>exact absurd (show false = true from hs) Bool.false_ne_true
  | byt i =>
    obtain ⟨t,rfl⟩:=rx
    cases y with
    | byt j=>obtain ⟨t',rfl⟩:=ry; exact PySem.W.eq_bytes (aS I q nP)
    | _=>exact absurd (show false = true from hs) Bool.false_ne_true
  | _=>cases y <;> exact absurd (show false = true from hs) Bool.false_ne_true
theorem op_ne:OpR X (compareOp .NotEq) rNe:=by
  intro pins s σ H x y v u Q I rx ry h
  obtain ⟨hs,q⟩:=h
  cases x with
  | non =>
    cases rx
    cases y with
    | non=>cases ry; exact PySem.EqNone.ne_none_none (aS I q (by simp))
    | bl j=>cases ry; exact PySem.EqNone.ne_none_bool (aS I q (by simp))
    | int j=>obtain ⟨t',rfl⟩:=ry; exact PySem.EqNone.ne_none_int (aS I q (by simp))
    | str j=>obtain ⟨t',rfl⟩:=ry; exact PySem.EqNone.ne_none_str (aS I q (by simp))
    | _=>exact absurd (show false = true from hs) Bool.false_ne_true
  | bl i =>
    cases rx
    cases y with
    | non=>cases ry; exact PySem.EqNone.ne_bool_none (aS I q (by simp))
    | bl j=>cases ry; exact ne_bool (aS I q (congrArg not re))
    | str j=>obtain ⟨t',rfl⟩:=ry; exact PySem.EqMixed.ne_bool_str (aS I q (by simp))
    | _=>exact absurd (show false = true from hs) Bool.false_ne_true
  | int i =>
    obtain ⟨t,rfl⟩:=rx
    cases y with
    | non=>cases ry; exact PySem.EqNone.ne_int_none (aS I q (by simp))
    | int j=>obtain ⟨t',rfl⟩:=ry; exact ne_int (aS I q (congrArg not ow))
    | str j=>obtain ⟨t',rfl⟩:=ry; exact PySem.EqMixed.ne_int_str (aS I q (by simp))
    | _=>exact absurd (show false = true from hs) Bool.false_ne_true
  | str i =>
    obtain ⟨t,rfl⟩:=rx
    cases y with
    | non=>cases ry; exact PySem.EqNone.ne_str_none (aS I q (by simp))
    | bl j=>cases ry; exact PySem.EqMixed.ne_str_bool (aS I q (by simp))
    | int j=>obtain ⟨t',rfl⟩:=ry; exact PySem.EqMixed.ne_str_int (aS I q (by simp))
    | str j=>obtain ⟨t',rfl⟩:=ry; exact ne_str (aS I q (congrArg not oD))
    | _=>exact absurd (show false = true from hs) Bool.false_ne_true
  | byt i =>
    obtain ⟨t,rfl⟩:=rx
    cases y with
    | byt j=>obtain ⟨t',rfl⟩:=ry; exact PySem.W.ne_bytes (aS I q (congrArg not nP))
    | _=>exact absurd (show false = true from hs) Bool.false_ne_true
  | _=>cases y <;> exact absurd (show false = true from hs) Bool.false_ne_true
theorem op_lt:OpR X (compareOp .Lt) (rI0 fun i j=>.bl (decide (i < j))):=wB fun _ _ _ _ _ _ _ q=>lt_int q
theorem op_le:OpR X (compareOp .LtE) (rI0 fun i j=>.bl (decide (i≤j))):=wB fun _ _ _ _ _ _ _ q=>le_int q
theorem op_gt:OpR X (compareOp .Gt) (rI0 fun i j=>.bl (decide (j < i))):=wB fun _ _ _ _ _ _ _ q=>gt_int q
theorem pG:OpR X (compareOp .Lt) (fun x y H Q=>∃ i j,x = .str i∧y = .str j∧Q (.bl (decide (i.cps.toList < j.cps.toList))) H):=by
  intro pins s σ H x y v u Q I rx ry h
  obtain ⟨i,j,rfl,rfl,q⟩:=h
  obtain ⟨t,rfl⟩:=rx
  obtain ⟨t',rfl⟩:=ry
  exact lt_str (aS I q rfl)
theorem op_isN:OpR X (compareOp .Is) (fun x y H Q=>y = .non∧Q (.bl (decide (x = .non))) H):=by
  intro pins s σ H x y v u Q I rx ry h
  obtain ⟨rfl,q⟩:=h
  cases ry
  refine is_none_gen (aS I q ?_)
  cases x <;> first
    | (cases rx; rfl)
    | (obtain ⟨t,rfl⟩:=rx; rfl)
theorem op_notN:OpR X (compareOp .IsNot) (fun x y H Q=>y = .non∧Q (.bl (!decide (x = .non))) H):=by
  intro pins s σ H x y v u Q I rx ry h
  obtain ⟨rfl,q⟩:=h
  cases ry
  refine isnot_none_gen (aS I q ?_)
  cases x <;> first
    | (cases rx; rfl)
    | (obtain ⟨t,rfl⟩:=rx; rfl)
def isObj:HO→Bool
  | .lst _=>true
  | .ins _ _ _=>true
  | _=>false
theorem OpR.or {f:Value→Value→Sem Value} {r r':R2} (h:OpR X f r) (h':OpR X f r'):OpR X f (fun x y H Q=>r x y H Q∨r' x y H Q):=by
  intro pins s σ H x y v u Q I rx ry q
  rcases q with q | q
  · exact h pins s σ H x y v u Q I rx ry q
  · exact h' pins s σ H x y v u Q I rx ry q
theorem aD (b:Expr) {op:CmpOp} (h:op≠.In:=by decide) (h2:op≠.NotIn:=by decide):behindInMarks op b = false:=by
  have e1:(op == CmpOp.In) = false:=by cases op <;> first | rfl | exact absurd rfl h
  have e2:(op == CmpOp.NotIn) = false:=by cases op <;> first | rfl | exact absurd rfl h2
  cases b <;> simp [behindInMarks,e1,e2]
theorem cM {op:CmpOp} {r:R2} (ho:OpR X (compareOp op) r) (ha:PE X a ta) (hb:PE X b tb) (hm:behindInMarks op b = false):PE X (.Compare a [op] [b] pos) (tOp r ta tb):=by
  intro pins s σ H Q I h
  exact wpAny_Compare1 (vR ha hb I h fun v u s2 x y H2 I2 rx ry q=>ho pins s2 σ H2 x y v u Q I2 rx ry q) hm
def xS (K:PySem.W.Frag) (x:V) (H:Hp) (k:Bool):Prop :=
  match x with
  | .non=>k = false
  | .bl b=>k = b
  | .int i=>k = (i != 0)
  | .str y=>y.length≤sizeLine∧k = ((y.length:Int) != 0)
  | .byt y=>y.size≤sizeLine∧k = ((y.size:Int) != 0)
  | .ref p=>(∃ xs,SqL K H p xs∧k = !xs.isEmpty)∨(∃ xs,SqT K H p xs∧k = !xs.isEmpty)∨∃ kvs,H p = some (.dK kvs)∧k = !kvs.isEmpty
  | _=>False
theorem m7 {κ:Type} {kvs:List (κ×V)} {vs:List (κ×Value)} (r:KV kvs vs):(!vs.isEmpty) = !kvs.isEmpty:=by
  cases r <;> rfl
theorem jt {xs:List V} {its:List Value} (r:Vals xs its):(!its.toArray.isEmpty) = !xs.isEmpty:=by
  cases r <;> simp
theorem eZ:(sizeLine:Nat) < 2 ^ 63:=by rw [sizeLine_eq]; decide
theorem vQ:zn X (fun x H Q=>∃ k,xS X.K x H k∧Q k H):=by
  intro pins s σ H x v Q I rx h
  obtain ⟨k,e,q⟩:=h
  have hl:=eZ
  have hs:sizeLine = 16777216:=sizeLine_eq
  cases x with
  | non =>
    cases rx
    have e':k = false:=e
    subst e'
    exact truthy_none ⟨H,I,q⟩
  | bl b =>
    cases rx
    have e':k = b:=e
    subst e'
    exact wpAny_truthy_bool ⟨H,I,q⟩
  | int i =>
    obtain ⟨t,rfl⟩:=rx
    have e':k = (i != 0):=e
    subst e'
    exact PySem.P.truthy_int ⟨H,I,q⟩
  | str y =>
    obtain ⟨t,rfl⟩:=rx
    obtain ⟨hy,e'⟩:y.length≤sizeLine∧k = ((y.length:Int) != 0):=e
    subst e'
    exact PySem.P.truthy_str (by omega) ⟨H,I.tok _,q⟩
  | byt y =>
    obtain ⟨t,rfl⟩:=rx
    obtain ⟨hy,e'⟩:y.size≤sizeLine∧k = ((y.size:Int) != 0):=e
    subst e'
    exact PySem.W.truthy_bytes (by omega) ⟨H,I.tok _,q⟩
  | ref p =>
    cases rx
    have e':(∃ xs,SqL X.K H p xs∧k = !xs.isEmpty)∨(∃ xs,SqT X.K H p xs∧k = !xs.isEmpty)∨∃ kvs,H p = some (.dK kvs)∧k = !kvs.isEmpty:=e
    rcases e' with ⟨xs,hx,e'⟩ | ⟨xs,hx,e'⟩ | ⟨kvs,hx,e'⟩
    · subst e'
      obtain ⟨its,r,pl,hz⟩:=I.list hx
      have hlen:=r.length
      exact wpAny_truthy_list pl.isList (by simp only [List.size_toArray]; omega) ⟨H,I.tok _,by rw [jt r]; exact q⟩
    · subst e'
      obtain ⟨its,r,pl,hz⟩:=I.tuple hx
      have hlen:=r.length
      exact truthy_tuple pl (by simp only [List.size_toArray]; omega) ⟨H,I.tok _,by rw [jt r]; exact q⟩
    · subst e'
      obtain ⟨hz,hS,vs,r,m⟩:kvs.length≤sizeLine∧(p == sysModules) = false∧∃ vs,KV kvs vs∧s.heap.DictOf (bR X.prog X.w) p vs:=I.hok p _ hx
      have hlen:kvs.length = vs.length:=Paired.length r
      exact wpAny_truthy_dict hS m (by omega) ⟨H,I.tok _,by rw [m7 r]; exact q⟩
  | _=>exact (show False from e).elim
theorem jv (ha:PE X a ta) (he:∀ whole,isTrue a X.env whole = (do let v ← whole; standAt a.pos; holding [v] (truthy v))) :
    PT X a (fun σ H Q=>ta σ H fun x H'=>∃ k,xS X.K x H' k∧Q k H'):=by
  intro pins s σ H Q I h
  exact isTrue_plain (thn (ha pins s σ H _ I h) fun v s1 ⟨x,H1,I1,r1,q1⟩=>vQ pins s1 σ H1 x v Q I1 r1 q1) (he _)
theorem nj:OpR X (binaryOp .Add) (fun x y H Q=>∃ i j,x = .str i∧y = .str j∧i.length + j.length≤sizeLine∧Q (.str (i ++ j)) H):=by
  intro pins s σ H x y v u Q I rx ry h
  obtain ⟨i,j,rfl,rfl,hz,q⟩:=h
  obtain ⟨t,rfl⟩:=rx
  obtain ⟨t',rfl⟩:=ry
  exact add_str (fun t' tk=>⟨.str (i ++ j),H,I.tok _,⟨_,rfl⟩,q⟩) hz
theorem er {x:V} {us:List Value} (r:Vals [x] us):∃ u,us = [u]∧RelV x u:=by
  cases r with
  | cons r1 r2=>cases r2; exact ⟨_,rfl,r1⟩
theorem mI {x y:V} {us:List Value} (r:Vals [x,y] us):∃ u w',us = [u,w']∧RelV x u∧RelV y w':=by
  cases r with
  | cons r1 r2 =>
    cases r2 with
    | cons r3 r4=>cases r4; exact ⟨_,_,rfl,r1,r3⟩
theorem rz:CallR X (.builtin "abs") (fun xs H Q=>∃ i,xs = [.int i]∧Q (.int (if i < 0 then -i else i)) H):=by
  intro pins s σ H xs us Q I r h
  obtain ⟨i,rfl,q⟩:=h
  obtain ⟨u,rfl,t,rfl⟩:=er r
  exact call_abs_int fun u tk=>⟨.int (if i < 0 then -i else i),H,I.tok _,⟨_,rfl⟩,q⟩
inductive rTwo (f:Int→Int→Int) (xs:List V) (H:Hp) (Q:VK):Prop
  | mk (i j:Int) (h0:xs = [.int i,.int j]) (h1:Q (.int (f i j)) H):rTwo f xs H Q
theorem pR (hc:X.calm = true):CallR X (.builtin "max") (rTwo fun i j=>if j > i then j else i):=by
  intro pins s σ H xs us Q I r h
  obtain ⟨i,j,rfl,q⟩:=h
  obtain ⟨u,w',rfl,⟨t,rfl⟩,⟨t',rfl⟩⟩:=mI r
  refine max_two_ints (I.ok.hd hc) fun h' tk k=>⟨_,H,I.kept k,?_,q⟩
  by_cases hj:j > i
  · rw [if_pos hj,if_pos hj]; exact ⟨_,rfl⟩
  · rw [if_neg hj,if_neg hj]; exact ⟨_,rfl⟩
theorem kj (hc:X.calm = true):CallR X (.builtin "min") (rTwo fun i j=>if j < i then j else i):=by
  intro pins s σ H xs us Q I r h
  obtain ⟨i,j,rfl,q⟩:=h
  obtain ⟨u,w',rfl,⟨t,rfl⟩,⟨t',rfl⟩⟩:=mI r
  refine min_two_ints (I.ok.hd hc) fun h' tk k=>⟨_,H,I.kept k,?_,q⟩
  by_cases hj:j < i
  · rw [if_pos hj,if_pos hj]; exact ⟨_,rfl⟩
  · rw [if_neg hj,if_neg hj]; exact ⟨_,rfl⟩
theorem pA:CallR X (.type "int") (fun xs H Q=>(∃ i,xs = [.int i]∧Q (.int i) H)∨∃ k,xs = [.bl k]∧Q (.int (if k then 1 else 0)) H):=by
  intro pins s σ H xs us Q I r h
  rcases h with ⟨i,rfl,q⟩ | ⟨k,rfl,q⟩
  · obtain ⟨u,rfl,t,rfl⟩:=er r
    exact call_int_int ⟨.int i,H,I,⟨_,rfl⟩,q⟩
  · obtain ⟨u,rfl,r1⟩:=er r
    cases r1
    exact call_int_bool ⟨.int (if k then 1 else 0),H,I.tok _,⟨_,rfl⟩,q⟩
end
end L2
namespace L2
open PySem PySem.Spec PyProof.Rows
structure ObjM (h:Heap) (x dx C:Addr) (mA:Str→Option Value):Prop where
  obj:h.get? x = some (PySem.W.instObj C dx)
  ns:h.Ns1 dx mA
  ne:dx≠x
theorem pS {h:Heap} {dx:Addr} {mA:Str→Option Value} (n:h.Ns1 dx mA):∃ od,h.get? dx = some od∧∀ name,PySem.W.lookIn name od = some (mA name):=by
  obtain ⟨o,es,ep,ho,hd,hk,_,hm⟩:=n
  refine ⟨o,ho,fun name=>?_⟩
  have e:=hm name
  unfold nsFind findBy at e
  rw [← Array.find?_toList] at e
  unfold PySem.W.lookIn
  rw [hd]
  dsimp only
  split
  · rename_i y q
    rw [q] at e
    exact congrArg some e
  · rename_i q
    rw [q] at e
    have a:es.toList.any (·.refKey) = false:=by
      rw [List.any_eq_false]
      intro y hy
      obtain ⟨z,t,hkey⟩:=hk y (Array.mem_toList_iff.mp hy)
      simp [DictEntry.refKey,hkey]
    have a':¬ es.toList.any (·.refKey) = true:=by rw [a]; exact Bool.false_ne_true
    rw [if_neg a']
    exact congrArg some e
theorem ObjM.look {h:Heap} {x dx C:Addr} {mA:Str→Option Value} (I:ObjM h x dx C mA):∃ od,PySem.W.InstAt h x (PySem.W.instObj C dx) C (some od)∧∀ name,PySem.W.lookIn name od = some (mA name) :=
  let ⟨od,ho,hl⟩:=pS I.ns
  ⟨od,⟨I.obj,rfl,rfl,ho⟩,hl⟩
section
variable {prog:Program} {w:World} {A:Around} {E:Value→Shared→Prop} {s:Shared} {K:PySem.W.Frag} {x dx C f:Addr} {mA:Str→Option Value} {name:Str} {v:Value}
end
theorem RelO.some_of {v:V} {o:Option Value} (r:RelO (some v) o):∃ u,o = some u∧RelV v u:=by
  cases o with
  | none=>exact (show False from r).elim
  | some u=>exact ⟨u,rfl,r⟩
section
variable {P:Program} {w:World} {H H':Hp} {h h':Heap} {a C dx:Addr} {fs fs':List (Str×V)}
theorem uM (hok:HOk P w H h) (e:H a = some (.ins C dx fs)):∃ mA,ObjM h a dx C mA∧(∀ f,RelO (fs.lookup f) (mA f))∧PySem.Within mA (fs.map (·.1))∧fs.length≤1000∧H dx = some (.own a):=by
  obtain ⟨d,z,ne,ob,mA,n,r,q⟩:=(show ObjOk P w H h a (.ins C dx fs) from hok a _ e)
  exact ⟨mA,⟨ob,n,ne⟩,r,q,z,d⟩
end
structure Cls (K:PySem.W.Frag) (C:Addr):Prop where
  pg:PySem.W.plainGet K C Str.empty = true
  hd:PySem.W.hasDictIn K C = true
  po:PySem.W.plainOver K C = true
  sa:PySem.W.findIn K (.ref C) "__setattr__" = some (some (.builtin "object.__setattr__"))
theorem Cls.get {K:PySem.W.Frag} {C:Addr} (c:Cls K C) (f:Str):PySem.W.plainGet K C f = true:=c.pg
structure Con (K:PySem.W.Frag) (C:Addr) (f:Str) (v:V) (u:Value):Prop where
  at_:PySem.W.findIn K (.ref C) f = some (some u)
  rel:RelV v u
  get:PySem.W.specialIn K u "__get__" = some none
  cp:PySem.W.copiedNames.contains f = false
structure Meth (K:PySem.W.Frag) (C:Addr) (m:Str) (f:Addr):Prop where
  at_:PySem.W.findIn K (.ref C) m = some (some (.ref f))
  fn:PySem.W.isFn K (.ref f) = true
  kp:PySem.W.keepIn K (.ref f) = true
section
variable {X:Cx} {pins:List (Addr×Obj)} {σ:St} {H:Hp} {s:Shared} {a C dx:Addr} {fs:List (Str×V)} {f:Str} {v:V} {A:Around} {E:Value→Shared→Prop}
end
section
variable {X:Cx} {o e value:Expr} {f:Str} {pos pos' tpos:Pos} {ta tv:TE}
end
section
variable {X:Cx} {pins:List (Addr×Obj)} {σ:St} {H:Hp} {s:Shared} {A:Around} {E:Value→Shared→Prop} {Q:Value→Shared→Prop} {c:Value} {b:Bool}
inductive TyOf (K:PySem.W.Frag) (H:Hp):V→Value→Prop where
  | non:TyOf K H .non (.type "NoneType")
  | bl (x:Bool):TyOf K H (.bl x) (.type "bool")
  | int (i:Int):TyOf K H (.int i) (.type "int")
  | str (x:Str):TyOf K H (.str x) (.type "str")
  | flt (x:UInt64):TyOf K H (.flt x) (.type "float")
  | lst {a:Addr} {xs:List V} (e:H a = some (.lst xs)):TyOf K H (.ref a) (.type "list")
  | frz {a:Addr} {o:Obj} {xs:List V} (e:H a = some (.frz o (.lst xs))):TyOf K H (.ref a) (.type "list")
  | tup {a:Addr} {xs:List V} (e:H a = some (.tup xs)):TyOf K H (.ref a) (.type "tuple")
  | dK {a:Addr} {kvs:List (Key×V)} (e:H a = some (.dK kvs)):TyOf K H (.ref a) (.type "dict")
  | dT {a:Addr} {kvs:List (List Key×V)} (e:H a = some (.dT kvs)):TyOf K H (.ref a) (.type "dict")
  | ins {a C dx:Addr} {fs:List (Str×V)} (e:H a = some (.ins C dx fs)) (cl:Cls K C) (ha:PySem.W.findIn K (.ref C) "__class__" = some (some (.builtin "object.__class__")))
      (hn:PySem.W.specialIn K (.builtin "object.__class__") "__get__" = some (some (.builtin "getset_descriptor.__get__"))) (htk:PySem.W.takesIn K (.builtin "object.__class__") = some true)
      (hm:PySem.W.mroIn K C (.type "object") = some true):TyOf K H (.ref a) (.ref C)
end
end L2
namespace L2
open PySem PySem.Spec PyProof.Rows
structure Room (k:Nat) (A:Around):Prop where
  hd:A.handled = none
  dp:A.depth + 3 * k + 5 < recursionLimit
  un:A.units + 16 * k + 200 < cLine
theorem Room.mono {j k:Nat} {A:Around} (r:Room k A) (h:j≤k):Room j A:=⟨r.hd,by have:=r.dp; omega,by have:=r.un; omega⟩
theorem Room.deeper {k:Nat} {A:Around} (r:Room (k + 1) A) (env:Env):Room k (A.deeper env) :=
  ⟨r.hd,by have:=r.dp; show A.depth + 1 + 3 * k + 5 < _; omega,by have:=r.un; show A.units + 3 + 16 * k + 200 < _; omega⟩
theorem Room.depth {k:Nat} {A:Around} (r:Room k A):A.depth < recursionLimit:=by have:=r.dp; omega
theorem Room.units {k:Nat} {A:Around} (r:Room k A):A.units + 64 < cLine:=by have:=r.un; omega
def xI:TA:=fun _ H Q=>Q [] H
def nW (ta:TE) (tr:TA):TA:=fun σ H Q=>ta σ H fun x H1=>tr σ H1 fun xs H2=>Q (x :: xs) H2
section
variable {X:Cx} {e:Expr} {es:List Expr} {te:TE} {t:TA} {pos:Pos}
theorem ae:PA X [] xI:=fun _ _ _ _ H Q I h=>Calls.spliced_nil ⟨[],H,I,.nil,h⟩
theorem aa (ha:PE X e te) (hr:PA X es t) (hs:starEach (e :: es) X.env = (false,eval e X.env) :: starEach es X.env:=by rfl):PA X (e :: es) (nW te t):=by
  intro pos pins s σ H Q I h
  rw [hs]
  show wpAny _ _ (spliced ((false,eval e X.env) :: backTo pos (starEach es X.env))) _ _ s
  refine Calls.spliced_cons (thn (ha pins s σ H _ I h) fun u s1 ⟨x,H1,I1,r1,q1⟩=>?_)
  exact thn (hr pos pins s1 σ H1 _ I1 q1) fun us s2 ⟨xs,H2,I2,r2,q2⟩=>⟨x :: xs,H2,I2,.cons r1 r2,q2⟩
def zg (t:TA):TE:=fun σ H Q=>t σ H fun xs H1=>xs.length≤sizeLine∧∀ p,H1 p = none→Q (.ref p) (upd H1 p (.tup xs))
def vX (t:TA):TE:=fun σ H Q=>t σ H fun xs H1=>xs.length≤sizeLine∧∀ p,H1 p = none→Q (.ref p) (upd H1 p (.lst xs))
theorem bX {x1} (h:PA X es t):PE X (.Tuple es x1 pos) (zg t):=by
  intro pins s σ H Q I hq
  refine wpAny_Tuple_spliced (thn (h pos pins s σ H _ I hq) fun us s1 ⟨xs,H1,I1,r,z,q⟩=>⟨by rw [← r.length]; exact z,?_⟩)
  have hf:H1 s1.heap.objs.size = none:=I1.hok.fresh (Nat.le_refl _)
  refine ⟨.ref s1.heap.objs.size,upd H1 s1.heap.objs.size (.tup xs),I1.laid (t':=s1.toks) (fun b u e=>Heap.get?_push_of_some _ e) (Nat.le_refl _) ?_,rfl,q _ hf⟩
  exact ⟨z,us,r,⟨_,Heap.get?_push_size _ rfl,rfl,_,rfl⟩⟩
theorem dN (h:PA X es t):PE X (.List es pos) (vX t):=by
  intro pins s σ H Q I hq
  refine wpAny_List_spliced (thn (h pos pins s σ H _ I hq) fun us s1 ⟨xs,H1,I1,r,z,q⟩=>⟨by rw [← r.length]; exact z,?_⟩)
  have hf:H1 s1.heap.objs.size = none:=I1.hok.fresh (Nat.le_refl _)
  refine ⟨.ref s1.heap.objs.size,upd H1 s1.heap.objs.size (.lst xs),I1.laid (t':=s1.toks) (fun b u e=>Heap.get?_push_of_some _ e) (Nat.le_refl _) ?_,rfl,q _ hf⟩
  exact ⟨z,us,0,r,Heap.get?_push_size _ rfl⟩
end
abbrev Sp:=List V→Hp→VK→XK→Prop
abbrev CXT:=List Env→Hp→Shared→XK→Value→Shared→Prop
structure Env0 (P:Program) (w:World) (K:PySem.W.Frag) (mg:Str→Option Value) (base:Heap) (A:Around) (outer:List Env) (s:Shared) (H:Hp):Prop where
  frames:A.frames = some outer
  mod:Mod K mg base
  bs:∀ b o,base.get? b = some o→s.heap.get? b = some o∧H b = none
  bsz:base.objs.size≤s.heap.objs.size
  funs:s.heap.FunFrames base outer
  frf:∀ b ∈ frs outer,H b = none
  hok:HOk P w H s.heap
  bare:AllBare s.gens
def CE (outer:List Env) (P:Program) (w:World) (H:Hp) (s:Shared) (Q:VK) (u:Value) (s':Shared):Prop :=
  ∃ v H',s'.os = s.os∧AllBare s'.gens∧Un (frs outer) [] H H' s.heap s'.heap∧HOk P w H' s'.heap∧RelV v u∧Q v H'
def CR (CX:CXT) (outer:List Env) (P:Program) (w:World) (H:Hp) (s:Shared) (Q:VK) (E:XK) (r:Result) (s':Shared):Prop :=
  match r with
  | .ok (.ret u)=>CE outer P w H s Q u s'
  | .ok _=>False
  | .error e=>CX outer H s E e s'
structure FnOk (P:Program) (w:World) (K:PySem.W.Frag) (mg:Str→Option Value) (base:Heap) (CX:CXT) (k:Nat) (f:Addr) (fd:FuncData) (ps:List Str) (sp:Sp):Prop where
  len:∀ vs H Q E,sp vs H Q E→vs.length = ps.length
  run:∀ (A:Around) (outer:List Env) (s:Shared) (H:Hp) (args:Args) (us:List Value) (vs:List V) (Q:VK) (E:XK),Room k A→Env0 P w K mg base A outer s H→BindsTo s fd args (ps.zip us)→Vals vs us→sp vs H Q E →
    codeAny (model P w) A (.call (.ref f) args) (CR CX outer P w H s Q E) s
theorem FnOk.mono {P:Program} {w:World} {K:PySem.W.Frag} {mg:Str→Option Value} {base:Heap} {CX:CXT} {j k:Nat} {f:Addr} {fd:FuncData} {ps:List Str} {sp:Sp} (F:FnOk P w K mg base CX j f fd ps sp) (h:j≤k) :
    FnOk P w K mg base CX k f fd ps sp:=⟨F.len,fun A outer s H args us vs Q E hr=>F.run A outer s H args us vs Q E (hr.mono h)⟩
theorem FnOk.imp {P:Program} {w:World} {K:PySem.W.Frag} {mg:Str→Option Value} {base:Heap} {CX:CXT} {k:Nat} {f:Addr} {fd:FuncData} {ps:List Str} {sp sp':Sp} (F:FnOk P w K mg base CX k f fd ps sp)
    (h:∀ vs H Q E,sp' vs H Q E→sp vs H Q E):FnOk P w K mg base CX k f fd ps sp' :=
  ⟨fun vs H Q E q=>F.len vs H Q E (h _ _ _ _ q),fun A outer s H args us vs Q E hr he hb hv hs=>F.run A outer s H args us vs Q E hr he hb hv (h _ _ _ _ hs)⟩
theorem Env0.in1 {P:Program} {w:World} {K:PySem.W.Frag} {mg:Str→Option Value} {base:Heap} {A:Around} {outer:List Env} {s:Shared} {H:Hp} (e:Env0 P w K mg base A outer s H) :
    Env0 P w K mg base A.in1 outer s H:=⟨e.frames,e.mod,e.bs,e.bsz,e.funs,e.frf,e.hok,e.bare⟩
section
variable {X:Cx} {pins:List (Addr×Obj)} {σ:St} {H:Hp} {s s':Shared}
theorem Inv.env0 (I:Inv X pins σ H s):Env0 X.prog X.w X.K X.mg X.base X.A X.stack s H :=
  ⟨I.ok.frames,I.ok.mod,I.bs,Nat.le_trans I.ok.bsz I.sz,I.stack,I.stkFree,I.hok,I.bare⟩
theorem Inv.after {Q:VK} {u:Value} (I:Inv X pins σ H s) (h:CE X.stack X.prog X.w H s Q u s'):EP X pins σ Q u s':=by
  obtain ⟨v,H',os,bare,un,hok,r,q⟩:=h
  obtain ⟨hh,g,d,t,os'⟩:=s'
  obtain rfl:os' = s.os:=os
  exact ⟨v,H',I.call (h':=hh) (g':=g) (d':=d) (t':=t) (ch:=[]) un hok bare (fun b z=>absurd z (by simp)),r,q⟩
end
def vM (sp:Sp) (dvs:List V) (E:XK) (t:TA):TE:=fun σ H Q=>t σ H fun vs H1=>sp (vs ++ dvs) H1 Q E
def Binds (K:PySem.W.Frag) (fd:FuncData) (ps:List Str) (ds:List Value):Prop :=
  ∀ (s:Shared) (us:List Value),K.In s.heap→(us ++ ds).length = ps.length→BindsTo s fd ⟨us,[]⟩ (ps.zip (us ++ ds))
theorem Binds.all {K:PySem.W.Frag} {fd:FuncData} {ps:List Str} (h:∀ us:List Value,us.length = ps.length→bindArgs fd ⟨us,[]⟩ = pure (ps.zip us)):Binds K fd ps []:=fun s us _ hl=>by
  rw [List.append_nil] at hl ⊢
  exact .of_eq (h us hl)
def jB (CX:CXT) (X:Cx) (E:XK):Prop:=∀ (pins:List (Addr×Obj)) (σ:St) (H:Hp) (s:Shared) (e:Value) (s':Shared),Inv X pins σ H s→CX X.stack H s E e s'→X.xe e s'
section
variable {X:Cx} {CX:CXT} {k:Nat} {f C:Addr} {fd:FuncData} {ps:List Str} {sp:Sp} {dvs:List V} {ds:List Value} {E:XK} {x m:Str} {p pos apos:Pos} {e o:Expr} {es:List Expr} {ta:TE} {t:TA}
theorem sQ {pins:List (Addr×Obj)} {σ:St} {H:Hp} {s:Shared} {Q:VK} {us:List Value} {vs:List V} (F:FnOk X.prog X.w X.K X.mg X.base CX k f fd ps sp) (hr:Room k X.A) (hb:Binds X.K fd ps ds) (hd:Vals dvs ds) (hx:jB CX X E)
    (I:Inv X pins σ H s) (r:Vals vs us) (h:sp (vs ++ dvs) H Q E):wpAny (model X.prog X.w) X.A (call (.ref f) us) (EP X pins σ Q) X.xe s:=by
  have r2:Vals (vs ++ dvs) (us ++ ds):=r.append hd
  have hl:(us ++ ds).length = ps.length:=by rw [← r2.length]; exact F.len _ _ _ _ h
  refine wpAny_call (codeAny_mono (F.run X.A X.stack s H ⟨us,[]⟩ (us ++ ds) (vs ++ dvs) Q E hr I.env0 (hb s us I.kIn hl) r2 h) fun r s' hq=>?_)
  cases r with
  | error e=>exact hx pins σ H s e s' I hq
  | ok fl =>
    cases fl with
    | ret u=>exact I.after hq
    | next=>exact False.elim hq
    | brk=>exact False.elim hq
    | cont=>exact False.elim hq
theorem au (F:FnOk X.prog X.w X.K X.mg X.base CX k f fd ps sp) (hr:Room k X.A) (hg:Gl X x) (hm:X.mg x = some (.ref f)) (hk:PySem.W.keepIn X.K (.ref f) = true) (hb:Binds X.K fd ps ds) (hd:Vals dvs ds) (hx:jB CX X E)
    (ha:PA X (e :: es) t) (hdb:(x == ("__debug__" : Str)) = false:=by decide) (he:starEach (e :: es) X.env = (false,eval e X.env) :: starEach es X.env:=by rfl) (hpl:(backTo pos (starEach es X.env)).any (·.1) = false:=by rfl) :
    PE X (.Call (.Name x p) (e :: es) [] pos) (vM sp dvs E t):=by
  intro pins s σ H Q I h
  refine wpAny_Call_Name_kw (fV I hg hm ?_ hdb)
  refine PySem.W.callWith_K (h₀:=X.base) I.ok.mod.kin hk (thn (ha pos pins s σ H _ I h) fun us s1 ⟨vs,H1,I1,r,q⟩=>⟨I1.kIn,?_⟩) he hpl
  exact sQ F hr hb hd hx I1 r q
structure Mk (K:PySem.W.Frag) (C f:Addr):Prop where
  makes:PySem.W.makesIn K C = true
  init:PySem.W.findIn K (.ref C) "__init__" = some (some (.ref f))
  fn:PySem.W.isFn K (.ref f) = true
  kp:PySem.W.keepIn K (.ref C) = true
end
section
variable {X:Cx} {CX:CXT} {k:Nat} {f C:Addr} {fd:FuncData} {ps ks:List Str} {sp:Sp} {E:XK} {x m:Str} {p pos apos kpos:Pos} {e o:Expr} {es:List Expr} {kws:List Keyword} {te ta:TE} {t tk:TA} {nm:Option Str}
structure KBinds (K:PySem.W.Frag) (fd:FuncData) (ps ks:List Str) (g:List Value→List Value→List Value) (gV:List V→List V→List V):Prop where
  to:∀ (s:Shared) (us ws:List Value),K.In s.heap→(g us ws).length = ps.length→BindsTo s fd ⟨us,ks.zip ws⟩ (ps.zip (g us ws))
  rel:∀ {vs:List V} {us:List Value} {zs:List V} {ws:List Value},Vals vs us→Vals zs ws→Vals (gV vs zs) (g us ws)
variable {g:List Value→List Value→List Value} {gV:List V→List V→List V}
end
structure FnScope (N P:List Str) (sc:Scope):Prop where
  kind:sc.kind = .function
  co:sc.isCoroutine = false
  gen:sc.isGenerator = false
  nd:N.Nodup
  pre:N.take P.length = P
  par:∀ x ∈ P,sc.names.lookup x = some .local∨sc.names.lookup x = some .cell
  nofree:∀ y ∈ sc.names,y.2≠.free
theorem kB {kindOf:Str→Option NameKind} {x:Str}:∀ {binds:List (Str×Value)} {m:Str→Option Value},(∀ v,(x,v) ∉ binds)→bindL kindOf binds m x = m x
  | [],_,_=>rfl
  | (n,v) :: r,m,h=>by
    unfold bindL
    rw [kB fun w hw=>h w (List.mem_cons_of_mem _ hw)]
    split
    · have:x≠n:=by rintro rfl; exact h v List.mem_cons_self
      simp [this]
    · rfl
theorem ka {kindOf:Str→Option NameKind} {x:Str}:∀ {binds:List (Str×Value)} {m:Str→Option Value},(∀ v,(x,v) ∉ binds)→bindC kindOf binds m x = m x
  | [],_,_=>rfl
  | (n,v) :: r,m,h=>by
    unfold bindC
    rw [ka fun w hw=>h w (List.mem_cons_of_mem _ hw)]
    split
    · rfl
    · have:x≠n:=by rintro rfl; exact h v List.mem_cons_self
      simp [this]
theorem jY {kindOf:Str→Option NameKind} {x:Str} {v:Value}:∀ {P:List Str} {vs:List Value} {i:Nat} {m:Str→Option Value},P.Nodup→P[i]? = some x→vs[i]? = some v→kindOf x = some .local →
    bindL kindOf (P.zip vs) m x = some v
  | [],_,_,_,_,h,_,_=>by simp at h
  | _ :: _,[],_,_,_,_,h,_=>by simp at h
  | p :: P,w :: vs,0,m,nd,h1,h2,hk=>by
    simp at h1 h2; subst h1; subst h2
    show bindL kindOf ((p,w) :: P.zip vs) m p = _
    unfold bindL
    rw [kB fun v hv=>(List.nodup_cons.mp nd).1 (List.of_mem_zip hv).1,if_pos hk]
    simp
  | p :: P,w :: vs,i + 1,m,nd,h1,h2,hk=>by
    show bindL kindOf ((p,w) :: P.zip vs) m x = _
    unfold bindL
    exact jY (i:=i) (List.nodup_cons.mp nd).2 (by simpa using h1) (by simpa using h2) hk
theorem ku {kindOf:Str→Option NameKind} {x:Str} {v:Value}:∀ {P:List Str} {vs:List Value} {i:Nat} {m:Str→Option Value},P.Nodup→P[i]? = some x→vs[i]? = some v→kindOf x≠some .local →
    bindC kindOf (P.zip vs) m x = some v
  | [],_,_,_,_,h,_,_=>by simp at h
  | _ :: _,[],_,_,_,_,h,_=>by simp at h
  | p :: P,w :: vs,0,m,nd,h1,h2,hk=>by
    simp at h1 h2; subst h1; subst h2
    show bindC kindOf ((p,w) :: P.zip vs) m p = _
    unfold bindC
    rw [ka fun v hv=>(List.nodup_cons.mp nd).1 (List.of_mem_zip hv).1,if_neg hk]
    simp
  | p :: P,w :: vs,i + 1,m,nd,h1,h2,hk=>by
    show bindC kindOf ((p,w) :: P.zip vs) m x = _
    unfold bindC
    exact ku (i:=i) (List.nodup_cons.mp nd).2 (by simpa using h1) (by simpa using h2) hk
def start (N:List Str) (vs:List V):St:=vs.map some ++ List.replicate (N.length - vs.length) none
def gv (CX:CXT) (P:Program) (w:World) (K:PySem.W.Frag) (mg:Str→Option Value) (base:Heap) (N:List Str) (qual:Str) (scope:Scope) (f:Addr) (cd:Value) (A:Around) (outer:List Env) (s:Shared) (H:Hp) (E:XK):Cx where
  prog:=P
  w:=w
  K:=K
  mg:=mg
  base:=base
  A:=A.deeper (envOfC qual scope s.heap.objs.size f cd)
  N:=N
  s₀:=s
  H₀:=H
  env:=envOfC qual scope s.heap.objs.size f cd
  outer:=outer
  stack:=envOfC qual scope s.heap.objs.size f cd :: outer
  ex:=[]
  calm:=true
  fn:=fun _=>true
  pn:=[]
  xe:=fun e s'=>wpAny (model P w) (A.deeper (envOfC qual scope s.heap.objs.size f cd)) (leaving (envOfC qual scope s.heap.objs.size f cd) e) (fun _ s''=>CX outer H s E e s'') (fun e' s''=>CX outer H s E e' s'') s'
theorem lG {sc:Scope} {n:Nat} {x:Str} (h:sc.names.lookup x = some .cell):∃ c,(cellsFrom n sc.names []).lookup x = some c:=by
  have q:=PySem.W.cellsFrom_some sc.names n [] (.inl h)
  exact Option.isSome_iff_exists.mp q
theorem iu {CX:CXT} {P:Program} {w:World} {K:PySem.W.Frag} {mg:Str→Option Value} {base:Heap} {N ps:List Str} {qual:Str} {scope:Scope} {f:Addr} {cd:Value} {A:Around} {outer:List Env} {s s1:Shared} {H:Hp} {E:XK} {us:List Value} {vs:List V}
    (S:FnScope N ps scope) (hd:A.handled = none) (e0:Env0 P w K mg base A outer s H) (hl:vs.length = ps.length) (r:Vals vs us)
    (x:InCallC s s.heap.objs.size (bindL (envOfC qual scope s.heap.objs.size f cd).kindOf (ps.zip us) fun _=>none) (cellsFrom (s.heap.objs.size + 1) scope.names []) (bindC (envOfC qual scope s.heap.objs.size f cd).kindOf (ps.zip us) fun _=>none) s1) :
    Inv (gv CX P w K mg base N qual scope f cd A outer s H E) [] (start N vs) H s1:=by
  have hpl:ps.length≤N.length:=by have:=congrArg List.length S.pre; rw [List.length_take] at this; omega
  obtain ⟨h1,tk,rfl,hk⟩:=x.done
  have noA:∀ b:Addr,b ∉ (gv CX P w K mg base N qual scope f cd A outer s H E).ex:=fun b z=>absurd (show b ∈ ([]:List Addr) from z) (by simp)
  refine ⟨⟨e0.mod,S.kind,rfl,rfl,Nat.le_refl _,fun y z c h1 h2=>?_,fun y hy=>?_,fun y c _ h=>?_,fun _=>hd,Around.frames_deeper e0.frames,.inr ⟨rfl,rfl⟩,fun b z=>absurd z (noA b),e0.bs,e0.bsz,fun b _ _=>noA b,fun b z=>absurd z (noA b),e0.funs,e0.frf⟩,
    rfl,e0.bare,Un.kept hk,⟨_,x.toInCall.ns,fun i y v h1 h2 h3=>?_⟩,fun y c h=>⟨_,x.cell y c h⟩,e0.hok.fresh (Nat.le_refl _),fun y c h=>?_,fun p hp=>absurd (show p ∈ ([]:List (Addr×Obj)) from hp) (by simp),e0.hok.kept hk,?_⟩
  · exact name_of_addr x.apart (PySem.mem_of_lookup h1) (PySem.mem_of_lookup h2)
  · have hy:scope.names.lookup y = some .cell∨scope.names.lookup y = some .free:=hy
    rcases hy with hy | hy
    · exact lG hy
    · exact absurd rfl (S.nofree _ (PySem.mem_of_lookup hy))
  · exact Nat.le_of_lt (x.above y c (PySem.mem_of_lookup h))
  · have hi:i < vs.length:=by
      unfold start at h2
      by_cases hi:i < vs.length
      · exact hi
      · rw [List.getElem?_append_right (by simpa using hi)] at h2
        rw [List.getElem?_replicate] at h2
        split at h2 <;> cases h2
    have ha:vs[i]? = some v:=by
      unfold start at h2
      rw [List.getElem?_append_left (by simpa using hi),List.getElem?_map] at h2
      cases e:vs[i]? with
      | none=>rw [e] at h2; cases h2
      | some a=>rw [e] at h2; cases h2; rfl
    obtain ⟨u,hu,rv⟩:=r.get ha
    have hp:ps[i]? = some y:=by
      rw [← S.pre,List.getElem?_take_of_lt (by omega)]; exact h1
    have ndP:ps.Nodup:=by rw [← S.pre]; exact S.nd.sublist (List.take_sublist _ _)
    refine ⟨u,rv,?_⟩
    rcases S.par y (List.mem_of_getElem? hp) with k | k
    · exact .inl ⟨k,jY ndP hp hu k⟩
    · obtain ⟨c,e⟩:=lG (n:=s.heap.objs.size + 1) k
      refine .inr ⟨.inl k,c,e,?_⟩
      have q:=x.cell y c e
      rw [ku ndP hp hu (by show scope.names.lookup y≠_; rw [k]; decide)] at q
      exact q
  · exact e0.hok.fresh (Nat.le_of_lt (x.above y c (PySem.mem_of_lookup h)))
  · unfold start
    show _ = N.length
    rw [List.length_append,List.length_map,List.length_replicate]
    omega
theorem vH {CX:CXT} {P:Program} {w:World} {K:PySem.W.Frag} {mg:Str→Option Value} {base:Heap} {k:Nat} {f:Addr} {name qual:Str} {params:Arguments} {body:List Stmt} {scope:Scope} {dV kV doc pm cdv ct oc:Value} {an od:Option Addr}
    {osl:Array (Option Value)} {N ps:List Str} {sp:Sp} (lk:K.lookup f = some ⟨oc,od,.func (PySem.W.fnOf name qual params body scope dV kV doc pm an cdv ct),osl⟩) (hcd:PySem.W.codeIn K cdv qual = true) (S:FnScope N ps scope)
    (len:∀ vs H Q E,sp vs H Q E→vs.length = ps.length)
    (hbody:∀ (A:Around) (outer:List Env) (s:Shared) (H:Hp) (vs:List V) (Q:VK) (E:XK),Room k (A.deeper (envOfC qual scope s.heap.objs.size f cdv))→sp vs H Q E →
      ∃ t,PSs (gv CX P w K mg base N qual scope f cdv A outer s H E) body t∧t { nx:=fun _ H'=>Q .non H',rt:=Q } (start N vs) H) :
    FnOk P w K mg base CX (k + 1) f (PySem.W.fnOf name qual params body scope dV kV doc pm an cdv ct) ps sp:=by
  refine ⟨len,fun A outer s H args us vs Q E hr e0 hb r hsp=>?_⟩
  have hl:=len _ _ _ _ hsp
  have KX:K.In s.heap:=e0.mod.kin.keeps fun b o e=>(e0.bs b o e).1
  have lim:s.heap.NoLimit:=e0.mod.nolimit.keeps fun b o e=>(e0.bs b o e).1
  have hkind:∀ y ∈ ps.zip us,scope.names.lookup y.1 = some .local∨(scope.names.lookup y.1 = some .cell∧((cellsFrom (s.heap.objs.size + 1) scope.names []).lookup y.1).isSome = true):=fun ⟨n,v⟩ hy=>by
    rcases S.par n (List.of_mem_zip hy).1 with q | q
    · exact .inl q
    · exact .inr ⟨q,PySem.W.cellsFrom_some _ _ _ (.inl q)⟩
  refine codeAny_call_function hr.depth (KX _ _ lk) rfl S.co S.gen rfl (PySem.W.codeRec_of KX hcd) (hb _ _ _ _ ?_)
  refine wpAny_newFunctionEnv_cells S.kind hkind fun env he s1 x=>?_
  subst he
  refine ⟨lim.keeps x.toInCall.keep,codeAny_func ?_⟩
  obtain ⟨t,ht,hq⟩:=hbody A outer s H vs Q E (hr.deeper _) hsp
  have I:Inv (gv CX P w K mg base N qual scope f cdv A outer s H E) [] (start N vs) H s1:=iu S hr.hd e0 hl r x
  refine wpAny_mono (ht [] s1 (start N vs) H _ I hq) (fun fl s' hs=>?_) fun e s' hs=>hs
  have fin:∀ {σ':St} {H':Hp} {v:V} {u:Value},Inv (gv CX P w K mg base N qual scope f cdv A outer s H E) [] σ' H' s'→RelV v u→Q v H'→CE outer P w H s Q u s' :=
    fun {σ' H' v u} J rv q=>⟨v,H',J.os,J.bare,J.base,J.hok,rv,q⟩
  cases fl with
  | ret u =>
    obtain ⟨v,σ',H',J,rv,q⟩:=hs
    exact fin J rv q
  | next =>
    obtain ⟨σ',H',J,q⟩:=hs
    exact fin (v:=V.non) (u:=Value.none) J rfl q
  | brk =>
    obtain ⟨_,_,_,q⟩:=hs
    exact False.elim q
  | cont =>
    obtain ⟨_,_,_,q⟩:=hs
    exact False.elim q
end L2
namespace L2
open PySem PySem.Spec PyProof.Rows
section
variable {X:Cx} {x:Str} {p pos:Pos} {e:Expr} {es:List Expr} {t:TA} {id T:String} {r:List V→Hp→VK→Prop}
def tCB (r:List V→Hp→VK→Prop) (t:TA):TE:=fun σ H Q=>t σ H fun vs H1=>r vs H1 Q
theorem av (hc:CallR X (.builtin id) r) (hg:Gl X x) (hm:X.mg x = none) (hv:bootBuiltins x = some (.builtin id)) (ha:PA X (e :: es) t) (hn:x ≠ "__name__" := by decide) (hdb:(x == ("__debug__" : Str)) = false:=by decide)
    (he:starEach (e :: es) X.env = (false,eval e X.env) :: starEach es X.env:=by rfl) (hpl:(backTo pos (starEach es X.env)).any (·.1) = false:=by rfl):PE X (.Call (.Name x p) (e :: es) [] pos) (tCB r t):=by
  intro pins s σ H Q I h
  refine wpAny_Call_Name_kw (gr I hg hm hv ?_ hn hdb)
  exact PyProof.Rows.callWith_builtin1 (thn (ha pos pins s σ H _ I h) fun us s1 ⟨vs,H1,I1,r1,q1⟩=>hc pins s1 σ H1 vs us Q I1 r1 q1) he hpl
theorem df (hc:CallR X (.type T) r) (hg:Gl X x) (hm:X.mg x = none) (hv:bootBuiltins x = some (.type T)) (ha:PA X (e :: es) t) (hn:x ≠ "__name__" := by decide) (hdb:(x == ("__debug__" : Str)) = false:=by decide)
    (he:starEach (e :: es) X.env = (false,eval e X.env) :: starEach es X.env:=by rfl) (hpl:(backTo pos (starEach es X.env)).any (·.1) = false:=by rfl):PE X (.Call (.Name x p) (e :: es) [] pos) (tCB r t):=by
  intro pins s σ H Q I h
  refine wpAny_Call_Name_kw (gr I hg hm hv ?_ hn hdb)
  exact PyProof.Rows.callWith_type1 (thn (ha pos pins s σ H _ I h) fun us s1 ⟨vs,H1,I1,r1,q1⟩=>hc pins s1 σ H1 vs us Q I1 r1 q1) he hpl
end
end L2
namespace HT
open PySem PyProof.Rows
section
open PySem.SeqAt
open PySem.AutoSeq1 (wpAny_loadPart')
open PySem.MeetsSeq PySem.MeetsSeq2 PySem.MeetsSeq3
end
section
variable {prog:Program} {w:World} {A:Around} {E:Value→Shared→Prop} {s:Shared}
theorem cat_tup {t b:Addr} {vs ws:List Value} {Q:Value→Shared→Prop} (ht:IsTup s.heap t vs.toArray) (hb:IsTup s.heap b ws.toArray) (hv:vs≠[])
    (h1:ws = []→Q (.ref t) s) (h2:ws≠[]→Q (.ref s.heap.objs.size) { s with heap:=s.heap.push { cls:=.type "tuple",data:=.seq (vs ++ ws).toArray } })
    (hsz:vs.length + ws.length≤sizeLine):wpAny (model prog w) A (binaryOp .Add (.ref t) (.ref b)) Q E s:=by
  obtain ⟨⟨cls,dd,data,sl⟩,ho,hc,n,hd⟩:=id ht
  obtain ⟨⟨cls2,dd2,data2,sl2⟩,ho2,hc2,n2,hd2⟩:=id hb
  simp only at hc hd hc2 hd2
  subst hc hd hc2 hd2
  have e:vs.toArray ++ ws.toArray = (vs ++ ws).toArray:=by simp
  by_cases hw:ws = []
  · exact concat_meets ⟨_,ho,rfl⟩ ⟨_,ho2,rfl⟩ noFill_tuple_add seq_tuple_add PySem.F.slot_tuple_add PySem.F.entry_tuple_add (PySem.F.args_tuple_add_2 _ _)
      (tuple_addW1 t b vs.toArray ws.toArray n n2 dd dd2 sl sl2 (by simpa using hv) (by simp [hw])) ⟨ho,ho2,h1 hw⟩
  · refine concat_meets ⟨_,ho,rfl⟩ ⟨_,ho2,rfl⟩ noFill_tuple_add seq_tuple_add PySem.F.slot_tuple_add PySem.F.entry_tuple_add (PySem.F.args_tuple_add_2 _ _)
      (tuple_addW2 t b vs.toArray ws.toArray n n2 dd dd2 sl sl2 (by simpa using hv) (by simpa using hw) (by rw [List.size_toArray,List.size_toArray]; exact hsz)) ⟨ho,ho2,?_⟩
    rw [e]
    exact h2 hw
def sIx (n d:Nat):Option Int→Nat
  | none=>d
  | some v=>if v < 0 then (v + (n:Int)).toNat else min v.toNat n
theorem wX (n d:Nat) (hd:d≤n) (o:Option Int):sIx n d o≤n:=by
  cases o with
  | none=>exact hd
  | some v =>
    show (if v < 0 then (v + (n:Int)).toNat else min v.toNat n)≤n
    by_cases hv:v < 0
    · rw [if_pos hv]; omega
    · rw [if_neg hv]; exact Nat.min_le_right _ _
theorem oR (v:Int) (n d:Nat):(if v < 0 then max (v + (n:Int)) 0 else min v (n:Int)) = ((sIx n d (some v):Nat):Int):=by
  show (if v < 0 then max (v + (n:Int)) 0 else min v (n:Int)) = (((if v < 0 then (v + (n:Int)).toNat else min v.toNat n):Nat):Int)
  by_cases hv:v < 0
  · simp only [if_pos hv]; omega
  · simp only [if_neg hv]; omega
theorem nM (lo hi:Option Int) (n:Nat):Builtin.Slice.sliceAdjust lo hi 1 (n:Int) = (((sIx n 0 lo:Nat):Int),((sIx n n hi:Nat):Int)):=by
  have h1:¬ ((1:Int) < 0):=by omega
  unfold Builtin.Slice.sliceAdjust
  simp only [h1,if_false]
  refine Prod.ext ?_ ?_
  · cases lo with
    | none=>rfl
    | some v=>exact oR v n 0
  · cases hi with
    | none=>rfl
    | some v=>exact oR v n n
theorem nC (i j:Nat):Builtin.Slice.slicePlaces (i:Int) (j:Int) 1 = j - i:=by
  unfold Builtin.Slice.slicePlaces
  have h1:(1:Int) > 0:=by omega
  simp only [h1,if_true,Int.ediv_one]
  split <;> omega
theorem ji {v:Value} {o:Option Int} {Q:Option Int→Shared→Prop} (p:IsPart v o) (h:Q o s):wpAny (model prog w) A (Builtin.Slice.slicePartIndex v) Q E s:=by
  cases p with
  | none=>exact slicePart_none h
  | int i t=>exact slicePart_int h
theorem iD {sl:Addr} {vl vu:Value} {lo hi:Option Int} {n:Nat} {Q:Int×Int×Nat→Shared→Prop} (hs:s.heap.IsSliceOf sl vl vu .none) (pl:IsPart vl lo) (pu:IsPart vu hi)
    (h:Q (((sIx n 0 lo:Nat):Int),1,sIx n n hi - sIx n 0 lo) s):wpAny (model prog w) A (Builtin.Slice.sliceApplied (.ref sl) (pure (n:Int))) Q E s:=by
  obtain ⟨os,hos,hcs,hds⟩:=id hs
  unfold Builtin.Slice.sliceApplied Builtin.Slice.sliceFields
  refine wpAny_bind (wpAny_bind (wpAny_field hos hds (x:=vl) rfl (wpAny_bind (wpAny_field hos hds (x:=vu) rfl (wpAny_bind (wpAny_field hos hds (x:=.none) rfl (wpAny_pure ?_)))))))
  refine wpAny_bind (slicePart_none ?_)
  show wpAny _ _ (if ((1:Int) == 0) = true then _ else _) _ _ s
  rw [if_neg (by decide)]
  refine wpAny_bind (ji pl (wpAny_bind (ji pu (wpAny_bind (wpAny_pure ?_)))))
  show wpAny _ _ (match Builtin.Slice.sliceAdjust lo hi 1 (n:Int) with | (lo,hi)=>pure (lo,(1:Int),Builtin.Slice.slicePlaces lo hi 1)) _ _ s
  rw [nM lo hi n]
  show wpAny _ _ (pure (((sIx n 0 lo:Nat):Int),(1:Int),Builtin.Slice.slicePlaces ((sIx n 0 lo:Nat):Int) ((sIx n n hi:Nat):Int) 1)) _ _ s
  rw [nC]
  exact wpAny_pure h
theorem rX (xs:Array Value) (i k:Nat):((List.range k).filterMap fun (m:Nat)=>xs[((i:Int) + (m:Int) * 1).toNat]?).toArray = ((xs.toList.drop i).take k).toArray:=by
  have e:(fun (m:Nat)=>xs[((i:Int) + (m:Int) * 1).toNat]?) = fun m=>xs[i + m]?:=by
    funext m
    have:((i:Int) + (m:Int) * 1).toNat = i + m:=by omega
    rw [this]
  rw [e]
  have:=pick_run xs i k
  rw [List.filterMap_map] at this
  have e2:((fun x=>xs[x]?) ∘ fun x=>i + x) = fun m=>xs[i + m]?:=rfl
  rw [e2] at this
  rw [this]
theorem getItem_tuple_cut {t sl:Addr} {items:Array Value} {vl vu:Value} {lo hi:Option Int} {Q:Value→Shared→Prop} (ht:IsTup s.heap t items) (hs:s.heap.IsSliceOf sl vl vu .none) (pl:IsPart vl lo) (pu:IsPart vu hi)
    (hw:¬ (sIx items.size 0 lo = 0∧sIx items.size items.size hi = items.size))
    (h:Q (.ref s.heap.objs.size) { s with heap:=s.heap.push { cls:=.type "tuple",data:=.seq ((items.toList.drop (sIx items.size 0 lo)).take (sIx items.size items.size hi - sIx items.size 0 lo)).toArray } })
    (hsz:items.size≤sizeLine):wpAny (model prog w) A (getItem (.ref t) (.ref sl)) Q E s:=by
  have htake:sizeOk (.seq ((items.toList.drop (sIx items.size 0 lo)).take (sIx items.size items.size hi - sIx items.size 0 lo)).toArray):=by
    show ((items.toList.drop (sIx items.size 0 lo)).take (sIx items.size items.size hi - sIx items.size 0 lo)).toArray.size≤sizeLine
    rw [List.size_toArray,List.length_take,List.length_drop,Array.length_toList]
    omega
  have hj:sIx items.size items.size hi≤items.size:=wX _ _ (Nat.le_refl _) hi
  obtain ⟨os,hos,hcs,hds⟩:=id hs
  have hTs:s.TypeIs (.ref sl) "slice" := ⟨os,hos,hcs⟩
  unfold getItem
  try with_reducible refine wpAny_holding ?_
  first | refine wpAny_bind (wpAny_pure ?_) | skip
  refine wpAny_bind (wpAny_sequenceKey ht.typeIs (by decide) ?_)
  refine wpAny_bind (wpAny_callSpecial?_slot (name:=Str.ofString "__getitem__") ht.typeIs PyProof.Rows.slot_tuple_getitem
    (wpAny_call_entry PyProof.Rows.slot_tuple_getitem ht.typeIs entry_tuple_getitem ?_ (args_tuple_getitem _ _)))
  show wpAny _ _ (Builtin.Tuple.tupleItemsOf (.ref t) >>= _) _ _ s
  refine wpAny_bind (tupleItemsOf_ ht ?_)
  refine wpAny_bind (wpAny_typeOf hTs ?_)
  rw [if_pos (by decide)]
  refine wpAny_bind (iD hs pl pu ?_)
  have hno:¬ ((((sIx items.size 0 lo:Nat):Int) == 0 && (1:Int) == 1 && (sIx items.size items.size hi - sIx items.size 0 lo) == items.size) = true):=by
    intro q
    rw [Bool.and_eq_true,Bool.and_eq_true] at q
    have q1:((sIx items.size 0 lo:Nat):Int) = 0:=eq_of_beq q.1.1
    have q2:sIx items.size items.size hi - sIx items.size 0 lo = items.size:=eq_of_beq q.2
    exact hw ⟨by omega,by omega⟩
  show wpAny _ _ (if (((sIx items.size 0 lo:Nat):Int) == 0 && (1:Int) == 1 && (sIx items.size items.size hi - sIx items.size 0 lo) == items.size) = true then _ else _) _ _ s
  rw [if_neg hno,rX]
  first
    | exact wpAny_bind (m:=Builtin.Tuple.tupleExact _) (wpAny_newObj_type (wpAny_pure ⟨_,rfl,wpAny_pure h⟩) htake)
    | exact wpAny_bind (m:=Builtin.Tuple.tupleExact _) (wpAny_newObj_type (wpAny_bind (wpAny_pure (wpAny_pure ⟨_,rfl,wpAny_pure h⟩))) htake)
    | exact wpAny_bind (wpAny_bind (m:=Builtin.Tuple.tupleExact _) (wpAny_newObj_type (wpAny_pure (wpAny_pure ⟨_,rfl,wpAny_pure h⟩)) htake))
    | exact wpAny_bind (wpAny_bind (m:=Builtin.Tuple.tupleExact _) (wpAny_newObj_type (wpAny_pure ⟨_,rfl,wpAny_pure h⟩) htake))
end
end HT
namespace L2
open PySem PySem.Spec PyProof.Rows
abbrev TO:=St→Hp→(Option Int→Hp→Prop)→Prop
def PO (X:Cx) (e:Option Expr) (t:TO):Prop :=
  ∀ (pins:List (Addr×Obj)) (s:Shared) (σ:St) (H:Hp) (Q:Option Int→Hp→Prop),Inv X pins σ H s→t σ H Q →
    wpAny (model X.prog X.w) X.A (evalPart e X.env) (fun u s'=>∃ o H',Inv X pins σ H' s'∧IsPart u o∧Q o H') X.xe s
def vk:TO:=fun _ H Q=>Q none H
def ye (t:TE):TO:=fun σ H Q=>t σ H fun x H1=>∃ i,x = .int i∧Q (some i) H1
section
variable {X:Cx} {e:Expr} {te:TE} {lo hi:Option Expr} {tl th:TO} {pos p2:Pos}
theorem og:PO X none vk:=by
  intro pins s σ H Q I h
  rw [evalPart_none]
  exact wpAny_pure ⟨none,H,I,.none,h⟩
theorem oM (h:PE X e te):PO X (some e) (ye te):=by
  intro pins s σ H Q I hw
  rw [evalPart_some]
  refine thn (h pins s σ H _ I hw) fun u s1 ⟨x,H1,I1,r1,q1⟩=>?_
  obtain ⟨i,rfl,q⟩:=q1
  obtain ⟨t,rfl⟩:=r1
  exact ⟨some i,H1,I1,.int i t,q⟩
def SlR (X:Cx) (r:V→Option Int→Option Int→Hp→VK→Prop):Prop :=
  ∀ (pins:List (Addr×Obj)) (s:Shared) (σ:St) (H:Hp) (x:V) (v vl vu:Value) (lo hi:Option Int) (sl:Addr) (Q:VK),Inv X pins σ H s→RelV x v→s.heap.IsSliceOf sl vl vu .none→IsPart vl lo→IsPart vu hi→r x lo hi H Q →
    ∃ T id,typeLookup (.type T) "__getitem__" = pure (some (.builtin id))∧s.TypeIs v T∧wpAny (model X.prog X.w) X.A (getItem v (.ref sl)) (EP X pins σ Q) X.xe s
def tSl (r:V→Option Int→Option Int→Hp→VK→Prop) (te:TE) (tl th:TO):TE:=fun σ H Q=>te σ H fun x H1=>tl σ H1 fun l H2=>th σ H2 fun u H3=>r x l u H3 Q
theorem mf {r:V→Option Int→Option Int→Hp→VK→Prop} (hr:SlR X r) (he:PE X e te) (hl:PO X lo tl) (hu:PO X hi th):PE X (.Subscript e (.Slice lo hi none p2) pos) (tSl r te tl th):=by
  intro pins s σ H Q I h
  refine Subscript_ (thn (he pins s σ H _ I h) fun v s1 ⟨x,H1,I1,r1,q1⟩=>?_)
  refine wpAny_Slice (thn (hl pins s1 σ H1 _ I1 q1) fun vl s2 ⟨l,H2,I2,pl,q2⟩=>thn (hu pins s2 σ H2 _ I2 q2) fun vu s3 ⟨u,H3,I3,pu,q3⟩=>?_)
  rw [evalPart_none]
  refine wpAny_pure ?_
  have I4:Inv X pins σ H3 { s3 with heap:=s3.heap.push { cls:=.type "slice",data:=.fields #[vl,vu,.none] } }:=I3.kept (t':=s3.toks) fun b ob q=>Heap.get?_push_of_some _ q
  obtain ⟨T,id,hT,ht,hg⟩:=hr pins { s3 with heap:=s3.heap.push { cls:=.type "slice",data:=.fields #[vl,vu,.none] } } σ H3 x v vl vu l u s3.heap.objs.size Q I4 r1 (Heap.IsSliceOf.new ..) pl pu q3
  show wpAny (model X.prog X.w) X.A (subscriptTail e (.Slice lo hi none p2) v (.ref s3.heap.objs.size)) (EP X pins σ Q) X.xe { s3 with heap:=s3.heap.push { cls:=.type "slice",data:=.fields #[vl,vu,.none] } }
  exact tail_any (ops:=[.ref s3.heap.objs.size,v]) ht hT hg (by with_unfolding_all rfl)
def kI (xs:List V) (lo hi:Option Int):List V:=(xs.drop (HT.sIx xs.length 0 lo)).take (HT.sIx xs.length xs.length hi - HT.sIx xs.length 0 lo)
theorem iM (xs:List V) (lo hi:Option Int):(kI xs lo hi).length≤xs.length:=by
  unfold kI
  rw [List.length_take,List.length_drop]
  omega
def zf (K:PySem.W.Frag):V→Option Int→Option Int→Hp→VK→Prop:=fun x lo hi H Q=>∃ a xs,x = .ref a∧SqT K H a xs ∧
  ¬ (HT.sIx xs.length 0 lo = 0∧HT.sIx xs.length xs.length hi = xs.length)∧∀ p,H p = none→Q (.ref p) (upd H p (.tup (kI xs lo hi)))
theorem wN:SlR X (zf X.K):=by
  intro pins s σ H x v vl vu lo hi sl Q I rx hs pl pu h
  obtain ⟨a,xs,rfl,hx,hw,q⟩:=h
  cases rx
  obtain ⟨its,r,ht,hz⟩:=I.tuple hx
  have hlen:its.toArray.size = xs.length:=by rw [List.size_toArray]; exact r.length.symm
  refine ⟨"tuple",_,PyProof.Rows.slot_tuple_getitem.lookup,ht.typeIs,?_⟩
  refine HT.getItem_tuple_cut ht hs pl pu (by rw [hlen]; exact hw) ?_ (by rw [hlen]; exact hz)
  rw [hlen]
  refine ⟨.ref s.heap.objs.size,_,I.laid (t':=s.toks) (o:=.tup (kI xs lo hi)) (fun b ob q=>Heap.get?_push_of_some _ q) (Nat.le_refl _) ?_,rfl,q _ (I.hok.fresh (Nat.le_refl _))⟩
  exact ⟨Nat.le_trans (iM xs lo hi) hz,_,(r.drop (HT.sIx xs.length 0 lo)).take (HT.sIx xs.length xs.length hi - HT.sIx xs.length 0 lo),IsTup.new _ _⟩
def vv (K:PySem.W.Frag):R2:=fun x y H Q=>∃ a b xs ys,x = .ref a∧y = .ref b∧SqT K H a xs∧SqT K H b ys∧xs≠[]∧xs.length + ys.length≤sizeLine ∧
  (ys = []→Q (.ref a) H)∧(ys≠[]→∀ p,H p = none→Q (.ref p) (upd H p (.tup (xs ++ ys))))
theorem Vals.nil_iff {xs:List V} {us:List Value} (r:Vals xs us):us = []↔xs = []:=by
  cases r with
  | nil=>simp
  | cons _ _=>simp
theorem oj:OpR X (binaryOp .Add) (vv X.K):=by
  intro pins s σ H x y v u Q I rx ry h
  obtain ⟨a,b,xs,ys,rfl,rfl,ha,hb,hx,hz,q1,q2⟩:=h
  cases rx
  cases ry
  obtain ⟨its,r1,p1,_⟩:=I.tuple ha
  obtain ⟨its2,r2,p2,_⟩:=I.tuple hb
  refine HT.cat_tup p1 p2 (fun z=>hx (r1.nil_iff.mp z)) (fun z=>⟨.ref a,H,I,rfl,q1 (r2.nil_iff.mp z)⟩) (fun z=>?_) (by rw [← r1.length,← r2.length]; exact hz)
  refine ⟨.ref s.heap.objs.size,_,I.laid (t':=s.toks) (o:=.tup (xs ++ ys)) (fun b ob q=>Heap.get?_push_of_some _ q) (Nat.le_refl _) ?_,rfl,q2 (fun w=>z (r2.nil_iff.mpr w)) _ (I.hok.fresh (Nat.le_refl _))⟩
  exact ⟨by rw [List.length_append]; exact hz,_,r1.append r2,IsTup.new _ _⟩
end
end L2
namespace L2
open PySem PySem.Spec PyProof.Rows
def ixN (n:Nat) (i:Int):Option Nat:=if 0≤i then (if i < n then some i.toNat else none) else if -(n:Int)≤i then some (i + n).toNat else none
def atI {α:Type} (xs:List α) (i:Int):Option α:=(ixN xs.length i).bind fun j=>xs[j]?
theorem nU {n:Nat} {i:Int} {j:Nat} (h:ixN n i = some j):seqIndex? i n = some j∧j < n∧-(n:Int)≤i∧i < n:=by
  unfold ixN at h
  by_cases h0:0≤i
  · rw [if_pos h0] at h
    by_cases h1:i < n
    · rw [if_pos h1] at h
      have e:i.toNat = j:=Option.some.inj h
      exact ⟨by rw [seqIndex_of h0 h1,e],by omega,by omega,h1⟩
    · rw [if_neg h1] at h; cases h
  · rw [if_neg h0] at h
    by_cases h1:-(n:Int)≤i
    · rw [if_pos h1] at h
      have e:(i + n).toNat = j:=Option.some.inj h
      exact ⟨by rw [seqIndex_neg (by omega) h1,e],by omega,h1,by omega⟩
    · rw [if_neg h1] at h; cases h
theorem iZ {α:Type} {xs:List α} {i:Int} {v:α} (h:atI xs i = some v):∃ j,seqIndex? i xs.length = some j∧xs[j]? = some v∧j < xs.length∧-(xs.length:Int)≤i∧i < xs.length:=by
  unfold atI at h
  cases e:ixN xs.length i with
  | none=>rw [e] at h; cases h
  | some j =>
    rw [e] at h
    obtain ⟨h1,h2,h3,h4⟩:=nU e
    exact ⟨j,h1,h,h2,h3,h4⟩
theorem cU {α:Type} {xs:List α} {j:Nat} {v:α} (h:xs[j]? = some v):atI xs (j:Int) = some v:=by
  have hj:j < xs.length:=(List.getElem?_eq_some_iff.mp h).1
  have e:ixN xs.length (j:Int) = some j:=by
    unfold ixN
    rw [if_pos (by omega),if_pos (by omega)]; simp
  unfold atI; rw [e]; exact h
def on (b:Expr):Prop:=∀ o i,subscripted b false o i = operate [o,i] (getItem o i)
def IxR (X:Cx) (r:R2):Prop :=
  ∀ (value slice:Expr) (pins:List (Addr×Obj)) (s:Shared) (σ:St) (H:Hp) (x y:V) (v u:Value) (Q:VK),Inv X pins σ H s→RelV x v→RelV y u→r x y H Q →
    subscripted slice false v u = operate [v,u] (getItem v u)→wpAny (model X.prog X.w) X.A (subscriptTail value slice v u) (EP X pins σ Q) X.xe s
def MtR (X:Cx) (id:String) (r:V→List V→Hp→VK→Prop):Prop :=
  ∀ (pins:List (Addr×Obj)) (s:Shared) (σ:St) (H:Hp) (x:V) (xs:List V) (v:Value) (us:List Value) (Q:VK),Inv X pins σ H s→RelV x v→Vals xs us→r x xs H Q →
    wpAny (model X.prog X.w) X.A (call (.builtin id) (v :: us)) (EP X pins σ Q) X.xe s
section
variable {X:Cx} {a b:Expr} {ta tb:TE} {pos:Pos}
theorem IxR.or {r r':R2} (h:IxR X r) (h':IxR X r'):IxR X (fun x y H Q=>r x y H Q∨r' x y H Q):=by
  intro value slice pins s σ H x y v u Q I rx ry q hs
  rcases q with q | q
  · exact h value slice pins s σ H x y v u Q I rx ry q hs
  · exact h' value slice pins s σ H x y v u Q I rx ry q hs
theorem aI {r:R2} (hr:IxR X r) (ha:PE X a ta) (hb:PE X b tb) (hs:on b):PE X (.Subscript a b pos) (tOp r ta tb):=by
  intro pins s σ H Q I h
  exact Subscript_ (vR ha hb I h fun v u s2 x y H2 I2 rx ry q=>hr a b pins s2 σ H2 x y v u Q I2 rx ry q (hs _ _))
inductive rIxL (K:PySem.W.Frag) (x y:V) (H:Hp) (Q:VK):Prop
  | mk (p:Addr) (xs:List V) (i:Int) (v:V) (h0:x = .ref p) (h1:y = .int i) (h2:SqL K H p xs) (h3:atI xs i = some v) (h4:Q v H):rIxL K x y H Q
inductive rIxT (K:PySem.W.Frag) (x y:V) (H:Hp) (Q:VK):Prop
  | mk (p:Addr) (xs:List V) (i:Int) (v:V) (h0:x = .ref p) (h1:y = .int i) (h2:SqT K H p xs) (h3:atI xs i = some v) (h4:Q v H):rIxT K x y H Q
def xD:R2:=fun x y H Q=>∃ z i c,x = .str z∧y = .int i∧z.length≤sizeLine∧atI z.cps.toList i = some c∧Q (.str ⟨#[c]⟩) H
theorem ix_list:IxR X (rIxL X.K):=by
  intro value slice pins s σ H x y v u Q I rx ry h hs
  obtain ⟨p,xs,i,z,rfl,rfl,hq,he,q⟩:=h
  cases rx
  obtain ⟨t,rfl⟩:=ry
  obtain ⟨its,r,pl,hz⟩:=I.list hq
  obtain ⟨j,h1,h2,h3,h4,h5⟩:=iZ he
  obtain ⟨w,ew,rw'⟩:=r.get h2
  have hl:=r.length
  have hn:=eZ
  have fin:EP X pins σ Q w s:=⟨z,H,I,rw',q⟩
  by_cases h0:0≤i
  · have hj:i.toNat = j:=by
      rw [seqIndex_of h0 h5] at h1
      exact Option.some.inj h1
    exact item_listR pl.isList h0 (by omega) (by rw [hj]; simpa using ew) fin hs
  · have hj:(i + (its.toArray.size:Int)).toNat = j:=by
      rw [seqIndex_neg (by omega) h4] at h1
      rw [List.size_toArray,← hl]
      exact Option.some.inj h1
    exact subscriptTail_builtinR (x:=w) pl.isList.typeIs slot_list_getitem.lookup
      (wpAny_getItem_list_neg (Q:=fun r s'=>r = w∧EP X pins σ Q r s') pl.isList (by omega) (by rw [List.size_toArray] <;> omega) (by omega) (by rw [hj]; simpa using ew) ⟨rfl,fin⟩) hs
theorem ix_tup:IxR X (rIxT X.K):=by
  intro value slice pins s σ H x y v u Q I rx ry h hs
  obtain ⟨p,xs,i,z,rfl,rfl,hq,he,q⟩:=h
  cases rx
  obtain ⟨t,rfl⟩:=ry
  obtain ⟨its,r,pl,hz⟩:=I.tuple hq
  obtain ⟨j,h1,h2,h3,h4,h5⟩:=iZ he
  obtain ⟨w,ew,rw'⟩:=r.get h2
  have hl:=r.length
  have hn:=eZ
  have fin:EP X pins σ Q w s:=⟨z,H,I,rw',q⟩
  exact subscriptTail_builtinR (x:=w) pl.typeIs slot_tuple_getitem.lookup
    (getItem_tuple (j:=j) (Q:=fun r s'=>r = w∧EP X pins σ Q r s') pl (by omega) (by omega) (by rw [List.size_toArray,← hl]; exact h1) (by simpa using ew) ⟨rfl,fin⟩) hs
theorem wE:IxR X xD:=by
  intro value slice pins s σ H x y v u Q I rx ry h hs
  obtain ⟨z,i,c,rfl,rfl,hz,he,q⟩:=h
  obtain ⟨t,rfl⟩:=rx
  obtain ⟨t',rfl⟩:=ry
  obtain ⟨j,h1,h2,h3,h4,h5⟩:=iZ he
  have hl:z.cps.toList.length = z.length:=by simp [Str.length]
  rw [hl] at h1 h4 h5
  have hn:=eZ
  exact tail_any (typeIs_str s z t) slot_str_getitem.lookup (getItem_str (c:=c) (by
    have e1:decide (i < -(2 ^ 63:Int)) = false:=decide_eq_false (by omega)
    have e2:decide (i ≥ 2 ^ 63) = false:=decide_eq_false (by omega)
    rw [e1,e2,Bool.or_false]) (by rw [h1]; simpa using h2) ⟨.str ⟨#[c]⟩,H,I.tok _,⟨_,rfl⟩,q⟩) hs
def rIx (K:PySem.W.Frag):R2:=fun x y H Q=>rIxL K x y H Q∨rIxT K x y H Q∨xD x y H Q
theorem aC:IxR X (rIx X.K):=ix_list.or (ix_tup.or wE)
theorem nr (its:List Value) (n j:Nat) (u:Value):Obj.mapSeq (·.setIfInBounds j u) { cls:=.type "list",data:=.seq its.toArray n } = { cls:=.type "list",data:=.seq (its.set j u).toArray n }:=by
  simp [Obj.mapSeq]
theorem Inv.lst {pins:List (Addr×Obj)} {σ:St} {H:Hp} {s:Shared} {p:Addr} {xs:List V} (I:Inv X pins σ H s) (h:H p = some (.lst xs)) :
    ∃ (its:List Value) (n:Nat),Vals xs its∧s.heap.get? p = some { cls:=.type "list",data:=.seq its.toArray n }∧xs.length≤sizeLine:=by
  obtain ⟨z,its,n,r,e⟩:=I.hok p _ h
  exact ⟨its,n,r,e,z⟩
theorem Inv.lstUpd {pins:List (Addr×Obj)} {σ:St} {H:Hp} {s:Shared} {p:Addr} {xs ys:List V} {its its':List Value} {n n':Nat} {f:Obj→Obj} (I:Inv X pins σ H s) (h:H p = some (.lst xs))
    (ho:s.heap.get? p = some { cls:=.type "list",data:=.seq its.toArray n }) (hf:f { cls:=.type "list",data:=.seq its.toArray n } = { cls:=.type "list",data:=.seq its'.toArray n' }) (r:Vals ys its') (hz:ys.length≤sizeLine) (t:Nat) :
    Inv X pins σ (upd H p (.lst ys)) { s with heap:=s.heap.update p f,toks:=t }:=by
  have e:(s.heap.update p f).get? p = some { cls:=.type "list",data:=.seq its'.toArray n' }:=by
    rw [Heap.get?_update_self f ho (by rw [hf] <;> rfl),hf]
  refine I.write (x:=p) (e:=p) (by rw [h]; trivial) (.inl rfl) (fun b u hb q=>(Heap.get?_update_other _ _ (Ne.symm hb)).trans q) ⟨_,e⟩ ?_
  exact ⟨hz,its',n',r,e⟩
def xt:V→V→V→Hp→(Hp→Prop)→Prop:=fun o i v H Q=>∃ p xs k j,o = .ref p∧i = .int k∧H p = some (.lst xs)∧ixN xs.length k = some j∧Q (upd H p (.lst (xs.set j v)))
theorem fe:wy X xt:=by
  intro pins s σ H o i v ov iv u Q I ro ri rv h
  obtain ⟨p,xs,k,j,rfl,rfl,hp,hj,q⟩:=h
  cases ro
  obtain ⟨t,rfl⟩:=ri
  obtain ⟨its,n,r,ho,hz⟩:=I.lst hp
  obtain ⟨h1,h2,h3,h4⟩:=nU hj
  have hl:=r.length
  have hn:=eZ
  have I':Inv X pins σ (upd H p (.lst (xs.set j v))) { s with heap:=s.heap.update p (Obj.mapSeq (·.setIfInBounds j u)) } :=
    I.lstUpd hp ho (nr its n j u) (r.set rv j) (by rw [List.length_set]; exact hz) s.toks
  by_cases h0:0≤k
  · have hk:k.toNat = j:=by
      rw [seqIndex_of h0 h4] at h1
      exact Option.some.inj h1
    exact PySem.W.ki_setAt ho h0 (by omega) (by rw [List.size_toArray,← hl]; exact h4) (by rw [hk]; exact ⟨_,I',q⟩)
  · have hk:(k + (its.toArray.size:Int)).toNat = j:=by
      rw [seqIndex_neg (by omega) h3] at h1
      rw [List.size_toArray,← hl]
      exact Option.some.inj h1
    exact PySem.W.ki_setBack ho (by omega) (by rw [List.size_toArray,← hl]; exact h3) (by omega) (by rw [hk]; exact ⟨_,I',q⟩)
theorem lx (lo hi:Option Int) (n:Nat):(sliceBounds lo hi none n).1 = ((HT.sIx n 0 lo:Nat):Int)∧(sliceBounds lo hi none n).2.1 = ((HT.sIx n n hi:Nat):Int)∧(sliceBounds lo hi none n).2.2 = 1:=by
  refine ⟨?_,?_,rfl⟩
  · cases lo with
    | none=>simp [sliceBounds,HT.sIx]
    | some i =>
      simp only [sliceBounds,HT.sIx,Option.getD_none,show (1:Int) > 0 by decide,if_true]
      by_cases h:i < 0
      · simp only [h,if_true] <;> omega
      · simp only [h,if_false] <;> omega
  · cases hi with
    | none=>simp [sliceBounds,HT.sIx]
    | some i =>
      simp only [sliceBounds,HT.sIx,Option.getD_none,show (1:Int) > 0 by decide,if_true]
      by_cases h:i < 0
      · simp only [h,if_true] <;> omega
      · simp only [h,if_false] <;> omega
theorem jU (its:List Value) (lo hi:Option Int):slicePick its.toArray lo hi none = ((its.drop (HT.sIx its.length 0 lo)).take (HT.sIx its.length its.length hi - HT.sIx its.length 0 lo)).toArray:=by
  obtain ⟨h1,h2,h3⟩:=lx lo hi its.toArray.size
  unfold slicePick
  rw [h1,h2,h3]
  simp only [sliceRange_one,pick_run,List.size_toArray] <;> rfl
def yZ (K:PySem.W.Frag):V→Option Int→Option Int→Hp→VK→Prop:=fun x lo hi H Q=>∃ a xs,x = .ref a∧SqL K H a xs∧∀ p,H p = none→Q (.ref p) (upd H p (.lst (kI xs lo hi)))
theorem tz:SlR X (yZ X.K):=by
  intro pins s σ H x v vl vu lo hi sl Q I rx hs pl pu h
  obtain ⟨a,xs,rfl,hx,q⟩:=h
  cases rx
  obtain ⟨its,r,ht,hz⟩:=I.list hx
  have hlen:=r.length
  refine ⟨"list",_,slot_list_getitem.lookup,ht.isList.typeIs,?_⟩
  refine wpAny_getItem_list_slice ht.isList hs pl pu .none (by simp) ?_ (by rw [List.size_toArray] <;> omega)
  rw [jU,← hlen]
  refine ⟨.ref s.heap.objs.size,_,I.laid (t':=s.toks) (o:=.lst (kI xs lo hi)) (fun b ob q=>Heap.get?_push_of_some _ q) (Nat.le_refl _) ?_,rfl,q _ (I.hok.fresh (Nat.le_refl _))⟩
  exact ⟨Nat.le_trans (iM xs lo hi) hz,_,0,(r.drop (HT.sIx xs.length 0 lo)).take (HT.sIx xs.length xs.length hi - HT.sIx xs.length 0 lo),Heap.get?_push_size _ rfl⟩
def iR:V→Bool
  | .non=>true
  | .bl _=>true
  | .int _=>true
  | .str _=>true
  | _=>false
def eqV:V→V→Bool
  | .non,.non=>true
  | .bl a,.bl b=>a == b
  | .bl a,.int b=>(if a then 1 else 0) == b
  | .int a,.bl b=>a == (if b then 1 else 0)
  | .int a,.int b=>a == b
  | .str a,.str b=>a == b
  | _,_=>false
theorem xi {A:Around} {s:Shared} {y x:V} {u v:Value} (ry:RelV y u) (rx:RelV x v) (fy:iR y = true) (fx:iR x = true):SeqAt.EqAt A s u v (eqV y x):=by
  cases y with
  | non =>
    cases ry
    cases x with
    | non=>cases rx; exact SeqAt.EqAt.same _
    | bl b=>cases rx; exact SeqAt.EqAt.none_bool b
    | int b=>obtain ⟨t,rfl⟩:=rx; exact SeqAt.EqAt.none_int b t
    | str b=>obtain ⟨t,rfl⟩:=rx; exact SeqAt.EqAt.none_str b t
    | _=>exact absurd (show false = true from fx) Bool.false_ne_true
  | bl a =>
    cases ry
    cases x with
    | non=>cases rx; exact SeqAt.EqAt.bool_none a
    | bl b=>cases rx; exact SeqAt.EqAt.bool_bool a b
    | int b=>obtain ⟨t,rfl⟩:=rx; exact SeqAt.EqAt.bool_int a b t
    | str b=>obtain ⟨t,rfl⟩:=rx; exact SeqAt.EqAt.bool_str a b t
    | _=>exact absurd (show false = true from fx) Bool.false_ne_true
  | int a =>
    obtain ⟨t',rfl⟩:=ry
    cases x with
    | non=>cases rx; exact SeqAt.EqAt.int_none a t'
    | bl b=>cases rx; exact SeqAt.EqAt.int_bool a t' b
    | int b=>obtain ⟨t,rfl⟩:=rx; exact SeqAt.EqAt.int_int a t' b t
    | str b=>obtain ⟨t,rfl⟩:=rx; exact SeqAt.EqAt.int_str a t' b t
    | _=>exact absurd (show false = true from fx) Bool.false_ne_true
  | str a =>
    obtain ⟨t',rfl⟩:=ry
    cases x with
    | non=>cases rx; exact SeqAt.EqAt.str_none a t'
    | bl b=>cases rx; exact SeqAt.EqAt.str_bool a t' b
    | int b=>obtain ⟨t,rfl⟩:=rx; exact SeqAt.EqAt.str_int a t' b t
    | str b=>obtain ⟨t,rfl⟩:=rx; exact SeqAt.EqAt.str_str a t' b t
    | _=>exact absurd (show false = true from fx) Bool.false_ne_true
  | _=>exact absurd (show false = true from fy) Bool.false_ne_true
def eqU (x:V) (u:Value):Bool:=match u with
  | .none=>eqV .non x
  | .bool b=>eqV (.bl b) x
  | .int i _=>eqV (.int i) x
  | .str z _=>eqV (.str z) x
  | _=>false
theorem r9 {x y:V} {u:Value} (r:RelV y u) (f:iR y = true):eqU x u = eqV y x:=by
  cases y with
  | non=>cases r; rfl
  | bl b=>cases r; rfl
  | int i=>obtain ⟨t,rfl⟩:=r; rfl
  | str z=>obtain ⟨t,rfl⟩:=r; rfl
  | _=>exact absurd (show false = true from f) Bool.false_ne_true
theorem lv {x:V}:∀ {xs:List V} {us:List Value},Vals xs us→xs.all iR = true→us.any (eqU x) = xs.any fun y=>eqV y x
  | _,_,.nil,_=>rfl
  | y :: xs,u :: us,.cons r t,f=>by
    rw [List.all_cons,Bool.and_eq_true] at f
    rw [List.any_cons,List.any_cons,r9 r f.1,lv t f.2]
theorem jx {A:Around} {s:Shared} {x:V} {v:Value} (rx:RelV x v) (fx:iR x = true):∀ {xs:List V} {us:List Value},Vals xs us→xs.all iR = true→∀ u ∈ us,SeqAt.EqAt A s u v (eqU x u)
  | _,_,.nil,_=>fun u hu=>by cases hu
  | y :: xs,u :: us,.cons r t,f=>fun u' hu=>by
    rw [List.all_cons,Bool.and_eq_true] at f
    rcases List.mem_cons.mp hu with rfl | hu
    · rw [r9 r f.1]; exact xi r rx f.1 fx
    · exact jx rx fx t f.2 u' hu
def inV (x:V) (xs:List V):Bool:=xs.any fun y=>eqV y x
inductive rIn (K:PySem.W.Frag) (neg:Bool) (x y:V) (H:Hp) (Q:VK):Prop
  | mk (p:Addr) (xs:List V) (h0:y = .ref p) (h1:SqL K H p xs∨SqT K H p xs) (h2:iR x = true) (h3:xs.all iR = true) (h4:Q (.bl (if neg then !inV x xs else inV x xs)) H):rIn K neg x y H Q
theorem pc:OpR X (compareOp .In) (rIn X.K false):=by
  intro pins s σ H x y v u Q I rx ry h
  obtain ⟨p,xs,rfl,hq,fx,fs,q⟩:=h
  cases ry
  rcases hq with hq | hq
  · obtain ⟨its,r,pl,hz⟩:=I.list hq
    refine SeqAt.in_listAt (eqU x) pl.isList (fun w hw=>jx rx fx r fs w (by simpa using hw)) ⟨.bl _,H,I,rfl,?_⟩
    rw [show its.toArray.any (eqU x) = its.any (eqU x) by simp,lv r fs]
    exact q
  · obtain ⟨its,r,pl,hz⟩:=I.tuple hq
    refine SeqAt.in_tupleAt (eqU x) pl (fun w hw=>jx rx fx r fs w (by simpa using hw)) ⟨.bl _,H,I,rfl,?_⟩
    rw [show its.toArray.any (eqU x) = its.any (eqU x) by simp,lv r fs]
    exact q
theorem lb:CallR X (.builtin "len") (fun xs H Q=>∃ p ys,xs = [.ref p]∧(SqL X.K H p ys∨SqT X.K H p ys)∧Q (.int ys.length) H):=by
  intro pins s σ H xs us Q I r h
  obtain ⟨p,ys,rfl,hq,q⟩:=h
  obtain ⟨u,rfl,rx⟩:=er r
  cases rx
  have hn:=eZ
  rcases hq with hq | hq
  · obtain ⟨its,r',pl,hz⟩:=I.list hq
    have hlen:=r'.length
    exact Calls.call_len_list pl.isList (by simp only [List.size_toArray] <;> omega) ⟨.int ys.length,H,I.tok _,⟨s.toks + 1,by rw [List.size_toArray,hlen]⟩,q⟩
  · obtain ⟨its,r',pl,hz⟩:=I.tuple hq
    have hlen:=r'.length
    exact len_tuple pl (by simp only [List.size_toArray] <;> omega) ⟨.int ys.length,H,I.tok _,⟨s.toks + 1,by rw [List.size_toArray,hlen]⟩,q⟩
theorem call_len_str:CallR X (.builtin "len") (fun xs H Q=>∃ z,xs = [.str z]∧z.length≤sizeLine∧Q (.int z.length) H):=by
  intro pins s σ H xs us Q I r h
  obtain ⟨z,rfl,hz,q⟩:=h
  obtain ⟨u,rfl,t,rfl⟩:=er r
  have hn:=eZ
  exact len_str (by omega) ⟨.int z.length,H,I.tok _,⟨_,rfl⟩,q⟩
theorem CallR.or {f:Value} {r r':List V→Hp→VK→Prop} (h:CallR X f r) (h':CallR X f r'):CallR X f (fun xs H Q=>r xs H Q∨r' xs H Q):=by
  intro pins s σ H xs us Q I rs q
  rcases q with q | q
  · exact h pins s σ H xs us Q I rs q
  · exact h' pins s σ H xs us Q I rs q
inductive rListOf (K:PySem.W.Frag) (xs:List V) (H:Hp) (Q:VK):Prop
  | mk (p:Addr) (ys:List V) (h0:xs = [.ref p]) (h1:SqL K H p ys∨SqT K H p ys) (h2:∀ l,H l = none→Q (.ref l) (upd H l (.lst ys))):rListOf K xs H Q
theorem gU:CallR X (.type "list") (rListOf X.K):=by
  intro pins s σ H xs us Q I r h
  obtain ⟨p,ys,rfl,hq,q⟩:=h
  obtain ⟨u,rfl,rx⟩:=er r
  cases rx
  have fin:∀ (its:List Value),Vals ys its→ys.length≤sizeLine→∀ (h':Heap) (c':Nat),(∀ b o',s.heap.get? b = some o'→h'.get? b = some o') →
      h'.get? s.heap.objs.size = some { cls:=.type "list",dict:=none,data:=.seq its.toArray c',slots:=#[] }→EP X pins σ Q (.ref s.heap.objs.size) { s with heap:=h' }:=fun its r' hz h' c' kp e =>
    ⟨.ref s.heap.objs.size,_,I.laid (t':=s.toks) kp (Nat.le_refl _) (show ObjOk X.prog X.w _ h' _ (.lst ys) from ⟨hz,its,c',r',e⟩),rfl,q _ (I.hok.fresh (Nat.le_refl _))⟩
  rcases hq with hq | hq
  · obtain ⟨its,r',pl,hz⟩:=I.list hq
    have hlen:=r'.length
    obtain ⟨o,ho,hc,n,hd⟩:=pl.isList
    exact call_list_seq p (.inl rfl) ho hc hd (fun h' c' kp e=>fin its r' hz h' c' kp e) (by simp only [List.size_toArray] <;> omega)
  · obtain ⟨its,r',pl,hz⟩:=I.tuple hq
    have hlen:=r'.length
    obtain ⟨o,ho,hc,n,hd⟩:=pl
    exact call_list_seq p (.inr rfl) ho hc hd (fun h' c' kp e=>fin its r' hz h' c' kp e) (by simp only [List.size_toArray] <;> omega)
def tyV (K:PySem.W.Frag) (T:String) (x:V) (H:Hp):Prop:=match x with
  | .str _=>T = "str"
  | .int _=>T = "int"
  | .ref p=>(T = "list" ∧ ∃ xs,SqL K H p xs)∨(T = "tuple" ∧ ∃ o,K.lookup p = some o∧o.cls = .type "tuple" ∧ o.dict = none) ∨
      (T = "dict" ∧ ((∃ kvs,H p = some (.dK kvs))∨∃ kvs,H p = some (.dT kvs)))∨(T = "set" ∧ ∃ S n,H p = some (.set S n))
  | _=>False
theorem wK {pins:List (Addr×Obj)} {σ:St} {H:Hp} {s:Shared} {T:String} {x:V} {v:Value} (I:Inv X pins σ H s) (r:RelV x v) (ty:tyV X.K T x H) :
    s.TypeIs v T∧∀ a,v = .ref a→∃ ob,s.heap.get? a = some ob∧ob.dict = none:=by
  cases x with
  | str z =>
    obtain ⟨t,rfl⟩:=r
    cases (show T = "str" from ty)
    exact ⟨typeIs_str s z t,fun _ e=>nomatch e⟩
  | int i =>
    obtain ⟨t,rfl⟩:=r
    cases (show T = "int" from ty)
    exact ⟨typeIs_int s i t,fun _ e=>nomatch e⟩
  | ref p =>
    cases r
    rcases ty with ⟨rfl,xs,hq⟩ | ⟨rfl,o,hk,hc,hd⟩ | ⟨rfl,hk⟩ | ⟨rfl,S,n,hk⟩
    · obtain ⟨its,_,pl,_⟩:=I.list hq
      refine ⟨pl.isList.typeIs,fun a e=>?_⟩
      cases e
      obtain ⟨o,n,e,c,hd,_⟩:=pl
      exact ⟨o,e,hd⟩
    · refine ⟨⟨o,I.kIn p o hk,hc⟩,fun a e=>?_⟩
      cases e
      exact ⟨o,I.kIn _ o hk,hd⟩
    · have z:∃ o,s.heap.get? p = some o∧o.ExactDict:=by
        rcases hk with ⟨kvs,hk⟩ | ⟨kvs,hk⟩
        · obtain ⟨_,_,_,_,o,_,_,e,ex,_⟩:=I.hok p _ hk
          exact ⟨o,e,ex⟩
        · obtain ⟨_,_,_,_,o,_,_,e,ex,_⟩:=I.hok p _ hk
          exact ⟨o,e,ex⟩
      obtain ⟨o,e,ex⟩:=z
      refine ⟨⟨o,e,ex.1⟩,fun a e2=>?_⟩
      cases e2
      exact ⟨o,e,ex.2.1⟩
    · obtain ⟨o,_,_,_,e,ex,_⟩:=I.hok p _ hk
      refine ⟨⟨o,e,ex.1⟩,fun a e2=>?_⟩
      cases e2
      exact ⟨o,e,ex.2.1⟩
  | _=>exact False.elim ty
def zB (K:PySem.W.Frag) (T:String) (r:V→List V→Hp→VK→Prop) (to:TE):TE:=fun σ H Q=>to σ H fun x H1=>tyV K T x H1∧r x [] H1 Q
def tBM (K:PySem.W.Frag) (T:String) (r:V→List V→Hp→VK→Prop) (to:TE) (t:TA):TE:=fun σ H Q=>to σ H fun x H1=>tyV K T x H1∧t σ H1 fun xs H2=>r x xs H2 Q
variable {o e:Expr} {es:List Expr} {to:TE} {t:TA} {name:Str} {apos cpos:Pos} {T id:String} {r:V→List V→Hp→VK→Prop}
theorem nZ (pa:PlainAttrs T) (slot:Slot T name id) (hty:typeOf (.builtin id) = pure (.type "method_descriptor")) (hm:MtR X id r) (ho:PE X o to) (ha:PA X (e :: es) t)
    (hbase:attributeBase o name X.env (eval o X.env) = eval o X.env:=by rfl)
    (hfew:((backTo cpos (starEach (e :: es) X.env)).all (fun x=>!x.1) && (backToKw cpos (keywordEach [] X.env)).all (fun x=>x.1.isSome)
      && decide ((e :: es).length + ([]:List Keyword).length + (if ([]:List Keyword).isEmpty then 0 else 1) < 30)) = true:=by rfl)
    (hline:(apos.endLine == cpos.line) = true:=by rfl) (hs:starEach (e :: es) X.env = (false,eval e X.env) :: starEach es X.env:=by rfl) (hplain:(backTo cpos (starEach es X.env)).any (·.1) = false:=by rfl) :
    PE X (.Call (.Attribute o name apos) (e :: es) [] cpos) (tBM X.K T r to t):=by
  intro pins s σ H Q I h
  refine wpAny_Call_method_late hbase hfew hline rfl (thn (ho pins s σ H _ I h) fun v s1 ⟨x,H1,I1,r1,ty,q1⟩=>?_)
  obtain ⟨h1,h2⟩:=wK I1 r1 ty
  refine ⟨T,id,pa,slot,hty,h1,h2,?_⟩
  have hA:=ha cpos pins s1 σ H1 _ I1 q1
  rw [hs] at hA ⊢
  refine Calls.callWith_builtin (by show (false || (backTo cpos (starEach es X.env)).any (·.1)) = false; rw [hplain] <;> rfl) (Calls.evalArgs_plain ?_)
  exact thn hA fun us s2 ⟨vs,H2,I2,r2,q2⟩=>hm pins s2 σ H2 x vs v us Q I2 r1 r2 q2
end
end L2
namespace L2
open PySem PySem.Spec PyProof.Rows
def MtM (X:Cx) (id:String) (r:V→List V→Hp→VK→Prop):Prop :=
  ∀ (pins:List (Addr×Obj)) (s:Shared) (σ:St) (H:Hp) (x:V) (xs:List V) (v:Value) (us:List Value) (Q:VK),Inv X pins σ H s→RelV x v→Vals xs us→r x xs H Q →
    wpAny (model X.prog X.w) X.A (call (.builtin id) (v :: us)) (EP X pins σ Q) X.xe s
theorem Vals.one:∀ {x:V} {us:List Value},Vals [x] us→∃ u,us = [u]∧RelV x u
  | _,_,.cons r .nil=>⟨_,rfl,r⟩
theorem Vals.two:∀ {x y:V} {us:List Value},Vals [x,y] us→∃ u v,us = [u,v]∧RelV x u∧RelV y v
  | _,_,_,.cons r (.cons q .nil)=>⟨_,_,rfl,r,q⟩
theorem Vals.eraseIdx:∀ {xs:List V} {us:List Value} (i:Nat),Vals xs us→Vals (xs.eraseIdx i) (us.eraseIdx i)
  | _,_,_,.nil=>.nil
  | _,_,0,.cons _ t=>t
  | _,_,i + 1,.cons r t=>.cons r (Vals.eraseIdx i t)
theorem Vals.rep {xs:List V} {us:List Value} (h:Vals xs us):∀ k:Nat,Vals (List.replicate k xs).flatten (List.replicate k us).flatten
  | 0=>.nil
  | k + 1=>by
    rw [List.replicate_succ,List.replicate_succ,List.flatten_cons,List.flatten_cons]
    exact Vals.append h (Vals.rep h k)
theorem jX {α:Type}:∀ (l:List α) (i:Nat),(l.eraseIdx i).length≤l.length
  | [],_=>Nat.le_refl _
  | _ :: _,0=>Nat.le_succ _
  | _ :: r,i + 1=>Nat.succ_le_succ (jX r i)
theorem kw (its:List Value):∀ (k:Nat) (acc:List Value),
    List.foldl (fun x1 x2=>x1 ++ x2) acc.toArray (List.replicate k its.toArray) = (acc ++ (List.replicate k its).flatten).toArray
  | 0,acc=>by simp
  | k + 1,acc=>by
    have e:acc.toArray ++ its.toArray = (acc ++ its).toArray:=by simp
    have e2:(acc ++ its) ++ (List.replicate k its).flatten = acc ++ (List.replicate (k + 1) its).flatten:=by
      rw [List.replicate_succ,List.flatten_cons,List.append_assoc]
    rw [← e2,← kw its k (acc ++ its),← e,List.replicate_succ,List.foldl_cons]
section
variable {X:Cx} {pins:List (Addr×Obj)} {σ:St} {H:Hp} {s:Shared} {l b:Addr} {xs ys zs:List V}
theorem Inv.lset {its its':List Value} {n:Nat} {f:Array Value→Array Value} {t':Nat} (I:Inv X pins σ H s) (hH:H l = some (.lst xs))
    (e:s.heap.get? l = some { cls:=.type "list",data:=.seq its.toArray n }) (hf:f its.toArray = its'.toArray) (hv:Vals ys its') (hz:ys.length≤sizeLine) :
    Inv X pins σ (upd H l (.lst ys)) { s with heap:=s.heap.update l (Obj.mapSeq f),toks:=t' }:=by
  have q:=PySem.IsL.update e f
  rw [hf] at q
  refine I.write (x:=l) (e:=l) (by rw [hH]; exact trivial) (.inl rfl) (fun b' u hb hu=>(Heap.get?_update_other s.heap (Obj.mapSeq f) (Ne.symm hb)).trans hu) ⟨_,q⟩ ?_
  exact ⟨hz,its',_,hv,q⟩
theorem Inv.lnew {its:List Value} {t':Nat} (I:Inv X pins σ H s) (hv:Vals ys its) (hz:ys.length≤sizeLine) :
    Inv X pins σ (upd H s.heap.objs.size (.lst ys)) { s with heap:=s.heap.push { cls:=.type "list",data:=.seq its.toArray },toks:=t' } :=
  I.laid (fun _ _ q=>Heap.get?_push_of_some _ q) (Nat.le_refl _) ⟨hz,its,0,hv,Heap.get?_push_size _ rfl⟩
theorem Inv.fresh (I:Inv X pins σ H s):H s.heap.objs.size = none:=I.hok.fresh (Nat.le_refl _)
theorem Inv.lstM (I:Inv X pins σ H s) (hH:H l = some (.lst xs)):xs.length≤sizeLine∧∃ (its:List Value) (n:Nat),Vals xs its∧xs.length = its.length∧s.heap.get? l = some { cls:=.type "list",data:=.seq its.toArray n }:=by
  obtain ⟨z,its,n,r,e⟩:=I.hok l _ hH
  exact ⟨z,its,n,r,r.length,e⟩
theorem rE {n:Nat} (h:n≤sizeLine):Builtin.List.listTooLong n = false:=by
  unfold Builtin.List.listTooLong
  exact decide_eq_false (by omega)
end
section
variable {X:Cx}
inductive rAppend (x:V) (vs:List V) (H:Hp) (Q:VK):Prop
  | mk (l:Addr) (xs:List V) (y:V) (h0:x = .ref l) (h1:vs = [y]) (h2:H l = some (.lst xs)) (h3:xs.length < sizeLine) (h4:Q .non (upd H l (.lst (xs ++ [y])))):rAppend x vs H Q
theorem kh:MtM X "list.append" rAppend:=by
  intro pins s σ H x vs v us Q I rx rv h
  obtain ⟨l,xs,y,rfl,rfl,hH,hz,q⟩:=h
  cases rx
  obtain ⟨u,rfl,ru⟩:=rv.one
  obtain ⟨z,its,n,r,hl,e⟩:=I.lstM hH
  refine call_meets F.slot_list_append ⟨_,e,rfl⟩ F.entry_list_append (F.args_list_append_2 _ _) (PySem.list_append l its.toArray n u (by rw [List.size_toArray]; omega)) ⟨e,?_⟩
  refine ⟨.non,_,I.lset (its':=its ++ [u]) hH e (by simp) (r.append (.cons ru .nil)) ?_,rfl,q⟩
  rw [List.length_append,List.length_singleton]
  omega
def yS:V→List V→Hp→VK→Prop:=fun x vs H Q=>∃ l b xs zs,x = .ref l∧vs = [.ref b]∧H l = some (.lst xs)∧H b = some (.lst zs)∧xs.length + zs.length≤sizeLine∧Q .non (upd H l (.lst (xs ++ zs)))
def zE:V→List V→Hp→VK→Prop:=fun x vs H Q=>∃ l xs y,x = .ref l∧vs = []∧H l = some (.lst xs)∧xs[xs.length - 1]? = some y∧Q y (upd H l (.lst xs.dropLast))
def qz:V→List V→Hp→VK→Prop:=fun x vs H Q=>∃ l xs i k y,x = .ref l∧vs = [.int i]∧H l = some (.lst xs)∧-(2 ^ 63)≤i∧i < 2 ^ 63∧seqIndex? i xs.length = some k∧xs[k]? = some y∧Q y (upd H l (.lst (xs.eraseIdx k)))
theorem qE:MtM X "list.pop" qz:=by
  intro pins s σ H x vs v us Q I rx rv h
  obtain ⟨l,xs,i,k,y,rfl,rfl,hH,h1,h2,hk,hy,q⟩:=h
  cases rx
  obtain ⟨u,rfl,ru⟩:=rv.one
  obtain ⟨t,rfl⟩:=ru
  obtain ⟨z,its,n,r,hl,e⟩:=I.lstM hH
  obtain ⟨w,hw,rw'⟩:=r.get hy
  refine call_meets F.slot_list_pop ⟨_,e,rfl⟩ F.entry_list_pop (F.args_list_pop_2 _ _)
    (MeetsSeq.list_pop_at l its.toArray n i t k w (fitsIndex_both h1 h2) (by rw [List.size_toArray,← hl]; exact hk) (by rw [← Array.getElem?_toList]; exact hw) (by rw [List.size_toArray]; omega)) ⟨e,?_⟩
  refine ⟨y,_,I.lset (its':=its.eraseIdx k) hH e ?_ (r.eraseIdx k) ?_,rw',q⟩
  · show its.toArray.eraseIdxIfInBounds k = (its.eraseIdx k).toArray
    rw [List.eraseIdxIfInBounds_toArray]
  · have:=jX xs k
    omega
def zc:V→List V→Hp→VK→Prop:=fun x vs H Q=>∃ l xs,x = .ref l∧vs = []∧H l = some (.lst xs)∧Q .non (upd H l (.lst []))
inductive rCat (x y:V) (H:Hp) (Q:VK):Prop
  | mk (l b:Addr) (xs zs:List V) (h0:x = .ref l) (h1:y = .ref b) (h2:H l = some (.lst xs)) (h3:H b = some (.lst zs)) (h4:xs.length + zs.length≤sizeLine) (h5:∀ p,H p = none→Q (.ref p) (upd H p (.lst (xs ++ zs)))):rCat x y H Q
theorem fk:OpR X (binaryOp .Add) rCat:=by
  intro pins s σ H x y v u Q I rx ry h
  obtain ⟨l,b,xs,zs,rfl,rfl,hH,hB,hz,q⟩:=h
  cases rx
  cases ry
  obtain ⟨z,its,n,r,hl,e⟩:=I.lstM hH
  obtain ⟨z2,its2,n2,r2,hl2,e2⟩:=I.lstM hB
  refine PySem.P.add_list e e2 ?_ (by rw [List.size_toArray,List.size_toArray]; omega)
  have ea:its.toArray ++ its2.toArray = (its ++ its2).toArray:=by simp
  rw [ea]
  exact ⟨.ref _,_,I.lnew (t':=s.toks) (r.append r2) (by rw [List.length_append]; omega),rfl,q _ I.fresh⟩
def zi:R2:=fun x y H Q=>∃ l k xs,x = .ref l∧y = .int k∧H l = some (.lst xs)∧-(2 ^ 63)≤k∧k < 2 ^ 63∧xs.length * k.toNat≤sizeLine ∧
  ∀ p,H p = none→Q (.ref p) (upd H p (.lst (List.replicate k.toNat xs).flatten))
theorem uj {α:Type} (xs:List α) (k:Nat):(List.replicate k xs).flatten.length = k * xs.length:=by
  induction k with
  | zero=>simp
  | succ k ih=>rw [List.replicate_succ,List.flatten_cons,List.length_append,ih,Nat.succ_mul,Nat.add_comm]
theorem jq:OpR X (binaryOp .Mult) zi:=by
  intro pins s σ H x y v u Q I rx ry h
  obtain ⟨l,k,xs,rfl,rfl,hH,h1,h2,hz,q⟩:=h
  cases rx
  obtain ⟨t,rfl⟩:=ry
  obtain ⟨z,its,n,r,hl,e⟩:=I.lstM hH
  have hlen:its.toArray.size * k.toNat≤sizeLine:=by rw [List.size_toArray,← hl]; exact hz
  have hcap:¬ its.toArray.size * k.toNat > (2 ^ 63 - 1) / 8:=by
    have:(sizeLine:Nat)≤(2 ^ 63 - 1) / 8:=by decide
    omega
  have hfit:¬ (!Builtin.List.listFitsIndex k) = true:=by
    rw [fitsIndex_both h1 h2]
    exact Bool.false_ne_true
  have hlong:¬ Builtin.List.listTooLong (its.toArray.size * k.toNat) = true:=by
    rw [rE hlen]
    exact Bool.false_ne_true
  have hnew:List.foldl (fun x1 x2=>x1 ++ x2) #[] (List.replicate (if its.toArray.isEmpty = true then 0 else k.toNat) its.toArray) = (List.replicate k.toNat its).flatten.toArray:=by
    have f0:∀ m:Nat,List.foldl (fun x1 x2=>x1 ++ x2) #[] (List.replicate m its.toArray) = (List.replicate m its).flatten.toArray:=fun m=>by
      have:=kw its m []
      rw [List.nil_append] at this
      exact this
    rw [f0]
    cases its with
    | nil=>simp
    | cons a r'=>rw [if_neg (by simp)]
  refine wpAny_binaryOp_repeat_ref (T := "list") (U := "int") (by decide) ⟨_,e,rfl⟩ (fun s'=>typeIs_int s' k t) noFill_list_mul F.fills_int_mul F.slot_int_rmul repeat_list F.slot_int_index.lookup
    (call_meets F.slot_int_rmul (typeIs_int s k t) F.entry_int_rmul (F.args_int_rmul_2 _ _) (int___rmul___int_list k t l its.toArray n)
      ⟨e,rfl,⟨_,e,rfl⟩,call_meets F.slot_list_mul ⟨_,e,rfl⟩ F.entry_list_mul (F.args_list_mul_2 _ _) (AutoListH.list___mul___list_int_3 l its.toArray n k t hfit hcap hlong) ⟨e,?_⟩⟩)
  rw [hnew]
  exact ⟨.ref _,_,I.lnew (t':=s.toks) (r.rep k.toNat) (by rw [uj,Nat.mul_comm]; exact hz),rfl,q _ I.fresh⟩
end
section
variable {prog:Program} {w:World} {A:Around} {E:Value→Shared→Prop} {s:Shared}
set_option maxRecDepth 100000 in
end
section
variable {X:Cx}
end
end L2
namespace Att
open PySem PySem.W PySem.Calls PyProof.Rows
theorem iS {P:Params} {h:Heap}:∀ (ns:List Int) (vs:List Value),WellAll P h vs (ns.map WData.int)→IntsAre vs ns:=by
  intro ns
  induction ns with
  | nil =>
    intro vs w
    rw [List.map_nil] at w
    cases w
    exact .nil
  | cons n ns ih =>
    intro vs w
    rw [List.map_cons] at w
    cases w with
    | cons a b =>
      cases a
      exact .cons _ _ (ih _ b)
theorem pf {l:OpenLaw} {n:Nat} (hn:l.most = some n) {P:Params} {h:Heap} {args:List WData} {vals:List Value}
    (hpre:l.row.toRowW.claim.pre args = true) (hwl:WellAll P h vals args) :
    ∃ a vs ns,vals = [Value.ref a]∧args = [WData.list (ns.map WData.int)]∧h.get? a = some { cls:=.type "list",data:=.seq vs.toArray }∧IntsAre vs ns∧ns.length≤n:=by
  have hsh:WShape.hasAll [] args [.list .int] = true:=(pre_splitW hpre).1
  have hc:l.pre.holds [] { args:=args } = true:=(pre_splitW hpre).2
  obtain ⟨d,r,rfl,h1,h2⟩:=hasAllW_cons hsh
  obtain rfl:=hasAllW_nil h2
  obtain ⟨xs,rfl,h3⟩:=hasW_list h1
  obtain ⟨ns,rfl⟩:=items_int h3
  have hlen:ns.length≤n:=by
    unfold OpenLaw.pre at hc
    have h4:(WTm.not (.lt (.lit (.int (n:Int))) (.len (.arg 0)))).holds [] { args:=[.list (ns.map .int)] } = true:=by
      have h4:=(holds_andW hc).1
      rw [hn] at h4
      exact h4
    have h5:=condW_of h4 (w_not (w_lt w_lit (w_len_list (w_arg rfl))))
    rw [List.length_map] at h5
    refine Nat.le_of_not_lt fun q=>?_
    have q':(n:Int) < ((ns.length:Nat):Int):=by omega
    first
      | (rw [decide_eq_true q'] at h5; exact absurd h5 (by decide))
      | (simp at h5; omega)
  cases hwl with
  | cons w1 w2 =>
    cases w2
    cases w1 with
    | list ho hall=>exact ⟨_,_,ns,rfl,rfl,ho,iS ns _ hall,hlen⟩
theorem pT (l:OpenLaw) (args:List WData):l.row.toRowW.claim.post args (.bool true) args = true :=
  postW_of (r:=l.row.toRowW) (X:=(true == true))
    (show WShape.has [] (.bool true) .bool = true by first | rfl | decide | simp [WShape.has,WShape.arms,WShape.armsAll])
    (show (WTm.eq .res (.lit (.bool true))).value [] { args:=args,res:=some (.bool true),after:=args } = some (.bool (true == true)) from w_eq_bool (w_res rfl) w_lit) rfl
theorem attach_call {l:OpenLaw} {n:Nat} {q:Program} {loose:List Str} {XP:(Str→Option Value)→Heap→Prop} {YP:World→Heap→Prop} {d:DefRec}
    (hn:l.most = some n) (hdf:d.params.defaults = [])
    (call:∀ (w:World) (s₀ s₁:Shared) (mg mb:Str→Option Value) (fa:Addr) (o:Obj) (pm cd doc:Value) (a:Addr) (vs:List Value) (ns:List Int),
      Ground q loose [] XP w s₀ mg mb s₁.heap→YP w s₁.heap →
      s₁.heap.get? fa = some o→o.data = .func (docDef d.name d.params d.body d.scope pm cd doc)→s₁.heap.CodeRec cd d.name→mg d.name = some (.ref fa) →
      s₁.heap.get? a = some { cls:=.type "list",data:=.seq vs.toArray }→IntsAre vs ns→ns.length≤n→s₁.gens = #[] →
      codeAny (model l.prog w) callerA (.call (.ref fa) ⟨[.ref a],[]⟩) (fun r s'=>r = .ok (.ret (.bool true))∧OldK s₁.heap s'.heap∧s'.os = s₁.os∧AllBare s'.gens) s₁) :
    WalkO q loose XP YP l.row.toRowW d [] (fun f vs=>PySem.call f vs):=by
  intro w s₀ s₁ mg mb G Y fa o pm cd doc dV kV ho hd hcd hD hmg hg args vals as hpre hlay hrd hwl hlo
  obtain rfl:dV = .none:=Dflts.none hD hdf
  obtain rfl:kV = .none:=Dflts.noKw hD
  obtain ⟨a,vs,ns,rfl,rfl,hobj,hints,hlen⟩:=pf hn hpre hwl
  refine enter_call (codeAny_mono (call w s₀ s₁ mg mb fa o pm cd doc a vs ns G Y ho (fd_plain hd) hcd hmg hobj hints hlen hg) fun r s' hq=>?_)
  obtain ⟨rfl,h2,h3,h4⟩:=hq
  exact ⟨.inl ⟨.bool true,.bool true,[],rfl,fun _=>rfl,.bool true,pT l _,fun _=>⟨List.Pairwise.nil,fun _ hm=>(nomatch hm)⟩⟩,h2,h3,h4⟩
section
variable {prog:Program} {w:World} {A:Around} {E:Value→Shared→Prop} {s:Shared} {K:Frag}
def zd (h:Heap) (L d:Addr):List (Addr×Obj):=(List.range h.objs.size).filterMap fun a=>if a = L∨a = d then none else (h.get? a).map fun o=>(a,o)
end
end Att
namespace L2
open PySem PySem.Spec PyProof.Rows
theorem j8:∀ {vs:List Value} {ns:List Int},IntsAre vs ns→Vals (ns.map V.int) vs
  | _,_,.nil=>.nil
  | _,_,.cons n t h=>.cons ⟨t,rfl⟩ (j8 h)
def zC (H:Hp):Prop:=∀ b,H b = none∨∃ o xs,H b = some (.frz o (.lst xs))
end L2
namespace L2
open PySem PySem.Spec PyProof.Rows
abbrev KOf {K:PySem.W.Frag} {h:Heap} (_:K.In h):PySem.W.Frag:=K
end L2
namespace L2
open PySem PySem.Spec PyProof.Rows
def aj (s:Stmt):Arguments:=match s with
  | .FunctionDef _ a _ _ _ _ _ _ _ _=>a
  | _=>{ posonlyargs:=[],args:=[],vararg:=none,kwonlyargs:=[],kw_defaults:=[],kwarg:=none,defaults:=[] }
def ai (s:Stmt):List Stmt:=match s with
  | .FunctionDef _ _ b _ _ _ _ _ _ _=>b
  | _=>[]
def ad (s:Stmt):Scope:=match s with
  | .FunctionDef _ _ _ _ _ _ sc _ _ _=>sc
  | _=>{ kind:=.function,names:=[],isGenerator:=false,isCoroutine:=false }
abbrev CX0:CXT:=fun _ _ _ _ _ _=>False
abbrev E0:XK:=fun _ _ _=>False
theorem aH {X:Cx}:jB CX0 X E0:=fun _ _ _ _ _ _ _ h=>h.elim
structure Fun (K:PySem.W.Frag) (x qual:Str) (st:Stmt) (f:Addr) (fd:FuncData):Prop where
  ex:∃ (oc:Value) (od:Option Addr) (kV doc pm:Value) (an:Option Addr) (cdv ct:Value) (osl:Array (Option Value)),
    fd = PySem.W.fnOf x qual (aj st) (ai st) (ad st) .none kV doc pm an cdv ct∧K.lookup f = some ⟨oc,od,.func fd,osl⟩∧PySem.W.codeIn K cdv qual = true
  kp:PySem.W.keepIn K (.ref f) = true
section
variable {P:Program} {w:World} {K:PySem.W.Frag} {mg:Str→Option Value} {base:Heap}
theorem Fun.ok {x qual:Str} {st:Stmt} {f:Addr} {fd:FuncData} {N ps:List Str} {k:Nat} {sp:Sp} (F:Fun K x qual st f fd) (S:FnScope N ps (ad st)) (len:∀ vs H Q E,sp vs H Q E→vs.length = ps.length)
    (hbody:∀ (cdv:Value) (A:Around) (outer:List Env) (s:Shared) (H:Hp) (vs:List V) (Q:VK) (E:XK),Room k (A.deeper (envOfC qual (ad st) s.heap.objs.size f cdv))→sp vs H Q E →
      ∃ t,PSs (gv CX0 P w K mg base N qual (ad st) f cdv A outer s H E).nox (ai st) t∧t { nx:=fun _ H'=>Q .non H',rt:=Q } (start N vs) H):FnOk P w K mg base CX0 (k + 1) f fd ps sp:=by
  obtain ⟨oc,od,kV,doc,pm,an,cdv,ct,osl,rfl,lk,hcd⟩:=F.ex
  refine vH lk hcd S len fun A outer s H vs Q E hr hsp=>?_
  obtain ⟨t,h,q⟩:=hbody cdv A outer s H vs Q E hr hsp
  exact ⟨t,h.nox,q⟩
theorem Fun.binds {x qual:Str} {st:Stmt} {f:Addr} {fd:FuncData} {ps:List Str} (F:Fun K x qual st f fd)
    (h:∀ (kV doc pm:Value) (an:Option Addr) (cdv ct:Value) (us:List Value),us.length = ps.length→bindArgs (PySem.W.fnOf x qual (aj st) (ai st) (ad st) .none kV doc pm an cdv ct) ⟨us,[]⟩ = pure (ps.zip us)):Binds K fd ps []:=by
  obtain ⟨oc,od,kV,doc,pm,an,cdv,ct,osl,rfl,lk,hcd⟩:=F.ex
  exact .all (h kV doc pm an cdv ct)
theorem aq {x qual:Str} {st:Stmt} {f:Addr} {oc:Value} {od an:Option Addr} {osl:Array (Option Value)} {kV doc pm cdv ct:Value} (l:K.lookup f = some ⟨oc,od,.func (PySem.W.fnOf x qual (aj st) (ai st) (ad st) .none kV doc pm an cdv ct),osl⟩)
    (c:PySem.W.codeIn K cdv qual = true) (k:PySem.W.keepIn K (.ref f) = true):Fun K x qual st f (PySem.W.fnOf x qual (aj st) (ai st) (ad st) .none kV doc pm an cdv ct):=⟨⟨oc,od,kV,doc,pm,an,cdv,ct,osl,rfl,l,c⟩,k⟩
end
theorem fo {A:Around} {k:Nat} (hr:Room k A):A.units + 1 < cLine:=Nat.lt_of_le_of_lt (Nat.add_le_add_left (by decide:1≤64) _) hr.units
section
variable {X:Cx}
theorem pv (i:Nat) {x:Str} {pos:Pos} (hN:X.N[i]? = some x:=by rfl) (hv:Vis X.env.scope x:=by first | exact Or.inl rfl | exact Or.inr (Or.inl rfl) | exact Or.inr (Or.inr rfl)) (hd:(x == ("__debug__" : Str)) = false:=by decide)
    (hcd:(x == ("__classdict__" : Str)) = false:=by decide):PE X (.Name x pos) (xN i):=sK hN hv hd hcd
end
theorem yW {A B:Prop} (h:B):if false = true then A else B:=by
  rw [if_neg Bool.false_ne_true]
  exact h
theorem xO {c A B:Prop} [Decidable c] (h1:c→A) (h2:¬ c→B):if c then A else B:=by
  by_cases h:c
  · rw [if_pos h]
    exact h1 h
  · rw [if_neg h]
    exact h2 h
theorem xK {c A B:Prop} [Decidable c] (hc:c) (h:B):if (!decide c) = true then A else B:=by
  rw [decide_eq_true hc]
  exact yW h
def Same (H H':Hp):Prop:=∀ b o,H b = some o→H' b = some o
theorem Same.refl (H:Hp):Same H H:=fun _ _ h=>h
theorem Same.trans {H H1 H2:Hp} (a:Same H H1) (b:Same H1 H2):Same H H2:=fun c o h=>b c o (a c o h)
theorem Same.free {H H':Hp} (e:Same H H') {l:Addr} (h:H' l = Option.none):H l = Option.none:=by
  cases q:H l with
  | none=>rfl
  | some o =>
    rw [e l o q] at h
    cases h
end L2
set_option maxHeartbeats 4000000
namespace L2
open PySem PySem.Spec PyProof.Rows
def Its (x:Str):It:=⟨fun i _=>i < x.cps.size,fun i H y H'=>H' = H∧∃ c,x.cps[i]? = some c∧y = .str ⟨#[c]⟩,fun i _=>x.cps.size≤i⟩
theorem lC {P:Program} {w:World} {K:PySem.W.Frag} {tg:Expr} (x:Str) (it:Addr) {ty:String} {t:Tok} (hty:ty = "str_ascii_iterator" ∨ ty = "str_iterator") :
    Turn P w K tg (Its x) [it] it (fun i h=>h.IsStrIter it ty x t i) where
  mem:=by simp
  obj:=fun i h st b hb=>by
    have e:b = it:=by simpa using hb
    subst e
    obtain ⟨o,e,c,d⟩:=st
    exact ⟨o,e,fun v z=>by rw [d] at z; cases z⟩
  keep:=fun i h h' st k=>by
    obtain ⟨o,e,r⟩:=st
    exact ⟨o,k it (by simp) o e,r⟩
  item:=by
    intro X hP hw hK hc i pins s σ H E I hf st hg
    subst hP hw hK
    have hi:i < x.cps.size:=hg
    obtain ⟨f0,f1,f2,f3,f4,f5⟩:=hf it (by simp)
    rcases hty with rfl | rfl
    · refine wpAny_pyNext_ascii_item st (c:=x.cps[i]) (by simp [hi]) fun h' st' sb=>?_
      have I1:Inv X pins σ H { s with heap:=h',toks:=s.toks + 1 }:=I.turned (fun b o hb e=>(sb.2 b hb).trans e) f0 f1 f3 f4 f5
      obtain ⟨o,e,c,d⟩:=id st'
      exact ⟨_,rfl,ke (s:={ s with heap:=h',toks:=s.toks + 1 }) e c d (by decide) ⟨.str ⟨#[x.cps[i]]⟩,H,I1,⟨_,rfl⟩,⟨rfl,x.cps[i],by simp [hi],rfl⟩,st',fun b hb=>(hf b hb).1⟩⟩
    · refine wpAny_pyNext_wide_item st (c:=x.cps[i]) (by simp [hi]) fun h' st' sb=>?_
      have I1:Inv X pins σ H { s with heap:=h',toks:=s.toks + 1 }:=I.turned (fun b o hb e=>(sb.2 b hb).trans e) f0 f1 f3 f4 f5
      obtain ⟨o,e,c,d⟩:=id st'
      exact ⟨_,rfl,ke (s:={ s with heap:=h',toks:=s.toks + 1 }) e c d (by decide) ⟨.str ⟨#[x.cps[i]]⟩,H,I1,⟨_,rfl⟩,⟨rfl,x.cps[i],by simp [hi],rfl⟩,st',fun b hb=>(hf b hb).1⟩⟩
  done:=by
    intro X hP hw hK hc i pins s σ H E I hf st hg
    subst hP hw hK
    have hi:x.cps.size≤i:=hg
    obtain ⟨f0,f1,f2,f3,f4,f5⟩:=hf it (by simp)
    rcases hty with rfl | rfl
    · exact wpAny_pyNext_ascii_end (I.ok.hd hc) st (by simp [hi]) fun h' eb=>⟨rfl,I.turned (t':=s.toks) (fun b o hb e=>eb b o hb e) f0 f1 f3 f4 f5⟩
    · exact wpAny_pyNext_wide_end (I.ok.hd hc) st (by simp [hi]) fun h' eb=>⟨rfl,I.turned (t':=s.toks) (fun b o hb e=>eb b o hb e) f0 f1 f3 f4 f5⟩
  self:=fun _ _ _ _ _ st h=>by
    rcases hty with rfl | rfl
    · exact wpAny_pyIter_striter_ascii st h
    · exact wpAny_pyIter_striter_wide st h
def yV (tl:TE):TI:=fun σ H R=>tl σ H fun x H1=>∃ z,x = .str z∧R (Its z) H1
theorem wG {X:Cx} {tg l:Expr} {tl:TE} (hl:PE X l tl):PI X tg l (yV tl):=by
  intro pins s σ H R I h
  refine thn (hl pins s σ H _ I h) fun v s1 ⟨x,H1,I1,r1,q1⟩=>?_
  obtain ⟨z,e,q⟩:=q1
  subst e
  obtain ⟨t,rfl⟩:=r1
  refine wpAny_pyIter_strU ?_
  refine ⟨s1.heap.objs.size,[s1.heap.objs.size],_,_,H1,rfl,I1.kept (t':=s1.toks) fun b o e=>Heap.get?_push_of_some _ e,lC (ty:=strIterType z) (t:=t) z _ ?_,⟨_,Heap.get?_push_size _ rfl,rfl,rfl⟩,fun b hb=>?_,q⟩
  · unfold strIterType
    split
    · exact .inl rfl
    · exact .inr rfl
  · have e:b = s1.heap.objs.size:=by simpa using hb
    subst e
    exact I1.fpOk (Nat.le_refl _) (I1.hok.fresh (Nat.le_refl _))
end L2
namespace L2
open PySem PySem.Spec PyProof.Rows
def Wk:St→St→Prop
  | [],[]=>True
  | Option.none :: r,_ :: q=>Wk r q
  | some a :: r,b :: q=>b = some a∧Wk r q
  | _,_=>False
theorem Wk.len:∀ {a b:St},Wk a b→a.length = b.length
  | [],[],_=>rfl
  | Option.none :: r,_ :: q,h=>congrArg (· + 1) (Wk.len (a:=r) (b:=q) h)
  | some _ :: r,_ :: q,h=>congrArg (· + 1) (Wk.len (a:=r) (b:=q) h.2)
  | [],_ :: _,h=>h.elim
  | Option.none :: _,[],h=>h.elim
  | some _ :: _,[],h=>h.elim
theorem Wk.get:∀ {a b:St},Wk a b→∀ (i:Nat) v,a[i]? = some (some v)→b[i]? = some (some v)
  | [],[],_,i,v,e=>by simp at e
  | Option.none :: r,y :: q,h,0,v,e=>by simp at e
  | Option.none :: r,y :: q,h,i + 1,v,e=>by simpa using Wk.get (a:=r) (b:=q) h i v (by simpa using e)
  | some x :: r,y :: q,h,0,v,e=>by
    have e':x = v:=by simpa using e
    rw [h.1,e'] <;> simp
  | some x :: r,y :: q,h,i + 1,v,e=>by simpa using Wk.get (a:=r) (b:=q) h.2 i v (by simpa using e)
  | [],_ :: _,h,_,_,_=>h.elim
  | Option.none :: _,[],h,_,_,_=>h.elim
  | some _ :: _,[],h,_,_,_=>h.elim
def dO (cells:List (Str×Addr)):List (Str×NameKind)→List (Str×Addr)→List (Str×Addr)
  | [],acc=>acc
  | (n,k) :: r,acc=>if k == .free then dO cells r ((n,(cells.lookup n).getD 0) :: acc) else dO cells r acc
theorem eU {sc:Scope} {env:Env} (h:∀ y ∈ sc.names,y.2 = .free→∃ c,env.cells.lookup y.1 = some c):closureFor sc env = pure (dO env.cells sc.names []):=by
  unfold closureFor
  have key:∀ (l:List (Str×NameKind)) (acc:List (Str×Addr)),(∀ y ∈ l,y.2 = .free→∃ c,env.cells.lookup y.1 = some c) →
      (forIn l acc fun x r=>match x with | (name,kind)=>if (kind == .free) = true then do let a ← cellOf env name; pure (ForInStep.yield ((name,a) :: r)) else pure (ForInStep.yield r):Sem (List (Str×Addr))) = pure (dO env.cells l acc):=by
    intro l
    induction l with
    | nil=>intro acc _; rfl
    | cons y r ih =>
      intro acc hy
      obtain ⟨n,k⟩:=y
      have hr:∀ y ∈ r,y.2 = .free→∃ c,env.cells.lookup y.1 = some c:=fun y hm=>hy y (List.mem_cons_of_mem _ hm)
      rw [List.forIn_cons]
      by_cases hk:k = .free
      · subst hk
        obtain ⟨c,hc⟩:=hy (n,.free) List.mem_cons_self rfl
        have e1:cellOf env n = pure c:=by unfold cellOf; rw [hc]
        have e2:dO env.cells ((n,.free) :: r) acc = dO env.cells r ((n,c) :: acc):=by
          show (if (NameKind.free == NameKind.free) = true then dO env.cells r ((n,(env.cells.lookup n).getD 0) :: acc) else dO env.cells r acc) = _
          rw [if_pos (by decide),hc]; rfl
        rw [e2,← ih ((n,c) :: acc) hr]
        show (do let x ← (if (NameKind.free == NameKind.free) = true then do let a ← cellOf env n; pure (ForInStep.yield ((n,a) :: acc)) else pure (ForInStep.yield acc):Sem _); _) = _
        rw [if_pos (by decide),e1]
        rfl
      · have hb:(k == NameKind.free) = false:=by simpa using hk
        have e2:dO env.cells ((n,k) :: r) acc = dO env.cells r acc:=by
          show (if (k == NameKind.free) = true then dO env.cells r ((n,(env.cells.lookup n).getD 0) :: acc) else dO env.cells r acc) = _
          rw [hb]; rfl
        rw [e2,← ih acc hr]
        show (do let x ← (if (k == NameKind.free) = true then do let a ← cellOf env n; pure (ForInStep.yield ((n,a) :: acc)) else pure (ForInStep.yield acc):Sem _); _) = _
        rw [hb]
        rfl
  have:=key sc.names [] h
  first | exact this | (rw [this]; rfl) | simpa using this
theorem dS {cells:List (Str×Addr)}:∀ {l:List (Str×NameKind)} {acc:List (Str×Addr)} {n:Str} {c:Addr},(∀ y ∈ l,y.2 = .free→∃ c,cells.lookup y.1 = some c)→(∀ n c,acc.lookup n = some c→cells.lookup n = some c) →
    (dO cells l acc).lookup n = some c→cells.lookup n = some c
  | [],acc,n,c,_,ha,e=>ha n c e
  | (m,k) :: r,acc,n,c,hl,ha,e=>by
    have hr:∀ y ∈ r,y.2 = .free→∃ c,cells.lookup y.1 = some c:=fun y hm=>hl y (List.mem_cons_of_mem _ hm)
    have e':(if (k == NameKind.free) = true then dO cells r ((m,(cells.lookup m).getD 0) :: acc) else dO cells r acc).lookup n = some c:=e
    by_cases hk:(k == NameKind.free) = true
    · rw [if_pos hk] at e'
      refine dS hr (fun n c z=>?_) e'
      obtain ⟨d,hd⟩:=hl (m,k) List.mem_cons_self (by simpa using hk)
      rw [List.lookup_cons] at z
      by_cases hn:(n == m) = true
      · rw [hn] at z
        have:n = m:=by simpa using hn
        subst this
        have hd':cells.lookup n = some d:=hd
        rw [hd'] at z ⊢
        simpa using z
      · have hn':(n == m) = false:=by simpa using hn
        rw [hn'] at z
        exact ha n c z
    · rw [if_neg hk] at e'
      exact dS hr ha e'
theorem fR {cells:List (Str×Addr)}:∀ {l:List (Str×NameKind)} {acc:List (Str×Addr)} {n:Str},((n,NameKind.free) ∈ l∨∃ c,acc.lookup n = some c)→∃ c,(dO cells l acc).lookup n = some c
  | [],acc,n,h=>by
    rcases h with h | h
    · cases h
    · exact h
  | (m,k) :: r,acc,n,h=>by
    show ∃ c,(if (k == NameKind.free) = true then dO cells r ((m,(cells.lookup m).getD 0) :: acc) else dO cells r acc).lookup n = some c
    have hcons:∀ a,n = m∨(∃ c,acc.lookup n = some c)→∃ c,((m,a) :: acc).lookup n = some c:=fun a z=>by
      rw [List.lookup_cons]
      by_cases hn:(n == m) = true
      · rw [hn]; exact ⟨_,rfl⟩
      · have hn':(n == m) = false:=by simpa using hn
        rw [hn']
        rcases z with z | z
        · exact absurd (by simpa using z) hn
        · exact z
    by_cases hk:(k == NameKind.free) = true
    · rw [if_pos hk]
      refine fR ?_
      rcases h with h | h
      · rcases List.mem_cons.mp h with e | h
        · exact .inr (hcons _ (.inl (congrArg Prod.fst e)))
        · exact .inl h
      · exact .inr (hcons _ (.inr h))
    · rw [if_neg hk]
      refine fR ?_
      rcases h with h | h
      · rcases List.mem_cons.mp h with e | h
        · have:k = .free:=(congrArg Prod.snd e).symm
          rw [this] at hk
          exact absurd (by decide) hk
        · exact .inl h
      · exact .inr h
def rlb (env:Env) (p:Str×NameKind):Str×NameKind:=if (p.2 == NameKind.free && env.scope.kind == ScopeKind.function && env.kindOf p.1 == some NameKind.cell) = true then (p.1,NameKind.cell) else p
theorem jV (sc:Scope) (env:Env):(relabel sc env).names = sc.names.map (rlb env):=rfl
theorem uE (env:Env) (p:Str×NameKind):(rlb env p).1 = p.1:=by
  unfold rlb
  split <;> rfl
theorem qH {env:Env} {p:Str×NameKind} (h:p.2≠.cell) (h2:(rlb env p).2 = .cell∨(rlb env p).2 = .free):p.2 = .free:=by
  unfold rlb at h2
  split at h2
  · rename_i q
    rw [Bool.and_eq_true,Bool.and_eq_true] at q
    simpa using q.1.1
  · rcases h2 with h2 | h2
    · exact absurd h2 h
    · exact h2
theorem gk {env:Env}:∀ {names:List (Str×NameKind)} {x:Str} {k:NameKind},(∀ y ∈ names,y.2≠.cell)→(k = .cell∨k = .free)→(names.map (rlb env)).lookup x = some k→(x,NameKind.free) ∈ names
  | [],x,k,_,_,e=>by simp at e
  | p :: r,x,k,hc,hk,e=>by
    have hr:∀ y ∈ r,y.2≠.cell:=fun y hm=>hc y (List.mem_cons_of_mem _ hm)
    have e0:rlb env p = (p.1,(rlb env p).2):=by rw [← uE env p]
    rw [List.map_cons,e0,List.lookup_cons] at e
    by_cases hx:x = p.1
    · have hb:(x == p.1) = true:=by simpa using hx
      rw [hb] at e
      have e2:(rlb env p).2 = k:=Option.some.inj e
      have hj:=qH (env:=env) (hc p List.mem_cons_self) (by rw [e2]; exact hk)
      have:(x,NameKind.free) = p:=by rw [hx,← hj]
      rw [this]
      exact List.mem_cons_self
    · have hb:(x == p.1) = false:=by simpa using hx
      rw [hb] at e
      exact List.mem_cons_of_mem _ (gk hr hk e)
theorem eP {env:Env} {sc:Scope} {x:Str} {k:NameKind} (hc:∀ y ∈ sc.names,y.2≠.cell) (hk:k = .cell∨k = .free) (e:(relabel sc env).names.lookup x = some k):(x,NameKind.free) ∈ sc.names :=
  gk (env:=env) hc hk (by rw [← jV]; exact e)
def pC (ix:List (Option Nat)) (σ:St):St:=ix.map fun o=>o.bind fun i=>(σ[i]?).join
def FreeOk (XN:List Str) (env:Env) (sc:Scope):List Str→List (Option Nat)→Prop
  | [],[]=>True
  | _ :: N,Option.none :: ix=>FreeOk XN env sc N ix
  | y :: N,some i :: ix=>XN[i]? = some y∧env.kindOf y = some .cell∧(relabel sc env).names.lookup y = some .cell∧FreeOk XN env sc N ix
  | _,_=>False
theorem FreeOk.len {XN:List Str} {env:Env} {sc:Scope}:∀ {N:List Str} {ix:List (Option Nat)},FreeOk XN env sc N ix→ix.length = N.length
  | [],[],_=>rfl
  | _ :: N,Option.none :: ix,h=>congrArg (· + 1) (FreeOk.len (N:=N) (ix:=ix) h)
  | _ :: N,some _ :: ix,h=>congrArg (· + 1) (FreeOk.len (N:=N) (ix:=ix) h.2.2.2)
  | [],_ :: _,h=>h.elim
  | _ :: _,[],h=>h.elim
theorem FreeOk.get {XN:List Str} {env:Env} {sc:Scope}:∀ {N:List Str} {ix:List (Option Nat)},FreeOk XN env sc N ix→∀ (j:Nat) (y:Str) (i:Nat),N[j]? = some y→ix[j]? = some (some i) →
    XN[i]? = some y∧env.kindOf y = some .cell∧(relabel sc env).names.lookup y = some .cell
  | [],[],_,j,y,i,e,_=>by simp at e
  | _ :: N,Option.none :: ix,h,0,y,i,e,e2=>by simp at e2
  | _ :: N,Option.none :: ix,h,j + 1,y,i,e,e2=>FreeOk.get (N:=N) (ix:=ix) h j y i (by simpa using e) (by simpa using e2)
  | z :: N,some k :: ix,h,0,y,i,e,e2=>by
    have e':z = y:=by simpa using e
    have e2':k = i:=by simpa using e2
    subst e'; subst e2'
    exact ⟨h.1,h.2.1,h.2.2.1⟩
  | _ :: N,some _ :: ix,h,j + 1,y,i,e,e2=>FreeOk.get (N:=N) (ix:=ix) h.2.2.2 j y i (by simpa using e) (by simpa using e2)
  | [],_ :: _,h,_,_,_,_,_=>h.elim
  | _ :: _,[],h,_,_,_,_,_=>h.elim
def cxB (X:Cx) (sc:Scope) (C:Addr) (N:List Str) (s₀:Shared) (H₀:Hp) (fp:List Addr):Cx :=
  { X with N:=N,s₀:=s₀,H₀:=H₀,env:=compEnvC sc (dO X.env.cells sc.names []) C X.env,outer:=X.stack,ex:=fp,fn:=fun _=>false,pn:=[],xe:=fun _ _=>False }
structure CompOk (X:Cx) (sc:Scope) (N:List Str) (ix:List (Option Nat)):Prop where
  kind:sc.kind = .function
  nocell:(sc.names.all fun y=>y.2 != .cell) = true
  names:(sc.names.all fun y=>y.2 != .local || sc.names.lookup y.1 == some .local) = true
  free:(sc.names.all fun y=>y.2 != .free || X.env.scope.names.lookup y.1 == some .cell) = true
  fr:FreeOk X.N X.env sc N ix
section
variable {X:Cx} {sc:Scope} {N:List Str} {ix:List (Option Nat)} {pins:List (Addr×Obj)} {σ:St} {H:Hp} {s:Shared}
theorem CompOk.cells (c:CompOk X sc N ix) (ok:X.Ok):∀ y ∈ sc.names,y.2 = .free→∃ c,X.env.cells.lookup y.1 = some c:=fun y hy e=>by
  have h:=List.all_eq_true.mp c.free y hy
  rw [e] at h
  have h':X.env.scope.names.lookup y.1 = some .cell:=by simpa using h
  exact ok.has y.1 (.inl h')
theorem CompOk.nc (c:CompOk X sc N ix):∀ y ∈ sc.names,y.2≠.cell:=fun y hy=>by simpa using List.all_eq_true.mp c.nocell y hy
theorem CompOk.nm (c:CompOk X sc N ix):∀ y ∈ sc.names,y.2 = .local→sc.names.lookup y.1 = some .local:=fun y hy e=>by
  have h:=List.all_eq_true.mp c.names y hy
  rw [e] at h
  simpa using h
theorem p6 {C:Addr} {fp:List Addr} {h₁:Heap} {t':Nat} (c:CompOk X sc N ix) (I:Inv X pins σ H s) (hf:∀ b ∈ fp,fE X pins H b) (hfp:∀ b ∈ fp,b < s.heap.objs.size) (hC:s.heap.objs.size≤C)
    (hn:h₁.Ns C (fun _=>none)) (old:∀ b o,s.heap.get? b = some o→h₁.get? b = some o):Inv (cxB X sc C N s H fp) [] (pC ix σ) H { s with heap:=h₁,toks:=t' }:=by
  have hcells:=c.cells I.ok
  have sub:∀ n c,(dO X.env.cells sc.names []).lookup n = some c→X.env.cells.lookup n = some c:=fun n c e=>dS hcells (fun n c z=>by simp at z) e
  refine ⟨⟨I.ok.mod,c.kind,I.ok.glob,I.ok.blt,hC,fun x y d h1 h2=>I.ok.inj x y d (sub x d h1) (sub y d h2),fun x hx=>?_,fun x d z=>absurd z (by simp [cxB]),I.ok.hd,I.ok.frames,.inl rfl,fun b hb=>⟨?_,fun x d e=>?_⟩,I.bs,Nat.le_trans I.ok.bsz I.sz,fun b o e hb=>?_,fun b hb hs=>?_,I.stack,I.stkFree⟩,
    rfl,I.bare,Un.kept old,⟨_,hn,fun j y v e1 e2 e3=>?_⟩,fun x d e=>?_,I.hok.fresh hC,fun x d e=>I.freeC x d (sub x d e),fun p hp=>absurd (show p ∈ ([]:List (Addr×Obj)) from hp) (by simp),I.hok.kept old,?_⟩
  · refine fR (.inl ?_)
    rcases hx with hx | hx
    · exact eP c.nc (.inl rfl) (show (relabel sc X.env).names.lookup x = some .cell from hx)
    · exact eP c.nc (.inr rfl) (show (relabel sc X.env).names.lookup x = some .free from hx)
  · exact Nat.ne_of_lt (Nat.lt_of_lt_of_le (hfp b hb) hC)
  · exact (hf b hb).2.2.2.2.1 x d (sub x d e)
  · rcases (hf b hb).2.2.2.1 with z | z
    · exact I.ok.noex b o e z
    · exact absurd (Nat.lt_of_lt_of_le (Heap.lt_size e) (Nat.le_trans I.ok.bsz z)) (Nat.lt_irrefl _)
  · rcases List.mem_cons.mp (I.stkSub b hs) with z | z
    · exact (hf b hb).2.1 z
    · exact (hf b hb).2.2.1 z
  · have hj:∃ i,ix[j]? = some (some i)∧σ[i]? = some (some v):=by
      unfold pC at e2
      rw [List.getElem?_map] at e2
      cases q:ix[j]? with
      | none=>rw [q] at e2; cases e2
      | some o =>
        rw [q] at e2
        cases o with
        | none=>cases e2
        | some i =>
          refine ⟨i,rfl,?_⟩
          have e2':(σ[i]?).join = some v:=Option.some.inj e2
          cases q2:σ[i]? with
          | none=>rw [q2] at e2'; cases e2'
          | some w=>rw [q2] at e2'; exact congrArg some e2'
    obtain ⟨i,hi,hv⟩:=hj
    obtain ⟨k1,k2,k3⟩:=c.fr.get j y i e1 hi
    obtain ⟨m,hm,hl⟩:=I.loc
    obtain ⟨u,r,l⟩:=hl i y v k1 hv (.inr (.inl k2))
    refine ⟨u,r,?_⟩
    rcases l with ⟨z,_⟩ | ⟨_,d,hd,hcell⟩
    · rw [k2] at z; cases z
    · obtain ⟨d',hd'⟩:∃ d',(dO X.env.cells sc.names []).lookup y = some d':=fR (.inl (eP c.nc (.inl rfl) k3))
      have:=sub y d' hd'
      rw [hd] at this
      cases this
      exact .inr ⟨.inl k3,d,hd',hcell.keeps old⟩
  · obtain ⟨v,z⟩:=I.cell x d (sub x d e)
    exact ⟨v,z.keeps old⟩
  · show (pC ix σ).length = N.length
    unfold pC
    rw [List.length_map,c.fr.len]
theorem mh {C:Addr} {fp:List Addr} {pins':List (Addr×Obj)} {σ':St} {H':Hp} {s':Shared} (I:Inv X pins σ H s) (hf:∀ b ∈ fp,fE X pins H b) (J:Inv (cxB X sc C N s H fp) pins' σ' H' s'):Inv X pins σ H' s':=by
  refine I.call' (ch:=fp) J.os J.base J.hok J.bare fun b hb=>?_
  obtain ⟨f0,f1,f2,f3,f4,f5⟩:=hf b hb
  exact ⟨f3,f1,f4,f5⟩
end
def PTs (X:Cx) (ifs:List Expr) (t:TT):Prop :=
  ∀ (pins:List (Addr×Obj)) (s:Shared) (σ:St) (H:Hp) (Q:Bool→Hp→Prop),Inv X pins σ H s→t σ H Q →
    wpAny (model X.prog X.w) X.A (forIn ifs true fun c r=>if r = true then do let ok ← isTrue c X.env (eval c X.env); pure (ForInStep.yield ok) else pure (ForInStep.yield r)) (TP X pins σ Q) X.xe s
def zp:TT:=fun _ H Q=>Q true H
theorem bY {X:Cx}:PTs X [] zp:=fun _ _ _ H _ I h=>wpAny_tests_nil ⟨H,I,h⟩
theorem eK {X:Cx} {c:Expr} {t:TT} (h:PT X c t):PTs X [c] t:=fun pins s σ H Q I hw=>wpAny_tests_one (h pins s σ H Q I hw)
def jr (J:It) (D:Addr) (σb:St) (g:TG) (tt:TT) (te:TE) (Q:Hp→List V→Prop) (W:Nat→Nat→List V→Hp→Prop):Prop :=
  ∀ i m ys H,W i m ys H→H D = some (.lst ys)∧((J.stop i H∧Q H ys)∨(J.go i H∧∀ x H3,J.yld i H x H3→g x σb H3 fun σ4 H4=>Wk σb σ4∧tt σ4 H4 fun b H5 =>
    if b = true then te σ4 H5 fun y H6=>H6 D = some (.lst ys)∧ys.length < sizeLine∧∃ m',m' < m∧W (i + 1) m' (ys ++ [y]) (upd H6 D (.lst (ys ++ [y]))) else ∃ m',m' < m∧W (i + 1) m' ys H5))
def vx (ix:List (Option Nat)) (wi:TI) (g:TG) (tt:TT) (te:TE):TE:=fun σ H Q=>wi σ H fun J H1=>∀ D,H1 D = none→∃ W,(∃ m,W 0 m [] (upd H1 D (.lst [])))∧jr J D (pC ix σ) g tt te (fun H _=>Q (.ref D) H) W
section
variable {X:Cx} {sc:Scope} {N:List Str} {ix:List (Option Nat)} {elt tg iter:Expr} {ifs:List Expr} {pos:Pos} {wi:TI} {g:TG} {tt:TT} {te:TE}
structure Blk (X:Cx) (sc:Scope) (N:List Str) (tg elt:Expr) (ifs:List Expr) (g:TG) (tt:TT) (te:TE):Prop where
  tg:∀ C s H fp,PG (cxB X sc C N s H fp) tg g
  tests:∀ C s H fp,PTs (cxB X sc C N s H fp) ifs tt
  elt:∀ C s H fp,PE (cxB X sc C N s H fp) elt te
theorem pD {J:It} {fp:List Addr} {it D:Addr} {tn:Nat→Heap→Prop} {σb:St} {Q:Hp→List V→Prop} {R:Result→Shared→Prop} {W:Nat→Nat→List V→Hp→Prop}
    (hc:X.calm = true) (hxe:X.xe = fun _ _=>False) (T:Turn X.prog X.w X.K tg J fp it tn) (hg:PG X tg g) (ht:PTs X ifs tt) (he:PE X elt te) (bG:jr J D σb g tt te Q W)
    (stat:∀ {H':Hp},(∀ b ∈ fp,H' b = none)→∀ b ∈ fp,fE X [] H' b)
    (fin:∀ {σ':St} {H':Hp} {s':Shared} {ys:List V},Inv X [] σ' H' s'→Q H' ys→R (.ok .next) s')
    {m0 i0:Nat} {ys0:List V} {H0:Hp} {s0:Shared} (I0:Inv X [] σb H0 s0) (st0:tn i0 s0.heap) (fr0:∀ b ∈ fp,H0 b = none) (w0:W i0 m0 ys0 H0) :
    codeAny (model X.prog X.w) X.A (.compLoop (.ListComp elt [⟨tg,iter,ifs,0⟩] sc pos) 0 (.ref it) (.ref D) X.env) R s0:=by
  have noE:∀ {E':Value→Shared→Prop} (e:Value) (s':Shared),X.xe e s'→E' e s':=fun {E'} e s' z=>by rw [hxe] at z; exact z.elim
  refine codeAny_loop rfl (fun n s'=>∃ i ys H',Inv X [] σb H' s'∧tn i s'.heap∧(∀ b ∈ fp,H' b = none)∧W i n ys H') ?_ m0 ⟨i0,ys0,H0,I0,st0,fr0,w0⟩
  rintro n s3 ⟨i,ys,H3,I3,st3,fr3,w3⟩
  show wpAny _ X.A ((compTurn (.ListComp elt [⟨tg,iter,ifs,0⟩] sc pos) 0 (.ref it) (.ref D) X.env).onRaise (fun x=>do noteFrame x X.env; theTreesLotGoes x)) _ _ s3
  refine wpAny_noted ?_
  rw [compTurn_list]
  refine wpAny_bind (wpAny_standAt (wpAny_bind ?_))
  obtain ⟨hDl,next⟩:=bG i n ys H3 w3
  rcases next with ⟨stop,q⟩ | ⟨go,step⟩
  · refine thn (T.done X rfl rfl rfl hc i [] s3 σb H3 _ I3 (stat fr3) st3 stop) fun r s4 ⟨hr,I4⟩=>?_
    subst hr
    exact wpAny_pure (fin I4 q)
  · refine thn (T.item X rfl rfl rfl hc i [] s3 σb H3 _ I3 (stat fr3) st3 go) fun r s4 ⟨u,hr,h4⟩=>?_
    subst hr
    refine wpAny_bind (thn h4 fun _ s5 ⟨x,H5,I5,r5,y5,st5,fr5⟩=>?_)
    have I5':=I5.pinned (stat fr5) (T.obj _ _ st5)
    have back:∀ {σ':St} {H':Hp} {s':Shared},Inv X ([] ++ jJ fp s5.heap) σ' H' s'→Wk σb σ'→Inv X [] σb H' s'∧tn (i + 1) s'.heap∧∀ b ∈ fp,H' b = none:=fun {σ' H' s'} I7 wk=>by
      refine ⟨(I7.unpinned).weak wk.len wk.get,T.keep _ _ _ st5 fun b hb o e=>(I7.pin (b,o) (List.mem_append_right _ (List.mem_append_right _ (eJ hb e)))).1,fun b hb=>?_⟩
      obtain ⟨o,e,d⟩:=T.obj _ _ st5 b hb
      exact (I7.pin (b,o) (List.mem_append_right _ (List.mem_append_right _ (eJ hb e)))).2.1
    refine wpAny_bind (wpAny_mono (hg _ s5 σb H5 x u _ I5' r5 (step x H5 y5)) (fun _ s6 ⟨σ6,H6,I6,wk,q6⟩=>?_) noE)
    refine wpAny_bind (wpAny_mono (ht _ s6 σ6 H6 _ I6 q6) (fun ok s7 ⟨H7,I7,q7⟩=>?_) noE)
    cases ok with
    | false =>
      obtain ⟨m',hm,w7⟩:=q7
      obtain ⟨b1,b2,b3⟩:=back I7 wk
      exact wpAny_pure ⟨rfl,m',hm,i + 1,ys,H7,b1,b2,b3,w7⟩
    | true =>
      refine wpAny_bind (wpAny_bind (wpAny_mono (he _ s7 σ6 H7 _ I7 q7) (fun v s8 ⟨y,H8,I8,r8,hD8,hl8,m',hm,w8⟩=>?_) noE))
      refine wpAny_bind (wpAny_mono (kh _ s8 σ6 H8 (.ref D) [y] (.ref D) [v] (fun _ H9=>H9 = upd H8 D (.lst (ys ++ [y]))) I8 rfl (.cons r8 .nil) ⟨D,ys,y,rfl,rfl,hD8,hl8,rfl⟩) (fun _ s9 ⟨z,H9,I9,_,e9⟩=>?_) noE)
      subst e9
      obtain ⟨b1,b2,b3⟩:=back I9 wk
      exact wpAny_pure (wpAny_pure ⟨rfl,m',hm,i + 1,ys ++ [y],_,b1,b2,b3,w8⟩)
theorem ky {pins:List (Addr×Obj)} {σ:St} {H:Hp} {s:Shared} {E:Value→Shared→Prop} {RR:Value→Addr→Result→Shared→Prop} {it:Addr} {fp:List Addr} {tn:Nat→Heap→Prop} {J:It} {Q:Addr→Hp→List V→Prop}
    (hc:X.calm = true) (c:CompOk X sc N ix) (B:Blk X sc N tg elt ifs g tt te) (I:Inv X pins σ H s) (T:Turn X.prog X.w X.K tg J fp it tn) (st:tn 0 s.heap) (hf:∀ b ∈ fp,fE X pins H b)
    (h:∀ D,H D = none→∃ W,(∃ m,W 0 m [] (upd H D (.lst [])))∧jr J D (pC ix σ) g tt te (Q D) W)
    (hR:∀ D C H' s' ys,Inv X pins σ H' s'→fE X pins H' C→(∃ m,s'.heap.Ns C m)→Q D H' ys→RR (.ref D) C (.ok .next) s') :
    wpAny (model X.prog X.w) X.A (newList []) (fun acc s₃=>wpAny (model X.prog X.w) X.A (newFunctionEnv sc X.env.globals (dO X.env.cells sc.names []) [] X.env.qual none .none (some X.env)) (fun cenv s₄ =>
      codeAny (model X.prog X.w) X.A (.compStart (.ListComp elt [⟨tg,iter,ifs,0⟩] sc pos) 0 (.ref it) acc { cenv with scope:=relabel sc X.env }) (RR acc cenv.locals) s₄) E s₃) E s:=by
  have hlt:∀ b ∈ fp,b < s.heap.objs.size:=fun b hb=>let ⟨o,e,_⟩:=T.obj _ _ st b hb; Heap.lt_size e
  refine wpAny_newObj_type ?_ (by show 0≤sizeLine; exact Nat.zero_le _)
  have hD:H s.heap.objs.size = none:=I.hok.fresh (Nat.le_refl _)
  obtain ⟨W,⟨m0,w0⟩,bG⟩:=h s.heap.objs.size hD
  have I1:Inv X pins σ (upd H s.heap.objs.size (.lst [])) { s with heap:=s.heap.push { cls:=.type "list",data:=.seq ([]:List Value).toArray } }:=I.lnew (t':=s.toks) (its:=[]) .nil (Nat.zero_le _)
  have k1:∀ b o,s.heap.get? b = some o→(s.heap.push { cls:=.type "list",data:=.seq ([]:List Value).toArray }).get? b = some o:=fun b o e=>Heap.get?_push_of_some _ e
  have hne:∀ b ∈ fp,b≠s.heap.objs.size:=fun b hb=>Nat.ne_of_lt (hlt b hb)
  have hf1:∀ b ∈ fp,fE X pins (upd H s.heap.objs.size (.lst [])) b:=fun b hb=>⟨by rw [ao (hne b hb)]; exact (hf b hb).1,(hf b hb).2⟩
  have st1:tn 0 (s.heap.push { cls:=.type "list",data:=.seq ([]:List Value).toArray }):=T.keep _ _ _ st fun b _ o e=>k1 b o e
  generalize hs1:({ s with heap:=s.heap.push { cls:=.type "list",data:=.seq ([]:List Value).toArray } }:Shared) = s1 at I1
  have hs1h:s1.heap = s.heap.push { cls:=.type "list",data:=.seq ([]:List Value).toArray }:=by rw [← hs1]
  generalize hDe:s.heap.objs.size = D at *
  show wpAny _ _ _ _ _ s1
  refine wpAny_newFunctionEnv c.nc (by intro y hy; simp at hy) (fun h₁ hns₁ hsb₁=>?_) c.kind
  have old:∀ b o,s1.heap.get? b = some o→h₁.get? b = some o:=fun b o e=>(hsb₁.2 b (Nat.ne_of_lt (Heap.lt_size e))).trans (Heap.get?_push_of_some _ e)
  have hlt1:∀ b ∈ fp,b < s1.heap.objs.size:=fun b hb=>by
    obtain ⟨o,e,_⟩:=T.obj _ _ st1 b hb
    rw [hs1h]
    exact Heap.lt_size e
  have J0:=p6 (h₁:=h₁) (t':=s1.toks + ([]:List (Str×Value)).length) c I1 hf1 hlt1 (Nat.le_refl _) (by simpa using hns₁) old
  have stB:tn 0 h₁:=T.keep _ _ _ (by rw [hs1h]; exact st1:tn 0 s1.heap) fun b _ o e=>old b o e
  have fpB:∀ {H':Hp},(∀ b ∈ fp,H' b = none)→∀ b ∈ fp,fE (cxB X sc s1.heap.objs.size N s1 (upd H D (.lst [])) fp) [] H' b:=fun {H'} hn b hb=>by
    obtain ⟨f0,f1,f2,f3,f4,f5⟩:=hf1 b hb
    refine ⟨hn b hb,Nat.ne_of_lt (hlt1 b hb),?_,.inl hb,fun x d e=>f4 x d (dS (c.cells I.ok) (fun n c z=>by simp at z) e),fun p hp=>absurd (show p ∈ ([]:List (Addr×Obj)) from hp) (by simp)⟩
    intro z
    rcases List.mem_cons.mp (I1.stkSub b z) with q | q
    · exact f1 q
    · exact f2 q
  have fin:∀ {σ':St} {H':Hp} {s':Shared} {ys:List V},Inv (cxB X sc s1.heap.objs.size N s1 (upd H D (.lst [])) fp) [] σ' H' s'→Q D H' ys→RR (.ref D) s1.heap.objs.size (.ok .next) s':=fun {σ' H' s' ys} J q =>
    hR D _ H' s' ys (mh I1 hf1 J) (I1.fpOk (Nat.le_refl _) J.free) (let ⟨m,hn,_⟩:=J.loc; ⟨m,hn⟩) q
  have loop:codeAny (model X.prog X.w) X.A (.compLoop (.ListComp elt [⟨tg,iter,ifs,0⟩] sc pos) 0 (.ref it) (.ref D) (cxB X sc s1.heap.objs.size N s1 (upd H D (.lst [])) fp).env) (RR (.ref D) s1.heap.objs.size) { s1 with heap:=h₁,toks:=s1.toks + ([]:List (Str×Value)).length } :=
    pD (X:=cxB X sc s1.heap.objs.size N s1 (upd H D (.lst [])) fp) hc rfl T (B.tg _ _ _ _) (B.tests _ _ _ _) (B.elt _ _ _ _) bG fpB fin J0 stB (fun b hb=>(hf1 b hb).1) w0
  exact codeAny_compStart_list loop (T.self _ 0 _ _ _ stB loop)
theorem cA (hc:X.calm = true) (c:CompOk X sc N ix) (hi:PI X tg iter wi) (B:Blk X sc N tg elt ifs g tt te) (hs:∀ x,foldedSetIterable iter X.env x = pure x:=by intro _; rfl):PE X (.ListComp elt [⟨tg,iter,ifs,0⟩] sc pos) (vx ix wi g tt te):=by
  intro pins s σ H Q I h
  rw [eval_ListComp]
  refine wpAny_comprehension_free (use:=none) rfl hs (eU (c.cells I.ok)) c.kind c.nm (thn (hi pins s σ H _ I h) fun xv s₁ h₁=>thn h₁ fun itv s₂ h₂=>?_)
  obtain ⟨it,fp,tn,J,H2,e,I2,T,st2,f2,q2⟩:=h₂
  subst e
  refine ky (RR:=fun acc C=>compPost (model X.prog X.w) X.A X.xe none (EP X pins σ Q) acc C) (Q:=fun D H _=>Q (.ref D) H) hc c B I2 T st2 f2 q2 ?_
  intro D C H' s' ys I' fC ns q
  refine ⟨_,ns.choose_spec,fun h' sb=>⟨.ref D,H',?_,rfl,q⟩⟩
  obtain ⟨f0,f1,f2,f3,f4,f5⟩:=fC
  exact I'.turned (t':=s'.toks) (fun b o hb e=>(sb.2 b hb).trans e) f0 f1 f3 f4 f5
theorem dA {i:Nat} {y:Str} {py spos:Pos} (hc:X.calm = true) (hN:X.N.Nodup) (hy:X.N[i]? = some y) (hl:X.env.scope.names.lookup y = some .local)
    (hsw:swapsWith (.ListComp elt [⟨tg,iter,ifs,0⟩] sc pos) (some (.Name y py)) spos.line X.env = pure true)
    (c:CompOk X sc N ix) (hi:PI X tg iter wi) (B:Blk X sc N tg elt ifs g tt te) (hs:∀ x,foldedSetIterable iter X.env x = pure x:=by intro _; rfl) :
    PS X (.Assign [.Name y py] (.ListComp elt [⟨tg,iter,ifs,0⟩] sc pos) spos) (uY (vx ix wi g tt te) (nY i)):=by
  intro pins s σ H D0 I h
  rw [exec_Assign_Name_used _ _ _ _ hsw]
  refine wpAny_bind (wpAny_standAt (wpAny_bind ?_))
  show wpAny _ X.A (do let _ ← comprehension (.ListComp elt [⟨tg,iter,ifs,0⟩] sc pos) sc X.env _ (newList []) false (eval iter X.env) (some (assign (.Name y py) X.env))) _ _ s
  refine wpAny_bind (wpAny_mono (wpAny_comprehension_free (use:=some (assign (.Name y py) X.env)) (Q:=fun _ s'=>SP X pins D0 .next s') rfl hs (eU (c.cells I.ok)) c.kind c.nm
    (thn (hi pins s σ H _ I h) fun xv s₁ h₁=>thn h₁ fun itv s₂ h₂=>?_)) (fun _ s' hq=>wpAny_pure (wpAny_pure hq)) fun _ _ e=>e)
  obtain ⟨it,fp,tn,J,H2,e,I2,T,st2,f2,q2⟩:=h₂
  subst e
  refine ky (RR:=fun acc C=>compPost (model X.prog X.w) X.A X.xe (some (assign (.Name y py) X.env)) (fun _ s'=>SP X pins D0 .next s') acc C) (Q:=fun D H _=>D0.nx (σ.set i (some (.ref D))) H) hc c B I2 T st2 f2 q2 ?_
  intro D C H' s' ys I' fC ns q
  show wpAny _ X.A (assign (.Name y py) X.env (.ref D)) _ _ _
  obtain ⟨f0,f1,f2,f3,f4,f5⟩:=fC
  refine wpAny_assign_Name (kn I' hN hy (.inl hl) (v:=.ref D) rfl (fun s2 J2 ⟨a,sb,ha⟩=>?_) (.inr hl))
  obtain ⟨m,hn⟩:=ns
  have neC:C≠a:=by
    rcases ha with z | z
    · rw [z]; exact f1
    · exact fun e=>f4 y a z e.symm
  refine ⟨m,hn.sameBut sb neC,fun h3 sb3=>⟨_,H',?_,q⟩⟩
  exact J2.turned (t':=s2.toks) (fun b o hb e=>(sb3.2 b hb).trans e) f0 f1 f3 f4 f5
end
end L2
namespace L2
open PySem PySem.Spec PyProof.Rows
section
variable {κ:Type} [DecidableEq κ]
def eW (kvs:List (κ×V)) (k:κ):Option V:=(kvs.find? fun kv=>decide (kv.1 = k)).map (·.2)
def fm (kvs:List (κ×V)) (k:κ) (v:V):List (κ×V) :=
  if (kvs.any fun kv=>decide (kv.1 = k)) = true then kvs.map (fun kv=>if kv.1 = k then (kv.1,v) else kv) else kvs ++ [(k,v)]
def zy (kvs:List (κ×V)) (k:κ):List (κ×V):=kvs.filter fun kv=>decide (kv.1≠k)
theorem hJ {p:κ×V} {r:List (κ×V)} {k:κ} (e:p.1 = k):eW (p :: r) k = some p.2:=by simp [eW,List.find?_cons,e]
theorem gB {p:κ×V} {r:List (κ×V)} {k:κ} (e:¬ p.1 = k):eW (p :: r) k = eW r k:=by simp [eW,List.find?_cons,e]
theorem lU (k:κ):∀ kvs:List (κ×V),(kvs.any fun kv=>decide (kv.1 = k)) = (eW kvs k).isSome
  | []=>rfl
  | p :: r=>by
    rw [List.any_cons]
    by_cases e:p.1 = k
    · simp only [hJ e,decide_eq_true e,Bool.true_or,Option.isSome_some]
    · rw [gB e,decide_eq_false e,Bool.false_or]; exact lU k r
theorem iN (kvs:List (κ×V)) (k:κ) (v:V):(fm kvs k v).length≤kvs.length + 1:=by
  unfold fm
  split
  · rw [List.length_map]; omega
  · rw [List.length_append,List.length_cons,List.length_nil]; omega
theorem RelO.isSome_eq {o:Option V} {u:Option Value} (r:RelO o u):o.isSome = u.isSome:=by
  cases o with
  | none=>cases u with
    | none=>rfl
    | some _=>exact (show False from r).elim
  | some _=>cases u with
    | none=>exact (show False from r).elim
    | some _=>rfl
theorem KV.val {kvs:List (κ×V)} {vs:List (κ×Value)} (r:KV kvs vs) (k:κ):RelO (eW kvs k) (valueAt vs k):=by
  unfold KV at r
  induction r with
  | nil=>exact True.intro
  | @cons p q ps qs h t ih =>
    obtain ⟨h1,h2⟩:=h
    by_cases e:p.1 = k
    · have e':q.1 = k:=h1.symm.trans e
      have b:valueAt (q :: qs) k = some q.2:=by simp [valueAt,List.find?_cons,e']
      rw [hJ e,b]; exact h2
    · have e':¬ q.1 = k:=fun z=>e (h1.trans z)
      have b:valueAt (q :: qs) k = valueAt qs k:=by simp [valueAt,List.find?_cons,e']
      rw [gB e,b]; exact ih
theorem KV.any {kvs:List (κ×V)} {vs:List (κ×Value)} (r:KV kvs vs) (k:κ):(kvs.any fun kv=>decide (kv.1 = k)) = vs.any fun kv=>decide (kv.1 = k):=by
  unfold KV at r
  induction r with
  | nil=>rfl
  | cons h t ih=>rw [List.any_cons,List.any_cons,ih,h.1]
theorem KV.repl {kvs:List (κ×V)} {vs:List (κ×Value)} (r:KV kvs vs) (k:κ) {y:V} {u:Value} (ry:RelV y u) :
    KV (kvs.map fun kv=>if kv.1 = k then (kv.1,y) else kv) (vs.map fun kv=>if kv.1 = k then (kv.1,u) else kv):=by
  unfold KV at r ⊢
  induction r with
  | nil=>exact .nil
  | @cons p q ps qs h t ih =>
    rw [List.map_cons,List.map_cons]
    refine .cons ?_ ih
    obtain ⟨h1,h2⟩:=h
    by_cases e:p.1 = k
    · rw [if_pos e,if_pos (h1.symm.trans e)]; exact ⟨h1,ry⟩
    · rw [if_neg e,if_neg (fun z=>e (h1.trans z))]; exact ⟨h1,h2⟩
theorem KV.put {kvs:List (κ×V)} {vs:List (κ×Value)} (r:KV kvs vs) (k:κ) {y:V} {u:Value} (ry:RelV y u):KV (fm kvs k y) (stored vs k u):=by
  unfold fm stored
  rw [r.any k]
  by_cases e:(vs.any fun kv=>decide (kv.1 = k)) = true
  · rw [if_pos e,if_pos e]; exact r.repl k ry
  · rw [if_neg e,if_neg e]; exact Paired.snoc r ⟨rfl,ry⟩
theorem KV.length {kvs:List (κ×V)} {vs:List (κ×Value)} (r:KV kvs vs):kvs.length = vs.length:=Paired.length r
end
theorem oS {P:Program} {w:World} {k:Key} {u:Value} (r:RelV (kV k) u):(bR P w).is k u = true:=by
  cases k with
  | inl i=>obtain ⟨t,e⟩:=(show ∃ t,u = Value.int i t from r); subst e; exact lI P w i t
  | inr x=>obtain ⟨t,e⟩:=(show ∃ t,u = Value.str x t from r); subst e; exact mQ P w x t
theorem kc {P:Program} {w:World}:∀ {ks:List Key} {us:List Value},Vals (ks.map kV) us→ItemsAre (bR P w) ks us
  | [],_,r=>by rw [List.map_nil] at r; cases r; exact .nil
  | k :: ks,_,r=>by
    rw [List.map_cons] at r
    cases r with
    | cons h t=>exact .cons (oS h) (kc t)
abbrev KT (H:Hp):List (List Key×V)→List (List Key×Addr×Value)→Prop:=Paired fun p q=>p.1 = q.1∧H q.2.1 = some (.tup (p.1.map kV))∧RelV p.2 q.2.2
theorem KT.val {H:Hp} {kvs:List (List Key×V)} {xs:List (List Key×Addr×Value)} (r:KT H kvs xs) (k:List Key):RelO (eW kvs k) ((atKey xs k).map (·.2)):=by
  induction r with
  | nil=>exact True.intro
  | @cons p q ps qs h t ih =>
    obtain ⟨h1,_,h2⟩:=h
    by_cases e:p.1 = k
    · have e':q.1 = k:=h1.symm.trans e
      have b:atKey (q :: qs) k = some q.2:=by simp [atKey,List.find?_cons,e']
      rw [hJ e,b]; exact h2
    · have e':¬ q.1 = k:=fun z=>e (h1.trans z)
      have b:atKey (q :: qs) k = atKey qs k:=by simp [atKey,List.find?_cons,e']
      rw [gB e,b]; exact ih
theorem KT.repl {H:Hp} {kvs:List (List Key×V)} {xs:List (List Key×Addr×Value)} (r:KT H kvs xs) (k:List Key) {y:V} {u:Value} (ry:RelV y u) :
    KT H (kvs.map fun kv=>if kv.1 = k then (kv.1,y) else kv) (xs.map (putAt k u)):=by
  induction r with
  | nil=>exact .nil
  | @cons p q ps qs h t ih =>
    rw [List.map_cons,List.map_cons]
    refine .cons ?_ ih
    obtain ⟨h1,h2,h3⟩:=h
    unfold putAt
    by_cases e:p.1 = k
    · rw [if_pos e,if_pos (h1.symm.trans e)]; exact ⟨h1,h2,ry⟩
    · rw [if_neg e,if_neg (fun z=>e (h1.trans z))]; exact ⟨h1,h2,h3⟩
theorem KT.put {H:Hp} {kvs:List (List Key×V)} {xs:List (List Key×Addr×Value)} (r:KT H kvs xs) (k:List Key) {b:Addr} {y:V} {u:Value} (hb:H b = some (.tup (k.map kV))) (ry:RelV y u) :
    KT H (fm kvs k y) (storedH xs k b u):=by
  have e:(kvs.any fun kv=>decide (kv.1 = k)) = (atKey xs k).isSome:=by
    rw [lU,(r.val k).isSome_eq,Option.isSome_map]
  unfold fm storedH
  rw [e]
  by_cases q:(atKey xs k).isSome = true
  · rw [if_pos q,if_pos q]; exact r.repl k ry
  · rw [if_neg q,if_neg q]; exact Paired.snoc r ⟨rfl,hb,ry⟩
theorem KT.keeps {H H':Hp} {kvs:List (List Key×V)} {xs:List (List Key×Addr×Value)} (r:KT H kvs xs) (ht:∀ b ys,H b = some (.tup ys)→H' b = some (.tup ys)):KT H' kvs xs :=
  Paired.mapP r fun _ _ z=>⟨z.1,ht _ _ z.2.1,z.2.2⟩
section
variable {P:Program} {w:World} {H:Hp} {h:Heap} {a:Addr}
theorem vD {u:HO} (ok:HOk P w H h) (e:Rd H a u):ObjOk P w H h a u:=e.ok ok
theorem oq {kvs:List (Key×V)} (ok:HOk P w H h) (e:Rd H a (.dK kvs)):kvs.length≤sizeLine∧(a == sysModules) = false∧∃ vs,KV kvs vs∧h.DictOf (bR P w) a vs :=
  show ObjOk P w H h a (.dK kvs) from vD ok e
theorem yg {kvs:List (Key×V)} (ok:HOk P w H h) (e:H a = some (.dK kvs)):kvs.length≤sizeLine∧(a == sysModules) = false∧∃ vs,KV kvs vs∧h.DictOf (bR P w) a vs:=oq ok (.inl e)
theorem kR {ks:List Key} (ok:HOk P w H h) (e:H a = some (.tup (ks.map kV))):(tupleKind (bR P w)).is h ks a:=by
  obtain ⟨_,its,r,o,h1,h2,n,h3⟩:=(show ObjOk P w H h a (.tup (ks.map kV)) from ok a _ e)
  exact ⟨o,its.toArray,n,h1,h2,h3,by simpa using kc r⟩
theorem oQ {kvs:List (List Key×V)} (ok:HOk P w H h) (e:Rd H a (.dT kvs)):kvs.length≤sizeLine∧(a == sysModules) = false ∧
    ∃ xs,KT H kvs xs∧h.DictOfH (tupleKind (bR P w)) a xs:=by
  obtain ⟨z,y,xs,r,o,es,ep,h1,h2,h3,h4,h5⟩:=(show ObjOk P w H h a (.dT kvs) from vD ok e)
  refine ⟨z,y,xs,r,o,es,ep,h1,h2,h3,h4,fun x hx=>?_,h5⟩
  have all:∀ {l:List (List Key×V)} {m:List (List Key×Addr×Value)},KT H l m→∀ x ∈ m,(tupleKind (bR P w)).is h x.1 x.2.1:=by
    intro l m q
    induction q with
    | nil=>intro x hx; exact nomatch hx
    | @cons p q ps qs hq t ih =>
      intro x hx
      rcases List.mem_cons.mp hx with e | hx
      · subst e
        exact kR ok (by rw [← hq.1]; exact hq.2.1)
      · exact ih x hx
  exact all r x hx
theorem yC {kvs:List (List Key×V)} (ok:HOk P w H h) (e:H a = some (.dT kvs)):kvs.length≤sizeLine∧(a == sysModules) = false ∧
    ∃ xs,KT H kvs xs∧h.DictOfH (tupleKind (bR P w)) a xs:=oQ ok (.inl e)
end
def DGet (H:Hp) (a:Addr) (y:V) (r:Option V):Prop :=
  (∃ kvs k,Rd H a (.dK kvs)∧y = kV k∧r = eW kvs k)∨∃ kvs k b,Rd H a (.dT kvs)∧y = .ref b∧H b = some (.tup (k.map kV))∧r = eW kvs k
def DPut (H:Hp) (a:Addr) (y v:V) (H':Hp):Prop :=
  (∃ kvs k,H a = some (.dK kvs)∧y = kV k∧kvs.length < sizeLine∧H' = upd H a (.dK (fm kvs k v))) ∨
  ∃ kvs k b,H a = some (.dT kvs)∧y = .ref b∧H b = some (.tup (k.map kV))∧kvs.length < sizeLine∧H' = upd H a (.dT (fm kvs k v))
theorem DGet.k {H:Hp} {a:Addr} {kvs:List (Key×V)} {k:Key} (e:H a = some (.dK kvs)):DGet H a (kV k) (eW kvs k):=.inl ⟨kvs,k,.inl e,rfl,rfl⟩
theorem DGet.t {H:Hp} {a b:Addr} {kvs:List (List Key×V)} {k:List Key} (e:H a = some (.dT kvs)) (eb:H b = some (.tup (k.map kV))):DGet H a (.ref b) (eW kvs k):=.inr ⟨kvs,k,b,.inl e,rfl,eb,rfl⟩
theorem DPut.k {H:Hp} {a:Addr} {kvs:List (Key×V)} {k:Key} {v:V} (e:H a = some (.dK kvs)) (hl:kvs.length < sizeLine):DPut H a (kV k) v (upd H a (.dK (fm kvs k v))):=.inl ⟨kvs,k,e,rfl,hl,rfl⟩
theorem DPut.t {H:Hp} {a b:Addr} {kvs:List (List Key×V)} {k:List Key} {v:V} (e:H a = some (.dT kvs)) (eb:H b = some (.tup (k.map kV))) (hl:kvs.length < sizeLine) :
    DPut H a (.ref b) v (upd H a (.dT (fm kvs k v))):=.inr ⟨kvs,k,b,e,rfl,eb,hl,rfl⟩
section
variable {X:Cx} {pins:List (Addr×Obj)} {σ:St} {H:Hp} {s:Shared} {a:Addr} {y v:V} {u r:Value} {o:Option V} {A:Around} {E:Value→Shared→Prop}
theorem Inv.big (I:Inv X pins σ H s):sysModules < s.heap.objs.size:=by
  have h:mainGlobals < s.heap.objs.size:=(I.mod.glob.keeps I.bk).lt
  exact Nat.lt_trans (by decide) h
theorem qe {Q:Value→Shared→Prop} (hu:A.units + 1 < cLine) (I:Inv X pins σ H s) (g:DGet H a y (some v)) (ry:RelV y u) (h:∀ w' s',Inv X pins σ H s'→RelV v w'→Q w' s') :
    wpAny (model X.prog X.w) A (getItem (.ref a) u) Q E s:=by
  rcases g with ⟨kvs,k,e,ey,l⟩ | ⟨kvs,k,b,e,ey,eb,l⟩
  · subst ey
    obtain ⟨z,hd,vs,rel,dd⟩:=oq I.hok e
    obtain ⟨w',hw,rw'⟩:=RelO.some_of (v:=v) (o:=valueAt vs k) (by rw [l]; exact rel.val k)
    exact wpAny_getItem_of (oS ry) dd.mapOf hw (h w' _ (I.tok _) rw')
  · subst ey
    cases (show u = Value.ref b from ry)
    obtain ⟨z,hd,xs,rel,dd⟩:=oQ I.hok e
    obtain ⟨w',hw,rw'⟩:=RelO.some_of (v:=v) (o:=(atKey xs k).map (·.2)) (by rw [l]; exact rel.val k)
    obtain ⟨p,hp,hp2⟩:=Option.map_eq_some_iff.mp hw
    refine wpAny_getItem_heap (tupleKind_room_in1 hu) (kR I.hok eb) dd hp ?_
    rw [hp2]
    exact h w' _ (I.tok _) rw'
theorem vg {Q:Value→Shared→Prop} (hu:A.units + 1 < cLine) (I:Inv X pins σ H s) (g:DGet H a y o) (ry:RelV y u) (h:∀ s',Inv X pins σ H s'→Q (.bool (!o.isSome)) s') :
    wpAny (model X.prog X.w) A (compareOp .NotIn u (.ref a)) Q E s:=by
  rcases g with ⟨kvs,k,e,ey,l⟩ | ⟨kvs,k,b,e,ey,eb,l⟩
  · subst ey
    obtain ⟨z,hd,vs,rel,dd⟩:=oq I.hok e
    refine wpAny_notIn_of (oS ry) hd dd.mapOf ?_
    rw [← (rel.val k).isSome_eq,← l]
    exact h _ (I.tok _)
  · subst ey
    cases (show u = Value.ref b from ry)
    obtain ⟨z,hd,xs,rel,dd⟩:=oQ I.hok e
    refine wpAny_notIn_heap (tupleKind_room_in1 hu) (kR I.hok eb) hd dd ?_
    have q:=(rel.val k).isSome_eq
    rw [Option.isSome_map] at q
    rw [← q,← l]
    exact h _ (I.tok _)
theorem oh {h':Heap} {t':Nat} {ob:HO} (I:Inv X pins σ H s) (mu:Mut (H a)) (hs:Heap.SameBut a s.heap h') (he:∃ q,h'.get? a = some q) (new:ObjOk X.prog X.w (upd H a ob) h' a ob) :
    Inv X pins σ (upd H a ob) { s with heap:=h',toks:=t' } :=
  I.write (x:=a) (e:=a) mu (.inl rfl) (fun b q hb z=>(hs.2 b hb).trans z) he new
theorem vS {P:Program} {w:World} {H':Hp} {h':Heap} {kvs:List (Key×V)} {vs:List (Key×Value)} (z:kvs.length≤sizeLine) (hd:(a == sysModules) = false) (rel:KV kvs vs) (dd:h'.DictOf (bR P w) a vs) :
    ObjOk P w H' h' a (.dK kvs):=⟨z,hd,vs,rel,dd⟩
theorem pd {H':Hp} {Q:Unit→Shared→Prop} (hu:A.units + 1 < cLine) (I:Inv X pins σ H s) (g:DPut H a y v H') (ry:RelV y u) (rv:RelV v r) (h:∀ s',Inv X pins σ H' s'→Q () s') :
    wpAny (model X.prog X.w) A (setItem (.ref a) u r) Q E s:=by
  rcases g with ⟨kvs,k,e,ey,l,eH⟩ | ⟨kvs,k,b,e,ey,eb,l,eH⟩
  · subst ey eH
    obtain ⟨z,hd,vs,rel,dd⟩:=yg I.hok e
    have hz:vs.length≤sizeLine:=by rw [← rel.length]; exact z
    have hl:(fm kvs k v).length≤sizeLine:=by have:=iN kvs k v; omega
    refine wpAny_setItem_pairs (hsz:=hz) (oS ry) dd fun h' dd' hs=>h _ ?_
    have he:∃ q,h'.get? a = some q:=let ⟨q,_,_,hq,_⟩:=dd'; ⟨q,hq⟩
    exact oh I (by rw [e]; exact True.intro) hs he (vS hl hd (rel.put k rv) dd')
  · subst ey eH
    cases (show u = Value.ref b from ry)
    obtain ⟨z,hd,xs,rel,dd⟩:=yC I.hok e
    have hz:xs.length≤sizeLine:=by rw [← Paired.length rel]; exact z
    have hl:(fm kvs k v).length≤sizeLine:=by have:=iN kvs k v; omega
    refine wpAny_setItem_heap (hsz:=hz) (tupleKind_room_in1 hu) (kR I.hok eb) dd fun h' dd' hs=>h _ ?_
    obtain ⟨q,es,ep,hq,h2,h3,h4,_,h5⟩:=dd'
    refine oh I (by rw [e]; exact True.intro) hs ⟨q,hq⟩ ⟨hl,hd,_,(rel.put k eb rv).keeps fun c ys ec=>?_,q,es,ep,hq,h2,h3,h4,h5⟩
    rw [ao (yo ec e (fun z=>nomatch z))]
    exact ec
end
section
variable {X:Cx} {pins:List (Addr×Obj)} {σ:St} {H:Hp} {s:Shared} {a:Addr} {kvs:List (Key×V)} {k:Key} {u:Value} {A:Around} {E:Value→Shared→Prop}
end
def yt (i:Expr):Prop:=∀ ov iv,subscripted i false ov iv = operate [ov,iv] (getItem ov iv)
theorem uA {prog:Program} {w:World} {A:Around} {E:Value→Shared→Prop} {s:Shared} {env:Env} {value slice:Expr} {pos:Pos} {T id:String} {Q:Value→Shared→Prop}
    (hl:typeLookup (.type T) "__getitem__" = pure (some (.builtin id))) (hs:yt slice)
    (h:wpAny (model prog w) A (eval value env) (fun o s₁=>wpAny (model prog w) A (eval slice env) (fun i s₂=>s₂.TypeIs o T∧wpAny (model prog w) A (getItem o i) Q E s₂) E s₁) E s) :
    wpAny (model prog w) A (eval (.Subscript value slice pos) env) Q E s:=by
  refine Subscript_ (wpAny_mono h (fun o s₁ h₁=>wpAny_mono h₁ (fun i s₂ h₂=>?_) fun _ _ x=>x) fun _ _ x=>x)
  obtain ⟨hT,h₂⟩:=h₂
  unfold subscriptTail
  refine wpAny_bind ?_
  rw [getitemInPython_of_ne hT.not_modules]
  refine wpAny_bind (wpAny_specialOf hT hl ?_)
  have fin:wpAny (model prog w) A (subscripted slice false o i) (fun r s₃=>wpAny (model prog w) A (letTemporaryGo value o r >>= fun _=>pure r) Q E s₃) E s₂:=by
    rw [hs o i]
    exact wpAny_operating (wpAny_mono h₂ (fun r s₃ h₃=>wpAny_bind (wpAny_letTemporaryGo (wpAny_pure h₃))) fun _ _ x=>x)
  first
    | exact wpAny_pure (wpAny_bind fin)
    | exact wpAny_bind (wpAny_pure (wpAny_bind fin))
    | exact wpAny_bind fin
theorem lX {X:Cx} {pins:List (Addr×Obj)} {σ:St} {H:Hp} {s:Shared} {a:Addr} {y:V} {o:Option V} (I:Inv X pins σ H s) (g:DGet H a y o):s.TypeIs (.ref a) "dict" := by
  rcases g with ⟨kvs,k,e,_,_⟩ | ⟨kvs,k,b,e,_,_,_⟩
  · obtain ⟨_,_,vs,_,dd⟩:=oq I.hok e
    exact dd.typeIs
  · obtain ⟨_,_,xs,_,dd⟩:=oQ I.hok e
    exact dd.typeIs
inductive rDGet (x y:V) (H:Hp) (Q:VK):Prop
  | mk (a:Addr) (v:V) (h0:x = .ref a) (h1:DGet H a y (some v)) (h2:Q v H):rDGet x y H Q
def xU (td ty:TE):TE:=fun σ H Q=>td σ H fun x H1=>ty σ H1 fun y H2=>rDGet x y H2 Q
def ul (ty td:TE):TE:=fun σ H Q=>ty σ H fun y H1=>td σ H1 fun x H2=>∃ a o,x = .ref a∧DGet H2 a y o∧Q (.bl (!o.isSome)) H2
def xM (td ty tv:TE):TS:=fun D σ H=>tv σ H fun v H1=>td σ H1 fun x H2=>ty σ H2 fun y H3=>∃ a H4,x = .ref a∧DPut H3 a y v H4∧D.nx σ H4
section
variable {X:Cx} {o i e value:Expr} {pos pos' tpos:Pos} {td ty tv:TE}
theorem fO (hu:X.A.units + 1 < cLine) (ho:PE X o td) (hi:PE X i ty) (hs:yt i):PE X (.Subscript o i pos) (xU td ty):=by
  intro pins s σ H Q I h
  refine uA PySem.F.slot_dict_getitem.lookup hs (thn (ho pins s σ H _ I h) fun u s1 ⟨x,H1,I1,rx,q1⟩=>thn (hi pins s1 σ H1 _ I1 q1) fun iv s2 ⟨y,H2,I2,ry,a,v,ex,g,q2⟩=>?_)
  subst ex
  obtain rfl:u = Value.ref a:=rx
  exact ⟨lX I2 g,qe hu I2 g ry fun w' s3 I3 rw'=>⟨v,H2,I3,rw',q2⟩⟩
theorem o9 (hu:X.A.units + 1 < cLine) (hi:PE X i ty) (ho:PE X o td):PC X .NotIn i o (ul ty td):=by
  intro pins s σ H Q I h
  refine thn (hi pins s σ H _ I h) fun iv s1 ⟨y,H1,I1,ry,q1⟩=>thn (ho pins s1 σ H1 _ I1 q1) fun u s2 ⟨x,H2,I2,rx,a,ov,ex,g,q2⟩=>?_
  subst ex
  obtain rfl:u = Value.ref a:=rx
  exact vg hu I2 g ry fun s3 I3=>⟨.bl (!ov.isSome),H2,I3,rfl,q2⟩
theorem ja (hu:X.A.units + 1 < cLine) (ho:PE X o td) (hi:PE X i ty) (hv:PE X value tv) (hs:swapsWith value (some (.Subscript o i pos')) pos.line X.env = pure false) :
    PS X (.Assign [.Subscript o i pos'] value pos) (xM td ty tv):=by
  intro pins s σ H D I h
  refine wpAny_Assign_Subscript (thn (hv pins s σ H _ I h) fun r s1 ⟨v,H1,I1,rv,q1⟩=>thn (ho pins s1 σ H1 _ I1 q1) fun u s2 ⟨x,H2,I2,rx,q2⟩=>thn (hi pins s2 σ H2 _ I2 q2) fun iv s3 ⟨y,H3,I3,ry,a,H4,ex,g,q3⟩=>?_) hs
  subst ex
  obtain rfl:u = Value.ref a:=rx
  exact pd hu I3 g ry rv fun s4 I4=>⟨σ,H4,I4,q3⟩
end
theorem rF {P:Program} {w:World} {H:Hp} (h:Heap) (hb:sysModules < h.objs.size):ObjOk P w H (h.push { cls:=.type "dict",data:=.dict #[] }) h.objs.size (.dK []) :=
  ⟨Nat.zero_le _,beq_eq_false_iff_ne.mpr (Ne.symm (Nat.ne_of_lt hb)),[],.nil,Heap.DictOf.new h⟩
theorem rh {P:Program} {w:World} {H:Hp} (h:Heap) (hb:sysModules < h.objs.size):ObjOk P w H (h.push { cls:=.type "dict",data:=.dict #[] }) h.objs.size (.dT []) :=
  ⟨Nat.zero_le _,beq_eq_false_iff_ne.mpr (Ne.symm (Nat.ne_of_lt hb)),[],.nil,_,#[],0,Heap.get?_push_size _ rfl,⟨rfl,rfl,rfl⟩,rfl,rfl,List.nodup_nil⟩
def wu:TE:=fun _ H Q=>∀ p,H p = none→Q (.ref p) (upd H p (.dK []))
def wm:TE:=fun _ H Q=>∀ p,H p = none→Q (.ref p) (upd H p (.dT []))
section
variable {X:Cx} {pos:Pos}
theorem qK:PE X (.Dict [] [] pos) wu:=fun pins s σ H Q I h =>
  wpAny_Dict_empty ⟨.ref s.heap.objs.size,_,I.laid (a:=s.heap.objs.size) (o:=.dK []) (t':=s.toks) (fun _ _ q=>Heap.get?_push_of_some _ q) (Nat.le_refl _) (rF s.heap I.big),rfl,h _ (I.hok.fresh (Nat.le_refl _))⟩
theorem mD:PE X (.Dict [] [] pos) wm:=fun pins s σ H Q I h =>
  wpAny_Dict_empty ⟨.ref s.heap.objs.size,_,I.laid (a:=s.heap.objs.size) (o:=.dT []) (t':=s.toks) (fun _ _ q=>Heap.get?_push_of_some _ q) (Nat.le_refl _) (rh s.heap I.big),rfl,h _ (I.hok.fresh (Nat.le_refl _))⟩
end
structure M1 (X:Cx) (o:Expr) (m:Str) (apos:Pos) (e:Expr) (cpos:Pos):Prop where
  base:attributeBase o m X.env (eval o X.env) = eval o X.env
  few:((backTo cpos (starEach [e] X.env)).all (fun x=>!x.1) && (backToKw cpos (keywordEach [] X.env)).all (fun x=>x.1.isSome)
    && decide (([e]:List Expr).length + ([]:List Keyword).length + (if ([]:List Keyword).isEmpty then 0 else 1) < 30)) = true
  line:(apos.endLine == cpos.line) = true
  trees:backTo cpos (starEach [e] X.env) = [(false,eval e X.env)]
structure M2 (X:Cx) (o:Expr) (m:Str) (apos:Pos) (e f:Expr) (cpos:Pos):Prop where
  base:attributeBase o m X.env (eval o X.env) = eval o X.env
  few:((backTo cpos (starEach [e,f] X.env)).all (fun x=>!x.1) && (backToKw cpos (keywordEach [] X.env)).all (fun x=>x.1.isSome)
    && decide (([e,f]:List Expr).length + ([]:List Keyword).length + (if ([]:List Keyword).isEmpty then 0 else 1) < 30)) = true
  line:(apos.endLine == cpos.line) = true
  trees:backTo cpos (starEach [e,f] X.env) = [(false,eval e X.env),(false,eval f X.env)]
section
variable {X:Cx} {pins:List (Addr×Obj)} {σ:St} {H:Hp} {s:Shared} {a:Addr} {y d:V} {u r:Value} {o:Option V} {A:Around} {E:Value→Shared→Prop}
end
section
variable {X:Cx} {o e f:Expr} {apos cpos:Pos} {td ty tx:TE}
end
section
variable {X:Cx} {pins:List (Addr×Obj)} {σ:St} {H:Hp} {s:Shared} {a:Addr} {kvs:List (Key×V)} {A:Around} {E:Value→Shared→Prop}
end
section
variable {X:Cx} {pins:List (Addr×Obj)} {σ:St} {H:Hp} {s:Shared} {a:Addr} {y:V} {u:Value} {A:Around} {E:Value→Shared→Prop}
end
end L2
namespace L2
open PySem PySem.Spec PyProof.Rows
theorem OpR.imp {X:Cx} {f:Value→Value→Sem Value} {r r':R2} (h:OpR X f r) (i:∀ x y H Q,r' x y H Q→r x y H Q):OpR X f r' :=
  fun pins s σ H x y v u Q I rx ry q=>h pins s σ H x y v u Q I rx ry (i x y H Q q)
theorem CallR.imp {X:Cx} {f:Value} {r r':List V→Hp→VK→Prop} (h:CallR X f r) (i:∀ xs H Q,r' xs H Q→r xs H Q):CallR X f r' :=
  fun pins s σ H xs us Q I rs q=>h pins s σ H xs us Q I rs (i xs H Q q)
def tV (i:Nat):TE:=fun σ H Q=>match σ[i]? with
  | some (some v)=>Q v H
  | _=>False
theorem vr {X:Cx} (i:Nat) {x:Str} {pos:Pos} (hN:X.N[i]? = some x:=by rfl) (hv:Vis X.env.scope x:=by first | exact Or.inl rfl | exact Or.inr (Or.inl rfl) | exact Or.inr (Or.inr rfl)) (hd:(x == ("__debug__" : Str)) = false:=by decide)
    (hcd:(x == ("__classdict__" : Str)) = false:=by decide):PE X (.Name x pos) (tV i):=fun pins s σ H Q I h=>by
  refine sK hN hv hd hcd pins s σ H Q I ?_
  unfold tV at h
  split at h
  · rename_i v e
    exact ⟨v,e,h⟩
  · exact h.elim
def rI2 (g:Int→Int→V):R2:=fun x y H Q=>match x,y with
  | .int i,.int j=>Q (g i j) H
  | _,_=>False
def rIC (C:Int→Int→Prop) (g:Int→Int→V):R2:=fun x y H Q=>match x,y with
  | .int i,.int j=>C i j∧Q (g i j) H
  | _,_=>False
theorem OpR.i2 {X:Cx} {f:Value→Value→Sem Value} {g:Int→Int→V} (h:OpR X f (rI0 g)):OpR X f (rI2 g):=h.imp fun x y H Q q=>by
  cases x <;> cases y <;> first | exact ⟨_,_,rfl,rfl,q⟩ | exact (show False from q).elim
theorem OpR.ic {X:Cx} {f:Value→Value→Sem Value} {C:Int→Int→Prop} {g:Int→Int→V} (h:OpR X f (rI C g)):OpR X f (rIC C g):=h.imp fun x y H Q q=>by
  cases x <;> cases y <;> first | exact ⟨_,_,rfl,rfl,q.1,q.2⟩ | exact (show False from q).elim
section
variable {X:Cx}
def yD:R2:=fun x y H Q=>match x,y with
  | .int i,.int j=>Q (.int (i + j)) H
  | .str i,.str j=>i.length + j.length≤sizeLine∧Q (.str (i ++ j)) H
  | _,_=>False
theorem mG:OpR X (binaryOp .Add) yD:=(op_add.or nj).imp fun x y H Q q=>by
  cases x <;> cases y <;> first | exact .inl ⟨_,_,rfl,rfl,q⟩ | exact .inr ⟨_,_,rfl,rfl,q.1,q.2⟩ | exact (show False from q).elim
theorem eR:OpR X (binaryOp .Sub) (rI2 fun i j=>.int (i - j)):=op_sub.i2
def xq (i j:Int):Prop:=0 < j
def CNn (i j:Int):Prop:=0≤j
theorem cp {i j:Int} (h:0 < j:=by decide):xq i j:=h
theorem cn {i j:Int} (h:0≤j:=by decide):CNn i j:=h
theorem cd {i j:Int} (h:0 < j:=by decide) (h2:j < 1073741824:=by decide):zv i j:=⟨h,h2⟩
theorem cw {i j:Int} (h:0≤j:=by decide) (h2:j≤1000000:=by decide) (h3:i.natAbs < 2 ^ 64:=by decide):wI i j:=⟨h,h2,h3⟩
theorem cl {i j:Int} (h:-(2 ^ 64) < i:=by decide) (h2:i < 2 ^ 64:=by decide):CMul i j:=.inl ⟨h,h2⟩
theorem cr {i j:Int} (h:-(2 ^ 64) < j:=by decide) (h2:j < 2 ^ 64:=by decide):CMul i j:=.inr ⟨h,h2⟩
theorem cK:OpR X (binaryOp .Mod) (rIC xq fun i j=>.int (i % j)):=op_mod.ic
theorem yK:OpR X (binaryOp .Pow) (rIC wI fun i j=>.int (i ^ j.toNat)):=op_pow.ic
theorem qg:OpR X (compareOp .LtE) (fun x y H Q=>∃ i j,x = .str i∧y = .str j∧Q (.bl (!decide (j.cps.toList < i.cps.toList))) H):=by
  intro pins s σ H x y v u Q I rx ry h
  obtain ⟨i,j,rfl,rfl,q⟩:=h
  obtain ⟨t,rfl⟩:=rx
  obtain ⟨t',rfl⟩:=ry
  exact PySem.P.le_str (aS I q rfl)
def vO (f:Int→Int→Bool) (g:Str→Str→Bool):R2:=fun x y H Q=>match x,y with
  | .int i,.int j=>Q (.bl (f i j)) H
  | .str i,.str j=>Q (.bl (g i j)) H
  | _,_=>False
theorem lh:OpR X (compareOp .Lt) (vO (fun i j=>decide (i < j)) fun i j=>decide (i.cps.toList < j.cps.toList)):=(op_lt.or pG).imp fun x y H Q q=>by
  cases x <;> cases y <;> first | exact .inl ⟨_,_,rfl,rfl,q⟩ | exact .inr ⟨_,_,rfl,rfl,q⟩ | exact (show False from q).elim
theorem pU:OpR X (compareOp .LtE) (vO (fun i j=>decide (i≤j)) fun i j=>!decide (j.cps.toList < i.cps.toList)):=(op_le.or qg).imp fun x y H Q q=>by
  cases x <;> cases y <;> first | exact .inl ⟨_,_,rfl,rfl,q⟩ | exact .inr ⟨_,_,rfl,rfl,q⟩ | exact (show False from q).elim
theorem uS:OpR X (compareOp .Gt) (rI2 fun i j=>.bl (decide (j < i))):=op_gt.i2
def vp (neg:Bool):R2:=fun x y H Q=>match x,y with
  | .int i,.int j=>Q (.bl (if neg then !decide (i = j) else decide (i = j))) H
  | .str i,.str j=>Q (.bl (if neg then !decide (i = j) else decide (i = j))) H
  | .bl i,.bl j=>Q (.bl (if neg then !decide (i = j) else decide (i = j))) H
  | .non,.non=>Q (.bl (!neg)) H
  | .non,.int _=>Q (.bl neg) H
  | .non,.str _=>Q (.bl neg) H
  | .non,.bl _=>Q (.bl neg) H
  | .int _,.non=>Q (.bl neg) H
  | .str _,.non=>Q (.bl neg) H
  | .bl _,.non=>Q (.bl neg) H
  | .int _,.str _=>Q (.bl neg) H
  | .str _,.int _=>Q (.bl neg) H
  | _,_=>False
theorem ej:OpR X (compareOp .Eq) (vp false):=op_eq.imp fun x y H Q q=>by
  cases x <;> cases y <;> first | exact (show False from q).elim | (refine ⟨rfl,?_⟩; revert q; simp [vp])
theorem xB:OpR X (compareOp .NotEq) (vp true):=op_ne.imp fun x y H Q q=>by
  cases x <;> cases y <;> first | exact (show False from q).elim | (refine ⟨rfl,?_⟩; revert q; simp [vp])
def rU1 (g:Int→V):V→Hp→VK→Prop:=fun x H Q=>match x with
  | .int i=>Q (g i) H
  | _=>False
theorem gE:UnR X (unaryOp .USub) (rU1 fun i=>.int (-i)):=fun pins s σ H x v Q I r q=>wt pins s σ H x v Q I r (by
  cases x <;> first | exact ⟨_,rfl,q⟩ | exact (show False from q).elim)
theorem yN:OpR X (compareOp .Is) (fun x y H Q=>match y with | .non=>Q (.bl (decide (x = .non))) H | _=>False):=op_isN.imp fun x y H Q q=>by
  cases y <;> first | exact ⟨rfl,q⟩ | exact (show False from q).elim
theorem gQ:OpR X (compareOp .IsNot) (fun x y H Q=>match y with | .non=>Q (.bl (!decide (x = .non))) H | _=>False):=op_notN.imp fun x y H Q q=>by
  cases y <;> first | exact ⟨rfl,q⟩ | exact (show False from q).elim
def mB (Q:Bool→Hp→Prop):VK:=fun x H=>match x with
  | .bl c=>Q c H
  | _=>False
variable {a b c:Expr} {ta tb tc:TE} {pos:Pos} {rest:List Expr}
def zq (ta tb:TE):TE:=fun σ H Q=>ta σ H (mB fun c H1=>if c = true then tb σ H1 Q else Q (.bl false) H1)
def y9 (ta:TE):TE:=fun σ H Q=>ta σ H (mB fun c H1=>Q (.bl (!c)) H1)
theorem jN {Q:Bool→Hp→Prop} {x:V} {H:Hp} (h:mB Q x H):∃ c,x = .bl c∧Q c H:=by
  cases x <;> first | exact ⟨_,rfl,h⟩ | exact (show False from h).elim
theorem cq (ha:PE X a ta) (hb:PE X (.BoolOp .And (b :: rest) pos) tb):PE X (.BoolOp .And (a :: b :: rest) pos) (zq ta tb):=by
  intro pins s σ H Q I h
  refine BoolOp_and (thn (ha pins s σ H _ I h) fun v s1 ⟨x,H1,I1,r1,q1⟩=>?_)
  obtain ⟨c,rfl,q1⟩:=jN q1
  cases r1
  refine wpAny_truthy_bool ?_
  cases c with
  | true=>exact hb pins s1 σ H1 Q I1 q1
  | false=>exact ⟨.bl false,H1,I1,rfl,q1⟩
theorem yI (ha:PE X a ta):PE X (.UnaryOp .Not a pos) (y9 ta):=by
  intro pins s σ H Q I h
  refine UnaryOp_ (thn (ha pins s σ H _ I h) fun v s1 ⟨x,H1,I1,r1,q1⟩=>?_)
  obtain ⟨c,rfl,q1⟩:=jN q1
  cases r1
  exact not_of (wpAny_truthy_bool ⟨.bl (!c),H1,I1,rfl,q1⟩)
def mT (t:TE):TT:=fun σ H Q=>t σ H (mB Q)
theorem gj (h:PE X a ta) (he:∀ whole,isTrue a X.env whole = (do let v ← whole; standAt a.pos; holding [v] (truthy v)):=by intro _; rfl):PT X a (mT ta):=by
  intro pins s σ H Q I hw
  refine isTrue_plain (thn (h pins s σ H _ I hw) fun v s1 ⟨x,H1,I1,r1,q1⟩=>?_) (he _)
  obtain ⟨d,rfl,q⟩:=jN q1
  cases r1
  exact wpAny_truthy_bool ⟨H1,I1,q⟩
theorem bh {op:CmpOp} {r:R2} (ho:OpR X (compareOp op) r) (ha:PE X a ta) (hb:PE X b tb) (hm:behindInMarks op b = false):PT X (.Compare a [op] [b] pos) (mT (tOp r ta tb)):=by
  intro pins s σ H Q I h
  refine wpAny_isTrue_Compare1 (thn (ha pins s σ H _ I h) fun v s1 ⟨x,H1,I1,r1,q1⟩=>thn (hb pins s1 σ H1 _ I1 q1) fun u s2 ⟨y,H2,I2,r2,q2⟩ =>
    thn (ho pins s2 σ H2 x y v u _ I2 r1 r2 q2) fun c s3 ⟨z,H3,I3,r3,q3⟩=>?_) hm
  obtain ⟨k,rfl,q3⟩:=jN q3
  cases r3
  exact wpAny_truthy_bool ⟨H3,I3,q3⟩
def wc (r r':R2) (ta tb tc:TE):TE:=fun σ H Q=>ta σ H fun x H1=>tb σ H1 fun y H2=>r x y H2 (mB fun k H3=>if k = true then tc σ H3 fun w' H4=>r' y w' H4 Q else Q (.bl false) H3)
theorem ua {op op':CmpOp} {r r':R2} (ho:OpR X (compareOp op) r) (ho':OpR X (compareOp op') r') (ha:PE X a ta) (hb:PE X b tb) (hc:PE X c tc)
    (hm:lastMarks [op,op'] [b,c] = false:=by with_unfolding_all rfl):PE X (.Compare a [op,op'] [b,c] pos) (wc r r' ta tb tc):=by
  intro pins s σ H Q I h
  refine Compare_chain (thn (ha pins s σ H _ I h) fun v s1 ⟨x,H1,I1,r1,q1⟩=>chain_link (thn (hb pins s1 σ H1 _ I1 q1) fun u s2 ⟨y,H2,I2,r2,q2⟩ =>
    thn (ho pins s2 σ H2 x y v u _ I2 r1 r2 q2) fun d s3 ⟨z,H3,I3,r3,q3⟩=>?_)) hm
  obtain ⟨k,rfl,q3⟩:=jN q3
  cases r3
  refine wpAny_truthy_bool ?_
  cases k with
  | false=>exact ite_ff ⟨.bl false,H3,I3,rfl,q3⟩
  | true=>exact ite_tt (chain_last (thn (hc pins s3 σ H3 _ I3 q3) fun w' s4 ⟨z',H4,I4,r4,q4⟩=>ho' pins s4 σ H4 y z' u w' Q I4 r2 r4 q4))
open PySem.W in
theorem nN {pins:List (Addr×Obj)} {σ:St} {H:Hp} {s:Shared} {x:V} {u t:Value} (I:Inv X pins σ H s) (rx:RelV x u) (ty:TyOf X.K H x t) :
    ∃ Hh:Heap→Prop,KitX X.K u t Hh∧Hh s.heap∧u≠.builtin "__main__.__loader__#opaque" := by
  cases ty with
  | non=>cases (show u = Value.none from rx); exact ⟨_,PySem.W.kitx_none,True.intro,fun z=>nomatch z⟩
  | bl y=>cases (show u = Value.bool y from rx); exact ⟨_,PySem.W.kitx_bool,True.intro,fun z=>nomatch z⟩
  | int i=>obtain ⟨t,q⟩:=(show ∃ t,u = Value.int i t from rx); cases q; exact ⟨_,PySem.W.kitx_int,True.intro,fun z=>nomatch z⟩
  | str y=>obtain ⟨t,q⟩:=(show ∃ t,u = Value.str y t from rx); cases q; exact ⟨_,PySem.W.kitx_str,True.intro,fun z=>nomatch z⟩
  | flt y=>obtain ⟨t,q⟩:=(show ∃ t,u = Value.float y t from rx); cases q; exact ⟨_,PySem.W.kitx_float,True.intro,fun z=>nomatch z⟩
  | @lst a xs ea =>
    cases (show u = Value.ref a from rx)
    obtain ⟨_,_,n,_,h1⟩:=(show ObjOk X.prog X.w H s.heap a (.lst xs) from I.hok a _ ea)
    exact ⟨_,PySem.W.kitx_list,⟨_,h1,rfl⟩,fun z=>nomatch z⟩
  | @frz a ob xs ea =>
    cases (show u = Value.ref a from rx)
    obtain ⟨_,_,_,n,_,h1⟩:=(show ObjOk X.prog X.w H s.heap a (.frz ob (.lst xs)) from I.hok a _ ea)
    exact ⟨_,PySem.W.kitx_list,⟨_,h1,rfl⟩,fun z=>nomatch z⟩
  | @tup a xs ea =>
    cases (show u = Value.ref a from rx)
    obtain ⟨_,_,_,p⟩:=(show ObjOk X.prog X.w H s.heap a (.tup xs) from I.hok a _ ea)
    obtain ⟨o,h1,h2,_⟩:=p
    exact ⟨_,PySem.W.kitx_tuple,⟨o,h1,h2⟩,fun z=>nomatch z⟩
  | @dK a kvs ea =>
    cases (show u = Value.ref a from rx)
    obtain ⟨_,_,vs,_,p⟩:=(show ObjOk X.prog X.w H s.heap a (.dK kvs) from I.hok a _ ea)
    obtain ⟨o,es,ep,h1,h2,_⟩:=p
    exact ⟨_,PySem.W.kitx_dict,⟨o,h1,h2.1⟩,fun z=>nomatch z⟩
  | @dT a kvs ea =>
    cases (show u = Value.ref a from rx)
    obtain ⟨_,_,xs,_,o,es,ep,h1,h2,_⟩:=(show ObjOk X.prog X.w H s.heap a (.dT kvs) from I.hok a _ ea)
    exact ⟨_,PySem.W.kitx_dict,⟨o,h1,h2.1⟩,fun z=>nomatch z⟩
  | @ins a C dx fs ea cl ha hn htk hm =>
    cases (show u = Value.ref a from rx)
    obtain ⟨mA,O,_⟩:=uM I.hok ea
    obtain ⟨od,J,_⟩:=O.look
    exact ⟨_,PySem.W.kitx_own (cl.get _) cl.hd ha hn htk hm,J,fun z=>nomatch z⟩
def xa:V→Value
  | .ty n=>.type n
  | .ref a=>.ref a
  | _=>.none
def rA:V→Bool
  | .ty _=>true
  | .ref _=>true
  | _=>false
theorem nQ {c:V} {u:Value} (h:rA c = true) (r:RelV c u):u = xa c:=by
  cases c <;> first | exact r | exact absurd (show false = true from h) Bool.false_ne_true
inductive rIsi (K:PySem.W.Frag) (xs:List V) (H:Hp) (Q:VK):Prop
  | mk (x c:V) (t:_) (b:Bool) (h0:xs = [x,c]) (h1:rA c = true) (h2:TyOf K H x t) (h3:PySem.W.kitOne K t (xa c) = some b) (h4:Q (.bl b) H):rIsi K xs H Q
theorem cu:CallR X (.builtin "isinstance") (rIsi X.K):=by
  intro pins s σ H xs us Q I r h
  obtain ⟨x,c,t,b,rfl,hc,ty,e,q⟩:=h
  obtain ⟨u,w',rfl,rx,rc⟩:=mI r
  cases nQ hc rc
  obtain ⟨Hh,Z,p,hx⟩:=nN I rx ty
  exact PySem.W.kia_one Z I.kIn p e hx fun tk=>⟨.bl b,H,I.tok tk,rfl,q⟩
theorem dC (hc:X.calm = true):CallR X (.builtin "all") (fun xs H Q=>∃ (p:Addr) (ys:List V) (bs:List Bool),xs = [.ref p]∧SqL X.K H p ys∧ys = bs.map V.bl∧Q (.bl (bs.all id)) H):=by
  intro pins s σ H xs us Q I r h
  obtain ⟨p,ys,bs,rfl,hq,rfl,q⟩:=h
  obtain ⟨u,rfl,rx⟩:=er r
  cases rx
  obtain ⟨its,rv,pl,hz⟩:=I.list hq
  have hlt:p < s.heap.objs.size:=by obtain ⟨_,_,e,_⟩:=pl; exact Heap.lt_size e
  refine call_all_walk (wpAny_pyIter_list pl.isList ?_)
  refine ⟨s.heap.objs.size,[s.heap.objs.size,p],[s.heap.objs.size],its.toArray.size,_,_,fun i=>(bs[i]?).getD true,rfl,Walks.list (A:=X.A.in1) (I.ok.hd hc) _ p (Nat.ne_of_lt hlt) its.toArray,
    ⟨⟨_,Heap.get?_push_size _ rfl,rfl,rfl⟩,pl.isList.push _⟩,fun i v s' Q' E' hP hQ=>?_,fun h' tk hk=>?_⟩
  · have hv:its[i]? = some v:=by simpa using hP
    have hi:i < (bs.map V.bl).length:=by rw [rv.length]; exact (List.getElem?_eq_some_iff.mp hv).1
    obtain ⟨b,hb⟩:∃ b,bs[i]? = some b:=⟨bs[i]'(by simpa using hi),by simp at hi; simp [hi]⟩
    obtain ⟨u,hu,ru⟩:=rv.get (i:=i) (x:=V.bl b) (by rw [List.getElem?_map,hb]; rfl)
    rw [hv] at hu
    cases hu
    cases ru
    simp only [hb,Option.getD_some] at hQ
    exact wpAny_truthy_bool hQ
  · have e:((List.range its.toArray.size).all fun i=>(bs[i]?).getD true) = bs.all id:=by
      rw [List.size_toArray,← rv.length,List.length_map]; exact LSm.range_all bs
    rw [e]
    exact ⟨.bl _,H,I.kept (LSm.kept_iter hk),rfl,q⟩
end
end L2
namespace L2
open PySem PySem.Spec PyProof.Rows
theorem wq {Q:V→Prop} {p r:Prop} [Decidable p] [Decidable r] (q:Q (.bl (decide (p∧r)))):if decide p = true then Q (.bl (decide r)) else Q (.bl false):=by
  by_cases h:p
  · rw [if_pos (decide_eq_true h)]
    have e:decide (p∧r) = decide r:=by by_cases z:r <;> simp [h,z]
    rw [← e]; exact q
  · rw [if_neg (fun z=>h (of_decide_eq_true z))]
    have e:decide (p∧r) = false:=decide_eq_false fun z=>h z.1
    rw [← e]; exact q
theorem ifP {c:Prop} [Decidable c] {A B:Prop} (hc:c) (h:A):if decide c = true then A else B:=by rw [if_pos (decide_eq_true hc)]; exact h
theorem ifN {c:Prop} [Decidable c] {A B:Prop} (hc:¬ c) (h:B):if decide c = true then A else B:=by rw [if_neg (fun z=>hc (of_decide_eq_true z))]; exact h
theorem ifC {c:Prop} [Decidable c] {A B:Prop} (h1:c→A) (h2:¬ c→B):if decide c = true then A else B:=by
  by_cases h:c
  · exact ifP h (h1 h)
  · exact ifN h (h2 h)
theorem ifB {b:Bool} {A B:Prop} (h1:b = true→A) (h2:b = false→B):if b = true then A else B:=by
  cases b with
  | true=>rw [if_pos rfl]; exact h1 rfl
  | false=>rw [if_neg Bool.false_ne_true]; exact h2 rfl
theorem ci:bootBuiltins "len" = some (.builtin "len"):=by decide +kernel
theorem aN:bootBuiltins "isinstance" = some (.builtin "isinstance"):=by decide +kernel
theorem iB:bootBuiltins "all" = some (.builtin "all"):=by decide +kernel
theorem nq:bootBuiltins "min" = some (.builtin "min"):=by decide +kernel
theorem xm:bootBuiltins "max" = some (.builtin "max"):=by decide +kernel
theorem kT:bootBuiltins "enumerate" = some (.type "enumerate"):=by decide +kernel
theorem wO:bootBuiltins "zip" = some (.type "zip"):=by decide +kernel
theorem mz:bootBuiltins "range" = some (.type "range"):=by decide +kernel
theorem wD:bootBuiltins "str" = some (.type "str"):=by decide +kernel
theorem qw:bootBuiltins "int" = some (.type "int"):=by decide +kernel
theorem uZ:bootBuiltins "bool" = some (.type "bool"):=by decide +kernel
theorem dQ:bootBuiltins "list" = some (.type "list"):=by decide +kernel
theorem gz:bootBuiltins "tuple" = some (.type "tuple"):=by decide +kernel
theorem cD {X:Cx} {x:Str} {v:V} {pos:Pos} (hg:Gl X x) (h:∃ u,X.mg x = some u∧RelV v u) (hd:(x == ("__debug__" : Str)) = false:=by decide):PE X (.Name x pos) (tC v) :=
  let ⟨_,e,r⟩:=h
  uH hg e r hd
def ze (K:PySem.W.Frag) (tl:TE):TI:=fun σ H R=>tl σ H fun x H1=>match x with
  | .str z=>R (Its z) H1
  | .ref a=>((∃ xs,SqL K H1 a xs)∧R (Itl K a) H1)∨((∃ xs,SqT K H1 a xs)∧R (Itt K a) H1)
  | _=>False
theorem cm {X:Cx} {tg l:Expr} {tl:TE} (hl:PE X l tl):PI X tg l (ze X.K tl):=by
  intro pins s σ H R I h
  have hl1:PE X l tl:=hl
  refine thn (hl pins s σ H _ I h) fun v s1 ⟨x,H1,I1,r1,q1⟩=>?_
  cases x with
  | str z =>
    have:=wG (X:=X) (tg:=tg) (l:=l) (tl:=tC (.str z))
    obtain ⟨t,rfl⟩:=r1
    refine wpAny_pyIter_strU ?_
    refine ⟨s1.heap.objs.size,[s1.heap.objs.size],_,_,H1,rfl,I1.kept (t':=s1.toks) fun b o e=>Heap.get?_push_of_some _ e,lC (ty:=strIterType z) (t:=t) z _ ?_,⟨_,Heap.get?_push_size _ rfl,rfl,rfl⟩,fun b hb=>?_,q1⟩
    · unfold strIterType
      split
      · exact .inl rfl
      · exact .inr rfl
    · have e:b = s1.heap.objs.size:=by simpa using hb
      subst e
      exact I1.fpOk (Nat.le_refl _) (I1.hok.fresh (Nat.le_refl _))
  | ref a =>
    cases r1
    rcases q1 with ⟨⟨xs,hq⟩,q⟩ | ⟨⟨xs,hq⟩,q⟩
    · obtain ⟨its,rv,p,hz⟩:=I1.list hq
      refine wpAny_pyIter_list p.isList ?_
      refine ⟨s1.heap.objs.size,[s1.heap.objs.size],_,_,H1,rfl,I1.kept (t':=s1.toks) fun b o e=>Heap.get?_push_of_some _ e,pW a _,⟨_,Heap.get?_push_size _ rfl,rfl,rfl⟩,fun b hb=>?_,q⟩
      have e:b = s1.heap.objs.size:=by simpa using hb
      subst e
      exact I1.fpOk (Nat.le_refl _) (I1.hok.fresh (Nat.le_refl _))
    · obtain ⟨its,rv,p,hz⟩:=I1.tuple hq
      refine wpAny_pyIter_tuple (show s1.heap.IsTuple a its.toArray from p) ?_
      refine ⟨s1.heap.objs.size,[s1.heap.objs.size],_,_,H1,rfl,I1.kept (t':=s1.toks) fun b o e=>Heap.get?_push_of_some _ e,mW a _,⟨_,Heap.get?_push_size _ rfl,rfl,rfl⟩,fun b hb=>?_,q⟩
      have e:b = s1.heap.objs.size:=by simpa using hb
      subst e
      exact I1.fpOk (Nat.le_refl _) (I1.hok.fresh (Nat.le_refl _))
  | _=>exact (show False from q1).elim
inductive rLenSq (K:PySem.W.Frag) (p:Addr) (H:Hp) (Q:VK):Prop
  | mk (ys:List V) (h0:SqL K H p ys∨SqT K H p ys) (h1:Q (.int ys.length) H):rLenSq K p H Q
theorem aU {X:Cx}:CallR X (.builtin "len") (fun xs H Q=>match xs with
    | [.str z]=>z.length≤sizeLine∧Q (.int z.length) H
    | [.ref p]=>rLenSq X.K p H Q
    | _=>False):=(call_len_str.or lb).imp fun xs H Q q=>by
  match xs,q with
  | [.str z],q=>exact .inl ⟨z,rfl,q.1,q.2⟩
  | [.ref p],q=>obtain ⟨ys,h,q⟩:=q; exact .inr ⟨p,ys,rfl,h,q⟩
section
variable {D:Addr} {σb:St} {g:TG} {tt:TT} {te:TE} {Q:Hp→List V→Prop} {H:Hp} {K:PySem.W.Frag}
def nX (D:Addr) (σb:St) (g:TG) (tt:TT) (te:TE) (x:V) (ys:List V) (H:Hp) (P:List V→Hp→Prop):Prop :=
  g x σb H fun σ4 H4=>Wk σb σ4∧tt σ4 H4 fun b H5=>if b = true then te σ4 H5 fun y H6=>H6 D = some (.lst ys)∧ys.length < sizeLine∧P (ys ++ [y]) (upd H6 D (.lst (ys ++ [y]))) else P ys H5
theorem br {a:Addr} {xs:List V} (Pv:Nat→List V→Hp→Prop) (h0:Pv 0 [] H) (hq:∀ i ys H,Pv i ys H→SqL K H a xs) (hl:∀ i ys H,Pv i ys H→H D = some (.lst ys))
    (hs:∀ (i:Nat) x ys H P,xs[i]? = some x→Pv i ys H→(∀ a b,Pv (i + 1) a b→P a b)→nX D σb g tt te x ys H P) (hd:∀ ys H,Pv xs.length ys H→Q H ys):∃ W,(∃ m,W 0 m [] H)∧jr (Itl K a) D σb g tt te Q W:=by
  refine ⟨fun i m ys H=>m = xs.length - i∧i≤xs.length∧Pv i ys H,⟨_,rfl,Nat.zero_le _,h0⟩,?_⟩
  rintro i m ys H ⟨rfl,hi,p⟩
  refine ⟨hl i ys H p,?_⟩
  have q:=hq i ys H p
  by_cases hlt:i < xs.length
  · refine .inr ⟨⟨xs,xs[i],q,by simp [hlt]⟩,fun x H3 y=>?_⟩
    obtain ⟨rfl,y⟩:=y
    exact hs i x ys _ (fun a b=>∃ m',m' < xs.length - i∧m' = xs.length - (i + 1)∧i + 1≤xs.length∧Pv (i + 1) a b) (y xs q) p (fun a b q=>⟨xs.length - (i + 1),by omega,rfl,hlt,q⟩)
  · have e:i = xs.length:=by omega
    subst e
    exact .inl ⟨⟨xs,q,Nat.le_refl _⟩,hd ys H p⟩
theorem qL {lo:Int} {n:Nat} (Pv:Nat→List V→Hp→Prop) (h0:Pv 0 [] H) (hl:∀ i ys H,Pv i ys H→H D = some (.lst ys))
    (hs:∀ (i:Nat) ys H P,i < n→Pv i ys H→(∀ a b,Pv (i + 1) a b→P a b)→nX D σb g tt te (.int (lo + i)) ys H P) (hd:∀ ys H,Pv n ys H→Q H ys):∃ W,(∃ m,W 0 m [] H)∧jr (Itr lo n) D σb g tt te Q W:=by
  refine ⟨fun i m ys H=>m = n - i∧i≤n∧Pv i ys H,⟨_,rfl,Nat.zero_le _,h0⟩,?_⟩
  rintro i m ys H ⟨rfl,hi,p⟩
  refine ⟨hl i ys H p,?_⟩
  by_cases hlt:i < n
  · refine .inr ⟨hlt,fun x H3 y=>?_⟩
    obtain ⟨rfl,rfl⟩:=y
    exact hs i ys _ (fun a b=>∃ m',m' < n - i∧m' = n - (i + 1)∧i + 1≤n∧Pv (i + 1) a b) hlt p (fun a b q=>⟨n - (i + 1),by omega,rfl,hlt,q⟩)
  · have e:i = n:=by omega
    subst e
    exact .inl ⟨Nat.le_refl _,hd ys H p⟩
end
theorem Same.new {H:Hp} {p:Addr} {o:HO} (h:H p = none):Same H (upd H p o):=fun b u e=>by rw [ao (ay e h)]; exact e
mutual
def DV (K:PySem.W.Frag) (H:Hp):PyData→V→Prop
  | .none,x=>x = .non
  | .bool b,x=>x = .bl b
  | .int i,x=>x = .int i
  | .str z,x=>x = .str z
  | .list ds,x=>∃ a xs,x = .ref a∧SqL K H a xs∧DVs K H ds xs
  | .tuple ds,x=>∃ a xs,x = .ref a∧SqT K H a xs∧DVs K H ds xs
  | .dict _,_=>False
def DVs (K:PySem.W.Frag) (H:Hp):List PyData→List V→Prop
  | [],xs=>xs = []
  | d :: ds,xs=>∃ y ys,xs = y :: ys∧DV K H d y∧DVs K H ds ys
end
section
variable {X:Cx} {pins:List (Addr×Obj)} {σ:St} {H:Hp} {s:Shared}
mutual
theorem DV.reads (I:Inv X pins σ H s):∀ {d:PyData} {x:V} {u:Value},DV X.K H d x→RelV x u→∃ as,Reads s.heap u d as
  | .none,x,u,h,r=>by
    rw [DV] at h; subst h; cases r; exact ⟨_,.none⟩
  | .bool b,x,u,h,r=>by
    rw [DV] at h; subst h; cases r; exact ⟨_,.bool b⟩
  | .int i,x,u,h,r=>by
    rw [DV] at h; subst h; obtain ⟨t,rfl⟩:=r; exact ⟨_,.int i t⟩
  | .str z,x,u,h,r=>by
    rw [DV] at h; subst h; obtain ⟨t,rfl⟩:=r; exact ⟨_,.str z t⟩
  | .list ds,x,u,h,r=>by
    rw [DV] at h
    obtain ⟨a,xs,rfl,h2,h3⟩:=h
    cases r
    obtain ⟨its,rv,⟨o,n,e,c,_,d⟩,_⟩:=I.list h2
    obtain ⟨as,q⟩:=DVs.reads I h3 rv
    exact ⟨_,.list e c d (by simpa using q)⟩
  | .tuple ds,x,u,h,r=>by
    rw [DV] at h
    obtain ⟨a,xs,rfl,h2,h3⟩:=h
    cases r
    obtain ⟨its,rv,⟨o,e,c,n,d⟩,_⟩:=I.tuple h2
    obtain ⟨as,q⟩:=DVs.reads I h3 rv
    exact ⟨_,.tuple e c d (by simpa using q)⟩
  | .dict _,x,u,h,r=>by rw [DV] at h; exact h.elim
theorem DVs.reads (I:Inv X pins σ H s):∀ {ds:List PyData} {xs:List V} {us:List Value},DVs X.K H ds xs→Vals xs us→∃ as,ReadsAll s.heap us ds as
  | [],xs,us,h,r=>by
    rw [DVs] at h; subst h; cases r; exact ⟨_,.nil⟩
  | d :: ds,xs,us,h,r=>by
    rw [DVs] at h
    obtain ⟨y,ys,rfl,h2,h3⟩:=h
    cases r with
    | cons r rs =>
      obtain ⟨as,q⟩:=DV.reads I h2 r
      obtain ⟨bs,p⟩:=DVs.reads I h3 rs
      exact ⟨_,.cons q p⟩
end
end
inductive rEqD (K:PySem.W.Frag) (neg:Bool) (x y:V) (H:Hp) (Q:VK):Prop
  | mk (d e:PyData) (h0:DV K H d x) (h1:DV K H e y) (h2:SeqAt.shaped d = true) (h3:SeqAt.shaped e = true) (h4:Q (.bl (if neg then !PyData.eqv d e else PyData.eqv d e)) H):rEqD K neg x y H Q
theorem vE {X:Cx} (hu:X.A.units + 64 < cLine):OpR X (compareOp .Eq) (rEqD X.K false):=by
  intro pins s σ H x y v u Q I rx ry h
  obtain ⟨d,e,h1,h2,s1,s2,q⟩:=h
  obtain ⟨as,ra⟩:=h1.reads I rx
  obtain ⟨bs,rb⟩:=h2.reads I ry
  exact eq_dataH ra rb s1 s2 hu ⟨.bl _,H,I,rfl,q⟩
theorem vI {X:Cx} (hu:X.A.units + 64 < cLine):OpR X (compareOp .NotEq) (rEqD X.K true):=by
  intro pins s σ H x y v u Q I rx ry h
  obtain ⟨d,e,h1,h2,s1,s2,q⟩:=h
  obtain ⟨as,ra⟩:=h1.reads I rx
  obtain ⟨bs,rb⟩:=h2.reads I ry
  exact ne_dataH ra rb s1 s2 hu ⟨.bl _,H,I,rfl,q⟩
end L2
namespace L2
open PySem PySem.Spec PyProof.Rows
section
variable {X:Cx}
def yQ:V→List V→Hp→VK→Prop:=fun x xs H Q=>match x,xs with
  | .str z,[.str y]=>Q (.bl (Txt.startswith z y)) H
  | _,_=>False
variable {o e:Expr} {es:List Expr} {to:TE} {t:TA} {apos cpos:Pos}
end
end L2
namespace L2
open PySem PySem.Spec PyProof.Rows
section
variable {X:Cx} {st:Stmt} {rest:List Stmt} {t u:TS} {e:Expr} {te:TE} {tt:TT}
def yE (t u:TS):TS:=fun D σ H=>∃ M:St→Hp→Prop,t { D with nx:=M } σ H∧∀ σ' H',M σ' H'→u D σ' H'
theorem pZ (h1:PS X st t) (h2:PSs X rest u):PSs X (st :: rest) (yE t u):=by
  intro pins s σ H D I h
  obtain ⟨M,h,hm⟩:=h
  refine wpAny_execs_cons (thn (h1 pins s σ H { D with nx:=M } I h) fun f s1 q=>?_)
  cases f with
  | next =>
    obtain ⟨σ',H',I',q⟩:=q
    exact h2 pins s1 σ' H' D I' (hm _ _ q)
  | ret v=>exact q
  | brk=>exact q
  | cont=>exact q
end
end L2
namespace L2
open PySem PySem.Spec PyProof.Rows
section
variable {X:Cx} {pins:List (Addr×Obj)} {σ:St} {H:Hp} {s:Shared} {h':Heap}
theorem Inv.turnedNew {t':Nat} {ch:List Addr} {a:Addr} {o:HO} (I:Inv X pins σ H s) (k:∀ b u,b ∉ ch→s.heap.get? b = some u→h'.get? b = some u) (hf:∀ b ∈ ch,fE X pins H b)
    (ha:s.heap.objs.size≤a) (new:ObjOk X.prog X.w (upd H a o) h' a o):Inv X pins σ (upd H a o) { s with heap:=h',toks:=t' }:=by
  have hna:H a = none:=I.hok.fresh ha
  have nch:∀ b u,H b = some u→b ∉ ch:=fun b u e z=>by
    rw [(hf b z).1] at e
    cases e
  have nea:∀ b u,H b = some u→b≠a:=fun b u e z=>by
    rw [z,hna] at e
    cases e
  have old:∀ b u,s.heap.get? b = some u→b≠a:=fun b u e=>Nat.ne_of_lt (Nat.lt_of_lt_of_le (Heap.lt_size e) ha)
  refine I.step (g':=s.gens) (d':=s.drawn) (ch:=ch) (fun b hb=>?_) (fun b u _ _ hc e _=>k b u hc e) (fun b u _ _ hc e _=>⟨u.slots,k b u hc e⟩) (fun b u _ e n=>?_) (fun b u hc e=>⟨u,k b u hc e⟩)
    (fun b xs e=>?_) (fun b u v e=>?_) (fun b ps e=>⟨#[],?_⟩) (fun m hm=>?_) (fun b u e=>?_) I.bare
  · obtain ⟨_,f1,_,f3,f4,f5⟩:=hf b hb
    exact ⟨f3,f1,f4,f5⟩
  · rw [ao (old b u e)]; exact n
  · rw [ao (nea b _ e)]; exact e
  · rw [ao (nea b _ e)]; exact e
  · rw [ao (nea b _ e),e]; simp
  · obtain ⟨ob,es,ep,ho,r⟩:=hm
    exact ⟨ob,es,ep,k _ ob (fun z=>(hf _ z).2.1 rfl) ho,r⟩
  · by_cases hb:b = a
    · subst hb
      rw [ac] at e
      cases e
      exact new
    · rw [ao hb] at e
      refine (I.hok b u e).stay (fun c v hc q=>k c v ?_ q) (fun c q=>?_) fun c xs q=>?_
      · rcases hc with z | z
        · rw [z]; exact nch b u e
        · exact nch c _ z
      · rw [ao (nea c _ q)]; exact q
      · rw [ao (nea c _ q)]; exact q
theorem Inv.turnedN {t':Nat} {ch:List Addr} (I:Inv X pins σ H s) (k:∀ b u,b ∉ ch→s.heap.get? b = some u→h'.get? b = some u) (hf:∀ b ∈ ch,fE X pins H b):Inv X pins σ H { s with heap:=h',toks:=t' }:=by
  have nch:∀ b u,H b = some u→b ∉ ch:=fun b u e z=>by
    rw [(hf b z).1] at e
    cases e
  refine I.step (g':=s.gens) (d':=s.drawn) (ch:=ch) (fun b hb=>?_) (fun b u _ _ hc e _=>k b u hc e) (fun b u _ _ hc e _=>⟨u.slots,k b u hc e⟩) (fun b u _ e n=>n) (fun b u hc e=>⟨u,k b u hc e⟩)
    (fun b xs e=>e) (fun b u v e=>e) (fun b ps e=>⟨#[],by rw [e]; simp⟩) (fun m hm=>?_) (fun b u e=>?_) I.bare
  · obtain ⟨_,f1,_,f3,f4,f5⟩:=hf b hb
    exact ⟨f3,f1,f4,f5⟩
  · obtain ⟨ob,es,ep,ho,r⟩:=hm
    exact ⟨ob,es,ep,k _ ob (fun z=>(hf _ z).2.1 rfl) ho,r⟩
  · refine (I.hok b u e).stay (fun c v hc q=>k c v ?_ q) (fun c q=>q) fun c xs q=>q
    rcases hc with z | z
    · rw [z]; exact nch b u e
    · exact nch c _ z
end
def Ite (a:Addr):It:=⟨fun i H=>∃ xs x,H a = some (.lst xs)∧xs[i]? = some x,
  fun i H x H'=>∃ p y,H p = none∧x = .ref p∧(∀ xs,H a = some (.lst xs)→xs[i]? = some y)∧H' = upd H p (.tup [.int (i:Nat),y]),fun i H=>∃ xs,H a = some (.lst xs)∧xs.length≤i⟩
theorem pF {P:Program} {w:World} {K:PySem.W.Frag} {es:List Expr} {k:Nat} {pos:Pos} (a e it:Addr) (hne:e≠it) :
    Turn P w K (.Tuple es k pos) (Ite a) [e,it] e (fun i h=>(∃ old,IsEnum h e it i old)∧h.IsListIter it a i) where
  mem:=by simp
  obj:=fun i h st b hb=>by
    obtain ⟨⟨old,he⟩,o,h1,h2,h3⟩:=st
    rcases List.mem_cons.mp hb with rfl | hb
    · exact ⟨_,he,fun v z=>by cases z⟩
    · rw [List.mem_singleton.mp hb]
      exact ⟨o,h1,fun v z=>by rw [h3] at z; cases z⟩
  keep:=fun i h h' st kp=>by
    obtain ⟨⟨old,he⟩,o,h1,r⟩:=st
    exact ⟨⟨old,kp e (by simp) _ he⟩,o,kp it (by simp) o h1,r⟩
  item:=by
    intro X hP hw hK hc i pins s σ H E I hf st hg
    subst hP hw hK
    obtain ⟨⟨old,he⟩,hit⟩:=st
    obtain ⟨xs,x,hl,hx⟩:=hg
    obtain ⟨z,its,n,r,hlen,eo⟩:=I.lstM hl
    obtain ⟨u,hu,ru⟩:=Vals.get r hx
    have hil:s.heap.IsList a its.toArray:=⟨_,eo,rfl,_,rfl⟩
    refine wpAny_pyNext_enum_item he hit hil (x:=u) (by simpa using hu) hne fun h1 e1 e2 e3 e4 e5=>?_
    refine ⟨_,rfl,wpAny_letOwnedTupleGo_enum e1 fun h2 e6 sb=>?_⟩
    have hps:s.heap.objs.size≠e:=fun q=>absurd (Heap.lt_size he) (by rw [← q]; exact Nat.lt_irrefl _)
    have hpi:s.heap.objs.size≠it:=fun q=>by
      obtain ⟨o,ho,_⟩:=hit
      exact absurd (Heap.lt_size ho) (by rw [← q]; exact Nat.lt_irrefl _)
    have hn:H s.heap.objs.size = none:=I.hok.fresh (Nat.le_refl _)
    have e3':h2.get? s.heap.objs.size = some { cls:=.type "tuple",data:=.seq #[.int i s.toks,u] }:=(sb.2 _ hps).trans e3
    have J:Inv X pins σ (upd H s.heap.objs.size (.tup [.int (i:Nat),x])) { s with heap:=h2,toks:=s.toks + 1 }:=by
      refine I.turnedNew (ch:=[e,it]) (fun b o hb q=>?_) hf (Nat.le_refl _) ⟨by rw [sizeLine_eq]; show 2≤16777216; decide,[.int i s.toks,u],.cons ⟨_,rfl⟩ (.cons ru .nil),_,e3',rfl,0,rfl⟩
      have b1:b≠e:=fun z=>hb (by simp [z])
      have b2:b≠it:=fun z=>hb (by simp [z])
      exact (sb.2 b b1).trans (e5 b o b1 b2 q)
    refine ⟨.ref s.heap.objs.size,_,J,rfl,⟨s.heap.objs.size,x,hn,rfl,fun ys hy=>?_,rfl⟩,⟨⟨u,?_⟩,?_⟩,fun b hb=>?_⟩
    · rw [hl] at hy
      cases hy
      exact hx
    · have e6':IsEnum h2 e it ((i:Int) + 1) u:=e6
      have e7:((i + 1:Nat):Int) = (i:Int) + 1:=by omega
      rw [e7]
      exact e6'
    · obtain ⟨o,ho,r⟩:=e2
      exact ⟨o,(sb.2 it (Ne.symm hne)).trans ho,r⟩
    · have hb':b≠s.heap.objs.size:=by
        rcases List.mem_cons.mp hb with rfl | hb
        · exact hps.symm
        · rw [List.mem_singleton.mp hb]; exact hpi.symm
      rw [ao hb']
      exact (hf b hb).1
  done:=by
    intro X hP hw hK hc i pins s σ H E I hf st hg
    subst hP hw hK
    obtain ⟨⟨old,he⟩,hit⟩:=st
    obtain ⟨xs,hl,hx⟩:=hg
    obtain ⟨z,its,n,r,hlen,eo⟩:=I.lstM hl
    have hil:s.heap.IsList a its.toArray:=⟨_,eo,rfl,_,rfl⟩
    refine wpAny_pyNext_enum_end (I.ok.hd hc) he hit hil (by simp; omega) fun h1 eb=>⟨rfl,I.turnedN (ch:=[e,it]) (t':=s.toks) (fun b o hb q=>eb b o (fun z=>hb (by simp [z])) q) hf⟩
  self:=fun _ _ _ _ _ st h=>by
    obtain ⟨⟨old,he⟩,_⟩:=st
    exact wpAny_pyIter_enum he h
def yO (ta:TA):TI:=fun σ H R=>ta σ H fun vs H1=>∃ a xs,vs = [.ref a]∧H1 a = some (.lst xs)∧R (Ite a) H1
theorem eM {X:Cx} {es:List Expr} {k:Nat} {tpos:Pos} {e:Expr} {ta:TA} {p pos:Pos} (hg:Gl X "enumerate") (hm:X.mg "enumerate" = none) (ha:PA X [e] ta) (hs:starEach [e] X.env = [(false,eval e X.env)]:=by rfl) :
    PI X (.Tuple es k tpos) (.Call (.Name "enumerate" p) [e] [] pos) (yO ta):=by
  intro pins s σ H R I h
  refine wpAny_Call_Name_kw (gr I hg hm kT ?_ (by decide) (by decide))
  refine PyProof.Rows.callWith_type1 (thn (ha pos pins s σ H _ I h) fun us s1 ⟨vs,H1,I1,r1,a,xs,e1,hl,q⟩=>?_) hs rfl
  subst e1
  obtain ⟨u,rfl,ru⟩:=er r1
  cases ru
  obtain ⟨z,its,n,r,hlen,eo⟩:=I1.lstM hl
  refine call_enumerate_1 (n:=n) eo fun h2 e1 e2 e3 e4=>?_
  have I2:Inv X pins σ H1 { s1 with heap:=h2 }:=I1.kept (t':=s1.toks) e4
  have hne:s1.heap.objs.size + 1≠s1.heap.objs.size:=Nat.succ_ne_self _
  refine wpAny_pyIter_enum e1 ?_
  refine ⟨s1.heap.objs.size + 1,[s1.heap.objs.size + 1,s1.heap.objs.size],_,_,H1,rfl,I2,pF a _ _ hne,⟨⟨_,e1⟩,e2⟩,fun b hb=>?_,q⟩
  have hb':s1.heap.objs.size≤b:=by
    rcases List.mem_cons.mp hb with rfl | hb
    · omega
    · rw [List.mem_singleton.mp hb]
      exact Nat.le_refl _
  exact I1.fpOk hb' (I1.hok.fresh hb')
theorem jG {a:Addr} {xs:List V} {g:TG} {tb:TS} {D:Ends} {σ:St} {H:Hp} (Pv:Nat→St→Hp→Prop) (h0:Pv 0 σ H) (hl:∀ i σ H,Pv i σ H→H a = some (.lst xs))
    (hs:∀ (i:Nat) x σ H p,xs[i]? = some x→Pv i σ H→H p = none→g (.ref p) σ (upd H p (.tup [.int (i:Nat),x])) fun σ2 H2=>tb { D with nx:=Pv (i + 1),ct:=Pv (i + 1),bk:=D.nx } σ2 H2) (hd:∀ σ H,Pv xs.length σ H→D.nx σ H) :
    ∃ W:Nat→Nat→St→Hp→Prop,(∃ m,W 0 m σ H)∧∀ i m σ H,W i m σ H →
      ((Ite a).stop i H∧D.nx σ H)∨((Ite a).go i H∧∃ N:St→Hp→Prop,(∀ σ' H',N σ' H'→∃ m',m' < m∧W (i + 1) m' σ' H')∧∀ x H',(Ite a).yld i H x H'→g x σ H' fun σ2 H2=>tb { D with nx:=N,ct:=N,bk:=D.nx } σ2 H2):=by
  refine ⟨fun i m σ H=>m = xs.length - i∧i≤xs.length∧Pv i σ H,⟨_,rfl,Nat.zero_le _,h0⟩,?_⟩
  rintro i m σ H ⟨rfl,hi,p⟩
  have q:=hl i σ H p
  by_cases hlt:i < xs.length
  · refine .inr ⟨⟨xs,xs[i],q,by simp [hlt]⟩,Pv (i + 1),fun σ' H' p'=>⟨_,by omega,rfl,hlt,p'⟩,fun x H' y=>?_⟩
    obtain ⟨b,v,hb,rfl,hv,rfl⟩:=y
    exact hs i v σ H b (hv xs q) p hb
  · have e:i = xs.length:=by omega
    subst e
    exact .inl ⟨⟨xs,q,Nat.le_refl _⟩,hd σ H p⟩
theorem fH {D:Addr} {σb:St} {g:TG} {tt:TT} {te:TE} {Q:Hp→List V→Prop} {H:Hp} {a:Addr} {xs:List V} (Pv:Nat→List V→Hp→Prop) (h0:Pv 0 [] H) (hq:∀ i ys H,Pv i ys H→H a = some (.lst xs)) (hl:∀ i ys H,Pv i ys H→H D = some (.lst ys))
    (hs:∀ (i:Nat) x ys H p P,xs[i]? = some x→Pv i ys H→H p = none→(∀ a b,Pv (i + 1) a b→P a b)→nX D σb g tt te (.ref p) ys (upd H p (.tup [.int (i:Nat),x])) P) (hd:∀ ys H,Pv xs.length ys H→Q H ys):∃ W,(∃ m,W 0 m [] H)∧jr (Ite a) D σb g tt te Q W:=by
  refine ⟨fun i m ys H=>m = xs.length - i∧i≤xs.length∧Pv i ys H,⟨_,rfl,Nat.zero_le _,h0⟩,?_⟩
  rintro i m ys H ⟨rfl,hi,p⟩
  refine ⟨hl i ys H p,?_⟩
  have q:=hq i ys H p
  by_cases hlt:i < xs.length
  · refine .inr ⟨⟨xs,xs[i],q,by simp [hlt]⟩,fun x H3 y=>?_⟩
    obtain ⟨b,v,hb,rfl,hv,rfl⟩:=y
    exact hs i v ys H b (fun a b=>∃ m',m' < xs.length - i∧m' = xs.length - (i + 1)∧i + 1≤xs.length∧Pv (i + 1) a b) (hv xs q) p hb fun a b r=>⟨_,by omega,rfl,hlt,r⟩
  · have e:i = xs.length:=by omega
    subst e
    exact .inl ⟨⟨xs,q,Nat.le_refl _⟩,hd ys H p⟩
def Itz (a b:Addr):It:=⟨fun i H=>∃ xs ys x y,H a = some (.lst xs)∧H b = some (.lst ys)∧xs[i]? = some x∧ys[i]? = some y,
  fun i H v H'=>∃ p x y,H p = none∧v = .ref p∧(∀ xs,H a = some (.lst xs)→xs[i]? = some x)∧(∀ ys,H b = some (.lst ys)→ys[i]? = some y)∧H' = upd H p (.tup [x,y]),
  fun i H=>∃ xs ys,H a = some (.lst xs)∧H b = some (.lst ys)∧(xs.length≤i∨ys.length≤i)⟩
theorem sS {P:Program} {w:World} {K:PySem.W.Frag} {es:List Expr} {k:Nat} {pos:Pos} (a b z TI TO i1 i2:Addr) (nd:[z,TI,TO,i1,i2].Nodup) :
    Turn P w K (.Tuple es k pos) (Itz a b) [z,TI,TO,i1,i2] z (fun i h=>IsZip h z TI TO .none∧IsPair h TI (.ref i1) (.ref i2)∧(∃ u v,IsPair h TO u v)∧h.IsListIter i1 a i∧h.IsListIter i2 b i):=by
  have n1:TI≠z:=fun e=>by simp [e] at nd
  have n2:TO≠z:=fun e=>by simp [e] at nd
  have n3:i1≠z:=fun e=>by simp [e] at nd
  have n4:i2≠z:=fun e=>by simp [e] at nd
  have n5:TI≠TO:=fun e=>by simp [e] at nd
  have n6:TI≠i1:=fun e=>by simp [e] at nd
  have n7:TI≠i2:=fun e=>by simp [e] at nd
  have n8:TO≠i1:=fun e=>by simp [e] at nd
  have n9:TO≠i2:=fun e=>by simp [e] at nd
  have n0:i1≠i2:=fun e=>by simp [e] at nd
  have apart:∀ {H:Hp} {xs ys:List V},(∀ c ∈ [z,TI,TO,i1,i2],H c = none)→H a = some (.lst xs)→H b = some (.lst ys)→ZipApart z TI TO i1 i2 a b:=fun {H xs ys} hf ha hb =>
    ⟨n1,n2,n3,n4,n5,n6,n7,n8,n9,n0,ay ha (hf z (by simp)),ay ha (hf TO (by simp)),ay ha (hf i1 (by simp)),ay ha (hf i2 (by simp)),
      ay hb (hf z (by simp)),ay hb (hf TO (by simp)),ay hb (hf i1 (by simp)),ay hb (hf i2 (by simp))⟩
  refine { mem:=by simp,obj:=?_,keep:=?_,item:=?_,done:=?_,self:=?_ }
  · rintro i h ⟨h1,h2,⟨u,v,h3⟩,⟨o4,h4,_,d4⟩,⟨o5,h5,_,d5⟩⟩ c hc
    simp only [List.mem_cons,List.not_mem_nil,or_false] at hc
    rcases hc with rfl | rfl | rfl | rfl | rfl
    · exact ⟨_,h1,fun v z=>by cases z⟩
    · exact ⟨_,h2,fun v z=>by cases z⟩
    · exact ⟨_,h3,fun v z=>by cases z⟩
    · exact ⟨_,h4,fun v z=>by rw [d4] at z; cases z⟩
    · exact ⟨_,h5,fun v z=>by rw [d5] at z; cases z⟩
  · rintro i h h' ⟨h1,h2,⟨u,v,h3⟩,⟨o4,h4,r4⟩,⟨o5,h5,r5⟩⟩ kp
    exact ⟨kp z (by simp) _ h1,kp TI (by simp) _ h2,⟨u,v,kp TO (by simp) _ h3⟩,⟨o4,kp i1 (by simp) _ h4,r4⟩,⟨o5,kp i2 (by simp) _ h5,r5⟩⟩
  · intro X hP hw hK hc i pins s σ H E I hf st hg
    subst hP hw hK
    obtain ⟨h1,h2,⟨u,v,h3⟩,h4,h5⟩:=st
    obtain ⟨xs,ys,x,y,ha,hb,hx,hy⟩:=hg
    obtain ⟨_,its,n,r,hlen,eo⟩:=I.lstM ha
    obtain ⟨_,its2,m,r2,hlen2,eo2⟩:=I.lstM hb
    obtain ⟨ux,hux,rux⟩:=Vals.get r hx
    obtain ⟨uy,huy,ruy⟩:=Vals.get r2 hy
    have hn:H s.heap.objs.size = none:=I.hok.fresh (Nat.le_refl _)
    have new:∀ c ∈ [z,TI,TO,i1,i2],c≠s.heap.objs.size:=fun c hc q=>by
      have:∃ o,s.heap.get? c = some o:=by
        simp only [List.mem_cons,List.not_mem_nil,or_false] at hc
        obtain ⟨o4,h4,_⟩:=h4
        obtain ⟨o5,h5,_⟩:=h5
        rcases hc with rfl | rfl | rfl | rfl | rfl
        · exact ⟨_,h1⟩
        · exact ⟨_,h2⟩
        · exact ⟨_,h3⟩
        · exact ⟨_,h4⟩
        · exact ⟨_,h5⟩
      obtain ⟨o,ho⟩:=this
      exact absurd (Heap.lt_size ho) (by rw [q]; exact Nat.lt_irrefl _)
    refine wpAny_pyNext_zip_item (apart (fun c hc=>(hf c hc).1) ha hb) h1 h2 h3 h4 h5 (xs:=its.toArray) (ys:=its2.toArray) ⟨_,eo,rfl,_,rfl⟩ ⟨_,eo2,rfl,_,rfl⟩ (x:=ux) (y:=uy) (by simpa using hux) (by simpa using huy)
      fun h6 e1 e2 e3 e4 e5 e6 e7=>?_
    refine ⟨_,rfl,wpAny_letOwnedTupleGo_zip e1 fun h7 e8 sb=>?_⟩
    have J:Inv X pins σ (upd H s.heap.objs.size (.tup [x,y])) { s with heap:=h7 }:=by
      refine I.turnedNew (t':=s.toks) (ch:=[z,TI,TO,i1,i2]) (fun c o hc q=>?_) hf (Nat.le_refl _) ⟨by rw [sizeLine_eq]; show 2≤16777216; decide,[ux,uy],.cons rux (.cons ruy .nil),_,(sb.2 _ (new z (by simp)).symm).trans e5,rfl,0,rfl⟩
      have c1:c≠z:=fun w=>hc (by simp [w])
      exact (sb.2 c c1).trans (e7 c o c1 (fun w=>hc (by simp [w])) (fun w=>hc (by simp [w])) (fun w=>hc (by simp [w])) q)
    refine ⟨.ref s.heap.objs.size,_,J,rfl,⟨s.heap.objs.size,x,y,hn,rfl,fun xs' h=>by rw [ha] at h; cases h; exact hx,fun ys' h=>by rw [hb] at h; cases h; exact hy,rfl⟩,⟨e8,?_,⟨ux,uy,?_⟩,?_,?_⟩,fun c hc=>?_⟩
    · exact (sb.2 TI n1).trans (e7 TI _ n1 n5 n6 n7 h2)
    · exact (sb.2 TO n2).trans e2
    · obtain ⟨o,ho,q⟩:=e3
      exact ⟨o,(sb.2 i1 n3).trans ho,q⟩
    · obtain ⟨o,ho,q⟩:=e4
      exact ⟨o,(sb.2 i2 n4).trans ho,q⟩
    · rw [ao (new c hc)]
      exact (hf c hc).1
  · intro X hP hw hK hc i pins s σ H E I hf st hg
    subst hP hw hK
    obtain ⟨h1,h2,⟨u,v,h3⟩,h4,h5⟩:=st
    obtain ⟨xs,ys,ha,hb,hx⟩:=hg
    obtain ⟨_,its,n,r,hlen,eo⟩:=I.lstM ha
    obtain ⟨_,its2,m,r2,hlen2,eo2⟩:=I.lstM hb
    refine wpAny_pyNext_zip_end (I.ok.hd hc) (apart (fun c hc=>(hf c hc).1) ha hb) h1 h2 h3 h4 h5 (xs:=its.toArray) (ys:=its2.toArray) ⟨_,eo,rfl,_,rfl⟩ ⟨_,eo2,rfl,_,rfl⟩ (by simp; omega) fun h6 e7=>?_
    exact ⟨rfl,I.turnedN (t':=s.toks) (ch:=[z,TI,TO,i1,i2]) (fun c o hc q=>e7 c o (fun w=>hc (by simp [w])) (fun w=>hc (by simp [w])) (fun w=>hc (by simp [w])) (fun w=>hc (by simp [w])) q) hf⟩
  · exact fun _ _ _ _ _ st h=>wpAny_pyIter_zip st.1 h
def zw (ta:TA):TI:=fun σ H R=>ta σ H fun vs H1=>∃ a b xs ys,vs = [.ref a,.ref b]∧H1 a = some (.lst xs)∧H1 b = some (.lst ys)∧R (Itz a b) H1
theorem wj {X:Cx} {es:List Expr} {k:Nat} {tpos:Pos} {e f:Expr} {ta:TA} {p pos:Pos} (hg:Gl X "zip") (hm:X.mg "zip" = none) (ha:PA X [e,f] ta) (hs:starEach [e,f] X.env = (false,eval e X.env) :: starEach [f] X.env:=by rfl)
    (hpl:(backTo pos (starEach [f] X.env)).any (·.1) = false:=by rfl):PI X (.Tuple es k tpos) (.Call (.Name "zip" p) [e,f] [] pos) (zw ta):=by
  intro pins s σ H R I h
  refine wpAny_Call_Name_kw (gr I hg hm wO ?_ (by decide) (by decide))
  refine PyProof.Rows.callWith_type1 (thn (ha pos pins s σ H _ I h) fun us s1 ⟨vs,H1,I1,r1,a,b,xs,ys,e1,hl,hl2,q⟩=>?_) hs hpl
  subst e1
  obtain ⟨u,v,rfl,ru,rv⟩:=mI r1
  cases ru
  cases rv
  obtain ⟨_,its,n,r,hlen,eo⟩:=I1.lstM hl
  obtain ⟨_,its2,m,r2,hlen2,eo2⟩:=I1.lstM hl2
  refine call_zip_2 (xs:=its.toArray) (ys:=its2.toArray) ⟨_,eo,rfl,_,rfl⟩ ⟨_,eo2,rfl,_,rfl⟩ fun h2 e1 e2 e3 e4 e5 e6 e7=>?_
  have I2:Inv X pins σ H1 { s1 with heap:=h2 }:=I1.kept (t':=s1.toks) e7
  refine wpAny_pyIter_zip e1 ?_
  refine ⟨s1.heap.objs.size + 4,[s1.heap.objs.size + 4,s1.heap.objs.size + 2,s1.heap.objs.size + 3,s1.heap.objs.size,s1.heap.objs.size + 1],_,_,H1,rfl,I2,sS a b _ _ _ _ _ (by simp),⟨e1,e2,⟨_,_,e3⟩,e4,e5⟩,fun c hc=>?_,q⟩
  have hc':s1.heap.objs.size≤c:=by
    simp only [List.mem_cons,List.not_mem_nil,or_false] at hc
    rcases hc with z | z | z | z | z <;> rw [z] <;> first | exact Nat.le_refl _ | exact Nat.le_add_right _ _
  exact I1.fpOk hc' (I1.hok.fresh hc')
theorem ui {a b:Addr} {xs ys:List V} {g:TG} {tb:TS} {D:Ends} {σ:St} {H:Hp} (he:xs.length = ys.length) (Pv:Nat→St→Hp→Prop) (h0:Pv 0 σ H) (hl:∀ i σ H,Pv i σ H→H a = some (.lst xs)∧H b = some (.lst ys))
    (hs:∀ (i:Nat) x y σ H p,xs[i]? = some x→ys[i]? = some y→Pv i σ H→H p = none→g (.ref p) σ (upd H p (.tup [x,y])) fun σ2 H2=>tb { D with nx:=Pv (i + 1),ct:=Pv (i + 1),bk:=D.nx } σ2 H2) (hd:∀ σ H,Pv xs.length σ H→D.nx σ H) :
    ∃ W:Nat→Nat→St→Hp→Prop,(∃ m,W 0 m σ H)∧∀ i m σ H,W i m σ H →
      ((Itz a b).stop i H∧D.nx σ H)∨((Itz a b).go i H∧∃ N:St→Hp→Prop,(∀ σ' H',N σ' H'→∃ m',m' < m∧W (i + 1) m' σ' H')∧∀ x H',(Itz a b).yld i H x H'→g x σ H' fun σ2 H2=>tb { D with nx:=N,ct:=N,bk:=D.nx } σ2 H2):=by
  refine ⟨fun i m σ H=>m = xs.length - i∧i≤xs.length∧Pv i σ H,⟨_,rfl,Nat.zero_le _,h0⟩,?_⟩
  rintro i m σ H ⟨rfl,hi,p⟩
  obtain ⟨q1,q2⟩:=hl i σ H p
  by_cases hlt:i < xs.length
  · refine .inr ⟨⟨xs,ys,xs[i],ys[i]'(by omega),q1,q2,by simp [hlt],by simp [show i < ys.length by omega]⟩,Pv (i + 1),fun σ' H' p'=>⟨_,by omega,rfl,hlt,p'⟩,fun v H' y=>?_⟩
    obtain ⟨c,x,y,hc,rfl,hx,hy,rfl⟩:=y
    exact hs i x y σ H c (hx xs q1) (hy ys q2) p hc
  · have e:i = xs.length:=by omega
    subst e
    exact .inl ⟨⟨xs,ys,q1,q2,.inl (Nat.le_refl _)⟩,hd σ H p⟩
end L2
namespace NumM
open PySem PySem.NumText
theorem mq {c:Nat} (h:c < 128):(Char.ofNat c).toNat = c:=by
  have:c.isValidChar:=Or.inl (by omega)
  simp [Char.ofNat,this,Char.toNat,Char.ofNatAux]
theorem back {cs:List Nat} (h:AllDigits cs):(cs.map Char.ofNat).map Char.toNat = cs:=by
  rw [List.map_map]
  induction cs with
  | nil=>rfl
  | cons c cs ih =>
    rw [List.map_cons,ih h.tail]
    have:=h.head
    show (Char.ofNat c).toNat :: cs = _
    rw [mq (by omega)]
end NumM
namespace L2
open PySem PySem.Spec PyProof.Rows
def oV:Option Int→V
  | none=>.non
  | some n=>.int n
def ww (lo hi:Int):Option Int→Option Int
  | some n=>if lo≤n∧n≤hi then some n else none
  | none=>none
def yn (t S:Str) (m:Int):Bool:=decide (1≤(t.cps.size:Int)∧(t.cps.size:Int)≤m) && t.cps.toList.all fun c=>decide (c ∈ S.cps.toList)
end L2
namespace SplM
open PySem
def splitC (c:Nat):List Nat→List (List Nat)
  | []=>[[]]
  | a :: l=>if a = c then [] :: splitC c l else match splitC c l with
    | []=>[[a]]
    | p :: r=>(a :: p) :: r
def yk (c:Nat):List (List Nat)→List Nat
  | []=>[]
  | [p]=>p
  | p :: q :: r=>p ++ c :: yk c (q :: r)
end SplM
namespace L2
open PySem PySem.Spec PyProof.Rows
section
variable {X:Cx}
def zA (K:PySem.W.Frag):V→List V→Hp→VK→Prop:=fun x xs H Q=>∃ (z:Str) (p:Addr) (ts:List Str),x = .str z∧xs = [.ref p]∧(SqL K H p (ts.map V.str)∨SqT K H p (ts.map V.str)) ∧
  (ts.map (·.length)).sum + ts.length * z.length≤16777216∧Q (.str (Txt.join z ts)) H
open Builtin.Str in
theorem xp {P:Program} {w:World} {A:Around} {E:Value→Shared→Prop} {s:Shared} {x y:Str} {t u:Tok} {Q:Value→Shared→Prop} (hy:(y.length == 0) = false) (hx:x.length≤sizeLine)
    (hp:(partsBetween x (occurrences x y 0 x.length (x.length + 1)) y.length).length≤sizeLine)
    (h:∀ (l:List (Str×Tok)) (k:Nat),l.map (·.1) = Txt.split x y→Q (.ref s.heap.objs.size) { s with heap:=s.heap.push { cls:=.type "list",data:=.seq (strValues l).toArray },toks:=k }) :
    wpAny (model P w) A (call (.builtin "str.split") [.str x t,.str y u]) Q E s:=by
  by_cases h1:(decide (x.length < y.length) || decide (strKind x < strKind y)) = true
  · refine call_meets F.slot_str_split (typeIs_str s x t) F.entry_str_split (F.args_str_split_2 _ _) (meets_str_split_cannot_occur x y t u h1) ?_
    exact h [(x,t)] s.toks (by unfold Txt.split; rw [if_pos h1]; rfl)
  · have h1':=eq_false_of_ne_true h1
    by_cases h2:(occurrences x y 0 x.length (x.length + 1)).isEmpty = true
    · refine call_meets F.slot_str_split (typeIs_str s x t) F.entry_str_split (F.args_str_split_2 _ _) (meets_str_split_not_found x y t u h1' hy h2) ?_
      exact h [(x,t)] s.toks (by unfold Txt.split; rw [if_neg h1,if_pos h2]; rfl)
    · have h2':=eq_false_of_ne_true h2
      refine call_meets F.slot_str_split (typeIs_str s x t) F.entry_str_split (F.args_str_split_2 _ _) (meets_str_split_sep x y t u h1' hy h2' hx hp) ?_
      have:=h (numbered s.toks (partsBetween x (occurrences x y 0 x.length (x.length + 1)) y.length)) (s.toks + (partsBetween x (occurrences x y 0 x.length (x.length + 1)) y.length).length)
        ((numbered_texts _ _).trans (by unfold Txt.split; rw [if_neg h1,if_neg h2]))
      rw [← strsFrom_eq] at this
      exact this
def yY:V→List V→Hp→VK→Prop:=fun x xs H Q=>∃ (z:Str) (c:Nat),x = .str z∧xs = [.str ⟨#[c]⟩]∧z.cps.size + 2≤sizeLine ∧
  ∀ (l:Addr) (ts:List Str),H l = none→ts.map (fun t=>t.cps.toList) = SplM.splitC c z.cps.toList→Q (.ref l) (upd H l (.lst (ts.map V.str)))
variable {o e:Expr} {es:List Expr} {to:TE} {t:TA} {apos cpos:Pos}
theorem pe_m.append (ho:PE X o to) (ha:PA X (e :: es) t) (hbase:attributeBase o "append" X.env (eval o X.env) = eval o X.env:=by rfl)
    (hfew:((backTo cpos (starEach (e :: es) X.env)).all (fun x=>!x.1) && (backToKw cpos (keywordEach [] X.env)).all (fun x=>x.1.isSome) && decide ((e :: es).length + ([]:List Keyword).length + (if ([]:List Keyword).isEmpty then 0 else 1) < 30)) = true:=by rfl)
    (hline:(apos.endLine == cpos.line) = true:=by rfl) (hs:starEach (e :: es) X.env = (false,eval e X.env) :: starEach es X.env:=by rfl) (hplain:(backTo cpos (starEach es X.env)).any (·.1) = false:=by rfl) :
    PE X (.Call (.Attribute o "append" apos) (e :: es) [] cpos) (tBM X.K "list" rAppend to t):=nZ F.plainAttrs_list F.slot_list_append F.type_list_append kh ho ha hbase hfew hline hs hplain
theorem pe_m.popAt (ho:PE X o to) (ha:PA X (e :: es) t) (hbase:attributeBase o "pop" X.env (eval o X.env) = eval o X.env:=by rfl)
    (hfew:((backTo cpos (starEach (e :: es) X.env)).all (fun x=>!x.1) && (backToKw cpos (keywordEach [] X.env)).all (fun x=>x.1.isSome) && decide ((e :: es).length + ([]:List Keyword).length + (if ([]:List Keyword).isEmpty then 0 else 1) < 30)) = true:=by rfl)
    (hline:(apos.endLine == cpos.line) = true:=by rfl) (hs:starEach (e :: es) X.env = (false,eval e X.env) :: starEach es X.env:=by rfl) (hplain:(backTo cpos (starEach es X.env)).any (·.1) = false:=by rfl) :
    PE X (.Call (.Attribute o "pop" apos) (e :: es) [] cpos) (tBM X.K "list" qz to t):=nZ F.plainAttrs_list F.slot_list_pop F.type_list_pop qE ho ha hbase hfew hline hs hplain
end
def TK (H H':Hp):Prop:=∀ b xs,H b = some (.tup xs)→H' b = some (.tup xs)
theorem TK.trans {H H1 H2:Hp} (a:TK H H1) (b:TK H1 H2):TK H H2:=fun c o h=>b c o (a c o h)
theorem Same.put {H H':Hp} {D:Addr} {o:HO} (e:Same H H') (h:H D = none):Same H (upd H' D o):=fun b u q=>by
  rw [ao (ay q h)]; exact e b u q
theorem ar {α:Type} {xs:List α} {i:Int} {v:α} (k:Nat) (hk:(k:Int) = i) (h:xs[k]? = some v):atI xs i = some v:=by rw [← hk]; exact cU h
def vF (t:Str):Bool:=yn t "abcdefghijklmnopqrstuvwxyz" 8
end L2
namespace L2
open PySem PySem.Spec PyProof.Rows
structure U where
  name:Str
  value:Int
  size:Int
  path:List Str
def uV (p:Addr) (u:U):List V:=[.str u.name,.int u.value,.int u.size,.ref p]
def IsU (H:Hp) (u:U) (x:V):Prop:=∃ a p,x = .ref a∧H a = some (.tup (uV p u))∧H p = some (.tup (u.path.map V.str))
abbrev AllU (H:Hp):List U→List V→Prop:=Paired (IsU H)
theorem AllU.len {H:Hp} {us:List U} {xs:List V} (h:AllU H us xs):us.length = xs.length:=Paired.length h
structure GoodU (u:U):Prop where
  nm:vF u.name = true
  v0:-1000000000≤u.value
  v1:u.value≤1000000000
  s0:1≤u.size
  s1:u.size≤1000000
  pl:u.path.length≤3
  pn:∀ n ∈ u.path,vF n = true
structure GoodL (us:List U):Prop where
  l1:1≤us.length
  l2:us.length≤24
  each:∀ u ∈ us,GoodU u
  nd:(us.map U.name).Nodup
  pth:∀ u ∈ us,∀ v ∈ us,u.path.length = v.path.length
def uD (u:U):PyData:=.tuple [.str u.name,.int u.value,.int u.size,.tuple (u.path.map PyData.str)]
section
variable {X:Cx} {K:PySem.W.Frag}
theorem cP (h:X.K = K):IxR X (rIx K):=h ▸ aC
theorem cV (h:X.K = K) {es:List Expr} {k:Nat} {t:TGs} {n:Nat} {pos:Pos} (hc:X.calm = true) (hp:PGs X es t) (hn:(assignEach es X.env).length = n:=by rfl) (hst:(assignEach es X.env).findIdx? (·.1) = none:=by rfl) :
    PG X (.Tuple es k pos) (gTup K n t):=h ▸ iJ hc hp hn hst
end
end L2
namespace L2
open PySem PySem.Spec PyProof.Rows
structure XCls (K:PySem.W.Frag) (D:Addr):Prop where
  ga:PySem.W.findIn K (.ref D) "__getattribute__" = some (some (.builtin "BaseException.__getattribute__"))
  gn:PySem.W.findIn K (.ref D) "__getattr__" = some none
  cl:PySem.W.findIn K (.ref D) "__class__" = some (some (.builtin "object.__class__"))
  mb:PySem.W.mroIn K D (.type "BaseException") = some true
  mo:PySem.W.mroIn K D (.type "object") = some true
  isc:(PySem.W.clsIn K D).isSome = true
section
variable {prog:Program} {w:World} {A:Around} {E:Value→Shared→Prop} {h:Heap} {g:Array GenState} {d:Drawn} {t:Nat} {os:OsState} {a D:Addr} {o:Obj} {K:PySem.W.Frag}
theorem rT {M:Model} {nameV:Value} {Q:Unit→Shared→Prop} (c:XCls K D) (X:K.In h) (hx:h.get? a = some o) (hc:o.cls = .ref D) (hq:Q () ⟨h,g,d,t,os⟩) :
    wpAny M A (checkBuiltinCall "BaseException.__getattribute__" ⟨[.ref a,nameV],[]⟩) Q E ⟨h,g,d,t,os⟩:=by
  have hk:builtinKind "BaseException.__getattribute__" = some .slot:=by decide +kernel
  have hsplit:splitId "BaseException.__getattribute__" = some ("BaseException", "__getattribute__"):=by decide +kernel
  have ha:=F.args_bexc_ga (.ref a) nameV
  simp only [checkBuiltinCall,hk,hsplit]
  refine wpAny_bind ?_
  unfold isInstance
  repeat (first | (with_reducible refine wpAny_loadPart_at hx ?_; rw [hc]) | with_reducible refine (PySem.W.looks_mroIn X c.mb).at ?_ | wp_step)
  exact hq
theorem wC {R:Result→Shared→Prop} (c:XCls K D) (X:K.In h) (hx:h.get? a = some o) (hc:o.cls = .ref D) (hq:R (.ok (.ret (.ref D))) ⟨h,g,d,t,os⟩) :
    codeAny (model prog w) A (.call (.builtin "getset_descriptor.__get__") ⟨[.builtin "object.__class__",.ref a,.ref D],[]⟩) R ⟨h,g,d,t,os⟩:=by
  have hT5:(⟨h,g,d,t,os⟩:Shared).TypeIs (.builtin "object.__class__") "getset_descriptor" := F.typeOf_object_class
  have hO:PySem.W.Looks (model prog w) h (isSubtype (.ref D) (.type (".".intercalate ("object.__class__".cutAt '.').dropLast))) true:=by
    rw [F.owner_object_class]; exact PySem.W.looks_mroIn X c.mo
  refine codeAny_call_builtin F.slot_gs_get.plain F.entry_gs_get (F.slot_gs_get.check _ _ _ _ _ _ _ _ hT5 (F.args_gs_get _ _ _) ?_)
  repeat (any_goals (first | assumption | (with_reducible refine wpAny_loadPart_at hx ?_; rw [hc]) | with_reducible refine hO.at ?_ | wp_step))
  refine ⟨Code.quiet_builtin _ (by decide +kernel),codeAny_builtin F.entry_object_class ?_⟩
  repeat (any_goals (first | assumption | (with_reducible refine wpAny_loadPart_at hx ?_; rw [hc]) | wp_step))
theorem rH {tk:Tok} {Q:Fin→Shared→Prop} (c:XCls K D) (X:K.In h) (hx:h.get? a = some o) (hc:o.cls = .ref D) (hq:Q (.done (.ret (.ref D))) ⟨h,g,d,t,os⟩) :
    wpAny (model prog w) A (Builtin.«object.__getattribute__» ⟨[.ref a,.str "__class__" tk],[]⟩) Q E ⟨h,g,d,t,os⟩:=by
  have hT5:(⟨h,g,d,t,os⟩:Shared).TypeIs (.builtin "object.__class__") "getset_descriptor" := F.typeOf_object_class
  have f5:=F.typeOf_object_class
  have f6:=F.slot_gs_get.lookup
  have f7:=F.slot_gs_set.lookup
  repeat (any_goals (first | assumption | (with_reducible refine wpAny_loadPart_at hx ?_; rw [hc]) | with_reducible refine (PySem.W.looks_findIn X c.cl).at ?_ | wp_step))
  refine wC c X hx hc ?_
  repeat (any_goals (first | assumption | wp_step))
theorem xE {tk:Tok} {dW expr:Bool} {Q:Value→Shared→Prop} (c:XCls K D) (X:K.In h) (hx:h.get? a = some o) (hc:o.cls = .ref D) (hq:Q (.ref D) ⟨h,g,d,t,os⟩) :
    wpAny (model prog w) A (getAttrBy (.ref a) (.str "__class__" tk) dW expr) Q E ⟨h,g,d,t,os⟩:=by
  have f3:=PySem.F.attrBase_ValueError.ga.bind (.ref a)
  have hx0:(expr && onTheHeap (Value.builtin "BaseException.__getattribute__")) = false:=by cases expr <;> rfl
  have hx2:(Value.builtin "BaseException.__getattribute__" == Value.builtin "object.__getattribute__") = false:=by decide +kernel
  have hx1:(onTheHeap (Value.ref D) && Value.builtin "BaseException.__getattribute__" == Value.builtin "object.__getattribute__") = false:=by rw [hx2]; rfl
  repeat (any_goals (first | assumption | (with_reducible refine wpAny_loadPart_at hx ?_; rw [hc]) | with_reducible refine (PySem.W.looks_findIn X c.ga).at ?_ | with_reducible refine (PySem.W.looks_findIn X c.gn).at ?_ | wp_step))
  refine codeAny_call_builtin PySem.F.attrBase_ValueError.ga.plain F.entry_bexc_ga (rT c X hx hc (rH c X hx hc ?_))
  repeat (any_goals (first | assumption | wp_step))
theorem uu {Q:Option Value→Shared→Prop} (c:XCls K D) (X:K.In h) (hx:h.get? a = some o) (hc:o.cls = .ref D) (hq:Q (some (.ref D)) ⟨h,g,d,t + 1,os⟩) :
    wpAny (model prog w) A (getAttr? (.ref a) "__class__") Q E ⟨h,g,d,t,os⟩:=by
  unfold getAttr? getAttrBy?
  repeat (any_goals (first | assumption | with_reducible apply xE c X hx hc | wp_step))
end
def XAt (a D:Addr) (h:Heap):Prop:=∃ o,h.get? a = some o∧o.cls = .ref D
theorem q9 {K:PySem.W.Frag} {a D:Addr} (c:XCls K D):PySem.W.KitX K (.ref a) (.ref D) (XAt a D) where
  ty:=fun M h _ p=>by
    obtain ⟨o,h1,h2⟩:=p
    exact h2 ▸ (PySem.W.Looks.ld h1).andThen .now
  it:=fun _ _ X _=>by
    obtain ⟨cdD,hcD⟩:=Option.isSome_iff_exists.mp c.isc
    unfold PySem.W.clsIn at hcD
    split at hcD
    · rename_i c' d' cd' sl' ho
      intro A' Q' E' s' k q
      unfold isType loadHead
      exact wpAny_bind (wpAny_loadPart (k _ _ (X _ _ ho)) (wpAny_pure q))
    · cases hcD
  ne:=fun h tp dd its n sl X htp=>by
    obtain ⟨cdD,hcD⟩:=Option.isSome_iff_exists.mp c.isc
    refine Bool.eq_false_iff.mpr fun q=>?_
    have e:D = tp:=Value.ref.inj (beq_iff_eq.mp q)
    subst e
    unfold PySem.W.clsIn at hcD
    split at hcD
    · rename_i c' d' cd' sl' ho
      have z:=(X _ _ ho).symm.trans htp
      cases z
    · cases hcD
  ca:=fun {_ _ _ _ _ s} X p k=>by
    obtain ⟨h,g,d,t,os⟩:=s
    obtain ⟨o,h1,h2⟩:=p
    exact uu c X h1 h2 k
end L2
namespace L2
open PySem PySem.Spec PyProof.Rows
theorem nR {fs:List Addr} {H0 H:Hp} {h0 h h2:Heap} (u:Un fs [] H0 H h0 h) (k:∀ b o,(∃ o',h0.get? b = some o')→b ∉ fs→h.get? b = some o→h2.get? b = some o)
    (sl:∀ b o,b ∈ fs→h.get? b = some o→∃ l,h2.get? b = some { o with slots:=l }):Un fs [] H0 H h0 h2 where
  keep:=fun b o q n hf hx=>k b o ⟨o,q⟩ hf (u.keep b o q n hf hx)
  slot:=fun b o q n hf hx=>by
    obtain ⟨l,e⟩:=u.slot b o q n hf hx
    obtain ⟨l',e'⟩:=sl b _ hf e
    exact ⟨l',e'⟩
  free:=u.free
  there:=fun b o q hx=>by
    obtain ⟨o',e⟩:=u.there b o q hx
    by_cases hf:b ∈ fs
    · obtain ⟨l,e'⟩:=sl b o' hf e
      exact ⟨_,e'⟩
    · exact ⟨o',k b o' ⟨o,q⟩ hf e⟩
  tups:=u.tups
  frzs:=u.frzs
  tbls:=u.tbls
theorem jm {P:Program} {w:World} {H:Hp} {h h2:Heap} (x:HOk P w H h) (k:∀ b o u,H b = some u→h.get? b = some o→h2.get? b = some o):HOk P w H h2:=fun a o e =>
  (x a o e).stay (fun b u hb q=>by
    rcases hb with z | z
    · rw [z] at q ⊢
      exact k a u o e q
    · exact k b u _ z q) (fun _ q=>q) fun _ _ q=>q
theorem ObjOk.isObj {P:Program} {w:World} {H:Hp} {h:Heap} {a:Addr} {o:HO} (x:ObjOk P w H h a o):∃ u,h.get? a = some u:=by
  cases o with
  | lst xs=>obtain ⟨_,_,_,_,e⟩:=x; exact ⟨_,e⟩
  | tup xs=>obtain ⟨_,_,_,_,e,_⟩:=x; exact ⟨_,e⟩
  | dK kvs=>obtain ⟨_,_,_,_,o,_,_,e,_⟩:=x; exact ⟨_,e⟩
  | dT kvs=>obtain ⟨_,_,_,_,o,_,_,e,_⟩:=x; exact ⟨_,e⟩
  | set S n=>obtain ⟨o,_,_,_,e,_⟩:=x; exact ⟨_,e⟩
  | ins C dx fs=>obtain ⟨_,_,_,e,_⟩:=x; exact ⟨_,e⟩
  | own y=>exact x
  | xd fs=>obtain ⟨_,⟨_,_,_,e,_⟩,_⟩:=x; exact ⟨_,e⟩
  | rng lo hi=>obtain ⟨_,_,_,e⟩:=x; exact ⟨_,e⟩
  | frz ob u=>exact ⟨_,x.1⟩
  | tbl ps=>exact ⟨_,x⟩
  | met f y=>exact ⟨_,x⟩
  | ext φ=>exact x.2.1
structure XF (P:Program) (w:World) (outer:List Env) (H:Hp) (s:Shared) (x D:Addr) (a0:Value) (B:Heap) (H':Hp) (s':Shared):Prop where
  os:s'.os = s.os
  bare:AllBare s'.gens
  un:Un (frs outer) [] H H' s.heap s'.heap
  hok:HOk P w H' s'.heap
  fly:Heap.FlyingW B outer x (.ref D) a0 s'.heap
  cov:∀ b o,s'.heap.get? b = some o→((∃ o',s.heap.get? b = some o')∨(∃ u,H' b = some u))→b ∉ frs outer→B.get? b = some o
section
variable {P:Program} {w:World} {outer:List Env} {H H':Hp} {s s':Shared} {x D:Addr} {a0:Value} {B:Heap}
end
section
variable {X:Cx} {pins:List (Addr×Obj)} {σ:St} {H H':Hp} {s s':Shared} {x D:Addr} {a0:Value} {B h2:Heap}
theorem tN (J:Inv X pins σ H' s') {b:Addr} (h:∃ o',X.s₀.heap.get? b = some o') (hn:b ∉ frs X.outer):b ∉ frs X.stack:=fun hb=>by
  obtain ⟨o',e⟩:=h
  rcases List.mem_cons.mp (J.stkSub b hb) with z | z
  · have h1:=Heap.lt_size e
    have h2:=J.ok.above
    rw [z] at h1
    exact absurd (Nat.lt_of_lt_of_le h1 h2) (Nat.lt_irrefl _)
  · exact hn z
theorem uN (J:Inv X pins σ H' s') {b:Addr} {u:HO} (e:H' b = some u):b ∉ frs X.stack:=fun hb=>by
  rw [J.stkFree b hb] at e
  cases e
end
section
variable {P:Program} {w:World} {K:PySem.W.Frag} {mg:Str→Option Value} {base:Heap} {N:List Str} {qual:Str} {scope:Scope} {f:Addr} {cdv:Value} {A:Around} {outer:List Env} {s0:Shared} {H0:Hp} {E:XK}
end
section
variable {P:Program} {w:World} {K:PySem.W.Frag} {mg:Str→Option Value} {base:Heap}
end
end L2
namespace L2
open PySem PySem.Spec PyProof.Rows
structure XHd (K:PySem.W.Frag) (C:Addr):Prop where
  isc:(PySem.W.clsIn K C).isSome = true
  ty:PySem.W.typeIn K (.ref C) = some (.type "type")
  mb:PySem.W.mroIn K C (.type "BaseException") = some true
theorem ma {K:PySem.W.Frag} {M:Model} {h:Heap} {C:Addr} (X:K.In h) (e:(PySem.W.clsIn K C).isSome = true):PySem.W.Looks M h (isType (.ref C)) true:=by
  obtain ⟨cdD,hcD⟩:=Option.isSome_iff_exists.mp e
  unfold PySem.W.clsIn at hcD
  split at hcD
  · rename_i c' d' cd' sl' ho
    intro A' Q' E' s' k q
    unfold isType loadHead
    exact wpAny_bind (wpAny_loadPart (k _ _ (X _ _ ho)) (wpAny_pure q))
  · cases hcD
theorem pQ {K:PySem.W.Frag} {M:Model} {h:Heap} {C D x:Addr} {ob:Obj} (X:K.In h) (c:XHd K C) (hx:h.get? x = some ob) (hc:ob.cls = .ref D) (hm:PySem.W.mroIn K D (.ref C) = some true) :
    PySem.W.Looks M h (excMatches (.ref x) (.ref C)) true:=by
  have L1:PySem.W.Looks M h (typeOf (.ref C)) (.type "type"):=PySem.W.looks_typeIn X c.ty
  have L2':PySem.W.Looks M h (isSubtype (.type "type") (.type "tuple")) false:=PySem.W.Looks.of_pure tc_notTuple
  have L3:PySem.W.Looks M h (isInstance (.ref C) (.type "tuple")) false:=L1.andThen L2'
  have L4:PySem.W.Looks M h (isExcClass (.ref C)) true:=by
    unfold isExcClass
    exact (ma X c.isc).andThen (PySem.W.looks_mroIn X c.mb)
  have L5:PySem.W.Looks M h (typeOf (.ref x)) (.ref D):=hc ▸ (PySem.W.Looks.ld hx).andThen .now
  have L6:PySem.W.Looks M h (isSubtype (.ref D) (.ref C)) true:=PySem.W.looks_mroIn X hm
  intro A Q E s k q
  unfold excMatches
  refine wpAny_bind (L3 A _ E s k ?_)
  rw [if_neg Bool.false_ne_true]
  refine wpAny_bind (wpAny_pure ?_)
  simp only [List.forIn_cons,List.forIn_nil,bind_assoc,pure_bind]
  refine wpAny_bind (L4 A _ E s k ?_)
  simp only [Bool.not_true,Bool.false_eq_true,if_false,pure_bind]
  refine wpAny_bind (L5 A _ E s k ?_)
  refine wpAny_bind (L6 A _ E s k ?_)
  simp only [if_true,pure_bind]
  exact wpAny_pure q
def Cx.inX (X:Cx) (x:Addr):Cx:={ X with A:=X.A.mark (some (.ref x)),calm:=false,xe:=fun _ _=>False }
section
variable {X:Cx} {pins:List (Addr×Obj)} {σ:St} {H H' H1:Hp} {s s' s1:Shared} {x D C:Addr} {a0:Value} {B h2:Heap}
theorem Inv.inX (I:Inv X pins σ H s) (x:Addr):Inv (X.inX x) pins σ H s :=
  ⟨⟨I.ok.mod,I.ok.kind,I.ok.glob,I.ok.blt,I.ok.above,I.ok.inj,I.ok.has,I.ok.cab,fun z=>absurd (show false = true from z) Bool.false_ne_true,I.ok.frames,I.ok.stk,I.ok.exf,I.ok.bs,I.ok.bsz,I.ok.noex,I.ok.exfs,I.ok.funs,I.ok.frf⟩,
    I.os,I.bare,I.base,I.loc,I.cell,I.free,I.freeC,I.pin,I.hok,I.len⟩
theorem Inv.outX (hk:X.calm = true→X.A.handled = none) (I:Inv (X.inX x) pins σ H s):Inv X pins σ H s :=
  ⟨⟨I.ok.mod,I.ok.kind,I.ok.glob,I.ok.blt,I.ok.above,I.ok.inj,I.ok.has,I.ok.cab,hk,I.ok.frames,I.ok.stk,I.ok.exf,I.ok.bs,I.ok.bsz,I.ok.noex,I.ok.exfs,I.ok.funs,I.ok.frf⟩,
    I.os,I.bare,I.base,I.loc,I.cell,I.free,I.freeC,I.pin,I.hok,I.len⟩
theorem Inv.gone {i:Nat} {n:Str} {m:Str→Option Value} {v:Option Value} {h':Heap} {t':Nat} (I:Inv X pins σ H s) (hN:X.N.Nodup) (hi:X.N[i]? = some n) (hl:X.env.kindOf n = some .local)
    (hm:∀ (j:Nat) (y:Str) (w:V),X.N[j]? = some y→σ[j]? = some (some w)→Vis X.env.scope y→∃ u,RelV w u∧wx X.env s.heap m y u)
    (hn:h'.Ns X.env.locals (fun y=>if y = n then v else m y)) (sb:Heap.SameBut X.env.locals s.heap h'):Inv X pins (σ.set i none) H { s with heap:=h',toks:=t' }:=by
  have lt:i < σ.length:=by rw [I.len]; exact (List.getElem?_eq_some_iff.mp hi).1
  have ne0:∀ b o,X.s₀.heap.get? b = some o→b≠X.env.locals:=fun b o e=>Nat.ne_of_lt (Nat.lt_of_lt_of_le (Heap.lt_size e) I.ok.above)
  have u:=I.base
  refine ⟨I.ok,I.os,I.bare,⟨fun b o e n hf hx=>(sb.2 b (ne0 b o e)).trans (u.keep b o e n hf hx),fun b o e n hf hx=>?_,u.free,fun b o e hx=>?_,u.tups,u.frzs,u.tbls⟩,⟨_,hn,fun j y w e1 e2 e3=>?_⟩,fun x c e=>?_,I.free,I.freeC,fun p hp=>?_,?_,by rw [List.length_set]; exact I.len⟩
  · obtain ⟨sl,e'⟩:=u.slot b o e n hf hx
    exact ⟨sl,(sb.2 b (ne0 b o e)).trans e'⟩
  · obtain ⟨o',e'⟩:=u.there b o e hx
    exact ⟨o',(sb.2 b (ne0 b o e)).trans e'⟩
  · have hij:i≠j:=fun z=>by
      subst z
      rw [List.getElem?_set_self lt] at e2
      cases e2
    rw [List.getElem?_set_ne hij] at e2
    have hy:y≠n:=fun z=>by
      subst z
      exact hij ((List.getElem?_inj (List.getElem?_eq_some_iff.mp hi).1 hN).mp (hi.trans e1.symm))
    obtain ⟨u',r,l⟩:=hm j y w e1 e2 e3
    refine ⟨u',r,?_⟩
    rcases l with ⟨z1,z2⟩ | ⟨z1,c,z2,z3⟩
    · exact .inl ⟨z1,by simp only [if_neg hy]; exact z2⟩
    · exact .inr ⟨z1,c,z2,z3.sameBut sb (I.cne y c z2)⟩
  · obtain ⟨v',z⟩:=I.cell x c e
    exact ⟨v',z.sameBut sb (I.cne x c e)⟩
  · obtain ⟨p1,p2,p3,p4,p5⟩:=I.pin p hp
    exact ⟨(sb.2 _ p3).trans p1,p2,p3,p4,p5⟩
  · exact jm I.hok fun b o u' e q=>(sb.2 b fun z=>by rw [z,I.free] at e; cases e).trans q
end
end L2
namespace L2
open PySem PySem.Spec PyProof.Rows
section
variable {X:Cx} {pins:List (Addr×Obj)} {σ:St} {H H' H1:Hp} {s s' s1:Shared} {x D C:Addr} {a0:Value} {B h2:Heap} {cn en:Str} {ie:Nat} {b₀:Stmt} {suite:List Stmt} {cp hp:Pos} {ts:TS} {DE:Ends}
def Ends.asG (DE:Ends) (ie:Nat):Ends:={ nx:=fun σ' H'=>DE.nx (σ'.set ie none) H',rt:=fun _ _=>False }
end
section
variable {X:Cx} {k ie:Nat} {f C:Addr} {fd:FuncData} {ps:List Str} {sp:Sp} {dvs:List V} {ds:List Value} {fx cn en:Str} {p pos p2 cp hp tp:Pos} {e:Expr} {es:List Expr} {t:TA} {b₀:Stmt} {suite:List Stmt} {ts:TS}
end
def TyX (K:PySem.W.Frag) (H:Hp) (x:V) (t:Value):Prop:=TyOf K H x t∨∃ a D φ,x = .ref a∧t = .ref D∧XCls K D∧H a = some (.ext φ)∧∀ h,φ h→XAt a D h
section
variable {X:Cx}
open PySem.W in
theorem uk {pins:List (Addr×Obj)} {σ:St} {H:Hp} {s:Shared} {x:V} {u t:Value} (I:Inv X pins σ H s) (rx:RelV x u) (ty:TyX X.K H x t) :
    ∃ Hh:Heap→Prop,KitX X.K u t Hh∧Hh s.heap∧u≠.builtin "__main__.__loader__#opaque" := by
  rcases ty with ty | ⟨a,D,φ,rfl,rfl,c,e,hφ⟩
  · exact nN I rx ty
  · cases (show u = Value.ref a from rx)
    exact ⟨_,q9 c,hφ _ (I.hok a _ e).1,fun z=>nomatch z⟩
def xA (K:PySem.W.Frag):List V→Hp→VK→Prop:=fun xs H Q=>∃ x c t b,xs = [x,c]∧rA c = true∧TyX K H x t∧PySem.W.kitOne K t (xa c) = some b∧Q (.bl b) H
theorem rR:CallR X (.builtin "isinstance") (xA X.K):=by
  intro pins s σ H xs us Q I r h
  obtain ⟨x,c,t,b,rfl,hc,ty,e,q⟩:=h
  obtain ⟨u,w',rfl,rx,rc⟩:=mI r
  cases nQ hc rc
  obtain ⟨Hh,Z,p,hx⟩:=uk I rx ty
  exact PySem.W.kia_one Z I.kIn p e hx fun tk=>⟨.bl b,H,I.tok tk,rfl,q⟩
end
end L2
namespace L2
open PySem PySem.Spec PyProof.Rows
section
variable {prog:Program} {w:World} {A:Around} {E:Value→Shared→Prop} {h:Heap} {g:Array GenState} {d:Drawn} {t:Nat} {os:OsState} {a D dx:Addr} {o:Obj} {vs:Array Value} {cd:ClassData} {K:PySem.W.Frag} {name:Str} {mA:Str→Option Value} {v:Value}
abbrev bmV:List Value:=[.type "ValueError",.type "Exception",.type "BaseException",.type "object"]
def zx:Value→Bool
  | .ref _=>true
  | _=>false
def yA (l:List Value):Bool:=l.dropWhile zx == bmV
structure XSet (K:PySem.W.Frag) (D:Addr) (name:Str) (cd:ClassData):Prop where
  k:PySem.W.clsIn K D = some cd
  dct:cd.hasDict = true
  mro:yA cd.mro = true
  mo:PySem.W.mroIn K D (.type "object") = some true
  sa:PySem.W.findIn K (.ref D) "__setattr__" = some (some (.builtin "object.__setattr__"))
  na:PySem.W.findIn K (.ref D) name = some none
end
section
variable {prog:Program} {w:World} {A:Around} {E:Value→Shared→Prop} {h:Heap} {g:Array GenState} {d:Drawn} {t:Nat} {os:OsState}
variable {nm q:Str} {C N fI:Addr} {bs bm bmB:List Value} {hdct:Bool} {sn:List Str} {sub:List Value} {ab:Bool} {col:Option Bool} {dd:Option Addr} {k0 k1 k2 k3 k5:Option Value} {B newId initId:String} {mN:Str→Option Value} {rest:List Value} {oI:Obj}
end
end L2
namespace L2
open PySem PySem.Spec PyProof.Rows
def XD0 (a D:Addr):Heap→Prop:=fun h=>∃ o vs,h.get? a = some o∧o.cls = .ref D∧o.data = .fields vs∧o.dict = none∧vs[1]? = some .none
def XD1 (a D dx:Addr):Heap→Prop:=fun h=>∃ o vs,h.get? a = some o∧o.cls = .ref D∧o.data = .fields vs∧o.dict = some dx∧vs[1]? = some .none
def zD (dx:Addr) (fs:List (Str×V)):Heap→Prop:=fun h=>∃ mA,h.Ns1 dx mA∧∀ f,RelO (fs.lookup f) (mA f)
theorem XD0.at {a D:Addr} {h:Heap} (x:XD0 a D h):XAt a D h:=let ⟨o,_,e,c,_⟩:=x; ⟨o,e,c⟩
theorem XD1.at {a D dx:Addr} {h:Heap} (x:XD1 a D dx h):XAt a D h:=let ⟨o,_,e,c,_⟩:=x; ⟨o,e,c⟩
section
variable {P:Program} {w:World} {H:Hp} {h:Heap} {a D dx:Addr} {fs:List (Str×V)}
theorem XD0.ok (x:XD0 a D h):ObjOk P w H h a (.ext (XD0 a D)):=⟨x,let ⟨o,_,e,_⟩:=x; ⟨o,e⟩,fun _ _ ⟨o,vs,e,r⟩ k=>⟨o,vs,k o e,r⟩⟩
end
section
variable {X:Cx} {pins:List (Addr×Obj)} {σ:St} {H:Hp} {s:Shared} {h':Heap} {x dx D:Addr} {φ:Heap→Prop} {ox od:HO}
theorem Inv.tracked {t':Nat} (I:Inv X pins σ H s) (k:∀ b u,s.heap.get? b = some u→h'.get? b = some u) (hn:s.heap.get? x = none) (new:ObjOk X.prog X.w (upd H x ox) h' x ox):Inv X pins σ (upd H x ox) { s with heap:=h',toks:=t' }:=by
  have hx:H x = none:=by
    cases q:H x with
    | none=>rfl
    | some u =>
      obtain ⟨o,e⟩:=(I.hok x u q).isObj
      rw [hn] at e
      cases e
  have ne:∀ b o,s.heap.get? b = some o→b≠x:=fun b o e z=>by rw [z,hn] at e; cases e
  have nh:∀ b u,H b = some u→b≠x:=fun b u e z=>by rw [z,hx] at e; cases e
  refine I.un ⟨fun b o e _ _ _=>k b o e,fun b o e _ _ _=>⟨o.slots,k b o e⟩,fun b o e n _=>?_,fun b o e _=>⟨o,k b o e⟩,fun b xs e=>?_,fun b o u e=>?_,fun b ps e=>⟨#[],?_⟩⟩ fun b u e=>?_
  · rw [ao (ne b o e)]; exact n
  · rw [ao (nh b _ e)]; exact e
  · rw [ao (nh b _ e)]; exact e
  · rw [ao (nh b _ e),e]; simp
  · by_cases hb:b = x
    · subst hb
      rw [ac] at e
      cases e
      exact new
    · rw [ao hb] at e
      exact (I.hok b u e).stay (fun c v _ q=>k c v q) (fun c q=>by rw [ao (nh c _ q)]; exact q) fun c xs q=>by rw [ao (nh c _ q)]; exact q
end
section
variable {X:Cx} {o e value:Expr} {f:Str} {pos pos' tpos:Pos} {ta tv:TE}
end
end L2
namespace L2
open PySem PySem.Spec PyProof.Rows
theorem mX {K:PySem.W.Frag} {h:Heap} {N:Addr} {m:Str→Option Value} {n:Str} {v:Value} (X:K.In h) (G:h.Ns N m) (q:PySem.W.nsIn K N n = some (some v)):m n = some v:=by
  obtain ⟨ob,en,ep,gob,dob,_,fnd⟩:=G
  unfold PySem.W.nsIn at q
  split at q
  · rename_i c0 d0 en0 k0 sl0 lk
    have at0:=X _ _ lk
    rw [gob] at at0
    cases at0
    cases dob
    split at q
    · rename_i entry found
      cases q
      rw [← fnd]
      unfold nsFind findBy
      rw [← Array.find?_toList,found]
      rfl
    · split at q <;> cases q
  · cases q
def xIn (K:PySem.W.Frag) (C:Addr) (fI:Option Value):Bool:=match K.lookup C with
  | some ⟨.type "type",_,.cls cd,sl⟩=>(match cd.mro,sl.toList with
    | .ref C' :: bm,[_,_,_,_,some (.builtin n),_]=>C' == C && n == "ValueError.__new__" && !cd.hasDel && PySem.W.tailIn K bmV bm && PySem.W.nsOkIn K cd.ns && PySem.W.nsIn K cd.ns "__init__" == some fI
    | _,_=>false)
  | _=>false
structure XObj (h:Heap) (C:Addr) (fI:Option Value):Prop where
  obj:∃ bm N nm q bs hdct sn sub ab col dd k0 k1 k2 k3 k5 mN,h.get? C = some (excClassObj nm q C N bs bm hdct sn sub ab col dd k0 k1 k2 k3 k5 "ValueError.__new__")∧h.Ns N mN∧mN "__init__" = fI∧OwnTail h bmV bm
theorem uJ {K:PySem.W.Frag} {h:Heap} {C:Addr} {fI:Option Value} (X:K.In h) (z:xIn K C fI = true):XObj h C fI:=by
  unfold xIn at z
  split at z
  · rename_i dct cld slt lk
    split at z
    · rename_i C' tl a0 a1 a2 a3 nid a5 hmro hsl
      simp only [Bool.and_eq_true,beq_iff_eq,Bool.not_eq_true'] at z
      obtain ⟨⟨⟨⟨⟨rfl,rfl⟩,hdel⟩,ht⟩,hok⟩,hin⟩:=z
      obtain ⟨nm,bs,mro,ns,qn,hd,sn,sub,ab,col,del⟩:=cld
      dsimp only at hmro hdel hok hin
      subst hmro hdel
      have es:slt = #[a0,a1,a2,a3,some (.builtin "ValueError.__new__"),a5]:=by
        obtain ⟨l⟩:=slt
        simp only at hsl
        rw [hsl]
      subst es
      have hN:h.Ns ns (h.nsMap ns):=.of_isNs (PySem.W.isNs_of_in X hok)
      refine ⟨tl,ns,nm,qn,bs,hd,sn,sub,ab,col,dct,a0,a1,a2,a3,a5,_,X _ _ lk,hN,?_,PySem.W.tail_of_in X ht⟩
      cases fI with
      | none=>exact PySem.W.ns_none_of X hN hin
      | some v=>exact mX X hN hin
    · cases z
  · cases z
def ni (K:PySem.W.Frag) (D:Addr):Bool:=PySem.W.findIn K (.ref D) "__getattribute__" == some (some (.builtin "BaseException.__getattribute__")) && PySem.W.findIn K (.ref D) "__getattr__" == some none &&
  PySem.W.findIn K (.ref D) "__class__" == some (some (.builtin "object.__class__")) && PySem.W.mroIn K D (.type "BaseException") == some true && PySem.W.mroIn K D (.type "object") == some true && (PySem.W.clsIn K D).isSome && PySem.W.typeIn K (.ref D) == some (.type "type")
theorem sr {K:PySem.W.Frag} {D:Addr} (h:ni K D = true):XCls K D:=by
  unfold ni at h
  simp only [Bool.and_eq_true,beq_iff_eq] at h
  obtain ⟨⟨⟨⟨⟨⟨h1,h2⟩,h3⟩,h4⟩,h5⟩,h6⟩,h7⟩:=h
  exact ⟨h1,h2,h3,h4,h5,h6⟩
theorem qX {K:PySem.W.Frag} {D:Addr} (h:ni K D = true):XHd K D:=by
  unfold ni at h
  simp only [Bool.and_eq_true,beq_iff_eq] at h
  obtain ⟨⟨⟨⟨⟨⟨h1,h2⟩,h3⟩,h4⟩,h5⟩,h6⟩,h7⟩:=h
  exact ⟨h6,h7,h4⟩
section
variable {P:Program} {w:World} {K:PySem.W.Frag} {mg:Str→Option Value} {base:Heap} {N:List Str} {qual:Str} {scope:Scope} {f:Addr} {cdv:Value} {A:Around} {outer:List Env} {s0:Shared} {H0:Hp} {E:XK}
end
def yu (C:Addr):TE:=fun _ H Q=>∀ a,H a = none→Q (.ref a) (upd H a (.ext (XD0 a C)))
section
variable {X:Cx} {k:Nat} {f C:Addr} {fd:FuncData} {ps:List Str} {sp:Sp} {x:Str} {p pos:Pos} {e:Expr} {es:List Expr} {t:TA}
theorem iY (z:xIn X.K C none = true) (kp:PySem.W.keepIn X.K (.ref C) = true) (hg:Gl X x) (hm:X.mg x = some (.ref C)) (hdb:(x == ("__debug__" : Str)) = false:=by decide):PE X (.Call (.Name x p) [] [] pos) (yu C):=by
  intro pins s σ H Q I h
  refine wpAny_Call_Name_kw (fV I hg hm ?_ hdb)
  refine PySem.W.callWith_K0 I.kIn kp ?_
  obtain ⟨bm,N,nm,q,bs,hdct,sn,sub,ab,col,dd,k0,k1,k2,k3,k5,mN,hC,hN,hni,T⟩:=(uJ I.kIn z).obj
  obtain ⟨h0,g0,d0,t0,os0⟩:=s
  refine wpAny_call_exc_subT (rest:=[]) PySem.F.excBase_ValueError T hC hN hni (fun h' a hx=>?_) (Nat.zero_le _)
  obtain ⟨t1,ht,_,_⟩:=hx.there
  have hn:H a = none:=by
    cases q:H a with
    | none=>rfl
    | some u =>
      obtain ⟨o,e⟩:=(I.hok a u q).isObj
      have:=hx.new
      rw [show h0.get? a = some o from e] at this
      cases this
  exact ⟨.ref a,_,I.tracked (t':=t0) hx.keeps hx.new (XD0.ok ⟨_,_,ht,rfl,rfl,rfl,rfl⟩),rfl,h a hn⟩
end
end L2
namespace L2
open PySem PySem.Spec PyProof.Rows
section
variable {prog:Program} {w:World} {KT:Type} [DecidableEq KT] {knd:KeyKind prog w KT} {A:Around} {E:Value→Shared→Prop} {s:Shared} {d:Addr} {kvs:List (KT×Value)} {k:KT} {key dflt:Value}
end
def zz:V→List V→Hp→VK→Prop:=fun x vs H Q=>∃ (a:Addr) (kvs:List (Key×V)) (k:Key) (v:V),x = .ref a∧vs = [kV k,v]∧H a = some (.dK kvs)∧kvs.length < sizeLine ∧
  (∀ y,eW kvs k = some y→Q y H)∧(eW kvs k = none→Q v (upd H a (.dK (kvs ++ [(k,v)]))))
section
variable {X:Cx}
end
end L2
namespace L2
open PySem PySem.Spec PyProof.Rows
def IV (v d:Addr):Heap→Prop:=fun h=>h.IsItemsView v d
def za:V→List V→Hp→VK→Prop:=fun x vs H Q=>∃ (d:Addr) (kvs:List (Key×V)),x = .ref d∧vs = []∧H d = some (.dK kvs)∧∀ v,H v = none→Q (.ref v) (upd H v (.ext (IV v d)))
section
variable {X:Cx} {o e:Expr} {es:List Expr} {to:TE} {t:TA} {apos cpos:Pos}
end
section
variable {X:Cx} {o e:Expr} {es:List Expr} {to:TE} {t:TA} {apos cpos:Pos}
end
end L2
namespace L2
open PySem PySem.Spec PyProof.Rows
theorem ou:∀ {xs:List V} {us:List Value},xs.length = us.length→(∀ (i:Nat) x u,xs[i]? = some x→us[i]? = some u→RelV x u)→Vals xs us
  | [],[],_,_=>.nil
  | x :: xs,u :: us,h,r=>.cons (r 0 x u rfl rfl) (ou (by simpa using h) fun i y w h1 h2=>r (i + 1) y w (by simpa using h1) (by simpa using h2))
  | [],_ :: _,h,_=>by cases h
  | _ :: _,[],h,_=>by cases h
section
variable {X:Cx}
theorem kx:CallR X (.type "range") (fun xs H Q=>∃ b,xs = [.int b]∧∀ p,H p = none→Q (.ref p) (upd H p (.rng 0 b))):=by
  intro pins s σ H xs us Q I r h
  obtain ⟨b,rfl,q⟩:=h
  obtain ⟨u,rfl,⟨t,rfl⟩⟩:=er r
  refine call_range_1 ?_
  exact ⟨.ref s.heap.objs.size,_,I.laid (o:=.rng 0 b) (fun b o e=>Heap.get?_push_of_some _ e) (Nat.le_refl _) ⟨_,_,_,Heap.get?_push_size _ rfl⟩,rfl,q _ (I.hok.fresh (Nat.le_refl _))⟩
end
end L2
namespace L2
open PySem PySem.Spec PyProof.Rows
section
variable {M:Model} {A:Around} {E:Value→Shared→Prop} {s:Shared} {env:Env} {K:PySem.W.Frag} {D:Addr}
theorem uB {x:Sem Value} {Q:Flow→Shared→Prop} (c:XCls K D) (hd:XHd K D) (hh:A.handled = none)
    (h:wpAny M A x (fun v s₁=>∃ e ob vs,v = .ref e∧K.In s₁.heap∧s₁.heap.get? e = some ob∧ob.cls = .ref D∧ob.data = .fields vs∧vs[1]? = some .none∧E (.ref e) s₁) E s):wpAny M A (raiseStmt env (some x) none) Q E s:=by
  unfold raiseStmt
  refine wpAny_bind (wpAny_mono h (fun v s₁ h₁=>?_) fun _ _ z=>z)
  obtain ⟨e,ob,vs,rfl,X,ge,gc,gd,g1,hE⟩:=h₁
  obtain ⟨hp,g,d,tk,os⟩:=s₁
  repeat (first | with_reducible refine (PySem.W.looks_typeIn X hd.ty).at ?_ | (with_reducible refine wpAny_loadPart_at ge ?_; first | rw [gc] | rw [gd]) | with_reducible refine (PySem.W.looks_mroIn X c.mb).at ?_ | with_reducible refine wpAny_field ge gd g1 ?_ | wp_step)
  exact wpAny_raiseNew_none hh hE
end
end L2
namespace L2
open PySem PySem.Spec PyProof.Rows
def Fx (h:Heap) (e:Addr) (cls:Value) (dct:Option Addr) (fl:Value) (T:Addr):Prop :=
  ∃ ob fs oT ts,h.get? e = some ob∧ob.cls = cls∧ob.dict = dct∧ob.data = .fields fs∧fs[1]? = some (.ref T)∧T≠e∧h.get? T = some oT∧oT.data = .fields ts∧ts[3]? = some fl
theorem jO (f:Array Value→Array Value) (o:Obj):(Obj.mapFields f o).dict = o.dict:=by
  obtain ⟨c,d,dt,sl⟩:=o
  cases dt <;> rfl
theorem qJ (f:Array Value→Array Value) (o:Obj):(Obj.mapFields f o).cls = o.cls:=Obj.cls_mapFields _ _
section
variable {M:Model} {A:Around} {E:Value→Shared→Prop} {s:Shared} {base:Heap} {env:Env} {outer:List Env} {L e:Addr} {ob:Obj} {fs:Array Value} {head:Value} {more:Bool}
theorem mi {Q:Unit→Shared→Prop} (fr:A.frames = some (env :: outer)) (ff:s.heap.FunFrames base (env :: outer)) (fL:env.frame = some L) (ge:s.heap.get? e = some ob) (de:ob.data = .fields fs) (sz:1 < fs.size)
    (h:∀ h' T,Fx h' e ob.cls ob.dict (rawInt L) T→s.heap.get? T = none→(∀ b o,b≠e→b ∉ frs (env :: outer)→s.heap.get? b = some o→h'.get? b = some o) →
      (∀ b o,b≠e→s.heap.get? b = some o→∃ sl,h'.get? b = some { o with slots:=sl })→Q () { s with heap:=h' }) :
    wpAny M A (do let a ← frameOf env; let pl ← entryPlaceOf L more; let b ← EntryCells.newEntry head a .none (rawInt L) .none pl; setField (.ref e) 1 b) Q E s:=by
  have out:e ∉ frs (env :: outer):=fun hm=>by
    obtain ⟨_,o,go,nf⟩:=ff.mem hm
    rw [ge] at go
    cases go
    exact nf fs de
  refine wpAny_bind (wpAny_frameOf_fun fr ff fL fun h1 so=>?_)
  refine wpAny_bind (wpAny_entryPlaceOf fun pl isP=>?_)
  unfold EntryCells.newEntry newFields
  refine wpAny_bind (wpAny_newObj_type ?_ (isP.sizeOk5 _ _ _ _ _))
  have e1:h1.get? e = some ob:=(so.2.1 e out).trans ge
  have e2:=Heap.get?_push_of_some (h:=h1) { cls:=.type "traceback",dict:=none,data:=.fields ([head,.ref L,.none,rawInt L,.none] ++ (if pl.isEmpty then List.replicate 6 Value.none else pl)).toArray } e1
  have nT:h1.objs.size≠e:=Nat.ne_of_gt (Heap.lt_size e1)
  have dm:=Obj.data_mapFields de (·.setIfInBounds 1 (Value.ref h1.objs.size))
  have e3:=Heap.get?_update_self (Obj.mapFields (·.setIfInBounds 1 (Value.ref h1.objs.size))) e2 (Obj.isFreed_of_fields dm)
  have oth:∀ b o,b≠e→h1.get? b = some o→((h1.push { cls:=.type "traceback",dict:=none,data:=.fields ([head,.ref L,.none,rawInt L,.none] ++ (if pl.isEmpty then List.replicate 6 Value.none else pl)).toArray }).update e (Obj.mapFields (·.setIfInBounds 1 (Value.ref h1.objs.size)))).get? b = some o :=
    fun b o nb gb=>(Heap.get?_update_other _ _ (Ne.symm nb)).trans (Heap.get?_push_of_some _ gb)
  refine wpAny_setField e2 de sz (h _ h1.objs.size ⟨_,_,_,_,e3,qJ _ _,jO _ _,dm,by simp [sz],nT,(Heap.get?_update_other _ _ (Ne.symm nT)).trans (Heap.get?_push_size _ rfl),rfl,?_⟩ ?_ (fun b o nb nf gb=>oth b o nb ((so.2.1 b nf).trans gb)) fun b o nb gb=>?_)
  · simp
  · have:s.heap.objs.size = h1.objs.size:=so.1.symm
    rw [← this]
    exact Heap.get?_none_of_le (Nat.le_refl _)
  · obtain ⟨sl,g1⟩:=so.2.2 b o gb
    exact ⟨sl,oth b _ nb g1⟩
end
end L2
namespace L2
open PySem PySem.Spec PyProof.Rows
section
variable {M:Model} {A:Around} {E:Value→Shared→Prop} {s:Shared} {base:Heap} {env:Env} {outer:List Env} {L e T:Addr} {ob:Obj} {fs:Array Value} {cls fl:Value} {dct:Option Addr}
def KeptBut (xs fr:List Addr) (h h':Heap):Prop :=
  (∀ b o,b ∉ xs→b ∉ fr→h.get? b = some o→h'.get? b = some o)∧∀ b o,b ∉ xs→h.get? b = some o→∃ sl,h'.get? b = some { o with slots:=sl }
theorem KeptBut.trans {xs ys fr:List Addr} {h h1 h2:Heap} (a:KeptBut xs fr h h1) (b:KeptBut ys fr h1 h2):KeptBut (xs ++ ys) fr h h2 :=
  ⟨fun c o n f g=>b.1 c o (fun z=>n (List.mem_append_right _ z)) f (a.1 c o (fun z=>n (List.mem_append_left _ z)) f g),fun c o n g=>by
    obtain ⟨s1,g1⟩:=a.2 c o (fun z=>n (List.mem_append_left _ z)) g
    obtain ⟨s2,g2⟩:=b.2 c _ (fun z=>n (List.mem_append_right _ z)) g1
    exact ⟨s2,g2⟩⟩
theorem rj {Q:Unit→Shared→Prop} (fr:A.frames = some (env :: outer)) (ff:s.heap.FunFrames base (env :: outer)) (fL:env.frame = some L) (ge:s.heap.get? e = some ob) (de:ob.data = .fields fs) (f1:fs[1]? = some .none)
    (h:∀ h' T,Fx h' e ob.cls ob.dict (rawInt L) T→s.heap.get? T = none→KeptBut [e] (frs (env :: outer)) s.heap h'→Q () { s with heap:=h' }):wpAny M A (noteFrame (.ref e) env) Q E s:=by
  unfold noteFrame
  simp only [fL]
  refine wpAny_bind (wpAny_field ge de f1 ?_)
  rw [if_neg (by decide)]
  exact mi fr ff fL ge de (Array.getElem?_eq_some_iff.mp f1).1 fun h' T x nT k1 k2=>h h' T x nT ⟨fun b o n f g=>k1 b o (by simpa using n) f g,fun b o n g=>k2 b o (by simpa using n) g⟩
theorem nS {Q:Unit→Shared→Prop} (fr:A.frames = some (env :: outer)) (ff:s.heap.FunFrames base (env :: outer)) (fL:env.frame = some L) (x:Fx s.heap e cls dct .none T)
    (h:∀ h' T',Fx h' e cls dct (rawInt L) T'→s.heap.get? T' = none→KeptBut [T,e] (frs (env :: outer)) s.heap h'→Q () { s with heap:=h' }):wpAny M A (noteFrame (.ref e) env) Q E s:=by
  obtain ⟨ob,fs,oT,ts,ge,rfl,rfl,de,f1,nT,gT,dT,t3⟩:=x
  unfold noteFrame
  simp only [fL]
  refine wpAny_bind (wpAny_field ge de f1 ?_)
  rw [if_pos (show (Value.ref T != Value.none) = true from by simp)]
  refine wpAny_bind (wpAny_field gT dT t3 ?_)
  rw [if_neg (show ¬ ((Value.none == rawInt L) = true) from by simp [rawInt])]
  refine wpAny_bind (wpAny_setField gT dT (Array.getElem?_eq_some_iff.mp t3).1 ?_)
  have oth:∀ b,b≠T→(s.heap.update T (Obj.mapFields (·.setIfInBounds 3 Value.none))).get? b = s.heap.get? b:=fun b nb=>Heap.get?_update_other _ _ (Ne.symm nb)
  have nrec:∀ b o,s.heap.get? b = some o→(∀ vs,o.data≠.fields vs)→b≠T:=fun b o gb nf z=>by
    rw [z,gT] at gb
    cases gb
    exact nf ts dT
  have gT':=Heap.get?_update_self (Obj.mapFields (·.setIfInBounds 3 Value.none)) gT (Obj.isFreed_of_fields (Obj.data_mapFields dT _))
  refine mi fr (ff.of_keeps fun b o gb nf=>⟨o,(oth b (nrec b o gb nf)).trans gb,rfl⟩) fL ((oth e nT.symm).trans ge) de (Array.getElem?_eq_some_iff.mp f1).1 fun h' T' x' nT' k1 k2=>h h' T' x' ?_ ⟨fun b o n f g=>?_,fun b o n g=>?_⟩
  · cases q:s.heap.get? T' with
    | none=>rfl
    | some o =>
      by_cases z:T' = T
      · rw [z,gT'] at nT'
        cases nT'
      · have nT'':=nT'
        rw [oth T' z,q] at nT''
        cases nT''
  · have n1:b≠T:=fun z=>n (by rw [z]; exact List.mem_cons_self)
    have n2:b≠e:=fun z=>n (by rw [z]; simp)
    exact k1 b o n2 f ((oth b n1).trans g)
  · have n1:b≠T:=fun z=>n (by rw [z]; exact List.mem_cons_self)
    have n2:b≠e:=fun z=>n (by rw [z]; simp)
    exact k2 b o n2 ((oth b n1).trans g)
theorem fK {Q:Unit→Shared→Prop} {fr:List Addr} (x:Fx s.heap e cls dct fl T) (h:∀ h',Fx h' e cls dct .none T→KeptBut [T] fr s.heap h'→Q () { s with heap:=h' }):wpAny M A (setFlight (.ref e) none) Q E s:=by
  obtain ⟨ob,fs,oT,ts,ge,rfl,rfl,de,f1,nT,gT,dT,t3⟩:=x
  have z3:3 < ts.size:=(Array.getElem?_eq_some_iff.mp t3).1
  have oth:∀ b,b≠T→(s.heap.update T (Obj.mapFields (·.setIfInBounds 3 ((none:Option Addr).elim Value.none fun f=>rawInt f)))).get? b = s.heap.get? b:=fun b nb=>Heap.get?_update_other _ _ (Ne.symm nb)
  unfold setFlight
  refine wpAny_bind (wpAny_field ge de f1 ?_)
  rw [if_pos (show (Value.ref T != Value.none) = true from by simp)]
  refine wpAny_setField gT dT z3 (h _ ⟨ob,fs,_,_,(oth e nT.symm).trans ge,rfl,rfl,de,f1,nT,Heap.get?_update_self _ gT (Obj.isFreed_of_fields (Obj.data_mapFields dT _)),Obj.data_mapFields dT _,by simp [z3]⟩ ⟨fun b o n _ g=>?_,fun b o n g=>?_⟩)
  · exact (oth b (by simpa using n)).trans g
  · exact ⟨o.slots,(oth b (by simpa using n)).trans g⟩
theorem su {Q:Unit→Shared→Prop} (fr:A.frames = some (env :: outer)) (ff:s.heap.FunFrames base (env :: outer)) (fL:env.frame = some L) (x:Fx s.heap e cls dct .none T)
    (h:∀ h' T',Fx h' e cls dct .none T'→s.heap.get? T' = none→KeptBut [T,e,T'] (frs (env :: outer)) s.heap h'→Q () { s with heap:=h' }):wpAny M A (leaving env (.ref e)) Q E s:=by
  unfold leaving
  refine wpAny_bind (nS fr ff fL x fun h1 T1 x1 n1 k1=>fK (s:={ s with heap:=h1 }) x1 fun h2 x2 k2=>h h2 T1 x2 n1 (k1.trans k2))
theorem pK {Q:Unit→Shared→Prop} (fr:A.frames = some (env :: outer)) (ff:s.heap.FunFrames base (env :: outer)) (fL:env.frame = some L) (ge:s.heap.get? e = some ob) (de:ob.data = .fields fs) (f1:fs[1]? = some .none)
    (h:∀ h' T',Fx h' e ob.cls ob.dict .none T'→s.heap.get? T' = none→KeptBut [e,T'] (frs (env :: outer)) s.heap h'→Q () { s with heap:=h' }):wpAny M A (leaving env (.ref e)) Q E s:=by
  unfold leaving
  refine wpAny_bind (rj fr ff fL ge de f1 fun h1 T1 x1 n1 k1=>fK (s:={ s with heap:=h1 }) x1 fun h2 x2 k2=>h h2 T1 x2 n1 (k1.trans k2))
end
end L2
namespace L2
open PySem PySem.Spec PyProof.Rows
structure XG (P:Program) (w:World) (outer:List Env) (H:Hp) (s:Shared) (x D:Addr) (dct:Option Addr) (T:Addr) (H':Hp) (s':Shared):Prop where
  os:s'.os = s.os
  bare:AllBare s'.gens
  un:Un (frs outer) [] H H' s.heap s'.heap
  hok:HOk P w H' s'.heap
  fx:Fx s'.heap x (.ref D) dct .none T
  nx:s.heap.get? x = none
  nT:s.heap.get? T = none
  ux:H' x = none
  uT:H' T = none
def CXG (P:Program) (w:World):CXT:=fun outer H s E e s'=>∃ x D dct T H',e = .ref x∧XG P w outer H s x D dct T H' s'∧E (.ref D) dct H'
theorem cE {fs:List Addr} {H H':Hp} {h h':Heap} {b:Addr} (u:Un fs [] H H' h h') (n:h'.get? b = none):h.get? b = none:=by
  cases q:h.get? b with
  | none=>rfl
  | some o =>
    obtain ⟨o',e⟩:=u.there b o q (by simp)
    rw [n] at e
    cases e
section
variable {P:Program} {w:World} {K:PySem.W.Frag} {mg:Str→Option Value} {base:Heap} {N:List Str} {qual:Str} {scope:Scope} {f:Addr} {cdv:Value} {A:Around} {outer:List Env} {s0:Shared} {H0:Hp} {E:XK}
abbrev cxG (P:Program) (w:World) (K:PySem.W.Frag) (mg:Str→Option Value) (base:Heap) (N:List Str) (qual:Str) (scope:Scope) (f:Addr) (cdv:Value) (A:Around) (outer:List Env) (s0:Shared) (H0:Hp) (E:XK):Cx :=
  gv (CXG P w) P w K mg base N qual scope f cdv A outer s0 H0 E
theorem oC {X:Cx} {pins:List (Addr×Obj)} {σ:St} {H':Hp} {s':Shared} {h2:Heap} {x D T:Addr} {dct:Option Addr} {xs:List Addr} (J:Inv X pins σ H' s') (hex:X.ex = [])
    (k:KeptBut xs (frs X.stack) s'.heap h2) (hxs:∀ b ∈ xs,X.s₀.heap.get? b = none∧H' b = none∧b ∉ frs X.outer) (fx:Fx h2 x (.ref D) dct .none T) (mx:x ∈ xs) (mT:T ∈ xs) :
    XG X.prog X.w X.outer X.H₀ X.s₀ x D dct T H' { s' with heap:=h2 }:=by
  have jb:Un (frs X.outer) [] X.H₀ H' X.s₀.heap s'.heap:=by
    have:=J.base
    rw [hex] at this
    exact this
  refine ⟨J.os,J.bare,nR jb (fun b o h0 hf e=>k.1 b o (fun z=>?_) (tN J h0 hf) e) (fun b o hf e=>k.2 b o (fun z=>(hxs b z).2.2 hf) e),jm J.hok (fun b o u hu e=>k.1 b o (fun z=>?_) (uN J hu) e),fx,(hxs x mx).1,(hxs T mT).1,(hxs x mx).2.1,(hxs T mT).2.1⟩
  · obtain ⟨o0,e0⟩:=h0
    rw [(hxs b z).1] at e0
    cases e0
  · rw [(hxs b z).2.1] at hu
    cases hu
theorem jc {X:Cx} {pins:List (Addr×Obj)} {σ:St} {H:Hp} {s:Shared} (I:Inv X pins σ H s) {b:Addr} (h:s.heap.get? b = none):b ∉ frs X.outer:=fun z=>by
  obtain ⟨_,o,e,_⟩:=I.funs.mem z
  rw [h] at e
  cases e
theorem oE:jB (CXG P w) (cxG P w K mg base N qual scope f cdv A outer s0 H0 E) E:=by
  intro pins σ H s e s' I hx
  obtain ⟨x,D,dct,T,H',rfl,G,q⟩:=hx
  have J:Inv (cxG P w K mg base N qual scope f cdv A outer s0 H0 E) pins σ H' s':=I.call' (ch:=[]) G.os G.un G.hok G.bare (by simp)
  have ib:Un (frs outer) [] H0 H s0.heap s.heap:=I.base
  have jb:Un (frs outer) [] H0 H' s0.heap s'.heap:=J.base
  show wpAny _ _ (leaving _ (.ref x)) _ _ s'
  refine su I.ok.frames J.stack rfl G.fx fun h2 T2 x2 n2 k=>?_
  refine ⟨x,D,dct,T2,H',rfl,oC J rfl k (fun b hb=>?_) x2 (by simp) (by simp),q⟩
  have hb':b = T∨b = x∨b = T2:=by simpa using hb
  rcases hb' with rfl | rfl | rfl
  · exact ⟨cE ib G.nT,G.uT,jc I G.nT⟩
  · exact ⟨cE ib G.nx,G.ux,jc I G.nx⟩
  · refine ⟨cE jb n2,?_,jc J n2⟩
    cases z:H' b with
    | none=>rfl
    | some u =>
      obtain ⟨o,e⟩:=(J.hok b u z).isObj
      rw [n2] at e
      cases e
end
section
variable {P:Program} {w:World} {K:PySem.W.Frag} {mg:Str→Option Value} {base:Heap}
theorem Fun.okG {x qual:Str} {st:Stmt} {f:Addr} {fd:FuncData} {N ps:List Str} {k:Nat} {sp:Sp} (F:Fun K x qual st f fd) (S:FnScope N ps (ad st)) (len:∀ vs H Q E,sp vs H Q E→vs.length = ps.length)
    (hbody:∀ (cdv:Value) (A:Around) (outer:List Env) (s:Shared) (H:Hp) (vs:List V) (Q:VK) (E:XK),Room k (A.deeper (envOfC qual (ad st) s.heap.objs.size f cdv))→sp vs H Q E →
      ∃ t,PSs (cxG P w K mg base N qual (ad st) f cdv A outer s H E) (ai st) t∧t { nx:=fun _ H'=>Q .non H',rt:=Q } (start N vs) H):FnOk P w K mg base (CXG P w) (k + 1) f fd ps sp:=by
  obtain ⟨oc,od,kV,doc,pm,an,cdv,ct,osl,rfl,lk,hcd⟩:=F.ex
  exact vH lk hcd S len fun A outer s H vs Q E hr hsp=>hbody cdv A outer s H vs Q E hr hsp
end
end L2
namespace L2
open PySem PySem.Spec PyProof.Rows
def untr (H:Hp) (x:Addr):Hp:=fun b=>if b = x then none else H b
theorem cT {H:Hp} {x b:Addr} (h:b≠x):untr H x b = H b:=by unfold untr; rw [if_neg h]
theorem eC {H:Hp} {x:Addr}:untr H x x = none:=by unfold untr; rw [if_pos rfl]
def XU (a D:Addr) (dct:Option Addr):Heap→Prop:=fun h=>∃ o vs,h.get? a = some o∧o.cls = .ref D∧o.data = .fields vs∧o.dict = dct∧vs[1]? = some .none
theorem Inv.untr {X:Cx} {pins:List (Addr×Obj)} {σ:St} {H:Hp} {s:Shared} {x:Addr} {φ:Heap→Prop} (I:Inv X pins σ H s) (hx:H x = some (.ext φ)):Inv X pins σ (untr H x) s:=by
  have nt:∀ b u,H b = some u→(∀ ψ,u≠.ext ψ)→b≠x:=fun b u e n z=>by
    rw [z,hx] at e
    cases e
    exact n φ rfl
  have fr:∀ b,H b = none→L2.untr H x b = none:=fun b e=>by
    by_cases z:b = x
    · rw [z]; exact eC
    · rw [cT z]; exact e
  have hok:HOk X.prog X.w (L2.untr H x) s.heap:=fun b u e=>by
    by_cases z:b = x
    · rw [z,eC] at e
      cases e
    · rw [cT z] at e
      refine (I.hok b u e).stay (fun _ _ _ q=>q) (fun c q=>?_) fun c xs q=>?_
      · rw [cT (nt c _ q fun _ z=>nomatch z)]; exact q
      · rw [cT (nt c _ q fun _ z=>nomatch z)]; exact q
  exact I.un (t':=s.toks) (h':=s.heap) ⟨fun b o e _ _ _=>e,fun b o e _ _ _=>⟨o.slots,e⟩,fun b o e n _=>fr b n,fun b o e _=>⟨o,e⟩,fun b xs e=>by rw [cT (nt b _ e fun _ z=>nomatch z)]; exact e,
    fun b o u e=>by rw [cT (nt b _ e fun _ z=>nomatch z)]; exact e,fun b ps e=>⟨#[],by rw [cT (nt b _ e fun _ z=>nomatch z),e]; simp⟩⟩ hok
section
variable {P:Program} {w:World} {K:PySem.W.Frag} {mg:Str→Option Value} {base:Heap} {N:List Str} {qual:Str} {scope:Scope} {f:Addr} {cdv:Value} {A:Around} {outer:List Env} {s0:Shared} {H0:Hp} {E:XK}
def tQ (K:PySem.W.Frag) (H0:Hp) (E:XK) (D:Addr) (te:TE):TS:=fun _ σ H=>te σ H fun v H1=>∃ x dct φ,v = .ref x∧H1 x = some (.ext φ)∧(∀ h,φ h→XU x D dct h)∧H0 x = none∧E (.ref D) dct (untr H1 x)
theorem fM {ex:Expr} {te:TE} {D:Addr} {pos:Pos} (c:XCls K D) (hd:XHd K D) (he:PE (cxG P w K mg base N qual scope f cdv A outer s0 H0 E) ex te) :
    PS (cxG P w K mg base N qual scope f cdv A outer s0 H0 E) (.Raise (some ex) none pos) (tQ K H0 E D te):=by
  intro pins s σ H DE I h
  rw [arm_exec_Raise]
  refine wpAny_bind (wpAny_standAt ?_)
  show wpAny _ _ (raiseStmt _ (some (do let v ← eval ex (cxG P w K mg base N qual scope f cdv A outer s0 H0 E).env; standAt pos; pure v)) none) _ _ s
  refine uB (K:=K) (D:=D) c hd (I.ok.hd rfl) (wpAny_bind (thn (he pins s σ H _ I h) fun v s1 ⟨y,H1,I1,ry,x,dct,φ,ey,hx,hφ,h0,q⟩=>wpAny_bind (wpAny_standAt (wpAny_pure ?_))))
  subst ey
  obtain rfl:v = Value.ref x:=ry
  obtain ⟨ob,vs,g1,g2,g3,g4,g5⟩:=hφ _ (I1.hok x _ hx).1
  refine ⟨x,ob,vs,rfl,I1.kIn,g1,g2,g3,g5,?_⟩
  show wpAny _ _ (leaving _ (.ref x)) _ _ s1
  have J:=I1.untr hx
  have jb:Un (frs outer) [] H0 (untr H1 x) s0.heap s1.heap:=J.base
  have ib:Un (frs outer) [] H0 H1 s0.heap s1.heap:=I1.base
  have nx:s0.heap.get? x = none:=by
    cases z:s0.heap.get? x with
    | none=>rfl
    | some o =>
      have:=ib.free x o z h0 (by simp)
      rw [hx] at this
      cases this
  refine pK I1.ok.frames J.stack rfl g1 g3 g5 fun h2 T fx nT k=>?_
  rw [g2,g4] at fx
  refine ⟨x,D,dct,T,untr H1 x,rfl,oC J rfl k (fun b hb=>?_) fx (by simp) (by simp),q⟩
  have hb':b = x∨b = T:=by simpa using hb
  rcases hb' with rfl | rfl
  · refine ⟨nx,eC,fun z=>?_⟩
    obtain ⟨_,o,e,nf⟩:=J.funs.mem z
    rw [g1] at e
    cases e
    exact nf vs g3
  · refine ⟨cE jb nT,?_,jc J nT⟩
    cases z:untr H1 x b with
    | none=>rfl
    | some u =>
      obtain ⟨o,e⟩:=(J.hok b u z).isObj
      rw [nT] at e
      cases e
end
end L2
namespace L2
open PySem PySem.Spec PyProof.Rows
def XCt (a D:Addr) (dct:Option Addr):Heap→Prop:=fun h=>∃ o vs,h.get? a = some o∧o.cls = .ref D∧o.data = .fields vs∧o.dict = dct
theorem XCt.at {a D:Addr} {dct:Option Addr} {h:Heap} (x:XCt a D dct h):XAt a D h:=let ⟨o,_,e,c,_⟩:=x; ⟨o,e,c⟩
section
variable {X:Cx} {pins:List (Addr×Obj)} {σ:St} {H H':Hp} {s s':Shared} {x D C T T2:Addr} {dct:Option Addr} {fl:Value} {h2:Heap} {xs:List Addr}
theorem vC (I:Inv X pins σ H s) (G:XG X.prog X.w X.stack H s x D dct T H' s') (k:KeptBut xs (frs X.stack) s'.heap h2) (hxs:∀ b ∈ xs,s.heap.get? b = none∧H' b = none∧b ∉ frs X.stack) (fx:Fx h2 x (.ref D) dct fl T2) :
    Inv X pins σ (upd H' x (.ext (XCt x D dct))) { s' with heap:=h2 }:=by
  have hnx:∀ b u,H' b = some u→b≠x:=fun b u e z=>by rw [z,G.ux] at e; cases e
  have trk:∀ b u,H' b = some u→b ∉ frs X.stack:=fun b u e hb=>by
    obtain ⟨_,o,ho,_⟩:=I.stack.mem hb
    rw [G.un.free b o ho (I.stkFree b hb) (by simp)] at e
    cases e
  have u2:Un (frs X.stack) [] H H' s.heap h2:=nR G.un (fun b o h0 hf e=>k.1 b o (fun z=>by obtain ⟨o0,e0⟩:=h0; rw [(hxs b z).1] at e0; cases e0) hf e) (fun b o hf e=>k.2 b o (fun z=>(hxs b z).2.2 hf) e)
  have hk2:HOk X.prog X.w H' h2:=jm G.hok (fun b o u hu e=>k.1 b o (fun z=>by rw [(hxs b z).2.1] at hu; cases hu) (trk b u hu) e)
  obtain ⟨ob,fs,_,_,gx,gc,gd,gf,_⟩:=fx
  refine I.call' (ch:=[]) (s':={ s' with heap:=h2 }) G.os ⟨u2.keep,u2.slot,fun b o e n hx'=>?_,u2.there,fun b xs e=>?_,fun b o u e=>?_,fun b ps e=>?_⟩ (fun a o e=>?_) G.bare (by simp)
  · have:b≠x:=fun z=>by rw [z,G.nx] at e; cases e
    rw [ao this]
    exact u2.free b o e n hx'
  · have e':=u2.tups b xs e
    rw [ao (hnx b _ e')]
    exact e'
  · have e':=u2.frzs b o u e
    rw [ao (hnx b _ e')]
    exact e'
  · obtain ⟨more,e'⟩:=u2.tbls b ps e
    exact ⟨more,by rw [ao (hnx b _ e')]; exact e'⟩
  · by_cases ha:a = x
    · subst ha
      rw [ac] at e
      cases e
      exact ⟨⟨ob,fs,gx,gc,gf,gd⟩,⟨ob,gx⟩,fun h1 h3 ⟨o,vs,e1,r⟩ kk=>⟨o,vs,kk o e1,r⟩⟩
    · rw [ao ha] at e
      exact (hk2 a o e).stay (fun _ _ _ q=>q) (fun b q=>by rw [ao (hnx b _ q)]; exact q) fun b xs q=>by rw [ao (hnx b _ q)]; exact q
end
section
variable {X:Cx} {pins:List (Addr×Obj)} {σ:St} {H H':Hp} {s s':Shared} {x D C T:Addr} {dct:Option Addr} {cn en:Str} {ie:Nat} {b₀:Stmt} {suite:List Stmt} {cp hp:Pos} {ts:TS} {DE:Ends}
end
end L2
namespace L2
open PySem PySem.Spec PyProof.Rows
section
variable {X:Cx} {k ie:Nat} {f C:Addr} {fd:FuncData} {ps:List Str} {sp:Sp} {dvs:List V} {ds:List Value} {fx cn en:Str} {p pos p2 cp hp tp:Pos} {e:Expr} {es:List Expr} {t:TA} {b₀:Stmt} {suite:List Stmt} {ts:TS}
end
end L2
namespace FrM
theorem qk (x y:Int):Int.gcd y (x % y) = Int.gcd x y:=by
  have e:x = x % y + y * (x / y):=(Int.emod_add_mul_ediv x y).symm
  rw [Int.gcd_comm x y]
  conv=>rhs; rw [e]
  rw [Int.gcd_add_mul_left_right]
def Bt (n:Nat) (i:Int):Prop:=i.natAbs < 2 ^ n
theorem Bt.mono {m n:Nat} {i:Int} (h:Bt m i) (l:m≤n):Bt n i:=Nat.lt_of_lt_of_le h (Nat.pow_le_pow_right (by decide) l)
theorem Bt.le {n:Nat} {i j:Int} (h:Bt n i) (l:j.natAbs≤i.natAbs):Bt n j:=Nat.lt_of_le_of_lt l h
structure Low (T B t b:Int):Prop where
  pos:1≤b
  cop:Int.gcd t b = 1
  eq:t * B = T * b
theorem low (t b:Int) (hb:0 < b):0 < (Int.gcd t b:Int)∧(Int.gcd t b:Int)≤b∧Low t b (t / (Int.gcd t b:Int)) (b / (Int.gcd t b:Int))∧(t / (Int.gcd t b:Int)).natAbs≤t.natAbs∧(b / (Int.gcd t b:Int)).natAbs≤b.natAbs:=by
  have hg:0 < Int.gcd t b:=Int.gcd_pos_iff.mpr (.inr (by omega))
  have hgi:0 < (Int.gcd t b:Int):=by omega
  have d1:=Int.gcd_dvd_left t b
  have d2:=Int.gcd_dvd_right t b
  have e1:=Int.ediv_mul_cancel d1
  have e2:=Int.ediv_mul_cancel d2
  have hle:(Int.gcd t b:Int)≤b:=Int.le_of_dvd hb d2
  refine ⟨hgi,hle,⟨?_,Int.gcd_ediv_gcd_ediv_gcd hg,?_⟩,?_,?_⟩
  · have:=Int.ediv_pos_of_pos_of_dvd hb (by omega) d2
    omega
  · rw [← Int.mul_ediv_assoc _ d2,Int.mul_comm,← Int.mul_ediv_assoc _ d1,Int.mul_comm]
  · have:=congrArg Int.natAbs e1
    rw [Int.natAbs_mul] at this
    rw [← this]
    exact Nat.le_mul_of_pos_right _ (by simpa using hg)
  · have:=congrArg Int.natAbs e2
    rw [Int.natAbs_mul] at this
    rw [← this]
    exact Nat.le_mul_of_pos_right _ (by simpa using hg)
end FrM
namespace L2
open PySem PySem.Spec PyProof.Rows FrM
section
variable {X:Cx}
def CMulB (i j:Int):Prop:=(Bt 8000 i∧Bt 8000 j)∨CMul i j
theorem CMulB.ok {i j:Int} (h:CMulB i j):IntMulOk i j:=by
  rcases h with ⟨h1,h2⟩ | h
  · exact IntMulOk.of_le (m:=8000) (n:=8000) (intBits_le_iff.mpr h1) (intBits_le_iff.mpr h2) (by decide)
  · exact h.ok
def CDivB (i j:Int):Prop:=0 < j∧Bt 8000 j
theorem CDivB.no {i j:Int} (h:CDivB i j):Builtin.divisionGoesByPylong i j = false:=by
  refine PyProof.noPylong_of_log2 ?_
  have h2:j.natAbs < 2 ^ 8000:=h.2
  by_cases h0:j.natAbs = 0
  · rw [h0]; decide +kernel
  · have:j.natAbs.log2 < 8000:=(Nat.log2_lt h0).mpr h2
    omega
theorem op_mulB:OpR X (binaryOp .Mult) (rI CMulB fun i j=>.int (i * j)):=opI fun _ _ _ _ _ _ _ hc q=>mul_int q hc.ok
theorem op_fdivB:OpR X (binaryOp .FloorDiv) (rI CDivB fun i j=>.int (i / j)):=opI fun i j _ _ _ _ _ hc q=>by
  have h1:(0:Int) < j:=hc.1
  exact floordiv_int (by omega) (by rw [Int.fdiv_eq_ediv_of_nonneg i (by omega)]; exact q) (.inl hc.no)
theorem eL:OpR X (binaryOp .Mult) (rIC CMulB fun i j=>.int (i * j)):=op_mulB.ic
theorem bQ:OpR X (binaryOp .FloorDiv) (rIC CDivB fun i j=>.int (i / j)):=op_fdivB.ic
theorem clB {i j:Int} (h:-(2 ^ 64) < i:=by decide) (h2:i < 2 ^ 64:=by decide):CMulB i j:=.inr (cl h h2)
theorem crB {i j:Int} (h:-(2 ^ 64) < j:=by decide) (h2:j < 2 ^ 64:=by decide):CMulB i j:=.inr (cr h h2)
theorem cdB {i j:Int} {n:Nat} (h:0 < j) (h':Bt n j) (hn:n≤8000:=by decide):CDivB i j:=⟨h,h'.mono hn⟩
theorem wr:bootBuiltins "abs" = some (.builtin "abs"):=by decide +kernel
end
end L2
namespace L2
open PySem PySem.Spec PyProof.Rows
def vq:Expr→Bool
  | .Starred ..=>true
  | _=>false
theorem qc {e:Expr} {es:List Expr} {env:Env} (h:vq e = false):starEach (e :: es) env = (false,eval e env) :: starEach es env:=by
  cases e <;> first | rfl | cases h
theorem qU {X:Cx} {e:Expr} {es:List Expr} {te:TE} {t:TA} (ha:PE X e te) (hr:PA X es t) (h:vq e = false:=by rfl):PA X (e :: es) (nW te t):=aa ha hr (qc h)
@[irreducible] def PSq (X:Cx) (sts:List Stmt) (t:TS):Prop:=PSs X sts t
theorem xo {X:Cx} {st:Stmt} {sts:List Stmt} {t u:TS} (h1:PS X st t) (h2:PSq X sts u):PSs X (st :: sts) (vW t u):=by
  unfold PSq at h2
  exact am h1 h2
theorem FnOk.or {P:Program} {w:World} {K:PySem.W.Frag} {mg:Str→Option Value} {base:Heap} {CX:CXT} {k:Nat} {f:Addr} {fd:FuncData} {ps:List Str} {sp sp':Sp} (F:FnOk P w K mg base CX k f fd ps sp) (F':FnOk P w K mg base CX k f fd ps sp') :
    FnOk P w K mg base CX k f fd ps (fun vs H Q E=>sp vs H Q E∨sp' vs H Q E) :=
  ⟨fun vs H Q E h=>h.elim (F.len vs H Q E) (F'.len vs H Q E),fun A outer s H args us vs Q E hr he hb hv hs=>hs.elim (F.run A outer s H args us vs Q E hr he hb hv) (F'.run A outer s H args us vs Q E hr he hb hv)⟩
theorem j9 {X:Cx} {K:PySem.W.Frag} (h:X.K = K):CallR X (.builtin "isinstance") (xA K):=h ▸ rR
section
variable {X:Cx} {k ie ir:Nat} {f C:Addr} {fd:FuncData} {ps:List Str} {sp:Sp} {dvs:List V} {ds:List Value} {fx cn en rn:Str} {p pos p2 p3 cp hp tp:Pos} {e:Expr} {es:List Expr} {t:TA} {b₀:Stmt} {suite:List Stmt} {ts:TS}
end
end L2
namespace HT
open PySem PySem.Spec PyProof.Rows
section
variable {prog:Program} {w:World} {A:Around} {E:Value→Shared→Prop} {s:Shared}
end
end HT
namespace L2
open PySem PySem.Spec PyProof.Rows
section
variable {X:Cx}
@[irreducible] def PAq (X:Cx) (es:List Expr) (t:TA):Prop:=PA X es t
theorem bJ:PAq X [] xI:=by unfold PAq; exact ae
theorem rJ {e:Expr} {es:List Expr} {te:TE} {t:TA} (ha:PE X e te) (hr:PAq X es t) (h:vq e = false:=by rfl):PAq X (e :: es) (nW te t):=by
  unfold PAq at hr ⊢
  exact qU ha hr h
theorem vi {es:List Expr} {t:TA} {pos:Pos} (h:PAq X es t):PE X (.List es pos) (vX t):=by
  unfold PAq at h
  exact dN h
end
end L2
namespace L2
open PySem PySem.Spec PyProof.Rows
section
variable {X:Cx} {pos:Pos}
end
end L2
namespace L2
open PySem PySem.Spec PyProof.Rows
section
variable {X:Cx}
def yd (K:PySem.W.Frag):V→V→Hp→VK→Prop:=fun o i H Q=>∃ (p:Addr) (xs:List V) (k:Int) (v:V),o = .ref p∧i = .int k∧SqL K H p xs∧0≤k∧atI xs k = some v∧Q v H
theorem mP:xV X (yd X.K):=by
  intro pins s σ H o i ov iv Q I ro ri h
  obtain ⟨p,xs,k,z,rfl,rfl,hq,h0,he,q⟩:=h
  cases ro
  obtain ⟨t,rfl⟩:=ri
  obtain ⟨its,r,pl,hz⟩:=I.list hq
  obtain ⟨j,h1,h2,h3,h4,h5⟩:=iZ he
  obtain ⟨w,ew,rw'⟩:=r.get h2
  have hl:=r.length
  have hn:=eZ
  have hj:k.toNat = j:=by
    rw [seqIndex_of h0 h5] at h1
    exact Option.some.inj h1
  have fin:EP X pins σ Q w s:=⟨z,H,I,rw',q⟩
  exact wpAny_getItem_list pl.isList h0 (by omega) (by rw [hj]; simpa using ew) fin
end
end L2
namespace FrM
def nG (t b:Int):Int×Int:=(t / (Int.gcd t b:Int),b / (Int.gcd t b:Int))
def sz (z:List Int) (k:Nat):Int:=z.getD k 0
def dY (z:List Int) (l:List Nat):Int:=(l.map (sz z)).sum
def stay (z:List Int) (l:List Nat) (w:Int):List Nat:=l.filter fun k=>decide (sz z k * w < dY z l)
theorem tX (z:List Int) (l:List Nat) (w:Int):(stay z l w).length≤l.length:=List.length_filter_le _ _
def fin (z:List Int) (l:List Nat) (w:Int):List Nat×Int :=
  if (stay z l w).length = l.length then (l,w) else fin z (stay z l w) (w - ((l.length:Int) - ((stay z l w).length:Int)))
termination_by l.length
decreasing_by
  have:=tX z l w
  lia
structure Rnd (z:List Int) (n:Nat) (m:Int) (l:List Nat) (w:Int):Prop where
  pos:0 < l.length
  sub:∀ k ∈ l,k < n
  lt:w < l.length
  dif:w - l.length = m - n
  fil:l = (List.range n).filter fun k=>decide (k ∈ l)
theorem Rnd.len {z:List Int} {n:Nat} {m:Int} {l:List Nat} {w:Int} (h:Rnd z n m l w):l.length≤n:=by
  have e:=congrArg List.length h.fil
  have:=List.length_filter_le (fun k=>decide (k ∈ l)) (List.range n)
  rw [List.length_range] at this
  lia
theorem Rnd.start {z:List Int} {n:Nat} {m:Int} (h0:0 < n) (hm:m < n):Rnd z n m (List.range n) m:=by
  refine ⟨by rw [List.length_range]; exact h0,fun k hk=>List.mem_range.mp hk,by rw [List.length_range]; exact hm,by rw [List.length_range],?_⟩
  rw [List.filter_eq_self.mpr]
  intro k hk
  exact decide_eq_true hk
structure Top (m:Int) (n:Nat) (S:Int) (N:Nat→Int):Prop where
  pos:0 < S
  all:((List.range n).map N).sum = m * S
def due (z:List Int) (m:Int):List (Int×Int) :=
  if (z.length:Int)≤m then z.map fun _=>(1,1) else if m = 0 then z.map fun _=>(0,1)
  else (List.range z.length).map fun k=>if decide (k ∈ (fin z (List.range z.length) m).1) = true then nG (sz z k * (fin z (List.range z.length) m).2) (dY z (fin z (List.range z.length) m).1) else (1,1)
end FrM
namespace L2
open PySem PySem.Spec PyProof.Rows
def TyS (K:PySem.W.Frag) (H:Hp) (x:V) (t:Value):Prop:=TyOf K H x t∨∃ a xs,x = .ref a∧t = .type "tuple" ∧ SqT K H a xs
section
variable {X:Cx}
open PySem.W in
theorem yR {pins:List (Addr×Obj)} {σ:St} {H:Hp} {s:Shared} {x:V} {u t:Value} (I:Inv X pins σ H s) (rx:RelV x u) (ty:TyS X.K H x t) :
    ∃ Hh:Heap→Prop,KitX X.K u t Hh∧Hh s.heap∧u≠.builtin "__main__.__loader__#opaque" := by
  rcases ty with ty | ⟨a,xs,rfl,rfl,hq⟩
  · exact nN I rx ty
  · cases (show u = Value.ref a from rx)
    obtain ⟨its,rv,p,hz⟩:=I.tuple hq
    exact ⟨_,PySem.W.kitx_tuple,let ⟨o,e,c,_⟩:=p; ⟨o,e,c⟩,fun z=>nomatch z⟩
theorem gw:bootBuiltins "sum" = some (.builtin "sum"):=by decide +kernel
theorem gY:∀ {ns:List Int} {us:List Value},Vals (ns.map V.int) us→IntsAre us ns
  | [],_,.nil=>.nil
  | n :: ns,_,.cons r t=>by
    obtain ⟨t',rfl⟩:=r
    exact .cons _ _ (gY t)
inductive rSumI (K:PySem.W.Frag) (xs:List V) (H:Hp) (Q:VK):Prop
  | mk (p:Addr) (ns:List Int) (h0:xs = [.ref p]) (h1:SqL K H p (ns.map V.int)) (h2:Q (.int ns.sum) H):rSumI K xs H Q
theorem dj (hc:X.calm = true):CallR X (.builtin "sum") (rSumI X.K):=by
  intro pins s σ H xs us Q I r h
  obtain ⟨p,ns,rfl,hq,q⟩:=h
  obtain ⟨u,rfl,rx⟩:=er r
  cases rx
  obtain ⟨its,rv,pl,hz⟩:=I.list hq
  have hi:=gY rv
  obtain ⟨xs,ex⟩:=hi.allInts.items
  have e2:(numsOf its) = ns:=hi.numsOf
  refine sum_intListG (I.ok.hd hc) (xs:=xs) (by rw [← ex]; exact pl.isList) fun h' tk t' hk=>?_
  have e3:preSum (numAt xs) xs.size = ns.sum:=by
    rw [preSum_eq,List.take_of_length_le (by simp),← e2,← nums_intItems,← ex]
  rw [e3]
  exact ⟨.int ns.sum,H,I.kept hk,⟨_,rfl⟩,q⟩
theorem gK (hc:X.calm = true):CallR X (.type "list") (fun xs H Q=>∃ (p:Addr) (n:Nat),xs = [.ref p]∧n≤1000∧H p = some (.rng 0 (n:Int))∧∀ l,H l = none→Q (.ref l) (upd H l (.lst ((List.range n).map fun (i:Nat)=>V.int (i:Int))))):=by
  intro pins s σ H xs us Q I r h
  obtain ⟨p,n,rfl,hn,e,q⟩:=h
  obtain ⟨u,rfl,ru⟩:=er r
  cases ru
  obtain ⟨t,t2,t3,ho⟩:=(show ObjOk X.prog X.w H s.heap p (.rng 0 (n:Int)) from I.hok p _ e)
  refine call_list_range (n:=n) (I.ok.hd hc) ho (small_one (by decide) (by decide) (by omega) (by omega)) (by rw [rangeSize_one]; split <;> omega) (by omega) fun h' tk acc c hk hS hI=>?_
  refine ⟨.ref s.heap.objs.size,_,I.laid (t':=tk) (o:=.lst ((List.range n).map fun (i:Nat)=>V.int (i:Int))) hk (Nat.le_refl _) ?_,rfl,q _ (I.hok.fresh (Nat.le_refl _))⟩
  obtain ⟨z1,z2⟩:=hI
  refine ⟨by rw [List.length_map,List.length_range,sizeLine_eq]; omega,acc.toList,c,ou (by rw [List.length_map,List.length_range]; simpa using z1.symm) fun i x u hx hu=>?_,hS⟩
  rw [List.getElem?_map] at hx
  have hi:i < n:=by
    by_cases hi:i < n
    · exact hi
    · rw [List.getElem?_eq_none (by rw [List.length_range]; omega)] at hx
      cases hx
  rw [List.getElem?_range hi] at hx
  cases hx
  obtain ⟨tt,hv⟩:=z2 i u (by simpa using hu)
  refine (show ∃ t',u = Value.int (i:Int) t' from ⟨tt,?_⟩)
  rw [hv]
  congr 1
  omega
end
end L2
namespace L2
open PySem PySem.Spec PyProof.Rows
section
variable {X:Cx}
@[irreducible] def PEq (X:Cx) (e:Expr) (t:TE):Prop:=PE X e t
@[irreducible] def PSt (X:Cx) (st:Stmt) (t:TS):Prop:=PS X st t
theorem aT {e:Expr} {t:TE} (h:PE X e t):PEq X e t:=by unfold PEq; exact h
theorem fX {e:Expr} {t:TE} (h:PEq X e t):PE X e t:=by unfold PEq at h; exact h
theorem gu {st:Stmt} {t:TS} (h:PS X st t):PSt X st t:=by unfold PSt; exact h
theorem oG {st:Stmt} {t:TS} (h:PSt X st t):PS X st t:=by unfold PSt at h; exact h
theorem bH {es:List Expr} {t:TA} {pos:Pos} (h:PAq X es t):PEq X (.List es pos) (vX t):=aT (vi h)
theorem ax {e:Expr} {es:List Expr} {te:TE} {t:TA} (ha:PEq X e te) (hr:PAq X es t) (h:vq e = false:=by rfl):PAq X (e :: es) (nW te t):=rJ (fX ha) hr h
theorem bD {st:Stmt} {t:TS} (h:PSt X st t):PSq X [st] t:=by unfold PSq; exact ap (oG h)
theorem aL {st:Stmt} {sts:List Stmt} {t u:TS} (h:PSt X st t) (h2:PSq X sts u):PSq X (st :: sts) (vW t u):=by
  unfold PSq at h2 ⊢
  exact am (oG h) h2
theorem ly {sts:List Stmt} {t:TS} (h:PSq X sts t):PSs X sts t:=by unfold PSq at h; exact h
theorem bS {i:Nat} {x:Str} {e:Expr} {te:TE} {pos pos':Pos} (hN:X.N.Nodup) (hi:X.N[i]? = some x) (hx:Loc X.env.scope x) (he:PEq X e te) (hs:swapsWith e (some (.Name x pos')) pos.line X.env = pure false:=by rfl) (hf:X.fn x = true∨X.env.scope.names.lookup x = some .local:=by first | exact .inl rfl | exact .inr rfl | assumption) :
    PSt X (.Assign [.Name x pos'] e pos) (uY te (nY i)):=gu (bg hN hi hx (fX he) hs hf)
end
end L2
namespace L2
open PySem PySem.Spec PyProof.Rows
structure LamD where
  qual:Str
  params:Arguments
  body:Expr
  scope:Scope
def fq (f:Addr) (d:LamD) (clos:List (Str×Addr)) (c:Addr):Heap→Prop:=fun h=>∃ pm ctv,h.get? f = some (PySem.W.kla_obj "<lambda>" d.qual d.params d.body d.scope clos pm c ctv)
def bW (c:Addr) (v:V):Heap→Prop:=fun h=>∃ o u,h.get? c = some o∧o.data = .cell (some u)∧RelV v u
def dP (c:Addr) (q:Str):Heap→Prop:=fun h=>∃ o vs t,h.get? c = some o∧o.data = .fields vs∧vs[1]? = some (.str q t)
section
variable {P:Program} {w:World} {H:Hp} {h:Heap}
theorem ol {f:Addr} {d:LamD} {clos:List (Str×Addr)} {c:Addr} {pm ctv:Value} (e:h.get? f = some (PySem.W.kla_obj "<lambda>" d.qual d.params d.body d.scope clos pm c ctv)):ObjOk P w H h f (.ext (fq f d clos c)) :=
  ⟨⟨pm,ctv,e⟩,⟨_,e⟩,fun h1 h2 ⟨pm,ctv,e1⟩ k=>⟨pm,ctv,k _ e1⟩⟩
theorem jQ {c:Addr} {v:V} (x:bW c v h):ObjOk P w H h c (.ext (bW c v)) :=
  ⟨x,let ⟨o,_,e,_⟩:=x; ⟨o,e⟩,fun h1 h2 ⟨o,u,e1,r⟩ k=>⟨o,u,k _ e1,r⟩⟩
theorem qZ {c:Addr} {q:Str} (x:dP c q h):ObjOk P w H h c (.ext (dP c q)) :=
  ⟨x,let ⟨o,_,_,e,_⟩:=x; ⟨o,e⟩,fun h1 h2 ⟨o,vs,t,e1,r⟩ k=>⟨o,vs,t,k _ e1,r⟩⟩
end
def yy:HO→Bool
  | .tbl _=>false
  | _=>true
def SameT (H H':Hp):Prop:=∀ b o,H b = some o→(yy o = true→H' b = some o)∧∃ o',H' b = some o'
theorem SameT.refl {H:Hp}:SameT H H:=fun b o e=>⟨fun _=>e,o,e⟩
theorem SameT.trans {H H1 H2:Hp} (a:SameT H H1) (b:SameT H1 H2):SameT H H2:=fun c o e=>by
  obtain ⟨f,o',e'⟩:=a c o e
  obtain ⟨g,o2,e2⟩:=b c o' e'
  exact ⟨fun n=>(b c o (f n)).1 n,o2,e2⟩
theorem Same.t {H H':Hp} (s:Same H H'):SameT H H':=fun b o e=>⟨fun _=>s b o e,o,s b o e⟩
theorem SameT.at {H H':Hp} (s:SameT H H') {a:Addr} {o:HO} (e:H a = some o) (n:yy o = true:=by rfl):H' a = some o:=(s a o e).1 n
theorem SameT.free {H H':Hp} (s:SameT H H') {a:Addr} (e:H' a = none):H a = none:=by
  cases q:H a with
  | none=>rfl
  | some o=>obtain ⟨_,o',e'⟩:=s a o q; rw [e] at e'; cases e'
theorem SameT.put {H H':Hp} (s:SameT H H') {a:Addr} {o:HO} (e:H a = none):SameT H (upd H' a o):=fun b u q=>by
  have n:b≠a:=fun z=>by rw [z,e] at q; cases q
  rw [ao n]
  exact s b u q
def xw (H:Hp) (P:Addr) (ls:List (Pos×Str)):Prop:=∃ ps,H P = some (.tbl ps)∧TriplesOk ps.toList∧∀ l ∈ ls,codeAmong l.1 ps.toList = none∨∃ c,codeAmong l.1 ps.toList = some (.ref c)∧H c = some (.ext (dP c l.2))
abbrev lR:=List (Addr×List (Pos×Str))
def TabsOk (tabs:lR) (H:Hp):Prop:=∀ q ∈ tabs,xw H q.1 q.2
theorem TabsOk.same {tabs:lR} {H H':Hp} (t:TabsOk tabs H) (s:Same H H'):TabsOk tabs H':=fun q hq=>by
  obtain ⟨ps,e1,e2,e3⟩:=t q hq
  exact ⟨ps,s _ _ e1,e2,fun l hl=>(e3 l hl).imp id fun ⟨c,a,b⟩=>⟨c,a,s _ _ b⟩⟩
theorem TabsOk.put {tabs:lR} {H:Hp} {r:Addr} {o:HO} (t:TabsOk tabs H) (h1:∀ ps,H r≠some (.tbl ps)) (h2:∀ φ,H r≠some (.ext φ)):TabsOk tabs (upd H r o):=fun q hq=>by
  obtain ⟨ps,e1,e2,e3⟩:=t q hq
  refine ⟨ps,?_,e2,fun l hl=>(e3 l hl).imp id fun ⟨c,a,b⟩=>⟨c,a,?_⟩⟩
  · rw [ao fun z=>h1 ps (by rw [← z]; exact e1)]; exact e1
  · rw [ao fun z=>h2 _ (by rw [← z]; exact b)]; exact b
theorem lW {p p':Pos} {c:Value} (l:List Value) (h:TriplesOk l) (hn:¬ (p.line = p'.line∧p.col = p'.col)):codeAmong p' (l ++ [rawInt p.line,rawInt p.col,c]) = codeAmong p' l:=by
  fun_induction TriplesOk l with
  | case1 =>
    simp only [List.nil_append,codeAmong,rawInt]
    rw [if_neg]
    intro z
    rw [Bool.and_eq_true,beq_iff_eq,beq_iff_eq] at z
    exact hn ⟨by omega,by omega⟩
  | case2 a t b u x rest ih =>
    simp only [List.cons_append,codeAmong]
    rw [ih h]
  | case3=>exact h.elim
theorem kX {p:Pos} {c:Value} (l:List Value) (h:TriplesOk l):TriplesOk (l ++ [rawInt p.line,rawInt p.col,c]):=by
  fun_induction TriplesOk l with
  | case1=>simp [TriplesOk,rawInt]
  | case2 a t b u x rest ih=>exact ih h
  | case3=>exact h.elim
def Bm (mg:Str→Option Value) (base:Heap):Prop:=∃ bm ob,mg "__builtins__" = some (.ref bm)∧base.get? bm = some ob∧ob.cls = .type "module" ∧ ob.dict = some builtinsNs∧ob.data = .plain
def xy (tabs:lR) (d:LamD) (clos:List (Str×Addr)):TE:=fun σ H Q=>TabsOk tabs H∧∀ f c H1,SameT H H1→TabsOk tabs H1→H f = none→H1 f = some (.ext (fq f d clos c))→H1 c = some (.ext (dP c d.qual))→Q (.ref f) H1
end L2
namespace L2
open PySem PySem.Spec PyProof.Rows
theorem je {α β:Type}:∀ {l:List (α×β)},(l.map (·.1)).Nodup→∀ x ∈ l,∀ y ∈ l,x.1 = y.1→x = y
  | [],_,x,hx,_,_,_=>by cases hx
  | a :: r,nd,x,hx,y,hy,e=>by
    rw [List.map_cons,List.nodup_cons] at nd
    rcases List.mem_cons.mp hx with rfl | hx' <;> rcases List.mem_cons.mp hy with rfl | hy'
    · rfl
    · exact absurd (List.mem_map.mpr ⟨y,hy',e.symm⟩) nd.1
    · exact absurd (List.mem_map.mpr ⟨x,hx',e⟩) nd.1
    · exact je nd.2 x hx' y hy' e
theorem oa:∀ {l:List (Pos×Str)},(l.Pairwise fun x y=>¬ (x.1.line = y.1.line∧x.1.col = y.1.col))→∀ x ∈ l,∀ y ∈ l,(x.1.line = y.1.line∧x.1.col = y.1.col)→x = y
  | [],_,x,hx,_,_,_=>by cases hx
  | a :: r,nd,x,hx,y,hy,e=>by
    rw [List.pairwise_cons] at nd
    rcases List.mem_cons.mp hx with rfl | hx' <;> rcases List.mem_cons.mp hy with rfl | hy'
    · rfl
    · exact absurd e (nd.1 y hy')
    · exact absurd ⟨e.1.symm,e.2.symm⟩ (nd.1 x hx')
    · exact oa nd.2 x hx' y hy' e
section
variable {X:Cx} {tabs:lR} {P c:Addr} {ls:List (Pos×Str)} {d:LamD} {clos:List (Str×Addr)} {pos:Pos}
theorem sJ (hcd:X.env.code = .ref c) (hC:PySem.W.codeHdIn X.K c P = true) (hB:Bm X.mg X.base) (hq:X.env.qual ++ "<lambda>" = d.qual) (hcl:closureFor d.scope X.env = pure clos) (hdef:defaultsOf d.params X.env = ([],[]))
    (hm:(P,ls) ∈ tabs) (hl:(pos,d.qual) ∈ ls) (hnd:(tabs.map (·.1)).Nodup) (hps:ls.Pairwise fun x y=>¬ (x.1.line = y.1.line∧x.1.col = y.1.col)):PE X (.Lambda d.params d.body d.scope pos) (xy tabs d clos):=by
  intro pins s σ H Q I h
  obtain ⟨hT,hQ⟩:=h
  refine PySem.W.kla_eval hdef ?_
  rw [hq]
  obtain ⟨ps,hP,htr,hls⟩:=hT _ hm
  have hgs:s.heap.Ns mainGlobals X.mg:=I.mod.glob.keeps I.bk
  have C:PySem.W.CodeHd s.heap c P:=PySem.W.codeHd_of_K I.kIn hC
  have hPo:s.heap.get? P = some (PySem.W.tabObj ps):=I.hok P _ hP
  have hgP:mainGlobals≠P:=fun q=>by
    obtain ⟨o,es,ep,e,hd,_⟩:=hgs
    rw [q,hPo] at e; cases e; cases hd
  obtain ⟨bm,ob,b1,b2,b3,b4,b5⟩:=hB
  have bo:=I.bk _ _ b2
  have hbP:bm≠P:=fun q=>by
    rw [q,hPo] at bo; cases bo; cases b3
  have hbG:bm≠mainGlobals:=fun q=>by
    obtain ⟨o,es,ep,e,hd,_⟩:=hgs
    rw [q,e] at bo; cases bo; rw [hd] at b5; cases b5
  have hbB:bm≠builtinsNs:=fun q=>by
    obtain ⟨mb,⟨o,es,ep,e,hd,_⟩,_⟩:=I.mod.blt
    rw [q,e] at b2; cases b2; rw [hd] at b5; cases b5
  have BA:s.heap.BuiltinsAt X.mg P:=⟨bm,ob,b1,hbB,hbG,hbP,bo,b3,b4,b5⟩
  rcases hls _ hl with hn | ⟨c',hc,hHc⟩
  · refine PySem.W.kla_makeFunction (mg:=X.mg) hcl I.ok.glob hgs hcd C hPo htr hn hgP BA fun c' ctv h' tk hx hge hlt hrec htb=>?_
    have hc0:H c' = none:=I.hok.fresh hge
    have hf0:H h'.objs.size = none:=I.hok.fresh (Nat.le_trans hge (Nat.le_of_lt hlt))
    have ncf:c'≠h'.objs.size:=Nat.ne_of_lt hlt
    have nPc:P≠c':=ay hP hc0
    have nPf:P≠h'.objs.size:=ay hP hf0
    obtain ⟨f,hf⟩:∃ f,f = h'.objs.size:=⟨_,rfl⟩
    obtain ⟨ob',hob⟩:∃ o,o = PySem.W.kla_obj "<lambda>" d.qual d.params d.body d.scope clos ((X.mg "__name__").getD .none) c' ctv:=⟨_,rfl⟩
    have hfo:(h'.push ob').get? f = some ob':=by rw [hf,hob]; exact Heap.get?_push_size _ rfl
    have keep:∀ b o,b≠P→s.heap.get? b = some o→(h'.push ob').get? b = some o:=fun b o n e=>Heap.get?_push_of_some _ (hx b o n e)
    have htb':(h'.push ob').get? P = some (PySem.W.tabObj (ps ++ #[rawInt pos.line,rawInt pos.col,.ref c'])):=Heap.get?_push_of_some _ htb
    have hcx:dP c' d.qual (h'.push ob'):=by
      obtain ⟨c2,oc,vs,t,e2,hoc,hdt,hv⟩:=hrec
      cases e2
      exact ⟨oc,vs,t,Heap.get?_push_of_some _ hoc,hdt,hv⟩
    rw [← hf] at hf0 ncf nPf ⊢
    rw [← hob]
    obtain ⟨H1,hH1⟩:∃ H1,H1 = upd (upd (upd H P (.tbl (ps ++ #[rawInt pos.line,rawInt pos.col,.ref c']))) c' (.ext (dP c' d.qual))) f (.ext (fq f d clos c')):=⟨_,rfl⟩
    have gf:H1 f = some (.ext (fq f d clos c')):=by rw [hH1]; exact ac
    have gc:H1 c' = some (.ext (dP c' d.qual)):=by rw [hH1,ao ncf]; exact ac
    have gP:H1 P = some (.tbl (ps ++ #[rawInt pos.line,rawInt pos.col,.ref c'])):=by rw [hH1,ao nPf,ao nPc]; exact ac
    have go:∀ b,b≠P→b≠c'→b≠f→H1 b = H b:=fun b h1 h2 h3=>by rw [hH1,ao h3,ao h2,ao h1]
    have same:∀ b o,b≠P→H b = some o→H1 b = some o:=fun b o n e=>by rw [go b n (ay e hc0) (ay e hf0)]; exact e
    have nt:∀ b o,H b = some o→(∀ qs,o≠.tbl qs)→b≠P:=fun b o e n z=>by rw [z,hP] at e; cases e; exact n ps rfl
    have un:Un X.fs [] H H1 s.heap (h'.push ob'):=by
      refine ⟨fun b o e n _ _=>keep b o (fun z=>by rw [z,hP] at n; cases n) e,fun b o e n _ _=>⟨o.slots,keep b o (fun z=>by rw [z,hP] at n; cases n) e⟩,fun b o e n _=>?_,fun b o e _=>?_,fun b xs e=>same b _ (nt b _ e fun _ z=>nomatch z) e,fun b o u e=>same b _ (nt b _ e fun _ z=>nomatch z) e,fun b qs e=>?_⟩
      · have hb:b < s.heap.objs.size:=Heap.lt_size e
        rw [go b (fun z=>by rw [z,hP] at n; cases n) (Nat.ne_of_lt (Nat.lt_of_lt_of_le hb hge)) (by rw [hf]; exact Nat.ne_of_lt (Nat.lt_of_lt_of_le hb (Nat.le_trans hge (Nat.le_of_lt hlt))))]
        exact n
      · by_cases hb:b = P
        · rw [hb]; exact ⟨_,htb'⟩
        · exact ⟨o,keep b o hb e⟩
      · by_cases hb:b = P
        · rw [hb,hP] at e
          cases e
          rw [hb]
          exact ⟨_,gP⟩
        · exact ⟨#[],by rw [same b _ hb e]; simp⟩
    have hok:HOk X.prog X.w H1 (h'.push ob'):=fun a o e=>by
      by_cases h1:a = f
      · subst h1; rw [gf] at e; cases e; exact ol (by rw [hfo,hob])
      by_cases h2:a = c'
      · subst h2; rw [gc] at e; cases e; exact qZ hcx
      by_cases h3:a = P
      · subst h3; rw [gP] at e; cases e; exact htb'
      rw [go a h3 h2 h1] at e
      refine (I.hok a o e).stay (fun b u hb q=>keep b u ?_ q) (fun b q=>same b _ (nt b _ q fun _ z=>nomatch z) q) fun b xs q=>same b _ (nt b _ q fun _ z=>nomatch z) q
      rcases hb with rfl | hb
      · exact h3
      · exact nt b _ hb fun _ z=>nomatch z
    refine ⟨.ref f,H1,I.un (h':=h'.push ob') (t':=tk) un hok,rfl,hQ f c' H1 (fun b o e=>?_) (fun q hq'=>?_) hf0 gf gc⟩
    · by_cases hb:b = P
      · subst hb
        rw [hP] at e
        cases e
        exact ⟨fun z=>(Bool.false_ne_true z).elim,_,gP⟩
      · exact ⟨fun _=>same b o hb e,o,same b o hb e⟩
    · by_cases hqP:q.1 = P
      · have hqe:q = (P,ls):=je hnd q hq' (P,ls) hm hqP
        subst hqe
        refine ⟨_,gP,by rw [Array.toList_append]; exact kX _ htr,fun l' hl'=>?_⟩
        rw [Array.toList_append]
        by_cases hp:pos.line = l'.1.line∧pos.col = l'.1.col
        · have:=oa hps (pos,d.qual) hl l' hl' hp
          subst this
          exact .inr ⟨c',codeAmong_snoc _ htr hn,gc⟩
        · have eo:=lW (c:=.ref c') ps.toList htr hp
          rcases hls l' hl' with z | ⟨c2,z1,z2⟩
          · exact .inl (eo.trans z)
          · exact .inr ⟨c2,eo.trans z1,same c2 _ (nt c2 _ z2 fun _ z=>nomatch z) z2⟩
      · obtain ⟨qs,e1,e2,e3⟩:=hT q hq'
        exact ⟨qs,same _ _ hqP e1,e2,fun l' hl'=>(e3 l' hl').imp id fun ⟨c2,z1,z2⟩=>⟨c2,z1,same c2 _ (nt c2 _ z2 fun _ z=>nomatch z) z2⟩⟩
  · refine PySem.W.kla_makeFunctionHit (mg:=X.mg) hcl I.ok.glob hgs hcd C hPo htr hc BA fun ctv h' tk hk hsz=>?_
    have hf0:H h'.objs.size = none:=I.hok.fresh hsz
    have sm:Same H (upd H h'.objs.size (.ext (fq h'.objs.size d clos c'))):=Same.new hf0
    refine ⟨.ref h'.objs.size,_,I.laid (a:=h'.objs.size) (o:=.ext (fq h'.objs.size d clos c')) (t':=tk) (fun b u e=>Heap.get?_push_of_some _ (hk b u e)) hsz (ol (Heap.get?_push_size _ rfl)),rfl,hQ _ c' _ sm.t (hT.same sm) hf0 ac (sm _ _ hHc)⟩
end
end L2
namespace L2
open PySem PySem.Spec PyProof.Rows
def d6 (H:Hp) (cs:List Addr):Hp:=fun b=>if b ∈ cs then none else H b
theorem gL {H:Hp} {cs:List Addr} {b:Addr} (h:b ∈ cs):d6 H cs b = none:=by unfold d6; rw [if_pos h]
theorem iz {H:Hp} {cs:List Addr} {b:Addr} (h:b ∉ cs):d6 H cs b = H b:=by unfold d6; rw [if_neg h]
theorem da {H:Hp} {cs:List Addr} {b:Addr} (h:H b = none):d6 H cs b = none:=by unfold d6; split <;> first | rfl | exact h
abbrev CellsAt (H:Hp):List (Str×Addr)→List V→Prop:=Paired fun (p:Str×Addr) (v:V)=>H p.2 = some (.ext (bW p.2 v))
theorem CellsAt.mem {H:Hp}:∀ {clos:List (Str×Addr)} {vals:List V},CellsAt H clos vals→∀ p ∈ clos,∃ v,H p.2 = some (.ext (bW p.2 v))
  | _,_,.nil,p,h=>by cases h
  | _,_,.cons r t,p,h=>by
    rcases List.mem_cons.mp h with rfl | h
    · exact ⟨_,r⟩
    · exact CellsAt.mem t p h
theorem CellsAt.get {H:Hp}:∀ {clos:List (Str×Addr)} {vals:List V} {i:Nat} {v:V},CellsAt H clos vals→vals[i]? = some v→∃ p,clos[i]? = some p∧H p.2 = some (.ext (bW p.2 v))
  | _,_,_,_,.nil,h=>by cases h
  | _,_,0,_,.cons r t,h=>by cases h; exact ⟨_,rfl,r⟩
  | _,_,i + 1,_,.cons r t,h=>CellsAt.get (i:=i) t h
theorem CellsAt.at {H:Hp} {clos:List (Str×Addr)} {vals:List V} (ca:CellsAt H clos vals) {b:Addr} (hb:b ∈ clos.map (·.2)):∃ v,H b = some (.ext (bW b v)):=by
  obtain ⟨p,hp,rfl⟩:=List.mem_map.mp hb
  exact ca.mem p hp
theorem cJ {H:Hp} {clos:List (Str×Addr)} {vals:List V} {b:Addr} {o:HO} (ca:CellsAt H clos vals) (h:H b = some o) (n:∀ v,o≠.ext (bW b v)):d6 H (clos.map (·.2)) b = some o:=by
  rw [iz fun z=>?_]
  · exact h
  · obtain ⟨v,e⟩:=ca.at z
    rw [h] at e
    exact n v (Option.some.inj e)
theorem bM {α:Type}:∀ {l:List (Str×α)} {x:Str} {u:α},(l.map (·.1)).Nodup→(x,u) ∈ l→l.lookup x = some u
  | [],_,_,_,h=>by cases h
  | (y,w) :: r,x,u,nd,h=>by
    rw [List.map_cons,List.nodup_cons] at nd
    rcases List.mem_cons.mp h with e | h
    · cases e; simp [List.lookup]
    · have:x≠y:=fun z=>nd.1 (List.mem_map.mpr ⟨(x,u),h,z⟩)
      rw [List.lookup_cons,beq_eq_false_iff_ne.mpr this]
      exact bM nd.2 h
theorem j6 {α:Type} {l:List α} (h:l.Nodup):l.reverse.Nodup:=by
  unfold List.Nodup at h ⊢
  rw [List.pairwise_reverse]
  exact h.imp fun n z=>n z.symm
def dX (d:LamD) (L f c:Addr) (clos:List (Str×Addr)):Env:={ scope:=d.scope,locals:=L,globals:=mainGlobals,cells:=clos,qual:=d.qual ++ ".<locals>.",func:=some f,code:=.ref c,frame:=some L,builtins:=builtinsNs }
def cxL (P:Program) (w:World) (K:PySem.W.Frag) (mg:Str→Option Value) (base:Heap) (N:List Str) (d:LamD) (clos:List (Str×Addr)) (f c:Addr) (A:Around) (outer:List Env) (s:Shared) (H:Hp):Cx where
  prog:=P
  w:=w
  K:=K
  mg:=mg
  base:=base
  A:=A.deeper (dX d s.heap.objs.size f c clos)
  N:=N
  s₀:=s
  H₀:=d6 H (clos.map (·.2))
  env:=dX d s.heap.objs.size f c clos
  outer:=outer
  stack:=dX d s.heap.objs.size f c clos :: outer
  ex:=[]
  calm:=true
  fn:=fun _=>false
  pn:=[]
  xe:=fun _ _=>False
def mK (P:Program) (w:World) (K:PySem.W.Frag) (mg:Str→Option Value) (base:Heap) (k:Nat) (d:LamD) (fv ps:List Str) (sp:List V→Sp):Prop :=
  ∀ (A:Around) (outer:List Env) (s:Shared) (H:Hp) (f c:Addr) (clos:List (Str×Addr)) (us:List Value) (vs vals:List V) (Q:VK) (E:XK),Room k A→Env0 P w K mg base A outer s H→H f = some (.ext (fq f d clos c))→H c = some (.ext (dP c d.qual)) →
    clos.map (·.1) = fv→(clos.map (·.2)).Nodup→CellsAt H clos vals→Vals vs us→sp vals vs H Q E→codeAny (model P w) A (.call (.ref f) ⟨us,[]⟩) (CR CX0 outer P w H s Q E) s
structure LamScope (d:LamD) (fv ps:List Str):Prop where
  kind:d.scope.kind = .function
  co:d.scope.isCoroutine = false
  gen:d.scope.isGenerator = false
  nocell:∀ x ∈ d.scope.names,x.2≠.cell
  par:∀ x ∈ ps,d.scope.names.lookup x = some .local
  free:∀ x ∈ d.scope.names,x.2 = .free→x.1 ∈ fv
  fr:∀ x ∈ fv,d.scope.names.lookup x = some .free
  nd:(ps ++ fv).Nodup
theorem bb {α β:Type} [BEq α] [LawfulBEq α]:∀ {l:List (α×β)} {x:α} {u:β},l.lookup x = some u→(x,u) ∈ l
  | [],_,_,h=>by cases h
  | (y,w) :: r,x,u,h=>by
    rw [List.lookup_cons] at h
    cases e:x == y with
    | true=>rw [e] at h; cases h; rw [eq_of_beq e]; exact List.mem_cons_self ..
    | false=>rw [e] at h; exact List.mem_cons_of_mem _ (bb h)
theorem nH {P:Program} {w:World} {K:PySem.W.Frag} {mg:Str→Option Value} {base:Heap} {d:LamD} {fv ps:List Str} {clos:List (Str×Addr)} {f c:Addr} {A:Around} {outer:List Env} {s:Shared} {H:Hp} {us:List Value} {vs vals:List V} {h1:Heap} {tk:Nat}
    (S:LamScope d fv ps) (hd:A.handled = none) (e0:Env0 P w K mg base A outer s H) (hl:vs.length = ps.length) (r:Vals vs us) (hfv:clos.map (·.1) = fv) (hnd:(clos.map (·.2)).Nodup) (ca:CellsAt H clos vals)
    (hns:h1.Ns s.heap.objs.size (fun x=>(ps.zip us).reverse.lookup x)) (hk:∀ b o,s.heap.get? b = some o→h1.get? b = some o) :
    Inv (cxL P w K mg base (ps ++ fv) d clos f c A outer s H) [] ((vs ++ vals).map some) (d6 H (clos.map (·.2))) { s with heap:=h1,toks:=tk }:=by
  have ndf:(clos.map (·.1)).Nodup:=by rw [hfv]; exact (List.nodup_append.mp S.nd).2.1
  have ndp:ps.Nodup:=(List.nodup_append.mp S.nd).1
  have lus:us.length = ps.length:=by rw [← r.length]; exact hl
  have hin:∀ x c',clos.lookup x = some c'→c' ∈ clos.map (·.2):=fun x c' e=>List.mem_map.mpr ⟨(x,c'),bb e,rfl⟩
  have cellOf:∀ b v,H b = some (.ext (bW b v))→∃ u,RelV v u∧h1.IsCell b (some u):=fun b v e=>by
    obtain ⟨⟨o,u,g1,g2,g3⟩,_⟩:=e0.hok b _ e
    exact ⟨u,g3,o,hk _ _ g1,g2⟩
  have noA:∀ b:Addr,b ∉ (cxL P w K mg base (ps ++ fv) d clos f c A outer s H).ex:=fun b z=>absurd (show b ∈ ([]:List Addr) from z) (by simp)
  have lcl:clos.length = fv.length:=by rw [← hfv,List.length_map]
  have lva:vals.length = clos.length:=(Paired.length ca).symm
  refine ⟨⟨e0.mod,S.kind,rfl,rfl,Nat.le_refl _,fun y z c' h1 h2=>?_,fun y hy=>?_,fun y c' h=>(Bool.false_ne_true h).elim,fun _=>hd,Around.frames_deeper e0.frames,.inr ⟨rfl,rfl⟩,fun b z=>absurd z (noA b),fun b o e=>⟨(e0.bs b o e).1,da (e0.bs b o e).2⟩,e0.bsz,fun b _ _=>noA b,fun b z=>absurd z (noA b),e0.funs,fun b hb=>da (e0.frf b hb)⟩,
    rfl,e0.bare,Un.kept hk,⟨_,hns,fun i y v g1 g2 g3=>?_⟩,fun y c' h=>?_,da (e0.hok.fresh (Nat.le_refl _)),fun y c' h=>gL (hin y c' h),fun p hp=>absurd (show p ∈ ([]:List (Addr×Obj)) from hp) (by simp),fun b u e=>?_,?_⟩
  · have h1:clos.lookup y = some c':=h1
    have h2:clos.lookup z = some c':=h2
    have e1:=bb h1
    have e2:=bb h2
    have nd2:((clos.map fun p=>(p.2,p.1)).map (·.1)).Nodup:=by rw [List.map_map]; exact hnd
    have:=je nd2 (c',y) (List.mem_map.mpr ⟨_,e1,rfl⟩) (c',z) (List.mem_map.mpr ⟨_,e2,rfl⟩) rfl
    exact congrArg Prod.snd this
  · have hy:d.scope.names.lookup y = some .cell∨d.scope.names.lookup y = some .free:=hy
    rcases hy with hy | hy
    · exact absurd rfl (S.nocell _ (bb hy))
    · have:=S.free _ (bb hy) rfl
      rw [← hfv] at this
      obtain ⟨p,hp,e⟩:=List.mem_map.mp this
      have e':p.1 = y:=e
      exact ⟨p.2,bM ndf (by show (y,p.2) ∈ clos; rw [← e']; exact hp)⟩
  · have g1:(ps ++ fv)[i]? = some y:=g1
    by_cases hi:i < ps.length
    · rw [List.getElem?_append_left hi] at g1
      rw [List.getElem?_map,List.getElem?_append_left (by omega)] at g2
      have g2':vs[i]? = some v:=by
        cases q:vs[i]? with
        | none=>rw [q] at g2; cases g2
        | some x=>rw [q] at g2; cases g2; rfl
      obtain ⟨u,hu,rv⟩:=r.get g2'
      refine ⟨u,rv,.inl ⟨S.par y (List.mem_of_getElem? g1),?_⟩⟩
      have mem:(y,u) ∈ ps.zip us:=List.mem_of_getElem? (i:=i) (by rw [List.getElem?_zip_eq_some]; exact ⟨g1,hu⟩)
      refine bM ?_ (List.mem_reverse.mpr mem)
      rw [List.map_reverse]
      refine j6 ?_
      have:(ps.zip us).map (·.1) = ps:=by rw [List.map_fst_zip]; omega
      rw [this]
      exact ndp
    · rw [List.getElem?_append_right (by omega)] at g1
      rw [List.getElem?_map,List.getElem?_append_right (by omega)] at g2
      have g2':vals[i - ps.length]? = some v:=by
        rw [hl] at g2
        cases q:vals[i - ps.length]? with
        | none=>rw [q] at g2; cases g2
        | some x=>rw [q] at g2; cases g2; rfl
      obtain ⟨p,hp,e⟩:=ca.get g2'
      rw [← hfv,List.getElem?_map,hp] at g1
      cases g1
      obtain ⟨u,rv,ic⟩:=cellOf _ _ e
      have hmem:=List.mem_of_getElem? hp
      refine ⟨u,rv,.inr ⟨.inr (S.fr p.1 ?_),p.2,bM ndf hmem,ic⟩⟩
      rw [← hfv]
      exact List.mem_map.mpr ⟨p,hmem,rfl⟩
  · obtain ⟨v,e⟩:=ca.at (hin y c' h)
    obtain ⟨u,_,ic⟩:=cellOf _ _ e
    exact ⟨_,ic⟩
  · by_cases hb:b ∈ clos.map (·.2)
    · rw [gL hb] at e; cases e
    · rw [iz hb] at e
      refine (e0.hok b u e).stay (fun b' u' _ q=>hk b' u' q) (fun b' q=>?_) fun b' xs q=>?_
      · exact cJ ca q fun v z=>nomatch z
      · exact cJ ca q fun v z=>nomatch z
  · show ((vs ++ vals).map some).length = (ps ++ fv).length
    rw [List.length_map,List.length_append,List.length_append]
    omega
end L2
namespace L2
open PySem PySem.Spec PyProof.Rows
section
variable {P:Program} {w:World} {K:PySem.W.Frag} {mg:Str→Option Value} {base:Heap}
theorem vV {d:LamD} {fv ps:List Str} {k:Nat} {sp:List V→Sp} (S:LamScope d fv ps)
    (hbind:∀ (pm ctv:Value) (clos:List (Str×Addr)) (c:Addr) (us:List Value),us.length = ps.length→bindArgs (PySem.W.kla_fn "<lambda>" d.qual d.params d.body d.scope clos pm (.ref c) ctv) ⟨us,[]⟩ = pure (ps.zip us))
    (len:∀ vals vs H Q E,sp vals vs H Q E→vs.length = ps.length)
    (hbody:∀ (A:Around) (outer:List Env) (s:Shared) (H:Hp) (f c:Addr) (clos:List (Str×Addr)) (vals vs:List V) (Q:VK) (E:XK),Room k (A.deeper (dX d s.heap.objs.size f c clos))→clos.map (·.1) = fv→CellsAt H clos vals→sp vals vs H Q E →
      ∃ t,PE (cxL P w K mg base (ps ++ fv) d clos f c A outer s H) d.body t∧t ((vs ++ vals).map some) (d6 H (clos.map (·.2))) (fun v H'=>∀ H3,Same H' H3→(∀ p ∈ clos,H3 p.2 = H p.2)→Q v H3)) :
    mK P w K mg base (k + 1) d fv ps sp:=by
  intro A outer s H f c clos us vs vals Q E hr e0 hf hc hfv hnd ca r hsp
  have hl:=len _ _ _ _ _ hsp
  have lus:us.length = ps.length:=by rw [← r.length]; exact hl
  obtain ⟨⟨pm,ctv,ef⟩,_,_⟩:=e0.hok f _ hf
  obtain ⟨⟨oc,cvs,ct,ec,ed,ev⟩,_,_⟩:=e0.hok c _ hc
  have lim:s.heap.NoLimit:=e0.mod.nolimit.keeps fun b o e=>(e0.bs b o e).1
  obtain ⟨t,ht,hq⟩:=hbody A outer s H f c clos vals vs Q E (hr.deeper _) hfv ca hsp
  refine PySem.W.kla_callFunE (body:=d.body) hr.depth ef rfl S.co S.gen rfl ⟨c,oc,cvs,ct,rfl,ec,ed,ev⟩ ?_
  rw [hbind pm ctv clos c us lus]
  refine wpAny_pure (wpAny_newFunctionEnv S.nocell (fun y hy=>S.par y.1 (List.of_mem_zip hy).1) (fun h1 hns hsb=>?_) S.kind)
  have hk:∀ b o,s.heap.get? b = some o→h1.get? b = some o:=fun b o e=>hsb.extBut b o (Nat.ne_of_lt (Heap.lt_size e)) (Heap.get?_push_of_some _ e)
  refine ⟨lim.fresh _ hsb,?_⟩
  show codeAny _ _ (.expr d.body (dX d s.heap.objs.size f c clos)) _ _
  have I:=nH (f:=f) (c:=c) (tk:=s.toks + (ps.zip us).length) S hr.hd e0 hl r hfv hnd ca hns hk
  refine PySem.W.kla_codeExpr (wpAny_mono (ht [] _ _ _ _ I hq) (fun u s' hs=>?_) fun e s' z=>False.elim z)
  obtain ⟨v,H',J,rv,q⟩:=hs
  obtain ⟨cs,hcs⟩:∃ cs,cs = clos.map (·.2):=⟨_,rfl⟩
  have ub:Un (frs outer) [] (d6 H (clos.map (·.2))) H' s.heap s'.heap:=J.base
  have hat:∀ b,b ∈ clos.map (·.2)→∃ o v,s.heap.get? b = some o∧H b = some (.ext (bW b v)):=fun b hb=>by
    obtain ⟨v,e⟩:=ca.at hb
    obtain ⟨⟨o,_,g,_⟩,_⟩:=e0.hok b _ e
    exact ⟨o,v,g,e⟩
  have hfr:∀ b ∈ clos.map (·.2),H' b = none:=fun b hb=>by
    obtain ⟨o,v,g,_⟩:=hat b hb
    exact ub.free b o g (gL hb) (by simp)
  let H3:Hp:=fun b=>if b ∈ clos.map (·.2) then H b else H' b
  have g1:∀ b,b ∈ clos.map (·.2)→H3 b = H b:=fun b hb=>if_pos hb
  have g2:∀ b,b ∉ clos.map (·.2)→H3 b = H' b:=fun b hb=>if_neg hb
  have sm:Same H' H3:=fun b o e=>by
    rw [g2 b fun z=>by rw [hfr b z] at e; cases e]
    exact e
  have up:∀ b o,H b = some o→(∀ v,o≠.ext (bW b v))→b ∉ clos.map (·.2):=fun b o e n z=>by
    obtain ⟨v,e'⟩:=ca.at z
    rw [e] at e'
    exact n v (Option.some.inj e')
  refine ⟨v,H3,J.os,J.bare,⟨fun b o e n hb hx=>ub.keep b o e (da n) hb hx,fun b o e n hb hx=>ub.slot b o e (da n) hb hx,fun b o e n hx=>?_,ub.there,fun b xs e=>?_,fun b o u e=>?_,fun b ps' e=>?_⟩,fun b o e=>?_,rv,q H3 sm fun p hp=>g1 p.2 (List.mem_map.mpr ⟨p,hp,rfl⟩)⟩
  · rw [g2 b fun z=>by obtain ⟨_,v,_,e'⟩:=hat b z; rw [n] at e'; cases e']
    exact ub.free b o e (da n) hx
  · exact sm _ _ (ub.tups b xs (cJ ca e fun v z=>nomatch z))
  · exact sm _ _ (ub.frzs b o u (cJ ca e fun v z=>nomatch z))
  · obtain ⟨more,z⟩:=ub.tbls b ps' (cJ ca e fun v z=>nomatch z)
    exact ⟨more,sm _ _ z⟩
  · by_cases hb:b ∈ clos.map (·.2)
    · rw [g1 b hb] at e
      obtain ⟨o',v',g,e'⟩:=hat b hb
      rw [e] at e'
      cases e'
      obtain ⟨⟨o2,u2,k1,k2,k3⟩,_⟩:=e0.hok b _ e
      refine jQ ⟨o2,u2,ub.keep b o2 k1 (gL hb) (fun z=>?_) (by simp),k2,k3⟩
      rw [e0.frf b z] at e
      cases e
    · rw [g2 b hb] at e
      refine (J.hok b o e).stay (fun b' u' _ q=>q) (fun b' q=>sm _ _ q) fun b' xs q=>sm _ _ q
end
def xG (d:LamD) (fv:List Str) (sp:List V→Sp):V→List V→Hp→VK→Prop:=fun v vs H Q=>∃ f c clos vals,v = .ref f∧H f = some (.ext (fq f d clos c))∧H c = some (.ext (dP c d.qual))∧clos.map (·.1) = fv∧(clos.map (·.2)).Nodup∧CellsAt H clos vals∧sp vals vs H Q fun _ _ _=>False
def we (d:LamD) (fv:List Str) (sp:List V→Sp) (tf:TE) (t:TA):TE:=fun σ H Q=>tf σ H fun v H1=>(∃ f d' clos c,v = .ref f∧H1 f = some (.ext (fq f d' clos c)))∧t σ H1 fun vs H2=>(∀ f d' clos c,v = .ref f→H1 f = some (.ext (fq f d' clos c))→H2 f = some (.ext (fq f d' clos c)))∧xG d fv sp v vs H2 Q
section
variable {X:Cx} {d:LamD} {fv ps:List Str} {k:Nat} {sp:List V→Sp} {x:Str} {p pos:Pos} {tf:TE} {t:TA} {e:Expr} {es:List Expr}
theorem uG {pins:List (Addr×Obj)} {σ:St} {H:Hp} {s:Shared} {Q:VK} {us:List Value} {vs:List V} {v:V} {u:Value} (L:mK X.prog X.w X.K X.mg X.base k d fv ps sp) (hr:Room k X.A) (I:Inv X pins σ H s) (rv:RelV v u) (r:Vals vs us) (h:xG d fv sp v vs H Q) :
    wpAny (model X.prog X.w) X.A (call u us) (EP X pins σ Q) X.xe s:=by
  obtain ⟨f,c,clos,vals,rfl,hf,hc,h1,h2,h3,h4⟩:=h
  obtain rfl:u = Value.ref f:=rv
  refine wpAny_call (codeAny_mono (L X.A X.stack s H f c clos us vs vals Q _ hr I.env0 hf hc h1 h2 h3 r h4) fun r s' hq=>?_)
  cases r with
  | error e=>exact False.elim hq
  | ok fl =>
    cases fl with
    | ret u=>exact I.after hq
    | next=>exact False.elim hq
    | brk=>exact False.elim hq
    | cont=>exact False.elim hq
theorem oJ {H:Hp} {s:Shared} {P:Program} {w:World} {f c:Addr} {d:LamD} {clos:List (Str×Addr)} (ok:HOk P w H s.heap) (hf:H f = some (.ext (fq f d clos c))):PySem.W.FnAt f s.heap:=by
  obtain ⟨⟨pm,ctv,ef⟩,_,_⟩:=ok f _ hf
  exact ⟨_,_,_,_,ef⟩
theorem se (hn:PE X (.Name x p) tf) (L:mK X.prog X.w X.K X.mg X.base k d fv ps sp) (hr:Room k X.A) (ha:PA X (e :: es) t)
    (he:starEach (e :: es) X.env = (false,eval e X.env) :: starEach es X.env:=by rfl) (hpl:(backTo pos (starEach es X.env)).any (·.1) = false:=by rfl):PE X (.Call (.Name x p) (e :: es) [] pos) (we d fv sp tf t):=by
  intro pins s σ H Q I h
  refine wpAny_Call_Name_kw (thn (hn pins s σ H _ I h) fun u s1 ⟨v,H1,I1,rv,⟨f,d',clos,c,ef,hf⟩,q⟩=>?_)
  subst ef
  obtain rfl:u = Value.ref f:=rv
  refine PySem.W.callWith_F (oJ I1.hok hf) (thn (ha pos pins s1 σ H1 _ I1 q) fun us s2 ⟨vs,H2,I2,r,q2⟩=>⟨oJ I2.hok (q2.1 _ _ _ _ rfl hf),?_⟩) he hpl
  exact uG L hr I2 (v:=.ref f) rfl r q2.2
end
end L2
namespace L2
open PySem PySem.Spec PyProof.Rows
abbrev TR:=VK→(V→St→Hp→Prop)→St→Hp→Prop
def PR (X:Cx) (sts:List Stmt) (t:TR):Prop :=
  ∀ (pins:List (Addr×Obj)) (s:Shared) (σ:St) (H:Hp) (R:VK) (Z:V→St→Hp→Prop),Inv X pins σ H s→t R Z σ H →
    wpAny (model X.prog X.w) X.A (execs sts X.env) (fun f s'=>∃ u,f = .ret u∧((∃ v σ' H',Inv X pins σ' H' s'∧RelV v u∧(R v H'∨Z v σ' H'))∨∃ v H',s'.os = X.s₀.os∧AllBare s'.gens∧Un X.fs X.ex X.H₀ H' X.s₀.heap s'.heap∧HOk X.prog X.w H' s'.heap∧RelV v u∧R v H')) X.xe s
section
variable {X:Cx} {e:Expr} {te:TE} {pos:Pos} {st:Stmt} {rest:List Stmt} {t:TS} {u:TR}
theorem wb (he:PE X e te):PR X [.Return (some e) pos] (fun _ Z σ H=>te σ H fun v H'=>Z v σ H'):=by
  intro pins s σ H R Z I h
  refine wpAny_execs_cons (wpAny_Return_some (thn (he pins s σ H _ I h) fun v s1 ⟨x,H1,I1,r1,q1⟩=>?_))
  exact ⟨v,rfl,.inl ⟨x,σ,H1,I1,r1,.inr q1⟩⟩
theorem lq (h1:PS X st t) (h2:PR X rest u):PR X (st :: rest) (fun R Z σ H=>t { nx:=u R Z,rt:=R } σ H):=by
  intro pins s σ H R Z I h
  refine wpAny_execs_cons (thn (h1 pins s σ H { nx:=u R Z,rt:=R } I h) fun f s1 q=>?_)
  cases f with
  | next =>
    obtain ⟨σ',H',I',q⟩:=q
    exact h2 pins s1 σ' H' R Z I' q
  | ret v =>
    obtain ⟨v',σ',H',I',r,q⟩:=q
    exact ⟨v,rfl,.inl ⟨v',σ',H',I',r,.inl q⟩⟩
  | brk=>obtain ⟨_,_,_,q⟩:=q; exact False.elim q
  | cont=>obtain ⟨_,_,_,q⟩:=q; exact False.elim q
end
def iV (cells:List (Str×Addr)) (N:List Str) (σ:St) (H3:Hp):Prop:=∀ (i:Nat) (y:Str) (v:V) (c:Addr),N[i]? = some y→σ[i]? = some (some v)→cells.lookup y = some c→H3 c = some (.ext (bW c v))
theorem fU {y:Str} {c:Addr}:∀ (names:List (Str×NameKind)) (n:Nat) (acc:List (Str×Addr)),(y,c) ∈ cellsFrom n names acc→(y,c) ∈ acc∨(y,NameKind.cell) ∈ names
  | [],n,acc,h=>.inl h
  | (x,k) :: r,n,acc,h=>by
    unfold cellsFrom at h
    split at h
    · rename_i hk
      rcases fU r (n + 1) ((x,n) :: acc) h with z | z
      · rcases List.mem_cons.mp z with e | z
        · cases e
          rw [eq_of_beq hk]
          exact .inr (List.mem_cons_self ..)
        · exact .inl z
      · exact .inr (List.mem_cons_of_mem _ z)
    · rcases fU r n acc h with z | z
      · exact .inl z
      · exact .inr (List.mem_cons_of_mem _ z)
section
variable {P:Program} {w:World} {K:PySem.W.Frag} {mg:Str→Option Value} {base:Heap}
theorem xT {CX:CXT} {N:List Str} {qual:Str} {scope:Scope} {f:Addr} {cd:Value} {A:Around} {outer:List Env} {s s':Shared} {H H':Hp} {E:XK} {σ:St} (hN:N.Nodup) (hck:∀ p ∈ scope.names,p.2 = .cell→scope.names.lookup p.1 = some .cell)
    {pins:List (Addr×Obj)} (J:Inv (gv CX P w K mg base N qual scope f cd A outer s H E) pins σ H' s') :
    ∃ H3,Same H' H3∧iV (cellsFrom (s.heap.objs.size + 1) scope.names []) N σ H3∧(∀ b,H' b = none→H3 b≠none→∃ y,(cellsFrom (s.heap.objs.size + 1) scope.names []).lookup y = some b)∧Un (frs outer) [] H H3 s.heap s'.heap∧HOk P w H3 s'.heap:=by
  have hvis:∀ y c,(cellsFrom (s.heap.objs.size + 1) scope.names []).lookup y = some c→scope.names.lookup y = some .cell:=fun y c e=>by
    rcases fU _ _ _ (bb e) with z | z
    · cases z
    · exact hck _ z rfl
  obtain ⟨cells,hcells⟩:∃ l,l = cellsFrom (s.heap.objs.size + 1) scope.names []:=⟨_,rfl⟩
  rw [← hcells] at hvis ⊢
  have henv:(gv CX P w K mg base N qual scope f cd A outer s H E).env.cells = cells:=hcells.symm
  let G:Addr→V→Prop:=fun b v=>∃ (i:Nat) (y:Str),N[i]? = some y∧σ[i]? = some (some v)∧cells.lookup y = some b
  have G1:∀ b v v',G b v→G b v'→v = v':=by
    rintro b v v' ⟨i,y,a1,a2,a3⟩ ⟨j,z,b1,b2,b3⟩
    have:y = z:=J.ok.inj y z b (by rw [henv]; exact a3) (by rw [henv]; exact b3)
    subst this
    have:i = j:=gS hN a1 b1
    subst this
    rw [a2] at b2
    cases b2
    rfl
  have G2:∀ b v,G b v→H' b = none∧s.heap.objs.size≤b∧bW b v s'.heap:=by
    rintro b v ⟨i,y,a1,a2,a3⟩
    refine ⟨J.freeC y b (by rw [henv]; exact a3),J.ok.cab y b rfl (by rw [henv]; exact a3),?_⟩
    obtain ⟨m,hn,hl⟩:=J.loc
    obtain ⟨u,r,l⟩:=hl i y v a1 a2 (.inr (.inl (hvis y b a3)))
    rcases l with ⟨k,_⟩ | ⟨k,c,e,o,ho,hd⟩
    · exfalso
      have k:scope.names.lookup y = some .local:=k
      rw [hvis y b a3] at k
      cases k
    · have e:cells.lookup y = some c:=by rw [← henv]; exact e
      rw [a3] at e
      cases e
      exact ⟨o,u,ho,hd,r⟩
  classical
  let H3:Hp:=fun b=>if h:∃ v,G b v then some (.ext (bW b (Classical.choose h))) else H' b
  have g1:∀ b v,G b v→H3 b = some (.ext (bW b v)):=fun b v h=>by
    have hx:∃ v,G b v:=⟨v,h⟩
    show (if h:∃ v,G b v then some (.ext (bW b (Classical.choose h))) else H' b) = _
    rw [dif_pos hx,G1 b _ v (Classical.choose_spec hx) h]
  have g2:∀ b,(¬ ∃ v,G b v)→H3 b = H' b:=fun b h=>dif_neg h
  have sm:Same H' H3:=fun b o e=>by
    rw [g2 b fun ⟨v,z⟩=>by rw [(G2 b v z).1] at e; cases e]
    exact e
  have jb:Un (frs outer) [] H H' s.heap s'.heap:=J.base
  refine ⟨H3,sm,fun i y v c a1 a2 a3=>g1 c v ⟨i,y,a1,a2,a3⟩,(fun b n1 n2=>?_),⟨jb.keep,jb.slot,fun b o e n hx=>?_,jb.there,fun b xs e=>sm _ _ (jb.tups b xs e),fun b o u e=>sm _ _ (jb.frzs b o u e),fun b ps e=>?_⟩,fun b o e=>?_⟩
  · by_cases h:∃ v,G b v
    · obtain ⟨v,i,y,_,_,a3⟩:=h
      exact ⟨y,a3⟩
    · rw [g2 b h] at n2
      exact absurd n1 n2
  · rw [g2 b fun ⟨v,z⟩=>absurd (Nat.lt_of_lt_of_le (Heap.lt_size e) (G2 b v z).2.1) (Nat.lt_irrefl _)]
    exact jb.free b o e n hx
  · obtain ⟨more,z⟩:=jb.tbls b ps e
    exact ⟨more,sm _ _ z⟩
  · by_cases h:∃ v,G b v
    · obtain ⟨v,h⟩:=h
      rw [g1 b v h] at e
      cases e
      exact jQ (G2 b v h).2.2
    · rw [g2 b h] at e
      exact (J.hok b o e).stay (fun b' u' _ q=>q) (fun b' q=>sm _ _ q) fun b' xs q=>sm _ _ q
theorem Fun.okL {x qual:Str} {st:Stmt} {f c:Addr} {fd:FuncData} {N ps:List Str} {k:Nat} {sp:Sp} (F:Fun K x qual st f fd) (hc:fd.code = .ref c) (S:FnScope N ps (ad st)) (hck:∀ p ∈ (ad st).names,p.2 = .cell→(ad st).names.lookup p.1 = some .cell)
    (len:∀ vs H Q E,sp vs H Q E→vs.length = ps.length)
    (hbody:∀ (A:Around) (outer:List Env) (s:Shared) (H:Hp) (vs:List V) (Q:VK) (E:XK),Room k (A.deeper (envOfC qual (ad st) s.heap.objs.size f (.ref c)))→sp vs H Q E →
      ∃ t,PR (gv CX0 P w K mg base N qual (ad st) f (.ref c) A outer s H E).nox (ai st) t∧t Q (fun v σ H'=>∀ H3,Same H' H3→iV (cellsFrom (s.heap.objs.size + 1) (ad st).names []) N σ H3→Q v H3) (start N vs) H):FnOk P w K mg base CX0 (k + 1) f fd ps sp:=by
  obtain ⟨oc,od,kV,doc,pm,an,cdv,ct,osl,rfl,lk,hcd⟩:=F.ex
  obtain rfl:cdv = .ref c:=hc
  refine ⟨len,fun A outer s H args us vs Q E hr e0 hb r hsp=>?_⟩
  have hl:=len _ _ _ _ hsp
  have KX:K.In s.heap:=e0.mod.kin.keeps fun b o e=>(e0.bs b o e).1
  have lim:s.heap.NoLimit:=e0.mod.nolimit.keeps fun b o e=>(e0.bs b o e).1
  have hkind:∀ y ∈ ps.zip us,(ad st).names.lookup y.1 = some .local∨((ad st).names.lookup y.1 = some .cell∧((cellsFrom (s.heap.objs.size + 1) (ad st).names []).lookup y.1).isSome = true):=fun ⟨n,v⟩ hy=>by
    rcases S.par n (List.of_mem_zip hy).1 with q | q
    · exact .inl q
    · exact .inr ⟨q,PySem.W.cellsFrom_some _ _ _ (.inl q)⟩
  refine codeAny_call_function hr.depth (KX _ _ lk) rfl S.co S.gen rfl (PySem.W.codeRec_of KX hcd) (hb _ _ _ _ ?_)
  refine wpAny_newFunctionEnv_cells S.kind hkind fun env he s1 x=>?_
  subst he
  refine ⟨lim.keeps x.toInCall.keep,codeAny_func ?_⟩
  obtain ⟨t,ht,hq⟩:=hbody A outer s H vs Q E (hr.deeper _) hsp
  have I:Inv (gv CX0 P w K mg base N qual (ad st) f (.ref c) A outer s H E) [] (start N vs) H s1:=iu S hr.hd e0 hl r x
  refine wpAny_mono (ht [] s1 (start N vs) H Q _ (I.wish _) hq) (fun fl s' hs=>?_) fun e s' hs=>False.elim hs
  obtain ⟨u,rfl,⟨v,σ',H',J,rv,q⟩ | ⟨v,H',g1,g2,g3,g4,rv,q⟩⟩:=hs
  · have J:=J.unwish
    rcases q with q | q
    · exact ⟨v,H',J.os,J.bare,J.base,J.hok,rv,q⟩
    · obtain ⟨H3,h1,h2,_,h3,h4⟩:=xT S.nd hck J
      exact ⟨v,H3,J.os,J.bare,h3,h4,rv,q H3 h1 h2⟩
  · exact ⟨v,H',g1,g2,g3,g4,rv,q⟩
end
end L2
namespace L2
open PySem PySem.Spec PyProof.Rows
theorem pB {P:Program} {w:World} {K:PySem.W.Frag} {mg mb:Str→Option Value} {CX:CXT} {k:Nat} {fa a:Addr} {fd:FuncData} {x:Str} {sp:Sp} {s₁:Shared} {vs:List Value} {ns:List Int} {ts:List Addr}
    (KX:K.In s₁.heap) (hns:s₁.heap.Ns mainGlobals mg) (hb:s₁.heap.Ns builtinsNs mb) (hbb:∀ x:Str,x ≠ "__name__" → mb x = bootBuiltins x) (hlim:s₁.heap.NoLimit) (hg:s₁.gens = #[])
    (ha:s₁.heap.get? a = some { cls:=.type "list",data:=.seq vs.toArray }) (hi:IntsAre vs ns) (hl:ns.length≤sizeLine) (hr:Room k callerA) (hbm:Bm mg s₁.heap)
    (htab:∀ P ∈ ts,s₁.heap.get? P = some (PySem.W.tabObj #[])) (htc:∀ P ∈ ts,∃ c,PySem.W.codeHdIn K c P = true) (htK:∀ P ∈ ts,K.lookup P = none)
    (F:∀ base:Heap,K.In base→base.Ns mainGlobals mg→Bm mg base→FnOk P w K mg base CX k fa fd [x] sp) (hbind:∀ (s:Shared) (u:Value),BindsTo s fd ⟨[u],[]⟩ [(x,u)])
    (hsp:∀ H:Hp,(∀ P ∈ ts,H P = some (.tbl #[]))→SqL K H a (ns.map V.int)→sp [.ref a] H (fun v _=>v = .bl true) fun _ _ _=>False)
    (hCX:∀ H e s',CX [] H s₁ (fun _ _ _=>False) e s'→False) :
    codeAny (model P w) callerA (.call (.ref fa) ⟨[.ref a],[]⟩) (fun r s'=>r = .ok (.ret (.bool true))∧OldK s₁.heap s'.heap∧s'.os = s₁.os∧AllBare s'.gens) s₁:=by
  have rv:=j8 hi
  have lenV:=hi.length
  have nat:a ∉ ts:=fun z=>by have:=htab a z; rw [ha] at this; cases this
  have core:∀ H:Hp,(∀ P ∈ ts,H P = some (.tbl #[]))→SqL K H a (ns.map V.int)→HOk P w H s₁.heap→(∀ b u,H b = some u→(b = a∧∃ o xs,u = .frz o (.lst xs))∨(b ∈ ts∧u = .tbl #[]))→(H a≠none→K.lookup a = none) →
      codeAny (model P w) callerA (.call (.ref fa) ⟨[.ref a],[]⟩) (fun r s'=>r = .ok (.ret (.bool true))∧OldK s₁.heap s'.heap∧s'.os = s₁.os∧AllBare s'.gens) s₁:=by
    intro H hT hS hok hA hK
    have base_of:∀ {b:Addr} {o:Obj},s₁.heap.get? b = some o→H b = none→(jT s₁.heap H).get? b = some o:=fun e n=>qm e n
    have noA:∀ {b:Addr} {o:Obj},s₁.heap.get? b = some o→o.cls≠.none→(∀ its n,o.data≠.seq its n)→H b = none:=fun {b o} e d1 d2=>by
      cases q:H b with
      | none=>rfl
      | some u =>
        rcases hA b u q with ⟨rfl,_⟩ | ⟨hb,_⟩
        · rw [ha] at e; cases e; exact (d2 _ _ rfl).elim
        · rw [htab b hb] at e; cases e; exact (d1 rfl).elim
    have noD:∀ {b:Addr} {o:Obj} {es:Array DictEntry} {ep:Nat},s₁.heap.get? b = some o→o.data = .dict es ep→H b = none:=fun {b o es ep} e d=>by
      cases q:H b with
      | none=>rfl
      | some u =>
        rcases hA b u q with ⟨rfl,_⟩ | ⟨hb,_⟩
        · rw [ha] at e; cases e
          have d':Data.seq vs.toArray _ = Data.dict es ep:=d
          cases d'
        · rw [htab b hb] at e; cases e; cases d
    have nsK:∀ {b:Addr} {m:Str→Option Value},s₁.heap.Ns b m→(jT s₁.heap H).Ns b m:=fun {b m} ⟨o,es,ep,e,d,r⟩=>⟨o,es,ep,base_of e (noD e d),d,r⟩
    have hKb:K.In (jT s₁.heap H):=fun b o e=>base_of (KX b o e) (by
      cases q:H b with
      | none=>rfl
      | some u =>
        rcases hA b u q with ⟨rfl,_⟩ | ⟨hb,_⟩
        · rw [hK (by rw [q]; simp)] at e; cases e
        · rw [htK b hb] at e; cases e)
    have hM:Mod K mg (jT s₁.heap H):=⟨hKb,nsK hns,⟨mb,nsK hb,hbb⟩,let ⟨mc,h1,h2⟩:=hlim; ⟨mc,nsK h1,h2⟩⟩
    have hB:Bm mg (jT s₁.heap H):=by
      obtain ⟨bm,ob,b1,b2,b3,b4,b5⟩:=hbm
      exact ⟨bm,ob,b1,base_of b2 (noA b2 (by rw [b3]; simp) (fun its n=>by rw [b5]; intro z; cases z)),b3,b4,b5⟩
    have e0:Env0 P w K mg (jT s₁.heap H) callerA [] s₁ H:=⟨rfl,hM,fun b o e=>sV e,Nat.le_of_eq (pM _ _),trivial,fun b hb=>absurd (show b ∈ ([]:List Addr) from hb) (by simp),hok,.of_eq hg⟩
    refine codeAny_mono ((F _ hKb (nsK hns) hB).run callerA [] s₁ H ⟨[.ref a],[]⟩ [.ref a] [.ref a] _ _ hr e0 (hbind s₁ (.ref a)) (.cons rfl .nil) (hsp H hT hS)) fun r s' h=>?_
    cases r with
    | error e=>exact (hCX H e s' h).elim
    | ok fl =>
      cases fl with
      | next=>exact False.elim h
      | brk=>exact False.elim h
      | cont=>exact False.elim h
      | ret u =>
        obtain ⟨v,H',os,bare,un,hok',r',q⟩:=h
        have q':v = .bl true:=q
        subst q'
        obtain rfl:u = Value.bool true:=r'
        refine ⟨rfl,⟨fun b o e=>?_,fun b o e=>un.there b o e (by simp)⟩,os,bare⟩
        cases q:H b with
        | none=>exact .inl (un.keep b o e q (by intro z; exact absurd (show b ∈ ([]:List Addr) from z) (by simp)) (by simp))
        | some u =>
          rcases hA b u q with ⟨_,ob,xs,rfl⟩ | ⟨hb,rfl⟩
          · have z2:=un.frzs b ob _ q
            obtain ⟨e1,_⟩:=hok b _ q
            obtain ⟨e2,_⟩:=hok' b _ z2
            rw [e] at e1; cases e1
            exact .inl e2
          · obtain ⟨c,hc⟩:=htc b hb
            have C:=PySem.W.codeHd_of_K KX hc
            obtain ⟨more,z⟩:=un.tbls b _ q
            have z2:s'.heap.get? b = some (PySem.W.tabObj (#[] ++ more)):=hok' b _ z
            rw [htab b hb] at e
            cases e
            exact .inr (.inl ⟨(C.tab (htab b hb)).isCodeTable,rfl,#[],more,rfl,z2⟩)
  let T:Hp:=fun b=>if b ∈ ts then some (.tbl #[]) else none
  cases hk:K.lookup a with
  | some o =>
    have e:=KX a o hk
    rw [ha] at e
    cases e
    refine core T (fun P hP=>if_pos hP) (.inr ⟨_,vs.toArray,_,hk,rfl,rfl,rfl,by rw [List.size_toArray,lenV]; exact hl,by simpa using rv⟩) (fun b u z=>?_) (fun b u z=>?_) fun z=>absurd (if_neg nat) z
    · by_cases hb:b ∈ ts
      · have z':=(if_pos hb).symm.trans z
        cases z'
        exact htab b hb
      · have z':=(if_neg hb).symm.trans z
        cases z'
    · by_cases hb:b ∈ ts
      · have z':=(if_pos hb).symm.trans z
        cases z'
        exact .inr ⟨hb,rfl⟩
      · have z':=(if_neg hb).symm.trans z
        cases z'
  | none =>
    refine core (fun b=>if b = a then some (.frz { cls:=.type "list",data:=.seq vs.toArray } (.lst (ns.map V.int))) else T b) (fun P hP=>?_) (.inl (.inr ⟨{ cls:=.type "list",data:=.seq vs.toArray },if_pos rfl⟩)) (fun b u z=>?_) (fun b u z=>?_) fun _=>hk
    · have hne:P≠a:=fun z=>nat (by rw [← z]; exact hP)
      exact (if_neg hne).trans (if_pos hP)
    · by_cases hb:b = a
      · have z':=(if_pos hb).symm.trans z
        cases z'
        subst hb
        exact ⟨ha,by rw [List.length_map]; exact hl,vs,_,rv,ha⟩
      · have z':=(if_neg hb).symm.trans z
        by_cases hb:b ∈ ts
        · have z':=(if_pos hb).symm.trans z'
          cases z'
          exact htab b hb
        · have z':=(if_neg hb).symm.trans z'
          cases z'
    · by_cases hb:b = a
      · have z':=(if_pos hb).symm.trans z
        cases z'
        exact .inl ⟨hb,_,_,rfl⟩
      · have z':=(if_neg hb).symm.trans z
        by_cases hb:b ∈ ts
        · have z':=(if_pos hb).symm.trans z'
          cases z'
          exact .inr ⟨hb,rfl⟩
        · have z':=(if_neg hb).symm.trans z'
          cases z'
theorem walk_ofT {l:PySem.W.OpenLaw} {n k:Nat} {q:Program} {loose:List Str} {XP:(Str→Option Value)→Heap→Prop} {YP:World→Heap→Prop} {d:DefRec} {K:Params→PySem.W.Frag} {CX:CXT} {sp:PySem.W.Frag→List Addr→Sp} {x:Str} {ts:List Addr}
    (hn:l.most = some n) (hn2:n≤sizeLine) (hdf:d.params.defaults = []) (hr:Room k callerA)
    (hY:∀ (w:World) (h:Heap),YP w h→(K w.params).In h∧∀ P ∈ ts,h.get? P = some (PySem.W.tabObj #[]))
    (F:∀ (ts':List Addr),ts' = ts→∀ (w:World) (mg:Str→Option Value) (fa:Addr) (h:Heap),(K w.params).In h→h.Ns mainGlobals mg→mg d.name = some (.ref fa) →
      ∃ fd:FuncData,(∀ (s:Shared) (u:Value),BindsTo s fd ⟨[u],[]⟩ [(x,u)])∧(∀ P ∈ ts,∃ c,PySem.W.codeHdIn (K w.params) c P = true)∧(∀ P ∈ ts,(K w.params).lookup P = none) ∧
        ∀ base:Heap,(K w.params).In base→base.Ns mainGlobals mg→Bm mg base→FnOk l.prog w (K w.params) mg base CX k fa fd [x] (sp (K w.params) ts))
    (hsp:∀ (K:PySem.W.Frag) (H:Hp) (a:Addr) (ns:List Int),ns.length≤n→(∀ P ∈ ts,H P = some (.tbl #[]))→SqL K H a (ns.map V.int)→sp K ts [.ref a] H (fun v _=>v = .bl true) fun _ _ _=>False)
    (hCX:∀ (H:Hp) (s:Shared) (e:Value) (s':Shared),CX [] H s (fun _ _ _=>False) e s'→False) :
    PySem.W.WalkO q loose XP YP l.row.toRowW d [] (fun f vs=>PySem.call f vs):=by
  refine Att.attach_call hn hdf fun w s₀ s₁ mg mb fa o pm cd doc a vs ns G Y ho hd hcd hmg hobj hints hlen hg=>?_
  obtain ⟨KX,hT⟩:=hY w _ Y
  obtain ⟨fd,hb,htc,htK,hF⟩:=F ts rfl w mg fa _ KX G.T.g hmg
  have hbm:Bm mg s₁.heap:=let ⟨bm,ob,b1,_,b3,b4,b5,b6⟩:=G.T.bmain; ⟨bm,ob,b1,b3,b4,b5,b6⟩
  exact pB KX G.T.g G.T.b G.T.builtins G.T.nolimit hg hobj hints (Nat.le_trans hlen hn2) hr hbm hT htc htK hF hb (fun H hO hS=>hsp (K w.params) H a ns hlen hO hS) fun H e s'=>hCX H s₁ e s'
end L2
namespace L2
open PySem PySem.Spec PyProof.Rows
def dE:Expr:=.Name "" ⟨0,0,0,0⟩
def yP (st:Stmt) (i:Nat):Stmt:=(ai st).getD i (.Pass ⟨0,0,0,0⟩)
def yX:Expr→Nat→Expr
  | .Call _ es _ _,i=>es.getD i dE
  | _,_=>dE
def vG (q:Str):Expr→LamD
  | .Lambda p b s _=>⟨q,p,b,s⟩
  | _=>⟨q,default,dE,default⟩
def xQ:Expr→Pos
  | .Lambda _ _ _ p=>p
  | _=>⟨0,0,0,0⟩
theorem kg:bootBuiltins "sorted" = some (.builtin "sorted"):=by decide +kernel
theorem gD:∀ {us:List Value} {ns:List Int},IntsAre us ns→Vals (ns.map V.int) us
  | _,_,.nil=>.nil
  | _,_,.cons n t h=>.cons ⟨_,rfl⟩ (gD h)
theorem lm {X:Cx}:CallR X (.builtin "sorted") (fun xs H Q=>∃ (p:Addr) (ns:List Int),xs = [.ref p]∧SqL X.K H p (ns.map V.int)∧ns.length < 64∧∀ q (ns':List Int),ns'.Perm ns→ns'.Pairwise (·≤·)→H q = none→Q (.ref q) (upd H q (.lst (ns'.map V.int)))):=by
  intro pins s σ H xs us Q I r h
  obtain ⟨p,ns,rfl,hq,hl,q⟩:=h
  obtain ⟨u,rfl,rx⟩:=er r
  cases rx
  obtain ⟨its,rv,pl,hz⟩:=I.list hq
  have hi:=gY rv
  have hlen:its.length = ns.length:=by have:=rv.length; rw [List.length_map] at this; exact this.symm
  refine sorted_ints pl.isList hi (by omega) fun out ns' a1 a2 a3=>?_
  obtain ⟨e,he⟩:=sortedAll_at s.heap its out
  have hn:H (s.heap.objs.size + 1) = none:=I.hok.fresh (Nat.le_succ _)
  have small:sizeLine = 16777216:=sizeLine_eq
  refine ⟨.ref (s.heap.objs.size + 1),_,I.laid (a:=s.heap.objs.size + 1) (o:=.lst (ns'.map V.int)) (t':=s.toks) (fun b u z=>sortedAll_old z) (Nat.le_succ _) ⟨?_,out.toList,e,gD a1,?_⟩,rfl,q _ ns' a2 a3 hn⟩
  · rw [List.length_map,a2.length_eq]; omega
  · rw [he,Array.toArray_toList]
end L2
namespace L2
open PySem PySem.Spec PyProof.Rows
theorem qb {K:PySem.W.Frag} {M:Model} {h:Heap} {C D x:Addr} {ob:Obj} (X:K.In h) (c:XHd K C) (hx:h.get? x = some ob) (hc:ob.cls = .ref D) (hm:PySem.W.mroIn K D (.ref C) = some false) :
    PySem.W.Looks M h (excMatches (.ref x) (.ref C)) false:=by
  have L1:PySem.W.Looks M h (typeOf (.ref C)) (.type "type"):=PySem.W.looks_typeIn X c.ty
  have L2':PySem.W.Looks M h (isSubtype (.type "type") (.type "tuple")) false:=PySem.W.Looks.of_pure tc_notTuple
  have L3:PySem.W.Looks M h (isInstance (.ref C) (.type "tuple")) false:=L1.andThen L2'
  have L4:PySem.W.Looks M h (isExcClass (.ref C)) true:=by
    unfold isExcClass
    exact (ma X c.isc).andThen (PySem.W.looks_mroIn X c.mb)
  have L5:PySem.W.Looks M h (typeOf (.ref x)) (.ref D):=hc ▸ (PySem.W.Looks.ld hx).andThen .now
  have L6:PySem.W.Looks M h (isSubtype (.ref D) (.ref C)) false:=PySem.W.looks_mroIn X hm
  intro A Q E s k q
  unfold excMatches
  refine wpAny_bind (L3 A _ E s k ?_)
  rw [if_neg Bool.false_ne_true]
  refine wpAny_bind (wpAny_pure ?_)
  simp only [List.forIn_cons,List.forIn_nil,bind_assoc,pure_bind]
  refine wpAny_bind (L4 A _ E s k ?_)
  simp only [Bool.not_true,Bool.false_eq_true,if_false,pure_bind]
  refine wpAny_bind (L5 A _ E s k ?_)
  refine wpAny_bind (L6 A _ E s k ?_)
  simp only [Bool.false_eq_true,if_false,pure_bind]
  exact wpAny_pure q
structure Lnd (X:Cx) (pins:List (Addr×Obj)) (σ:St) (H:Hp) (s:Shared) (x D:Addr) (dct:Option Addr) (T:Addr) (H':Hp) (s':Shared) (T4:Addr) (h5:Heap):Prop where
  I:Inv X pins σ H s
  G:XG X.prog X.w X.stack H s x D dct T H' s'
  k:KeptBut ([T,x] ++ [T4]) (frs X.stack) s'.heap h5
  hxs:∀ b,b = T∨b = x∨b = T4→s.heap.get? b = none∧H' b = none∧b ∉ frs X.stack
  fx:Fx h5 x (.ref D) dct .none T4
abbrev TH:=Addr→Option Addr→Addr→Ends→St→Hp→Prop
def PH (X:Cx) (hs:List ExceptHandler) (th:TH):Prop :=
  ∀ (pins:List (Addr×Obj)) (σ:St) (H:Hp) (s:Shared) (x D:Addr) (dct:Option Addr) (T:Addr) (H':Hp) (s':Shared) (T4:Addr) (h5:Heap) (DE:Ends),Lnd X pins σ H s x D dct T H' s' T4 h5→th D dct x DE σ (upd H' x (.ext (XCt x D dct))) →
    wpAny (model X.prog X.w) X.A (handleBy (.ref x) X.env hs) (SP X pins DE) X.xe { s' with heap:=h5 }
theorem wo {X:Cx}:PH X [] (fun _ _ _ _ _ _=>False):=fun _ _ _ _ _ _ _ _ _ _ _ _ _ _ q=>False.elim q
section
variable {X:Cx} {C:Addr} {cn en:Str} {ie:Nat} {b₀:Stmt} {suite:List Stmt} {cp hp:Pos} {ts:TS} {rest:List ExceptHandler} {tr:TH}
theorem Lnd.J {pins:List (Addr×Obj)} {σ:St} {H:Hp} {s:Shared} {x D:Addr} {dct:Option Addr} {T:Addr} {H':Hp} {s':Shared} {T4:Addr} {h5:Heap} (L:Lnd X pins σ H s x D dct T H' s' T4 h5):Inv X pins σ (upd H' x (.ext (XCt x D dct))) { s' with heap:=h5 } :=
  vC (h2:=h5) L.I L.G L.k (fun b hb=>L.hxs b (by simpa using hb)) L.fx
theorem yr (hst:X.stack = X.env :: X.outer∧X.env.frame = some X.env.locals) (gC:Gl X cn) (mC:X.mg cn = some (.ref C)) (cC:XHd X.K C) (hN:X.N.Nodup) (hi:X.N[ie]? = some en) (hl:X.env.kindOf en = some .local)
    (hs:∀ x,PSs (X.inX x) (b₀ :: suite) ts) (hr:PH X rest tr) (hdb:(cn == ("__debug__" : Str)) = false:=by decide) :
    PH X (.ExceptHandler (some (.Name cn cp)) (some en) (b₀ :: suite) hp :: rest) (fun D dct x DE σ H1=>(PySem.W.mroIn X.K D (.ref C) = some true∧ts (DE.asG ie) (σ.set ie (some (.ref x))) H1)∨(PySem.W.mroIn X.K D (.ref C) = some false∧tr D dct x DE σ H1)):=by
  intro pins σ H s x D dct T H' s' T4 h5 DE L q
  have J5:=L.J
  obtain ⟨o5,ho5,hc5⟩:∃ o,h5.get? x = some o∧o.cls = .ref D:=let ⟨o,_,_,_,e,c,_⟩:=L.fx; ⟨o,e,c⟩
  refine wpAny_handleBy_cons (codeAny_handlers_test (fV (X:=X.inX x) (J5.inX x) gC mC ?_ hdb)) (by intro z; cases z)
  rcases q with ⟨hm,q⟩ | ⟨hm,q⟩
  · refine (pQ J5.kIn cC ho5 hc5 hm).at ?_
    refine codeAny_handlers_suite_as ?_
    refine fK (s:={ s' with heap:=h5 }) (fr:=frs (X.env :: X.outer)) L.fx fun h6 x6 k6=>?_
    have k46:KeptBut ([T,x] ++ [T4] ++ [T4]) (frs X.stack) s'.heap h6:=by
      have:=L.k
      rw [hst.1] at this ⊢
      exact this.trans k6
    have J6:=vC (h2:=h6) L.I L.G k46 (fun b hb=>L.hxs b (by
      have:b = T∨b = x∨b = T4∨b = T4:=by simpa using hb
      rcases this with z | z | z | z
      · exact .inl z
      · exact .inr (.inl z)
      · exact .inr (.inr z)
      · exact .inr (.inr z))) x6
    refine fu J6 hN hi (.inl hl) (v:=.ref x) rfl (fun s7 I7=>?_) (.inr hl)
    refine wpAny_mono (hs x pins s7 _ _ _ (I7.inX x) q) (fun fl s8 hf=>?_) (fun _ _ z=>False.elim z)
    cases fl with
    | next =>
      obtain ⟨σ8,H8,I8,q8⟩:=hf
      have J8:Inv X pins σ8 H8 s8:=I8.outX L.I.ok.hd
      obtain ⟨m,hn,hlk⟩:=id J8.loc
      refine wpAny_nameGoes_keeps hl hn (by rw [L.I.ok.kind]; rfl) fun h9 v hn9 sb=>?_
      exact ⟨_,H8,J8.gone hN hi hl hlk hn9 sb,q8⟩
    | ret u=>obtain ⟨_,_,_,_,_,z⟩:=hf; exact False.elim z
    | brk=>obtain ⟨_,_,_,z⟩:=hf; exact False.elim z
    | cont=>obtain ⟨_,_,_,z⟩:=hf; exact False.elim z
  · refine (qb J5.kIn cC ho5 hc5 hm).at ?_
    exact hr pins σ H s x D dct T H' s' T4 h5 DE L q
end
def HX (X:Cx) (pins:List (Addr×Obj)) (hr:Value→Option Addr→St→Hp→Prop) (e:Value) (s':Shared):Prop:=∃ σ H s,Inv X pins σ H s∧CXG X.prog X.w X.stack H s (fun c d H'=>hr c d σ H') e s'
abbrev TB:=(St→Hp→Prop)→VK→(Value→Option Addr→St→Hp→Prop)→St→Hp→Prop
def PB1 (X:Cx) (st:Stmt) (t:TB):Prop :=
  ∀ (pins:List (Addr×Obj)) (s:Shared) (σ:St) (H:Hp) (nx:St→Hp→Prop) (rt:VK) (hr:Value→Option Addr→St→Hp→Prop),Inv X pins σ H s→t nx rt hr σ H→wpAny (model X.prog X.w) X.A (exec st X.env) (SP X pins { nx:=nx,rt:=rt }) (HX X pins hr) s
def PB (X:Cx) (sts:List Stmt) (t:TB):Prop :=
  ∀ (pins:List (Addr×Obj)) (s:Shared) (σ:St) (H:Hp) (nx:St→Hp→Prop) (rt:VK) (hr:Value→Option Addr→St→Hp→Prop),Inv X pins σ H s→t nx rt hr σ H→wpAny (model X.prog X.w) X.A (execs sts X.env) (SP X pins { nx:=nx,rt:=rt }) (HX X pins hr) s
section
variable {X:Cx}
theorem gp {st:Stmt} {t:TB} (h1:PB1 X st t):PB X [st] t:=by
  intro pins s σ H nx rt hr I h
  refine wpAny_execs_cons (thn (h1 pins s σ H nx rt hr I h) fun f s1 q=>?_)
  cases f with
  | next=>exact wpAny_execs_nil q
  | ret v=>exact q
  | brk=>exact q
  | cont=>exact q
theorem nz {c:Expr} {a b:List Stmt} {tc:TT} {t u:TB} {pos:Pos} (hc:PT X.nox c tc) (ha:PB X a t) (hb:PB X b u):PB1 X (.If c a b pos) (fun nx rt hr σ H=>tc σ H fun d H1=>if d = true then t nx rt hr σ H1 else u nx rt hr σ H1):=by
  intro pins s σ H nx rt hr I h
  refine wpAny_If (wpAny_mono (hc pins s σ H _ (I.wish _) h) (fun d s1 ⟨H1,I1,q1⟩=>?_) fun _ _ z=>False.elim z)
  cases d with
  | true=>exact ha pins s1 σ H1 nx rt hr I1.unwish q1
  | false=>exact hb pins s1 σ H1 nx rt hr I1.unwish q1
def PX (X:Cx) (e:Expr) (t:VK→XK→St→Hp→Prop):Prop :=
  ∀ (pins:List (Addr×Obj)) (s:Shared) (σ:St) (H:Hp) (Q:VK) (E:XK),Inv X pins σ H s→t Q E σ H →
    wpAny (model X.prog X.w) X.A (eval e X.env) (EP X pins σ Q) (fun e s'=>∃ H1 s1,Inv X pins σ H1 s1∧CXG X.prog X.w X.stack H1 s1 E e s') s
theorem g8 {e:Expr} {t:VK→XK→St→Hp→Prop} {pos:Pos} (h:PX X e t) (hsw:swapsWith e none pos.line X.env = pure false:=by rfl):PB1 X (.Expr e pos) (fun nx _ hr σ H=>t (fun _ H1=>nx σ H1) (fun c d H'=>hr c d σ H') σ H):=by
  intro pins s σ H nx rt hr I q
  refine wpAny_Expr_any (wpAny_mono (h pins s σ H _ _ I q) (fun u s1 ⟨v,H1,I1,r,q1⟩=>?_) fun e s' ⟨H1,s1,I1,c⟩=>⟨σ,H1,s1,I1,c⟩) I.quiet hsw
  exact ⟨σ,H1,I1,q1⟩
end
section
variable {X:Cx} {k:Nat} {f C:Addr} {fd:FuncData} {ps:List Str} {sp:Sp} {dvs:List V} {ds:List Value} {x m:Str} {p pos apos:Pos} {e o:Expr} {es:List Expr} {ta:TE} {t:TA}
theorem wv {pins:List (Addr×Obj)} {σ:St} {H:Hp} {s:Shared} {Q:VK} {E:XK} {us:List Value} {vs:List V} (F:FnOk X.prog X.w X.K X.mg X.base (CXG X.prog X.w) k f fd ps sp) (hr:Room k X.A) (hb:Binds X.K fd ps ds) (hd:Vals dvs ds)
    (I:Inv X pins σ H s) (r:Vals vs us) (h:sp (vs ++ dvs) H Q E):wpAny (model X.prog X.w) X.A (call (.ref f) us) (EP X pins σ Q) (fun e s'=>∃ H1 s1,Inv X pins σ H1 s1∧CXG X.prog X.w X.stack H1 s1 E e s') s:=by
  have r2:Vals (vs ++ dvs) (us ++ ds):=r.append hd
  have hl:(us ++ ds).length = ps.length:=by rw [← r2.length]; exact F.len _ _ _ _ h
  refine wpAny_call (codeAny_mono (F.run X.A X.stack s H ⟨us,[]⟩ (us ++ ds) (vs ++ dvs) Q E hr I.env0 (hb s us I.kIn hl) r2 h) fun r s' hq=>?_)
  cases r with
  | error e=>exact ⟨H,s,I,hq⟩
  | ok fl =>
    cases fl with
    | ret u=>exact I.after hq
    | next=>exact False.elim hq
    | brk=>exact False.elim hq
    | cont=>exact False.elim hq
theorem jd (F:FnOk X.prog X.w X.K X.mg X.base (CXG X.prog X.w) k f fd ps sp) (hr:Room k X.A) (hg:Gl X x) (hm:X.mg x = some (.ref f)) (hk:PySem.W.keepIn X.K (.ref f) = true) (hb:Binds X.K fd ps ds) (hd:Vals dvs ds)
    (ha:PA X.nox (e :: es) t) (hdb:(x == ("__debug__" : Str)) = false:=by decide) (he:starEach (e :: es) X.env = (false,eval e X.env) :: starEach es X.env:=by rfl) (hpl:(backTo pos (starEach es X.env)).any (·.1) = false:=by rfl) :
    PX X (.Call (.Name x p) (e :: es) [] pos) (fun Q E σ H=>t σ H fun vs H1=>sp (vs ++ dvs) H1 Q E):=by
  intro pins s σ H Q E I h
  refine wpAny_Call_Name_kw (fV I hg hm ?_ hdb)
  refine PySem.W.callWith_K (h₀:=X.base) I.ok.mod.kin hk (wpAny_mono (ha pos pins s σ H _ (I.wish _) h) (fun us s1 ⟨vs,H1,I1,r,q⟩=>⟨I1.unwish.kIn,?_⟩) fun _ _ z=>False.elim z) he hpl
  exact wv F hr hb hd I1.unwish r q
theorem uW {body:List Stmt} {h₀:ExceptHandler} {hs:List ExceptHandler} {tb:TB} {th:TH} {tp:Pos} (hst:X.stack = X.env :: X.outer∧X.env.frame = some X.env.locals) (hb:PB X body tb) (hh:PH X (h₀ :: hs) th) :
    PS X (.Try body (h₀ :: hs) [] [] tp) (fun DE σ H=>tb DE.nx DE.rt (fun c dct σ' H'=>∃ D,c = .ref D∧∀ x,H' x = none→th D dct x DE σ' (upd H' x (.ext (XCt x D dct)))) σ H):=by
  intro pins s σ H DE I h
  refine wpAny_Try_except ?_
  refine wpAny_mono (hb pins s σ H DE.nx DE.rt _ I h) (fun f s1 q=>?_) fun e s' z=>?_
  · cases f with
    | next=>exact wpAny_execs_nil q
    | ret u=>exact q
    | brk=>obtain ⟨_,_,_,z⟩:=q; exact False.elim z
    | cont=>obtain ⟨_,_,_,z⟩:=q; exact False.elim z
  · obtain ⟨σ1,H1,s1,I1,x,D,dct,T,H',rfl,G,D',eD,hq⟩:=z
    cases eD
    have J:Inv X pins σ1 H' s':=I1.call' (ch:=[]) G.os G.un G.hok G.bare (by simp)
    have st:s'.heap.FunFrames X.base (X.env :: X.outer):=hst.1 ▸ J.stack
    refine nS (by rw [I1.ok.frames,hst.1]) st hst.2 G.fx fun h4 T4 x4 n4 k4=>?_
    refine fK (s:={ s' with heap:=h4 }) (fr:=frs (X.env :: X.outer)) x4 fun h5 x5 k5=>?_
    have k45:KeptBut ([T,x] ++ [T4]) (frs X.stack) s'.heap h5:=by rw [hst.1]; exact k4.trans k5
    have so:∀ b,s1.heap.get? b = none→b ∉ frs X.stack:=fun b n z=>by
      obtain ⟨_,o,e,_⟩:=I1.stack.mem z
      rw [n] at e
      cases e
    have h4s:s1.heap.get? T4 = none:=cE G.un n4
    have u4:H' T4 = none:=by
      cases z:H' T4 with
      | none=>rfl
      | some u =>
        obtain ⟨o,e⟩:=(J.hok T4 u z).isObj
        rw [n4] at e
        cases e
    refine hh pins σ1 H1 s1 x D dct T H' s' T4 h5 DE ⟨I1,G,k45,fun b hb=>?_,x5⟩ (hq x G.ux)
    rcases hb with rfl | rfl | rfl
    · exact ⟨G.nT,G.uT,so _ G.nT⟩
    · exact ⟨G.nx,G.ux,so _ G.nx⟩
    · exact ⟨h4s,u4,so _ h4s⟩
end
end L2
namespace L2
open PySem PySem.Spec PyProof.Rows
section
variable {X:Cx} {e:Expr} {es:List Expr} {pos:Pos}
theorem hZ {a b:Expr} {ta tb:TE} {r:R2} (hr:IxR X r) (ha:PEq X a ta) (hb:PE X b tb) (hp:on b):PEq X (.Subscript a b pos) (tOp r ta tb):=aT (aI hr (fX ha) hb hp)
end
end L2
namespace L2
open PySem PySem.Spec PyProof.Rows
section
variable {X:Cx} {k:Nat} {f:Addr} {fd:FuncData} {ps:List Str} {sp:Sp} {x:Str} {p pos:Pos} {e:Expr} {es:List Expr} {t:TA} {tf:TE} {ds:List Value} {dvs:List V} {CX:CXT} {E:XK}
theorem jp (hn:PE X (.Name x p) tf) (F:FnOk X.prog X.w X.K X.mg X.base CX k f fd ps sp) (hr:Room k X.A) (hk:PySem.W.keepIn X.K (.ref f) = true) (hb:Binds X.K fd ps ds) (hd:Vals dvs ds) (hx:jB CX X E)
    (ha:PA X (e :: es) t) (he:starEach (e :: es) X.env = (false,eval e X.env) :: starEach es X.env:=by rfl) (hpl:(backTo pos (starEach es X.env)).any (·.1) = false:=by rfl) :
    PE X (.Call (.Name x p) (e :: es) [] pos) (fun σ H Q=>tf σ H fun v H1=>v = .ref f∧vM sp dvs E t σ H1 Q):=by
  intro pins s σ H Q I h
  refine wpAny_Call_Name_kw (thn (hn pins s σ H _ I h) fun u s1 ⟨v,H1,I1,rv,ev,q⟩=>?_)
  subst ev
  obtain rfl:u = Value.ref f:=rv
  refine PySem.W.callWith_K (h₀:=X.base) I1.ok.mod.kin hk (thn (ha pos pins s1 σ H1 _ I1 q) fun us s1 ⟨vs,H1,I1,r,q⟩=>⟨I1.kIn,?_⟩) he hpl
  exact sQ F hr hb hd hx I1 r q
end
end L2
namespace L2
open PySem PySem.Spec PyProof.Rows
section
variable {X:Cx} {a b c d:Expr} {ta tb tc td:TE} {pos:Pos}
end
section
variable {X:Cx} {o e:Expr} {es:List Expr} {to:TE} {t:TA} {apos cpos:Pos}
end
end L2
namespace WSrt
open PySem PySem.W PyProof.Rows
def run {α:Type} (lt:Nat→Nat→Bool):KasT α→α
  | .ret x=>x
  | .ask i j k=>run lt (k (lt i j))
theorem ee {α β:Type} (lt:Nat→Nat→Bool) (f:α→KasT β):∀ t:KasT α,run lt (t.bind f) = run lt (f (run lt t))
  | .ret _=>rfl
  | .ask i j k=>ee lt f (k (lt i j))
def e (p:Array Nat) (i:Nat):Nat:=(p[i]?).getD 0
theorem bc (p:Array Nat) (i:Nat):p.getD i 0 = e p i:=by unfold e; simp [Array.getD_eq_getD_getElem?]
variable (lt:Nat→Nat→Bool) (n:Nat)
structure Wk:Prop where
  asy:∀ i j,i < n→j < n→lt i j = true→lt j i = false
  tr:∀ i j k,i < n→j < n→k < n→lt j i = false→lt k j = false→lt k i = false
structure PV (p:Array Nat):Prop where
  sz:p.size = n
  pm:p.toList.Perm (List.range n)
theorem e_list {p:Array Nat} {i:Nat} (h:i < p.size):p.toList[i]? = some (e p i):=by
  unfold e
  rw [Array.getElem?_toList]
  simp [h]
theorem PV.bd {p:Array Nat} (h:PV n p) {i:Nat} (hi:i < n):e p i < n:=by
  have:=e_list (p:=p) (i:=i) (by rw [h.sz]; exact hi)
  have hm:=h.pm.mem_iff.mp (List.mem_of_getElem? this)
  exact List.mem_range.mp hm
theorem PV.ne {p:Array Nat} (h:PV n p) {i j:Nat} (hi:i < n) (hj:j < n) (hne:i≠j):e p i≠e p j:=by
  have nd:p.toList.Nodup:=h.pm.nodup_iff.mpr List.nodup_range
  have h1:=e_list (p:=p) (i:=i) (by rw [h.sz]; exact hi)
  have h2:=e_list (p:=p) (i:=j) (by rw [h.sz]; exact hj)
  intro z
  rw [z] at h1
  have l1:=(List.getElem?_eq_some_iff.mp h1)
  have l2:=(List.getElem?_eq_some_iff.mp h2)
  obtain ⟨a1,b1⟩:=l1
  obtain ⟨a2,b2⟩:=l2
  have pw:=List.pairwise_iff_getElem.mp nd
  rcases Nat.lt_trichotomy i j with c | c | c
  · exact pw i j a1 a2 c (b1.trans b2.symm)
  · exact hne c
  · exact pw j i a2 a1 c (b2.trans b1.symm)
def Asc (p:Array Nat) (m:Nat):Prop:=∀ i j,i < j→j < m→lt (e p j) (e p i) = false
def Dsc (p:Array Nat) (m:Nat):Prop:=∀ i j,i < j→j < m→lt (e p i) (e p j) = false
def Blk (p:Array Nat) (i j:Nat):Prop:=∀ x y,i≤x→x < j→i≤y→y < j→lt (e p x) (e p y) = false
variable (T:Wk lt n)
include T
theorem rO {p:Array Nat} {m:Nat} (h:PV n p) (hm:1≤m) (hmn:m < n) (a:Asc lt p m) (c:lt (e p m) (e p (m - 1)) = false):Asc lt p (m + 1):=by
  intro i j hij hj
  by_cases c1:j < m
  · exact a i j hij c1
  · have:j = m:=by omega
    subst this
    by_cases c2:i = j - 1
    · rw [c2]; exact c
    · exact T.tr _ (e p (j - 1)) _ (h.bd n (by omega)) (h.bd n (by omega)) (h.bd n (by omega)) (a i (j - 1) (by omega) (by omega)) c
theorem jD {p:Array Nat} {m:Nat} (h:PV n p) (hm:1≤m) (hmn:m < n) (a:Dsc lt p m) (c:lt (e p (m - 1)) (e p m) = false):Dsc lt p (m + 1):=by
  intro i j hij hj
  by_cases c1:j < m
  · exact a i j hij c1
  · have:j = m:=by omega
    subst this
    by_cases c2:i = j - 1
    · rw [c2]; exact c
    · exact T.tr _ (e p (j - 1)) _ (h.bd n (by omega)) (h.bd n (by omega)) (h.bd n (by omega)) c (a i (j - 1) (by omega) (by omega))
theorem iT {p:Array Nat} (h:PV n p):∀ (f m:Nat),1≤m→m + f≤n→Asc lt p m→m≤run lt (kas_asc p f m)∧run lt (kas_asc p f m)≤m + f∧Asc lt p (run lt (kas_asc p f m))∧(run lt (kas_asc p f m) < m + f→lt (e p (run lt (kas_asc p f m))) (e p (run lt (kas_asc p f m) - 1)) = true)
  | 0,m,_,_,a=>⟨Nat.le_refl _,Nat.le_refl _,a,fun z=>absurd z (Nat.lt_irrefl _)⟩
  | f + 1,m,h1,h2,a=>by
    have e0:run lt (kas_asc p (f + 1) m) = run lt (if lt (e p m) (e p (m - 1)) = true then .ret m else kas_asc p f (m + 1)):=by
      show run lt (if lt (p.getD m 0) (p.getD (m - 1) 0) = true then .ret m else kas_asc p f (m + 1)) = _
      rw [bc,bc]
    rw [e0]
    cases c:lt (e p m) (e p (m - 1)) with
    | true =>
      rw [if_pos rfl]
      exact ⟨Nat.le_refl _,by show m≤_; omega,a,fun _=>c⟩
    | false =>
      rw [if_neg (by decide)]
      obtain ⟨q1,q2,q3,q4⟩:=iT h f (m + 1) (by omega) (by omega) (rO lt n T h h1 (by omega) a c)
      exact ⟨by omega,by omega,q3,fun z=>q4 (by omega)⟩
omit T in
theorem iO {p:Array Nat} {i m k:Nat} (hm:m≤p.size):e (kas_rev p i m) k = if i≤k∧k < m then e p (i + m - 1 - k) else e p k:=by
  unfold e kas_rev
  rw [getElem?_mirror_all hm]
  split <;> rfl
omit T in
theorem PV.rev {p:Array Nat} (h:PV n p) (i m:Nat):PV n (kas_rev p i m):=⟨by unfold kas_rev; rw [mirror_size]; exact h.sz,(Array.perm_iff_toList_perm.mp (mirror_perm p i m ((m - i) / 2))).trans h.pm⟩
theorem mL {p:Array Nat} {i m:Nat} (h:PV n p) (hm:m≤n) (a:Dsc lt p m) (b:Blk lt p i m):Dsc lt (kas_rev p i m) m:=by
  intro x y hxy hy
  have hz:m≤p.size:=by rw [h.sz]; exact hm
  rw [iO hz,iO hz]
  by_cases cy:i≤y∧y < m
  · rw [if_pos cy]
    by_cases cx:i≤x∧x < m
    · rw [if_pos cx]
      exact b _ _ (by omega) (by omega) (by omega) (by omega)
    · rw [if_neg cx]
      exact a _ _ (by omega) (by omega)
  · rw [if_neg cy,if_neg (by omega)]
    exact a _ _ hxy hy
theorem eY:∀ (f:Nat) (p:Array Nat) (m q:Nat),PV n p→q + 1≤m→m + f≤n→Dsc lt p m→Blk lt p (m - (q + 1)) m→∃ p' m' q',run lt (kas_desc f p m q) = (p',m',q')∧PV n p'∧m≤m'∧m'≤m + f∧q' + 1≤m'∧Dsc lt p' m'∧Blk lt p' (m' - (q' + 1)) m'
  | 0,p,m,q,h,hq,_,a,b=>⟨p,m,q,rfl,h,Nat.le_refl _,Nat.le_refl _,hq,a,b⟩
  | f + 1,p,m,q,h,hq,hf,a,b=>by
    have e0:run lt (kas_desc (f + 1) p m q) = run lt (if lt (e p m) (e p (m - 1)) = true then (if q > 0 then kas_desc f (kas_rev p (m - (q + 1)) m) (m + 1) 0 else kas_desc f p (m + 1) 0) else (if lt (e p (m - 1)) (e p m) = true then .ret (p,m,q) else kas_desc f p (m + 1) (q + 1))):=by
      show run lt (if lt (p.getD m 0) (p.getD (m - 1) 0) = true then (if q > 0 then kas_desc f (kas_rev p (m - (q + 1)) m) (m + 1) 0 else kas_desc f p (m + 1) 0) else .ask (p.getD (m - 1) 0) (p.getD m 0) fun d=>if d = true then .ret (p,m,q) else kas_desc f p (m + 1) (q + 1)) = _
      rw [bc,bc]
      split <;> rfl
    rw [e0]
    have one:∀ p':Array Nat,PV n p'→Blk lt p' (m + 1 - (0 + 1)) (m + 1):=fun p' h' x y hx1 hx2 hy1 hy2=>by
      have:x = m:=by omega
      have:y = m:=by omega
      subst x y
      cases c:lt (e p' m) (e p' m) with
      | false=>rfl
      | true=>rw [T.asy _ _ (h'.bd n (by omega)) (h'.bd n (by omega)) c] at c; exact absurd c (by decide)
    have hz:m≤p.size:=by rw [h.sz]; omega
    cases c:lt (e p m) (e p (m - 1)) with
    | true =>
      have c':=T.asy _ _ (h.bd n (by omega)) (h.bd n (by omega)) c
      rw [if_pos rfl]
      by_cases hq0:q > 0
      · rw [if_pos hq0]
        have h':=h.rev n (m - (q + 1)) m
        have a':=mL lt n T h (by omega) a b
        have c2:lt (e (kas_rev p (m - (q + 1)) m) (m - 1)) (e (kas_rev p (m - (q + 1)) m) m) = false:=by
          rw [iO hz,iO hz,if_pos ⟨by omega,by omega⟩,if_neg (by omega)]
          have e1:m - (q + 1) + m - 1 - (m - 1) = m - (q + 1):=by omega
          rw [e1]
          exact T.tr _ (e p (m - 1)) _ (h.bd n (by omega)) (h.bd n (by omega)) (h.bd n (by omega)) c' (b _ _ (by omega) (by omega) (by omega) (by omega))
        obtain ⟨p',m',q',r1,r2,r3,r4,r5,r6,r7⟩:=eY f _ (m + 1) 0 h' (by omega) (by omega) (jD lt n T h' (by omega) (by omega) a' c2) (one _ h')
        exact ⟨p',m',q',r1,r2,by omega,by omega,r5,r6,r7⟩
      · rw [if_neg hq0]
        obtain ⟨p',m',q',r1,r2,r3,r4,r5,r6,r7⟩:=eY f p (m + 1) 0 h (by omega) (by omega) (jD lt n T h (by omega) (by omega) a c') (one _ h)
        exact ⟨p',m',q',r1,r2,by omega,by omega,r5,r6,r7⟩
    | false =>
      rw [if_neg (by decide)]
      cases d:lt (e p (m - 1)) (e p m) with
      | true =>
        rw [if_pos rfl]
        exact ⟨p,m,q,rfl,h,Nat.le_refl _,by omega,hq,a,b⟩
      | false =>
        rw [if_neg (by decide)]
        have b':Blk lt p (m + 1 - (q + 1 + 1)) (m + 1):=by
          have em:m + 1 - (q + 1 + 1) = m - (q + 1):=by omega
          rw [em]
          have up:∀ x,m - (q + 1)≤x→x < m→lt (e p x) (e p m) = false∧lt (e p m) (e p x) = false:=fun x h1 h2 =>
            ⟨T.tr _ (e p (m - 1)) _ (h.bd n (by omega)) (h.bd n (by omega)) (h.bd n (by omega)) d (b _ _ h1 h2 (by omega) (by omega)),T.tr _ (e p (m - 1)) _ (h.bd n (by omega)) (h.bd n (by omega)) (h.bd n (by omega)) (b _ _ (by omega) (by omega) h1 h2) c⟩
          intro x y hx1 hx2 hy1 hy2
          by_cases cx:x = m
          · by_cases cy:y = m
            · rw [cx,cy]
              exact one p h m m (by omega) (by omega) (by omega) (by omega)
            · rw [cx]; exact (up y hy1 (by omega)).2
          · by_cases cy:y = m
            · rw [cy]; exact (up x hx1 (by omega)).1
            · exact b x y hx1 (by omega) hy1 (by omega)
        obtain ⟨p',m',q',r1,r2,r3,r4,r5,r6,r7⟩:=eY f p (m + 1) (q + 1) h (by omega) (by omega) (jD lt n T h (by omega) (by omega) a d) b'
        exact ⟨p',m',q',r1,r2,by omega,by omega,r5,r6,r7⟩
omit T in
theorem sY {p:Array Nat} {m:Nat} (h:PV n p) (hm:m≤n) (a:Dsc lt p m):Asc lt (kas_rev p 0 m) m:=by
  intro i j hij hj
  have hz:m≤p.size:=by rw [h.sz]; exact hm
  rw [iO hz,iO hz,if_pos ⟨by omega,by omega⟩,if_pos ⟨by omega,by omega⟩]
  exact a _ _ (by omega) (by omega)
theorem lK {p:Array Nat} {m:Nat} (h:PV n p) (h1:1≤m) (hm:m≤n) (a:Dsc lt p m):∃ m' p',run lt (kas_tail3 m n p) = (m',p')∧PV n p'∧Asc lt p' m'∧1≤m'∧m'≤n:=by
  unfold kas_tail3
  rw [ee]
  have h':=h.rev n 0 m
  obtain ⟨q1,q2,q3,_⟩:=iT lt n T h' (n - m) m h1 (by omega) (sY lt n h hm a)
  exact ⟨_,_,rfl,h',q3,by omega,by omega⟩
theorem kA {p:Array Nat} {m:Nat} (h:PV n p) (h1:1≤m) (hm:m < n) (a:Dsc lt p (m + 1)):∃ m' p',run lt (kas_descPart m n p) = (m',p')∧PV n p'∧Asc lt p' m'∧1≤m'∧m'≤n:=by
  unfold kas_descPart
  rw [ee]
  have one:Blk lt p (m + 1 - (0 + 1)) (m + 1):=fun x y hx1 hx2 hy1 hy2=>by
    have:x = m:=by omega
    have:y = m:=by omega
    subst x y
    cases c:lt (e p m) (e p m) with
    | false=>rfl
    | true=>rw [T.asy _ _ (h.bd n hm) (h.bd n hm) c] at c; exact absurd c (by decide)
  obtain ⟨p',m',q',r1,r2,r3,r4,r5,r6,r7⟩:=eY lt n T (n - (m + 1)) p (m + 1) 0 h (by omega) (by omega) a one
  rw [r1]
  show ∃ m'' p'',run lt (if q' > 0 then kas_tail3 m' n (kas_rev p' (m' - (q' + 1)) m') else kas_tail3 m' n p') = _∧_
  by_cases c:q' > 0
  · rw [if_pos c]
    exact lK lt n T (r2.rev n _ _) (by omega) (by omega) (mL lt n T r2 (by omega) r6 r7)
  · rw [if_neg c]
    exact lK lt n T r2 (by omega) (by omega) r6
theorem lA {p:Array Nat} {m:Nat} (h:PV n p) (q1:1≤m) (hm:m < n) (q3:Asc lt p m) (c3:lt (e p 0) (e p (m - 1)) = false) (cs:lt (e p (m - 1)) (e p m) = false):Dsc lt (kas_rev p 0 m) (m + 1):=by
  have hz:m≤p.size:=by rw [h.sz]; omega
  have le:∀ x y,x≤y→y < m→lt (e p y) (e p x) = false:=fun x y hxy hy=>by
    by_cases z:x = y
    · subst z
      cases c4:lt (e p x) (e p x) with
      | false=>rfl
      | true=>rw [T.asy _ _ (h.bd n (by omega)) (h.bd n (by omega)) c4] at c4; exact absurd c4 (by decide)
    · exact q3 x y (by omega) hy
  have al:∀ x y,x < m→y < m→lt (e p x) (e p y) = false:=fun x y hx hy =>
    T.tr _ (e p 0) _ (h.bd n (by omega)) (h.bd n (by omega)) (h.bd n (by omega)) (T.tr _ (e p (m - 1)) _ (h.bd n (by omega)) (h.bd n (by omega)) (h.bd n (by omega)) (le y (m - 1) (by omega) (by omega)) c3) (le 0 x (by omega) hx)
  intro i j hij hj
  rw [iO hz,iO hz,if_pos ⟨by omega,by omega⟩]
  by_cases cj:j < m
  · rw [if_pos ⟨by omega,cj⟩]
    exact al _ _ (by omega) (by omega)
  · rw [if_neg (by omega)]
    have:j = m:=by omega
    subst this
    exact T.tr _ (e p (j - 1)) _ (h.bd n (by omega)) (h.bd n (by omega)) (h.bd n (by omega)) cs (al _ _ (by omega) (by omega))
theorem km {p:Array Nat} (h:PV n p) (hn:2≤n):∃ m' p',run lt (kas_count n p) = (m',p')∧PV n p'∧Asc lt p' m'∧1≤m'∧m'≤n:=by
  unfold kas_count
  rw [ee]
  have a1:Asc lt p 1:=fun i j hij hj=>by omega
  obtain ⟨q1,q2,q3,q4⟩:=iT lt n T h (n - 1) 1 (Nat.le_refl _) (by omega) a1
  generalize run lt (kas_asc p (n - 1) 1) = m at q1 q2 q3 q4
  by_cases c:m = n
  · have:(m == n) = true:=by simpa using c
    rw [if_pos this]
    exact ⟨m,p,rfl,h,q3,q1,by omega⟩
  · have:¬ (m == n) = true:=by simpa using c
    rw [if_neg this]
    have cs:=T.asy _ _ (h.bd n (by omega)) (h.bd n (by omega)) (q4 (by omega))
    by_cases c2:m > 1
    · rw [if_pos c2]
      show ∃ m' p',run lt (if lt (p.getD 0 0) (p.getD (m - 1) 0) = true then .ret (m,p) else kas_descPart m n (kas_rev p 0 m)) = _∧_
      rw [bc,bc]
      cases c3:lt (e p 0) (e p (m - 1)) with
      | true =>
        rw [if_pos rfl]
        exact ⟨m,p,rfl,h,q3,q1,by omega⟩
      | false =>
        rw [if_neg (by decide)]
        exact kA lt n T (h.rev n 0 m) (by omega) (by omega) (lA lt n T h q1 (by omega) q3 c3 cs)
    · rw [if_neg c2]
      have m1:m = 1:=by omega
      subst m1
      refine kA lt n T h (by omega) (by omega) ?_
      intro i j hij hj
      have:i = 0:=by omega
      have:j = 1:=by omega
      subst i j
      exact cs
theorem ij {p:Array Nat} {k:Nat} (h:PV n p) (hk:k < n) (a:Asc lt p k):∀ (f l r:Nat),l≤r→r≤k→r - l≤f→(∀ i,i < l→lt (e p k) (e p i) = false)→(∀ i,r≤i→i < k→lt (e p i) (e p k) = false) →
    run lt (kas_place p k f l r)≤k∧(∀ i,i < run lt (kas_place p k f l r)→lt (e p k) (e p i) = false)∧(∀ i,run lt (kas_place p k f l r)≤i→i < k→lt (e p i) (e p k) = false)
  | 0,l,r,h1,h2,h3,lo,hi=>⟨by show l≤k; omega,lo,fun i hi1 hi2=>hi i (by have z:l≤i:=hi1; omega) hi2⟩
  | f + 1,l,r,h1,h2,h3,lo,hi=>by
    by_cases c:l ≥ r
    · have e0:run lt (kas_place p k (f + 1) l r) = l:=by
        show run lt (if l ≥ r then .ret l else _) = l
        rw [if_pos c]; rfl
      rw [e0]
      exact ⟨by omega,lo,fun i hi1 hi2=>hi i (by omega) hi2⟩
    · have e0:run lt (kas_place p k (f + 1) l r) = run lt (if lt (e p k) (e p ((l + r) / 2)) = true then kas_place p k f l ((l + r) / 2) else kas_place p k f ((l + r) / 2 + 1) r):=by
        show run lt (if l ≥ r then .ret l else .ask (p.getD k 0) (p.getD ((l + r) / 2) 0) fun c=>if c = true then kas_place p k f l ((l + r) / 2) else kas_place p k f ((l + r) / 2 + 1) r) = _
        rw [if_neg c,bc,bc]
        rfl
      rw [e0]
      have hm1:l≤(l + r) / 2:=by omega
      have hm2:(l + r) / 2 < r:=by omega
      generalize (l + r) / 2 = m at hm1 hm2
      cases cc:lt (e p k) (e p m) with
      | true =>
        have cc':=T.asy _ _ (h.bd n hk) (h.bd n (by omega)) cc
        rw [if_pos rfl]
        refine ij h hk a f l m hm1 (by omega) (by omega) lo fun i hi1 hi2=>?_
        by_cases c3:i = m
        · rw [c3]; exact cc'
        · exact T.tr _ (e p m) _ (h.bd n hk) (h.bd n (by omega)) (h.bd n (by omega)) cc' (a m i (by omega) hi2)
      | false =>
        rw [if_neg (by decide)]
        refine ij h hk a f (m + 1) r (by omega) h2 (by omega) (fun i hi1=>?_) hi
        by_cases c3:i = m
        · rw [c3]; exact cc
        · exact T.tr _ (e p m) _ (h.bd n (by omega)) (h.bd n (by omega)) (h.bd n hk) (a i m (by omega) (by omega)) cc
omit T in
theorem kG {p:Array Nat} {k l i:Nat} (hk:k < p.size) (hl:l≤k):e (bubble p k (k - l)) i = if i = l then e p k else if l < i∧i≤k then e p (i - 1) else e p i:=by
  unfold e
  rw [getElem?_bubble hk (k - l) (by omega)]
  have e1:k - (k - l) = l:=by omega
  rw [e1]
  split
  · rfl
  · split <;> rfl
theorem oX:∀ (f:Nat) (p:Array Nat) (k:Nat),PV n p→k + f≤n→Asc lt p k→∃ p',run lt (kas_bin f p k) = p'∧PV n p'∧Asc lt p' (k + f)
  | 0,p,k,h,_,a=>⟨p,rfl,h,a⟩
  | f + 1,p,k,h,hk,a=>by
    obtain ⟨q1,q2,q3⟩:=ij lt n T h (by omega) a k 0 k (by omega) (Nat.le_refl _) (by omega) (fun i hi=>by omega) (fun i h1 h2=>by omega)
    have e0:run lt (kas_bin (f + 1) p k) = run lt (kas_bin f (bubble p k (k - run lt (kas_place p k k 0 k))) (k + 1)):=by
      show run lt ((kas_place p k k 0 k).bind fun l=>kas_bin f (bubble p k (k - l)) (k + 1)) = _
      rw [ee]
    rw [e0]
    generalize run lt (kas_place p k k 0 k) = l at q1 q2 q3
    have hz:k < p.size:=by rw [h.sz]; omega
    have h':PV n (bubble p k (k - l)):=⟨by rw [bubble_size]; exact h.sz,(Array.perm_iff_toList_perm.mp (bubble_perm p k (k - l))).trans h.pm⟩
    have a':Asc lt (bubble p k (k - l)) (k + 1):=by
      intro i j hij hj
      by_cases c1:i = l
      · have e1:e (bubble p k (k - l)) i = e p k:=by rw [kG hz q1,if_pos c1]
        have e2:e (bubble p k (k - l)) j = e p (j - 1):=by rw [kG hz q1,if_neg (by omega),if_pos ⟨by omega,by omega⟩]
        rw [e1,e2]
        exact q3 (j - 1) (by omega) (by omega)
      · by_cases c2:j = l
        · have e1:e (bubble p k (k - l)) i = e p i:=by rw [kG hz q1,if_neg c1,if_neg (by omega)]
          have e2:e (bubble p k (k - l)) j = e p k:=by rw [kG hz q1,if_pos c2]
          rw [e1,e2]
          exact q2 i (by omega)
        · have e1:e (bubble p k (k - l)) i = if l < i then e p (i - 1) else e p i:=by
            rw [kG hz q1,if_neg c1]
            by_cases c:l < i
            · rw [if_pos ⟨c,by omega⟩,if_pos c]
            · rw [if_neg (fun z=>c z.1),if_neg c]
          have e2:e (bubble p k (k - l)) j = if l < j then e p (j - 1) else e p j:=by
            rw [kG hz q1,if_neg c2]
            by_cases c:l < j
            · rw [if_pos ⟨c,by omega⟩,if_pos c]
            · rw [if_neg (fun z=>c z.1),if_neg c]
          rw [e1,e2]
          split
          · split
            · exact a _ _ (by omega) (by omega)
            · exact a _ _ (by omega) (by omega)
          · split
            · omega
            · exact a _ _ hij (by omega)
    obtain ⟨p',r1,r2,r3⟩:=oX f _ (k + 1) h' (by omega) a'
    exact ⟨p',r1,r2,by rw [show k + (f + 1) = k + 1 + f by omega]; exact r3⟩
theorem run_sort (hn:2≤n):∃ p,run lt (kas_sort n) = p∧PV n p∧Asc lt p n:=by
  unfold kas_sort
  rw [ee]
  have h0:PV n (List.toArray (List.range n)):=⟨by simp,by simp⟩
  obtain ⟨m,p,e1,e2,e3,e4,e5⟩:=km lt n T h0 hn
  rw [e1]
  show ∃ p',run lt (if m < n then kas_bin (n - max m 1) p (max m 1) else .ret p) = p'∧_
  have mm:max m 1 = m:=by omega
  by_cases c:m < n
  · rw [if_pos c,mm]
    obtain ⟨p',r1,r2,r3⟩:=oX lt n T (n - m) p m e2 (by omega) e3
    exact ⟨p',r1,r2,by rw [show m + (n - m) = n by omega] at r3; exact r3⟩
  · rw [if_neg c]
    have:m = n:=by omega
    subst this
    exact ⟨p,rfl,e2,e3⟩
omit T in
def In {α:Type}:KasT α→Prop
  | .ret _=>True
  | .ask i j k=>i < n∧j < n∧i≠j∧In (k (lt i j))
omit T in
theorem fJ {α β:Type} {f:α→KasT β}:∀ {t:KasT α},In lt n t→In lt n (f (run lt t))→In lt n (t.bind f)
  | .ret _,_,h=>h
  | .ask i j k,h,h'=>⟨h.1,h.2.1,h.2.2.1,fJ h.2.2.2 h'⟩
omit T in
theorem ng {p:Array Nat} (h:PV n p):∀ (f m:Nat),1≤m→m + f≤n→In lt n (kas_asc p f m)
  | 0,_,_,_=>trivial
  | f + 1,m,h1,h2=>by
    refine ⟨by rw [bc]; exact h.bd n (by omega),by rw [bc]; exact h.bd n (by omega),by rw [bc,bc]; exact h.ne n (by omega) (by omega) (by omega),?_⟩
    dsimp only
    split
    · exact trivial
    · exact ng h f (m + 1) (by omega) (by omega)
omit T in
theorem jg:∀ (f:Nat) (p:Array Nat) (m q:Nat),PV n p→1≤m→m + f≤n→In lt n (kas_desc f p m q)
  | 0,_,_,_,_,_,_=>trivial
  | f + 1,p,m,q,h,h1,h2=>by
    refine ⟨by rw [bc]; exact h.bd n (by omega),by rw [bc]; exact h.bd n (by omega),by rw [bc,bc]; exact h.ne n (by omega) (by omega) (by omega),?_⟩
    dsimp only
    split
    · split
      · exact jg f _ _ _ (h.rev n _ _) (by omega) (by omega)
      · exact jg f _ _ _ h (by omega) (by omega)
    · refine ⟨by rw [bc]; exact h.bd n (by omega),by rw [bc]; exact h.bd n (by omega),by rw [bc,bc]; exact h.ne n (by omega) (by omega) (by omega),?_⟩
      dsimp only
      split
      · exact trivial
      · exact jg f _ _ _ h (by omega) (by omega)
omit T in
theorem oK {p:Array Nat} {m:Nat} (h:PV n p) (h1:1≤m) (hm:m≤n):In lt n (kas_tail3 m n p):=fJ lt n (ng lt n (h.rev n 0 m) (n - m) m h1 (by omega)) trivial
theorem mE {p:Array Nat} {m:Nat} (h:PV n p) (h1:1≤m) (hm:m < n) (a:Dsc lt p (m + 1)):In lt n (kas_descPart m n p):=by
  have one:Blk lt p (m + 1 - (0 + 1)) (m + 1):=fun x y hx1 hx2 hy1 hy2=>by
    have:x = m:=by omega
    have:y = m:=by omega
    subst x y
    cases c:lt (e p m) (e p m) with
    | false=>rfl
    | true=>rw [T.asy _ _ (h.bd n hm) (h.bd n hm) c] at c; exact absurd c (by decide)
  obtain ⟨p',m',q',r1,r2,r3,r4,r5,r6,r7⟩:=eY lt n T (n - (m + 1)) p (m + 1) 0 h (by omega) (by omega) a one
  refine fJ lt n (jg lt n _ _ _ _ h (by omega) (by omega)) ?_
  rw [r1]
  show In lt n (if q' > 0 then kas_tail3 m' n (kas_rev p' (m' - (q' + 1)) m') else kas_tail3 m' n p')
  split
  · exact oK lt n (r2.rev n _ _) (by omega) (by omega)
  · exact oK lt n r2 (by omega) (by omega)
theorem sC {p:Array Nat} (h:PV n p) (hn:2≤n):In lt n (kas_count n p):=by
  refine fJ lt n (ng lt n h (n - 1) 1 (by omega) (by omega)) ?_
  have a1:Asc lt p 1:=fun i j hij hj=>by omega
  obtain ⟨q1,q2,q3,q4⟩:=iT lt n T h (n - 1) 1 (Nat.le_refl _) (by omega) a1
  generalize run lt (kas_asc p (n - 1) 1) = m at q1 q2 q3 q4
  by_cases c:m = n
  · have:(m == n) = true:=by simpa using c
    rw [if_pos this]
    exact trivial
  · have:¬ (m == n) = true:=by simpa using c
    rw [if_neg this]
    have cs:=T.asy _ _ (h.bd n (by omega)) (h.bd n (by omega)) (q4 (by omega))
    by_cases c2:m > 1
    · rw [if_pos c2]
      refine ⟨by rw [bc]; exact h.bd n (by omega),by rw [bc]; exact h.bd n (by omega),by rw [bc,bc]; exact h.ne n (by omega) (by omega) (by omega),?_⟩
      rw [bc,bc]
      cases c3:lt (e p 0) (e p (m - 1)) with
      | true=>exact trivial
      | false =>
        show In lt n (if false = true then _ else kas_descPart m n (kas_rev p 0 m))
        rw [if_neg (by decide)]
        exact mE lt n T (h.rev n 0 m) (by omega) (by omega) (lA lt n T h q1 (by omega) q3 c3 cs)
    · rw [if_neg c2]
      have m1:m = 1:=by omega
      subst m1
      refine mE lt n T h (by omega) (by omega) ?_
      intro i j hij hj
      have:i = 0:=by omega
      have:j = 1:=by omega
      subst i j
      exact cs
omit T in
theorem jK {p:Array Nat} {k:Nat} (h:PV n p) (hk:k < n):∀ (f l r:Nat),r≤k→In lt n (kas_place p k f l r)
  | 0,_,_,_=>trivial
  | f + 1,l,r,h2=>by
    show In lt n (if l ≥ r then .ret l else .ask (p.getD k 0) (p.getD ((l + r) / 2) 0) fun c=>if c = true then kas_place p k f l ((l + r) / 2) else kas_place p k f ((l + r) / 2 + 1) r)
    split
    · exact trivial
    · refine ⟨by rw [bc]; exact h.bd n hk,by rw [bc]; exact h.bd n (by omega),by rw [bc,bc]; exact h.ne n hk (by omega) (by omega),?_⟩
      dsimp only
      split
      · exact jK h hk f l _ (by omega)
      · exact jK h hk f _ r h2
omit T in
theorem rW:∀ (f:Nat) (p:Array Nat) (k:Nat),PV n p→k + f≤n→In lt n (kas_bin f p k)
  | 0,_,_,_,_=>trivial
  | f + 1,p,k,h,hk=>by
    refine fJ lt n (jK lt n h (by omega) k 0 k (Nat.le_refl _)) ?_
    exact rW f _ (k + 1) ⟨by rw [bubble_size]; exact h.sz,(Array.perm_iff_toList_perm.mp (bubble_perm p k _)).trans h.pm⟩ (by omega)
theorem In_sort (hn:2≤n):In lt n (kas_sort n):=by
  have h0:PV n (List.toArray (List.range n)):=⟨by simp,by simp⟩
  refine fJ lt n (sC lt n T h0 hn) ?_
  obtain ⟨m,p,e1,e2,e3,e4,e5⟩:=km lt n T h0 hn
  rw [e1]
  show In lt n (if m < n then kas_bin (n - max m 1) p (max m 1) else .ret p)
  split
  · exact rW lt n _ _ _ e2 (by omega)
  · exact trivial
omit T in
theorem wp_run {α:Type} {cmp:Nat→Nat→(Bool→Shared→Prop)→Shared→Prop} {s:Shared} (hc:∀ i j,i < n→j < n→i≠j→∀ C,C (lt i j) s→cmp i j C s) {Q:α→Shared→Prop}:∀ t:KasT α,In lt n t→Q (run lt t) s→t.kasWp cmp Q s
  | .ret _,_,h=>h
  | .ask i j k,hi,h=>hc i j hi.1 hi.2.1 hi.2.2.1 _ (wp_run hc (k (lt i j)) hi.2.2.2 h)
end WSrt
namespace L2
open PySem PySem.Spec PyProof.Rows PySem.W
section
variable {prog:Program} {w:World} {A:Around} {E:Value→Shared→Prop} {s:Shared}
end
section
variable {X:Cx}
end
end L2
namespace L2
open PySem PySem.Spec PyProof.Rows PySem.W
theorem Inv.adopt {X:Cx} {pins:List (Addr×Obj)} {σ:St} {H:Hp} {s:Shared} {a:Addr} {o:HO} (I:Inv X pins σ H s) (hn:H a = none) (hL:a≠X.env.locals) (h1:X.s₀.heap.objs.size≤a) (h2:∀ x c,X.env.cells.lookup x = some c→c≠a) (h3:∀ p ∈ X.pn ++ pins,p.1≠a) (new:ObjOk X.prog X.w (upd H a o) s.heap a o):Inv X pins σ (upd H a o) s:=by
  have sm:Same H (upd H a o):=Same.new hn
  refine ⟨I.ok,I.os,I.bare,⟨I.base.keep,I.base.slot,fun b u e n hx=>?_,I.base.there,fun b xs e=>sm _ _ (I.base.tups b xs e),fun b u v e=>sm _ _ (I.base.frzs b u v e),fun b ps e=>?_⟩,I.loc,I.cell,?_,fun x c e=>?_,fun p hp=>?_,fun b u e=>?_,I.len⟩
  · rw [ao (Nat.ne_of_lt (Nat.lt_of_lt_of_le (Heap.lt_size e) h1))]; exact I.base.free b u e n hx
  · obtain ⟨more,z⟩:=I.base.tbls b ps e; exact ⟨more,sm _ _ z⟩
  · rw [ao (Ne.symm hL)]; exact I.free
  · rw [ao (h2 x c e)]; exact I.freeC x c e
  · obtain ⟨g1,g2,g3⟩:=I.pin p hp; exact ⟨g1,by rw [ao (h3 p hp)]; exact g2,g3⟩
  · by_cases hb:b = a
    · subst hb; rw [ac] at e; cases e; exact new
    · rw [ao hb] at e
      exact (I.hok b u e).stay (fun _ _ _ q=>q) (fun _ q=>sm _ _ q) fun _ _ q=>sm _ _ q
def ord (lt:Nat→Nat→Bool) (n:Nat):List Nat:=if 2≤n then (WSrt.run lt (kas_sort n)).toList else List.range n
theorem jF {lt:Nat→Nat→Bool} {n:Nat} (T:WSrt.Wk lt n):(ord lt n).Perm (List.range n):=by
  unfold ord
  split
  · rename_i h
    obtain ⟨p,e,h1,h2⟩:=WSrt.run_sort lt n T h
    rw [e]; exact h1.pm
  · exact .refl _
theorem sW {lt:Nat→Nat→Bool} {n:Nat} (T:WSrt.Wk lt n):(ord lt n).Pairwise fun i j=>lt j i = false:=by
  unfold ord
  split
  · rename_i h
    obtain ⟨p,e,h1,h2⟩:=WSrt.run_sort lt n T h
    rw [e,List.pairwise_iff_getElem]
    intro i j hi hj hij
    have hj':j < n:=by rw [Array.length_toList,h1.sz] at hj; exact hj
    have e1:=(List.getElem?_eq_some_iff.mp (WSrt.e_list (p:=p) (i:=i) (by rw [h1.sz]; omega))).2
    have e2:=(List.getElem?_eq_some_iff.mp (WSrt.e_list (p:=p) (i:=j) (by rw [h1.sz]; omega))).2
    rw [e1,e2]
    exact h2 i j hij hj'
  · match n with
    | 0=>exact List.Pairwise.nil
    | 1=>exact List.pairwise_singleton _ _
    | n + 2=>exact absurd (show 2≤n + 2 by omega) (by assumption)
def fZ (H H':Hp):Prop:=∀ b xs,H b = some (.tup xs)→H' b = some (.tup xs)
theorem Same.tu {H H':Hp} (s:Same H H'):fZ H H':=fun b xs e=>s _ _ e
structure KeyO (KO:Nat→V→Hp→Prop):Prop where
  mono:∀ i v H H',fZ H H'→KO i v H→KO i v H'
section
variable {X:Cx} {pins:List (Addr×Obj)} {σ:St} {H:Hp} {s:Shared} {κ:SortKind} {lt:Nat→Nat→Bool} {KO:Nat→V→Hp→Prop} {xs:List V} {q:Addr}
def vL (X:Cx) (σ:St) (H:Hp) (KO:Nat→V→Hp→Prop) (xs:List V) (q:Addr):Prop:=∀ i x u pins' H' s',xs[i]? = some x→RelV x u→Inv X pins' σ H' s'→Same H H' →
  wpAny (model X.prog X.w) X.A.in1.in1 (call (.ref q) [u]) (EP X pins' σ (fun v H''=>Same H' H''∧KO i v H'')) (fun _ _=>False) s'
def qO (X:Cx) (KO:Nat→V→Hp→Prop) (n:Nat) (κ:SortKind):Prop:=∀ pins σ H s kv ks,Inv X pins σ H s→Vals kv ks→kv.length = n→2≤n→(∀ i v,kv[i]? = some v→KO i v H)→∀ R:SortKind→Shared→Prop,R κ s→wpAny (model X.prog X.w) X.A.in1.in1 (keyKind' ks.toArray) R (fun _ _=>False) s
def vY (X:Cx) (KO:Nat→V→Hp→Prop) (n:Nat) (κ:SortKind) (lt:Nat→Nat→Bool):Prop:=∀ pins σ H s kv ks,Inv X pins σ H s→Vals kv ks→kv.length = n→(∀ i v,kv[i]? = some v→KO i v H)→∀ i j,i < n→j < n→i≠j→∀ C:Bool→Shared→Prop,C (lt i j) s→kas_ask X.prog X.w X.A.in1.in1 κ ks i j C s
theorem pJ {xs:List V} {vs:List Value} (h:Vals xs vs) (p:List Nat) (hp:∀ i ∈ p,i < xs.length):Vals (p.map fun i=>xs.getD i .non) (p.map fun i=>vs.getD i Value.none):=by
  induction p with
  | nil=>exact .nil
  | cons i p ih =>
    rw [List.map_cons,List.map_cons]
    refine .cons ?_ (ih fun j hj=>hp j (List.mem_cons_of_mem _ hj))
    have hi:=hp i (List.mem_cons_self ..)
    obtain ⟨u,hu,r⟩:=h.get (List.getElem?_eq_getElem hi)
    rw [List.getD,List.getD,List.getElem?_eq_getElem hi,hu]
    exact r
theorem pO {a:Addr} {vs:List Value} {m:Nat} {P:PySem.Fin→Shared→Prop} {E:Value→Shared→Prop} (I:Inv X pins σ H s) (ho:s.heap.get? a = some (seqObj "list" vs.toArray m)) (fa:fE X pins H a) (ha:X.s₀.heap.objs.size≤a) (hv:Vals xs vs) (h64:xs.length < 64)
    (T:WSrt.Wk lt xs.length) (ko:KeyO KO) (bG:vL X σ H KO xs q) (kind:qO X KO xs.length κ) (ask:vY X KO xs.length κ lt)
    (fin:∀ H' s',Same H H'→H' a = none→Inv X pins σ (upd H' a (.lst ((ord lt xs.length).map fun i=>xs.getD i .non))) s'→P (.done (.ret .none)) s') :
    wpAny (model X.prog X.w) X.A.in1.in1 (ksk_tree a (.ref q) false) P E s:=by
  have hlen:vs.length = xs.length:=hv.length.symm
  obtain ⟨fa1,fa2,fa3,fa4,fa5,fa6⟩:=fa
  have sl:sizeLine = 16777216:=sizeLine_eq
  have s1:=Heap.SameBut.update s.heap a (Obj.mapSeq fun _=>(#[]:Array Value))
  obtain ⟨e1,ho1⟩:∃ e1,(s.heap.update a (Obj.mapSeq fun _=>(#[]:Array Value))).get? a = some (seqObj "list" #[] e1):=⟨_,get?_update_seq ho fun _=>#[]⟩
  have I1:Inv X pins σ H { s with heap:=s.heap.update a (Obj.mapSeq fun _=>(#[]:Array Value)) }:=I.turned (t':=s.toks) (it:=a) (fun b o hb e=>(s1.2 b hb).trans e) fa1 fa2 fa4 fa5 fa6
  have I2:Inv X pins σ H { s with heap:=(s.heap.update a (Obj.mapSeq fun _=>(#[]:Array Value))).push (seqObj "tuple" vs.toArray 0) }:=I1.kept (t':=s.toks) (fun b u e=>Heap.get?_push_of_some _ e)
  obtain ⟨h2,hh2⟩:∃ h2,h2 = (s.heap.update a (Obj.mapSeq fun _=>(#[]:Array Value))).push (seqObj "tuple" vs.toArray 0):=⟨_,rfl⟩
  rw [← hh2] at I2
  have ho2:h2.get? a = some (seqObj "list" #[] e1):=by rw [hh2]; exact Heap.get?_push_of_some _ ho1
  obtain ⟨kS,hkS⟩:∃ kS,kS = h2.objs.size:=⟨_,rfl⟩
  have hk0:H kS = none:=by rw [hkS]; exact I2.fresh
  have ak:a≠kS:=by rw [hkS]; exact Nat.ne_of_lt (Heap.lt_size ho2)
  have I3:Inv X (pins ++ [(a,seqObj "list" #[] e1)]) σ (upd H kS (.lst [])) { s with heap:=h2.push (seqObj "list" #[] 0) }:=by
    have z:=I2.lnew (t':=s.toks) (its:=[]) (ys:=[]) .nil (Nat.zero_le _)
    rw [← show kS = h2.objs.size from hkS] at z
    refine z.pins_of fun p hp=>?_
    rcases List.mem_append.mp hp with hp | hp
    · exact z.pin p (List.mem_append_right _ hp)
    · rw [List.mem_singleton.mp hp]
      exact ⟨Heap.get?_push_of_some _ ho2,by rw [ao ak]; exact fa1,fa2,fa3,fun v z=>nomatch z⟩
  unfold ksk_tree
  refine wpAny_bind (listItems_at ho rfl ?_)
  refine wpAny_bind (listUpdate_at ho rfl ?_ (by rw [List.size_toArray]; omega) (Nat.zero_le _))
  refine wpAny_bind (seqEpoch_at ho1 rfl ?_)
  refine wpAny_bind (wpAny_newTuple ?_ (by show vs.length≤_; omega))
  refine wpAny_bind (wpAny_newList ?_ (Nat.zero_le _))
  refine wpAny_holding ?_
  show wpAny (model X.prog X.w) X.A.in1.in1 (ksk_rest a (.ref q) false vs.toArray e1 (.ref ((s.heap.update a (Obj.mapSeq fun _=>(#[]:Array Value))).push (seqObj "tuple" vs.toArray 0)).objs.size)) P E { s with heap:=((s.heap.update a (Obj.mapSeq fun _=>(#[]:Array Value))).push (seqObj "tuple" vs.toArray 0)).push (seqObj "list" #[] 0) }
  rw [← hh2,← hkS]
  unfold ksk_rest
  refine wpAny_bind (wpAny_rule ?_)
  first
    | rw [List.forIn_toArray]
    | (rw [← Array.forIn_toList]; simp only [List.toList_toArray])
    | rw [← Array.forIn_toList]
  refine wpAny_bind (ksk_fold (fun i s'=>∃ H' kv,Inv X (pins ++ [(a,seqObj "list" #[] e1)]) σ H' s'∧Same H H'∧H' kS = some (.lst kv)∧kv.length = i∧∀ j v,kv[j]? = some v→KO j v H') vs 0 _
    ⟨_,[],I3,Same.new hk0,ac,rfl,fun j v e=>by cases e⟩ ?step ?done)
  case step =>
    rintro j u s' hx ⟨H',kv,J,sm,hk,hl,hKO⟩
    simp only [Nat.zero_add] at hl ⊢
    have hj:j < vs.length:=(List.getElem?_eq_some_iff.mp hx).1
    obtain ⟨x,hxx⟩:∃ x,xs[j]? = some x:=⟨_,List.getElem?_eq_getElem (by omega)⟩
    obtain ⟨u',hu',rx⟩:=hv.get hxx
    rw [hx] at hu'
    cases hu'
    refine wpAny_bind (wpAny_attempt (wpAny_mono (bG j x u _ H' s' hxx rx J sm) (fun u2 s2 he=>?_) fun _ _ hF=>hF.elim))
    obtain ⟨v,H2,J2,rv,sm2,kv2⟩:=he
    try dsimp only
    have hk2:=sm2 _ _ hk
    obtain ⟨_,its,n,rits,lits,gits⟩:=J2.lstM hk2
    have J3:=J2.lset (t':=s2.toks) (its':=its ++ [u2]) (ys:=kv ++ [v]) (f:=(·.push u2)) hk2 gits (by simp) (rits.append (.cons rv .nil)) (by rw [List.length_append]; show kv.length + 1≤_; omega)
    refine wpAny_bind (listUpdate_at gits rfl ?_ (by rw [List.size_toArray]; omega) (Nat.le_trans (Nat.le_of_eq (Array.size_push ..)) (by rw [List.size_toArray]; omega)))
    refine wpAny_pure ⟨rfl,_,_,J3,(sm.trans sm2).put hk0,ac,by rw [List.length_append,hl]; rfl,fun i w hw=>?_⟩
    have tu:fZ H2 (upd H2 kS (.lst (kv ++ [v]))):=fun b ys e=>by rw [ao (fun z=>by rw [z,hk2] at e; cases e)]; exact e
    by_cases hi:i < kv.length
    · rw [List.getElem?_append_left hi] at hw
      exact ko.mono _ _ _ _ tu (ko.mono _ _ _ _ sm2.tu (hKO i w hw))
    · rw [List.getElem?_append_right (by omega)] at hw
      have:i = j:=by
        have:=(List.getElem?_eq_some_iff.mp hw).1
        simp at this
        omega
      subst this
      rw [hl,Nat.sub_self] at hw
      cases hw
      exact ko.mono _ _ _ _ tu kv2
  case done =>
    rintro s' ⟨H',kv,J,sm,hk,hl,hKO⟩
    rw [Nat.zero_add] at hl
    obtain ⟨_,its,n,rits,lits,gits⟩:=J.lstM hk
    try dsimp only
    refine wpAny_bind (listItems_at gits rfl ?_)
    have hil:its.length = vs.length:=by omega
    have tail:∀ st:SortSt,(arrOf st).map (·.2) = List.toArray ((ord lt xs.length).map fun i=>vs.getD i Value.none)→failedOf st = none→wpAny (model X.prog X.w) X.A.in1.in1 (ksk_tail a false e1 (.ref kS) st) P E s':=by
      intro st hst hf
      unfold ksk_tail
      rw [hst,hf]
      try dsimp only
      have om:=jF T
      have osz:(ord lt xs.length).length = xs.length:=by rw [om.length_eq,List.length_range]
      have J3:=J.lset (t':=s'.toks) (its':=[]) (ys:=[]) (f:=fun _=>#[]) hk gits rfl .nil (Nat.zero_le _)
      refine wpAny_bind (listUpdate_at gits rfl ?_ (by rw [List.size_toArray]; omega) (Nat.zero_le _))
      refine wpAny_bind (wpAny_letGo ?_)
      have pa:=(J3.pin (a,seqObj "list" #[] e1) (List.mem_append_right _ (List.mem_append_right _ (List.mem_singleton.mpr rfl)))).1
      refine wpAny_bind (seqEpoch_at pa rfl ?_)
      have vout:Vals ((ord lt xs.length).map fun i=>xs.getD i .non) ((ord lt xs.length).map fun i=>vs.getD i Value.none):=pJ hv _ fun i hi=>List.mem_range.mp (om.mem_iff.mp hi)
      refine wpAny_bind (listUpdate_at pa rfl ?_ (Nat.zero_le _) (by simp only [Bool.false_eq_true,if_false]; rw [List.size_toArray,List.length_map]; omega))
      simp only [bne_self_eq_false,Bool.false_eq_true,if_false]
      refine wpAny_pure ?_
      have J4:=J3.unpinned
      have s2:=Heap.SameBut.update (s'.heap.update kS (Obj.mapSeq fun _=>(#[]:Array Value))) a (Obj.mapSeq fun _=>List.toArray ((ord lt xs.length).map fun i=>vs.getD i Value.none))
      have hn:(upd H' kS (.lst [])) a = none:=(J3.pin (a,seqObj "list" #[] e1) (List.mem_append_right _ (List.mem_append_right _ (List.mem_singleton.mpr rfl)))).2.1
      have J5:=J4.turned (t':=s'.toks) (it:=a) (fun b o hb e=>(s2.2 b hb).trans e) hn fa2 fa4 fa5 fa6
      obtain ⟨c2,hc2⟩:∃ c2,((s'.heap.update kS (Obj.mapSeq fun _=>(#[]:Array Value))).update a (Obj.mapSeq fun _=>List.toArray ((ord lt xs.length).map fun i=>vs.getD i Value.none))).get? a = some (seqObj "list" (List.toArray ((ord lt xs.length).map fun i=>vs.getD i Value.none)) c2) :=
        ⟨_,get?_update_seq pa fun _=>List.toArray ((ord lt xs.length).map fun i=>vs.getD i Value.none)⟩
      refine fin _ _ (sm.put hk0) hn (J5.adopt hn fa2 ha fa5 fa6 ⟨?_,_,c2,vout,hc2⟩)
      rw [List.length_map]; omega
    unfold ksk_end
    try dsimp only
    simp only [Bool.false_eq_true,if_false]
    by_cases h2:vs.toArray.size < 2
    · rw [if_pos h2,if_pos h2]
      refine wpAny_bind (wpAny_pure ?_)
      rw [StateT.run_pure]
      refine wpAny_bind (wpAny_pure ?_)
      try dsimp only
      refine tail _ ?_ rfl
      rw [List.size_toArray] at h2
      have est:=kas_range (its.toArray.zip vs.toArray)
      rw [show (its.toArray.zip vs.toArray).size = vs.length by simp [hil]] at est
      have har:arrOf (SortSt.mk' general' (its.toArray.zip vs.toArray) #[] 7 none) = (List.toArray (List.range vs.length)).map (kas_item (its.toArray.zip vs.toArray)):=est.symm
      rw [kat_snds hil har]
      unfold ord
      rw [if_neg (by omega),hlen]
    · rw [if_neg h2,if_neg h2]
      rw [List.size_toArray] at h2
      have h2':2≤xs.length:=by omega
      refine wpAny_bind (wpAny_mono (kind _ _ _ _ _ _ J rits (by omega) h2' hKO (fun κ' s''=>κ' = κ∧s'' = s') ⟨rfl,rfl⟩) (fun κ' s'' hs=>?_) fun _ _ z=>z.elim)
      obtain ⟨rfl,rfl⟩:=hs
      obtain ⟨p,hp1,hp2,hp3⟩:=WSrt.run_sort lt xs.length T h2'
      refine wpAny_bind (wpAny_mono (kat_run (ks:=its) (vs:=vs) (Q:=fun st' s3=>s3 = s''∧arrOf st' = p.map (kas_item (its.toArray.zip vs.toArray))∧failedOf st' = none) (G:=fun p' s3=>p' = p∧s3 = s'')
        hil (by omega) (by omega) (fun p' st' s3 z1 z2 z3 z4=>⟨z4.2,by rw [z2,z4.1],z3⟩) ?_) ?_ fun _ _ z=>z)
      · rw [hlen]
        exact WSrt.wp_run lt xs.length (fun i j hi hj hn C hC=>ask _ _ _ _ _ _ J rits (by omega) hKO i j hi hj hn C hC) _ (WSrt.In_sort lt xs.length T h2') ⟨hp1,rfl⟩
      rintro ⟨⟨⟩,st'⟩ s3 ⟨rfl,har,hf⟩
      dsimp only
      refine tail st' ?_ hf
      rw [kat_snds hil har]
      unfold ord
      rw [if_pos h2',hp1]
theorem m4 {l:Addr} {Q:VK} {E:Value→Shared→Prop} (I:Inv X pins σ H s) (hl:SqL X.K H l xs) (h64:xs.length < 64)
    (T:WSrt.Wk lt xs.length) (ko:KeyO KO) (bG:vL X σ H KO xs q) (kind:qO X KO xs.length κ) (ask:vY X KO xs.length κ lt)
    (fin:∀ D H',Same H H'→H D = none→H' D = none→Q (.ref D) (upd H' D (.lst ((ord lt xs.length).map fun i=>xs.getD i .non)))) :
    wpAny (model X.prog X.w) X.A (call (.builtin "sorted") [.ref l] [(Str.ofString "key",.ref q)]) (EP X pins σ Q) E s:=by
  obtain ⟨vs,rv,pl,hz⟩:=I.list hl
  have hlen:vs.length = xs.length:=rv.length.symm
  have sl:sizeLine = 16777216:=sizeLine_eq
  refine call_function_entry_kw kind_sorted plain_sorted entry_sorted (ksk_s1 _ _) ?_
  unfold Builtin.«sorted»
  refine wpAny_bind (m:=checkCount "sorted" 1 1 _) (wpAny_pure ?_)
  refine wpAny_bind (collect_list pl.isList ?_ (by omega))
  refine wpAny_bind (wpAny_newList ?_ (by show vs.length≤_; omega))
  have hsz:((s.heap.push (seqObj "list" #[] 0)).update s.heap.objs.size (Obj.mapSeq (· ++ vs.toArray))).objs.size = s.heap.objs.size + 1:=by
    rw [Heap.size_update,size_push']
  have hoL:(((s.heap.push (seqObj "list" #[] 0)).update s.heap.objs.size (Obj.mapSeq (· ++ vs.toArray))).push (seqObj "list" vs.toArray 0)).get? (s.heap.objs.size + 1) = some (seqObj "list" vs.toArray 0):=by
    rw [← hsz]; exact Heap.get?_push_size _ rfl
  have keep:∀ b o,s.heap.get? b = some o→(((s.heap.push (seqObj "list" #[] 0)).update s.heap.objs.size (Obj.mapSeq (· ++ vs.toArray))).push (seqObj "list" vs.toArray 0)).get? b = some o:=fun b o z=>by
    have hb:b < s.heap.objs.size:=Heap.lt_size z
    refine Heap.get?_push_of_some _ ?_
    rw [Heap.get?_update_ne _ _ _ _ (Nat.ne_of_lt hb)]
    exact Heap.get?_push_of_some _ z
  have hn:H (s.heap.objs.size + 1) = none:=I.hok.fresh (Nat.le_succ _)
  have fa:fE X pins H (s.heap.objs.size + 1):=I.fpOk (Nat.le_succ _) hn
  have I1:Inv X pins σ H { s with heap:=((s.heap.push (seqObj "list" #[] 0)).update s.heap.objs.size (Obj.mapSeq (· ++ vs.toArray))).push (seqObj "list" vs.toArray 0) }:=I.kept (t':=s.toks) keep
  show wpAny _ _ _ _ _ { s with heap:=((s.heap.push (seqObj "list" #[] 0)).update s.heap.objs.size (Obj.mapSeq (· ++ vs.toArray))).push (seqObj "list" vs.toArray 0) }
  rw [hsz]
  refine wpAny_bind (wpAny_holding (wpAny_call_entry_kw slot_list_sort ⟨_,hoL,rfl⟩ entry_list_sort ?body (ksk_l1 _ _)))
  case body =>
    rw [ksk_t1]
    refine pO I1 hoL fa (Nat.le_trans I.sz (Nat.le_succ _)) rv h64 T ko bG kind ask fun H' s' sm ha J=>⟨_,rfl,?_⟩
    exact wpAny_pure ⟨_,rfl,.ref (s.heap.objs.size + 1),_,J,rfl,fin _ _ sm hn ha⟩
end
end L2
namespace L2
open PySem PySem.Spec PyProof.Rows PySem.W
abbrev CellsU (H:Hp) (h:Heap):List (Str×Addr)→List V→Prop:=Paired fun (p:Str×Addr) (v:V)=>H p.2 = none∧bW p.2 v h
theorem CellsU.mem {H:Hp} {h:Heap}:∀ {clos:List (Str×Addr)} {vals:List V},CellsU H h clos vals→∀ p ∈ clos,∃ v,H p.2 = none∧bW p.2 v h
  | _,_,.nil,p,z=>by cases z
  | _,_,.cons r t,p,z=>by
    rcases List.mem_cons.mp z with rfl | z
    · exact ⟨_,r⟩
    · exact CellsU.mem t p z
theorem CellsU.get {H:Hp} {h:Heap}:∀ {clos:List (Str×Addr)} {vals:List V} {i:Nat} {v:V},CellsU H h clos vals→vals[i]? = some v→∃ p,clos[i]? = some p∧H p.2 = none∧bW p.2 v h
  | _,_,_,_,.nil,h=>by cases h
  | _,_,0,_,.cons r t,h=>by cases h; exact ⟨_,rfl,r⟩
  | _,_,i + 1,_,.cons r t,h=>CellsU.get (i:=i) t h
def cxU (P:Program) (w:World) (K:PySem.W.Frag) (mg:Str→Option Value) (base:Heap) (N:List Str) (d:LamD) (clos:List (Str×Addr)) (f c:Addr) (A:Around) (outer:List Env) (s:Shared) (H:Hp):Cx where
  prog:=P
  w:=w
  K:=K
  mg:=mg
  base:=base
  A:=A.deeper (dX d s.heap.objs.size f c clos)
  N:=N
  s₀:=s
  H₀:=H
  env:=dX d s.heap.objs.size f c clos
  outer:=outer
  stack:=dX d s.heap.objs.size f c clos :: outer
  ex:=[]
  calm:=true
  fn:=fun _=>false
  pn:=[]
  xe:=fun _ _=>False
def qM (P:Program) (w:World) (K:PySem.W.Frag) (mg:Str→Option Value) (base:Heap) (k:Nat) (d:LamD) (fv ps:List Str) (sp:List V→Sp):Prop :=
  ∀ (A:Around) (outer:List Env) (s:Shared) (H:Hp) (f c:Addr) (clos:List (Str×Addr)) (us:List Value) (vs vals:List V) (Q:VK) (E:XK),Room k A→Env0 P w K mg base A outer s H→H f = some (.ext (fq f d clos c))→H c = some (.ext (dP c d.qual)) →
    clos.map (·.1) = fv→(clos.map (·.2)).Nodup→CellsU H s.heap clos vals→Vals vs us→sp vals vs H Q E→codeAny (model P w) A (.call (.ref f) ⟨us,[]⟩) (CR CX0 outer P w H s Q E) s
theorem nI {P:Program} {w:World} {K:PySem.W.Frag} {mg:Str→Option Value} {base:Heap} {d:LamD} {fv ps:List Str} {clos:List (Str×Addr)} {f c:Addr} {A:Around} {outer:List Env} {s:Shared} {H:Hp} {us:List Value} {vs vals:List V} {h1:Heap} {tk:Nat}
    (S:LamScope d fv ps) (hd:A.handled = none) (e0:Env0 P w K mg base A outer s H) (hl:vs.length = ps.length) (r:Vals vs us) (hfv:clos.map (·.1) = fv) (hnd:(clos.map (·.2)).Nodup) (ca:CellsU H s.heap clos vals)
    (hns:h1.Ns s.heap.objs.size (fun x=>(ps.zip us).reverse.lookup x)) (hk:∀ b o,s.heap.get? b = some o→h1.get? b = some o) :
    Inv (cxU P w K mg base (ps ++ fv) d clos f c A outer s H) [] ((vs ++ vals).map some) H { s with heap:=h1,toks:=tk }:=by
  have ndf:(clos.map (·.1)).Nodup:=by rw [hfv]; exact (List.nodup_append.mp S.nd).2.1
  have ndp:ps.Nodup:=(List.nodup_append.mp S.nd).1
  have lus:us.length = ps.length:=by rw [← r.length]; exact hl
  have hin:∀ x c',clos.lookup x = some c'→∃ v,H c' = none∧bW c' v s.heap:=fun x c' e=>ca.mem _ (bb e)
  have cellOf:∀ b v,bW b v s.heap→∃ u,RelV v u∧h1.IsCell b (some u):=fun b v e=>by
    obtain ⟨o,u,g1,g2,g3⟩:=e
    exact ⟨u,g3,o,hk _ _ g1,g2⟩
  have noA:∀ b:Addr,b ∉ (cxU P w K mg base (ps ++ fv) d clos f c A outer s H).ex:=fun b z=>absurd (show b ∈ ([]:List Addr) from z) (by simp)
  have lcl:clos.length = fv.length:=by rw [← hfv,List.length_map]
  have lva:vals.length = clos.length:=(Paired.length ca).symm
  refine ⟨⟨e0.mod,S.kind,rfl,rfl,Nat.le_refl _,fun y z c' h1 h2=>?_,fun y hy=>?_,fun y c' h=>(Bool.false_ne_true h).elim,fun _=>hd,Around.frames_deeper e0.frames,.inr ⟨rfl,rfl⟩,fun b z=>absurd z (noA b),fun b o e=>⟨(e0.bs b o e).1,(e0.bs b o e).2⟩,e0.bsz,fun b _ _=>noA b,fun b z=>absurd z (noA b),e0.funs,fun b hb=>e0.frf b hb⟩,
    rfl,e0.bare,Un.kept hk,⟨_,hns,fun i y v g1 g2 g3=>?_⟩,fun y c' h=>?_,e0.hok.fresh (Nat.le_refl _),fun y c' h=>?_,fun p hp=>absurd (show p ∈ ([]:List (Addr×Obj)) from hp) (by simp),e0.hok.kept hk,?_⟩
  · have h1:clos.lookup y = some c':=h1
    have h2:clos.lookup z = some c':=h2
    have e1:=bb h1
    have e2:=bb h2
    have nd2:((clos.map fun p=>(p.2,p.1)).map (·.1)).Nodup:=by rw [List.map_map]; exact hnd
    have:=je nd2 (c',y) (List.mem_map.mpr ⟨_,e1,rfl⟩) (c',z) (List.mem_map.mpr ⟨_,e2,rfl⟩) rfl
    exact congrArg Prod.snd this
  · have hy:d.scope.names.lookup y = some .cell∨d.scope.names.lookup y = some .free:=hy
    rcases hy with hy | hy
    · exact absurd rfl (S.nocell _ (bb hy))
    · have:=S.free _ (bb hy) rfl
      rw [← hfv] at this
      obtain ⟨p,hp,e⟩:=List.mem_map.mp this
      have e':p.1 = y:=e
      exact ⟨p.2,bM ndf (by show (y,p.2) ∈ clos; rw [← e']; exact hp)⟩
  · have g1:(ps ++ fv)[i]? = some y:=g1
    by_cases hi:i < ps.length
    · rw [List.getElem?_append_left hi] at g1
      rw [List.getElem?_map,List.getElem?_append_left (by omega)] at g2
      have g2':vs[i]? = some v:=by
        cases q:vs[i]? with
        | none=>rw [q] at g2; cases g2
        | some x=>rw [q] at g2; cases g2; rfl
      obtain ⟨u,hu,rv⟩:=r.get g2'
      refine ⟨u,rv,.inl ⟨S.par y (List.mem_of_getElem? g1),?_⟩⟩
      have mem:(y,u) ∈ ps.zip us:=List.mem_of_getElem? (i:=i) (by rw [List.getElem?_zip_eq_some]; exact ⟨g1,hu⟩)
      refine bM ?_ (List.mem_reverse.mpr mem)
      rw [List.map_reverse]
      refine j6 ?_
      have:(ps.zip us).map (·.1) = ps:=by rw [List.map_fst_zip]; omega
      rw [this]
      exact ndp
    · rw [List.getElem?_append_right (by omega)] at g1
      rw [List.getElem?_map,List.getElem?_append_right (by omega)] at g2
      have g2':vals[i - ps.length]? = some v:=by
        rw [hl] at g2
        cases q:vals[i - ps.length]? with
        | none=>rw [q] at g2; cases g2
        | some x=>rw [q] at g2; cases g2; rfl
      obtain ⟨p,hp,_,e⟩:=ca.get g2'
      rw [← hfv,List.getElem?_map,hp] at g1
      cases g1
      obtain ⟨u,rv,ic⟩:=cellOf _ _ e
      have hmem:=List.mem_of_getElem? hp
      refine ⟨u,rv,.inr ⟨.inr (S.fr p.1 ?_),p.2,bM ndf hmem,ic⟩⟩
      rw [← hfv]
      exact List.mem_map.mpr ⟨p,hmem,rfl⟩
  · obtain ⟨v,_,e⟩:=hin y c' h
    obtain ⟨u,_,ic⟩:=cellOf _ _ e
    exact ⟨_,ic⟩
  · obtain ⟨v,e,_⟩:=hin y c' h
    exact e
  · show ((vs ++ vals).map some).length = (ps ++ fv).length
    rw [List.length_map,List.length_append,List.length_append]
    omega
section
variable {P:Program} {w:World} {K:PySem.W.Frag} {mg:Str→Option Value} {base:Heap}
theorem vt {d:LamD} {fv ps:List Str} {k:Nat} {sp:List V→Sp} (S:LamScope d fv ps)
    (hbind:∀ (pm ctv:Value) (clos:List (Str×Addr)) (c:Addr) (us:List Value),us.length = ps.length→bindArgs (PySem.W.kla_fn "<lambda>" d.qual d.params d.body d.scope clos pm (.ref c) ctv) ⟨us,[]⟩ = pure (ps.zip us))
    (len:∀ vals vs H Q E,sp vals vs H Q E→vs.length = ps.length)
    (hbody:∀ (A:Around) (outer:List Env) (s:Shared) (H:Hp) (f c:Addr) (clos:List (Str×Addr)) (vals vs:List V) (Q:VK) (E:XK),Room k (A.deeper (dX d s.heap.objs.size f c clos))→clos.map (·.1) = fv→sp vals vs H Q E →
      ∃ t,PE (cxU P w K mg base (ps ++ fv) d clos f c A outer s H) d.body t∧t ((vs ++ vals).map some) H Q) :
    qM P w K mg base (k + 1) d fv ps sp:=by
  intro A outer s H f c clos us vs vals Q E hr e0 hf hc hfv hnd ca r hsp
  have hl:=len _ _ _ _ _ hsp
  have lus:us.length = ps.length:=by rw [← r.length]; exact hl
  obtain ⟨⟨pm,ctv,ef⟩,_,_⟩:=e0.hok f _ hf
  obtain ⟨⟨oc,cvs,ct,ec,ed,ev⟩,_,_⟩:=e0.hok c _ hc
  have lim:s.heap.NoLimit:=e0.mod.nolimit.keeps fun b o e=>(e0.bs b o e).1
  obtain ⟨t,ht,hq⟩:=hbody A outer s H f c clos vals vs Q E (hr.deeper _) hfv hsp
  refine PySem.W.kla_callFunE (body:=d.body) hr.depth ef rfl S.co S.gen rfl ⟨c,oc,cvs,ct,rfl,ec,ed,ev⟩ ?_
  rw [hbind pm ctv clos c us lus]
  refine wpAny_pure (wpAny_newFunctionEnv S.nocell (fun y hy=>S.par y.1 (List.of_mem_zip hy).1) (fun h1 hns hsb=>?_) S.kind)
  have hk:∀ b o,s.heap.get? b = some o→h1.get? b = some o:=fun b o e=>hsb.extBut b o (Nat.ne_of_lt (Heap.lt_size e)) (Heap.get?_push_of_some _ e)
  refine ⟨lim.fresh _ hsb,?_⟩
  show codeAny _ _ (.expr d.body (dX d s.heap.objs.size f c clos)) _ _
  have I:=nI (f:=f) (c:=c) (tk:=s.toks + (ps.zip us).length) S hr.hd e0 hl r hfv hnd ca hns hk
  refine PySem.W.kla_codeExpr (wpAny_mono (ht [] _ _ _ _ I hq) (fun u s' hs=>?_) fun e s' z=>False.elim z)
  obtain ⟨v,H',J,rv,q⟩:=hs
  exact ⟨v,H',J.os,J.bare,J.base,J.hok,rv,q⟩
end
abbrev w9 (X:Cx) (σ:St):List (Str×Addr)→List V→Prop:=Paired fun (p:Str×Addr) (v:V)=>X.env.cells.lookup p.1 = some p.2∧X.env.scope.names.lookup p.1 = some .cell∧∃ i:Nat,X.N[i]? = some p.1∧σ[i]? = some (some v)
section
variable {X:Cx} {pins:List (Addr×Obj)} {σ:St} {H:Hp} {s:Shared}
theorem kC (I:Inv X pins σ H s):∀ {clos:List (Str×Addr)} {vals:List V},w9 X σ clos vals→CellsU H s.heap clos vals
  | _,_,.nil=>.nil
  | _,_,.cons r t=>by
    refine .cons ?_ (kC I t)
    rename_i p v _ _
    obtain ⟨h1,h2,i,h3,h4⟩:=r
    refine ⟨I.freeC _ _ h1,?_⟩
    obtain ⟨m,hn,hl⟩:=I.loc
    obtain ⟨u,r,l⟩:=hl i _ v h3 h4 (.inr (.inl h2))
    rcases l with ⟨k,_⟩ | ⟨k,c,e,o,ho,hd⟩
    · exfalso
      have k:X.env.scope.names.lookup p.1 = some .local:=k
      rw [h2] at k
      cases k
    · rw [h1] at e
      cases e
      exact ⟨o,u,ho,hd,r⟩
theorem sB {d:LamD} {fv ps:List Str} {k:Nat} {sp:List V→Sp} {Q:VK} {us:List Value} {vs vals:List V} {f c:Addr} {clos:List (Str×Addr)} (L:qM X.prog X.w X.K X.mg X.base k d fv ps sp) (hr:Room (k + 1) X.A) (I:Inv X pins σ H s) (r:Vals vs us)
    (hf:H f = some (.ext (fq f d clos c))) (hc:H c = some (.ext (dP c d.qual))) (hfv:clos.map (·.1) = fv) (hnd:(clos.map (·.2)).Nodup) (ca:w9 X σ clos vals) (h:sp vals vs H Q fun _ _ _=>False) :
    wpAny (model X.prog X.w) X.A.in1.in1 (call (.ref f) us) (EP X pins σ Q) (fun _ _=>False) s:=by
  have hr':Room k X.A.in1.in1:=⟨hr.hd,by have:=hr.dp; show X.A.depth + 3 * k + 5 < _; omega,by have:=hr.un; show X.A.units + 1 + 1 + 16 * k + 200 < _; omega⟩
  refine wpAny_call (codeAny_mono (L X.A.in1.in1 X.stack s H f c clos us vs vals Q _ hr' I.env0.in1.in1 hf hc hfv hnd (kC I ca) r h) fun r s' hq=>?_)
  cases r with
  | error e=>exact False.elim hq
  | ok fl =>
    cases fl with
    | ret u=>exact I.after hq
    | next=>exact False.elim hq
    | brk=>exact False.elim hq
    | cont=>exact False.elim hq
end
structure SortBy (X:Cx) (α:Type) where
  KO:(Nat→α)→Nat→V→Hp→Prop
  lt:(Nat→α)→Nat→Nat→Bool
  κ:SortKind
  good:(Nat→α)→Nat→Prop
  ko:∀ g,KeyO (KO g)
  wk:∀ g n,good g n→WSrt.Wk (lt g) n
  kind:∀ g n,good g n→qO X (KO g) n κ
  ask:∀ g n,good g n→vY X (KO g) n κ (lt g)
theorem hG {g:Nat→Int}:∀ {kv:List V} {ks:List Value} (k:Nat),Vals kv ks→(∀ i v,kv[i]? = some v→v = V.int (g (k + i)))→IntsAre ks ((List.range' k kv.length).map g)
  | _,_,k,.nil,h=>.nil
  | x :: _,_,k,.cons r t,h=>by
    obtain rfl:x = V.int (g (k + 0)):=h 0 x rfl
    obtain ⟨t',rfl⟩:=r
    exact .cons _ _ (hG (k + 1) t fun i v hv=>by rw [h (i + 1) v hv]; congr 2; omega)
def yJ (X:Cx):SortBy X Int where
  KO:=fun g i v _=>v = .int (g i)
  lt:=fun g i j=>decide (g i < g j)
  κ:=oneType'
  good:=fun _ _=>True
  ko:=fun g=>⟨fun i v H H' _ h=>h⟩
  wk:=fun g n _=>⟨fun i j _ _ h=>by have:=of_decide_eq_true h; exact decide_eq_false (by omega),fun i j k _ _ _ h1 h2=>by
    have h1':=of_decide_eq_false h1
    have h2':=of_decide_eq_false h2
    exact decide_eq_false (by omega)⟩
  kind:=fun g n _ pins σ H s kv ks I r hl h2 h R hR=>by
    have hi:=hG (g:=g) 0 r fun i v hv=>by rw [Nat.zero_add]; exact h i v hv
    rw [ksk_kind (keys:=ks.toArray) hi (by rw [List.size_toArray,← r.length]; omega)]
    exact wpAny_pure hR
  ask:=fun g n _ pins σ H s kv ks I r hl h i j hi hj hn C hC=>by
    obtain ⟨x,hx⟩:∃ x,kv[i]? = some x:=⟨_,List.getElem?_eq_getElem (by omega)⟩
    obtain ⟨y,hy⟩:∃ x,kv[j]? = some x:=⟨_,List.getElem?_eq_getElem (by omega)⟩
    obtain ⟨u,hu,ru⟩:=r.get hx
    obtain ⟨v,hv,rv⟩:=r.get hy
    obtain rfl:=h i x hx
    obtain rfl:=h j y hy
    obtain ⟨t,rfl⟩:=ru
    obtain ⟨t',rfl⟩:=rv
    unfold kas_ask
    rw [List.getD,List.getD,hu,hv]
    exact kat_lt_int hC
def lf:List V→List Value→Bool
  | [],[]=>true
  | .str z :: xs,.str y _ :: us=>decide (z = y) && lf xs us
  | _,_=>false
theorem iQ:∀ {xs:List V} {us:List Value},lf xs us = true→Vals xs us
  | [],[],_=>.nil
  | .str i :: xs,.str j t :: us,h=>by
    rw [lf,Bool.and_eq_true] at h
    have e:=of_decide_eq_true h.1
    exact .cons ⟨t,by rw [e]⟩ (iQ h.2)
def ll (K:PySem.W.Frag) (a:Addr) (xs:List V):Bool :=
  match K.lookup a with
  | some o =>
    (match o.cls with
    | .type t=>t == "tuple"
    | _=>false) &&
    (match o.data with
    | .seq its _=>decide (its.size≤1000) && lf xs its.toList
    | _=>false)
  | none=>false
theorem uK {K:PySem.W.Frag} {H:Hp} {a:Addr} {xs:List V} (h:ll K a xs = true):SqT K H a xs:=by
  unfold ll at h
  split at h
  · rename_i o e
    rw [Bool.and_eq_true] at h
    obtain ⟨h1,h2⟩:=h
    split at h1
    · rename_i t ec
      split at h2
      · rename_i its n ed
        rw [Bool.and_eq_true] at h2
        refine .inr ⟨o,its,n,e,by rw [ec,beq_iff_eq.mp h1],ed,?_,iQ h2.2⟩
        have:=of_decide_eq_true h2.1
        have:sizeLine = 16777216:=sizeLine_eq
        omega
      · cases h2
    · cases h1
  · cases h
def zo:Stmt→Expr
  | .For _ it _ _ _=>it
  | _=>dE
def kwE:Expr→Nat→Expr
  | .Call _ _ ks _,i=>(ks.getD i ⟨none,dE,⟨0,0,0,0⟩⟩).value
  | _,_=>dE
theorem wM {l:List Addr} (h:l.length = 1):l.Nodup:=by
  match l,h with
  | [x],_=>simp
section
variable {X:Cx} {tabs:lR} {d:LamD} {clos:List (Str×Addr)} {fv ps:List Str} {k:Nat} {sp:List V→Sp} {α:Type} {p pos lp kp:Pos} {e:Expr} {te:TE} {x:Str}
def sG (X:Cx) (σ:St) (clos:List (Str×Addr)) (sp:List V→Sp) (B:SortBy X α) (v:V) (H2:Hp) (Q:VK):Prop :=
  ∃ (l:Addr) (xs:List V) (g:Nat→α) (vals:List V),v = .ref l∧SqL X.K H2 l xs∧xs.length < 64∧B.good g xs.length∧w9 X σ clos vals∧(∀ i x H',xs[i]? = some x→Same H2 H'→sp vals [x] H' (fun v H''=>Same H' H''∧B.KO g i v H'') (fun _ _ _=>False)) ∧
    ∀ D H',Same H2 H'→H2 D = none→H' D = none→Q (.ref D) (upd H' D (.lst ((ord (B.lt g) xs.length).map fun i=>xs.getD i .non)))
def xn (X:Cx) (tabs:lR) (d:LamD) (clos:List (Str×Addr)) (sp:List V→Sp) (B:SortBy X α) (te:TE):TE:=fun σ H Q=>te σ H fun v H1=>TabsOk tabs H1∧∀ f c H2,SameT H1 H2→TabsOk tabs H2→H1 f = none→H2 f = some (.ext (fq f d clos c))→H2 c = some (.ext (dP c d.qual))→sG X σ clos sp B v H2 Q
theorem rd (B:SortBy X α) (hg:Gl X x) (hm:X.mg x = none) (hv:bootBuiltins x = some (.builtin "sorted")) (ha:PE X e te) (hlam:PE X (.Lambda d.params d.body d.scope lp) (xy tabs d clos)) (L:qM X.prog X.w X.K X.mg X.base k d fv ps sp) (hr:Room (k + 1) X.A) (hfv:clos.map (·.1) = fv) (hnd:(clos.map (·.2)).Nodup)
    (hn:x ≠ "__name__" := by decide) (hdb:(x == ("__debug__" : Str)) = false:=by decide) (hs:starEach [e] X.env = (false,eval e X.env) :: starEach [] X.env:=by rfl) :
    PE X (.Call (.Name x p) [e] [⟨some "key",.Lambda d.params d.body d.scope lp,kp⟩] pos) (xn X tabs d clos sp B te):=by
  intro pins s σ H Q I h
  refine wpAny_Call_Name_kw (gr I hg hm hv ?_ hn hdb)
  have hb:backTo pos (starEach [e] X.env) = (false,eval e X.env) :: backTo pos (starEach [] X.env):=by rw [hs]; rfl
  refine callWith_kw ?_ hb (by rw [hb]; rfl)
  rw [hb]
  refine Calls.spliced_cons (thn (ha pins s σ H _ I h) fun u s1 ⟨v,H1,I1,r1,hT,q1⟩=>?_)
  refine Calls.spliced_nil (kws_cons (thn (hlam pins s1 σ H1 (fun vf H2=>∃ f c,vf = .ref f∧H2 f = some (.ext (fq f d clos c))∧H2 c = some (.ext (dP c d.qual))∧sG X σ clos sp B v H2 Q) I1 ⟨hT,fun f c H2 t2 hT2 hf0 hf hc=>⟨f,c,rfl,hf,hc,q1 f c H2 t2 hT2 hf0 hf hc⟩⟩) fun uf s2 ⟨vf,H2,I2,rf,f,c,ef,hf,hc,q2⟩=>?_))
  subst ef
  obtain rfl:uf = Value.ref f:=rf
  obtain ⟨l,xs,g,vals,rfl,hl,h64,gd,cv,ht,q⟩:=q2
  obtain rfl:u = Value.ref l:=r1
  refine kws_nil ?_
  exact m4 I2 hl h64 (B.wk g _ gd) (B.ko g) (fun i x u pins' H' s' hx rx J sm=>sB L hr J (.cons rx .nil) (sm _ _ hf) (sm _ _ hc) hfv hnd cv (ht i x H' hx sm)) (B.kind g _ gd) (B.ask g _ gd) q
end
end L2
namespace L2
open PySem PySem.Spec PyProof.Rows PySem.W
section
variable {X:Cx}
end
end L2
namespace L2
open PySem PySem.Spec PyProof.Rows PySem.W
def DE (h:Heap) (d:Addr) (es:Array DictEntry) (ep:Nat):Prop:=∃ o,h.get? d = some o∧o.ExactDict∧o.data = .dict es ep
theorem DE.ty {s:Shared} {d:Addr} {es:Array DictEntry} {ep:Nat} (x:DE s.heap d es ep):s.TypeIs (.ref d) "dict" := let ⟨o,e,c,_⟩:=x; ⟨o,e,c.1⟩
section
variable {prog:Program} {w:World} {A:Around} {E:Value→Shared→Prop} {s:Shared} {d I:Addr} {es:Array DictEntry} {ep i:Nat}
theorem oW {Q:Value→Shared→Prop} (nm:(d == sysModules) = false) (x:DE s.heap d es ep)
    (q:Q (.ref s.heap.objs.size) { s with heap:=s.heap.push { cls:=.type "dict_keyiterator",data:=.fields #[.ref d,.int 0 0,.int es.size 0,.int ep 0] } }):wpAny (model prog w) A (pyIter (.ref d)) Q E s:=by
  have ty:=x.ty
  obtain ⟨ob,g1,g2,g3⟩:=id x
  refine wpAny_pyIter_slot ty F.slot_dict_iter (wpAny_call_entry F.slot_dict_iter ty F.entry_dict_iter ?_ (F.args_dict_iter_1 _))
  unfold Builtin.«dict.__iter__»; refine wpAny_bind ?_
  unfold Builtin.Dict.dictSlotNone; refine wpAny_bind (wpAny_notOrdered_dict ty (wpAny_pure ?_))
  show wpAny _ _ (Builtin.Dict.showsAll d >>= _) _ _ _
  unfold Builtin.Dict.showsAll; rw [if_neg (fun z=>by rw [nm] at z; cases z)]
  refine wpAny_bind (wpAny_pure (wpAny_bind (wpAny_dictEntries g1 g3 (wpAny_bind (wpAny_dictEpoch g1 g3 ?_)))))
  refine wpAny_bind (wpAny_newObj_type (wpAny_pure ⟨_,rfl, "dict_keyiterator",_,⟨_,Heap.get?_push_size _ rfl,rfl⟩,F.slot_dict_keyiterator_next.lookup,?_⟩)); simpa [rawInt] using q
theorem t8 {Q:Option Value→Shared→Prop} {e:DictEntry} (ki:s.heap.IsKeyIter I d i es.size ep) (x:DE s.heap d es ep) (hx:es[i]? = some e)
    (q:∀ h',h'.IsKeyIter I d (i + 1) es.size ep→Heap.SameBut I s.heap h'→Q (some e.key) { s with heap:=h' }):wpAny (model prog w) A (pyNext (.ref I)) Q E s:=by
  obtain ⟨oi,k1,k2,k3⟩:=id ki
  obtain ⟨ob,g1,g2,g3⟩:=id x
  unfold pyNext; refine wpAny_bind (wpAny_attempt (wpAny_callSpecial?_slot (name:=Str.ofString "__next__") ki.typeIs F.slot_dict_keyiterator_next (wpAny_call_entry F.slot_dict_keyiterator_next ki.typeIs F.entry_dict_keyiterator_next ?_ (F.args_dict_keyiterator_next_1 _))))
  refine wpAny_bind (wpAny_pure (wpAny_bind (wpAny_bind ?_)))
  first | refine wpAny_bind (wpAny_typeNameOfWhole_keyiter ki.typeIs (wpAny_pure ?_)) | refine wpAny_bind (wpAny_typeNameOf_keyiter ki.typeIs (wpAny_pure ?_))
  refine wpAny_bind (wpAny_fieldsOf k1 k3 ?_); have own:Builtin.Dict_items.ownsTuple "dict_keyiterator" = false:=by decide
  simp only [own,Bool.false_eq_true,if_false]; show wpAny _ _ (if (Value.ref d == Value.none) = true then _ else _) _ _ _
  rw [if_neg (fun z:(Value.ref d == Value.none) = true=>Bool.false_ne_true z)]; refine wpAny_bind (wpAny_pure (wpAny_bind (wpAny_dictEntries g1 g3 ?_)))
  rw [if_neg (by simp)]; refine wpAny_bind (wpAny_pure (wpAny_bind (wpAny_dictEpoch g1 g3 ?_)))
  rw [if_neg (by simp)]; refine wpAny_pure ?_
  obtain ⟨hlt,rfl⟩:=Array.getElem?_eq_some_iff.mp hx
  simp only [show ¬ ((i:Int) < 0) from by omega,if_false,Int.toNat_natCast,Array.getElem?_eq_getElem hlt]; refine wpAny_bind ?_
  first | refine wpAny_bind (wpAny_typeNameOfWhole_keyiter ki.typeIs (wpAny_pure ?_)) | refine wpAny_bind (wpAny_typeNameOf_keyiter ki.typeIs (wpAny_pure ?_))
  refine wpAny_bind (wpAny_isOneOf_keyiter ki.typeIs ?_); show wpAny _ _ (setField (.ref I) 1 (rawInt ((i:Int) + 1)) >>= _) _ _ _
  refine wpAny_bind (wpAny_setField k1 k3 (by simp) ?_)
  have ki':(s.heap.update I (Obj.mapFields (·.setIfInBounds 1 (rawInt ((i:Int) + 1))))).IsKeyIter I d (i + 1) es.size ep:=⟨_,Heap.get?_update_self _ k1 (Obj.isFreed_of_fields (Obj.data_mapFields k3 _)),(Obj.cls_mapFields ..).trans k2,by rw [Obj.data_mapFields k3]; simp [rawInt]⟩
  refine wpAny_bind (wpAny_holding (wpAny_bind (wpAny_isOneOf_keyiter (s:={ s with heap:=s.heap.update I (Obj.mapFields (·.setIfInBounds 1 (rawInt ((i:Int) + 1)))) }) ki'.typeIs ?_)))
  show wpAny _ _ (pure es[i].key) _ _ _; exact wpAny_pure (wpAny_pure ⟨_,rfl,wpAny_pure (q _ ki' (Heap.SameBut.update ..))⟩)
theorem vP {Q:Option Value→Shared→Prop} (hh:A.handled = none) (ki:s.heap.IsKeyIter I d i es.size ep) (x:DE s.heap d es ep) (hx:es.size≤i)
    (q:∀ h',Heap.ExtBut I s.heap h'→Q none { s with heap:=h' }):wpAny (model prog w) A (pyNext (.ref I)) Q E s:=by
  obtain ⟨oi,k1,k2,k3⟩:=id ki
  obtain ⟨ob,g1,g2,g3⟩:=id x
  unfold pyNext; refine wpAny_bind (wpAny_attempt (wpAny_callSpecial?_slot (name:=Str.ofString "__next__") ki.typeIs F.slot_dict_keyiterator_next (wpAny_call_entry F.slot_dict_keyiterator_next ki.typeIs F.entry_dict_keyiterator_next ?_ (F.args_dict_keyiterator_next_1 _))))
  refine wpAny_bind (wpAny_pure (wpAny_bind (wpAny_bind ?_)))
  first | refine wpAny_bind (wpAny_typeNameOfWhole_keyiter ki.typeIs (wpAny_pure ?_)) | refine wpAny_bind (wpAny_typeNameOf_keyiter ki.typeIs (wpAny_pure ?_))
  refine wpAny_bind (wpAny_fieldsOf k1 k3 ?_); have own:Builtin.Dict_items.ownsTuple "dict_keyiterator" = false:=by decide
  simp only [own,Bool.false_eq_true,if_false]; show wpAny _ _ (if (Value.ref d == Value.none) = true then _ else _) _ _ _
  rw [if_neg (fun z:(Value.ref d == Value.none) = true=>Bool.false_ne_true z)]; refine wpAny_bind (wpAny_pure (wpAny_bind (wpAny_dictEntries g1 g3 ?_)))
  rw [if_neg (by simp)]; refine wpAny_bind (wpAny_pure (wpAny_bind (wpAny_dictEpoch g1 g3 ?_)))
  rw [if_neg (by simp)]; refine wpAny_pure ?_
  simp only [show ¬ ((i:Int) < 0) from by omega,if_false,Int.toNat_natCast,Array.getElem?_eq_none hx]; refine wpAny_bind ?_
  first | refine wpAny_bind (wpAny_typeNameOfWhole_keyiter ki.typeIs (wpAny_pure ?_)) | refine wpAny_bind (wpAny_typeNameOf_keyiter ki.typeIs (wpAny_pure ?_))
  show wpAny _ _ (setField (.ref I) 0 .none >>= _) _ _ _; refine wpAny_bind (wpAny_setField k1 k3 (by simp) ?_)
  show wpAny _ _ (newExc (.type "StopIteration") [] >>= _) _ _ _; refine wpAny_bind ?_; simp only [newExc,newTuple]
  refine wpAny_bind (wpAny_newObj_type (wpAny_bind (m:=firstArgMember _ _) (wpAny_of_eq (a:=Value.none) (by first | rfl | (simp only [firstArgMember]; rfl)) (wpAny_newObj_type ?_ (by size_fits)))) (by size_fits))
  simp only [raiseNew]; refine wpAny_bind (wpAny_handled ?_); rw [show A.in1.handled = none from hh]
  refine wpAny_bind (wpAny_pure (wpAny_throw ?_)); refine wpAny_bind (wpAny_isInstance (T := "StopIteration") (b:=true) ⟨_,Heap.get?_push_size _ rfl,rfl⟩ isSubtype_stop ?_)
  exact wpAny_pure (q _ (((Heap.SameBut.update ..).extBut.push _).push _))
end
section
variable {X:Cx}
theorem KT.at {H:Hp}:∀ {kvs:List (List Key×V)} {xs:List (List Key×Addr×Value)} {i:Nat} {kv:List Key×V},KT H kvs xs→kvs[i]? = some kv→∃ x,xs[i]? = some x∧H x.2.1 = some (.tup (kv.1.map kV))
  | _,_,_,_,.nil,h=>by cases h
  | _,_,0,_,.cons r t,h=>by cases h; exact ⟨_,rfl,r.2.1⟩
  | _,_,i + 1,_,.cons r t,h=>KT.at (i:=i) t h
end
end L2
namespace L2
open PySem PySem.Spec PyProof.Rows PySem.W
section
variable {X:Cx} {K:PySem.W.Frag}
theorem qt (h:X.K = K):OpR X (binaryOp .Add) (vv K):=h ▸ oj
end
end L2
namespace L2
open PySem PySem.Spec PyProof.Rows PySem.W
section
variable {X:Cx} {pins:List (Addr×Obj)} {σ:St} {H:Hp} {s:Shared} {a:Addr} {kvs:List (List Key×V)} {o:Obj}
theorem Inv.freeze (I:Inv X pins σ H s) (h:Rd H a (.dT kvs)) (ho:s.heap.get? a = some o):Inv X pins σ (upd H a (.frz o (.dT kvs))) s:=by
  have hok:=h.ok I.hok
  have hs:∃ u,H a = some u:=by rcases h with e | ⟨_,e⟩ <;> exact ⟨_,e⟩
  have nn:∀ {b},H b = none→b≠a:=fun {b} e z=>by subst z; obtain ⟨u,q⟩:=hs; rw [e] at q; cases q
  have nt:∀ {b xs},H b = some (.tup xs)→b≠a:=fun {b xs} e z=>by subst z; rcases h with q | ⟨_,q⟩ <;> (rw [e] at q; cases q)
  have no:∀ {b y},H b = some (.own y)→b≠a:=fun {b y} e z=>by subst z; rcases h with q | ⟨_,q⟩ <;> (rw [e] at q; cases q)
  have nb:∀ {b ps},H b = some (.tbl ps)→b≠a:=fun {b ps} e z=>by subst z; rcases h with q | ⟨_,q⟩ <;> (rw [e] at q; cases q)
  have fz:∀ b u v,H b = some (.frz u v)→(upd H a (.frz o (.dT kvs))) b = some (.frz u v):=fun b u v e=>by
    by_cases c:b = a
    · subst c
      rcases h with q | ⟨o',q⟩
      · rw [e] at q; cases q
      · rw [e] at q
        cases q
        obtain ⟨g,_⟩:=(show ObjOk X.prog X.w H s.heap b (.frz u (.dT kvs)) from I.hok b _ e)
        rw [ho] at g
        cases g
        exact ac
    · rw [ao c]; exact e
  refine ⟨I.ok,I.os,I.bare,⟨I.base.keep,I.base.slot,fun b u e n hx=>?_,I.base.there,fun b xs e=>?_,fun b u v e=>fz b u v (I.base.frzs b u v e),fun b ps e=>?_⟩,I.loc,I.cell,?_,fun x c e=>?_,fun p hp=>?_,fun b u e=>?_,I.len⟩
  · have:=I.base.free b u e n hx; rw [ao (nn this)]; exact this
  · have:=I.base.tups b xs e; rw [ao (nt this)]; exact this
  · obtain ⟨more,z⟩:=I.base.tbls b ps e; exact ⟨more,by rw [ao (nb z)]; exact z⟩
  · rw [ao (nn I.free)]; exact I.free
  · rw [ao (nn (I.freeC x c e))]; exact I.freeC x c e
  · obtain ⟨g1,g2,g3⟩:=I.pin p hp; exact ⟨g1,by rw [ao (nn g2)]; exact g2,g3⟩
  · by_cases hb:b = a
    · subst hb
      rw [ac] at e
      cases e
      exact ⟨ho,hok.stay (fun _ _ _ q=>q) (fun c q=>by rw [ao (no q)]; exact q) fun c xs q=>by rw [ao (nt q)]; exact q⟩
    · rw [ao hb] at e
      exact (I.hok b u e).stay (fun _ _ _ q=>q) (fun c q=>by rw [ao (no q)]; exact q) fun c xs q=>by rw [ao (nt q)]; exact q
end
def Itd (d:Addr) (o:Obj) (kvs:List (List Key×V)):It :=
  ⟨fun i H=>H d = some (.frz o (.dT kvs))∧i < kvs.length,fun i H x H'=>H' = H∧∃ b kv,kvs[i]? = some kv∧x = .ref b∧H b = some (.tup (kv.1.map kV)),fun i H=>H d = some (.frz o (.dT kvs))∧kvs.length≤i⟩
theorem kL {P:Program} {w:World} {H:Hp} {h:Heap} {d:Addr} {o:Obj} {kvs:List (List Key×V)} (ok:HOk P w H h) (e:H d = some (.frz o (.dT kvs))):∃ xs es ep,KT H kvs xs∧h.get? d = some o∧o.ExactDict∧o.data = .dict es ep∧es.toList = xs.map (entryOfKey (tupleKind (bR P w)))∧(d == sysModules) = false:=by
  obtain ⟨g,z,y,xs,r,o',es,ep,h1,h2,h3,h4,h5⟩:=(show ObjOk P w H h d (.frz o (.dT kvs)) from ok d _ e)
  rw [g] at h1
  cases h1
  exact ⟨xs,es,ep,r,g,h2,h3,h4,y⟩
theorem oB {P:Program} {w:World} {K:PySem.W.Frag} {tg:Expr} {d it:Addr} {o:Obj} {kvs:List (List Key×V)} {es:Array DictEntry} {ep:Nat} (hdat:o.data = .dict es ep) (hsz:es.size = kvs.length):Turn P w K tg (Itd d o kvs) [it] it (fun i h=>h.IsKeyIter it d i es.size ep) where
  mem:=List.mem_cons_self ..
  obj:=fun i h st b hb=>by
    have e:b = it:=List.mem_singleton.mp hb
    subst e
    obtain ⟨o,e,c,d⟩:=st
    exact ⟨o,e,fun v z=>by rw [d] at z; cases z⟩
  keep:=fun i h h' st k=>st.at fun o e=>k it (List.mem_cons_self ..) o e
  item:=by
    intro X hP hw hK hc i pins s σ H E I hf st hg
    subst hP hw hK
    obtain ⟨hd,hi⟩:=hg
    obtain ⟨xs,es',ep',rel,g1,g2,g3,g4,g5⟩:=kL I.hok hd
    have e0:=hdat.symm.trans g3
    cases e0
    obtain ⟨f0,f1,f2,f3,f4,f5⟩:=hf it (List.mem_cons_self ..)
    obtain ⟨kv,hkv⟩:∃ kv,kvs[i]? = some kv:=⟨_,List.getElem?_eq_getElem hi⟩
    obtain ⟨x,hx,hH⟩:=rel.at hkv
    have he:es[i]? = some (entryOfKey (tupleKind (bR X.prog X.w)) x):=by rw [entry_at g4,hx]; rfl
    refine t8 st ⟨o,g1,g2,g3⟩ he fun h' st' sb=>?_
    have I1:Inv X pins σ H { s with heap:=h' }:=I.turned (t':=s.toks) (fun b o hb e=>(sb.2 b hb).trans e) f0 f1 f3 f4 f5
    obtain ⟨oi,e,c,dd⟩:=id st'
    exact ⟨_,rfl,ke (s:={ s with heap:=h' }) e c dd (by decide) ⟨.ref x.2.1,H,I1,rfl,⟨rfl,x.2.1,kv,hkv,rfl,hH⟩,st',fun b hb=>(hf b hb).1⟩⟩
  done:=by
    intro X hP hw hK hc i pins s σ H E I hf st hg
    subst hP hw hK
    obtain ⟨hd,hi⟩:=hg
    obtain ⟨xs,es',ep',rel,g1,g2,g3,g4,g5⟩:=kL I.hok hd
    have e0:=hdat.symm.trans g3
    cases e0
    obtain ⟨f0,f1,f2,f3,f4,f5⟩:=hf it (List.mem_cons_self ..)
    exact vP (I.ok.hd hc) st ⟨o,g1,g2,g3⟩ (by omega) fun h' eb=>⟨rfl,I.turned (t':=s.toks) (fun b o hb e=>eb b o hb e) f0 f1 f3 f4 f5⟩
  self:=fun _ _ _ _ _ st h=>wpAny_pyIter_keyiter st h
theorem vz {X:Cx} {tg e:Expr} {te:TE} (he:PE X e te):PI X tg e (fun σ H R=>te σ H fun x H1=>∃ d kvs,x = .ref d∧Rd H1 d (.dT kvs)∧∀ o,R (Itd d o kvs) (upd H1 d (.frz o (.dT kvs)))):=by
  intro pins s σ H R I h
  refine thn (he pins s σ H _ I h) fun v s1 ⟨x,H1,I1,r1,d,kvs,ex,hd,q⟩=>?_
  subst ex
  obtain rfl:v = Value.ref d:=r1
  obtain ⟨o,ho⟩:∃ o,s1.heap.get? d = some o:=by
    obtain ⟨_,_,xs,_,o,_,_,g,_⟩:=(show ObjOk X.prog X.w H1 s1.heap d (.dT kvs) from hd.ok I1.hok)
    exact ⟨o,g⟩
  have I2:=I1.freeze hd ho
  obtain ⟨xs,es,ep,rel,g1,g2,g3,g4,g5⟩:=kL I2.hok ac
  have hsz:es.size = kvs.length:=by rw [size_of_entries g4,Paired.length rel]
  refine oW g5 ⟨o,g1,g2,g3⟩ ?_
  refine ⟨s1.heap.objs.size,[s1.heap.objs.size],_,_,_,rfl,I2.kept (t':=s1.toks) fun b o e=>Heap.get?_push_of_some _ e,oB g3 hsz,⟨_,Heap.get?_push_size _ rfl,rfl,rfl⟩,fun b hb=>?_,q o⟩
  have e:b = s1.heap.objs.size:=List.mem_singleton.mp hb
  subst e
  exact I2.fpOk (Nat.le_refl _) (I2.hok.fresh (Nat.le_refl _))
theorem kM {D:Addr} {σb:St} {g:TG} {tt:TT} {te:TE} {Q:Hp→List V→Prop} {H:Hp} {d:Addr} {o:Obj} {kvs:List (List Key×V)} (Pv:Nat→List V→Hp→Prop) (h0:Pv 0 [] H) (hq:∀ i ys H,Pv i ys H→H d = some (.frz o (.dT kvs))) (hl:∀ i ys H,Pv i ys H→H D = some (.lst ys))
    (hs:∀ (i:Nat) kv b ys H P,kvs[i]? = some kv→H b = some (.tup (kv.1.map kV))→Pv i ys H→(∀ a b,Pv (i + 1) a b→P a b)→nX D σb g tt te (.ref b) ys H P) (hd:∀ ys H,Pv kvs.length ys H→Q H ys):∃ W,(∃ m,W 0 m [] H)∧jr (Itd d o kvs) D σb g tt te Q W:=by
  refine ⟨fun i m ys H=>m = kvs.length - i∧i≤kvs.length∧Pv i ys H,⟨_,rfl,Nat.zero_le _,h0⟩,?_⟩
  rintro i m ys H ⟨rfl,hi,p⟩
  refine ⟨hl i ys H p,?_⟩
  have q:=hq i ys H p
  by_cases hlt:i < kvs.length
  · refine .inr ⟨⟨q,hlt⟩,fun x H3 y=>?_⟩
    obtain ⟨rfl,b,kv,hkv,rfl,hb⟩:=y
    exact hs i kv b ys _ (fun a b=>∃ m',m' < kvs.length - i∧m' = kvs.length - (i + 1)∧i + 1≤kvs.length∧Pv (i + 1) a b) hkv hb p (fun a b q=>⟨kvs.length - (i + 1),by omega,rfl,hlt,q⟩)
  · have e:i = kvs.length:=by omega
    subst e
    exact .inl ⟨⟨q,Nat.le_refl _⟩,hd ys H p⟩
end L2
namespace L2
open PySem PySem.Spec PyProof.Rows PySem.W
section
variable {prog:Program} {w:World} {A:Around} {E:Value→Shared→Prop} {s:Shared} {d:Addr} {es:Array DictEntry} {ep:Nat}
theorem sk (nm:(d == sysModules) = false):MeetsIn prog w (Builtin.«dict.__len__» ⟨[.ref d],[]⟩) (fun _ R s=>DE s.heap d es ep∧R (.ok (.ret (.int es.size s.toks))) { s with toks:=s.toks + 1 }) :=
  .of_wp fun A R s ⟨hm,h⟩=>by
    obtain ⟨ob,g1,g2,g3⟩:=hm
    show wpAny _ _ (dictSize d >>= _) _ _ _; unfold dictSize
    refine wpAny_bind (wpAny_bind (wpAny_dictEntries g1 g3 (wpAny_pure ?_))); show wpAny _ _ (Builtin.Dict.pendingCount d >>= _) _ _ _
    refine wpAny_bind (wpAny_pendingCount_other nm (wpAny_ret_mkInt ?_)); rw [Nat.add_zero]; exact h
theorem tH {Q:Value→Shared→Prop} (nm:(d == sysModules) = false) (x:DE s.heap d es ep) (hf:(es.size:Int) < 2 ^ 63)
    (h:Q (.int es.size (s.toks + 1)) { s with toks:=s.toks + 1 + 1 }):wpAny (model prog w) A (Builtin.«len» ⟨[.ref d],[]⟩) (fun fin s'=>∃ r,fin = .done (.ret r)∧Q r s') E s:=by
  unfold Builtin.«len»; refine wpAny_bind (m:=oneArg "len" _) (wpAny_pure ?_)
  refine wpAny_bind (m:=callSpecial? (.ref d) (Str.ofString "__len__")) (wpAny_callSpecial?_slot (name:=Str.ofString "__len__") x.ty F.slot_dict_len (call_meetsIn F.slot_dict_len x.ty F.entry_dict_len (F.args_dict_len_1 _) (sk (es:=es) (ep:=ep) nm) ⟨x,?_⟩))
  show wpAny _ _ _ _ _ { s with toks:=s.toks + 1 }; refine wpAny_bind (wpAny_holding (wpAny_pure (wpAny_bind (wpAny_letGo ?_))))
  show wpAny _ _ (if ((es.size:Nat):Int) < 0 then _ else _) _ _ _; rw [if_neg (by omega)]
  show wpAny _ _ (if ((es.size:Nat):Int) ≥ 2 ^ 63 then _ else _) _ _ _; rw [if_neg (by omega)]
  exact wpAny_bind (wpAny_mkInt (wpAny_pure ⟨_,rfl,h⟩))
theorem qr {Q:Bool→Shared→Prop} (nm:(d == sysModules) = false) (x:DE s.heap d es ep) (hf:(es.size:Int) < 2 ^ 63) (h:Q ((es.size:Int) != 0) { s with toks:=s.toks + 1 + 1 }):wpAny (model prog w) A (truthy (.ref d)) Q E s:=by
  have key:wpAny (model prog w) A (runValue (.builtin "len" ⟨[.ref d],[]⟩)) (fun r s'=>r = .int es.size (s.toks + 1)∧Q ((es.size:Int) != 0) s') E s:=by
    refine wpAny_runValue (codeAny_builtin entry_len ?_); rw [Around.under_plainId plain_len _]
    exact wpAny_mono (tH (Q:=fun r s'=>r = .int es.size (s.toks + 1)∧Q ((es.size:Int) != 0) s') nm x hf ⟨rfl,h⟩) (fun fin s' h'=>by obtain ⟨r,rfl,hq⟩:=h'; exact hq) fun _ _ e=>e
  unfold truthy
  first | refine wpAny_bind (wpAny_callSpecial?_none (name:=Str.ofString "__bool__") x.ty noBool_dict ?_) | refine wpAny_bind (wpAny_pure (wpAny_bind (wpAny_callSpecial?_none (name:=Str.ofString "__bool__") x.ty noBool_dict ?_)))
  first | refine wpAny_bind (wpAny_specialOf (name:=Str.ofString "__len__") x.ty F.slot_dict_len.lookup ?_) | refine wpAny_bind (wpAny_pure (wpAny_bind (wpAny_specialOf (name:=Str.ofString "__len__") x.ty F.slot_dict_len.lookup ?_)))
  first | exact wpAny_bind (wpAny_mono key (fun r s' h'=>by obtain ⟨rfl,hq⟩:=h'; exact wpAny_pure hq) fun _ _ e=>e) | exact wpAny_bind (wpAny_pure (wpAny_bind (wpAny_mono key (fun r s' h'=>by obtain ⟨rfl,hq⟩:=h'; exact wpAny_pure hq) fun _ _ e=>e)))
end
section
variable {X:Cx}
theorem o8 {a:Expr} {ta:TE} (ha:PE X a ta) (he:∀ whole,isTrue a X.env whole = (do let v ← whole; standAt a.pos; holding [v] (truthy v))) :
    PT X a (fun σ H Q=>ta σ H fun x H'=>∃ d kvs,x = .ref d∧Rd H' d (.dT kvs)∧Q (!kvs.isEmpty) H'):=by
  intro pins s σ H Q I h
  refine isTrue_plain (thn (ha pins s σ H _ I h) fun v s1 ⟨x,H1,I1,r1,d,kvs,ex,hd,q1⟩=>?_) (he _)
  subst ex
  obtain rfl:v = Value.ref d:=r1
  obtain ⟨z,nm,xs,rel,o,es,ep,g1,g2,g3,g4,g5⟩:=(show ObjOk X.prog X.w H1 s1.heap d (.dT kvs) from hd.ok I1.hok)
  have hsz:es.size = kvs.length:=by rw [size_of_entries g4,Paired.length rel]
  have sl:sizeLine = 16777216:=sizeLine_eq
  refine qr nm ⟨o,g1,g2,g3⟩ (by omega) ?_
  have e:((es.size:Int) != 0) = !kvs.isEmpty:=by rw [hsz]; cases kvs <;> simp <;> omega
  rw [e]
  exact ⟨H1,I1.tok _,q1⟩
theorem p9 (hc:X.calm = true):CallR X (.builtin "min") (fun xs H Q=>∃ (p:Addr) (ns:List Int),xs = [.ref p]∧SqL X.K H p (ns.map V.int)∧0 < ns.length∧∀ m ∈ ns,(∀ x ∈ ns,m≤x)→Q (.int m) H):=by
  intro pins s σ H xs us Q I r h
  obtain ⟨p,ns,rfl,hq,hne,q⟩:=h
  obtain ⟨u,rfl,rx⟩:=er r
  cases rx
  obtain ⟨its,rv,pl,hz⟩:=I.list hq
  have hi:=gY rv
  obtain ⟨ys,e⟩:=hi.allInts.items
  have hns:ns = ys.toList.map (·.1):=by rw [← hi.numsOf,← nums_intItems,← e]
  have hsz:0 < ys.size:=by have h3:=hne; rw [hns,List.length_map,Array.length_toList] at h3; exact h3
  refine min_intList (I.ok.hd hc) (xs:=ys) (by rw [← e]; exact pl.isList) hsz fun v h' tk hv hk=>?_
  obtain ⟨t,rfl⟩:=intItems_at hv
  obtain ⟨h1,h2⟩:=argBest_lt (numAt ys) (ys.size - 1)
  refine ⟨.int _,H,I.kept hk,⟨_,rfl⟩,q _ ?_ fun x hx=>?_⟩
  · rw [hns,numAt_eq]; exact getD_mem (by rw [List.length_map,Array.length_toList]; omega)
  · rw [hns] at hx
    obtain ⟨j,hj,rfl⟩:=mem_getD hx
    rw [List.length_map,Array.length_toList] at hj
    rw [← numAt_eq]; exact h2 j (by omega)
def mw:V→List V→Hp→VK→Prop:=fun x vs H Q=>∃ l xs y,x = .ref l∧vs = [.int 0,y]∧H l = some (.lst xs)∧xs.length < sizeLine∧Q .non (upd H l (.lst (y :: xs)))
theorem m6:MtM X "list.insert" mw:=by
  intro pins s σ H x vs v us Q I rx rv h
  obtain ⟨l,xs,y,rfl,rfl,hH,hz,q⟩:=h
  cases rx
  obtain ⟨u0,u,rfl,⟨t,rfl⟩,ru⟩:=rv.two
  obtain ⟨z,its,n,r,hl,e⟩:=I.lstM hH
  refine call_meets F.slot_list_insert ⟨_,e,rfl⟩ F.entry_list_insert (F.args_list_insert_3 _ _ _) (AutoListH.list_insert_list_int_val_1 l its.toArray n 0 t u (by rw [fitsIndex_both (by decide) (by decide)]; exact Bool.false_ne_true) (by rw [List.size_toArray]; omega)) ⟨e,?_⟩
  refine ⟨.non,_,I.lset (its':=u :: its) hH e ?_ (.cons ru r) ?_,rfl,q⟩
  · simp
  · rw [List.length_cons]; omega
variable {o e:Expr} {es:List Expr} {to:TE} {t:TA} {apos cpos:Pos}
theorem pe_m.insert0 (ho:PE X o to) (ha:PA X (e :: es) t) (hbase:attributeBase o "insert" X.env (eval o X.env) = eval o X.env:=by rfl)
    (hfew:((backTo cpos (starEach (e :: es) X.env)).all (fun x=>!x.1) && (backToKw cpos (keywordEach [] X.env)).all (fun x=>x.1.isSome) && decide ((e :: es).length + ([]:List Keyword).length + (if ([]:List Keyword).isEmpty then 0 else 1) < 30)) = true:=by rfl)
    (hline:(apos.endLine == cpos.line) = true:=by rfl) (hs:starEach (e :: es) X.env = (false,eval e X.env) :: starEach es X.env:=by rfl) (hplain:(backTo cpos (starEach es X.env)).any (·.1) = false:=by rfl) :
    PE X (.Call (.Attribute o "insert" apos) (e :: es) [] cpos) (tBM X.K "list" mw to t):=nZ F.plainAttrs_list F.slot_list_insert F.type_list_insert m6 ho ha hbase hfew hline hs hplain
end
end L2
namespace L2
open PySem PySem.Spec PyProof.Rows
def ifE:Stmt→Expr
  | .If c _ _ _=>c
  | _=>dE
def yT:Expr→Expr
  | .UnaryOp _ e _=>e
  | _=>dE
abbrev TN:=VK→St→Hp→Prop
def PN (X:Cx) (sts:List Stmt) (t:TN):Prop :=
  ∀ (pins:List (Addr×Obj)) (s:Shared) (σ:St) (H:Hp) (R:VK),Inv X pins σ H s→t R σ H →
    wpAny (model X.prog X.w) X.A (execs sts X.env) (fun f s'=>f = .next∧∃ H',s'.os = X.s₀.os∧AllBare s'.gens∧Un X.fs X.ex X.H₀ H' X.s₀.heap s'.heap∧HOk X.prog X.w H' s'.heap∧R .non H') X.xe s
theorem tO {X:Cx} {st:Stmt} {rest:List Stmt} {t:TS} {u:TN} (h1:PS X st t) (h2:PN X rest u):PN X (st :: rest) (fun R σ H=>t { nx:=u R,rt:=fun _ _=>False } σ H):=by
  intro pins s σ H R I h
  refine wpAny_execs_cons (thn (h1 pins s σ H { nx:=u R,rt:=fun _ _=>False } I h) fun f s1 q=>?_)
  cases f with
  | next =>
    obtain ⟨σ',H',I',q⟩:=q
    exact h2 pins s1 σ' H' R I' q
  | ret v=>obtain ⟨v',σ',H',I',r,q⟩:=q; exact False.elim q
  | brk=>obtain ⟨_,_,_,q⟩:=q; exact False.elim q
  | cont=>obtain ⟨_,_,_,q⟩:=q; exact False.elim q
section
variable {P:Program} {w:World} {K:PySem.W.Frag} {mg:Str→Option Value} {base:Heap}
end
end L2
namespace L2
open PySem PySem.Spec PyProof.Rows
section
variable {P:Program} {w:World} {K:PySem.W.Frag} {mg:Str→Option Value} {base:Heap}
theorem xh {CX:CXT} {N:List Str} {qual:Str} {scope:Scope} {f:Addr} {cd:Value} {A:Around} {outer:List Env} {s s':Shared} {H H':Hp} {E:XK} {σ:St} (hN:N.Nodup) (hck:∀ p ∈ scope.names,p.2 = .cell→scope.names.lookup p.1 = some .cell)
    {pins:List (Addr×Obj)} (J:Inv (gv CX P w K mg base N qual scope f cd A outer s H E) pins σ H' s') :
    ∃ H3,Same H' H3∧iV (cellsFrom (s.heap.objs.size + 1) scope.names []) N σ H3∧(∀ b,H' b = none→H3 b≠none→∃ (i:Nat) (y:Str) (v:V),N[i]? = some y∧σ[i]? = some (some v)∧(cellsFrom (s.heap.objs.size + 1) scope.names []).lookup y = some b)∧Un (frs outer) [] H H3 s.heap s'.heap∧HOk P w H3 s'.heap:=by
  have hvis:∀ y c,(cellsFrom (s.heap.objs.size + 1) scope.names []).lookup y = some c→scope.names.lookup y = some .cell:=fun y c e=>by
    rcases fU _ _ _ (bb e) with z | z
    · cases z
    · exact hck _ z rfl
  obtain ⟨cells,hcells⟩:∃ l,l = cellsFrom (s.heap.objs.size + 1) scope.names []:=⟨_,rfl⟩
  rw [← hcells] at hvis ⊢
  have henv:(gv CX P w K mg base N qual scope f cd A outer s H E).env.cells = cells:=hcells.symm
  let G:Addr→V→Prop:=fun b v=>∃ (i:Nat) (y:Str),N[i]? = some y∧σ[i]? = some (some v)∧cells.lookup y = some b
  have G1:∀ b v v',G b v→G b v'→v = v':=by
    rintro b v v' ⟨i,y,a1,a2,a3⟩ ⟨j,z,b1,b2,b3⟩
    have:y = z:=J.ok.inj y z b (by rw [henv]; exact a3) (by rw [henv]; exact b3)
    subst this
    have:i = j:=gS hN a1 b1
    subst this
    rw [a2] at b2
    cases b2
    rfl
  have G2:∀ b v,G b v→H' b = none∧s.heap.objs.size≤b∧bW b v s'.heap:=by
    rintro b v ⟨i,y,a1,a2,a3⟩
    refine ⟨J.freeC y b (by rw [henv]; exact a3),J.ok.cab y b rfl (by rw [henv]; exact a3),?_⟩
    obtain ⟨m,hn,hl⟩:=J.loc
    obtain ⟨u,r,l⟩:=hl i y v a1 a2 (.inr (.inl (hvis y b a3)))
    rcases l with ⟨k,_⟩ | ⟨k,c,e,o,ho,hd⟩
    · exfalso
      have k:scope.names.lookup y = some .local:=k
      rw [hvis y b a3] at k
      cases k
    · have e:cells.lookup y = some c:=by rw [← henv]; exact e
      rw [a3] at e
      cases e
      exact ⟨o,u,ho,hd,r⟩
  classical
  let H3:Hp:=fun b=>if h:∃ v,G b v then some (.ext (bW b (Classical.choose h))) else H' b
  have g1:∀ b v,G b v→H3 b = some (.ext (bW b v)):=fun b v h=>by
    have hx:∃ v,G b v:=⟨v,h⟩
    show (if h:∃ v,G b v then some (.ext (bW b (Classical.choose h))) else H' b) = _
    rw [dif_pos hx,G1 b _ v (Classical.choose_spec hx) h]
  have g2:∀ b,(¬ ∃ v,G b v)→H3 b = H' b:=fun b h=>dif_neg h
  have sm:Same H' H3:=fun b o e=>by
    rw [g2 b fun ⟨v,z⟩=>by rw [(G2 b v z).1] at e; cases e]
    exact e
  have jb:Un (frs outer) [] H H' s.heap s'.heap:=J.base
  refine ⟨H3,sm,fun i y v c a1 a2 a3=>g1 c v ⟨i,y,a1,a2,a3⟩,(fun b n1 n2=>?_),⟨jb.keep,jb.slot,fun b o e n hx=>?_,jb.there,fun b xs e=>sm _ _ (jb.tups b xs e),fun b o u e=>sm _ _ (jb.frzs b o u e),fun b ps e=>?_⟩,fun b o e=>?_⟩
  · by_cases h:∃ v,G b v
    · obtain ⟨v,i,y,a1,a2,a3⟩:=h
      exact ⟨i,y,v,a1,a2,a3⟩
    · rw [g2 b h] at n2
      exact absurd n1 n2
  · rw [g2 b fun ⟨v,z⟩=>absurd (Nat.lt_of_lt_of_le (Heap.lt_size e) (G2 b v z).2.1) (Nat.lt_irrefl _)]
    exact jb.free b o e n hx
  · obtain ⟨more,z⟩:=jb.tbls b ps e
    exact ⟨more,sm _ _ z⟩
  · by_cases h:∃ v,G b v
    · obtain ⟨v,h⟩:=h
      rw [g1 b v h] at e
      cases e
      exact jQ (G2 b v h).2.2
    · rw [g2 b h] at e
      exact (J.hok b o e).stay (fun b' u' _ q=>q) (fun b' q=>sm _ _ q) fun b' xs q=>sm _ _ q
theorem wW {N:List Str} {qual:Str} {scope:Scope} {f:Addr} {cd:Value} {A:Around} {outer:List Env} {s:Shared} {H:Hp} {E:XK} {k:Nat} {g:Addr} {fd:FuncData} {ps:List Str} {sp:Sp} {ds:List Value} {dvs:List V} {x:Str} {p pos rp p2:Pos} {bd:List Stmt} {e:Expr} {es:List Expr} {t:TA} {tb:TS}
    (hN:N.Nodup) (hck:∀ p ∈ scope.names,p.2 = .cell→scope.names.lookup p.1 = some .cell) (hbd:PSs (cxG P w K mg base N qual scope f cd A outer s H E) bd tb)
    (F:FnOk P w K mg base CX0 k g fd ps sp) (hr:Room k (cxG P w K mg base N qual scope f cd A outer s H E).A) (hg:Gl (cxG P w K mg base N qual scope f cd A outer s H E) x) (hm:mg x = some (.ref g)) (hk:PySem.W.keepIn K (.ref g) = true) (hb:Binds K fd ps ds) (hd:Vals dvs ds)
    (ha:PA (cxG P w K mg base N qual scope f cd A outer s H E) (e :: es) t) (hdb:(x == ("__debug__" : Str)) = false:=by decide)
    (he:starEach (e :: es) (cxG P w K mg base N qual scope f cd A outer s H E).env = (false,eval e (cxG P w K mg base N qual scope f cd A outer s H E).env) :: starEach es (cxG P w K mg base N qual scope f cd A outer s H E).env:=by rfl)
    (hpl:(backTo pos (starEach es (cxG P w K mg base N qual scope f cd A outer s H E).env)).any (·.1) = false:=by rfl) :
    PN (cxG P w K mg base N qual scope f cd A outer s H E) [.If (.UnaryOp .Not (.Call (.Name x p) (e :: es) [] pos) p2) bd [] rp]
      (fun R σ H'=>t σ H' fun vs H1=>∀ H3,Same H1 H3→iV (cellsFrom (s.heap.objs.size + 1) scope.names []) N σ H3→sp (vs ++ dvs) H3 (fun v H4=>(v = .bl true∧R .non H4)∨(v = .bl false∧Same H3 H4∧∀ H5,Same H1 H5→tb { nx:=fun _ _=>False,rt:=fun _ _=>False } σ H5)) fun _ _ _=>False):=by
  intro pins s1 σ H1 R I h
  refine wpAny_execs_cons (wpAny_If (isTrue_not (isTrue_plain ?_)))
  refine wpAny_Call_Name_kw (fV I hg hm ?_ hdb)
  refine PySem.W.callWith_K (h₀:=base) I.ok.mod.kin hk (thn (ha pos pins s1 σ H1 _ I h) fun us s2 ⟨vs,H2,I2,r,q⟩=>⟨I2.kIn,?_⟩) he hpl
  have J:=I2
  obtain ⟨H3,sm,hc,hnew,un,hok⟩:=xh hN hck J
  have r2:Vals (vs ++ dvs) (us ++ ds):=r.append hd
  have q':=q H3 sm hc
  have hl:(us ++ ds).length = ps.length:=by rw [← r2.length]; exact F.len _ _ _ _ q'
  have hL:∀ b ∈ frs (envOfC qual scope s.heap.objs.size f cd :: outer),b = s.heap.objs.size∨b ∈ frs outer:=fun b hb=>by
    have:b ∈ s.heap.objs.size :: frs outer:=hb
    exact List.mem_cons.mp this
  have e0:Env0 P w K mg base (cxG P w K mg base N qual scope f cd A outer s H E).A (envOfC qual scope s.heap.objs.size f cd :: outer) s2 H3:=by
    have z:=J.env0
    refine ⟨z.frames,z.mod,fun b o e=>⟨(z.bs b o e).1,un.free b o (J.ok.bs b o e).1 (J.ok.bs b o e).2 (by simp)⟩,z.bsz,z.funs,fun b hb=>?_,hok,z.bare⟩
    cases q3:H3 b with
    | none=>rfl
    | some o =>
      obtain ⟨_,y,_,_,_,hy⟩:=hnew b (z.frf b hb) (by rw [q3]; simp)
      rcases hL b hb with rfl | hb'
      · exact absurd rfl (J.cne y _ hy)
      · obtain ⟨_,o',ho',_⟩:=J.ok.funs.mem hb'
        have:=J.ok.cab y b rfl hy
        exact absurd (Nat.lt_of_lt_of_le (Heap.lt_size ho') this) (Nat.lt_irrefl _)
  refine wpAny_call (codeAny_mono (F.run _ _ s2 H3 ⟨us,[]⟩ (us ++ ds) (vs ++ dvs) _ _ hr e0 (hb s2 us J.kIn hl) r2 q') fun rr s' hq=>?_)
  cases rr with
  | error e=>exact False.elim hq
  | ok fl =>
    cases fl with
    | ret u =>
      obtain ⟨v,H4,os,bare,un2,hok4,rv,qq⟩:=hq
      have hout:∀ b o,s.heap.get? b = some o→b ∉ frs outer→b ∉ frs (envOfC qual scope s.heap.objs.size f cd :: outer):=fun b o e n z=>by
        rcases hL b z with rfl | z
        · exact absurd (Heap.lt_size e) (Nat.lt_irrefl _)
        · exact n z
      have hin:∀ b,b ∈ frs outer→b ∈ frs (envOfC qual scope s.heap.objs.size f cd :: outer):=fun b z=>by
        show b ∈ s.heap.objs.size :: frs outer
        exact List.mem_cons_of_mem _ z
      have un4:Un (frs outer) [] H H4 s.heap s'.heap:=by
        refine ⟨fun b o e n hb hx=>un2.keep b o (un.keep b o e n hb hx) (un.free b o e n hx) (hout b o e hb) hx,fun b o e n hb hx=>?_,fun b o e n hx=>?_,fun b o e hx=>?_,fun b xs e=>un2.tups b xs (un.tups b xs e),fun b o u e=>un2.frzs b o u (un.frzs b o u e),fun b qs e=>?_⟩
        · obtain ⟨sl,e1⟩:=un.slot b o e n hb hx
          obtain ⟨sl',e2⟩:=un2.slot b _ e1 (un.free b o e n hx) (hin b hb) hx
          exact ⟨sl',e2⟩
        · obtain ⟨o',e1⟩:=un.there b o e hx
          exact un2.free b o' e1 (un.free b o e n hx) hx
        · obtain ⟨o',e1⟩:=un.there b o e hx
          exact un2.there b o' e1 hx
        · obtain ⟨m1,e1⟩:=un.tbls b qs e
          obtain ⟨m2,e2⟩:=un2.tbls b _ e1
          exact ⟨m1 ++ m2,by rw [e2,Array.append_assoc]⟩
      rcases qq with ⟨rfl,qq⟩ | ⟨rfl,sm4,qq⟩
      · obtain rfl:u = Value.bool true:=rv
        refine wpAny_truthy_bool ?_
        exact wpAny_execs_nil (wpAny_execs_nil ⟨rfl,H4,os.trans J.os,bare,un4,hok4,qq⟩)
      · obtain rfl:u = Value.bool false:=rv
        refine wpAny_truthy_bool ?_
        classical
        let H5:Hp:=fun b=>if ∃ y,(cxG P w K mg base N qual scope f cd A outer s H E).env.cells.lookup y = some b then none else H4 b
        have k1:∀ b,(∃ y,(cxG P w K mg base N qual scope f cd A outer s H E).env.cells.lookup y = some b)→H5 b = none:=fun b hb=>if_pos hb
        have k2:∀ b,(¬ ∃ y,(cxG P w K mg base N qual scope f cd A outer s H E).env.cells.lookup y = some b)→H5 b = H4 b:=fun b hb=>if_neg hb
        have dn:∀ b o,H5 b = some o→H4 b = some o:=fun b o e=>by
          by_cases hb:∃ y,(cxG P w K mg base N qual scope f cd A outer s H E).env.cells.lookup y = some b
          · rw [k1 b hb] at e; cases e
          · rw [k2 b hb] at e; exact e
        have isC:∀ b o y,(cxG P w K mg base N qual scope f cd A outer s H E).env.cells.lookup y = some b→H4 b = some o→∃ v,o = .ext (bW b v):=fun b o y hy e=>by
          obtain ⟨v0,ob,hob,_⟩:=J.cell y b hy
          cases q3:H3 b with
          | none=>rw [un2.free b ob hob q3 (by simp)] at e; cases e
          | some o3 =>
            obtain ⟨i',y',v,a1,a2,a3⟩:=hnew b (J.freeC y b hy) (by rw [q3]; simp)
            rw [sm4 _ _ (hc i' y' v b a1 a2 a3)] at e
            exact ⟨v,(Option.some.inj e).symm⟩
        have up:∀ b o,H4 b = some o→(∀ v,o≠.ext (bW b v))→H5 b = some o:=fun b o e n=>by
          rw [k2 b fun ⟨y,hy⟩=>by obtain ⟨v,ev⟩:=isC b o y hy e; exact n v ev]
          exact e
        have cellOf:∀ i y v c,N[i]? = some y→σ[i]? = some (some v)→(cxG P w K mg base N qual scope f cd A outer s H E).env.cells.lookup y = some c→∃ u,RelV v u∧s'.heap.IsCell c (some u):=fun i y v c a1 a2 a3=>by
          obtain ⟨⟨o,u,g1,g2,g3⟩,_⟩:=hok4 c _ (sm4 _ _ (hc i y v c a1 a2 a3))
          exact ⟨u,g3,o,g1,g2⟩
        have hLo:∃ m,s2.heap.Ns s.heap.objs.size m∧∀ (i:Nat) (x:Str) (v:V),N[i]? = some x→σ[i]? = some (some v)→Vis scope x→∃ u,RelV v u∧wx (cxG P w K mg base N qual scope f cd A outer s H E).env s2.heap m x u:=J.loc
        obtain ⟨m,hns,hlk⟩:=hLo
        obtain ⟨oL,es,ep,hoL,rL⟩:=hns
        have fL3:H3 s.heap.objs.size = none:=e0.frf _ (List.mem_cons_self ..)
        have fL4:H4 s.heap.objs.size = none:=un2.free _ oL hoL fL3 (by simp)
        obtain ⟨sl,hL'⟩:=un2.slot _ oL hoL fL3 (List.mem_cons_self ..) (by simp)
        have notF:∀ y c,(cxG P w K mg base N qual scope f cd A outer s H E).env.cells.lookup y = some c→c ∉ frs (envOfC qual scope s.heap.objs.size f cd :: outer):=fun y c e z=>by
          rcases hL c z with rfl | z
          · exact J.cne y _ e rfl
          · obtain ⟨_,o',ho',_⟩:=J.ok.funs.mem z
            exact absurd (Nat.lt_of_lt_of_le (Heap.lt_size ho') (J.ok.cab y c rfl e)) (Nat.lt_irrefl _)
        have c3:∀ y c,(cxG P w K mg base N qual scope f cd A outer s H E).env.cells.lookup y = some c→∃ v,s'.heap.IsCell c v:=fun y c e=>by
          obtain ⟨v,o,ho,hd'⟩:=J.cell y c e
          cases q3:H3 c with
          | none=>exact ⟨v,o,un2.keep c o ho q3 (notF y c e) (by simp),hd'⟩
          | some ob =>
            obtain ⟨i',y',v,a1,a2,a3⟩:=hnew c (J.freeC y c e) (by rw [q3]; simp)
            obtain ⟨u',_,hu'⟩:=cellOf i' y' v c a1 a2 a3
            exact ⟨_,hu'⟩
        have JJ:Inv (cxG P w K mg base N qual scope f cd A outer s H E) pins σ H5 s':=by
          refine ⟨J.ok,os.trans J.os,bare,⟨un4.keep,un4.slot,fun b o e n hx=>?_,un4.there,fun b xs e=>up _ _ (un4.tups b xs e) (fun v z=>nomatch z),fun b o u e=>up _ _ (un4.frzs b o u e) (fun v z=>nomatch z),fun b ps e=>?_⟩,⟨m,⟨_,es,ep,hL',rL⟩,fun i y v g1 g2 g3=>?_⟩,c3,?_,fun y c e=>k1 c ⟨y,e⟩,fun p hp=>?_,fun b o e=>?_,J.len⟩
          · have z:=un4.free b o e n hx
            cases z5:H5 b with
            | none=>rfl
            | some o5=>rw [dn _ _ z5] at z; cases z
          · obtain ⟨more,z⟩:=un4.tbls b ps e
            exact ⟨more,up _ _ z (fun v z=>nomatch z)⟩
          · obtain ⟨u,rv',l⟩:=hlk i y v g1 g2 g3
            rcases l with l | ⟨l,c,e,_⟩
            · exact ⟨u,rv',.inl l⟩
            · obtain ⟨u',r',ic⟩:=cellOf i y v c g1 g2 e
              exact ⟨u',r',.inr ⟨l,c,e,ic⟩⟩
          · cases z5:H5 ((cxG P w K mg base N qual scope f cd A outer s H E)).env.locals with
            | none=>rfl
            | some o5=>have:=dn _ _ z5; rw [show ((cxG P w K mg base N qual scope f cd A outer s H E)).env.locals = s.heap.objs.size from rfl,fL4] at this; cases this
          · obtain ⟨p1,p2',p3,p4,p5⟩:=J.pin p hp
            have n3:H3 p.1 = none:=by
              cases q3:H3 p.1 with
              | none=>rfl
              | some ob =>
                obtain ⟨i',y',v,a1,a2,a3⟩:=hnew p.1 p2' (by rw [q3]; simp)
                obtain ⟨v0,ob',hob',hd'⟩:=J.cell y' p.1 a3
                rw [p1] at hob'
                cases hob'
                exact absurd hd' (p5 v0)
            have nf:p.1 ∉ frs (envOfC qual scope s.heap.objs.size f cd :: outer):=fun z=>by
              rcases hL p.1 z with z | z
              · exact p3 z
              · exact p4 z
            refine ⟨un2.keep _ _ p1 n3 nf (by simp),?_,p3,p4,p5⟩
            have z:=un2.free _ _ p1 n3 (by simp)
            cases z5:H5 p.1 with
            | none=>rfl
            | some o5=>rw [dn _ _ z5] at z; cases z
          · exact (hok4 b o (dn b o e)).stay (fun _ _ _ q=>q) (fun b' q=>up _ _ q (fun v z=>nomatch z)) fun b' xs q=>up _ _ q (fun v z=>nomatch z)
        have sm5:Same H2 H5:=fun b o e=>by
          rw [k2 b fun ⟨y,hy⟩=>by rw [J.freeC y b hy] at e; cases e]
          exact sm4 _ _ (sm _ _ e)
        refine wpAny_mono (hbd pins s' σ H5 { nx:=fun _ _=>False,rt:=fun _ _=>False } JJ (qq H5 sm5)) (fun fl s3 hs=>?_) fun e s3 hs=>hs
        cases fl with
        | next=>obtain ⟨_,_,_,z⟩:=hs; exact False.elim z
        | ret v=>obtain ⟨_,_,_,_,_,z⟩:=hs; exact False.elim z
        | brk=>obtain ⟨_,_,_,z⟩:=hs; exact False.elim z
        | cont=>obtain ⟨_,_,_,z⟩:=hs; exact False.elim z
    | next=>exact False.elim hq
    | brk=>exact False.elim hq
    | cont=>exact False.elim hq
theorem Fun.okNG {x qual:Str} {st:Stmt} {f c:Addr} {fd:FuncData} {N ps:List Str} {k:Nat} {sp:Sp} (F:Fun K x qual st f fd) (hc:fd.code = .ref c) (S:FnScope N ps (ad st)) (hck:∀ p ∈ (ad st).names,p.2 = .cell→(ad st).names.lookup p.1 = some .cell)
    (len:∀ vs H Q E,sp vs H Q E→vs.length = ps.length)
    (hbody:∀ (A:Around) (outer:List Env) (s:Shared) (H:Hp) (vs:List V) (Q:VK) (E:XK),Room k (A.deeper (envOfC qual (ad st) s.heap.objs.size f (.ref c)))→sp vs H Q E →
      ∃ t,PN (cxG P w K mg base N qual (ad st) f (.ref c) A outer s H E) (ai st) t∧t Q (start N vs) H):FnOk P w K mg base (CXG P w) (k + 1) f fd ps sp:=by
  obtain ⟨oc,od,kV,doc,pm,an,cdv,ct,osl,rfl,lk,hcd⟩:=F.ex
  obtain rfl:cdv = .ref c:=hc
  refine ⟨len,fun A outer s H args us vs Q E hr e0 hb r hsp=>?_⟩
  have hl:=len _ _ _ _ hsp
  have KX:K.In s.heap:=e0.mod.kin.keeps fun b o e=>(e0.bs b o e).1
  have lim:s.heap.NoLimit:=e0.mod.nolimit.keeps fun b o e=>(e0.bs b o e).1
  have hkind:∀ y ∈ ps.zip us,(ad st).names.lookup y.1 = some .local∨((ad st).names.lookup y.1 = some .cell∧((cellsFrom (s.heap.objs.size + 1) (ad st).names []).lookup y.1).isSome = true):=fun ⟨n,v⟩ hy=>by
    rcases S.par n (List.of_mem_zip hy).1 with q | q
    · exact .inl q
    · exact .inr ⟨q,PySem.W.cellsFrom_some _ _ _ (.inl q)⟩
  refine codeAny_call_function hr.depth (KX _ _ lk) rfl S.co S.gen rfl (PySem.W.codeRec_of KX hcd) (hb _ _ _ _ ?_)
  refine wpAny_newFunctionEnv_cells S.kind hkind fun env he s1 x=>?_
  subst he
  refine ⟨lim.keeps x.toInCall.keep,codeAny_func ?_⟩
  obtain ⟨t,ht,hq⟩:=hbody A outer s H vs Q E (hr.deeper _) hsp
  have I:Inv (gv (CXG P w) P w K mg base N qual (ad st) f (.ref c) A outer s H E) [] (start N vs) H s1:=iu S hr.hd e0 hl r x
  refine wpAny_mono (ht [] s1 (start N vs) H Q I hq) (fun fl s' hs=>?_) fun e s' hs=>hs
  obtain ⟨rfl,H',g1,g2,g3,g4,q⟩:=hs
  exact ⟨.non,H',g1,g2,g3,g4,rfl,q⟩
end
end L2
namespace L2
open PySem PySem.Spec PyProof.Rows
inductive Td where
  | non | bl (b:Bool) | int (i:Int) | str (s:Str) | tup (l:List Td) | lst (l:List Td) | dic
mutual
def Is (H:Hp):Td→V→Prop
  | .non,x=>x = .non
  | .bl b,x=>x = .bl b
  | .int i,x=>x = .int i
  | .str s,x=>x = .str s
  | .tup ds,x=>∃ p xs,x = .ref p∧H p = some (.tup xs)∧Iss H ds xs
  | .lst ds,x=>∃ p xs,x = .ref p∧H p = some (.lst xs)∧Iss H ds xs
  | .dic,x=>∃ p,x = .ref p∧H p = some (.dK [])
def Iss (H:Hp):List Td→List V→Prop
  | [],xs=>xs = []
  | d :: ds,xs=>∃ y ys,xs = y :: ys∧Is H d y∧Iss H ds ys
end
structure Kp (H H':Hp):Prop where
  tup:∀ b xs,H b = some (.tup xs)→H' b = some (.tup xs)
  lst:∀ b xs,H b = some (.lst xs)→H' b = some (.lst xs)
  dic:∀ b,H b = some (.dK [])→H' b = some (.dK [])
mutual
theorem Is.k {H H':Hp} (s:Kp H H'):∀ {d:Td} {x:V},Is H d x→Is H' d x
  | .non,x,h=>by simpa [Is] using h
  | .bl _,x,h=>by simpa [Is] using h
  | .int _,x,h=>by simpa [Is] using h
  | .str _,x,h=>by simpa [Is] using h
  | .tup ds,x,h=>by
    rw [Is] at h ⊢
    obtain ⟨p,xs,h1,h2,h3⟩:=h
    exact ⟨p,xs,h1,s.tup _ _ h2,Iss.k s h3⟩
  | .lst ds,x,h=>by
    rw [Is] at h ⊢
    obtain ⟨p,xs,h1,h2,h3⟩:=h
    exact ⟨p,xs,h1,s.lst _ _ h2,Iss.k s h3⟩
  | .dic,x,h=>by
    rw [Is] at h ⊢
    obtain ⟨p,h1,h2⟩:=h
    exact ⟨p,h1,s.dic _ h2⟩
theorem Iss.k {H H':Hp} (s:Kp H H'):∀ {ds:List Td} {xs:List V},Iss H ds xs→Iss H' ds xs
  | [],xs,h=>by simpa [Iss] using h
  | d :: ds,xs,h=>by
    rw [Iss] at h ⊢
    obtain ⟨y,ys,h1,h2,h3⟩:=h
    exact ⟨y,ys,h1,h2.k s,Iss.k s h3⟩
end
theorem xY {H H':Hp} (s:SameT H H'):Kp H H':=⟨fun _ _ e=>s.at e,fun _ _ e=>s.at e,fun _ e=>s.at e⟩
theorem yF {H:Hp} {clos:List (Str×Addr)} {vals:List V} (ca:CellsAt H clos vals):Kp H (d6 H (clos.map (·.2))):=⟨fun _ _ e=>cJ ca e (fun v z=>by cases z),fun _ _ e=>cJ ca e (fun v z=>by cases z),fun _ e=>cJ ca e (fun v z=>by cases z)⟩
def nw (H H':Hp):Hp:=fun b=>match H b with | none=>H' b | some _=>none
theorem gh {H H':Hp} {b:Addr} {o:HO} (h0:H b = none) (h:H' b = some o):nw H H' b = some o:=by unfold nw; rw [h0]; exact h
theorem dR {H H':Hp} {b:Addr} {o:HO} (h:nw H H' b = some o):H b = none∧H' b = some o:=by
  unfold nw at h
  split at h
  · rename_i e; exact ⟨e,h⟩
  · cases h
theorem ym {H H':Hp}:Kp (nw H H') H':=⟨fun _ _ e=>(dR e).2,fun _ _ e=>(dR e).2,fun _ e=>(dR e).2⟩
theorem js {H0 H H' H2:Hp} (s:Same H0 H) (s':Same H' H2):Kp (nw H H') (nw H0 H2) :=
  ⟨fun _ _ e=>gh (s.free (dR e).1) (s' _ _ (dR e).2),fun _ _ e=>gh (s.free (dR e).1) (s' _ _ (dR e).2),fun _ e=>gh (s.free (dR e).1) (s' _ _ (dR e).2)⟩
theorem gy {H H':Hp} {l:Addr} {o o':HO} (h:H l = some o):Kp (nw H H') (upd H' l o'):=by
  have k:∀ b u,nw H H' b = some u→upd H' l o' b = some u:=fun b u e=>by
    obtain ⟨e1,e2⟩:=dR e
    rw [ao (fun z=>by rw [z,h] at e1; cases e1)]
    exact e2
  exact ⟨fun _ _ e=>k _ _ e,fun _ _ e=>k _ _ e,fun _ e=>k _ _ e⟩
theorem Is.nw {H H':Hp} {d:Td} {x:V} (h:Is (L2.nw H H') d x):Is H' d x:=h.k ym
theorem Is.fw {H H1 H2:Hp} {d:Td} {x:V} (h:Is (L2.nw H H1) d x) (s:Same H1 H2):Is (L2.nw H H2) d x:=h.k (js (Same.refl _) s)
theorem Is.bw {H H1 H2:Hp} {d:Td} {x:V} (h:Is (L2.nw H1 H2) d x) (s:Same H H1):Is (L2.nw H H2) d x:=h.k (js s (Same.refl _))
theorem Is.t {H H':Hp} (s:SameT H H') {d:Td} {x:V} (h:Is H d x):Is H' d x:=h.k (xY s)
theorem Iss.t {H H':Hp} (s:SameT H H') {ds:List Td} {xs:List V} (h:Iss H ds xs):Iss H' ds xs:=h.k (xY s)
theorem Is.same {H H':Hp} (s:Same H H') {d:Td} {x:V} (h:Is H d x):Is H' d x:=h.t s.t
theorem Iss.same {H H':Hp} (s:Same H H') {ds:List Td} {xs:List V} (h:Iss H ds xs):Iss H' ds xs:=h.t s.t
theorem aA {H:Hp}:Iss H [] []:=by rw [Iss]
theorem ag {H:Hp} {d:Td} {ds:List Td} {x:V} {xs:List V} (h:Is H d x) (t:Iss H ds xs):Iss H (d :: ds) (x :: xs):=by rw [Iss]; exact ⟨x,xs,rfl,h,t⟩
theorem is_tup {H:Hp} {ds:List Td} {x:V}:Is H (.tup ds) x↔∃ p xs,x = .ref p∧H p = some (.tup xs)∧Iss H ds xs:=by rw [Is]
theorem is_lst {H:Hp} {ds:List Td} {x:V}:Is H (.lst ds) x↔∃ p xs,x = .ref p∧H p = some (.lst xs)∧Iss H ds xs:=by rw [Is]
theorem iss_c {H:Hp} {d:Td} {ds:List Td} {xs:List V}:Iss H (d :: ds) xs↔∃ y ys,xs = y :: ys∧Is H d y∧Iss H ds ys:=by rw [Iss]
theorem iss_n {H:Hp} {xs:List V}:Iss H [] xs↔xs = []:=by rw [Iss]
theorem Iss.len {H:Hp}:∀ {ds:List Td} {xs:List V},Iss H ds xs→xs.length = ds.length
  | [],_,h=>by rw [iss_n.mp h]; rfl
  | d :: ds,_,h=>by
    obtain ⟨y,ys,rfl,_,t⟩:=iss_c.mp h
    rw [List.length_cons,List.length_cons,t.len]
theorem Iss.get {H:Hp}:∀ {ds:List Td} {xs:List V} {i:Nat} {x:V},Iss H ds xs→xs[i]? = some x→∃ d,ds[i]? = some d∧Is H d x
  | [],_,i,x,h,e=>by rw [iss_n.mp h] at e; cases e
  | d :: ds,_,i,x,h,e=>by
    obtain ⟨y,ys,rfl,hy,t⟩:=iss_c.mp h
    cases i with
    | zero=>cases e; exact ⟨d,rfl,hy⟩
    | succ i=>exact t.get (i:=i) e
theorem Iss.app {H:Hp}:∀ {ds es:List Td} {xs ys:List V},Iss H ds xs→Iss H es ys→Iss H (ds ++ es) (xs ++ ys)
  | [],_,_,_,h,k=>by rw [iss_n.mp h]; exact k
  | d :: ds,_,_,_,h,k=>by
    obtain ⟨y,ys,rfl,hy,t⟩:=iss_c.mp h
    exact ag hy (t.app k)
theorem Iss.take {H:Hp}:∀ {ds:List Td} {xs:List V} (n:Nat),Iss H ds xs→Iss H (ds.take n) (xs.take n)
  | _,_,0,_=>aA
  | [],_,n + 1,h=>by rw [iss_n.mp h]; exact aA
  | d :: ds,_,n + 1,h=>by
    obtain ⟨y,ys,rfl,hy,t⟩:=iss_c.mp h
    exact ag hy (t.take n)
theorem Iss.drop {H:Hp}:∀ {ds:List Td} {xs:List V} (n:Nat),Iss H ds xs→Iss H (ds.drop n) (xs.drop n)
  | _,_,0,h=>h
  | [],_,n + 1,h=>by rw [iss_n.mp h]; exact aA
  | d :: ds,_,n + 1,h=>by
    obtain ⟨y,ys,rfl,hy,t⟩:=iss_c.mp h
    exact t.drop n
def tyT:Td→Value
  | .non=>.type "NoneType"
  | .bl _=>.type "bool"
  | .int _=>.type "int"
  | .str _=>.type "str"
  | .tup _=>.type "tuple"
  | .lst _=>.type "list"
  | .dic=>.type "dict"
theorem Is.ty {K:PySem.W.Frag} {H:Hp} {d:Td} {x:V} (h:Is H d x):TyOf K H x (tyT d):=by
  cases d with
  | non=>rw [Is] at h; subst h; exact .non
  | bl b=>rw [Is] at h; subst h; exact .bl b
  | int b=>rw [Is] at h; subst h; exact .int b
  | str b=>rw [Is] at h; subst h; exact .str b
  | tup l=>obtain ⟨p,xs,rfl,h2,_⟩:=is_tup.mp h; exact .tup h2
  | lst l=>obtain ⟨p,xs,rfl,h2,_⟩:=is_lst.mp h; exact .lst h2
  | dic=>rw [Is] at h; obtain ⟨p,rfl,h2⟩:=h; exact .dK h2
def rZ (f:Expr→Td→Bool):List Expr→List Td→Bool
  | [],[]=>true
  | e :: es,d :: ds=>f e d && rZ f es ds
  | _,_=>false
def mj:Nat→Expr→Td→Bool
  | 0,_,_=>false
  | n + 1,e,d=>match e,d with
    | .Constant .none _ _,.non=>true
    | .Constant (.bool b) _ _,.bl c=>b == c
    | .Constant (.int i) _ _,.int j=>i == j
    | .Constant (.str s) _ _,.str t=>s == t
    | .UnaryOp .USub (.Constant (.int i) _ _) _,.int j=>-i == j
    | .Tuple es _ _,.tup ds=>decide (ds.length≤1000) && rZ (mj n) es ds
    | .List es _,.lst ds=>decide (ds.length≤1000) && rZ (mj n) es ds
    | .Dict [] [] _,.dic=>true
    | _,_=>false
def tS (d:Td):TE:=fun _ H Q=>∀ H' v,Same H H'→Is (nw H H') d v→Q v H'
def yi (ds:List Td):TA:=fun _ H Q=>∀ H' vs,Same H H'→Iss (nw H H') ds vs→Q vs H'
section
variable {X:Cx}
theorem rg {n:Nat} {e:Expr} {d:Td} {es:List Expr} (h:mj n e d = true):starEach (e :: es) X.env = (false,eval e X.env) :: starEach es X.env:=by
  cases n with
  | zero=>cases h
  | succ n =>
    unfold mj at h
    split at h <;> first | rfl | cases h
theorem kK {e:Expr} {v:V} {d:Td} (h:PE X e (tC v)) (hd:∀ H,Is H d v):PE X e (tS d):=fun pins s σ H Q I q=>h pins s σ H Q I (q H v (Same.refl _) (hd _))
theorem nO {f:Expr→Td→Bool} (hf:∀ e d,f e d = true→PE X e (tS d)) (hs:∀ e d es,f e d = true→starEach (e :: es) X.env = (false,eval e X.env) :: starEach es X.env):∀ (es:List Expr) (ds:List Td),rZ f es ds = true→PA X es (yi ds)
  | [],[],_=>fun pos pins s σ H Q I q=>ae pos pins s σ H Q I (q H [] (Same.refl _) aA)
  | e :: es,d :: ds,h=>by
    rw [rZ,Bool.and_eq_true] at h
    refine fun pos pins s σ H Q I q=>aa (hf e d h.1) (nO hf hs es ds h.2) (hs e d es h.1) pos pins s σ H Q I ?_
    exact fun H1 v s1 i1 H2 vs s2 i2=>q H2 (v :: vs) (s1.trans s2) (ag (i1.fw s2) (i2.k (js s1 (Same.refl _))))
  | [],_ :: _,h=>by cases h
  | _ :: _,[],h=>by cases h
theorem ip:∀ (n:Nat) {e:Expr} {d:Td},mj n e d = true→PE X e (tS d)
  | 0,_,_,h=>by cases h
  | n + 1,e,d,h=>by
    have sl:sizeLine = 16777216:=sizeLine_eq
    have rc:=nO (X:=X) (f:=mj n) (fun e d=>ip n) (fun e d es=>rg)
    unfold mj at h
    split at h
    · exact kK dh fun H=>by rw [Is]
    · rw [beq_iff_eq.mp h]; exact kK gW fun H=>by rw [Is]
    · rw [beq_iff_eq.mp h]; exact kK af fun H=>by rw [Is]
    · rw [beq_iff_eq.mp h]; exact kK dI fun H=>by rw [Is]
    · rw [← beq_iff_eq.mp h]
      exact fun pins s σ H Q I q=>gN gE af pins s σ H Q I (q H _ (Same.refl _) (by rw [Is]))
    · rw [Bool.and_eq_true,decide_eq_true_eq] at h
      refine fun pins s σ H Q I q=>bX (rc _ _ h.2) pins s σ H Q I fun H1 vs s1 i1=>⟨by rw [i1.len]; omega,fun p hp=>?_⟩
      exact q _ _ (s1.trans (Same.new hp)) (is_tup.mpr ⟨p,vs,rfl,gh (s1.free hp) ac,i1.k (js (Same.refl _) (Same.new hp))⟩)
    · rw [Bool.and_eq_true,decide_eq_true_eq] at h
      refine fun pins s σ H Q I q=>dN (rc _ _ h.2) pins s σ H Q I fun H1 vs s1 i1=>⟨by rw [i1.len]; omega,fun p hp=>?_⟩
      exact q _ _ (s1.trans (Same.new hp)) (is_lst.mpr ⟨p,vs,rfl,gh (s1.free hp) ac,i1.k (js (Same.refl _) (Same.new hp))⟩)
    · refine fun pins s σ H Q I q=>qK pins s σ H Q I ?_
      exact fun p hp=>q _ _ (Same.new hp) (by rw [Is]; exact ⟨p,rfl,gh hp ac⟩)
    · cases h
end
section
variable {P:Program} {w:World} {K:PySem.W.Frag} {mg:Str→Option Value} {base:Heap}
theorem upG {k:Nat} {f:Addr} {fd:FuncData} {ps:List Str} {sp:Sp} (F:FnOk P w K mg base CX0 k f fd ps sp):FnOk P w K mg base (CXG P w) k f fd ps sp :=
  ⟨F.len,fun A outer s H args us vs Q E hr e0 hb hv hs=>codeAny_mono (F.run A outer s H args us vs Q E hr e0 hb hv hs) fun r s' hq=>by
    cases r with
    | error e=>exact False.elim hq
    | ok fl=>cases fl <;> exact hq⟩
theorem rk {k:Nat} {f:Addr} {fd:FuncData} {ps:List Str} {sp:Sp} (F:FnOk P w K mg base (CXG P w) k f fd ps sp):FnOk P w K mg base CX0 k f fd ps (fun vs H Q _=>sp vs H Q E0) :=
  ⟨fun vs H Q E h=>F.len vs H Q E0 h,fun A outer s H args us vs Q E hr e0 hb hv hs=>codeAny_mono (F.run A outer s H args us vs Q E0 hr e0 hb hv hs) fun r s' hq=>by
    cases r with
    | error e=>obtain ⟨_,_,_,_,_,_,_,z⟩:=hq; exact z
    | ok fl=>cases fl <;> exact hq⟩
end
section
variable {X:Cx}
theorem aP (n:Nat) {e:Expr} {d:Td} (h:mj n e d = true):PEq X e (tS d):=aT (ip n h)
theorem ft {a b:Expr} {ta tb:TE} {op:Operator} {r:R2} {pos:Pos} (ho:OpR X (binaryOp op) r) (ha:PEq X a ta) (hb:PEq X b tb):PEq X (.BinOp a op b pos) (tOp r ta tb):=aT (aB ho (fX ha) (fX hb))
theorem cB {e:Expr} {te:TE} {pos:Pos} (he:PEq X e te):PSt X (.Return (some e) pos) (xJ te):=gu (aG (fX he))
theorem dB:PSq X [] vJ:=by unfold PSq; exact bC
theorem dH {c:Expr} {b o:List Stmt} {tt:TT} {tb to:TS} {pos:Pos} (hc:PT X c tt) (hb:PSq X b tb) (ho:PSq X o to):PSt X (.If c b o pos) (yq tt tb to):=gu (cX hc (ly hb) (ly ho))
end
section
variable {P:Program} {w:World} {K:PySem.W.Frag} {mg:Str→Option Value} {base:Heap}
theorem Fun.okQ {x qual:Str} {st:Stmt} {f:Addr} {fd:FuncData} {N ps:List Str} {k:Nat} {sp:Sp} (F:Fun K x qual st f fd) (S:FnScope N ps (ad st)) (len:∀ vs H Q E,sp vs H Q E→vs.length = ps.length)
    (hbody:∀ (cdv:Value) (A:Around) (outer:List Env) (s:Shared) (H:Hp) (vs:List V) (Q:VK) (E:XK),Room k (A.deeper (envOfC qual (ad st) s.heap.objs.size f cdv))→sp vs H Q E →
      ∃ t,PSq (gv CX0 P w K mg base N qual (ad st) f cdv A outer s H E).nox (ai st) t∧t { nx:=fun _ H'=>Q .non H',rt:=Q } (start N vs) H):FnOk P w K mg base CX0 (k + 1) f fd ps sp :=
  F.ok S len fun cdv A outer s H vs Q E hr h=>let ⟨t,h1,h2⟩:=hbody cdv A outer s H vs Q E hr h; ⟨t,ly h1,h2⟩
end
theorem dz {H:Hp} {y:Addr} {o:HO} (hy:H y = none):Same H (untr (upd H y o) y):=fun b u e=>by
  have b1:b≠y:=fun z=>by rw [z,hy] at e; cases e
  rw [cT b1,ao b1]
  exact e
end L2
namespace L2
open PySem PySem.Spec PyProof.Rows PySem.W
section
variable {X:Cx}
def md:V→List V→Hp→VK→Prop:=fun x vs H Q=>∃ l xs y,∃ i:Int,x = .ref l∧vs = [.int i,y]∧H l = some (.lst xs)∧0≤i∧i≤xs.length∧xs.length < 1000∧Q .non (upd H l (.lst (xs.take i.toNat ++ y :: xs.drop i.toNat)))
theorem iW:∀ {xs:List V} {us:List Value} (k:Nat),Vals xs us→Vals (xs.take k) (us.take k)∧Vals (xs.drop k) (us.drop k)
  | _,_,0,h=>⟨.nil,h⟩
  | _,_,k + 1,.nil=>⟨.nil,.nil⟩
  | _,_,k + 1,.cons r t=>⟨.cons r (iW k t).1,(iW k t).2⟩
theorem nK:MtM X "list.insert" md:=by
  intro pins s σ H x vs v us Q I rx rv h
  obtain ⟨l,xs,y,i,rfl,rfl,hH,h0,hk,hz,q⟩:=h
  have sl:sizeLine = 16777216:=sizeLine_eq
  cases rx
  obtain ⟨u0,u,rfl,⟨t,rfl⟩,ru⟩:=rv.two
  obtain ⟨z,its,n,r,hl,e⟩:=I.lstM hH
  have hil:its.length = xs.length:=r.length.symm
  have i1:i < 1000:=by omega
  have fi:Builtin.List.listFitsIndex i = true:=fitsIndex_both (Int.le_trans (by decide) h0) (Int.lt_trans i1 (by decide))
  have nf:¬ (!Builtin.List.listFitsIndex i) = true:=fun z=>by rw [fi] at z; cases z
  have zs:its.toArray.size≤sizeLine:=by rw [List.size_toArray]; omega
  refine call_meets F.slot_list_insert ⟨_,e,rfl⟩ F.entry_list_insert (F.args_list_insert_3 _ _ _) (AutoListH.list_insert_list_int_val_1 l its.toArray n i t u nf zs) ⟨e,?_⟩
  refine ⟨.non,_,I.lset (its':=its.take i.toNat ++ u :: its.drop i.toNat) hH e ?_ ((iW i.toNat r).1.append (.cons ru (iW i.toNat r).2)) ?_,rfl,q⟩
  · have e1:min i.toNat its.toArray.size = i.toNat:=by rw [List.size_toArray,hil]; omega
    show ((its.toArray.extract 0 (if i < 0 then _ else min i.toNat its.toArray.size)).push u ++ its.toArray.extract (if i < 0 then _ else min i.toNat its.toArray.size)) = _
    rw [if_neg (by omega),e1]
    apply Array.toList_inj.mp
    simp
    exact List.take_of_length_le (by rw [List.length_drop]; omega)
  · rw [List.length_append,List.length_cons,List.length_take,List.length_drop]; omega
variable {o e:Expr} {es:List Expr} {to:TE} {t:TA} {apos cpos:Pos}
theorem pe_m.insertN (ho:PE X o to) (ha:PA X (e :: es) t) (hbase:attributeBase o "insert" X.env (eval o X.env) = eval o X.env:=by rfl)
    (hfew:((backTo cpos (starEach (e :: es) X.env)).all (fun x=>!x.1) && (backToKw cpos (keywordEach [] X.env)).all (fun x=>x.1.isSome) && decide ((e :: es).length + ([]:List Keyword).length + (if ([]:List Keyword).isEmpty then 0 else 1) < 30)) = true:=by rfl)
    (hline:(apos.endLine == cpos.line) = true:=by rfl) (hs:starEach (e :: es) X.env = (false,eval e X.env) :: starEach es X.env:=by rfl) (hplain:(backTo cpos (starEach es X.env)).any (·.1) = false:=by rfl) :
    PE X (.Call (.Attribute o "insert" apos) (e :: es) [] cpos) (tBM X.K "list" md to t):=nZ F.plainAttrs_list F.slot_list_insert F.type_list_insert nK ho ha hbase hfew hline hs hplain
end
end L2
set_option maxHeartbeats 1000000
namespace Led
def sI (f:Nat→Int):Nat→Int
  | 0=>0
  | n + 1=>sI f n + f n
theorem lJ {f g:Nat→Int}:∀ {n:Nat},(∀ i < n,f i = g i)→sI f n = sI g n
  | 0,_=>rfl
  | n + 1,h=>by rw [sI,sI,lJ (fun i hi=>h i (by lia)),h n (by lia)]
theorem ql (f g:Nat→Int):∀ n,sI (fun i=>f i + g i) n = sI f n + sI g n
  | 0=>rfl
  | n + 1=>by rw [sI,sI,sI,ql f g n]; lia
theorem oN {f:Nat→Int}:∀ {n:Nat},(∀ i < n,f i = 0)→sI f n = 0
  | 0,_=>rfl
  | n + 1,h=>by rw [sI,oN (fun i hi=>h i (by lia)),h n (by lia)]; rfl
theorem kf {f g:Nat→Int}:∀ {n:Nat},(∀ i < n,f i≤g i)→sI f n≤sI g n
  | 0,_=>Int.le_refl _
  | n + 1,h=>by
    rw [sI,sI]
    have:=kf (n:=n) (fun i hi=>h i (by lia))
    have:=h n (by lia)
    lia
theorem qT {f g:Nat→Int}:∀ {n j:Nat},j < n→(∀ i < n,f i≤g i)→f j < g j→sI f n < sI g n
  | 0,j,hj,_,_=>by lia
  | n + 1,j,hj,h,hlt=>by
    rw [sI,sI]
    by_cases c:j = n
    · subst c
      have:=kf (n:=j) (fun i hi=>h i (by lia))
      lia
    · have:=qT (n:=n) (j:=j) (by lia) (fun i hi=>h i (by lia)) hlt
      have:=h n (by lia)
      lia
theorem sO (f:Nat→Int) (j:Nat):∀ n,(∀ i,i≠j→f i = 0)→sI f n = if j < n then f j else 0
  | 0,_=>by rw [if_neg (by lia)]; rfl
  | n + 1,h=>by
    rw [sI,sO f j n h]
    by_cases c:j = n
    · subst c
      rw [if_neg (by lia),if_pos (by lia)]; lia
    · rw [h n (fun z=>c z.symm)]
      by_cases c2:j < n
      · rw [if_pos c2,if_pos (by lia)]; lia
      · rw [if_neg c2,if_neg (by lia)]; rfl
structure Un where
  r:Nat
  c:Nat
  lo:Int
  hi:Int
instance:Inhabited Un:=⟨⟨0,0,0,0⟩⟩
abbrev En:=Nat×Nat
def uAt (us:List Un) (p:Nat):Un:=us.getD p default
def wAt (ws:List Int) (p:Nat):Int:=ws.getD p 0
def oth (u:Un) (h:En):Option En:=if h = (0,u.r) then some (1,u.c) else if h = (1,u.c) then some (0,u.r) else none
def room (u:Un) (w:Int) (h:En):Int:=if h.1 = 0 then u.hi - w else w - u.lo
theorem ve (u:Un):oth u (0,u.r) = some (1,u.c):=if_pos rfl
theorem sZ (u:Un):oth u (1,u.c) = some (0,u.r):=by unfold oth; rw [if_neg (fun z=>by cases z),if_pos rfl]
theorem dG {u:Un} {h t:En} (e:oth u h = some t):(h = (0,u.r)∧t = (1,u.c))∨(h = (1,u.c)∧t = (0,u.r)):=by
  unfold oth at e
  split at e
  · rename_i c; exact .inl ⟨c,(Option.some.inj e).symm⟩
  · split at e
    · rename_i c; exact .inr ⟨c,(Option.some.inj e).symm⟩
    · cases e
theorem my {u:Un} {h t:En} (e:oth u h = some t):oth u t = some h:=by
  rcases dG e with ⟨rfl,rfl⟩ | ⟨rfl,rfl⟩
  · exact sZ u
  · exact ve u
theorem tR {u:Un} {h t h':En} (e:oth u h = some t) (e':(oth u h').isSome = true):h' = h∨h' = t:=by
  cases e2:oth u h' with
  | none=>rw [e2] at e'; cases e'
  | some t'=>rcases dG e with ⟨rfl,rfl⟩ | ⟨rfl,rfl⟩ <;> rcases dG e2 with ⟨rfl,_⟩ | ⟨rfl,_⟩ <;> simp
section
variable (us:List Un)
def qP (ws:List Int) (i:Nat):Int:=sI (fun p=>if (uAt us p).r = i then wAt ws p else 0) us.length
def rq (ws:List Int) (j:Nat):Int:=sI (fun p=>if (uAt us p).c = j then wAt ws p else 0) us.length
variable (rows cols:List Int)
def sp (ws:List Int) (e:En):Int:=if e.1 = 0 then wAt rows e.2 - qP us ws e.2 else rq us ws e.2 - wAt cols e.2
theorem g9 {ws:List Int} {p:Nat} (hp:p < ws.length) (v:Int) (q:Nat):wAt (ws.set p v) q = if q = p then v else wAt ws q:=by
  unfold wAt
  rw [List.getD,List.getD,List.getElem?_set]
  by_cases c:p = q
  · subst c; rw [if_pos rfl,if_pos rfl,if_pos hp]; rfl
  · rw [if_neg c,if_neg (fun z=>c z.symm)]
theorem mv {n p:Nat} (hp:p < n) (f:Nat→Bool) (w w':Nat→Int) (d:Int) (h1:∀ q,q≠p→w' q = w q) (h2:w' p = w p + d):sI (fun q=>if f q = true then w' q else 0) n = sI (fun q=>if f q = true then w q else 0) n + if f p = true then d else 0:=by
  have e:sI (fun q=>if f q = true then w' q else 0) n = sI (fun q=>(if f q = true then w q else 0) + (if q = p then (if f p = true then d else 0) else 0)) n:=lJ fun q _=>by
    by_cases c:q = p
    · subst c; rw [if_pos rfl,h2]; split <;> lia
    · rw [if_neg c,h1 q c]; lia
  rw [e,ql,sO _ p n (fun i hi=>if_neg hi),if_pos hp,if_pos rfl]
def eG (m:Int) (ws:List Int) (x:En×Nat):List Int:=ws.set x.2 (wAt ws x.2 + if x.1.1 = 0 then m else -m)
theorem jP (m:Int) (ws:List Int) (x:En×Nat):(eG m ws x).length = ws.length:=List.length_set
theorem uc {ws:List Int} (hl:ws.length = us.length) {h t:En} {p:Nat} (hp:p < us.length) (e:oth (uAt us p) h = some t) (m:Int) (k:En) (hk:k.1≤1):sp us rows cols (eG m ws (h,p)) k = sp us rows cols ws k - (if k = h then m else 0) + (if k = t then m else 0):=by
  unfold sp qP rq
  have g1:∀ q,q≠p→wAt (eG m ws (h,p)) q = wAt ws q:=fun q hq=>by unfold eG; rw [g9 (by lia),if_neg hq]
  have g2:wAt (eG m ws (h,p)) p = wAt ws p + if h.1 = 0 then m else -m:=by unfold eG; rw [g9 (by show p < ws.length; lia),if_pos rfl]
  have r1:=fun i=>mv hp (fun q=>decide ((uAt us q).r = i)) (wAt ws) (wAt (eG m ws (h,p))) _ g1 g2
  have r2:=fun i=>mv hp (fun q=>decide ((uAt us q).c = i)) (wAt ws) (wAt (eG m ws (h,p))) _ g1 g2
  simp only [decide_eq_true_eq] at r1 r2
  obtain ⟨a,b⟩:=k
  rcases dG e with ⟨rfl,rfl⟩ | ⟨rfl,rfl⟩
  · by_cases c:a = 0
    · subst c
      simp only [if_true]
      rw [r1]
      by_cases c2:(uAt us p).r = b
      · subst c2; simp; lia
      · rw [if_neg c2,if_neg (fun z=>c2 (Prod.mk.inj z).2.symm),if_neg (fun z=>by cases z)]; lia
    · have:a = 1:=by have:a≤1:=hk; lia
      subst this
      simp only [Nat.one_ne_zero,if_false]
      rw [r2]
      by_cases c2:(uAt us p).c = b
      · subst c2; simp; lia
      · rw [if_neg c2,if_neg (fun z=>by cases z),if_neg (fun z=>c2 (Prod.mk.inj z).2.symm)]; lia
  · by_cases c:a = 0
    · subst c
      simp only [if_true]
      rw [r1]
      by_cases c2:(uAt us p).r = b
      · subst c2; simp; lia
      · rw [if_neg c2,if_neg (fun z=>by cases z),if_neg (fun z=>c2 (Prod.mk.inj z).2.symm)]; lia
    · have:a = 1:=by have:a≤1:=hk; lia
      subst this
      simp only [Nat.one_ne_zero,if_false]
      rw [r2]
      by_cases c2:(uAt us p).c = b
      · subst c2; simp; lia
      · rw [if_neg c2,if_neg (fun z=>c2 (Prod.mk.inj z).2.symm),if_neg (fun z=>by cases z)]; lia
variable (ws:List Int)
def IsP:List (En×Nat)→En→En→Prop
  | [],s,e=>s = e
  | (h,p) :: P,s,e=>h = s∧p < us.length∧∃ t,oth (uAt us p) h = some t∧0 < room (uAt us p) (wAt ws p) h∧IsP P t e
theorem lO:∀ {P:List (En×Nat)} {s e:En},IsP us ws P s e→∀ {h:En} {p:Nat},(h,p) ∈ P→∀ {t:En},oth (uAt us p) h = some t→t ∈ P.map (·.1)∨t = e
  | [],_,_,_,_,_,hm,_,_=>by cases hm
  | (h0,p0) :: P,s,e,hP,h,p,hm,t,ht=>by
    obtain ⟨rfl,_,t0,e0,_,hP'⟩:=hP
    rcases List.mem_cons.mp hm with z | z
    · cases z
      rw [e0] at ht
      cases ht
      cases P with
      | nil=>exact .inr hP'
      | cons x P=>obtain ⟨hx,px⟩:=x; obtain ⟨rfl,_⟩:=hP'; exact .inl (by simp)
    · rcases lO hP' z ht with q | q
      · exact .inl (List.mem_cons_of_mem _ q)
      · exact .inr q
theorem jz:∀ {P:List (En×Nat)} {s e:En},IsP us ws P s e→(P.map (·.1) ++ [e]).Nodup→(P.map (·.2)).Nodup
  | [],_,_,_,_=>List.nodup_nil
  | (h0,p0) :: P,s,e,hP,nd=>by
    obtain ⟨rfl,_,t0,e0,_,hP'⟩:=hP
    rw [List.map_cons,List.cons_append,List.nodup_cons] at nd
    rw [List.map_cons,List.nodup_cons]
    refine ⟨fun z=>?_,jz hP' nd.2⟩
    obtain ⟨⟨h,p⟩,hm,rfl⟩:=List.mem_map.mp z
    have hs:(oth (uAt us p) h).isSome = true:=by
      have:∀ {P:List (En×Nat)} {s e:En},IsP us ws P s e→(h,p) ∈ P→(oth (uAt us p) h).isSome = true:=by
        intro P
        induction P with
        | nil=>intro s e _ z; cases z
        | cons x P ih =>
          intro s e q z
          obtain ⟨hx,px⟩:=x
          obtain ⟨rfl,_,t,et,_,q'⟩:=q
          rcases List.mem_cons.mp z with z | z
          · cases z; rw [et]; rfl
          · exact ih q' z
      exact this hP' hm
    rcases tR e0 hs with c | c
    · subst c
      exact nd.1 (List.mem_append_left _ (List.mem_map.mpr ⟨_,hm,rfl⟩))
    · subst c
      rcases lO us ws hP' hm (my e0) with q | q
      · exact nd.1 (List.mem_append_left _ q)
      · exact nd.1 (List.mem_append_right _ (by rw [q]; exact List.mem_singleton_self _))
theorem fA:∀ {P:List (En×Nat)} {s e:En},IsP us ws P s e→∀ x ∈ P,x.1.1≤1∧x.2 < us.length∧0 < room (uAt us x.2) (wAt ws x.2) x.1
  | [],_,_,_,_,hm=>by cases hm
  | (h0,p0) :: P,s,e,hP,x,hm=>by
    obtain ⟨rfl,hp,t0,e0,hr,hP'⟩:=hP
    rcases List.mem_cons.mp hm with z | z
    · subst z
      refine ⟨?_,hp,hr⟩
      rcases dG e0 with ⟨z,_⟩ | ⟨z,_⟩ <;> rw [z] <;> first | exact Nat.zero_le _ | exact Nat.le_refl _
    · exact fA hP' x z
def cY (m:Int) (P:List (En×Nat)) (ws:List Int):List Int:=P.foldl (eG m) ws
theorem ik (m:Int):∀ (P:List (En×Nat)) (ws:List Int),(cY m P ws).length = ws.length
  | [],_=>rfl
  | x :: P,ws=>by
    show (cY m P (eG m ws x)).length = _
    rw [ik m P,jP]
theorem lF (m:Int):∀ {P:List (En×Nat)} {s e:En} (ws':List Int),ws'.length = us.length→IsP us ws P s e→∀ k:En,k.1≤1→sp us rows cols (cY m P ws') k = sp us rows cols ws' k - (if k = s then m else 0) + (if k = e then m else 0)
  | [],s,e,ws',_,hP,k,_=>by
    have:s = e:=hP
    subst this
    show sp us rows cols ws' k = _
    lia
  | (h,p) :: P,s,e,ws',hl,hP,k,hk=>by
    obtain ⟨rfl,hp,t,et,_,hP'⟩:=hP
    show sp us rows cols (cY m P (eG m ws' (h,p))) k = _
    rw [lF m (eG m ws' (h,p)) (by rw [jP]; exact hl) hP' k hk,uc us rows cols hl hp et m k hk]
    lia
theorem lZ (m:Int):∀ {P:List (En×Nat)} {ws':List Int},(∀ x ∈ P,x.2 < ws'.length)→(P.map (·.2)).Nodup→∀ q,(q ∉ P.map (·.2)→wAt (cY m P ws') q = wAt ws' q)∧∀ x ∈ P,x.2 = q→wAt (cY m P ws') q = wAt ws' q + if x.1.1 = 0 then m else -m
  | [],_,_,_,q=>⟨fun _=>rfl,fun x hx=>by cases hx⟩
  | y :: P,ws',hb,nd,q=>by
    rw [List.map_cons,List.nodup_cons] at nd
    have hy:=hb y (List.mem_cons_self ..)
    obtain ⟨h1,h2⟩:=lZ m (P:=P) (ws':=eG m ws' y) (fun x hx=>by rw [jP]; exact hb x (List.mem_cons_of_mem _ hx)) nd.2 q
    refine ⟨fun hn=>?_,fun x hx e=>?_⟩
    · rw [List.map_cons,List.mem_cons] at hn
      show wAt (cY m P (eG m ws' y)) q = _
      rw [h1 fun z=>hn (.inr z)]
      unfold eG
      rw [g9 hy,if_neg fun z=>hn (.inl z)]
    · show wAt (cY m P (eG m ws' y)) q = _
      rcases List.mem_cons.mp hx with z | z
      · subst z
        rw [h1 (by rw [← e]; exact nd.1)]
        unfold eG
        rw [g9 hy,if_pos e.symm,e]
      · rw [h2 x z e]
        unfold eG
        rw [g9 hy,if_neg]
        intro c
        exact nd.1 (List.mem_map.mpr ⟨x,z,by rw [e,c]⟩)
structure Wi (ws:List Int):Prop where
  len:ws.length = us.length
  bd:∀ p < us.length,(uAt us p).lo≤wAt ws p∧wAt ws p≤(uAt us p).hi
theorem sN {m:Int} {P:List (En×Nat)} {s e:En} (hw:Wi us ws) (hP:IsP us ws P s e) (nd:(P.map (·.1) ++ [e]).Nodup) (h0:0≤m) (hm:∀ x ∈ P,m≤room (uAt us x.2) (wAt ws x.2) x.1):Wi us (cY m P ws):=by
  have once:=jz us ws hP nd
  have cN:=fA us ws hP
  refine ⟨by rw [ik]; exact hw.len,fun p hp=>?_⟩
  obtain ⟨h1,h2⟩:=lZ m (P:=P) (ws':=ws) (fun x hx=>by rw [hw.len]; exact (cN x hx).2.1) once p
  have bd:=hw.bd p hp
  by_cases c:p ∈ P.map (·.2)
  · obtain ⟨x,hx,e⟩:=List.mem_map.mp c
    rw [h2 x hx e]
    have hr:=hm x hx
    have ex:x.2 = p:=e
    rw [ex] at hr
    unfold room at hr
    by_cases c2:x.1.1 = 0
    · rw [if_pos c2] at hr ⊢; lia
    · rw [if_neg c2] at hr ⊢; lia
  · rw [h1 c]; exact bd
end
abbrev By:=List (En×Option Nat)
def keys (b:By):List En:=b.map (·.1)
section
variable (us:List Un) (ws:List Int)
def lS (h:En) (st:By×List En) (p:Nat):By×List En:=match oth (uAt us p) h with
  | none=>st
  | some t=>if t ∈ keys st.1 then st else if 0 < room (uAt us p) (wAt ws p) h then (st.1 ++ [(t,some p)],st.2 ++ [t]) else st
def cW (h:En) (b:By) (ah:List En) (n:Nat):By×List En:=(List.range n).foldl (lS us ws h) (b,ah)
theorem io (h:En) (b:By) (ah:List En) (n:Nat):cW us ws h b ah (n + 1) = lS us ws h (cW us ws h b ah n) n:=by
  unfold cW; rw [List.range_succ,List.foldl_append]; rfl
def bfs:Nat→By→List En→By
  | 0,b,_=>b
  | _ + 1,b,[]=>b
  | n + 1,b,h :: t=>bfs n (cW us ws h b t us.length).1 (cW us ws h b t us.length).2
structure Tree (S:List En) (b:By):Prop where
  nd:(keys b).Nodup
  par:∀ (i:Nat) (e:En) (p:Nat),b[i]? = some (e,some p)→p < us.length∧∃ j h,j < i∧(keys b)[j]? = some h∧oth (uAt us p) h = some e∧0 < room (uAt us p) (wAt ws p) h
  st:∀ e,(e,none) ∈ b→e ∈ S
theorem cG (b c:By):keys (b ++ c) = keys b ++ keys c:=List.map_append
theorem Tree.more {S:List En} {b:By} {h t:En} {p:Nat} (T:Tree us ws S b) (hp:p < us.length) (hh:h ∈ keys b) (ht:oth (uAt us p) h = some t) (hn:t ∉ keys b) (hr:0 < room (uAt us p) (wAt ws p) h):Tree us ws S (b ++ [(t,some p)]):=by
  refine ⟨?_,fun i e q hi=>?_,fun e he=>?_⟩
  · rw [cG]
    refine List.nodup_append.mpr ⟨T.nd,List.nodup_cons.mpr ⟨(fun z=>by cases z),List.nodup_nil⟩,fun x hx y hy z=>?_⟩
    have:y = t:=List.mem_singleton.mp hy
    exact hn (by rw [← this,← z]; exact hx)
  · by_cases c:i < b.length
    · rw [List.getElem?_append_left c] at hi
      obtain ⟨h1,j,h',h2,h3,h4,h5⟩:=T.par i e q hi
      refine ⟨h1,j,h',h2,?_,h4,h5⟩
      rw [cG,List.getElem?_append_left (by unfold keys; rw [List.length_map]; lia)]
      exact h3
    · rw [List.getElem?_append_right (by lia)] at hi
      have hz:i - b.length = 0:=by
        by_cases z:i - b.length = 0
        · exact z
        · rw [List.getElem?_eq_none (by rw [List.length_singleton]; lia)] at hi; cases hi
      rw [hz] at hi
      cases hi
      obtain ⟨j,hj⟩:=List.getElem?_of_mem hh
      have hjl:j < b.length:=by have:=(List.getElem?_eq_some_iff.mp hj).1; unfold keys at this; rw [List.length_map] at this; exact this
      refine ⟨hp,j,h,by lia,?_,ht,hr⟩
      rw [cG,List.getElem?_append_left (by unfold keys; rw [List.length_map]; lia)]
      exact hj
  · rcases List.mem_append.mp he with z | z
    · exact T.st e z
    · cases List.mem_singleton.mp z
structure Sc (S:List En) (h:En) (b:By) (t:List En) (n:Nat) (b':By) (t':List En):Prop where
  tree:Tree us ws S b'
  new:∃ c,b' = b ++ c∧t' = t ++ keys c
  done:∀ p < n,∀ e,oth (uAt us p) h = some e→e ∈ keys b'∨¬ 0 < room (uAt us p) (wAt ws p) h
theorem eE {S:List En} {h:En} {b:By} {t:List En} (T:Tree us ws S b) (hh:h ∈ keys b):∀ n,n≤us.length→Sc us ws S h b t n (cW us ws h b t n).1 (cW us ws h b t n).2
  | 0,_=>⟨T,⟨[],by rw [List.append_nil]; rfl,by unfold keys; rw [List.map_nil,List.append_nil]; rfl⟩,fun p hp=>by lia⟩
  | n + 1,hn=>by
    have ih:=eE (t:=t) T hh n (by lia)
    rw [io]
    generalize cW us ws h b t n = st at ih
    obtain ⟨c,e1,e2⟩:=ih.new
    have hh':h ∈ keys st.1:=by rw [e1,cG]; exact List.mem_append_left _ hh
    unfold lS
    cases eo:oth (uAt us n) h with
    | none=>exact ⟨ih.tree,ih.new,fun p hp e he=>by
        by_cases z:p = n
        · subst z; rw [eo] at he; cases he
        · exact ih.done p (by lia) e he⟩
    | some x =>
      simp only
      by_cases c1:x ∈ keys st.1
      · rw [if_pos c1]
        exact ⟨ih.tree,ih.new,fun p hp e he=>by
          by_cases z:p = n
          · subst z; rw [eo] at he; cases he; exact .inl c1
          · exact ih.done p (by lia) e he⟩
      · rw [if_neg c1]
        by_cases c2:0 < room (uAt us n) (wAt ws n) h
        · rw [if_pos c2]
          refine ⟨ih.tree.more us ws (by lia) hh' eo c1 c2,⟨c ++ [(x,some n)],by rw [e1,List.append_assoc],by rw [e2,cG,List.append_assoc]; rfl⟩,fun p hp e he=>?_⟩
          rw [cG]
          by_cases z:p = n
          · subst z; rw [eo] at he; cases he; exact .inl (List.mem_append_right _ (List.mem_singleton_self _))
          · exact (ih.done p (by lia) e he).imp (List.mem_append_left _) id
        · rw [if_neg c2]
          exact ⟨ih.tree,ih.new,fun p hp e he=>by
            by_cases z:p = n
            · subst z; rw [eo] at he; cases he; exact .inr c2
            · exact ih.done p (by lia) e he⟩
structure Fr (S:List En) (b:By) (ah:List En):Prop where
  tree:Tree us ws S b
  sub:∀ e ∈ ah,e ∈ keys b
  start:∀ e ∈ S,e ∈ keys b
  shut:∀ h ∈ keys b,h ∈ ah∨∀ p < us.length,∀ e,oth (uAt us p) h = some e→e ∈ keys b∨¬ 0 < room (uAt us p) (wAt ws p) h
theorem Fr.next {S:List En} {b:By} {h:En} {t:List En} (F:Fr us ws S b (h :: t)):Fr us ws S (cW us ws h b t us.length).1 (cW us ws h b t us.length).2:=by
  have sc:=eE us ws (t:=t) F.tree (F.sub h (List.mem_cons_self ..)) us.length (Nat.le_refl _)
  generalize cW us ws h b t us.length = st at sc
  obtain ⟨c,e1,e2⟩:=sc.new
  have mono:∀ e ∈ keys b,e ∈ keys st.1:=fun e he=>by rw [e1,cG]; exact List.mem_append_left _ he
  refine ⟨sc.tree,fun e he=>?_,fun e he=>mono e (F.start e he),fun k hk=>?_⟩
  · rw [e2] at he
    rcases List.mem_append.mp he with z | z
    · exact mono e (F.sub e (List.mem_cons_of_mem _ z))
    · rw [e1,cG]; exact List.mem_append_right _ z
  · rw [e1,cG] at hk
    rcases List.mem_append.mp hk with z | z
    · rcases F.shut k z with q | q
      · rcases List.mem_cons.mp q with q | q
        · subst q; exact .inr sc.done
        · exact .inl (by rw [e2]; exact List.mem_append_left _ q)
      · exact .inr fun p hp e he=>(q p hp e he).imp (mono e) id
    · exact .inl (by rw [e2]; exact List.mem_append_right _ z)
def mB (M:Nat) (b:By) (ah:List En):Nat:=2 * (M - b.length) + ah.length
theorem uq {S:List En} {b:By} {h:En} {t:List En} {M:Nat} (F:Fr us ws S b (h :: t)) (hM:(cW us ws h b t us.length).1.length≤M):mB M (cW us ws h b t us.length).1 (cW us ws h b t us.length).2 < mB M b (h :: t):=by
  have sc:=eE us ws (t:=t) F.tree (F.sub h (List.mem_cons_self ..)) us.length (Nat.le_refl _)
  generalize cW us ws h b t us.length = st at sc hM
  obtain ⟨c,e1,e2⟩:=sc.new
  unfold mB
  rw [e1] at hM ⊢
  rw [e2]
  unfold keys
  rw [List.length_append] at hM
  rw [List.length_append,List.length_append,List.length_map,List.length_cons]
  lia
end
end Led
set_option maxHeartbeats 1000000
namespace Led
def look (b:By) (e:En):Option (Option Nat):=(b.find? fun x=>decide (x.1 = e)).map (·.2)
theorem oz {b:By} (nd:(keys b).Nodup) {i:Nat} {x:En×Option Nat} (h:b[i]? = some x):look b x.1 = some x.2:=by
  unfold look
  have hm:x ∈ b:=List.mem_of_getElem? h
  cases hf:b.find? (fun y=>decide (y.1 = x.1)) with
  | none =>
    have:=List.find?_eq_none.mp hf x hm
    exact absurd (decide_eq_true rfl) this
  | some y =>
    have hy:=List.mem_of_find?_eq_some hf
    have he:y.1 = x.1:=by have:=List.find?_some hf; exact of_decide_eq_true this
    obtain ⟨j,hj⟩:=List.getElem?_of_mem hy
    have k1:(keys b)[i]? = some x.1:=by unfold keys; rw [List.getElem?_map,h]; rfl
    have k2:(keys b)[j]? = some x.1:=by unfold keys; rw [List.getElem?_map,hj,← he]; rfl
    have:i = j:=by
      obtain ⟨h1,e1⟩:=List.getElem?_eq_some_iff.mp k1
      obtain ⟨h2,e2⟩:=List.getElem?_eq_some_iff.mp k2
      have pw:=List.pairwise_iff_getElem.mp nd
      rcases Nat.lt_trichotomy i j with c | c | c
      · exact absurd (e1.trans e2.symm) (pw i j h1 h2 c)
      · exact c
      · exact absurd (e2.trans e1.symm) (pw j i h2 h1 c)
    subst this
    rw [h] at hj
    cases hj
    rfl
theorem qY {b:By} (nd:(keys b).Nodup) {i j:Nat} {e:En} (k1:(keys b)[i]? = some e) (k2:(keys b)[j]? = some e):i = j:=by
  obtain ⟨h1,e1⟩:=List.getElem?_eq_some_iff.mp k1
  obtain ⟨h2,e2⟩:=List.getElem?_eq_some_iff.mp k2
  have pw:=List.pairwise_iff_getElem.mp nd
  rcases Nat.lt_trichotomy i j with c | c | c
  · exact absurd (e1.trans e2.symm) (pw i j h1 h2 c)
  · exact c
  · exact absurd (e2.trans e1.symm) (pw j i h2 h1 c)
section
variable (us:List Un) (ws:List Int)
def bB (b:By):Nat→En→List (En×Nat)→List (En×Nat)
  | 0,_,acc=>acc
  | n + 1,e,acc=>match look b e with
    | some (some p)=>match oth (uAt us p) e with
      | some h=>bB b n h ((h,p) :: acc)
      | none=>acc
    | _=>acc
structure Wy (b:By) (i:Nat) (e l:En) (acc:List (En×Nat)):Prop where
  at_:(keys b)[i]? = some e
  path:IsP us ws acc e l
  nd:(acc.map (·.1) ++ [l]).Nodup
  far:∀ x ∈ acc.map (·.1) ++ [l],∃ j,i≤j∧(keys b)[j]? = some x
theorem Wy.first {S:List En} {b:By} {i:Nat} {e:En} (h:(keys b)[i]? = some e):Wy us ws b i e e [] :=
  ⟨h,rfl,List.nodup_cons.mpr ⟨(fun z=>by cases z),List.nodup_nil⟩,fun x hx=>⟨i,Nat.le_refl _,by rw [List.mem_singleton.mp hx]; exact h⟩⟩
theorem Wy.back {S:List En} {b:By} {i:Nat} {e l:En} {acc:List (En×Nat)} {p:Nat} (T:Tree us ws S b) (W:Wy us ws b i e l acc) (hl:look b e = some (some p)):p < us.length∧∃ j h,j < i∧oth (uAt us p) e = some h∧Wy us ws b j h l ((h,p) :: acc):=by
  have hb:b[i]? = some (e,some p):=by
    have h1:=W.at_
    unfold keys at h1
    rw [List.getElem?_map] at h1
    cases hc:b[i]? with
    | none=>rw [hc] at h1; cases h1
    | some x =>
      rw [hc] at h1
      have e1:x.1 = e:=Option.some.inj h1
      have:=oz T.nd hc
      rw [e1,hl] at this
      have e2:x.2 = some p:=(Option.some.inj this).symm
      obtain ⟨x1,x2⟩:=x
      subst e1 e2
      rfl
  obtain ⟨hp,j,h,hj,hk,ho,hr⟩:=T.par i e p hb
  refine ⟨hp,j,h,hj,my ho,⟨hk,⟨rfl,hp,e,ho,hr,W.path⟩,?_,fun x hx=>?_⟩⟩
  · rw [List.map_cons,List.cons_append,List.nodup_cons]
    refine ⟨fun z=>?_,W.nd⟩
    obtain ⟨j',hj',hk'⟩:=W.far h z
    have:=qY T.nd hk hk'
    lia
  · rw [List.map_cons,List.cons_append] at hx
    rcases List.mem_cons.mp hx with z | z
    · exact ⟨j,Nat.le_refl _,by rw [z]; exact hk⟩
    · obtain ⟨j',hj',hk'⟩:=W.far x z
      exact ⟨j',by lia,hk'⟩
theorem kz {S:List En} {b:By} (T:Tree us ws S b):∀ (n i:Nat) (e l:En) (acc:List (En×Nat)),i < n→Wy us ws b i e l acc→∃ s ∈ S,IsP us ws (bB us b n e acc) s l∧((bB us b n e acc).map (·.1) ++ [l]).Nodup
  | 0,i,e,l,acc,hi,_=>by lia
  | n + 1,i,e,l,acc,hi,W=>by
    have hk:=W.at_
    unfold keys at hk
    rw [List.getElem?_map] at hk
    obtain ⟨x,hx⟩:∃ x,b[i]? = some x:=by
      cases hc:b[i]? with
      | none=>rw [hc] at hk; cases hk
      | some x=>exact ⟨x,rfl⟩
    rw [hx] at hk
    have ex:x.1 = e:=Option.some.inj hk
    have hl:=oz T.nd hx
    rw [ex] at hl
    cases hp:x.2 with
    | none =>
      rw [hp] at hl
      have e0:bB us b (n + 1) e acc = acc:=by rw [bB,hl]
      rw [e0]
      refine ⟨e,T.st e ?_,W.path,W.nd⟩
      have:=List.mem_of_getElem? hx
      obtain ⟨x1,x2⟩:=x
      subst ex hp
      exact this
    | some p =>
      rw [hp] at hl
      obtain ⟨_,j,h,hj,ho,W'⟩:=W.back us ws T hl
      have e0:bB us b (n + 1) e acc = bB us b n h ((h,p) :: acc):=by rw [bB,hl]; simp only [ho]
      rw [e0]
      exact kz T n j h l _ (by lia) W'
variable (rows cols:List Int) (R C:Nat)
def OkU:Prop:=∀ p < us.length,(uAt us p).r < R∧(uAt us p).c < C∧(uAt us p).lo≤(uAt us p).hi
def outer (k:En→Bool) (g:Un→Int→Int):Int:=sI (fun p=>if k (0,(uAt us p).r) = true∧¬ k (1,(uAt us p).c) = true then g (uAt us p) (wAt ws p) else 0) us.length
def inner (k:En→Bool) (g:Un→Int→Int):Int:=sI (fun p=>if ¬ k (0,(uAt us p).r) = true∧k (1,(uAt us p).c) = true then g (uAt us p) (wAt ws p) else 0) us.length
def pos (x:Int):Int:=if 0 < x then x else 0
def mS:Int:=sI (fun i=>pos (sp us rows cols ws (0,i))) R + sI (fun j=>pos (sp us rows cols ws (1,j))) C
theorem yh:0≤mS us ws rows cols R C:=by
  unfold mS
  have z:∀ n,sI (fun _=>(0:Int)) n = 0:=fun n=>oN fun _ _=>rfl
  have l1:=kf (f:=fun _=>(0:Int)) (g:=fun i=>pos (sp us rows cols ws (0,i))) (n:=R) fun i _=>by show 0≤pos _; unfold pos; split <;> lia
  have l2:=kf (f:=fun _=>(0:Int)) (g:=fun i=>pos (sp us rows cols ws (1,i))) (n:=C) fun i _=>by show 0≤pos _; unfold pos; split <;> lia
  rw [z] at l1 l2
  lia
theorem vn {ws':List Int} {s l:En} {m:Int} (h:∀ k:En,k.1≤1→sp us rows cols ws' k = sp us rows cols ws k - (if k = s then m else 0) + (if k = l then m else 0)) (hm:0 < m) (h1:m≤sp us rows cols ws s) (h2:sp us rows cols ws l≤-m) (hr:(s.1 = 0∧s.2 < R)∨(s.1 = 1∧s.2 < C)):mS us ws' rows cols R C < mS us ws rows cols R C:=by
  have hne:s≠l:=fun z=>by subst z; lia
  have le:∀ k:En,k.1≤1→pos (sp us rows cols ws' k)≤pos (sp us rows cols ws k):=fun k hk=>by
    rw [h k hk]
    unfold pos
    by_cases c1:k = s
    · subst c1
      rw [if_pos rfl,if_neg hne]
      split <;> split <;> lia
    · rw [if_neg c1]
      by_cases c2:k = l
      · subst c2
        rw [if_pos rfl]
        split <;> split <;> lia
      · rw [if_neg c2]
        split <;> split <;> lia
  have lt:s.1≤1→pos (sp us rows cols ws' s) < pos (sp us rows cols ws s):=fun hk=>by
    rw [h s hk,if_pos rfl,if_neg hne]
    unfold pos
    split <;> split <;> lia
  unfold mS
  obtain ⟨a,b⟩:=s
  rcases hr with ⟨e,hb⟩ | ⟨e,hb⟩
  · have e':a = 0:=e
    subst e'
    have:=qT (f:=fun i=>pos (sp us rows cols ws' (0,i))) (g:=fun i=>pos (sp us rows cols ws (0,i))) hb (fun i _=>le (0,i) (Nat.zero_le _)) (lt (Nat.zero_le _))
    have:=kf (f:=fun i=>pos (sp us rows cols ws' (1,i))) (g:=fun i=>pos (sp us rows cols ws (1,i))) (n:=C) (fun i _=>le (1,i) (Nat.le_refl _))
    lia
  · have e':a = 1:=e
    subst e'
    have:=qT (f:=fun i=>pos (sp us rows cols ws' (1,i))) (g:=fun i=>pos (sp us rows cols ws (1,i))) hb (fun i _=>le (1,i) (Nat.le_refl _)) (lt (Nat.le_refl _))
    have:=kf (f:=fun i=>pos (sp us rows cols ws' (0,i))) (g:=fun i=>pos (sp us rows cols ws (0,i))) (n:=R) (fun i _=>le (0,i) (Nat.zero_le _))
    lia
end
end Led
set_option maxHeartbeats 1000000
namespace M80
inductive Wd | yes | no | opn
deriving DecidableEq
abbrev A4:=Int×Int×Int×Wd
abbrev PP:=List (A4×Option Int)
def tT (ps:PP):List Int:=ps.filterMap fun p=>p.2.map fun v=>p.1.1 * v
def wT (ps:PP):List Int:=ps.filterMap fun p=>p.2.map fun _=>p.1.1
def tF (ps:PP):Int:=(tT ps).sum
def wF (ps:PP):Int:=(wT ps).sum
theorem gA (z:A4) (o:Option Int) (ps:PP):tF ((z,o) :: ps) = (match o with | some v=>z.1 * v | none=>0) + tF ps:=by
  unfold tF tT
  cases o <;> simp
theorem fW (z:A4) (o:Option Int) (ps:PP):wF ((z,o) :: ps) = (match o with | some _=>z.1 | none=>0) + wF ps:=by
  unfold wF wT
  cases o <;> simp
theorem lD:∀ (zs:List A4) (f:List (Option Int)) (p:Nat) (z:A4) (v:Int),zs[p]? = some z→f[p]? = some none →
    wF (zs.zip (f.set p (some v))) = wF (zs.zip f) + z.1∧tF (zs.zip (f.set p (some v))) = tF (zs.zip f) + z.1 * v
  | [],_,p,z,v,h,_=>by simp at h
  | _ :: _,[],p,z,v,_,h=>by simp at h
  | y :: zs,o :: f,0,z,v,h,h'=>by
    simp at h h'
    subst h; subst h'
    simp only [List.set_cons_zero,List.zip_cons_cons,fW,gA]
    omega
  | y :: zs,o :: f,p + 1,z,v,h,h'=>by
    have ih:=lD zs f p z v (by simpa using h) (by simpa using h')
    simp only [List.set_cons_succ,List.zip_cons_cons,fW,gA,ih.1,ih.2]
    omega
theorem mY:∀ (zs:List A4) (f:List (Option Int)),(∀ z ∈ zs,1≤z.1)→0≤wF (zs.zip f)∧(∀ (p:Nat) z v,zs[p]? = some z→f[p]? = some (some v)→0 < wF (zs.zip f))
  | [],f,_=>⟨by simp [wF,wT],fun p z v h=>by simp at h⟩
  | _ :: _,[],_=>⟨by simp [wF,wT],fun p z v _ h=>by simp at h⟩
  | y :: zs,o :: f,h=>by
    obtain ⟨h1,h2⟩:=mY zs f fun z hz=>h z (List.mem_cons_of_mem _ hz)
    have hy:=h y (List.mem_cons_self ..)
    rw [List.zip_cons_cons,fW]
    refine ⟨?_,fun p z v e e'=>?_⟩
    · cases o <;> simp <;> omega
    · cases p with
      | zero =>
        simp at e e'
        subst e'
        show 0 < y.1 + _
        omega
      | succ p =>
        have:=h2 p z v (by simpa using e) (by simpa using e')
        cases o <;> simp <;> omega
theorem ii:∀ (zs:List A4) (f:List (Option Int)),(∀ o ∈ f,o = none)→wF (zs.zip f) = 0∧tF (zs.zip f) = 0
  | [],f,_=>by simp [wF,wT,tF,tT]
  | _ :: _,[],_=>by simp [wF,wT,tF,tT]
  | y :: zs,o :: f,h=>by
    obtain ⟨h1,h2⟩:=ii zs f fun z hz=>h z (List.mem_cons_of_mem _ hz)
    have:=h o (List.mem_cons_self ..)
    subst this
    rw [List.zip_cons_cons,fW,gA,h1,h2]
    simp
def lo (z:A4):Int:=z.2.1
def wd (z:A4):Wd:=z.2.2.2
def first (z:A4):Option Int:=if wd z = .yes then some (lo z) else none
def step (zs:List A4) (f:List (Option Int)) (p:Nat):List (Option Int) :=
  match zs[p]? with
  | some z=>if f.all (·.isNone) = true∨lo z * wF (zs.zip f) < tF (zs.zip f) then f.set p (some (lo z)) else f
  | none=>f
def may (zs:List A4):List Nat:=(List.range zs.length).filter fun i=>match zs[i]? with | some z=>wd z = .opn | none=>false
theorem mem_may {zs:List A4} {i:Nat}:i ∈ may zs↔∃ z,zs[i]? = some z∧wd z = .opn:=by
  unfold may
  rw [List.mem_filter,List.mem_range]
  constructor
  · rintro ⟨h,h'⟩
    rw [List.getElem?_eq_getElem h] at h' ⊢
    exact ⟨_,rfl,of_decide_eq_true h'⟩
  · rintro ⟨z,h,h'⟩
    refine ⟨(List.getElem?_eq_some_iff.mp h).1,?_⟩
    rw [h]
    exact decide_eq_true h'
def gR (zs:List A4) (i:Nat):Int:=match zs[i]? with | some z=>lo z | none=>0
structure Walk (zs:List A4) (done:List Nat) (f:List (Option Int)):Prop where
  len:f.length = zs.length
  yes:∀ (i:Nat) z,zs[i]? = some z→wd z = .yes→f[i]? = some (some (lo z))
  no:∀ (i:Nat) z,zs[i]? = some z→wd z = .no→f[i]? = some none
  opn:∀ (i:Nat) z,zs[i]? = some z→wd z = .opn→f[i]? = some none∨(i ∈ done∧f[i]? = some (some (lo z)))
  inn:∀ (i:Nat) z,zs[i]? = some z→wd z = .opn→f[i]? = some (some (lo z))→lo z * wF (zs.zip f)≤tF (zs.zip f)
  out:∀ (i:Nat) z,i ∈ done→zs[i]? = some z→wd z = .opn→f[i]? = some none→0 < wF (zs.zip f)∧tF (zs.zip f)≤lo z * wF (zs.zip f)
theorem nF (zs:List A4):Walk zs [] (zs.map first) where
  len:=by simp
  yes:=fun i z h hw=>by rw [List.getElem?_map,h]; simp [first,hw]
  no:=fun i z h hw=>by rw [List.getElem?_map,h]; simp [first,hw]
  opn:=fun i z h hw=>by rw [List.getElem?_map,h]; left; simp [first,hw]
  inn:=fun i z h hw e=>by rw [List.getElem?_map,h] at e; simp [first,hw] at e
  out:=fun i z hd=>by cases hd
theorem pN {zs:List A4} {done:List Nat} {f:List (Option Int)} (W:Walk zs done f) (hw:∀ z ∈ zs,1≤z.1) {p:Nat} {z:A4} (hz:zs[p]? = some z) (ho:wd z = .opn) (hn:p ∉ done) (hs:∀ k ∈ done,gR zs k≤lo z):Walk zs (done ++ [p]) (step zs f p):=by
  have fp:f[p]? = some none:=(W.opn p z hz ho).elim id fun h=>absurd h.1 hn
  obtain ⟨w0,wp⟩:=mY zs f hw
  have plt:p < f.length:=(List.getElem?_eq_some_iff.mp fp).1
  have z1:=hw z (List.mem_of_getElem? hz)
  have lowk:∀ (k:Nat) y,k ∈ done→zs[k]? = some y→lo y≤lo z:=fun k y hk e=>by have:=hs k hk; unfold gR at this; rw [e] at this; exact this
  unfold step
  rw [hz]
  simp only
  split
  · rename_i hc
    obtain ⟨e1,e2⟩:=lD zs f p z (lo z) hz fp
    have hle:lo z * wF (zs.zip f)≤tF (zs.zip f):=by
      rcases hc with hc | hc
      · obtain ⟨a,b⟩:=ii zs f fun o ho=>by simpa using (List.all_eq_true.mp hc) o ho
        rw [a,b]; simp
      · omega
    have nrej:∀ (k:Nat) y,k ∈ done→zs[k]? = some y→wd y = .opn→f[k]? = some none→False:=fun k y hk e hy en=>by
      obtain ⟨a,b⟩:=W.out k y hk e hy en
      rcases hc with hc | hc
      · obtain ⟨a',b'⟩:=ii zs f fun o ho=>by simpa using (List.all_eq_true.mp hc) o ho
        omega
      · have:=Int.mul_le_mul_of_nonneg_right (lowk k y hk e) w0
        omega
    refine ⟨by rw [List.length_set,W.len],fun i y hy hyw=>?_,fun i y hy hyw=>?_,fun i y hy hyw=>?_,fun i y hy hyw e=>?_,fun i y hd hy hyw e=>?_⟩
    · rw [List.getElem?_set_ne (fun c=>by subst c; rw [hz] at hy; cases hy; rw [ho] at hyw; cases hyw)]
      exact W.yes i y hy hyw
    · rw [List.getElem?_set_ne (fun c=>by subst c; rw [hz] at hy; cases hy; rw [ho] at hyw; cases hyw)]
      exact W.no i y hy hyw
    · by_cases c:p = i
      · subst c
        rw [hz] at hy; cases hy
        right
        exact ⟨by simp,List.getElem?_set_self plt⟩
      · rw [List.getElem?_set_ne c]
        exact (W.opn i y hy hyw).imp id fun h=>⟨List.mem_append_left _ h.1,h.2⟩
    · rw [e1,e2]
      by_cases c:p = i
      · subst c
        rw [hz] at hy; cases hy
        rw [Int.mul_add,Int.mul_comm (lo z) z.1]
        omega
      · rw [List.getElem?_set_ne c] at e
        have hd:i ∈ done:=(W.opn i y hy hyw).elim (fun h=>by rw [h] at e; cases e) fun h=>h.1
        have a:=W.inn i y hy hyw e
        have b:=Int.mul_le_mul_of_nonneg_right (lowk i y hd hy) (show (0:Int)≤z.1 by omega)
        rw [Int.mul_add]
        rw [Int.mul_comm (lo z) z.1] at b
        omega
    · exfalso
      by_cases c:p = i
      · subst c
        rw [List.getElem?_set_self plt] at e
        cases e
      · rw [List.getElem?_set_ne c] at e
        rcases List.mem_append.mp hd with hd | hd
        · exact nrej i y hd hy hyw e
        · exact c (List.mem_singleton.mp hd).symm
  · rename_i hc
    have hc1:¬ (f.all (·.isNone) = true):=fun h=>hc (.inl h)
    have hc2:tF (zs.zip f)≤lo z * wF (zs.zip f):=by
      have:¬ (lo z * wF (zs.zip f) < tF (zs.zip f)):=fun h=>hc (.inr h)
      omega
    have pos:0 < wF (zs.zip f):=by
      have:∃ o ∈ f,o≠none:=by
        refine Classical.byContradiction fun h=>hc1 ?_
        rw [List.all_eq_true]
        intro o ho
        cases o with
        | none=>rfl
        | some v=>exact absurd ⟨some v,ho,by simp⟩ h
      obtain ⟨o,ho,hne⟩:=this
      obtain ⟨i,hi⟩:=List.getElem?_of_mem ho
      have ilt:i < zs.length:=by have:=(List.getElem?_eq_some_iff.mp hi).1; rw [W.len] at this; exact this
      cases o with
      | none=>exact absurd rfl hne
      | some v=>exact wp i _ v (List.getElem?_eq_getElem ilt) hi
    refine ⟨W.len,W.yes,W.no,fun i y hy hyw=>(W.opn i y hy hyw).imp id fun h=>⟨List.mem_append_left _ h.1,h.2⟩,W.inn,fun i y hd hy hyw e=>?_⟩
    rcases List.mem_append.mp hd with hd | hd
    · exact W.out i y hd hy hyw e
    · have:=List.mem_singleton.mp hd
      subst this
      rw [hz] at hy; cases hy
      exact ⟨pos,hc2⟩
theorem mF {zs:List A4} (hw:∀ z ∈ zs,1≤z.1):∀ (todo done:List Nat) (f:List (Option Int)),Walk zs done f→(done ++ todo).Nodup→(∀ k ∈ todo,k ∈ may zs)→(done ++ todo).Pairwise (fun i j=>gR zs i≤gR zs j)→Walk zs (done ++ todo) (todo.foldl (step zs) f)
  | [],done,f,W,_,_,_=>by rw [List.append_nil]; exact W
  | p :: todo,done,f,W,nd,hm,hp=>by
    obtain ⟨z,hz,ho⟩:=mem_may.mp (hm p (List.mem_cons_self ..))
    have e:done ++ p :: todo = (done ++ [p]) ++ todo:=by simp
    have hn:p ∉ done:=fun h=>(List.nodup_append.mp nd).2.2 p h p (List.mem_cons_self ..) rfl
    have W':=pN W hw hz ho hn (fun k hk=>by
      have:=(List.pairwise_append.mp hp).2.2 k hk p (List.mem_cons_self ..)
      unfold gR at this ⊢
      rw [hz] at this
      exact this)
    rw [List.foldl_cons,e]
    rw [e] at nd hp
    exact mF hw todo (done ++ [p]) _ W' nd (fun k hk=>hm k (List.mem_cons_of_mem _ hk)) hp
structure Fil (zs:List A4) (c:A4→Int) (sg:Int) (f:List (Option Int)):Prop where
  len:f.length = zs.length
  yes:∀ (i:Nat) z,zs[i]? = some z→wd z = .yes→f[i]? = some (some (c z))
  no:∀ (i:Nat) z,zs[i]? = some z→wd z = .no→f[i]? = some none
  opn:∀ (i:Nat) z,zs[i]? = some z→wd z = .opn→(f[i]? = some none∧sg * (c z * wF (zs.zip f) - tF (zs.zip f))≤0)∨(f[i]? = some (some (c z))∧0≤sg * (c z * wF (zs.zip f) - tF (zs.zip f)))
  pos:0 < wF (zs.zip f)
theorem wJ {zs:List A4} {done:List Nat} {f:List (Option Int)} (W:Walk zs done f) (hw:∀ z ∈ zs,1≤z.1) (hd:∀ k ∈ may zs,k ∈ done) (hne:∃ z ∈ zs,wd z≠.no):Fil zs lo (-1) f:=by
  obtain ⟨w0,wp⟩:=mY zs f hw
  refine ⟨W.len,W.yes,W.no,fun i z h ho=>?_,?_⟩
  · rcases W.opn i z h ho with e | ⟨_,e⟩
    · have:=(W.out i z (hd i (mem_may.mpr ⟨z,h,ho⟩)) h ho e).2
      exact .inl ⟨e,by omega⟩
    · have:=W.inn i z h ho e
      exact .inr ⟨e,by omega⟩
  · obtain ⟨z,hz,hn⟩:=hne
    obtain ⟨i,hi⟩:=List.getElem?_of_mem hz
    cases hc:wd z with
    | yes=>exact wp i z _ hi (W.yes i z hi hc)
    | no=>exact absurd hc hn
    | opn =>
      rcases W.opn i z hi hc with e | ⟨_,e⟩
      · exact (W.out i z (hd i (mem_may.mpr ⟨z,hi,hc⟩)) hi hc e).1
      · exact wp i z _ hi e
def bG (z:A4):A4:=(z.1,-z.2.2.1,-z.2.1,z.2.2.2)
def hi (z:A4):Int:=z.2.2.1
def neg (o:Option Int):Option Int:=o.map fun v=>-v
theorem kd:∀ (zs:List A4) (f:List (Option Int)),wF (zs.zip (f.map neg)) = wF ((zs.map bG).zip f)∧tF (zs.zip (f.map neg)) = - tF ((zs.map bG).zip f)
  | [],f=>by simp [wF,wT,tF,tT]
  | _ :: _,[]=>by simp [wF,wT,tF,tT]
  | y :: zs,o :: f=>by
    obtain ⟨h1,h2⟩:=kd zs f
    simp only [List.map_cons,List.zip_cons_cons,fW,gA,h1,h2]
    cases o with
    | none=>simp [neg]
    | some v=>simp [neg,bG,Int.mul_neg]; omega
theorem rP {zs:List A4} {f:List (Option Int)} (F:Fil (zs.map bG) lo (-1) f):Fil zs hi 1 (f.map neg):=by
  obtain ⟨e1,e2⟩:=kd zs f
  have at_:∀ (i:Nat) z,zs[i]? = some z→(zs.map bG)[i]? = some (bG z):=fun i z h=>by rw [List.getElem?_map,h]; rfl
  refine ⟨by rw [List.length_map,F.len,List.length_map],fun i z h hc=>?_,fun i z h hc=>?_,fun i z h hc=>?_,by rw [e1]; exact F.pos⟩
  · rw [List.getElem?_map,F.yes i _ (at_ i z h) hc]; simp [neg,lo,bG,hi]
  · rw [List.getElem?_map,F.no i _ (at_ i z h) hc]; simp [neg]
  · rw [e1,e2]
    have e:lo (bG z) = - hi z:=rfl
    rcases F.opn i _ (at_ i z h) hc with ⟨g,g'⟩ | ⟨g,g'⟩
    · refine .inl ⟨by rw [List.getElem?_map,g]; simp [neg],?_⟩
      have nm:- hi z * wF ((zs.map bG).zip f) = -(hi z * wF ((zs.map bG).zip f)):=Int.neg_mul ..
      rw [e,nm] at g'
      omega
    · refine .inr ⟨by rw [List.getElem?_map,g,e]; simp [neg],?_⟩
      have nm:- hi z * wF ((zs.map bG).zip f) = -(hi z * wF ((zs.map bG).zip f)):=Int.neg_mul ..
      rw [e,nm] at g'
      omega
end M80
namespace My
open PySem L2 FrM Led
def top (i:Nat):Stmt:=PySem.Challenge.pw_fewspeak_k77_no_bounds_and_no_answers.main.body.getD i (.Pass ⟨0,0,0,0⟩)
abbrev bL:Stmt:=top 5
abbrev bp:Stmt:=top 6
abbrev aQ:Stmt:=top 12
abbrev aO:Stmt:=top 13
abbrev aW:Stmt:=top 15
abbrev b7:Stmt:=top 16
abbrev gm:Stmt:=top 17
abbrev bK:Stmt:=top 18
abbrev aZ:Stmt:=top 19
abbrev bx:Stmt:=top 20
abbrev dU:Stmt:=top 21
abbrev cb:Stmt:=top 22
abbrev bf:Stmt:=top 23
abbrev bi:Stmt:=top 24
abbrev cF:Stmt:=top 25
abbrev ce:Stmt:=top 26
abbrev bq:Stmt:=top 27
abbrev ba:Stmt:=top 28
abbrev bI:Stmt:=top 29
abbrev aK:Stmt:=top 31
abbrev dq:Stmt:=top 32
abbrev aE:Stmt:=top 38
abbrev bv:Stmt:=top 40
abbrev aJ:Stmt:=top 41
abbrev cf:Stmt:=top 42
abbrev aY:Stmt:=top 43
abbrev aR:Stmt:=top 44
abbrev bO:Stmt:=top 45
abbrev bt:Stmt:=top 46
abbrev aV:Stmt:=top 47
abbrev bZ:Stmt:=top 48
abbrev aM:Stmt:=top 49
abbrev be:Stmt:=top 50
abbrev cH:Stmt:=top 52
abbrev dv:Stmt:=top 53
abbrev cI:Stmt:=top 54
abbrev bj:Stmt:=top 55
abbrev bn:Stmt:=top 56
abbrev aX:Stmt:=top 57
abbrev bN:Stmt:=top 58
abbrev cL:Stmt:=top 59
abbrev gi:Stmt:=top 60
theorem lY:FnScope ["thing", "low", "high"] ["thing", "low", "high"] (ad bL):=⟨rfl,rfl,rfl,by decide +kernel,rfl,by decide +kernel,by decide +kernel⟩
theorem dk:FnScope ["thing", "most", "is_one"] ["thing", "most", "is_one"] (ad bp):=⟨rfl,rfl,rfl,by decide +kernel,rfl,by decide +kernel,by decide +kernel⟩
theorem im:FnScope ["thing"] ["thing"] (ad aQ):=⟨rfl,rfl,rfl,by decide +kernel,rfl,by decide +kernel,by decide +kernel⟩
theorem gM:FnScope ["thing", "rows", "columns"] ["thing", "rows", "columns"] (ad aO):=⟨rfl,rfl,rfl,by decide +kernel,rfl,by decide +kernel,by decide +kernel⟩
abbrev eu:Expr:=(yX (yT (ifE (yP aW 1))) 2)
def bV:LamD:=vG ((("need_bounds" : Str) ++ ".<locals>.") ++ "<lambda>") eu
theorem sc_need_bounds:FnScope ["rows", "columns", "units"] ["rows", "columns", "units"] (ad aW):=⟨rfl,rfl,rfl,by decide +kernel,rfl,by decide +kernel,by decide +kernel⟩
theorem sc_sums_of:FnScope ["weights", "units", "side", "many", "told", "unit", "weight"] ["weights", "units", "side", "many"] (ad b7):=⟨rfl,rfl,rfl,by decide +kernel,rfl,by decide +kernel,by decide +kernel⟩
theorem sc_led:FnScope ["rows", "columns", "units", "word", "weights", "spare", "by", "short", "path"] ["rows", "columns", "units"] (ad gm):=⟨rfl,rfl,rfl,by decide +kernel,rfl,by decide +kernel,by decide +kernel⟩
theorem sc_spare_of:FnScope ["rows", "columns", "units", "weights", "spare", "number", "told"] ["rows", "columns", "units", "weights"] (ad bK):=⟨rfl,rfl,rfl,by decide +kernel,rfl,by decide +kernel,by decide +kernel⟩
theorem sc_reached_from:FnScope ["starts", "units", "weights", "by", "start", "ahead", "here", "place", "unit", "there"] ["starts", "units", "weights"] (ad aZ):=⟨rfl,rfl,rfl,by decide +kernel,rfl,by decide +kernel,by decide +kernel⟩
theorem kH:FnScope ["unit", "here"] ["unit", "here"] (ad bx):=⟨rfl,rfl,rfl,by decide +kernel,rfl,by decide +kernel,by decide +kernel⟩
theorem uv:FnScope ["unit", "weight", "start"] ["unit", "weight", "start"] (ad dU):=⟨rfl,rfl,rfl,by decide +kernel,rfl,by decide +kernel,by decide +kernel⟩
theorem sc_path_to:FnScope ["last", "by", "units", "path", "here", "place"] ["last", "by", "units"] (ad cb):=⟨rfl,rfl,rfl,by decide +kernel,rfl,by decide +kernel,by decide +kernel⟩
theorem sc_given_along:FnScope ["path", "most", "units", "weights", "many", "told", "end", "place"] ["path", "most", "units", "weights"] (ad bf):=⟨rfl,rfl,rfl,by decide +kernel,rfl,by decide +kernel,by decide +kernel⟩
theorem jS:FnScope ["side", "by"] ["side", "by"] (ad bi):=⟨rfl,rfl,rfl,by decide +kernel,rfl,by decide +kernel,by decide +kernel⟩
theorem pi:FnScope ["rows", "columns", "units", "told"] ["rows", "columns", "units", "told"] (ad cF):=⟨rfl,rfl,rfl,by decide +kernel,rfl,by decide +kernel,by decide +kernel⟩
theorem mZ:FnScope ["rows", "columns", "units", "weights"] ["rows", "columns", "units", "weights"] (ad ce):=⟨rfl,rfl,rfl,by decide +kernel,rfl,by decide +kernel,by decide +kernel⟩
theorem jW:FnScope ["rows", "columns", "units", "told", "word", "some", "others", "more", "outer", "inner"] ["rows", "columns", "units", "told"] (ad bq):=⟨rfl,rfl,rfl,by decide +kernel,rfl,by decide +kernel,by decide +kernel⟩
theorem sc_greatest_divisor:FnScope ["one", "other"] ["one", "other"] (ad aK):=⟨rfl,rfl,rfl,by decide +kernel,rfl,by decide +kernel,by decide +kernel⟩
theorem sc_share:FnScope ["top", "bottom", "divisor"] ["top", "bottom"] (ad dq):=⟨rfl,rfl,rfl,by decide +kernel,rfl,by decide +kernel,by decide +kernel⟩
theorem eV:FnScope ["weight", "low", "high"] ["weight", "low", "high"] (ad aE):=⟨rfl,rfl,rfl,by decide +kernel,rfl,by decide +kernel,by decide +kernel⟩
theorem kN:FnScope ["thing"] ["thing"] (ad bv):=⟨rfl,rfl,rfl,by decide +kernel,rfl,by decide +kernel,by decide +kernel⟩
theorem fY:FnScope ["thing"] ["thing"] (ad aJ):=⟨rfl,rfl,rfl,by decide +kernel,rfl,by decide +kernel,by decide +kernel⟩
theorem np:FnScope ["thing"] ["thing"] (ad cf):=⟨rfl,rfl,rfl,by decide +kernel,rfl,by decide +kernel,by decide +kernel⟩
theorem eT:FnScope ["answers", "is_one"] ["answers", "is_one"] (ad aY):=⟨rfl,rfl,rfl,by decide +kernel,rfl,by decide +kernel,by decide +kernel⟩
theorem sc_total_stretch:FnScope ["answers", "lows", "highs"] ["answers"] (ad aR):=⟨rfl,rfl,rfl,by decide +kernel,rfl,by decide +kernel,by decide +kernel⟩
theorem iP:FnScope ["answers", "filling"] ["answers", "filling"] (ad bO):=⟨rfl,rfl,rfl,by decide +kernel,rfl,by decide +kernel,by decide +kernel⟩
theorem kZ:FnScope ["answers", "filling"] ["answers", "filling"] (ad bt):=⟨rfl,rfl,rfl,by decide +kernel,rfl,by decide +kernel,by decide +kernel⟩
theorem sc_mean_stretch:FnScope ["answers", "lows", "turned", "highs"] ["answers"] (ad aV):=⟨rfl,rfl,rfl,by decide +kernel,rfl,by decide +kernel,by decide +kernel⟩
theorem nE:FnScope ["answers", "filling"] ["answers", "filling"] (ad bZ):=⟨rfl,rfl,rfl,by decide +kernel,rfl,by decide +kernel,by decide +kernel⟩
abbrev dL:Expr:=(kwE (zo (yP aM 2)) 0)
def bA:LamD:=vG ((("least_filling" : Str) ++ ".<locals>.") ++ "<lambda>") dL
theorem sc_least_filling:FnScope ["answers", "filling", "may_count", "place", "low"] ["answers"] (ad aM):=⟨rfl,rfl,rfl,by decide +kernel,rfl,by decide +kernel,by decide +kernel⟩
theorem jM:FnScope ["filling"] ["filling"] (ad be):=⟨rfl,rfl,rfl,by decide +kernel,rfl,by decide +kernel,by decide +kernel⟩
theorem qd:FnScope ["_law_script", "_law_k"] ["_law_script", "_law_k"] (ad cH):=⟨rfl,rfl,rfl,by decide +kernel,rfl,by decide +kernel,by decide +kernel⟩
theorem sc_L_mix:FnScope ["_law_cell_here", "_law_k", "_law_number"] ["_law_cell_here", "_law_k"] (ad dv):=⟨rfl,rfl,rfl,by decide +kernel,rfl,by decide +kernel,by decide +kernel⟩
theorem sc_L_kind:FnScope ["_law_way", "_law_things", "_law_kinds", "e"] ["_law_way", "_law_things"] (ad cI):=⟨rfl,rfl,rfl,by decide +kernel,rfl,by decide +kernel,by decide +kernel⟩
theorem sc_L_bad_list:FnScope ["_law_cell_here", "_law_place", "_law_some"] ["_law_cell_here", "_law_place"] (ad bj):=⟨rfl,rfl,rfl,by decide +kernel,rfl,by decide +kernel,by decide +kernel⟩
theorem sc_L_bad_unit:FnScope ["_law_cell_here", "_law_some"] ["_law_cell_here"] (ad bn):=⟨rfl,rfl,rfl,by decide +kernel,rfl,by decide +kernel,by decide +kernel⟩
theorem sc_L_bad_answer:FnScope ["_law_cell_here", "_law_way", "_law_some", "_law_one"] ["_law_cell_here", "_law_way"] (ad aX):=⟨rfl,rfl,rfl,by decide +kernel,rfl,by decide +kernel,by decide +kernel⟩
theorem sc_L_spoilt:FnScope ["_law_way", "_law_cell_here", "_law_things", "_law_place", "_law_good_here"] ["_law_way", "_law_cell_here"] (ad bN):=⟨rfl,rfl,rfl,by decide +kernel,rfl,by decide +kernel,by decide +kernel⟩
theorem sc_L_good:FnScope ["_law_way", "_law_edge", "_law_units", "_law_far", "_law_some"] ["_law_way", "_law_edge"] (ad cL):=⟨rfl,rfl,rfl,by decide +kernel,rfl,by decide +kernel,by decide +kernel⟩
theorem sc_law:FnScope ["_law_script", "_law_k", "_law_cell_here", "_law_way", "_law_due", "_law_good_here"] ["_law_script"] (ad gi):=⟨rfl,rfl,rfl,by decide +kernel,rfl,by decide +kernel,by decide +kernel⟩
set_option genInjectivity false in
set_option genSizeOf false in
structure Ad where
  f_is_whole:Addr
  d_is_whole:FuncData
  f_is_list_of:Addr
  d_is_list_of:FuncData
  f_is_wished_sum:Addr
  d_is_wished_sum:FuncData
  f_is_bounded_led:Addr
  d_is_bounded_led:FuncData
  f_need_bounds:Addr
  d_need_bounds:FuncData
  f_sums_of:Addr
  d_sums_of:FuncData
  f_led:Addr
  d_led:FuncData
  f_spare_of:Addr
  d_spare_of:FuncData
  f_reached_from:Addr
  d_reached_from:FuncData
  f_other_end:Addr
  d_other_end:FuncData
  f_room:Addr
  d_room:FuncData
  f_path_to:Addr
  d_path_to:FuncData
  f_given_along:Addr
  d_given_along:FuncData
  f_reached_on:Addr
  d_reached_on:FuncData
  f_is_led:Addr
  d_is_led:FuncData
  f_are_led:Addr
  d_are_led:FuncData
  f_shows_none:Addr
  d_shows_none:FuncData
  f_greatest_more:Addr
  d_greatest_more:FuncData
  f_is_rising:Addr
  d_is_rising:FuncData
  f_greatest_divisor:Addr
  d_greatest_divisor:FuncData
  f_share:Addr
  d_share:FuncData
  f_is_bounded_lacking:Addr
  d_is_bounded_lacking:FuncData
  f_is_answer:Addr
  d_is_answer:FuncData
  f_is_worded_answer:Addr
  d_is_worded_answer:FuncData
  f_is_word:Addr
  d_is_word:FuncData
  f_need_answers:Addr
  d_need_answers:FuncData
  f_total_stretch:Addr
  d_total_stretch:FuncData
  f_total_by:Addr
  d_total_by:FuncData
  f_weight_by:Addr
  d_weight_by:FuncData
  f_mean_stretch:Addr
  d_mean_stretch:FuncData
  f_mean_by:Addr
  d_mean_by:FuncData
  f_least_filling:Addr
  d_least_filling:FuncData
  f_counts_none:Addr
  d_counts_none:FuncData
  f_L_cell:Addr
  d_L_cell:FuncData
  f_L_mix:Addr
  d_L_mix:FuncData
  f_L_kind:Addr
  d_L_kind:FuncData
  f_L_bad_list:Addr
  d_L_bad_list:FuncData
  f_L_bad_unit:Addr
  d_L_bad_unit:FuncData
  f_L_bad_answer:Addr
  d_L_bad_answer:FuncData
  f_L_spoilt:Addr
  d_L_spoilt:FuncData
  f_L_good:Addr
  d_L_good:FuncData
  f_law:Addr
  d_law:FuncData
  c_SpeakError:Addr
  c_NoAnswers:Addr
  c_NoBounds:Addr
  k_WORDS:Addr
  lc_least_filling:Addr
  lp_least_filling:Addr
  lc_need_bounds:Addr
  lp_need_bounds:Addr
abbrev di:List (Pos×Str):=[(xQ dL,((("least_filling" : Str) ++ ".<locals>.") ++ "<lambda>"))]
theorem iG:(di).Pairwise fun x y=>¬ (x.1.line = y.1.line∧x.1.col = y.1.col):=by decide +kernel
abbrev dM:List (Pos×Str):=[(xQ eu,((("need_bounds" : Str) ++ ".<locals>.") ++ "<lambda>"))]
theorem jR:(dM).Pairwise fun x y=>¬ (x.1.line = y.1.line∧x.1.col = y.1.col):=by decide +kernel
def tabs (a:Ad):lR:=[(a.lp_least_filling,di),(a.lp_need_bounds,dM)]
theorem iF (a:Ad):(a.lp_least_filling,di) ∈ tabs a:=(.head _)
theorem jA (a:Ad):(a.lp_need_bounds,dM) ∈ tabs a:=(.tail _ (.head _))
structure Txt (K:PySem.W.Frag) (mg:Str→Option Value) (a:Ad):Prop where
  lcd_least_filling:a.d_least_filling.code = .ref a.lc_least_filling
  lch_least_filling:PySem.W.codeHdIn K a.lc_least_filling a.lp_least_filling = true
  lcd_need_bounds:a.d_need_bounds.code = .ref a.lc_need_bounds
  lch_need_bounds:PySem.W.codeHdIn K a.lc_need_bounds a.lp_need_bounds = true
  tnd:((tabs a).map (·.1)).Nodup
  F_is_whole:Fun K "is_whole" "is_whole" bL a.f_is_whole a.d_is_whole
  B_is_whole:Binds K a.d_is_whole ["thing", "low", "high"] []
  m_is_whole:mg "is_whole" = some (.ref a.f_is_whole)
  F_is_list_of:Fun K "is_list_of" "is_list_of" bp a.f_is_list_of a.d_is_list_of
  B_is_list_of:Binds K a.d_is_list_of ["thing", "most", "is_one"] []
  m_is_list_of:mg "is_list_of" = some (.ref a.f_is_list_of)
  F_is_wished_sum:Fun K "is_wished_sum" "is_wished_sum" aQ a.f_is_wished_sum a.d_is_wished_sum
  B_is_wished_sum:Binds K a.d_is_wished_sum ["thing"] []
  m_is_wished_sum:mg "is_wished_sum" = some (.ref a.f_is_wished_sum)
  F_is_bounded_led:Fun K "is_bounded" "is_bounded" aO a.f_is_bounded_led a.d_is_bounded_led
  B_is_bounded_led:Binds K a.d_is_bounded_led ["thing", "rows", "columns"] []
  m_is_bounded_led:mg "is_bounded_led" = some (.ref a.f_is_bounded_led)
  F_need_bounds:Fun K "need_bounds" "need_bounds" aW a.f_need_bounds a.d_need_bounds
  B_need_bounds:Binds K a.d_need_bounds ["rows", "columns", "units"] []
  m_need_bounds:mg "need_bounds" = some (.ref a.f_need_bounds)
  F_sums_of:Fun K "sums_of" "sums_of" b7 a.f_sums_of a.d_sums_of
  B_sums_of:Binds K a.d_sums_of ["weights", "units", "side", "many"] []
  m_sums_of:mg "sums_of" = some (.ref a.f_sums_of)
  F_led:Fun K "led" "led" gm a.f_led a.d_led
  B_led:Binds K a.d_led ["rows", "columns", "units"] []
  m_led:mg "led" = some (.ref a.f_led)
  F_spare_of:Fun K "spare_of" "spare_of" bK a.f_spare_of a.d_spare_of
  B_spare_of:Binds K a.d_spare_of ["rows", "columns", "units", "weights"] []
  m_spare_of:mg "spare_of" = some (.ref a.f_spare_of)
  F_reached_from:Fun K "reached_from" "reached_from" aZ a.f_reached_from a.d_reached_from
  B_reached_from:Binds K a.d_reached_from ["starts", "units", "weights"] []
  m_reached_from:mg "reached_from" = some (.ref a.f_reached_from)
  F_other_end:Fun K "other_end" "other_end" bx a.f_other_end a.d_other_end
  B_other_end:Binds K a.d_other_end ["unit", "here"] []
  m_other_end:mg "other_end" = some (.ref a.f_other_end)
  F_room:Fun K "room" "room" dU a.f_room a.d_room
  B_room:Binds K a.d_room ["unit", "weight", "start"] []
  m_room:mg "room" = some (.ref a.f_room)
  F_path_to:Fun K "path_to" "path_to" cb a.f_path_to a.d_path_to
  B_path_to:Binds K a.d_path_to ["last", "by", "units"] []
  m_path_to:mg "path_to" = some (.ref a.f_path_to)
  F_given_along:Fun K "given_along" "given_along" bf a.f_given_along a.d_given_along
  B_given_along:Binds K a.d_given_along ["path", "most", "units", "weights"] []
  m_given_along:mg "given_along" = some (.ref a.f_given_along)
  F_reached_on:Fun K "reached_on" "reached_on" bi a.f_reached_on a.d_reached_on
  B_reached_on:Binds K a.d_reached_on ["side", "by"] []
  m_reached_on:mg "reached_on" = some (.ref a.f_reached_on)
  F_is_led:Fun K "is_led" "is_led" cF a.f_is_led a.d_is_led
  B_is_led:Binds K a.d_is_led ["rows", "columns", "units", "told"] []
  m_is_led:mg "is_led" = some (.ref a.f_is_led)
  F_are_led:Fun K "are_led" "are_led" ce a.f_are_led a.d_are_led
  B_are_led:Binds K a.d_are_led ["rows", "columns", "units", "weights"] []
  m_are_led:mg "are_led" = some (.ref a.f_are_led)
  F_shows_none:Fun K "shows_none" "shows_none" bq a.f_shows_none a.d_shows_none
  B_shows_none:Binds K a.d_shows_none ["rows", "columns", "units", "told"] []
  m_shows_none:mg "shows_none" = some (.ref a.f_shows_none)
  F_greatest_more:Fun K "greatest_more" "greatest_more" ba a.f_greatest_more a.d_greatest_more
  B_greatest_more:Binds K a.d_greatest_more ["ones", "others"] []
  m_greatest_more:mg "greatest_more" = some (.ref a.f_greatest_more)
  F_is_rising:Fun K "is_rising" "is_rising" bI a.f_is_rising a.d_is_rising
  B_is_rising:Binds K a.d_is_rising ["numbers", "many"] []
  m_is_rising:mg "is_rising" = some (.ref a.f_is_rising)
  F_greatest_divisor:Fun K "greatest_divisor" "greatest_divisor" aK a.f_greatest_divisor a.d_greatest_divisor
  B_greatest_divisor:Binds K a.d_greatest_divisor ["one", "other"] []
  m_greatest_divisor:mg "greatest_divisor" = some (.ref a.f_greatest_divisor)
  F_share:Fun K "share" "share" dq a.f_share a.d_share
  B_share:Binds K a.d_share ["top", "bottom"] []
  m_share:mg "share" = some (.ref a.f_share)
  F_is_bounded_lacking:Fun K "is_bounded" "is_bounded" aE a.f_is_bounded_lacking a.d_is_bounded_lacking
  B_is_bounded_lacking:Binds K a.d_is_bounded_lacking ["weight", "low", "high"] []
  m_is_bounded_lacking:mg "is_bounded_lacking" = some (.ref a.f_is_bounded_lacking)
  F_is_answer:Fun K "is_answer" "is_answer" bv a.f_is_answer a.d_is_answer
  B_is_answer:Binds K a.d_is_answer ["thing"] []
  m_is_answer:mg "is_answer" = some (.ref a.f_is_answer)
  F_is_worded_answer:Fun K "is_worded_answer" "is_worded_answer" aJ a.f_is_worded_answer a.d_is_worded_answer
  B_is_worded_answer:Binds K a.d_is_worded_answer ["thing"] []
  m_is_worded_answer:mg "is_worded_answer" = some (.ref a.f_is_worded_answer)
  F_is_word:Fun K "is_word" "is_word" cf a.f_is_word a.d_is_word
  B_is_word:Binds K a.d_is_word ["thing"] []
  m_is_word:mg "is_word" = some (.ref a.f_is_word)
  F_need_answers:Fun K "need_answers" "need_answers" aY a.f_need_answers a.d_need_answers
  B_need_answers:Binds K a.d_need_answers ["answers", "is_one"] []
  m_need_answers:mg "need_answers" = some (.ref a.f_need_answers)
  F_total_stretch:Fun K "total_stretch" "total_stretch" aR a.f_total_stretch a.d_total_stretch
  B_total_stretch:Binds K a.d_total_stretch ["answers"] []
  m_total_stretch:mg "total_stretch" = some (.ref a.f_total_stretch)
  F_total_by:Fun K "total_by" "total_by" bO a.f_total_by a.d_total_by
  B_total_by:Binds K a.d_total_by ["answers", "filling"] []
  m_total_by:mg "total_by" = some (.ref a.f_total_by)
  F_weight_by:Fun K "weight_by" "weight_by" bt a.f_weight_by a.d_weight_by
  B_weight_by:Binds K a.d_weight_by ["answers", "filling"] []
  m_weight_by:mg "weight_by" = some (.ref a.f_weight_by)
  F_mean_stretch:Fun K "mean_stretch" "mean_stretch" aV a.f_mean_stretch a.d_mean_stretch
  B_mean_stretch:Binds K a.d_mean_stretch ["answers"] []
  m_mean_stretch:mg "mean_stretch" = some (.ref a.f_mean_stretch)
  F_mean_by:Fun K "mean_by" "mean_by" bZ a.f_mean_by a.d_mean_by
  B_mean_by:Binds K a.d_mean_by ["answers", "filling"] []
  m_mean_by:mg "mean_by" = some (.ref a.f_mean_by)
  F_least_filling:Fun K "least_filling" "least_filling" aM a.f_least_filling a.d_least_filling
  B_least_filling:Binds K a.d_least_filling ["answers"] []
  m_least_filling:mg "least_filling" = some (.ref a.f_least_filling)
  F_counts_none:Fun K "counts_none" "counts_none" be a.f_counts_none a.d_counts_none
  B_counts_none:Binds K a.d_counts_none ["filling"] []
  m_counts_none:mg "counts_none" = some (.ref a.f_counts_none)
  F_L_cell:Fun K "_law_cell" "_law_cell" cH a.f_L_cell a.d_L_cell
  B_L_cell:Binds K a.d_L_cell ["_law_script", "_law_k"] []
  m_L_cell:mg "_law_cell" = some (.ref a.f_L_cell)
  F_L_mix:Fun K "_law_mix" "_law_mix" dv a.f_L_mix a.d_L_mix
  B_L_mix:Binds K a.d_L_mix ["_law_cell_here", "_law_k"] []
  m_L_mix:mg "_law_mix" = some (.ref a.f_L_mix)
  F_L_kind:Fun K "_law_kind" "_law_kind" cI a.f_L_kind a.d_L_kind
  B_L_kind:Binds K a.d_L_kind ["_law_way", "_law_things"] []
  m_L_kind:mg "_law_kind" = some (.ref a.f_L_kind)
  F_L_bad_list:Fun K "_law_bad_list" "_law_bad_list" bj a.f_L_bad_list a.d_L_bad_list
  B_L_bad_list:Binds K a.d_L_bad_list ["_law_cell_here", "_law_place"] []
  m_L_bad_list:mg "_law_bad_list" = some (.ref a.f_L_bad_list)
  F_L_bad_unit:Fun K "_law_bad_unit" "_law_bad_unit" bn a.f_L_bad_unit a.d_L_bad_unit
  B_L_bad_unit:Binds K a.d_L_bad_unit ["_law_cell_here"] []
  m_L_bad_unit:mg "_law_bad_unit" = some (.ref a.f_L_bad_unit)
  F_L_bad_answer:Fun K "_law_bad_answer" "_law_bad_answer" aX a.f_L_bad_answer a.d_L_bad_answer
  B_L_bad_answer:Binds K a.d_L_bad_answer ["_law_cell_here", "_law_way"] []
  m_L_bad_answer:mg "_law_bad_answer" = some (.ref a.f_L_bad_answer)
  F_L_spoilt:Fun K "_law_spoilt" "_law_spoilt" bN a.f_L_spoilt a.d_L_spoilt
  B_L_spoilt:Binds K a.d_L_spoilt ["_law_way", "_law_cell_here"] []
  m_L_spoilt:mg "_law_spoilt" = some (.ref a.f_L_spoilt)
  F_L_good:Fun K "_law_good" "_law_good" cL a.f_L_good a.d_L_good
  B_L_good:Binds K a.d_L_good ["_law_way", "_law_edge"] []
  m_L_good:mg "_law_good" = some (.ref a.f_L_good)
  F_law:Fun K "law" "law" gi a.f_law a.d_law
  B_law:Binds K a.d_law ["_law_script"] []
  m_law:mg "law" = some (.ref a.f_law)
  g_MOST_SUMS:∃ u,mg "MOST_SUMS" = some u∧RelV (.int 6) u
  g_MOST_SUM:∃ u,mg "MOST_SUM" = some u∧RelV (.int 24000000) u
  g_MOST_UNITS:∃ u,mg "MOST_UNITS" = some u∧RelV (.int 24) u
  g_MOST_WEIGHT_led:∃ u,mg "MOST_WEIGHT_led" = some u∧RelV (.int 1000000) u
  g_MOST_ANSWERS:∃ u,mg "MOST_ANSWERS" = some u∧RelV (.int 24) u
  g_MOST_WEIGHT_lacking:∃ u,mg "MOST_WEIGHT_lacking" = some u∧RelV (.int 1000000) u
  g_ANSWER_BOUND:∃ u,mg "ANSWER_BOUND" = some u∧RelV (.int 1000000000) u
  g_WORDS:∃ u,mg "WORDS" = some u∧RelV (.ref a.k_WORDS) u
  t_WORDS:ll K a.k_WORDS [(.str "yes"),(.str "no"),(.str "open")] = true
  mc_SpeakError:mg "SpeakError" = some (.ref a.c_SpeakError)
  g_SpeakError:∃ u,mg "SpeakError" = some u∧RelV (.ref a.c_SpeakError) u
  kc_SpeakError:PySem.W.keepIn K (.ref a.c_SpeakError) = true
  xc_SpeakError:XCls K a.c_SpeakError
  xh_SpeakError:XHd K a.c_SpeakError
  xi_SpeakError:xIn K a.c_SpeakError none = true
  mc_NoAnswers:mg "NoAnswers" = some (.ref a.c_NoAnswers)
  g_NoAnswers:∃ u,mg "NoAnswers" = some u∧RelV (.ref a.c_NoAnswers) u
  kc_NoAnswers:PySem.W.keepIn K (.ref a.c_NoAnswers) = true
  xc_NoAnswers:XCls K a.c_NoAnswers
  xh_NoAnswers:XHd K a.c_NoAnswers
  xi_NoAnswers:xIn K a.c_NoAnswers none = true
  mc_NoBounds:mg "NoBounds" = some (.ref a.c_NoBounds)
  g_NoBounds:∃ u,mg "NoBounds" = some u∧RelV (.ref a.c_NoBounds) u
  kc_NoBounds:PySem.W.keepIn K (.ref a.c_NoBounds) = true
  xc_NoBounds:XCls K a.c_NoBounds
  xh_NoBounds:XHd K a.c_NoBounds
  xi_NoBounds:xIn K a.c_NoBounds none = true
  tn:PySem.W.mroIn K a.c_NoBounds (.ref a.c_SpeakError) = some true
  ta:PySem.W.mroIn K a.c_NoAnswers (.ref a.c_SpeakError) = some true
  k1:PySem.W.kitOne K (.ref a.c_NoBounds) (.ref a.c_NoBounds) = some true
  k2:PySem.W.kitOne K (.ref a.c_NoBounds) (.ref a.c_NoAnswers) = some false
  k3:PySem.W.kitOne K (.ref a.c_NoAnswers) (.ref a.c_NoBounds) = some false
  k4:PySem.W.kitOne K (.ref a.c_NoAnswers) (.ref a.c_NoAnswers) = some true
  z_abs:mg "abs" = none
  z_all:mg "all" = none
  z_bool:mg "bool" = none
  z_enumerate:mg "enumerate" = none
  z_int:mg "int" = none
  z_isinstance:mg "isinstance" = none
  z_len:mg "len" = none
  z_list:mg "list" = none
  z_max:mg "max" = none
  z_min:mg "min" = none
  z_range:mg "range" = none
  z_set:mg "set" = none
  z_sorted:mg "sorted" = none
  z_str:mg "str" = none
  z_sum:mg "sum" = none
  z_tuple:mg "tuple" = none
  z_zip:mg "zip" = none
  bl:∀ (s:Shared) (u:Value),BindsTo s a.d_law ⟨[u],[]⟩ [("_law_script",u)]
def spLaw (K:PySem.W.Frag) (ts:List Addr):Sp:=fun vs H Q _=>∃ (p:Addr) (ns:List Int),vs = [.ref p]∧SqL K H p (ns.map V.int)∧ns.length≤63∧(∀ P ∈ ts,H P = some (.tbl #[]))∧∀ H',Q (.bl true) H'
theorem law_start {K:PySem.W.Frag} {ts:List Addr} {H:Hp} {a:Addr} {ns:List Int} (hl:ns.length≤63) (hT:∀ P ∈ ts,H P = some (.tbl #[])) (hS:SqL K H a (ns.map V.int)):spLaw K ts [.ref a] H (fun v _=>v = .bl true) fun _ _ _=>False:=⟨a,ns,rfl,hS,hl,hT,fun _=>rfl⟩
inductive Thing (H:Hp):V→Option Int→Prop
  | int (i:Int):Thing H (.int i) (some i)
  | bl (b:Bool):Thing H (.bl b) none
  | non:Thing H .non none
  | str (t:Str):Thing H (.str t) none
  | lst (p:Addr) (xs:List V) (e:H p = some (.lst xs)):Thing H (.ref p) none
  | tup (p:Addr) (xs:List V) (e:H p = some (.tup xs)):Thing H (.ref p) none
  | dK (p:Addr) (kvs:List (Key×V)) (e:H p = some (.dK kvs)):Thing H (.ref p) none
def inR (lo hi:Int):Option Int→Bool
  | some i=>decide (lo≤i∧i≤hi)
  | none=>false
def gX:Sp:=fun vs H Q _=>∃ (x:V) (lo hi:Int) (o:Option Int),vs = [x,.int lo,.int hi]∧Thing H x o∧Q (.bl (inR lo hi o)) H
theorem cS {lo hi i:Int} (h0:lo≤i) (h1:i≤hi):inR lo hi (some i) = true:=decide_eq_true ⟨h0,h1⟩
theorem eF {α:Type} {R:α→V→Prop}:∀ {fs:List α} {xs:List V} {i:Nat} {x:V},PySem.Paired R fs xs→xs[i]? = some x→∃ f,fs[i]? = some f∧R f x
  | _,_,_,_,.nil,h=>by cases h
  | _,_,0,_,.cons r _,h=>⟨_,rfl,by cases h; exact r⟩
  | _,_,i + 1,_,.cons _ t,h=>eF (i:=i) t h
abbrev vT (u:Un):List V:=[.int (u.r:Nat),.int (u.c:Nat),.int u.lo,.int u.hi]
def IsU (H:Hp) (u:Un) (x:V):Prop:=∃ p,x = .ref p∧H p = some (.tup (vT u))
theorem IsU.tu {H H':Hp} {u:Un} {x:V} (s:fZ H H') (h:IsU H u x):IsU H' u x:=let ⟨p,e,q⟩:=h; ⟨p,e,s _ _ q⟩
abbrev AllU (H:Hp):List Un→List V→Prop:=PySem.Paired (IsU H)
theorem AllU.tu {H H':Hp} (s:fZ H H'):∀ {us:List Un} {xs:List V},AllU H us xs→AllU H' us xs
  | _,_,.nil=>.nil
  | _,_,.cons r t=>.cons (r.tu s) (AllU.tu s t)
theorem eQ {H:Hp} {D:Addr} {ys:List V} {o:HO} (h:H D = some (.lst ys)):fZ H (upd H D o):=fun b xs e=>by rw [ao (fun z=>by rw [z,h] at e; cases e)]; exact e
def OkN (u:Un) (R C:Nat):Prop:=u.r < R∧u.c < C∧0≤u.lo∧u.lo≤u.hi∧u.hi≤1000000
def yc (ns:List Int):Prop:=ns.length≤6∧∀ v ∈ ns,0≤v∧v≤24000000
structure In (H:Hp) (lr lc lu:Addr) (rows cols:List Int) (us:List Un) (xs:List V):Prop where
  r:H lr = some (.lst (rows.map V.int))
  c:H lc = some (.lst (cols.map V.int))
  u:H lu = some (.lst xs)
  all:AllU H us xs
  rs:yc rows
  cs:yc cols
  n:us.length≤24
  ok:∀ u ∈ us,OkN u rows.length cols.length
theorem In.same {H H':Hp} {lr lc lu:Addr} {rows cols:List Int} {us:List Un} {xs:List V} (s:Same H H') (h:In H lr lc lu rows cols us xs):In H' lr lc lu rows cols us xs:=⟨s _ _ h.r,s _ _ h.c,s _ _ h.u,h.all.tu s.tu,h.rs,h.cs,h.n,h.ok⟩
theorem In.t {H H':Hp} {lr lc lu:Addr} {rows cols:List Int} {us:List Un} {xs:List V} (s:SameT H H') (h:In H lr lc lu rows cols us xs):In H' lr lc lu rows cols us xs:=⟨s.at h.r,s.at h.c,s.at h.u,h.all.tu fun b xs e=>s.at e,h.rs,h.cs,h.n,h.ok⟩
theorem nd2 (n:Nat):([n + 1,n + 1 + 1]:List Nat).Nodup:=by
  simp only [List.nodup_cons,List.mem_cons,List.not_mem_nil,or_false,not_or,not_false_eq_true,List.nodup_nil,and_true]
  omega
def IsLam (H:Hp) (d:LamD) (fv:List Str) (v:V) (vals:List V):Prop:=∃ f c clos,v = .ref f∧H f = some (.ext (fq f d clos c))∧H c = some (.ext (dP c d.qual))∧clos.map (·.1) = fv∧(clos.map (·.2)).Nodup∧CellsAt H clos vals
theorem o6 {H H':Hp} (s:SameT H H'):∀ {clos:List (Str×Addr)} {vals:List V},CellsAt H clos vals→CellsAt H' clos vals
  | _,_,.nil=>.nil
  | _,_,.cons r t=>.cons (s.at r) (o6 s t)
theorem IsLam.t {H H':Hp} {d:LamD} {fv:List Str} {v:V} {vals:List V} (s:SameT H H') (h:IsLam H d fv v vals):IsLam H' d fv v vals:=by
  obtain ⟨f,c,clos,h1,h2,h3,h4,h5,h6⟩:=h
  exact ⟨f,c,clos,h1,s.at h2,s.at h3,h4,h5,o6 s h6⟩
theorem yw {H H' H3:Hp} {clos:List (Str×Addr)} (s:Same (d6 H (clos.map (·.2))) H') (s3:Same H' H3) (hc:∀ p ∈ clos,H3 p.2 = H p.2):Same H H3:=fun b o e=>by
  by_cases hb:b ∈ clos.map (·.2)
  · obtain ⟨p,hp,rfl⟩:=List.mem_map.mp hb
    rw [hc p hp,e]
  · exact (s.trans s3) b o (by rw [iz hb]; exact e)
abbrev fvB:List Str:=["rows", "columns"]
theorem lsB:LamScope bV fvB ["thing"]:=⟨rfl,rfl,rfl,by decide +kernel,by decide +kernel,by decide +kernel,by decide +kernel,by decide +kernel⟩
def fc (a:Ad):Sp:=fun vs H Q _=>∃ (lr lc lu:Addr) (rows cols:List Int) (us:List Un) (xs:List V),vs = [.ref lr,.ref lc,.ref lu]∧In H lr lc lu rows cols us xs∧TabsOk (tabs a) H∧∀ H',SameT H H'→TabsOk (tabs a) H'→Q .non H'
theorem bT {α β:Type} {f:α→β} {l:List α} {i:Nat} {x:α} (h:l[i]? = some x):(l.take (i + 1)).map f = (l.take i).map f ++ [f x]:=by
  rw [List.take_add_one,h,List.map_append]; rfl
def bE (lo hi:Int):Td→Bool
  | .int i=>inR lo hi (some i)
  | _=>false
def tM:Td→Int
  | .int i=>i
  | _=>0
theorem bz {lo hi:Int} {d:Td} (h:bE lo hi d = true):∃ i,d = .int i∧lo≤i∧i≤hi:=by
  cases d with
  | int i=>exact ⟨i,rfl,of_decide_eq_true h⟩
  | _=>cases h
theorem cZ {H:Hp} {i:Int} {x:V} (h:Is H (.int i) x):x = .int i:=by rw [Is] at h; exact h
theorem thing {H:Hp} {d:Td} {x:V} (h:Is H d x):∃ o,Thing H x o∧∀ lo hi,inR lo hi o = bE lo hi d:=by
  cases d with
  | non=>rw [Is] at h; subst h; exact ⟨none,.non,fun _ _=>rfl⟩
  | bl b=>rw [Is] at h; subst h; exact ⟨none,.bl b,fun _ _=>rfl⟩
  | int i=>rw [Is] at h; subst h; exact ⟨some i,.int i,fun _ _=>rfl⟩
  | str t=>rw [Is] at h; subst h; exact ⟨none,.str t,fun _ _=>rfl⟩
  | tup l=>obtain ⟨p,xs,rfl,h2,_⟩:=is_tup.mp h; exact ⟨none,.tup p xs h2,fun _ _=>rfl⟩
  | lst l=>obtain ⟨p,xs,rfl,h2,_⟩:=is_lst.mp h; exact ⟨none,.lst p xs h2,fun _ _=>rfl⟩
  | dic=>rw [Is] at h; obtain ⟨p,rfl,h2⟩:=h; exact ⟨none,.dK p [] h2,fun _ _=>rfl⟩
def aF (most:Int) (p:Td→Bool):Td→Bool
  | .lst ds=>decide ((ds.length:Int)≤most) && ds.all p
  | _=>false
def dy (d:Td):Bool:=bE 0 24000000 d
def bU (R C:Int):Td→Bool
  | .tup [x,y,l,h]=>if bE 0 (R - 1) x = true then if bE 0 (C - 1) y = true then if bE 0 1000000 l = true then bE (tM l) 1000000 h else false else false else false
  | _=>false
def eB (w l h:Td):Bool:=if bE 1 1000000 w = true then if bE (-1000000000) 1000000000 l = true then bE (tM l) 1000000000 h else false else false
def cz:Td→Bool
  | .tup [w,l,h]=>eB w l h
  | _=>false
def jy:Td→Bool
  | .str s=>inV (.str s) [.str "yes",.str "no",.str "open"]
  | _=>false
def bu:Td→Bool
  | .tup [w,l,h,x]=>if eB w l h = true then jy x else false
  | _=>false
theorem sT {R C:Int} {ds:List Td} (h:ds.length≠4):bU R C (.tup ds) = false:=by
  unfold bU; split
  · rename_i e; cases e; exact absurd rfl h
  · rfl
theorem w6 {ds:List Td} (h:ds.length≠3):cz (.tup ds) = false:=by
  unfold cz; split
  · rename_i e; cases e; exact absurd rfl h
  · rfl
theorem oO {ds:List Td} (h:ds.length≠4):bu (.tup ds) = false:=by
  unfold bu; split
  · rename_i e; cases e; exact absurd rfl h
  · rfl
theorem qQ {H:Hp} {ds:List Td} {xs:List V} (h:Iss H ds xs) (e:ds.length = 3):∃ d1 d2 d3 x1 x2 x3,ds = [d1,d2,d3]∧xs = [x1,x2,x3]∧Is H d1 x1∧Is H d2 x2∧Is H d3 x3:=by
  match ds,e with
  | [d1,d2,d3],_ =>
    obtain ⟨x1,_,rfl,h1,h⟩:=iss_c.mp h
    obtain ⟨x2,_,rfl,h2,h⟩:=iss_c.mp h
    obtain ⟨x3,_,rfl,h3,h⟩:=iss_c.mp h
    obtain rfl:=iss_n.mp h
    exact ⟨d1,d2,d3,x1,x2,x3,rfl,rfl,h1,h2,h3⟩
theorem sX {H:Hp} {ds:List Td} {xs:List V} (h:Iss H ds xs) (e:ds.length = 4):∃ d1 d2 d3 d4 x1 x2 x3 x4,ds = [d1,d2,d3,d4]∧xs = [x1,x2,x3,x4]∧Is H d1 x1∧Is H d2 x2∧Is H d3 x3∧Is H d4 x4:=by
  match ds,e with
  | [d1,d2,d3,d4],_ =>
    obtain ⟨x1,_,rfl,h1,h⟩:=iss_c.mp h
    obtain ⟨x2,x3,x4,y2,y3,y4,e1,rfl,h2,h3,h4⟩:=qQ h rfl
    cases e1
    exact ⟨_,_,_,_,_,_,_,_,rfl,rfl,h1,h2,h3,h4⟩
def gH (p:Td→Bool):Sp:=fun vs H Q _=>∃ (x:V) (d:Td),vs = [x]∧Is H d x∧∀ H',Same H H'→Q (.bl (p d)) H'
def qo:Sp:=fun vs H Q _=>∃ (x:V) (d:Td) (R C:Int),vs = [x,.int R,.int C]∧Is H d x∧Q (.bl (bU R C d)) H
def rB:Sp:=fun vs H Q _=>∃ (x1 x2 x3:V) (d1 d2 d3:Td),vs = [x1,x2,x3]∧Is H d1 x1∧Is H d2 x2∧Is H d3 x3∧Q (.bl (eB d1 d2 d3)) H
def fG (f:Addr) (p:Td→Bool):Sp:=fun vs H Q _=>∃ (v:V) (m:Int) (d:Td),vs = [v,.int m,.ref f]∧Is H d v∧(0≤m∧m≤24)∧∀ H',Same H H'→Q (.bl (aF m p d)) H'
def vN:List V→Sp:=fun vals vs H Q _=>∃ (lr lc:Addr) (xr xc:List V) (x:V) (d:Td),vals = [.ref lr,.ref lc]∧vs = [x]∧H lr = some (.lst xr)∧H lc = some (.lst xc)∧Is H d x∧∀ H',Same H H'→Q (.bl (bU xr.length xc.length d)) H'
def oF:Sp:=fun vs H Q _=>∃ (v f:V) (m:Int) (d:Td) (lr lc:Addr) (xr xc:List V),vs = [v,.int m,f]∧Is H d v∧(0≤m∧m≤24)∧H lr = some (.lst xr)∧H lc = some (.lst xc)∧IsLam H bV fvB f [.ref lr,.ref lc]∧∀ H',Same H H'→Q (.bl (aF m (bU xr.length xc.length) d)) H'
def ig:Td→Int
  | .lst ds=>ds.length
  | _=>0
def inB (r c u:Td):Bool:=aF 6 dy r && aF 6 dy c && aF 24 (bU (ig r) (ig c)) u
section
variable {P:Program} {w:World} {K:PySem.W.Frag} {mg:Str→Option Value} {base:Heap} {a:Ad}
theorem iK (T:Txt K mg a):FnOk P w K mg base CX0 1 a.f_is_whole a.d_is_whole ["thing", "low", "high"] gX:=by
  refine T.F_is_whole.ok lY (fun vs H Q E h=>?_) (fun cdv A outer s H vs Q E hr h=>?_)
  · obtain ⟨x,lo,hi,o,rfl,_⟩:=h; rfl
  · obtain ⟨x,lo,hi,o,rfl,th,q⟩:=h
    refine ⟨_,(ap (aG (cq (av cu rfl T.z_isinstance aN (aa (vr 0) (aa (cO (v:=.ty "int") rfl T.z_int qw rfl) ae))) (cq (yI (av cu rfl T.z_isinstance aN (aa (vr 0) (aa (cO (v:=.ty "bool") rfl T.z_bool uZ rfl) ae)))) (dZ (ua pU pU (vr 1) (vr 0) (vr 2))))))),?_⟩
    cases th with
    | int i =>
      refine ⟨_,_,_,true,rfl,rfl,.int i,rfl,?_⟩
      refine ⟨_,_,_,false,rfl,rfl,.int i,rfl,?_⟩
      exact wq (Q:=fun v=>Q v H) q
    | bl b=>exact ⟨_,_,_,true,rfl,rfl,.bl b,rfl,⟨_,_,_,true,rfl,rfl,.bl b,rfl,q⟩⟩
    | non=>exact ⟨_,_,_,false,rfl,rfl,.non,rfl,q⟩
    | str t=>exact ⟨_,_,_,false,rfl,rfl,.str t,rfl,q⟩
    | lst p xs e=>exact ⟨_,_,_,false,rfl,rfl,.lst e,rfl,q⟩
    | tup p xs e=>exact ⟨_,_,_,false,rfl,rfl,.tup e,rfl,q⟩
    | dK p kvs e=>exact ⟨_,_,_,false,rfl,rfl,.dK e,rfl,q⟩
theorem tJ (T:Txt K mg a):FnOk P w K mg base CX0 2 a.f_is_wished_sum a.d_is_wished_sum ["thing"] (gH dy):=by
  have G_is_whole:FnOk P w K mg base CX0 1 _ _ _ gX:=iK T
  refine T.F_is_wished_sum.ok im (fun vs H Q E h=>?_) (fun cdv A outer s H vs Q E hr h=>?_)
  · obtain ⟨x,d,rfl,_⟩:=h; rfl
  · obtain ⟨x,d,rfl,hd,q⟩:=h
    refine ⟨_,(ap (aG (au G_is_whole hr rfl T.m_is_whole T.F_is_whole.kp T.B_is_whole .nil aH (aa (vr 0) (aa af (aa (cD rfl T.g_MOST_SUM) ae)))))),?_⟩
    obtain ⟨o,ho,e⟩:=thing hd
    refine ⟨_,_,_,o,rfl,ho,?_⟩
    rw [e]
    exact q _ (Same.refl _)
theorem uC (T:Txt K mg a):FnOk P w K mg base CX0 2 a.f_is_bounded_led a.d_is_bounded_led ["thing", "rows", "columns"] qo:=by
  have G_is_whole:FnOk P w K mg base CX0 1 _ _ _ gX:=iK T
  refine T.F_is_bounded_led.ok gM (fun vs H Q E h=>?_) (fun cdv A outer s H vs Q E hr h=>?_)
  · obtain ⟨x,d,R,C,rfl,_⟩:=h; rfl
  · obtain ⟨x,d,R,C,rfl,hd,q⟩:=h
    refine ⟨_,(ap (aG (cq (av cu rfl T.z_isinstance aN (aa (vr 0) (aa (cO (v:=.ty "tuple") rfl T.z_tuple gz rfl) ae))) (cq (cM ej (av aU rfl T.z_len ci (aa (vr 0) ae)) af (aD _)) (cq (au G_is_whole hr rfl T.m_is_whole T.F_is_whole.kp T.B_is_whole .nil aH (aa (aI aC (vr 0) af (fun _ _=>rfl)) (aa af (aa (aB eR (vr 1) af) ae)))) (cq (au G_is_whole hr rfl T.m_is_whole T.F_is_whole.kp T.B_is_whole .nil aH (aa (aI aC (vr 0) af (fun _ _=>rfl)) (aa af (aa (aB eR (vr 2) af) ae)))) (cq (au G_is_whole hr rfl T.m_is_whole T.F_is_whole.kp T.B_is_whole .nil aH (aa (aI aC (vr 0) af (fun _ _=>rfl)) (aa af (aa (cD rfl T.g_MOST_WEIGHT_led) ae)))) (dZ (au G_is_whole hr rfl T.m_is_whole T.F_is_whole.kp T.B_is_whole .nil aH (aa (aI aC (vr 0) af (fun _ _=>rfl)) (aa (aI aC (vr 0) af (fun _ _=>rfl)) (aa (cD rfl T.g_MOST_WEIGHT_led) ae)))))))))))),?_⟩
    cases d with
    | non=>exact ⟨_,_,_,false,rfl,rfl,hd.ty,rfl,q⟩
    | bl _=>exact ⟨_,_,_,false,rfl,rfl,hd.ty,rfl,q⟩
    | int _=>exact ⟨_,_,_,false,rfl,rfl,hd.ty,rfl,q⟩
    | str _=>exact ⟨_,_,_,false,rfl,rfl,hd.ty,rfl,q⟩
    | lst _=>exact ⟨_,_,_,false,rfl,rfl,hd.ty,rfl,q⟩
    | dic=>exact ⟨_,_,_,false,rfl,rfl,hd.ty,rfl,q⟩
    | tup ds =>
    obtain ⟨p,xs,rfl,hp,hi⟩:=is_tup.mp hd
    refine ⟨_,_,_,true,rfl,rfl,.tup hp,rfl,⟨_,.inr (SqT.of hp),?_⟩⟩
    by_cases h4:ds.length = 4
    · obtain ⟨d1,d2,d3,d4,x1,x2,x3,x4,rfl,rfl,i1,i2,i3,i4⟩:=sX hi h4
      obtain ⟨o1,t1,e1⟩:=thing i1
      obtain ⟨o2,t2,e2⟩:=thing i2
      obtain ⟨o3,t3,e3⟩:=thing i3
      obtain ⟨o4,t4,e4⟩:=thing i4
      have q:Q (.bl (if bE 0 (R - 1) d1 = true then if bE 0 (C - 1) d2 = true then if bE 0 1000000 d3 = true then bE (tM d3) 1000000 d4 else false else false else false)) H:=q
      refine .inr (.inl ⟨p,_,_,_,rfl,rfl,SqT.of hp,ar 0 rfl rfl,⟨_,_,_,o1,rfl,t1,?_⟩⟩)
      rw [e1]
      refine ifB (fun c1=>?_) fun c1=>by rw [c1] at q; exact q
      rw [if_pos c1] at q
      refine .inr (.inl ⟨p,_,_,_,rfl,rfl,SqT.of hp,ar 1 rfl rfl,⟨_,_,_,o2,rfl,t2,?_⟩⟩)
      rw [e2]
      refine ifB (fun c2=>?_) fun c2=>by rw [c2] at q; exact q
      rw [if_pos c2] at q
      refine .inr (.inl ⟨p,_,_,_,rfl,rfl,SqT.of hp,ar 2 rfl rfl,⟨_,_,_,o3,rfl,t3,?_⟩⟩)
      rw [e3]
      refine ifB (fun c3=>?_) fun c3=>by rw [c3] at q; exact q
      rw [if_pos c3] at q
      obtain ⟨i,rfl,_⟩:=bz c3
      obtain rfl:=cZ i3
      refine .inr (.inl ⟨p,_,_,_,rfl,rfl,SqT.of hp,ar 3 rfl rfl,?_⟩)
      refine .inr (.inl ⟨p,_,_,_,rfl,rfl,SqT.of hp,ar 2 rfl rfl,⟨_,_,_,o4,rfl,t4,?_⟩⟩)
      rw [e4]
      exact q
    · rw [sT h4] at q
      exact ifN (by show ¬ (xs.length:Int) = 4; rw [hi.len]; omega) q
theorem tY (T:Txt K mg a):FnOk P w K mg base CX0 2 a.f_is_bounded_lacking a.d_is_bounded_lacking ["weight", "low", "high"] rB:=by
  have G_is_whole:FnOk P w K mg base CX0 1 _ _ _ gX:=iK T
  refine T.F_is_bounded_lacking.ok eV (fun vs H Q E h=>?_) (fun cdv A outer s H vs Q E hr h=>?_)
  · obtain ⟨x1,x2,x3,d1,d2,d3,rfl,_⟩:=h; rfl
  · obtain ⟨x1,x2,x3,d1,d2,d3,rfl,i1,i2,i3,q⟩:=h
    refine ⟨_,(ap (aG (cq (au G_is_whole hr rfl T.m_is_whole T.F_is_whole.kp T.B_is_whole .nil aH (aa (vr 0) (aa af (aa (cD rfl T.g_MOST_WEIGHT_lacking) ae)))) (cq (au G_is_whole hr rfl T.m_is_whole T.F_is_whole.kp T.B_is_whole .nil aH (aa (vr 1) (aa (gN gE (cD rfl T.g_ANSWER_BOUND)) (aa (cD rfl T.g_ANSWER_BOUND) ae)))) (dZ (au G_is_whole hr rfl T.m_is_whole T.F_is_whole.kp T.B_is_whole .nil aH (aa (vr 2) (aa (vr 1) (aa (cD rfl T.g_ANSWER_BOUND) ae))))))))),?_⟩
    obtain ⟨o1,t1,e1⟩:=thing i1
    obtain ⟨o2,t2,e2⟩:=thing i2
    obtain ⟨o3,t3,e3⟩:=thing i3
    rw [eB] at q
    refine ⟨_,_,_,o1,rfl,t1,?_⟩
    rw [e1]
    refine ifB (fun c1=>?_) fun c1=>by rw [c1] at q; exact q
    rw [if_pos c1] at q
    refine ⟨_,_,_,o2,rfl,t2,?_⟩
    rw [e2]
    refine ifB (fun c2=>?_) fun c2=>by rw [c2] at q; exact q
    rw [if_pos c2] at q
    obtain ⟨i,rfl,_⟩:=bz c2
    obtain rfl:=cZ i2
    refine ⟨_,_,_,o3,rfl,t3,?_⟩
    rw [e3]
    exact q
theorem rG (T:Txt K mg a):FnOk P w K mg base CX0 3 a.f_is_answer a.d_is_answer ["thing"] (gH cz):=by
  have G_is_bounded_lacking:FnOk P w K mg base CX0 2 _ _ _ rB:=tY T
  refine T.F_is_answer.ok kN (fun vs H Q E h=>?_) (fun cdv A outer s H vs Q E hr h=>?_)
  · obtain ⟨x,d,rfl,_⟩:=h; rfl
  · obtain ⟨x,d,rfl,hd,q⟩:=h
    refine ⟨_,(ap (aG (cq (av cu rfl T.z_isinstance aN (aa (vr 0) (aa (cO (v:=.ty "tuple") rfl T.z_tuple gz rfl) ae))) (cq (cM ej (av aU rfl T.z_len ci (aa (vr 0) ae)) af (aD _)) (dZ (au G_is_bounded_lacking hr rfl T.m_is_bounded_lacking T.F_is_bounded_lacking.kp T.B_is_bounded_lacking .nil aH (aa (aI aC (vr 0) af (fun _ _=>rfl)) (aa (aI aC (vr 0) af (fun _ _=>rfl)) (aa (aI aC (vr 0) af (fun _ _=>rfl)) ae))))))))),?_⟩
    cases d with
    | non=>exact ⟨_,_,_,false,rfl,rfl,hd.ty,rfl,q _ (Same.refl _)⟩
    | bl _=>exact ⟨_,_,_,false,rfl,rfl,hd.ty,rfl,q _ (Same.refl _)⟩
    | int _=>exact ⟨_,_,_,false,rfl,rfl,hd.ty,rfl,q _ (Same.refl _)⟩
    | str _=>exact ⟨_,_,_,false,rfl,rfl,hd.ty,rfl,q _ (Same.refl _)⟩
    | lst _=>exact ⟨_,_,_,false,rfl,rfl,hd.ty,rfl,q _ (Same.refl _)⟩
    | dic=>exact ⟨_,_,_,false,rfl,rfl,hd.ty,rfl,q _ (Same.refl _)⟩
    | tup ds =>
    obtain ⟨p,xs,rfl,hp,hi⟩:=is_tup.mp hd
    refine ⟨_,_,_,true,rfl,rfl,.tup hp,rfl,⟨_,.inr (SqT.of hp),?_⟩⟩
    by_cases h3:ds.length = 3
    · obtain ⟨d1,d2,d3,x1,x2,x3,rfl,rfl,i1,i2,i3⟩:=qQ hi h3
      refine .inr (.inl ⟨p,_,_,_,rfl,rfl,SqT.of hp,ar 0 rfl rfl,?_⟩)
      refine .inr (.inl ⟨p,_,_,_,rfl,rfl,SqT.of hp,ar 1 rfl rfl,?_⟩)
      refine .inr (.inl ⟨p,_,_,_,rfl,rfl,SqT.of hp,ar 2 rfl rfl,?_⟩)
      exact ⟨x1,x2,x3,d1,d2,d3,rfl,i1,i2,i3,q _ (Same.refl _)⟩
    · rw [w6 h3] at q
      exact ifN (by show ¬ (xs.length:Int) = 3; rw [hi.len]; omega) (q _ (Same.refl _))
theorem uF (T:Txt K mg a):FnOk P w K mg base CX0 1 a.f_is_word a.d_is_word ["thing"] (gH jy):=by
  refine T.F_is_word.ok np (fun vs H Q E h=>?_) (fun cdv A outer s H vs Q E hr h=>?_)
  · obtain ⟨x,d,rfl,_⟩:=h; rfl
  · obtain ⟨x,d,rfl,hd,q⟩:=h
    refine ⟨_,(ap (aG (cq (av cu rfl T.z_isinstance aN (aa (vr 0) (aa (cO (v:=.ty "str") rfl T.z_str wD rfl) ae))) (dZ (cM pc (vr 0) (cD rfl T.g_WORDS) (by with_unfolding_all rfl)))))),?_⟩
    cases d with
    | non=>exact ⟨_,_,_,false,rfl,rfl,hd.ty,rfl,q _ (Same.refl _)⟩
    | bl _=>exact ⟨_,_,_,false,rfl,rfl,hd.ty,rfl,q _ (Same.refl _)⟩
    | int _=>exact ⟨_,_,_,false,rfl,rfl,hd.ty,rfl,q _ (Same.refl _)⟩
    | lst _=>exact ⟨_,_,_,false,rfl,rfl,hd.ty,rfl,q _ (Same.refl _)⟩
    | dic=>exact ⟨_,_,_,false,rfl,rfl,hd.ty,rfl,q _ (Same.refl _)⟩
    | tup _=>exact ⟨_,_,_,false,rfl,rfl,hd.ty,rfl,q _ (Same.refl _)⟩
    | str t =>
      rw [Is] at hd
      subst hd
      refine ⟨_,_,_,true,rfl,rfl,.str _,rfl,?_⟩
      refine ⟨_,_,rfl,.inr (uK T.t_WORDS),rfl,rfl,?_⟩
      exact q _ (Same.refl _)
theorem tZ (T:Txt K mg a):FnOk P w K mg base CX0 4 a.f_is_worded_answer a.d_is_worded_answer ["thing"] (gH bu):=by
  have G_is_answer:FnOk P w K mg base CX0 3 _ _ _ (gH cz):=rG T
  have G_is_word:FnOk P w K mg base CX0 3 _ _ _ (gH jy):=(uF T).mono (by decide)
  refine T.F_is_worded_answer.ok fY (fun vs H Q E h=>?_) (fun cdv A outer s H vs Q E hr h=>?_)
  · obtain ⟨x,d,rfl,_⟩:=h; rfl
  · obtain ⟨x,d,rfl,hd,q⟩:=h
    refine ⟨_,(ap (aG (cq (av cu rfl T.z_isinstance aN (aa (vr 0) (aa (cO (v:=.ty "tuple") rfl T.z_tuple gz rfl) ae))) (cq (cM ej (av aU rfl T.z_len ci (aa (vr 0) ae)) af (aD _)) (cq (au G_is_answer hr rfl T.m_is_answer T.F_is_answer.kp T.B_is_answer .nil aH (aa (mf wN (vr 0) og (oM af)) ae)) (dZ (au G_is_word hr rfl T.m_is_word T.F_is_word.kp T.B_is_word .nil aH (aa (aI aC (vr 0) af (fun _ _=>rfl)) ae)))))))),?_⟩
    cases d with
    | non=>exact ⟨_,_,_,false,rfl,rfl,hd.ty,rfl,q _ (Same.refl _)⟩
    | bl _=>exact ⟨_,_,_,false,rfl,rfl,hd.ty,rfl,q _ (Same.refl _)⟩
    | int _=>exact ⟨_,_,_,false,rfl,rfl,hd.ty,rfl,q _ (Same.refl _)⟩
    | str _=>exact ⟨_,_,_,false,rfl,rfl,hd.ty,rfl,q _ (Same.refl _)⟩
    | lst _=>exact ⟨_,_,_,false,rfl,rfl,hd.ty,rfl,q _ (Same.refl _)⟩
    | dic=>exact ⟨_,_,_,false,rfl,rfl,hd.ty,rfl,q _ (Same.refl _)⟩
    | tup ds =>
    obtain ⟨p,xs,rfl,hp,hi⟩:=is_tup.mp hd
    refine ⟨_,_,_,true,rfl,rfl,.tup hp,rfl,⟨_,.inr (SqT.of hp),?_⟩⟩
    by_cases h4:ds.length = 4
    · obtain ⟨d1,d2,d3,d4,x1,x2,x3,x4,rfl,rfl,i1,i2,i3,i4⟩:=sX hi h4
      refine ⟨_,rfl,p,_,rfl,SqT.of hp,(show ¬ (HT.sIx 4 0 none = 0∧HT.sIx 4 4 (some 3) = 4) by decide),fun p2 hp2=>?_⟩
      have s1:=Same.new (o:=.tup (kI [x1,x2,x3,x4] none (some 3))) hp2
      refine ⟨.ref p2,.tup [d1,d2,d3],rfl,is_tup.mpr ⟨p2,[x1,x2,x3],rfl,ac,ag (i1.same s1) (ag (i2.same s1) (ag (i3.same s1) aA))⟩,fun H2 s2=>?_⟩
      have q:∀ H',Same H H'→Q (.bl (if eB d1 d2 d3 = true then jy d4 else false)) H':=q
      have s12:=s1.trans s2
      refine ifB (fun c=>?_) fun c=>?_
      · have c:eB d1 d2 d3 = true:=c
        rw [if_pos c] at q
        refine .inr (.inl ⟨p,_,_,_,rfl,rfl,SqT.of (s12 _ _ hp),ar 3 rfl rfl,?_⟩)
        exact ⟨x4,d4,rfl,i4.same s12,fun H3 s3=>q _ (s12.trans s3)⟩
      · have c:eB d1 d2 d3 = false:=c
        rw [c] at q
        exact q _ s12
    · rw [oO h4] at q
      exact ifN (by show ¬ (xs.length:Int) = 4; rw [hi.len]; omega) (q _ (Same.refl _))
theorem ue (T:Txt K mg a):mK P w K mg base 3 bV fvB ["thing"] vN:=by
  have G_is_bounded_led:FnOk P w K mg base CX0 2 _ _ _ qo:=uC T
  refine vV lsB (fun pm ctv clos c us hl=>match us,hl with | [_],_=>rfl) (fun vals vs H Q E h=>?_) (fun A outer s H f c clos vals vs Q E hr hfv ca h=>?_)
  · obtain ⟨lr,lc,xr,xc,x,d,rfl,rfl,_⟩:=h; rfl
  · obtain ⟨lr,lc,xr,xc,x,d,rfl,rfl,h1,h2,hd,q⟩:=h
    refine ⟨_,(au G_is_bounded_led hr rfl T.m_is_bounded_led T.F_is_bounded_led.kp T.B_is_bounded_led .nil aH (aa (vr 0) (aa (av aU rfl T.z_len ci (aa (vr 1) ae)) (aa (av aU rfl T.z_len ci (aa (vr 2) ae)) ae)))),?_⟩
    have g1:=cJ ca h1 (fun v z=>by cases z)
    have g2:=cJ ca h2 (fun v z=>by cases z)
    refine ⟨_,.inl (SqL.of g1),⟨_,.inl (SqL.of g2),?_⟩⟩
    refine ⟨x,d,_,_,rfl,hd.k (yF ca),fun H3 s3 hc=>?_⟩
    exact q _ (yw (Same.refl _) s3 hc)
theorem sA (T:Txt K mg a):FnOk P w K mg base CX0 3 a.f_is_list_of a.d_is_list_of ["thing", "most", "is_one"] (fG a.f_is_wished_sum dy):=by
  have G_is_wished_sum:FnOk P w K mg base CX0 2 _ _ _ (gH dy):=tJ T
  refine T.F_is_list_of.ok dk (fun vs H Q E h=>?_) (fun cdv A outer s H vs Q E hr h=>?_)
  · obtain ⟨v,m,d,rfl,_⟩:=h; rfl
  · obtain ⟨v,m,d,rfl,hd,m0,q⟩:=h
    refine ⟨_,(ap (aG (cq (av cu rfl T.z_isinstance aN (aa (vr 0) (aa (cO (v:=.ty "list") rfl T.z_list dQ rfl) ae))) (cq (cM pU (av aU rfl T.z_len ci (aa (vr 0) ae)) (vr 1) (aD _)) (dZ (av (dC rfl) rfl T.z_all iB (aa (cA rfl (N:=["part", "is_one"]) (ix:=[none,some 2]) ⟨rfl,rfl,rfl,rfl,⟨rfl,rfl,rfl,trivial⟩⟩ (cm (vr 0)) ⟨fun C s H fp=>aw (i:=0) (show List.Nodup (["part", "is_one"]:List Str) by decide +kernel) rfl (Or.inl rfl),fun C s H fp=>bY,fun C s H fp=>(jp (vr 1) G_is_wished_sum hr T.F_is_wished_sum.kp T.B_is_wished_sum .nil aH (aa (vr 0) ae))⟩) ae))))))),?_⟩
    have sl:sizeLine = 16777216:=sizeLine_eq
    cases d with
    | non=>exact ⟨_,_,_,false,rfl,rfl,hd.ty,rfl,q _ (Same.refl _)⟩
    | bl _=>exact ⟨_,_,_,false,rfl,rfl,hd.ty,rfl,q _ (Same.refl _)⟩
    | int _=>exact ⟨_,_,_,false,rfl,rfl,hd.ty,rfl,q _ (Same.refl _)⟩
    | str _=>exact ⟨_,_,_,false,rfl,rfl,hd.ty,rfl,q _ (Same.refl _)⟩
    | tup _=>exact ⟨_,_,_,false,rfl,rfl,hd.ty,rfl,q _ (Same.refl _)⟩
    | dic=>exact ⟨_,_,_,false,rfl,rfl,hd.ty,rfl,q _ (Same.refl _)⟩
    | lst ds =>
    obtain ⟨l,xs,rfl,hl,hi⟩:=is_lst.mp hd
    have xl:=hi.len
    refine ⟨_,_,_,true,rfl,rfl,.lst hl,rfl,⟨_,.inl (SqL.of hl),?_⟩⟩
    refine ifC (fun c=>?_) fun c=>?_
    · have c:(xs.length:Int)≤m:=c
      refine .inl ⟨⟨_,SqL.of hl⟩,fun D hD=>?_⟩
      refine br (K:=K) (a:=l) (xs:=xs) (fun j ys H2=>j≤xs.length∧Same H H2∧H2 D = some (.lst ys)∧ys = ((ds.take j).map dy).map V.bl) ⟨Nat.zero_le _,Same.new hD,ac,rfl⟩ (fun j ys H2 h'=>SqL.of (h'.2.1 _ _ hl)) (fun j ys H2 h'=>h'.2.2.1) ?_ ?_
      · rintro j x ys H2 P' hx ⟨hj,s2,hD2,rfl⟩ hP
        obtain ⟨z,hz,hA⟩:=hi.get hx
        have hlt:j < xs.length:=(List.getElem?_eq_some_iff.mp hx).1
        refine ⟨⟨rfl,trivial⟩,rfl,x,z,rfl,hA.same s2,fun H3 s3=>?_⟩
        refine ⟨s3 _ _ hD2,?_,hP _ _ ⟨by omega,(s2.trans s3).put hD,ac,?_⟩⟩
        · rw [List.length_map,List.length_map,List.length_take]; omega
        · rw [bT hz,List.map_append]; rfl
      rintro ys H2 ⟨_,s2,hD2,rfl⟩
      refine ⟨D,_,_,rfl,SqL.of hD2,rfl,?_⟩
      have e:((ds.take xs.length).map dy).all id = aF m dy (.lst ds):=by
        rw [aF,xl,List.take_of_length_le (Nat.le_refl _),List.all_map,decide_eq_true (by omega)]; rfl
      rw [e]
      exact q _ s2
    · have c:¬ (xs.length:Int)≤m:=c
      have e:aF m dy (.lst ds) = false:=by rw [aF,decide_eq_false (by omega)]; rfl
      rw [e] at q
      exact q _ (Same.refl _)
theorem rY (T:Txt K mg a):FnOk P w K mg base CX0 4 a.f_is_list_of a.d_is_list_of ["thing", "most", "is_one"] (fG a.f_is_answer cz):=by
  have G_is_answer:FnOk P w K mg base CX0 3 _ _ _ (gH cz):=rG T
  refine T.F_is_list_of.ok dk (fun vs H Q E h=>?_) (fun cdv A outer s H vs Q E hr h=>?_)
  · obtain ⟨v,m,d,rfl,_⟩:=h; rfl
  · obtain ⟨v,m,d,rfl,hd,m0,q⟩:=h
    refine ⟨_,(ap (aG (cq (av cu rfl T.z_isinstance aN (aa (vr 0) (aa (cO (v:=.ty "list") rfl T.z_list dQ rfl) ae))) (cq (cM pU (av aU rfl T.z_len ci (aa (vr 0) ae)) (vr 1) (aD _)) (dZ (av (dC rfl) rfl T.z_all iB (aa (cA rfl (N:=["part", "is_one"]) (ix:=[none,some 2]) ⟨rfl,rfl,rfl,rfl,⟨rfl,rfl,rfl,trivial⟩⟩ (cm (vr 0)) ⟨fun C s H fp=>aw (i:=0) (show List.Nodup (["part", "is_one"]:List Str) by decide +kernel) rfl (Or.inl rfl),fun C s H fp=>bY,fun C s H fp=>(jp (vr 1) G_is_answer hr T.F_is_answer.kp T.B_is_answer .nil aH (aa (vr 0) ae))⟩) ae))))))),?_⟩
    have sl:sizeLine = 16777216:=sizeLine_eq
    cases d with
    | non=>exact ⟨_,_,_,false,rfl,rfl,hd.ty,rfl,q _ (Same.refl _)⟩
    | bl _=>exact ⟨_,_,_,false,rfl,rfl,hd.ty,rfl,q _ (Same.refl _)⟩
    | int _=>exact ⟨_,_,_,false,rfl,rfl,hd.ty,rfl,q _ (Same.refl _)⟩
    | str _=>exact ⟨_,_,_,false,rfl,rfl,hd.ty,rfl,q _ (Same.refl _)⟩
    | tup _=>exact ⟨_,_,_,false,rfl,rfl,hd.ty,rfl,q _ (Same.refl _)⟩
    | dic=>exact ⟨_,_,_,false,rfl,rfl,hd.ty,rfl,q _ (Same.refl _)⟩
    | lst ds =>
    obtain ⟨l,xs,rfl,hl,hi⟩:=is_lst.mp hd
    have xl:=hi.len
    refine ⟨_,_,_,true,rfl,rfl,.lst hl,rfl,⟨_,.inl (SqL.of hl),?_⟩⟩
    refine ifC (fun c=>?_) fun c=>?_
    · have c:(xs.length:Int)≤m:=c
      refine .inl ⟨⟨_,SqL.of hl⟩,fun D hD=>?_⟩
      refine br (K:=K) (a:=l) (xs:=xs) (fun j ys H2=>j≤xs.length∧Same H H2∧H2 D = some (.lst ys)∧ys = ((ds.take j).map cz).map V.bl) ⟨Nat.zero_le _,Same.new hD,ac,rfl⟩ (fun j ys H2 h'=>SqL.of (h'.2.1 _ _ hl)) (fun j ys H2 h'=>h'.2.2.1) ?_ ?_
      · rintro j x ys H2 P' hx ⟨hj,s2,hD2,rfl⟩ hP
        obtain ⟨z,hz,hA⟩:=hi.get hx
        have hlt:j < xs.length:=(List.getElem?_eq_some_iff.mp hx).1
        refine ⟨⟨rfl,trivial⟩,rfl,x,z,rfl,hA.same s2,fun H3 s3=>?_⟩
        refine ⟨s3 _ _ hD2,?_,hP _ _ ⟨by omega,(s2.trans s3).put hD,ac,?_⟩⟩
        · rw [List.length_map,List.length_map,List.length_take]; omega
        · rw [bT hz,List.map_append]; rfl
      rintro ys H2 ⟨_,s2,hD2,rfl⟩
      refine ⟨D,_,_,rfl,SqL.of hD2,rfl,?_⟩
      have e:((ds.take xs.length).map cz).all id = aF m cz (.lst ds):=by
        rw [aF,xl,List.take_of_length_le (Nat.le_refl _),List.all_map,decide_eq_true (by omega)]; rfl
      rw [e]
      exact q _ s2
    · have c:¬ (xs.length:Int)≤m:=c
      have e:aF m cz (.lst ds) = false:=by rw [aF,decide_eq_false (by omega)]; rfl
      rw [e] at q
      exact q _ (Same.refl _)
theorem sw (T:Txt K mg a):FnOk P w K mg base CX0 5 a.f_is_list_of a.d_is_list_of ["thing", "most", "is_one"] (fG a.f_is_worded_answer bu):=by
  have G_is_worded_answer:FnOk P w K mg base CX0 4 _ _ _ (gH bu):=tZ T
  refine T.F_is_list_of.ok dk (fun vs H Q E h=>?_) (fun cdv A outer s H vs Q E hr h=>?_)
  · obtain ⟨v,m,d,rfl,_⟩:=h; rfl
  · obtain ⟨v,m,d,rfl,hd,m0,q⟩:=h
    refine ⟨_,(ap (aG (cq (av cu rfl T.z_isinstance aN (aa (vr 0) (aa (cO (v:=.ty "list") rfl T.z_list dQ rfl) ae))) (cq (cM pU (av aU rfl T.z_len ci (aa (vr 0) ae)) (vr 1) (aD _)) (dZ (av (dC rfl) rfl T.z_all iB (aa (cA rfl (N:=["part", "is_one"]) (ix:=[none,some 2]) ⟨rfl,rfl,rfl,rfl,⟨rfl,rfl,rfl,trivial⟩⟩ (cm (vr 0)) ⟨fun C s H fp=>aw (i:=0) (show List.Nodup (["part", "is_one"]:List Str) by decide +kernel) rfl (Or.inl rfl),fun C s H fp=>bY,fun C s H fp=>(jp (vr 1) G_is_worded_answer hr T.F_is_worded_answer.kp T.B_is_worded_answer .nil aH (aa (vr 0) ae))⟩) ae))))))),?_⟩
    have sl:sizeLine = 16777216:=sizeLine_eq
    cases d with
    | non=>exact ⟨_,_,_,false,rfl,rfl,hd.ty,rfl,q _ (Same.refl _)⟩
    | bl _=>exact ⟨_,_,_,false,rfl,rfl,hd.ty,rfl,q _ (Same.refl _)⟩
    | int _=>exact ⟨_,_,_,false,rfl,rfl,hd.ty,rfl,q _ (Same.refl _)⟩
    | str _=>exact ⟨_,_,_,false,rfl,rfl,hd.ty,rfl,q _ (Same.refl _)⟩
    | tup _=>exact ⟨_,_,_,false,rfl,rfl,hd.ty,rfl,q _ (Same.refl _)⟩
    | dic=>exact ⟨_,_,_,false,rfl,rfl,hd.ty,rfl,q _ (Same.refl _)⟩
    | lst ds =>
    obtain ⟨l,xs,rfl,hl,hi⟩:=is_lst.mp hd
    have xl:=hi.len
    refine ⟨_,_,_,true,rfl,rfl,.lst hl,rfl,⟨_,.inl (SqL.of hl),?_⟩⟩
    refine ifC (fun c=>?_) fun c=>?_
    · have c:(xs.length:Int)≤m:=c
      refine .inl ⟨⟨_,SqL.of hl⟩,fun D hD=>?_⟩
      refine br (K:=K) (a:=l) (xs:=xs) (fun j ys H2=>j≤xs.length∧Same H H2∧H2 D = some (.lst ys)∧ys = ((ds.take j).map bu).map V.bl) ⟨Nat.zero_le _,Same.new hD,ac,rfl⟩ (fun j ys H2 h'=>SqL.of (h'.2.1 _ _ hl)) (fun j ys H2 h'=>h'.2.2.1) ?_ ?_
      · rintro j x ys H2 P' hx ⟨hj,s2,hD2,rfl⟩ hP
        obtain ⟨z,hz,hA⟩:=hi.get hx
        have hlt:j < xs.length:=(List.getElem?_eq_some_iff.mp hx).1
        refine ⟨⟨rfl,trivial⟩,rfl,x,z,rfl,hA.same s2,fun H3 s3=>?_⟩
        refine ⟨s3 _ _ hD2,?_,hP _ _ ⟨by omega,(s2.trans s3).put hD,ac,?_⟩⟩
        · rw [List.length_map,List.length_map,List.length_take]; omega
        · rw [bT hz,List.map_append]; rfl
      rintro ys H2 ⟨_,s2,hD2,rfl⟩
      refine ⟨D,_,_,rfl,SqL.of hD2,rfl,?_⟩
      have e:((ds.take xs.length).map bu).all id = aF m bu (.lst ds):=by
        rw [aF,xl,List.take_of_length_le (Nat.le_refl _),List.all_map,decide_eq_true (by omega)]; rfl
      rw [e]
      exact q _ s2
    · have c:¬ (xs.length:Int)≤m:=c
      have e:aF m bu (.lst ds) = false:=by rw [aF,decide_eq_false (by omega)]; rfl
      rw [e] at q
      exact q _ (Same.refl _)
theorem sf (T:Txt K mg a):FnOk P w K mg base CX0 4 a.f_is_list_of a.d_is_list_of ["thing", "most", "is_one"] oF:=by
  have L_is_one:mK P w K mg base 3 bV fvB ["thing"] vN:=ue T
  refine T.F_is_list_of.ok dk (fun vs H Q E h=>?_) (fun cdv A outer s H vs Q E hr h=>?_)
  · obtain ⟨v,f,m,d,lr,lc,xr,xc,rfl,_⟩:=h; rfl
  · obtain ⟨v,f,m,d,lr,lc,xr,xc,rfl,hd,m0,h1,h2,hL,q⟩:=h
    refine ⟨_,(ap (aG (cq (av cu rfl T.z_isinstance aN (aa (vr 0) (aa (cO (v:=.ty "list") rfl T.z_list dQ rfl) ae))) (cq (cM pU (av aU rfl T.z_len ci (aa (vr 0) ae)) (vr 1) (aD _)) (dZ (av (dC rfl) rfl T.z_all iB (aa (cA rfl (N:=["part", "is_one"]) (ix:=[none,some 2]) ⟨rfl,rfl,rfl,rfl,⟨rfl,rfl,rfl,trivial⟩⟩ (cm (vr 0)) ⟨fun C s H fp=>aw (i:=0) (show List.Nodup (["part", "is_one"]:List Str) by decide +kernel) rfl (Or.inl rfl),fun C s H fp=>bY,fun C s H fp=>(se (vr 1) L_is_one hr (aa (vr 0) ae))⟩) ae))))))),?_⟩
    have sl:sizeLine = 16777216:=sizeLine_eq
    cases d with
    | non=>exact ⟨_,_,_,false,rfl,rfl,hd.ty,rfl,q _ (Same.refl _)⟩
    | bl _=>exact ⟨_,_,_,false,rfl,rfl,hd.ty,rfl,q _ (Same.refl _)⟩
    | int _=>exact ⟨_,_,_,false,rfl,rfl,hd.ty,rfl,q _ (Same.refl _)⟩
    | str _=>exact ⟨_,_,_,false,rfl,rfl,hd.ty,rfl,q _ (Same.refl _)⟩
    | tup _=>exact ⟨_,_,_,false,rfl,rfl,hd.ty,rfl,q _ (Same.refl _)⟩
    | dic=>exact ⟨_,_,_,false,rfl,rfl,hd.ty,rfl,q _ (Same.refl _)⟩
    | lst ds =>
    obtain ⟨l,xs,rfl,hl,hi⟩:=is_lst.mp hd
    have xl:=hi.len
    refine ⟨_,_,_,true,rfl,rfl,.lst hl,rfl,⟨_,.inl (SqL.of hl),?_⟩⟩
    refine ifC (fun c=>?_) fun c=>?_
    · have c:(xs.length:Int)≤m:=c
      refine .inl ⟨⟨_,SqL.of hl⟩,fun D hD=>?_⟩
      refine br (K:=K) (a:=l) (xs:=xs) (fun j ys H2=>j≤xs.length∧Same H H2∧H2 D = some (.lst ys)∧ys = ((ds.take j).map (bU xr.length xc.length)).map V.bl) ⟨Nat.zero_le _,Same.new hD,ac,rfl⟩ (fun j ys H2 h'=>SqL.of (h'.2.1 _ _ hl)) (fun j ys H2 h'=>h'.2.2.1) ?_ ?_
      · rintro j x ys H2 P' hx ⟨hj,s2,hD2,rfl⟩ hP
        obtain ⟨z,hz,hA⟩:=hi.get hx
        have hlt:j < xs.length:=(List.getElem?_eq_some_iff.mp hx).1
        obtain ⟨f,c',clos,rfl,g1,g2,g3,g4,g5⟩:=hL.t s2.t
        refine ⟨⟨rfl,trivial⟩,⟨f,_,_,_,rfl,g1⟩,?_⟩
        refine ⟨fun f' d' cl' c' _ z=>z,f,c',clos,_,rfl,g1,g2,g3,g4,g5,lr,lc,xr,xc,x,z,rfl,rfl,s2 _ _ h1,s2 _ _ h2,hA.same s2,fun H3 s3=>?_⟩
        refine ⟨s3 _ _ hD2,?_,hP _ _ ⟨by omega,(s2.trans s3).put hD,ac,?_⟩⟩
        · rw [List.length_map,List.length_map,List.length_take]; omega
        · rw [bT hz,List.map_append]; rfl
      rintro ys H2 ⟨_,s2,hD2,rfl⟩
      refine ⟨D,_,_,rfl,SqL.of hD2,rfl,?_⟩
      have e:((ds.take xs.length).map (bU xr.length xc.length)).all id = aF m (bU xr.length xc.length) (.lst ds):=by
        rw [aF,xl,List.take_of_length_le (Nat.le_refl _),List.all_map,decide_eq_true (by omega)]; rfl
      rw [e]
      exact q _ s2
    · have c:¬ (xs.length:Int)≤m:=c
      have e:aF m (bU xr.length xc.length) (.lst ds) = false:=by rw [aF,decide_eq_false (by omega)]; rfl
      rw [e] at q
      exact q _ (Same.refl _)
end
end My
namespace My
open PySem L2 FrM Led
def kO (a:Ad):Sp:=fun vs H Q E=>∃ (xr xc xu:V) (dr dc du:Td),vs = [xr,xc,xu]∧Is H dr xr∧Is H dc xc∧Is H du xu∧TabsOk (tabs a) H∧(inB dr dc du = true→∀ H',SameT H H'→TabsOk (tabs a) H'→Q .non H')∧(inB dr dc du = false→∀ H',SameT H H'→TabsOk (tabs a) H'→E (.ref a.c_NoBounds) none H')
def iU (a:Ad) (f:Addr) (p:Td→Bool):Sp:=fun vs H Q E=>∃ (x:V) (d:Td),vs = [x,.ref f]∧Is H d x∧(aF 24 p d = true→∀ H',Same H H'→Q .non H')∧(aF 24 p d = false→∀ H',Same H H'→E (.ref a.c_NoAnswers) none H')
theorem dJ {m:Int} {p:Td→Bool} {d:Td} (h:aF m p d = true):∃ ds,d = .lst ds∧(ds.length:Int)≤m∧∀ z ∈ ds,p z = true:=by
  cases d with
  | lst ds =>
    rw [aF,Bool.and_eq_true] at h
    exact ⟨ds,rfl,of_decide_eq_true h.1,List.all_eq_true.mp h.2⟩
  | _=>cases h
def uw (a:Ad):Sp:=fun vs H Q E=>fG a.f_is_wished_sum dy vs H Q E∨oF vs H Q E
section
variable {P:Program} {w:World} {K:PySem.W.Frag} {mg:Str→Option Value} {base:Heap} {a:Ad}
theorem jj (T:Txt K mg a) (hB:Bm mg base):FnOk P w K mg base (CXG P w) 5 a.f_need_bounds a.d_need_bounds ["rows", "columns", "units"] (kO a):=by
  have G_is_list_of:FnOk P w K mg base CX0 4 _ _ _ (uw a):=((sA T).mono (by decide)).or (sf T)
  refine T.F_need_bounds.okNG T.lcd_need_bounds sc_need_bounds (by decide +kernel) (fun vs H Q E h=>?_) (fun A outer s H vs Q E hr h=>?_)
  · obtain ⟨xr,xc,xu,dr,dc,du,rfl,_⟩:=h; rfl
  · obtain ⟨xr,xc,xu,dr,dc,du,rfl,h1,h2,h3,hT,q,e⟩:=h
    refine ⟨_,(tO (cX (PW.pt (qA (jh (gj (au G_is_list_of hr rfl T.m_is_list_of T.F_is_list_of.kp T.B_is_list_of .nil aH (aa (vr 0) (aa (cD rfl T.g_MOST_SUMS) (aa (cD (v:=.ref a.f_is_wished_sum) rfl ⟨_,T.m_is_wished_sum,rfl⟩) ae)))))) (m8 (jh (gj (au G_is_list_of hr rfl T.m_is_list_of T.F_is_list_of.kp T.B_is_list_of .nil aH (aa (vr 1) (aa (cD rfl T.g_MOST_SUMS) (aa (cD (v:=.ref a.f_is_wished_sum) rfl ⟨_,T.m_is_wished_sum,rfl⟩) ae))))))))) (ap (fM T.xc_NoBounds T.xh_NoBounds (iY T.xi_NoBounds T.kc_NoBounds rfl T.mc_NoBounds))) bC) (wW sc_need_bounds.nd (by decide +kernel) (ap (fM T.xc_NoBounds T.xh_NoBounds (iY T.xi_NoBounds T.kc_NoBounds rfl T.mc_NoBounds))) G_is_list_of hr rfl T.m_is_list_of T.F_is_list_of.kp T.B_is_list_of .nil (aa (vr 2) (aa (cD rfl T.g_MOST_UNITS) (aa (sJ (d:=bV) rfl T.lch_need_bounds hB rfl (by with_unfolding_all rfl) rfl (jA a) (.head _) T.tnd jR) ae))))),?_⟩
    refine .inl ⟨xr,6,dr,rfl,h1,⟨by decide,by decide⟩,fun H1 s1=>?_⟩
    cases c1:aF 6 dy dr with
    | false =>
      have ei:inB dr dc du = false:=by rw [inB,c1]; rfl
      exact fun y hy=>⟨y,none,_,rfl,ac,fun h z=>z,s1.free hy,e ei _ (s1.trans (dz hy)).t (hT.same (s1.trans (dz hy)))⟩
    | true =>
    refine .inl ⟨xc,6,dc,rfl,h2.same s1,⟨by decide,by decide⟩,fun H2 s2=>?_⟩
    have s12:=s1.trans s2
    cases c2:aF 6 dy dc with
    | false =>
      have ei:inB dr dc du = false:=by rw [inB,c1,c2]; rfl
      exact fun y hy=>⟨y,none,_,rfl,ac,fun h z=>z,s12.free hy,e ei _ (s12.trans (dz hy)).t (hT.same (s12.trans (dz hy)))⟩
    | true =>
    obtain ⟨dsr,rfl,_,_⟩:=dJ c1
    obtain ⟨dsc,rfl,_,_⟩:=dJ c2
    obtain ⟨lr,vr,rfl,hr1,ir⟩:=is_lst.mp h1
    obtain ⟨lc,vc,rfl,hc1,ic⟩:=is_lst.mp h2
    have ei:inB (.lst dsr) (.lst dsc) du = aF 24 (bU vr.length vc.length) du:=by rw [inB,c1,c2,ig,ig,ir.len,ic.len]; rfl
    rw [ei] at q e
    refine ⟨hT.same s12,fun f c H3 t3 hT3 hf0 ef ec=>?_⟩
    intro H4 s4 hc
    have cR:=hc 0 _ _ _ rfl rfl (by with_unfolding_all rfl)
    have cC:=hc 1 _ _ _ rfl rfl (by with_unfolding_all rfl)
    have t4:=t3.trans s4.t
    have t04:SameT H H4:=s12.t.trans t4
    refine .inr ⟨xu,.ref f,24,du,lr,lc,vr,vc,rfl,h3.t t04,⟨by decide,by decide⟩,t04.at hr1,t04.at hc1,⟨f,c,_,rfl,s4 _ _ ef,s4 _ _ ec,rfl,nd2 _,.cons cR (.cons cC .nil)⟩,fun H5 s5=>?_⟩
    cases c3:aF 24 (bU vr.length vc.length) du with
    | true=>exact .inl ⟨rfl,q c3 _ (t04.trans s5.t) ((hT3.same s4).same s5)⟩
    | false =>
      refine .inr ⟨rfl,s5,fun H6 s6=>?_⟩
      have t6:SameT H H6:=s12.t.trans (t3.trans s6.t)
      exact fun y hy=>⟨y,none,_,rfl,ac,fun h z=>z,t6.free hy,e c3 _ (t6.trans (dz hy).t) ((hT3.same s6).same (dz hy))⟩
theorem lP (T:Txt K mg a):FnOk P w K mg base (CXG P w) 6 a.f_need_answers a.d_need_answers ["answers", "is_one"] (iU a a.f_is_answer cz):=by
  have G_is_list_of:FnOk P w K mg base CX0 5 _ _ _ (fG a.f_is_answer cz):=(rY T).mono (by decide)
  refine T.F_need_answers.okG eT (fun vs H Q E h=>?_) (fun cdv A outer s H vs Q E hr h=>?_)
  · obtain ⟨x,d,rfl,_⟩:=h; rfl
  · obtain ⟨x,d,rfl,hd,q,e⟩:=h
    refine ⟨_,(ap (cX (jh (gj (au G_is_list_of hr rfl T.m_is_list_of T.F_is_list_of.kp T.B_is_list_of .nil aH (aa (vr 0) (aa (cD rfl T.g_MOST_ANSWERS) (aa (vr 1) ae)))))) (ap (fM T.xc_NoAnswers T.xh_NoAnswers (iY T.xi_NoAnswers T.kc_NoAnswers rfl T.mc_NoAnswers))) bC)),?_⟩
    refine ⟨x,24,d,rfl,hd,⟨by decide,by decide⟩,fun H1 s1=>?_⟩
    cases c:aF 24 cz d with
    | true=>exact q c _ s1
    | false=>exact fun y hy=>⟨y,none,_,rfl,ac,fun h z=>z,s1.free hy,e c _ (s1.trans (dz hy))⟩
theorem mH (T:Txt K mg a):FnOk P w K mg base (CXG P w) 6 a.f_need_answers a.d_need_answers ["answers", "is_one"] (iU a a.f_is_worded_answer bu):=by
  have G_is_list_of:FnOk P w K mg base CX0 5 _ _ _ (fG a.f_is_worded_answer bu):=sw T
  refine T.F_need_answers.okG eT (fun vs H Q E h=>?_) (fun cdv A outer s H vs Q E hr h=>?_)
  · obtain ⟨x,d,rfl,_⟩:=h; rfl
  · obtain ⟨x,d,rfl,hd,q,e⟩:=h
    refine ⟨_,(ap (cX (jh (gj (au G_is_list_of hr rfl T.m_is_list_of T.F_is_list_of.kp T.B_is_list_of .nil aH (aa (vr 0) (aa (cD rfl T.g_MOST_ANSWERS) (aa (vr 1) ae)))))) (ap (fM T.xc_NoAnswers T.xh_NoAnswers (iY T.xi_NoAnswers T.kc_NoAnswers rfl T.mc_NoAnswers))) bC)),?_⟩
    refine ⟨x,24,d,rfl,hd,⟨by decide,by decide⟩,fun H1 s1=>?_⟩
    cases c:aF 24 bu d with
    | true=>exact q c _ s1
    | false=>exact fun y hy=>⟨y,none,_,rfl,ac,fun h z=>z,s1.free hy,e c _ (s1.trans (dz hy))⟩
theorem iI {H:Hp}:∀ {ds:List Td} {xs:List V},Iss H ds xs→(∀ z ∈ ds,dy z = true)→∃ ns:List Int,xs = ns.map V.int∧ns.length = ds.length∧∀ v ∈ ns,0≤v∧v≤24000000
  | [],_,h,_=>by obtain rfl:=iss_n.mp h; exact ⟨[],rfl,rfl,fun _ z=>by cases z⟩
  | d :: ds,_,h,g=>by
    obtain ⟨y,ys,rfl,h1,t⟩:=iss_c.mp h
    obtain ⟨i,rfl,i0,i1⟩:=bz (g d (List.mem_cons_self ..))
    obtain ⟨ns,rfl,e,hn⟩:=iI t fun z hz=>g z (List.mem_cons_of_mem _ hz)
    obtain rfl:=cZ h1
    refine ⟨i :: ns,rfl,by rw [List.length_cons,List.length_cons,e],fun v hv=>?_⟩
    rcases List.mem_cons.mp hv with rfl | hv
    · exact ⟨i0,i1⟩
    · exact hn v hv
theorem tD {H:Hp} {R C:Nat} {d:Td} {x:V} (h:Is H d x) (g:bU R C d = true):∃ u:Un,IsU H u x∧OkN u R C:=by
  unfold bU at g
  split at g
  · rename_i d1 d2 d3 d4
    split at g
    · rename_i c1
      split at g
      · rename_i c2
        split at g
        · rename_i c3
          obtain ⟨p,xs,rfl,hp,hi⟩:=is_tup.mp h
          obtain ⟨_,_,_,_,x1,x2,x3,x4,e0,rfl,i1,i2,i3,i4⟩:=sX hi rfl
          cases e0
          obtain ⟨n1,rfl,a1,b1⟩:=bz c1
          obtain ⟨n2,rfl,a2,b2⟩:=bz c2
          obtain ⟨n3,rfl,a3,b3⟩:=bz c3
          obtain ⟨n4,rfl,a4,b4⟩:=bz g
          obtain rfl:=cZ i1
          obtain rfl:=cZ i2
          obtain rfl:=cZ i3
          obtain rfl:=cZ i4
          have f1:((n1.toNat:Nat):Int) = n1:=by omega
          have f2:((n2.toNat:Nat):Int) = n2:=by omega
          have a4:n3≤n4:=a4
          refine ⟨⟨n1.toNat,n2.toNat,n3,n4⟩,⟨p,rfl,?_⟩,by show n1.toNat < R; omega,by show n2.toNat < C; omega,a3,a4,b4⟩
          rw [hp,vT,f1,f2]
        · cases g
      · cases g
    · cases g
  · cases g
theorem mM {H:Hp} {R C:Nat}:∀ {ds:List Td} {xs:List V},Iss H ds xs→(∀ z ∈ ds,bU R C z = true)→∃ us:List Un,AllU H us xs∧us.length = ds.length∧∀ u ∈ us,OkN u R C
  | [],_,h,_=>by obtain rfl:=iss_n.mp h; exact ⟨[],.nil,rfl,fun _ z=>by cases z⟩
  | d :: ds,_,h,g=>by
    obtain ⟨y,ys,rfl,h1,t⟩:=iss_c.mp h
    obtain ⟨u,hu,ok⟩:=tD h1 (g d (List.mem_cons_self ..))
    obtain ⟨us,hn,e,hk⟩:=mM t fun z hz=>g z (List.mem_cons_of_mem _ hz)
    refine ⟨u :: us,.cons hu hn,by rw [List.length_cons,List.length_cons,e],fun v hv=>?_⟩
    rcases List.mem_cons.mp hv with rfl | hv
    · exact ok
    · exact hk v hv
theorem vK {H:Hp} {dr dc du:Td} {xr xc xu:V} (h1:Is H dr xr) (h2:Is H dc xc) (h3:Is H du xu) (g:inB dr dc du = true):∃ lr lc lu rows cols us xs,xr = .ref lr∧xc = .ref lc∧xu = .ref lu∧In H lr lc lu rows cols us xs∧((us.length:Int) = ig du):=by
  rw [inB,Bool.and_eq_true,Bool.and_eq_true] at g
  obtain ⟨⟨g1,g2⟩,g3⟩:=g
  obtain ⟨dsr,rfl,m1,p1⟩:=dJ g1
  obtain ⟨dsc,rfl,m2,p2⟩:=dJ g2
  obtain ⟨dsu,rfl,m3,p3⟩:=dJ g3
  obtain ⟨lr,vr,rfl,e1,i1⟩:=is_lst.mp h1
  obtain ⟨lc,vc,rfl,e2,i2⟩:=is_lst.mp h2
  obtain ⟨lu,vu,rfl,e3,i3⟩:=is_lst.mp h3
  obtain ⟨rows,rfl,l1,k1⟩:=iI i1 p1
  obtain ⟨cols,rfl,l2,k2⟩:=iI i2 p2
  have p3':∀ z ∈ dsu,bU (rows.length:Nat) (cols.length:Nat) z = true:=fun z hz=>by rw [l1,l2]; exact p3 z hz
  obtain ⟨us,hu,l3,k3⟩:=mM i3 p3'
  exact ⟨lr,lc,lu,rows,cols,us,vu,rfl,rfl,rfl,⟨e1,e2,e3,hu,⟨by omega,k1⟩,⟨by omega,k2⟩,by omega,k3⟩,by rw [ig,l3]⟩
theorem iA {H:Hp}:∀ {ns:List Int},(∀ v ∈ ns,0≤v∧v≤24000000)→Iss H (ns.map Td.int) (ns.map V.int)∧(ns.map Td.int).all dy = true
  | [],_=>⟨aA,rfl⟩
  | n :: ns,h=>by
    obtain ⟨t1,t2⟩:=iA (H:=H) (ns:=ns) fun v hv=>h v (List.mem_cons_of_mem _ hv)
    obtain ⟨h0,h1⟩:=h n (List.mem_cons_self ..)
    refine ⟨ag (by rw [Is]) t1,?_⟩
    rw [List.map_cons,List.all_cons,t2,Bool.and_true]
    exact cS h0 h1
def tdU (u:Un):Td:=.tup [.int (u.r:Nat),.int (u.c:Nat),.int u.lo,.int u.hi]
theorem lM {H:Hp} {R C:Nat}:∀ {us:List Un} {xs:List V},AllU H us xs→(∀ u ∈ us,OkN u R C)→Iss H (us.map tdU) xs∧(us.map tdU).all (bU R C) = true
  | _,_,.nil,_=>⟨aA,rfl⟩
  | u :: us,_,.cons r t,h=>by
    obtain ⟨t1,t2⟩:=lM t fun v hv=>h v (List.mem_cons_of_mem _ hv)
    obtain ⟨o1,o2,o3,o4,o5⟩:=h u (List.mem_cons_self ..)
    obtain ⟨p,rfl,hp⟩:=r
    refine ⟨ag (is_tup.mpr ⟨p,_,rfl,hp,ag (by rw [Is]) (ag (by rw [Is]) (ag (by rw [Is]) (ag (by rw [Is]) aA)))⟩) t1,?_⟩
    rw [List.map_cons,List.all_cons,t2,Bool.and_true,tdU,bU]
    have w1:bE 0 ((R:Int) - 1) (.int (u.r:Nat)) = true:=cS (by omega) (by omega)
    have w2:bE 0 ((C:Int) - 1) (.int (u.c:Nat)) = true:=cS (by omega) (by omega)
    have w3:bE 0 1000000 (.int u.lo) = true:=cS o3 (by omega)
    rw [if_pos w1,if_pos w2,if_pos w3]
    exact cS o4 o5
theorem gZ (T:Txt K mg a) (hB:Bm mg base):FnOk P w K mg base CX0 5 a.f_need_bounds a.d_need_bounds ["rows", "columns", "units"] (fc a):=by
  refine (rk (jj T hB)).imp fun vs H Q E h=>?_
  obtain ⟨lr,lc,lu,rows,cols,us,xs,rfl,hI,hT,q⟩:=h
  obtain ⟨i1,g1⟩:=iA (H:=H) hI.rs.2
  obtain ⟨i2,g2⟩:=iA (H:=H) hI.cs.2
  obtain ⟨i3,g3⟩:=lM hI.all hI.ok
  have r6:=hI.rs.1
  have c6:=hI.cs.1
  have u24:=hI.n
  have g:inB (.lst (rows.map Td.int)) (.lst (cols.map Td.int)) (.lst (us.map tdU)) = true:=by
    rw [inB,aF,aF,aF,ig,ig,g1,g2,List.length_map,List.length_map,List.length_map,g3,decide_eq_true (by omega),decide_eq_true (by omega),decide_eq_true (by omega)]; rfl
  exact ⟨_,_,_,_,_,_,rfl,is_lst.mpr ⟨lr,_,rfl,hI.r,i1⟩,is_lst.mpr ⟨lc,_,rfl,hI.c,i2⟩,is_lst.mpr ⟨lu,_,rfl,hI.u,i3⟩,hT,fun _=>q,fun z=>by rw [g] at z; cases z⟩
end
end My
set_option maxHeartbeats 1000000
namespace Led
def sd (s:Nat) (u:Un):Nat:=if s = 0 then u.r else u.c
def dY (us:List Un) (ws:List Int) (s R k:Nat):List Int:=(List.range R).map fun i=>sI (fun p=>if sd s (uAt us p) = i then wAt ws p else 0) k
theorem ck (us:List Un) (ws:List Int) (s R k:Nat):(dY us ws s R k).length = R:=by unfold dY; rw [List.length_map,List.length_range]
theorem fS (us:List Un) (ws:List Int) (s:Nat) {R:Nat} (k:Nat) {i:Nat} (h:i < R):(dY us ws s R k)[i]? = some (sI (fun p=>if sd s (uAt us p) = i then wAt ws p else 0) k):=by
  unfold dY; rw [List.getElem?_map,List.getElem?_range h]; rfl
theorem qf (us:List Un) (ws:List Int) (s R:Nat):dY us ws s R 0 = List.replicate R 0:=by
  refine List.ext_getElem? fun i=>?_
  by_cases h:i < R
  · rw [fS us ws s 0 h,List.getElem?_replicate,if_pos h]; rfl
  · rw [List.getElem?_eq_none (by rw [ck]; lia),List.getElem?_eq_none (by rw [List.length_replicate]; lia)]
theorem pI (us:List Un) (ws:List Int) (s R k:Nat):dY us ws s R (k + 1) = (dY us ws s R k).set (sd s (uAt us k)) ((dY us ws s R k).getD (sd s (uAt us k)) 0 + wAt ws k):=by
  refine List.ext_getElem? fun i=>?_
  rw [List.getElem?_set]
  by_cases h:i < R
  · rw [fS us ws s _ h]
    by_cases c:sd s (uAt us k) = i
    · rw [if_pos c,ck,if_pos (by lia),List.getD,c,fS us ws s k h]
      rw [sI,if_pos c]; rfl
    · rw [if_neg c,fS us ws s k h,sI,if_neg c,Int.add_zero]
  · rw [List.getElem?_eq_none (by rw [ck]; lia)]
    by_cases c:sd s (uAt us k) = i
    · rw [if_pos c,ck,if_neg (by lia)]
    · rw [if_neg c,List.getElem?_eq_none (by rw [ck]; lia)]
theorem si (us:List Un) (ws:List Int) {R i:Nat} (h:i < R):(dY us ws 0 R us.length)[i]? = some (qP us ws i):=by rw [fS us ws 0 _ h]; rfl
theorem qx (us:List Un) (ws:List Int) {R i:Nat} (h:i < R):(dY us ws 1 R us.length)[i]? = some (rq us ws i):=by rw [fS us ws 1 _ h]; rfl
theorem jo {us:List Un} {i:Nat} {u:Un} (h:us[i]? = some u):uAt us i = u:=by unfold uAt; rw [List.getD,h]; rfl
theorem iE {ws:List Int} {i:Nat} {v:Int} (h:ws[i]? = some v):wAt ws i = v:=by unfold wAt; rw [List.getD,h]; rfl
def cN (R C:Nat):List En:=(List.range R).map (fun i=>(0,i)) ++ (List.range C).map (fun j=>(1,j))
theorem ends_mem {R C:Nat} {e:En}:e ∈ cN R C↔(e.1 = 0∧e.2 < R)∨(e.1 = 1∧e.2 < C):=by
  unfold cN
  rw [List.mem_append,List.mem_map,List.mem_map]
  constructor
  · rintro (⟨i,hi,rfl⟩ | ⟨i,hi,rfl⟩)
    · exact .inl ⟨rfl,List.mem_range.mp hi⟩
    · exact .inr ⟨rfl,List.mem_range.mp hi⟩
  · obtain ⟨a,b⟩:=e
    rintro (⟨h1,h2⟩ | ⟨h1,h2⟩)
    · exact .inl ⟨b,List.mem_range.mpr h2,by have:a = 0:=h1; rw [this]⟩
    · exact .inr ⟨b,List.mem_range.mpr h2,by have:a = 1:=h1; rw [this]⟩
theorem dw (R C:Nat):(cN R C).length = R + C:=by unfold cN; rw [List.length_append,List.length_map,List.length_map,List.length_range,List.length_range]
theorem uX (R C:Nat):(cN R C).Nodup:=by
  unfold cN
  rw [List.nodup_append]
  refine ⟨?_,?_,fun a ha b hb z=>?_⟩
  · exact List.pairwise_map.mpr (List.Pairwise.imp (fun h z=>h (Prod.mk.inj z).2) (List.nodup_range (n:=_)))
  · exact List.pairwise_map.mpr (List.Pairwise.imp (fun h z=>h (Prod.mk.inj z).2) (List.nodup_range (n:=_)))
  · obtain ⟨i,_,rfl⟩:=List.mem_map.mp ha
    obtain ⟨j,_,rfl⟩:=List.mem_map.mp hb
    cases z
end Led
namespace My
open PySem L2 FrM Led
theorem lj {k n:Nat} (h:k < n):ixN n (k:Int) = some k:=by
  unfold ixN
  rw [if_pos (by omega)]
  first | rfl | (simp; done) | (simp; exact h)
theorem tU {s:Nat} (hs:s≤1) (u:Un):atI (vT u) (s:Int) = some (.int (sd s u:Nat)):=by
  rcases (show s = 0∨s = 1 by omega) with rfl | rfl
  · exact ar 0 rfl rfl
  · exact ar 1 rfl rfl
theorem fP {ns:List Int} {i:Nat} {v:Int} (h:ns[i]? = some v):atI (ns.map V.int) (i:Int) = some (.int v):=cU (by rw [List.getElem?_map,h]; rfl)
theorem ny {ns:List Int} {i:Nat} {y:V} (h:(ns.map V.int)[i]? = some y):∃ v,ns[i]? = some v∧y = .int v:=by
  rw [List.getElem?_map] at h
  cases hc:ns[i]? with
  | none=>rw [hc] at h; cases h
  | some z=>rw [hc] at h; cases h; exact ⟨z,rfl,rfl⟩
def qF:Sp:=fun vs H Q _=>∃ (lw lu:Addr) (ws:List Int) (us:List Un) (xs:List V) (s R:Nat),vs = [.ref lw,.ref lu,.int (s:Nat),.int (R:Nat)]∧H lw = some (.lst (ws.map V.int))∧H lu = some (.lst xs)∧AllU H us xs∧ws.length = us.length∧s≤1∧R≤6∧(∀ u ∈ us,sd s u < R)∧∀ D H',Same H H'→H D = none→H' D = some (.lst ((dY us ws s R us.length).map V.int))→Q (.ref D) H'
abbrev enV (e:En):List V:=[.int (e.1:Nat),.int (e.2:Nat)]
def IsE (H:Hp) (e:En) (x:V):Prop:=∃ p,x = .ref p∧H p = some (.tup (enV e))
theorem IsE.tu {H H':Hp} {e:En} {x:V} (s:fZ H H') (h:IsE H e x):IsE H' e x:=let ⟨p,q,r⟩:=h; ⟨p,q,s _ _ r⟩
def IsO (H:Hp) (o:Option En) (x:V):Prop:=match o with | none=>x = .non | some e=>IsE H e x
def ln:Sp:=fun vs H Q _=>∃ (u:Un) (e:En) (x y:V),vs = [x,y]∧IsU H u x∧IsE H e y∧∀ v H',Same H H'→IsO H' (oth u e) v→Q v H'
def nJ:Sp:=fun vs H Q _=>∃ (u:Un) (e:En) (x y:V) (v:Int),vs = [x,.int v,y]∧IsU H u x∧IsE H e y∧Q (.int (room u v e)) H
section
variable {P:Program} {w:World} {K:PySem.W.Frag} {mg:Str→Option Value} {base:Heap} {a:Ad}
theorem tW (T:Txt K mg a):FnOk P w K mg base CX0 1 a.f_sums_of a.d_sums_of ["weights", "units", "side", "many"] qF:=by
  refine T.F_sums_of.ok sc_sums_of (fun vs H Q E h=>?_) (fun cdv A outer s H vs Q E hr h=>?_)
  · obtain ⟨lw,lu,ws,us,xs,s,R,rfl,_⟩:=h; rfl
  · obtain ⟨lw,lu,ws,us,xs,sn,R,rfl,hw,hu,hA,wl,s1',r6,hlt,q⟩:=h
    refine ⟨_,(am (dA rfl (i:=4) sc_sums_of.nd rfl rfl (by with_unfolding_all rfl) (N:=["number"]) (ix:=[none]) ⟨rfl,rfl,rfl,rfl,trivial⟩ (kE rfl T.z_range (aa (vr 3) ae)) ⟨fun C s H fp=>aw (i:=0) (show List.Nodup (["number"]:List Str) by decide +kernel) rfl (Or.inl rfl),fun C s H fp=>bY,fun C s H fp=>af⟩) (am (fB PassesOwn.never rfl (wj rfl T.z_zip (aa (vr 1) (aa (vr 0) ae))) (iJ rfl (az (aw (i:=5) sc_sums_of.nd rfl (Or.inl rfl)) (az (aw (i:=6) sc_sums_of.nd rfl (Or.inl rfl)) bP))) (ap (oH (vr 4) (aI aC (vr 5) (vr 2) (fun _ _=>rfl)) mP (vr 6) rQ fe))) (ap (aG (vr 4))))),?_⟩
    have xl:us.length = xs.length:=Paired.length hA
    have sl:sizeLine = 16777216:=sizeLine_eq
    refine ⟨R,rfl,by omega,by omega,fun D hD=>?_⟩
    refine qL (lo:=0) (n:=R) (fun j ys H'=>j≤R∧Same H H'∧H' D = some (.lst ys)∧ys = (List.replicate j (0:Int)).map V.int) ⟨Nat.zero_le _,Same.new hD,ac,rfl⟩ (fun j ys H' h=>h.2.2.1) ?_ ?_
    · rintro j ys H' P' hj ⟨hj',s1,hD1,rfl⟩ hP
      refine ⟨trivial,hD1,by rw [List.length_map,List.length_replicate]; omega,hP _ _ ⟨hj,s1.put hD,ac,?_⟩⟩
      rw [List.replicate_succ',List.map_append]; rfl
    rintro ys H1 ⟨_,s1,hD1,rfl⟩
    have nw:D≠lw:=fun z=>by rw [z,hw] at hD; cases hD
    have nu:D≠lu:=fun z=>by rw [z,hu] at hD; cases hD
    refine ⟨lu,lw,_,_,rfl,s1 _ _ hu,s1 _ _ hw,?_⟩
    refine ui (a:=lu) (b:=lw) (xs:=xs) (ys:=ws.map V.int) (by rw [List.length_map]; omega) (fun i σ H'=>Same H H'∧H' D = some (.lst ((dY us ws sn R i).map V.int))∧∃ (x5 x6:Option V),σ = [some (.ref lw),some (.ref lu),some (.int (sn:Nat)),some (.int (R:Nat)),some (.ref D),x5,x6]) ⟨s1,by rw [qf]; exact hD1,none,none,rfl⟩ (fun i σ H' h=>⟨h.1 _ _ hu,h.1 _ _ hw⟩) ?_ ?_
    · rintro i x y σ H2 pt hx hy ⟨s2,hD2,x5,x6,rfl⟩ hpt
      obtain ⟨u,hu',hU⟩:=eF hA hx
      obtain ⟨v,hv,rfl⟩:=ny hy
      have s3:=Same.new (o:=.tup [x,.int v]) hpt
      obtain ⟨p,rfl,hp⟩:=hU.tu (s2.trans s3).tu
      have nD:D≠pt:=fun z=>by rw [z,hpt] at hD2; cases hD2
      have hD3:=s3 _ _ hD2
      have lt:=hlt u (List.mem_of_getElem? hu')
      have ea:(dY us ws sn R i)[sd sn u]? = some ((dY us ws sn R i).getD (sd sn u) 0):=by rw [List.getD,List.getElem?_eq_getElem (by rw [ck]; exact lt)]; rfl
      refine ⟨pt,_,rfl,SqT.of ac,rfl,_,_,rfl,_,_,rfl,rfl,?_⟩
      refine .inr (.inl ⟨p,_,_,_,rfl,rfl,SqT.of hp,tU s1' u,?_⟩)
      refine ⟨D,_,_,_,rfl,rfl,SqL.of hD3,by omega,fP ea,?_⟩
      refine ⟨_,_,rfl,rfl,D,_,_,_,rfl,rfl,hD3,lj (by rw [List.length_map,ck]; exact lt),?_⟩
      refine ⟨(s2.trans s3).put hD,?_,_,_,rfl⟩
      rw [ac,pI,jo hu',iE hv,List.map_set]
    · rintro σ H2 ⟨s2,hD2,x5,x6,rfl⟩
      rw [← xl] at hD2
      exact q D _ s2 hD hD2
theorem oo (T:Txt K mg a):FnOk P w K mg base CX0 1 a.f_room a.d_room ["unit", "weight", "start"] nJ:=by
  refine T.F_room.ok uv (fun vs H Q E h=>?_) (fun cdv A outer s H vs Q E hr h=>?_)
  · obtain ⟨u,e,x,y,v,rfl,_⟩:=h; rfl
  · obtain ⟨u,e,x,y,v,rfl,⟨p,rfl,hp⟩,⟨p2,rfl,hp2⟩,q⟩:=h
    refine ⟨_,(ap (aG (fF (bh ej (aI aC (vr 2) af (fun _ _=>rfl)) af (aD _)) (aB eR (aI aC (vr 0) af (fun _ _=>rfl)) (vr 1)) (aB eR (vr 1) (aI aC (vr 0) af (fun _ _=>rfl)))))),?_⟩
    refine .inr (.inl ⟨p2,_,_,_,rfl,rfl,SqT.of hp2,ar 0 rfl rfl,?_⟩)
    unfold room at q
    refine ifC (fun c=>?_) fun c=>?_
    · rw [if_pos (by omega)] at q
      exact .inr (.inl ⟨p,_,_,_,rfl,rfl,SqT.of hp,ar 3 rfl rfl,q⟩)
    · rw [if_neg (by omega)] at q
      exact .inr (.inl ⟨p,_,_,_,rfl,rfl,SqT.of hp,ar 2 rfl rfl,q⟩)
theorem dvE {H:Hp} {e:En} {p:Addr} (h:H p = some (.tup (enV e))):DV K H (.tuple [.int (e.1:Nat),.int (e.2:Nat)]) (.ref p):=⟨p,_,rfl,SqT.of h,_,_,rfl,rfl,_,_,rfl,rfl,rfl⟩
theorem eqE (e f:En):PyData.eqv (.tuple [.int ((e.1:Nat):Int),.int ((e.2:Nat):Int)]) (.tuple [.int ((f.1:Nat):Int),.int ((f.2:Nat):Int)]) = decide (e = f):=by
  obtain ⟨a,b⟩:=e
  obtain ⟨c,d⟩:=f
  rw [Bool.eq_iff_iff,decide_eq_true_iff]
  simp [PyData.eqv,PyData.eqvAll]
  omega
theorem lB (T:Txt K mg a):FnOk P w K mg base CX0 1 a.f_other_end a.d_other_end ["unit", "here"] ln:=by
  refine T.F_other_end.ok kH (fun vs H Q E h=>?_) (fun cdv A outer s H vs Q E hr h=>?_)
  · obtain ⟨u,e,x,y,rfl,_⟩:=h; rfl
  · obtain ⟨u,e,x,y,rfl,⟨p,rfl,hp⟩,⟨p2,rfl,hp2⟩,q⟩:=h
    refine ⟨_,(am (cX (bh (vE hr.units) (vr 1) (bX (aa af (aa (aI aC (vr 0) af (fun _ _=>rfl)) ae))) (aD _)) (ap (aG (bX (aa af (aa (aI aC (vr 0) af (fun _ _=>rfl)) ae))))) bC) (am (cX (bh (vE hr.units) (vr 1) (bX (aa af (aa (aI aC (vr 0) af (fun _ _=>rfl)) ae))) (aD _)) (ap (aG (bX (aa af (aa (aI aC (vr 0) af (fun _ _=>rfl)) ae))))) bC) (ap (aG dh)))),?_⟩
    have z2:∀ x y:V,[x,y].length≤sizeLine:=fun x y=>by rw [show sizeLine = 16777216 from sizeLine_eq]; exact (by decide:2≤16777216)
    refine .inr (.inl ⟨p,_,_,_,rfl,rfl,SqT.of hp,ar 0 rfl rfl,z2 _ _,fun t1 ht1=>?_⟩)
    have n1:=Same.new (o:=.tup (enV (0,u.r))) ht1
    refine ⟨_,_,dvE (e:=e) (n1 _ _ hp2),dvE (e:=(0,u.r)) ac,rfl,rfl,?_⟩
    rw [eqE]
    refine ifC (fun c=>?_) fun c=>?_
    · refine .inr (.inl ⟨p,_,_,_,rfl,rfl,SqT.of (n1 _ _ hp),ar 1 rfl rfl,z2 _ _,fun t2 ht2=>?_⟩)
      refine q _ _ (n1.trans (Same.new ht2)) ?_
      unfold oth
      rw [if_pos c]
      exact ⟨t2,rfl,ac⟩
    · refine .inr (.inl ⟨p,_,_,_,rfl,rfl,SqT.of (n1 _ _ hp),ar 1 rfl rfl,z2 _ _,fun t2 ht2=>?_⟩)
      have n2:=n1.trans (Same.new (o:=.tup (enV (1,u.c))) ht2)
      refine ⟨_,_,dvE (e:=e) (n2 _ _ hp2),dvE (e:=(1,u.c)) ac,rfl,rfl,?_⟩
      rw [eqE]
      refine ifC (fun c2=>?_) fun c2=>?_
      · refine .inr (.inl ⟨p,_,_,_,rfl,rfl,SqT.of (n2 _ _ hp),ar 0 rfl rfl,z2 _ _,fun t3 ht3=>?_⟩)
        refine q _ _ (n2.trans (Same.new ht3)) ?_
        unfold oth
        rw [if_neg c,if_pos c2]
        exact ⟨t3,rfl,ac⟩
      · refine q _ _ n2 ?_
        unfold oth
        rw [if_neg c,if_neg c2]
        rfl
end
end My
set_option maxHeartbeats 1000000
namespace Led
theorem dD:∀ {l m:List En},l.Nodup→(∀ x ∈ l,x ∈ m)→l.length≤m.length
  | [],_,_,_=>Nat.zero_le _
  | x :: l,m,nd,h=>by
    rw [List.nodup_cons] at nd
    have hx:=h x (List.mem_cons_self ..)
    have:=dD (l:=l) (m:=m.erase x) nd.2 fun y hy=>(List.mem_erase_of_ne (fun z=>nd.1 (by rw [← z]; exact hy))).mpr (h y (List.mem_cons_of_mem _ hy))
    rw [List.length_erase_of_mem hx] at this
    have:=List.length_pos_of_mem hx
    rw [List.length_cons]
    lia
def b0 (S:List En):By:=S.map fun e=>(e,none)
theorem fN (S:List En):keys (b0 S) = S:=by unfold keys b0; rw [List.map_map]; exact List.map_id _
section
variable (us:List Un) (ws:List Int)
def iy (M:Nat) (S:List En):By:=bfs us ws (mB M (b0 S) S) (b0 S) S
theorem qi {S:List En} (nd:S.Nodup):Fr us ws S (b0 S) S:=by
  refine ⟨⟨by rw [fN]; exact nd,fun i e p h=>?_,fun e he=>?_⟩,fun e he=>by rw [fN]; exact he,fun e he=>by rw [fN]; exact he,fun h hh=>.inl (by rw [fN] at hh; exact hh)⟩
  · unfold b0 at h
    rw [List.getElem?_map] at h
    cases hc:S[i]? with
    | none=>rw [hc] at h; cases h
    | some x=>rw [hc] at h; cases h
  · unfold b0 at he
    obtain ⟨x,hx,e'⟩:=List.mem_map.mp he
    cases e'
    exact hx
theorem li {R C:Nat} (ok:OkU us R C) {h:En} {b:By} {t:List En} (hb:∀ e ∈ keys b,e ∈ cN R C):∀ n,n≤us.length→∀ e ∈ keys (cW us ws h b t n).1,e ∈ cN R C
  | 0,_=>hb
  | n + 1,hn=>by
    have ih:=li ok hb (h:=h) (t:=t) n (by lia)
    rw [io]
    generalize cW us ws h b t n = st at ih
    unfold lS
    cases eo:oth (uAt us n) h with
    | none=>exact ih
    | some x =>
      simp only
      split
      · exact ih
      · split
        · intro e he
          rw [cG] at he
          rcases List.mem_append.mp he with z | z
          · exact ih e z
          · have:e = x:=List.mem_singleton.mp z
            subst this
            obtain ⟨o1,o2,_⟩:=ok n (by lia)
            rw [ends_mem]
            rcases dG eo with ⟨_,rfl⟩ | ⟨_,rfl⟩
            · exact .inr ⟨rfl,o2⟩
            · exact .inl ⟨rfl,o1⟩
        · exact ih
structure Bs (R C:Nat) (S:List En) (b:By) (ah:List En):Prop where
  fr:Fr us ws S b ah
  sub:∀ e ∈ keys b,e ∈ cN R C
  few:ah.length≤b.length
  res:∃ n,mB (R + C) b ah≤n∧bfs us ws n b ah = iy us ws (R + C) S
theorem Bs.len {R C:Nat} {S:List En} {b:By} {ah:List En} (B:Bs us ws R C S b ah):b.length≤R + C:=by
  have:=dD B.fr.tree.nd B.sub
  rw [dw] at this
  unfold keys at this
  rw [List.length_map] at this
  exact this
theorem Bs.first {R C:Nat} {S:List En} (nd:S.Nodup) (hs:∀ e ∈ S,e ∈ cN R C):Bs us ws R C S (b0 S) S :=
  ⟨qi us ws nd,fun e he=>hs e (by rw [fN] at he; exact he),by unfold b0; rw [List.length_map]; exact Nat.le_refl _,_,Nat.le_refl _,rfl⟩
theorem lN {S:List En} {h:En} {b:By} {t:List En} (T:Tree us ws S b) (hh:h ∈ keys b) (hf:t.length≤b.length) (n:Nat) (hn:n≤us.length):(cW us ws h b t n).2.length≤(cW us ws h b t n).1.length:=by
  obtain ⟨c,e1,e2⟩:=(eE us ws (t:=t) T hh n hn).new
  rw [e1,e2,List.length_append,List.length_append]
  unfold keys
  rw [List.length_map]
  lia
theorem Bs.next {R C:Nat} {S:List En} {b:By} {h:En} {t:List En} (ok:OkU us R C) (B:Bs us ws R C S b (h :: t)):Bs us ws R C S (cW us ws h b t us.length).1 (cW us ws h b t us.length).2∧mB (R + C) (cW us ws h b t us.length).1 (cW us ws h b t us.length).2 < mB (R + C) b (h :: t):=by
  have F:=B.fr.next
  have sub:=li us ws ok (h:=h) (t:=t) B.sub us.length (Nat.le_refl _)
  have len:(cW us ws h b t us.length).1.length≤R + C:=by
    have:=dD F.tree.nd sub
    rw [dw] at this
    unfold keys at this
    rw [List.length_map] at this
    exact this
  have lt:=uq us ws B.fr len
  refine ⟨⟨F,sub,lN us ws B.fr.tree (B.fr.sub h (List.mem_cons_self ..)) (by have:=B.few; rw [List.length_cons] at this; lia) _ (Nat.le_refl _),?_⟩,lt⟩
  obtain ⟨n,h1,h2⟩:=B.res
  cases n with
  | zero=>lia
  | succ n=>exact ⟨n,by lia,h2⟩
theorem Bs.done {R C:Nat} {S:List En} {b:By} (B:Bs us ws R C S b []):b = iy us ws (R + C) S:=by
  obtain ⟨n,_,h⟩:=B.res
  rw [← h]
  cases n <;> rfl
end
end Led
namespace My
open PySem L2 FrM Led
abbrev key (e:En):List Key:=[.inl (e.1:Nat),.inl (e.2:Nat)]
theorem oP {e f:En} (h:key e = key f):e = f:=by
  obtain ⟨a,b⟩:=e
  obtain ⟨c,d⟩:=f
  simp [key] at h
  obtain ⟨h1,h2⟩:=h
  have:a = c:=by omega
  have:b = d:=by omega
  subst_vars
  rfl
def dE (l:List (En×V)):List (List Key×V):=l.map fun x=>(key x.1,x.2)
theorem gq (l:List (En×V)):(dE l).length = l.length:=List.length_map ..
theorem nk (e:En):∀ l:List (En×V),eW (dE l) (key e) = (l.find? fun x=>decide (x.1 = e)).map (·.2)
  | []=>rfl
  | x :: l=>by
    show eW ((key x.1,x.2) :: dE l) (key e) = _
    by_cases c:x.1 = e
    · rw [hJ (by rw [c]),List.find?_cons_of_pos (p:=fun x:En×V=>decide (x.1 = e)) (decide_eq_true c)]; rfl
    · rw [gB (fun z=>c (oP z)),List.find?_cons_of_neg (p:=fun x:En×V=>decide (x.1 = e)) (fun z=>c (of_decide_eq_true z)),nk e l]
theorem nA {l:List (En×V)} {e:En} (h:e ∉ l.map (·.1)) (v:V):fm (dE l) (key e) v = dE (l ++ [(e,v)]):=by
  unfold fm
  rw [if_neg]
  · unfold dE; rw [List.map_append]; rfl
  · intro z
    obtain ⟨x,hx,hk⟩:=List.any_eq_true.mp z
    unfold dE at hx
    obtain ⟨y,hy,rfl⟩:=List.mem_map.mp hx
    exact h (List.mem_map.mpr ⟨y,hy,oP (of_decide_eq_true hk)⟩)
def oV:Option Nat→V
  | none=>.non
  | some p=>.int (p:Nat)
def byL (b:By):List (En×V):=b.map fun x=>(x.1,oV x.2)
theorem qy (b:By):(byL b).map (·.1) = keys b:=by unfold byL keys; rw [List.map_map]; rfl
theorem mU (b:By) (e:En):eW (dE (byL b)) (key e) = (look b e).map oV:=by
  rw [nk]
  unfold look byL
  rw [List.find?_map,Option.map_map,Option.map_map]
  rfl
theorem look_some {b:By} {e:En}:(look b e).isSome = true↔e ∈ keys b:=by
  unfold look keys
  rw [Option.isSome_map,List.find?_isSome,List.mem_map]
  constructor
  · rintro ⟨x,hx,h⟩; exact ⟨x,hx,of_decide_eq_true h⟩
  · rintro ⟨x,hx,h⟩; exact ⟨x,hx,decide_eq_true h⟩
theorem qI {b:By} {e:En} (h:e ∉ keys b) (o:Option Nat):fm (dE (byL b)) (key e) (oV o) = dE (byL (b ++ [(e,o)])):=by
  rw [nA (by rw [qy]; exact h)]
  unfold byL
  rw [List.map_append]
  rfl
def spE (us:List Un) (rows cols ws:List Int) (R C:Nat):List (En×V):=(cN R C).map fun e=>(e,.int (sp us rows cols ws e))
theorem mO (us:List Un) (rows cols ws:List Int) (R C:Nat):(spE us rows cols ws R C).map (·.1) = cN R C:=by unfold spE; rw [List.map_map]; exact List.map_id _
theorem vo (us:List Un) (rows cols ws:List Int) (i:Nat):spE us rows cols ws (i + 1) 0 = spE us rows cols ws i 0 ++ [((0,i),.int (sp us rows cols ws (0,i)))]:=by
  unfold spE cN
  rw [List.range_succ]
  simp
theorem tj (us:List Un) (rows cols ws:List Int) (R i:Nat):spE us rows cols ws R (i + 1) = spE us rows cols ws R i ++ [((1,i),.int (sp us rows cols ws (1,i)))]:=by
  unfold spE cN
  rw [List.range_succ]
  simp
theorem kJ {us:List Un} {rows cols ws:List Int} {R C:Nat} {e:En} (h:e ∈ cN R C):eW (dE (spE us rows cols ws R C)) (key e) = some (.int (sp us rows cols ws e)):=by
  rw [nk]
  unfold spE
  rw [List.find?_map,Option.map_map]
  have:((cN R C).find? ((fun x:En×V=>decide (x.1 = e)) ∘ fun e=>(e,V.int (sp us rows cols ws e)))) = some e:=by
    cases hf:(cN R C).find? ((fun x:En×V=>decide (x.1 = e)) ∘ fun e=>(e,V.int (sp us rows cols ws e))) with
    | none=>exact absurd (decide_eq_true rfl) (List.find?_eq_none.mp hf e h)
    | some y=>have:=List.find?_some hf; rw [show y = e from of_decide_eq_true this]
  rw [this]
  rfl
abbrev AllE (H:Hp):List En→List V→Prop:=PySem.Paired (IsE H)
theorem AllE.tu {H H':Hp} (s:fZ H H'):∀ {es:List En} {xs:List V},AllE H es xs→AllE H' es xs
  | _,_,.nil=>.nil
  | _,_,.cons r t=>.cons (r.tu s) (AllE.tu s t)
theorem AllE.snoc {H:Hp} {e:En} {x:V} (r:IsE H e x):∀ {es:List En} {xs:List V},AllE H es xs→AllE H (es ++ [e]) (xs ++ [x])
  | _,_,.nil=>.cons r .nil
  | _,_,.cons q t=>.cons q (AllE.snoc r t)
theorem yH {H:Hp} {D:Addr} {kvs:List (List Key×V)} {o:HO} (h:H D = some (.dT kvs)):fZ H (upd H D o):=fun b xs e=>by rw [ao (fun z=>by rw [z,h] at e; cases e)]; exact e
structure Uw (H:Hp) (lu lw:Addr) (us:List Un) (xs:List V) (ws:List Int):Prop where
  w:H lw = some (.lst (ws.map V.int))
  u:H lu = some (.lst xs)
  all:AllU H us xs
  len:ws.length = us.length
  n:us.length≤24
theorem Uw.same {H H':Hp} {lu lw:Addr} {us:List Un} {xs:List V} {ws:List Int} (s:Same H H') (h:Uw H lu lw us xs ws):Uw H' lu lw us xs ws:=⟨s _ _ h.w,s _ _ h.u,h.all.tu s.tu,h.len,h.n⟩
def oZ:Sp:=fun vs H Q _=>∃ (lr lc lu lw:Addr) (rows cols ws:List Int) (us:List Un) (xs:List V),vs = [.ref lr,.ref lc,.ref lu,.ref lw]∧In H lr lc lu rows cols us xs∧H lw = some (.lst (ws.map V.int))∧ws.length = us.length∧∀ D H',Same H H'→H D = none→H' D = some (.dT (dE (spE us rows cols ws rows.length cols.length)))→Q (.ref D) H'
def oe:Sp:=fun vs H Q _=>∃ (ls lu lw:Addr) (S:List En) (ss:List V) (ws:List Int) (us:List Un) (xs:List V) (R C:Nat),vs = [.ref ls,.ref lu,.ref lw]∧Uw H lu lw us xs ws∧H ls = some (.lst ss)∧AllE H S ss∧S.Nodup∧(∀ e ∈ S,e ∈ cN R C)∧OkU us R C∧R≤6∧C≤6∧∀ D H',Same H H'→H D = none→Bs us ws R C S (iy us ws (R + C) S) []→H' D = some (.dT (dE (byL (iy us ws (R + C) S))))→Q (.ref D) H'
theorem wa {n:Nat} (h:0 < n):seqIndex? 0 n = some 0:=by
  unfold seqIndex?
  first | (rw [if_pos (by omega)]; rfl) | simp [h]
section
variable {P:Program} {w:World} {K:PySem.W.Frag} {mg:Str→Option Value} {base:Heap} {a:Ad}
theorem rN (T:Txt K mg a):FnOk P w K mg base CX0 2 a.f_spare_of a.d_spare_of ["rows", "columns", "units", "weights"] oZ:=by
  have G_sums_of:FnOk P w K mg base CX0 1 _ _ _ qF:=tW T
  refine T.F_spare_of.ok sc_spare_of (fun vs H Q E h=>?_) (fun cdv A outer s H vs Q E hr h=>?_)
  · obtain ⟨lr,lc,lu,lw,rows,cols,ws,us,xs,rfl,_⟩:=h; rfl
  · obtain ⟨lr,lc,lu,lw,rows,cols,ws,us,xs,rfl,hI,hw,wl,q⟩:=h
    refine ⟨_,(am (bg (i:=4) sc_spare_of.nd rfl (Or.inl rfl) mD) (am (fB PassesOwn.never rfl (eM rfl T.z_enumerate (aa (au G_sums_of hr rfl T.m_sums_of T.F_sums_of.kp T.B_sums_of .nil aH (aa (vr 3) (aa (vr 2) (aa af (aa (av aU rfl T.z_len ci (aa (vr 0) ae)) ae))))) ae)) (iJ rfl (az (aw (i:=5) sc_spare_of.nd rfl (Or.inl rfl)) (az (aw (i:=6) sc_spare_of.nd rfl (Or.inl rfl)) bP))) (ap (ja (fo hr) (vr 4) (bX (aa af (aa (vr 5) ae))) (aB eR (aI aC (vr 0) (vr 5) (fun _ _=>rfl)) (vr 6)) rfl))) (am (fB PassesOwn.never rfl (eM rfl T.z_enumerate (aa (au G_sums_of hr rfl T.m_sums_of T.F_sums_of.kp T.B_sums_of .nil aH (aa (vr 3) (aa (vr 2) (aa af (aa (av aU rfl T.z_len ci (aa (vr 1) ae)) ae))))) ae)) (iJ rfl (az (aw (i:=5) sc_spare_of.nd rfl (Or.inl rfl)) (az (aw (i:=6) sc_spare_of.nd rfl (Or.inl rfl)) bP))) (ap (ja (fo hr) (vr 4) (bX (aa af (aa (vr 5) ae))) (aB eR (vr 6) (aI aC (vr 1) (vr 5) (fun _ _=>rfl))) rfl))) (ap (aG (vr 4)))))),?_⟩
    have sl:sizeLine = 16777216:=sizeLine_eq
    have z2:∀ x y:V,[x,y].length≤sizeLine:=fun x y=>by rw [sl]; exact (by decide:2≤16777216)
    have r6:=hI.rs.1
    have c6:=hI.cs.1
    intro d hd
    have s0:=Same.new (o:=.dT []) hd
    refine ⟨_,.inl (SqL.of (s0 _ _ hI.r)),?_⟩
    refine ⟨lw,lu,ws,us,xs,0,rows.length,by rw [List.length_map]; rfl,s0 _ _ hw,s0 _ _ hI.u,hI.all.tu s0.tu,wl,by omega,r6,fun u hu=>(hI.ok u hu).1,fun D1 H1 s1 f1 h1=>?_⟩
    have d1:=s1 _ _ (ac (H:=H) (a:=d) (o:=.dT []))
    have nD1:D1≠d:=fun z=>by rw [z,ac] at f1; cases f1
    have s01:=s0.trans s1
    refine ⟨D1,_,rfl,h1,?_⟩
    refine jG (a:=D1) (xs:=(dY us ws 0 rows.length us.length).map V.int) (fun i σ H'=>Same H H'∧H' d = some (.dT (dE (spE us rows cols ws i 0)))∧H' D1 = some (.lst ((dY us ws 0 rows.length us.length).map V.int))∧∃ (x5 x6:Option V),σ = [some (.ref lr),some (.ref lc),some (.ref lu),some (.ref lw),some (.ref d),x5,x6]) ⟨s01,d1,h1,none,none,rfl⟩ (fun i σ H' h=>h.2.2.1) ?_ ?_
    · rintro i x σ H2 pt hx ⟨s2,d2,h2,x5,x6,rfl⟩ hpt
      obtain ⟨v,hv,rfl⟩:=ny hx
      have ilt:i < rows.length:=by have:=(List.getElem?_eq_some_iff.mp hv).1; rw [ck] at this; exact this
      rw [si us ws ilt] at hv
      cases hv
      have s3:=Same.new (o:=.tup [.int (i:Nat),.int (qP us ws i)]) hpt
      refine ⟨pt,_,rfl,SqT.of ac,rfl,_,_,rfl,_,_,rfl,rfl,?_⟩
      refine .inl ⟨lr,_,_,_,rfl,rfl,SqL.of ((s2.trans s3) _ _ hI.r),fP (List.getElem?_eq_getElem ilt),?_⟩
      refine ⟨z2 _ _,fun t ht=>?_⟩
      have s4:=s3.trans (Same.new (o:=.tup (enV (0,i))) ht)
      refine ⟨d,_,rfl,DPut.t (k:=key (0,i)) (s4 _ _ d2) ac (by rw [gq]; unfold spE; rw [List.length_map,dw]; omega),?_⟩
      have ew:rows[i] = wAt rows i:=(iE (List.getElem?_eq_getElem ilt)).symm
      refine ⟨(s2.trans s4).put hd,?_,by rw [ao nD1]; exact s4 _ _ h2,_,_,rfl⟩
      rw [ac,vo,nA]
      · have es:sp us rows cols ws (0,i) = rows[i] - qP us ws i:=by rw [ew]; rfl
        rw [es]
      · rw [mO,ends_mem]
        rintro (⟨_,z⟩ | ⟨z,_⟩)
        · exact absurd z (Nat.lt_irrefl _)
        · cases z
    · rintro σ H2 ⟨s2,d2,_,x5,x6,rfl⟩
      rw [List.length_map,ck] at d2
      refine ⟨_,.inl (SqL.of (s2 _ _ hI.c)),?_⟩
      refine ⟨lw,lu,ws,us,xs,1,cols.length,by rw [List.length_map]; rfl,s2 _ _ hw,s2 _ _ hI.u,hI.all.tu s2.tu,wl,by omega,c6,fun u hu=>(hI.ok u hu).2.1,fun D3 H3 s3 f3 h3=>?_⟩
      have d3:=s3 _ _ d2
      have nD3:D3≠d:=fun z=>by rw [z,d2] at f3; cases f3
      have s03:=s2.trans s3
      refine ⟨D3,_,rfl,h3,?_⟩
      refine jG (a:=D3) (xs:=(dY us ws 1 cols.length us.length).map V.int) (fun i σ H'=>Same H H'∧H' d = some (.dT (dE (spE us rows cols ws rows.length i)))∧H' D3 = some (.lst ((dY us ws 1 cols.length us.length).map V.int))∧∃ (x5 x6:Option V),σ = [some (.ref lr),some (.ref lc),some (.ref lu),some (.ref lw),some (.ref d),x5,x6]) ⟨s03,d3,h3,_,_,rfl⟩ (fun i σ H' h=>h.2.2.1) ?_ ?_
      · rintro i x σ H4 pt hx ⟨s4,d4,h4,x5,x6,rfl⟩ hpt
        obtain ⟨v,hv,rfl⟩:=ny hx
        have ilt:i < cols.length:=by have:=(List.getElem?_eq_some_iff.mp hv).1; rw [ck] at this; exact this
        rw [qx us ws ilt] at hv
        cases hv
        have s5:=Same.new (o:=.tup [.int (i:Nat),.int (rq us ws i)]) hpt
        refine ⟨pt,_,rfl,SqT.of ac,rfl,_,_,rfl,_,_,rfl,rfl,?_⟩
        refine .inl ⟨lc,_,_,_,rfl,rfl,SqL.of ((s4.trans s5) _ _ hI.c),fP (List.getElem?_eq_getElem ilt),?_⟩
        refine ⟨z2 _ _,fun t ht=>?_⟩
        have s6:=s5.trans (Same.new (o:=.tup (enV (1,i))) ht)
        refine ⟨d,_,rfl,DPut.t (k:=key (1,i)) (s6 _ _ d4) ac (by rw [gq]; unfold spE; rw [List.length_map,dw]; omega),?_⟩
        have ew:cols[i] = wAt cols i:=(iE (List.getElem?_eq_getElem ilt)).symm
        refine ⟨(s4.trans s6).put hd,?_,by rw [ao nD3]; exact s6 _ _ h4,_,_,rfl⟩
        rw [ac,tj,nA]
        · have es:sp us rows cols ws (1,i) = rq us ws i - cols[i]:=by rw [ew]; rfl
          rw [es]
        · rw [mO,ends_mem]
          rintro (⟨z,_⟩ | ⟨_,z⟩)
          · cases z
          · exact absurd z (Nat.lt_irrefl _)
      · rintro σ H4 ⟨s4,d4,_,x5,x6,rfl⟩
        rw [List.length_map,ck] at d4
        exact q d _ s4 hd d4
theorem rM (T:Txt K mg a):FnOk P w K mg base CX0 2 a.f_reached_from a.d_reached_from ["starts", "units", "weights"] oe:=by
  have G_other_end:FnOk P w K mg base CX0 1 _ _ _ ln:=lB T
  have G_room:FnOk P w K mg base CX0 1 _ _ _ nJ:=oo T
  refine T.F_reached_from.ok sc_reached_from (fun vs H Q E h=>?_) (fun cdv A outer s H vs Q E hr h=>?_)
  · obtain ⟨ls,lu,lw,S,ss,ws,us,xs,R,C,rfl,_⟩:=h; rfl
  · obtain ⟨ls,lu,lw,S,ss,ws,us,xs,R,C,rfl,hU,hs,hS,nd,sub,okU,r6,c6,q⟩:=h
    refine ⟨_,(am (bg (i:=3) sc_reached_from.nd rfl (Or.inl rfl) mD) (am (fB PassesOwn.never rfl (cm (vr 0)) (aw (i:=4) sc_reached_from.nd rfl (Or.inl rfl)) (ap (ja (fo hr) (vr 3) (vr 4) dh rfl))) (am (bg (i:=5) sc_reached_from.nd rfl (Or.inl rfl) (df gU rfl T.z_list dQ (aa (vr 0) ae))) (am (hV PassesOwn.never (jv (vr 5) (fun _=>rfl)) (am (bg (i:=6) sc_reached_from.nd rfl (Or.inl rfl) (pe_m.popAt (vr 5) (aa af ae))) (ap (fB PassesOwn.never rfl (eM rfl T.z_enumerate (aa (vr 1) ae)) (iJ rfl (az (aw (i:=7) sc_reached_from.nd rfl (Or.inl rfl)) (az (aw (i:=8) sc_reached_from.nd rfl (Or.inl rfl)) bP))) (am (bg (i:=9) sc_reached_from.nd rfl (Or.inl rfl) (au G_other_end hr rfl T.m_other_end T.F_other_end.kp T.B_other_end .nil aH (aa (vr 8) (aa (vr 6) ae)))) (ap (cX (PW.pt (kY (bh gQ (vr 9) dh (aD _)) (kY (wH (o9 (fo hr) (vr 9) (vr 3))) (lg (bh uS (au G_room hr rfl T.m_room T.F_room.kp T.B_room .nil aH (aa (vr 8) (aa (aI aC (vr 2) (vr 7) (fun _ _=>rfl)) (aa (vr 6) ae)))) af (aD _)))))) (am (ja (fo hr) (vr 3) (vr 9) (vr 7) rfl) (ap (cQ (pe_m.append (vr 5) (aa (vr 9) ae))))) bC))))))) (ap (aG (vr 3))))))),?_⟩
    have sl:sizeLine = 16777216:=sizeLine_eq
    have Sl:S.length = ss.length:=Paired.length hS
    have xl:us.length = xs.length:=Paired.length hU.all
    have S12:S.length≤R + C:=by have:=dD nd sub; rw [dw] at this; exact this
    intro d hd
    have s0:=Same.new (o:=.dT []) hd
    refine .inl ⟨⟨_,SqL.of (s0 _ _ hs)⟩,?_⟩
    refine jE (K:=K) (a:=ls) (xs:=ss) (fun i σ H'=>i≤S.length∧Same H H'∧H' d = some (.dT (dE (byL (b0 (S.take i)))))∧∃ (x4:Option V),σ = [some (.ref ls),some (.ref lu),some (.ref lw),some (.ref d),x4,none,none,none,none,none]) ⟨Nat.zero_le _,s0,ac,none,rfl⟩ (fun i σ H' _ h=>SqL.of (h.2.1 _ _ hs)) ?_ ?_
    · rintro i x σ H1 hx ⟨il,s1,d1,x4,rfl⟩
      obtain ⟨e,he,hE⟩:=eF hS hx
      obtain ⟨p,rfl,hp⟩:=hE.tu s1.tu
      have ilt:=(List.getElem?_eq_some_iff.mp he).1
      refine ⟨d,_,rfl,DPut.t (k:=key e) d1 hp (by rw [gq]; unfold byL b0; rw [List.length_map,List.length_map,List.length_take]; omega),?_⟩
      refine ⟨ilt,s1.put hd,?_,_,rfl⟩
      have tk:S.take (i + 1) = S.take i ++ [e]:=by rw [List.take_add_one,he]; rfl
      rw [ac,tk]
      have:=qI (b:=b0 (S.take i)) (e:=e) (by
        rw [fN]
        intro z
        have nd':(S.take i ++ [e]).Nodup:=by rw [← tk]; exact nd.sublist (List.take_sublist ..)
        exact (List.nodup_append.mp nd').2.2 e z e (List.mem_singleton_self _) rfl) none
      unfold b0 at this ⊢
      rw [List.map_append]
      exact congrArg (fun z=>some (HO.dT z)) this
    rintro σ H1 ⟨_,s1,d1,x4,rfl⟩
    rw [← Sl,List.take_of_length_le (Nat.le_refl _)] at d1
    refine ⟨ls,_,rfl,.inl (SqL.of (s1 _ _ hs)),fun la hla=>?_⟩
    have s2:=s1.trans (Same.new (o:=.lst ss) hla)
    have nla:la≠d:=fun z=>by rw [z,d1] at hla; cases hla
    have hla0:H la = none:=by
      cases hh:H la with
      | none=>rfl
      | some o=>rw [s1 _ _ hh] at hla; cases hla
    refine ⟨fun m σ H'=>∃ (b:By) (ah:List En) (ys:List V) (x4 x6 x7 x8 x9:Option V),m = mB (R + C) b ah∧Same H H'∧Bs us ws R C S b ah∧H' d = some (.dT (dE (byL b)))∧H' la = some (.lst ys)∧AllE H' ah ys∧σ = [some (.ref ls),some (.ref lu),some (.ref lw),some (.ref d),x4,some (.ref la),x6,x7,x8,x9],⟨_,b0 S,S,ss,_,_,_,_,_,rfl,s2,Bs.first us ws nd sub,by rw [ao (Ne.symm nla)]; exact d1,ac,hS.tu s2.tu,rfl⟩,?_⟩
    rintro m σ H3 ⟨b,ah,ys,x4,x6,x7,x8,x9,rfl,s3,B,d3,a3,hA,rfl⟩
    refine ⟨_,.inl ⟨_,SqL.of a3,rfl⟩,?_⟩
    cases hA with
    | nil =>
      have e:=Bs.done us ws B
      refine xK (show ¬ ((!([]:List V).isEmpty) = true) from fun z=>by cases z) ?_
      rw [e] at d3 B
      exact q d _ s3 hd B d3
    | @cons h x t ys hE hT =>
      refine ⟨fun σ H'=>∃ m',m' < mB (R + C) b (h :: t)∧∃ (b:By) (ah:List En) (ys:List V) (x4 x6 x7 x8 x9:Option V),m' = mB (R + C) b ah∧Same H H'∧Bs us ws R C S b ah∧H' d = some (.dT (dE (byL b)))∧H' la = some (.lst ys)∧AllE H' ah ys∧σ = [some (.ref ls),some (.ref lu),some (.ref lw),some (.ref d),x4,some (.ref la),x6,x7,x8,x9],fun σ' H' h=>h,?_⟩
      refine ⟨.inl ⟨rfl,_,SqL.of a3⟩,la,_,0,0,x,rfl,rfl,a3,by decide,by decide,wa (by rw [List.length_cons]; omega),rfl,?_⟩
      have s4:Same H (upd H3 la (.lst ((x :: ys).eraseIdx 0))):=s3.put hla0
      have d4:(upd H3 la (.lst ((x :: ys).eraseIdx 0))) d = _:=(ao (Ne.symm nla)).trans d3
      have a4:(upd H3 la (.lst ((x :: ys).eraseIdx 0))) la = some (.lst ys):=ac
      have u4:fZ H3 (upd H3 la (.lst ((x :: ys).eraseIdx 0))):=eQ a3
      generalize upd H3 la (.lst ((x :: ys).eraseIdx 0)) = H4 at s4 d4 a4 u4
      obtain ⟨px,rfl,hpx⟩:=hE.tu u4
      have hT4:=AllE.tu u4 hT
      have hU4:=hU.same s4
      have hb12:=B.len
      have hhk:=B.fr.sub h (List.mem_cons_self ..)
      have few0:t.length≤b.length:=by have:=B.few; rw [List.length_cons] at this; omega
      refine ⟨lu,_,rfl,hU4.u,?_⟩
      refine jG (a:=lu) (xs:=xs) (fun i σ H'=>i≤us.length∧Same H H'∧H' px = some (.tup (enV h))∧∃ (ys:List V) (x7 x8 x9:Option V),H' d = some (.dT (dE (byL (cW us ws h b t i).1)))∧H' la = some (.lst ys)∧AllE H' (cW us ws h b t i).2 ys∧σ = [some (.ref ls),some (.ref lu),some (.ref lw),some (.ref d),x4,some (.ref la),some (.ref px),x7,x8,x9]) ⟨Nat.zero_le _,s4,hpx,ys,x7,x8,x9,d4,a4,hT4,rfl⟩ (fun i σ H' h=>h.2.1 _ _ hU.u) ?_ ?_
      · rintro i x σ H5 pt hx ⟨il,s5,hp5,zs,x7,x8,x9,d5,a5,hA5,rfl⟩ hpt
        obtain ⟨u,hu,hUx⟩:=eF hU.all hx
        have ilt:=(List.getElem?_eq_some_iff.mp hu).1
        have s6:=Same.new (o:=.tup [.int (i:Nat),x]) hpt
        have s56:=s5.trans s6
        refine ⟨pt,_,rfl,SqT.of ac,rfl,_,_,rfl,_,_,rfl,rfl,?_⟩
        refine ⟨u,h,x,.ref px,rfl,hUx.tu s56.tu,⟨px,rfl,s6 _ _ hp5⟩,fun v H7 s7 hv=>?_⟩
        have s57:=s6.trans s7
        have s07:=s5.trans s57
        have d7:=s57 _ _ d5
        have a7:=s57 _ _ a5
        have hp7:=s57 _ _ hp5
        have hA7:=AllE.tu s57.tu hA5
        have sc:=eE us ws (t:=t) B.fr.tree hhk i (by omega)
        have len:=dD sc.tree.nd (li us ws okU (h:=h) (t:=t) B.sub i (by omega))
        have few:=lN us ws (t:=t) B.fr.tree hhk few0 i (by omega)
        rw [dw] at len
        unfold keys at len
        rw [List.length_map] at len
        have zl:(cW us ws h b t i).2.length = zs.length:=Paired.length hA5
        rw [io]
        generalize cW us ws h b t i = st at d7 a7 hA7 len few zl
        unfold lS
        rw [jo hu]
        cases ho:oth u h with
        | none =>
          rw [ho] at hv
          have hv':v = .non:=hv
          subst hv'
          exact ⟨ilt,s07,hp7,zs,_,_,_,d7,a7,hA7,rfl⟩
        | some e =>
          rw [ho] at hv
          obtain ⟨pv,rfl,hpv⟩:=(hv:IsE H7 e v)
          refine ⟨d,_,rfl,DGet.t (k:=key e) d7 hpv,?_⟩
          rw [mU]
          simp only
          by_cases c1:e ∈ keys st.1
          · rw [if_pos c1]
            have c1':=look_some.mpr c1
            rw [Option.isSome_map,c1']
            refine ⟨_,rfl,?_⟩
            exact ⟨ilt,s07,hp7,zs,_,_,_,d7,a7,hA7,rfl⟩
          · rw [if_neg c1]
            have c1':(look st.1 e).isSome = false:=by
              cases hh:(look st.1 e).isSome with
              | false=>rfl
              | true=>exact absurd (look_some.mp hh) c1
            rw [Option.isSome_map,c1']
            refine ⟨_,rfl,?_⟩
            refine .inl ⟨lw,_,_,_,rfl,rfl,SqL.of (s07 _ _ hU.w),fP (List.getElem?_eq_getElem (by rw [hU.len]; exact ilt)),?_⟩
            have ew:ws[i]'(by rw [hU.len]; exact ilt) = wAt ws i:=(iE (List.getElem?_eq_getElem (by rw [hU.len]; exact ilt))).symm
            rw [ew]
            refine ⟨u,h,x,.ref px,_,rfl,hUx.tu s07.tu,⟨px,rfl,hp7⟩,?_⟩
            refine ifC (fun c2=>?_) fun c2=>?_
            · rw [if_pos c2]
              refine ⟨d,_,rfl,DPut.t (k:=key e) d7 hpv (by rw [gq]; unfold byL; rw [List.length_map]; omega),?_⟩
              have n1:d≠la:=Ne.symm nla
              refine ⟨.inl ⟨rfl,_,SqL.of (by rw [ao nla]; exact a7)⟩,la,zs,_,rfl,rfl,by rw [ao nla]; exact a7,by omega,?_⟩
              have u8:fZ H7 (upd H7 d (.dT (fm (dE (byL st.1)) (key e) (.int (i:Nat))))):=yH d7
              have a8:(upd H7 d (.dT (fm (dE (byL st.1)) (key e) (.int (i:Nat))))) la = some (.lst zs):=by rw [ao nla]; exact a7
              have u9:=eQ (o:=.lst (zs ++ [.ref pv])) a8
              refine ⟨ilt,(s07.put hd).put hla0,u9 _ _ (u8 _ _ hp7),zs ++ [.ref pv],_,_,_,?_,ac,(AllE.tu u9 (AllE.tu u8 hA7)).snoc ⟨pv,rfl,u9 _ _ (u8 _ _ hpv)⟩,rfl⟩
              rw [ao n1,ac]
              exact congrArg (fun z=>some (HO.dT z)) (qI c1 (some i))
            · rw [if_neg c2]
              exact ⟨ilt,s07,hp7,zs,_,_,_,d7,a7,hA7,rfl⟩
      · rintro σ H5 ⟨_,s5,hp5,zs,x7,x8,x9,d5,a5,hA5,rfl⟩
        rw [← xl] at d5 hA5
        obtain ⟨B',lt⟩:=B.next us ws okU
        exact ⟨_,lt,_,_,zs,_,_,_,_,_,rfl,s5,B',d5,a5,hA5,rfl⟩
end
end My
set_option maxHeartbeats 1000000
namespace Led
def gg (a:Int) (l:List Int):Int:=l.foldl (fun x y=>if y < x then y else x) a
theorem iw:∀ (l:List Int) (a:Int),gg a l ∈ a :: l∧∀ x ∈ a :: l,gg a l≤x
  | [],a=>⟨List.mem_singleton_self _,fun x hx=>by rw [List.mem_singleton.mp hx]; exact Int.le_refl _⟩
  | y :: l,a=>by
    have ih:=iw l (if y < a then y else a)
    have e:gg a (y :: l) = gg (if y < a then y else a) l:=rfl
    rw [e]
    refine ⟨?_,fun x hx=>?_⟩
    · rcases List.mem_cons.mp ih.1 with z | z
      · rw [z]
        split
        · exact List.mem_cons_of_mem _ (List.mem_cons_self ..)
        · exact List.mem_cons_self ..
      · exact List.mem_cons_of_mem _ (List.mem_cons_of_mem _ z)
    · have h0:=ih.2 _ (List.mem_cons_self ..)
      rcases List.mem_cons.mp hx with z | z
      · rw [z]; have h1:(if y < a then y else a)≤a:=by split <;> lia
        lia
      · rcases List.mem_cons.mp z with z | z
        · rw [z]; have h1:(if y < a then y else a)≤y:=by split <;> lia
          lia
        · exact ih.2 x (List.mem_cons_of_mem _ z)
theorem qh {m a:Int} {l:List Int} (h1:m ∈ a :: l) (h2:∀ x ∈ a :: l,m≤x):m = gg a l:=by
  have s:=iw l a
  exact Int.le_antisymm (h2 _ s.1) (s.2 _ h1)
def onF (b:By) (s R:Nat):List Int:=((List.range R).filter fun i=>decide ((s,i) ∈ keys b)).map fun (i:Nat)=>(i:Int)
theorem xk {b:By} {s R:Nat} {v:Int}:v ∈ onF b s R↔∃ i:Nat,i < R∧(s,i) ∈ keys b∧v = (i:Int):=by
  unfold onF
  rw [List.mem_map]
  constructor
  · rintro ⟨i,hi,rfl⟩
    obtain ⟨h1,h2⟩:=List.mem_filter.mp hi
    exact ⟨i,List.mem_range.mp h1,of_decide_eq_true h2,rfl⟩
  · rintro ⟨i,h1,h2,rfl⟩
    exact ⟨i,List.mem_filter.mpr ⟨List.mem_range.mpr h1,decide_eq_true h2⟩,rfl⟩
theorem ya (b:By) (s R:Nat):(onF b s R).Nodup:=List.pairwise_map.mpr (List.Pairwise.imp (fun h z=>h (by lia)) ((List.nodup_range (n:=R)).sublist List.filter_sublist))
theorem yG (b:By) (s R:Nat):(onF b s R).Pairwise (·≤·):=List.pairwise_map.mpr (List.Pairwise.imp (fun h=>by lia) ((List.pairwise_lt_range (n:=R)).sublist List.filter_sublist))
theorem qa {b:By} {s R:Nat} {ns:List Int} (nd:(keys b).Nodup) (hR:∀ e ∈ keys b,e.1 = s→e.2 < R) (hp:ns.Perm (((keys b).filter fun e=>decide (e.1 = s)).map fun e=>(e.2:Int))) (hs:ns.Pairwise (·≤·)):ns = onF b s R:=by
  have nd2:(((keys b).filter fun e=>decide (e.1 = s)).map fun e=>(e.2:Int)).Nodup:=by
    refine List.pairwise_map.mpr ?_
    refine List.Pairwise.imp_of_mem (R:=fun a b=>a≠b) (fun {x y} hx hy h z=>?_) (nd.sublist List.filter_sublist)
    have e1:x.1 = s:=of_decide_eq_true (List.mem_filter.mp hx).2
    have e2:y.1 = s:=of_decide_eq_true (List.mem_filter.mp hy).2
    exact h (Prod.ext (e1.trans e2.symm) (by lia))
  have p2:(((keys b).filter fun e=>decide (e.1 = s)).map fun e=>(e.2:Int)).Perm (onF b s R):=by
    refine (List.perm_ext_iff_of_nodup nd2 (ya b s R)).mpr fun v=>?_
    rw [xk,List.mem_map]
    constructor
    · rintro ⟨e,he,rfl⟩
      obtain ⟨h1,h2⟩:=List.mem_filter.mp he
      have h2':e.1 = s:=of_decide_eq_true h2
      exact ⟨e.2,hR e h1 h2',by rw [← h2']; exact h1,rfl⟩
    · rintro ⟨i,h1,h2,rfl⟩
      exact ⟨(s,i),List.mem_filter.mpr ⟨h2,decide_eq_true rfl⟩,rfl⟩
  exact List.Perm.eq_of_pairwise (fun a b _ _ h1 h2=>Int.le_antisymm h1 h2) hs (yG b s R) (hp.trans p2)
section
variable (us:List Un) (rows cols:List Int) (R C:Nat)
def p8 (ws:List Int):List En:=(cN R C).filter fun e=>decide (0 < sp us rows cols ws e)
def me (ws:List Int) (b:By):List En:=(keys b).filter fun e=>decide (sp us rows cols ws e < 0)
def cg (ws:List Int) (P:List (En×Nat)):List Int:=P.map fun x=>room (uAt us x.2) (wAt ws x.2) x.1
def hdF (P:List (En×Nat)):En:=(P.headD ((0,0),0)).1
def jZ (ws:List Int) (P:List (En×Nat)) (l:En):Int:=if -sp us rows cols ws l < sp us rows cols ws (hdF P) then -sp us rows cols ws l else sp us rows cols ws (hdF P)
def gG (ws:List Int) (b:By) (l:En):List Int:=cY (gg (jZ us rows cols ws (bB us b b.length l []) l) (cg us ws (bB us b b.length l []))) (bB us b b.length l []) ws
def byF (ws:List Int):By:=iy us ws (R + C) (p8 us rows cols R C ws)
inductive Told
  | ws (w:List Int)
  | no (over:Bool) (so ot:List Int)
def jL:Nat→List Int→Told
  | 0,ws=>.ws ws
  | n + 1,ws=>match me us rows cols ws (byF us rows cols R C ws) with
    | []=>if (byF us rows cols R C ws).isEmpty then .ws ws else .no true (onF (byF us rows cols R C ws) 0 R) (onF (byF us rows cols R C ws) 1 C)
    | l :: _=>jL n (gG us rows cols ws (byF us rows cols R C ws) l)
def lows:List Int:=us.map (·.lo)
def pV (n:Nat):List Int:=(List.range n).map fun (i:Nat)=>(i:Int)
def tm:Told:=if rows.sum = cols.sum then jL us rows cols R C ((mS us (lows us) rows cols R C).toNat + 1) (lows us) else .no (decide (cols.sum < rows.sum)) (pV R) (pV C)
variable {us rows cols R C}
theorem vd (ws:List Int):(p8 us rows cols R C ws).Nodup:=(uX R C).sublist List.filter_sublist
theorem jH (ws:List Int):∀ e ∈ p8 us rows cols R C ws,e ∈ cN R C:=fun e he=>(List.mem_filter.mp he).1
theorem ud (ok:OkU us R C):Wi us (lows us):=by
  refine ⟨List.length_map ..,fun p hp=>?_⟩
  have e:wAt (lows us) p = (uAt us p).lo:=by
    unfold wAt lows uAt
    rw [List.getD,List.getD,List.getElem?_map,List.getElem?_eq_getElem hp]
    rfl
  rw [e]
  exact ⟨Int.le_refl _,(ok p hp).2.2⟩
theorem way {ws:List Int} {S:List En} {b:By} {l:En} (B:Bs us ws R C S b []) (hS:∀ e ∈ S,0 < sp us rows cols ws e) (hl:l ∈ me us rows cols ws b):∃ s p P,s ∈ S∧bB us b b.length l [] = (s,p) :: P∧IsP us ws ((s,p) :: P) s l∧(((s,p) :: P).map (·.1) ++ [l]).Nodup∧sp us rows cols ws l < 0:=by
  obtain ⟨h1,h2⟩:=List.mem_filter.mp hl
  have h2':sp us rows cols ws l < 0:=of_decide_eq_true h2
  obtain ⟨i,hi⟩:=List.getElem?_of_mem h1
  have ilt:i < b.length:=by have:=(List.getElem?_eq_some_iff.mp hi).1; unfold keys at this; rw [List.length_map] at this; exact this
  obtain ⟨s,hs,hP,nd⟩:=kz us ws B.fr.tree b.length i l l [] ilt (Wy.first us ws (S:=S) hi)
  cases hc:bB us b b.length l [] with
  | nil =>
    rw [hc] at hP
    have e:s = l:=hP
    subst e
    have:=hS s hs
    lia
  | cons x P =>
    obtain ⟨x1,x2⟩:=x
    rw [hc] at hP nd
    have e:x1 = s:=hP.1
    subst e
    exact ⟨x1,x2,P,hs,rfl,hP,nd,h2'⟩
theorem uz {ws:List Int} {b:By} {l:En} (hw:Wi us ws) (B:Bs us ws R C (p8 us rows cols R C ws) b []) (hl:l ∈ me us rows cols ws b):Wi us (gG us rows cols ws b l)∧mS us (gG us rows cols ws b l) rows cols R C < mS us ws rows cols R C:=by
  obtain ⟨s,p,P,hs,e,hP,nd,hneg⟩:=way (rows:=rows) (cols:=cols) B (fun e he=>of_decide_eq_true (List.mem_filter.mp he).2) hl
  have hpos:0 < sp us rows cols ws s:=of_decide_eq_true (List.mem_filter.mp hs).2
  unfold gG
  rw [e]
  have eh:hdF ((s,p) :: P) = s:=rfl
  have sm:=iw (cg us ws ((s,p) :: P)) (jZ us rows cols ws ((s,p) :: P) l)
  have em:jZ us rows cols ws ((s,p) :: P) l = if -sp us rows cols ws l < sp us rows cols ws s then -sp us rows cols ws l else sp us rows cols ws s:=rfl
  generalize gg (jZ us rows cols ws ((s,p) :: P) l) (cg us ws ((s,p) :: P)) = m at sm
  have m1:=sm.2 _ (List.mem_cons_self ..)
  have mr:∀ x ∈ (s,p) :: P,m≤room (uAt us x.2) (wAt ws x.2) x.1:=fun x hx=>sm.2 _ (List.mem_cons_of_mem _ (List.mem_map.mpr ⟨x,hx,rfl⟩))
  have mp:0 < m:=by
    rcases List.mem_cons.mp sm.1 with z | z
    · rw [z,em]; split <;> lia
    · obtain ⟨x,hx,e⟩:=List.mem_map.mp z
      have:=(fA us ws hP x hx).2.2
      lia
  rw [em] at m1
  have ms:m≤sp us rows cols ws s:=by split at m1 <;> lia
  have ml:sp us rows cols ws l≤-m:=by split at m1 <;> lia
  refine ⟨sN us ws hw hP nd (by lia) mr,?_⟩
  exact vn us ws rows cols R C (lF us rows cols ws m ws hw.len hP) mp ms ml (ends_mem.mp (jH ws s hs))
end
end Led
namespace L2
open PySem PySem.Spec PyProof.Rows
theorem yM {X:Cx} {tg e:Expr} {te:TE} (he:PE X e te):PI X tg e (fun σ H R=>te σ H fun x H1=>∃ d o kvs,x = .ref d∧H1 d = some (.frz o (.dT kvs))∧R (Itd d o kvs) H1):=by
  intro pins s σ H R I h
  refine thn (he pins s σ H _ I h) fun v s1 ⟨x,H1,I1,r1,d,o,kvs,ex,hd,q⟩=>?_
  subst ex
  obtain rfl:v = Value.ref d:=r1
  obtain ⟨xs,es,ep,rel,g1,g2,g3,g4,g5⟩:=kL I1.hok hd
  have hsz:es.size = kvs.length:=by rw [size_of_entries g4,Paired.length rel]
  refine oW g5 ⟨o,g1,g2,g3⟩ ?_
  refine ⟨s1.heap.objs.size,[s1.heap.objs.size],_,_,_,rfl,I1.kept (t':=s1.toks) fun b o e=>Heap.get?_push_of_some _ e,oB g3 hsz,⟨_,Heap.get?_push_size _ rfl,rfl,rfl⟩,fun b hb=>?_,q⟩
  have e:b = s1.heap.objs.size:=List.mem_singleton.mp hb
  subst e
  exact I1.fpOk (Nat.le_refl _) (I1.hok.fresh (Nat.le_refl _))
end L2
namespace My
open PySem L2 FrM Led
def IsPt (H:Hp) (x:En×Nat) (v:V):Prop:=∃ t p,v = .ref t∧H t = some (.tup [.ref p,.int (x.2:Nat)])∧H p = some (.tup (enV x.1))
theorem IsPt.tu {H H':Hp} {x:En×Nat} {v:V} (s:fZ H H') (h:IsPt H x v):IsPt H' x v:=let ⟨t,p,q,r,z⟩:=h; ⟨t,p,q,s _ _ r,s _ _ z⟩
abbrev AllP (H:Hp):List (En×Nat)→List V→Prop:=PySem.Paired (IsPt H)
theorem AllP.tu {H H':Hp} (s:fZ H H'):∀ {es:List (En×Nat)} {xs:List V},AllP H es xs→AllP H' es xs
  | _,_,.nil=>.nil
  | _,_,.cons r t=>.cons (r.tu s) (AllP.tu s t)
def qp:Sp:=fun vs H Q _=>∃ (x:V) (db lu lw:Addr) (o:Obj) (l:En) (b:By) (S:List En) (ws:List Int) (us:List Un) (xs:List V) (i:Nat),vs = [x,.ref db,.ref lu]∧IsE H l x∧H db = some (.frz o (.dT (dE (byL b))))∧Uw H lu lw us xs ws∧Tree us ws S b∧(keys b)[i]? = some l∧b.length≤12∧∀ L H' ps,Same H H'→H L = none→H' L = some (.lst ps)→AllP H' (bB us b b.length l []) ps→Q (.ref L) H'
def o7:Sp:=fun vs H Q _=>∃ (lp lu lw:Addr) (most:Int) (P:List (En×Nat)) (ps:List V) (ws:List Int) (us:List Un) (xs:List V),vs = [.ref lp,.int most,.ref lu,.ref lw]∧H lp = some (.lst ps)∧AllP H P ps∧Uw H lu lw us xs ws∧(∀ x ∈ P,x.2 < us.length)∧P.length≤24∧∀ L H',Same H H'→H L = none→H' L = some (.lst ((cY (gg most (cg us ws P)) P ws).map V.int))→Q (.ref L) H'
def yp:Sp:=fun vs H Q _=>∃ (db:Addr) (o:Obj) (b:By) (s R:Nat),vs = [.int (s:Nat),.ref db]∧H db = some (.frz o (.dT (dE (byL b))))∧(keys b).Nodup∧(∀ e ∈ keys b,e.1 = s→e.2 < R)∧b.length≤12∧∀ L H',Same H H'→H L = none→H' L = some (.lst ((onF b s R).map V.int))→Q (.ref L) H'
section
variable {P:Program} {w:World} {K:PySem.W.Frag} {mg:Str→Option Value} {base:Heap} {a:Ad}
theorem uo (T:Txt K mg a):FnOk P w K mg base CX0 2 a.f_path_to a.d_path_to ["last", "by", "units"] qp:=by
  have G_other_end:FnOk P w K mg base CX0 1 _ _ _ ln:=lB T
  refine T.F_path_to.ok sc_path_to (fun vs H Q E h=>?_) (fun cdv A outer s H vs Q E hr h=>?_)
  · obtain ⟨x,db,lu,lw,o,l,b,S,ws,us,xs,i,rfl,_⟩:=h; rfl
  · obtain ⟨x,db,lu,lw,o,l,b,S,ws,us,xs,i,rfl,hl,hdb,hU,hT,hi,b12,q⟩:=h
    refine ⟨_,(am (bg (i:=3) sc_path_to.nd rfl (Or.inl rfl) (dN ae)) (am (bg (i:=4) sc_path_to.nd rfl (Or.inl rfl) (vr 0)) (am (hV PassesOwn.never (bh gQ (fO (fo hr) (vr 1) (vr 4) (fun _ _=>rfl)) dh (aD _)) (am (bg (i:=5) sc_path_to.nd rfl (Or.inl rfl) (fO (fo hr) (vr 1) (vr 4) (fun _ _=>rfl))) (am (bg (i:=4) sc_path_to.nd rfl (Or.inl rfl) (au G_other_end hr rfl T.m_other_end T.F_other_end.kp T.B_other_end .nil aH (aa (aI aC (vr 2) (vr 5) (fun _ _=>rfl)) (aa (vr 4) ae)))) (ap (cQ (pe_m.insert0 (vr 3) (aa af (aa (bX (aa (vr 4) (aa (vr 5) ae))) ae)))))))) (ap (aG (vr 3)))))),?_⟩
    have sl:sizeLine = 16777216:=sizeLine_eq
    have z2:∀ x y:V,[x,y].length≤sizeLine:=fun x y=>by rw [sl]; exact (by decide:2≤16777216)
    have ilt:i < b.length:=by have:=(List.getElem?_eq_some_iff.mp hi).1; unfold keys at this; rw [List.length_map] at this; exact this
    refine ⟨Nat.zero_le _,fun L hL=>?_⟩
    have s0:=Same.new (o:=.lst []) hL
    refine ⟨fun m σ H'=>∃ (e:En) (y:V) (acc:List (En×Nat)) (ps:List V) (n:Nat) (x5:Option V),Wy us ws b m e l acc∧m < n∧bB us b n e acc = bB us b b.length l []∧acc.length + m≤i∧Same H H'∧H' L = some (.lst ps)∧AllP H' acc ps∧IsE H' e y∧σ = [some x,some (.ref db),some (.ref lu),some (.ref L),some y,x5],⟨i,l,x,[],[],b.length,none,Wy.first us ws (S:=S) hi,ilt,rfl,by rw [List.length_nil]; omega,s0,ac,.nil,hl.tu s0.tu,rfl⟩,?_⟩
    rintro m σ H1 ⟨e,y,acc,ps,n,x5,W,mn,ep,al,s1,hL1,hA,⟨pe,rfl,hpe⟩,rfl⟩
    obtain ⟨r,hr'⟩:∃ r,look b e = some r:=by
      have:=look_some.mpr (List.mem_of_getElem? W.at_)
      cases hc:look b e with
      | none=>rw [hc] at this; cases this
      | some r=>exact ⟨r,rfl⟩
    refine ⟨db,oV r,rfl,.inr ⟨_,key e,pe,.inr ⟨o,s1 _ _ hdb⟩,rfl,hpe,by rw [mU,hr']; rfl⟩,?_⟩
    cases r with
    | none =>
      obtain ⟨n',rfl⟩:∃ n',n = n' + 1:=⟨n - 1,by omega⟩
      have e0:bB us b (n' + 1) e acc = acc:=by rw [bB,hr']
      rw [e0] at ep
      rw [ep] at hA
      exact q L _ _ s1 hL hL1 hA
    | some p =>
      obtain ⟨hp,j,h,hj,ho,W'⟩:=W.back us ws hT hr'
      obtain ⟨n',rfl⟩:∃ n',n = n' + 1:=⟨n - 1,by omega⟩
      have e0:bB us b (n' + 1) e acc = bB us b n' h ((h,p) :: acc):=by rw [bB,hr']; simp only [ho]
      rw [e0] at ep
      refine ⟨fun σ H'=>∃ m',m' < m∧∃ (e:En) (y:V) (acc:List (En×Nat)) (ps:List V) (n:Nat) (x5:Option V),Wy us ws b m' e l acc∧m' < n∧bB us b n e acc = bB us b b.length l []∧acc.length + m'≤i∧Same H H'∧H' L = some (.lst ps)∧AllP H' acc ps∧IsE H' e y∧σ = [some x,some (.ref db),some (.ref lu),some (.ref L),some y,x5],fun σ' H' h=>h,?_⟩
      refine ⟨db,oV (some p),rfl,.inr ⟨_,key e,pe,.inr ⟨o,s1 _ _ hdb⟩,rfl,hpe,by rw [mU,hr']; rfl⟩,?_⟩
      have hU1:=hU.same s1
      have xl:us.length = xs.length:=Paired.length hU.all
      have hx:xs[p]? = some (xs[p]'(by omega)):=List.getElem?_eq_getElem (by omega)
      obtain ⟨u,hu,hUx⟩:=eF hU1.all hx
      rw [jo hu] at ho
      refine .inl ⟨lu,_,_,_,rfl,rfl,SqL.of hU1.u,cU hx,?_⟩
      refine ⟨u,e,_,_,rfl,hUx,⟨pe,rfl,hpe⟩,fun v H2 s2 hv=>?_⟩
      rw [ho] at hv
      obtain ⟨pv,rfl,hpv⟩:=(hv:IsE H2 h v)
      refine ⟨.inl ⟨rfl,_,SqL.of (s2 _ _ hL1)⟩,?_⟩
      refine ⟨z2 _ _,fun t ht=>?_⟩
      have s3:=s2.trans (Same.new (o:=.tup [.ref pv,.int (p:Nat)]) ht)
      have hL3:=s3 _ _ hL1
      have al':acc.length = ps.length:=Paired.length hA
      refine ⟨L,_,_,rfl,rfl,hL3,by omega,?_⟩
      have u4:=eQ (o:=.lst (.ref t :: ps)) hL3
      have hpv3:=(Same.new (o:=.tup [.ref pv,.int (p:Nat)]) ht) _ _ hpv
      exact ⟨j,hj,h,.ref pv,(h,p) :: acc,.ref t :: ps,n',_,W',by omega,ep,by rw [List.length_cons]; omega,(s1.trans s3).put hL,ac,.cons ⟨t,pv,rfl,u4 _ _ ac,u4 _ _ hpv3⟩ (AllP.tu u4 (AllP.tu s3.tu hA)),⟨pv,rfl,u4 _ _ hpv3⟩,rfl⟩
theorem sR (T:Txt K mg a):FnOk P w K mg base CX0 2 a.f_given_along a.d_given_along ["path", "most", "units", "weights"] o7:=by
  have G_room:FnOk P w K mg base CX0 1 _ _ _ nJ:=oo T
  refine T.F_given_along.ok sc_given_along (fun vs H Q E h=>?_) (fun cdv A outer s H vs Q E hr h=>?_)
  · obtain ⟨lp,lu,lw,most,P,ps,ws,us,xs,rfl,_⟩:=h; rfl
  · obtain ⟨lp,lu,lw,most,Pt,ps,ws,us,xs,rfl,hp,hA,hU,hb,p24,q⟩:=h
    refine ⟨_,(am (bg (i:=4) sc_given_along.nd rfl (Or.inl rfl) (av (p9 rfl) rfl T.z_min nq (aa (aB fk (dN (aa (vr 1) ae)) (cA rfl (N:=["end", "place", "units", "weights"]) (ix:=[none,none,some 2,some 3]) ⟨rfl,rfl,rfl,rfl,⟨rfl,rfl,rfl,⟨rfl,rfl,rfl,trivial⟩⟩⟩ (cm (vr 0)) ⟨fun C s H fp=>(cV (K:=K) (n:=2) rfl rfl (az (aw (i:=0) (show List.Nodup (["end", "place", "units", "weights"]:List Str) by decide +kernel) rfl (Or.inl rfl)) (az (aw (i:=1) (show List.Nodup (["end", "place", "units", "weights"]:List Str) by decide +kernel) rfl (Or.inl rfl)) bP))),fun C s H fp=>bY,fun C s H fp=>(au G_room hr rfl T.m_room T.F_room.kp T.B_room .nil aH (aa (aI (cP (K:=K) rfl) (vr 2) (vr 1) (fun _ _=>rfl)) (aa (aI (cP (K:=K) rfl) (vr 3) (vr 1) (fun _ _=>rfl)) (aa (vr 0) ae))))⟩)) ae))) (am (bg (i:=5) sc_given_along.nd rfl (Or.inl rfl) (df gU rfl T.z_list dQ (aa (vr 3) ae))) (am (fB PassesOwn.never rfl (cm (vr 0)) (iJ rfl (az (aw (i:=6) sc_given_along.nd rfl (Or.inl rfl)) (az (aw (i:=7) sc_given_along.nd rfl (Or.inl rfl)) bP))) (ap (oH (vr 5) (vr 7) mP (fF (bh ej (aI aC (vr 6) af (fun _ _=>rfl)) af (aD _)) (vr 4) (gN gE (vr 4))) rQ fe))) (ap (aG (vr 5)))))),?_⟩
    have sl:sizeLine = 16777216:=sizeLine_eq
    have xl:us.length = xs.length:=Paired.length hU.all
    have pl:Pt.length = ps.length:=Paired.length hA
    refine ⟨Nat.le_of_lt (by rw [sl]; exact (by decide:1 < 16777216)),fun l1 hl1=>?_⟩
    have s0:=Same.new (o:=.lst [.int most]) hl1
    refine .inl ⟨⟨_,SqL.of (s0 _ _ hp)⟩,fun D hD=>?_⟩
    have s0D:=s0.trans (Same.new (o:=.lst []) hD)
    have hD0:H D = none:=by
      cases hh:H D with
      | none=>rfl
      | some o=>rw [s0 _ _ hh] at hD; cases hD
    have nD:l1≠D:=fun z=>by rw [← z,ac] at hD; cases hD
    refine br (K:=K) (a:=lp) (xs:=ps) (fun j ys H'=>j≤ps.length∧Same H H'∧H' l1 = some (.lst [.int most])∧H' D = some (.lst ys)∧ys = (cg us ws (Pt.take j)).map V.int) ⟨Nat.zero_le _,s0D,by rw [ao nD]; exact ac,ac,rfl⟩ (fun j ys H' h'=>SqL.of (h'.2.1 _ _ hp)) (fun j ys H' h'=>h'.2.2.2.1) ?_ ?_
    · rintro j y ys H' P' hy ⟨hj,s1,h1,hD1,rfl⟩ hP
      have hlt:j < ps.length:=(List.getElem?_eq_some_iff.mp hy).1
      obtain ⟨x,hx,hPt⟩:=eF hA hy
      obtain ⟨t,pe,rfl,ht,hpe⟩:=hPt.tu s1.tu
      have xlt:=hb x (List.mem_of_getElem? hx)
      have hU1:=hU.same s1
      have hxu:xs[x.2]? = some (xs[x.2]'(by omega)):=List.getElem?_eq_getElem (by omega)
      obtain ⟨u,hu,hUx⟩:=eF hU1.all hxu
      refine ⟨t,_,rfl,SqT.of ht,rfl,_,_,rfl,_,_,rfl,rfl,⟨rfl,rfl,trivial⟩,?_⟩
      refine .inl ⟨lu,_,_,_,rfl,rfl,SqL.of hU1.u,cU hxu,?_⟩
      refine .inl ⟨lw,_,_,_,rfl,rfl,SqL.of hU1.w,fP (List.getElem?_eq_getElem (by rw [hU.len]; exact xlt)),?_⟩
      refine ⟨u,x.1,_,_,_,rfl,hUx,⟨pe,rfl,hpe⟩,hD1,by unfold cg; rw [List.length_map,List.length_map,List.length_take]; omega,hP _ _ ⟨hlt,s1.put hD0,by rw [ao nD]; exact h1,ac,?_⟩⟩
      have tk:Pt.take (j + 1) = Pt.take j ++ [x]:=by rw [List.take_add_one,hx]; rfl
      rw [tk]
      unfold cg
      rw [List.map_append,List.map_append]
      show _ = _ ++ [V.int (room (uAt us x.2) (wAt ws x.2) x.1)]
      rw [jo hu,iE (List.getElem?_eq_getElem (by rw [hU.len]; exact xlt))]
    rintro ys H1 ⟨_,s1,h1,hD1,rfl⟩
    rw [← pl,List.take_of_length_le (Nat.le_refl _)] at hD1
    refine ⟨l1,D,_,_,rfl,rfl,h1,hD1,by unfold cg; rw [List.length_map,List.length_map]; show 1 + _≤_; omega,fun l2 hl2=>?_⟩
    have s2:=s1.trans (Same.new (o:=.lst ([.int most] ++ (cg us ws Pt).map V.int)) hl2)
    refine ⟨l2,most :: cg us ws Pt,rfl,SqL.of ac,by rw [List.length_cons]; omega,fun m hm hle=>?_⟩
    rw [qh hm hle]
    have hU2:=hU.same s2
    refine ⟨lw,_,rfl,.inl (SqL.of hU2.w),fun l3 hl3=>?_⟩
    have s3:=s2.trans (Same.new (o:=.lst (ws.map V.int)) hl3)
    have hl30:H l3 = none:=by
      cases hh:H l3 with
      | none=>rfl
      | some o=>rw [s2 _ _ hh] at hl3; cases hl3
    refine .inl ⟨⟨_,SqL.of (s3 _ _ hp)⟩,?_⟩
    refine jE (K:=K) (a:=lp) (xs:=ps) (fun i σ H'=>Same H H'∧H' l3 = some (.lst ((cY (gg most (cg us ws Pt)) (Pt.take i) ws).map V.int))∧∃ (x6 x7:Option V),σ = [some (.ref lp),some (.int most),some (.ref lu),some (.ref lw),some (.int (gg most (cg us ws Pt))),some (.ref l3),x6,x7]) ⟨s3,ac,none,none,rfl⟩ (fun i σ H' _ h=>SqL.of (h.1 _ _ hp)) ?_ ?_
    · rintro i x σ H4 hx ⟨s4,h4,x6,x7,rfl⟩
      obtain ⟨z,hz,hPt⟩:=eF hA hx
      obtain ⟨t,pe,rfl,ht,hpe⟩:=hPt.tu s4.tu
      have zlt:=hb z (List.mem_of_getElem? hz)
      refine ⟨t,_,rfl,SqT.of ht,rfl,_,_,rfl,_,_,rfl,rfl,?_⟩
      have gl:(cY (gg most (cg us ws Pt)) (Pt.take i) ws).length = us.length:=by rw [ik,hU.len]
      have tk:Pt.take (i + 1) = Pt.take i ++ [z]:=by rw [List.take_add_one,hz]; rfl
      have ez:cY (gg most (cg us ws Pt)) (Pt.take (i + 1)) ws = eG (gg most (cg us ws Pt)) (cY (gg most (cg us ws Pt)) (Pt.take i) ws) z:=by
        rw [tk]; unfold cY; rw [List.foldl_append]; rfl
      rw [ez]
      generalize cY (gg most (cg us ws Pt)) (Pt.take i) ws = gs at h4 gl
      have eg:gs[z.2]? = some (wAt gs z.2):=by rw [iE (List.getElem?_eq_getElem (by omega))]; exact List.getElem?_eq_getElem (by omega)
      refine ⟨l3,_,_,_,rfl,rfl,SqL.of h4,by omega,fP eg,?_⟩
      refine .inr (.inl ⟨pe,_,_,_,rfl,rfl,SqT.of hpe,ar 0 rfl rfl,?_⟩)
      unfold eG
      refine ifC (fun c=>?_) fun c=>?_
      · rw [if_pos (by omega)]
        refine ⟨_,_,rfl,rfl,l3,_,_,_,rfl,rfl,h4,lj (by rw [List.length_map,gl]; exact zlt),?_⟩
        refine ⟨s4.put hl30,?_,_,_,rfl⟩
        rw [ac,List.map_set]
      · rw [if_neg (by omega)]
        refine ⟨_,_,rfl,rfl,l3,_,_,_,rfl,rfl,h4,lj (by rw [List.length_map,gl]; exact zlt),?_⟩
        refine ⟨s4.put hl30,?_,_,_,rfl⟩
        rw [ac,List.map_set]
    · rintro σ H4 ⟨s4,h4,x6,x7,rfl⟩
      rw [← pl,List.take_of_length_le (Nat.le_refl _)] at h4
      exact q l3 _ s4 hl30 h4
theorem xW (T:Txt K mg a):FnOk P w K mg base CX0 1 a.f_reached_on a.d_reached_on ["side", "by"] yp:=by
  refine T.F_reached_on.ok jS (fun vs H Q E h=>?_) (fun cdv A outer s H vs Q E hr h=>?_)
  · obtain ⟨db,o,b,s,R,rfl,_⟩:=h; rfl
  · obtain ⟨db,o,b,sn,R,rfl,hdb,nd,hR,b12,q⟩:=h
    refine ⟨_,(ap (aG (av lm rfl T.z_sorted kg (aa (cA rfl (N:=["end", "side"]) (ix:=[none,some 0]) ⟨rfl,rfl,rfl,rfl,⟨rfl,rfl,rfl,trivial⟩⟩ (yM (vr 1)) ⟨fun C s H fp=>aw (i:=0) (show List.Nodup (["end", "side"]:List Str) by decide +kernel) rfl (Or.inl rfl),fun C s H fp=>eK (bh ej (aI (cP (K:=K) rfl) (vr 0) af (fun _ _=>rfl)) (vr 1) (aD _)),fun C s H fp=>(aI (cP (K:=K) rfl) (vr 0) af (fun _ _=>rfl))⟩) ae)))),?_⟩
    have sl:sizeLine = 16777216:=sizeLine_eq
    refine ⟨db,o,_,rfl,hdb,fun D hD=>?_⟩
    have nD:db≠D:=fun z=>by rw [← z,hdb] at hD; cases hD
    have kl:(keys b).length = b.length:=by unfold keys; rw [List.length_map]
    have dl:(dE (byL b)).length = b.length:=by rw [gq]; unfold byL; rw [List.length_map]
    refine kM (d:=db) (o:=o) (kvs:=dE (byL b)) (fun j ys H'=>j≤b.length∧Same H H'∧H' D = some (.lst ys)∧ys = (((((keys b).take j).filter fun e=>decide (e.1 = sn)).map fun e=>(e.2:Int))).map V.int) ⟨Nat.zero_le _,Same.new hD,ac,rfl⟩ (fun j ys H' h=>h.2.1 _ _ hdb) (fun j ys H' h=>h.2.2.1) ?_ ?_
    · rintro j kv p ys H' P' hkv hp ⟨hj,s1,hD1,rfl⟩ hP
      obtain ⟨e,he,ek⟩:∃ e,(keys b)[j]? = some e∧kv.1 = key e:=by
        unfold dE byL at hkv
        rw [List.getElem?_map,List.getElem?_map] at hkv
        cases hc:b[j]? with
        | none=>rw [hc] at hkv; cases hkv
        | some x=>rw [hc] at hkv; cases hkv; exact ⟨x.1,by unfold keys; rw [List.getElem?_map,hc]; rfl,rfl⟩
      rw [ek] at hp
      have hp':H' p = some (.tup (enV e)):=hp
      have jlt:j < b.length:=by have:=(List.getElem?_eq_some_iff.mp he).1; omega
      have tk:(keys b).take (j + 1) = (keys b).take j ++ [e]:=by rw [List.take_add_one,he]; rfl
      rw [tk,List.filter_append] at hP
      have fl:(((keys b).take j).filter fun e=>decide (e.1 = sn)).length≤j:=Nat.le_trans (List.length_filter_le ..) (by rw [List.length_take]; omega)
      refine ⟨⟨rfl,trivial⟩,?_⟩
      refine .inr (.inl ⟨p,_,_,_,rfl,rfl,SqT.of hp',ar 0 rfl rfl,ifC (fun c=>?_) fun c=>?_⟩)
      · have c':e.1 = sn:=by omega
        refine .inr (.inl ⟨p,_,_,_,rfl,rfl,SqT.of hp',ar 1 rfl rfl,hD1,by rw [List.length_map,List.length_map]; omega,hP _ _ ⟨jlt,s1.put hD,ac,?_⟩⟩)
        rw [List.filter_cons_of_pos (p:=fun e:En=>decide (e.1 = sn)) (decide_eq_true c'),List.map_append,List.map_append]
        rfl
      · have c':¬ e.1 = sn:=by omega
        refine hP _ _ ⟨jlt,s1,hD1,?_⟩
        rw [List.filter_cons_of_neg (p:=fun e:En=>decide (e.1 = sn)) (fun z=>c' (of_decide_eq_true z)),List.filter_nil,List.append_nil]
    rintro ys H1 ⟨_,s1,hD1,rfl⟩
    rw [dl,← kl,List.take_of_length_le (Nat.le_refl _)] at hD1
    have fl:((keys b).filter fun e=>decide (e.1 = sn)).length≤12:=Nat.le_trans (List.length_filter_le ..) (by omega)
    refine ⟨D,_,rfl,SqL.of hD1,by rw [List.length_map]; omega,fun L ns hperm hsort hL=>?_⟩
    have hL0:H L = none:=by
      cases hh:H L with
      | none=>rfl
      | some o=>rw [s1 _ _ hh] at hL; cases hL
    refine q L _ (s1.trans (Same.new hL)) hL0 ?_
    rw [ac,qa nd hR hperm hsort]
end
end My
namespace My
open PySem L2 FrM Led
theorem Same.free {H H':Hp} (s:Same H H') {l:Addr} (h:H' l = none):H l = none:=by
  cases hh:H l with
  | none=>rfl
  | some o=>rw [s _ _ hh] at h; cases h
def yx (ov:Bool):Str:=if ov then "over" else "under"
def IsT (H H':Hp) (t:Told) (x:V):Prop:=match t with
  | .ws w=>∃ p l,x = .ref p∧H' p = some (.tup [.str "weights",.ref l])∧H' l = some (.lst (w.map V.int))∧H l = none
  | .no ov so ot=>∃ p l1 l2,x = .ref p∧H' p = some (.tup [.str "none",.str (yx ov),.ref l1,.ref l2])∧H' l1 = some (.lst (so.map V.int))∧H' l2 = some (.lst (ot.map V.int))∧H l1 = none∧H l2 = none∧l1≠l2
def yz (a:Ad):Sp:=fun vs H Q _=>∃ (lr lc lu:Addr) (rows cols:List Int) (us:List Un) (xs:List V),vs = [.ref lr,.ref lc,.ref lu]∧In H lr lc lu rows cols us xs∧TabsOk (tabs a) H∧∀ x H',SameT H H'→TabsOk (tabs a) H'→IsT H H' (tm us rows cols rows.length cols.length) x→Q x H'
theorem In.okU {H:Hp} {lr lc lu:Addr} {rows cols:List Int} {us:List Un} {xs:List V} (h:In H lr lc lu rows cols us xs):OkU us rows.length cols.length:=fun p hp=>by
  have e:uAt us p = us[p]:=jo (List.getElem?_eq_getElem hp)
  rw [e]
  obtain ⟨h1,h2,_,h3,_⟩:=h.ok _ (List.getElem_mem hp)
  exact ⟨h1,h2,h3⟩
theorem qC {us:List Un} {ws:List Int} {P:List (En×Nat)} {s e:En} (hP:IsP us ws P s e) (nd:(P.map (·.1) ++ [e]).Nodup):P.length≤us.length:=by
  have h1:=jz us ws hP nd
  have h2:((P.map (·.2)).map fun i=>((0,i):En)).Nodup:=List.pairwise_map.mpr (List.Pairwise.imp (fun h z=>h (Prod.mk.inj z).2) h1)
  have:=dD (m:=cN us.length 0) h2 fun x hx=>by
    obtain ⟨i,hi,rfl⟩:=List.mem_map.mp hx
    obtain ⟨y,hy,rfl⟩:=List.mem_map.mp hi
    exact ends_mem.mpr (.inl ⟨rfl,(fA us ws hP y hy).2.1⟩)
  rw [dw,List.length_map,List.length_map] at this
  omega
theorem iL {α:Type} {l:List α} {i:Nat} {x:α} (h:l[i]? = some x):l.take (i + 1) = l.take i ++ [x]:=by rw [List.take_add_one,h]; rfl
section
variable {P:Program} {w:World} {K:PySem.W.Frag} {mg:Str→Option Value} {base:Heap} {a:Ad}
theorem xf (T:Txt K mg a) (hB:Bm mg base):FnOk P w K mg base CX0 6 a.f_led a.d_led ["rows", "columns", "units"] (yz a):=by
  have G_need_bounds:FnOk P w K mg base CX0 5 _ _ _ (fc a):=gZ T hB
  have G_spare_of:FnOk P w K mg base CX0 5 _ _ _ oZ:=(rN T).mono (by decide)
  have G_reached_from:FnOk P w K mg base CX0 5 _ _ _ oe:=(rM T).mono (by decide)
  have G_path_to:FnOk P w K mg base CX0 5 _ _ _ qp:=(uo T).mono (by decide)
  have G_given_along:FnOk P w K mg base CX0 5 _ _ _ o7:=(sR T).mono (by decide)
  have G_reached_on:FnOk P w K mg base CX0 5 _ _ _ yp:=(xW T).mono (by decide)
  refine T.F_led.ok sc_led (fun vs H Q E h=>?_) (fun cdv A outer s H vs Q E hr h=>?_)
  · obtain ⟨lr,lc,lu,rows,cols,us,xs,rfl,_⟩:=h; rfl
  · obtain ⟨lr,lc,lu,rows,cols,us,xs,rfl,hI,hT,q⟩:=h
    refine ⟨_,(am (cQ (au G_need_bounds hr rfl T.m_need_bounds T.F_need_bounds.kp T.B_need_bounds .nil aH (aa (vr 0) (aa (vr 1) (aa (vr 2) ae))))) (am (cX (bh xB (av (dj rfl) rfl T.z_sum gw (aa (vr 0) ae)) (av (dj rfl) rfl T.z_sum gw (aa (vr 1) ae)) (aD _)) (am (bg (i:=3) sc_led.nd rfl (Or.inl rfl) (fF (bh uS (av (dj rfl) rfl T.z_sum gw (aa (vr 0) ae)) (av (dj rfl) rfl T.z_sum gw (aa (vr 1) ae)) (aD _)) dI dI)) (ap (aG (bX (aa dI (aa (vr 3) (aa (df (gK rfl) rfl T.z_list dQ (aa (df kx rfl T.z_range mz (aa (av aU rfl T.z_len ci (aa (vr 0) ae)) ae)) ae)) (aa (df (gK rfl) rfl T.z_list dQ (aa (df kx rfl T.z_range mz (aa (av aU rfl T.z_len ci (aa (vr 1) ae)) ae)) ae)) ae)))))))) bC) (am (dA rfl (i:=4) sc_led.nd rfl rfl (by with_unfolding_all rfl) (N:=["row", "column", "low", "high"]) (ix:=[none,none,none,none]) ⟨rfl,rfl,rfl,rfl,trivial⟩ (cm (vr 2)) ⟨fun C s H fp=>(cV (K:=K) (n:=4) rfl rfl (az (aw (i:=0) (show List.Nodup (["row", "column", "low", "high"]:List Str) by decide +kernel) rfl (Or.inl rfl)) (az (aw (i:=1) (show List.Nodup (["row", "column", "low", "high"]:List Str) by decide +kernel) rfl (Or.inl rfl)) (az (aw (i:=2) (show List.Nodup (["row", "column", "low", "high"]:List Str) by decide +kernel) rfl (Or.inl rfl)) (az (aw (i:=3) (show List.Nodup (["row", "column", "low", "high"]:List Str) by decide +kernel) rfl (Or.inl rfl)) bP))))),fun C s H fp=>bY,fun C s H fp=>(vr 2)⟩) (am (hV PassesOwn.never (gj gW) (am (bg (i:=5) sc_led.nd rfl (Or.inr rfl) (au G_spare_of hr rfl T.m_spare_of T.F_spare_of.kp T.B_spare_of .nil aH (aa (vr 0) (aa (vr 1) (aa (vr 2) (aa (vr 4) ae)))))) (am (bg (i:=6) sc_led.nd rfl (Or.inl rfl) (au G_reached_from hr rfl T.m_reached_from T.F_reached_from.kp T.B_reached_from .nil aH (aa (cA rfl (N:=["end", "spare"]) (ix:=[none,some 5]) ⟨rfl,rfl,rfl,rfl,⟨rfl,rfl,rfl,trivial⟩⟩ (vz (vr 5)) ⟨fun C s H fp=>aw (i:=0) (show List.Nodup (["end", "spare"]:List Str) by decide +kernel) rfl (Or.inl rfl),fun C s H fp=>eK (bh uS (fO (fo hr) (vr 1) (vr 0) (fun _ _=>rfl)) af (aD _)),fun C s H fp=>(vr 0)⟩) (aa (vr 2) (aa (vr 4) ae))))) (am (dA rfl (i:=7) sc_led.nd rfl rfl (by with_unfolding_all rfl) (N:=["end", "spare"]) (ix:=[none,some 5]) ⟨rfl,rfl,rfl,rfl,⟨rfl,rfl,rfl,trivial⟩⟩ (vz (vr 6)) ⟨fun C s H fp=>aw (i:=0) (show List.Nodup (["end", "spare"]:List Str) by decide +kernel) rfl (Or.inl rfl),fun C s H fp=>eK (bh lh (fO (fo hr) (vr 1) (vr 0) (fun _ _=>rfl)) af (aD _)),fun C s H fp=>(vr 0)⟩) (am (cX (jh (jv (vr 7) (fun _=>rfl))) (ap sj) bC) (am (bg (i:=8) sc_led.nd rfl (Or.inl rfl) (au G_path_to hr rfl T.m_path_to T.F_path_to.kp T.B_path_to .nil aH (aa (aI aC (vr 7) af (fun _ _=>rfl)) (aa (vr 6) (aa (vr 2) ae))))) (ap (bg (i:=4) sc_led.nd rfl (Or.inl rfl) (au G_given_along hr rfl T.m_given_along T.F_given_along.kp T.B_given_along .nil aH (aa (vr 8) (aa (av (kj rfl) rfl T.z_min nq (aa (fO (fo hr) (vr 5) (aI aC (aI aC (vr 8) af (fun _ _=>rfl)) af (fun _ _=>rfl)) (fun _ _=>rfl)) (aa (gN gE (fO (fo hr) (vr 5) (aI aC (vr 7) af (fun _ _=>rfl)) (fun _ _=>rfl))) ae))) (aa (vr 2) (aa (vr 4) ae))))))))))))) (am (cX (o8 (vr 6) (fun _=>rfl)) (ap (aG (bX (aa dI (aa dI (aa (au G_reached_on hr rfl T.m_reached_on T.F_reached_on.kp T.B_reached_on .nil aH (aa af (aa (vr 6) ae))) (aa (au G_reached_on hr rfl T.m_reached_on T.F_reached_on.kp T.B_reached_on .nil aH (aa af (aa (vr 6) ae))) ae))))))) bC) (ap (aG (bX (aa dI (aa (vr 4) ae)))))))))),?_⟩
    have sl:sizeLine = 16777216:=sizeLine_eq
    have r6:=hI.rs.1
    have c6:=hI.cs.1
    have okU:=hI.okU
    have n24:=hI.n
    refine ⟨lr,lc,lu,rows,cols,us,xs,rfl,hI,hT,fun H1 t1 hT1=>?_⟩
    have hI1:=hI.t t1
    have xl:us.length = xs.length:=Paired.length hI.all
    refine ⟨lr,rows,rfl,SqL.of hI1.r,lc,cols,rfl,SqL.of hI1.c,?_⟩
    refine xO (fun c'=>?_) fun c'=>?_
    · have c:¬ rows.sum = cols.sum:=by simpa using c'
      refine ⟨lr,rows,rfl,SqL.of hI1.r,lc,cols,rfl,SqL.of hI1.c,?_⟩
      refine ifC (fun c2=>?_) fun c2=>?_
      · refine ⟨_,.inl (SqL.of hI1.r),_,rfl,fun p1 hp1=>?_⟩
        have s2:=Same.new (o:=.rng 0 ((rows.map V.int).length:Nat)) hp1
        refine ⟨p1,(rows.map V.int).length,rfl,by rw [List.length_map]; omega,ac,fun l1 hl1=>?_⟩
        have s3:=s2.trans (Same.new (o:=.lst ((List.range (rows.map V.int).length).map fun (i:Nat)=>V.int (i:Int))) hl1)
        refine ⟨_,.inl (SqL.of (s3 _ _ hI1.c)),_,rfl,fun p2 hp2=>?_⟩
        have s4:=s3.trans (Same.new (o:=.rng 0 ((cols.map V.int).length:Nat)) hp2)
        refine ⟨p2,(cols.map V.int).length,rfl,by rw [List.length_map]; omega,ac,fun l2 hl2=>?_⟩
        have s5:=s4.trans (Same.new (o:=.lst ((List.range (cols.map V.int).length).map fun (i:Nat)=>V.int (i:Int))) hl2)
        have a2:=(Same.new (o:=.rng 0 ((cols.map V.int).length:Nat)) hp2).trans (Same.new (o:=.lst ((List.range (cols.map V.int).length).map fun (i:Nat)=>V.int (i:Int))) hl2)
        refine ⟨by show 4≤sizeLine; omega,fun t ht=>?_⟩
        have s6:=Same.new (o:=.tup [.str "none",.str "over",.ref l1,.ref l2]) ht
        have e1:=s6 _ _ (a2 _ _ (ac (a:=l1) (o:=.lst ((List.range (rows.map V.int).length).map fun (i:Nat)=>V.int (i:Int)))))
        have e2:=s6 _ _ (ac (a:=l2) (o:=.lst ((List.range (cols.map V.int).length).map fun (i:Nat)=>V.int (i:Int))))
        have f1:=s2.free hl1
        have f2:=s4.free hl2
        have h0:=(Same.new (o:=.rng 0 ((cols.map V.int).length:Nat)) hp2) _ _ (ac (a:=l1) (o:=.lst ((List.range (rows.map V.int).length).map fun (i:Nat)=>V.int (i:Int))))
        have n12:l1≠l2:=fun z=>by rw [← z,h0] at hl2; cases hl2
        refine q _ _ (t1.trans (s5.trans s6).t) (hT1.same (s5.trans s6)) ?_
        unfold tm
        rw [if_neg c,decide_eq_true c2]
        refine ⟨t,l1,l2,rfl,ac,?_,?_,t1.free f1,t1.free f2,n12⟩
        · rw [e1,List.length_map]; unfold pV; rw [List.map_map]; rfl
        · rw [e2,List.length_map]; unfold pV; rw [List.map_map]; rfl
      · refine ⟨_,.inl (SqL.of hI1.r),_,rfl,fun p1 hp1=>?_⟩
        have s2:=Same.new (o:=.rng 0 ((rows.map V.int).length:Nat)) hp1
        refine ⟨p1,(rows.map V.int).length,rfl,by rw [List.length_map]; omega,ac,fun l1 hl1=>?_⟩
        have s3:=s2.trans (Same.new (o:=.lst ((List.range (rows.map V.int).length).map fun (i:Nat)=>V.int (i:Int))) hl1)
        refine ⟨_,.inl (SqL.of (s3 _ _ hI1.c)),_,rfl,fun p2 hp2=>?_⟩
        have s4:=s3.trans (Same.new (o:=.rng 0 ((cols.map V.int).length:Nat)) hp2)
        refine ⟨p2,(cols.map V.int).length,rfl,by rw [List.length_map]; omega,ac,fun l2 hl2=>?_⟩
        have s5:=s4.trans (Same.new (o:=.lst ((List.range (cols.map V.int).length).map fun (i:Nat)=>V.int (i:Int))) hl2)
        have a2:=(Same.new (o:=.rng 0 ((cols.map V.int).length:Nat)) hp2).trans (Same.new (o:=.lst ((List.range (cols.map V.int).length).map fun (i:Nat)=>V.int (i:Int))) hl2)
        refine ⟨by show 4≤sizeLine; omega,fun t ht=>?_⟩
        have s6:=Same.new (o:=.tup [.str "none",.str "under",.ref l1,.ref l2]) ht
        have e1:=s6 _ _ (a2 _ _ (ac (a:=l1) (o:=.lst ((List.range (rows.map V.int).length).map fun (i:Nat)=>V.int (i:Int)))))
        have e2:=s6 _ _ (ac (a:=l2) (o:=.lst ((List.range (cols.map V.int).length).map fun (i:Nat)=>V.int (i:Int))))
        have f1:=s2.free hl1
        have f2:=s4.free hl2
        have h0:=(Same.new (o:=.rng 0 ((cols.map V.int).length:Nat)) hp2) _ _ (ac (a:=l1) (o:=.lst ((List.range (rows.map V.int).length).map fun (i:Nat)=>V.int (i:Int))))
        have n12:l1≠l2:=fun z=>by rw [← z,h0] at hl2; cases hl2
        refine q _ _ (t1.trans (s5.trans s6).t) (hT1.same (s5.trans s6)) ?_
        unfold tm
        rw [if_neg c,decide_eq_false c2]
        refine ⟨t,l1,l2,rfl,ac,?_,?_,t1.free f1,t1.free f2,n12⟩
        · rw [e1,List.length_map]; unfold pV; rw [List.map_map]; rfl
        · rw [e2,List.length_map]; unfold pV; rw [List.map_map]; rfl
    · have cs:rows.sum = cols.sum:=by simpa using c'
      refine .inl ⟨⟨_,SqL.of hI1.u⟩,fun D hD=>?_⟩
      refine br (K:=K) (a:=lu) (xs:=xs) (fun j ys H'=>j≤xs.length∧Same H1 H'∧H' D = some (.lst ys)∧ys = (lows (us.take j)).map V.int) ⟨Nat.zero_le _,Same.new hD,ac,rfl⟩ (fun j ys H' h'=>SqL.of (h'.2.1 _ _ hI1.u)) (fun j ys H' h'=>h'.2.2.1) ?_ ?_
      · rintro j y ys H' P' hy ⟨hj,s1,hD1,rfl⟩ hP
        have hlt:j < xs.length:=(List.getElem?_eq_some_iff.mp hy).1
        obtain ⟨u,hu,hU⟩:=eF hI1.all hy
        obtain ⟨p,rfl,hp⟩:=hU.tu s1.tu
        refine ⟨p,_,rfl,SqT.of hp,rfl,_,_,rfl,_,_,rfl,_,_,rfl,_,_,rfl,rfl,trivial,hD1,by unfold lows; rw [List.length_map,List.length_map,List.length_take]; omega,hP _ _ ⟨hlt,s1.put hD,ac,?_⟩⟩
        rw [iL hu]
        unfold lows
        rw [List.map_append,List.map_append]
        rfl
      rintro ys H2 ⟨_,s2,hD2,rfl⟩
      rw [← xl,List.take_of_length_le (Nat.le_refl _)] at hD2
      have eled:tm us rows cols rows.length cols.length = jL us rows cols rows.length cols.length ((mS us (lows us) rows cols rows.length cols.length).toNat + 1) (lows us):=if_pos cs
      rw [eled] at q
      obtain ⟨told,etold⟩:∃ told,jL us rows cols rows.length cols.length ((mS us (lows us) rows cols rows.length cols.length).toNat + 1) (lows us) = told:=⟨_,rfl⟩
      rw [etold] at q
      refine ⟨fun m σ H'=>∃ (ws:List Int) (lw:Addr) (n:Nat) (x3 x5 x6 x7 x8:Option V),m = (mS us ws rows cols rows.length cols.length).toNat∧Wi us ws∧m < n∧jL us rows cols rows.length cols.length n ws = told∧Same H1 H'∧H' lw = some (.lst (ws.map V.int))∧H1 lw = none∧σ = [some (.ref lr),some (.ref lc),some (.ref lu),x3,some (.ref lw),x5,x6,x7,x8],⟨_,lows us,D,_,none,none,none,none,none,rfl,ud okU,Nat.lt_succ_self _,etold,s2,hD2,hD,rfl⟩,?_⟩
      rintro m σ H3 ⟨ws,lw,n,x3,x5,x6,x7,x8,rfl,hW,mn,el,s3,h3,f3,rfl⟩
      refine ⟨fun σ H'=>∃ m',m' < (mS us ws rows cols rows.length cols.length).toNat∧∃ (ws:List Int) (lw:Addr) (n:Nat) (x3 x5 x6 x7 x8:Option V),m' = (mS us ws rows cols rows.length cols.length).toNat∧Wi us ws∧m' < n∧jL us rows cols rows.length cols.length n ws = told∧Same H1 H'∧H' lw = some (.lst (ws.map V.int))∧H1 lw = none∧σ = [some (.ref lr),some (.ref lc),some (.ref lu),x3,some (.ref lw),x5,x6,x7,x8],fun σ' H' h=>h,?_⟩
      obtain ⟨n',rfl⟩:∃ n',n = n' + 1:=⟨n - 1,by omega⟩
      refine ⟨lr,lc,lu,lw,rows,cols,ws,us,xs,rfl,hI1.same s3,h3,hW.len,fun Ds H4 s4 f4 h4=>?_⟩
      refine ⟨Ds,_,rfl,.inl h4,fun o D1 hD1=>?_⟩
      have s5:Same H3 (upd H4 Ds (.frz o (.dT (dE (spE us rows cols ws rows.length cols.length))))):=s4.put f4
      have h5:(upd H4 Ds (.frz o (.dT (dE (spE us rows cols ws rows.length cols.length))))) Ds = _:=ac
      generalize upd H4 Ds (.frz o (.dT (dE (spE us rows cols ws rows.length cols.length)))) = H5 at s5 h5 hD1
      have el1:=dw rows.length cols.length
      have dl1:(dE (spE us rows cols ws rows.length cols.length)).length = (cN rows.length cols.length).length:=by rw [gq]; unfold spE; rw [List.length_map]
      refine kM (d:=Ds) (o:=o) (kvs:=dE (spE us rows cols ws rows.length cols.length)) (fun j ys H'=>j≤(cN rows.length cols.length).length∧Same H5 H'∧H' D1 = some (.lst ys)∧AllE H' (((cN rows.length cols.length).take j).filter fun e=>decide (0 < sp us rows cols ws e)) ys) ⟨Nat.zero_le _,Same.new hD1,ac,.nil⟩ (fun j ys H' h=>h.2.1 _ _ h5) (fun j ys H' h=>h.2.2.1) ?_ ?_
      · rintro j kv p ys H' P' hkv hp ⟨hj,s1,hy,hA⟩ hP
        obtain ⟨e,he,ek⟩:∃ e,(cN rows.length cols.length)[j]? = some e∧kv.1 = key e:=by
          unfold dE spE at hkv
          rw [List.getElem?_map,List.getElem?_map] at hkv
          cases hc:(cN rows.length cols.length)[j]? with
          | none=>rw [hc] at hkv; cases hkv
          | some x=>rw [hc] at hkv; cases hkv; exact ⟨x,rfl,rfl⟩
        rw [ek] at hp
        have hp':H' p = some (.tup (enV e)):=hp
        have jlt:=(List.getElem?_eq_some_iff.mp he).1
        have hm:=List.mem_of_getElem? he
        rw [iL he,List.filter_append] at hP
        have al:(((cN rows.length cols.length).take j).filter fun e=>decide (0 < sp us rows cols ws e)).length = ys.length:=Paired.length hA
        have fl:(((cN rows.length cols.length).take j).filter fun e=>decide (0 < sp us rows cols ws e)).length≤j:=Nat.le_trans (List.length_filter_le ..) (by rw [List.length_take]; omega)
        refine ⟨⟨rfl,trivial⟩,?_⟩
        refine ⟨Ds,_,rfl,.inr ⟨_,key e,p,.inr ⟨o,s1 _ _ h5⟩,rfl,hp',(kJ hm).symm⟩,ifC (fun c=>?_) fun c=>?_⟩
        · refine ⟨hy,by omega,hP _ _ ⟨jlt,s1.put hD1,ac,?_⟩⟩
          rw [List.filter_cons_of_pos (p:=fun e:En=>decide (0 < sp us rows cols ws e)) (decide_eq_true c)]
          have u:=eQ (o:=.lst (ys ++ [.ref p])) hy
          exact (AllE.tu u hA).snoc ⟨p,rfl,u _ _ hp'⟩
        · refine hP _ _ ⟨jlt,s1,hy,?_⟩
          rw [List.filter_cons_of_neg (p:=fun e:En=>decide (0 < sp us rows cols ws e)) (fun z=>c (of_decide_eq_true z)),List.filter_nil,List.append_nil]
          exact hA
      rintro ys H6 ⟨_,s6,hy6,hA6⟩
      rw [dl1,List.take_of_length_le (Nat.le_refl _)] at hA6
      have s36:=s5.trans s6
      have s16:=s3.trans s36
      have hI6:=hI1.same s16
      refine ⟨D1,lu,lw,p8 us rows cols rows.length cols.length ws,ys,ws,us,xs,rows.length,cols.length,rfl,⟨s36 _ _ h3,hI6.u,hI6.all,hW.len,n24⟩,hy6,hA6,vd ws,jH ws,okU,r6,c6,fun Db H7 s7 f7 B hb=>?_⟩
      have eb:iy us ws (rows.length + cols.length) (p8 us rows cols rows.length cols.length ws) = byF us rows cols rows.length cols.length ws:=rfl
      rw [eb] at B hb
      unfold jL at el
      generalize byF us rows cols rows.length cols.length ws = b at B hb el
      have b12:=B.len
      refine ⟨Db,_,rfl,.inl hb,fun o2 D2 hD2=>?_⟩
      have s8:Same H6 (upd H7 Db (.frz o2 (.dT (dE (byL b))))):=s7.put f7
      have h8:(upd H7 Db (.frz o2 (.dT (dE (byL b))))) Db = _:=ac
      generalize upd H7 Db (.frz o2 (.dT (dE (byL b)))) = H8 at s8 h8 hD2
      have s68:=s6.trans s8
      have d8:=s68 _ _ h5
      have kl:(keys b).length = b.length:=by unfold keys; rw [List.length_map]
      have dl2:(dE (byL b)).length = (keys b).length:=by rw [gq,kl]; unfold byL; rw [List.length_map]
      refine kM (d:=Db) (o:=o2) (kvs:=dE (byL b)) (fun j ys H'=>j≤(keys b).length∧Same H8 H'∧H' D2 = some (.lst ys)∧AllE H' (((keys b).take j).filter fun e=>decide (sp us rows cols ws e < 0)) ys) ⟨Nat.zero_le _,Same.new hD2,ac,.nil⟩ (fun j ys H' h=>h.2.1 _ _ h8) (fun j ys H' h=>h.2.2.1) ?_ ?_
      · rintro j kv p ys H' P' hkv hp ⟨hj,s1,hy,hA⟩ hP
        obtain ⟨e,he,ek⟩:∃ e,(keys b)[j]? = some e∧kv.1 = key e:=by
          unfold dE byL at hkv
          rw [List.getElem?_map,List.getElem?_map] at hkv
          cases hc:b[j]? with
          | none=>rw [hc] at hkv; cases hkv
          | some x=>rw [hc] at hkv; cases hkv; exact ⟨x.1,by unfold keys; rw [List.getElem?_map,hc]; rfl,rfl⟩
        rw [ek] at hp
        have hp':H' p = some (.tup (enV e)):=hp
        have jlt:=(List.getElem?_eq_some_iff.mp he).1
        have hm:=B.sub e (List.mem_of_getElem? he)
        rw [iL he,List.filter_append] at hP
        have al:(((keys b).take j).filter fun e=>decide (sp us rows cols ws e < 0)).length = ys.length:=Paired.length hA
        have fl:(((keys b).take j).filter fun e=>decide (sp us rows cols ws e < 0)).length≤j:=Nat.le_trans (List.length_filter_le ..) (by rw [List.length_take]; omega)
        refine ⟨⟨rfl,trivial⟩,?_⟩
        refine ⟨Ds,_,rfl,.inr ⟨_,key e,p,.inr ⟨o,s1 _ _ d8⟩,rfl,hp',(kJ hm).symm⟩,ifC (fun c=>?_) fun c=>?_⟩
        · refine ⟨hy,by omega,hP _ _ ⟨jlt,s1.put hD2,ac,?_⟩⟩
          rw [List.filter_cons_of_pos (p:=fun e:En=>decide (sp us rows cols ws e < 0)) (decide_eq_true c)]
          have u:=eQ (o:=.lst (ys ++ [.ref p])) hy
          exact (AllE.tu u hA).snoc ⟨p,rfl,u _ _ hp'⟩
        · refine hP _ _ ⟨jlt,s1,hy,?_⟩
          rw [List.filter_cons_of_neg (p:=fun e:En=>decide (sp us rows cols ws e < 0)) (fun z=>c (of_decide_eq_true z)),List.filter_nil,List.append_nil]
          exact hA
      rintro ys2 H9 ⟨_,s9,hy9,hA9⟩
      rw [dl2,List.take_of_length_le (Nat.le_refl _)] at hA9
      have es:((keys b).filter fun e=>decide (sp us rows cols ws e < 0)) = me us rows cols ws b:=rfl
      rw [es] at hA9
      have hsub:∀ e ∈ me us rows cols ws b,e ∈ me us rows cols ws b:=fun e h=>h
      have s89:=s8.trans s9
      have s39:=s36.trans s89
      have s19:=s3.trans s39
      have b9:=s9 _ _ h8
      have d9:=s9 _ _ d8
      have h9:=s39 _ _ h3
      have hI9:=hI1.same s19
      refine ⟨_,.inl ⟨_,SqL.of hy9,rfl⟩,?_⟩
      generalize hsh:me us rows cols ws b = sh at hA9 el
      cases hA9 with
      | nil =>
        simp only at el
        refine ⟨Db,_,rfl,.inr ⟨o2,b9⟩,?_⟩
        cases b with
        | nil =>
          refine ⟨by show 2≤sizeLine; omega,fun t ht=>?_⟩
          have s10:=s19.trans (Same.new (o:=.tup [.str "weights",.ref lw]) ht)
          refine q _ _ (t1.trans s10.t) (hT1.same s10) ?_
          rw [← el]
          exact ⟨t,lw,rfl,ac,(Same.new (o:=.tup [.str "weights",.ref lw]) ht) _ _ h9,t1.free f3⟩
        | cons x b' =>
          generalize hbb:x :: b' = b at *
          have eI:(!(dE (byL b)).isEmpty) = true:=by rw [← hbb]; rfl
          have eN:b.isEmpty = false:=by rw [← hbb]; rfl
          rw [eN] at el
          rw [eI]
          refine ⟨Db,o2,b,0,rows.length,rfl,b9,B.fr.tree.nd,fun e he h0=>?_,by omega,fun L1 H10 s10 f10 h10=>?_⟩
          · rcases ends_mem.mp (B.sub e he) with z | z
            · exact z.2
            · omega
          refine ⟨Db,o2,b,1,cols.length,rfl,s10 _ _ b9,B.fr.tree.nd,fun e he h0=>?_,by omega,fun L2 H11 s11 f11 h11=>?_⟩
          · rcases ends_mem.mp (B.sub e he) with z | z
            · omega
            · exact z.2
          refine ⟨by show 4≤sizeLine; omega,fun t ht=>?_⟩
          have s12:=Same.new (o:=.tup [.str "none",.str "over",.ref L1,.ref L2]) ht
          have s112:=s19.trans ((s10.trans s11).trans s12)
          refine q _ _ (t1.trans s112.t) (hT1.same s112) ?_
          rw [← el]
          exact ⟨t,L1,L2,rfl,ac,s12 _ _ (s11 _ _ h10),s12 _ _ h11,t1.free (Same.free s19 f10),t1.free (Same.free (s19.trans s10) f11),fun z=>by rw [z] at h10; rw [h10] at f11; cases f11⟩
      | @cons l x sh' ys' hE hR =>
        have hl:l ∈ me us rows cols ws b:=by rw [hsh]; exact List.mem_cons_self ..
        obtain ⟨sE,pE,Pt,hsS,ePath,hP,ndP,hneg⟩:=way (rows:=rows) (cols:=cols) B (fun e he=>of_decide_eq_true (List.mem_filter.mp he).2) hl
        obtain ⟨stepW,stepM⟩:=uz (rows:=rows) (cols:=cols) hW B hl
        obtain ⟨i,hi⟩:=List.getElem?_of_mem (List.mem_filter.mp hl).1
        have lE:=B.sub l (List.mem_filter.mp hl).1
        have sE':=jH ws sE hsS
        have hU9:Uw H9 lu lw us xs ws:=⟨h9,hI9.u,hI9.all,hW.len,n24⟩
        refine .inl ⟨D2,_,_,_,rfl,rfl,SqL.of hy9,ar 0 rfl rfl,?_⟩
        refine ⟨x,Db,lu,lw,o2,l,b,_,ws,us,xs,i,rfl,hE,b9,hU9,B.fr.tree,hi,by omega,fun L H10 ps s10 f10 h10 hP10=>?_⟩
        have est:gG us rows cols ws b l = cY (gg (jZ us rows cols ws ((sE,pE) :: Pt) l) (cg us ws ((sE,pE) :: Pt))) ((sE,pE) :: Pt) ws:=by unfold gG; rw [ePath]
        rw [ePath] at hP10
        obtain ⟨pl,rfl,hpl⟩:=hE
        have hl10:=s10 _ _ hpl
        have d10:=s10 _ _ d9
        have hps:=hP10
        cases hps with
        | @cons _ y _ ps' hY hPs =>
          obtain ⟨t,pe,rfl,ht,hpe⟩:=hY
          refine .inl ⟨L,_,_,_,rfl,rfl,SqL.of h10,ar 0 rfl rfl,?_⟩
          refine .inr (.inl ⟨t,_,_,_,rfl,rfl,SqT.of ht,ar 0 rfl rfl,?_⟩)
          refine ⟨Ds,_,rfl,.inr ⟨_,key sE,pe,.inr ⟨o,d10⟩,rfl,hpe,(kJ sE').symm⟩,?_⟩
          refine .inl ⟨D2,_,_,_,rfl,rfl,SqL.of (s10 _ _ hy9),ar 0 rfl rfl,?_⟩
          refine ⟨Ds,_,rfl,.inr ⟨_,key l,pl,.inr ⟨o,d10⟩,rfl,hl10,(kJ lE).symm⟩,?_⟩
          refine ⟨_,_,rfl,?_⟩
          refine ⟨L,lu,lw,_,(sE,pE) :: Pt,_,ws,us,xs,rfl,h10,hP10,hU9.same s10,fun x hx=>(fA us ws hP x hx).2.1,Nat.le_trans (qC hP ndP) n24,fun L2 H11 s11 f11 h11=>?_⟩
          have em:(if -sp us rows cols ws l < sp us rows cols ws sE then -sp us rows cols ws l else sp us rows cols ws sE) = jZ us rows cols ws ((sE,pE) :: Pt) l:=rfl
          rw [em,← est] at h11
          have m0:=yh us (gG us rows cols ws b l) rows cols rows.length cols.length
          refine ⟨_,(by omega:(mS us (gG us rows cols ws b l) rows cols rows.length cols.length).toNat < _),gG us rows cols ws b l,L2,n',_,_,_,_,_,rfl,stepW,by omega,el,s19.trans (s10.trans s11),h11,Same.free (s19.trans s10) f11,rfl⟩
end
end My
namespace My
namespace Th
open PySem L2 FrM
abbrev A3:=Int×Int×Int
def OkA (z:A3):Prop:=1≤z.1∧z.1≤1000000∧-1000000000≤z.2.1∧z.2.1≤z.2.2∧z.2.2≤1000000000
def IsA (H:Hp) (z:A3) (x:V):Prop:=∃ p,x = .ref p∧H p = some (.tup [.int z.1,.int z.2.1,.int z.2.2])
theorem IsA.same {H H':Hp} {z:A3} {x:V} (s:Same H H') (h:IsA H z x):IsA H' z x:=let ⟨p,e,q⟩:=h; ⟨p,e,s _ _ q⟩
abbrev AllA (H:Hp):List A3→List V→Prop:=PySem.Paired (IsA H)
theorem AllA.same {H H':Hp} (s:Same H H'):∀ {zs:List A3} {xs:List V},AllA H zs xs→AllA H' zs xs
  | _,_,.nil=>.nil
  | _,_,.cons r t=>.cons (r.same s) (AllA.same s t)
structure Ans (H:Hp) (l:Addr) (xs:List V) (zs:List A3):Prop where
  at_:H l = some (.lst xs)
  all:AllA H zs xs
  len:zs.length≤24
  ok:∀ z ∈ zs,OkA z
theorem Ans.same {H H':Hp} {l:Addr} {xs:List V} {zs:List A3} (s:Same H H') (h:Ans H l xs zs):Ans H' l xs zs:=⟨s _ _ h.at_,h.all.same s,h.len,h.ok⟩
theorem Ans.xl {H:Hp} {l:Addr} {xs:List V} {zs:List A3} (h:Ans H l xs zs):xs.length = zs.length:=(Paired.length h.all).symm
def low (z:A3):Int:=z.2.1
def hig (z:A3):Int:=z.2.2
def tot (zs:List A3) (f:A3→Int):Int:=(zs.map fun z=>z.1 * f z).sum
def FB (f:A3→Int):Prop:=∀ z,OkA z→z.2.1≤f z∧f z≤z.2.2
theorem xj:FB low:=fun z h=>⟨Int.le_refl _,h.2.2.2.1⟩
theorem wn:FB hig:=fun z h=>⟨h.2.2.2.1,Int.le_refl _⟩
def fc (f:Addr):Sp:=fun vs H Q _=>∃ (l:Addr) (xs:List V) (zs:List A3),vs = [.ref l,.ref f]∧Ans H l xs zs∧∀ H',Same H H'→Q .non H'
def fT:Sp:=fun vs H Q _=>∃ (l p:Addr) (xs:List V) (zs:List A3) (f:A3→Int),vs = [.ref l,.ref p]∧Ans H l xs zs∧H p = some (.lst ((zs.map f).map V.int))∧FB f∧∀ H',Same H H'→Q (.int (tot zs f)) H'
structure Told (H0 H:Hp) (t pl ph:Addr) (zs:List A3):Prop where
  at_:H t = some (.tup [.int (tot zs low),.int (tot zs hig),.ref pl,.ref ph])
  lo:H pl = some (.lst ((zs.map low).map V.int))
  hi:H ph = some (.lst ((zs.map hig).map V.int))
  ne:pl≠ph
  fl:H0 pl = none
  fh:H0 ph = none
def iC:Sp:=fun vs H Q _=>∃ (l:Addr) (xs:List V) (zs:List A3),vs = [.ref l]∧Ans H l xs zs∧∀ H' t pl ph,Same H H'→Told H H' t pl ph zs→Q (.ref t) H'
def tdA (z:A3):Td:=.tup [.int z.1,.int z.2.1,.int z.2.2]
theorem gF {H:Hp}:∀ {zs:List A3} {xs:List V},AllA H zs xs→(∀ z ∈ zs,OkA z)→Iss H (zs.map tdA) xs∧(zs.map tdA).all cz = true
  | _,_,.nil,_=>⟨aA,rfl⟩
  | z :: zs,_,.cons r t,h=>by
    obtain ⟨t1,t2⟩:=gF t fun v hv=>h v (List.mem_cons_of_mem _ hv)
    obtain ⟨o1,o2,o3,o4,o5⟩:=h z (List.mem_cons_self ..)
    obtain ⟨p,rfl,hp⟩:=r
    refine ⟨ag (is_tup.mpr ⟨p,_,rfl,hp,ag (by rw [Is]) (ag (by rw [Is]) (ag (by rw [Is]) aA))⟩) t1,?_⟩
    rw [List.map_cons,List.all_cons,t2,Bool.and_true,tdA,cz,eB]
    have w1:bE 1 1000000 (.int z.1) = true:=cS o1 o2
    have w2:bE (-1000000000) 1000000000 (.int z.2.1) = true:=cS o3 (by omega)
    rw [if_pos w1,if_pos w2]
    exact cS o4 o5
theorem kQ {H:Hp} {d:Td} {x:V} (h:Is H d x) (g:cz d = true):∃ z:A3,IsA H z x∧OkA z:=by
  unfold cz at g
  split at g
  · rename_i d1 d2 d3
    unfold eB at g
    split at g
    · rename_i c1
      split at g
      · rename_i c2
        obtain ⟨p,xs,rfl,hp,hi⟩:=is_tup.mp h
        obtain ⟨_,_,_,x1,x2,x3,e0,rfl,i1,i2,i3⟩:=qQ hi rfl
        cases e0
        obtain ⟨n1,rfl,a1,b1⟩:=bz c1
        obtain ⟨n2,rfl,a2,b2⟩:=bz c2
        obtain ⟨n3,rfl,a3,b3⟩:=bz g
        obtain rfl:=cZ i1
        obtain rfl:=cZ i2
        obtain rfl:=cZ i3
        exact ⟨(n1,n2,n3),⟨p,rfl,hp⟩,a1,b1,a2,a3,b3⟩
      · cases g
    · cases g
  · cases g
theorem fj {H:Hp}:∀ {ds:List Td} {xs:List V},Iss H ds xs→(∀ z ∈ ds,cz z = true)→∃ zs:List A3,AllA H zs xs∧zs.length = ds.length∧∀ z ∈ zs,OkA z
  | [],_,h,_=>by obtain rfl:=iss_n.mp h; exact ⟨[],.nil,rfl,fun _ z=>by cases z⟩
  | d :: ds,_,h,g=>by
    obtain ⟨y,ys,rfl,h1,t⟩:=iss_c.mp h
    obtain ⟨u,hu,ok⟩:=kQ h1 (g d (List.mem_cons_self ..))
    obtain ⟨us,hn,e,hk⟩:=fj t fun z hz=>g z (List.mem_cons_of_mem _ hz)
    refine ⟨u :: us,.cons hu hn,by rw [List.length_cons,List.length_cons,e],fun v hv=>?_⟩
    rcases List.mem_cons.mp hv with rfl | hv
    · exact ok
    · exact hk v hv
theorem ans_of {H:Hp} {d:Td} {x:V} (h:Is H d x) (g:aF 24 cz d = true):∃ l xs zs,x = .ref l∧Ans H l xs zs:=by
  obtain ⟨ds,rfl,m,p⟩:=dJ g
  obtain ⟨l,xs,rfl,e,i⟩:=is_lst.mp h
  obtain ⟨zs,hz,lz,ok⟩:=fj i p
  exact ⟨l,xs,zs,rfl,⟨e,hz,by omega,ok⟩⟩
section
variable {P:Program} {w:World} {K:PySem.W.Frag} {mg:Str→Option Value} {base:Heap} {a:Ad}
theorem gZ (T:Txt K mg a):FnOk P w K mg base CX0 6 a.f_need_answers a.d_need_answers ["answers", "is_one"] (fc a.f_is_answer):=by
  refine (rk (lP T)).imp fun vs H Q E h=>?_
  obtain ⟨l,xs,zs,rfl,ha,q⟩:=h
  obtain ⟨i,g⟩:=gF ha.all ha.ok
  have l24:=ha.len
  have g:aF 24 cz (.lst (zs.map tdA)) = true:=by rw [aF,g,List.length_map,decide_eq_true (by omega)]; rfl
  exact ⟨_,_,rfl,is_lst.mpr ⟨l,_,rfl,ha.at_,i⟩,fun _=>q,fun z=>by rw [g] at z; cases z⟩
theorem gO (T:Txt K mg a):FnOk P w K mg base CX0 1 a.f_total_by a.d_total_by ["answers", "filling"] fT:=by
  refine T.F_total_by.ok iP (fun vs H Q E h=>?_) (fun cdv A outer s H vs Q E hr h=>?_)
  · obtain ⟨l,p,xs,zs,f,rfl,_⟩:=h; rfl
  · obtain ⟨l,p,xs,zs,f,rfl,ha,hp,fb,q⟩:=h
    refine ⟨_,(ap (aG (av (dj rfl) rfl T.z_sum gw (aa (cA rfl (N:=["place", "told", "answers"]) (ix:=[none,none,some 0]) ⟨rfl,rfl,rfl,rfl,⟨rfl,rfl,rfl,trivial⟩⟩ (eM rfl T.z_enumerate (aa (vr 1) ae)) ⟨fun C s H fp=>(cV (K:=K) (n:=2) rfl rfl (az (aw (i:=0) (show List.Nodup (["place", "told", "answers"]:List Str) by decide +kernel) rfl (Or.inl rfl)) (az (aw (i:=1) (show List.Nodup (["place", "told", "answers"]:List Str) by decide +kernel) rfl (Or.inl rfl)) bP))),fun C s H fp=>eK (bh gQ (vr 1) dh (aD _)),fun C s H fp=>(aB eL (aI (cP (K:=K) rfl) (aI (cP (K:=K) rfl) (vr 2) (vr 0) (fun _ _=>rfl)) af (fun _ _=>rfl)) (vr 1))⟩) ae)))),?_⟩
    have sl:sizeLine = 16777216:=sizeLine_eq
    have xl:=ha.xl
    have l24:=ha.len
    refine ⟨p,_,rfl,hp,fun D hD=>?_⟩
    refine fH (a:=p) (xs:=(zs.map f).map V.int) (fun i ys H2=>i≤zs.length∧Same H H2∧H2 D = some (.lst ys)∧ys = ((zs.take i).map fun z=>z.1 * f z).map V.int) ⟨Nat.zero_le _,Same.new hD,ac,rfl⟩ (fun i ys H2 h=>h.2.1 _ _ hp) (fun i ys H2 h=>h.2.2.1) ?_ ?_
    · rintro i v ys H2 pt P' hx ⟨hi,s2,hD2,rfl⟩ hpt hP
      obtain ⟨z,hz,rfl⟩:∃ z,zs[i]? = some z∧v = .int (f z):=by
        rw [List.getElem?_map,List.getElem?_map] at hx
        cases hc:zs[i]? with
        | none=>rw [hc] at hx; cases hx
        | some z=>rw [hc] at hx; cases hx; exact ⟨z,rfl,rfl⟩
      have hlt:i < zs.length:=(List.getElem?_eq_some_iff.mp hz).1
      have okz:=ha.ok _ (List.mem_of_getElem? hz)
      obtain ⟨f1,f2⟩:=fb z okz
      obtain ⟨a1,a2,a3,a4,a5⟩:=okz
      have s3:=Same.new (o:=.tup [.int (i:Nat),.int (f z)]) hpt
      obtain ⟨x,hx'⟩:∃ x,xs[i]? = some x:=⟨_,List.getElem?_eq_getElem (by omega)⟩
      obtain ⟨z',hz',hA⟩:=eF ha.all hx'
      rw [hz] at hz'; cases hz'
      obtain ⟨pz,rfl,hpz⟩:=hA.same (s2.trans s3)
      refine ⟨pt,_,rfl,SqT.of ac,rfl,_,_,rfl,_,_,rfl,rfl,⟨rfl,trivial⟩,?_⟩
      refine .inl ⟨l,_,_,_,rfl,rfl,SqL.of ((s2.trans s3) _ _ ha.at_),cU hx',?_⟩
      refine .inr (.inl ⟨pz,_,_,_,rfl,rfl,SqT.of hpz,ar 0 rfl rfl,?_⟩)
      refine ⟨clB (by omega) (by omega),s3 _ _ hD2,?_,hP _ _ ⟨hlt,(s2.trans s3).put hD,ac,?_⟩⟩
      · rw [List.length_map,List.length_map,List.length_take]; omega
      · rw [bT hz,List.map_append]; rfl
    · rintro ys H2 ⟨_,s2,hD2,rfl⟩
      rw [List.length_map,List.length_map,List.take_of_length_le (Nat.le_refl _)] at hD2
      exact ⟨D,_,rfl,SqL.of hD2,q _ s2⟩
theorem ok_stretch (T:Txt K mg a):FnOk P w K mg base CX0 7 a.f_total_stretch a.d_total_stretch ["answers"] iC:=by
  have G_need_answers:FnOk P w K mg base CX0 6 _ _ _ (fc a.f_is_answer):=gZ T
  have G_total_by:FnOk P w K mg base CX0 6 _ _ _ fT:=(gO T).mono (by decide)
  refine T.F_total_stretch.ok sc_total_stretch (fun vs H Q E h=>?_) (fun cdv A outer s H vs Q E hr h=>?_)
  · obtain ⟨l,xs,zs,rfl,_⟩:=h; rfl
  · obtain ⟨l,xs,zs,rfl,ha,q⟩:=h
    refine ⟨_,(am (cQ (au G_need_answers hr rfl T.m_need_answers T.F_need_answers.kp T.B_need_answers .nil aH (aa (vr 0) (aa (cD (v:=.ref a.f_is_answer) rfl ⟨_,T.m_is_answer,rfl⟩) ae)))) (am (dA rfl (i:=1) sc_total_stretch.nd rfl rfl (by with_unfolding_all rfl) (N:=["weight", "low", "high"]) (ix:=[none,none,none]) ⟨rfl,rfl,rfl,rfl,trivial⟩ (cm (vr 0)) ⟨fun C s H fp=>(cV (K:=K) (n:=3) rfl rfl (az (aw (i:=0) (show List.Nodup (["weight", "low", "high"]:List Str) by decide +kernel) rfl (Or.inl rfl)) (az (aw (i:=1) (show List.Nodup (["weight", "low", "high"]:List Str) by decide +kernel) rfl (Or.inl rfl)) (az (aw (i:=2) (show List.Nodup (["weight", "low", "high"]:List Str) by decide +kernel) rfl (Or.inl rfl)) bP)))),fun C s H fp=>bY,fun C s H fp=>(vr 1)⟩) (am (dA rfl (i:=2) sc_total_stretch.nd rfl rfl (by with_unfolding_all rfl) (N:=["weight", "low", "high"]) (ix:=[none,none,none]) ⟨rfl,rfl,rfl,rfl,trivial⟩ (cm (vr 0)) ⟨fun C s H fp=>(cV (K:=K) (n:=3) rfl rfl (az (aw (i:=0) (show List.Nodup (["weight", "low", "high"]:List Str) by decide +kernel) rfl (Or.inl rfl)) (az (aw (i:=1) (show List.Nodup (["weight", "low", "high"]:List Str) by decide +kernel) rfl (Or.inl rfl)) (az (aw (i:=2) (show List.Nodup (["weight", "low", "high"]:List Str) by decide +kernel) rfl (Or.inl rfl)) bP)))),fun C s H fp=>bY,fun C s H fp=>(vr 2)⟩) (ap (aG (bX (aa (au G_total_by hr rfl T.m_total_by T.F_total_by.kp T.B_total_by .nil aH (aa (vr 0) (aa (vr 1) ae))) (aa (au G_total_by hr rfl T.m_total_by T.F_total_by.kp T.B_total_by .nil aH (aa (vr 0) (aa (vr 2) ae))) (aa (vr 1) (aa (vr 2) ae)))))))))),?_⟩
    have sl:sizeLine = 16777216:=sizeLine_eq
    have xl:=ha.xl
    have l24:=ha.len
    refine ⟨l,xs,zs,rfl,ha,fun H1 s1=>?_⟩
    have ha1:=ha.same s1
    refine .inl ⟨⟨_,SqL.of ha1.at_⟩,fun D hD=>?_⟩
    refine br (K:=K) (a:=l) (xs:=xs) (fun j ys H2=>j≤xs.length∧H2 = upd H1 D (.lst ys)∧ys = ((zs.take j).map low).map V.int) ⟨Nat.zero_le _,rfl,rfl⟩ (fun j ys H2 h'=>by rw [h'.2.1]; exact SqL.of (by rw [ao (ay ha1.at_ hD)]; exact ha1.at_)) (fun j ys H2 h'=>by rw [h'.2.1]; exact ac) ?_ ?_
    · rintro j x ys H2 P' hx ⟨hj,rfl,rfl⟩ hP
      obtain ⟨z,hz,hA⟩:=eF ha1.all hx
      have hlt:j < xs.length:=(List.getElem?_eq_some_iff.mp hx).1
      obtain ⟨pz,rfl,hpz⟩:=hA.same (Same.new (o:=.lst (((zs.take j).map low).map V.int)) hD)
      refine ⟨pz,_,rfl,SqT.of hpz,rfl,_,_,rfl,_,_,rfl,_,_,rfl,rfl,trivial,ac,?_,hP _ _ ⟨by omega,oY,?_⟩⟩
      · rw [List.length_map,List.length_map,List.length_take]; omega
      · rw [bT hz,List.map_append]; rfl
    rintro ys H2 ⟨_,rfl,rfl⟩
    rw [xl,List.take_of_length_le (Nat.le_refl _)]
    have s2:=Same.new (o:=.lst ((zs.map low).map V.int)) hD
    have hl2:=ac (H:=H1) (a:=D) (o:=.lst ((zs.map low).map V.int))
    have fD:H D = none:=s1.free hD
    generalize upd H1 D (.lst ((zs.map low).map V.int)) = H2 at s2 hl2
    have ha2:=ha1.same s2
    refine .inl ⟨⟨_,SqL.of ha2.at_⟩,fun D2 hD2=>?_⟩
    have ne:D≠D2:=ay hl2 hD2
    refine br (K:=K) (a:=l) (xs:=xs) (fun j ys H3=>j≤xs.length∧H3 = upd H2 D2 (.lst ys)∧ys = ((zs.take j).map hig).map V.int) ⟨Nat.zero_le _,rfl,rfl⟩ (fun j ys H2 h'=>by rw [h'.2.1]; exact SqL.of (by rw [ao (ay ha2.at_ hD2)]; exact ha2.at_)) (fun j ys H2 h'=>by rw [h'.2.1]; exact ac) ?_ ?_
    · rintro j x ys H3 P' hx ⟨hj,rfl,rfl⟩ hP
      obtain ⟨z,hz,hA⟩:=eF ha2.all hx
      have hlt:j < xs.length:=(List.getElem?_eq_some_iff.mp hx).1
      obtain ⟨pz,rfl,hpz⟩:=hA.same (Same.new (o:=.lst (((zs.take j).map hig).map V.int)) hD2)
      refine ⟨pz,_,rfl,SqT.of hpz,rfl,_,_,rfl,_,_,rfl,_,_,rfl,rfl,trivial,ac,?_,hP _ _ ⟨by omega,oY,?_⟩⟩
      · rw [List.length_map,List.length_map,List.length_take]; omega
      · rw [bT hz,List.map_append]; rfl
    rintro ys H3 ⟨_,rfl,rfl⟩
    rw [xl,List.take_of_length_le (Nat.le_refl _)]
    have s3:=Same.new (o:=.lst ((zs.map hig).map V.int)) hD2
    have hh3:=ac (H:=H2) (a:=D2) (o:=.lst ((zs.map hig).map V.int))
    generalize upd H2 D2 (.lst ((zs.map hig).map V.int)) = H3 at s3 hh3
    have fD2:H D2 = none:=(s1.trans s2).free hD2
    refine ⟨l,D,xs,zs,low,rfl,ha2.same s3,s3 _ _ hl2,xj,fun H4 s4=>?_⟩
    refine ⟨l,D2,xs,zs,hig,rfl,(ha2.same s3).same s4,s4 _ _ hh3,wn,fun H5 s5=>?_⟩
    refine ⟨(by decide:4≤sizeLine),fun t ht=>?_⟩
    have s6:=Same.new (o:=.tup [.int (tot zs low),.int (tot zs hig),.ref D,.ref D2]) ht
    have s36:=(s4.trans s5).trans s6
    exact q _ t D D2 (((s1.trans s2).trans s3).trans s36) ⟨ac,s36 _ _ (s3 _ _ hl2),s36 _ _ hh3,ne,fD,fD2⟩
end
end Th
end My
namespace My
namespace Wd
open PySem L2 FrM M80
def wS:Wd→Str
  | .yes => "yes"
  | .no => "no"
  | .opn => "open"
theorem wS_yes {w:Wd}:wS w = "yes" ↔ w = .yes:=by cases w <;> decide
theorem wS_no {w:Wd}:wS w = "no" ↔ w = .no:=by cases w <;> decide
theorem wS_opn {w:Wd}:wS w = "open" ↔ w = .opn:=by cases w <;> decide
def OkA (z:A4):Prop:=1≤z.1∧z.1≤1000000∧-1000000000≤z.2.1∧z.2.1≤z.2.2.1∧z.2.2.1≤1000000000
abbrev xR (z:A4):List V:=[.int z.1,.int z.2.1,.int z.2.2.1,.str (wS z.2.2.2)]
def IsA (H:Hp) (z:A4) (x:V):Prop:=∃ p,x = .ref p∧H p = some (.tup (xR z))
theorem IsA.tu {H H':Hp} {z:A4} {x:V} (s:fZ H H') (h:IsA H z x):IsA H' z x:=let ⟨p,e,q⟩:=h; ⟨p,e,s _ _ q⟩
theorem IsA.same {H H':Hp} {z:A4} {x:V} (s:Same H H') (h:IsA H z x):IsA H' z x:=let ⟨p,e,q⟩:=h; ⟨p,e,s _ _ q⟩
theorem IsA.t {H H':Hp} {z:A4} {x:V} (s:SameT H H') (h:IsA H z x):IsA H' z x:=let ⟨p,e,q⟩:=h; ⟨p,e,s.at q⟩
abbrev AllA (H:Hp):List A4→List V→Prop:=PySem.Paired (IsA H)
theorem AllA.tu {H H':Hp} (s:fZ H H'):∀ {zs:List A4} {xs:List V},AllA H zs xs→AllA H' zs xs
  | _,_,.nil=>.nil
  | _,_,.cons r t=>.cons (r.tu s) (AllA.tu s t)
theorem AllA.same {H H':Hp} (s:Same H H') {zs:List A4} {xs:List V} (h:AllA H zs xs):AllA H' zs xs:=h.tu s.tu
theorem AllA.t {H H':Hp} (s:SameT H H') {zs:List A4} {xs:List V} (h:AllA H zs xs):AllA H' zs xs:=h.tu fun b xs e=>s.at e
theorem AllA.snoc {H:Hp} {z:A4} {x:V} (r:IsA H z x):∀ {zs:List A4} {xs:List V},AllA H zs xs→AllA H (zs ++ [z]) (xs ++ [x])
  | _,_,.nil=>.cons r .nil
  | _,_,.cons q t=>.cons q (AllA.snoc r t)
structure Ans (H:Hp) (l:Addr) (xs:List V) (zs:List A4):Prop where
  at_:H l = some (.lst xs)
  all:AllA H zs xs
  len:zs.length≤24
  ok:∀ z ∈ zs,OkA z
theorem Ans.same {H H':Hp} {l:Addr} {xs:List V} {zs:List A4} (s:Same H H') (h:Ans H l xs zs):Ans H' l xs zs:=⟨s _ _ h.at_,h.all.same s,h.len,h.ok⟩
theorem Ans.t {H H':Hp} {l:Addr} {xs:List V} {zs:List A4} (s:SameT H H') (h:Ans H l xs zs):Ans H' l xs zs:=⟨s.at h.at_,h.all.t s,h.len,h.ok⟩
theorem Ans.xl {H:Hp} {l:Addr} {xs:List V} {zs:List A4} (h:Ans H l xs zs):xs.length = zs.length:=(Paired.length h.all).symm
theorem eQ {H:Hp} {D:Addr} {ys:List V} {o:HO} (h:H D = some (.lst ys)):fZ H (upd H D o):=fun b xs e=>by rw [ao (fun z=>by rw [z,h] at e; cases e)]; exact e
def oV:Option Int→V
  | none=>.non
  | some v=>.int v
def fc (f:Addr):Sp:=fun vs H Q _=>∃ (l:Addr) (xs:List V) (zs:List A4),vs = [.ref l,.ref f]∧Ans H l xs zs∧∀ H',Same H H'→Q .non H'
def vB:Sp:=fun vs H Q _=>∃ (x y:Int),vs = [.int x,.int y]∧0≤x∧0≤y∧Q (.int (Int.gcd x y)) H
def xZ (H:Hp) (Q:VK) (T B:Int):Prop:=∀ H' p,Same H H'→H' p = some (.tup [.int (nG T B).1,.int (nG T B).2])→Q (.ref p) H'
def vw:Sp:=fun vs H Q _=>∃ (T B:Int),vs = [.int T,.int B]∧0 < B∧Bt 3000 T∧Bt 3000 B∧xZ H Q T B
def xC:Sp:=fun _ _ _ _=>False
theorem uI (T B:Int):Int.gcd (if T < 0 then -T else T) B = Int.gcd T B:=by
  split
  · exact Int.neg_gcd
  · rfl
theorem vU (x y:V):[x,y].length≤sizeLine:=by show 2≤sizeLine; decide
def tdA (z:A4):Td:=.tup [.int z.1,.int z.2.1,.int z.2.2.1,.str (wS z.2.2.2)]
theorem uR (w:Wd):jy (.str (wS w)) = true:=by cases w <;> decide
theorem tL {d:Td} (h:jy d = true):∃ w:Wd,d = .str (wS w):=by
  cases d with
  | str s =>
    have h:inV (.str s) [.str "yes",.str "no",.str "open"] = true:=h
    by_cases e1:s = "yes"
    · exact ⟨.yes,by rw [e1]; rfl⟩
    · by_cases e2:s = "no"
      · exact ⟨.no,by rw [e2]; rfl⟩
      · by_cases e3:s = "open"
        · exact ⟨.opn,by rw [e3]; rfl⟩
        · exfalso
          simp only [inV,List.any_cons,List.any_nil,Bool.or_false,Bool.or_eq_true] at h
          rcases h with h | h | h
          · exact e1 (beq_iff_eq.mp h).symm
          · exact e2 (beq_iff_eq.mp h).symm
          · exact e3 (beq_iff_eq.mp h).symm
  | _=>cases h
theorem gF {H:Hp}:∀ {zs:List A4} {xs:List V},AllA H zs xs→(∀ z ∈ zs,OkA z)→Iss H (zs.map tdA) xs∧(zs.map tdA).all bu = true
  | _,_,.nil,_=>⟨aA,rfl⟩
  | z :: zs,_,.cons r t,h=>by
    obtain ⟨t1,t2⟩:=gF t fun v hv=>h v (List.mem_cons_of_mem _ hv)
    obtain ⟨o1,o2,o3,o4,o5⟩:=h z (List.mem_cons_self ..)
    obtain ⟨p,rfl,hp⟩:=r
    refine ⟨ag (is_tup.mpr ⟨p,_,rfl,hp,ag (by rw [Is]) (ag (by rw [Is]) (ag (by rw [Is]) (ag (by rw [Is]) aA)))⟩) t1,?_⟩
    rw [List.map_cons,List.all_cons,t2,Bool.and_true,tdA,bu,eB,uR]
    have w1:bE 1 1000000 (.int z.1) = true:=cS o1 o2
    have w2:bE (-1000000000) 1000000000 (.int z.2.1) = true:=cS o3 (by omega)
    have w3:bE (tM (.int z.2.1)) 1000000000 (.int z.2.2.1) = true:=cS o4 o5
    rw [if_pos w1,if_pos w2,w3]
    rfl
theorem kQ {H:Hp} {d:Td} {x:V} (h:Is H d x) (g:bu d = true):∃ z:A4,IsA H z x∧OkA z:=by
  unfold bu at g
  split at g
  · rename_i d1 d2 d3 d4
    split at g
    · rename_i g1
      unfold eB at g1
      split at g1
      · rename_i c1
        split at g1
        · rename_i c2
          obtain ⟨p,xs,rfl,hp,hi⟩:=is_tup.mp h
          obtain ⟨_,_,_,_,x1,x2,x3,x4,e0,rfl,i1,i2,i3,i4⟩:=sX hi rfl
          cases e0
          obtain ⟨n1,rfl,a1,b1⟩:=bz c1
          obtain ⟨n2,rfl,a2,b2⟩:=bz c2
          obtain ⟨n3,rfl,a3,b3⟩:=bz g1
          obtain ⟨w,rfl⟩:=tL g
          obtain rfl:=cZ i1
          obtain rfl:=cZ i2
          obtain rfl:=cZ i3
          rw [Is] at i4
          subst i4
          exact ⟨(n1,n2,n3,w),⟨p,rfl,hp⟩,a1,b1,a2,a3,b3⟩
        · cases g1
      · cases g1
    · cases g
  · cases g
theorem fj {H:Hp}:∀ {ds:List Td} {xs:List V},Iss H ds xs→(∀ z ∈ ds,bu z = true)→∃ zs:List A4,AllA H zs xs∧zs.length = ds.length∧∀ z ∈ zs,OkA z
  | [],_,h,_=>by obtain rfl:=iss_n.mp h; exact ⟨[],.nil,rfl,fun _ z=>by cases z⟩
  | d :: ds,_,h,g=>by
    obtain ⟨y,ys,rfl,h1,t⟩:=iss_c.mp h
    obtain ⟨u,hu,ok⟩:=kQ h1 (g d (List.mem_cons_self ..))
    obtain ⟨us,hn,e,hk⟩:=fj t fun z hz=>g z (List.mem_cons_of_mem _ hz)
    refine ⟨u :: us,.cons hu hn,by rw [List.length_cons,List.length_cons,e],fun v hv=>?_⟩
    rcases List.mem_cons.mp hv with rfl | hv
    · exact ok
    · exact hk v hv
theorem ans_of {H:Hp} {d:Td} {x:V} (h:Is H d x) (g:aF 24 bu d = true):∃ l xs zs,x = .ref l∧Ans H l xs zs:=by
  obtain ⟨ds,rfl,m,p⟩:=dJ g
  obtain ⟨l,xs,rfl,e,i⟩:=is_lst.mp h
  obtain ⟨zs,hz,lz,ok⟩:=fj i p
  exact ⟨l,xs,zs,rfl,⟨e,hz,by omega,ok⟩⟩
section
variable {P:Program} {w:World} {K:PySem.W.Frag} {mg:Str→Option Value} {base:Heap} {a:Ad}
theorem xF {k:Nat} {f:Addr} {fd:FuncData} {ps:List Str}:FnOk P w K mg base CX0 k f fd ps xC:=⟨fun _ _ _ _ h=>h.elim,fun _ _ _ _ _ _ _ _ _ _ _ _ _ h=>h.elim⟩
theorem wQ (T:Txt K mg a):FnOk P w K mg base CX0 1 a.f_greatest_divisor a.d_greatest_divisor ["one", "other"] vB:=by
  refine T.F_greatest_divisor.ok sc_greatest_divisor (fun vs H Q E h=>?_) (fun cdv A outer s H vs Q E hr h=>?_)
  · obtain ⟨x,y,rfl,_⟩:=h; rfl
  · obtain ⟨x0,y0,rfl,h0,h1,q⟩:=h
    refine ⟨_,(am (hV PassesOwn.never (jv (vr 1) (fun _=>rfl)) (ap (vZ rfl sc_greatest_divisor.nd (i:=0) (j:=1) rfl rfl (by decide) rfl rfl (aa (vr 1) (aa (aB cK (vr 0) (vr 1)) ae)) rfl))) (ap (aG (vr 0)))),?_⟩
    refine ⟨fun m σ H'=>H' = H∧∃ x y:Int,0≤x∧0≤y∧m = y.toNat∧Int.gcd x y = Int.gcd x0 y0∧σ = [some (.int x),some (.int y)],⟨_,rfl,x0,y0,h0,h1,rfl,rfl,rfl⟩,?_⟩
    rintro m σ H' ⟨rfl,x,y,hx,hy,rfl,hg,rfl⟩
    refine ⟨_,rfl,?_⟩
    refine ifB (fun c=>?_) (fun c=>?_)
    · have c':y≠0:=by simpa using c
      refine ⟨fun σ' H''=>H'' = H'∧σ' = [some (.int y),some (.int (x % y))],?_,?_⟩
      · rintro σ' H'' ⟨rfl,rfl⟩
        exact ⟨(x % y).toNat,by have:=Int.emod_lt_of_pos x (show 0 < y by omega); have:=Int.emod_nonneg x c'; omega,rfl,y,x % y,hy,Int.emod_nonneg x c',rfl,by rw [qk,hg],rfl⟩
      · exact ⟨cp (by omega),_,_,rfl,rfl,rfl⟩
    · have c':y = 0:=by simpa using c
      subst c'
      rw [Int.gcd_zero_right] at hg
      have:x = (Int.gcd x0 y0:Int):=by omega
      rw [← this] at q
      exact q
theorem sF (T:Txt K mg a):FnOk P w K mg base CX0 2 a.f_share a.d_share ["top", "bottom"] vw:=by
  have G_share:FnOk P w K mg base CX0 1 a.f_share a.d_share ["top", "bottom"] xC:=xF
  have G_greatest_divisor:FnOk P w K mg base CX0 1 _ _ _ vB:=wQ T
  refine T.F_share.ok sc_share (fun vs H Q E h=>?_) (fun cdv A outer s H vs Q E hr h=>?_)
  · obtain ⟨x,y,rfl,_⟩:=h; rfl
  · obtain ⟨t,b,rfl,hb,b1,b2,q⟩:=h
    refine ⟨_,(am (cX (bh lh (vr 1) af (aD _)) (ap (aG (au G_share hr rfl T.m_share T.F_share.kp T.B_share .nil aH (aa (gN gE (vr 0)) (aa (gN gE (vr 1)) ae))))) bC) (am (bg (i:=2) sc_share.nd rfl (Or.inl rfl) (au G_greatest_divisor hr rfl T.m_greatest_divisor T.F_greatest_divisor.kp T.B_greatest_divisor .nil aH (aa (av rz rfl T.z_abs wr (aa (vr 0) ae)) (aa (vr 1) ae)))) (ap (aG (bX (aa (aB bQ (vr 0) (vr 2)) (aa (aB bQ (vr 1) (vr 2)) ae))))))),?_⟩
    obtain ⟨l1,l2,l3,l4,l5⟩:=low t b hb
    refine ifC (fun c=>absurd c (by omega)) (fun _=>?_)
    refine ⟨t,rfl,⟨_,_,rfl,by split <;> omega,by omega,?_⟩⟩
    rw [uI]
    have hd:Bt 3000 (Int.gcd t b:Int):=b2.le (by omega)
    refine ⟨cdB l1 hd,cdB l1 hd,vU _ _,fun p hp=>?_⟩
    exact q _ p (Same.new hp) ac
theorem gZ (T:Txt K mg a):FnOk P w K mg base CX0 6 a.f_need_answers a.d_need_answers ["answers", "is_one"] (fc a.f_is_worded_answer):=by
  refine (rk (mH T)).imp fun vs H Q E h=>?_
  obtain ⟨l,xs,zs,rfl,ha,q⟩:=h
  obtain ⟨i,g⟩:=gF ha.all ha.ok
  have l24:=ha.len
  have g:aF 24 bu (.lst (zs.map tdA)) = true:=by rw [aF,g,List.length_map,decide_eq_true (by omega)]; rfl
  exact ⟨_,_,rfl,is_lst.mpr ⟨l,_,rfl,ha.at_,i⟩,fun _=>q,fun z=>by rw [g] at z; cases z⟩
end
end Wd
end My
namespace My
namespace Wd
open PySem L2 FrM M80
def FB (f:List (Option Int)):Prop:=∀ v,some v ∈ f→-1000000000≤v∧v≤1000000000
structure Fl (H:Hp) (p:Addr) (zs:List A4) (f:List (Option Int)):Prop where
  at_:H p = some (.lst (f.map oV))
  len:f.length = zs.length
  fb:FB f
theorem Fl.same {H H':Hp} {p:Addr} {zs:List A4} {f:List (Option Int)} (s:Same H H') (h:Fl H p zs f):Fl H' p zs f:=⟨s _ _ h.at_,h.len,h.fb⟩
theorem rl:∀ (zs:List A4) (f:List (Option Int)),(∀ z ∈ zs,OkA z)→FB f→(tF (zs.zip f)).natAbs≤zs.length * 1000000000000000∧0≤wF (zs.zip f)∧wF (zs.zip f)≤(zs.length:Int) * 1000000
  | [],f,_,_=>by simp [tF,tT,wF,wT]
  | _ :: _,[],_,_=>by simp [tF,tT,wF,wT]; omega
  | z :: zs,o :: f,h,fb=>by
    obtain ⟨h1,h2,h3⟩:=rl zs f (fun z hz=>h z (List.mem_cons_of_mem _ hz)) (fun v hv=>fb v (List.mem_cons_of_mem _ hv))
    obtain ⟨a1,a2,_⟩:=h z (List.mem_cons_self ..)
    rw [List.zip_cons_cons,gA,fW,List.length_cons]
    cases o with
    | none=>simp only; omega
    | some v =>
      obtain ⟨b1,b2⟩:=fb v (List.mem_cons_self ..)
      have hv:v.natAbs≤1000000000:=by omega
      have hz:z.1.natAbs≤1000000:=by omega
      have hm:(z.1 * v).natAbs≤1000000 * 1000000000:=by rw [Int.natAbs_mul]; exact Nat.mul_le_mul hz hv
      simp only
      omega
def fT:Sp:=fun vs H Q _=>∃ (l p:Addr) (xs:List V) (zs:List A4) (f:List (Option Int)),vs = [.ref l,.ref p]∧Ans H l xs zs∧Fl H p zs f∧∀ H',Same H H'→Q (.int (tF (zs.zip f))) H'
def jI:Sp:=fun vs H Q _=>∃ (l p:Addr) (xs:List V) (zs:List A4) (f:List (Option Int)),vs = [.ref l,.ref p]∧Ans H l xs zs∧Fl H p zs f∧∀ H',Same H H'→Q (.int (wF (zs.zip f))) H'
def rK:Sp:=fun vs H Q _=>∃ (l p:Addr) (xs:List V) (zs:List A4) (f:List (Option Int)),vs = [.ref l,.ref p]∧Ans H l xs zs∧Fl H p zs f∧0 < wF (zs.zip f)∧xZ H Q (tF (zs.zip f)) (wF (zs.zip f))
def rm:Sp:=fun vs H Q _=>∃ (p:Addr) (f:List (Option Int)),vs = [.ref p]∧H p = some (.lst (f.map oV))∧f.length≤24∧∀ H',Same H H'→Q (.bl (f.all (·.isNone))) H'
theorem kP {zs:List A4} {f:List (Option Int)} {i:Nat} {z:A4} {o:Option Int} (h1:zs[i]? = some z) (h2:f[i]? = some o):(zs.zip f)[i]? = some (z,o):=List.getElem?_zip_eq_some.mpr ⟨h1,h2⟩
theorem uU {zs:List A4} {f:List (Option Int)} {i:Nat} {z:A4} {v:Int} (h1:zs[i]? = some z) (h2:f[i]? = some (some v)):tT ((zs.zip f).take (i + 1)) = tT ((zs.zip f).take i) ++ [z.1 * v]:=by
  rw [List.take_add_one,kP h1 h2]; unfold tT; rw [List.filterMap_append]; rfl
theorem vj {zs:List A4} {f:List (Option Int)} {i:Nat} {z:A4} (h1:zs[i]? = some z) (h2:f[i]? = some none):tT ((zs.zip f).take (i + 1)) = tT ((zs.zip f).take i):=by
  rw [List.take_add_one,kP h1 h2]; unfold tT; rw [List.filterMap_append]; simp
theorem tK {zs:List A4} {f:List (Option Int)} {i:Nat} {z:A4} {v:Int} (h1:zs[i]? = some z) (h2:f[i]? = some (some v)):wT ((zs.zip f).take (i + 1)) = wT ((zs.zip f).take i) ++ [z.1]:=by
  rw [List.take_add_one,kP h1 h2]; unfold wT; rw [List.filterMap_append]; rfl
theorem um {zs:List A4} {f:List (Option Int)} {i:Nat} {z:A4} (h1:zs[i]? = some z) (h2:f[i]? = some none):wT ((zs.zip f).take (i + 1)) = wT ((zs.zip f).take i):=by
  rw [List.take_add_one,kP h1 h2]; unfold wT; rw [List.filterMap_append]; simp
theorem yb (ps:PP):(tT ps).length≤ps.length:=List.length_filterMap_le ..
theorem xP (ps:PP):(wT ps).length≤ps.length:=List.length_filterMap_le ..
theorem qR {i:Int} (h:i.natAbs≤24000000000000000):Bt 3000 i:=by
  unfold Bt
  have h1:(2:Nat) ^ 60≤2 ^ 3000:=Nat.pow_le_pow_right (by decide) (by decide)
  have h2:(24000000000000000:Nat) < 2 ^ 60:=by decide +kernel
  omega
section
variable {P:Program} {w:World} {K:PySem.W.Frag} {mg:Str→Option Value} {base:Heap} {a:Ad}
theorem gO (T:Txt K mg a):FnOk P w K mg base CX0 1 a.f_total_by a.d_total_by ["answers", "filling"] fT:=by
  refine T.F_total_by.ok iP (fun vs H Q E h=>?_) (fun cdv A outer s H vs Q E hr h=>?_)
  · obtain ⟨l,p,xs,zs,f,rfl,_⟩:=h; rfl
  · obtain ⟨l,p,xs,zs,f,rfl,ha,hf,q⟩:=h
    refine ⟨_,(ap (aG (av (dj rfl) rfl T.z_sum gw (aa (cA rfl (N:=["place", "told", "answers"]) (ix:=[none,none,some 0]) ⟨rfl,rfl,rfl,rfl,⟨rfl,rfl,rfl,trivial⟩⟩ (eM rfl T.z_enumerate (aa (vr 1) ae)) ⟨fun C s H fp=>(cV (K:=K) (n:=2) rfl rfl (az (aw (i:=0) (show List.Nodup (["place", "told", "answers"]:List Str) by decide +kernel) rfl (Or.inl rfl)) (az (aw (i:=1) (show List.Nodup (["place", "told", "answers"]:List Str) by decide +kernel) rfl (Or.inl rfl)) bP))),fun C s H fp=>eK (bh gQ (vr 1) dh (aD _)),fun C s H fp=>(aB eL (aI (cP (K:=K) rfl) (aI (cP (K:=K) rfl) (vr 2) (vr 0) (fun _ _=>rfl)) af (fun _ _=>rfl)) (vr 1))⟩) ae)))),?_⟩
    have sl:sizeLine = 16777216:=sizeLine_eq
    have xl:=ha.xl
    have l24:=ha.len
    have hp:=hf.at_
    have fl:=hf.len
    refine ⟨p,_,rfl,hp,fun D hD=>?_⟩
    refine fH (a:=p) (xs:=f.map oV) (fun i ys H2=>i≤zs.length∧Same H H2∧H2 D = some (.lst ys)∧ys = (tT ((zs.zip f).take i)).map V.int) ⟨Nat.zero_le _,Same.new hD,ac,rfl⟩ (fun i ys H2 h=>h.2.1 _ _ hp) (fun i ys H2 h=>h.2.2.1) ?_ ?_
    · rintro i v ys H2 pt P' hx ⟨hi,s2,hD2,rfl⟩ hpt hP
      obtain ⟨o,ho,rfl⟩:∃ o,f[i]? = some o∧v = oV o:=by
        rw [List.getElem?_map] at hx
        cases hc:f[i]? with
        | none=>rw [hc] at hx; cases hx
        | some z=>rw [hc] at hx; cases hx; exact ⟨z,rfl,rfl⟩
      have hlt:i < zs.length:=by have:=(List.getElem?_eq_some_iff.mp ho).1; omega
      obtain ⟨x,hx'⟩:∃ x,xs[i]? = some x:=⟨_,List.getElem?_eq_getElem (by omega)⟩
      obtain ⟨z,hz,hA⟩:=eF ha.all hx'
      obtain ⟨a1,a2,a3,a4,a5⟩:=ha.ok _ (List.mem_of_getElem? hz)
      have s3:=Same.new (o:=.tup [.int (i:Nat),oV o]) hpt
      obtain ⟨pz,rfl,hpz⟩:=hA.same (s2.trans s3)
      cases o with
      | none =>
        refine ⟨pt,_,rfl,SqT.of ac,rfl,_,_,rfl,_,_,rfl,rfl,⟨rfl,trivial⟩,hP _ _ ⟨hlt,s2.trans s3,s3 _ _ hD2,?_⟩⟩
        rw [vj hz ho]
      | some v =>
        obtain ⟨f1,f2⟩:=hf.fb v (List.mem_of_getElem? ho)
        refine ⟨pt,_,rfl,SqT.of ac,rfl,_,_,rfl,_,_,rfl,rfl,⟨rfl,trivial⟩,?_⟩
        refine .inl ⟨l,_,_,_,rfl,rfl,SqL.of ((s2.trans s3) _ _ ha.at_),cU hx',?_⟩
        refine .inr (.inl ⟨pz,_,_,_,rfl,rfl,SqT.of hpz,ar 0 rfl rfl,?_⟩)
        refine ⟨clB (by omega) (by omega),s3 _ _ hD2,?_,hP _ _ ⟨hlt,(s2.trans s3).put hD,ac,?_⟩⟩
        · rw [List.length_map]
          have:=yb ((zs.zip f).take i)
          rw [List.length_take] at this
          omega
        · rw [uU hz ho,List.map_append]; rfl
    · rintro ys H2 ⟨_,s2,hD2,rfl⟩
      have e:(zs.zip f).take (f.map oV).length = zs.zip f:=List.take_of_length_le (by rw [List.length_zip,List.length_map]; omega)
      rw [e] at hD2
      exact ⟨D,_,rfl,SqL.of hD2,q _ s2⟩
theorem kq (T:Txt K mg a):FnOk P w K mg base CX0 1 a.f_weight_by a.d_weight_by ["answers", "filling"] jI:=by
  refine T.F_weight_by.ok kZ (fun vs H Q E h=>?_) (fun cdv A outer s H vs Q E hr h=>?_)
  · obtain ⟨l,p,xs,zs,f,rfl,_⟩:=h; rfl
  · obtain ⟨l,p,xs,zs,f,rfl,ha,hf,q⟩:=h
    refine ⟨_,(ap (aG (av (dj rfl) rfl T.z_sum gw (aa (cA rfl (N:=["place", "told", "answers"]) (ix:=[none,none,some 0]) ⟨rfl,rfl,rfl,rfl,⟨rfl,rfl,rfl,trivial⟩⟩ (eM rfl T.z_enumerate (aa (vr 1) ae)) ⟨fun C s H fp=>(cV (K:=K) (n:=2) rfl rfl (az (aw (i:=0) (show List.Nodup (["place", "told", "answers"]:List Str) by decide +kernel) rfl (Or.inl rfl)) (az (aw (i:=1) (show List.Nodup (["place", "told", "answers"]:List Str) by decide +kernel) rfl (Or.inl rfl)) bP))),fun C s H fp=>eK (bh gQ (vr 1) dh (aD _)),fun C s H fp=>(aI (cP (K:=K) rfl) (aI (cP (K:=K) rfl) (vr 2) (vr 0) (fun _ _=>rfl)) af (fun _ _=>rfl))⟩) ae)))),?_⟩
    have sl:sizeLine = 16777216:=sizeLine_eq
    have xl:=ha.xl
    have l24:=ha.len
    have hp:=hf.at_
    have fl:=hf.len
    refine ⟨p,_,rfl,hp,fun D hD=>?_⟩
    refine fH (a:=p) (xs:=f.map oV) (fun i ys H2=>i≤zs.length∧Same H H2∧H2 D = some (.lst ys)∧ys = (wT ((zs.zip f).take i)).map V.int) ⟨Nat.zero_le _,Same.new hD,ac,rfl⟩ (fun i ys H2 h=>h.2.1 _ _ hp) (fun i ys H2 h=>h.2.2.1) ?_ ?_
    · rintro i v ys H2 pt P' hx ⟨hi,s2,hD2,rfl⟩ hpt hP
      obtain ⟨o,ho,rfl⟩:∃ o,f[i]? = some o∧v = oV o:=by
        rw [List.getElem?_map] at hx
        cases hc:f[i]? with
        | none=>rw [hc] at hx; cases hx
        | some z=>rw [hc] at hx; cases hx; exact ⟨z,rfl,rfl⟩
      have hlt:i < zs.length:=by have:=(List.getElem?_eq_some_iff.mp ho).1; omega
      obtain ⟨x,hx'⟩:∃ x,xs[i]? = some x:=⟨_,List.getElem?_eq_getElem (by omega)⟩
      obtain ⟨z,hz,hA⟩:=eF ha.all hx'
      obtain ⟨a1,a2,a3,a4,a5⟩:=ha.ok _ (List.mem_of_getElem? hz)
      have s3:=Same.new (o:=.tup [.int (i:Nat),oV o]) hpt
      obtain ⟨pz,rfl,hpz⟩:=hA.same (s2.trans s3)
      cases o with
      | none =>
        refine ⟨pt,_,rfl,SqT.of ac,rfl,_,_,rfl,_,_,rfl,rfl,⟨rfl,trivial⟩,hP _ _ ⟨hlt,s2.trans s3,s3 _ _ hD2,?_⟩⟩
        rw [um hz ho]
      | some v =>
        obtain ⟨f1,f2⟩:=hf.fb v (List.mem_of_getElem? ho)
        refine ⟨pt,_,rfl,SqT.of ac,rfl,_,_,rfl,_,_,rfl,rfl,⟨rfl,trivial⟩,?_⟩
        refine .inl ⟨l,_,_,_,rfl,rfl,SqL.of ((s2.trans s3) _ _ ha.at_),cU hx',?_⟩
        refine .inr (.inl ⟨pz,_,_,_,rfl,rfl,SqT.of hpz,ar 0 rfl rfl,?_⟩)
        refine ⟨s3 _ _ hD2,?_,hP _ _ ⟨hlt,(s2.trans s3).put hD,ac,?_⟩⟩
        · rw [List.length_map]
          have:=xP ((zs.zip f).take i)
          rw [List.length_take] at this
          omega
        · rw [tK hz ho,List.map_append]; rfl
    · rintro ys H2 ⟨_,s2,hD2,rfl⟩
      have e:(zs.zip f).take (f.map oV).length = zs.zip f:=List.take_of_length_le (by rw [List.length_zip,List.length_map]; omega)
      rw [e] at hD2
      exact ⟨D,_,rfl,SqL.of hD2,q _ s2⟩
theorem uQ (T:Txt K mg a):FnOk P w K mg base CX0 3 a.f_mean_by a.d_mean_by ["answers", "filling"] rK:=by
  have G_share:FnOk P w K mg base CX0 2 _ _ _ vw:=sF T
  have G_total_by:FnOk P w K mg base CX0 2 _ _ _ fT:=(gO T).mono (by decide)
  have G_weight_by:FnOk P w K mg base CX0 2 _ _ _ jI:=(kq T).mono (by decide)
  refine T.F_mean_by.ok nE (fun vs H Q E h=>?_) (fun cdv A outer s H vs Q E hr h=>?_)
  · obtain ⟨l,p,xs,zs,f,rfl,_⟩:=h; rfl
  · obtain ⟨l,p,xs,zs,f,rfl,ha,hf,pos,q⟩:=h
    refine ⟨_,(ap (aG (au G_share hr rfl T.m_share T.F_share.kp T.B_share .nil aH (aa (au G_total_by hr rfl T.m_total_by T.F_total_by.kp T.B_total_by .nil aH (aa (vr 0) (aa (vr 1) ae))) (aa (au G_weight_by hr rfl T.m_weight_by T.F_weight_by.kp T.B_weight_by .nil aH (aa (vr 0) (aa (vr 1) ae))) ae))))),?_⟩
    obtain ⟨b1,b2,b3⟩:=rl zs f ha.ok hf.fb
    have l24:=ha.len
    refine ⟨l,p,xs,zs,f,rfl,ha,hf,fun H1 s1=>?_⟩
    refine ⟨l,p,xs,zs,f,rfl,ha.same s1,hf.same s1,fun H2 s2=>?_⟩
    exact ⟨_,_,rfl,pos,qR (by omega),qR (by omega),fun H' p' s' hp'=>q _ p' ((s1.trans s2).trans s') hp'⟩
theorem vb (T:Txt K mg a):FnOk P w K mg base CX0 1 a.f_counts_none a.d_counts_none ["filling"] rm:=by
  refine T.F_counts_none.ok jM (fun vs H Q E h=>?_) (fun cdv A outer s H vs Q E hr h=>?_)
  · obtain ⟨p,f,rfl,_⟩:=h; rfl
  · obtain ⟨p,f,rfl,hp,hl,q⟩:=h
    refine ⟨_,(ap (aG (av (dC rfl) rfl T.z_all iB (aa (cA rfl (N:=["told"]) (ix:=[none]) ⟨rfl,rfl,rfl,rfl,trivial⟩ (cm (vr 0)) ⟨fun C s H fp=>aw (i:=0) (show List.Nodup (["told"]:List Str) by decide +kernel) rfl (Or.inl rfl),fun C s H fp=>bY,fun C s H fp=>(cM yN (vr 0) dh (aD _))⟩) ae)))),?_⟩
    have sl:sizeLine = 16777216:=sizeLine_eq
    refine .inl ⟨⟨_,SqL.of hp⟩,fun D hD=>?_⟩
    refine br (K:=K) (a:=p) (xs:=f.map oV) (fun j ys H2=>j≤f.length∧Same H H2∧H2 D = some (.lst ys)∧ys = ((f.take j).map (·.isNone)).map V.bl) ⟨Nat.zero_le _,Same.new hD,ac,rfl⟩ (fun j ys H2 h'=>SqL.of (h'.2.1 _ _ hp)) (fun j ys H2 h'=>h'.2.2.1) ?_ ?_
    · rintro j x ys H2 P' hx ⟨hj,s2,hD2,rfl⟩ hP
      obtain ⟨o,ho,rfl⟩:∃ o,f[j]? = some o∧x = oV o:=by
        rw [List.getElem?_map] at hx
        cases hc:f[j]? with
        | none=>rw [hc] at hx; cases hx
        | some z=>rw [hc] at hx; cases hx; exact ⟨z,rfl,rfl⟩
      have hlt:j < f.length:=(List.getElem?_eq_some_iff.mp ho).1
      have zl:(((f.take j).map (·.isNone)).map V.bl).length < sizeLine:=by rw [List.length_map,List.length_map,List.length_take]; omega
      have fin:=hP _ _ ⟨show j + 1≤f.length from hlt,s2.put hD,ac,by rw [bT ho,List.map_append]; try rfl⟩
      cases o with
      | none=>exact ⟨trivial,hD2,zl,fin⟩
      | some v=>exact ⟨trivial,hD2,zl,fin⟩
    rintro ys H2 ⟨_,s2,hD2,rfl⟩
    rw [List.length_map,List.take_of_length_le (Nat.le_refl _)] at hD2
    refine ⟨D,_,_,rfl,SqL.of hD2,rfl,?_⟩
    have e:(f.map (·.isNone)).all id = f.all (·.isNone):=by rw [List.all_map]; rfl
    rw [e]
    exact q _ s2
end
end Wd
end My
namespace My
namespace Wd
open PySem L2 FrM M80
def eX (zs:List A4) (i:Nat):Int:=gR zs ((may zs).getD i 0)
def eA (zs:List A4):List Nat:=(ord (fun i j=>decide (eX zs i < eX zs j)) (may zs).length).map fun i=>(may zs).getD i 0
def dW (zs:List A4):List (Option Int):=(eA zs).foldl (step zs) (zs.map first)
theorem m5 (g:Nat→Int) (n:Nat):WSrt.Wk (fun i j=>decide (g i < g j)) n:=⟨fun i j _ _ h=>by have:=of_decide_eq_true h; exact decide_eq_false (by omega),fun i j k _ _ _ h1 h2=>by
    have h1':=of_decide_eq_false h1
    have h2':=of_decide_eq_false h2
    exact decide_eq_false (by omega)⟩
theorem nv (l:List Nat):(List.range l.length).map (fun i=>l.getD i 0) = l:=by
  refine List.ext_getElem? fun i=>?_
  rw [List.getElem?_map]
  by_cases h:i < l.length
  · rw [List.getElem?_range h,List.getElem?_eq_getElem h]
    simp [List.getD,h]
  · rw [List.getElem?_eq_none (by rw [List.length_range]; omega),List.getElem?_eq_none (by omega)]
    rfl
theorem j4 (zs:List A4):(eA zs).Perm (may zs):=by
  have h:=(jF (m5 (eX zs) (may zs).length)).map fun i=>(may zs).getD i 0
  rw [nv] at h
  exact h
theorem qV (zs:List A4):(eA zs).Pairwise fun i j=>gR zs i≤gR zs j:=by
  unfold eA
  rw [List.pairwise_map]
  refine (sW (m5 (eX zs) (may zs).length)).imp fun {i j} h=>?_
  have:=of_decide_eq_false h
  unfold eX at this
  omega
theorem pp (zs:List A4):(may zs).Nodup:=List.Nodup.sublist (List.filter_sublist ..) List.nodup_range
theorem lQ {zs:List A4} (ok:∀ z ∈ zs,OkA z) (hne:∃ z ∈ zs,wd z≠.no):Fil zs lo (-1) (dW zs):=by
  have hw:∀ z ∈ zs,1≤z.1:=fun z hz=>(ok z hz).1
  have hp:=j4 zs
  have W:=mF hw (eA zs) [] _ (nF zs) (by rw [List.nil_append]; exact hp.nodup_iff.mpr (pp zs)) (fun k hk=>hp.mem_iff.mp hk) (by rw [List.nil_append]; exact qV zs)
  exact wJ W hw (fun k hk=>by rw [List.nil_append]; exact hp.mem_iff.mpr hk) hne
structure Lws (zs:List A4) (f:List (Option Int)):Prop where
  len:f.length = zs.length
  el:∀ v,some v ∈ f→∃ z ∈ zs,v = lo z
theorem j0 (zs:List A4):Lws zs (zs.map first):=⟨by simp,fun v hv=>by
  obtain ⟨z,hz,e⟩:=List.mem_map.mp hv
  unfold first at e
  split at e
  · exact ⟨z,hz,(Option.some.inj e).symm⟩
  · cases e⟩
theorem Lws.step {zs:List A4} {f:List (Option Int)} (h:Lws zs f) (p:Nat):Lws zs (step zs f p):=by
  unfold M80.step
  split
  · rename_i z hz
    split
    · refine ⟨by rw [List.length_set]; exact h.len,fun v hv=>?_⟩
      rcases List.mem_or_eq_of_mem_set hv with hv | hv
      · exact h.el v hv
      · exact ⟨z,List.mem_of_getElem? hz,Option.some.inj hv⟩
    · exact h
  · exact h
theorem Lws.fb {zs:List A4} {f:List (Option Int)} (h:Lws zs f) (ok:∀ z ∈ zs,OkA z):FB f:=fun v hv=>by
  obtain ⟨z,hz,rfl⟩:=h.el v hv
  obtain ⟨_,_,a3,a4,a5⟩:=ok z hz
  unfold lo
  omega
theorem mV {zs:List A4}:∀ (l:List Nat) (f:List (Option Int)),Lws zs f→Lws zs (l.foldl (step zs) f)
  | [],f,h=>h
  | p :: l,f,h=>by rw [List.foldl_cons]; exact mV l _ (h.step p)
theorem gI (zs:List A4):Lws zs (dW zs):=mV _ _ (j0 zs)
abbrev nV (l:List Nat):List V:=l.map fun (k:Nat)=>V.int (k:Int)
theorem vh (l:List Nat) (k:Nat):nV (l ++ [k]) = nV l ++ [.int (k:Int)]:=by simp [nV]
theorem wZ {n k:Nat} (h:k < n):ixN n (k:Int) = some k:=by
  unfold ixN
  rw [if_pos (by omega),if_pos (by omega)]
  simp
theorem map_set {α β:Type} (g:α→β) (l:List α) (k:Nat) (x:α):(l.map g).set k (g x) = (l.set k x).map g:=by rw [List.map_set]
theorem w5 (l o:List Nat) (h:∀ i ∈ o,i < l.length):(o.map fun i=>(nV l).getD i .non) = nV (o.map fun i=>l.getD i 0):=by
  show _ = (o.map fun i=>l.getD i 0).map _
  rw [List.map_map]
  refine List.map_congr_left fun i hi=>?_
  have:=h i hi
  simp [List.getD,this]
def vA:List V→Sp:=fun vals vs H Q _=>∃ (l:Addr) (xs:List V) (zs:List A4) (i:Nat) (z:A4),vals = [.ref l]∧vs = [.int (i:Nat)]∧Ans H l xs zs∧zs[i]? = some z∧Q (.int (lo z)) H
theorem lsK:LamScope bA ["answers"] ["number"]:=⟨rfl,rfl,rfl,by decide +kernel,by decide +kernel,by decide +kernel,by decide +kernel,by decide +kernel⟩
def oA (a:Ad):Sp:=fun vs H Q _=>∃ (l:Addr) (xs:List V) (zs:List A4),vs = [.ref l]∧Ans H l xs zs∧TabsOk (tabs a) H∧∀ H' p,SameT H H'→TabsOk (tabs a) H'→H p = none→H' p = some (.lst ((dW zs).map oV))→Q (.ref p) H'
section
variable {P:Program} {w:World} {K:PySem.W.Frag} {mg:Str→Option Value} {base:Heap} {a:Ad}
theorem wA (T:Txt K mg a):qM P w K mg base 1 bA ["answers"] ["number"] vA:=by
  refine vt lsK (fun pm ctv clos c us hl=>match us,hl with | [_],_=>rfl) (fun vals vs H Q E h=>?_) (fun A outer s H f c clos vals vs Q E hr hfv h=>?_)
  · obtain ⟨l,xs,zs,i,z,rfl,rfl,_⟩:=h; rfl
  · obtain ⟨l,xs,zs,i,z,rfl,rfl,ha,hz,q⟩:=h
    refine ⟨_,(aI aC (aI aC (vr 1) (vr 0) (fun _ _=>rfl)) af (fun _ _=>rfl)),?_⟩
    have xl:=ha.xl
    have hlt:i < zs.length:=(List.getElem?_eq_some_iff.mp hz).1
    obtain ⟨x,hx⟩:∃ x,xs[i]? = some x:=⟨_,List.getElem?_eq_getElem (by omega)⟩
    obtain ⟨z',hz',pz,rfl,hpz⟩:=eF ha.all hx
    rw [hz] at hz'; cases hz'
    refine .inl ⟨l,_,_,_,rfl,rfl,SqL.of ha.at_,cU hx,?_⟩
    exact .inr (.inl ⟨pz,_,_,_,rfl,rfl,SqT.of hpz,ar 1 rfl rfl,q⟩)
theorem qv (T:Txt K mg a) (hB:Bm mg base):FnOk P w K mg base CX0 3 a.f_least_filling a.d_least_filling ["answers"] (oA a):=by
  have G_counts_none:FnOk P w K mg base CX0 2 _ _ _ rm:=(vb T).mono (by decide)
  have G_total_by:FnOk P w K mg base CX0 2 _ _ _ fT:=(gO T).mono (by decide)
  have G_weight_by:FnOk P w K mg base CX0 2 _ _ _ jI:=(kq T).mono (by decide)
  have L_key:qM P w K mg base 1 bA ["answers"] ["number"] vA:=wA T
  refine T.F_least_filling.okL T.lcd_least_filling sc_least_filling (by decide +kernel) (fun vs H Q E h=>?_) (fun A outer s H vs Q E hr h=>?_)
  · obtain ⟨l,xs,zs,rfl,_⟩:=h; rfl
  · obtain ⟨l,xs,zs,rfl,ha,hT,q⟩:=h
    refine ⟨_,(lq (dA rfl (i:=1) sc_least_filling.nd rfl rfl (by with_unfolding_all rfl) (N:=["weight", "low", "high", "word"]) (ix:=[none,none,none,none]) ⟨rfl,rfl,rfl,rfl,trivial⟩ (cm (vr 0)) ⟨fun C s H fp=>(cV (K:=K) (n:=4) rfl rfl (az (aw (i:=0) (show List.Nodup (["weight", "low", "high", "word"]:List Str) by decide +kernel) rfl (Or.inl rfl)) (az (aw (i:=1) (show List.Nodup (["weight", "low", "high", "word"]:List Str) by decide +kernel) rfl (Or.inl rfl)) (az (aw (i:=2) (show List.Nodup (["weight", "low", "high", "word"]:List Str) by decide +kernel) rfl (Or.inl rfl)) (az (aw (i:=3) (show List.Nodup (["weight", "low", "high", "word"]:List Str) by decide +kernel) rfl (Or.inl rfl)) bP))))),fun C s H fp=>bY,fun C s H fp=>(fF (bh ej (vr 3) dI (aD _)) (vr 1) dh)⟩) (lq (dA rfl (i:=2) sc_least_filling.nd rfl rfl (by with_unfolding_all rfl) (N:=["place", "answer"]) (ix:=[none,none]) ⟨rfl,rfl,rfl,rfl,trivial⟩ (eM rfl T.z_enumerate (aa (vr 0) ae)) ⟨fun C s H fp=>(cV (K:=K) (n:=2) rfl rfl (az (aw (i:=0) (show List.Nodup (["place", "answer"]:List Str) by decide +kernel) rfl (Or.inl rfl)) (az (aw (i:=1) (show List.Nodup (["place", "answer"]:List Str) by decide +kernel) rfl (Or.inl rfl)) bP))),fun C s H fp=>eK (bh ej (aI (cP (K:=K) rfl) (vr 1) af (fun _ _=>rfl)) dI (aD _)),fun C s H fp=>(vr 0)⟩) (lq (fB PassesOwn.never rfl (cm (rd (d:=bA) (yJ _) rfl T.z_sorted kg (vr 2) (sJ (d:=bA) rfl T.lch_least_filling hB rfl (by with_unfolding_all rfl) rfl (iF a) (.head _) T.tnd iG) L_key hr rfl (wM rfl))) (aw (i:=3) sc_least_filling.nd rfl (Or.inl rfl)) (am (bg (i:=4) sc_least_filling.nd rfl (Or.inl rfl) (aI aC (aI aC (vr 0) (vr 3) (fun _ _=>rfl)) af (fun _ _=>rfl))) (ap (cX (PW.pt (qA (gj (au G_counts_none hr rfl T.m_counts_none T.F_counts_none.kp T.B_counts_none .nil aH (aa (vr 1) ae))) (m8 (bh lh (aB eL (vr 4) (au G_weight_by hr rfl T.m_weight_by T.F_weight_by.kp T.B_weight_by .nil aH (aa (vr 0) (aa (vr 1) ae)))) (au G_total_by hr rfl T.m_total_by T.F_total_by.kp T.B_total_by .nil aH (aa (vr 0) (aa (vr 1) ae))) (aD _))))) (ap (mR (vr 4) (m9 (vr 1) (vr 3) fe))) bC)))) (wb (vr 1))))),?_⟩
    have sl:sizeLine = 16777216:=sizeLine_eq
    have xl:=ha.xl
    have l24:=ha.len
    refine .inl ⟨⟨_,SqL.of ha.at_⟩,fun D hD=>?_⟩
    refine br (K:=K) (a:=l) (xs:=xs) (fun j ys H2=>j≤xs.length∧Same H H2∧H2 D = some (.lst ys)∧ys = ((zs.take j).map first).map oV) ⟨Nat.zero_le _,Same.new hD,ac,rfl⟩ (fun j ys H2 h'=>SqL.of (h'.2.1 _ _ ha.at_)) (fun j ys H2 h'=>h'.2.2.1) ?_ ?_
    · rintro j x ys H2 P' hx ⟨hj,s2,hD2,rfl⟩ hP
      obtain ⟨z,hz,hA⟩:=eF ha.all hx
      have hlt:j < xs.length:=(List.getElem?_eq_some_iff.mp hx).1
      obtain ⟨pz,rfl,hpz⟩:=hA.same s2
      have zl:(((zs.take j).map first).map oV).length < sizeLine:=by rw [List.length_map,List.length_map,List.length_take]; omega
      have fin:∀ v,v = oV (first z)→P' (((zs.take j).map first).map oV ++ [v]) (upd H2 D (.lst (((zs.take j).map first).map oV ++ [v]))):=fun v hv=>hP _ _ ⟨by omega,s2.put hD,ac,by rw [bT hz,List.map_append,hv]; rfl⟩
      refine ⟨pz,_,rfl,SqT.of hpz,rfl,_,_,rfl,_,_,rfl,_,_,rfl,_,_,rfl,rfl,trivial,?_⟩
      refine ifC (fun c=>?_) (fun c=>?_)
      · have c':wd z = .yes:=wS_yes.mp c
        exact ⟨hD2,zl,fin _ (by unfold first; rw [if_pos c']; rfl)⟩
      · have c':¬ wd z = .yes:=fun e=>c (wS_yes.mpr e)
        exact ⟨hD2,zl,fin _ (by unfold first; rw [if_neg c']; rfl)⟩
    rintro ys H2 ⟨_,s2,hD2,rfl⟩
    rw [xl,List.take_of_length_le (Nat.le_refl _)] at hD2
    have ha2:=ha.same s2
    refine ⟨l,_,rfl,ha2.at_,fun D2 hE=>?_⟩
    have ne:D≠D2:=ay hD2 hE
    have mt:∀ j z,zs[j]? = some z→(List.range (j + 1)).filter (fun i=>match zs[i]? with | some z=>decide (wd z = .opn) | none=>false) = (List.range j).filter (fun i=>match zs[i]? with | some z=>decide (wd z = .opn) | none=>false) ++ (if wd z = .opn then [j] else []):=fun j z hz=>by
      rw [List.range_succ,List.filter_append]
      congr 1
      by_cases c:wd z = .opn
      · rw [if_pos c,List.filter_cons_of_pos (by rw [hz]; exact decide_eq_true c)]; rfl
      · rw [if_neg c,List.filter_cons_of_neg (by rw [hz]; simp [c])]; rfl
    refine fH (a:=l) (xs:=xs) (fun j ys H3=>j≤zs.length∧Same H2 H3∧H3 D2 = some (.lst ys)∧ys = nV ((List.range j).filter fun i=>match zs[i]? with | some z=>decide (wd z = .opn) | none=>false)) ⟨Nat.zero_le _,Same.new hE,ac,rfl⟩ (fun j ys H3 h'=>h'.2.1 _ _ ha2.at_) (fun j ys H3 h'=>h'.2.2.1) ?_ ?_
    · rintro j x ys H3 pt P' hx ⟨hj,s3,hE3,rfl⟩ hpt hP
      obtain ⟨z,hz,hA⟩:=eF ha2.all hx
      have hlt:j < zs.length:=(List.getElem?_eq_some_iff.mp hz).1
      have s4:=Same.new (o:=.tup [.int (j:Nat),x]) hpt
      obtain ⟨pz,rfl,hpz⟩:=hA.same (s3.trans s4)
      refine ⟨pt,_,rfl,SqT.of ac,rfl,_,_,rfl,_,_,rfl,rfl,trivial,?_⟩
      refine .inr (.inl ⟨pz,_,_,_,rfl,rfl,SqT.of hpz,ar 3 rfl rfl,?_⟩)
      refine ifC (fun c=>?_) (fun c=>?_)
      · have c':wd z = .opn:=wS_opn.mp c
        refine ⟨s4 _ _ hE3,?_,hP _ _ ⟨hlt,(s3.trans s4).put hE,ac,?_⟩⟩
        · rw [List.length_map]
          have:=List.length_filter_le (fun i=>match zs[i]? with | some z=>decide (wd z = .opn) | none=>false) (List.range j)
          rw [List.length_range] at this
          omega
        · rw [mt j z hz,if_pos c',vh]
      · have c':¬ wd z = .opn:=fun e=>c (wS_opn.mpr e)
        refine hP _ _ ⟨hlt,s3.trans s4,s4 _ _ hE3,?_⟩
        rw [mt j z hz,if_neg c',List.append_nil]
    rintro ys H3 ⟨_,s3,hE3,rfl⟩
    rw [xl] at hE3
    have hE3':H3 D2 = some (.lst (nV (may zs))):=hE3
    clear hE3
    have ha3:=ha2.same s3
    have hT3:TabsOk (tabs a) H3:=(hT.same s2).same s3
    refine ⟨hT3,fun f c H4 t4 hT4 hf0 hf hc=>?_⟩
    have ha4:=ha3.t t4
    have t04:SameT H H4:=(s2.trans s3).t.trans t4
    have mlen:(may zs).length≤zs.length:=by unfold may; have:=List.length_filter_le (fun i=>match zs[i]? with | some z=>decide (wd z = .opn) | none=>false) (List.range zs.length); rw [List.length_range] at this; exact this
    refine ⟨D2,nV (may zs),eX zs,[.ref l],rfl,SqL.of (t4.at hE3'),by rw [List.length_map]; omega,trivial,.cons ⟨rfl,rfl,0,rfl,rfl⟩ .nil,fun i x H' hx s'=>?_,fun D3 H5 s5 f1 f2=>?_⟩
    · rw [List.getElem?_map] at hx
      cases hk:(may zs)[i]? with
      | none=>rw [hk] at hx; cases hx
      | some k =>
        rw [hk] at hx; cases hx
        obtain ⟨z,hz,_⟩:=mem_may.mp (List.mem_of_getElem? hk)
        refine ⟨l,xs,zs,k,z,rfl,rfl,ha4.same s',hz,Same.refl _,?_⟩
        show V.int (lo z) = V.int (eX zs i)
        unfold eX gR
        rw [List.getD,hk,Option.getD_some,hz]
    have eS:(ord (fun i j=>decide (eX zs i < eX zs j)) (nV (may zs)).length).map (fun i=>(nV (may zs)).getD i .non) = nV (eA zs):=by
      rw [List.length_map]
      refine w5 _ _ fun i hi=>?_
      exact List.mem_range.mp ((jF (m5 (eX zs) (may zs).length)).mem_iff.mp hi)
    erw [eS]
    have hD5:=s5 _ _ (t4.at (s3 _ _ hD2))
    have ha5:=ha4.same s5
    have s6:=Same.new (o:=.lst (nV (eA zs))) f2
    have hL6:=ac (H:=H5) (a:=D3) (o:=.lst (nV (eA zs)))
    have n3:D≠D3:=ay hD5 f2
    have nDl:l≠D:=ay ha.at_ hD
    generalize upd H5 D3 (.lst (nV (eA zs))) = H6 at s6 hL6
    have t06:SameT H H6:=t04.trans (s5.trans s6).t
    have hT6:TabsOk (tabs a) H6:=(hT4.same s5).same s6
    refine .inl ⟨⟨_,SqL.of hL6⟩,jE (K:=K) (a:=D3) (xs:=nV (eA zs)) (fun i σ H'=>∃ (f:List (Option Int)) (x3 x4:Option V),SameT H H'∧TabsOk (tabs a) H'∧H' D = some (.lst (f.map oV))∧H' D3 = some (.lst (nV (eA zs)))∧Ans H' l xs zs∧f = ((eA zs).take i).foldl (step zs) (zs.map first)∧σ = [some (.ref l),some (.ref D),some (.ref D2),x3,x4]) ?_ ?_ ?_ ?_⟩
    · exact ⟨_,none,none,t06,hT6,s6 _ _ hD5,hL6,ha5.same s6,rfl,rfl⟩
    · rintro i σ H' _ ⟨f,x3,x4,g1,g2,g3,g4,g5,g6,g7⟩
      exact SqL.of g4
    · rintro i x σ H' hx ⟨f,x3,x4,g1,g2,g3,g4,g5,g6,rfl⟩
      obtain ⟨k,hk,rfl⟩:∃ k,(eA zs)[i]? = some k∧x = .int (k:Nat):=by
        rw [List.getElem?_map] at hx
        cases hk:(eA zs)[i]? with
        | none=>rw [hk] at hx; cases hx
        | some k=>rw [hk] at hx; cases hx; exact ⟨k,rfl,rfl⟩
      obtain ⟨z,hz,ho⟩:=mem_may.mp ((j4 zs).mem_iff.mp (List.mem_of_getElem? hk))
      have klt:k < zs.length:=(List.getElem?_eq_some_iff.mp hz).1
      have hw:Lws zs f:=by rw [g6]; exact mV _ _ (j0 zs)
      have hfb:=hw.fb ha.ok
      have flen:=hw.len
      obtain ⟨a1,a2,a3,a4,a5⟩:=ha.ok z (List.mem_of_getElem? hz)
      obtain ⟨b1,b2,b3⟩:=rl zs f ha.ok hfb
      obtain ⟨y,hy⟩:∃ y,xs[k]? = some y:=⟨_,List.getElem?_eq_getElem (by omega)⟩
      obtain ⟨z',hz',pz,rfl,hpz⟩:=eF g5.all hy
      rw [hz] at hz'; cases hz'
      have est:((eA zs).take (i + 1)).foldl (step zs) (zs.map first) = step zs f k:=by rw [List.take_add_one,hk,List.foldl_append,← g6]; rfl
      have fin:∀ (H2:Hp) (f2:List (Option Int)),SameT H' H2→TabsOk (tabs a) H2→(∀ b,b≠D→True)→Ans H2 l xs zs→H2 D3 = some (.lst (nV (eA zs)))→H2 D = some (.lst (f2.map oV))→f2 = step zs f k→∃ (f:List (Option Int)) (x3 x4:Option V),SameT H H2∧TabsOk (tabs a) H2∧H2 D = some (.lst (f.map oV))∧H2 D3 = some (.lst (nV (eA zs)))∧Ans H2 l xs zs∧f = ((eA zs).take (i + 1)).foldl (step zs) (zs.map first)∧[some (V.ref l),some (.ref D),some (.ref D2),some (.int (k:Nat)),some (.int (lo z))] = [some (.ref l),some (.ref D),some (.ref D2),x3,x4] :=
        fun H2 f2 t2 tt _ h2 h3 h4 e=>⟨f2,_,_,g1.trans t2,tt,h4,h3,h2,by rw [est,e],rfl⟩
      refine .inl ⟨l,_,_,_,rfl,rfl,SqL.of g5.at_,cU hy,?_⟩
      refine .inr (.inl ⟨pz,_,_,_,rfl,rfl,SqT.of hpz,ar 1 rfl rfl,?_⟩)
      refine ⟨D,f,rfl,g3,by omega,fun H7 s7=>?_⟩
      have put:∀ (H2:Hp),Same H' H2→step zs f k = f.set k (some (lo z))→∃ p ys i2 j2,V.ref D = .ref p∧V.int (k:Nat) = .int i2∧H2 p = some (.lst ys)∧ixN ys.length i2 = some j2∧∃ (f:List (Option Int)) (x3 x4:Option V),SameT H (upd H2 p (.lst (ys.set j2 (.int (lo z)))))∧TabsOk (tabs a) (upd H2 p (.lst (ys.set j2 (.int (lo z)))))∧(upd H2 p (.lst (ys.set j2 (.int (lo z))))) D = some (.lst (f.map oV))∧(upd H2 p (.lst (ys.set j2 (.int (lo z))))) D3 = some (.lst (nV (eA zs)))∧Ans (upd H2 p (.lst (ys.set j2 (.int (lo z))))) l xs zs∧f = ((eA zs).take (i + 1)).foldl (step zs) (zs.map first)∧[some (V.ref l),some (.ref D),some (.ref D2),some (.int (k:Nat)),some (.int (lo z))] = [some (.ref l),some (.ref D),some (.ref D2),x3,x4]:=fun H2 s2' e=>by
        have hD':=s2' _ _ g3
        refine ⟨D,_,_,k,rfl,rfl,hD',wZ (by rw [List.length_map]; omega),?_⟩
        rw [show V.int (lo z) = oV (some (lo z)) from rfl,map_set]
        refine ⟨_,_,_,(g1.trans s2'.t).put hD,(g2.same s2').put (fun ps z=>by rw [hD'] at z; cases z) (fun φ z=>by rw [hD'] at z; cases z),ac,?_,?_,by rw [est,e],rfl⟩
        · rw [ao (Ne.symm n3)]; exact s2' _ _ g4
        · exact ⟨by rw [ao (fun w=>by have:=g5.at_; rw [w] at this; rw [g3] at this; exact nDl w)]; exact s2' _ _ g5.at_,(g5.all.same s2').tu (eQ hD'),g5.len,g5.ok⟩
      cases c:f.all (·.isNone) with
      | true=>exact put _ s7 (by unfold M80.step; rw [hz]; simp only; rw [if_pos (.inl c)])
      | false =>
        have hf7:Fl H7 D zs f:=⟨s7 _ _ g3,flen,hfb⟩
        refine ⟨l,D,xs,zs,f,rfl,g5.same s7,hf7,fun H8 s8=>⟨clB (by omega) (by omega),?_⟩⟩
        refine ⟨l,D,xs,zs,f,rfl,(g5.same s7).same s8,hf7.same s8,fun H9 s9=>?_⟩
        have s79:=(s7.trans s8).trans s9
        refine ifC (fun c2=>?_) (fun c2=>?_)
        · exact put _ s79 (by unfold M80.step; rw [hz]; simp only; rw [if_pos (.inr c2)])
        · have e:step zs f k = f:=by
            unfold M80.step; rw [hz]; simp only
            rw [if_neg (by rintro (z | z); rw [c] at z; cases z; exact c2 z)]
          exact ⟨f,_,_,g1.trans s79.t,g2.same s79,s79 _ _ g3,s79 _ _ g4,g5.same s79,by rw [est,e],rfl⟩
    · rintro σ H' ⟨f,x3,x4,g1,g2,g3,g4,g5,g6,rfl⟩
      have e:f = dW zs:=by
        rw [g6,List.take_of_length_le (by rw [List.length_map]; exact Nat.le_refl _)]; rfl
      rw [e] at g3
      intro H9 s9 _
      exact q _ D (g1.trans s9.t) (g2.same s9) hD (s9 _ _ g3)
end
end Wd
end My
namespace My
namespace Wd
open PySem L2 FrM M80
def highs (zs:List A4):List (Option Int):=(dW (zs.map bG)).map neg
structure Told (H0 H:Hp) (t p1 p2 pl ph:Addr) (zs:List A4):Prop where
  at_:H t = some (.tup [.ref p1,.ref p2,.ref pl,.ref ph])
  m1:H p1 = some (.tup [.int (nG (tF (zs.zip (dW zs))) (wF (zs.zip (dW zs)))).1,.int (nG (tF (zs.zip (dW zs))) (wF (zs.zip (dW zs)))).2])
  m2:H p2 = some (.tup [.int (nG (tF (zs.zip (highs zs))) (wF (zs.zip (highs zs)))).1,.int (nG (tF (zs.zip (highs zs))) (wF (zs.zip (highs zs)))).2])
  lo:H pl = some (.lst ((dW zs).map oV))
  hi:H ph = some (.lst ((highs zs).map oV))
  ne:pl≠ph
  fl:H0 pl = none
  fh:H0 ph = none
def jl (zs:List A4):Prop:=∃ z ∈ zs,wd z≠.no
def iC (a:Ad):Sp:=fun vs H Q _=>∃ (l:Addr) (xs:List V) (zs:List A4),vs = [.ref l]∧Ans H l xs zs∧TabsOk (tabs a) H∧(¬ jl zs→∀ H',SameT H H'→TabsOk (tabs a) H'→Q .non H')∧(jl zs→∀ H' t p1 p2 pl ph,SameT H H'→TabsOk (tabs a) H'→Told H H' t p1 p2 pl ph zs→Q (.ref t) H')
theorem kW {zs:List A4} (ok:∀ z ∈ zs,OkA z):∀ z ∈ zs.map bG,OkA z:=fun z hz=>by
  obtain ⟨y,hy,rfl⟩:=List.mem_map.mp hz
  obtain ⟨a1,a2,a3,a4,a5⟩:=ok y hy
  unfold bG OkA
  simp only
  omega
theorem pr {zs:List A4} (h:jl zs):jl (zs.map bG):=by
  obtain ⟨z,hz,e⟩:=h
  exact ⟨bG z,List.mem_map.mpr ⟨z,hz,rfl⟩,e⟩
theorem pX {zs:List A4} (ok:∀ z ∈ zs,OkA z) (h:jl zs):Fil zs hi 1 (highs zs):=rP (lQ (kW ok) (pr h))
theorem qj {zs:List A4} (ok:∀ z ∈ zs,OkA z):(highs zs).length = zs.length∧FB (highs zs):=by
  have h:=gI (zs.map bG)
  have hb:=h.fb (kW ok)
  unfold highs
  refine ⟨by rw [List.length_map,h.len,List.length_map],fun v hv=>?_⟩
  obtain ⟨o,ho,e⟩:=List.mem_map.mp hv
  cases o with
  | none=>cases e
  | some u =>
    have:=hb u ho
    have e':-u = v:=Option.some.inj e
    omega
theorem all_no {zs:List A4}:((zs.map fun z=>decide (wS z.2.2.2 = "no")).all id = true)↔¬ jl zs:=by
  rw [List.all_eq_true]
  constructor
  · rintro h ⟨z,hz,hn⟩
    have:=h _ (List.mem_map.mpr ⟨z,hz,rfl⟩)
    exact hn (wS_no.mp (of_decide_eq_true this))
  · intro h b hb
    obtain ⟨z,hz,rfl⟩:=List.mem_map.mp hb
    refine decide_eq_true (wS_no.mpr ?_)
    exact Classical.byContradiction fun e=>h ⟨z,hz,e⟩
section
variable {P:Program} {w:World} {K:PySem.W.Frag} {mg:Str→Option Value} {base:Heap} {a:Ad}
theorem ok_stretch (T:Txt K mg a) (hB:Bm mg base):FnOk P w K mg base CX0 7 a.f_mean_stretch a.d_mean_stretch ["answers"] (iC a):=by
  have G_need_answers:FnOk P w K mg base CX0 6 _ _ _ (fc a.f_is_worded_answer):=gZ T
  have G_least_filling:FnOk P w K mg base CX0 6 _ _ _ (oA a):=(qv T hB).mono (by decide)
  have G_mean_by:FnOk P w K mg base CX0 6 _ _ _ rK:=(uQ T).mono (by decide)
  refine T.F_mean_stretch.ok sc_mean_stretch (fun vs H Q E h=>?_) (fun cdv A outer s H vs Q E hr h=>?_)
  · obtain ⟨l,xs,zs,rfl,_⟩:=h; rfl
  · obtain ⟨l,xs,zs,rfl,ha,hT,q0,q⟩:=h
    refine ⟨_,(am (cQ (au G_need_answers hr rfl T.m_need_answers T.F_need_answers.kp T.B_need_answers .nil aH (aa (vr 0) (aa (cD (v:=.ref a.f_is_worded_answer) rfl ⟨_,T.m_is_worded_answer,rfl⟩) ae)))) (am (cX (gj (av (dC rfl) rfl T.z_all iB (aa (cA rfl (N:=["weight", "low", "high", "word"]) (ix:=[none,none,none,none]) ⟨rfl,rfl,rfl,rfl,trivial⟩ (cm (vr 0)) ⟨fun C s H fp=>(cV (K:=K) (n:=4) rfl rfl (az (aw (i:=0) (show List.Nodup (["weight", "low", "high", "word"]:List Str) by decide +kernel) rfl (Or.inl rfl)) (az (aw (i:=1) (show List.Nodup (["weight", "low", "high", "word"]:List Str) by decide +kernel) rfl (Or.inl rfl)) (az (aw (i:=2) (show List.Nodup (["weight", "low", "high", "word"]:List Str) by decide +kernel) rfl (Or.inl rfl)) (az (aw (i:=3) (show List.Nodup (["weight", "low", "high", "word"]:List Str) by decide +kernel) rfl (Or.inl rfl)) bP))))),fun C s H fp=>bY,fun C s H fp=>(cM ej (vr 3) dI (aD _))⟩) ae))) (ap (aG dh)) bC) (am (bg (i:=1) sc_mean_stretch.nd rfl (Or.inl rfl) (au G_least_filling hr rfl T.m_least_filling T.F_least_filling.kp T.B_least_filling .nil aH (aa (vr 0) ae))) (am (dA rfl (i:=2) sc_mean_stretch.nd rfl rfl (by with_unfolding_all rfl) (N:=["weight", "low", "high", "word"]) (ix:=[none,none,none,none]) ⟨rfl,rfl,rfl,rfl,trivial⟩ (cm (vr 0)) ⟨fun C s H fp=>(cV (K:=K) (n:=4) rfl rfl (az (aw (i:=0) (show List.Nodup (["weight", "low", "high", "word"]:List Str) by decide +kernel) rfl (Or.inl rfl)) (az (aw (i:=1) (show List.Nodup (["weight", "low", "high", "word"]:List Str) by decide +kernel) rfl (Or.inl rfl)) (az (aw (i:=2) (show List.Nodup (["weight", "low", "high", "word"]:List Str) by decide +kernel) rfl (Or.inl rfl)) (az (aw (i:=3) (show List.Nodup (["weight", "low", "high", "word"]:List Str) by decide +kernel) rfl (Or.inl rfl)) bP))))),fun C s H fp=>bY,fun C s H fp=>(bX (aa (vr 0) (aa (gN gE (vr 2)) (aa (gN gE (vr 1)) (aa (vr 3) ae)))))⟩) (am (dA rfl (i:=3) sc_mean_stretch.nd rfl rfl (by with_unfolding_all rfl) (N:=["told"]) (ix:=[none]) ⟨rfl,rfl,rfl,rfl,trivial⟩ (cm (au G_least_filling hr rfl T.m_least_filling T.F_least_filling.kp T.B_least_filling .nil aH (aa (vr 2) ae))) ⟨fun C s H fp=>aw (i:=0) (show List.Nodup (["told"]:List Str) by decide +kernel) rfl (Or.inl rfl),fun C s H fp=>bY,fun C s H fp=>(fF (bh yN (vr 0) dh (aD _)) dh (gN gE (vr 0)))⟩) (ap (aG (bX (aa (au G_mean_by hr rfl T.m_mean_by T.F_mean_by.kp T.B_mean_by .nil aH (aa (vr 0) (aa (vr 1) ae))) (aa (au G_mean_by hr rfl T.m_mean_by T.F_mean_by.kp T.B_mean_by .nil aH (aa (vr 0) (aa (vr 3) ae))) (aa (vr 1) (aa (vr 3) ae)))))))))))),?_⟩
    have sl:sizeLine = 16777216:=sizeLine_eq
    have xl:=ha.xl
    have l24:=ha.len
    refine ⟨l,xs,zs,rfl,ha,fun H1 s1=>?_⟩
    have ha1:=ha.same s1
    refine .inl ⟨⟨_,SqL.of ha1.at_⟩,fun D hD=>?_⟩
    refine br (K:=K) (a:=l) (xs:=xs) (fun j ys H2=>j≤xs.length∧Same H1 H2∧H2 D = some (.lst ys)∧ys = ((zs.take j).map fun z=>decide (wS z.2.2.2 = "no")).map V.bl) ⟨Nat.zero_le _,Same.new hD,ac,rfl⟩ (fun j ys H2 h'=>SqL.of (h'.2.1 _ _ ha1.at_)) (fun j ys H2 h'=>h'.2.2.1) ?_ ?_
    · rintro j x ys H2 P' hx ⟨hj,s2,hD2,rfl⟩ hP
      obtain ⟨z,hz,hA⟩:=eF ha1.all hx
      have hlt:j < xs.length:=(List.getElem?_eq_some_iff.mp hx).1
      obtain ⟨pz,rfl,hpz⟩:=hA.same s2
      refine ⟨pz,_,rfl,SqT.of hpz,rfl,_,_,rfl,_,_,rfl,_,_,rfl,_,_,rfl,rfl,trivial,hD2,?_,hP _ _ ⟨by omega,s2.put hD,ac,?_⟩⟩
      · rw [List.length_map,List.length_map,List.length_take]; omega
      · rw [bT hz,List.map_append]; rfl
    rintro ys H2 ⟨_,s2,hD2,rfl⟩
    rw [xl,List.take_of_length_le (Nat.le_refl _)] at hD2
    refine ⟨D,_,_,rfl,SqL.of hD2,rfl,?_⟩
    have s02:=s1.trans s2
    cases hc:(zs.map fun z=>decide (wS z.2.2.2 = "no")).all id with
    | true=>exact q0 (all_no.mp hc) _ s02.t (hT.same s02)
    | false =>
      have hS:jl zs:=Classical.byContradiction fun h=>by rw [all_no.mpr h] at hc; cases hc
      have F1:=lQ ha.ok hS
      have F2:=pX ha.ok hS
      refine ⟨l,xs,zs,rfl,ha.same s02,hT.same s02,fun H3 pl t3 hT3 fpl hpl=>?_⟩
      have t03:=s02.t.trans t3
      have ha3:=ha.t t03
      refine .inl ⟨⟨_,SqL.of ha3.at_⟩,fun D2 hD2'=>?_⟩
      refine br (K:=K) (a:=l) (xs:=xs) (fun j ys H4=>j≤xs.length∧Same H3 H4∧H4 D2 = some (.lst ys)∧AllA H4 ((zs.take j).map bG) ys) ⟨Nat.zero_le _,Same.new hD2',ac,.nil⟩ (fun j ys H4 h'=>SqL.of (h'.2.1 _ _ ha3.at_)) (fun j ys H4 h'=>h'.2.2.1) ?_ ?_
      · rintro j x ys H4 P' hx ⟨hj,s4,hD4,hal⟩ hP
        obtain ⟨z,hz,hA⟩:=eF ha3.all hx
        have hlt:j < xs.length:=(List.getElem?_eq_some_iff.mp hx).1
        obtain ⟨pz,rfl,hpz⟩:=hA.same s4
        have yl:ys.length = ((zs.take j).map bG).length:=(Paired.length hal).symm
        rw [List.length_map,List.length_take] at yl
        refine ⟨pz,_,rfl,SqT.of hpz,rfl,_,_,rfl,_,_,rfl,_,_,rfl,_,_,rfl,rfl,trivial,?_⟩
        refine ⟨(by decide:4≤sizeLine),fun p5 hp5=>?_⟩
        have s5:=Same.new (o:=.tup (xR (bG z))) hp5
        have hD5:=s5 _ _ hD4
        refine ⟨hD5,by omega,hP _ _ ⟨by omega,(s4.trans s5).put hD2',ac,?_⟩⟩
        rw [bT hz]
        exact AllA.snoc ⟨p5,rfl,(eQ hD5) _ _ ac⟩ ((hal.same s5).tu (eQ hD5))
      rintro ys H4 ⟨_,s4,hD4,hal⟩
      rw [xl,List.take_of_length_le (Nat.le_refl _)] at hal
      have at4:Ans H4 D2 ys (zs.map bG):=⟨hD4,hal,by rw [List.length_map]; exact l24,kW ha.ok⟩
      have hT4:=hT3.same s4
      refine ⟨D2,ys,zs.map bG,rfl,at4,hT4,fun H5 p2 t5 hT5 fp2 hp2=>?_⟩
      have flen:(dW (zs.map bG)).length = zs.length:=by rw [(gI (zs.map bG)).len,List.length_map]
      refine .inl ⟨⟨_,SqL.of hp2⟩,fun D3 hD3=>?_⟩
      refine br (K:=K) (a:=p2) (xs:=(dW (zs.map bG)).map oV) (fun j ys H6=>j≤(dW (zs.map bG)).length∧Same H5 H6∧H6 D3 = some (.lst ys)∧ys = (((dW (zs.map bG)).take j).map neg).map oV) ⟨Nat.zero_le _,Same.new hD3,ac,rfl⟩ (fun j ys H6 h'=>SqL.of (h'.2.1 _ _ hp2)) (fun j ys H6 h'=>h'.2.2.1) ?_ ?_
      · rintro j x ys H6 P' hx ⟨hj,s6,hD6,rfl⟩ hP
        obtain ⟨o,ho,rfl⟩:∃ o,(dW (zs.map bG))[j]? = some o∧x = oV o:=by
          rw [List.getElem?_map] at hx
          cases hc:(dW (zs.map bG))[j]? with
          | none=>rw [hc] at hx; cases hx
          | some z=>rw [hc] at hx; cases hx; exact ⟨z,rfl,rfl⟩
        have hlt:j < (dW (zs.map bG)).length:=(List.getElem?_eq_some_iff.mp ho).1
        have zl:((((dW (zs.map bG)).take j).map neg).map oV).length < sizeLine:=by rw [List.length_map,List.length_map,List.length_take]; omega
        have fin:=hP _ _ ⟨show j + 1≤_ from hlt,s6.put hD3,ac,by rw [bT ho,List.map_append]; try rfl⟩
        cases o with
        | none=>exact ⟨trivial,hD6,zl,fin⟩
        | some v=>exact ⟨trivial,hD6,zl,fin⟩
      rintro ys' H6 ⟨_,s6,hD6,rfl⟩
      rw [List.length_map,List.take_of_length_le (Nat.le_refl _)] at hD6
      have hD6':H6 D3 = some (.lst ((highs zs).map oV)):=hD6
      clear hD6
      have t36:SameT H3 H6:=(s4.t.trans t5).trans s6.t
      have t06:=t03.trans t36
      have hpl6:=t36.at hpl
      have ha6:=ha.t t06
      have hT6:=hT5.same s6
      have ne:pl≠D3:=ay ((s4.t.trans t5).at hpl) hD3
      have fD3:H D3 = none:=(t03.trans (s4.t.trans t5)).free hD3
      have fpl0:H pl = none:=s02.free fpl
      obtain ⟨hl1,hl2⟩:=qj ha.ok
      have fl1:Fl H6 pl zs (dW zs):=⟨hpl6,(gI zs).len,(gI zs).fb ha.ok⟩
      have fl2:Fl H6 D3 zs (highs zs):=⟨hD6',hl1,hl2⟩
      refine ⟨l,pl,xs,zs,_,rfl,ha6,fl1,F1.pos,fun H7 m1 s7 hm1=>?_⟩
      refine ⟨l,D3,xs,zs,_,rfl,ha6.same s7,fl2.same s7,F2.pos,fun H8 m2 s8 hm2=>?_⟩
      refine ⟨(by decide:4≤sizeLine),fun t ht=>?_⟩
      have s9:=Same.new (o:=.tup [.ref m1,.ref m2,.ref pl,.ref D3]) ht
      have s69:=(s7.trans s8).trans s9
      exact q hS _ t m1 m2 pl D3 (t06.trans s69.t) (hT6.same s69) ⟨ac,(s8.trans s9) _ _ hm1,s9 _ _ hm2,s69 _ _ hpl6,s69 _ _ hD6',ne,fpl0,fD3⟩
end
end Wd
end My
namespace My
open PySem L2 FrM Led
def jk (a:Ad) (H:Hp) (Q:VK) (E:XK) (b:Bool) (c:Addr):Prop:=(b = true→∀ v H',SameT H H'→TabsOk (tabs a) H'→Q v H')∧(b = false→∀ H',SameT H H'→TabsOk (tabs a) H'→E (.ref c) none H')
def rD (a:Ad):Sp:=fun vs H Q E=>∃ (xr xc xu:V) (dr dc du:Td),vs = [xr,xc,xu]∧Is H dr xr∧Is H dc xc∧Is H du xu∧TabsOk (tabs a) H∧jk a H Q E (inB dr dc du) a.c_NoBounds
def lT (a:Ad):Sp:=fun vs H Q E=>∃ (xr xc xu t:V) (dr dc du:Td),vs = [xr,xc,xu,t]∧Is H dr xr∧Is H dc xc∧Is H du xu∧Is H (.tup [.str "weights",.lst []]) t∧(inB dr dc du = true→ig du≠0)∧TabsOk (tabs a) H∧jk a H Q E (inB dr dc du) a.c_NoBounds
def qu (a:Ad):Sp:=fun vs H Q E=>∃ (x:V) (d:Td),vs = [x]∧Is H d x∧TabsOk (tabs a) H∧jk a H Q E (aF 24 cz d) a.c_NoAnswers
def oU (a:Ad):Sp:=fun vs H Q E=>∃ (x:V) (d:Td),vs = [x]∧Is H d x∧TabsOk (tabs a) H∧jk a H Q E (aF 24 bu d) a.c_NoAnswers
def sP:Sp:=fun vs H Q _=>∃ (x y:V) (lu lw:Addr) (xs:List V),vs = [x,y,.ref lu,.ref lw]∧H lu = some (.lst xs)∧H lw = some (.lst [])∧xs.length≠0∧Q (.bl false) H
def oy:Sp:=fun _ _ _ _=>False
section
variable {P:Program} {w:World} {K:PySem.W.Frag} {mg:Str→Option Value} {base:Heap} {a:Ad}
theorem tw (T:Txt K mg a) (hB:Bm mg base):FnOk P w K mg base (CXG P w) 6 a.f_led a.d_led ["rows", "columns", "units"] (fun vs H Q E=>∃ (xr xc xu:V) (dr dc du:Td),vs = [xr,xc,xu]∧Is H dr xr∧Is H dc xc∧Is H du xu∧TabsOk (tabs a) H∧inB dr dc du = false∧jk a H Q E false a.c_NoBounds):=by
  have G_need_bounds:FnOk P w K mg base (CXG P w) 5 _ _ _ (kO a):=jj T hB
  refine T.F_led.okG sc_led (fun vs H Q E h=>?_) (fun cdv A outer s H vs Q E hr h=>?_)
  · obtain ⟨xr,xc,xu,dr,dc,du,rfl,_⟩:=h; rfl
  · obtain ⟨xr,xc,xu,dr,dc,du,rfl,h1,h2,h3,hT,g,_,e⟩:=h
    refine ⟨_,(am (cQ (au G_need_bounds hr rfl T.m_need_bounds T.F_need_bounds.kp T.B_need_bounds .nil oE (aa (vr 0) (aa (vr 1) (aa (vr 2) ae))))) fQ),?_⟩
    exact ⟨xr,xc,xu,dr,dc,du,rfl,h1,h2,h3,hT,fun z=>(by rw [g] at z; cases z),fun _=>e rfl⟩
theorem uO (T:Txt K mg a) (hB:Bm mg base):FnOk P w K mg base (CXG P w) 6 a.f_led a.d_led ["rows", "columns", "units"] (rD a):=by
  refine ((upG (xf T hB)).or ((tw T hB).mono (by decide))).imp fun vs H Q E h=>?_
  obtain ⟨xr,xc,xu,dr,dc,du,rfl,h1,h2,h3,hT,q⟩:=h
  cases g:inB dr dc du with
  | true =>
    rw [g] at q
    obtain ⟨lr,lc,lu,rows,cols,us,xs,rfl,rfl,rfl,hI,_⟩:=vK h1 h2 h3 g
    exact .inl ⟨lr,lc,lu,rows,cols,us,xs,rfl,hI,hT,fun x H' t' hT' _=>q.1 rfl _ _ t' hT'⟩
  | false =>
    rw [g] at q
    exact .inr ⟨xr,xc,xu,dr,dc,du,rfl,h1,h2,h3,hT,g,q⟩
theorem uh (T:Txt K mg a):FnOk P w K mg base CX0 1 a.f_are_led a.d_are_led ["rows", "columns", "units", "weights"] sP:=by
  refine T.F_are_led.ok mZ (fun vs H Q E h=>?_) (fun cdv A outer s H vs Q E hr h=>?_)
  · obtain ⟨x,y,lu,lw,xs,rfl,_⟩:=h; rfl
  · obtain ⟨x,y,lu,lw,xs,rfl,hu,hw,hn,q⟩:=h
    refine ⟨_,(am (cX (bh xB (av aU rfl T.z_len ci (aa (vr 3) ae)) (av aU rfl T.z_len ci (aa (vr 2) ae)) (aD _)) (ap (aG gW)) bC) fQ),?_⟩
    refine ⟨_,.inl (SqL.of hw),⟨_,.inl (SqL.of hu),?_⟩⟩
    have e:(!decide (((([]:List V).length:Nat):Int) = (xs.length:Nat))) = true:=by
      rw [decide_eq_false (by show ¬ ((0:Nat):Int) = (xs.length:Nat); omega)]; rfl
    exact (if_pos e).mpr q
theorem pq (T:Txt K mg a):FnOk P w K mg base CX0 1 a.f_shows_none a.d_shows_none ["rows", "columns", "units", "told"] oy:=by
  refine T.F_shows_none.ok jW (fun vs H Q E h=>False.elim h) (fun cdv A outer s H vs Q E hr h=>False.elim h)
theorem pj (T:Txt K mg a) (hB:Bm mg base):FnOk P w K mg base (CXG P w) 6 a.f_is_led a.d_is_led ["rows", "columns", "units", "told"] (lT a):=by
  have G_need_bounds:FnOk P w K mg base (CXG P w) 5 _ _ _ (kO a):=jj T hB
  have G_are_led:FnOk P w K mg base CX0 5 _ _ _ sP:=(uh T).mono (by decide)
  have G_shows_none:FnOk P w K mg base CX0 5 _ _ _ oy:=(pq T).mono (by decide)
  refine T.F_is_led.okG pi (fun vs H Q E h=>?_) (fun cdv A outer s H vs Q E hr h=>?_)
  · obtain ⟨xr,xc,xu,t,dr,dc,du,rfl,_⟩:=h; rfl
  · obtain ⟨xr,xc,xu,t,dr,dc,du,rfl,h1,h2,h3,ht,hn,hT,q,e⟩:=h
    refine ⟨_,(am (cQ (au G_need_bounds hr rfl T.m_need_bounds T.F_need_bounds.kp T.B_need_bounds .nil oE (aa (vr 0) (aa (vr 1) (aa (vr 2) ae))))) (am (cX (bh ej (aI aC (vr 3) af (fun _ _=>rfl)) dI (aD _)) (ap (aG (au G_are_led hr rfl T.m_are_led T.F_are_led.kp T.B_are_led .nil aH (aa (vr 0) (aa (vr 1) (aa (vr 2) (aa (aI aC (vr 3) af (fun _ _=>rfl)) ae))))))) bC) (ap (aG (au G_shows_none hr rfl T.m_shows_none T.F_shows_none.kp T.B_shows_none .nil aH (aa (vr 0) (aa (vr 1) (aa (vr 2) (aa (vr 3) ae))))))))),?_⟩
    refine ⟨xr,xc,xu,dr,dc,du,rfl,h1,h2,h3,hT,fun g H1 t1 hT1=>?_,e⟩
    obtain ⟨p,ys,rfl,hp,hi⟩:=is_tup.mp (ht.t t1)
    obtain ⟨y1,_,rfl,i1,hi⟩:=iss_c.mp hi
    obtain ⟨y2,_,rfl,i2,hi⟩:=iss_c.mp hi
    obtain rfl:=iss_n.mp hi
    rw [Is] at i1
    subst i1
    obtain ⟨lw,zs,rfl,hw,hz⟩:=is_lst.mp i2
    obtain rfl:=iss_n.mp hz
    obtain ⟨lr,lc,lu,rows,cols,us,xs,rfl,rfl,rfl,hI,hl⟩:=vK h1 h2 h3 g
    have xl:us.length = xs.length:=Paired.length hI.all
    refine .inr (.inl ⟨p,_,_,_,rfl,rfl,SqT.of hp,ar 0 rfl rfl,?_⟩)
    refine .inr (.inl ⟨p,_,_,_,rfl,rfl,SqT.of hp,ar 1 rfl rfl,?_⟩)
    exact ⟨_,_,lu,lw,xs,rfl,t1.at hI.u,hw,(by have:=hn g; omega),q g _ _ t1 hT1⟩
theorem ut (T:Txt K mg a):FnOk P w K mg base (CXG P w) 7 a.f_total_stretch a.d_total_stretch ["answers"] (fun vs H Q E=>∃ (x:V) (d:Td),vs = [x]∧Is H d x∧TabsOk (tabs a) H∧aF 24 cz d = false∧jk a H Q E false a.c_NoAnswers):=by
  have G_need_answers:FnOk P w K mg base (CXG P w) 6 _ _ _ (iU a a.f_is_answer cz):=lP T
  refine T.F_total_stretch.okG sc_total_stretch (fun vs H Q E h=>?_) (fun cdv A outer s H vs Q E hr h=>?_)
  · obtain ⟨x,d,rfl,_⟩:=h; rfl
  · obtain ⟨x,d,rfl,hd,hT,g,_,e⟩:=h
    refine ⟨_,(am (cQ (au G_need_answers hr rfl T.m_need_answers T.F_need_answers.kp T.B_need_answers .nil oE (aa (vr 0) (aa (cD (v:=.ref a.f_is_answer) rfl ⟨_,T.m_is_answer,rfl⟩) ae)))) fQ),?_⟩
    exact ⟨x,d,rfl,hd,fun z=>(by rw [g] at z; cases z),fun _ H' s'=>e rfl _ s'.t (hT.same s')⟩
theorem vm (T:Txt K mg a):FnOk P w K mg base (CXG P w) 7 a.f_total_stretch a.d_total_stretch ["answers"] (qu a):=by
  refine ((upG (Th.ok_stretch T)).or (ut T)).imp fun vs H Q E h=>?_
  obtain ⟨x,d,rfl,hd,hT,q⟩:=h
  cases g:aF 24 cz d with
  | true =>
    rw [g] at q
    obtain ⟨l,xs,zs,rfl,ha⟩:=Th.ans_of hd g
    exact .inl ⟨l,xs,zs,rfl,ha,fun H' t pl ph s' _=>q.1 rfl _ _ s'.t (hT.same s')⟩
  | false =>
    rw [g] at q
    exact .inr ⟨x,d,rfl,hd,hT,g,q⟩
theorem sU (T:Txt K mg a):FnOk P w K mg base (CXG P w) 7 a.f_mean_stretch a.d_mean_stretch ["answers"] (fun vs H Q E=>∃ (x:V) (d:Td),vs = [x]∧Is H d x∧TabsOk (tabs a) H∧aF 24 bu d = false∧jk a H Q E false a.c_NoAnswers):=by
  have G_need_answers:FnOk P w K mg base (CXG P w) 6 _ _ _ (iU a a.f_is_worded_answer bu):=mH T
  refine T.F_mean_stretch.okG sc_mean_stretch (fun vs H Q E h=>?_) (fun cdv A outer s H vs Q E hr h=>?_)
  · obtain ⟨x,d,rfl,_⟩:=h; rfl
  · obtain ⟨x,d,rfl,hd,hT,g,_,e⟩:=h
    refine ⟨_,(am (cQ (au G_need_answers hr rfl T.m_need_answers T.F_need_answers.kp T.B_need_answers .nil oE (aa (vr 0) (aa (cD (v:=.ref a.f_is_worded_answer) rfl ⟨_,T.m_is_worded_answer,rfl⟩) ae)))) fQ),?_⟩
    exact ⟨x,d,rfl,hd,fun z=>(by rw [g] at z; cases z),fun _ H' s'=>e rfl _ s'.t (hT.same s')⟩
theorem rC (T:Txt K mg a) (hB:Bm mg base):FnOk P w K mg base (CXG P w) 7 a.f_mean_stretch a.d_mean_stretch ["answers"] (oU a):=by
  refine ((upG (Wd.ok_stretch T hB)).or (sU T)).imp fun vs H Q E h=>?_
  obtain ⟨x,d,rfl,hd,hT,q⟩:=h
  cases g:aF 24 bu d with
  | true =>
    rw [g] at q
    obtain ⟨l,xs,zs,rfl,ha⟩:=Wd.ans_of hd g
    exact .inl ⟨l,xs,zs,rfl,ha,hT,fun _ H' t' hT'=>q.1 rfl _ _ t' hT',fun _ H' t p1 p2 pl ph t' hT' _=>q.1 rfl _ _ t' hT'⟩
  | false =>
    rw [g] at q
    exact .inr ⟨x,d,rfl,hd,hT,g,q⟩
end
end My
namespace My
open PySem L2 FrM Led
inductive Req:Int→List Td→Bool→Prop
  | l0 (r c u:Td):Req 0 [r,c,u] (inB r c u)
  | l1 (r c u:Td) (h:inB r c u = true→ig u≠0):Req 1 [r,c,u] (inB r c u)
  | t (d:Td):Req 2 [d] (aF 24 cz d)
  | m (d:Td):Req 3 [d] (aF 24 bu d)
def lV (way:Int) (b:Bool):List V:=if b then [] else [.bl (decide (way < 2)),.bl (!decide (way < 2))]
def qD (a:Ad):Sp:=fun vs H Q _=>∃ (way:Int) (L:Addr) (xs:List V) (ds:List Td) (b:Bool),vs = [.int way,.ref L]∧H L = some (.lst xs)∧Iss H ds xs∧TabsOk (tabs a) H∧Req way ds b∧∀ H' l,SameT H H'→TabsOk (tabs a) H'→H' l = some (.lst (lV way b))→Q (.ref l) H'
section
variable {P:Program} {w:World} {K:PySem.W.Frag} {mg:Str→Option Value} {base:Heap} {a:Ad}
theorem tP (T:Txt K mg a) (hB:Bm mg base):FnOk P w K mg base CX0 8 a.f_L_kind a.d_L_kind ["_law_way", "_law_things"] (qD a):=by
  have G_led:FnOk P w K mg base (CXG P w) 7 _ _ _ (rD a):=(uO T hB).mono (by decide)
  have G_is_led:FnOk P w K mg base (CXG P w) 7 _ _ _ (lT a):=(pj T hB).mono (by decide)
  have G_total_stretch:FnOk P w K mg base (CXG P w) 7 _ _ _ (qu a):=vm T
  have G_mean_stretch:FnOk P w K mg base (CXG P w) 7 _ _ _ (oU a):=rC T hB
  refine T.F_L_kind.ok sc_L_kind (fun vs H Q E h=>?_) (fun cdv A outer s H vs Q E hr h=>?_)
  · obtain ⟨way,L,xs,ds,b,rfl,_⟩:=h; rfl
  · obtain ⟨way,L,xs,ds,b,rfl,hL,hi,hT,hR,q⟩:=h
    refine ⟨_,(am (bg (i:=2) sc_L_kind.nd rfl (Or.inl rfl) (dN ae)) (am (uW ⟨rfl,rfl⟩ (gp (nz (bh ej (vr 0) af (aD _)) (gp (g8 (jd G_led hr rfl T.m_led T.F_led.kp T.B_led .nil (aa (aI aC (vr 1) af (fun _ _=>rfl)) (aa (aI aC (vr 1) af (fun _ _=>rfl)) (aa (aI aC (vr 1) af (fun _ _=>rfl)) ae)))))) (gp (nz (bh ej (vr 0) af (aD _)) (gp (g8 (jd G_is_led hr rfl T.m_is_led T.F_is_led.kp T.B_is_led .nil (aa (aI aC (vr 1) af (fun _ _=>rfl)) (aa (aI aC (vr 1) af (fun _ _=>rfl)) (aa (aI aC (vr 1) af (fun _ _=>rfl)) (aa (ip 6 (d:=(.tup [(.str "weights"),(.lst [])])) (by decide +kernel)) ae))))))) (gp (nz (bh ej (vr 0) af (aD _)) (gp (g8 (jd G_total_stretch hr rfl T.m_total_stretch T.F_total_stretch.kp T.B_total_stretch .nil (aa (aI aC (vr 1) af (fun _ _=>rfl)) ae)))) (gp (g8 (jd G_mean_stretch hr rfl T.m_mean_stretch T.F_mean_stretch.kp T.B_mean_stretch .nil (aa (aI aC (vr 1) af (fun _ _=>rfl)) ae)))))))))) (yr ⟨rfl,rfl⟩ rfl T.mc_SpeakError T.xh_SpeakError sc_L_kind.nd (ie:=3) rfl rfl (fun x=>(ap (bg (i:=2) sc_L_kind.nd rfl (Or.inl rfl) (dN (aa (av (j9 (K:=K) rfl) rfl T.z_isinstance aN (aa (vr 3) (aa (cD rfl T.g_NoBounds) ae))) (aa (av (j9 (K:=K) rfl) rfl T.z_isinstance aN (aa (vr 3) (aa (cD rfl T.g_NoAnswers) ae))) ae)))))) wo)) (ap (aG (vr 2))))),?_⟩
    have sl:sizeLine = 16777216:=sizeLine_eq
    refine ⟨(by decide:0≤sizeLine),fun l0 hl0=>?_⟩
    have s0:=Same.new (o:=.lst []) hl0
    have u0:=ac (H:=H) (a:=l0) (o:=.lst [])
    generalize upd H l0 (.lst []) = H0 at s0 u0
    have hL0:=s0 _ _ hL
    have hi0:=hi.same s0
    have hT0:=hT.same s0
    cases hR with
    | l0 r c u =>
      obtain ⟨x1,x2,x3,y1,y2,y3,e0,rfl,i1,i2,i3⟩:=qQ hi0 rfl
      cases e0
      refine .inl ⟨L,_,_,_,rfl,rfl,SqL.of hL0,ar 0 rfl rfl,?_⟩
      refine .inl ⟨L,_,_,_,rfl,rfl,SqL.of hL0,ar 1 rfl rfl,?_⟩
      refine .inl ⟨L,_,_,_,rfl,rfl,SqL.of hL0,ar 2 rfl rfl,?_⟩
      refine ⟨y1,y2,y3,r,c,u,rfl,i1,i2,i3,hT0,fun g v H1 t1 hT1=>?_,fun g H1 t1 hT1=>?_⟩
      · refine q _ l0 (s0.t.trans t1) hT1 ?_
        rw [g]
        exact t1.at u0
      · skip
        refine ⟨_,rfl,fun y hy=>.inl ⟨T.tn,?_⟩⟩
        have sx:=Same.new (o:=.ext (XCt y a.c_NoBounds none)) hy
        have ty:∀ H',Same (upd H1 y (.ext (XCt y a.c_NoBounds none))) H'→TyX K H' (.ref y) (.ref a.c_NoBounds):=fun H' e=>.inr ⟨y,_,_,rfl,rfl,T.xc_NoBounds,e _ _ ac,fun _ z=>XCt.at z⟩
        refine ⟨_,_,_,_,rfl,rfl,ty _ (Same.refl _),T.k1,?_⟩
        refine ⟨_,_,_,_,rfl,rfl,ty _ (Same.refl _),T.k2,?_⟩
        refine ⟨(by decide:2≤sizeLine),fun l hl=>?_⟩
        have s2:=Same.new (o:=.lst [.bl true,.bl false]) hl
        refine q _ l (s0.t.trans (t1.trans (sx.trans s2).t)) ((hT1.same sx).same s2) ?_
        rw [g]
        exact ac
    | l1 r c u hn =>
      obtain ⟨x1,x2,x3,y1,y2,y3,e0,rfl,i1,i2,i3⟩:=qQ hi0 rfl
      cases e0
      refine .inl ⟨L,_,_,_,rfl,rfl,SqL.of hL0,ar 0 rfl rfl,?_⟩
      refine .inl ⟨L,_,_,_,rfl,rfl,SqL.of hL0,ar 1 rfl rfl,?_⟩
      refine .inl ⟨L,_,_,_,rfl,rfl,SqL.of hL0,ar 2 rfl rfl,?_⟩
      intro Hq tq sq iq
      have hT1:=hT0.same sq
      refine ⟨y1,y2,y3,tq,r,c,u,rfl,i1.same sq,i2.same sq,i3.same sq,iq.nw,hn,hT1,fun g v H1 t1' hT1=>?_,fun g H1 t1' hT1=>?_⟩
      all_goals have t1:=sq.t.trans t1'
      · refine q _ l0 (s0.t.trans t1) hT1 ?_
        rw [g]
        exact t1.at u0
      · skip
        refine ⟨_,rfl,fun y hy=>.inl ⟨T.tn,?_⟩⟩
        have sx:=Same.new (o:=.ext (XCt y a.c_NoBounds none)) hy
        have ty:∀ H',Same (upd H1 y (.ext (XCt y a.c_NoBounds none))) H'→TyX K H' (.ref y) (.ref a.c_NoBounds):=fun H' e=>.inr ⟨y,_,_,rfl,rfl,T.xc_NoBounds,e _ _ ac,fun _ z=>XCt.at z⟩
        refine ⟨_,_,_,_,rfl,rfl,ty _ (Same.refl _),T.k1,?_⟩
        refine ⟨_,_,_,_,rfl,rfl,ty _ (Same.refl _),T.k2,?_⟩
        refine ⟨(by decide:2≤sizeLine),fun l hl=>?_⟩
        have s2:=Same.new (o:=.lst [.bl true,.bl false]) hl
        refine q _ l (s0.t.trans (t1.trans (sx.trans s2).t)) ((hT1.same sx).same s2) ?_
        rw [g]
        exact ac
    | t d =>
      obtain ⟨y1,_,rfl,i1,hi1⟩:=iss_c.mp hi0
      obtain rfl:=iss_n.mp hi1
      refine .inl ⟨L,_,_,_,rfl,rfl,SqL.of hL0,ar 0 rfl rfl,?_⟩
      refine ⟨y1,d,rfl,i1,hT0,fun g v H1 t1 hT1=>?_,fun g H1 t1 hT1=>?_⟩
      · refine q _ l0 (s0.t.trans t1) hT1 ?_
        rw [g]
        exact t1.at u0
      · skip
        refine ⟨_,rfl,fun y hy=>.inl ⟨T.ta,?_⟩⟩
        have sx:=Same.new (o:=.ext (XCt y a.c_NoAnswers none)) hy
        have ty:∀ H',Same (upd H1 y (.ext (XCt y a.c_NoAnswers none))) H'→TyX K H' (.ref y) (.ref a.c_NoAnswers):=fun H' e=>.inr ⟨y,_,_,rfl,rfl,T.xc_NoAnswers,e _ _ ac,fun _ z=>XCt.at z⟩
        refine ⟨_,_,_,_,rfl,rfl,ty _ (Same.refl _),T.k3,?_⟩
        refine ⟨_,_,_,_,rfl,rfl,ty _ (Same.refl _),T.k4,?_⟩
        refine ⟨(by decide:2≤sizeLine),fun l hl=>?_⟩
        have s2:=Same.new (o:=.lst [.bl false,.bl true]) hl
        refine q _ l (s0.t.trans (t1.trans (sx.trans s2).t)) ((hT1.same sx).same s2) ?_
        rw [g]
        exact ac
    | m d =>
      obtain ⟨y1,_,rfl,i1,hi1⟩:=iss_c.mp hi0
      obtain rfl:=iss_n.mp hi1
      refine .inl ⟨L,_,_,_,rfl,rfl,SqL.of hL0,ar 0 rfl rfl,?_⟩
      refine ⟨y1,d,rfl,i1,hT0,fun g v H1 t1 hT1=>?_,fun g H1 t1 hT1=>?_⟩
      · refine q _ l0 (s0.t.trans t1) hT1 ?_
        rw [g]
        exact t1.at u0
      · skip
        refine ⟨_,rfl,fun y hy=>.inl ⟨T.ta,?_⟩⟩
        have sx:=Same.new (o:=.ext (XCt y a.c_NoAnswers none)) hy
        have ty:∀ H',Same (upd H1 y (.ext (XCt y a.c_NoAnswers none))) H'→TyX K H' (.ref y) (.ref a.c_NoAnswers):=fun H' e=>.inr ⟨y,_,_,rfl,rfl,T.xc_NoAnswers,e _ _ ac,fun _ z=>XCt.at z⟩
        refine ⟨_,_,_,_,rfl,rfl,ty _ (Same.refl _),T.k3,?_⟩
        refine ⟨_,_,_,_,rfl,rfl,ty _ (Same.refl _),T.k4,?_⟩
        refine ⟨(by decide:2≤sizeLine),fun l hl=>?_⟩
        have s2:=Same.new (o:=.lst [.bl false,.bl true]) hl
        refine q _ l (s0.t.trans (t1.trans (sx.trans s2).t)) ((hT1.same sx).same s2) ?_
        rw [g]
        exact ac
end
end My
namespace My
open PySem L2 FrM Led
def zu (pl:Int) (d:Td):Prop:=(pl < 2→aF 6 dy d = false)∧(pl = 2→∀ m p,aF m p d = false)
def rS:Sp:=fun vs H Q _=>∃ (c pl:Int),vs = [.int c,.int pl]∧0≤pl∧pl≤2∧∀ H' v d,Same H H'→Is (nw H H') d v→zu pl d→Q v H'
def sv:Sp:=fun vs H Q _=>∃ (c:Int),vs = [.int c]∧∀ H' v d,Same H H'→Is (nw H H') d v→bU 2 2 d = false→Q v H'
def qW:Sp:=fun vs H Q _=>∃ (c way:Int),vs = [.int c,.int way]∧(way = 2∨way = 3)∧∀ H' v d,Same H H'→Is (nw H H') d v→(way = 2→cz d = false)→(way = 3→bu d = false)→Q v H'
theorem gt {H0 H:Hp} {Q:VK} {D1 D2:List Td} {v1 v2:V} (s0:Same H0 H) (i1:Is (nw H0 H) (.lst D1) v1) (i2:Is (nw H0 H) (.lst D2) v2) (hz:D1.length + D2.length≤1000) (q:∀ H' v,Same H H'→Is (nw H0 H') (.lst (D1 ++ D2)) v→Q v H'):rCat v1 v2 H Q:=by
  have sl:sizeLine = 16777216:=sizeLine_eq
  obtain ⟨l1,xs1,rfl,h1,j1⟩:=is_lst.mp i1
  obtain ⟨l2,xs2,rfl,h2,j2⟩:=is_lst.mp i2
  refine ⟨l1,l2,xs1,xs2,rfl,rfl,(dR h1).2,(dR h2).2,by rw [j1.len,j2.len]; omega,fun p hp=>?_⟩
  have s:=Same.new (o:=.lst (xs1 ++ xs2)) hp
  exact q _ _ s (is_lst.mpr ⟨p,_,rfl,gh (s0.free hp) ac,(j1.app j2).k (js (Same.refl _) s)⟩)
theorem kF {H0 H:Hp} {DS:List Td} {v:V} (h:Is (nw H0 H) (.lst DS) v) {i:Int} (h0:0≤i) (h1:i < DS.length):∃ l xs x d,v = .ref l∧H l = some (.lst xs)∧atI xs i = some x∧xs.length = DS.length∧d ∈ DS∧Is (nw H0 H) d x:=by
  obtain ⟨l,xs,rfl,hl,hi⟩:=is_lst.mp h
  have e:((i.toNat:Nat):Int) = i:=by omega
  have hlt:i.toNat < xs.length:=by rw [hi.len]; omega
  have hx:xs[i.toNat]? = some xs[i.toNat]:=List.getElem?_eq_getElem hlt
  obtain ⟨d,hd,hI⟩:=hi.get hx
  refine ⟨l,xs,_,d,rfl,(dR hl).2,?_,hi.len,List.mem_of_getElem? hd,hI⟩
  have:=cU hx
  rw [e] at this
  exact this
theorem eO {DS:List Td} {d:Td} {p:Td→Bool} (hd:d ∈ DS) (h:(DS.all fun z=>!p z) = true):p d = false:=by
  have:=List.all_eq_true.mp h d hd
  cases e:p d with
  | false=>rfl
  | true=>rw [e] at this; cases this
def y6:Td→Bool
  | .tup ds=>ds.isEmpty || decide (10 < ds.length)
  | _=>false
def yB:Td→Bool
  | .tup _=>true
  | _=>false
def xL:Td→Bool
  | .lst _=>true
  | _=>false
theorem wf {d:Td} (h:xL d = false) (m:Int) (p:Td→Bool):aF m p d = false:=by
  cases d with
  | lst _=>cases h
  | _=>rfl
theorem pk {ds:List Td} {x:Td} (h:cz (.tup ds) = false):bu (.tup (ds ++ [x])) = false:=by
  by_cases h3:ds.length = 3
  · match ds,h3 with
    | [d1,d2,d3],_ =>
      have h:eB d1 d2 d3 = false:=h
      show (if eB d1 d2 d3 = true then jy x else false) = false
      rw [h]; rfl
  · exact oO (by rw [List.length_append,List.length_singleton]; omega)
section
variable {P:Program} {w:World} {K:PySem.W.Frag} {mg:Str→Option Value} {base:Heap} {a:Ad}
theorem tE (T:Txt K mg a):FnOk P w K mg base CX0 1 a.f_L_bad_list a.d_L_bad_list ["_law_cell_here", "_law_place"] rS:=by
  refine T.F_L_bad_list.okQ sc_L_bad_list (fun vs H Q E h=>?_) (fun cdv A outer s H vs Q E hr h=>?_)
  · obtain ⟨c,pl,rfl,_⟩:=h; rfl
  · obtain ⟨c,pl,rfl,p0,p2,q⟩:=h
    refine ⟨_,(aL (bS (i:=2) sc_L_bad_list.nd rfl (Or.inl rfl) (aP 6 (d:=(.lst [.non,(.int 5),(.bl true),(.str "ab"),(.tup []),.dic,(.tup [(.int 1),(.int 2)])])) (by decide +kernel))) (aL (dH (bh lh (vr 1) af (aD _)) (aL (bS (i:=2) sc_L_bad_list.nd rfl (Or.inl rfl) (ft fk (aT (vr 2)) (aP 6 (d:=(.lst [(.lst [(.int 1),(.int 2),(.int 3),(.int 4),(.int 5),(.int 6),(.int 7)]),(.lst [(.int (-1)),(.int 1)]),(.lst [(.int 1),(.bl true)]),(.lst [.non,(.int 1)]),(.lst [(.str "1"),(.int 1)]),(.lst [(.int 24000001),(.int 1)])])) (by decide +kernel)))) (bD (bS (i:=2) sc_L_bad_list.nd rfl (Or.inl rfl) (ft fk (aT (vr 2)) (aP 6 (d:=(.lst [(.lst [(.int 1),(.lst [(.int 1)])]),(.lst [(.tup [(.int 1),(.int 1)]),(.int 1)])])) (by decide +kernel)))))) dB) (bD (cB (aT (aI aC (vr 2) (aB cK (vr 0) (av aU rfl T.z_len ci (aa (vr 2) ae))) (fun _ _=>rfl))))))),?_⟩
    intro H1 v1 s1 i1
    refine ifC (fun hc=>?_) fun hc=>?_
    · intro H2 v2 s2 i2
      refine gt (s1.trans s2) (i1.fw s2) (i2.bw s1) (by decide) fun H3 v3 s3 i3=>?_
      intro H4 v4 s4 i4
      refine gt (((s1.trans s2).trans s3).trans s4) (i3.fw s4) (i4.bw ((s1.trans s2).trans s3)) (by decide) fun H5 v5 s5 i5=>?_
      obtain ⟨l,xs,x,d,rfl,hl,ha,hn,hd,hI⟩:=kF i5 (i:=c % 15) (Int.emod_nonneg _ (by decide)) (Int.emod_lt_of_pos _ (by decide))
      refine ⟨_,.inl (SqL.of hl),?_⟩
      have e15:((xs.length:Nat):Int) = 15:=by rw [hn]; rfl
      rw [e15]
      refine ⟨cp,.inl ⟨l,_,_,_,rfl,rfl,SqL.of hl,ha,?_⟩⟩
      refine q _ _ d ((((s1.trans s2).trans s3).trans s4).trans s5) hI ⟨fun _=>eO hd (by decide +kernel),fun e=>absurd hc (by rw [e]; decide)⟩
    · obtain ⟨l,xs,x,d,rfl,hl,ha,hn,hd,hI⟩:=kF i1 (i:=c % 7) (Int.emod_nonneg _ (by decide)) (Int.emod_lt_of_pos _ (by decide))
      refine ⟨_,.inl (SqL.of hl),?_⟩
      have e7:((xs.length:Nat):Int) = 7:=by rw [hn]; rfl
      rw [e7]
      refine ⟨cp,.inl ⟨l,_,_,_,rfl,rfl,SqL.of hl,ha,?_⟩⟩
      refine q _ _ d s1 hI ⟨fun z=>absurd z hc,fun _=>wf (eO hd (by decide +kernel))⟩
theorem tI (T:Txt K mg a):FnOk P w K mg base CX0 1 a.f_L_bad_unit a.d_L_bad_unit ["_law_cell_here"] sv:=by
  refine T.F_L_bad_unit.okQ sc_L_bad_unit (fun vs H Q E h=>?_) (fun cdv A outer s H vs Q E hr h=>?_)
  · obtain ⟨c,rfl,_⟩:=h; rfl
  · obtain ⟨c,rfl,q⟩:=h
    refine ⟨_,(aL (bS (i:=1) sc_L_bad_unit.nd rfl (Or.inl rfl) (aP 6 (d:=(.lst [.non,(.tup [(.int 0),(.int 0),(.int 1)]),(.tup [(.int 0),(.int 0),(.int 1),(.int 1),(.int 1)]),(.lst [(.int 0),(.int 0),(.int 1),(.int 1)]),(.tup [(.int 2),(.int 0),(.int 1),(.int 1)]),(.tup [(.int 0),(.int 2),(.int 1),(.int 1)]),(.tup [(.int (-1)),(.int 0),(.int 1),(.int 1)]),(.tup [(.int 0),(.int (-1)),(.int 1),(.int 1)])])) (by decide +kernel))) (aL (bS (i:=1) sc_L_bad_unit.nd rfl (Or.inl rfl) (ft fk (aT (vr 1)) (aP 6 (d:=(.lst [(.tup [(.int 0),(.int 0),(.int 2),(.int 1)]),(.tup [(.int 0),(.int 0),(.int (-1)),(.int 1)]),(.tup [(.int 0),(.int 0),(.int 1),(.int 1000001)]),(.tup [(.int 0),(.int 0),(.bl true),(.int 1)]),(.tup [(.int 0),(.int 0),(.int 0),(.bl true)]),(.tup [(.bl true),(.int 0),(.int 1),(.int 1)])])) (by decide +kernel)))) (aL (bS (i:=1) sc_L_bad_unit.nd rfl (Or.inl rfl) (ft fk (aT (vr 1)) (aP 6 (d:=(.lst [(.tup [(.int 0),(.bl false),(.int 1),(.int 1)]),(.tup [(.int 0),(.int 0),.non,(.int 1)]),(.tup [(.int 0),(.int 0),(.str "1"),(.int 1)]),(.str "0011"),(.tup [(.int 0),(.int 0),(.int 1000001),(.int 1000001)]),(.tup [(.str "0"),(.int 0),(.int 1),(.int 1)])])) (by decide +kernel)))) (bD (cB (hZ aC (ft fk (aT (vr 1)) (aP 6 (d:=(.lst [(.tup [(.int 0),(.int 0),(.int (-2)),(.int (-1))]),(.tup [(.int 0),.non,(.int 1),(.int 1)])])) (by decide +kernel))) (aB cK (vr 0) af) (fun _ _=>rfl))))))),?_⟩
    intro H1 v1 s1 i1
    intro H2 v2 s2 i2
    refine gt (s1.trans s2) (i1.fw s2) (i2.bw s1) (by decide) fun H3 v3 s3 i3=>?_
    intro H4 v4 s4 i4
    refine gt (((s1.trans s2).trans s3).trans s4) (i3.fw s4) (i4.bw ((s1.trans s2).trans s3)) (by decide) fun H5 v5 s5 i5=>?_
    intro H6 v6 s6 i6
    refine gt (((((s1.trans s2).trans s3).trans s4).trans s5).trans s6) (i5.fw s6) (i6.bw ((((s1.trans s2).trans s3).trans s4).trans s5)) (by decide) fun H7 v7 s7 i7=>?_
    obtain ⟨l,xs,x,d,rfl,hl,ha,_,hd,hI⟩:=kF i7 (i:=c % 22) (Int.emod_nonneg _ (by decide)) (Int.emod_lt_of_pos _ (by decide))
    refine ⟨cp,.inl ⟨l,_,_,_,rfl,rfl,SqL.of hl,ha,?_⟩⟩
    refine q _ _ d ((((((s1.trans s2).trans s3).trans s4).trans s5).trans s6).trans s7) hI (eO hd (by decide +kernel))
theorem t9 (T:Txt K mg a):FnOk P w K mg base CX0 1 a.f_L_bad_answer a.d_L_bad_answer ["_law_cell_here", "_law_way"] qW:=by
  refine T.F_L_bad_answer.okQ sc_L_bad_answer (fun vs H Q E h=>?_) (fun cdv A outer s H vs Q E hr h=>?_)
  · obtain ⟨c,way,rfl,_⟩:=h; rfl
  · obtain ⟨c,way,rfl,hw,q⟩:=h
    refine ⟨_,(aL (bS (i:=2) sc_L_bad_answer.nd rfl (Or.inl rfl) (aP 6 (d:=(.lst [.non,(.tup [(.int 1),(.int 1)]),(.tup [(.int 1),(.int 2),(.int 1)]),(.tup [(.int 0),(.int 1),(.int 1)]),(.tup [(.int 1000001),(.int 1),(.int 1)]),(.tup [(.bl true),(.int 1),(.int 1)]),(.tup [(.int 1),(.bl true),(.int 1)]),(.tup [(.int 1),(.int 0),(.bl true)]),(.tup [(.int 1),.non,(.int 1)])])) (by decide +kernel))) (aL (bS (i:=2) sc_L_bad_answer.nd rfl (Or.inl rfl) (ft fk (aT (vr 2)) (aP 6 (d:=(.lst [(.tup [(.int 1),(.int (-1000000001)),(.int 1)]),(.tup [(.int 1),(.int 1),(.int 1000000001)]),(.tup [(.str "1"),(.int 1),(.int 1)]),(.tup [(.int 1),(.str "1"),(.int 1)]),(.tup [(.int 1),(.int 1),(.str "1")]),(.tup [(.int (-1)),(.int 1),(.int 1)])])) (by decide +kernel)))) (aL (bS (i:=2) sc_L_bad_answer.nd rfl (Or.inl rfl) (ft fk (aT (vr 2)) (aP 6 (d:=(.lst [(.lst [(.int 1),(.int 1),(.int 1)]),(.tup [(.int 1),(.int 1000000001),(.int 1000000001)]),(.tup [(.int 1),(.int (-1000000002)),(.int (-1000000001))])])) (by decide +kernel)))) (aL (bS (i:=3) sc_L_bad_answer.nd rfl (Or.inl rfl) (aT (aI aC (vr 2) (aB cK (vr 0) af) (fun _ _=>rfl)))) (aL (dH (bh ej (vr 1) af (aD _)) (bD (cB (hZ aC (bH (ax (aT (vr 3)) (ax (aP 6 (d:=(.tup [(.int 1),(.int 1),(.int 1),(.str "yes")])) (by decide +kernel)) bJ))) (df pA rfl T.z_int qw (aa (cM ej (aB cK (vr 0) af) af (aD _)) ae)) (fun _ _=>rfl)))) dB) (aL (dH (PW.pt (kY (gj (av cu rfl T.z_isinstance aN (aa (vr 3) (aa (cO (v:=.ty "tuple") rfl T.z_tuple gz rfl) ae)))) (lg (bh uS (aB cK (aB bQ (vr 0) af) af) af (aD _))))) (bD (cB (aT (aB oj (vr 3) (bX (aa (aI aC (ip 6 (d:=(.lst [(.str "yes"),(.str "no"),(.str "open")])) (by decide +kernel)) (aB cK (aB bQ (vr 0) af) af) (fun _ _=>rfl)) ae)))))) dB) (bD (cB (hZ aC (bH (ax (aT (vr 3)) (ax (aP 6 (d:=(.tup [(.int 1),(.int 1),(.int 1),(.str "Yes")])) (by decide +kernel)) (ax (aP 6 (d:=(.tup [(.int 1),(.int 1),(.int 1),(.str "")])) (by decide +kernel)) (ax (aP 6 (d:=(.tup [(.int 1),(.int 1),(.int 1),.non])) (by decide +kernel)) (ax (aP 6 (d:=(.tup [(.int 1),(.int 1),(.int 1),(.bl true)])) (by decide +kernel)) (ax (aP 6 (d:=(.tup [(.int 1),(.int 1),(.int 1),(.lst [(.str "yes")])])) (by decide +kernel)) bJ))))))) (aB cK (aB bQ (vr 0) af) af) (fun _ _=>rfl)))))))))),?_⟩
    intro H1 v1 s1 i1
    intro H2 v2 s2 i2
    refine gt (s1.trans s2) (i1.fw s2) (i2.bw s1) (by decide) fun H3 v3 s3 i3=>?_
    intro H4 v4 s4 i4
    refine gt (((s1.trans s2).trans s3).trans s4) (i3.fw s4) (i4.bw ((s1.trans s2).trans s3)) (by decide) fun H5 v5 s5 i5=>?_
    obtain ⟨l,xs,x,d,rfl,hl,ha,_,hd,hI⟩:=kF i5 (i:=c % 18) (Int.emod_nonneg _ (by decide)) (Int.emod_lt_of_pos _ (by decide))
    have b1:cz d = false:=eO hd (by decide +kernel)
    have b2:bu d = false:=eO hd (by decide +kernel)
    have b3:y6 d = false:=eO hd (by decide +kernel)
    clear hd
    have s05:=(((s1.trans s2).trans s3).trans s4).trans s5
    refine ⟨cp,.inl ⟨l,_,_,_,rfl,rfl,SqL.of hl,ha,?_⟩⟩
    have sl:sizeLine = 16777216:=sizeLine_eq
    refine ifC (fun hc=>?_) fun hc=>?_
    · intro H6 v6 s6 i6
      refine ⟨(by decide:2≤sizeLine),fun p hp=>?_⟩
      have s7:=Same.new (o:=.lst [x,v6]) hp
      have u7:=ac (H:=H6) (a:=p) (o:=.lst [x,v6])
      generalize upd H6 p (.lst [x,v6]) = H7 at s7 u7
      refine ⟨cp,.inr ⟨_,rfl,?_⟩⟩
      have hb:∀ k:Bool,∃ v d',atI [x,v6] (if k = true then 1 else 0) = some v∧Is (nw H H7) d' v∧cz d' = false:=fun k=>by
        cases k with
        | true=>exact ⟨v6,_,ar 1 rfl rfl,(i6.fw s7).bw s05,by decide +kernel⟩
        | false=>exact ⟨x,d,ar 0 rfl rfl,hI.fw (s6.trans s7),b1⟩
      obtain ⟨v,d',e1,e2,e3⟩:=hb (decide (c % 19 = 18))
      refine .inl ⟨p,_,_,v,rfl,rfl,SqL.of u7,e1,?_⟩
      exact q _ _ d' (s05.trans (s6.trans s7)) e2 (fun _=>e3) fun z=>absurd hc (by rw [z]; decide)
    · have w3:way = 3:=by
        rcases hw with z | z
        · exact absurd z hc
        · exact z
      refine ⟨_,_,_,yB d,rfl,rfl,hI.nw.ty,by cases d <;> rfl,?_⟩
      refine ifB (fun ht=>⟨cdB (by decide) (show Bt 40 (_:Int) by unfold Bt; decide),cp,ifC (fun h3=>?a) fun h3=>?b⟩) fun ht=>?c
      case a =>
        cases d with
        | tup ds =>
          obtain ⟨p0,xs0,rfl,hp0,hi0⟩:=is_tup.mp hI
          have hl0:=hi0.len
          have hds:ds≠[]∧ds.length≤10:=by
            have b3:(ds.isEmpty || decide (10 < ds.length)) = false:=b3
            rw [Bool.or_eq_false_iff] at b3
            refine ⟨fun z=>?_,?_⟩
            · rw [z] at b3; cases b3.1
            · have:=of_decide_eq_false b3.2; omega
          intro H6 v6 s6 i6
          obtain ⟨l',xs',x',d',rfl,hl',ha',_,_,hI'⟩:=kF i6 (i:=c / 54 % 3) (Int.emod_nonneg _ (by decide)) (Int.emod_lt_of_pos _ (by decide))
          refine ⟨cdB (by decide) (show Bt 40 (_:Int) by unfold Bt; decide),cp,.inl ⟨l',_,_,x',rfl,rfl,SqL.of hl',ha',?_⟩⟩
          refine ⟨(by decide:1≤sizeLine),fun p hp=>?_⟩
          have s7:=Same.new (o:=.tup [x']) hp
          refine ⟨p0,p,xs0,[x'],rfl,rfl,SqT.of ((s6.trans s7) _ _ (dR hp0).2),SqT.of ac,fun z=>hds.1 (List.length_eq_zero_iff.mp (by rw [← hl0,z]; rfl)),by rw [hl0]; show ds.length + 1≤sizeLine; omega,(fun z=>nomatch z),fun _ p' hp'=>?_⟩
          have s8:=Same.new (o:=.tup (xs0 ++ [x'])) hp'
          have s58:=(s6.trans s7).trans s8
          refine q _ _ (.tup (ds ++ [d'])) (s05.trans s58) (is_tup.mpr ⟨p',_,rfl,gh ((s05.trans (s6.trans s7)).free hp') ac,(hi0.k (js (Same.refl _) s58)).app (ag ((hI'.fw (s7.trans s8)).bw s05) aA)⟩) (fun z=>absurd (z.symm.trans w3) (by decide)) fun _=>pk b1
        | _=>cases ht
      all_goals
        intro H6 v6 s6 i6
        intro H7 v7 s7 i7
        intro H8 v8 s8 i8
        intro H9 v9 s9 i9
        intro Ha va sa ia
        refine ⟨(by decide:6≤sizeLine),fun p hp=>?_⟩
        have s06:=s05.trans s6
        have fp:H p = none:=((((s06.trans s7).trans s8).trans s9).trans sa).free hp
        have sb:=Same.new (o:=.lst [x,v6,v7,v8,v9,va]) hp
        have ub:=ac (H:=Ha) (a:=p) (o:=.lst [x,v6,v7,v8,v9,va])
        generalize upd Ha p (.lst [x,v6,v7,v8,v9,va]) = Hb at sb ub
        have s9b:=sa.trans sb
        have s8b:=s9.trans s9b
        have s7b:=s8.trans s8b
        have s6b:=s7.trans s7b
        obtain ⟨l',xs',x',d',e0,hl',ha',_,hd',hI'⟩:=kF (H0:=H) (is_lst.mpr ⟨p,_,rfl,gh fp ub,ag (hI.fw (s6.trans s6b)) (ag ((i6.fw s6b).bw s05) (ag ((i7.fw s7b).bw s06) (ag ((i8.fw s8b).bw (s06.trans s7)) (ag ((i9.fw s9b).bw ((s06.trans s7).trans s8)) (ag ((ia.fw sb).bw (((s06.trans s7).trans s8).trans s9)) aA)))))⟩) (i:=c / 54 % 6) (Int.emod_nonneg _ (by decide)) (Int.emod_lt_of_pos _ (by decide))
        cases e0
        rw [ub] at hl'
        cases hl'
        refine ⟨cdB (by decide) (show Bt 40 (_:Int) by unfold Bt; decide),cp,.inl ⟨p,_,_,x',rfl,rfl,SqL.of ub,ha',?_⟩⟩
        refine q _ _ d' (s05.trans (s6.trans s6b)) hI' (fun z=>absurd (z.symm.trans w3) (by decide)) fun _=>?_
        rcases List.mem_cons.mp hd' with rfl | hd'
        · exact b2
        · exact eO hd' (by decide +kernel)
end
end My
namespace My
open PySem L2 FrM Led
def mJ:Sp:=fun vs H Q _=>∃ (way c:Int),vs = [.int way,.int c]∧0≤way∧way≤3∧∀ H' L xs ds,Same H H'→H' L = some (.lst xs)→Iss H' ds xs→Req way ds false→Q (.ref L) H'
theorem gJ {way:Int} {r c u:Td} (h0:0≤way) (h2:way < 2) (h:inB r c u = false):Req way [r,c,u] false:=by
  rcases (by omega:way = 0∨way = 1) with rfl | rfl
  · exact h ▸ Req.l0 r c u
  · exact h ▸ Req.l1 r c u fun z=>by rw [h] at z; cases z
theorem xx {r c u:Td} (h:aF 6 dy r = false):inB r c u = false:=by rw [inB,h]; rfl
theorem xX {r c u:Td} (h:aF 6 dy c = false):inB r c u = false:=by rw [inB,h,Bool.and_false]; rfl
theorem qG {r c u:Td} (h:aF 24 (bU (ig r) (ig c)) u = false):inB r c u = false:=by rw [inB,h,Bool.and_false]
theorem jw {m:Int} {p:Td→Bool} {ds es:List Td} {d:Td} (h:p d = false):aF m p (.lst (ds ++ d :: es)) = false:=by
  rw [aF,List.all_append,List.all_cons,h]
  simp
theorem iH {m:Int} {p:Td→Bool} {ds:List Td} (h:m < ds.length):aF m p (.lst ds) = false:=by
  rw [aF,decide_eq_false (by omega)]; rfl
theorem jf {H:Hp} {d:Td} {x:V} (h:Is H d x):∀ n,Iss H (List.replicate n d) (List.replicate n [x]).flatten
  | 0=>aA
  | n + 1=>by
    rw [List.replicate_succ,List.replicate_succ,List.flatten_cons]
    exact ag h (jf h n)
section
variable {P:Program} {w:World} {K:PySem.W.Frag} {mg:Str→Option Value} {base:Heap} {a:Ad}
theorem pY (T:Txt K mg a):FnOk P w K mg base CX0 2 a.f_L_spoilt a.d_L_spoilt ["_law_way", "_law_cell_here"] mJ:=by
  have G_L_bad_list:FnOk P w K mg base CX0 1 _ _ _ rS:=tE T
  have G_L_bad_unit:FnOk P w K mg base CX0 1 _ _ _ sv:=tI T
  have G_L_bad_answer:FnOk P w K mg base CX0 1 _ _ _ qW:=t9 T
  refine T.F_L_spoilt.okQ sc_L_spoilt (fun vs H Q E h=>?_) (fun cdv A outer s H vs Q E hr h=>?_)
  · obtain ⟨way,c,rfl,_⟩:=h; rfl
  · obtain ⟨way,c,rfl,w0,w3,q⟩:=h
    refine ⟨_,(aL (dH (bh lh (vr 0) af (aD _)) (aL (bS (i:=2) sc_L_spoilt.nd rfl (Or.inl rfl) (bH (ax (bH (ax (aT af) (ax (aT af) bJ))) (ax (bH (ax (aT af) (ax (aT af) bJ))) (ax (bH (ax (aP 6 (d:=(.tup [(.int 0),(.int 0),(.int 1),(.int 4)])) (by decide +kernel)) (ax (aP 6 (d:=(.tup [(.int 1),(.int 0),(.int 0),(.int 9)])) (by decide +kernel)) (ax (aP 6 (d:=(.tup [(.int 1),(.int 1),(.int 2),(.int 2)])) (by decide +kernel)) bJ)))) bJ))))) (aL (bS (i:=3) sc_L_spoilt.nd rfl (Or.inl rfl) (aT (aB cK (vr 1) af))) (aL (dH (bh lh (vr 3) af (aD _)) (bD (gu (mR (au G_L_bad_list hr rfl T.m_L_bad_list T.F_L_bad_list.kp T.B_L_bad_list .nil aH (aa (aB bQ (vr 1) af) (aa (vr 3) ae))) (m9 (vr 2) (vr 3) fe)))) (bD (dH (bh ej (aB cK (aB bQ (vr 1) af) af) af (aD _)) (bD (gu (mR (aB jq (dN (aa (ip 6 (d:=(.tup [(.int 0),(.int 0),(.int 1),(.int 4)])) (by decide +kernel)) ae)) af) (m9 (vr 2) af fe)))) (bD (gu (cQ (pe_m.insertN (aI aC (vr 2) af (fun _ _=>rfl)) (aa (aB cK (aB bQ (vr 1) af) af) (aa (au G_L_bad_unit hr rfl T.m_L_bad_unit T.F_L_bad_unit.kp T.B_L_bad_unit .nil aH (aa (aB bQ (vr 1) af) ae)) ae))))))))) (bD (cB (aT (vr 2))))))) dB) (aL (bS (i:=4) sc_L_spoilt.nd rfl (Or.inl rfl) (hZ aC (bH (ax (bH (ax (aP 6 (d:=(.tup [(.int 3),(.int (-5)),(.int 5)])) (by decide +kernel)) (ax (aP 6 (d:=(.tup [(.int 1),(.int 0),(.int 0)])) (by decide +kernel)) bJ))) (ax (bH (ax (aP 6 (d:=(.tup [(.int 3),(.int (-5)),(.int 5),(.str "yes")])) (by decide +kernel)) (ax (aP 6 (d:=(.tup [(.int 1),(.int 0),(.int 0),(.str "open")])) (by decide +kernel)) bJ))) bJ))) (aB eR (vr 0) af) (fun _ _=>rfl))) (aL (dH (bh ej (aB cK (vr 1) af) af (aD _)) (bD (cB (bH (ax (aT (au G_L_bad_list hr rfl T.m_L_bad_list T.F_L_bad_list.kp T.B_L_bad_list .nil aH (aa (aB bQ (vr 1) af) (aa af ae)))) bJ)))) dB) (aL (dH (bh ej (aB cK (vr 1) af) af (aD _)) (bD (cB (bH (ax (aT (aB jq (mf tz (vr 4) og (oM af)) af)) bJ)))) dB) (aL (gu (cQ (pe_m.insertN (vr 4) (aa (aB cK (aB bQ (vr 1) af) af) (aa (au G_L_bad_answer hr rfl T.m_L_bad_answer T.F_L_bad_answer.kp T.B_L_bad_answer .nil aH (aa (aB bQ (vr 1) af) (aa (vr 0) ae))) ae))))) (bD (cB (bH (ax (aT (vr 4)) bJ))))))))),?_⟩
    have sl:sizeLine = 16777216:=sizeLine_eq
    refine ifC (fun hw=>?_) fun hw=>?_
    · refine ⟨(by decide:2≤sizeLine),fun p1 hp1=>?_⟩
      have s1:=Same.new (o:=.lst [.int 3,.int 4]) hp1
      have u1:=ac (H:=H) (a:=p1) (o:=.lst [.int 3,.int 4])
      generalize upd H p1 (.lst [.int 3,.int 4]) = H1 at s1 u1
      refine ⟨(by decide:2≤sizeLine),fun p2 hp2=>?_⟩
      have s2:=Same.new (o:=.lst [.int 5,.int 2]) hp2
      have u2:=ac (H:=H1) (a:=p2) (o:=.lst [.int 5,.int 2])
      generalize upd H1 p2 (.lst [.int 5,.int 2]) = H2 at s2 u2
      intro H3 v3 s3 i3
      intro H4 v4 s4 i4
      intro H5 v5 s5 i5
      refine ⟨(by decide:3≤sizeLine),fun p3 hp3=>?_⟩
      have s6:=Same.new (o:=.lst [v3,v4,v5]) hp3
      have u6:=ac (H:=H5) (a:=p3) (o:=.lst [v3,v4,v5])
      have n1:p3≠p1:=(ay (((s2.trans s3).trans (s4.trans s5)) _ _ u1) hp3).symm
      have n2:p3≠p2:=(ay (((s3.trans s4).trans s5) _ _ u2) hp3).symm
      generalize upd H5 p3 (.lst [v3,v4,v5]) = H6 at s6 u6
      refine ⟨(by decide:3≤sizeLine),fun L hL=>?_⟩
      have s7:=Same.new (o:=.lst [.ref p1,.ref p2,.ref p3]) hL
      have u7:=ac (H:=H6) (a:=L) (o:=.lst [.ref p1,.ref p2,.ref p3])
      have nL:L≠p3:=(ay u6 hL).symm
      have fL:H L = none:=((((s1.trans s2).trans (s3.trans s4)).trans s5).trans s6).free hL
      have f3:H p3 = none:=(((s1.trans s2).trans (s3.trans s4)).trans s5).free hp3
      generalize upd H6 L (.lst [.ref p1,.ref p2,.ref p3]) = H7 at s7 u7
      have a1:H5 p1 = _:=((s2.trans s3).trans (s4.trans s5)) _ _ u1
      have a2:H5 p2 = _:=((s3.trans s4).trans s5) _ _ u2
      have j1:Is H5 (.lst [.int 3,.int 4]) (.ref p1):=is_lst.mpr ⟨p1,_,rfl,a1,ag (by rw [Is]) (ag (by rw [Is]) aA)⟩
      have j2:Is H5 (.lst [.int 5,.int 2]) (.ref p2):=is_lst.mpr ⟨p2,_,rfl,a2,ag (by rw [Is]) (ag (by rw [Is]) aA)⟩
      have us:Iss H5 [.tup [.int 0,.int 0,.int 1,.int 4],.tup [.int 1,.int 0,.int 0,.int 9],.tup [.int 1,.int 1,.int 2,.int 2]] [v3,v4,v5]:=ag (i3.nw.same (s4.trans s5)) (ag (i4.nw.same s5) (ag i5.nw aA))
      have s07:Same H H7:=((((s1.trans s2).trans (s3.trans s4)).trans s5).trans s6).trans s7
      have j3:Is H6 (.lst [.tup [.int 0,.int 0,.int 1,.int 4],.tup [.int 1,.int 0,.int 0,.int 9],.tup [.int 1,.int 1,.int 2,.int 2]]) (.ref p3):=is_lst.mpr ⟨p3,_,rfl,u6,us.same s6⟩
      have j1':=j1.same s6
      have j2':=j2.same s6
      refine ⟨cp,?_⟩
      have k0:0≤c % 4:=Int.emod_nonneg c (by decide)
      refine ifC (fun hp=>?_) fun hp=>?_
      · refine ⟨cdB (by decide) (show Bt 40 (_:Int) by unfold Bt; decide),⟨c / 4,c % 4,rfl,k0,(by have hp:c % 4 < 3:=hp; omega),fun H8 v d s8 i8 b8=>?_⟩⟩
        have hp:c % 4 < 3:=hp
        have sL:∀ o,Same H6 (upd H8 L o):=fun o=>(s7.trans s8).put hL
        have sH:∀ o,Same H (upd H8 L o):=fun o=>(s07.trans s8).put fL
        have hb:=b8.1
        rcases (by omega:c % 4 = 0∨c % 4 = 1∨c % 4 = 2) with e | e | e
        · refine ⟨L,_,c % 4,0,rfl,rfl,s8 _ _ u7,(by rw [e]; rfl),?_⟩
          exact q _ L _ _ (sH _) ac (ag (i8.k (gy u7)) (ag (j2'.same (sL _)) (ag (j3.same (sL _)) aA))) (gJ w0 hw (xx (hb (by omega))))
        · refine ⟨L,_,c % 4,1,rfl,rfl,s8 _ _ u7,(by rw [e]; rfl),?_⟩
          exact q _ L _ _ (sH _) ac (ag (j1'.same (sL _)) (ag (i8.k (gy u7)) (ag (j3.same (sL _)) aA))) (gJ w0 hw (xX (hb (by omega))))
        · refine ⟨L,_,c % 4,2,rfl,rfl,s8 _ _ u7,(by rw [e]; rfl),?_⟩
          exact q _ L _ _ (sH _) ac (ag (j1'.same (sL _)) (ag (j2'.same (sL _)) (ag (i8.k (gy u7)) aA))) (gJ w0 hw (qG (b8.2 e _ _)))
      · refine ⟨cdB (by decide) (show Bt 40 (_:Int) by unfold Bt; decide),cp,?_⟩
        refine ifC (fun hc=>?_) fun hc=>?_
        · intro H8 v8 s8 i8
          refine ⟨(by decide:1≤sizeLine),fun p hp=>?_⟩
          have s9:=Same.new (o:=.lst [v8]) hp
          refine ⟨p,25,[v8],rfl,rfl,ac,by decide,by decide,(by show 1 * 25≤sizeLine; omega),fun p' hp'=>?_⟩
          have s10:=Same.new (o:=.lst (List.replicate (25:Int).toNat [v8]).flatten) hp'
          have s810:=s9.trans s10
          have s7':=s8.trans s810
          refine ⟨L,_,_,2,rfl,rfl,s7' _ _ u7,rfl,?_⟩
          have nL':p'≠L:=(ay ((s8.trans s9) _ _ u7) hp').symm
          have sL:=(s7.trans s7').put (o:=.lst [.ref p1,.ref p2,.ref p']) hL
          have jn:Is (nw H7 (upd (upd H8 p (.lst [v8])) p' (.lst (List.replicate (25:Int).toNat [v8]).flatten))) (.lst (List.replicate 25 (.tup [.int 0,.int 0,.int 1,.int 4]))) (.ref p'):=is_lst.mpr ⟨p',_,rfl,gh ((s8.trans s9).free hp') ac,jf (i8.fw s810) 25⟩
          exact q _ L _ _ ((s07.trans s7').put fL) ac (ag (j1'.same sL) (ag (j2'.same sL) (ag (jn.k (gy u7)) aA))) (gJ w0 hw (qG (iH (by decide))))
        · refine .inl ⟨L,_,_,_,rfl,rfl,SqL.of u7,ar 2 rfl rfl,?_⟩
          refine ⟨.inl ⟨rfl,_,SqL.of (s7 _ _ u6)⟩,?_⟩
          refine ⟨cdB (by decide) (show Bt 40 (_:Int) by unfold Bt; decide),cp,⟨cdB (by decide) (show Bt 40 (_:Int) by unfold Bt; decide),⟨c / 4,rfl,fun H8 v d s8 i8 b8=>?_⟩⟩⟩
          have m0:0≤c / 32 % 4:=Int.emod_nonneg _ (by decide)
          have m1:c / 32 % 4 < 4:=Int.emod_lt_of_pos _ (by decide)
          refine ⟨p3,[v3,v4,v5],v,c / 32 % 4,rfl,rfl,(s7.trans s8) _ _ u6,m0,(by show c / 32 % 4≤3; omega),(by show 3 < 1000; decide),?_⟩
          generalize (c / 32 % 4).toNat = m
          have s5L:∀ o,Same H5 (upd H8 p3 o):=fun o=>((s6.trans s7).trans s8).put hp3
          have hd:Is (upd H8 p3 (.lst (List.take m [v3,v4,v5] ++ v :: List.drop m [v3,v4,v5]))) d v:=i8.k (gy (s7 _ _ u6))
          have ju:=(us.same (s5L (.lst (List.take m [v3,v4,v5] ++ v :: List.drop m [v3,v4,v5]))))
          refine q _ L _ _ ((s07.trans s8).put f3) (by rw [ao nL]; exact s8 _ _ u7) (ag (j1.same (s5L _)) (ag (j2.same (s5L _)) (ag (is_lst.mpr ⟨p3,_,rfl,ac,(ju.take m).app (ag hd (ju.drop m))⟩) aA))) (gJ w0 hw (qG (jw b8)))
    · have hw:¬ way < 2:=hw
      rcases (by omega:way = 2∨way = 3) with rfl | rfl
      · skip
        intro H1 v1 s1 i1
        intro H2 v2 s2 i2
        refine ⟨(by decide:2≤sizeLine),fun g1 hg1=>?_⟩
        have s3:=Same.new (o:=.lst [v1,v2]) hg1
        have u3:=ac (H:=H2) (a:=g1) (o:=.lst [v1,v2])
        generalize upd H2 g1 (.lst [v1,v2]) = H3 at s3 u3
        intro H4 v4 s4 i4
        intro H5 v5 s5 i5
        refine ⟨(by decide:2≤sizeLine),fun g2 hg2=>?_⟩
        have s6:=Same.new (o:=.lst [v4,v5]) hg2
        have u6:=ac (H:=H5) (a:=g2) (o:=.lst [v4,v5])
        generalize upd H5 g2 (.lst [v4,v5]) = H6 at s6 u6
        refine ⟨(by decide:2≤sizeLine),fun g0 hg0=>?_⟩
        have s7:=Same.new (o:=.lst [.ref g1,.ref g2]) hg0
        have u7:=ac (H:=H6) (a:=g0) (o:=.lst [.ref g1,.ref g2])
        generalize upd H6 g0 (.lst [.ref g1,.ref g2]) = H7 at s7 u7
        have s07:Same H H7:=(((s1.trans s2).trans s3).trans (s4.trans s5)).trans (s6.trans s7)
        refine .inl ⟨g0,_,_,.ref g1,rfl,rfl,SqL.of u7,ar 0 rfl rfl,?_⟩
        obtain ⟨Hb,hHb⟩:∃ Hb,Hb = H2:=⟨_,rfl⟩
        have us:Iss Hb [.tup [.int 3,.int (-5),.int 5],.tup [.int 1,.int 0,.int 0]] [v1,v2]:=hHb ▸ ag (i1.nw.same s2) (ag i2.nw aA)
        have ia:Is Hb (.tup [.int 3,.int (-5),.int 5]) v1:=hHb ▸ i1.nw.same s2
        have sb:Same Hb H7:=hHb ▸ (s3.trans (s4.trans s5)).trans (s6.trans s7)
        have hgb:Hb g1 = none:=hHb ▸ hg1
        have fg:H g1 = none:=(s1.trans s2).free hg1
        have ug:H7 g1 = some (.lst [v1,v2]):=((s4.trans s5).trans (s6.trans s7)) _ _ u3
        have sz25:1 * 25≤sizeLine:=by omega
        refine ⟨cp,?_⟩
        refine ifC (fun hc=>?_) fun hc=>?_
        · refine ⟨cdB (by decide) (show Bt 40 (_:Int) by unfold Bt; decide),⟨c / 4,2,rfl,by decide,by decide,fun H8 v d s8 i8 b8=>?_⟩⟩
          refine ⟨(by decide:1≤sizeLine),fun p hp=>?_⟩
          exact q _ p _ [d] ((s07.trans s8).trans (Same.new hp)) ac (ag (i8.nw.same (Same.new hp)) aA) (b8.2 rfl 24 cz ▸ Req.t d)
        · refine ⟨cp,?_⟩
          refine ifC (fun hc2=>?_) fun hc2=>?_
          · refine ⟨_,rfl,g1,_,rfl,SqL.of ug,fun p hp=>?_⟩
            have s8:=Same.new (o:=.lst (kI [v1,v2] none (some 1))) hp
            refine ⟨p,25,[v1],rfl,rfl,ac,by decide,by decide,sz25,fun p' hp'=>?_⟩
            have s9:=Same.new (o:=.lst (List.replicate (25:Int).toNat [v1]).flatten) hp'
            refine ⟨(by decide:1≤sizeLine),fun p2 hp2=>?_⟩
            have s10:=Same.new (o:=.lst [.ref p']) hp2
            have s710:=(s8.trans s9).trans s10
            exact q _ p2 _ [_] (s07.trans s710) ac (ag (is_lst.mpr ⟨p',_,rfl,s10 _ _ ac,jf ((ia.same sb).same s710) 25⟩) aA) (iH (m:=24) (p:=cz) (ds:=List.replicate 25 (.tup [.int 3,.int (-5),.int 5])) (by rw [List.length_replicate]; decide) ▸ Req.t (.lst (List.replicate 25 (.tup [.int 3,.int (-5),.int 5]))))
          · refine ⟨.inl ⟨rfl,_,SqL.of ug⟩,?_⟩
            refine ⟨cdB (by decide) (show Bt 40 (_:Int) by unfold Bt; decide),cp,⟨cdB (by decide) (show Bt 40 (_:Int) by unfold Bt; decide),⟨c / 16,2,rfl,.inl rfl,fun H8 v d s8 i8 b2 b3=>?_⟩⟩⟩
            have m0:0≤c / 4 % 3:=Int.emod_nonneg _ (by decide)
            have m1:c / 4 % 3 < 3:=Int.emod_lt_of_pos _ (by decide)
            refine ⟨g1,[v1,v2],v,c / 4 % 3,rfl,rfl,s8 _ _ ug,m0,(by show c / 4 % 3≤2; omega),(by show 2 < 1000; decide),?_⟩
            generalize (c / 4 % 3).toNat = m
            have s9:Same Hb (upd H8 g1 (.lst (List.take m [v1,v2] ++ v :: List.drop m [v1,v2]))):=(sb.trans s8).put hgb
            have sH:Same H (upd H8 g1 (.lst (List.take m [v1,v2] ++ v :: List.drop m [v1,v2]))):=(s07.trans s8).put fg
            have hd:Is (upd H8 g1 (.lst (List.take m [v1,v2] ++ v :: List.drop m [v1,v2]))) d v:=i8.k (gy ug)
            refine ⟨(by decide:1≤sizeLine),fun p hp=>?_⟩
            have s10:=Same.new (o:=.lst [.ref g1]) hp
            have ju:=us.same s9
            exact q _ p _ [_] (sH.trans s10) ac (ag ((is_lst.mpr ⟨g1,_,rfl,ac,(ju.take m).app (ag hd (ju.drop m))⟩:Is _ _ _).same s10) aA) (jw (m:=24) (p:=cz) (b2 rfl) ▸ Req.t _)
      · skip
        intro H1 v1 s1 i1
        intro H2 v2 s2 i2
        refine ⟨(by decide:2≤sizeLine),fun g1 hg1=>?_⟩
        have s3:=Same.new (o:=.lst [v1,v2]) hg1
        have u3:=ac (H:=H2) (a:=g1) (o:=.lst [v1,v2])
        generalize upd H2 g1 (.lst [v1,v2]) = H3 at s3 u3
        intro H4 v4 s4 i4
        intro H5 v5 s5 i5
        refine ⟨(by decide:2≤sizeLine),fun g2 hg2=>?_⟩
        have s6:=Same.new (o:=.lst [v4,v5]) hg2
        have u6:=ac (H:=H5) (a:=g2) (o:=.lst [v4,v5])
        generalize upd H5 g2 (.lst [v4,v5]) = H6 at s6 u6
        refine ⟨(by decide:2≤sizeLine),fun g0 hg0=>?_⟩
        have s7:=Same.new (o:=.lst [.ref g1,.ref g2]) hg0
        have u7:=ac (H:=H6) (a:=g0) (o:=.lst [.ref g1,.ref g2])
        generalize upd H6 g0 (.lst [.ref g1,.ref g2]) = H7 at s7 u7
        have s07:Same H H7:=(((s1.trans s2).trans s3).trans (s4.trans s5)).trans (s6.trans s7)
        refine .inl ⟨g0,_,_,.ref g2,rfl,rfl,SqL.of u7,ar 1 rfl rfl,?_⟩
        obtain ⟨Hb,hHb⟩:∃ Hb,Hb = H5:=⟨_,rfl⟩
        have us:Iss Hb [.tup [.int 3,.int (-5),.int 5,.str "yes"],.tup [.int 1,.int 0,.int 0,.str "open"]] [v4,v5]:=hHb ▸ ag (i4.nw.same s5) (ag i5.nw aA)
        have ia:Is Hb (.tup [.int 3,.int (-5),.int 5,.str "yes"]) v4:=hHb ▸ i4.nw.same s5
        have sb:Same Hb H7:=hHb ▸ s6.trans s7
        have hgb:Hb g2 = none:=hHb ▸ hg2
        have fg:H g2 = none:=(((s1.trans s2).trans s3).trans (s4.trans s5)).free hg2
        have ug:H7 g2 = some (.lst [v4,v5]):=s7 _ _ u6
        have sz25:1 * 25≤sizeLine:=by omega
        refine ⟨cp,?_⟩
        refine ifC (fun hc=>?_) fun hc=>?_
        · refine ⟨cdB (by decide) (show Bt 40 (_:Int) by unfold Bt; decide),⟨c / 4,2,rfl,by decide,by decide,fun H8 v d s8 i8 b8=>?_⟩⟩
          refine ⟨(by decide:1≤sizeLine),fun p hp=>?_⟩
          exact q _ p _ [d] ((s07.trans s8).trans (Same.new hp)) ac (ag (i8.nw.same (Same.new hp)) aA) (b8.2 rfl 24 bu ▸ Req.m d)
        · refine ⟨cp,?_⟩
          refine ifC (fun hc2=>?_) fun hc2=>?_
          · refine ⟨_,rfl,g2,_,rfl,SqL.of ug,fun p hp=>?_⟩
            have s8:=Same.new (o:=.lst (kI [v4,v5] none (some 1))) hp
            refine ⟨p,25,[v4],rfl,rfl,ac,by decide,by decide,sz25,fun p' hp'=>?_⟩
            have s9:=Same.new (o:=.lst (List.replicate (25:Int).toNat [v4]).flatten) hp'
            refine ⟨(by decide:1≤sizeLine),fun p2 hp2=>?_⟩
            have s10:=Same.new (o:=.lst [.ref p']) hp2
            have s710:=(s8.trans s9).trans s10
            exact q _ p2 _ [_] (s07.trans s710) ac (ag (is_lst.mpr ⟨p',_,rfl,s10 _ _ ac,jf ((ia.same sb).same s710) 25⟩) aA) (iH (m:=24) (p:=bu) (ds:=List.replicate 25 (.tup [.int 3,.int (-5),.int 5,.str "yes"])) (by rw [List.length_replicate]; decide) ▸ Req.m (.lst (List.replicate 25 (.tup [.int 3,.int (-5),.int 5,.str "yes"]))))
          · refine ⟨.inl ⟨rfl,_,SqL.of ug⟩,?_⟩
            refine ⟨cdB (by decide) (show Bt 40 (_:Int) by unfold Bt; decide),cp,⟨cdB (by decide) (show Bt 40 (_:Int) by unfold Bt; decide),⟨c / 16,3,rfl,.inr rfl,fun H8 v d s8 i8 b2 b3=>?_⟩⟩⟩
            have m0:0≤c / 4 % 3:=Int.emod_nonneg _ (by decide)
            have m1:c / 4 % 3 < 3:=Int.emod_lt_of_pos _ (by decide)
            refine ⟨g2,[v4,v5],v,c / 4 % 3,rfl,rfl,s8 _ _ ug,m0,(by show c / 4 % 3≤2; omega),(by show 2 < 1000; decide),?_⟩
            generalize (c / 4 % 3).toNat = m
            have s9:Same Hb (upd H8 g2 (.lst (List.take m [v4,v5] ++ v :: List.drop m [v4,v5]))):=(sb.trans s8).put hgb
            have sH:Same H (upd H8 g2 (.lst (List.take m [v4,v5] ++ v :: List.drop m [v4,v5]))):=(s07.trans s8).put fg
            have hd:Is (upd H8 g2 (.lst (List.take m [v4,v5] ++ v :: List.drop m [v4,v5]))) d v:=i8.k (gy ug)
            refine ⟨(by decide:1≤sizeLine),fun p hp=>?_⟩
            have s10:=Same.new (o:=.lst [.ref g2]) hp
            have ju:=us.same s9
            exact q _ p _ [_] (sH.trans s10) ac (ag ((is_lst.mpr ⟨g2,_,rfl,ac,(ju.take m).app (ag hd (ju.drop m))⟩:Is _ _ _).same s10) aA) (jw (m:=24) (p:=bu) (b3 rfl) ▸ Req.m _)
end
end My
namespace My
open PySem L2 FrM Led
def sy:Sp:=fun vs H Q _=>∃ (way:Int) (e:Bool),vs = [.int way,.bl e]∧0≤way∧way≤3∧∀ H' L xs ds,Same H H'→H' L = some (.lst xs)→Iss H' ds xs→Req way ds true→Q (.ref L) H'
theorem lL {way:Int} {r c u:Td} (h0:0≤way) (h2:way < 2) (h:inB r c u = true) (hn:ig u≠0):Req way [r,c,u] true:=by
  rcases (by omega:way = 0∨way = 1) with rfl | rfl
  · exact h ▸ Req.l0 r c u
  · exact h ▸ Req.l1 r c u fun _=>hn
theorem hX {H:Hp} {ds:List Td} {xs:List V} (h:Iss H ds xs):∀ n,Iss H (List.replicate n ds).flatten (List.replicate n xs).flatten
  | 0=>aA
  | n + 1=>by
    rw [List.replicate_succ,List.replicate_succ,List.flatten_cons,List.flatten_cons]
    exact h.app (hX h n)
theorem iX {H:Hp} {D b:Addr} {o:HO} (e:untr H D b = some o):H b = some o:=by
  by_cases z:b = D
  · rw [z,eC] at e; cases e
  · rw [cT z] at e; exact e
abbrev far:Int:=10 ^ (9:Int).toNat
abbrev dF:List Td:=[.tup [.int 1000000,.int (0 - far),.int far],.tup [.int 1,.int far,.int far],.tup [.int 1,.int (0 - far),.int (0 - far)]]
def qN:Td→Td
  | .tup l=>.tup (l ++ [.str "open"])
  | d=>d
section
variable {P:Program} {w:World} {K:PySem.W.Frag} {mg:Str→Option Value} {base:Heap} {a:Ad}
theorem uP (T:Txt K mg a):FnOk P w K mg base CX0 1 a.f_L_good a.d_L_good ["_law_way", "_law_edge"] sy:=by
  refine T.F_L_good.okQ sc_L_good (fun vs H Q E h=>?_) (fun cdv A outer s H vs Q E hr h=>?_)
  · obtain ⟨way,e,rfl,_⟩:=h; rfl
  · obtain ⟨way,e,rfl,w0,w3,q⟩:=h
    refine ⟨_,(aL (dH (PW.pt (kY (gj (vr 1)) (lg (bh lh (vr 0) af (aD _))))) (aL (bS (i:=2) sc_L_good.nd rfl (Or.inl rfl) (ft jq (aP 6 (d:=(.lst [(.tup [(.int 0),(.int 5),(.int 0),(.int 1000000)]),(.tup [(.int 5),(.int 0),(.int 1000000),(.int 1000000)])])) (by decide +kernel)) (aT af))) (bD (cB (bH (ax (aP 6 (d:=(.lst [(.int 24000000),(.int 0),(.int 0),(.int 0),(.int 0),(.int 24000000)])) (by decide +kernel)) (ax (aP 6 (d:=(.lst [(.int 0),(.int 24000000),(.int 0),(.int 0),(.int 0),(.int 0)])) (by decide +kernel)) (ax (aT (vr 2)) bJ))))))) dB) (aL (dH (gj (vr 1)) (aL (bS (i:=3) sc_L_good.nd rfl (Or.inl rfl) (aT (aB yK af af))) (aL (bS (i:=4) sc_L_good.nd rfl (Or.inl rfl) (bH (ax (aT (bX (aa af (aa (aB eR af (vr 3)) (aa (vr 3) ae))))) (ax (aT (bX (aa af (aa (vr 3) (aa (vr 3) ae))))) (ax (aT (bX (aa af (aa (aB eR af (vr 3)) (aa (aB eR af (vr 3)) ae))))) bJ))))) (bD (cB (bH (ax (hZ aC (bH (ax (aT (aB jq (vr 4) af)) (ax (aT (aB jq (cA rfl (N:=["_law_one"]) (ix:=[none]) ⟨rfl,rfl,rfl,rfl,trivial⟩ (cm (vr 4)) ⟨fun C s H fp=>aw (i:=0) (show List.Nodup (["_law_one"]:List Str) by decide +kernel) rfl (Or.inl rfl),fun C s H fp=>bY,fun C s H fp=>(aB (qt (K:=K) rfl) (vr 0) (ip 6 (d:=(.tup [(.str "open")])) (by decide +kernel)))⟩) af)) bJ))) (aB eR (vr 0) af) (fun _ _=>rfl)) bJ)))))) dB) (aL (dH (bh lh (vr 0) af (aD _)) (bD (cB (aP 6 (d:=(.lst [(.lst [(.int 3),(.int 4)]),(.lst [(.int 5),(.int 2)]),(.lst [(.tup [(.int 0),(.int 0),(.int 1),(.int 4)]),(.tup [(.int 1),(.int 0),(.int 0),(.int 9)]),(.tup [(.int 1),(.int 1),(.int 2),(.int 2)])])])) (by decide +kernel)))) dB) (bD (cB (bH (ax (hZ aC (aP 6 (d:=(.lst [(.lst [(.tup [(.int 3),(.int (-5)),(.int 5)]),(.tup [(.int 1),(.int 0),(.int 0)])]),(.lst [(.tup [(.int 3),(.int (-5)),(.int 5),(.str "yes")]),(.tup [(.int 1),(.int 0),(.int 0),(.str "open")]),(.tup [(.int 2),(.int 2),(.int 2),(.str "no")])])])) (by decide +kernel)) (aB eR (vr 0) af) (fun _ _=>rfl)) bJ))))))),?_⟩
    have sl:sizeLine = 16777216:=sizeLine_eq
    cases e with
    | true =>
      refine ifC (fun hw=>?_) fun hw=>?_
      · intro H1 v1 s1 i1
        obtain ⟨l1,xs1,rfl,h1,j1⟩:=is_lst.mp i1.nw
        have x1:=j1.len
        refine ⟨l1,12,xs1,rfl,rfl,h1,by decide,by decide,(by rw [x1]; show 2 * 12≤sizeLine; omega),fun p hp=>?_⟩
        have s2:=Same.new (o:=.lst (List.replicate (12:Int).toNat xs1).flatten) hp
        have j2:Is (upd H1 p (.lst (List.replicate (12:Int).toNat xs1).flatten)) (.lst (List.replicate 12 [.tup [.int 0,.int 5,.int 0,.int 1000000],.tup [.int 5,.int 0,.int 1000000,.int 1000000]]).flatten) (.ref p):=is_lst.mpr ⟨p,_,rfl,ac,hX (j1.same s2) 12⟩
        generalize upd H1 p (.lst (List.replicate (12:Int).toNat xs1).flatten) = H2 at s2 j2
        intro H3 v3 s3 i3
        intro H4 v4 s4 i4
        refine ⟨(by decide:3≤sizeLine),fun L hL=>?_⟩
        have s5:=Same.new (o:=.lst [v3,v4,.ref p]) hL
        exact q _ L _ _ (((s1.trans s2).trans (s3.trans s4)).trans s5) ac (ag (i3.nw.same (s4.trans s5)) (ag (i4.nw.same s5) (ag (j2.same ((s3.trans s4).trans s5)) aA))) (lL w0 hw (by decide +kernel) (by decide +kernel))
      · have hw:¬ way < 2:=hw
        refine ⟨cw,?_⟩
        refine ⟨(by decide:3≤sizeLine),fun t1 ht1=>?_⟩
        have s1:=Same.new (o:=.tup [.int 1000000,.int (0 - far),.int far]) ht1
        have k1:Is (upd H t1 (.tup [.int 1000000,.int (0 - far),.int far])) (.tup [.int 1000000,.int (0 - far),.int far]) (.ref t1):=is_tup.mpr ⟨t1,_,rfl,ac,ag (by rw [Is]) (ag (by rw [Is]) (ag (by rw [Is]) aA))⟩
        generalize upd H t1 (.tup [.int 1000000,.int (0 - far),.int far]) = H1 at s1 k1
        refine ⟨(by decide:3≤sizeLine),fun t2 ht2=>?_⟩
        have s2:=Same.new (o:=.tup [.int 1,.int far,.int far]) ht2
        have k2:Is (upd H1 t2 (.tup [.int 1,.int far,.int far])) (.tup [.int 1,.int far,.int far]) (.ref t2):=is_tup.mpr ⟨t2,_,rfl,ac,ag (by rw [Is]) (ag (by rw [Is]) (ag (by rw [Is]) aA))⟩
        generalize upd H1 t2 (.tup [.int 1,.int far,.int far]) = H2 at s2 k2
        refine ⟨(by decide:3≤sizeLine),fun t3 ht3=>?_⟩
        have s3:=Same.new (o:=.tup [.int 1,.int (0 - far),.int (0 - far)]) ht3
        have k3:Is (upd H2 t3 (.tup [.int 1,.int (0 - far),.int (0 - far)])) (.tup [.int 1,.int (0 - far),.int (0 - far)]) (.ref t3):=is_tup.mpr ⟨t3,_,rfl,ac,ag (by rw [Is]) (ag (by rw [Is]) (ag (by rw [Is]) aA))⟩
        generalize upd H2 t3 (.tup [.int 1,.int (0 - far),.int (0 - far)]) = H3 at s3 k3
        have hi3:Iss H3 dF [.ref t1,.ref t2,.ref t3]:=ag (k1.same (s2.trans s3)) (ag (k2.same s3) (ag k3 aA))
        refine ⟨(by decide:3≤sizeLine),fun l hl=>?_⟩
        have s4:=Same.new (o:=.lst [.ref t1,.ref t2,.ref t3]) hl
        have u4:=ac (H:=H3) (a:=l) (o:=.lst [.ref t1,.ref t2,.ref t3])
        generalize upd H3 l (.lst [.ref t1,.ref t2,.ref t3]) = H4 at s4 u4
        have hi4:=hi3.same s4
        generalize hxs:[V.ref t1,.ref t2,.ref t3] = xs at u4 hi4
        have xl:=hi4.len
        have xl:xs.length = 3:=xl
        refine ⟨l,8,xs,rfl,rfl,u4,by decide,by decide,(by rw [xl]; show 3 * 8≤sizeLine; omega),fun m1 hm1=>?_⟩
        have s5:=Same.new (o:=.lst (List.replicate (8:Int).toNat xs).flatten) hm1
        have j5:Is (upd H4 m1 (.lst (List.replicate (8:Int).toNat xs).flatten)) (.lst (List.replicate 8 dF).flatten) (.ref m1):=is_lst.mpr ⟨m1,_,rfl,ac,hX (hi4.same s5) 8⟩
        generalize upd H4 m1 (.lst (List.replicate (8:Int).toNat xs).flatten) = H5 at s5 j5
        have u5:=s5 _ _ u4
        have hi5:=hi4.same s5
        refine .inl ⟨⟨_,SqL.of u5⟩,fun D hD=>?_⟩
        refine br (K:=K) (a:=l) (xs:=xs) (fun j ys H6=>j≤xs.length∧Same H5 H6∧H6 D = some (.lst ys)∧Iss (untr H6 D) ((dF.take j).map qN) ys) ⟨Nat.zero_le _,Same.new hD,ac,aA⟩ (fun j ys H6 h'=>SqL.of (h'.2.1 _ _ u5)) (fun j ys H6 h'=>h'.2.2.1) ?_ ?_
        · rintro j x ys H6 P' hx ⟨hj,s6,hD6,hy⟩ hP
          obtain ⟨z,hz,hA⟩:=hi5.get hx
          have hlt:j < xs.length:=(List.getElem?_eq_some_iff.mp hx).1
          obtain ⟨tl,rfl,tn⟩:∃ tl,z = .tup tl∧tl.length = 3:=by
            have hm:=List.mem_of_getElem? hz
            rcases List.mem_cons.mp hm with rfl | hm
            · exact ⟨_,rfl,rfl⟩
            rcases List.mem_cons.mp hm with rfl | hm
            · exact ⟨_,rfl,rfl⟩
            rcases List.mem_cons.mp hm with rfl | hm
            · exact ⟨_,rfl,rfl⟩
            · cases hm
          obtain ⟨pz,xz,rfl,hpz,hiz⟩:=is_tup.mp hA
          have zl:=hiz.len
          have yl:=hy.len
          rw [List.length_map,List.length_take] at yl
          refine ⟨trivial,fun H7 v7 s7 i7=>?_⟩
          obtain ⟨p7,x7,rfl,hp7,hi7⟩:=is_tup.mp i7.nw
          obtain ⟨y7,_,rfl,k7,hi7⟩:=iss_c.mp hi7
          obtain rfl:=iss_n.mp hi7
          rw [Is] at k7
          subst k7
          refine ⟨pz,p7,xz,[.str "open"],rfl,rfl,SqT.of ((s6.trans s7) _ _ hpz),SqT.of hp7,(fun z=>by rw [z] at zl; rw [tn] at zl; cases zl),(by rw [zl,tn]; show 3 + 1≤sizeLine; omega),(fun z=>nomatch z),fun _ p' hp'=>?_⟩
          have s8:=Same.new (o:=.tup (xz ++ [.str "open"])) hp'
          have u8:=ac (H:=H7) (a:=p') (o:=.tup (xz ++ [.str "open"]))
          have hD7:=s7 _ _ hD6
          have nD:p'≠D:=(ay hD7 hp').symm
          generalize upd H7 p' (.tup (xz ++ [.str "open"])) = H8 at s8 u8
          have s68:=s7.trans s8
          refine ⟨s8 _ _ hD7,(by rw [yl]; omega),hP _ _ ⟨by omega,(s6.trans s68).put hD,ac,?_⟩⟩
          rw [bT hz]
          have kU:∀ (X:Hp),(∀ b u,X b = some u→b≠D∧H8 b = some u)→Kp X (untr (upd H8 D (.lst (ys ++ [.ref p']))) D):=fun X h=>by
            have k:∀ b u,X b = some u→untr (upd H8 D (.lst (ys ++ [.ref p']))) D b = some u:=fun b u e=>by rw [cT (h b u e).1,ao (h b u e).1]; exact (h b u e).2
            exact ⟨fun _ _ e=>k _ _ e,fun _ _ e=>k _ _ e,fun _ e=>k _ _ e⟩
          refine (hy.k (kU _ fun b u e=>⟨(fun z=>by rw [z,eC] at e; cases e),s68 _ _ (iX e)⟩)).app (ag (is_tup.mpr ⟨p',_,rfl,?_,(hiz.k (kU _ fun b u e=>⟨ay e hD,(s6.trans s68) _ _ e⟩)).app (ag (by rw [Is]) aA)⟩) aA)
          rw [cT nD,ao nD]
          exact u8
        rintro ys H6 ⟨_,s6,hD6,hy⟩
        have yl:=hy.len
        rw [xl] at hy yl
        have yl:ys.length = 3:=yl
        have hy:Iss H6 (dF.map qN) ys:=hy.k ⟨fun b v e=>iX e,fun b v e=>iX e,fun b e=>iX e⟩
        refine ⟨D,8,ys,rfl,rfl,hD6,by decide,by decide,(by rw [yl]; show 3 * 8≤sizeLine; omega),fun m2 hm2=>?_⟩
        have s7:=Same.new (o:=.lst (List.replicate (8:Int).toNat ys).flatten) hm2
        have j7:Is (upd H6 m2 (.lst (List.replicate (8:Int).toNat ys).flatten)) (.lst (List.replicate 8 (dF.map qN)).flatten) (.ref m2):=is_lst.mpr ⟨m2,_,rfl,ac,hX (hy.same s7) 8⟩
        generalize upd H6 m2 (.lst (List.replicate (8:Int).toNat ys).flatten) = H7 at s7 j7
        refine ⟨(by decide:2≤sizeLine),fun g hg=>?_⟩
        have s8:=Same.new (o:=.lst [.ref m1,.ref m2]) hg
        have u8:=ac (H:=H7) (a:=g) (o:=.lst [.ref m1,.ref m2])
        generalize upd H7 g (.lst [.ref m1,.ref m2]) = H8 at s8 u8
        have s58:=(s6.trans s7).trans s8
        have s08:=(((s1.trans s2).trans s3).trans (s4.trans s5)).trans s58
        rcases (by omega:way = 2∨way = 3) with rfl | rfl
        · refine .inl ⟨g,_,_,.ref m1,rfl,rfl,SqL.of u8,ar 0 rfl rfl,?_⟩
          refine ⟨(by decide:1≤sizeLine),fun L hL=>?_⟩
          have s9:=Same.new (o:=.lst [.ref m1]) hL
          exact q _ L _ [.lst (List.replicate 8 dF).flatten] (s08.trans s9) ac (ag (j5.same (s58.trans s9)) aA) ((by decide +kernel:aF 24 cz (.lst (List.replicate 8 dF).flatten) = true) ▸ Req.t _)
        · refine .inl ⟨g,_,_,.ref m2,rfl,rfl,SqL.of u8,ar 1 rfl rfl,?_⟩
          refine ⟨(by decide:1≤sizeLine),fun L hL=>?_⟩
          have s9:=Same.new (o:=.lst [.ref m2]) hL
          exact q _ L _ [.lst (List.replicate 8 (dF.map qN)).flatten] (s08.trans s9) ac (ag (j7.same (s8.trans s9)) aA) ((by decide +kernel:aF 24 bu (.lst (List.replicate 8 (dF.map qN)).flatten) = true) ▸ Req.m _)
    | false =>
      refine ifC (fun hw=>?_) fun hw=>?_
      · intro H1 v1 s1 i1
        obtain ⟨L,xs,rfl,hL,hi⟩:=is_lst.mp i1.nw
        exact q _ L _ _ s1 hL hi (lL w0 hw (by decide +kernel) (by decide +kernel))
      · have hw:¬ way < 2:=hw
        have w0':(way - 2) = 0∨(way - 2) = 1:=by omega
        intro H1 v1 s1 i1
        rcases (by omega:way = 2∨way = 3) with rfl | rfl
        · obtain ⟨l,xs,rfl,hl,hi⟩:=is_lst.mp i1.nw
          obtain ⟨y1,_,rfl,k1,hi⟩:=iss_c.mp hi
          obtain ⟨y2,_,rfl,k2,hi⟩:=iss_c.mp hi
          obtain rfl:=iss_n.mp hi
          refine .inl ⟨l,_,_,y1,rfl,rfl,SqL.of hl,ar 0 rfl rfl,?_⟩
          refine ⟨(by decide:1≤sizeLine),fun L hL=>?_⟩
          have s2:=Same.new (o:=.lst [y1]) hL
          exact q _ L _ [.lst [.tup [.int 3,.int (-5),.int 5],.tup [.int 1,.int 0,.int 0]]] (s1.trans s2) ac (ag (k1.same s2) aA) ((by decide +kernel:aF 24 cz (.lst [.tup [.int 3,.int (-5),.int 5],.tup [.int 1,.int 0,.int 0]]) = true) ▸ Req.t _)
        · obtain ⟨l,xs,rfl,hl,hi⟩:=is_lst.mp i1.nw
          obtain ⟨y1,_,rfl,k1,hi⟩:=iss_c.mp hi
          obtain ⟨y2,_,rfl,k2,hi⟩:=iss_c.mp hi
          obtain rfl:=iss_n.mp hi
          refine .inl ⟨l,_,_,y2,rfl,rfl,SqL.of hl,ar 1 rfl rfl,?_⟩
          refine ⟨(by decide:1≤sizeLine),fun L hL=>?_⟩
          have s2:=Same.new (o:=.lst [y2]) hL
          exact q _ L _ [.lst [.tup [.int 3,.int (-5),.int 5,.str "yes"],.tup [.int 1,.int 0,.int 0,.str "open"],.tup [.int 2,.int 2,.int 2,.str "no"]]] (s1.trans s2) ac (ag (k2.same s2) aA) ((by decide +kernel:aF 24 bu (.lst [.tup [.int 3,.int (-5),.int 5,.str "yes"],.tup [.int 1,.int 0,.int 0,.str "open"],.tup [.int 2,.int 2,.int 2,.str "no"]]) = true) ▸ Req.m _)
end
end My
namespace My
open PySem L2 FrM Led
abbrev lawK:Nat:=9
def sM (K:PySem.W.Frag):Sp:=fun vs H Q _=>∃ (p:Addr) (ns:List Int) (k:Int),vs = [.ref p,.int k]∧SqL K H p (ns.map V.int)∧ns.length≤63∧0≤k∧k≤1000∧∀ c:Int,Q (.int c) H
def vy:Sp:=fun vs H Q _=>∃ (c k:Int),vs = [.int c,.int k]∧0≤k∧k≤1000∧∀ r:Int,0≤r→Q (.int r) H
theorem rV {a:Ad} {ts:List Addr} {H:Hp} (hts:∀ q ∈ tabs a,q.1 ∈ ts) (h:∀ P ∈ ts,H P = some (.tbl #[])):TabsOk (tabs a) H:=fun q hq=>⟨#[],h _ (hts q hq),trivial,fun _ _=>.inl rfl⟩
theorem zm {K:PySem.W.Frag} {H H':Hp} {a:Addr} {xs:List V} (e:SameT H H') (h:SqL K H a xs):SqL K H' a xs:=by
  rcases h with (h | ⟨o,h⟩) | h
  · exact .inl (.inl (e.at h))
  · exact .inl (.inr ⟨o,e.at h⟩)
  · exact .inr h
section
variable {P:Program} {w:World} {K:PySem.W.Frag} {mg:Str→Option Value} {base:Heap} {a:Ad}
theorem jC {H:Hp}:∀ (l:List Bool),DVs K H (l.map PyData.bool) (l.map V.bl)
  | []=>by simp [DVs]
  | c :: l=>by
    rw [List.map_cons,List.map_cons,DVs]
    exact ⟨_,_,rfl,by simp [DV],jC l⟩
theorem kD:∀ (l:List Bool),PyData.canLayAll0 (l.map PyData.bool) = true∧PyData.depthAll (l.map PyData.bool)≤1
  | []=>by simp [PyData.canLayAll0,PyData.depthAll]
  | t :: l=>by
    obtain ⟨h1,h2⟩:=kD l
    rw [List.map_cons,PyData.canLayAll0,PyData.depthAll,h1,PyData.canLay0]
    refine ⟨rfl,?_⟩
    simp only [PyData.depth]
    omega
theorem lH {H:Hp} {ns:List Bool} {l r:Addr} {Q:VK} (h1:H l = some (.lst (ns.map V.bl))) (h2:H r = some (.lst (ns.map V.bl))) (q:Q (.bl false) H):rEqD K true (.ref l) (.ref r) H Q:=by
  have hs:SeqAt.shaped (.list (ns.map PyData.bool)) = true:=by
    obtain ⟨k1,k2⟩:=kD ns
    unfold SeqAt.shaped
    rw [PyData.canLay0,k1,Bool.true_and]
    refine decide_eq_true ?_
    simp only [PyData.depth]
    omega
  refine ⟨.list (ns.map PyData.bool),.list (ns.map PyData.bool),by rw [DV]; exact ⟨l,_,rfl,SqL.of h1,jC _⟩,by rw [DV]; exact ⟨r,_,rfl,SqL.of h2,jC _⟩,hs,hs,?_⟩
  rw [SeqAt.eqv_refl _ (SeqAt.canLay_of_shaped hs)]
  exact q
theorem ur (T:Txt K mg a):FnOk P w K mg base CX0 1 a.f_L_cell a.d_L_cell ["_law_script", "_law_k"] (sM K):=by
  refine T.F_L_cell.ok qd (fun vs H Q E h=>?_) (fun cdv A outer s H vs Q E hr h=>?_)
  · obtain ⟨p,ns,k,rfl,_⟩:=h; rfl
  · obtain ⟨p,ns,k,rfl,hS,hl,h0,h1,q⟩:=h
    refine ⟨_,(am (cX (bh lh (vr 1) (av aU rfl T.z_len ci (aa (vr 0) ae)) (aD _)) (ap (aG (aI aC (vr 0) (vr 1) (fun _ _=>rfl)))) bC) (ap (aG (aB mG (aB eL af (vr 1)) af)))),?_⟩
    refine ⟨ns.map V.int,.inl hS,?_⟩
    rw [List.length_map]
    refine xO (fun c=>?_) (fun c=>?_)
    · have c':k < (ns.length:Int):=of_decide_eq_true c
      refine .inl ⟨p,_,k,.int (ns.getD k.toNat 0),rfl,rfl,hS,?_,q _⟩
      have e:((k.toNat:Nat):Int) = k:=by omega
      rw [← e]
      refine cU ?_
      have hk:k.toNat < ns.length:=by omega
      rw [e]
      simp [List.getElem?_map,List.getD,hk]
    · exact ⟨clB,q _⟩
theorem wY (T:Txt K mg a):FnOk P w K mg base CX0 1 a.f_L_mix a.d_L_mix ["_law_cell_here", "_law_k"] vy:=by
  refine T.F_L_mix.ok sc_L_mix (fun vs H Q E h=>?_) (fun cdv A outer s H vs Q E hr h=>?_)
  · obtain ⟨c,k,rfl,_⟩:=h; rfl
  · obtain ⟨c,k,rfl,h0,h1,q⟩:=h
    refine ⟨_,(am (bg (i:=2) sc_L_mix.nd rfl (Or.inl rfl) (aB cK (aB eL (aB mG (aB mG (aB cK (vr 0) af) (aB eL af (vr 1))) af) af) af)) (am (bg (i:=2) sc_L_mix.nd rfl (Or.inl rfl) (aB cK (aB mG (aB eL (vr 2) (vr 2)) (aB eL af (vr 1))) af)) (ap (aG (aB cK (aB eL (vr 2) (aB mG (vr 2) af)) af))))),?_⟩
    exact ⟨cp,clB,crB,cp,clB (by omega) (by omega),clB,cp,clB (by omega) (by omega),cp,q _ (by omega)⟩
theorem ok_law {ts:List Addr} (T:Txt K mg a) (hB:Bm mg base) (hts:∀ q ∈ tabs a,q.1 ∈ ts):FnOk P w K mg base CX0 lawK a.f_law a.d_law ["_law_script"] (spLaw K ts):=by
  have G_L_cell:FnOk P w K mg base CX0 8 _ _ _ (sM K):=(ur T).mono (by decide)
  have G_L_mix:FnOk P w K mg base CX0 8 _ _ _ vy:=(wY T).mono (by decide)
  have G_L_good:FnOk P w K mg base CX0 8 _ _ _ sy:=(uP T).mono (by decide)
  have G_L_spoilt:FnOk P w K mg base CX0 8 _ _ _ mJ:=(pY T).mono (by decide)
  have G_L_kind:FnOk P w K mg base CX0 8 _ _ _ (qD a):=tP T hB
  refine T.F_law.ok sc_law (fun vs H Q E h=>?_) (fun cdv A outer s H vs Q E hr h=>?_)
  · obtain ⟨p,ns,rfl,_⟩:=h; rfl
  · obtain ⟨p,ns,rfl,hS,hlen,hT0,q⟩:=h
    have hT:=rV hts hT0
    refine ⟨_,(am (fB PassesOwn.never rfl (kE rfl T.z_range (aa (av (pR rfl) rfl T.z_max xm (aa af (aa (av (kj rfl) rfl T.z_min nq (aa (av aU rfl T.z_len ci (aa (vr 0) ae)) (aa af ae))) ae))) ae)) (aw (i:=1) sc_law.nd rfl (Or.inl rfl)) (am (bg (i:=2) sc_law.nd rfl (Or.inl rfl) (au G_L_cell hr rfl T.m_L_cell T.F_L_cell.kp T.B_L_cell .nil aH (aa (vr 0) (aa (vr 1) ae)))) (pZ (cX (bh ej (aB cK (vr 2) af) af (aD _)) (ap (bg (i:=2) sc_law.nd rfl (Or.inl rfl) (au G_L_mix hr rfl T.m_L_mix T.F_L_mix.kp T.B_L_mix .nil aH (aa (vr 2) (aa (vr 1) ae))))) bC) (am (bg (i:=3) sc_law.nd rfl (Or.inl rfl) (aB cK (aB bQ (vr 2) af) af)) (am (bg (i:=4) sc_law.nd rfl (Or.inl rfl) (aI aC (dN (aa (dN (aa gW (aa gW ae))) (aa (dN (aa gW (aa gW ae))) ae))) (aB bQ (vr 3) af) (fun _ _=>rfl))) (am (bg (i:=5) sc_law.nd rfl (Or.inl rfl) (au G_L_good hr rfl T.m_L_good T.F_L_good.kp T.B_L_good .nil aH (aa (vr 3) (aa (cM ej (aB cK (aB bQ (vr 2) af) af) af (aD _)) ae)))) (ap (cX (PW.pt (qA (bh (vI hr.units) (au G_L_kind hr rfl T.m_L_kind T.F_L_kind.kp T.B_L_kind .nil aH (aa (vr 3) (aa (au G_L_spoilt hr rfl T.m_L_spoilt T.F_L_spoilt.kp T.B_L_spoilt .nil aH (aa (vr 3) (aa (aB bQ (vr 2) af) ae))) ae))) (vr 4) (aD _)) (m8 (bh (vI hr.units) (au G_L_kind hr rfl T.m_L_kind T.F_L_kind.kp T.B_L_kind .nil aH (aa (vr 3) (aa (vr 5) ae))) (dN ae) (aD _))))) (ap (aG gW)) bC)))))))) (ap (aG gW))),?_⟩
    have sl:sizeLine = 16777216:=sizeLine_eq
    have nl:(ns.map V.int).length = ns.length:=List.length_map ..
    refine ⟨ns.map V.int,.inl hS,((ns.map V.int).length:Int),40,rfl,4,_,rfl,_,rfl,(by split <;> split <;> omega),(by split <;> split <;> omega),?_⟩
    obtain ⟨top,htop⟩:∃ top:Int,top = (if (if (40:Int) < ((ns.map V.int).length:Int) then (40:Int) else ((ns.map V.int).length:Int)) > 4 then (if (40:Int) < ((ns.map V.int).length:Int) then (40:Int) else ((ns.map V.int).length:Int)) else 4):=⟨_,rfl⟩
    have top40:top≤40:=by rw [htop]; split <;> split <;> omega
    rw [← htop]
    refine pL (lo:=0) (n:=top.toNat) (fun i σ H'=>SameT H H'∧TabsOk (tabs a) H'∧∃ (x1 x2 x3 x4 x5:Option V),σ = [some (.ref p),x1,x2,x3,x4,x5]) ⟨SameT.refl,hT,none,none,none,none,none,rfl⟩ ?_ ?_
    · rintro i σ G hi ⟨tG,hTG,x1,x2,x3,x4,x5,rfl⟩
      refine ⟨p,ns,0 + (i:Int),rfl,zm tG hS,hlen,by omega,by omega,fun c0=>?_⟩
      refine ⟨fun σ' H'=>H' = G∧∃ c:Int,σ' = [some (.ref p),some (.int (0 + (i:Int))),some (.int c),x3,x4,x5],?_,?_⟩
      · refine ⟨cp,ifC (fun _=>?_) fun _=>⟨rfl,_,rfl⟩⟩
        exact ⟨_,_,rfl,by omega,by omega,fun r _=>⟨rfl,_,rfl⟩⟩
      rintro σ' H' ⟨rfl,c,rfl⟩
      have w0:0≤c / 2 % 4:=Int.emod_nonneg _ (by decide)
      have w4:c / 2 % 4 < 4:=Int.emod_lt_of_pos _ (by decide)
      refine ⟨cdB (by decide) (show Bt 40 (_:Int) by unfold Bt; decide),cp,?_⟩
      refine ⟨(by decide:2≤sizeLine),fun d1 hd1=>?_⟩
      have s1:=Same.new (o:=.lst [.bl true,.bl false]) hd1
      have u1:=ac (H:=H') (a:=d1) (o:=.lst [.bl true,.bl false])
      generalize upd H' d1 (.lst [.bl true,.bl false]) = H1 at s1 u1
      refine ⟨(by decide:2≤sizeLine),fun d2 hd2=>?_⟩
      have s2:=Same.new (o:=.lst [.bl false,.bl true]) hd2
      have u2:=ac (H:=H1) (a:=d2) (o:=.lst [.bl false,.bl true])
      generalize upd H1 d2 (.lst [.bl false,.bl true]) = H2 at s2 u2
      refine ⟨(by decide:2≤sizeLine),fun d0 hd0=>?_⟩
      have s3:=Same.new (o:=.lst [.ref d1,.ref d2]) hd0
      have u3:=ac (H:=H2) (a:=d0) (o:=.lst [.ref d1,.ref d2])
      generalize upd H2 d0 (.lst [.ref d1,.ref d2]) = H3 at s3 u3
      obtain ⟨dd,hat,hdd⟩:∃ dd,atI [V.ref d1,.ref d2] (c / 2 % 4 / 2) = some (.ref dd)∧H3 dd = some (.lst (lV (c / 2 % 4) false)):=by
        by_cases hw:c / 2 % 4 < 2
        · refine ⟨d1,ar 0 (by omega) rfl,?_⟩
          rw [(s2.trans s3) _ _ u1,lV,decide_eq_true hw]; rfl
        · refine ⟨d2,ar 1 (by omega) rfl,?_⟩
          rw [s3 _ _ u2,lV,decide_eq_false hw]; rfl
      refine ⟨cdB (by decide) (show Bt 40 (_:Int) by unfold Bt; decide),.inl ⟨d0,_,_,.ref dd,rfl,rfl,SqL.of u3,hat,?_⟩⟩
      have s03:=(s1.trans s2).trans s3
      refine ⟨cdB (by decide) (show Bt 40 (_:Int) by unfold Bt; decide),cp,⟨c / 2 % 4,_,rfl,w0,by omega,fun H4 Lg xg dg s4 hLg hig hRg=>?_⟩⟩
      refine ⟨cdB (by decide) (show Bt 40 (_:Int) by unfold Bt; decide),⟨c / 2 % 4,c / 8,rfl,w0,by omega,fun H5 Lb xb db s5 hLb hib hRb=>?_⟩⟩
      have hT5:TabsOk (tabs a) H5:=((hTG.same s03).same s4).same s5
      refine ⟨c / 2 % 4,Lb,xb,db,false,rfl,hLb,hib,hT5,hRb,fun H6 l6 t6 hT6 hl6=>?_⟩
      have t36:SameT H3 H6:=(s4.trans s5).t.trans t6
      have hk:lV (c / 2 % 4) false = [decide (c / 2 % 4 < 2),!decide (c / 2 % 4 < 2)].map V.bl:=rfl
      refine lH (hk ▸ hl6) (hk ▸ t36.at hdd) ?_
      have t46:SameT H4 H6:=s5.t.trans t6
      refine ⟨c / 2 % 4,Lg,xg,dg,true,rfl,t46.at hLg,hig.t t46,hT6,hRg,fun H7 l7 t7 hT7 hl7=>?_⟩
      refine ⟨(by decide:0≤sizeLine),fun l8 hl8=>?_⟩
      have s8:=Same.new (o:=.lst []) hl8
      refine lH (ns:=[]) (s8 _ _ hl7) ac ?_
      exact ⟨tG.trans (s03.t.trans (t36.trans (t7.trans s8.t))),hT7.same s8,_,_,_,_,_,rfl⟩
    · rintro σ G ⟨_,_,x1,x2,x3,x4,x5,rfl⟩
      exact q _
end
end My
namespace My
open PySem L2
theorem us0 {α:Type}:∀ {us:List α},us.length = 0→us = []
  | [],_=>rfl
theorem us1 {α:Type}:∀ {us:List α},us.length = 1→∃ a0,us = [a0]
  | [_],_=>⟨_,rfl⟩
theorem us2 {α:Type}:∀ {us:List α},us.length = 2→∃ a0 a1,us = [a0,a1]
  | [_,_],_=>⟨_,_,rfl⟩
theorem us3 {α:Type}:∀ {us:List α},us.length = 3→∃ a0 a1 a2,us = [a0,a1,a2]
  | [_,_,_],_=>⟨_,_,_,rfl⟩
theorem us4 {α:Type}:∀ {us:List α},us.length = 4→∃ a0 a1 a2 a3,us = [a0,a1,a2,a3]
  | [_,_,_,_],_=>⟨_,_,_,_,rfl⟩
theorem us5 {α:Type}:∀ {us:List α},us.length = 5→∃ a0 a1 a2 a3 a4,us = [a0,a1,a2,a3,a4]
  | [_,_,_,_,_],_=>⟨_,_,_,_,_,rfl⟩
theorem us6 {α:Type}:∀ {us:List α},us.length = 6→∃ a0 a1 a2 a3 a4 a5,us = [a0,a1,a2,a3,a4,a5]
  | [_,_,_,_,_,_],_=>⟨_,_,_,_,_,_,rfl⟩
theorem us7 {α:Type}:∀ {us:List α},us.length = 7→∃ a0 a1 a2 a3 a4 a5 a6,us = [a0,a1,a2,a3,a4,a5,a6]
  | [_,_,_,_,_,_,_],_=>⟨_,_,_,_,_,_,_,rfl⟩
theorem txt_mk {K:PySem.W.Frag} {h:Heap} {mg:Str→Option Value} {f0:Addr} {od0 an0:Option Addr} {sl0:Array (Option Value)} {oc0 kV0 dc0 pm0 cd0 ct0:Value} {f1:Addr} {od1 an1:Option Addr} {sl1:Array (Option Value)} {oc1 kV1 dc1 pm1 cd1 ct1:Value} {f2:Addr} {od2 an2:Option Addr} {sl2:Array (Option Value)} {oc2 kV2 dc2 pm2 cd2 ct2:Value} {f3:Addr} {od3 an3:Option Addr} {sl3:Array (Option Value)} {oc3 kV3 dc3 pm3 cd3 ct3:Value} {f4:Addr} {od4 an4:Option Addr} {sl4:Array (Option Value)} {oc4 kV4 dc4 pm4 cd4 ct4:Value} {f5:Addr} {od5 an5:Option Addr} {sl5:Array (Option Value)} {oc5 kV5 dc5 pm5 cd5 ct5:Value} {f6:Addr} {od6 an6:Option Addr} {sl6:Array (Option Value)} {oc6 kV6 dc6 pm6 cd6 ct6:Value} {f7:Addr} {od7 an7:Option Addr} {sl7:Array (Option Value)} {oc7 kV7 dc7 pm7 cd7 ct7:Value} {f8:Addr} {od8 an8:Option Addr} {sl8:Array (Option Value)} {oc8 kV8 dc8 pm8 cd8 ct8:Value} {f9:Addr} {od9 an9:Option Addr} {sl9:Array (Option Value)} {oc9 kV9 dc9 pm9 cd9 ct9:Value} {f10:Addr} {od10 an10:Option Addr} {sl10:Array (Option Value)} {oc10 kV10 dc10 pm10 cd10 ct10:Value} {f11:Addr} {od11 an11:Option Addr} {sl11:Array (Option Value)} {oc11 kV11 dc11 pm11 cd11 ct11:Value} {f12:Addr} {od12 an12:Option Addr} {sl12:Array (Option Value)} {oc12 kV12 dc12 pm12 cd12 ct12:Value} {f13:Addr} {od13 an13:Option Addr} {sl13:Array (Option Value)} {oc13 kV13 dc13 pm13 cd13 ct13:Value} {f14:Addr} {od14 an14:Option Addr} {sl14:Array (Option Value)} {oc14 kV14 dc14 pm14 cd14 ct14:Value} {f15:Addr} {od15 an15:Option Addr} {sl15:Array (Option Value)} {oc15 kV15 dc15 pm15 cd15 ct15:Value} {f16:Addr} {od16 an16:Option Addr} {sl16:Array (Option Value)} {oc16 kV16 dc16 pm16 cd16 ct16:Value} {f17:Addr} {od17 an17:Option Addr} {sl17:Array (Option Value)} {oc17 kV17 dc17 pm17 cd17 ct17:Value} {f18:Addr} {od18 an18:Option Addr} {sl18:Array (Option Value)} {oc18 kV18 dc18 pm18 cd18 ct18:Value} {f19:Addr} {od19 an19:Option Addr} {sl19:Array (Option Value)} {oc19 kV19 dc19 pm19 cd19 ct19:Value} {f20:Addr} {od20 an20:Option Addr} {sl20:Array (Option Value)} {oc20 kV20 dc20 pm20 cd20 ct20:Value} {f21:Addr} {od21 an21:Option Addr} {sl21:Array (Option Value)} {oc21 kV21 dc21 pm21 cd21 ct21:Value} {f22:Addr} {od22 an22:Option Addr} {sl22:Array (Option Value)} {oc22 kV22 dc22 pm22 cd22 ct22:Value} {f23:Addr} {od23 an23:Option Addr} {sl23:Array (Option Value)} {oc23 kV23 dc23 pm23 cd23 ct23:Value} {f24:Addr} {od24 an24:Option Addr} {sl24:Array (Option Value)} {oc24 kV24 dc24 pm24 cd24 ct24:Value} {f25:Addr} {od25 an25:Option Addr} {sl25:Array (Option Value)} {oc25 kV25 dc25 pm25 cd25 ct25:Value} {f26:Addr} {od26 an26:Option Addr} {sl26:Array (Option Value)} {oc26 kV26 dc26 pm26 cd26 ct26:Value} {f27:Addr} {od27 an27:Option Addr} {sl27:Array (Option Value)} {oc27 kV27 dc27 pm27 cd27 ct27:Value} {f28:Addr} {od28 an28:Option Addr} {sl28:Array (Option Value)} {oc28 kV28 dc28 pm28 cd28 ct28:Value} {f29:Addr} {od29 an29:Option Addr} {sl29:Array (Option Value)} {oc29 kV29 dc29 pm29 cd29 ct29:Value} {f30:Addr} {od30 an30:Option Addr} {sl30:Array (Option Value)} {oc30 kV30 dc30 pm30 cd30 ct30:Value} {f31:Addr} {od31 an31:Option Addr} {sl31:Array (Option Value)} {oc31 kV31 dc31 pm31 cd31 ct31:Value} {f32:Addr} {od32 an32:Option Addr} {sl32:Array (Option Value)} {oc32 kV32 dc32 pm32 cd32 ct32:Value} {f33:Addr} {od33 an33:Option Addr} {sl33:Array (Option Value)} {oc33 kV33 dc33 pm33 cd33 ct33:Value} {f34:Addr} {od34 an34:Option Addr} {sl34:Array (Option Value)} {oc34 kV34 dc34 pm34 cd34 ct34:Value} {f35:Addr} {od35 an35:Option Addr} {sl35:Array (Option Value)} {oc35 kV35 dc35 pm35 cd35 ct35:Value} {f36:Addr} {od36 an36:Option Addr} {sl36:Array (Option Value)} {oc36 kV36 dc36 pm36 cd36 ct36:Value} {f37:Addr} {od37 an37:Option Addr} {sl37:Array (Option Value)} {oc37 kV37 dc37 pm37 cd37 ct37:Value} {f38:Addr} {od38 an38:Option Addr} {sl38:Array (Option Value)} {oc38 kV38 dc38 pm38 cd38 ct38:Value} {f39:Addr} {od39 an39:Option Addr} {sl39:Array (Option Value)} {oc39 kV39 dc39 pm39 cd39 ct39:Value} {f40:Addr} {od40 an40:Option Addr} {sl40:Array (Option Value)} {oc40 kV40 dc40 pm40 cd40 ct40:Value} {f41:Addr} {od41 an41:Option Addr} {sl41:Array (Option Value)} {oc41 kV41 dc41 pm41 cd41 ct41:Value} {k_WORDS:Addr} {u0:Value} {u1:Value} {u2:Value} {u3:Value} {u4:Value} {u5:Value} {u6:Value} {c_SpeakError:Addr} {c_NoAnswers:Addr} {c_NoBounds:Addr} {lc_least_filling lp_least_filling:Addr} {lo_0:Value} {lod_0:Option Addr} {lvs_0:Array Value} {lsl_0:Array (Option Value)} {lc_need_bounds lp_need_bounds:Addr} {lo_1:Value} {lod_1:Option Addr} {lvs_1:Array Value} {lsl_1:Array (Option Value)} (X:K.In h) (G:h.Ns mainGlobals mg)
    (a0:PySem.W.nsIn K mainGlobals "is_whole" = some (some (.ref f0))) (l0:K.lookup f0 = some ⟨oc0,od0,.func (PySem.W.fnOf "is_whole" "is_whole" (aj bL) (ai bL) (ad bL) .none kV0 dc0 pm0 an0 cd0 ct0),sl0⟩) (c0:PySem.W.codeIn K cd0 "is_whole" = true) (k0:PySem.W.keepIn K (.ref f0) = true)
    (a1:PySem.W.nsIn K mainGlobals "is_list_of" = some (some (.ref f1))) (l1:K.lookup f1 = some ⟨oc1,od1,.func (PySem.W.fnOf "is_list_of" "is_list_of" (aj bp) (ai bp) (ad bp) .none kV1 dc1 pm1 an1 cd1 ct1),sl1⟩) (c1:PySem.W.codeIn K cd1 "is_list_of" = true) (k1:PySem.W.keepIn K (.ref f1) = true)
    (a2:PySem.W.nsIn K mainGlobals "is_wished_sum" = some (some (.ref f2))) (l2:K.lookup f2 = some ⟨oc2,od2,.func (PySem.W.fnOf "is_wished_sum" "is_wished_sum" (aj aQ) (ai aQ) (ad aQ) .none kV2 dc2 pm2 an2 cd2 ct2),sl2⟩) (c2:PySem.W.codeIn K cd2 "is_wished_sum" = true) (k2:PySem.W.keepIn K (.ref f2) = true)
    (a3:PySem.W.nsIn K mainGlobals "is_bounded_led" = some (some (.ref f3))) (l3:K.lookup f3 = some ⟨oc3,od3,.func (PySem.W.fnOf "is_bounded" "is_bounded" (aj aO) (ai aO) (ad aO) .none kV3 dc3 pm3 an3 cd3 ct3),sl3⟩) (c3:PySem.W.codeIn K cd3 "is_bounded" = true) (k3:PySem.W.keepIn K (.ref f3) = true)
    (a4:PySem.W.nsIn K mainGlobals "need_bounds" = some (some (.ref f4))) (l4:K.lookup f4 = some ⟨oc4,od4,.func (PySem.W.fnOf "need_bounds" "need_bounds" (aj aW) (ai aW) (ad aW) .none kV4 dc4 pm4 an4 cd4 ct4),sl4⟩) (c4:PySem.W.codeIn K cd4 "need_bounds" = true) (k4:PySem.W.keepIn K (.ref f4) = true)
    (a5:PySem.W.nsIn K mainGlobals "sums_of" = some (some (.ref f5))) (l5:K.lookup f5 = some ⟨oc5,od5,.func (PySem.W.fnOf "sums_of" "sums_of" (aj b7) (ai b7) (ad b7) .none kV5 dc5 pm5 an5 cd5 ct5),sl5⟩) (c5:PySem.W.codeIn K cd5 "sums_of" = true) (k5:PySem.W.keepIn K (.ref f5) = true)
    (a6:PySem.W.nsIn K mainGlobals "led" = some (some (.ref f6))) (l6:K.lookup f6 = some ⟨oc6,od6,.func (PySem.W.fnOf "led" "led" (aj gm) (ai gm) (ad gm) .none kV6 dc6 pm6 an6 cd6 ct6),sl6⟩) (c6:PySem.W.codeIn K cd6 "led" = true) (k6:PySem.W.keepIn K (.ref f6) = true)
    (a7:PySem.W.nsIn K mainGlobals "spare_of" = some (some (.ref f7))) (l7:K.lookup f7 = some ⟨oc7,od7,.func (PySem.W.fnOf "spare_of" "spare_of" (aj bK) (ai bK) (ad bK) .none kV7 dc7 pm7 an7 cd7 ct7),sl7⟩) (c7:PySem.W.codeIn K cd7 "spare_of" = true) (k7:PySem.W.keepIn K (.ref f7) = true)
    (a8:PySem.W.nsIn K mainGlobals "reached_from" = some (some (.ref f8))) (l8:K.lookup f8 = some ⟨oc8,od8,.func (PySem.W.fnOf "reached_from" "reached_from" (aj aZ) (ai aZ) (ad aZ) .none kV8 dc8 pm8 an8 cd8 ct8),sl8⟩) (c8:PySem.W.codeIn K cd8 "reached_from" = true) (k8:PySem.W.keepIn K (.ref f8) = true)
    (a9:PySem.W.nsIn K mainGlobals "other_end" = some (some (.ref f9))) (l9:K.lookup f9 = some ⟨oc9,od9,.func (PySem.W.fnOf "other_end" "other_end" (aj bx) (ai bx) (ad bx) .none kV9 dc9 pm9 an9 cd9 ct9),sl9⟩) (c9:PySem.W.codeIn K cd9 "other_end" = true) (k9:PySem.W.keepIn K (.ref f9) = true)
    (a10:PySem.W.nsIn K mainGlobals "room" = some (some (.ref f10))) (l10:K.lookup f10 = some ⟨oc10,od10,.func (PySem.W.fnOf "room" "room" (aj dU) (ai dU) (ad dU) .none kV10 dc10 pm10 an10 cd10 ct10),sl10⟩) (c10:PySem.W.codeIn K cd10 "room" = true) (k10:PySem.W.keepIn K (.ref f10) = true)
    (a11:PySem.W.nsIn K mainGlobals "path_to" = some (some (.ref f11))) (l11:K.lookup f11 = some ⟨oc11,od11,.func (PySem.W.fnOf "path_to" "path_to" (aj cb) (ai cb) (ad cb) .none kV11 dc11 pm11 an11 cd11 ct11),sl11⟩) (c11:PySem.W.codeIn K cd11 "path_to" = true) (k11:PySem.W.keepIn K (.ref f11) = true)
    (a12:PySem.W.nsIn K mainGlobals "given_along" = some (some (.ref f12))) (l12:K.lookup f12 = some ⟨oc12,od12,.func (PySem.W.fnOf "given_along" "given_along" (aj bf) (ai bf) (ad bf) .none kV12 dc12 pm12 an12 cd12 ct12),sl12⟩) (c12:PySem.W.codeIn K cd12 "given_along" = true) (k12:PySem.W.keepIn K (.ref f12) = true)
    (a13:PySem.W.nsIn K mainGlobals "reached_on" = some (some (.ref f13))) (l13:K.lookup f13 = some ⟨oc13,od13,.func (PySem.W.fnOf "reached_on" "reached_on" (aj bi) (ai bi) (ad bi) .none kV13 dc13 pm13 an13 cd13 ct13),sl13⟩) (c13:PySem.W.codeIn K cd13 "reached_on" = true) (k13:PySem.W.keepIn K (.ref f13) = true)
    (a14:PySem.W.nsIn K mainGlobals "is_led" = some (some (.ref f14))) (l14:K.lookup f14 = some ⟨oc14,od14,.func (PySem.W.fnOf "is_led" "is_led" (aj cF) (ai cF) (ad cF) .none kV14 dc14 pm14 an14 cd14 ct14),sl14⟩) (c14:PySem.W.codeIn K cd14 "is_led" = true) (k14:PySem.W.keepIn K (.ref f14) = true)
    (a15:PySem.W.nsIn K mainGlobals "are_led" = some (some (.ref f15))) (l15:K.lookup f15 = some ⟨oc15,od15,.func (PySem.W.fnOf "are_led" "are_led" (aj ce) (ai ce) (ad ce) .none kV15 dc15 pm15 an15 cd15 ct15),sl15⟩) (c15:PySem.W.codeIn K cd15 "are_led" = true) (k15:PySem.W.keepIn K (.ref f15) = true)
    (a16:PySem.W.nsIn K mainGlobals "shows_none" = some (some (.ref f16))) (l16:K.lookup f16 = some ⟨oc16,od16,.func (PySem.W.fnOf "shows_none" "shows_none" (aj bq) (ai bq) (ad bq) .none kV16 dc16 pm16 an16 cd16 ct16),sl16⟩) (c16:PySem.W.codeIn K cd16 "shows_none" = true) (k16:PySem.W.keepIn K (.ref f16) = true)
    (a17:PySem.W.nsIn K mainGlobals "greatest_more" = some (some (.ref f17))) (l17:K.lookup f17 = some ⟨oc17,od17,.func (PySem.W.fnOf "greatest_more" "greatest_more" (aj ba) (ai ba) (ad ba) .none kV17 dc17 pm17 an17 cd17 ct17),sl17⟩) (c17:PySem.W.codeIn K cd17 "greatest_more" = true) (k17:PySem.W.keepIn K (.ref f17) = true)
    (a18:PySem.W.nsIn K mainGlobals "is_rising" = some (some (.ref f18))) (l18:K.lookup f18 = some ⟨oc18,od18,.func (PySem.W.fnOf "is_rising" "is_rising" (aj bI) (ai bI) (ad bI) .none kV18 dc18 pm18 an18 cd18 ct18),sl18⟩) (c18:PySem.W.codeIn K cd18 "is_rising" = true) (k18:PySem.W.keepIn K (.ref f18) = true)
    (a19:PySem.W.nsIn K mainGlobals "greatest_divisor" = some (some (.ref f19))) (l19:K.lookup f19 = some ⟨oc19,od19,.func (PySem.W.fnOf "greatest_divisor" "greatest_divisor" (aj aK) (ai aK) (ad aK) .none kV19 dc19 pm19 an19 cd19 ct19),sl19⟩) (c19:PySem.W.codeIn K cd19 "greatest_divisor" = true) (k19:PySem.W.keepIn K (.ref f19) = true)
    (a20:PySem.W.nsIn K mainGlobals "share" = some (some (.ref f20))) (l20:K.lookup f20 = some ⟨oc20,od20,.func (PySem.W.fnOf "share" "share" (aj dq) (ai dq) (ad dq) .none kV20 dc20 pm20 an20 cd20 ct20),sl20⟩) (c20:PySem.W.codeIn K cd20 "share" = true) (k20:PySem.W.keepIn K (.ref f20) = true)
    (a21:PySem.W.nsIn K mainGlobals "is_bounded_lacking" = some (some (.ref f21))) (l21:K.lookup f21 = some ⟨oc21,od21,.func (PySem.W.fnOf "is_bounded" "is_bounded" (aj aE) (ai aE) (ad aE) .none kV21 dc21 pm21 an21 cd21 ct21),sl21⟩) (c21:PySem.W.codeIn K cd21 "is_bounded" = true) (k21:PySem.W.keepIn K (.ref f21) = true)
    (a22:PySem.W.nsIn K mainGlobals "is_answer" = some (some (.ref f22))) (l22:K.lookup f22 = some ⟨oc22,od22,.func (PySem.W.fnOf "is_answer" "is_answer" (aj bv) (ai bv) (ad bv) .none kV22 dc22 pm22 an22 cd22 ct22),sl22⟩) (c22:PySem.W.codeIn K cd22 "is_answer" = true) (k22:PySem.W.keepIn K (.ref f22) = true)
    (a23:PySem.W.nsIn K mainGlobals "is_worded_answer" = some (some (.ref f23))) (l23:K.lookup f23 = some ⟨oc23,od23,.func (PySem.W.fnOf "is_worded_answer" "is_worded_answer" (aj aJ) (ai aJ) (ad aJ) .none kV23 dc23 pm23 an23 cd23 ct23),sl23⟩) (c23:PySem.W.codeIn K cd23 "is_worded_answer" = true) (k23:PySem.W.keepIn K (.ref f23) = true)
    (a24:PySem.W.nsIn K mainGlobals "is_word" = some (some (.ref f24))) (l24:K.lookup f24 = some ⟨oc24,od24,.func (PySem.W.fnOf "is_word" "is_word" (aj cf) (ai cf) (ad cf) .none kV24 dc24 pm24 an24 cd24 ct24),sl24⟩) (c24:PySem.W.codeIn K cd24 "is_word" = true) (k24:PySem.W.keepIn K (.ref f24) = true)
    (a25:PySem.W.nsIn K mainGlobals "need_answers" = some (some (.ref f25))) (l25:K.lookup f25 = some ⟨oc25,od25,.func (PySem.W.fnOf "need_answers" "need_answers" (aj aY) (ai aY) (ad aY) .none kV25 dc25 pm25 an25 cd25 ct25),sl25⟩) (c25:PySem.W.codeIn K cd25 "need_answers" = true) (k25:PySem.W.keepIn K (.ref f25) = true)
    (a26:PySem.W.nsIn K mainGlobals "total_stretch" = some (some (.ref f26))) (l26:K.lookup f26 = some ⟨oc26,od26,.func (PySem.W.fnOf "total_stretch" "total_stretch" (aj aR) (ai aR) (ad aR) .none kV26 dc26 pm26 an26 cd26 ct26),sl26⟩) (c26:PySem.W.codeIn K cd26 "total_stretch" = true) (k26:PySem.W.keepIn K (.ref f26) = true)
    (a27:PySem.W.nsIn K mainGlobals "total_by" = some (some (.ref f27))) (l27:K.lookup f27 = some ⟨oc27,od27,.func (PySem.W.fnOf "total_by" "total_by" (aj bO) (ai bO) (ad bO) .none kV27 dc27 pm27 an27 cd27 ct27),sl27⟩) (c27:PySem.W.codeIn K cd27 "total_by" = true) (k27:PySem.W.keepIn K (.ref f27) = true)
    (a28:PySem.W.nsIn K mainGlobals "weight_by" = some (some (.ref f28))) (l28:K.lookup f28 = some ⟨oc28,od28,.func (PySem.W.fnOf "weight_by" "weight_by" (aj bt) (ai bt) (ad bt) .none kV28 dc28 pm28 an28 cd28 ct28),sl28⟩) (c28:PySem.W.codeIn K cd28 "weight_by" = true) (k28:PySem.W.keepIn K (.ref f28) = true)
    (a29:PySem.W.nsIn K mainGlobals "mean_stretch" = some (some (.ref f29))) (l29:K.lookup f29 = some ⟨oc29,od29,.func (PySem.W.fnOf "mean_stretch" "mean_stretch" (aj aV) (ai aV) (ad aV) .none kV29 dc29 pm29 an29 cd29 ct29),sl29⟩) (c29:PySem.W.codeIn K cd29 "mean_stretch" = true) (k29:PySem.W.keepIn K (.ref f29) = true)
    (a30:PySem.W.nsIn K mainGlobals "mean_by" = some (some (.ref f30))) (l30:K.lookup f30 = some ⟨oc30,od30,.func (PySem.W.fnOf "mean_by" "mean_by" (aj bZ) (ai bZ) (ad bZ) .none kV30 dc30 pm30 an30 cd30 ct30),sl30⟩) (c30:PySem.W.codeIn K cd30 "mean_by" = true) (k30:PySem.W.keepIn K (.ref f30) = true)
    (a31:PySem.W.nsIn K mainGlobals "least_filling" = some (some (.ref f31))) (l31:K.lookup f31 = some ⟨oc31,od31,.func (PySem.W.fnOf "least_filling" "least_filling" (aj aM) (ai aM) (ad aM) .none kV31 dc31 pm31 an31 cd31 ct31),sl31⟩) (c31:PySem.W.codeIn K cd31 "least_filling" = true) (k31:PySem.W.keepIn K (.ref f31) = true)
    (a32:PySem.W.nsIn K mainGlobals "counts_none" = some (some (.ref f32))) (l32:K.lookup f32 = some ⟨oc32,od32,.func (PySem.W.fnOf "counts_none" "counts_none" (aj be) (ai be) (ad be) .none kV32 dc32 pm32 an32 cd32 ct32),sl32⟩) (c32:PySem.W.codeIn K cd32 "counts_none" = true) (k32:PySem.W.keepIn K (.ref f32) = true)
    (a33:PySem.W.nsIn K mainGlobals "_law_cell" = some (some (.ref f33))) (l33:K.lookup f33 = some ⟨oc33,od33,.func (PySem.W.fnOf "_law_cell" "_law_cell" (aj cH) (ai cH) (ad cH) .none kV33 dc33 pm33 an33 cd33 ct33),sl33⟩) (c33:PySem.W.codeIn K cd33 "_law_cell" = true) (k33:PySem.W.keepIn K (.ref f33) = true)
    (a34:PySem.W.nsIn K mainGlobals "_law_mix" = some (some (.ref f34))) (l34:K.lookup f34 = some ⟨oc34,od34,.func (PySem.W.fnOf "_law_mix" "_law_mix" (aj dv) (ai dv) (ad dv) .none kV34 dc34 pm34 an34 cd34 ct34),sl34⟩) (c34:PySem.W.codeIn K cd34 "_law_mix" = true) (k34:PySem.W.keepIn K (.ref f34) = true)
    (a35:PySem.W.nsIn K mainGlobals "_law_kind" = some (some (.ref f35))) (l35:K.lookup f35 = some ⟨oc35,od35,.func (PySem.W.fnOf "_law_kind" "_law_kind" (aj cI) (ai cI) (ad cI) .none kV35 dc35 pm35 an35 cd35 ct35),sl35⟩) (c35:PySem.W.codeIn K cd35 "_law_kind" = true) (k35:PySem.W.keepIn K (.ref f35) = true)
    (a36:PySem.W.nsIn K mainGlobals "_law_bad_list" = some (some (.ref f36))) (l36:K.lookup f36 = some ⟨oc36,od36,.func (PySem.W.fnOf "_law_bad_list" "_law_bad_list" (aj bj) (ai bj) (ad bj) .none kV36 dc36 pm36 an36 cd36 ct36),sl36⟩) (c36:PySem.W.codeIn K cd36 "_law_bad_list" = true) (k36:PySem.W.keepIn K (.ref f36) = true)
    (a37:PySem.W.nsIn K mainGlobals "_law_bad_unit" = some (some (.ref f37))) (l37:K.lookup f37 = some ⟨oc37,od37,.func (PySem.W.fnOf "_law_bad_unit" "_law_bad_unit" (aj bn) (ai bn) (ad bn) .none kV37 dc37 pm37 an37 cd37 ct37),sl37⟩) (c37:PySem.W.codeIn K cd37 "_law_bad_unit" = true) (k37:PySem.W.keepIn K (.ref f37) = true)
    (a38:PySem.W.nsIn K mainGlobals "_law_bad_answer" = some (some (.ref f38))) (l38:K.lookup f38 = some ⟨oc38,od38,.func (PySem.W.fnOf "_law_bad_answer" "_law_bad_answer" (aj aX) (ai aX) (ad aX) .none kV38 dc38 pm38 an38 cd38 ct38),sl38⟩) (c38:PySem.W.codeIn K cd38 "_law_bad_answer" = true) (k38:PySem.W.keepIn K (.ref f38) = true)
    (a39:PySem.W.nsIn K mainGlobals "_law_spoilt" = some (some (.ref f39))) (l39:K.lookup f39 = some ⟨oc39,od39,.func (PySem.W.fnOf "_law_spoilt" "_law_spoilt" (aj bN) (ai bN) (ad bN) .none kV39 dc39 pm39 an39 cd39 ct39),sl39⟩) (c39:PySem.W.codeIn K cd39 "_law_spoilt" = true) (k39:PySem.W.keepIn K (.ref f39) = true)
    (a40:PySem.W.nsIn K mainGlobals "_law_good" = some (some (.ref f40))) (l40:K.lookup f40 = some ⟨oc40,od40,.func (PySem.W.fnOf "_law_good" "_law_good" (aj cL) (ai cL) (ad cL) .none kV40 dc40 pm40 an40 cd40 ct40),sl40⟩) (c40:PySem.W.codeIn K cd40 "_law_good" = true) (k40:PySem.W.keepIn K (.ref f40) = true)
    (a41:PySem.W.nsIn K mainGlobals "law" = some (some (.ref f41))) (l41:K.lookup f41 = some ⟨oc41,od41,.func (PySem.W.fnOf "law" "law" (aj gi) (ai gi) (ad gi) .none kV41 dc41 pm41 an41 cd41 ct41),sl41⟩) (c41:PySem.W.codeIn K cd41 "law" = true) (k41:PySem.W.keepIn K (.ref f41) = true)
    (b_WORDS:PySem.W.nsIn K mainGlobals "WORDS" = some (some (.ref k_WORDS))) (bt_WORDS:ll K k_WORDS [(.str "yes"),(.str "no"),(.str "open")] = true)
    (b0:PySem.W.nsIn K mainGlobals "MOST_SUMS" = some (some u0))
    (b1:PySem.W.nsIn K mainGlobals "MOST_SUM" = some (some u1))
    (b2:PySem.W.nsIn K mainGlobals "MOST_UNITS" = some (some u2))
    (b3:PySem.W.nsIn K mainGlobals "MOST_WEIGHT_led" = some (some u3))
    (b4:PySem.W.nsIn K mainGlobals "MOST_ANSWERS" = some (some u4))
    (b5:PySem.W.nsIn K mainGlobals "MOST_WEIGHT_lacking" = some (some u5))
    (b6:PySem.W.nsIn K mainGlobals "ANSWER_BOUND" = some (some u6))
    (ca_SpeakError:PySem.W.nsIn K mainGlobals "SpeakError" = some (some (.ref c_SpeakError))) (cb_SpeakError:PySem.W.keepIn K (.ref c_SpeakError) = true) (cc_SpeakError:ni K c_SpeakError = true)
    (cx_SpeakError:xIn K c_SpeakError none = true)
    (ca_NoAnswers:PySem.W.nsIn K mainGlobals "NoAnswers" = some (some (.ref c_NoAnswers))) (cb_NoAnswers:PySem.W.keepIn K (.ref c_NoAnswers) = true) (cc_NoAnswers:ni K c_NoAnswers = true)
    (cx_NoAnswers:xIn K c_NoAnswers none = true)
    (ca_NoBounds:PySem.W.nsIn K mainGlobals "NoBounds" = some (some (.ref c_NoBounds))) (cb_NoBounds:PySem.W.keepIn K (.ref c_NoBounds) = true) (cc_NoBounds:ni K c_NoBounds = true)
    (cx_NoBounds:xIn K c_NoBounds none = true)
    (lca_0:cd31 = .ref lc_least_filling) (lct_0:K.lookup lc_least_filling = some ⟨lo_0,lod_0,.fields lvs_0,lsl_0⟩) (lcq_0:lvs_0[11]? = some (.ref lp_least_filling)) (lch_least_filling:PySem.W.codeHdIn K lc_least_filling lp_least_filling = true)
    (lca_1:cd4 = .ref lc_need_bounds) (lct_1:K.lookup lc_need_bounds = some ⟨lo_1,lod_1,.fields lvs_1,lsl_1⟩) (lcq_1:lvs_1[11]? = some (.ref lp_need_bounds)) (lch_need_bounds:PySem.W.codeHdIn K lc_need_bounds lp_need_bounds = true)
    (ltnd:([lp_least_filling,lp_need_bounds]:List Addr).Nodup)
    (fact_tn:PySem.W.mroIn K c_NoBounds (.ref c_SpeakError) = some true)
    (fact_ta:PySem.W.mroIn K c_NoAnswers (.ref c_SpeakError) = some true)
    (fact_k1:PySem.W.kitOne K (.ref c_NoBounds) (.ref c_NoBounds) = some true)
    (fact_k2:PySem.W.kitOne K (.ref c_NoBounds) (.ref c_NoAnswers) = some false)
    (fact_k3:PySem.W.kitOne K (.ref c_NoAnswers) (.ref c_NoBounds) = some false)
    (fact_k4:PySem.W.kitOne K (.ref c_NoAnswers) (.ref c_NoAnswers) = some true)
    (z0:PySem.W.nsIn K mainGlobals "abs" = some none)
    (z1:PySem.W.nsIn K mainGlobals "all" = some none)
    (z2:PySem.W.nsIn K mainGlobals "bool" = some none)
    (z3:PySem.W.nsIn K mainGlobals "enumerate" = some none)
    (z4:PySem.W.nsIn K mainGlobals "int" = some none)
    (z5:PySem.W.nsIn K mainGlobals "isinstance" = some none)
    (z6:PySem.W.nsIn K mainGlobals "len" = some none)
    (z7:PySem.W.nsIn K mainGlobals "list" = some none)
    (z8:PySem.W.nsIn K mainGlobals "max" = some none)
    (z9:PySem.W.nsIn K mainGlobals "min" = some none)
    (z10:PySem.W.nsIn K mainGlobals "range" = some none)
    (z11:PySem.W.nsIn K mainGlobals "set" = some none)
    (z12:PySem.W.nsIn K mainGlobals "sorted" = some none)
    (z13:PySem.W.nsIn K mainGlobals "str" = some none)
    (z14:PySem.W.nsIn K mainGlobals "sum" = some none)
    (z15:PySem.W.nsIn K mainGlobals "tuple" = some none)
    (z16:PySem.W.nsIn K mainGlobals "zip" = some none) (r0:RelV (.int 6) u0) (r1:RelV (.int 24000000) u1) (r2:RelV (.int 24) u2) (r3:RelV (.int 1000000) u3) (r4:RelV (.int 24) u4) (r5:RelV (.int 1000000) u5) (r6:RelV (.int 1000000000) u6):∃ a:Ad,Txt K mg a∧(tabs a).map (·.1) = [lp_least_filling,lp_need_bounds]:=by
  refine ⟨{ f_is_whole:=f0,d_is_whole:=PySem.W.fnOf "is_whole" "is_whole" (aj bL) (ai bL) (ad bL) .none kV0 dc0 pm0 an0 cd0 ct0,f_is_list_of:=f1,d_is_list_of:=PySem.W.fnOf "is_list_of" "is_list_of" (aj bp) (ai bp) (ad bp) .none kV1 dc1 pm1 an1 cd1 ct1,f_is_wished_sum:=f2,d_is_wished_sum:=PySem.W.fnOf "is_wished_sum" "is_wished_sum" (aj aQ) (ai aQ) (ad aQ) .none kV2 dc2 pm2 an2 cd2 ct2,f_is_bounded_led:=f3,d_is_bounded_led:=PySem.W.fnOf "is_bounded" "is_bounded" (aj aO) (ai aO) (ad aO) .none kV3 dc3 pm3 an3 cd3 ct3,f_need_bounds:=f4,d_need_bounds:=PySem.W.fnOf "need_bounds" "need_bounds" (aj aW) (ai aW) (ad aW) .none kV4 dc4 pm4 an4 cd4 ct4,f_sums_of:=f5,d_sums_of:=PySem.W.fnOf "sums_of" "sums_of" (aj b7) (ai b7) (ad b7) .none kV5 dc5 pm5 an5 cd5 ct5,f_led:=f6,d_led:=PySem.W.fnOf "led" "led" (aj gm) (ai gm) (ad gm) .none kV6 dc6 pm6 an6 cd6 ct6,f_spare_of:=f7,d_spare_of:=PySem.W.fnOf "spare_of" "spare_of" (aj bK) (ai bK) (ad bK) .none kV7 dc7 pm7 an7 cd7 ct7,f_reached_from:=f8,d_reached_from:=PySem.W.fnOf "reached_from" "reached_from" (aj aZ) (ai aZ) (ad aZ) .none kV8 dc8 pm8 an8 cd8 ct8,f_other_end:=f9,d_other_end:=PySem.W.fnOf "other_end" "other_end" (aj bx) (ai bx) (ad bx) .none kV9 dc9 pm9 an9 cd9 ct9,f_room:=f10,d_room:=PySem.W.fnOf "room" "room" (aj dU) (ai dU) (ad dU) .none kV10 dc10 pm10 an10 cd10 ct10,f_path_to:=f11,d_path_to:=PySem.W.fnOf "path_to" "path_to" (aj cb) (ai cb) (ad cb) .none kV11 dc11 pm11 an11 cd11 ct11,f_given_along:=f12,d_given_along:=PySem.W.fnOf "given_along" "given_along" (aj bf) (ai bf) (ad bf) .none kV12 dc12 pm12 an12 cd12 ct12,f_reached_on:=f13,d_reached_on:=PySem.W.fnOf "reached_on" "reached_on" (aj bi) (ai bi) (ad bi) .none kV13 dc13 pm13 an13 cd13 ct13,f_is_led:=f14,d_is_led:=PySem.W.fnOf "is_led" "is_led" (aj cF) (ai cF) (ad cF) .none kV14 dc14 pm14 an14 cd14 ct14,f_are_led:=f15,d_are_led:=PySem.W.fnOf "are_led" "are_led" (aj ce) (ai ce) (ad ce) .none kV15 dc15 pm15 an15 cd15 ct15,f_shows_none:=f16,d_shows_none:=PySem.W.fnOf "shows_none" "shows_none" (aj bq) (ai bq) (ad bq) .none kV16 dc16 pm16 an16 cd16 ct16,f_greatest_more:=f17,d_greatest_more:=PySem.W.fnOf "greatest_more" "greatest_more" (aj ba) (ai ba) (ad ba) .none kV17 dc17 pm17 an17 cd17 ct17,f_is_rising:=f18,d_is_rising:=PySem.W.fnOf "is_rising" "is_rising" (aj bI) (ai bI) (ad bI) .none kV18 dc18 pm18 an18 cd18 ct18,f_greatest_divisor:=f19,d_greatest_divisor:=PySem.W.fnOf "greatest_divisor" "greatest_divisor" (aj aK) (ai aK) (ad aK) .none kV19 dc19 pm19 an19 cd19 ct19,f_share:=f20,d_share:=PySem.W.fnOf "share" "share" (aj dq) (ai dq) (ad dq) .none kV20 dc20 pm20 an20 cd20 ct20,f_is_bounded_lacking:=f21,d_is_bounded_lacking:=PySem.W.fnOf "is_bounded" "is_bounded" (aj aE) (ai aE) (ad aE) .none kV21 dc21 pm21 an21 cd21 ct21,f_is_answer:=f22,d_is_answer:=PySem.W.fnOf "is_answer" "is_answer" (aj bv) (ai bv) (ad bv) .none kV22 dc22 pm22 an22 cd22 ct22,f_is_worded_answer:=f23,d_is_worded_answer:=PySem.W.fnOf "is_worded_answer" "is_worded_answer" (aj aJ) (ai aJ) (ad aJ) .none kV23 dc23 pm23 an23 cd23 ct23,f_is_word:=f24,d_is_word:=PySem.W.fnOf "is_word" "is_word" (aj cf) (ai cf) (ad cf) .none kV24 dc24 pm24 an24 cd24 ct24,f_need_answers:=f25,d_need_answers:=PySem.W.fnOf "need_answers" "need_answers" (aj aY) (ai aY) (ad aY) .none kV25 dc25 pm25 an25 cd25 ct25,f_total_stretch:=f26,d_total_stretch:=PySem.W.fnOf "total_stretch" "total_stretch" (aj aR) (ai aR) (ad aR) .none kV26 dc26 pm26 an26 cd26 ct26,f_total_by:=f27,d_total_by:=PySem.W.fnOf "total_by" "total_by" (aj bO) (ai bO) (ad bO) .none kV27 dc27 pm27 an27 cd27 ct27,f_weight_by:=f28,d_weight_by:=PySem.W.fnOf "weight_by" "weight_by" (aj bt) (ai bt) (ad bt) .none kV28 dc28 pm28 an28 cd28 ct28,f_mean_stretch:=f29,d_mean_stretch:=PySem.W.fnOf "mean_stretch" "mean_stretch" (aj aV) (ai aV) (ad aV) .none kV29 dc29 pm29 an29 cd29 ct29,f_mean_by:=f30,d_mean_by:=PySem.W.fnOf "mean_by" "mean_by" (aj bZ) (ai bZ) (ad bZ) .none kV30 dc30 pm30 an30 cd30 ct30,f_least_filling:=f31,d_least_filling:=PySem.W.fnOf "least_filling" "least_filling" (aj aM) (ai aM) (ad aM) .none kV31 dc31 pm31 an31 cd31 ct31,f_counts_none:=f32,d_counts_none:=PySem.W.fnOf "counts_none" "counts_none" (aj be) (ai be) (ad be) .none kV32 dc32 pm32 an32 cd32 ct32,f_L_cell:=f33,d_L_cell:=PySem.W.fnOf "_law_cell" "_law_cell" (aj cH) (ai cH) (ad cH) .none kV33 dc33 pm33 an33 cd33 ct33,f_L_mix:=f34,d_L_mix:=PySem.W.fnOf "_law_mix" "_law_mix" (aj dv) (ai dv) (ad dv) .none kV34 dc34 pm34 an34 cd34 ct34,f_L_kind:=f35,d_L_kind:=PySem.W.fnOf "_law_kind" "_law_kind" (aj cI) (ai cI) (ad cI) .none kV35 dc35 pm35 an35 cd35 ct35,f_L_bad_list:=f36,d_L_bad_list:=PySem.W.fnOf "_law_bad_list" "_law_bad_list" (aj bj) (ai bj) (ad bj) .none kV36 dc36 pm36 an36 cd36 ct36,f_L_bad_unit:=f37,d_L_bad_unit:=PySem.W.fnOf "_law_bad_unit" "_law_bad_unit" (aj bn) (ai bn) (ad bn) .none kV37 dc37 pm37 an37 cd37 ct37,f_L_bad_answer:=f38,d_L_bad_answer:=PySem.W.fnOf "_law_bad_answer" "_law_bad_answer" (aj aX) (ai aX) (ad aX) .none kV38 dc38 pm38 an38 cd38 ct38,f_L_spoilt:=f39,d_L_spoilt:=PySem.W.fnOf "_law_spoilt" "_law_spoilt" (aj bN) (ai bN) (ad bN) .none kV39 dc39 pm39 an39 cd39 ct39,f_L_good:=f40,d_L_good:=PySem.W.fnOf "_law_good" "_law_good" (aj cL) (ai cL) (ad cL) .none kV40 dc40 pm40 an40 cd40 ct40,f_law:=f41,d_law:=PySem.W.fnOf "law" "law" (aj gi) (ai gi) (ad gi) .none kV41 dc41 pm41 an41 cd41 ct41,c_SpeakError:=c_SpeakError,c_NoAnswers:=c_NoAnswers,c_NoBounds:=c_NoBounds,k_WORDS:=k_WORDS,lc_least_filling:=lc_least_filling,lp_least_filling:=lp_least_filling,lc_need_bounds:=lc_need_bounds,lp_need_bounds:=lp_need_bounds },?_,rfl⟩
  exact {
    lcd_least_filling:=lca_0
    lch_least_filling:=lch_least_filling
    lcd_need_bounds:=lca_1
    lch_need_bounds:=lch_need_bounds
    tnd:=ltnd
    F_is_whole:=aq (st:=bL) l0 c0 k0
    B_is_whole:=(aq (st:=bL) l0 c0 k0).binds (ps:=["thing", "low", "high"]) fun _ _ _ _ _ _ us hl=>(by obtain ⟨_,_,_,rfl⟩:=us3 hl; rfl)
    m_is_whole:=PySem.W.mg_of X G a0
    F_is_list_of:=aq (st:=bp) l1 c1 k1
    B_is_list_of:=(aq (st:=bp) l1 c1 k1).binds (ps:=["thing", "most", "is_one"]) fun _ _ _ _ _ _ us hl=>(by obtain ⟨_,_,_,rfl⟩:=us3 hl; rfl)
    m_is_list_of:=PySem.W.mg_of X G a1
    F_is_wished_sum:=aq (st:=aQ) l2 c2 k2
    B_is_wished_sum:=(aq (st:=aQ) l2 c2 k2).binds (ps:=["thing"]) fun _ _ _ _ _ _ us hl=>(by obtain ⟨_,rfl⟩:=us1 hl; rfl)
    m_is_wished_sum:=PySem.W.mg_of X G a2
    F_is_bounded_led:=aq (st:=aO) l3 c3 k3
    B_is_bounded_led:=(aq (st:=aO) l3 c3 k3).binds (ps:=["thing", "rows", "columns"]) fun _ _ _ _ _ _ us hl=>(by obtain ⟨_,_,_,rfl⟩:=us3 hl; rfl)
    m_is_bounded_led:=PySem.W.mg_of X G a3
    F_need_bounds:=aq (st:=aW) l4 c4 k4
    B_need_bounds:=(aq (st:=aW) l4 c4 k4).binds (ps:=["rows", "columns", "units"]) fun _ _ _ _ _ _ us hl=>(by obtain ⟨_,_,_,rfl⟩:=us3 hl; rfl)
    m_need_bounds:=PySem.W.mg_of X G a4
    F_sums_of:=aq (st:=b7) l5 c5 k5
    B_sums_of:=(aq (st:=b7) l5 c5 k5).binds (ps:=["weights", "units", "side", "many"]) fun _ _ _ _ _ _ us hl=>(by obtain ⟨_,_,_,_,rfl⟩:=us4 hl; rfl)
    m_sums_of:=PySem.W.mg_of X G a5
    F_led:=aq (st:=gm) l6 c6 k6
    B_led:=(aq (st:=gm) l6 c6 k6).binds (ps:=["rows", "columns", "units"]) fun _ _ _ _ _ _ us hl=>(by obtain ⟨_,_,_,rfl⟩:=us3 hl; rfl)
    m_led:=PySem.W.mg_of X G a6
    F_spare_of:=aq (st:=bK) l7 c7 k7
    B_spare_of:=(aq (st:=bK) l7 c7 k7).binds (ps:=["rows", "columns", "units", "weights"]) fun _ _ _ _ _ _ us hl=>(by obtain ⟨_,_,_,_,rfl⟩:=us4 hl; rfl)
    m_spare_of:=PySem.W.mg_of X G a7
    F_reached_from:=aq (st:=aZ) l8 c8 k8
    B_reached_from:=(aq (st:=aZ) l8 c8 k8).binds (ps:=["starts", "units", "weights"]) fun _ _ _ _ _ _ us hl=>(by obtain ⟨_,_,_,rfl⟩:=us3 hl; rfl)
    m_reached_from:=PySem.W.mg_of X G a8
    F_other_end:=aq (st:=bx) l9 c9 k9
    B_other_end:=(aq (st:=bx) l9 c9 k9).binds (ps:=["unit", "here"]) fun _ _ _ _ _ _ us hl=>(by obtain ⟨_,_,rfl⟩:=us2 hl; rfl)
    m_other_end:=PySem.W.mg_of X G a9
    F_room:=aq (st:=dU) l10 c10 k10
    B_room:=(aq (st:=dU) l10 c10 k10).binds (ps:=["unit", "weight", "start"]) fun _ _ _ _ _ _ us hl=>(by obtain ⟨_,_,_,rfl⟩:=us3 hl; rfl)
    m_room:=PySem.W.mg_of X G a10
    F_path_to:=aq (st:=cb) l11 c11 k11
    B_path_to:=(aq (st:=cb) l11 c11 k11).binds (ps:=["last", "by", "units"]) fun _ _ _ _ _ _ us hl=>(by obtain ⟨_,_,_,rfl⟩:=us3 hl; rfl)
    m_path_to:=PySem.W.mg_of X G a11
    F_given_along:=aq (st:=bf) l12 c12 k12
    B_given_along:=(aq (st:=bf) l12 c12 k12).binds (ps:=["path", "most", "units", "weights"]) fun _ _ _ _ _ _ us hl=>(by obtain ⟨_,_,_,_,rfl⟩:=us4 hl; rfl)
    m_given_along:=PySem.W.mg_of X G a12
    F_reached_on:=aq (st:=bi) l13 c13 k13
    B_reached_on:=(aq (st:=bi) l13 c13 k13).binds (ps:=["side", "by"]) fun _ _ _ _ _ _ us hl=>(by obtain ⟨_,_,rfl⟩:=us2 hl; rfl)
    m_reached_on:=PySem.W.mg_of X G a13
    F_is_led:=aq (st:=cF) l14 c14 k14
    B_is_led:=(aq (st:=cF) l14 c14 k14).binds (ps:=["rows", "columns", "units", "told"]) fun _ _ _ _ _ _ us hl=>(by obtain ⟨_,_,_,_,rfl⟩:=us4 hl; rfl)
    m_is_led:=PySem.W.mg_of X G a14
    F_are_led:=aq (st:=ce) l15 c15 k15
    B_are_led:=(aq (st:=ce) l15 c15 k15).binds (ps:=["rows", "columns", "units", "weights"]) fun _ _ _ _ _ _ us hl=>(by obtain ⟨_,_,_,_,rfl⟩:=us4 hl; rfl)
    m_are_led:=PySem.W.mg_of X G a15
    F_shows_none:=aq (st:=bq) l16 c16 k16
    B_shows_none:=(aq (st:=bq) l16 c16 k16).binds (ps:=["rows", "columns", "units", "told"]) fun _ _ _ _ _ _ us hl=>(by obtain ⟨_,_,_,_,rfl⟩:=us4 hl; rfl)
    m_shows_none:=PySem.W.mg_of X G a16
    F_greatest_more:=aq (st:=ba) l17 c17 k17
    B_greatest_more:=(aq (st:=ba) l17 c17 k17).binds (ps:=["ones", "others"]) fun _ _ _ _ _ _ us hl=>(by obtain ⟨_,_,rfl⟩:=us2 hl; rfl)
    m_greatest_more:=PySem.W.mg_of X G a17
    F_is_rising:=aq (st:=bI) l18 c18 k18
    B_is_rising:=(aq (st:=bI) l18 c18 k18).binds (ps:=["numbers", "many"]) fun _ _ _ _ _ _ us hl=>(by obtain ⟨_,_,rfl⟩:=us2 hl; rfl)
    m_is_rising:=PySem.W.mg_of X G a18
    F_greatest_divisor:=aq (st:=aK) l19 c19 k19
    B_greatest_divisor:=(aq (st:=aK) l19 c19 k19).binds (ps:=["one", "other"]) fun _ _ _ _ _ _ us hl=>(by obtain ⟨_,_,rfl⟩:=us2 hl; rfl)
    m_greatest_divisor:=PySem.W.mg_of X G a19
    F_share:=aq (st:=dq) l20 c20 k20
    B_share:=(aq (st:=dq) l20 c20 k20).binds (ps:=["top", "bottom"]) fun _ _ _ _ _ _ us hl=>(by obtain ⟨_,_,rfl⟩:=us2 hl; rfl)
    m_share:=PySem.W.mg_of X G a20
    F_is_bounded_lacking:=aq (st:=aE) l21 c21 k21
    B_is_bounded_lacking:=(aq (st:=aE) l21 c21 k21).binds (ps:=["weight", "low", "high"]) fun _ _ _ _ _ _ us hl=>(by obtain ⟨_,_,_,rfl⟩:=us3 hl; rfl)
    m_is_bounded_lacking:=PySem.W.mg_of X G a21
    F_is_answer:=aq (st:=bv) l22 c22 k22
    B_is_answer:=(aq (st:=bv) l22 c22 k22).binds (ps:=["thing"]) fun _ _ _ _ _ _ us hl=>(by obtain ⟨_,rfl⟩:=us1 hl; rfl)
    m_is_answer:=PySem.W.mg_of X G a22
    F_is_worded_answer:=aq (st:=aJ) l23 c23 k23
    B_is_worded_answer:=(aq (st:=aJ) l23 c23 k23).binds (ps:=["thing"]) fun _ _ _ _ _ _ us hl=>(by obtain ⟨_,rfl⟩:=us1 hl; rfl)
    m_is_worded_answer:=PySem.W.mg_of X G a23
    F_is_word:=aq (st:=cf) l24 c24 k24
    B_is_word:=(aq (st:=cf) l24 c24 k24).binds (ps:=["thing"]) fun _ _ _ _ _ _ us hl=>(by obtain ⟨_,rfl⟩:=us1 hl; rfl)
    m_is_word:=PySem.W.mg_of X G a24
    F_need_answers:=aq (st:=aY) l25 c25 k25
    B_need_answers:=(aq (st:=aY) l25 c25 k25).binds (ps:=["answers", "is_one"]) fun _ _ _ _ _ _ us hl=>(by obtain ⟨_,_,rfl⟩:=us2 hl; rfl)
    m_need_answers:=PySem.W.mg_of X G a25
    F_total_stretch:=aq (st:=aR) l26 c26 k26
    B_total_stretch:=(aq (st:=aR) l26 c26 k26).binds (ps:=["answers"]) fun _ _ _ _ _ _ us hl=>(by obtain ⟨_,rfl⟩:=us1 hl; rfl)
    m_total_stretch:=PySem.W.mg_of X G a26
    F_total_by:=aq (st:=bO) l27 c27 k27
    B_total_by:=(aq (st:=bO) l27 c27 k27).binds (ps:=["answers", "filling"]) fun _ _ _ _ _ _ us hl=>(by obtain ⟨_,_,rfl⟩:=us2 hl; rfl)
    m_total_by:=PySem.W.mg_of X G a27
    F_weight_by:=aq (st:=bt) l28 c28 k28
    B_weight_by:=(aq (st:=bt) l28 c28 k28).binds (ps:=["answers", "filling"]) fun _ _ _ _ _ _ us hl=>(by obtain ⟨_,_,rfl⟩:=us2 hl; rfl)
    m_weight_by:=PySem.W.mg_of X G a28
    F_mean_stretch:=aq (st:=aV) l29 c29 k29
    B_mean_stretch:=(aq (st:=aV) l29 c29 k29).binds (ps:=["answers"]) fun _ _ _ _ _ _ us hl=>(by obtain ⟨_,rfl⟩:=us1 hl; rfl)
    m_mean_stretch:=PySem.W.mg_of X G a29
    F_mean_by:=aq (st:=bZ) l30 c30 k30
    B_mean_by:=(aq (st:=bZ) l30 c30 k30).binds (ps:=["answers", "filling"]) fun _ _ _ _ _ _ us hl=>(by obtain ⟨_,_,rfl⟩:=us2 hl; rfl)
    m_mean_by:=PySem.W.mg_of X G a30
    F_least_filling:=aq (st:=aM) l31 c31 k31
    B_least_filling:=(aq (st:=aM) l31 c31 k31).binds (ps:=["answers"]) fun _ _ _ _ _ _ us hl=>(by obtain ⟨_,rfl⟩:=us1 hl; rfl)
    m_least_filling:=PySem.W.mg_of X G a31
    F_counts_none:=aq (st:=be) l32 c32 k32
    B_counts_none:=(aq (st:=be) l32 c32 k32).binds (ps:=["filling"]) fun _ _ _ _ _ _ us hl=>(by obtain ⟨_,rfl⟩:=us1 hl; rfl)
    m_counts_none:=PySem.W.mg_of X G a32
    F_L_cell:=aq (st:=cH) l33 c33 k33
    B_L_cell:=(aq (st:=cH) l33 c33 k33).binds (ps:=["_law_script", "_law_k"]) fun _ _ _ _ _ _ us hl=>(by obtain ⟨_,_,rfl⟩:=us2 hl; rfl)
    m_L_cell:=PySem.W.mg_of X G a33
    F_L_mix:=aq (st:=dv) l34 c34 k34
    B_L_mix:=(aq (st:=dv) l34 c34 k34).binds (ps:=["_law_cell_here", "_law_k"]) fun _ _ _ _ _ _ us hl=>(by obtain ⟨_,_,rfl⟩:=us2 hl; rfl)
    m_L_mix:=PySem.W.mg_of X G a34
    F_L_kind:=aq (st:=cI) l35 c35 k35
    B_L_kind:=(aq (st:=cI) l35 c35 k35).binds (ps:=["_law_way", "_law_things"]) fun _ _ _ _ _ _ us hl=>(by obtain ⟨_,_,rfl⟩:=us2 hl; rfl)
    m_L_kind:=PySem.W.mg_of X G a35
    F_L_bad_list:=aq (st:=bj) l36 c36 k36
    B_L_bad_list:=(aq (st:=bj) l36 c36 k36).binds (ps:=["_law_cell_here", "_law_place"]) fun _ _ _ _ _ _ us hl=>(by obtain ⟨_,_,rfl⟩:=us2 hl; rfl)
    m_L_bad_list:=PySem.W.mg_of X G a36
    F_L_bad_unit:=aq (st:=bn) l37 c37 k37
    B_L_bad_unit:=(aq (st:=bn) l37 c37 k37).binds (ps:=["_law_cell_here"]) fun _ _ _ _ _ _ us hl=>(by obtain ⟨_,rfl⟩:=us1 hl; rfl)
    m_L_bad_unit:=PySem.W.mg_of X G a37
    F_L_bad_answer:=aq (st:=aX) l38 c38 k38
    B_L_bad_answer:=(aq (st:=aX) l38 c38 k38).binds (ps:=["_law_cell_here", "_law_way"]) fun _ _ _ _ _ _ us hl=>(by obtain ⟨_,_,rfl⟩:=us2 hl; rfl)
    m_L_bad_answer:=PySem.W.mg_of X G a38
    F_L_spoilt:=aq (st:=bN) l39 c39 k39
    B_L_spoilt:=(aq (st:=bN) l39 c39 k39).binds (ps:=["_law_way", "_law_cell_here"]) fun _ _ _ _ _ _ us hl=>(by obtain ⟨_,_,rfl⟩:=us2 hl; rfl)
    m_L_spoilt:=PySem.W.mg_of X G a39
    F_L_good:=aq (st:=cL) l40 c40 k40
    B_L_good:=(aq (st:=cL) l40 c40 k40).binds (ps:=["_law_way", "_law_edge"]) fun _ _ _ _ _ _ us hl=>(by obtain ⟨_,_,rfl⟩:=us2 hl; rfl)
    m_L_good:=PySem.W.mg_of X G a40
    F_law:=aq (st:=gi) l41 c41 k41
    B_law:=(aq (st:=gi) l41 c41 k41).binds (ps:=["_law_script"]) fun _ _ _ _ _ _ us hl=>(by obtain ⟨_,rfl⟩:=us1 hl; rfl)
    m_law:=PySem.W.mg_of X G a41
    g_WORDS:=⟨_,PySem.W.mg_of X G b_WORDS,rfl⟩
    t_WORDS:=bt_WORDS
    g_MOST_SUMS:=⟨u0,PySem.W.mg_of X G b0,r0⟩
    g_MOST_SUM:=⟨u1,PySem.W.mg_of X G b1,r1⟩
    g_MOST_UNITS:=⟨u2,PySem.W.mg_of X G b2,r2⟩
    g_MOST_WEIGHT_led:=⟨u3,PySem.W.mg_of X G b3,r3⟩
    g_MOST_ANSWERS:=⟨u4,PySem.W.mg_of X G b4,r4⟩
    g_MOST_WEIGHT_lacking:=⟨u5,PySem.W.mg_of X G b5,r5⟩
    g_ANSWER_BOUND:=⟨u6,PySem.W.mg_of X G b6,r6⟩
    mc_SpeakError:=PySem.W.mg_of X G ca_SpeakError
    g_SpeakError:=⟨_,PySem.W.mg_of X G ca_SpeakError,rfl⟩
    kc_SpeakError:=cb_SpeakError
    xc_SpeakError:=sr cc_SpeakError
    xh_SpeakError:=qX cc_SpeakError
    xi_SpeakError:=cx_SpeakError
    mc_NoAnswers:=PySem.W.mg_of X G ca_NoAnswers
    g_NoAnswers:=⟨_,PySem.W.mg_of X G ca_NoAnswers,rfl⟩
    kc_NoAnswers:=cb_NoAnswers
    xc_NoAnswers:=sr cc_NoAnswers
    xh_NoAnswers:=qX cc_NoAnswers
    xi_NoAnswers:=cx_NoAnswers
    mc_NoBounds:=PySem.W.mg_of X G ca_NoBounds
    g_NoBounds:=⟨_,PySem.W.mg_of X G ca_NoBounds,rfl⟩
    kc_NoBounds:=cb_NoBounds
    xc_NoBounds:=sr cc_NoBounds
    xh_NoBounds:=qX cc_NoBounds
    xi_NoBounds:=cx_NoBounds
    tn:=fact_tn
    ta:=fact_ta
    k1:=fact_k1
    k2:=fact_k2
    k3:=fact_k3
    k4:=fact_k4
    z_abs:=PySem.W.mg_none_of X G z0
    z_all:=PySem.W.mg_none_of X G z1
    z_bool:=PySem.W.mg_none_of X G z2
    z_enumerate:=PySem.W.mg_none_of X G z3
    z_int:=PySem.W.mg_none_of X G z4
    z_isinstance:=PySem.W.mg_none_of X G z5
    z_len:=PySem.W.mg_none_of X G z6
    z_list:=PySem.W.mg_none_of X G z7
    z_max:=PySem.W.mg_none_of X G z8
    z_min:=PySem.W.mg_none_of X G z9
    z_range:=PySem.W.mg_none_of X G z10
    z_set:=PySem.W.mg_none_of X G z11
    z_sorted:=PySem.W.mg_none_of X G z12
    z_str:=PySem.W.mg_none_of X G z13
    z_sum:=PySem.W.mg_none_of X G z14
    z_tuple:=PySem.W.mg_none_of X G z15
    z_zip:=PySem.W.mg_none_of X G z16
    bl:=fun s u=>.of_eq rfl }
end My
open PySem PySem.W PyProof.Rows
def PySem.W.Fast.tw7219740682910050401:Nat:=0
def PySem.W.Fast.tw8597146419276024514:Nat:=0
def PySem.W.Fast.tw1686769130037878562:Nat:=0
def PySem.W.Fast.tw13337999851510274851:Nat:=0
def PySem.W.Fast.tw2608472600452360452:Nat:=0
def PySem.W.Fast.tw3230160267497820262:Nat:=0
def PySem.W.Fast.tw947388695221804494:Nat:=0
def PySem.W.Fast.tw16484320930607403087:Nat:=0
def PySem.W.Fast.tw5863672043289602160:Nat:=0
def PySem.W.Fast.tw7012347109523596281:Nat:=0
def PySem.W.Fast.tw11777105878497716028:Nat:=0
set_option maxRecDepth 100000 in
set_option maxHeartbeats 0 in
theorem PySem.Challenge.cw_fewspeak_k77_no_bounds_and_no_answers_holds : PySem.Challenge.rw_fewspeak_k77_no_bounds_and_no_answers.Holds := by
  w_on; o_law; k_head; (case hw=>w_witness2)
  k_fill
  refine L2.walk_ofT (l:=PySem.Challenge.rw_fewspeak_k77_no_bounds_and_no_answers) (n:=63) (k:=My.lawK) (x := "_law_script") (CX:=L2.CX0) (sp:=My.spLaw) rfl (by decide) rfl ⟨rfl,by decide,by decide⟩ (fun w h Y=>⟨PySem.W.km_in_of Y,PySem.W.km_tabs_of Y⟩) ?F ?S ?C
  case F =>
    intro ts' hts w mg fa h KX G hmg
    have T:∃ a,My.Txt (L2.KOf KX) mg a∧(My.tabs a).map (·.1) = ts':=by
      rw [hts]
      dsimp only [L2.KOf]
      refine' My.txt_mk KX G ?a0 ?l0 ?c0 ?k0 ?a1 ?l1 ?c1 ?k1 ?a2 ?l2 ?c2 ?k2 ?a3 ?l3 ?c3 ?k3 ?a4 ?l4 ?c4 ?k4 ?a5 ?l5 ?c5 ?k5 ?a6 ?l6 ?c6 ?k6 ?a7 ?l7 ?c7 ?k7 ?a8 ?l8 ?c8 ?k8 ?a9 ?l9 ?c9 ?k9 ?a10 ?l10 ?c10 ?k10 ?a11 ?l11 ?c11 ?k11 ?a12 ?l12 ?c12 ?k12 ?a13 ?l13 ?c13 ?k13 ?a14 ?l14 ?c14 ?k14 ?a15 ?l15 ?c15 ?k15 ?a16 ?l16 ?c16 ?k16 ?a17 ?l17 ?c17 ?k17 ?a18 ?l18 ?c18 ?k18 ?a19 ?l19 ?c19 ?k19 ?a20 ?l20 ?c20 ?k20 ?a21 ?l21 ?c21 ?k21 ?a22 ?l22 ?c22 ?k22 ?a23 ?l23 ?c23 ?k23 ?a24 ?l24 ?c24 ?k24 ?a25 ?l25 ?c25 ?k25 ?a26 ?l26 ?c26 ?k26 ?a27 ?l27 ?c27 ?k27 ?a28 ?l28 ?c28 ?k28 ?a29 ?l29 ?c29 ?k29 ?a30 ?l30 ?c30 ?k30 ?a31 ?l31 ?c31 ?k31 ?a32 ?l32 ?c32 ?k32 ?a33 ?l33 ?c33 ?k33 ?a34 ?l34 ?c34 ?k34 ?a35 ?l35 ?c35 ?k35 ?a36 ?l36 ?c36 ?k36 ?a37 ?l37 ?c37 ?k37 ?a38 ?l38 ?c38 ?k38 ?a39 ?l39 ?c39 ?k39 ?a40 ?l40 ?c40 ?k40 ?a41 ?l41 ?c41 ?k41 ?b_WORDS ?bt_WORDS ?b0 ?b1 ?b2 ?b3 ?b4 ?b5 ?b6 ?ca_SpeakError ?cb_SpeakError ?cc_SpeakError ?cx_SpeakError ?ca_NoAnswers ?cb_NoAnswers ?cc_NoAnswers ?cx_NoAnswers ?ca_NoBounds ?cb_NoBounds ?cc_NoBounds ?cx_NoBounds ?lca_0 ?lct_0 ?lcq_0 ?lch_least_filling ?lca_1 ?lct_1 ?lcq_1 ?lch_need_bounds ?ltnd ?fact_tn ?fact_ta ?fact_k1 ?fact_k2 ?fact_k3 ?fact_k4 ?z0 ?z1 ?z2 ?z3 ?z4 ?z5 ?z6 ?z7 ?z8 ?z9 ?z10 ?z11 ?z12 ?z13 ?z14 ?z15 ?z16 ?r0 ?r1 ?r2 ?r3 ?r4 ?r5 ?r6
      (case a0=>k_is)
      (case l0=>k_is)
      (case c0=>k_is)
      (case k0=>k_is)
      (case a1=>k_is)
      (case l1=>k_is)
      (case c1=>k_is)
      (case k1=>k_is)
      (case a2=>k_is)
      (case l2=>k_is)
      (case c2=>k_is)
      (case k2=>k_is)
      (case a3=>k_is)
      (case l3=>k_is)
      (case c3=>k_is)
      (case k3=>k_is)
      (case a4=>k_is)
      (case l4=>k_is)
      (case c4=>k_is)
      (case k4=>k_is)
      (case a5=>k_is)
      (case l5=>k_is)
      (case c5=>k_is)
      (case k5=>k_is)
      (case a6=>k_is)
      (case l6=>k_is)
      (case c6=>k_is)
      (case k6=>k_is)
      (case a7=>k_is)
      (case l7=>k_is)
      (case c7=>k_is)
      (case k7=>k_is)
      (case a8=>k_is)
      (case l8=>k_is)
      (case c8=>k_is)
      (case k8=>k_is)
      (case a9=>k_is)
      (case l9=>k_is)
      (case c9=>k_is)
      (case k9=>k_is)
      (case a10=>k_is)
      (case l10=>k_is)
      (case c10=>k_is)
      (case k10=>k_is)
      (case a11=>k_is)
      (case l11=>k_is)
      (case c11=>k_is)
      (case k11=>k_is)
      (case a12=>k_is)
      (case l12=>k_is)
      (case c12=>k_is)
      (case k12=>k_is)
      (case a13=>k_is)
      (case l13=>k_is)
      (case c13=>k_is)
      (case k13=>k_is)
      (case a14=>k_is)
      (case l14=>k_is)
      (case c14=>k_is)
      (case k14=>k_is)
      (case a15=>k_is)
      (case l15=>k_is)
      (case c15=>k_is)
      (case k15=>k_is)
      (case a16=>k_is)
      (case l16=>k_is)
      (case c16=>k_is)
      (case k16=>k_is)
      (case a17=>k_is)
      (case l17=>k_is)
      (case c17=>k_is)
      (case k17=>k_is)
      (case a18=>k_is)
      (case l18=>k_is)
      (case c18=>k_is)
      (case k18=>k_is)
      (case a19=>k_is)
      (case l19=>k_is)
      (case c19=>k_is)
      (case k19=>k_is)
      (case a20=>k_is)
      (case l20=>k_is)
      (case c20=>k_is)
      (case k20=>k_is)
      (case a21=>k_is)
      (case l21=>k_is)
      (case c21=>k_is)
      (case k21=>k_is)
      (case a22=>k_is)
      (case l22=>k_is)
      (case c22=>k_is)
      (case k22=>k_is)
      (case a23=>k_is)
      (case l23=>k_is)
      (case c23=>k_is)
      (case k23=>k_is)
      (case a24=>k_is)
      (case l24=>k_is)
      (case c24=>k_is)
      (case k24=>k_is)
      (case a25=>k_is)
      (case l25=>k_is)
      (case c25=>k_is)
      (case k25=>k_is)
      (case a26=>k_is)
      (case l26=>k_is)
      (case c26=>k_is)
      (case k26=>k_is)
      (case a27=>k_is)
      (case l27=>k_is)
      (case c27=>k_is)
      (case k27=>k_is)
      (case a28=>k_is)
      (case l28=>k_is)
      (case c28=>k_is)
      (case k28=>k_is)
      (case a29=>k_is)
      (case l29=>k_is)
      (case c29=>k_is)
      (case k29=>k_is)
      (case a30=>k_is)
      (case l30=>k_is)
      (case c30=>k_is)
      (case k30=>k_is)
      (case a31=>k_is)
      (case l31=>k_is)
      (case c31=>k_is)
      (case k31=>k_is)
      (case a32=>k_is)
      (case l32=>k_is)
      (case c32=>k_is)
      (case k32=>k_is)
      (case a33=>k_is)
      (case l33=>k_is)
      (case c33=>k_is)
      (case k33=>k_is)
      (case a34=>k_is)
      (case l34=>k_is)
      (case c34=>k_is)
      (case k34=>k_is)
      (case a35=>k_is)
      (case l35=>k_is)
      (case c35=>k_is)
      (case k35=>k_is)
      (case a36=>k_is)
      (case l36=>k_is)
      (case c36=>k_is)
      (case k36=>k_is)
      (case a37=>k_is)
      (case l37=>k_is)
      (case c37=>k_is)
      (case k37=>k_is)
      (case a38=>k_is)
      (case l38=>k_is)
      (case c38=>k_is)
      (case k38=>k_is)
      (case a39=>k_is)
      (case l39=>k_is)
      (case c39=>k_is)
      (case k39=>k_is)
      (case a40=>k_is)
      (case l40=>k_is)
      (case c40=>k_is)
      (case k40=>k_is)
      (case a41=>k_is)
      (case l41=>k_is)
      (case c41=>k_is)
      (case k41=>k_is)
      (case b_WORDS=>k_is)
      (case bt_WORDS=>kernel_rfl)
      (case b0=>k_is)
      (case b1=>k_is)
      (case b2=>k_is)
      (case b3=>k_is)
      (case b4=>k_is)
      (case b5=>k_is)
      (case b6=>k_is)
      (case ca_SpeakError=>k_is)
      (case cb_SpeakError=>k_is)
      (case cc_SpeakError=>kernel_rfl)
      (case cx_SpeakError=>kernel_rfl)
      (case ca_NoAnswers=>k_is)
      (case cb_NoAnswers=>k_is)
      (case cc_NoAnswers=>kernel_rfl)
      (case cx_NoAnswers=>kernel_rfl)
      (case ca_NoBounds=>k_is)
      (case cb_NoBounds=>k_is)
      (case cc_NoBounds=>kernel_rfl)
      (case cx_NoBounds=>kernel_rfl)
      (case lca_0=>exact rfl)
      (case lct_0=>k_is)
      (case lcq_0=>exact rfl)
      (case lch_least_filling=>kernel_rfl)
      (case lca_1=>exact rfl)
      (case lct_1=>k_is)
      (case lcq_1=>exact rfl)
      (case lch_need_bounds=>kernel_rfl)
      (case ltnd=>decide)
      (case fact_tn=>kernel_rfl)
      (case fact_ta=>kernel_rfl)
      (case fact_k1=>kernel_rfl)
      (case fact_k2=>kernel_rfl)
      (case fact_k3=>kernel_rfl)
      (case fact_k4=>kernel_rfl)
      (case z0=>k_is)
      (case z1=>k_is)
      (case z2=>k_is)
      (case z3=>k_is)
      (case z4=>k_is)
      (case z5=>k_is)
      (case z6=>k_is)
      (case z7=>k_is)
      (case z8=>k_is)
      (case z9=>k_is)
      (case z10=>k_is)
      (case z11=>k_is)
      (case z12=>k_is)
      (case z13=>k_is)
      (case z14=>k_is)
      (case z15=>k_is)
      (case z16=>k_is)
      (case r0=>first | exact rfl | exact ⟨_,rfl⟩)
      (case r1=>first | exact rfl | exact ⟨_,rfl⟩)
      (case r2=>first | exact rfl | exact ⟨_,rfl⟩)
      (case r3=>first | exact rfl | exact ⟨_,rfl⟩)
      (case r4=>first | exact rfl | exact ⟨_,rfl⟩)
      (case r5=>first | exact rfl | exact ⟨_,rfl⟩)
      (case r6=>first | exact rfl | exact ⟨_,rfl⟩)
    obtain ⟨a,T,e1⟩:=T
    have e1:=e1.trans hts
    have e0:=hmg.symm.trans T.m_law
    cases e0
    refine' ⟨a.d_law,?b,?t,?u,fun base kb nb hB=>My.ok_law T hB ?v⟩
    case b=>exact T.bl
    case t =>
      intro P hP
      have hP:=e1.symm ▸ hP
      simp only [My.tabs,List.map_cons,List.map_nil,List.mem_cons,List.not_mem_nil,or_false] at hP
      rcases hP with rfl | rfl
      · exact ⟨_,T.lch_least_filling⟩
      · exact ⟨_,T.lch_need_bounds⟩
    case u =>
      intro P hP
      simp only [List.mem_cons,List.not_mem_nil,or_false] at hP
      rcases hP with rfl | rfl <;> kernel_rfl
    case v =>
      intro q hq
      rw [← e1]
      exact List.mem_map_of_mem hq
  case S=>exact fun K H a ns hl hO hS=>My.law_start hl hO hS
  case C=>exact fun H s e s' z=>z
