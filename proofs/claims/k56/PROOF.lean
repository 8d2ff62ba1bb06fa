import PyProof.Rows.All
import Wide.All
import OpenK.AllK
import Wide.FinOn
import Lean
import PyProof.EqAt
import PyProof.EqKinds
import PyProof.TupleCall
import PySem.Challenge.RW_fewspeak_k56_sums_refused
noncomputable section
set_option Elab.async false
set_option linter.all false
set_option maxRecDepth 100000
namespace L2
open PySem PySem.Spec PyProof.Rows
abbrev Key:=Sum Int Str
def gW:Key→Value→Bool
  | .inl k,v=>Value.isInt k v
  | .inr x,v=>Value.isStrOf x v
def yN (w:World):Key→Int
  | .inl k=>hashInt k
  | .inr x=>hashStr w x
theorem cu:∀ {k:Key} {v:Value},gW k v = true→(∃ i t,k = Sum.inl i∧v = Value.int i t)∨(∃ x t,k = Sum.inr x∧v = Value.str x t)
  | .inl i,v,h=>by
    obtain ⟨t,e⟩:=Value.isInt_shape (k:=i) (v:=v) h
    exact .inl ⟨i,t,rfl,e⟩
  | .inr x,v,h=>by
    obtain ⟨t,e⟩:=Value.isStrOf_shape (x:=x) (v:=v) h
    exact .inr ⟨x,t,rfl,e⟩
theorem pH (i:Int) (t:Tok):gW (.inl i) (.int i t) = true:=by simp [gW,Value.isInt]
theorem pT (x:Str) (t:Tok):gW (.inr x) (.str x t) = true:=by simp [gW,Value.isStrOf]
theorem vQ (a b:Int):decide ((Sum.inl a:Key) = Sum.inl b) = (a == b):=by
  by_cases e:a = b
  · subst e; simp
  · have h:¬ (Sum.inl a:Key) = Sum.inl b:=fun q=>e (Sum.inl.inj q)
    rw [decide_eq_false h]
    exact (beq_eq_false_iff_ne.mpr e).symm
theorem ww (a b:Str):decide ((Sum.inr a:Key) = Sum.inr b) = decide (a = b):=by
  by_cases e:a = b
  · subst e; simp
  · have h:¬ (Sum.inr a:Key) = Sum.inr b:=fun q=>e (Sum.inr.inj q)
    rw [decide_eq_false h,decide_eq_false e]
theorem vp (a:Int) (b:Str):decide ((Sum.inl a:Key) = Sum.inr b) = false:=decide_eq_false (fun q=>nomatch q)
theorem vR (a:Str) (b:Int):decide ((Sum.inr a:Key) = Sum.inl b) = false:=decide_eq_false (fun q=>nomatch q)
def bH (prog:Program) (w:World):PySem.KeyKind prog w Key where
  is:=gW
  hash:=yN w
  inj:=fun v a b ha hb=>by
    rcases cu ha with ⟨i,t,rfl,rfl⟩ | ⟨x,t,rfl,rfl⟩
    · rcases cu hb with ⟨j,u,rfl,e⟩ | ⟨y,u,rfl,e⟩
      · injection e with e1 _; rw [e1]
      · exact nomatch e
    · rcases cu hb with ⟨j,u,rfl,e⟩ | ⟨y,u,rfl,e⟩
      · exact nomatch e
      · injection e with e1 _; rw [e1]
  byValue:=fun k v h=>by
    rcases cu h with ⟨i,t,rfl,rfl⟩ | ⟨x,t,rfl,rfl⟩ <;> rfl
  pyHash:=fun hv h=>by
    rcases cu hv with ⟨i,t,rfl,rfl⟩ | ⟨x,t,rfl,rfl⟩
    · exact wpAny_pyHash_int h
    · exact wpAny_pyHash_str h
  eqBool:=fun hu hv h=>by
    rcases cu hu with ⟨i,t,rfl,rfl⟩ | ⟨x,t,rfl,rfl⟩
    · rcases cu hv with ⟨j,u,rfl,rfl⟩ | ⟨y,u,rfl,rfl⟩
      · rw [vQ] at h; exact wpAny_eqBool_int h
      · rw [vp] at h; exact SeqAt.EqAt.int_str i t y u _ _ _ _ h
    · rcases cu hv with ⟨j,u,rfl,rfl⟩ | ⟨y,u,rfl,rfl⟩
      · rw [vR] at h; exact SeqAt.EqAt.str_int x t j u _ _ _ _ h
      · rw [ww] at h; exact wpAny_eqBool_str h
  «strs»:=fun k x t v h=>by
    rcases cu h with ⟨i,u,rfl,e⟩ | ⟨y,u,rfl,e⟩
    · exact nomatch e
    · injection e with e1 _
      subst e1
      cases v <;> rfl
theorem md (prog:Program) (w:World) (i:Int) (t:Tok):(bH prog w).is (.inl i) (.int i t) = true:=pH i t
theorem lz (prog:Program) (w:World) (x:Str) (t:Tok):(bH prog w).is (.inr x) (.str x t) = true:=pT x t
end L2
namespace L2
open PySem PySem.Spec PyProof.Rows
inductive V where
  | non | bl (b:Bool) | int (i:Int) | str (x:Str) | byt (b:Array UInt8) | flt (b:UInt64) | ref (a:Addr) | ty (n:String)
  deriving DecidableEq
def RelV:V→Value→Prop
  | .non,u=>u = Value.none
  | .bl b,u=>u = Value.bool b
  | .int i,u=>∃ t,u = Value.int i t
  | .str x,u=>∃ t,u = Value.str x t
  | .byt b,u=>∃ t,u = Value.bytes b t
  | .flt b,u=>∃ t,u = Value.float b t
  | .ref a,u=>u = Value.ref a
  | .ty n,u=>u = Value.type n
abbrev Vals:List V→List Value→Prop:=Paired RelV
theorem Vals.length {xs:List V} {us:List Value} (r:Vals xs us):xs.length = us.length:=Paired.length r
theorem Vals.get:∀ {xs:List V} {us:List Value} {i:Nat} {x:V},Vals xs us→xs[i]? = some x→∃ u,us[i]? = some u∧RelV x u
  | _,_,_,_,.nil,e=>by simp at e
  | _,_,0,_,.cons r _,e=>by simp at e; subst e; exact ⟨_,rfl,r⟩
  | _,_,i + 1,x,.cons _ t,e=>by
    obtain ⟨u,h1,h2⟩:=Vals.get (i:=i) (x:=x) t (by simpa using e)
    exact ⟨u,by simpa using h1,h2⟩
theorem Vals.set {x:V} {u:Value} (r:RelV x u):∀ {xs:List V} {us:List Value} (i:Nat),Vals xs us→Vals (xs.set i x) (us.set i u)
  | _,_,_,.nil=>.nil
  | _,_,0,.cons _ t=>.cons r t
  | _,_,i + 1,.cons q t=>.cons q (Vals.set r i t)
theorem Vals.append:∀ {xs ys:List V} {us ws:List Value},Vals xs us→Vals ys ws→Vals (xs ++ ys) (us ++ ws)
  | _,_,_,_,.nil,s=>s
  | _,_,_,_,.cons r t,s=>.cons r (Vals.append t s)
theorem Vals.take:∀ {xs:List V} {us:List Value} (n:Nat),Vals xs us→Vals (xs.take n) (us.take n)
  | _,_,0,_=>.nil
  | _,_,_ + 1,.nil=>.nil
  | _,_,n + 1,.cons r t=>.cons r (Vals.take n t)
theorem Vals.drop:∀ {xs:List V} {us:List Value} (n:Nat),Vals xs us→Vals (xs.drop n) (us.drop n)
  | _,_,0,r=>r
  | _,_,_ + 1,.nil=>.nil
  | _,_,n + 1,.cons _ t=>Vals.drop n t
def RelO:Option V→Option Value→Prop
  | some v,some u=>RelV v u
  | none,none=>True
  | _,_=>False
def KV {κ:Type}:List (κ×V)→List (κ×Value)→Prop:=Paired fun (p:κ×V) (q:κ×Value)=>p.1 = q.1∧RelV p.2 q.2
def kV:Key→V
  | .inl i=>.int i
  | .inr x=>.str x
inductive HO where
  | lst (xs:List V)
  | tup (xs:List V)
  | dK (kvs:List (Key×V)) | dT (kvs:List (List Key×V))
  | set (S:Int→Bool) (n:Nat)
  | ins (C dx:Addr) (fs:List (Str×V))
  | own (x:Addr)
  | xd (fs:List (Str×V))
  | met (f x:Addr)
  | rng (lo hi:Int)
  | frz (o:Obj) (u:HO)
  | tbl (ps:Array Value)
  | ext (φ:Heap→Prop)
abbrev Hp:=Addr→Option HO
def upd (H:Hp) (a:Addr) (o:HO):Hp:=fun b=>if b = a then some o else H b
theorem af {H:Hp} {a:Addr} {o:HO}:upd H a o a = some o:=by unfold upd; rw [if_pos rfl]
theorem ao {H:Hp} {a b:Addr} {o:HO} (h:b≠a):upd H a o b = H b:=by unfold upd; rw [if_neg h]
theorem i7 {H:Hp} {a:Addr} {o u:HO}:upd (upd H a o) a u = upd H a u:=by
  funext b; unfold upd; split <;> rfl
theorem oH {H:Hp} {a b:Addr} {o u:HO} (h:H a = some o) (h':H b = some u) (d:o≠u):a≠b:=by
  intro e; subst e; rw [h] at h'; exact d (Option.some.inj h')
theorem ay {H:Hp} {a b:Addr} {o:HO} (h:H a = some o) (h':H b = none):a≠b:=by
  intro e; subst e; rw [h] at h'; cases h'
section
variable (P:Program) (w:World)
def ObjOk (H:Hp) (h:Heap) (a:Addr):HO→Prop
  | .lst xs=>xs.length≤sizeLine∧∃ (its:List Value) (n:Nat),Vals xs its∧h.get? a = some { cls:=.type "list",data:=.seq its.toArray n }
  | .tup xs=>xs.length≤sizeLine∧∃ its:List Value,Vals xs its∧IsTup h a its.toArray
  | .dK kvs=>kvs.length≤sizeLine∧(a == sysModules) = false∧∃ vs,KV kvs vs∧h.DictOf (bH P w) a vs
  | .dT kvs=>kvs.length≤sizeLine∧(a == sysModules) = false∧∃ xs:List (List Key×Addr×Value),
      Paired (fun (p:List Key×V) (q:List Key×Addr×Value)=>p.1 = q.1∧H q.2.1 = some (.tup (p.1.map kV))∧RelV p.2 q.2.2) kvs xs ∧
      ∃ o es ep,h.get? a = some o∧o.ExactDict∧o.data = .dict es ep∧es.toList = xs.map (entryOfKey (tupleKind (bH P w)))∧(xs.map (·.1)).Nodup
  | .set S n=>h.SetOf (intKind P w) a S n
  | .ins C dx fs=>H dx = some (.own a)∧fs.length≤1000∧dx≠a∧h.get? a = some (PySem.W.instObj C dx) ∧
      ∃ mA,h.Ns1 dx mA∧(∀ f,RelO (fs.lookup f) (mA f))∧PySem.Within mA (fs.map (·.1))
  | .own _=>∃ o,h.get? a = some o
  | .xd fs=>∃ mA,h.Ns1 a mA∧∀ f,RelO (fs.lookup f) (mA f)
  | .rng lo hi=>∃ t u v,h.get? a = some { cls:=.type "range",data:=.fields #[.int lo t,.int hi u,.int 1 v] }
  | .frz o u=>h.get? a = some o∧ObjOk H h a u
  | .tbl ps=>h.get? a = some { cls:=.none,data:=.fields ps }
  | .met f x=>h.get? a = some (PySem.W.methodObj (.ref f) (.ref x))
  | .ext φ=>φ h∧(∃ o,h.get? a = some o)∧∀ h1 h2:Heap,φ h1→(∀ o,h1.get? a = some o→h2.get? a = some o)→φ h2
def HOk (H:Hp) (h:Heap):Prop:=∀ a o,H a = some o→ObjOk P w H h a o
end
section
variable {P:Program} {w:World} {H H':Hp} {h h':Heap} {a:Addr} {o:HO}
theorem ObjOk.lt (x:ObjOk P w H h a o):a < h.objs.size:=by
  cases o with
  | lst xs=>obtain ⟨_,_,_,_,e⟩:=x; exact Heap.lt_size e
  | tup xs=>obtain ⟨_,_,_,p⟩:=x; exact p.lt
  | dK kvs=>obtain ⟨_,_,_,_,o,_,_,e,_⟩:=x; exact Heap.lt_size e
  | dT kvs=>obtain ⟨_,_,_,_,o,_,_,e,_⟩:=x; exact Heap.lt_size e
  | set S n=>obtain ⟨o,_,_,_,e,_⟩:=x; exact Heap.lt_size e
  | ins C dx fs=>obtain ⟨_,_,_,e,_⟩:=x; exact Heap.lt_size e
  | own y=>obtain ⟨_,e⟩:=x; exact Heap.lt_size e
  | xd fs=>obtain ⟨_,⟨_,_,_,e,_⟩,_⟩:=x; exact Heap.lt_size e
  | rng lo hi=>obtain ⟨_,_,_,e⟩:=x; exact Heap.lt_size e
  | frz ob u=>obtain ⟨e,_⟩:=x; exact Heap.lt_size e
  | tbl ps=>exact Heap.lt_size (show h.get? a = some _ from x)
  | met f y=>exact Heap.lt_size (show h.get? a = some _ from x)
  | ext φ=>obtain ⟨_,⟨_,e⟩,_⟩:=x; exact Heap.lt_size e
theorem Paired.mapP {α β:Type} {F G:α→β→Prop}:∀ {l₁:List α} {l₂:List β},Paired F l₁ l₂→(∀ a b,F a b→G a b)→Paired G l₁ l₂
  | _,_,.nil,_=>.nil
  | _,_,.cons r t,f=>.cons (f _ _ r) (Paired.mapP t f)
theorem ObjOk.stay (x:ObjOk P w H h a o) (k:∀ b u,(b = a∨H b = some (.own a))→h.get? b = some u→h'.get? b = some u)
    (ho:∀ b,H b = some (.own a)→H' b = some (.own a)) (ht:∀ b xs,H b = some (.tup xs)→H' b = some (.tup xs)):ObjOk P w H' h' a o:=by
  induction o with
  | lst xs=>obtain ⟨z,its,n,r,e⟩:=x; exact ⟨z,its,n,r,k _ _ (.inl rfl) e⟩
  | tup xs=>obtain ⟨z,its,r,ob,e,c⟩:=x; exact ⟨z,its,r,ob,k _ _ (.inl rfl) e,c⟩
  | dK kvs=>obtain ⟨z,y,vs,r,ob,es,ep,e,c⟩:=x; exact ⟨z,y,vs,r,ob,es,ep,k _ _ (.inl rfl) e,c⟩
  | dT kvs =>
    obtain ⟨z,y,xs,r,ob,es,ep,e,c⟩:=x
    exact ⟨z,y,xs,Paired.mapP r fun p q z=>⟨z.1,ht _ _ z.2.1,z.2.2⟩,ob,es,ep,k _ _ (.inl rfl) e,c⟩
  | set S n=>obtain ⟨ob,es,ep,t,e,c⟩:=x; exact ⟨ob,es,ep,t,k _ _ (.inl rfl) e,c⟩
  | ins C dx fs =>
    obtain ⟨d,z,ne,e,mA,⟨od,es,ep,e2,c⟩,r⟩:=x
    exact ⟨ho _ d,z,ne,k _ _ (.inl rfl) e,mA,⟨od,es,ep,k _ _ (.inr d) e2,c⟩,r⟩
  | own y=>obtain ⟨ob,e⟩:=x; exact ⟨ob,k _ _ (.inl rfl) e⟩
  | xd fs=>obtain ⟨mA,⟨od,es,ep,e,c⟩,r⟩:=x; exact ⟨mA,⟨od,es,ep,k _ _ (.inl rfl) e,c⟩,r⟩
  | rng lo hi=>obtain ⟨t,u,v,e⟩:=x; exact ⟨t,u,v,k _ _ (.inl rfl) e⟩
  | frz ob u ih=>obtain ⟨e,q⟩:=x; exact ⟨k _ _ (.inl rfl) e,ih q⟩
  | tbl ps =>
    have e:h.get? a = some { cls:=.none,data:=.fields ps }:=x
    show h'.get? a = some { cls:=.none,data:=.fields ps }
    exact k a _ (.inl rfl) e
  | met f y =>
    have e:h.get? a = some (PySem.W.methodObj (.ref f) (.ref y)):=x
    show h'.get? a = some (PySem.W.methodObj (.ref f) (.ref y))
    exact k a _ (.inl rfl) e
  | ext φ=>obtain ⟨p,⟨o,e⟩,st⟩:=x; exact ⟨st _ _ p fun o q=>k _ _ (.inl rfl) q,⟨o,k _ _ (.inl rfl) e⟩,st⟩
theorem HOk.lt (x:HOk P w H h) (e:H a = some o):a < h.objs.size:=(x a o e).lt
theorem HOk.fresh (x:HOk P w H h) (e:h.objs.size≤a):H a = none:=by
  cases q:H a with
  | none=>rfl
  | some u=>exact absurd (Nat.lt_of_lt_of_le (x.lt q) e) (Nat.lt_irrefl _)
theorem HOk.kept (x:HOk P w H h) (k:∀ b u,h.get? b = some u→h'.get? b = some u):HOk P w H h':=fun a o e =>
  (x a o e).stay (fun b u _ q=>k b u q) (fun _ q=>q) fun _ _ q=>q
theorem HOk.laid (x:HOk P w H h) (k:∀ b u,h.get? b = some u→h'.get? b = some u) (hp:h.objs.size≤a) (new:ObjOk P w (upd H a o) h' a o):HOk P w (upd H a o) h':=fun b u e=>by
  have hn:=x.fresh hp
  by_cases hb:b = a
  · subst hb; rw [af] at e; cases e; exact new
  · rw [ao hb] at e
    exact (x b u e).stay (fun c v _ q=>k c v q) (fun c q=>by rw [ao (ay q hn)]; exact q) fun c xs q=>by rw [ao (ay q hn)]; exact q
end
def Rd (H:Hp) (a:Addr) (u:HO):Prop:=H a = some u∨∃ o,H a = some (.frz o u)
theorem Rd.ok {P:Program} {w:World} {H:Hp} {h:Heap} {a:Addr} {u:HO} (r:Rd H a u) (x:HOk P w H h):ObjOk P w H h a u:=by
  rcases r with r | ⟨o,r⟩
  · exact x a u r
  · obtain ⟨_,q⟩:=x a _ r
    exact q
def Mut:Option HO→Prop
  | some (.lst _)=>True
  | some (.dK _)=>True
  | some (.dT _)=>True
  | some (.set _ _)=>True
  | some (.ins _ _ _)=>True
  | some (.ext _)=>True
  | _=>False
section
variable {P:Program} {w:World} {H:Hp} {h h':Heap} {x e:Addr} {o':HO}
theorem HOk.write (ok:HOk P w H h) (mu:Mut (H x)) (he:e = x∨H e = some (.own x)) (k:∀ b u,b≠e→h.get? b = some u→h'.get? b = some u) (heo:∃ u,h'.get? e = some u)
    (new:ObjOk P w (upd H x o') h' x o'):HOk P w (upd H x o') h':=fun b u q=>by
  have nown:∀ c y,H c = some (.own y)→c≠x:=fun c y r z=>by subst z; rw [r] at mu; exact mu
  have ntup:∀ c xs,H c = some (.tup xs)→c≠x:=fun c xs r z=>by subst z; rw [r] at mu; exact mu
  by_cases hb:b = x
  · subst hb; rw [af] at q; cases q; exact new
  · rw [ao hb] at q
    by_cases hbe:b = e
    · have q':H b = some (.own x):=by
        rcases he with z | z
        · exact absurd (hbe.trans z) hb
        · rw [hbe]; exact z
      rw [q] at q'; cases q'
      obtain ⟨v,hv⟩:=heo
      exact ⟨v,by rw [hbe]; exact hv⟩
    · refine (ok b u q).stay (fun c v hc r=>k c v ?_ r) (fun c r=>by rw [ao (nown c b r)]; exact r) fun c xs r=>by rw [ao (ntup c xs r)]; exact r
      rcases hc with rfl | hc
      · exact hbe
      · rintro rfl
        rcases he with z | z
        · exact nown c b hc z
        · rw [hc] at z; cases z; exact hb rfl
end
structure Un (fs ex:List Addr) (H H':Hp) (h h':Heap):Prop where
  keep:∀ b o,h.get? b = some o→H b = none→b ∉ fs→b ∉ ex→h'.get? b = some o
  slot:∀ b o,h.get? b = some o→H b = none→b ∈ fs→b ∉ ex→∃ sl,h'.get? b = some { o with slots:=sl }
  free:∀ b o,h.get? b = some o→H b = none→b ∉ ex→H' b = none
  there:∀ b o,h.get? b = some o→b ∉ ex→∃ o',h'.get? b = some o'
  tups:∀ b xs,H b = some (.tup xs)→H' b = some (.tup xs)
  frzs:∀ b o u,H b = some (.frz o u)→H' b = some (.frz o u)
  tbls:∀ b ps,H b = some (.tbl ps)→∃ more,H' b = some (.tbl (ps ++ more))
section
variable {fs fs' ex ex':List Addr} {H H1 H2:Hp} {h h1 h2 h':Heap} {a x e:Addr} {o:HO}
theorem Un.any (u:Un fs ex H H1 h h1) {b:Addr} {ob:Obj} (q:h.get? b = some ob) (n:H b = none) (hx:b ∉ ex):∃ sl,h1.get? b = some { ob with slots:=sl }:=by
  by_cases hb:b ∈ fs
  · exact u.slot b ob q n hb hx
  · exact ⟨ob.slots,u.keep b ob q n hb hx⟩
theorem Un.trans (a:Un fs ex H H1 h h1) (b:Un fs ex H1 H2 h1 h2):Un fs ex H H2 h h2 where
  keep:=fun c ob q n hc hx=>b.keep c ob (a.keep c ob q n hc hx) (a.free c ob q n hx) hc hx
  slot:=fun c ob q n hc hx=>by
    obtain ⟨sl,e1⟩:=a.slot c ob q n hc hx
    obtain ⟨sl',e2⟩:=b.slot c _ e1 (a.free c ob q n hx) hc hx
    exact ⟨sl',e2⟩
  free:=fun c ob q n hx=>by
    obtain ⟨o',e1⟩:=a.there c ob q hx
    exact b.free c o' e1 (a.free c ob q n hx) hx
  there:=fun c ob q hx=>by
    obtain ⟨o',e1⟩:=a.there c ob q hx
    exact b.there c o' e1 hx
  tups:=fun c xs q=>b.tups c xs (a.tups c xs q)
  frzs:=fun c ob xs q=>b.frzs c ob xs (a.frzs c ob xs q)
  tbls:=fun c ps q=>by
    obtain ⟨m1,e1⟩:=a.tbls c ps q
    obtain ⟨m2,e2⟩:=b.tbls c _ e1
    exact ⟨m1 ++ m2,by rw [e2,Array.append_assoc]⟩
theorem Un.kept (k:∀ b u,h.get? b = some u→h'.get? b = some u):Un fs ex H H h h' :=
  ⟨fun b ob q _ _ _=>k b ob q,fun b ob q _ _ _=>⟨ob.slots,k b ob q⟩,fun _ _ _ n _=>n,fun b ob q _=>⟨ob,k b ob q⟩,fun _ _ q=>q,fun _ _ _ q=>q,fun _ ps q=>⟨#[],by rw [q]; simp⟩⟩
theorem Un.refl:Un fs ex H H h h:=Un.kept fun _ _ q=>q
theorem Un.laid (k:∀ b u,h.get? b = some u→h'.get? b = some u) (hp:h.objs.size≤a) (hn:H a = none):Un fs ex H (upd H a o) h h' where
  keep:=fun b u q _ _ _=>k b u q
  slot:=fun b u q _ _ _=>⟨u.slots,k b u q⟩
  free:=fun b u q n _=>by rw [ao (Nat.ne_of_lt (Nat.lt_of_lt_of_le (Heap.lt_size q) hp))]; exact n
  there:=fun b u q _=>⟨u,k b u q⟩
  tups:=fun b xs q=>by rw [ao (ay q hn)]; exact q
  frzs:=fun b u xs q=>by rw [ao (ay q hn)]; exact q
  tbls:=fun b ps q=>⟨#[],by rw [ao (ay q hn),q]; simp⟩
theorem Un.write (mu:Mut (H x)) (he:e = x∨H e = some (.own x)) (k:∀ b u,b≠e→h.get? b = some u→h'.get? b = some u) (heo:∃ u,h'.get? e = some u):Un fs ex H (upd H x o) h h':=by
  have hx:∀ b,H b = none→b≠x:=fun b n z=>by subst z; rw [n] at mu; exact mu
  have hb:∀ b,H b = none→b≠e:=fun b n z=>by
    subst z
    rcases he with r | r
    · exact hx b n r
    · rw [n] at r; cases r
  have hm:∀ b u,H b = some u→¬ Mut (some u)→b≠x:=fun b u q nm z=>by subst z; rw [q] at mu; exact nm mu
  refine ⟨fun b u q n _ _=>k b u (hb b n) q,fun b u q n _ _=>⟨u.slots,k b u (hb b n) q⟩,fun b u q n _=>by rw [ao (hx b n)]; exact n,fun b u q _=>?_,
    fun b xs q=>by rw [ao (hm b _ q fun z=>z)]; exact q,fun b u xs q=>by rw [ao (hm b _ q fun z=>z)]; exact q,fun b ps q=>⟨#[],by rw [ao (hm b _ q fun z=>z),q]; simp⟩⟩
  by_cases hbe:b = e
  · subst hbe; exact heo
  · exact ⟨u,k b u hbe q⟩
end
def trk (h:Heap) (H:Hp):List Addr:=(List.range h.objs.size).filter fun a=>(H a).isSome
def jJ (h:Heap) (H:Hp):Heap:=PySem.W.hideAll h (trk h H)
theorem pU (h:Heap) (H:Hp):(jJ h H).objs.size = h.objs.size:=PySem.W.hideAll_size _ _
theorem pZ {h:Heap} {H:Hp} {b:Addr} {o:Obj} (e:h.get? b = some o) (n:H b = none):(jJ h H).get? b = some o :=
  PySem.W.hideAll_get _ e fun hm=>by
    have q:(H b).isSome = true:=(List.mem_filter.mp hm).2
    rw [n] at q; simp at q
theorem uy {h:Heap} {H:Hp} {b:Addr} {o:Obj} (e:(jJ h H).get? b = some o):h.get? b = some o∧H b = none:=by
  have e':h.get? b = some o:=PySem.W.of_hideAll (trk h H) e
  refine ⟨e',?_⟩
  cases q:H b with
  | none=>rfl
  | some x =>
    have hm:b ∈ trk h H:=List.mem_filter.mpr ⟨List.mem_range.mpr (Heap.lt_size e'),by simp [q]⟩
    have z:(jJ h H).get? b = none:=PySem.W.hideAll_none (trk h H) hm
    rw [z] at e; cases e
def tW (g h:Heap) (L:Addr):List (Addr×Obj):=(List.range h.objs.size).filterMap fun a=>if a = L∨(g.get? a).isSome = true then none else (h.get? a).map fun o=>(a,o)
def rest (g h:Heap) (L d:Addr):List (Addr×Obj):=(tW g h L).filter fun p=>decide (p.1≠d)
end L2
namespace L2
open PySem PySem.Spec PyProof.Rows
structure Mod (K:PySem.W.Frag) (mg:Str→Option Value) (base:Heap):Prop where
  kin:K.In base
  glob:base.Ns mainGlobals mg
  blt:∃ mb,base.Ns builtinsNs mb∧∀ x:Str,x ≠ "__name__" → mb x = bootBuiltins x
  nolimit:base.NoLimit
/-- the context: a def's body (or a comprehension's block) running. base: fixed through the whole law; s₀, H₀: the entry; outer: the frames whose slots others may change (a def's callers); stack: all frames that run;
   ex: iterators that were made ahead of the entry and are walked here (a comprehension's); fn: the names whose cells were made at the entry (a def: all; a comprehension's block: its own); calm: not within an except suite; pn: pins that every state bears; xe: what is wanted of an exception that leaves the code -/
structure Cx where
  prog:Program
  w:World
  K:PySem.W.Frag
  mg:Str→Option Value
  base:Heap
  A:Around
  N:List Str
  s₀:Shared
  H₀:Hp
  env:Env
  outer:List Env
  stack:List Env
  ex:List Addr
  fn:Str→Bool
  calm:Bool
  pn:List (Addr×Obj)
  xe:Value→Shared→Prop
def frs (l:List Env):List Addr:=l.filterMap (·.frame)
abbrev Cx.fs (X:Cx):List Addr:=frs X.outer
def Vis (sc:Scope) (x:Str):Prop:=sc.names.lookup x = some .local∨sc.names.lookup x = some .cell∨sc.names.lookup x = some .free
def Loc (sc:Scope) (x:Str):Prop:=sc.names.lookup x = some .local∨sc.names.lookup x = some .cell
def xX (env:Env) (h:Heap) (m:Str→Option Value) (x:Str) (u:Value):Prop :=
  (env.kindOf x = some .local∧m x = some u)∨((env.kindOf x = some .cell∨env.kindOf x = some .free)∧∃ c,env.cells.lookup x = some c∧h.IsCell c (some u))
structure Cx.Ok (X:Cx):Prop where
  mod:Mod X.K X.mg X.base
  kind:X.env.scope.kind = .function
  glob:X.env.globals = mainGlobals
  blt:X.env.builtins = builtinsNs
  above:X.s₀.heap.objs.size≤X.env.locals
  inj:∀ x y c,X.env.cells.lookup x = some c→X.env.cells.lookup y = some c→x = y
  has:∀ x,(X.env.kindOf x = some .cell∨X.env.kindOf x = some .free)→∃ c,X.env.cells.lookup x = some c
  cab:∀ x c,X.fn x = true→X.env.cells.lookup x = some c→X.s₀.heap.objs.size≤c
  hd:X.calm = true→X.A.handled = none
  frames:X.A.frames = some X.stack
  stk:X.stack = X.outer∨(X.stack = X.env :: X.outer∧X.env.frame = some X.env.locals)
  exf:∀ b ∈ X.ex,b≠X.env.locals∧∀ x c,X.env.cells.lookup x = some c→c≠b
  bs:∀ b o,X.base.get? b = some o→X.s₀.heap.get? b = some o∧X.H₀ b = none
  bsz:X.base.objs.size≤X.s₀.heap.objs.size
  noex:∀ b o,X.base.get? b = some o→b ∉ X.ex
  exfs:∀ b ∈ X.ex,b ∉ X.fs
  funs:X.s₀.heap.FunFrames X.base X.outer
  frf:∀ b ∈ X.fs,X.H₀ b = none
structure Inv (X:Cx) (pins:List (Addr×Obj)) (σ:List (Option V)) (H:Hp) (s:Shared):Prop where
  ok:X.Ok
  os:s.os = X.s₀.os
  bare:AllBare s.gens
  base:Un X.fs X.ex X.H₀ H X.s₀.heap s.heap
  loc:∃ m,s.heap.Ns X.env.locals m∧∀ (i:Nat) (x:Str) (v:V),X.N[i]? = some x→σ[i]? = some (some v)→Vis X.env.scope x→∃ u,RelV v u∧xX X.env s.heap m x u
  cell:∀ x c,X.env.cells.lookup x = some c→∃ v,s.heap.IsCell c v
  free:H X.env.locals = none
  freeC:∀ x c,X.env.cells.lookup x = some c→H c = none
  pin:∀ p ∈ X.pn ++ pins,s.heap.get? p.1 = some p.2∧H p.1 = none∧p.1≠X.env.locals∧p.1 ∉ X.fs∧∀ v,p.2.data≠.cell v
  hok:HOk X.prog X.w H s.heap
  len:σ.length = X.N.length
section
variable {X:Cx} {pins:List (Addr×Obj)} {σ:List (Option V)} {H H':Hp} {s:Shared} {h':Heap}
theorem Cx.Ok.nofr (ok:X.Ok) {b:Addr} {o:Obj} (e:X.base.get? b = some o):b ∉ X.fs:=fun hb=>by
  have:=(ok.funs.mem hb).1
  rw [e] at this; cases this
theorem Inv.bs (I:Inv X pins σ H s):∀ b o,X.base.get? b = some o→s.heap.get? b = some o∧H b = none:=fun b o e =>
  ⟨I.base.keep b o (I.ok.bs b o e).1 (I.ok.bs b o e).2 (I.ok.nofr e) (I.ok.noex b o e),I.base.free b o (I.ok.bs b o e).1 (I.ok.bs b o e).2 (I.ok.noex b o e)⟩
theorem Inv.bk (I:Inv X pins σ H s):∀ b o,X.base.get? b = some o→s.heap.get? b = some o:=fun b o e=>(I.bs b o e).1
theorem Inv.mod (I:Inv X pins σ H s):Mod X.K X.mg X.base:=I.ok.mod
theorem Inv.kIn (I:Inv X pins σ H s):X.K.In s.heap:=I.ok.mod.kin.keeps I.bk
theorem Inv.lt (I:Inv X pins σ H s):X.env.locals < s.heap.objs.size:=let ⟨_,hn,_⟩:=I.loc; hn.lt
theorem Inv.sz (I:Inv X pins σ H s):X.s₀.heap.objs.size≤s.heap.objs.size:=Nat.le_trans I.ok.above (Nat.le_of_lt I.lt)
theorem Inv.nofs (I:Inv X pins σ H s) {a:Addr} (h:s.heap.objs.size≤a):a ∉ X.fs:=fun hb=>by
  obtain ⟨_,o,ho,_⟩:=I.ok.funs.mem hb
  exact absurd (Nat.lt_of_lt_of_le (Heap.lt_size ho) (Nat.le_trans I.sz h)) (Nat.lt_irrefl _)
theorem Inv.cne (I:Inv X pins σ H s):∀ x c,X.env.cells.lookup x = some c→c≠X.env.locals:=fun x c e z=>by
  obtain ⟨v,o,ho,hd⟩:=I.cell x c e
  obtain ⟨m,⟨o',es,ep,ho',hd',_⟩,_⟩:=I.loc
  rw [z,ho'] at ho; cases ho; rw [hd'] at hd; cases hd
theorem Inv.funs (I:Inv X pins σ H s):s.heap.FunFrames X.base X.outer:=by
  have all:∀ (l:List Env),(∀ b ∈ frs l,b ∈ X.fs)→X.s₀.heap.FunFrames X.base l→s.heap.FunFrames X.base l:=by
    intro l
    induction l with
    | nil=>intro _ _; trivial
    | cons env r ih =>
      intro hs hl
      obtain ⟨hk,⟨L,o,hf,hn,ho,hd⟩,hr⟩:=hl
      have hL:L ∈ X.fs:=hs L (by unfold frs; rw [List.filterMap_cons,hf]; exact List.mem_cons_self)
      obtain ⟨sl,e⟩:=I.base.slot L o ho (I.ok.frf L hL) hL fun z=>I.ok.exfs L z hL
      exact ⟨hk,⟨L,_,hf,hn,e,hd⟩,ih (fun b hb=>hs b (by unfold frs; rw [List.filterMap_cons,hf]; exact List.mem_cons_of_mem _ hb)) hr⟩
  exact all X.outer (fun _ hb=>hb) I.ok.funs
theorem Inv.stack (I:Inv X pins σ H s):s.heap.FunFrames X.base X.stack:=by
  rcases I.ok.stk with e | ⟨e,hf⟩
  · rw [e]; exact I.funs
  · rw [e]
    obtain ⟨m,hn,_⟩:=I.loc
    refine .cons (by rw [I.ok.kind]; decide) hf hn ?_ I.funs
    exact Heap.get?_none_of_le (Nat.le_trans I.ok.bsz I.ok.above)
theorem Inv.stkSub (I:Inv X pins σ H s):∀ b ∈ frs X.stack,b ∈ X.env.locals :: X.fs:=fun b hb=>by
  rcases I.ok.stk with e | ⟨e,hf⟩
  · rw [e] at hb; exact List.mem_cons_of_mem _ hb
  · rw [e] at hb
    unfold frs at hb
    rw [List.filterMap_cons,hf] at hb
    exact hb
theorem Inv.stkFree (I:Inv X pins σ H s):∀ b ∈ frs X.stack,H b = none:=fun b hb=>by
  rcases List.mem_cons.mp (I.stkSub b hb) with e | hb
  · rw [e]; exact I.free
  · obtain ⟨_,o,ho,_⟩:=I.ok.funs.mem hb
    exact I.base.free b o ho (I.ok.frf b hb) fun z=>I.ok.exfs b z hb
theorem Inv.step {g':Array GenState} {t':Nat} {d':Drawn} {ch:List Addr} (I:Inv X pins σ H s)
    (hch:∀ b ∈ ch,(b ∈ X.ex∨X.s₀.heap.objs.size≤b)∧b≠X.env.locals∧(∀ x c,X.env.cells.lookup x = some c→c≠b)∧∀ p ∈ X.pn ++ pins,p.1≠b)
    (keep:∀ b o,b≠X.env.locals→b ∉ X.fs→b ∉ ch→s.heap.get? b = some o→H b = none→h'.get? b = some o)
    (slot:∀ b o,b≠X.env.locals→b ∈ X.fs→b ∉ ch→s.heap.get? b = some o→H b = none→∃ sl,h'.get? b = some { o with slots:=sl }) (free:∀ b o,b ∉ ch→s.heap.get? b = some o→H b = none→H' b = none)
    (there:∀ b o,b ∉ ch→s.heap.get? b = some o→∃ o',h'.get? b = some o')
    (tups:∀ b xs,H b = some (.tup xs)→H' b = some (.tup xs)) (frzs:∀ b o u,H b = some (.frz o u)→H' b = some (.frz o u)) (tbls:∀ b ps,H b = some (.tbl ps)→∃ more,H' b = some (.tbl (ps ++ more)))
    (ns:∀ m,s.heap.Ns X.env.locals m→h'.Ns X.env.locals m) (hok:HOk X.prog X.w H' h') (hg:AllBare g') :
    Inv X pins σ H' { s with heap:=h',gens:=g',drawn:=d',toks:=t' }:=by
  have neL:∀ b o,X.s₀.heap.get? b = some o→b≠X.env.locals:=fun b o e=>Nat.ne_of_lt (Nat.lt_of_lt_of_le (Heap.lt_size e) I.ok.above)
  have neC:∀ b o,X.s₀.heap.get? b = some o→b ∉ X.ex→b ∉ ch:=fun b o e hx hb=>by
    rcases (hch b hb).1 with z | z
    · exact hx z
    · exact absurd (Nat.lt_of_lt_of_le (Heap.lt_size e) z) (Nat.lt_irrefl _)
  have cellK:∀ x c,X.env.cells.lookup x = some c→∀ v,s.heap.IsCell c v→h'.IsCell c v:=fun x c e v ⟨o,ho,hd⟩=>by
    have nch:c ∉ ch:=fun z=>(hch c z).2.2.1 x c e rfl
    by_cases hc:c ∈ X.fs
    · obtain ⟨sl,q⟩:=slot c o (I.cne x c e) hc nch ho (I.freeC x c e)
      exact ⟨_,q,hd⟩
    · exact ⟨o,keep c o (I.cne x c e) hc nch ho (I.freeC x c e),hd⟩
  refine ⟨I.ok,I.os,hg,⟨fun b o e n hb hx=>?_,fun b o e n hb hx=>?_,fun b o e n hx=>?_,fun b o e hx=>?_,fun b xs e=>tups b xs (I.base.tups b xs e),fun b o xs e=>frzs b o xs (I.base.frzs b o xs e),fun b ps e=>?_⟩,?_,fun x c e=>?_,?_,fun x c e=>?_,fun p hp=>?_,hok,I.len⟩
  · exact keep b o (neL b o e) hb (neC b o e hx) (I.base.keep b o e n hb hx) (I.base.free b o e n hx)
  · obtain ⟨sl,e1⟩:=I.base.slot b o e n hb hx
    obtain ⟨sl',e2⟩:=slot b _ (neL b o e) hb (neC b o e hx) e1 (I.base.free b o e n hx)
    exact ⟨sl',e2⟩
  · obtain ⟨o',e1⟩:=I.base.there b o e hx
    exact free b o' (neC b o e hx) e1 (I.base.free b o e n hx)
  · obtain ⟨o',e1⟩:=I.base.there b o e hx
    exact there b o' (neC b o e hx) e1
  · obtain ⟨m1,e1⟩:=I.base.tbls b ps e
    obtain ⟨m2,e2⟩:=tbls b _ e1
    exact ⟨m1 ++ m2,by rw [e2,Array.append_assoc]⟩
  · obtain ⟨m,hn,hl⟩:=I.loc
    refine ⟨m,ns m hn,fun i x v e1 e2 e3=>?_⟩
    obtain ⟨u,r,l⟩:=hl i x v e1 e2 e3
    refine ⟨u,r,?_⟩
    rcases l with l | ⟨k,c,e,z⟩
    · exact .inl l
    · exact .inr ⟨k,c,e,cellK x c e _ z⟩
  · obtain ⟨v,z⟩:=I.cell x c e
    exact ⟨v,cellK x c e v z⟩
  · obtain ⟨m,⟨o,_,_,ho,_⟩,_⟩:=I.loc
    exact free _ o (fun z=>(hch _ z).2.1 rfl) ho I.free
  · obtain ⟨v,o,ho,hd⟩:=I.cell x c e
    exact free c o (fun z=>(hch c z).2.2.1 x c e rfl) ho (I.freeC x c e)
  · obtain ⟨e,n,ne,nf,d⟩:=I.pin p hp
    have nch:p.1 ∉ ch:=fun z=>(hch p.1 z).2.2.2 p hp rfl
    exact ⟨keep p.1 p.2 ne nf nch e n,free p.1 p.2 nch e n,ne,nf,d⟩
theorem Inv.un {t':Nat} (I:Inv X pins σ H s) (u:Un X.fs [] H H' s.heap h') (hok:HOk X.prog X.w H' h'):Inv X pins σ H' { s with heap:=h',toks:=t' }:=by
  obtain ⟨m,⟨o,es,ep,ho,r⟩,_⟩:=id I.loc
  obtain ⟨sl,hL⟩:=u.any ho I.free (by simp)
  exact I.step (g':=s.gens) (d':=s.drawn) (ch:=[]) (fun _ z=>nomatch z) (fun b o _ hb _ e n=>u.keep b o e n hb (by simp)) (fun b o _ hb _ e n=>u.slot b o e n hb (by simp)) (fun b o _ e n=>u.free b o e n (by simp)) (fun b o _ e=>u.there b o e (by simp)) u.tups u.frzs u.tbls (fun m' hm=>by
    obtain ⟨o',es',ep',ho',r'⟩:=hm
    rw [ho] at ho'; cases ho'
    exact ⟨_,es',ep',hL,r'⟩) hok I.bare
theorem Inv.call {g':Array GenState} {t':Nat} {d':Drawn} {ch:List Addr} (I:Inv X pins σ H s) (u:Un (frs X.stack) ch H H' s.heap h') (hok:HOk X.prog X.w H' h') (hg:AllBare g')
    (hch:∀ b ∈ ch,(b ∈ X.ex∨X.s₀.heap.objs.size≤b)∧b≠X.env.locals∧(∀ x c,X.env.cells.lookup x = some c→c≠b)∧∀ p ∈ X.pn ++ pins,p.1≠b) :
    Inv X pins σ H' { s with heap:=h',gens:=g',drawn:=d',toks:=t' }:=by
  obtain ⟨m,⟨o,es,ep,ho,r⟩,_⟩:=id I.loc
  obtain ⟨sl,hL⟩:=u.any ho I.free fun z=>(hch _ z).2.1 rfl
  exact I.step (ch:=ch) hch (fun b o hL hb hc e n=>u.keep b o e n (fun z=>(List.mem_cons.mp (I.stkSub b z)).elim hL hb) hc) (fun b o _ _ hc e n=>u.any e n hc) (fun b o hc e n=>u.free b o e n hc) (fun b o hc e=>u.there b o e hc) u.tups u.frzs u.tbls (fun m' hm=>by
    obtain ⟨o',es',ep',ho',r'⟩:=hm
    rw [ho] at ho'; cases ho'
    exact ⟨_,es',ep',hL,r'⟩) hok hg
theorem Inv.turned {t':Nat} {it:Addr} (I:Inv X pins σ H s) (k:∀ b o,b≠it→s.heap.get? b = some o→h'.get? b = some o) (hn:H it = none) (hL:it≠X.env.locals)
    (h1:it ∈ X.ex∨X.s₀.heap.objs.size≤it) (h2:∀ x c,X.env.cells.lookup x = some c→c≠it) (h3:∀ p ∈ X.pn ++ pins,p.1≠it):Inv X pins σ H { s with heap:=h',toks:=t' }:=by
  have nit:∀ b u,H b = some u→b≠it:=fun b u e z=>by rw [z,hn] at e; cases e
  refine I.step (g':=s.gens) (d':=s.drawn) (ch:=[it]) (fun b hb=>?_) (fun b o _ _ hc e _=>k b o (fun z=>hc (by simp [z])) e) (fun b o _ _ hc e _=>⟨o.slots,k b o (fun z=>hc (by simp [z])) e⟩) (fun _ _ _ _ n=>n)
    (fun b o hc e=>⟨o,k b o (fun z=>hc (by simp [z])) e⟩) (fun _ _ e=>e) (fun _ _ _ e=>e) (fun b ps e=>⟨#[],by rw [e]; simp⟩) (fun m hm=>?_) (fun b u e=>?_) I.bare
  · have e:b = it:=by simpa using hb
    subst e
    exact ⟨h1,hL,h2,h3⟩
  · obtain ⟨o,es,ep,ho,r⟩:=hm
    exact ⟨o,es,ep,k _ o (Ne.symm hL) ho,r⟩
  · refine (I.hok b u e).stay (fun c v hc q=>k c v ?_ q) (fun _ q=>q) fun _ _ q=>q
    rcases hc with z | z
    · rw [z]; exact nit b u e
    · exact nit c _ z
theorem Inv.tok (I:Inv X pins σ H s) (t:Nat):Inv X pins σ H { s with toks:=t }:=I.un (h':=s.heap) (t':=t) Un.refl I.hok
theorem Inv.kept {t':Nat} (I:Inv X pins σ H s) (k:∀ b u,s.heap.get? b = some u→h'.get? b = some u):Inv X pins σ H { s with heap:=h',toks:=t' }:=I.un (Un.kept k) (I.hok.kept k)
theorem Inv.laid {a:Addr} {o:HO} {t':Nat} (I:Inv X pins σ H s) (k:∀ b u,s.heap.get? b = some u→h'.get? b = some u) (hp:s.heap.objs.size≤a) (new:ObjOk X.prog X.w (upd H a o) h' a o) :
    Inv X pins σ (upd H a o) { s with heap:=h',toks:=t' }:=I.un (Un.laid k hp (I.hok.fresh hp)) (I.hok.laid k hp new)
theorem Inv.write {x e:Addr} {o:HO} {t':Nat} (I:Inv X pins σ H s) (mu:Mut (H x)) (he:e = x∨H e = some (.own x)) (k:∀ b u,b≠e→s.heap.get? b = some u→h'.get? b = some u) (heo:∃ u,h'.get? e = some u)
    (new:ObjOk X.prog X.w (upd H x o) h' x o):Inv X pins σ (upd H x o) { s with heap:=h',toks:=t' }:=I.un (Un.write mu he k heo) (I.hok.write mu he k heo new)
theorem Inv.weak {σ':List (Option V)} (I:Inv X pins σ H s) (hl:σ'.length = σ.length) (w:∀ (i:Nat) v,σ'[i]? = some (some v)→σ[i]? = some (some v)):Inv X pins σ' H s :=
  ⟨I.ok,I.os,I.bare,I.base,let ⟨m,hn,hl'⟩:=I.loc; ⟨m,hn,fun i x v e1 e2 e3=>hl' i x v e1 (w i v e2) e3⟩,I.cell,I.free,I.freeC,I.pin,I.hok,hl.trans I.len⟩
theorem Inv.pins_of {pins':List (Addr×Obj)} (I:Inv X pins σ H s) (h:∀ p ∈ pins',s.heap.get? p.1 = some p.2∧H p.1 = none∧p.1≠X.env.locals∧p.1 ∉ X.fs∧∀ v,p.2.data≠.cell v):Inv X pins' σ H s :=
  ⟨I.ok,I.os,I.bare,I.base,I.loc,I.cell,I.free,I.freeC,fun p hp=>(List.mem_append.mp hp).elim (fun z=>I.pin p (List.mem_append_left _ z)) (h p),I.hok,I.len⟩
theorem jy {N:List Str} (hN:N.Nodup) {i j:Nat} {x:Str} (a:N[i]? = some x) (b:N[j]? = some x):i = j:=by
  obtain ⟨h1,e1⟩:=List.getElem?_eq_some_iff.mp a
  obtain ⟨h2,e2⟩:=List.getElem?_eq_some_iff.mp b
  exact (List.getElem_inj hN).mp (e1.trans e2.symm)
theorem pI {M:Model} {A:Around} {E:Value→Shared→Prop} {i:Nat} {x:Str} {v:V} {u:Value} {Q:Unit→Shared→Prop} (I:Inv X pins σ H s) (hN:X.N.Nodup) (hi:X.N[i]? = some x) (hx:Loc X.env.scope x) (r:RelV v u)
    (h:∀ s',Inv X pins (σ.set i (some v)) H s'→(∃ a,Heap.SameBut a s.heap s'.heap∧(a = X.env.locals∨X.env.cells.lookup x = some a))→Q () s') (hf:X.fn x = true∨X.env.scope.names.lookup x = some .local:=by first | exact .inl rfl | exact .inr rfl | assumption):wpAny M A (storeName X.env x u) Q E s:=by
  obtain ⟨m,hn,hl⟩:=id I.loc
  have hcls:(X.env.scope.kind == .class || (X.env.scope.kind == .module && X.env.locals != X.env.globals)) = false:=by rw [I.ok.kind]; rfl
  have hiσ:i < σ.length:=by rw [I.len]; exact (List.getElem?_eq_some_iff.mp hi).1
  have cne:=I.cne
  have tracked:∀ {a:Addr} {h':Heap},(∃ o,s.heap.get? a = some o∧H a = none)→Heap.SameBut a s.heap h'→HOk X.prog X.w H h':=fun {a h'} ha hs b ob e=>by
    obtain ⟨_,_,hfree⟩:=ha
    refine (I.hok b ob e).stay (fun c w' hc q=>(hs.2 c ?_).trans q) (fun _ q=>q) fun _ _ q=>q
    rintro rfl
    rcases hc with rfl | hc
    · rw [hfree] at e; cases e
    · rw [hfree] at hc; cases hc
  rcases hx with hk | hk
  · refine wpAny_storeName_local hk hn (fun h' hn' hs=>?_) hcls
    obtain ⟨oL,_,_,hoL,_⟩:=id hn
    refine h _ ⟨I.ok,I.os,I.bare,⟨fun b o e n hb hx=>?_,fun b o e n hb hx=>?_,I.base.free,fun b o e hx=>?_,I.base.tups,I.base.frzs,I.base.tbls⟩,⟨_,hn',fun j y v' e1 e2 e3=>?_⟩,fun y c e=>?_,I.free,I.freeC,fun p hp=>?_,tracked ⟨oL,hoL,I.free⟩ hs,by simpa using I.len⟩ ⟨_,hs,.inl rfl⟩
    · exact (hs.2 b (Nat.ne_of_lt (Nat.lt_of_lt_of_le (Heap.lt_size e) I.ok.above))).trans (I.base.keep b o e n hb hx)
    · obtain ⟨sl,e1⟩:=I.base.slot b o e n hb hx
      exact ⟨sl,(hs.2 b (Nat.ne_of_lt (Nat.lt_of_lt_of_le (Heap.lt_size e) I.ok.above))).trans e1⟩
    · obtain ⟨o',e1⟩:=I.base.there b o e hx
      exact ⟨o',(hs.2 b (Nat.ne_of_lt (Nat.lt_of_lt_of_le (Heap.lt_size e) I.ok.above))).trans e1⟩
    · by_cases hj:j = i
      · subst hj
        rw [hi] at e1; cases e1
        rw [List.getElem?_set_self hiσ] at e2
        cases e2
        exact ⟨u,r,.inl ⟨hk,by simp⟩⟩
      · rw [List.getElem?_set_ne (Ne.symm hj)] at e2
        obtain ⟨u',r',q⟩:=hl j y v' e1 e2 e3
        refine ⟨u',r',?_⟩
        rcases q with ⟨k,e⟩ | ⟨k,c,e,z⟩
        · refine .inl ⟨k,?_⟩
          have:y≠x:=fun e=>hj (jy hN e1 (e ▸ hi))
          simp [this,e]
        · exact .inr ⟨k,c,e,z.sameBut hs (cne y c e)⟩
    · obtain ⟨w',z⟩:=I.cell y c e
      exact ⟨w',z.sameBut hs (cne y c e)⟩
    · obtain ⟨e,n,ne,nf,d⟩:=I.pin p hp
      exact ⟨(hs.2 p.1 ne).trans e,n,ne,nf,d⟩
  · have hfn:X.fn x = true:=by
      rcases hf with z | z
      · exact z
      · rw [z] at hk; cases hk
    obtain ⟨c,hc⟩:=I.ok.has x (.inl hk)
    obtain ⟨w',z⟩:=I.cell x c hc
    refine wpAny_storeName_cell I.ok.kind hk hc z (fun h' hc' hs=>?_)
    obtain ⟨oc,hoc,hocd⟩:=id z
    refine h { s with heap:=h' } ⟨I.ok,I.os,I.bare,⟨fun b o e n hb hx=>?_,fun b o e n hb hx=>?_,I.base.free,fun b o e hx=>?_,I.base.tups,I.base.frzs,I.base.tbls⟩,⟨m,hn.sameBut hs (Ne.symm (cne x c hc)),fun j y v' e1 e2 e3=>?_⟩,fun y c' e=>?_,I.free,I.freeC,fun p hp=>?_,tracked ⟨oc,hoc,I.freeC x c hc⟩ hs,by simpa using I.len⟩ ⟨c,hs,.inr hc⟩
    · exact (hs.2 b (Nat.ne_of_lt (Nat.lt_of_lt_of_le (Heap.lt_size e) (I.ok.cab x c hfn hc)))).trans (I.base.keep b o e n hb hx)
    · obtain ⟨sl,e1⟩:=I.base.slot b o e n hb hx
      exact ⟨sl,(hs.2 b (Nat.ne_of_lt (Nat.lt_of_lt_of_le (Heap.lt_size e) (I.ok.cab x c hfn hc)))).trans e1⟩
    · obtain ⟨o',e1⟩:=I.base.there b o e hx
      exact ⟨o',(hs.2 b (Nat.ne_of_lt (Nat.lt_of_lt_of_le (Heap.lt_size e) (I.ok.cab x c hfn hc)))).trans e1⟩
    · by_cases hj:j = i
      · subst hj
        rw [hi] at e1; cases e1
        rw [List.getElem?_set_self hiσ] at e2
        cases e2
        exact ⟨u,r,.inr ⟨.inl hk,c,hc,hc'⟩⟩
      · rw [List.getElem?_set_ne (Ne.symm hj)] at e2
        obtain ⟨u',r',q⟩:=hl j y v' e1 e2 e3
        refine ⟨u',r',?_⟩
        rcases q with q | ⟨k,c',e,z'⟩
        · exact .inl q
        · refine .inr ⟨k,c',e,z'.sameBut hs ?_⟩
          rintro rfl
          exact hj (jy hN e1 (I.ok.inj _ _ _ e hc ▸ hi))
    · by_cases hcc:c' = c
      · subst hcc; exact ⟨_,hc'⟩
      · obtain ⟨w2,z2⟩:=I.cell y c' e
        exact ⟨w2,z2.sameBut hs hcc⟩
    · obtain ⟨e,n,ne,nf,d⟩:=I.pin p hp
      refine ⟨(hs.2 p.1 ?_).trans e,n,ne,nf,d⟩
      intro q
      rw [q,hoc] at e
      have q':oc = p.2:=Option.some.inj e
      exact d w' (by rw [← q']; exact hocd)
theorem fX {M:Model} {A:Around} {E:Value→Shared→Prop} {i:Nat} {x:Str} {v:V} {u:Value} {Q:Unit→Shared→Prop} (I:Inv X pins σ H s) (hN:X.N.Nodup) (hi:X.N[i]? = some x) (hx:Loc X.env.scope x) (r:RelV v u)
    (h:∀ s',Inv X pins (σ.set i (some v)) H s'→Q () s') (hf:X.fn x = true∨X.env.scope.names.lookup x = some .local:=by first | exact .inl rfl | exact .inr rfl | assumption):wpAny M A (storeName X.env x u) Q E s :=
  pI I hN hi hx r (fun s' I' _=>h s' I') hf
theorem Inv.call' {s':Shared} {ch:List Addr} (I:Inv X pins σ H s) (ho:s'.os = s.os) (u:Un (frs X.stack) ch H H' s.heap s'.heap) (hok:HOk X.prog X.w H' s'.heap) (hg:AllBare s'.gens)
    (hch:∀ b ∈ ch,(b ∈ X.ex∨X.s₀.heap.objs.size≤b)∧b≠X.env.locals∧(∀ x c,X.env.cells.lookup x = some c→c≠b)∧∀ p ∈ X.pn ++ pins,p.1≠b):Inv X pins σ H' s':=by
  obtain ⟨h',g',d',t',o'⟩:=s'
  have e:o' = s.os:=ho
  subst e
  exact I.call (g':=g') (t':=t') (d':=d') u hok hg hch
end
abbrev XK:=Value→Option Addr→Hp→Prop
abbrev St:=List (Option V)
abbrev VK:=V→Hp→Prop
abbrev TE:=St→Hp→VK→Prop
abbrev TT:=St→Hp→(Bool→Hp→Prop)→Prop
abbrev TA:=St→Hp→(List V→Hp→Prop)→Prop
structure Ends where
  nx:St→Hp→Prop
  rt:VK
  bk:St→Hp→Prop:=fun _ _=>False
  ct:St→Hp→Prop:=fun _ _=>False
abbrev TS:=Ends→St→Hp→Prop
def EP (X:Cx) (pins:List (Addr×Obj)) (σ:St) (Q:VK) (u:Value) (s':Shared):Prop:=∃ v H',Inv X pins σ H' s'∧RelV v u∧Q v H'
def TP (X:Cx) (pins:List (Addr×Obj)) (σ:St) (Q:Bool→Hp→Prop) (b:Bool) (s':Shared):Prop:=∃ H',Inv X pins σ H' s'∧Q b H'
def AP (X:Cx) (pins:List (Addr×Obj)) (σ:St) (Q:List V→Hp→Prop) (us:List Value) (s':Shared):Prop:=∃ vs H',Inv X pins σ H' s'∧Vals vs us∧Q vs H'
def SP (X:Cx) (pins:List (Addr×Obj)) (D:Ends) (f:Flow) (s':Shared):Prop :=
  match f with
  | .next=>∃ σ' H',Inv X pins σ' H' s'∧D.nx σ' H'
  | .brk=>∃ σ' H',Inv X pins σ' H' s'∧D.bk σ' H'
  | .cont=>∃ σ' H',Inv X pins σ' H' s'∧D.ct σ' H'
  | .ret u=>∃ v σ' H',Inv X pins σ' H' s'∧RelV v u∧D.rt v H'
def PE (X:Cx) (e:Expr) (t:TE):Prop :=
  ∀ (pins:List (Addr×Obj)) (s:Shared) (σ:St) (H:Hp) (Q:VK),Inv X pins σ H s→t σ H Q→wpAny (model X.prog X.w) X.A (eval e X.env) (EP X pins σ Q) X.xe s
def PT (X:Cx) (e:Expr) (t:TT):Prop :=
  ∀ (pins:List (Addr×Obj)) (s:Shared) (σ:St) (H:Hp) (Q:Bool→Hp→Prop),Inv X pins σ H s→t σ H Q→wpAny (model X.prog X.w) X.A (isTrue e X.env (eval e X.env)) (TP X pins σ Q) X.xe s
def PW (X:Cx) (e:Expr) (t:TT):Prop :=
  ∀ (whole:Sem Value) (pins:List (Addr×Obj)) (s:Shared) (σ:St) (H:Hp) (Q:Bool→Hp→Prop),Inv X pins σ H s→t σ H Q→wpAny (model X.prog X.w) X.A (isTrue e X.env whole) (TP X pins σ Q) X.xe s
theorem PW.pt {X:Cx} {e:Expr} {t:TT} (h:PW X e t):PT X e t:=h _
def PA (X:Cx) (es:List Expr) (t:TA):Prop :=
  ∀ (pos:Pos) (pins:List (Addr×Obj)) (s:Shared) (σ:St) (H:Hp) (Q:List V→Hp→Prop),Inv X pins σ H s→t σ H Q→wpAny (model X.prog X.w) X.A (spliced (backTo pos (starEach es X.env))) (AP X pins σ Q) X.xe s
def PS (X:Cx) (st:Stmt) (t:TS):Prop :=
  ∀ (pins:List (Addr×Obj)) (s:Shared) (σ:St) (H:Hp) (D:Ends),Inv X pins σ H s→t D σ H→wpAny (model X.prog X.w) X.A (exec st X.env) (SP X pins D) X.xe s
def PSs (X:Cx) (st:List Stmt) (t:TS):Prop :=
  ∀ (pins:List (Addr×Obj)) (s:Shared) (σ:St) (H:Hp) (D:Ends),Inv X pins σ H s→t D σ H→wpAny (model X.prog X.w) X.A (execs st X.env) (SP X pins D) X.xe s
theorem thn {α:Type} {t:Sem α} {Q Q':α→Shared→Prop} {M:Model} {A:Around} {E:Value→Shared→Prop} {s:Shared} (h:wpAny M A t Q E s) (hQ:∀ a s,Q a s→Q' a s):wpAny M A t Q' E s:=wpAny_mono h hQ fun _ _ x=>x
end L2
namespace L2
open PySem PySem.Spec PyProof.Rows
section
variable {X:Cx}
def yR (i:Nat):TE:=fun σ H Q=>∃ v,σ[i]? = some (some v)∧Q v H
def tC (v:V):TE:=fun _ H Q=>Q v H
theorem wo {i:Nat} {x:Str} {pos:Pos} (hN:X.N[i]? = some x) (hv:Vis X.env.scope x) (hd:(x == ("__debug__" : Str)) = false:=by decide) (hcd:(x == ("__classdict__" : Str)) = false:=by decide):PE X (.Name x pos) (yR i):=by
  intro pins s σ H Q I h
  obtain ⟨v,e,h⟩:=h
  obtain ⟨m,hn,hl⟩:=I.loc
  obtain ⟨u,r,l⟩:=hl i x v hN e hv
  have fin:EP X pins σ Q u s:=⟨v,H,I,r,h⟩
  rcases l with ⟨hk,hm⟩ | ⟨hk,c,hc,hcell⟩
  · exact wpAny_Name (wpAny_loadName_local I.ok.kind hk hn hm fin) hd
  · rcases hk with hk | hk
    · exact wpAny_Name (wpAny_loadName_cell I.ok.kind hk hc hcell fin) hd
    · exact wpAny_Name (wpAny_loadName_free I.ok.kind hk hc hcell fin hcd) hd
theorem ai {i j pos}:PE X (.Constant (.int i) j pos) (tC (.int i)):=fun _ _ _ H _ I h=>wpAny_Constant_int ⟨.int i,H,I.tok _,⟨_,rfl⟩,h⟩
theorem io {b j pos}:PE X (.Constant (.bool b) j pos) (tC (.bl b)):=fun _ _ _ H _ I h=>Constant_bool ⟨.bl b,H,I,rfl,h⟩
theorem fq {j pos}:PE X (.Constant .none j pos) (tC .non):=fun _ _ _ H _ I h=>Constant_none ⟨.non,H,I,rfl,h⟩
theorem dg {x j pos}:PE X (.Constant (.str x) j pos) (tC (.str x)):=fun _ _ _ H _ I h=>Calls.Constant_str ⟨.str x,H,I.tok _,⟨_,rfl⟩,h⟩
def Gl (X:Cx) (x:Str):Prop:=X.env.kindOf x = some .globalImplicit
theorem eZ {E:Value→Shared→Prop} {pins:List (Addr×Obj)} {s:Shared} {σ:St} {H:Hp} {x:Str} {u:Value} {pos:Pos} {Q:Value→Shared→Prop} (I:Inv X pins σ H s) (hg:Gl X x) (hm:X.mg x = some u) (h:Q u s)
    (hd:(x == ("__debug__" : Str)) = false:=by decide):wpAny (model X.prog X.w) X.A (eval (.Name x pos) X.env) Q E s :=
  Calls.Name_function_global I.ok.kind hg (Calls.loadGlobal_global (by rw [I.ok.glob]; exact I.mod.glob.keeps I.bk) hm h) hd
theorem jn {E:Value→Shared→Prop} {pins:List (Addr×Obj)} {s:Shared} {σ:St} {H:Hp} {x:Str} {u:Value} {pos:Pos} {Q:Value→Shared→Prop} (I:Inv X pins σ H s) (hg:Gl X x) (hm:X.mg x = none) (hv:bootBuiltins x = some u) (h:Q u s)
    (hn:x ≠ "__name__" := by decide) (hd:(x == ("__debug__" : Str)) = false:=by decide):wpAny (model X.prog X.w) X.A (eval (.Name x pos) X.env) Q E s:=by
  obtain ⟨mb,h1,h2⟩:=I.mod.blt
  exact Calls.Name_function_global I.ok.kind hg (Calls.loadGlobal_builtin (by rw [I.ok.glob]; exact I.mod.glob.keeps I.bk) hm (by rw [I.ok.blt]; exact h1.keeps I.bk) ((h2 x hn).trans hv) h) hd
theorem sy {x:Str} {v:V} {u:Value} {pos:Pos} (hg:Gl X x) (hm:X.mg x = some u) (r:RelV v u) (hd:(x == ("__debug__" : Str)) = false:=by decide):PE X (.Name x pos) (tC v) :=
  fun _ _ _ H _ I h=>eZ I hg hm ⟨v,H,I,r,h⟩ hd
theorem fe {x:Str} {v:V} {u:Value} {pos:Pos} (hg:Gl X x) (hm:X.mg x = none) (hv:bootBuiltins x = some u) (r:RelV v u) (hn:x ≠ "__name__" := by decide) (hd:(x == ("__debug__" : Str)) = false:=by decide):PE X (.Name x pos) (tC v) :=
  fun _ _ _ H _ I h=>jn I hg hm hv ⟨v,H,I,r,h⟩ hn hd
def t2I (ta tb:TE) (k:Int→Int→Hp→Prop):St→Hp→Prop:=fun σ H=>ta σ H fun x H1=>tb σ H1 fun y H2=>∃ i j,x = .int i∧y = .int j∧k i j H2
def Ak (ta tb:TE):TE:=fun σ H Q=>t2I ta tb (fun i j H2=>Q (.int (i + j)) H2) σ H
def Aq (ta tb:TE):TE:=fun σ H Q=>t2I ta tb (fun i j H2=>Q (.int (i - j)) H2) σ H
def Al (ta tb:TE):TE:=fun σ H Q=>t2I ta tb (fun i j H2=>(-(2 ^ 64) < i∧i < 2 ^ 64)∧Q (.int (i * j)) H2) σ H
variable {a b:Expr} {ta tb:TE} {pos:Pos}
def PC (X:Cx) (op:CmpOp) (a b:Expr) (t:TE):Prop :=
  ∀ (pins:List (Addr×Obj)) (s:Shared) (σ:St) (H:Hp) (Q:VK),Inv X pins σ H s→t σ H Q →
    wpAny (model X.prog X.w) X.A (eval a X.env) (fun v s₁=>wpAny (model X.prog X.w) X.A (eval b X.env) (fun u s₂=>wpAny (model X.prog X.w) X.A (compareOp op v u) (EP X pins σ Q) X.xe s₂) X.xe s₁) X.xe s
def pb (p:Int→Int→Bool) (ta tb:TE):TE:=fun σ H Q=>t2I ta tb (fun i j H2=>Q (.bl (p i j)) H2) σ H
abbrev tLt:TE→TE→TE:=pb fun i j=>decide (i < j)
abbrev tLe:TE→TE→TE:=pb fun i j=>decide (i≤j)
abbrev tGt:TE→TE→TE:=pb fun i j=>decide (j < i)
abbrev tGe:TE→TE→TE:=pb fun i j=>decide (j≤i)
abbrev Af:TE→TE→TE:=pb fun i j=>decide (i = j)
abbrev Av:TE→TE→TE:=pb fun i j=>!decide (i = j)
def AD (ta:TE):TE:=fun σ H Q=>ta σ H fun x H1=>Q (.bl (decide (x = .non))) H1
def zC (ta:TE):TE:=fun σ H Q=>ta σ H fun x H1=>Q (.bl (!decide (x = .non))) H1
def tB (t:TE):TT:=fun σ H Q=>t σ H fun x H1=>∃ c,x = .bl c∧Q c H1
variable {tA tB':TT} {rest:List Expr}
def yH (t u:TT):TT:=fun σ H Q=>t σ H fun c H1=>if c = true then u σ H1 Q else Q false H1
def tOr (t u:TT):TT:=fun σ H Q=>t σ H fun c H1=>if c = true then Q true H1 else u σ H1 Q
def zt (t:TT):TT:=fun σ H Q=>t σ H fun c H1=>Q (!c) H1
theorem gJ (ha:PT X a tA):PW X (.BoolOp .And [a] pos) tA:=by
  intro wh pins s σ H Q I h
  refine isTrue_and (thn (ha pins s σ H Q I h) fun c s1 e=>?_)
  cases c with
  | true=>exact isTrue_and_nil e
  | false=>exact e
theorem vJ (ha:PT X a tA):PW X (.BoolOp .Or [a] pos) tA:=by
  intro wh pins s σ H Q I h
  refine isTrue_or (thn (ha pins s σ H Q I h) fun c s1 e=>?_)
  cases c with
  | false=>exact isTrue_or_nil e
  | true=>exact e
theorem hV (ha:PT X a tA) (hb:PW X (.BoolOp .And (b :: rest) pos) tB'):PW X (.BoolOp .And (a :: b :: rest) pos) (yH tA tB'):=by
  intro wh pins s σ H Q I h
  refine isTrue_and (thn (ha pins s σ H _ I h) fun c s1 ⟨H1,I1,q1⟩=>?_)
  cases c with
  | true=>exact hb wh pins s1 σ H1 Q I1 q1
  | false=>exact ⟨H1,I1,q1⟩
theorem xl (ha:PT X a tA) (hb:PW X (.BoolOp .Or (b :: rest) pos) tB'):PW X (.BoolOp .Or (a :: b :: rest) pos) (tOr tA tB'):=by
  intro wh pins s σ H Q I h
  refine isTrue_or (thn (ha pins s σ H _ I h) fun c s1 ⟨H1,I1,q1⟩=>?_)
  cases c with
  | true=>exact ⟨H1,I1,q1⟩
  | false=>exact hb wh pins s1 σ H1 Q I1 q1
theorem fk (ha:PT X a tA):PT X (.UnaryOp .Not a pos) (zt tA):=by
  intro pins s σ H Q I h
  exact isTrue_not (ha pins s σ H (fun c H1=>Q (!c) H1) I h)
def Ab (ta tb:TE):TE:=fun σ H Q=>ta σ H fun x H1=>∃ c,x = .bl c∧if c = true then tb σ H1 Q else Q (.bl false) H1
def AE (ta tb:TE):TE:=fun σ H Q=>ta σ H fun x H1=>∃ c,x = .bl c∧if c = true then Q (.bl true) H1 else tb σ H1 Q
def zO (ta:TE):TE:=fun σ H Q=>ta σ H fun x H1=>∃ c,x = .bl c∧Q (.bl (!c)) H1
theorem hI {op} {t:TE} (h:PE X a t):PE X (.BoolOp op [a] pos) t:=fun pins s σ H Q I hw=>BoolOp_one (h pins s σ H Q I hw)
def tIf (t:TT) (ta tb:TE):TE:=fun σ H Q=>t σ H fun c H1=>if c = true then ta σ H1 Q else tb σ H1 Q
theorem rQ {c:Expr} (hc:PT X c tA) (ha:PE X a ta) (hb:PE X b tb):PE X (.IfExp c a b pos) (tIf tA ta tb):=by
  intro pins s σ H Q I h
  refine wpAny_IfExp (thn (hc pins s σ H _ I h) fun d s1 ⟨H1,I1,q1⟩=>?_)
  cases d with
  | true=>exact ha pins s1 σ H1 Q I1 q1
  | false=>exact hb pins s1 σ H1 Q I1 q1
end
end L2
namespace L2
open PySem PySem.Spec PyProof.Rows
def SqL (K:PySem.W.Frag) (H:Hp) (a:Addr) (xs:List V):Prop :=
  Rd H a (.lst xs) ∨
    ∃ (o:Obj) (its:Array Value) (n:Nat),K.lookup a = some o∧o.cls = .type "list" ∧ o.dict = none∧o.data = .seq its n∧its.size≤sizeLine∧Vals xs its.toList
def SqT (K:PySem.W.Frag) (H:Hp) (a:Addr) (xs:List V):Prop :=
  Rd H a (.tup xs) ∨
    ∃ (o:Obj) (its:Array Value) (n:Nat),K.lookup a = some o∧o.cls = .type "tuple" ∧ o.data = .seq its n∧its.size≤sizeLine∧Vals xs its.toList
def zb:Value→Option V
  | .none=>some .non
  | .bool b=>some (.bl b)
  | .int i _=>some (.int i)
  | .str x _=>some (.str x)
  | .bytes b _=>some (.byt b)
  | .float b _=>some (.flt b)
  | .ref a=>some (.ref a)
  | .type n=>some (.ty n)
  | _=>none
theorem RelV.abs {x:V} {u:Value} (r:RelV x u):zb u = some x:=by
  cases x with
  | non=>cases r; rfl
  | bl _=>cases r; rfl
  | int _=>obtain ⟨t,rfl⟩:=r; rfl
  | str _=>obtain ⟨t,rfl⟩:=r; rfl
  | byt _=>obtain ⟨t,rfl⟩:=r; rfl
  | flt _=>obtain ⟨t,rfl⟩:=r; rfl
  | ref _=>cases r; rfl
  | ty _=>cases r; rfl
theorem RelV.inj {x y:V} {u:Value} (r:RelV x u) (q:RelV y u):x = y:=Option.some.inj (r.abs.symm.trans q.abs)
theorem Vals.inj:∀ {xs ys:List V} {us:List Value},Vals xs us→Vals ys us→xs = ys
  | _,_,_,.nil,.nil=>rfl
  | _,_,_,.cons r t,.cons r' t'=>by rw [r.inj r',Vals.inj t t']
section
variable {X:Cx} {pins:List (Addr×Obj)} {σ:St} {H:Hp} {s:Shared} {a:Addr} {xs ys:List V}
theorem SqL.of {K:PySem.W.Frag} (h:H a = some (.lst xs)):SqL K H a xs:=.inl (.inl h)
theorem SqT.of {K:PySem.W.Frag} (h:H a = some (.tup xs)):SqT K H a xs:=.inl (.inl h)
theorem Inv.list (I:Inv X pins σ H s) (h:SqL X.K H a xs):∃ its:List Value,Vals xs its∧PlainL s.heap a its.toArray∧xs.length≤sizeLine:=by
  rcases h with h | ⟨o,its,n,hk,hc,hd,hs,hz,r⟩
  · obtain ⟨z,its,n,r,e⟩:=h.ok I.hok
    exact ⟨its,r,⟨_,n,e,rfl,rfl,rfl⟩,z⟩
  · refine ⟨its.toList,r,⟨o,n,I.kIn a o hk,hc,hd,by simpa using hs⟩,?_⟩
    have e:=r.length
    simp only [Array.length_toList] at e
    omega
theorem Inv.tuple (I:Inv X pins σ H s) (h:SqT X.K H a xs):∃ its:List Value,Vals xs its∧IsTup s.heap a its.toArray∧xs.length≤sizeLine:=by
  rcases h with h | ⟨o,its,n,hk,hc,hs,hz,r⟩
  · obtain ⟨z,its,r,p⟩:=h.ok I.hok
    exact ⟨its,r,p,z⟩
  · refine ⟨its.toList,r,⟨o,I.kIn a o hk,hc,n,by simpa using hs⟩,?_⟩
    have e:=r.length
    simp only [Array.length_toList] at e
    omega
theorem Inv.list_inj (I:Inv X pins σ H s) (h:SqL X.K H a xs) (h':SqL X.K H a ys):xs = ys:=by
  obtain ⟨its,r,⟨o,n,e,_,_,d⟩,_⟩:=I.list h
  obtain ⟨its',r',⟨o',n',e',_,_,d'⟩,_⟩:=I.list h'
  rw [e] at e'; cases e'
  rw [d] at d'
  injection d' with d1 _
  have:its = its':=by simpa using congrArg Array.toList d1
  subst this
  exact r.inj r'
theorem Inv.tuple_inj (I:Inv X pins σ H s) (h:SqT X.K H a xs) (h':SqT X.K H a ys):xs = ys:=by
  obtain ⟨its,r,⟨o,e,_,n,d⟩,_⟩:=I.tuple h
  obtain ⟨its',r',⟨o',e',_,n',d'⟩,_⟩:=I.tuple h'
  rw [e] at e'; cases e'
  rw [d] at d'
  injection d' with d1 _
  have:its = its':=by simpa using congrArg Array.toList d1
  subst this
  exact r.inj r'
end
abbrev Cx.wish (X:Cx) (E:Value→Shared→Prop):Cx:={ X with xe:=E }
abbrev Cx.nox (X:Cx):Cx:=X.wish fun _ _=>False
theorem Cx.Ok.wish {X:Cx} (ok:X.Ok) (E:Value→Shared→Prop):(X.wish E).Ok :=
  ⟨ok.mod,ok.kind,ok.glob,ok.blt,ok.above,ok.inj,ok.has,ok.cab,ok.hd,ok.frames,ok.stk,ok.exf,ok.bs,ok.bsz,ok.noex,ok.exfs,ok.funs,ok.frf⟩
theorem Cx.Ok.unwish {X:Cx} {E:Value→Shared→Prop} (ok:(X.wish E).Ok):X.Ok :=
  ⟨ok.mod,ok.kind,ok.glob,ok.blt,ok.above,ok.inj,ok.has,ok.cab,ok.hd,ok.frames,ok.stk,ok.exf,ok.bs,ok.bsz,ok.noex,ok.exfs,ok.funs,ok.frf⟩
section
variable {X:Cx} {pins:List (Addr×Obj)} {σ:St} {H:Hp} {s:Shared} {E:Value→Shared→Prop}
theorem Inv.wish (I:Inv X pins σ H s) (E:Value→Shared→Prop):Inv (X.wish E) pins σ H s:=⟨I.ok.wish E,I.os,I.bare,I.base,I.loc,I.cell,I.free,I.freeC,I.pin,I.hok,I.len⟩
theorem Inv.unwish (I:Inv (X.wish E) pins σ H s):Inv X pins σ H s:=⟨I.ok.unwish,I.os,I.bare,I.base,I.loc,I.cell,I.free,I.freeC,I.pin,I.hok,I.len⟩
theorem SP.unwish {D:Ends} {f:Flow} {s':Shared} (h:SP (X.wish E) pins D f s'):SP X pins D f s':=by
  cases f with
  | next=>obtain ⟨σ',H',I,q⟩:=h; exact ⟨σ',H',I.unwish,q⟩
  | brk=>obtain ⟨σ',H',I,q⟩:=h; exact ⟨σ',H',I.unwish,q⟩
  | cont=>obtain ⟨σ',H',I,q⟩:=h; exact ⟨σ',H',I.unwish,q⟩
  | ret u=>obtain ⟨v,σ',H',I,r,q⟩:=h; exact ⟨v,σ',H',I.unwish,r,q⟩
theorem PSs.nox {st:List Stmt} {t:TS} (h:PSs X.nox st t):PSs X st t:=fun pins s σ H D I hw =>
  wpAny_mono (h pins s σ H D (I.wish _) hw) (fun _ _ q=>q.unwish) fun _ _ z=>False.elim z
end
section
variable {X:Cx} {st:Stmt} {rest:List Stmt} {t u:TS} {e:Expr} {te:TE} {pos:Pos}
def vd:TS:=fun D σ H=>D.nx σ H
def vE (t u:TS):TS:=fun D σ H=>t { D with nx:=u D } σ H
theorem aM:PSs X [] vd:=fun _ _ σ H _ I h=>wpAny_execs_nil ⟨σ,H,I,h⟩
theorem aj (h1:PS X st t) (h2:PSs X rest u):PSs X (st :: rest) (vE t u):=by
  intro pins s σ H D I h
  refine wpAny_execs_cons (thn (h1 pins s σ H { D with nx:=u D } I h) fun f s1 q=>?_)
  cases f with
  | next =>
    obtain ⟨σ',H',I',q⟩:=q
    exact h2 pins s1 σ' H' D I' q
  | ret v=>exact q
  | brk=>exact q
  | cont=>exact q
theorem ak (h1:PS X st t):PSs X [st] t:=by
  intro pins s σ H D I h
  refine wpAny_execs_cons (thn (h1 pins s σ H D I h) fun f s1 q=>?_)
  cases f with
  | next=>exact wpAny_execs_nil q
  | ret v=>exact q
  | brk=>exact q
  | cont=>exact q
def zj:TS:=fun D σ H=>D.bk σ H
def zR:TS:=fun D σ H=>D.ct σ H
theorem ua:PS X (.Pass pos) vd:=fun _ _ σ H _ I h=>wpAny_Pass ⟨σ,H,I,h⟩
theorem Inv.quiet {pins:List (Addr×Obj)} {σ:St} {H:Hp} {s:Shared} (I:Inv X pins σ H s):interactive X.env = false:=by simp [interactive,I.ok.kind]
def xm (te:TE):TS:=fun D σ H=>te σ H fun _ H1=>D.nx σ H1
theorem dF (he:PE X e te) (hs:swapsWith e none pos.line X.env = pure false:=by rfl):PS X (.Expr e pos) (xm te):=by
  intro pins s σ H D I h
  exact wpAny_Expr_any (thn (he pins s σ H _ I h) fun v s1 ⟨x,H1,I1,r1,q1⟩=>⟨σ,H1,I1,q1⟩) I.quiet hs
def xV (te:TE):TS:=fun D σ H=>te σ H D.rt
theorem aq (he:PE X e te):PS X (.Return (some e) pos) (xV te):=by
  intro pins s σ H D I h
  exact wpAny_Return_some (thn (he pins s σ H _ I h) fun v s1 ⟨x,H1,I1,r1,q1⟩=>⟨x,σ,H1,I1,r1,q1⟩)
def zI:TS:=fun D _ H=>D.rt .non H
def yu (c:TT) (t u:TS):TS:=fun D σ H=>c σ H fun b H1=>if b = true then t D σ H1 else u D σ H1
theorem bu {c:Expr} {a b:List Stmt} {tc:TT} (hc:PT X c tc) (ha:PSs X a t) (hb:PSs X b u):PS X (.If c a b pos) (yu tc t u):=by
  intro pins s σ H D I h
  refine wpAny_If (thn (hc pins s σ H _ I h) fun d s1 ⟨H1,I1,q1⟩=>?_)
  cases d with
  | true=>exact ha pins s1 σ H1 D I1 q1
  | false=>exact hb pins s1 σ H1 D I1 q1
def vv:TS:=fun _ _ _=>False
theorem lW:PS X st vv:=fun _ _ _ _ _ _ h=>h.elim
end
abbrev TG:=V→St→Hp→(St→Hp→Prop)→Prop
abbrev TGs:=List V→St→Hp→(St→Hp→Prop)→Prop
def PG (X:Cx) (target:Expr) (t:TG):Prop :=
  ∀ (pins:List (Addr×Obj)) (s:Shared) (σ:St) (H:Hp) (v:V) (u:Value) (Q:St→Hp→Prop),Inv X pins σ H s→RelV v u→t v σ H Q →
    wpAny (model X.prog X.w) X.A (assign target X.env u) (fun _ s'=>∃ σ' H',Inv X pins σ' H' s'∧Q σ' H') X.xe s
def PGs (X:Cx) (ts:List Expr) (t:TGs):Prop :=
  ∀ (pins:List (Addr×Obj)) (s:Shared) (σ:St) (H:Hp) (vs:List V) (us:List Value) (Q:St→Hp→Prop),Inv X pins σ H s→Vals vs us→t vs σ H Q →
    wpAny (model X.prog X.w) X.A (assignInOrder ((assignEach ts X.env).map (·.2)) us) (fun _ s'=>∃ σ' H',Inv X pins σ' H' s'∧Q σ' H') X.xe s
abbrev p8:=V→V→V→Hp→(Hp→Prop)→Prop
def v8 (X:Cx) (t:p8):Prop :=
  ∀ (pins:List (Addr×Obj)) (s:Shared) (σ:St) (H:Hp) (o i v:V) (ov iv u:Value) (Q:Hp→Prop),Inv X pins σ H s→RelV o ov→RelV i iv→RelV v u→t o i v H Q →
    wpAny (model X.prog X.w) X.A (setItem ov iv u) (fun _ s'=>∃ H',Inv X pins σ H' s'∧Q H') X.xe s
abbrev TIp:=V→V→Hp→VK→Prop
def PIp (X:Cx) (op:Operator) (t:TIp):Prop :=
  ∀ (pins:List (Addr×Obj)) (s:Shared) (σ:St) (H:Hp) (x y:V) (v u:Value) (Q:VK),Inv X pins σ H s→RelV x v→RelV y u→t x y H Q →
    wpAny (model X.prog X.w) X.A (inplaceOp op v u) (EP X pins σ Q) X.xe s
section
variable {X:Cx} {pos:Pos}
def qR (i:Nat):TG:=fun v σ H Q=>Q (σ.set i (some v)) H
theorem aw {i:Nat} {x:Str} (hN:X.N.Nodup) (hi:X.N[i]? = some x) (hx:Loc X.env.scope x) (hf:X.fn x = true∨X.env.scope.names.lookup x = some .local:=by first | exact .inl rfl | exact .inr rfl | assumption):PG X (.Name x pos) (qR i):=by
  intro pins s σ H v u Q I r h
  exact wpAny_assign_Name (fX I hN hi hx r (fun s' I'=>⟨_,H,I',h⟩) hf)
def yV:TGs:=fun vs σ H Q=>vs = []∧Q σ H
inductive gCons (t:TG) (u:TGs) (vs:List V) (σ:St) (H:Hp) (Q:St→Hp→Prop):Prop
  | mk (v:V) (r:List V) (h0:vs = v :: r) (h1:t v σ H fun σ' H'=>u r σ' H' Q):gCons t u vs σ H Q
theorem dG:PGs X [] yV:=by
  intro pins s σ H vs us Q I r h
  obtain ⟨e,h⟩:=h
  subst e
  cases r
  exact assignInOrder_nil ⟨σ,H,I,h⟩
theorem aG {e:Expr} {es:List Expr} {t:TG} {u:TGs} (h1:PG X e t) (h2:PGs X es u)
    (hs:(assignEach (e :: es) X.env).map (·.2) = assign e X.env :: (assignEach es X.env).map (·.2):=by rfl):PGs X (e :: es) (gCons t u):=by
  intro pins s σ H vs us Q I r h
  obtain ⟨v,vr,e1,h⟩:=h
  subst e1
  cases r with
  | cons r rr =>
    rw [hs]
    refine assignInOrder_cons (thn (h1 pins s σ H _ _ _ I r h) fun _ s1 ⟨σ1,H1,I1,q1⟩=>?_)
    exact h2 pins s1 σ1 H1 _ _ Q I1 rr q1
inductive gTup (K:PySem.W.Frag) (n:Nat) (t:TGs) (v:V) (σ:St) (H:Hp) (Q:St→Hp→Prop):Prop
  | mk (a:Addr) (xs:List V) (h0:v = .ref a) (h1:SqT K H a xs) (h2:xs.length = n) (h3:t xs σ H Q):gTup K n t v σ H Q
theorem fu {es:List Expr} {k:Nat} {t:TGs} {n:Nat} (hc:X.calm = true) (h:PGs X es t)
    (hn:(assignEach es X.env).length = n:=by rfl) (hst:(assignEach es X.env).findIdx? (·.1) = none:=by rfl):PG X (.Tuple es k pos) (gTup X.K n t):=by
  intro pins s σ H v u Q I r hw
  obtain ⟨a,xs,e1,hq,hl,hw⟩:=hw
  subst e1
  cases r
  obtain ⟨its,rv,ht,hz⟩:=I.tuple hq
  refine assign_Tuple_tuple (I.ok.hd hc) ht (by simp [hn,← hl,rv.length]) hst fun h' hx=>?_
  have I1:Inv X pins σ H { s with heap:=h' }:=I.kept (t':=s.toks) fun b o e=>hx b o (Nat.ne_of_lt (Heap.lt_size e)) e
  exact h pins _ σ H xs _ Q I1 (by simpa using rv) hw
def yx (to ti:TE) (t:p8):TG:=fun v σ H Q=>to σ H fun o H1=>ti σ H1 fun i H2=>t o i v H2 fun H3=>Q σ H3
theorem v6 {o i:Expr} {to ti:TE} {t:p8} (ho:PE X o to) (hi:PE X i ti) (hs:v8 X t)
    (ha:∀ v,assign (.Subscript o i pos) X.env v = (do
      let ov ← holding [v] (eval o X.env)
      let iv ← holding [v,ov] (eval i X.env)
      standAt pos
      holding [v,ov,iv] (setItem ov iv v)
      release [v,ov,iv] []):=by intro _; rfl):PG X (.Subscript o i pos) (yx to ti t):=by
  intro pins s σ H v u Q I r h
  rw [ha]
  refine wpAny_bind (wpAny_holding (thn (ho pins s σ H _ I h) fun ov s1 ⟨x,H1,I1,r1,q1⟩=>?_))
  refine wpAny_bind (wpAny_holding (thn (hi pins s1 σ H1 _ I1 q1) fun iv s2 ⟨y,H2,I2,r2,q2⟩=>?_))
  refine wpAny_bind (wpAny_standAt (wpAny_bind (wpAny_holding (thn (hs pins s2 σ H2 x y v ov iv u _ I2 r1 r2 r q2) fun _ s3 ⟨H3,I3,q3⟩=>?_))))
  exact wpAny_release ⟨σ,H3,I3,q3⟩
def vN (te:TE) (g:TG):TS:=fun D σ H=>te σ H fun x H1=>g x σ H1 D.nx
theorem jD {tg e:Expr} {te:TE} {g:TG} (he:PE X e te) (hg:PG X tg g) (hs:swapsWithSole [tg] e pos.line X.env = pure false:=by rfl) (hw:swappedStores [tg] e X.env = pure none:=by rfl)
    (h1:(assignEach [tg] X.env).map (·.2) = [assign tg X.env]:=by rfl):PS X (.Assign [tg] e pos) (vN te g):=by
  intro pins s σ H D I h
  refine wpAny_Assign_stores (thn (he pins s σ H _ I h) fun v s1 ⟨x,H1,I1,r1,q1⟩=>?_) hs hw
  rw [h1]
  exact thn (hg pins s1 σ H1 x v _ I1 r1 q1) fun _ s2 q=>q
theorem az {i:Nat} {x:Str} {e:Expr} {te:TE} {pos':Pos} (hN:X.N.Nodup) (hi:X.N[i]? = some x) (hx:Loc X.env.scope x) (he:PE X e te) (hs:swapsWith e (some (.Name x pos')) pos.line X.env = pure false:=by rfl) (hf:X.fn x = true∨X.env.scope.names.lookup x = some .local:=by first | exact .inl rfl | exact .inr rfl | assumption) :
    PS X (.Assign [.Name x pos'] e pos) (vN te (qR i)):=by
  intro pins s σ H D I h
  refine wpAny_Assign_Name (thn (he pins s σ H _ I h) fun v s1 ⟨y,H1,I1,r1,q1⟩=>?_) hs
  exact fX I1 hN hi hx r1 (fun s2 I2=>⟨_,H1,I2,q1⟩) hf
def yF (i j:Nat) (ta:TA):TS:=fun D σ H=>ta σ H fun vs H1=>∃ v w,vs = [v,w]∧D.nx ((σ.set i (some v)).set j (some w)) H1
theorem wp {i j:Nat} {x y:Str} {a b:Expr} {ta:TA} {px py pt:Pos} {kt k2 pt2} (hc:X.calm = true) (hN:X.N.Nodup) (hi:X.N[i]? = some x) (hj:X.N[j]? = some y) (hij:i≠j)
    (hx:X.env.scope.names.lookup x = some .local) (hy:X.env.scope.names.lookup y = some .local) (ha:PA X [a,b] ta)
    (hw:swappedStores [.Tuple [.Name x px,.Name y py] kt pt] (.Tuple [a,b] k2 pt2) X.env = pure (some [x,y]))
    (hs:swapsWithSole [.Tuple [.Name x px,.Name y py] kt pt] (.Tuple [a,b] k2 pt2) pos.line X.env = pure false:=by rfl) :
    PS X (.Assign [.Tuple [.Name x px,.Name y py] kt pt] (.Tuple [a,b] k2 pt2) pos) (yF i j ta):=by
  intro pins s σ H D I h
  rw [exec_Assign_arm]
  refine wpAny_bind (wpAny_standAt ?_)
  rw [hs]
  refine wpAny_bind (wpAny_pure ?_)
  rw [if_neg (by decide)]
  refine wpAny_bind (Tuple_ (thn (ha _ pins s σ H _ I h) fun us s1 ⟨vs,H1,I1,r1,q1⟩=>?_))
  obtain ⟨v,w,e1,q1⟩:=q1
  subst e1
  obtain ⟨u1,u2,rfl,rv,rw'⟩:∃ u1 u2,us = [u1,u2]∧RelV v u1∧RelV w u2:=by
    cases r1 with
    | cons p q =>
      cases q with
      | cons p' q' =>
        cases q'
        exact ⟨_,_,rfl,p,p'⟩
  refine wpAny_newObj_type ?_ (by show 2≤sizeLine; decide)
  have I2:Inv X pins σ H1 { s1 with heap:=s1.heap.push { cls:=.type "tuple",data:=.seq [u1,u2].toArray } }:=I1.kept (t':=s1.toks) fun b o e=>Heap.get?_push_of_some _ e
  rw [hw]
  refine wpAny_bind (wpAny_pure ?_)
  show wpAny (model X.prog X.w) X.A (do rule "assign.swapped-stores"; let items ← unpackItems (.ref s1.heap.objs.size) 2 none; assignInOrder [fun v=>bindName X.env y v,fun v=>bindName X.env x v] items.reverse; pure Flow.next) _ _ _
  refine wpAny_bind (wpAny_rule (wpAny_bind (unpackItems_tuple (items:=#[u1,u2]) (I.ok.hd hc) (IsTup.new s1.heap _) fun h' hx'=>?_)))
  have I3:=I2.kept (h':=h') (t':=s1.toks) fun b o e=>hx' b o (Nat.ne_of_lt (Heap.lt_size e)) e
  show wpAny _ _ (assignInOrder [fun v=>bindName X.env y v,fun v=>bindName X.env x v] [u2,u1] >>= fun _=>pure Flow.next) _ _ _
  refine wpAny_bind (assignInOrder_cons (wpAny_bindName (fX I3 hN hj (.inl hy) rw' (fun s2 I4=>?_) (.inr hy))))
  refine assignInOrder_cons (wpAny_bindName (fX I4 hN hi (.inl hx) rv (fun s3 I5=>assignInOrder_nil (wpAny_pure ?_)) (.inr hx)))
  rw [List.set_comm _ _ (Ne.symm hij)] at I5
  exact ⟨_,H1,I5,q1⟩
def AC (i:Nat) (te:TE) (ti:TIp):TS:=fun D σ H=>∃ x,σ[i]? = some (some x)∧te σ H fun y H1=>ti x y H1 fun z H2=>D.nx (σ.set i (some z)) H2
def wY (to ti te:TE) (tget:V→V→Hp→VK→Prop) (tip:TIp) (tset:p8):TS:=fun D σ H=>to σ H fun o H1=>ti σ H1 fun i H2=>tget o i H2 fun x H3=>te σ H3 fun y H4=>tip x y H4 fun z H5=>tset o i z H5 fun H6=>D.nx σ H6
def wL (X:Cx) (t:V→V→Hp→VK→Prop):Prop :=
  ∀ (pins:List (Addr×Obj)) (s:Shared) (σ:St) (H:Hp) (o i:V) (ov iv:Value) (Q:VK),Inv X pins σ H s→RelV o ov→RelV i iv→t o i H Q →
    wpAny (model X.prog X.w) X.A (getItem ov iv) (EP X pins σ Q) X.xe s
theorem uo {o i e:Expr} {to ti te:TE} {tget:V→V→Hp→VK→Prop} {tip:TIp} {tset:p8} {op:Operator} {tpos:Pos} (ho:PE X o to) (hi:PE X i ti) (hg:wL X tget) (he:PE X e te) (hp:PIp X op tip) (hs:v8 X tset)
    (ha:∀ ov iv new,augStore i ov iv new = (do holding [new,ov,iv] (setItem ov iv new); release [new,ov,iv] []; pure .next):=by intros; rfl):PS X (.AugAssign (.Subscript o i tpos) op e pos) (wY to ti te tget tip tset):=by
  intro pins s σ H D I h
  refine wpAny_AugAssign_SubscriptAny (thn (ho pins s σ H _ I h) fun ov s1 ⟨x1,H1,I1,r1,q1⟩=>?_) ha
  refine thn (hi pins s1 σ H1 _ I1 q1) fun iv s2 ⟨x2,H2,I2,r2,q2⟩=>?_
  refine thn (hg pins s2 σ H2 x1 x2 ov iv _ I2 r1 r2 q2) fun old s3 ⟨x3,H3,I3,r3,q3⟩=>?_
  refine thn (he pins s3 σ H3 _ I3 q3) fun v s4 ⟨x4,H4,I4,r4,q4⟩=>?_
  refine thn (hp pins s4 σ H4 x3 x4 old v _ I4 r3 r4 q4) fun new s5 ⟨x5,H5,I5,r5,q5⟩=>?_
  exact thn (hs pins s5 σ H5 x1 x2 x5 ov iv new _ I5 r1 r2 r5 q5) fun _ s6 ⟨H6,I6,q6⟩=>⟨σ,H6,I6,q6⟩
def ipI (f:Int→Int→Int):TIp:=fun x y H Q=>∃ i j,x = .int i∧y = .int j∧Q (.int (f i j)) H
theorem vK:PIp X .Add (ipI fun i j=>i + j):=by
  intro pins s σ H x y v u Q I r1 r2 h
  obtain ⟨i,j,e1,e2,q⟩:=h
  subst e1; subst e2
  obtain ⟨t,rfl⟩:=r1
  obtain ⟨t',rfl⟩:=r2
  exact iadd_int ⟨.int _,H,I.tok _,⟨_,rfl⟩,q⟩
end
section
variable {X:Cx} {pos:Pos}
def vy (c:TT) (tb:TS):TS:=fun D σ H=>∃ W:Nat→St→Hp→Prop,(∃ m,W m σ H)∧∀ m σ H,W m σ H →
  c σ H fun b H1=>if b = true then ∃ N:St→Hp→Prop,(∀ σ' H',N σ' H'→∃ m',m' < m∧W m' σ' H')∧tb { D with nx:=N,ct:=N,bk:=D.nx } σ H1 else D.nx σ H1
theorem rq {c:Expr} {body:List Stmt} {tc:TT} {tb:TS} (hp:PassesOwn (model X.prog X.w) X.A X.env X.xe) (hc:PT X c tc) (hb:PSs X body tb):PS X (.While c body [] pos) (vy tc tb):=by
  intro pins s σ H D I h
  obtain ⟨W,⟨m0,w0⟩,turn⟩:=h
  refine wpAny_While (codeAny_whileLoop (fun n s'=>∃ σ' H',Inv X pins σ' H' s'∧W n σ' H') ?_ m0 ⟨σ,H,I,w0⟩)
  rintro n s1 ⟨σ1,H1,I1,w1⟩
  refine wpAny_passesOwn hp (thn (hc pins s1 σ1 H1 _ I1 (turn n σ1 H1 w1)) fun b s2 ⟨H2,I2,q2⟩=>?_)
  cases b with
  | true =>
    obtain ⟨N,hN,q2⟩:=q2
    rw [if_pos rfl]
    refine wpAny_passesOwn hp (thn (hb pins s2 σ1 H2 _ I2 q2) fun f s3 q3=>?_)
    cases f with
    | next =>
      obtain ⟨σ3,H3,I3,n3⟩:=q3
      obtain ⟨m',hm,w3⟩:=hN σ3 H3 n3
      exact ⟨m',hm,σ3,H3,I3,w3⟩
    | cont =>
      obtain ⟨σ3,H3,I3,n3⟩:=q3
      obtain ⟨m',hm,w3⟩:=hN σ3 H3 n3
      exact ⟨m',hm,σ3,H3,I3,w3⟩
    | brk=>exact q3
    | ret v=>exact q3
  | false =>
    rw [if_neg Bool.false_ne_true]
    exact wpAny_execs_nil ⟨σ1,H2,I2,q2⟩
end
structure It where
  go:Nat→Hp→Prop
  yld:Nat→Hp→V→Hp→Prop
  stop:Nat→Hp→Prop
def hX (X:Cx) (pins:List (Addr×Obj)) (H:Hp) (b:Addr):Prop :=
  H b = none∧b≠X.env.locals∧b ∉ X.fs∧(b ∈ X.ex∨X.s₀.heap.objs.size≤b)∧(∀ x c,X.env.cells.lookup x = some c→c≠b)∧∀ p ∈ X.pn ++ pins,p.1≠b
theorem Inv.fpOk {X:Cx} {pins:List (Addr×Obj)} {σ:St} {H H':Hp} {s:Shared} {b:Addr} (I:Inv X pins σ H s) (hb:s.heap.objs.size≤b) (hn:H' b = none):hX X pins H' b:=by
  refine ⟨hn,Nat.ne_of_gt (Nat.lt_of_lt_of_le I.lt hb),I.nofs hb,.inr (Nat.le_trans I.sz hb),fun x c e z=>?_,fun p hp z=>?_⟩
  · obtain ⟨v,q⟩:=I.cell x c e
    exact absurd (Nat.lt_of_lt_of_le q.lt (by rw [z]; exact hb)) (Nat.lt_irrefl _)
  · exact absurd (Nat.lt_of_lt_of_le (Heap.lt_size (I.pin p hp).1) (by rw [z]; exact hb)) (Nat.lt_irrefl _)
structure Turn (P:Program) (w:World) (K:PySem.W.Frag) (tg:Expr) (J:It) (fp:List Addr) (it:Addr) (tn:Nat→Heap→Prop):Prop where
  mem:it ∈ fp
  obj:∀ i h,tn i h→∀ b ∈ fp,∃ o,h.get? b = some o∧∀ v,o.data≠.cell v
  keep:∀ i h h',tn i h→(∀ b ∈ fp,∀ o,h.get? b = some o→h'.get? b = some o)→tn i h'
  item:∀ (X:Cx),X.prog = P→X.w = w→X.K = K→X.calm = true→∀ (i:Nat) (pins:List (Addr×Obj)) (s:Shared) (σ:St) (H:Hp) (E:Value→Shared→Prop),Inv X pins σ H s→(∀ b ∈ fp,hX X pins H b)→tn i s.heap→J.go i H →
    wpAny (model P w) X.A (pyNext (.ref it)) (fun r s1=>∃ u,r = some u ∧
      wpAny (model P w) X.A (letOwnedTupleGo tg (.ref it) u) (fun _ s2=>∃ x H',Inv X pins σ H' s2∧RelV x u∧J.yld i H x H'∧tn (i + 1) s2.heap∧∀ b ∈ fp,H' b = none) E s1) E s
  done:∀ (X:Cx),X.prog = P→X.w = w→X.K = K→X.calm = true→∀ (i:Nat) (pins:List (Addr×Obj)) (s:Shared) (σ:St) (H:Hp) (E:Value→Shared→Prop),Inv X pins σ H s→(∀ b ∈ fp,hX X pins H b)→tn i s.heap→J.stop i H →
    wpAny (model P w) X.A (pyNext (.ref it)) (fun r s1=>r = none∧Inv X pins σ H s1) E s
  self:∀ (A:Around) (i:Nat) (s:Shared) (Q:Value→Shared→Prop) (E:Value→Shared→Prop),tn i s.heap→Q (.ref it) s→wpAny (model P w) A (pyIter (.ref it)) Q E s
abbrev TI:=St→Hp→(It→Hp→Prop)→Prop
def PIE (X:Cx) (pins:List (Addr×Obj)) (σ:St) (tg:Expr) (R:It→Hp→Prop) (itv:Value) (s2:Shared):Prop :=
  ∃ (it:Addr) (fp:List Addr) (tn:Nat→Heap→Prop) (J:It) (H':Hp),itv = .ref it∧Inv X pins σ H' s2∧Turn X.prog X.w X.K tg J fp it tn∧tn 0 s2.heap∧(∀ b ∈ fp,hX X pins H' b)∧R J H'
def PI (X:Cx) (tg iter:Expr) (wi:TI):Prop :=
  ∀ (pins:List (Addr×Obj)) (s:Shared) (σ:St) (H:Hp) (R:It→Hp→Prop),Inv X pins σ H s→wi σ H R →
    wpAny (model X.prog X.w) X.A (eval iter X.env) (fun v s1=>wpAny (model X.prog X.w) X.A (pyIter v) (PIE X pins σ tg R) X.xe s1) X.xe s
theorem mf {M:Model} {A:Around} {E:Value→Shared→Prop} {s:Shared} {tg:Expr} {it:Addr} {u:Value} {o:Obj} {n:String} {vs:Array Value} {Q:Unit→Shared→Prop} (ho:s.heap.get? it = some o) (hc:o.cls = .type n) (hd:o.data = .fields vs)
    (hn:["enumerate", "zip", "dict_itemiterator", "dict_reverseitemiterator", "odict_iterator", "itertools.zip_longest", "itertools.pairwise"].contains n = false) (hQ:Q () s):wpAny M A (letOwnedTupleGo tg (.ref it) u) Q E s:=by
  unfold letOwnedTupleGo
  cases tg <;> first
    | exact wpAny_pure hQ
    | (cases u <;> first
        | exact wpAny_pure hQ
        | (refine wpAny_bind (wpAny_load ho ?_)
           rw [hc,hd]
           show wpAny M A (if (["enumerate", "zip", "dict_itemiterator", "dict_reverseitemiterator", "odict_iterator", "itertools.zip_longest", "itertools.pairwise"].contains n && vs[0]? == some (rawInt _)) = true then _ else _) Q E s
           rw [if_neg (by intro h; rw [hn,Bool.false_and] at h; cases h)]
           exact wpAny_pure hQ))
def Itl (K:PySem.W.Frag) (a:Addr):It :=
  ⟨fun i H=>∃ xs x,SqL K H a xs∧xs[i]? = some x,fun i H x H'=>H' = H∧∀ xs,SqL K H a xs→xs[i]? = some x,fun i H=>∃ xs,SqL K H a xs∧xs.length≤i⟩
def Itt (K:PySem.W.Frag) (a:Addr):It :=
  ⟨fun i H=>∃ xs x,SqT K H a xs∧xs[i]? = some x,fun i H x H'=>H' = H∧∀ xs,SqT K H a xs→xs[i]? = some x,fun i H=>∃ xs,SqT K H a xs∧xs.length≤i⟩
def Itr (lo:Int) (n:Nat):It:=⟨fun i _=>i < n,fun i H x H'=>H' = H∧x = .int (lo + i),fun i _=>n≤i⟩
theorem oU {P:Program} {w:World} {K:PySem.W.Frag} {tg:Expr} (a it:Addr):Turn P w K tg (Itl K a) [it] it (fun i h=>h.IsListIter it a i) where
  mem:=by simp
  obj:=fun i h st b hb=>by
    have e:b = it:=by simpa using hb
    subst e
    obtain ⟨o,e,c,d⟩:=st
    exact ⟨o,e,fun v z=>by rw [d] at z; cases z⟩
  keep:=fun i h h' st k=>st.at fun o e=>k it (by simp) o e
  item:=by
    intro X hP hw hK hc i pins s σ H E I hf st hg
    subst hP hw hK
    obtain ⟨xs,x,hq,hx⟩:=hg
    obtain ⟨its,rv,p,hz⟩:=I.list hq
    obtain ⟨u,hu,ru⟩:=rv.get hx
    obtain ⟨f0,f1,f2,f3,f4,f5⟩:=hf it (by simp)
    refine wpAny_pyNext_list_item st p.isList (x:=u) (by simpa using hu) fun h' st' sb=>?_
    have I1:Inv X pins σ H { s with heap:=h' }:=I.turned (t':=s.toks) (fun b o hb e=>(sb.2 b hb).trans e) f0 f1 f3 f4 f5
    obtain ⟨o,e,c,d⟩:=id st'
    exact ⟨u,rfl,mf (s:={ s with heap:=h' }) e c d (by decide) ⟨x,H,I1,ru,⟨rfl,fun ys hy=>by rw [I.list_inj hy hq]; exact hx⟩,st',fun b hb=>(hf b hb).1⟩⟩
  done:=by
    intro X hP hw hK hc i pins s σ H E I hf st hg
    subst hP hw hK
    obtain ⟨xs,hq,hx⟩:=hg
    obtain ⟨its,rv,p,hz⟩:=I.list hq
    obtain ⟨f0,f1,f2,f3,f4,f5⟩:=hf it (by simp)
    have hl:=rv.length
    exact wpAny_pyNext_list_end (I.ok.hd hc) st p.isList (by simp; omega) fun h' eb=>⟨rfl,I.turned (t':=s.toks) (fun b o hb e=>eb b o hb e) f0 f1 f3 f4 f5⟩
  self:=fun _ _ _ _ _ st h=>wpAny_pyIter_listiter st h
theorem mP {P:Program} {w:World} {K:PySem.W.Frag} {tg:Expr} (a it:Addr):Turn P w K tg (Itt K a) [it] it (fun i h=>h.IsTupleIter it a i) where
  mem:=by simp
  obj:=fun i h st b hb=>by
    have e:b = it:=by simpa using hb
    subst e
    obtain ⟨o,e,c,d⟩:=st
    exact ⟨o,e,fun v z=>by rw [d] at z; cases z⟩
  keep:=fun i h h' st k=>st.at fun o e=>k it (by simp) o e
  item:=by
    intro X hP hw hK hc i pins s σ H E I hf st hg
    subst hP hw hK
    obtain ⟨xs,x,hq,hx⟩:=hg
    obtain ⟨its,rv,p,hz⟩:=I.tuple hq
    obtain ⟨u,hu,ru⟩:=rv.get hx
    obtain ⟨f0,f1,f2,f3,f4,f5⟩:=hf it (by simp)
    refine wpAny_pyNext_tuple_item st (show s.heap.IsTuple a its.toArray from p) (x:=u) (by simpa using hu) fun h' st' sb=>?_
    have I1:Inv X pins σ H { s with heap:=h' }:=I.turned (t':=s.toks) (fun b o hb e=>(sb.2 b hb).trans e) f0 f1 f3 f4 f5
    obtain ⟨o,e,c,d⟩:=id st'
    exact ⟨u,rfl,mf (s:={ s with heap:=h' }) e c d (by decide) ⟨x,H,I1,ru,⟨rfl,fun ys hy=>by rw [I.tuple_inj hy hq]; exact hx⟩,st',fun b hb=>(hf b hb).1⟩⟩
  done:=by
    intro X hP hw hK hc i pins s σ H E I hf st hg
    subst hP hw hK
    obtain ⟨xs,hq,hx⟩:=hg
    obtain ⟨its,rv,p,hz⟩:=I.tuple hq
    obtain ⟨f0,f1,f2,f3,f4,f5⟩:=hf it (by simp)
    have hl:=rv.length
    exact wpAny_pyNext_tuple_end (I.ok.hd hc) st (show s.heap.IsTuple a its.toArray from p) (by simp; omega) fun h' eb=>⟨rfl,I.turned (t':=s.toks) (fun b o hb e=>eb b o hb e) f0 f1 f3 f4 f5⟩
  self:=fun _ _ _ _ _ st h=>wpAny_pyIter_tupleiter st h
theorem my {P:Program} {w:World} {K:PySem.W.Frag} {tg:Expr} (it:Addr) (lo:Int) (n:Nat):Turn P w K tg (Itr lo n) [it] it (fun i h=>IsRangeIter h it (lo + (i:Nat) * 1) ((n:Int) - (i:Nat)) 1) where
  mem:=by simp
  obj:=fun i h st b hb=>by
    have e:b = it:=by simpa using hb
    subst e
    exact ⟨_,st,fun v z=>by
      have z':Data.fields _ = Data.cell v:=z
      cases z'⟩
  keep:=fun i h h' st k=>k it (by simp) _ st
  item:=by
    intro X hP hw hK hc i pins s σ H E I hf st hg
    subst hP hw hK
    obtain ⟨f0,f1,f2,f3,f4,f5⟩:=hf it (by simp)
    have W:=Walks.range (prog:=X.prog) (w:=X.w) (I.ok.hd hc) it lo 1 n
    refine W.item i s _ _ hg st fun v h' tk hv st' kk=>?_
    obtain ⟨t,rfl⟩:=hv
    have I1:Inv X pins σ H { s with heap:=h',toks:=tk }:=I.turned (fun b o hb e=>kk b o (by simpa using hb) e) f0 f1 f3 f4 f5
    refine ⟨_,rfl,mf (s:={ s with heap:=h',toks:=tk }) (n := "range_iterator") st' rfl rfl (by decide) ⟨.int (lo + i),H,I1,⟨t,?_⟩,⟨rfl,rfl⟩,st',fun b hb=>(hf b hb).1⟩⟩
    rw [Int.mul_one]
  done:=by
    intro X hP hw hK hc i pins s σ H E I hf st hg
    subst hP hw hK
    obtain ⟨f0,f1,f2,f3,f4,f5⟩:=hf it (by simp)
    exact wpAny_pyNext_range_end (I.ok.hd hc) st (by have:n≤i:=hg; omega) fun h' eb=>⟨rfl,I.turned (t':=s.toks) (fun b o hb e=>eb b o hb e) f0 f1 f3 f4 f5⟩
  self:=fun _ _ _ _ _ st h=>wpAny_pyIter_rangeiter st h
end L2
namespace L2
open PySem PySem.Spec PyProof.Rows
section
variable {X:Cx} {tg:Expr}
def zS (K:PySem.W.Frag) (tl:TE):TI:=fun σ H R=>tl σ H fun x H1=>∃ a,x = .ref a∧(∃ xs,SqL K H1 a xs)∧R (Itl K a) H1
def Ah (K:PySem.W.Frag) (tl:TE):TI:=fun σ H R=>tl σ H fun x H1=>∃ a,x = .ref a∧(∃ xs,SqT K H1 a xs)∧R (Itt K a) H1
theorem qa {pins:List (Addr×Obj)} {σ:St} {H:Hp} {s:Shared} {R:It→Hp→Prop} {E:Value→Shared→Prop} {lo hi:Int} {t u v:Tok} {tk:Nat} (I:Inv X pins σ H s) (h1:-(2 ^ 62)≤lo) (h2:lo < 2 ^ 62) (h3:-(2 ^ 62)≤hi) (h4:hi < 2 ^ 62)
    (q:R (Itr lo (hi - lo).toNat) H):wpAny (model X.prog X.w) X.A (pyIter (.ref s.heap.objs.size)) (PIE X pins σ tg R) E { s with heap:=s.heap.push { cls:=.type "range",data:=.fields #[.int lo t,.int hi u,.int 1 v] },toks:=tk }:=by
  refine wpAny_pyIter_range (IsRange.new ..) (small_one h1 h2 h3 h4) ?_
  have I1:Inv X pins σ H { s with heap:=s.heap.push { cls:=.type "range",data:=.fields #[.int lo t,.int hi u,.int 1 v] },toks:=tk }:=I.kept fun b o e=>Heap.get?_push_of_some _ e
  refine ⟨(s.heap.push { cls:=.type "range",data:=.fields #[.int lo t,.int hi u,.int 1 v] }).objs.size,[(s.heap.push { cls:=.type "range",data:=.fields #[.int lo t,.int hi u,.int 1 v] }).objs.size],_,_,H,rfl,
    I1.kept (t':=tk) fun b o e=>Heap.get?_push_of_some _ e,my _ lo (hi - lo).toNat,?_,fun b hb=>?_,q⟩
  · have e1:lo + ((0:Nat):Int) * 1 = lo:=by simp
    have e2:(((hi - lo).toNat:Nat):Int) - ((0:Nat):Int) = Builtin.Range.rangeSize lo hi 1:=by rw [rangeSize_one]; split <;> omega
    show IsRangeIter _ _ (lo + ((0:Nat):Int) * 1) ((((hi - lo).toNat:Nat):Int) - ((0:Nat):Int)) 1
    rw [e1,e2]
    exact Heap.get?_push_size _ rfl
  · have e:b = (s.heap.push { cls:=.type "range",data:=.fields #[.int lo t,.int hi u,.int 1 v] }).objs.size:=by simpa using hb
    subst e
    exact I1.fpOk (Nat.le_refl _) (I1.hok.fresh (Nat.le_refl _))
def xz (ta:TA):TI:=fun σ H R=>ta σ H fun vs H1=>∃ j:Int,vs = [.int j]∧-(2 ^ 62)≤j∧j < 2 ^ 62∧R (Itr 0 j.toNat) H1
def zX (ta:TA):TI:=fun σ H R=>ta σ H fun vs H1=>∃ i j:Int,vs = [.int i,.int j]∧(-(2 ^ 62)≤i∧i < 2 ^ 62∧-(2 ^ 62)≤j∧j < 2 ^ 62)∧R (Itr i (j - i).toNat) H1
theorem dX {a:Expr} {ta:TA} {p pos:Pos} (hg:Gl X "range") (hm:X.mg "range" = none) (ha:PA X [a] ta) (hs:starEach [a] X.env = [(false,eval a X.env)]:=by rfl):PI X tg (.Call (.Name "range" p) [a] [] pos) (xz ta):=by
  intro pins s σ H R I h
  refine Call_ (jn I hg hm boot_range (PyProof.Rows.callWith_type1 (thn (ha pos pins s σ H _ I h) fun us s1 ⟨vs,H1,I1,r1,q1⟩=>?_) hs rfl))
  obtain ⟨j,e,q1,q2,q⟩:=q1
  subst e
  cases r1 with
  | cons r rr =>
    cases rr
    obtain ⟨t,rfl⟩:=r
    exact call_range_1 (qa I1 (by omega) (by omega) q1 q2 (by simpa using q))
def zB (wi:TI) (g:TG) (tb:TS):TS:=fun D σ H=>wi σ H fun J H1=>∃ W:Nat→Nat→St→Hp→Prop,(∃ m,W 0 m σ H1)∧∀ i m σ H,W i m σ H →
  (J.stop i H∧D.nx σ H)∨(J.go i H∧∃ N:St→Hp→Prop,(∀ σ' H',N σ' H'→∃ m',m' < m∧W (i + 1) m' σ' H')∧∀ x H',J.yld i H x H'→g x σ H' fun σ2 H2=>tb { D with nx:=N,ct:=N,bk:=D.nx } σ2 H2)
def ju (fp:List Addr) (h:Heap):List (Addr×Obj):=fp.filterMap fun b=>(h.get? b).map fun o=>(b,o)
theorem fP {fp:List Addr} {h:Heap} {b:Addr} {o:Obj} (hb:b ∈ fp) (e:h.get? b = some o):(b,o) ∈ ju fp h:=List.mem_filterMap.mpr ⟨b,hb,by rw [e]; rfl⟩
theorem oN {fp:List Addr} {h:Heap} {p:Addr×Obj} (hp:p ∈ ju fp h):p.1 ∈ fp∧h.get? p.1 = some p.2:=by
  obtain ⟨b,hb,e⟩:=List.mem_filterMap.mp hp
  cases q:h.get? b with
  | none=>rw [q] at e; cases e
  | some o =>
    rw [q] at e
    have e':(b,o) = p:=Option.some.inj e
    subst e'
    exact ⟨hb,q⟩
theorem Inv.pinned {pins:List (Addr×Obj)} {σ:St} {H:Hp} {s:Shared} {fp:List Addr} (I:Inv X pins σ H s) (hf:∀ b ∈ fp,hX X pins H b) (ho:∀ b ∈ fp,∃ o,s.heap.get? b = some o∧∀ v,o.data≠.cell v):Inv X (pins ++ ju fp s.heap) σ H s :=
  I.pins_of fun p hp=>(List.mem_append.mp hp).elim (fun z=>I.pin p (List.mem_append_right _ z)) fun z=>by
    obtain ⟨hb,e⟩:=oN z
    obtain ⟨f0,f1,f2,_⟩:=hf p.1 hb
    obtain ⟨o,e',d⟩:=ho p.1 hb
    rw [e] at e'; cases e'
    exact ⟨e,f0,f1,f2,d⟩
theorem Inv.unpinned {pins pl:List (Addr×Obj)} {σ:St} {H:Hp} {s:Shared} (I:Inv X (pins ++ pl) σ H s):Inv X pins σ H s:=I.pins_of fun p hp=>I.pin p (List.mem_append_right _ (List.mem_append_left _ hp))
theorem d7 {iter:Expr} {body:List Stmt} {wi:TI} {g:TG} {tb:TS} {pos:Pos} (hp:PassesOwn (model X.prog X.w) X.A X.env X.xe) (hc:X.calm = true) (hi:PI X tg iter wi) (hg:PG X tg g) (hb:PSs X body tb)
    (hs:∀ x,foldedSetIterable iter X.env x = pure x:=by intro _; rfl):PS X (.For tg iter body [] pos) (zB wi g tb):=by
  intro pins s σ H D I h
  refine wpAny_For (thn (hi pins s σ H _ I h) fun v s1 h1=>thn h1 fun itv s2 h2=>?_) hs
  obtain ⟨it,fp,tn,J,H2,e,I2,T,st2,f2,W,⟨m0,w0⟩,turn⟩:=h2
  subst e
  -- what stays true of the iterator's objects through the loop
  have stat:∀ {H':Hp},(∀ b ∈ fp,H' b = none)→∀ b ∈ fp,hX X pins H' b:=fun hn b hb=>⟨hn b hb,(f2 b hb).2⟩
  refine codeAny_forLoop_any (fun n s'=>∃ i σ' H',Inv X pins σ' H' s'∧tn i s'.heap∧(∀ b ∈ fp,H' b = none)∧W i n σ' H') ?_ m0 ⟨0,σ,H2,I2,st2,fun b hb=>(f2 b hb).1,w0⟩
  rintro n s3 ⟨i,σ3,H3,I3,st3,fr3,w3⟩
  rcases turn i n σ3 H3 w3 with ⟨stop,qn⟩ | ⟨go,N,hN,step⟩
  · refine wpAny_passesOwn hp (thn (T.done X rfl rfl rfl hc i pins s3 σ3 H3 X.xe I3 (stat fr3) st3 stop) fun r s4 ⟨hr,I4⟩=>?_)
    subst hr
    exact wpAny_execs_nil ⟨σ3,H3,I4,qn⟩
  · refine wpAny_passesOwn hp (thn (T.item X rfl rfl rfl hc i pins s3 σ3 H3 X.xe I3 (stat fr3) st3 go) fun r s4 ⟨u,hr,h4⟩=>?_)
    subst hr
    refine wpAny_passesOwn hp (thn h4 fun _ s5 ⟨x,H5,I5,r5,y5,st5,fr5⟩=>?_)
    have I5':=I5.pinned (stat fr5) (T.obj _ _ st5)
    refine wpAny_passesOwn hp (thn (hg _ s5 σ3 H5 x u _ I5' r5 (step x H5 y5)) fun _ s6 ⟨σ6,H6,I6,q6⟩=>?_)
    refine wpAny_passesOwn hp (thn (hb _ s6 σ6 H6 _ I6 q6) fun f s7 q7=>?_)
    have again:∀ {σ7:St} {H7:Hp},Inv X (pins ++ ju fp s5.heap) σ7 H7 s7→N σ7 H7→∃ m,m < n∧∃ i σ' H',Inv X pins σ' H' s7∧tn i s7.heap∧(∀ b ∈ fp,H' b = none)∧W i m σ' H':=fun {σ7 H7} I7 n7=>by
      obtain ⟨m',hm,w7⟩:=hN σ7 H7 n7
      refine ⟨m',hm,i + 1,σ7,H7,I7.unpinned,T.keep _ _ _ st5 fun b hb o e=>(I7.pin (b,o) (List.mem_append_right _ (List.mem_append_right _ (fP hb e)))).1,fun b hb=>?_,w7⟩
      obtain ⟨o,e,d⟩:=T.obj _ _ st5 b hb
      exact (I7.pin (b,o) (List.mem_append_right _ (List.mem_append_right _ (fP hb e)))).2.1
    cases f with
    | next=>obtain ⟨σ7,H7,I7,n7⟩:=q7; exact again I7 n7
    | cont=>obtain ⟨σ7,H7,I7,n7⟩:=q7; exact again I7 n7
    | brk=>obtain ⟨σ7,H7,I7,q7⟩:=q7; exact ⟨σ7,H7,I7.unpinned,q7⟩
    | ret v=>obtain ⟨x7,σ7,H7,I7,r7,q7⟩:=q7; exact ⟨x7,σ7,H7,I7.unpinned,r7,q7⟩
end
theorem fD {K:PySem.W.Frag} {a:Addr} {xs:List V} {g:TG} {tb:TS} {D:Ends} {σ:St} {H:Hp} (Pv:Nat→St→Hp→Prop) (h0:Pv 0 σ H) (hl:∀ i σ H,i≤xs.length→Pv i σ H→SqL K H a xs)
    (hs:∀ i x σ H,xs[i]? = some x→Pv i σ H→g x σ H fun σ2 H2=>tb { D with nx:=Pv (i + 1),ct:=Pv (i + 1),bk:=D.nx } σ2 H2) (hd:∀ σ H,Pv xs.length σ H→D.nx σ H) :
    ∃ W:Nat→Nat→St→Hp→Prop,(∃ m,W 0 m σ H)∧∀ i m σ H,W i m σ H →
      ((Itl K a).stop i H∧D.nx σ H)∨((Itl K a).go i H∧∃ N:St→Hp→Prop,(∀ σ' H',N σ' H'→∃ m',m' < m∧W (i + 1) m' σ' H')∧∀ x H',(Itl K a).yld i H x H'→g x σ H' fun σ2 H2=>tb { D with nx:=N,ct:=N,bk:=D.nx } σ2 H2):=by
  refine ⟨fun i m σ H=>m = xs.length - i∧i≤xs.length∧Pv i σ H,⟨xs.length,by simp,Nat.zero_le _,h0⟩,?_⟩
  rintro i m σ H ⟨rfl,hi,p⟩
  have q:=hl i σ H hi p
  by_cases hlt:i < xs.length
  · refine .inr ⟨⟨xs,xs[i],q,by simp [hlt]⟩,Pv (i + 1),fun σ' H' p'=>⟨xs.length - (i + 1),by omega,rfl,hlt,p'⟩,fun x H' y=>?_⟩
    obtain ⟨e,y⟩:=y
    subst e
    exact hs i x σ _ (y xs q) p
  · have e:i = xs.length:=by omega
    subst e
    exact .inl ⟨⟨xs,q,Nat.le_refl _⟩,hd σ H p⟩
theorem tw {K:PySem.W.Frag} {a:Addr} {xs:List V} {g:TG} {tb:TS} {D:Ends} {σ:St} {H:Hp} (Pv:Nat→St→Hp→Prop) (h0:Pv 0 σ H) (hl:∀ i σ H,i≤xs.length→Pv i σ H→SqT K H a xs)
    (hs:∀ i x σ H,xs[i]? = some x→Pv i σ H→g x σ H fun σ2 H2=>tb { D with nx:=Pv (i + 1),ct:=Pv (i + 1),bk:=D.nx } σ2 H2) (hd:∀ σ H,Pv xs.length σ H→D.nx σ H) :
    ∃ W:Nat→Nat→St→Hp→Prop,(∃ m,W 0 m σ H)∧∀ i m σ H,W i m σ H →
      ((Itt K a).stop i H∧D.nx σ H)∨((Itt K a).go i H∧∃ N:St→Hp→Prop,(∀ σ' H',N σ' H'→∃ m',m' < m∧W (i + 1) m' σ' H')∧∀ x H',(Itt K a).yld i H x H'→g x σ H' fun σ2 H2=>tb { D with nx:=N,ct:=N,bk:=D.nx } σ2 H2):=by
  refine ⟨fun i m σ H=>m = xs.length - i∧i≤xs.length∧Pv i σ H,⟨xs.length,by simp,Nat.zero_le _,h0⟩,?_⟩
  rintro i m σ H ⟨rfl,hi,p⟩
  have q:=hl i σ H hi p
  by_cases hlt:i < xs.length
  · refine .inr ⟨⟨xs,xs[i],q,by simp [hlt]⟩,Pv (i + 1),fun σ' H' p'=>⟨xs.length - (i + 1),by omega,rfl,hlt,p'⟩,fun x H' y=>?_⟩
    obtain ⟨e,y⟩:=y
    subst e
    exact hs i x σ _ (y xs q) p
  · have e:i = xs.length:=by omega
    subst e
    exact .inl ⟨⟨xs,q,Nat.le_refl _⟩,hd σ H p⟩
theorem fH {lo:Int} {n:Nat} {g:TG} {tb:TS} {D:Ends} {σ:St} {H:Hp} (Pv:Nat→St→Hp→Prop) (h0:Pv 0 σ H)
    (hs:∀ i σ H,i < n→Pv i σ H→g (.int (lo + i)) σ H fun σ2 H2=>tb { D with nx:=Pv (i + 1),ct:=Pv (i + 1),bk:=D.nx } σ2 H2) (hd:∀ σ H,Pv n σ H→D.nx σ H) :
    ∃ W:Nat→Nat→St→Hp→Prop,(∃ m,W 0 m σ H)∧∀ i m σ H,W i m σ H →
      ((Itr lo n).stop i H∧D.nx σ H)∨((Itr lo n).go i H∧∃ N:St→Hp→Prop,(∀ σ' H',N σ' H'→∃ m',m' < m∧W (i + 1) m' σ' H')∧∀ x H',(Itr lo n).yld i H x H'→g x σ H' fun σ2 H2=>tb { D with nx:=N,ct:=N,bk:=D.nx } σ2 H2):=by
  refine ⟨fun i m σ H=>m = n - i∧i≤n∧Pv i σ H,⟨n,by simp,Nat.zero_le _,h0⟩,?_⟩
  rintro i m σ H ⟨rfl,hi,p⟩
  by_cases hlt:i < n
  · refine .inr ⟨hlt,Pv (i + 1),fun σ' H' p'=>⟨n - (i + 1),by omega,rfl,hlt,p'⟩,fun x H' y=>?_⟩
    obtain ⟨e,y⟩:=y
    subst e y
    exact hs i σ _ hlt p
  · have e:i = n:=by omega
    subst e
    exact .inl ⟨Nat.le_refl _,hd σ H p⟩
end L2
namespace L2
open PySem PySem.Spec PyProof.Rows
abbrev R2:=V→V→Hp→VK→Prop
def OpR (X:Cx) (f:Value→Value→Sem Value) (r:R2):Prop :=
  ∀ (pins:List (Addr×Obj)) (s:Shared) (σ:St) (H:Hp) (x y:V) (v u:Value) (Q:VK),Inv X pins σ H s→RelV x v→RelV y u→r x y H Q →
    wpAny (model X.prog X.w) X.A (f v u) (EP X pins σ Q) X.xe s
def UnR (X:Cx) (f:Value→Sem Value) (r:V→Hp→VK→Prop):Prop :=
  ∀ (pins:List (Addr×Obj)) (s:Shared) (σ:St) (H:Hp) (x:V) (v:Value) (Q:VK),Inv X pins σ H s→RelV x v→r x H Q →
    wpAny (model X.prog X.w) X.A (f v) (EP X pins σ Q) X.xe s
def CallR (X:Cx) (f:Value) (r:List V→Hp→VK→Prop):Prop :=
  ∀ (pins:List (Addr×Obj)) (s:Shared) (σ:St) (H:Hp) (xs:List V) (us:List Value) (Q:VK),Inv X pins σ H s→Vals xs us→r xs H Q →
    wpAny (model X.prog X.w) X.A (call f us) (EP X pins σ Q) X.xe s
def zo (X:Cx) (r:V→Hp→(Bool→Hp→Prop)→Prop):Prop :=
  ∀ (pins:List (Addr×Obj)) (s:Shared) (σ:St) (H:Hp) (x:V) (v:Value) (Q:Bool→Hp→Prop),Inv X pins σ H s→RelV x v→r x H Q →
    wpAny (model X.prog X.w) X.A (truthy v) (TP X pins σ Q) X.xe s
def tOp (r:R2) (ta tb:TE):TE:=fun σ H Q=>ta σ H fun x H1=>tb σ H1 fun y H2=>r x y H2 Q
def tUn (r:V→Hp→VK→Prop) (ta:TE):TE:=fun σ H Q=>ta σ H fun x H1=>r x H1 Q
def rI (C:Int→Int→Prop) (g:Int→Int→V):R2:=fun x y H Q=>∃ i j,x = .int i∧y = .int j∧C i j∧Q (g i j) H
def rI0 (g:Int→Int→V):R2:=fun x y H Q=>∃ i j,x = .int i∧y = .int j∧Q (g i j) H
def rU (g:Int→V):V→Hp→VK→Prop:=fun x H Q=>∃ i,x = .int i∧Q (g i) H
section
variable {X:Cx} {a b c:Expr} {ta tb tc:TE} {pos:Pos}
theorem wr (ha:PE X a ta) (hb:PE X b tb) {pins:List (Addr×Obj)} {s:Shared} {σ:St} {H:Hp} {R:V→V→Hp→Prop} (I:Inv X pins σ H s)
    (h:ta σ H fun x H1=>tb σ H1 fun y H2=>R x y H2) {Q:Value→Shared→Prop} {f:Value→Value→Sem Value}
    (hf:∀ v u s2 x y H2,Inv X pins σ H2 s2→RelV x v→RelV y u→R x y H2→wpAny (model X.prog X.w) X.A (f v u) Q X.xe s2) :
    wpAny (model X.prog X.w) X.A (eval a X.env) (fun v s₁=>wpAny (model X.prog X.w) X.A (eval b X.env) (fun u s₂=>wpAny (model X.prog X.w) X.A (f v u) Q X.xe s₂) X.xe s₁) X.xe s:=by
  refine thn (ha pins s σ H _ I h) fun v s1 ⟨x,H1,I1,r1,q1⟩=>?_
  refine thn (hb pins s1 σ H1 _ I1 q1) fun u s2 ⟨y,H2,I2,r2,q2⟩=>?_
  exact hf v u s2 x y H2 I2 r1 r2 q2
theorem av {op:Operator} {r:R2} (ho:OpR X (binaryOp op) r) (ha:PE X a ta) (hb:PE X b tb):PE X (.BinOp a op b pos) (tOp r ta tb):=by
  intro pins s σ H Q I h
  exact wpAny_BinOp (wr ha hb I h fun v u s2 x y H2 I2 rx ry q=>ho pins s2 σ H2 x y v u Q I2 rx ry q)
theorem qp {op:UnaryOp} {r:V→Hp→VK→Prop} (ho:UnR X (unaryOp op) r) (ha:PE X a ta):PE X (.UnaryOp op a pos) (tUn r ta):=by
  intro pins s σ H Q I h
  exact UnaryOp_ (thn (ha pins s σ H _ I h) fun v s1 ⟨x,H1,I1,r1,q1⟩=>ho pins s1 σ H1 x v Q I1 r1 q1)
theorem opI {f:Value→Value→Sem Value} {C:Int→Int→Prop} {g:Int→Int→Int}
    (rule:∀ (i j:Int) (t u:Tok) (s:Shared) (Q:Value→Shared→Prop) (E:Value→Shared→Prop),C i j→Q (.int (g i j) s.toks) { s with toks:=s.toks + 1 }→wpAny (model X.prog X.w) X.A (f (.int i t) (.int j u)) Q E s) :
    OpR X f (rI C fun i j=>.int (g i j)):=by
  intro pins s σ H x y v u Q I rx ry h
  obtain ⟨i,j,rfl,rfl,hc,q⟩:=h
  obtain ⟨t,rfl⟩:=rx
  obtain ⟨t',rfl⟩:=ry
  exact rule i j t t' s _ _ hc ⟨.int (g i j),H,I.tok _,⟨_,rfl⟩,q⟩
theorem wD {f:Value→Value→Sem Value} {g:Int→Int→Int}
    (rule:∀ (i j:Int) (t u:Tok) (s:Shared) (Q:Value→Shared→Prop) (E:Value→Shared→Prop),Q (.int (g i j) s.toks) { s with toks:=s.toks + 1 }→wpAny (model X.prog X.w) X.A (f (.int i t) (.int j u)) Q E s) :
    OpR X f (rI0 fun i j=>.int (g i j)):=by
  intro pins s σ H x y v u Q I rx ry h
  obtain ⟨i,j,rfl,rfl,q⟩:=h
  obtain ⟨t,rfl⟩:=rx
  obtain ⟨t',rfl⟩:=ry
  exact rule i j t t' s _ _ ⟨.int (g i j),H,I.tok _,⟨_,rfl⟩,q⟩
theorem vD {f:Value→Value→Sem Value} {g:Int→Int→Bool}
    (rule:∀ (i j:Int) (t u:Tok) (s:Shared) (Q:Value→Shared→Prop) (E:Value→Shared→Prop),Q (.bool (g i j)) s→wpAny (model X.prog X.w) X.A (f (.int i t) (.int j u)) Q E s) :
    OpR X f (rI0 fun i j=>.bl (g i j)):=by
  intro pins s σ H x y v u Q I rx ry h
  obtain ⟨i,j,rfl,rfl,q⟩:=h
  obtain ⟨t,rfl⟩:=rx
  obtain ⟨t',rfl⟩:=ry
  exact rule i j t t' s _ _ ⟨.bl (g i j),H,I,rfl,q⟩
def zr (i j:Int):Prop:=0 < j∧j < 1073741824
def zP (i j:Int):Prop:=j≠0∧j.natAbs < 1073741824
def vI (i j:Int):Prop:=0≤j∧j≤1000000∧i.natAbs < 2 ^ 64
def CMul (i j:Int):Prop:=(-(2 ^ 64) < i∧i < 2 ^ 64)∨(-(2 ^ 64) < j∧j < 2 ^ 64)
theorem CMul.ok {i j:Int} (h:CMul i j):IntMulOk i j:=by
  rcases h with ⟨h1,h2⟩ | ⟨h1,h2⟩
  · exact .of_left (intBits_le_64 h1 h2)
  · exact .of_right (intBits_le_64 h1 h2)
theorem op_add:OpR X (binaryOp .Add) (rI0 fun i j=>.int (i + j)):=wD fun _ _ _ _ _ _ _ q=>add_int q
theorem op_sub:OpR X (binaryOp .Sub) (rI0 fun i j=>.int (i - j)):=wD fun _ _ _ _ _ _ _ q=>sub_int q
theorem op_mod:OpR X (binaryOp .Mod) (rI (fun _ j=>0 < j) fun i j=>.int (i % j)):=opI fun i j _ _ _ _ _ hc q=>by
  have h1:(0:Int) < j:=hc
  exact mod_int' (by omega) (by rw [Int.fmod_eq_emod_of_nonneg i (by omega)]; exact q)
theorem op_pow:OpR X (binaryOp .Pow) (rI vI fun i j=>.int (i ^ j.toNat)):=opI fun _ _ _ _ _ _ _ hc q=>pow_int_small hc.1 hc.2.1 hc.2.2 q
theorem unI {f:Value→Sem Value} {g:Int→Int}
    (rule:∀ (i:Int) (t:Tok) (s:Shared) (Q:Value→Shared→Prop) (E:Value→Shared→Prop),Q (.int (g i) s.toks) { s with toks:=s.toks + 1 }→wpAny (model X.prog X.w) X.A (f (.int i t)) Q E s) :
    UnR X f (rU fun i=>.int (g i)):=by
  intro pins s σ H x v Q I rx h
  obtain ⟨i,rfl,q⟩:=h
  obtain ⟨t,rfl⟩:=rx
  exact rule i t s _ _ ⟨.int (g i),H,I.tok _,⟨_,rfl⟩,q⟩
theorem we:UnR X (unaryOp .USub) (rU fun i=>.int (-i)):=unI fun _ _ _ _ _ q=>neg_int q
end
def wM:V→V→Bool
  | .non,.non=>true | .non,.int _=>true | .int _,.non=>true | .non,.bl _=>true | .bl _,.non=>true | .non,.str _=>true | .str _,.non=>true
  | .int _,.int _=>true | .bl _,.bl _=>true | .str _,.str _=>true | .byt _,.byt _=>true
  | .int _,.str _=>true | .str _,.int _=>true | .bl _,.str _=>true | .str _,.bl _=>true
  | _,_=>false
def rEq:R2:=fun x y H Q=>wM x y = true∧Q (.bl (decide (x = y))) H
def rNe:R2:=fun x y H Q=>wM x y = true∧Q (.bl (!decide (x = y))) H
theorem ot {i j:Int}:decide (V.int i = V.int j) = (i == j):=by
  rw [Bool.eq_iff_iff]
  simp
theorem rY {i j:Bool}:decide (V.bl i = V.bl j) = (i == j):=by
  rw [Bool.eq_iff_iff]
  simp
theorem oq {i j:Str}:decide (V.str i = V.str j) = (i == j):=by
  rw [Bool.eq_iff_iff]
  simp
theorem oi {i j:Array UInt8}:decide (V.byt i = V.byt j) = (i.toList == j.toList):=by
  rw [Bool.eq_iff_iff]
  cases i
  cases j
  simp
section
variable {X:Cx} {a b c:Expr} {ta tb tc:TE} {pos:Pos}
theorem aV {pins:List (Addr×Obj)} {σ:St} {H:Hp} {s:Shared} {Q:VK} {k k':Bool} (I:Inv X pins σ H s) (q:Q (.bl k) H) (e:k = k'):EP X pins σ Q (.bool k') s:=by
  subst e
  exact ⟨.bl k,H,I,rfl,q⟩
theorem op_eq:OpR X (compareOp .Eq) rEq:=by
  intro pins s σ H x y v u Q I rx ry h
  obtain ⟨hs,q⟩:=h
  cases x with
  | non =>
    cases rx
    cases y with
    | non=>cases ry; exact PySem.EqNone.eq_none_none (aV I q (by simp))
    | bl j=>cases ry; exact PySem.EqNone.eq_none_bool (aV I q (by simp))
    | int j=>obtain ⟨t',rfl⟩:=ry; exact PySem.EqNone.eq_none_int (aV I q (by simp))
    | str j=>obtain ⟨t',rfl⟩:=ry; exact PySem.EqNone.eq_none_str (aV I q (by simp))
    | _=>exact absurd (show false = true from hs) Bool.false_ne_true
  | bl i =>
    cases rx
    cases y with
    | non=>cases ry; exact PySem.EqNone.eq_bool_none (aV I q (by simp))
    | bl j=>cases ry; exact eq_bool (aV I q rY)
    | str j=>obtain ⟨t',rfl⟩:=ry; exact PySem.EqMixed.eq_bool_str (aV I q (by simp))
    | _=>exact absurd (show false = true from hs) Bool.false_ne_true
  | int i =>
    obtain ⟨t,rfl⟩:=rx
    cases y with
    | non=>cases ry; exact PySem.EqNone.eq_int_none (aV I q (by simp))
    | int j=>obtain ⟨t',rfl⟩:=ry; exact eq_int (aV I q ot)
    | str j=>obtain ⟨t',rfl⟩:=ry; exact PySem.EqMixed.eq_int_str (aV I q (by simp))
    | _=>exact absurd (show false = true from hs) Bool.false_ne_true
  | str i =>
    obtain ⟨t,rfl⟩:=rx
    cases y with
    | non=>cases ry; exact PySem.EqNone.eq_str_none (aV I q (by simp))
    | bl j=>cases ry; exact PySem.EqMixed.eq_str_bool (aV I q (by simp))
    | int j=>obtain ⟨t',rfl⟩:=ry; exact PySem.EqMixed.eq_str_int (aV I q (by simp))
    | str j=>obtain ⟨t',rfl⟩:=ry; exact eq_str (aV I q oq)
    | _=>exact absurd (show false = true from hs) Bool.false_ne_true
  | byt i =>
    obtain ⟨t,rfl⟩:=rx
    cases y with
    | byt j=>obtain ⟨t',rfl⟩:=ry; exact PySem.W.eq_bytes (aV I q oi)
    | _=>exact absurd (show false = true from hs) Bool.false_ne_true
  | _=>cases y <;> exact absurd (show false = true from hs) Bool.false_ne_true
theorem op_ne:OpR X (compareOp .NotEq) rNe:=by
  intro pins s σ H x y v u Q I rx ry h
  obtain ⟨hs,q⟩:=h
  cases x with
  | non =>
    cases rx
    cases y with
    | non=>cases ry; exact PySem.EqNone.ne_none_none (aV I q (by simp))
    | bl j=>cases ry; exact PySem.EqNone.ne_none_bool (aV I q (by simp))
    | int j=>obtain ⟨t',rfl⟩:=ry; exact PySem.EqNone.ne_none_int (aV I q (by simp))
    | str j=>obtain ⟨t',rfl⟩:=ry; exact PySem.EqNone.ne_none_str (aV I q (by simp))
    | _=>exact absurd (show false = true from hs) Bool.false_ne_true
  | bl i =>
    cases rx
    cases y with
    | non=>cases ry; exact PySem.EqNone.ne_bool_none (aV I q (by simp))
    | bl j=>cases ry; exact ne_bool (aV I q (congrArg not rY))
    | str j=>obtain ⟨t',rfl⟩:=ry; exact PySem.EqMixed.ne_bool_str (aV I q (by simp))
    | _=>exact absurd (show false = true from hs) Bool.false_ne_true
  | int i =>
    obtain ⟨t,rfl⟩:=rx
    cases y with
    | non=>cases ry; exact PySem.EqNone.ne_int_none (aV I q (by simp))
    | int j=>obtain ⟨t',rfl⟩:=ry; exact ne_int (aV I q (congrArg not ot))
    | str j=>obtain ⟨t',rfl⟩:=ry; exact PySem.EqMixed.ne_int_str (aV I q (by simp))
    | _=>exact absurd (show false = true from hs) Bool.false_ne_true
  | str i =>
    obtain ⟨t,rfl⟩:=rx
    cases y with
    | non=>cases ry; exact PySem.EqNone.ne_str_none (aV I q (by simp))
    | bl j=>cases ry; exact PySem.EqMixed.ne_str_bool (aV I q (by simp))
    | int j=>obtain ⟨t',rfl⟩:=ry; exact PySem.EqMixed.ne_str_int (aV I q (by simp))
    | str j=>obtain ⟨t',rfl⟩:=ry; exact ne_str (aV I q (congrArg not oq))
    | _=>exact absurd (show false = true from hs) Bool.false_ne_true
  | byt i =>
    obtain ⟨t,rfl⟩:=rx
    cases y with
    | byt j=>obtain ⟨t',rfl⟩:=ry; exact PySem.W.ne_bytes (aV I q (congrArg not oi))
    | _=>exact absurd (show false = true from hs) Bool.false_ne_true
  | _=>cases y <;> exact absurd (show false = true from hs) Bool.false_ne_true
theorem op_lt:OpR X (compareOp .Lt) (rI0 fun i j=>.bl (decide (i < j))):=vD fun _ _ _ _ _ _ _ q=>lt_int q
theorem op_le:OpR X (compareOp .LtE) (rI0 fun i j=>.bl (decide (i≤j))):=vD fun _ _ _ _ _ _ _ q=>le_int q
theorem op_gt:OpR X (compareOp .Gt) (rI0 fun i j=>.bl (decide (j < i))):=vD fun _ _ _ _ _ _ _ q=>gt_int q
theorem pV:OpR X (compareOp .Lt) (fun x y H Q=>∃ i j,x = .str i∧y = .str j∧Q (.bl (decide (i.cps.toList < j.cps.toList))) H):=by
  intro pins s σ H x y v u Q I rx ry h
  obtain ⟨i,j,rfl,rfl,q⟩:=h
  obtain ⟨t,rfl⟩:=rx
  obtain ⟨t',rfl⟩:=ry
  exact lt_str (aV I q rfl)
theorem op_in_str:OpR X (compareOp .In) (fun x y H Q=>∃ i j,x = .str i∧y = .str j∧Q (.bl (!(Builtin.Str.occurrences j i 0 j.length 1).isEmpty)) H):=by
  intro pins s σ H x y v u Q I rx ry h
  obtain ⟨i,j,rfl,rfl,q⟩:=h
  obtain ⟨t,rfl⟩:=rx
  obtain ⟨t',rfl⟩:=ry
  exact in_str (aV I q rfl)
theorem op_isN:OpR X (compareOp .Is) (fun x y H Q=>y = .non∧Q (.bl (decide (x = .non))) H):=by
  intro pins s σ H x y v u Q I rx ry h
  obtain ⟨rfl,q⟩:=h
  cases ry
  refine is_none_gen (aV I q ?_)
  cases x <;> first
    | (cases rx; rfl)
    | (obtain ⟨t,rfl⟩:=rx; rfl)
theorem op_notN:OpR X (compareOp .IsNot) (fun x y H Q=>y = .non∧Q (.bl (!decide (x = .non))) H):=by
  intro pins s σ H x y v u Q I rx ry h
  obtain ⟨rfl,q⟩:=h
  cases ry
  refine isnot_none_gen (aV I q ?_)
  cases x <;> first
    | (cases rx; rfl)
    | (obtain ⟨t,rfl⟩:=rx; rfl)
def isObj:HO→Bool
  | .lst _=>true
  | .ins _ _ _=>true
  | _=>false
theorem OpR.or {f:Value→Value→Sem Value} {r r':R2} (h:OpR X f r) (h':OpR X f r'):OpR X f (fun x y H Q=>r x y H Q∨r' x y H Q):=by
  intro pins s σ H x y v u Q I rx ry q
  rcases q with q | q
  · exact h pins s σ H x y v u Q I rx ry q
  · exact h' pins s σ H x y v u Q I rx ry q
theorem aT (b:Expr) {op:CmpOp} (h:op≠.In:=by decide) (h2:op≠.NotIn:=by decide):behindInMarks op b = false:=by
  have e1:(op == CmpOp.In) = false:=by cases op <;> first | rfl | exact absurd rfl h
  have e2:(op == CmpOp.NotIn) = false:=by cases op <;> first | rfl | exact absurd rfl h2
  cases b <;> simp [behindInMarks,e1,e2]
theorem fT {op:CmpOp} {r:R2} (ho:OpR X (compareOp op) r) (ha:PE X a ta) (hb:PE X b tb) (hm:behindInMarks op b = false):PE X (.Compare a [op] [b] pos) (tOp r ta tb):=by
  intro pins s σ H Q I h
  exact wpAny_Compare1 (wr ha hb I h fun v u s2 x y H2 I2 rx ry q=>ho pins s2 σ H2 x y v u Q I2 rx ry q) hm
def zW (t:TE):TT:=fun σ H Q=>t σ H fun x H'=>∃ k,x = .bl k∧Q k H'
def yO (r r':R2) (ta tb tc:TE):TE:=fun σ H Q=>ta σ H fun x H1=>tb σ H1 fun y H2=>r x y H2 fun z H3=>∃ k,z = .bl k ∧
  (if k = true then tc σ H3 fun w' H4=>r' y w' H4 Q else Q (.bl false) H3)
def wx (K:PySem.W.Frag) (x:V) (H:Hp) (k:Bool):Prop :=
  match x with
  | .non=>k = false
  | .bl b=>k = b
  | .int i=>k = (i != 0)
  | .str y=>y.length≤sizeLine∧k = ((y.length:Int) != 0)
  | .byt y=>y.size≤sizeLine∧k = ((y.size:Int) != 0)
  | .ref p=>(∃ xs,SqL K H p xs∧k = !xs.isEmpty)∨(∃ xs,SqT K H p xs∧k = !xs.isEmpty)∨∃ kvs,H p = some (.dK kvs)∧k = !kvs.isEmpty
  | _=>False
theorem mS {κ:Type} {kvs:List (κ×V)} {vs:List (κ×Value)} (r:KV kvs vs):(!vs.isEmpty) = !kvs.isEmpty:=by
  cases r <;> rfl
theorem jm {xs:List V} {its:List Value} (r:Vals xs its):(!its.toArray.isEmpty) = !xs.isEmpty:=by
  cases r <;> simp
theorem gj:(sizeLine:Nat) < 2 ^ 63:=by rw [sizeLine_eq]; decide
theorem qd:zo X (fun x H Q=>∃ k,wx X.K x H k∧Q k H):=by
  intro pins s σ H x v Q I rx h
  obtain ⟨k,e,q⟩:=h
  have hl:=gj
  have hs:sizeLine = 16777216:=sizeLine_eq
  cases x with
  | non =>
    cases rx
    have e':k = false:=e
    subst e'
    exact truthy_none ⟨H,I,q⟩
  | bl b =>
    cases rx
    have e':k = b:=e
    subst e'
    exact wpAny_truthy_bool ⟨H,I,q⟩
  | int i =>
    obtain ⟨t,rfl⟩:=rx
    have e':k = (i != 0):=e
    subst e'
    exact PySem.P.truthy_int ⟨H,I,q⟩
  | str y =>
    obtain ⟨t,rfl⟩:=rx
    obtain ⟨hy,e'⟩:y.length≤sizeLine∧k = ((y.length:Int) != 0):=e
    subst e'
    exact PySem.P.truthy_str (by omega) ⟨H,I.tok _,q⟩
  | byt y =>
    obtain ⟨t,rfl⟩:=rx
    obtain ⟨hy,e'⟩:y.size≤sizeLine∧k = ((y.size:Int) != 0):=e
    subst e'
    exact PySem.W.truthy_bytes (by omega) ⟨H,I.tok _,q⟩
  | ref p =>
    cases rx
    have e':(∃ xs,SqL X.K H p xs∧k = !xs.isEmpty)∨(∃ xs,SqT X.K H p xs∧k = !xs.isEmpty)∨∃ kvs,H p = some (.dK kvs)∧k = !kvs.isEmpty:=e
    rcases e' with ⟨xs,hx,e'⟩ | ⟨xs,hx,e'⟩ | ⟨kvs,hx,e'⟩
    · subst e'
      obtain ⟨its,r,pl,hz⟩:=I.list hx
      have hlen:=r.length
      exact wpAny_truthy_list pl.isList (by simp only [List.size_toArray]; omega) ⟨H,I.tok _,by rw [jm r]; exact q⟩
    · subst e'
      obtain ⟨its,r,pl,hz⟩:=I.tuple hx
      have hlen:=r.length
      exact truthy_tuple pl (by simp only [List.size_toArray]; omega) ⟨H,I.tok _,by rw [jm r]; exact q⟩
    · subst e'
      obtain ⟨hz,hS,vs,r,m⟩:kvs.length≤sizeLine∧(p == sysModules) = false∧∃ vs,KV kvs vs∧s.heap.DictOf (bH X.prog X.w) p vs:=I.hok p _ hx
      have hlen:kvs.length = vs.length:=Paired.length r
      exact wpAny_truthy_dict hS m (by omega) ⟨H,I.tok _,by rw [mS r]; exact q⟩
  | _=>exact (show False from e).elim
theorem lE (ha:PE X a ta) (he:∀ whole,isTrue a X.env whole = (do let v ← whole; standAt a.pos; holding [v] (truthy v))) :
    PT X a (fun σ H Q=>ta σ H fun x H'=>∃ k,wx X.K x H' k∧Q k H'):=by
  intro pins s σ H Q I h
  exact isTrue_plain (thn (ha pins s σ H _ I h) fun v s1 ⟨x,H1,I1,r1,q1⟩=>qd pins s1 σ H1 x v Q I1 r1 q1) (he _)
theorem mj:OpR X (binaryOp .Add) (fun x y H Q=>∃ i j,x = .str i∧y = .str j∧i.length + j.length≤sizeLine∧Q (.str (i ++ j)) H):=by
  intro pins s σ H x y v u Q I rx ry h
  obtain ⟨i,j,rfl,rfl,hz,q⟩:=h
  obtain ⟨t,rfl⟩:=rx
  obtain ⟨t',rfl⟩:=ry
  exact add_str (fun t' tk=>⟨.str (i ++ j),H,I.tok _,⟨_,rfl⟩,q⟩) hz
def xC (b:Expr):Prop:=∀ o i,subscripted b false o i = operate [o,i] (getItem o i)
theorem iu {x:V} {us:List Value} (r:Vals [x] us):∃ u,us = [u]∧RelV x u:=by
  cases r with
  | cons r1 r2=>cases r2; exact ⟨_,rfl,r1⟩
theorem kR {x y:V} {us:List Value} (r:Vals [x,y] us):∃ u w',us = [u,w']∧RelV x u∧RelV y w':=by
  cases r with
  | cons r1 r2 =>
    cases r2 with
    | cons r3 r4=>cases r4; exact ⟨_,_,rfl,r1,r3⟩
theorem lU:CallR X (.builtin "abs") (fun xs H Q=>∃ i,xs = [.int i]∧Q (.int (if i < 0 then -i else i)) H):=by
  intro pins s σ H xs us Q I r h
  obtain ⟨i,rfl,q⟩:=h
  obtain ⟨u,rfl,t,rfl⟩:=iu r
  exact call_abs_int fun u tk=>⟨.int (if i < 0 then -i else i),H,I.tok _,⟨_,rfl⟩,q⟩
inductive rTwo (f:Int→Int→Int) (xs:List V) (H:Hp) (Q:VK):Prop
  | mk (i j:Int) (h0:xs = [.int i,.int j]) (h1:Q (.int (f i j)) H):rTwo f xs H Q
theorem pW (hc:X.calm = true):CallR X (.builtin "max") (rTwo fun i j=>if j > i then j else i):=by
  intro pins s σ H xs us Q I r h
  obtain ⟨i,j,rfl,q⟩:=h
  obtain ⟨u,w',rfl,⟨t,rfl⟩,⟨t',rfl⟩⟩:=kR r
  refine max_two_ints (I.ok.hd hc) fun h' tk k=>⟨_,H,I.kept k,?_,q⟩
  by_cases hj:j > i
  · rw [if_pos hj,if_pos hj]; exact ⟨_,rfl⟩
  · rw [if_neg hj,if_neg hj]; exact ⟨_,rfl⟩
theorem oS (hc:X.calm = true):CallR X (.builtin "min") (rTwo fun i j=>if j < i then j else i):=by
  intro pins s σ H xs us Q I r h
  obtain ⟨i,j,rfl,q⟩:=h
  obtain ⟨u,w',rfl,⟨t,rfl⟩,⟨t',rfl⟩⟩:=kR r
  refine min_two_ints (I.ok.hd hc) fun h' tk k=>⟨_,H,I.kept k,?_,q⟩
  by_cases hj:j < i
  · rw [if_pos hj,if_pos hj]; exact ⟨_,rfl⟩
  · rw [if_neg hj,if_neg hj]; exact ⟨_,rfl⟩
def AA (K:PySem.W.Frag) (x:V) (H:Hp) (n:Nat):Prop :=
  match x with
  | .str y=>y.length≤sizeLine∧n = y.length
  | .byt y=>y.size≤sizeLine∧n = y.size
  | .ref p=>(∃ xs,SqL K H p xs∧n = xs.length)∨∃ xs,SqT K H p xs∧n = xs.length
  | _=>False
end
end L2
namespace L2
open PySem PySem.Spec PyProof.Rows
structure ObjM (h:Heap) (x dx C:Addr) (mA:Str→Option Value):Prop where
  obj:h.get? x = some (PySem.W.instObj C dx)
  ns:h.Ns1 dx mA
  ne:dx≠x
theorem pK {h:Heap} {dx:Addr} {mA:Str→Option Value} (n:h.Ns1 dx mA):∃ od,h.get? dx = some od∧∀ name,PySem.W.lookIn name od = some (mA name):=by
  obtain ⟨o,es,ep,ho,hd,hk,_,hm⟩:=n
  refine ⟨o,ho,fun name=>?_⟩
  have e:=hm name
  unfold nsFind findBy at e
  rw [← Array.find?_toList] at e
  unfold PySem.W.lookIn
  rw [hd]
  dsimp only
  split
  · rename_i y q
    rw [q] at e
    exact congrArg some e
  · rename_i q
    rw [q] at e
    have a:es.toList.any (·.refKey) = false:=by
      rw [List.any_eq_false]
      intro y hy
      obtain ⟨z,t,hkey⟩:=hk y (Array.mem_toList_iff.mp hy)
      simp [DictEntry.refKey,hkey]
    have a':¬ es.toList.any (·.refKey) = true:=by rw [a]; exact Bool.false_ne_true
    rw [if_neg a']
    exact congrArg some e
theorem ObjM.look {h:Heap} {x dx C:Addr} {mA:Str→Option Value} (I:ObjM h x dx C mA):∃ od,PySem.W.InstAt h x (PySem.W.instObj C dx) C (some od)∧∀ name,PySem.W.lookIn name od = some (mA name) :=
  let ⟨od,ho,hl⟩:=pK I.ns
  ⟨od,⟨I.obj,rfl,rfl,ho⟩,hl⟩
section
variable {prog:Program} {w:World} {A:Around} {E:Value→Shared→Prop} {s:Shared} {K:PySem.W.Frag} {x dx C f:Addr} {mA:Str→Option Value} {name:Str} {v:Value}
theorem uf {expr:Bool} {Q:Value→Shared→Prop} (X:K.In s.heap) (I:ObjM s.heap x dx C mA) (hg:PySem.W.plainGet K C name = true) (hh:PySem.W.hasDictIn K C = true)
    (ha:PySem.W.findIn K (.ref C) name = some none) (hv:mA name = some v) (hv':PySem.W.handedIn v = true) (h:Q v { s with toks:=s.toks + 1 }) :
    wpAny (model prog w) A (getAttr (.ref x) name expr) Q E s:=by
  obtain ⟨od,J,hl⟩:=I.look
  exact PySem.W.get_value X J (PySem.W.plainGet_of hg).1 (PySem.W.findObj_own hh ha rfl (by rw [hl,hv])) hv' h
theorem qB {pl:Sem Bool} {Q:Value×List Value→Shared→Prop} (X:K.In s.heap) (I:ObjM s.heap x dx C mA) (hg:PySem.W.plainGet K C name = true)
    (hf:PySem.W.findIn K (.ref C) name = some (some (.ref f))) (ht:PySem.W.isFn K (.ref f) = true) (hv:mA name = none) (h:Q (.ref f,[.ref x]) s) :
    wpAny (model prog w) A (getMethod (.ref x) name pl) Q E s:=by
  obtain ⟨od,J,hl⟩:=I.look
  exact PySem.W.method_fn X J (PySem.W.plainGet_of hg).1 (PySem.W.plainGet_of hg).2 hf (beq_iff_eq.mp ht) (by show (PySem.W.lookIn name od).map (·.isSome) = some false; rw [hl,hv]; rfl) h
theorem tE {ns:List Str} {Q:Unit→Shared→Prop} (X:K.In s.heap) (I:ObjM s.heap x dx C mA)
    (hs:PySem.W.findIn K (.ref C) "__setattr__" = some (some (.builtin "object.__setattr__"))) (hp:PySem.W.plainOver K C = true) (ht:PySem.W.takerIn K C name = some none) (hh:PySem.W.hasDictIn K C = true)
    (hw:PySem.Within mA ns) (hsz:ns.length≤sizeLine)
    (h:∀ h',ObjM h' x dx C (fun y=>if y = name then some v else mA y)→Heap.SameBut dx s.heap h'→Q () { s with heap:=h',toks:=s.toks + 2 }) :
    wpAny (model prog w) A (setAttr (.ref x) name v) Q E s:=by
  obtain ⟨od,J,hl⟩:=I.look
  refine PySem.W.set_plain X J hs (PySem.W.osa_open (s:={ s with toks:=s.toks + 1 }) (r:=none) X J hp ht fun b=>?_)
  obtain ⟨cd,hc,hd'⟩:=PySem.W.any_some hh
  have hx:s.heap.get? x = some ⟨.ref C,some dx,.plain,#[]⟩:=I.obj
  refine wpAny_bind (wpAny_pure (wpAny_bind (wpAny_bind (wpAny_loadPart hx (wpAny_bind (PySem.W.Looks.here (s:={ s with toks:=s.toks + 1 }) (PySem.W.looks_clsIn X hc) ?_))))))
  rw [hd']
  refine wpAny_pure (a:=some dx) (wpAny_bind (wpAny_pure (wpAny_bind ?_)))
  refine wpAny_nsSet1 (s:={ s with toks:=s.toks + 1 }) I.ns fun h' hn2 hs2=>?_
  obtain ⟨oD,esD,epD,hoD,hdD,hcD⟩:=hn2.count (PySem.Within.cons name v hw)
  refine wpAny_bind (wpAny_lookBehind hoD (by rw [hdD]; exact pastItsLine_dict (Nat.le_trans hcD (by rw [List.length_cons]; omega))) ?_)
  exact wpAny_pure (h _ ⟨(hs2.2 _ (Ne.symm I.ne)).trans I.obj,hn2,I.ne⟩ hs2)
theorem rM {R:Result→Shared→Prop} {vs:List Value} {kw:List (Str×Value)} (X:K.In s.heap) (hm:PySem.W.makesIn K C = true)
    (hi:PySem.W.findIn K (.ref C) "__init__" = some (some (.ref f))) (hf:PySem.W.typeIn K (.ref f) = some (.type "function"))
    (h:codeAny (model prog w) (A.under (.builtin "type.__call__" ⟨.ref C :: vs,kw⟩)) (.call (.ref f) ⟨.ref (s.heap.objs.size + 1) :: vs,kw⟩) (PySem.W.InitBack (s.heap.objs.size + 1) R)
      { s with heap:=(s.heap.push PySem.W.emptyDict).push (PySem.W.instObj C s.heap.objs.size) }) :
    codeAny (model prog w) A (.call (.ref C) ⟨vs,kw⟩) R s:=by
  obtain ⟨hh,g,d,t,os⟩:=s
  exact PySem.W.make_core (PySem.W.makes_of X hm) (PySem.W.looks_findIn X hi) (fun self=>PySem.W.bind_fn X self hf) (.inl rfl) h
end
def gk (f:Str) (v:V):List (Str×V)→List (Str×V)
  | []=>[(f,v)]
  | (g,x) :: r=>if g = f then (g,v) :: r else (g,x) :: gk f v r
theorem i3 (f g:Str) (v:V):∀ fs:List (Str×V),(gk f v fs).lookup g = if g = f then some v else fs.lookup g
  | []=>by
    show List.lookup g [(f,v)] = _
    by_cases h:g = f
    · have hb:(g == f) = true:=beq_iff_eq.mpr h
      simp only [List.lookup,hb,if_pos h]
    · have hb:(g == f) = false:=beq_eq_false_iff_ne.mpr h
      simp only [List.lookup,hb,if_neg h]
  | (k,x) :: r=>by
    have ih:=i3 f g v r
    rw [show gk f v ((k,x) :: r) = (if k = f then (k,v) :: r else (k,x) :: gk f v r) from rfl]
    by_cases hk:k = f
    · rw [if_pos hk]
      by_cases h:g = k
      · have hb:(g == k) = true:=beq_iff_eq.mpr h
        simp only [List.lookup,hb,if_pos (h.trans hk)]
      · have hb:(g == k) = false:=beq_eq_false_iff_ne.mpr h
        simp only [List.lookup,hb,if_neg (fun e:g = f=>h (e.trans hk.symm))]
    · rw [if_neg hk]
      by_cases h:g = k
      · have hb:(g == k) = true:=beq_iff_eq.mpr h
        simp only [List.lookup,hb,if_neg (fun e:g = f=>hk (h.symm.trans e))]
      · have hb:(g == k) = false:=beq_eq_false_iff_ne.mpr h
        simp only [List.lookup,hb]
        exact ih
theorem iQ (f:Str) (v:V):∀ fs:List (Str×V),f ∈ (gk f v fs).map (·.1)∧∀ g,g ∈ fs.map (·.1)→g ∈ (gk f v fs).map (·.1)
  | []=>⟨by simp [gk],fun g h=>by simp at h⟩
  | (k,x) :: r=>by
    obtain ⟨i1,i2⟩:=iQ f v r
    rw [show gk f v ((k,x) :: r) = (if k = f then (k,v) :: r else (k,x) :: gk f v r) from rfl]
    by_cases hk:k = f
    · rw [if_pos hk]
      subst hk
      exact ⟨by simp,fun g h=>by simpa using h⟩
    · rw [if_neg hk]
      refine ⟨?_,fun g h=>?_⟩
      · rw [List.map_cons]
        exact List.mem_cons_of_mem _ i1
      · rw [List.map_cons] at h ⊢
        rcases List.mem_cons.mp h with e | e
        · exact List.mem_cons.mpr (.inl e)
        · exact List.mem_cons_of_mem _ (i2 g e)
theorem iS (f:Str) (v:V):∀ fs:List (Str×V),(gk f v fs).length≤fs.length + 1
  | []=>by simp [gk]
  | (k,x) :: r=>by
    have ih:=iS f v r
    rw [show gk f v ((k,x) :: r) = (if k = f then (k,v) :: r else (k,x) :: gk f v r) from rfl]
    by_cases hk:k = f
    · rw [if_pos hk,List.length_cons,List.length_cons]; omega
    · rw [if_neg hk,List.length_cons,List.length_cons]; omega
theorem RelO.some_of {v:V} {o:Option Value} (r:RelO (some v) o):∃ u,o = some u∧RelV v u:=by
  cases o with
  | none=>exact (show False from r).elim
  | some u=>exact ⟨u,rfl,r⟩
theorem RelO.none_of {o:Option Value} (r:RelO none o):o = none:=by
  cases o with
  | none=>rfl
  | some u=>exact (show False from r).elim
theorem pd {v:V} {u:Value} (r:RelV v u):PySem.W.handedIn u = true:=by
  cases v with
  | non=>cases (show u = Value.none from r); rfl
  | bl b=>cases (show u = Value.bool b from r); rfl
  | int i=>obtain ⟨t,e⟩:=(show ∃ t,u = Value.int i t from r); cases e; rfl
  | str x=>obtain ⟨t,e⟩:=(show ∃ t,u = Value.str x t from r); cases e; rfl
  | byt b=>obtain ⟨t,e⟩:=(show ∃ t,u = Value.bytes b t from r); cases e; rfl
  | flt b=>obtain ⟨t,e⟩:=(show ∃ t,u = Value.float b t from r); cases e; rfl
  | ref a=>cases (show u = Value.ref a from r); rfl
  | ty n=>cases (show u = Value.type n from r); rfl
section
variable {P:Program} {w:World} {H H':Hp} {h h':Heap} {a C dx:Addr} {fs fs':List (Str×V)}
theorem jd (hok:HOk P w H h) (e:H a = some (.ins C dx fs)):∃ mA,ObjM h a dx C mA∧(∀ f,RelO (fs.lookup f) (mA f))∧PySem.Within mA (fs.map (·.1))∧fs.length≤1000∧H dx = some (.own a):=by
  obtain ⟨d,z,ne,ob,mA,n,r,q⟩:=(show ObjOk P w H h a (.ins C dx fs) from hok a _ e)
  exact ⟨mA,⟨ob,n,ne⟩,r,q,z,d⟩
end
structure Cls (K:PySem.W.Frag) (C:Addr):Prop where
  pg:PySem.W.plainGet K C Str.empty = true
  hd:PySem.W.hasDictIn K C = true
  po:PySem.W.plainOver K C = true
  sa:PySem.W.findIn K (.ref C) "__setattr__" = some (some (.builtin "object.__setattr__"))
theorem Cls.get {K:PySem.W.Frag} {C:Addr} (c:Cls K C) (f:Str):PySem.W.plainGet K C f = true:=c.pg
def NoAttr (K:PySem.W.Frag) (C:Addr) (f:Str):Prop:=PySem.W.findIn K (.ref C) f = some none
theorem NoAttr.taker {K:PySem.W.Frag} {C:Addr} {f:Str} (n:NoAttr K C f):PySem.W.takerIn K C f = some none:=by
  unfold PySem.W.takerIn
  rw [show PySem.W.findIn K (.ref C) f = some none from n]
  rfl
structure Con (K:PySem.W.Frag) (C:Addr) (f:Str) (v:V) (u:Value):Prop where
  at_:PySem.W.findIn K (.ref C) f = some (some u)
  rel:RelV v u
  get:PySem.W.specialIn K u "__get__" = some none
  cp:PySem.W.copiedNames.contains f = false
structure Meth (K:PySem.W.Frag) (C:Addr) (m:Str) (f:Addr):Prop where
  at_:PySem.W.findIn K (.ref C) m = some (some (.ref f))
  fn:PySem.W.isFn K (.ref f) = true
  kp:PySem.W.keepIn K (.ref f) = true
section
variable {X:Cx} {pins:List (Addr×Obj)} {σ:St} {H:Hp} {s:Shared} {a C dx:Addr} {fs:List (Str×V)} {f:Str} {v:V} {A:Around} {E:Value→Shared→Prop}
theorem mJ {b:Bool} {Q:Value→Shared→Prop} (I:Inv X pins σ H s) (e:H a = some (.ins C dx fs)) (c:Cls X.K C) (n:NoAttr X.K C f) (l:fs.lookup f = some v)
    (h:∀ u s',Inv X pins σ H s'→RelV v u→Q u s'):wpAny (model X.prog X.w) A (getAttr (.ref a) f b) Q E s:=by
  obtain ⟨mA,O,r,_,_,_⟩:=jd I.hok e
  obtain ⟨u,hu,ru⟩:=RelO.some_of (v:=v) (o:=mA f) (by rw [← l]; exact r f)
  exact uf I.kIn O (c.get f) c.hd n hu (pd ru) (h u _ (I.tok _) ru)
theorem mw {m:Str} {g:Addr} {pl:Sem Bool} {Q:Value×List Value→Shared→Prop} (I:Inv X pins σ H s) (e:H a = some (.ins C dx fs)) (c:Cls X.K C) (k:Meth X.K C m g) (l:fs.lookup m = none)
    (h:Q (.ref g,[.ref a]) s):wpAny (model X.prog X.w) A (getMethod (.ref a) m pl) Q E s:=by
  obtain ⟨mA,O,r,_,_,_⟩:=jd I.hok e
  have hn:mA m = none:=RelO.none_of (by rw [← l]; exact r m)
  exact qB I.kIn O (c.get m) k.at_ k.fn hn h
theorem mM {y:V} {u:Value} {Q:Unit→Shared→Prop} (I:Inv X pins σ H s) (e:H a = some (.ins C dx fs)) (c:Cls X.K C) (n:NoAttr X.K C f) (hl:fs.length < 1000) (ry:RelV y u)
    (h:∀ s',Inv X pins σ (upd H a (.ins C dx (gk f y fs))) s'→Q () s'):wpAny (model X.prog X.w) A (setAttr (.ref a) f u) Q E s:=by
  obtain ⟨mA,O,r,wi,_,ho⟩:=jd I.hok e
  have hz:(fs.map (·.1)).length≤sizeLine:=by rw [List.length_map,sizeLine_eq]; omega
  refine tE I.kIn O c.sa c.po n.taker c.hd wi hz fun h' O' sb=>h _ ?_
  have hd:∃ o,h'.get? dx = some o:=let ⟨o,_,_,e',_⟩:=O'.ns; ⟨o,e'⟩
  refine I.write (x:=a) (e:=dx) (by rw [e]; exact True.intro) (.inr ho) (fun b q hb z=>(sb.2 b hb).trans z) hd ?_
  refine ⟨by rw [ao O.ne]; exact ho,?_,O.ne,O'.obj,_,O'.ns,fun g=>?_,fun g hg=>?_⟩
  · have:=iS f y fs; omega
  · show RelO ((gk f y fs).lookup g) (if g = f then some u else mA g)
    rw [i3]
    by_cases q:g = f
    · rw [if_pos q,if_pos q]; exact ry
    · rw [if_neg q,if_neg q]; exact r g
  · by_cases q:g = f
    · rw [q]; exact (iQ f y fs).1
    · refine (iQ f y fs).2 g (wi g fun z=>hg ?_)
      show (if g = f then some u else mA g) = none
      rw [if_neg q]; exact z
theorem Inv.made (I:Inv X pins σ H s):Inv X pins σ (upd (upd H s.heap.objs.size (.own (s.heap.objs.size + 1))) (s.heap.objs.size + 1) (.ins C s.heap.objs.size []))
    { s with heap:=(s.heap.push PySem.W.emptyDict).push (PySem.W.instObj C s.heap.objs.size) }:=by
  have e1:(s.heap.push PySem.W.emptyDict).get? s.heap.objs.size = some PySem.W.emptyDict:=Heap.get?_push_size s.heap rfl
  have e2:((s.heap.push PySem.W.emptyDict).push (PySem.W.instObj C s.heap.objs.size)).get? (s.heap.objs.size + 1) = some (PySem.W.instObj C s.heap.objs.size):=by
    have:=Heap.get?_push_size (s.heap.push PySem.W.emptyDict) (o:=PySem.W.instObj C s.heap.objs.size) rfl
    rwa [Heap.size_push] at this
  have e3:(s.heap.push PySem.W.emptyDict).Ns s.heap.objs.size (fun _=>none):=⟨PySem.W.emptyDict,#[],_,e1,rfl,(fun e he=>absurd he (by simp)),fun _=>rfl⟩
  have I1:=I.laid (a:=s.heap.objs.size) (o:=.own (s.heap.objs.size + 1)) (h':=s.heap.push PySem.W.emptyDict) (t':=s.toks) (fun b u q=>Heap.get?_push_of_some _ q) (Nat.le_refl _) ⟨_,e1⟩
  refine I1.laid (a:=s.heap.objs.size + 1) (o:=.ins C s.heap.objs.size []) (t':=s.toks) (fun b u q=>Heap.get?_push_of_some _ q) (Nat.le_of_eq (Heap.size_push _ _)) ?_
  have ne:s.heap.objs.size≠s.heap.objs.size + 1:=Nat.ne_of_lt (Nat.lt_succ_self _)
  refine ⟨by rw [ao ne,af],Nat.zero_le _,ne,e2,fun _=>none,(Heap.Ns1.of_empty e3).at fun o q=>Heap.get?_push_of_some _ q,fun _=>True.intro,fun y hy=>absurd rfl hy⟩
theorem tT {prog:Program} {w:World} {env:Env} {e:Expr} {f:Str} {pos:Pos} {s:Shared} {Q:Value→Shared→Prop} (hb:attributeBase e f env (eval e env) = eval e env)
    (h:wpAny (model prog w) A (eval e env) (fun o s₁=>wpAny (model prog w) A (getAttr o f true) Q E s₁) E s):wpAny (model prog w) A (eval (.Attribute e f pos) env) Q E s :=
  Attribute_any_ h (by rw [arm_eval_Attribute,hb])
end
def yG (K:PySem.W.Frag) (ta:TE) (f:Str):TE:=fun σ H Q=>ta σ H fun x H1=>∃ a C dx fs v,x = .ref a∧H1 a = some (.ins C dx fs)∧Cls K C∧NoAttr K C f∧fs.lookup f = some v∧Q v H1
def As (K:PySem.W.Frag) (ta:TE) (f:Str):TE:=fun σ H Q=>ta σ H fun x H1=>∃ a C dx fs v u,x = .ref a∧H1 a = some (.ins C dx fs)∧Cls K C∧Con K C f v u∧fs.lookup f = none∧Q v H1
def yY (K:PySem.W.Frag) (ta tv:TE) (f:Str):TS:=fun D σ H=>tv σ H fun y H1=>ta σ H1 fun x H2=>∃ a C dx fs,x = .ref a∧H2 a = some (.ins C dx fs)∧Cls K C∧NoAttr K C f∧fs.length < 1000 ∧
  D.nx σ (upd H2 a (.ins C dx (gk f y fs)))
def Ay (X:Cx) (op:Operator) (rd:V→V→Hp→VK→Prop):Prop :=
  ∀ (pins:List (Addr×Obj)) (s:Shared) (σ:St) (H:Hp) (x y:V) (u v:Value) (Q:VK),Inv X pins σ H s→RelV x u→RelV y v→rd x y H Q→wpAny (model X.prog X.w) X.A (inplaceOp op u v) (EP X pins σ Q) X.xe s
def yh (K:PySem.W.Frag) (ta tv:TE) (rd:V→V→Hp→VK→Prop) (f:Str):TS:=fun D σ H=>ta σ H fun x H1=>∃ a C dx fs v,x = .ref a∧H1 a = some (.ins C dx fs)∧Cls K C∧NoAttr K C f∧fs.lookup f = some v ∧
  tv σ H1 fun y H2=>rd v y H2 fun z H3=>∃ dx' fs',H3 a = some (.ins C dx' fs')∧fs'.length < 1000∧D.nx σ (upd H3 a (.ins C dx' (gk f z fs')))
section
variable {X:Cx} {o e value:Expr} {f:Str} {pos pos' tpos:Pos} {ta tv:TE}
theorem eS (he:PE X e ta) (hb:attributeBase e f X.env (eval e X.env) = eval e X.env):PE X (.Attribute e f pos) (yG X.K ta f):=by
  intro pins s σ H Q I h
  refine tT hb (thn (he pins s σ H _ I h) fun u s1 ⟨x,H1,I1,rx,a,C,dx,fs,v,ex,ea,c,n,l,q⟩=>?_)
  subst ex
  obtain rfl:u = Value.ref a:=rx
  exact mJ I1 ea c n l fun u' s2 I2 ru=>⟨v,H1,I2,ru,q⟩
theorem kr (ha:PE X o ta) (hv:PE X value tv) (hs:swapsWith value (some (.Attribute o f pos')) pos.line X.env = pure false):PS X (.Assign [.Attribute o f pos'] value pos) (yY X.K ta tv f):=by
  intro pins s σ H D I h
  refine plainObj_wpAny_Assign_Attribute (thn (hv pins s σ H _ I h) fun u s1 ⟨y,H1,I1,ry,q⟩=>thn (ha pins s1 σ H1 _ I1 q) fun ov s2 ⟨x,H2,I2,rx,a,C,dx,fs,ex,ea,c,n,l,q2⟩=>?_) hs
  subst ex
  obtain rfl:ov = Value.ref a:=rx
  exact mM I2 ea c n l ry fun s3 I3=>⟨σ,_,I3,q2⟩
def Az:V→V→Hp→VK→Prop:=fun x y H Q=>∃ i j,x = .int i∧y = .int j∧Q (.int (i + j)) H
def Aw:V→V→Hp→VK→Prop:=fun x y H Q=>∃ i j,x = .int i∧y = .int j∧Q (.int (i - j)) H
end
section
variable {X:Cx} {pins:List (Addr×Obj)} {σ:St} {H:Hp} {s:Shared} {A:Around} {E:Value→Shared→Prop} {Q:Value→Shared→Prop} {c:Value} {b:Bool}
inductive TyOf (K:PySem.W.Frag) (H:Hp):V→Value→Prop where
  | non:TyOf K H .non (.type "NoneType")
  | bl (x:Bool):TyOf K H (.bl x) (.type "bool")
  | int (i:Int):TyOf K H (.int i) (.type "int")
  | str (x:Str):TyOf K H (.str x) (.type "str")
  | flt (x:UInt64):TyOf K H (.flt x) (.type "float")
  | lst {a:Addr} {xs:List V} (e:H a = some (.lst xs)):TyOf K H (.ref a) (.type "list")
  | frz {a:Addr} {o:Obj} {xs:List V} (e:H a = some (.frz o (.lst xs))):TyOf K H (.ref a) (.type "list")
  | tup {a:Addr} {xs:List V} (e:H a = some (.tup xs)):TyOf K H (.ref a) (.type "tuple")
  | dK {a:Addr} {kvs:List (Key×V)} (e:H a = some (.dK kvs)):TyOf K H (.ref a) (.type "dict")
  | dT {a:Addr} {kvs:List (List Key×V)} (e:H a = some (.dT kvs)):TyOf K H (.ref a) (.type "dict")
  | ins {a C dx:Addr} {fs:List (Str×V)} (e:H a = some (.ins C dx fs)) (cl:Cls K C) (ha:PySem.W.findIn K (.ref C) "__class__" = some (some (.builtin "object.__class__")))
      (hn:PySem.W.specialIn K (.builtin "object.__class__") "__get__" = some (some (.builtin "getset_descriptor.__get__"))) (htk:PySem.W.takesIn K (.builtin "object.__class__") = some true)
      (hm:PySem.W.mroIn K C (.type "object") = some true):TyOf K H (.ref a) (.ref C)
end
end L2
namespace L2
open PySem PySem.Spec PyProof.Rows
structure Room (k:Nat) (A:Around):Prop where
  hd:A.handled = none
  dp:A.depth + 3 * k + 5 < recursionLimit
  un:A.units + 16 * k + 200 < cLine
theorem Room.mono {j k:Nat} {A:Around} (r:Room k A) (h:j≤k):Room j A:=⟨r.hd,by have:=r.dp; omega,by have:=r.un; omega⟩
theorem Room.deeper {k:Nat} {A:Around} (r:Room (k + 1) A) (env:Env):Room k (A.deeper env) :=
  ⟨r.hd,by have:=r.dp; show A.depth + 1 + 3 * k + 5 < _; omega,by have:=r.un; show A.units + 3 + 16 * k + 200 < _; omega⟩
theorem mL {A:Around} {C:Addr} {us:List Value} {kw:List (Str×Value)}:(A.under (.builtin "type.__call__" ⟨.ref C :: us,kw⟩)).depth = A.depth + 1:=by
  first | rfl | simp [Around.under,Code.weight,Code.isCreation,Code.isGuard,Code.isCaller,Code.frames,Code.isFrame,guardIds]
theorem mH {A:Around} {C:Addr} {us:List Value} {kw:List (Str×Value)}:(A.under (.builtin "type.__call__" ⟨.ref C :: us,kw⟩)).units = A.units + 1:=by
  first | rfl | simp [Around.under,Code.cUnits,Code.frames,Code.isFrame]
theorem Room.make {k:Nat} {A:Around} (r:Room (k + 1) A) (C:Addr) (us:List Value) (kw:List (Str×Value)):Room k (A.under (.builtin "type.__call__" ⟨.ref C :: us,kw⟩)) :=
  ⟨r.hd,by have:=r.dp; rw [mL]; omega,by have:=r.un; rw [mH]; omega⟩
theorem Room.depth {k:Nat} {A:Around} (r:Room k A):A.depth < recursionLimit:=by have:=r.dp; omega
theorem Room.units {k:Nat} {A:Around} (r:Room k A):A.units + 64 < cLine:=by have:=r.un; omega
def xR:TA:=fun _ H Q=>Q [] H
def oj (ta:TE) (tr:TA):TA:=fun σ H Q=>ta σ H fun x H1=>tr σ H1 fun xs H2=>Q (x :: xs) H2
section
variable {X:Cx} {e:Expr} {es:List Expr} {te:TE} {t:TA} {pos:Pos}
theorem ae:PA X [] xR:=fun _ _ _ _ H Q I h=>Calls.spliced_nil ⟨[],H,I,.nil,h⟩
theorem aa (ha:PE X e te) (hr:PA X es t) (hs:starEach (e :: es) X.env = (false,eval e X.env) :: starEach es X.env:=by rfl):PA X (e :: es) (oj te t):=by
  intro pos pins s σ H Q I h
  rw [hs]
  show wpAny _ _ (spliced ((false,eval e X.env) :: backTo pos (starEach es X.env))) _ _ s
  refine Calls.spliced_cons (thn (ha pins s σ H _ I h) fun u s1 ⟨x,H1,I1,r1,q1⟩=>?_)
  exact thn (hr pos pins s1 σ H1 _ I1 q1) fun us s2 ⟨xs,H2,I2,r2,q2⟩=>⟨x :: xs,H2,I2,.cons r1 r2,q2⟩
def yP (t:TA):TE:=fun σ H Q=>t σ H fun xs H1=>xs.length≤sizeLine∧∀ p,H1 p = none→Q (.ref p) (upd H1 p (.tup xs))
def vt (t:TA):TE:=fun σ H Q=>t σ H fun xs H1=>xs.length≤sizeLine∧∀ p,H1 p = none→Q (.ref p) (upd H1 p (.lst xs))
theorem bw {x1} (h:PA X es t):PE X (.Tuple es x1 pos) (yP t):=by
  intro pins s σ H Q I hq
  refine wpAny_Tuple_spliced (thn (h pos pins s σ H _ I hq) fun us s1 ⟨xs,H1,I1,r,z,q⟩=>⟨by rw [← r.length]; exact z,?_⟩)
  have hf:H1 s1.heap.objs.size = none:=I1.hok.fresh (Nat.le_refl _)
  refine ⟨.ref s1.heap.objs.size,upd H1 s1.heap.objs.size (.tup xs),I1.laid (t':=s1.toks) (fun b u e=>Heap.get?_push_of_some _ e) (Nat.le_refl _) ?_,rfl,q _ hf⟩
  exact ⟨z,us,r,⟨_,Heap.get?_push_size _ rfl,rfl,_,rfl⟩⟩
theorem dc (h:PA X es t):PE X (.List es pos) (vt t):=by
  intro pins s σ H Q I hq
  refine wpAny_List_spliced (thn (h pos pins s σ H _ I hq) fun us s1 ⟨xs,H1,I1,r,z,q⟩=>⟨by rw [← r.length]; exact z,?_⟩)
  have hf:H1 s1.heap.objs.size = none:=I1.hok.fresh (Nat.le_refl _)
  refine ⟨.ref s1.heap.objs.size,upd H1 s1.heap.objs.size (.lst xs),I1.laid (t':=s1.toks) (fun b u e=>Heap.get?_push_of_some _ e) (Nat.le_refl _) ?_,rfl,q _ hf⟩
  exact ⟨z,us,0,r,Heap.get?_push_size _ rfl⟩
end
abbrev Sp:=List V→Hp→VK→XK→Prop
abbrev CXT:=List Env→Hp→Shared→XK→Value→Shared→Prop
structure Env0 (P:Program) (w:World) (K:PySem.W.Frag) (mg:Str→Option Value) (base:Heap) (A:Around) (outer:List Env) (s:Shared) (H:Hp):Prop where
  frames:A.frames = some outer
  mod:Mod K mg base
  bs:∀ b o,base.get? b = some o→s.heap.get? b = some o∧H b = none
  bsz:base.objs.size≤s.heap.objs.size
  funs:s.heap.FunFrames base outer
  frf:∀ b ∈ frs outer,H b = none
  hok:HOk P w H s.heap
  bare:AllBare s.gens
def CE (outer:List Env) (P:Program) (w:World) (H:Hp) (s:Shared) (Q:VK) (u:Value) (s':Shared):Prop :=
  ∃ v H',s'.os = s.os∧AllBare s'.gens∧Un (frs outer) [] H H' s.heap s'.heap∧HOk P w H' s'.heap∧RelV v u∧Q v H'
def CR (CX:CXT) (outer:List Env) (P:Program) (w:World) (H:Hp) (s:Shared) (Q:VK) (E:XK) (r:Result) (s':Shared):Prop :=
  match r with
  | .ok (.ret u)=>CE outer P w H s Q u s'
  | .ok _=>False
  | .error e=>CX outer H s E e s'
structure FnOk (P:Program) (w:World) (K:PySem.W.Frag) (mg:Str→Option Value) (base:Heap) (CX:CXT) (k:Nat) (f:Addr) (fd:FuncData) (ps:List Str) (sp:Sp):Prop where
  len:∀ vs H Q E,sp vs H Q E→vs.length = ps.length
  run:∀ (A:Around) (outer:List Env) (s:Shared) (H:Hp) (args:Args) (us:List Value) (vs:List V) (Q:VK) (E:XK),Room k A→Env0 P w K mg base A outer s H→BindsTo s fd args (ps.zip us)→Vals vs us→sp vs H Q E →
    codeAny (model P w) A (.call (.ref f) args) (CR CX outer P w H s Q E) s
theorem FnOk.mono {P:Program} {w:World} {K:PySem.W.Frag} {mg:Str→Option Value} {base:Heap} {CX:CXT} {j k:Nat} {f:Addr} {fd:FuncData} {ps:List Str} {sp:Sp} (F:FnOk P w K mg base CX j f fd ps sp) (h:j≤k) :
    FnOk P w K mg base CX k f fd ps sp:=⟨F.len,fun A outer s H args us vs Q E hr=>F.run A outer s H args us vs Q E (hr.mono h)⟩
theorem Env0.make {P:Program} {w:World} {K:PySem.W.Frag} {mg:Str→Option Value} {base:Heap} {A:Around} {outer:List Env} {s:Shared} {H:Hp} (e:Env0 P w K mg base A outer s H) (C:Addr) (us:List Value) (kw:List (Str×Value)) :
    Env0 P w K mg base (A.under (.builtin "type.__call__" ⟨.ref C :: us,kw⟩)) outer s H:=⟨by first | exact e.frames | (simpa [Around.under,Code.envs,Code.isFrame,pushEnvs] using e.frames),e.mod,e.bs,e.bsz,e.funs,e.frf,e.hok,e.bare⟩
section
variable {X:Cx} {pins:List (Addr×Obj)} {σ:St} {H:Hp} {s s':Shared}
theorem Inv.env0 (I:Inv X pins σ H s):Env0 X.prog X.w X.K X.mg X.base X.A X.stack s H :=
  ⟨I.ok.frames,I.ok.mod,I.bs,Nat.le_trans I.ok.bsz I.sz,I.stack,I.stkFree,I.hok,I.bare⟩
theorem Inv.after {Q:VK} {u:Value} (I:Inv X pins σ H s) (h:CE X.stack X.prog X.w H s Q u s'):EP X pins σ Q u s':=by
  obtain ⟨v,H',os,bare,un,hok,r,q⟩:=h
  obtain ⟨hh,g,d,t,os'⟩:=s'
  obtain rfl:os' = s.os:=os
  exact ⟨v,H',I.call (h':=hh) (g':=g) (d':=d) (t':=t) (ch:=[]) un hok bare (fun b z=>absurd z (by simp)),r,q⟩
end
def xT (sp:Sp) (dvs:List V) (E:XK) (t:TA):TE:=fun σ H Q=>t σ H fun vs H1=>sp (vs ++ dvs) H1 Q E
def xc (C:Addr) (m:Str) (sp:Sp) (dvs:List V) (E:XK) (ta:TE) (t:TA):TE:=fun σ H Q=>ta σ H fun x H1=>∃ a dx fs,x = .ref a∧H1 a = some (.ins C dx fs)∧fs.lookup m = none ∧
  t σ H1 fun vs H2=>sp (x :: (vs ++ dvs)) H2 Q E
def xI (C:Addr) (sp:Sp) (dvs:List V) (E:XK) (t:TA):TE:=fun σ H Q=>t σ H fun vs H1=>∀ x dx,H1 x = none→H1 dx = none→dx≠x →
  sp (.ref x :: (vs ++ dvs)) (upd (upd H1 dx (.own x)) x (.ins C dx [])) (fun v H2=>v = .non∧Q (.ref x) H2) E
def Binds (K:PySem.W.Frag) (fd:FuncData) (ps:List Str) (ds:List Value):Prop :=
  ∀ (s:Shared) (us:List Value),K.In s.heap→(us ++ ds).length = ps.length→BindsTo s fd ⟨us,[]⟩ (ps.zip (us ++ ds))
theorem Binds.all {K:PySem.W.Frag} {fd:FuncData} {ps:List Str} (h:∀ us:List Value,us.length = ps.length→bindArgs fd ⟨us,[]⟩ = pure (ps.zip us)):Binds K fd ps []:=fun s us _ hl=>by
  rw [List.append_nil] at hl ⊢
  exact .of_eq (h us hl)
def ii (CX:CXT) (X:Cx) (E:XK):Prop:=∀ (pins:List (Addr×Obj)) (σ:St) (H:Hp) (s:Shared) (e:Value) (s':Shared),Inv X pins σ H s→CX X.stack H s E e s'→X.xe e s'
section
variable {X:Cx} {CX:CXT} {k:Nat} {f C:Addr} {fd:FuncData} {ps:List Str} {sp:Sp} {dvs:List V} {ds:List Value} {E:XK} {x m:Str} {p pos apos:Pos} {e o:Expr} {es:List Expr} {ta:TE} {t:TA}
theorem qu {pins:List (Addr×Obj)} {σ:St} {H:Hp} {s:Shared} {Q:VK} {us:List Value} {vs:List V} (F:FnOk X.prog X.w X.K X.mg X.base CX k f fd ps sp) (hr:Room k X.A) (hb:Binds X.K fd ps ds) (hd:Vals dvs ds) (hx:ii CX X E)
    (I:Inv X pins σ H s) (r:Vals vs us) (h:sp (vs ++ dvs) H Q E):wpAny (model X.prog X.w) X.A (call (.ref f) us) (EP X pins σ Q) X.xe s:=by
  have r2:Vals (vs ++ dvs) (us ++ ds):=r.append hd
  have hl:(us ++ ds).length = ps.length:=by rw [← r2.length]; exact F.len _ _ _ _ h
  refine wpAny_call (codeAny_mono (F.run X.A X.stack s H ⟨us,[]⟩ (us ++ ds) (vs ++ dvs) Q E hr I.env0 (hb s us I.kIn hl) r2 h) fun r s' hq=>?_)
  cases r with
  | error e=>exact hx pins σ H s e s' I hq
  | ok fl =>
    cases fl with
    | ret u=>exact I.after hq
    | next=>exact False.elim hq
    | brk=>exact False.elim hq
    | cont=>exact False.elim hq
theorem am (F:FnOk X.prog X.w X.K X.mg X.base CX k f fd ps sp) (hr:Room k X.A) (hg:Gl X x) (hm:X.mg x = some (.ref f)) (hk:PySem.W.keepIn X.K (.ref f) = true) (hb:Binds X.K fd ps ds) (hd:Vals dvs ds) (hx:ii CX X E)
    (ha:PA X (e :: es) t) (hdb:(x == ("__debug__" : Str)) = false:=by decide) (he:starEach (e :: es) X.env = (false,eval e X.env) :: starEach es X.env:=by rfl) (hpl:(backTo pos (starEach es X.env)).any (·.1) = false:=by rfl) :
    PE X (.Call (.Name x p) (e :: es) [] pos) (xT sp dvs E t):=by
  intro pins s σ H Q I h
  refine wpAny_Call_Name_kw (eZ I hg hm ?_ hdb)
  refine PySem.W.callWith_K (h₀:=X.base) I.ok.mod.kin hk (thn (ha pos pins s σ H _ I h) fun us s1 ⟨vs,H1,I1,r,q⟩=>⟨I1.kIn,?_⟩) he hpl
  exact qu F hr hb hd hx I1 r q
theorem cI {pl:Sem Bool} (he:PE X o ta) (c:Cls X.K C) (hm:Meth X.K C m f) (F:FnOk X.prog X.w X.K X.mg X.base CX k f fd ps sp) (hr:Room k X.A) (hb:Binds X.K fd ps ds) (hd:Vals dvs ds) (hx:ii CX X E) (ha:PA X (e :: es) t)
    (hst:starEach (e :: es) X.env = (false,eval e X.env) :: starEach es X.env:=by rfl) (hpl:(backTo pos (starEach es X.env)).any (·.1) = false:=by rfl)
    (ht:eval (.Call (.Attribute o m apos) (e :: es) [] pos) X.env = (do
      let ov ← eval o X.env
      standAt apos.atName
      let (f,first) ← holding [ov] (getMethod ov m pl)
      callWith pos f first (backTo pos (starEach (e :: es) X.env)) (backToKw pos (keywordEach [] X.env))):=by rfl) :
    PE X (.Call (.Attribute o m apos) (e :: es) [] pos) (xc C m sp dvs E ta t):=by
  intro pins s σ H Q I h
  refine PySem.W.methodCall_KW (pl:=pl) (thn (he pins s σ H _ I h) fun u s1 ⟨x,H1,I1,rx,a,dx,fs,ex,ea,l,q⟩=>?_) ht
  subst ex
  obtain rfl:u = Value.ref a:=rx
  refine mw I1 ea c hm l ?_
  refine PySem.W.callWith_K (first:=[.ref a]) (h₀:=X.base) I.ok.mod.kin hm.kp (thn (ha pos pins s1 σ H1 _ I1 q) fun us s2 ⟨vs,H2,I2,r,q2⟩=>⟨I2.kIn,?_⟩) hst hpl
  exact qu (us:=.ref a :: us) (vs:=.ref a :: vs) F hr hb hd hx I2 (.cons rfl r) q2
structure Mk (K:PySem.W.Frag) (C f:Addr):Prop where
  makes:PySem.W.makesIn K C = true
  init:PySem.W.findIn K (.ref C) "__init__" = some (some (.ref f))
  fn:PySem.W.isFn K (.ref f) = true
  kp:PySem.W.keepIn K (.ref C) = true
theorem qS {pins:List (Addr×Obj)} {σ:St} {H:Hp} {s:Shared} {Q:VK} {us:List Value} {vs:List V} (M:Mk X.K C f) (F:FnOk X.prog X.w X.K X.mg X.base CX k f fd ps sp) (hr:Room (k + 1) X.A) (hb:Binds X.K fd ps ds) (hd:Vals dvs ds)
    (hx:ii CX X E) (I:Inv X pins σ H s) (r:Vals vs us)
    (h:∀ x dx,H x = none→H dx = none→dx≠x→sp (.ref x :: (vs ++ dvs)) (upd (upd H dx (.own x)) x (.ins C dx [])) (fun v H2=>v = .non∧Q (.ref x) H2) E) :
    wpAny (model X.prog X.w) X.A (call (.ref C) us) (EP X pins σ Q) X.xe s:=by
  have hq:=h (s.heap.objs.size + 1) s.heap.objs.size (I.hok.fresh (Nat.le_succ _)) (I.hok.fresh (Nat.le_refl _)) (Nat.ne_of_lt (Nat.lt_succ_self _))
  have I2:=Inv.made (C:=C) I
  have r2:Vals (V.ref (s.heap.objs.size + 1) :: (vs ++ dvs)) (Value.ref (s.heap.objs.size + 1) :: (us ++ ds)):=.cons rfl (r.append hd)
  have hl:(Value.ref (s.heap.objs.size + 1) :: us ++ ds).length = ps.length:=by
    have e:=r2.length
    rw [F.len _ _ _ _ hq] at e
    exact e.symm
  refine wpAny_call (rM (f:=f) I.kIn M.makes M.init (beq_iff_eq.mp M.fn) (codeAny_mono (F.run _ X.stack _ _ ⟨Value.ref (s.heap.objs.size + 1) :: us,[]⟩ (Value.ref (s.heap.objs.size + 1) :: (us ++ ds)) _ _ E (hr.make C us [])
    (I2.env0.make C us []) (hb _ (Value.ref (s.heap.objs.size + 1) :: us) I2.kIn hl) r2 hq) fun r s' hq'=>?_))
  cases r with
  | error e=>exact hx pins σ _ _ e s' I2 hq'
  | ok fl =>
    cases fl with
    | ret u =>
      obtain ⟨v,H',I3,rv,ev,q3⟩:=I2.after hq'
      subst ev
      exact ⟨rv,⟨V.ref (s.heap.objs.size + 1),H',I3,rfl,q3⟩⟩
    | next=>exact False.elim hq'
    | brk=>exact False.elim hq'
    | cont=>exact False.elim hq'
theorem eh (M:Mk X.K C f) (F:FnOk X.prog X.w X.K X.mg X.base CX k f fd ps sp) (hr:Room (k + 1) X.A) (hg:Gl X x) (hm:X.mg x = some (.ref C)) (hb:Binds X.K fd ps ds) (hd:Vals dvs ds) (hx:ii CX X E)
    (ha:PA X (e :: es) t) (hdb:(x == ("__debug__" : Str)) = false:=by decide) (he:starEach (e :: es) X.env = (false,eval e X.env) :: starEach es X.env:=by rfl) (hpl:(backTo pos (starEach es X.env)).any (·.1) = false:=by rfl) :
    PE X (.Call (.Name x p) (e :: es) [] pos) (xI C sp dvs E t):=by
  intro pins s σ H Q I h
  refine wpAny_Call_Name_kw (eZ I hg hm ?_ hdb)
  refine PySem.W.callWith_K (h₀:=X.base) I.ok.mod.kin M.kp (thn (ha pos pins s σ H _ I h) fun us s1 ⟨vs,H1,I1,r,q⟩=>⟨I1.kIn,?_⟩) he hpl
  exact qS M F hr hb hd hx I1 r q
end
def PK (X:Cx) (kws:List Keyword) (t:TA):Prop :=
  ∀ (pos:Pos) (pins:List (Addr×Obj)) (s:Shared) (σ:St) (H:Hp) (Q:List V→Hp→Prop),Inv X pins σ H s→t σ H Q→wpAny (model X.prog X.w) X.A (evalAll ((backToKw pos (keywordEach kws X.env)).map (·.2))) (AP X pins σ Q) X.xe s
section
variable {X:Cx} {CX:CXT} {k:Nat} {f C:Addr} {fd:FuncData} {ps ks:List Str} {sp:Sp} {E:XK} {x m:Str} {p pos apos kpos:Pos} {e o:Expr} {es:List Expr} {kws:List Keyword} {te ta:TE} {t tk:TA} {nm:Option Str}
structure KBinds (K:PySem.W.Frag) (fd:FuncData) (ps ks:List Str) (g:List Value→List Value→List Value) (gV:List V→List V→List V):Prop where
  to:∀ (s:Shared) (us ws:List Value),K.In s.heap→(g us ws).length = ps.length→BindsTo s fd ⟨us,ks.zip ws⟩ (ps.zip (g us ws))
  rel:∀ {vs:List V} {us:List Value} {zs:List V} {ws:List Value},Vals vs us→Vals zs ws→Vals (gV vs zs) (g us ws)
def yD (sp:Sp) (gV:List V→List V→List V) (E:XK) (t tk:TA):TE:=fun σ H Q=>t σ H fun vs H1=>tk σ H1 fun zs H2=>sp (gV vs zs) H2 Q E
variable {g:List Value→List Value→List Value} {gV:List V→List V→List V}
end
structure FnScope (N P:List Str) (sc:Scope):Prop where
  kind:sc.kind = .function
  co:sc.isCoroutine = false
  gen:sc.isGenerator = false
  nd:N.Nodup
  pre:N.take P.length = P
  par:∀ x ∈ P,sc.names.lookup x = some .local∨sc.names.lookup x = some .cell
  nofree:∀ y ∈ sc.names,y.2≠.free
theorem jY {kindOf:Str→Option NameKind} {x:Str}:∀ {binds:List (Str×Value)} {m:Str→Option Value},(∀ v,(x,v) ∉ binds)→bindL kindOf binds m x = m x
  | [],_,_=>rfl
  | (n,v) :: r,m,h=>by
    unfold bindL
    rw [jY fun w hw=>h w (List.mem_cons_of_mem _ hw)]
    split
    · have:x≠n:=by rintro rfl; exact h v List.mem_cons_self
      simp [this]
    · rfl
theorem jX {kindOf:Str→Option NameKind} {x:Str}:∀ {binds:List (Str×Value)} {m:Str→Option Value},(∀ v,(x,v) ∉ binds)→bindC kindOf binds m x = m x
  | [],_,_=>rfl
  | (n,v) :: r,m,h=>by
    unfold bindC
    rw [jX fun w hw=>h w (List.mem_cons_of_mem _ hw)]
    split
    · rfl
    · have:x≠n:=by rintro rfl; exact h v List.mem_cons_self
      simp [this]
theorem km {kindOf:Str→Option NameKind} {x:Str} {v:Value}:∀ {P:List Str} {vs:List Value} {i:Nat} {m:Str→Option Value},P.Nodup→P[i]? = some x→vs[i]? = some v→kindOf x = some .local →
    bindL kindOf (P.zip vs) m x = some v
  | [],_,_,_,_,h,_,_=>by simp at h
  | _ :: _,[],_,_,_,_,h,_=>by simp at h
  | p :: P,w :: vs,0,m,nd,h1,h2,hk=>by
    simp at h1 h2; subst h1; subst h2
    show bindL kindOf ((p,w) :: P.zip vs) m p = _
    unfold bindL
    rw [jY fun v hv=>(List.nodup_cons.mp nd).1 (List.of_mem_zip hv).1,if_pos hk]
    simp
  | p :: P,w :: vs,i + 1,m,nd,h1,h2,hk=>by
    show bindL kindOf ((p,w) :: P.zip vs) m x = _
    unfold bindL
    exact km (i:=i) (List.nodup_cons.mp nd).2 (by simpa using h1) (by simpa using h2) hk
theorem jS {kindOf:Str→Option NameKind} {x:Str} {v:Value}:∀ {P:List Str} {vs:List Value} {i:Nat} {m:Str→Option Value},P.Nodup→P[i]? = some x→vs[i]? = some v→kindOf x≠some .local →
    bindC kindOf (P.zip vs) m x = some v
  | [],_,_,_,_,h,_,_=>by simp at h
  | _ :: _,[],_,_,_,_,h,_=>by simp at h
  | p :: P,w :: vs,0,m,nd,h1,h2,hk=>by
    simp at h1 h2; subst h1; subst h2
    show bindC kindOf ((p,w) :: P.zip vs) m p = _
    unfold bindC
    rw [jX fun v hv=>(List.nodup_cons.mp nd).1 (List.of_mem_zip hv).1,if_neg hk]
    simp
  | p :: P,w :: vs,i + 1,m,nd,h1,h2,hk=>by
    show bindC kindOf ((p,w) :: P.zip vs) m x = _
    unfold bindC
    exact jS (i:=i) (List.nodup_cons.mp nd).2 (by simpa using h1) (by simpa using h2) hk
def eY (N:List Str) (vs:List V):St:=vs.map some ++ List.replicate (N.length - vs.length) none
def eM (CX:CXT) (P:Program) (w:World) (K:PySem.W.Frag) (mg:Str→Option Value) (base:Heap) (N:List Str) (qual:Str) (scope:Scope) (f:Addr) (cd:Value) (A:Around) (outer:List Env) (s:Shared) (H:Hp) (E:XK):Cx where
  prog:=P
  w:=w
  K:=K
  mg:=mg
  base:=base
  A:=A.deeper (envOfC qual scope s.heap.objs.size f cd)
  N:=N
  s₀:=s
  H₀:=H
  env:=envOfC qual scope s.heap.objs.size f cd
  outer:=outer
  stack:=envOfC qual scope s.heap.objs.size f cd :: outer
  ex:=[]
  calm:=true
  fn:=fun _=>true
  pn:=[]
  xe:=fun e s'=>wpAny (model P w) (A.deeper (envOfC qual scope s.heap.objs.size f cd)) (leaving (envOfC qual scope s.heap.objs.size f cd) e) (fun _ s''=>CX outer H s E e s'') (fun e' s''=>CX outer H s E e' s'') s'
theorem lG {sc:Scope} {n:Nat} {x:Str} (h:sc.names.lookup x = some .cell):∃ c,(cellsFrom n sc.names []).lookup x = some c:=by
  have q:=PySem.W.cellsFrom_some sc.names n [] (.inl h)
  exact Option.isSome_iff_exists.mp q
theorem j8 {CX:CXT} {P:Program} {w:World} {K:PySem.W.Frag} {mg:Str→Option Value} {base:Heap} {N ps:List Str} {qual:Str} {scope:Scope} {f:Addr} {cd:Value} {A:Around} {outer:List Env} {s s1:Shared} {H:Hp} {E:XK} {us:List Value} {vs:List V}
    (S:FnScope N ps scope) (hd:A.handled = none) (e0:Env0 P w K mg base A outer s H) (hl:vs.length = ps.length) (r:Vals vs us)
    (x:InCallC s s.heap.objs.size (bindL (envOfC qual scope s.heap.objs.size f cd).kindOf (ps.zip us) fun _=>none) (cellsFrom (s.heap.objs.size + 1) scope.names []) (bindC (envOfC qual scope s.heap.objs.size f cd).kindOf (ps.zip us) fun _=>none) s1) :
    Inv (eM CX P w K mg base N qual scope f cd A outer s H E) [] (eY N vs) H s1:=by
  have hpl:ps.length≤N.length:=by have:=congrArg List.length S.pre; rw [List.length_take] at this; omega
  obtain ⟨h1,tk,rfl,hk⟩:=x.done
  have noA:∀ b:Addr,b ∉ (eM CX P w K mg base N qual scope f cd A outer s H E).ex:=fun b z=>absurd (show b ∈ ([]:List Addr) from z) (by simp)
  refine ⟨⟨e0.mod,S.kind,rfl,rfl,Nat.le_refl _,fun y z c h1 h2=>?_,fun y hy=>?_,fun y c _ h=>?_,fun _=>hd,Around.frames_deeper e0.frames,.inr ⟨rfl,rfl⟩,fun b z=>absurd z (noA b),e0.bs,e0.bsz,fun b _ _=>noA b,fun b z=>absurd z (noA b),e0.funs,e0.frf⟩,
    rfl,e0.bare,Un.kept hk,⟨_,x.toInCall.ns,fun i y v h1 h2 h3=>?_⟩,fun y c h=>⟨_,x.cell y c h⟩,e0.hok.fresh (Nat.le_refl _),fun y c h=>?_,fun p hp=>absurd (show p ∈ ([]:List (Addr×Obj)) from hp) (by simp),e0.hok.kept hk,?_⟩
  · exact name_of_addr x.apart (PySem.mem_of_lookup h1) (PySem.mem_of_lookup h2)
  · have hy:scope.names.lookup y = some .cell∨scope.names.lookup y = some .free:=hy
    rcases hy with hy | hy
    · exact lG hy
    · exact absurd rfl (S.nofree _ (PySem.mem_of_lookup hy))
  · exact Nat.le_of_lt (x.above y c (PySem.mem_of_lookup h))
  · have hi:i < vs.length:=by
      unfold eY at h2
      by_cases hi:i < vs.length
      · exact hi
      · rw [List.getElem?_append_right (by simpa using hi)] at h2
        rw [List.getElem?_replicate] at h2
        split at h2 <;> cases h2
    have ha:vs[i]? = some v:=by
      unfold eY at h2
      rw [List.getElem?_append_left (by simpa using hi),List.getElem?_map] at h2
      cases e:vs[i]? with
      | none=>rw [e] at h2; cases h2
      | some a=>rw [e] at h2; cases h2; rfl
    obtain ⟨u,hu,rv⟩:=r.get ha
    have hp:ps[i]? = some y:=by
      rw [← S.pre,List.getElem?_take_of_lt (by omega)]; exact h1
    have ndP:ps.Nodup:=by rw [← S.pre]; exact S.nd.sublist (List.take_sublist _ _)
    refine ⟨u,rv,?_⟩
    rcases S.par y (List.mem_of_getElem? hp) with k | k
    · exact .inl ⟨k,km ndP hp hu k⟩
    · obtain ⟨c,e⟩:=lG (n:=s.heap.objs.size + 1) k
      refine .inr ⟨.inl k,c,e,?_⟩
      have q:=x.cell y c e
      rw [jS ndP hp hu (by show scope.names.lookup y≠_; rw [k]; decide)] at q
      exact q
  · exact e0.hok.fresh (Nat.le_of_lt (x.above y c (PySem.mem_of_lookup h)))
  · unfold eY
    show _ = N.length
    rw [List.length_append,List.length_map,List.length_replicate]
    omega
theorem rf {CX:CXT} {P:Program} {w:World} {K:PySem.W.Frag} {mg:Str→Option Value} {base:Heap} {k:Nat} {f:Addr} {name qual:Str} {params:Arguments} {body:List Stmt} {scope:Scope} {dV kV doc pm cdv ct oc:Value} {an od:Option Addr}
    {osl:Array (Option Value)} {N ps:List Str} {sp:Sp} (lk:K.lookup f = some ⟨oc,od,.func (PySem.W.fnOf name qual params body scope dV kV doc pm an cdv ct),osl⟩) (hcd:PySem.W.codeIn K cdv qual = true) (S:FnScope N ps scope)
    (len:∀ vs H Q E,sp vs H Q E→vs.length = ps.length)
    (hbody:∀ (A:Around) (outer:List Env) (s:Shared) (H:Hp) (vs:List V) (Q:VK) (E:XK),Room k (A.deeper (envOfC qual scope s.heap.objs.size f cdv))→sp vs H Q E →
      ∃ t,PSs (eM CX P w K mg base N qual scope f cdv A outer s H E) body t∧t { nx:=fun _ H'=>Q .non H',rt:=Q } (eY N vs) H) :
    FnOk P w K mg base CX (k + 1) f (PySem.W.fnOf name qual params body scope dV kV doc pm an cdv ct) ps sp:=by
  refine ⟨len,fun A outer s H args us vs Q E hr e0 hb r hsp=>?_⟩
  have hl:=len _ _ _ _ hsp
  have KX:K.In s.heap:=e0.mod.kin.keeps fun b o e=>(e0.bs b o e).1
  have lim:s.heap.NoLimit:=e0.mod.nolimit.keeps fun b o e=>(e0.bs b o e).1
  have hkind:∀ y ∈ ps.zip us,scope.names.lookup y.1 = some .local∨(scope.names.lookup y.1 = some .cell∧((cellsFrom (s.heap.objs.size + 1) scope.names []).lookup y.1).isSome = true):=fun ⟨n,v⟩ hy=>by
    rcases S.par n (List.of_mem_zip hy).1 with q | q
    · exact .inl q
    · exact .inr ⟨q,PySem.W.cellsFrom_some _ _ _ (.inl q)⟩
  refine codeAny_call_function hr.depth (KX _ _ lk) rfl S.co S.gen rfl (PySem.W.codeRec_of KX hcd) (hb _ _ _ _ ?_)
  refine wpAny_newFunctionEnv_cells S.kind hkind fun env he s1 x=>?_
  subst he
  refine ⟨lim.keeps x.toInCall.keep,codeAny_func ?_⟩
  obtain ⟨t,ht,hq⟩:=hbody A outer s H vs Q E (hr.deeper _) hsp
  have I:Inv (eM CX P w K mg base N qual scope f cdv A outer s H E) [] (eY N vs) H s1:=j8 S hr.hd e0 hl r x
  refine wpAny_mono (ht [] s1 (eY N vs) H _ I hq) (fun fl s' hs=>?_) fun e s' hs=>hs
  have fin:∀ {σ':St} {H':Hp} {v:V} {u:Value},Inv (eM CX P w K mg base N qual scope f cdv A outer s H E) [] σ' H' s'→RelV v u→Q v H'→CE outer P w H s Q u s' :=
    fun {σ' H' v u} J rv q=>⟨v,H',J.os,J.bare,J.base,J.hok,rv,q⟩
  cases fl with
  | ret u =>
    obtain ⟨v,σ',H',J,rv,q⟩:=hs
    exact fin J rv q
  | next =>
    obtain ⟨σ',H',J,q⟩:=hs
    exact fin (v:=V.non) (u:=Value.none) J rfl q
  | brk =>
    obtain ⟨_,_,_,q⟩:=hs
    exact False.elim q
  | cont =>
    obtain ⟨_,_,_,q⟩:=hs
    exact False.elim q
end L2
namespace L2
open PySem PySem.Spec PyProof.Rows
section
variable {X:Cx} {x:Str} {p pos:Pos} {e:Expr} {es:List Expr} {t:TA} {id T:String} {r:List V→Hp→VK→Prop}
def tCB (r:List V→Hp→VK→Prop) (t:TA):TE:=fun σ H Q=>t σ H fun vs H1=>r vs H1 Q
theorem aB (hc:CallR X (.builtin id) r) (hg:Gl X x) (hm:X.mg x = none) (hv:bootBuiltins x = some (.builtin id)) (ha:PA X (e :: es) t) (hn:x ≠ "__name__" := by decide) (hdb:(x == ("__debug__" : Str)) = false:=by decide)
    (he:starEach (e :: es) X.env = (false,eval e X.env) :: starEach es X.env:=by rfl) (hpl:(backTo pos (starEach es X.env)).any (·.1) = false:=by rfl):PE X (.Call (.Name x p) (e :: es) [] pos) (tCB r t):=by
  intro pins s σ H Q I h
  refine wpAny_Call_Name_kw (jn I hg hm hv ?_ hn hdb)
  exact PyProof.Rows.callWith_builtin1 (thn (ha pos pins s σ H _ I h) fun us s1 ⟨vs,H1,I1,r1,q1⟩=>hc pins s1 σ H1 vs us Q I1 r1 q1) he hpl
theorem eK (hc:CallR X (.type T) r) (hg:Gl X x) (hm:X.mg x = none) (hv:bootBuiltins x = some (.type T)) (ha:PA X (e :: es) t) (hn:x ≠ "__name__" := by decide) (hdb:(x == ("__debug__" : Str)) = false:=by decide)
    (he:starEach (e :: es) X.env = (false,eval e X.env) :: starEach es X.env:=by rfl) (hpl:(backTo pos (starEach es X.env)).any (·.1) = false:=by rfl):PE X (.Call (.Name x p) (e :: es) [] pos) (tCB r t):=by
  intro pins s σ H Q I h
  refine wpAny_Call_Name_kw (jn I hg hm hv ?_ hn hdb)
  exact PyProof.Rows.callWith_type1 (thn (ha pos pins s σ H _ I h) fun us s1 ⟨vs,H1,I1,r1,q1⟩=>hc pins s1 σ H1 vs us Q I1 r1 q1) he hpl
end
end L2
namespace HT
open PySem PyProof.Rows
def lexLt:List Int→List Int→Bool
  | [],[]=>false
  | [],_ :: _=>true
  | _ :: _,[]=>false
  | x :: xs,y :: ys=>if x = y then lexLt xs ys else decide (x < y)
section
open PySem.SeqAt
open PySem.AutoSeq1 (wpAny_loadPart')
open PySem.MeetsSeq PySem.MeetsSeq2 PySem.MeetsSeq3
end
section
variable {prog:Program} {w:World} {A:Around} {E:Value→Shared→Prop} {s:Shared}
theorem cat_tup {t b:Addr} {vs ws:List Value} {Q:Value→Shared→Prop} (ht:IsTup s.heap t vs.toArray) (hb:IsTup s.heap b ws.toArray) (hv:vs≠[])
    (h1:ws = []→Q (.ref t) s) (h2:ws≠[]→Q (.ref s.heap.objs.size) { s with heap:=s.heap.push { cls:=.type "tuple",data:=.seq (vs ++ ws).toArray } })
    (hsz:vs.length + ws.length≤sizeLine):wpAny (model prog w) A (binaryOp .Add (.ref t) (.ref b)) Q E s:=by
  obtain ⟨⟨cls,dd,data,sl⟩,ho,hc,n,hd⟩:=id ht
  obtain ⟨⟨cls2,dd2,data2,sl2⟩,ho2,hc2,n2,hd2⟩:=id hb
  simp only at hc hd hc2 hd2
  subst hc hd hc2 hd2
  have e:vs.toArray ++ ws.toArray = (vs ++ ws).toArray:=by simp
  by_cases hw:ws = []
  · exact concat_meets ⟨_,ho,rfl⟩ ⟨_,ho2,rfl⟩ noFill_tuple_add seq_tuple_add PySem.F.slot_tuple_add PySem.F.entry_tuple_add (PySem.F.args_tuple_add_2 _ _)
      (tuple_addW1 t b vs.toArray ws.toArray n n2 dd dd2 sl sl2 (by simpa using hv) (by simp [hw])) ⟨ho,ho2,h1 hw⟩
  · refine concat_meets ⟨_,ho,rfl⟩ ⟨_,ho2,rfl⟩ noFill_tuple_add seq_tuple_add PySem.F.slot_tuple_add PySem.F.entry_tuple_add (PySem.F.args_tuple_add_2 _ _)
      (tuple_addW2 t b vs.toArray ws.toArray n n2 dd dd2 sl sl2 (by simpa using hv) (by simpa using hw) (by rw [List.size_toArray,List.size_toArray]; exact hsz)) ⟨ho,ho2,?_⟩
    rw [e]
    exact h2 hw
def sIx (n d:Nat):Option Int→Nat
  | none=>d
  | some v=>if v < 0 then (v + (n:Int)).toNat else min v.toNat n
theorem sIx_none (n d:Nat):sIx n d none = d:=rfl
theorem sIx_nat (n d k:Nat):sIx n d (some (k:Int)) = min k n:=by
  show (if (k:Int) < 0 then ((k:Int) + (n:Int)).toNat else min (k:Int).toNat n) = min k n
  rw [if_neg (by omega),Int.toNat_natCast]
theorem sIx_le (n d:Nat) (hd:d≤n) (o:Option Int):sIx n d o≤n:=by
  cases o with
  | none=>exact hd
  | some v =>
    show (if v < 0 then (v + (n:Int)).toNat else min v.toNat n)≤n
    by_cases hv:v < 0
    · rw [if_pos hv]; omega
    · rw [if_neg hv]; exact Nat.min_le_right _ _
theorem nZ (v:Int) (n d:Nat):(if v < 0 then max (v + (n:Int)) 0 else min v (n:Int)) = ((sIx n d (some v):Nat):Int):=by
  show (if v < 0 then max (v + (n:Int)) 0 else min v (n:Int)) = (((if v < 0 then (v + (n:Int)).toNat else min v.toNat n):Nat):Int)
  by_cases hv:v < 0
  · simp only [if_pos hv]; omega
  · simp only [if_neg hv]; omega
theorem mF (lo hi:Option Int) (n:Nat):Builtin.Slice.sliceAdjust lo hi 1 (n:Int) = (((sIx n 0 lo:Nat):Int),((sIx n n hi:Nat):Int)):=by
  have h1:¬ ((1:Int) < 0):=by omega
  unfold Builtin.Slice.sliceAdjust
  simp only [h1,if_false]
  refine Prod.ext ?_ ?_
  · cases lo with
    | none=>rfl
    | some v=>exact nZ v n 0
  · cases hi with
    | none=>rfl
    | some v=>exact nZ v n n
theorem mK (i j:Nat):Builtin.Slice.slicePlaces (i:Int) (j:Int) 1 = j - i:=by
  unfold Builtin.Slice.slicePlaces
  have h1:(1:Int) > 0:=by omega
  simp only [h1,if_true,Int.ediv_one]
  split <;> omega
theorem jv {v:Value} {o:Option Int} {Q:Option Int→Shared→Prop} (p:IsPart v o) (h:Q o s):wpAny (model prog w) A (Builtin.Slice.slicePartIndex v) Q E s:=by
  cases p with
  | none=>exact slicePart_none h
  | int i t=>exact slicePart_int h
theorem iF {sl:Addr} {vl vu:Value} {lo hi:Option Int} {n:Nat} {Q:Int×Int×Nat→Shared→Prop} (hs:s.heap.IsSliceOf sl vl vu .none) (pl:IsPart vl lo) (pu:IsPart vu hi)
    (h:Q (((sIx n 0 lo:Nat):Int),1,sIx n n hi - sIx n 0 lo) s):wpAny (model prog w) A (Builtin.Slice.sliceApplied (.ref sl) (pure (n:Int))) Q E s:=by
  obtain ⟨os,hos,hcs,hds⟩:=id hs
  unfold Builtin.Slice.sliceApplied Builtin.Slice.sliceFields
  refine wpAny_bind (wpAny_bind (wpAny_field hos hds (x:=vl) rfl (wpAny_bind (wpAny_field hos hds (x:=vu) rfl (wpAny_bind (wpAny_field hos hds (x:=.none) rfl (wpAny_pure ?_)))))))
  refine wpAny_bind (slicePart_none ?_)
  show wpAny _ _ (if ((1:Int) == 0) = true then _ else _) _ _ s
  rw [if_neg (by decide)]
  refine wpAny_bind (jv pl (wpAny_bind (jv pu (wpAny_bind (wpAny_pure ?_)))))
  show wpAny _ _ (match Builtin.Slice.sliceAdjust lo hi 1 (n:Int) with | (lo,hi)=>pure (lo,(1:Int),Builtin.Slice.slicePlaces lo hi 1)) _ _ s
  rw [mF lo hi n]
  show wpAny _ _ (pure (((sIx n 0 lo:Nat):Int),(1:Int),Builtin.Slice.slicePlaces ((sIx n 0 lo:Nat):Int) ((sIx n n hi:Nat):Int) 1)) _ _ s
  rw [mK]
  exact wpAny_pure h
theorem rP (xs:Array Value) (i k:Nat):((List.range k).filterMap fun (m:Nat)=>xs[((i:Int) + (m:Int) * 1).toNat]?).toArray = ((xs.toList.drop i).take k).toArray:=by
  have e:(fun (m:Nat)=>xs[((i:Int) + (m:Int) * 1).toNat]?) = fun m=>xs[i + m]?:=by
    funext m
    have:((i:Int) + (m:Int) * 1).toNat = i + m:=by omega
    rw [this]
  rw [e]
  have:=pick_run xs i k
  rw [List.filterMap_map] at this
  have e2:((fun x=>xs[x]?) ∘ fun x=>i + x) = fun m=>xs[i + m]?:=rfl
  rw [e2] at this
  rw [this]
theorem getItem_tuple_cut {t sl:Addr} {items:Array Value} {vl vu:Value} {lo hi:Option Int} {Q:Value→Shared→Prop} (ht:IsTup s.heap t items) (hs:s.heap.IsSliceOf sl vl vu .none) (pl:IsPart vl lo) (pu:IsPart vu hi)
    (hw:¬ (sIx items.size 0 lo = 0∧sIx items.size items.size hi = items.size))
    (h:Q (.ref s.heap.objs.size) { s with heap:=s.heap.push { cls:=.type "tuple",data:=.seq ((items.toList.drop (sIx items.size 0 lo)).take (sIx items.size items.size hi - sIx items.size 0 lo)).toArray } })
    (hsz:items.size≤sizeLine):wpAny (model prog w) A (getItem (.ref t) (.ref sl)) Q E s:=by
  have htake:sizeOk (.seq ((items.toList.drop (sIx items.size 0 lo)).take (sIx items.size items.size hi - sIx items.size 0 lo)).toArray):=by
    show ((items.toList.drop (sIx items.size 0 lo)).take (sIx items.size items.size hi - sIx items.size 0 lo)).toArray.size≤sizeLine
    rw [List.size_toArray,List.length_take,List.length_drop,Array.length_toList]
    omega
  have hj:sIx items.size items.size hi≤items.size:=sIx_le _ _ (Nat.le_refl _) hi
  obtain ⟨os,hos,hcs,hds⟩:=id hs
  have hTs:s.TypeIs (.ref sl) "slice" := ⟨os,hos,hcs⟩
  unfold getItem
  try with_reducible refine wpAny_holding ?_
  first | refine wpAny_bind (wpAny_pure ?_) | skip
  refine wpAny_bind (wpAny_sequenceKey ht.typeIs (by decide) ?_)
  refine wpAny_bind (wpAny_callSpecial?_slot (name:=Str.ofString "__getitem__") ht.typeIs PyProof.Rows.slot_tuple_getitem
    (wpAny_call_entry PyProof.Rows.slot_tuple_getitem ht.typeIs entry_tuple_getitem ?_ (args_tuple_getitem _ _)))
  show wpAny _ _ (Builtin.Tuple.tupleItemsOf (.ref t) >>= _) _ _ s
  refine wpAny_bind (tupleItemsOf_ ht ?_)
  refine wpAny_bind (wpAny_typeOf hTs ?_)
  rw [if_pos (by decide)]
  refine wpAny_bind (iF hs pl pu ?_)
  have hno:¬ ((((sIx items.size 0 lo:Nat):Int) == 0 && (1:Int) == 1 && (sIx items.size items.size hi - sIx items.size 0 lo) == items.size) = true):=by
    intro q
    rw [Bool.and_eq_true,Bool.and_eq_true] at q
    have q1:((sIx items.size 0 lo:Nat):Int) = 0:=eq_of_beq q.1.1
    have q2:sIx items.size items.size hi - sIx items.size 0 lo = items.size:=eq_of_beq q.2
    exact hw ⟨by omega,by omega⟩
  show wpAny _ _ (if (((sIx items.size 0 lo:Nat):Int) == 0 && (1:Int) == 1 && (sIx items.size items.size hi - sIx items.size 0 lo) == items.size) = true then _ else _) _ _ s
  rw [if_neg hno,rP]
  first
    | exact wpAny_bind (m:=Builtin.Tuple.tupleExact _) (wpAny_newObj_type (wpAny_pure ⟨_,rfl,wpAny_pure h⟩) htake)
    | exact wpAny_bind (m:=Builtin.Tuple.tupleExact _) (wpAny_newObj_type (wpAny_bind (wpAny_pure (wpAny_pure ⟨_,rfl,wpAny_pure h⟩))) htake)
    | exact wpAny_bind (wpAny_bind (m:=Builtin.Tuple.tupleExact _) (wpAny_newObj_type (wpAny_pure (wpAny_pure ⟨_,rfl,wpAny_pure h⟩)) htake))
    | exact wpAny_bind (wpAny_bind (m:=Builtin.Tuple.tupleExact _) (wpAny_newObj_type (wpAny_pure ⟨_,rfl,wpAny_pure h⟩) htake))
end
end HT
namespace L2
open PySem PySem.Spec PyProof.Rows
abbrev TO:=St→Hp→(Option Int→Hp→Prop)→Prop
def PO (X:Cx) (e:Option Expr) (t:TO):Prop :=
  ∀ (pins:List (Addr×Obj)) (s:Shared) (σ:St) (H:Hp) (Q:Option Int→Hp→Prop),Inv X pins σ H s→t σ H Q →
    wpAny (model X.prog X.w) X.A (evalPart e X.env) (fun u s'=>∃ o H',Inv X pins σ H' s'∧IsPart u o∧Q o H') X.xe s
def uk:TO:=fun _ H Q=>Q none H
def wT (t:TE):TO:=fun σ H Q=>t σ H fun x H1=>∃ i,x = .int i∧Q (some i) H1
section
variable {X:Cx} {e:Expr} {te:TE} {lo hi:Option Expr} {tl th:TO} {pos p2:Pos}
theorem gK:PO X none uk:=by
  intro pins s σ H Q I h
  rw [evalPart_none]
  exact wpAny_pure ⟨none,H,I,.none,h⟩
theorem e8 (h:PE X e te):PO X (some e) (wT te):=by
  intro pins s σ H Q I hw
  rw [evalPart_some]
  refine thn (h pins s σ H _ I hw) fun u s1 ⟨x,H1,I1,r1,q1⟩=>?_
  obtain ⟨i,rfl,q⟩:=q1
  obtain ⟨t,rfl⟩:=r1
  exact ⟨some i,H1,I1,.int i t,q⟩
def SlR (X:Cx) (r:V→Option Int→Option Int→Hp→VK→Prop):Prop :=
  ∀ (pins:List (Addr×Obj)) (s:Shared) (σ:St) (H:Hp) (x:V) (v vl vu:Value) (lo hi:Option Int) (sl:Addr) (Q:VK),Inv X pins σ H s→RelV x v→s.heap.IsSliceOf sl vl vu .none→IsPart vl lo→IsPart vu hi→r x lo hi H Q →
    ∃ T id,typeLookup (.type T) "__getitem__" = pure (some (.builtin id))∧s.TypeIs v T∧wpAny (model X.prog X.w) X.A (getItem v (.ref sl)) (EP X pins σ Q) X.xe s
theorem SlR.or {r r':V→Option Int→Option Int→Hp→VK→Prop} (h:SlR X r) (h':SlR X r'):SlR X (fun x lo hi H Q=>r x lo hi H Q∨r' x lo hi H Q):=by
  intro pins s σ H x v vl vu lo hi sl Q I rx hs pl pu q
  rcases q with q | q
  · exact h pins s σ H x v vl vu lo hi sl Q I rx hs pl pu q
  · exact h' pins s σ H x v vl vu lo hi sl Q I rx hs pl pu q
def tSl (r:V→Option Int→Option Int→Hp→VK→Prop) (te:TE) (tl th:TO):TE:=fun σ H Q=>te σ H fun x H1=>tl σ H1 fun l H2=>th σ H2 fun u H3=>r x l u H3 Q
theorem eO {r:V→Option Int→Option Int→Hp→VK→Prop} (hr:SlR X r) (he:PE X e te) (hl:PO X lo tl) (hu:PO X hi th):PE X (.Subscript e (.Slice lo hi none p2) pos) (tSl r te tl th):=by
  intro pins s σ H Q I h
  refine Subscript_ (thn (he pins s σ H _ I h) fun v s1 ⟨x,H1,I1,r1,q1⟩=>?_)
  refine wpAny_Slice (thn (hl pins s1 σ H1 _ I1 q1) fun vl s2 ⟨l,H2,I2,pl,q2⟩=>thn (hu pins s2 σ H2 _ I2 q2) fun vu s3 ⟨u,H3,I3,pu,q3⟩=>?_)
  rw [evalPart_none]
  refine wpAny_pure ?_
  have I4:Inv X pins σ H3 { s3 with heap:=s3.heap.push { cls:=.type "slice",data:=.fields #[vl,vu,.none] } }:=I3.kept (t':=s3.toks) fun b ob q=>Heap.get?_push_of_some _ q
  obtain ⟨T,id,hT,ht,hg⟩:=hr pins { s3 with heap:=s3.heap.push { cls:=.type "slice",data:=.fields #[vl,vu,.none] } } σ H3 x v vl vu l u s3.heap.objs.size Q I4 r1 (Heap.IsSliceOf.new ..) pl pu q3
  show wpAny (model X.prog X.w) X.A (subscriptTail e (.Slice lo hi none p2) v (.ref s3.heap.objs.size)) (EP X pins σ Q) X.xe { s3 with heap:=s3.heap.push { cls:=.type "slice",data:=.fields #[vl,vu,.none] } }
  exact tail_any (ops:=[.ref s3.heap.objs.size,v]) ht hT hg (by with_unfolding_all rfl)
def cY (xs:List V) (lo hi:Option Int):List V:=(xs.drop (HT.sIx xs.length 0 lo)).take (HT.sIx xs.length xs.length hi - HT.sIx xs.length 0 lo)
theorem fh (xs:List V) (lo hi:Option Int):(cY xs lo hi).length≤xs.length:=by
  unfold cY
  rw [List.length_take,List.length_drop]
  omega
def yM (K:PySem.W.Frag):V→Option Int→Option Int→Hp→VK→Prop:=fun x lo hi H Q=>∃ a xs,x = .ref a∧SqT K H a xs ∧
  ¬ (HT.sIx xs.length 0 lo = 0∧HT.sIx xs.length xs.length hi = xs.length)∧∀ p,H p = none→Q (.ref p) (upd H p (.tup (cY xs lo hi)))
theorem sl_tup:SlR X (yM X.K):=by
  intro pins s σ H x v vl vu lo hi sl Q I rx hs pl pu h
  obtain ⟨a,xs,rfl,hx,hw,q⟩:=h
  cases rx
  obtain ⟨its,r,ht,hz⟩:=I.tuple hx
  have hlen:its.toArray.size = xs.length:=by rw [List.size_toArray]; exact r.length.symm
  refine ⟨"tuple",_,PyProof.Rows.slot_tuple_getitem.lookup,ht.typeIs,?_⟩
  refine HT.getItem_tuple_cut ht hs pl pu (by rw [hlen]; exact hw) ?_ (by rw [hlen]; exact hz)
  rw [hlen]
  refine ⟨.ref s.heap.objs.size,_,I.laid (t':=s.toks) (o:=.tup (cY xs lo hi)) (fun b ob q=>Heap.get?_push_of_some _ q) (Nat.le_refl _) ?_,rfl,q _ (I.hok.fresh (Nat.le_refl _))⟩
  exact ⟨Nat.le_trans (fh xs lo hi) hz,_,(r.drop (HT.sIx xs.length 0 lo)).take (HT.sIx xs.length xs.length hi - HT.sIx xs.length 0 lo),IsTup.new _ _⟩
def Ag (K:PySem.W.Frag):R2:=fun x y H Q=>∃ a b ns ms,x = .ref a∧y = .ref b∧SqT K H a (ns.map V.int)∧SqT K H b (ms.map V.int)∧Q (.bl (HT.lexLt ns ms)) H
def rX (K:PySem.W.Frag):R2:=fun x y H Q=>∃ a b xs ys,x = .ref a∧y = .ref b∧SqT K H a xs∧SqT K H b ys∧xs≠[]∧xs.length + ys.length≤sizeLine ∧
  (ys = []→Q (.ref a) H)∧(ys≠[]→∀ p,H p = none→Q (.ref p) (upd H p (.tup (xs ++ ys))))
theorem Vals.nil_iff {xs:List V} {us:List Value} (r:Vals xs us):us = []↔xs = []:=by
  cases r with
  | nil=>simp
  | cons _ _=>simp
theorem ue:OpR X (binaryOp .Add) (rX X.K):=by
  intro pins s σ H x y v u Q I rx ry h
  obtain ⟨a,b,xs,ys,rfl,rfl,ha,hb,hx,hz,q1,q2⟩:=h
  cases rx
  cases ry
  obtain ⟨its,r1,p1,_⟩:=I.tuple ha
  obtain ⟨its2,r2,p2,_⟩:=I.tuple hb
  refine HT.cat_tup p1 p2 (fun z=>hx (r1.nil_iff.mp z)) (fun z=>⟨.ref a,H,I,rfl,q1 (r2.nil_iff.mp z)⟩) (fun z=>?_) (by rw [← r1.length,← r2.length]; exact hz)
  refine ⟨.ref s.heap.objs.size,_,I.laid (t':=s.toks) (o:=.tup (xs ++ ys)) (fun b ob q=>Heap.get?_push_of_some _ q) (Nat.le_refl _) ?_,rfl,q2 (fun w=>z (r2.nil_iff.mpr w)) _ (I.hok.fresh (Nat.le_refl _))⟩
  exact ⟨by rw [List.length_append]; exact hz,_,r1.append r2,IsTup.new _ _⟩
end
end L2
namespace L2
open PySem PySem.Spec PyProof.Rows
def ixN (n:Nat) (i:Int):Option Nat:=if 0≤i then (if i < n then some i.toNat else none) else if -(n:Int)≤i then some (i + n).toNat else none
def atI {α:Type} (xs:List α) (i:Int):Option α:=(ixN xs.length i).bind fun j=>xs[j]?
theorem nN {n:Nat} {i:Int} {j:Nat} (h:ixN n i = some j):seqIndex? i n = some j∧j < n∧-(n:Int)≤i∧i < n:=by
  unfold ixN at h
  by_cases h0:0≤i
  · rw [if_pos h0] at h
    by_cases h1:i < n
    · rw [if_pos h1] at h
      have e:i.toNat = j:=Option.some.inj h
      exact ⟨by rw [seqIndex_of h0 h1,e],by omega,by omega,h1⟩
    · rw [if_neg h1] at h; cases h
  · rw [if_neg h0] at h
    by_cases h1:-(n:Int)≤i
    · rw [if_pos h1] at h
      have e:(i + n).toNat = j:=Option.some.inj h
      exact ⟨by rw [seqIndex_neg (by omega) h1,e],by omega,h1,by omega⟩
    · rw [if_neg h1] at h; cases h
theorem jf {α:Type} {xs:List α} {i:Int} {v:α} (h:atI xs i = some v):∃ j,seqIndex? i xs.length = some j∧xs[j]? = some v∧j < xs.length∧-(xs.length:Int)≤i∧i < xs.length:=by
  unfold atI at h
  cases e:ixN xs.length i with
  | none=>rw [e] at h; cases h
  | some j =>
    rw [e] at h
    obtain ⟨h1,h2,h3,h4⟩:=nN e
    exact ⟨j,h1,h,h2,h3,h4⟩
theorem aH {α:Type} {xs:List α} {j:Nat} {v:α} (h:xs[j]? = some v):atI xs (j:Int) = some v:=by
  have hj:j < xs.length:=(List.getElem?_eq_some_iff.mp h).1
  have e:ixN xs.length (j:Int) = some j:=by
    unfold ixN
    rw [if_pos (by omega),if_pos (by omega)]; simp
  unfold atI; rw [e]; exact h
def ow (b:Expr):Prop:=∀ o i,subscripted b false o i = operate [o,i] (getItem o i)
def IxR (X:Cx) (r:R2):Prop :=
  ∀ (value slice:Expr) (pins:List (Addr×Obj)) (s:Shared) (σ:St) (H:Hp) (x y:V) (v u:Value) (Q:VK),Inv X pins σ H s→RelV x v→RelV y u→r x y H Q →
    subscripted slice false v u = operate [v,u] (getItem v u)→wpAny (model X.prog X.w) X.A (subscriptTail value slice v u) (EP X pins σ Q) X.xe s
def MtR (X:Cx) (id:String) (r:V→List V→Hp→VK→Prop):Prop :=
  ∀ (pins:List (Addr×Obj)) (s:Shared) (σ:St) (H:Hp) (x:V) (xs:List V) (v:Value) (us:List Value) (Q:VK),Inv X pins σ H s→RelV x v→Vals xs us→r x xs H Q →
    wpAny (model X.prog X.w) X.A (call (.builtin id) (v :: us)) (EP X pins σ Q) X.xe s
section
variable {X:Cx} {a b:Expr} {ta tb:TE} {pos:Pos}
theorem IxR.or {r r':R2} (h:IxR X r) (h':IxR X r'):IxR X (fun x y H Q=>r x y H Q∨r' x y H Q):=by
  intro value slice pins s σ H x y v u Q I rx ry q hs
  rcases q with q | q
  · exact h value slice pins s σ H x y v u Q I rx ry q hs
  · exact h' value slice pins s σ H x y v u Q I rx ry q hs
theorem aA {r:R2} (hr:IxR X r) (ha:PE X a ta) (hb:PE X b tb) (hs:ow b):PE X (.Subscript a b pos) (tOp r ta tb):=by
  intro pins s σ H Q I h
  exact Subscript_ (wr ha hb I h fun v u s2 x y H2 I2 rx ry q=>hr a b pins s2 σ H2 x y v u Q I2 rx ry q (hs _ _))
inductive rIxL (K:PySem.W.Frag) (x y:V) (H:Hp) (Q:VK):Prop
  | mk (p:Addr) (xs:List V) (i:Int) (v:V) (h0:x = .ref p) (h1:y = .int i) (h2:SqL K H p xs) (h3:atI xs i = some v) (h4:Q v H):rIxL K x y H Q
inductive rIxT (K:PySem.W.Frag) (x y:V) (H:Hp) (Q:VK):Prop
  | mk (p:Addr) (xs:List V) (i:Int) (v:V) (h0:x = .ref p) (h1:y = .int i) (h2:SqT K H p xs) (h3:atI xs i = some v) (h4:Q v H):rIxT K x y H Q
def w6:R2:=fun x y H Q=>∃ z i c,x = .str z∧y = .int i∧z.length≤sizeLine∧atI z.cps.toList i = some c∧Q (.str ⟨#[c]⟩) H
theorem ix_list:IxR X (rIxL X.K):=by
  intro value slice pins s σ H x y v u Q I rx ry h hs
  obtain ⟨p,xs,i,z,rfl,rfl,hq,he,q⟩:=h
  cases rx
  obtain ⟨t,rfl⟩:=ry
  obtain ⟨its,r,pl,hz⟩:=I.list hq
  obtain ⟨j,h1,h2,h3,h4,h5⟩:=jf he
  obtain ⟨w,ew,rw'⟩:=r.get h2
  have hl:=r.length
  have hn:=gj
  have fin:EP X pins σ Q w s:=⟨z,H,I,rw',q⟩
  by_cases h0:0≤i
  · have hj:i.toNat = j:=by
      rw [seqIndex_of h0 h5] at h1
      exact Option.some.inj h1
    exact item_listR pl.isList h0 (by omega) (by rw [hj]; simpa using ew) fin hs
  · have hj:(i + (its.toArray.size:Int)).toNat = j:=by
      rw [seqIndex_neg (by omega) h4] at h1
      rw [List.size_toArray,← hl]
      exact Option.some.inj h1
    exact subscriptTail_builtinR (x:=w) pl.isList.typeIs slot_list_getitem.lookup
      (wpAny_getItem_list_neg (Q:=fun r s'=>r = w∧EP X pins σ Q r s') pl.isList (by omega) (by rw [List.size_toArray] <;> omega) (by omega) (by rw [hj]; simpa using ew) ⟨rfl,fin⟩) hs
theorem ix_tup:IxR X (rIxT X.K):=by
  intro value slice pins s σ H x y v u Q I rx ry h hs
  obtain ⟨p,xs,i,z,rfl,rfl,hq,he,q⟩:=h
  cases rx
  obtain ⟨t,rfl⟩:=ry
  obtain ⟨its,r,pl,hz⟩:=I.tuple hq
  obtain ⟨j,h1,h2,h3,h4,h5⟩:=jf he
  obtain ⟨w,ew,rw'⟩:=r.get h2
  have hl:=r.length
  have hn:=gj
  have fin:EP X pins σ Q w s:=⟨z,H,I,rw',q⟩
  exact subscriptTail_builtinR (x:=w) pl.typeIs slot_tuple_getitem.lookup
    (getItem_tuple (j:=j) (Q:=fun r s'=>r = w∧EP X pins σ Q r s') pl (by omega) (by omega) (by rw [List.size_toArray,← hl]; exact h1) (by simpa using ew) ⟨rfl,fin⟩) hs
theorem vS:IxR X w6:=by
  intro value slice pins s σ H x y v u Q I rx ry h hs
  obtain ⟨z,i,c,rfl,rfl,hz,he,q⟩:=h
  obtain ⟨t,rfl⟩:=rx
  obtain ⟨t',rfl⟩:=ry
  obtain ⟨j,h1,h2,h3,h4,h5⟩:=jf he
  have hl:z.cps.toList.length = z.length:=by simp [Str.length]
  rw [hl] at h1 h4 h5
  have hn:=gj
  exact tail_any (typeIs_str s z t) slot_str_getitem.lookup (getItem_str (c:=c) (by
    have e1:decide (i < -(2 ^ 63:Int)) = false:=decide_eq_false (by omega)
    have e2:decide (i ≥ 2 ^ 63) = false:=decide_eq_false (by omega)
    rw [e1,e2,Bool.or_false]) (by rw [h1]; simpa using h2) ⟨.str ⟨#[c]⟩,H,I.tok _,⟨_,rfl⟩,q⟩) hs
def rIx (K:PySem.W.Frag):R2:=fun x y H Q=>rIxL K x y H Q∨rIxT K x y H Q∨w6 x y H Q
theorem au:IxR X (rIx X.K):=ix_list.or (ix_tup.or vS)
theorem mW (its:List Value) (n j:Nat) (u:Value):Obj.mapSeq (·.setIfInBounds j u) { cls:=.type "list",data:=.seq its.toArray n } = { cls:=.type "list",data:=.seq (its.set j u).toArray n }:=by
  simp [Obj.mapSeq]
theorem Inv.lst {pins:List (Addr×Obj)} {σ:St} {H:Hp} {s:Shared} {p:Addr} {xs:List V} (I:Inv X pins σ H s) (h:H p = some (.lst xs)) :
    ∃ (its:List Value) (n:Nat),Vals xs its∧s.heap.get? p = some { cls:=.type "list",data:=.seq its.toArray n }∧xs.length≤sizeLine:=by
  obtain ⟨z,its,n,r,e⟩:=I.hok p _ h
  exact ⟨its,n,r,e,z⟩
theorem Inv.lstUpd {pins:List (Addr×Obj)} {σ:St} {H:Hp} {s:Shared} {p:Addr} {xs ys:List V} {its its':List Value} {n n':Nat} {f:Obj→Obj} (I:Inv X pins σ H s) (h:H p = some (.lst xs))
    (ho:s.heap.get? p = some { cls:=.type "list",data:=.seq its.toArray n }) (hf:f { cls:=.type "list",data:=.seq its.toArray n } = { cls:=.type "list",data:=.seq its'.toArray n' }) (r:Vals ys its') (hz:ys.length≤sizeLine) (t:Nat) :
    Inv X pins σ (upd H p (.lst ys)) { s with heap:=s.heap.update p f,toks:=t }:=by
  have e:(s.heap.update p f).get? p = some { cls:=.type "list",data:=.seq its'.toArray n' }:=by
    rw [Heap.get?_update_self f ho (by rw [hf] <;> rfl),hf]
  refine I.write (x:=p) (e:=p) (by rw [h]; trivial) (.inl rfl) (fun b u hb q=>(Heap.get?_update_other _ _ (Ne.symm hb)).trans q) ⟨_,e⟩ ?_
  exact ⟨hz,its',n',r,e⟩
def ya:V→V→V→Hp→(Hp→Prop)→Prop:=fun o i v H Q=>∃ p xs k j,o = .ref p∧i = .int k∧H p = some (.lst xs)∧ixN xs.length k = some j∧Q (upd H p (.lst (xs.set j v)))
theorem me:v8 X ya:=by
  intro pins s σ H o i v ov iv u Q I ro ri rv h
  obtain ⟨p,xs,k,j,rfl,rfl,hp,hj,q⟩:=h
  cases ro
  obtain ⟨t,rfl⟩:=ri
  obtain ⟨its,n,r,ho,hz⟩:=I.lst hp
  obtain ⟨h1,h2,h3,h4⟩:=nN hj
  have hl:=r.length
  have hn:=gj
  have I':Inv X pins σ (upd H p (.lst (xs.set j v))) { s with heap:=s.heap.update p (Obj.mapSeq (·.setIfInBounds j u)) } :=
    I.lstUpd hp ho (mW its n j u) (r.set rv j) (by rw [List.length_set]; exact hz) s.toks
  by_cases h0:0≤k
  · have hk:k.toNat = j:=by
      rw [seqIndex_of h0 h4] at h1
      exact Option.some.inj h1
    exact PySem.W.ki_setAt ho h0 (by omega) (by rw [List.size_toArray,← hl]; exact h4) (by rw [hk]; exact ⟨_,I',q⟩)
  · have hk:(k + (its.toArray.size:Int)).toNat = j:=by
      rw [seqIndex_neg (by omega) h3] at h1
      rw [List.size_toArray,← hl]
      exact Option.some.inj h1
    exact PySem.W.ki_setBack ho (by omega) (by rw [List.size_toArray,← hl]; exact h3) (by omega) (by rw [hk]; exact ⟨_,I',q⟩)
theorem kP (lo hi:Option Int) (n:Nat):(sliceBounds lo hi none n).1 = ((HT.sIx n 0 lo:Nat):Int)∧(sliceBounds lo hi none n).2.1 = ((HT.sIx n n hi:Nat):Int)∧(sliceBounds lo hi none n).2.2 = 1:=by
  refine ⟨?_,?_,rfl⟩
  · cases lo with
    | none=>simp [sliceBounds,HT.sIx]
    | some i =>
      simp only [sliceBounds,HT.sIx,Option.getD_none,show (1:Int) > 0 by decide,if_true]
      by_cases h:i < 0
      · simp only [h,if_true] <;> omega
      · simp only [h,if_false] <;> omega
  · cases hi with
    | none=>simp [sliceBounds,HT.sIx]
    | some i =>
      simp only [sliceBounds,HT.sIx,Option.getD_none,show (1:Int) > 0 by decide,if_true]
      by_cases h:i < 0
      · simp only [h,if_true] <;> omega
      · simp only [h,if_false] <;> omega
theorem jL (its:List Value) (lo hi:Option Int):slicePick its.toArray lo hi none = ((its.drop (HT.sIx its.length 0 lo)).take (HT.sIx its.length its.length hi - HT.sIx its.length 0 lo)).toArray:=by
  obtain ⟨h1,h2,h3⟩:=kP lo hi its.toArray.size
  unfold slicePick
  rw [h1,h2,h3]
  simp only [sliceRange_one,pick_run,List.size_toArray] <;> rfl
def zA (K:PySem.W.Frag):V→Option Int→Option Int→Hp→VK→Prop:=fun x lo hi H Q=>∃ a xs,x = .ref a∧SqL K H a xs∧∀ p,H p = none→Q (.ref p) (upd H p (.lst (cY xs lo hi)))
theorem sl_list:SlR X (zA X.K):=by
  intro pins s σ H x v vl vu lo hi sl Q I rx hs pl pu h
  obtain ⟨a,xs,rfl,hx,q⟩:=h
  cases rx
  obtain ⟨its,r,ht,hz⟩:=I.list hx
  have hlen:=r.length
  refine ⟨"list",_,slot_list_getitem.lookup,ht.isList.typeIs,?_⟩
  refine wpAny_getItem_list_slice ht.isList hs pl pu .none (by simp) ?_ (by rw [List.size_toArray] <;> omega)
  rw [jL,← hlen]
  refine ⟨.ref s.heap.objs.size,_,I.laid (t':=s.toks) (o:=.lst (cY xs lo hi)) (fun b ob q=>Heap.get?_push_of_some _ q) (Nat.le_refl _) ?_,rfl,q _ (I.hok.fresh (Nat.le_refl _))⟩
  exact ⟨Nat.le_trans (fh xs lo hi) hz,_,0,(r.drop (HT.sIx xs.length 0 lo)).take (HT.sIx xs.length xs.length hi - HT.sIx xs.length 0 lo),Heap.get?_push_size _ rfl⟩
def gZ:V→Bool
  | .non=>true
  | .bl _=>true
  | .int _=>true
  | .str _=>true
  | _=>false
def eqV:V→V→Bool
  | .non,.non=>true
  | .bl a,.bl b=>a == b
  | .bl a,.int b=>(if a then 1 else 0) == b
  | .int a,.bl b=>a == (if b then 1 else 0)
  | .int a,.int b=>a == b
  | .str a,.str b=>a == b
  | _,_=>false
theorem vU {A:Around} {s:Shared} {y x:V} {u v:Value} (ry:RelV y u) (rx:RelV x v) (fy:gZ y = true) (fx:gZ x = true):SeqAt.EqAt A s u v (eqV y x):=by
  cases y with
  | non =>
    cases ry
    cases x with
    | non=>cases rx; exact SeqAt.EqAt.same _
    | bl b=>cases rx; exact SeqAt.EqAt.none_bool b
    | int b=>obtain ⟨t,rfl⟩:=rx; exact SeqAt.EqAt.none_int b t
    | str b=>obtain ⟨t,rfl⟩:=rx; exact SeqAt.EqAt.none_str b t
    | _=>exact absurd (show false = true from fx) Bool.false_ne_true
  | bl a =>
    cases ry
    cases x with
    | non=>cases rx; exact SeqAt.EqAt.bool_none a
    | bl b=>cases rx; exact SeqAt.EqAt.bool_bool a b
    | int b=>obtain ⟨t,rfl⟩:=rx; exact SeqAt.EqAt.bool_int a b t
    | str b=>obtain ⟨t,rfl⟩:=rx; exact SeqAt.EqAt.bool_str a b t
    | _=>exact absurd (show false = true from fx) Bool.false_ne_true
  | int a =>
    obtain ⟨t',rfl⟩:=ry
    cases x with
    | non=>cases rx; exact SeqAt.EqAt.int_none a t'
    | bl b=>cases rx; exact SeqAt.EqAt.int_bool a t' b
    | int b=>obtain ⟨t,rfl⟩:=rx; exact SeqAt.EqAt.int_int a t' b t
    | str b=>obtain ⟨t,rfl⟩:=rx; exact SeqAt.EqAt.int_str a t' b t
    | _=>exact absurd (show false = true from fx) Bool.false_ne_true
  | str a =>
    obtain ⟨t',rfl⟩:=ry
    cases x with
    | non=>cases rx; exact SeqAt.EqAt.str_none a t'
    | bl b=>cases rx; exact SeqAt.EqAt.str_bool a t' b
    | int b=>obtain ⟨t,rfl⟩:=rx; exact SeqAt.EqAt.str_int a t' b t
    | str b=>obtain ⟨t,rfl⟩:=rx; exact SeqAt.EqAt.str_str a t' b t
    | _=>exact absurd (show false = true from fx) Bool.false_ne_true
  | _=>exact absurd (show false = true from fy) Bool.false_ne_true
def eqU (x:V) (u:Value):Bool:=match u with
  | .none=>eqV .non x
  | .bool b=>eqV (.bl b) x
  | .int i _=>eqV (.int i) x
  | .str z _=>eqV (.str z) x
  | _=>false
theorem rS {x y:V} {u:Value} (r:RelV y u) (f:gZ y = true):eqU x u = eqV y x:=by
  cases y with
  | non=>cases r; rfl
  | bl b=>cases r; rfl
  | int i=>obtain ⟨t,rfl⟩:=r; rfl
  | str z=>obtain ⟨t,rfl⟩:=r; rfl
  | _=>exact absurd (show false = true from f) Bool.false_ne_true
theorem ik {x:V}:∀ {xs:List V} {us:List Value},Vals xs us→xs.all gZ = true→us.any (eqU x) = xs.any fun y=>eqV y x
  | _,_,.nil,_=>rfl
  | y :: xs,u :: us,.cons r t,f=>by
    rw [List.all_cons,Bool.and_eq_true] at f
    rw [List.any_cons,List.any_cons,rS r f.1,ik t f.2]
theorem gq {A:Around} {s:Shared} {x:V} {v:Value} (rx:RelV x v) (fx:gZ x = true):∀ {xs:List V} {us:List Value},Vals xs us→xs.all gZ = true→∀ u ∈ us,SeqAt.EqAt A s u v (eqU x u)
  | _,_,.nil,_=>fun u hu=>by cases hu
  | y :: xs,u :: us,.cons r t,f=>fun u' hu=>by
    rw [List.all_cons,Bool.and_eq_true] at f
    rcases List.mem_cons.mp hu with rfl | hu
    · rw [rS r f.1]; exact vU r rx f.1 fx
    · exact gq rx fx t f.2 u' hu
def inV (x:V) (xs:List V):Bool:=xs.any fun y=>eqV y x
inductive rIn (K:PySem.W.Frag) (neg:Bool) (x y:V) (H:Hp) (Q:VK):Prop
  | mk (p:Addr) (xs:List V) (h0:y = .ref p) (h1:SqL K H p xs∨SqT K H p xs) (h2:gZ x = true) (h3:xs.all gZ = true) (h4:Q (.bl (if neg then !inV x xs else inV x xs)) H):rIn K neg x y H Q
theorem pf:OpR X (compareOp .In) (rIn X.K false):=by
  intro pins s σ H x y v u Q I rx ry h
  obtain ⟨p,xs,rfl,hq,fx,fs,q⟩:=h
  cases ry
  rcases hq with hq | hq
  · obtain ⟨its,r,pl,hz⟩:=I.list hq
    refine SeqAt.in_listAt (eqU x) pl.isList (fun w hw=>gq rx fx r fs w (by simpa using hw)) ⟨.bl _,H,I,rfl,?_⟩
    rw [show its.toArray.any (eqU x) = its.any (eqU x) by simp,ik r fs]
    exact q
  · obtain ⟨its,r,pl,hz⟩:=I.tuple hq
    refine SeqAt.in_tupleAt (eqU x) pl (fun w hw=>gq rx fx r fs w (by simpa using hw)) ⟨.bl _,H,I,rfl,?_⟩
    rw [show its.toArray.any (eqU x) = its.any (eqU x) by simp,ik r fs]
    exact q
theorem kK:OpR X (compareOp .NotIn) (rIn X.K true):=by
  intro pins s σ H x y v u Q I rx ry h
  obtain ⟨p,xs,rfl,hq,fx,fs,q⟩:=h
  cases ry
  rcases hq with hq | hq
  · obtain ⟨its,r,pl,hz⟩:=I.list hq
    refine SeqAt.notIn_listAt (eqU x) pl.isList (fun w hw=>gq rx fx r fs w (by simpa using hw)) ⟨.bl _,H,I,rfl,?_⟩
    rw [show its.toArray.any (eqU x) = its.any (eqU x) by simp,ik r fs]
    exact q
  · obtain ⟨its,r,pl,hz⟩:=I.tuple hq
    refine SeqAt.notIn_tupleAt (eqU x) pl (fun w hw=>gq rx fx r fs w (by simpa using hw)) ⟨.bl _,H,I,rfl,?_⟩
    rw [show its.toArray.any (eqU x) = its.any (eqU x) by simp,ik r fs]
    exact q
theorem kO:CallR X (.builtin "len") (fun xs H Q=>∃ p ys,xs = [.ref p]∧(SqL X.K H p ys∨SqT X.K H p ys)∧Q (.int ys.length) H):=by
  intro pins s σ H xs us Q I r h
  obtain ⟨p,ys,rfl,hq,q⟩:=h
  obtain ⟨u,rfl,rx⟩:=iu r
  cases rx
  have hn:=gj
  rcases hq with hq | hq
  · obtain ⟨its,r',pl,hz⟩:=I.list hq
    have hlen:=r'.length
    exact Calls.call_len_list pl.isList (by simp only [List.size_toArray] <;> omega) ⟨.int ys.length,H,I.tok _,⟨s.toks + 1,by rw [List.size_toArray,hlen]⟩,q⟩
  · obtain ⟨its,r',pl,hz⟩:=I.tuple hq
    have hlen:=r'.length
    exact len_tuple pl (by simp only [List.size_toArray] <;> omega) ⟨.int ys.length,H,I.tok _,⟨s.toks + 1,by rw [List.size_toArray,hlen]⟩,q⟩
theorem call_len_str:CallR X (.builtin "len") (fun xs H Q=>∃ z,xs = [.str z]∧z.length≤sizeLine∧Q (.int z.length) H):=by
  intro pins s σ H xs us Q I r h
  obtain ⟨z,rfl,hz,q⟩:=h
  obtain ⟨u,rfl,t,rfl⟩:=iu r
  have hn:=gj
  exact len_str (by omega) ⟨.int z.length,H,I.tok _,⟨_,rfl⟩,q⟩
theorem CallR.or {f:Value} {r r':List V→Hp→VK→Prop} (h:CallR X f r) (h':CallR X f r'):CallR X f (fun xs H Q=>r xs H Q∨r' xs H Q):=by
  intro pins s σ H xs us Q I rs q
  rcases q with q | q
  · exact h pins s σ H xs us Q I rs q
  · exact h' pins s σ H xs us Q I rs q
inductive rListOf (K:PySem.W.Frag) (xs:List V) (H:Hp) (Q:VK):Prop
  | mk (p:Addr) (ys:List V) (h0:xs = [.ref p]) (h1:SqL K H p ys∨SqT K H p ys) (h2:∀ l,H l = none→Q (.ref l) (upd H l (.lst ys))):rListOf K xs H Q
theorem fS:CallR X (.type "list") (rListOf X.K):=by
  intro pins s σ H xs us Q I r h
  obtain ⟨p,ys,rfl,hq,q⟩:=h
  obtain ⟨u,rfl,rx⟩:=iu r
  cases rx
  have fin:∀ (its:List Value),Vals ys its→ys.length≤sizeLine→∀ (h':Heap) (c':Nat),(∀ b o',s.heap.get? b = some o'→h'.get? b = some o') →
      h'.get? s.heap.objs.size = some { cls:=.type "list",dict:=none,data:=.seq its.toArray c',slots:=#[] }→EP X pins σ Q (.ref s.heap.objs.size) { s with heap:=h' }:=fun its r' hz h' c' kp e =>
    ⟨.ref s.heap.objs.size,_,I.laid (t':=s.toks) kp (Nat.le_refl _) (show ObjOk X.prog X.w _ h' _ (.lst ys) from ⟨hz,its,c',r',e⟩),rfl,q _ (I.hok.fresh (Nat.le_refl _))⟩
  rcases hq with hq | hq
  · obtain ⟨its,r',pl,hz⟩:=I.list hq
    have hlen:=r'.length
    obtain ⟨o,ho,hc,n,hd⟩:=pl.isList
    exact call_list_seq p (.inl rfl) ho hc hd (fun h' c' kp e=>fin its r' hz h' c' kp e) (by simp only [List.size_toArray] <;> omega)
  · obtain ⟨its,r',pl,hz⟩:=I.tuple hq
    have hlen:=r'.length
    obtain ⟨o,ho,hc,n,hd⟩:=pl
    exact call_list_seq p (.inr rfl) ho hc hd (fun h' c' kp e=>fin its r' hz h' c' kp e) (by simp only [List.size_toArray] <;> omega)
theorem gR:CallR X (.type "tuple") (fun xs H Q=>∃ p ys,xs = [.ref p]∧((SqL X.K H p ys∧∀ l,H l = none→Q (.ref l) (upd H l (.tup ys)))∨(SqT X.K H p ys∧Q (.ref p) H))):=by
  intro pins s σ H xs us Q I r h
  obtain ⟨p,ys,rfl,h⟩:=h
  obtain ⟨u,rfl,rx⟩:=iu r
  cases rx
  rcases h with ⟨hq,q⟩ | ⟨hq,q⟩
  · obtain ⟨its,r',pl,hz⟩:=I.list hq
    have hlen:=r'.length
    refine call_tuple_list pl.isList (fun h' kp=>?_) (by simp only [List.size_toArray] <;> omega)
    have I1:Inv X pins σ H { s with heap:=h' }:=I.kept (t':=s.toks) kp
    have I2:Inv X pins σ (upd H h'.objs.size (.tup ys)) { s with heap:=h'.push { cls:=.type "tuple",data:=.seq its.toArray } } :=
      I1.laid (t':=s.toks) (fun b o e=>Heap.get?_push_of_some _ e) (Nat.le_refl _) (show ObjOk X.prog X.w _ _ _ (.tup ys) from ⟨hz,its,r',IsTup.new _ _⟩)
    exact ⟨.ref h'.objs.size,_,I2,rfl,q _ (I1.hok.fresh (Nat.le_refl _))⟩
  · obtain ⟨its,r',pl,hz⟩:=I.tuple hq
    exact call_tuple_same pl ⟨.ref p,H,I,rfl,q⟩
def tyV (K:PySem.W.Frag) (T:String) (x:V) (H:Hp):Prop:=match x with
  | .str _=>T = "str"
  | .int _=>T = "int"
  | .ref p=>(T = "list" ∧ ∃ xs,SqL K H p xs)∨(T = "tuple" ∧ ∃ o,K.lookup p = some o∧o.cls = .type "tuple" ∧ o.dict = none) ∨
      (T = "dict" ∧ ((∃ kvs,H p = some (.dK kvs))∨∃ kvs,H p = some (.dT kvs)))∨(T = "set" ∧ ∃ S n,H p = some (.set S n))
  | _=>False
theorem qW {pins:List (Addr×Obj)} {σ:St} {H:Hp} {s:Shared} {T:String} {x:V} {v:Value} (I:Inv X pins σ H s) (r:RelV x v) (ty:tyV X.K T x H) :
    s.TypeIs v T∧∀ a,v = .ref a→∃ ob,s.heap.get? a = some ob∧ob.dict = none:=by
  cases x with
  | str z =>
    obtain ⟨t,rfl⟩:=r
    cases (show T = "str" from ty)
    exact ⟨typeIs_str s z t,fun _ e=>nomatch e⟩
  | int i =>
    obtain ⟨t,rfl⟩:=r
    cases (show T = "int" from ty)
    exact ⟨typeIs_int s i t,fun _ e=>nomatch e⟩
  | ref p =>
    cases r
    rcases ty with ⟨rfl,xs,hq⟩ | ⟨rfl,o,hk,hc,hd⟩ | ⟨rfl,hk⟩ | ⟨rfl,S,n,hk⟩
    · obtain ⟨its,_,pl,_⟩:=I.list hq
      refine ⟨pl.isList.typeIs,fun a e=>?_⟩
      cases e
      obtain ⟨o,n,e,c,hd,_⟩:=pl
      exact ⟨o,e,hd⟩
    · refine ⟨⟨o,I.kIn p o hk,hc⟩,fun a e=>?_⟩
      cases e
      exact ⟨o,I.kIn _ o hk,hd⟩
    · have z:∃ o,s.heap.get? p = some o∧o.ExactDict:=by
        rcases hk with ⟨kvs,hk⟩ | ⟨kvs,hk⟩
        · obtain ⟨_,_,_,_,o,_,_,e,ex,_⟩:=I.hok p _ hk
          exact ⟨o,e,ex⟩
        · obtain ⟨_,_,_,_,o,_,_,e,ex,_⟩:=I.hok p _ hk
          exact ⟨o,e,ex⟩
      obtain ⟨o,e,ex⟩:=z
      refine ⟨⟨o,e,ex.1⟩,fun a e2=>?_⟩
      cases e2
      exact ⟨o,e,ex.2.1⟩
    · obtain ⟨o,_,_,_,e,ex,_⟩:=I.hok p _ hk
      refine ⟨⟨o,e,ex.1⟩,fun a e2=>?_⟩
      cases e2
      exact ⟨o,e,ex.2.1⟩
  | _=>exact False.elim ty
def xG (K:PySem.W.Frag) (T:String) (r:V→List V→Hp→VK→Prop) (to:TE):TE:=fun σ H Q=>to σ H fun x H1=>tyV K T x H1∧r x [] H1 Q
def tBM (K:PySem.W.Frag) (T:String) (r:V→List V→Hp→VK→Prop) (to:TE) (t:TA):TE:=fun σ H Q=>to σ H fun x H1=>tyV K T x H1∧t σ H1 fun xs H2=>r x xs H2 Q
variable {o e:Expr} {es:List Expr} {to:TE} {t:TA} {name:Str} {apos cpos:Pos} {T id:String} {r:V→List V→Hp→VK→Prop}
theorem wj (pa:PlainAttrs T) (slot:Slot T name id) (hty:typeOf (.builtin id) = pure (.type "method_descriptor")) (hm:MtR X id r) (ho:PE X o to)
    (hbase:attributeBase o name X.env (eval o X.env) = eval o X.env:=by rfl) (hline:(apos.endLine == cpos.line) = true:=by rfl):PE X (.Call (.Attribute o name apos) [] [] cpos) (xG X.K T r to):=by
  intro pins s σ H Q I h
  refine wpAny_Call_method0_late hbase hline (thn (ho pins s σ H _ I h) fun v s1 ⟨x,H1,I1,r1,ty,q1⟩=>?_)
  obtain ⟨h1,h2⟩:=qW I1 r1 ty
  exact ⟨T,id,pa,slot,hty,h1,h2,Calls.callWith_builtin rfl (PySem.evalArgs_none (hm pins s1 σ H1 x [] v [] Q I1 r1 .nil q1))⟩
theorem lC (pa:PlainAttrs T) (slot:Slot T name id) (hty:typeOf (.builtin id) = pure (.type "method_descriptor")) (hm:MtR X id r) (ho:PE X o to) (ha:PA X (e :: es) t)
    (hbase:attributeBase o name X.env (eval o X.env) = eval o X.env:=by rfl)
    (hfew:((backTo cpos (starEach (e :: es) X.env)).all (fun x=>!x.1) && (backToKw cpos (keywordEach [] X.env)).all (fun x=>x.1.isSome)
      && decide ((e :: es).length + ([]:List Keyword).length + (if ([]:List Keyword).isEmpty then 0 else 1) < 30)) = true:=by rfl)
    (hline:(apos.endLine == cpos.line) = true:=by rfl) (hs:starEach (e :: es) X.env = (false,eval e X.env) :: starEach es X.env:=by rfl) (hplain:(backTo cpos (starEach es X.env)).any (·.1) = false:=by rfl) :
    PE X (.Call (.Attribute o name apos) (e :: es) [] cpos) (tBM X.K T r to t):=by
  intro pins s σ H Q I h
  refine wpAny_Call_method_late hbase hfew hline rfl (thn (ho pins s σ H _ I h) fun v s1 ⟨x,H1,I1,r1,ty,q1⟩=>?_)
  obtain ⟨h1,h2⟩:=qW I1 r1 ty
  refine ⟨T,id,pa,slot,hty,h1,h2,?_⟩
  have hA:=ha cpos pins s1 σ H1 _ I1 q1
  rw [hs] at hA ⊢
  refine Calls.callWith_builtin (by show (false || (backTo cpos (starEach es X.env)).any (·.1)) = false; rw [hplain] <;> rfl) (Calls.evalArgs_plain ?_)
  exact thn hA fun us s2 ⟨vs,H2,I2,r2,q2⟩=>hm pins s2 σ H2 x vs v us Q I2 r1 r2 q2
end
end L2
namespace L2
open PySem PySem.Spec PyProof.Rows
def MtM (X:Cx) (id:String) (r:V→List V→Hp→VK→Prop):Prop :=
  ∀ (pins:List (Addr×Obj)) (s:Shared) (σ:St) (H:Hp) (x:V) (xs:List V) (v:Value) (us:List Value) (Q:VK),Inv X pins σ H s→RelV x v→Vals xs us→r x xs H Q →
    wpAny (model X.prog X.w) X.A (call (.builtin id) (v :: us)) (EP X pins σ Q) X.xe s
theorem Vals.one:∀ {x:V} {us:List Value},Vals [x] us→∃ u,us = [u]∧RelV x u
  | _,_,.cons r .nil=>⟨_,rfl,r⟩
theorem Vals.rep {xs:List V} {us:List Value} (h:Vals xs us):∀ k:Nat,Vals (List.replicate k xs).flatten (List.replicate k us).flatten
  | 0=>.nil
  | k + 1=>by
    rw [List.replicate_succ,List.replicate_succ,List.flatten_cons,List.flatten_cons]
    exact Vals.append h (Vals.rep h k)
theorem jW (its:List Value):∀ (k:Nat) (acc:List Value),
    List.foldl (fun x1 x2=>x1 ++ x2) acc.toArray (List.replicate k its.toArray) = (acc ++ (List.replicate k its).flatten).toArray
  | 0,acc=>by simp
  | k + 1,acc=>by
    have e:acc.toArray ++ its.toArray = (acc ++ its).toArray:=by simp
    have e2:(acc ++ its) ++ (List.replicate k its).flatten = acc ++ (List.replicate (k + 1) its).flatten:=by
      rw [List.replicate_succ,List.flatten_cons,List.append_assoc]
    rw [← e2,← jW its k (acc ++ its),← e,List.replicate_succ,List.foldl_cons]
section
variable {X:Cx} {pins:List (Addr×Obj)} {σ:St} {H:Hp} {s:Shared} {l b:Addr} {xs ys zs:List V}
theorem Inv.lset {its its':List Value} {n:Nat} {f:Array Value→Array Value} {t':Nat} (I:Inv X pins σ H s) (hH:H l = some (.lst xs))
    (e:s.heap.get? l = some { cls:=.type "list",data:=.seq its.toArray n }) (hf:f its.toArray = its'.toArray) (hv:Vals ys its') (hz:ys.length≤sizeLine) :
    Inv X pins σ (upd H l (.lst ys)) { s with heap:=s.heap.update l (Obj.mapSeq f),toks:=t' }:=by
  have q:=PySem.IsL.update e f
  rw [hf] at q
  refine I.write (x:=l) (e:=l) (by rw [hH]; exact trivial) (.inl rfl) (fun b' u hb hu=>(Heap.get?_update_other s.heap (Obj.mapSeq f) (Ne.symm hb)).trans hu) ⟨_,q⟩ ?_
  exact ⟨hz,its',_,hv,q⟩
theorem Inv.lnew {its:List Value} {t':Nat} (I:Inv X pins σ H s) (hv:Vals ys its) (hz:ys.length≤sizeLine) :
    Inv X pins σ (upd H s.heap.objs.size (.lst ys)) { s with heap:=s.heap.push { cls:=.type "list",data:=.seq its.toArray },toks:=t' } :=
  I.laid (fun _ _ q=>Heap.get?_push_of_some _ q) (Nat.le_refl _) ⟨hz,its,0,hv,Heap.get?_push_size _ rfl⟩
theorem Inv.fresh (I:Inv X pins σ H s):H s.heap.objs.size = none:=I.hok.fresh (Nat.le_refl _)
theorem Inv.lstM (I:Inv X pins σ H s) (hH:H l = some (.lst xs)):xs.length≤sizeLine∧∃ (its:List Value) (n:Nat),Vals xs its∧xs.length = its.length∧s.heap.get? l = some { cls:=.type "list",data:=.seq its.toArray n }:=by
  obtain ⟨z,its,n,r,e⟩:=I.hok l _ hH
  exact ⟨z,its,n,r,r.length,e⟩
theorem ln {n:Nat} (h:n≤sizeLine):Builtin.List.listTooLong n = false:=by
  unfold Builtin.List.listTooLong
  exact decide_eq_false (by omega)
end
section
variable {X:Cx}
inductive rAppend (x:V) (vs:List V) (H:Hp) (Q:VK):Prop
  | mk (l:Addr) (xs:List V) (y:V) (h0:x = .ref l) (h1:vs = [y]) (h2:H l = some (.lst xs)) (h3:xs.length < sizeLine) (h4:Q .non (upd H l (.lst (xs ++ [y])))):rAppend x vs H Q
theorem ka:MtM X "list.append" rAppend:=by
  intro pins s σ H x vs v us Q I rx rv h
  obtain ⟨l,xs,y,rfl,rfl,hH,hz,q⟩:=h
  cases rx
  obtain ⟨u,rfl,ru⟩:=rv.one
  obtain ⟨z,its,n,r,hl,e⟩:=I.lstM hH
  refine call_meets F.slot_list_append ⟨_,e,rfl⟩ F.entry_list_append (F.args_list_append_2 _ _) (PySem.list_append l its.toArray n u (by rw [List.size_toArray]; omega)) ⟨e,?_⟩
  refine ⟨.non,_,I.lset (its':=its ++ [u]) hH e (by simp) (r.append (.cons ru .nil)) ?_,rfl,q⟩
  rw [List.length_append,List.length_singleton]
  omega
def oC:V→List V→Hp→VK→Prop:=fun x vs H Q=>∃ l b xs zs,x = .ref l∧vs = [.ref b]∧H l = some (.lst xs)∧H b = some (.lst zs)∧xs.length + zs.length≤sizeLine∧Q .non (upd H l (.lst (xs ++ zs)))
theorem oP:MtM X "list.extend" oC:=by
  intro pins s σ H x vs v us Q I rx rv h
  obtain ⟨l,b,xs,zs,rfl,rfl,hH,hB,hz,q⟩:=h
  cases rx
  obtain ⟨u,rfl,ru⟩:=rv.one
  cases ru
  obtain ⟨z,its,n,r,hl,e⟩:=I.lstM hH
  obtain ⟨z2,its2,n2,r2,hl2,e2⟩:=I.lstM hB
  have hsz:its.toArray.size + its2.toArray.size≤sizeLine:=by rw [List.size_toArray,List.size_toArray]; omega
  have hlong:¬ (!its.toArray.isEmpty && Builtin.List.listTooLong (its.toArray.size + its2.toArray.size)) = true:=by
    rw [ln hsz,Bool.and_false]
    exact Bool.false_ne_true
  refine call_meets F.slot_list_extend ⟨_,e,rfl⟩ F.entry_list_extend (F.args_list_extend_2 _ _)
    (AutoSeq1.list_extend_list_list_0 l its.toArray n b its2.toArray n2 hlong (by rw [List.size_toArray]; omega) (by omega)) ⟨e,e2,?_⟩
  refine ⟨.non,_,I.lset (its':=its ++ its2) hH e (by simp) (r.append r2) ?_,rfl,q⟩
  rw [List.length_append]
  omega
def Ai:V→List V→Hp→VK→Prop:=fun x vs H Q=>∃ l xs y,x = .ref l∧vs = []∧H l = some (.lst xs)∧xs[xs.length - 1]? = some y∧Q y (upd H l (.lst xs.dropLast))
def zk:V→List V→Hp→VK→Prop:=fun x vs H Q=>∃ l xs i k y,x = .ref l∧vs = [.int i]∧H l = some (.lst xs)∧-(2 ^ 63)≤i∧i < 2 ^ 63∧seqIndex? i xs.length = some k∧xs[k]? = some y∧Q y (upd H l (.lst (xs.eraseIdx k)))
def xO:V→List V→Hp→VK→Prop:=fun x vs H Q=>∃ l xs,x = .ref l∧vs = []∧H l = some (.lst xs)∧Q .non (upd H l (.lst xs.reverse))
def y9:V→List V→Hp→VK→Prop:=fun x vs H Q=>∃ l xs,x = .ref l∧vs = []∧H l = some (.lst xs)∧Q .non (upd H l (.lst []))
inductive rCat (x y:V) (H:Hp) (Q:VK):Prop
  | mk (l b:Addr) (xs zs:List V) (h0:x = .ref l) (h1:y = .ref b) (h2:H l = some (.lst xs)) (h3:H b = some (.lst zs)) (h4:xs.length + zs.length≤sizeLine) (h5:∀ p,H p = none→Q (.ref p) (upd H p (.lst (xs ++ zs)))):rCat x y H Q
theorem ig:OpR X (binaryOp .Add) rCat:=by
  intro pins s σ H x y v u Q I rx ry h
  obtain ⟨l,b,xs,zs,rfl,rfl,hH,hB,hz,q⟩:=h
  cases rx
  cases ry
  obtain ⟨z,its,n,r,hl,e⟩:=I.lstM hH
  obtain ⟨z2,its2,n2,r2,hl2,e2⟩:=I.lstM hB
  refine PySem.P.add_list e e2 ?_ (by rw [List.size_toArray,List.size_toArray]; omega)
  have ea:its.toArray ++ its2.toArray = (its ++ its2).toArray:=by simp
  rw [ea]
  exact ⟨.ref _,_,I.lnew (t':=s.toks) (r.append r2) (by rw [List.length_append]; omega),rfl,q _ I.fresh⟩
def yr:R2:=fun x y H Q=>∃ l k xs,x = .ref l∧y = .int k∧H l = some (.lst xs)∧-(2 ^ 63)≤k∧k < 2 ^ 63∧xs.length * k.toNat≤sizeLine ∧
  ∀ p,H p = none→Q (.ref p) (upd H p (.lst (List.replicate k.toNat xs).flatten))
theorem kL {α:Type} (xs:List α) (k:Nat):(List.replicate k xs).flatten.length = k * xs.length:=by
  induction k with
  | zero=>simp
  | succ k ih=>rw [List.replicate_succ,List.flatten_cons,List.length_append,ih,Nat.succ_mul,Nat.add_comm]
theorem vP:OpR X (binaryOp .Mult) yr:=by
  intro pins s σ H x y v u Q I rx ry h
  obtain ⟨l,k,xs,rfl,rfl,hH,h1,h2,hz,q⟩:=h
  cases rx
  obtain ⟨t,rfl⟩:=ry
  obtain ⟨z,its,n,r,hl,e⟩:=I.lstM hH
  have hlen:its.toArray.size * k.toNat≤sizeLine:=by rw [List.size_toArray,← hl]; exact hz
  have hcap:¬ its.toArray.size * k.toNat > (2 ^ 63 - 1) / 8:=by
    have:(sizeLine:Nat)≤(2 ^ 63 - 1) / 8:=by decide
    omega
  have hfit:¬ (!Builtin.List.listFitsIndex k) = true:=by
    rw [fitsIndex_both h1 h2]
    exact Bool.false_ne_true
  have hlong:¬ Builtin.List.listTooLong (its.toArray.size * k.toNat) = true:=by
    rw [ln hlen]
    exact Bool.false_ne_true
  have hnew:List.foldl (fun x1 x2=>x1 ++ x2) #[] (List.replicate (if its.toArray.isEmpty = true then 0 else k.toNat) its.toArray) = (List.replicate k.toNat its).flatten.toArray:=by
    have f0:∀ m:Nat,List.foldl (fun x1 x2=>x1 ++ x2) #[] (List.replicate m its.toArray) = (List.replicate m its).flatten.toArray:=fun m=>by
      have:=jW its m []
      rw [List.nil_append] at this
      exact this
    rw [f0]
    cases its with
    | nil=>simp
    | cons a r'=>rw [if_neg (by simp)]
  refine wpAny_binaryOp_repeat_ref (T := "list") (U := "int") (by decide) ⟨_,e,rfl⟩ (fun s'=>typeIs_int s' k t) noFill_list_mul F.fills_int_mul F.slot_int_rmul repeat_list F.slot_int_index.lookup
    (call_meets F.slot_int_rmul (typeIs_int s k t) F.entry_int_rmul (F.args_int_rmul_2 _ _) (int___rmul___int_list k t l its.toArray n)
      ⟨e,rfl,⟨_,e,rfl⟩,call_meets F.slot_list_mul ⟨_,e,rfl⟩ F.entry_list_mul (F.args_list_mul_2 _ _) (AutoListH.list___mul___list_int_3 l its.toArray n k t hfit hcap hlong) ⟨e,?_⟩⟩)
  rw [hnew]
  exact ⟨.ref _,_,I.lnew (t':=s.toks) (r.rep k.toNat) (by rw [kL,Nat.mul_comm]; exact hz),rfl,q _ I.fresh⟩
end
section
variable {prog:Program} {w:World} {A:Around} {E:Value→Shared→Prop} {s:Shared}
set_option maxRecDepth 100000 in
end
section
variable {X:Cx}
end
end L2
namespace Att
open PySem PySem.W PySem.Calls PyProof.Rows
theorem i6 {P:Params} {h:Heap}:∀ (ns:List Int) (vs:List Value),WellAll P h vs (ns.map WData.int)→IntsAre vs ns:=by
  intro ns
  induction ns with
  | nil =>
    intro vs w
    rw [List.map_nil] at w
    cases w
    exact .nil
  | cons n ns ih =>
    intro vs w
    rw [List.map_cons] at w
    cases w with
    | cons a b =>
      cases a
      exact .cons _ _ (ih _ b)
theorem pM {l:OpenLaw} {n:Nat} (hn:l.most = some n) {P:Params} {h:Heap} {args:List WData} {vals:List Value}
    (hpre:l.row.toRowW.claim.pre args = true) (hwl:WellAll P h vals args) :
    ∃ a vs ns,vals = [Value.ref a]∧args = [WData.list (ns.map WData.int)]∧h.get? a = some { cls:=.type "list",data:=.seq vs.toArray }∧IntsAre vs ns∧ns.length≤n:=by
  have hsh:WShape.hasAll [] args [.list .int] = true:=(pre_splitW hpre).1
  have hc:l.pre.holds [] { args:=args } = true:=(pre_splitW hpre).2
  obtain ⟨d,r,rfl,h1,h2⟩:=hasAllW_cons hsh
  obtain rfl:=hasAllW_nil h2
  obtain ⟨xs,rfl,h3⟩:=hasW_list h1
  obtain ⟨ns,rfl⟩:=items_int h3
  have hlen:ns.length≤n:=by
    unfold OpenLaw.pre at hc
    have h4:(WTm.not (.lt (.lit (.int (n:Int))) (.len (.arg 0)))).holds [] { args:=[.list (ns.map .int)] } = true:=by
      have h4:=(holds_andW hc).1
      rw [hn] at h4
      exact h4
    have h5:=condW_of h4 (w_not (w_lt w_lit (w_len_list (w_arg rfl))))
    rw [List.length_map] at h5
    refine Nat.le_of_not_lt fun q=>?_
    have q':(n:Int) < ((ns.length:Nat):Int):=by omega
    first
      | (rw [decide_eq_true q'] at h5; exact absurd h5 (by decide))
      | (simp at h5; omega)
  cases hwl with
  | cons w1 w2 =>
    cases w2
    cases w1 with
    | list ho hall=>exact ⟨_,_,ns,rfl,rfl,ho,i6 ns _ hall,hlen⟩
theorem oR (l:OpenLaw) (args:List WData):l.row.toRowW.claim.post args (.bool true) args = true :=
  postW_of (r:=l.row.toRowW) (X:=(true == true))
    (show WShape.has [] (.bool true) .bool = true by first | rfl | decide | simp [WShape.has,WShape.arms,WShape.armsAll])
    (show (WTm.eq .res (.lit (.bool true))).value [] { args:=args,res:=some (.bool true),after:=args } = some (.bool (true == true)) from w_eq_bool (w_res rfl) w_lit) rfl
theorem attach_call {l:OpenLaw} {n:Nat} {q:Program} {loose:List Str} {XP:(Str→Option Value)→Heap→Prop} {YP:World→Heap→Prop} {d:DefRec}
    (hn:l.most = some n) (hdf:d.params.defaults = [])
    (call:∀ (w:World) (s₀ s₁:Shared) (mg mb:Str→Option Value) (fa:Addr) (o:Obj) (pm cd doc:Value) (a:Addr) (vs:List Value) (ns:List Int),
      Ground q loose [] XP w s₀ mg mb s₁.heap→YP w s₁.heap →
      s₁.heap.get? fa = some o→o.data = .func (docDef d.name d.params d.body d.scope pm cd doc)→s₁.heap.CodeRec cd d.name→mg d.name = some (.ref fa) →
      s₁.heap.get? a = some { cls:=.type "list",data:=.seq vs.toArray }→IntsAre vs ns→ns.length≤n→s₁.gens = #[] →
      codeAny (model l.prog w) callerA (.call (.ref fa) ⟨[.ref a],[]⟩) (fun r s'=>r = .ok (.ret (.bool true))∧OldK s₁.heap s'.heap∧s'.os = s₁.os∧AllBare s'.gens) s₁) :
    WalkO q loose XP YP l.row.toRowW d [] (fun f vs=>PySem.call f vs):=by
  intro w s₀ s₁ mg mb G Y fa o pm cd doc dV kV ho hd hcd hD hmg hg args vals as hpre hlay hrd hwl hlo
  obtain rfl:dV = .none:=Dflts.none hD hdf
  obtain rfl:kV = .none:=Dflts.noKw hD
  obtain ⟨a,vs,ns,rfl,rfl,hobj,hints,hlen⟩:=pM hn hpre hwl
  refine enter_call (codeAny_mono (call w s₀ s₁ mg mb fa o pm cd doc a vs ns G Y ho (fd_plain hd) hcd hmg hobj hints hlen hg) fun r s' hq=>?_)
  obtain ⟨rfl,h2,h3,h4⟩:=hq
  exact ⟨.inl ⟨.bool true,.bool true,[],rfl,fun _=>rfl,.bool true,oR l _,fun _=>⟨List.Pairwise.nil,fun _ hm=>(nomatch hm)⟩⟩,h2,h3,h4⟩
section
variable {prog:Program} {w:World} {A:Around} {E:Value→Shared→Prop} {s:Shared} {K:Frag}
def zh (h:Heap):Heap:={ h with objs:=#[] }
def yy (h:Heap) (L d:Addr):List (Addr×Obj):=(List.range h.objs.size).filterMap fun a=>if a = L∨a = d then none else (h.get? a).map fun o=>(a,o)
end
end Att
namespace L2
open PySem PySem.Spec PyProof.Rows
theorem jV:∀ {vs:List Value} {ns:List Int},IntsAre vs ns→Vals (ns.map V.int) vs
  | _,_,.nil=>.nil
  | _,_,.cons n t h=>.cons ⟨t,rfl⟩ (jV h)
def Ao (H:Hp):Prop:=∀ b,H b = none∨∃ o xs,H b = some (.frz o (.lst xs))
end L2
namespace L2
open PySem PySem.Spec PyProof.Rows
abbrev KOf {K:PySem.W.Frag} {h:Heap} (_:K.In h):PySem.W.Frag:=K
end L2
namespace L2
open PySem PySem.Spec PyProof.Rows
def bv (s:Stmt) (j:Nat):Stmt:=match s with
  | .ClassDef _ _ _ body _ _ _ _ _ _ _=>body.getD j (.Pass ⟨0,0,0,0⟩)
  | _=>.Pass ⟨0,0,0,0⟩
def ah (s:Stmt):Arguments:=match s with
  | .FunctionDef _ a _ _ _ _ _ _ _ _=>a
  | _=>{ posonlyargs:=[],args:=[],vararg:=none,kwonlyargs:=[],kw_defaults:=[],kwarg:=none,defaults:=[] }
def ag (s:Stmt):List Stmt:=match s with
  | .FunctionDef _ _ b _ _ _ _ _ _ _=>b
  | _=>[]
def ac (s:Stmt):Scope:=match s with
  | .FunctionDef _ _ _ _ _ _ sc _ _ _=>sc
  | _=>{ kind:=.function,names:=[],isGenerator:=false,isCoroutine:=false }
abbrev CX0:CXT:=fun _ _ _ _ _ _=>False
abbrev E0:XK:=fun _ _ _=>False
theorem ar {X:Cx}:ii CX0 X E0:=fun _ _ _ _ _ _ _ h=>h.elim
structure Fun (K:PySem.W.Frag) (x qual:Str) (st:Stmt) (f:Addr) (fd:FuncData):Prop where
  ex:∃ (oc:Value) (od:Option Addr) (kV doc pm:Value) (an:Option Addr) (cdv ct:Value) (osl:Array (Option Value)),
    fd = PySem.W.fnOf x qual (ah st) (ag st) (ac st) .none kV doc pm an cdv ct∧K.lookup f = some ⟨oc,od,.func fd,osl⟩∧PySem.W.codeIn K cdv qual = true
  kp:PySem.W.keepIn K (.ref f) = true
section
variable {P:Program} {w:World} {K:PySem.W.Frag} {mg:Str→Option Value} {base:Heap}
theorem Fun.ok {x qual:Str} {st:Stmt} {f:Addr} {fd:FuncData} {N ps:List Str} {k:Nat} {sp:Sp} (F:Fun K x qual st f fd) (S:FnScope N ps (ac st)) (len:∀ vs H Q E,sp vs H Q E→vs.length = ps.length)
    (hbody:∀ (cdv:Value) (A:Around) (outer:List Env) (s:Shared) (H:Hp) (vs:List V) (Q:VK) (E:XK),Room k (A.deeper (envOfC qual (ac st) s.heap.objs.size f cdv))→sp vs H Q E →
      ∃ t,PSs (eM CX0 P w K mg base N qual (ac st) f cdv A outer s H E).nox (ag st) t∧t { nx:=fun _ H'=>Q .non H',rt:=Q } (eY N vs) H):FnOk P w K mg base CX0 (k + 1) f fd ps sp:=by
  obtain ⟨oc,od,kV,doc,pm,an,cdv,ct,osl,rfl,lk,hcd⟩:=F.ex
  refine rf lk hcd S len fun A outer s H vs Q E hr hsp=>?_
  obtain ⟨t,h,q⟩:=hbody cdv A outer s H vs Q E hr hsp
  exact ⟨t,h.nox,q⟩
theorem Fun.binds {x qual:Str} {st:Stmt} {f:Addr} {fd:FuncData} {ps:List Str} (F:Fun K x qual st f fd)
    (h:∀ (kV doc pm:Value) (an:Option Addr) (cdv ct:Value) (us:List Value),us.length = ps.length→bindArgs (PySem.W.fnOf x qual (ah st) (ag st) (ac st) .none kV doc pm an cdv ct) ⟨us,[]⟩ = pure (ps.zip us)):Binds K fd ps []:=by
  obtain ⟨oc,od,kV,doc,pm,an,cdv,ct,osl,rfl,lk,hcd⟩:=F.ex
  exact .all (h kV doc pm an cdv ct)
theorem al {x qual:Str} {st:Stmt} {f:Addr} {oc:Value} {od an:Option Addr} {osl:Array (Option Value)} {kV doc pm cdv ct:Value} (l:K.lookup f = some ⟨oc,od,.func (PySem.W.fnOf x qual (ah st) (ag st) (ac st) .none kV doc pm an cdv ct),osl⟩)
    (c:PySem.W.codeIn K cdv qual = true) (k:PySem.W.keepIn K (.ref f) = true):Fun K x qual st f (PySem.W.fnOf x qual (ah st) (ag st) (ac st) .none kV doc pm an cdv ct):=⟨⟨oc,od,kV,doc,pm,an,cdv,ct,osl,rfl,l,c⟩,k⟩
end
theorem uU {A:Around} {k:Nat} (hr:Room k A):A.units + 1 < cLine:=Nat.lt_of_le_of_lt (Nat.add_le_add_left (by decide:1≤64) _) hr.units
section
variable {X:Cx}
end
theorem zy {A B:Prop} (h:A):if true = true then A else B:=by
  rw [if_pos rfl]
  exact h
theorem yt {c A B:Prop} [Decidable c] (h1:c→A) (h2:¬ c→B):if c then A else B:=by
  by_cases h:c
  · rw [if_pos h]
    exact h1 h
  · rw [if_neg h]
    exact h2 h
def Same (H H':Hp):Prop:=∀ b o,H b = some o→H' b = some o
theorem Same.refl (H:Hp):Same H H:=fun _ _ h=>h
theorem Same.trans {H H1 H2:Hp} (a:Same H H1) (b:Same H1 H2):Same H H2:=fun c o h=>b c o (a c o h)
theorem Same.free {H H':Hp} (e:Same H H') {l:Addr} (h:H' l = Option.none):H l = Option.none:=by
  cases q:H l with
  | none=>rfl
  | some o =>
    rw [e l o q] at h
    cases h
theorem Same.seq {K:PySem.W.Frag} {H H':Hp} {a:Addr} {xs:List V} (e:Same H H') (h:SqL K H a xs):SqL K H' a xs:=by
  rcases h with (h | ⟨o,h⟩) | h
  · exact .inl (.inl (e _ _ h))
  · exact .inl (.inr ⟨o,e _ _ h⟩)
  · exact .inr h
end L2
set_option maxHeartbeats 4000000
namespace L2
open PySem PySem.Spec PyProof.Rows
def Its (x:Str):It:=⟨fun i _=>i < x.cps.size,fun i H y H'=>H' = H∧∃ c,x.cps[i]? = some c∧y = .str ⟨#[c]⟩,fun i _=>x.cps.size≤i⟩
theorem lZ {P:Program} {w:World} {K:PySem.W.Frag} {tg:Expr} (x:Str) (it:Addr) {ty:String} {t:Tok} (hty:ty = "str_ascii_iterator" ∨ ty = "str_iterator") :
    Turn P w K tg (Its x) [it] it (fun i h=>h.IsStrIter it ty x t i) where
  mem:=by simp
  obj:=fun i h st b hb=>by
    have e:b = it:=by simpa using hb
    subst e
    obtain ⟨o,e,c,d⟩:=st
    exact ⟨o,e,fun v z=>by rw [d] at z; cases z⟩
  keep:=fun i h h' st k=>by
    obtain ⟨o,e,r⟩:=st
    exact ⟨o,k it (by simp) o e,r⟩
  item:=by
    intro X hP hw hK hc i pins s σ H E I hf st hg
    subst hP hw hK
    have hi:i < x.cps.size:=hg
    obtain ⟨f0,f1,f2,f3,f4,f5⟩:=hf it (by simp)
    rcases hty with rfl | rfl
    · refine wpAny_pyNext_ascii_item st (c:=x.cps[i]) (by simp [hi]) fun h' st' sb=>?_
      have I1:Inv X pins σ H { s with heap:=h',toks:=s.toks + 1 }:=I.turned (fun b o hb e=>(sb.2 b hb).trans e) f0 f1 f3 f4 f5
      obtain ⟨o,e,c,d⟩:=id st'
      exact ⟨_,rfl,mf (s:={ s with heap:=h',toks:=s.toks + 1 }) e c d (by decide) ⟨.str ⟨#[x.cps[i]]⟩,H,I1,⟨_,rfl⟩,⟨rfl,x.cps[i],by simp [hi],rfl⟩,st',fun b hb=>(hf b hb).1⟩⟩
    · refine wpAny_pyNext_wide_item st (c:=x.cps[i]) (by simp [hi]) fun h' st' sb=>?_
      have I1:Inv X pins σ H { s with heap:=h',toks:=s.toks + 1 }:=I.turned (fun b o hb e=>(sb.2 b hb).trans e) f0 f1 f3 f4 f5
      obtain ⟨o,e,c,d⟩:=id st'
      exact ⟨_,rfl,mf (s:={ s with heap:=h',toks:=s.toks + 1 }) e c d (by decide) ⟨.str ⟨#[x.cps[i]]⟩,H,I1,⟨_,rfl⟩,⟨rfl,x.cps[i],by simp [hi],rfl⟩,st',fun b hb=>(hf b hb).1⟩⟩
  done:=by
    intro X hP hw hK hc i pins s σ H E I hf st hg
    subst hP hw hK
    have hi:x.cps.size≤i:=hg
    obtain ⟨f0,f1,f2,f3,f4,f5⟩:=hf it (by simp)
    rcases hty with rfl | rfl
    · exact wpAny_pyNext_ascii_end (I.ok.hd hc) st (by simp [hi]) fun h' eb=>⟨rfl,I.turned (t':=s.toks) (fun b o hb e=>eb b o hb e) f0 f1 f3 f4 f5⟩
    · exact wpAny_pyNext_wide_end (I.ok.hd hc) st (by simp [hi]) fun h' eb=>⟨rfl,I.turned (t':=s.toks) (fun b o hb e=>eb b o hb e) f0 f1 f3 f4 f5⟩
  self:=fun _ _ _ _ _ st h=>by
    rcases hty with rfl | rfl
    · exact wpAny_pyIter_striter_ascii st h
    · exact wpAny_pyIter_striter_wide st h
def zc (tl:TE):TI:=fun σ H R=>tl σ H fun x H1=>∃ z,x = .str z∧R (Its z) H1
theorem vG {X:Cx} {tg l:Expr} {tl:TE} (hl:PE X l tl):PI X tg l (zc tl):=by
  intro pins s σ H R I h
  refine thn (hl pins s σ H _ I h) fun v s1 ⟨x,H1,I1,r1,q1⟩=>?_
  obtain ⟨z,e,q⟩:=q1
  subst e
  obtain ⟨t,rfl⟩:=r1
  refine wpAny_pyIter_strU ?_
  refine ⟨s1.heap.objs.size,[s1.heap.objs.size],_,_,H1,rfl,I1.kept (t':=s1.toks) fun b o e=>Heap.get?_push_of_some _ e,lZ (ty:=strIterType z) (t:=t) z _ ?_,⟨_,Heap.get?_push_size _ rfl,rfl,rfl⟩,fun b hb=>?_,q⟩
  · unfold strIterType
    split
    · exact .inl rfl
    · exact .inr rfl
  · have e:b = s1.heap.objs.size:=by simpa using hb
    subst e
    exact I1.fpOk (Nat.le_refl _) (I1.hok.fresh (Nat.le_refl _))
end L2
namespace L2
open PySem PySem.Spec PyProof.Rows
def Wk:St→St→Prop
  | [],[]=>True
  | Option.none :: r,_ :: q=>Wk r q
  | some a :: r,b :: q=>b = some a∧Wk r q
  | _,_=>False
theorem Wk.len:∀ {a b:St},Wk a b→a.length = b.length
  | [],[],_=>rfl
  | Option.none :: r,_ :: q,h=>congrArg (· + 1) (Wk.len (a:=r) (b:=q) h)
  | some _ :: r,_ :: q,h=>congrArg (· + 1) (Wk.len (a:=r) (b:=q) h.2)
  | [],_ :: _,h=>h.elim
  | Option.none :: _,[],h=>h.elim
  | some _ :: _,[],h=>h.elim
theorem Wk.get:∀ {a b:St},Wk a b→∀ (i:Nat) v,a[i]? = some (some v)→b[i]? = some (some v)
  | [],[],_,i,v,e=>by simp at e
  | Option.none :: r,y :: q,h,0,v,e=>by simp at e
  | Option.none :: r,y :: q,h,i + 1,v,e=>by simpa using Wk.get (a:=r) (b:=q) h i v (by simpa using e)
  | some x :: r,y :: q,h,0,v,e=>by
    have e':x = v:=by simpa using e
    rw [h.1,e'] <;> simp
  | some x :: r,y :: q,h,i + 1,v,e=>by simpa using Wk.get (a:=r) (b:=q) h.2 i v (by simpa using e)
  | [],_ :: _,h,_,_,_=>h.elim
  | Option.none :: _,[],h,_,_,_=>h.elim
  | some _ :: _,[],h,_,_,_=>h.elim
def eX (cells:List (Str×Addr)):List (Str×NameKind)→List (Str×Addr)→List (Str×Addr)
  | [],acc=>acc
  | (n,k) :: r,acc=>if k == .free then eX cells r ((n,(cells.lookup n).getD 0) :: acc) else eX cells r acc
theorem i4 {sc:Scope} {env:Env} (h:∀ y ∈ sc.names,y.2 = .free→∃ c,env.cells.lookup y.1 = some c):closureFor sc env = pure (eX env.cells sc.names []):=by
  unfold closureFor
  have key:∀ (l:List (Str×NameKind)) (acc:List (Str×Addr)),(∀ y ∈ l,y.2 = .free→∃ c,env.cells.lookup y.1 = some c) →
      (forIn l acc fun x r=>match x with | (name,kind)=>if (kind == .free) = true then do let a ← cellOf env name; pure (ForInStep.yield ((name,a) :: r)) else pure (ForInStep.yield r):Sem (List (Str×Addr))) = pure (eX env.cells l acc):=by
    intro l
    induction l with
    | nil=>intro acc _; rfl
    | cons y r ih =>
      intro acc hy
      obtain ⟨n,k⟩:=y
      have hr:∀ y ∈ r,y.2 = .free→∃ c,env.cells.lookup y.1 = some c:=fun y hm=>hy y (List.mem_cons_of_mem _ hm)
      rw [List.forIn_cons]
      by_cases hk:k = .free
      · subst hk
        obtain ⟨c,hc⟩:=hy (n,.free) List.mem_cons_self rfl
        have e1:cellOf env n = pure c:=by unfold cellOf; rw [hc]
        have e2:eX env.cells ((n,.free) :: r) acc = eX env.cells r ((n,c) :: acc):=by
          show (if (NameKind.free == NameKind.free) = true then eX env.cells r ((n,(env.cells.lookup n).getD 0) :: acc) else eX env.cells r acc) = _
          rw [if_pos (by decide),hc]; rfl
        rw [e2,← ih ((n,c) :: acc) hr]
        show (do let x ← (if (NameKind.free == NameKind.free) = true then do let a ← cellOf env n; pure (ForInStep.yield ((n,a) :: acc)) else pure (ForInStep.yield acc):Sem _); _) = _
        rw [if_pos (by decide),e1]
        rfl
      · have hb:(k == NameKind.free) = false:=by simpa using hk
        have e2:eX env.cells ((n,k) :: r) acc = eX env.cells r acc:=by
          show (if (k == NameKind.free) = true then eX env.cells r ((n,(env.cells.lookup n).getD 0) :: acc) else eX env.cells r acc) = _
          rw [hb]; rfl
        rw [e2,← ih acc hr]
        show (do let x ← (if (k == NameKind.free) = true then do let a ← cellOf env n; pure (ForInStep.yield ((n,a) :: acc)) else pure (ForInStep.yield acc):Sem _); _) = _
        rw [hb]
        rfl
  have:=key sc.names [] h
  first | exact this | (rw [this]; rfl) | simpa using this
theorem fc {cells:List (Str×Addr)}:∀ {l:List (Str×NameKind)} {acc:List (Str×Addr)} {n:Str} {c:Addr},(∀ y ∈ l,y.2 = .free→∃ c,cells.lookup y.1 = some c)→(∀ n c,acc.lookup n = some c→cells.lookup n = some c) →
    (eX cells l acc).lookup n = some c→cells.lookup n = some c
  | [],acc,n,c,_,ha,e=>ha n c e
  | (m,k) :: r,acc,n,c,hl,ha,e=>by
    have hr:∀ y ∈ r,y.2 = .free→∃ c,cells.lookup y.1 = some c:=fun y hm=>hl y (List.mem_cons_of_mem _ hm)
    have e':(if (k == NameKind.free) = true then eX cells r ((m,(cells.lookup m).getD 0) :: acc) else eX cells r acc).lookup n = some c:=e
    by_cases hk:(k == NameKind.free) = true
    · rw [if_pos hk] at e'
      refine fc hr (fun n c z=>?_) e'
      obtain ⟨d,hd⟩:=hl (m,k) List.mem_cons_self (by simpa using hk)
      rw [List.lookup_cons] at z
      by_cases hn:(n == m) = true
      · rw [hn] at z
        have:n = m:=by simpa using hn
        subst this
        have hd':cells.lookup n = some d:=hd
        rw [hd'] at z ⊢
        simpa using z
      · have hn':(n == m) = false:=by simpa using hn
        rw [hn'] at z
        exact ha n c z
    · rw [if_neg hk] at e'
      exact fc hr ha e'
theorem gI {cells:List (Str×Addr)}:∀ {l:List (Str×NameKind)} {acc:List (Str×Addr)} {n:Str},((n,NameKind.free) ∈ l∨∃ c,acc.lookup n = some c)→∃ c,(eX cells l acc).lookup n = some c
  | [],acc,n,h=>by
    rcases h with h | h
    · cases h
    · exact h
  | (m,k) :: r,acc,n,h=>by
    show ∃ c,(if (k == NameKind.free) = true then eX cells r ((m,(cells.lookup m).getD 0) :: acc) else eX cells r acc).lookup n = some c
    have hcons:∀ a,n = m∨(∃ c,acc.lookup n = some c)→∃ c,((m,a) :: acc).lookup n = some c:=fun a z=>by
      rw [List.lookup_cons]
      by_cases hn:(n == m) = true
      · rw [hn]; exact ⟨_,rfl⟩
      · have hn':(n == m) = false:=by simpa using hn
        rw [hn']
        rcases z with z | z
        · exact absurd (by simpa using z) hn
        · exact z
    by_cases hk:(k == NameKind.free) = true
    · rw [if_pos hk]
      refine gI ?_
      rcases h with h | h
      · rcases List.mem_cons.mp h with e | h
        · exact .inr (hcons _ (.inl (congrArg Prod.fst e)))
        · exact .inl h
      · exact .inr (hcons _ (.inr h))
    · rw [if_neg hk]
      refine gI ?_
      rcases h with h | h
      · rcases List.mem_cons.mp h with e | h
        · have:k = .free:=(congrArg Prod.snd e).symm
          rw [this] at hk
          exact absurd (by decide) hk
        · exact .inl h
      · exact .inr h
def rlb (env:Env) (p:Str×NameKind):Str×NameKind:=if (p.2 == NameKind.free && env.scope.kind == ScopeKind.function && env.kindOf p.1 == some NameKind.cell) = true then (p.1,NameKind.cell) else p
theorem jN (sc:Scope) (env:Env):(relabel sc env).names = sc.names.map (rlb env):=rfl
theorem tX (env:Env) (p:Str×NameKind):(rlb env p).1 = p.1:=by
  unfold rlb
  split <;> rfl
theorem rm {env:Env} {p:Str×NameKind} (h:p.2≠.cell) (h2:(rlb env p).2 = .cell∨(rlb env p).2 = .free):p.2 = .free:=by
  unfold rlb at h2
  split at h2
  · rename_i q
    rw [Bool.and_eq_true,Bool.and_eq_true] at q
    simpa using q.1.1
  · rcases h2 with h2 | h2
    · exact absurd h2 h
    · exact h2
theorem gS {env:Env}:∀ {names:List (Str×NameKind)} {x:Str} {k:NameKind},(∀ y ∈ names,y.2≠.cell)→(k = .cell∨k = .free)→(names.map (rlb env)).lookup x = some k→(x,NameKind.free) ∈ names
  | [],x,k,_,_,e=>by simp at e
  | p :: r,x,k,hc,hk,e=>by
    have hr:∀ y ∈ r,y.2≠.cell:=fun y hm=>hc y (List.mem_cons_of_mem _ hm)
    have e0:rlb env p = (p.1,(rlb env p).2):=by rw [← tX env p]
    rw [List.map_cons,e0,List.lookup_cons] at e
    by_cases hx:x = p.1
    · have hb:(x == p.1) = true:=by simpa using hx
      rw [hb] at e
      have e2:(rlb env p).2 = k:=Option.some.inj e
      have hj:=rm (env:=env) (hc p List.mem_cons_self) (by rw [e2]; exact hk)
      have:(x,NameKind.free) = p:=by rw [hx,← hj]
      rw [this]
      exact List.mem_cons_self
    · have hb:(x == p.1) = false:=by simpa using hx
      rw [hb] at e
      exact List.mem_cons_of_mem _ (gS hr hk e)
theorem fQ {env:Env} {sc:Scope} {x:Str} {k:NameKind} (hc:∀ y ∈ sc.names,y.2≠.cell) (hk:k = .cell∨k = .free) (e:(relabel sc env).names.lookup x = some k):(x,NameKind.free) ∈ sc.names :=
  gS (env:=env) hc hk (by rw [← jN]; exact e)
def pQ (ix:List (Option Nat)) (σ:St):St:=ix.map fun o=>o.bind fun i=>(σ[i]?).join
def FreeOk (XN:List Str) (env:Env) (sc:Scope):List Str→List (Option Nat)→Prop
  | [],[]=>True
  | _ :: N,Option.none :: ix=>FreeOk XN env sc N ix
  | y :: N,some i :: ix=>XN[i]? = some y∧env.kindOf y = some .cell∧(relabel sc env).names.lookup y = some .cell∧FreeOk XN env sc N ix
  | _,_=>False
theorem FreeOk.len {XN:List Str} {env:Env} {sc:Scope}:∀ {N:List Str} {ix:List (Option Nat)},FreeOk XN env sc N ix→ix.length = N.length
  | [],[],_=>rfl
  | _ :: N,Option.none :: ix,h=>congrArg (· + 1) (FreeOk.len (N:=N) (ix:=ix) h)
  | _ :: N,some _ :: ix,h=>congrArg (· + 1) (FreeOk.len (N:=N) (ix:=ix) h.2.2.2)
  | [],_ :: _,h=>h.elim
  | _ :: _,[],h=>h.elim
theorem FreeOk.get {XN:List Str} {env:Env} {sc:Scope}:∀ {N:List Str} {ix:List (Option Nat)},FreeOk XN env sc N ix→∀ (j:Nat) (y:Str) (i:Nat),N[j]? = some y→ix[j]? = some (some i) →
    XN[i]? = some y∧env.kindOf y = some .cell∧(relabel sc env).names.lookup y = some .cell
  | [],[],_,j,y,i,e,_=>by simp at e
  | _ :: N,Option.none :: ix,h,0,y,i,e,e2=>by simp at e2
  | _ :: N,Option.none :: ix,h,j + 1,y,i,e,e2=>FreeOk.get (N:=N) (ix:=ix) h j y i (by simpa using e) (by simpa using e2)
  | z :: N,some k :: ix,h,0,y,i,e,e2=>by
    have e':z = y:=by simpa using e
    have e2':k = i:=by simpa using e2
    subst e'; subst e2'
    exact ⟨h.1,h.2.1,h.2.2.1⟩
  | _ :: N,some _ :: ix,h,j + 1,y,i,e,e2=>FreeOk.get (N:=N) (ix:=ix) h.2.2.2 j y i (by simpa using e) (by simpa using e2)
  | [],_ :: _,h,_,_,_,_,_=>h.elim
  | _ :: _,[],h,_,_,_,_,_=>h.elim
def cxB (X:Cx) (sc:Scope) (C:Addr) (N:List Str) (s₀:Shared) (H₀:Hp) (fp:List Addr):Cx :=
  { X with N:=N,s₀:=s₀,H₀:=H₀,env:=compEnvC sc (eX X.env.cells sc.names []) C X.env,outer:=X.stack,ex:=fp,fn:=fun _=>false,pn:=[],xe:=fun _ _=>False }
structure CompOk (X:Cx) (sc:Scope) (N:List Str) (ix:List (Option Nat)):Prop where
  kind:sc.kind = .function
  nocell:(sc.names.all fun y=>y.2 != .cell) = true
  names:(sc.names.all fun y=>y.2 != .local || sc.names.lookup y.1 == some .local) = true
  free:(sc.names.all fun y=>y.2 != .free || X.env.scope.names.lookup y.1 == some .cell) = true
  fr:FreeOk X.N X.env sc N ix
section
variable {X:Cx} {sc:Scope} {N:List Str} {ix:List (Option Nat)} {pins:List (Addr×Obj)} {σ:St} {H:Hp} {s:Shared}
theorem CompOk.cells (c:CompOk X sc N ix) (ok:X.Ok):∀ y ∈ sc.names,y.2 = .free→∃ c,X.env.cells.lookup y.1 = some c:=fun y hy e=>by
  have h:=List.all_eq_true.mp c.free y hy
  rw [e] at h
  have h':X.env.scope.names.lookup y.1 = some .cell:=by simpa using h
  exact ok.has y.1 (.inl h')
theorem CompOk.nc (c:CompOk X sc N ix):∀ y ∈ sc.names,y.2≠.cell:=fun y hy=>by simpa using List.all_eq_true.mp c.nocell y hy
theorem CompOk.nm (c:CompOk X sc N ix):∀ y ∈ sc.names,y.2 = .local→sc.names.lookup y.1 = some .local:=fun y hy e=>by
  have h:=List.all_eq_true.mp c.names y hy
  rw [e] at h
  simpa using h
theorem pP {C:Addr} {fp:List Addr} {h₁:Heap} {t':Nat} (c:CompOk X sc N ix) (I:Inv X pins σ H s) (hf:∀ b ∈ fp,hX X pins H b) (hfp:∀ b ∈ fp,b < s.heap.objs.size) (hC:s.heap.objs.size≤C)
    (hn:h₁.Ns C (fun _=>none)) (old:∀ b o,s.heap.get? b = some o→h₁.get? b = some o):Inv (cxB X sc C N s H fp) [] (pQ ix σ) H { s with heap:=h₁,toks:=t' }:=by
  have hcells:=c.cells I.ok
  have sub:∀ n c,(eX X.env.cells sc.names []).lookup n = some c→X.env.cells.lookup n = some c:=fun n c e=>fc hcells (fun n c z=>by simp at z) e
  refine ⟨⟨I.ok.mod,c.kind,I.ok.glob,I.ok.blt,hC,fun x y d h1 h2=>I.ok.inj x y d (sub x d h1) (sub y d h2),fun x hx=>?_,fun x d z=>absurd z (by simp [cxB]),I.ok.hd,I.ok.frames,.inl rfl,fun b hb=>⟨?_,fun x d e=>?_⟩,I.bs,Nat.le_trans I.ok.bsz I.sz,fun b o e hb=>?_,fun b hb hs=>?_,I.stack,I.stkFree⟩,
    rfl,I.bare,Un.kept old,⟨_,hn,fun j y v e1 e2 e3=>?_⟩,fun x d e=>?_,I.hok.fresh hC,fun x d e=>I.freeC x d (sub x d e),fun p hp=>absurd (show p ∈ ([]:List (Addr×Obj)) from hp) (by simp),I.hok.kept old,?_⟩
  · refine gI (.inl ?_)
    rcases hx with hx | hx
    · exact fQ c.nc (.inl rfl) (show (relabel sc X.env).names.lookup x = some .cell from hx)
    · exact fQ c.nc (.inr rfl) (show (relabel sc X.env).names.lookup x = some .free from hx)
  · exact Nat.ne_of_lt (Nat.lt_of_lt_of_le (hfp b hb) hC)
  · exact (hf b hb).2.2.2.2.1 x d (sub x d e)
  · rcases (hf b hb).2.2.2.1 with z | z
    · exact I.ok.noex b o e z
    · exact absurd (Nat.lt_of_lt_of_le (Heap.lt_size e) (Nat.le_trans I.ok.bsz z)) (Nat.lt_irrefl _)
  · rcases List.mem_cons.mp (I.stkSub b hs) with z | z
    · exact (hf b hb).2.1 z
    · exact (hf b hb).2.2.1 z
  · have hj:∃ i,ix[j]? = some (some i)∧σ[i]? = some (some v):=by
      unfold pQ at e2
      rw [List.getElem?_map] at e2
      cases q:ix[j]? with
      | none=>rw [q] at e2; cases e2
      | some o =>
        rw [q] at e2
        cases o with
        | none=>cases e2
        | some i =>
          refine ⟨i,rfl,?_⟩
          have e2':(σ[i]?).join = some v:=Option.some.inj e2
          cases q2:σ[i]? with
          | none=>rw [q2] at e2'; cases e2'
          | some w=>rw [q2] at e2'; exact congrArg some e2'
    obtain ⟨i,hi,hv⟩:=hj
    obtain ⟨k1,k2,k3⟩:=c.fr.get j y i e1 hi
    obtain ⟨m,hm,hl⟩:=I.loc
    obtain ⟨u,r,l⟩:=hl i y v k1 hv (.inr (.inl k2))
    refine ⟨u,r,?_⟩
    rcases l with ⟨z,_⟩ | ⟨_,d,hd,hcell⟩
    · rw [k2] at z; cases z
    · obtain ⟨d',hd'⟩:∃ d',(eX X.env.cells sc.names []).lookup y = some d':=gI (.inl (fQ c.nc (.inl rfl) k3))
      have:=sub y d' hd'
      rw [hd] at this
      cases this
      exact .inr ⟨.inl k3,d,hd',hcell.keeps old⟩
  · obtain ⟨v,z⟩:=I.cell x d (sub x d e)
    exact ⟨v,z.keeps old⟩
  · show (pQ ix σ).length = N.length
    unfold pQ
    rw [List.length_map,c.fr.len]
theorem ll {C:Addr} {fp:List Addr} {pins':List (Addr×Obj)} {σ':St} {H':Hp} {s':Shared} (I:Inv X pins σ H s) (hf:∀ b ∈ fp,hX X pins H b) (J:Inv (cxB X sc C N s H fp) pins' σ' H' s'):Inv X pins σ H' s':=by
  refine I.call' (ch:=fp) J.os J.base J.hok J.bare fun b hb=>?_
  obtain ⟨f0,f1,f2,f3,f4,f5⟩:=hf b hb
  exact ⟨f3,f1,f4,f5⟩
end
def PTs (X:Cx) (ifs:List Expr) (t:TT):Prop :=
  ∀ (pins:List (Addr×Obj)) (s:Shared) (σ:St) (H:Hp) (Q:Bool→Hp→Prop),Inv X pins σ H s→t σ H Q →
    wpAny (model X.prog X.w) X.A (forIn ifs true fun c r=>if r = true then do let ok ← isTrue c X.env (eval c X.env); pure (ForInStep.yield ok) else pure (ForInStep.yield r)) (TP X pins σ Q) X.xe s
def zu:TT:=fun _ H Q=>Q true H
theorem ck {X:Cx}:PTs X [] zu:=fun _ _ _ H _ I h=>wpAny_tests_nil ⟨H,I,h⟩
theorem ud {X:Cx} {c:Expr} {t:TT} (h:PT X c t):PTs X [c] t:=fun pins s σ H Q I hw=>wpAny_tests_one (h pins s σ H Q I hw)
def iX (J:It) (D:Addr) (σb:St) (g:TG) (tt:TT) (te:TE) (Q:Hp→List V→Prop) (W:Nat→Nat→List V→Hp→Prop):Prop :=
  ∀ i m ys H,W i m ys H→H D = some (.lst ys)∧((J.stop i H∧Q H ys)∨(J.go i H∧∀ x H3,J.yld i H x H3→g x σb H3 fun σ4 H4=>Wk σb σ4∧tt σ4 H4 fun b H5 =>
    if b = true then te σ4 H5 fun y H6=>H6 D = some (.lst ys)∧ys.length < sizeLine∧∃ m',m' < m∧W (i + 1) m' (ys ++ [y]) (upd H6 D (.lst (ys ++ [y]))) else ∃ m',m' < m∧W (i + 1) m' ys H5))
def xM (ix:List (Option Nat)) (wi:TI) (g:TG) (tt:TT) (te:TE):TE:=fun σ H Q=>wi σ H fun J H1=>∀ D,H1 D = none→∃ W,(∃ m,W 0 m [] (upd H1 D (.lst [])))∧iX J D (pQ ix σ) g tt te (fun H _=>Q (.ref D) H) W
section
variable {X:Cx} {sc:Scope} {N:List Str} {ix:List (Option Nat)} {elt tg iter:Expr} {ifs:List Expr} {pos:Pos} {wi:TI} {g:TG} {tt:TT} {te:TE}
structure Blk (X:Cx) (sc:Scope) (N:List Str) (tg elt:Expr) (ifs:List Expr) (g:TG) (tt:TT) (te:TE):Prop where
  tg:∀ C s H fp,PG (cxB X sc C N s H fp) tg g
  tests:∀ C s H fp,PTs (cxB X sc C N s H fp) ifs tt
  elt:∀ C s H fp,PE (cxB X sc C N s H fp) elt te
theorem pX {J:It} {fp:List Addr} {it D:Addr} {tn:Nat→Heap→Prop} {σb:St} {Q:Hp→List V→Prop} {R:Result→Shared→Prop} {W:Nat→Nat→List V→Hp→Prop}
    (hc:X.calm = true) (hxe:X.xe = fun _ _=>False) (T:Turn X.prog X.w X.K tg J fp it tn) (hg:PG X tg g) (ht:PTs X ifs tt) (he:PE X elt te) (turn:iX J D σb g tt te Q W)
    (stat:∀ {H':Hp},(∀ b ∈ fp,H' b = none)→∀ b ∈ fp,hX X [] H' b)
    (fin:∀ {σ':St} {H':Hp} {s':Shared} {ys:List V},Inv X [] σ' H' s'→Q H' ys→R (.ok .next) s')
    {m0 i0:Nat} {ys0:List V} {H0:Hp} {s0:Shared} (I0:Inv X [] σb H0 s0) (st0:tn i0 s0.heap) (fr0:∀ b ∈ fp,H0 b = none) (w0:W i0 m0 ys0 H0) :
    codeAny (model X.prog X.w) X.A (.compLoop (.ListComp elt [⟨tg,iter,ifs,0⟩] sc pos) 0 (.ref it) (.ref D) X.env) R s0:=by
  have noE:∀ {E':Value→Shared→Prop} (e:Value) (s':Shared),X.xe e s'→E' e s':=fun {E'} e s' z=>by rw [hxe] at z; exact z.elim
  refine codeAny_loop rfl (fun n s'=>∃ i ys H',Inv X [] σb H' s'∧tn i s'.heap∧(∀ b ∈ fp,H' b = none)∧W i n ys H') ?_ m0 ⟨i0,ys0,H0,I0,st0,fr0,w0⟩
  rintro n s3 ⟨i,ys,H3,I3,st3,fr3,w3⟩
  show wpAny _ X.A ((compTurn (.ListComp elt [⟨tg,iter,ifs,0⟩] sc pos) 0 (.ref it) (.ref D) X.env).onRaise (fun x=>do noteFrame x X.env; theTreesLotGoes x)) _ _ s3
  refine wpAny_noted ?_
  rw [compTurn_list]
  refine wpAny_bind (wpAny_standAt (wpAny_bind ?_))
  obtain ⟨hDl,next⟩:=turn i n ys H3 w3
  rcases next with ⟨stop,q⟩ | ⟨go,step⟩
  · refine thn (T.done X rfl rfl rfl hc i [] s3 σb H3 _ I3 (stat fr3) st3 stop) fun r s4 ⟨hr,I4⟩=>?_
    subst hr
    exact wpAny_pure (fin I4 q)
  · refine thn (T.item X rfl rfl rfl hc i [] s3 σb H3 _ I3 (stat fr3) st3 go) fun r s4 ⟨u,hr,h4⟩=>?_
    subst hr
    refine wpAny_bind (thn h4 fun _ s5 ⟨x,H5,I5,r5,y5,st5,fr5⟩=>?_)
    have I5':=I5.pinned (stat fr5) (T.obj _ _ st5)
    have vz:∀ {σ':St} {H':Hp} {s':Shared},Inv X ([] ++ ju fp s5.heap) σ' H' s'→Wk σb σ'→Inv X [] σb H' s'∧tn (i + 1) s'.heap∧∀ b ∈ fp,H' b = none:=fun {σ' H' s'} I7 wk=>by
      refine ⟨(I7.unpinned).weak wk.len wk.get,T.keep _ _ _ st5 fun b hb o e=>(I7.pin (b,o) (List.mem_append_right _ (List.mem_append_right _ (fP hb e)))).1,fun b hb=>?_⟩
      obtain ⟨o,e,d⟩:=T.obj _ _ st5 b hb
      exact (I7.pin (b,o) (List.mem_append_right _ (List.mem_append_right _ (fP hb e)))).2.1
    refine wpAny_bind (wpAny_mono (hg _ s5 σb H5 x u _ I5' r5 (step x H5 y5)) (fun _ s6 ⟨σ6,H6,I6,wk,q6⟩=>?_) noE)
    refine wpAny_bind (wpAny_mono (ht _ s6 σ6 H6 _ I6 q6) (fun ok s7 ⟨H7,I7,q7⟩=>?_) noE)
    cases ok with
    | false =>
      obtain ⟨m',hm,w7⟩:=q7
      obtain ⟨b1,b2,b3⟩:=vz I7 wk
      exact wpAny_pure ⟨rfl,m',hm,i + 1,ys,H7,b1,b2,b3,w7⟩
    | true =>
      refine wpAny_bind (wpAny_bind (wpAny_mono (he _ s7 σ6 H7 _ I7 q7) (fun v s8 ⟨y,H8,I8,r8,hD8,hl8,m',hm,w8⟩=>?_) noE))
      refine wpAny_bind (wpAny_mono (ka _ s8 σ6 H8 (.ref D) [y] (.ref D) [v] (fun _ H9=>H9 = upd H8 D (.lst (ys ++ [y]))) I8 rfl (.cons r8 .nil) ⟨D,ys,y,rfl,rfl,hD8,hl8,rfl⟩) (fun _ s9 ⟨z,H9,I9,_,e9⟩=>?_) noE)
      subst e9
      obtain ⟨b1,b2,b3⟩:=vz I9 wk
      exact wpAny_pure (wpAny_pure ⟨rfl,m',hm,i + 1,ys ++ [y],_,b1,b2,b3,w8⟩)
theorem pr {pins:List (Addr×Obj)} {σ:St} {H:Hp} {s:Shared} {E:Value→Shared→Prop} {RR:Value→Addr→Result→Shared→Prop} {it:Addr} {fp:List Addr} {tn:Nat→Heap→Prop} {J:It} {Q:Addr→Hp→List V→Prop}
    (hc:X.calm = true) (c:CompOk X sc N ix) (B:Blk X sc N tg elt ifs g tt te) (I:Inv X pins σ H s) (T:Turn X.prog X.w X.K tg J fp it tn) (st:tn 0 s.heap) (hf:∀ b ∈ fp,hX X pins H b)
    (h:∀ D,H D = none→∃ W,(∃ m,W 0 m [] (upd H D (.lst [])))∧iX J D (pQ ix σ) g tt te (Q D) W)
    (hR:∀ D C H' s' ys,Inv X pins σ H' s'→hX X pins H' C→(∃ m,s'.heap.Ns C m)→Q D H' ys→RR (.ref D) C (.ok .next) s') :
    wpAny (model X.prog X.w) X.A (newList []) (fun acc s₃=>wpAny (model X.prog X.w) X.A (newFunctionEnv sc X.env.globals (eX X.env.cells sc.names []) [] X.env.qual none .none (some X.env)) (fun cenv s₄ =>
      codeAny (model X.prog X.w) X.A (.compStart (.ListComp elt [⟨tg,iter,ifs,0⟩] sc pos) 0 (.ref it) acc { cenv with scope:=relabel sc X.env }) (RR acc cenv.locals) s₄) E s₃) E s:=by
  have hlt:∀ b ∈ fp,b < s.heap.objs.size:=fun b hb=>let ⟨o,e,_⟩:=T.obj _ _ st b hb; Heap.lt_size e
  refine wpAny_newObj_type ?_ (by show 0≤sizeLine; exact Nat.zero_le _)
  have hD:H s.heap.objs.size = none:=I.hok.fresh (Nat.le_refl _)
  obtain ⟨W,⟨m0,w0⟩,turn⟩:=h s.heap.objs.size hD
  have I1:Inv X pins σ (upd H s.heap.objs.size (.lst [])) { s with heap:=s.heap.push { cls:=.type "list",data:=.seq ([]:List Value).toArray } }:=I.lnew (t':=s.toks) (its:=[]) .nil (Nat.zero_le _)
  have k1:∀ b o,s.heap.get? b = some o→(s.heap.push { cls:=.type "list",data:=.seq ([]:List Value).toArray }).get? b = some o:=fun b o e=>Heap.get?_push_of_some _ e
  have hne:∀ b ∈ fp,b≠s.heap.objs.size:=fun b hb=>Nat.ne_of_lt (hlt b hb)
  have hf1:∀ b ∈ fp,hX X pins (upd H s.heap.objs.size (.lst [])) b:=fun b hb=>⟨by rw [ao (hne b hb)]; exact (hf b hb).1,(hf b hb).2⟩
  have st1:tn 0 (s.heap.push { cls:=.type "list",data:=.seq ([]:List Value).toArray }):=T.keep _ _ _ st fun b _ o e=>k1 b o e
  generalize hs1:({ s with heap:=s.heap.push { cls:=.type "list",data:=.seq ([]:List Value).toArray } }:Shared) = s1 at I1
  have hs1h:s1.heap = s.heap.push { cls:=.type "list",data:=.seq ([]:List Value).toArray }:=by rw [← hs1]
  generalize hDe:s.heap.objs.size = D at *
  show wpAny _ _ _ _ _ s1
  refine wpAny_newFunctionEnv c.nc (by intro y hy; simp at hy) (fun h₁ hns₁ hsb₁=>?_) c.kind
  have old:∀ b o,s1.heap.get? b = some o→h₁.get? b = some o:=fun b o e=>(hsb₁.2 b (Nat.ne_of_lt (Heap.lt_size e))).trans (Heap.get?_push_of_some _ e)
  have hlt1:∀ b ∈ fp,b < s1.heap.objs.size:=fun b hb=>by
    obtain ⟨o,e,_⟩:=T.obj _ _ st1 b hb
    rw [hs1h]
    exact Heap.lt_size e
  have J0:=pP (h₁:=h₁) (t':=s1.toks + ([]:List (Str×Value)).length) c I1 hf1 hlt1 (Nat.le_refl _) (by simpa using hns₁) old
  have stB:tn 0 h₁:=T.keep _ _ _ (by rw [hs1h]; exact st1:tn 0 s1.heap) fun b _ o e=>old b o e
  have fpB:∀ {H':Hp},(∀ b ∈ fp,H' b = none)→∀ b ∈ fp,hX (cxB X sc s1.heap.objs.size N s1 (upd H D (.lst [])) fp) [] H' b:=fun {H'} hn b hb=>by
    obtain ⟨f0,f1,f2,f3,f4,f5⟩:=hf1 b hb
    refine ⟨hn b hb,Nat.ne_of_lt (hlt1 b hb),?_,.inl hb,fun x d e=>f4 x d (fc (c.cells I.ok) (fun n c z=>by simp at z) e),fun p hp=>absurd (show p ∈ ([]:List (Addr×Obj)) from hp) (by simp)⟩
    intro z
    rcases List.mem_cons.mp (I1.stkSub b z) with q | q
    · exact f1 q
    · exact f2 q
  have fin:∀ {σ':St} {H':Hp} {s':Shared} {ys:List V},Inv (cxB X sc s1.heap.objs.size N s1 (upd H D (.lst [])) fp) [] σ' H' s'→Q D H' ys→RR (.ref D) s1.heap.objs.size (.ok .next) s':=fun {σ' H' s' ys} J q =>
    hR D _ H' s' ys (ll I1 hf1 J) (I1.fpOk (Nat.le_refl _) J.free) (let ⟨m,hn,_⟩:=J.loc; ⟨m,hn⟩) q
  have loop:codeAny (model X.prog X.w) X.A (.compLoop (.ListComp elt [⟨tg,iter,ifs,0⟩] sc pos) 0 (.ref it) (.ref D) (cxB X sc s1.heap.objs.size N s1 (upd H D (.lst [])) fp).env) (RR (.ref D) s1.heap.objs.size) { s1 with heap:=h₁,toks:=s1.toks + ([]:List (Str×Value)).length } :=
    pX (X:=cxB X sc s1.heap.objs.size N s1 (upd H D (.lst [])) fp) hc rfl T (B.tg _ _ _ _) (B.tests _ _ _ _) (B.elt _ _ _ _) turn fpB fin J0 stB (fun b hb=>(hf1 b hb).1) w0
  exact codeAny_compStart_list loop (T.self _ 0 _ _ _ stB loop)
theorem bC (hc:X.calm = true) (c:CompOk X sc N ix) (hi:PI X tg iter wi) (B:Blk X sc N tg elt ifs g tt te) (hs:∀ x,foldedSetIterable iter X.env x = pure x:=by intro _; rfl):PE X (.ListComp elt [⟨tg,iter,ifs,0⟩] sc pos) (xM ix wi g tt te):=by
  intro pins s σ H Q I h
  rw [eval_ListComp]
  refine wpAny_comprehension_free (use:=none) rfl hs (i4 (c.cells I.ok)) c.kind c.nm (thn (hi pins s σ H _ I h) fun xv s₁ h₁=>thn h₁ fun itv s₂ h₂=>?_)
  obtain ⟨it,fp,tn,J,H2,e,I2,T,st2,f2,q2⟩:=h₂
  subst e
  refine pr (RR:=fun acc C=>compPost (model X.prog X.w) X.A X.xe none (EP X pins σ Q) acc C) (Q:=fun D H _=>Q (.ref D) H) hc c B I2 T st2 f2 q2 ?_
  intro D C H' s' ys I' fC ns q
  refine ⟨_,ns.choose_spec,fun h' sb=>⟨.ref D,H',?_,rfl,q⟩⟩
  obtain ⟨f0,f1,f2,f3,f4,f5⟩:=fC
  exact I'.turned (t':=s'.toks) (fun b o hb e=>(sb.2 b hb).trans e) f0 f1 f3 f4 f5
end
end L2
namespace L2
open PySem PySem.Spec PyProof.Rows
section
variable {κ:Type} [DecidableEq κ]
def cP (kvs:List (κ×V)) (k:κ):Option V:=(kvs.find? fun kv=>decide (kv.1 = k)).map (·.2)
def eW (kvs:List (κ×V)) (k:κ) (v:V):List (κ×V) :=
  if (kvs.any fun kv=>decide (kv.1 = k)) = true then kvs.map (fun kv=>if kv.1 = k then (kv.1,v) else kv) else kvs ++ [(k,v)]
def sd (kvs:List (κ×V)) (k:κ):List (κ×V):=kvs.filter fun kv=>decide (kv.1≠k)
theorem cK {p:κ×V} {r:List (κ×V)} {k:κ} (e:p.1 = k):cP (p :: r) k = some p.2:=by simp [cP,List.find?_cons,e]
theorem cM {p:κ×V} {r:List (κ×V)} {k:κ} (e:¬ p.1 = k):cP (p :: r) k = cP r k:=by simp [cP,List.find?_cons,e]
theorem fJ (k:κ):∀ kvs:List (κ×V),(kvs.any fun kv=>decide (kv.1 = k)) = (cP kvs k).isSome
  | []=>rfl
  | p :: r=>by
    rw [List.any_cons]
    by_cases e:p.1 = k
    · simp only [cK e,decide_eq_true e,Bool.true_or,Option.isSome_some]
    · rw [cM e,decide_eq_false e,Bool.false_or]; exact fJ k r
theorem lm (k j:κ) (y:V):∀ kvs:List (κ×V),cP (kvs.map fun kv=>if kv.1 = k then (kv.1,y) else kv) j = (cP kvs j).map fun x=>if j = k then y else x
  | []=>rfl
  | p :: r=>by
    have ih:=lm k j y r
    rw [List.map_cons]
    by_cases h:p.1 = k
    · rw [if_pos h]
      by_cases e:p.1 = j
      · rw [cK (p:=(p.1,y)) e,cK e,Option.map_some,if_pos (e.symm.trans h)]
      · rw [cM (p:=(p.1,y)) e,cM e,ih]
    · rw [if_neg h]
      by_cases e:p.1 = j
      · rw [cK (p:=p) e,cK e,Option.map_some,if_neg (fun z=>h (e.trans z))]
      · rw [cM (p:=p) e,cM e,ih]
theorem jU (k j:κ) (y:V):∀ kvs:List (κ×V),cP kvs k = none→cP (kvs ++ [(k,y)]) j = if j = k then some y else cP kvs j
  | [],_=>by
    by_cases e:k = j
    · rw [if_pos e.symm]; exact cK (p:=(k,y)) e
    · rw [if_neg (fun z=>e z.symm)]; exact cM (p:=(k,y)) e
  | p :: r,hn=>by
    rw [List.cons_append]
    have hk:¬ p.1 = k:=fun z=>by rw [cK z] at hn; cases hn
    rw [cM hk] at hn
    have ih:=jU k j y r hn
    by_cases e:p.1 = j
    · rw [cK e,cK e,if_neg (fun z=>hk (e.trans z))]
    · rw [cM e,cM e,ih]
theorem jo (kvs:List (κ×V)) (k j:κ) (y:V):cP (eW kvs k y) j = if j = k then some y else cP kvs j:=by
  unfold eW
  by_cases a:(kvs.any fun kv=>decide (kv.1 = k)) = true
  · rw [if_pos a,lm]
    rw [fJ] at a
    by_cases e:j = k
    · obtain ⟨x,hx⟩:=Option.isSome_iff_exists.mp a
      rw [if_pos e,e,hx,Option.map_some,if_pos rfl]
    · rw [if_neg e]
      cases cP kvs j with
      | none=>rfl
      | some x=>rw [Option.map_some,if_neg e]
  · rw [if_neg a]
    refine jU k j y kvs ?_
    rw [fJ] at a
    cases q:cP kvs k with
    | none=>rfl
    | some x=>rw [q] at a; exact (a rfl).elim
theorem iY (kvs:List (κ×V)) (k:κ) (v:V):(eW kvs k v).length≤kvs.length + 1:=by
  unfold eW
  split
  · rw [List.length_map]; lia
  · rw [List.length_append,List.length_cons,List.length_nil]; lia
theorem sj {kvs:List (κ×V)} {k:κ} (v:V) (h:cP kvs k = none):eW kvs k v = kvs ++ [(k,v)]:=by
  unfold eW
  rw [fJ,h]
  exact if_neg (by decide)
theorem RelO.isSome_eq {o:Option V} {u:Option Value} (r:RelO o u):o.isSome = u.isSome:=by
  cases o with
  | none=>cases u with
    | none=>rfl
    | some _=>exact (show False from r).elim
  | some _=>cases u with
    | none=>exact (show False from r).elim
    | some _=>rfl
theorem KV.val {kvs:List (κ×V)} {vs:List (κ×Value)} (r:KV kvs vs) (k:κ):RelO (cP kvs k) (valueAt vs k):=by
  unfold KV at r
  induction r with
  | nil=>exact True.intro
  | @cons p q ps qs h t ih =>
    obtain ⟨h1,h2⟩:=h
    by_cases e:p.1 = k
    · have e':q.1 = k:=h1.symm.trans e
      have b:valueAt (q :: qs) k = some q.2:=by simp [valueAt,List.find?_cons,e']
      rw [cK e,b]; exact h2
    · have e':¬ q.1 = k:=fun z=>e (h1.trans z)
      have b:valueAt (q :: qs) k = valueAt qs k:=by simp [valueAt,List.find?_cons,e']
      rw [cM e,b]; exact ih
theorem KV.any {kvs:List (κ×V)} {vs:List (κ×Value)} (r:KV kvs vs) (k:κ):(kvs.any fun kv=>decide (kv.1 = k)) = vs.any fun kv=>decide (kv.1 = k):=by
  unfold KV at r
  induction r with
  | nil=>rfl
  | cons h t ih=>rw [List.any_cons,List.any_cons,ih,h.1]
theorem KV.repl {kvs:List (κ×V)} {vs:List (κ×Value)} (r:KV kvs vs) (k:κ) {y:V} {u:Value} (ry:RelV y u) :
    KV (kvs.map fun kv=>if kv.1 = k then (kv.1,y) else kv) (vs.map fun kv=>if kv.1 = k then (kv.1,u) else kv):=by
  unfold KV at r ⊢
  induction r with
  | nil=>exact .nil
  | @cons p q ps qs h t ih =>
    rw [List.map_cons,List.map_cons]
    refine .cons ?_ ih
    obtain ⟨h1,h2⟩:=h
    by_cases e:p.1 = k
    · rw [if_pos e,if_pos (h1.symm.trans e)]; exact ⟨h1,ry⟩
    · rw [if_neg e,if_neg (fun z=>e (h1.trans z))]; exact ⟨h1,h2⟩
theorem KV.put {kvs:List (κ×V)} {vs:List (κ×Value)} (r:KV kvs vs) (k:κ) {y:V} {u:Value} (ry:RelV y u):KV (eW kvs k y) (stored vs k u):=by
  unfold eW stored
  rw [r.any k]
  by_cases e:(vs.any fun kv=>decide (kv.1 = k)) = true
  · rw [if_pos e,if_pos e]; exact r.repl k ry
  · rw [if_neg e,if_neg e]; exact Paired.snoc r ⟨rfl,ry⟩
theorem KV.length {kvs:List (κ×V)} {vs:List (κ×Value)} (r:KV kvs vs):kvs.length = vs.length:=Paired.length r
end
theorem nK {P:Program} {w:World} {k:Key} {u:Value} (r:RelV (kV k) u):(bH P w).is k u = true:=by
  cases k with
  | inl i=>obtain ⟨t,e⟩:=(show ∃ t,u = Value.int i t from r); subst e; exact md P w i t
  | inr x=>obtain ⟨t,e⟩:=(show ∃ t,u = Value.str x t from r); subst e; exact lz P w x t
theorem kc {P:Program} {w:World}:∀ {ks:List Key} {us:List Value},Vals (ks.map kV) us→ItemsAre (bH P w) ks us
  | [],_,r=>by rw [List.map_nil] at r; cases r; exact .nil
  | k :: ks,_,r=>by
    rw [List.map_cons] at r
    cases r with
    | cons h t=>exact .cons (nK h) (kc t)
abbrev KT (H:Hp):List (List Key×V)→List (List Key×Addr×Value)→Prop:=Paired fun p q=>p.1 = q.1∧H q.2.1 = some (.tup (p.1.map kV))∧RelV p.2 q.2.2
theorem KT.val {H:Hp} {kvs:List (List Key×V)} {xs:List (List Key×Addr×Value)} (r:KT H kvs xs) (k:List Key):RelO (cP kvs k) ((atKey xs k).map (·.2)):=by
  induction r with
  | nil=>exact True.intro
  | @cons p q ps qs h t ih =>
    obtain ⟨h1,_,h2⟩:=h
    by_cases e:p.1 = k
    · have e':q.1 = k:=h1.symm.trans e
      have b:atKey (q :: qs) k = some q.2:=by simp [atKey,List.find?_cons,e']
      rw [cK e,b]; exact h2
    · have e':¬ q.1 = k:=fun z=>e (h1.trans z)
      have b:atKey (q :: qs) k = atKey qs k:=by simp [atKey,List.find?_cons,e']
      rw [cM e,b]; exact ih
theorem KT.repl {H:Hp} {kvs:List (List Key×V)} {xs:List (List Key×Addr×Value)} (r:KT H kvs xs) (k:List Key) {y:V} {u:Value} (ry:RelV y u) :
    KT H (kvs.map fun kv=>if kv.1 = k then (kv.1,y) else kv) (xs.map (putAt k u)):=by
  induction r with
  | nil=>exact .nil
  | @cons p q ps qs h t ih =>
    rw [List.map_cons,List.map_cons]
    refine .cons ?_ ih
    obtain ⟨h1,h2,h3⟩:=h
    unfold putAt
    by_cases e:p.1 = k
    · rw [if_pos e,if_pos (h1.symm.trans e)]; exact ⟨h1,h2,ry⟩
    · rw [if_neg e,if_neg (fun z=>e (h1.trans z))]; exact ⟨h1,h2,h3⟩
theorem KT.put {H:Hp} {kvs:List (List Key×V)} {xs:List (List Key×Addr×Value)} (r:KT H kvs xs) (k:List Key) {b:Addr} {y:V} {u:Value} (hb:H b = some (.tup (k.map kV))) (ry:RelV y u) :
    KT H (eW kvs k y) (storedH xs k b u):=by
  have e:(kvs.any fun kv=>decide (kv.1 = k)) = (atKey xs k).isSome:=by
    rw [fJ,(r.val k).isSome_eq,Option.isSome_map]
  unfold eW storedH
  rw [e]
  by_cases q:(atKey xs k).isSome = true
  · rw [if_pos q,if_pos q]; exact r.repl k ry
  · rw [if_neg q,if_neg q]; exact Paired.snoc r ⟨rfl,hb,ry⟩
theorem KT.keeps {H H':Hp} {kvs:List (List Key×V)} {xs:List (List Key×Addr×Value)} (r:KT H kvs xs) (ht:∀ b ys,H b = some (.tup ys)→H' b = some (.tup ys)):KT H' kvs xs :=
  Paired.mapP r fun _ _ z=>⟨z.1,ht _ _ z.2.1,z.2.2⟩
section
variable {P:Program} {w:World} {H:Hp} {h:Heap} {a:Addr}
theorem uW {u:HO} (ok:HOk P w H h) (e:Rd H a u):ObjOk P w H h a u:=e.ok ok
theorem qt {kvs:List (Key×V)} (ok:HOk P w H h) (e:Rd H a (.dK kvs)):kvs.length≤sizeLine∧(a == sysModules) = false∧∃ vs,KV kvs vs∧h.DictOf (bH P w) a vs :=
  show ObjOk P w H h a (.dK kvs) from uW ok e
theorem oe {kvs:List (Key×V)} (ok:HOk P w H h) (e:H a = some (.dK kvs)):kvs.length≤sizeLine∧(a == sysModules) = false∧∃ vs,KV kvs vs∧h.DictOf (bH P w) a vs:=qt ok (.inl e)
theorem m9 {ks:List Key} (ok:HOk P w H h) (e:H a = some (.tup (ks.map kV))):(tupleKind (bH P w)).is h ks a:=by
  obtain ⟨_,its,r,o,h1,h2,n,h3⟩:=(show ObjOk P w H h a (.tup (ks.map kV)) from ok a _ e)
  exact ⟨o,its.toArray,n,h1,h2,h3,by simpa using kc r⟩
theorem qY {kvs:List (List Key×V)} (ok:HOk P w H h) (e:Rd H a (.dT kvs)):kvs.length≤sizeLine∧(a == sysModules) = false ∧
    ∃ xs,KT H kvs xs∧h.DictOfH (tupleKind (bH P w)) a xs:=by
  obtain ⟨z,y,xs,r,o,es,ep,h1,h2,h3,h4,h5⟩:=(show ObjOk P w H h a (.dT kvs) from uW ok e)
  refine ⟨z,y,xs,r,o,es,ep,h1,h2,h3,h4,fun x hx=>?_,h5⟩
  have all:∀ {l:List (List Key×V)} {m:List (List Key×Addr×Value)},KT H l m→∀ x ∈ m,(tupleKind (bH P w)).is h x.1 x.2.1:=by
    intro l m q
    induction q with
    | nil=>intro x hx; exact nomatch hx
    | @cons p q ps qs hq t ih =>
      intro x hx
      rcases List.mem_cons.mp hx with e | hx
      · subst e
        exact m9 ok (by rw [← hq.1]; exact hq.2.1)
      · exact ih x hx
  exact all r x hx
theorem wS {kvs:List (List Key×V)} (ok:HOk P w H h) (e:H a = some (.dT kvs)):kvs.length≤sizeLine∧(a == sysModules) = false ∧
    ∃ xs,KT H kvs xs∧h.DictOfH (tupleKind (bH P w)) a xs:=qY ok (.inl e)
end
def DGet (H:Hp) (a:Addr) (y:V) (r:Option V):Prop :=
  (∃ kvs k,Rd H a (.dK kvs)∧y = kV k∧r = cP kvs k)∨∃ kvs k b,Rd H a (.dT kvs)∧y = .ref b∧H b = some (.tup (k.map kV))∧r = cP kvs k
def DPut (H:Hp) (a:Addr) (y v:V) (H':Hp):Prop :=
  (∃ kvs k,H a = some (.dK kvs)∧y = kV k∧kvs.length < sizeLine∧H' = upd H a (.dK (eW kvs k v))) ∨
  ∃ kvs k b,H a = some (.dT kvs)∧y = .ref b∧H b = some (.tup (k.map kV))∧kvs.length < sizeLine∧H' = upd H a (.dT (eW kvs k v))
theorem DGet.k {H:Hp} {a:Addr} {kvs:List (Key×V)} {k:Key} (e:H a = some (.dK kvs)):DGet H a (kV k) (cP kvs k):=.inl ⟨kvs,k,.inl e,rfl,rfl⟩
theorem DGet.t {H:Hp} {a b:Addr} {kvs:List (List Key×V)} {k:List Key} (e:H a = some (.dT kvs)) (eb:H b = some (.tup (k.map kV))):DGet H a (.ref b) (cP kvs k):=.inr ⟨kvs,k,b,.inl e,rfl,eb,rfl⟩
theorem DPut.k {H:Hp} {a:Addr} {kvs:List (Key×V)} {k:Key} {v:V} (e:H a = some (.dK kvs)) (hl:kvs.length < sizeLine):DPut H a (kV k) v (upd H a (.dK (eW kvs k v))):=.inl ⟨kvs,k,e,rfl,hl,rfl⟩
theorem DPut.t {H:Hp} {a b:Addr} {kvs:List (List Key×V)} {k:List Key} {v:V} (e:H a = some (.dT kvs)) (eb:H b = some (.tup (k.map kV))) (hl:kvs.length < sizeLine) :
    DPut H a (.ref b) v (upd H a (.dT (eW kvs k v))):=.inr ⟨kvs,k,b,e,rfl,eb,hl,rfl⟩
section
variable {X:Cx} {pins:List (Addr×Obj)} {σ:St} {H:Hp} {s:Shared} {a:Addr} {y v:V} {u r:Value} {o:Option V} {A:Around} {E:Value→Shared→Prop}
theorem Inv.big (I:Inv X pins σ H s):sysModules < s.heap.objs.size:=by
  have h:mainGlobals < s.heap.objs.size:=(I.mod.glob.keeps I.bk).lt
  exact Nat.lt_trans (by decide) h
theorem pJ {Q:Value→Shared→Prop} (hu:A.units + 1 < cLine) (I:Inv X pins σ H s) (g:DGet H a y (some v)) (ry:RelV y u) (h:∀ w' s',Inv X pins σ H s'→RelV v w'→Q w' s') :
    wpAny (model X.prog X.w) A (getItem (.ref a) u) Q E s:=by
  rcases g with ⟨kvs,k,e,ey,l⟩ | ⟨kvs,k,b,e,ey,eb,l⟩
  · subst ey
    obtain ⟨z,hd,vs,rel,dd⟩:=qt I.hok e
    obtain ⟨w',hw,rw'⟩:=RelO.some_of (v:=v) (o:=valueAt vs k) (by rw [l]; exact rel.val k)
    exact wpAny_getItem_of (nK ry) dd.mapOf hw (h w' _ (I.tok _) rw')
  · subst ey
    cases (show u = Value.ref b from ry)
    obtain ⟨z,hd,xs,rel,dd⟩:=qY I.hok e
    obtain ⟨w',hw,rw'⟩:=RelO.some_of (v:=v) (o:=(atKey xs k).map (·.2)) (by rw [l]; exact rel.val k)
    obtain ⟨p,hp,hp2⟩:=Option.map_eq_some_iff.mp hw
    refine wpAny_getItem_heap (tupleKind_room_in1 hu) (m9 I.hok eb) dd hp ?_
    rw [hp2]
    exact h w' _ (I.tok _) rw'
theorem ko {h':Heap} {t':Nat} {ob:HO} (I:Inv X pins σ H s) (mu:Mut (H a)) (hs:Heap.SameBut a s.heap h') (he:∃ q,h'.get? a = some q) (new:ObjOk X.prog X.w (upd H a ob) h' a ob) :
    Inv X pins σ (upd H a ob) { s with heap:=h',toks:=t' } :=
  I.write (x:=a) (e:=a) mu (.inl rfl) (fun b q hb z=>(hs.2 b hb).trans z) he new
theorem sf {P:Program} {w:World} {H':Hp} {h':Heap} {kvs:List (Key×V)} {vs:List (Key×Value)} (z:kvs.length≤sizeLine) (hd:(a == sysModules) = false) (rel:KV kvs vs) (dd:h'.DictOf (bH P w) a vs) :
    ObjOk P w H' h' a (.dK kvs):=⟨z,hd,vs,rel,dd⟩
theorem pj {H':Hp} {Q:Unit→Shared→Prop} (hu:A.units + 1 < cLine) (I:Inv X pins σ H s) (g:DPut H a y v H') (ry:RelV y u) (rv:RelV v r) (h:∀ s',Inv X pins σ H' s'→Q () s') :
    wpAny (model X.prog X.w) A (setItem (.ref a) u r) Q E s:=by
  rcases g with ⟨kvs,k,e,ey,l,eH⟩ | ⟨kvs,k,b,e,ey,eb,l,eH⟩
  · subst ey eH
    obtain ⟨z,hd,vs,rel,dd⟩:=oe I.hok e
    have hz:vs.length≤sizeLine:=by rw [← rel.length]; exact z
    have hl:(eW kvs k v).length≤sizeLine:=by have:=iY kvs k v; lia
    refine wpAny_setItem_pairs (hsz:=hz) (nK ry) dd fun h' dd' hs=>h _ ?_
    have he:∃ q,h'.get? a = some q:=let ⟨q,_,_,hq,_⟩:=dd'; ⟨q,hq⟩
    exact ko I (by rw [e]; exact True.intro) hs he (sf hl hd (rel.put k rv) dd')
  · subst ey eH
    cases (show u = Value.ref b from ry)
    obtain ⟨z,hd,xs,rel,dd⟩:=wS I.hok e
    have hz:xs.length≤sizeLine:=by rw [← Paired.length rel]; exact z
    have hl:(eW kvs k v).length≤sizeLine:=by have:=iY kvs k v; lia
    refine wpAny_setItem_heap (hsz:=hz) (tupleKind_room_in1 hu) (m9 I.hok eb) dd fun h' dd' hs=>h _ ?_
    obtain ⟨q,es,ep,hq,h2,h3,h4,_,h5⟩:=dd'
    refine ko I (by rw [e]; exact True.intro) hs ⟨q,hq⟩ ⟨hl,hd,_,(rel.put k eb rv).keeps fun c ys ec=>?_,q,es,ep,hq,h2,h3,h4,h5⟩
    rw [ao (oH ec e (fun z=>nomatch z))]
    exact ec
end
section
variable {X:Cx} {pins:List (Addr×Obj)} {σ:St} {H:Hp} {s:Shared} {a:Addr} {kvs:List (Key×V)} {k:Key} {u:Value} {A:Around} {E:Value→Shared→Prop}
end
def xy (i:Expr):Prop:=∀ ov iv,subscripted i false ov iv = operate [ov,iv] (getItem ov iv)
theorem tQ {prog:Program} {w:World} {A:Around} {E:Value→Shared→Prop} {s:Shared} {env:Env} {value slice:Expr} {pos:Pos} {T id:String} {Q:Value→Shared→Prop}
    (hl:typeLookup (.type T) "__getitem__" = pure (some (.builtin id))) (hs:xy slice)
    (h:wpAny (model prog w) A (eval value env) (fun o s₁=>wpAny (model prog w) A (eval slice env) (fun i s₂=>s₂.TypeIs o T∧wpAny (model prog w) A (getItem o i) Q E s₂) E s₁) E s) :
    wpAny (model prog w) A (eval (.Subscript value slice pos) env) Q E s:=by
  refine Subscript_ (wpAny_mono h (fun o s₁ h₁=>wpAny_mono h₁ (fun i s₂ h₂=>?_) fun _ _ x=>x) fun _ _ x=>x)
  obtain ⟨hT,h₂⟩:=h₂
  unfold subscriptTail
  refine wpAny_bind ?_
  rw [getitemInPython_of_ne hT.not_modules]
  refine wpAny_bind (wpAny_specialOf hT hl ?_)
  have fin:wpAny (model prog w) A (subscripted slice false o i) (fun r s₃=>wpAny (model prog w) A (letTemporaryGo value o r >>= fun _=>pure r) Q E s₃) E s₂:=by
    rw [hs o i]
    exact wpAny_operating (wpAny_mono h₂ (fun r s₃ h₃=>wpAny_bind (wpAny_letTemporaryGo (wpAny_pure h₃))) fun _ _ x=>x)
  first
    | exact wpAny_pure (wpAny_bind fin)
    | exact wpAny_bind (wpAny_pure (wpAny_bind fin))
    | exact wpAny_bind fin
theorem lw {X:Cx} {pins:List (Addr×Obj)} {σ:St} {H:Hp} {s:Shared} {a:Addr} {y:V} {o:Option V} (I:Inv X pins σ H s) (g:DGet H a y o):s.TypeIs (.ref a) "dict" := by
  rcases g with ⟨kvs,k,e,_,_⟩ | ⟨kvs,k,b,e,_,_,_⟩
  · obtain ⟨_,_,vs,_,dd⟩:=qt I.hok e
    exact dd.typeIs
  · obtain ⟨_,_,xs,_,dd⟩:=qY I.hok e
    exact dd.typeIs
inductive rDGet (x y:V) (H:Hp) (Q:VK):Prop
  | mk (a:Addr) (v:V) (h0:x = .ref a) (h1:DGet H a y (some v)) (h2:Q v H):rDGet x y H Q
def xL (td ty:TE):TE:=fun σ H Q=>td σ H fun x H1=>ty σ H1 fun y H2=>rDGet x y H2 Q
def Ae (ty td:TE):TE:=fun σ H Q=>ty σ H fun y H1=>td σ H1 fun x H2=>∃ a o,x = .ref a∧DGet H2 a y o∧Q (.bl o.isSome) H2
def ym (ty td:TE):TE:=fun σ H Q=>ty σ H fun y H1=>td σ H1 fun x H2=>∃ a o,x = .ref a∧DGet H2 a y o∧Q (.bl (!o.isSome)) H2
def xx (td ty tv:TE):TS:=fun D σ H=>tv σ H fun v H1=>td σ H1 fun x H2=>ty σ H2 fun y H3=>∃ a H4,x = .ref a∧DPut H3 a y v H4∧D.nx σ H4
def zD (td ty tv:TE) (rd:V→V→Hp→VK→Prop):TS:=fun D σ H=>td σ H fun x H1=>ty σ H1 fun y H2=>∃ a v,x = .ref a∧DGet H2 a y (some v) ∧
  tv σ H2 fun y2 H3=>rd v y2 H3 fun z H4=>∃ H5,DPut H4 a y z H5∧D.nx σ H5
def zK (td ty:TE):TS:=fun D σ H=>td σ H fun x H1=>ty σ H1 fun y H2=>∃ a kvs k,x = .ref a∧H2 a = some (.dK kvs)∧y = kV k∧(cP kvs k).isSome = true∧D.nx σ (upd H2 a (.dK (sd kvs k)))
section
variable {X:Cx} {o i e value:Expr} {pos pos' tpos:Pos} {td ty tv:TE}
theorem uF (hu:X.A.units + 1 < cLine) (ho:PE X o td) (hi:PE X i ty) (hs:xy i):PE X (.Subscript o i pos) (xL td ty):=by
  intro pins s σ H Q I h
  refine tQ PySem.F.slot_dict_getitem.lookup hs (thn (ho pins s σ H _ I h) fun u s1 ⟨x,H1,I1,rx,q1⟩=>thn (hi pins s1 σ H1 _ I1 q1) fun iv s2 ⟨y,H2,I2,ry,a,v,ex,g,q2⟩=>?_)
  subst ex
  obtain rfl:u = Value.ref a:=rx
  exact ⟨lw I2 g,pJ hu I2 g ry fun w' s3 I3 rw'=>⟨v,H2,I3,rw',q2⟩⟩
theorem sH (hu:X.A.units + 1 < cLine) (ho:PE X o td) (hi:PE X i ty) (hv:PE X value tv) (hs:swapsWith value (some (.Subscript o i pos')) pos.line X.env = pure false) :
    PS X (.Assign [.Subscript o i pos'] value pos) (xx td ty tv):=by
  intro pins s σ H D I h
  refine wpAny_Assign_Subscript (thn (hv pins s σ H _ I h) fun r s1 ⟨v,H1,I1,rv,q1⟩=>thn (ho pins s1 σ H1 _ I1 q1) fun u s2 ⟨x,H2,I2,rx,q2⟩=>thn (hi pins s2 σ H2 _ I2 q2) fun iv s3 ⟨y,H3,I3,ry,a,H4,ex,g,q3⟩=>?_) hs
  subst ex
  obtain rfl:u = Value.ref a:=rx
  exact pj hu I3 g ry rv fun s4 I4=>⟨σ,H4,I4,q3⟩
end
theorem rg {P:Program} {w:World} {H:Hp} (h:Heap) (hb:sysModules < h.objs.size):ObjOk P w H (h.push { cls:=.type "dict",data:=.dict #[] }) h.objs.size (.dK []) :=
  ⟨Nat.zero_le _,beq_eq_false_iff_ne.mpr (Ne.symm (Nat.ne_of_lt hb)),[],.nil,Heap.DictOf.new h⟩
def vo:TE:=fun _ H Q=>∀ p,H p = none→Q (.ref p) (upd H p (.dK []))
def zf:TE:=fun _ H Q=>∀ p,H p = none→Q (.ref p) (upd H p (.dT []))
section
variable {X:Cx} {pos:Pos}
theorem jH:PE X (.Dict [] [] pos) vo:=fun pins s σ H Q I h =>
  wpAny_Dict_empty ⟨.ref s.heap.objs.size,_,I.laid (a:=s.heap.objs.size) (o:=.dK []) (t':=s.toks) (fun _ _ q=>Heap.get?_push_of_some _ q) (Nat.le_refl _) (rg s.heap I.big),rfl,h _ (I.hok.fresh (Nat.le_refl _))⟩
end
def mD:List (TE×TE)→St→Hp→(List (V×V)→Hp→Prop)→Prop
  | [],_,H,Q=>Q [] H
  | (tk,tv) :: r,σ,H,Q=>tk σ H fun x H1=>tv σ H1 fun y H2=>mD r σ H2 fun ps H3=>Q ((x,y) :: ps) H3
abbrev VV:List (V×V)→List (Value×Value)→Prop:=Paired fun p q=>RelV p.1 q.1∧RelV p.2 q.2
def PPs (X:Cx) (pos:Pos) (keys:List (Option Expr)) (values:List Expr) (trs:List (TE×TE)):Prop :=
  ∀ (pins:List (Addr×Obj)) (s:Shared) (σ:St) (H:Hp) (Q:List (V×V)→Hp→Prop),Inv X pins σ H s→mD trs σ H Q →
    wpAny (model X.prog X.w) X.A (evalPairs (pairTrees keys values X.env pos)) (fun vs s'=>∃ ps H',Inv X pins σ H' s'∧VV ps vs∧Q ps H') X.xe s
def vB (kvs more:List (Key×V)):List (Key×V):=more.foldl (fun acc kv=>eW acc kv.1 kv.2) kvs
def zQ (trs:List (TE×TE)):TE:=fun σ H Q=>∀ p,H p = none→mD trs σ (upd H p (.dK [])) fun ps H2=>H2 p = some (.dK [])∧∃ kvs:List (Key×V),ps = kvs.map (fun kv=>(kV kv.1,kv.2))∧kvs.length≤15∧Q (.ref p) (upd H2 p (.dK (vB [] kvs)))
structure M1 (X:Cx) (o:Expr) (m:Str) (apos:Pos) (e:Expr) (cpos:Pos):Prop where
  base:attributeBase o m X.env (eval o X.env) = eval o X.env
  few:((backTo cpos (starEach [e] X.env)).all (fun x=>!x.1) && (backToKw cpos (keywordEach [] X.env)).all (fun x=>x.1.isSome)
    && decide (([e]:List Expr).length + ([]:List Keyword).length + (if ([]:List Keyword).isEmpty then 0 else 1) < 30)) = true
  line:(apos.endLine == cpos.line) = true
  trees:backTo cpos (starEach [e] X.env) = [(false,eval e X.env)]
structure M2 (X:Cx) (o:Expr) (m:Str) (apos:Pos) (e f:Expr) (cpos:Pos):Prop where
  base:attributeBase o m X.env (eval o X.env) = eval o X.env
  few:((backTo cpos (starEach [e,f] X.env)).all (fun x=>!x.1) && (backToKw cpos (keywordEach [] X.env)).all (fun x=>x.1.isSome)
    && decide (([e,f]:List Expr).length + ([]:List Keyword).length + (if ([]:List Keyword).isEmpty then 0 else 1) < 30)) = true
  line:(apos.endLine == cpos.line) = true
  trees:backTo cpos (starEach [e,f] X.env) = [(false,eval e X.env),(false,eval f X.env)]
def IsD (H:Hp) (a:Addr):Prop:=(∃ kvs,Rd H a (.dK kvs))∨∃ kvs,Rd H a (.dT kvs)
section
variable {X:Cx} {pins:List (Addr×Obj)} {σ:St} {H:Hp} {s:Shared} {a:Addr} {y d:V} {u r:Value} {o:Option V} {A:Around} {E:Value→Shared→Prop}
end
def zv (td ty:TE):TE:=fun σ H Q=>td σ H fun x H1=>∃ a,x = .ref a∧IsD H1 a∧ty σ H1 fun y H2=>∃ o,DGet H2 a y o∧Q (o.getD .non) H2
def yZ (td ty tx:TE):TE:=fun σ H Q=>td σ H fun x H1=>∃ a,x = .ref a∧IsD H1 a∧ty σ H1 fun y H2=>tx σ H2 fun z H3=>∃ o,DGet H3 a y o∧Q (o.getD z) H3
def zw (td ty:TE):TE:=fun σ H Q=>td σ H fun x H1=>∃ a,x = .ref a∧IsD H1 a∧ty σ H1 fun y H2=>∃ kvs k v,H2 a = some (.dK kvs)∧y = kV k∧cP kvs k = some v∧Q v (upd H2 a (.dK (sd kvs k)))
def yK (td ty tx:TE):TE:=fun σ H Q=>td σ H fun x H1=>∃ a,x = .ref a∧IsD H1 a∧ty σ H1 fun y H2=>tx σ H2 fun z H3=>∃ kvs k,H3 a = some (.dK kvs)∧y = kV k ∧
  (∀ v,cP kvs k = some v→Q v (upd H3 a (.dK (sd kvs k))))∧(cP kvs k = none→Q z H3)
section
variable {X:Cx} {o e f:Expr} {apos cpos:Pos} {td ty tx:TE}
end
section
variable {X:Cx} {pins:List (Addr×Obj)} {σ:St} {H:Hp} {s:Shared} {a:Addr} {kvs:List (Key×V)} {A:Around} {E:Value→Shared→Prop}
end
section
variable {X:Cx} {pins:List (Addr×Obj)} {σ:St} {H:Hp} {s:Shared} {a:Addr} {y:V} {u:Value} {A:Around} {E:Value→Shared→Prop}
end
end L2
namespace L2
open PySem PySem.Spec PyProof.Rows
theorem OpR.imp {X:Cx} {f:Value→Value→Sem Value} {r r':R2} (h:OpR X f r) (i:∀ x y H Q,r' x y H Q→r x y H Q):OpR X f r' :=
  fun pins s σ H x y v u Q I rx ry q=>h pins s σ H x y v u Q I rx ry (i x y H Q q)
theorem CallR.imp {X:Cx} {f:Value} {r r':List V→Hp→VK→Prop} (h:CallR X f r) (i:∀ xs H Q,r' xs H Q→r xs H Q):CallR X f r' :=
  fun pins s σ H xs us Q I rs q=>h pins s σ H xs us Q I rs (i xs H Q q)
def tV (i:Nat):TE:=fun σ H Q=>match σ[i]? with
  | some (some v)=>Q v H
  | _=>False
theorem vr {X:Cx} (i:Nat) {x:Str} {pos:Pos} (hN:X.N[i]? = some x:=by rfl) (hv:Vis X.env.scope x:=by first | exact Or.inl rfl | exact Or.inr (Or.inl rfl) | exact Or.inr (Or.inr rfl)) (hd:(x == ("__debug__" : Str)) = false:=by decide)
    (hcd:(x == ("__classdict__" : Str)) = false:=by decide):PE X (.Name x pos) (tV i):=fun pins s σ H Q I h=>by
  refine wo hN hv hd hcd pins s σ H Q I ?_
  unfold tV at h
  split at h
  · rename_i v e
    exact ⟨v,e,h⟩
  · exact h.elim
def rI2 (g:Int→Int→V):R2:=fun x y H Q=>match x,y with
  | .int i,.int j=>Q (g i j) H
  | _,_=>False
def rIC (C:Int→Int→Prop) (g:Int→Int→V):R2:=fun x y H Q=>match x,y with
  | .int i,.int j=>C i j∧Q (g i j) H
  | _,_=>False
theorem OpR.i2 {X:Cx} {f:Value→Value→Sem Value} {g:Int→Int→V} (h:OpR X f (rI0 g)):OpR X f (rI2 g):=h.imp fun x y H Q q=>by
  cases x <;> cases y <;> first | exact ⟨_,_,rfl,rfl,q⟩ | exact (show False from q).elim
theorem OpR.ic {X:Cx} {f:Value→Value→Sem Value} {C:Int→Int→Prop} {g:Int→Int→V} (h:OpR X f (rI C g)):OpR X f (rIC C g):=h.imp fun x y H Q q=>by
  cases x <;> cases y <;> first | exact ⟨_,_,rfl,rfl,q.1,q.2⟩ | exact (show False from q).elim
section
variable {X:Cx}
def yc:R2:=fun x y H Q=>match x,y with
  | .int i,.int j=>Q (.int (i + j)) H
  | .str i,.str j=>i.length + j.length≤sizeLine∧Q (.str (i ++ j)) H
  | _,_=>False
theorem eR:OpR X (binaryOp .Add) yc:=(op_add.or mj).imp fun x y H Q q=>by
  cases x <;> cases y <;> first | exact .inl ⟨_,_,rfl,rfl,q⟩ | exact .inr ⟨_,_,rfl,rfl,q.1,q.2⟩ | exact (show False from q).elim
theorem fj:OpR X (binaryOp .Sub) (rI2 fun i j=>.int (i - j)):=op_sub.i2
def yf (i j:Int):Prop:=0 < j
def CNn (i j:Int):Prop:=0≤j
theorem cp {i j:Int} (h:0 < j:=by decide):yf i j:=h
theorem cn {i j:Int} (h:0≤j:=by decide):CNn i j:=h
theorem cd {i j:Int} (h:0 < j:=by decide) (h2:j < 1073741824:=by decide):zr i j:=⟨h,h2⟩
theorem cw {i j:Int} (h:0≤j:=by decide) (h2:j≤1000000:=by decide) (h3:i.natAbs < 2 ^ 64:=by decide):vI i j:=⟨h,h2,h3⟩
theorem cl {i j:Int} (h:-(2 ^ 64) < i:=by decide) (h2:i < 2 ^ 64:=by decide):CMul i j:=.inl ⟨h,h2⟩
theorem cr {i j:Int} (h:-(2 ^ 64) < j:=by decide) (h2:j < 2 ^ 64:=by decide):CMul i j:=.inr ⟨h,h2⟩
theorem fN:OpR X (binaryOp .Mod) (rIC yf fun i j=>.int (i % j)):=op_mod.ic
theorem jZ:OpR X (binaryOp .Pow) (rIC vI fun i j=>.int (i ^ j.toNat)):=op_pow.ic
theorem pS:OpR X (compareOp .LtE) (fun x y H Q=>∃ i j,x = .str i∧y = .str j∧Q (.bl (!decide (j.cps.toList < i.cps.toList))) H):=by
  intro pins s σ H x y v u Q I rx ry h
  obtain ⟨i,j,rfl,rfl,q⟩:=h
  obtain ⟨t,rfl⟩:=rx
  obtain ⟨t',rfl⟩:=ry
  exact PySem.P.le_str (aV I q rfl)
def uS (f:Int→Int→Bool) (g:Str→Str→Bool):R2:=fun x y H Q=>match x,y with
  | .int i,.int j=>Q (.bl (f i j)) H
  | .str i,.str j=>Q (.bl (g i j)) H
  | _,_=>False
theorem qD:OpR X (compareOp .Lt) (uS (fun i j=>decide (i < j)) fun i j=>decide (i.cps.toList < j.cps.toList)):=(op_lt.or pV).imp fun x y H Q q=>by
  cases x <;> cases y <;> first | exact .inl ⟨_,_,rfl,rfl,q⟩ | exact .inr ⟨_,_,rfl,rfl,q⟩ | exact (show False from q).elim
theorem nu:OpR X (compareOp .LtE) (uS (fun i j=>decide (i≤j)) fun i j=>!decide (j.cps.toList < i.cps.toList)):=(op_le.or pS).imp fun x y H Q q=>by
  cases x <;> cases y <;> first | exact .inl ⟨_,_,rfl,rfl,q⟩ | exact .inr ⟨_,_,rfl,rfl,q⟩ | exact (show False from q).elim
theorem wG:OpR X (compareOp .Gt) (rI2 fun i j=>.bl (decide (j < i))):=op_gt.i2
def tL (neg:Bool):R2:=fun x y H Q=>match x,y with
  | .int i,.int j=>Q (.bl (if neg then !decide (i = j) else decide (i = j))) H
  | .str i,.str j=>Q (.bl (if neg then !decide (i = j) else decide (i = j))) H
  | .bl i,.bl j=>Q (.bl (if neg then !decide (i = j) else decide (i = j))) H
  | .non,.non=>Q (.bl (!neg)) H
  | .non,.int _=>Q (.bl neg) H
  | .non,.str _=>Q (.bl neg) H
  | .non,.bl _=>Q (.bl neg) H
  | .int _,.non=>Q (.bl neg) H
  | .str _,.non=>Q (.bl neg) H
  | .bl _,.non=>Q (.bl neg) H
  | .int _,.str _=>Q (.bl neg) H
  | .str _,.int _=>Q (.bl neg) H
  | _,_=>False
theorem fA:OpR X (compareOp .Eq) (tL false):=op_eq.imp fun x y H Q q=>by
  cases x <;> cases y <;> first | exact (show False from q).elim | (refine ⟨rfl,?_⟩; revert q; simp [tL])
theorem za:OpR X (compareOp .NotEq) (tL true):=op_ne.imp fun x y H Q q=>by
  cases x <;> cases y <;> first | exact (show False from q).elim | (refine ⟨rfl,?_⟩; revert q; simp [tL])
def rU1 (g:Int→V):V→Hp→VK→Prop:=fun x H Q=>match x with
  | .int i=>Q (g i) H
  | _=>False
theorem qJ:UnR X (unaryOp .USub) (rU1 fun i=>.int (-i)):=fun pins s σ H x v Q I r q=>we pins s σ H x v Q I r (by
  cases x <;> first | exact ⟨_,rfl,q⟩ | exact (show False from q).elim)
theorem xJ:OpR X (compareOp .Is) (fun x y H Q=>match y with | .non=>Q (.bl (decide (x = .non))) H | _=>False):=op_isN.imp fun x y H Q q=>by
  cases y <;> first | exact ⟨rfl,q⟩ | exact (show False from q).elim
theorem nO:OpR X (compareOp .IsNot) (fun x y H Q=>match y with | .non=>Q (.bl (!decide (x = .non))) H | _=>False):=op_notN.imp fun x y H Q q=>by
  cases y <;> first | exact ⟨rfl,q⟩ | exact (show False from q).elim
def yC (neg:Bool):R2:=fun x y H Q=>match x,y with
  | .str i,.str j=>Q (.bl (if neg then (Builtin.Str.occurrences j i 0 j.length 1).isEmpty else !(Builtin.Str.occurrences j i 0 j.length 1).isEmpty)) H
  | _,_=>False
theorem xt:OpR X (compareOp .In) (yC false):=op_in_str.imp fun x y H Q q=>by
  cases x <;> cases y <;> first | exact ⟨_,_,rfl,rfl,q⟩ | exact (show False from q).elim
def mB (Q:Bool→Hp→Prop):VK:=fun x H=>match x with
  | .bl c=>Q c H
  | _=>False
variable {a b c:Expr} {ta tb tc:TE} {pos:Pos} {rest:List Expr}
def yB (ta tb:TE):TE:=fun σ H Q=>ta σ H (mB fun c H1=>if c = true then tb σ H1 Q else Q (.bl false) H1)
def mOr (ta tb:TE):TE:=fun σ H Q=>ta σ H (mB fun c H1=>if c = true then Q (.bl true) H1 else tb σ H1 Q)
def zm (ta:TE):TE:=fun σ H Q=>ta σ H (mB fun c H1=>Q (.bl (!c)) H1)
theorem iD {Q:Bool→Hp→Prop} {x:V} {H:Hp} (h:mB Q x H):∃ c,x = .bl c∧Q c H:=by
  cases x <;> first | exact ⟨_,rfl,h⟩ | exact (show False from h).elim
theorem fV (ha:PE X a ta) (hb:PE X (.BoolOp .And (b :: rest) pos) tb):PE X (.BoolOp .And (a :: b :: rest) pos) (yB ta tb):=by
  intro pins s σ H Q I h
  refine BoolOp_and (thn (ha pins s σ H _ I h) fun v s1 ⟨x,H1,I1,r1,q1⟩=>?_)
  obtain ⟨c,rfl,q1⟩:=iD q1
  cases r1
  refine wpAny_truthy_bool ?_
  cases c with
  | true=>exact hb pins s1 σ H1 Q I1 q1
  | false=>exact ⟨.bl false,H1,I1,rfl,q1⟩
theorem yJ (ha:PE X a ta) (hb:PE X (.BoolOp .Or (b :: rest) pos) tb):PE X (.BoolOp .Or (a :: b :: rest) pos) (mOr ta tb):=by
  intro pins s σ H Q I h
  refine BoolOp_or (thn (ha pins s σ H _ I h) fun v s1 ⟨x,H1,I1,r1,q1⟩=>?_)
  obtain ⟨c,rfl,q1⟩:=iD q1
  cases r1
  refine wpAny_truthy_bool ?_
  cases c with
  | false=>exact hb pins s1 σ H1 Q I1 q1
  | true=>exact ⟨.bl true,H1,I1,rfl,q1⟩
theorem xW (ha:PE X a ta):PE X (.UnaryOp .Not a pos) (zm ta):=by
  intro pins s σ H Q I h
  refine UnaryOp_ (thn (ha pins s σ H _ I h) fun v s1 ⟨x,H1,I1,r1,q1⟩=>?_)
  obtain ⟨c,rfl,q1⟩:=iD q1
  cases r1
  exact not_of (wpAny_truthy_bool ⟨.bl (!c),H1,I1,rfl,q1⟩)
def mT (t:TE):TT:=fun σ H Q=>t σ H (mB Q)
theorem gg (h:PE X a ta) (he:∀ whole,isTrue a X.env whole = (do let v ← whole; standAt a.pos; holding [v] (truthy v)):=by intro _; rfl):PT X a (mT ta):=by
  intro pins s σ H Q I hw
  refine isTrue_plain (thn (h pins s σ H _ I hw) fun v s1 ⟨x,H1,I1,r1,q1⟩=>?_) (he _)
  obtain ⟨d,rfl,q⟩:=iD q1
  cases r1
  exact wpAny_truthy_bool ⟨H1,I1,q⟩
theorem bz {op:CmpOp} {r:R2} (ho:OpR X (compareOp op) r) (ha:PE X a ta) (hb:PE X b tb) (hm:behindInMarks op b = false):PT X (.Compare a [op] [b] pos) (mT (tOp r ta tb)):=by
  intro pins s σ H Q I h
  refine wpAny_isTrue_Compare1 (thn (ha pins s σ H _ I h) fun v s1 ⟨x,H1,I1,r1,q1⟩=>thn (hb pins s1 σ H1 _ I1 q1) fun u s2 ⟨y,H2,I2,r2,q2⟩ =>
    thn (ho pins s2 σ H2 x y v u _ I2 r1 r2 q2) fun c s3 ⟨z,H3,I3,r3,q3⟩=>?_) hm
  obtain ⟨k,rfl,q3⟩:=iD q3
  cases r3
  exact wpAny_truthy_bool ⟨H3,I3,q3⟩
def wf (r r':R2) (ta tb tc:TE):TE:=fun σ H Q=>ta σ H fun x H1=>tb σ H1 fun y H2=>r x y H2 (mB fun k H3=>if k = true then tc σ H3 fun w' H4=>r' y w' H4 Q else Q (.bl false) H3)
theorem kD {op op':CmpOp} {r r':R2} (ho:OpR X (compareOp op) r) (ho':OpR X (compareOp op') r') (ha:PE X a ta) (hb:PE X b tb) (hc:PE X c tc)
    (hm:lastMarks [op,op'] [b,c] = false:=by with_unfolding_all rfl):PE X (.Compare a [op,op'] [b,c] pos) (wf r r' ta tb tc):=by
  intro pins s σ H Q I h
  refine Compare_chain (thn (ha pins s σ H _ I h) fun v s1 ⟨x,H1,I1,r1,q1⟩=>chain_link (thn (hb pins s1 σ H1 _ I1 q1) fun u s2 ⟨y,H2,I2,r2,q2⟩ =>
    thn (ho pins s2 σ H2 x y v u _ I2 r1 r2 q2) fun d s3 ⟨z,H3,I3,r3,q3⟩=>?_)) hm
  obtain ⟨k,rfl,q3⟩:=iD q3
  cases r3
  refine wpAny_truthy_bool ?_
  cases k with
  | false=>exact ite_ff ⟨.bl false,H3,I3,rfl,q3⟩
  | true=>exact ite_tt (chain_last (thn (hc pins s3 σ H3 _ I3 q3) fun w' s4 ⟨z',H4,I4,r4,q4⟩=>ho' pins s4 σ H4 y z' u w' Q I4 r2 r4 q4))
open PySem.W in
theorem mX {pins:List (Addr×Obj)} {σ:St} {H:Hp} {s:Shared} {x:V} {u t:Value} (I:Inv X pins σ H s) (rx:RelV x u) (ty:TyOf X.K H x t) :
    ∃ Hh:Heap→Prop,KitX X.K u t Hh∧Hh s.heap∧u≠.builtin "__main__.__loader__#opaque" := by
  cases ty with
  | non=>cases (show u = Value.none from rx); exact ⟨_,PySem.W.kitx_none,True.intro,fun z=>nomatch z⟩
  | bl y=>cases (show u = Value.bool y from rx); exact ⟨_,PySem.W.kitx_bool,True.intro,fun z=>nomatch z⟩
  | int i=>obtain ⟨t,q⟩:=(show ∃ t,u = Value.int i t from rx); cases q; exact ⟨_,PySem.W.kitx_int,True.intro,fun z=>nomatch z⟩
  | str y=>obtain ⟨t,q⟩:=(show ∃ t,u = Value.str y t from rx); cases q; exact ⟨_,PySem.W.kitx_str,True.intro,fun z=>nomatch z⟩
  | flt y=>obtain ⟨t,q⟩:=(show ∃ t,u = Value.float y t from rx); cases q; exact ⟨_,PySem.W.kitx_float,True.intro,fun z=>nomatch z⟩
  | @lst a xs ea =>
    cases (show u = Value.ref a from rx)
    obtain ⟨_,_,n,_,h1⟩:=(show ObjOk X.prog X.w H s.heap a (.lst xs) from I.hok a _ ea)
    exact ⟨_,PySem.W.kitx_list,⟨_,h1,rfl⟩,fun z=>nomatch z⟩
  | @frz a ob xs ea =>
    cases (show u = Value.ref a from rx)
    obtain ⟨_,_,_,n,_,h1⟩:=(show ObjOk X.prog X.w H s.heap a (.frz ob (.lst xs)) from I.hok a _ ea)
    exact ⟨_,PySem.W.kitx_list,⟨_,h1,rfl⟩,fun z=>nomatch z⟩
  | @tup a xs ea =>
    cases (show u = Value.ref a from rx)
    obtain ⟨_,_,_,p⟩:=(show ObjOk X.prog X.w H s.heap a (.tup xs) from I.hok a _ ea)
    obtain ⟨o,h1,h2,_⟩:=p
    exact ⟨_,PySem.W.kitx_tuple,⟨o,h1,h2⟩,fun z=>nomatch z⟩
  | @dK a kvs ea =>
    cases (show u = Value.ref a from rx)
    obtain ⟨_,_,vs,_,p⟩:=(show ObjOk X.prog X.w H s.heap a (.dK kvs) from I.hok a _ ea)
    obtain ⟨o,es,ep,h1,h2,_⟩:=p
    exact ⟨_,PySem.W.kitx_dict,⟨o,h1,h2.1⟩,fun z=>nomatch z⟩
  | @dT a kvs ea =>
    cases (show u = Value.ref a from rx)
    obtain ⟨_,_,xs,_,o,es,ep,h1,h2,_⟩:=(show ObjOk X.prog X.w H s.heap a (.dT kvs) from I.hok a _ ea)
    exact ⟨_,PySem.W.kitx_dict,⟨o,h1,h2.1⟩,fun z=>nomatch z⟩
  | @ins a C dx fs ea cl ha hn htk hm =>
    cases (show u = Value.ref a from rx)
    obtain ⟨mA,O,_⟩:=jd I.hok ea
    obtain ⟨od,J,_⟩:=O.look
    exact ⟨_,PySem.W.kitx_own (cl.get _) cl.hd ha hn htk hm,J,fun z=>nomatch z⟩
def qj:V→Value
  | .ty n=>.type n
  | .ref a=>.ref a
  | _=>.none
def lN:V→Bool
  | .ty _=>true
  | .ref _=>true
  | _=>false
theorem nF {c:V} {u:Value} (h:lN c = true) (r:RelV c u):u = qj c:=by
  cases c <;> first | exact r | exact absurd (show false = true from h) Bool.false_ne_true
inductive rIsi (K:PySem.W.Frag) (xs:List V) (H:Hp) (Q:VK):Prop
  | mk (x c:V) (t:_) (b:Bool) (h0:xs = [x,c]) (h1:lN c = true) (h2:TyOf K H x t) (h3:PySem.W.kitOne K t (qj c) = some b) (h4:Q (.bl b) H):rIsi K xs H Q
theorem eQ:CallR X (.builtin "isinstance") (rIsi X.K):=by
  intro pins s σ H xs us Q I r h
  obtain ⟨x,c,t,b,rfl,hc,ty,e,q⟩:=h
  obtain ⟨u,w',rfl,rx,rc⟩:=kR r
  cases nF hc rc
  obtain ⟨Hh,Z,p,hx⟩:=mX I rx ty
  exact PySem.W.kia_one Z I.kIn p e hx fun tk=>⟨.bl b,H,I.tok tk,rfl,q⟩
theorem j7 (hc:X.calm = true):CallR X (.builtin "all") (fun xs H Q=>∃ (p:Addr) (ys:List V) (bs:List Bool),xs = [.ref p]∧SqL X.K H p ys∧ys = bs.map V.bl∧Q (.bl (bs.all id)) H):=by
  intro pins s σ H xs us Q I r h
  obtain ⟨p,ys,bs,rfl,hq,rfl,q⟩:=h
  obtain ⟨u,rfl,rx⟩:=iu r
  cases rx
  obtain ⟨its,rv,pl,hz⟩:=I.list hq
  have hlt:p < s.heap.objs.size:=by obtain ⟨_,_,e,_⟩:=pl; exact Heap.lt_size e
  refine call_all_walk (wpAny_pyIter_list pl.isList ?_)
  refine ⟨s.heap.objs.size,[s.heap.objs.size,p],[s.heap.objs.size],its.toArray.size,_,_,fun i=>(bs[i]?).getD true,rfl,Walks.list (A:=X.A.in1) (I.ok.hd hc) _ p (Nat.ne_of_lt hlt) its.toArray,
    ⟨⟨_,Heap.get?_push_size _ rfl,rfl,rfl⟩,pl.isList.push _⟩,fun i v s' Q' E' hP hQ=>?_,fun h' tk hk=>?_⟩
  · have hv:its[i]? = some v:=by simpa using hP
    have hi:i < (bs.map V.bl).length:=by rw [rv.length]; exact (List.getElem?_eq_some_iff.mp hv).1
    obtain ⟨b,hb⟩:∃ b,bs[i]? = some b:=⟨bs[i]'(by simpa using hi),by simp at hi; simp [hi]⟩
    obtain ⟨u,hu,ru⟩:=rv.get (i:=i) (x:=V.bl b) (by rw [List.getElem?_map,hb]; rfl)
    rw [hv] at hu
    cases hu
    cases ru
    simp only [hb,Option.getD_some] at hQ
    exact wpAny_truthy_bool hQ
  · have e:((List.range its.toArray.size).all fun i=>(bs[i]?).getD true) = bs.all id:=by
      rw [List.size_toArray,← rv.length,List.length_map]; exact LSm.range_all bs
    rw [e]
    exact ⟨.bl _,H,I.kept (LSm.kept_iter hk),rfl,q⟩
end
end L2
namespace L2
open PySem PySem.Spec PyProof.Rows
theorem mQ {Q:V→Prop} {p r:Prop} [Decidable p] [Decidable r] (q:Q (.bl (decide (p∧r)))):if decide p = true then Q (.bl (decide r)) else Q (.bl false):=by
  by_cases h:p
  · rw [if_pos (decide_eq_true h)]
    have e:decide (p∧r) = decide r:=by by_cases z:r <;> simp [h,z]
    rw [← e]; exact q
  · rw [if_neg (fun z=>h (of_decide_eq_true z))]
    have e:decide (p∧r) = false:=decide_eq_false fun z=>h z.1
    rw [← e]; exact q
theorem ifP {c:Prop} [Decidable c] {A B:Prop} (hc:c) (h:A):if decide c = true then A else B:=by rw [if_pos (decide_eq_true hc)]; exact h
theorem ifN {c:Prop} [Decidable c] {A B:Prop} (hc:¬ c) (h:B):if decide c = true then A else B:=by rw [if_neg (fun z=>hc (of_decide_eq_true z))]; exact h
theorem ifC {c:Prop} [Decidable c] {A B:Prop} (h1:c→A) (h2:¬ c→B):if decide c = true then A else B:=by
  by_cases h:c
  · exact ifP h (h1 h)
  · exact ifN h (h2 h)
theorem ifB {b:Bool} {A B:Prop} (h1:b = true→A) (h2:b = false→B):if b = true then A else B:=by
  cases b with
  | true=>rw [if_pos rfl]; exact h1 rfl
  | false=>rw [if_neg Bool.false_ne_true]; exact h2 rfl
theorem jx {α:Type} {xs:List α} {i:Int} (h0:0≤i) (h1:i < xs.length):∃ c,c ∈ xs∧atI xs i = some c:=by
  have hk:i.toNat < xs.length:=by lia
  refine ⟨xs[i.toNat],List.getElem_mem hk,?_⟩
  have e:((i.toNat:Nat):Int) = i:=by lia
  have:=aH (xs:=xs) (j:=i.toNat) (v:=xs[i.toNat]) (by simp [hk])
  rwa [e] at this
theorem dH:bootBuiltins "len" = some (.builtin "len"):=by decide +kernel
theorem aZ:bootBuiltins "isinstance" = some (.builtin "isinstance"):=by decide +kernel
theorem qi:bootBuiltins "all" = some (.builtin "all"):=by decide +kernel
theorem wm:bootBuiltins "min" = some (.builtin "min"):=by decide +kernel
theorem wc:bootBuiltins "max" = some (.builtin "max"):=by decide +kernel
theorem kx:bootBuiltins "enumerate" = some (.type "enumerate"):=by decide +kernel
theorem vW:bootBuiltins "str" = some (.type "str"):=by decide +kernel
theorem wv:bootBuiltins "int" = some (.type "int"):=by decide +kernel
theorem uG:bootBuiltins "bool" = some (.type "bool"):=by decide +kernel
theorem gL:bootBuiltins "list" = some (.type "list"):=by decide +kernel
theorem iA:bootBuiltins "tuple" = some (.type "tuple"):=by decide +kernel
theorem g9:bootBuiltins "ValueError" = some (.type "ValueError"):=by decide +kernel
theorem eI {X:Cx} {x:Str} {v:V} {pos:Pos} (hg:Gl X x) (h:∃ u,X.mg x = some u∧RelV v u) (hd:(x == ("__debug__" : Str)) = false:=by decide):PE X (.Name x pos) (tC v) :=
  let ⟨_,e,r⟩:=h
  sy hg e r hd
def zl (K:PySem.W.Frag) (tl:TE):TI:=fun σ H R=>tl σ H fun x H1=>match x with
  | .str z=>R (Its z) H1
  | .ref a=>((∃ xs,SqL K H1 a xs)∧R (Itl K a) H1)∨((∃ xs,SqT K H1 a xs)∧R (Itt K a) H1)
  | _=>False
theorem db {X:Cx} {tg l:Expr} {tl:TE} (hl:PE X l tl):PI X tg l (zl X.K tl):=by
  intro pins s σ H R I h
  have hl1:PE X l tl:=hl
  refine thn (hl pins s σ H _ I h) fun v s1 ⟨x,H1,I1,r1,q1⟩=>?_
  cases x with
  | str z =>
    have:=vG (X:=X) (tg:=tg) (l:=l) (tl:=tC (.str z))
    obtain ⟨t,rfl⟩:=r1
    refine wpAny_pyIter_strU ?_
    refine ⟨s1.heap.objs.size,[s1.heap.objs.size],_,_,H1,rfl,I1.kept (t':=s1.toks) fun b o e=>Heap.get?_push_of_some _ e,lZ (ty:=strIterType z) (t:=t) z _ ?_,⟨_,Heap.get?_push_size _ rfl,rfl,rfl⟩,fun b hb=>?_,q1⟩
    · unfold strIterType
      split
      · exact .inl rfl
      · exact .inr rfl
    · have e:b = s1.heap.objs.size:=by simpa using hb
      subst e
      exact I1.fpOk (Nat.le_refl _) (I1.hok.fresh (Nat.le_refl _))
  | ref a =>
    cases r1
    rcases q1 with ⟨⟨xs,hq⟩,q⟩ | ⟨⟨xs,hq⟩,q⟩
    · obtain ⟨its,rv,p,hz⟩:=I1.list hq
      refine wpAny_pyIter_list p.isList ?_
      refine ⟨s1.heap.objs.size,[s1.heap.objs.size],_,_,H1,rfl,I1.kept (t':=s1.toks) fun b o e=>Heap.get?_push_of_some _ e,oU a _,⟨_,Heap.get?_push_size _ rfl,rfl,rfl⟩,fun b hb=>?_,q⟩
      have e:b = s1.heap.objs.size:=by simpa using hb
      subst e
      exact I1.fpOk (Nat.le_refl _) (I1.hok.fresh (Nat.le_refl _))
    · obtain ⟨its,rv,p,hz⟩:=I1.tuple hq
      refine wpAny_pyIter_tuple (show s1.heap.IsTuple a its.toArray from p) ?_
      refine ⟨s1.heap.objs.size,[s1.heap.objs.size],_,_,H1,rfl,I1.kept (t':=s1.toks) fun b o e=>Heap.get?_push_of_some _ e,mP a _,⟨_,Heap.get?_push_size _ rfl,rfl,rfl⟩,fun b hb=>?_,q⟩
      have e:b = s1.heap.objs.size:=by simpa using hb
      subst e
      exact I1.fpOk (Nat.le_refl _) (I1.hok.fresh (Nat.le_refl _))
  | _=>exact (show False from q1).elim
inductive rLenSq (K:PySem.W.Frag) (p:Addr) (H:Hp) (Q:VK):Prop
  | mk (ys:List V) (h0:SqL K H p ys∨SqT K H p ys) (h1:Q (.int ys.length) H):rLenSq K p H Q
theorem bi {X:Cx}:CallR X (.builtin "len") (fun xs H Q=>match xs with
    | [.str z]=>z.length≤sizeLine∧Q (.int z.length) H
    | [.ref p]=>rLenSq X.K p H Q
    | _=>False):=(call_len_str.or kO).imp fun xs H Q q=>by
  match xs,q with
  | [.str z],q=>exact .inl ⟨z,rfl,q.1,q.2⟩
  | [.ref p],q=>obtain ⟨ys,h,q⟩:=q; exact .inr ⟨p,ys,rfl,h,q⟩
section
variable {D:Addr} {σb:St} {g:TG} {tt:TT} {te:TE} {Q:Hp→List V→Prop} {H:Hp} {K:PySem.W.Frag}
def lV (D:Addr) (σb:St) (g:TG) (tt:TT) (te:TE) (x:V) (ys:List V) (H:Hp) (P:List V→Hp→Prop):Prop :=
  g x σb H fun σ4 H4=>Wk σb σ4∧tt σ4 H4 fun b H5=>if b = true then te σ4 H5 fun y H6=>H6 D = some (.lst ys)∧ys.length < sizeLine∧P (ys ++ [y]) (upd H6 D (.lst (ys ++ [y]))) else P ys H5
theorem re {z:Str} (Pv:Nat→List V→Hp→Prop) (h0:Pv 0 [] H) (hl:∀ i ys H,Pv i ys H→H D = some (.lst ys))
    (hs:∀ (i c:Nat) ys H P,z.cps[i]? = some c→Pv i ys H→(∀ a b,Pv (i + 1) a b→P a b)→lV D σb g tt te (.str ⟨#[c]⟩) ys H P) (hd:∀ ys H,Pv z.cps.size ys H→Q H ys):∃ W,(∃ m,W 0 m [] H)∧iX (Its z) D σb g tt te Q W:=by
  refine ⟨fun i m ys H=>m = z.cps.size - i∧i≤z.cps.size∧Pv i ys H,⟨_,rfl,Nat.zero_le _,h0⟩,?_⟩
  rintro i m ys H ⟨rfl,hi,p⟩
  refine ⟨hl i ys H p,?_⟩
  by_cases hlt:i < z.cps.size
  · refine .inr ⟨hlt,fun x H3 y=>?_⟩
    obtain ⟨rfl,c,hc,rfl⟩:=y
    exact hs i c ys _ (fun a b=>∃ m',m' < z.cps.size - i∧m' = z.cps.size - (i + 1)∧i + 1≤z.cps.size∧Pv (i + 1) a b) hc p (fun a b q=>⟨z.cps.size - (i + 1),by lia,rfl,hlt,q⟩)
  · have e:i = z.cps.size:=by lia
    subst e
    exact .inl ⟨Nat.le_refl _,hd ys H p⟩
theorem dq {a:Addr} {xs:List V} (Pv:Nat→List V→Hp→Prop) (h0:Pv 0 [] H) (hq:∀ i ys H,Pv i ys H→SqL K H a xs) (hl:∀ i ys H,Pv i ys H→H D = some (.lst ys))
    (hs:∀ (i:Nat) x ys H P,xs[i]? = some x→Pv i ys H→(∀ a b,Pv (i + 1) a b→P a b)→lV D σb g tt te x ys H P) (hd:∀ ys H,Pv xs.length ys H→Q H ys):∃ W,(∃ m,W 0 m [] H)∧iX (Itl K a) D σb g tt te Q W:=by
  refine ⟨fun i m ys H=>m = xs.length - i∧i≤xs.length∧Pv i ys H,⟨_,rfl,Nat.zero_le _,h0⟩,?_⟩
  rintro i m ys H ⟨rfl,hi,p⟩
  refine ⟨hl i ys H p,?_⟩
  have q:=hq i ys H p
  by_cases hlt:i < xs.length
  · refine .inr ⟨⟨xs,xs[i],q,by simp [hlt]⟩,fun x H3 y=>?_⟩
    obtain ⟨rfl,y⟩:=y
    exact hs i x ys _ (fun a b=>∃ m',m' < xs.length - i∧m' = xs.length - (i + 1)∧i + 1≤xs.length∧Pv (i + 1) a b) (y xs q) p (fun a b q=>⟨xs.length - (i + 1),by lia,rfl,hlt,q⟩)
  · have e:i = xs.length:=by lia
    subst e
    exact .inl ⟨⟨xs,q,Nat.le_refl _⟩,hd ys H p⟩
theorem lO {a:Addr} {xs:List V} (Pv:Nat→List V→Hp→Prop) (h0:Pv 0 [] H) (hq:∀ i ys H,Pv i ys H→SqT K H a xs) (hl:∀ i ys H,Pv i ys H→H D = some (.lst ys))
    (hs:∀ (i:Nat) x ys H P,xs[i]? = some x→Pv i ys H→(∀ a b,Pv (i + 1) a b→P a b)→lV D σb g tt te x ys H P) (hd:∀ ys H,Pv xs.length ys H→Q H ys):∃ W,(∃ m,W 0 m [] H)∧iX (Itt K a) D σb g tt te Q W:=by
  refine ⟨fun i m ys H=>m = xs.length - i∧i≤xs.length∧Pv i ys H,⟨_,rfl,Nat.zero_le _,h0⟩,?_⟩
  rintro i m ys H ⟨rfl,hi,p⟩
  refine ⟨hl i ys H p,?_⟩
  have q:=hq i ys H p
  by_cases hlt:i < xs.length
  · refine .inr ⟨⟨xs,xs[i],q,by simp [hlt]⟩,fun x H3 y=>?_⟩
    obtain ⟨rfl,y⟩:=y
    exact hs i x ys _ (fun a b=>∃ m',m' < xs.length - i∧m' = xs.length - (i + 1)∧i + 1≤xs.length∧Pv (i + 1) a b) (y xs q) p (fun a b q=>⟨xs.length - (i + 1),by lia,rfl,hlt,q⟩)
  · have e:i = xs.length:=by lia
    subst e
    exact .inl ⟨⟨xs,q,Nat.le_refl _⟩,hd ys H p⟩
theorem iB {lo:Int} {n:Nat} (Pv:Nat→List V→Hp→Prop) (h0:Pv 0 [] H) (hl:∀ i ys H,Pv i ys H→H D = some (.lst ys))
    (hs:∀ (i:Nat) ys H P,i < n→Pv i ys H→(∀ a b,Pv (i + 1) a b→P a b)→lV D σb g tt te (.int (lo + i)) ys H P) (hd:∀ ys H,Pv n ys H→Q H ys):∃ W,(∃ m,W 0 m [] H)∧iX (Itr lo n) D σb g tt te Q W:=by
  refine ⟨fun i m ys H=>m = n - i∧i≤n∧Pv i ys H,⟨_,rfl,Nat.zero_le _,h0⟩,?_⟩
  rintro i m ys H ⟨rfl,hi,p⟩
  refine ⟨hl i ys H p,?_⟩
  by_cases hlt:i < n
  · refine .inr ⟨hlt,fun x H3 y=>?_⟩
    obtain ⟨rfl,rfl⟩:=y
    exact hs i ys _ (fun a b=>∃ m',m' < n - i∧m' = n - (i + 1)∧i + 1≤n∧Pv (i + 1) a b) hlt p (fun a b q=>⟨n - (i + 1),by lia,rfl,hlt,q⟩)
  · have e:i = n:=by lia
    subst e
    exact .inl ⟨Nat.le_refl _,hd ys H p⟩
end
theorem Same.new {H:Hp} {p:Addr} {o:HO} (h:H p = none):Same H (upd H p o):=fun b u e=>by rw [ao (ay e h)]; exact e
mutual
def DV (K:PySem.W.Frag) (H:Hp):PyData→V→Prop
  | .none,x=>x = .non
  | .bool b,x=>x = .bl b
  | .int i,x=>x = .int i
  | .str z,x=>x = .str z
  | .list ds,x=>∃ a xs,x = .ref a∧SqL K H a xs∧DVs K H ds xs
  | .tuple ds,x=>∃ a xs,x = .ref a∧SqT K H a xs∧DVs K H ds xs
  | .dict _,_=>False
def DVs (K:PySem.W.Frag) (H:Hp):List PyData→List V→Prop
  | [],xs=>xs = []
  | d :: ds,xs=>∃ y ys,xs = y :: ys∧DV K H d y∧DVs K H ds ys
end
section
variable {X:Cx} {pins:List (Addr×Obj)} {σ:St} {H:Hp} {s:Shared}
mutual
theorem DV.reads (I:Inv X pins σ H s):∀ {d:PyData} {x:V} {u:Value},DV X.K H d x→RelV x u→∃ as,Reads s.heap u d as
  | .none,x,u,h,r=>by
    rw [DV] at h; subst h; cases r; exact ⟨_,.none⟩
  | .bool b,x,u,h,r=>by
    rw [DV] at h; subst h; cases r; exact ⟨_,.bool b⟩
  | .int i,x,u,h,r=>by
    rw [DV] at h; subst h; obtain ⟨t,rfl⟩:=r; exact ⟨_,.int i t⟩
  | .str z,x,u,h,r=>by
    rw [DV] at h; subst h; obtain ⟨t,rfl⟩:=r; exact ⟨_,.str z t⟩
  | .list ds,x,u,h,r=>by
    rw [DV] at h
    obtain ⟨a,xs,rfl,h2,h3⟩:=h
    cases r
    obtain ⟨its,rv,⟨o,n,e,c,_,d⟩,_⟩:=I.list h2
    obtain ⟨as,q⟩:=DVs.reads I h3 rv
    exact ⟨_,.list e c d (by simpa using q)⟩
  | .tuple ds,x,u,h,r=>by
    rw [DV] at h
    obtain ⟨a,xs,rfl,h2,h3⟩:=h
    cases r
    obtain ⟨its,rv,⟨o,e,c,n,d⟩,_⟩:=I.tuple h2
    obtain ⟨as,q⟩:=DVs.reads I h3 rv
    exact ⟨_,.tuple e c d (by simpa using q)⟩
  | .dict _,x,u,h,r=>by rw [DV] at h; exact h.elim
theorem DVs.reads (I:Inv X pins σ H s):∀ {ds:List PyData} {xs:List V} {us:List Value},DVs X.K H ds xs→Vals xs us→∃ as,ReadsAll s.heap us ds as
  | [],xs,us,h,r=>by
    rw [DVs] at h; subst h; cases r; exact ⟨_,.nil⟩
  | d :: ds,xs,us,h,r=>by
    rw [DVs] at h
    obtain ⟨y,ys,rfl,h2,h3⟩:=h
    cases r with
    | cons r rs =>
      obtain ⟨as,q⟩:=DV.reads I h2 r
      obtain ⟨bs,p⟩:=DVs.reads I h3 rs
      exact ⟨_,.cons q p⟩
end
end
inductive rEqD (K:PySem.W.Frag) (neg:Bool) (x y:V) (H:Hp) (Q:VK):Prop
  | mk (d e:PyData) (h0:DV K H d x) (h1:DV K H e y) (h2:SeqAt.shaped d = true) (h3:SeqAt.shaped e = true) (h4:Q (.bl (if neg then !PyData.eqv d e else PyData.eqv d e)) H):rEqD K neg x y H Q
theorem r9 {X:Cx} (hu:X.A.units + 64 < cLine):OpR X (compareOp .Eq) (rEqD X.K false):=by
  intro pins s σ H x y v u Q I rx ry h
  obtain ⟨d,e,h1,h2,s1,s2,q⟩:=h
  obtain ⟨as,ra⟩:=h1.reads I rx
  obtain ⟨bs,rb⟩:=h2.reads I ry
  exact eq_dataH ra rb s1 s2 hu ⟨.bl _,H,I,rfl,q⟩
theorem xK {X:Cx} (hu:X.A.units + 64 < cLine):OpR X (compareOp .NotEq) (rEqD X.K true):=by
  intro pins s σ H x y v u Q I rx ry h
  obtain ⟨d,e,h1,h2,s1,s2,q⟩:=h
  obtain ⟨as,ra⟩:=h1.reads I rx
  obtain ⟨bs,rb⟩:=h2.reads I ry
  exact ne_dataH ra rb s1 s2 hu ⟨.bl _,H,I,rfl,q⟩
end L2
namespace L2
open PySem PySem.Spec PyProof.Rows
def uz (z:Str) (lo hi:Option Int):Str:=⟨((z.cps.toList.drop (HT.sIx z.cps.size 0 lo)).take (HT.sIx z.cps.size z.cps.size hi - HT.sIx z.cps.size 0 lo)).toArray⟩
theorem uZ (n d:Nat) (v:Option Int):(match v with | none=>(d:Int) | some i=>max 0 (min (if i < 0 then i + (n:Int) else i) (n:Int))) = ((HT.sIx n d v:Nat):Int):=by
  cases v with
  | none=>rfl
  | some i =>
    show max 0 (min (if i < 0 then i + (n:Int) else i) (n:Int)) = (((if i < 0 then (i + (n:Int)).toNat else min i.toNat n):Nat):Int)
    split <;> lia
theorem rN (lo hi:Option Int) (n:Nat):Builtin.Str.strSliceIndices lo hi 1 n = (List.range (HT.sIx n n hi - HT.sIx n 0 lo)).map (HT.sIx n 0 lo + ·):=by
  have e:Builtin.Str.strSliceIndices lo hi 1 n = sliceRange ((HT.sIx n 0 lo:Nat):Int) ((HT.sIx n n hi:Nat):Int) 1:=by
    rw [← uZ n 0 lo,← uZ n n hi]
    unfold Builtin.Str.strSliceIndices
    simp only [show (1:Int) > 0 by decide,if_true]
    cases lo <;> cases hi <;> rfl
  rw [e,sliceRange_one]
theorem oX (z:Str) (lo hi:Option Int):Txt.slice z lo hi = uz z lo hi:=by
  have e:((Builtin.Str.strSliceIndices lo hi 1 z.length).filterMap (z.cps[·]?)) = (z.cps.toList.drop (HT.sIx z.cps.size 0 lo)).take (HT.sIx z.cps.size z.cps.size hi - HT.sIx z.cps.size 0 lo):=by
    rw [rN]
    exact pick_run z.cps _ _
  unfold Txt.slice
  split
  · rename_i h
    have hl:(Builtin.Str.strSliceIndices lo hi 1 z.length).length = z.cps.size:=by
      rw [Bool.and_eq_true] at h
      exact eq_of_beq h.2
    rw [rN,List.length_map,List.length_range] at hl
    have h1:=HT.sIx_le z.cps.size z.cps.size (Nat.le_refl _) hi
    have hl':HT.sIx z.cps.size z.cps.size hi - HT.sIx z.cps.size 0 lo = z.cps.size:=hl
    unfold uz
    by_cases h0:z.cps.size = 0
    · refine ext_toList ?_
      have hz:z.cps.toList = []:=List.length_eq_zero_iff.mp (by simpa using h0)
      show z.cps.toList = _
      rw [hz]
      simp
    · have h2:HT.sIx z.cps.size 0 lo = 0:=by lia
      rw [hl',h2,List.drop_zero,List.take_of_length_le (by simp)]
  · rw [e]
    rfl
section
variable {X:Cx}
def yU:V→Option Int→Option Int→Hp→VK→Prop:=fun x lo hi H Q=>∃ z,x = .str z∧z.length≤sizeLine∧Q (.str (uz z lo hi)) H
theorem v5:SlR X yU:=by
  intro pins s σ H x v vl vu lo hi sl Q I rx hs pl pu h
  obtain ⟨z,rfl,hz,q⟩:=h
  obtain ⟨t,rfl⟩:=rx
  refine ⟨"str",_,F.slot_str_getitem.lookup,typeIs_str _ _ _,?_⟩
  rw [← oX] at q
  have fin:∀ t' k,EP X pins σ Q (.str (Txt.slice z lo hi) t') { s with toks:=k }:=fun t' k=>⟨.str _,H,I.tok _,⟨_,rfl⟩,q⟩
  cases pl with
  | none =>
    cases pu with
    | none=>exact wpAny_getItem_str_slice (l:=none) (u:=none) (st:=none) hs rfl (post_val_or_str ⟨Nat.le_trans (Txt.slice_le z _ _) hz,fin⟩)
    | int j uj=>exact wpAny_getItem_str_slice (l:=none) (u:=some (j,uj)) (st:=none) hs rfl (post_val_or_str ⟨Nat.le_trans (Txt.slice_le z _ _) hz,fin⟩)
  | int i ui =>
    cases pu with
    | none=>exact wpAny_getItem_str_slice (l:=some (i,ui)) (u:=none) (st:=none) hs rfl (post_val_or_str ⟨Nat.le_trans (Txt.slice_le z _ _) hz,fin⟩)
    | int j uj=>exact wpAny_getItem_str_slice (l:=some (i,ui)) (u:=some (j,uj)) (st:=none) hs rfl (post_val_or_str ⟨Nat.le_trans (Txt.slice_le z _ _) hz,fin⟩)
theorem SlR.imp {r r':V→Option Int→Option Int→Hp→VK→Prop} (h:SlR X r) (i:∀ x lo hi H Q,r' x lo hi H Q→r x lo hi H Q):SlR X r' :=
  fun pins s σ H x v vl vu lo hi sl Q I rx hs pl pu q=>h pins s σ H x v vl vu lo hi sl Q I rx hs pl pu (i x lo hi H Q q)
theorem hZ:SlR X (fun x lo hi H Q=>match x with
    | .str z=>z.length≤sizeLine∧Q (.str (uz z lo hi)) H
    | .ref a=>(∃ xs,SqL X.K H a xs∧∀ p,H p = none→Q (.ref p) (upd H p (.lst (cY xs lo hi)))) ∨
        ∃ xs,SqT X.K H a xs∧¬ (HT.sIx xs.length 0 lo = 0∧HT.sIx xs.length xs.length hi = xs.length)∧∀ p,H p = none→Q (.ref p) (upd H p (.tup (cY xs lo hi)))
    | _=>False):=(sl_list.or (sl_tup.or v5)).imp fun x lo hi H Q q=>by
  cases x with
  | str z=>exact .inr (.inr ⟨z,rfl,q.1,q.2⟩)
  | ref a =>
    rcases q with ⟨xs,h1,h2⟩ | ⟨xs,h1,h2,h3⟩
    · exact .inl ⟨a,xs,rfl,h1,h2⟩
    · exact .inr (.inl ⟨a,xs,rfl,h1,h2,h3⟩)
  | _=>exact (show False from q).elim
def yj:V→List V→Hp→VK→Prop:=fun x xs H Q=>match x,xs with
  | .str z,[.str y]=>Q (.bl (Txt.startswith z y)) H
  | _,_=>False
def yi:V→List V→Hp→VK→Prop:=fun x xs H Q=>match x,xs with
  | .str z,[.str y]=>∃ i rest,Builtin.Str.occurrences z y 0 z.length 1 = i :: rest∧Q (.int (i:Nat)) H
  | _,_=>False
variable {o e:Expr} {es:List Expr} {to:TE} {t:TA} {apos cpos:Pos}
end
end L2
namespace L2
open PySem PySem.Spec PyProof.Rows
section
variable {X:Cx} {st:Stmt} {rest:List Stmt} {t u:TS} {e:Expr} {te:TE} {tt:TT}
def ye (t u:TS):TS:=fun D σ H=>∃ M:St→Hp→Prop,t { D with nx:=M } σ H∧∀ σ' H',M σ' H'→u D σ' H'
theorem pF (h1:PS X st t) (h2:PSs X rest u):PSs X (st :: rest) (ye t u):=by
  intro pins s σ H D I h
  obtain ⟨M,h,hm⟩:=h
  refine wpAny_execs_cons (thn (h1 pins s σ H { D with nx:=M } I h) fun f s1 q=>?_)
  cases f with
  | next =>
    obtain ⟨σ',H',I',q⟩:=q
    exact h2 pins s1 σ' H' D I' (hm _ _ q)
  | ret v=>exact q
  | brk=>exact q
  | cont=>exact q
def zU (t:TE):TE:=fun σ H Q=>∃ M:VK,t σ H M∧∀ v H',M v H'→Q v H'
def Aa (t:TT):TT:=fun σ H Q=>∃ M:Bool→Hp→Prop,t σ H M∧∀ v H',M v H'→Q v H'
end
end L2
namespace L2
open PySem PySem.Spec PyProof.Rows
section
variable {X:Cx} {pins:List (Addr×Obj)} {σ:St} {H:Hp} {s:Shared} {h':Heap}
theorem Inv.turnedNew {t':Nat} {ch:List Addr} {a:Addr} {o:HO} (I:Inv X pins σ H s) (k:∀ b u,b ∉ ch→s.heap.get? b = some u→h'.get? b = some u) (hf:∀ b ∈ ch,hX X pins H b)
    (ha:s.heap.objs.size≤a) (new:ObjOk X.prog X.w (upd H a o) h' a o):Inv X pins σ (upd H a o) { s with heap:=h',toks:=t' }:=by
  have hna:H a = none:=I.hok.fresh ha
  have nch:∀ b u,H b = some u→b ∉ ch:=fun b u e z=>by
    rw [(hf b z).1] at e
    cases e
  have nea:∀ b u,H b = some u→b≠a:=fun b u e z=>by
    rw [z,hna] at e
    cases e
  have old:∀ b u,s.heap.get? b = some u→b≠a:=fun b u e=>Nat.ne_of_lt (Nat.lt_of_lt_of_le (Heap.lt_size e) ha)
  refine I.step (g':=s.gens) (d':=s.drawn) (ch:=ch) (fun b hb=>?_) (fun b u _ _ hc e _=>k b u hc e) (fun b u _ _ hc e _=>⟨u.slots,k b u hc e⟩) (fun b u _ e n=>?_) (fun b u hc e=>⟨u,k b u hc e⟩)
    (fun b xs e=>?_) (fun b u v e=>?_) (fun b ps e=>⟨#[],?_⟩) (fun m hm=>?_) (fun b u e=>?_) I.bare
  · obtain ⟨_,f1,_,f3,f4,f5⟩:=hf b hb
    exact ⟨f3,f1,f4,f5⟩
  · rw [ao (old b u e)]; exact n
  · rw [ao (nea b _ e)]; exact e
  · rw [ao (nea b _ e)]; exact e
  · rw [ao (nea b _ e),e]; simp
  · obtain ⟨ob,es,ep,ho,r⟩:=hm
    exact ⟨ob,es,ep,k _ ob (fun z=>(hf _ z).2.1 rfl) ho,r⟩
  · by_cases hb:b = a
    · subst hb
      rw [af] at e
      cases e
      exact new
    · rw [ao hb] at e
      refine (I.hok b u e).stay (fun c v hc q=>k c v ?_ q) (fun c q=>?_) fun c xs q=>?_
      · rcases hc with z | z
        · rw [z]; exact nch b u e
        · exact nch c _ z
      · rw [ao (nea c _ q)]; exact q
      · rw [ao (nea c _ q)]; exact q
theorem Inv.turnedN {t':Nat} {ch:List Addr} (I:Inv X pins σ H s) (k:∀ b u,b ∉ ch→s.heap.get? b = some u→h'.get? b = some u) (hf:∀ b ∈ ch,hX X pins H b):Inv X pins σ H { s with heap:=h',toks:=t' }:=by
  have nch:∀ b u,H b = some u→b ∉ ch:=fun b u e z=>by
    rw [(hf b z).1] at e
    cases e
  refine I.step (g':=s.gens) (d':=s.drawn) (ch:=ch) (fun b hb=>?_) (fun b u _ _ hc e _=>k b u hc e) (fun b u _ _ hc e _=>⟨u.slots,k b u hc e⟩) (fun b u _ e n=>n) (fun b u hc e=>⟨u,k b u hc e⟩)
    (fun b xs e=>e) (fun b u v e=>e) (fun b ps e=>⟨#[],by rw [e]; simp⟩) (fun m hm=>?_) (fun b u e=>?_) I.bare
  · obtain ⟨_,f1,_,f3,f4,f5⟩:=hf b hb
    exact ⟨f3,f1,f4,f5⟩
  · obtain ⟨ob,es,ep,ho,r⟩:=hm
    exact ⟨ob,es,ep,k _ ob (fun z=>(hf _ z).2.1 rfl) ho,r⟩
  · refine (I.hok b u e).stay (fun c v hc q=>k c v ?_ q) (fun c q=>q) fun c xs q=>q
    rcases hc with z | z
    · rw [z]; exact nch b u e
    · exact nch c _ z
end
def Ite (a:Addr):It:=⟨fun i H=>∃ xs x,H a = some (.lst xs)∧xs[i]? = some x,
  fun i H x H'=>∃ p y,H p = none∧x = .ref p∧(∀ xs,H a = some (.lst xs)→xs[i]? = some y)∧H' = upd H p (.tup [.int (i:Nat),y]),fun i H=>∃ xs,H a = some (.lst xs)∧xs.length≤i⟩
theorem o9 {P:Program} {w:World} {K:PySem.W.Frag} {es:List Expr} {k:Nat} {pos:Pos} (a e it:Addr) (hne:e≠it) :
    Turn P w K (.Tuple es k pos) (Ite a) [e,it] e (fun i h=>(∃ old,IsEnum h e it i old)∧h.IsListIter it a i) where
  mem:=by simp
  obj:=fun i h st b hb=>by
    obtain ⟨⟨old,he⟩,o,h1,h2,h3⟩:=st
    rcases List.mem_cons.mp hb with rfl | hb
    · exact ⟨_,he,fun v z=>by cases z⟩
    · rw [List.mem_singleton.mp hb]
      exact ⟨o,h1,fun v z=>by rw [h3] at z; cases z⟩
  keep:=fun i h h' st kp=>by
    obtain ⟨⟨old,he⟩,o,h1,r⟩:=st
    exact ⟨⟨old,kp e (by simp) _ he⟩,o,kp it (by simp) o h1,r⟩
  item:=by
    intro X hP hw hK hc i pins s σ H E I hf st hg
    subst hP hw hK
    obtain ⟨⟨old,he⟩,hit⟩:=st
    obtain ⟨xs,x,hl,hx⟩:=hg
    obtain ⟨z,its,n,r,hlen,eo⟩:=I.lstM hl
    obtain ⟨u,hu,ru⟩:=Vals.get r hx
    have hil:s.heap.IsList a its.toArray:=⟨_,eo,rfl,_,rfl⟩
    refine wpAny_pyNext_enum_item he hit hil (x:=u) (by simpa using hu) hne fun h1 e1 e2 e3 e4 e5=>?_
    refine ⟨_,rfl,wpAny_letOwnedTupleGo_enum e1 fun h2 e6 sb=>?_⟩
    have hps:s.heap.objs.size≠e:=fun q=>absurd (Heap.lt_size he) (by rw [← q]; exact Nat.lt_irrefl _)
    have hpi:s.heap.objs.size≠it:=fun q=>by
      obtain ⟨o,ho,_⟩:=hit
      exact absurd (Heap.lt_size ho) (by rw [← q]; exact Nat.lt_irrefl _)
    have hn:H s.heap.objs.size = none:=I.hok.fresh (Nat.le_refl _)
    have e3':h2.get? s.heap.objs.size = some { cls:=.type "tuple",data:=.seq #[.int i s.toks,u] }:=(sb.2 _ hps).trans e3
    have J:Inv X pins σ (upd H s.heap.objs.size (.tup [.int (i:Nat),x])) { s with heap:=h2,toks:=s.toks + 1 }:=by
      refine I.turnedNew (ch:=[e,it]) (fun b o hb q=>?_) hf (Nat.le_refl _) ⟨by rw [sizeLine_eq]; show 2≤16777216; decide,[.int i s.toks,u],.cons ⟨_,rfl⟩ (.cons ru .nil),_,e3',rfl,0,rfl⟩
      have b1:b≠e:=fun z=>hb (by simp [z])
      have b2:b≠it:=fun z=>hb (by simp [z])
      exact (sb.2 b b1).trans (e5 b o b1 b2 q)
    refine ⟨.ref s.heap.objs.size,_,J,rfl,⟨s.heap.objs.size,x,hn,rfl,fun ys hy=>?_,rfl⟩,⟨⟨u,?_⟩,?_⟩,fun b hb=>?_⟩
    · rw [hl] at hy
      cases hy
      exact hx
    · have e6':IsEnum h2 e it ((i:Int) + 1) u:=e6
      have e7:((i + 1:Nat):Int) = (i:Int) + 1:=by lia
      rw [e7]
      exact e6'
    · obtain ⟨o,ho,r⟩:=e2
      exact ⟨o,(sb.2 it (Ne.symm hne)).trans ho,r⟩
    · have hb':b≠s.heap.objs.size:=by
        rcases List.mem_cons.mp hb with rfl | hb
        · exact hps.symm
        · rw [List.mem_singleton.mp hb]; exact hpi.symm
      rw [ao hb']
      exact (hf b hb).1
  done:=by
    intro X hP hw hK hc i pins s σ H E I hf st hg
    subst hP hw hK
    obtain ⟨⟨old,he⟩,hit⟩:=st
    obtain ⟨xs,hl,hx⟩:=hg
    obtain ⟨z,its,n,r,hlen,eo⟩:=I.lstM hl
    have hil:s.heap.IsList a its.toArray:=⟨_,eo,rfl,_,rfl⟩
    refine wpAny_pyNext_enum_end (I.ok.hd hc) he hit hil (by simp; lia) fun h1 eb=>⟨rfl,I.turnedN (ch:=[e,it]) (t':=s.toks) (fun b o hb q=>eb b o (fun z=>hb (by simp [z])) q) hf⟩
  self:=fun _ _ _ _ _ st h=>by
    obtain ⟨⟨old,he⟩,_⟩:=st
    exact wpAny_pyIter_enum he h
def xQ (ta:TA):TI:=fun σ H R=>ta σ H fun vs H1=>∃ a xs,vs = [.ref a]∧H1 a = some (.lst xs)∧R (Ite a) H1
theorem gG {X:Cx} {es:List Expr} {k:Nat} {tpos:Pos} {e:Expr} {ta:TA} {p pos:Pos} (hg:Gl X "enumerate") (hm:X.mg "enumerate" = none) (ha:PA X [e] ta) (hs:starEach [e] X.env = [(false,eval e X.env)]:=by rfl) :
    PI X (.Tuple es k tpos) (.Call (.Name "enumerate" p) [e] [] pos) (xQ ta):=by
  intro pins s σ H R I h
  refine wpAny_Call_Name_kw (jn I hg hm kx ?_ (by decide) (by decide))
  refine PyProof.Rows.callWith_type1 (thn (ha pos pins s σ H _ I h) fun us s1 ⟨vs,H1,I1,r1,a,xs,e1,hl,q⟩=>?_) hs rfl
  subst e1
  obtain ⟨u,rfl,ru⟩:=iu r1
  cases ru
  obtain ⟨z,its,n,r,hlen,eo⟩:=I1.lstM hl
  refine call_enumerate_1 (n:=n) eo fun h2 e1 e2 e3 e4=>?_
  have I2:Inv X pins σ H1 { s1 with heap:=h2 }:=I1.kept (t':=s1.toks) e4
  have hne:s1.heap.objs.size + 1≠s1.heap.objs.size:=Nat.succ_ne_self _
  refine wpAny_pyIter_enum e1 ?_
  refine ⟨s1.heap.objs.size + 1,[s1.heap.objs.size + 1,s1.heap.objs.size],_,_,H1,rfl,I2,o9 a _ _ hne,⟨⟨_,e1⟩,e2⟩,fun b hb=>?_,q⟩
  have hb':s1.heap.objs.size≤b:=by
    rcases List.mem_cons.mp hb with rfl | hb
    · lia
    · rw [List.mem_singleton.mp hb]
      exact Nat.le_refl _
  exact I1.fpOk hb' (I1.hok.fresh hb')
theorem gz {a:Addr} {xs:List V} {g:TG} {tb:TS} {D:Ends} {σ:St} {H:Hp} (Pv:Nat→St→Hp→Prop) (h0:Pv 0 σ H) (hl:∀ i σ H,Pv i σ H→H a = some (.lst xs))
    (hs:∀ (i:Nat) x σ H p,xs[i]? = some x→Pv i σ H→H p = none→g (.ref p) σ (upd H p (.tup [.int (i:Nat),x])) fun σ2 H2=>tb { D with nx:=Pv (i + 1),ct:=Pv (i + 1),bk:=D.nx } σ2 H2) (hd:∀ σ H,Pv xs.length σ H→D.nx σ H) :
    ∃ W:Nat→Nat→St→Hp→Prop,(∃ m,W 0 m σ H)∧∀ i m σ H,W i m σ H →
      ((Ite a).stop i H∧D.nx σ H)∨((Ite a).go i H∧∃ N:St→Hp→Prop,(∀ σ' H',N σ' H'→∃ m',m' < m∧W (i + 1) m' σ' H')∧∀ x H',(Ite a).yld i H x H'→g x σ H' fun σ2 H2=>tb { D with nx:=N,ct:=N,bk:=D.nx } σ2 H2):=by
  refine ⟨fun i m σ H=>m = xs.length - i∧i≤xs.length∧Pv i σ H,⟨_,rfl,Nat.zero_le _,h0⟩,?_⟩
  rintro i m σ H ⟨rfl,hi,p⟩
  have q:=hl i σ H p
  by_cases hlt:i < xs.length
  · refine .inr ⟨⟨xs,xs[i],q,by simp [hlt]⟩,Pv (i + 1),fun σ' H' p'=>⟨_,by lia,rfl,hlt,p'⟩,fun x H' y=>?_⟩
    obtain ⟨b,v,hb,rfl,hv,rfl⟩:=y
    exact hs i v σ H b (hv xs q) p hb
  · have e:i = xs.length:=by lia
    subst e
    exact .inl ⟨⟨xs,q,Nat.le_refl _⟩,hd σ H p⟩
theorem kf {D:Addr} {σb:St} {g:TG} {tt:TT} {te:TE} {Q:Hp→List V→Prop} {H:Hp} {a:Addr} {xs:List V} (Pv:Nat→List V→Hp→Prop) (h0:Pv 0 [] H) (hq:∀ i ys H,Pv i ys H→H a = some (.lst xs)) (hl:∀ i ys H,Pv i ys H→H D = some (.lst ys))
    (hs:∀ (i:Nat) x ys H p P,xs[i]? = some x→Pv i ys H→H p = none→(∀ a b,Pv (i + 1) a b→P a b)→lV D σb g tt te (.ref p) ys (upd H p (.tup [.int (i:Nat),x])) P) (hd:∀ ys H,Pv xs.length ys H→Q H ys):∃ W,(∃ m,W 0 m [] H)∧iX (Ite a) D σb g tt te Q W:=by
  refine ⟨fun i m ys H=>m = xs.length - i∧i≤xs.length∧Pv i ys H,⟨_,rfl,Nat.zero_le _,h0⟩,?_⟩
  rintro i m ys H ⟨rfl,hi,p⟩
  refine ⟨hl i ys H p,?_⟩
  have q:=hq i ys H p
  by_cases hlt:i < xs.length
  · refine .inr ⟨⟨xs,xs[i],q,by simp [hlt]⟩,fun x H3 y=>?_⟩
    obtain ⟨b,v,hb,rfl,hv,rfl⟩:=y
    exact hs i v ys H b (fun a b=>∃ m',m' < xs.length - i∧m' = xs.length - (i + 1)∧i + 1≤xs.length∧Pv (i + 1) a b) (hv xs q) p hb fun a b r=>⟨_,by lia,rfl,hlt,r⟩
  · have e:i = xs.length:=by lia
    subst e
    exact .inl ⟨⟨xs,q,Nat.le_refl _⟩,hd ys H p⟩
def Itz (a b:Addr):It:=⟨fun i H=>∃ xs ys x y,H a = some (.lst xs)∧H b = some (.lst ys)∧xs[i]? = some x∧ys[i]? = some y,
  fun i H v H'=>∃ p x y,H p = none∧v = .ref p∧(∀ xs,H a = some (.lst xs)→xs[i]? = some x)∧(∀ ys,H b = some (.lst ys)→ys[i]? = some y)∧H' = upd H p (.tup [x,y]),
  fun i H=>∃ xs ys,H a = some (.lst xs)∧H b = some (.lst ys)∧(xs.length≤i∨ys.length≤i)⟩
def Am (ta:TA):TI:=fun σ H R=>ta σ H fun vs H1=>∃ a b xs ys,vs = [.ref a,.ref b]∧H1 a = some (.lst xs)∧H1 b = some (.lst ys)∧R (Itz a b) H1
end L2
namespace NumM
open PySem PySem.NumText
def yv (l:List Nat):Bool:=decide (1≤l.length∧l.length≤12) && l.all fun c=>decide (48≤c∧c≤57)
def oM (l:List Nat):List Nat:=if l.head? = some 45 then l.tail else l
def zg (l:List Nat):Int:=if l.head? = some 45 then -((digitsVal (oM l):Nat):Int) else ((digitsVal (oM l):Nat):Int)
def yS (l:List Nat):Bool:=decide ((oM l).head? = some 48) && decide (l≠[48])
def Ap (l:List Nat):Option Int:=if (yv (oM l) && !yS l) = true then some (zg l) else none
def zn (n:Int):List Nat:=(toString n:String).toList.map Char.toNat
theorem lu {c:Nat} (h:c < 128):(Char.ofNat c).toNat = c:=by
  have:c.isValidChar:=Or.inl (by omega)
  simp [Char.ofNat,this,Char.toNat,Char.ofNatAux]
theorem vz {cs:List Nat} (h:AllDigits cs):(cs.map Char.ofNat).map Char.toNat = cs:=by
  rw [List.map_map]
  induction cs with
  | nil=>rfl
  | cons c cs ih =>
    rw [List.map_cons,ih h.tail]
    have:=h.head
    show (Char.ofNat c).toNat :: cs = _
    rw [lu (by omega)]
end NumM
namespace L2
open PySem PySem.Spec PyProof.Rows
def zL (c k:Int):Int:=if c % 4 = 1 then c / 2 ^ (2 + 40 * k).toNat % 2 ^ (40:Int).toNat else
  ((((c + 7919 * k) % 2147483647 * 48271 + k) % 2147483647) * ((((c + 7919 * k) % 2147483647 * 48271 + k) % 2147483647) + 7) % 2147483629) * (((((c + 7919 * k) % 2147483647 * 48271 + k) % 2147483647) * ((((c + 7919 * k) % 2147483647 * 48271 + k) % 2147483647) + 7) % 2147483629) + 3) % 2147483587
def yp (ns:List Int) (k:Int):Int:=if k < ns.length then ns.getD k.toNat 0 else 7919 * k + 14
def oV:Option Int→V
  | none=>.non
  | some n=>.int n
def within (lo hi:Int):Option Int→Option Int
  | some n=>if lo≤n∧n≤hi then some n else none
  | none=>none
def jh (t S:Str) (m:Int):Bool:=decide (1≤(t.cps.size:Int)∧(t.cps.size:Int)≤m) && t.cps.toList.all fun c=>decide (c ∈ S.cps.toList)
theorem gQ (c:Nat):c ∈ ("abcdefghijklmnopqrstuvwxyz" : Str).cps.toList↔97≤c∧c≤122:=by
  have e:("abcdefghijklmnopqrstuvwxyz" : Str).cps.toList = List.range' 97 26:=by decide +kernel
  rw [e,List.mem_range'_1]
  omega
end L2
namespace SplM
open PySem
def splitC (c:Nat):List Nat→List (List Nat)
  | []=>[[]]
  | a :: l=>if a = c then [] :: splitC c l else match splitC c l with
    | []=>[[a]]
    | p :: r=>(a :: p) :: r
def wF (c:Nat):List (List Nat)→List Nat
  | []=>[]
  | [p]=>p
  | p :: q :: r=>p ++ c :: wF c (q :: r)
end SplM
namespace L2
open PySem PySem.Spec PyProof.Rows
section
variable {X:Cx}
def zM (K:PySem.W.Frag):V→List V→Hp→VK→Prop:=fun x xs H Q=>∃ (z:Str) (p:Addr) (ts:List Str),x = .str z∧xs = [.ref p]∧(SqL K H p (ts.map V.str)∨SqT K H p (ts.map V.str)) ∧
  (ts.map (·.length)).sum + ts.length * z.length≤16777216∧Q (.str (Txt.join z ts)) H
open Builtin.Str in
theorem wz {P:Program} {w:World} {A:Around} {E:Value→Shared→Prop} {s:Shared} {x y:Str} {t u:Tok} {Q:Value→Shared→Prop} (hy:(y.length == 0) = false) (hx:x.length≤sizeLine)
    (hp:(partsBetween x (occurrences x y 0 x.length (x.length + 1)) y.length).length≤sizeLine)
    (h:∀ (l:List (Str×Tok)) (k:Nat),l.map (·.1) = Txt.split x y→Q (.ref s.heap.objs.size) { s with heap:=s.heap.push { cls:=.type "list",data:=.seq (strValues l).toArray },toks:=k }) :
    wpAny (model P w) A (call (.builtin "str.split") [.str x t,.str y u]) Q E s:=by
  by_cases h1:(decide (x.length < y.length) || decide (strKind x < strKind y)) = true
  · refine call_meets F.slot_str_split (typeIs_str s x t) F.entry_str_split (F.args_str_split_2 _ _) (meets_str_split_cannot_occur x y t u h1) ?_
    exact h [(x,t)] s.toks (by unfold Txt.split; rw [if_pos h1]; rfl)
  · have h1':=eq_false_of_ne_true h1
    by_cases h2:(occurrences x y 0 x.length (x.length + 1)).isEmpty = true
    · refine call_meets F.slot_str_split (typeIs_str s x t) F.entry_str_split (F.args_str_split_2 _ _) (meets_str_split_not_found x y t u h1' hy h2) ?_
      exact h [(x,t)] s.toks (by unfold Txt.split; rw [if_neg h1,if_pos h2]; rfl)
    · have h2':=eq_false_of_ne_true h2
      refine call_meets F.slot_str_split (typeIs_str s x t) F.entry_str_split (F.args_str_split_2 _ _) (meets_str_split_sep x y t u h1' hy h2' hx hp) ?_
      have:=h (numbered s.toks (partsBetween x (occurrences x y 0 x.length (x.length + 1)) y.length)) (s.toks + (partsBetween x (occurrences x y 0 x.length (x.length + 1)) y.length).length)
        ((numbered_texts _ _).trans (by unfold Txt.split; rw [if_neg h1,if_neg h2]))
      rw [← strsFrom_eq] at this
      exact this
def yX:V→List V→Hp→VK→Prop:=fun x xs H Q=>∃ (z:Str) (c:Nat),x = .str z∧xs = [.str ⟨#[c]⟩]∧z.cps.size + 2≤sizeLine ∧
  ∀ (l:Addr) (ts:List Str),H l = none→ts.map (fun t=>t.cps.toList) = SplM.splitC c z.cps.toList→Q (.ref l) (upd H l (.lst (ts.map V.str)))
theorem uE {a:Expr} {ta:TE} {pos:Pos} (ha:PE X a ta):PE X (.UnaryOp .Not a pos) (fun σ H Q=>ta σ H fun x H1=>∃ k,wx X.K x H1 k∧Q (.bl (!k)) H1):=by
  intro pins s σ H Q I h
  refine UnaryOp_ (thn (ha pins s σ H _ I h) fun v s1 ⟨x,H1,I1,r1,k,tk,q⟩=>?_)
  exact not_of (thn (qd pins s1 σ H1 x v (fun b H2=>Q (.bl (!b)) H2) I1 r1 ⟨k,tk,q⟩) fun b s2 ⟨H2,I2,q2⟩=>⟨.bl (!b),H2,I2,rfl,q2⟩)
abbrev TJ:=Str→St→Hp→(Str→Hp→Prop)→Prop
def PJ (X:Cx) (vs:List Expr) (t:TJ):Prop:=∀ (pins:List (Addr×Obj)) (s:Shared) (σ:St) (H:Hp) (acc:Str) (Q:VK),Inv X pins σ H s→t acc σ H (fun out H'=>Q (.str out) H') →
  wpAny (model X.prog X.w) X.A (joinParts acc (evalEach vs X.env)) (EP X pins σ Q) X.xe s
def At:TJ:=fun acc _ H R=>acc.length≤sizeLine∧R acc H
def zN (te:TE) (tr:TJ):TJ:=fun acc σ H R=>te σ H fun x H1=>match x with
  | .str y=>(acc ++ y).length≤sizeLine∧tr (acc ++ y) σ H1 R
  | _=>False
def zJ (t:TJ):TE:=fun σ H Q=>t Str.empty σ H fun out H'=>Q (.str out) H'
def AB (te:TE):TE:=fun σ H Q=>te σ H fun x H1=>match x with
  | .str y=>y.length≤sizeLine∧Q (.str y) H1
  | .int i=>i.natAbs.log2 < 1920∧Q (.str (toString i)) H1
  | _=>False
variable {o e:Expr} {es:List Expr} {to:TE} {t:TA} {apos cpos:Pos}
theorem pe_m.append (ho:PE X o to) (ha:PA X (e :: es) t) (hbase:attributeBase o "append" X.env (eval o X.env) = eval o X.env:=by rfl)
    (hfew:((backTo cpos (starEach (e :: es) X.env)).all (fun x=>!x.1) && (backToKw cpos (keywordEach [] X.env)).all (fun x=>x.1.isSome) && decide ((e :: es).length + ([]:List Keyword).length + (if ([]:List Keyword).isEmpty then 0 else 1) < 30)) = true:=by rfl)
    (hline:(apos.endLine == cpos.line) = true:=by rfl) (hs:starEach (e :: es) X.env = (false,eval e X.env) :: starEach es X.env:=by rfl) (hplain:(backTo cpos (starEach es X.env)).any (·.1) = false:=by rfl) :
    PE X (.Call (.Attribute o "append" apos) (e :: es) [] cpos) (tBM X.K "list" rAppend to t):=lC F.plainAttrs_list F.slot_list_append F.type_list_append ka ho ha hbase hfew hline hs hplain
end
def TK (H H':Hp):Prop:=∀ b xs,H b = some (.tup xs)→H' b = some (.tup xs)
theorem TK.trans {H H1 H2:Hp} (a:TK H H1) (b:TK H1 H2):TK H H2:=fun c o h=>b c o (a c o h)
theorem Same.tk {H H':Hp} (e:Same H H'):TK H H':=fun b xs h=>e b _ h
theorem TK.lst {H:Hp} {l:Addr} {xs ys:List V} (h:H l = some (.lst xs)):TK H (upd H l (.lst ys)):=fun b zs e=>by
  rw [ao (oH e h (by intro z; cases z))]; exact e
theorem Same.put {H H':Hp} {D:Addr} {o:HO} (e:Same H H') (h:H D = none):Same H (upd H' D o):=fun b u q=>by
  rw [ao (ay q h)]; exact e b u q
theorem ax {α:Type} {xs:List α} {i:Int} {v:α} (k:Nat) (hk:(k:Int) = i) (h:xs[k]? = some v):atI xs i = some v:=by rw [← hk]; exact aH h
theorem iK (xs:List V) (k:Nat) (h:k≤xs.length):cY xs none (some (k:Int)) = xs.take k:=by
  unfold cY
  rw [HT.sIx_nat,HT.sIx_none,List.drop_zero,Nat.sub_zero,Nat.min_eq_left h]
theorem pG (xs:List V) (k:Nat):cY xs (some (k:Int)) none = xs.drop k:=by
  unfold cY
  rw [HT.sIx_nat,HT.sIx_none]
  by_cases h:k≤xs.length
  · rw [Nat.min_eq_left h,List.take_of_length_le (by simp)]
  · rw [Nat.min_eq_right (by lia),Nat.sub_self,List.take_zero,List.drop_of_length_le (by lia)]
theorem kS (n:Str):∀ ts:List Str,inV (.str n) (ts.map V.str) = decide (n ∈ ts)
  | []=>rfl
  | t :: ts=>by
    have ih:=kS n ts
    unfold inV at ih ⊢
    rw [List.map_cons,List.any_cons,ih]
    by_cases h:t = n
    · have e:eqV (V.str t) (V.str n) = true:=by rw [h]; simp only [eqV,beq_self_eq_true]
      rw [e,Bool.true_or,decide_eq_true (by rw [h]; exact List.mem_cons_self)]
    · have e:eqV (V.str t) (V.str n) = false:=by simp only [eqV]; exact beq_false_of_ne h
      rw [e,Bool.false_or,Bool.eq_iff_iff,decide_eq_true_eq,decide_eq_true_eq,List.mem_cons]
      exact ⟨.inr,fun z=>z.elim (fun q=>absurd q.symm h) id⟩
theorem kh:∀ ts:List Str,(ts.map V.str).all gZ = true
  | []=>rfl
  | t :: ts=>by rw [List.map_cons,List.all_cons,kh ts]; rfl
def fb (t:Str):Bool:=jh t "abcdefghijklmnopqrstuvwxyz" 8
end L2
namespace L2
open PySem PySem.Spec PyProof.Rows
structure U where
  name:Str
  value:Int
  size:Int
  path:List Str
def uV (p:Addr) (u:U):List V:=[.str u.name,.int u.value,.int u.size,.ref p]
def IsU (H:Hp) (u:U) (x:V):Prop:=∃ a p,x = .ref a∧H a = some (.tup (uV p u))∧H p = some (.tup (u.path.map V.str))
theorem IsU.tk {H H':Hp} {u:U} {x:V} (k:TK H H') (h:IsU H u x):IsU H' u x:=let ⟨a,p,h1,h2,h3⟩:=h; ⟨a,p,h1,k a _ h2,k p _ h3⟩
abbrev AllU (H:Hp):List U→List V→Prop:=Paired (IsU H)
theorem AllU.tk {H H':Hp} (k:TK H H'):∀ {us:List U} {xs:List V},AllU H us xs→AllU H' us xs
  | _,_,.nil=>.nil
  | _,_,.cons r t=>.cons (r.tk k) (AllU.tk k t)
theorem AllU.len {H:Hp} {us:List U} {xs:List V} (h:AllU H us xs):us.length = xs.length:=Paired.length h
theorem AllU.get {H:Hp}:∀ {us:List U} {xs:List V} {i:Nat} {x:V},AllU H us xs→xs[i]? = some x→∃ u,us[i]? = some u∧IsU H u x
  | _,_,_,_,.nil,h=>by cases h
  | _,_,0,_,.cons r _,h=>⟨_,rfl,by cases h; exact r⟩
  | _,_,i + 1,_,.cons _ t,h=>AllU.get (i:=i) t h
theorem AllU.take {H:Hp}:∀ {us:List U} {xs:List V} (k:Nat),AllU H us xs→AllU H (us.take k) (xs.take k)
  | _,_,0,_=>by rw [List.take_zero,List.take_zero]; exact .nil
  | _,_,_ + 1,.nil=>.nil
  | _,_,k + 1,.cons r t=>.cons r (AllU.take k t)
theorem AllU.snoc {H:Hp} {u:U} {x:V} (r:IsU H u x):∀ {us:List U} {xs:List V},AllU H us xs→AllU H (us ++ [u]) (xs ++ [x])
  | _,_,.nil=>.cons r .nil
  | _,_,.cons q t=>.cons q (AllU.snoc r t)
structure GoodU (u:U):Prop where
  nm:fb u.name = true
  v0:-1000000000≤u.value
  v1:u.value≤1000000000
  s0:1≤u.size
  s1:u.size≤1000000
  pl:u.path.length≤3
  pn:∀ n ∈ u.path,fb n = true
structure GoodL (us:List U):Prop where
  l1:1≤us.length
  l2:us.length≤24
  each:∀ u ∈ us,GoodU u
  nd:(us.map U.name).Nodup
  pth:∀ u ∈ us,∀ v ∈ us,u.path.length = v.path.length
theorem iV {t:Str} (h:fb t = true):1≤t.cps.size∧t.cps.size≤8∧∀ c ∈ t.cps.toList,97≤c∧c≤122:=by
  unfold fb jh at h
  rw [Bool.and_eq_true,decide_eq_true_eq,List.all_eq_true] at h
  refine ⟨by lia,by lia,fun c hc=>?_⟩
  exact (gQ c).mp (of_decide_eq_true (h.2 c hc))
theorem rZ {t:Str} (h1:1≤t.cps.size) (h2:t.cps.size≤8) (h3:∀ c ∈ t.cps.toList,97≤c∧c≤122):fb t = true:=by
  unfold fb jh
  rw [Bool.and_eq_true,decide_eq_true_eq,List.all_eq_true]
  exact ⟨by lia,fun c hc=>decide_eq_true ((gQ c).mpr (h3 c hc))⟩
theorem eP {t:Str} (h:fb t = true):t.length≤sizeLine:=by
  have:=(iV h).2.1
  have e:sizeLine = 16777216:=sizeLine_eq
  show t.cps.size≤sizeLine
  lia
def xD:List Str→Str
  | [] => "-"
  | p :: r=>Txt.join "." (p :: r)
def xw (u:U):List Str:=[u.name,toString u.value,toString u.size,xD u.path]
def zY (u:U):Str:=Txt.join " " (xw u)
def uD (u:U):PyData:=.tuple [.str u.name,.int u.value,.int u.size,.tuple (u.path.map PyData.str)]
theorem ee {t:Str} (h:fb t = true):∀ c ∈ t.cps.toList,c < 128:=fun c hc=>by
  have:=(iV h).2.2 c hc
  lia
section
variable {X:Cx} {K:PySem.W.Frag}
theorem eG (h:X.K = K):IxR X (rIx K):=h ▸ au
theorem mU (h:X.K = K):CallR X (.builtin "len") (fun xs H Q=>match xs with
    | [.str z]=>z.length≤sizeLine∧Q (.int z.length) H
    | [.ref p]=>rLenSq K p H Q
    | _=>False):=h ▸ bi
theorem mG (h:X.K = K):OpR X (compareOp .In) (rIn K false):=h ▸ pf
theorem i8 (h:X.K = K) {es:List Expr} {k:Nat} {t:TGs} {n:Nat} {pos:Pos} (hc:X.calm = true) (hp:PGs X es t) (hn:(assignEach es X.env).length = n:=by rfl) (hst:(assignEach es X.env).findIdx? (·.1) = none:=by rfl) :
    PG X (.Tuple es k pos) (gTup K n t):=h ▸ fu hc hp hn hst
end
end L2
namespace L2
open PySem PySem.Spec PyProof.Rows
structure XCls (K:PySem.W.Frag) (D:Addr):Prop where
  ga:PySem.W.findIn K (.ref D) "__getattribute__" = some (some (.builtin "BaseException.__getattribute__"))
  gn:PySem.W.findIn K (.ref D) "__getattr__" = some none
  cl:PySem.W.findIn K (.ref D) "__class__" = some (some (.builtin "object.__class__"))
  mb:PySem.W.mroIn K D (.type "BaseException") = some true
  mo:PySem.W.mroIn K D (.type "object") = some true
  isc:(PySem.W.clsIn K D).isSome = true
section
variable {prog:Program} {w:World} {A:Around} {E:Value→Shared→Prop} {h:Heap} {g:Array GenState} {d:Drawn} {t:Nat} {os:OsState} {a D:Addr} {o:Obj} {K:PySem.W.Frag}
theorem q0 {M:Model} {nameV:Value} {Q:Unit→Shared→Prop} (c:XCls K D) (X:K.In h) (hx:h.get? a = some o) (hc:o.cls = .ref D) (hq:Q () ⟨h,g,d,t,os⟩) :
    wpAny M A (checkBuiltinCall "BaseException.__getattribute__" ⟨[.ref a,nameV],[]⟩) Q E ⟨h,g,d,t,os⟩:=by
  have hk:builtinKind "BaseException.__getattribute__" = some .slot:=by decide +kernel
  have hsplit:splitId "BaseException.__getattribute__" = some ("BaseException", "__getattribute__"):=by decide +kernel
  have ha:=F.args_bexc_ga (.ref a) nameV
  simp only [checkBuiltinCall,hk,hsplit]
  refine wpAny_bind ?_
  unfold isInstance
  repeat (first | (with_reducible refine wpAny_loadPart_at hx ?_; rw [hc]) | with_reducible refine (PySem.W.looks_mroIn X c.mb).at ?_ | wp_step)
  exact hq
theorem wu {R:Result→Shared→Prop} (c:XCls K D) (X:K.In h) (hx:h.get? a = some o) (hc:o.cls = .ref D) (hq:R (.ok (.ret (.ref D))) ⟨h,g,d,t,os⟩) :
    codeAny (model prog w) A (.call (.builtin "getset_descriptor.__get__") ⟨[.builtin "object.__class__",.ref a,.ref D],[]⟩) R ⟨h,g,d,t,os⟩:=by
  have hT5:(⟨h,g,d,t,os⟩:Shared).TypeIs (.builtin "object.__class__") "getset_descriptor" := F.typeOf_object_class
  have hO:PySem.W.Looks (model prog w) h (isSubtype (.ref D) (.type (".".intercalate ("object.__class__".cutAt '.').dropLast))) true:=by
    rw [F.owner_object_class]; exact PySem.W.looks_mroIn X c.mo
  refine codeAny_call_builtin F.slot_gs_get.plain F.entry_gs_get (F.slot_gs_get.check _ _ _ _ _ _ _ _ hT5 (F.args_gs_get _ _ _) ?_)
  repeat (any_goals (first | assumption | (with_reducible refine wpAny_loadPart_at hx ?_; rw [hc]) | with_reducible refine hO.at ?_ | wp_step))
  refine ⟨Code.quiet_builtin _ (by decide +kernel),codeAny_builtin F.entry_object_class ?_⟩
  repeat (any_goals (first | assumption | (with_reducible refine wpAny_loadPart_at hx ?_; rw [hc]) | wp_step))
theorem qo {tk:Tok} {Q:Fin→Shared→Prop} (c:XCls K D) (X:K.In h) (hx:h.get? a = some o) (hc:o.cls = .ref D) (hq:Q (.done (.ret (.ref D))) ⟨h,g,d,t,os⟩) :
    wpAny (model prog w) A (Builtin.«object.__getattribute__» ⟨[.ref a,.str "__class__" tk],[]⟩) Q E ⟨h,g,d,t,os⟩:=by
  have hT5:(⟨h,g,d,t,os⟩:Shared).TypeIs (.builtin "object.__class__") "getset_descriptor" := F.typeOf_object_class
  have f5:=F.typeOf_object_class
  have f6:=F.slot_gs_get.lookup
  have f7:=F.slot_gs_set.lookup
  repeat (any_goals (first | assumption | (with_reducible refine wpAny_loadPart_at hx ?_; rw [hc]) | with_reducible refine (PySem.W.looks_findIn X c.cl).at ?_ | wp_step))
  refine wu c X hx hc ?_
  repeat (any_goals (first | assumption | wp_step))
theorem wK {tk:Tok} {fill expr:Bool} {Q:Value→Shared→Prop} (c:XCls K D) (X:K.In h) (hx:h.get? a = some o) (hc:o.cls = .ref D) (hq:Q (.ref D) ⟨h,g,d,t,os⟩) :
    wpAny (model prog w) A (getAttrBy (.ref a) (.str "__class__" tk) fill expr) Q E ⟨h,g,d,t,os⟩:=by
  have f3:=PySem.F.attrBase_ValueError.ga.bind (.ref a)
  have hx0:(expr && onTheHeap (Value.builtin "BaseException.__getattribute__")) = false:=by cases expr <;> rfl
  have hx2:(Value.builtin "BaseException.__getattribute__" == Value.builtin "object.__getattribute__") = false:=by decide +kernel
  have hx1:(onTheHeap (Value.ref D) && Value.builtin "BaseException.__getattribute__" == Value.builtin "object.__getattribute__") = false:=by rw [hx2]; rfl
  repeat (any_goals (first | assumption | (with_reducible refine wpAny_loadPart_at hx ?_; rw [hc]) | with_reducible refine (PySem.W.looks_findIn X c.ga).at ?_ | with_reducible refine (PySem.W.looks_findIn X c.gn).at ?_ | wp_step))
  refine codeAny_call_builtin PySem.F.attrBase_ValueError.ga.plain F.entry_bexc_ga (q0 c X hx hc (qo c X hx hc ?_))
  repeat (any_goals (first | assumption | wp_step))
theorem tU {Q:Option Value→Shared→Prop} (c:XCls K D) (X:K.In h) (hx:h.get? a = some o) (hc:o.cls = .ref D) (hq:Q (some (.ref D)) ⟨h,g,d,t + 1,os⟩) :
    wpAny (model prog w) A (getAttr? (.ref a) "__class__") Q E ⟨h,g,d,t,os⟩:=by
  unfold getAttr? getAttrBy?
  repeat (any_goals (first | assumption | with_reducible apply wK c X hx hc | wp_step))
end
def XAt (a D:Addr) (h:Heap):Prop:=∃ o,h.get? a = some o∧o.cls = .ref D
theorem se {K:PySem.W.Frag} {a D:Addr} (c:XCls K D):PySem.W.KitX K (.ref a) (.ref D) (XAt a D) where
  ty:=fun M h _ p=>by
    obtain ⟨o,h1,h2⟩:=p
    exact h2 ▸ (PySem.W.Looks.ld h1).andThen .now
  it:=fun _ _ X _=>by
    obtain ⟨cdD,hcD⟩:=Option.isSome_iff_exists.mp c.isc
    unfold PySem.W.clsIn at hcD
    split at hcD
    · rename_i c' d' cd' sl' ho
      intro A' Q' E' s' k q
      unfold isType loadHead
      exact wpAny_bind (wpAny_loadPart (k _ _ (X _ _ ho)) (wpAny_pure q))
    · cases hcD
  ne:=fun h tp dd its n sl X htp=>by
    obtain ⟨cdD,hcD⟩:=Option.isSome_iff_exists.mp c.isc
    refine Bool.eq_false_iff.mpr fun q=>?_
    have e:D = tp:=Value.ref.inj (beq_iff_eq.mp q)
    subst e
    unfold PySem.W.clsIn at hcD
    split at hcD
    · rename_i c' d' cd' sl' ho
      have z:=(X _ _ ho).symm.trans htp
      cases z
    · cases hcD
  ca:=fun {_ _ _ _ _ s} X p k=>by
    obtain ⟨h,g,d,t,os⟩:=s
    obtain ⟨o,h1,h2⟩:=p
    exact tU c X h1 h2 k
end L2
namespace L2
open PySem PySem.Spec PyProof.Rows
theorem nI {fs:List Addr} {H0 H:Hp} {h0 h h2:Heap} (u:Un fs [] H0 H h0 h) (k:∀ b o,(∃ o',h0.get? b = some o')→b ∉ fs→h.get? b = some o→h2.get? b = some o)
    (sl:∀ b o,b ∈ fs→h.get? b = some o→∃ l,h2.get? b = some { o with slots:=l }):Un fs [] H0 H h0 h2 where
  keep:=fun b o q n hf hx=>k b o ⟨o,q⟩ hf (u.keep b o q n hf hx)
  slot:=fun b o q n hf hx=>by
    obtain ⟨l,e⟩:=u.slot b o q n hf hx
    obtain ⟨l',e'⟩:=sl b _ hf e
    exact ⟨l',e'⟩
  free:=u.free
  there:=fun b o q hx=>by
    obtain ⟨o',e⟩:=u.there b o q hx
    by_cases hf:b ∈ fs
    · obtain ⟨l,e'⟩:=sl b o' hf e
      exact ⟨_,e'⟩
    · exact ⟨o',k b o' ⟨o,q⟩ hf e⟩
  tups:=u.tups
  frzs:=u.frzs
  tbls:=u.tbls
theorem jI {P:Program} {w:World} {H:Hp} {h h2:Heap} (x:HOk P w H h) (k:∀ b o u,H b = some u→h.get? b = some o→h2.get? b = some o):HOk P w H h2:=fun a o e =>
  (x a o e).stay (fun b u hb q=>by
    rcases hb with z | z
    · rw [z] at q ⊢
      exact k a u o e q
    · exact k b u _ z q) (fun _ q=>q) fun _ _ q=>q
theorem ObjOk.isObj {P:Program} {w:World} {H:Hp} {h:Heap} {a:Addr} {o:HO} (x:ObjOk P w H h a o):∃ u,h.get? a = some u:=by
  cases o with
  | lst xs=>obtain ⟨_,_,_,_,e⟩:=x; exact ⟨_,e⟩
  | tup xs=>obtain ⟨_,_,_,_,e,_⟩:=x; exact ⟨_,e⟩
  | dK kvs=>obtain ⟨_,_,_,_,o,_,_,e,_⟩:=x; exact ⟨_,e⟩
  | dT kvs=>obtain ⟨_,_,_,_,o,_,_,e,_⟩:=x; exact ⟨_,e⟩
  | set S n=>obtain ⟨o,_,_,_,e,_⟩:=x; exact ⟨_,e⟩
  | ins C dx fs=>obtain ⟨_,_,_,e,_⟩:=x; exact ⟨_,e⟩
  | own y=>exact x
  | xd fs=>obtain ⟨_,⟨_,_,_,e,_⟩,_⟩:=x; exact ⟨_,e⟩
  | rng lo hi=>obtain ⟨_,_,_,e⟩:=x; exact ⟨_,e⟩
  | frz ob u=>exact ⟨_,x.1⟩
  | tbl ps=>exact ⟨_,x⟩
  | met f y=>exact ⟨_,x⟩
  | ext φ=>exact x.2.1
structure XF (P:Program) (w:World) (outer:List Env) (H:Hp) (s:Shared) (x D:Addr) (a0:Value) (B:Heap) (H':Hp) (s':Shared):Prop where
  os:s'.os = s.os
  bare:AllBare s'.gens
  un:Un (frs outer) [] H H' s.heap s'.heap
  hok:HOk P w H' s'.heap
  fly:Heap.FlyingW B outer x (.ref D) a0 s'.heap
  cov:∀ b o,s'.heap.get? b = some o→((∃ o',s.heap.get? b = some o')∨(∃ u,H' b = some u))→b ∉ frs outer→B.get? b = some o
def CXE (P:Program) (w:World):CXT:=fun outer H s E e s'=>∃ x D a0 B H',e = .ref x∧XF P w outer H s x D a0 B H' s'∧E (.ref D) none H'
section
variable {P:Program} {w:World} {outer:List Env} {H H':Hp} {s s':Shared} {x D:Addr} {a0:Value} {B:Heap}
end
section
variable {X:Cx} {pins:List (Addr×Obj)} {σ:St} {H H':Hp} {s s':Shared} {x D:Addr} {a0:Value} {B h2:Heap}
theorem uH (J:Inv X pins σ H' s') {b:Addr} (h:∃ o',X.s₀.heap.get? b = some o') (hn:b ∉ frs X.outer):b ∉ frs X.stack:=fun hb=>by
  obtain ⟨o',e⟩:=h
  rcases List.mem_cons.mp (J.stkSub b hb) with z | z
  · have h1:=Heap.lt_size e
    have h2:=J.ok.above
    rw [z] at h1
    exact absurd (Nat.lt_of_lt_of_le h1 h2) (Nat.lt_irrefl _)
  · exact hn z
theorem tj (J:Inv X pins σ H' s') {b:Addr} {u:HO} (e:H' b = some u):b ∉ frs X.stack:=fun hb=>by
  rw [J.stkFree b hb] at e
  cases e
end
section
variable {P:Program} {w:World} {K:PySem.W.Frag} {mg:Str→Option Value} {base:Heap} {N:List Str} {qual:Str} {scope:Scope} {f:Addr} {cdv:Value} {A:Around} {outer:List Env} {s0:Shared} {H0:Hp} {E:XK}
abbrev cxE (P:Program) (w:World) (K:PySem.W.Frag) (mg:Str→Option Value) (base:Heap) (N:List Str) (qual:Str) (scope:Scope) (f:Addr) (cdv:Value) (A:Around) (outer:List Env) (s0:Shared) (H0:Hp) (E:XK):Cx :=
  eM (CXE P w) P w K mg base N qual scope f cdv A outer s0 H0 E
def yI (E:XK) (C:Addr):TS:=fun _ _ H=>E (.ref C) none H
end
section
variable {P:Program} {w:World} {K:PySem.W.Frag} {mg:Str→Option Value} {base:Heap}
end
end L2
namespace L2
open PySem PySem.Spec PyProof.Rows
structure XHd (K:PySem.W.Frag) (C:Addr):Prop where
  isc:(PySem.W.clsIn K C).isSome = true
  ty:PySem.W.typeIn K (.ref C) = some (.type "type")
  mb:PySem.W.mroIn K C (.type "BaseException") = some true
theorem rj {K:PySem.W.Frag} {M:Model} {h:Heap} {C:Addr} (X:K.In h) (e:(PySem.W.clsIn K C).isSome = true):PySem.W.Looks M h (isType (.ref C)) true:=by
  obtain ⟨cdD,hcD⟩:=Option.isSome_iff_exists.mp e
  unfold PySem.W.clsIn at hcD
  split at hcD
  · rename_i c' d' cd' sl' ho
    intro A' Q' E' s' k q
    unfold isType loadHead
    exact wpAny_bind (wpAny_loadPart (k _ _ (X _ _ ho)) (wpAny_pure q))
  · cases hcD
theorem pO {K:PySem.W.Frag} {M:Model} {h:Heap} {C D x:Addr} {ob:Obj} (X:K.In h) (c:XHd K C) (hx:h.get? x = some ob) (hc:ob.cls = .ref D) (hm:PySem.W.mroIn K D (.ref C) = some true) :
    PySem.W.Looks M h (excMatches (.ref x) (.ref C)) true:=by
  have L1:PySem.W.Looks M h (typeOf (.ref C)) (.type "type"):=PySem.W.looks_typeIn X c.ty
  have L2':PySem.W.Looks M h (isSubtype (.type "type") (.type "tuple")) false:=PySem.W.Looks.of_pure tc_notTuple
  have L3:PySem.W.Looks M h (isInstance (.ref C) (.type "tuple")) false:=L1.andThen L2'
  have L4:PySem.W.Looks M h (isExcClass (.ref C)) true:=by
    unfold isExcClass
    exact (rj X c.isc).andThen (PySem.W.looks_mroIn X c.mb)
  have L5:PySem.W.Looks M h (typeOf (.ref x)) (.ref D):=hc ▸ (PySem.W.Looks.ld hx).andThen .now
  have L6:PySem.W.Looks M h (isSubtype (.ref D) (.ref C)) true:=PySem.W.looks_mroIn X hm
  intro A Q E s k q
  unfold excMatches
  refine wpAny_bind (L3 A _ E s k ?_)
  rw [if_neg Bool.false_ne_true]
  refine wpAny_bind (wpAny_pure ?_)
  simp only [List.forIn_cons,List.forIn_nil,bind_assoc,pure_bind]
  refine wpAny_bind (L4 A _ E s k ?_)
  simp only [Bool.not_true,Bool.false_eq_true,if_false,pure_bind]
  refine wpAny_bind (L5 A _ E s k ?_)
  refine wpAny_bind (L6 A _ E s k ?_)
  simp only [if_true,pure_bind]
  exact wpAny_pure q
def Cx.inX (X:Cx) (x:Addr):Cx:={ X with A:=X.A.mark (some (.ref x)),calm:=false,xe:=fun _ _=>False }
section
variable {X:Cx} {pins:List (Addr×Obj)} {σ:St} {H H' H1:Hp} {s s' s1:Shared} {x D C:Addr} {a0:Value} {B h2:Heap}
theorem Inv.inX (I:Inv X pins σ H s) (x:Addr):Inv (X.inX x) pins σ H s :=
  ⟨⟨I.ok.mod,I.ok.kind,I.ok.glob,I.ok.blt,I.ok.above,I.ok.inj,I.ok.has,I.ok.cab,fun z=>absurd (show false = true from z) Bool.false_ne_true,I.ok.frames,I.ok.stk,I.ok.exf,I.ok.bs,I.ok.bsz,I.ok.noex,I.ok.exfs,I.ok.funs,I.ok.frf⟩,
    I.os,I.bare,I.base,I.loc,I.cell,I.free,I.freeC,I.pin,I.hok,I.len⟩
theorem Inv.outX (hk:X.calm = true→X.A.handled = none) (I:Inv (X.inX x) pins σ H s):Inv X pins σ H s :=
  ⟨⟨I.ok.mod,I.ok.kind,I.ok.glob,I.ok.blt,I.ok.above,I.ok.inj,I.ok.has,I.ok.cab,hk,I.ok.frames,I.ok.stk,I.ok.exf,I.ok.bs,I.ok.bsz,I.ok.noex,I.ok.exfs,I.ok.funs,I.ok.frf⟩,
    I.os,I.bare,I.base,I.loc,I.cell,I.free,I.freeC,I.pin,I.hok,I.len⟩
theorem Inv.gone {i:Nat} {n:Str} {m:Str→Option Value} {v:Option Value} {h':Heap} {t':Nat} (I:Inv X pins σ H s) (hN:X.N.Nodup) (hi:X.N[i]? = some n) (hl:X.env.kindOf n = some .local)
    (hm:∀ (j:Nat) (y:Str) (w:V),X.N[j]? = some y→σ[j]? = some (some w)→Vis X.env.scope y→∃ u,RelV w u∧xX X.env s.heap m y u)
    (hn:h'.Ns X.env.locals (fun y=>if y = n then v else m y)) (sb:Heap.SameBut X.env.locals s.heap h'):Inv X pins (σ.set i none) H { s with heap:=h',toks:=t' }:=by
  have lt:i < σ.length:=by rw [I.len]; exact (List.getElem?_eq_some_iff.mp hi).1
  have ne0:∀ b o,X.s₀.heap.get? b = some o→b≠X.env.locals:=fun b o e=>Nat.ne_of_lt (Nat.lt_of_lt_of_le (Heap.lt_size e) I.ok.above)
  have u:=I.base
  refine ⟨I.ok,I.os,I.bare,⟨fun b o e n hf hx=>(sb.2 b (ne0 b o e)).trans (u.keep b o e n hf hx),fun b o e n hf hx=>?_,u.free,fun b o e hx=>?_,u.tups,u.frzs,u.tbls⟩,⟨_,hn,fun j y w e1 e2 e3=>?_⟩,fun x c e=>?_,I.free,I.freeC,fun p hp=>?_,?_,by rw [List.length_set]; exact I.len⟩
  · obtain ⟨sl,e'⟩:=u.slot b o e n hf hx
    exact ⟨sl,(sb.2 b (ne0 b o e)).trans e'⟩
  · obtain ⟨o',e'⟩:=u.there b o e hx
    exact ⟨o',(sb.2 b (ne0 b o e)).trans e'⟩
  · have hij:i≠j:=fun z=>by
      subst z
      rw [List.getElem?_set_self lt] at e2
      cases e2
    rw [List.getElem?_set_ne hij] at e2
    have hy:y≠n:=fun z=>by
      subst z
      exact hij ((List.getElem?_inj (List.getElem?_eq_some_iff.mp hi).1 hN).mp (hi.trans e1.symm))
    obtain ⟨u',r,l⟩:=hm j y w e1 e2 e3
    refine ⟨u',r,?_⟩
    rcases l with ⟨z1,z2⟩ | ⟨z1,c,z2,z3⟩
    · exact .inl ⟨z1,by simp only [if_neg hy]; exact z2⟩
    · exact .inr ⟨z1,c,z2,z3.sameBut sb (I.cne y c z2)⟩
  · obtain ⟨v',z⟩:=I.cell x c e
    exact ⟨v',z.sameBut sb (I.cne x c e)⟩
  · obtain ⟨p1,p2,p3,p4,p5⟩:=I.pin p hp
    exact ⟨(sb.2 _ p3).trans p1,p2,p3,p4,p5⟩
  · exact jI I.hok fun b o u' e q=>(sb.2 b fun z=>by rw [z,I.free] at e; cases e).trans q
end
end L2
namespace L2
open PySem PySem.Spec PyProof.Rows
section
variable {X:Cx} {pins:List (Addr×Obj)} {σ:St} {H H' H1:Hp} {s s' s1:Shared} {x D C:Addr} {a0:Value} {B h2:Heap} {cn en:Str} {ie:Nat} {b₀:Stmt} {suite:List Stmt} {cp hp:Pos} {ts:TS} {DE:Ends}
def Ends.asG (DE:Ends) (ie:Nat):Ends:={ nx:=fun σ' H'=>DE.nx (σ'.set ie none) H',rt:=fun _ _=>False }
end
def zF (K:PySem.W.Frag) (C:Addr) (sp:Sp) (dvs:List V) (t:TA) (ie:Nat) (ts:TS):TS:=fun DE σ H=>t σ H fun vs H1=>sp (vs ++ dvs) H1 (fun _ H2=>DE.nx σ H2) (fun cls _ H2=>∃ D,cls = .ref D ∧
  PySem.W.mroIn K D (.ref C) = some true∧∀ x,H2 x = none→ts (DE.asG ie) (σ.set ie (some (.ref x))) (upd H2 x (.ext (XAt x D))))
section
variable {X:Cx} {k ie:Nat} {f C:Addr} {fd:FuncData} {ps:List Str} {sp:Sp} {dvs:List V} {ds:List Value} {fx cn en:Str} {p pos p2 cp hp tp:Pos} {e:Expr} {es:List Expr} {t:TA} {b₀:Stmt} {suite:List Stmt} {ts:TS}
end
def TyX (K:PySem.W.Frag) (H:Hp) (x:V) (t:Value):Prop:=TyOf K H x t∨∃ a D φ,x = .ref a∧t = .ref D∧XCls K D∧H a = some (.ext φ)∧∀ h,φ h→XAt a D h
section
variable {X:Cx}
open PySem.W in
theorem uC {pins:List (Addr×Obj)} {σ:St} {H:Hp} {s:Shared} {x:V} {u t:Value} (I:Inv X pins σ H s) (rx:RelV x u) (ty:TyX X.K H x t) :
    ∃ Hh:Heap→Prop,KitX X.K u t Hh∧Hh s.heap∧u≠.builtin "__main__.__loader__#opaque" := by
  rcases ty with ty | ⟨a,D,φ,rfl,rfl,c,e,hφ⟩
  · exact mX I rx ty
  · cases (show u = Value.ref a from rx)
    exact ⟨_,se c,hφ _ (I.hok a _ e).1,fun z=>nomatch z⟩
def yT (K:PySem.W.Frag):List V→Hp→VK→Prop:=fun xs H Q=>∃ x c t b,xs = [x,c]∧lN c = true∧TyX K H x t∧PySem.W.kitOne K t (qj c) = some b∧Q (.bl b) H
theorem iq:CallR X (.builtin "isinstance") (yT X.K):=by
  intro pins s σ H xs us Q I r h
  obtain ⟨x,c,t,b,rfl,hc,ty,e,q⟩:=h
  obtain ⟨u,w',rfl,rx,rc⟩:=kR r
  cases nF hc rc
  obtain ⟨Hh,Z,p,hx⟩:=uC I rx ty
  exact PySem.W.kia_one Z I.kIn p e hx fun tk=>⟨.bl b,H,I.tok tk,rfl,q⟩
def zE (K:PySem.W.Frag):List V→Hp→VK→Prop:=fun xs H Q=>∃ x p cs t b,xs = [x,.ref p]∧H p = some (.tup cs)∧(cs.all lN) = true∧TyX K H x t∧PySem.W.kitAny K t (cs.map qj) = some b∧Q (.bl b) H
end
end L2
namespace L2
open PySem PySem.Spec PyProof.Rows
section
variable {prog:Program} {w:World} {A:Around} {E:Value→Shared→Prop} {h:Heap} {g:Array GenState} {d:Drawn} {t:Nat} {os:OsState} {a D dx:Addr} {o:Obj} {vs:Array Value} {cd:ClassData} {K:PySem.W.Frag} {name:Str} {mA:Str→Option Value} {v:Value}
abbrev bmV:List Value:=[.type "ValueError",.type "Exception",.type "BaseException",.type "object"]
def wI:Value→Bool
  | .ref _=>true
  | _=>false
def kj (l:List Value):Bool:=l.dropWhile wI == bmV
theorem kZ (self:Value):∀ {l:List Value},kj l = true→refuseLoop self "__setattr__" l = pure ()
  | [],e=>by cases e
  | x :: r,e=>by
    by_cases hx:wI x = true
    · have e':kj r = true:=by
        unfold kj at e ⊢
        rw [List.dropWhile_cons_of_pos hx] at e
        exact e
      cases x <;> first | exact absurd hx Bool.false_ne_true | (rw [refuseLoop_ref]; exact kZ self e')
    · unfold kj at e
      rw [List.dropWhile_cons_of_neg hx] at e
      rw [beq_iff_eq.mp e]
      exact PySem.F.store_ValueError.passes self
structure XSet (K:PySem.W.Frag) (D:Addr) (name:Str) (cd:ClassData):Prop where
  k:PySem.W.clsIn K D = some cd
  dct:cd.hasDict = true
  mro:kj cd.mro = true
  mo:PySem.W.mroIn K D (.type "object") = some true
  sa:PySem.W.findIn K (.ref D) "__setattr__" = some (some (.builtin "object.__setattr__"))
  na:PySem.W.findIn K (.ref D) name = some none
theorem nP {tk:Tok} {Q:Fin→Shared→Prop} (c:XSet K D name cd) (X:K.In h) (hx:h.get? a = some o) (hc:o.cls = .ref D)
    (hq:wpAny (model prog w) A (instanceDict a true) (fun r s'=>wpAny (model prog w) A (match r with | some d'=>Builtin.ObjectAttr.storeInDict d' (.str name tk) name v | none=>Builtin.ObjectAttr.noDictFor (.ref a) (.ref D) name false) Q E s') E ⟨h,g,d,t,os⟩) :
    wpAny (model prog w) A (Builtin.«object.__setattr__» ⟨[.ref a,.str name tk,v],[]⟩) Q E ⟨h,g,d,t,os⟩:=by
  have LT:PySem.W.Looks (model prog w) h (typeOf (.ref a)) (.ref D):=hc ▸ (PySem.W.Looks.ld hx).andThen .now
  have LM:PySem.W.Looks (model prog w) h (mroOf (.ref D)) cd.mro:=(PySem.W.looks_clsIn X c.k).andThen .now
  rw [PySem.W.osa_eq,refuse_eq]
  refine wpAny_bind (wpAny_bind (LT.at (wpAny_bind (LM.at ?_))))
  rw [kZ _ c.mro]
  refine wpAny_pure (wpAny_bind (LT.at (wpAny_bind ((PySem.W.looks_findIn X c.na).at ?_))))
  refine wpAny_bind (wpAny_pure ?_)
  show wpAny _ _ (Builtin.ObjectAttr.storeInOwnDict (.ref a) (.ref D) (.str name tk) name v false) _ _ _
  unfold Builtin.ObjectAttr.storeInOwnDict
  refine wpAny_bind (wpAny_pure ?_)
  rw [if_neg (show ¬ ((Value.ref D == Value.type "module") = true) from fun z=>by cases eq_of_beq z)]
  exact wpAny_bind hq
theorem lQ {tk:Tok} {Q:Fin→Shared→Prop} {dd:Addr} {ns:List Str} (hn:h.Ns1 dd mA) (hw:PySem.Within mA ns) (hz:ns.length≤1000)
    (hq:∀ h',h'.Ns1 dd (fun y=>if y = name then some v else mA y)→Heap.SameBut dd h h'→Q (.done (.ret .none)) ⟨h',g,d,t + 1,os⟩) :
    wpAny (model prog w) A (Builtin.ObjectAttr.storeInDict dd (.str name tk) name v) Q E ⟨h,g,d,t,os⟩:=by
  unfold Builtin.ObjectAttr.storeInDict Builtin.ObjectAttr.newKeyGuard
  refine wpAny_bind (wpAny_pure (wpAny_bind (wpAny_nsSet1 hn fun h1 n1 s1=>?_)))
  obtain ⟨o1,es1,ep1,g1,d1,c1⟩:=n1.count (PySem.Within.cons name v hw)
  have z1:es1.size≤sizeLine:=Nat.le_trans c1 (by rw [List.length_cons,sizeLine_eq]; lia)
  refine wpAny_bind (wpAny_lookBehind g1 (by rw [d1]; exact pastItsLine_dict (Nat.le_succ_of_le z1)) ?_)
  exact wpAny_pure (hq h1 n1 s1)
theorem qc {tk:Tok} {Q:Fin→Shared→Prop} (c:XSet K D name cd) (X:K.In h) (hx:h.get? a = some o) (hc:o.cls = .ref D) (hdt:o.data = .fields vs) (hd:o.dict = none)
    (hq:∀ h',h'.Ns1 h.objs.size (fun y=>if y = name then some v else none)→h'.get? a = some { o with dict:=some h.objs.size }→(∀ b u,b≠a→h.get? b = some u→h'.get? b = some u)→Q (.done (.ret .none)) ⟨h',g,d,t + 1,os⟩) :
    wpAny (model prog w) A (Builtin.«object.__setattr__» ⟨[.ref a,.str name tk,v],[]⟩) Q E ⟨h,g,d,t,os⟩:=by
  refine nP c X hx hc ?_
  have hx1:(h.push { cls:=.type "dict",data:=.dict #[] }).get? a = some o:=Heap.get?_push_of_some _ hx
  have hne:a≠h.objs.size:=Nat.ne_of_lt (Heap.lt_size hx)
  unfold instanceDict
  refine wpAny_bind (wpAny_loadPart_at hx ?_)
  rw [hc]
  refine wpAny_bind ((PySem.W.looks_clsIn X c.k).at ?_)
  rw [c.dct,hd,hdt]
  simp only [Bool.not_true,Bool.false_eq_true,if_false]
  rw [if_neg (by simp [typeHasDict])]
  refine wpAny_bind (wpAny_alloc' (wpAny_bind (wpAny_update' hx1 (wpAny_pure ?_))))
  have e1:((h.push { cls:=.type "dict",data:=.dict #[] }).update a fun u=>{ u with dict:=some h.objs.size }).get? h.objs.size = some { cls:=.type "dict",data:=.dict #[] } :=
    (Heap.get?_update_ne _ _ _ _ hne.symm).trans (Heap.get?_push_at rfl rfl)
  refine lQ (Heap.Ns1.of_empty ⟨_,#[],_,e1,rfl,fun u hu=>absurd hu (by simp),fun _=>rfl⟩) PySem.Within.nil (by simp) fun h2 n2 s2=>hq h2 n2 ?_ fun b u hb e=>?_
  · refine (s2.2 a hne).trans (Heap.get?_update_self _ hx1 ?_)
    rw [Obj.isFreed_of_fields (vs:=vs)]
    exact hdt
  · exact (s2.2 b (Nat.ne_of_lt (Heap.lt_size e))).trans ((Heap.get?_update_ne _ _ _ _ hb).trans (Heap.get?_push_of_some _ e))
theorem uq {tk:Tok} {Q:Fin→Shared→Prop} {ns:List Str} (c:XSet K D name cd) (X:K.In h) (hx:h.get? a = some o) (hc:o.cls = .ref D) (hd:o.dict = some dx) (hn:h.Ns1 dx mA) (hw:PySem.Within mA ns) (hz:ns.length≤1000)
    (hq:∀ h',h'.Ns1 dx (fun y=>if y = name then some v else mA y)→Heap.SameBut dx h h'→Q (.done (.ret .none)) ⟨h',g,d,t + 1,os⟩) :
    wpAny (model prog w) A (Builtin.«object.__setattr__» ⟨[.ref a,.str name tk,v],[]⟩) Q E ⟨h,g,d,t,os⟩:=by
  refine nP c X hx hc ?_
  unfold instanceDict
  refine wpAny_bind (wpAny_loadPart_at hx ?_)
  rw [hc]
  refine wpAny_bind ((PySem.W.looks_clsIn X c.k).at ?_)
  rw [c.dct,hd]
  simp only [Bool.not_true,Bool.false_eq_true,if_false]
  exact wpAny_pure (lQ hn hw hz hq)
theorem oA {Q:Unit→Shared→Prop} (c:XSet K D name cd) (X:K.In h) (hx:h.get? a = some o) (hc:o.cls = .ref D)
    (hq:∀ (B:Around) (tk:Tok) (Q':Fin→Shared→Prop) (E':Value→Shared→Prop),(∀ s',Q () s'→Q' (.done (.ret .none)) s')→wpAny (model prog w) B (Builtin.«object.__setattr__» ⟨[.ref a,.str name tk,v],[]⟩) Q' E' ⟨h,g,d,t + 1,os⟩) :
    wpAny (model prog w) A (setAttr (.ref a) name v) Q E ⟨h,g,d,t,os⟩:=by
  have f3:=PySem.F.store_ValueError.slot.bind (.ref a)
  have SF:=PySem.F.store_ValueError
  have LT:PySem.W.Looks (model prog w) h (typeOf (.ref a)) (.ref D):=hc ▸ (PySem.W.Looks.ld hx).andThen .now
  have LO:PySem.W.Looks (model prog w) h (isInstance (.ref a) (.type "object")) true:=LT.andThen (PySem.W.looks_mroIn X c.mo)
  unfold setAttr callSpecial? specialOf
  repeat (any_goals (first | assumption | (with_reducible refine wpAny_loadPart_at hx ?_; rw [hc]) | with_reducible refine (PySem.W.looks_findIn X c.sa).at ?_ | wp_step))
  refine codeAny_call_builtin SF.slot.plain SF.entry (@PySem.W.check_slot (model prog w) _ _ ⟨h,g,d,t + 1,os⟩ "object.__setattr__" "object" "__setattr__" (.ref a) [.str name t,v] [] _ SF.kind SF.split LO (SF.args (.ref a) (.str name t) v) ?_)
  exact hq _ t _ _ fun s' q=>wpAny_pure (wpAny_pure q)
end
section
variable {prog:Program} {w:World} {A:Around} {E:Value→Shared→Prop} {h:Heap} {g:Array GenState} {d:Drawn} {t:Nat} {os:OsState}
variable {nm q:Str} {C N fI:Addr} {bs bm bmB:List Value} {hdct:Bool} {sn:List Str} {sub:List Value} {ab:Bool} {col:Option Bool} {dd:Option Addr} {k0 k1 k2 k3 k5:Option Value} {B newId initId:String} {mN:Str→Option Value} {rest:List Value} {oI:Obj}
abbrev gh (h:Heap) (C:Addr) (rest:List Value):Heap:=(h.push { cls:=.type "tuple",data:=.seq rest.toArray }).push { cls:=.ref C,data:=.fields #[.ref h.objs.size,.none,.none,.none,.bool false,.none] }
theorem su {Q:Fin→Shared→Prop} (F:ExcBaseFacts B newId initId bmB) (T:OwnTail h bmB bm) (hC:h.get? C = some (excClassObj nm q C N bs bm hdct sn sub ab col dd k0 k1 k2 k3 k5 newId)) (hn:h.Ns N mN) (hi:mN "__init__" = some (.ref fI))
    (hf:h.get? fI = some oI) (hfc:oI.cls = .type "function") (hz:rest.length≤sizeLine)
    (hq:wpAny (model prog w) A (call (.ref fI) (.ref (h.objs.size + 1) :: rest)) (fun r s'=>r = .none∧Q (.done (.ret (.ref (h.objs.size + 1)))) s') E ⟨gh h C rest,g,d,t,os⟩) :
    wpAny (model prog w) A (Builtin.«type.__call__» ⟨.ref C :: rest,[]⟩) Q E ⟨h,g,d,t,os⟩:=by
  have up:∀ b o,h.get? b = some o→(gh h C rest).get? b = some o:=fun b o e=>Heap.get?_push_of_some _ (Heap.get?_push_of_some _ e)
  have C1:=up C _ hC
  have N1:(gh h C rest).Ns N mN:=hn.keeps up
  have T1:OwnTail (gh h C rest) bmB bm:=T.keeps up
  have X1:(gh h C rest).get? (h.objs.size + 1) = some { cls:=.ref C,data:=.fields #[.ref h.objs.size,.none,.none,.none,.bool false,.none] }:=by heap_get
  have self:(Value.ref C :: bm).contains (.ref C) = true:=by simp
  repeat (first | with_reducible refine wpAny_loadPart_at hC ?_ | with_reducible refine wpAny_madeBy_exc hC ?_ | wp_step)
  refine codeAny_call_builtin_code (Code.quiet_builtin _ F.quiet) (wpAny_check_new_subT F T hC (codeAny_exc_new_subT F T hC ?_ hz))
  show wpAny _ _ _ _ _ ⟨gh h C rest,g,d,t,os⟩
  unfold isInstance
  repeat (first | with_reducible refine wpAny_loadPart_at X1 ?_ | (with_reducible refine wpAny_isSubtype_exc C1 ?_; rw [self]) | wp_step)
  show wpAny _ _ (typeLookup (.ref C) _) _ _ _
  refine wpAny_typeLookup_tail C1 N1 T1 F.mroIs F.init.lookup ?_
  rw [hi]
  refine wpAny_holding (wpAny_bind ?_)
  unfold bindSpecial
  refine wpAny_bind (wpAny_typeOf (T := "function") ⟨oI,up fI _ hf,hfc⟩ ?_)
  rw [if_pos (by decide)]
  refine wpAny_pure (wpAny_bind (wpAny_mono hq (fun r s' hr=>?_) fun _ _ z=>z))
  obtain ⟨rfl,hQ⟩:=hr
  wp_walk
  exact hQ
theorem tu {Q:Value→Shared→Prop} (F:ExcBaseFacts B newId initId bmB) (T:OwnTail h bmB bm) (hC:h.get? C = some (excClassObj nm q C N bs bm hdct sn sub ab col dd k0 k1 k2 k3 k5 newId)) (hn:h.Ns N mN) (hi:mN "__init__" = some (.ref fI))
    (hf:h.get? fI = some oI) (hfc:oI.cls = .type "function") (hz:rest.length≤sizeLine)
    (hq:wpAny (model prog w) (A.under (.builtin "type.__call__" ⟨.ref C :: rest,[]⟩)) (call (.ref fI) (.ref (h.objs.size + 1) :: rest)) (fun r s'=>r = .none∧Q (.ref (h.objs.size + 1)) s') E ⟨gh h C rest,g,d,t,os⟩) :
    wpAny (model prog w) A (call (.ref C) rest) Q E ⟨h,g,d,t,os⟩:=by
  have l1:=tc_lookup
  have l2:=tc_bind (.ref C)
  have tyC:(⟨h,g,d,t,os⟩:Shared).TypeIs (.ref C) "type" := ⟨_,hC,rfl⟩
  refine wpAny_call (codeAny_of_tree ?_)
  show wpAny _ _ (callAny (.ref C) _) _ _ _
  repeat (any_goals (first | assumption | with_reducible refine wpAny_loadPart_at hC ?_ | wp_step))
  exact ⟨rfl,codeAny_call_builtin_at (Code.quiet_builtin _ (by decide +kernel)) entry_typeCall (wpAny_check_type_call_sub hC (su F T hC hn hi hf hfc hz hq))⟩
end
end L2
namespace L2
open PySem PySem.Spec PyProof.Rows
def XD0 (a D:Addr):Heap→Prop:=fun h=>∃ o vs,h.get? a = some o∧o.cls = .ref D∧o.data = .fields vs∧o.dict = none∧vs[1]? = some .none∧vs[2]? = some .none
def XD1 (a D dx:Addr):Heap→Prop:=fun h=>∃ o vs,h.get? a = some o∧o.cls = .ref D∧o.data = .fields vs∧o.dict = some dx∧vs[1]? = some .none∧vs[2]? = some .none
def XDct (dx:Addr) (fs:List (Str×V)):Heap→Prop:=fun h=>∃ mA,h.Ns1 dx mA∧∀ f,RelO (fs.lookup f) (mA f)
theorem XD0.at {a D:Addr} {h:Heap} (x:XD0 a D h):XAt a D h:=let ⟨o,_,e,c,_⟩:=x; ⟨o,e,c⟩
theorem XD1.at {a D dx:Addr} {h:Heap} (x:XD1 a D dx h):XAt a D h:=let ⟨o,_,e,c,_⟩:=x; ⟨o,e,c⟩
section
variable {P:Program} {w:World} {H:Hp} {h:Heap} {a D dx:Addr} {fs:List (Str×V)}
theorem XD0.ok (x:XD0 a D h):ObjOk P w H h a (.ext (XD0 a D)):=⟨x,let ⟨o,_,e,_⟩:=x; ⟨o,e⟩,fun _ _ ⟨o,vs,e,r⟩ k=>⟨o,vs,k o e,r⟩⟩
theorem XD1.ok (x:XD1 a D dx h):ObjOk P w H h a (.ext (XD1 a D dx)):=⟨x,let ⟨o,_,e,_⟩:=x; ⟨o,e⟩,fun _ _ ⟨o,vs,e,r⟩ k=>⟨o,vs,k o e,r⟩⟩
theorem XDct.ok (x:XDct dx fs h):ObjOk P w H h dx (.ext (XDct dx fs)):=⟨x,let ⟨_,⟨o,_,_,e,_⟩,_⟩:=x; ⟨o,e⟩,fun _ _ ⟨mA,n,r⟩ k=>⟨mA,n.at k,r⟩⟩
end
section
variable {X:Cx} {pins:List (Addr×Obj)} {σ:St} {H:Hp} {s:Shared} {h':Heap} {x dx D:Addr} {φ:Heap→Prop} {ox od:HO}
theorem Inv.tracked {t':Nat} (I:Inv X pins σ H s) (k:∀ b u,s.heap.get? b = some u→h'.get? b = some u) (hn:s.heap.get? x = none) (new:ObjOk X.prog X.w (upd H x ox) h' x ox):Inv X pins σ (upd H x ox) { s with heap:=h',toks:=t' }:=by
  have hx:H x = none:=by
    cases q:H x with
    | none=>rfl
    | some u =>
      obtain ⟨o,e⟩:=(I.hok x u q).isObj
      rw [hn] at e
      cases e
  have ne:∀ b o,s.heap.get? b = some o→b≠x:=fun b o e z=>by rw [z,hn] at e; cases e
  have nh:∀ b u,H b = some u→b≠x:=fun b u e z=>by rw [z,hx] at e; cases e
  refine I.un ⟨fun b o e _ _ _=>k b o e,fun b o e _ _ _=>⟨o.slots,k b o e⟩,fun b o e n _=>?_,fun b o e _=>⟨o,k b o e⟩,fun b xs e=>?_,fun b o u e=>?_,fun b ps e=>⟨#[],?_⟩⟩ fun b u e=>?_
  · rw [ao (ne b o e)]; exact n
  · rw [ao (nh b _ e)]; exact e
  · rw [ao (nh b _ e)]; exact e
  · rw [ao (nh b _ e),e]; simp
  · by_cases hb:b = x
    · subst hb
      rw [af] at e
      cases e
      exact new
    · rw [ao hb] at e
      exact (I.hok b u e).stay (fun c v _ q=>k c v q) (fun c q=>by rw [ao (nh c _ q)]; exact q) fun c xs q=>by rw [ao (nh c _ q)]; exact q
theorem Inv.put2 {t':Nat} (I:Inv X pins σ H s) (hx:H x = some (.ext φ)) (hd:s.heap.objs.size≤dx) (k:∀ b u,b≠x→s.heap.get? b = some u→h'.get? b = some u) (n1:ObjOk X.prog X.w (upd (upd H dx od) x ox) h' x ox)
    (n2:ObjOk X.prog X.w (upd (upd H dx od) x ox) h' dx od):Inv X pins σ (upd (upd H dx od) x ox) { s with heap:=h',toks:=t' }:=by
  have hdn:H dx = none:=I.hok.fresh hd
  have hxd:x≠dx:=fun z=>by rw [z,hdn] at hx; cases hx
  have ne:∀ b o,s.heap.get? b = some o→b≠dx:=fun b o e=>Nat.ne_of_lt (Nat.lt_of_lt_of_le (Heap.lt_size e) hd)
  have nh:∀ b u,H b = some u→b≠dx:=fun b u e z=>by rw [z,hdn] at e; cases e
  have nx:∀ b,H b = none→b≠x:=fun b e z=>by rw [z,hx] at e; cases e
  have nt:∀ b u,H b = some u→(∀ ψ,u≠.ext ψ)→b≠x:=fun b u e n z=>by
    rw [z,hx] at e
    cases e
    exact n φ rfl
  obtain ⟨ux,hux⟩:=n1.isObj
  refine I.un ⟨fun b o e n _ _=>k b o (nx b n) e,fun b o e n _ _=>⟨o.slots,k b o (nx b n) e⟩,fun b o e n _=>?_,fun b o e _=>?_,fun b xs e=>?_,fun b o u e=>?_,fun b ps e=>⟨#[],?_⟩⟩ fun b u e=>?_
  · rw [ao (nx b n),ao (ne b o e)]; exact n
  · by_cases hb:b = x
    · subst hb; exact ⟨ux,hux⟩
    · exact ⟨o,k b o hb e⟩
  · rw [ao (nt b _ e fun _ z=>nomatch z),ao (nh b _ e)]; exact e
  · rw [ao (nt b _ e fun _ z=>nomatch z),ao (nh b _ e)]; exact e
  · rw [ao (nt b _ e fun _ z=>nomatch z),ao (nh b _ e),e]; simp
  · by_cases hb:b = x
    · subst hb
      rw [af] at e
      cases e
      exact n1
    · by_cases hb2:b = dx
      · subst hb2
        rw [ao hb,af] at e
        cases e
        exact n2
      · rw [ao hb,ao hb2] at e
        refine (I.hok b u e).stay (fun c v hc q=>k c v ?_ q) (fun c q=>?_) fun c xs q=>?_
        · rintro rfl
          rcases hc with z | z
          · exact hb z.symm
          · rw [hx] at z; cases z
        · rw [ao (nt c _ q fun _ z=>nomatch z),ao (nh c _ q)]; exact q
        · rw [ao (nt c _ q fun _ z=>nomatch z),ao (nh c _ q)]; exact q
end
def xH (K:PySem.W.Frag) (ta tv:TE) (f:Str):TS:=fun D σ H=>tv σ H fun y H1=>ta σ H1 fun x H2=>∃ a C cd,x = .ref a∧XSet K C f cd ∧
  ((H2 a = some (.ext (XD0 a C))∧∀ dx,H2 dx = none→dx≠a→D.nx σ (upd (upd H2 dx (.ext (XDct dx [(f,y)]))) a (.ext (XD1 a C dx)))) ∨
    ∃ dx fs,H2 a = some (.ext (XD1 a C dx))∧H2 dx = some (.ext (XDct dx fs))∧fs.length≤900∧D.nx σ (upd H2 dx (.ext (XDct dx ((f,y) :: fs)))))
def zV (K:PySem.W.Frag) (ta:TE) (f:Str):TE:=fun σ H Q=>ta σ H fun x H1=>∃ a C cd dx fs v,x = .ref a∧XSet K C f cd∧XCls K C∧H1 a = some (.ext (XD1 a C dx))∧H1 dx = some (.ext (XDct dx fs))∧fs.lookup f = some v∧Q v H1
theorem fY {f g:Str} {y:V} {fs:List (Str×V)}:List.lookup g ((f,y) :: fs) = if g = f then some y else fs.lookup g:=by
  rw [List.lookup_cons]
  by_cases z:g = f
  · rw [if_pos z,show (g == f) = true by simpa using z]
  · rw [if_neg z,show (g == f) = false by simpa using z]
section
variable {X:Cx} {o e value:Expr} {f:Str} {pos pos' tpos:Pos} {ta tv:TE}
theorem nJ (ha:PE X o ta) (hv:PE X value tv) (hs:swapsWith value (some (.Attribute o f pos')) pos.line X.env = pure false):PS X (.Assign [.Attribute o f pos'] value pos) (xH X.K ta tv f):=by
  intro pins s σ H D I h
  refine plainObj_wpAny_Assign_Attribute (thn (hv pins s σ H _ I h) fun u s1 ⟨y,H1,I1,ry,q⟩=>thn (ha pins s1 σ H1 _ I1 q) fun ov s2 ⟨x,H2,I2,rx,a,C,cd,ex,c,q2⟩=>?_) hs
  subst ex
  obtain rfl:ov = Value.ref a:=rx
  obtain ⟨h2,g2,d2,t2,os2⟩:=s2
  rcases q2 with ⟨ea,q2⟩ | ⟨dx,fs,ea,ed,hl,q2⟩
  · obtain ⟨⟨ob,vs,e1,e2,e3,e4,e5⟩,_⟩:=I2.hok a _ ea
    refine oA c I2.kIn e1 e2 fun B tk Q' E' hQ=>qc c I2.kIn e1 e2 e3 e4 fun h' n' o' k'=>hQ _ ?_
    have hf:H2 h2.objs.size = none:=I2.hok.fresh (Nat.le_refl _)
    have hne:h2.objs.size≠a:=Nat.ne_of_gt (Heap.lt_size e1)
    refine ⟨σ,_,I2.put2 (t':=t2 + 1 + 1) (h':=h') (x:=a) (dx:=h2.objs.size) (od:=.ext (XDct h2.objs.size [(f,y)])) (ox:=.ext (XD1 a C h2.objs.size)) ea (Nat.le_refl _) k' (XD1.ok ⟨_,vs,o',e2,e3,rfl,e5⟩) (XDct.ok ⟨_,n',fun g=>?_⟩),q2 _ hf hne⟩
    rw [fY]
    by_cases z:g = f
    · rw [if_pos z,if_pos z]; exact ry
    · rw [if_neg z,if_neg z]; exact True.intro
  · obtain ⟨⟨ob,vs,e1,e2,e3,e4,e5⟩,_⟩:=I2.hok a _ ea
    obtain ⟨⟨mA,nA,rA⟩,_⟩:=I2.hok dx _ ed
    have wi:PySem.Within mA (fs.map (·.1)):=fun g hg=>by
      cases q:fs.lookup g with
      | none =>
        have:=rA g
        rw [q] at this
        exact absurd (RelO.none_of this) hg
      | some v=>exact List.mem_map.mpr ⟨(g,v),PySem.mem_of_lookup q,rfl⟩
    refine oA c I2.kIn e1 e2 fun B tk Q' E' hQ=>uq c I2.kIn e1 e2 e4 nA wi (by rw [List.length_map]; lia) fun h' n' sb=>hQ _ ?_
    refine ⟨σ,_,I2.write (t':=t2 + 1 + 1) (h':=h') (x:=dx) (e:=dx) (o:=.ext (XDct dx ((f,y) :: fs))) (by rw [ed]; exact True.intro) (.inl rfl) (fun b u hb e=>(sb.2 b hb).trans e) (let ⟨o',_,_,e',_⟩:=n'; ⟨o',e'⟩) (XDct.ok ⟨_,n',fun g=>?_⟩),q2⟩
    rw [fY]
    by_cases z:g = f
    · rw [if_pos z,if_pos z]; exact ry
    · rw [if_neg z,if_neg z]; exact rA g
end
end L2
namespace L2
open PySem PySem.Spec PyProof.Rows
theorem mO {K:PySem.W.Frag} {h:Heap} {N:Addr} {m:Str→Option Value} {n:Str} {v:Value} (X:K.In h) (G:h.Ns N m) (q:PySem.W.nsIn K N n = some (some v)):m n = some v:=by
  obtain ⟨ob,en,ep,gob,dob,_,fnd⟩:=G
  unfold PySem.W.nsIn at q
  split at q
  · rename_i c0 d0 en0 k0 sl0 lk
    have at0:=X _ _ lk
    rw [gob] at at0
    cases at0
    cases dob
    split at q
    · rename_i entry found
      cases q
      rw [← fnd]
      unfold nsFind findBy
      rw [← Array.find?_toList,found]
      rfl
    · split at q <;> cases q
  · cases q
def xIn (K:PySem.W.Frag) (C:Addr) (fI:Option Value):Bool:=match K.lookup C with
  | some ⟨.type "type",_,.cls cd,sl⟩=>(match cd.mro,sl.toList with
    | .ref C' :: bm,[_,_,_,_,some (.builtin n),_]=>C' == C && n == "ValueError.__new__" && !cd.hasDel && PySem.W.tailIn K bmV bm && PySem.W.nsOkIn K cd.ns && PySem.W.nsIn K cd.ns "__init__" == some fI
    | _,_=>false)
  | _=>false
structure XObj (h:Heap) (C:Addr) (fI:Option Value):Prop where
  obj:∃ bm N nm q bs hdct sn sub ab col dd k0 k1 k2 k3 k5 mN,h.get? C = some (excClassObj nm q C N bs bm hdct sn sub ab col dd k0 k1 k2 k3 k5 "ValueError.__new__")∧h.Ns N mN∧mN "__init__" = fI∧OwnTail h bmV bm
theorem nR {K:PySem.W.Frag} {h:Heap} {C:Addr} {fI:Option Value} (X:K.In h) (z:xIn K C fI = true):XObj h C fI:=by
  unfold xIn at z
  split at z
  · rename_i dct cld slt lk
    split at z
    · rename_i C' tl a0 a1 a2 a3 nid a5 hmro hsl
      simp only [Bool.and_eq_true,beq_iff_eq,Bool.not_eq_true'] at z
      obtain ⟨⟨⟨⟨⟨rfl,rfl⟩,hdel⟩,ht⟩,hok⟩,hin⟩:=z
      obtain ⟨nm,bs,mro,ns,qn,hd,sn,sub,ab,col,del⟩:=cld
      dsimp only at hmro hdel hok hin
      subst hmro hdel
      have es:slt = #[a0,a1,a2,a3,some (.builtin "ValueError.__new__"),a5]:=by
        obtain ⟨l⟩:=slt
        simp only at hsl
        rw [hsl]
      subst es
      have hN:h.Ns ns (h.nsMap ns):=.of_isNs (PySem.W.isNs_of_in X hok)
      refine ⟨tl,ns,nm,qn,bs,hd,sn,sub,ab,col,dct,a0,a1,a2,a3,a5,_,X _ _ lk,hN,?_,PySem.W.tail_of_in X ht⟩
      cases fI with
      | none=>exact PySem.W.ns_none_of X hN hin
      | some v=>exact mO X hN hin
    · cases z
  · cases z
def kB (K:PySem.W.Frag) (D:Addr):Bool:=PySem.W.findIn K (.ref D) "__getattribute__" == some (some (.builtin "BaseException.__getattribute__")) && PySem.W.findIn K (.ref D) "__getattr__" == some none &&
  PySem.W.findIn K (.ref D) "__class__" == some (some (.builtin "object.__class__")) && PySem.W.mroIn K D (.type "BaseException") == some true && PySem.W.mroIn K D (.type "object") == some true && (PySem.W.clsIn K D).isSome && PySem.W.typeIn K (.ref D) == some (.type "type")
theorem lp {K:PySem.W.Frag} {D:Addr} (h:kB K D = true):XCls K D:=by
  unfold kB at h
  simp only [Bool.and_eq_true,beq_iff_eq] at h
  obtain ⟨⟨⟨⟨⟨⟨h1,h2⟩,h3⟩,h4⟩,h5⟩,h6⟩,h7⟩:=h
  exact ⟨h1,h2,h3,h4,h5,h6⟩
theorem lR {K:PySem.W.Frag} {D:Addr} (h:kB K D = true):XHd K D:=by
  unfold kB at h
  simp only [Bool.and_eq_true,beq_iff_eq] at h
  obtain ⟨⟨⟨⟨⟨⟨h1,h2⟩,h3⟩,h4⟩,h5⟩,h6⟩,h7⟩:=h
  exact ⟨h6,h7,h4⟩
def qL (K:PySem.W.Frag) (D:Addr) (name:Str):Bool:=((PySem.W.clsIn K D).any fun cd=>cd.hasDict && kj cd.mro) && PySem.W.mroIn K D (.type "object") == some true &&
  PySem.W.findIn K (.ref D) "__setattr__" == some (some (.builtin "object.__setattr__")) && PySem.W.findIn K (.ref D) name == some none
theorem qA {K:PySem.W.Frag} {D:Addr} {name:Str} (h:qL K D name = true):∃ cd,XSet K D name cd:=by
  unfold qL at h
  simp only [Bool.and_eq_true,beq_iff_eq] at h
  obtain ⟨⟨⟨h1,h2⟩,h3⟩,h4⟩:=h
  obtain ⟨cd,e,e2⟩:=PySem.W.any_some h1
  rw [Bool.and_eq_true] at e2
  exact ⟨cd,e,e2.1,e2.2,h2,h3,h4⟩
def yQ (K:PySem.W.Frag) (cs:List Addr):Bool:=(List.range cs.length).all fun i=>(List.range cs.length).all fun j=>PySem.W.kitOne K (.ref (cs.getD i 0)) (.ref (cs.getD j 0)) == some (decide (i = j))
def ze (K:PySem.W.Frag) (cs:List Addr) (v:Value):Bool:=cs.all fun c=>PySem.W.kitOne K (.ref c) v == some true
section
variable {P:Program} {w:World} {K:PySem.W.Frag} {mg:Str→Option Value} {base:Heap} {N:List Str} {qual:Str} {scope:Scope} {f:Addr} {cdv:Value} {A:Around} {outer:List Env} {s0:Shared} {H0:Hp} {E:XK}
end
def xh (C:Addr):TE:=fun _ H Q=>∀ a,H a = none→Q (.ref a) (upd H a (.ext (XD0 a C)))
def yE (C:Addr) (sp:Sp) (t:TA):TE:=fun σ H Q=>t σ H fun vs H1=>∀ a,H1 a = none→sp (.ref a :: vs) (upd H1 a (.ext (XD0 a C))) (fun v H2=>v = .non∧Q (.ref a) H2) E0
section
variable {X:Cx} {k:Nat} {f C:Addr} {fd:FuncData} {ps:List Str} {sp:Sp} {x:Str} {p pos:Pos} {e:Expr} {es:List Expr} {t:TA}
theorem i9 (z:xIn X.K C none = true) (kp:PySem.W.keepIn X.K (.ref C) = true) (hg:Gl X x) (hm:X.mg x = some (.ref C)) (hdb:(x == ("__debug__" : Str)) = false:=by decide):PE X (.Call (.Name x p) [] [] pos) (xh C):=by
  intro pins s σ H Q I h
  refine wpAny_Call_Name_kw (eZ I hg hm ?_ hdb)
  refine PySem.W.callWith_K0 I.kIn kp ?_
  obtain ⟨bm,N,nm,q,bs,hdct,sn,sub,ab,col,dd,k0,k1,k2,k3,k5,mN,hC,hN,hni,T⟩:=(nR I.kIn z).obj
  obtain ⟨h0,g0,d0,t0,os0⟩:=s
  refine wpAny_call_exc_subT (rest:=[]) PySem.F.excBase_ValueError T hC hN hni (fun h' a hx=>?_) (Nat.zero_le _)
  obtain ⟨t1,ht,_,_⟩:=hx.there
  have hn:H a = none:=by
    cases q:H a with
    | none=>rfl
    | some u =>
      obtain ⟨o,e⟩:=(I.hok a u q).isObj
      have:=hx.new
      rw [show h0.get? a = some o from e] at this
      cases this
  exact ⟨.ref a,_,I.tracked (t':=t0) hx.keeps hx.new (XD0.ok ⟨_,_,ht,rfl,rfl,rfl,rfl,rfl⟩),rfl,h a hn⟩
theorem wg (z:xIn X.K C (some (.ref f)) = true) (kp:PySem.W.keepIn X.K (.ref C) = true) (fn:PySem.W.isFn X.K (.ref f) = true) (F:FnOk X.prog X.w X.K X.mg X.base CX0 k f fd ps sp) (hr:Room (k + 1) X.A) (hg:Gl X x) (hm:X.mg x = some (.ref C))
    (hb:Binds X.K fd ps []) (ha:PA X (e :: es) t) (hz:∀ vs H Q E,sp vs H Q E→vs.length≤100) (hdb:(x == ("__debug__" : Str)) = false:=by decide) (he:starEach (e :: es) X.env = (false,eval e X.env) :: starEach es X.env:=by rfl)
    (hpl:(backTo pos (starEach es X.env)).any (·.1) = false:=by rfl):PE X (.Call (.Name x p) (e :: es) [] pos) (yE C sp t):=by
  intro pins s σ H Q I h
  refine wpAny_Call_Name_kw (eZ I hg hm ?_ hdb)
  refine PySem.W.callWith_K (h₀:=X.base) I.ok.mod.kin kp (thn (ha pos pins s σ H _ I h) fun us s1 ⟨vs,H1,I1,r,q⟩=>⟨I1.kIn,?_⟩) he hpl
  obtain ⟨bm,N,nm,qn,bs,hdct,sn,sub,ab,col,dd,k0,k1,k2,k3,k5,mN,hC,hN,hni,T⟩:=(nR I1.kIn z).obj
  have q1:=q (s1.heap.objs.size + 1) (I1.hok.fresh (Nat.le_succ _))
  have hlen:us.length≤sizeLine:=by
    have:=hz _ _ _ _ q1
    rw [List.length_cons] at this
    rw [← r.length]
    exact Nat.le_trans (Nat.le_of_succ_le this) (by decide)
  have up:∀ b o,s1.heap.get? b = some o→(gh s1.heap C us).get? b = some o:=fun b o e=>Heap.get?_push_of_some _ (Heap.get?_push_of_some _ e)
  have e2:(gh s1.heap C us).get? (s1.heap.objs.size + 1) = some { cls:=.ref C,data:=.fields #[.ref s1.heap.objs.size,.none,.none,.none,.bool false,.none] }:=by heap_get
  have I2:=I1.laid (t':=s1.toks) (h':=gh s1.heap C us) (a:=s1.heap.objs.size + 1) (o:=.ext (XD0 (s1.heap.objs.size + 1) C)) up (Nat.le_succ _) (XD0.ok ⟨_,_,e2,rfl,rfl,rfl,rfl,rfl⟩)
  obtain ⟨oI,hfI,hfc⟩:∃ oI,s1.heap.get? f = some oI∧oI.cls = .type "function" := by
    have:=beq_iff_eq.mp fn
    unfold PySem.W.typeIn at this
    obtain ⟨ob,lk,hcl⟩:=Option.map_eq_some_iff.mp this
    exact ⟨ob,I1.kIn _ _ lk,hcl⟩
  have r2:Vals (V.ref (s1.heap.objs.size + 1) :: vs) (Value.ref (s1.heap.objs.size + 1) :: us):=.cons rfl r
  have hl2:(Value.ref (s1.heap.objs.size + 1) :: us).length = ps.length:=by rw [← r2.length]; exact F.len _ _ _ _ q1
  have b2:=hb { s1 with heap:=gh s1.heap C us,toks:=s1.toks } (Value.ref (s1.heap.objs.size + 1) :: us) I2.kIn (by rw [List.append_nil]; exact hl2)
  rw [List.append_nil] at b2
  have goal:wpAny (model X.prog X.w) X.A (call (.ref C) us) (EP X pins σ Q) X.xe s1:=by
    obtain ⟨h1,g1,d1,t1,os1⟩:=s1
    refine tu PySem.F.excBase_ValueError T hC hN hni hfI hfc hlen ?_
    refine wpAny_call (codeAny_mono (F.run _ X.stack _ _ ⟨Value.ref (h1.objs.size + 1) :: us,[]⟩ (Value.ref (h1.objs.size + 1) :: us) _ _ E0 (hr.make C us []) (I2.env0.make C us []) b2 r2 q1) fun r s' hq=>?_)
    cases r with
    | error e=>exact False.elim hq
    | ok fl =>
      cases fl with
      | ret u =>
        obtain ⟨v,H',I3,rv,ev,q3⟩:=I2.after hq
        subst ev
        exact ⟨rv,⟨V.ref (h1.objs.size + 1),H',I3,rfl,q3⟩⟩
      | next=>exact False.elim hq
      | brk=>exact False.elim hq
      | cont=>exact False.elim hq
  exact goal
end
end L2
namespace L2
open PySem PySem.Spec PyProof.Rows
section
variable {prog:Program} {w:World} {KT:Type} [DecidableEq KT] {knd:KeyKind prog w KT} {A:Around} {E:Value→Shared→Prop} {s:Shared} {d:Addr} {kvs:List (KT×Value)} {k:KT} {key dflt:Value}
theorem vA {Q:Value→Shared→Prop} (hkey:knd.is k key = true) (hm:s.heap.DictOf knd d kvs) (hz:kvs.length≤sizeLine) (hno:valueAt kvs k = none)
    (h:∀ h',h'.DictOf knd d (kvs ++ [(k,dflt)])→Heap.SameBut d s.heap h'→Q dflt { s with heap:=h',toks:=s.toks + 1 }):wpAny (model prog w) A (dictSetDefault d key dflt) Q E s:=by
  obtain ⟨ob,en,ep,gob,xob,dob,kob,pob,nob⟩:=hm
  have ez:en.size≤sizeLine:=by
    have l1:=pob.length
    have l2:en.toList.length = en.size:=by simp
    lia
  have hall:∀ q ∈ kvs,q.1≠k:=fun q hq hqk=>by
    unfold valueAt at hno
    rw [Option.map_eq_none_iff,List.find?_eq_none] at hno
    exact hno q hq (by simpa using hqk)
  have fnd:(en.findIdx? fun e=>knd.is k e.key) = none:=by
    have e1:(en.findIdx? fun e=>knd.is k e.key) = kvs.findIdx? fun q=>decide (q.1 = k):=by
      rw [← pob.findIdx k]
      obtain ⟨l⟩:=en
      simp
    rw [e1,List.findIdx?_eq_none_iff]
    intro q hq
    simpa using hall q hq
  unfold dictSetDefault
  refine wpAny_holding (wpAny_bind (knd.pyHash hkey (wpAny_bind (wpAny_dictFind_of (s:={ s with toks:=s.toks + 1 }) hkey gob dob kob ?_))))
  rw [fnd]
  refine wpAny_bind (wpAny_rule (wpAny_bind (wpAny_updateDictKeys (hz:=ez) (s:={ s with toks:=s.toks + 1 }) gob dob (wpAny_pure (h _ ⟨_,_,ep + 1,Heap.get?_update_self _ gob (Obj.isFreed_of_dict (Obj.data_mapDictKeys dob _)),
    xob.mapDictKeys _,Obj.data_mapDictKeys dob _,kob.push hkey _,?_,?_⟩ (Heap.SameBut.update ..))))))
  · have ap:=pob.append hkey (knd.hash k) dflt
    obtain ⟨l⟩:=en
    simpa using ap
  · rw [List.map_append,List.nodup_append]
    refine ⟨nob,by simp,fun a ha b hb=>?_⟩
    obtain ⟨q,hq,rfl⟩:=List.mem_map.mp ha
    have hb':b = k:=by simpa using hb
    rw [hb']
    exact hall q hq
theorem qF (hkey:knd.is k key = true) (hd:(d == sysModules) = false) (dflt:Value):MeetsIn prog w (Builtin.«dict.setdefault» ⟨[.ref d,key,dflt],[]⟩) (fun _ R s=>∃ kvs,s.heap.DictOf knd d kvs∧kvs.length≤sizeLine ∧
    (∀ v,valueAt kvs k = some v→R (.ok (.ret v)) { s with toks:=s.toks + 1 })∧(valueAt kvs k = none→∀ h',h'.DictOf knd d (kvs ++ [(k,dflt)])→Heap.SameBut d s.heap h'→R (.ok (.ret dflt)) { s with heap:=h',toks:=s.toks + 1 })) :=
  .of_wp fun A R s ⟨kvs,hm,hz,h1,h2⟩=>by
    have le:s.heap.DictLe d sizeLine:=by
      obtain ⟨ob,en,ep,gob,xob,dob,kob,pob,nob⟩:=id hm
      intro o2 e2 p2 g2 d2
      rw [gob] at g2
      cases g2
      rw [dob] at d2
      cases d2
      have l1:=pob.length
      have l2:en.toList.length = en.size:=by simp
      lia
    unfold Builtin.«dict.setdefault»
    refine wpAny_bind ?_
    unfold Builtin.Dict.keyAndDefault
    refine wpAny_bind (wpAny_notOrdered_dict hm.typeIs (show wpAny _ _ (pure (d,key,some dflt)) _ _ s from wpAny_pure ?_))
    show wpAny _ _ (if (d == sysModules) = true then _ else (dictSetDefault d key dflt >>= _)) _ _ s
    rw [if_neg (by rw [hd]; exact Bool.false_ne_true)]
    cases hv:valueAt kvs k with
    | some v=>exact wpAny_bind (wpAny_dictSetDefault_of (hz:=le) hkey hm.mapOf (fun v' hv'=>wpAny_pure ⟨v',rfl,h1 v' hv'⟩) fun hn=>absurd hn (by rw [hv]; exact fun z=>nomatch z))
    | none=>exact wpAny_bind (vA hkey hm hz hv fun h' m' s'=>wpAny_pure ⟨dflt,rfl,h2 hv h' m' s'⟩)
end
def uY:V→List V→Hp→VK→Prop:=fun x vs H Q=>∃ (a:Addr) (kvs:List (Key×V)) (k:Key) (v:V),x = .ref a∧vs = [kV k,v]∧H a = some (.dK kvs)∧kvs.length < sizeLine ∧
  (∀ y,cP kvs k = some y→Q y H)∧(cP kvs k = none→Q v (upd H a (.dK (kvs ++ [(k,v)]))))
section
variable {X:Cx}
theorem tO:MtR X "dict.setdefault" uY:=by
  intro pins s σ H x vs v us Q I rx rv h
  obtain ⟨a,kvs,k,y,rfl,rfl,e,l,h1,h2⟩:=h
  cases rx
  obtain ⟨u1,u2,rfl,r1,r2⟩:=kR rv
  obtain ⟨z,hd,vs,rel,dd⟩:=oe I.hok e
  have hz:vs.length≤sizeLine:=by rw [← rel.length]; exact z
  refine call_meetsIn PySem.F.slot_dict_setdefault dd.typeIs PySem.F.entry_dict_setdefault (PySem.F.args_dict_setdefault_3 _ _ _) (qF (knd:=bH X.prog X.w) (nK r1) hd u2) ⟨vs,dd,hz,fun v' hv'=>?_,fun hn h' m' s'=>?_⟩
  · have:=rel.val k
    rw [hv'] at this
    cases q:cP kvs k with
    | none=>rw [q] at this; exact False.elim this
    | some y' =>
      rw [q] at this
      exact ⟨y',H,I.tok _,this,h1 y' q⟩
  · have:=rel.val k
    rw [hn] at this
    have q:cP kvs k = none:=by
      cases q:cP kvs k with
      | none=>rfl
      | some y'=>rw [q] at this; exact False.elim this
    have e2:KV (kvs ++ [(k,y)]) (vs ++ [(k,u2)]):=by
      have p:=rel.put k r2
      have s1:stored vs k u2 = vs ++ [(k,u2)]:=by
        unfold stored
        rw [if_neg]
        intro w
        have w':=(rel.any k).trans w
        rw [fJ,q] at w'
        cases w'
      rw [sj y q,s1] at p
      exact p
    have hl:(kvs ++ [(k,y)]).length≤sizeLine:=by rw [List.length_append]; exact l
    have he:∃ ob,h'.get? a = some ob:=let ⟨ob,_,_,hq,_⟩:=m'; ⟨ob,hq⟩
    exact ⟨y,_,ko I (by rw [e]; exact True.intro) s' he (sf hl hd e2 m'),r2,h2 q⟩
end
end L2
namespace L2
open PySem PySem.Spec PyProof.Rows
theorem nq {b:Addr} {o:HO}:∀ {l:List (Addr×HO)},l.lookup b = some o→(b,o) ∈ l
  | [],e=>by simp at e
  | (c,u) :: r,e=>by
    rw [List.lookup_cons] at e
    by_cases h:b = c
    · rw [show (b == c) = true by simpa using h] at e
      cases e
      rw [h]
      exact List.mem_cons_self
    · rw [show (b == c) = false by simpa using h] at e
      exact List.mem_cons_of_mem _ (nq e)
def IV (v d:Addr):Heap→Prop:=fun h=>h.IsItemsView v d
def rK:V→List V→Hp→VK→Prop:=fun x vs H Q=>∃ (d:Addr) (kvs:List (Key×V)),x = .ref d∧vs = []∧H d = some (.dK kvs)∧∀ v,H v = none→Q (.ref v) (upd H v (.ext (IV v d)))
section
variable {X:Cx} {o e:Expr} {es:List Expr} {to:TE} {t:TA} {apos cpos:Pos}
theorem qv:MtR X "dict.items" rK:=by
  intro pins s σ H x vs v us Q I rx rv h
  obtain ⟨d,kvs,rfl,rfl,e,q⟩:=h
  cases rx
  cases rv
  obtain ⟨z,hd,ws,rel,dd⟩:=oe I.hok e
  refine call_meetsIn PySem.F.slot_dict_items dd.typeIs PySem.F.entry_dict_items (PySem.F.args_dict_items_1 _) (meets_dict_items (bH X.prog X.w) d hd) ⟨⟨ws,dd⟩,?_⟩
  refine ⟨.ref s.heap.objs.size,_,I.laid (t':=s.toks) (a:=s.heap.objs.size) (o:=.ext (IV s.heap.objs.size d)) (fun b u e=>Heap.get?_push_of_some _ e) (Nat.le_refl _) ?_,rfl,q _ (I.hok.fresh (Nat.le_refl _))⟩
  have g:(s.heap.push { cls:=.type "dict_items",data:=.fields #[.ref d] }).get? s.heap.objs.size = some { cls:=.type "dict_items",data:=.fields #[.ref d] }:=Heap.get?_push_size _ rfl
  exact ⟨⟨_,g,rfl,rfl⟩,⟨_,g⟩,fun h1 h2 ⟨ob,e1,r⟩ k=>⟨ob,k ob e1,r⟩⟩
def v7:List V→Hp→VK→Prop:=fun xs H Q=>∃ (v d:Addr) (kvs:List (Key×V)),xs = [.ref v]∧H v = some (.ext (IV v d))∧H d = some (.dK kvs) ∧
  ∀ (l:Addr) (as:List Addr) (H':Hp),Same H H'→H l = none→H' l = some (.lst (as.map V.ref))→as.length = kvs.length →
    (∀ (j:Nat) (a:Addr) (k:Key) (y:V),as[j]? = some a→kvs[j]? = some (k,y)→H a = none∧H' a = some (.tup [kV k,y]))→Q (.ref l) H'
theorem qz {P:Program} {w:World} {k:Key} {u:Value} (h:(bH P w).is k u = true):RelV (kV k) u:=by
  cases k with
  | inl i =>
    cases u <;> first | exact absurd h Bool.false_ne_true | (rename_i j t; have h':gW (Sum.inl i) (Value.int j t) = true:=h; have:j = i:=(by simpa [gW,Value.isInt] using h'); exact (show ∃ t',Value.int j t = Value.int i t' from ⟨t,by rw [this]⟩))
  | inr x =>
    cases u <;> first | exact absurd h Bool.false_ne_true | (rename_i j t; have h':gW (Sum.inr x) (Value.str j t) = true:=h; have:j = x:=(by simpa [gW,Value.isStrOf] using h'); exact (show ∃ t',Value.str j t = Value.str x t' from ⟨t,by rw [this]⟩))
theorem ni (hc:X.calm = true):CallR X (.type "list") v7:=by
  intro pins s σ H xs us Q I r h
  obtain ⟨v,d,kvs,rfl,ev,ed,q⟩:=h
  obtain ⟨u,rfl,ru⟩:=iu r
  cases ru
  obtain ⟨z,hd,ws,rel,dd⟩:=oe I.hok ed
  obtain ⟨ob,en,ep,dat⟩:=id dd
  have hz:ws.length≤sizeLine:=by rw [← rel.length]; exact z
  have hv:s.heap.IsItemsView v d:=(I.hok v _ ev).1
  have hm:s.heap.DictAt (bH X.prog X.w) d ws ep:=⟨ob,en,dat⟩
  refine PySem.W.kdx_call (knd:=bH X.prog X.w) (I.ok.hd hc) hv hm hz fun h' tk acc c as hk hS hl hG hacc=>?_
  have hlen:as.length = kvs.length:=by rw [hl,rel.length]
  have fresh:∀ b,s.heap.objs.size≤b→H b = none:=fun b hb=>I.hok.fresh hb
  have aS:∀ a ∈ as,s.heap.objs.size < a:=hG.above
  have nd:as.Nodup:=hG.rise.imp (fun h=>Nat.ne_of_lt h)
  -- the new abstract heap
  let tb:List (Addr×HO):=as.zip (kvs.map fun p=>HO.tup [kV p.1,p.2])
  have ltb:tb.length = as.length:=by simp [tb,hlen]
  let H':Hp:=fun b=>if b = s.heap.objs.size then some (.lst (as.map V.ref)) else (tb.lookup b).or (H b)
  have tbl:∀ b o,tb.lookup b = some o→b ∈ as:=fun b o e=>by
    have m:=nq e
    exact (List.of_mem_zip (show (b,o) ∈ as.zip (kvs.map fun p=>HO.tup [kV p.1,p.2]) from m)).1
  have old:∀ b,b < s.heap.objs.size→H' b = H b:=fun b hb=>by
    show (if b = s.heap.objs.size then _ else _) = _
    rw [if_neg (Nat.ne_of_lt hb)]
    cases q:tb.lookup b with
    | none=>rfl
    | some o=>exact absurd (aS b (tbl b o q)) (Nat.not_lt.mpr (Nat.le_of_lt hb))
  have sm:Same H H':=fun b o e=>by
    have hb:b < s.heap.objs.size:=Nat.lt_of_not_le fun w=>by rw [fresh b w] at e; cases e
    rw [old b hb]
    exact e
  have at_:∀ (j:Nat) (a:Addr) (k:Key) (y:V),as[j]? = some a→kvs[j]? = some (k,y)→H' a = some (.tup [kV k,y]):=fun j a k y ha hy=>by
    have hm:a ∈ as:=List.mem_of_getElem? ha
    show (if a = s.heap.objs.size then _ else _) = _
    rw [if_neg (Nat.ne_of_gt (aS a hm))]
    have e1:tb[j]? = some (a,.tup [kV k,y]):=by
      simp only [tb]
      rw [List.getElem?_zip_eq_some]
      refine ⟨ha,?_⟩
      rw [List.getElem?_map,hy]
      rfl
    have e2:tb.lookup a = some (.tup [kV k,y]):=by
      have key:∀ (as:List Addr) (os:List HO) (j:Nat) (a:Addr) (o:HO),as.Nodup→as[j]? = some a→os[j]? = some o→(as.zip os).lookup a = some o:=by
        intro as
        induction as with
        | nil=>intro os j a o _ h; simp at h
        | cons x r ih =>
          intro os j a o nd h1 h2
          cases os with
          | nil=>simp at h2
          | cons o0 os =>
            rw [List.zip_cons_cons,List.lookup_cons]
            cases j with
            | zero =>
              have e1:x = a:=by simpa using h1
              have e2:o0 = o:=by simpa using h2
              subst e1 e2
              simp
            | succ j =>
              have m:a ∈ r:=List.mem_of_getElem? (show r[j]? = some a by simpa using h1)
              have ne:a≠x:=fun w=>(List.nodup_cons.mp nd).1 (w ▸ m)
              rw [show (a == x) = false by simpa using ne]
              exact ih os j a o (List.nodup_cons.mp nd).2 (by simpa using h1) (by simpa using h2)
      exact key as _ j a _ nd ha (by rw [List.getElem?_map,hy]; rfl)
    rw [e2]
    rfl
  have hok:HOk X.prog X.w H' h':=fun b o e=>by
    by_cases hb:b = s.heap.objs.size
    · subst hb
      have e':some (HO.lst (as.map V.ref)) = some o:=by
        rw [← e]
        show _ = if s.heap.objs.size = s.heap.objs.size then _ else _
        rw [if_pos rfl]
      cases e'
      have hval:Vals (as.map V.ref) acc.toList:=by
        rw [hacc]
        have:∀ (l:List Addr),Vals (l.map V.ref) (l.map Value.ref):=by
          intro l
          induction l with
          | nil=>exact .nil
          | cons a l ih=>exact .cons rfl ih
        exact this as
      refine ⟨by rw [List.length_map,hlen]; exact z,acc.toList,c,hval,?_⟩
      rw [hS]
    · have e':(tb.lookup b).or (H b) = some o:=by
        have:=e
        simp only [H',if_neg hb] at this
        exact this
      cases qb:tb.lookup b with
      | some o' =>
        rw [qb] at e'
        cases e'
        have hm:=nq qb
        obtain ⟨j,hj⟩:=List.mem_iff_getElem?.mp hm
        simp only [tb] at hj
        rw [List.getElem?_zip_eq_some] at hj
        obtain ⟨ha,ho⟩:=hj
        rw [List.getElem?_map] at ho
        cases hkv:kvs[j]? with
        | none=>rw [hkv] at ho; cases ho
        | some p =>
          rw [hkv] at ho
          cases ho
          obtain ⟨key,k,x,hx,hki,hg⟩:=hG.pairs j b ha
          obtain ⟨q',hq',e3,r3⟩:∃ q',ws[j]? = some q'∧p.1 = q'.1∧RelV p.2 q'.2:=by
            have:∀ {a:List (Key×V)} {b:List (Key×Value)},KV a b→∀ (j:Nat) (p:Key×V),a[j]? = some p→∃ q',b[j]? = some q'∧p.1 = q'.1∧RelV p.2 q'.2:=by
              intro a b r
              induction r with
              | nil=>intro j p h; simp at h
              | @cons a0 b0 l1 l2 h0 _ ih =>
                intro j p h
                cases j with
                | zero =>
                  have e0:a0 = p:=by simpa using h
                  subst e0
                  exact ⟨b0,by simp,h0⟩
                | succ j=>exact ih j p (by simpa using h) |>.imp fun q' hq=>⟨by simpa using hq.1,hq.2⟩
            exact this rel j p hkv
          rw [hx] at hq'
          cases hq'
          have rk:RelV (kV p.1) key:=by
            have:p.1 = k:=e3
            rw [this]
            exact qz hki
          exact ⟨(by decide:2≤sizeLine),[key,x],.cons rk (.cons r3 .nil),⟨_,hg,rfl,_,rfl⟩⟩
      | none =>
        rw [qb] at e'
        have e2:H b = some o:=e'
        refine (I.hok b o e2).stay (fun b2 u _ q2=>hk b2 u q2) (fun b2 q2=>sm _ _ q2) fun b2 xs q2=>sm _ _ q2
  refine ⟨.ref s.heap.objs.size,H',I.un (t':=tk) ⟨fun b o e _ _ _=>hk b o e,fun b o e _ _ _=>⟨o.slots,hk b o e⟩,fun b o e n _=>?_,fun b o e _=>⟨o,hk b o e⟩,fun b xs e=>sm _ _ e,fun b o u e=>sm _ _ e,fun b ps e=>⟨#[],by rw [sm _ _ e]; simp⟩⟩ hok,rfl,?_⟩
  · rw [old b (Heap.lt_size e)]
    exact n
  · refine q _ as H' sm (fresh _ (Nat.le_refl _)) ?_ hlen fun j a k y ha hy=>⟨fresh a (Nat.le_of_lt (aS a (List.mem_of_getElem? ha))),at_ j a k y ha hy⟩
    show (if _ then _ else _) = _
    rw [if_pos rfl]
end
section
variable {X:Cx} {o e:Expr} {es:List Expr} {to:TE} {t:TA} {apos cpos:Pos}
theorem pe_m.setdefault (ho:PE X o to) (ha:PA X (e :: es) t) (hbase:attributeBase o "setdefault" X.env (eval o X.env) = eval o X.env:=by rfl)
    (hfew:((backTo cpos (starEach (e :: es) X.env)).all (fun x=>!x.1) && (backToKw cpos (keywordEach [] X.env)).all (fun x=>x.1.isSome) && decide ((e :: es).length + ([]:List Keyword).length + (if ([]:List Keyword).isEmpty then 0 else 1) < 30)) = true:=by rfl)
    (hline:(apos.endLine == cpos.line) = true:=by rfl) (hs:starEach (e :: es) X.env = (false,eval e X.env) :: starEach es X.env:=by rfl) (hplain:(backTo cpos (starEach es X.env)).any (·.1) = false:=by rfl) :
    PE X (.Call (.Attribute o "setdefault" apos) (e :: es) [] cpos) (tBM X.K "dict" uY to t):=lC F.plainAttrs_dict F.slot_dict_setdefault F.type_dict_setdefault tO ho ha hbase hfew hline hs hplain
theorem pe_m.items (ho:PE X o to) (hbase:attributeBase o "items" X.env (eval o X.env) = eval o X.env:=by rfl) (hline:(apos.endLine == cpos.line) = true:=by rfl) :
    PE X (.Call (.Attribute o "items" apos) [] [] cpos) (xG X.K "dict" rK to):=wj F.plainAttrs_dict F.slot_dict_items F.type_dict_items qv ho hbase hline
end
end L2
namespace L2
open PySem PySem.Spec PyProof.Rows
section
variable {X:Cx}
end
end L2
namespace L2
open PySem PySem.Spec PyProof.Rows
section
variable {M:Model} {A:Around} {E:Value→Shared→Prop} {s:Shared} {env:Env} {K:PySem.W.Frag} {D:Addr}
theorem tG {x:Sem Value} {Q:Flow→Shared→Prop} (c:XCls K D) (hd:XHd K D) (hh:A.handled = none)
    (h:wpAny M A x (fun v s₁=>∃ e ob vs,v = .ref e∧K.In s₁.heap∧s₁.heap.get? e = some ob∧ob.cls = .ref D∧ob.data = .fields vs∧vs[1]? = some .none∧E (.ref e) s₁) E s):wpAny M A (raiseStmt env (some x) none) Q E s:=by
  unfold raiseStmt
  refine wpAny_bind (wpAny_mono h (fun v s₁ h₁=>?_) fun _ _ z=>z)
  obtain ⟨e,ob,vs,rfl,X,ge,gc,gd,g1,hE⟩:=h₁
  obtain ⟨hp,g,d,tk,os⟩:=s₁
  repeat (first | with_reducible refine (PySem.W.looks_typeIn X hd.ty).at ?_ | (with_reducible refine wpAny_loadPart_at ge ?_; first | rw [gc] | rw [gd]) | with_reducible refine (PySem.W.looks_mroIn X c.mb).at ?_ | with_reducible refine wpAny_field ge gd g1 ?_ | wp_step)
  exact wpAny_raiseNew_none hh hE
end
end L2
namespace L2
open PySem PySem.Spec PyProof.Rows
def Fx (h:Heap) (e:Addr) (cls:Value) (dct:Option Addr) (fl:Value) (T:Addr):Prop :=
  ∃ ob fs oT ts,h.get? e = some ob∧ob.cls = cls∧ob.dict = dct∧ob.data = .fields fs∧fs[1]? = some (.ref T)∧T≠e∧h.get? T = some oT∧oT.data = .fields ts∧ts[3]? = some fl
theorem jC (f:Array Value→Array Value) (o:Obj):(Obj.mapFields f o).dict = o.dict:=by
  obtain ⟨c,d,dt,sl⟩:=o
  cases dt <;> rfl
theorem rV (f:Array Value→Array Value) (o:Obj):(Obj.mapFields f o).cls = o.cls:=Obj.cls_mapFields _ _
section
variable {M:Model} {A:Around} {E:Value→Shared→Prop} {s:Shared} {base:Heap} {env:Env} {outer:List Env} {L e:Addr} {ob:Obj} {fs:Array Value} {head:Value} {more:Bool}
theorem lB {Q:Unit→Shared→Prop} (fr:A.frames = some (env :: outer)) (ff:s.heap.FunFrames base (env :: outer)) (fL:env.frame = some L) (ge:s.heap.get? e = some ob) (de:ob.data = .fields fs) (sz:1 < fs.size)
    (h:∀ h' T,Fx h' e ob.cls ob.dict (rawInt L) T→s.heap.get? T = none→(∀ b o,b≠e→b ∉ frs (env :: outer)→s.heap.get? b = some o→h'.get? b = some o) →
      (∀ b o,b≠e→s.heap.get? b = some o→∃ sl,h'.get? b = some { o with slots:=sl })→Q () { s with heap:=h' }) :
    wpAny M A (do let a ← frameOf env; let pl ← entryPlaceOf L more; let b ← EntryCells.newEntry head a .none (rawInt L) .none pl; setField (.ref e) 1 b) Q E s:=by
  have out:e ∉ frs (env :: outer):=fun hm=>by
    obtain ⟨_,o,go,nf⟩:=ff.mem hm
    rw [ge] at go
    cases go
    exact nf fs de
  refine wpAny_bind (wpAny_frameOf_fun fr ff fL fun h1 so=>?_)
  refine wpAny_bind (wpAny_entryPlaceOf fun pl isP=>?_)
  unfold EntryCells.newEntry newFields
  refine wpAny_bind (wpAny_newObj_type ?_ (isP.sizeOk5 _ _ _ _ _))
  have e1:h1.get? e = some ob:=(so.2.1 e out).trans ge
  have e2:=Heap.get?_push_of_some (h:=h1) { cls:=.type "traceback",dict:=none,data:=.fields ([head,.ref L,.none,rawInt L,.none] ++ (if pl.isEmpty then List.replicate 6 Value.none else pl)).toArray } e1
  have nT:h1.objs.size≠e:=Nat.ne_of_gt (Heap.lt_size e1)
  have dm:=Obj.data_mapFields de (·.setIfInBounds 1 (Value.ref h1.objs.size))
  have e3:=Heap.get?_update_self (Obj.mapFields (·.setIfInBounds 1 (Value.ref h1.objs.size))) e2 (Obj.isFreed_of_fields dm)
  have oth:∀ b o,b≠e→h1.get? b = some o→((h1.push { cls:=.type "traceback",dict:=none,data:=.fields ([head,.ref L,.none,rawInt L,.none] ++ (if pl.isEmpty then List.replicate 6 Value.none else pl)).toArray }).update e (Obj.mapFields (·.setIfInBounds 1 (Value.ref h1.objs.size)))).get? b = some o :=
    fun b o nb gb=>(Heap.get?_update_other _ _ (Ne.symm nb)).trans (Heap.get?_push_of_some _ gb)
  refine wpAny_setField e2 de sz (h _ h1.objs.size ⟨_,_,_,_,e3,rV _ _,jC _ _,dm,by simp [sz],nT,(Heap.get?_update_other _ _ (Ne.symm nT)).trans (Heap.get?_push_size _ rfl),rfl,?_⟩ ?_ (fun b o nb nf gb=>oth b o nb ((so.2.1 b nf).trans gb)) fun b o nb gb=>?_)
  · simp
  · have:s.heap.objs.size = h1.objs.size:=so.1.symm
    rw [← this]
    exact Heap.get?_none_of_le (Nat.le_refl _)
  · obtain ⟨sl,g1⟩:=so.2.2 b o gb
    exact ⟨sl,oth b _ nb g1⟩
end
end L2
namespace L2
open PySem PySem.Spec PyProof.Rows
section
variable {M:Model} {A:Around} {E:Value→Shared→Prop} {s:Shared} {base:Heap} {env:Env} {outer:List Env} {L e T:Addr} {ob:Obj} {fs:Array Value} {cls fl:Value} {dct:Option Addr}
def KeptBut (xs fr:List Addr) (h h':Heap):Prop :=
  (∀ b o,b ∉ xs→b ∉ fr→h.get? b = some o→h'.get? b = some o)∧∀ b o,b ∉ xs→h.get? b = some o→∃ sl,h'.get? b = some { o with slots:=sl }
theorem KeptBut.trans {xs ys fr:List Addr} {h h1 h2:Heap} (a:KeptBut xs fr h h1) (b:KeptBut ys fr h1 h2):KeptBut (xs ++ ys) fr h h2 :=
  ⟨fun c o n f g=>b.1 c o (fun z=>n (List.mem_append_right _ z)) f (a.1 c o (fun z=>n (List.mem_append_left _ z)) f g),fun c o n g=>by
    obtain ⟨s1,g1⟩:=a.2 c o (fun z=>n (List.mem_append_left _ z)) g
    obtain ⟨s2,g2⟩:=b.2 c _ (fun z=>n (List.mem_append_right _ z)) g1
    exact ⟨s2,g2⟩⟩
theorem qk {Q:Unit→Shared→Prop} (fr:A.frames = some (env :: outer)) (ff:s.heap.FunFrames base (env :: outer)) (fL:env.frame = some L) (ge:s.heap.get? e = some ob) (de:ob.data = .fields fs) (f1:fs[1]? = some .none)
    (h:∀ h' T,Fx h' e ob.cls ob.dict (rawInt L) T→s.heap.get? T = none→KeptBut [e] (frs (env :: outer)) s.heap h'→Q () { s with heap:=h' }):wpAny M A (noteFrame (.ref e) env) Q E s:=by
  unfold noteFrame
  simp only [fL]
  refine wpAny_bind (wpAny_field ge de f1 ?_)
  rw [if_neg (by decide)]
  exact lB fr ff fL ge de (Array.getElem?_eq_some_iff.mp f1).1 fun h' T x nT k1 k2=>h h' T x nT ⟨fun b o n f g=>k1 b o (by simpa using n) f g,fun b o n g=>k2 b o (by simpa using n) g⟩
theorem nV {Q:Unit→Shared→Prop} (fr:A.frames = some (env :: outer)) (ff:s.heap.FunFrames base (env :: outer)) (fL:env.frame = some L) (x:Fx s.heap e cls dct .none T)
    (h:∀ h' T',Fx h' e cls dct (rawInt L) T'→s.heap.get? T' = none→KeptBut [T,e] (frs (env :: outer)) s.heap h'→Q () { s with heap:=h' }):wpAny M A (noteFrame (.ref e) env) Q E s:=by
  obtain ⟨ob,fs,oT,ts,ge,rfl,rfl,de,f1,nT,gT,dT,t3⟩:=x
  unfold noteFrame
  simp only [fL]
  refine wpAny_bind (wpAny_field ge de f1 ?_)
  rw [if_pos (show (Value.ref T != Value.none) = true from by simp)]
  refine wpAny_bind (wpAny_field gT dT t3 ?_)
  rw [if_neg (show ¬ ((Value.none == rawInt L) = true) from by simp [rawInt])]
  refine wpAny_bind (wpAny_setField gT dT (Array.getElem?_eq_some_iff.mp t3).1 ?_)
  have oth:∀ b,b≠T→(s.heap.update T (Obj.mapFields (·.setIfInBounds 3 Value.none))).get? b = s.heap.get? b:=fun b nb=>Heap.get?_update_other _ _ (Ne.symm nb)
  have nrec:∀ b o,s.heap.get? b = some o→(∀ vs,o.data≠.fields vs)→b≠T:=fun b o gb nf z=>by
    rw [z,gT] at gb
    cases gb
    exact nf ts dT
  have gT':=Heap.get?_update_self (Obj.mapFields (·.setIfInBounds 3 Value.none)) gT (Obj.isFreed_of_fields (Obj.data_mapFields dT _))
  refine lB fr (ff.of_keeps fun b o gb nf=>⟨o,(oth b (nrec b o gb nf)).trans gb,rfl⟩) fL ((oth e nT.symm).trans ge) de (Array.getElem?_eq_some_iff.mp f1).1 fun h' T' x' nT' k1 k2=>h h' T' x' ?_ ⟨fun b o n f g=>?_,fun b o n g=>?_⟩
  · cases q:s.heap.get? T' with
    | none=>rfl
    | some o =>
      by_cases z:T' = T
      · rw [z,gT'] at nT'
        cases nT'
      · have nT'':=nT'
        rw [oth T' z,q] at nT''
        cases nT''
  · have n1:b≠T:=fun z=>n (by rw [z]; exact List.mem_cons_self)
    have n2:b≠e:=fun z=>n (by rw [z]; simp)
    exact k1 b o n2 f ((oth b n1).trans g)
  · have n1:b≠T:=fun z=>n (by rw [z]; exact List.mem_cons_self)
    have n2:b≠e:=fun z=>n (by rw [z]; simp)
    exact k2 b o n2 ((oth b n1).trans g)
theorem gE {Q:Unit→Shared→Prop} {fr:List Addr} (x:Fx s.heap e cls dct fl T) (h:∀ h',Fx h' e cls dct .none T→KeptBut [T] fr s.heap h'→Q () { s with heap:=h' }):wpAny M A (setFlight (.ref e) none) Q E s:=by
  obtain ⟨ob,fs,oT,ts,ge,rfl,rfl,de,f1,nT,gT,dT,t3⟩:=x
  have z3:3 < ts.size:=(Array.getElem?_eq_some_iff.mp t3).1
  have oth:∀ b,b≠T→(s.heap.update T (Obj.mapFields (·.setIfInBounds 3 ((none:Option Addr).elim Value.none fun f=>rawInt f)))).get? b = s.heap.get? b:=fun b nb=>Heap.get?_update_other _ _ (Ne.symm nb)
  unfold setFlight
  refine wpAny_bind (wpAny_field ge de f1 ?_)
  rw [if_pos (show (Value.ref T != Value.none) = true from by simp)]
  refine wpAny_setField gT dT z3 (h _ ⟨ob,fs,_,_,(oth e nT.symm).trans ge,rfl,rfl,de,f1,nT,Heap.get?_update_self _ gT (Obj.isFreed_of_fields (Obj.data_mapFields dT _)),Obj.data_mapFields dT _,by simp [z3]⟩ ⟨fun b o n _ g=>?_,fun b o n g=>?_⟩)
  · exact (oth b (by simpa using n)).trans g
  · exact ⟨o.slots,(oth b (by simpa using n)).trans g⟩
theorem rh {Q:Unit→Shared→Prop} (fr:A.frames = some (env :: outer)) (ff:s.heap.FunFrames base (env :: outer)) (fL:env.frame = some L) (x:Fx s.heap e cls dct .none T)
    (h:∀ h' T',Fx h' e cls dct .none T'→s.heap.get? T' = none→KeptBut [T,e,T'] (frs (env :: outer)) s.heap h'→Q () { s with heap:=h' }):wpAny M A (leaving env (.ref e)) Q E s:=by
  unfold leaving
  refine wpAny_bind (nV fr ff fL x fun h1 T1 x1 n1 k1=>gE (s:={ s with heap:=h1 }) x1 fun h2 x2 k2=>h h2 T1 x2 n1 (k1.trans k2))
theorem pR {Q:Unit→Shared→Prop} (fr:A.frames = some (env :: outer)) (ff:s.heap.FunFrames base (env :: outer)) (fL:env.frame = some L) (ge:s.heap.get? e = some ob) (de:ob.data = .fields fs) (f1:fs[1]? = some .none)
    (h:∀ h' T',Fx h' e ob.cls ob.dict .none T'→s.heap.get? T' = none→KeptBut [e,T'] (frs (env :: outer)) s.heap h'→Q () { s with heap:=h' }):wpAny M A (leaving env (.ref e)) Q E s:=by
  unfold leaving
  refine wpAny_bind (qk fr ff fL ge de f1 fun h1 T1 x1 n1 k1=>gE (s:={ s with heap:=h1 }) x1 fun h2 x2 k2=>h h2 T1 x2 n1 (k1.trans k2))
end
end L2
namespace L2
open PySem PySem.Spec PyProof.Rows
structure XG (P:Program) (w:World) (outer:List Env) (H:Hp) (s:Shared) (x D:Addr) (dct:Option Addr) (T:Addr) (H':Hp) (s':Shared):Prop where
  os:s'.os = s.os
  bare:AllBare s'.gens
  un:Un (frs outer) [] H H' s.heap s'.heap
  hok:HOk P w H' s'.heap
  fx:Fx s'.heap x (.ref D) dct .none T
  nx:s.heap.get? x = none
  nT:s.heap.get? T = none
  ux:H' x = none
  uT:H' T = none
def CXG (P:Program) (w:World):CXT:=fun outer H s E e s'=>∃ x D dct T H',e = .ref x∧XG P w outer H s x D dct T H' s'∧E (.ref D) dct H'
theorem dI {fs:List Addr} {H H':Hp} {h h':Heap} {b:Addr} (u:Un fs [] H H' h h') (n:h'.get? b = none):h.get? b = none:=by
  cases q:h.get? b with
  | none=>rfl
  | some o =>
    obtain ⟨o',e⟩:=u.there b o q (by simp)
    rw [n] at e
    cases e
section
variable {P:Program} {w:World} {K:PySem.W.Frag} {mg:Str→Option Value} {base:Heap} {N:List Str} {qual:Str} {scope:Scope} {f:Addr} {cdv:Value} {A:Around} {outer:List Env} {s0:Shared} {H0:Hp} {E:XK}
abbrev cxG (P:Program) (w:World) (K:PySem.W.Frag) (mg:Str→Option Value) (base:Heap) (N:List Str) (qual:Str) (scope:Scope) (f:Addr) (cdv:Value) (A:Around) (outer:List Env) (s0:Shared) (H0:Hp) (E:XK):Cx :=
  eM (CXG P w) P w K mg base N qual scope f cdv A outer s0 H0 E
theorem oa {X:Cx} {pins:List (Addr×Obj)} {σ:St} {H':Hp} {s':Shared} {h2:Heap} {x D T:Addr} {dct:Option Addr} {xs:List Addr} (J:Inv X pins σ H' s') (hex:X.ex = [])
    (k:KeptBut xs (frs X.stack) s'.heap h2) (hxs:∀ b ∈ xs,X.s₀.heap.get? b = none∧H' b = none∧b ∉ frs X.outer) (fx:Fx h2 x (.ref D) dct .none T) (mx:x ∈ xs) (mT:T ∈ xs) :
    XG X.prog X.w X.outer X.H₀ X.s₀ x D dct T H' { s' with heap:=h2 }:=by
  have jb:Un (frs X.outer) [] X.H₀ H' X.s₀.heap s'.heap:=by
    have:=J.base
    rw [hex] at this
    exact this
  refine ⟨J.os,J.bare,nI jb (fun b o h0 hf e=>k.1 b o (fun z=>?_) (uH J h0 hf) e) (fun b o hf e=>k.2 b o (fun z=>(hxs b z).2.2 hf) e),jI J.hok (fun b o u hu e=>k.1 b o (fun z=>?_) (tj J hu) e),fx,(hxs x mx).1,(hxs T mT).1,(hxs x mx).2.1,(hxs T mT).2.1⟩
  · obtain ⟨o0,e0⟩:=h0
    rw [(hxs b z).1] at e0
    cases e0
  · rw [(hxs b z).2.1] at hu
    cases hu
theorem ja {X:Cx} {pins:List (Addr×Obj)} {σ:St} {H:Hp} {s:Shared} (I:Inv X pins σ H s) {b:Addr} (h:s.heap.get? b = none):b ∉ frs X.outer:=fun z=>by
  obtain ⟨_,o,e,_⟩:=I.funs.mem z
  rw [h] at e
  cases e
theorem cm:ii (CXG P w) (cxG P w K mg base N qual scope f cdv A outer s0 H0 E) E:=by
  intro pins σ H s e s' I hx
  obtain ⟨x,D,dct,T,H',rfl,G,q⟩:=hx
  have J:Inv (cxG P w K mg base N qual scope f cdv A outer s0 H0 E) pins σ H' s':=I.call' (ch:=[]) G.os G.un G.hok G.bare (by simp)
  have ib:Un (frs outer) [] H0 H s0.heap s.heap:=I.base
  have jb:Un (frs outer) [] H0 H' s0.heap s'.heap:=J.base
  show wpAny _ _ (leaving _ (.ref x)) _ _ s'
  refine rh I.ok.frames J.stack rfl G.fx fun h2 T2 x2 n2 k=>?_
  refine ⟨x,D,dct,T2,H',rfl,oa J rfl k (fun b hb=>?_) x2 (by simp) (by simp),q⟩
  have hb':b = T∨b = x∨b = T2:=by simpa using hb
  rcases hb' with rfl | rfl | rfl
  · exact ⟨dI ib G.nT,G.uT,ja I G.nT⟩
  · exact ⟨dI ib G.nx,G.ux,ja I G.nx⟩
  · refine ⟨dI jb n2,?_,ja J n2⟩
    cases z:H' b with
    | none=>rfl
    | some u =>
      obtain ⟨o,e⟩:=(J.hok b u z).isObj
      rw [n2] at e
      cases e
theorem yq:PassesOwn (model P w) (cxG P w K mg base N qual scope f cdv A outer s0 H0 E).A (cxG P w K mg base N qual scope f cdv A outer s0 H0 E).env (cxG P w K mg base N qual scope f cdv A outer s0 H0 E).xe:=PassesOwn.leaving
end
section
variable {P:Program} {w:World} {K:PySem.W.Frag} {mg:Str→Option Value} {base:Heap}
theorem Fun.okG {x qual:Str} {st:Stmt} {f:Addr} {fd:FuncData} {N ps:List Str} {k:Nat} {sp:Sp} (F:Fun K x qual st f fd) (S:FnScope N ps (ac st)) (len:∀ vs H Q E,sp vs H Q E→vs.length = ps.length)
    (hbody:∀ (cdv:Value) (A:Around) (outer:List Env) (s:Shared) (H:Hp) (vs:List V) (Q:VK) (E:XK),Room k (A.deeper (envOfC qual (ac st) s.heap.objs.size f cdv))→sp vs H Q E →
      ∃ t,PSs (cxG P w K mg base N qual (ac st) f cdv A outer s H E) (ag st) t∧t { nx:=fun _ H'=>Q .non H',rt:=Q } (eY N vs) H):FnOk P w K mg base (CXG P w) (k + 1) f fd ps sp:=by
  obtain ⟨oc,od,kV,doc,pm,an,cdv,ct,osl,rfl,lk,hcd⟩:=F.ex
  exact rf lk hcd S len fun A outer s H vs Q E hr hsp=>hbody cdv A outer s H vs Q E hr hsp
end
end L2
namespace L2
open PySem PySem.Spec PyProof.Rows
def untr (H:Hp) (x:Addr):Hp:=fun b=>if b = x then none else H b
theorem cJ {H:Hp} {x b:Addr} (h:b≠x):untr H x b = H b:=by unfold untr; rw [if_neg h]
theorem d8 {H:Hp} {x:Addr}:untr H x x = none:=by unfold untr; rw [if_pos rfl]
def XU (a D:Addr) (dct:Option Addr):Heap→Prop:=fun h=>∃ o vs,h.get? a = some o∧o.cls = .ref D∧o.data = .fields vs∧o.dict = dct∧vs[1]? = some .none∧vs[2]? = some .none
theorem Inv.untr {X:Cx} {pins:List (Addr×Obj)} {σ:St} {H:Hp} {s:Shared} {x:Addr} {φ:Heap→Prop} (I:Inv X pins σ H s) (hx:H x = some (.ext φ)):Inv X pins σ (untr H x) s:=by
  have nt:∀ b u,H b = some u→(∀ ψ,u≠.ext ψ)→b≠x:=fun b u e n z=>by
    rw [z,hx] at e
    cases e
    exact n φ rfl
  have fr:∀ b,H b = none→L2.untr H x b = none:=fun b e=>by
    by_cases z:b = x
    · rw [z]; exact d8
    · rw [cJ z]; exact e
  have hok:HOk X.prog X.w (L2.untr H x) s.heap:=fun b u e=>by
    by_cases z:b = x
    · rw [z,d8] at e
      cases e
    · rw [cJ z] at e
      refine (I.hok b u e).stay (fun _ _ _ q=>q) (fun c q=>?_) fun c xs q=>?_
      · rw [cJ (nt c _ q fun _ z=>nomatch z)]; exact q
      · rw [cJ (nt c _ q fun _ z=>nomatch z)]; exact q
  exact I.un (t':=s.toks) (h':=s.heap) ⟨fun b o e _ _ _=>e,fun b o e _ _ _=>⟨o.slots,e⟩,fun b o e n _=>fr b n,fun b o e _=>⟨o,e⟩,fun b xs e=>by rw [cJ (nt b _ e fun _ z=>nomatch z)]; exact e,
    fun b o u e=>by rw [cJ (nt b _ e fun _ z=>nomatch z)]; exact e,fun b ps e=>⟨#[],by rw [cJ (nt b _ e fun _ z=>nomatch z),e]; simp⟩⟩ hok
section
variable {P:Program} {w:World} {K:PySem.W.Frag} {mg:Str→Option Value} {base:Heap} {N:List Str} {qual:Str} {scope:Scope} {f:Addr} {cdv:Value} {A:Around} {outer:List Env} {s0:Shared} {H0:Hp} {E:XK}
def t7 (K:PySem.W.Frag) (H0:Hp) (E:XK) (D:Addr) (te:TE):TS:=fun _ σ H=>te σ H fun v H1=>∃ x dct φ,v = .ref x∧H1 x = some (.ext φ)∧(∀ h,φ h→XU x D dct h)∧H0 x = none∧E (.ref D) dct (untr H1 x)
theorem fM {ex:Expr} {te:TE} {D:Addr} {pos:Pos} (c:XCls K D) (hd:XHd K D) (he:PE (cxG P w K mg base N qual scope f cdv A outer s0 H0 E) ex te) :
    PS (cxG P w K mg base N qual scope f cdv A outer s0 H0 E) (.Raise (some ex) none pos) (t7 K H0 E D te):=by
  intro pins s σ H DE I h
  rw [arm_exec_Raise]
  refine wpAny_bind (wpAny_standAt ?_)
  show wpAny _ _ (raiseStmt _ (some (do let v ← eval ex (cxG P w K mg base N qual scope f cdv A outer s0 H0 E).env; standAt pos; pure v)) none) _ _ s
  refine tG (K:=K) (D:=D) c hd (I.ok.hd rfl) (wpAny_bind (thn (he pins s σ H _ I h) fun v s1 ⟨y,H1,I1,ry,x,dct,φ,ey,hx,hφ,h0,q⟩=>wpAny_bind (wpAny_standAt (wpAny_pure ?_))))
  subst ey
  obtain rfl:v = Value.ref x:=ry
  obtain ⟨ob,vs,g1,g2,g3,g4,g5⟩:=hφ _ (I1.hok x _ hx).1
  refine ⟨x,ob,vs,rfl,I1.kIn,g1,g2,g3,g5.1,?_⟩
  show wpAny _ _ (leaving _ (.ref x)) _ _ s1
  have J:=I1.untr hx
  have jb:Un (frs outer) [] H0 (untr H1 x) s0.heap s1.heap:=J.base
  have ib:Un (frs outer) [] H0 H1 s0.heap s1.heap:=I1.base
  have nx:s0.heap.get? x = none:=by
    cases z:s0.heap.get? x with
    | none=>rfl
    | some o =>
      have:=ib.free x o z h0 (by simp)
      rw [hx] at this
      cases this
  refine pR I1.ok.frames J.stack rfl g1 g3 g5.1 fun h2 T fx nT k=>?_
  rw [g2,g4] at fx
  refine ⟨x,D,dct,T,untr H1 x,rfl,oa J rfl k (fun b hb=>?_) fx (by simp) (by simp),q⟩
  have hb':b = x∨b = T:=by simpa using hb
  rcases hb' with rfl | rfl
  · refine ⟨nx,d8,fun z=>?_⟩
    obtain ⟨_,o,e,nf⟩:=J.funs.mem z
    rw [g1] at e
    cases e
    exact nf vs g3
  · refine ⟨dI jb nT,?_,ja J nT⟩
    cases z:untr H1 x b with
    | none=>rfl
    | some u =>
      obtain ⟨o,e⟩:=(J.hok b u z).isObj
      rw [nT] at e
      cases e
end
end L2
namespace L2
open PySem PySem.Spec PyProof.Rows
def XCt (a D:Addr) (dct:Option Addr):Heap→Prop:=fun h=>∃ o vs,h.get? a = some o∧o.cls = .ref D∧o.data = .fields vs∧o.dict = dct
theorem XCt.at {a D:Addr} {dct:Option Addr} {h:Heap} (x:XCt a D dct h):XAt a D h:=let ⟨o,_,e,c,_⟩:=x; ⟨o,e,c⟩
section
variable {X:Cx} {pins:List (Addr×Obj)} {σ:St} {H H':Hp} {s s':Shared} {x D C T T2:Addr} {dct:Option Addr} {fl:Value} {h2:Heap} {xs:List Addr}
theorem uR (I:Inv X pins σ H s) (G:XG X.prog X.w X.stack H s x D dct T H' s') (k:KeptBut xs (frs X.stack) s'.heap h2) (hxs:∀ b ∈ xs,s.heap.get? b = none∧H' b = none∧b ∉ frs X.stack) (fx:Fx h2 x (.ref D) dct fl T2) :
    Inv X pins σ (upd H' x (.ext (XCt x D dct))) { s' with heap:=h2 }:=by
  have hnx:∀ b u,H' b = some u→b≠x:=fun b u e z=>by rw [z,G.ux] at e; cases e
  have trk:∀ b u,H' b = some u→b ∉ frs X.stack:=fun b u e hb=>by
    obtain ⟨_,o,ho,_⟩:=I.stack.mem hb
    rw [G.un.free b o ho (I.stkFree b hb) (by simp)] at e
    cases e
  have u2:Un (frs X.stack) [] H H' s.heap h2:=nI G.un (fun b o h0 hf e=>k.1 b o (fun z=>by obtain ⟨o0,e0⟩:=h0; rw [(hxs b z).1] at e0; cases e0) hf e) (fun b o hf e=>k.2 b o (fun z=>(hxs b z).2.2 hf) e)
  have hk2:HOk X.prog X.w H' h2:=jI G.hok (fun b o u hu e=>k.1 b o (fun z=>by rw [(hxs b z).2.1] at hu; cases hu) (trk b u hu) e)
  obtain ⟨ob,fs,_,_,gx,gc,gd,gf,_⟩:=fx
  refine I.call' (ch:=[]) (s':={ s' with heap:=h2 }) G.os ⟨u2.keep,u2.slot,fun b o e n hx'=>?_,u2.there,fun b xs e=>?_,fun b o u e=>?_,fun b ps e=>?_⟩ (fun a o e=>?_) G.bare (by simp)
  · have:b≠x:=fun z=>by rw [z,G.nx] at e; cases e
    rw [ao this]
    exact u2.free b o e n hx'
  · have e':=u2.tups b xs e
    rw [ao (hnx b _ e')]
    exact e'
  · have e':=u2.frzs b o u e
    rw [ao (hnx b _ e')]
    exact e'
  · obtain ⟨more,e'⟩:=u2.tbls b ps e
    exact ⟨more,by rw [ao (hnx b _ e')]; exact e'⟩
  · by_cases ha:a = x
    · subst ha
      rw [af] at e
      cases e
      exact ⟨⟨ob,fs,gx,gc,gf,gd⟩,⟨ob,gx⟩,fun h1 h3 ⟨o,vs,e1,r⟩ kk=>⟨o,vs,kk o e1,r⟩⟩
    · rw [ao ha] at e
      exact (hk2 a o e).stay (fun _ _ _ q=>q) (fun b q=>by rw [ao (hnx b _ q)]; exact q) fun b xs q=>by rw [ao (hnx b _ q)]; exact q
end
section
variable {X:Cx} {pins:List (Addr×Obj)} {σ:St} {H H':Hp} {s s':Shared} {x D C T:Addr} {dct:Option Addr} {cn en:Str} {ie:Nat} {b₀:Stmt} {suite:List Stmt} {cp hp:Pos} {ts:TS} {DE:Ends}
theorem uJ (I:Inv X pins σ H s) (hst:X.stack = X.env :: X.outer∧X.env.frame = some X.env.locals) (G:XG X.prog X.w X.stack H s x D dct T H' s')
    (gC:Gl X cn) (mC:X.mg cn = some (.ref C)) (cC:XHd X.K C) (hm:PySem.W.mroIn X.K D (.ref C) = some true) (hN:X.N.Nodup) (hi:X.N[ie]? = some en) (hl:X.env.kindOf en = some .local)
    (hs:∀ x,PSs (X.inX x) (b₀ :: suite) ts) (q:ts (DE.asG ie) (σ.set ie (some (.ref x))) (upd H' x (.ext (XCt x D dct)))) (hdb:(cn == ("__debug__" : Str)) = false) :
    wpAny (model X.prog X.w) X.A (noteFrame (.ref x) X.env) (fun _ s₂=>wpAny (model X.prog X.w) X.A (setFlight (.ref x) none) (fun _ s₃ =>
      wpAny (model X.prog X.w) X.A (handleBy (.ref x) X.env [.ExceptHandler (some (.Name cn cp)) (some en) (b₀ :: suite) hp]) (SP X pins DE) X.xe s₃) X.xe s₂) X.xe s':=by
  have J:Inv X pins σ H' s':=I.call' (ch:=[]) G.os G.un G.hok G.bare (by simp)
  have st:s'.heap.FunFrames X.base (X.env :: X.outer):=hst.1 ▸ J.stack
  refine nV (by rw [I.ok.frames,hst.1]) st hst.2 G.fx fun h4 T4 x4 n4 k4=>?_
  refine gE (s:={ s' with heap:=h4 }) (fr:=frs (X.env :: X.outer)) x4 fun h5 x5 k5=>?_
  have k45:KeptBut ([T,x] ++ [T4]) (frs X.stack) s'.heap h5:=by rw [hst.1]; exact k4.trans k5
  have so:∀ b,s.heap.get? b = none→b ∉ frs X.stack:=fun b n z=>by
    obtain ⟨_,o,e,_⟩:=I.stack.mem z
    rw [n] at e
    cases e
  have h4s:s.heap.get? T4 = none:=dI G.un n4
  have u4:H' T4 = none:=by
    cases z:H' T4 with
    | none=>rfl
    | some u =>
      obtain ⟨o,e⟩:=(J.hok T4 u z).isObj
      rw [n4] at e
      cases e
  have hxs:∀ b,b = T∨b = x∨b = T4→s.heap.get? b = none∧H' b = none∧b ∉ frs X.stack:=fun b hb=>by
    rcases hb with rfl | rfl | rfl
    · exact ⟨G.nT,G.uT,so _ G.nT⟩
    · exact ⟨G.nx,G.ux,so _ G.nx⟩
    · exact ⟨h4s,u4,so _ h4s⟩
  have J5:=uR (h2:=h5) I G k45 (fun b hb=>hxs b (by simpa using hb)) x5
  obtain ⟨o5,ho5,hc5⟩:∃ o,h5.get? x = some o∧o.cls = .ref D:=let ⟨o,_,_,_,e,c,_⟩:=x5; ⟨o,e,c⟩
  refine wpAny_handleBy_cons (codeAny_handlers_test (eZ (X:=X.inX x) (J5.inX x) gC mC ?_ hdb)) (by intro z; cases z)
  refine (pO J5.kIn cC ho5 hc5 hm).at ?_
  refine codeAny_handlers_suite_as ?_
  refine gE (s:={ s' with heap:=h5 }) (fr:=frs (X.env :: X.outer)) x5 fun h6 x6 k6=>?_
  have k46:KeptBut ([T,x] ++ [T4] ++ [T4]) (frs X.stack) s'.heap h6:=by rw [hst.1]; exact (k4.trans k5).trans k6
  have J6:=uR (h2:=h6) I G k46 (fun b hb=>hxs b (by
    have:b = T∨b = x∨b = T4∨b = T4:=by simpa using hb
    rcases this with z | z | z | z
    · exact .inl z
    · exact .inr (.inl z)
    · exact .inr (.inr z)
    · exact .inr (.inr z))) x6
  refine fX J6 hN hi (.inl hl) (v:=.ref x) rfl (fun s7 I7=>?_) (.inr hl)
  refine wpAny_mono (hs x pins s7 _ _ _ (I7.inX x) q) (fun fl s8 hf=>?_) (fun _ _ z=>False.elim z)
  cases fl with
  | next =>
    obtain ⟨σ8,H8,I8,q8⟩:=hf
    have J8:Inv X pins σ8 H8 s8:=I8.outX I.ok.hd
    obtain ⟨m,hn,hlk⟩:=id J8.loc
    refine wpAny_nameGoes_keeps hl hn (by rw [I.ok.kind]; rfl) fun h9 v hn9 sb=>?_
    exact ⟨_,H8,J8.gone hN hi hl hlk hn9 sb,q8⟩
  | ret u=>obtain ⟨_,_,_,_,_,z⟩:=hf; exact False.elim z
  | brk=>obtain ⟨_,_,_,z⟩:=hf; exact False.elim z
  | cont=>obtain ⟨_,_,_,z⟩:=hf; exact False.elim z
end
end L2
namespace L2
open PySem PySem.Spec PyProof.Rows
def xS (K:PySem.W.Frag) (C:Addr) (sp:Sp) (dvs:List V) (t:TA) (ie:Nat) (ts:TS):TS:=fun DE σ H=>t σ H fun vs H1=>sp (vs ++ dvs) H1 (fun _ H2=>DE.nx σ H2) (fun cls dct H2=>∃ D,cls = .ref D ∧
  PySem.W.mroIn K D (.ref C) = some true∧∀ x,H2 x = none→ts (DE.asG ie) (σ.set ie (some (.ref x))) (upd H2 x (.ext (XCt x D dct))))
section
variable {X:Cx} {k ie:Nat} {f C:Addr} {fd:FuncData} {ps:List Str} {sp:Sp} {dvs:List V} {ds:List Value} {fx cn en:Str} {p pos p2 cp hp tp:Pos} {e:Expr} {es:List Expr} {t:TA} {b₀:Stmt} {suite:List Stmt} {ts:TS}
theorem uA (hst:X.stack = X.env :: X.outer∧X.env.frame = some X.env.locals) (F:FnOk X.prog X.w X.K X.mg X.base (CXG X.prog X.w) k f fd ps sp) (hr:Room k X.A) (hg:Gl X fx) (hm:X.mg fx = some (.ref f)) (hk:PySem.W.keepIn X.K (.ref f) = true)
    (hb:Binds X.K fd ps ds) (hd:Vals dvs ds) (ha:PA X.nox (e :: es) t) (gC:Gl X cn) (mC:X.mg cn = some (.ref C)) (cC:XHd X.K C) (hN:X.N.Nodup) (hi:X.N[ie]? = some en) (hl:X.env.kindOf en = some .local)
    (hs:∀ x,PSs (X.inX x) (b₀ :: suite) ts) (hdb:(fx == ("__debug__" : Str)) = false:=by decide) (hdc:(cn == ("__debug__" : Str)) = false:=by decide)
    (he:starEach (e :: es) X.env = (false,eval e X.env) :: starEach es X.env:=by rfl) (hpl:(backTo pos (starEach es X.env)).any (·.1) = false:=by rfl) (hsw:swapsWith (.Call (.Name fx p) (e :: es) [] pos) none p2.line X.env = pure false:=by rfl) :
    PS X (.Try [.Expr (.Call (.Name fx p) (e :: es) [] pos) p2] [.ExceptHandler (some (.Name cn cp)) (some en) (b₀ :: suite) hp] [] [] tp) (xS X.K C sp dvs t ie ts):=by
  intro pins s σ H DE I h
  refine wpAny_Try_except ?_
  refine wpAny_execs_cons (wpAny_Expr_any ?_ I.quiet hsw)
  refine wpAny_Call_Name_kw (eZ I hg hm ?_ hdb)
  refine PySem.W.callWith_K (h₀:=X.base) I.ok.mod.kin hk (wpAny_mono (ha pos pins s σ H _ (I.wish _) h) (fun us s1 ⟨vs,H1,I1,r,q⟩=>⟨I1.unwish.kIn,?_⟩) fun _ _ z=>False.elim z) he hpl
  have I1:=I1.unwish
  have r2:Vals (vs ++ dvs) (us ++ ds):=r.append hd
  have hlen:(us ++ ds).length = ps.length:=by rw [← r2.length]; exact F.len _ _ _ _ q
  refine wpAny_call (codeAny_mono (F.run X.A X.stack s1 H1 ⟨us,[]⟩ (us ++ ds) (vs ++ dvs) _ _ hr I1.env0 (hb s1 us I1.kIn hlen) r2 q) fun r s' hq=>?_)
  cases r with
  | error e =>
    obtain ⟨x,D,dct,T,H',rfl,XGl,D',eD,hmro,q'⟩:=hq
    cases eD
    exact uJ I1 hst XGl gC mC cC hmro hN hi hl hs (q' x XGl.ux) hdc
  | ok fl =>
    cases fl with
    | ret u =>
      obtain ⟨v,H2,I2,rv,q2⟩:=I1.after hq
      exact wpAny_execs_nil (wpAny_execs_nil ⟨σ,H2,I2,q2⟩)
    | next=>exact False.elim hq
    | brk=>exact False.elim hq
    | cont=>exact False.elim hq
end
def zT (K:PySem.W.Frag) (ta:TE) (f:Str):TE:=fun σ H Q=>ta σ H fun x H1=>∃ a C cd dx fs v φ,x = .ref a∧XSet K C f cd∧XCls K C∧H1 a = some (.ext φ)∧(∀ h,φ h→XCt a C (some dx) h)∧H1 dx = some (.ext (XDct dx fs))∧fs.lookup f = some v∧Q v H1
end L2
namespace FrM
theorem qP (x y:Int):Int.gcd y (x % y) = Int.gcd x y:=by
  have e:x = x % y + y * (x / y):=(Int.emod_add_mul_ediv x y).symm
  rw [Int.gcd_comm x y]
  conv=>rhs; rw [e]
  rw [Int.gcd_add_mul_left_right]
def Bt (n:Nat) (i:Int):Prop:=i.natAbs < 2 ^ n
theorem Bt.mono {m n:Nat} {i:Int} (h:Bt m i) (l:m≤n):Bt n i:=Nat.lt_of_lt_of_le h (Nat.pow_le_pow_right (by decide) l)
theorem Bt.le {n:Nat} {i j:Int} (h:Bt n i) (l:j.natAbs≤i.natAbs):Bt n j:=Nat.lt_of_le_of_lt l h
theorem Bt.mul {m n:Nat} {i j:Int} (h:Bt m i) (h':Bt n j):Bt (m + n) (i * j):=by
  unfold Bt at *
  rw [Int.natAbs_mul,Nat.pow_add]
  exact Nat.mul_lt_mul_of_le_of_lt (Nat.le_of_lt h) h' (Nat.lt_of_le_of_lt (Nat.zero_le _) h)
theorem Bt.sub {n:Nat} {i j:Int} (h:Bt n i) (h':Bt n j):Bt (n + 1) (i - j):=by
  unfold Bt at *
  rw [Nat.pow_succ]
  omega
structure Low (T B t b:Int):Prop where
  pos:1≤b
  cop:Int.gcd t b = 1
  eq:t * B = T * b
theorem low (t b:Int) (hb:0 < b):0 < (Int.gcd t b:Int)∧(Int.gcd t b:Int)≤b∧Low t b (t / (Int.gcd t b:Int)) (b / (Int.gcd t b:Int))∧(t / (Int.gcd t b:Int)).natAbs≤t.natAbs∧(b / (Int.gcd t b:Int)).natAbs≤b.natAbs:=by
  have hg:0 < Int.gcd t b:=Int.gcd_pos_iff.mpr (.inr (by omega))
  have hgi:0 < (Int.gcd t b:Int):=by omega
  have d1:=Int.gcd_dvd_left t b
  have d2:=Int.gcd_dvd_right t b
  have e1:=Int.ediv_mul_cancel d1
  have e2:=Int.ediv_mul_cancel d2
  have hle:(Int.gcd t b:Int)≤b:=Int.le_of_dvd hb d2
  refine ⟨hgi,hle,⟨?_,Int.gcd_ediv_gcd_ediv_gcd hg,?_⟩,?_,?_⟩
  · have:=Int.ediv_pos_of_pos_of_dvd hb (by omega) d2
    omega
  · rw [← Int.mul_ediv_assoc _ d2,Int.mul_comm,← Int.mul_ediv_assoc _ d1,Int.mul_comm]
  · have:=congrArg Int.natAbs e1
    rw [Int.natAbs_mul] at this
    rw [← this]
    exact Nat.le_mul_of_pos_right _ (by simpa using hg)
  · have:=congrArg Int.natAbs e2
    rw [Int.natAbs_mul] at this
    rw [← this]
    exact Nat.le_mul_of_pos_right _ (by simpa using hg)
end FrM
namespace L2
open PySem PySem.Spec PyProof.Rows FrM
section
variable {X:Cx}
def CMulB (i j:Int):Prop:=(Bt 8000 i∧Bt 8000 j)∨CMul i j
theorem CMulB.ok {i j:Int} (h:CMulB i j):IntMulOk i j:=by
  rcases h with ⟨h1,h2⟩ | h
  · exact IntMulOk.of_le (m:=8000) (n:=8000) (intBits_le_iff.mpr h1) (intBits_le_iff.mpr h2) (by decide)
  · exact h.ok
def CDivB (i j:Int):Prop:=0 < j∧Bt 8000 j
theorem CDivB.no {i j:Int} (h:CDivB i j):Builtin.divisionGoesByPylong i j = false:=by
  refine PyProof.noPylong_of_log2 ?_
  have h2:j.natAbs < 2 ^ 8000:=h.2
  by_cases h0:j.natAbs = 0
  · rw [h0]; decide +kernel
  · have:j.natAbs.log2 < 8000:=(Nat.log2_lt h0).mpr h2
    lia
theorem op_mulB:OpR X (binaryOp .Mult) (rI CMulB fun i j=>.int (i * j)):=opI fun _ _ _ _ _ _ _ hc q=>mul_int q hc.ok
theorem op_fdivB:OpR X (binaryOp .FloorDiv) (rI CDivB fun i j=>.int (i / j)):=opI fun i j _ _ _ _ _ hc q=>by
  have h1:(0:Int) < j:=hc.1
  exact floordiv_int (by lia) (by rw [Int.fdiv_eq_ediv_of_nonneg i (by lia)]; exact q) (.inl hc.no)
theorem cx:OpR X (binaryOp .Mult) (rIC CMulB fun i j=>.int (i * j)):=op_mulB.ic
theorem dY:OpR X (binaryOp .FloorDiv) (rIC CDivB fun i j=>.int (i / j)):=op_fdivB.ic
theorem cmB {i j:Int} {m n:Nat} (h:Bt m i) (h':Bt n j) (hm:m≤8000:=by decide) (hn:n≤8000:=by decide):CMulB i j:=.inl ⟨h.mono hm,h'.mono hn⟩
theorem clB {i j:Int} (h:-(2 ^ 64) < i:=by decide) (h2:i < 2 ^ 64:=by decide):CMulB i j:=.inr (cl h h2)
theorem crB {i j:Int} (h:-(2 ^ 64) < j:=by decide) (h2:j < 2 ^ 64:=by decide):CMulB i j:=.inr (cr h h2)
theorem cdB {i j:Int} {n:Nat} (h:0 < j) (h':Bt n j) (hn:n≤8000:=by decide):CDivB i j:=⟨h,h'.mono hn⟩
theorem rR:bootBuiltins "abs" = some (.builtin "abs"):=by decide +kernel
end
end L2
namespace L2
open PySem PySem.Spec PyProof.Rows
def uh:Expr→Bool
  | .Starred ..=>true
  | _=>false
theorem pz {e:Expr} {es:List Expr} {env:Env} (h:uh e = false):starEach (e :: es) env = (false,eval e env) :: starEach es env:=by
  cases e <;> first | rfl | cases h
theorem dB {X:Cx} {e:Expr} {es:List Expr} {te:TE} {t:TA} (ha:PE X e te) (hr:PA X es t) (h:uh e = false:=by rfl):PA X (e :: es) (oj te t):=aa ha hr (pz h)
@[irreducible] def PSq (X:Cx) (sts:List Stmt) (t:TS):Prop:=PSs X sts t
theorem wB {X:Cx} {st:Stmt} {sts:List Stmt} {t u:TS} (h1:PS X st t) (h2:PSq X sts u):PSs X (st :: sts) (vE t u):=by
  unfold PSq at h2
  exact aj h1 h2
def yW (K:PySem.W.Frag) (C:Addr) (sp:Sp) (dvs:List V) (t:TA) (ie ir:Nat) (ts:TS):TS:=fun DE σ H=>t σ H fun vs H1=>sp (vs ++ dvs) H1 (fun v H2=>DE.nx (σ.set ir (some v)) H2) (fun cls dct H2=>∃ D,cls = .ref D ∧
  PySem.W.mroIn K D (.ref C) = some true∧∀ x,H2 x = none→ts (DE.asG ie) (σ.set ie (some (.ref x))) (upd H2 x (.ext (XCt x D dct))))
section
variable {X:Cx} {k ie ir:Nat} {f C:Addr} {fd:FuncData} {ps:List Str} {sp:Sp} {dvs:List V} {ds:List Value} {fx cn en rn:Str} {p pos p2 p3 cp hp tp:Pos} {e:Expr} {es:List Expr} {t:TA} {b₀:Stmt} {suite:List Stmt} {ts:TS}
end
end L2
namespace HT
open PySem PySem.Spec PyProof.Rows
section
variable {prog:Program} {w:World} {A:Around} {E:Value→Shared→Prop} {s:Shared}
end
end HT
namespace L2
open PySem PySem.Spec PyProof.Rows
section
variable {X:Cx}
def mR (K:PySem.W.Frag):R2:=fun x y H Q=>∃ a b ys,x = .ref a∧y = .ref b∧SqT K H a []∧SqT K H b ys∧Q (.ref b) H
theorem op_catT0:OpR X (binaryOp .Add) (mR X.K):=by
  intro pins s σ H x y v u Q I rx ry h
  obtain ⟨a,b,ys,rfl,rfl,ha,hb,q⟩:=h
  cases rx
  cases ry
  obtain ⟨its,r1,p1,_⟩:=I.tuple ha
  obtain ⟨its2,r2,p2,_⟩:=I.tuple hb
  have e0:its = []:=r1.nil_iff.mpr rfl
  subst e0
  obtain ⟨⟨cls,dd,data,sl⟩,ho,hc,n,hd⟩:=id p1
  obtain ⟨⟨cls2,dd2,data2,sl2⟩,ho2,hc2,n2,hd2⟩:=id p2
  simp only at hc hd hc2 hd2
  subst hc hd hc2 hd2
  exact concat_meets ⟨_,ho,rfl⟩ ⟨_,ho2,rfl⟩ noFill_tuple_add seq_tuple_add PySem.F.slot_tuple_add PySem.F.entry_tuple_add (PySem.F.args_tuple_add_2 _ _)
      (tuple_addW0 a b _ its2.toArray n n2 dd dd2 sl sl2 rfl) ⟨ho,ho2,⟨.ref b,H,I,rfl,q⟩⟩
theorem rE:OpR X (binaryOp .Add) (fun x y H Q=>mR X.K x y H Q∨rX X.K x y H Q):=op_catT0.or ue
def zZ (K:PySem.W.Frag):V→Option Int→Option Int→Hp→VK→Prop:=fun x lo hi H Q=>∃ a xs,x = .ref a∧SqT K H a xs∧(HT.sIx xs.length 0 lo = 0∧HT.sIx xs.length xs.length hi = xs.length)∧Q (.ref a) H
@[irreducible] def PAq (X:Cx) (es:List Expr) (t:TA):Prop:=PA X es t
theorem kN:PAq X [] xR:=by unfold PAq; exact ae
theorem eU {e:Expr} {es:List Expr} {te:TE} {t:TA} (ha:PE X e te) (hr:PAq X es t) (h:uh e = false:=by rfl):PAq X (e :: es) (oj te t):=by
  unfold PAq at hr ⊢
  exact dB ha hr h
theorem oG {es:List Expr} {t:TA} {pos:Pos} (h:PAq X es t):PE X (.List es pos) (vt t):=by
  unfold PAq at h
  exact dc h
end
end L2
namespace L2
open PySem PySem.Spec PyProof.Rows
section
variable {X:Cx}
@[irreducible] def PEq (X:Cx) (e:Expr) (t:TE):Prop:=PE X e t
@[irreducible] def PSt (X:Cx) (st:Stmt) (t:TS):Prop:=PS X st t
theorem dA {e:Expr} {t:TE} (h:PE X e t):PEq X e t:=by unfold PEq; exact h
theorem jc {e:Expr} {t:TE} (h:PEq X e t):PE X e t:=by unfold PEq at h; exact h
theorem mi {st:Stmt} {t:TS} (h:PS X st t):PSt X st t:=by unfold PSt; exact h
theorem oJ {st:Stmt} {t:TS} (h:PSt X st t):PS X st t:=by unfold PSt at h; exact h
theorem nH {es:List Expr} {t:TA} {pos:Pos} (h:PAq X es t):PEq X (.List es pos) (vt t):=dA (oG h)
theorem cq {e:Expr} {es:List Expr} {te:TE} {t:TA} (ha:PEq X e te) (hr:PAq X es t) (h:uh e = false:=by rfl):PAq X (e :: es) (oj te t):=eU (jc ha) hr h
theorem sr {st:Stmt} {t:TS} (h:PSt X st t):PSq X [st] t:=by unfold PSq; exact ak (oJ h)
theorem fK {st:Stmt} {sts:List Stmt} {t u:TS} (h:PSt X st t) (h2:PSq X sts u):PSq X (st :: sts) (vE t u):=by
  unfold PSq at h2 ⊢
  exact aj (oJ h) h2
theorem tR {sts:List Stmt} {t:TS} (h:PSq X sts t):PSs X sts t:=by unfold PSq at h; exact h
theorem iz {i:Nat} {x:Str} {e:Expr} {te:TE} {pos pos':Pos} (hN:X.N.Nodup) (hi:X.N[i]? = some x) (hx:Loc X.env.scope x) (he:PEq X e te) (hs:swapsWith e (some (.Name x pos')) pos.line X.env = pure false:=by rfl) (hf:X.fn x = true∨X.env.scope.names.lookup x = some .local:=by first | exact .inl rfl | exact .inr rfl | assumption) :
    PSt X (.Assign [.Name x pos'] e pos) (vN te (qR i)):=mi (az hN hi hx (jc he) hs hf)
end
end L2
namespace L2
open PySem PySem.Spec PyProof.Rows
structure LamD where
  qual:Str
  params:Arguments
  body:Expr
  scope:Scope
def iC (f:Addr) (d:LamD) (clos:List (Str×Addr)) (c:Addr):Heap→Prop:=fun h=>∃ pm ctv,h.get? f = some (PySem.W.kla_obj "<lambda>" d.qual d.params d.body d.scope clos pm c ctv)
def eT (c:Addr) (v:V):Heap→Prop:=fun h=>∃ o u,h.get? c = some o∧o.data = .cell (some u)∧RelV v u
def gU (c:Addr) (q:Str):Heap→Prop:=fun h=>∃ o vs t,h.get? c = some o∧o.data = .fields vs∧vs[1]? = some (.str q t)
section
variable {P:Program} {w:World} {H:Hp} {h:Heap}
theorem nQ {f:Addr} {d:LamD} {clos:List (Str×Addr)} {c:Addr} {pm ctv:Value} (e:h.get? f = some (PySem.W.kla_obj "<lambda>" d.qual d.params d.body d.scope clos pm c ctv)):ObjOk P w H h f (.ext (iC f d clos c)) :=
  ⟨⟨pm,ctv,e⟩,⟨_,e⟩,fun h1 h2 ⟨pm,ctv,e1⟩ k=>⟨pm,ctv,k _ e1⟩⟩
theorem lF {c:Addr} {v:V} (x:eT c v h):ObjOk P w H h c (.ext (eT c v)) :=
  ⟨x,let ⟨o,_,e,_⟩:=x; ⟨o,e⟩,fun h1 h2 ⟨o,u,e1,r⟩ k=>⟨o,u,k _ e1,r⟩⟩
theorem qh {c:Addr} {q:Str} (x:gU c q h):ObjOk P w H h c (.ext (gU c q)) :=
  ⟨x,let ⟨o,_,_,e,_⟩:=x; ⟨o,e⟩,fun h1 h2 ⟨o,vs,t,e1,r⟩ k=>⟨o,vs,t,k _ e1,r⟩⟩
end
def wU:HO→Bool
  | .tbl _=>false
  | _=>true
def SameT (H H':Hp):Prop:=∀ b o,H b = some o→(wU o = true→H' b = some o)∧∃ o',H' b = some o'
theorem SameT.refl {H:Hp}:SameT H H:=fun b o e=>⟨fun _=>e,o,e⟩
theorem SameT.trans {H H1 H2:Hp} (a:SameT H H1) (b:SameT H1 H2):SameT H H2:=fun c o e=>by
  obtain ⟨f,o',e'⟩:=a c o e
  obtain ⟨g,o2,e2⟩:=b c o' e'
  exact ⟨fun n=>(b c o (f n)).1 n,o2,e2⟩
theorem Same.t {H H':Hp} (s:Same H H'):SameT H H':=fun b o e=>⟨fun _=>s b o e,o,s b o e⟩
theorem SameT.at {H H':Hp} (s:SameT H H') {a:Addr} {o:HO} (e:H a = some o) (n:wU o = true:=by rfl):H' a = some o:=(s a o e).1 n
theorem SameT.free {H H':Hp} (s:SameT H H') {a:Addr} (e:H' a = none):H a = none:=by
  cases q:H a with
  | none=>rfl
  | some o=>obtain ⟨_,o',e'⟩:=s a o q; rw [e] at e'; cases e'
theorem SameT.put {H H':Hp} (s:SameT H H') {a:Addr} {o:HO} (e:H a = none):SameT H (upd H' a o):=fun b u q=>by
  have n:b≠a:=fun z=>by rw [z,e] at q; cases q
  rw [ao n]
  exact s b u q
def xF (H:Hp) (P:Addr) (ls:List (Pos×Str)):Prop:=∃ ps,H P = some (.tbl ps)∧TriplesOk ps.toList∧∀ l ∈ ls,codeAmong l.1 ps.toList = none∨∃ c,codeAmong l.1 ps.toList = some (.ref c)∧H c = some (.ext (gU c l.2))
abbrev pq:=List (Addr×List (Pos×Str))
def TabsOk (tabs:pq) (H:Hp):Prop:=∀ q ∈ tabs,xF H q.1 q.2
theorem TabsOk.same {tabs:pq} {H H':Hp} (t:TabsOk tabs H) (s:Same H H'):TabsOk tabs H':=fun q hq=>by
  obtain ⟨ps,e1,e2,e3⟩:=t q hq
  exact ⟨ps,s _ _ e1,e2,fun l hl=>(e3 l hl).imp id fun ⟨c,a,b⟩=>⟨c,a,s _ _ b⟩⟩
theorem TabsOk.put {tabs:pq} {H:Hp} {r:Addr} {o:HO} (t:TabsOk tabs H) (h1:∀ ps,H r≠some (.tbl ps)) (h2:∀ φ,H r≠some (.ext φ)):TabsOk tabs (upd H r o):=fun q hq=>by
  obtain ⟨ps,e1,e2,e3⟩:=t q hq
  refine ⟨ps,?_,e2,fun l hl=>(e3 l hl).imp id fun ⟨c,a,b⟩=>⟨c,a,?_⟩⟩
  · rw [ao fun z=>h1 ps (by rw [← z]; exact e1)]; exact e1
  · rw [ao fun z=>h2 _ (by rw [← z]; exact b)]; exact b
theorem lA {p p':Pos} {c:Value} (l:List Value) (h:TriplesOk l) (hn:¬ (p.line = p'.line∧p.col = p'.col)):codeAmong p' (l ++ [rawInt p.line,rawInt p.col,c]) = codeAmong p' l:=by
  fun_induction TriplesOk l with
  | case1 =>
    simp only [List.nil_append,codeAmong,rawInt]
    rw [if_neg]
    intro z
    rw [Bool.and_eq_true,beq_iff_eq,beq_iff_eq] at z
    exact hn ⟨by lia,by lia⟩
  | case2 a t b u x rest ih =>
    simp only [List.cons_append,codeAmong]
    rw [ih h]
  | case3=>exact h.elim
theorem kI {p:Pos} {c:Value} (l:List Value) (h:TriplesOk l):TriplesOk (l ++ [rawInt p.line,rawInt p.col,c]):=by
  fun_induction TriplesOk l with
  | case1=>simp [TriplesOk,rawInt]
  | case2 a t b u x rest ih=>exact ih h
  | case3=>exact h.elim
def Bm (mg:Str→Option Value) (base:Heap):Prop:=∃ bm ob,mg "__builtins__" = some (.ref bm)∧base.get? bm = some ob∧ob.cls = .type "module" ∧ ob.dict = some builtinsNs∧ob.data = .plain
def zx (tabs:pq) (d:LamD) (clos:List (Str×Addr)):TE:=fun σ H Q=>TabsOk tabs H∧∀ f c H1,SameT H H1→TabsOk tabs H1→H f = none→H1 f = some (.ext (iC f d clos c))→H1 c = some (.ext (gU c d.qual))→Q (.ref f) H1
end L2
namespace L2
open PySem PySem.Spec PyProof.Rows
theorem ku {α β:Type}:∀ {l:List (α×β)},(l.map (·.1)).Nodup→∀ x ∈ l,∀ y ∈ l,x.1 = y.1→x = y
  | [],_,x,hx,_,_,_=>by cases hx
  | a :: r,nd,x,hx,y,hy,e=>by
    rw [List.map_cons,List.nodup_cons] at nd
    rcases List.mem_cons.mp hx with rfl | hx' <;> rcases List.mem_cons.mp hy with rfl | hy'
    · rfl
    · exact absurd (List.mem_map.mpr ⟨y,hy',e.symm⟩) nd.1
    · exact absurd (List.mem_map.mpr ⟨x,hx',e⟩) nd.1
    · exact ku nd.2 x hx' y hy' e
theorem og:∀ {l:List (Pos×Str)},(l.Pairwise fun x y=>¬ (x.1.line = y.1.line∧x.1.col = y.1.col))→∀ x ∈ l,∀ y ∈ l,(x.1.line = y.1.line∧x.1.col = y.1.col)→x = y
  | [],_,x,hx,_,_,_=>by cases hx
  | a :: r,nd,x,hx,y,hy,e=>by
    rw [List.pairwise_cons] at nd
    rcases List.mem_cons.mp hx with rfl | hx' <;> rcases List.mem_cons.mp hy with rfl | hy'
    · rfl
    · exact absurd e (nd.1 y hy')
    · exact absurd ⟨e.1.symm,e.2.symm⟩ (nd.1 x hx')
    · exact og nd.2 x hx' y hy' e
section
variable {X:Cx} {tabs:pq} {P c:Addr} {ls:List (Pos×Str)} {d:LamD} {clos:List (Str×Addr)} {pos:Pos}
theorem jF (hcd:X.env.code = .ref c) (hC:PySem.W.codeHdIn X.K c P = true) (hB:Bm X.mg X.base) (hq:X.env.qual ++ "<lambda>" = d.qual) (hcl:closureFor d.scope X.env = pure clos) (hdef:defaultsOf d.params X.env = ([],[]))
    (hm:(P,ls) ∈ tabs) (hl:(pos,d.qual) ∈ ls) (hnd:(tabs.map (·.1)).Nodup) (hps:ls.Pairwise fun x y=>¬ (x.1.line = y.1.line∧x.1.col = y.1.col)):PE X (.Lambda d.params d.body d.scope pos) (zx tabs d clos):=by
  intro pins s σ H Q I h
  obtain ⟨hT,hQ⟩:=h
  refine PySem.W.kla_eval hdef ?_
  rw [hq]
  obtain ⟨ps,hP,htr,hls⟩:=hT _ hm
  have hgs:s.heap.Ns mainGlobals X.mg:=I.mod.glob.keeps I.bk
  have C:PySem.W.CodeHd s.heap c P:=PySem.W.codeHd_of_K I.kIn hC
  have hPo:s.heap.get? P = some (PySem.W.tabObj ps):=I.hok P _ hP
  have hgP:mainGlobals≠P:=fun q=>by
    obtain ⟨o,es,ep,e,hd,_⟩:=hgs
    rw [q,hPo] at e; cases e; cases hd
  obtain ⟨bm,ob,b1,b2,b3,b4,b5⟩:=hB
  have bo:=I.bk _ _ b2
  have hbP:bm≠P:=fun q=>by
    rw [q,hPo] at bo; cases bo; cases b3
  have hbG:bm≠mainGlobals:=fun q=>by
    obtain ⟨o,es,ep,e,hd,_⟩:=hgs
    rw [q,e] at bo; cases bo; rw [hd] at b5; cases b5
  have hbB:bm≠builtinsNs:=fun q=>by
    obtain ⟨mb,⟨o,es,ep,e,hd,_⟩,_⟩:=I.mod.blt
    rw [q,e] at b2; cases b2; rw [hd] at b5; cases b5
  have BA:s.heap.BuiltinsAt X.mg P:=⟨bm,ob,b1,hbB,hbG,hbP,bo,b3,b4,b5⟩
  rcases hls _ hl with hn | ⟨c',hc,hHc⟩
  · refine PySem.W.kla_makeFunction (mg:=X.mg) hcl I.ok.glob hgs hcd C hPo htr hn hgP BA fun c' ctv h' tk hx hge hlt hrec htb=>?_
    have hc0:H c' = none:=I.hok.fresh hge
    have hf0:H h'.objs.size = none:=I.hok.fresh (Nat.le_trans hge (Nat.le_of_lt hlt))
    have ncf:c'≠h'.objs.size:=Nat.ne_of_lt hlt
    have nPc:P≠c':=ay hP hc0
    have nPf:P≠h'.objs.size:=ay hP hf0
    obtain ⟨f,hf⟩:∃ f,f = h'.objs.size:=⟨_,rfl⟩
    obtain ⟨ob',hob⟩:∃ o,o = PySem.W.kla_obj "<lambda>" d.qual d.params d.body d.scope clos ((X.mg "__name__").getD .none) c' ctv:=⟨_,rfl⟩
    have hfo:(h'.push ob').get? f = some ob':=by rw [hf,hob]; exact Heap.get?_push_size _ rfl
    have keep:∀ b o,b≠P→s.heap.get? b = some o→(h'.push ob').get? b = some o:=fun b o n e=>Heap.get?_push_of_some _ (hx b o n e)
    have htb':(h'.push ob').get? P = some (PySem.W.tabObj (ps ++ #[rawInt pos.line,rawInt pos.col,.ref c'])):=Heap.get?_push_of_some _ htb
    have hcx:gU c' d.qual (h'.push ob'):=by
      obtain ⟨c2,oc,vs,t,e2,hoc,hdt,hv⟩:=hrec
      cases e2
      exact ⟨oc,vs,t,Heap.get?_push_of_some _ hoc,hdt,hv⟩
    rw [← hf] at hf0 ncf nPf ⊢
    rw [← hob]
    obtain ⟨H1,hH1⟩:∃ H1,H1 = upd (upd (upd H P (.tbl (ps ++ #[rawInt pos.line,rawInt pos.col,.ref c']))) c' (.ext (gU c' d.qual))) f (.ext (iC f d clos c')):=⟨_,rfl⟩
    have gf:H1 f = some (.ext (iC f d clos c')):=by rw [hH1]; exact af
    have gc:H1 c' = some (.ext (gU c' d.qual)):=by rw [hH1,ao ncf]; exact af
    have gP:H1 P = some (.tbl (ps ++ #[rawInt pos.line,rawInt pos.col,.ref c'])):=by rw [hH1,ao nPf,ao nPc]; exact af
    have go:∀ b,b≠P→b≠c'→b≠f→H1 b = H b:=fun b h1 h2 h3=>by rw [hH1,ao h3,ao h2,ao h1]
    have same:∀ b o,b≠P→H b = some o→H1 b = some o:=fun b o n e=>by rw [go b n (ay e hc0) (ay e hf0)]; exact e
    have nt:∀ b o,H b = some o→(∀ qs,o≠.tbl qs)→b≠P:=fun b o e n z=>by rw [z,hP] at e; cases e; exact n ps rfl
    have un:Un X.fs [] H H1 s.heap (h'.push ob'):=by
      refine ⟨fun b o e n _ _=>keep b o (fun z=>by rw [z,hP] at n; cases n) e,fun b o e n _ _=>⟨o.slots,keep b o (fun z=>by rw [z,hP] at n; cases n) e⟩,fun b o e n _=>?_,fun b o e _=>?_,fun b xs e=>same b _ (nt b _ e fun _ z=>nomatch z) e,fun b o u e=>same b _ (nt b _ e fun _ z=>nomatch z) e,fun b qs e=>?_⟩
      · have hb:b < s.heap.objs.size:=Heap.lt_size e
        rw [go b (fun z=>by rw [z,hP] at n; cases n) (Nat.ne_of_lt (Nat.lt_of_lt_of_le hb hge)) (by rw [hf]; exact Nat.ne_of_lt (Nat.lt_of_lt_of_le hb (Nat.le_trans hge (Nat.le_of_lt hlt))))]
        exact n
      · by_cases hb:b = P
        · rw [hb]; exact ⟨_,htb'⟩
        · exact ⟨o,keep b o hb e⟩
      · by_cases hb:b = P
        · rw [hb,hP] at e
          cases e
          rw [hb]
          exact ⟨_,gP⟩
        · exact ⟨#[],by rw [same b _ hb e]; simp⟩
    have hok:HOk X.prog X.w H1 (h'.push ob'):=fun a o e=>by
      by_cases h1:a = f
      · subst h1; rw [gf] at e; cases e; exact nQ (by rw [hfo,hob])
      by_cases h2:a = c'
      · subst h2; rw [gc] at e; cases e; exact qh hcx
      by_cases h3:a = P
      · subst h3; rw [gP] at e; cases e; exact htb'
      rw [go a h3 h2 h1] at e
      refine (I.hok a o e).stay (fun b u hb q=>keep b u ?_ q) (fun b q=>same b _ (nt b _ q fun _ z=>nomatch z) q) fun b xs q=>same b _ (nt b _ q fun _ z=>nomatch z) q
      rcases hb with rfl | hb
      · exact h3
      · exact nt b _ hb fun _ z=>nomatch z
    refine ⟨.ref f,H1,I.un (h':=h'.push ob') (t':=tk) un hok,rfl,hQ f c' H1 (fun b o e=>?_) (fun q hq'=>?_) hf0 gf gc⟩
    · by_cases hb:b = P
      · subst hb
        rw [hP] at e
        cases e
        exact ⟨fun z=>(Bool.false_ne_true z).elim,_,gP⟩
      · exact ⟨fun _=>same b o hb e,o,same b o hb e⟩
    · by_cases hqP:q.1 = P
      · have hqe:q = (P,ls):=ku hnd q hq' (P,ls) hm hqP
        subst hqe
        refine ⟨_,gP,by rw [Array.toList_append]; exact kI _ htr,fun l' hl'=>?_⟩
        rw [Array.toList_append]
        by_cases hp:pos.line = l'.1.line∧pos.col = l'.1.col
        · have:=og hps (pos,d.qual) hl l' hl' hp
          subst this
          exact .inr ⟨c',codeAmong_snoc _ htr hn,gc⟩
        · have eo:=lA (c:=.ref c') ps.toList htr hp
          rcases hls l' hl' with z | ⟨c2,z1,z2⟩
          · exact .inl (eo.trans z)
          · exact .inr ⟨c2,eo.trans z1,same c2 _ (nt c2 _ z2 fun _ z=>nomatch z) z2⟩
      · obtain ⟨qs,e1,e2,e3⟩:=hT q hq'
        exact ⟨qs,same _ _ hqP e1,e2,fun l' hl'=>(e3 l' hl').imp id fun ⟨c2,z1,z2⟩=>⟨c2,z1,same c2 _ (nt c2 _ z2 fun _ z=>nomatch z) z2⟩⟩
  · refine PySem.W.kla_makeFunctionHit (mg:=X.mg) hcl I.ok.glob hgs hcd C hPo htr hc BA fun ctv h' tk hk hsz=>?_
    have hf0:H h'.objs.size = none:=I.hok.fresh hsz
    have sm:Same H (upd H h'.objs.size (.ext (iC h'.objs.size d clos c'))):=Same.new hf0
    refine ⟨.ref h'.objs.size,_,I.laid (a:=h'.objs.size) (o:=.ext (iC h'.objs.size d clos c')) (t':=tk) (fun b u e=>Heap.get?_push_of_some _ (hk b u e)) hsz (nQ (Heap.get?_push_size _ rfl)),rfl,hQ _ c' _ sm.t (hT.same sm) hf0 af (sm _ _ hHc)⟩
end
end L2
namespace L2
open PySem PySem.Spec PyProof.Rows
def fG (H:Hp) (cs:List Addr):Hp:=fun b=>if b ∈ cs then none else H b
theorem il {H:Hp} {cs:List Addr} {b:Addr} (h:b ∈ cs):fG H cs b = none:=by unfold fG; rw [if_pos h]
theorem iJ {H:Hp} {cs:List Addr} {b:Addr} (h:b ∉ cs):fG H cs b = H b:=by unfold fG; rw [if_neg h]
theorem eg {H:Hp} {cs:List Addr} {b:Addr} (h:H b = none):fG H cs b = none:=by unfold fG; split <;> first | rfl | exact h
abbrev CellsAt (H:Hp):List (Str×Addr)→List V→Prop:=Paired fun (p:Str×Addr) (v:V)=>H p.2 = some (.ext (eT p.2 v))
theorem CellsAt.mem {H:Hp}:∀ {clos:List (Str×Addr)} {vals:List V},CellsAt H clos vals→∀ p ∈ clos,∃ v,H p.2 = some (.ext (eT p.2 v))
  | _,_,.nil,p,h=>by cases h
  | _,_,.cons r t,p,h=>by
    rcases List.mem_cons.mp h with rfl | h
    · exact ⟨_,r⟩
    · exact CellsAt.mem t p h
theorem CellsAt.get {H:Hp}:∀ {clos:List (Str×Addr)} {vals:List V} {i:Nat} {v:V},CellsAt H clos vals→vals[i]? = some v→∃ p,clos[i]? = some p∧H p.2 = some (.ext (eT p.2 v))
  | _,_,_,_,.nil,h=>by cases h
  | _,_,0,_,.cons r t,h=>by cases h; exact ⟨_,rfl,r⟩
  | _,_,i + 1,_,.cons r t,h=>CellsAt.get (i:=i) t h
theorem CellsAt.at {H:Hp} {clos:List (Str×Addr)} {vals:List V} (ca:CellsAt H clos vals) {b:Addr} (hb:b ∈ clos.map (·.2)):∃ v,H b = some (.ext (eT b v)):=by
  obtain ⟨p,hp,rfl⟩:=List.mem_map.mp hb
  exact ca.mem p hp
theorem fB {H:Hp} {clos:List (Str×Addr)} {vals:List V} {b:Addr} {o:HO} (ca:CellsAt H clos vals) (h:H b = some o) (n:∀ v,o≠.ext (eT b v)):fG H (clos.map (·.2)) b = some o:=by
  rw [iJ fun z=>?_]
  · exact h
  · obtain ⟨v,e⟩:=ca.at z
    rw [h] at e
    exact n v (Option.some.inj e)
theorem eF {α:Type}:∀ {l:List (Str×α)} {x:Str} {u:α},(l.map (·.1)).Nodup→(x,u) ∈ l→l.lookup x = some u
  | [],_,_,_,h=>by cases h
  | (y,w) :: r,x,u,nd,h=>by
    rw [List.map_cons,List.nodup_cons] at nd
    rcases List.mem_cons.mp h with e | h
    · cases e; simp [List.lookup]
    · have:x≠y:=fun z=>nd.1 (List.mem_map.mpr ⟨(x,u),h,z⟩)
      rw [List.lookup_cons,beq_eq_false_iff_ne.mpr this]
      exact eF nd.2 h
theorem oZ {α:Type} {l:List α} (h:l.Nodup):l.reverse.Nodup:=by
  unfold List.Nodup at h ⊢
  rw [List.pairwise_reverse]
  exact h.imp fun n z=>n z.symm
def jk (d:LamD) (L f c:Addr) (clos:List (Str×Addr)):Env:={ scope:=d.scope,locals:=L,globals:=mainGlobals,cells:=clos,qual:=d.qual ++ ".<locals>.",func:=some f,code:=.ref c,frame:=some L,builtins:=builtinsNs }
def cxL (P:Program) (w:World) (K:PySem.W.Frag) (mg:Str→Option Value) (base:Heap) (N:List Str) (d:LamD) (clos:List (Str×Addr)) (f c:Addr) (A:Around) (outer:List Env) (s:Shared) (H:Hp):Cx where
  prog:=P
  w:=w
  K:=K
  mg:=mg
  base:=base
  A:=A.deeper (jk d s.heap.objs.size f c clos)
  N:=N
  s₀:=s
  H₀:=fG H (clos.map (·.2))
  env:=jk d s.heap.objs.size f c clos
  outer:=outer
  stack:=jk d s.heap.objs.size f c clos :: outer
  ex:=[]
  calm:=true
  fn:=fun _=>false
  pn:=[]
  xe:=fun _ _=>False
def gD (P:Program) (w:World) (K:PySem.W.Frag) (mg:Str→Option Value) (base:Heap) (k:Nat) (d:LamD) (fv ps:List Str) (sp:List V→Sp):Prop :=
  ∀ (A:Around) (outer:List Env) (s:Shared) (H:Hp) (f c:Addr) (clos:List (Str×Addr)) (us:List Value) (vs vals:List V) (Q:VK) (E:XK),Room k A→Env0 P w K mg base A outer s H→H f = some (.ext (iC f d clos c))→H c = some (.ext (gU c d.qual)) →
    clos.map (·.1) = fv→(clos.map (·.2)).Nodup→CellsAt H clos vals→Vals vs us→sp vals vs H Q E→codeAny (model P w) A (.call (.ref f) ⟨us,[]⟩) (CR CX0 outer P w H s Q E) s
structure LamScope (d:LamD) (fv ps:List Str):Prop where
  kind:d.scope.kind = .function
  co:d.scope.isCoroutine = false
  gen:d.scope.isGenerator = false
  nocell:∀ x ∈ d.scope.names,x.2≠.cell
  par:∀ x ∈ ps,d.scope.names.lookup x = some .local
  free:∀ x ∈ d.scope.names,x.2 = .free→x.1 ∈ fv
  fr:∀ x ∈ fv,d.scope.names.lookup x = some .free
  nd:(ps ++ fv).Nodup
theorem dC {α β:Type} [BEq α] [LawfulBEq α]:∀ {l:List (α×β)} {x:α} {u:β},l.lookup x = some u→(x,u) ∈ l
  | [],_,_,h=>by cases h
  | (y,w) :: r,x,u,h=>by
    rw [List.lookup_cons] at h
    cases e:x == y with
    | true=>rw [e] at h; cases h; rw [eq_of_beq e]; exact List.mem_cons_self ..
    | false=>rw [e] at h; exact List.mem_cons_of_mem _ (dC h)
theorem nk {P:Program} {w:World} {K:PySem.W.Frag} {mg:Str→Option Value} {base:Heap} {d:LamD} {fv ps:List Str} {clos:List (Str×Addr)} {f c:Addr} {A:Around} {outer:List Env} {s:Shared} {H:Hp} {us:List Value} {vs vals:List V} {h1:Heap} {tk:Nat}
    (S:LamScope d fv ps) (hd:A.handled = none) (e0:Env0 P w K mg base A outer s H) (hl:vs.length = ps.length) (r:Vals vs us) (hfv:clos.map (·.1) = fv) (hnd:(clos.map (·.2)).Nodup) (ca:CellsAt H clos vals)
    (hns:h1.Ns s.heap.objs.size (fun x=>(ps.zip us).reverse.lookup x)) (hk:∀ b o,s.heap.get? b = some o→h1.get? b = some o) :
    Inv (cxL P w K mg base (ps ++ fv) d clos f c A outer s H) [] ((vs ++ vals).map some) (fG H (clos.map (·.2))) { s with heap:=h1,toks:=tk }:=by
  have ndf:(clos.map (·.1)).Nodup:=by rw [hfv]; exact (List.nodup_append.mp S.nd).2.1
  have ndp:ps.Nodup:=(List.nodup_append.mp S.nd).1
  have lus:us.length = ps.length:=by rw [← r.length]; exact hl
  have hin:∀ x c',clos.lookup x = some c'→c' ∈ clos.map (·.2):=fun x c' e=>List.mem_map.mpr ⟨(x,c'),dC e,rfl⟩
  have cellOf:∀ b v,H b = some (.ext (eT b v))→∃ u,RelV v u∧h1.IsCell b (some u):=fun b v e=>by
    obtain ⟨⟨o,u,g1,g2,g3⟩,_⟩:=e0.hok b _ e
    exact ⟨u,g3,o,hk _ _ g1,g2⟩
  have noA:∀ b:Addr,b ∉ (cxL P w K mg base (ps ++ fv) d clos f c A outer s H).ex:=fun b z=>absurd (show b ∈ ([]:List Addr) from z) (by simp)
  have lcl:clos.length = fv.length:=by rw [← hfv,List.length_map]
  have lva:vals.length = clos.length:=(Paired.length ca).symm
  refine ⟨⟨e0.mod,S.kind,rfl,rfl,Nat.le_refl _,fun y z c' h1 h2=>?_,fun y hy=>?_,fun y c' h=>(Bool.false_ne_true h).elim,fun _=>hd,Around.frames_deeper e0.frames,.inr ⟨rfl,rfl⟩,fun b z=>absurd z (noA b),fun b o e=>⟨(e0.bs b o e).1,eg (e0.bs b o e).2⟩,e0.bsz,fun b _ _=>noA b,fun b z=>absurd z (noA b),e0.funs,fun b hb=>eg (e0.frf b hb)⟩,
    rfl,e0.bare,Un.kept hk,⟨_,hns,fun i y v g1 g2 g3=>?_⟩,fun y c' h=>?_,eg (e0.hok.fresh (Nat.le_refl _)),fun y c' h=>il (hin y c' h),fun p hp=>absurd (show p ∈ ([]:List (Addr×Obj)) from hp) (by simp),fun b u e=>?_,?_⟩
  · have h1:clos.lookup y = some c':=h1
    have h2:clos.lookup z = some c':=h2
    have e1:=dC h1
    have e2:=dC h2
    have nd2:((clos.map fun p=>(p.2,p.1)).map (·.1)).Nodup:=by rw [List.map_map]; exact hnd
    have:=ku nd2 (c',y) (List.mem_map.mpr ⟨_,e1,rfl⟩) (c',z) (List.mem_map.mpr ⟨_,e2,rfl⟩) rfl
    exact congrArg Prod.snd this
  · have hy:d.scope.names.lookup y = some .cell∨d.scope.names.lookup y = some .free:=hy
    rcases hy with hy | hy
    · exact absurd rfl (S.nocell _ (dC hy))
    · have:=S.free _ (dC hy) rfl
      rw [← hfv] at this
      obtain ⟨p,hp,e⟩:=List.mem_map.mp this
      have e':p.1 = y:=e
      exact ⟨p.2,eF ndf (by show (y,p.2) ∈ clos; rw [← e']; exact hp)⟩
  · have g1:(ps ++ fv)[i]? = some y:=g1
    by_cases hi:i < ps.length
    · rw [List.getElem?_append_left hi] at g1
      rw [List.getElem?_map,List.getElem?_append_left (by lia)] at g2
      have g2':vs[i]? = some v:=by
        cases q:vs[i]? with
        | none=>rw [q] at g2; cases g2
        | some x=>rw [q] at g2; cases g2; rfl
      obtain ⟨u,hu,rv⟩:=r.get g2'
      refine ⟨u,rv,.inl ⟨S.par y (List.mem_of_getElem? g1),?_⟩⟩
      have mem:(y,u) ∈ ps.zip us:=List.mem_of_getElem? (i:=i) (by rw [List.getElem?_zip_eq_some]; exact ⟨g1,hu⟩)
      refine eF ?_ (List.mem_reverse.mpr mem)
      rw [List.map_reverse]
      refine oZ ?_
      have:(ps.zip us).map (·.1) = ps:=by rw [List.map_fst_zip]; lia
      rw [this]
      exact ndp
    · rw [List.getElem?_append_right (by lia)] at g1
      rw [List.getElem?_map,List.getElem?_append_right (by lia)] at g2
      have g2':vals[i - ps.length]? = some v:=by
        rw [hl] at g2
        cases q:vals[i - ps.length]? with
        | none=>rw [q] at g2; cases g2
        | some x=>rw [q] at g2; cases g2; rfl
      obtain ⟨p,hp,e⟩:=ca.get g2'
      rw [← hfv,List.getElem?_map,hp] at g1
      cases g1
      obtain ⟨u,rv,ic⟩:=cellOf _ _ e
      have hmem:=List.mem_of_getElem? hp
      refine ⟨u,rv,.inr ⟨.inr (S.fr p.1 ?_),p.2,eF ndf hmem,ic⟩⟩
      rw [← hfv]
      exact List.mem_map.mpr ⟨p,hmem,rfl⟩
  · obtain ⟨v,e⟩:=ca.at (hin y c' h)
    obtain ⟨u,_,ic⟩:=cellOf _ _ e
    exact ⟨_,ic⟩
  · by_cases hb:b ∈ clos.map (·.2)
    · rw [il hb] at e; cases e
    · rw [iJ hb] at e
      refine (e0.hok b u e).stay (fun b' u' _ q=>hk b' u' q) (fun b' q=>?_) fun b' xs q=>?_
      · exact fB ca q fun v z=>nomatch z
      · exact fB ca q fun v z=>nomatch z
  · show ((vs ++ vals).map some).length = (ps ++ fv).length
    rw [List.length_map,List.length_append,List.length_append]
    lia
end L2
namespace L2
open PySem PySem.Spec PyProof.Rows
section
variable {P:Program} {w:World} {K:PySem.W.Frag} {mg:Str→Option Value} {base:Heap}
theorem kA {d:LamD} {fv ps:List Str} {k:Nat} {sp:List V→Sp} (S:LamScope d fv ps)
    (hbind:∀ (pm ctv:Value) (clos:List (Str×Addr)) (c:Addr) (us:List Value),us.length = ps.length→bindArgs (PySem.W.kla_fn "<lambda>" d.qual d.params d.body d.scope clos pm (.ref c) ctv) ⟨us,[]⟩ = pure (ps.zip us))
    (len:∀ vals vs H Q E,sp vals vs H Q E→vs.length = ps.length)
    (hbody:∀ (A:Around) (outer:List Env) (s:Shared) (H:Hp) (f c:Addr) (clos:List (Str×Addr)) (vals vs:List V) (Q:VK) (E:XK),Room k (A.deeper (jk d s.heap.objs.size f c clos))→clos.map (·.1) = fv→CellsAt H clos vals→sp vals vs H Q E →
      ∃ t,PE (cxL P w K mg base (ps ++ fv) d clos f c A outer s H) d.body t∧t ((vs ++ vals).map some) (fG H (clos.map (·.2))) (fun v H'=>∀ H3,Same H' H3→(∀ p ∈ clos,H3 p.2 = H p.2)→Q v H3)) :
    gD P w K mg base (k + 1) d fv ps sp:=by
  intro A outer s H f c clos us vs vals Q E hr e0 hf hc hfv hnd ca r hsp
  have hl:=len _ _ _ _ _ hsp
  have lus:us.length = ps.length:=by rw [← r.length]; exact hl
  obtain ⟨⟨pm,ctv,ef⟩,_,_⟩:=e0.hok f _ hf
  obtain ⟨⟨oc,cvs,ct,ec,ed,ev⟩,_,_⟩:=e0.hok c _ hc
  have lim:s.heap.NoLimit:=e0.mod.nolimit.keeps fun b o e=>(e0.bs b o e).1
  obtain ⟨t,ht,hq⟩:=hbody A outer s H f c clos vals vs Q E (hr.deeper _) hfv ca hsp
  refine PySem.W.kla_callFunE (body:=d.body) hr.depth ef rfl S.co S.gen rfl ⟨c,oc,cvs,ct,rfl,ec,ed,ev⟩ ?_
  rw [hbind pm ctv clos c us lus]
  refine wpAny_pure (wpAny_newFunctionEnv S.nocell (fun y hy=>S.par y.1 (List.of_mem_zip hy).1) (fun h1 hns hsb=>?_) S.kind)
  have hk:∀ b o,s.heap.get? b = some o→h1.get? b = some o:=fun b o e=>hsb.extBut b o (Nat.ne_of_lt (Heap.lt_size e)) (Heap.get?_push_of_some _ e)
  refine ⟨lim.fresh _ hsb,?_⟩
  show codeAny _ _ (.expr d.body (jk d s.heap.objs.size f c clos)) _ _
  have I:=nk (f:=f) (c:=c) (tk:=s.toks + (ps.zip us).length) S hr.hd e0 hl r hfv hnd ca hns hk
  refine PySem.W.kla_codeExpr (wpAny_mono (ht [] _ _ _ _ I hq) (fun u s' hs=>?_) fun e s' z=>False.elim z)
  obtain ⟨v,H',J,rv,q⟩:=hs
  obtain ⟨cs,hcs⟩:∃ cs,cs = clos.map (·.2):=⟨_,rfl⟩
  have ub:Un (frs outer) [] (fG H (clos.map (·.2))) H' s.heap s'.heap:=J.base
  have hat:∀ b,b ∈ clos.map (·.2)→∃ o v,s.heap.get? b = some o∧H b = some (.ext (eT b v)):=fun b hb=>by
    obtain ⟨v,e⟩:=ca.at hb
    obtain ⟨⟨o,_,g,_⟩,_⟩:=e0.hok b _ e
    exact ⟨o,v,g,e⟩
  have hfr:∀ b ∈ clos.map (·.2),H' b = none:=fun b hb=>by
    obtain ⟨o,v,g,_⟩:=hat b hb
    exact ub.free b o g (il hb) (by simp)
  let H3:Hp:=fun b=>if b ∈ clos.map (·.2) then H b else H' b
  have g1:∀ b,b ∈ clos.map (·.2)→H3 b = H b:=fun b hb=>if_pos hb
  have g2:∀ b,b ∉ clos.map (·.2)→H3 b = H' b:=fun b hb=>if_neg hb
  have sm:Same H' H3:=fun b o e=>by
    rw [g2 b fun z=>by rw [hfr b z] at e; cases e]
    exact e
  have up:∀ b o,H b = some o→(∀ v,o≠.ext (eT b v))→b ∉ clos.map (·.2):=fun b o e n z=>by
    obtain ⟨v,e'⟩:=ca.at z
    rw [e] at e'
    exact n v (Option.some.inj e')
  refine ⟨v,H3,J.os,J.bare,⟨fun b o e n hb hx=>ub.keep b o e (eg n) hb hx,fun b o e n hb hx=>ub.slot b o e (eg n) hb hx,fun b o e n hx=>?_,ub.there,fun b xs e=>?_,fun b o u e=>?_,fun b ps' e=>?_⟩,fun b o e=>?_,rv,q H3 sm fun p hp=>g1 p.2 (List.mem_map.mpr ⟨p,hp,rfl⟩)⟩
  · rw [g2 b fun z=>by obtain ⟨_,v,_,e'⟩:=hat b z; rw [n] at e'; cases e']
    exact ub.free b o e (eg n) hx
  · exact sm _ _ (ub.tups b xs (fB ca e fun v z=>nomatch z))
  · exact sm _ _ (ub.frzs b o u (fB ca e fun v z=>nomatch z))
  · obtain ⟨more,z⟩:=ub.tbls b ps' (fB ca e fun v z=>nomatch z)
    exact ⟨more,sm _ _ z⟩
  · by_cases hb:b ∈ clos.map (·.2)
    · rw [g1 b hb] at e
      obtain ⟨o',v',g,e'⟩:=hat b hb
      rw [e] at e'
      cases e'
      obtain ⟨⟨o2,u2,k1,k2,k3⟩,_⟩:=e0.hok b _ e
      refine lF ⟨o2,u2,ub.keep b o2 k1 (il hb) (fun z=>?_) (by simp),k2,k3⟩
      rw [e0.frf b z] at e
      cases e
    · rw [g2 b hb] at e
      refine (J.hok b o e).stay (fun b' u' _ q=>q) (fun b' q=>sm _ _ q) fun b' xs q=>sm _ _ q
end
theorem PE.or {X:Cx} {e:Expr} {t t':TE} (h:PE X e t) (h':PE X e t'):PE X e (fun σ H Q=>t σ H Q∨t' σ H Q):=fun pins s σ H Q I q=>q.elim (h pins s σ H Q I) (h' pins s σ H Q I)
def xi (d:LamD) (fv:List Str) (sp:List V→Sp):V→List V→Hp→VK→Prop:=fun v vs H Q=>∃ f c clos vals,v = .ref f∧H f = some (.ext (iC f d clos c))∧H c = some (.ext (gU c d.qual))∧clos.map (·.1) = fv∧(clos.map (·.2)).Nodup∧CellsAt H clos vals∧sp vals vs H Q fun _ _ _=>False
def vw (d:LamD) (fv:List Str) (sp:List V→Sp) (tf:TE) (t:TA):TE:=fun σ H Q=>tf σ H fun v H1=>(∃ f d' clos c,v = .ref f∧H1 f = some (.ext (iC f d' clos c)))∧t σ H1 fun vs H2=>(∀ f d' clos c,v = .ref f→H1 f = some (.ext (iC f d' clos c))→H2 f = some (.ext (iC f d' clos c)))∧xi d fv sp v vs H2 Q
section
variable {X:Cx} {d:LamD} {fv ps:List Str} {k:Nat} {sp:List V→Sp} {x:Str} {p pos:Pos} {tf:TE} {t:TA} {e:Expr} {es:List Expr}
theorem tZ {pins:List (Addr×Obj)} {σ:St} {H:Hp} {s:Shared} {Q:VK} {us:List Value} {vs:List V} {v:V} {u:Value} (L:gD X.prog X.w X.K X.mg X.base k d fv ps sp) (hr:Room k X.A) (I:Inv X pins σ H s) (rv:RelV v u) (r:Vals vs us) (h:xi d fv sp v vs H Q) :
    wpAny (model X.prog X.w) X.A (call u us) (EP X pins σ Q) X.xe s:=by
  obtain ⟨f,c,clos,vals,rfl,hf,hc,h1,h2,h3,h4⟩:=h
  obtain rfl:u = Value.ref f:=rv
  refine wpAny_call (codeAny_mono (L X.A X.stack s H f c clos us vs vals Q _ hr I.env0 hf hc h1 h2 h3 r h4) fun r s' hq=>?_)
  cases r with
  | error e=>exact False.elim hq
  | ok fl =>
    cases fl with
    | ret u=>exact I.after hq
    | next=>exact False.elim hq
    | brk=>exact False.elim hq
    | cont=>exact False.elim hq
theorem oo {H:Hp} {s:Shared} {P:Program} {w:World} {f c:Addr} {d:LamD} {clos:List (Str×Addr)} (ok:HOk P w H s.heap) (hf:H f = some (.ext (iC f d clos c))):PySem.W.FnAt f s.heap:=by
  obtain ⟨⟨pm,ctv,ef⟩,_,_⟩:=ok f _ hf
  exact ⟨_,_,_,_,ef⟩
theorem iy (hn:PE X (.Name x p) tf) (L:gD X.prog X.w X.K X.mg X.base k d fv ps sp) (hr:Room k X.A) (ha:PA X (e :: es) t)
    (he:starEach (e :: es) X.env = (false,eval e X.env) :: starEach es X.env:=by rfl) (hpl:(backTo pos (starEach es X.env)).any (·.1) = false:=by rfl):PE X (.Call (.Name x p) (e :: es) [] pos) (vw d fv sp tf t):=by
  intro pins s σ H Q I h
  refine wpAny_Call_Name_kw (thn (hn pins s σ H _ I h) fun u s1 ⟨v,H1,I1,rv,⟨f,d',clos,c,ef,hf⟩,q⟩=>?_)
  subst ef
  obtain rfl:u = Value.ref f:=rv
  refine PySem.W.callWith_F (oo I1.hok hf) (thn (ha pos pins s1 σ H1 _ I1 q) fun us s2 ⟨vs,H2,I2,r,q2⟩=>⟨oo I2.hok (q2.1 _ _ _ _ rfl hf),?_⟩) he hpl
  exact tZ L hr I2 (v:=.ref f) rfl r q2.2
end
end L2
namespace L2
open PySem PySem.Spec PyProof.Rows
abbrev TR:=VK→(V→St→Hp→Prop)→St→Hp→Prop
def PR (X:Cx) (sts:List Stmt) (t:TR):Prop :=
  ∀ (pins:List (Addr×Obj)) (s:Shared) (σ:St) (H:Hp) (R:VK) (Z:V→St→Hp→Prop),Inv X pins σ H s→t R Z σ H →
    wpAny (model X.prog X.w) X.A (execs sts X.env) (fun f s'=>∃ u,f = .ret u∧((∃ v σ' H',Inv X pins σ' H' s'∧RelV v u∧(R v H'∨Z v σ' H'))∨∃ v H',s'.os = X.s₀.os∧AllBare s'.gens∧Un X.fs X.ex X.H₀ H' X.s₀.heap s'.heap∧HOk X.prog X.w H' s'.heap∧RelV v u∧R v H')) X.xe s
section
variable {X:Cx} {e:Expr} {te:TE} {pos:Pos} {st:Stmt} {rest:List Stmt} {t:TS} {u:TR}
theorem wa (he:PE X e te):PR X [.Return (some e) pos] (fun _ Z σ H=>te σ H fun v H'=>Z v σ H'):=by
  intro pins s σ H R Z I h
  refine wpAny_execs_cons (wpAny_Return_some (thn (he pins s σ H _ I h) fun v s1 ⟨x,H1,I1,r1,q1⟩=>?_))
  exact ⟨v,rfl,.inl ⟨x,σ,H1,I1,r1,.inr q1⟩⟩
theorem gF (h1:PS X st t) (h2:PR X rest u):PR X (st :: rest) (fun R Z σ H=>t { nx:=u R Z,rt:=R } σ H):=by
  intro pins s σ H R Z I h
  refine wpAny_execs_cons (thn (h1 pins s σ H { nx:=u R Z,rt:=R } I h) fun f s1 q=>?_)
  cases f with
  | next =>
    obtain ⟨σ',H',I',q⟩:=q
    exact h2 pins s1 σ' H' R Z I' q
  | ret v =>
    obtain ⟨v',σ',H',I',r,q⟩:=q
    exact ⟨v,rfl,.inl ⟨v',σ',H',I',r,.inl q⟩⟩
  | brk=>obtain ⟨_,_,_,q⟩:=q; exact False.elim q
  | cont=>obtain ⟨_,_,_,q⟩:=q; exact False.elim q
end
def kE (cells:List (Str×Addr)) (N:List Str) (σ:St) (H3:Hp):Prop:=∀ (i:Nat) (y:Str) (v:V) (c:Addr),N[i]? = some y→σ[i]? = some (some v)→cells.lookup y = some c→H3 c = some (.ext (eT c v))
theorem iH {y:Str} {c:Addr}:∀ (names:List (Str×NameKind)) (n:Nat) (acc:List (Str×Addr)),(y,c) ∈ cellsFrom n names acc→(y,c) ∈ acc∨(y,NameKind.cell) ∈ names
  | [],n,acc,h=>.inl h
  | (x,k) :: r,n,acc,h=>by
    unfold cellsFrom at h
    split at h
    · rename_i hk
      rcases iH r (n + 1) ((x,n) :: acc) h with z | z
      · rcases List.mem_cons.mp z with e | z
        · cases e
          rw [eq_of_beq hk]
          exact .inr (List.mem_cons_self ..)
        · exact .inl z
      · exact .inr (List.mem_cons_of_mem _ z)
    · rcases iH r n acc h with z | z
      · exact .inl z
      · exact .inr (List.mem_cons_of_mem _ z)
section
variable {P:Program} {w:World} {K:PySem.W.Frag} {mg:Str→Option Value} {base:Heap}
theorem u8 {CX:CXT} {N:List Str} {qual:Str} {scope:Scope} {f:Addr} {cd:Value} {A:Around} {outer:List Env} {s s':Shared} {H H':Hp} {E:XK} {σ:St} (hN:N.Nodup) (hck:∀ p ∈ scope.names,p.2 = .cell→scope.names.lookup p.1 = some .cell)
    {pins:List (Addr×Obj)} (J:Inv (eM CX P w K mg base N qual scope f cd A outer s H E) pins σ H' s') :
    ∃ H3,Same H' H3∧kE (cellsFrom (s.heap.objs.size + 1) scope.names []) N σ H3∧(∀ b,H' b = none→H3 b≠none→∃ y,(cellsFrom (s.heap.objs.size + 1) scope.names []).lookup y = some b)∧Un (frs outer) [] H H3 s.heap s'.heap∧HOk P w H3 s'.heap:=by
  have hvis:∀ y c,(cellsFrom (s.heap.objs.size + 1) scope.names []).lookup y = some c→scope.names.lookup y = some .cell:=fun y c e=>by
    rcases iH _ _ _ (dC e) with z | z
    · cases z
    · exact hck _ z rfl
  obtain ⟨cells,hcells⟩:∃ l,l = cellsFrom (s.heap.objs.size + 1) scope.names []:=⟨_,rfl⟩
  rw [← hcells] at hvis ⊢
  have henv:(eM CX P w K mg base N qual scope f cd A outer s H E).env.cells = cells:=hcells.symm
  let G:Addr→V→Prop:=fun b v=>∃ (i:Nat) (y:Str),N[i]? = some y∧σ[i]? = some (some v)∧cells.lookup y = some b
  have G1:∀ b v v',G b v→G b v'→v = v':=by
    rintro b v v' ⟨i,y,a1,a2,a3⟩ ⟨j,z,b1,b2,b3⟩
    have:y = z:=J.ok.inj y z b (by rw [henv]; exact a3) (by rw [henv]; exact b3)
    subst this
    have:i = j:=jy hN a1 b1
    subst this
    rw [a2] at b2
    cases b2
    rfl
  have G2:∀ b v,G b v→H' b = none∧s.heap.objs.size≤b∧eT b v s'.heap:=by
    rintro b v ⟨i,y,a1,a2,a3⟩
    refine ⟨J.freeC y b (by rw [henv]; exact a3),J.ok.cab y b rfl (by rw [henv]; exact a3),?_⟩
    obtain ⟨m,hn,hl⟩:=J.loc
    obtain ⟨u,r,l⟩:=hl i y v a1 a2 (.inr (.inl (hvis y b a3)))
    rcases l with ⟨k,_⟩ | ⟨k,c,e,o,ho,hd⟩
    · exfalso
      have k:scope.names.lookup y = some .local:=k
      rw [hvis y b a3] at k
      cases k
    · have e:cells.lookup y = some c:=by rw [← henv]; exact e
      rw [a3] at e
      cases e
      exact ⟨o,u,ho,hd,r⟩
  classical
  let H3:Hp:=fun b=>if h:∃ v,G b v then some (.ext (eT b (Classical.choose h))) else H' b
  have g1:∀ b v,G b v→H3 b = some (.ext (eT b v)):=fun b v h=>by
    have hx:∃ v,G b v:=⟨v,h⟩
    show (if h:∃ v,G b v then some (.ext (eT b (Classical.choose h))) else H' b) = _
    rw [dif_pos hx,G1 b _ v (Classical.choose_spec hx) h]
  have g2:∀ b,(¬ ∃ v,G b v)→H3 b = H' b:=fun b h=>dif_neg h
  have sm:Same H' H3:=fun b o e=>by
    rw [g2 b fun ⟨v,z⟩=>by rw [(G2 b v z).1] at e; cases e]
    exact e
  have jb:Un (frs outer) [] H H' s.heap s'.heap:=J.base
  refine ⟨H3,sm,fun i y v c a1 a2 a3=>g1 c v ⟨i,y,a1,a2,a3⟩,(fun b n1 n2=>?_),⟨jb.keep,jb.slot,fun b o e n hx=>?_,jb.there,fun b xs e=>sm _ _ (jb.tups b xs e),fun b o u e=>sm _ _ (jb.frzs b o u e),fun b ps e=>?_⟩,fun b o e=>?_⟩
  · by_cases h:∃ v,G b v
    · obtain ⟨v,i,y,_,_,a3⟩:=h
      exact ⟨y,a3⟩
    · rw [g2 b h] at n2
      exact absurd n1 n2
  · rw [g2 b fun ⟨v,z⟩=>absurd (Nat.lt_of_lt_of_le (Heap.lt_size e) (G2 b v z).2.1) (Nat.lt_irrefl _)]
    exact jb.free b o e n hx
  · obtain ⟨more,z⟩:=jb.tbls b ps e
    exact ⟨more,sm _ _ z⟩
  · by_cases h:∃ v,G b v
    · obtain ⟨v,h⟩:=h
      rw [g1 b v h] at e
      cases e
      exact lF (G2 b v h).2.2
    · rw [g2 b h] at e
      exact (J.hok b o e).stay (fun b' u' _ q=>q) (fun b' q=>sm _ _ q) fun b' xs q=>sm _ _ q
theorem kn {N:List Str} {qual:Str} {scope:Scope} {f:Addr} {cd:Value} {A:Around} {outer:List Env} {s:Shared} {H:Hp} {E:XK} {k:Nat} {g:Addr} {fd:FuncData} {ps:List Str} {sp:Sp} {ds:List Value} {dvs:List V} {x:Str} {p pos rp:Pos} {e:Expr} {es:List Expr} {t:TA}
    (hN:N.Nodup) (hck:∀ p ∈ scope.names,p.2 = .cell→scope.names.lookup p.1 = some .cell)
    (F:FnOk P w K mg base CX0 k g fd ps sp) (hr:Room k (eM CX0 P w K mg base N qual scope f cd A outer s H E).nox.A) (hg:Gl (eM CX0 P w K mg base N qual scope f cd A outer s H E).nox x) (hm:mg x = some (.ref g)) (hk:PySem.W.keepIn K (.ref g) = true) (hb:Binds K fd ps ds) (hd:Vals dvs ds)
    (ha:PA (eM CX0 P w K mg base N qual scope f cd A outer s H E).nox (e :: es) t) (hdb:(x == ("__debug__" : Str)) = false:=by decide)
    (he:starEach (e :: es) (eM CX0 P w K mg base N qual scope f cd A outer s H E).nox.env = (false,eval e (eM CX0 P w K mg base N qual scope f cd A outer s H E).nox.env) :: starEach es (eM CX0 P w K mg base N qual scope f cd A outer s H E).nox.env:=by rfl)
    (hpl:(backTo pos (starEach es (eM CX0 P w K mg base N qual scope f cd A outer s H E).nox.env)).any (·.1) = false:=by rfl) :
    PR (eM CX0 P w K mg base N qual scope f cd A outer s H E).nox [.Return (some (.Call (.Name x p) (e :: es) [] pos)) rp]
      (fun R _ σ H'=>t σ H' fun vs H1=>∀ H3,Same H1 H3→kE (cellsFrom (s.heap.objs.size + 1) scope.names []) N σ H3→sp (vs ++ dvs) H3 R fun _ _ _=>False):=by
  intro pins s1 σ H1 R Z I h
  refine wpAny_execs_cons (wpAny_Return_some ?_)
  refine wpAny_Call_Name_kw (eZ I hg hm ?_ hdb)
  refine PySem.W.callWith_K (h₀:=base) I.ok.mod.kin hk (thn (ha pos pins s1 σ H1 _ I h) fun us s2 ⟨vs,H2,I2,r,q⟩=>⟨I2.kIn,?_⟩) he hpl
  have J:Inv (eM CX0 P w K mg base N qual scope f cd A outer s H E) pins σ H2 s2:=I2.unwish
  obtain ⟨H3,sm,hc,hnew,un,hok⟩:=u8 hN hck J
  have r2:Vals (vs ++ dvs) (us ++ ds):=r.append hd
  have q':=q H3 sm hc
  have hl:(us ++ ds).length = ps.length:=by rw [← r2.length]; exact F.len _ _ _ _ q'
  have hL:∀ b ∈ frs (envOfC qual scope s.heap.objs.size f cd :: outer),b = s.heap.objs.size∨b ∈ frs outer:=fun b hb=>by
    have:b ∈ s.heap.objs.size :: frs outer:=hb
    exact List.mem_cons.mp this
  have e0:Env0 P w K mg base (eM CX0 P w K mg base N qual scope f cd A outer s H E).A (envOfC qual scope s.heap.objs.size f cd :: outer) s2 H3:=by
    have z:=J.env0
    refine ⟨z.frames,z.mod,fun b o e=>⟨(z.bs b o e).1,un.free b o (J.ok.bs b o e).1 (J.ok.bs b o e).2 (by simp)⟩,z.bsz,z.funs,fun b hb=>?_,hok,z.bare⟩
    cases q3:H3 b with
    | none=>rfl
    | some o =>
      obtain ⟨y,hy⟩:=hnew b (z.frf b hb) (by rw [q3]; simp)
      rcases hL b hb with rfl | hb'
      · exact absurd rfl (J.cne y _ hy)
      · obtain ⟨_,o',ho',_⟩:=J.ok.funs.mem hb'
        have:=J.ok.cab y b rfl hy
        exact absurd (Nat.lt_of_lt_of_le (Heap.lt_size ho') this) (Nat.lt_irrefl _)
  refine wpAny_call (codeAny_mono (F.run _ _ s2 H3 ⟨us,[]⟩ (us ++ ds) (vs ++ dvs) R _ hr e0 (hb s2 us J.kIn hl) r2 q') fun rr s' hq=>?_)
  cases rr with
  | error e=>exact False.elim hq
  | ok fl =>
    cases fl with
    | ret u =>
      obtain ⟨v,H4,os,bare,un2,hok4,rv,qq⟩:=hq
      have hout:∀ b o,s.heap.get? b = some o→b ∉ frs outer→b ∉ frs (envOfC qual scope s.heap.objs.size f cd :: outer):=fun b o e n z=>by
        rcases hL b z with rfl | z
        · exact absurd (Heap.lt_size e) (Nat.lt_irrefl _)
        · exact n z
      have hin:∀ b,b ∈ frs outer→b ∈ frs (envOfC qual scope s.heap.objs.size f cd :: outer):=fun b z=>by
        show b ∈ s.heap.objs.size :: frs outer
        exact List.mem_cons_of_mem _ z
      refine ⟨u,rfl,.inr ⟨v,H4,os.trans J.os,bare,⟨fun b o e n hb hx=>un2.keep b o (un.keep b o e n hb hx) (un.free b o e n hx) (hout b o e hb) hx,fun b o e n hb hx=>?_,fun b o e n hx=>?_,fun b o e hx=>?_,fun b xs e=>un2.tups b xs (un.tups b xs e),fun b o u e=>un2.frzs b o u (un.frzs b o u e),fun b qs e=>?_⟩,hok4,rv,qq⟩⟩
      · obtain ⟨sl,e1⟩:=un.slot b o e n hb hx
        obtain ⟨sl',e2⟩:=un2.slot b _ e1 (un.free b o e n hx) (hin b hb) hx
        exact ⟨sl',e2⟩
      · obtain ⟨o',e1⟩:=un.there b o e hx
        exact un2.free b o' e1 (un.free b o e n hx) hx
      · obtain ⟨o',e1⟩:=un.there b o e hx
        exact un2.there b o' e1 hx
      · obtain ⟨m1,e1⟩:=un.tbls b qs e
        obtain ⟨m2,e2⟩:=un2.tbls b _ e1
        exact ⟨m1 ++ m2,by rw [e2,Array.append_assoc]⟩
    | next=>exact False.elim hq
    | brk=>exact False.elim hq
    | cont=>exact False.elim hq
theorem Fun.okL {x qual:Str} {st:Stmt} {f c:Addr} {fd:FuncData} {N ps:List Str} {k:Nat} {sp:Sp} (F:Fun K x qual st f fd) (hc:fd.code = .ref c) (S:FnScope N ps (ac st)) (hck:∀ p ∈ (ac st).names,p.2 = .cell→(ac st).names.lookup p.1 = some .cell)
    (len:∀ vs H Q E,sp vs H Q E→vs.length = ps.length)
    (hbody:∀ (A:Around) (outer:List Env) (s:Shared) (H:Hp) (vs:List V) (Q:VK) (E:XK),Room k (A.deeper (envOfC qual (ac st) s.heap.objs.size f (.ref c)))→sp vs H Q E →
      ∃ t,PR (eM CX0 P w K mg base N qual (ac st) f (.ref c) A outer s H E).nox (ag st) t∧t Q (fun v σ H'=>∀ H3,Same H' H3→kE (cellsFrom (s.heap.objs.size + 1) (ac st).names []) N σ H3→Q v H3) (eY N vs) H):FnOk P w K mg base CX0 (k + 1) f fd ps sp:=by
  obtain ⟨oc,od,kV,doc,pm,an,cdv,ct,osl,rfl,lk,hcd⟩:=F.ex
  obtain rfl:cdv = .ref c:=hc
  refine ⟨len,fun A outer s H args us vs Q E hr e0 hb r hsp=>?_⟩
  have hl:=len _ _ _ _ hsp
  have KX:K.In s.heap:=e0.mod.kin.keeps fun b o e=>(e0.bs b o e).1
  have lim:s.heap.NoLimit:=e0.mod.nolimit.keeps fun b o e=>(e0.bs b o e).1
  have hkind:∀ y ∈ ps.zip us,(ac st).names.lookup y.1 = some .local∨((ac st).names.lookup y.1 = some .cell∧((cellsFrom (s.heap.objs.size + 1) (ac st).names []).lookup y.1).isSome = true):=fun ⟨n,v⟩ hy=>by
    rcases S.par n (List.of_mem_zip hy).1 with q | q
    · exact .inl q
    · exact .inr ⟨q,PySem.W.cellsFrom_some _ _ _ (.inl q)⟩
  refine codeAny_call_function hr.depth (KX _ _ lk) rfl S.co S.gen rfl (PySem.W.codeRec_of KX hcd) (hb _ _ _ _ ?_)
  refine wpAny_newFunctionEnv_cells S.kind hkind fun env he s1 x=>?_
  subst he
  refine ⟨lim.keeps x.toInCall.keep,codeAny_func ?_⟩
  obtain ⟨t,ht,hq⟩:=hbody A outer s H vs Q E (hr.deeper _) hsp
  have I:Inv (eM CX0 P w K mg base N qual (ac st) f (.ref c) A outer s H E) [] (eY N vs) H s1:=j8 S hr.hd e0 hl r x
  refine wpAny_mono (ht [] s1 (eY N vs) H Q _ (I.wish _) hq) (fun fl s' hs=>?_) fun e s' hs=>False.elim hs
  obtain ⟨u,rfl,⟨v,σ',H',J,rv,q⟩ | ⟨v,H',g1,g2,g3,g4,rv,q⟩⟩:=hs
  · have J:=J.unwish
    rcases q with q | q
    · exact ⟨v,H',J.os,J.bare,J.base,J.hok,rv,q⟩
    · obtain ⟨H3,h1,h2,_,h3,h4⟩:=u8 S.nd hck J
      exact ⟨v,H3,J.os,J.bare,h3,h4,rv,q H3 h1 h2⟩
  · exact ⟨v,H',g1,g2,g3,g4,rv,q⟩
end
end L2
namespace L2
open PySem PySem.Spec PyProof.Rows
theorem ph {P:Program} {w:World} {K:PySem.W.Frag} {mg mb:Str→Option Value} {CX:CXT} {k:Nat} {fa a:Addr} {fd:FuncData} {x:Str} {sp:Sp} {s₁:Shared} {vs:List Value} {ns:List Int} {ts:List Addr}
    (KX:K.In s₁.heap) (hns:s₁.heap.Ns mainGlobals mg) (hb:s₁.heap.Ns builtinsNs mb) (hbb:∀ x:Str,x ≠ "__name__" → mb x = bootBuiltins x) (hlim:s₁.heap.NoLimit) (hg:s₁.gens = #[])
    (ha:s₁.heap.get? a = some { cls:=.type "list",data:=.seq vs.toArray }) (hi:IntsAre vs ns) (hl:ns.length≤sizeLine) (hr:Room k callerA) (hbm:Bm mg s₁.heap)
    (htab:∀ P ∈ ts,s₁.heap.get? P = some (PySem.W.tabObj #[])) (htc:∀ P ∈ ts,∃ c,PySem.W.codeHdIn K c P = true) (htK:∀ P ∈ ts,K.lookup P = none)
    (F:∀ base:Heap,K.In base→base.Ns mainGlobals mg→Bm mg base→FnOk P w K mg base CX k fa fd [x] sp) (hbind:∀ (s:Shared) (u:Value),BindsTo s fd ⟨[u],[]⟩ [(x,u)])
    (hsp:∀ H:Hp,(∀ P ∈ ts,H P = some (.tbl #[]))→SqL K H a (ns.map V.int)→sp [.ref a] H (fun v _=>v = .bl true) fun _ _ _=>False)
    (hCX:∀ H e s',CX [] H s₁ (fun _ _ _=>False) e s'→False) :
    codeAny (model P w) callerA (.call (.ref fa) ⟨[.ref a],[]⟩) (fun r s'=>r = .ok (.ret (.bool true))∧OldK s₁.heap s'.heap∧s'.os = s₁.os∧AllBare s'.gens) s₁:=by
  have rv:=jV hi
  have lenV:=hi.length
  have nat:a ∉ ts:=fun z=>by have:=htab a z; rw [ha] at this; cases this
  have core:∀ H:Hp,(∀ P ∈ ts,H P = some (.tbl #[]))→SqL K H a (ns.map V.int)→HOk P w H s₁.heap→(∀ b u,H b = some u→(b = a∧∃ o xs,u = .frz o (.lst xs))∨(b ∈ ts∧u = .tbl #[]))→(H a≠none→K.lookup a = none) →
      codeAny (model P w) callerA (.call (.ref fa) ⟨[.ref a],[]⟩) (fun r s'=>r = .ok (.ret (.bool true))∧OldK s₁.heap s'.heap∧s'.os = s₁.os∧AllBare s'.gens) s₁:=by
    intro H hT hS hok hA hK
    have base_of:∀ {b:Addr} {o:Obj},s₁.heap.get? b = some o→H b = none→(jJ s₁.heap H).get? b = some o:=fun e n=>pZ e n
    have noA:∀ {b:Addr} {o:Obj},s₁.heap.get? b = some o→o.cls≠.none→(∀ its n,o.data≠.seq its n)→H b = none:=fun {b o} e d1 d2=>by
      cases q:H b with
      | none=>rfl
      | some u =>
        rcases hA b u q with ⟨rfl,_⟩ | ⟨hb,_⟩
        · rw [ha] at e; cases e; exact (d2 _ _ rfl).elim
        · rw [htab b hb] at e; cases e; exact (d1 rfl).elim
    have noD:∀ {b:Addr} {o:Obj} {es:Array DictEntry} {ep:Nat},s₁.heap.get? b = some o→o.data = .dict es ep→H b = none:=fun {b o es ep} e d=>by
      cases q:H b with
      | none=>rfl
      | some u =>
        rcases hA b u q with ⟨rfl,_⟩ | ⟨hb,_⟩
        · rw [ha] at e; cases e
          have d':Data.seq vs.toArray _ = Data.dict es ep:=d
          cases d'
        · rw [htab b hb] at e; cases e; cases d
    have nsK:∀ {b:Addr} {m:Str→Option Value},s₁.heap.Ns b m→(jJ s₁.heap H).Ns b m:=fun {b m} ⟨o,es,ep,e,d,r⟩=>⟨o,es,ep,base_of e (noD e d),d,r⟩
    have hKb:K.In (jJ s₁.heap H):=fun b o e=>base_of (KX b o e) (by
      cases q:H b with
      | none=>rfl
      | some u =>
        rcases hA b u q with ⟨rfl,_⟩ | ⟨hb,_⟩
        · rw [hK (by rw [q]; simp)] at e; cases e
        · rw [htK b hb] at e; cases e)
    have hM:Mod K mg (jJ s₁.heap H):=⟨hKb,nsK hns,⟨mb,nsK hb,hbb⟩,let ⟨mc,h1,h2⟩:=hlim; ⟨mc,nsK h1,h2⟩⟩
    have hB:Bm mg (jJ s₁.heap H):=by
      obtain ⟨bm,ob,b1,b2,b3,b4,b5⟩:=hbm
      exact ⟨bm,ob,b1,base_of b2 (noA b2 (by rw [b3]; simp) (fun its n=>by rw [b5]; intro z; cases z)),b3,b4,b5⟩
    have e0:Env0 P w K mg (jJ s₁.heap H) callerA [] s₁ H:=⟨rfl,hM,fun b o e=>uy e,Nat.le_of_eq (pU _ _),trivial,fun b hb=>absurd (show b ∈ ([]:List Addr) from hb) (by simp),hok,.of_eq hg⟩
    refine codeAny_mono ((F _ hKb (nsK hns) hB).run callerA [] s₁ H ⟨[.ref a],[]⟩ [.ref a] [.ref a] _ _ hr e0 (hbind s₁ (.ref a)) (.cons rfl .nil) (hsp H hT hS)) fun r s' h=>?_
    cases r with
    | error e=>exact (hCX H e s' h).elim
    | ok fl =>
      cases fl with
      | next=>exact False.elim h
      | brk=>exact False.elim h
      | cont=>exact False.elim h
      | ret u =>
        obtain ⟨v,H',os,bare,un,hok',r',q⟩:=h
        have q':v = .bl true:=q
        subst q'
        obtain rfl:u = Value.bool true:=r'
        refine ⟨rfl,⟨fun b o e=>?_,fun b o e=>un.there b o e (by simp)⟩,os,bare⟩
        cases q:H b with
        | none=>exact .inl (un.keep b o e q (by intro z; exact absurd (show b ∈ ([]:List Addr) from z) (by simp)) (by simp))
        | some u =>
          rcases hA b u q with ⟨_,ob,xs,rfl⟩ | ⟨hb,rfl⟩
          · have z2:=un.frzs b ob _ q
            obtain ⟨e1,_⟩:=hok b _ q
            obtain ⟨e2,_⟩:=hok' b _ z2
            rw [e] at e1; cases e1
            exact .inl e2
          · obtain ⟨c,hc⟩:=htc b hb
            have C:=PySem.W.codeHd_of_K KX hc
            obtain ⟨more,z⟩:=un.tbls b _ q
            have z2:s'.heap.get? b = some (PySem.W.tabObj (#[] ++ more)):=hok' b _ z
            rw [htab b hb] at e
            cases e
            exact .inr (.inl ⟨(C.tab (htab b hb)).isCodeTable,rfl,#[],more,rfl,z2⟩)
  let T:Hp:=fun b=>if b ∈ ts then some (.tbl #[]) else none
  cases hk:K.lookup a with
  | some o =>
    have e:=KX a o hk
    rw [ha] at e
    cases e
    refine core T (fun P hP=>if_pos hP) (.inr ⟨_,vs.toArray,_,hk,rfl,rfl,rfl,by rw [List.size_toArray,lenV]; exact hl,by simpa using rv⟩) (fun b u z=>?_) (fun b u z=>?_) fun z=>absurd (if_neg nat) z
    · by_cases hb:b ∈ ts
      · have z':=(if_pos hb).symm.trans z
        cases z'
        exact htab b hb
      · have z':=(if_neg hb).symm.trans z
        cases z'
    · by_cases hb:b ∈ ts
      · have z':=(if_pos hb).symm.trans z
        cases z'
        exact .inr ⟨hb,rfl⟩
      · have z':=(if_neg hb).symm.trans z
        cases z'
  | none =>
    refine core (fun b=>if b = a then some (.frz { cls:=.type "list",data:=.seq vs.toArray } (.lst (ns.map V.int))) else T b) (fun P hP=>?_) (.inl (.inr ⟨{ cls:=.type "list",data:=.seq vs.toArray },if_pos rfl⟩)) (fun b u z=>?_) (fun b u z=>?_) fun _=>hk
    · have hne:P≠a:=fun z=>nat (by rw [← z]; exact hP)
      exact (if_neg hne).trans (if_pos hP)
    · by_cases hb:b = a
      · have z':=(if_pos hb).symm.trans z
        cases z'
        subst hb
        exact ⟨ha,by rw [List.length_map]; exact hl,vs,_,rv,ha⟩
      · have z':=(if_neg hb).symm.trans z
        by_cases hb:b ∈ ts
        · have z':=(if_pos hb).symm.trans z'
          cases z'
          exact htab b hb
        · have z':=(if_neg hb).symm.trans z'
          cases z'
    · by_cases hb:b = a
      · have z':=(if_pos hb).symm.trans z
        cases z'
        exact .inl ⟨hb,_,_,rfl⟩
      · have z':=(if_neg hb).symm.trans z
        by_cases hb:b ∈ ts
        · have z':=(if_pos hb).symm.trans z'
          cases z'
          exact .inr ⟨hb,rfl⟩
        · have z':=(if_neg hb).symm.trans z'
          cases z'
theorem walk_ofT {l:PySem.W.OpenLaw} {n k:Nat} {q:Program} {loose:List Str} {XP:(Str→Option Value)→Heap→Prop} {YP:World→Heap→Prop} {d:DefRec} {K:Params→PySem.W.Frag} {CX:CXT} {sp:PySem.W.Frag→List Addr→Sp} {x:Str} {ts:List Addr}
    (hn:l.most = some n) (hn2:n≤sizeLine) (hdf:d.params.defaults = []) (hr:Room k callerA)
    (hY:∀ (w:World) (h:Heap),YP w h→(K w.params).In h∧∀ P ∈ ts,h.get? P = some (PySem.W.tabObj #[]))
    (F:∀ (ts':List Addr),ts' = ts→∀ (w:World) (mg:Str→Option Value) (fa:Addr) (h:Heap),(K w.params).In h→h.Ns mainGlobals mg→mg d.name = some (.ref fa) →
      ∃ fd:FuncData,(∀ (s:Shared) (u:Value),BindsTo s fd ⟨[u],[]⟩ [(x,u)])∧(∀ P ∈ ts,∃ c,PySem.W.codeHdIn (K w.params) c P = true)∧(∀ P ∈ ts,(K w.params).lookup P = none) ∧
        ∀ base:Heap,(K w.params).In base→base.Ns mainGlobals mg→Bm mg base→FnOk l.prog w (K w.params) mg base CX k fa fd [x] (sp (K w.params) ts))
    (hsp:∀ (K:PySem.W.Frag) (H:Hp) (a:Addr) (ns:List Int),ns.length≤n→(∀ P ∈ ts,H P = some (.tbl #[]))→SqL K H a (ns.map V.int)→sp K ts [.ref a] H (fun v _=>v = .bl true) fun _ _ _=>False)
    (hCX:∀ (H:Hp) (s:Shared) (e:Value) (s':Shared),CX [] H s (fun _ _ _=>False) e s'→False) :
    PySem.W.WalkO q loose XP YP l.row.toRowW d [] (fun f vs=>PySem.call f vs):=by
  refine Att.attach_call hn hdf fun w s₀ s₁ mg mb fa o pm cd doc a vs ns G Y ho hd hcd hmg hobj hints hlen hg=>?_
  obtain ⟨KX,hT⟩:=hY w _ Y
  obtain ⟨fd,hb,htc,htK,hF⟩:=F ts rfl w mg fa _ KX G.T.g hmg
  have hbm:Bm mg s₁.heap:=let ⟨bm,ob,b1,_,b3,b4,b5,b6⟩:=G.T.bmain; ⟨bm,ob,b1,b3,b4,b5,b6⟩
  exact ph KX G.T.g G.T.b G.T.builtins G.T.nolimit hg hobj hints (Nat.le_trans hlen hn2) hr hbm hT htc htK hF hb (fun H hO hS=>hsp (K w.params) H a ns hlen hO hS) fun H e s'=>hCX H s₁ e s'
end L2
namespace FrM
def eJ (t b:Int):Int×Int:=(t / (Int.gcd t b:Int),b / (Int.gcd t b:Int))
def sz (z:List Int) (k:Nat):Int:=z.getD k 0
def xA (z:List Int) (l:List Nat):Int:=(l.map (sz z)).sum
def stay (z:List Int) (l:List Nat) (w:Int):List Nat:=l.filter fun k=>decide (sz z k * w < xA z l)
theorem uu (z:List Int) (l:List Nat) (w:Int):(stay z l w).length≤l.length:=List.length_filter_le _ _
def fin (z:List Int) (l:List Nat) (w:Int):List Nat×Int :=
  if (stay z l w).length = l.length then (l,w) else fin z (stay z l w) (w - ((l.length:Int) - ((stay z l w).length:Int)))
termination_by l.length
decreasing_by
  have:=uu z l w
  lia
structure Rnd (z:List Int) (n:Nat) (m:Int) (l:List Nat) (w:Int):Prop where
  pos:0 < l.length
  sub:∀ k ∈ l,k < n
  lt:w < l.length
  dif:w - l.length = m - n
  fil:l = (List.range n).filter fun k=>decide (k ∈ l)
theorem Rnd.len {z:List Int} {n:Nat} {m:Int} {l:List Nat} {w:Int} (h:Rnd z n m l w):l.length≤n:=by
  have e:=congrArg List.length h.fil
  have:=List.length_filter_le (fun k=>decide (k ∈ l)) (List.range n)
  rw [List.length_range] at this
  lia
structure Top (m:Int) (n:Nat) (S:Int) (N:Nat→Int):Prop where
  pos:0 < S
  all:((List.range n).map N).sum = m * S
def due (z:List Int) (m:Int):List (Int×Int) :=
  if (z.length:Int)≤m then z.map fun _=>(1,1) else if m = 0 then z.map fun _=>(0,1)
  else (List.range z.length).map fun k=>if decide (k ∈ (fin z (List.range z.length) m).1) = true then eJ (sz z k * (fin z (List.range z.length) m).2) (xA z (fin z (List.range z.length) m).1) else (1,1)
end FrM
namespace L2
open PySem PySem.Spec PyProof.Rows
def kF:List V→List Value→Bool
  | [],[]=>true
  | .int i :: xs,.int j _ :: us=>decide (i = j) && kF xs us
  | _,_=>false
theorem iU:∀ {xs:List V} {us:List Value},kF xs us = true→Vals xs us
  | [],[],_=>.nil
  | .int i :: xs,.int j t :: us,h=>by
    rw [kF,Bool.and_eq_true] at h
    have e:=of_decide_eq_true h.1
    exact .cons ⟨t,by rw [e]⟩ (iU h.2)
def js (K:PySem.W.Frag) (a:Addr) (xs:List V):Bool :=
  match K.lookup a with
  | some o =>
    (match o.cls with
    | .type t=>t == "tuple"
    | _=>false) &&
    (match o.data with
    | .seq its _=>decide (its.size≤1000) && kF xs its.toList
    | _=>false)
  | none=>false
theorem vY {K:PySem.W.Frag} {H:Hp} {a:Addr} {xs:List V} (h:js K a xs = true):SqT K H a xs:=by
  unfold js at h
  split at h
  · rename_i o e
    rw [Bool.and_eq_true] at h
    obtain ⟨h1,h2⟩:=h
    split at h1
    · rename_i t ec
      split at h2
      · rename_i its n ed
        rw [Bool.and_eq_true] at h2
        refine .inr ⟨o,its,n,e,by rw [ec,beq_iff_eq.mp h1],ed,?_,iU h2.2⟩
        have:=of_decide_eq_true h2.1
        have:sizeLine = 16777216:=sizeLine_eq
        lia
      · cases h2
    · cases h1
  · cases h
def TyS (K:PySem.W.Frag) (H:Hp) (x:V) (t:Value):Prop:=TyOf K H x t∨∃ a xs,x = .ref a∧t = .type "tuple" ∧ SqT K H a xs
section
variable {X:Cx}
open PySem.W in
theorem yk {pins:List (Addr×Obj)} {σ:St} {H:Hp} {s:Shared} {x:V} {u t:Value} (I:Inv X pins σ H s) (rx:RelV x u) (ty:TyS X.K H x t) :
    ∃ Hh:Heap→Prop,KitX X.K u t Hh∧Hh s.heap∧u≠.builtin "__main__.__loader__#opaque" := by
  rcases ty with ty | ⟨a,xs,rfl,rfl,hq⟩
  · exact mX I rx ty
  · cases (show u = Value.ref a from rx)
    obtain ⟨its,rv,p,hz⟩:=I.tuple hq
    exact ⟨_,PySem.W.kitx_tuple,let ⟨o,e,c,_⟩:=p; ⟨o,e,c⟩,fun z=>nomatch z⟩
def Ax (K:PySem.W.Frag):List V→Hp→VK→Prop:=fun xs H Q=>∃ x c t b,xs = [x,c]∧lN c = true∧TyS K H x t∧PySem.W.kitOne K t (qj c) = some b∧Q (.bl b) H
theorem mr:bootBuiltins "sum" = some (.builtin "sum"):=by decide +kernel
theorem lM:∀ {ns:List Int} {us:List Value},Vals (ns.map V.int) us→IntsAre us ns
  | [],_,.nil=>.nil
  | n :: ns,_,.cons r t=>by
    obtain ⟨t',rfl⟩:=r
    exact .cons _ _ (lM t)
inductive rSumI (K:PySem.W.Frag) (xs:List V) (H:Hp) (Q:VK):Prop
  | mk (p:Addr) (ns:List Int) (h0:xs = [.ref p]) (h1:SqL K H p (ns.map V.int)) (h2:Q (.int ns.sum) H):rSumI K xs H Q
theorem iG (hc:X.calm = true):CallR X (.builtin "sum") (rSumI X.K):=by
  intro pins s σ H xs us Q I r h
  obtain ⟨p,ns,rfl,hq,q⟩:=h
  obtain ⟨u,rfl,rx⟩:=iu r
  cases rx
  obtain ⟨its,rv,pl,hz⟩:=I.list hq
  have hi:=lM rv
  obtain ⟨xs,ex⟩:=hi.allInts.items
  have e2:(numsOf its) = ns:=hi.numsOf
  refine sum_intListG (I.ok.hd hc) (xs:=xs) (by rw [← ex]; exact pl.isList) fun h' tk t' hk=>?_
  have e3:preSum (numAt xs) xs.size = ns.sum:=by
    rw [preSum_eq,List.take_of_length_le (by simp),← e2,← nums_intItems,← ex]
  rw [e3]
  exact ⟨.int ns.sum,H,I.kept hk,⟨_,rfl⟩,q⟩
def xP (lo c:Int) (n:Nat):It:=⟨fun i _=>i < n,fun i H x H'=>H' = H∧x = .int (lo + i * c),fun i _=>n≤i⟩
def xf (i j:Int):Nat:=(Builtin.Range.rangeSize i j 2).toNat
def zG (ta:TA):TI:=fun σ H R=>ta σ H fun vs H1=>∃ i j:Int,vs = [.int i,.int j,.int 2]∧(0≤i∧i < 2 ^ 60∧-(2 ^ 60)≤j∧j < 2 ^ 60)∧R (xP i 2 (xf i j)) H1
end
end L2
namespace L2
open PySem PySem.Spec PyProof.Rows
def dE:Expr:=.Name "" ⟨0,0,0,0⟩
def qm (st:Stmt) (i:Nat):Stmt:=(ag st).getD i (.Pass ⟨0,0,0,0⟩)
def uv:Stmt→Expr
  | .Return (some e) _=>e
  | _=>dE
def rH:Expr→Nat→Expr
  | .Call _ es _ _,i=>es.getD i dE
  | _,_=>dE
def Ar:Expr→Nat→Expr
  | .List es _,i=>es.getD i dE
  | _,_=>dE
def An:Expr→Nat→Expr
  | .Tuple es _ _,i=>es.getD i dE
  | _,_=>dE
def kU (q:Str):Expr→LamD
  | .Lambda p b s _=>⟨q,p,b,s⟩
  | _=>⟨q,default,dE,default⟩
def qI:Expr→Pos
  | .Lambda _ _ _ p=>p
  | _=>⟨0,0,0,0⟩
end L2
namespace L2
open PySem PySem.Spec PyProof.Rows
structure Lnd (X:Cx) (pins:List (Addr×Obj)) (σ:St) (H:Hp) (s:Shared) (x D:Addr) (dct:Option Addr) (T:Addr) (H':Hp) (s':Shared) (T4:Addr) (h5:Heap):Prop where
  I:Inv X pins σ H s
  G:XG X.prog X.w X.stack H s x D dct T H' s'
  k:KeptBut ([T,x] ++ [T4]) (frs X.stack) s'.heap h5
  hxs:∀ b,b = T∨b = x∨b = T4→s.heap.get? b = none∧H' b = none∧b ∉ frs X.stack
  fx:Fx h5 x (.ref D) dct .none T4
abbrev TH:=Addr→Option Addr→Addr→Ends→St→Hp→Prop
def PH (X:Cx) (hs:List ExceptHandler) (th:TH):Prop :=
  ∀ (pins:List (Addr×Obj)) (σ:St) (H:Hp) (s:Shared) (x D:Addr) (dct:Option Addr) (T:Addr) (H':Hp) (s':Shared) (T4:Addr) (h5:Heap) (DE:Ends),Lnd X pins σ H s x D dct T H' s' T4 h5→th D dct x DE σ (upd H' x (.ext (XCt x D dct))) →
    wpAny (model X.prog X.w) X.A (handleBy (.ref x) X.env hs) (SP X pins DE) X.xe { s' with heap:=h5 }
section
variable {X:Cx} {C:Addr} {cn en:Str} {ie:Nat} {b₀:Stmt} {suite:List Stmt} {cp hp:Pos} {ts:TS} {rest:List ExceptHandler} {tr:TH}
end
def HX (X:Cx) (pins:List (Addr×Obj)) (hr:Value→Option Addr→St→Hp→Prop) (e:Value) (s':Shared):Prop:=∃ σ H s,Inv X pins σ H s∧CXG X.prog X.w X.stack H s (fun c d H'=>hr c d σ H') e s'
abbrev TB:=(St→Hp→Prop)→VK→(Value→Option Addr→St→Hp→Prop)→St→Hp→Prop
def PB1 (X:Cx) (st:Stmt) (t:TB):Prop :=
  ∀ (pins:List (Addr×Obj)) (s:Shared) (σ:St) (H:Hp) (nx:St→Hp→Prop) (rt:VK) (hr:Value→Option Addr→St→Hp→Prop),Inv X pins σ H s→t nx rt hr σ H→wpAny (model X.prog X.w) X.A (exec st X.env) (SP X pins { nx:=nx,rt:=rt }) (HX X pins hr) s
def PB (X:Cx) (sts:List Stmt) (t:TB):Prop :=
  ∀ (pins:List (Addr×Obj)) (s:Shared) (σ:St) (H:Hp) (nx:St→Hp→Prop) (rt:VK) (hr:Value→Option Addr→St→Hp→Prop),Inv X pins σ H s→t nx rt hr σ H→wpAny (model X.prog X.w) X.A (execs sts X.env) (SP X pins { nx:=nx,rt:=rt }) (HX X pins hr) s
section
variable {X:Cx}
def PX (X:Cx) (e:Expr) (t:VK→XK→St→Hp→Prop):Prop :=
  ∀ (pins:List (Addr×Obj)) (s:Shared) (σ:St) (H:Hp) (Q:VK) (E:XK),Inv X pins σ H s→t Q E σ H →
    wpAny (model X.prog X.w) X.A (eval e X.env) (EP X pins σ Q) (fun e s'=>∃ H1 s1,Inv X pins σ H1 s1∧CXG X.prog X.w X.stack H1 s1 E e s') s
end
section
variable {X:Cx} {k:Nat} {f C:Addr} {fd:FuncData} {ps:List Str} {sp:Sp} {dvs:List V} {ds:List Value} {x m:Str} {p pos apos:Pos} {e o:Expr} {es:List Expr} {ta:TE} {t:TA}
end
end L2
namespace L2
open PySem PySem.Spec PyProof.Rows
def PAX (X:Cx) (es:List Expr) (t:(List V→Hp→Prop)→XK→St→Hp→Prop):Prop :=
  ∀ (pos:Pos) (pins:List (Addr×Obj)) (s:Shared) (σ:St) (H:Hp) (Q:List V→Hp→Prop) (E:XK),Inv X pins σ H s→t Q E σ H →
    wpAny (model X.prog X.w) X.A (spliced (backTo pos (starEach es X.env))) (AP X pins σ Q) (fun e s'=>∃ H1 s1,Inv X pins σ H1 s1∧CXG X.prog X.w X.stack H1 s1 E e s') s
section
variable {X:Cx} {e:Expr} {es:List Expr} {pos:Pos}
theorem vZ {a b:Expr} {ta tb:TE} {r:R2} (hr:IxR X r) (ha:PEq X a ta) (hb:PE X b tb) (hp:ow b):PEq X (.Subscript a b pos) (tOp r ta tb):=dA (aA hr (jc ha) hb hp)
end
end L2
namespace L2
open PySem PySem.Spec PyProof.Rows
section
variable {X:Cx}
inductive rCount (K:PySem.W.Frag) (x:V) (vs:List V) (H:Hp) (Q:VK):Prop
  | mk (l:Addr) (xs:List V) (ds:List PyData) (y:V) (d:PyData) (h0:x = .ref l) (h1:vs = [y]) (h2:H l = some (.lst xs)) (h3:DVs K H ds xs) (h4:DV K H d y) (h5:PyData.canLayAll0 ds = true) (h6:d.canLay0 = true) (h7:d.depth≤60)
      (h8:Q (.int ((ds.countP fun z=>PyData.eqv z d:Nat):Int)) H):rCount K x vs H Q
theorem qQ (hu:X.A.units + 64 < cLine):MtM X "list.count" (rCount X.K):=by
  intro pins s σ H x vs v us Q I rx rv h
  obtain ⟨l,xs,ds,y,d,rfl,rfl,hH,hds,hd,c1,c2,dd,q⟩:=h
  cases rx
  obtain ⟨u,rfl,ru⟩:=rv.one
  obtain ⟨z,its,n,r,hl,e⟩:=I.lstM hH
  obtain ⟨as,ra⟩:=DVs.reads I hds r
  obtain ⟨bs,rb⟩:=hd.reads I ru
  refine call_meets F.slot_list_count ⟨_,e,rfl⟩ F.entry_list_count (F.args_list_count_2 _ _) (SeqAt.list_countAt l its.toArray n none #[] u (fun y=>PyData.eqv (SeqAt.readOf s.heap y) d)) ⟨e,SeqAt.items_eqAt (xs:=ds) (as:=as) (by simpa using ra) rb c1 c2 ?_,?_⟩
  · have:min (PyData.depthAll ds) d.depth≤d.depth:=Nat.min_le_right _ _
    lia
  · have e1:its.toArray.toList.countP (fun y=>PyData.eqv (SeqAt.readOf s.heap y) d) = ds.countP fun z=>PyData.eqv z d:=by
      rw [← SeqAt.readsAll_map ds its as c1 ra,List.countP_map]
      rfl
    rw [e1]
    exact ⟨.int _,H,I.tok _,⟨_,rfl⟩,q⟩
variable {o e:Expr} {es:List Expr} {to:TE} {t:TA} {apos cpos:Pos}
theorem pe_m.count (hu:X.A.units + 64 < cLine) (ho:PE X o to) (ha:PA X (e :: es) t) (hbase:attributeBase o "count" X.env (eval o X.env) = eval o X.env:=by rfl)
    (hfew:((backTo cpos (starEach (e :: es) X.env)).all (fun x=>!x.1) && (backToKw cpos (keywordEach [] X.env)).all (fun x=>x.1.isSome) && decide ((e :: es).length + ([]:List Keyword).length + (if ([]:List Keyword).isEmpty then 0 else 1) < 30)) = true:=by rfl)
    (hline:(apos.endLine == cpos.line) = true:=by rfl) (hs:starEach (e :: es) X.env = (false,eval e X.env) :: starEach es X.env:=by rfl) (hplain:(backTo cpos (starEach es X.env)).any (·.1) = false:=by rfl) :
    PE X (.Call (.Attribute o "count" apos) (e :: es) [] cpos) (tBM X.K "list" (rCount X.K) to t):=lC F.plainAttrs_list F.slot_list_count F.type_list_count (qQ hu) ho ha hbase hfew hline hs hplain
def zH (xs:List V) (lo:Option Int) (c:Int):List V:=(sliceRange (sliceBounds lo none (some c) xs.length).1 (sliceBounds lo none (some c) xs.length).2.1 (sliceBounds lo none (some c) xs.length).2.2).filterMap (xs[·]?)
def xu (i j c:Int):Nat:=(Builtin.Range.rangeSize i j c).toNat
def Ac (ta:TA):TI:=fun σ H R=>ta σ H fun vs H1=>∃ i j c:Int,vs = [.int i,.int j,.int c]∧(0≤i∧i < 2 ^ 60∧-(2 ^ 60)≤j∧j < 2 ^ 60∧0 < c∧c < 2 ^ 60)∧R (xP i c (xu i j c)) H1
end
end L2
namespace L2
open PySem PySem.Spec PySem.Calls PyProof.Rows
theorem tJ {X:Cx}:OpR X (binaryOp .Mult) (fun x y H Q=>∃ z n,x = .str z∧y = .int n∧0≤n∧n≤2∧z.cps.size≤100∧∀ r:Str,r.cps.toList = (List.replicate n.toNat z.cps.toList).flatten→Q (.str r) H):=by
  intro pins s σ H x y v u Q I rx ry h
  obtain ⟨z,n,rfl,rfl,n0,n2,hz,q⟩:=h
  obtain ⟨t,rfl⟩:=rx
  obtain ⟨t',rfl⟩:=ry
  have hc:n = 0∨n = 1∨n = 2:=by lia
  rcases hc with rfl | rfl | rfl
  · exact PySem.P.mul_str_none (by decide) (by decide) ⟨.str Str.empty,H,I.tok _,⟨_,rfl⟩,q _ rfl⟩
  · refine PySem.P.mul_str (by decide) (fun _ h=>by simp at h) (fun _ h=>by simp at h) ?_
    rw [if_neg (by decide),if_pos (by simp)]
    exact ⟨.str z,H,I,⟨_,rfl⟩,q _ (by simp)⟩
  · have hl:z.length = z.cps.size:=rfl
    refine PySem.P.mul_str (by decide) (fun _ _=>?_) (fun _ _=>?_) ?_
    · rw [hl]; lia
    · show decide (z.length * 2 > sizeLine) = false
      rw [hl,sizeLine_eq]
      exact decide_eq_false (by lia)
    · rw [if_neg (by decide)]
      split
      · rename_i hz0
        have h0:z.cps = #[]:=by
          have:z.length = 0:=by simpa using hz0
          exact Array.eq_empty_of_size_eq_zero this
        exact ⟨.str z,H,I,⟨_,rfl⟩,q _ (by rw [h0]; rfl)⟩
      · exact ⟨by show (#[] ++ z.cps ++ z.cps).size≤sizeLine; rw [sizeLine_eq]; simp; lia,.str _,H,I.tok _,⟨_,rfl⟩,q _ (by simp [List.replicate,List.foldl])⟩
theorem jM:isSubtype (.type "dict") (.type "dict") = pure true:=by rw [isSubtype_type]; kernel_rfl
theorem qK (d:Addr) (ep:Nat) (hd:(d == sysModules) = false):Meets (Builtin.«dict.__eq__» ⟨[.ref d,.ref d],[]⟩) (fun A R s=>s.heap.get? d = some { cls:=.type "dict",data:=.dict #[] ep }∧R (.ok (.ret (.bool true))) s):=by
  intro prog w A R s h
  obtain ⟨hp,g,dd,tk,os⟩:=s
  obtain ⟨hl,h⟩:=h
  wp_walk using wpAny_loadPart' hl
  rw [show isSubtype { cls:=Value.type "dict",data:=Data.dict #[] ep:Obj }.cls (Value.type "dict") = pure true from jM]
  refine wpAny_pure ?_
  rw [if_neg (by simp)]
  refine wpAny_bind (wpAny_pure (wpAny_bind (wpAny_pure (wpAny_bind ?_))))
  unfold Builtin.Dict.samePairs Builtin.Dict.showsAll
  rw [hd]
  simp only [Bool.false_eq_true,if_false]
  refine wpAny_bind (wpAny_pure (wpAny_bind (wpAny_pure (wpAny_bind (wpAny_dictEntries hl rfl (wpAny_bind (wpAny_dictEntries hl rfl ?_)))))))
  rw [if_neg (by simp)]
  refine wpAny_bind (wpAny_dictEpoch hl rfl (wpAny_bind ?_))
  have e0:(#[]:Array DictEntry).size = 0:=rfl
  rw [e0]
  refine wpAny_mono (Q:=fun r s'=>r = (none,())∧s' = { heap:=hp,gens:=g,drawn:=dd,toks:=tk,os:=os }) ?_ (fun r s' hr=>?_) (fun _ _ z=>z)
  · rw [Std.Legacy.Range.forIn_eq_forIn_range']
    exact wpAny_pure ⟨rfl,rfl⟩
  · obtain ⟨rfl,rfl⟩:=hr
    exact wpAny_pure (wpAny_pure h)
theorem ql {X:Cx} (hu:X.A.units < cLine):OpR X (compareOp .Eq) (fun x y H Q=>∃ p,x = .ref p∧y = .ref p∧H p = some (.dK [])∧Q (.bl true) H):=by
  intro pins s σ H x y v u Q I rx ry h
  obtain ⟨p,rfl,rfl,hp,q⟩:=h
  cases rx
  cases ry
  obtain ⟨_,hd,vs,kv,⟨oc,od,odt,osl⟩,es,ep,ho,⟨h1,h2,h3⟩,hdt,_,hes,_⟩:=I.hok p _ hp
  cases kv
  have h1:oc = _:=h1
  have h2:od = _:=h2
  have h3:osl = _:=h3
  have hdt:odt = _:=hdt
  subst h1 h2 h3 hdt
  have he:es = #[]:=by
    obtain ⟨l⟩:=es
    cases hes
    rfl
  subst he
  show wpAny _ _ (richCompare .Eq (.ref p) (.ref p)) _ _ _
  exact richCompare_meets_room (op:=.Eq) ⟨_,ho,rfl⟩ ⟨_,ho,rfl⟩ F.slot_dict_eq F.entry_dict_eq (F.args_dict_eq_2 _ _) (qK p ep hd) ⟨ho,(fun z=>nomatch z),⟨.bl true,H,I,rfl,q⟩⟩ hu
inductive rIndexD (K:PySem.W.Frag) (x:V) (vs:List V) (H:Hp) (Q:VK):Prop
  | mk (l:Addr) (xs:List V) (ds:List PyData) (y:V) (d:PyData) (j:Nat) (h0:x = .ref l) (h1:vs = [y]) (h2:H l = some (.lst xs)) (h3:DVs K H ds xs) (h4:DV K H d y) (h5:PyData.canLayAll0 ds = true) (h6:d.canLay0 = true) (h7:d.depth≤60)
      (h8:j < ds.length) (h9:∀ z,ds[j]? = some z→PyData.eqv z d = true) (h10:∀ m z,m < j→ds[m]? = some z→PyData.eqv z d = false) (h11:Q (.int (j:Int)) H):rIndexD K x vs H Q
section
variable {X:Cx}
theorem oQ (hu:X.A.units + 64 < cLine):MtM X "list.index" (rIndexD X.K):=by
  intro pins s σ H x vs v us Q I rx rv h
  obtain ⟨l,xs,ds,y,d,j,rfl,rfl,hH,hds,hd,c1,c2,dd,hj,h9,h10,q⟩:=h
  cases rx
  obtain ⟨u,rfl,ru⟩:=rv.one
  obtain ⟨z,its,n,r,hl,e⟩:=I.lstM hH
  obtain ⟨as,ra⟩:=DVs.reads I hds r
  obtain ⟨bs,rb⟩:=hd.reads I ru
  have em:=SeqAt.readsAll_map ds its as c1 ra
  have el:its.length = ds.length:=by have:=congrArg List.length em; simpa using this
  have small:sizeLine = 16777216:=sizeLine_eq
  have ix:∀ m (hm:m < its.toArray.size),ds[m]? = some (SeqAt.readOf s.heap its.toArray[m]):=fun m hm=>by
    rw [← em,List.getElem?_map]
    simp at hm
    simp [hm]
  refine call_meets F.slot_list_index ⟨_,e,rfl⟩ F.entry_list_index (F.args_list_index_2 _ _) (SeqAt.list_indexAt l its.toArray n none #[] u (fun y=>PyData.eqv (SeqAt.readOf s.heap y) d) j (by simp; lia) (by have:=r.length; lia) (h9 _ (ix j (by simp; lia))) fun m hm hlt=>h10 m _ hlt (ix m hm)) ⟨e,SeqAt.items_eqAt (xs:=ds) (as:=as) (by simpa using ra) rb c1 c2 ?_,⟨.int _,H,I.tok _,⟨_,rfl⟩,q⟩⟩
  have:min (PyData.depthAll ds) d.depth≤d.depth:=Nat.min_le_right _ _
  lia
variable {o e:Expr} {es:List Expr} {to:TE} {t:TA} {apos cpos:Pos}
theorem pe_m.indexD (hu:X.A.units + 64 < cLine) (ho:PE X o to) (ha:PA X (e :: es) t) (hbase:attributeBase o "index" X.env (eval o X.env) = eval o X.env:=by rfl)
    (hfew:((backTo cpos (starEach (e :: es) X.env)).all (fun x=>!x.1) && (backToKw cpos (keywordEach [] X.env)).all (fun x=>x.1.isSome) && decide ((e :: es).length + ([]:List Keyword).length + (if ([]:List Keyword).isEmpty then 0 else 1) < 30)) = true:=by rfl)
    (hline:(apos.endLine == cpos.line) = true:=by rfl) (hs:starEach (e :: es) X.env = (false,eval e X.env) :: starEach es X.env:=by rfl) (hplain:(backTo cpos (starEach es X.env)).any (·.1) = false:=by rfl) :
    PE X (.Call (.Attribute o "index" apos) (e :: es) [] cpos) (tBM X.K "list" (rIndexD X.K) to t):=lC F.plainAttrs_list F.slot_list_index F.type_list_index (oQ hu) ho ha hbase hfew hline hs hplain
end
theorem OpR.or2 {X:Cx} {f:Value→Value→Sem Value} {r r':R2} (h:OpR X f r) (h':OpR X f r'):OpR X f (fun x y H Q=>r x y H Q∨r' x y H Q):=fun pins s σ H x y v u Q I rx ry q=>q.elim (h pins s σ H x y v u Q I rx ry) (h' pins s σ H x y v u Q I rx ry)
end L2
namespace L2
open PySem PySem.Spec PyProof.Rows
section
variable {X:Cx}
theorem tY {e:Expr} {te:TE} {pos:Pos} (he:PEq X e te):PSt X (.Return (some e) pos) (xV te):=mi (aq (jc he))
end
section
variable {P:Program} {w:World} {K:PySem.W.Frag} {mg:Str→Option Value} {base:Heap}
theorem Fun.okQ {x qual:Str} {st:Stmt} {f:Addr} {fd:FuncData} {N ps:List Str} {k:Nat} {sp:Sp} (F:Fun K x qual st f fd) (S:FnScope N ps (ac st)) (len:∀ vs H Q E,sp vs H Q E→vs.length = ps.length)
    (hbody:∀ (cdv:Value) (A:Around) (outer:List Env) (s:Shared) (H:Hp) (vs:List V) (Q:VK) (E:XK),Room k (A.deeper (envOfC qual (ac st) s.heap.objs.size f cdv))→sp vs H Q E →
      ∃ t,PSq (eM CX0 P w K mg base N qual (ac st) f cdv A outer s H E).nox (ag st) t∧t { nx:=fun _ H'=>Q .non H',rt:=Q } (eY N vs) H):FnOk P w K mg base CX0 (k + 1) f fd ps sp :=
  F.ok S len fun cdv A outer s H vs Q E hr h=>let ⟨t,h1,h2⟩:=hbody cdv A outer s H vs Q E hr h; ⟨t,tR h1,h2⟩
end
end L2
namespace L2
open PySem PySem.Spec PyProof.Rows
section
variable {X:Cx} {a b c d:Expr} {ta tb tc td:TE} {pos:Pos}
def yn (r r' r2:R2) (ta tb tc td:TE):TE:=fun σ H Q=>ta σ H fun x H1=>tb σ H1 fun y H2=>r x y H2 (mB fun k H3=>if k = true then tc σ H3 fun z H4=>r' y z H4 (mB fun k2 H5=>if k2 = true then td σ H5 fun w' H6=>r2 z w' H6 Q else Q (.bl false) H5) else Q (.bl false) H3)
end
section
variable {X:Cx} {o e:Expr} {es:List Expr} {to:TE} {t:TA} {apos cpos:Pos}
theorem pe_m.extend (ho:PE X o to) (ha:PA X (e :: es) t) (hbase:attributeBase o "extend" X.env (eval o X.env) = eval o X.env:=by rfl)
    (hfew:((backTo cpos (starEach (e :: es) X.env)).all (fun x=>!x.1) && (backToKw cpos (keywordEach [] X.env)).all (fun x=>x.1.isSome) && decide ((e :: es).length + ([]:List Keyword).length + (if ([]:List Keyword).isEmpty then 0 else 1) < 30)) = true:=by rfl)
    (hline:(apos.endLine == cpos.line) = true:=by rfl) (hs:starEach (e :: es) X.env = (false,eval e X.env) :: starEach es X.env:=by rfl) (hplain:(backTo cpos (starEach es X.env)).any (·.1) = false:=by rfl) :
    PE X (.Call (.Attribute o "extend" apos) (e :: es) [] cpos) (tBM X.K "list" oC to t):=lC F.plainAttrs_list F.slot_list_extend F.type_list_extend oP ho ha hbase hfew hline hs hplain
end
end L2
namespace L2
open PySem PySem.Spec PyProof.Rows
section
variable {X:Cx} {pos:Pos}
def Au (K:PySem.W.Frag) (n:Nat) (t:TGs):TG:=fun v σ H Q=>∃ a xs,v = .ref a∧SqL K H a xs∧xs.length = n∧t xs σ H Q
end
end L2
namespace L2
open PySem PySem.Spec PyProof.Rows
section
variable {X:Cx}
def wX (K:PySem.W.Frag):V→V→Hp→VK→Prop:=fun o i H Q=>∃ (p:Addr) (xs:List V) (k:Int) (v:V),o = .ref p∧i = .int k∧SqL K H p xs∧0≤k∧atI xs k = some v∧Q v H
theorem qG:wL X (wX X.K):=by
  intro pins s σ H o i ov iv Q I ro ri h
  obtain ⟨p,xs,k,z,rfl,rfl,hq,h0,he,q⟩:=h
  cases ro
  obtain ⟨t,rfl⟩:=ri
  obtain ⟨its,r,pl,hz⟩:=I.list hq
  obtain ⟨j,h1,h2,h3,h4,h5⟩:=jf he
  obtain ⟨w,ew,rw'⟩:=r.get h2
  have hl:=r.length
  have hn:=gj
  have hj:k.toNat = j:=by
    rw [seqIndex_of h0 h5] at h1
    exact Option.some.inj h1
  have fin:EP X pins σ Q w s:=⟨z,H,I,rw',q⟩
  exact wpAny_getItem_list pl.isList h0 (by lia) (by rw [hj]; simpa using ew) fin
def Aj (K:PySem.W.Frag):R2:=fun x y H Q=>∃ (l b:Addr) (xs:List V),x = .ref l∧y = .ref b∧SqL K H l xs∧SqL K H b xs∧(∀ v ∈ xs,∃ p,v = .ref p)∧Q (.bl false) H
end
end L2
namespace My
open PySem L2 FrM
def zp:Stmt→Expr
  | .Assign _ e _=>e
  | _=>dE
def top (i:Nat):Stmt:=PySem.Challenge.pw_fewspeak_k56_sums_refused.main.body.getD i (.Pass ⟨0,0,0,0⟩)
abbrev zd:Stmt:=top 0
abbrev aU:Stmt:=bv (top 4) 0
abbrev aE:Stmt:=bv (top 6) 0
abbrev aL:Stmt:=top 8
abbrev aQ:Stmt:=top 9
abbrev eE:Stmt:=top 10
abbrev eu:Stmt:=top 11
abbrev eC:Stmt:=top 12
abbrev ft:Stmt:=top 13
abbrev eB:Stmt:=top 14
abbrev cA:Stmt:=top 18
abbrev bq:Stmt:=top 19
abbrev du:Stmt:=top 20
abbrev aC:Stmt:=top 27
abbrev dj:Stmt:=top 28
abbrev di:Stmt:=top 29
abbrev bg:Stmt:=top 30
abbrev aN:Stmt:=top 31
abbrev bp:Stmt:=top 32
abbrev cg:Stmt:=top 33
abbrev cE:Stmt:=top 34
abbrev cf:Stmt:=top 35
abbrev cb:Stmt:=top 40
abbrev bn:Stmt:=top 41
abbrev bf:Stmt:=top 42
abbrev aJ:Stmt:=bv (top 43) 0
abbrev ba:Stmt:=bv (top 44) 0
abbrev vm:Stmt:=bv (top 44) 1
abbrev bh:Stmt:=bv (top 44) 2
abbrev tP:Stmt:=bv (top 44) 3
abbrev v9:Stmt:=bv (top 44) 4
abbrev bj:Stmt:=top 45
abbrev dw:Stmt:=top 47
abbrev cG:Stmt:=top 48
abbrev ce:Stmt:=top 49
abbrev cD:Stmt:=top 50
abbrev dL:Stmt:=top 51
abbrev br:Stmt:=top 52
abbrev aX:Stmt:=top 53
abbrev aF:Stmt:=top 54
abbrev aR:Stmt:=top 55
abbrev be:Stmt:=top 56
abbrev dZ:Stmt:=top 57
abbrev bd:Stmt:=top 58
abbrev cv:Stmt:=top 59
abbrev dO:Stmt:=top 61
abbrev nU:Stmt:=top 62
abbrev cF:Stmt:=top 63
abbrev aO:Stmt:=top 64
abbrev bb:Stmt:=top 65
abbrev aK:Stmt:=top 66
abbrev aW:Stmt:=bv (top 67) 0
abbrev uP:Stmt:=bv (top 67) 1
abbrev aY:Stmt:=bv (top 67) 2
abbrev sk:Stmt:=bv (top 67) 3
abbrev vc:Stmt:=bv (top 67) 4
abbrev aI:Stmt:=bv (top 67) 5
abbrev aP:Stmt:=bv (top 68) 0
abbrev ul:Stmt:=bv (top 68) 1
abbrev qE:Stmt:=bv (top 68) 2
abbrev rF:Stmt:=bv (top 68) 3
abbrev uI:Stmt:=bv (top 68) 4
abbrev aD:Stmt:=bv (top 68) 5
abbrev wC:Stmt:=top 69
abbrev dP:Stmt:=top 71
abbrev bc:Stmt:=top 72
abbrev cz:Stmt:=top 73
abbrev dl:Stmt:=top 74
abbrev dJ:Stmt:=top 76
abbrev eA:Stmt:=top 77
abbrev cy:Stmt:=top 78
abbrev dN:Stmt:=top 79
abbrev wA:Stmt:=top 80
abbrev dk:Stmt:=top 81
abbrev cH:Stmt:=top 82
abbrev dS:Stmt:=top 83
abbrev ci:Stmt:=top 84
abbrev dR:Stmt:=top 85
abbrev dM:Stmt:=top 86
abbrev dr:Stmt:=top 87
abbrev gY:Stmt:=top 88
theorem gA:FnScope ["self", "one", "other"] ["self", "one", "other"] (ac aE):=⟨rfl,rfl,rfl,by decide +kernel,rfl,by decide +kernel,by decide +kernel⟩
theorem sc_greatest_divisor:FnScope ["one", "other"] ["one", "other"] (ac aL):=⟨rfl,rfl,rfl,by decide +kernel,rfl,by decide +kernel,by decide +kernel⟩
theorem sc_least_multiple:FnScope ["numbers", "found", "number"] ["numbers"] (ac aQ):=⟨rfl,rfl,rfl,by decide +kernel,rfl,by decide +kernel,by decide +kernel⟩
theorem sc_share:FnScope ["top", "bottom", "divisor"] ["top", "bottom"] (ac eE):=⟨rfl,rfl,rfl,by decide +kernel,rfl,by decide +kernel,by decide +kernel⟩
theorem rz:FnScope ["one", "other"] ["one", "other"] (ac eu):=⟨rfl,rfl,rfl,by decide +kernel,rfl,by decide +kernel,by decide +kernel⟩
theorem qf:FnScope ["one", "other"] ["one", "other"] (ac eC):=⟨rfl,rfl,rfl,by decide +kernel,rfl,by decide +kernel,by decide +kernel⟩
theorem tM:FnScope ["one", "other"] ["one", "other"] (ac ft):=⟨rfl,rfl,rfl,by decide +kernel,rfl,by decide +kernel,by decide +kernel⟩
theorem sc_total:FnScope ["fractions", "bottom"] ["fractions"] (ac eB):=⟨rfl,rfl,rfl,by decide +kernel,rfl,by decide +kernel,by decide +kernel⟩
theorem lS:FnScope ["thing", "low", "high"] ["thing", "low", "high"] (ac cA):=⟨rfl,rfl,rfl,by decide +kernel,rfl,by decide +kernel,by decide +kernel⟩
theorem jP:FnScope ["text", "signs", "most"] ["text", "signs", "most"] (ac bq):=⟨rfl,rfl,rfl,by decide +kernel,rfl,by decide +kernel,by decide +kernel⟩
theorem mI:FnScope ["thing"] ["thing"] (ac du):=⟨rfl,rfl,rfl,by decide +kernel,rfl,by decide +kernel,by decide +kernel⟩
theorem fW:FnScope ["thing"] ["thing"] (ac aC):=⟨rfl,rfl,rfl,by decide +kernel,rfl,by decide +kernel,by decide +kernel⟩
theorem mZ:FnScope ["thing"] ["thing"] (ac dj):=⟨rfl,rfl,rfl,by decide +kernel,rfl,by decide +kernel,by decide +kernel⟩
theorem mt:FnScope ["thing"] ["thing"] (ac di):=⟨rfl,rfl,rfl,by decide +kernel,rfl,by decide +kernel,by decide +kernel⟩
theorem jl:FnScope ["name", "ahead"] ["name", "ahead"] (ac bg):=⟨rfl,rfl,rfl,by decide +kernel,rfl,by decide +kernel,by decide +kernel⟩
theorem ij:FnScope ["path", "ahead"] ["path", "ahead"] (ac aN):=⟨rfl,rfl,rfl,by decide +kernel,rfl,by decide +kernel,by decide +kernel⟩
theorem sc_need_units:FnScope ["units", "place", "unit"] ["units"] (ac bp):=⟨rfl,rfl,rfl,by decide +kernel,rfl,by decide +kernel,by decide +kernel⟩
theorem kG:FnScope ["units"] ["units"] (ac cg):=⟨rfl,rfl,rfl,by decide +kernel,rfl,by decide +kernel,by decide +kernel⟩
theorem lL:FnScope ["units"] ["units"] (ac cE):=⟨rfl,rfl,rfl,by decide +kernel,rfl,by decide +kernel,by decide +kernel⟩
theorem sc_groups_of:FnScope ["crowd", "groups", "place", "size", "path"] ["crowd"] (ac cf):=⟨rfl,rfl,rfl,by decide +kernel,rfl,by decide +kernel,by decide +kernel⟩
theorem kq:FnScope ["many", "tell"] ["many", "tell"] (ac cb):=⟨rfl,rfl,rfl,by decide +kernel,rfl,by decide +kernel,by decide +kernel⟩
theorem jO:FnScope ["one", "many", "tell"] ["one", "many", "tell"] (ac bn):=⟨rfl,rfl,rfl,by decide +kernel,rfl,by decide +kernel,by decide +kernel⟩
theorem jq:FnScope ["thing", "low", "high"] ["thing", "low", "high"] (ac bf):=⟨rfl,rfl,rfl,by decide +kernel,rfl,by decide +kernel,by decide +kernel⟩
theorem gM:FnScope ["self", "levels"] ["self", "levels"] (ac aJ):=⟨rfl,rfl,rfl,by decide +kernel,rfl,by decide +kernel,by decide +kernel⟩
theorem i5:FnScope ["self", "many"] ["self", "many"] (ac ba):=⟨rfl,rfl,rfl,by decide +kernel,rfl,by decide +kernel,by decide +kernel⟩
abbrev fU:Expr:=(rH (uv (qm bh 2)) 1)
def dh:LamD:=kU ((("Few.matrix" : Str) ++ ".<locals>.") ++ "<lambda>") fU
theorem sc_Few_matrix:FnScope ["self", "crowd", "there", "wanted"] ["self", "crowd"] (ac bh):=⟨rfl,rfl,rfl,by decide +kernel,rfl,by decide +kernel,by decide +kernel⟩
theorem jQ:FnScope ["there", "wanted", "is_same"] ["there", "wanted", "is_same"] (ac bj):=⟨rfl,rfl,rfl,by decide +kernel,rfl,by decide +kernel,by decide +kernel⟩
theorem mY:FnScope ["units", "plan"] ["units", "plan"] (ac dw):=⟨rfl,rfl,rfl,by decide +kernel,rfl,by decide +kernel,by decide +kernel⟩
theorem lI:FnScope ["units"] ["units"] (ac cG):=⟨rfl,rfl,rfl,by decide +kernel,rfl,by decide +kernel,by decide +kernel⟩
theorem sc_mean_told:FnScope ["units", "plan", "some"] ["units", "plan"] (ac ce):=⟨rfl,rfl,rfl,by decide +kernel,rfl,by decide +kernel,by decide +kernel⟩
theorem sc_sum_told:FnScope ["units", "plan", "kept", "rows", "values"] ["units", "plan", "kept"] (ac cD):=⟨rfl,rfl,rfl,by decide +kernel,rfl,by decide +kernel,by decide +kernel⟩
theorem oW:FnScope ["units", "plan"] ["units", "plan"] (ac dL):=⟨rfl,rfl,rfl,by decide +kernel,rfl,by decide +kernel,by decide +kernel⟩
abbrev gw:Expr:=(rH (uv (qm br 0)) 1)
def dD:LamD:=kU ((("spread_by" : Str) ++ ".<locals>.") ++ "<lambda>") gw
theorem sc_spread_by:FnScope ["rows", "values"] ["rows", "values"] (ac br):=⟨rfl,rfl,rfl,by decide +kernel,rfl,by decide +kernel,by decide +kernel⟩
abbrev fO:Expr:=(rH (uv (qm aX 4)) 1)
def iL:LamD:=kU ((("spread_told" : Str) ++ ".<locals>.") ++ "<lambda>") fO
theorem sc_spread_told:FnScope ["units", "plan", "kept", "rows", "values", "apart"] ["units", "plan", "kept"] (ac aX):=⟨rfl,rfl,rfl,by decide +kernel,rfl,by decide +kernel,by decide +kernel⟩
theorem gB:FnScope ["rows"] ["rows"] (ac aF):=⟨rfl,rfl,rfl,by decide +kernel,rfl,by decide +kernel,by decide +kernel⟩
theorem sc_never_together:FnScope ["rows", "some", "one", "other"] ["rows"] (ac aR):=⟨rfl,rfl,rfl,by decide +kernel,rfl,by decide +kernel,by decide +kernel⟩
theorem sc_pairs_total:FnScope ["places", "tell", "parts", "one"] ["places", "tell"] (ac be):=⟨rfl,rfl,rfl,by decide +kernel,rfl,by decide +kernel,by decide +kernel⟩
theorem sc_spread_part:FnScope ["rows", "values", "one", "other", "leaning"] ["rows", "values", "one", "other"] (ac bd):=⟨rfl,rfl,rfl,by decide +kernel,rfl,by decide +kernel,by decide +kernel⟩
theorem pN:FnScope ["crowd"] ["crowd"] (ac dO):=⟨rfl,rfl,rfl,by decide +kernel,rfl,by decide +kernel,by decide +kernel⟩
theorem sc_spots_of:FnScope ["crowd", "groups", "spots", "number", "members", "standing", "member"] ["crowd", "groups"] (ac cF):=⟨rfl,rfl,rfl,by decide +kernel,rfl,by decide +kernel,by decide +kernel⟩
abbrev eN:Expr:=(rH (uv (qm aO 2)) 1)
def cj:LamD:=kU ((("groups_matrix" : Str) ++ ".<locals>.") ++ "<lambda>") eN
theorem sc_groups_matrix:FnScope ["plan", "crowd", "groups", "outer", "blocks", "spots"] ["plan", "crowd", "groups", "outer"] (ac aO):=⟨rfl,rfl,rfl,by decide +kernel,rfl,by decide +kernel,by decide +kernel⟩
theorem sc_spots_chance:FnScope ["blocks", "outer", "one", "other", "group", "place", "its_group", "its_place", "within"] ["blocks", "outer", "one", "other"] (ac bb):=⟨rfl,rfl,rfl,by decide +kernel,rfl,by decide +kernel,by decide +kernel⟩
theorem gO:FnScope ["levels"] ["levels"] (ac aK):=⟨rfl,rfl,rfl,by decide +kernel,rfl,by decide +kernel,by decide +kernel⟩
theorem iM:FnScope ["self", "inside"] ["self", "inside"] (ac aW):=⟨rfl,rfl,rfl,by decide +kernel,rfl,by decide +kernel,by decide +kernel⟩
abbrev fz:Expr:=(rH (zp (qm aY 1)) 1)
def cL:LamD:=kU ((("Each.matrix" : Str) ++ ".<locals>.") ++ "<lambda>") fz
theorem sc_Each_matrix:FnScope ["self", "crowd", "groups", "all_drawn"] ["self", "crowd"] (ac aY):=⟨rfl,rfl,rfl,by decide +kernel,rfl,by decide +kernel,by decide +kernel⟩
theorem gN:FnScope ["self", "levels"] ["self", "levels"] (ac aI):=⟨rfl,rfl,rfl,by decide +kernel,rfl,by decide +kernel,by decide +kernel⟩
theorem ip:FnScope ["self", "outside", "inside"] ["self", "outside", "inside"] (ac aP):=⟨rfl,rfl,rfl,by decide +kernel,rfl,by decide +kernel,by decide +kernel⟩
theorem gv:FnScope ["self", "levels"] ["self", "levels"] (ac aD):=⟨rfl,rfl,rfl,by decide +kernel,rfl,by decide +kernel,by decide +kernel⟩
theorem sc_hidden:FnScope ["units", "plan", "place", "others"] ["units", "plan"] (ac dP):=⟨rfl,rfl,rfl,by decide +kernel,rfl,by decide +kernel,by decide +kernel⟩
theorem sc_never_drawn:FnScope ["rows", "place", "row"] ["rows"] (ac bc):=⟨rfl,rfl,rfl,by decide +kernel,rfl,by decide +kernel,by decide +kernel⟩
theorem sc_unspoken:FnScope ["units", "plan", "rows", "apart", "one", "other"] ["units", "plan"] (ac cz):=⟨rfl,rfl,rfl,by decide +kernel,rfl,by decide +kernel,by decide +kernel⟩
theorem nj:FnScope ["places", "many"] ["places", "many"] (ac dl):=⟨rfl,rfl,rfl,by decide +kernel,rfl,by decide +kernel,by decide +kernel⟩
theorem pA:FnScope ["_law_script", "_law_k"] ["_law_script", "_law_k"] (ac dJ):=⟨rfl,rfl,rfl,by decide +kernel,rfl,by decide +kernel,by decide +kernel⟩
theorem sc_L_mix:FnScope ["_law_cell_here", "_law_k", "_law_number"] ["_law_cell_here", "_law_k"] (ac eA):=⟨rfl,rfl,rfl,by decide +kernel,rfl,by decide +kernel,by decide +kernel⟩
theorem sc_L_digits:FnScope ["_law_cell_here", "_law_number", "_law_k"] ["_law_cell_here"] (ac cy):=⟨rfl,rfl,rfl,by decide +kernel,rfl,by decide +kernel,by decide +kernel⟩
theorem sc_L_take:FnScope ["_law_state", "_law_many", "_law_digit"] ["_law_state", "_law_many"] (ac dN):=⟨rfl,rfl,rfl,by decide +kernel,rfl,by decide +kernel,by decide +kernel⟩
theorem sc_L_units:FnScope ["_law_state", "_law_many", "_law_levels", "_law_letters", "_law_first", "_law_step", "_law_way", "_law_units_here", "_law_k", "_law_name", "_law_value", "_law_size", "_law_path"] ["_law_state", "_law_many", "_law_levels"] (ac dk):=⟨rfl,rfl,rfl,by decide +kernel,rfl,by decide +kernel,by decide +kernel⟩
theorem sc_L_spoilt:FnScope ["_law_units_here", "_law_way", "_law_at", "_law_far", "_law_name", "_law_value", "_law_size", "_law_path", "_law_odd", "_law_others"] ["_law_units_here", "_law_way", "_law_at", "_law_far"] (ac cH):=⟨rfl,rfl,rfl,by decide +kernel,rfl,by decide +kernel,by decide +kernel⟩
theorem sc_L_each:FnScope ["_law_plan", "_law_many", "_law_level"] ["_law_plan", "_law_many"] (ac dS):=⟨rfl,rfl,rfl,by decide +kernel,rfl,by decide +kernel,by decide +kernel⟩
theorem ky:FnScope ["_law_levels", "_law_way", "_law_many"] ["_law_levels", "_law_way", "_law_many"] (ac ci):=⟨rfl,rfl,rfl,by decide +kernel,rfl,by decide +kernel,by decide +kernel⟩
theorem pk:FnScope ["_law_way", "_law_units_here", "_law_plan"] ["_law_way", "_law_units_here", "_law_plan"] (ac dR):=⟨rfl,rfl,rfl,by decide +kernel,rfl,by decide +kernel,by decide +kernel⟩
theorem sc_L_told:FnScope ["_law_way", "_law_units_here", "_law_plan", "_law_found", "_law_caught", "e", "_law_kinds"] ["_law_way", "_law_units_here", "_law_plan"] (ac dM):=⟨rfl,rfl,rfl,by decide +kernel,rfl,by decide +kernel,by decide +kernel⟩
theorem sc_L_right:FnScope ["_law_units_here", "_law_is_listing", "_law_levels", "_law_way", "_law_many", "_law_handed", "_law_plan", "_law_call_here", "_law_found", "_law_due"] ["_law_units_here", "_law_is_listing", "_law_levels", "_law_way", "_law_many"] (ac dr):=⟨rfl,rfl,rfl,by decide +kernel,rfl,by decide +kernel,by decide +kernel⟩
theorem sc_law:FnScope ["_law_script", "_law_state", "_law_levels", "_law_units_here", "_law_cell_here", "_law_way", "_law_many", "_law_spoilt_here"] ["_law_script"] (ac gY):=⟨rfl,rfl,rfl,by decide +kernel,rfl,by decide +kernel,by decide +kernel⟩
theorem g9:bootBuiltins "ValueError" = some (.type "ValueError"):=by decide +kernel
def iN (K:PySem.W.Frag) (D C:Addr):Bool:=PySem.W.mroIn K D (.ref C) == some true
set_option genInjectivity false in
set_option genSizeOf false in
structure Ad where
  f_greatest_divisor:Addr
  d_greatest_divisor:FuncData
  f_least_multiple:Addr
  d_least_multiple:FuncData
  f_share:Addr
  d_share:FuncData
  f_minus:Addr
  d_minus:FuncData
  f_times:Addr
  d_times:FuncData
  f_over:Addr
  d_over:FuncData
  f_total:Addr
  d_total:FuncData
  f_is_whole:Addr
  d_is_whole:FuncData
  f_is_made_of:Addr
  d_is_made_of:FuncData
  f_is_name:Addr
  d_is_name:FuncData
  f_has_listing_length:Addr
  d_has_listing_length:FuncData
  f_is_path:Addr
  d_is_path:FuncData
  f_is_unit:Addr
  d_is_unit:FuncData
  f_is_new_name:Addr
  d_is_new_name:FuncData
  f_has_path_length:Addr
  d_has_path_length:FuncData
  f_need_units:Addr
  d_need_units:FuncData
  f_values_of:Addr
  d_values_of:FuncData
  f_crowd_of:Addr
  d_crowd_of:FuncData
  f_groups_of:Addr
  d_groups_of:FuncData
  f_matrix_by:Addr
  d_matrix_by:FuncData
  f_matrix_row:Addr
  d_matrix_row:FuncData
  f_need_number:Addr
  d_need_number:FuncData
  f_few_chance:Addr
  d_few_chance:FuncData
  f_chances:Addr
  d_chances:FuncData
  f_true_sum:Addr
  d_true_sum:FuncData
  f_mean_told:Addr
  d_mean_told:FuncData
  f_sum_told:Addr
  d_sum_told:FuncData
  f_spread:Addr
  d_spread:FuncData
  f_spread_by:Addr
  d_spread_by:FuncData
  f_spread_told:Addr
  d_spread_told:FuncData
  f_places_with_share:Addr
  d_places_with_share:FuncData
  f_never_together:Addr
  d_never_together:FuncData
  f_pairs_total:Addr
  d_pairs_total:FuncData
  f_raised:Addr
  d_raised:FuncData
  f_spread_part:Addr
  d_spread_part:FuncData
  f_told_part:Addr
  d_told_part:FuncData
  f_parted:Addr
  d_parted:FuncData
  f_spots_of:Addr
  d_spots_of:FuncData
  f_groups_matrix:Addr
  d_groups_matrix:FuncData
  f_spots_chance:Addr
  d_spots_chance:FuncData
  f_need_group_names:Addr
  d_need_group_names:FuncData
  f_hidden:Addr
  d_hidden:FuncData
  f_never_drawn:Addr
  d_never_drawn:FuncData
  f_unspoken:Addr
  d_unspoken:FuncData
  f_ones_at:Addr
  d_ones_at:FuncData
  f_L_cell:Addr
  d_L_cell:FuncData
  f_L_mix:Addr
  d_L_mix:FuncData
  f_L_digits:Addr
  d_L_digits:FuncData
  f_L_take:Addr
  d_L_take:FuncData
  f_L_units:Addr
  d_L_units:FuncData
  f_L_spoilt:Addr
  d_L_spoilt:FuncData
  f_L_each:Addr
  d_L_each:FuncData
  f_L_plan_of:Addr
  d_L_plan_of:FuncData
  f_L_call:Addr
  d_L_call:FuncData
  f_L_told:Addr
  d_L_told:FuncData
  f_L_right:Addr
  d_L_right:FuncData
  f_law:Addr
  d_law:FuncData
  c_SpeakError:Addr
  c_NoUnits:Addr
  c_NoPlan:Addr
  i_NoPlan:Addr
  e_NoPlan:FuncData
  c_NoLevel:Addr
  c_NoSpread:Addr
  i_NoSpread:Addr
  e_NoSpread:FuncData
  c_Plan:Addr
  c_Few:Addr
  i_Few:Addr
  e_Few:FuncData
  c_Each:Addr
  i_Each:Addr
  e_Each:FuncData
  c_First:Addr
  i_First:Addr
  e_First:FuncData
  x_Few_matrix:Addr
  y_Few_matrix:FuncData
  x_Each_matrix:Addr
  y_Each_matrix:FuncData
  x_Plan_need_levels:Addr
  y_Plan_need_levels:FuncData
  x_Each_need_levels:Addr
  y_Each_need_levels:FuncData
  x_First_need_levels:Addr
  y_First_need_levels:FuncData
  k_NOUGHT:Addr
  k_WHOLE:Addr
  lc_spread_told:Addr
  lp_spread_told:Addr
  lc_spread_by:Addr
  lp_spread_by:Addr
  lc_groups_matrix:Addr
  lp_groups_matrix:Addr
  lc_Each_matrix:Addr
  lp_Each_matrix:Addr
  lc_Few_matrix:Addr
  lp_Few_matrix:Addr
abbrev eL:List (Pos×Str):=[(qI fO,((("spread_told" : Str) ++ ".<locals>.") ++ "<lambda>"))]
theorem jE:(eL).Pairwise fun x y=>¬ (x.1.line = y.1.line∧x.1.col = y.1.col):=by decide +kernel
abbrev fR:List (Pos×Str):=[(qI gw,((("spread_by" : Str) ++ ".<locals>.") ++ "<lambda>"))]
theorem kH:(fR).Pairwise fun x y=>¬ (x.1.line = y.1.line∧x.1.col = y.1.col):=by decide +kernel
abbrev d9:List (Pos×Str):=[(qI eN,((("groups_matrix" : Str) ++ ".<locals>.") ++ "<lambda>"))]
theorem iP:(d9).Pairwise fun x y=>¬ (x.1.line = y.1.line∧x.1.col = y.1.col):=by decide +kernel
abbrev eV:List (Pos×Str):=[(qI fz,((("Each.matrix" : Str) ++ ".<locals>.") ++ "<lambda>"))]
theorem jA:(eV).Pairwise fun x y=>¬ (x.1.line = y.1.line∧x.1.col = y.1.col):=by decide +kernel
abbrev fm:List (Pos×Str):=[(qI fU,((("Few.matrix" : Str) ++ ".<locals>.") ++ "<lambda>"))]
theorem jK:(fm).Pairwise fun x y=>¬ (x.1.line = y.1.line∧x.1.col = y.1.col):=by decide +kernel
def tabs (a:Ad):pq:=[(a.lp_spread_told,eL),(a.lp_spread_by,fR),(a.lp_groups_matrix,d9),(a.lp_Each_matrix,eV),(a.lp_Few_matrix,fm)]
theorem jB (a:Ad):(a.lp_spread_told,eL) ∈ tabs a:=(.head _)
theorem kz (a:Ad):(a.lp_spread_by,fR) ∈ tabs a:=(.tail _ (.head _))
theorem iE (a:Ad):(a.lp_groups_matrix,d9) ∈ tabs a:=(.tail _ (.tail _ (.head _)))
theorem jg (a:Ad):(a.lp_Each_matrix,eV) ∈ tabs a:=(.tail _ (.tail _ (.tail _ (.head _))))
theorem jR (a:Ad):(a.lp_Few_matrix,fm) ∈ tabs a:=(.tail _ (.tail _ (.tail _ (.tail _ (.head _)))))
structure Txt (K:PySem.W.Frag) (mg:Str→Option Value) (a:Ad):Prop where
  lcd_spread_told:a.d_spread_told.code = .ref a.lc_spread_told
  lch_spread_told:PySem.W.codeHdIn K a.lc_spread_told a.lp_spread_told = true
  lcd_spread_by:a.d_spread_by.code = .ref a.lc_spread_by
  lch_spread_by:PySem.W.codeHdIn K a.lc_spread_by a.lp_spread_by = true
  lcd_groups_matrix:a.d_groups_matrix.code = .ref a.lc_groups_matrix
  lch_groups_matrix:PySem.W.codeHdIn K a.lc_groups_matrix a.lp_groups_matrix = true
  lcd_Each_matrix:a.y_Each_matrix.code = .ref a.lc_Each_matrix
  lch_Each_matrix:PySem.W.codeHdIn K a.lc_Each_matrix a.lp_Each_matrix = true
  lcd_Few_matrix:a.y_Few_matrix.code = .ref a.lc_Few_matrix
  lch_Few_matrix:PySem.W.codeHdIn K a.lc_Few_matrix a.lp_Few_matrix = true
  tnd:((tabs a).map (·.1)).Nodup
  F_greatest_divisor:Fun K "greatest_divisor" "greatest_divisor" aL a.f_greatest_divisor a.d_greatest_divisor
  B_greatest_divisor:Binds K a.d_greatest_divisor ["one", "other"] []
  m_greatest_divisor:mg "greatest_divisor" = some (.ref a.f_greatest_divisor)
  F_least_multiple:Fun K "least_multiple" "least_multiple" aQ a.f_least_multiple a.d_least_multiple
  B_least_multiple:Binds K a.d_least_multiple ["numbers"] []
  m_least_multiple:mg "least_multiple" = some (.ref a.f_least_multiple)
  F_share:Fun K "share" "share" eE a.f_share a.d_share
  B_share:Binds K a.d_share ["top", "bottom"] []
  m_share:mg "share" = some (.ref a.f_share)
  F_minus:Fun K "minus" "minus" eu a.f_minus a.d_minus
  B_minus:Binds K a.d_minus ["one", "other"] []
  m_minus:mg "minus" = some (.ref a.f_minus)
  F_times:Fun K "times" "times" eC a.f_times a.d_times
  B_times:Binds K a.d_times ["one", "other"] []
  m_times:mg "times" = some (.ref a.f_times)
  F_over:Fun K "over" "over" ft a.f_over a.d_over
  B_over:Binds K a.d_over ["one", "other"] []
  m_over:mg "over" = some (.ref a.f_over)
  F_total:Fun K "total" "total" eB a.f_total a.d_total
  B_total:Binds K a.d_total ["fractions"] []
  m_total:mg "total" = some (.ref a.f_total)
  F_is_whole:Fun K "is_whole" "is_whole" cA a.f_is_whole a.d_is_whole
  B_is_whole:Binds K a.d_is_whole ["thing", "low", "high"] []
  m_is_whole:mg "is_whole" = some (.ref a.f_is_whole)
  F_is_made_of:Fun K "is_made_of" "is_made_of" bq a.f_is_made_of a.d_is_made_of
  B_is_made_of:Binds K a.d_is_made_of ["text", "signs", "most"] []
  m_is_made_of:mg "is_made_of" = some (.ref a.f_is_made_of)
  F_is_name:Fun K "is_name" "is_name" du a.f_is_name a.d_is_name
  B_is_name:Binds K a.d_is_name ["thing"] []
  m_is_name:mg "is_name" = some (.ref a.f_is_name)
  F_has_listing_length:Fun K "has_listing_length" "has_listing_length" aC a.f_has_listing_length a.d_has_listing_length
  B_has_listing_length:Binds K a.d_has_listing_length ["thing"] []
  m_has_listing_length:mg "has_listing_length" = some (.ref a.f_has_listing_length)
  F_is_path:Fun K "is_path" "is_path" dj a.f_is_path a.d_is_path
  B_is_path:Binds K a.d_is_path ["thing"] []
  m_is_path:mg "is_path" = some (.ref a.f_is_path)
  F_is_unit:Fun K "is_unit" "is_unit" di a.f_is_unit a.d_is_unit
  B_is_unit:Binds K a.d_is_unit ["thing"] []
  m_is_unit:mg "is_unit" = some (.ref a.f_is_unit)
  F_is_new_name:Fun K "is_new_name" "is_new_name" bg a.f_is_new_name a.d_is_new_name
  B_is_new_name:Binds K a.d_is_new_name ["name", "ahead"] []
  m_is_new_name:mg "is_new_name" = some (.ref a.f_is_new_name)
  F_has_path_length:Fun K "has_path_length" "has_path_length" aN a.f_has_path_length a.d_has_path_length
  B_has_path_length:Binds K a.d_has_path_length ["path", "ahead"] []
  m_has_path_length:mg "has_path_length" = some (.ref a.f_has_path_length)
  F_need_units:Fun K "need_units" "need_units" bp a.f_need_units a.d_need_units
  B_need_units:Binds K a.d_need_units ["units"] []
  m_need_units:mg "need_units" = some (.ref a.f_need_units)
  F_values_of:Fun K "values_of" "values_of" cg a.f_values_of a.d_values_of
  B_values_of:Binds K a.d_values_of ["units"] []
  m_values_of:mg "values_of" = some (.ref a.f_values_of)
  F_crowd_of:Fun K "crowd_of" "crowd_of" cE a.f_crowd_of a.d_crowd_of
  B_crowd_of:Binds K a.d_crowd_of ["units"] []
  m_crowd_of:mg "crowd_of" = some (.ref a.f_crowd_of)
  F_groups_of:Fun K "groups_of" "groups_of" cf a.f_groups_of a.d_groups_of
  B_groups_of:Binds K a.d_groups_of ["crowd"] []
  m_groups_of:mg "groups_of" = some (.ref a.f_groups_of)
  F_matrix_by:Fun K "matrix_by" "matrix_by" cb a.f_matrix_by a.d_matrix_by
  B_matrix_by:Binds K a.d_matrix_by ["many", "tell"] []
  m_matrix_by:mg "matrix_by" = some (.ref a.f_matrix_by)
  F_matrix_row:Fun K "matrix_row" "matrix_row" bn a.f_matrix_row a.d_matrix_row
  B_matrix_row:Binds K a.d_matrix_row ["one", "many", "tell"] []
  m_matrix_row:mg "matrix_row" = some (.ref a.f_matrix_row)
  F_need_number:Fun K "need_number" "need_number" bf a.f_need_number a.d_need_number
  B_need_number:Binds K a.d_need_number ["thing", "low", "high"] []
  m_need_number:mg "need_number" = some (.ref a.f_need_number)
  F_few_chance:Fun K "few_chance" "few_chance" bj a.f_few_chance a.d_few_chance
  B_few_chance:Binds K a.d_few_chance ["there", "wanted", "is_same"] []
  m_few_chance:mg "few_chance" = some (.ref a.f_few_chance)
  F_chances:Fun K "chances" "chances" dw a.f_chances a.d_chances
  B_chances:Binds K a.d_chances ["units", "plan"] []
  m_chances:mg "chances" = some (.ref a.f_chances)
  F_true_sum:Fun K "true_sum" "true_sum" cG a.f_true_sum a.d_true_sum
  B_true_sum:Binds K a.d_true_sum ["units"] []
  m_true_sum:mg "true_sum" = some (.ref a.f_true_sum)
  F_mean_told:Fun K "mean_told" "mean_told" ce a.f_mean_told a.d_mean_told
  B_mean_told:Binds K a.d_mean_told ["units", "plan"] []
  m_mean_told:mg "mean_told" = some (.ref a.f_mean_told)
  F_sum_told:Fun K "sum_told" "sum_told" cD a.f_sum_told a.d_sum_told
  B_sum_told:Binds K a.d_sum_told ["units", "plan", "kept"] []
  m_sum_told:mg "sum_told" = some (.ref a.f_sum_told)
  F_spread:Fun K "spread" "spread" dL a.f_spread a.d_spread
  B_spread:Binds K a.d_spread ["units", "plan"] []
  m_spread:mg "spread" = some (.ref a.f_spread)
  F_spread_by:Fun K "spread_by" "spread_by" br a.f_spread_by a.d_spread_by
  B_spread_by:Binds K a.d_spread_by ["rows", "values"] []
  m_spread_by:mg "spread_by" = some (.ref a.f_spread_by)
  F_spread_told:Fun K "spread_told" "spread_told" aX a.f_spread_told a.d_spread_told
  B_spread_told:Binds K a.d_spread_told ["units", "plan", "kept"] []
  m_spread_told:mg "spread_told" = some (.ref a.f_spread_told)
  F_places_with_share:Fun K "places_with_share" "places_with_share" aF a.f_places_with_share a.d_places_with_share
  B_places_with_share:Binds K a.d_places_with_share ["rows"] []
  m_places_with_share:mg "places_with_share" = some (.ref a.f_places_with_share)
  F_never_together:Fun K "never_together" "never_together" aR a.f_never_together a.d_never_together
  B_never_together:Binds K a.d_never_together ["rows"] []
  m_never_together:mg "never_together" = some (.ref a.f_never_together)
  F_pairs_total:Fun K "pairs_total" "pairs_total" be a.f_pairs_total a.d_pairs_total
  B_pairs_total:Binds K a.d_pairs_total ["places", "tell"] []
  m_pairs_total:mg "pairs_total" = some (.ref a.f_pairs_total)
  F_raised:Fun K "raised" "raised" dZ a.f_raised a.d_raised
  B_raised:Binds K a.d_raised ["rows", "values", "place"] []
  m_raised:mg "raised" = some (.ref a.f_raised)
  F_spread_part:Fun K "spread_part" "spread_part" bd a.f_spread_part a.d_spread_part
  B_spread_part:Binds K a.d_spread_part ["rows", "values", "one", "other"] []
  m_spread_part:mg "spread_part" = some (.ref a.f_spread_part)
  F_told_part:Fun K "told_part" "told_part" cv a.f_told_part a.d_told_part
  B_told_part:Binds K a.d_told_part ["rows", "values", "one", "other"] []
  m_told_part:mg "told_part" = some (.ref a.f_told_part)
  F_parted:Fun K "parted" "parted" dO a.f_parted a.d_parted
  B_parted:Binds K a.d_parted ["crowd"] []
  m_parted:mg "parted" = some (.ref a.f_parted)
  F_spots_of:Fun K "spots_of" "spots_of" cF a.f_spots_of a.d_spots_of
  B_spots_of:Binds K a.d_spots_of ["crowd", "groups"] []
  m_spots_of:mg "spots_of" = some (.ref a.f_spots_of)
  F_groups_matrix:Fun K "groups_matrix" "groups_matrix" aO a.f_groups_matrix a.d_groups_matrix
  B_groups_matrix:Binds K a.d_groups_matrix ["plan", "crowd", "groups", "outer"] []
  m_groups_matrix:mg "groups_matrix" = some (.ref a.f_groups_matrix)
  F_spots_chance:Fun K "spots_chance" "spots_chance" bb a.f_spots_chance a.d_spots_chance
  B_spots_chance:Binds K a.d_spots_chance ["blocks", "outer", "one", "other"] []
  m_spots_chance:mg "spots_chance" = some (.ref a.f_spots_chance)
  F_need_group_names:Fun K "need_group_names" "need_group_names" aK a.f_need_group_names a.d_need_group_names
  B_need_group_names:Binds K a.d_need_group_names ["levels"] []
  m_need_group_names:mg "need_group_names" = some (.ref a.f_need_group_names)
  F_hidden:Fun K "hidden" "hidden" dP a.f_hidden a.d_hidden
  B_hidden:Binds K a.d_hidden ["units", "plan"] []
  m_hidden:mg "hidden" = some (.ref a.f_hidden)
  F_never_drawn:Fun K "never_drawn" "never_drawn" bc a.f_never_drawn a.d_never_drawn
  B_never_drawn:Binds K a.d_never_drawn ["rows"] []
  m_never_drawn:mg "never_drawn" = some (.ref a.f_never_drawn)
  F_unspoken:Fun K "unspoken" "unspoken" cz a.f_unspoken a.d_unspoken
  B_unspoken:Binds K a.d_unspoken ["units", "plan"] []
  m_unspoken:mg "unspoken" = some (.ref a.f_unspoken)
  F_ones_at:Fun K "ones_at" "ones_at" dl a.f_ones_at a.d_ones_at
  B_ones_at:Binds K a.d_ones_at ["places", "many"] []
  m_ones_at:mg "ones_at" = some (.ref a.f_ones_at)
  F_L_cell:Fun K "_law_cell" "_law_cell" dJ a.f_L_cell a.d_L_cell
  B_L_cell:Binds K a.d_L_cell ["_law_script", "_law_k"] []
  m_L_cell:mg "_law_cell" = some (.ref a.f_L_cell)
  F_L_mix:Fun K "_law_mix" "_law_mix" eA a.f_L_mix a.d_L_mix
  B_L_mix:Binds K a.d_L_mix ["_law_cell_here", "_law_k"] []
  m_L_mix:mg "_law_mix" = some (.ref a.f_L_mix)
  F_L_digits:Fun K "_law_digits" "_law_digits" cy a.f_L_digits a.d_L_digits
  B_L_digits:Binds K a.d_L_digits ["_law_cell_here"] []
  m_L_digits:mg "_law_digits" = some (.ref a.f_L_digits)
  F_L_take:Fun K "_law_take" "_law_take" dN a.f_L_take a.d_L_take
  B_L_take:Binds K a.d_L_take ["_law_state", "_law_many"] []
  m_L_take:mg "_law_take" = some (.ref a.f_L_take)
  F_L_units:Fun K "_law_units" "_law_units" dk a.f_L_units a.d_L_units
  B_L_units:Binds K a.d_L_units ["_law_state", "_law_many", "_law_levels"] []
  m_L_units:mg "_law_units" = some (.ref a.f_L_units)
  F_L_spoilt:Fun K "_law_spoilt" "_law_spoilt" cH a.f_L_spoilt a.d_L_spoilt
  B_L_spoilt:Binds K a.d_L_spoilt ["_law_units_here", "_law_way", "_law_at", "_law_far"] []
  m_L_spoilt:mg "_law_spoilt" = some (.ref a.f_L_spoilt)
  F_L_each:Fun K "_law_each" "_law_each" dS a.f_L_each a.d_L_each
  B_L_each:Binds K a.d_L_each ["_law_plan", "_law_many"] []
  m_L_each:mg "_law_each" = some (.ref a.f_L_each)
  F_L_plan_of:Fun K "_law_plan_of" "_law_plan_of" ci a.f_L_plan_of a.d_L_plan_of
  B_L_plan_of:Binds K a.d_L_plan_of ["_law_levels", "_law_way", "_law_many"] []
  m_L_plan_of:mg "_law_plan_of" = some (.ref a.f_L_plan_of)
  F_L_call:Fun K "_law_call" "_law_call" dR a.f_L_call a.d_L_call
  B_L_call:Binds K a.d_L_call ["_law_way", "_law_units_here", "_law_plan"] []
  m_L_call:mg "_law_call" = some (.ref a.f_L_call)
  F_L_told:Fun K "_law_told" "_law_told" dM a.f_L_told a.d_L_told
  B_L_told:Binds K a.d_L_told ["_law_way", "_law_units_here", "_law_plan"] []
  m_L_told:mg "_law_told" = some (.ref a.f_L_told)
  F_L_right:Fun K "_law_right" "_law_right" dr a.f_L_right a.d_L_right
  B_L_right:Binds K a.d_L_right ["_law_units_here", "_law_is_listing", "_law_levels", "_law_way", "_law_many"] []
  m_L_right:mg "_law_right" = some (.ref a.f_L_right)
  F_law:Fun K "law" "law" gY a.f_law a.d_law
  B_law:Binds K a.d_law ["_law_script"] []
  m_law:mg "law" = some (.ref a.f_law)
  g_LETTERS:∃ u,mg "LETTERS" = some u∧RelV (.str "abcdefghijklmnopqrstuvwxyz") u
  g_MOST_LETTERS:∃ u,mg "MOST_LETTERS" = some u∧RelV (.int 8) u
  g_MOST_UNITS:∃ u,mg "MOST_UNITS" = some u∧RelV (.int 24) u
  g_MOST_LEVELS:∃ u,mg "MOST_LEVELS" = some u∧RelV (.int 3) u
  g_VALUE_BOUND:∃ u,mg "VALUE_BOUND" = some u∧RelV (.int 1000000000) u
  g_MOST_SIZE:∃ u,mg "MOST_SIZE" = some u∧RelV (.int 1000000) u
  g_UNIT_PARTS:∃ u,mg "UNIT_PARTS" = some u∧RelV (.int 4) u
  g_MOST_MANY:∃ u,mg "MOST_MANY" = some u∧RelV (.int 24) u
  g_NOUGHT:∃ u,mg "NOUGHT" = some u∧RelV (.ref a.k_NOUGHT) u
  t_NOUGHT:js K a.k_NOUGHT [(.int 0),(.int 1)] = true
  g_WHOLE:∃ u,mg "WHOLE" = some u∧RelV (.ref a.k_WHOLE) u
  t_WHOLE:js K a.k_WHOLE [(.int 1),(.int 1)] = true
  mc_SpeakError:mg "SpeakError" = some (.ref a.c_SpeakError)
  g_SpeakError:∃ u,mg "SpeakError" = some u∧RelV (.ref a.c_SpeakError) u
  kc_SpeakError:PySem.W.keepIn K (.ref a.c_SpeakError) = true
  xc_SpeakError:XCls K a.c_SpeakError
  xh_SpeakError:XHd K a.c_SpeakError
  xi_SpeakError:xIn K a.c_SpeakError none = true
  mc_NoUnits:mg "NoUnits" = some (.ref a.c_NoUnits)
  g_NoUnits:∃ u,mg "NoUnits" = some u∧RelV (.ref a.c_NoUnits) u
  kc_NoUnits:PySem.W.keepIn K (.ref a.c_NoUnits) = true
  xc_NoUnits:XCls K a.c_NoUnits
  xh_NoUnits:XHd K a.c_NoUnits
  xi_NoUnits:xIn K a.c_NoUnits none = true
  mc_NoPlan:mg "NoPlan" = some (.ref a.c_NoPlan)
  g_NoPlan:∃ u,mg "NoPlan" = some u∧RelV (.ref a.c_NoPlan) u
  kc_NoPlan:PySem.W.keepIn K (.ref a.c_NoPlan) = true
  xc_NoPlan:XCls K a.c_NoPlan
  xh_NoPlan:XHd K a.c_NoPlan
  xi_NoPlan:xIn K a.c_NoPlan (some (.ref a.i_NoPlan)) = true
  fn_NoPlan:PySem.W.isFn K (.ref a.i_NoPlan) = true
  Fi_NoPlan:Fun K "__init__" "NoPlan.__init__" aU a.i_NoPlan a.e_NoPlan
  Bi_NoPlan:Binds K a.e_NoPlan ["self", "place"] []
  sx_NoPlan_place:∃ cd,XSet K a.c_NoPlan "place" cd
  mc_NoLevel:mg "NoLevel" = some (.ref a.c_NoLevel)
  g_NoLevel:∃ u,mg "NoLevel" = some u∧RelV (.ref a.c_NoLevel) u
  kc_NoLevel:PySem.W.keepIn K (.ref a.c_NoLevel) = true
  xc_NoLevel:XCls K a.c_NoLevel
  xh_NoLevel:XHd K a.c_NoLevel
  xi_NoLevel:xIn K a.c_NoLevel none = true
  mc_NoSpread:mg "NoSpread" = some (.ref a.c_NoSpread)
  g_NoSpread:∃ u,mg "NoSpread" = some u∧RelV (.ref a.c_NoSpread) u
  kc_NoSpread:PySem.W.keepIn K (.ref a.c_NoSpread) = true
  xc_NoSpread:XCls K a.c_NoSpread
  xh_NoSpread:XHd K a.c_NoSpread
  xi_NoSpread:xIn K a.c_NoSpread (some (.ref a.i_NoSpread)) = true
  fn_NoSpread:PySem.W.isFn K (.ref a.i_NoSpread) = true
  Fi_NoSpread:Fun K "__init__" "NoSpread.__init__" aE a.i_NoSpread a.e_NoSpread
  Bi_NoSpread:Binds K a.e_NoSpread ["self", "one", "other"] []
  sx_NoSpread_one:∃ cd,XSet K a.c_NoSpread "one" cd
  sx_NoSpread_other:∃ cd,XSet K a.c_NoSpread "other" cd
  mc_Plan:mg "Plan" = some (.ref a.c_Plan)
  g_Plan:∃ u,mg "Plan" = some u∧RelV (.ref a.c_Plan) u
  cl_Plan:Cls K a.c_Plan
  ty_Plan:∀ H x dx fs,H x = some (.ins a.c_Plan dx fs)→TyOf K H (.ref x) (.ref a.c_Plan)
  mc_Few:mg "Few" = some (.ref a.c_Few)
  g_Few:∃ u,mg "Few" = some u∧RelV (.ref a.c_Few) u
  cl_Few:Cls K a.c_Few
  ty_Few:∀ H x dx fs,H x = some (.ins a.c_Few dx fs)→TyOf K H (.ref x) (.ref a.c_Few)
  mk_Few:Mk K a.c_Few a.i_Few
  Fi_Few:Fun K "__init__" "Few.__init__" ba a.i_Few a.e_Few
  Bi_Few:Binds K a.e_Few ["self", "many"] []
  na_Few_many:NoAttr K a.c_Few "many"
  mt_Few_matrix:Meth K a.c_Few "matrix" a.x_Few_matrix
  mt_Few_need_levels:Meth K a.c_Few "need_levels" a.x_Plan_need_levels
  mc_Each:mg "Each" = some (.ref a.c_Each)
  g_Each:∃ u,mg "Each" = some u∧RelV (.ref a.c_Each) u
  cl_Each:Cls K a.c_Each
  ty_Each:∀ H x dx fs,H x = some (.ins a.c_Each dx fs)→TyOf K H (.ref x) (.ref a.c_Each)
  mk_Each:Mk K a.c_Each a.i_Each
  Fi_Each:Fun K "__init__" "Each.__init__" aW a.i_Each a.e_Each
  Bi_Each:Binds K a.e_Each ["self", "inside"] []
  na_Each_inside:NoAttr K a.c_Each "inside"
  mt_Each_matrix:Meth K a.c_Each "matrix" a.x_Each_matrix
  mt_Each_need_levels:Meth K a.c_Each "need_levels" a.x_Each_need_levels
  mc_First:mg "First" = some (.ref a.c_First)
  g_First:∃ u,mg "First" = some u∧RelV (.ref a.c_First) u
  cl_First:Cls K a.c_First
  ty_First:∀ H x dx fs,H x = some (.ins a.c_First dx fs)→TyOf K H (.ref x) (.ref a.c_First)
  mk_First:Mk K a.c_First a.i_First
  Fi_First:Fun K "__init__" "First.__init__" aP a.i_First a.e_First
  Bi_First:Binds K a.e_First ["self", "outside", "inside"] []
  na_First_outside:NoAttr K a.c_First "outside"
  na_First_inside:NoAttr K a.c_First "inside"
  mt_First_need_levels:Meth K a.c_First "need_levels" a.x_First_need_levels
  F_Few_matrix:Fun K "matrix" "Few.matrix" bh a.x_Few_matrix a.y_Few_matrix
  B_Few_matrix:Binds K a.y_Few_matrix ["self", "crowd"] []
  F_Each_matrix:Fun K "matrix" "Each.matrix" aY a.x_Each_matrix a.y_Each_matrix
  B_Each_matrix:Binds K a.y_Each_matrix ["self", "crowd"] []
  F_Plan_need_levels:Fun K "need_levels" "Plan.need_levels" aJ a.x_Plan_need_levels a.y_Plan_need_levels
  B_Plan_need_levels:Binds K a.y_Plan_need_levels ["self", "levels"] []
  F_Each_need_levels:Fun K "need_levels" "Each.need_levels" aI a.x_Each_need_levels a.y_Each_need_levels
  B_Each_need_levels:Binds K a.y_Each_need_levels ["self", "levels"] []
  F_First_need_levels:Fun K "need_levels" "First.need_levels" aD a.x_First_need_levels a.y_First_need_levels
  B_First_need_levels:Binds K a.y_First_need_levels ["self", "levels"] []
  mNoUnits:iN K a.c_NoUnits a.c_SpeakError = true
  vNoUnits:PySem.W.kitOne K (.ref a.c_NoUnits) (.type "ValueError") = some true
  kNoUnitsNoUnits:PySem.W.kitOne K (.ref a.c_NoUnits) (.ref a.c_NoUnits) = some true
  kNoUnitsNoLevel:PySem.W.kitOne K (.ref a.c_NoUnits) (.ref a.c_NoLevel) = some false
  kNoUnitsNoSpread:PySem.W.kitOne K (.ref a.c_NoUnits) (.ref a.c_NoSpread) = some false
  mNoLevel:iN K a.c_NoLevel a.c_SpeakError = true
  vNoLevel:PySem.W.kitOne K (.ref a.c_NoLevel) (.type "ValueError") = some true
  kNoLevelNoUnits:PySem.W.kitOne K (.ref a.c_NoLevel) (.ref a.c_NoUnits) = some false
  kNoLevelNoLevel:PySem.W.kitOne K (.ref a.c_NoLevel) (.ref a.c_NoLevel) = some true
  kNoLevelNoSpread:PySem.W.kitOne K (.ref a.c_NoLevel) (.ref a.c_NoSpread) = some false
  mNoSpread:iN K a.c_NoSpread a.c_SpeakError = true
  vNoSpread:PySem.W.kitOne K (.ref a.c_NoSpread) (.type "ValueError") = some true
  kNoSpreadNoUnits:PySem.W.kitOne K (.ref a.c_NoSpread) (.ref a.c_NoUnits) = some false
  kNoSpreadNoLevel:PySem.W.kitOne K (.ref a.c_NoSpread) (.ref a.c_NoLevel) = some false
  kNoSpreadNoSpread:PySem.W.kitOne K (.ref a.c_NoSpread) (.ref a.c_NoSpread) = some true
  z_ValueError:mg "ValueError" = none
  z_abs:mg "abs" = none
  z_all:mg "all" = none
  z_bool:mg "bool" = none
  z_enumerate:mg "enumerate" = none
  z_int:mg "int" = none
  z_isinstance:mg "isinstance" = none
  z_len:mg "len" = none
  z_list:mg "list" = none
  z_max:mg "max" = none
  z_min:mg "min" = none
  z_range:mg "range" = none
  z_str:mg "str" = none
  z_sum:mg "sum" = none
  z_tuple:mg "tuple" = none
  bl:∀ (s:Shared) (u:Value),BindsTo s a.d_law ⟨[u],[]⟩ [("_law_script",u)]
def sg:Sp:=fun vs H Q _=>∃ (t S:Str) (m:Int),vs = [.str t,.str S,.int m]∧t.length≤sizeLine∧∀ H',Same H H'→Q (.bl (jh t S m)) H'
inductive Cl
  | int (i:Int)
  | str (t:Str)
  | tup (xs:List V)
  | other
inductive IsC (H:Hp):V→Cl→Prop
  | int (i:Int):IsC H (.int i) (.int i)
  | str (t:Str) (h:t.length≤sizeLine):IsC H (.str t) (.str t)
  | tup (p:Addr) (xs:List V) (e:H p = some (.tup xs)):IsC H (.ref p) (.tup xs)
  | bl (b:Bool):IsC H (.bl b) .other
  | non:IsC H .non .other
  | lst (p:Addr) (xs:List V) (e:H p = some (.lst xs)):IsC H (.ref p) .other
  | dK (p:Addr) (kvs:List (Key×V)) (e:H p = some (.dK kvs)):IsC H (.ref p) .other
theorem IsC.same {H H':Hp} {x:V} {c:Cl} (s:Same H H') (h:IsC H x c):IsC H' x c:=by
  cases h with
  | int i=>exact .int i
  | str t h=>exact .str t h
  | tup p xs e=>exact .tup p xs (s _ _ e)
  | bl b=>exact .bl b
  | non=>exact .non
  | lst p xs e=>exact .lst p xs (s _ _ e)
  | dK p kvs e=>exact .dK p kvs (s _ _ e)
abbrev AllC (H:Hp):List Cl→List V→Prop:=PySem.Paired fun c x=>IsC H x c
theorem AllC.same {H H':Hp} (s:Same H H'):∀ {cs:List Cl} {xs:List V},AllC H cs xs→AllC H' cs xs
  | _,_,.nil=>.nil
  | _,_,.cons r t=>.cons (r.same s) (AllC.same s t)
theorem AllC.get {H:Hp}:∀ {cs:List Cl} {xs:List V} {i:Nat} {x:V},AllC H cs xs→xs[i]? = some x→∃ c,cs[i]? = some c∧IsC H x c
  | _,_,_,_,.nil,h=>by cases h
  | _,_,0,_,.cons r _,h=>⟨_,rfl,by cases h; exact r⟩
  | _,_,i + 1,_,.cons _ t,h=>AllC.get (i:=i) t h
def clN:Cl→Bool
  | .str t=>fb t
  | _=>false
def clW (lo hi:Int):Cl→Bool
  | .int i=>decide (lo≤i∧i≤hi)
  | _=>false
inductive PathC (H:Hp):V→Bool→Prop
  | no (x:V) (c:Cl) (h:IsC H x c) (n:∀ xs,c≠.tup xs):PathC H x false
  | tup (p:Addr) (xs:List V) (cs:List Cl) (e:H p = some (.tup xs)) (z:xs.length≤1000) (h:AllC H cs xs):PathC H (.ref p) (decide ((xs.length:Int)≤3) && cs.all clN)
inductive UnitC (H:Hp):V→Bool→Prop
  | no (x:V) (c:Cl) (h:IsC H x c) (n:∀ xs,c≠.tup xs):UnitC H x false
  | len (p:Addr) (xs:List V) (e:H p = some (.tup xs)) (n:xs.length≠4):UnitC H (.ref p) false
  | four (p:Addr) (v0 v1 v2 v3:V) (c0 c1 c2:Cl) (b3:Bool) (e:H p = some (.tup [v0,v1,v2,v3])) (h0:IsC H v0 c0) (h1:IsC H v1 c1) (h2:IsC H v2 c2) (h3:PathC H v3 b3) :
      UnitC H (.ref p) (clN c0 && (clW (-1000000000) 1000000000 c1 && (clW 1 1000000 c2 && b3)))
theorem PathC.same {H H':Hp} {x:V} {b:Bool} (s:Same H H') (h:PathC H x b):PathC H' x b:=by
  cases h with
  | no _ c h n=>exact .no _ c (h.same s) n
  | tup p xs cs e z h=>exact .tup p xs cs (s _ _ e) z (h.same s)
theorem UnitC.same {H H':Hp} {x:V} {b:Bool} (s:Same H H') (h:UnitC H x b):UnitC H' x b:=by
  cases h with
  | no _ c h n=>exact .no _ c (h.same s) n
  | len p xs e n=>exact .len p xs (s _ _ e) n
  | four p v0 v1 v2 v3 c0 c1 c2 b3 e h0 h1 h2 h3=>exact .four p v0 v1 v2 v3 c0 c1 c2 b3 (s _ _ e) (h0.same s) (h1.same s) (h2.same s) (h3.same s)
theorem iw {H:Hp}:∀ {ts:List Str},(∀ t ∈ ts,t.length≤sizeLine)→AllC H (ts.map Cl.str) (ts.map V.str)
  | [],_=>.nil
  | t :: ts,h=>.cons (.str t (h t List.mem_cons_self)) (iw fun t' ht=>h t' (List.mem_cons_of_mem _ ht))
theorem im {H:Hp} {u:U} {x:V} (h:IsU H u x) (g:GoodU u):UnitC H x true:=by
  obtain ⟨ad,p,rfl,ha,hp⟩:=h
  have pc:PathC H (.ref p) true:=by
    have:=PathC.tup (H:=H) p (u.path.map V.str) (u.path.map Cl.str) hp (by rw [List.length_map]; have:=g.pl; omega) (iw fun t ht=>eP (g.pn t ht))
    have e:(decide (((u.path.map V.str).length:Int)≤3) && (u.path.map Cl.str).all clN) = true:=by
      rw [Bool.and_eq_true,decide_eq_true_eq,List.length_map,List.all_map,List.all_eq_true]
      exact ⟨by have:=g.pl; omega,fun t ht=>g.pn t ht⟩
    rw [e] at this
    exact this
  have:=UnitC.four (H:=H) ad _ _ _ _ _ _ _ _ ha (.str u.name (eP g.nm)) (.int u.value) (.int u.size) pc
  have e:(clN (.str u.name) && (clW (-1000000000) 1000000000 (.int u.value) && (clW 1 1000000 (.int u.size) && true))) = true:=by
    simp only [clN,clW]
    rw [g.nm,decide_eq_true ⟨g.v0,g.v1⟩,decide_eq_true ⟨g.s0,g.s1⟩]
    rfl
  rw [e] at this
  exact this
def li (ts:List Str):List U→Bool
  | []=>true
  | u :: _=>decide (ts.length = u.path.length)
def mq:Sp:=fun vs H Q _=>∃ (x:V) (c:Cl),vs = [x]∧IsC H x c∧∀ H',Same H H'→Q (.bl (clN c)) H'
def kJ:Sp:=fun vs H Q _=>∃ (x:V) (c:Cl) (lo hi:Int),vs = [x,.int lo,.int hi]∧IsC H x c∧Q (.bl (clW lo hi c)) H
def rO:Sp:=fun vs H Q _=>∃ (x:V) (b:Bool),vs = [x]∧PathC H x b∧∀ H',Same H H'→Q (.bl b) H'
def rB:Sp:=fun vs H Q _=>∃ (x:V) (b:Bool),vs = [x]∧UnitC H x b∧∀ H',Same H H'→Q (.bl b) H'
def si:Sp:=fun vs H Q _=>∃ (p l:Addr) (ts:List Str) (us:List U) (xs:List V),vs = [.ref p,.ref l]∧H p = some (.tup (ts.map V.str))∧H l = some (.lst xs)∧AllU H us xs∧Q (.bl (li ts us)) H
inductive NoLen (H:Hp):V→Prop
  | no (x:V) (c:Cl) (h:IsC H x c) (n:∀ p xs,x = .ref p→H p≠some (.lst xs)):NoLen H x
  | len (p:Addr) (xs:List V) (e:H p = some (.lst xs)) (n:¬ (1≤xs.length∧xs.length≤24)):NoLen H (.ref p)
def uO:Sp:=fun vs H Q _=>∃ (x:V),vs = [x]∧((∃ p xs,x = .ref p∧H p = some (.lst xs)∧1≤xs.length∧xs.length≤24∧Q (.bl true) H)∨(NoLen H x∧Q (.bl false) H))
structure Pre (us:List U):Prop where
  each:∀ u ∈ us,GoodU u
  nd:(us.map U.name).Nodup
  pth:∀ u ∈ us,∀ v ∈ us,u.path.length = v.path.length
inductive BadAt (H:Hp) (us:List U) (y:V):Prop
  | unit (h:UnitC H y false)
  | name (u:U) (h:IsU H u y) (g:GoodU u) (n:u.name ∈ us.map U.name)
  | path (u:U) (h:IsU H u y) (g:GoodU u) (n:li u.path us = false)
structure BadL (H:Hp) (x:V):Prop where
  ex:NoLen H x∨∃ (l:Addr) (xs:List V) (i:Nat) (us:List U) (y:V),x = .ref l∧H l = some (.lst xs)∧1≤xs.length∧xs.length≤24∧xs[i]? = some y∧AllU H us (xs.take i)∧Pre us∧BadAt H us y
def mm (a:Ad):Sp:=fun vs H Q E=>∃ (x:V),vs = [x]∧((∃ (l:Addr) (us:List U) (xs:List V),x = .ref l∧H l = some (.lst xs)∧AllU H us xs∧GoodL us∧∀ H',Same H H'→Q .non H')∨(BadL H x∧∀ H',Same H H'→E (.ref a.c_NoUnits) none H'))
def uM:Sp:=fun vs H Q _=>∃ (n:Str) (l:Addr) (us:List U) (xs:List V),vs = [.str n,.ref l]∧H l = some (.lst xs)∧AllU H us xs∧xs.length≤sizeLine∧∀ H',Same H H'→Q (.bl (!decide (n ∈ us.map U.name))) H'
def spLaw (K:PySem.W.Frag) (ts:List Addr):Sp:=fun vs H Q _=>∃ (p:Addr) (ns:List Int),vs = [.ref p]∧SqL K H p (ns.map V.int)∧ns.length≤63∧(∀ P ∈ ts,H P = some (.tbl #[]))∧∀ H',Q (.bl true) H'
theorem law_start {K:PySem.W.Frag} {ts:List Addr} {H:Hp} {a:Addr} {ns:List Int} (hl:ns.length≤63) (hT:∀ P ∈ ts,H P = some (.tbl #[])) (hS:SqL K H a (ns.map V.int)):spLaw K ts [.ref a] H (fun v _=>v = .bl true) fun _ _ _=>False:=⟨a,ns,rfl,hS,hl,hT,fun _=>rfl⟩
def uX (ns:List Int) (k:Int):Int:=if k < (ns.length:Int) then ns.getD k.toNat 0 else 7919 * k + 13
def rJ (K:PySem.W.Frag):Sp:=fun vs H Q _=>∃ (p:Addr) (ns:List Int) (k:Int),vs = [.ref p,.int k]∧SqL K H p (ns.map V.int)∧ns.length≤63∧0≤k∧k≤1000∧Q (.int (uX ns k)) H
def vh:Sp:=fun vs H Q _=>∃ (c k:Int),vs = [.int c,.int k]∧0≤k∧k≤1000∧∀ r:Int,0≤r→Q (.int r) H
def wR:Sp:=fun _ _ _ _=>False
def lc:Sp:=fun vs H Q _=>∃ (c:Int),vs = [.int c]∧∀ p (n:Int),H p = none→Q (.ref p) (upd H p (.lst [.int n]))
def mh:Sp:=fun vs H Q _=>∃ (p:Addr) (n m:Int),vs = [.ref p,.int m]∧H p = some (.lst [.int n])∧0 < m∧m≤1000000000000∧∀ (r n':Int),0≤r→r < m→Q (.int r) (upd H p (.lst [.int n']))
def SameP (p:Addr) (H H':Hp):Prop:=∀ b o,b≠p→H b = some o→H' b = some o
theorem SameP.refl {p:Addr} {H:Hp}:SameP p H H:=fun _ _ _ e=>e
theorem SameP.trans {p:Addr} {H H' H2:Hp} (s:SameP p H H') (t:SameP p H' H2):SameP p H H2:=fun b o n e=>t b o n (s b o n e)
theorem SameP.of {p:Addr} {H H':Hp} (s:Same H H'):SameP p H H':=fun b o _ e=>s b o e
theorem SameP.put {p:Addr} {H:Hp} {o:HO}:SameP p H (upd H p o):=fun b o' n e=>by rw [ao n]; exact e
section
variable {P:Program} {w:World} {K:PySem.W.Frag} {mg:Str→Option Value} {base:Heap} {a:Ad}
theorem yd {k:Nat} {f:Addr} {fd:FuncData} {ps:List Str}:FnOk P w K mg base CX0 k f fd ps wR:=⟨fun _ _ _ _ h=>h.elim,fun _ _ _ _ _ _ _ _ _ _ _ _ _ h=>h.elim⟩
theorem ug (T:Txt K mg a):FnOk P w K mg base CX0 1 a.f_L_cell a.d_L_cell ["_law_script", "_law_k"] (rJ K):=by
  refine T.F_L_cell.ok pA (fun vs H Q E h=>?_) (fun cdv A outer s H vs Q E hr h=>?_)
  · obtain ⟨p,ns,k,rfl,_⟩:=h; rfl
  · obtain ⟨p,ns,k,rfl,hS,hl,h0,h1,q⟩:=h
    refine ⟨_,(aj (bu (bz qD (vr 1) (aB bi rfl T.z_len dH (aa (vr 0) ae)) (aT _)) (ak (aq (aA au (vr 0) (vr 1) (fun _ _=>rfl)))) aM) (ak (aq (av eR (av cx ai (vr 1)) ai)))),?_⟩
    refine ⟨ns.map V.int,.inl hS,?_⟩
    rw [List.length_map]
    unfold uX at q
    refine yt (fun c=>?_) (fun c=>?_)
    · have c':k < (ns.length:Int):=of_decide_eq_true c
      rw [if_pos c'] at q
      refine .inl ⟨p,_,k,.int (ns.getD k.toNat 0),rfl,rfl,hS,?_,q⟩
      have e:((k.toNat:Nat):Int) = k:=by omega
      rw [← e]
      refine aH ?_
      have hk:k.toNat < ns.length:=by omega
      rw [e]
      simp [List.getElem?_map,List.getD,hk]
    · have c':¬ k < (ns.length:Int):=fun z=>c (decide_eq_true z)
      rw [if_neg c'] at q
      exact ⟨clB,q⟩
theorem vL (T:Txt K mg a):FnOk P w K mg base CX0 1 a.f_L_mix a.d_L_mix ["_law_cell_here", "_law_k"] vh:=by
  refine T.F_L_mix.ok sc_L_mix (fun vs H Q E h=>?_) (fun cdv A outer s H vs Q E hr h=>?_)
  · obtain ⟨c,k,rfl,_⟩:=h; rfl
  · obtain ⟨c,k,rfl,h0,h1,q⟩:=h
    refine ⟨_,(aj (az (i:=2) sc_L_mix.nd rfl (Or.inl rfl) (av fN (av cx (av eR (vr 0) (av cx ai (vr 1))) ai) ai)) (aj (az (i:=2) sc_L_mix.nd rfl (Or.inl rfl) (av fN (av cx (vr 2) (vr 2)) ai)) (ak (aq (av fN (av eR (av eR (av cx (vr 2) (vr 2)) (av cx ai (vr 2))) (vr 1)) ai))))),?_⟩
    exact ⟨clB,crB,cp,clB (by omega) (by omega),cp,clB (by omega) (by omega),clB,cp,q _ (by omega)⟩
theorem oO (T:Txt K mg a):FnOk P w K mg base CX0 2 a.f_L_digits a.d_L_digits ["_law_cell_here"] lc:=by
  have G_L_mix:FnOk P w K mg base CX0 1 _ _ _ vh:=vL T
  refine T.F_L_digits.ok sc_L_digits (fun vs H Q E h=>?_) (fun cdv A outer s H vs Q E hr h=>?_)
  · obtain ⟨c,rfl,_⟩:=h; rfl
  · obtain ⟨c,rfl,q⟩:=h
    refine ⟨_,(aj (bu (PW.pt (hV (bz fA (av fN (vr 0) ai) ai (aT _)) (gJ (bz wG (aB lU rfl T.z_abs rR (aa (vr 0) ae)) (av jZ ai ai) (aT _))))) (ak (aq (dc (aa (av dY (vr 0) ai) ae)))) aM) (aj (az (i:=1) sc_L_digits.nd rfl (Or.inl rfl) ai) (aj (d7 PassesOwn.never rfl (dX rfl T.z_range (aa ai ae)) (aw (i:=2) sc_L_digits.nd rfl (Or.inl rfl)) (ak (az (i:=1) sc_L_digits.nd rfl (Or.inl rfl) (av eR (av cx (vr 1) ai) (am G_L_mix hr rfl T.m_L_mix T.F_L_mix.kp T.B_L_mix .nil ar (aa (vr 0) (aa (vr 2) ae))))))) (ak (aq (dc (aa (vr 1) ae))))))),?_⟩
    have small:sizeLine = 16777216:=sizeLine_eq
    have fin:∀ n:Int,([V.int n]:List V).length≤sizeLine:=fun n=>(by decide:1≤sizeLine)
    refine ⟨cp,ifC (fun _=>?_) fun _=>?_⟩
    · refine ⟨c,rfl,cw,ifC (fun _=>?_) fun _=>?_⟩
      · exact ⟨cdB (by decide) (show Bt 40 2 by unfold Bt; decide),fin _,fun p hp=>q p _ hp⟩
      · refine ⟨24,rfl,by omega,by omega,?_⟩
        refine fH (fun i σ H'=>H' = H∧∃ (n:Int) (x:Option V),σ = [some (.int c),some (.int n),x]) ⟨rfl,0,none,rfl⟩ ?_ ?_
        · rintro i σ H' hi ⟨rfl,n,x,rfl⟩
          exact ⟨crB,c,_,rfl,by omega,by omega,fun r r0=>⟨rfl,_,_,rfl⟩⟩
        · rintro σ H' ⟨rfl,n,x,rfl⟩
          exact ⟨fin _,fun p hp=>q p _ hp⟩
    · refine ⟨24,rfl,by omega,by omega,?_⟩
      refine fH (fun i σ H'=>H' = H∧∃ (n:Int) (x:Option V),σ = [some (.int c),some (.int n),x]) ⟨rfl,0,none,rfl⟩ ?_ ?_
      · rintro i σ H' hi ⟨rfl,n,x,rfl⟩
        exact ⟨crB,c,_,rfl,by omega,by omega,fun r r0=>⟨rfl,_,_,rfl⟩⟩
      · rintro σ H' ⟨rfl,n,x,rfl⟩
        exact ⟨fin _,fun p hp=>q p _ hp⟩
theorem nz (T:Txt K mg a):FnOk P w K mg base CX0 1 a.f_L_take a.d_L_take ["_law_state", "_law_many"] mh:=by
  refine T.F_L_take.ok sc_L_take (fun vs H Q E h=>?_) (fun cdv A outer s H vs Q E hr h=>?_)
  · obtain ⟨p,n,m,rfl,_⟩:=h; rfl
  · obtain ⟨p,n,m,rfl,hp,m0,m1,q⟩:=h
    refine ⟨_,(aj (az (i:=2) sc_L_take.nd rfl (Or.inl rfl) (av fN (aA au (vr 0) ai (fun _ _=>rfl)) (vr 1))) (aj (jD (av dY (aA au (vr 0) ai (fun _ _=>rfl)) (vr 1)) (v6 (vr 0) ai me)) (ak (aq (vr 2))))),?_⟩
    refine .inl ⟨p,_,_,_,rfl,rfl,SqL.of hp,ax 0 rfl rfl,cp (by omega),?_⟩
    refine .inl ⟨p,_,_,_,rfl,rfl,SqL.of hp,ax 0 rfl rfl,cdB (by omega) (show Bt 40 m by unfold Bt; omega),?_⟩
    refine ⟨p,_,_,0,rfl,rfl,hp,rfl,?_⟩
    exact q _ _ (Int.emod_nonneg _ (by omega)) (Int.emod_lt_of_pos _ m0)
end
end My
namespace My
open PySem L2
section
variable {P:Program} {w:World} {K:PySem.W.Frag} {mg:Str→Option Value} {base:Heap} {a:Ad}
theorem tm (T:Txt K mg a):FnOk P w K mg base CX0 1 a.f_is_made_of a.d_is_made_of ["text", "signs", "most"] sg:=by
  refine T.F_is_made_of.ok jP (fun vs H Q E h=>?_) (fun cdv A outer s H vs Q E hr h=>?_)
  · obtain ⟨t,S,m,rfl,_⟩:=h; rfl
  · obtain ⟨t,S,m,rfl,hz,q⟩:=h
    refine ⟨_,(ak (aq (fV (kD nu nu ai (aB bi rfl T.z_len dH (aa (vr 0) ae)) (vr 2)) (hI (aB (j7 rfl) rfl T.z_all qi (aa (bC rfl (N:=["sign", "signs"]) (ix:=[none,some 1]) ⟨rfl,rfl,rfl,rfl,⟨rfl,rfl,rfl,trivial⟩⟩ (db (vr 0)) ⟨fun C s H fp=>aw (i:=0) (show List.Nodup (["sign", "signs"]:List Str) by decide +kernel) rfl (Or.inl rfl),fun C s H fp=>ck,fun C s H fp=>(fT xt (vr 0) (vr 1) (by with_unfolding_all rfl))⟩) ae)))))),?_⟩
    have no:∀ H',Same H H'→¬ (1≤(t.cps.size:Int)∧(t.cps.size:Int)≤m)→Q (.bl false) H':=fun H' e c=>by
      have:=q H' e
      unfold jh at this
      rw [decide_eq_false c] at this
      exact this
    refine ⟨hz,?_⟩
    refine ifC (fun c1=>?_) (fun c1=>(no H (Same.refl H) fun z=>c1 z.1))
    refine ifC (fun c2=>?_) (fun c2=>no H (Same.refl H) fun z=>c2 z.2)
    have c:1≤(t.cps.size:Int)∧(t.cps.size:Int)≤m:=⟨c1,c2⟩
    intro D hD
    refine re (fun i ys H'=>H' = upd H D (.lst ys)∧ys = (t.cps.toList.take i).map fun c=>V.bl (decide (c ∈ S.cps.toList))) ⟨rfl,rfl⟩ (fun i ys H' ⟨e,_⟩=>by rw [e]; exact af) ?_ ?_
    · rintro i c ys H' P hc ⟨rfl,rfl⟩ hP
      refine ⟨⟨rfl,trivial⟩,?_⟩
      have hl:t.cps.toList[i]? = some c:=by simpa using hc
      refine ⟨af,?_,hP _ _ ⟨i7,?_⟩⟩
      · rw [List.length_map,List.length_take]
        have h1:i < t.cps.toList.length:=(List.getElem?_eq_some_iff.mp hl).1
        have:t.cps.toList.length = t.cps.size:=by simp
        have h3:t.cps.size≤sizeLine:=hz
        omega
      · rw [List.take_add_one,hl,List.map_append]
        show _ = _ ++ [V.bl (decide (c ∈ S.cps.toList))]
        congr 2
        show V.bl (!(Builtin.Str.occurrences _ _ 0 _ 1).isEmpty) = _
        rw [PySem.StrLaws.found_one]
    · rintro ys H' ⟨rfl,rfl⟩
      refine ⟨D,_,t.cps.toList.map fun c=>decide (c ∈ S.cps.toList),rfl,SqL.of af,?_,?_⟩
      · rw [List.map_map,List.take_of_length_le (by simp)]
        rfl
      · have en:(t.cps.toList.map fun c=>decide (c ∈ S.cps.toList)).all id = jh t S m:=by
          unfold jh
          rw [decide_eq_true c,Bool.true_and,List.all_map]
          rfl
        rw [en]
        exact q _ (Same.new hD)
theorem lq (T:Txt K mg a):FnOk P w K mg base CX0 1 a.f_is_whole a.d_is_whole ["thing", "low", "high"] kJ:=by
  refine T.F_is_whole.ok lS (fun vs H Q E h=>?_) (fun cdv A outer s H vs Q E hr h=>?_)
  · obtain ⟨x,c,lo,hi,rfl,_⟩:=h; rfl
  · obtain ⟨x,c,lo,hi,rfl,th,q⟩:=h
    refine ⟨_,(ak (aq (fV (aB eQ rfl T.z_isinstance aZ (aa (vr 0) (aa (fe (v:=.ty "int") rfl T.z_int wv rfl) ae))) (fV (xW (aB eQ rfl T.z_isinstance aZ (aa (vr 0) (aa (fe (v:=.ty "bool") rfl T.z_bool uG rfl) ae)))) (hI (kD nu nu (vr 1) (vr 0) (vr 2))))))),?_⟩
    cases th with
    | int i =>
      refine ⟨_,_,_,true,rfl,rfl,.int i,rfl,?_⟩
      refine ⟨_,_,_,false,rfl,rfl,.int i,rfl,?_⟩
      exact mQ (Q:=fun v=>Q v H) q
    | bl b=>exact ⟨_,_,_,true,rfl,rfl,.bl b,rfl,⟨_,_,_,true,rfl,rfl,.bl b,rfl,q⟩⟩
    | non=>exact ⟨_,_,_,false,rfl,rfl,.non,rfl,q⟩
    | str t h=>exact ⟨_,_,_,false,rfl,rfl,.str t,rfl,q⟩
    | lst p xs e=>exact ⟨_,_,_,false,rfl,rfl,.lst e,rfl,q⟩
    | tup p xs e=>exact ⟨_,_,_,false,rfl,rfl,.tup e,rfl,q⟩
    | dK p kvs e=>exact ⟨_,_,_,false,rfl,rfl,.dK e,rfl,q⟩
theorem oK (T:Txt K mg a):FnOk P w K mg base CX0 2 a.f_is_name a.d_is_name ["thing"] mq:=by
  have G_is_made_of:FnOk P w K mg base CX0 1 _ _ _ sg:=tm T
  refine T.F_is_name.ok mI (fun vs H Q E h=>?_) (fun cdv A outer s H vs Q E hr h=>?_)
  · obtain ⟨x,c,rfl,_⟩:=h; rfl
  · obtain ⟨x,c,rfl,th,q⟩:=h
    refine ⟨_,(ak (aq (fV (aB eQ rfl T.z_isinstance aZ (aa (vr 0) (aa (fe (v:=.ty "str") rfl T.z_str vW rfl) ae))) (hI (am G_is_made_of hr rfl T.m_is_made_of T.F_is_made_of.kp T.B_is_made_of .nil ar (aa (vr 0) (aa (eI rfl T.g_LETTERS) (aa (eI rfl T.g_MOST_LETTERS) ae)))))))),?_⟩
    cases th with
    | int i=>exact ⟨_,_,_,false,rfl,rfl,.int i,rfl,q _ (Same.refl H)⟩
    | bl b=>exact ⟨_,_,_,false,rfl,rfl,.bl b,rfl,q _ (Same.refl H)⟩
    | non=>exact ⟨_,_,_,false,rfl,rfl,.non,rfl,q _ (Same.refl H)⟩
    | str t h =>
      refine ⟨_,_,_,true,rfl,rfl,.str t,rfl,?_⟩
      exact ⟨t,_,_,rfl,h,q⟩
    | lst p xs e=>exact ⟨_,_,_,false,rfl,rfl,.lst e,rfl,q _ (Same.refl H)⟩
    | tup p xs e=>exact ⟨_,_,_,false,rfl,rfl,.tup e,rfl,q _ (Same.refl H)⟩
    | dK p kvs e=>exact ⟨_,_,_,false,rfl,rfl,.dK e,rfl,q _ (Same.refl H)⟩
theorem vX (T:Txt K mg a):FnOk P w K mg base CX0 1 a.f_has_listing_length a.d_has_listing_length ["thing"] uO:=by
  refine T.F_has_listing_length.ok fW (fun vs H Q E h=>?_) (fun cdv A outer s H vs Q E hr h=>?_)
  · obtain ⟨x,rfl,_⟩:=h; rfl
  · obtain ⟨x,rfl,h⟩:=h
    refine ⟨_,(ak (aq (fV (aB eQ rfl T.z_isinstance aZ (aa (vr 0) (aa (fe (v:=.ty "list") rfl T.z_list gL rfl) ae))) (hI (kD nu nu ai (aB bi rfl T.z_len dH (aa (vr 0) ae)) (eI rfl T.g_MOST_UNITS)))))),?_⟩
    rcases h with ⟨l,xs,rfl,hl,h1,h2,q⟩ | ⟨nl,q⟩
    · refine ⟨_,_,_,true,rfl,rfl,.lst hl,rfl,xs,.inl (SqL.of hl),?_⟩
      refine mQ (Q:=fun v=>Q v H) ?_
      rw [decide_eq_true (by omega)]
      exact q
    · cases nl with
      | len p xs e n =>
        refine ⟨_,_,_,true,rfl,rfl,.lst e,rfl,xs,.inl (SqL.of e),?_⟩
        refine mQ (Q:=fun v=>Q v H) ?_
        rw [decide_eq_false (by omega)]
        exact q
      | no _ c h n =>
        cases h with
        | int i=>exact ⟨_,_,_,false,rfl,rfl,.int i,rfl,q⟩
        | bl b=>exact ⟨_,_,_,false,rfl,rfl,.bl b,rfl,q⟩
        | non=>exact ⟨_,_,_,false,rfl,rfl,.non,rfl,q⟩
        | str t h=>exact ⟨_,_,_,false,rfl,rfl,.str t,rfl,q⟩
        | lst p xs e=>exact absurd e (n p xs rfl)
        | tup p xs e=>exact ⟨_,_,_,false,rfl,rfl,.tup e,rfl,q⟩
        | dK p kvs e=>exact ⟨_,_,_,false,rfl,rfl,.dK e,rfl,q⟩
theorem tH (T:Txt K mg a):FnOk P w K mg base CX0 3 a.f_is_path a.d_is_path ["thing"] rO:=by
  have G_is_name:FnOk P w K mg base CX0 2 _ _ _ mq:=oK T
  refine T.F_is_path.ok mZ (fun vs H Q E h=>?_) (fun cdv A outer s H vs Q E hr h=>?_)
  · obtain ⟨x,b,rfl,_⟩:=h; rfl
  · obtain ⟨x,b,rfl,pc,q⟩:=h
    refine ⟨_,(ak (aq (fV (aB eQ rfl T.z_isinstance aZ (aa (vr 0) (aa (fe (v:=.ty "tuple") rfl T.z_tuple iA rfl) ae))) (fV (fT nu (aB bi rfl T.z_len dH (aa (vr 0) ae)) (eI rfl T.g_MOST_LEVELS) (aT _)) (hI (aB (j7 rfl) rfl T.z_all qi (aa (bC rfl (N:=["name"]) (ix:=[none]) ⟨rfl,rfl,rfl,rfl,trivial⟩ (db (vr 0)) ⟨fun C s H fp=>aw (i:=0) (show List.Nodup (["name"]:List Str) by decide +kernel) rfl (Or.inl rfl),fun C s H fp=>ck,fun C s H fp=>(am G_is_name hr rfl T.m_is_name T.F_is_name.kp T.B_is_name .nil ar (aa (vr 0) ae))⟩) ae))))))),?_⟩
    cases pc with
    | no _ c h n =>
      cases h with
      | int i=>exact ⟨_,_,_,false,rfl,rfl,.int i,rfl,q _ (Same.refl H)⟩
      | bl b=>exact ⟨_,_,_,false,rfl,rfl,.bl b,rfl,q _ (Same.refl H)⟩
      | non=>exact ⟨_,_,_,false,rfl,rfl,.non,rfl,q _ (Same.refl H)⟩
      | str t h=>exact ⟨_,_,_,false,rfl,rfl,.str t,rfl,q _ (Same.refl H)⟩
      | lst p xs e=>exact ⟨_,_,_,false,rfl,rfl,.lst e,rfl,q _ (Same.refl H)⟩
      | tup p xs e=>exact absurd rfl (n xs)
      | dK p kvs e=>exact ⟨_,_,_,false,rfl,rfl,.dK e,rfl,q _ (Same.refl H)⟩
    | tup p xs cs hp z hc =>
      have small:sizeLine = 16777216:=sizeLine_eq
      have hcl:cs.length = xs.length:=Paired.length hc
      refine ⟨_,_,_,true,rfl,rfl,.tup hp,rfl,xs,.inr (SqT.of hp),?_⟩
      refine ifC (fun c=>?_) (fun c=>?_)
      · refine .inr ⟨⟨_,SqT.of hp⟩,fun D hD=>?_⟩
        refine lO (K:=K) (a:=p) (xs:=xs) (fun i ys H'=>Same H H'∧H' D = some (.lst ys)∧ys = (cs.take i).map fun t=>V.bl (clN t)) ⟨(Same.refl H).put hD,af,rfl⟩ (fun i ys H' h=>SqT.of (h.1 _ _ hp)) (fun i ys H' h=>h.2.1) ?_ ?_
        · rintro i x ys H' P' hx ⟨s1,hD1,rfl⟩ hP
          obtain ⟨c,hc1,hc2⟩:=hc.get hx
          refine ⟨trivial,x,c,rfl,hc2.same s1,fun H2 s2=>⟨s2 _ _ hD1,?_,hP _ _ ⟨(s1.trans s2).put hD,af,?_⟩⟩⟩
          · rw [List.length_map,List.length_take]; omega
          · rw [List.take_add_one,hc1,List.map_append]; rfl
        · rintro ys H' ⟨s1,hD1,rfl⟩
          rw [← hcl,List.take_of_length_le (Nat.le_refl _)] at hD1
          refine ⟨D,_,cs.map clN,rfl,SqL.of hD1,by rw [List.map_map]; rfl,?_⟩
          have:=q _ s1
          rw [decide_eq_true c,Bool.true_and] at this
          rw [List.all_map]
          exact this
      · have:=q _ (Same.refl H)
        rw [decide_eq_false c,Bool.false_and] at this
        exact this
theorem uB (T:Txt K mg a):FnOk P w K mg base CX0 4 a.f_is_unit a.d_is_unit ["thing"] rB:=by
  have G_is_name:FnOk P w K mg base CX0 3 _ _ _ mq:=(oK T).mono (by decide)
  have G_is_whole:FnOk P w K mg base CX0 3 _ _ _ kJ:=(lq T).mono (by decide)
  have G_is_path:FnOk P w K mg base CX0 3 _ _ _ rO:=tH T
  refine T.F_is_unit.ok mt (fun vs H Q E h=>?_) (fun cdv A outer s H vs Q E hr h=>?_)
  · obtain ⟨x,b,rfl,_⟩:=h; rfl
  · obtain ⟨x,b,rfl,uc,q⟩:=h
    refine ⟨_,(ak (aq (fV (aB eQ rfl T.z_isinstance aZ (aa (vr 0) (aa (fe (v:=.ty "tuple") rfl T.z_tuple iA rfl) ae))) (fV (fT fA (aB bi rfl T.z_len dH (aa (vr 0) ae)) (eI rfl T.g_UNIT_PARTS) (aT _)) (fV (am G_is_name hr rfl T.m_is_name T.F_is_name.kp T.B_is_name .nil ar (aa (aA au (vr 0) ai (fun _ _=>rfl)) ae)) (fV (am G_is_whole hr rfl T.m_is_whole T.F_is_whole.kp T.B_is_whole .nil ar (aa (aA au (vr 0) ai (fun _ _=>rfl)) (aa (qp qJ (eI rfl T.g_VALUE_BOUND)) (aa (eI rfl T.g_VALUE_BOUND) ae)))) (fV (am G_is_whole hr rfl T.m_is_whole T.F_is_whole.kp T.B_is_whole .nil ar (aa (aA au (vr 0) ai (fun _ _=>rfl)) (aa ai (aa (eI rfl T.g_MOST_SIZE) ae)))) (hI (am G_is_path hr rfl T.m_is_path T.F_is_path.kp T.B_is_path .nil ar (aa (aA au (vr 0) ai (fun _ _=>rfl)) ae)))))))))),?_⟩
    cases uc with
    | no _ c h n =>
      cases h with
      | int i=>exact ⟨_,_,_,false,rfl,rfl,.int i,rfl,q _ (Same.refl H)⟩
      | bl b=>exact ⟨_,_,_,false,rfl,rfl,.bl b,rfl,q _ (Same.refl H)⟩
      | non=>exact ⟨_,_,_,false,rfl,rfl,.non,rfl,q _ (Same.refl H)⟩
      | str t h=>exact ⟨_,_,_,false,rfl,rfl,.str t,rfl,q _ (Same.refl H)⟩
      | lst p xs e=>exact ⟨_,_,_,false,rfl,rfl,.lst e,rfl,q _ (Same.refl H)⟩
      | tup p xs e=>exact absurd rfl (n xs)
      | dK p kvs e=>exact ⟨_,_,_,false,rfl,rfl,.dK e,rfl,q _ (Same.refl H)⟩
    | len p xs e n =>
      refine ⟨_,_,_,true,rfl,rfl,.tup e,rfl,_,.inr (SqT.of e),?_⟩
      refine ifC (fun c=>absurd (show xs.length = 4 by have z:(xs.length:Int) = 4:=c; omega) n) (fun _=>q _ (Same.refl H))
    | four p v0 v1 v2 v3 c0 c1 c2 b3 e h0 h1 h2 h3 =>
      refine ⟨_,_,_,true,rfl,rfl,.tup e,rfl,_,.inr (SqT.of e),?_⟩
      refine .inr (.inl ⟨p,_,_,_,rfl,rfl,SqT.of e,ax 0 rfl rfl,v0,c0,rfl,h0,fun H1 s1=>?_⟩)
      have e1:=s1 _ _ e
      refine ifB (fun z0=>?_) (fun z0=>by have:=q _ s1; rw [z0,Bool.false_and] at this; exact this)
      refine .inr (.inl ⟨p,_,_,_,rfl,rfl,SqT.of e1,ax 1 rfl rfl,v1,c1,_,_,rfl,h1.same s1,?_⟩)
      refine ifB (fun z1=>?_) (fun z1=>by have:=q _ s1; rw [z0,show clW (-1000000000) 1000000000 c1 = false from z1] at this; exact this)
      refine .inr (.inl ⟨p,_,_,_,rfl,rfl,SqT.of e1,ax 2 rfl rfl,v2,c2,_,_,rfl,h2.same s1,?_⟩)
      refine ifB (fun z2=>?_) (fun z2=>by have:=q _ s1; rw [z0,show clW (-1000000000) 1000000000 c1 = true from z1,show clW 1 1000000 c2 = false from z2] at this; exact this)
      refine .inr (.inl ⟨p,_,_,_,rfl,rfl,SqT.of e1,ax 3 rfl rfl,v3,b3,rfl,h3.same s1,fun H2 s2=>?_⟩)
      have:=q _ (s1.trans s2)
      rw [z0,show clW (-1000000000) 1000000000 c1 = true from z1,show clW 1 1000000 c2 = true from z2] at this
      exact this
theorem vO (T:Txt K mg a):FnOk P w K mg base CX0 1 a.f_is_new_name a.d_is_new_name ["name", "ahead"] uM:=by
  refine T.F_is_new_name.ok jl (fun vs H Q E h=>?_) (fun cdv A outer s H vs Q E hr h=>?_)
  · obtain ⟨n,l,us,xs,rfl,_⟩:=h; rfl
  · obtain ⟨n,l,us,xs,rfl,hl,hu,hlen,q⟩:=h
    refine ⟨_,(ak (aq (fT kK (vr 0) (bC rfl (N:=["unit"]) (ix:=[none]) ⟨rfl,rfl,rfl,rfl,trivial⟩ (db (vr 1)) ⟨fun C s H fp=>aw (i:=0) (show List.Nodup (["unit"]:List Str) by decide +kernel) rfl (Or.inl rfl),fun C s H fp=>ck,fun C s H fp=>(aA (eG (K:=K) rfl) (vr 0) ai (fun _ _=>rfl))⟩) (by with_unfolding_all rfl)))),?_⟩
    have small:sizeLine = 16777216:=sizeLine_eq
    refine .inl ⟨⟨_,SqL.of hl⟩,fun D hD=>?_⟩
    refine dq (K:=K) (a:=l) (xs:=xs) (fun i ys H'=>i≤xs.length∧H' = upd H D (.lst ys)∧ys = (us.take i).map fun u=>V.str u.name) ⟨Nat.zero_le _,rfl,rfl⟩ (fun i ys H' h=>by rw [h.2.1]; exact SqL.of (by rw [ao (ay hl hD)]; exact hl)) (fun i ys H' h=>by rw [h.2.1]; exact af) ?_ ?_
    · rintro i x ys H' P' hx ⟨hi,rfl,rfl⟩ hP
      obtain ⟨u,hu',ad,p,rfl,ha,hp⟩:=hu.get hx
      have hlt:i < xs.length:=(List.getElem?_eq_some_iff.mp hx).1
      have hz:xs.length≤sizeLine:=hlen
      refine ⟨trivial,.inr (.inl ⟨ad,_,_,_,rfl,rfl,SqT.of (by rw [ao (ay ha hD)]; exact ha),ax 0 rfl rfl,af,?_,hP _ _ ⟨hlt,i7,?_⟩⟩)⟩
      · rw [List.length_map,List.length_take]; omega
      · rw [List.take_add_one,hu',List.map_append]; rfl
    · rintro ys H' ⟨_,rfl,rfl⟩
      rw [← hu.len,List.take_of_length_le (Nat.le_refl _)]
      have e:(us.map fun u=>V.str u.name) = (us.map U.name).map V.str:=by rw [List.map_map]; rfl
      refine ⟨D,_,rfl,.inl (SqL.of af),rfl,by rw [e]; exact kh _,?_⟩
      have:=q _ ((Same.refl H).put (o:=.lst (us.map fun u=>V.str u.name)) hD)
      rw [← kS] at this
      rw [e]
      rw [e] at this
      exact this
theorem tq (T:Txt K mg a):FnOk P w K mg base CX0 1 a.f_has_path_length a.d_has_path_length ["path", "ahead"] si:=by
  refine T.F_has_path_length.ok ij (fun vs H Q E h=>?_) (fun cdv A outer s H vs Q E hr h=>?_)
  · obtain ⟨p,l,ts,us,xs,rfl,_⟩:=h; rfl
  · obtain ⟨p,l,ts,us,xs,rfl,hp,hl,hu,q⟩:=h
    refine ⟨_,(ak (aq (yJ (uE (vr 1)) (hI (fT fA (aB bi rfl T.z_len dH (aa (vr 0) ae)) (aB bi rfl T.z_len dH (aa (aA au (aA au (vr 1) ai (fun _ _=>rfl)) ai (fun _ _=>rfl)) ae)) (aT _)))))),?_⟩
    refine ⟨!xs.isEmpty,.inl ⟨xs,SqL.of hl,rfl⟩,?_⟩
    cases hu with
    | nil=>exact q
    | @cons u x us xs r t =>
      obtain ⟨ad,pp,rfl,ha,hpp⟩:=r
      refine ⟨_,.inr (SqT.of hp),.inl ⟨l,_,_,_,rfl,rfl,SqL.of hl,ax 0 rfl rfl,.inr (.inl ⟨ad,_,_,_,rfl,rfl,SqT.of ha,ax 3 rfl rfl,_,.inr (SqT.of hpp),?_⟩)⟩⟩
      have e:decide (((ts.map V.str).length:Int) = ((u.path.map V.str).length:Int)) = li ts (u :: us):=by
        show _ = decide (ts.length = u.path.length)
        rw [decide_eq_decide,List.length_map,List.length_map]
        omega
      show Q (.bl (decide (((ts.map V.str).length:Int) = ((u.path.map V.str).length:Int)))) H
      rw [e]
      exact q
end
end My
namespace My
open PySem L2
theorem iO {H H1:Hp} {E:XK} {c:Addr} (s:Same H H1) (q:∀ H',Same H H'→E (.ref c) none H'):∀ z,H1 z = none→∃ x dct φ,V.ref z = .ref x∧(upd H1 z (.ext (XD0 z c))) x = some (.ext φ)∧(∀ h,φ h→XU x c dct h)∧H x = none∧E (.ref c) dct (untr (upd H1 z (.ext (XD0 z c))) x):=fun z hz=>by
  refine ⟨z,none,_,rfl,af,fun h y=>y,?_,q _ fun b o e=>?_⟩
  · cases hh:H z with
    | none=>rfl
    | some o=>rw [s _ _ hh] at hz; cases hz
  · have nb:b≠z:=fun y=>by rw [← y,s _ _ e] at hz; cases hz
    rw [cJ nb,ao nb]
    exact s _ _ e
theorem ma {us:List U} (h:(us.map U.name).Nodup) {i:Nat} {u:U} (hu:us[i]? = some u):u.name ∉ (us.take i).map U.name:=by
  intro hm
  obtain ⟨v,hv,e⟩:=List.mem_map.mp hm
  obtain ⟨j,hj⟩:=List.getElem?_of_mem hv
  have hji:j < i:=by
    by_cases z:j < i
    · exact z
    · rw [List.getElem?_take_eq_none (by omega)] at hj; cases hj
  rw [List.getElem?_take_of_lt hji] at hj
  have e1:(us.map U.name)[j]? = some u.name:=by rw [List.getElem?_map,hj]; show some v.name = _; rw [e]
  have e2:(us.map U.name)[i]? = some u.name:=by rw [List.getElem?_map,hu]; rfl
  obtain ⟨l1,g1⟩:=List.getElem?_eq_some_iff.mp e1
  obtain ⟨l2,g2⟩:=List.getElem?_eq_some_iff.mp e2
  have:=(List.getElem_inj h).mp (g1.trans g2.symm)
  omega
section
variable {P:Program} {w:World} {K:PySem.W.Frag} {mg:Str→Option Value} {base:Heap} {a:Ad}
theorem nG (T:Txt K mg a):FnOk P w K mg base (CXG P w) 5 a.f_need_units a.d_need_units ["units"] (mm a):=by
  have G_has_listing_length:FnOk P w K mg base CX0 4 _ _ _ uO:=(vX T).mono (by decide)
  have G_is_unit:FnOk P w K mg base CX0 4 _ _ _ rB:=uB T
  have G_is_new_name:FnOk P w K mg base CX0 4 _ _ _ uM:=(vO T).mono (by decide)
  have G_has_path_length:FnOk P w K mg base CX0 4 _ _ _ si:=(tq T).mono (by decide)
  refine T.F_need_units.okG sc_need_units (fun vs H Q E h=>?_) (fun cdv A outer s H vs Q E hr h=>?_)
  · obtain ⟨x,rfl,_⟩:=h; rfl
  · obtain ⟨x,rfl,h⟩:=h
    have small:sizeLine = 16777216:=sizeLine_eq
    refine ⟨_,(aj (bu (fk (gg (am G_has_listing_length hr rfl T.m_has_listing_length T.F_has_listing_length.kp T.B_has_listing_length .nil ar (aa (vr 0) ae)))) (ak (fM T.xc_NoUnits T.xh_NoUnits (i9 T.xi_NoUnits T.kc_NoUnits rfl T.mc_NoUnits))) aM) (ak (d7 yq rfl (gG rfl T.z_enumerate (aa (vr 0) ae)) (fu rfl (aG (aw (i:=1) sc_need_units.nd rfl (Or.inl rfl)) (aG (aw (i:=2) sc_need_units.nd rfl (Or.inl rfl)) dG))) (aj (bu (fk (gg (am G_is_unit hr rfl T.m_is_unit T.F_is_unit.kp T.B_is_unit .nil ar (aa (vr 2) ae)))) (ak (fM T.xc_NoUnits T.xh_NoUnits (i9 T.xi_NoUnits T.kc_NoUnits rfl T.mc_NoUnits))) aM) (ak (bu (PW.pt (xl (fk (gg (am G_is_new_name hr rfl T.m_is_new_name T.F_is_new_name.kp T.B_is_new_name .nil ar (aa (aA au (vr 2) ai (fun _ _=>rfl)) (aa (eO hZ (vr 0) gK (e8 (vr 1))) ae))))) (vJ (fk (gg (am G_has_path_length hr rfl T.m_has_path_length T.F_has_path_length.kp T.B_has_path_length .nil ar (aa (aA au (vr 2) ai (fun _ _=>rfl)) (aa (eO hZ (vr 0) gK (e8 (vr 1))) ae)))))))) (ak (fM T.xc_NoUnits T.xh_NoUnits (i9 T.xi_NoUnits T.kc_NoUnits rfl T.mc_NoUnits))) aM)))))),?_⟩
    -- one good unit behind good ones
    have turn:∀ (l:Addr) (xs:List V) (us:List U) (H1:Hp) (R:Hp→Prop) (i:Nat) (u:U) (y:V),True:=fun _ _ _ _ _ _ _ _=>trivial
    rcases h with ⟨l,us,xs,rfl,hl,hu,hg,q⟩ | ⟨⟨nl | ⟨l,xs,k,us,y,rfl,hl,g1,g2,hy,hu,pre,bad⟩⟩,q⟩
    · have hlen:=hu.len
      have g1:=hg.l1
      have g2:=hg.l2
      refine ⟨_,rfl,.inl ⟨l,xs,rfl,hl,by omega,by omega,?_⟩⟩
      refine ⟨l,xs,rfl,hl,gz (a:=l) (xs:=xs) (fun i σ H'=>Same H H'∧∃ x1 x2,σ = [some (.ref l),x1,x2]) ⟨Same.refl H,none,none,rfl⟩ (fun i σ H' h=>h.1 _ _ hl) ?_ ?_⟩
      · rintro i x σ H' p hx ⟨s1,x1,x2,rfl⟩ hp
        obtain ⟨u,hu',hU⟩:=hu.get hx
        have hm:=List.mem_of_getElem? hu'
        have hi:i < xs.length:=(List.getElem?_eq_some_iff.mp hx).1
        have s2:Same H (upd H' p (.tup [.int (i:Nat),x])):=s1.trans (Same.new hp)
        refine ⟨p,_,rfl,SqT.of af,rfl,_,_,rfl,_,_,rfl,rfl,?_⟩
        generalize upd H' p (.tup [.int (i:Nat),x]) = H1 at s2
        refine ⟨x,true,rfl,im (hU.tk s2.tk) (hg.each u hm),fun H2 s3=>?_⟩
        obtain ⟨ad,pp,rfl,ha,hpp⟩:=hU.tk (s2.trans s3).tk
        have hl2:=(s2.trans s3) _ _ hl
        have hu2:=hu.tk (s2.trans s3).tk
        have e1:cY xs none (some (i:Int)) = xs.take i:=iK xs i (by omega)
        refine .inr (.inl ⟨ad,_,_,_,rfl,rfl,SqT.of ha,ax 0 rfl rfl,_,rfl,.inl ⟨xs,SqL.of hl2,fun p2 hp2=>?_⟩⟩)
        have s4:Same H2 (upd H2 p2 (.lst (cY xs none (some (i:Int))))):=Same.new hp2
        refine ⟨u.name,p2,us.take i,cY xs none (some (i:Int)),rfl,af,by have h:=hu2.take i; rw [← e1] at h; exact h.tk s4.tk,by rw [e1,List.length_take]; omega,fun H3 s5=>?_⟩
        rw [decide_eq_false (ma hg.nd hu')]
        have s6:=s4.trans s5
        refine .inr (.inl ⟨ad,_,_,_,rfl,rfl,SqT.of (s6 _ _ ha),ax 3 rfl rfl,_,rfl,.inl ⟨xs,SqL.of (s6 _ _ hl2),fun p3 hp3=>?_⟩⟩)
        have s7:Same H3 (upd H3 p3 (.lst (cY xs none (some (i:Int))))):=Same.new hp3
        refine ⟨pp,p3,u.path,us.take i,cY xs none (some (i:Int)),rfl,s7 _ _ (s6 _ _ hpp),af,by have h:=hu2.take i; rw [← e1] at h; exact h.tk (s6.trans s7).tk,?_⟩
        have pl:li u.path (us.take i) = true:=by
          cases ht:us.take i with
          | nil=>rfl
          | cons v vs =>
            have hv:v ∈ us:=List.mem_of_mem_take (i:=i) (by rw [ht]; exact List.mem_cons_self)
            exact decide_eq_true (hg.pth u hm v hv)
        rw [pl]
        exact ⟨((s2.trans s3).trans s6).trans s7,_,_,rfl⟩
      · rintro σ H' ⟨s1,x1,x2,rfl⟩
        exact q _ s1
    · exact ⟨_,rfl,.inr ⟨nl,iO (Same.refl H) q⟩⟩
    · refine ⟨_,rfl,.inl ⟨l,xs,rfl,hl,g1,g2,?_⟩⟩
      have hk:k < xs.length:=(List.getElem?_eq_some_iff.mp hy).1
      have hlen:us.length = k:=by rw [hu.len,List.length_take]; omega
      refine ⟨l,xs,rfl,hl,gz (a:=l) (xs:=xs) (fun i σ H'=>i≤k∧Same H H'∧∃ x1 x2,σ = [some (.ref l),x1,x2]) ⟨Nat.zero_le _,Same.refl H,none,none,rfl⟩ (fun i σ H' h=>h.2.1 _ _ hl) ?_ ?_⟩
      · rintro i x σ H' p hx ⟨hik,s1,x1,x2,rfl⟩ hp
        have s2:Same H (upd H' p (.tup [.int (i:Nat),x])):=s1.trans (Same.new hp)
        have e1:cY xs none (some (i:Int)) = xs.take i:=iK xs i (by omega)
        refine ⟨p,_,rfl,SqT.of af,rfl,_,_,rfl,_,_,rfl,rfl,?_⟩
        generalize upd H' p (.tup [.int (i:Nat),x]) = H1 at s2
        have hpre:AllU H (us.take i) (xs.take i):=by
          have h:=hu.take i
          rw [List.take_take,Nat.min_eq_left hik] at h
          exact h
        by_cases hlt:i < k
        · have hx':(xs.take k)[i]? = some x:=by rw [List.getElem?_take_of_lt hlt]; exact hx
          obtain ⟨u,hu',hU⟩:=hu.get hx'
          have hm:=List.mem_of_getElem? hu'
          refine ⟨x,true,rfl,im (hU.tk s2.tk) (pre.each u hm),fun H2 s3=>?_⟩
          obtain ⟨ad,pp,rfl,ha,hpp⟩:=hU.tk (s2.trans s3).tk
          have hl2:=(s2.trans s3) _ _ hl
          have hu2:=hpre.tk (s2.trans s3).tk
          refine .inr (.inl ⟨ad,_,_,_,rfl,rfl,SqT.of ha,ax 0 rfl rfl,_,rfl,.inl ⟨xs,SqL.of hl2,fun p2 hp2=>?_⟩⟩)
          have s4:Same H2 (upd H2 p2 (.lst (cY xs none (some (i:Int))))):=Same.new hp2
          refine ⟨u.name,p2,us.take i,cY xs none (some (i:Int)),rfl,af,by rw [e1]; exact hu2.tk (e1 ▸ s4.tk),by rw [e1,List.length_take]; omega,fun H3 s5=>?_⟩
          rw [decide_eq_false (ma pre.nd hu')]
          have s6:=s4.trans s5
          refine .inr (.inl ⟨ad,_,_,_,rfl,rfl,SqT.of (s6 _ _ ha),ax 3 rfl rfl,_,rfl,.inl ⟨xs,SqL.of (s6 _ _ hl2),fun p3 hp3=>?_⟩⟩)
          have s7:Same H3 (upd H3 p3 (.lst (cY xs none (some (i:Int))))):=Same.new hp3
          refine ⟨pp,p3,u.path,us.take i,cY xs none (some (i:Int)),rfl,s7 _ _ (s6 _ _ hpp),af,by rw [e1]; exact hu2.tk (e1 ▸ (s6.trans s7).tk),?_⟩
          have pl:li u.path (us.take i) = true:=by
            cases ht:us.take i with
            | nil=>rfl
            | cons v vs =>
              have hv:v ∈ us:=List.mem_of_mem_take (i:=i) (by rw [ht]; exact List.mem_cons_self)
              exact decide_eq_true (pre.pth u hm v hv)
          rw [pl]
          exact ⟨hlt,((s2.trans s3).trans s6).trans s7,_,_,rfl⟩
        · have hik':i = k:=by omega
          subst hik'
          have hxy:x = y:=by rw [hy] at hx; exact (Option.some.inj hx).symm
          subst hxy
          have eus:us.take i = us:=List.take_of_length_le (by omega)
          rw [eus] at hpre
          cases bad with
          | unit h=>exact ⟨x,false,rfl,h.same s2,fun H2 s3=>iO (s2.trans s3) q⟩
          | name u hU g n =>
            refine ⟨x,true,rfl,im (hU.tk s2.tk) g,fun H2 s3=>?_⟩
            obtain ⟨ad,pp,rfl,ha,hpp⟩:=hU.tk (s2.trans s3).tk
            have hl2:=(s2.trans s3) _ _ hl
            have hu2:=hpre.tk (s2.trans s3).tk
            refine .inr (.inl ⟨ad,_,_,_,rfl,rfl,SqT.of ha,ax 0 rfl rfl,_,rfl,.inl ⟨xs,SqL.of hl2,fun p2 hp2=>?_⟩⟩)
            have s4:Same H2 (upd H2 p2 (.lst (cY xs none (some (i:Int))))):=Same.new hp2
            refine ⟨u.name,p2,us,cY xs none (some (i:Int)),rfl,af,by rw [e1]; exact hu2.tk (e1 ▸ s4.tk),by rw [e1,List.length_take]; omega,fun H3 s5=>?_⟩
            rw [decide_eq_true n]
            exact iO ((s2.trans s3).trans (s4.trans s5)) q
          | path u hU g n =>
            refine ⟨x,true,rfl,im (hU.tk s2.tk) g,fun H2 s3=>?_⟩
            obtain ⟨ad,pp,rfl,ha,hpp⟩:=hU.tk (s2.trans s3).tk
            have hl2:=(s2.trans s3) _ _ hl
            have hu2:=hpre.tk (s2.trans s3).tk
            refine .inr (.inl ⟨ad,_,_,_,rfl,rfl,SqT.of ha,ax 0 rfl rfl,_,rfl,.inl ⟨xs,SqL.of hl2,fun p2 hp2=>?_⟩⟩)
            have s4:Same H2 (upd H2 p2 (.lst (cY xs none (some (i:Int))))):=Same.new hp2
            refine ⟨u.name,p2,us,cY xs none (some (i:Int)),rfl,af,by rw [e1]; exact hu2.tk (e1 ▸ s4.tk),by rw [e1,List.length_take]; omega,fun H3 s5=>?_⟩
            have s6:=s4.trans s5
            have s26:=(s2.trans s3).trans s6
            refine ifB (fun _=>zy (iO s26 q)) (fun _=>?_)
            refine .inr (.inl ⟨ad,_,_,_,rfl,rfl,SqT.of (s6 _ _ ha),ax 3 rfl rfl,_,rfl,.inl ⟨xs,SqL.of (s6 _ _ hl2),fun p3 hp3=>?_⟩⟩)
            have s7:Same H3 (upd H3 p3 (.lst (cY xs none (some (i:Int))))):=Same.new hp3
            refine ⟨pp,p3,u.path,us,cY xs none (some (i:Int)),rfl,s7 _ _ (s6 _ _ hpp),af,by rw [e1]; exact hu2.tk (e1 ▸ (s6.trans s7).tk),?_⟩
            rw [n]
            exact iO (s26.trans s7) q
      · rintro σ H' ⟨h,_⟩
        omega
end
end My
namespace My
open PySem L2 FrM
def qr:Sp:=fun vs H Q _=>∃ (x y:Int),vs = [.int x,.int y]∧0≤x∧0≤y∧Q (.int (Int.gcd x y)) H
def yw (H:Hp) (Q:VK) (T B:Int):Prop:=∀ H' p,Same H H'→H' p = some (.tup [.int (eJ T B).1,.int (eJ T B).2])→Q (.ref p) H'
def jT:Sp:=fun vs H Q _=>∃ (T B:Int),vs = [.int T,.int B]∧0 < B∧Bt 3000 T∧Bt 3000 B∧yw H Q T B
def PT (K:PySem.W.Frag) (H:Hp) (p:Addr) (f:Int×Int):Prop:=H p = some (.tup [.int f.1,.int f.2])∨js K p [.int f.1,.int f.2] = true
theorem PT.sq {K:PySem.W.Frag} {H:Hp} {p:Addr} {f:Int×Int} (h:PT K H p f):SqT K H p [.int f.1,.int f.2]:=h.elim SqT.of vY
def IsF (K:PySem.W.Frag) (H:Hp) (f:Int×Int) (x:V):Prop:=∃ p,x = .ref p∧PT K H p f
theorem IsF.tk {K:PySem.W.Frag} {H H':Hp} {f:Int×Int} {x:V} (k:TK H H') (h:IsF K H f x):IsF K H' f x:=let ⟨p,e,q⟩:=h; ⟨p,e,q.imp (fun z=>k _ _ z) id⟩
abbrev AllF (K:PySem.W.Frag) (H:Hp):List (Int×Int)→List V→Prop:=PySem.Paired (IsF K H)
theorem IsF.same {K:PySem.W.Frag} {H H':Hp} {f:Int×Int} {x:V} (s:Same H H') (h:IsF K H f x):IsF K H' f x:=h.tk s.tk
theorem AllF.same {K:PySem.W.Frag} {H H':Hp} (s:Same H H'):∀ {fs:List (Int×Int)} {xs:List V},AllF K H fs xs→AllF K H' fs xs
  | _,_,.nil=>.nil
  | _,_,.cons r t=>.cons (r.same s) (AllF.same s t)
theorem AllF.tk {K:PySem.W.Frag} {H H':Hp} (k:TK H H'):∀ {fs:List (Int×Int)} {xs:List V},AllF K H fs xs→AllF K H' fs xs
  | _,_,.nil=>.nil
  | _,_,.cons r t=>.cons (r.tk k) (AllF.tk k t)
theorem AllF.get {K:PySem.W.Frag} {H:Hp}:∀ {fs:List (Int×Int)} {xs:List V} {i:Nat} {x:V},AllF K H fs xs→xs[i]? = some x→∃ f,fs[i]? = some f∧IsF K H f x
  | _,_,_,_,.nil,h=>by cases h
  | _,_,0,_,.cons r _,h=>⟨_,rfl,by cases h; exact r⟩
  | _,_,i + 1,_,.cons _ t,h=>AllF.get (i:=i) t h
theorem AllF.snoc {K:PySem.W.Frag} {H:Hp} {f:Int×Int} {x:V} (r:IsF K H f x):∀ {fs:List (Int×Int)} {xs:List V},AllF K H fs xs→AllF K H (fs ++ [f]) (xs ++ [x])
  | _,_,.nil=>.cons r .nil
  | _,_,.cons q t=>.cons q (AllF.snoc r t)
theorem AllF.len {K:PySem.W.Frag} {H:Hp} {fs:List (Int×Int)} {xs:List V} (h:AllF K H fs xs):fs.length = xs.length:=Paired.length h
theorem tI (T B:Int):Int.gcd (if T < 0 then -T else T) B = Int.gcd T B:=by
  split
  · exact Int.neg_gcd
  · rfl
theorem px0 {K:PySem.W.Frag} {H:Hp} {p:Addr} {x y:V} {Q:VK} (h:SqT K H p [x,y]) (q:Q x H):rIx K (.ref p) (.int 0) H Q:=.inr (.inl ⟨p,_,_,x,rfl,rfl,h,aH (j:=0) rfl,q⟩)
theorem px1 {K:PySem.W.Frag} {H:Hp} {p:Addr} {x y:V} {Q:VK} (h:SqT K H p [x,y]) (q:Q y H):rIx K (.ref p) (.int 1) H Q:=.inr (.inl ⟨p,_,_,y,rfl,rfl,h,aH (j:=1) rfl,q⟩)
theorem qy (x y:V):[x,y].length≤sizeLine:=by show 2≤sizeLine; decide
theorem jp {T B:Int} (h:0 < B):1≤(eJ T B).2∧(eJ T B).2≤B∧(eJ T B).1.natAbs≤T.natAbs∧(T = 0→(eJ T B).2 = 1)∧((eJ T B).1 = 0→T = 0)∧(0≤T→0≤(eJ T B).1)∧(T≤B→(eJ T B).1≤(eJ T B).2):=by
  have g0:0 < Int.gcd T B:=Int.gcd_pos_of_ne_zero_right _ (by omega)
  obtain ⟨c,hc⟩:=Int.gcd_dvd_left (a:=T) (b:=B)
  obtain ⟨d,hd⟩:=Int.gcd_dvd_right (a:=T) (b:=B)
  generalize hg:(Int.gcd T B:Int) = g at hc hd
  have g1:0 < g:=by rw [← hg]; omega
  have e1:(eJ T B).1 = c:=by show T / (Int.gcd T B:Int) = c; rw [hg,hc]; exact Int.mul_ediv_cancel_left _ (by omega)
  have e2:(eJ T B).2 = d:=by show B / (Int.gcd T B:Int) = d; rw [hg,hd]; exact Int.mul_ediv_cancel_left _ (by omega)
  rw [e1,e2]
  have d0:0 < d:=by
    rcases Int.lt_or_le 0 d with h' | h'
    · exact h'
    · have:=Int.mul_nonpos_of_nonneg_of_nonpos (Int.le_of_lt g1) h'
      omega
  refine ⟨by omega,?_,?_,fun z=>?_,fun z=>by rw [hc,z,Int.mul_zero],fun z=>?_,fun z=>?_⟩
  · rw [hd]; have:=Int.mul_le_mul_of_nonneg_right (show (1:Int)≤g by omega) (Int.le_of_lt d0); omega
  · rw [hc,Int.natAbs_mul]; exact Nat.le_mul_of_pos_left _ (by omega)
  · have:(Int.gcd T B:Int) = B:=by rw [z,Int.gcd_zero_left]; omega
    rw [hg] at this
    rw [this] at hd
    have:B * d = B * 1:=by omega
    exact Int.eq_of_mul_eq_mul_left (by omega) this
  · rcases Int.lt_or_le c 0 with h' | h'
    · have:=Int.mul_neg_of_pos_of_neg g1 h'; omega
    · exact h'
  · rw [hc,hd] at z; exact Int.le_of_mul_le_mul_left z g1
def gm (F G:Int→Int→Int→Int→Int) (c:Int→Prop) (K:PySem.W.Frag):Sp:=fun vs H Q _=>∃ (x y:V) (t b t' b':Int),vs = [x,y]∧IsF K H (t,b) x∧IsF K H (t',b') y∧0 < b∧0 < b'∧Bt 900 t∧Bt 900 b∧Bt 900 t'∧Bt 900 b'∧c t'∧∀ H' z,Same H H'→IsF K H' (eJ (F t b t' b') (G t b t' b')) z→Q z H'
def uK (K:PySem.W.Frag):Sp:=fun vs H Q _=>∃ (l:Addr) (ns:List Int),vs = [.ref l]∧SqL K H l (ns.map V.int)∧ns.length≤25∧(∀ n ∈ ns,1≤n∧n≤2000)∧∀ r,1≤r→Bt 276 r→Q (.int r) H
def Sml (f:Int×Int):Prop:=Bt 200 f.1∧1≤f.2∧f.2≤2000
def kC (K:PySem.W.Frag):Sp:=fun vs H Q _=>∃ (l:Addr) (fs:List (Int×Int)) (xs:List V),vs = [.ref l]∧H l = some (.lst xs)∧AllF K H fs xs∧xs.length≤25∧(∀ f ∈ fs,Sml f)∧∀ H' z,Same H H'→Q z H'
theorem wb {n:Nat} {i j:Int} (h1:Bt n i) (h2:Bt n j):Bt (n + 1) (i + j):=by
  unfold Bt at *
  rw [Nat.pow_succ]
  omega
theorem uN:∀ (ns:List Int) (m:Nat),ns.length≤m→(∀ n ∈ ns,Bt 500 n)→Bt (500 + m) ns.sum
  | [],m,_,_=>by show (0:Int).natAbs < _; exact Nat.pow_pos (by decide)
  | n :: r,0,h,_=>by simp at h
  | n :: r,m + 1,h,hb=>by
    rw [List.sum_cons]
    have h1:Bt (500 + m) n:=(hb n (List.mem_cons_self ..)).mono (by omega)
    exact wb h1 (uN r m (by simp at h; omega) fun x hx=>hb x (List.mem_cons_of_mem _ hx))
section
variable {P:Program} {w:World} {K:PySem.W.Frag} {mg:Str→Option Value} {base:Heap} {a:Ad}
theorem sh (T:Txt K mg a):FnOk P w K mg base CX0 1 a.f_greatest_divisor a.d_greatest_divisor ["one", "other"] qr:=by
  refine T.F_greatest_divisor.ok sc_greatest_divisor (fun vs H Q E h=>?_) (fun cdv A outer s H vs Q E hr h=>?_)
  · obtain ⟨x,y,rfl,_⟩:=h; rfl
  · obtain ⟨x0,y0,rfl,h0,h1,q⟩:=h
    refine ⟨_,(aj (rq PassesOwn.never (lE (vr 1) (fun _=>rfl)) (ak (wp rfl sc_greatest_divisor.nd (i:=0) (j:=1) rfl rfl (by decide) rfl rfl (aa (vr 1) (aa (av fN (vr 0) (vr 1)) ae)) rfl))) (ak (aq (vr 0)))),?_⟩
    refine ⟨fun m σ H'=>H' = H∧∃ x y:Int,0≤x∧0≤y∧m = y.toNat∧Int.gcd x y = Int.gcd x0 y0∧σ = [some (.int x),some (.int y)],⟨_,rfl,x0,y0,h0,h1,rfl,rfl,rfl⟩,?_⟩
    rintro m σ H' ⟨rfl,x,y,hx,hy,rfl,hg,rfl⟩
    refine ⟨_,rfl,?_⟩
    refine ifB (fun c=>?_) (fun c=>?_)
    · have c':y≠0:=by simpa using c
      refine ⟨fun σ' H''=>H'' = H'∧σ' = [some (.int y),some (.int (x % y))],?_,?_⟩
      · rintro σ' H'' ⟨rfl,rfl⟩
        exact ⟨(x % y).toNat,by have:=Int.emod_lt_of_pos x (show 0 < y by omega); have:=Int.emod_nonneg x c'; omega,rfl,y,x % y,hy,Int.emod_nonneg x c',rfl,by rw [qP,hg],rfl⟩
      · exact ⟨cp (by omega),_,_,rfl,rfl,rfl⟩
    · have c':y = 0:=by simpa using c
      subst c'
      rw [Int.gcd_zero_right] at hg
      have:x = (Int.gcd x0 y0:Int):=by omega
      rw [← this] at q
      exact q
theorem fZ (T:Txt K mg a):FnOk P w K mg base CX0 2 a.f_share a.d_share ["top", "bottom"] jT:=by
  have G_share:FnOk P w K mg base CX0 1 a.f_share a.d_share ["top", "bottom"] wR:=yd
  have G_greatest_divisor:FnOk P w K mg base CX0 1 _ _ _ qr:=sh T
  refine T.F_share.ok sc_share (fun vs H Q E h=>?_) (fun cdv A outer s H vs Q E hr h=>?_)
  · obtain ⟨x,y,rfl,_⟩:=h; rfl
  · obtain ⟨t,b,rfl,hb,b1,b2,q⟩:=h
    refine ⟨_,(aj (bu (bz qD (vr 1) ai (aT _)) (ak (aq (am G_share hr rfl T.m_share T.F_share.kp T.B_share .nil ar (aa (qp qJ (vr 0)) (aa (qp qJ (vr 1)) ae))))) aM) (aj (az (i:=2) sc_share.nd rfl (Or.inl rfl) (am G_greatest_divisor hr rfl T.m_greatest_divisor T.F_greatest_divisor.kp T.B_greatest_divisor .nil ar (aa (aB lU rfl T.z_abs rR (aa (vr 0) ae)) (aa (vr 1) ae)))) (ak (aq (bw (aa (av dY (vr 0) (vr 2)) (aa (av dY (vr 1) (vr 2)) ae))))))),?_⟩
    obtain ⟨l1,l2,l3,l4,l5⟩:=low t b hb
    refine ifC (fun c=>absurd c (by omega)) (fun _=>?_)
    refine ⟨t,rfl,⟨_,_,rfl,by split <;> omega,by omega,?_⟩⟩
    rw [tI]
    have hd:Bt 3000 (Int.gcd t b:Int):=b2.le (by omega)
    refine ⟨cdB l1 hd,cdB l1 hd,qy _ _,fun p hp=>?_⟩
    exact q _ p (Same.new hp) af
theorem lx (T:Txt K mg a):FnOk P w K mg base CX0 3 a.f_times a.d_times ["one", "other"] (gm (fun t b t' b'=>t * t') (fun t b t' b'=>b * b') (fun _=>True) K):=by
  have G_share:FnOk P w K mg base CX0 2 _ _ _ jT:=fZ T
  refine T.F_times.ok qf (fun vs H Q E h=>?_) (fun cdv A outer s H vs Q E hr h=>?_)
  · obtain ⟨x,y,t,b,t',b',rfl,_⟩:=h; rfl
  · obtain ⟨x,y,t,b,t',b',rfl,⟨x,rfl,hx⟩,⟨y,rfl,hy⟩,d1,d2,z1,z2,z3,z4,hc,q⟩:=h
    have hp:=hx.sq
    have hr':=hy.sq
    refine ⟨_,(ak (aq (am G_share hr rfl T.m_share T.F_share.kp T.B_share .nil ar (aa (av cx (aA au (vr 0) ai (fun _ _=>rfl)) (aA au (vr 1) ai (fun _ _=>rfl))) (aa (av cx (aA au (vr 0) ai (fun _ _=>rfl)) (aA au (vr 1) ai (fun _ _=>rfl))) ae))))),?_⟩
    refine px0 hp (px0 hr' ⟨cmB z1 z3,px1 hp (px1 hr' ⟨cmB z2 z4,?_⟩)⟩)
    exact ⟨_,_,rfl,Int.mul_pos d1 d2,(z1.mul z3).mono (by decide),(z2.mul z4).mono (by decide),fun H' r s hr2=>q _ _ s ⟨r,rfl,.inl hr2⟩⟩
theorem ut (T:Txt K mg a):FnOk P w K mg base CX0 3 a.f_over a.d_over ["one", "other"] (gm (fun t b t' b'=>t * b') (fun t b t' b'=>b * t') (fun t'=>0 < t') K):=by
  have G_share:FnOk P w K mg base CX0 2 _ _ _ jT:=fZ T
  refine T.F_over.ok tM (fun vs H Q E h=>?_) (fun cdv A outer s H vs Q E hr h=>?_)
  · obtain ⟨x,y,t,b,t',b',rfl,_⟩:=h; rfl
  · obtain ⟨x,y,t,b,t',b',rfl,⟨x,rfl,hx⟩,⟨y,rfl,hy⟩,d1,d2,z1,z2,z3,z4,hc,q⟩:=h
    have hp:=hx.sq
    have hr':=hy.sq
    refine ⟨_,(ak (aq (am G_share hr rfl T.m_share T.F_share.kp T.B_share .nil ar (aa (av cx (aA au (vr 0) ai (fun _ _=>rfl)) (aA au (vr 1) ai (fun _ _=>rfl))) (aa (av cx (aA au (vr 0) ai (fun _ _=>rfl)) (aA au (vr 1) ai (fun _ _=>rfl))) ae))))),?_⟩
    refine px0 hp (px1 hr' ⟨cmB z1 z4,px1 hp (px0 hr' ⟨cmB z2 z3,?_⟩)⟩)
    exact ⟨_,_,rfl,Int.mul_pos d1 hc,(z1.mul z4).mono (by decide),(z2.mul z3).mono (by decide),fun H' r s hr2=>q _ _ s ⟨r,rfl,.inl hr2⟩⟩
theorem qw (T:Txt K mg a):FnOk P w K mg base CX0 3 a.f_minus a.d_minus ["one", "other"] (gm (fun t b t' b'=>t * b' - t' * b) (fun t b t' b'=>b * b') (fun _=>True) K):=by
  have G_share:FnOk P w K mg base CX0 2 _ _ _ jT:=fZ T
  refine T.F_minus.ok rz (fun vs H Q E h=>?_) (fun cdv A outer s H vs Q E hr h=>?_)
  · obtain ⟨x,y,t,b,t',b',rfl,_⟩:=h; rfl
  · obtain ⟨x,y,t,b,t',b',rfl,⟨x,rfl,hx⟩,⟨y,rfl,hy⟩,d1,d2,z1,z2,z3,z4,hc,q⟩:=h
    have hp:=hx.sq
    have hr':=hy.sq
    refine ⟨_,(ak (aq (am G_share hr rfl T.m_share T.F_share.kp T.B_share .nil ar (aa (av fj (av cx (aA au (vr 0) ai (fun _ _=>rfl)) (aA au (vr 1) ai (fun _ _=>rfl))) (av cx (aA au (vr 1) ai (fun _ _=>rfl)) (aA au (vr 0) ai (fun _ _=>rfl)))) (aa (av cx (aA au (vr 0) ai (fun _ _=>rfl)) (aA au (vr 1) ai (fun _ _=>rfl))) ae))))),?_⟩
    refine px0 hp (px1 hr' ⟨cmB z1 z4,px0 hr' (px1 hp ⟨cmB z3 z2,px1 hp (px1 hr' ⟨cmB z2 z4,?_⟩)⟩)⟩)
    exact ⟨_,_,rfl,Int.mul_pos d1 d2,((z1.mul z4).sub ((z3.mul z2).mono (by decide))).mono (by decide),(z2.mul z4).mono (by decide),fun H' r s hr2=>q _ _ s ⟨r,rfl,.inl hr2⟩⟩
theorem vk (T:Txt K mg a):FnOk P w K mg base CX0 2 a.f_least_multiple a.d_least_multiple ["numbers"] (uK K):=by
  have G_greatest_divisor:FnOk P w K mg base CX0 1 _ _ _ qr:=sh T
  refine T.F_least_multiple.ok sc_least_multiple (fun vs H Q E h=>?_) (fun cdv A outer s H vs Q E hr h=>?_)
  · obtain ⟨l,ns,rfl,_⟩:=h; rfl
  · obtain ⟨l,ns,rfl,hl,hlen,hns,q⟩:=h
    refine ⟨_,(aj (az (i:=1) sc_least_multiple.nd rfl (Or.inl rfl) ai) (aj (d7 PassesOwn.never rfl (db (vr 0)) (aw (i:=2) sc_least_multiple.nd rfl (Or.inl rfl)) (ak (az (i:=1) sc_least_multiple.nd rfl (Or.inl rfl) (av cx (av dY (vr 1) (am G_greatest_divisor hr rfl T.m_greatest_divisor T.F_greatest_divisor.kp T.B_greatest_divisor .nil ar (aa (vr 1) (aa (vr 2) ae)))) (vr 2))))) (ak (aq (vr 1))))),?_⟩
    refine .inl ⟨⟨_,hl⟩,fD (K:=K) (a:=l) (xs:=ns.map V.int) (fun i σ H'=>H' = H∧∃ (r:Int) (x:Option V),σ = [some (.ref l),some (.int r),x]∧1≤r∧Bt (11 * i) (r - 1)∧i≤25) ⟨rfl,1,none,rfl,by omega,by show (0:Int).natAbs < _; decide,by omega⟩ (fun i σ H' _ h=>by rw [h.1]; exact hl) ?_ ?_⟩
    · rintro i x σ H' hx ⟨rfl,r,x2,rfl,r1,hb,hi⟩
      rw [List.getElem?_map] at hx
      obtain ⟨n,hn,rfl⟩:∃ n,ns[i]? = some n∧V.int n = x:=by
        cases e:ns[i]? with
        | none=>rw [e] at hx; cases hx
        | some n=>rw [e] at hx; cases hx; exact ⟨n,rfl,rfl⟩
      obtain ⟨n1,n2⟩:=hns n (List.mem_of_getElem? hn)
      have ilt:i < ns.length:=(List.getElem?_eq_some_iff.mp hn).1
      have g0:0 < Int.gcd r n:=Int.gcd_pos_of_ne_zero_right _ (by omega)
      obtain ⟨c,hc⟩:=Int.gcd_dvd_left (a:=r) (b:=n)
      have hg2:(Int.gcd r n:Int)≤n:=Int.le_of_dvd (by omega) (Int.gcd_dvd_right (a:=r) (b:=n))
      have hb2:Bt 12 (Int.gcd r n:Int):=by unfold Bt; omega
      refine ⟨r,n,rfl,by omega,by omega,?_⟩
      have ec:r / (Int.gcd r n:Int) = c:=by
        have:=Int.mul_ediv_cancel_left c (show (Int.gcd r n:Int)≠0 by omega)
        rw [← hc] at this
        exact this
      have c1:1≤c:=by
        rcases Int.lt_or_le 0 c with h' | h'
        · omega
        · have:=Int.mul_nonpos_of_nonneg_of_nonpos (show (0:Int)≤(Int.gcd r n:Int) by omega) h'
          omega
      have cr:c≤r:=by
        have:=Int.mul_le_mul_of_nonneg_right (show (1:Int)≤(Int.gcd r n:Int) by omega) (show (0:Int)≤c by omega)
        omega
      refine ⟨cdB (by omega) hb2,?_⟩
      refine ⟨crB (by omega) (by omega),rfl,_,_,rfl,?_,?_,by omega⟩
      · show 1≤r / (Int.gcd r n:Int) * n
        rw [ec]
        have:=Int.mul_le_mul_of_nonneg_right c1 (show (0:Int)≤n by omega); omega
      · show Bt (11 * (i + 1)) (r / (Int.gcd r n:Int) * n - 1)
        rw [ec]
        have e11:11 * (i + 1) = 11 * i + 11:=by omega
        have h1:c * n≤r * n:=Int.mul_le_mul_of_nonneg_right cr (by omega)
        have h2:r * n≤r * 2000:=Int.mul_le_mul_of_nonneg_left n2 (by omega)
        have h3:=Int.mul_le_mul_of_nonneg_right c1 (show (0:Int)≤n by omega)
        unfold Bt at hb ⊢
        rw [e11,Nat.pow_add]
        have:2 ^ 11 = 2048:=by decide
        omega
    · rintro σ H' ⟨rfl,r,x2,rfl,r1,hb,hi⟩
      refine q r r1 ?_
      have h2:Bt 275 (r - 1):=hb.mono (by rw [List.length_map]; omega)
      unfold Bt at h2 ⊢
      have h3:(2:Nat) ^ 276 = 2 ^ 275 * 2:=Nat.pow_succ ..
      rw [h3]
      generalize (2:Nat) ^ 275 = z at h2
      omega
theorem lD (T:Txt K mg a):FnOk P w K mg base CX0 3 a.f_total a.d_total ["fractions"] (kC K):=by
  have G_least_multiple:FnOk P w K mg base CX0 2 _ _ _ (uK K):=vk T
  have G_share:FnOk P w K mg base CX0 2 _ _ _ jT:=fZ T
  refine T.F_total.ok sc_total (fun vs H Q E h=>?_) (fun cdv A outer s H vs Q E hr h=>?_)
  · obtain ⟨l,fs,xs,rfl,_⟩:=h; rfl
  · obtain ⟨l,fs,xs,rfl,hl,hF,hlen,hsm,q⟩:=h
    have small:sizeLine = 16777216:=sizeLine_eq
    have fl:fs.length = xs.length:=hF.len
    refine ⟨_,(aj (az (i:=1) sc_total.nd rfl (Or.inr rfl) (am G_least_multiple hr rfl T.m_least_multiple T.F_least_multiple.kp T.B_least_multiple .nil ar (aa (bC rfl (N:=["fraction"]) (ix:=[none]) ⟨rfl,rfl,rfl,rfl,trivial⟩ (db (vr 0)) ⟨fun C s H fp=>aw (i:=0) (show List.Nodup (["fraction"]:List Str) by decide +kernel) rfl (Or.inl rfl),fun C s H fp=>ck,fun C s H fp=>(aA (eG (K:=K) rfl) (vr 0) ai (fun _ _=>rfl))⟩) ae))) (ak (aq (am G_share hr rfl T.m_share T.F_share.kp T.B_share .nil ar (aa (aB (iG rfl) rfl T.z_sum mr (aa (bC rfl (N:=["top", "own", "bottom"]) (ix:=[none,none,some 1]) ⟨rfl,rfl,rfl,rfl,⟨rfl,rfl,rfl,trivial⟩⟩ (db (vr 0)) ⟨fun C s H fp=>(i8 (K:=K) (n:=2) rfl rfl (aG (aw (i:=0) (show List.Nodup (["top", "own", "bottom"]:List Str) by decide +kernel) rfl (Or.inl rfl)) (aG (aw (i:=1) (show List.Nodup (["top", "own", "bottom"]:List Str) by decide +kernel) rfl (Or.inl rfl)) dG))),fun C s H fp=>ck,fun C s H fp=>(av cx (vr 0) (av dY (vr 2) (vr 1)))⟩) ae)) (aa (vr 1) ae)))))),?_⟩
    refine .inl ⟨⟨_,SqL.of hl⟩,fun D hD=>?_⟩
    refine dq (K:=K) (a:=l) (xs:=xs) (fun i zs H'=>Same H H'∧H' D = some (.lst zs)∧i≤fs.length∧zs = ((fs.take i).map (·.2)).map V.int) ⟨Same.new hD,af,Nat.zero_le _,rfl⟩ (fun i ys H' h=>SqL.of (h.1 _ _ hl)) (fun i ys H' h=>h.2.1) ?_ ?_
    · rintro i y zs H' P' hy ⟨s1,hD1,hi,rfl⟩ hP'
      obtain ⟨⟨t,b⟩,hf,p,rfl,hp⟩:=hF.get hy
      have ilt:i < fs.length:=(List.getElem?_eq_some_iff.mp hf).1
      refine ⟨trivial,px1 (IsF.same s1 ⟨p,rfl,hp⟩ |> fun ⟨_,e,z⟩=>by cases e; exact z.sq) ⟨hD1,by rw [List.length_map,List.length_map,List.length_take]; omega,hP' _ _ ⟨s1.put hD,af,ilt,?_⟩⟩⟩
      rw [List.take_add_one,hf]
      simp
    rintro zs H1 ⟨s1,hD1,_,rfl⟩
    rw [← fl,List.take_length] at hD1
    refine ⟨D,fs.map (·.2),rfl,SqL.of hD1,by rw [List.length_map]; omega,fun n hn=>?_,fun r r1 hr=>?_⟩
    · obtain ⟨f,hf,rfl⟩:=List.mem_map.mp hn
      exact (hsm f hf).2
    refine .inl ⟨⟨_,SqL.of (s1 _ _ hl)⟩,fun D2 hD2=>?_⟩
    refine dq (K:=K) (a:=l) (xs:=xs) (fun i zs H'=>Same H1 H'∧H' D2 = some (.lst zs)∧i≤fs.length∧∃ ns:List Int,zs = ns.map V.int∧ns.length = i∧∀ n ∈ ns,Bt 500 n) ⟨Same.new hD2,af,Nat.zero_le _,[],rfl,rfl,fun n hn=>by cases hn⟩ (fun i ys H' h=>SqL.of (h.1 _ _ (s1 _ _ hl))) (fun i ys H' h=>h.2.1) ?_ ?_
    · rintro i y zs H' P' hy ⟨s2,hD3,hi,ns,rfl,hnl,hb⟩ hP'
      obtain ⟨⟨t,b⟩,hf,p,rfl,hp⟩:=hF.get hy
      have ilt:i < fs.length:=(List.getElem?_eq_some_iff.mp hf).1
      obtain ⟨b1,b2,b3⟩:=hsm _ (List.mem_of_getElem? hf)
      have hp':SqT K H' p [.int t,.int b]:=by
        obtain ⟨_,e,z⟩:=IsF.same (s1.trans s2) (x:=.ref p) ⟨p,rfl,hp⟩
        cases e
        exact z.sq
      have hbb:Bt 12 b:=by unfold Bt; have:b≤2000:=b3; have:1≤b:=b2; omega
      have hq:Bt 276 (r / b):=by
        unfold Bt at hr ⊢
        have h0:0≤r / b:=Int.ediv_nonneg (by omega) (by have:1≤b:=b2; omega)
        have h1:r / b≤r:=Int.ediv_le_self _ (by omega)
        omega
      have hbt:Bt 476 (t * (r / b)):=b1.mul hq
      refine ⟨p,_,rfl,hp',rfl,_,_,rfl,_,_,rfl,rfl,⟨rfl,trivial⟩,cdB (by have:1≤b:=b2; omega) hbb,cmB b1 hq,hD3,by rw [List.length_map]; omega,hP' _ _ ⟨s2.put hD2,af,ilt,ns ++ [_],by rw [List.map_append]; rfl,by rw [List.length_append,hnl]; rfl,fun n hn=>?_⟩⟩
      rcases List.mem_append.mp hn with h | h
      · exact hb n h
      · rw [List.mem_singleton.mp h]; exact hbt.mono (by decide)
    rintro zs H2 ⟨s2,hD3,_,ns,rfl,hnl,hb⟩
    refine ⟨D2,ns,rfl,SqL.of hD3,?_⟩
    exact ⟨_,_,rfl,by omega,(uN ns 25 (by omega) hb).mono (by decide),hr.mono (by decide),fun H3 p s3 _=>q _ _ ((s1.trans s2).trans s3)⟩
end
end My
namespace My
open PySem L2 FrM
def fF:Sp:=fun vs H Q _=>∃ (l:Addr) (us:List U) (xs:List V),vs = [.ref l]∧H l = some (.lst xs)∧AllU H us xs∧GoodL us∧∀ H' r,Same H H'→H r = none→H' r = some (.lst (us.map fun u=>V.int u.value))→Q (.ref r) H'
structure M where
  place:Int
  size:Int
  path:List Str
def mV (p:Addr) (m:M):List V:=[.int m.place,.int m.size,.ref p]
def IsM (H:Hp) (m:M) (x:V):Prop:=∃ a p,x = .ref a∧H a = some (.tup (mV p m))∧H p = some (.tup (m.path.map V.str))
theorem IsM.tk {H H':Hp} {m:M} {x:V} (k:TK H H') (h:IsM H m x):IsM H' m x:=let ⟨a,p,h1,h2,h3⟩:=h; ⟨a,p,h1,k a _ h2,k p _ h3⟩
abbrev AllM (H:Hp):List M→List V→Prop:=PySem.Paired (IsM H)
theorem AllM.tk {H H':Hp} (k:TK H H'):∀ {ms:List M} {xs:List V},AllM H ms xs→AllM H' ms xs
  | _,_,.nil=>.nil
  | _,_,.cons r t=>.cons (r.tk k) (AllM.tk k t)
theorem AllM.get {H:Hp}:∀ {ms:List M} {xs:List V} {i:Nat} {x:V},AllM H ms xs→xs[i]? = some x→∃ m,ms[i]? = some m∧IsM H m x
  | _,_,_,_,.nil,h=>by cases h
  | _,_,0,_,.cons r _,h=>⟨_,rfl,by cases h; exact r⟩
  | _,_,i + 1,_,.cons _ t,h=>AllM.get (i:=i) t h
theorem AllM.snoc {H:Hp} {m:M} {x:V} (r:IsM H m x):∀ {ms:List M} {xs:List V},AllM H ms xs→AllM H (ms ++ [m]) (xs ++ [x])
  | _,_,.nil=>.cons r .nil
  | _,_,.cons q t=>.cons q (AllM.snoc r t)
def hd (m:M):Str:=m.path.headD ⟨#[]⟩
def tl (m:M):M:={ m with path:=m.path.tail }
def gy:List (Str×List M)→Str→M→List (Str×List M)
  | [],n,m=>[(n,[m])]
  | (k,l) :: r,n,m=>if k = n then (k,l ++ [m]) :: r else (k,l) :: gy r n m
def groups (ms:List M):List (Str×List M):=ms.foldl (fun gs m=>gy gs (hd m) (tl m)) []
theorem iT (ms:List M) (m:M):groups (ms ++ [m]) = gy (groups ms) (hd m) (tl m):=by
  unfold groups
  rw [List.foldl_append]
  rfl
def yz (H:Hp) (g:Str×List M) (kv:Key×V):Prop:=kv.1 = .inr g.1∧∃ l ys,kv.2 = .ref l∧H l = some (.lst ys)∧AllM H g.2 ys
abbrev GR (H:Hp):List (Str×List M)→List (Key×V)→Prop:=PySem.Paired (yz H)
theorem GR.move {H H':Hp} (k:TK H H'):∀ {gs:List (Str×List M)} {kvs:List (Key×V)},(∀ l ys,V.ref l ∈ kvs.map (·.2)→H l = some (.lst ys)→H' l = some (.lst ys))→GR H gs kvs→GR H' gs kvs
  | _,_,_,.nil=>.nil
  | _,_,h,.cons ⟨r1,l,ys,r2,r3,r4⟩ t=>.cons ⟨r1,l,ys,r2,h l ys (by rw [← r2]; exact List.mem_cons_self) r3,r4.tk k⟩ (GR.move k (fun l ys hm=>h l ys (List.mem_cons_of_mem _ hm)) t)
theorem GR.miss {H:Hp} {n:Str} {m:M} {l:Addr} {x:V} (hl:H l = some (.lst [x])) (hx:IsM H m x):∀ {gs:List (Str×List M)} {kvs:List (Key×V)},GR H gs kvs→cP kvs (.inr n) = none→GR H (gy gs n m) (kvs ++ [(.inr n,.ref l)])
  | _,_,.nil,_=>.cons ⟨rfl,l,_,rfl,hl,.cons hx .nil⟩ .nil
  | (k,ms) :: gs,(kk,y) :: kvs,.cons ⟨r1,r2⟩ t,h=>by
    have hk:¬ kk = .inr n:=fun z=>by
      rw [cK z] at h
      cases h
    rw [cM hk] at h
    have hne:k≠n:=fun z=>hk (by rw [← z]; exact r1)
    unfold gy
    rw [if_neg hne]
    exact .cons ⟨r1,r2⟩ (GR.miss hl hx t h)
theorem GR.hit {H:Hp} {n:Str} {y:V}:∀ {gs:List (Str×List M)} {kvs:List (Key×V)},GR H gs kvs→(kvs.map (·.2)).Nodup→cP kvs (.inr n) = some y →
    ∃ l ys,y = .ref l∧V.ref l ∈ kvs.map (·.2)∧H l = some (.lst ys)∧∀ (H':Hp) (m:M) (x:V),TK H H'→(∀ b zs,b≠l→V.ref b ∈ kvs.map (·.2)→H b = some (.lst zs)→H' b = some (.lst zs))→H' l = some (.lst (ys ++ [x]))→IsM H' m x→GR H' (gy gs n m) kvs
  | _,_,.nil,_,h=>by cases h
  | (k,ms) :: gs,(kk,y0) :: kvs,.cons ⟨r1,l0,ys0,r2,r3,r4⟩ t,nd,h=>by
    rw [List.map_cons,List.nodup_cons] at nd
    have r2':y0 = V.ref l0:=r2
    by_cases hk:kk = .inr n
    · rw [cK hk] at h
      have e:y0 = y:=Option.some.inj h
      have hkn:k = n:=by
        have:(Sum.inr k:Key) = .inr n:=by rw [← hk]; exact r1.symm
        exact Sum.inr.inj this
      refine ⟨l0,ys0,by rw [← e]; exact r2',by rw [← r2']; exact List.mem_cons_self,r3,fun H' m x k' ho hl hx=>?_⟩
      unfold gy
      rw [if_pos hkn]
      refine .cons ⟨r1,l0,_,r2,hl,AllM.snoc hx (r4.tk k')⟩ (GR.move k' (fun b zs hb e'=>ho b zs (fun z=>?_) (List.mem_cons_of_mem _ hb) e') t)
      rw [z,← r2'] at hb
      exact nd.1 hb
    · rw [cM hk] at h
      obtain ⟨l,ys,e1,e2,e3,e4⟩:=GR.hit t nd.2 h
      have hne:k≠n:=fun z=>hk (by rw [← z]; exact r1)
      refine ⟨l,ys,e1,List.mem_cons_of_mem _ e2,e3,fun H' m x k' ho hl hx=>?_⟩
      have hl0:l0≠l:=fun z=>nd.1 (by rw [r2',z]; exact e2)
      unfold gy
      rw [if_neg hne]
      exact .cons ⟨r1,l0,ys0,r2,ho l0 ys0 hl0 (by rw [← r2']; exact List.mem_cons_self) r3,r4.tk k'⟩ (e4 H' m x k' (fun b zs h1 h2=>ho b zs h1 (List.mem_cons_of_mem _ h2)) hl hx)
theorem GR.has {H:Hp} {b:Addr}:∀ {gs:List (Str×List M)} {kvs:List (Key×V)},GR H gs kvs→V.ref b ∈ kvs.map (·.2)→∃ ys,H b = some (.lst ys)
  | _,_,.nil,h=>by cases h
  | _,_,.cons ⟨_,l,ys,r2,r3,_⟩ t,h=>by
    rw [List.map_cons,List.mem_cons] at h
    rcases h with h | h
    · rw [r2] at h
      cases h
      exact ⟨ys,r3⟩
    · exact GR.has t h
structure GT (H0 H:Hp) (r:Addr) (gs:List (Str×List M)) (as:List Addr) (kvs:List (Key×V)):Prop where
  top:H r = some (.lst (as.map V.ref))
  new:H0 r = none
  len:as.length = kvs.length
  row:∀ (j:Nat) (b:Addr) (k:Key) (y:V),as[j]? = some b→kvs[j]? = some (k,y)→H b = some (.tup [kV k,y])
  gr:GR H gs kvs
  nd:(kvs.map (·.2)).Nodup
  fresh:∀ l,V.ref l ∈ kvs.map (·.2)→H0 l = none∧l≠r
def lf:Sp:=fun vs H Q _=>∃ (l:Addr) (ms:List M) (xs:List V),vs = [.ref l]∧H l = some (.lst xs)∧AllM H ms xs∧xs.length≤24∧(∀ m ∈ ms,m.path≠[]∧m.path.length≤3)∧∀ H' r as kvs,Same H H'→GT H H' r (groups ms) as kvs→Q (.ref r) H'
def oy:Sp:=fun vs H Q _=>∃ (l:Addr) (us:List U) (xs:List V),vs = [.ref l]∧H l = some (.lst xs)∧AllU H us xs∧GoodL us∧∀ H' r ms cs,Same H H'→H' r = some (.lst cs)→AllM H' ms cs→ms.length = us.length→(∀ m ∈ ms,∃ u ∈ us,m.path = u.path)→Q (.ref r) H'
def PLR (H:Hp) (g:List M) (v:V):Prop:=∃ l ys,v = .ref l∧H l = some (.lst ys)∧AllM H g ys
theorem dU {α β:Type} {r r':α→β→Prop} (h:∀ a b,r a b→r' a b):∀ {as:List α} {bs:List β},Paired r as bs→Paired r' as bs
  | _,_,.nil=>.nil
  | _,_,.cons x t=>.cons (h _ _ x) (dU h t)
theorem hJ {α β:Type} {r:α→β→Prop}:∀ {as:List α} {bs:List β} {i:Nat} {y:β},Paired r as bs→bs[i]? = some y→∃ x,as[i]? = some x∧r x y
  | _,_,_,_,.nil,h=>by cases h
  | _,_,0,_,.cons x _,h=>⟨_,rfl,by cases h; exact x⟩
  | _,_,i + 1,_,.cons _ t,h=>hJ (i:=i) t h
theorem iR {α β:Type} {r:α→β→Prop}:∀ {as:List α} {bs:List β} {i:Nat} {x:α},Paired r as bs→as[i]? = some x→∃ y,bs[i]? = some y∧r x y
  | _,_,_,_,.nil,h=>by cases h
  | _,_,0,_,.cons x _,h=>⟨_,rfl,by cases h; exact x⟩
  | _,_,i + 1,_,.cons _ t,h=>iR (i:=i) t h
theorem iZ {α β:Type} {r:α→β→Prop} {x:α} {y:β} (q:r x y):∀ {as:List α} {bs:List β},Paired r as bs→Paired r (as ++ [x]) (bs ++ [y])
  | _,_,.nil=>.cons q .nil
  | _,_,.cons a t=>.cons a (iZ q t)
theorem lK {α β:Type} {r:α→β→Prop} {as:List α} {x:α} {i:Nat} {ys:List β} {y:β} (h:Paired r (as.take i) ys) (e:as[i]? = some x) (q:r x y):Paired r (as.take (i + 1)) (ys ++ [y]):=by
  rw [List.take_add_one,e]
  exact iZ q h
def parts (ms:List M):List (List M):=(groups ms).map (·.2)
def InG (gs:List (Str×List M)) (pl:Int):Prop:=∃ e ∈ gs,∃ m ∈ e.2,m.place = pl
theorem kg {n:Str} {m:M} {pl:Int}:∀ {gs:List (Str×List M)},InG gs pl→InG (gy gs n m) pl
  | [],⟨_,h,_⟩=>by cases h
  | (k,l) :: r,⟨e,he,m',hm,hp⟩=>by
    unfold gy
    by_cases c:k = n
    · rw [if_pos c]
      rcases List.mem_cons.mp he with rfl | he
      · exact ⟨_,List.mem_cons_self ..,m',List.mem_append_left _ hm,hp⟩
      · exact ⟨e,List.mem_cons_of_mem _ he,m',hm,hp⟩
    · rw [if_neg c]
      rcases List.mem_cons.mp he with rfl | he
      · exact ⟨_,List.mem_cons_self ..,m',hm,hp⟩
      · obtain ⟨e2,h2,h3⟩:=kg (n:=n) (m:=m) ⟨e,he,m',hm,hp⟩
        exact ⟨e2,List.mem_cons_of_mem _ h2,h3⟩
theorem nS {n:Str} {m:M}:∀ (gs:List (Str×List M)),InG (gy gs n m) m.place
  | []=>⟨_,List.mem_cons_self ..,m,List.mem_cons_self ..,rfl⟩
  | (k,l) :: r=>by
    unfold gy
    by_cases c:k = n
    · rw [if_pos c]
      exact ⟨_,List.mem_cons_self ..,m,List.mem_append_right _ (List.mem_cons_self ..),rfl⟩
    · rw [if_neg c]
      obtain ⟨e2,h2,h3⟩:=nS (n:=n) (m:=m) r
      exact ⟨e2,List.mem_cons_of_mem _ h2,h3⟩
theorem ke {n:Str} {m:M} {p:M→Prop} (hm:p m):∀ {gs:List (Str×List M)},(∀ e ∈ gs,e.2≠[]∧∀ x ∈ e.2,p x)→∀ e ∈ gy gs n m,e.2≠[]∧∀ x ∈ e.2,p x
  | [],_,e,he=>by
    rw [List.mem_singleton.mp he]
    exact ⟨by simp,fun x hx=>by rw [List.mem_singleton.mp hx]; exact hm⟩
  | (k,l) :: r,h,e,he=>by
    unfold gy at he
    by_cases c:k = n
    · rw [if_pos c] at he
      rcases List.mem_cons.mp he with rfl | he
      · refine ⟨by simp,fun x hx=>?_⟩
        rcases List.mem_append.mp hx with h1 | h1
        · exact (h _ (List.mem_cons_self ..)).2 x h1
        · rw [List.mem_singleton.mp h1]; exact hm
      · exact h e (List.mem_cons_of_mem _ he)
    · rw [if_neg c] at he
      rcases List.mem_cons.mp he with rfl | he
      · exact h _ (List.mem_cons_self ..)
      · exact ke hm (fun e he=>h e (List.mem_cons_of_mem _ he)) e he
def cnt (gs:List (Str×List M)):Nat:=(gs.map fun e=>e.2.length).sum
theorem lH {n:Str} {m:M}:∀ (gs:List (Str×List M)),cnt (gy gs n m) = cnt gs + 1
  | []=>rfl
  | (k,l) :: r=>by
    unfold gy
    by_cases c:k = n
    · rw [if_pos c]; simp [cnt]; omega
    · rw [if_neg c]
      have:=lH (n:=n) (m:=m) r
      simp only [cnt,List.map_cons,List.sum_cons] at *
      omega
theorem jj (ms:List M) {p:M→Prop} (hp:∀ m ∈ ms,p (tl m)):(∀ m ∈ ms,InG (groups ms) m.place)∧(∀ e ∈ groups ms,e.2≠[]∧∀ x ∈ e.2,p x)∧cnt (groups ms) = ms.length:=by
  have key:∀ i,i≤ms.length→(∀ m ∈ ms.take i,InG (groups (ms.take i)) m.place)∧(∀ e ∈ groups (ms.take i),e.2≠[]∧∀ x ∈ e.2,p x)∧cnt (groups (ms.take i)) = i:=by
    intro i
    induction i with
    | zero=>exact fun _=>⟨(fun m hm=>by cases hm),(fun e he=>by cases he),rfl⟩
    | succ i ih =>
      intro hi
      obtain ⟨h1,h2,h3⟩:=ih (by omega)
      have e:ms[i]? = some (ms[i]'(by omega)):=List.getElem?_eq_getElem _
      generalize ms[i]'(by omega) = m at e
      have et:ms.take (i + 1) = ms.take i ++ [m]:=by rw [List.take_add_one,e]; rfl
      rw [et,iT]
      refine ⟨fun m' hm'=>?_,ke (hp m (List.mem_of_getElem? e)) h2,?_⟩
      · rcases List.mem_append.mp hm' with h | h
        · exact kg (h1 m' h)
        · rw [List.mem_singleton.mp h]
          exact nS (m:=tl m) _
      · rw [lH,h3]
  have:=key ms.length (Nat.le_refl _)
  rw [List.take_length] at this
  exact this
theorem nv:∀ (gs:List (Str×List M)),(∀ e ∈ gs,e.2≠[])→gs.length≤cnt gs∧∀ e ∈ gs,e.2.length≤cnt gs
  | [],_=>⟨Nat.zero_le _,fun e he=>by cases he⟩
  | (k,l) :: r,h=>by
    obtain ⟨h1,h2⟩:=nv r fun e he=>h e (List.mem_cons_of_mem _ he)
    have h3:=h _ (List.mem_cons_self ..)
    have h4:1≤l.length:=by
      cases l with
      | nil=>exact absurd rfl h3
      | cons=>simp
    have e:cnt ((k,l) :: r) = l.length + cnt r:=by simp [cnt]
    rw [e]
    refine ⟨by simp; omega,fun e he=>?_⟩
    rcases List.mem_cons.mp he with rfl | he
    · show l.length≤_; omega
    · have:=h2 e he; omega
def Spot (H:Hp) (gs:List (List M)) (v:V):Prop:=∃ p,∃ g s:Nat,∃ l,v = .ref p∧H p = some (.tup [.int (g:Nat),.int (s:Nat)])∧gs[g]? = some l∧s < l.length
theorem Spot.tk {H H':Hp} {gs:List (List M)} {v:V} (k:TK H H') (h:Spot H gs v):Spot H' gs v:=by
  obtain ⟨p,g,s,l,h1,h2,h3,h4⟩:=h
  exact ⟨p,g,s,l,h1,k _ _ h2,h3,h4⟩
def kY:Sp:=fun vs H Q _=>∃ (l:Addr) (ms:List M) (xs:List V),vs = [.ref l]∧H l = some (.lst xs)∧AllM H ms xs∧xs.length≤24∧(∀ m ∈ ms,m.path≠[]∧m.path.length≤3)∧∀ H' r ys,Same H H'→H' r = some (.lst ys)→Paired (PLR H') (parts ms) ys→Q (.ref r) H'
def nW:Sp:=fun vs H Q _=>∃ (l r:Addr) (ms:List M) (gs:List (List M)) (xs ys:List V),vs = [.ref l,.ref r]∧H l = some (.lst xs)∧AllM H ms xs∧H r = some (.lst ys)∧Paired (PLR H) gs ys∧ms.length≤24∧gs.length≤24∧(∀ g ∈ gs,g.length≤24)∧(∀ m ∈ ms,∃ g ∈ gs,∃ m' ∈ g,m'.place = m.place) ∧
  ∀ H' t zs,Same H H'→H' t = some (.lst zs)→zs.length = ms.length→(∀ z ∈ zs,Spot H' gs z)→Q (.ref t) H'
section
variable {P:Program} {w:World} {K:PySem.W.Frag} {mg:Str→Option Value} {base:Heap} {a:Ad}
theorem fE (T:Txt K mg a):FnOk P w K mg base CX0 1 a.f_values_of a.d_values_of ["units"] fF:=by
  refine T.F_values_of.ok kG (fun vs H Q E h=>?_) (fun cdv A outer s H vs Q E hr h=>?_)
  · obtain ⟨l,us,xs,rfl,_⟩:=h; rfl
  · obtain ⟨l,us,xs,rfl,hl,hu,hg,q⟩:=h
    have small:sizeLine = 16777216:=sizeLine_eq
    have hlen:=hu.len
    have g2:=hg.l2
    refine ⟨_,(ak (aq (bC rfl (N:=["unit"]) (ix:=[none]) ⟨rfl,rfl,rfl,rfl,trivial⟩ (db (vr 0)) ⟨fun C s H fp=>aw (i:=0) (show List.Nodup (["unit"]:List Str) by decide +kernel) rfl (Or.inl rfl),fun C s H fp=>ck,fun C s H fp=>(aA (eG (K:=K) rfl) (vr 0) ai (fun _ _=>rfl))⟩))),?_⟩
    refine .inl ⟨⟨_,SqL.of hl⟩,fun D hD=>?_⟩
    refine dq (K:=K) (a:=l) (xs:=xs) (fun i ys H'=>i≤xs.length∧H' = upd H D (.lst ys)∧ys = (us.take i).map fun u=>V.int u.value) ⟨Nat.zero_le _,rfl,rfl⟩ (fun i ys H' h=>by rw [h.2.1]; exact SqL.of (by rw [ao (ay hl hD)]; exact hl)) (fun i ys H' h=>by rw [h.2.1]; exact af) ?_ ?_
    · rintro i x ys H' P' hx ⟨hi,rfl,rfl⟩ hP
      obtain ⟨u,hu',ad,p,rfl,ha,hp⟩:=hu.get hx
      have hlt:i < xs.length:=(List.getElem?_eq_some_iff.mp hx).1
      refine ⟨trivial,.inr (.inl ⟨ad,_,_,_,rfl,rfl,SqT.of (by rw [ao (ay ha hD)]; exact ha),ax 1 rfl rfl,af,?_,hP _ _ ⟨hlt,i7,?_⟩⟩)⟩
      · rw [List.length_map,List.length_take]; omega
      · rw [List.take_add_one,hu',List.map_append]; rfl
    · rintro ys H' ⟨_,rfl,rfl⟩
      rw [← hu.len,List.take_of_length_le (Nat.le_refl _)]
      exact q _ _ (Same.new hD) hD af
theorem pL (T:Txt K mg a):FnOk P w K mg base CX0 1 a.f_groups_of a.d_groups_of ["crowd"] lf:=by
  refine T.F_groups_of.ok sc_groups_of (fun vs H Q E h=>?_) (fun cdv A outer s H vs Q E hr h=>?_)
  · obtain ⟨l,ms,xs,rfl,_⟩:=h; rfl
  · obtain ⟨l,ms,xs,rfl,hl,hm,hz,hn,q⟩:=h
    refine ⟨_,(aj (az (i:=1) sc_groups_of.nd rfl (Or.inl rfl) jH) (aj (d7 PassesOwn.never rfl (db (vr 0)) (fu rfl (aG (aw (i:=2) sc_groups_of.nd rfl (Or.inl rfl)) (aG (aw (i:=3) sc_groups_of.nd rfl (Or.inl rfl)) (aG (aw (i:=4) sc_groups_of.nd rfl (Or.inl rfl)) dG)))) (aj (bu (fk (lE (vr 4) (fun _=>rfl))) (ak lW) aM) (ak (dF (pe_m.append (pe_m.setdefault (vr 1) (aa (aA au (vr 4) ai (fun _ _=>rfl)) (aa (dc ae) ae))) (aa (bw (aa (vr 2) (aa (vr 3) (aa (eO hZ (vr 4) (e8 ai) gK) ae)))) ae)))))) (ak (aq (eK (ni rfl) rfl T.z_list gL (aa (pe_m.items (vr 1)) ae)))))),?_⟩
    intro g hg
    have s0:Same H (upd H g (.dK [])):=Same.new hg
    have small:sizeLine = 16777216:=sizeLine_eq
    · refine .inl ⟨⟨xs,SqL.of (s0 _ _ hl)⟩,fD (K:=K) (a:=l) (xs:=xs) (fun i σ H'=>∃ (kvs:List (Key×V)) (x2 x3 x4:Option V),σ = [some (.ref l),some (.ref g),x2,x3,x4]∧Same H H'∧H' g = some (.dK kvs)∧GR H' (groups (ms.take i)) kvs ∧
        (kvs.map (·.2)).Nodup∧(∀ b,V.ref b ∈ kvs.map (·.2)→H b = none∧b≠g)∧kvs.length≤i∧∀ b ys,V.ref b ∈ kvs.map (·.2)→H' b = some (.lst ys)→ys.length≤i)
        ⟨[],none,none,none,rfl,s0,af,.nil,List.nodup_nil,(fun b hb=>by cases hb),Nat.le_refl _,fun b ys hb=>by cases hb⟩ (fun i σ H' _ h=>by obtain ⟨_,_,_,_,_,s1,_⟩:=h; exact SqL.of (s1 _ _ hl)) ?_ ?_⟩
      · rintro i x σ H' hx ⟨kvs,x2,x3,x4,rfl,sm,hg',gr,nd,fr,kl,yl⟩
        obtain ⟨m,hm',ad,pp,rfl,ha,hp⟩:=hm.get hx
        have hlt:i < xs.length:=(List.getElem?_eq_some_iff.mp hx).1
        obtain ⟨hne,hp3⟩:=hn m (List.mem_of_getElem? hm')
        have et:groups (ms.take (i + 1)) = gy (groups (ms.take i)) (hd m) (tl m):=by
          rw [List.take_add_one,hm']
          exact iT _ _
        obtain ⟨mp,mz,mpath⟩:=m
        cases mpath with
        | nil=>exact absurd rfl hne
        | cons n0 ps =>
          refine ⟨ad,_,rfl,SqT.of (sm _ _ ha),rfl,_,_,rfl,_,_,rfl,_,_,rfl,rfl,?_⟩
          refine ⟨_,.inr (.inl ⟨_,SqT.of (sm _ _ hp),rfl⟩),?_⟩
          refine ⟨.inr (.inr (.inl ⟨rfl,.inl ⟨_,hg'⟩⟩)),?_⟩
          refine .inr (.inl ⟨pp,_,_,.str n0,rfl,rfl,SqT.of (sm _ _ hp),ax 0 rfl rfl,?_⟩)
          refine ⟨Nat.zero_le _,fun p0 hp0=>?_⟩
          have sp0:Same H' (upd H' p0 (.lst [])):=Same.new hp0
          have cut:cY ((n0 :: ps).map V.str) (some ((1:Nat):Int)) none = ps.map V.str:=by rw [pG]; rfl
          have nw:¬ (HT.sIx ((n0 :: ps).map V.str).length 0 (some 1) = 0∧HT.sIx ((n0 :: ps).map V.str).length ((n0 :: ps).map V.str).length none = ((n0 :: ps).map V.str).length):=fun z=>by
            have z1:=z.1
            rw [show (some (1:Int)) = some ((1:Nat):Int) from rfl,HT.sIx_nat,List.length_map,List.length_cons] at z1
            omega
          have fr0:H p0 = none:=sm.free hp0
          have hpg:p0≠g:=(ay hg' hp0).symm
          refine ⟨g,kvs,.inr n0,.ref p0,rfl,rfl,sp0 _ _ hg',by omega,fun y hy=>?_,fun hno=>?_⟩
          · obtain ⟨ly,ys,rfl,hmem,hly,put⟩:=GR.hit gr nd hy
            refine ⟨.inl ⟨rfl,_,SqL.of (sp0 _ _ hly)⟩,?_⟩
            refine ⟨_,rfl,?_⟩
            refine .inr ⟨_,SqT.of (sp0 _ _ (sm _ _ hp)),nw,fun p1 hp1=>?_⟩
            have s1:=sp0.trans (Same.new (o:=.tup (cY ((n0 :: ps).map V.str) (some 1) none)) hp1)
            refine ⟨(by decide:3≤sizeLine),fun a1 ha1=>?_⟩
            have s2:=s1.trans (Same.new (o:=.tup [.int mp,.int mz,.ref p1]) ha1)
            have yb:=yl ly ys hmem hly
            refine ⟨ly,ys,.ref a1,rfl,rfl,s2 _ _ hly,by omega,?_⟩
            obtain ⟨fl1,fl2⟩:=fr ly hmem
            have l3:=s2 _ _ hly
            have na:a1≠ly:=fun z=>by rw [z,s1 _ _ hly] at ha1; cases ha1
            have np:p1≠ly:=fun z=>by rw [z,sp0 _ _ hly] at hp1; cases hp1
            have hp1a:p1≠a1:=fun z=>by rw [← z,af] at ha1; cases ha1
            refine ⟨kvs,_,_,_,rfl,(sm.trans s2).put fl1,by rw [ao fl2.symm]; exact s2 _ _ hg',?_,nd,fr,by omega,fun b zs hb hz'=>?_⟩
            · rw [et]
              refine put _ _ (.ref a1) (s2.tk.trans (TK.lst l3)) (fun b zs hb _ e=>by rw [ao hb]; exact s2 _ _ e) af ⟨a1,p1,rfl,?_,?_⟩
              · rw [ao na,af]; rfl
              · rw [ao np,ao hp1a,af,show (some (1:Int)) = some ((1:Nat):Int) from rfl,cut]; rfl
            · by_cases hbl:b = ly
              · rw [hbl,af] at hz'
                cases hz'
                rw [List.length_append]
                exact Nat.succ_le_succ yb
              · rw [ao hbl] at hz'
                obtain ⟨zs2,hb2⟩:=GR.has gr hb
                have:=s2 _ _ hb2
                rw [hz'] at this
                cases this
                exact Nat.le_succ_of_le (yl b _ hb hb2)
          · have hpd:(upd (upd H' p0 (.lst [])) g (.dK (kvs ++ [(.inr n0,.ref p0)]))) p0 = some (.lst []):=by rw [ao hpg,af]
            generalize hH2:upd (upd H' p0 (.lst [])) g (.dK (kvs ++ [(.inr n0,.ref p0)])) = H2 at hpd ⊢
            have k02:∀ b o,b≠g→b≠p0→H' b = some o→H2 b = some o:=fun b o h1 h2 e=>by rw [← hH2,ao h1,ao h2]; exact e
            have hp2:H2 pp = some (.tup ((n0 :: ps).map V.str)):=by
              have e1:=sm _ _ hp
              exact k02 _ _ (oH e1 hg' (fun z=>nomatch z)) (ay e1 hp0) e1
            have hg2:H2 g = some (.dK (kvs ++ [(.inr n0,.ref p0)])):=by rw [← hH2]; exact af
            refine ⟨.inl ⟨rfl,_,SqL.of hpd⟩,?_⟩
            refine ⟨_,rfl,?_⟩
            refine .inr ⟨_,SqT.of hp2,nw,fun p1 hp1=>?_⟩
            have s1:=Same.new (o:=.tup (cY ((n0 :: ps).map V.str) (some 1) none)) hp1
            refine ⟨(by decide:3≤sizeLine),fun a1 ha1=>?_⟩
            have s2:=s1.trans (Same.new (o:=.tup [.int mp,.int mz,.ref p1]) ha1)
            refine ⟨p0,[],.ref a1,rfl,rfl,s2 _ _ hpd,by rw [List.length_nil]; omega,?_⟩
            have l3:=s2 _ _ hpd
            have na:a1≠p0:=fun z=>by rw [z,s1 _ _ hpd] at ha1; cases ha1
            have np:p1≠p0:=fun z=>by rw [z,hpd] at hp1; cases hp1
            have hp1a:p1≠a1:=fun z=>by rw [← z,af] at ha1; cases ha1
            have notin:V.ref p0 ∉ kvs.map (·.2):=fun z=>by
              obtain ⟨ys,e⟩:=GR.has gr z
              rw [hp0] at e
              cases e
            have sH2:Same H H2:=fun b o e=>by
              have e1:=sm _ _ e
              exact k02 b o (ay e hg) (ay e1 hp0) e1
            have mv:∀ b ys,V.ref b ∈ kvs.map (·.2)→H' b = some (.lst ys)→(upd (upd (upd H2 p1 (.tup (cY ((n0 :: ps).map V.str) (some 1) none))) a1 (.tup [.int mp,.int mz,.ref p1])) p0 (.lst ([] ++ [.ref a1]))) b = some (.lst ys):=fun b ys hb e=>by
              have hb0:b≠p0:=fun z=>notin (z ▸ hb)
              rw [ao hb0]
              exact s2 _ _ (k02 b _ (fr b hb).2 hb0 e)
            have tkk:TK H' (upd (upd (upd H2 p1 (.tup (cY ((n0 :: ps).map V.str) (some 1) none))) a1 (.tup [.int mp,.int mz,.ref p1])) p0 (.lst ([] ++ [.ref a1]))):=fun b zs e=>by
              rw [ao (ay e hp0)]
              exact s2 _ _ (k02 b _ (oH e hg' (fun z=>nomatch z)) (ay e hp0) e)
            have isM:IsM (upd (upd (upd H2 p1 (.tup (cY ((n0 :: ps).map V.str) (some 1) none))) a1 (.tup [.int mp,.int mz,.ref p1])) p0 (.lst ([] ++ [.ref a1]))) (tl ⟨mp,mz,n0 :: ps⟩) (.ref a1):=by
              refine ⟨a1,p1,rfl,?_,?_⟩
              · rw [ao na,af]; rfl
              · rw [ao np,ao hp1a,af,show (some (1:Int)) = some ((1:Nat):Int) from rfl,cut]; rfl
            refine ⟨kvs ++ [(.inr n0,.ref p0)],_,_,_,rfl,(sH2.trans s2).put fr0,by rw [ao hpg.symm]; exact s2 _ _ hg2,?_,?_,fun b hb=>?_,by rw [List.length_append]; exact Nat.succ_le_succ kl,fun b zs hb hz'=>?_⟩
            · rw [et]
              exact GR.miss af isM (GR.move tkk mv gr) hno
            · rw [List.map_append,List.nodup_append]
              refine ⟨nd,by simp,fun x hx1 y hy1=>?_⟩
              have:y = V.ref p0:=by simpa using hy1
              rw [this]
              intro z
              exact notin (z ▸ hx1)
            · rw [List.map_append,List.mem_append] at hb
              rcases hb with hb | hb
              · exact fr b hb
              · have:b = p0:=by simpa using hb
                rw [this]
                exact ⟨fr0,hpg⟩
            · rw [List.map_append,List.mem_append] at hb
              rcases hb with hb | hb
              · obtain ⟨zs2,hb2⟩:=GR.has gr hb
                have:=mv b zs2 hb hb2
                rw [hz'] at this
                cases this
                exact Nat.le_succ_of_le (yl b _ hb hb2)
              · have:b = p0:=by simpa using hb
                rw [this,af] at hz'
                cases hz'
                exact Nat.succ_le_succ (Nat.zero_le _)
      · rintro σ H' ⟨kvs,x2,x3,x4,rfl,sm,hg',gr,nd,fr,kl,yl⟩
        refine ⟨.inr (.inr (.inl ⟨rfl,.inl ⟨_,hg'⟩⟩)),?_⟩
        refine ⟨g,kvs,rfl,rfl,hg',fun v hv=>?_⟩
        have sv:Same H' (upd H' v (.ext (IV v g))):=Same.new hv
        refine ⟨v,g,kvs,rfl,af,sv _ _ hg',fun r as H2 s2 hr hr2 hlen hrow=>?_⟩
        have sT:=sv.trans s2
        refine q H2 r as kvs (sm.trans sT) ⟨hr2,sm.free (sv.free hr),hlen,fun j b k y h1 h2=>(hrow j b k y h1 h2).2,?_,nd,fun b hb=>⟨(fr b hb).1,fun z=>?_⟩⟩
        · have el:ms.take xs.length = ms:=List.take_of_length_le (by rw [PySem.Paired.length hm]; exact Nat.le_refl _)
          rw [el] at gr
          exact GR.move sT.tk (fun b ys _ e=>sT _ _ e) gr
        · obtain ⟨ys,e⟩:=GR.has gr hb
          rw [z] at e
          have:=sv _ _ e
          rw [hr] at this
          cases this
theorem rT (T:Txt K mg a):FnOk P w K mg base CX0 1 a.f_crowd_of a.d_crowd_of ["units"] oy:=by
  refine T.F_crowd_of.ok lL (fun vs H Q E h=>?_) (fun cdv A outer s H vs Q E hr h=>?_)
  · obtain ⟨l,us,xs,rfl,_⟩:=h; rfl
  · obtain ⟨l,us,xs,rfl,hl,hu,hg,q⟩:=h
    have small:sizeLine = 16777216:=sizeLine_eq
    have hlen:=hu.len
    have g2:=hg.l2
    refine ⟨_,(ak (aq (bC rfl (N:=["place", "unit"]) (ix:=[none,none]) ⟨rfl,rfl,rfl,rfl,trivial⟩ (gG rfl T.z_enumerate (aa (vr 0) ae)) ⟨fun C s H fp=>(i8 (K:=K) (n:=2) rfl rfl (aG (aw (i:=0) (show List.Nodup (["place", "unit"]:List Str) by decide +kernel) rfl (Or.inl rfl)) (aG (aw (i:=1) (show List.Nodup (["place", "unit"]:List Str) by decide +kernel) rfl (Or.inl rfl)) dG))),fun C s H fp=>ck,fun C s H fp=>(bw (aa (vr 0) (aa (aA (eG (K:=K) rfl) (vr 1) ai (fun _ _=>rfl)) (aa (aA (eG (K:=K) rfl) (vr 1) ai (fun _ _=>rfl)) ae))))⟩))),?_⟩
    refine ⟨l,xs,rfl,hl,fun D hD=>?_⟩
    refine kf (a:=l) (xs:=xs) (fun i ys H'=>i≤xs.length∧Same H H'∧H' D = some (.lst ys)∧∃ ms,AllM H' ms ys∧ms.length = i∧∀ m ∈ ms,∃ u ∈ us,m.path = u.path) ⟨Nat.zero_le _,Same.new hD,af,[],.nil,rfl,fun m hm=>by cases hm⟩ (fun i ys H' h=>h.2.1 _ _ hl) (fun i ys H' h=>h.2.2.1) ?_ ?_
    · rintro i x ys H' p P' hx ⟨hi,s1,hD1,ms,hc,hml,hmu⟩ hp hP
      obtain ⟨u,hu',hU⟩:=hu.get hx
      have hlt:i < xs.length:=(List.getElem?_eq_some_iff.mp hx).1
      have s2:Same H' (upd H' p (.tup [.int (i:Nat),x])):=Same.new hp
      obtain ⟨ad,pp,rfl,ha,hpp⟩:=hU.tk (s1.trans s2).tk
      refine ⟨p,_,rfl,SqT.of af,rfl,_,_,rfl,_,_,rfl,rfl,trivial,?_⟩
      generalize upd H' p (.tup [.int (i:Nat),.ref ad]) = H1 at s2 ha hpp
      refine .inr (.inl ⟨ad,_,_,_,rfl,rfl,SqT.of ha,ax 2 rfl rfl,.inr (.inl ⟨ad,_,_,_,rfl,rfl,SqT.of ha,ax 3 rfl rfl,by show 3≤sizeLine; omega,fun t ht=>?_⟩)⟩)
      have s3:Same H1 (upd H1 t (.tup [.int (i:Nat),.int u.size,.ref pp])):=Same.new ht
      have hD2:=(s2.trans s3) _ _ hD1
      have hyl:ys.length = i:=by rw [← hml]; exact (Paired.length hc).symm
      have tk:TK _ (upd (upd H1 t (.tup [.int (i:Nat),.int u.size,.ref pp])) D (.lst (ys ++ [.ref t]))):=TK.lst hD2
      refine ⟨hD2,by omega,hP _ _ ⟨hlt,((s1.trans s2).trans s3).put hD,af,ms ++ [⟨(i:Int),u.size,u.path⟩],AllM.snoc ⟨t,pp,rfl,tk _ _ af,tk _ _ (s3 _ _ hpp)⟩ (hc.tk ((s2.trans s3).tk.trans tk)),by rw [List.length_append,hml]; rfl,fun m hm=>?_⟩⟩
      rcases List.mem_append.mp hm with h | h
      · exact hmu m h
      · rw [List.mem_singleton.mp h]
        exact ⟨u,List.mem_of_getElem? hu',rfl⟩
    · rintro ys H' ⟨_,s1,hD1,ms,hc,hml,hmu⟩
      exact q _ _ _ _ s1 hD1 hc (by omega) hmu
theorem pD (T:Txt K mg a):FnOk P w K mg base CX0 2 a.f_parted a.d_parted ["crowd"] kY:=by
  have G_groups_of:FnOk P w K mg base CX0 1 _ _ _ lf:=pL T
  refine T.F_parted.ok pN (fun vs H Q E h=>?_) (fun cdv A outer s H vs Q E hr h=>?_)
  · obtain ⟨l,ms,xs,rfl,_⟩:=h; rfl
  · obtain ⟨l,ms,xs,rfl,hl,hm,hz,hn,q⟩:=h
    have small:sizeLine = 16777216:=sizeLine_eq
    refine ⟨_,(ak (aq (bC rfl (N:=["name", "members"]) (ix:=[none,none]) ⟨rfl,rfl,rfl,rfl,trivial⟩ (db (am G_groups_of hr rfl T.m_groups_of T.F_groups_of.kp T.B_groups_of .nil ar (aa (vr 0) ae))) ⟨fun C s H fp=>(i8 (K:=K) (n:=2) rfl rfl (aG (aw (i:=0) (show List.Nodup (["name", "members"]:List Str) by decide +kernel) rfl (Or.inl rfl)) (aG (aw (i:=1) (show List.Nodup (["name", "members"]:List Str) by decide +kernel) rfl (Or.inl rfl)) dG))),fun C s H fp=>ck,fun C s H fp=>(vr 1)⟩))),?_⟩
    refine ⟨l,ms,xs,rfl,hl,hm,hz,hn,fun H1 r as kvs s1 gt=>?_⟩
    obtain ⟨top,new,len,row,gr,nd,fresh⟩:=gt
    refine .inl ⟨⟨_,SqL.of top⟩,fun D hD=>?_⟩
    have hgl:(parts ms).length = kvs.length:=by unfold parts; rw [List.length_map]; exact Paired.length gr
    have hk:kvs.length≤24:=by
      obtain ⟨_,h2,h3⟩:=jj ms (p:=fun _=>True) fun _ _=>trivial
      have h4:=(nv _ fun e he=>(h2 e he).1).1
      have h5:=Paired.length hm
      unfold parts at hgl
      rw [List.length_map] at hgl
      omega
    refine dq (K:=K) (a:=r) (xs:=as.map V.ref) (fun i zs H'=>Same H1 H'∧H' D = some (.lst zs)∧i≤kvs.length∧zs = (kvs.take i).map (·.2)) ⟨Same.new hD,af,Nat.zero_le _,rfl⟩ (fun i ys H' h=>SqL.of (h.1 _ _ top)) (fun i ys H' h=>h.2.1) ?_ ?_
    · rintro i y zs H' P' hy ⟨s2,hD1,hi,rfl⟩ hP'
      rw [List.getElem?_map] at hy
      obtain ⟨b,hb,rfl⟩:∃ b,as[i]? = some b∧V.ref b = y:=by
        cases e:as[i]? with
        | none=>rw [e] at hy; cases hy
        | some b=>rw [e] at hy; cases hy; exact ⟨b,rfl,rfl⟩
      have ilt:i < kvs.length:=by rw [← len]; exact (List.getElem?_eq_some_iff.mp hb).1
      have ek:kvs[i]? = some kvs[i]:=List.getElem?_eq_getElem ilt
      generalize kvs[i] = kv at ek
      obtain ⟨k,v⟩:=kv
      have hrow:=row i b k v hb ek
      refine ⟨b,_,rfl,SqT.of (s2 _ _ hrow),rfl,_,_,rfl,_,_,rfl,rfl,trivial,hD1,by rw [List.length_map,List.length_take]; omega,hP' _ _ ⟨s2.put hD,af,ilt,?_⟩⟩
      rw [List.take_add_one,ek]
      simp
    · rintro zs H' ⟨s2,hD1,_,rfl⟩
      rw [List.length_map,len,List.take_length] at hD1
      refine q _ D _ (s1.trans s2) hD1 ?_
      unfold parts
      have key:∀ {gs:List (Str×List M)} {kvs:List (Key×V)},GR H1 gs kvs→Paired (PLR H') (gs.map (·.2)) (kvs.map (·.2)):=by
        intro gs kvs h
        induction h with
        | nil=>exact .nil
        | cons r _ ih =>
          obtain ⟨_,l,ys,r2,r3,r4⟩:=r
          exact .cons ⟨l,ys,r2,s2 _ _ r3,r4.tk s2.tk⟩ ih
      exact key gr
theorem pY (kvs:List (Key×V)) (k:Key) (v:V):(eW kvs k v).length≤kvs.length + 1:=by
  unfold eW
  split
  · rw [List.length_map]; omega
  · rw [List.length_append]; exact Nat.le_refl _
theorem qM (T:Txt K mg a):FnOk P w K mg base CX0 1 a.f_spots_of a.d_spots_of ["crowd", "groups"] nW:=by
  refine T.F_spots_of.ok sc_spots_of (fun vs H Q E h=>?_) (fun cdv A outer s H vs Q E hr h=>?_)
  · obtain ⟨l,r,ms,gs,xs,ys,rfl,_⟩:=h; rfl
  · obtain ⟨l,r,ms,gs,xs,ys,rfl,hl,hm,hr',hg,h24,g24,e24,hin,q⟩:=h
    have small:sizeLine = 16777216:=sizeLine_eq
    have gl:gs.length = ys.length:=Paired.length hg
    refine ⟨_,(aj (az (i:=2) sc_spots_of.nd rfl (Or.inr rfl) jH) (aj (d7 PassesOwn.never rfl (gG rfl T.z_enumerate (aa (vr 1) ae)) (fu rfl (aG (aw (i:=3) sc_spots_of.nd rfl (Or.inl rfl)) (aG (aw (i:=4) sc_spots_of.nd rfl (Or.inl rfl)) dG))) (ak (d7 PassesOwn.never rfl (gG rfl T.z_enumerate (aa (vr 4) ae)) (fu rfl (aG (aw (i:=5) sc_spots_of.nd rfl (Or.inl rfl)) (aG (aw (i:=6) sc_spots_of.nd rfl (Or.inl rfl)) dG))) (ak (sH (uU hr) (vr 2) (aA au (vr 6) ai (fun _ _=>rfl)) (bw (aa (vr 3) (aa (vr 5) ae))) rfl))))) (ak (aq (bC rfl (N:=["member", "spots"]) (ix:=[none,some 2]) ⟨rfl,rfl,rfl,rfl,⟨rfl,rfl,rfl,trivial⟩⟩ (db (vr 0)) ⟨fun C s H fp=>aw (i:=0) (show List.Nodup (["member", "spots"]:List Str) by decide +kernel) rfl (Or.inl rfl),fun C s H fp=>ck,fun C s H fp=>(uF (uU hr) (vr 1) (aA (eG (K:=K) rfl) (vr 0) ai (fun _ _=>rfl)) (fun _ _=>rfl))⟩))))),?_⟩
    intro sp hsp
    have s0:Same H (upd H sp (.dK [])):=Same.new hsp
    refine ⟨r,ys,rfl,s0 _ _ hr',gz (a:=r) (xs:=ys) (fun i σ H'=>Same H H'∧∃ (kvs:List (Key×V)) (x3 x4 x5 x6:Option V),σ = [some (.ref l),some (.ref r),some (.ref sp),x3,x4,x5,x6]∧H' sp = some (.dK kvs)∧kvs.length≤24 * i∧i≤24∧(∀ k v,cP kvs (.inl k) = some v→Spot H' gs v)∧∀ g g',g < i→gs[g]? = some g'→∀ m ∈ g',(cP kvs (.inl m.place)).isSome = true)
      ⟨s0,[],none,none,none,none,rfl,af,Nat.zero_le _,Nat.zero_le _,(fun k v hv=>by cases hv),fun g g' hg=>absurd hg (Nat.not_lt_zero _)⟩ (fun i σ H' h=>h.1 _ _ hr') ?_ ?_⟩
    · rintro i x σ H' p hx ⟨s1,kvs,x3,x4,x5,x6,rfl,hd,hkl,hi24,hval,hall⟩ hp
      obtain ⟨g,hgi,lg,yg,rfl,hlg,hmg⟩:=hJ hg hx
      have ilt:i < ys.length:=(List.getElem?_eq_some_iff.mp hx).1
      have gl24:=e24 g (List.mem_of_getElem? hgi)
      have ygl:g.length = yg.length:=Paired.length hmg
      have s2:Same H' (upd H' p (.tup [.int (i:Nat),.ref lg])):=Same.new hp
      refine ⟨p,_,rfl,SqT.of af,rfl,_,_,rfl,_,_,rfl,rfl,?_⟩
      have s12:=s1.trans s2
      have hd2:=s2 _ _ hd
      have hval2:∀ k v,cP kvs (.inl k) = some v→Spot (upd H' p (.tup [.int (i:Nat),.ref lg])) gs v:=fun k v hv=>(hval k v hv).tk s2.tk
      generalize upd H' p (.tup [.int (i:Nat),.ref lg]) = H2 at s2 s12 hd2 hval2
      refine ⟨lg,yg,rfl,s12 _ _ hlg,gz (a:=lg) (xs:=yg) (fun j σ H3=>Same H H3∧∃ (kvs:List (Key×V)) (x5 x6:Option V),σ = [some (.ref l),some (.ref r),some (.ref sp),some (.int (i:Nat)),some (.ref lg),x5,x6]∧H3 sp = some (.dK kvs)∧kvs.length≤24 * i + j∧j≤24∧(∀ k v,cP kvs (.inl k) = some v→Spot H3 gs v)∧(∀ g2 g',g2 < i→gs[g2]? = some g'→∀ m ∈ g',(cP kvs (.inl m.place)).isSome = true)∧∀ m ∈ g.take j,(cP kvs (.inl m.place)).isSome = true)
        ⟨s12,kvs,_,_,rfl,hd2,by omega,by omega,hval2,hall,fun m hm=>by cases hm⟩ (fun j σ H3 h=>h.1 _ _ hlg) ?_ ?_⟩
      · rintro j y σ H3 p3 hy ⟨s3,kvs,x5,x6,rfl,hd3,hk3,hj24,hval3,hall3,hg3⟩ hp3
        obtain ⟨m,hmj,ad,pp,rfl,ha,hpp⟩:=hmg.get hy
        have jlt:j < yg.length:=(List.getElem?_eq_some_iff.mp hy).1
        have s4:Same H3 (upd H3 p3 (.tup [.int (j:Nat),.ref ad])):=Same.new hp3
        refine ⟨p3,_,rfl,SqT.of af,rfl,_,_,rfl,_,_,rfl,rfl,?_⟩
        refine ⟨by show 2≤sizeLine; decide,fun p5 hp5=>?_⟩
        have s5:=s4.trans (Same.new (o:=.tup [.int (i:Nat),.int (j:Nat)]) hp5)
        have e5:(upd (upd H3 p3 (.tup [.int (j:Nat),.ref ad])) p5 (.tup [.int (i:Nat),.int (j:Nat)])) p5 = some (.tup [.int (i:Nat),.int (j:Nat)]):=af
        generalize upd (upd H3 p3 (.tup [.int (j:Nat),.ref ad])) p5 (.tup [.int (i:Nat),.int (j:Nat)]) = H5 at s5 e5
        have hd5:=s5 _ _ hd3
        refine .inr (.inl ⟨ad,_,_,_,rfl,rfl,SqT.of ((s3.trans s5) _ _ ha),ax 0 rfl rfl,sp,_,rfl,DPut.k (k:=.inl m.place) hd5 (by omega),?_⟩)
        have tk:TK H5 (upd H5 sp (.dK (eW kvs (.inl m.place) (.ref p5)))):=fun b zs e=>by
          rw [ao fun z=>by rw [z,hd5] at e; cases e]; exact e
        have hput:∀ k:Key,(cP kvs k).isSome = true→(cP (eW kvs (.inl m.place) (.ref p5)) k).isSome = true:=fun k h=>by
          rw [jo]
          split
          · rfl
          · exact h
        refine ⟨(s3.trans s5).put hsp,eW kvs (.inl m.place) (.ref p5),_,_,rfl,af,?_,by omega,fun k v hv=>?_,fun g2 g' h1 h2 m' hm'=>hput _ (hall3 g2 g' h1 h2 m' hm'),fun m' hm'=>?_⟩
        · have:=pY kvs (.inl m.place) (.ref p5); omega
        · rw [jo] at hv
          split at hv
          · cases hv
            exact ⟨p5,i,j,g,rfl,tk _ _ e5,hgi,by omega⟩
          · exact ((hval3 k v hv).tk s5.tk).tk tk
        · rw [List.take_add_one,hmj] at hm'
          rcases List.mem_append.mp hm' with h | h
          · exact hput _ (hg3 m' h)
          · rw [show m' = m by simpa using h,jo,if_pos rfl]; rfl
      · rintro σ H3 ⟨s3,kvs,x5,x6,rfl,hd3,hk3,hj24,hval3,hall3,hg3⟩
        rw [← ygl,List.take_length] at hg3
        refine ⟨s3,kvs,_,_,_,_,rfl,hd3,by omega,by omega,hval3,fun g2 g' h1 h2 m hm=>?_⟩
        rcases Nat.lt_or_ge g2 i with h | h
        · exact hall3 g2 g' h h2 m hm
        · have:g2 = i:=by omega
          subst this
          rw [hgi] at h2
          cases h2
          exact hg3 m hm
    · rintro σ H1 ⟨s1,kvs,x3,x4,x5,x6,rfl,hd,hkl,hi24,hval,hall⟩
      refine .inl ⟨⟨_,SqL.of (s1 _ _ hl)⟩,fun D hD=>?_⟩
      refine dq (K:=K) (a:=l) (xs:=xs) (fun i zs H'=>Same H1 H'∧H' D = some (.lst zs)∧zs.length = i∧i≤xs.length∧∀ z ∈ zs,Spot H' gs z) ⟨Same.new hD,af,rfl,Nat.zero_le _,fun z hz=>by cases hz⟩ (fun i ys H' h=>SqL.of (h.1 _ _ (s1 _ _ hl))) (fun i ys H' h=>h.2.1) ?_ ?_
      · rintro i y zs H' P' hy ⟨s2,hD1,hzl,hi,hz⟩ hP'
        obtain ⟨m,hmi,ad,pp,rfl,ha,hpp⟩:=hm.get hy
        have ilt:i < xs.length:=(List.getElem?_eq_some_iff.mp hy).1
        have hxl:=Paired.length hm
        obtain ⟨g,hgm,m',hm',hpl⟩:=hin m (List.mem_of_getElem? hmi)
        obtain ⟨gi,hgi⟩:=List.getElem?_of_mem hgm
        have gilt:gi < ys.length:=by rw [← gl]; exact (List.getElem?_eq_some_iff.mp hgi).1
        have hsome:=hall gi g gilt hgi m' hm'
        rw [hpl] at hsome
        obtain ⟨v,hv⟩:=Option.isSome_iff_exists.mp hsome
        have hspot:=(hval _ v hv).tk s2.tk
        refine ⟨⟨rfl,trivial⟩,.inr (.inl ⟨ad,_,_,_,rfl,rfl,SqT.of (s2 _ _ (s1 _ _ ha)),ax 0 rfl rfl,sp,v,rfl,(by show DGet _ sp (.int m.place) _; rw [← hv]; exact DGet.k (k:=.inl m.place) (s2 _ _ hd)),hD1,by omega,hP' _ _ ⟨s2.put hD,af,by rw [List.length_append,hzl]; rfl,ilt,fun z hz'=>?_⟩⟩)⟩
        rcases List.mem_append.mp hz' with h | h
        · exact (hz z h).tk (TK.lst hD1)
        · rw [List.mem_singleton.mp h]; exact hspot.tk (TK.lst hD1)
      · rintro zs H' ⟨s2,hD1,hzl,_,hz⟩
        exact q _ D zs (s1.trans s2) hD1 (by rw [hzl]; exact (Paired.length hm).symm) hz
end
end My
namespace My
open PySem L2 FrM
def IsLam (H:Hp) (d:LamD) (fv:List Str) (v:V) (vals:List V):Prop:=∃ f c clos,v = .ref f∧H f = some (.ext (iC f d clos c))∧H c = some (.ext (gU c d.qual))∧clos.map (·.1) = fv∧(clos.map (·.2)).Nodup∧CellsAt H clos vals
theorem nL {H H':Hp} (s:SameT H H'):∀ {clos:List (Str×Addr)} {vals:List V},CellsAt H clos vals→CellsAt H' clos vals
  | _,_,.nil=>.nil
  | _,_,.cons r t=>.cons (s.at r) (nL s t)
theorem IsLam.t {H H':Hp} {d:LamD} {fv:List Str} {v:V} {vals:List V} (s:SameT H H') (h:IsLam H d fv v vals):IsLam H' d fv v vals:=by
  obtain ⟨f,c,clos,h1,h2,h3,h4,h5,h6⟩:=h
  exact ⟨f,c,clos,h1,s.at h2,s.at h3,h4,h5,nL s h6⟩
theorem SameT.tk {H H':Hp} (s:SameT H H'):TK H H':=fun a xs h=>s.at h
def sqO:HO→Bool
  | .lst _=>true
  | .tup _=>true
  | _=>false
def SQ (H H':Hp):Prop:=∀ b o,sqO o = true→H b = some o→H' b = some o
theorem SQ.of {H H':Hp} (s:SameT H H'):SQ H H':=fun b o c e=>s.at e (by cases o <;> first | rfl | cases c)
theorem SQ.un {H:Hp} {clos:List (Str×Addr)} {vals:List V} (ca:CellsAt H clos vals):SQ H (fG H (clos.map (·.2))):=fun b o c e=>fB ca e fun v z=>by rw [z] at c; cases c
theorem SQ.tk {H H':Hp} (s:SQ H H'):TK H H':=fun b xs e=>s b _ rfl e
theorem n8 {H H' H3:Hp} {clos:List (Str×Addr)} (s:Same (fG H (clos.map (·.2))) H') (s3:Same H' H3) (hc:∀ p ∈ clos,H3 p.2 = H p.2):Same H H3:=fun b o e=>by
  by_cases hb:b ∈ clos.map (·.2)
  · obtain ⟨p,hp,rfl⟩:=List.mem_map.mp hb
    rw [hc p hp]; exact e
  · exact s3 _ _ (s b o (by rw [iJ hb]; exact e))
abbrev RE:=Nat→Nat→Int×Int→Prop
def dW:RE:=fun i j f=>0≤f.1∧f.1≤f.2∧1≤f.2∧f.2≤(if i = j then 5 else 25)∧(f.1 = 0→f.2 = 1)
def q9:RE:=fun _ _ f=>f = (1,1)
theorem je {i j:Nat} {T B:Int} (h0:0≤T) (h1:T≤B) (h2:0 < B) (h3:B≤(if i = j then 5 else 25)):dW i j (eJ T B):=by
  obtain ⟨a1,a2,a3,a4,a5,a6,a7⟩:=jp (T:=T) h2
  exact ⟨a6 h0,a7 h1,a1,by omega,fun z=>a4 (a5 z)⟩
def RowM (K:PySem.W.Frag) (R:RE) (H:Hp) (n i:Nat) (x:V):Prop:=∃ r es,x = .ref r∧H r = some (.lst es)∧es.length = n∧∀ (j:Nat) y,es[j]? = some y→∃ f,IsF K H f y∧R i j f
def Mx (K:PySem.W.Frag) (R:RE) (H:Hp) (n:Nat) (v:V):Prop:=∃ l rows,v = .ref l∧H l = some (.lst rows)∧rows.length = n∧∀ (i:Nat) x,rows[i]? = some x→RowM K R H n i x
theorem RowM.q {K:PySem.W.Frag} {R:RE} {H H':Hp} {n i:Nat} {x:V} (s:SQ H H') (h:RowM K R H n i x):RowM K R H' n i x:=by
  obtain ⟨r,es,h1,h2,h3,h4⟩:=h
  refine ⟨r,es,h1,s _ _ rfl h2,h3,fun j y e=>?_⟩
  obtain ⟨f,g1,g2⟩:=h4 j y e
  exact ⟨f,g1.tk s.tk,g2⟩
theorem Mx.q {K:PySem.W.Frag} {R:RE} {H H':Hp} {n:Nat} {v:V} (s:SQ H H') (h:Mx K R H n v):Mx K R H' n v:=by
  obtain ⟨l,rows,h1,h2,h3,h4⟩:=h
  exact ⟨l,rows,h1,s _ _ rfl h2,h3,fun i x e=>(h4 i x e).q s⟩
theorem RowM.cut {K:PySem.W.Frag} {R:RE} {H:Hp} {n i:Nat} {r D:Addr} {zs:List V} (hD:H D = some (.lst zs)) (nr:r≠D) (h:RowM K R H n i (.ref r)):RowM K R (untr H D) n i (.ref r):=by
  obtain ⟨r',es,e1,h2,h3,h4⟩:=h
  cases e1
  refine ⟨r,es,rfl,by rw [cJ nr]; exact h2,h3,fun j y e=>?_⟩
  obtain ⟨f,g1,g2⟩:=h4 j y e
  exact ⟨f,g1.tk fun b xs e=>by rw [cJ fun z=>by rw [z,hD] at e; cases e]; exact e,g2⟩
theorem Mx.cut {K:PySem.W.Frag} {R:RE} {H:Hp} {n:Nat} {v:V} {D:Addr} {zs:List V} (hD:H D = some (.lst zs)) (nl:∀ l rows,v = .ref l→H l = some (.lst rows)→l≠D∧∀ r,V.ref r ∈ rows→r≠D) (h:Mx K R H n v):Mx K R (untr H D) n v:=by
  obtain ⟨l,rows,rfl,h2,h3,h4⟩:=h
  obtain ⟨n1,n2⟩:=nl l rows rfl h2
  refine ⟨l,rows,rfl,by rw [cJ n1]; exact h2,h3,fun i x e=>?_⟩
  have hx:=h4 i x e
  obtain ⟨r,es,rfl,_⟩:=id hx
  exact hx.cut hD (n2 r (List.mem_of_getElem? e))
theorem ve {H:Hp} {D:Addr}:SQ (untr H D) H:=fun b o' _ e=>by
  by_cases hb:b = D
  · rw [hb,d8] at e; cases e
  · rw [cJ hb] at e; exact e
abbrev fvF:List Str:=["wanted", "there"]
abbrev fvG:List Str:=["spots", "outer", "blocks"]
def GOk (K:PySem.W.Frag) (H:Hp) (n:Nat) (sp ou bl:V):Prop:=∃ (gs:List (List M)) (ls lb:Addr) (zs bs:List V),sp = .ref ls∧bl = .ref lb∧H ls = some (.lst zs)∧zs.length = n∧(∀ z ∈ zs,Spot H gs z)∧Mx K q9 H gs.length ou∧H lb = some (.lst bs)∧Paired (fun (g:List M) v=>Mx K dW H g.length v) gs bs
theorem GOk.q {K:PySem.W.Frag} {H H':Hp} {n:Nat} {sp ou bl:V} (s:SQ H H') (h:GOk K H n sp ou bl):GOk K H' n sp ou bl:=by
  obtain ⟨gs,ls,lb,zs,bs,h1,h2,h3,h4,h5,h6,h7,h8⟩:=h
  exact ⟨gs,ls,lb,zs,bs,h1,h2,s _ _ rfl h3,h4,fun z hz=>(h5 z hz).tk s.tk,h6.q s,s _ _ rfl h7,dU (fun g v h=>h.q s) h8⟩
def Ans (K:PySem.W.Frag) (R:RE) (i j:Nat) (H:Hp) (Q:VK):Prop:=∀ H' x f,Same H H'→IsF K H' f x→R i j f→Q x H'
def xn (K:PySem.W.Frag):List V→Sp:=fun vals vs H Q _=>∃ n w i j:Nat,vals = [.int (w:Nat),.int (n:Nat)]∧vs = [.int (i:Nat),.int (j:Nat)]∧w≤n∧n≤5∧i < n∧j < n∧Ans K dW i j H Q
def w9 (K:PySem.W.Frag):List V→Sp:=fun vals vs H Q _=>∃ i j:Nat,vals = []∧vs = [.int (i:Nat),.int (j:Nat)]∧Ans K q9 i j H Q
def wP (K:PySem.W.Frag):List V→Sp:=fun vals vs H Q _=>∃ n i j:Nat,∃ sp ou bl,vals = [sp,ou,bl]∧vs = [.int (i:Nat),.int (j:Nat)]∧GOk K H n sp ou bl∧i < n∧j < n∧Ans K dW i j H Q
def TellsAt (K:PySem.W.Frag) (R:RE) (H:Hp) (n:Nat) (v:V):Prop:=(R = dW∧n≤5∧∃ w:Nat,w≤n∧IsLam H dh fvF v [.int (w:Nat),.int (n:Nat)])∨(R = q9∧IsLam H cL [] v [])∨(R = dW∧∃ sp ou bl,IsLam H cj fvG v [sp,ou,bl]∧GOk K H n sp ou bl)
theorem TellsAt.same {K:PySem.W.Frag} {R:RE} {H H':Hp} {n:Nat} {v:V} (s:Same H H') (h:TellsAt K R H n v):TellsAt K R H' n v:=by
  rcases h with ⟨h1,h2,w,h3,h4⟩ | ⟨h1,h2⟩ | ⟨h1,sp,ou,bl,h2,h3⟩
  · exact .inl ⟨h1,h2,w,h3,h4.t s.t⟩
  · exact .inr (.inl ⟨h1,h2.t s.t⟩)
  · exact .inr (.inr ⟨h1,sp,ou,bl,h2.t s.t,h3.q (SQ.of s.t)⟩)
theorem lsF:LamScope dh fvF ["one", "other"]:=⟨rfl,rfl,rfl,by decide +kernel,by decide +kernel,by decide +kernel,by decide +kernel,by decide +kernel⟩
theorem lsE:LamScope cL [] ["one", "other"]:=⟨rfl,rfl,rfl,by decide +kernel,by decide +kernel,by decide +kernel,by decide +kernel,by decide +kernel⟩
theorem lsG:LamScope cj fvG ["one", "other"]:=⟨rfl,rfl,rfl,by decide +kernel,by decide +kernel,by decide +kernel,by decide +kernel,by decide +kernel⟩
def lY (K:PySem.W.Frag):Sp:=fun vs H Q _=>∃ n w i j:Nat,vs = [.int (n:Nat),.int (w:Nat),.bl (decide (i = j))]∧w≤n∧n≤5∧i < n∧j < n∧Ans K dW i j H Q
def om (K:PySem.W.Frag):Sp:=fun vs H Q _=>∃ n i j:Nat,∃ sp ou bl z z' ls zs,vs = [bl,ou,z,z']∧GOk K H n sp ou bl∧sp = .ref ls∧H ls = some (.lst zs)∧zs[i]? = some z∧zs[j]? = some z'∧Ans K dW i j H Q
def rW (K:PySem.W.Frag):Sp:=fun vs H Q _=>∃ (n i:Nat) (v:V) (R:RE),vs = [.int (i:Nat),.int (n:Nat),v]∧i < n∧n≤24∧TellsAt K R H n v∧∀ H' r,Same H H'→H r = none→RowM K R H' n i (.ref r)→Q (.ref r) H'
def oF (K:PySem.W.Frag):Sp:=fun vs H Q _=>∃ (n:Nat) (v:V) (R:RE),vs = [.int (n:Nat),v]∧n≤24∧TellsAt K R H n v∧∀ H' r rows,Same H H'→H r = none→H' r = some (.lst rows)→(∀ q,V.ref q ∈ rows→H q = none)→Mx K R H' n (.ref r)→Q (.ref r) H'
section
variable {P:Program} {w:World} {K:PySem.W.Frag} {mg:Str→Option Value} {base:Heap} {a:Ad}
theorem pi (T:Txt K mg a):FnOk P w K mg base CX0 3 a.f_few_chance a.d_few_chance ["there", "wanted", "is_same"] (lY K):=by
  have G_share:FnOk P w K mg base CX0 2 _ _ _ jT:=fZ T
  refine T.F_few_chance.ok jQ (fun vs H Q E h=>?_) (fun cdv A outer s H vs Q E hr h=>?_)
  · obtain ⟨n,w',i,j,rfl,_⟩:=h; rfl
  · obtain ⟨n,w',i,j,rfl,hw,hn,hi,hj,q⟩:=h
    have b1:Bt 11 (n:Int):=by unfold Bt; omega
    have b2:Bt 11 (w':Int):=by unfold Bt; omega
    refine ⟨_,(aj (bu (gg (vr 2)) (ak (aq (am G_share hr rfl T.m_share T.F_share.kp T.B_share .nil ar (aa (vr 1) (aa (vr 0) ae))))) aM) (ak (aq (am G_share hr rfl T.m_share T.F_share.kp T.B_share .nil ar (aa (av cx (vr 1) (av fj (vr 1) ai)) (aa (av cx (vr 0) (av fj (vr 0) ai)) ae)))))),?_⟩
    by_cases e:i = j
    · rw [decide_eq_true e]
      exact ⟨_,_,rfl,by omega,b2.mono (by decide),b1.mono (by decide),fun H' p s1 hp=>q _ _ _ s1 ⟨p,rfl,.inl hp⟩ (je (by omega) (by omega) (by omega) (by rw [if_pos e]; omega))⟩
    · rw [decide_eq_false e]
      have hpos:(0:Int) < (n:Int) * ((n:Int) - 1):=Int.mul_pos (by omega) (by omega)
      have c1:Bt 11 ((w':Int) - 1):=by unfold Bt; omega
      have c2:Bt 11 ((n:Int) - 1):=by unfold Bt; omega
      have h5:(n:Int) * ((n:Int) - 1)≤20:=by
        have hn':n = 0∨n = 1∨n = 2∨n = 3∨n = 4∨n = 5:=by omega
        rcases hn' with rfl | rfl | rfl | rfl | rfl | rfl <;> decide
      have h6:0≤(w':Int) * ((w':Int) - 1)∧(w':Int) * ((w':Int) - 1)≤(n:Int) * ((n:Int) - 1):=by
        have hn':n = 0∨n = 1∨n = 2∨n = 3∨n = 4∨n = 5:=by omega
        have hw':w' = 0∨w' = 1∨w' = 2∨w' = 3∨w' = 4∨w' = 5:=by omega
        rcases hn' with rfl | rfl | rfl | rfl | rfl | rfl <;> rcases hw' with rfl | rfl | rfl | rfl | rfl | rfl <;> first | (exact absurd hw (by decide)) | decide
      exact ⟨clB (by omega) (by omega),clB (by omega) (by omega),_,_,rfl,hpos,(b2.mul c1).mono (by decide),(b1.mul c2).mono (by decide),fun H' p s1 hp=>q _ _ _ s1 ⟨p,rfl,.inl hp⟩ (je h6.1 h6.2 hpos (by rw [if_neg e]; omega))⟩
theorem xN (T:Txt K mg a):gD P w K mg base 4 dh fvF ["one", "other"] (xn K):=by
  have G_few_chance:FnOk P w K mg base CX0 3 _ _ _ (lY K):=pi T
  refine kA lsF (fun pm ctv clos c us hl=>match us,hl with | [_,_],_=>rfl) (fun vals vs H Q E h=>?_) (fun A outer s H f c clos vals vs Q E hr hfv ca h=>?_)
  · obtain ⟨n,w',i,j,rfl,rfl,_⟩:=h; rfl
  · obtain ⟨n,w',i,j,rfl,rfl,hw,hn,hi,hj,q⟩:=h
    refine ⟨_,(am G_few_chance hr rfl T.m_few_chance T.F_few_chance.kp T.B_few_chance .nil ar (aa (vr 3) (aa (vr 2) (aa (fT fA (vr 0) (vr 1) (aT _)) ae)))),?_⟩
    have e:(decide ((i:Int) = (j:Int))) = decide (i = j):=by
      by_cases h:i = j
      · subst h; simp
      · rw [decide_eq_false h,decide_eq_false (by omega)]
    refine ⟨n,w',i,j,?_,hw,hn,hi,hj,fun H' x f s1 hx hR=>fun H3 s3 hc=>q _ x f (n8 s1 s3 hc) (hx.same s3) hR⟩
    show [V.int (n:Int),V.int (w':Int),V.bl (decide ((i:Int) = (j:Int)))] = _
    rw [e]
theorem wH (T:Txt K mg a):gD P w K mg base 4 cL [] ["one", "other"] (w9 K):=by
  refine kA lsE (fun pm ctv clos c us hl=>match us,hl with | [_,_],_=>rfl) (fun vals vs H Q E h=>?_) (fun A outer s H f c clos vals vs Q E hr hfv ca h=>?_)
  · obtain ⟨i,j,rfl,rfl,_⟩:=h; rfl
  · obtain ⟨i,j,rfl,rfl,q⟩:=h
    refine ⟨_,(eI rfl T.g_WHOLE),?_⟩
    exact fun H3 s3 hc=>q _ _ (1,1) (n8 (Same.refl _) s3 hc) ⟨_,rfl,.inr T.t_WHOLE⟩ rfl
theorem j9 {H:Hp} {R:RE} {n:Nat} {v:V} (h:Mx K R H n v) {i j:Nat} (hi:i < n) (hj:j < n):∃ l rows r es y f,v = .ref l∧H l = some (.lst rows)∧rows[i]? = some (.ref r)∧H r = some (.lst es)∧es[j]? = some y∧IsF K H f y∧R i j f:=by
  obtain ⟨l,rows,h1,h2,h3,h4⟩:=h
  have e1:rows[i]? = some (rows[i]'(by omega)):=List.getElem?_eq_getElem _
  obtain ⟨r,es,g1,g2,g3,g4⟩:=h4 i _ e1
  have e2:es[j]? = some (es[j]'(by omega)):=List.getElem?_eq_getElem _
  obtain ⟨f,k1,k2⟩:=g4 j _ e2
  exact ⟨l,rows,r,es,_,f,h1,h2,by rw [e1,g1],g2,e2,k1,k2⟩
theorem qC (T:Txt K mg a):FnOk P w K mg base CX0 4 a.f_spots_chance a.d_spots_chance ["blocks", "outer", "one", "other"] (om K):=by
  have G_times:FnOk P w K mg base CX0 3 _ _ _ (gm (fun t b t' b'=>t * t') (fun t b t' b'=>b * b') (fun _=>True) K):=lx T
  refine T.F_spots_chance.ok sc_spots_chance (fun vs H Q E h=>?_) (fun cdv A outer s H vs Q E hr h=>?_)
  · obtain ⟨n,i,j,sp,ou,bl,z,z',ls,zs,rfl,_⟩:=h; rfl
  · obtain ⟨n,i,j,sp,ou,bl,z,z',ls0,zs0,rfl,⟨gs,ls,lb,zs,bs,rfl,rfl,g3,g4,g5,g6,g7,g8⟩,e0,hls,hz,hz',q⟩:=h
    cases e0
    rw [g3] at hls
    cases hls
    refine ⟨_,(aj (jD (vr 2) (fu rfl (aG (aw (i:=4) sc_spots_chance.nd rfl (Or.inl rfl)) (aG (aw (i:=5) sc_spots_chance.nd rfl (Or.inl rfl)) dG)))) (aj (jD (vr 3) (fu rfl (aG (aw (i:=6) sc_spots_chance.nd rfl (Or.inl rfl)) (aG (aw (i:=7) sc_spots_chance.nd rfl (Or.inl rfl)) dG)))) (aj (bu (bz fA (vr 4) (vr 6) (aT _)) (ak (az (i:=8) sc_spots_chance.nd rfl (Or.inl rfl) (aA au (aA au (aA au (vr 0) (vr 4) (fun _ _=>rfl)) (vr 5) (fun _ _=>rfl)) (vr 7) (fun _ _=>rfl)))) (ak (az (i:=8) sc_spots_chance.nd rfl (Or.inl rfl) (am G_times hr rfl T.m_times T.F_times.kp T.B_times .nil ar (aa (aA au (aA au (aA au (vr 0) (vr 4) (fun _ _=>rfl)) (vr 5) (fun _ _=>rfl)) (vr 5) (fun _ _=>rfl)) (aa (aA au (aA au (aA au (vr 0) (vr 6) (fun _ _=>rfl)) (vr 7) (fun _ _=>rfl)) (vr 7) (fun _ _=>rfl)) ae)))))) (ak (aq (am G_times hr rfl T.m_times T.F_times.kp T.B_times .nil ar (aa (aA au (aA au (vr 1) (vr 4) (fun _ _=>rfl)) (vr 6) (fun _ _=>rfl)) (aa (vr 8) ae)))))))),?_⟩
    obtain ⟨p,g,s1,l1,rfl,hp,hg,hs1⟩:=g5 z (List.mem_of_getElem? hz)
    obtain ⟨p',g',s2,l2,rfl,hp',hg',hs2⟩:=g5 z' (List.mem_of_getElem? hz')
    have gl:gs.length = bs.length:=Paired.length g8
    have glt:g < gs.length:=(List.getElem?_eq_some_iff.mp hg).1
    have glt':g' < gs.length:=(List.getElem?_eq_some_iff.mp hg').1
    obtain ⟨vb,hvb,mb⟩:=iR g8 hg
    obtain ⟨vb',hvb',mb'⟩:=iR g8 hg'
    have bt:∀ {x:Int},0≤x→x≤1000→Bt 900 x:=fun h0 h1=>(show Bt 11 _ by unfold Bt; omega).mono (by decide)
    have fin:∀ {H1:Hp} {y:V} {f:Int×Int},Same H H1→IsF K H1 f y→dW i j f→∀ (Q':VK),(∀ H' x f,Same H H'→IsF K H' f x→dW i j f→Q' x H')→∃ l rows r es yo fo,ou = .ref l∧H1 l = some (.lst rows)∧rows[g]? = some (.ref r)∧H1 r = some (.lst es)∧es[g']? = some yo∧IsF K H1 fo yo∧fo = (1,1):=fun s1 _ _ _ _=>by
      obtain ⟨l,rows,r,es,yo,fo,k1,k2,k3,k4,k5,k6,k7⟩:=j9 g6 glt glt'
      exact ⟨l,rows,r,es,yo,fo,k1,s1 _ _ k2,k3,s1 _ _ k4,k5,k6.same s1,k7⟩
    refine ⟨p,_,rfl,SqT.of hp,rfl,_,_,rfl,_,_,rfl,rfl,?_⟩
    refine ⟨p',_,rfl,SqT.of hp',rfl,_,_,rfl,_,_,rfl,rfl,?_⟩
    have ending:∀ {H1:Hp} {y:V} {t b:Int},Same H H1→IsF K H1 (t,b) y→dW i j (t,b)→∀ (Q':VK),(∀ H' x f,Same H H'→IsF K H' f x→dW i j f→Q' x H')→∃ l rows r es yo,ou = .ref l∧H1 l = some (.lst rows)∧rows[g]? = some (.ref r)∧H1 r = some (.lst es)∧es[g']? = some yo∧gm (fun t b t' b'=>t * t') (fun t b t' b'=>b * b') (fun _=>True) K [yo,y] H1 Q' (fun _ _ _=>False):=fun {H1 y t b} s1 hy hR Q' hQ=>by
      obtain ⟨l,rows,r,es,yo,fo,k1,k2,k3,k4,k5,k6,rfl⟩:=fin s1 hy hR Q' hQ
      obtain ⟨r0,r1,r2,r3,r4⟩:=id hR
      have r25:b≤25:=by
        have r3':b≤(if i = j then (5:Int) else 25):=r3
        split at r3' <;> omega
      have r0:0≤t:=r0
      have r1:t≤b:=r1
      have r2:1≤b:=r2
      refine ⟨l,rows,r,es,yo,k1,k2,k3,k4,k5,yo,y,1,1,t,b,rfl,k6,hy,by omega,by omega,bt (by omega) (by omega),bt (by omega) (by omega),bt (by omega) (by omega),bt (by omega) (by omega),trivial,fun H' x s2 hx=>hQ _ _ _ (s1.trans s2) hx ?_⟩
      show dW i j (eJ (1 * t) (1 * b))
      rw [Int.one_mul,Int.one_mul]
      exact je r0 r1 (by omega) r3
    refine ifC (fun c=>?_) fun c=>?_
    · have c:g = g':=by have c:(g:Int) = (g':Int):=c; omega
      subst c
      rw [hg] at hg'
      cases hg'
      rw [hvb] at hvb'
      cases hvb'
      obtain ⟨l,rows,r,es,y,f,rfl,k2,k3,k4,k5,k6,k7⟩:=j9 mb hs1 hs2
      refine .inl ⟨lb,_,_,_,rfl,rfl,SqL.of g7,aH hvb,.inl ⟨l,_,_,_,rfl,rfl,SqL.of k2,aH k3,.inl ⟨r,_,_,_,rfl,rfl,SqL.of k4,aH k5,?_⟩⟩⟩
      obtain ⟨t,b⟩:=f
      have hR:dW i j (t,b):=by
        obtain ⟨r0,r1,r2,r3,r4⟩:=k7
        refine ⟨r0,r1,r2,?_,r4⟩
        by_cases e:i = j
        · subst e
          rw [hz] at hz'
          cases hz'
          rw [hp] at hp'
          injection hp' with hp'
          injection hp' with hp'
          injection hp' with _ hp'
          injection hp' with hp' _
          injection hp' with hp'
          have:s1 = s2:=by omega
          rw [if_pos rfl]
          rw [if_pos this] at r3
          exact r3
        · rw [if_neg e]
          split at r3 <;> omega
      obtain ⟨lo,ro,r',eo,yo,j1,j2,j3,j4,j5,j6⟩:=ending (Same.refl H) k6 hR Q q
      subst j1
      exact .inl ⟨lo,_,_,_,rfl,rfl,SqL.of j2,aH j3,.inl ⟨r',_,_,_,rfl,rfl,SqL.of j4,aH j5,j6⟩⟩
    · have c:g≠g':=fun z=>c (by show (g:Int) = (g':Int); rw [z])
      have eij:i≠j:=fun z=>by
        subst z
        rw [hz] at hz'
        cases hz'
        rw [hp] at hp'
        injection hp' with hp'
        injection hp' with hp'
        injection hp' with hp' _
        injection hp' with hp'
        exact c (by omega)
      obtain ⟨l,rows,r,es,y,⟨t,b⟩,rfl,k2,k3,k4,k5,k6,k7⟩:=j9 mb hs1 hs1
      obtain ⟨l',rows',r',es',y',⟨t',b'⟩,rfl,m2,m3,m4,m5,m6,m7⟩:=j9 mb' hs2 hs2
      refine .inl ⟨lb,_,_,_,rfl,rfl,SqL.of g7,aH hvb,.inl ⟨l,_,_,_,rfl,rfl,SqL.of k2,aH k3,.inl ⟨r,_,_,_,rfl,rfl,SqL.of k4,aH k5,?_⟩⟩⟩
      refine .inl ⟨lb,_,_,_,rfl,rfl,SqL.of g7,aH hvb',.inl ⟨l',_,_,_,rfl,rfl,SqL.of m2,aH m3,.inl ⟨r',_,_,_,rfl,rfl,SqL.of m4,aH m5,?_⟩⟩⟩
      obtain ⟨a0,a1,a2,a3,a4⟩:=k7
      obtain ⟨b0,b1,b2,b3,b4⟩:=m7
      rw [if_pos rfl] at a3 b3
      have a0:0≤t:=a0
      have a1:t≤b:=a1
      have a2:1≤b:=a2
      have a3:b≤5:=a3
      have b0:0≤t':=b0
      have b1:t'≤b':=b1
      have b2:1≤b':=b2
      have b3:b'≤5:=b3
      refine ⟨y,y',t,b,t',b',rfl,k6,m6,by omega,by omega,bt (by omega) (by omega),bt (by omega) (by omega),bt (by omega) (by omega),bt (by omega) (by omega),trivial,fun H1 x s1 hx=>?_⟩
      have u1:t * t'≤b * b':=Int.mul_le_mul a1 b1 b0 (by omega)
      have u2:b * b'≤5 * 5:=Int.mul_le_mul a3 b3 (by omega) (by omega)
      have u3:0 < b * b':=Int.mul_pos (by omega) (by omega)
      have hR:dW i j (eJ (t * t') (b * b')):=je (Int.mul_nonneg a0 b0) u1 u3 (by rw [if_neg eij]; omega)
      obtain ⟨lo,ro,r2,eo,yo,j1,j2,j3,j4,j5,j6⟩:=ending s1 hx hR Q q
      subst j1
      exact .inl ⟨lo,_,_,_,rfl,rfl,SqL.of j2,aH j3,.inl ⟨r2,_,_,_,rfl,rfl,SqL.of j4,aH j5,j6⟩⟩
theorem wV (T:Txt K mg a):gD P w K mg base 5 cj fvG ["one", "other"] (wP K):=by
  have G_spots_chance:FnOk P w K mg base CX0 4 _ _ _ (om K):=qC T
  refine kA lsG (fun pm ctv clos c us hl=>match us,hl with | [_,_],_=>rfl) (fun vals vs H Q E h=>?_) (fun A outer s H f c clos vals vs Q E hr hfv ca h=>?_)
  · obtain ⟨n,i,j,sp,ou,bl,rfl,rfl,_⟩:=h; rfl
  · obtain ⟨n,i,j,sp,ou,bl,rfl,rfl,hg,hi,hj,q⟩:=h
    refine ⟨_,(am G_spots_chance hr rfl T.m_spots_chance T.F_spots_chance.kp T.B_spots_chance .nil ar (aa (vr 4) (aa (vr 3) (aa (aA au (vr 2) (vr 0) (fun _ _=>rfl)) (aa (aA au (vr 2) (vr 1) (fun _ _=>rfl)) ae))))),?_⟩
    have hg':=hg.q (SQ.un ca)
    obtain ⟨gs,ls,lb,zs,bs,rfl,rfl,g3,g4,_⟩:=id hg'
    have ei:zs[i]? = some (zs[i]'(by omega)):=List.getElem?_eq_getElem _
    have ej:zs[j]? = some (zs[j]'(by omega)):=List.getElem?_eq_getElem _
    refine .inl ⟨ls,_,_,_,rfl,rfl,SqL.of g3,aH ei,.inl ⟨ls,_,_,_,rfl,rfl,SqL.of g3,aH ej,?_⟩⟩
    exact ⟨n,i,j,.ref ls,ou,.ref lb,_,_,ls,zs,rfl,hg',rfl,g3,ei,ej,fun H' x f s1 hx hR=>fun H3 s3 hc=>q _ x f (n8 s1 s3 hc) (hx.same s3) hR⟩
theorem ur (T:Txt K mg a):FnOk P w K mg base CX0 6 a.f_matrix_row a.d_matrix_row ["one", "many", "tell"] (rW K):=by
  have L_few:gD P w K mg base 5 dh fvF ["one", "other"] (xn K):=fun A outer s H f c clos us vs vals Q E hr=>xN T A outer s H f c clos us vs vals Q E (hr.mono (by decide))
  have L_each:gD P w K mg base 5 cL [] ["one", "other"] (w9 K):=fun A outer s H f c clos us vs vals Q E hr=>wH T A outer s H f c clos us vs vals Q E (hr.mono (by decide))
  have L_grp:gD P w K mg base 5 cj fvG ["one", "other"] (wP K):=wV T
  refine T.F_matrix_row.ok jO (fun vs H Q E h=>?_) (fun cdv A outer s H vs Q E hr h=>?_)
  · obtain ⟨n,i,v,R,rfl,_⟩:=h; rfl
  · obtain ⟨n,i,v,R,rfl,hi,hn,hL,q⟩:=h
    have small:sizeLine = 16777216:=sizeLine_eq
    refine ⟨_,(ak (aq (bC rfl (N:=["other", "tell", "one"]) (ix:=[none,some 2,some 0]) ⟨rfl,rfl,rfl,rfl,⟨rfl,rfl,rfl,⟨rfl,rfl,rfl,trivial⟩⟩⟩ (dX rfl T.z_range (aa (vr 1) ae)) ⟨fun C s H fp=>aw (i:=0) (show List.Nodup (["other", "tell", "one"]:List Str) by decide +kernel) rfl (Or.inl rfl),fun C s H fp=>ck,fun C s H fp=>(PE.or (iy (vr 1) L_few hr (aa (vr 2) (aa (vr 0) ae))) (PE.or (iy (vr 1) L_each hr (aa (vr 2) (aa (vr 0) ae))) (iy (vr 1) L_grp hr (aa (vr 2) (aa (vr 0) ae)))))⟩))),?_⟩
    refine ⟨(n:Int),rfl,by omega,by omega,fun D hD=>?_⟩
    refine iB (lo:=0) (n:=n) (fun j ys H'=>j≤n∧Same H H'∧H' D = some (.lst ys)∧ys.length = j∧∀ (k:Nat) y,ys[k]? = some y→∃ f,IsF K H' f y∧R i k f) ⟨Nat.zero_le _,Same.new hD,af,rfl,fun k y e=>by simp at e⟩ (fun j ys H' h=>h.2.2.1) ?_ ?_
    · rintro j ys H' P' hj ⟨_,s1,hD1,hyl,hF⟩ hP
      have e0:[V.int (i:Int),V.int (0 + (j:Int))] = [V.int (i:Int),V.int (j:Int)]:=by rw [Int.zero_add]
      have next:Ans K R i j H' (fun v H2=>H2 D = some (.lst ys)∧ys.length < sizeLine∧P' (ys ++ [v]) (upd H2 D (.lst (ys ++ [v])))):=fun H2 x f s2 hx hR=>by
        have hD2:=s2 _ _ hD1
        have tk:TK H2 (upd H2 D (.lst (ys ++ [x]))):=TK.lst hD2
        refine ⟨hD2,by omega,hP _ _ ⟨hj,(s1.trans s2).put hD,af,by rw [List.length_append,hyl]; rfl,fun k y e=>?_⟩⟩
        rcases Nat.lt_or_ge k ys.length with h | h
        · rw [List.getElem?_append_left h] at e
          obtain ⟨f,g1,g2⟩:=hF k y e
          exact ⟨f,(g1.same s2).tk tk,g2⟩
        · have hk:k = ys.length:=by
            have:=(List.getElem?_eq_some_iff.mp e).1
            rw [List.length_append] at this
            simp at this
            omega
          rw [List.getElem?_append_right h,hk,Nat.sub_self] at e
          cases e
          rw [hk,hyl]
          exact ⟨f,hx.tk tk,hR⟩
      rcases hL.same s1 with ⟨rfl,h2,w',h3,f,c,clos,rfl,e1,e2,e3,e4,e5⟩ | ⟨rfl,f,c,clos,rfl,e1,e2,e3,e4,e5⟩ | ⟨rfl,sp,ou,bl,⟨f,c,clos,rfl,e1,e2,e3,e4,e5⟩,hg⟩
      · exact ⟨⟨rfl,rfl,trivial⟩,.inl ⟨⟨f,_,_,_,rfl,e1⟩,fun f' d' cl' c' _ z=>z,f,c,clos,_,rfl,e1,e2,e3,e4,e5,n,w',i,j,rfl,e0,h3,h2,hi,hj,next⟩⟩
      · exact ⟨⟨rfl,rfl,trivial⟩,.inr (.inl ⟨⟨f,_,_,_,rfl,e1⟩,fun f' d' cl' c' _ z=>z,f,c,clos,_,rfl,e1,e2,e3,e4,e5,i,j,rfl,e0,next⟩)⟩
      · exact ⟨⟨rfl,rfl,trivial⟩,.inr (.inr ⟨⟨f,_,_,_,rfl,e1⟩,fun f' d' cl' c' _ z=>z,f,c,clos,_,rfl,e1,e2,e3,e4,e5,n,i,j,sp,ou,bl,rfl,e0,hg,hi,hj,next⟩)⟩
    · rintro ys H' ⟨_,s1,hD1,hyl,hF⟩
      exact q _ D s1 hD ⟨D,ys,rfl,hD1,hyl,hF⟩
theorem mE (T:Txt K mg a):FnOk P w K mg base CX0 7 a.f_matrix_by a.d_matrix_by ["many", "tell"] (oF K):=by
  have G_matrix_row:FnOk P w K mg base CX0 6 _ _ _ (rW K):=ur T
  refine T.F_matrix_by.ok kq (fun vs H Q E h=>?_) (fun cdv A outer s H vs Q E hr h=>?_)
  · obtain ⟨n,v,R,rfl,_⟩:=h; rfl
  · obtain ⟨n,v,R,rfl,hn,hL,q⟩:=h
    have small:sizeLine = 16777216:=sizeLine_eq
    refine ⟨_,(ak (aq (bC rfl (N:=["one", "many", "tell"]) (ix:=[none,some 0,some 1]) ⟨rfl,rfl,rfl,rfl,⟨rfl,rfl,rfl,⟨rfl,rfl,rfl,trivial⟩⟩⟩ (dX rfl T.z_range (aa (vr 0) ae)) ⟨fun C s H fp=>aw (i:=0) (show List.Nodup (["one", "many", "tell"]:List Str) by decide +kernel) rfl (Or.inl rfl),fun C s H fp=>ck,fun C s H fp=>(am G_matrix_row hr rfl T.m_matrix_row T.F_matrix_row.kp T.B_matrix_row .nil ar (aa (vr 0) (aa (vr 1) (aa (vr 2) ae))))⟩))),?_⟩
    refine ⟨(n:Int),rfl,by omega,by omega,fun D hD=>?_⟩
    refine iB (lo:=0) (n:=n) (fun j ys H'=>j≤n∧Same H H'∧H' D = some (.lst ys)∧ys.length = j∧(∀ q,V.ref q ∈ ys→H q = none)∧∀ (k:Nat) y,ys[k]? = some y→RowM K R (untr H' D) n k y) ⟨Nat.zero_le _,Same.new hD,af,rfl,(fun q hq=>by cases hq),fun k y e=>by simp at e⟩ (fun j ys H' h=>h.2.2.1) ?_ ?_
    · rintro j ys H' P' hj ⟨_,s1,hD1,hyl,hnew,hM⟩ hP
      refine ⟨⟨rfl,rfl,trivial⟩,n,j,v,R,?_,hj,hn,hL.same s1,fun H2 r s2 hr0 hR=>?_⟩
      · show [V.int (0 + (j:Int)),V.int (n:Int),v] = _
        rw [Int.zero_add]
      have hD2:=s2 _ _ hD1
      have nr:r≠D:=fun z=>by rw [z,hD1] at hr0; cases hr0
      have mo:SQ (untr H' D) (untr (upd H2 D (.lst (ys ++ [.ref r]))) D):=fun b o c e=>by
        by_cases hb:b = D
        · rw [hb,d8] at e; cases e
        · rw [cJ hb] at e ⊢
          rw [ao hb]
          exact s2 _ _ e
      refine ⟨hD2,by omega,hP _ _ ⟨hj,(s1.trans s2).put hD,af,by rw [List.length_append,hyl]; rfl,fun q hq=>?_,fun k y e=>?_⟩⟩
      · rcases List.mem_append.mp hq with z | z
        · exact hnew q z
        · cases List.mem_singleton.mp z
          exact s1.free hr0
      · rcases Nat.lt_or_ge k ys.length with h | h
        · rw [List.getElem?_append_left h] at e
          exact (hM k y e).q mo
        · have hk:k = ys.length:=by
            have:=(List.getElem?_eq_some_iff.mp e).1
            rw [List.length_append] at this
            simp at this
            omega
          rw [List.getElem?_append_right h,hk,Nat.sub_self] at e
          cases e
          rw [hk,hyl]
          refine (hR.cut hD2 nr).q fun b o c e=>?_
          by_cases hb:b = D
          · rw [hb,d8] at e; cases e
          · rw [cJ hb] at e ⊢
            rw [ao hb]; exact e
    · rintro ys H' ⟨_,s1,hD1,hyl,hnew,hM⟩
      exact q _ D ys s1 hD hD1 hnew ⟨D,ys,rfl,hD1,hyl,fun k y e=>(hM k y e).q ve⟩
end
end My
namespace My
open PySem L2 FrM
def IsPl (a:Ad) (H:Hp):Nat→V→Prop
  | 0,v=>∃ x dx,∃ m:Nat,v = .ref x∧H x = some (.ins a.c_Few dx [("many",.int (m:Nat))])
  | k + 1,v=>∃ x dx w,v = .ref x∧H x = some (.ins a.c_Each dx [("inside",w)])∧IsPl a H k w
theorem IsPl.t {a:Ad} {H H':Hp} (s:SameT H H'):∀ {k:Nat} {v:V},IsPl a H k v→IsPl a H' k v
  | 0,_,⟨x,dx,m,h1,h2⟩=>⟨x,dx,m,h1,s.at h2⟩
  | k + 1,_,⟨x,dx,w,h1,h2,h3⟩=>⟨x,dx,w,h1,s.at h2,IsPl.t s h3⟩
inductive BadPl (a:Ad) (H:Hp):Nat→V→Prop
  | each0 (x dx:Addr) (w:V) (h:H x = some (.ins a.c_Each dx [("inside",w)])):BadPl a H 0 (.ref x)
  | each (n:Nat) (x dx:Addr) (w:V) (h:H x = some (.ins a.c_Each dx [("inside",w)])) (h':BadPl a H n w):BadPl a H (n + 1) (.ref x)
  | first0 (x dx:Addr) (u w:V) (h:H x = some (.ins a.c_First dx [("outside",u),("inside",w)])):BadPl a H 0 (.ref x)
  | firstO (n:Nat) (x dx:Addr) (u w:V) (h:H x = some (.ins a.c_First dx [("outside",u),("inside",w)])) (h':BadPl a H 0 u):BadPl a H (n + 1) (.ref x)
  | firstI (n:Nat) (x dx:Addr) (u w:V) (h:H x = some (.ins a.c_First dx [("outside",u),("inside",w)])) (h':IsPl a H 0 u) (h'':BadPl a H n w):BadPl a H (n + 1) (.ref x)
theorem BadPl.t {a:Ad} {H H':Hp} (s:SameT H H') {n:Nat} {v:V} (h:BadPl a H n v):BadPl a H' n v:=by
  induction h with
  | each0 x dx w h=>exact .each0 x dx w (s.at h)
  | each n x dx w h _ ih=>exact .each n x dx w (s.at h) ih
  | first0 x dx u w h=>exact .first0 x dx u w (s.at h)
  | firstO n x dx u w h _ ih=>exact .firstO n x dx u w (s.at h) ih
  | firstI n x dx u w h h' _ ih=>exact .firstI n x dx u w (s.at h) (h'.t s) ih
def ia (c:Addr) (H:Hp) (E:XK):Prop:=∀ H',Same H H'→E (.ref c) none H'
def uL (a:Ad):Sp:=fun vs H Q E=>∃ n:Nat,vs = [.int (n:Nat)]∧((n = 0∧ia a.c_NoLevel H E)∨(n≠0∧Q .non H))
def xp (a:Ad) (n:Nat) (v:V) (H:Hp) (Q:VK) (E:XK):Prop:=(∃ k,k≤n∧IsPl a H k v∧Q .non H)∨(BadPl a H n v∧ia a.c_NoLevel H E)
def lh (a:Ad) (N:Nat):Sp:=fun vs H Q E=>∃ x dx w,∃ n:Nat,vs = [.ref x,.int (n:Nat)]∧n < N∧H x = some (.ins a.c_Each dx [("inside",w)])∧((n = 0∧ia a.c_NoLevel H E)∨∃ m,n = m + 1∧xp a m w H Q E)
def lP (a:Ad) (N:Nat):Sp:=fun vs H Q E=>∃ x dx u w,∃ n:Nat,vs = [.ref x,.int (n:Nat)]∧n < N∧H x = some (.ins a.c_First dx [("outside",u),("inside",w)])∧ia a.c_NoLevel H E∧(n = 0∨∃ m,n = m + 1∧(BadPl a H 0 u∨(IsPl a H 0 u∧BadPl a H m w)))
def sw:Sp:=fun vs H Q _=>∃ v u,vs = [v,u]∧Q .non H
def nY (a:Ad) (K:PySem.W.Frag) (n:Nat) (H:Hp) (Q:VK):Prop:=∀ H' r rows,SameT H H'→TabsOk (tabs a) H'→H r = none→H' r = some (.lst rows)→(∀ q,V.ref q ∈ rows→H q = none)→Mx K dW H' n (.ref r)→Q (.ref r) H'
def wl (a:Ad) (K:PySem.W.Frag):Sp:=fun vs H Q _=>∃ v l zs,vs = [v,.ref l]∧IsPl a H 0 v∧H l = some (.lst zs)∧zs.length≤5∧TabsOk (tabs a) H∧nY a K zs.length H Q
def pv (a:Ad) (K:PySem.W.Frag) (k:Nat):Sp:=fun vs H Q _=>∃ v l zs ms j,vs = [v,.ref l]∧j < k∧IsPl a H (j + 1) v∧H l = some (.lst zs)∧AllM H ms zs∧zs.length≤5∧(∀ m ∈ ms,j + 1≤m.path.length∧m.path.length≤3)∧TabsOk (tabs a) H∧nY a K zs.length H Q
def wW (a:Ad) (K:PySem.W.Frag) (k:Nat):Sp:=fun vs H Q _=>∃ w l r ou zs ys ms gs j,vs = [w,.ref l,.ref r,ou]∧j≤k∧IsPl a H j w∧H l = some (.lst zs)∧AllM H ms zs∧zs.length≤5∧H r = some (.lst ys)∧Paired (PLR H) gs ys∧gs.length≤5∧(∀ g ∈ gs,g.length≤5∧∀ m ∈ g,j≤m.path.length∧m.path.length≤3)∧(∀ m ∈ ms,∃ g ∈ gs,∃ m' ∈ g,m'.place = m.place)∧Mx K q9 H gs.length ou∧TabsOk (tabs a) H∧nY a K zs.length H Q
theorem Fun.okGc {P:Program} {w:World} {K:PySem.W.Frag} {mg:Str→Option Value} {base:Heap} {x qual:Str} {st:Stmt} {f c:Addr} {fd:FuncData} {N ps:List Str} {k:Nat} {sp:Sp} (F:Fun K x qual st f fd) (hc:fd.code = .ref c) (S:FnScope N ps (ac st)) (len:∀ vs H Q E,sp vs H Q E→vs.length = ps.length)
    (hbody:∀ (A:Around) (outer:List Env) (s:Shared) (H:Hp) (vs:List V) (Q:VK) (E:XK),Room k (A.deeper (PyProof.Rows.envOfC qual (ac st) s.heap.objs.size f (.ref c)))→sp vs H Q E →
      ∃ t,PSs (cxG P w K mg base N qual (ac st) f (.ref c) A outer s H E) (ag st) t∧t { nx:=fun _ H'=>Q .non H',rt:=Q } (eY N vs) H):FnOk P w K mg base (CXG P w) (k + 1) f fd ps sp:=by
  obtain ⟨oc,od,kV,doc,pm,an,cdv,ct,osl,rfl,lk,hcd⟩:=F.ex
  obtain rfl:cdv = .ref c:=hc
  exact rf lk hcd S len fun A outer s H vs Q E hr hsp=>hbody A outer s H vs Q E hr hsp
section
variable {P:Program} {w:World} {K:PySem.W.Frag} {mg:Str→Option Value} {base:Heap} {a:Ad}
theorem u9 (T:Txt K mg a):FnOk P w K mg base (CXG P w) 1 a.x_Plan_need_levels a.y_Plan_need_levels ["self", "levels"] sw:=by
  refine T.F_Plan_need_levels.okG gM (fun vs H Q E h=>?_) (fun cdv A outer s H vs Q E hr h=>?_)
  · obtain ⟨v,u,rfl,_⟩:=h; rfl
  · obtain ⟨v,u,rfl,q⟩:=h
    exact ⟨_,(ak ua),q⟩
theorem vT (T:Txt K mg a):FnOk P w K mg base (CXG P w) 1 a.f_need_group_names a.d_need_group_names ["levels"] (uL a):=by
  refine T.F_need_group_names.okG gO (fun vs H Q E h=>?_) (fun cdv A outer s H vs Q E hr h=>?_)
  · obtain ⟨n,rfl,_⟩:=h; rfl
  · obtain ⟨n,rfl,h⟩:=h
    refine ⟨_,(ak (bu (bz fA (vr 0) ai (aT _)) (ak (fM T.xc_NoLevel T.xh_NoLevel (i9 T.xi_NoLevel T.kc_NoLevel rfl T.mc_NoLevel))) aM)),?_⟩
    rcases h with ⟨rfl,q⟩ | ⟨hn,q⟩
    · exact iO (Same.refl H) q
    · exact ifN (c:=(n:Int) = 0) (by omega) q
theorem gH {H:Hp} {E:XK} {v:V} {n N:Nat} (hn:n < N) (hb:BadPl a H n v) (q:ia a.c_NoLevel H E) :
    (∃ x dx fs,v = .ref x∧H x = some (.ins a.c_Each dx fs)∧fs.lookup ("need_levels" : Str) = none∧∀ Q,lh a N [.ref x,.int (n:Nat)] H Q E) ∨
    ∃ x dx fs,v = .ref x∧H x = some (.ins a.c_First dx fs)∧fs.lookup ("need_levels" : Str) = none∧∀ Q,lP a N [.ref x,.int (n:Nat)] H Q E:=by
  cases hb with
  | each0 x dx w h=>exact .inl ⟨x,dx,_,rfl,h,rfl,fun Q=>⟨x,dx,w,0,rfl,hn,h,.inl ⟨rfl,q⟩⟩⟩
  | each n x dx w h h'=>exact .inl ⟨x,dx,_,rfl,h,rfl,fun Q=>⟨x,dx,w,_,rfl,hn,h,.inr ⟨n,rfl,.inr ⟨h',q⟩⟩⟩⟩
  | first0 x dx u w h=>exact .inr ⟨x,dx,_,rfl,h,rfl,fun Q=>⟨x,dx,u,w,0,rfl,hn,h,q,.inl rfl⟩⟩
  | firstO n x dx u w h h'=>exact .inr ⟨x,dx,_,rfl,h,rfl,fun Q=>⟨x,dx,u,w,_,rfl,hn,h,q,.inr ⟨n,rfl,.inl h'⟩⟩⟩
  | firstI n x dx u w h h' h''=>exact .inr ⟨x,dx,_,rfl,h,rfl,fun Q=>⟨x,dx,u,w,_,rfl,hn,h,q,.inr ⟨n,rfl,.inr ⟨h',h''⟩⟩⟩⟩
theorem qX {H:Hp} {Q:VK} {E:XK} {v:V} {n N:Nat} (hn:n < N) (h:xp a n v H Q E) :
    (∃ x dx fs,v = .ref x∧H x = some (.ins a.c_Few dx fs)∧fs.lookup ("need_levels" : Str) = none∧sw [.ref x,.int (n:Nat)] H Q E)∨(∃ x dx fs,v = .ref x∧H x = some (.ins a.c_Each dx fs)∧fs.lookup ("need_levels" : Str) = none∧lh a N [.ref x,.int (n:Nat)] H Q E) ∨
    ∃ x dx fs,v = .ref x∧H x = some (.ins a.c_First dx fs)∧fs.lookup ("need_levels" : Str) = none∧lP a N [.ref x,.int (n:Nat)] H Q E:=by
  rcases h with ⟨k,hk,hp,q⟩ | ⟨hb,q⟩
  · cases k with
    | zero =>
      obtain ⟨x,dx,m,rfl,hx⟩:=hp
      exact .inl ⟨x,dx,_,rfl,hx,rfl,_,_,rfl,q⟩
    | succ k =>
      obtain ⟨x,dx,w,rfl,hx,hp⟩:=hp
      exact .inr (.inl ⟨x,dx,_,rfl,hx,rfl,x,dx,w,n,rfl,hn,hx,.inr ⟨n - 1,by omega,.inl ⟨k,by omega,hp,q⟩⟩⟩)
  · rcases gH hn hb q with ⟨x,dx,fs,h1,h2,h3,h4⟩ | ⟨x,dx,fs,h1,h2,h3,h4⟩
    · exact .inr (.inl ⟨x,dx,fs,h1,h2,h3,h4 _⟩)
    · exact .inr (.inr ⟨x,dx,fs,h1,h2,h3,h4 _⟩)
theorem oh (T:Txt K mg a):∀ N,FnOk P w K mg base (CXG P w) (N + 2) a.x_Each_need_levels a.y_Each_need_levels ["self", "levels"] (lh a N)∧FnOk P w K mg base (CXG P w) (N + 2) a.x_First_need_levels a.y_First_need_levels ["self", "levels"] (lP a N)
  | 0=>⟨⟨fun _ _ _ _ ⟨_,_,_,_,_,h,_⟩=>absurd h (Nat.not_lt_zero _),fun _ _ _ _ _ _ _ _ _ _ _ _ _ ⟨_,_,_,_,_,h,_⟩=>absurd h (Nat.not_lt_zero _)⟩,⟨fun _ _ _ _ ⟨_,_,_,_,_,_,h,_⟩=>absurd h (Nat.not_lt_zero _),fun _ _ _ _ _ _ _ _ _ _ _ _ _ ⟨_,_,_,_,_,_,h,_⟩=>absurd h (Nat.not_lt_zero _)⟩⟩
  | N + 1=>by
    have G_Each_need_levels:FnOk P w K mg base (CXG P w) (N + 2) _ _ _ (lh a N):=(oh T N).1
    have G_First_need_levels:FnOk P w K mg base (CXG P w) (N + 2) _ _ _ (lP a N):=(oh T N).2
    have G_Plan_need_levels:FnOk P w K mg base (CXG P w) (N + 2) _ _ _ sw:=(u9 T).mono (by omega)
    have G_need_group_names:FnOk P w K mg base (CXG P w) (N + 2) _ _ _ (uL a):=(vT T).mono (by omega)
    have dec:∀ {n:Nat},((n + 1:Nat):Int) - 1 = (n:Int):=fun {n}=>by omega
    constructor
    · refine T.F_Each_need_levels.okG gN (fun vs H Q E h=>?_) (fun cdv A outer s H vs Q E hr h=>?_)
      · obtain ⟨x,dx,w,n,rfl,_⟩:=h; rfl
      · obtain ⟨x,dx,w,n,rfl,hn,hx,h⟩:=h
        refine ⟨_,(aj (dF (am G_need_group_names hr rfl T.m_need_group_names T.F_need_group_names.kp T.B_need_group_names .nil cm (aa (vr 1) ae))) (ak (dF (PE.or (cI (eS (vr 0) rfl) T.cl_Few T.mt_Few_need_levels G_Plan_need_levels hr T.B_Plan_need_levels .nil cm (aa (av fj (vr 1) ai) ae)) (PE.or (cI (eS (vr 0) rfl) T.cl_Each T.mt_Each_need_levels G_Each_need_levels hr T.B_Each_need_levels .nil cm (aa (av fj (vr 1) ai) ae)) (cI (eS (vr 0) rfl) T.cl_First T.mt_First_need_levels G_First_need_levels hr T.B_First_need_levels .nil cm (aa (av fj (vr 1) ai) ae))))))),?_⟩
        rcases h with ⟨rfl,q⟩ | ⟨m,rfl,h⟩
        · exact ⟨0,rfl,.inl ⟨rfl,q⟩⟩
        · refine ⟨m + 1,rfl,.inr ⟨by omega,?_⟩⟩
          rcases qX (N:=N) (by omega) h with ⟨x1,d1,fs,rfl,h1,h2,h3⟩ | ⟨x1,d1,fs,rfl,h1,h2,h3⟩ | ⟨x1,d1,fs,rfl,h1,h2,h3⟩
          · exact .inl ⟨x,_,dx,_,_,rfl,hx,T.cl_Each,T.na_Each_inside,rfl,x1,d1,fs,rfl,h1,h2,by rw [← dec] at h3; exact h3⟩
          · exact .inr (.inl ⟨x,_,dx,_,_,rfl,hx,T.cl_Each,T.na_Each_inside,rfl,x1,d1,fs,rfl,h1,h2,by rw [← dec] at h3; exact h3⟩)
          · exact .inr (.inr ⟨x,_,dx,_,_,rfl,hx,T.cl_Each,T.na_Each_inside,rfl,x1,d1,fs,rfl,h1,h2,by rw [← dec] at h3; exact h3⟩)
    · refine T.F_First_need_levels.okG gv (fun vs H Q E h=>?_) (fun cdv A outer s H vs Q E hr h=>?_)
      · obtain ⟨x,dx,u,w,n,rfl,_⟩:=h; rfl
      · obtain ⟨x,dx,u,w,n,rfl,hn,hx,q,h⟩:=h
        refine ⟨_,(aj (dF (am G_need_group_names hr rfl T.m_need_group_names T.F_need_group_names.kp T.B_need_group_names .nil cm (aa (vr 1) ae))) (aj (dF (PE.or (cI (eS (vr 0) rfl) T.cl_Few T.mt_Few_need_levels G_Plan_need_levels hr T.B_Plan_need_levels .nil cm (aa ai ae)) (PE.or (cI (eS (vr 0) rfl) T.cl_Each T.mt_Each_need_levels G_Each_need_levels hr T.B_Each_need_levels .nil cm (aa ai ae)) (cI (eS (vr 0) rfl) T.cl_First T.mt_First_need_levels G_First_need_levels hr T.B_First_need_levels .nil cm (aa ai ae))))) (ak (dF (PE.or (cI (eS (vr 0) rfl) T.cl_Few T.mt_Few_need_levels G_Plan_need_levels hr T.B_Plan_need_levels .nil cm (aa (av fj (vr 1) ai) ae)) (PE.or (cI (eS (vr 0) rfl) T.cl_Each T.mt_Each_need_levels G_Each_need_levels hr T.B_Each_need_levels .nil cm (aa (av fj (vr 1) ai) ae)) (cI (eS (vr 0) rfl) T.cl_First T.mt_First_need_levels G_First_need_levels hr T.B_First_need_levels .nil cm (aa (av fj (vr 1) ai) ae)))))))),?_⟩
        rcases h with rfl | ⟨m,rfl,h⟩
        · exact ⟨0,rfl,.inl ⟨rfl,q⟩⟩
        · refine ⟨m + 1,rfl,.inr ⟨by omega,?_⟩⟩
          rcases h with hb | ⟨hp,hb⟩
          · rcases gH (N:=N) (n:=0) (by omega) hb q with ⟨x1,d1,fs,rfl,h1,h2,h3⟩ | ⟨x1,d1,fs,rfl,h1,h2,h3⟩
            · exact .inr (.inl ⟨x,_,dx,_,_,rfl,hx,T.cl_First,T.na_First_outside,rfl,x1,d1,fs,rfl,h1,h2,h3 _⟩)
            · exact .inr (.inr ⟨x,_,dx,_,_,rfl,hx,T.cl_First,T.na_First_outside,rfl,x1,d1,fs,rfl,h1,h2,h3 (fun _ _=>True)⟩)
          · obtain ⟨x0,d0,m0,rfl,h0⟩:=hp
            refine .inl ⟨x,_,dx,_,_,rfl,hx,T.cl_First,T.na_First_outside,rfl,x0,d0,_,rfl,h0,rfl,_,_,rfl,?_⟩
            rcases gH (N:=N) (by omega) hb q with ⟨x1,d1,fs,rfl,h1,h2,h3⟩ | ⟨x1,d1,fs,rfl,h1,h2,h3⟩
            · exact .inr (.inl ⟨x,_,dx,_,_,rfl,hx,T.cl_First,T.na_First_inside,rfl,x1,d1,fs,rfl,h1,h2,by have h4:=h3; rw [← dec] at h4; exact h4 _⟩)
            · exact .inr (.inr ⟨x,_,dx,_,_,rfl,hx,T.cl_First,T.na_First_inside,rfl,x1,d1,fs,rfl,h1,h2,by have h4:=h3; rw [← dec] at h4; exact h4 (fun _ _=>True)⟩)
end
end My
namespace My
open PySem L2 FrM
theorem PLR.t {H H':Hp} (s:SameT H H') (g:List M) (v:V) (h:PLR H g v):PLR H' g v:=by
  obtain ⟨l,ys,h1,h2,h3⟩:=h
  exact ⟨l,ys,h1,s.at h2,h3.tk (SameT.tk s)⟩
def kQ (a:Ad) (K:PySem.W.Frag):Sp:=fun vs H Q E=>∃ x v,vs = [x,v]∧TabsOk (tabs a) H ∧
  ((∃ (l:Addr) (us:List U) (xs:List V) (lev:Nat),x = .ref l∧H l = some (.lst xs)∧AllU H us xs∧GoodL us∧us.length≤5∧(∀ u ∈ us,u.path.length = lev)∧lev≤2∧((IsPl a H lev v∧∀ H' r,SameT H H'→TabsOk (tabs a) H'→Mx K dW H' us.length (.ref r)→Q (.ref r) H')∨(BadPl a H lev v∧ia a.c_NoLevel H E))) ∨
   (BadL H x∧ia a.c_NoUnits H E))
section
variable {P:Program} {w:World} {K:PySem.W.Frag} {mg:Str→Option Value} {base:Heap} {a:Ad}
theorem vg (T:Txt K mg a) (hB:Bm mg base):FnOk P w K mg base CX0 8 a.x_Few_matrix a.y_Few_matrix ["self", "crowd"] (wl a K):=by
  have G_matrix_by:FnOk P w K mg base CX0 7 _ _ _ (oF K):=mE T
  refine T.F_Few_matrix.okL T.lcd_Few_matrix sc_Few_matrix (by decide +kernel) (fun vs H Q E h=>?_) (fun A outer s H vs Q E hr h=>?_)
  · obtain ⟨v,l,zs,rfl,_⟩:=h; rfl
  · obtain ⟨v,l,zs,rfl,⟨x,dx,m,rfl,hx⟩,hl,hz,hT,q⟩:=h
    refine ⟨_,(gF (az (i:=2) sc_Few_matrix.nd rfl (Or.inr rfl) (aB bi rfl T.z_len dH (aa (vr 1) ae))) (gF (az (i:=3) sc_Few_matrix.nd rfl (Or.inr rfl) (aB (oS rfl) rfl T.z_min wm (aa (eS (vr 0) rfl) (aa (vr 2) ae)))) (kn sc_Few_matrix.nd (by decide +kernel) G_matrix_by hr rfl T.m_matrix_by T.F_matrix_by.kp T.B_matrix_by .nil (aa (vr 2) (aa (jF (d:=dh) rfl T.lch_Few_matrix hB rfl (by with_unfolding_all rfl) rfl (jR a) (.head _) T.tnd jK) ae))))),?_⟩
    refine ⟨_,.inl (SqL.of hl),?_⟩
    refine ⟨x,_,dx,_,_,rfl,hx,T.cl_Few,T.na_Few_many,rfl,?_⟩
    refine ⟨_,_,rfl,?_⟩
    have e:(if ((zs.length:Int) < (m:Int)) then (zs.length:Int) else (m:Int)) = ((min m zs.length:Nat):Int):=by split <;> omega
    rw [e]
    refine ⟨hT,fun f c H1 t1 hT1 hf0 ef ec=>?_⟩
    intro H3 s3 hc
    have cT:=hc 2 _ _ _ rfl rfl (by with_unfolding_all rfl)
    have cW:=hc 3 _ _ _ rfl rfl (by with_unfolding_all rfl)
    have t13:=t1.trans s3.t
    refine ⟨zs.length,.ref f,dW,rfl,by omega,.inl ⟨rfl,hz,min m zs.length,Nat.min_le_right _ _,⟨f,c,_,rfl,s3 _ _ ef,s3 _ _ ec,rfl,by simp,.cons cW (.cons cT .nil)⟩⟩,fun H' r rows s4 hr0 hr1 hnew hM=>?_⟩
    exact q _ r rows (t13.trans s4.t) ((hT1.same s3).same s4) (t13.free hr0) hr1 (fun q hq=>t13.free (hnew q hq)) hM
theorem xb (T:Txt K mg a) (hB:Bm mg base) (k:Nat) (hE:FnOk P w K mg base CX0 (8 + 2 * k) a.x_Each_matrix a.y_Each_matrix ["self", "crowd"] (pv a K k)):FnOk P w K mg base CX0 (9 + 2 * k) a.f_groups_matrix a.d_groups_matrix ["plan", "crowd", "groups", "outer"] (wW a K k):=by
  have G_Each_matrix:FnOk P w K mg base CX0 (8 + 2 * k) _ _ _ (pv a K k):=hE
  have G_Few_matrix:FnOk P w K mg base CX0 (8 + 2 * k) _ _ _ (wl a K):=(vg T hB).mono (by omega)
  have G_spots_of:FnOk P w K mg base CX0 (8 + 2 * k) _ _ _ nW:=(qM T).mono (by omega)
  have G_matrix_by:FnOk P w K mg base CX0 (8 + 2 * k) _ _ _ (oF K):=(mE T).mono (by omega)
  have e9:9 + 2 * k = 8 + 2 * k + 1:=by omega
  rw [e9]
  refine T.F_groups_matrix.okL T.lcd_groups_matrix sc_groups_matrix (by decide +kernel) (fun vs H Q E h=>?_) (fun A outer s H vs Q E hr h=>?_)
  · obtain ⟨w',l,r,ou,zs,ys,ms,gs,j,rfl,_⟩:=h; rfl
  · obtain ⟨w',l,r,ou,zs,ys,ms,gs,j,rfl,hj,hpl,hl,hm,hz5,hr',hg,g5,hgs,hin,hou,hT,q⟩:=h
    have small:sizeLine = 16777216:=sizeLine_eq
    refine ⟨_,(gF (az (i:=4) sc_groups_matrix.nd rfl (Or.inr rfl) (bC rfl (N:=["members", "plan"]) (ix:=[none,some 0]) ⟨rfl,rfl,rfl,rfl,⟨rfl,rfl,rfl,trivial⟩⟩ (db (vr 2)) ⟨fun C s H fp=>aw (i:=0) (show List.Nodup (["members", "plan"]:List Str) by decide +kernel) rfl (Or.inl rfl),fun C s H fp=>ck,fun C s H fp=>(PE.or (cI (vr 1) T.cl_Few T.mt_Few_matrix G_Few_matrix hr T.B_Few_matrix .nil ar (aa (vr 0) ae)) (cI (vr 1) T.cl_Each T.mt_Each_matrix G_Each_matrix hr T.B_Each_matrix .nil ar (aa (vr 0) ae)))⟩)) (gF (az (i:=5) sc_groups_matrix.nd rfl (Or.inr rfl) (am G_spots_of hr rfl T.m_spots_of T.F_spots_of.kp T.B_spots_of .nil ar (aa (vr 1) (aa (vr 2) ae)))) (kn sc_groups_matrix.nd (by decide +kernel) G_matrix_by hr rfl T.m_matrix_by T.F_matrix_by.kp T.B_matrix_by .nil (aa (aB bi rfl T.z_len dH (aa (vr 1) ae)) (aa (jF (d:=cj) rfl T.lch_groups_matrix hB rfl (by with_unfolding_all rfl) rfl (iE a) (.head _) T.tnd iP) ae))))),?_⟩
    refine .inl ⟨⟨_,SqL.of hr'⟩,fun D hD=>?_⟩
    have ext:∀ {H':Hp},TabsOk (tabs a) H'→∀ {ys:List V} {ys':List V},H' D = some (.lst ys)→TabsOk (tabs a) (upd H' D (.lst ys')):=fun hT' ys ys' e=>hT'.put (fun ps z=>by rw [e] at z; cases z) fun φ z=>by rw [e] at z; cases z
    refine dq (K:=K) (a:=r) (xs:=ys) (fun i bs H'=>SameT H H'∧TabsOk (tabs a) H'∧H' D = some (.lst bs)∧i≤gs.length∧Paired (fun (g:List M) v=>Mx K dW (untr H' D) g.length v) (gs.take i) bs)
      ⟨(Same.new hD).t,hT.same (Same.new hD),af,Nat.zero_le _,.nil⟩ (fun i bs H' h=>SqL.of (h.1.at hr')) (fun i bs H' h=>h.2.2.1) ?_ ?_
    · rintro i y bs H' P' hy ⟨t1,hT1,hD1,hi,hc⟩ hP'
      obtain ⟨g,hgi,lg,yg,rfl,hlg,hmg⟩:=hJ hg hy
      have ilt:i < gs.length:=(List.getElem?_eq_some_iff.mp hgi).1
      obtain ⟨gl5,gp⟩:=hgs g (List.mem_of_getElem? hgi)
      have ygl:g.length = yg.length:=Paired.length hmg
      have bl:bs.length≤5:=by rw [← Paired.length hc,List.length_take]; omega
      have cont:nY a K yg.length H' (fun v H2=>H2 D = some (.lst bs)∧bs.length < sizeLine∧P' (bs ++ [v]) (upd H2 D (.lst (bs ++ [v])))):=fun H2 r2 rows t2 hT2 hr0 hr2 hnew hM=>by
        have hD2:=t2.at hD1
        have nr:r2≠D:=fun z=>by rw [z,hD1] at hr0; cases hr0
        have nn:∀ q,V.ref q ∈ rows→q≠D:=fun q hq z=>by have:=hnew q hq; rw [z,hD1] at this; cases this
        have mo:∀ {Ha:Hp},SQ Ha H2→SQ (untr Ha D) (untr (upd H2 D (.lst (bs ++ [.ref r2]))) D):=fun s b o c e=>by
          by_cases hb:b = D
          · rw [hb,d8] at e; cases e
          · rw [cJ hb] at e ⊢
            rw [ao hb]
            exact s b o c e
        refine ⟨hD2,by omega,hP' _ _ ⟨(t1.trans t2).put hD,ext hT2 hD2,af,ilt,lK (dU (fun g v h=>h.q (mo (SQ.of t2))) hc) hgi ?_⟩⟩
        rw [ygl]
        exact (hM.cut hD2 fun l' rows' e e'=>by cases e; rw [hr2] at e'; cases e'; exact ⟨nr,nn⟩).q (mo fun b o _ e=>e)
      cases j with
      | zero =>
        obtain ⟨x,dx,m,rfl,hx⟩:=hpl.t t1
        exact ⟨⟨rfl,trivial⟩,.inl ⟨x,dx,_,rfl,hx,rfl,_,lg,yg,rfl,⟨x,dx,m,rfl,hx⟩,t1.at hlg,by omega,hT1,cont⟩⟩
      | succ j =>
        obtain ⟨x,dx,w2,rfl,hx,hp2⟩:=hpl.t t1
        exact ⟨⟨rfl,trivial⟩,.inr ⟨x,dx,_,rfl,hx,rfl,_,lg,yg,g,j,rfl,by omega,⟨x,dx,w2,rfl,hx,hp2⟩,t1.at hlg,hmg.tk (SameT.tk t1),by omega,gp,hT1,cont⟩⟩
    rintro bs H1 ⟨t1,hT1,hD1,_,hc⟩
    rw [show ys.length = gs.length from (Paired.length hg).symm,List.take_length] at hc
    have hc1:Paired (fun (g:List M) v=>Mx K dW H1 g.length v) gs bs:=dU (fun g v h=>h.q ve) hc
    refine ⟨l,r,ms,gs,zs,ys,rfl,t1.at hl,hm.tk (SameT.tk t1),t1.at hr',dU (PLR.t t1) hg,by rw [Paired.length hm]; omega,by omega,fun g hg'=>by have:=(hgs g hg').1; omega,hin,fun H2 ts zz s2 hts hzl hsp=>?_⟩
    have t2:=t1.trans s2.t
    refine ⟨_,.inl (SqL.of (t2.at hl)),?_⟩
    refine ⟨hT1.same s2,fun f c H3 t3 hT3 hf0 ef ec=>?_⟩
    intro H4 s4 hcl
    have cO:=hcl 3 _ _ _ rfl rfl (by with_unfolding_all rfl)
    have cB:=hcl 4 _ _ _ rfl rfl (by with_unfolding_all rfl)
    have cS:=hcl 5 _ _ _ rfl rfl (by with_unfolding_all rfl)
    have t34:=t3.trans s4.t
    have t04:=t2.trans t34
    refine ⟨zs.length,.ref f,dW,rfl,by omega,.inr (.inr ⟨rfl,_,_,_,⟨f,c,_,rfl,s4 _ _ ef,s4 _ _ ec,rfl,by simp; omega,.cons cS (.cons cO (.cons cB .nil))⟩,gs,ts,D,zz,bs,rfl,rfl,t34.at hts,by rw [hzl]; exact Paired.length hm,fun z hz=>(hsp z hz).tk (SameT.tk t34),hou.q (SQ.of t04),t34.at (s2 _ _ hD1),dU (fun g v h=>h.q (SQ.of (s2.t.trans t34))) hc1⟩),fun H' r3 rows s5 hr0 hr1 hnew hM=>?_⟩
    exact q _ r3 rows (t04.trans s5.t) ((hT3.same s4).same s5) (t04.free hr0) hr1 (fun q hq=>t04.free (hnew q hq)) hM
theorem tS (T:Txt K mg a) (hB:Bm mg base) (k:Nat) (hE:FnOk P w K mg base CX0 (8 + 2 * k) a.x_Each_matrix a.y_Each_matrix ["self", "crowd"] (pv a K k)):FnOk P w K mg base CX0 (8 + 2 * (k + 1)) a.x_Each_matrix a.y_Each_matrix ["self", "crowd"] (pv a K (k + 1)):=by
  have G_groups_matrix:FnOk P w K mg base CX0 (9 + 2 * k) _ _ _ (wW a K k):=xb T hB k hE
  have G_parted:FnOk P w K mg base CX0 (9 + 2 * k) _ _ _ kY:=(pD T).mono (by omega)
  have G_matrix_by:FnOk P w K mg base CX0 (9 + 2 * k) _ _ _ (oF K):=(mE T).mono (by omega)
  have e9:8 + 2 * (k + 1) = 9 + 2 * k + 1:=by omega
  rw [e9]
  refine T.F_Each_matrix.okL T.lcd_Each_matrix sc_Each_matrix (by decide +kernel) (fun vs H Q E h=>?_) (fun A outer s H vs Q E hr h=>?_)
  · obtain ⟨v,l,zs,ms,j,rfl,_⟩:=h; rfl
  · obtain ⟨v,l,zs,ms,j,rfl,hj,⟨x,dx,w',rfl,hx,hp⟩,hl,hm,hz,hpath,hT,q⟩:=h
    have small:sizeLine = 16777216:=sizeLine_eq
    refine ⟨_,(gF (az (i:=2) sc_Each_matrix.nd rfl (Or.inl rfl) (am G_parted hr rfl T.m_parted T.F_parted.kp T.B_parted .nil ar (aa (vr 1) ae))) (gF (az (i:=3) sc_Each_matrix.nd rfl (Or.inl rfl) (am G_matrix_by hr rfl T.m_matrix_by T.F_matrix_by.kp T.B_matrix_by .nil ar (aa (aB bi rfl T.z_len dH (aa (vr 2) ae)) (aa (jF (d:=cL) rfl T.lch_Each_matrix hB rfl (by with_unfolding_all rfl) rfl (jg a) (.head _) T.tnd jA) ae)))) (wa (am G_groups_matrix hr rfl T.m_groups_matrix T.F_groups_matrix.kp T.B_groups_matrix .nil ar (aa (eS (vr 0) rfl) (aa (vr 1) (aa (vr 2) (aa (vr 3) ae)))))))),?_⟩
    refine ⟨l,ms,zs,rfl,hl,hm,by omega,fun m hm'=>⟨fun z=>by have:=(hpath m hm').1; rw [z] at this; simp at this,(hpath m hm').2⟩,fun H1 r ys s1 hr1 hP=>?_⟩
    have hml:ms.length = zs.length:=Paired.length hm
    obtain ⟨hin,heach,hcnt⟩:=jj ms (p:=fun x=>j≤x.path.length∧x.path.length≤3) fun m hm'=>by
      obtain ⟨h1,h2⟩:=hpath m hm'
      show j≤m.path.tail.length∧m.path.tail.length≤3
      rw [List.length_tail]
      omega
    obtain ⟨hgl,hge⟩:=nv (groups ms) fun e he=>(heach e he).1
    have hpl:(parts ms).length = ys.length:=Paired.length hP
    have hp5:(parts ms).length≤5:=by unfold parts; rw [List.length_map]; omega
    refine ⟨_,.inl (SqL.of hr1),?_⟩
    refine ⟨hT.same s1,fun f c H2 t2 hT2 hf0 ef ec=>?_⟩
    refine ⟨ys.length,.ref f,q9,rfl,by omega,.inr (.inl ⟨rfl,f,c,[],rfl,ef,ec,rfl,by simp,.nil⟩),fun H3 ro rows s3 _ _ _ hM=>?_⟩
    have t13:=t2.trans s3.t
    have t03:=s1.t.trans t13
    refine ⟨x,_,dx,_,_,rfl,t03.at hx,T.cl_Each,T.na_Each_inside,rfl,?_⟩
    refine ⟨w',l,r,.ref ro,zs,ys,ms,parts ms,j,rfl,by omega,hp.t t03,t03.at hl,hm.tk (SameT.tk t03),hz,t13.at hr1,dU (PLR.t t13) hP,hp5,fun g hg=>?_,fun m hm'=>?_,by rw [hpl]; exact hM,hT2.same s3,fun H4 r4 rows4 t4 hT4 hr0 hr4 hnew hM4=>fun H5 s5 _=>?_⟩
    · obtain ⟨e,he,rfl⟩:=List.mem_map.mp hg
      exact ⟨by have:=hge e he; omega,(heach e he).2⟩
    · obtain ⟨e,he,m',hm2,hpl2⟩:=hin m hm'
      exact ⟨e.2,List.mem_map.mpr ⟨e,he,rfl⟩,m',hm2,hpl2⟩
    · exact q H5 r4 rows4 (t03.trans (t4.trans s5.t)) (hT4.same s5) (t03.free hr0) (s5 _ _ hr4) (fun q hq=>t03.free (hnew q hq)) (hM4.q (SQ.of s5.t))
theorem vi (T:Txt K mg a) (hB:Bm mg base):∀ k,FnOk P w K mg base CX0 (8 + 2 * k) a.x_Each_matrix a.y_Each_matrix ["self", "crowd"] (pv a K k)
  | 0=>⟨fun _ _ _ _ ⟨_,_,_,_,_,_,h,_⟩=>absurd h (Nat.not_lt_zero _),fun _ _ _ _ _ _ _ _ _ _ _ _ _ ⟨_,_,_,_,_,_,h,_⟩=>absurd h (Nat.not_lt_zero _)⟩
  | k + 1=>tS T hB k (vi T hB k)
theorem jz (T:Txt K mg a) (hB:Bm mg base):FnOk P w K mg base (CXG P w) 13 a.f_chances a.d_chances ["units", "plan"] (kQ a K):=by
  have G_need_units:FnOk P w K mg base (CXG P w) 12 _ _ _ (mm a):=(nG T).mono (by decide)
  have G_Plan_need_levels:FnOk P w K mg base (CXG P w) 12 _ _ _ sw:=(u9 T).mono (by decide)
  have G_Each_need_levels:FnOk P w K mg base (CXG P w) 12 _ _ _ (lh a 3):=(oh T 3).1.mono (by decide)
  have G_First_need_levels:FnOk P w K mg base (CXG P w) 12 _ _ _ (lP a 3):=(oh T 3).2.mono (by decide)
  have G_Few_matrix:FnOk P w K mg base CX0 12 _ _ _ (wl a K):=(vg T hB).mono (by decide)
  have G_Each_matrix:FnOk P w K mg base CX0 12 _ _ _ (pv a K 2):=vi T hB 2
  have G_crowd_of:FnOk P w K mg base CX0 12 _ _ _ oy:=(rT T).mono (by decide)
  refine T.F_chances.okG mY (fun vs H Q E h=>?_) (fun cdv A outer s H vs Q E hr h=>?_)
  · obtain ⟨x,v,rfl,_⟩:=h; rfl
  · obtain ⟨x,v,rfl,hT,h⟩:=h
    refine ⟨_,(aj (dF (am G_need_units hr rfl T.m_need_units T.F_need_units.kp T.B_need_units .nil cm (aa (vr 0) ae))) (aj (dF (PE.or (cI (vr 1) T.cl_Few T.mt_Few_need_levels G_Plan_need_levels hr T.B_Plan_need_levels .nil cm (aa (aB bi rfl T.z_len dH (aa (aA au (aA au (vr 0) ai (fun _ _=>rfl)) ai (fun _ _=>rfl)) ae)) ae)) (PE.or (cI (vr 1) T.cl_Each T.mt_Each_need_levels G_Each_need_levels hr T.B_Each_need_levels .nil cm (aa (aB bi rfl T.z_len dH (aa (aA au (aA au (vr 0) ai (fun _ _=>rfl)) ai (fun _ _=>rfl)) ae)) ae)) (cI (vr 1) T.cl_First T.mt_First_need_levels G_First_need_levels hr T.B_First_need_levels .nil cm (aa (aB bi rfl T.z_len dH (aa (aA au (aA au (vr 0) ai (fun _ _=>rfl)) ai (fun _ _=>rfl)) ae)) ae))))) (ak (aq (PE.or (cI (vr 1) T.cl_Few T.mt_Few_matrix G_Few_matrix hr T.B_Few_matrix .nil ar (aa (am G_crowd_of hr rfl T.m_crowd_of T.F_crowd_of.kp T.B_crowd_of .nil ar (aa (vr 0) ae)) ae)) (cI (vr 1) T.cl_Each T.mt_Each_matrix G_Each_matrix hr T.B_Each_matrix .nil ar (aa (am G_crowd_of hr rfl T.m_crowd_of T.F_crowd_of.kp T.B_crowd_of .nil ar (aa (vr 0) ae)) ae))))))),?_⟩
    rcases h with ⟨l,us,xs,lev,rfl,hl,hu,hg,h5,hlev,hl2,h⟩ | ⟨hb,q⟩
    · refine ⟨.ref l,rfl,.inl ⟨l,us,xs,rfl,hl,hu,hg,fun H1 s1=>?_⟩⟩
      have g1:=hg.l1
      have hlen:=hu.len
      have e0:xs[0]? = some (xs[0]'(by omega)):=List.getElem?_eq_getElem _
      obtain ⟨u0,hu0,hU0⟩:=hu.get e0
      obtain ⟨ad,pp,ex,ha,hpp⟩:=hU0.tk s1.tk
      rw [ex] at e0
      have en:(u0.path.map V.str).length = lev:=by rw [List.length_map]; exact hlev u0 (List.mem_of_getElem? hu0)
      subst en
      have hl1:=s1 _ _ hl
      have hT1:=hT.same s1
      have hu1:=hu.tk s1.tk
      rcases h with ⟨hpl,q⟩ | ⟨hbad,q⟩
      · have hp1:=hpl.t s1.t
        cases hk:(u0.path.map V.str).length with
        | zero =>
          rw [hk] at hp1
          obtain ⟨x,dx,m,rfl,hx⟩:=hp1
          refine .inl ⟨x,dx,_,rfl,hx,rfl,.inl ⟨l,_,_,_,rfl,rfl,SqL.of hl1,ax 0 rfl e0,.inr (.inl ⟨ad,_,_,_,rfl,rfl,SqT.of ha,ax 3 rfl rfl,_,.inr (SqT.of hpp),_,_,rfl,?_⟩)⟩⟩
          refine .inl ⟨x,dx,_,rfl,hx,rfl,l,us,xs,rfl,hl1,hu1,hg,fun H2 r ms cs s2 hr2 hm hml hmu=>?_⟩
          have hcl:cs.length = us.length:=by rw [← hml]; exact (Paired.length hm).symm
          exact ⟨_,r,cs,rfl,⟨x,dx,m,rfl,s2 _ _ hx⟩,hr2,by omega,hT1.same s2,fun H3 r3 rows t3 hT3 _ _ _ hM=>q H3 r3 ((s1.trans s2).t.trans t3) hT3 (by rw [← hcl]; exact hM)⟩
        | succ k =>
          rw [hk] at hp1
          obtain ⟨x,dx,w',rfl,hx,hp2⟩:=hp1
          refine .inr (.inl ⟨x,dx,_,rfl,hx,rfl,.inl ⟨l,_,_,_,rfl,rfl,SqL.of hl1,ax 0 rfl e0,.inr (.inl ⟨ad,_,_,_,rfl,rfl,SqT.of ha,ax 3 rfl rfl,_,.inr (SqT.of hpp),x,dx,w',_,rfl,by omega,hx,.inr ⟨k,hk,.inl ⟨k,Nat.le_refl _,hp2,?_⟩⟩⟩)⟩⟩)
          refine .inr ⟨x,dx,_,rfl,hx,rfl,l,us,xs,rfl,hl1,hu1,hg,fun H2 r ms cs s2 hr2 hm hml hmu=>?_⟩
          have hcl:cs.length = us.length:=by rw [← hml]; exact (Paired.length hm).symm
          refine ⟨_,r,cs,ms,k,rfl,by omega,⟨x,dx,w',rfl,s2 _ _ hx,hp2.t s2.t⟩,hr2,hm,by omega,fun m hm'=>?_,hT1.same s2,fun H3 r3 rows t3 hT3 _ _ _ hM=>q H3 r3 ((s1.trans s2).t.trans t3) hT3 (by rw [← hcl]; exact hM)⟩
          obtain ⟨u,hu',e⟩:=hmu m hm'
          rw [e,hlev u hu',hk]
          omega
      · have q1:ia a.c_NoLevel H1 E:=fun H' s'=>q H' (s1.trans s')
        rcases gH (N:=3) (by omega) (hbad.t s1.t) q1 with ⟨x1,d1,fs,rfl,h1,h2,h3⟩ | ⟨x1,d1,fs,rfl,h1,h2,h3⟩
        · exact .inr (.inl ⟨x1,d1,fs,rfl,h1,h2,.inl ⟨l,_,_,_,rfl,rfl,SqL.of hl1,ax 0 rfl e0,.inr (.inl ⟨ad,_,_,_,rfl,rfl,SqT.of ha,ax 3 rfl rfl,_,.inr (SqT.of hpp),h3 _⟩)⟩⟩)
        · exact .inr (.inr ⟨x1,d1,fs,rfl,h1,h2,.inl ⟨l,_,_,_,rfl,rfl,SqL.of hl1,ax 0 rfl e0,.inr (.inl ⟨ad,_,_,_,rfl,rfl,SqT.of ha,ax 3 rfl rfl,_,.inr (SqT.of hpp),h3 (fun _ _=>True)⟩)⟩⟩)
    · exact ⟨x,rfl,.inr ⟨hb,q⟩⟩
end
end My
namespace My
open PySem L2 FrM
theorem vH {X:Cx} {K:PySem.W.Frag} (h:X.K = K) (hu:X.A.units + 64 < cLine):OpR X (compareOp .NotEq) (rEqD K true):=h ▸ xK hu
theorem qT (a b c d:Int):PyData.eqv (.tuple [.int a,.int b]) (.tuple [.int c,.int d]) = decide ((a,b) = (c,d)):=by
  simp [PyData.eqv,PyData.eqvAll]
  rfl
def DPos (K:PySem.W.Frag) (H:Hp) (v:V) (i:Nat):Prop:=∃ l rows r es y f,v = .ref l∧H l = some (.lst rows)∧rows[i]? = some (.ref r)∧H r = some (.lst es)∧es[i]? = some y∧IsF K H f y∧dW i i f∧f.1≠0
theorem DPos.q {K:PySem.W.Frag} {H H':Hp} {v:V} {i:Nat} (s:SQ H H') (h:DPos K H v i):DPos K H' v i:=by
  obtain ⟨l,rows,r,es,y,f,h1,h2,h3,h4,h5,h6,h7,h8⟩:=h
  exact ⟨l,rows,r,es,y,f,h1,s _ _ rfl h2,h3,s _ _ rfl h4,h5,h6.tk s.tk,h7,h8⟩
def Vals_ (H:Hp) (n:Nat) (v:V):Prop:=∃ l,∃ vs:List Int,v = .ref l∧H l = some (.lst (vs.map V.int))∧vs.length = n∧∀ x ∈ vs,-1000000000≤x∧x≤1000000000
theorem Vals_.q {H H':Hp} {n:Nat} {v:V} (s:SQ H H') (h:Vals_ H n v):Vals_ H' n v:=by
  obtain ⟨l,vs,h1,h2,h3,h4⟩:=h
  exact ⟨l,vs,h1,s _ _ rfl h2,h3,h4⟩
def oz (K:PySem.W.Frag):Sp:=fun vs H Q _=>∃ (n:Nat) (v:V),vs = [v]∧n≤5∧Mx K dW H n v∧∀ H' r (ps:List Nat),Same H H'→H' r = some (.lst (ps.map fun (i:Nat)=>V.int (i:Nat)))→ps.length≤n→(∀ i ∈ ps,i < n∧DPos K H' v i)→Q (.ref r) H'
def vj (K:PySem.W.Frag):Sp:=fun vs H Q _=>∃ (n:Nat) (v:V),vs = [v]∧n≤5∧Mx K dW H n v∧(∀ H',Same H H'→Q .non H')∧∀ H' p (i j:Nat),Same H H'→H' p = some (.tup [.int (i:Nat),.int (j:Nat)])→i < n→j < n→Q (.ref p) H'
def xg (K:PySem.W.Frag):Sp:=fun vs H Q _=>∃ (n:Nat) (v:V),vs = [v]∧n≤5∧Mx K dW H n v∧(∀ H',Same H H'→Q .non H')∧∀ H' (i:Nat),Same H H'→i < n→Q (.int (i:Nat)) H'
def xq (K:PySem.W.Frag):Sp:=fun vs H Q _=>∃ (n i j:Nat) (v lv:V),vs = [v,lv,.int (i:Nat),.int (j:Nat)]∧n≤5∧Mx K dW H n v∧Vals_ H n lv∧i < n∧j < n∧DPos K H v i∧DPos K H v j∧∀ H' x f,Same H H'→IsF K H' f x→Sml f→Q x H'
abbrev fvS:List Str:=["values", "rows"]
def xa (K:PySem.W.Frag):List V→Sp:=fun vals vs H Q _=>∃ (n i j:Nat) (v lv:V),vals = [lv,v]∧vs = [.int (i:Nat),.int (j:Nat)]∧n≤5∧Mx K dW H n v∧Vals_ H n lv∧i < n∧j < n∧DPos K H v i∧DPos K H v j∧∀ H' x f,Same H H'→IsF K H' f x→Sml f→Q x H'
theorem lsS:LamScope dD fvS ["one", "other"]:=⟨rfl,rfl,rfl,by decide +kernel,by decide +kernel,by decide +kernel,by decide +kernel,by decide +kernel⟩
def wq (K:PySem.W.Frag):Sp:=fun vs H Q _=>(∃ p v,vs = [.ref p,v]∧H p = some (.tup [])∧∀ H' z,Same H H'→Q z H') ∨
  ∃ (n:Nat) (p:Addr) (ps:List Nat) (v lv tv:V),vs = [.ref p,tv]∧H p = some (.lst (ps.map fun (i:Nat)=>V.int (i:Nat)))∧ps.length≤n∧n≤5∧(∀ i ∈ ps,i < n∧DPos K H v i)∧IsLam H dD fvS tv [lv,v]∧Mx K dW H n v∧Vals_ H n lv∧∀ H' z,Same H H'→Q z H'
def xU (a:Ad) (K:PySem.W.Frag):Sp:=fun vs H Q _=>∃ (n:Nat) (v lv:V),vs = [v,lv]∧n≤5∧Mx K dW H n v∧Vals_ H n lv∧TabsOk (tabs a) H∧∀ H' z,SameT H H'→TabsOk (tabs a) H'→Q z H'
def qZ:Sp:=fun vs H Q _=>∃ (p:Addr) (ns:List Int) (n:Nat),vs = [.ref p,.int (n:Nat)]∧H p = some (.tup (ns.map V.int))∧n≤5∧∀ H' z,Same H H'→Q z H'
section
variable {P:Program} {w:World} {K:PySem.W.Frag} {mg:Str→Option Value} {base:Heap} {a:Ad}
theorem oE {H:Hp} {p:Addr} {t b:Int} (h:SqT K H p [.int t,.int b]):DV K H (.tuple [.int t,.int b]) (.ref p):=by
  rw [DV]
  refine ⟨p,_,rfl,h,?_⟩
  rw [DVs]
  refine ⟨_,_,rfl,by simp [DV],?_⟩
  rw [DVs]
  exact ⟨_,_,rfl,by simp [DV],by simp [DVs]⟩
theorem iW (t b:Int):SeqAt.shaped (.tuple [.int t,.int b]) = true:=rfl
theorem qH {H:Hp} (T:Txt K mg a):IsF K H (0,1) (.ref a.k_NOUGHT):=⟨_,rfl,.inr T.t_NOUGHT⟩
theorem eqF {H:Hp} {neg:Bool} {x y:V} {f g:Int×Int} {Q:VK} (hx:IsF K H f x) (hy:IsF K H g y) (q:Q (.bl (if neg then !decide (f = g) else decide (f = g))) H):rEqD K neg x y H Q:=by
  obtain ⟨p,rfl,hp⟩:=hx
  obtain ⟨p',rfl,hp'⟩:=hy
  obtain ⟨t,b⟩:=f
  obtain ⟨t',b'⟩:=g
  refine ⟨_,_,oE hp.sq,oE hp'.sq,iW _ _,iW _ _,?_⟩
  rw [qT]
  exact q
theorem ml (T:Txt K mg a):FnOk P w K mg base CX0 1 a.f_places_with_share a.d_places_with_share ["rows"] (oz K):=by
  refine T.F_places_with_share.ok gB (fun vs H Q E h=>?_) (fun cdv A outer s H vs Q E hr h=>?_)
  · obtain ⟨n,v,rfl,_⟩:=h; rfl
  · obtain ⟨n,v,rfl,hn,hM,q⟩:=h
    have small:sizeLine = 16777216:=sizeLine_eq
    refine ⟨_,(ak (aq (bC rfl (N:=["place", "row"]) (ix:=[none,none]) ⟨rfl,rfl,rfl,rfl,trivial⟩ (gG rfl T.z_enumerate (aa (vr 0) ae)) ⟨fun C s H fp=>(i8 (K:=K) (n:=2) rfl rfl (aG (aw (i:=0) (show List.Nodup (["place", "row"]:List Str) by decide +kernel) rfl (Or.inl rfl)) (aG (aw (i:=1) (show List.Nodup (["place", "row"]:List Str) by decide +kernel) rfl (Or.inl rfl)) dG))),fun C s H fp=>ud (bz (vH (K:=K) rfl hr.units) (aA (eG (K:=K) rfl) (vr 1) (vr 0) (fun _ _=>rfl)) (eI rfl T.g_NOUGHT) (aT _)),fun C s H fp=>(vr 0)⟩))),?_⟩
    obtain ⟨l,rows,rfl,hl,hrl,hrow⟩:=id hM
    refine ⟨l,rows,rfl,hl,fun D hD=>?_⟩
    refine kf (a:=l) (xs:=rows) (fun i zs H'=>i≤n∧Same H H'∧H' D = some (.lst zs)∧∃ ps:List Nat,zs = (ps.map fun (i:Nat)=>V.int (i:Nat))∧ps.length≤i∧∀ k ∈ ps,k < n∧DPos K H (.ref l) k) ⟨Nat.zero_le _,Same.new hD,af,[],rfl,Nat.le_refl _,fun k hk=>by cases hk⟩ (fun i zs H' h=>h.2.1 _ _ hl) (fun i zs H' h=>h.2.2.1) ?_ ?_
    · rintro i x zs H' p P' hx ⟨hi,s1,hD1,ps,rfl,hpl,hps⟩ hp hP
      have ilt:i < n:=by rw [← hrl]; exact (List.getElem?_eq_some_iff.mp hx).1
      obtain ⟨r,es,rfl,hr1,hel,hes⟩:=hrow i x hx
      have e1:es[i]? = some (es[i]'(by omega)):=List.getElem?_eq_getElem _
      obtain ⟨f,hf,hR⟩:=hes i _ e1
      generalize es[i]'(by omega) = y at e1 hf
      have s2:Same H' (upd H' p (.tup [.int (i:Nat),.ref r])):=Same.new hp
      have s12:=s1.trans s2
      refine ⟨p,_,rfl,SqT.of af,rfl,_,_,rfl,_,_,rfl,rfl,?_⟩
      refine ⟨trivial,.inl ⟨r,_,_,_,rfl,rfl,SqL.of (s12 _ _ hr1),aH e1,?_⟩⟩
      have hD2:=s2 _ _ hD1
      refine eqF (hf.same s12) (qH T) ?_
      refine ifB (fun c=>?_) fun c=>?_
      · refine ⟨hD2,by rw [List.length_map]; omega,hP _ _ ⟨ilt,(s1.trans s2).put hD,af,ps ++ [i],by rw [List.map_append]; rfl,by rw [List.length_append]; exact Nat.succ_le_succ hpl,fun k hk=>?_⟩⟩
        rcases List.mem_append.mp hk with h | h
        · exact hps k h
        · rw [List.mem_singleton.mp h]
          refine ⟨ilt,l,rows,r,es,y,f,rfl,hl,hx,hr1,e1,hf,hR,fun z=>?_⟩
          have hf0:f = (0,1):=by
            obtain ⟨t,b⟩:=f
            have:b = 1:=hR.2.2.2.2 z
            rw [this,show t = 0 from z]
          have c:(!decide (f = (0,1))) = true:=c
          rw [decide_eq_true hf0] at c
          cases c
      · exact hP _ _ ⟨ilt,s1.trans s2,hD2,ps,rfl,by omega,hps⟩
    · rintro zs H' ⟨_,s1,hD1,ps,rfl,hpl,hps⟩
      exact q _ D ps s1 hD1 (by omega) fun k hk=>⟨(hps k hk).1,(hps k hk).2.q (SQ.of s1.t)⟩
theorem vf (T:Txt K mg a):FnOk P w K mg base CX0 2 a.f_never_together a.d_never_together ["rows"] (vj K):=by
  have G_places_with_share:FnOk P w K mg base CX0 1 _ _ _ (oz K):=ml T
  refine T.F_never_together.ok sc_never_together (fun vs H Q E h=>?_) (fun cdv A outer s H vs Q E hr h=>?_)
  · obtain ⟨n,v,rfl,_⟩:=h; rfl
  · obtain ⟨n,v,rfl,hn,hM,q1,q2⟩:=h
    refine ⟨_,(aj (az (i:=1) sc_never_together.nd rfl (Or.inl rfl) (am G_places_with_share hr rfl T.m_places_with_share T.F_places_with_share.kp T.B_places_with_share .nil ar (aa (vr 0) ae))) (aj (d7 PassesOwn.never rfl (db (vr 1)) (aw (i:=2) sc_never_together.nd rfl (Or.inl rfl)) (ak (d7 PassesOwn.never rfl (db (vr 1)) (aw (i:=3) sc_never_together.nd rfl (Or.inl rfl)) (ak (bu (PW.pt (hV (bz qD (vr 2) (vr 3) (aT _)) (gJ (bz (r9 hr.units) (aA au (aA au (vr 0) (vr 2) (fun _ _=>rfl)) (vr 3) (fun _ _=>rfl)) (eI rfl T.g_NOUGHT) (aT _))))) (ak (aq (bw (aa (vr 2) (aa (vr 3) ae))))) aM))))) (ak (aq fq)))),?_⟩
    refine ⟨n,v,rfl,hn,hM,fun H1 r ps s1 hr1 hpl hps=>?_⟩
    refine .inl ⟨⟨_,SqL.of hr1⟩,fD (K:=K) (a:=r) (xs:=ps.map fun (i:Nat)=>V.int (i:Nat)) (fun i σ H'=>H' = H1∧∃ x2 x3:Option V,σ = [some v,some (.ref r),x2,x3]) ⟨rfl,none,none,rfl⟩ (fun i σ H' _ h=>by rw [h.1]; exact SqL.of hr1) ?_ ?_⟩
    · rintro i x σ H' hx ⟨rfl,x2,x3,rfl⟩
      obtain ⟨i1,hi1,rfl⟩:=List.mem_map.mp (List.mem_of_getElem? hx)
      refine .inl ⟨⟨_,SqL.of hr1⟩,fD (K:=K) (a:=r) (xs:=ps.map fun (i:Nat)=>V.int (i:Nat)) (fun j σ H2=>H2 = H'∧∃ x3:Option V,σ = [some v,some (.ref r),some (.int (i1:Nat)),x3]) ⟨rfl,_,rfl⟩ (fun i σ H2 _ h=>by rw [h.1]; exact SqL.of hr1) ?_ ?_⟩
      · rintro j y σ H2 hy ⟨rfl,x3,rfl⟩
        obtain ⟨j1,hj1,rfl⟩:=List.mem_map.mp (List.mem_of_getElem? hy)
        refine ifC (fun c=>?_) fun c=>⟨rfl,_,rfl⟩
        obtain ⟨l,rows,r2,es,y,f,rfl,k2,k3,k4,k5,k6,k7⟩:=j9 (hM.q (SQ.of s1.t)) (hps i1 hi1).1 (hps j1 hj1).1
        refine .inl ⟨l,_,_,_,rfl,rfl,SqL.of k2,aH k3,.inl ⟨r2,_,_,_,rfl,rfl,SqL.of k4,aH k5,?_⟩⟩
        refine eqF k6 (qH T) ?_
        refine ifB (fun c=>?_) fun c=>⟨rfl,_,rfl⟩
        refine ⟨by show 2≤sizeLine; decide,fun p hp=>?_⟩
        exact q2 _ p i1 j1 (s1.trans (Same.new hp)) af (hps i1 hi1).1 (hps j1 hj1).1
      · rintro σ H2 ⟨rfl,x3,rfl⟩
        exact ⟨rfl,_,_,rfl⟩
    · rintro σ H' ⟨rfl,x2,x3,rfl⟩
      exact q1 _ s1
theorem xj (T:Txt K mg a):FnOk P w K mg base CX0 1 a.f_never_drawn a.d_never_drawn ["rows"] (xg K):=by
  refine T.F_never_drawn.ok sc_never_drawn (fun vs H Q E h=>?_) (fun cdv A outer s H vs Q E hr h=>?_)
  · obtain ⟨n,v,rfl,_⟩:=h; rfl
  · obtain ⟨n,v,rfl,hn,hM,q1,q2⟩:=h
    refine ⟨_,(aj (d7 PassesOwn.never rfl (gG rfl T.z_enumerate (aa (vr 0) ae)) (fu rfl (aG (aw (i:=1) sc_never_drawn.nd rfl (Or.inl rfl)) (aG (aw (i:=2) sc_never_drawn.nd rfl (Or.inl rfl)) dG))) (ak (bu (bz (r9 hr.units) (aA au (vr 2) (vr 1) (fun _ _=>rfl)) (eI rfl T.g_NOUGHT) (aT _)) (ak (aq (vr 1))) aM))) (ak (aq fq))),?_⟩
    obtain ⟨l,rows,rfl,hl,hrl,hrow⟩:=id hM
    refine ⟨l,rows,rfl,hl,gz (a:=l) (xs:=rows) (fun i σ H'=>Same H H'∧∃ x1 x2,σ = [some (.ref l),x1,x2]) ⟨Same.refl H,none,none,rfl⟩ (fun i σ H' h=>h.1 _ _ hl) ?_ ?_⟩
    · rintro i x σ H' p hx ⟨s1,x1,x2,rfl⟩ hp
      have ilt:i < n:=by rw [← hrl]; exact (List.getElem?_eq_some_iff.mp hx).1
      obtain ⟨r,es,rfl,hr1,hel,hes⟩:=hrow i x hx
      have e1:es[i]? = some (es[i]'(by omega)):=List.getElem?_eq_getElem _
      obtain ⟨f,hf,hR⟩:=hes i _ e1
      have s2:Same H (upd H' p (.tup [.int (i:Nat),.ref r])):=s1.trans (Same.new hp)
      refine ⟨p,_,rfl,SqT.of af,rfl,_,_,rfl,_,_,rfl,rfl,?_⟩
      refine .inl ⟨r,_,_,_,rfl,rfl,SqL.of (s2 _ _ hr1),aH e1,?_⟩
      refine eqF (hf.same s2) (qH T) ?_
      exact ifB (fun _=>q2 _ i s2 ilt) fun _=>⟨s2,_,_,rfl⟩
    · rintro σ H' ⟨s1,x1,x2,rfl⟩
      exact q1 _ s1
theorem xY (T:Txt K mg a):FnOk P w K mg base CX0 4 a.f_spread_part a.d_spread_part ["rows", "values", "one", "other"] (xq K):=by
  have G_times:FnOk P w K mg base CX0 3 _ _ _ (gm (fun t b t' b'=>t * t') (fun t b t' b'=>b * b') (fun _=>True) K):=lx T
  have G_over:FnOk P w K mg base CX0 3 _ _ _ (gm (fun t b t' b'=>t * b') (fun t b t' b'=>b * t') (fun t'=>0 < t') K):=ut T
  have G_minus:FnOk P w K mg base CX0 3 _ _ _ (gm (fun t b t' b'=>t * b' - t' * b) (fun t b t' b'=>b * b') (fun _=>True) K):=qw T
  refine T.F_spread_part.ok sc_spread_part (fun vs H Q E h=>?_) (fun cdv A outer s H vs Q E hr h=>?_)
  · obtain ⟨n,i,j,v,lv,rfl,_⟩:=h; rfl
  · obtain ⟨n,i,j,v,lv,rfl,hn,hM,⟨la,vals,rfl,hla,hvl,hvb⟩,hi,hj,hdi,hdj,q⟩:=h
    refine ⟨_,(aj (az (i:=4) sc_spread_part.nd rfl (Or.inl rfl) (am G_over hr rfl T.m_over T.F_over.kp T.B_over .nil ar (aa (aA au (aA au (vr 0) (vr 2) (fun _ _=>rfl)) (vr 3) (fun _ _=>rfl)) (aa (am G_times hr rfl T.m_times T.F_times.kp T.B_times .nil ar (aa (aA au (aA au (vr 0) (vr 2) (fun _ _=>rfl)) (vr 2) (fun _ _=>rfl)) (aa (aA au (aA au (vr 0) (vr 3) (fun _ _=>rfl)) (vr 3) (fun _ _=>rfl)) ae))) ae)))) (ak (aq (am G_times hr rfl T.m_times T.F_times.kp T.B_times .nil ar (aa (am G_minus hr rfl T.m_minus T.F_minus.kp T.B_minus .nil ar (aa (vr 4) (aa (eI rfl T.g_WHOLE) ae))) (aa (bw (aa (av cx (aA au (vr 1) (vr 2) (fun _ _=>rfl)) (aA au (vr 1) (vr 3) (fun _ _=>rfl))) (aa ai ae))) ae)))))),?_⟩
    have bt:∀ {x:Int},-3000≤x→x≤3000→Bt 900 x:=fun h0 h1=>(show Bt 13 _ by unfold Bt; omega).mono (by decide)
    obtain ⟨l,rows,r1,es1,y1,⟨t1,b1⟩,rfl,k2,k3,k4,k5,k6,k7⟩:=j9 hM hi hj
    obtain ⟨l',rows',r2,es2,y2,⟨t2,b2⟩,e2,m2,m3,m4,m5,m6,m7,m8⟩:=hdi
    cases e2
    obtain ⟨l',rows'',r3,es3,y3,⟨t3,b3⟩,e3,o2,o3,o4,o5,o6,o7,o8⟩:=hdj
    cases e3
    refine .inl ⟨l,_,_,_,rfl,rfl,SqL.of k2,aH k3,.inl ⟨r1,_,_,_,rfl,rfl,SqL.of k4,aH k5,?_⟩⟩
    refine .inl ⟨l,_,_,_,rfl,rfl,SqL.of m2,aH m3,.inl ⟨r2,_,_,_,rfl,rfl,SqL.of m4,aH m5,?_⟩⟩
    refine .inl ⟨l,_,_,_,rfl,rfl,SqL.of o2,aH o3,.inl ⟨r3,_,_,_,rfl,rfl,SqL.of o4,aH o5,?_⟩⟩
    have a1:0≤t1∧t1≤b1∧1≤b1∧b1≤25:=by
      obtain ⟨g1,g2,g3,g4,_⟩:=k7
      have g4:b1≤(if i = j then (5:Int) else 25):=g4
      refine ⟨g1,g2,g3,?_⟩
      split at g4 <;> omega
    have a2:1≤t2∧t2≤b2∧b2≤5:=by
      obtain ⟨g1,g2,g3,g4,_⟩:=m7
      rw [if_pos rfl] at g4
      have g1:0≤t2:=g1
      have m8:t2≠0:=m8
      exact ⟨by omega,g2,g4⟩
    have a3:1≤t3∧t3≤b3∧b3≤5:=by
      obtain ⟨g1,g2,g3,g4,_⟩:=o7
      rw [if_pos rfl] at g4
      have g1:0≤t3:=g1
      have o8:t3≠0:=o8
      exact ⟨by omega,g2,g4⟩
    have u1:t2 * t3≤b2 * b3:=Int.mul_le_mul a2.2.1 a3.2.1 (by omega) (by omega)
    have u2:b2 * b3≤5 * 5:=Int.mul_le_mul a2.2.2 a3.2.2 (by omega) (by omega)
    have u3:0 < t2 * t3:=Int.mul_pos (by omega) (by omega)
    have u4:0 < b2 * b3:=Int.mul_pos (by omega) (by omega)
    refine ⟨y2,y3,t2,b2,t3,b3,rfl,m6,o6,by omega,by omega,bt (by omega) (by omega),bt (by omega) (by omega),bt (by omega) (by omega),bt (by omega) (by omega),trivial,fun H1 z1 s1 hz1=>?_⟩
    have L1:=jp (T:=t2 * t3) u4
    have hz1:IsF K H1 (eJ (t2 * t3) (b2 * b3)) z1:=hz1
    generalize eJ (t2 * t3) (b2 * b3) = f4 at hz1 L1
    obtain ⟨t4,b4⟩:=f4
    obtain ⟨c1,c2,c3,c4,c5,c6,c7⟩:=L1
    have d4:1≤t4∧t4≤25∧1≤b4∧b4≤25:=by
      have c1:1≤b4:=c1
      have c2:b4≤b2 * b3:=c2
      have c6:0≤t4:=c6 (by omega)
      have c7:t4≤b4:=c7 u1
      have c5:t4 = 0→t2 * t3 = 0:=c5
      have:t4≠0:=fun z=>by have:=c5 z; omega
      omega
    refine ⟨y1,z1,t1,b1,t4,b4,rfl,k6.same s1,hz1,by omega,by omega,bt (by omega) (by omega),bt (by omega) (by omega),bt (by omega) (by omega),bt (by omega) (by omega),by omega,fun H2 z2 s2 hz2=>?_⟩
    have v1:b1 * t4≤25 * 25:=Int.mul_le_mul a1.2.2.2 d4.2.1 (by omega) (by omega)
    have v2:0 < b1 * t4:=Int.mul_pos (by omega) (by omega)
    have v3:t1 * b4≤25 * 25:=Int.mul_le_mul (by omega) d4.2.2.2 (by omega) (by omega)
    have v4:0≤t1 * b4:=Int.mul_nonneg (by omega) (by omega)
    have L2':=jp (T:=t1 * b4) v2
    have hz2:IsF K H2 (eJ (t1 * b4) (b1 * t4)) z2:=hz2
    generalize eJ (t1 * b4) (b1 * t4) = f5 at hz2 L2'
    obtain ⟨t5,b5⟩:=f5
    obtain ⟨c1,c2,c3,c4,c5,c6,c7⟩:=L2'
    have d5:0≤t5∧t5≤625∧1≤b5∧b5≤625:=by
      have c1:1≤b5:=c1
      have c2:b5≤b1 * t4:=c2
      have c6:0≤t5:=c6 v4
      have c3:t5.natAbs≤(t1 * b4).natAbs:=c3
      omega
    refine ⟨z2,.ref a.k_WHOLE,t5,b5,1,1,rfl,hz2,⟨_,rfl,.inr T.t_WHOLE⟩,by omega,by omega,bt (by omega) (by omega),bt (by omega) (by omega),bt (by omega) (by omega),bt (by omega) (by omega),trivial,fun H3 z3 s3 hz3=>?_⟩
    have w1:0 < b5 * 1:=by omega
    have L3:=jp (T:=t5 * 1 - 1 * b5) w1
    have hz3:IsF K H3 (eJ (t5 * 1 - 1 * b5) (b5 * 1)) z3:=hz3
    generalize eJ (t5 * 1 - 1 * b5) (b5 * 1) = f6 at hz3 L3
    obtain ⟨t6,b6⟩:=f6
    obtain ⟨c1,c2,c3,c4,c5,c6,c7⟩:=L3
    have d6:-1300≤t6∧t6≤1300∧1≤b6∧b6≤625:=by
      have c1:1≤b6:=c1
      have c2:b6≤b5 * 1:=c2
      have c3:t6.natAbs≤(t5 * 1 - 1 * b5).natAbs:=c3
      omega
    have s13:=s1.trans (s2.trans s3)
    obtain ⟨x1,e1,x10,x11⟩:∃ x,vals[i]? = some x∧-1000000000≤x∧x≤1000000000:=⟨vals[i]'(by omega),List.getElem?_eq_getElem _,hvb _ (List.getElem_mem _)⟩
    obtain ⟨x2,e2,x20,x21⟩:∃ x,vals[j]? = some x∧-1000000000≤x∧x≤1000000000:=⟨vals[j]'(by omega),List.getElem?_eq_getElem _,hvb _ (List.getElem_mem _)⟩
    refine .inl ⟨la,_,_,.int x1,rfl,rfl,SqL.of (s13 _ _ hla),aH (by rw [List.getElem?_map,e1]; rfl),.inl ⟨la,_,_,.int x2,rfl,rfl,SqL.of (s13 _ _ hla),aH (by rw [List.getElem?_map,e2]; rfl),clB (by omega) (by omega),?_⟩⟩
    have bx:Bt 80 (x1 * x2):=by
      have h1:Bt 31 x1:=by unfold Bt; omega
      have h2:Bt 31 x2:=by unfold Bt; omega
      exact (h1.mul h2).mono (by decide)
    refine ⟨qy _ _,fun pp hpp=>?_⟩
    have s4:=Same.new (o:=.tup [.int (x1 * x2),.int 1]) hpp
    refine ⟨z3,.ref pp,t6,b6,x1 * x2,1,rfl,hz3.same s4,⟨pp,rfl,.inl af⟩,by omega,by omega,bt (by omega) (by omega),bt (by omega) (by omega),bx.mono (by decide),bt (by omega) (by omega),trivial,fun H5 z5 s5 hz5=>q H5 z5 _ (s13.trans (s4.trans s5)) hz5 ?_⟩
    have w2:0 < b6 * 1:=by omega
    obtain ⟨c1,c2,c3,_⟩:=jp (T:=t6 * (x1 * x2)) w2
    have h6:Bt 12 t6:=by unfold Bt; omega
    have h7:Bt 92 (t6 * (x1 * x2)):=h6.mul bx
    refine ⟨?_,c1,by show (eJ (t6 * (x1 * x2)) (b6 * 1)).2≤2000; omega⟩
    have h8:Bt 200 (t6 * (x1 * x2)):=h7.mono (by decide)
    show Bt 200 (eJ (t6 * (x1 * x2)) (b6 * 1)).1
    unfold Bt at h8 ⊢
    omega
theorem wN (T:Txt K mg a):gD P w K mg base 5 dD fvS ["one", "other"] (xa K):=by
  have G_spread_part:FnOk P w K mg base CX0 4 _ _ _ (xq K):=xY T
  refine kA lsS (fun pm ctv clos c us hl=>match us,hl with | [_,_],_=>rfl) (fun vals vs H Q E h=>?_) (fun A outer s H f c clos vals vs Q E hr hfv ca h=>?_)
  · obtain ⟨n,i,j,v,lv,rfl,rfl,_⟩:=h; rfl
  · obtain ⟨n,i,j,v,lv,rfl,rfl,hn,hM,hv,hi,hj,hdi,hdj,q⟩:=h
    refine ⟨_,(am G_spread_part hr rfl T.m_spread_part T.F_spread_part.kp T.B_spread_part .nil ar (aa (vr 3) (aa (vr 2) (aa (vr 0) (aa (vr 1) ae))))),?_⟩
    have sq:=SQ.un ca
    exact ⟨n,i,j,v,lv,rfl,hn,hM.q sq,hv.q sq,hi,hj,hdi.q sq,hdj.q sq,fun H' x f s1 hx hR=>fun H3 s3 hc=>q _ x f (n8 s1 s3 hc) (hx.same s3) hR⟩
theorem uQ (T:Txt K mg a):FnOk P w K mg base CX0 6 a.f_pairs_total a.d_pairs_total ["places", "tell"] (wq K):=by
  have L_spr:gD P w K mg base 5 dD fvS ["one", "other"] (xa K):=wN T
  have G_total:FnOk P w K mg base CX0 5 _ _ _ (kC K):=(lD T).mono (by decide)
  refine T.F_pairs_total.ok sc_pairs_total (fun vs H Q E h=>?_) (fun cdv A outer s H vs Q E hr h=>?_)
  · rcases h with ⟨p,v,rfl,_⟩ | ⟨n,p,ps,v,lv,tv,rfl,_⟩ <;> rfl
  · have small:sizeLine = 16777216:=sizeLine_eq
    refine ⟨_,(aj (az (i:=2) sc_pairs_total.nd rfl (Or.inl rfl) (dc ae)) (aj (d7 PassesOwn.never rfl (db (vr 0)) (aw (i:=3) sc_pairs_total.nd rfl (Or.inr rfl)) (ak (dF (pe_m.extend (vr 2) (aa (bC rfl (N:=["other", "tell", "one"]) (ix:=[none,some 1,some 3]) ⟨rfl,rfl,rfl,rfl,⟨rfl,rfl,rfl,⟨rfl,rfl,rfl,trivial⟩⟩⟩ (db (vr 0)) ⟨fun C s H fp=>aw (i:=0) (show List.Nodup (["other", "tell", "one"]:List Str) by decide +kernel) rfl (Or.inl rfl),fun C s H fp=>ck,fun C s H fp=>(iy (vr 1) L_spr hr (aa (vr 2) (aa (vr 0) ae)))⟩) ae))))) (ak (aq (am G_total hr rfl T.m_total T.F_total.kp T.B_total .nil ar (aa (vr 2) ae)))))),?_⟩
    rcases h with ⟨p,v,rfl,hp,q⟩ | ⟨n,p,ps,v,lv,tv,rfl,hp,hpl,hn,hps,hlam,hM,hv,q⟩
    · refine ⟨Nat.zero_le _,fun l hl=>?_⟩
      have s1:=Same.new (o:=.lst []) hl
      refine .inr ⟨⟨_,SqT.of (s1 _ _ hp)⟩,tw (K:=K) (a:=p) (xs:=[]) (fun i σ H'=>H' = upd H l (.lst [])∧∃ x3:Option V,σ = [some (.ref p),some v,some (.ref l),x3]) ⟨rfl,none,rfl⟩ (fun i σ H' _ h=>by rw [h.1]; exact SqT.of (s1 _ _ hp)) ?_ ?_⟩
      · rintro i x σ H' hx
        simp at hx
      · rintro σ H' ⟨rfl,x3,rfl⟩
        exact ⟨l,[],[],rfl,af,.nil,Nat.zero_le _,(fun f hf=>by cases hf),fun H' z s2=>q _ z (s1.trans s2)⟩
    · refine ⟨Nat.zero_le _,fun l hl=>?_⟩
      have s1:=Same.new (o:=.lst []) hl
      refine .inl ⟨⟨_,SqL.of (s1 _ _ hp)⟩,fD (K:=K) (a:=p) (xs:=ps.map fun (i:Nat)=>V.int (i:Nat)) (fun i σ H'=>Same H H'∧∃ (fs:List (Int×Int)) (xs:List V) (x3:Option V),σ = [some (.ref p),some tv,some (.ref l),x3]∧H' l = some (.lst xs)∧AllF K H' fs xs∧xs.length≤5 * i∧i≤5∧∀ f ∈ fs,Sml f)
        ⟨s1,[],[],none,rfl,af,.nil,Nat.zero_le _,Nat.zero_le _,fun f hf=>by cases hf⟩ (fun i σ H' _ h=>SqL.of (h.1 _ _ hp)) ?_ ?_⟩
      · rintro i x σ H' hx ⟨s2,fs,xs,x3,rfl,hl2,hF,hxl,hi5,hsm⟩
        have ilt:i < ps.length:=by have:=(List.getElem?_eq_some_iff.mp hx).1; rw [List.length_map] at this; exact this
        obtain ⟨i1,hi1,rfl⟩:=List.mem_map.mp (List.mem_of_getElem? hx)
        refine ⟨.inl ⟨rfl,_,SqL.of hl2⟩,?_⟩
        refine .inl ⟨⟨_,SqL.of (s2 _ _ hp)⟩,fun D hD=>?_⟩
        refine dq (K:=K) (a:=p) (xs:=ps.map fun (i:Nat)=>V.int (i:Nat)) (fun j zs H3=>Same H' H3∧H3 D = some (.lst zs)∧zs.length = j∧j≤ps.length∧∃ gs,AllF K H3 gs zs∧∀ f ∈ gs,Sml f) ⟨Same.new hD,af,rfl,Nat.zero_le _,[],.nil,fun f hf=>by cases hf⟩ (fun j zs H3 h=>SqL.of (h.1 _ _ (s2 _ _ hp))) (fun j zs H3 h=>h.2.1) ?_ ?_
        · rintro j y zs H3 P' hy ⟨s3,hD3,hzl,hj,gs,hG,hgs⟩ hP'
          have jlt:j < ps.length:=by have:=(List.getElem?_eq_some_iff.mp hy).1; rw [List.length_map] at this; exact this
          obtain ⟨j1,hj1,rfl⟩:=List.mem_map.mp (List.mem_of_getElem? hy)
          have s23:=s2.trans s3
          have sq:=SQ.of s23.t
          obtain ⟨f,c,clos,rfl,e1,e2,e3,e4,e5⟩:=hlam.t s23.t
          refine ⟨⟨rfl,rfl,trivial⟩,⟨f,_,_,_,rfl,e1⟩,fun f' d' cl' c' _ z=>z,f,c,clos,_,rfl,e1,e2,e3,e4,e5,n,i1,j1,v,lv,rfl,rfl,hn,hM.q sq,hv.q sq,(hps i1 hi1).1,(hps j1 hj1).1,(hps i1 hi1).2.q sq,(hps j1 hj1).2.q sq,fun H4 x f4 s4 hx4 hS4=>?_⟩
          have hD4:=s4 _ _ hD3
          have tk:TK H4 (upd H4 D (.lst (zs ++ [x]))):=TK.lst hD4
          refine ⟨hD4,by omega,hP' _ _ ⟨(s3.trans s4).put hD,af,by rw [List.length_append,hzl]; rfl,jlt,gs ++ [f4],AllF.snoc (hx4.tk tk) ((hG.same s4).tk tk),fun f hf=>?_⟩⟩
          rcases List.mem_append.mp hf with h | h
          · exact hgs f h
          · rw [List.mem_singleton.mp h]; exact hS4
        rintro zs H3 ⟨s3,hD3,hzl,_,gs,hG,hgs⟩
        rw [List.length_map] at hzl
        have hl3:=s3 _ _ hl2
        refine ⟨l,D,xs,zs,rfl,rfl,hl3,hD3,by omega,?_⟩
        have tk:TK H3 (upd H3 l (.lst (xs ++ zs))):=TK.lst hl3
        have app:∀ {as cs:List (Int×Int)} {bs ds:List V} {Hh:Hp},AllF K Hh as bs→AllF K Hh cs ds→AllF K Hh (as ++ cs) (bs ++ ds):=by
          intro as cs bs ds Hh h1 h2
          induction h1 with
          | nil=>exact h2
          | cons r _ ih=>exact .cons r ih
        refine ⟨(s2.trans s3).put hl,fs ++ gs,xs ++ zs,_,rfl,af,app ((hF.same s3).tk tk) (hG.tk tk),by rw [List.length_append]; omega,by omega,fun f hf=>?_⟩
        rcases List.mem_append.mp hf with h | h
        · exact hsm f h
        · exact hgs f h
      · rintro σ H' ⟨s2,fs,xs,x3,rfl,hl2,hF,hxl,hi5,hsm⟩
        rw [List.length_map] at hxl
        exact ⟨l,fs,xs,rfl,hl2,hF,by omega,hsm,fun H3 z s3=>q _ z (s2.trans s3)⟩
theorem wZ (T:Txt K mg a) (hB:Bm mg base):FnOk P w K mg base CX0 7 a.f_spread_by a.d_spread_by ["rows", "values"] (xU a K):=by
  have G_pairs_total:FnOk P w K mg base CX0 6 _ _ _ (wq K):=uQ T
  have G_places_with_share:FnOk P w K mg base CX0 6 _ _ _ (oz K):=(ml T).mono (by decide)
  refine T.F_spread_by.okL T.lcd_spread_by sc_spread_by (by decide +kernel) (fun vs H Q E h=>?_) (fun A outer s H vs Q E hr h=>?_)
  · obtain ⟨n,v,lv,rfl,_⟩:=h; rfl
  · obtain ⟨n,v,lv,rfl,hn,hM,hv,hT,q⟩:=h
    refine ⟨_,(kn sc_spread_by.nd (by decide +kernel) G_pairs_total hr rfl T.m_pairs_total T.F_pairs_total.kp T.B_pairs_total .nil (aa (am G_places_with_share hr rfl T.m_places_with_share T.F_places_with_share.kp T.B_places_with_share .nil ar (aa (vr 0) ae)) (aa (jF (d:=dD) rfl T.lch_spread_by hB rfl (by with_unfolding_all rfl) rfl (kz a) (.head _) T.tnd kH) ae))),?_⟩
    refine ⟨n,v,rfl,hn,hM,fun H1 r ps s1 hr1 hpl hps=>?_⟩
    refine ⟨hT.same s1,fun f c H2 t2 hT2 hf0 ef ec=>?_⟩
    intro H3 s3 hc
    have cR:=hc 0 _ _ _ rfl rfl (by with_unfolding_all rfl)
    have cV:=hc 1 _ _ _ rfl rfl (by with_unfolding_all rfl)
    have t13:=t2.trans s3.t
    have sq:=SQ.of t13
    have sq0:=SQ.of (s1.t.trans t13)
    exact .inr ⟨n,r,ps,v,lv,.ref f,rfl,t13.at hr1,hpl,hn,fun i hi=>⟨(hps i hi).1,(hps i hi).2.q sq⟩,⟨f,c,_,rfl,s3 _ _ ef,s3 _ _ ec,rfl,by simp,.cons cV (.cons cR .nil)⟩,hM.q sq0,hv.q sq0,fun H4 z s4=>q _ z ((s1.t.trans t13).trans s4.t) ((hT2.same s3).same s4)⟩
theorem tN (T:Txt K mg a):FnOk P w K mg base CX0 1 a.f_ones_at a.d_ones_at ["places", "many"] qZ:=by
  refine T.F_ones_at.ok nj (fun vs H Q E h=>?_) (fun cdv A outer s H vs Q E hr h=>?_)
  · obtain ⟨p,ns,n,rfl,_⟩:=h; rfl
  · obtain ⟨p,ns,n,rfl,hp,hn,q⟩:=h
    have small:sizeLine = 16777216:=sizeLine_eq
    refine ⟨_,(ak (aq (bC rfl (N:=["place", "places"]) (ix:=[none,some 0]) ⟨rfl,rfl,rfl,rfl,⟨rfl,rfl,rfl,trivial⟩⟩ (dX rfl T.z_range (aa (vr 1) ae)) ⟨fun C s H fp=>aw (i:=0) (show List.Nodup (["place", "places"]:List Str) by decide +kernel) rfl (Or.inl rfl),fun C s H fp=>ck,fun C s H fp=>(rQ (bz (mG (K:=K) rfl) (vr 0) (vr 1) (by with_unfolding_all rfl)) ai ai)⟩))),?_⟩
    refine ⟨(n:Int),rfl,by omega,by omega,fun D hD=>?_⟩
    have flat:((ns.map V.int).all gZ) = true:=by rw [List.all_eq_true]; intro x hx; obtain ⟨i,_,rfl⟩:=List.mem_map.mp hx; rfl
    refine iB (lo:=0) (n:=n) (fun j ys H'=>Same H H'∧H' D = some (.lst ys)∧ys.length = j∧j≤n) ⟨Same.new hD,af,rfl,Nat.zero_le _⟩ (fun j ys H' h=>h.2.1) ?_ ?_
    · rintro j ys H' P' hj ⟨s1,hD1,hyl,_⟩ hP
      refine ⟨⟨rfl,trivial⟩,p,_,rfl,.inr (SqT.of (s1 _ _ hp)),rfl,flat,?_⟩
      exact ifB (fun _=>⟨hD1,by omega,hP _ _ ⟨s1.put hD,af,by rw [List.length_append,hyl]; rfl,hj⟩⟩) fun _=>⟨hD1,by omega,hP _ _ ⟨s1.put hD,af,by rw [List.length_append,hyl]; rfl,hj⟩⟩
    · rintro ys H' ⟨s1,hD1,_,_⟩
      exact q _ _ s1
end
end My
namespace My
open PySem L2 FrM
def Inp (a:Ad) (sp:Bool) (x v:V) (H:Hp) (Q:VK) (E:XK):Prop:=TabsOk (tabs a) H ∧
  ((∃ (l:Addr) (us:List U) (xs:List V) (lev:Nat),x = .ref l∧H l = some (.lst xs)∧AllU H us xs∧GoodL us∧us.length≤5∧(∀ u ∈ us,u.path.length = lev)∧lev≤2∧((IsPl a H lev v∧(∀ H' z,SameT H H'→TabsOk (tabs a) H'→Q z H')∧(sp = true→∀ dct H',SameT H H'→TabsOk (tabs a) H'→E (.ref a.c_NoSpread) dct H'))∨(BadPl a H lev v∧ia a.c_NoLevel H E))) ∨
   (BadL H x∧ia a.c_NoUnits H E))
def kW (a:Ad):Sp:=fun vs H Q E=>∃ x v,vs = [x,v]∧Inp a false x v H Q E
def ny (a:Ad) (o:HO) (sp:Bool):Sp:=fun vs H Q E=>∃ x v k,vs = [x,v,.ref k]∧H k = some o∧Inp a sp x v H Q E
def wE (a:Ad):Sp:=fun vs H Q E=>∃ x,vs = [x]∧((∃ (l:Addr) (us:List U) (xs:List V),x = .ref l∧H l = some (.lst xs)∧AllU H us xs∧GoodL us∧∀ H' z,Same H H'→Q z H')∨(BadL H x∧ia a.c_NoUnits H E))
def wd (c:Addr) (f1 f2:Str):Sp:=fun vs H Q _=>∃ (x:Addr) (m n:Int),vs = [.ref x,.int m,.int n]∧H x = some (.ext (XD0 x c)) ∧
  ∀ dx,H dx = none→dx≠x→Q .non (upd (upd (upd H dx (.ext (XDct dx [(f1,.int m)]))) x (.ext (XD1 x c dx))) dx (.ext (XDct dx [(f2,.int n),(f1,.int m)])))
theorem yA {c:Addr} {f1 f2:Str}:∀ vs H Q E,wd c f1 f2 vs H Q E→vs.length≤100:=by
  rintro _ _ _ _ ⟨_,_,_,rfl,_⟩; exact (by decide:3≤100)
theorem jG {a:Ad} {K:PySem.W.Frag} {sp:Bool} {x v:V} {H:Hp} {Q:VK} {Q1:Addr→Hp→Prop} {E:XK} (h:Inp a sp x v H Q E) (c:∀ (l:Addr) (us:List U) (xs:List V) H' r,x = .ref l→H l = some (.lst xs)→AllU H us xs→GoodL us→us.length≤5→SameT H H'→TabsOk (tabs a) H'→Mx K dW H' us.length (.ref r) →
    (∀ H'' z,SameT H' H''→TabsOk (tabs a) H''→Q z H'')→(sp = true→∀ dct H'',SameT H' H''→TabsOk (tabs a) H''→E (.ref a.c_NoSpread) dct H'')→Q1 r H') :
    (∃ (l:Addr) (us:List U) (xs:List V) (lev:Nat),x = .ref l∧H l = some (.lst xs)∧AllU H us xs∧GoodL us∧us.length≤5∧(∀ u ∈ us,u.path.length = lev)∧lev≤2∧((IsPl a H lev v∧∀ H' r,SameT H H'→TabsOk (tabs a) H'→Mx K dW H' us.length (.ref r)→Q1 r H')∨(BadPl a H lev v∧ia a.c_NoLevel H E))) ∨
    (BadL H x∧ia a.c_NoUnits H E):=by
  obtain ⟨hT,h⟩:=h
  rcases h with ⟨l,us,xs,lev,rfl,hl,hu,hg,h5,hlev,hl2,h⟩ | h
  · refine .inl ⟨l,us,xs,lev,rfl,hl,hu,hg,h5,hlev,hl2,?_⟩
    rcases h with ⟨hp,q,qs⟩ | h
    · exact .inl ⟨hp,fun H' r t hT' hM=>c l us xs H' r rfl hl hu hg h5 t hT' hM (fun H2 z t2=>q H2 z (t.trans t2)) fun e dct H2 t2=>qs e dct H2 (t.trans t2)⟩
    · exact .inr h
  · exact .inr h
theorem tK {k n:Nat} (h:k < n):ixN n (k:Int) = some k:=by
  unfold ixN
  rw [if_pos (by omega),if_pos (by omega)]
  simp
theorem uw {H:Hp} {r:Addr} {us:List U} (hg:GoodL us) (h:H r = some (.lst (us.map fun u=>V.int u.value))):Vals_ H us.length (.ref r):=by
  refine ⟨r,us.map U.value,rfl,by rw [List.map_map]; exact h,by rw [List.length_map],fun x hx=>?_⟩
  obtain ⟨u,hu,rfl⟩:=List.mem_map.mp hx
  exact ⟨(hg.each u hu).v0,(hg.each u hu).v1⟩
theorem tF {H:Hp} {x dx:Addr} {o1 o2 o3 o4:HO} (hx:H x = none) (hd:upd H x o1 dx = none) (hne:dx≠x):Same H (untr (upd (upd (upd (upd H x o1) dx o2) x o3) dx o4) x)∧(upd (upd (upd (upd H x o1) dx o2) x o3) dx o4) x = some o3:=by
  have hd':H dx = none:=by rw [ao hne] at hd; exact hd
  refine ⟨fun b o e=>?_,?_⟩
  · rw [cJ (ay e hx),ao (ay e hd'),ao (ay e hx),ao (ay e hd'),ao (ay e hx)]
    exact e
  · rw [ao (Ne.symm hne)]
    exact af
section
variable {P:Program} {w:World} {K:PySem.W.Frag} {mg:Str→Option Value} {base:Heap} {a:Ad}
theorem vC {k:Nat} {f:Addr} {fd:FuncData} {ps:List Str}:FnOk P w K mg base CX0 k f fd ps (fun _ _ _ _=>False):=⟨fun _ _ _ _ h=>h.elim,fun _ _ _ _ _ _ _ _ _ _ _ _ _ h=>h.elim⟩
theorem kT (T:Txt K mg a):FnOk P w K mg base CX0 1 a.i_NoSpread a.e_NoSpread ["self", "one", "other"] (wd a.c_NoSpread "one" "other"):=by
  refine T.Fi_NoSpread.ok gA (fun vs H Q E h=>?_) (fun cdv A outer s H vs Q E hr h=>?_)
  · obtain ⟨x,m,n,rfl,_⟩:=h; rfl
  · obtain ⟨x,m,n,rfl,hx,q⟩:=h
    obtain ⟨cd1,s1⟩:=T.sx_NoSpread_one
    obtain ⟨cd2,s2⟩:=T.sx_NoSpread_other
    refine ⟨_,(aj (nJ (vr 0) (vr 1) rfl) (ak (nJ (vr 0) (vr 2) rfl))),?_⟩
    refine ⟨x,a.c_NoSpread,cd1,rfl,s1,.inl ⟨hx,fun dx hd hne=>?_⟩⟩
    exact ⟨x,a.c_NoSpread,cd2,rfl,s2,.inr ⟨dx,_,af,by rw [ao hne]; exact af,by simp,q dx hd hne⟩⟩
theorem xk (T:Txt K mg a) (hB:Bm mg base):FnOk P w K mg base (CXG P w) 14 a.f_mean_told a.d_mean_told ["units", "plan"] (kW a):=by
  have G_chances:FnOk P w K mg base (CXG P w) 13 _ _ _ (kQ a K):=jz T hB
  have G_places_with_share:FnOk P w K mg base CX0 13 _ _ _ (oz K):=(ml T).mono (by decide)
  refine T.F_mean_told.okG sc_mean_told (fun vs H Q E h=>?_) (fun cdv A outer s H vs Q E hr h=>?_)
  · obtain ⟨x,v,rfl,_⟩:=h; rfl
  · obtain ⟨x,v,rfl,h⟩:=h
    have small:sizeLine = 16777216:=sizeLine_eq
    refine ⟨_,(aj (az (i:=2) sc_mean_told.nd rfl (Or.inl rfl) (am G_places_with_share hr rfl T.m_places_with_share T.F_places_with_share.kp T.B_places_with_share .nil ar (aa (am G_chances hr rfl T.m_chances T.F_chances.kp T.B_chances .nil cm (aa (vr 0) (aa (vr 1) ae))) ae))) (ak (aq (aB (iG rfl) rfl T.z_sum mr (aa (bC rfl (N:=["place", "units"]) (ix:=[none,some 0]) ⟨rfl,rfl,rfl,rfl,⟨rfl,rfl,rfl,trivial⟩⟩ (db (vr 2)) ⟨fun C s H fp=>aw (i:=0) (show List.Nodup (["place", "units"]:List Str) by decide +kernel) rfl (Or.inl rfl),fun C s H fp=>ck,fun C s H fp=>(aA (eG (K:=K) rfl) (aA (eG (K:=K) rfl) (vr 1) (vr 0) (fun _ _=>rfl)) ai (fun _ _=>rfl))⟩) ae))))),?_⟩
    refine ⟨x,v,rfl,h.1,jG h fun l us xs H1 r ex hl hu hg h5 t1 hT1 hM q qs=>?_⟩
    subst ex
    refine ⟨us.length,.ref r,rfl,h5,hM,fun H2 r2 ps s2 hr2 hpl hps=>?_⟩
    have hl2:=s2 _ _ (t1.at hl)
    have hu2:=(hu.tk (SameT.tk t1)).tk s2.tk
    have hlen:=hu.len
    refine .inl ⟨⟨_,SqL.of hr2⟩,fun D hD=>?_⟩
    refine dq (K:=K) (a:=r2) (xs:=ps.map fun (i:Nat)=>V.int (i:Nat)) (fun i zs H'=>Same H2 H'∧H' D = some (.lst zs)∧i≤ps.length∧∃ ns:List Int,zs = ns.map V.int∧ns.length = i) ⟨Same.new hD,af,Nat.zero_le _,[],rfl,rfl⟩ (fun i ys H' h=>SqL.of (h.1 _ _ hr2)) (fun i ys H' h=>h.2.1) ?_ ?_
    · rintro i y zs H' P' hy ⟨s3,hD3,hi,ns,rfl,hnl⟩ hP'
      have ilt:i < ps.length:=by have:=(List.getElem?_eq_some_iff.mp hy).1; rw [List.length_map] at this; exact this
      obtain ⟨i1,hi1,rfl⟩:=List.mem_map.mp (List.mem_of_getElem? hy)
      have e1:xs[i1]? = some (xs[i1]'(by have:=(hps i1 hi1).1; omega)):=List.getElem?_eq_getElem _
      obtain ⟨u,hu',ad,p,ex,ha,hp⟩:=(hu2.tk s3.tk).get e1
      rw [ex] at e1
      refine ⟨⟨rfl,trivial⟩,.inl ⟨l,_,_,_,rfl,rfl,SqL.of (s3 _ _ hl2),aH e1,.inr (.inl ⟨ad,_,_,_,rfl,rfl,SqT.of ha,ax 1 rfl rfl,hD3,by rw [List.length_map]; omega,hP' _ _ ⟨s3.put hD,af,ilt,ns ++ [u.value],by rw [List.map_append]; rfl,by rw [List.length_append,hnl]; rfl⟩⟩)⟩⟩
    rintro zs H3 ⟨s3,hD3,_,ns,rfl,hnl⟩
    exact ⟨D,ns,rfl,SqL.of hD3,q _ _ (s2.trans s3).t ((hT1.same s2).same s3)⟩
theorem wO (T:Txt K mg a) (hB:Bm mg base):FnOk P w K mg base (CXG P w) 14 a.f_sum_told a.d_sum_told ["units", "plan", "kept"] (ny a (.lst []) false):=by
  have G_chances:FnOk P w K mg base (CXG P w) 13 _ _ _ (kQ a K):=jz T hB
  have G_values_of:FnOk P w K mg base CX0 13 _ _ _ fF:=(fE T).mono (by decide)
  have G_total:FnOk P w K mg base CX0 13 _ _ _ (kC K):=(lD T).mono (by decide)
  have G_raised:FnOk P w K mg base CX0 13 a.f_raised a.d_raised ["rows", "values", "place"] (fun _ _ _ _=>False):=vC
  refine T.F_sum_told.okG sc_sum_told (fun vs H Q E h=>?_) (fun cdv A outer s H vs Q E hr h=>?_)
  · obtain ⟨x,v,k,rfl,_⟩:=h; rfl
  · obtain ⟨x,v,k,rfl,hk,h⟩:=h
    refine ⟨_,(aj (az (i:=3) sc_sum_told.nd rfl (Or.inr rfl) (am G_chances hr rfl T.m_chances T.F_chances.kp T.B_chances .nil cm (aa (vr 0) (aa (vr 1) ae)))) (aj (az (i:=4) sc_sum_told.nd rfl (Or.inr rfl) (am G_values_of hr rfl T.m_values_of T.F_values_of.kp T.B_values_of .nil ar (aa (vr 0) ae))) (ak (aq (am G_total hr rfl T.m_total T.F_total.kp T.B_total .nil ar (aa (bC rfl (N:=["place", "rows", "values"]) (ix:=[none,some 3,some 4]) ⟨rfl,rfl,rfl,rfl,⟨rfl,rfl,rfl,⟨rfl,rfl,rfl,trivial⟩⟩⟩ (db (vr 2)) ⟨fun C s H fp=>aw (i:=0) (show List.Nodup (["place", "rows", "values"]:List Str) by decide +kernel) rfl (Or.inl rfl),fun C s H fp=>ck,fun C s H fp=>(am G_raised hr rfl T.m_raised T.F_raised.kp T.B_raised .nil ar (aa (vr 1) (aa (vr 2) (aa (vr 0) ae))))⟩) ae)))))),?_⟩
    refine ⟨x,v,rfl,h.1,jG h fun l us xs H1 r ex hl hu hg h5 t1 hT1 hM q qs=>?_⟩
    subst ex
    refine ⟨l,us,xs,rfl,t1.at hl,hu.tk (SameT.tk t1),hg,fun H2 r2 s2 _ hr2=>?_⟩
    have hk2:=s2 _ _ (t1.at hk)
    refine .inl ⟨⟨_,SqL.of hk2⟩,fun D hD=>?_⟩
    refine dq (K:=K) (a:=k) (xs:=[]) (fun i zs H'=>H' = upd H2 D (.lst [])∧zs = []) ⟨rfl,rfl⟩ (fun i ys H' h=>by rw [h.1]; exact SqL.of (Same.new hD _ _ hk2)) (fun i ys H' h=>by rw [h.1,h.2]; exact af) ?_ ?_
    · rintro i y zs H' P' hy
      simp at hy
    rintro zs H3 ⟨rfl,rfl⟩
    have s3:=Same.new (o:=.lst []) hD
    exact ⟨D,[],[],rfl,af,.nil,Nat.zero_le _,(fun f hf=>by cases hf),fun H4 z s4=>q _ _ ((s2.trans s3).trans s4).t (((hT1.same s2).same s3).same s4)⟩
theorem wt (T:Txt K mg a) (hB:Bm mg base):FnOk P w K mg base (CXG P w) 14 a.f_spread a.d_spread ["units", "plan"] (kW a):=by
  have G_chances:FnOk P w K mg base (CXG P w) 13 _ _ _ (kQ a K):=jz T hB
  have G_values_of:FnOk P w K mg base CX0 13 _ _ _ fF:=(fE T).mono (by decide)
  have G_spread_by:FnOk P w K mg base CX0 13 _ _ _ (xU a K):=(wZ T hB).mono (by decide)
  refine T.F_spread.okG oW (fun vs H Q E h=>?_) (fun cdv A outer s H vs Q E hr h=>?_)
  · obtain ⟨x,v,rfl,_⟩:=h; rfl
  · obtain ⟨x,v,rfl,h⟩:=h
    refine ⟨_,(ak (aq (am G_spread_by hr rfl T.m_spread_by T.F_spread_by.kp T.B_spread_by .nil ar (aa (am G_chances hr rfl T.m_chances T.F_chances.kp T.B_chances .nil cm (aa (vr 0) (aa (vr 1) ae))) (aa (am G_values_of hr rfl T.m_values_of T.F_values_of.kp T.B_values_of .nil ar (aa (vr 0) ae)) ae))))),?_⟩
    refine ⟨x,v,rfl,h.1,jG h fun l us xs H1 r ex hl hu hg h5 t1 hT1 hM q qs=>?_⟩
    subst ex
    refine ⟨l,us,xs,rfl,t1.at hl,hu.tk (SameT.tk t1),hg,fun H2 r2 s2 _ hr2=>?_⟩
    exact ⟨us.length,.ref r,.ref r2,rfl,h5,hM.q (SQ.of s2.t),uw hg hr2,hT1.same s2,fun H3 z t3 hT3=>q _ _ (s2.t.trans t3) hT3⟩
theorem vM (T:Txt K mg a) (hB:Bm mg base):FnOk P w K mg base (CXG P w) 14 a.f_spread_told a.d_spread_told ["units", "plan", "kept"] (ny a (.tup []) true):=by
  have G_chances:FnOk P w K mg base (CXG P w) 13 _ _ _ (kQ a K):=jz T hB
  have G_values_of:FnOk P w K mg base CX0 13 _ _ _ fF:=(fE T).mono (by decide)
  have G_never_together:FnOk P w K mg base CX0 13 _ _ _ (vj K):=(vf T).mono (by decide)
  have G_pairs_total:FnOk P w K mg base CX0 13 _ _ _ (wq K):=(uQ T).mono (by decide)
  have G_NoSpread:FnOk P w K mg base CX0 12 _ _ _ (wd a.c_NoSpread "one" "other"):=(kT T).mono (by decide)
  refine Fun.okGc T.F_spread_told T.lcd_spread_told sc_spread_told (fun vs H Q E h=>?_) (fun A outer s H vs Q E hr h=>?_)
  · obtain ⟨x,v,k,rfl,_⟩:=h; rfl
  · obtain ⟨x,v,k,rfl,hk,h⟩:=h
    refine ⟨_,(aj (az (i:=3) sc_spread_told.nd rfl (Or.inr rfl) (am G_chances hr rfl T.m_chances T.F_chances.kp T.B_chances .nil cm (aa (vr 0) (aa (vr 1) ae)))) (aj (az (i:=4) sc_spread_told.nd rfl (Or.inr rfl) (am G_values_of hr rfl T.m_values_of T.F_values_of.kp T.B_values_of .nil ar (aa (vr 0) ae))) (aj (az (i:=5) sc_spread_told.nd rfl (Or.inl rfl) (am G_never_together hr rfl T.m_never_together T.F_never_together.kp T.B_never_together .nil ar (aa (vr 3) ae))) (aj (bu (bz nO (vr 5) fq (aT _)) (ak (fM T.xc_NoSpread T.xh_NoSpread (wg T.xi_NoSpread T.kc_NoSpread T.fn_NoSpread G_NoSpread hr rfl T.mc_NoSpread T.Bi_NoSpread (aa (aA au (vr 5) ai (fun _ _=>rfl)) (aa (aA au (vr 5) ai (fun _ _=>rfl)) ae)) yA))) aM) (ak (aq (am G_pairs_total hr rfl T.m_pairs_total T.F_pairs_total.kp T.B_pairs_total .nil ar (aa (vr 2) (aa (jF (d:=iL) rfl T.lch_spread_told hB rfl (by with_unfolding_all rfl) rfl (jB a) (.head _) T.tnd jE) ae))))))))),?_⟩
    refine ⟨x,v,rfl,h.1,jG h fun l us xs H1 r ex hl hu hg h5 t1 hT1 hM q qs=>?_⟩
    subst ex
    refine ⟨l,us,xs,rfl,t1.at hl,hu.tk (SameT.tk t1),hg,fun H2 r2 s2 _ hr2=>?_⟩
    have hT2:=hT1.same s2
    refine ⟨us.length,.ref r,rfl,h5,hM.q (SQ.of s2.t),fun H3 s3=>?_,fun H3 p i j s3 hp hi hj=>?_⟩
    · have t3:=s2.t.trans s3.t
      have hT3:=hT2.same s3
      refine ⟨hT3,fun f c H4 t4 hT4 hf0 ef ec=>?_⟩
      exact .inl ⟨k,_,rfl,t4.at (t3.at (t1.at hk)),fun H5 z s5=>q _ _ ((t3.trans t4).trans s5.t) (hT4.same s5)⟩
    · have t3:=s2.t.trans s3.t
      have hT3:=hT2.same s3
      refine .inr (.inl ⟨p,_,_,_,rfl,rfl,SqT.of hp,ax 0 rfl rfl,.inr (.inl ⟨p,_,_,_,rfl,rfl,SqT.of hp,ax 1 rfl rfl,fun z hz=>?_⟩)⟩)
      refine ⟨z,_,_,rfl,af,fun dx hd hne=>?_⟩
      obtain ⟨s4,e4⟩:=tF (o1:=.ext (XD0 z a.c_NoSpread)) hz hd hne
      exact ⟨rfl,z,some dx,_,rfl,e4,fun h y=>y,(t1.trans t3).free hz,qs rfl _ _ (t3.trans s4.t) (hT3.same s4)⟩
theorem vV (T:Txt K mg a) (hB:Bm mg base):FnOk P w K mg base (CXG P w) 14 a.f_hidden a.d_hidden ["units", "plan"] (kW a):=by
  have G_chances:FnOk P w K mg base (CXG P w) 13 _ _ _ (kQ a K):=jz T hB
  have G_values_of:FnOk P w K mg base CX0 13 _ _ _ fF:=(fE T).mono (by decide)
  have G_never_drawn:FnOk P w K mg base CX0 13 _ _ _ (xg K):=(xj T).mono (by decide)
  refine T.F_hidden.okG sc_hidden (fun vs H Q E h=>?_) (fun cdv A outer s H vs Q E hr h=>?_)
  · obtain ⟨x,v,rfl,_⟩:=h; rfl
  · obtain ⟨x,v,rfl,h⟩:=h
    refine ⟨_,(aj (az (i:=2) sc_hidden.nd rfl (Or.inl rfl) (am G_never_drawn hr rfl T.m_never_drawn T.F_never_drawn.kp T.B_never_drawn .nil ar (aa (am G_chances hr rfl T.m_chances T.F_chances.kp T.B_chances .nil cm (aa (vr 0) (aa (vr 1) ae))) ae))) (aj (bu (bz xJ (vr 2) fq (aT _)) (ak (aq fq)) aM) (aj (az (i:=3) sc_hidden.nd rfl (Or.inl rfl) (am G_values_of hr rfl T.m_values_of T.F_values_of.kp T.B_values_of .nil ar (aa (vr 0) ae))) (aj (uo (vr 3) (vr 2) qG ai vK me) (ak (aq (bw (aa (vr 2) (aa (am G_values_of hr rfl T.m_values_of T.F_values_of.kp T.B_values_of .nil ar (aa (vr 0) ae)) (aa (vr 3) ae)))))))))),?_⟩
    refine ⟨x,v,rfl,h.1,jG h fun l us xs H1 r ex hl hu hg h5 t1 hT1 hM q qs=>?_⟩
    subst ex
    refine ⟨us.length,.ref r,rfl,h5,hM,fun H2 s2=>?_,fun H2 i s2 hi=>?_⟩
    · exact q _ _ s2.t (hT1.same s2)
    · refine ⟨l,us,xs,rfl,s2 _ _ (t1.at hl),(hu.tk (SameT.tk t1)).tk s2.tk,hg,fun H3 r3 s3 h0 hr3=>?_⟩
      have e1:(us.map fun u=>V.int u.value)[i]? = some (V.int (us[i]'hi).value):=by rw [List.getElem?_map,List.getElem?_eq_getElem hi]; rfl
      refine ⟨r3,_,_,_,rfl,rfl,SqL.of hr3,by omega,aH e1,_,_,rfl,rfl,r3,_,_,i,rfl,rfl,hr3,tK (by rw [List.length_map]; exact hi),?_⟩
      have s4:=s3.put (o:=.lst ((us.map fun u=>V.int u.value).set i (.int ((us[i]'hi).value + 1)))) h0
      refine ⟨l,us,xs,rfl,(s2.trans s4) _ _ (t1.at hl),(hu.tk (SameT.tk t1)).tk (s2.trans s4).tk,hg,fun H5 r5 s5 _ _=>⟨by show 3≤sizeLine; decide,fun p hp=>?_⟩⟩
      have s6:=(s2.trans s4).trans (s5.trans (Same.new (o:=.tup [.int (i:Nat),.ref r5,.ref r3]) hp))
      exact q _ _ s6.t (hT1.same s6)
theorem vF (T:Txt K mg a) (hB:Bm mg base):FnOk P w K mg base (CXG P w) 14 a.f_unspoken a.d_unspoken ["units", "plan"] (kW a):=by
  have G_chances:FnOk P w K mg base (CXG P w) 13 _ _ _ (kQ a K):=jz T hB
  have G_never_together:FnOk P w K mg base CX0 13 _ _ _ (vj K):=(vf T).mono (by decide)
  have G_ones_at:FnOk P w K mg base CX0 13 _ _ _ qZ:=(tN T).mono (by decide)
  refine T.F_unspoken.okG sc_unspoken (fun vs H Q E h=>?_) (fun cdv A outer s H vs Q E hr h=>?_)
  · obtain ⟨x,v,rfl,_⟩:=h; rfl
  · obtain ⟨x,v,rfl,h⟩:=h
    have small:sizeLine = 16777216:=sizeLine_eq
    refine ⟨_,(aj (az (i:=2) sc_unspoken.nd rfl (Or.inr rfl) (am G_chances hr rfl T.m_chances T.F_chances.kp T.B_chances .nil cm (aa (vr 0) (aa (vr 1) ae)))) (aj (az (i:=3) sc_unspoken.nd rfl (Or.inl rfl) (am G_never_together hr rfl T.m_never_together T.F_never_together.kp T.B_never_together .nil ar (aa (vr 2) ae))) (aj (bu (bz xJ (vr 3) fq (aT _)) (ak (aq fq)) aM) (aj (jD (vr 3) (fu rfl (aG (aw (i:=4) sc_unspoken.nd rfl (Or.inl rfl)) (aG (aw (i:=5) sc_unspoken.nd rfl (Or.inl rfl)) dG)))) (ak (aq (bw (aa (vr 4) (aa (vr 5) (aa (bC rfl (N:=["places", "rows"]) (ix:=[none,some 2]) ⟨rfl,rfl,rfl,rfl,⟨rfl,rfl,rfl,trivial⟩⟩ (db (bw (aa (bw ae) (aa (bw (aa (vr 4) ae)) (aa (bw (aa (vr 5) ae)) (aa (bw (aa (vr 4) (aa (vr 5) ae))) ae)))))) ⟨fun C s H fp=>aw (i:=0) (show List.Nodup (["places", "rows"]:List Str) by decide +kernel) rfl (Or.inl rfl),fun C s H fp=>ck,fun C s H fp=>(am G_ones_at hr rfl T.m_ones_at T.F_ones_at.kp T.B_ones_at .nil ar (aa (vr 0) (aa (aB (mU (K:=K) rfl) rfl T.z_len dH (aa (vr 1) ae)) ae)))⟩) ae)))))))))),?_⟩
    refine ⟨x,v,rfl,h.1,jG h fun l us xs H1 r ex hl hu hg h5 t1 hT1 hM q qs=>?_⟩
    subst ex
    refine ⟨us.length,.ref r,rfl,h5,hM,fun H2 s2=>?_,fun H2 p i j s2 hp hi hj=>?_⟩
    · exact q _ _ s2.t (hT1.same s2)
    · refine ⟨p,_,rfl,SqT.of hp,rfl,_,_,rfl,_,_,rfl,rfl,?_⟩
      refine ⟨by show 0≤sizeLine; decide,fun p0 hp0=>⟨by show 1≤sizeLine; decide,fun p1 hp1=>⟨by show 1≤sizeLine; decide,fun p2 hp2=>⟨by show 2≤sizeLine; decide,fun p3 hp3=>⟨by show 4≤sizeLine; decide,fun p4 hp4=>?_⟩⟩⟩⟩⟩
      have a0:=Same.new (o:=.tup []) hp0
      have a1:=Same.new (o:=.tup [.int (i:Nat)]) hp1
      have a2:=Same.new (o:=.tup [.int (j:Nat)]) hp2
      have a3:=Same.new (o:=.tup [.int (i:Nat),.int (j:Nat)]) hp3
      have a4:=Same.new (o:=.tup [.ref p0,.ref p1,.ref p2,.ref p3]) hp4
      have a34:=a3.trans a4
      have a24:=a2.trans a34
      have a14:=a1.trans a24
      have a04:=a0.trans a14
      have b0:=a14 _ _ af
      have b1:=a24 _ _ af
      have b2:=a34 _ _ af
      have b3:=a4 _ _ af
      have b4:=af (H:=upd (upd (upd (upd H2 p0 (.tup [])) p1 (.tup [.int (i:Nat)])) p2 (.tup [.int (j:Nat)])) p3 (.tup [.int (i:Nat),.int (j:Nat)])) (a:=p4) (o:=.tup [.ref p0,.ref p1,.ref p2,.ref p3])
      generalize upd (upd (upd (upd (upd H2 p0 _) p1 _) p2 _) p3 _) p4 _ = H3 at a04 b0 b1 b2 b3 b4
      obtain ⟨lr,rows,er,hlr,hrl,_⟩:=(hM.q (SQ.of s2.t)).q (SQ.of a04.t)
      cases er
      have four:∀ y ∈ [V.ref p0,.ref p1,.ref p2,.ref p3],∃ (b:Addr) (ns:List Int),y = .ref b∧H3 b = some (.tup (ns.map V.int)):=fun y hy=>by
        simp only [List.mem_cons,List.not_mem_nil,or_false] at hy
        rcases hy with rfl | rfl | rfl | rfl
        · exact ⟨p0,[],rfl,b0⟩
        · exact ⟨p1,[(i:Nat)],rfl,b1⟩
        · exact ⟨p2,[(j:Nat)],rfl,b2⟩
        · exact ⟨p3,[(i:Nat),(j:Nat)],rfl,b3⟩
      refine .inr ⟨⟨_,SqT.of b4⟩,fun D hD=>?_⟩
      refine lO (K:=K) (a:=p4) (xs:=[.ref p0,.ref p1,.ref p2,.ref p3]) (fun i zs H'=>Same H3 H'∧H' D = some (.lst zs)∧zs.length = i∧i≤4) ⟨Same.new hD,af,rfl,Nat.zero_le _⟩ (fun i ys H' h=>SqT.of (h.1 _ _ b4)) (fun i ys H' h=>h.2.1) ?_ ?_
      · rintro i1 y zs H' P' hy ⟨s5,hD5,hzl,hi4⟩ hP'
        have ilt:i1 < 4:=(List.getElem?_eq_some_iff.mp hy).1
        obtain ⟨b,ns,rfl,hb⟩:=four y (List.mem_of_getElem? hy)
        refine ⟨⟨rfl,trivial⟩,_,.inl (SqL.of (s5 _ _ hlr)),b,ns,rows.length,rfl,s5 _ _ hb,by omega,fun H6 z s6=>?_⟩
        have hD6:=s6 _ _ hD5
        exact ⟨hD6,by omega,hP' _ _ ⟨(s5.trans s6).put hD,af,by rw [List.length_append,hzl]; rfl,ilt⟩⟩
      rintro zs H5 ⟨s5,hD5,_,_⟩
      refine ⟨by show 3≤sizeLine; decide,fun p6 hp6=>?_⟩
      have s6:=(s2.trans a04).trans (s5.trans (Same.new (o:=.tup [.int (i:Nat),.int (j:Nat),.ref D]) hp6))
      exact q _ _ s6.t (hT1.same s6)
theorem xE (T:Txt K mg a):FnOk P w K mg base (CXG P w) 14 a.f_true_sum a.d_true_sum ["units"] (wE a):=by
  have G_need_units:FnOk P w K mg base (CXG P w) 13 _ _ _ (mm a):=(nG T).mono (by decide)
  have G_values_of:FnOk P w K mg base CX0 13 _ _ _ fF:=(fE T).mono (by decide)
  refine T.F_true_sum.okG lI (fun vs H Q E h=>?_) (fun cdv A outer s H vs Q E hr h=>?_)
  · obtain ⟨x,rfl,_⟩:=h; rfl
  · obtain ⟨x,rfl,h⟩:=h
    refine ⟨_,(aj (dF (am G_need_units hr rfl T.m_need_units T.F_need_units.kp T.B_need_units .nil cm (aa (vr 0) ae))) (ak (aq (aB (iG rfl) rfl T.z_sum mr (aa (am G_values_of hr rfl T.m_values_of T.F_values_of.kp T.B_values_of .nil ar (aa (vr 0) ae)) ae))))),?_⟩
    rcases h with ⟨l,us,xs,rfl,hl,hu,hg,q⟩ | ⟨hb,q⟩
    · refine ⟨_,rfl,.inl ⟨l,us,xs,rfl,hl,hu,hg,fun H1 s1=>?_⟩⟩
      refine ⟨l,us,xs,rfl,s1 _ _ hl,hu.tk s1.tk,hg,fun H2 r2 s2 _ hr2=>?_⟩
      exact ⟨r2,us.map U.value,rfl,SqL.of (by rw [List.map_map]; exact hr2),q _ _ (s1.trans s2)⟩
    · exact ⟨_,rfl,.inr ⟨hb,q⟩⟩
end
end My
namespace My
open PySem L2 FrM
def nX:Sp:=fun vs H Q _=>∃ (p:Addr) (n m:Int) (lev:Nat),vs = [.ref p,.int m,.int (lev:Nat)]∧H p = some (.lst [.int n])∧1≤m∧m≤5∧lev≤2∧∀ H' l us xs n',SameP p H H'→H l = none→H' p = some (.lst [.int n'])→H' l = some (.lst xs)→AllU H' us xs→GoodL us→(us.length:Int) = m→(∀ u ∈ us,u.path.length = lev)→Q (.ref l) H'
theorem yL:∀ i:Int,0≤i→i < 26→atI ("abcdefghijklmnopqrstuvwxyz" : Str).cps.toList i = some (97 + i.toNat):=by
  have h:∀ n:Nat,n < 26→atI ("abcdefghijklmnopqrstuvwxyz" : Str).cps.toList (n:Int) = some (97 + n):=by decide +kernel
  intro i h0 h1
  have:=h i.toNat (by omega)
  rwa [show ((i.toNat:Nat):Int) = i by omega] at this
theorem ki (x y:Str):(x ++ y).cps.toList = x.cps.toList ++ y.cps.toList:=PySem.W.KT.app_list _ _
theorem qO (x y:Str):(x ++ y).cps.size = x.cps.size + y.cps.size:=by
  have:=congrArg List.length (ki x y)
  simpa using this
theorem SameP.tk {p:Addr} {H H':Hp} {xs:List V} (hp:H p = some (.lst xs)) (s:SameP p H H'):TK H H':=fun b ys e=>s b _ (fun z=>by rw [z,hp] at e; cases e) e
theorem SameP.free {p r:Addr} {H H':Hp} (s:SameP p H H') (n:r≠p) (h:H' r = none):H r = none:=by
  cases e:H r with
  | none=>rfl
  | some o=>rw [s r o n e] at h; cases h
theorem SameP.push {p r:Addr} {H H':Hp} {o:HO} (s:SameP p H H') (h:H r = none):SameP p H (upd H' r o):=fun b o' n e=>by
  rw [ao (ay e h)]
  exact s b o' n e
theorem wJ {r:Str} {n:Int} (n0:0≤n) (n2:n≤2) (h:r.cps.toList = (List.replicate n.toNat ("u" : Str).cps.toList).flatten):r.cps.size≤2∧∀ c ∈ r.cps.toList,c = 117:=by
  have e:("u" : Str).cps.toList = [117]:=by decide +kernel
  have hz:r.cps.size = r.cps.toList.length:=by simp
  rw [hz,h,e]
  have hc:n = 0∨n = 1∨n = 2:=by omega
  rcases hc with rfl | rfl | rfl <;> exact ⟨by decide,by decide⟩
theorem xZ {r:Str} {i:Int} (i0:0≤i) (i1:i < 26) (h1:r.cps.size≤2) (h2:∀ c ∈ r.cps.toList,c = 117):fb ((⟨#[97 + i.toNat]⟩:Str) ++ r) = true∧((⟨#[97 + i.toNat]⟩:Str) ++ r).cps.toList.head? = some (97 + i.toNat):=by
  have ec:=ki (⟨#[97 + i.toNat]⟩:Str) r
  have es:((⟨#[97 + i.toNat]⟩:Str) ++ r).cps.size = 1 + r.cps.size:=by rw [qO]; rfl
  refine ⟨rZ (by omega) (by omega) fun c hc=>?_,by rw [ec]; rfl⟩
  rw [ec] at hc
  rcases List.mem_append.mp hc with h | h
  · rw [List.mem_singleton.mp h]; omega
  · rw [h2 c h]; decide
theorem tz {st:Int} (h:st ∈ ([1,3,5,7,9,11,15,17,19,21,23,25]:List Int)) (f:Int) (i j:Nat) (hi:i < 5) (hj:j < 5) (e:((f + st * (i:Int)) % 26).toNat = ((f + st * (j:Int)) % 26).toNat):i = j:=by
  simp only [List.mem_cons,List.not_mem_nil,or_false] at h
  rcases h with rfl | rfl | rfl | rfl | rfl | rfl | rfl | rfl | rfl | rfl | rfl | rfl <;> omega
theorem wQ {us:List U} {n:Nat} {f:Nat→Option Nat} (hh:us.map (fun u=>u.name.cps.toList.head?) = (List.range n).map f) (h:∀ i j,i < n→j < n→f i = f j→i = j):(us.map U.name).Nodup:=by
  have h1:((List.range n).map f).Nodup:=by
    rw [List.nodup_iff_pairwise_ne,List.pairwise_map]
    refine List.Pairwise.imp_of_mem (fun {x y} hx hy hne z=>hne ?_) (List.nodup_iff_pairwise_ne.mp List.nodup_range)
    exact h x y (List.mem_range.mp hx) (List.mem_range.mp hy) z
  rw [← hh,List.nodup_iff_pairwise_ne,List.pairwise_map] at h1
  rw [List.nodup_iff_pairwise_ne,List.pairwise_map]
  exact h1.imp fun hne z=>hne (by rw [z])
section
variable {P:Program} {w:World} {K:PySem.W.Frag} {mg:Str→Option Value} {base:Heap} {a:Ad}
theorem qg (T:Txt K mg a):FnOk P w K mg base CX0 2 a.f_L_units a.d_L_units ["_law_state", "_law_many", "_law_levels"] nX:=by
  have G_L_take:FnOk P w K mg base CX0 1 _ _ _ mh:=nz T
  refine T.F_L_units.okQ sc_L_units (fun vs H Q E h=>?_) (fun cdv A outer s H vs Q E hr h=>?_)
  · obtain ⟨p,n,m,lev,rfl,_⟩:=h; rfl
  · obtain ⟨p,n,m,lev,rfl,hp,m1,m5,l2,q⟩:=h
    have small:sizeLine = 16777216:=sizeLine_eq
    have e9:(10:Int) ^ (9:Int).toNat = 1000000000:=by decide
    have e6:(10:Int) ^ (6:Int).toNat = 1000000:=by decide
    refine ⟨_,(fK (iz (i:=3) sc_L_units.nd rfl (Or.inl rfl) (dA dg)) (fK (iz (i:=4) sc_L_units.nd rfl (Or.inl rfl) (dA (am G_L_take hr rfl T.m_L_take T.F_L_take.kp T.B_L_take .nil ar (aa (vr 0) (aa ai ae))))) (fK (iz (i:=5) sc_L_units.nd rfl (Or.inl rfl) (vZ au (nH (cq (dA ai) (cq (dA ai) (cq (dA ai) (cq (dA ai) (cq (dA ai) (cq (dA ai) (cq (dA ai) (cq (dA ai) (cq (dA ai) (cq (dA ai) (cq (dA ai) (cq (dA ai) kN))))))))))))) (am G_L_take hr rfl T.m_L_take T.F_L_take.kp T.B_L_take .nil ar (aa (vr 0) (aa ai ae))) (fun _ _=>rfl))) (fK (iz (i:=6) sc_L_units.nd rfl (Or.inl rfl) (dA (am G_L_take hr rfl T.m_L_take T.F_L_take.kp T.B_L_take .nil ar (aa (vr 0) (aa ai ae))))) (fK (iz (i:=7) sc_L_units.nd rfl (Or.inl rfl) (nH kN)) (fK (mi (d7 PassesOwn.never rfl (dX rfl T.z_range (aa (vr 1) ae)) (aw (i:=8) sc_L_units.nd rfl (Or.inl rfl)) (aj (az (i:=9) sc_L_units.nd rfl (Or.inl rfl) (av eR (aA au (vr 3) (av fN (av eR (vr 4) (av cx (vr 5) (vr 8))) ai) (fun _ _=>rfl)) (av tJ dg (av fN (vr 8) ai)))) (aj (az (i:=10) sc_L_units.nd rfl (Or.inl rfl) (aA au (dc (aa (av fj (am G_L_take hr rfl T.m_L_take T.F_L_take.kp T.B_L_take .nil ar (aa (vr 0) (aa ai ae))) ai) (aa (av fj (am G_L_take hr rfl T.m_L_take T.F_L_take.kp T.B_L_take .nil ar (aa (vr 0) (aa (av eR (av cx ai (av jZ ai ai)) ai) ae))) (av jZ ai ai)) ae))) (am G_L_take hr rfl T.m_L_take T.F_L_take.kp T.B_L_take .nil ar (aa (vr 0) (aa ai ae))) (fun _ _=>rfl))) (aj (az (i:=11) sc_L_units.nd rfl (Or.inl rfl) (av eR ai (am G_L_take hr rfl T.m_L_take T.F_L_take.kp T.B_L_take .nil ar (aa (vr 0) (aa (aA au (dc (aa ai (aa ai (aa ai (aa (av jZ ai ai) ae))))) (vr 6) (fun _ _=>rfl)) ae))))) (aj (az (i:=12) sc_L_units.nd rfl (Or.inl rfl) (eK gR rfl T.z_tuple iA (aa (bC rfl (N:=["_law_level", "_law_state"]) (ix:=[none,some 0]) ⟨rfl,rfl,rfl,rfl,⟨rfl,rfl,rfl,trivial⟩⟩ (dX rfl T.z_range (aa (vr 2) ae)) ⟨fun C s H fp=>aw (i:=0) (show List.Nodup (["_law_level", "_law_state"]:List Str) by decide +kernel) rfl (Or.inl rfl),fun C s H fp=>ck,fun C s H fp=>(aA (eG (K:=K) rfl) (dc (aa dg (aa dg (aa dg ae)))) (am G_L_take hr rfl T.m_L_take T.F_L_take.kp T.B_L_take .nil ar (aa (vr 1) (aa ai ae))) (fun _ _=>rfl))⟩) ae))) (ak (dF (pe_m.append (vr 7) (aa (bw (aa (vr 9) (aa (vr 10) (aa (vr 11) (aa (vr 12) ae))))) ae)))))))))) (sr (tY (dA (vr 7)))))))))),?_⟩
    refine ⟨p,n,26,rfl,hp,by decide,by decide,fun fi n1 f0 f1=>?_⟩
    have s1:SameP p H (upd H p (.lst [.int n1])):=SameP.put
    have p1:(upd H p (.lst [.int n1])) p = some (.lst [.int n1]):=af
    generalize upd H p (.lst [.int n1]) = H1 at s1 p1
    refine ⟨by show 12≤sizeLine; decide,fun q1 hq1=>?_⟩
    have nq1:q1≠p:=fun z=>by rw [z,p1] at hq1; cases hq1
    have s2:=Same.new (o:=.lst [.int 1,.int 3,.int 5,.int 7,.int 9,.int 11,.int 15,.int 17,.int 19,.int 21,.int 23,.int 25]) hq1
    have b2:=af (H:=H1) (a:=q1) (o:=.lst [.int 1,.int 3,.int 5,.int 7,.int 9,.int 11,.int 15,.int 17,.int 19,.int 21,.int 23,.int 25])
    generalize upd H1 q1 (.lst [.int 1,.int 3,.int 5,.int 7,.int 9,.int 11,.int 15,.int 17,.int 19,.int 21,.int 23,.int 25]) = H2 at s2 b2
    refine ⟨p,n1,12,rfl,s2 _ _ p1,by decide,by decide,fun j n2 j0 j1=>?_⟩
    have s3:SameP p H2 (upd H2 p (.lst [.int n2])):=SameP.put
    have p3:(upd H2 p (.lst [.int n2])) p = some (.lst [.int n2]):=af
    generalize upd H2 p (.lst [.int n2]) = H3 at s3 p3
    obtain ⟨v,hv,e⟩:=jx (xs:=[V.int 1,.int 3,.int 5,.int 7,.int 9,.int 11,.int 15,.int 17,.int 19,.int 21,.int 23,.int 25]) (i:=j) j0 (by show j < ((12:Nat):Int); omega)
    obtain ⟨st,rfl,hst⟩:∃ st:Int,v = .int st∧st ∈ ([1,3,5,7,9,11,15,17,19,21,23,25]:List Int):=by
      simp only [List.mem_cons,List.not_mem_nil,or_false] at hv
      rcases hv with rfl | rfl | rfl | rfl | rfl | rfl | rfl | rfl | rfl | rfl | rfl | rfl <;> exact ⟨_,rfl,by decide⟩
    have stb:1≤st∧st≤25:=by
      have hst':=hst
      simp only [List.mem_cons,List.not_mem_nil,or_false] at hst'
      omega
    refine .inl ⟨q1,_,_,_,rfl,rfl,SqL.of (s3 _ _ nq1 b2),e,?_⟩
    refine ⟨p,n2,4,rfl,p3,by decide,by decide,fun wy n3 w0 w1=>?_⟩
    have s4:SameP p H3 (upd H3 p (.lst [.int n3])):=SameP.put
    have p4:(upd H3 p (.lst [.int n3])) p = some (.lst [.int n3]):=af
    generalize upd H3 p (.lst [.int n3]) = H4 at s4 p4
    have s04:SameP p H H4:=((s1.trans (SameP.of s2)).trans s3).trans s4
    refine ⟨Nat.zero_le _,fun r hr0=>?_⟩
    have nr:r≠p:=fun z=>by rw [z,p4] at hr0; cases hr0
    have hrH:H r = none:=s04.free nr hr0
    refine ⟨m,rfl,by omega,by omega,fH (fun i σ H'=>(i:Int)≤m∧SameP p H H'∧∃ (n':Int) (us:List U) (xs:List V) (x8 x9 x10 x11 x12:Option V),
      σ = [some (.ref p),some (.int m),some (.int (lev:Nat)),some (.str "abcdefghijklmnopqrstuvwxyz"),some (.int fi),some (.int st),some (.int wy),some (.ref r),x8,x9,x10,x11,x12]∧H' p = some (.lst [.int n'])∧H' r = some (.lst xs)∧AllU H' us xs ∧
      us.map (fun u=>u.name.cps.toList.head?) = (List.range i).map (fun (k:Nat)=>some (97 + ((fi + st * (k:Int)) % 26).toNat))∧∀ u ∈ us,GoodU u∧u.path.length = lev)
      ⟨by omega,s04.push hrH,n3,[],[],none,none,none,none,none,rfl,by rw [ao (Ne.symm nr)]; exact p4,af,.nil,rfl,fun u hu=>by cases hu⟩ ?_ ?_⟩
    · rintro i σ H5 hi ⟨_,s5,n5,us,xs,x8,x9,x10,x11,x12,rfl,p5,hr5,hU,hheads,hgood⟩
      have hi':(i:Int) < m:=by omega
      have hus:us.length = i:=by
        have:=congrArg List.length hheads
        rw [List.length_map,List.length_map,List.length_range] at this
        exact this
      have hxl:xs.length = i:=by rw [← hU.len,hus]
      refine ⟨clB (by omega) (by omega),cp,.inr (.inr ⟨_,_,_,rfl,rfl,by decide +kernel,yL _ (by omega) (by omega),?_⟩)⟩
      refine ⟨cp, "u",_,rfl,rfl,by omega,by omega,by decide +kernel,fun ru hru=>?_⟩
      obtain ⟨hr1,hr2⟩:=wJ (by omega) (by omega) hru
      obtain ⟨hn1,hn2⟩:=xZ (i:=(fi + st * (0 + (i:Int))) % 26) (by omega) (by omega) hr1 hr2
      have hln:((⟨#[97 + ((fi + st * (0 + (i:Int))) % 26).toNat]⟩:Str).length + ru.length)≤sizeLine:=by
        show 1 + ru.cps.size≤sizeLine
        omega
      refine ⟨hln,?_⟩
      generalize (⟨#[97 + ((fi + st * (0 + (i:Int))) % 26).toNat]⟩:Str) ++ ru = nm at hn1 hn2
      -- value
      refine ⟨p,n5,11,rfl,p5,by decide,by decide,fun v1 n6 v10 v11=>?_⟩
      have s6:SameP p H5 (upd H5 p (.lst [.int n6])):=SameP.put
      have p6:(upd H5 p (.lst [.int n6])) p = some (.lst [.int n6]):=af
      generalize upd H5 p (.lst [.int n6]) = H6 at s6 p6
      refine ⟨cw,clB,p,n6,_,rfl,p6,by rw [e9]; decide,by rw [e9]; decide,fun v2 n7 v20 v21=>?_⟩
      rw [e9] at v21
      have s7:SameP p H6 (upd H6 p (.lst [.int n7])):=SameP.put
      have p7:(upd H6 p (.lst [.int n7])) p = some (.lst [.int n7]):=af
      generalize upd H6 p (.lst [.int n7]) = H7 at s7 p7
      refine ⟨cw,by show 2≤sizeLine; decide,fun q2 hq2=>?_⟩
      have nq2:q2≠p:=fun z=>by rw [z,p7] at hq2; cases hq2
      have s8:=Same.new (o:=.lst [.int (v1 - 5),.int (v2 - 10 ^ (9:Int).toNat)]) hq2
      have b8:=af (H:=H7) (a:=q2) (o:=.lst [.int (v1 - 5),.int (v2 - 10 ^ (9:Int).toNat)])
      generalize upd H7 q2 (.lst [.int (v1 - 5),.int (v2 - 10 ^ (9:Int).toNat)]) = H8 at s8 b8
      refine ⟨p,n7,2,rfl,s8 _ _ p7,by decide,by decide,fun j2 n9 j20 j21=>?_⟩
      have s9:SameP p H8 (upd H8 p (.lst [.int n9])):=SameP.put
      have p9:(upd H8 p (.lst [.int n9])) p = some (.lst [.int n9]):=af
      generalize upd H8 p (.lst [.int n9]) = H9 at s9 p9
      obtain ⟨y2,hy2,e2⟩:=jx (xs:=[V.int (v1 - 5),V.int (v2 - 10 ^ (9:Int).toNat)]) (i:=j2) j20 (by show j2 < ((2:Nat):Int); omega)
      obtain ⟨va,rfl,va0,va1⟩:∃ va:Int,y2 = .int va∧-1000000000≤va∧va≤1000000000:=by
        simp only [List.mem_cons,List.not_mem_nil,or_false] at hy2
        rw [e9] at hy2
        rcases hy2 with rfl | rfl
        · exact ⟨_,rfl,by omega,by omega⟩
        · exact ⟨_,rfl,by omega,by omega⟩
      refine .inl ⟨q2,_,_,_,rfl,rfl,SqL.of (s9 _ _ nq2 b8),e2,?_⟩
      have s59:SameP p H5 H9:=((s6.trans s7).trans (SameP.of s8)).trans s9
      -- size
      refine ⟨cw,by show 4≤sizeLine; decide,fun q3 hq3=>?_⟩
      have nq3:q3≠p:=fun z=>by rw [z,p9] at hq3; cases hq3
      obtain ⟨y3,hy3,e3⟩:=jx (xs:=[V.int 1,V.int 4,V.int 30,V.int (10 ^ (6:Int).toNat)]) (i:=wy) w0 (by show wy < ((4:Nat):Int); omega)
      obtain ⟨sm,rfl,sm0,sm1⟩:∃ va:Int,y3 = .int va∧1≤va∧va≤1000000:=by
        simp only [List.mem_cons,List.not_mem_nil,or_false] at hy3
        rw [e6] at hy3
        rcases hy3 with rfl | rfl | rfl | rfl <;> exact ⟨_,rfl,by decide,by decide⟩
      have sA:=Same.new (o:=.lst [.int 1,.int 4,.int 30,.int (10 ^ (6:Int).toNat)]) hq3
      refine .inl ⟨q3,_,_,_,rfl,rfl,SqL.of af,e3,?_⟩
      generalize upd H9 q3 (.lst [.int 1,.int 4,.int 30,.int (10 ^ (6:Int).toNat)]) = HA at sA
      refine ⟨p,n9,sm,rfl,sA _ _ p9,by omega,by omega,fun z1 nB z10 z11=>?_⟩
      have sB:SameP p HA (upd HA p (.lst [.int nB])):=SameP.put
      have pB:(upd HA p (.lst [.int nB])) p = some (.lst [.int nB]):=af
      generalize upd HA p (.lst [.int nB]) = HB at sB pB
      have s5B:SameP p H5 HB:=(s59.trans (SameP.of sA)).trans sB
      -- path
      refine ⟨(lev:Int),rfl,by omega,by omega,fun D hD=>?_⟩
      have nD:D≠p:=fun z=>by rw [z,pB] at hD; cases hD
      refine iB (lo:=0) (n:=lev) (fun j ys H'=>j≤lev∧SameP p HB H'∧(∃ n',H' p = some (.lst [.int n']))∧H' D = some (.lst ys)∧∃ ps:List Str,ys = ps.map V.str∧ps.length = j∧∀ n ∈ ps,fb n = true) ⟨Nat.zero_le _,SameP.refl.push hD,⟨nB,by rw [ao (Ne.symm nD)]; exact pB⟩,af,[],rfl,rfl,fun n hn=>by cases hn⟩ (fun j ys H' h=>h.2.2.2.1) ?_ ?_
      · rintro j ys HC P' hj ⟨_,sC,⟨nC,pC⟩,hDC,ps,rfl,hpl,hpn⟩ hP
        refine ⟨⟨rfl,trivial⟩,by show 3≤sizeLine; decide,fun q4 hq4=>?_⟩
        have nq4:q4≠p:=fun z=>by rw [z,pC] at hq4; cases hq4
        have sD:=Same.new (o:=.lst [.str "n",.str "s",.str "mid"]) hq4
        have bD:=af (H:=HC) (a:=q4) (o:=.lst [.str "n",.str "s",.str "mid"])
        generalize upd HC q4 (.lst [.str "n",.str "s",.str "mid"]) = HD at sD bD
        refine ⟨p,nC,3,rfl,sD _ _ pC,by decide,by decide,fun k1 nE k10 k11=>?_⟩
        obtain ⟨y4,hy4,e4⟩:=jx (xs:=[V.str "n",V.str "s",V.str "mid"]) (i:=k1) k10 (by show k1 < ((3:Nat):Int); omega)
        obtain ⟨tn,rfl,htn⟩:∃ n:Str,y4 = .str n∧fb n = true:=by
          simp only [List.mem_cons,List.not_mem_nil,or_false] at hy4
          rcases hy4 with rfl | rfl | rfl <;> exact ⟨_,rfl,by decide +kernel⟩
        have sE:SameP p HD (upd HD p (.lst [.int nE])):=SameP.put
        have pE:(upd HD p (.lst [.int nE])) p = some (.lst [.int nE]):=af
        generalize upd HD p (.lst [.int nE]) = HE at sE pE
        have sCE:SameP p HC HE:=(SameP.of sD).trans sE
        have hDE:=sCE _ _ nD hDC
        refine .inl ⟨q4,_,_,_,rfl,rfl,SqL.of (sE _ _ nq4 bD),e4,hDE,by rw [List.length_map]; omega,hP _ _ ⟨hj,(sC.trans sCE).push hD,⟨nE,by rw [ao (Ne.symm nD)]; exact pE⟩,af,ps ++ [tn],by rw [List.map_append]; rfl,by rw [List.length_append,hpl]; rfl,fun n hn=>?_⟩⟩
        rcases List.mem_append.mp hn with z | z
        · exact hpn n z
        · rw [List.mem_singleton.mp z]; exact htn
      rintro ys HC ⟨_,sC,⟨nC,pC⟩,hDC,ps,rfl,hpl,hpn⟩
      refine ⟨D,_,rfl,.inl ⟨SqL.of hDC,fun tp htp=>?_⟩⟩
      have s5C:=s5B.trans sC
      have hrC:=s5C _ _ nr hr5
      have sD:=Same.new (o:=.tup (ps.map V.str)) htp
      refine ⟨.inl ⟨rfl,_,SqL.of (sD _ _ hrC)⟩,by show 4≤sizeLine; decide,fun tt htt=>?_⟩
      have sE:=Same.new (o:=.tup [.str nm,.int va,.int (1 + z1),.ref tp]) htt
      have hrE:=sE _ _ (sD _ _ hrC)
      refine ⟨r,xs,.ref tt,rfl,rfl,hrE,by omega,?_⟩
      have tk:TK (upd (upd HC tp (.tup (ps.map V.str))) tt (.tup [.str nm,.int va,.int (1 + z1),.ref tp])) (upd (upd (upd HC tp (.tup (ps.map V.str))) tt (.tup [.str nm,.int va,.int (1 + z1),.ref tp])) r (.lst (xs ++ [.ref tt]))):=TK.lst hrE
      have s5E:SameP p H5 (upd (upd HC tp (.tup (ps.map V.str))) tt (.tup [.str nm,.int va,.int (1 + z1),.ref tp])):=(s5C.trans (SameP.of sD)).trans (SameP.of sE)
      refine ⟨by omega,(s5.trans s5E).push hrH,nC,us ++ [⟨nm,va,1 + z1,ps⟩],xs ++ [.ref tt],_,_,_,_,_,rfl,by rw [ao (Ne.symm nr)]; exact sE _ _ (sD _ _ pC),af,AllU.snoc ⟨tt,tp,rfl,tk _ _ af,tk _ _ (sE _ _ af)⟩ (hU.tk ((SameP.tk p5 s5E).trans tk)),?_,fun u hu=>?_⟩
      · rw [List.map_append,hheads,List.range_succ,List.map_append]
        show _ ++ [nm.cps.toList.head?] = _ ++ [some (97 + ((fi + st * (i:Int)) % 26).toNat)]
        rw [hn2,Int.zero_add]
      · rcases List.mem_append.mp hu with z | z
        · exact hgood u z
        · rw [List.mem_singleton.mp z]
          exact ⟨⟨hn1,va0,va1,by show 1≤1 + z1; omega,by show 1 + z1≤1000000; omega,by show ps.length≤3; omega,hpn⟩,hpl⟩
    · rintro σ H5 ⟨_,s5,n5,us,xs,x8,x9,x10,x11,x12,rfl,p5,hr5,hU,hheads,hgood⟩
      have hus:us.length = m.toNat:=by
        have:=congrArg List.length hheads
        rw [List.length_map,List.length_map,List.length_range] at this
        exact this
      refine q _ r us xs n5 s5 hrH p5 hr5 hU ⟨by omega,by omega,fun u hu=>(hgood u hu).1,wQ hheads fun i j hi hj e=>?_,fun u hu v hv=>?_⟩ (by omega) fun u hu=>(hgood u hu).2
      · exact tz hst fi i j (by omega) (by omega) (by have:=Option.some.inj e; omega)
      · rw [(hgood u hu).2,(hgood v hv).2]
end
end My
namespace My
open PySem L2 FrM
theorem dQ {H H1:Hp} {a:Addr} {o:HO} (h:H a = none) (e:upd H a o = H1):Same H H1∧H1 a = some o:=e ▸ ⟨Same.new h,af⟩
def vq (x:V):Prop:=x = .non∨(∃ b,x = .bl b)∨(∃ i,x = .int i)∨∃ z,x = .str z∧PyData.strOk z = true
def Dat (H:Hp):Nat→V→Prop
  | 0,x=>vq x
  | n + 1,x=>vq x∨∃ p xs,x = .ref p∧(H p = some (.lst xs)∨H p = some (.tup xs))∧∀ y ∈ xs,Dat H n y
theorem Dat.t {H H':Hp} (s:SameT H H'):∀ {n:Nat} {x:V},Dat H n x→Dat H' n x
  | 0,_,h=>h
  | n + 1,_,h=>by
    rcases h with h | ⟨p,xs,rfl,h1,h2⟩
    · exact .inl h
    · exact .inr ⟨p,xs,rfl,h1.imp (fun e=>s.at e) (fun e=>s.at e),fun y hy=>Dat.t s (h2 y hy)⟩
theorem Dat.of0 {H:Hp} {x:V} (h:vq x):∀ {n:Nat},Dat H n x
  | 0=>h
  | _ + 1=>.inl h
theorem Dat.dv {K:PySem.W.Frag} {H:Hp}:∀ {n:Nat} {x:V},Dat H n x→∃ d,DV K H d x∧d.canLay0 = true∧d.depth≤n
  | 0,_,h=>by
    rcases h with rfl | ⟨b,rfl⟩ | ⟨i,rfl⟩ | ⟨z,rfl,hz⟩
    · exact ⟨.none,by simp [DV],rfl,Nat.le_refl _⟩
    · exact ⟨.bool b,by simp [DV],rfl,Nat.le_refl _⟩
    · exact ⟨.int i,by simp [DV],rfl,Nat.le_refl _⟩
    · exact ⟨.str z,by simp [DV],hz,Nat.le_refl _⟩
  | n + 1,x,h=>by
    rcases h with h | ⟨p,xs,rfl,h1,h2⟩
    · obtain ⟨d,h1,h2,h3⟩:=Dat.dv (n:=0) h
      exact ⟨d,h1,h2,Nat.le_trans h3 (Nat.zero_le _)⟩
    · have all:∃ ds,DVs K H ds xs∧PyData.canLayAll0 ds = true∧PyData.depthAll ds≤n:=by
        clear h1
        induction xs with
        | nil=>exact ⟨[],by simp [DVs],rfl,Nat.zero_le _⟩
        | cons y ys ih =>
          obtain ⟨d,a1,a2,a3⟩:=Dat.dv (K:=K) (h2 y List.mem_cons_self)
          obtain ⟨ds,b1,b2,b3⟩:=ih fun z hz=>h2 z (List.mem_cons_of_mem _ hz)
          refine ⟨d :: ds,by rw [DVs]; exact ⟨_,_,rfl,a1,b1⟩,by rw [PyData.canLayAll0,a2,b2]; rfl,?_⟩
          rw [PyData.depthAll]
          omega
      obtain ⟨ds,b1,b2,b3⟩:=all
      rcases h1 with h1 | h1
      · exact ⟨.list ds,by rw [DV]; exact ⟨p,xs,rfl,SqL.of h1,b1⟩,by rw [PyData.canLay0]; exact b2,by rw [PyData.depth]; omega⟩
      · exact ⟨.tuple ds,by rw [DV]; exact ⟨p,xs,rfl,SqT.of h1,b1⟩,by rw [PyData.canLay0]; exact b2,by rw [PyData.depth]; omega⟩
def Odd (H:Hp) (x:V):Prop:=x = .non∨(∃ p,x = .ref p∧H p = some (.dK []))∨(∃ p xs,x = .ref p∧H p = some (.tup xs)∧∀ y ∈ xs,Dat H 2 y)∨∃ p xs,x = .ref p∧H p = some (.lst xs)∧xs.length≤1000∧∀ y ∈ xs,Dat H 2 y
theorem fw {t:Str} (h:∀ c ∈ t.cps.toList,c < 128):PyData.strOk t = true:=by
  rw [PyData.strOk,← Array.all_toList,List.all_eq_true]
  intro c hm
  have:=h c hm
  exact decide_eq_true (by omega)
theorem d0i {H:Hp} {n:Nat} (i:Int):Dat H n (.int i):=Dat.of0 (.inr (.inr (.inl ⟨i,rfl⟩)))
theorem d0s {H:Hp} {n:Nat} {z:Str} (h:PyData.strOk z = true):Dat H n (.str z):=Dat.of0 (.inr (.inr (.inr ⟨z,rfl,h⟩)))
theorem ji {H:Hp} {n:Nat} {ts:List Str} (h:∀ t ∈ ts,PyData.strOk t = true):∀ y ∈ ts.map V.str,Dat H n y:=fun y hy=>by
  obtain ⟨t,ht,rfl⟩:=List.mem_map.mp hy
  exact d0s (h t ht)
theorem jw {H:Hp} {u:U} {p:Addr} (g:GoodU u) (h:H p = some (.tup (u.path.map V.str))):Dat H 1 (.ref p):=.inr ⟨p,_,rfl,.inr h,ji fun t ht=>fw (ee (g.pn t ht))⟩
theorem jr {H:Hp} {v0 v1 v2 v3:V} (d0:Dat H 1 v0) (d1:Dat H 1 v1) (d2:Dat H 1 v2) (d3:Dat H 1 v3):∀ y ∈ [v0,v1,v2,v3],Dat H 1 y:=fun y hy=>by
  simp only [List.mem_cons,List.not_mem_nil,or_false] at hy
  rcases hy with rfl | rfl | rfl | rfl
  · exact d0
  · exact d1
  · exact d2
  · exact d3
theorem lT {H:Hp} {u:U} {x:V} (h:IsU H u x) (g:GoodU u):Dat H 2 x:=by
  obtain ⟨ad,pp,rfl,ha,hp⟩:=h
  exact .inr ⟨ad,_,rfl,.inr ha,jr (d0s (fw (ee g.nm))) (d0i _) (d0i _) (jw g hp)⟩
theorem iI {H:Hp} {us:List U} {xs:List V} (h:AllU H us xs) (g:∀ u ∈ us,GoodU u):∀ y ∈ xs,Dat H 2 y:=fun y hy=>by
  obtain ⟨i,hi⟩:=List.getElem?_of_mem hy
  obtain ⟨u,hu,h'⟩:=h.get hi
  exact lT h' (g u (List.mem_of_getElem? hu))
structure OB (H:Hp) (y:V):Prop where
  un:UnitC H y false
  da:Dat H 2 y
theorem fg {H:Hp} {p:Addr} {v0 v1 v2 v3:V} {c0 c1 c2:Cl} {b3:Bool} (e:H p = some (.tup [v0,v1,v2,v3])) (h0:IsC H v0 c0) (h1:IsC H v1 c1) (h2:IsC H v2 c2) (h3:PathC H v3 b3) (f:(clN c0 && (clW (-1000000000) 1000000000 c1 && (clW 1 1000000 c2 && b3))) = false)
    (d0:Dat H 1 v0) (d1:Dat H 1 v1) (d2:Dat H 1 v2) (d3:Dat H 1 v3):OB H (.ref p):=⟨f ▸ UnitC.four p v0 v1 v2 v3 c0 c1 c2 b3 e h0 h1 h2 h3,.inr ⟨p,_,rfl,.inr e,jr d0 d1 d2 d3⟩⟩
theorem rG {us:List U} (hg:GoodL us) (k:Nat):Pre (us.take k):=⟨fun u hu=>hg.each u (List.mem_of_mem_take hu),by
  rw [List.map_take]
  exact hg.nd.sublist (List.take_sublist _ _),fun u hu v hv=>hg.pth u (List.mem_of_mem_take hu) v (List.mem_of_mem_take hv)⟩
theorem ng {H:Hp} {us:List U} {xs zs:List V} {k:Nat} {y:V} {p:Addr} (hu:AllU H us xs) (hg:GoodL us) (hk:k≤us.length) (hz:xs.length + zs.length≤20) (h:H p = some (.lst (xs.take k ++ [y] ++ zs))) (hy:BadAt H (us.take k) y):BadL H (.ref p):=by
  have hl:=hu.len
  have hkl:(xs.take k).length = k:=by rw [List.length_take]; omega
  refine ⟨.inr ⟨p,_,k,us.take k,y,rfl,h,?_,?_,?_,?_,rG hg k,hy⟩⟩
  · simp only [List.length_append,List.length_cons,List.length_nil]; omega
  · simp only [List.length_append,List.length_take,List.length_cons,List.length_nil]; omega
  · rw [List.append_assoc,List.getElem?_append_right (by omega),hkl,Nat.sub_self]; rfl
  · have e:(xs.take k ++ [y] ++ zs).take k = xs.take k:=by
      rw [List.append_assoc,List.take_append_of_le_length (by omega),List.take_of_length_le (by omega)]
    rw [e]
    exact hu.take k
theorem sx {H:Hp} {us:List U} {xs:List V} {y:V} {u:U} {p:Addr} (hu:AllU H us xs) (hg:GoodL us) (h5:us.length≤5) (h:H p = some (.lst (xs ++ [y]))) (hy:IsU H u y) (hm:u ∈ us):BadL H (.ref p):=by
  have hl:=hu.len
  have e1:xs.take us.length = xs:=List.take_of_length_le (by omega)
  have e2:us.take us.length = us:=List.take_of_length_le (by omega)
  refine ng (k:=us.length) (zs:=[]) hu hg (Nat.le_refl _) (by rw [List.length_nil]; omega) (by rw [e1,List.append_nil]; exact h) ?_
  rw [e2]
  exact .name u hy (hg.each u hm) (List.mem_map.mpr ⟨u,hm,rfl⟩)
theorem zq {K:PySem.W.Frag} {H:Hp} {p b:Addr} {xs ys:List V} {Q:VK} (h1:H p = some (.tup xs)) (h2:H b = some (.tup ys)) (hy:ys≠[]) (hz:xs.length + ys.length≤sizeLine) (k:∀ z H',Same H H'→H' z = some (.tup (xs ++ ys))→Q (.ref z) H'):mR K (.ref p) (.ref b) H Q∨rX K (.ref p) (.ref b) H Q:=by
  by_cases h:xs = []
  · subst h
    exact .inl ⟨p,b,ys,rfl,rfl,SqT.of h1,SqT.of h2,k b H (Same.refl H) h2⟩
  · exact .inr ⟨p,b,xs,ys,rfl,rfl,SqT.of h1,SqT.of h2,h,hz,fun e=>absurd e hy,fun _ c hc=>k c _ (Same.new hc) af⟩
theorem vx {H:Hp} {u:U} {p:Addr} (g:GoodU u) (hp:H p = some (.tup (u.path.map V.str))):PathC H (.ref p) true:=by
  have:=PathC.tup (H:=H) p (u.path.map V.str) (u.path.map Cl.str) hp (by rw [List.length_map]; have:=g.pl; omega) (iw fun t ht=>eP (g.pn t ht))
  have e:(decide (((u.path.map V.str).length:Int)≤3) && (u.path.map Cl.str).all clN) = true:=by
    rw [Bool.and_eq_true,decide_eq_true_eq,List.length_map,List.all_map,List.all_eq_true]
    exact ⟨by have:=g.pl; omega,fun t ht=>g.pn t ht⟩
  rw [e] at this
  exact this
theorem nmF {t:Str} {b:Bool} (h:fb t = false):(clN (.str t) && b) = false:=by
  show (fb t && b) = false
  rw [h,Bool.false_and]
theorem kX {H:Hp}:∀ {cs ds:List Cl} {xs ys:List V},AllC H cs xs→AllC H ds ys→AllC H (cs ++ ds) (xs ++ ys)
  | _,_,_,_,.nil,h=>h
  | _,_,_,_,.cons r t,h=>.cons r (kX t h)
theorem lJ {xs:List V} {lo hi:Option Int} {y:V} (h:y ∈ cY xs lo hi):y ∈ xs:=List.mem_of_mem_drop (List.mem_of_mem_take h)
def lj:Sp:=fun vs H Q _=>∃ (l:Addr) (us:List U) (xs:List V) (way far:Int) (at_:Nat),vs = [.ref l,.int way,.int (at_:Nat),.int far]∧H l = some (.lst xs)∧AllU H us xs∧GoodL us∧us.length≤5∧0≤way∧way < 16∧at_ < us.length∧0≤far∧far < 1000000000∧∀ H' x,Same H H'→BadL H' x→Odd H' x→Q x H'
section
variable {P:Program} {w:World} {K:PySem.W.Frag} {mg:Str→Option Value} {base:Heap} {a:Ad}
theorem pe (T:Txt K mg a):FnOk P w K mg base CX0 1 a.f_L_spoilt a.d_L_spoilt ["_law_units_here", "_law_way", "_law_at", "_law_far"] lj:=by
  refine T.F_L_spoilt.ok sc_L_spoilt (fun vs H Q E h=>?_) (fun cdv A outer s H vs Q E hr h=>?_)
  · obtain ⟨l,us,xs,way,far,at_,rfl,_⟩:=h; rfl
  · obtain ⟨l,us,xs,way,far,at_,rfl,hl,hu,hg,h5,w0,w1,hat,f0,f1,q⟩:=h
    have small:sizeLine = 16777216:=sizeLine_eq
    have e9:(10:Int) ^ (9:Int).toNat = 1000000000:=by decide
    have hlen:=hu.len
    have g1:=hg.l1
    refine ⟨_,(aj (jD (aA au (vr 0) (vr 2) (fun _ _=>rfl)) (fu rfl (aG (aw (i:=4) sc_L_spoilt.nd rfl (Or.inl rfl)) (aG (aw (i:=5) sc_L_spoilt.nd rfl (Or.inl rfl)) (aG (aw (i:=6) sc_L_spoilt.nd rfl (Or.inl rfl)) (aG (aw (i:=7) sc_L_spoilt.nd rfl (Or.inl rfl)) dG)))))) (aj (az (i:=8) sc_L_spoilt.nd rfl (Or.inl rfl) (oG (eU fq (eU (eK gR rfl T.z_tuple iA (aa (vr 0) ae)) (eU jH (eU (dc ae) (eU (av vP (vr 0) (av eR (av dY ai (aB bi rfl T.z_len dH (aa (vr 0) ae))) ai)) (eU (av ig (vr 0) (dc (aa (aA au (vr 0) (vr 2) (fun _ _=>rfl)) ae))) kN)))))))) (aj (dF (pe_m.append (vr 8) (aa (av ig (eO hZ (vr 0) gK (e8 (vr 2))) (dc (aa (eK fS rfl T.z_list gL (aa (aA au (vr 0) (vr 2) (fun _ _=>rfl)) ae)) ae))) ae))) (aj (az (i:=9) sc_L_spoilt.nd rfl (Or.inl rfl) (dc (aa (bw (aa (vr 4) (aa (vr 5) (aa (vr 6) ae)))) (aa (bw (aa dg (aa (vr 5) (aa (vr 6) (aa (vr 7) ae))))) (aa (bw (aa dg (aa (vr 5) (aa (vr 6) (aa (vr 7) ae))))) (aa (bw (aa (vr 4) (aa io (aa (vr 6) (aa (vr 7) ae))))) ae)))))) (aj (az (i:=9) sc_L_spoilt.nd rfl (Or.inl rfl) (av ig (vr 9) (dc (aa (bw (aa (vr 4) (aa (av eR (av eR (av jZ ai ai) ai) (vr 3)) (aa (vr 6) (aa (vr 7) ae))))) (aa (bw (aa (vr 4) (aa (vr 5) (aa (av fj ai (vr 3)) (aa (vr 7) ae))))) (aa (bw (aa (vr 4) (aa (vr 5) (aa dg (aa (vr 7) ae))))) ae)))))) (aj (az (i:=9) sc_L_spoilt.nd rfl (Or.inl rfl) (av ig (vr 9) (dc (aa (bw (aa (vr 4) (aa (vr 5) (aa (vr 6) (aa (eK fS rfl T.z_list gL (aa (vr 7) ae)) ae))))) (aa (bw (aa (vr 4) (aa (vr 5) (aa (vr 6) (aa (av rE (vr 7) (bw (aa dg ae))) ae))))) ae))))) (aj (bu (bz qD (vr 1) ai (aT _)) (ak (aq (aA au (vr 8) (vr 1) (fun _ _=>rfl)))) aM) (ak (aq (av ig (av ig (eO hZ (vr 0) gK (e8 (vr 2))) (dc (aa (aA au (vr 9) (av fj (vr 1) ai) (fun _ _=>rfl)) ae))) (eO hZ (vr 0) (e8 (av eR (vr 2) ai)) gK))))))))))),?_⟩
    have ex:xs[at_]? = some (xs[at_]'(by omega)):=List.getElem?_eq_getElem _
    obtain ⟨u,hu',hU⟩:=hu.get ex
    have hm:=List.mem_of_getElem? hu'
    have gu:=hg.each u hm
    obtain ⟨ad,pp,ey,ha,hpp⟩:=id hU
    rw [ey] at ex hU
    have hx0:∀ {H':Hp},Same H H'→∀ {Q':VK},Q' (.ref ad) H'→rIx K (.ref l) (.int (at_:Nat)) H' Q':=fun s Q' h=>.inl ⟨l,_,_,_,rfl,rfl,SqL.of (s _ _ hl),aH ex,h⟩
    refine hx0 (Same.refl H) ⟨ad,_,rfl,SqT.of ha,rfl,_,_,rfl,_,_,rfl,_,_,rfl,_,_,rfl,rfl,?_⟩
    -- odd
    refine ⟨l,_,rfl,.inl ⟨SqL.of hl,fun t1 ht1=>?_⟩⟩
    generalize e0:upd _ t1 _ = H1
    have sb:=dQ ht1 e0
    have s1:=sb.1
    have b1:=sb.2
    clear e0 sb
    intro d1 hd1
    generalize e0:upd _ d1 _ = H2
    have sb:=dQ hd1 e0
    have s2:=sb.1
    have b2:=sb.2
    clear e0 sb
    refine ⟨Nat.zero_le _,fun n1 hn1=>?_⟩
    generalize e0:upd _ n1 _ = H3
    have sb:=dQ hn1 e0
    have s3:=sb.1
    have b3:=sb.2
    clear e0 sb
    have c3:=s1.trans (s2.trans s3)
    refine ⟨_,.inl (SqL.of (c3 _ _ hl)),cdB (by omega) (show Bt 10 _ by unfold Bt; omega),?_⟩
    have hdiv:0≤(25:Int) / (xs.length:Int)∧(25:Int) / (xs.length:Int)≤25∧25 < (xs.length:Int) * ((25:Int) / (xs.length:Int) + 1):=by
      have hc:xs.length = 1∨xs.length = 2∨xs.length = 3∨xs.length = 4∨xs.length = 5:=by omega
      rcases hc with e | e | e | e | e <;> rw [e] <;> decide
    obtain ⟨dv,hdv⟩:∃ dv,dv = (25:Int) / (xs.length:Int):=⟨_,rfl⟩
    rw [← hdv] at hdiv
    have hrl:xs.length * (dv + 1).toNat≤5 * 26:=Nat.mul_le_mul (by omega) (by omega)
    refine ⟨l,dv + 1,xs,rfl,by rw [hdv],c3 _ _ hl,by omega,by omega,by omega,fun r1 hr1=>?_⟩
    generalize e0:upd _ r1 _ = H4
    have sb:=dQ hr1 e0
    have s4:=sb.1
    have b4:=sb.2
    clear e0 sb
    have c4:=c3.trans s4
    refine hx0 c4 ⟨by show 1≤sizeLine; decide,fun o1 ho1=>?_⟩
    generalize e0:upd _ o1 _ = H5
    have sb:=dQ ho1 e0
    have s5:=sb.1
    have b5:=sb.2
    clear e0 sb
    have c5:=c4.trans s5
    refine ⟨l,o1,xs,_,rfl,rfl,c5 _ _ hl,b5,by show xs.length + 1≤sizeLine; omega,fun o2 ho2=>?_⟩
    generalize e0:upd _ o2 _ = H6
    have sb:=dQ ho2 e0
    have s6:=sb.1
    have b6:=sb.2
    clear e0 sb
    refine ⟨by show 6≤sizeLine; decide,fun od hod=>?_⟩
    generalize e0:upd _ od _ = H7
    have sb:=dQ hod e0
    have s7:=sb.1
    have b7:=sb.2
    clear e0 sb
    have c7:=c5.trans (s6.trans s7)
    refine ⟨.inl ⟨rfl,_,SqL.of b7⟩,_,rfl,.inl ⟨xs,SqL.of (c7 _ _ hl),fun q1 hq1=>?_⟩⟩
    generalize e0:upd _ q1 _ = H8
    have sb:=dQ hq1 e0
    have s8:=sb.1
    have b8:=sb.2
    clear e0 sb
    have c8:=c7.trans s8
    refine hx0 c8 ⟨ad,_,rfl,.inr (SqT.of (c8 _ _ ha)),fun q2 hq2=>?_⟩
    generalize e0:upd _ q2 _ = H9
    have sb:=dQ hq2 e0
    have s9:=sb.1
    have b9:=sb.2
    clear e0 sb
    refine ⟨by show 1≤sizeLine; decide,fun q3 hq3=>?_⟩
    generalize e0:upd _ q3 _ = HA
    have sb:=dQ hq3 e0
    have sA:=sb.1
    have bA:=sb.2
    clear e0 sb
    have ecut:cY xs none (some (at_:Int)) = xs.take at_:=iK xs at_ (by omega)
    rw [ecut] at b8
    refine ⟨q1,q3,_,_,rfl,rfl,(s9.trans sA) _ _ b8,bA,by show (xs.take at_).length + 1≤sizeLine; rw [List.length_take]; omega,fun q4 hq4=>?_⟩
    generalize e0:upd _ q4 _ = HB
    have sb:=dQ hq4 e0
    have sB:=sb.1
    have bB:=sb.2
    clear e0 sb
    have c7B:=((s8.trans s9).trans sA).trans sB
    have b7B:=c7B _ _ b7
    refine ⟨od,_,_,rfl,rfl,b7B,by show 6 < sizeLine; decide,?_⟩
    generalize e0:upd _ od _ = HC
    have c7C:Same H6 HC:=fun b o e=>by
      have nb:b≠od:=ay e hod
      rw [← e0,ao nb]
      exact (s7.trans c7B) _ _ e
    have tkB:TK HB HC:=e0 ▸ TK.lst b7B
    have bod:HC od = some (.lst [.non,.ref t1,.ref d1,.ref n1,.ref r1,.ref o2,.ref q4]):=by rw [← e0]; exact af
    have odd:∀ {b:Addr} {o:HO},b≠od→HB b = some o→HC b = some o:=fun nb e=>by rw [← e0,ao nb]; exact e
    clear e0
    have c6:=c5.trans s6
    have cC:Same H HC:=c6.trans c7C
    -- others
    refine ⟨by show 3≤sizeLine; decide,fun y0 hy0=>?_⟩
    generalize e0:upd _ y0 _ = HD
    have sb:=dQ hy0 e0
    have sD:=sb.1
    have bD:=sb.2
    clear e0 sb
    refine ⟨by show 4≤sizeLine; decide,fun y1 hy1=>?_⟩
    generalize e0:upd _ y1 _ = HE
    have sb:=dQ hy1 e0
    have sE:=sb.1
    have bE:=sb.2
    clear e0 sb
    refine ⟨by show 4≤sizeLine; decide,fun y2 hy2=>?_⟩
    generalize e0:upd _ y2 _ = HF
    have sb:=dQ hy2 e0
    have sF:=sb.1
    have bF:=sb.2
    clear e0 sb
    refine ⟨by show 4≤sizeLine; decide,fun y3 hy3=>?_⟩
    generalize e0:upd _ y3 _ = HG
    have sb:=dQ hy3 e0
    have sG:=sb.1
    have bG:=sb.2
    clear e0 sb
    refine ⟨by show 4≤sizeLine; decide,fun m1 hm1=>?_⟩
    generalize e0:upd _ m1 _ = HI
    have sb:=dQ hm1 e0
    have sI:=sb.1
    have bI:=sb.2
    clear e0 sb
    refine ⟨cw,by show 4≤sizeLine; decide,fun y4 hy4=>?_⟩
    generalize e0:upd _ y4 _ = HJ
    have sb:=dQ hy4 e0
    have sJ:=sb.1
    have bJ:=sb.2
    clear e0 sb
    refine ⟨by show 4≤sizeLine; decide,fun y5 hy5=>?_⟩
    generalize e0:upd _ y5 _ = HK
    have sb:=dQ hy5 e0
    have sK:=sb.1
    have bK:=sb.2
    clear e0 sb
    refine ⟨by show 4≤sizeLine; decide,fun y6 hy6=>?_⟩
    generalize e0:upd _ y6 _ = HL
    have sb:=dQ hy6 e0
    have sL:=sb.1
    have bL:=sb.2
    clear e0 sb
    refine ⟨by show 3≤sizeLine; decide,fun m2 hm2=>?_⟩
    generalize e0:upd _ m2 _ = HM
    have sb:=dQ hm2 e0
    have sM:=sb.1
    have bM:=sb.2
    clear e0 sb
    refine ⟨m1,m2,_,_,rfl,rfl,(((sJ.trans sK).trans sL).trans sM) _ _ bI,bM,by show 4 + 3≤sizeLine; decide,fun m3 hm3=>?_⟩
    generalize e0:upd _ m3 _ = HN
    have sb:=dQ hm3 e0
    have sN:=sb.1
    have bN:=sb.2
    clear e0 sb
    have cCN:Same HC HN:=(((((((((sD.trans sE).trans sF).trans sG).trans sI).trans sJ).trans sK).trans sL).trans sM).trans sN)
    have cN:=cC.trans cCN
    refine ⟨pp,_,rfl,.inr (SqT.of (cN _ _ hpp)),fun z1 hz1=>?_⟩
    generalize e0:upd _ z1 _ = Ho
    have sb:=dQ hz1 e0
    have sO:=sb.1
    have bO:=sb.2
    clear e0 sb
    refine ⟨by show 4≤sizeLine; decide,fun y7 hy7=>?_⟩
    generalize e0:upd _ y7 _ = Hp1
    have sb:=dQ hy7 e0
    have sP:=sb.1
    have bP:=sb.2
    clear e0 sb
    refine ⟨by show 1≤sizeLine; decide,fun z2 hz2=>?_⟩
    generalize e0:upd _ z2 _ = Hq
    have sb:=dQ hz2 e0
    have sQ:=sb.1
    have bQ:=sb.2
    clear e0 sb
    have cNQ:=(sO.trans sP).trans sQ
    have cQ:=cN.trans cNQ
    refine zq (cQ _ _ hpp) bQ (by simp) (by rw [List.length_map]; show u.path.length + 1≤sizeLine; have:=gu.pl; omega) fun z3 Hr sR bR=>?_
    refine ⟨by show 4≤sizeLine; decide,fun y8 hy8=>?_⟩
    generalize e0:upd _ y8 _ = Hs
    have sb:=dQ hy8 e0
    have sS:=sb.1
    have bS:=sb.2
    clear e0 sb
    refine ⟨by show 2≤sizeLine; decide,fun m4 hm4=>?_⟩
    generalize e0:upd _ m4 _ = Ht
    have sb:=dQ hm4 e0
    have sT:=sb.1
    have bT:=sb.2
    clear e0 sb
    have cNT:=((cNQ.trans sR).trans sS).trans sT
    refine ⟨m3,m4,_,_,rfl,rfl,cNT _ _ bN,bT,by show 7 + 2≤sizeLine; decide,fun m5 hm5=>?_⟩
    generalize e0:upd _ m5 _ = Hu
    have sb:=dQ hm5 e0
    have sU:=sb.1
    have bU:=sb.2
    clear e0 sb
    have cCU:Same HC Hu:=cCN.trans (cNT.trans sU)
    have cU:=cC.trans cCU
    refine ifC (fun c=>?_) fun c=>?_
    · have cc:way = 0∨way = 1∨way = 2∨way = 3∨way = 4∨way = 5∨way = 6:=by omega
      have e6:=c7C.trans cCU
      have x1:=e6 _ _ ((s2.trans (s3.trans (s4.trans (s5.trans s6)))) _ _ b1)
      have x2:=e6 _ _ ((s3.trans (s4.trans (s5.trans s6))) _ _ b2)
      have x3:=e6 _ _ ((s4.trans (s5.trans s6)) _ _ b3)
      have x4:=e6 _ _ ((s5.trans s6) _ _ b4)
      have x6:=e6 _ _ b6
      have n4:q4≠od:=fun z=>by rw [z,((s8.trans s9).trans sA) _ _ b7] at hq4; cases hq4
      have n2:q2≠od:=fun z=>by rw [z,s8 _ _ b7] at hq2; cases hq2
      have xB:=cCU _ _ (odd n4 bB)
      have x9:=cCU _ _ (odd n2 ((sA.trans sB) _ _ b9))
      have xo:=cCU _ _ bod
      have huU:=hu.tk cU.tk
      have datU:=iI huU hg.each
      have hUU:=IsU.tk cU.tk hU
      have nolst:∀ {b:Addr} {o:HO},Hu b = some o→(∀ ys,o≠.lst ys)→∀ p ys,V.ref b = .ref p→Hu p≠some (.lst ys):=fun e n p ys z h=>by cases z; rw [e] at h; exact n ys (Option.some.inj h)
      rcases cc with rfl | rfl | rfl | rfl | rfl | rfl | rfl
      · exact .inl ⟨od,_,_,_,rfl,rfl,SqL.of xo,ax 0 rfl rfl,q _ _ cU ⟨.inl (.no _ _ .non fun p ys z=>by cases z)⟩ (.inl rfl)⟩
      · exact .inl ⟨od,_,_,_,rfl,rfl,SqL.of xo,ax 1 rfl rfl,q _ _ cU ⟨.inl (.no _ _ (.tup t1 xs x1) (nolst x1 fun ys z=>by cases z))⟩ (.inr (.inr (.inl ⟨t1,xs,rfl,x1,datU⟩)))⟩
      · exact .inl ⟨od,_,_,_,rfl,rfl,SqL.of xo,ax 2 rfl rfl,q _ _ cU ⟨.inl (.no _ _ (.dK d1 [] x2) (nolst x2 fun ys z=>by cases z))⟩ (.inr (.inl ⟨d1,rfl,x2⟩))⟩
      · exact .inl ⟨od,_,_,_,rfl,rfl,SqL.of xo,ax 3 rfl rfl,q _ _ cU ⟨.inl (.len n1 [] x3 (by simp))⟩ (.inr (.inr (.inr ⟨n1,[],rfl,x3,Nat.zero_le _,fun y hy=>by cases hy⟩)))⟩
      · refine .inl ⟨od,_,_,_,rfl,rfl,SqL.of xo,ax 4 rfl rfl,q _ _ cU ⟨.inl (.len r1 _ x4 ?_)⟩ (.inr (.inr (.inr ⟨r1,_,rfl,x4,?_,fun y hy=>?_⟩)))⟩
        · rw [kL]
          obtain ⟨kk,hkk⟩:∃ kk:Nat,(kk:Int) = dv + 1:=⟨(dv + 1).toNat,by omega⟩
          have h3:=hdiv.2.2
          rw [← hkk] at h3
          rw [← hkk,Int.toNat_natCast,Nat.mul_comm]
          have h4:25 < xs.length * kk:=by exact_mod_cast h3
          omega
        · rw [kL,Nat.mul_comm]; omega
        · obtain ⟨ys,hys,hy'⟩:=List.mem_flatten.mp hy
          rw [(List.mem_replicate.mp hys).2] at hy'
          exact datU y hy'
      · refine .inl ⟨od,_,_,_,rfl,rfl,SqL.of xo,ax 5 rfl rfl,q _ _ cU (sx huU hg h5 x6 hUU hm) (.inr (.inr (.inr ⟨o2,_,rfl,x6,?_,fun y hy=>?_⟩)))⟩
        · rw [List.length_append]; show xs.length + 1≤1000; omega
        · rcases List.mem_append.mp hy with h | h
          · exact datU y h
          · rw [List.mem_singleton.mp h]; exact lT hUU gu
      · refine .inl ⟨od,_,_,_,rfl,rfl,SqL.of xo,ax 6 rfl rfl,q _ _ cU (ng (zs:=[]) huU hg (Nat.le_of_lt hat) (by rw [List.length_nil]; omega) (by rw [List.append_nil]; exact xB) (.unit (.no _ _ (.lst q2 _ x9) fun ys z=>by cases z))) (.inr (.inr (.inr ⟨q4,_,rfl,xB,?_,fun y hy=>?_⟩)))⟩
        · rw [List.length_append,List.length_take]; show _ + 1≤1000; omega
        · rcases List.mem_append.mp hy with h | h
          · exact datU y (List.mem_of_mem_take h)
          · rw [List.mem_singleton.mp h]
            exact .inr ⟨q2,_,rfl,.inl x9,jr (d0s (fw (ee gu.nm))) (d0i _) (d0i _) (jw gu (cU _ _ hpp))⟩
    · refine ⟨_,rfl,.inl ⟨xs,SqL.of (cU _ _ hl),fun w1 hw1=>?_⟩⟩
      generalize e0:upd _ w1 _ = Hv
      have sb:=dQ hw1 e0
      have sV:=sb.1
      have bV:=sb.2
      clear e0 sb
      obtain ⟨y,hy,ey⟩:=jx (xs:=[V.ref y0,.ref y1,.ref y2,.ref y3,.ref y4,.ref y5,.ref y6,.ref y7,.ref y8]) (i:=way - 7) (by omega) (by show way - 7 < ((9:Nat):Int); omega)
      refine .inl ⟨m5,_,_,_,rfl,rfl,SqL.of (sV _ _ bU),ey,by show 1≤sizeLine; decide,fun w2 hw2=>?_⟩
      generalize e0:upd _ w2 _ = Hw
      have sb:=dQ hw2 e0
      have sW:=sb.1
      have bW:=sb.2
      clear e0 sb
      rw [ecut] at bV
      refine ⟨w1,w2,_,_,rfl,rfl,sW _ _ bV,bW,by show (xs.take at_).length + 1≤sizeLine; rw [List.length_take]; omega,fun w3 hw3=>?_⟩
      generalize e0:upd _ w3 _ = Hx
      have sb:=dQ hw3 e0
      have sX:=sb.1
      have bX:=sb.2
      clear e0 sb
      have cX:=cU.trans (sV.trans (sW.trans sX))
      refine ⟨_,rfl,.inl ⟨xs,SqL.of (cX _ _ hl),fun w4 hw4=>?_⟩⟩
      generalize e0:upd _ w4 _ = Hy
      have sb:=dQ hw4 e0
      have sY:=sb.1
      have bY:=sb.2
      clear e0 sb
      have hcl:=fh xs (some ((at_:Int) + 1)) none
      refine ⟨w3,w4,_,_,rfl,rfl,sY _ _ bX,bY,by rw [List.length_append,List.length_take]; show _ + 1 + _≤sizeLine; omega,fun w5 hw5=>?_⟩
      generalize e0:upd _ w5 _ = Hz
      have sb:=dQ hw5 e0
      have sZ:=sb.1
      have bZ:=sb.2
      clear e0 sb
      have cUZ:=(sV.trans (sW.trans sX)).trans (sY.trans sZ)
      have cZ:=cU.trans cUZ
      have cNZ:=(cNT.trans sU).trans cUZ
      have huZ:=hu.tk cZ.tk
      have datZ:=iI huZ hg.each
      have ppZ:=cZ _ _ hpp
      have pc:=vx gu ppZ
      have dn:Dat Hz 1 (.str u.name):=d0s (fw (ee gu.nm))
      have dp:=jw gu ppZ
      have cn:IsC Hz (.str u.name) (.str u.name):=.str u.name (eP gu.nm)
      have cSZ:=(sT.trans sU).trans cUZ
      have cLM:=sM.trans sN
      have f0:=cNZ _ _ ((((((((sE.trans sF).trans sG).trans sI).trans sJ).trans sK).trans sL).trans cLM) _ _ bD)
      have f1:=cNZ _ _ (((((((sF.trans sG).trans sI).trans sJ).trans sK).trans sL).trans cLM) _ _ bE)
      have f2:=cNZ _ _ ((((((sG.trans sI).trans sJ).trans sK).trans sL).trans cLM) _ _ bF)
      have f3:=cNZ _ _ (((((sI.trans sJ).trans sK).trans sL).trans cLM) _ _ bG)
      have f4:=cNZ _ _ (((sK.trans sL).trans cLM) _ _ bJ)
      have f5:=cNZ _ _ ((sL.trans cLM) _ _ bK)
      have f6:=cNZ _ _ (cLM _ _ bL)
      have cRZ:=(sS.trans cSZ)
      have f7:=((sQ.trans sR).trans cRZ) _ _ bP
      have g7:=(((sP.trans sQ).trans sR).trans cRZ) _ _ bO
      have f8:=cSZ _ _ bS
      have g8:=cRZ _ _ bR
      rw [e9] at f4
      have ob:OB Hz y:=by
        simp only [List.mem_cons,List.not_mem_nil,or_false] at hy
        rcases hy with rfl | rfl | rfl | rfl | rfl | rfl | rfl | rfl | rfl
        · refine ⟨.len y0 _ f0 (by simp),.inr ⟨y0,_,rfl,.inr f0,fun y hy=>?_⟩⟩
          simp only [List.mem_cons,List.not_mem_nil,or_false] at hy
          rcases hy with rfl | rfl | rfl
          · exact dn
          · exact d0i _
          · exact d0i _
        · exact fg f1 (.str _ (by decide +kernel)) (.int _) (.int _) pc (nmF (by decide +kernel)) (d0s (by decide +kernel)) (d0i _) (d0i _) dp
        · exact fg f2 (.str _ (by decide +kernel)) (.int _) (.int _) pc (nmF (by decide +kernel)) (d0s (by decide +kernel)) (d0i _) (d0i _) dp
        · exact fg f3 cn (.bl true) (.int _) pc (Bool.and_false _) dn (Dat.of0 (.inr (.inl ⟨true,rfl⟩))) (d0i _) dp
        · exact fg f4 cn (.int _) (.int _) pc (by rw [show clW (-1000000000) 1000000000 (.int (1000000000 + 1 + far)) = false from decide_eq_false (by omega)]; exact Bool.and_false _) dn (d0i _) (d0i _) dp
        · exact fg f5 cn (.int _) (.int _) pc (by rw [show clW 1 1000000 (.int (0 - far)) = false from decide_eq_false (by omega),Bool.false_and,Bool.and_false,Bool.and_false]) dn (d0i _) (d0i _) dp
        · exact fg f6 cn (.int _) (.str _ (by decide +kernel)) pc (by rw [show clW 1 1000000 (.str "1") = false from rfl,Bool.false_and,Bool.and_false,Bool.and_false]) dn (d0i _) (d0s (by decide +kernel)) dp
        · exact fg f7 cn (.int _) (.int _) (.no _ _ (.lst z1 _ g7) fun ys z=>by cases z) (by rw [Bool.and_false,Bool.and_false,Bool.and_false]) dn (d0i _) (d0i _) (.inr ⟨z1,_,rfl,.inl g7,ji fun t ht=>fw (ee (gu.pn t ht))⟩)
        · have pw:PathC Hz (.ref z3) false:=by
            have h:=PathC.tup (H:=Hz) z3 _ (u.path.map Cl.str ++ [Cl.str "a1"]) g8 (by rw [List.length_append,List.length_map]; show _ + 1≤1000; have:=gu.pl; omega) (kX (iw fun t ht=>eP (gu.pn t ht)) (.cons (.str _ (by decide +kernel)) .nil))
            have e:(u.path.map Cl.str ++ [Cl.str "a1"]).all clN = false:=by
              rw [List.all_append,show ([Cl.str "a1"]:List Cl).all clN = false by decide +kernel,Bool.and_false]
            rw [e,Bool.and_false] at h
            exact h
          refine fg f8 cn (.int _) (.int _) pw (by rw [Bool.and_false,Bool.and_false,Bool.and_false]) dn (d0i _) (d0i _) (.inr ⟨z3,_,rfl,.inr g8,fun y hy=>?_⟩)
          rcases List.mem_append.mp hy with h | h
          · exact ji (fun t ht=>fw (ee (gu.pn t ht))) y h
          · rw [List.mem_singleton.mp h]; exact d0s (by decide +kernel)
      refine q _ _ cZ (ng huZ hg (Nat.le_of_lt hat) (by omega) bZ (.unit ob.un)) (.inr (.inr (.inr ⟨w5,_,rfl,bZ,?_,fun y' hy'=>?_⟩)))
      · rw [List.length_append,List.length_append,List.length_take]; show _ + 1 + _≤1000; omega
      · rcases List.mem_append.mp hy' with h | h
        · rcases List.mem_append.mp h with h | h
          · exact datZ y' (List.mem_of_mem_take h)
          · rw [List.mem_singleton.mp h]; exact ob.da
        · exact datZ y' (lJ h)
end
end My
namespace My
open PySem L2 FrM
def oB:Sp:=fun vs H Q _=>∃ (i lo hi:Int),vs = [.int i,.int lo,.int hi]∧lo≤i∧i≤hi∧Q .non H
def rL (a:Ad):Sp:=fun vs H Q _=>∃ (x dx:Addr) (m:Nat),vs = [.ref x,.int (m:Nat)]∧H x = some (.ins a.c_Few dx [])∧m≤24∧Q .non (upd H x (.ins a.c_Few dx [("many",.int (m:Nat))]))
def kM (a:Ad):Sp:=fun vs H Q _=>∃ (x dx:Addr) (v:V),vs = [.ref x,v]∧H x = some (.ins a.c_Each dx [])∧Q .non (upd H x (.ins a.c_Each dx [("inside",v)]))
def lX (a:Ad):Sp:=fun vs H Q _=>∃ (x dx:Addr) (u v:V),vs = [.ref x,u,v]∧H x = some (.ins a.c_First dx [])∧Q .non (upd H x (.ins a.c_First dx [("outside",u),("inside",v)]))
def nM (a:Ad):Sp:=fun vs H Q _=>∃ (v:V) (j k:Nat),vs = [v,.int (k:Nat)]∧IsPl a H j v∧k≤3∧∀ H' v',Same H H'→IsPl a H' (j + k) v'→Q v' H'
def qN (a:Ad):Sp:=fun vs H Q _=>∃ (lev many:Nat) (way:Int),vs = [.int (lev:Nat),.int way,.int (many:Nat)]∧lev≤2∧many≤3∧0≤way∧way≤3∧∀ H' v,Same H H'→((way = 0∧IsPl a H' lev v)∨(way≠0∧BadPl a H' lev v))→Q v H'
theorem jt {a:Ad} {H:Hp}:∀ {n:Nat} {v:V},IsPl a H (n + 1) v→BadPl a H n v
  | 0,_,⟨x,dx,w,e,h,_⟩=>e ▸ .each0 x dx w h
  | n + 1,_,⟨x,dx,w,e,h,h'⟩=>e ▸ .each n x dx w h (jt h')
theorem gX {H:Hp} {x dx c:Addr} {fs:List (Str×V)} (hx:H x = none) (hd:H dx = none):Same H (upd (upd (upd H dx (.own x)) x (.ins c dx [])) x (.ins c dx fs))∧(upd (upd (upd H dx (.own x)) x (.ins c dx [])) x (.ins c dx fs)) x = some (.ins c dx fs):=by
  refine ⟨fun b o e=>?_,af⟩
  rw [ao (ay e hx),ao (ay e hx),ao (ay e hd)]
  exact e
section
variable {P:Program} {w:World} {K:PySem.W.Frag} {mg:Str→Option Value} {base:Heap} {a:Ad}
theorem qU (T:Txt K mg a):FnOk P w K mg base CX0 2 a.f_need_number a.d_need_number ["thing", "low", "high"] oB:=by
  have G_is_whole:FnOk P w K mg base CX0 1 _ _ _ kJ:=lq T
  refine T.F_need_number.ok jq (fun vs H Q E h=>?_) (fun cdv A outer s H vs Q E hr h=>?_)
  · obtain ⟨i,lo,hi,rfl,_⟩:=h; rfl
  · obtain ⟨i,lo,hi,rfl,h1,h2,q⟩:=h
    refine ⟨_,(ak (bu (fk (gg (am G_is_whole hr rfl T.m_is_whole T.F_is_whole.kp T.B_is_whole .nil ar (aa (vr 0) (aa (vr 1) (aa (vr 2) ae)))))) (ak lW) aM)),?_⟩
    refine ⟨_,.int i,lo,hi,rfl,.int i,?_⟩
    rw [show clW lo hi (.int i) = true from decide_eq_true (And.intro h1 h2)]
    exact q
theorem vn (T:Txt K mg a):FnOk P w K mg base CX0 3 a.i_Few a.e_Few ["self", "many"] (rL a):=by
  have G_need_number:FnOk P w K mg base CX0 2 _ _ _ oB:=qU T
  refine T.Fi_Few.ok i5 (fun vs H Q E h=>?_) (fun cdv A outer s H vs Q E hr h=>?_)
  · obtain ⟨x,dx,m,rfl,_⟩:=h; rfl
  · obtain ⟨x,dx,m,rfl,hx,hm,q⟩:=h
    refine ⟨_,(aj (dF (am G_need_number hr rfl T.m_need_number T.F_need_number.kp T.B_need_number .nil ar (aa (vr 1) (aa ai (aa (eI rfl T.g_MOST_MANY) ae))))) (ak (kr (vr 0) (vr 1) rfl))),?_⟩
    refine ⟨_,0,24,rfl,by omega,by omega,?_⟩
    exact ⟨x,a.c_Few,dx,[],rfl,hx,T.cl_Few,T.na_Few_many,(by decide),q⟩
theorem on (T:Txt K mg a):FnOk P w K mg base CX0 1 a.i_Each a.e_Each ["self", "inside"] (kM a):=by
  refine T.Fi_Each.ok iM (fun vs H Q E h=>?_) (fun cdv A outer s H vs Q E hr h=>?_)
  · obtain ⟨x,dx,v,rfl,_⟩:=h; rfl
  · obtain ⟨x,dx,v,rfl,hx,q⟩:=h
    refine ⟨_,(ak (kr (vr 0) (vr 1) rfl)),?_⟩
    exact ⟨x,_,dx,_,rfl,hx,T.cl_Each,T.na_Each_inside,by decide,q⟩
theorem rC (T:Txt K mg a):FnOk P w K mg base CX0 1 a.i_First a.e_First ["self", "outside", "inside"] (lX a):=by
  refine T.Fi_First.ok ip (fun vs H Q E h=>?_) (fun cdv A outer s H vs Q E hr h=>?_)
  · obtain ⟨x,dx,v,u,rfl,_⟩:=h; rfl
  · obtain ⟨x,dx,v,u,rfl,hx,q⟩:=h
    refine ⟨_,(aj (kr (vr 0) (vr 1) rfl) (ak (kr (vr 0) (vr 2) rfl))),?_⟩
    refine ⟨x,_,dx,_,rfl,hx,T.cl_First,T.na_First_outside,by decide,?_⟩
    refine ⟨x,_,dx,_,rfl,af,T.cl_First,T.na_First_inside,(show 1 < 1000 by decide),?_⟩
    rw [i7]
    exact q
theorem ss (T:Txt K mg a):FnOk P w K mg base CX0 3 a.f_L_each a.d_L_each ["_law_plan", "_law_many"] (nM a):=by
  have G_Each:FnOk P w K mg base CX0 1 _ _ _ (kM a):=on T
  refine T.F_L_each.ok sc_L_each (fun vs H Q E h=>?_) (fun cdv A outer s H vs Q E hr h=>?_)
  · obtain ⟨v,j,k,rfl,_⟩:=h; rfl
  · obtain ⟨v,j,k,rfl,hp,hk,q⟩:=h
    have small:sizeLine = 16777216:=sizeLine_eq
    refine ⟨_,(aj (d7 PassesOwn.never rfl (dX rfl T.z_range (aa (vr 1) ae)) (aw (i:=2) sc_L_each.nd rfl (Or.inl rfl)) (ak (az (i:=0) sc_L_each.nd rfl (Or.inl rfl) (eh T.mk_Each G_Each hr rfl T.mc_Each T.Bi_Each .nil ar (aa (vr 0) ae))))) (ak (aq (vr 0)))),?_⟩
    refine ⟨(k:Int),rfl,by omega,by omega,fH (fun i σ H'=>Same H H'∧∃ (v':V) (x2:Option V),σ = [some v',some (.int (k:Nat)),x2]∧IsPl a H' (j + i) v') ⟨Same.refl H,v,none,rfl,hp⟩ ?_ ?_⟩
    · rintro i σ H1 hi ⟨s1,v1,x2,rfl,hp1⟩
      intro x dx hx hdx hne
      refine ⟨x,dx,v1,rfl,af,rfl,?_⟩
      obtain ⟨s2,e2⟩:=gX (c:=a.c_Each) (fs:=[("inside",v1)]) hx hdx
      exact ⟨s1.trans s2,_,_,rfl,x,dx,v1,rfl,e2,hp1.t s2.t⟩
    · rintro σ H1 ⟨s1,v1,x2,rfl,hp1⟩
      exact q _ _ s1 hp1
theorem um (T:Txt K mg a):FnOk P w K mg base CX0 5 a.f_L_plan_of a.d_L_plan_of ["_law_levels", "_law_way", "_law_many"] (qN a):=by
  have G_L_each:FnOk P w K mg base CX0 4 _ _ _ (nM a):=(ss T).mono (by decide)
  have G_Few:FnOk P w K mg base CX0 3 _ _ _ (rL a):=vn T
  have G_Each:FnOk P w K mg base CX0 3 _ _ _ (kM a):=(on T).mono (by decide)
  have G_First:FnOk P w K mg base CX0 3 _ _ _ (lX a):=(rC T).mono (by decide)
  refine T.F_L_plan_of.ok ky (fun vs H Q E h=>?_) (fun cdv A outer s H vs Q E hr h=>?_)
  · obtain ⟨lev,many,way,rfl,_⟩:=h; rfl
  · obtain ⟨lev,many,way,rfl,l2,m3,w0,w3,q⟩:=h
    refine ⟨_,(aj (bu (bz fA (vr 1) ai (aT _)) (ak (aq (am G_L_each hr rfl T.m_L_each T.F_L_each.kp T.B_L_each .nil ar (aa (eh T.mk_Few G_Few hr rfl T.mc_Few T.Bi_Few .nil ar (aa (vr 2) ae)) (aa (vr 0) ae))))) aM) (aj (bu (bz fA (vr 1) ai (aT _)) (ak (aq (am G_L_each hr rfl T.m_L_each T.F_L_each.kp T.B_L_each .nil ar (aa (eh T.mk_Few G_Few hr rfl T.mc_Few T.Bi_Few .nil ar (aa (vr 2) ae)) (aa (av eR (vr 0) ai) ae))))) aM) (aj (bu (bz fA (vr 1) ai (aT _)) (ak (aq (eh T.mk_First G_First hr rfl T.mc_First T.Bi_First .nil ar (aa (eh T.mk_Each G_Each hr rfl T.mc_Each T.Bi_Each .nil ar (aa (eh T.mk_Few G_Few hr rfl T.mc_Few T.Bi_Few .nil ar (aa (vr 2) ae)) ae)) (aa (am G_L_each hr rfl T.m_L_each T.F_L_each.kp T.B_L_each .nil ar (aa (eh T.mk_Few G_Few hr rfl T.mc_Few T.Bi_Few .nil ar (aa (vr 2) ae)) (aa (aB (pW rfl) rfl T.z_max wc (aa ai (aa (av fj (vr 0) ai) ae))) ae))) ae))))) aM) (ak (aq (eh T.mk_First G_First hr rfl T.mc_First T.Bi_First .nil ar (aa (eh T.mk_Few G_Few hr rfl T.mc_Few T.Bi_Few .nil ar (aa (vr 2) ae)) (aa (am G_L_each hr rfl T.m_L_each T.F_L_each.kp T.B_L_each .nil ar (aa (eh T.mk_Few G_Few hr rfl T.mc_Few T.Bi_Few .nil ar (aa (vr 2) ae)) (aa (vr 0) ae))) ae)))))))),?_⟩
    have lv:∀ {H':Hp} {v:V},IsPl a H' (0 + lev) v→IsPl a H' lev v:=fun h=>by rwa [Nat.zero_add] at h
    refine ifC (fun c=>?_) fun c=>ifC (fun c=>?_) fun c=>ifC (fun c=>?_) fun c=>?_
    · intro x dx hx hdx hne
      refine ⟨x,dx,many,rfl,af,by omega,rfl,?_⟩
      obtain ⟨s1,e1⟩:=gX (c:=a.c_Few) (fs:=[("many",.int (many:Nat))]) hx hdx
      exact ⟨_,0,lev,rfl,⟨x,dx,many,rfl,e1⟩,by omega,fun H2 v2 s2 p2=>q _ _ (s1.trans s2) (.inl ⟨by omega,lv p2⟩)⟩
    · intro x dx hx hdx hne
      refine ⟨x,dx,many,rfl,af,by omega,rfl,?_⟩
      obtain ⟨s1,e1⟩:=gX (c:=a.c_Few) (fs:=[("many",.int (many:Nat))]) hx hdx
      exact ⟨_,0,lev + 1,rfl,⟨x,dx,many,rfl,e1⟩,by omega,fun H2 v2 s2 p2=>q _ _ (s1.trans s2) (.inr ⟨by omega,jt (by rwa [Nat.zero_add] at p2)⟩)⟩
    · intro x dx hx hdx hne
      refine ⟨x,dx,many,rfl,af,by omega,rfl,?_⟩
      obtain ⟨s1,e1⟩:=gX (c:=a.c_Few) (fs:=[("many",.int (many:Nat))]) hx hdx
      generalize upd _ x _ = H1 at s1 e1
      intro y dy hy hdy hne2
      refine ⟨y,dy,_,rfl,af,rfl,?_⟩
      obtain ⟨s2,e2⟩:=gX (c:=a.c_Each) (fs:=[("inside",.ref x)]) hy hdy
      generalize upd _ y _ = H2 at s2 e2
      intro f df hf hdf hne3
      refine ⟨f,df,many,rfl,af,by omega,rfl,?_⟩
      obtain ⟨s3,e3⟩:=gX (c:=a.c_Few) (fs:=[("many",.int (many:Nat))]) hf hdf
      generalize upd _ f _ = H3 at s3 e3
      refine ⟨_,_,rfl,?_⟩
      have em:(if ((lev:Int) - 1 > 0) then (lev:Int) - 1 else 0) = ((lev - 1:Nat):Int):=by split <;> omega
      refine ⟨_,0,lev - 1,by rw [← em]; rfl,⟨f,df,many,rfl,e3⟩,by omega,fun H4 v4 s4 p4=>?_⟩
      intro z dz hz hdz hne4
      refine ⟨z,dz,_,_,rfl,af,rfl,?_⟩
      obtain ⟨s5,e5⟩:=gX (c:=a.c_First) (fs:=[("outside",.ref y),("inside",v4)]) hz hdz
      generalize upd _ z _ = H5 at s5 e5
      refine q _ _ ((((s1.trans s2).trans s3).trans s4).trans s5) (.inr ⟨by omega,?_⟩)
      cases lev with
      | zero=>exact .first0 z dz _ _ e5
      | succ n=>exact .firstO n z dz _ _ e5 (.each0 y dy _ (((s3.trans s4).trans s5) _ _ e2))
    · intro x dx hx hdx hne
      refine ⟨x,dx,many,rfl,af,by omega,rfl,?_⟩
      obtain ⟨s1,e1⟩:=gX (c:=a.c_Few) (fs:=[("many",.int (many:Nat))]) hx hdx
      generalize upd _ x _ = H1 at s1 e1
      intro y dy hy hdy hne2
      refine ⟨y,dy,many,rfl,af,by omega,rfl,?_⟩
      obtain ⟨s2,e2⟩:=gX (c:=a.c_Few) (fs:=[("many",.int (many:Nat))]) hy hdy
      generalize upd _ y _ = H2 at s2 e2
      refine ⟨_,0,lev,rfl,⟨y,dy,many,rfl,e2⟩,by omega,fun H3 v3 s3 p3=>?_⟩
      intro z dz hz hdz hne3
      refine ⟨z,dz,_,_,rfl,af,rfl,?_⟩
      obtain ⟨s4,e4⟩:=gX (c:=a.c_First) (fs:=[("outside",.ref x),("inside",v3)]) hz hdz
      generalize upd _ z _ = H4 at s4 e4
      refine q _ _ (((s1.trans s2).trans s3).trans s4) (.inr ⟨by omega,?_⟩)
      have p4:=(lv p3).t s4.t
      cases lev with
      | zero=>exact .first0 z dz _ _ e4
      | succ n=>exact .firstI n z dz _ _ e4 ⟨x,dx,many,rfl,((s2.trans s3).trans s4) _ _ e1⟩ (jt p4)
end
end My
namespace My
open PySem L2 FrM
def CallIn (a:Ad) (way:Int) (x v:V) (H:Hp) (Q:VK) (E:XK):Prop:=TabsOk (tabs a) H ∧
  ((∃ (l:Addr) (us:List U) (xs:List V) (lev:Nat),x = .ref l∧H l = some (.lst xs)∧AllU H us xs∧GoodL us∧us.length≤5∧(∀ u ∈ us,u.path.length = lev)∧lev≤2∧(((IsPl a H lev v∨way = 7)∧(∀ H' z,SameT H H'→TabsOk (tabs a) H'→Q z H')∧(way = 4→∀ dct H',SameT H H'→TabsOk (tabs a) H'→E (.ref a.c_NoSpread) dct H'))∨(BadPl a H lev v∧way≠7∧ia a.c_NoLevel H E))) ∨
   (BadL H x∧ia a.c_NoUnits H E))
def qe (a:Ad):Sp:=fun vs H Q E=>∃ way x v,vs = [.int way,x,v]∧0≤way∧way≤7∧CallIn a way x v H Q E
theorem hW {a:Ad} {way:Int} {x v:V} {H:Hp} {Q Q':VK} {E:XK} {sp:Bool} (h:CallIn a way x v H Q E) (n:way≠7) (hs:sp = true→way = 4) (hq:∀ z H',Q z H'→Q' z H'):Inp a sp x v H Q' E:=by
  obtain ⟨hT,h⟩:=h
  refine ⟨hT,?_⟩
  rcases h with ⟨l,us,xs,lev,rfl,hl,hu,hg,h5,hlev,hl2,h⟩ | h
  · refine .inl ⟨l,us,xs,lev,rfl,hl,hu,hg,h5,hlev,hl2,?_⟩
    rcases h with ⟨hp,q,qs⟩ | ⟨hb,_,q⟩
    · rcases hp with hp | z
      · exact .inl ⟨hp,fun H' z t hT'=>hq z H' (q H' z t hT'),fun e=>qs (hs e)⟩
      · exact absurd z n
    · exact .inr ⟨hb,q⟩
  · exact .inr h
theorem IsC.t {H H':Hp} {x:V} {c:Cl} (s:SameT H H') (h:IsC H x c):IsC H' x c:=by
  cases h with
  | int i=>exact .int i
  | str t h=>exact .str t h
  | tup p xs e=>exact .tup p xs (s.at e)
  | bl b=>exact .bl b
  | non=>exact .non
  | lst p xs e=>exact .lst p xs (s.at e)
  | dK p kvs e=>exact .dK p kvs (s.at e)
theorem AllC.t {H H':Hp} (s:SameT H H'):∀ {cs:List Cl} {xs:List V},AllC H cs xs→AllC H' cs xs
  | _,_,.nil=>.nil
  | _,_,.cons r t=>.cons (r.t s) (AllC.t s t)
theorem PathC.t {H H':Hp} {x:V} {b:Bool} (s:SameT H H') (h:PathC H x b):PathC H' x b:=by
  cases h with
  | no _ c h n=>exact .no _ c (h.t s) n
  | tup p xs cs e z h=>exact .tup p xs cs (s.at e) z (AllC.t s h)
theorem UnitC.t {H H':Hp} {x:V} {b:Bool} (s:SameT H H') (h:UnitC H x b):UnitC H' x b:=by
  cases h with
  | no _ c h n=>exact .no _ c (h.t s) n
  | len p xs e n=>exact .len p xs (s.at e) n
  | four p v0 v1 v2 v3 c0 c1 c2 b3 e h0 h1 h2 h3=>exact .four p v0 v1 v2 v3 c0 c1 c2 b3 (s.at e) (h0.t s) (h1.t s) (h2.t s) (h3.t s)
theorem NoLen.t {H H':Hp} {x:V} (s:SameT H H') (h:NoLen H x):NoLen H' x:=by
  cases h with
  | no _ c h n =>
    refine .no _ c (h.t s) fun p xs e=>?_
    subst e
    cases h with
    | tup _ ys e=>intro z; rw [s.at e] at z; cases z
    | lst _ ys e=>exact absurd e (n p ys rfl)
    | dK _ ys e=>intro z; rw [s.at e] at z; cases z
  | len p xs e n=>exact .len p xs (s.at e) n
theorem BadL.t {H H':Hp} {x:V} (s:SameT H H') (h:BadL H x):BadL H' x:=by
  rcases h.ex with h | ⟨l,xs,i,us,y,rfl,hl,g1,g2,hy,hu,pre,bad⟩
  · exact ⟨.inl (h.t s)⟩
  · refine ⟨.inr ⟨l,xs,i,us,y,rfl,s.at hl,g1,g2,hy,hu.tk (SameT.tk s),pre,?_⟩⟩
    cases bad with
    | unit h=>exact .unit (h.t s)
    | name u h g n=>exact .name u (h.tk (SameT.tk s)) g n
    | path u h g n=>exact .path u (h.tk (SameT.tk s)) g n
theorem CallIn.same {a:Ad} {way:Int} {x v:V} {H H1:Hp} {Q:VK} {E:XK} (s:Same H H1) (h:CallIn a way x v H Q E):CallIn a way x v H1 Q E:=by
  obtain ⟨hT,h⟩:=h
  refine ⟨hT.same s,?_⟩
  rcases h with ⟨l,us,xs,lev,rfl,hl,hu,hg,h5,hlev,hl2,h⟩ | ⟨hb,q⟩
  · refine .inl ⟨l,us,xs,lev,rfl,s _ _ hl,hu.tk s.tk,hg,h5,hlev,hl2,?_⟩
    rcases h with ⟨hp,q,qs⟩ | ⟨hb,n,q⟩
    · exact .inl ⟨hp.imp (fun h=>h.t s.t) id,fun H' z t=>q H' z (s.t.trans t),fun e dct H' t=>qs e dct H' (s.t.trans t)⟩
    · exact .inr ⟨hb.t s.t,n,fun H' s'=>q H' (s.trans s')⟩
  · exact .inr ⟨hb.t s.t,fun H' s'=>q H' (s.trans s')⟩
def qx (a:Ad) (way:Int) (x v:V) (H:Hp) (Q:VK):Prop:=TabsOk (tabs a) H ∧
  ((∃ (l:Addr) (us:List U) (xs:List V) (lev:Nat),x = .ref l∧H l = some (.lst xs)∧AllU H us xs∧GoodL us∧us.length≤5∧(∀ u ∈ us,u.path.length = lev)∧lev≤2∧(((IsPl a H lev v∨way = 7)∧(∀ H',SameT H H'→TabsOk (tabs a) H'→Q (.str "told") H')∧(way = 4→∀ H',SameT H H'→TabsOk (tabs a) H'→Q (.str "spread") H'))∨(BadPl a H lev v∧way≠7∧∀ H',SameT H H'→TabsOk (tabs a) H'→Q (.str "level") H'))) ∨
   (BadL H x∧∀ H',SameT H H'→TabsOk (tabs a) H'→Q (.str "units") H'))
def rD (a:Ad):Sp:=fun vs H Q _=>∃ way x v,vs = [.int way,x,v]∧0≤way∧way≤7∧qx a way x v H Q
def zi (a:Ad) (D:Addr) (nm:Str):Prop:=(D = a.c_NoUnits∧nm = "units")∨(D = a.c_NoLevel∧nm = "level")∨(D = a.c_NoSpread∧nm = "spread")
theorem oY {a:Ad} {way:Int} {x v:V} {H:Hp} {Q Q':VK} {E':XK} (h:qx a way x v H Q) (hq:∀ H' z,SameT H H'→TabsOk (tabs a) H'→Q (.str "told") H'→Q' z H')
    (he:∀ D nm dct H',zi a D nm→SameT H H'→TabsOk (tabs a) H'→(∀ H2,SameT H' H2→TabsOk (tabs a) H2→Q (.str nm) H2)→E' (.ref D) dct H'):CallIn a way x v H Q' E':=by
  obtain ⟨hT,h⟩:=h
  refine ⟨hT,?_⟩
  rcases h with ⟨l,us,xs,lev,rfl,hl,hu,hg,h5,hlev,hl2,h⟩ | ⟨hb,q⟩
  · refine .inl ⟨l,us,xs,lev,rfl,hl,hu,hg,h5,hlev,hl2,?_⟩
    rcases h with ⟨hp,q,qs⟩ | ⟨hb,n,q⟩
    · exact .inl ⟨hp,fun H' z t hT'=>hq H' z t hT' (q H' t hT'),fun e dct H' t hT'=>he _ _ dct H' (.inr (.inr ⟨rfl,rfl⟩)) t hT' fun H2 t2 hT2=>qs e H2 (t.trans t2) hT2⟩
    · exact .inr ⟨hb,n,fun H' s=>he _ _ _ H' (.inr (.inl ⟨rfl,rfl⟩)) s.t (hT.same s) fun H2 t2 hT2=>q H2 (s.t.trans t2) hT2⟩
  · exact .inr ⟨hb,fun H' s=>he _ _ _ H' (.inl ⟨rfl,rfl⟩) s.t (hT.same s) fun H2 t2 hT2=>q H2 (s.t.trans t2) hT2⟩
section
variable {P:Program} {w:World} {K:PySem.W.Frag} {mg:Str→Option Value} {base:Heap} {a:Ad}
theorem t9 (T:Txt K mg a) (hB:Bm mg base):FnOk P w K mg base (CXG P w) 15 a.f_L_call a.d_L_call ["_law_way", "_law_units_here", "_law_plan"] (qe a):=by
  have G_chances:FnOk P w K mg base (CXG P w) 14 _ _ _ (kQ a K):=(jz T hB).mono (by decide)
  have G_mean_told:FnOk P w K mg base (CXG P w) 14 _ _ _ (kW a):=xk T hB
  have G_sum_told:FnOk P w K mg base (CXG P w) 14 _ _ _ (ny a (.lst []) false):=wO T hB
  have G_spread:FnOk P w K mg base (CXG P w) 14 _ _ _ (kW a):=wt T hB
  have G_spread_told:FnOk P w K mg base (CXG P w) 14 _ _ _ (ny a (.tup []) true):=vM T hB
  have G_hidden:FnOk P w K mg base (CXG P w) 14 _ _ _ (kW a):=vV T hB
  have G_unspoken:FnOk P w K mg base (CXG P w) 14 _ _ _ (kW a):=vF T hB
  have G_true_sum:FnOk P w K mg base (CXG P w) 14 _ _ _ (wE a):=xE T
  refine T.F_L_call.okG pk (fun vs H Q E h=>?_) (fun cdv A outer s H vs Q E hr h=>?_)
  · obtain ⟨way,x,v,rfl,_⟩:=h; rfl
  · obtain ⟨way,x,v,rfl,w0,w7,h⟩:=h
    refine ⟨_,(aj (bu (bz fA (vr 0) ai (aT _)) (ak (aq (am G_chances hr rfl T.m_chances T.F_chances.kp T.B_chances .nil cm (aa (vr 1) (aa (vr 2) ae))))) aM) (aj (bu (bz fA (vr 0) ai (aT _)) (ak (aq (am G_mean_told hr rfl T.m_mean_told T.F_mean_told.kp T.B_mean_told .nil cm (aa (vr 1) (aa (vr 2) ae))))) aM) (aj (bu (bz fA (vr 0) ai (aT _)) (ak (aq (am G_sum_told hr rfl T.m_sum_told T.F_sum_told.kp T.B_sum_told .nil cm (aa (vr 1) (aa (vr 2) (aa (dc ae) ae)))))) aM) (aj (bu (bz fA (vr 0) ai (aT _)) (ak (aq (am G_spread hr rfl T.m_spread T.F_spread.kp T.B_spread .nil cm (aa (vr 1) (aa (vr 2) ae))))) aM) (aj (bu (bz fA (vr 0) ai (aT _)) (ak (aq (am G_spread_told hr rfl T.m_spread_told T.F_spread_told.kp T.B_spread_told .nil cm (aa (vr 1) (aa (vr 2) (aa (bw ae) ae)))))) aM) (aj (bu (bz fA (vr 0) ai (aT _)) (ak (aq (am G_hidden hr rfl T.m_hidden T.F_hidden.kp T.B_hidden .nil cm (aa (vr 1) (aa (vr 2) ae))))) aM) (aj (bu (bz fA (vr 0) ai (aT _)) (ak (aq (am G_unspoken hr rfl T.m_unspoken T.F_unspoken.kp T.B_unspoken .nil cm (aa (vr 1) (aa (vr 2) ae))))) aM) (ak (aq (am G_true_sum hr rfl T.m_true_sum T.F_true_sum.kp T.B_true_sum .nil cm (aa (vr 1) ae))))))))))),?_⟩
    refine ifC (fun c=>?_) fun c0=>ifC (fun c=>?_) fun c1=>ifC (fun c=>?_) fun c2=>ifC (fun c=>?_) fun c3=>ifC (fun c=>?_) fun c4=>ifC (fun c=>?_) fun c5=>ifC (fun c=>?_) fun c6=>?_
    · have hi:Inp a false x v H Q E:=hW h (by omega) (fun z=>by cases z) fun z H' q=>q
      exact ⟨x,v,rfl,h.1,jG hi fun l us xs H1 r ex hl hu hg h5 t1 hT1 hM q qs=>q _ _ SameT.refl hT1⟩
    · exact ⟨x,v,rfl,hW h (by omega) (fun z=>by cases z) fun z H' q=>q⟩
    · refine ⟨Nat.zero_le _,fun k hk=>?_⟩
      have s1:=Same.new (o:=.lst []) hk
      exact ⟨x,v,k,rfl,af,hW (h.same s1) (by omega) (fun z=>by cases z) fun z H' q=>q⟩
    · exact ⟨x,v,rfl,hW h (by omega) (fun z=>by cases z) fun z H' q=>q⟩
    · refine ⟨Nat.zero_le _,fun k hk=>?_⟩
      have s1:=Same.new (o:=.tup []) hk
      exact ⟨x,v,k,rfl,af,hW (h.same s1) (by omega) (fun _=>c) fun z H' q=>q⟩
    · exact ⟨x,v,rfl,hW h (by omega) (fun z=>by cases z) fun z H' q=>q⟩
    · exact ⟨x,v,rfl,hW h (by omega) (fun z=>by cases z) fun z H' q=>q⟩
    · have e7:way = 7:=by omega
      obtain ⟨hT,h⟩:=h
      refine ⟨x,rfl,?_⟩
      rcases h with ⟨l,us,xs,lev,rfl,hl,hu,hg,h5,hlev,hl2,h⟩ | h
      · rcases h with ⟨_,q,_⟩ | ⟨_,n,_⟩
        · exact .inl ⟨l,us,xs,rfl,hl,hu,hg,fun H' z s'=>q _ _ s'.t (hT.same s')⟩
        · exact absurd e7 n
      · exact .inr h
theorem tD (T:Txt K mg a) (hB:Bm mg base):FnOk P w K mg base CX0 16 a.f_L_told a.d_L_told ["_law_way", "_law_units_here", "_law_plan"] (rD a):=by
  have G_L_call:FnOk P w K mg base (CXG P w) 15 _ _ _ (qe a):=t9 T hB
  refine T.F_L_told.ok sc_L_told (fun vs H Q E h=>?_) (fun cdv A outer s H vs Q E hr h=>?_)
  · obtain ⟨way,x,v,rfl,_⟩:=h; rfl
  · obtain ⟨way,x,v,rfl,w0,w7,h⟩:=h
    refine ⟨_,(aj (az (i:=3) sc_L_told.nd rfl (Or.inl rfl) dg) (aj (az (i:=4) sc_L_told.nd rfl (Or.inl rfl) fq) (aj (uA ⟨rfl,rfl⟩ G_L_call hr rfl T.m_L_call T.F_L_call.kp T.B_L_call .nil (aa (vr 0) (aa (vr 1) (aa (vr 2) ae))) rfl T.mc_SpeakError T.xh_SpeakError sc_L_told.nd (ie:=5) rfl rfl (fun x=>(ak (az (i:=4) sc_L_told.nd rfl (Or.inl rfl) (vr 5))))) (aj (bu (bz nO (vr 4) fq (aT _)) (aj (az (i:=6) sc_L_told.nd rfl (Or.inl rfl) (dc (aa (aB iq rfl T.z_isinstance aZ (aa (vr 4) (aa (eI rfl T.g_NoUnits) ae))) (aa (aB iq rfl T.z_isinstance aZ (aa (vr 4) (aa (eI rfl T.g_NoLevel) ae))) (aa (aB iq rfl T.z_isinstance aZ (aa (vr 4) (aa (eI rfl T.g_NoSpread) ae))) ae))))) (aj (az (i:=3) sc_L_told.nd rfl (Or.inl rfl) dg) (ak (bu (PW.pt (hV (bz fA (pe_m.count hr.units (vr 6) (aa io ae)) ai (aT _)) (gJ (gg (aB iq rfl T.z_isinstance aZ (aa (vr 4) (aa (fe (v:=.ty "ValueError") rfl T.z_ValueError g9 rfl) ae))))))) (ak (az (i:=3) sc_L_told.nd rfl (Or.inl rfl) (aA au (dc (aa dg (aa dg (aa dg ae)))) (pe_m.indexD hr.units (vr 6) (aa io ae)) (fun _ _=>rfl)))) aM)))) aM) (ak (aq (vr 3))))))),?_⟩
    refine ⟨way,x,v,rfl,w0,w7,oY h (fun H' z t hT q=>?_) fun D nm dct H' kd t hT q=>?_⟩
    · exact q
    · obtain ⟨hm,hc,b1,b2,b3,k1,k2,k3,kv,hb⟩:PySem.W.mroIn K D (.ref a.c_SpeakError) = some true∧XCls K D∧∃ b1 b2 b3,PySem.W.kitOne K (.ref D) (.ref a.c_NoUnits) = some b1∧PySem.W.kitOne K (.ref D) (.ref a.c_NoLevel) = some b2∧PySem.W.kitOne K (.ref D) (.ref a.c_NoSpread) = some b3∧PySem.W.kitOne K (.ref D) (.type "ValueError") = some true ∧
          ((b1 = true∧b2 = false∧b3 = false∧nm = "units")∨(b1 = false∧b2 = true∧b3 = false∧nm = "level")∨(b1 = false∧b2 = false∧b3 = true∧nm = "spread")):=by
        rcases kd with ⟨rfl,rfl⟩ | ⟨rfl,rfl⟩ | ⟨rfl,rfl⟩
        · exact ⟨beq_iff_eq.mp T.mNoUnits,T.xc_NoUnits,_,_,_,T.kNoUnitsNoUnits,T.kNoUnitsNoLevel,T.kNoUnitsNoSpread,T.vNoUnits,.inl ⟨rfl,rfl,rfl,rfl⟩⟩
        · exact ⟨beq_iff_eq.mp T.mNoLevel,T.xc_NoLevel,_,_,_,T.kNoLevelNoUnits,T.kNoLevelNoLevel,T.kNoLevelNoSpread,T.vNoLevel,.inr (.inl ⟨rfl,rfl,rfl,rfl⟩)⟩
        · exact ⟨beq_iff_eq.mp T.mNoSpread,T.xc_NoSpread,_,_,_,T.kNoSpreadNoUnits,T.kNoSpreadNoLevel,T.kNoSpreadNoSpread,T.vNoSpread,.inr (.inr ⟨rfl,rfl,rfl,rfl⟩)⟩
      refine ⟨D,rfl,hm,fun e he=>?_⟩
      have s1:=Same.new (o:=.ext (XCt e D dct)) he
      have e1:=af (H:=H') (a:=e) (o:=.ext (XCt e D dct))
      generalize upd H' e _ = H1 at s1 e1
      have ty:∀ {H2:Hp},Same H1 H2→TyX K H2 (.ref e) (.ref D):=fun s=>.inr ⟨e,D,_,rfl,rfl,hc,s _ _ e1,fun h z=>z.at⟩
      refine ⟨_,_,_,_,rfl,rfl,ty (Same.refl H1),k1,?_⟩
      refine ⟨_,_,_,_,rfl,rfl,ty (Same.refl H1),k2,?_⟩
      refine ⟨_,_,_,_,rfl,rfl,ty (Same.refl H1),k3,?_⟩
      refine ⟨by show 3≤sizeLine; decide,fun l hl=>?_⟩
      have s2:=Same.new (o:=.lst [.bl b1,.bl b2,.bl b3]) hl
      have e2:=af (H:=H1) (a:=l) (o:=.lst [.bl b1,.bl b2,.bl b3])
      generalize upd H1 l _ = H2 at s2 e2
      have dvs:∀ {H3:Hp},DVs K H3 [.bool b1,.bool b2,.bool b3] [.bl b1,.bl b2,.bl b3]:=by simp [DVs,DV]
      refine ⟨.inl ⟨rfl,_,SqL.of e2⟩,l,_,[.bool b1,.bool b2,.bool b3],.bl true,.bool true,rfl,rfl,e2,dvs,by simp [DV],rfl,rfl,by decide,?_⟩
      have hcnt:([.bool b1,.bool b2,.bool b3]:List PyData).countP (fun z=>PyData.eqv z (.bool true)) = 1:=by
        rcases hb with ⟨rfl,rfl,rfl,_⟩ | ⟨rfl,rfl,rfl,_⟩ | ⟨rfl,rfl,rfl,_⟩ <;> decide +kernel
      rw [hcnt]
      refine ⟨_,_,_,_,rfl,rfl,ty s2,kv,?_⟩
      refine ⟨by show 3≤sizeLine; decide,fun l3 hl3=>?_⟩
      have s3:=Same.new (o:=.lst [.str "units",.str "level",.str "spread"]) hl3
      have e3:=af (H:=H2) (a:=l3) (o:=.lst [.str "units",.str "level",.str "spread"])
      generalize upd H2 l3 _ = H3 at s3 e3
      have s13:=s1.trans (s2.trans s3)
      have fin:=q H3 s13.t (hT.same s13)
      have e23:=s3 _ _ e2
      rcases hb with ⟨rfl,rfl,rfl,rfl⟩ | ⟨rfl,rfl,rfl,rfl⟩ | ⟨rfl,rfl,rfl,rfl⟩
      · refine ⟨.inl ⟨rfl,_,SqL.of e23⟩,l,_,_,.bl true,.bool true,0,rfl,rfl,e23,dvs,by simp [DV],rfl,rfl,by decide,by decide,fun z hz=>?_,fun m z hm hz=>?_,.inl ⟨l3,_,_,_,rfl,rfl,SqL.of e3,ax 0 rfl rfl,fin⟩⟩
        · cases hz; decide +kernel
        · omega
      · refine ⟨.inl ⟨rfl,_,SqL.of e23⟩,l,_,_,.bl true,.bool true,1,rfl,rfl,e23,dvs,by simp [DV],rfl,rfl,by decide,by decide,fun z hz=>?_,fun m z hm hz=>?_,.inl ⟨l3,_,_,_,rfl,rfl,SqL.of e3,ax 1 rfl rfl,fin⟩⟩
        · cases hz; decide +kernel
        · obtain rfl:m = 0:=by omega
          cases hz; decide +kernel
      · refine ⟨.inl ⟨rfl,_,SqL.of e23⟩,l,_,_,.bl true,.bool true,2,rfl,rfl,e23,dvs,by simp [DV],rfl,rfl,by decide,by decide,fun z hz=>?_,fun m z hm hz=>?_,.inl ⟨l3,_,_,_,rfl,rfl,SqL.of e3,ax 2 rfl rfl,fin⟩⟩
        · cases hz; decide +kernel
        · have:m = 0∨m = 1:=by omega
          rcases this with rfl | rfl <;> (cases hz; decide +kernel)
end
end My
namespace My
open PySem L2 FrM
theorem rl {a:Ad} {ts:List Addr} {H:Hp} (hts:∀ q ∈ tabs a,q.1 ∈ ts) (h:∀ P ∈ ts,H P = some (.tbl #[])):TabsOk (tabs a) H:=fun q hq=>⟨#[],h _ (hts q hq),trivial,fun _ _=>.inl rfl⟩
def Good (H:Hp) (lev:Nat) (x:V):Prop:=∃ (l:Addr) (us:List U) (xs:List V),x = .ref l∧H l = some (.lst xs)∧AllU H us xs∧GoodL us∧us.length≤5∧∀ u ∈ us,u.path.length = lev
theorem Good.t {H H':Hp} {lev:Nat} {x:V} (s:SameT H H') (h:Good H lev x):Good H' lev x:=by
  obtain ⟨l,us,xs,h1,h2,h3,h4⟩:=h
  exact ⟨l,us,xs,h1,s.at h2,h3.tk (SameT.tk s),h4⟩
def GoB (H:Hp) (lev:Nat) (b:Bool) (x:V):Prop:=(b = true∧Good H lev x)∨(b = false∧BadL H x)
theorem GoB.t {H H':Hp} {lev:Nat} {b:Bool} {x:V} (s:SameT H H') (h:GoB H lev b x):GoB H' lev b x:=h.imp (fun h=>⟨h.1,h.2.t s⟩) fun h=>⟨h.1,h.2.t s⟩
theorem BadL.copy {H:Hp} {p q:Addr} {xs:List V} (h:BadL H (.ref p)) (hp:H p = some (.lst xs)) (hq:H q = some (.lst xs)):BadL H (.ref q):=by
  rcases h.ex with h | ⟨l,ys,i,us,y,e,hl,g⟩
  · cases h with
    | no _ c h n=>exact absurd hp (n p xs rfl)
    | len _ ys e n=>rw [hp] at e; cases e; exact ⟨.inl (.len q xs hq n)⟩
  · cases e
    rw [hp] at hl
    cases hl
    exact ⟨.inr ⟨q,xs,i,us,y,rfl,hq,g⟩⟩
theorem GoB.copy {H:Hp} {p q:Addr} {xs:List V} {lev:Nat} {b:Bool} (h:GoB H lev b (.ref p)) (hp:H p = some (.lst xs)) (hq:H q = some (.lst xs)):GoB H lev b (.ref q):=by
  rcases h with ⟨e,l,us,ys,e2,hl,g⟩ | ⟨e,h⟩
  · cases e2
    rw [hp] at hl
    cases hl
    exact .inl ⟨e,q,us,xs,rfl,hq,g⟩
  · exact .inr ⟨e,h.copy hp hq⟩
theorem xr {K:PySem.W.Frag} {H:Hp} {n:Nat}:∀ {xs:List V},(∀ y ∈ xs,Dat H n y)→∃ ds,DVs K H ds xs∧PyData.canLayAll0 ds = true∧PyData.depthAll ds≤n
  | [],_=>⟨[],by simp [DVs],rfl,Nat.zero_le _⟩
  | y :: ys,h=>by
    obtain ⟨d,a1,a2,a3⟩:=Dat.dv (K:=K) (h y List.mem_cons_self)
    obtain ⟨ds,b1,b2,b3⟩:=xr (K:=K) (xs:=ys) fun z hz=>h z (List.mem_cons_of_mem _ hz)
    refine ⟨d :: ds,by rw [DVs]; exact ⟨_,_,rfl,a1,b1⟩,by rw [PyData.canLayAll0,a2,b2]; rfl,?_⟩
    rw [PyData.depthAll]
    omega
def EqT (H:Hp) (h x:V):Prop:=(∃ p,h = .ref p∧x = .ref p∧H p = some (.dK []))∨(h = x∧Dat H 3 x)∨∃ p q xs,h = .ref p∧x = .ref q∧H p = some (.lst xs)∧H q = some (.lst xs)∧∀ y ∈ xs,Dat H 2 y
theorem EqT.t {H H':Hp} {h x:V} (s:SameT H H') (e:EqT H h x):EqT H' h x:=by
  rcases e with ⟨p,h1,h2,h3⟩ | ⟨h1,h2⟩ | ⟨p,q,xs,h1,h2,h3,h4,h5⟩
  · exact .inl ⟨p,h1,h2,s.at h3⟩
  · exact .inr (.inl ⟨h1,h2.t s⟩)
  · exact .inr (.inr ⟨p,q,xs,h1,h2,s.at h3,s.at h4,fun y hy=>(h5 y hy).t s⟩)
theorem EqT.eq {K:PySem.W.Frag} {H:Hp} {h x:V} {Q:VK} (e:EqT H h x) (q:Q (.bl true) H):rEqD K false h x H Q∨∃ p,h = .ref p∧x = .ref p∧H p = some (.dK [])∧Q (.bl true) H:=by
  rcases e with ⟨p,h1,h2,h3⟩ | ⟨rfl,h2⟩ | ⟨p,r,xs,rfl,rfl,h3,h4,h5⟩
  · exact .inr ⟨p,h1,h2,h3,q⟩
  · obtain ⟨d,d1,d2,d3⟩:=Dat.dv (K:=K) h2
    have hs:SeqAt.shaped d = true:=by unfold SeqAt.shaped; rw [d2,Bool.true_and]; exact decide_eq_true (by omega)
    refine .inl ⟨d,d,d1,d1,hs,hs,?_⟩
    rw [SeqAt.eqv_refl _ d2]
    exact q
  · obtain ⟨ds,b1,b2,b3⟩:=xr (K:=K) h5
    have d2:(PyData.list ds).canLay0 = true:=by rw [PyData.canLay0]; exact b2
    have hs:SeqAt.shaped (.list ds) = true:=by unfold SeqAt.shaped; rw [d2,Bool.true_and]; refine decide_eq_true ?_; rw [PyData.depth]; omega
    refine .inl ⟨.list ds,.list ds,by rw [DV]; exact ⟨p,xs,rfl,SqL.of h3,b1⟩,by rw [DV]; exact ⟨r,xs,rfl,SqL.of h4,b1⟩,hs,hs,?_⟩
    rw [SeqAt.eqv_refl _ d2]
    exact q
def ol (a:Ad):Sp:=fun vs H Q _=>∃ (x:V) (b:Bool) (lev many:Nat) (way:Int),vs = [x,.bl b,.int (lev:Nat),.int way,.int (many:Nat)]∧lev≤2∧many≤3∧0≤way∧way≤3∧TabsOk (tabs a) H∧Odd H x∧GoB H lev b x∧∀ H',SameT H H'→TabsOk (tabs a) H'→Q (.bl true) H'
section
variable {P:Program} {w:World} {K:PySem.W.Frag} {mg:Str→Option Value} {base:Heap} {a:Ad}
theorem qV (T:Txt K mg a) (hB:Bm mg base):FnOk P w K mg base CX0 17 a.f_L_right a.d_L_right ["_law_units_here", "_law_is_listing", "_law_levels", "_law_way", "_law_many"] (ol a):=by
  have G_L_told:FnOk P w K mg base CX0 16 _ _ _ (rD a):=tD T hB
  have G_L_plan_of:FnOk P w K mg base CX0 16 _ _ _ (qN a):=(um T).mono (by decide)
  refine T.F_L_right.ok sc_L_right (fun vs H Q E h=>?_) (fun cdv A outer s H vs Q E hr h=>?_)
  · obtain ⟨x,b,lev,many,way,rfl,_⟩:=h; rfl
  · obtain ⟨x,b,lev,many,way,rfl,l2,m3,w0,w3,hT,ho,hg,q⟩:=h
    refine ⟨_,(aj (az (i:=5) sc_L_right.nd rfl (Or.inl rfl) (vr 0)) (pF (bu (gg (aB eQ rfl T.z_isinstance aZ (aa (vr 0) (aa (fe (v:=.ty "list") rfl T.z_list gL rfl) ae)))) (ak (az (i:=5) sc_L_right.nd rfl (Or.inl rfl) (eK fS rfl T.z_list gL (aa (vr 0) ae)))) aM) (aj (az (i:=6) sc_L_right.nd rfl (Or.inl rfl) (am G_L_plan_of hr rfl T.m_L_plan_of T.F_L_plan_of.kp T.B_L_plan_of .nil ar (aa (vr 2) (aa (vr 3) (aa (vr 4) ae))))) (aj (d7 PassesOwn.never rfl (dX rfl T.z_range (aa ai ae)) (aw (i:=7) sc_L_right.nd rfl (Or.inl rfl)) (aj (az (i:=8) sc_L_right.nd rfl (Or.inl rfl) (am G_L_told hr rfl T.m_L_told T.F_L_told.kp T.B_L_told .nil ar (aa (vr 7) (aa (vr 5) (aa (vr 6) ae))))) (aj (az (i:=9) sc_L_right.nd rfl (Or.inl rfl) dg) (aj (bu (fk (gg (vr 1))) (ak (az (i:=9) sc_L_right.nd rfl (Or.inl rfl) dg)) (ak (bu (PW.pt (hV (bz wG (vr 3) ai (aT _)) (gJ (bz qD (vr 7) ai (aT _))))) (ak (az (i:=9) sc_L_right.nd rfl (Or.inl rfl) dg)) aM))) (ak (bu (PW.pt (hV (bz za (vr 8) (vr 9) (aT _)) (gJ (fk (PW.pt (hV (bz fA (vr 9) dg (aT _)) (hV (bz fA (vr 7) ai (aT _)) (gJ (bz fA (vr 8) dg (aT _)))))))))) (ak (aq io)) aM)))))) (ak (aq (fT (OpR.or2 (r9 hr.units) (ql (Nat.lt_of_le_of_lt (Nat.le_add_right _ _) hr.units))) (vr 5) (vr 0) (aT _)))))))),?_⟩
    refine ⟨fun σ H1=>Same H H1∧∃ h,σ = [some x,some (.bl b),some (.int (lev:Nat)),some (.int way),some (.int (many:Nat)),some h,none,none,none,none]∧GoB H1 lev b h∧EqT H1 h x,?_,?_⟩
    · rcases ho with rfl | ⟨p,rfl,hp⟩ | ⟨p,xs,rfl,hp,hd⟩ | ⟨p,xs,rfl,hp,hl,hd⟩
      · exact ⟨_,_,_,false,rfl,rfl,.non,rfl,Same.refl H,_,rfl,hg,.inr (.inl ⟨rfl,Dat.of0 (.inl rfl)⟩)⟩
      · exact ⟨_,_,_,false,rfl,rfl,.dK hp,rfl,Same.refl H,_,rfl,hg,.inl ⟨p,rfl,rfl,hp⟩⟩
      · exact ⟨_,_,_,false,rfl,rfl,.tup hp,rfl,Same.refl H,_,rfl,hg,.inr (.inl ⟨rfl,.inr ⟨p,xs,rfl,.inr hp,hd⟩⟩)⟩
      · refine ⟨_,_,_,true,rfl,rfl,.lst hp,rfl,p,xs,rfl,.inl (SqL.of hp),fun l hl=>?_⟩
        have s1:=Same.new (o:=.lst xs) hl
        have hp1:=s1 _ _ hp
        exact ⟨s1,_,rfl,(hg.t s1.t).copy hp1 af,.inr (.inr ⟨l,p,xs,rfl,rfl,af,hp1,fun y hy=>(hd y hy).t s1.t⟩)⟩
    rintro σ H1 ⟨s1,h,rfl,hg1,he1⟩
    refine ⟨lev,many,way,rfl,l2,m3,w0,w3,fun H2 v s2 hpl=>?_⟩
    have s12:=s1.trans s2
    have hg2:=hg1.t s2.t
    have he2:=he1.t s2.t
    refine ⟨8,rfl,by decide,by decide,fH (fun i σ H3=>SameT H2 H3∧TabsOk (tabs a) H3∧∃ x7 x8 x9:Option V,σ = [some x,some (.bl b),some (.int (lev:Nat)),some (.int way),some (.int (many:Nat)),some h,some v,x7,x8,x9]) ⟨SameT.refl,hT.same s12,none,none,none,rfl⟩ ?_ ?_⟩
    · rintro i σ H3 hi ⟨t3,hT3,x7,x8,x9,rfl⟩
      have hi8:i < 8:=hi
      refine ⟨_,h,v,rfl,by omega,by omega,hT3,?_⟩
      rcases hg2.t t3 with ⟨rfl,l,us,xs,rfl,hl,hu,hgl,h5,hlev⟩ | ⟨rfl,hb⟩
      · refine .inl ⟨l,us,xs,lev,rfl,hl,hu,hgl,h5,hlev,l2,?_⟩
        rcases hpl with ⟨rfl,hp⟩ | ⟨wn,hp⟩
        · refine .inl ⟨.inl (hp.t t3),fun H4 t4 hT4=>?_,fun e4 H4 t4 hT4=>?_⟩
          · exact ⟨t3.trans t4,hT4,_,_,_,rfl⟩
          · exact ifC (fun _=>⟨t3.trans t4,hT4,_,_,_,rfl⟩) fun c=>by omega
        · by_cases h7:i = 7
          · refine .inl ⟨.inr (by omega),fun H4 t4 hT4=>?_,fun e4=>by omega⟩
            exact ifC (fun c=>ifC (fun c2=>by omega) fun _=>⟨t3.trans t4,hT4,_,_,_,rfl⟩) fun _=>⟨t3.trans t4,hT4,_,_,_,rfl⟩
          · refine .inr ⟨hp.t t3,by omega,fun H4 t4 hT4=>?_⟩
            exact ifC (fun c=>ifC (fun _=>⟨t3.trans t4,hT4,_,_,_,rfl⟩) fun c2=>by omega) fun c=>by omega
      · refine .inr ⟨hb,fun H4 t4 hT4=>?_⟩
        exact ⟨t3.trans t4,hT4,_,_,_,rfl⟩
    · rintro σ H3 ⟨t3,hT3,x7,x8,x9,rfl⟩
      exact (he2.t t3).eq (q _ (s12.t.trans t3) hT3)
end
end My
namespace My
open PySem L2 FrM
section
variable {P:Program} {w:World} {K:PySem.W.Frag} {mg:Str→Option Value} {base:Heap} {a:Ad}
abbrev lawK:Nat:=18
theorem ok_law {ts:List Addr} (T:Txt K mg a) (hB:Bm mg base) (hts:∀ q ∈ tabs a,q.1 ∈ ts):FnOk P w K mg base CX0 lawK a.f_law a.d_law ["_law_script"] (spLaw K ts):=by
  have G_L_cell:FnOk P w K mg base CX0 17 _ _ _ (rJ K):=(ug T).mono (by decide)
  have G_L_digits:FnOk P w K mg base CX0 17 _ _ _ lc:=(oO T).mono (by decide)
  have G_L_take:FnOk P w K mg base CX0 17 _ _ _ mh:=(nz T).mono (by decide)
  have G_L_units:FnOk P w K mg base CX0 17 _ _ _ nX:=(qg T).mono (by decide)
  have G_L_right:FnOk P w K mg base CX0 17 _ _ _ (ol a):=qV T hB
  have G_L_spoilt:FnOk P w K mg base CX0 17 _ _ _ lj:=(pe T).mono (by decide)
  refine T.F_law.ok sc_law (fun vs H Q E h=>?_) (fun cdv A outer s H vs Q E hr h=>?_)
  · obtain ⟨p,ns,rfl,_⟩:=h; rfl
  · obtain ⟨p,ns,rfl,hS,hlen,hT0,q⟩:=h
    have small:sizeLine = 16777216:=sizeLine_eq
    have e9:(10:Int) ^ (9:Int).toNat = 1000000000:=by decide
    have hT:=rl hts hT0
    refine ⟨_,(aj (az (i:=1) sc_law.nd rfl (Or.inl rfl) (am G_L_digits hr rfl T.m_L_digits T.F_L_digits.kp T.B_L_digits .nil ar (aa (am G_L_cell hr rfl T.m_L_cell T.F_L_cell.kp T.B_L_cell .nil ar (aa (vr 0) (aa ai ae))) ae))) (aj (az (i:=2) sc_law.nd rfl (Or.inl rfl) (am G_L_take hr rfl T.m_L_take T.F_L_take.kp T.B_L_take .nil ar (aa (vr 1) (aa ai ae)))) (aj (az (i:=3) sc_law.nd rfl (Or.inl rfl) (am G_L_units hr rfl T.m_L_units T.F_L_units.kp T.B_L_units .nil ar (aa (vr 1) (aa (av eR ai (am G_L_take hr rfl T.m_L_take T.F_L_take.kp T.B_L_take .nil ar (aa (vr 1) (aa ai ae)))) (aa (vr 2) ae))))) (aj (d7 PassesOwn.never rfl (db (av ig (eO hZ (vr 0) (e8 ai) (e8 ai)) (dc (aa ai ae)))) (aw (i:=4) sc_law.nd rfl (Or.inl rfl)) (aj (az (i:=5) sc_law.nd rfl (Or.inl rfl) (av fN (vr 4) ai)) (aj (az (i:=6) sc_law.nd rfl (Or.inl rfl) (av fN (av dY (vr 4) ai) ai)) (aj (bu (fk (gg (am G_L_right hr rfl T.m_L_right T.F_L_right.kp T.B_L_right .nil ar (dB (vr 3) (dB io (dB (vr 2) (dB (vr 5) (dB (vr 6) ae)))))))) (ak (aq io)) aM) (aj (az (i:=7) sc_law.nd rfl (Or.inl rfl) (am G_L_spoilt hr rfl T.m_L_spoilt T.F_L_spoilt.kp T.B_L_spoilt .nil ar (aa (vr 3) (aa (av fN (av dY (vr 4) ai) ai) (aa (av fN (av dY (vr 4) ai) (aB bi rfl T.z_len dH (aa (vr 3) ae))) (aa (av fN (av dY (vr 4) ai) (av jZ ai ai)) ae)))))) (ak (bu (fk (gg (am G_L_right hr rfl T.m_L_right T.F_L_right.kp T.B_L_right .nil ar (dB (vr 7) (dB io (dB (vr 2) (dB (vr 5) (dB (vr 6) ae)))))))) (ak (aq io)) aM))))))) (ak (aq io)))))),?_⟩
    refine ⟨p,ns,0,rfl,hS,hlen,by decide,by decide,⟨_,rfl,fun st n0 fst=>?_⟩⟩
    have s1:=Same.new (o:=.lst [.int n0]) fst
    have e1:=af (H:=H) (a:=st) (o:=.lst [.int n0])
    generalize upd H st _ = H1 at s1 e1
    refine ⟨st,n0,3,rfl,e1,by decide,by decide,fun lv n1 l0 l1=>?_⟩
    have s2:SameP st H1 (upd H1 st (.lst [.int n1])):=SameP.put
    have e2:=af (H:=H1) (a:=st) (o:=.lst [.int n1])
    generalize upd H1 st _ = H2 at s2 e2
    obtain ⟨lev,rfl⟩:=Int.eq_ofNat_of_zero_le l0
    refine ⟨st,n1,5,rfl,e2,by decide,by decide,fun m n3 m0 m1=>?_⟩
    have s3:SameP st H2 (upd H2 st (.lst [.int n3])):=SameP.put
    have e3:=af (H:=H2) (a:=st) (o:=.lst [.int n3])
    generalize upd H2 st _ = H3 at s3 e3
    refine ⟨st,n3,1 + m,lev,rfl,e3,by omega,by omega,by omega,fun H4 l us xs n4 s4 hl0 e4 hl hu hg hul hlev=>?_⟩
    have s04:Same H H4:=fun b o e=>have nb:=ay e fst; s4 _ _ nb (s3 _ _ nb (s2 _ _ nb (s1 _ _ e)))
    have hT4:=hT.same s04
    have hlu:=hu.len
    have g1:=hg.l1
    refine ⟨_,rfl,_,rfl,.inl ⟨_,s04.seq hS,fun r1 fr1=>?_⟩⟩
    refine ⟨by show 1≤sizeLine; decide,fun r2 fr2=>?_⟩
    have u1:=Same.new (o:=.lst (cY (ns.map V.int) (some 1) (some 13))) fr1
    have u2:=Same.new (o:=.lst [.int 5]) fr2
    have cl:=fh (ns.map V.int) (some 1) (some 13)
    rw [List.length_map] at cl
    refine ⟨r1,r2,_,_,rfl,rfl,u2 _ _ af,af,by show _ + 1≤sizeLine; omega,fun r3 fr3=>?_⟩
    have u3:=(u1.trans u2).trans (Same.new (o:=.lst (cY (ns.map V.int) (some 1) (some 13) ++ [.int 5])) fr3)
    refine .inl ⟨⟨_,SqL.of af⟩,?_⟩
    refine fD (K:=K) (a:=r3) (xs:=cY (ns.map V.int) (some 1) (some 13) ++ [.int 5]) (fun i σ H'=>SameT H4 H'∧TabsOk (tabs a) H'∧H' r3 = some (.lst (cY (ns.map V.int) (some 1) (some 13) ++ [.int 5]))∧∃ x4 x5 x6 x7:Option V,σ = [some (.ref p),some (.ref st),some (.int (lev:Nat)),some (.ref l),x4,x5,x6,x7]) ⟨u3.t,hT4.same u3,af,none,none,none,none,rfl⟩ (fun i σ H' _ h=>SqL.of h.2.2.1) ?_ ?_
    · rintro i x σ H5 hx ⟨t5,hT5,hr5,x4,x5,x6,x7,rfl⟩
      obtain ⟨c,rfl⟩:∃ c,x = .int c:=by
        rcases List.mem_append.mp (List.mem_of_getElem? hx) with h | h
        · obtain ⟨c,_,e⟩:=List.mem_map.mp (lJ h)
          exact ⟨c,e.symm⟩
        · exact ⟨5,List.mem_singleton.mp h⟩
      obtain ⟨mn,hm,hm3⟩:∃ mn:Nat,c / 4 % 4 = (mn:Int)∧mn≤3:=⟨(c / 4 % 4).toNat,by omega,by omega⟩
      obtain ⟨at_,hat,hat5⟩:∃ k:Nat,c / 256 % (xs.length:Int) = (k:Int)∧k < xs.length:=by
        have h0:0≤c / 256 % (xs.length:Int):=Int.emod_nonneg _ (by omega)
        have h1:c / 256 % (xs.length:Int) < xs.length:=Int.emod_lt_of_pos _ (by omega)
        exact ⟨(c / 256 % (xs.length:Int)).toNat,by omega,by omega⟩
      refine ⟨cp,cdB (by decide) (show Bt 10 4 by unfold Bt; decide),cp,?_⟩
      have hl5:=t5.at hl
      have hu5:=hu.tk (SameT.tk t5)
      refine ⟨.ref l,true,lev,mn,c % 4,(by show [V.ref l,V.bl true,V.int (lev:Nat),V.int (c % 4),V.int (c / 4 % 4)] = _; rw [hm]),by omega,hm3,by omega,by omega,hT5,.inr (.inr (.inr ⟨l,xs,rfl,hl5,by omega,iI hu5 hg.each⟩)),.inl ⟨rfl,l,us,xs,rfl,hl5,hu5,hg,by omega,hlev⟩,fun H6 t6 hT6=>?_⟩
      have hl6:=t6.at hl5
      have hu6:=hu5.tk (SameT.tk t6)
      refine ⟨cdB (by decide) (show Bt 10 16 by unfold Bt; decide),cp,?_⟩
      refine ⟨cdB (by decide) (show Bt 10 256 by unfold Bt; decide),_,.inl (SqL.of hl6),cp (by omega),?_⟩
      refine ⟨cdB (by decide) (show Bt 12 2048 by unfold Bt; decide),cw,cp (by rw [e9]; decide),?_⟩
      have f0:0≤c / 2048 % (10:Int) ^ (9:Int).toNat:=by rw [e9]; omega
      have f1:c / 2048 % (10:Int) ^ (9:Int).toNat < 1000000000:=by rw [e9]; omega
      refine ⟨l,us,xs,c / 16 % 16,_,at_,(by show [V.ref l,V.int (c / 16 % 16),V.int (c / 256 % (xs.length:Int)),_] = _; rw [hat]),hl6,hu6,hg,by omega,by omega,by omega,by omega,f0,f1,fun H7 y s7 hb ho=>?_⟩
      refine ⟨y,false,lev,mn,c % 4,(by show [y,V.bl false,V.int (lev:Nat),V.int (c % 4),V.int (c / 4 % 4)] = _; rw [hm]),by omega,hm3,by omega,by omega,hT6.same s7,ho,.inr ⟨rfl,hb⟩,fun H8 t8 hT8=>?_⟩
      have t58:=t6.trans (s7.t.trans t8)
      exact ⟨t5.trans t58,hT8,t58.at hr5,_,_,_,_,rfl⟩
    · rintro σ H5 ⟨t5,hT5,hr5,x4,x5,x6,x7,rfl⟩
      exact q _
end
end My
namespace My
open PySem L2
theorem us0 {α:Type}:∀ {us:List α},us.length = 0→us = []
  | [],_=>rfl
theorem us1 {α:Type}:∀ {us:List α},us.length = 1→∃ a0,us = [a0]
  | [_],_=>⟨_,rfl⟩
theorem us2 {α:Type}:∀ {us:List α},us.length = 2→∃ a0 a1,us = [a0,a1]
  | [_,_],_=>⟨_,_,rfl⟩
theorem us3 {α:Type}:∀ {us:List α},us.length = 3→∃ a0 a1 a2,us = [a0,a1,a2]
  | [_,_,_],_=>⟨_,_,_,rfl⟩
theorem us4 {α:Type}:∀ {us:List α},us.length = 4→∃ a0 a1 a2 a3,us = [a0,a1,a2,a3]
  | [_,_,_,_],_=>⟨_,_,_,_,rfl⟩
theorem us5 {α:Type}:∀ {us:List α},us.length = 5→∃ a0 a1 a2 a3 a4,us = [a0,a1,a2,a3,a4]
  | [_,_,_,_,_],_=>⟨_,_,_,_,_,rfl⟩
theorem us6 {α:Type}:∀ {us:List α},us.length = 6→∃ a0 a1 a2 a3 a4 a5,us = [a0,a1,a2,a3,a4,a5]
  | [_,_,_,_,_,_],_=>⟨_,_,_,_,_,_,rfl⟩
theorem us7 {α:Type}:∀ {us:List α},us.length = 7→∃ a0 a1 a2 a3 a4 a5 a6,us = [a0,a1,a2,a3,a4,a5,a6]
  | [_,_,_,_,_,_,_],_=>⟨_,_,_,_,_,_,_,rfl⟩
theorem txt_mk {K:PySem.W.Frag} {h:Heap} {mg:Str→Option Value} {f0:Addr} {od0 an0:Option Addr} {sl0:Array (Option Value)} {oc0 kV0 dc0 pm0 cd0 ct0:Value} {f1:Addr} {od1 an1:Option Addr} {sl1:Array (Option Value)} {oc1 kV1 dc1 pm1 cd1 ct1:Value} {f2:Addr} {od2 an2:Option Addr} {sl2:Array (Option Value)} {oc2 kV2 dc2 pm2 cd2 ct2:Value} {f3:Addr} {od3 an3:Option Addr} {sl3:Array (Option Value)} {oc3 kV3 dc3 pm3 cd3 ct3:Value} {f4:Addr} {od4 an4:Option Addr} {sl4:Array (Option Value)} {oc4 kV4 dc4 pm4 cd4 ct4:Value} {f5:Addr} {od5 an5:Option Addr} {sl5:Array (Option Value)} {oc5 kV5 dc5 pm5 cd5 ct5:Value} {f6:Addr} {od6 an6:Option Addr} {sl6:Array (Option Value)} {oc6 kV6 dc6 pm6 cd6 ct6:Value} {f7:Addr} {od7 an7:Option Addr} {sl7:Array (Option Value)} {oc7 kV7 dc7 pm7 cd7 ct7:Value} {f8:Addr} {od8 an8:Option Addr} {sl8:Array (Option Value)} {oc8 kV8 dc8 pm8 cd8 ct8:Value} {f9:Addr} {od9 an9:Option Addr} {sl9:Array (Option Value)} {oc9 kV9 dc9 pm9 cd9 ct9:Value} {f10:Addr} {od10 an10:Option Addr} {sl10:Array (Option Value)} {oc10 kV10 dc10 pm10 cd10 ct10:Value} {f11:Addr} {od11 an11:Option Addr} {sl11:Array (Option Value)} {oc11 kV11 dc11 pm11 cd11 ct11:Value} {f12:Addr} {od12 an12:Option Addr} {sl12:Array (Option Value)} {oc12 kV12 dc12 pm12 cd12 ct12:Value} {f13:Addr} {od13 an13:Option Addr} {sl13:Array (Option Value)} {oc13 kV13 dc13 pm13 cd13 ct13:Value} {f14:Addr} {od14 an14:Option Addr} {sl14:Array (Option Value)} {oc14 kV14 dc14 pm14 cd14 ct14:Value} {f15:Addr} {od15 an15:Option Addr} {sl15:Array (Option Value)} {oc15 kV15 dc15 pm15 cd15 ct15:Value} {f16:Addr} {od16 an16:Option Addr} {sl16:Array (Option Value)} {oc16 kV16 dc16 pm16 cd16 ct16:Value} {f17:Addr} {od17 an17:Option Addr} {sl17:Array (Option Value)} {oc17 kV17 dc17 pm17 cd17 ct17:Value} {f18:Addr} {od18 an18:Option Addr} {sl18:Array (Option Value)} {oc18 kV18 dc18 pm18 cd18 ct18:Value} {f19:Addr} {od19 an19:Option Addr} {sl19:Array (Option Value)} {oc19 kV19 dc19 pm19 cd19 ct19:Value} {f20:Addr} {od20 an20:Option Addr} {sl20:Array (Option Value)} {oc20 kV20 dc20 pm20 cd20 ct20:Value} {f21:Addr} {od21 an21:Option Addr} {sl21:Array (Option Value)} {oc21 kV21 dc21 pm21 cd21 ct21:Value} {f22:Addr} {od22 an22:Option Addr} {sl22:Array (Option Value)} {oc22 kV22 dc22 pm22 cd22 ct22:Value} {f23:Addr} {od23 an23:Option Addr} {sl23:Array (Option Value)} {oc23 kV23 dc23 pm23 cd23 ct23:Value} {f24:Addr} {od24 an24:Option Addr} {sl24:Array (Option Value)} {oc24 kV24 dc24 pm24 cd24 ct24:Value} {f25:Addr} {od25 an25:Option Addr} {sl25:Array (Option Value)} {oc25 kV25 dc25 pm25 cd25 ct25:Value} {f26:Addr} {od26 an26:Option Addr} {sl26:Array (Option Value)} {oc26 kV26 dc26 pm26 cd26 ct26:Value} {f27:Addr} {od27 an27:Option Addr} {sl27:Array (Option Value)} {oc27 kV27 dc27 pm27 cd27 ct27:Value} {f28:Addr} {od28 an28:Option Addr} {sl28:Array (Option Value)} {oc28 kV28 dc28 pm28 cd28 ct28:Value} {f29:Addr} {od29 an29:Option Addr} {sl29:Array (Option Value)} {oc29 kV29 dc29 pm29 cd29 ct29:Value} {f30:Addr} {od30 an30:Option Addr} {sl30:Array (Option Value)} {oc30 kV30 dc30 pm30 cd30 ct30:Value} {f31:Addr} {od31 an31:Option Addr} {sl31:Array (Option Value)} {oc31 kV31 dc31 pm31 cd31 ct31:Value} {f32:Addr} {od32 an32:Option Addr} {sl32:Array (Option Value)} {oc32 kV32 dc32 pm32 cd32 ct32:Value} {f33:Addr} {od33 an33:Option Addr} {sl33:Array (Option Value)} {oc33 kV33 dc33 pm33 cd33 ct33:Value} {f34:Addr} {od34 an34:Option Addr} {sl34:Array (Option Value)} {oc34 kV34 dc34 pm34 cd34 ct34:Value} {f35:Addr} {od35 an35:Option Addr} {sl35:Array (Option Value)} {oc35 kV35 dc35 pm35 cd35 ct35:Value} {f36:Addr} {od36 an36:Option Addr} {sl36:Array (Option Value)} {oc36 kV36 dc36 pm36 cd36 ct36:Value} {f37:Addr} {od37 an37:Option Addr} {sl37:Array (Option Value)} {oc37 kV37 dc37 pm37 cd37 ct37:Value} {f38:Addr} {od38 an38:Option Addr} {sl38:Array (Option Value)} {oc38 kV38 dc38 pm38 cd38 ct38:Value} {f39:Addr} {od39 an39:Option Addr} {sl39:Array (Option Value)} {oc39 kV39 dc39 pm39 cd39 ct39:Value} {f40:Addr} {od40 an40:Option Addr} {sl40:Array (Option Value)} {oc40 kV40 dc40 pm40 cd40 ct40:Value} {f41:Addr} {od41 an41:Option Addr} {sl41:Array (Option Value)} {oc41 kV41 dc41 pm41 cd41 ct41:Value} {f42:Addr} {od42 an42:Option Addr} {sl42:Array (Option Value)} {oc42 kV42 dc42 pm42 cd42 ct42:Value} {f43:Addr} {od43 an43:Option Addr} {sl43:Array (Option Value)} {oc43 kV43 dc43 pm43 cd43 ct43:Value} {f44:Addr} {od44 an44:Option Addr} {sl44:Array (Option Value)} {oc44 kV44 dc44 pm44 cd44 ct44:Value} {f45:Addr} {od45 an45:Option Addr} {sl45:Array (Option Value)} {oc45 kV45 dc45 pm45 cd45 ct45:Value} {f46:Addr} {od46 an46:Option Addr} {sl46:Array (Option Value)} {oc46 kV46 dc46 pm46 cd46 ct46:Value} {f47:Addr} {od47 an47:Option Addr} {sl47:Array (Option Value)} {oc47 kV47 dc47 pm47 cd47 ct47:Value} {f48:Addr} {od48 an48:Option Addr} {sl48:Array (Option Value)} {oc48 kV48 dc48 pm48 cd48 ct48:Value} {f49:Addr} {od49 an49:Option Addr} {sl49:Array (Option Value)} {oc49 kV49 dc49 pm49 cd49 ct49:Value} {f50:Addr} {od50 an50:Option Addr} {sl50:Array (Option Value)} {oc50 kV50 dc50 pm50 cd50 ct50:Value} {f51:Addr} {od51 an51:Option Addr} {sl51:Array (Option Value)} {oc51 kV51 dc51 pm51 cd51 ct51:Value} {f52:Addr} {od52 an52:Option Addr} {sl52:Array (Option Value)} {oc52 kV52 dc52 pm52 cd52 ct52:Value} {f53:Addr} {od53 an53:Option Addr} {sl53:Array (Option Value)} {oc53 kV53 dc53 pm53 cd53 ct53:Value} {f54:Addr} {od54 an54:Option Addr} {sl54:Array (Option Value)} {oc54 kV54 dc54 pm54 cd54 ct54:Value} {f55:Addr} {od55 an55:Option Addr} {sl55:Array (Option Value)} {oc55 kV55 dc55 pm55 cd55 ct55:Value} {f56:Addr} {od56 an56:Option Addr} {sl56:Array (Option Value)} {oc56 kV56 dc56 pm56 cd56 ct56:Value} {k_NOUGHT:Addr} {k_WHOLE:Addr} {u0:Value} {u1:Value} {u2:Value} {u3:Value} {u4:Value} {u5:Value} {u6:Value} {u7:Value} {c_SpeakError:Addr} {c_NoUnits:Addr} {c_NoPlan:Addr} {i_NoPlan:Addr} {od_8 an_8:Option Addr} {sl_8:Array (Option Value)} {oc_8 kV_8 dc_8 pm_8 cd_8 ct_8:Value} {c_NoLevel:Addr} {c_NoSpread:Addr} {i_NoSpread:Addr} {od_9 an_9:Option Addr} {sl_9:Array (Option Value)} {oc_9 kV_9 dc_9 pm_9 cd_9 ct_9:Value} {c_Plan:Addr} {c_Few:Addr} {i_Few:Addr} {od_3 an_3:Option Addr} {sl_3:Array (Option Value)} {oc_3 kV_3 dc_3 pm_3 cd_3 ct_3:Value} {c_Each:Addr} {i_Each:Addr} {od_0 an_0:Option Addr} {sl_0:Array (Option Value)} {oc_0 kV_0 dc_0 pm_0 cd_0 ct_0:Value} {c_First:Addr} {i_First:Addr} {od_6 an_6:Option Addr} {sl_6:Array (Option Value)} {oc_6 kV_6 dc_6 pm_6 cd_6 ct_6:Value} {x_Few_matrix:Addr} {od_4 an_4:Option Addr} {sl_4:Array (Option Value)} {oc_4 kV_4 dc_4 pm_4 cd_4 ct_4:Value} {x_Each_matrix:Addr} {od_1 an_1:Option Addr} {sl_1:Array (Option Value)} {oc_1 kV_1 dc_1 pm_1 cd_1 ct_1:Value} {x_Plan_need_levels:Addr} {od_a an_a:Option Addr} {sl_a:Array (Option Value)} {oc_a kV_a dc_a pm_a cd_a ct_a:Value} {x_Each_need_levels:Addr} {od_2 an_2:Option Addr} {sl_2:Array (Option Value)} {oc_2 kV_2 dc_2 pm_2 cd_2 ct_2:Value} {x_First_need_levels:Addr} {od_7 an_7:Option Addr} {sl_7:Array (Option Value)} {oc_7 kV_7 dc_7 pm_7 cd_7 ct_7:Value} {lc_spread_told lp_spread_told:Addr} {lo_d:Value} {lod_d:Option Addr} {lvs_d:Array Value} {lsl_d:Array (Option Value)} {lc_spread_by lp_spread_by:Addr} {lo_c:Value} {lod_c:Option Addr} {lvs_c:Array Value} {lsl_c:Array (Option Value)} {lc_groups_matrix lp_groups_matrix:Addr} {lo_b:Value} {lod_b:Option Addr} {lvs_b:Array Value} {lsl_b:Array (Option Value)} {lc_Each_matrix lp_Each_matrix:Addr} {lo_1:Value} {lod_1:Option Addr} {lvs_1:Array Value} {lsl_1:Array (Option Value)} {lc_Few_matrix lp_Few_matrix:Addr} {lo_4:Value} {lod_4:Option Addr} {lvs_4:Array Value} {lsl_4:Array (Option Value)} (X:K.In h) (G:h.Ns mainGlobals mg)
    (a0:PySem.W.nsIn K mainGlobals "greatest_divisor" = some (some (.ref f0))) (l0:K.lookup f0 = some ⟨oc0,od0,.func (PySem.W.fnOf "greatest_divisor" "greatest_divisor" (ah aL) (ag aL) (ac aL) .none kV0 dc0 pm0 an0 cd0 ct0),sl0⟩) (c0:PySem.W.codeIn K cd0 "greatest_divisor" = true) (k0:PySem.W.keepIn K (.ref f0) = true)
    (a1:PySem.W.nsIn K mainGlobals "least_multiple" = some (some (.ref f1))) (l1:K.lookup f1 = some ⟨oc1,od1,.func (PySem.W.fnOf "least_multiple" "least_multiple" (ah aQ) (ag aQ) (ac aQ) .none kV1 dc1 pm1 an1 cd1 ct1),sl1⟩) (c1:PySem.W.codeIn K cd1 "least_multiple" = true) (k1:PySem.W.keepIn K (.ref f1) = true)
    (a2:PySem.W.nsIn K mainGlobals "share" = some (some (.ref f2))) (l2:K.lookup f2 = some ⟨oc2,od2,.func (PySem.W.fnOf "share" "share" (ah eE) (ag eE) (ac eE) .none kV2 dc2 pm2 an2 cd2 ct2),sl2⟩) (c2:PySem.W.codeIn K cd2 "share" = true) (k2:PySem.W.keepIn K (.ref f2) = true)
    (a3:PySem.W.nsIn K mainGlobals "minus" = some (some (.ref f3))) (l3:K.lookup f3 = some ⟨oc3,od3,.func (PySem.W.fnOf "minus" "minus" (ah eu) (ag eu) (ac eu) .none kV3 dc3 pm3 an3 cd3 ct3),sl3⟩) (c3:PySem.W.codeIn K cd3 "minus" = true) (k3:PySem.W.keepIn K (.ref f3) = true)
    (a4:PySem.W.nsIn K mainGlobals "times" = some (some (.ref f4))) (l4:K.lookup f4 = some ⟨oc4,od4,.func (PySem.W.fnOf "times" "times" (ah eC) (ag eC) (ac eC) .none kV4 dc4 pm4 an4 cd4 ct4),sl4⟩) (c4:PySem.W.codeIn K cd4 "times" = true) (k4:PySem.W.keepIn K (.ref f4) = true)
    (a5:PySem.W.nsIn K mainGlobals "over" = some (some (.ref f5))) (l5:K.lookup f5 = some ⟨oc5,od5,.func (PySem.W.fnOf "over" "over" (ah ft) (ag ft) (ac ft) .none kV5 dc5 pm5 an5 cd5 ct5),sl5⟩) (c5:PySem.W.codeIn K cd5 "over" = true) (k5:PySem.W.keepIn K (.ref f5) = true)
    (a6:PySem.W.nsIn K mainGlobals "total" = some (some (.ref f6))) (l6:K.lookup f6 = some ⟨oc6,od6,.func (PySem.W.fnOf "total" "total" (ah eB) (ag eB) (ac eB) .none kV6 dc6 pm6 an6 cd6 ct6),sl6⟩) (c6:PySem.W.codeIn K cd6 "total" = true) (k6:PySem.W.keepIn K (.ref f6) = true)
    (a7:PySem.W.nsIn K mainGlobals "is_whole" = some (some (.ref f7))) (l7:K.lookup f7 = some ⟨oc7,od7,.func (PySem.W.fnOf "is_whole" "is_whole" (ah cA) (ag cA) (ac cA) .none kV7 dc7 pm7 an7 cd7 ct7),sl7⟩) (c7:PySem.W.codeIn K cd7 "is_whole" = true) (k7:PySem.W.keepIn K (.ref f7) = true)
    (a8:PySem.W.nsIn K mainGlobals "is_made_of" = some (some (.ref f8))) (l8:K.lookup f8 = some ⟨oc8,od8,.func (PySem.W.fnOf "is_made_of" "is_made_of" (ah bq) (ag bq) (ac bq) .none kV8 dc8 pm8 an8 cd8 ct8),sl8⟩) (c8:PySem.W.codeIn K cd8 "is_made_of" = true) (k8:PySem.W.keepIn K (.ref f8) = true)
    (a9:PySem.W.nsIn K mainGlobals "is_name" = some (some (.ref f9))) (l9:K.lookup f9 = some ⟨oc9,od9,.func (PySem.W.fnOf "is_name" "is_name" (ah du) (ag du) (ac du) .none kV9 dc9 pm9 an9 cd9 ct9),sl9⟩) (c9:PySem.W.codeIn K cd9 "is_name" = true) (k9:PySem.W.keepIn K (.ref f9) = true)
    (a10:PySem.W.nsIn K mainGlobals "has_listing_length" = some (some (.ref f10))) (l10:K.lookup f10 = some ⟨oc10,od10,.func (PySem.W.fnOf "has_listing_length" "has_listing_length" (ah aC) (ag aC) (ac aC) .none kV10 dc10 pm10 an10 cd10 ct10),sl10⟩) (c10:PySem.W.codeIn K cd10 "has_listing_length" = true) (k10:PySem.W.keepIn K (.ref f10) = true)
    (a11:PySem.W.nsIn K mainGlobals "is_path" = some (some (.ref f11))) (l11:K.lookup f11 = some ⟨oc11,od11,.func (PySem.W.fnOf "is_path" "is_path" (ah dj) (ag dj) (ac dj) .none kV11 dc11 pm11 an11 cd11 ct11),sl11⟩) (c11:PySem.W.codeIn K cd11 "is_path" = true) (k11:PySem.W.keepIn K (.ref f11) = true)
    (a12:PySem.W.nsIn K mainGlobals "is_unit" = some (some (.ref f12))) (l12:K.lookup f12 = some ⟨oc12,od12,.func (PySem.W.fnOf "is_unit" "is_unit" (ah di) (ag di) (ac di) .none kV12 dc12 pm12 an12 cd12 ct12),sl12⟩) (c12:PySem.W.codeIn K cd12 "is_unit" = true) (k12:PySem.W.keepIn K (.ref f12) = true)
    (a13:PySem.W.nsIn K mainGlobals "is_new_name" = some (some (.ref f13))) (l13:K.lookup f13 = some ⟨oc13,od13,.func (PySem.W.fnOf "is_new_name" "is_new_name" (ah bg) (ag bg) (ac bg) .none kV13 dc13 pm13 an13 cd13 ct13),sl13⟩) (c13:PySem.W.codeIn K cd13 "is_new_name" = true) (k13:PySem.W.keepIn K (.ref f13) = true)
    (a14:PySem.W.nsIn K mainGlobals "has_path_length" = some (some (.ref f14))) (l14:K.lookup f14 = some ⟨oc14,od14,.func (PySem.W.fnOf "has_path_length" "has_path_length" (ah aN) (ag aN) (ac aN) .none kV14 dc14 pm14 an14 cd14 ct14),sl14⟩) (c14:PySem.W.codeIn K cd14 "has_path_length" = true) (k14:PySem.W.keepIn K (.ref f14) = true)
    (a15:PySem.W.nsIn K mainGlobals "need_units" = some (some (.ref f15))) (l15:K.lookup f15 = some ⟨oc15,od15,.func (PySem.W.fnOf "need_units" "need_units" (ah bp) (ag bp) (ac bp) .none kV15 dc15 pm15 an15 cd15 ct15),sl15⟩) (c15:PySem.W.codeIn K cd15 "need_units" = true) (k15:PySem.W.keepIn K (.ref f15) = true)
    (a16:PySem.W.nsIn K mainGlobals "values_of" = some (some (.ref f16))) (l16:K.lookup f16 = some ⟨oc16,od16,.func (PySem.W.fnOf "values_of" "values_of" (ah cg) (ag cg) (ac cg) .none kV16 dc16 pm16 an16 cd16 ct16),sl16⟩) (c16:PySem.W.codeIn K cd16 "values_of" = true) (k16:PySem.W.keepIn K (.ref f16) = true)
    (a17:PySem.W.nsIn K mainGlobals "crowd_of" = some (some (.ref f17))) (l17:K.lookup f17 = some ⟨oc17,od17,.func (PySem.W.fnOf "crowd_of" "crowd_of" (ah cE) (ag cE) (ac cE) .none kV17 dc17 pm17 an17 cd17 ct17),sl17⟩) (c17:PySem.W.codeIn K cd17 "crowd_of" = true) (k17:PySem.W.keepIn K (.ref f17) = true)
    (a18:PySem.W.nsIn K mainGlobals "groups_of" = some (some (.ref f18))) (l18:K.lookup f18 = some ⟨oc18,od18,.func (PySem.W.fnOf "groups_of" "groups_of" (ah cf) (ag cf) (ac cf) .none kV18 dc18 pm18 an18 cd18 ct18),sl18⟩) (c18:PySem.W.codeIn K cd18 "groups_of" = true) (k18:PySem.W.keepIn K (.ref f18) = true)
    (a19:PySem.W.nsIn K mainGlobals "matrix_by" = some (some (.ref f19))) (l19:K.lookup f19 = some ⟨oc19,od19,.func (PySem.W.fnOf "matrix_by" "matrix_by" (ah cb) (ag cb) (ac cb) .none kV19 dc19 pm19 an19 cd19 ct19),sl19⟩) (c19:PySem.W.codeIn K cd19 "matrix_by" = true) (k19:PySem.W.keepIn K (.ref f19) = true)
    (a20:PySem.W.nsIn K mainGlobals "matrix_row" = some (some (.ref f20))) (l20:K.lookup f20 = some ⟨oc20,od20,.func (PySem.W.fnOf "matrix_row" "matrix_row" (ah bn) (ag bn) (ac bn) .none kV20 dc20 pm20 an20 cd20 ct20),sl20⟩) (c20:PySem.W.codeIn K cd20 "matrix_row" = true) (k20:PySem.W.keepIn K (.ref f20) = true)
    (a21:PySem.W.nsIn K mainGlobals "need_number" = some (some (.ref f21))) (l21:K.lookup f21 = some ⟨oc21,od21,.func (PySem.W.fnOf "need_number" "need_number" (ah bf) (ag bf) (ac bf) .none kV21 dc21 pm21 an21 cd21 ct21),sl21⟩) (c21:PySem.W.codeIn K cd21 "need_number" = true) (k21:PySem.W.keepIn K (.ref f21) = true)
    (a22:PySem.W.nsIn K mainGlobals "few_chance" = some (some (.ref f22))) (l22:K.lookup f22 = some ⟨oc22,od22,.func (PySem.W.fnOf "few_chance" "few_chance" (ah bj) (ag bj) (ac bj) .none kV22 dc22 pm22 an22 cd22 ct22),sl22⟩) (c22:PySem.W.codeIn K cd22 "few_chance" = true) (k22:PySem.W.keepIn K (.ref f22) = true)
    (a23:PySem.W.nsIn K mainGlobals "chances" = some (some (.ref f23))) (l23:K.lookup f23 = some ⟨oc23,od23,.func (PySem.W.fnOf "chances" "chances" (ah dw) (ag dw) (ac dw) .none kV23 dc23 pm23 an23 cd23 ct23),sl23⟩) (c23:PySem.W.codeIn K cd23 "chances" = true) (k23:PySem.W.keepIn K (.ref f23) = true)
    (a24:PySem.W.nsIn K mainGlobals "true_sum" = some (some (.ref f24))) (l24:K.lookup f24 = some ⟨oc24,od24,.func (PySem.W.fnOf "true_sum" "true_sum" (ah cG) (ag cG) (ac cG) .none kV24 dc24 pm24 an24 cd24 ct24),sl24⟩) (c24:PySem.W.codeIn K cd24 "true_sum" = true) (k24:PySem.W.keepIn K (.ref f24) = true)
    (a25:PySem.W.nsIn K mainGlobals "mean_told" = some (some (.ref f25))) (l25:K.lookup f25 = some ⟨oc25,od25,.func (PySem.W.fnOf "mean_told" "mean_told" (ah ce) (ag ce) (ac ce) .none kV25 dc25 pm25 an25 cd25 ct25),sl25⟩) (c25:PySem.W.codeIn K cd25 "mean_told" = true) (k25:PySem.W.keepIn K (.ref f25) = true)
    (a26:PySem.W.nsIn K mainGlobals "sum_told" = some (some (.ref f26))) (l26:K.lookup f26 = some ⟨oc26,od26,.func (PySem.W.fnOf "sum_told" "sum_told" (ah cD) (ag cD) (ac cD) .none kV26 dc26 pm26 an26 cd26 ct26),sl26⟩) (c26:PySem.W.codeIn K cd26 "sum_told" = true) (k26:PySem.W.keepIn K (.ref f26) = true)
    (a27:PySem.W.nsIn K mainGlobals "spread" = some (some (.ref f27))) (l27:K.lookup f27 = some ⟨oc27,od27,.func (PySem.W.fnOf "spread" "spread" (ah dL) (ag dL) (ac dL) .none kV27 dc27 pm27 an27 cd27 ct27),sl27⟩) (c27:PySem.W.codeIn K cd27 "spread" = true) (k27:PySem.W.keepIn K (.ref f27) = true)
    (a28:PySem.W.nsIn K mainGlobals "spread_by" = some (some (.ref f28))) (l28:K.lookup f28 = some ⟨oc28,od28,.func (PySem.W.fnOf "spread_by" "spread_by" (ah br) (ag br) (ac br) .none kV28 dc28 pm28 an28 cd28 ct28),sl28⟩) (c28:PySem.W.codeIn K cd28 "spread_by" = true) (k28:PySem.W.keepIn K (.ref f28) = true)
    (a29:PySem.W.nsIn K mainGlobals "spread_told" = some (some (.ref f29))) (l29:K.lookup f29 = some ⟨oc29,od29,.func (PySem.W.fnOf "spread_told" "spread_told" (ah aX) (ag aX) (ac aX) .none kV29 dc29 pm29 an29 cd29 ct29),sl29⟩) (c29:PySem.W.codeIn K cd29 "spread_told" = true) (k29:PySem.W.keepIn K (.ref f29) = true)
    (a30:PySem.W.nsIn K mainGlobals "places_with_share" = some (some (.ref f30))) (l30:K.lookup f30 = some ⟨oc30,od30,.func (PySem.W.fnOf "places_with_share" "places_with_share" (ah aF) (ag aF) (ac aF) .none kV30 dc30 pm30 an30 cd30 ct30),sl30⟩) (c30:PySem.W.codeIn K cd30 "places_with_share" = true) (k30:PySem.W.keepIn K (.ref f30) = true)
    (a31:PySem.W.nsIn K mainGlobals "never_together" = some (some (.ref f31))) (l31:K.lookup f31 = some ⟨oc31,od31,.func (PySem.W.fnOf "never_together" "never_together" (ah aR) (ag aR) (ac aR) .none kV31 dc31 pm31 an31 cd31 ct31),sl31⟩) (c31:PySem.W.codeIn K cd31 "never_together" = true) (k31:PySem.W.keepIn K (.ref f31) = true)
    (a32:PySem.W.nsIn K mainGlobals "pairs_total" = some (some (.ref f32))) (l32:K.lookup f32 = some ⟨oc32,od32,.func (PySem.W.fnOf "pairs_total" "pairs_total" (ah be) (ag be) (ac be) .none kV32 dc32 pm32 an32 cd32 ct32),sl32⟩) (c32:PySem.W.codeIn K cd32 "pairs_total" = true) (k32:PySem.W.keepIn K (.ref f32) = true)
    (a33:PySem.W.nsIn K mainGlobals "raised" = some (some (.ref f33))) (l33:K.lookup f33 = some ⟨oc33,od33,.func (PySem.W.fnOf "raised" "raised" (ah dZ) (ag dZ) (ac dZ) .none kV33 dc33 pm33 an33 cd33 ct33),sl33⟩) (c33:PySem.W.codeIn K cd33 "raised" = true) (k33:PySem.W.keepIn K (.ref f33) = true)
    (a34:PySem.W.nsIn K mainGlobals "spread_part" = some (some (.ref f34))) (l34:K.lookup f34 = some ⟨oc34,od34,.func (PySem.W.fnOf "spread_part" "spread_part" (ah bd) (ag bd) (ac bd) .none kV34 dc34 pm34 an34 cd34 ct34),sl34⟩) (c34:PySem.W.codeIn K cd34 "spread_part" = true) (k34:PySem.W.keepIn K (.ref f34) = true)
    (a35:PySem.W.nsIn K mainGlobals "told_part" = some (some (.ref f35))) (l35:K.lookup f35 = some ⟨oc35,od35,.func (PySem.W.fnOf "told_part" "told_part" (ah cv) (ag cv) (ac cv) .none kV35 dc35 pm35 an35 cd35 ct35),sl35⟩) (c35:PySem.W.codeIn K cd35 "told_part" = true) (k35:PySem.W.keepIn K (.ref f35) = true)
    (a36:PySem.W.nsIn K mainGlobals "parted" = some (some (.ref f36))) (l36:K.lookup f36 = some ⟨oc36,od36,.func (PySem.W.fnOf "parted" "parted" (ah dO) (ag dO) (ac dO) .none kV36 dc36 pm36 an36 cd36 ct36),sl36⟩) (c36:PySem.W.codeIn K cd36 "parted" = true) (k36:PySem.W.keepIn K (.ref f36) = true)
    (a37:PySem.W.nsIn K mainGlobals "spots_of" = some (some (.ref f37))) (l37:K.lookup f37 = some ⟨oc37,od37,.func (PySem.W.fnOf "spots_of" "spots_of" (ah cF) (ag cF) (ac cF) .none kV37 dc37 pm37 an37 cd37 ct37),sl37⟩) (c37:PySem.W.codeIn K cd37 "spots_of" = true) (k37:PySem.W.keepIn K (.ref f37) = true)
    (a38:PySem.W.nsIn K mainGlobals "groups_matrix" = some (some (.ref f38))) (l38:K.lookup f38 = some ⟨oc38,od38,.func (PySem.W.fnOf "groups_matrix" "groups_matrix" (ah aO) (ag aO) (ac aO) .none kV38 dc38 pm38 an38 cd38 ct38),sl38⟩) (c38:PySem.W.codeIn K cd38 "groups_matrix" = true) (k38:PySem.W.keepIn K (.ref f38) = true)
    (a39:PySem.W.nsIn K mainGlobals "spots_chance" = some (some (.ref f39))) (l39:K.lookup f39 = some ⟨oc39,od39,.func (PySem.W.fnOf "spots_chance" "spots_chance" (ah bb) (ag bb) (ac bb) .none kV39 dc39 pm39 an39 cd39 ct39),sl39⟩) (c39:PySem.W.codeIn K cd39 "spots_chance" = true) (k39:PySem.W.keepIn K (.ref f39) = true)
    (a40:PySem.W.nsIn K mainGlobals "need_group_names" = some (some (.ref f40))) (l40:K.lookup f40 = some ⟨oc40,od40,.func (PySem.W.fnOf "need_group_names" "need_group_names" (ah aK) (ag aK) (ac aK) .none kV40 dc40 pm40 an40 cd40 ct40),sl40⟩) (c40:PySem.W.codeIn K cd40 "need_group_names" = true) (k40:PySem.W.keepIn K (.ref f40) = true)
    (a41:PySem.W.nsIn K mainGlobals "hidden" = some (some (.ref f41))) (l41:K.lookup f41 = some ⟨oc41,od41,.func (PySem.W.fnOf "hidden" "hidden" (ah dP) (ag dP) (ac dP) .none kV41 dc41 pm41 an41 cd41 ct41),sl41⟩) (c41:PySem.W.codeIn K cd41 "hidden" = true) (k41:PySem.W.keepIn K (.ref f41) = true)
    (a42:PySem.W.nsIn K mainGlobals "never_drawn" = some (some (.ref f42))) (l42:K.lookup f42 = some ⟨oc42,od42,.func (PySem.W.fnOf "never_drawn" "never_drawn" (ah bc) (ag bc) (ac bc) .none kV42 dc42 pm42 an42 cd42 ct42),sl42⟩) (c42:PySem.W.codeIn K cd42 "never_drawn" = true) (k42:PySem.W.keepIn K (.ref f42) = true)
    (a43:PySem.W.nsIn K mainGlobals "unspoken" = some (some (.ref f43))) (l43:K.lookup f43 = some ⟨oc43,od43,.func (PySem.W.fnOf "unspoken" "unspoken" (ah cz) (ag cz) (ac cz) .none kV43 dc43 pm43 an43 cd43 ct43),sl43⟩) (c43:PySem.W.codeIn K cd43 "unspoken" = true) (k43:PySem.W.keepIn K (.ref f43) = true)
    (a44:PySem.W.nsIn K mainGlobals "ones_at" = some (some (.ref f44))) (l44:K.lookup f44 = some ⟨oc44,od44,.func (PySem.W.fnOf "ones_at" "ones_at" (ah dl) (ag dl) (ac dl) .none kV44 dc44 pm44 an44 cd44 ct44),sl44⟩) (c44:PySem.W.codeIn K cd44 "ones_at" = true) (k44:PySem.W.keepIn K (.ref f44) = true)
    (a45:PySem.W.nsIn K mainGlobals "_law_cell" = some (some (.ref f45))) (l45:K.lookup f45 = some ⟨oc45,od45,.func (PySem.W.fnOf "_law_cell" "_law_cell" (ah dJ) (ag dJ) (ac dJ) .none kV45 dc45 pm45 an45 cd45 ct45),sl45⟩) (c45:PySem.W.codeIn K cd45 "_law_cell" = true) (k45:PySem.W.keepIn K (.ref f45) = true)
    (a46:PySem.W.nsIn K mainGlobals "_law_mix" = some (some (.ref f46))) (l46:K.lookup f46 = some ⟨oc46,od46,.func (PySem.W.fnOf "_law_mix" "_law_mix" (ah eA) (ag eA) (ac eA) .none kV46 dc46 pm46 an46 cd46 ct46),sl46⟩) (c46:PySem.W.codeIn K cd46 "_law_mix" = true) (k46:PySem.W.keepIn K (.ref f46) = true)
    (a47:PySem.W.nsIn K mainGlobals "_law_digits" = some (some (.ref f47))) (l47:K.lookup f47 = some ⟨oc47,od47,.func (PySem.W.fnOf "_law_digits" "_law_digits" (ah cy) (ag cy) (ac cy) .none kV47 dc47 pm47 an47 cd47 ct47),sl47⟩) (c47:PySem.W.codeIn K cd47 "_law_digits" = true) (k47:PySem.W.keepIn K (.ref f47) = true)
    (a48:PySem.W.nsIn K mainGlobals "_law_take" = some (some (.ref f48))) (l48:K.lookup f48 = some ⟨oc48,od48,.func (PySem.W.fnOf "_law_take" "_law_take" (ah dN) (ag dN) (ac dN) .none kV48 dc48 pm48 an48 cd48 ct48),sl48⟩) (c48:PySem.W.codeIn K cd48 "_law_take" = true) (k48:PySem.W.keepIn K (.ref f48) = true)
    (a49:PySem.W.nsIn K mainGlobals "_law_units" = some (some (.ref f49))) (l49:K.lookup f49 = some ⟨oc49,od49,.func (PySem.W.fnOf "_law_units" "_law_units" (ah dk) (ag dk) (ac dk) .none kV49 dc49 pm49 an49 cd49 ct49),sl49⟩) (c49:PySem.W.codeIn K cd49 "_law_units" = true) (k49:PySem.W.keepIn K (.ref f49) = true)
    (a50:PySem.W.nsIn K mainGlobals "_law_spoilt" = some (some (.ref f50))) (l50:K.lookup f50 = some ⟨oc50,od50,.func (PySem.W.fnOf "_law_spoilt" "_law_spoilt" (ah cH) (ag cH) (ac cH) .none kV50 dc50 pm50 an50 cd50 ct50),sl50⟩) (c50:PySem.W.codeIn K cd50 "_law_spoilt" = true) (k50:PySem.W.keepIn K (.ref f50) = true)
    (a51:PySem.W.nsIn K mainGlobals "_law_each" = some (some (.ref f51))) (l51:K.lookup f51 = some ⟨oc51,od51,.func (PySem.W.fnOf "_law_each" "_law_each" (ah dS) (ag dS) (ac dS) .none kV51 dc51 pm51 an51 cd51 ct51),sl51⟩) (c51:PySem.W.codeIn K cd51 "_law_each" = true) (k51:PySem.W.keepIn K (.ref f51) = true)
    (a52:PySem.W.nsIn K mainGlobals "_law_plan_of" = some (some (.ref f52))) (l52:K.lookup f52 = some ⟨oc52,od52,.func (PySem.W.fnOf "_law_plan_of" "_law_plan_of" (ah ci) (ag ci) (ac ci) .none kV52 dc52 pm52 an52 cd52 ct52),sl52⟩) (c52:PySem.W.codeIn K cd52 "_law_plan_of" = true) (k52:PySem.W.keepIn K (.ref f52) = true)
    (a53:PySem.W.nsIn K mainGlobals "_law_call" = some (some (.ref f53))) (l53:K.lookup f53 = some ⟨oc53,od53,.func (PySem.W.fnOf "_law_call" "_law_call" (ah dR) (ag dR) (ac dR) .none kV53 dc53 pm53 an53 cd53 ct53),sl53⟩) (c53:PySem.W.codeIn K cd53 "_law_call" = true) (k53:PySem.W.keepIn K (.ref f53) = true)
    (a54:PySem.W.nsIn K mainGlobals "_law_told" = some (some (.ref f54))) (l54:K.lookup f54 = some ⟨oc54,od54,.func (PySem.W.fnOf "_law_told" "_law_told" (ah dM) (ag dM) (ac dM) .none kV54 dc54 pm54 an54 cd54 ct54),sl54⟩) (c54:PySem.W.codeIn K cd54 "_law_told" = true) (k54:PySem.W.keepIn K (.ref f54) = true)
    (a55:PySem.W.nsIn K mainGlobals "_law_right" = some (some (.ref f55))) (l55:K.lookup f55 = some ⟨oc55,od55,.func (PySem.W.fnOf "_law_right" "_law_right" (ah dr) (ag dr) (ac dr) .none kV55 dc55 pm55 an55 cd55 ct55),sl55⟩) (c55:PySem.W.codeIn K cd55 "_law_right" = true) (k55:PySem.W.keepIn K (.ref f55) = true)
    (a56:PySem.W.nsIn K mainGlobals "law" = some (some (.ref f56))) (l56:K.lookup f56 = some ⟨oc56,od56,.func (PySem.W.fnOf "law" "law" (ah gY) (ag gY) (ac gY) .none kV56 dc56 pm56 an56 cd56 ct56),sl56⟩) (c56:PySem.W.codeIn K cd56 "law" = true) (k56:PySem.W.keepIn K (.ref f56) = true)
    (b_NOUGHT:PySem.W.nsIn K mainGlobals "NOUGHT" = some (some (.ref k_NOUGHT))) (bt_NOUGHT:js K k_NOUGHT [(.int 0),(.int 1)] = true)
    (b_WHOLE:PySem.W.nsIn K mainGlobals "WHOLE" = some (some (.ref k_WHOLE))) (bt_WHOLE:js K k_WHOLE [(.int 1),(.int 1)] = true)
    (b0:PySem.W.nsIn K mainGlobals "LETTERS" = some (some u0))
    (b1:PySem.W.nsIn K mainGlobals "MOST_LETTERS" = some (some u1))
    (b2:PySem.W.nsIn K mainGlobals "MOST_UNITS" = some (some u2))
    (b3:PySem.W.nsIn K mainGlobals "MOST_LEVELS" = some (some u3))
    (b4:PySem.W.nsIn K mainGlobals "VALUE_BOUND" = some (some u4))
    (b5:PySem.W.nsIn K mainGlobals "MOST_SIZE" = some (some u5))
    (b6:PySem.W.nsIn K mainGlobals "UNIT_PARTS" = some (some u6))
    (b7:PySem.W.nsIn K mainGlobals "MOST_MANY" = some (some u7))
    (ca_SpeakError:PySem.W.nsIn K mainGlobals "SpeakError" = some (some (.ref c_SpeakError))) (cb_SpeakError:PySem.W.keepIn K (.ref c_SpeakError) = true) (cc_SpeakError:kB K c_SpeakError = true)
    (cx_SpeakError:xIn K c_SpeakError none = true)
    (ca_NoUnits:PySem.W.nsIn K mainGlobals "NoUnits" = some (some (.ref c_NoUnits))) (cb_NoUnits:PySem.W.keepIn K (.ref c_NoUnits) = true) (cc_NoUnits:kB K c_NoUnits = true)
    (cx_NoUnits:xIn K c_NoUnits none = true)
    (ca_NoPlan:PySem.W.nsIn K mainGlobals "NoPlan" = some (some (.ref c_NoPlan))) (cb_NoPlan:PySem.W.keepIn K (.ref c_NoPlan) = true) (cc_NoPlan:kB K c_NoPlan = true)
    (cf_NoPlan:PySem.W.findIn K (.ref c_NoPlan) "__init__" = some (some (.ref i_NoPlan))) (cx_NoPlan:xIn K c_NoPlan (some (.ref i_NoPlan)) = true) (cg_NoPlan:PySem.W.isFn K (.ref i_NoPlan) = true)
    (cl_NoPlan:K.lookup i_NoPlan = some ⟨oc_8,od_8,.func (PySem.W.fnOf "__init__" "NoPlan.__init__" (ah aU) (ag aU) (ac aU) .none kV_8 dc_8 pm_8 an_8 cd_8 ct_8),sl_8⟩) (co_NoPlan:PySem.W.codeIn K cd_8 "NoPlan.__init__" = true) (ck_NoPlan:PySem.W.keepIn K (.ref i_NoPlan) = true)
    (cs_NoPlan_place:qL K c_NoPlan "place" = true)
    (ca_NoLevel:PySem.W.nsIn K mainGlobals "NoLevel" = some (some (.ref c_NoLevel))) (cb_NoLevel:PySem.W.keepIn K (.ref c_NoLevel) = true) (cc_NoLevel:kB K c_NoLevel = true)
    (cx_NoLevel:xIn K c_NoLevel none = true)
    (ca_NoSpread:PySem.W.nsIn K mainGlobals "NoSpread" = some (some (.ref c_NoSpread))) (cb_NoSpread:PySem.W.keepIn K (.ref c_NoSpread) = true) (cc_NoSpread:kB K c_NoSpread = true)
    (cf_NoSpread:PySem.W.findIn K (.ref c_NoSpread) "__init__" = some (some (.ref i_NoSpread))) (cx_NoSpread:xIn K c_NoSpread (some (.ref i_NoSpread)) = true) (cg_NoSpread:PySem.W.isFn K (.ref i_NoSpread) = true)
    (cl_NoSpread:K.lookup i_NoSpread = some ⟨oc_9,od_9,.func (PySem.W.fnOf "__init__" "NoSpread.__init__" (ah aE) (ag aE) (ac aE) .none kV_9 dc_9 pm_9 an_9 cd_9 ct_9),sl_9⟩) (co_NoSpread:PySem.W.codeIn K cd_9 "NoSpread.__init__" = true) (ck_NoSpread:PySem.W.keepIn K (.ref i_NoSpread) = true)
    (cs_NoSpread_one:qL K c_NoSpread "one" = true)
    (cs_NoSpread_other:qL K c_NoSpread "other" = true)
    (ca_Plan:PySem.W.nsIn K mainGlobals "Plan" = some (some (.ref c_Plan))) (pa_Plan:PySem.W.plainGet K c_Plan Str.empty = true) (pb_Plan:PySem.W.hasDictIn K c_Plan = true) (pc_Plan:PySem.W.plainOver K c_Plan = true)
    (pd_Plan:PySem.W.findIn K (.ref c_Plan) "__setattr__" = some (some (.builtin "object.__setattr__"))) (pe_Plan:PySem.W.findIn K (.ref c_Plan) "__class__" = some (some (.builtin "object.__class__"))) (pf_Plan:PySem.W.specialIn K (.builtin "object.__class__") "__get__" = some (some (.builtin "getset_descriptor.__get__"))) (pg_Plan:PySem.W.takesIn K (.builtin "object.__class__") = some true) (ph_Plan:PySem.W.mroIn K c_Plan (.type "object") = some true)
    (ca_Few:PySem.W.nsIn K mainGlobals "Few" = some (some (.ref c_Few))) (pa_Few:PySem.W.plainGet K c_Few Str.empty = true) (pb_Few:PySem.W.hasDictIn K c_Few = true) (pc_Few:PySem.W.plainOver K c_Few = true)
    (pd_Few:PySem.W.findIn K (.ref c_Few) "__setattr__" = some (some (.builtin "object.__setattr__"))) (pe_Few:PySem.W.findIn K (.ref c_Few) "__class__" = some (some (.builtin "object.__class__"))) (pf_Few:PySem.W.specialIn K (.builtin "object.__class__") "__get__" = some (some (.builtin "getset_descriptor.__get__"))) (pg_Few:PySem.W.takesIn K (.builtin "object.__class__") = some true) (ph_Few:PySem.W.mroIn K c_Few (.type "object") = some true)
    (qa_Few:PySem.W.makesIn K c_Few = true) (qb_Few:PySem.W.findIn K (.ref c_Few) "__init__" = some (some (.ref i_Few))) (qc_Few:PySem.W.isFn K (.ref i_Few) = true) (qd_Few:PySem.W.keepIn K (.ref c_Few) = true)
    (qn_Few_many:PySem.W.findIn K (.ref c_Few) "many" = some none)
    (cl_Few:K.lookup i_Few = some ⟨oc_3,od_3,.func (PySem.W.fnOf "__init__" "Few.__init__" (ah ba) (ag ba) (ac ba) .none kV_3 dc_3 pm_3 an_3 cd_3 ct_3),sl_3⟩) (co_Few:PySem.W.codeIn K cd_3 "Few.__init__" = true) (ck_Few:PySem.W.keepIn K (.ref i_Few) = true)
    (ca_Each:PySem.W.nsIn K mainGlobals "Each" = some (some (.ref c_Each))) (pa_Each:PySem.W.plainGet K c_Each Str.empty = true) (pb_Each:PySem.W.hasDictIn K c_Each = true) (pc_Each:PySem.W.plainOver K c_Each = true)
    (pd_Each:PySem.W.findIn K (.ref c_Each) "__setattr__" = some (some (.builtin "object.__setattr__"))) (pe_Each:PySem.W.findIn K (.ref c_Each) "__class__" = some (some (.builtin "object.__class__"))) (pf_Each:PySem.W.specialIn K (.builtin "object.__class__") "__get__" = some (some (.builtin "getset_descriptor.__get__"))) (pg_Each:PySem.W.takesIn K (.builtin "object.__class__") = some true) (ph_Each:PySem.W.mroIn K c_Each (.type "object") = some true)
    (qa_Each:PySem.W.makesIn K c_Each = true) (qb_Each:PySem.W.findIn K (.ref c_Each) "__init__" = some (some (.ref i_Each))) (qc_Each:PySem.W.isFn K (.ref i_Each) = true) (qd_Each:PySem.W.keepIn K (.ref c_Each) = true)
    (qn_Each_inside:PySem.W.findIn K (.ref c_Each) "inside" = some none)
    (cl_Each:K.lookup i_Each = some ⟨oc_0,od_0,.func (PySem.W.fnOf "__init__" "Each.__init__" (ah aW) (ag aW) (ac aW) .none kV_0 dc_0 pm_0 an_0 cd_0 ct_0),sl_0⟩) (co_Each:PySem.W.codeIn K cd_0 "Each.__init__" = true) (ck_Each:PySem.W.keepIn K (.ref i_Each) = true)
    (ca_First:PySem.W.nsIn K mainGlobals "First" = some (some (.ref c_First))) (pa_First:PySem.W.plainGet K c_First Str.empty = true) (pb_First:PySem.W.hasDictIn K c_First = true) (pc_First:PySem.W.plainOver K c_First = true)
    (pd_First:PySem.W.findIn K (.ref c_First) "__setattr__" = some (some (.builtin "object.__setattr__"))) (pe_First:PySem.W.findIn K (.ref c_First) "__class__" = some (some (.builtin "object.__class__"))) (pf_First:PySem.W.specialIn K (.builtin "object.__class__") "__get__" = some (some (.builtin "getset_descriptor.__get__"))) (pg_First:PySem.W.takesIn K (.builtin "object.__class__") = some true) (ph_First:PySem.W.mroIn K c_First (.type "object") = some true)
    (qa_First:PySem.W.makesIn K c_First = true) (qb_First:PySem.W.findIn K (.ref c_First) "__init__" = some (some (.ref i_First))) (qc_First:PySem.W.isFn K (.ref i_First) = true) (qd_First:PySem.W.keepIn K (.ref c_First) = true)
    (qn_First_outside:PySem.W.findIn K (.ref c_First) "outside" = some none)
    (qn_First_inside:PySem.W.findIn K (.ref c_First) "inside" = some none)
    (cl_First:K.lookup i_First = some ⟨oc_6,od_6,.func (PySem.W.fnOf "__init__" "First.__init__" (ah aP) (ag aP) (ac aP) .none kV_6 dc_6 pm_6 an_6 cd_6 ct_6),sl_6⟩) (co_First:PySem.W.codeIn K cd_6 "First.__init__" = true) (ck_First:PySem.W.keepIn K (.ref i_First) = true)
    (mf_4:PySem.W.findIn K (.ref c_Few) "matrix" = some (some (.ref x_Few_matrix)))
    (ml_4:K.lookup x_Few_matrix = some ⟨oc_4,od_4,.func (PySem.W.fnOf "matrix" "Few.matrix" (ah bh) (ag bh) (ac bh) .none kV_4 dc_4 pm_4 an_4 cd_4 ct_4),sl_4⟩) (mo_4:PySem.W.codeIn K cd_4 "Few.matrix" = true) (mk_4:PySem.W.keepIn K (.ref x_Few_matrix) = true) (mi_4:PySem.W.isFn K (.ref x_Few_matrix) = true)
    (mf_1:PySem.W.findIn K (.ref c_Each) "matrix" = some (some (.ref x_Each_matrix)))
    (ml_1:K.lookup x_Each_matrix = some ⟨oc_1,od_1,.func (PySem.W.fnOf "matrix" "Each.matrix" (ah aY) (ag aY) (ac aY) .none kV_1 dc_1 pm_1 an_1 cd_1 ct_1),sl_1⟩) (mo_1:PySem.W.codeIn K cd_1 "Each.matrix" = true) (mk_1:PySem.W.keepIn K (.ref x_Each_matrix) = true) (mi_1:PySem.W.isFn K (.ref x_Each_matrix) = true)
    (mf_5:PySem.W.findIn K (.ref c_Few) "need_levels" = some (some (.ref x_Plan_need_levels)))
    (ml_a:K.lookup x_Plan_need_levels = some ⟨oc_a,od_a,.func (PySem.W.fnOf "need_levels" "Plan.need_levels" (ah aJ) (ag aJ) (ac aJ) .none kV_a dc_a pm_a an_a cd_a ct_a),sl_a⟩) (mo_a:PySem.W.codeIn K cd_a "Plan.need_levels" = true) (mk_a:PySem.W.keepIn K (.ref x_Plan_need_levels) = true) (mi_a:PySem.W.isFn K (.ref x_Plan_need_levels) = true)
    (mf_2:PySem.W.findIn K (.ref c_Each) "need_levels" = some (some (.ref x_Each_need_levels)))
    (ml_2:K.lookup x_Each_need_levels = some ⟨oc_2,od_2,.func (PySem.W.fnOf "need_levels" "Each.need_levels" (ah aI) (ag aI) (ac aI) .none kV_2 dc_2 pm_2 an_2 cd_2 ct_2),sl_2⟩) (mo_2:PySem.W.codeIn K cd_2 "Each.need_levels" = true) (mk_2:PySem.W.keepIn K (.ref x_Each_need_levels) = true) (mi_2:PySem.W.isFn K (.ref x_Each_need_levels) = true)
    (mf_7:PySem.W.findIn K (.ref c_First) "need_levels" = some (some (.ref x_First_need_levels)))
    (ml_7:K.lookup x_First_need_levels = some ⟨oc_7,od_7,.func (PySem.W.fnOf "need_levels" "First.need_levels" (ah aD) (ag aD) (ac aD) .none kV_7 dc_7 pm_7 an_7 cd_7 ct_7),sl_7⟩) (mo_7:PySem.W.codeIn K cd_7 "First.need_levels" = true) (mk_7:PySem.W.keepIn K (.ref x_First_need_levels) = true) (mi_7:PySem.W.isFn K (.ref x_First_need_levels) = true)
    (lca_d:cd29 = .ref lc_spread_told) (lct_d:K.lookup lc_spread_told = some ⟨lo_d,lod_d,.fields lvs_d,lsl_d⟩) (lcq_d:lvs_d[11]? = some (.ref lp_spread_told)) (lch_spread_told:PySem.W.codeHdIn K lc_spread_told lp_spread_told = true)
    (lca_c:cd28 = .ref lc_spread_by) (lct_c:K.lookup lc_spread_by = some ⟨lo_c,lod_c,.fields lvs_c,lsl_c⟩) (lcq_c:lvs_c[11]? = some (.ref lp_spread_by)) (lch_spread_by:PySem.W.codeHdIn K lc_spread_by lp_spread_by = true)
    (lca_b:cd38 = .ref lc_groups_matrix) (lct_b:K.lookup lc_groups_matrix = some ⟨lo_b,lod_b,.fields lvs_b,lsl_b⟩) (lcq_b:lvs_b[11]? = some (.ref lp_groups_matrix)) (lch_groups_matrix:PySem.W.codeHdIn K lc_groups_matrix lp_groups_matrix = true)
    (lca_1:cd_1 = .ref lc_Each_matrix) (lct_1:K.lookup lc_Each_matrix = some ⟨lo_1,lod_1,.fields lvs_1,lsl_1⟩) (lcq_1:lvs_1[11]? = some (.ref lp_Each_matrix)) (lch_Each_matrix:PySem.W.codeHdIn K lc_Each_matrix lp_Each_matrix = true)
    (lca_4:cd_4 = .ref lc_Few_matrix) (lct_4:K.lookup lc_Few_matrix = some ⟨lo_4,lod_4,.fields lvs_4,lsl_4⟩) (lcq_4:lvs_4[11]? = some (.ref lp_Few_matrix)) (lch_Few_matrix:PySem.W.codeHdIn K lc_Few_matrix lp_Few_matrix = true)
    (ltnd:([lp_spread_told,lp_spread_by,lp_groups_matrix,lp_Each_matrix,lp_Few_matrix]:List Addr).Nodup)
    (fact_mNoUnits:iN K c_NoUnits c_SpeakError = true)
    (fact_vNoUnits:PySem.W.kitOne K (.ref c_NoUnits) (.type "ValueError") = some true)
    (fact_kNoUnitsNoUnits:PySem.W.kitOne K (.ref c_NoUnits) (.ref c_NoUnits) = some true)
    (fact_kNoUnitsNoLevel:PySem.W.kitOne K (.ref c_NoUnits) (.ref c_NoLevel) = some false)
    (fact_kNoUnitsNoSpread:PySem.W.kitOne K (.ref c_NoUnits) (.ref c_NoSpread) = some false)
    (fact_mNoLevel:iN K c_NoLevel c_SpeakError = true)
    (fact_vNoLevel:PySem.W.kitOne K (.ref c_NoLevel) (.type "ValueError") = some true)
    (fact_kNoLevelNoUnits:PySem.W.kitOne K (.ref c_NoLevel) (.ref c_NoUnits) = some false)
    (fact_kNoLevelNoLevel:PySem.W.kitOne K (.ref c_NoLevel) (.ref c_NoLevel) = some true)
    (fact_kNoLevelNoSpread:PySem.W.kitOne K (.ref c_NoLevel) (.ref c_NoSpread) = some false)
    (fact_mNoSpread:iN K c_NoSpread c_SpeakError = true)
    (fact_vNoSpread:PySem.W.kitOne K (.ref c_NoSpread) (.type "ValueError") = some true)
    (fact_kNoSpreadNoUnits:PySem.W.kitOne K (.ref c_NoSpread) (.ref c_NoUnits) = some false)
    (fact_kNoSpreadNoLevel:PySem.W.kitOne K (.ref c_NoSpread) (.ref c_NoLevel) = some false)
    (fact_kNoSpreadNoSpread:PySem.W.kitOne K (.ref c_NoSpread) (.ref c_NoSpread) = some true)
    (z0:PySem.W.nsIn K mainGlobals "ValueError" = some none)
    (z1:PySem.W.nsIn K mainGlobals "abs" = some none)
    (z2:PySem.W.nsIn K mainGlobals "all" = some none)
    (z3:PySem.W.nsIn K mainGlobals "bool" = some none)
    (z4:PySem.W.nsIn K mainGlobals "enumerate" = some none)
    (z5:PySem.W.nsIn K mainGlobals "int" = some none)
    (z6:PySem.W.nsIn K mainGlobals "isinstance" = some none)
    (z7:PySem.W.nsIn K mainGlobals "len" = some none)
    (z8:PySem.W.nsIn K mainGlobals "list" = some none)
    (z9:PySem.W.nsIn K mainGlobals "max" = some none)
    (z10:PySem.W.nsIn K mainGlobals "min" = some none)
    (z11:PySem.W.nsIn K mainGlobals "range" = some none)
    (z12:PySem.W.nsIn K mainGlobals "str" = some none)
    (z13:PySem.W.nsIn K mainGlobals "sum" = some none)
    (z14:PySem.W.nsIn K mainGlobals "tuple" = some none) (r0:RelV (.str "abcdefghijklmnopqrstuvwxyz") u0) (r1:RelV (.int 8) u1) (r2:RelV (.int 24) u2) (r3:RelV (.int 3) u3) (r4:RelV (.int 1000000000) u4) (r5:RelV (.int 1000000) u5) (r6:RelV (.int 4) u6) (r7:RelV (.int 24) u7):∃ a:Ad,Txt K mg a∧(tabs a).map (·.1) = [lp_spread_told,lp_spread_by,lp_groups_matrix,lp_Each_matrix,lp_Few_matrix]:=by
  refine ⟨{ f_greatest_divisor:=f0,d_greatest_divisor:=PySem.W.fnOf "greatest_divisor" "greatest_divisor" (ah aL) (ag aL) (ac aL) .none kV0 dc0 pm0 an0 cd0 ct0,f_least_multiple:=f1,d_least_multiple:=PySem.W.fnOf "least_multiple" "least_multiple" (ah aQ) (ag aQ) (ac aQ) .none kV1 dc1 pm1 an1 cd1 ct1,f_share:=f2,d_share:=PySem.W.fnOf "share" "share" (ah eE) (ag eE) (ac eE) .none kV2 dc2 pm2 an2 cd2 ct2,f_minus:=f3,d_minus:=PySem.W.fnOf "minus" "minus" (ah eu) (ag eu) (ac eu) .none kV3 dc3 pm3 an3 cd3 ct3,f_times:=f4,d_times:=PySem.W.fnOf "times" "times" (ah eC) (ag eC) (ac eC) .none kV4 dc4 pm4 an4 cd4 ct4,f_over:=f5,d_over:=PySem.W.fnOf "over" "over" (ah ft) (ag ft) (ac ft) .none kV5 dc5 pm5 an5 cd5 ct5,f_total:=f6,d_total:=PySem.W.fnOf "total" "total" (ah eB) (ag eB) (ac eB) .none kV6 dc6 pm6 an6 cd6 ct6,f_is_whole:=f7,d_is_whole:=PySem.W.fnOf "is_whole" "is_whole" (ah cA) (ag cA) (ac cA) .none kV7 dc7 pm7 an7 cd7 ct7,f_is_made_of:=f8,d_is_made_of:=PySem.W.fnOf "is_made_of" "is_made_of" (ah bq) (ag bq) (ac bq) .none kV8 dc8 pm8 an8 cd8 ct8,f_is_name:=f9,d_is_name:=PySem.W.fnOf "is_name" "is_name" (ah du) (ag du) (ac du) .none kV9 dc9 pm9 an9 cd9 ct9,f_has_listing_length:=f10,d_has_listing_length:=PySem.W.fnOf "has_listing_length" "has_listing_length" (ah aC) (ag aC) (ac aC) .none kV10 dc10 pm10 an10 cd10 ct10,f_is_path:=f11,d_is_path:=PySem.W.fnOf "is_path" "is_path" (ah dj) (ag dj) (ac dj) .none kV11 dc11 pm11 an11 cd11 ct11,f_is_unit:=f12,d_is_unit:=PySem.W.fnOf "is_unit" "is_unit" (ah di) (ag di) (ac di) .none kV12 dc12 pm12 an12 cd12 ct12,f_is_new_name:=f13,d_is_new_name:=PySem.W.fnOf "is_new_name" "is_new_name" (ah bg) (ag bg) (ac bg) .none kV13 dc13 pm13 an13 cd13 ct13,f_has_path_length:=f14,d_has_path_length:=PySem.W.fnOf "has_path_length" "has_path_length" (ah aN) (ag aN) (ac aN) .none kV14 dc14 pm14 an14 cd14 ct14,f_need_units:=f15,d_need_units:=PySem.W.fnOf "need_units" "need_units" (ah bp) (ag bp) (ac bp) .none kV15 dc15 pm15 an15 cd15 ct15,f_values_of:=f16,d_values_of:=PySem.W.fnOf "values_of" "values_of" (ah cg) (ag cg) (ac cg) .none kV16 dc16 pm16 an16 cd16 ct16,f_crowd_of:=f17,d_crowd_of:=PySem.W.fnOf "crowd_of" "crowd_of" (ah cE) (ag cE) (ac cE) .none kV17 dc17 pm17 an17 cd17 ct17,f_groups_of:=f18,d_groups_of:=PySem.W.fnOf "groups_of" "groups_of" (ah cf) (ag cf) (ac cf) .none kV18 dc18 pm18 an18 cd18 ct18,f_matrix_by:=f19,d_matrix_by:=PySem.W.fnOf "matrix_by" "matrix_by" (ah cb) (ag cb) (ac cb) .none kV19 dc19 pm19 an19 cd19 ct19,f_matrix_row:=f20,d_matrix_row:=PySem.W.fnOf "matrix_row" "matrix_row" (ah bn) (ag bn) (ac bn) .none kV20 dc20 pm20 an20 cd20 ct20,f_need_number:=f21,d_need_number:=PySem.W.fnOf "need_number" "need_number" (ah bf) (ag bf) (ac bf) .none kV21 dc21 pm21 an21 cd21 ct21,f_few_chance:=f22,d_few_chance:=PySem.W.fnOf "few_chance" "few_chance" (ah bj) (ag bj) (ac bj) .none kV22 dc22 pm22 an22 cd22 ct22,f_chances:=f23,d_chances:=PySem.W.fnOf "chances" "chances" (ah dw) (ag dw) (ac dw) .none kV23 dc23 pm23 an23 cd23 ct23,f_true_sum:=f24,d_true_sum:=PySem.W.fnOf "true_sum" "true_sum" (ah cG) (ag cG) (ac cG) .none kV24 dc24 pm24 an24 cd24 ct24,f_mean_told:=f25,d_mean_told:=PySem.W.fnOf "mean_told" "mean_told" (ah ce) (ag ce) (ac ce) .none kV25 dc25 pm25 an25 cd25 ct25,f_sum_told:=f26,d_sum_told:=PySem.W.fnOf "sum_told" "sum_told" (ah cD) (ag cD) (ac cD) .none kV26 dc26 pm26 an26 cd26 ct26,f_spread:=f27,d_spread:=PySem.W.fnOf "spread" "spread" (ah dL) (ag dL) (ac dL) .none kV27 dc27 pm27 an27 cd27 ct27,f_spread_by:=f28,d_spread_by:=PySem.W.fnOf "spread_by" "spread_by" (ah br) (ag br) (ac br) .none kV28 dc28 pm28 an28 cd28 ct28,f_spread_told:=f29,d_spread_told:=PySem.W.fnOf "spread_told" "spread_told" (ah aX) (ag aX) (ac aX) .none kV29 dc29 pm29 an29 cd29 ct29,f_places_with_share:=f30,d_places_with_share:=PySem.W.fnOf "places_with_share" "places_with_share" (ah aF) (ag aF) (ac aF) .none kV30 dc30 pm30 an30 cd30 ct30,f_never_together:=f31,d_never_together:=PySem.W.fnOf "never_together" "never_together" (ah aR) (ag aR) (ac aR) .none kV31 dc31 pm31 an31 cd31 ct31,f_pairs_total:=f32,d_pairs_total:=PySem.W.fnOf "pairs_total" "pairs_total" (ah be) (ag be) (ac be) .none kV32 dc32 pm32 an32 cd32 ct32,f_raised:=f33,d_raised:=PySem.W.fnOf "raised" "raised" (ah dZ) (ag dZ) (ac dZ) .none kV33 dc33 pm33 an33 cd33 ct33,f_spread_part:=f34,d_spread_part:=PySem.W.fnOf "spread_part" "spread_part" (ah bd) (ag bd) (ac bd) .none kV34 dc34 pm34 an34 cd34 ct34,f_told_part:=f35,d_told_part:=PySem.W.fnOf "told_part" "told_part" (ah cv) (ag cv) (ac cv) .none kV35 dc35 pm35 an35 cd35 ct35,f_parted:=f36,d_parted:=PySem.W.fnOf "parted" "parted" (ah dO) (ag dO) (ac dO) .none kV36 dc36 pm36 an36 cd36 ct36,f_spots_of:=f37,d_spots_of:=PySem.W.fnOf "spots_of" "spots_of" (ah cF) (ag cF) (ac cF) .none kV37 dc37 pm37 an37 cd37 ct37,f_groups_matrix:=f38,d_groups_matrix:=PySem.W.fnOf "groups_matrix" "groups_matrix" (ah aO) (ag aO) (ac aO) .none kV38 dc38 pm38 an38 cd38 ct38,f_spots_chance:=f39,d_spots_chance:=PySem.W.fnOf "spots_chance" "spots_chance" (ah bb) (ag bb) (ac bb) .none kV39 dc39 pm39 an39 cd39 ct39,f_need_group_names:=f40,d_need_group_names:=PySem.W.fnOf "need_group_names" "need_group_names" (ah aK) (ag aK) (ac aK) .none kV40 dc40 pm40 an40 cd40 ct40,f_hidden:=f41,d_hidden:=PySem.W.fnOf "hidden" "hidden" (ah dP) (ag dP) (ac dP) .none kV41 dc41 pm41 an41 cd41 ct41,f_never_drawn:=f42,d_never_drawn:=PySem.W.fnOf "never_drawn" "never_drawn" (ah bc) (ag bc) (ac bc) .none kV42 dc42 pm42 an42 cd42 ct42,f_unspoken:=f43,d_unspoken:=PySem.W.fnOf "unspoken" "unspoken" (ah cz) (ag cz) (ac cz) .none kV43 dc43 pm43 an43 cd43 ct43,f_ones_at:=f44,d_ones_at:=PySem.W.fnOf "ones_at" "ones_at" (ah dl) (ag dl) (ac dl) .none kV44 dc44 pm44 an44 cd44 ct44,f_L_cell:=f45,d_L_cell:=PySem.W.fnOf "_law_cell" "_law_cell" (ah dJ) (ag dJ) (ac dJ) .none kV45 dc45 pm45 an45 cd45 ct45,f_L_mix:=f46,d_L_mix:=PySem.W.fnOf "_law_mix" "_law_mix" (ah eA) (ag eA) (ac eA) .none kV46 dc46 pm46 an46 cd46 ct46,f_L_digits:=f47,d_L_digits:=PySem.W.fnOf "_law_digits" "_law_digits" (ah cy) (ag cy) (ac cy) .none kV47 dc47 pm47 an47 cd47 ct47,f_L_take:=f48,d_L_take:=PySem.W.fnOf "_law_take" "_law_take" (ah dN) (ag dN) (ac dN) .none kV48 dc48 pm48 an48 cd48 ct48,f_L_units:=f49,d_L_units:=PySem.W.fnOf "_law_units" "_law_units" (ah dk) (ag dk) (ac dk) .none kV49 dc49 pm49 an49 cd49 ct49,f_L_spoilt:=f50,d_L_spoilt:=PySem.W.fnOf "_law_spoilt" "_law_spoilt" (ah cH) (ag cH) (ac cH) .none kV50 dc50 pm50 an50 cd50 ct50,f_L_each:=f51,d_L_each:=PySem.W.fnOf "_law_each" "_law_each" (ah dS) (ag dS) (ac dS) .none kV51 dc51 pm51 an51 cd51 ct51,f_L_plan_of:=f52,d_L_plan_of:=PySem.W.fnOf "_law_plan_of" "_law_plan_of" (ah ci) (ag ci) (ac ci) .none kV52 dc52 pm52 an52 cd52 ct52,f_L_call:=f53,d_L_call:=PySem.W.fnOf "_law_call" "_law_call" (ah dR) (ag dR) (ac dR) .none kV53 dc53 pm53 an53 cd53 ct53,f_L_told:=f54,d_L_told:=PySem.W.fnOf "_law_told" "_law_told" (ah dM) (ag dM) (ac dM) .none kV54 dc54 pm54 an54 cd54 ct54,f_L_right:=f55,d_L_right:=PySem.W.fnOf "_law_right" "_law_right" (ah dr) (ag dr) (ac dr) .none kV55 dc55 pm55 an55 cd55 ct55,f_law:=f56,d_law:=PySem.W.fnOf "law" "law" (ah gY) (ag gY) (ac gY) .none kV56 dc56 pm56 an56 cd56 ct56,c_SpeakError:=c_SpeakError,c_NoUnits:=c_NoUnits,c_NoPlan:=c_NoPlan,i_NoPlan:=i_NoPlan,e_NoPlan:=PySem.W.fnOf "__init__" "NoPlan.__init__" (ah aU) (ag aU) (ac aU) .none kV_8 dc_8 pm_8 an_8 cd_8 ct_8,c_NoLevel:=c_NoLevel,c_NoSpread:=c_NoSpread,i_NoSpread:=i_NoSpread,e_NoSpread:=PySem.W.fnOf "__init__" "NoSpread.__init__" (ah aE) (ag aE) (ac aE) .none kV_9 dc_9 pm_9 an_9 cd_9 ct_9,c_Plan:=c_Plan,c_Few:=c_Few,i_Few:=i_Few,e_Few:=PySem.W.fnOf "__init__" "Few.__init__" (ah ba) (ag ba) (ac ba) .none kV_3 dc_3 pm_3 an_3 cd_3 ct_3,c_Each:=c_Each,i_Each:=i_Each,e_Each:=PySem.W.fnOf "__init__" "Each.__init__" (ah aW) (ag aW) (ac aW) .none kV_0 dc_0 pm_0 an_0 cd_0 ct_0,c_First:=c_First,i_First:=i_First,e_First:=PySem.W.fnOf "__init__" "First.__init__" (ah aP) (ag aP) (ac aP) .none kV_6 dc_6 pm_6 an_6 cd_6 ct_6,x_Few_matrix:=x_Few_matrix,y_Few_matrix:=PySem.W.fnOf "matrix" "Few.matrix" (ah bh) (ag bh) (ac bh) .none kV_4 dc_4 pm_4 an_4 cd_4 ct_4,x_Each_matrix:=x_Each_matrix,y_Each_matrix:=PySem.W.fnOf "matrix" "Each.matrix" (ah aY) (ag aY) (ac aY) .none kV_1 dc_1 pm_1 an_1 cd_1 ct_1,x_Plan_need_levels:=x_Plan_need_levels,y_Plan_need_levels:=PySem.W.fnOf "need_levels" "Plan.need_levels" (ah aJ) (ag aJ) (ac aJ) .none kV_a dc_a pm_a an_a cd_a ct_a,x_Each_need_levels:=x_Each_need_levels,y_Each_need_levels:=PySem.W.fnOf "need_levels" "Each.need_levels" (ah aI) (ag aI) (ac aI) .none kV_2 dc_2 pm_2 an_2 cd_2 ct_2,x_First_need_levels:=x_First_need_levels,y_First_need_levels:=PySem.W.fnOf "need_levels" "First.need_levels" (ah aD) (ag aD) (ac aD) .none kV_7 dc_7 pm_7 an_7 cd_7 ct_7,k_NOUGHT:=k_NOUGHT,k_WHOLE:=k_WHOLE,lc_spread_told:=lc_spread_told,lp_spread_told:=lp_spread_told,lc_spread_by:=lc_spread_by,lp_spread_by:=lp_spread_by,lc_groups_matrix:=lc_groups_matrix,lp_groups_matrix:=lp_groups_matrix,lc_Each_matrix:=lc_Each_matrix,lp_Each_matrix:=lp_Each_matrix,lc_Few_matrix:=lc_Few_matrix,lp_Few_matrix:=lp_Few_matrix },?_,rfl⟩
  exact {
    lcd_spread_told:=lca_d
    lch_spread_told:=lch_spread_told
    lcd_spread_by:=lca_c
    lch_spread_by:=lch_spread_by
    lcd_groups_matrix:=lca_b
    lch_groups_matrix:=lch_groups_matrix
    lcd_Each_matrix:=lca_1
    lch_Each_matrix:=lch_Each_matrix
    lcd_Few_matrix:=lca_4
    lch_Few_matrix:=lch_Few_matrix
    tnd:=ltnd
    F_greatest_divisor:=al (st:=aL) l0 c0 k0
    B_greatest_divisor:=(al (st:=aL) l0 c0 k0).binds (ps:=["one", "other"]) fun _ _ _ _ _ _ us hl=>(by obtain ⟨_,_,rfl⟩:=us2 hl; rfl)
    m_greatest_divisor:=PySem.W.mg_of X G a0
    F_least_multiple:=al (st:=aQ) l1 c1 k1
    B_least_multiple:=(al (st:=aQ) l1 c1 k1).binds (ps:=["numbers"]) fun _ _ _ _ _ _ us hl=>(by obtain ⟨_,rfl⟩:=us1 hl; rfl)
    m_least_multiple:=PySem.W.mg_of X G a1
    F_share:=al (st:=eE) l2 c2 k2
    B_share:=(al (st:=eE) l2 c2 k2).binds (ps:=["top", "bottom"]) fun _ _ _ _ _ _ us hl=>(by obtain ⟨_,_,rfl⟩:=us2 hl; rfl)
    m_share:=PySem.W.mg_of X G a2
    F_minus:=al (st:=eu) l3 c3 k3
    B_minus:=(al (st:=eu) l3 c3 k3).binds (ps:=["one", "other"]) fun _ _ _ _ _ _ us hl=>(by obtain ⟨_,_,rfl⟩:=us2 hl; rfl)
    m_minus:=PySem.W.mg_of X G a3
    F_times:=al (st:=eC) l4 c4 k4
    B_times:=(al (st:=eC) l4 c4 k4).binds (ps:=["one", "other"]) fun _ _ _ _ _ _ us hl=>(by obtain ⟨_,_,rfl⟩:=us2 hl; rfl)
    m_times:=PySem.W.mg_of X G a4
    F_over:=al (st:=ft) l5 c5 k5
    B_over:=(al (st:=ft) l5 c5 k5).binds (ps:=["one", "other"]) fun _ _ _ _ _ _ us hl=>(by obtain ⟨_,_,rfl⟩:=us2 hl; rfl)
    m_over:=PySem.W.mg_of X G a5
    F_total:=al (st:=eB) l6 c6 k6
    B_total:=(al (st:=eB) l6 c6 k6).binds (ps:=["fractions"]) fun _ _ _ _ _ _ us hl=>(by obtain ⟨_,rfl⟩:=us1 hl; rfl)
    m_total:=PySem.W.mg_of X G a6
    F_is_whole:=al (st:=cA) l7 c7 k7
    B_is_whole:=(al (st:=cA) l7 c7 k7).binds (ps:=["thing", "low", "high"]) fun _ _ _ _ _ _ us hl=>(by obtain ⟨_,_,_,rfl⟩:=us3 hl; rfl)
    m_is_whole:=PySem.W.mg_of X G a7
    F_is_made_of:=al (st:=bq) l8 c8 k8
    B_is_made_of:=(al (st:=bq) l8 c8 k8).binds (ps:=["text", "signs", "most"]) fun _ _ _ _ _ _ us hl=>(by obtain ⟨_,_,_,rfl⟩:=us3 hl; rfl)
    m_is_made_of:=PySem.W.mg_of X G a8
    F_is_name:=al (st:=du) l9 c9 k9
    B_is_name:=(al (st:=du) l9 c9 k9).binds (ps:=["thing"]) fun _ _ _ _ _ _ us hl=>(by obtain ⟨_,rfl⟩:=us1 hl; rfl)
    m_is_name:=PySem.W.mg_of X G a9
    F_has_listing_length:=al (st:=aC) l10 c10 k10
    B_has_listing_length:=(al (st:=aC) l10 c10 k10).binds (ps:=["thing"]) fun _ _ _ _ _ _ us hl=>(by obtain ⟨_,rfl⟩:=us1 hl; rfl)
    m_has_listing_length:=PySem.W.mg_of X G a10
    F_is_path:=al (st:=dj) l11 c11 k11
    B_is_path:=(al (st:=dj) l11 c11 k11).binds (ps:=["thing"]) fun _ _ _ _ _ _ us hl=>(by obtain ⟨_,rfl⟩:=us1 hl; rfl)
    m_is_path:=PySem.W.mg_of X G a11
    F_is_unit:=al (st:=di) l12 c12 k12
    B_is_unit:=(al (st:=di) l12 c12 k12).binds (ps:=["thing"]) fun _ _ _ _ _ _ us hl=>(by obtain ⟨_,rfl⟩:=us1 hl; rfl)
    m_is_unit:=PySem.W.mg_of X G a12
    F_is_new_name:=al (st:=bg) l13 c13 k13
    B_is_new_name:=(al (st:=bg) l13 c13 k13).binds (ps:=["name", "ahead"]) fun _ _ _ _ _ _ us hl=>(by obtain ⟨_,_,rfl⟩:=us2 hl; rfl)
    m_is_new_name:=PySem.W.mg_of X G a13
    F_has_path_length:=al (st:=aN) l14 c14 k14
    B_has_path_length:=(al (st:=aN) l14 c14 k14).binds (ps:=["path", "ahead"]) fun _ _ _ _ _ _ us hl=>(by obtain ⟨_,_,rfl⟩:=us2 hl; rfl)
    m_has_path_length:=PySem.W.mg_of X G a14
    F_need_units:=al (st:=bp) l15 c15 k15
    B_need_units:=(al (st:=bp) l15 c15 k15).binds (ps:=["units"]) fun _ _ _ _ _ _ us hl=>(by obtain ⟨_,rfl⟩:=us1 hl; rfl)
    m_need_units:=PySem.W.mg_of X G a15
    F_values_of:=al (st:=cg) l16 c16 k16
    B_values_of:=(al (st:=cg) l16 c16 k16).binds (ps:=["units"]) fun _ _ _ _ _ _ us hl=>(by obtain ⟨_,rfl⟩:=us1 hl; rfl)
    m_values_of:=PySem.W.mg_of X G a16
    F_crowd_of:=al (st:=cE) l17 c17 k17
    B_crowd_of:=(al (st:=cE) l17 c17 k17).binds (ps:=["units"]) fun _ _ _ _ _ _ us hl=>(by obtain ⟨_,rfl⟩:=us1 hl; rfl)
    m_crowd_of:=PySem.W.mg_of X G a17
    F_groups_of:=al (st:=cf) l18 c18 k18
    B_groups_of:=(al (st:=cf) l18 c18 k18).binds (ps:=["crowd"]) fun _ _ _ _ _ _ us hl=>(by obtain ⟨_,rfl⟩:=us1 hl; rfl)
    m_groups_of:=PySem.W.mg_of X G a18
    F_matrix_by:=al (st:=cb) l19 c19 k19
    B_matrix_by:=(al (st:=cb) l19 c19 k19).binds (ps:=["many", "tell"]) fun _ _ _ _ _ _ us hl=>(by obtain ⟨_,_,rfl⟩:=us2 hl; rfl)
    m_matrix_by:=PySem.W.mg_of X G a19
    F_matrix_row:=al (st:=bn) l20 c20 k20
    B_matrix_row:=(al (st:=bn) l20 c20 k20).binds (ps:=["one", "many", "tell"]) fun _ _ _ _ _ _ us hl=>(by obtain ⟨_,_,_,rfl⟩:=us3 hl; rfl)
    m_matrix_row:=PySem.W.mg_of X G a20
    F_need_number:=al (st:=bf) l21 c21 k21
    B_need_number:=(al (st:=bf) l21 c21 k21).binds (ps:=["thing", "low", "high"]) fun _ _ _ _ _ _ us hl=>(by obtain ⟨_,_,_,rfl⟩:=us3 hl; rfl)
    m_need_number:=PySem.W.mg_of X G a21
    F_few_chance:=al (st:=bj) l22 c22 k22
    B_few_chance:=(al (st:=bj) l22 c22 k22).binds (ps:=["there", "wanted", "is_same"]) fun _ _ _ _ _ _ us hl=>(by obtain ⟨_,_,_,rfl⟩:=us3 hl; rfl)
    m_few_chance:=PySem.W.mg_of X G a22
    F_chances:=al (st:=dw) l23 c23 k23
    B_chances:=(al (st:=dw) l23 c23 k23).binds (ps:=["units", "plan"]) fun _ _ _ _ _ _ us hl=>(by obtain ⟨_,_,rfl⟩:=us2 hl; rfl)
    m_chances:=PySem.W.mg_of X G a23
    F_true_sum:=al (st:=cG) l24 c24 k24
    B_true_sum:=(al (st:=cG) l24 c24 k24).binds (ps:=["units"]) fun _ _ _ _ _ _ us hl=>(by obtain ⟨_,rfl⟩:=us1 hl; rfl)
    m_true_sum:=PySem.W.mg_of X G a24
    F_mean_told:=al (st:=ce) l25 c25 k25
    B_mean_told:=(al (st:=ce) l25 c25 k25).binds (ps:=["units", "plan"]) fun _ _ _ _ _ _ us hl=>(by obtain ⟨_,_,rfl⟩:=us2 hl; rfl)
    m_mean_told:=PySem.W.mg_of X G a25
    F_sum_told:=al (st:=cD) l26 c26 k26
    B_sum_told:=(al (st:=cD) l26 c26 k26).binds (ps:=["units", "plan", "kept"]) fun _ _ _ _ _ _ us hl=>(by obtain ⟨_,_,_,rfl⟩:=us3 hl; rfl)
    m_sum_told:=PySem.W.mg_of X G a26
    F_spread:=al (st:=dL) l27 c27 k27
    B_spread:=(al (st:=dL) l27 c27 k27).binds (ps:=["units", "plan"]) fun _ _ _ _ _ _ us hl=>(by obtain ⟨_,_,rfl⟩:=us2 hl; rfl)
    m_spread:=PySem.W.mg_of X G a27
    F_spread_by:=al (st:=br) l28 c28 k28
    B_spread_by:=(al (st:=br) l28 c28 k28).binds (ps:=["rows", "values"]) fun _ _ _ _ _ _ us hl=>(by obtain ⟨_,_,rfl⟩:=us2 hl; rfl)
    m_spread_by:=PySem.W.mg_of X G a28
    F_spread_told:=al (st:=aX) l29 c29 k29
    B_spread_told:=(al (st:=aX) l29 c29 k29).binds (ps:=["units", "plan", "kept"]) fun _ _ _ _ _ _ us hl=>(by obtain ⟨_,_,_,rfl⟩:=us3 hl; rfl)
    m_spread_told:=PySem.W.mg_of X G a29
    F_places_with_share:=al (st:=aF) l30 c30 k30
    B_places_with_share:=(al (st:=aF) l30 c30 k30).binds (ps:=["rows"]) fun _ _ _ _ _ _ us hl=>(by obtain ⟨_,rfl⟩:=us1 hl; rfl)
    m_places_with_share:=PySem.W.mg_of X G a30
    F_never_together:=al (st:=aR) l31 c31 k31
    B_never_together:=(al (st:=aR) l31 c31 k31).binds (ps:=["rows"]) fun _ _ _ _ _ _ us hl=>(by obtain ⟨_,rfl⟩:=us1 hl; rfl)
    m_never_together:=PySem.W.mg_of X G a31
    F_pairs_total:=al (st:=be) l32 c32 k32
    B_pairs_total:=(al (st:=be) l32 c32 k32).binds (ps:=["places", "tell"]) fun _ _ _ _ _ _ us hl=>(by obtain ⟨_,_,rfl⟩:=us2 hl; rfl)
    m_pairs_total:=PySem.W.mg_of X G a32
    F_raised:=al (st:=dZ) l33 c33 k33
    B_raised:=(al (st:=dZ) l33 c33 k33).binds (ps:=["rows", "values", "place"]) fun _ _ _ _ _ _ us hl=>(by obtain ⟨_,_,_,rfl⟩:=us3 hl; rfl)
    m_raised:=PySem.W.mg_of X G a33
    F_spread_part:=al (st:=bd) l34 c34 k34
    B_spread_part:=(al (st:=bd) l34 c34 k34).binds (ps:=["rows", "values", "one", "other"]) fun _ _ _ _ _ _ us hl=>(by obtain ⟨_,_,_,_,rfl⟩:=us4 hl; rfl)
    m_spread_part:=PySem.W.mg_of X G a34
    F_told_part:=al (st:=cv) l35 c35 k35
    B_told_part:=(al (st:=cv) l35 c35 k35).binds (ps:=["rows", "values", "one", "other"]) fun _ _ _ _ _ _ us hl=>(by obtain ⟨_,_,_,_,rfl⟩:=us4 hl; rfl)
    m_told_part:=PySem.W.mg_of X G a35
    F_parted:=al (st:=dO) l36 c36 k36
    B_parted:=(al (st:=dO) l36 c36 k36).binds (ps:=["crowd"]) fun _ _ _ _ _ _ us hl=>(by obtain ⟨_,rfl⟩:=us1 hl; rfl)
    m_parted:=PySem.W.mg_of X G a36
    F_spots_of:=al (st:=cF) l37 c37 k37
    B_spots_of:=(al (st:=cF) l37 c37 k37).binds (ps:=["crowd", "groups"]) fun _ _ _ _ _ _ us hl=>(by obtain ⟨_,_,rfl⟩:=us2 hl; rfl)
    m_spots_of:=PySem.W.mg_of X G a37
    F_groups_matrix:=al (st:=aO) l38 c38 k38
    B_groups_matrix:=(al (st:=aO) l38 c38 k38).binds (ps:=["plan", "crowd", "groups", "outer"]) fun _ _ _ _ _ _ us hl=>(by obtain ⟨_,_,_,_,rfl⟩:=us4 hl; rfl)
    m_groups_matrix:=PySem.W.mg_of X G a38
    F_spots_chance:=al (st:=bb) l39 c39 k39
    B_spots_chance:=(al (st:=bb) l39 c39 k39).binds (ps:=["blocks", "outer", "one", "other"]) fun _ _ _ _ _ _ us hl=>(by obtain ⟨_,_,_,_,rfl⟩:=us4 hl; rfl)
    m_spots_chance:=PySem.W.mg_of X G a39
    F_need_group_names:=al (st:=aK) l40 c40 k40
    B_need_group_names:=(al (st:=aK) l40 c40 k40).binds (ps:=["levels"]) fun _ _ _ _ _ _ us hl=>(by obtain ⟨_,rfl⟩:=us1 hl; rfl)
    m_need_group_names:=PySem.W.mg_of X G a40
    F_hidden:=al (st:=dP) l41 c41 k41
    B_hidden:=(al (st:=dP) l41 c41 k41).binds (ps:=["units", "plan"]) fun _ _ _ _ _ _ us hl=>(by obtain ⟨_,_,rfl⟩:=us2 hl; rfl)
    m_hidden:=PySem.W.mg_of X G a41
    F_never_drawn:=al (st:=bc) l42 c42 k42
    B_never_drawn:=(al (st:=bc) l42 c42 k42).binds (ps:=["rows"]) fun _ _ _ _ _ _ us hl=>(by obtain ⟨_,rfl⟩:=us1 hl; rfl)
    m_never_drawn:=PySem.W.mg_of X G a42
    F_unspoken:=al (st:=cz) l43 c43 k43
    B_unspoken:=(al (st:=cz) l43 c43 k43).binds (ps:=["units", "plan"]) fun _ _ _ _ _ _ us hl=>(by obtain ⟨_,_,rfl⟩:=us2 hl; rfl)
    m_unspoken:=PySem.W.mg_of X G a43
    F_ones_at:=al (st:=dl) l44 c44 k44
    B_ones_at:=(al (st:=dl) l44 c44 k44).binds (ps:=["places", "many"]) fun _ _ _ _ _ _ us hl=>(by obtain ⟨_,_,rfl⟩:=us2 hl; rfl)
    m_ones_at:=PySem.W.mg_of X G a44
    F_L_cell:=al (st:=dJ) l45 c45 k45
    B_L_cell:=(al (st:=dJ) l45 c45 k45).binds (ps:=["_law_script", "_law_k"]) fun _ _ _ _ _ _ us hl=>(by obtain ⟨_,_,rfl⟩:=us2 hl; rfl)
    m_L_cell:=PySem.W.mg_of X G a45
    F_L_mix:=al (st:=eA) l46 c46 k46
    B_L_mix:=(al (st:=eA) l46 c46 k46).binds (ps:=["_law_cell_here", "_law_k"]) fun _ _ _ _ _ _ us hl=>(by obtain ⟨_,_,rfl⟩:=us2 hl; rfl)
    m_L_mix:=PySem.W.mg_of X G a46
    F_L_digits:=al (st:=cy) l47 c47 k47
    B_L_digits:=(al (st:=cy) l47 c47 k47).binds (ps:=["_law_cell_here"]) fun _ _ _ _ _ _ us hl=>(by obtain ⟨_,rfl⟩:=us1 hl; rfl)
    m_L_digits:=PySem.W.mg_of X G a47
    F_L_take:=al (st:=dN) l48 c48 k48
    B_L_take:=(al (st:=dN) l48 c48 k48).binds (ps:=["_law_state", "_law_many"]) fun _ _ _ _ _ _ us hl=>(by obtain ⟨_,_,rfl⟩:=us2 hl; rfl)
    m_L_take:=PySem.W.mg_of X G a48
    F_L_units:=al (st:=dk) l49 c49 k49
    B_L_units:=(al (st:=dk) l49 c49 k49).binds (ps:=["_law_state", "_law_many", "_law_levels"]) fun _ _ _ _ _ _ us hl=>(by obtain ⟨_,_,_,rfl⟩:=us3 hl; rfl)
    m_L_units:=PySem.W.mg_of X G a49
    F_L_spoilt:=al (st:=cH) l50 c50 k50
    B_L_spoilt:=(al (st:=cH) l50 c50 k50).binds (ps:=["_law_units_here", "_law_way", "_law_at", "_law_far"]) fun _ _ _ _ _ _ us hl=>(by obtain ⟨_,_,_,_,rfl⟩:=us4 hl; rfl)
    m_L_spoilt:=PySem.W.mg_of X G a50
    F_L_each:=al (st:=dS) l51 c51 k51
    B_L_each:=(al (st:=dS) l51 c51 k51).binds (ps:=["_law_plan", "_law_many"]) fun _ _ _ _ _ _ us hl=>(by obtain ⟨_,_,rfl⟩:=us2 hl; rfl)
    m_L_each:=PySem.W.mg_of X G a51
    F_L_plan_of:=al (st:=ci) l52 c52 k52
    B_L_plan_of:=(al (st:=ci) l52 c52 k52).binds (ps:=["_law_levels", "_law_way", "_law_many"]) fun _ _ _ _ _ _ us hl=>(by obtain ⟨_,_,_,rfl⟩:=us3 hl; rfl)
    m_L_plan_of:=PySem.W.mg_of X G a52
    F_L_call:=al (st:=dR) l53 c53 k53
    B_L_call:=(al (st:=dR) l53 c53 k53).binds (ps:=["_law_way", "_law_units_here", "_law_plan"]) fun _ _ _ _ _ _ us hl=>(by obtain ⟨_,_,_,rfl⟩:=us3 hl; rfl)
    m_L_call:=PySem.W.mg_of X G a53
    F_L_told:=al (st:=dM) l54 c54 k54
    B_L_told:=(al (st:=dM) l54 c54 k54).binds (ps:=["_law_way", "_law_units_here", "_law_plan"]) fun _ _ _ _ _ _ us hl=>(by obtain ⟨_,_,_,rfl⟩:=us3 hl; rfl)
    m_L_told:=PySem.W.mg_of X G a54
    F_L_right:=al (st:=dr) l55 c55 k55
    B_L_right:=(al (st:=dr) l55 c55 k55).binds (ps:=["_law_units_here", "_law_is_listing", "_law_levels", "_law_way", "_law_many"]) fun _ _ _ _ _ _ us hl=>(by obtain ⟨_,_,_,_,_,rfl⟩:=us5 hl; rfl)
    m_L_right:=PySem.W.mg_of X G a55
    F_law:=al (st:=gY) l56 c56 k56
    B_law:=(al (st:=gY) l56 c56 k56).binds (ps:=["_law_script"]) fun _ _ _ _ _ _ us hl=>(by obtain ⟨_,rfl⟩:=us1 hl; rfl)
    m_law:=PySem.W.mg_of X G a56
    g_NOUGHT:=⟨_,PySem.W.mg_of X G b_NOUGHT,rfl⟩
    t_NOUGHT:=bt_NOUGHT
    g_WHOLE:=⟨_,PySem.W.mg_of X G b_WHOLE,rfl⟩
    t_WHOLE:=bt_WHOLE
    F_Few_matrix:=al (st:=bh) ml_4 mo_4 mk_4
    B_Few_matrix:=(al (st:=bh) ml_4 mo_4 mk_4).binds (ps:=["self", "crowd"]) fun _ _ _ _ _ _ us hl=>(by obtain ⟨_,_,rfl⟩:=us2 hl; rfl)
    F_Each_matrix:=al (st:=aY) ml_1 mo_1 mk_1
    B_Each_matrix:=(al (st:=aY) ml_1 mo_1 mk_1).binds (ps:=["self", "crowd"]) fun _ _ _ _ _ _ us hl=>(by obtain ⟨_,_,rfl⟩:=us2 hl; rfl)
    F_Plan_need_levels:=al (st:=aJ) ml_a mo_a mk_a
    B_Plan_need_levels:=(al (st:=aJ) ml_a mo_a mk_a).binds (ps:=["self", "levels"]) fun _ _ _ _ _ _ us hl=>(by obtain ⟨_,_,rfl⟩:=us2 hl; rfl)
    F_Each_need_levels:=al (st:=aI) ml_2 mo_2 mk_2
    B_Each_need_levels:=(al (st:=aI) ml_2 mo_2 mk_2).binds (ps:=["self", "levels"]) fun _ _ _ _ _ _ us hl=>(by obtain ⟨_,_,rfl⟩:=us2 hl; rfl)
    F_First_need_levels:=al (st:=aD) ml_7 mo_7 mk_7
    B_First_need_levels:=(al (st:=aD) ml_7 mo_7 mk_7).binds (ps:=["self", "levels"]) fun _ _ _ _ _ _ us hl=>(by obtain ⟨_,_,rfl⟩:=us2 hl; rfl)
    mt_Few_matrix:=⟨mf_4,mi_4,mk_4⟩
    mt_Each_matrix:=⟨mf_1,mi_1,mk_1⟩
    mt_Few_need_levels:=⟨mf_5,mi_a,mk_a⟩
    mt_Each_need_levels:=⟨mf_2,mi_2,mk_2⟩
    mt_First_need_levels:=⟨mf_7,mi_7,mk_7⟩
    mc_Plan:=PySem.W.mg_of X G ca_Plan
    g_Plan:=⟨_,PySem.W.mg_of X G ca_Plan,rfl⟩
    cl_Plan:=⟨pa_Plan,pb_Plan,pc_Plan,pd_Plan⟩
    ty_Plan:=fun H x dx fs e=>.ins e ⟨pa_Plan,pb_Plan,pc_Plan,pd_Plan⟩ pe_Plan pf_Plan pg_Plan ph_Plan
    mc_Few:=PySem.W.mg_of X G ca_Few
    g_Few:=⟨_,PySem.W.mg_of X G ca_Few,rfl⟩
    cl_Few:=⟨pa_Few,pb_Few,pc_Few,pd_Few⟩
    ty_Few:=fun H x dx fs e=>.ins e ⟨pa_Few,pb_Few,pc_Few,pd_Few⟩ pe_Few pf_Few pg_Few ph_Few
    mk_Few:=⟨qa_Few,qb_Few,qc_Few,qd_Few⟩
    na_Few_many:=qn_Few_many
    Fi_Few:=al (st:=ba) cl_Few co_Few ck_Few
    Bi_Few:=(al (st:=ba) cl_Few co_Few ck_Few).binds (ps:=["self", "many"]) fun _ _ _ _ _ _ us hl=>(by obtain ⟨_,_,rfl⟩:=us2 hl; rfl)
    mc_Each:=PySem.W.mg_of X G ca_Each
    g_Each:=⟨_,PySem.W.mg_of X G ca_Each,rfl⟩
    cl_Each:=⟨pa_Each,pb_Each,pc_Each,pd_Each⟩
    ty_Each:=fun H x dx fs e=>.ins e ⟨pa_Each,pb_Each,pc_Each,pd_Each⟩ pe_Each pf_Each pg_Each ph_Each
    mk_Each:=⟨qa_Each,qb_Each,qc_Each,qd_Each⟩
    na_Each_inside:=qn_Each_inside
    Fi_Each:=al (st:=aW) cl_Each co_Each ck_Each
    Bi_Each:=(al (st:=aW) cl_Each co_Each ck_Each).binds (ps:=["self", "inside"]) fun _ _ _ _ _ _ us hl=>(by obtain ⟨_,_,rfl⟩:=us2 hl; rfl)
    mc_First:=PySem.W.mg_of X G ca_First
    g_First:=⟨_,PySem.W.mg_of X G ca_First,rfl⟩
    cl_First:=⟨pa_First,pb_First,pc_First,pd_First⟩
    ty_First:=fun H x dx fs e=>.ins e ⟨pa_First,pb_First,pc_First,pd_First⟩ pe_First pf_First pg_First ph_First
    mk_First:=⟨qa_First,qb_First,qc_First,qd_First⟩
    na_First_outside:=qn_First_outside
    na_First_inside:=qn_First_inside
    Fi_First:=al (st:=aP) cl_First co_First ck_First
    Bi_First:=(al (st:=aP) cl_First co_First ck_First).binds (ps:=["self", "outside", "inside"]) fun _ _ _ _ _ _ us hl=>(by obtain ⟨_,_,_,rfl⟩:=us3 hl; rfl)
    g_LETTERS:=⟨u0,PySem.W.mg_of X G b0,r0⟩
    g_MOST_LETTERS:=⟨u1,PySem.W.mg_of X G b1,r1⟩
    g_MOST_UNITS:=⟨u2,PySem.W.mg_of X G b2,r2⟩
    g_MOST_LEVELS:=⟨u3,PySem.W.mg_of X G b3,r3⟩
    g_VALUE_BOUND:=⟨u4,PySem.W.mg_of X G b4,r4⟩
    g_MOST_SIZE:=⟨u5,PySem.W.mg_of X G b5,r5⟩
    g_UNIT_PARTS:=⟨u6,PySem.W.mg_of X G b6,r6⟩
    g_MOST_MANY:=⟨u7,PySem.W.mg_of X G b7,r7⟩
    mc_SpeakError:=PySem.W.mg_of X G ca_SpeakError
    g_SpeakError:=⟨_,PySem.W.mg_of X G ca_SpeakError,rfl⟩
    kc_SpeakError:=cb_SpeakError
    xc_SpeakError:=lp cc_SpeakError
    xh_SpeakError:=lR cc_SpeakError
    xi_SpeakError:=cx_SpeakError
    mc_NoUnits:=PySem.W.mg_of X G ca_NoUnits
    g_NoUnits:=⟨_,PySem.W.mg_of X G ca_NoUnits,rfl⟩
    kc_NoUnits:=cb_NoUnits
    xc_NoUnits:=lp cc_NoUnits
    xh_NoUnits:=lR cc_NoUnits
    xi_NoUnits:=cx_NoUnits
    mc_NoPlan:=PySem.W.mg_of X G ca_NoPlan
    g_NoPlan:=⟨_,PySem.W.mg_of X G ca_NoPlan,rfl⟩
    kc_NoPlan:=cb_NoPlan
    xc_NoPlan:=lp cc_NoPlan
    xh_NoPlan:=lR cc_NoPlan
    xi_NoPlan:=cx_NoPlan
    fn_NoPlan:=cg_NoPlan
    Fi_NoPlan:=al (st:=aU) cl_NoPlan co_NoPlan ck_NoPlan
    Bi_NoPlan:=(al (st:=aU) cl_NoPlan co_NoPlan ck_NoPlan).binds (ps:=["self", "place"]) fun _ _ _ _ _ _ us hl=>(by obtain ⟨_,_,rfl⟩:=us2 hl; rfl)
    sx_NoPlan_place:=qA cs_NoPlan_place
    mc_NoLevel:=PySem.W.mg_of X G ca_NoLevel
    g_NoLevel:=⟨_,PySem.W.mg_of X G ca_NoLevel,rfl⟩
    kc_NoLevel:=cb_NoLevel
    xc_NoLevel:=lp cc_NoLevel
    xh_NoLevel:=lR cc_NoLevel
    xi_NoLevel:=cx_NoLevel
    mc_NoSpread:=PySem.W.mg_of X G ca_NoSpread
    g_NoSpread:=⟨_,PySem.W.mg_of X G ca_NoSpread,rfl⟩
    kc_NoSpread:=cb_NoSpread
    xc_NoSpread:=lp cc_NoSpread
    xh_NoSpread:=lR cc_NoSpread
    xi_NoSpread:=cx_NoSpread
    fn_NoSpread:=cg_NoSpread
    Fi_NoSpread:=al (st:=aE) cl_NoSpread co_NoSpread ck_NoSpread
    Bi_NoSpread:=(al (st:=aE) cl_NoSpread co_NoSpread ck_NoSpread).binds (ps:=["self", "one", "other"]) fun _ _ _ _ _ _ us hl=>(by obtain ⟨_,_,_,rfl⟩:=us3 hl; rfl)
    sx_NoSpread_one:=qA cs_NoSpread_one
    sx_NoSpread_other:=qA cs_NoSpread_other
    mNoUnits:=fact_mNoUnits
    vNoUnits:=fact_vNoUnits
    kNoUnitsNoUnits:=fact_kNoUnitsNoUnits
    kNoUnitsNoLevel:=fact_kNoUnitsNoLevel
    kNoUnitsNoSpread:=fact_kNoUnitsNoSpread
    mNoLevel:=fact_mNoLevel
    vNoLevel:=fact_vNoLevel
    kNoLevelNoUnits:=fact_kNoLevelNoUnits
    kNoLevelNoLevel:=fact_kNoLevelNoLevel
    kNoLevelNoSpread:=fact_kNoLevelNoSpread
    mNoSpread:=fact_mNoSpread
    vNoSpread:=fact_vNoSpread
    kNoSpreadNoUnits:=fact_kNoSpreadNoUnits
    kNoSpreadNoLevel:=fact_kNoSpreadNoLevel
    kNoSpreadNoSpread:=fact_kNoSpreadNoSpread
    z_ValueError:=PySem.W.mg_none_of X G z0
    z_abs:=PySem.W.mg_none_of X G z1
    z_all:=PySem.W.mg_none_of X G z2
    z_bool:=PySem.W.mg_none_of X G z3
    z_enumerate:=PySem.W.mg_none_of X G z4
    z_int:=PySem.W.mg_none_of X G z5
    z_isinstance:=PySem.W.mg_none_of X G z6
    z_len:=PySem.W.mg_none_of X G z7
    z_list:=PySem.W.mg_none_of X G z8
    z_max:=PySem.W.mg_none_of X G z9
    z_min:=PySem.W.mg_none_of X G z10
    z_range:=PySem.W.mg_none_of X G z11
    z_str:=PySem.W.mg_none_of X G z12
    z_sum:=PySem.W.mg_none_of X G z13
    z_tuple:=PySem.W.mg_none_of X G z14
    bl:=fun s u=>.of_eq rfl }
end My
open PySem PySem.W PyProof.Rows
namespace PySem.W.Fast
def tw14073481320904383552:Nat:=0
def tw4245212145949022241:Nat:=0
def tw15496374537450606753:Nat:=0
def tw11860583283304662945:Nat:=0
def tw9531565799338291106:Nat:=0
def tw20353703826332867:Nat:=0
def tw5164024504735421347:Nat:=0
def tw6806426274810530149:Nat:=0
def tw14348374329509031848:Nat:=0
def tw7869828767364257257:Nat:=0
def tw12431488111112405259:Nat:=0
def tw387278295821724300:Nat:=0
def tw15320720143390736461:Nat:=0
def tw895622841636462701:Nat:=0
def tw7984168548771333553:Nat:=0
def tw12435888861641298326:Nat:=0
def tw15799502065683682902:Nat:=0
def tw3097240591802702615:Nat:=0
def tw2874383930329413342:Nat:=0
def tw10000294326631997206:Nat:=0
def tw10024306227575747938:Nat:=0
def tw10044404312095890183:Nat:=0
def tw1004830167504401922:Nat:=0
def tw10079584240916611019:Nat:=0
def tw1016368753538918981:Nat:=0
def tw10186039604312028219:Nat:=0
def tw10196261468765545626:Nat:=0
def tw10255968457288472742:Nat:=0
def tw10282229672484297697:Nat:=0
def tw10282764680146168919:Nat:=0
def tw10286429422261814598:Nat:=0
def tw10302922243035876084:Nat:=0
def tw10318503174842987095:Nat:=0
def tw10319208455516008881:Nat:=0
def tw10324811561317472987:Nat:=0
def tw10356969417591397337:Nat:=0
def tw10373022273417362165:Nat:=0
def tw1038575372557605864:Nat:=0
def tw1044166707187856992:Nat:=0
def tw10486414094758604386:Nat:=0
def tw10511987495443645284:Nat:=0
def tw10556720792423167362:Nat:=0
def tw10583673378369688107:Nat:=0
def tw10590571489238034595:Nat:=0
def tw10678439155295264835:Nat:=0
def tw10710580658541212731:Nat:=0
def tw1076592562879032003:Nat:=0
def tw10768628110422572615:Nat:=0
def tw10776529769232995589:Nat:=0
def tw10822937316317693098:Nat:=0
def tw10845945300933921870:Nat:=0
def tw10852922340649663068:Nat:=0
def tw10881499662527036748:Nat:=0
def tw10882884711636889138:Nat:=0
def tw10890426889583940450:Nat:=0
def tw10893561527794485867:Nat:=0
def tw10902980288879626211:Nat:=0
def tw10904042618036835721:Nat:=0
def tw10908801444442216371:Nat:=0
def tw10919854341318956311:Nat:=0
def tw10922813427221949855:Nat:=0
def tw10925940346308887787:Nat:=0
def tw10957646358398005908:Nat:=0
def tw10968071484235757998:Nat:=0
def tw10978049192134191014:Nat:=0
def tw10990764898669052156:Nat:=0
def tw10997438271489312121:Nat:=0
def tw11006508939655462926:Nat:=0
def tw11025764631153462571:Nat:=0
def tw11053780337924749173:Nat:=0
def tw11060556484305761047:Nat:=0
def tw11077230297597109789:Nat:=0
def tw11079435829699575277:Nat:=0
def tw11114693316572325449:Nat:=0
def tw11116375009312761951:Nat:=0
def tw11202327955555571021:Nat:=0
def tw112821009592517546:Nat:=0
def tw11334474905534793162:Nat:=0
def tw11415336180745522632:Nat:=0
def tw11429000949758965390:Nat:=0
def tw11435156541972180838:Nat:=0
def tw11445951352296970975:Nat:=0
def tw11457572624922699154:Nat:=0
def tw1146692240134843394:Nat:=0
def tw11473831800686724491:Nat:=0
def tw11487585158158156515:Nat:=0
def tw11526386978086269652:Nat:=0
def tw11538130361366321672:Nat:=0
def tw11539826805127470602:Nat:=0
def tw11552551074999287348:Nat:=0
def tw11582993417943726441:Nat:=0
def tw11594931082371649578:Nat:=0
def tw11631581382266509206:Nat:=0
def tw11671563706927986999:Nat:=0
def tw1170178388997392359:Nat:=0
def tw11745112158686379995:Nat:=0
def tw11789695151893998114:Nat:=0
def tw11806000709601820454:Nat:=0
def tw1185314906624017992:Nat:=0
def tw11899275942141307232:Nat:=0
def tw11915606783616558253:Nat:=0
def tw11920259859879893872:Nat:=0
def tw1197950757452259033:Nat:=0
def tw11979561062243936472:Nat:=0
def tw12029347824807114098:Nat:=0
def tw12059946043158171549:Nat:=0
def tw12101973477436906798:Nat:=0
def tw12118520100481009099:Nat:=0
def tw12118854667979458763:Nat:=0
def tw12159508859016679234:Nat:=0
def tw12275385819145753571:Nat:=0
def tw12335047647373054104:Nat:=0
def tw12390260496749409940:Nat:=0
def tw1239949178683397018:Nat:=0
def tw1242177688107130620:Nat:=0
def tw12456679547695927294:Nat:=0
def tw12500598807262298678:Nat:=0
def tw12516782384610680845:Nat:=0
def tw12527643056312269006:Nat:=0
def tw12559875459739705958:Nat:=0
def tw12580650342354265237:Nat:=0
def tw12665584432529466057:Nat:=0
def tw12689295288294389357:Nat:=0
def tw1270013241287786805:Nat:=0
def tw12721014620011328354:Nat:=0
def tw1272325765967940848:Nat:=0
def tw12727566990277180083:Nat:=0
def tw12730643897958661238:Nat:=0
def tw12750174864686556088:Nat:=0
def tw12789615434306400805:Nat:=0
def tw12835521963786340112:Nat:=0
def tw12866395887713268252:Nat:=0
def tw12884630829328563315:Nat:=0
def tw1290623544050973136:Nat:=0
def tw12910394561849886012:Nat:=0
def tw13054131809970267405:Nat:=0
def tw1313006329830741220:Nat:=0
def tw1313165091231814603:Nat:=0
def tw13171247323799395665:Nat:=0
def tw13184085846542388619:Nat:=0
def tw132041263055063584:Nat:=0
def tw13223991414968511492:Nat:=0
def tw13235350300929532083:Nat:=0
def tw13239356207380857619:Nat:=0
def tw13257535770009199042:Nat:=0
def tw1329166814237470414:Nat:=0
def tw13315965955800347481:Nat:=0
def tw13318900978690360758:Nat:=0
def tw13387403407577908476:Nat:=0
def tw1340335281160071573:Nat:=0
def tw13408789874402858840:Nat:=0
def tw13416108161437195049:Nat:=0
def tw13447367107583901847:Nat:=0
def tw13453000589086872348:Nat:=0
def tw13460136496606403889:Nat:=0
def tw1352750655057307613:Nat:=0
def tw13632495187525685460:Nat:=0
def tw13705436726311319319:Nat:=0
def tw13709934207624298487:Nat:=0
def tw13836062886758683909:Nat:=0
def tw13850056898093904552:Nat:=0
def tw1386388193442412157:Nat:=0
def tw13881398180572300208:Nat:=0
def tw13952925025407463001:Nat:=0
def tw13953896528439022744:Nat:=0
def tw13992429639931347177:Nat:=0
def tw14050353292993698763:Nat:=0
def tw14055137058858868198:Nat:=0
def tw14092556777806109166:Nat:=0
def tw14117447383202330873:Nat:=0
def tw14170012180889422152:Nat:=0
def tw14170163169367146694:Nat:=0
def tw14199714425226941496:Nat:=0
def tw14206472591430486575:Nat:=0
def tw14254617496627631149:Nat:=0
def tw14264467268382145450:Nat:=0
def tw14304233228653196600:Nat:=0
def tw14324898186530036495:Nat:=0
def tw14347573286019104858:Nat:=0
def tw14392437194438751675:Nat:=0
def tw14407839819284497004:Nat:=0
def tw14434793832814537684:Nat:=0
def tw14441284873848888697:Nat:=0
def tw14487879056072811097:Nat:=0
def tw14505257758960477228:Nat:=0
def tw14510750479410500559:Nat:=0
def tw14535057713951767173:Nat:=0
def tw14593804014594514111:Nat:=0
def tw14629572956361574936:Nat:=0
def tw14674729272382792704:Nat:=0
def tw14687358386617895799:Nat:=0
def tw14782562020831493728:Nat:=0
def tw14793441427446549039:Nat:=0
def tw14796501648340825634:Nat:=0
def tw14832194187602733784:Nat:=0
def tw14855594848439331864:Nat:=0
def tw14858100376422679467:Nat:=0
def tw14885339116453094500:Nat:=0
def tw14888007993885177692:Nat:=0
def tw1492431828491402022:Nat:=0
def tw14960086229510306345:Nat:=0
def tw1496388998658186420:Nat:=0
def tw15130307674290792646:Nat:=0
def tw15178652542893034972:Nat:=0
def tw15179225860121848467:Nat:=0
def tw15218960372897167915:Nat:=0
def tw15267884090553651886:Nat:=0
def tw1527756441872855908:Nat:=0
def tw15283449808712930619:Nat:=0
def tw15298765924490116886:Nat:=0
def tw1532934852592766012:Nat:=0
def tw15350764673827259191:Nat:=0
def tw15414351514201353302:Nat:=0
def tw15441769264139047885:Nat:=0
def tw15443226314684329559:Nat:=0
def tw15444371369390135914:Nat:=0
def tw1545768259491442463:Nat:=0
def tw15469123191798882399:Nat:=0
def tw1547263804702334109:Nat:=0
def tw15563038293790787595:Nat:=0
def tw15592173030854668889:Nat:=0
def tw15609439134540438101:Nat:=0
def tw15631288760012666412:Nat:=0
def tw1563652869296528595:Nat:=0
def tw15665235085889950116:Nat:=0
def tw15697962495187439938:Nat:=0
def tw15710275075126202785:Nat:=0
def tw15758013681636690494:Nat:=0
def tw15783965462630716856:Nat:=0
def tw15943663177803645551:Nat:=0
def tw15948717378054300035:Nat:=0
def tw15969464683807635234:Nat:=0
def tw15991432509848832508:Nat:=0
def tw15996490588672015942:Nat:=0
def tw16028160184981476521:Nat:=0
def tw16079277289619870056:Nat:=0
def tw16084747030079897388:Nat:=0
def tw16118570232548090994:Nat:=0
def tw16140909986244755806:Nat:=0
def tw16197993062297825931:Nat:=0
def tw16211628599275328927:Nat:=0
def tw16235014532719006562:Nat:=0
def tw16298095625342062292:Nat:=0
def tw16314751216677983405:Nat:=0
def tw16369174956611093076:Nat:=0
def tw16387266072127860275:Nat:=0
def tw16417045963574953408:Nat:=0
def tw16424775358408095493:Nat:=0
def tw16471853747065489333:Nat:=0
def tw16473567023871810758:Nat:=0
def tw16558946070376132755:Nat:=0
def tw16580527377694661895:Nat:=0
def tw16601031970523111688:Nat:=0
def tw16637011140679374472:Nat:=0
def tw16651420826588189413:Nat:=0
def tw16661562854757229288:Nat:=0
def tw16680864255577516319:Nat:=0
def tw16694388009923578627:Nat:=0
def tw16708579040652399699:Nat:=0
def tw1670868604161143424:Nat:=0
def tw16786563802026724374:Nat:=0
def tw16828912956375508162:Nat:=0
def tw16833411192039149549:Nat:=0
def tw16854816776520204749:Nat:=0
def tw16869218270052470592:Nat:=0
def tw16883955793378842818:Nat:=0
def tw16928363675369879101:Nat:=0
def tw16948710987212768800:Nat:=0
def tw16958084395628584528:Nat:=0
def tw17014948823395086550:Nat:=0
def tw17061113400223133700:Nat:=0
def tw17111052945367677567:Nat:=0
def tw17127006721280764046:Nat:=0
def tw17145014627300494585:Nat:=0
def tw17165933596473606345:Nat:=0
def tw1718506301103043877:Nat:=0
def tw17225166113826226184:Nat:=0
def tw17228910941947504721:Nat:=0
def tw17257166572626945847:Nat:=0
def tw17361484962017199412:Nat:=0
def tw17373047615389704093:Nat:=0
def tw1740500636147928666:Nat:=0
def tw17522034892973995682:Nat:=0
def tw17530816989005489836:Nat:=0
def tw17543396182010208710:Nat:=0
def tw17548438212005072276:Nat:=0
def tw17561951609028885100:Nat:=0
def tw17563768015422366612:Nat:=0
def tw17565210147687890012:Nat:=0
def tw17603971656453773557:Nat:=0
def tw17716300829086640594:Nat:=0
def tw1777012084997575462:Nat:=0
def tw17789356321679337737:Nat:=0
def tw17791327738669550414:Nat:=0
def tw17826549373765266568:Nat:=0
def tw17848902426858352916:Nat:=0
def tw17856775668998667950:Nat:=0
def tw17873548703828712142:Nat:=0
def tw17874715129205549688:Nat:=0
def tw17915006266356041827:Nat:=0
def tw17948065266998702701:Nat:=0
def tw17950190618722746739:Nat:=0
def tw18024419746600418402:Nat:=0
def tw18030668771023455755:Nat:=0
def tw18064238556091910315:Nat:=0
def tw18120393976045313764:Nat:=0
def tw18121881692517117076:Nat:=0
def tw18141812728325938771:Nat:=0
def tw18162818509567230506:Nat:=0
def tw18225414147924527858:Nat:=0
def tw1834145995617875741:Nat:=0
def tw18388242531448818337:Nat:=0
def tw18388407704314339100:Nat:=0
def tw18395491438759847158:Nat:=0
def tw18436547557931546701:Nat:=0
def tw1847288429233854389:Nat:=0
def tw1879094930844994090:Nat:=0
def tw1879837788381500004:Nat:=0
def tw1968711326980637583:Nat:=0
def tw1989077156769053790:Nat:=0
def tw1989292844586985596:Nat:=0
def tw203320909531924112:Nat:=0
def tw2036371430271878005:Nat:=0
def tw2087099006027755312:Nat:=0
def tw209611213746760149:Nat:=0
def tw2110895649959462970:Nat:=0
def tw2172553885628028489:Nat:=0
def tw2185789207124883525:Nat:=0
def tw2186274182715788167:Nat:=0
def tw2261099620169008361:Nat:=0
def tw2280108042936023651:Nat:=0
def tw2281579055611789682:Nat:=0
def tw2316789039920627559:Nat:=0
def tw233649170582674260:Nat:=0
def tw2343876182708267392:Nat:=0
def tw2430795567872490509:Nat:=0
def tw2473869280250413211:Nat:=0
def tw2512563878236417581:Nat:=0
def tw2514192867372518893:Nat:=0
def tw2528992415451360368:Nat:=0
def tw2529465493581397894:Nat:=0
def tw2546881407922615599:Nat:=0
def tw258778968833395910:Nat:=0
def tw2608552547338331086:Nat:=0
def tw2627367731262050825:Nat:=0
def tw2635244443324054083:Nat:=0
def tw265407880237388821:Nat:=0
def tw2660640652659005042:Nat:=0
def tw2664813322432183738:Nat:=0
def tw2684909926762341419:Nat:=0
def tw2725539445383355510:Nat:=0
def tw2730688507881773786:Nat:=0
def tw2736604662810601711:Nat:=0
def tw2749723233073855770:Nat:=0
def tw2785799999042778615:Nat:=0
def tw2800472759223945245:Nat:=0
def tw2805604323799673910:Nat:=0
def tw2827893576176097662:Nat:=0
def tw2839836802055228128:Nat:=0
def tw2946949391552948912:Nat:=0
def tw2951531155682166819:Nat:=0
def tw2997280746215448742:Nat:=0
def tw3071930438287856978:Nat:=0
def tw3074159057479896358:Nat:=0
def tw3075756703836814260:Nat:=0
def tw3134117305971636876:Nat:=0
def tw3149717929054534911:Nat:=0
def tw3191331780495373591:Nat:=0
def tw3256928007433491498:Nat:=0
def tw3258927521323129622:Nat:=0
def tw3318273080886134248:Nat:=0
def tw3414476330457619159:Nat:=0
def tw3445389390027975233:Nat:=0
def tw3452436193799552291:Nat:=0
def tw3478135257477659385:Nat:=0
def tw3518149875276656781:Nat:=0
def tw3624365926406646575:Nat:=0
def tw364721761729539453:Nat:=0
def tw3702985646107727473:Nat:=0
def tw3708332471528438787:Nat:=0
def tw3717464389464660369:Nat:=0
def tw3732634577365216602:Nat:=0
def tw3776251616277206916:Nat:=0
def tw3778553457658864068:Nat:=0
def tw3794703908654851952:Nat:=0
def tw3813404243297883219:Nat:=0
def tw3825696906850248691:Nat:=0
def tw3852309596889369922:Nat:=0
def tw3864680248203855793:Nat:=0
def tw387684884341888241:Nat:=0
def tw392907612517452926:Nat:=0
def tw3937036260971684218:Nat:=0
def tw3959523605524990994:Nat:=0
def tw3967755186464123288:Nat:=0
def tw397927900189750975:Nat:=0
def tw398181959314281607:Nat:=0
def tw3982232908352109398:Nat:=0
def tw4109596847157393671:Nat:=0
def tw4118772833891214322:Nat:=0
def tw416445680039310125:Nat:=0
def tw42308017718003838:Nat:=0
def tw4260955755958509630:Nat:=0
def tw428249782174575613:Nat:=0
def tw432381816768453622:Nat:=0
def tw4353782119731457312:Nat:=0
def tw4389372629497304908:Nat:=0
def tw4424359091251539279:Nat:=0
def tw447418190634464865:Nat:=0
def tw4480778471384629942:Nat:=0
def tw4546284402594101465:Nat:=0
def tw458843881186945920:Nat:=0
def tw4592704480257077416:Nat:=0
def tw4595281230096787003:Nat:=0
def tw4633483951282376975:Nat:=0
def tw4636888622391701294:Nat:=0
def tw4639483815346562564:Nat:=0
def tw4665955580091604930:Nat:=0
def tw4689196037178623154:Nat:=0
def tw4696344889972440785:Nat:=0
def tw4738944634203437355:Nat:=0
def tw4741286256092242136:Nat:=0
def tw4815622313397046450:Nat:=0
def tw4825293998483015706:Nat:=0
def tw4850525364440374758:Nat:=0
def tw4880359642664228521:Nat:=0
def tw4963834966987630970:Nat:=0
def tw4967609494182809755:Nat:=0
def tw5004560376636170747:Nat:=0
def tw5005924553411527414:Nat:=0
def tw5019232617605633295:Nat:=0
def tw5042916186116518152:Nat:=0
def tw5095751002440901834:Nat:=0
def tw5151204936938811229:Nat:=0
def tw516251497868428170:Nat:=0
def tw5181025307697186900:Nat:=0
def tw5232586905536592390:Nat:=0
def tw5313713558939852834:Nat:=0
def tw5344842478607003301:Nat:=0
def tw5356003649810256118:Nat:=0
def tw5377583701237952122:Nat:=0
def tw5396054310145799584:Nat:=0
def tw547383933931814242:Nat:=0
def tw5696217812031916473:Nat:=0
def tw5717304023756675485:Nat:=0
def tw5723257175857804719:Nat:=0
def tw5729059007513338107:Nat:=0
def tw5774835162515575649:Nat:=0
def tw584744952050529814:Nat:=0
def tw5847731650052675298:Nat:=0
def tw586435820359462929:Nat:=0
def tw5879232104386160694:Nat:=0
def tw5892988395437307547:Nat:=0
def tw5896579618606326067:Nat:=0
def tw5938697934369446423:Nat:=0
def tw5944914734364355425:Nat:=0
def tw5963484338961206390:Nat:=0
def tw596680283884543069:Nat:=0
def tw5970040291368235546:Nat:=0
def tw5986761442680685793:Nat:=0
def tw6033075917145514316:Nat:=0
def tw604614664371075500:Nat:=0
def tw6064991062617791544:Nat:=0
def tw6163810408403869129:Nat:=0
def tw6192429549144589505:Nat:=0
def tw6233342844686478117:Nat:=0
def tw6320977398789950175:Nat:=0
def tw6331228163130829853:Nat:=0
def tw6373394314299216032:Nat:=0
def tw6405166803839328488:Nat:=0
def tw6430452802798688928:Nat:=0
def tw6450978445573035096:Nat:=0
def tw6494967139657332712:Nat:=0
def tw6501862523871769400:Nat:=0
def tw6590204817277321693:Nat:=0
def tw660984803741941855:Nat:=0
def tw6617363067395598766:Nat:=0
def tw6628903133515400555:Nat:=0
def tw6645158708873362123:Nat:=0
def tw6649648744435879140:Nat:=0
def tw6658799809413320990:Nat:=0
def tw6669516784601386907:Nat:=0
def tw6675961896558381834:Nat:=0
def tw6677424472401304824:Nat:=0
def tw6683731559598764845:Nat:=0
def tw6775754004455943279:Nat:=0
def tw6791240434730739063:Nat:=0
def tw6803395458953210833:Nat:=0
def tw6817758780221326421:Nat:=0
def tw6874966353845530150:Nat:=0
def tw6893443749099604289:Nat:=0
def tw6930448847971996178:Nat:=0
def tw6945185443986820393:Nat:=0
def tw6968147416949584855:Nat:=0
def tw6999924315210554897:Nat:=0
def tw7014956976611708673:Nat:=0
def tw7022555769337531043:Nat:=0
def tw7057743373715520547:Nat:=0
def tw7065435085412617050:Nat:=0
def tw7102947599703674698:Nat:=0
def tw7177290654392457647:Nat:=0
def tw7190101371947122870:Nat:=0
def tw7233806470117317948:Nat:=0
def tw727336025658608173:Nat:=0
def tw7283816029764106931:Nat:=0
def tw7327251673917026687:Nat:=0
def tw7341454845053815273:Nat:=0
def tw7348027919307697059:Nat:=0
def tw7371216496071744459:Nat:=0
def tw739440575363592292:Nat:=0
def tw741795227814655842:Nat:=0
def tw7464966963828503563:Nat:=0
def tw7571785027758199435:Nat:=0
def tw7590833730886847464:Nat:=0
def tw7604978641193224404:Nat:=0
def tw7619022610423330382:Nat:=0
def tw7625866425037793624:Nat:=0
def tw7651020689303683371:Nat:=0
def tw774354407790191652:Nat:=0
def tw7775174294842257246:Nat:=0
def tw7809229215461676277:Nat:=0
def tw7822319331526311645:Nat:=0
def tw7933777143092046121:Nat:=0
def tw7951300651075048107:Nat:=0
def tw8012710803987643422:Nat:=0
def tw8064424968479044059:Nat:=0
def tw8065614494953152903:Nat:=0
def tw8084723772274217195:Nat:=0
def tw8161318294043579312:Nat:=0
def tw8164229160049030319:Nat:=0
def tw8219288755373342453:Nat:=0
def tw8237502351796998962:Nat:=0
def tw8275214850848293921:Nat:=0
def tw837690896517630468:Nat:=0
def tw8414928565175770362:Nat:=0
def tw8418832083649402268:Nat:=0
def tw8444066635987008924:Nat:=0
def tw8461624405018612336:Nat:=0
def tw8463862332592302499:Nat:=0
def tw8484966503813098064:Nat:=0
def tw8556576558313593161:Nat:=0
def tw8567050219189739359:Nat:=0
def tw8569341610943346567:Nat:=0
def tw8575017912025035036:Nat:=0
def tw859270422266290061:Nat:=0
def tw8636291102384546694:Nat:=0
def tw8641959786635817195:Nat:=0
def tw8682881935978872954:Nat:=0
def tw8721754811066168278:Nat:=0
def tw8726071158755536069:Nat:=0
def tw8733215831067318822:Nat:=0
def tw875704785521953284:Nat:=0
def tw8797997482901474290:Nat:=0
def tw8868299215028816693:Nat:=0
def tw8902464089004752925:Nat:=0
def tw8950382487320799623:Nat:=0
def tw9044616629944567168:Nat:=0
def tw9060953036896142277:Nat:=0
def tw906295306011806097:Nat:=0
def tw9123744179060503034:Nat:=0
def tw9128157213578395843:Nat:=0
def tw9166417436045568543:Nat:=0
def tw9198744251771480516:Nat:=0
def tw9199170894251990775:Nat:=0
def tw9221691279947875643:Nat:=0
def tw9231080300800772276:Nat:=0
def tw9298774543030686796:Nat:=0
def tw9317306630213784829:Nat:=0
def tw9367789656521490803:Nat:=0
def tw9378273853795845276:Nat:=0
def tw9424671272735538272:Nat:=0
def tw9498077437593771:Nat:=0
def tw9498573818031911573:Nat:=0
def tw9558042323356883924:Nat:=0
def tw9610369561970437184:Nat:=0
def tw9617918457013093984:Nat:=0
def tw9646910712017712446:Nat:=0
def tw9673201063094272918:Nat:=0
def tw9708351669714240696:Nat:=0
def tw9713063229264755325:Nat:=0
def tw9733253782454096424:Nat:=0
def tw9737047421950523437:Nat:=0
def tw9765357863429526042:Nat:=0
def tw9775915351317362440:Nat:=0
def tw9781325098416077523:Nat:=0
def tw9825881512907891364:Nat:=0
def tw9825901397906855349:Nat:=0
def tw9826213871594740318:Nat:=0
def tw9909320724505302854:Nat:=0
def tw9927472696814003523:Nat:=0
def tw9932936155829634199:Nat:=0
def tw993397777509887487:Nat:=0
def tw9938348357771688411:Nat:=0
def tw9949995796876670103:Nat:=0
def tw9973275660641502226:Nat:=0
def tw9973972743202596269:Nat:=0
def tw9999654465554069597:Nat:=0
end PySem.W.Fast
set_option maxRecDepth 100000 in
set_option maxHeartbeats 0 in
theorem PySem.Challenge.cw_fewspeak_k56_sums_refused_holds : PySem.Challenge.rw_fewspeak_k56_sums_refused.Holds := by
  w_on; o_law; k_head; (case hw=>w_witness2)
  k_fill
  refine L2.walk_ofT (l:=PySem.Challenge.rw_fewspeak_k56_sums_refused) (n:=63) (k:=My.lawK) (x := "_law_script") (CX:=L2.CX0) (sp:=My.spLaw) rfl (by decide) rfl ⟨rfl,by decide,by decide⟩ (fun w h Y=>⟨PySem.W.km_in_of Y,PySem.W.km_tabs_of Y⟩) ?F ?S ?C
  case F =>
    intro ts' hts w mg fa h KX G hmg
    have T:∃ a,My.Txt (L2.KOf KX) mg a∧(My.tabs a).map (·.1) = ts':=by
      rw [hts]
      dsimp only [L2.KOf]
      refine' My.txt_mk KX G ?a0 ?l0 ?c0 ?k0 ?a1 ?l1 ?c1 ?k1 ?a2 ?l2 ?c2 ?k2 ?a3 ?l3 ?c3 ?k3 ?a4 ?l4 ?c4 ?k4 ?a5 ?l5 ?c5 ?k5 ?a6 ?l6 ?c6 ?k6 ?a7 ?l7 ?c7 ?k7 ?a8 ?l8 ?c8 ?k8 ?a9 ?l9 ?c9 ?k9 ?a10 ?l10 ?c10 ?k10 ?a11 ?l11 ?c11 ?k11 ?a12 ?l12 ?c12 ?k12 ?a13 ?l13 ?c13 ?k13 ?a14 ?l14 ?c14 ?k14 ?a15 ?l15 ?c15 ?k15 ?a16 ?l16 ?c16 ?k16 ?a17 ?l17 ?c17 ?k17 ?a18 ?l18 ?c18 ?k18 ?a19 ?l19 ?c19 ?k19 ?a20 ?l20 ?c20 ?k20 ?a21 ?l21 ?c21 ?k21 ?a22 ?l22 ?c22 ?k22 ?a23 ?l23 ?c23 ?k23 ?a24 ?l24 ?c24 ?k24 ?a25 ?l25 ?c25 ?k25 ?a26 ?l26 ?c26 ?k26 ?a27 ?l27 ?c27 ?k27 ?a28 ?l28 ?c28 ?k28 ?a29 ?l29 ?c29 ?k29 ?a30 ?l30 ?c30 ?k30 ?a31 ?l31 ?c31 ?k31 ?a32 ?l32 ?c32 ?k32 ?a33 ?l33 ?c33 ?k33 ?a34 ?l34 ?c34 ?k34 ?a35 ?l35 ?c35 ?k35 ?a36 ?l36 ?c36 ?k36 ?a37 ?l37 ?c37 ?k37 ?a38 ?l38 ?c38 ?k38 ?a39 ?l39 ?c39 ?k39 ?a40 ?l40 ?c40 ?k40 ?a41 ?l41 ?c41 ?k41 ?a42 ?l42 ?c42 ?k42 ?a43 ?l43 ?c43 ?k43 ?a44 ?l44 ?c44 ?k44 ?a45 ?l45 ?c45 ?k45 ?a46 ?l46 ?c46 ?k46 ?a47 ?l47 ?c47 ?k47 ?a48 ?l48 ?c48 ?k48 ?a49 ?l49 ?c49 ?k49 ?a50 ?l50 ?c50 ?k50 ?a51 ?l51 ?c51 ?k51 ?a52 ?l52 ?c52 ?k52 ?a53 ?l53 ?c53 ?k53 ?a54 ?l54 ?c54 ?k54 ?a55 ?l55 ?c55 ?k55 ?a56 ?l56 ?c56 ?k56 ?b_NOUGHT ?bt_NOUGHT ?b_WHOLE ?bt_WHOLE ?b0 ?b1 ?b2 ?b3 ?b4 ?b5 ?b6 ?b7 ?ca_SpeakError ?cb_SpeakError ?cc_SpeakError ?cx_SpeakError ?ca_NoUnits ?cb_NoUnits ?cc_NoUnits ?cx_NoUnits ?ca_NoPlan ?cb_NoPlan ?cc_NoPlan ?cf_NoPlan ?cx_NoPlan ?cg_NoPlan ?cl_NoPlan ?co_NoPlan ?ck_NoPlan ?cs_NoPlan_place ?ca_NoLevel ?cb_NoLevel ?cc_NoLevel ?cx_NoLevel ?ca_NoSpread ?cb_NoSpread ?cc_NoSpread ?cf_NoSpread ?cx_NoSpread ?cg_NoSpread ?cl_NoSpread ?co_NoSpread ?ck_NoSpread ?cs_NoSpread_one ?cs_NoSpread_other ?ca_Plan ?pa_Plan ?pb_Plan ?pc_Plan ?pd_Plan ?pe_Plan ?pf_Plan ?pg_Plan ?ph_Plan ?ca_Few ?pa_Few ?pb_Few ?pc_Few ?pd_Few ?pe_Few ?pf_Few ?pg_Few ?ph_Few ?qa_Few ?qb_Few ?qc_Few ?qd_Few ?qn_Few_many ?cl_Few ?co_Few ?ck_Few ?ca_Each ?pa_Each ?pb_Each ?pc_Each ?pd_Each ?pe_Each ?pf_Each ?pg_Each ?ph_Each ?qa_Each ?qb_Each ?qc_Each ?qd_Each ?qn_Each_inside ?cl_Each ?co_Each ?ck_Each ?ca_First ?pa_First ?pb_First ?pc_First ?pd_First ?pe_First ?pf_First ?pg_First ?ph_First ?qa_First ?qb_First ?qc_First ?qd_First ?qn_First_outside ?qn_First_inside ?cl_First ?co_First ?ck_First ?mf_4 ?ml_4 ?mo_4 ?mk_4 ?mi_4 ?mf_1 ?ml_1 ?mo_1 ?mk_1 ?mi_1 ?mf_5 ?ml_a ?mo_a ?mk_a ?mi_a ?mf_2 ?ml_2 ?mo_2 ?mk_2 ?mi_2 ?mf_7 ?ml_7 ?mo_7 ?mk_7 ?mi_7 ?lca_d ?lct_d ?lcq_d ?lch_spread_told ?lca_c ?lct_c ?lcq_c ?lch_spread_by ?lca_b ?lct_b ?lcq_b ?lch_groups_matrix ?lca_1 ?lct_1 ?lcq_1 ?lch_Each_matrix ?lca_4 ?lct_4 ?lcq_4 ?lch_Few_matrix ?ltnd ?fact_mNoUnits ?fact_vNoUnits ?fact_kNoUnitsNoUnits ?fact_kNoUnitsNoLevel ?fact_kNoUnitsNoSpread ?fact_mNoLevel ?fact_vNoLevel ?fact_kNoLevelNoUnits ?fact_kNoLevelNoLevel ?fact_kNoLevelNoSpread ?fact_mNoSpread ?fact_vNoSpread ?fact_kNoSpreadNoUnits ?fact_kNoSpreadNoLevel ?fact_kNoSpreadNoSpread ?z0 ?z1 ?z2 ?z3 ?z4 ?z5 ?z6 ?z7 ?z8 ?z9 ?z10 ?z11 ?z12 ?z13 ?z14 ?r0 ?r1 ?r2 ?r3 ?r4 ?r5 ?r6 ?r7
      (case a0=>k_is)
      (case l0=>k_is)
      (case c0=>k_is)
      (case k0=>k_is)
      (case a1=>k_is)
      (case l1=>k_is)
      (case c1=>k_is)
      (case k1=>k_is)
      (case a2=>k_is)
      (case l2=>k_is)
      (case c2=>k_is)
      (case k2=>k_is)
      (case a3=>k_is)
      (case l3=>k_is)
      (case c3=>k_is)
      (case k3=>k_is)
      (case a4=>k_is)
      (case l4=>k_is)
      (case c4=>k_is)
      (case k4=>k_is)
      (case a5=>k_is)
      (case l5=>k_is)
      (case c5=>k_is)
      (case k5=>k_is)
      (case a6=>k_is)
      (case l6=>k_is)
      (case c6=>k_is)
      (case k6=>k_is)
      (case a7=>k_is)
      (case l7=>k_is)
      (case c7=>k_is)
      (case k7=>k_is)
      (case a8=>k_is)
      (case l8=>k_is)
      (case c8=>k_is)
      (case k8=>k_is)
      (case a9=>k_is)
      (case l9=>k_is)
      (case c9=>k_is)
      (case k9=>k_is)
      (case a10=>k_is)
      (case l10=>k_is)
      (case c10=>k_is)
      (case k10=>k_is)
      (case a11=>k_is)
      (case l11=>k_is)
      (case c11=>k_is)
      (case k11=>k_is)
      (case a12=>k_is)
      (case l12=>k_is)
      (case c12=>k_is)
      (case k12=>k_is)
      (case a13=>k_is)
      (case l13=>k_is)
      (case c13=>k_is)
      (case k13=>k_is)
      (case a14=>k_is)
      (case l14=>k_is)
      (case c14=>k_is)
      (case k14=>k_is)
      (case a15=>k_is)
      (case l15=>k_is)
      (case c15=>k_is)
      (case k15=>k_is)
      (case a16=>k_is)
      (case l16=>k_is)
      (case c16=>k_is)
      (case k16=>k_is)
      (case a17=>k_is)
      (case l17=>k_is)
      (case c17=>k_is)
      (case k17=>k_is)
      (case a18=>k_is)
      (case l18=>k_is)
      (case c18=>k_is)
      (case k18=>k_is)
      (case a19=>k_is)
      (case l19=>k_is)
      (case c19=>k_is)
      (case k19=>k_is)
      (case a20=>k_is)
      (case l20=>k_is)
      (case c20=>k_is)
      (case k20=>k_is)
      (case a21=>k_is)
      (case l21=>k_is)
      (case c21=>k_is)
      (case k21=>k_is)
      (case a22=>k_is)
      (case l22=>k_is)
      (case c22=>k_is)
      (case k22=>k_is)
      (case a23=>k_is)
      (case l23=>k_is)
      (case c23=>k_is)
      (case k23=>k_is)
      (case a24=>k_is)
      (case l24=>k_is)
      (case c24=>k_is)
      (case k24=>k_is)
      (case a25=>k_is)
      (case l25=>k_is)
      (case c25=>k_is)
      (case k25=>k_is)
      (case a26=>k_is)
      (case l26=>k_is)
      (case c26=>k_is)
      (case k26=>k_is)
      (case a27=>k_is)
      (case l27=>k_is)
      (case c27=>k_is)
      (case k27=>k_is)
      (case a28=>k_is)
      (case l28=>k_is)
      (case c28=>k_is)
      (case k28=>k_is)
      (case a29=>k_is)
      (case l29=>k_is)
      (case c29=>k_is)
      (case k29=>k_is)
      (case a30=>k_is)
      (case l30=>k_is)
      (case c30=>k_is)
      (case k30=>k_is)
      (case a31=>k_is)
      (case l31=>k_is)
      (case c31=>k_is)
      (case k31=>k_is)
      (case a32=>k_is)
      (case l32=>k_is)
      (case c32=>k_is)
      (case k32=>k_is)
      (case a33=>k_is)
      (case l33=>k_is)
      (case c33=>k_is)
      (case k33=>k_is)
      (case a34=>k_is)
      (case l34=>k_is)
      (case c34=>k_is)
      (case k34=>k_is)
      (case a35=>k_is)
      (case l35=>k_is)
      (case c35=>k_is)
      (case k35=>k_is)
      (case a36=>k_is)
      (case l36=>k_is)
      (case c36=>k_is)
      (case k36=>k_is)
      (case a37=>k_is)
      (case l37=>k_is)
      (case c37=>k_is)
      (case k37=>k_is)
      (case a38=>k_is)
      (case l38=>k_is)
      (case c38=>k_is)
      (case k38=>k_is)
      (case a39=>k_is)
      (case l39=>k_is)
      (case c39=>k_is)
      (case k39=>k_is)
      (case a40=>k_is)
      (case l40=>k_is)
      (case c40=>k_is)
      (case k40=>k_is)
      (case a41=>k_is)
      (case l41=>k_is)
      (case c41=>k_is)
      (case k41=>k_is)
      (case a42=>k_is)
      (case l42=>k_is)
      (case c42=>k_is)
      (case k42=>k_is)
      (case a43=>k_is)
      (case l43=>k_is)
      (case c43=>k_is)
      (case k43=>k_is)
      (case a44=>k_is)
      (case l44=>k_is)
      (case c44=>k_is)
      (case k44=>k_is)
      (case a45=>k_is)
      (case l45=>k_is)
      (case c45=>k_is)
      (case k45=>k_is)
      (case a46=>k_is)
      (case l46=>k_is)
      (case c46=>k_is)
      (case k46=>k_is)
      (case a47=>k_is)
      (case l47=>k_is)
      (case c47=>k_is)
      (case k47=>k_is)
      (case a48=>k_is)
      (case l48=>k_is)
      (case c48=>k_is)
      (case k48=>k_is)
      (case a49=>k_is)
      (case l49=>k_is)
      (case c49=>k_is)
      (case k49=>k_is)
      (case a50=>k_is)
      (case l50=>k_is)
      (case c50=>k_is)
      (case k50=>k_is)
      (case a51=>k_is)
      (case l51=>k_is)
      (case c51=>k_is)
      (case k51=>k_is)
      (case a52=>k_is)
      (case l52=>k_is)
      (case c52=>k_is)
      (case k52=>k_is)
      (case a53=>k_is)
      (case l53=>k_is)
      (case c53=>k_is)
      (case k53=>k_is)
      (case a54=>k_is)
      (case l54=>k_is)
      (case c54=>k_is)
      (case k54=>k_is)
      (case a55=>k_is)
      (case l55=>k_is)
      (case c55=>k_is)
      (case k55=>k_is)
      (case a56=>k_is)
      (case l56=>k_is)
      (case c56=>k_is)
      (case k56=>k_is)
      (case b_NOUGHT=>k_is)
      (case bt_NOUGHT=>kernel_rfl)
      (case b_WHOLE=>k_is)
      (case bt_WHOLE=>kernel_rfl)
      (case b0=>k_is)
      (case b1=>k_is)
      (case b2=>k_is)
      (case b3=>k_is)
      (case b4=>k_is)
      (case b5=>k_is)
      (case b6=>k_is)
      (case b7=>k_is)
      (case ca_SpeakError=>k_is)
      (case cb_SpeakError=>k_is)
      (case cc_SpeakError=>kernel_rfl)
      (case cx_SpeakError=>kernel_rfl)
      (case ca_NoUnits=>k_is)
      (case cb_NoUnits=>k_is)
      (case cc_NoUnits=>kernel_rfl)
      (case cx_NoUnits=>kernel_rfl)
      (case ca_NoPlan=>k_is)
      (case cb_NoPlan=>k_is)
      (case cc_NoPlan=>kernel_rfl)
      (case cf_NoPlan=>k_is)
      (case cx_NoPlan=>kernel_rfl)
      (case cg_NoPlan=>k_is)
      (case cl_NoPlan=>k_is)
      (case co_NoPlan=>k_is)
      (case ck_NoPlan=>k_is)
      (case cs_NoPlan_place=>kernel_rfl)
      (case ca_NoLevel=>k_is)
      (case cb_NoLevel=>k_is)
      (case cc_NoLevel=>kernel_rfl)
      (case cx_NoLevel=>kernel_rfl)
      (case ca_NoSpread=>k_is)
      (case cb_NoSpread=>k_is)
      (case cc_NoSpread=>kernel_rfl)
      (case cf_NoSpread=>k_is)
      (case cx_NoSpread=>kernel_rfl)
      (case cg_NoSpread=>k_is)
      (case cl_NoSpread=>k_is)
      (case co_NoSpread=>k_is)
      (case ck_NoSpread=>k_is)
      (case cs_NoSpread_one=>kernel_rfl)
      (case cs_NoSpread_other=>kernel_rfl)
      (case ca_Plan=>k_is)
      (case pa_Plan=>(first | k_is | kernel_rfl))
      (case pb_Plan=>(first | k_is | kernel_rfl))
      (case pc_Plan=>(first | k_is | kernel_rfl))
      (case pd_Plan=>(first | k_is | kernel_rfl))
      (case pe_Plan=>(first | k_is | kernel_rfl))
      (case pf_Plan=>(first | k_is | kernel_rfl))
      (case pg_Plan=>(first | k_is | kernel_rfl))
      (case ph_Plan=>(first | k_is | kernel_rfl))
      (case ca_Few=>k_is)
      (case pa_Few=>(first | k_is | kernel_rfl))
      (case pb_Few=>(first | k_is | kernel_rfl))
      (case pc_Few=>(first | k_is | kernel_rfl))
      (case pd_Few=>(first | k_is | kernel_rfl))
      (case pe_Few=>(first | k_is | kernel_rfl))
      (case pf_Few=>(first | k_is | kernel_rfl))
      (case pg_Few=>(first | k_is | kernel_rfl))
      (case ph_Few=>(first | k_is | kernel_rfl))
      (case qa_Few=>(first | k_is | kernel_rfl))
      (case qb_Few=>(first | k_is | kernel_rfl))
      (case qc_Few=>(first | k_is | kernel_rfl))
      (case qd_Few=>(first | k_is | kernel_rfl))
      (case qn_Few_many=>(first | k_is | kernel_rfl))
      (case cl_Few=>k_is)
      (case co_Few=>k_is)
      (case ck_Few=>k_is)
      (case ca_Each=>k_is)
      (case pa_Each=>(first | k_is | kernel_rfl))
      (case pb_Each=>(first | k_is | kernel_rfl))
      (case pc_Each=>(first | k_is | kernel_rfl))
      (case pd_Each=>(first | k_is | kernel_rfl))
      (case pe_Each=>(first | k_is | kernel_rfl))
      (case pf_Each=>(first | k_is | kernel_rfl))
      (case pg_Each=>(first | k_is | kernel_rfl))
      (case ph_Each=>(first | k_is | kernel_rfl))
      (case qa_Each=>(first | k_is | kernel_rfl))
      (case qb_Each=>(first | k_is | kernel_rfl))
      (case qc_Each=>(first | k_is | kernel_rfl))
      (case qd_Each=>(first | k_is | kernel_rfl))
      (case qn_Each_inside=>(first | k_is | kernel_rfl))
      (case cl_Each=>k_is)
      (case co_Each=>k_is)
      (case ck_Each=>k_is)
      (case ca_First=>k_is)
      (case pa_First=>(first | k_is | kernel_rfl))
      (case pb_First=>(first | k_is | kernel_rfl))
      (case pc_First=>(first | k_is | kernel_rfl))
      (case pd_First=>(first | k_is | kernel_rfl))
      (case pe_First=>(first | k_is | kernel_rfl))
      (case pf_First=>(first | k_is | kernel_rfl))
      (case pg_First=>(first | k_is | kernel_rfl))
      (case ph_First=>(first | k_is | kernel_rfl))
      (case qa_First=>(first | k_is | kernel_rfl))
      (case qb_First=>(first | k_is | kernel_rfl))
      (case qc_First=>(first | k_is | kernel_rfl))
      (case qd_First=>(first | k_is | kernel_rfl))
      (case qn_First_outside=>(first | k_is | kernel_rfl))
      (case qn_First_inside=>(first | k_is | kernel_rfl))
      (case cl_First=>k_is)
      (case co_First=>k_is)
      (case ck_First=>k_is)
      (case mf_4=>(first | k_is | kernel_rfl))
      (case ml_4=>k_is)
      (case mo_4=>k_is)
      (case mk_4=>k_is)
      (case mi_4=>(first | k_is | kernel_rfl))
      (case mf_1=>(first | k_is | kernel_rfl))
      (case ml_1=>k_is)
      (case mo_1=>k_is)
      (case mk_1=>k_is)
      (case mi_1=>(first | k_is | kernel_rfl))
      (case mf_5=>(first | k_is | kernel_rfl))
      (case ml_a=>k_is)
      (case mo_a=>k_is)
      (case mk_a=>k_is)
      (case mi_a=>(first | k_is | kernel_rfl))
      (case mf_2=>(first | k_is | kernel_rfl))
      (case ml_2=>k_is)
      (case mo_2=>k_is)
      (case mk_2=>k_is)
      (case mi_2=>(first | k_is | kernel_rfl))
      (case mf_7=>(first | k_is | kernel_rfl))
      (case ml_7=>k_is)
      (case mo_7=>k_is)
      (case mk_7=>k_is)
      (case mi_7=>(first | k_is | kernel_rfl))
      (case lca_d=>exact rfl)
      (case lct_d=>k_is)
      (case lcq_d=>exact rfl)
      (case lch_spread_told=>kernel_rfl)
      (case lca_c=>exact rfl)
      (case lct_c=>k_is)
      (case lcq_c=>exact rfl)
      (case lch_spread_by=>kernel_rfl)
      (case lca_b=>exact rfl)
      (case lct_b=>k_is)
      (case lcq_b=>exact rfl)
      (case lch_groups_matrix=>kernel_rfl)
      (case lca_1=>exact rfl)
      (case lct_1=>k_is)
      (case lcq_1=>exact rfl)
      (case lch_Each_matrix=>kernel_rfl)
      (case lca_4=>exact rfl)
      (case lct_4=>k_is)
      (case lcq_4=>exact rfl)
      (case lch_Few_matrix=>kernel_rfl)
      (case ltnd=>decide)
      (case fact_mNoUnits=>kernel_rfl)
      (case fact_vNoUnits=>kernel_rfl)
      (case fact_kNoUnitsNoUnits=>kernel_rfl)
      (case fact_kNoUnitsNoLevel=>kernel_rfl)
      (case fact_kNoUnitsNoSpread=>kernel_rfl)
      (case fact_mNoLevel=>kernel_rfl)
      (case fact_vNoLevel=>kernel_rfl)
      (case fact_kNoLevelNoUnits=>kernel_rfl)
      (case fact_kNoLevelNoLevel=>kernel_rfl)
      (case fact_kNoLevelNoSpread=>kernel_rfl)
      (case fact_mNoSpread=>kernel_rfl)
      (case fact_vNoSpread=>kernel_rfl)
      (case fact_kNoSpreadNoUnits=>kernel_rfl)
      (case fact_kNoSpreadNoLevel=>kernel_rfl)
      (case fact_kNoSpreadNoSpread=>kernel_rfl)
      (case z0=>k_is)
      (case z1=>k_is)
      (case z2=>k_is)
      (case z3=>k_is)
      (case z4=>k_is)
      (case z5=>k_is)
      (case z6=>k_is)
      (case z7=>k_is)
      (case z8=>k_is)
      (case z9=>k_is)
      (case z10=>k_is)
      (case z11=>k_is)
      (case z12=>k_is)
      (case z13=>k_is)
      (case z14=>k_is)
      (case r0=>first | exact rfl | exact ⟨_,rfl⟩)
      (case r1=>first | exact rfl | exact ⟨_,rfl⟩)
      (case r2=>first | exact rfl | exact ⟨_,rfl⟩)
      (case r3=>first | exact rfl | exact ⟨_,rfl⟩)
      (case r4=>first | exact rfl | exact ⟨_,rfl⟩)
      (case r5=>first | exact rfl | exact ⟨_,rfl⟩)
      (case r6=>first | exact rfl | exact ⟨_,rfl⟩)
      (case r7=>first | exact rfl | exact ⟨_,rfl⟩)
    obtain ⟨a,T,e1⟩:=T
    have e1:=e1.trans hts
    have e0:=hmg.symm.trans T.m_law
    cases e0
    refine' ⟨a.d_law,?b,?t,?u,fun base kb nb hB=>My.ok_law T hB ?v⟩
    case b=>exact T.bl
    case t =>
      intro P hP
      have hP:=e1.symm ▸ hP
      simp only [My.tabs,List.map_cons,List.map_nil,List.mem_cons,List.not_mem_nil,or_false] at hP
      rcases hP with rfl | rfl | rfl | rfl | rfl
      · exact ⟨_,T.lch_spread_told⟩
      · exact ⟨_,T.lch_spread_by⟩
      · exact ⟨_,T.lch_groups_matrix⟩
      · exact ⟨_,T.lch_Each_matrix⟩
      · exact ⟨_,T.lch_Few_matrix⟩
    case u =>
      intro P hP
      simp only [List.mem_cons,List.not_mem_nil,or_false] at hP
      rcases hP with rfl | rfl | rfl | rfl | rfl <;> kernel_rfl
    case v =>
      intro q hq
      rw [← e1]
      exact List.mem_map_of_mem hq
  case S=>exact fun K H a ns hl hO hS=>My.law_start hl hO hS
  case C=>exact fun H s e s' z=>z
