import PyProof.Rows.All
import Wide.All
import OpenK.AllK
import Wide.FinOn
import Lean
import PyProof.EqAt
import PyProof.EqKinds
import PyProof.TupleCall
import PySem.Challenge.RW_fewspeak_k32_whole_each_keeps_its_share
noncomputable section
set_option Elab.async false
set_option linter.all false
set_option maxRecDepth 100000
namespace L2
open PySem PySem.Spec PyProof.Rows
abbrev Key:=Sum Int Str
def jn:Key→Value→Bool
  | .inl k,v=>Value.isInt k v
  | .inr x,v=>Value.isStrOf x v
def yy (w:World):Key→Int
  | .inl k=>hashInt k
  | .inr x=>hashStr w x
theorem bH:∀ {k:Key} {v:Value},jn k v = true→(∃ i t,k = Sum.inl i∧v = Value.int i t)∨(∃ x t,k = Sum.inr x∧v = Value.str x t)
  | .inl i,v,h=>by
    obtain ⟨t,e⟩:=Value.isInt_shape (k:=i) (v:=v) h
    exact .inl ⟨i,t,rfl,e⟩
  | .inr x,v,h=>by
    obtain ⟨t,e⟩:=Value.isStrOf_shape (x:=x) (v:=v) h
    exact .inr ⟨x,t,rfl,e⟩
theorem oE (i:Int) (t:Tok):jn (.inl i) (.int i t) = true:=by simp [jn,Value.isInt]
theorem oW (x:Str) (t:Tok):jn (.inr x) (.str x t) = true:=by simp [jn,Value.isStrOf]
theorem vB (a b:Int):decide ((Sum.inl a:Key) = Sum.inl b) = (a == b):=by
  by_cases e:a = b
  · subst e; simp
  · have h:¬ (Sum.inl a:Key) = Sum.inl b:=fun q=>e (Sum.inl.inj q)
    rw [decide_eq_false h]
    exact (beq_eq_false_iff_ne.mpr e).symm
theorem vw (a b:Str):decide ((Sum.inr a:Key) = Sum.inr b) = decide (a = b):=by
  by_cases e:a = b
  · subst e; simp
  · have h:¬ (Sum.inr a:Key) = Sum.inr b:=fun q=>e (Sum.inr.inj q)
    rw [decide_eq_false h,decide_eq_false e]
theorem vx (a:Int) (b:Str):decide ((Sum.inl a:Key) = Sum.inr b) = false:=decide_eq_false (fun q=>nomatch q)
theorem vm (a:Str) (b:Int):decide ((Sum.inr a:Key) = Sum.inl b) = false:=decide_eq_false (fun q=>nomatch q)
def bE (prog:Program) (w:World):PySem.KeyKind prog w Key where
  is:=jn
  hash:=yy w
  inj:=fun v a b ha hb=>by
    rcases bH ha with ⟨i,t,rfl,rfl⟩ | ⟨x,t,rfl,rfl⟩
    · rcases bH hb with ⟨j,u,rfl,e⟩ | ⟨y,u,rfl,e⟩
      · injection e with e1 _; rw [e1]
      · exact nomatch e
    · rcases bH hb with ⟨j,u,rfl,e⟩ | ⟨y,u,rfl,e⟩
      · exact nomatch e
      · injection e with e1 _; rw [e1]
  byValue:=fun k v h=>by
    rcases bH h with ⟨i,t,rfl,rfl⟩ | ⟨x,t,rfl,rfl⟩ <;> rfl
  pyHash:=fun hv h=>by
    rcases bH hv with ⟨i,t,rfl,rfl⟩ | ⟨x,t,rfl,rfl⟩
    · exact wpAny_pyHash_int h
    · exact wpAny_pyHash_str h
  eqBool:=fun hu hv h=>by
    rcases bH hu with ⟨i,t,rfl,rfl⟩ | ⟨x,t,rfl,rfl⟩
    · rcases bH hv with ⟨j,u,rfl,rfl⟩ | ⟨y,u,rfl,rfl⟩
      · rw [vB] at h; exact wpAny_eqBool_int h
      · rw [vx] at h; exact SeqAt.EqAt.int_str i t y u _ _ _ _ h
    · rcases bH hv with ⟨j,u,rfl,rfl⟩ | ⟨y,u,rfl,rfl⟩
      · rw [vm] at h; exact SeqAt.EqAt.str_int x t j u _ _ _ _ h
      · rw [vw] at h; exact wpAny_eqBool_str h
  «strs»:=fun k x t v h=>by
    rcases bH h with ⟨i,u,rfl,e⟩ | ⟨y,u,rfl,e⟩
    · exact nomatch e
    · injection e with e1 _
      subst e1
      cases v <;> rfl
theorem kO (prog:Program) (w:World) (i:Int) (t:Tok):(bE prog w).is (.inl i) (.int i t) = true:=oE i t
theorem kU (prog:Program) (w:World) (x:Str) (t:Tok):(bE prog w).is (.inr x) (.str x t) = true:=oW x t
end L2
namespace L2
open PySem PySem.Spec PyProof.Rows
inductive V where
  | non | bl (b:Bool) | int (i:Int) | str (x:Str) | byt (b:Array UInt8) | flt (b:UInt64) | ref (a:Addr) | ty (n:String)
  deriving DecidableEq
def RelV:V→Value→Prop
  | .non,u=>u = Value.none
  | .bl b,u=>u = Value.bool b
  | .int i,u=>∃ t,u = Value.int i t
  | .str x,u=>∃ t,u = Value.str x t
  | .byt b,u=>∃ t,u = Value.bytes b t
  | .flt b,u=>∃ t,u = Value.float b t
  | .ref a,u=>u = Value.ref a
  | .ty n,u=>u = Value.type n
abbrev Vals:List V→List Value→Prop:=Paired RelV
theorem Vals.length {xs:List V} {us:List Value} (r:Vals xs us):xs.length = us.length:=Paired.length r
theorem Vals.get:∀ {xs:List V} {us:List Value} {i:Nat} {x:V},Vals xs us→xs[i]? = some x→∃ u,us[i]? = some u∧RelV x u
  | _,_,_,_,.nil,e=>by simp at e
  | _,_,0,_,.cons r _,e=>by simp at e; subst e; exact ⟨_,rfl,r⟩
  | _,_,i + 1,x,.cons _ t,e=>by
    obtain ⟨u,h1,h2⟩:=Vals.get (i:=i) (x:=x) t (by simpa using e)
    exact ⟨u,by simpa using h1,h2⟩
theorem Vals.append:∀ {xs ys:List V} {us ws:List Value},Vals xs us→Vals ys ws→Vals (xs ++ ys) (us ++ ws)
  | _,_,_,_,.nil,s=>s
  | _,_,_,_,.cons r t,s=>.cons r (Vals.append t s)
theorem Vals.take:∀ {xs:List V} {us:List Value} (n:Nat),Vals xs us→Vals (xs.take n) (us.take n)
  | _,_,0,_=>.nil
  | _,_,_ + 1,.nil=>.nil
  | _,_,n + 1,.cons r t=>.cons r (Vals.take n t)
theorem Vals.drop:∀ {xs:List V} {us:List Value} (n:Nat),Vals xs us→Vals (xs.drop n) (us.drop n)
  | _,_,0,r=>r
  | _,_,_ + 1,.nil=>.nil
  | _,_,n + 1,.cons _ t=>Vals.drop n t
def RelO:Option V→Option Value→Prop
  | some v,some u=>RelV v u
  | none,none=>True
  | _,_=>False
def KV {κ:Type}:List (κ×V)→List (κ×Value)→Prop:=Paired fun (p:κ×V) (q:κ×Value)=>p.1 = q.1∧RelV p.2 q.2
def kV:Key→V
  | .inl i=>.int i
  | .inr x=>.str x
inductive HO where
  | lst (xs:List V)
  | tup (xs:List V)
  | dK (kvs:List (Key×V)) | dT (kvs:List (List Key×V))
  | set (S:Int→Bool) (n:Nat)
  | ins (C dx:Addr) (fs:List (Str×V))
  | own (x:Addr)
  | xd (fs:List (Str×V))
  | met (f x:Addr)
  | rng (lo hi:Int)
  | frz (o:Obj) (u:HO)
  | tbl (ps:Array Value)
  | ext (φ:Heap→Prop)
abbrev Hp:=Addr→Option HO
def upd (H:Hp) (a:Addr) (o:HO):Hp:=fun b=>if b = a then some o else H b
theorem ad {H:Hp} {a:Addr} {o:HO}:upd H a o a = some o:=by unfold upd; rw [if_pos rfl]
theorem ai {H:Hp} {a b:Addr} {o:HO} (h:b≠a):upd H a o b = H b:=by unfold upd; rw [if_neg h]
theorem m8 {H:Hp} {a:Addr} {o u:HO}:upd (upd H a o) a u = upd H a u:=by
  funext b; unfold upd; split <;> rfl
theorem uz {H:Hp} {a b:Addr} {o u:HO} (h:H a = some o) (h':H b = some u) (d:o≠u):a≠b:=by
  intro e; subst e; rw [h] at h'; exact d (Option.some.inj h')
theorem aq {H:Hp} {a b:Addr} {o:HO} (h:H a = some o) (h':H b = none):a≠b:=by
  intro e; subst e; rw [h] at h'; cases h'
section
variable (P:Program) (w:World)
def ObjOk (H:Hp) (h:Heap) (a:Addr):HO→Prop
  | .lst xs=>xs.length≤sizeLine∧∃ (its:List Value) (n:Nat),Vals xs its∧h.get? a = some { cls:=.type "list",data:=.seq its.toArray n }
  | .tup xs=>xs.length≤sizeLine∧∃ its:List Value,Vals xs its∧IsTup h a its.toArray
  | .dK kvs=>kvs.length≤sizeLine∧(a == sysModules) = false∧∃ vs,KV kvs vs∧h.DictOf (bE P w) a vs
  | .dT kvs=>kvs.length≤sizeLine∧(a == sysModules) = false∧∃ xs:List (List Key×Addr×Value),
      Paired (fun (p:List Key×V) (q:List Key×Addr×Value)=>p.1 = q.1∧H q.2.1 = some (.tup (p.1.map kV))∧RelV p.2 q.2.2) kvs xs ∧
      ∃ o es ep,h.get? a = some o∧o.ExactDict∧o.data = .dict es ep∧es.toList = xs.map (entryOfKey (tupleKind (bE P w)))∧(xs.map (·.1)).Nodup
  | .set S n=>h.SetOf (intKind P w) a S n
  | .ins C dx fs=>H dx = some (.own a)∧fs.length≤1000∧dx≠a∧h.get? a = some (PySem.W.instObj C dx) ∧
      ∃ mA,h.Ns1 dx mA∧(∀ f,RelO (fs.lookup f) (mA f))∧PySem.Within mA (fs.map (·.1))
  | .own _=>∃ o,h.get? a = some o
  | .xd fs=>∃ mA,h.Ns1 a mA∧∀ f,RelO (fs.lookup f) (mA f)
  | .rng lo hi=>∃ t u v,h.get? a = some { cls:=.type "range",data:=.fields #[.int lo t,.int hi u,.int 1 v] }
  | .frz o u=>h.get? a = some o∧ObjOk H h a u
  | .tbl ps=>h.get? a = some { cls:=.none,data:=.fields ps }
  | .met f x=>h.get? a = some (PySem.W.methodObj (.ref f) (.ref x))
  | .ext φ=>φ h∧(∃ o,h.get? a = some o)∧∀ h1 h2:Heap,φ h1→(∀ o,h1.get? a = some o→h2.get? a = some o)→φ h2
def HOk (H:Hp) (h:Heap):Prop:=∀ a o,H a = some o→ObjOk P w H h a o
end
section
variable {P:Program} {w:World} {H H':Hp} {h h':Heap} {a:Addr} {o:HO}
theorem ObjOk.lt (x:ObjOk P w H h a o):a < h.objs.size:=by
  cases o with
  | lst xs=>obtain ⟨_,_,_,_,e⟩:=x; exact Heap.lt_size e
  | tup xs=>obtain ⟨_,_,_,p⟩:=x; exact p.lt
  | dK kvs=>obtain ⟨_,_,_,_,o,_,_,e,_⟩:=x; exact Heap.lt_size e
  | dT kvs=>obtain ⟨_,_,_,_,o,_,_,e,_⟩:=x; exact Heap.lt_size e
  | set S n=>obtain ⟨o,_,_,_,e,_⟩:=x; exact Heap.lt_size e
  | ins C dx fs=>obtain ⟨_,_,_,e,_⟩:=x; exact Heap.lt_size e
  | own y=>obtain ⟨_,e⟩:=x; exact Heap.lt_size e
  | xd fs=>obtain ⟨_,⟨_,_,_,e,_⟩,_⟩:=x; exact Heap.lt_size e
  | rng lo hi=>obtain ⟨_,_,_,e⟩:=x; exact Heap.lt_size e
  | frz ob u=>obtain ⟨e,_⟩:=x; exact Heap.lt_size e
  | tbl ps=>exact Heap.lt_size (show h.get? a = some _ from x)
  | met f y=>exact Heap.lt_size (show h.get? a = some _ from x)
  | ext φ=>obtain ⟨_,⟨_,e⟩,_⟩:=x; exact Heap.lt_size e
theorem Paired.mapP {α β:Type} {F G:α→β→Prop}:∀ {l₁:List α} {l₂:List β},Paired F l₁ l₂→(∀ a b,F a b→G a b)→Paired G l₁ l₂
  | _,_,.nil,_=>.nil
  | _,_,.cons r t,f=>.cons (f _ _ r) (Paired.mapP t f)
theorem ObjOk.stay (x:ObjOk P w H h a o) (k:∀ b u,(b = a∨H b = some (.own a))→h.get? b = some u→h'.get? b = some u)
    (ho:∀ b,H b = some (.own a)→H' b = some (.own a)) (ht:∀ b xs,H b = some (.tup xs)→H' b = some (.tup xs)):ObjOk P w H' h' a o:=by
  induction o with
  | lst xs=>obtain ⟨z,its,n,r,e⟩:=x; exact ⟨z,its,n,r,k _ _ (.inl rfl) e⟩
  | tup xs=>obtain ⟨z,its,r,ob,e,c⟩:=x; exact ⟨z,its,r,ob,k _ _ (.inl rfl) e,c⟩
  | dK kvs=>obtain ⟨z,y,vs,r,ob,es,ep,e,c⟩:=x; exact ⟨z,y,vs,r,ob,es,ep,k _ _ (.inl rfl) e,c⟩
  | dT kvs =>
    obtain ⟨z,y,xs,r,ob,es,ep,e,c⟩:=x
    exact ⟨z,y,xs,Paired.mapP r fun p q z=>⟨z.1,ht _ _ z.2.1,z.2.2⟩,ob,es,ep,k _ _ (.inl rfl) e,c⟩
  | set S n=>obtain ⟨ob,es,ep,t,e,c⟩:=x; exact ⟨ob,es,ep,t,k _ _ (.inl rfl) e,c⟩
  | ins C dx fs =>
    obtain ⟨d,z,ne,e,mA,⟨od,es,ep,e2,c⟩,r⟩:=x
    exact ⟨ho _ d,z,ne,k _ _ (.inl rfl) e,mA,⟨od,es,ep,k _ _ (.inr d) e2,c⟩,r⟩
  | own y=>obtain ⟨ob,e⟩:=x; exact ⟨ob,k _ _ (.inl rfl) e⟩
  | xd fs=>obtain ⟨mA,⟨od,es,ep,e,c⟩,r⟩:=x; exact ⟨mA,⟨od,es,ep,k _ _ (.inl rfl) e,c⟩,r⟩
  | rng lo hi=>obtain ⟨t,u,v,e⟩:=x; exact ⟨t,u,v,k _ _ (.inl rfl) e⟩
  | frz ob u ih=>obtain ⟨e,q⟩:=x; exact ⟨k _ _ (.inl rfl) e,ih q⟩
  | tbl ps =>
    have e:h.get? a = some { cls:=.none,data:=.fields ps }:=x
    show h'.get? a = some { cls:=.none,data:=.fields ps }
    exact k a _ (.inl rfl) e
  | met f y =>
    have e:h.get? a = some (PySem.W.methodObj (.ref f) (.ref y)):=x
    show h'.get? a = some (PySem.W.methodObj (.ref f) (.ref y))
    exact k a _ (.inl rfl) e
  | ext φ=>obtain ⟨p,⟨o,e⟩,st⟩:=x; exact ⟨st _ _ p fun o q=>k _ _ (.inl rfl) q,⟨o,k _ _ (.inl rfl) e⟩,st⟩
theorem HOk.lt (x:HOk P w H h) (e:H a = some o):a < h.objs.size:=(x a o e).lt
theorem HOk.fresh (x:HOk P w H h) (e:h.objs.size≤a):H a = none:=by
  cases q:H a with
  | none=>rfl
  | some u=>exact absurd (Nat.lt_of_lt_of_le (x.lt q) e) (Nat.lt_irrefl _)
theorem HOk.kept (x:HOk P w H h) (k:∀ b u,h.get? b = some u→h'.get? b = some u):HOk P w H h':=fun a o e =>
  (x a o e).stay (fun b u _ q=>k b u q) (fun _ q=>q) fun _ _ q=>q
theorem HOk.laid (x:HOk P w H h) (k:∀ b u,h.get? b = some u→h'.get? b = some u) (hp:h.objs.size≤a) (new:ObjOk P w (upd H a o) h' a o):HOk P w (upd H a o) h':=fun b u e=>by
  have hn:=x.fresh hp
  by_cases hb:b = a
  · subst hb; rw [ad] at e; cases e; exact new
  · rw [ai hb] at e
    exact (x b u e).stay (fun c v _ q=>k c v q) (fun c q=>by rw [ai (aq q hn)]; exact q) fun c xs q=>by rw [ai (aq q hn)]; exact q
end
def Rd (H:Hp) (a:Addr) (u:HO):Prop:=H a = some u∨∃ o,H a = some (.frz o u)
theorem Rd.ok {P:Program} {w:World} {H:Hp} {h:Heap} {a:Addr} {u:HO} (r:Rd H a u) (x:HOk P w H h):ObjOk P w H h a u:=by
  rcases r with r | ⟨o,r⟩
  · exact x a u r
  · obtain ⟨_,q⟩:=x a _ r
    exact q
def Mut:Option HO→Prop
  | some (.lst _)=>True
  | some (.dK _)=>True
  | some (.dT _)=>True
  | some (.set _ _)=>True
  | some (.ins _ _ _)=>True
  | some (.ext _)=>True
  | _=>False
section
variable {P:Program} {w:World} {H:Hp} {h h':Heap} {x e:Addr} {o':HO}
theorem HOk.write (ok:HOk P w H h) (mu:Mut (H x)) (he:e = x∨H e = some (.own x)) (k:∀ b u,b≠e→h.get? b = some u→h'.get? b = some u) (heo:∃ u,h'.get? e = some u)
    (new:ObjOk P w (upd H x o') h' x o'):HOk P w (upd H x o') h':=fun b u q=>by
  have nown:∀ c y,H c = some (.own y)→c≠x:=fun c y r z=>by subst z; rw [r] at mu; exact mu
  have ntup:∀ c xs,H c = some (.tup xs)→c≠x:=fun c xs r z=>by subst z; rw [r] at mu; exact mu
  by_cases hb:b = x
  · subst hb; rw [ad] at q; cases q; exact new
  · rw [ai hb] at q
    by_cases hbe:b = e
    · have q':H b = some (.own x):=by
        rcases he with z | z
        · exact absurd (hbe.trans z) hb
        · rw [hbe]; exact z
      rw [q] at q'; cases q'
      obtain ⟨v,hv⟩:=heo
      exact ⟨v,by rw [hbe]; exact hv⟩
    · refine (ok b u q).stay (fun c v hc r=>k c v ?_ r) (fun c r=>by rw [ai (nown c b r)]; exact r) fun c xs r=>by rw [ai (ntup c xs r)]; exact r
      rcases hc with rfl | hc
      · exact hbe
      · rintro rfl
        rcases he with z | z
        · exact nown c b hc z
        · rw [hc] at z; cases z; exact hb rfl
end
structure Un (fs ex:List Addr) (H H':Hp) (h h':Heap):Prop where
  keep:∀ b o,h.get? b = some o→H b = none→b ∉ fs→b ∉ ex→h'.get? b = some o
  slot:∀ b o,h.get? b = some o→H b = none→b ∈ fs→b ∉ ex→∃ sl,h'.get? b = some { o with slots:=sl }
  free:∀ b o,h.get? b = some o→H b = none→b ∉ ex→H' b = none
  there:∀ b o,h.get? b = some o→b ∉ ex→∃ o',h'.get? b = some o'
  tups:∀ b xs,H b = some (.tup xs)→H' b = some (.tup xs)
  frzs:∀ b o u,H b = some (.frz o u)→H' b = some (.frz o u)
  tbls:∀ b ps,H b = some (.tbl ps)→∃ more,H' b = some (.tbl (ps ++ more))
section
variable {fs fs' ex ex':List Addr} {H H1 H2:Hp} {h h1 h2 h':Heap} {a x e:Addr} {o:HO}
theorem Un.any (u:Un fs ex H H1 h h1) {b:Addr} {ob:Obj} (q:h.get? b = some ob) (n:H b = none) (hx:b ∉ ex):∃ sl,h1.get? b = some { ob with slots:=sl }:=by
  by_cases hb:b ∈ fs
  · exact u.slot b ob q n hb hx
  · exact ⟨ob.slots,u.keep b ob q n hb hx⟩
theorem Un.trans (a:Un fs ex H H1 h h1) (b:Un fs ex H1 H2 h1 h2):Un fs ex H H2 h h2 where
  keep:=fun c ob q n hc hx=>b.keep c ob (a.keep c ob q n hc hx) (a.free c ob q n hx) hc hx
  slot:=fun c ob q n hc hx=>by
    obtain ⟨sl,e1⟩:=a.slot c ob q n hc hx
    obtain ⟨sl',e2⟩:=b.slot c _ e1 (a.free c ob q n hx) hc hx
    exact ⟨sl',e2⟩
  free:=fun c ob q n hx=>by
    obtain ⟨o',e1⟩:=a.there c ob q hx
    exact b.free c o' e1 (a.free c ob q n hx) hx
  there:=fun c ob q hx=>by
    obtain ⟨o',e1⟩:=a.there c ob q hx
    exact b.there c o' e1 hx
  tups:=fun c xs q=>b.tups c xs (a.tups c xs q)
  frzs:=fun c ob xs q=>b.frzs c ob xs (a.frzs c ob xs q)
  tbls:=fun c ps q=>by
    obtain ⟨m1,e1⟩:=a.tbls c ps q
    obtain ⟨m2,e2⟩:=b.tbls c _ e1
    exact ⟨m1 ++ m2,by rw [e2,Array.append_assoc]⟩
theorem Un.kept (k:∀ b u,h.get? b = some u→h'.get? b = some u):Un fs ex H H h h' :=
  ⟨fun b ob q _ _ _=>k b ob q,fun b ob q _ _ _=>⟨ob.slots,k b ob q⟩,fun _ _ _ n _=>n,fun b ob q _=>⟨ob,k b ob q⟩,fun _ _ q=>q,fun _ _ _ q=>q,fun _ ps q=>⟨#[],by rw [q]; simp⟩⟩
theorem Un.refl:Un fs ex H H h h:=Un.kept fun _ _ q=>q
theorem Un.laid (k:∀ b u,h.get? b = some u→h'.get? b = some u) (hp:h.objs.size≤a) (hn:H a = none):Un fs ex H (upd H a o) h h' where
  keep:=fun b u q _ _ _=>k b u q
  slot:=fun b u q _ _ _=>⟨u.slots,k b u q⟩
  free:=fun b u q n _=>by rw [ai (Nat.ne_of_lt (Nat.lt_of_lt_of_le (Heap.lt_size q) hp))]; exact n
  there:=fun b u q _=>⟨u,k b u q⟩
  tups:=fun b xs q=>by rw [ai (aq q hn)]; exact q
  frzs:=fun b u xs q=>by rw [ai (aq q hn)]; exact q
  tbls:=fun b ps q=>⟨#[],by rw [ai (aq q hn),q]; simp⟩
theorem Un.write (mu:Mut (H x)) (he:e = x∨H e = some (.own x)) (k:∀ b u,b≠e→h.get? b = some u→h'.get? b = some u) (heo:∃ u,h'.get? e = some u):Un fs ex H (upd H x o) h h':=by
  have hx:∀ b,H b = none→b≠x:=fun b n z=>by subst z; rw [n] at mu; exact mu
  have hb:∀ b,H b = none→b≠e:=fun b n z=>by
    subst z
    rcases he with r | r
    · exact hx b n r
    · rw [n] at r; cases r
  have hm:∀ b u,H b = some u→¬ Mut (some u)→b≠x:=fun b u q nm z=>by subst z; rw [q] at mu; exact nm mu
  refine ⟨fun b u q n _ _=>k b u (hb b n) q,fun b u q n _ _=>⟨u.slots,k b u (hb b n) q⟩,fun b u q n _=>by rw [ai (hx b n)]; exact n,fun b u q _=>?_,
    fun b xs q=>by rw [ai (hm b _ q fun z=>z)]; exact q,fun b u xs q=>by rw [ai (hm b _ q fun z=>z)]; exact q,fun b ps q=>⟨#[],by rw [ai (hm b _ q fun z=>z),q]; simp⟩⟩
  by_cases hbe:b = e
  · subst hbe; exact heo
  · exact ⟨u,k b u hbe q⟩
end
def trk (h:Heap) (H:Hp):List Addr:=(List.range h.objs.size).filter fun a=>(H a).isSome
def iQ (h:Heap) (H:Hp):Heap:=PySem.W.hideAll h (trk h H)
theorem pF (h:Heap) (H:Hp):(iQ h H).objs.size = h.objs.size:=PySem.W.hideAll_size _ _
theorem qG {h:Heap} {H:Hp} {b:Addr} {o:Obj} (e:h.get? b = some o) (n:H b = none):(iQ h H).get? b = some o :=
  PySem.W.hideAll_get _ e fun hm=>by
    have q:(H b).isSome = true:=(List.mem_filter.mp hm).2
    rw [n] at q; simp at q
theorem tD {h:Heap} {H:Hp} {b:Addr} {o:Obj} (e:(iQ h H).get? b = some o):h.get? b = some o∧H b = none:=by
  have e':h.get? b = some o:=PySem.W.of_hideAll (trk h H) e
  refine ⟨e',?_⟩
  cases q:H b with
  | none=>rfl
  | some x =>
    have hm:b ∈ trk h H:=List.mem_filter.mpr ⟨List.mem_range.mpr (Heap.lt_size e'),by simp [q]⟩
    have z:(iQ h H).get? b = none:=PySem.W.hideAll_none (trk h H) hm
    rw [z] at e; cases e
def sX (g h:Heap) (L:Addr):List (Addr×Obj):=(List.range h.objs.size).filterMap fun a=>if a = L∨(g.get? a).isSome = true then none else (h.get? a).map fun o=>(a,o)
def rest (g h:Heap) (L d:Addr):List (Addr×Obj):=(sX g h L).filter fun p=>decide (p.1≠d)
end L2
namespace L2
open PySem PySem.Spec PyProof.Rows
structure Mod (K:PySem.W.Frag) (mg:Str→Option Value) (base:Heap):Prop where
  kin:K.In base
  glob:base.Ns mainGlobals mg
  blt:∃ mb,base.Ns builtinsNs mb∧∀ x:Str,x ≠ "__name__" → mb x = bootBuiltins x
  nolimit:base.NoLimit
/-- the context: a def's body (or a comprehension's block) running. base: fixed through the whole law; s₀, H₀: the entry; outer: the frames whose slots others may change (a def's callers); stack: all frames that run;
   ex: iterators that were made ahead of the entry and are walked here (a comprehension's); fn: the names whose cells were made at the entry (a def: all; a comprehension's block: its own); calm: not wA an except suite; pn: pins that every state bears; xe: what is wanted of an exception that leaves the code -/
structure Cx where
  prog:Program
  w:World
  K:PySem.W.Frag
  mg:Str→Option Value
  base:Heap
  A:Around
  N:List Str
  s₀:Shared
  H₀:Hp
  env:Env
  outer:List Env
  stack:List Env
  ex:List Addr
  fn:Str→Bool
  calm:Bool
  pn:List (Addr×Obj)
  xe:Value→Shared→Prop
def frs (l:List Env):List Addr:=l.filterMap (·.frame)
abbrev Cx.fs (X:Cx):List Addr:=frs X.outer
def Vis (sc:Scope) (x:Str):Prop:=sc.names.lookup x = some .local∨sc.names.lookup x = some .cell∨sc.names.lookup x = some .free
def Loc (sc:Scope) (x:Str):Prop:=sc.names.lookup x = some .local∨sc.names.lookup x = some .cell
def yB (env:Env) (h:Heap) (m:Str→Option Value) (x:Str) (u:Value):Prop :=
  (env.kindOf x = some .local∧m x = some u)∨((env.kindOf x = some .cell∨env.kindOf x = some .free)∧∃ c,env.cells.lookup x = some c∧h.IsCell c (some u))
structure Cx.Ok (X:Cx):Prop where
  mod:Mod X.K X.mg X.base
  kind:X.env.scope.kind = .function
  glob:X.env.globals = mainGlobals
  blt:X.env.builtins = builtinsNs
  above:X.s₀.heap.objs.size≤X.env.locals
  inj:∀ x y c,X.env.cells.lookup x = some c→X.env.cells.lookup y = some c→x = y
  has:∀ x,(X.env.kindOf x = some .cell∨X.env.kindOf x = some .free)→∃ c,X.env.cells.lookup x = some c
  cab:∀ x c,X.fn x = true→X.env.cells.lookup x = some c→X.s₀.heap.objs.size≤c
  hd:X.calm = true→X.A.handled = none
  frames:X.A.frames = some X.stack
  stk:X.stack = X.outer∨(X.stack = X.env :: X.outer∧X.env.frame = some X.env.locals)
  exf:∀ b ∈ X.ex,b≠X.env.locals∧∀ x c,X.env.cells.lookup x = some c→c≠b
  bs:∀ b o,X.base.get? b = some o→X.s₀.heap.get? b = some o∧X.H₀ b = none
  bsz:X.base.objs.size≤X.s₀.heap.objs.size
  noex:∀ b o,X.base.get? b = some o→b ∉ X.ex
  exfs:∀ b ∈ X.ex,b ∉ X.fs
  funs:X.s₀.heap.FunFrames X.base X.outer
  frf:∀ b ∈ X.fs,X.H₀ b = none
structure Inv (X:Cx) (pins:List (Addr×Obj)) (σ:List (Option V)) (H:Hp) (s:Shared):Prop where
  ok:X.Ok
  os:s.os = X.s₀.os
  bare:AllBare s.gens
  base:Un X.fs X.ex X.H₀ H X.s₀.heap s.heap
  loc:∃ m,s.heap.Ns X.env.locals m∧∀ (i:Nat) (x:Str) (v:V),X.N[i]? = some x→σ[i]? = some (some v)→Vis X.env.scope x→∃ u,RelV v u∧yB X.env s.heap m x u
  cell:∀ x c,X.env.cells.lookup x = some c→∃ v,s.heap.IsCell c v
  free:H X.env.locals = none
  freeC:∀ x c,X.env.cells.lookup x = some c→H c = none
  pin:∀ p ∈ X.pn ++ pins,s.heap.get? p.1 = some p.2∧H p.1 = none∧p.1≠X.env.locals∧p.1 ∉ X.fs∧∀ v,p.2.data≠.cell v
  hok:HOk X.prog X.w H s.heap
  len:σ.length = X.N.length
section
variable {X:Cx} {pins:List (Addr×Obj)} {σ:List (Option V)} {H H':Hp} {s:Shared} {h':Heap}
theorem Cx.Ok.nofr (ok:X.Ok) {b:Addr} {o:Obj} (e:X.base.get? b = some o):b ∉ X.fs:=fun hb=>by
  have:=(ok.funs.mem hb).1
  rw [e] at this; cases this
theorem Inv.bs (I:Inv X pins σ H s):∀ b o,X.base.get? b = some o→s.heap.get? b = some o∧H b = none:=fun b o e =>
  ⟨I.base.keep b o (I.ok.bs b o e).1 (I.ok.bs b o e).2 (I.ok.nofr e) (I.ok.noex b o e),I.base.free b o (I.ok.bs b o e).1 (I.ok.bs b o e).2 (I.ok.noex b o e)⟩
theorem Inv.bk (I:Inv X pins σ H s):∀ b o,X.base.get? b = some o→s.heap.get? b = some o:=fun b o e=>(I.bs b o e).1
theorem Inv.mod (I:Inv X pins σ H s):Mod X.K X.mg X.base:=I.ok.mod
theorem Inv.kIn (I:Inv X pins σ H s):X.K.In s.heap:=I.ok.mod.kin.keeps I.bk
theorem Inv.lt (I:Inv X pins σ H s):X.env.locals < s.heap.objs.size:=let ⟨_,hn,_⟩:=I.loc; hn.lt
theorem Inv.sz (I:Inv X pins σ H s):X.s₀.heap.objs.size≤s.heap.objs.size:=Nat.le_trans I.ok.above (Nat.le_of_lt I.lt)
theorem Inv.nofs (I:Inv X pins σ H s) {a:Addr} (h:s.heap.objs.size≤a):a ∉ X.fs:=fun hb=>by
  obtain ⟨_,o,ho,_⟩:=I.ok.funs.mem hb
  exact absurd (Nat.lt_of_lt_of_le (Heap.lt_size ho) (Nat.le_trans I.sz h)) (Nat.lt_irrefl _)
theorem Inv.cne (I:Inv X pins σ H s):∀ x c,X.env.cells.lookup x = some c→c≠X.env.locals:=fun x c e z=>by
  obtain ⟨v,o,ho,hd⟩:=I.cell x c e
  obtain ⟨m,⟨o',es,ep,ho',hd',_⟩,_⟩:=I.loc
  rw [z,ho'] at ho; cases ho; rw [hd'] at hd; cases hd
theorem Inv.funs (I:Inv X pins σ H s):s.heap.FunFrames X.base X.outer:=by
  have all:∀ (l:List Env),(∀ b ∈ frs l,b ∈ X.fs)→X.s₀.heap.FunFrames X.base l→s.heap.FunFrames X.base l:=by
    intro l
    induction l with
    | nil=>intro _ _; trivial
    | cons env r ih =>
      intro hs hl
      obtain ⟨hk,⟨L,o,hf,hn,ho,hd⟩,hr⟩:=hl
      have hL:L ∈ X.fs:=hs L (by unfold frs; rw [List.filterMap_cons,hf]; exact List.mem_cons_self)
      obtain ⟨sl,e⟩:=I.base.slot L o ho (I.ok.frf L hL) hL fun z=>I.ok.exfs L z hL
      exact ⟨hk,⟨L,_,hf,hn,e,hd⟩,ih (fun b hb=>hs b (by unfold frs; rw [List.filterMap_cons,hf]; exact List.mem_cons_of_mem _ hb)) hr⟩
  exact all X.outer (fun _ hb=>hb) I.ok.funs
theorem Inv.stack (I:Inv X pins σ H s):s.heap.FunFrames X.base X.stack:=by
  rcases I.ok.stk with e | ⟨e,hf⟩
  · rw [e]; exact I.funs
  · rw [e]
    obtain ⟨m,hn,_⟩:=I.loc
    refine .cons (by rw [I.ok.kind]; decide) hf hn ?_ I.funs
    exact Heap.get?_none_of_le (Nat.le_trans I.ok.bsz I.ok.above)
theorem Inv.stkSub (I:Inv X pins σ H s):∀ b ∈ frs X.stack,b ∈ X.env.locals :: X.fs:=fun b hb=>by
  rcases I.ok.stk with e | ⟨e,hf⟩
  · rw [e] at hb; exact List.mem_cons_of_mem _ hb
  · rw [e] at hb
    unfold frs at hb
    rw [List.filterMap_cons,hf] at hb
    exact hb
theorem Inv.stkFree (I:Inv X pins σ H s):∀ b ∈ frs X.stack,H b = none:=fun b hb=>by
  rcases List.mem_cons.mp (I.stkSub b hb) with e | hb
  · rw [e]; exact I.free
  · obtain ⟨_,o,ho,_⟩:=I.ok.funs.mem hb
    exact I.base.free b o ho (I.ok.frf b hb) fun z=>I.ok.exfs b z hb
theorem Inv.step {g':Array GenState} {t':Nat} {d':Drawn} {ch:List Addr} (I:Inv X pins σ H s)
    (hch:∀ b ∈ ch,(b ∈ X.ex∨X.s₀.heap.objs.size≤b)∧b≠X.env.locals∧(∀ x c,X.env.cells.lookup x = some c→c≠b)∧∀ p ∈ X.pn ++ pins,p.1≠b)
    (keep:∀ b o,b≠X.env.locals→b ∉ X.fs→b ∉ ch→s.heap.get? b = some o→H b = none→h'.get? b = some o)
    (slot:∀ b o,b≠X.env.locals→b ∈ X.fs→b ∉ ch→s.heap.get? b = some o→H b = none→∃ sl,h'.get? b = some { o with slots:=sl }) (free:∀ b o,b ∉ ch→s.heap.get? b = some o→H b = none→H' b = none)
    (there:∀ b o,b ∉ ch→s.heap.get? b = some o→∃ o',h'.get? b = some o')
    (tups:∀ b xs,H b = some (.tup xs)→H' b = some (.tup xs)) (frzs:∀ b o u,H b = some (.frz o u)→H' b = some (.frz o u)) (tbls:∀ b ps,H b = some (.tbl ps)→∃ more,H' b = some (.tbl (ps ++ more)))
    (ns:∀ m,s.heap.Ns X.env.locals m→h'.Ns X.env.locals m) (hok:HOk X.prog X.w H' h') (hg:AllBare g') :
    Inv X pins σ H' { s with heap:=h',gens:=g',drawn:=d',toks:=t' }:=by
  have neL:∀ b o,X.s₀.heap.get? b = some o→b≠X.env.locals:=fun b o e=>Nat.ne_of_lt (Nat.lt_of_lt_of_le (Heap.lt_size e) I.ok.above)
  have neC:∀ b o,X.s₀.heap.get? b = some o→b ∉ X.ex→b ∉ ch:=fun b o e hx hb=>by
    rcases (hch b hb).1 with z | z
    · exact hx z
    · exact absurd (Nat.lt_of_lt_of_le (Heap.lt_size e) z) (Nat.lt_irrefl _)
  have cellK:∀ x c,X.env.cells.lookup x = some c→∀ v,s.heap.IsCell c v→h'.IsCell c v:=fun x c e v ⟨o,ho,hd⟩=>by
    have nch:c ∉ ch:=fun z=>(hch c z).2.2.1 x c e rfl
    by_cases hc:c ∈ X.fs
    · obtain ⟨sl,q⟩:=slot c o (I.cne x c e) hc nch ho (I.freeC x c e)
      exact ⟨_,q,hd⟩
    · exact ⟨o,keep c o (I.cne x c e) hc nch ho (I.freeC x c e),hd⟩
  refine ⟨I.ok,I.os,hg,⟨fun b o e n hb hx=>?_,fun b o e n hb hx=>?_,fun b o e n hx=>?_,fun b o e hx=>?_,fun b xs e=>tups b xs (I.base.tups b xs e),fun b o xs e=>frzs b o xs (I.base.frzs b o xs e),fun b ps e=>?_⟩,?_,fun x c e=>?_,?_,fun x c e=>?_,fun p hp=>?_,hok,I.len⟩
  · exact keep b o (neL b o e) hb (neC b o e hx) (I.base.keep b o e n hb hx) (I.base.free b o e n hx)
  · obtain ⟨sl,e1⟩:=I.base.slot b o e n hb hx
    obtain ⟨sl',e2⟩:=slot b _ (neL b o e) hb (neC b o e hx) e1 (I.base.free b o e n hx)
    exact ⟨sl',e2⟩
  · obtain ⟨o',e1⟩:=I.base.there b o e hx
    exact free b o' (neC b o e hx) e1 (I.base.free b o e n hx)
  · obtain ⟨o',e1⟩:=I.base.there b o e hx
    exact there b o' (neC b o e hx) e1
  · obtain ⟨m1,e1⟩:=I.base.tbls b ps e
    obtain ⟨m2,e2⟩:=tbls b _ e1
    exact ⟨m1 ++ m2,by rw [e2,Array.append_assoc]⟩
  · obtain ⟨m,hn,hl⟩:=I.loc
    refine ⟨m,ns m hn,fun i x v e1 e2 e3=>?_⟩
    obtain ⟨u,r,l⟩:=hl i x v e1 e2 e3
    refine ⟨u,r,?_⟩
    rcases l with l | ⟨k,c,e,z⟩
    · exact .inl l
    · exact .inr ⟨k,c,e,cellK x c e _ z⟩
  · obtain ⟨v,z⟩:=I.cell x c e
    exact ⟨v,cellK x c e v z⟩
  · obtain ⟨m,⟨o,_,_,ho,_⟩,_⟩:=I.loc
    exact free _ o (fun z=>(hch _ z).2.1 rfl) ho I.free
  · obtain ⟨v,o,ho,hd⟩:=I.cell x c e
    exact free c o (fun z=>(hch c z).2.2.1 x c e rfl) ho (I.freeC x c e)
  · obtain ⟨e,n,ne,nf,d⟩:=I.pin p hp
    have nch:p.1 ∉ ch:=fun z=>(hch p.1 z).2.2.2 p hp rfl
    exact ⟨keep p.1 p.2 ne nf nch e n,free p.1 p.2 nch e n,ne,nf,d⟩
theorem Inv.un {t':Nat} (I:Inv X pins σ H s) (u:Un X.fs [] H H' s.heap h') (hok:HOk X.prog X.w H' h'):Inv X pins σ H' { s with heap:=h',toks:=t' }:=by
  obtain ⟨m,⟨o,es,ep,ho,r⟩,_⟩:=id I.loc
  obtain ⟨sl,hL⟩:=u.any ho I.free (by simp)
  exact I.step (g':=s.gens) (d':=s.drawn) (ch:=[]) (fun _ z=>nomatch z) (fun b o _ hb _ e n=>u.keep b o e n hb (by simp)) (fun b o _ hb _ e n=>u.slot b o e n hb (by simp)) (fun b o _ e n=>u.free b o e n (by simp)) (fun b o _ e=>u.there b o e (by simp)) u.tups u.frzs u.tbls (fun m' hm=>by
    obtain ⟨o',es',ep',ho',r'⟩:=hm
    rw [ho] at ho'; cases ho'
    exact ⟨_,es',ep',hL,r'⟩) hok I.bare
theorem Inv.call {g':Array GenState} {t':Nat} {d':Drawn} {ch:List Addr} (I:Inv X pins σ H s) (u:Un (frs X.stack) ch H H' s.heap h') (hok:HOk X.prog X.w H' h') (hg:AllBare g')
    (hch:∀ b ∈ ch,(b ∈ X.ex∨X.s₀.heap.objs.size≤b)∧b≠X.env.locals∧(∀ x c,X.env.cells.lookup x = some c→c≠b)∧∀ p ∈ X.pn ++ pins,p.1≠b) :
    Inv X pins σ H' { s with heap:=h',gens:=g',drawn:=d',toks:=t' }:=by
  obtain ⟨m,⟨o,es,ep,ho,r⟩,_⟩:=id I.loc
  obtain ⟨sl,hL⟩:=u.any ho I.free fun z=>(hch _ z).2.1 rfl
  exact I.step (ch:=ch) hch (fun b o hL hb hc e n=>u.keep b o e n (fun z=>(List.mem_cons.mp (I.stkSub b z)).elim hL hb) hc) (fun b o _ _ hc e n=>u.any e n hc) (fun b o hc e n=>u.free b o e n hc) (fun b o hc e=>u.there b o e hc) u.tups u.frzs u.tbls (fun m' hm=>by
    obtain ⟨o',es',ep',ho',r'⟩:=hm
    rw [ho] at ho'; cases ho'
    exact ⟨_,es',ep',hL,r'⟩) hok hg
theorem Inv.turned {t':Nat} {it:Addr} (I:Inv X pins σ H s) (k:∀ b o,b≠it→s.heap.get? b = some o→h'.get? b = some o) (hn:H it = none) (hL:it≠X.env.locals)
    (h1:it ∈ X.ex∨X.s₀.heap.objs.size≤it) (h2:∀ x c,X.env.cells.lookup x = some c→c≠it) (h3:∀ p ∈ X.pn ++ pins,p.1≠it):Inv X pins σ H { s with heap:=h',toks:=t' }:=by
  have nit:∀ b u,H b = some u→b≠it:=fun b u e z=>by rw [z,hn] at e; cases e
  refine I.step (g':=s.gens) (d':=s.drawn) (ch:=[it]) (fun b hb=>?_) (fun b o _ _ hc e _=>k b o (fun z=>hc (by simp [z])) e) (fun b o _ _ hc e _=>⟨o.slots,k b o (fun z=>hc (by simp [z])) e⟩) (fun _ _ _ _ n=>n)
    (fun b o hc e=>⟨o,k b o (fun z=>hc (by simp [z])) e⟩) (fun _ _ e=>e) (fun _ _ _ e=>e) (fun b ps e=>⟨#[],by rw [e]; simp⟩) (fun m hm=>?_) (fun b u e=>?_) I.bare
  · have e:b = it:=by simpa using hb
    subst e
    exact ⟨h1,hL,h2,h3⟩
  · obtain ⟨o,es,ep,ho,r⟩:=hm
    exact ⟨o,es,ep,k _ o (Ne.symm hL) ho,r⟩
  · refine (I.hok b u e).stay (fun c v hc q=>k c v ?_ q) (fun _ q=>q) fun _ _ q=>q
    rcases hc with z | z
    · rw [z]; exact nit b u e
    · exact nit c _ z
theorem Inv.tok (I:Inv X pins σ H s) (t:Nat):Inv X pins σ H { s with toks:=t }:=I.un (h':=s.heap) (t':=t) Un.refl I.hok
theorem Inv.kept {t':Nat} (I:Inv X pins σ H s) (k:∀ b u,s.heap.get? b = some u→h'.get? b = some u):Inv X pins σ H { s with heap:=h',toks:=t' }:=I.un (Un.kept k) (I.hok.kept k)
theorem Inv.laid {a:Addr} {o:HO} {t':Nat} (I:Inv X pins σ H s) (k:∀ b u,s.heap.get? b = some u→h'.get? b = some u) (hp:s.heap.objs.size≤a) (new:ObjOk X.prog X.w (upd H a o) h' a o) :
    Inv X pins σ (upd H a o) { s with heap:=h',toks:=t' }:=I.un (Un.laid k hp (I.hok.fresh hp)) (I.hok.laid k hp new)
theorem Inv.write {x e:Addr} {o:HO} {t':Nat} (I:Inv X pins σ H s) (mu:Mut (H x)) (he:e = x∨H e = some (.own x)) (k:∀ b u,b≠e→s.heap.get? b = some u→h'.get? b = some u) (heo:∃ u,h'.get? e = some u)
    (new:ObjOk X.prog X.w (upd H x o) h' x o):Inv X pins σ (upd H x o) { s with heap:=h',toks:=t' }:=I.un (Un.write mu he k heo) (I.hok.write mu he k heo new)
theorem Inv.weak {σ':List (Option V)} (I:Inv X pins σ H s) (hl:σ'.length = σ.length) (w:∀ (i:Nat) v,σ'[i]? = some (some v)→σ[i]? = some (some v)):Inv X pins σ' H s :=
  ⟨I.ok,I.os,I.bare,I.base,let ⟨m,hn,hl'⟩:=I.loc; ⟨m,hn,fun i x v e1 e2 e3=>hl' i x v e1 (w i v e2) e3⟩,I.cell,I.free,I.freeC,I.pin,I.hok,hl.trans I.len⟩
theorem Inv.pins_of {pins':List (Addr×Obj)} (I:Inv X pins σ H s) (h:∀ p ∈ pins',s.heap.get? p.1 = some p.2∧H p.1 = none∧p.1≠X.env.locals∧p.1 ∉ X.fs∧∀ v,p.2.data≠.cell v):Inv X pins' σ H s :=
  ⟨I.ok,I.os,I.bare,I.base,I.loc,I.cell,I.free,I.freeC,fun p hp=>(List.mem_append.mp hp).elim (fun z=>I.pin p (List.mem_append_left _ z)) (h p),I.hok,I.len⟩
theorem ip {N:List Str} (hN:N.Nodup) {i j:Nat} {x:Str} (a:N[i]? = some x) (b:N[j]? = some x):i = j:=by
  obtain ⟨h1,e1⟩:=List.getElem?_eq_some_iff.mp a
  obtain ⟨h2,e2⟩:=List.getElem?_eq_some_iff.mp b
  exact (List.getElem_inj hN).mp (e1.trans e2.symm)
theorem jr {M:Model} {A:Around} {E:Value→Shared→Prop} {i:Nat} {x:Str} {v:V} {u:Value} {Q:Unit→Shared→Prop} (I:Inv X pins σ H s) (hN:X.N.Nodup) (hi:X.N[i]? = some x) (hx:Loc X.env.scope x) (r:RelV v u)
    (h:∀ s',Inv X pins (σ.set i (some v)) H s'→(∃ a,Heap.SameBut a s.heap s'.heap∧(a = X.env.locals∨X.env.cells.lookup x = some a))→Q () s') (hf:X.fn x = true∨X.env.scope.names.lookup x = some .local:=by first | exact .inl rfl | exact .inr rfl | assumption):wpAny M A (storeName X.env x u) Q E s:=by
  obtain ⟨m,hn,hl⟩:=id I.loc
  have hcls:(X.env.scope.kind == .class || (X.env.scope.kind == .module && X.env.locals != X.env.globals)) = false:=by rw [I.ok.kind]; rfl
  have hiσ:i < σ.length:=by rw [I.len]; exact (List.getElem?_eq_some_iff.mp hi).1
  have cne:=I.cne
  have tracked:∀ {a:Addr} {h':Heap},(∃ o,s.heap.get? a = some o∧H a = none)→Heap.SameBut a s.heap h'→HOk X.prog X.w H h':=fun {a h'} ha hs b ob e=>by
    obtain ⟨_,_,hfree⟩:=ha
    refine (I.hok b ob e).stay (fun c w' hc q=>(hs.2 c ?_).trans q) (fun _ q=>q) fun _ _ q=>q
    rintro rfl
    rcases hc with rfl | hc
    · rw [hfree] at e; cases e
    · rw [hfree] at hc; cases hc
  rcases hx with hk | hk
  · refine wpAny_storeName_local hk hn (fun h' hn' hs=>?_) hcls
    obtain ⟨oL,_,_,hoL,_⟩:=id hn
    refine h _ ⟨I.ok,I.os,I.bare,⟨fun b o e n hb hx=>?_,fun b o e n hb hx=>?_,I.base.free,fun b o e hx=>?_,I.base.tups,I.base.frzs,I.base.tbls⟩,⟨_,hn',fun j y v' e1 e2 e3=>?_⟩,fun y c e=>?_,I.free,I.freeC,fun p hp=>?_,tracked ⟨oL,hoL,I.free⟩ hs,by simpa using I.len⟩ ⟨_,hs,.inl rfl⟩
    · exact (hs.2 b (Nat.ne_of_lt (Nat.lt_of_lt_of_le (Heap.lt_size e) I.ok.above))).trans (I.base.keep b o e n hb hx)
    · obtain ⟨sl,e1⟩:=I.base.slot b o e n hb hx
      exact ⟨sl,(hs.2 b (Nat.ne_of_lt (Nat.lt_of_lt_of_le (Heap.lt_size e) I.ok.above))).trans e1⟩
    · obtain ⟨o',e1⟩:=I.base.there b o e hx
      exact ⟨o',(hs.2 b (Nat.ne_of_lt (Nat.lt_of_lt_of_le (Heap.lt_size e) I.ok.above))).trans e1⟩
    · by_cases hj:j = i
      · subst hj
        rw [hi] at e1; cases e1
        rw [List.getElem?_set_self hiσ] at e2
        cases e2
        exact ⟨u,r,.inl ⟨hk,by simp⟩⟩
      · rw [List.getElem?_set_ne (Ne.symm hj)] at e2
        obtain ⟨u',r',q⟩:=hl j y v' e1 e2 e3
        refine ⟨u',r',?_⟩
        rcases q with ⟨k,e⟩ | ⟨k,c,e,z⟩
        · refine .inl ⟨k,?_⟩
          have:y≠x:=fun e=>hj (ip hN e1 (e ▸ hi))
          simp [this,e]
        · exact .inr ⟨k,c,e,z.sameBut hs (cne y c e)⟩
    · obtain ⟨w',z⟩:=I.cell y c e
      exact ⟨w',z.sameBut hs (cne y c e)⟩
    · obtain ⟨e,n,ne,nf,d⟩:=I.pin p hp
      exact ⟨(hs.2 p.1 ne).trans e,n,ne,nf,d⟩
  · have hfn:X.fn x = true:=by
      rcases hf with z | z
      · exact z
      · rw [z] at hk; cases hk
    obtain ⟨c,hc⟩:=I.ok.has x (.inl hk)
    obtain ⟨w',z⟩:=I.cell x c hc
    refine wpAny_storeName_cell I.ok.kind hk hc z (fun h' hc' hs=>?_)
    obtain ⟨oc,hoc,hocd⟩:=id z
    refine h { s with heap:=h' } ⟨I.ok,I.os,I.bare,⟨fun b o e n hb hx=>?_,fun b o e n hb hx=>?_,I.base.free,fun b o e hx=>?_,I.base.tups,I.base.frzs,I.base.tbls⟩,⟨m,hn.sameBut hs (Ne.symm (cne x c hc)),fun j y v' e1 e2 e3=>?_⟩,fun y c' e=>?_,I.free,I.freeC,fun p hp=>?_,tracked ⟨oc,hoc,I.freeC x c hc⟩ hs,by simpa using I.len⟩ ⟨c,hs,.inr hc⟩
    · exact (hs.2 b (Nat.ne_of_lt (Nat.lt_of_lt_of_le (Heap.lt_size e) (I.ok.cab x c hfn hc)))).trans (I.base.keep b o e n hb hx)
    · obtain ⟨sl,e1⟩:=I.base.slot b o e n hb hx
      exact ⟨sl,(hs.2 b (Nat.ne_of_lt (Nat.lt_of_lt_of_le (Heap.lt_size e) (I.ok.cab x c hfn hc)))).trans e1⟩
    · obtain ⟨o',e1⟩:=I.base.there b o e hx
      exact ⟨o',(hs.2 b (Nat.ne_of_lt (Nat.lt_of_lt_of_le (Heap.lt_size e) (I.ok.cab x c hfn hc)))).trans e1⟩
    · by_cases hj:j = i
      · subst hj
        rw [hi] at e1; cases e1
        rw [List.getElem?_set_self hiσ] at e2
        cases e2
        exact ⟨u,r,.inr ⟨.inl hk,c,hc,hc'⟩⟩
      · rw [List.getElem?_set_ne (Ne.symm hj)] at e2
        obtain ⟨u',r',q⟩:=hl j y v' e1 e2 e3
        refine ⟨u',r',?_⟩
        rcases q with q | ⟨k,c',e,z'⟩
        · exact .inl q
        · refine .inr ⟨k,c',e,z'.sameBut hs ?_⟩
          rintro rfl
          exact hj (ip hN e1 (I.ok.inj _ _ _ e hc ▸ hi))
    · by_cases hcc:c' = c
      · subst hcc; exact ⟨_,hc'⟩
      · obtain ⟨w2,z2⟩:=I.cell y c' e
        exact ⟨w2,z2.sameBut hs hcc⟩
    · obtain ⟨e,n,ne,nf,d⟩:=I.pin p hp
      refine ⟨(hs.2 p.1 ?_).trans e,n,ne,nf,d⟩
      intro q
      rw [q,hoc] at e
      have q':oc = p.2:=Option.some.inj e
      exact d w' (by rw [← q']; exact hocd)
theorem fS {M:Model} {A:Around} {E:Value→Shared→Prop} {i:Nat} {x:Str} {v:V} {u:Value} {Q:Unit→Shared→Prop} (I:Inv X pins σ H s) (hN:X.N.Nodup) (hi:X.N[i]? = some x) (hx:Loc X.env.scope x) (r:RelV v u)
    (h:∀ s',Inv X pins (σ.set i (some v)) H s'→Q () s') (hf:X.fn x = true∨X.env.scope.names.lookup x = some .local:=by first | exact .inl rfl | exact .inr rfl | assumption):wpAny M A (storeName X.env x u) Q E s :=
  jr I hN hi hx r (fun s' I' _=>h s' I') hf
theorem Inv.call' {s':Shared} {ch:List Addr} (I:Inv X pins σ H s) (ho:s'.os = s.os) (u:Un (frs X.stack) ch H H' s.heap s'.heap) (hok:HOk X.prog X.w H' s'.heap) (hg:AllBare s'.gens)
    (hch:∀ b ∈ ch,(b ∈ X.ex∨X.s₀.heap.objs.size≤b)∧b≠X.env.locals∧(∀ x c,X.env.cells.lookup x = some c→c≠b)∧∀ p ∈ X.pn ++ pins,p.1≠b):Inv X pins σ H' s':=by
  obtain ⟨h',g',d',t',o'⟩:=s'
  have e:o' = s.os:=ho
  subst e
  exact I.call (g':=g') (t':=t') (d':=d') u hok hg hch
end
abbrev XK:=Value→Option Addr→Hp→Prop
abbrev St:=List (Option V)
abbrev VK:=V→Hp→Prop
abbrev TE:=St→Hp→VK→Prop
abbrev TT:=St→Hp→(Bool→Hp→Prop)→Prop
abbrev TA:=St→Hp→(List V→Hp→Prop)→Prop
structure Ends where
  nx:St→Hp→Prop
  rt:VK
  bk:St→Hp→Prop:=fun _ _=>False
  ct:St→Hp→Prop:=fun _ _=>False
abbrev TS:=Ends→St→Hp→Prop
def EP (X:Cx) (pins:List (Addr×Obj)) (σ:St) (Q:VK) (u:Value) (s':Shared):Prop:=∃ v H',Inv X pins σ H' s'∧RelV v u∧Q v H'
def TP (X:Cx) (pins:List (Addr×Obj)) (σ:St) (Q:Bool→Hp→Prop) (b:Bool) (s':Shared):Prop:=∃ H',Inv X pins σ H' s'∧Q b H'
def AP (X:Cx) (pins:List (Addr×Obj)) (σ:St) (Q:List V→Hp→Prop) (us:List Value) (s':Shared):Prop:=∃ vs H',Inv X pins σ H' s'∧Vals vs us∧Q vs H'
def SP (X:Cx) (pins:List (Addr×Obj)) (D:Ends) (f:Flow) (s':Shared):Prop :=
  match f with
  | .next=>∃ σ' H',Inv X pins σ' H' s'∧D.nx σ' H'
  | .brk=>∃ σ' H',Inv X pins σ' H' s'∧D.bk σ' H'
  | .cont=>∃ σ' H',Inv X pins σ' H' s'∧D.ct σ' H'
  | .ret u=>∃ v σ' H',Inv X pins σ' H' s'∧RelV v u∧D.rt v H'
def PE (X:Cx) (e:Expr) (t:TE):Prop :=
  ∀ (pins:List (Addr×Obj)) (s:Shared) (σ:St) (H:Hp) (Q:VK),Inv X pins σ H s→t σ H Q→wpAny (model X.prog X.w) X.A (eval e X.env) (EP X pins σ Q) X.xe s
def PT (X:Cx) (e:Expr) (t:TT):Prop :=
  ∀ (pins:List (Addr×Obj)) (s:Shared) (σ:St) (H:Hp) (Q:Bool→Hp→Prop),Inv X pins σ H s→t σ H Q→wpAny (model X.prog X.w) X.A (isTrue e X.env (eval e X.env)) (TP X pins σ Q) X.xe s
def PW (X:Cx) (e:Expr) (t:TT):Prop :=
  ∀ (whole:Sem Value) (pins:List (Addr×Obj)) (s:Shared) (σ:St) (H:Hp) (Q:Bool→Hp→Prop),Inv X pins σ H s→t σ H Q→wpAny (model X.prog X.w) X.A (isTrue e X.env whole) (TP X pins σ Q) X.xe s
theorem PW.pt {X:Cx} {e:Expr} {t:TT} (h:PW X e t):PT X e t:=h _
def PA (X:Cx) (es:List Expr) (t:TA):Prop :=
  ∀ (pos:Pos) (pins:List (Addr×Obj)) (s:Shared) (σ:St) (H:Hp) (Q:List V→Hp→Prop),Inv X pins σ H s→t σ H Q→wpAny (model X.prog X.w) X.A (spliced (backTo pos (starEach es X.env))) (AP X pins σ Q) X.xe s
def PS (X:Cx) (st:Stmt) (t:TS):Prop :=
  ∀ (pins:List (Addr×Obj)) (s:Shared) (σ:St) (H:Hp) (D:Ends),Inv X pins σ H s→t D σ H→wpAny (model X.prog X.w) X.A (exec st X.env) (SP X pins D) X.xe s
def PSs (X:Cx) (st:List Stmt) (t:TS):Prop :=
  ∀ (pins:List (Addr×Obj)) (s:Shared) (σ:St) (H:Hp) (D:Ends),Inv X pins σ H s→t D σ H→wpAny (model X.prog X.w) X.A (execs st X.env) (SP X pins D) X.xe s
theorem thn {α:Type} {t:Sem α} {Q Q':α→Shared→Prop} {M:Model} {A:Around} {E:Value→Shared→Prop} {s:Shared} (h:wpAny M A t Q E s) (hQ:∀ a s,Q a s→Q' a s):wpAny M A t Q' E s:=wpAny_mono h hQ fun _ _ x=>x
end L2
namespace L2
open PySem PySem.Spec PyProof.Rows
section
variable {X:Cx}
def zo (i:Nat):TE:=fun σ H Q=>∃ v,σ[i]? = some (some v)∧Q v H
def tC (v:V):TE:=fun _ H Q=>Q v H
theorem wp {i:Nat} {x:Str} {pos:Pos} (hN:X.N[i]? = some x) (hv:Vis X.env.scope x) (hd:(x == ("__debug__" : Str)) = false:=by decide) (hcd:(x == ("__classdict__" : Str)) = false:=by decide):PE X (.Name x pos) (zo i):=by
  intro pins s σ H Q I h
  obtain ⟨v,e,h⟩:=h
  obtain ⟨m,hn,hl⟩:=I.loc
  obtain ⟨u,r,l⟩:=hl i x v hN e hv
  have fin:EP X pins σ Q u s:=⟨v,H,I,r,h⟩
  rcases l with ⟨hk,hm⟩ | ⟨hk,c,hc,hcell⟩
  · exact wpAny_Name (wpAny_loadName_local I.ok.kind hk hn hm fin) hd
  · rcases hk with hk | hk
    · exact wpAny_Name (wpAny_loadName_cell I.ok.kind hk hc hcell fin) hd
    · exact wpAny_Name (wpAny_loadName_free I.ok.kind hk hc hcell fin hcd) hd
theorem aj {i j pos}:PE X (.Constant (.int i) j pos) (tC (.int i)):=fun _ _ _ H _ I h=>wpAny_Constant_int ⟨.int i,H,I.tok _,⟨_,rfl⟩,h⟩
theorem d9 {b j pos}:PE X (.Constant (.bool b) j pos) (tC (.bl b)):=fun _ _ _ H _ I h=>Constant_bool ⟨.bl b,H,I,rfl,h⟩
theorem vq {j pos}:PE X (.Constant .none j pos) (tC .non):=fun _ _ _ H _ I h=>Constant_none ⟨.non,H,I,rfl,h⟩
def Gl (X:Cx) (x:Str):Prop:=X.env.kindOf x = some .globalImplicit
theorem gN {E:Value→Shared→Prop} {pins:List (Addr×Obj)} {s:Shared} {σ:St} {H:Hp} {x:Str} {u:Value} {pos:Pos} {Q:Value→Shared→Prop} (I:Inv X pins σ H s) (hg:Gl X x) (hm:X.mg x = some u) (h:Q u s)
    (hd:(x == ("__debug__" : Str)) = false:=by decide):wpAny (model X.prog X.w) X.A (eval (.Name x pos) X.env) Q E s :=
  Calls.Name_function_global I.ok.kind hg (Calls.loadGlobal_global (by rw [I.ok.glob]; exact I.mod.glob.keeps I.bk) hm h) hd
theorem gg {E:Value→Shared→Prop} {pins:List (Addr×Obj)} {s:Shared} {σ:St} {H:Hp} {x:Str} {u:Value} {pos:Pos} {Q:Value→Shared→Prop} (I:Inv X pins σ H s) (hg:Gl X x) (hm:X.mg x = none) (hv:bootBuiltins x = some u) (h:Q u s)
    (hn:x ≠ "__name__" := by decide) (hd:(x == ("__debug__" : Str)) = false:=by decide):wpAny (model X.prog X.w) X.A (eval (.Name x pos) X.env) Q E s:=by
  obtain ⟨mb,h1,h2⟩:=I.mod.blt
  exact Calls.Name_function_global I.ok.kind hg (Calls.loadGlobal_builtin (by rw [I.ok.glob]; exact I.mod.glob.keeps I.bk) hm (by rw [I.ok.blt]; exact h1.keeps I.bk) ((h2 x hn).trans hv) h) hd
theorem tT {x:Str} {v:V} {u:Value} {pos:Pos} (hg:Gl X x) (hm:X.mg x = some u) (r:RelV v u) (hd:(x == ("__debug__" : Str)) = false:=by decide):PE X (.Name x pos) (tC v) :=
  fun _ _ _ H _ I h=>gN I hg hm ⟨v,H,I,r,h⟩ hd
theorem fK {x:Str} {v:V} {u:Value} {pos:Pos} (hg:Gl X x) (hm:X.mg x = none) (hv:bootBuiltins x = some u) (r:RelV v u) (hn:x ≠ "__name__" := by decide) (hd:(x == ("__debug__" : Str)) = false:=by decide):PE X (.Name x pos) (tC v) :=
  fun _ _ _ H _ I h=>gg I hg hm hv ⟨v,H,I,r,h⟩ hn hd
def t2I (ta tb:TE) (k:Int→Int→Hp→Prop):St→Hp→Prop:=fun σ H=>ta σ H fun x H1=>tb σ H1 fun y H2=>∃ i j,x = .int i∧y = .int j∧k i j H2
def AU (ta tb:TE):TE:=fun σ H Q=>t2I ta tb (fun i j H2=>Q (.int (i + j)) H2) σ H
def AZ (ta tb:TE):TE:=fun σ H Q=>t2I ta tb (fun i j H2=>Q (.int (i - j)) H2) σ H
def Av (ta tb:TE):TE:=fun σ H Q=>t2I ta tb (fun i j H2=>(-(2 ^ 64) < i∧i < 2 ^ 64)∧Q (.int (i * j)) H2) σ H
variable {a b:Expr} {ta tb:TE} {pos:Pos}
def PC (X:Cx) (op:CmpOp) (a b:Expr) (t:TE):Prop :=
  ∀ (pins:List (Addr×Obj)) (s:Shared) (σ:St) (H:Hp) (Q:VK),Inv X pins σ H s→t σ H Q →
    wpAny (model X.prog X.w) X.A (eval a X.env) (fun v s₁=>wpAny (model X.prog X.w) X.A (eval b X.env) (fun u s₂=>wpAny (model X.prog X.w) X.A (compareOp op v u) (EP X pins σ Q) X.xe s₂) X.xe s₁) X.xe s
def ph (p:Int→Int→Bool) (ta tb:TE):TE:=fun σ H Q=>t2I ta tb (fun i j H2=>Q (.bl (p i j)) H2) σ H
abbrev tLt:TE→TE→TE:=ph fun i j=>decide (i < j)
abbrev tLe:TE→TE→TE:=ph fun i j=>decide (i≤j)
abbrev tGt:TE→TE→TE:=ph fun i j=>decide (j < i)
abbrev tGe:TE→TE→TE:=ph fun i j=>decide (j≤i)
abbrev AR:TE→TE→TE:=ph fun i j=>decide (i = j)
abbrev AV:TE→TE→TE:=ph fun i j=>!decide (i = j)
def AQ (ta:TE):TE:=fun σ H Q=>ta σ H fun x H1=>Q (.bl (decide (x = .non))) H1
def zG (ta:TE):TE:=fun σ H Q=>ta σ H fun x H1=>Q (.bl (!decide (x = .non))) H1
def tB (t:TE):TT:=fun σ H Q=>t σ H fun x H1=>∃ c,x = .bl c∧Q c H1
variable {tA tB':TT} {rest:List Expr}
def zn (t u:TT):TT:=fun σ H Q=>t σ H fun c H1=>if c = true then u σ H1 Q else Q false H1
def tOr (t u:TT):TT:=fun σ H Q=>t σ H fun c H1=>if c = true then Q true H1 else u σ H1 Q
def y4 (t:TT):TT:=fun σ H Q=>t σ H fun c H1=>Q (!c) H1
theorem tY (ha:PT X a tA):PW X (.BoolOp .And [a] pos) tA:=by
  intro wh pins s σ H Q I h
  refine isTrue_and (thn (ha pins s σ H Q I h) fun c s1 e=>?_)
  cases c with
  | true=>exact isTrue_and_nil e
  | false=>exact e
theorem jP (ha:PT X a tA):PW X (.BoolOp .Or [a] pos) tA:=by
  intro wh pins s σ H Q I h
  refine isTrue_or (thn (ha pins s σ H Q I h) fun c s1 e=>?_)
  cases c with
  | false=>exact isTrue_or_nil e
  | true=>exact e
theorem wc (ha:PT X a tA) (hb:PW X (.BoolOp .And (b :: rest) pos) tB'):PW X (.BoolOp .And (a :: b :: rest) pos) (zn tA tB'):=by
  intro wh pins s σ H Q I h
  refine isTrue_and (thn (ha pins s σ H _ I h) fun c s1 ⟨H1,I1,q1⟩=>?_)
  cases c with
  | true=>exact hb wh pins s1 σ H1 Q I1 q1
  | false=>exact ⟨H1,I1,q1⟩
theorem jk (ha:PT X a tA) (hb:PW X (.BoolOp .Or (b :: rest) pos) tB'):PW X (.BoolOp .Or (a :: b :: rest) pos) (tOr tA tB'):=by
  intro wh pins s σ H Q I h
  refine isTrue_or (thn (ha pins s σ H _ I h) fun c s1 ⟨H1,I1,q1⟩=>?_)
  cases c with
  | true=>exact ⟨H1,I1,q1⟩
  | false=>exact hb wh pins s1 σ H1 Q I1 q1
theorem eC (ha:PT X a tA):PT X (.UnaryOp .Not a pos) (y4 tA):=by
  intro pins s σ H Q I h
  exact isTrue_not (ha pins s σ H (fun c H1=>Q (!c) H1) I h)
def Aq (ta tb:TE):TE:=fun σ H Q=>ta σ H fun x H1=>∃ c,x = .bl c∧if c = true then tb σ H1 Q else Q (.bl false) H1
def AS (ta tb:TE):TE:=fun σ H Q=>ta σ H fun x H1=>∃ c,x = .bl c∧if c = true then Q (.bl true) H1 else tb σ H1 Q
def Ap (ta:TE):TE:=fun σ H Q=>ta σ H fun x H1=>∃ c,x = .bl c∧Q (.bl (!c)) H1
theorem rq {op} {t:TE} (h:PE X a t):PE X (.BoolOp op [a] pos) t:=fun pins s σ H Q I hw=>BoolOp_one (h pins s σ H Q I hw)
def tIf (t:TT) (ta tb:TE):TE:=fun σ H Q=>t σ H fun c H1=>if c = true then ta σ H1 Q else tb σ H1 Q
theorem kH {c:Expr} (hc:PT X c tA) (ha:PE X a ta) (hb:PE X b tb):PE X (.IfExp c a b pos) (tIf tA ta tb):=by
  intro pins s σ H Q I h
  refine wpAny_IfExp (thn (hc pins s σ H _ I h) fun d s1 ⟨H1,I1,q1⟩=>?_)
  cases d with
  | true=>exact ha pins s1 σ H1 Q I1 q1
  | false=>exact hb pins s1 σ H1 Q I1 q1
end
end L2
namespace L2
open PySem PySem.Spec PyProof.Rows
def SqL (K:PySem.W.Frag) (H:Hp) (a:Addr) (xs:List V):Prop :=
  Rd H a (.lst xs) ∨
    ∃ (o:Obj) (its:Array Value) (n:Nat),K.lookup a = some o∧o.cls = .type "list" ∧ o.dict = none∧o.data = .seq its n∧its.size≤sizeLine∧Vals xs its.toList
def SqT (K:PySem.W.Frag) (H:Hp) (a:Addr) (xs:List V):Prop :=
  Rd H a (.tup xs) ∨
    ∃ (o:Obj) (its:Array Value) (n:Nat),K.lookup a = some o∧o.cls = .type "tuple" ∧ o.data = .seq its n∧its.size≤sizeLine∧Vals xs its.toList
def zt:Value→Option V
  | .none=>some .non
  | .bool b=>some (.bl b)
  | .int i _=>some (.int i)
  | .str x _=>some (.str x)
  | .bytes b _=>some (.byt b)
  | .float b _=>some (.flt b)
  | .ref a=>some (.ref a)
  | .type n=>some (.ty n)
  | _=>none
theorem RelV.abs {x:V} {u:Value} (r:RelV x u):zt u = some x:=by
  cases x with
  | non=>cases r; rfl
  | bl _=>cases r; rfl
  | int _=>obtain ⟨t,rfl⟩:=r; rfl
  | str _=>obtain ⟨t,rfl⟩:=r; rfl
  | byt _=>obtain ⟨t,rfl⟩:=r; rfl
  | flt _=>obtain ⟨t,rfl⟩:=r; rfl
  | ref _=>cases r; rfl
  | ty _=>cases r; rfl
theorem RelV.inj {x y:V} {u:Value} (r:RelV x u) (q:RelV y u):x = y:=Option.some.inj (r.abs.symm.trans q.abs)
theorem Vals.inj:∀ {xs ys:List V} {us:List Value},Vals xs us→Vals ys us→xs = ys
  | _,_,_,.nil,.nil=>rfl
  | _,_,_,.cons r t,.cons r' t'=>by rw [r.inj r',Vals.inj t t']
section
variable {X:Cx} {pins:List (Addr×Obj)} {σ:St} {H:Hp} {s:Shared} {a:Addr} {xs ys:List V}
theorem SqL.of {K:PySem.W.Frag} (h:H a = some (.lst xs)):SqL K H a xs:=.inl (.inl h)
theorem SqT.of {K:PySem.W.Frag} (h:H a = some (.tup xs)):SqT K H a xs:=.inl (.inl h)
theorem Inv.list (I:Inv X pins σ H s) (h:SqL X.K H a xs):∃ its:List Value,Vals xs its∧PlainL s.heap a its.toArray∧xs.length≤sizeLine:=by
  rcases h with h | ⟨o,its,n,hk,hc,hd,hs,hz,r⟩
  · obtain ⟨z,its,n,r,e⟩:=h.ok I.hok
    exact ⟨its,r,⟨_,n,e,rfl,rfl,rfl⟩,z⟩
  · refine ⟨its.toList,r,⟨o,n,I.kIn a o hk,hc,hd,by simpa using hs⟩,?_⟩
    have e:=r.length
    simp only [Array.length_toList] at e
    omega
theorem Inv.tuple (I:Inv X pins σ H s) (h:SqT X.K H a xs):∃ its:List Value,Vals xs its∧IsTup s.heap a its.toArray∧xs.length≤sizeLine:=by
  rcases h with h | ⟨o,its,n,hk,hc,hs,hz,r⟩
  · obtain ⟨z,its,r,p⟩:=h.ok I.hok
    exact ⟨its,r,p,z⟩
  · refine ⟨its.toList,r,⟨o,I.kIn a o hk,hc,n,by simpa using hs⟩,?_⟩
    have e:=r.length
    simp only [Array.length_toList] at e
    omega
theorem Inv.list_inj (I:Inv X pins σ H s) (h:SqL X.K H a xs) (h':SqL X.K H a ys):xs = ys:=by
  obtain ⟨its,r,⟨o,n,e,_,_,d⟩,_⟩:=I.list h
  obtain ⟨its',r',⟨o',n',e',_,_,d'⟩,_⟩:=I.list h'
  rw [e] at e'; cases e'
  rw [d] at d'
  injection d' with d1 _
  have:its = its':=by simpa using congrArg Array.toList d1
  subst this
  exact r.inj r'
theorem Inv.tuple_inj (I:Inv X pins σ H s) (h:SqT X.K H a xs) (h':SqT X.K H a ys):xs = ys:=by
  obtain ⟨its,r,⟨o,e,_,n,d⟩,_⟩:=I.tuple h
  obtain ⟨its',r',⟨o',e',_,n',d'⟩,_⟩:=I.tuple h'
  rw [e] at e'; cases e'
  rw [d] at d'
  injection d' with d1 _
  have:its = its':=by simpa using congrArg Array.toList d1
  subst this
  exact r.inj r'
end
abbrev Cx.wish (X:Cx) (E:Value→Shared→Prop):Cx:={ X with xe:=E }
abbrev Cx.nox (X:Cx):Cx:=X.wish fun _ _=>False
theorem Cx.Ok.wish {X:Cx} (ok:X.Ok) (E:Value→Shared→Prop):(X.wish E).Ok :=
  ⟨ok.mod,ok.kind,ok.glob,ok.blt,ok.above,ok.inj,ok.has,ok.cab,ok.hd,ok.frames,ok.stk,ok.exf,ok.bs,ok.bsz,ok.noex,ok.exfs,ok.funs,ok.frf⟩
theorem Cx.Ok.unwish {X:Cx} {E:Value→Shared→Prop} (ok:(X.wish E).Ok):X.Ok :=
  ⟨ok.mod,ok.kind,ok.glob,ok.blt,ok.above,ok.inj,ok.has,ok.cab,ok.hd,ok.frames,ok.stk,ok.exf,ok.bs,ok.bsz,ok.noex,ok.exfs,ok.funs,ok.frf⟩
section
variable {X:Cx} {pins:List (Addr×Obj)} {σ:St} {H:Hp} {s:Shared} {E:Value→Shared→Prop}
theorem Inv.wish (I:Inv X pins σ H s) (E:Value→Shared→Prop):Inv (X.wish E) pins σ H s:=⟨I.ok.wish E,I.os,I.bare,I.base,I.loc,I.cell,I.free,I.freeC,I.pin,I.hok,I.len⟩
theorem Inv.unwish (I:Inv (X.wish E) pins σ H s):Inv X pins σ H s:=⟨I.ok.unwish,I.os,I.bare,I.base,I.loc,I.cell,I.free,I.freeC,I.pin,I.hok,I.len⟩
theorem SP.unwish {D:Ends} {f:Flow} {s':Shared} (h:SP (X.wish E) pins D f s'):SP X pins D f s':=by
  cases f with
  | next=>obtain ⟨σ',H',I,q⟩:=h; exact ⟨σ',H',I.unwish,q⟩
  | brk=>obtain ⟨σ',H',I,q⟩:=h; exact ⟨σ',H',I.unwish,q⟩
  | cont=>obtain ⟨σ',H',I,q⟩:=h; exact ⟨σ',H',I.unwish,q⟩
  | ret u=>obtain ⟨v,σ',H',I,r,q⟩:=h; exact ⟨v,σ',H',I.unwish,r,q⟩
theorem PSs.nox {st:List Stmt} {t:TS} (h:PSs X.nox st t):PSs X st t:=fun pins s σ H D I hw =>
  wpAny_mono (h pins s σ H D (I.wish _) hw) (fun _ _ q=>q.unwish) fun _ _ z=>False.elim z
end
section
variable {X:Cx} {st:Stmt} {rest:List Stmt} {t u:TS} {e:Expr} {te:TE} {pos:Pos}
def wE:TS:=fun D σ H=>D.nx σ H
def wU (t u:TS):TS:=fun D σ H=>t { D with nx:=u D } σ H
theorem bF:PSs X [] wE:=fun _ _ σ H _ I h=>wpAny_execs_nil ⟨σ,H,I,h⟩
theorem ah (h1:PS X st t) (h2:PSs X rest u):PSs X (st :: rest) (wU t u):=by
  intro pins s σ H D I h
  refine wpAny_execs_cons (thn (h1 pins s σ H { D with nx:=u D } I h) fun f s1 q=>?_)
  cases f with
  | next =>
    obtain ⟨σ',H',I',q⟩:=q
    exact h2 pins s1 σ' H' D I' q
  | ret v=>exact q
  | brk=>exact q
  | cont=>exact q
theorem ak (h1:PS X st t):PSs X [st] t:=by
  intro pins s σ H D I h
  refine wpAny_execs_cons (thn (h1 pins s σ H D I h) fun f s1 q=>?_)
  cases f with
  | next=>exact wpAny_execs_nil q
  | ret v=>exact q
  | brk=>exact q
  | cont=>exact q
def yI:TS:=fun D σ H=>D.bk σ H
def Aj:TS:=fun D σ H=>D.ct σ H
theorem Inv.quiet {pins:List (Addr×Obj)} {σ:St} {H:Hp} {s:Shared} (I:Inv X pins σ H s):interactive X.env = false:=by simp [interactive,I.ok.kind]
def xp (te:TE):TS:=fun D σ H=>te σ H fun _ H1=>D.nx σ H1
theorem eX (he:PE X e te) (hs:swapsWith e none pos.line X.env = pure false:=by rfl):PS X (.Expr e pos) (xp te):=by
  intro pins s σ H D I h
  exact wpAny_Expr_any (thn (he pins s σ H _ I h) fun v s1 ⟨x,H1,I1,r1,q1⟩=>⟨σ,H1,I1,q1⟩) I.quiet hs
def zp (te:TE):TS:=fun D σ H=>te σ H D.rt
theorem ax (he:PE X e te):PS X (.Return (some e) pos) (zp te):=by
  intro pins s σ H D I h
  exact wpAny_Return_some (thn (he pins s σ H _ I h) fun v s1 ⟨x,H1,I1,r1,q1⟩=>⟨x,σ,H1,I1,r1,q1⟩)
def zH:TS:=fun D _ H=>D.rt .non H
def zk (c:TT) (t u:TS):TS:=fun D σ H=>c σ H fun b H1=>if b = true then t D σ H1 else u D σ H1
theorem cJ {c:Expr} {a b:List Stmt} {tc:TT} (hc:PT X c tc) (ha:PSs X a t) (hb:PSs X b u):PS X (.If c a b pos) (zk tc t u):=by
  intro pins s σ H D I h
  refine wpAny_If (thn (hc pins s σ H _ I h) fun d s1 ⟨H1,I1,q1⟩=>?_)
  cases d with
  | true=>exact ha pins s1 σ H1 D I1 q1
  | false=>exact hb pins s1 σ H1 D I1 q1
def zd:TS:=fun _ _ _=>False
end
abbrev TG:=V→St→Hp→(St→Hp→Prop)→Prop
abbrev TGs:=List V→St→Hp→(St→Hp→Prop)→Prop
def PG (X:Cx) (target:Expr) (t:TG):Prop :=
  ∀ (pins:List (Addr×Obj)) (s:Shared) (σ:St) (H:Hp) (v:V) (u:Value) (Q:St→Hp→Prop),Inv X pins σ H s→RelV v u→t v σ H Q →
    wpAny (model X.prog X.w) X.A (assign target X.env u) (fun _ s'=>∃ σ' H',Inv X pins σ' H' s'∧Q σ' H') X.xe s
def PGs (X:Cx) (ts:List Expr) (t:TGs):Prop :=
  ∀ (pins:List (Addr×Obj)) (s:Shared) (σ:St) (H:Hp) (vs:List V) (us:List Value) (Q:St→Hp→Prop),Inv X pins σ H s→Vals vs us→t vs σ H Q →
    wpAny (model X.prog X.w) X.A (assignInOrder ((assignEach ts X.env).map (·.2)) us) (fun _ s'=>∃ σ' H',Inv X pins σ' H' s'∧Q σ' H') X.xe s
abbrev vo:=V→V→V→Hp→(Hp→Prop)→Prop
def AE (X:Cx) (t:vo):Prop :=
  ∀ (pins:List (Addr×Obj)) (s:Shared) (σ:St) (H:Hp) (o i v:V) (ov iv u:Value) (Q:Hp→Prop),Inv X pins σ H s→RelV o ov→RelV i iv→RelV v u→t o i v H Q →
    wpAny (model X.prog X.w) X.A (setItem ov iv u) (fun _ s'=>∃ H',Inv X pins σ H' s'∧Q H') X.xe s
abbrev TIp:=V→V→Hp→VK→Prop
def PIp (X:Cx) (op:Operator) (t:TIp):Prop :=
  ∀ (pins:List (Addr×Obj)) (s:Shared) (σ:St) (H:Hp) (x y:V) (v u:Value) (Q:VK),Inv X pins σ H s→RelV x v→RelV y u→t x y H Q →
    wpAny (model X.prog X.w) X.A (inplaceOp op v u) (EP X pins σ Q) X.xe s
section
variable {X:Cx} {pos:Pos}
def r9 (i:Nat):TG:=fun v σ H Q=>Q (σ.set i (some v)) H
theorem ar {i:Nat} {x:Str} (hN:X.N.Nodup) (hi:X.N[i]? = some x) (hx:Loc X.env.scope x) (hf:X.fn x = true∨X.env.scope.names.lookup x = some .local:=by first | exact .inl rfl | exact .inr rfl | assumption):PG X (.Name x pos) (r9 i):=by
  intro pins s σ H v u Q I r h
  exact wpAny_assign_Name (fS I hN hi hx r (fun s' I'=>⟨_,H,I',h⟩) hf)
def yA:TGs:=fun vs σ H Q=>vs = []∧Q σ H
inductive gCons (t:TG) (u:TGs) (vs:List V) (σ:St) (H:Hp) (Q:St→Hp→Prop):Prop
  | mk (v:V) (r:List V) (h0:vs = v :: r) (h1:t v σ H fun σ' H'=>u r σ' H' Q):gCons t u vs σ H Q
theorem bj:PGs X [] yA:=by
  intro pins s σ H vs us Q I r h
  obtain ⟨e,h⟩:=h
  subst e
  cases r
  exact assignInOrder_nil ⟨σ,H,I,h⟩
theorem au {e:Expr} {es:List Expr} {t:TG} {u:TGs} (h1:PG X e t) (h2:PGs X es u)
    (hs:(assignEach (e :: es) X.env).map (·.2) = assign e X.env :: (assignEach es X.env).map (·.2):=by rfl):PGs X (e :: es) (gCons t u):=by
  intro pins s σ H vs us Q I r h
  obtain ⟨v,vr,e1,h⟩:=h
  subst e1
  cases r with
  | cons r rr =>
    rw [hs]
    refine assignInOrder_cons (thn (h1 pins s σ H _ _ _ I r h) fun _ s1 ⟨σ1,H1,I1,q1⟩=>?_)
    exact h2 pins s1 σ1 H1 _ _ Q I1 rr q1
inductive gTup (K:PySem.W.Frag) (n:Nat) (t:TGs) (v:V) (σ:St) (H:Hp) (Q:St→Hp→Prop):Prop
  | mk (a:Addr) (xs:List V) (h0:v = .ref a) (h1:SqT K H a xs) (h2:xs.length = n) (h3:t xs σ H Q):gTup K n t v σ H Q
theorem dq {es:List Expr} {k:Nat} {t:TGs} {n:Nat} (hc:X.calm = true) (h:PGs X es t)
    (hn:(assignEach es X.env).length = n:=by rfl) (hst:(assignEach es X.env).findIdx? (·.1) = none:=by rfl):PG X (.Tuple es k pos) (gTup X.K n t):=by
  intro pins s σ H v u Q I r hw
  obtain ⟨a,xs,e1,hq,hl,hw⟩:=hw
  subst e1
  cases r
  obtain ⟨its,rv,ht,hz⟩:=I.tuple hq
  refine assign_Tuple_tuple (I.ok.hd hc) ht (by simp [hn,← hl,rv.length]) hst fun h' hx=>?_
  have I1:Inv X pins σ H { s with heap:=h' }:=I.kept (t':=s.toks) fun b o e=>hx b o (Nat.ne_of_lt (Heap.lt_size e)) e
  exact h pins _ σ H xs _ Q I1 (by simpa using rv) hw
def AW (to ti:TE) (t:vo):TG:=fun v σ H Q=>to σ H fun o H1=>ti σ H1 fun i H2=>t o i v H2 fun H3=>Q σ H3
def vT (te:TE) (g:TG):TS:=fun D σ H=>te σ H fun x H1=>g x σ H1 D.nx
theorem lM {tg e:Expr} {te:TE} {g:TG} (he:PE X e te) (hg:PG X tg g) (hs:swapsWithSole [tg] e pos.line X.env = pure false:=by rfl) (hw:swappedStores [tg] e X.env = pure none:=by rfl)
    (h1:(assignEach [tg] X.env).map (·.2) = [assign tg X.env]:=by rfl):PS X (.Assign [tg] e pos) (vT te g):=by
  intro pins s σ H D I h
  refine wpAny_Assign_stores (thn (he pins s σ H _ I h) fun v s1 ⟨x,H1,I1,r1,q1⟩=>?_) hs hw
  rw [h1]
  exact thn (hg pins s1 σ H1 x v _ I1 r1 q1) fun _ s2 q=>q
theorem aA {i:Nat} {x:Str} {e:Expr} {te:TE} {pos':Pos} (hN:X.N.Nodup) (hi:X.N[i]? = some x) (hx:Loc X.env.scope x) (he:PE X e te) (hs:swapsWith e (some (.Name x pos')) pos.line X.env = pure false:=by rfl) (hf:X.fn x = true∨X.env.scope.names.lookup x = some .local:=by first | exact .inl rfl | exact .inr rfl | assumption) :
    PS X (.Assign [.Name x pos'] e pos) (vT te (r9 i)):=by
  intro pins s σ H D I h
  refine wpAny_Assign_Name (thn (he pins s σ H _ I h) fun v s1 ⟨y,H1,I1,r1,q1⟩=>?_) hs
  exact fS I1 hN hi hx r1 (fun s2 I2=>⟨_,H1,I2,q1⟩) hf
def yD (i j:Nat) (ta:TA):TS:=fun D σ H=>ta σ H fun vs H1=>∃ v w,vs = [v,w]∧D.nx ((σ.set i (some v)).set j (some w)) H1
theorem p0 {i j:Nat} {x y:Str} {a b:Expr} {ta:TA} {px py pt:Pos} {kt k2 pt2} (hc:X.calm = true) (hN:X.N.Nodup) (hi:X.N[i]? = some x) (hj:X.N[j]? = some y) (hij:i≠j)
    (hx:X.env.scope.names.lookup x = some .local) (hy:X.env.scope.names.lookup y = some .local) (ha:PA X [a,b] ta)
    (hw:swappedStores [.Tuple [.Name x px,.Name y py] kt pt] (.Tuple [a,b] k2 pt2) X.env = pure (some [x,y]))
    (hs:swapsWithSole [.Tuple [.Name x px,.Name y py] kt pt] (.Tuple [a,b] k2 pt2) pos.line X.env = pure false:=by rfl) :
    PS X (.Assign [.Tuple [.Name x px,.Name y py] kt pt] (.Tuple [a,b] k2 pt2) pos) (yD i j ta):=by
  intro pins s σ H D I h
  rw [exec_Assign_arm]
  refine wpAny_bind (wpAny_standAt ?_)
  rw [hs]
  refine wpAny_bind (wpAny_pure ?_)
  rw [if_neg (by decide)]
  refine wpAny_bind (Tuple_ (thn (ha _ pins s σ H _ I h) fun us s1 ⟨vs,H1,I1,r1,q1⟩=>?_))
  obtain ⟨v,w,e1,q1⟩:=q1
  subst e1
  obtain ⟨u1,u2,rfl,rv,rw'⟩:∃ u1 u2,us = [u1,u2]∧RelV v u1∧RelV w u2:=by
    cases r1 with
    | cons p q =>
      cases q with
      | cons p' q' =>
        cases q'
        exact ⟨_,_,rfl,p,p'⟩
  refine wpAny_newObj_type ?_ (by show 2≤sizeLine; decide)
  have I2:Inv X pins σ H1 { s1 with heap:=s1.heap.push { cls:=.type "tuple",data:=.seq [u1,u2].toArray } }:=I1.kept (t':=s1.toks) fun b o e=>Heap.get?_push_of_some _ e
  rw [hw]
  refine wpAny_bind (wpAny_pure ?_)
  show wpAny (model X.prog X.w) X.A (do rule "assign.swapped-stores"; let items ← unpackItems (.ref s1.heap.objs.size) 2 none; assignInOrder [fun v=>bindName X.env y v,fun v=>bindName X.env x v] items.reverse; pure Flow.next) _ _ _
  refine wpAny_bind (wpAny_rule (wpAny_bind (unpackItems_tuple (items:=#[u1,u2]) (I.ok.hd hc) (IsTup.new s1.heap _) fun h' hx'=>?_)))
  have I3:=I2.kept (h':=h') (t':=s1.toks) fun b o e=>hx' b o (Nat.ne_of_lt (Heap.lt_size e)) e
  show wpAny _ _ (assignInOrder [fun v=>bindName X.env y v,fun v=>bindName X.env x v] [u2,u1] >>= fun _=>pure Flow.next) _ _ _
  refine wpAny_bind (assignInOrder_cons (wpAny_bindName (fS I3 hN hj (.inl hy) rw' (fun s2 I4=>?_) (.inr hy))))
  refine assignInOrder_cons (wpAny_bindName (fS I4 hN hi (.inl hx) rv (fun s3 I5=>assignInOrder_nil (wpAny_pure ?_)) (.inr hx)))
  rw [List.set_comm _ _ (Ne.symm hij)] at I5
  exact ⟨_,H1,I5,q1⟩
def Aw (i:Nat) (te:TE) (ti:TIp):TS:=fun D σ H=>∃ x,σ[i]? = some (some x)∧te σ H fun y H1=>ti x y H1 fun z H2=>D.nx (σ.set i (some z)) H2
def Am (to ti te:TE) (tget:V→V→Hp→VK→Prop) (tip:TIp) (tset:vo):TS:=fun D σ H=>to σ H fun o H1=>ti σ H1 fun i H2=>tget o i H2 fun x H3=>te σ H3 fun y H4=>tip x y H4 fun z H5=>tset o i z H5 fun H6=>D.nx σ H6
def AX (X:Cx) (t:V→V→Hp→VK→Prop):Prop :=
  ∀ (pins:List (Addr×Obj)) (s:Shared) (σ:St) (H:Hp) (o i:V) (ov iv:Value) (Q:VK),Inv X pins σ H s→RelV o ov→RelV i iv→t o i H Q →
    wpAny (model X.prog X.w) X.A (getItem ov iv) (EP X pins σ Q) X.xe s
def ipI (f:Int→Int→Int):TIp:=fun x y H Q=>∃ i j,x = .int i∧y = .int j∧Q (.int (f i j)) H
end
section
variable {X:Cx} {pos:Pos}
def vN (c:TT) (tb:TS):TS:=fun D σ H=>∃ W:Nat→St→Hp→Prop,(∃ m,W m σ H)∧∀ m σ H,W m σ H →
  c σ H fun b H1=>if b = true then ∃ N:St→Hp→Prop,(∀ σ' H',N σ' H'→∃ m',m' < m∧W m' σ' H')∧tb { D with nx:=N,ct:=N,bk:=D.nx } σ H1 else D.nx σ H1
theorem kG {c:Expr} {body:List Stmt} {tc:TT} {tb:TS} (hp:PassesOwn (model X.prog X.w) X.A X.env X.xe) (hc:PT X c tc) (hb:PSs X body tb):PS X (.While c body [] pos) (vN tc tb):=by
  intro pins s σ H D I h
  obtain ⟨W,⟨m0,w0⟩,turn⟩:=h
  refine wpAny_While (codeAny_whileLoop (fun n s'=>∃ σ' H',Inv X pins σ' H' s'∧W n σ' H') ?_ m0 ⟨σ,H,I,w0⟩)
  rintro n s1 ⟨σ1,H1,I1,w1⟩
  refine wpAny_passesOwn hp (thn (hc pins s1 σ1 H1 _ I1 (turn n σ1 H1 w1)) fun b s2 ⟨H2,I2,q2⟩=>?_)
  cases b with
  | true =>
    obtain ⟨N,hN,q2⟩:=q2
    rw [if_pos rfl]
    refine wpAny_passesOwn hp (thn (hb pins s2 σ1 H2 _ I2 q2) fun f s3 q3=>?_)
    cases f with
    | next =>
      obtain ⟨σ3,H3,I3,n3⟩:=q3
      obtain ⟨m',hm,w3⟩:=hN σ3 H3 n3
      exact ⟨m',hm,σ3,H3,I3,w3⟩
    | cont =>
      obtain ⟨σ3,H3,I3,n3⟩:=q3
      obtain ⟨m',hm,w3⟩:=hN σ3 H3 n3
      exact ⟨m',hm,σ3,H3,I3,w3⟩
    | brk=>exact q3
    | ret v=>exact q3
  | false =>
    rw [if_neg Bool.false_ne_true]
    exact wpAny_execs_nil ⟨σ1,H2,I2,q2⟩
end
structure It where
  go:Nat→Hp→Prop
  yld:Nat→Hp→V→Hp→Prop
  stop:Nat→Hp→Prop
def fA (X:Cx) (pins:List (Addr×Obj)) (H:Hp) (b:Addr):Prop :=
  H b = none∧b≠X.env.locals∧b ∉ X.fs∧(b ∈ X.ex∨X.s₀.heap.objs.size≤b)∧(∀ x c,X.env.cells.lookup x = some c→c≠b)∧∀ p ∈ X.pn ++ pins,p.1≠b
theorem Inv.fpOk {X:Cx} {pins:List (Addr×Obj)} {σ:St} {H H':Hp} {s:Shared} {b:Addr} (I:Inv X pins σ H s) (hb:s.heap.objs.size≤b) (hn:H' b = none):fA X pins H' b:=by
  refine ⟨hn,Nat.ne_of_gt (Nat.lt_of_lt_of_le I.lt hb),I.nofs hb,.inr (Nat.le_trans I.sz hb),fun x c e z=>?_,fun p hp z=>?_⟩
  · obtain ⟨v,q⟩:=I.cell x c e
    exact absurd (Nat.lt_of_lt_of_le q.lt (by rw [z]; exact hb)) (Nat.lt_irrefl _)
  · exact absurd (Nat.lt_of_lt_of_le (Heap.lt_size (I.pin p hp).1) (by rw [z]; exact hb)) (Nat.lt_irrefl _)
structure Turn (P:Program) (w:World) (K:PySem.W.Frag) (tg:Expr) (J:It) (fp:List Addr) (it:Addr) (tn:Nat→Heap→Prop):Prop where
  mem:it ∈ fp
  obj:∀ i h,tn i h→∀ b ∈ fp,∃ o,h.get? b = some o∧∀ v,o.data≠.cell v
  keep:∀ i h h',tn i h→(∀ b ∈ fp,∀ o,h.get? b = some o→h'.get? b = some o)→tn i h'
  item:∀ (X:Cx),X.prog = P→X.w = w→X.K = K→X.calm = true→∀ (i:Nat) (pins:List (Addr×Obj)) (s:Shared) (σ:St) (H:Hp) (E:Value→Shared→Prop),Inv X pins σ H s→(∀ b ∈ fp,fA X pins H b)→tn i s.heap→J.go i H →
    wpAny (model P w) X.A (pyNext (.ref it)) (fun r s1=>∃ u,r = some u ∧
      wpAny (model P w) X.A (letOwnedTupleGo tg (.ref it) u) (fun _ s2=>∃ x H',Inv X pins σ H' s2∧RelV x u∧J.yld i H x H'∧tn (i + 1) s2.heap∧∀ b ∈ fp,H' b = none) E s1) E s
  done:∀ (X:Cx),X.prog = P→X.w = w→X.K = K→X.calm = true→∀ (i:Nat) (pins:List (Addr×Obj)) (s:Shared) (σ:St) (H:Hp) (E:Value→Shared→Prop),Inv X pins σ H s→(∀ b ∈ fp,fA X pins H b)→tn i s.heap→J.stop i H →
    wpAny (model P w) X.A (pyNext (.ref it)) (fun r s1=>r = none∧Inv X pins σ H s1) E s
  self:∀ (A:Around) (i:Nat) (s:Shared) (Q:Value→Shared→Prop) (E:Value→Shared→Prop),tn i s.heap→Q (.ref it) s→wpAny (model P w) A (pyIter (.ref it)) Q E s
abbrev TI:=St→Hp→(It→Hp→Prop)→Prop
def PIE (X:Cx) (pins:List (Addr×Obj)) (σ:St) (tg:Expr) (R:It→Hp→Prop) (itv:Value) (s2:Shared):Prop :=
  ∃ (it:Addr) (fp:List Addr) (tn:Nat→Heap→Prop) (J:It) (H':Hp),itv = .ref it∧Inv X pins σ H' s2∧Turn X.prog X.w X.K tg J fp it tn∧tn 0 s2.heap∧(∀ b ∈ fp,fA X pins H' b)∧R J H'
def PI (X:Cx) (tg iter:Expr) (wi:TI):Prop :=
  ∀ (pins:List (Addr×Obj)) (s:Shared) (σ:St) (H:Hp) (R:It→Hp→Prop),Inv X pins σ H s→wi σ H R →
    wpAny (model X.prog X.w) X.A (eval iter X.env) (fun v s1=>wpAny (model X.prog X.w) X.A (pyIter v) (PIE X pins σ tg R) X.xe s1) X.xe s
theorem iS {M:Model} {A:Around} {E:Value→Shared→Prop} {s:Shared} {tg:Expr} {it:Addr} {u:Value} {o:Obj} {n:String} {vs:Array Value} {Q:Unit→Shared→Prop} (ho:s.heap.get? it = some o) (hc:o.cls = .type n) (hd:o.data = .fields vs)
    (hn:["enumerate", "zip", "dict_itemiterator", "dict_reverseitemiterator", "odict_iterator", "itertools.zip_longest", "itertools.pairwise"].contains n = false) (hQ:Q () s):wpAny M A (letOwnedTupleGo tg (.ref it) u) Q E s:=by
  unfold letOwnedTupleGo
  cases tg <;> first
    | exact wpAny_pure hQ
    | (cases u <;> first
        | exact wpAny_pure hQ
        | (refine wpAny_bind (wpAny_load ho ?_)
           rw [hc,hd]
           show wpAny M A (if (["enumerate", "zip", "dict_itemiterator", "dict_reverseitemiterator", "odict_iterator", "itertools.zip_longest", "itertools.pairwise"].contains n && vs[0]? == some (rawInt _)) = true then _ else _) Q E s
           rw [if_neg (by intro h; rw [hn,Bool.false_and] at h; cases h)]
           exact wpAny_pure hQ))
def Itl (K:PySem.W.Frag) (a:Addr):It :=
  ⟨fun i H=>∃ xs x,SqL K H a xs∧xs[i]? = some x,fun i H x H'=>H' = H∧∀ xs,SqL K H a xs→xs[i]? = some x,fun i H=>∃ xs,SqL K H a xs∧xs.length≤i⟩
def Itt (K:PySem.W.Frag) (a:Addr):It :=
  ⟨fun i H=>∃ xs x,SqT K H a xs∧xs[i]? = some x,fun i H x H'=>H' = H∧∀ xs,SqT K H a xs→xs[i]? = some x,fun i H=>∃ xs,SqT K H a xs∧xs.length≤i⟩
def Itr (lo:Int) (n:Nat):It:=⟨fun i _=>i < n,fun i H x H'=>H' = H∧x = .int (lo + i),fun i _=>n≤i⟩
theorem oX {P:Program} {w:World} {K:PySem.W.Frag} {tg:Expr} (a it:Addr):Turn P w K tg (Itl K a) [it] it (fun i h=>h.IsListIter it a i) where
  mem:=by simp
  obj:=fun i h st b hb=>by
    have e:b = it:=by simpa using hb
    subst e
    obtain ⟨o,e,c,d⟩:=st
    exact ⟨o,e,fun v z=>by rw [d] at z; cases z⟩
  keep:=fun i h h' st k=>st.at fun o e=>k it (by simp) o e
  item:=by
    intro X hP hw hK hc i pins s σ H E I hf st hg
    subst hP hw hK
    obtain ⟨xs,x,hq,hx⟩:=hg
    obtain ⟨its,rv,p,hz⟩:=I.list hq
    obtain ⟨u,hu,ru⟩:=rv.get hx
    obtain ⟨f0,f1,f2,f3,f4,f5⟩:=hf it (by simp)
    refine wpAny_pyNext_list_item st p.isList (x:=u) (by simpa using hu) fun h' st' sb=>?_
    have I1:Inv X pins σ H { s with heap:=h' }:=I.turned (t':=s.toks) (fun b o hb e=>(sb.2 b hb).trans e) f0 f1 f3 f4 f5
    obtain ⟨o,e,c,d⟩:=id st'
    exact ⟨u,rfl,iS (s:={ s with heap:=h' }) e c d (by decide) ⟨x,H,I1,ru,⟨rfl,fun ys hy=>by rw [I.list_inj hy hq]; exact hx⟩,st',fun b hb=>(hf b hb).1⟩⟩
  done:=by
    intro X hP hw hK hc i pins s σ H E I hf st hg
    subst hP hw hK
    obtain ⟨xs,hq,hx⟩:=hg
    obtain ⟨its,rv,p,hz⟩:=I.list hq
    obtain ⟨f0,f1,f2,f3,f4,f5⟩:=hf it (by simp)
    have hl:=rv.length
    exact wpAny_pyNext_list_end (I.ok.hd hc) st p.isList (by simp; omega) fun h' eb=>⟨rfl,I.turned (t':=s.toks) (fun b o hb e=>eb b o hb e) f0 f1 f3 f4 f5⟩
  self:=fun _ _ _ _ _ st h=>wpAny_pyIter_listiter st h
theorem lP {P:Program} {w:World} {K:PySem.W.Frag} {tg:Expr} (a it:Addr):Turn P w K tg (Itt K a) [it] it (fun i h=>h.IsTupleIter it a i) where
  mem:=by simp
  obj:=fun i h st b hb=>by
    have e:b = it:=by simpa using hb
    subst e
    obtain ⟨o,e,c,d⟩:=st
    exact ⟨o,e,fun v z=>by rw [d] at z; cases z⟩
  keep:=fun i h h' st k=>st.at fun o e=>k it (by simp) o e
  item:=by
    intro X hP hw hK hc i pins s σ H E I hf st hg
    subst hP hw hK
    obtain ⟨xs,x,hq,hx⟩:=hg
    obtain ⟨its,rv,p,hz⟩:=I.tuple hq
    obtain ⟨u,hu,ru⟩:=rv.get hx
    obtain ⟨f0,f1,f2,f3,f4,f5⟩:=hf it (by simp)
    refine wpAny_pyNext_tuple_item st (show s.heap.IsTuple a its.toArray from p) (x:=u) (by simpa using hu) fun h' st' sb=>?_
    have I1:Inv X pins σ H { s with heap:=h' }:=I.turned (t':=s.toks) (fun b o hb e=>(sb.2 b hb).trans e) f0 f1 f3 f4 f5
    obtain ⟨o,e,c,d⟩:=id st'
    exact ⟨u,rfl,iS (s:={ s with heap:=h' }) e c d (by decide) ⟨x,H,I1,ru,⟨rfl,fun ys hy=>by rw [I.tuple_inj hy hq]; exact hx⟩,st',fun b hb=>(hf b hb).1⟩⟩
  done:=by
    intro X hP hw hK hc i pins s σ H E I hf st hg
    subst hP hw hK
    obtain ⟨xs,hq,hx⟩:=hg
    obtain ⟨its,rv,p,hz⟩:=I.tuple hq
    obtain ⟨f0,f1,f2,f3,f4,f5⟩:=hf it (by simp)
    have hl:=rv.length
    exact wpAny_pyNext_tuple_end (I.ok.hd hc) st (show s.heap.IsTuple a its.toArray from p) (by simp; omega) fun h' eb=>⟨rfl,I.turned (t':=s.toks) (fun b o hb e=>eb b o hb e) f0 f1 f3 f4 f5⟩
  self:=fun _ _ _ _ _ st h=>wpAny_pyIter_tupleiter st h
theorem my {P:Program} {w:World} {K:PySem.W.Frag} {tg:Expr} (it:Addr) (lo:Int) (n:Nat):Turn P w K tg (Itr lo n) [it] it (fun i h=>IsRangeIter h it (lo + (i:Nat) * 1) ((n:Int) - (i:Nat)) 1) where
  mem:=by simp
  obj:=fun i h st b hb=>by
    have e:b = it:=by simpa using hb
    subst e
    exact ⟨_,st,fun v z=>by
      have z':Data.fields _ = Data.cell v:=z
      cases z'⟩
  keep:=fun i h h' st k=>k it (by simp) _ st
  item:=by
    intro X hP hw hK hc i pins s σ H E I hf st hg
    subst hP hw hK
    obtain ⟨f0,f1,f2,f3,f4,f5⟩:=hf it (by simp)
    have W:=Walks.range (prog:=X.prog) (w:=X.w) (I.ok.hd hc) it lo 1 n
    refine W.item i s _ _ hg st fun v h' tk hv st' kk=>?_
    obtain ⟨t,rfl⟩:=hv
    have I1:Inv X pins σ H { s with heap:=h',toks:=tk }:=I.turned (fun b o hb e=>kk b o (by simpa using hb) e) f0 f1 f3 f4 f5
    refine ⟨_,rfl,iS (s:={ s with heap:=h',toks:=tk }) (n := "range_iterator") st' rfl rfl (by decide) ⟨.int (lo + i),H,I1,⟨t,?_⟩,⟨rfl,rfl⟩,st',fun b hb=>(hf b hb).1⟩⟩
    rw [Int.mul_one]
  done:=by
    intro X hP hw hK hc i pins s σ H E I hf st hg
    subst hP hw hK
    obtain ⟨f0,f1,f2,f3,f4,f5⟩:=hf it (by simp)
    exact wpAny_pyNext_range_end (I.ok.hd hc) st (by have:n≤i:=hg; omega) fun h' eb=>⟨rfl,I.turned (t':=s.toks) (fun b o hb e=>eb b o hb e) f0 f1 f3 f4 f5⟩
  self:=fun _ _ _ _ _ st h=>wpAny_pyIter_rangeiter st h
end L2
namespace L2
open PySem PySem.Spec PyProof.Rows
section
variable {X:Cx} {tg:Expr}
def zM (K:PySem.W.Frag) (tl:TE):TI:=fun σ H R=>tl σ H fun x H1=>∃ a,x = .ref a∧(∃ xs,SqL K H1 a xs)∧R (Itl K a) H1
def AT (K:PySem.W.Frag) (tl:TE):TI:=fun σ H R=>tl σ H fun x H1=>∃ a,x = .ref a∧(∃ xs,SqT K H1 a xs)∧R (Itt K a) H1
theorem qQ {pins:List (Addr×Obj)} {σ:St} {H:Hp} {s:Shared} {R:It→Hp→Prop} {E:Value→Shared→Prop} {lo hi:Int} {t u v:Tok} {tk:Nat} (I:Inv X pins σ H s) (h1:-(2 ^ 62)≤lo) (h2:lo < 2 ^ 62) (h3:-(2 ^ 62)≤hi) (h4:hi < 2 ^ 62)
    (q:R (Itr lo (hi - lo).toNat) H):wpAny (model X.prog X.w) X.A (pyIter (.ref s.heap.objs.size)) (PIE X pins σ tg R) E { s with heap:=s.heap.push { cls:=.type "range",data:=.fields #[.int lo t,.int hi u,.int 1 v] },toks:=tk }:=by
  refine wpAny_pyIter_range (IsRange.new ..) (small_one h1 h2 h3 h4) ?_
  have I1:Inv X pins σ H { s with heap:=s.heap.push { cls:=.type "range",data:=.fields #[.int lo t,.int hi u,.int 1 v] },toks:=tk }:=I.kept fun b o e=>Heap.get?_push_of_some _ e
  refine ⟨(s.heap.push { cls:=.type "range",data:=.fields #[.int lo t,.int hi u,.int 1 v] }).objs.size,[(s.heap.push { cls:=.type "range",data:=.fields #[.int lo t,.int hi u,.int 1 v] }).objs.size],_,_,H,rfl,
    I1.kept (t':=tk) fun b o e=>Heap.get?_push_of_some _ e,my _ lo (hi - lo).toNat,?_,fun b hb=>?_,q⟩
  · have e1:lo + ((0:Nat):Int) * 1 = lo:=by simp
    have e2:(((hi - lo).toNat:Nat):Int) - ((0:Nat):Int) = Builtin.Range.rangeSize lo hi 1:=by rw [rangeSize_one]; split <;> omega
    show IsRangeIter _ _ (lo + ((0:Nat):Int) * 1) ((((hi - lo).toNat:Nat):Int) - ((0:Nat):Int)) 1
    rw [e1,e2]
    exact Heap.get?_push_size _ rfl
  · have e:b = (s.heap.push { cls:=.type "range",data:=.fields #[.int lo t,.int hi u,.int 1 v] }).objs.size:=by simpa using hb
    subst e
    exact I1.fpOk (Nat.le_refl _) (I1.hok.fresh (Nat.le_refl _))
def xQ (ta:TA):TI:=fun σ H R=>ta σ H fun vs H1=>∃ j:Int,vs = [.int j]∧-(2 ^ 62)≤j∧j < 2 ^ 62∧R (Itr 0 j.toNat) H1
def zO (ta:TA):TI:=fun σ H R=>ta σ H fun vs H1=>∃ i j:Int,vs = [.int i,.int j]∧(-(2 ^ 62)≤i∧i < 2 ^ 62∧-(2 ^ 62)≤j∧j < 2 ^ 62)∧R (Itr i (j - i).toNat) H1
theorem eO {a:Expr} {ta:TA} {p pos:Pos} (hg:Gl X "range") (hm:X.mg "range" = none) (ha:PA X [a] ta) (hs:starEach [a] X.env = [(false,eval a X.env)]:=by rfl):PI X tg (.Call (.Name "range" p) [a] [] pos) (xQ ta):=by
  intro pins s σ H R I h
  refine Call_ (gg I hg hm boot_range (PyProof.Rows.callWith_type1 (thn (ha pos pins s σ H _ I h) fun us s1 ⟨vs,H1,I1,r1,q1⟩=>?_) hs rfl))
  obtain ⟨j,e,q1,q2,q⟩:=q1
  subst e
  cases r1 with
  | cons r rr =>
    cases rr
    obtain ⟨t,rfl⟩:=r
    exact call_range_1 (qQ I1 (by omega) (by omega) q1 q2 (by simpa using q))
def yF (wi:TI) (g:TG) (tb:TS):TS:=fun D σ H=>wi σ H fun J H1=>∃ W:Nat→Nat→St→Hp→Prop,(∃ m,W 0 m σ H1)∧∀ i m σ H,W i m σ H →
  (J.stop i H∧D.nx σ H)∨(J.go i H∧∃ N:St→Hp→Prop,(∀ σ' H',N σ' H'→∃ m',m' < m∧W (i + 1) m' σ' H')∧∀ x H',J.yld i H x H'→g x σ H' fun σ2 H2=>tb { D with nx:=N,ct:=N,bk:=D.nx } σ2 H2)
def gY (fp:List Addr) (h:Heap):List (Addr×Obj):=fp.filterMap fun b=>(h.get? b).map fun o=>(b,o)
theorem dW {fp:List Addr} {h:Heap} {b:Addr} {o:Obj} (hb:b ∈ fp) (e:h.get? b = some o):(b,o) ∈ gY fp h:=List.mem_filterMap.mpr ⟨b,hb,by rw [e]; rfl⟩
theorem pE {fp:List Addr} {h:Heap} {p:Addr×Obj} (hp:p ∈ gY fp h):p.1 ∈ fp∧h.get? p.1 = some p.2:=by
  obtain ⟨b,hb,e⟩:=List.mem_filterMap.mp hp
  cases q:h.get? b with
  | none=>rw [q] at e; cases e
  | some o =>
    rw [q] at e
    have e':(b,o) = p:=Option.some.inj e
    subst e'
    exact ⟨hb,q⟩
theorem Inv.pinned {pins:List (Addr×Obj)} {σ:St} {H:Hp} {s:Shared} {fp:List Addr} (I:Inv X pins σ H s) (hf:∀ b ∈ fp,fA X pins H b) (ho:∀ b ∈ fp,∃ o,s.heap.get? b = some o∧∀ v,o.data≠.cell v):Inv X (pins ++ gY fp s.heap) σ H s :=
  I.pins_of fun p hp=>(List.mem_append.mp hp).elim (fun z=>I.pin p (List.mem_append_right _ z)) fun z=>by
    obtain ⟨hb,e⟩:=pE z
    obtain ⟨f0,f1,f2,_⟩:=hf p.1 hb
    obtain ⟨o,e',d⟩:=ho p.1 hb
    rw [e] at e'; cases e'
    exact ⟨e,f0,f1,f2,d⟩
theorem Inv.unpinned {pins pl:List (Addr×Obj)} {σ:St} {H:Hp} {s:Shared} (I:Inv X (pins ++ pl) σ H s):Inv X pins σ H s:=I.pins_of fun p hp=>I.pin p (List.mem_append_right _ (List.mem_append_left _ hp))
theorem cL {iter:Expr} {body:List Stmt} {wi:TI} {g:TG} {tb:TS} {pos:Pos} (hp:PassesOwn (model X.prog X.w) X.A X.env X.xe) (hc:X.calm = true) (hi:PI X tg iter wi) (hg:PG X tg g) (hb:PSs X body tb)
    (hs:∀ x,foldedSetIterable iter X.env x = pure x:=by intro _; rfl):PS X (.For tg iter body [] pos) (yF wi g tb):=by
  intro pins s σ H D I h
  refine wpAny_For (thn (hi pins s σ H _ I h) fun v s1 h1=>thn h1 fun itv s2 h2=>?_) hs
  obtain ⟨it,fp,tn,J,H2,e,I2,T,st2,f2,W,⟨m0,w0⟩,turn⟩:=h2
  subst e
  -- what stays true of the iterator's objects through the loop
  have stat:∀ {H':Hp},(∀ b ∈ fp,H' b = none)→∀ b ∈ fp,fA X pins H' b:=fun hn b hb=>⟨hn b hb,(f2 b hb).2⟩
  refine codeAny_forLoop_any (fun n s'=>∃ i σ' H',Inv X pins σ' H' s'∧tn i s'.heap∧(∀ b ∈ fp,H' b = none)∧W i n σ' H') ?_ m0 ⟨0,σ,H2,I2,st2,fun b hb=>(f2 b hb).1,w0⟩
  rintro n s3 ⟨i,σ3,H3,I3,st3,fr3,w3⟩
  rcases turn i n σ3 H3 w3 with ⟨stop,qn⟩ | ⟨go,N,hN,step⟩
  · refine wpAny_passesOwn hp (thn (T.done X rfl rfl rfl hc i pins s3 σ3 H3 X.xe I3 (stat fr3) st3 stop) fun r s4 ⟨hr,I4⟩=>?_)
    subst hr
    exact wpAny_execs_nil ⟨σ3,H3,I4,qn⟩
  · refine wpAny_passesOwn hp (thn (T.item X rfl rfl rfl hc i pins s3 σ3 H3 X.xe I3 (stat fr3) st3 go) fun r s4 ⟨u,hr,h4⟩=>?_)
    subst hr
    refine wpAny_passesOwn hp (thn h4 fun _ s5 ⟨x,H5,I5,r5,y5,st5,fr5⟩=>?_)
    have I5':=I5.pinned (stat fr5) (T.obj _ _ st5)
    refine wpAny_passesOwn hp (thn (hg _ s5 σ3 H5 x u _ I5' r5 (step x H5 y5)) fun _ s6 ⟨σ6,H6,I6,q6⟩=>?_)
    refine wpAny_passesOwn hp (thn (hb _ s6 σ6 H6 _ I6 q6) fun f s7 q7=>?_)
    have again:∀ {σ7:St} {H7:Hp},Inv X (pins ++ gY fp s5.heap) σ7 H7 s7→N σ7 H7→∃ m,m < n∧∃ i σ' H',Inv X pins σ' H' s7∧tn i s7.heap∧(∀ b ∈ fp,H' b = none)∧W i m σ' H':=fun {σ7 H7} I7 n7=>by
      obtain ⟨m',hm,w7⟩:=hN σ7 H7 n7
      refine ⟨m',hm,i + 1,σ7,H7,I7.unpinned,T.keep _ _ _ st5 fun b hb o e=>(I7.pin (b,o) (List.mem_append_right _ (List.mem_append_right _ (dW hb e)))).1,fun b hb=>?_,w7⟩
      obtain ⟨o,e,d⟩:=T.obj _ _ st5 b hb
      exact (I7.pin (b,o) (List.mem_append_right _ (List.mem_append_right _ (dW hb e)))).2.1
    cases f with
    | next=>obtain ⟨σ7,H7,I7,n7⟩:=q7; exact again I7 n7
    | cont=>obtain ⟨σ7,H7,I7,n7⟩:=q7; exact again I7 n7
    | brk=>obtain ⟨σ7,H7,I7,q7⟩:=q7; exact ⟨σ7,H7,I7.unpinned,q7⟩
    | ret v=>obtain ⟨x7,σ7,H7,I7,r7,q7⟩:=q7; exact ⟨x7,σ7,H7,I7.unpinned,r7,q7⟩
end
theorem cI {K:PySem.W.Frag} {a:Addr} {xs:List V} {g:TG} {tb:TS} {D:Ends} {σ:St} {H:Hp} (Pv:Nat→St→Hp→Prop) (h0:Pv 0 σ H) (hl:∀ i σ H,i≤xs.length→Pv i σ H→SqL K H a xs)
    (hs:∀ i x σ H,xs[i]? = some x→Pv i σ H→g x σ H fun σ2 H2=>tb { D with nx:=Pv (i + 1),ct:=Pv (i + 1),bk:=D.nx } σ2 H2) (hd:∀ σ H,Pv xs.length σ H→D.nx σ H) :
    ∃ W:Nat→Nat→St→Hp→Prop,(∃ m,W 0 m σ H)∧∀ i m σ H,W i m σ H →
      ((Itl K a).stop i H∧D.nx σ H)∨((Itl K a).go i H∧∃ N:St→Hp→Prop,(∀ σ' H',N σ' H'→∃ m',m' < m∧W (i + 1) m' σ' H')∧∀ x H',(Itl K a).yld i H x H'→g x σ H' fun σ2 H2=>tb { D with nx:=N,ct:=N,bk:=D.nx } σ2 H2):=by
  refine ⟨fun i m σ H=>m = xs.length - i∧i≤xs.length∧Pv i σ H,⟨xs.length,by simp,Nat.zero_le _,h0⟩,?_⟩
  rintro i m σ H ⟨rfl,hi,p⟩
  have q:=hl i σ H hi p
  by_cases hlt:i < xs.length
  · refine .inr ⟨⟨xs,xs[i],q,by simp [hlt]⟩,Pv (i + 1),fun σ' H' p'=>⟨xs.length - (i + 1),by omega,rfl,hlt,p'⟩,fun x H' y=>?_⟩
    obtain ⟨e,y⟩:=y
    subst e
    exact hs i x σ _ (y xs q) p
  · have e:i = xs.length:=by omega
    subst e
    exact .inl ⟨⟨xs,q,Nat.le_refl _⟩,hd σ H p⟩
theorem pA {lo:Int} {n:Nat} {g:TG} {tb:TS} {D:Ends} {σ:St} {H:Hp} (Pv:Nat→St→Hp→Prop) (h0:Pv 0 σ H)
    (hs:∀ i σ H,i < n→Pv i σ H→g (.int (lo + i)) σ H fun σ2 H2=>tb { D with nx:=Pv (i + 1),ct:=Pv (i + 1),bk:=D.nx } σ2 H2) (hd:∀ σ H,Pv n σ H→D.nx σ H) :
    ∃ W:Nat→Nat→St→Hp→Prop,(∃ m,W 0 m σ H)∧∀ i m σ H,W i m σ H →
      ((Itr lo n).stop i H∧D.nx σ H)∨((Itr lo n).go i H∧∃ N:St→Hp→Prop,(∀ σ' H',N σ' H'→∃ m',m' < m∧W (i + 1) m' σ' H')∧∀ x H',(Itr lo n).yld i H x H'→g x σ H' fun σ2 H2=>tb { D with nx:=N,ct:=N,bk:=D.nx } σ2 H2):=by
  refine ⟨fun i m σ H=>m = n - i∧i≤n∧Pv i σ H,⟨n,by simp,Nat.zero_le _,h0⟩,?_⟩
  rintro i m σ H ⟨rfl,hi,p⟩
  by_cases hlt:i < n
  · refine .inr ⟨hlt,Pv (i + 1),fun σ' H' p'=>⟨n - (i + 1),by omega,rfl,hlt,p'⟩,fun x H' y=>?_⟩
    obtain ⟨e,y⟩:=y
    subst e y
    exact hs i σ _ hlt p
  · have e:i = n:=by omega
    subst e
    exact .inl ⟨Nat.le_refl _,hd σ H p⟩
end L2
namespace L2
open PySem PySem.Spec PyProof.Rows
abbrev R2:=V→V→Hp→VK→Prop
def OpR (X:Cx) (f:Value→Value→Sem Value) (r:R2):Prop :=
  ∀ (pins:List (Addr×Obj)) (s:Shared) (σ:St) (H:Hp) (x y:V) (v u:Value) (Q:VK),Inv X pins σ H s→RelV x v→RelV y u→r x y H Q →
    wpAny (model X.prog X.w) X.A (f v u) (EP X pins σ Q) X.xe s
def UnR (X:Cx) (f:Value→Sem Value) (r:V→Hp→VK→Prop):Prop :=
  ∀ (pins:List (Addr×Obj)) (s:Shared) (σ:St) (H:Hp) (x:V) (v:Value) (Q:VK),Inv X pins σ H s→RelV x v→r x H Q →
    wpAny (model X.prog X.w) X.A (f v) (EP X pins σ Q) X.xe s
def CallR (X:Cx) (f:Value) (r:List V→Hp→VK→Prop):Prop :=
  ∀ (pins:List (Addr×Obj)) (s:Shared) (σ:St) (H:Hp) (xs:List V) (us:List Value) (Q:VK),Inv X pins σ H s→Vals xs us→r xs H Q →
    wpAny (model X.prog X.w) X.A (call f us) (EP X pins σ Q) X.xe s
def yJ (X:Cx) (r:V→Hp→(Bool→Hp→Prop)→Prop):Prop :=
  ∀ (pins:List (Addr×Obj)) (s:Shared) (σ:St) (H:Hp) (x:V) (v:Value) (Q:Bool→Hp→Prop),Inv X pins σ H s→RelV x v→r x H Q →
    wpAny (model X.prog X.w) X.A (truthy v) (TP X pins σ Q) X.xe s
def tOp (r:R2) (ta tb:TE):TE:=fun σ H Q=>ta σ H fun x H1=>tb σ H1 fun y H2=>r x y H2 Q
def tUn (r:V→Hp→VK→Prop) (ta:TE):TE:=fun σ H Q=>ta σ H fun x H1=>r x H1 Q
def rI (C:Int→Int→Prop) (g:Int→Int→V):R2:=fun x y H Q=>∃ i j,x = .int i∧y = .int j∧C i j∧Q (g i j) H
def rI0 (g:Int→Int→V):R2:=fun x y H Q=>∃ i j,x = .int i∧y = .int j∧Q (g i j) H
def rU (g:Int→V):V→Hp→VK→Prop:=fun x H Q=>∃ i,x = .int i∧Q (g i) H
section
variable {X:Cx} {a b c:Expr} {ta tb tc:TE} {pos:Pos}
theorem v9 (ha:PE X a ta) (hb:PE X b tb) {pins:List (Addr×Obj)} {s:Shared} {σ:St} {H:Hp} {R:V→V→Hp→Prop} (I:Inv X pins σ H s)
    (h:ta σ H fun x H1=>tb σ H1 fun y H2=>R x y H2) {Q:Value→Shared→Prop} {f:Value→Value→Sem Value}
    (hf:∀ v u s2 x y H2,Inv X pins σ H2 s2→RelV x v→RelV y u→R x y H2→wpAny (model X.prog X.w) X.A (f v u) Q X.xe s2) :
    wpAny (model X.prog X.w) X.A (eval a X.env) (fun v s₁=>wpAny (model X.prog X.w) X.A (eval b X.env) (fun u s₂=>wpAny (model X.prog X.w) X.A (f v u) Q X.xe s₂) X.xe s₁) X.xe s:=by
  refine thn (ha pins s σ H _ I h) fun v s1 ⟨x,H1,I1,r1,q1⟩=>?_
  refine thn (hb pins s1 σ H1 _ I1 q1) fun u s2 ⟨y,H2,I2,r2,q2⟩=>?_
  exact hf v u s2 x y H2 I2 r1 r2 q2
theorem aw {op:Operator} {r:R2} (ho:OpR X (binaryOp op) r) (ha:PE X a ta) (hb:PE X b tb):PE X (.BinOp a op b pos) (tOp r ta tb):=by
  intro pins s σ H Q I h
  exact wpAny_BinOp (v9 ha hb I h fun v u s2 x y H2 I2 rx ry q=>ho pins s2 σ H2 x y v u Q I2 rx ry q)
theorem uN {op:UnaryOp} {r:V→Hp→VK→Prop} (ho:UnR X (unaryOp op) r) (ha:PE X a ta):PE X (.UnaryOp op a pos) (tUn r ta):=by
  intro pins s σ H Q I h
  exact UnaryOp_ (thn (ha pins s σ H _ I h) fun v s1 ⟨x,H1,I1,r1,q1⟩=>ho pins s1 σ H1 x v Q I1 r1 q1)
theorem opI {f:Value→Value→Sem Value} {C:Int→Int→Prop} {g:Int→Int→Int}
    (rule:∀ (i j:Int) (t u:Tok) (s:Shared) (Q:Value→Shared→Prop) (E:Value→Shared→Prop),C i j→Q (.int (g i j) s.toks) { s with toks:=s.toks + 1 }→wpAny (model X.prog X.w) X.A (f (.int i t) (.int j u)) Q E s) :
    OpR X f (rI C fun i j=>.int (g i j)):=by
  intro pins s σ H x y v u Q I rx ry h
  obtain ⟨i,j,rfl,rfl,hc,q⟩:=h
  obtain ⟨t,rfl⟩:=rx
  obtain ⟨t',rfl⟩:=ry
  exact rule i j t t' s _ _ hc ⟨.int (g i j),H,I.tok _,⟨_,rfl⟩,q⟩
theorem xN {f:Value→Value→Sem Value} {g:Int→Int→Int}
    (rule:∀ (i j:Int) (t u:Tok) (s:Shared) (Q:Value→Shared→Prop) (E:Value→Shared→Prop),Q (.int (g i j) s.toks) { s with toks:=s.toks + 1 }→wpAny (model X.prog X.w) X.A (f (.int i t) (.int j u)) Q E s) :
    OpR X f (rI0 fun i j=>.int (g i j)):=by
  intro pins s σ H x y v u Q I rx ry h
  obtain ⟨i,j,rfl,rfl,q⟩:=h
  obtain ⟨t,rfl⟩:=rx
  obtain ⟨t',rfl⟩:=ry
  exact rule i j t t' s _ _ ⟨.int (g i j),H,I.tok _,⟨_,rfl⟩,q⟩
theorem xm {f:Value→Value→Sem Value} {g:Int→Int→Bool}
    (rule:∀ (i j:Int) (t u:Tok) (s:Shared) (Q:Value→Shared→Prop) (E:Value→Shared→Prop),Q (.bool (g i j)) s→wpAny (model X.prog X.w) X.A (f (.int i t) (.int j u)) Q E s) :
    OpR X f (rI0 fun i j=>.bl (g i j)):=by
  intro pins s σ H x y v u Q I rx ry h
  obtain ⟨i,j,rfl,rfl,q⟩:=h
  obtain ⟨t,rfl⟩:=rx
  obtain ⟨t',rfl⟩:=ry
  exact rule i j t t' s _ _ ⟨.bl (g i j),H,I,rfl,q⟩
def zf (i j:Int):Prop:=0 < j∧j < 1073741824
def zY (i j:Int):Prop:=j≠0∧j.natAbs < 1073741824
def wz (i j:Int):Prop:=0≤j∧j≤1000000∧i.natAbs < 2 ^ 64
def CMul (i j:Int):Prop:=(-(2 ^ 64) < i∧i < 2 ^ 64)∨(-(2 ^ 64) < j∧j < 2 ^ 64)
theorem CMul.ok {i j:Int} (h:CMul i j):IntMulOk i j:=by
  rcases h with ⟨h1,h2⟩ | ⟨h1,h2⟩
  · exact .of_left (intBits_le_64 h1 h2)
  · exact .of_right (intBits_le_64 h1 h2)
theorem op_add:OpR X (binaryOp .Add) (rI0 fun i j=>.int (i + j)):=xN fun _ _ _ _ _ _ _ q=>add_int q
theorem op_sub:OpR X (binaryOp .Sub) (rI0 fun i j=>.int (i - j)):=xN fun _ _ _ _ _ _ _ q=>sub_int q
theorem op_mod:OpR X (binaryOp .Mod) (rI (fun _ j=>0 < j) fun i j=>.int (i % j)):=opI fun i j _ _ _ _ _ hc q=>by
  have h1:(0:Int) < j:=hc
  exact mod_int' (by omega) (by rw [Int.fmod_eq_emod_of_nonneg i (by omega)]; exact q)
theorem op_pow:OpR X (binaryOp .Pow) (rI wz fun i j=>.int (i ^ j.toNat)):=opI fun _ _ _ _ _ _ _ hc q=>pow_int_small hc.1 hc.2.1 hc.2.2 q
theorem unI {f:Value→Sem Value} {g:Int→Int}
    (rule:∀ (i:Int) (t:Tok) (s:Shared) (Q:Value→Shared→Prop) (E:Value→Shared→Prop),Q (.int (g i) s.toks) { s with toks:=s.toks + 1 }→wpAny (model X.prog X.w) X.A (f (.int i t)) Q E s) :
    UnR X f (rU fun i=>.int (g i)):=by
  intro pins s σ H x v Q I rx h
  obtain ⟨i,rfl,q⟩:=h
  obtain ⟨t,rfl⟩:=rx
  exact rule i t s _ _ ⟨.int (g i),H,I.tok _,⟨_,rfl⟩,q⟩
theorem vJ:UnR X (unaryOp .USub) (rU fun i=>.int (-i)):=unI fun _ _ _ _ _ q=>neg_int q
end
def wV:V→V→Bool
  | .non,.non=>true | .non,.int _=>true | .int _,.non=>true | .non,.bl _=>true | .bl _,.non=>true | .non,.str _=>true | .str _,.non=>true
  | .int _,.int _=>true | .bl _,.bl _=>true | .str _,.str _=>true | .byt _,.byt _=>true
  | .int _,.str _=>true | .str _,.int _=>true | .bl _,.str _=>true | .str _,.bl _=>true
  | _,_=>false
def rEq:R2:=fun x y H Q=>wV x y = true∧Q (.bl (decide (x = y))) H
def rNe:R2:=fun x y H Q=>wV x y = true∧Q (.bl (!decide (x = y))) H
theorem oy {i j:Int}:decide (V.int i = V.int j) = (i == j):=by
  rw [Bool.eq_iff_iff]
  simp
theorem rP {i j:Bool}:decide (V.bl i = V.bl j) = (i == j):=by
  rw [Bool.eq_iff_iff]
  simp
theorem ng {i j:Str}:decide (V.str i = V.str j) = (i == j):=by
  rw [Bool.eq_iff_iff]
  simp
theorem nU {i j:Array UInt8}:decide (V.byt i = V.byt j) = (i.toList == j.toList):=by
  rw [Bool.eq_iff_iff]
  cases i
  cases j
  simp
section
variable {X:Cx} {a b c:Expr} {ta tb tc:TE} {pos:Pos}
theorem aM {pins:List (Addr×Obj)} {σ:St} {H:Hp} {s:Shared} {Q:VK} {k k':Bool} (I:Inv X pins σ H s) (q:Q (.bl k) H) (e:k = k'):EP X pins σ Q (.bool k') s:=by
  subst e
  exact ⟨.bl k,H,I,rfl,q⟩
theorem op_eq:OpR X (compareOp .Eq) rEq:=by
  intro pins s σ H x y v u Q I rx ry h
  obtain ⟨hs,q⟩:=h
  cases x with
  | non =>
    cases rx
    cases y with
    | non=>cases ry; exact PySem.EqNone.eq_none_none (aM I q (by simp))
    | bl j=>cases ry; exact PySem.EqNone.eq_none_bool (aM I q (by simp))
    | int j=>obtain ⟨t',rfl⟩:=ry; exact PySem.EqNone.eq_none_int (aM I q (by simp))
    | str j=>obtain ⟨t',rfl⟩:=ry; exact PySem.EqNone.eq_none_str (aM I q (by simp))
    | _=>exact absurd (show false = true from hs) Bool.false_ne_true
  | bl i =>
    cases rx
    cases y with
    | non=>cases ry; exact PySem.EqNone.eq_bool_none (aM I q (by simp))
    | bl j=>cases ry; exact eq_bool (aM I q rP)
    | str j=>obtain ⟨t',rfl⟩:=ry; exact PySem.EqMixed.eq_bool_str (aM I q (by simp))
    | _=>exact absurd (show false = true from hs) Bool.false_ne_true
  | int i =>
    obtain ⟨t,rfl⟩:=rx
    cases y with
    | non=>cases ry; exact PySem.EqNone.eq_int_none (aM I q (by simp))
    | int j=>obtain ⟨t',rfl⟩:=ry; exact eq_int (aM I q oy)
    | str j=>obtain ⟨t',rfl⟩:=ry; exact PySem.EqMixed.eq_int_str (aM I q (by simp))
    | _=>exact absurd (show false = true from hs) Bool.false_ne_true
  | str i =>
    obtain ⟨t,rfl⟩:=rx
    cases y with
    | non=>cases ry; exact PySem.EqNone.eq_str_none (aM I q (by simp))
    | bl j=>cases ry; exact PySem.EqMixed.eq_str_bool (aM I q (by simp))
    | int j=>obtain ⟨t',rfl⟩:=ry; exact PySem.EqMixed.eq_str_int (aM I q (by simp))
    | str j=>obtain ⟨t',rfl⟩:=ry; exact eq_str (aM I q ng)
    | _=>exact absurd (show false = true from hs) Bool.false_ne_true
  | byt i =>
    obtain ⟨t,rfl⟩:=rx
    cases y with
    | byt j=>obtain ⟨t',rfl⟩:=ry; exact PySem.W.eq_bytes (aM I q nU)
    | _=>exact absurd (show false = true from hs) Bool.false_ne_true
  | _=>cases y <;> exact absurd (show false = true from hs) Bool.false_ne_true
theorem op_ne:OpR X (compareOp .NotEq) rNe:=by
  intro pins s σ H x y v u Q I rx ry h
  obtain ⟨hs,q⟩:=h
  cases x with
  | non =>
    cases rx
    cases y with
    | non=>cases ry; exact PySem.EqNone.ne_none_none (aM I q (by simp))
    | bl j=>cases ry; exact PySem.EqNone.ne_none_bool (aM I q (by simp))
    | int j=>obtain ⟨t',rfl⟩:=ry; exact PySem.EqNone.ne_none_int (aM I q (by simp))
    | str j=>obtain ⟨t',rfl⟩:=ry; exact PySem.EqNone.ne_none_str (aM I q (by simp))
    | _=>exact absurd (show false = true from hs) Bool.false_ne_true
  | bl i =>
    cases rx
    cases y with
    | non=>cases ry; exact PySem.EqNone.ne_bool_none (aM I q (by simp))
    | bl j=>cases ry; exact ne_bool (aM I q (congrArg not rP))
    | str j=>obtain ⟨t',rfl⟩:=ry; exact PySem.EqMixed.ne_bool_str (aM I q (by simp))
    | _=>exact absurd (show false = true from hs) Bool.false_ne_true
  | int i =>
    obtain ⟨t,rfl⟩:=rx
    cases y with
    | non=>cases ry; exact PySem.EqNone.ne_int_none (aM I q (by simp))
    | int j=>obtain ⟨t',rfl⟩:=ry; exact ne_int (aM I q (congrArg not oy))
    | str j=>obtain ⟨t',rfl⟩:=ry; exact PySem.EqMixed.ne_int_str (aM I q (by simp))
    | _=>exact absurd (show false = true from hs) Bool.false_ne_true
  | str i =>
    obtain ⟨t,rfl⟩:=rx
    cases y with
    | non=>cases ry; exact PySem.EqNone.ne_str_none (aM I q (by simp))
    | bl j=>cases ry; exact PySem.EqMixed.ne_str_bool (aM I q (by simp))
    | int j=>obtain ⟨t',rfl⟩:=ry; exact PySem.EqMixed.ne_str_int (aM I q (by simp))
    | str j=>obtain ⟨t',rfl⟩:=ry; exact ne_str (aM I q (congrArg not ng))
    | _=>exact absurd (show false = true from hs) Bool.false_ne_true
  | byt i =>
    obtain ⟨t,rfl⟩:=rx
    cases y with
    | byt j=>obtain ⟨t',rfl⟩:=ry; exact PySem.W.ne_bytes (aM I q (congrArg not nU))
    | _=>exact absurd (show false = true from hs) Bool.false_ne_true
  | _=>cases y <;> exact absurd (show false = true from hs) Bool.false_ne_true
theorem op_lt:OpR X (compareOp .Lt) (rI0 fun i j=>.bl (decide (i < j))):=xm fun _ _ _ _ _ _ _ q=>lt_int q
theorem op_gt:OpR X (compareOp .Gt) (rI0 fun i j=>.bl (decide (j < i))):=xm fun _ _ _ _ _ _ _ q=>gt_int q
theorem pH:OpR X (compareOp .Lt) (fun x y H Q=>∃ i j,x = .str i∧y = .str j∧Q (.bl (decide (i.cps.toList < j.cps.toList))) H):=by
  intro pins s σ H x y v u Q I rx ry h
  obtain ⟨i,j,rfl,rfl,q⟩:=h
  obtain ⟨t,rfl⟩:=rx
  obtain ⟨t',rfl⟩:=ry
  exact lt_str (aM I q rfl)
def zV:HO→Bool
  | .lst _=>true
  | .ins _ _ _=>true
  | _=>false
theorem OpR.or {f:Value→Value→Sem Value} {r r':R2} (h:OpR X f r) (h':OpR X f r'):OpR X f (fun x y H Q=>r x y H Q∨r' x y H Q):=by
  intro pins s σ H x y v u Q I rx ry q
  rcases q with q | q
  · exact h pins s σ H x y v u Q I rx ry q
  · exact h' pins s σ H x y v u Q I rx ry q
theorem bY (b:Expr) {op:CmpOp} (h:op≠.In:=by decide) (h2:op≠.NotIn:=by decide):behindInMarks op b = false:=by
  have e1:(op == CmpOp.In) = false:=by cases op <;> first | rfl | exact absurd rfl h
  have e2:(op == CmpOp.NotIn) = false:=by cases op <;> first | rfl | exact absurd rfl h2
  cases b <;> simp [behindInMarks,e1,e2]
theorem jS {op:CmpOp} {r:R2} (ho:OpR X (compareOp op) r) (ha:PE X a ta) (hb:PE X b tb) (hm:behindInMarks op b = false):PE X (.Compare a [op] [b] pos) (tOp r ta tb):=by
  intro pins s σ H Q I h
  exact wpAny_Compare1 (v9 ha hb I h fun v u s2 x y H2 I2 rx ry q=>ho pins s2 σ H2 x y v u Q I2 rx ry q) hm
def Ac (t:TE):TT:=fun σ H Q=>t σ H fun x H'=>∃ k,x = .bl k∧Q k H'
def yz (r r':R2) (ta tb tc:TE):TE:=fun σ H Q=>ta σ H fun x H1=>tb σ H1 fun y H2=>r x y H2 fun z H3=>∃ k,z = .bl k ∧
  (if k = true then tc σ H3 fun w' H4=>r' y w' H4 Q else Q (.bl false) H3)
def xM (K:PySem.W.Frag) (x:V) (H:Hp) (k:Bool):Prop :=
  match x with
  | .non=>k = false
  | .bl b=>k = b
  | .int i=>k = (i != 0)
  | .str y=>y.length≤sizeLine∧k = ((y.length:Int) != 0)
  | .byt y=>y.size≤sizeLine∧k = ((y.size:Int) != 0)
  | .ref p=>(∃ xs,SqL K H p xs∧k = !xs.isEmpty)∨(∃ xs,SqT K H p xs∧k = !xs.isEmpty)∨∃ kvs,H p = some (.dK kvs)∧k = !kvs.isEmpty
  | _=>False
theorem mm {κ:Type} {kvs:List (κ×V)} {vs:List (κ×Value)} (r:KV kvs vs):(!vs.isEmpty) = !kvs.isEmpty:=by
  cases r <;> rfl
theorem ib {xs:List V} {its:List Value} (r:Vals xs its):(!its.toArray.isEmpty) = !xs.isEmpty:=by
  cases r <;> simp
theorem gi:(sizeLine:Nat) < 2 ^ 63:=by rw [sizeLine_eq]; decide
theorem vf:yJ X (fun x H Q=>∃ k,xM X.K x H k∧Q k H):=by
  intro pins s σ H x v Q I rx h
  obtain ⟨k,e,q⟩:=h
  have hl:=gi
  have hs:sizeLine = 16777216:=sizeLine_eq
  cases x with
  | non =>
    cases rx
    have e':k = false:=e
    subst e'
    exact truthy_none ⟨H,I,q⟩
  | bl b =>
    cases rx
    have e':k = b:=e
    subst e'
    exact wpAny_truthy_bool ⟨H,I,q⟩
  | int i =>
    obtain ⟨t,rfl⟩:=rx
    have e':k = (i != 0):=e
    subst e'
    exact PySem.P.truthy_int ⟨H,I,q⟩
  | str y =>
    obtain ⟨t,rfl⟩:=rx
    obtain ⟨hy,e'⟩:y.length≤sizeLine∧k = ((y.length:Int) != 0):=e
    subst e'
    exact PySem.P.truthy_str (by omega) ⟨H,I.tok _,q⟩
  | byt y =>
    obtain ⟨t,rfl⟩:=rx
    obtain ⟨hy,e'⟩:y.size≤sizeLine∧k = ((y.size:Int) != 0):=e
    subst e'
    exact PySem.W.truthy_bytes (by omega) ⟨H,I.tok _,q⟩
  | ref p =>
    cases rx
    have e':(∃ xs,SqL X.K H p xs∧k = !xs.isEmpty)∨(∃ xs,SqT X.K H p xs∧k = !xs.isEmpty)∨∃ kvs,H p = some (.dK kvs)∧k = !kvs.isEmpty:=e
    rcases e' with ⟨xs,hx,e'⟩ | ⟨xs,hx,e'⟩ | ⟨kvs,hx,e'⟩
    · subst e'
      obtain ⟨its,r,pl,hz⟩:=I.list hx
      have hlen:=r.length
      exact wpAny_truthy_list pl.isList (by simp only [List.size_toArray]; omega) ⟨H,I.tok _,by rw [ib r]; exact q⟩
    · subst e'
      obtain ⟨its,r,pl,hz⟩:=I.tuple hx
      have hlen:=r.length
      exact truthy_tuple pl (by simp only [List.size_toArray]; omega) ⟨H,I.tok _,by rw [ib r]; exact q⟩
    · subst e'
      obtain ⟨hz,hS,vs,r,m⟩:kvs.length≤sizeLine∧(p == sysModules) = false∧∃ vs,KV kvs vs∧s.heap.DictOf (bE X.prog X.w) p vs:=I.hok p _ hx
      have hlen:kvs.length = vs.length:=Paired.length r
      exact wpAny_truthy_dict hS m (by omega) ⟨H,I.tok _,by rw [mm r]; exact q⟩
  | _=>exact (show False from e).elim
theorem kX (ha:PE X a ta) (he:∀ whole,isTrue a X.env whole = (do let v ← whole; standAt a.pos; holding [v] (truthy v))) :
    PT X a (fun σ H Q=>ta σ H fun x H'=>∃ k,xM X.K x H' k∧Q k H'):=by
  intro pins s σ H Q I h
  exact isTrue_plain (thn (ha pins s σ H _ I h) fun v s1 ⟨x,H1,I1,r1,q1⟩=>vf pins s1 σ H1 x v Q I1 r1 q1) (he _)
theorem md:OpR X (binaryOp .Add) (fun x y H Q=>∃ i j,x = .str i∧y = .str j∧i.length + j.length≤sizeLine∧Q (.str (i ++ j)) H):=by
  intro pins s σ H x y v u Q I rx ry h
  obtain ⟨i,j,rfl,rfl,hz,q⟩:=h
  obtain ⟨t,rfl⟩:=rx
  obtain ⟨t',rfl⟩:=ry
  exact add_str (fun t' tk=>⟨.str (i ++ j),H,I.tok _,⟨_,rfl⟩,q⟩) hz
def xb (b:Expr):Prop:=∀ o i,subscripted b false o i = operate [o,i] (getItem o i)
theorem eF {x:V} {us:List Value} (r:Vals [x] us):∃ u,us = [u]∧RelV x u:=by
  cases r with
  | cons r1 r2=>cases r2; exact ⟨_,rfl,r1⟩
theorem oj {x y:V} {us:List Value} (r:Vals [x,y] us):∃ u w',us = [u,w']∧RelV x u∧RelV y w':=by
  cases r with
  | cons r1 r2 =>
    cases r2 with
    | cons r3 r4=>cases r4; exact ⟨_,_,rfl,r1,r3⟩
theorem lG:CallR X (.builtin "abs") (fun xs H Q=>∃ i,xs = [.int i]∧Q (.int (if i < 0 then -i else i)) H):=by
  intro pins s σ H xs us Q I r h
  obtain ⟨i,rfl,q⟩:=h
  obtain ⟨u,rfl,t,rfl⟩:=eF r
  exact call_abs_int fun u tk=>⟨.int (if i < 0 then -i else i),H,I.tok _,⟨_,rfl⟩,q⟩
inductive rTwo (f:Int→Int→Int) (xs:List V) (H:Hp) (Q:VK):Prop
  | mk (i j:Int) (h0:xs = [.int i,.int j]) (h1:Q (.int (f i j)) H):rTwo f xs H Q
theorem oR (hc:X.calm = true):CallR X (.builtin "min") (rTwo fun i j=>if j < i then j else i):=by
  intro pins s σ H xs us Q I r h
  obtain ⟨i,j,rfl,q⟩:=h
  obtain ⟨u,w',rfl,⟨t,rfl⟩,⟨t',rfl⟩⟩:=oj r
  refine min_two_ints (I.ok.hd hc) fun h' tk k=>⟨_,H,I.kept k,?_,q⟩
  by_cases hj:j < i
  · rw [if_pos hj,if_pos hj]; exact ⟨_,rfl⟩
  · rw [if_neg hj,if_neg hj]; exact ⟨_,rfl⟩
def AJ (K:PySem.W.Frag) (x:V) (H:Hp) (n:Nat):Prop :=
  match x with
  | .str y=>y.length≤sizeLine∧n = y.length
  | .byt y=>y.size≤sizeLine∧n = y.size
  | .ref p=>(∃ xs,SqL K H p xs∧n = xs.length)∨∃ xs,SqT K H p xs∧n = xs.length
  | _=>False
end
end L2
namespace L2
open PySem PySem.Spec PyProof.Rows
structure ObjM (h:Heap) (x dx C:Addr) (mA:Str→Option Value):Prop where
  obj:h.get? x = some (PySem.W.instObj C dx)
  ns:h.Ns1 dx mA
  ne:dx≠x
theorem oN {h:Heap} {dx:Addr} {mA:Str→Option Value} (n:h.Ns1 dx mA):∃ od,h.get? dx = some od∧∀ name,PySem.W.lookIn name od = some (mA name):=by
  obtain ⟨o,es,ep,ho,hd,hk,_,hm⟩:=n
  refine ⟨o,ho,fun name=>?_⟩
  have e:=hm name
  unfold nsFind findBy at e
  rw [← Array.find?_toList] at e
  unfold PySem.W.lookIn
  rw [hd]
  dsimp only
  split
  · rename_i y q
    rw [q] at e
    exact congrArg some e
  · rename_i q
    rw [q] at e
    have a:es.toList.any (·.refKey) = false:=by
      rw [List.any_eq_false]
      intro y hy
      obtain ⟨z,t,hkey⟩:=hk y (Array.mem_toList_iff.mp hy)
      simp [DictEntry.refKey,hkey]
    have a':¬ es.toList.any (·.refKey) = true:=by rw [a]; exact Bool.false_ne_true
    rw [if_neg a']
    exact congrArg some e
theorem ObjM.look {h:Heap} {x dx C:Addr} {mA:Str→Option Value} (I:ObjM h x dx C mA):∃ od,PySem.W.InstAt h x (PySem.W.instObj C dx) C (some od)∧∀ name,PySem.W.lookIn name od = some (mA name) :=
  let ⟨od,ho,hl⟩:=oN I.ns
  ⟨od,⟨I.obj,rfl,rfl,ho⟩,hl⟩
section
variable {prog:Program} {w:World} {A:Around} {E:Value→Shared→Prop} {s:Shared} {K:PySem.W.Frag} {x dx C f:Addr} {mA:Str→Option Value} {name:Str} {v:Value}
theorem sD {expr:Bool} {Q:Value→Shared→Prop} (X:K.In s.heap) (I:ObjM s.heap x dx C mA) (hg:PySem.W.plainGet K C name = true) (hh:PySem.W.hasDictIn K C = true)
    (ha:PySem.W.findIn K (.ref C) name = some none) (hv:mA name = some v) (hv':PySem.W.handedIn v = true) (h:Q v { s with toks:=s.toks + 1 }) :
    wpAny (model prog w) A (getAttr (.ref x) name expr) Q E s:=by
  obtain ⟨od,J,hl⟩:=I.look
  exact PySem.W.get_value X J (PySem.W.plainGet_of hg).1 (PySem.W.findObj_own hh ha rfl (by rw [hl,hv])) hv' h
theorem qz {pl:Sem Bool} {Q:Value×List Value→Shared→Prop} (X:K.In s.heap) (I:ObjM s.heap x dx C mA) (hg:PySem.W.plainGet K C name = true)
    (hf:PySem.W.findIn K (.ref C) name = some (some (.ref f))) (ht:PySem.W.isFn K (.ref f) = true) (hv:mA name = none) (h:Q (.ref f,[.ref x]) s) :
    wpAny (model prog w) A (getMethod (.ref x) name pl) Q E s:=by
  obtain ⟨od,J,hl⟩:=I.look
  exact PySem.W.method_fn X J (PySem.W.plainGet_of hg).1 (PySem.W.plainGet_of hg).2 hf (beq_iff_eq.mp ht) (by show (PySem.W.lookIn name od).map (·.isSome) = some false; rw [hl,hv]; rfl) h
theorem su {ns:List Str} {Q:Unit→Shared→Prop} (X:K.In s.heap) (I:ObjM s.heap x dx C mA)
    (hs:PySem.W.findIn K (.ref C) "__setattr__" = some (some (.builtin "object.__setattr__"))) (hp:PySem.W.plainOver K C = true) (ht:PySem.W.takerIn K C name = some none) (hh:PySem.W.hasDictIn K C = true)
    (hw:PySem.Within mA ns) (hsz:ns.length≤sizeLine)
    (h:∀ h',ObjM h' x dx C (fun y=>if y = name then some v else mA y)→Heap.SameBut dx s.heap h'→Q () { s with heap:=h',toks:=s.toks + 2 }) :
    wpAny (model prog w) A (setAttr (.ref x) name v) Q E s:=by
  obtain ⟨od,J,hl⟩:=I.look
  refine PySem.W.set_plain X J hs (PySem.W.osa_open (s:={ s with toks:=s.toks + 1 }) (r:=none) X J hp ht fun b=>?_)
  obtain ⟨cd,hc,hd'⟩:=PySem.W.any_some hh
  have hx:s.heap.get? x = some ⟨.ref C,some dx,.plain,#[]⟩:=I.obj
  refine wpAny_bind (wpAny_pure (wpAny_bind (wpAny_bind (wpAny_loadPart hx (wpAny_bind (PySem.W.Looks.here (s:={ s with toks:=s.toks + 1 }) (PySem.W.looks_clsIn X hc) ?_))))))
  rw [hd']
  refine wpAny_pure (a:=some dx) (wpAny_bind (wpAny_pure (wpAny_bind ?_)))
  refine wpAny_nsSet1 (s:={ s with toks:=s.toks + 1 }) I.ns fun h' hn2 hs2=>?_
  obtain ⟨oD,esD,epD,hoD,hdD,hcD⟩:=hn2.count (PySem.Within.cons name v hw)
  refine wpAny_bind (wpAny_lookBehind hoD (by rw [hdD]; exact pastItsLine_dict (Nat.le_trans hcD (by rw [List.length_cons]; omega))) ?_)
  exact wpAny_pure (h _ ⟨(hs2.2 _ (Ne.symm I.ne)).trans I.obj,hn2,I.ne⟩ hs2)
theorem qC {R:Result→Shared→Prop} {vs:List Value} {kw:List (Str×Value)} (X:K.In s.heap) (hm:PySem.W.makesIn K C = true)
    (hi:PySem.W.findIn K (.ref C) "__init__" = some (some (.ref f))) (hf:PySem.W.typeIn K (.ref f) = some (.type "function"))
    (h:codeAny (model prog w) (A.under (.builtin "type.__call__" ⟨.ref C :: vs,kw⟩)) (.call (.ref f) ⟨.ref (s.heap.objs.size + 1) :: vs,kw⟩) (PySem.W.InitBack (s.heap.objs.size + 1) R)
      { s with heap:=(s.heap.push PySem.W.emptyDict).push (PySem.W.instObj C s.heap.objs.size) }) :
    codeAny (model prog w) A (.call (.ref C) ⟨vs,kw⟩) R s:=by
  obtain ⟨hh,g,d,t,os⟩:=s
  exact PySem.W.make_core (PySem.W.makes_of X hm) (PySem.W.looks_findIn X hi) (fun self=>PySem.W.bind_fn X self hf) (.inl rfl) h
end
def eK (f:Str) (v:V):List (Str×V)→List (Str×V)
  | []=>[(f,v)]
  | (g,x) :: r=>if g = f then (g,v) :: r else (g,x) :: eK f v r
theorem gw (f g:Str) (v:V):∀ fs:List (Str×V),(eK f v fs).lookup g = if g = f then some v else fs.lookup g
  | []=>by
    show List.lookup g [(f,v)] = _
    by_cases h:g = f
    · have hb:(g == f) = true:=beq_iff_eq.mpr h
      simp only [List.lookup,hb,if_pos h]
    · have hb:(g == f) = false:=beq_eq_false_iff_ne.mpr h
      simp only [List.lookup,hb,if_neg h]
  | (k,x) :: r=>by
    have ih:=gw f g v r
    rw [show eK f v ((k,x) :: r) = (if k = f then (k,v) :: r else (k,x) :: eK f v r) from rfl]
    by_cases hk:k = f
    · rw [if_pos hk]
      by_cases h:g = k
      · have hb:(g == k) = true:=beq_iff_eq.mpr h
        simp only [List.lookup,hb,if_pos (h.trans hk)]
      · have hb:(g == k) = false:=beq_eq_false_iff_ne.mpr h
        simp only [List.lookup,hb,if_neg (fun e:g = f=>h (e.trans hk.symm))]
    · rw [if_neg hk]
      by_cases h:g = k
      · have hb:(g == k) = true:=beq_iff_eq.mpr h
        simp only [List.lookup,hb,if_neg (fun e:g = f=>hk (h.symm.trans e))]
      · have hb:(g == k) = false:=beq_eq_false_iff_ne.mpr h
        simp only [List.lookup,hb]
        exact ih
theorem gp (f:Str) (v:V):∀ fs:List (Str×V),f ∈ (eK f v fs).map (·.1)∧∀ g,g ∈ fs.map (·.1)→g ∈ (eK f v fs).map (·.1)
  | []=>⟨by simp [eK],fun g h=>by simp at h⟩
  | (k,x) :: r=>by
    obtain ⟨i1,i2⟩:=gp f v r
    rw [show eK f v ((k,x) :: r) = (if k = f then (k,v) :: r else (k,x) :: eK f v r) from rfl]
    by_cases hk:k = f
    · rw [if_pos hk]
      subst hk
      exact ⟨by simp,fun g h=>by simpa using h⟩
    · rw [if_neg hk]
      refine ⟨?_,fun g h=>?_⟩
      · rw [List.map_cons]
        exact List.mem_cons_of_mem _ i1
      · rw [List.map_cons] at h ⊢
        rcases List.mem_cons.mp h with e | e
        · exact List.mem_cons.mpr (.inl e)
        · exact List.mem_cons_of_mem _ (i2 g e)
theorem gA (f:Str) (v:V):∀ fs:List (Str×V),(eK f v fs).length≤fs.length + 1
  | []=>by simp [eK]
  | (k,x) :: r=>by
    have ih:=gA f v r
    rw [show eK f v ((k,x) :: r) = (if k = f then (k,v) :: r else (k,x) :: eK f v r) from rfl]
    by_cases hk:k = f
    · rw [if_pos hk,List.length_cons,List.length_cons]; omega
    · rw [if_neg hk,List.length_cons,List.length_cons]; omega
theorem RelO.some_of {v:V} {o:Option Value} (r:RelO (some v) o):∃ u,o = some u∧RelV v u:=by
  cases o with
  | none=>exact (show False from r).elim
  | some u=>exact ⟨u,rfl,r⟩
theorem RelO.none_of {o:Option Value} (r:RelO none o):o = none:=by
  cases o with
  | none=>rfl
  | some u=>exact (show False from r).elim
theorem pB {v:V} {u:Value} (r:RelV v u):PySem.W.handedIn u = true:=by
  cases v with
  | non=>cases (show u = Value.none from r); rfl
  | bl b=>cases (show u = Value.bool b from r); rfl
  | int i=>obtain ⟨t,e⟩:=(show ∃ t,u = Value.int i t from r); cases e; rfl
  | str x=>obtain ⟨t,e⟩:=(show ∃ t,u = Value.str x t from r); cases e; rfl
  | byt b=>obtain ⟨t,e⟩:=(show ∃ t,u = Value.bytes b t from r); cases e; rfl
  | flt b=>obtain ⟨t,e⟩:=(show ∃ t,u = Value.float b t from r); cases e; rfl
  | ref a=>cases (show u = Value.ref a from r); rfl
  | ty n=>cases (show u = Value.type n from r); rfl
section
variable {P:Program} {w:World} {H H':Hp} {h h':Heap} {a C dx:Addr} {fs fs':List (Str×V)}
theorem gS (hok:HOk P w H h) (e:H a = some (.ins C dx fs)):∃ mA,ObjM h a dx C mA∧(∀ f,RelO (fs.lookup f) (mA f))∧PySem.Within mA (fs.map (·.1))∧fs.length≤1000∧H dx = some (.own a):=by
  obtain ⟨d,z,ne,ob,mA,n,r,q⟩:=(show ObjOk P w H h a (.ins C dx fs) from hok a _ e)
  exact ⟨mA,⟨ob,n,ne⟩,r,q,z,d⟩
end
structure Cls (K:PySem.W.Frag) (C:Addr):Prop where
  pg:PySem.W.plainGet K C Str.empty = true
  hd:PySem.W.hasDictIn K C = true
  po:PySem.W.plainOver K C = true
  sa:PySem.W.findIn K (.ref C) "__setattr__" = some (some (.builtin "object.__setattr__"))
theorem Cls.get {K:PySem.W.Frag} {C:Addr} (c:Cls K C) (f:Str):PySem.W.plainGet K C f = true:=c.pg
def NoAttr (K:PySem.W.Frag) (C:Addr) (f:Str):Prop:=PySem.W.findIn K (.ref C) f = some none
theorem NoAttr.taker {K:PySem.W.Frag} {C:Addr} {f:Str} (n:NoAttr K C f):PySem.W.takerIn K C f = some none:=by
  unfold PySem.W.takerIn
  rw [show PySem.W.findIn K (.ref C) f = some none from n]
  rfl
structure Con (K:PySem.W.Frag) (C:Addr) (f:Str) (v:V) (u:Value):Prop where
  at_:PySem.W.findIn K (.ref C) f = some (some u)
  rel:RelV v u
  get:PySem.W.specialIn K u "__get__" = some none
  cp:PySem.W.copiedNames.contains f = false
structure Meth (K:PySem.W.Frag) (C:Addr) (m:Str) (f:Addr):Prop where
  at_:PySem.W.findIn K (.ref C) m = some (some (.ref f))
  fn:PySem.W.isFn K (.ref f) = true
  kp:PySem.W.keepIn K (.ref f) = true
section
variable {X:Cx} {pins:List (Addr×Obj)} {σ:St} {H:Hp} {s:Shared} {a C dx:Addr} {fs:List (Str×V)} {f:Str} {v:V} {A:Around} {E:Value→Shared→Prop}
theorem lK {b:Bool} {Q:Value→Shared→Prop} (I:Inv X pins σ H s) (e:H a = some (.ins C dx fs)) (c:Cls X.K C) (n:NoAttr X.K C f) (l:fs.lookup f = some v)
    (h:∀ u s',Inv X pins σ H s'→RelV v u→Q u s'):wpAny (model X.prog X.w) A (getAttr (.ref a) f b) Q E s:=by
  obtain ⟨mA,O,r,_,_,_⟩:=gS I.hok e
  obtain ⟨u,hu,ru⟩:=RelO.some_of (v:=v) (o:=mA f) (by rw [← l]; exact r f)
  exact sD I.kIn O (c.get f) c.hd n hu (pB ru) (h u _ (I.tok _) ru)
theorem mE {m:Str} {g:Addr} {pl:Sem Bool} {Q:Value×List Value→Shared→Prop} (I:Inv X pins σ H s) (e:H a = some (.ins C dx fs)) (c:Cls X.K C) (k:Meth X.K C m g) (l:fs.lookup m = none)
    (h:Q (.ref g,[.ref a]) s):wpAny (model X.prog X.w) A (getMethod (.ref a) m pl) Q E s:=by
  obtain ⟨mA,O,r,_,_,_⟩:=gS I.hok e
  have hn:mA m = none:=RelO.none_of (by rw [← l]; exact r m)
  exact qz I.kIn O (c.get m) k.at_ k.fn hn h
theorem lQ {y:V} {u:Value} {Q:Unit→Shared→Prop} (I:Inv X pins σ H s) (e:H a = some (.ins C dx fs)) (c:Cls X.K C) (n:NoAttr X.K C f) (hl:fs.length < 1000) (ry:RelV y u)
    (h:∀ s',Inv X pins σ (upd H a (.ins C dx (eK f y fs))) s'→Q () s'):wpAny (model X.prog X.w) A (setAttr (.ref a) f u) Q E s:=by
  obtain ⟨mA,O,r,wi,_,ho⟩:=gS I.hok e
  have hz:(fs.map (·.1)).length≤sizeLine:=by rw [List.length_map,sizeLine_eq]; omega
  refine su I.kIn O c.sa c.po n.taker c.hd wi hz fun h' O' sb=>h _ ?_
  have hd:∃ o,h'.get? dx = some o:=let ⟨o,_,_,e',_⟩:=O'.ns; ⟨o,e'⟩
  refine I.write (x:=a) (e:=dx) (by rw [e]; exact True.intro) (.inr ho) (fun b q hb z=>(sb.2 b hb).trans z) hd ?_
  refine ⟨by rw [ai O.ne]; exact ho,?_,O.ne,O'.obj,_,O'.ns,fun g=>?_,fun g hg=>?_⟩
  · have:=gA f y fs; omega
  · show RelO ((eK f y fs).lookup g) (if g = f then some u else mA g)
    rw [gw]
    by_cases q:g = f
    · rw [if_pos q,if_pos q]; exact ry
    · rw [if_neg q,if_neg q]; exact r g
  · by_cases q:g = f
    · rw [q]; exact (gp f y fs).1
    · refine (gp f y fs).2 g (wi g fun z=>hg ?_)
      show (if g = f then some u else mA g) = none
      rw [if_neg q]; exact z
theorem Inv.made (I:Inv X pins σ H s):Inv X pins σ (upd (upd H s.heap.objs.size (.own (s.heap.objs.size + 1))) (s.heap.objs.size + 1) (.ins C s.heap.objs.size []))
    { s with heap:=(s.heap.push PySem.W.emptyDict).push (PySem.W.instObj C s.heap.objs.size) }:=by
  have e1:(s.heap.push PySem.W.emptyDict).get? s.heap.objs.size = some PySem.W.emptyDict:=Heap.get?_push_size s.heap rfl
  have e2:((s.heap.push PySem.W.emptyDict).push (PySem.W.instObj C s.heap.objs.size)).get? (s.heap.objs.size + 1) = some (PySem.W.instObj C s.heap.objs.size):=by
    have:=Heap.get?_push_size (s.heap.push PySem.W.emptyDict) (o:=PySem.W.instObj C s.heap.objs.size) rfl
    rwa [Heap.size_push] at this
  have e3:(s.heap.push PySem.W.emptyDict).Ns s.heap.objs.size (fun _=>none):=⟨PySem.W.emptyDict,#[],_,e1,rfl,(fun e he=>absurd he (by simp)),fun _=>rfl⟩
  have I1:=I.laid (a:=s.heap.objs.size) (o:=.own (s.heap.objs.size + 1)) (h':=s.heap.push PySem.W.emptyDict) (t':=s.toks) (fun b u q=>Heap.get?_push_of_some _ q) (Nat.le_refl _) ⟨_,e1⟩
  refine I1.laid (a:=s.heap.objs.size + 1) (o:=.ins C s.heap.objs.size []) (t':=s.toks) (fun b u q=>Heap.get?_push_of_some _ q) (Nat.le_of_eq (Heap.size_push _ _)) ?_
  have ne:s.heap.objs.size≠s.heap.objs.size + 1:=Nat.ne_of_lt (Nat.lt_succ_self _)
  refine ⟨by rw [ai ne,ad],Nat.zero_le _,ne,e2,fun _=>none,(Heap.Ns1.of_empty e3).at fun o q=>Heap.get?_push_of_some _ q,fun _=>True.intro,fun y hy=>absurd rfl hy⟩
theorem tz {prog:Program} {w:World} {env:Env} {e:Expr} {f:Str} {pos:Pos} {s:Shared} {Q:Value→Shared→Prop} (hb:attributeBase e f env (eval e env) = eval e env)
    (h:wpAny (model prog w) A (eval e env) (fun o s₁=>wpAny (model prog w) A (getAttr o f true) Q E s₁) E s):wpAny (model prog w) A (eval (.Attribute e f pos) env) Q E s :=
  Attribute_any_ h (by rw [arm_eval_Attribute,hb])
end
def yM (K:PySem.W.Frag) (ta:TE) (f:Str):TE:=fun σ H Q=>ta σ H fun x H1=>∃ a C dx fs v,x = .ref a∧H1 a = some (.ins C dx fs)∧Cls K C∧NoAttr K C f∧fs.lookup f = some v∧Q v H1
def AO (K:PySem.W.Frag) (ta:TE) (f:Str):TE:=fun σ H Q=>ta σ H fun x H1=>∃ a C dx fs v u,x = .ref a∧H1 a = some (.ins C dx fs)∧Cls K C∧Con K C f v u∧fs.lookup f = none∧Q v H1
def y7 (K:PySem.W.Frag) (ta tv:TE) (f:Str):TS:=fun D σ H=>tv σ H fun y H1=>ta σ H1 fun x H2=>∃ a C dx fs,x = .ref a∧H2 a = some (.ins C dx fs)∧Cls K C∧NoAttr K C f∧fs.length < 1000 ∧
  D.nx σ (upd H2 a (.ins C dx (eK f y fs)))
def AH (X:Cx) (op:Operator) (rd:V→V→Hp→VK→Prop):Prop :=
  ∀ (pins:List (Addr×Obj)) (s:Shared) (σ:St) (H:Hp) (x y:V) (u v:Value) (Q:VK),Inv X pins σ H s→RelV x u→RelV y v→rd x y H Q→wpAny (model X.prog X.w) X.A (inplaceOp op u v) (EP X pins σ Q) X.xe s
def yq (K:PySem.W.Frag) (ta tv:TE) (rd:V→V→Hp→VK→Prop) (f:Str):TS:=fun D σ H=>ta σ H fun x H1=>∃ a C dx fs v,x = .ref a∧H1 a = some (.ins C dx fs)∧Cls K C∧NoAttr K C f∧fs.lookup f = some v ∧
  tv σ H1 fun y H2=>rd v y H2 fun z H3=>∃ dx' fs',H3 a = some (.ins C dx' fs')∧fs'.length < 1000∧D.nx σ (upd H3 a (.ins C dx' (eK f z fs')))
section
variable {X:Cx} {o e value:Expr} {f:Str} {pos pos' tpos:Pos} {ta tv:TE}
theorem lJ (he:PE X e ta) (hb:attributeBase e f X.env (eval e X.env) = eval e X.env):PE X (.Attribute e f pos) (yM X.K ta f):=by
  intro pins s σ H Q I h
  refine tz hb (thn (he pins s σ H _ I h) fun u s1 ⟨x,H1,I1,rx,a,C,dx,fs,v,ex,ea,c,n,l,q⟩=>?_)
  subst ex
  obtain rfl:u = Value.ref a:=rx
  exact lK I1 ea c n l fun u' s2 I2 ru=>⟨v,H1,I2,ru,q⟩
theorem qc (ha:PE X o ta) (hv:PE X value tv) (hs:swapsWith value (some (.Attribute o f pos')) pos.line X.env = pure false):PS X (.Assign [.Attribute o f pos'] value pos) (y7 X.K ta tv f):=by
  intro pins s σ H D I h
  refine plainObj_wpAny_Assign_Attribute (thn (hv pins s σ H _ I h) fun u s1 ⟨y,H1,I1,ry,q⟩=>thn (ha pins s1 σ H1 _ I1 q) fun ov s2 ⟨x,H2,I2,rx,a,C,dx,fs,ex,ea,c,n,l,q2⟩=>?_) hs
  subst ex
  obtain rfl:ov = Value.ref a:=rx
  exact lQ I2 ea c n l ry fun s3 I3=>⟨σ,_,I3,q2⟩
def AY:V→V→Hp→VK→Prop:=fun x y H Q=>∃ i j,x = .int i∧y = .int j∧Q (.int (i + j)) H
def Ay:V→V→Hp→VK→Prop:=fun x y H Q=>∃ i j,x = .int i∧y = .int j∧Q (.int (i - j)) H
end
section
variable {X:Cx} {pins:List (Addr×Obj)} {σ:St} {H:Hp} {s:Shared} {A:Around} {E:Value→Shared→Prop} {Q:Value→Shared→Prop} {c:Value} {b:Bool}
inductive TyOf (K:PySem.W.Frag) (H:Hp):V→Value→Prop where
  | non:TyOf K H .non (.type "NoneType")
  | bl (x:Bool):TyOf K H (.bl x) (.type "bool")
  | int (i:Int):TyOf K H (.int i) (.type "int")
  | str (x:Str):TyOf K H (.str x) (.type "str")
  | flt (x:UInt64):TyOf K H (.flt x) (.type "float")
  | lst {a:Addr} {xs:List V} (e:H a = some (.lst xs)):TyOf K H (.ref a) (.type "list")
  | frz {a:Addr} {o:Obj} {xs:List V} (e:H a = some (.frz o (.lst xs))):TyOf K H (.ref a) (.type "list")
  | tup {a:Addr} {xs:List V} (e:H a = some (.tup xs)):TyOf K H (.ref a) (.type "tuple")
  | dK {a:Addr} {kvs:List (Key×V)} (e:H a = some (.dK kvs)):TyOf K H (.ref a) (.type "dict")
  | dT {a:Addr} {kvs:List (List Key×V)} (e:H a = some (.dT kvs)):TyOf K H (.ref a) (.type "dict")
  | ins {a C dx:Addr} {fs:List (Str×V)} (e:H a = some (.ins C dx fs)) (cl:Cls K C) (ha:PySem.W.findIn K (.ref C) "__class__" = some (some (.builtin "object.__class__")))
      (hn:PySem.W.specialIn K (.builtin "object.__class__") "__get__" = some (some (.builtin "getset_descriptor.__get__"))) (htk:PySem.W.takesIn K (.builtin "object.__class__") = some true)
      (hm:PySem.W.mroIn K C (.type "object") = some true):TyOf K H (.ref a) (.ref C)
end
end L2
namespace L2
open PySem PySem.Spec PyProof.Rows
structure Room (k:Nat) (A:Around):Prop where
  hd:A.handled = none
  dp:A.depth + 3 * k + 5 < recursionLimit
  un:A.units + 16 * k + 200 < cLine
theorem Room.mono {j k:Nat} {A:Around} (r:Room k A) (h:j≤k):Room j A:=⟨r.hd,by have:=r.dp; omega,by have:=r.un; omega⟩
theorem Room.deeper {k:Nat} {A:Around} (r:Room (k + 1) A) (env:Env):Room k (A.deeper env) :=
  ⟨r.hd,by have:=r.dp; show A.depth + 1 + 3 * k + 5 < _; omega,by have:=r.un; show A.units + 3 + 16 * k + 200 < _; omega⟩
theorem lN {A:Around} {C:Addr} {us:List Value} {kw:List (Str×Value)}:(A.under (.builtin "type.__call__" ⟨.ref C :: us,kw⟩)).depth = A.depth + 1:=by
  first | rfl | simp [Around.under,Code.weight,Code.isCreation,Code.isGuard,Code.isCaller,Code.frames,Code.isFrame,guardIds]
theorem mh {A:Around} {C:Addr} {us:List Value} {kw:List (Str×Value)}:(A.under (.builtin "type.__call__" ⟨.ref C :: us,kw⟩)).units = A.units + 1:=by
  first | rfl | simp [Around.under,Code.cUnits,Code.frames,Code.isFrame]
theorem Room.make {k:Nat} {A:Around} (r:Room (k + 1) A) (C:Addr) (us:List Value) (kw:List (Str×Value)):Room k (A.under (.builtin "type.__call__" ⟨.ref C :: us,kw⟩)) :=
  ⟨r.hd,by have:=r.dp; rw [lN]; omega,by have:=r.un; rw [mh]; omega⟩
theorem Room.depth {k:Nat} {A:Around} (r:Room k A):A.depth < recursionLimit:=by have:=r.dp; omega
theorem Room.units {k:Nat} {A:Around} (r:Room k A):A.units + 64 < cLine:=by have:=r.un; omega
def v4:TA:=fun _ H Q=>Q [] H
def wY (ta:TE) (tr:TA):TA:=fun σ H Q=>ta σ H fun x H1=>tr σ H1 fun xs H2=>Q (x :: xs) H2
section
variable {X:Cx} {e:Expr} {es:List Expr} {te:TE} {t:TA} {pos:Pos}
theorem ae:PA X [] v4:=fun _ _ _ _ H Q I h=>Calls.spliced_nil ⟨[],H,I,.nil,h⟩
theorem aa (ha:PE X e te) (hr:PA X es t) (hs:starEach (e :: es) X.env = (false,eval e X.env) :: starEach es X.env:=by rfl):PA X (e :: es) (wY te t):=by
  intro pos pins s σ H Q I h
  rw [hs]
  show wpAny _ _ (spliced ((false,eval e X.env) :: backTo pos (starEach es X.env))) _ _ s
  refine Calls.spliced_cons (thn (ha pins s σ H _ I h) fun u s1 ⟨x,H1,I1,r1,q1⟩=>?_)
  exact thn (hr pos pins s1 σ H1 _ I1 q1) fun us s2 ⟨xs,H2,I2,r2,q2⟩=>⟨x :: xs,H2,I2,.cons r1 r2,q2⟩
def zE (t:TA):TE:=fun σ H Q=>t σ H fun xs H1=>xs.length≤sizeLine∧∀ p,H1 p = none→Q (.ref p) (upd H1 p (.tup xs))
def yL (t:TA):TE:=fun σ H Q=>t σ H fun xs H1=>xs.length≤sizeLine∧∀ p,H1 p = none→Q (.ref p) (upd H1 p (.lst xs))
theorem aS {x1} (h:PA X es t):PE X (.Tuple es x1 pos) (zE t):=by
  intro pins s σ H Q I hq
  refine wpAny_Tuple_spliced (thn (h pos pins s σ H _ I hq) fun us s1 ⟨xs,H1,I1,r,z,q⟩=>⟨by rw [← r.length]; exact z,?_⟩)
  have hf:H1 s1.heap.objs.size = none:=I1.hok.fresh (Nat.le_refl _)
  refine ⟨.ref s1.heap.objs.size,upd H1 s1.heap.objs.size (.tup xs),I1.laid (t':=s1.toks) (fun b u e=>Heap.get?_push_of_some _ e) (Nat.le_refl _) ?_,rfl,q _ hf⟩
  exact ⟨z,us,r,⟨_,Heap.get?_push_size _ rfl,rfl,_,rfl⟩⟩
theorem bO (h:PA X es t):PE X (.List es pos) (yL t):=by
  intro pins s σ H Q I hq
  refine wpAny_List_spliced (thn (h pos pins s σ H _ I hq) fun us s1 ⟨xs,H1,I1,r,z,q⟩=>⟨by rw [← r.length]; exact z,?_⟩)
  have hf:H1 s1.heap.objs.size = none:=I1.hok.fresh (Nat.le_refl _)
  refine ⟨.ref s1.heap.objs.size,upd H1 s1.heap.objs.size (.lst xs),I1.laid (t':=s1.toks) (fun b u e=>Heap.get?_push_of_some _ e) (Nat.le_refl _) ?_,rfl,q _ hf⟩
  exact ⟨z,us,0,r,Heap.get?_push_size _ rfl⟩
end
abbrev Sp:=List V→Hp→VK→XK→Prop
abbrev CXT:=List Env→Hp→Shared→XK→Value→Shared→Prop
structure Env0 (P:Program) (w:World) (K:PySem.W.Frag) (mg:Str→Option Value) (base:Heap) (A:Around) (outer:List Env) (s:Shared) (H:Hp):Prop where
  frames:A.frames = some outer
  mod:Mod K mg base
  bs:∀ b o,base.get? b = some o→s.heap.get? b = some o∧H b = none
  bsz:base.objs.size≤s.heap.objs.size
  funs:s.heap.FunFrames base outer
  frf:∀ b ∈ frs outer,H b = none
  hok:HOk P w H s.heap
  bare:AllBare s.gens
def CE (outer:List Env) (P:Program) (w:World) (H:Hp) (s:Shared) (Q:VK) (u:Value) (s':Shared):Prop :=
  ∃ v H',s'.os = s.os∧AllBare s'.gens∧Un (frs outer) [] H H' s.heap s'.heap∧HOk P w H' s'.heap∧RelV v u∧Q v H'
def CR (CX:CXT) (outer:List Env) (P:Program) (w:World) (H:Hp) (s:Shared) (Q:VK) (E:XK) (r:Result) (s':Shared):Prop :=
  match r with
  | .ok (.ret u)=>CE outer P w H s Q u s'
  | .ok _=>False
  | .error e=>CX outer H s E e s'
structure FnOk (P:Program) (w:World) (K:PySem.W.Frag) (mg:Str→Option Value) (base:Heap) (CX:CXT) (k:Nat) (f:Addr) (fd:FuncData) (ps:List Str) (sp:Sp):Prop where
  len:∀ vs H Q E,sp vs H Q E→vs.length = ps.length
  run:∀ (A:Around) (outer:List Env) (s:Shared) (H:Hp) (args:Args) (us:List Value) (vs:List V) (Q:VK) (E:XK),Room k A→Env0 P w K mg base A outer s H→BindsTo s fd args (ps.zip us)→Vals vs us→sp vs H Q E →
    codeAny (model P w) A (.call (.ref f) args) (CR CX outer P w H s Q E) s
theorem FnOk.mono {P:Program} {w:World} {K:PySem.W.Frag} {mg:Str→Option Value} {base:Heap} {CX:CXT} {j k:Nat} {f:Addr} {fd:FuncData} {ps:List Str} {sp:Sp} (F:FnOk P w K mg base CX j f fd ps sp) (h:j≤k) :
    FnOk P w K mg base CX k f fd ps sp:=⟨F.len,fun A outer s H args us vs Q E hr=>F.run A outer s H args us vs Q E (hr.mono h)⟩
theorem Env0.make {P:Program} {w:World} {K:PySem.W.Frag} {mg:Str→Option Value} {base:Heap} {A:Around} {outer:List Env} {s:Shared} {H:Hp} (e:Env0 P w K mg base A outer s H) (C:Addr) (us:List Value) (kw:List (Str×Value)) :
    Env0 P w K mg base (A.under (.builtin "type.__call__" ⟨.ref C :: us,kw⟩)) outer s H:=⟨by first | exact e.frames | (simpa [Around.under,Code.envs,Code.isFrame,pushEnvs] using e.frames),e.mod,e.bs,e.bsz,e.funs,e.frf,e.hok,e.bare⟩
section
variable {X:Cx} {pins:List (Addr×Obj)} {σ:St} {H:Hp} {s s':Shared}
theorem Inv.env0 (I:Inv X pins σ H s):Env0 X.prog X.w X.K X.mg X.base X.A X.stack s H :=
  ⟨I.ok.frames,I.ok.mod,I.bs,Nat.le_trans I.ok.bsz I.sz,I.stack,I.stkFree,I.hok,I.bare⟩
theorem Inv.after {Q:VK} {u:Value} (I:Inv X pins σ H s) (h:CE X.stack X.prog X.w H s Q u s'):EP X pins σ Q u s':=by
  obtain ⟨v,H',os,bare,un,hok,r,q⟩:=h
  obtain ⟨hh,g,d,t,os'⟩:=s'
  obtain rfl:os' = s.os:=os
  exact ⟨v,H',I.call (h':=hh) (g':=g) (d':=d) (t':=t) (ch:=[]) un hok bare (fun b z=>absurd z (by simp)),r,q⟩
end
def xy (sp:Sp) (dvs:List V) (E:XK) (t:TA):TE:=fun σ H Q=>t σ H fun vs H1=>sp (vs ++ dvs) H1 Q E
def wG (C:Addr) (m:Str) (sp:Sp) (dvs:List V) (E:XK) (ta:TE) (t:TA):TE:=fun σ H Q=>ta σ H fun x H1=>∃ a dx fs,x = .ref a∧H1 a = some (.ins C dx fs)∧fs.lookup m = none ∧
  t σ H1 fun vs H2=>sp (x :: (vs ++ dvs)) H2 Q E
def yh (C:Addr) (sp:Sp) (dvs:List V) (E:XK) (t:TA):TE:=fun σ H Q=>t σ H fun vs H1=>∀ x dx,H1 x = none→H1 dx = none→dx≠x →
  sp (.ref x :: (vs ++ dvs)) (upd (upd H1 dx (.own x)) x (.ins C dx [])) (fun v H2=>v = .non∧Q (.ref x) H2) E
def Binds (K:PySem.W.Frag) (fd:FuncData) (ps:List Str) (ds:List Value):Prop :=
  ∀ (s:Shared) (us:List Value),K.In s.heap→(us ++ ds).length = ps.length→BindsTo s fd ⟨us,[]⟩ (ps.zip (us ++ ds))
theorem Binds.all {K:PySem.W.Frag} {fd:FuncData} {ps:List Str} (h:∀ us:List Value,us.length = ps.length→bindArgs fd ⟨us,[]⟩ = pure (ps.zip us)):Binds K fd ps []:=fun s us _ hl=>by
  rw [List.append_nil] at hl ⊢
  exact .of_eq (h us hl)
def gr (CX:CXT) (X:Cx) (E:XK):Prop:=∀ (pins:List (Addr×Obj)) (σ:St) (H:Hp) (s:Shared) (e:Value) (s':Shared),Inv X pins σ H s→CX X.stack H s E e s'→X.xe e s'
section
variable {X:Cx} {CX:CXT} {k:Nat} {f C:Addr} {fd:FuncData} {ps:List Str} {sp:Sp} {dvs:List V} {ds:List Value} {E:XK} {x m:Str} {p pos apos:Pos} {e o:Expr} {es:List Expr} {ta:TE} {t:TA}
theorem qy {pins:List (Addr×Obj)} {σ:St} {H:Hp} {s:Shared} {Q:VK} {us:List Value} {vs:List V} (F:FnOk X.prog X.w X.K X.mg X.base CX k f fd ps sp) (hr:Room k X.A) (hb:Binds X.K fd ps ds) (hd:Vals dvs ds) (hx:gr CX X E)
    (I:Inv X pins σ H s) (r:Vals vs us) (h:sp (vs ++ dvs) H Q E):wpAny (model X.prog X.w) X.A (call (.ref f) us) (EP X pins σ Q) X.xe s:=by
  have r2:Vals (vs ++ dvs) (us ++ ds):=r.append hd
  have hl:(us ++ ds).length = ps.length:=by rw [← r2.length]; exact F.len _ _ _ _ h
  refine wpAny_call (codeAny_mono (F.run X.A X.stack s H ⟨us,[]⟩ (us ++ ds) (vs ++ dvs) Q E hr I.env0 (hb s us I.kIn hl) r2 h) fun r s' hq=>?_)
  cases r with
  | error e=>exact hx pins σ H s e s' I hq
  | ok fl =>
    cases fl with
    | ret u=>exact I.after hq
    | next=>exact False.elim hq
    | brk=>exact False.elim hq
    | cont=>exact False.elim hq
theorem ao (F:FnOk X.prog X.w X.K X.mg X.base CX k f fd ps sp) (hr:Room k X.A) (hg:Gl X x) (hm:X.mg x = some (.ref f)) (hk:PySem.W.keepIn X.K (.ref f) = true) (hb:Binds X.K fd ps ds) (hd:Vals dvs ds) (hx:gr CX X E)
    (ha:PA X (e :: es) t) (hdb:(x == ("__debug__" : Str)) = false:=by decide) (he:starEach (e :: es) X.env = (false,eval e X.env) :: starEach es X.env:=by rfl) (hpl:(backTo pos (starEach es X.env)).any (·.1) = false:=by rfl) :
    PE X (.Call (.Name x p) (e :: es) [] pos) (xy sp dvs E t):=by
  intro pins s σ H Q I h
  refine wpAny_Call_Name_kw (gN I hg hm ?_ hdb)
  refine PySem.W.callWith_K (h₀:=X.base) I.ok.mod.kin hk (thn (ha pos pins s σ H _ I h) fun us s1 ⟨vs,H1,I1,r,q⟩=>⟨I1.kIn,?_⟩) he hpl
  exact qy F hr hb hd hx I1 r q
theorem bQ {pl:Sem Bool} (he:PE X o ta) (c:Cls X.K C) (hm:Meth X.K C m f) (F:FnOk X.prog X.w X.K X.mg X.base CX k f fd ps sp) (hr:Room k X.A) (hb:Binds X.K fd ps ds) (hd:Vals dvs ds) (hx:gr CX X E)
    (ht:eval (.Call (.Attribute o m apos) [] [] pos) X.env = (do
      let ov ← eval o X.env
      standAt apos.atName
      let (f,first) ← holding [ov] (getMethod ov m pl)
      callWith pos f first (backTo pos (starEach [] X.env)) (backToKw pos (keywordEach [] X.env))):=by rfl) :
    PE X (.Call (.Attribute o m apos) [] [] pos) (wG C m sp dvs E ta v4):=by
  intro pins s σ H Q I h
  refine PySem.W.methodCall_KW (pl:=pl) (thn (he pins s σ H _ I h) fun u s1 ⟨x,H1,I1,rx,a,dx,fs,ex,ea,l,q⟩=>?_) ht
  subst ex
  obtain rfl:u = Value.ref a:=rx
  refine mE I1 ea c hm l ?_
  exact PySem.W.callWith_K0 (first:=[.ref a]) I1.kIn hm.kp (qy (us:=[.ref a]) (vs:=[.ref a]) F hr hb hd hx I1 (.cons rfl .nil) q)
structure Mk (K:PySem.W.Frag) (C f:Addr):Prop where
  makes:PySem.W.makesIn K C = true
  init:PySem.W.findIn K (.ref C) "__init__" = some (some (.ref f))
  fn:PySem.W.isFn K (.ref f) = true
  kp:PySem.W.keepIn K (.ref C) = true
theorem rK {pins:List (Addr×Obj)} {σ:St} {H:Hp} {s:Shared} {Q:VK} {us:List Value} {vs:List V} (M:Mk X.K C f) (F:FnOk X.prog X.w X.K X.mg X.base CX k f fd ps sp) (hr:Room (k + 1) X.A) (hb:Binds X.K fd ps ds) (hd:Vals dvs ds)
    (hx:gr CX X E) (I:Inv X pins σ H s) (r:Vals vs us)
    (h:∀ x dx,H x = none→H dx = none→dx≠x→sp (.ref x :: (vs ++ dvs)) (upd (upd H dx (.own x)) x (.ins C dx [])) (fun v H2=>v = .non∧Q (.ref x) H2) E) :
    wpAny (model X.prog X.w) X.A (call (.ref C) us) (EP X pins σ Q) X.xe s:=by
  have hq:=h (s.heap.objs.size + 1) s.heap.objs.size (I.hok.fresh (Nat.le_succ _)) (I.hok.fresh (Nat.le_refl _)) (Nat.ne_of_lt (Nat.lt_succ_self _))
  have I2:=Inv.made (C:=C) I
  have r2:Vals (V.ref (s.heap.objs.size + 1) :: (vs ++ dvs)) (Value.ref (s.heap.objs.size + 1) :: (us ++ ds)):=.cons rfl (r.append hd)
  have hl:(Value.ref (s.heap.objs.size + 1) :: us ++ ds).length = ps.length:=by
    have e:=r2.length
    rw [F.len _ _ _ _ hq] at e
    exact e.symm
  refine wpAny_call (qC (f:=f) I.kIn M.makes M.init (beq_iff_eq.mp M.fn) (codeAny_mono (F.run _ X.stack _ _ ⟨Value.ref (s.heap.objs.size + 1) :: us,[]⟩ (Value.ref (s.heap.objs.size + 1) :: (us ++ ds)) _ _ E (hr.make C us [])
    (I2.env0.make C us []) (hb _ (Value.ref (s.heap.objs.size + 1) :: us) I2.kIn hl) r2 hq) fun r s' hq'=>?_))
  cases r with
  | error e=>exact hx pins σ _ _ e s' I2 hq'
  | ok fl =>
    cases fl with
    | ret u =>
      obtain ⟨v,H',I3,rv,ev,q3⟩:=I2.after hq'
      subst ev
      exact ⟨rv,⟨V.ref (s.heap.objs.size + 1),H',I3,rfl,q3⟩⟩
    | next=>exact False.elim hq'
    | brk=>exact False.elim hq'
    | cont=>exact False.elim hq'
theorem fY (M:Mk X.K C f) (F:FnOk X.prog X.w X.K X.mg X.base CX k f fd ps sp) (hr:Room (k + 1) X.A) (hg:Gl X x) (hm:X.mg x = some (.ref C)) (hb:Binds X.K fd ps ds) (hd:Vals dvs ds) (hx:gr CX X E)
    (ha:PA X (e :: es) t) (hdb:(x == ("__debug__" : Str)) = false:=by decide) (he:starEach (e :: es) X.env = (false,eval e X.env) :: starEach es X.env:=by rfl) (hpl:(backTo pos (starEach es X.env)).any (·.1) = false:=by rfl) :
    PE X (.Call (.Name x p) (e :: es) [] pos) (yh C sp dvs E t):=by
  intro pins s σ H Q I h
  refine wpAny_Call_Name_kw (gN I hg hm ?_ hdb)
  refine PySem.W.callWith_K (h₀:=X.base) I.ok.mod.kin M.kp (thn (ha pos pins s σ H _ I h) fun us s1 ⟨vs,H1,I1,r,q⟩=>⟨I1.kIn,?_⟩) he hpl
  exact rK M F hr hb hd hx I1 r q
end
def PK (X:Cx) (kws:List Keyword) (t:TA):Prop :=
  ∀ (pos:Pos) (pins:List (Addr×Obj)) (s:Shared) (σ:St) (H:Hp) (Q:List V→Hp→Prop),Inv X pins σ H s→t σ H Q→wpAny (model X.prog X.w) X.A (evalAll ((backToKw pos (keywordEach kws X.env)).map (·.2))) (AP X pins σ Q) X.xe s
section
variable {X:Cx} {CX:CXT} {k:Nat} {f C:Addr} {fd:FuncData} {ps ks:List Str} {sp:Sp} {E:XK} {x m:Str} {p pos apos kpos:Pos} {e o:Expr} {es:List Expr} {kws:List Keyword} {te ta:TE} {t tk:TA} {nm:Option Str}
structure KBinds (K:PySem.W.Frag) (fd:FuncData) (ps ks:List Str) (g:List Value→List Value→List Value) (gV:List V→List V→List V):Prop where
  to:∀ (s:Shared) (us ws:List Value),K.In s.heap→(g us ws).length = ps.length→BindsTo s fd ⟨us,ks.zip ws⟩ (ps.zip (g us ws))
  rel:∀ {vs:List V} {us:List Value} {zs:List V} {ws:List Value},Vals vs us→Vals zs ws→Vals (gV vs zs) (g us ws)
def ze (sp:Sp) (gV:List V→List V→List V) (E:XK) (t tk:TA):TE:=fun σ H Q=>t σ H fun vs H1=>tk σ H1 fun zs H2=>sp (gV vs zs) H2 Q E
variable {g:List Value→List Value→List Value} {gV:List V→List V→List V}
end
structure FnScope (N P:List Str) (sc:Scope):Prop where
  kind:sc.kind = .function
  co:sc.isCoroutine = false
  gen:sc.isGenerator = false
  nd:N.Nodup
  pre:N.take P.length = P
  par:∀ x ∈ P,sc.names.lookup x = some .local∨sc.names.lookup x = some .cell
  nofree:∀ y ∈ sc.names,y.2≠.free
theorem ji {kindOf:Str→Option NameKind} {x:Str}:∀ {binds:List (Str×Value)} {m:Str→Option Value},(∀ v,(x,v) ∉ binds)→bindL kindOf binds m x = m x
  | [],_,_=>rfl
  | (n,v) :: r,m,h=>by
    unfold bindL
    rw [ji fun w hw=>h w (List.mem_cons_of_mem _ hw)]
    split
    · have:x≠n:=by rintro rfl; exact h v List.mem_cons_self
      simp [this]
    · rfl
theorem ja {kindOf:Str→Option NameKind} {x:Str}:∀ {binds:List (Str×Value)} {m:Str→Option Value},(∀ v,(x,v) ∉ binds)→bindC kindOf binds m x = m x
  | [],_,_=>rfl
  | (n,v) :: r,m,h=>by
    unfold bindC
    rw [ja fun w hw=>h w (List.mem_cons_of_mem _ hw)]
    split
    · rfl
    · have:x≠n:=by rintro rfl; exact h v List.mem_cons_self
      simp [this]
theorem jd {kindOf:Str→Option NameKind} {x:Str} {v:Value}:∀ {P:List Str} {vs:List Value} {i:Nat} {m:Str→Option Value},P.Nodup→P[i]? = some x→vs[i]? = some v→kindOf x = some .local →
    bindL kindOf (P.zip vs) m x = some v
  | [],_,_,_,_,h,_,_=>by simp at h
  | _ :: _,[],_,_,_,_,h,_=>by simp at h
  | p :: P,w :: vs,0,m,nd,h1,h2,hk=>by
    simp at h1 h2; subst h1; subst h2
    show bindL kindOf ((p,w) :: P.zip vs) m p = _
    unfold bindL
    rw [ji fun v hv=>(List.nodup_cons.mp nd).1 (List.of_mem_zip hv).1,if_pos hk]
    simp
  | p :: P,w :: vs,i + 1,m,nd,h1,h2,hk=>by
    show bindL kindOf ((p,w) :: P.zip vs) m x = _
    unfold bindL
    exact jd (i:=i) (List.nodup_cons.mp nd).2 (by simpa using h1) (by simpa using h2) hk
theorem iZ {kindOf:Str→Option NameKind} {x:Str} {v:Value}:∀ {P:List Str} {vs:List Value} {i:Nat} {m:Str→Option Value},P.Nodup→P[i]? = some x→vs[i]? = some v→kindOf x≠some .local →
    bindC kindOf (P.zip vs) m x = some v
  | [],_,_,_,_,h,_,_=>by simp at h
  | _ :: _,[],_,_,_,_,h,_=>by simp at h
  | p :: P,w :: vs,0,m,nd,h1,h2,hk=>by
    simp at h1 h2; subst h1; subst h2
    show bindC kindOf ((p,w) :: P.zip vs) m p = _
    unfold bindC
    rw [ja fun v hv=>(List.nodup_cons.mp nd).1 (List.of_mem_zip hv).1,if_neg hk]
    simp
  | p :: P,w :: vs,i + 1,m,nd,h1,h2,hk=>by
    show bindC kindOf ((p,w) :: P.zip vs) m x = _
    unfold bindC
    exact iZ (i:=i) (List.nodup_cons.mp nd).2 (by simpa using h1) (by simpa using h2) hk
def start (N:List Str) (vs:List V):St:=vs.map some ++ List.replicate (N.length - vs.length) none
def dy (CX:CXT) (P:Program) (w:World) (K:PySem.W.Frag) (mg:Str→Option Value) (base:Heap) (N:List Str) (qual:Str) (scope:Scope) (f:Addr) (cd:Value) (A:Around) (outer:List Env) (s:Shared) (H:Hp) (E:XK):Cx where
  prog:=P
  w:=w
  K:=K
  mg:=mg
  base:=base
  A:=A.deeper (envOfC qual scope s.heap.objs.size f cd)
  N:=N
  s₀:=s
  H₀:=H
  env:=envOfC qual scope s.heap.objs.size f cd
  outer:=outer
  stack:=envOfC qual scope s.heap.objs.size f cd :: outer
  ex:=[]
  calm:=true
  fn:=fun _=>true
  pn:=[]
  xe:=fun e s'=>wpAny (model P w) (A.deeper (envOfC qual scope s.heap.objs.size f cd)) (leaving (envOfC qual scope s.heap.objs.size f cd) e) (fun _ s''=>CX outer H s E e s'') (fun e' s''=>CX outer H s E e' s'') s'
theorem lA {sc:Scope} {n:Nat} {x:Str} (h:sc.names.lookup x = some .cell):∃ c,(cellsFrom n sc.names []).lookup x = some c:=by
  have q:=PySem.W.cellsFrom_some sc.names n [] (.inl h)
  exact Option.isSome_iff_exists.mp q
theorem i9 {CX:CXT} {P:Program} {w:World} {K:PySem.W.Frag} {mg:Str→Option Value} {base:Heap} {N ps:List Str} {qual:Str} {scope:Scope} {f:Addr} {cd:Value} {A:Around} {outer:List Env} {s s1:Shared} {H:Hp} {E:XK} {us:List Value} {vs:List V}
    (S:FnScope N ps scope) (hd:A.handled = none) (e0:Env0 P w K mg base A outer s H) (hl:vs.length = ps.length) (r:Vals vs us)
    (x:InCallC s s.heap.objs.size (bindL (envOfC qual scope s.heap.objs.size f cd).kindOf (ps.zip us) fun _=>none) (cellsFrom (s.heap.objs.size + 1) scope.names []) (bindC (envOfC qual scope s.heap.objs.size f cd).kindOf (ps.zip us) fun _=>none) s1) :
    Inv (dy CX P w K mg base N qual scope f cd A outer s H E) [] (start N vs) H s1:=by
  have hpl:ps.length≤N.length:=by have:=congrArg List.length S.pre; rw [List.length_take] at this; omega
  obtain ⟨h1,tk,rfl,hk⟩:=x.done
  have noA:∀ b:Addr,b ∉ (dy CX P w K mg base N qual scope f cd A outer s H E).ex:=fun b z=>absurd (show b ∈ ([]:List Addr) from z) (by simp)
  refine ⟨⟨e0.mod,S.kind,rfl,rfl,Nat.le_refl _,fun y z c h1 h2=>?_,fun y hy=>?_,fun y c _ h=>?_,fun _=>hd,Around.frames_deeper e0.frames,.inr ⟨rfl,rfl⟩,fun b z=>absurd z (noA b),e0.bs,e0.bsz,fun b _ _=>noA b,fun b z=>absurd z (noA b),e0.funs,e0.frf⟩,
    rfl,e0.bare,Un.kept hk,⟨_,x.toInCall.ns,fun i y v h1 h2 h3=>?_⟩,fun y c h=>⟨_,x.cell y c h⟩,e0.hok.fresh (Nat.le_refl _),fun y c h=>?_,fun p hp=>absurd (show p ∈ ([]:List (Addr×Obj)) from hp) (by simp),e0.hok.kept hk,?_⟩
  · exact name_of_addr x.apart (PySem.mem_of_lookup h1) (PySem.mem_of_lookup h2)
  · have hy:scope.names.lookup y = some .cell∨scope.names.lookup y = some .free:=hy
    rcases hy with hy | hy
    · exact lA hy
    · exact absurd rfl (S.nofree _ (PySem.mem_of_lookup hy))
  · exact Nat.le_of_lt (x.above y c (PySem.mem_of_lookup h))
  · have hi:i < vs.length:=by
      unfold start at h2
      by_cases hi:i < vs.length
      · exact hi
      · rw [List.getElem?_append_right (by simpa using hi)] at h2
        rw [List.getElem?_replicate] at h2
        split at h2 <;> cases h2
    have ha:vs[i]? = some v:=by
      unfold start at h2
      rw [List.getElem?_append_left (by simpa using hi),List.getElem?_map] at h2
      cases e:vs[i]? with
      | none=>rw [e] at h2; cases h2
      | some a=>rw [e] at h2; cases h2; rfl
    obtain ⟨u,hu,rv⟩:=r.get ha
    have hp:ps[i]? = some y:=by
      rw [← S.pre,List.getElem?_take_of_lt (by omega)]; exact h1
    have ndP:ps.Nodup:=by rw [← S.pre]; exact S.nd.sublist (List.take_sublist _ _)
    refine ⟨u,rv,?_⟩
    rcases S.par y (List.mem_of_getElem? hp) with k | k
    · exact .inl ⟨k,jd ndP hp hu k⟩
    · obtain ⟨c,e⟩:=lA (n:=s.heap.objs.size + 1) k
      refine .inr ⟨.inl k,c,e,?_⟩
      have q:=x.cell y c e
      rw [iZ ndP hp hu (by show scope.names.lookup y≠_; rw [k]; decide)] at q
      exact q
  · exact e0.hok.fresh (Nat.le_of_lt (x.above y c (PySem.mem_of_lookup h)))
  · unfold start
    show _ = N.length
    rw [List.length_append,List.length_map,List.length_replicate]
    omega
theorem xD {CX:CXT} {P:Program} {w:World} {K:PySem.W.Frag} {mg:Str→Option Value} {base:Heap} {k:Nat} {f:Addr} {name qual:Str} {params:Arguments} {body:List Stmt} {scope:Scope} {dV kV doc pm cdv ct oc:Value} {an od:Option Addr}
    {osl:Array (Option Value)} {N ps:List Str} {sp:Sp} (lk:K.lookup f = some ⟨oc,od,.func (PySem.W.fnOf name qual params body scope dV kV doc pm an cdv ct),osl⟩) (hcd:PySem.W.codeIn K cdv qual = true) (S:FnScope N ps scope)
    (len:∀ vs H Q E,sp vs H Q E→vs.length = ps.length)
    (hbody:∀ (A:Around) (outer:List Env) (s:Shared) (H:Hp) (vs:List V) (Q:VK) (E:XK),Room k (A.deeper (envOfC qual scope s.heap.objs.size f cdv))→sp vs H Q E →
      ∃ t,PSs (dy CX P w K mg base N qual scope f cdv A outer s H E) body t∧t { nx:=fun _ H'=>Q .non H',rt:=Q } (start N vs) H) :
    FnOk P w K mg base CX (k + 1) f (PySem.W.fnOf name qual params body scope dV kV doc pm an cdv ct) ps sp:=by
  refine ⟨len,fun A outer s H args us vs Q E hr e0 hb r hsp=>?_⟩
  have hl:=len _ _ _ _ hsp
  have KX:K.In s.heap:=e0.mod.kin.keeps fun b o e=>(e0.bs b o e).1
  have lim:s.heap.NoLimit:=e0.mod.nolimit.keeps fun b o e=>(e0.bs b o e).1
  have hkind:∀ y ∈ ps.zip us,scope.names.lookup y.1 = some .local∨(scope.names.lookup y.1 = some .cell∧((cellsFrom (s.heap.objs.size + 1) scope.names []).lookup y.1).isSome = true):=fun ⟨n,v⟩ hy=>by
    rcases S.par n (List.of_mem_zip hy).1 with q | q
    · exact .inl q
    · exact .inr ⟨q,PySem.W.cellsFrom_some _ _ _ (.inl q)⟩
  refine codeAny_call_function hr.depth (KX _ _ lk) rfl S.co S.gen rfl (PySem.W.codeRec_of KX hcd) (hb _ _ _ _ ?_)
  refine wpAny_newFunctionEnv_cells S.kind hkind fun env he s1 x=>?_
  subst he
  refine ⟨lim.keeps x.toInCall.keep,codeAny_func ?_⟩
  obtain ⟨t,ht,hq⟩:=hbody A outer s H vs Q E (hr.deeper _) hsp
  have I:Inv (dy CX P w K mg base N qual scope f cdv A outer s H E) [] (start N vs) H s1:=i9 S hr.hd e0 hl r x
  refine wpAny_mono (ht [] s1 (start N vs) H _ I hq) (fun fl s' hs=>?_) fun e s' hs=>hs
  have fin:∀ {σ':St} {H':Hp} {v:V} {u:Value},Inv (dy CX P w K mg base N qual scope f cdv A outer s H E) [] σ' H' s'→RelV v u→Q v H'→CE outer P w H s Q u s' :=
    fun {σ' H' v u} J rv q=>⟨v,H',J.os,J.bare,J.base,J.hok,rv,q⟩
  cases fl with
  | ret u =>
    obtain ⟨v,σ',H',J,rv,q⟩:=hs
    exact fin J rv q
  | next =>
    obtain ⟨σ',H',J,q⟩:=hs
    exact fin (v:=V.non) (u:=Value.none) J rfl q
  | brk =>
    obtain ⟨_,_,_,q⟩:=hs
    exact False.elim q
  | cont =>
    obtain ⟨_,_,_,q⟩:=hs
    exact False.elim q
end L2
namespace L2
open PySem PySem.Spec PyProof.Rows
section
variable {X:Cx} {x:Str} {p pos:Pos} {e:Expr} {es:List Expr} {t:TA} {id T:String} {r:List V→Hp→VK→Prop}
def tCB (r:List V→Hp→VK→Prop) (t:TA):TE:=fun σ H Q=>t σ H fun vs H1=>r vs H1 Q
theorem aC (hc:CallR X (.builtin id) r) (hg:Gl X x) (hm:X.mg x = none) (hv:bootBuiltins x = some (.builtin id)) (ha:PA X (e :: es) t) (hn:x ≠ "__name__" := by decide) (hdb:(x == ("__debug__" : Str)) = false:=by decide)
    (he:starEach (e :: es) X.env = (false,eval e X.env) :: starEach es X.env:=by rfl) (hpl:(backTo pos (starEach es X.env)).any (·.1) = false:=by rfl):PE X (.Call (.Name x p) (e :: es) [] pos) (tCB r t):=by
  intro pins s σ H Q I h
  refine wpAny_Call_Name_kw (gg I hg hm hv ?_ hn hdb)
  exact PyProof.Rows.callWith_builtin1 (thn (ha pos pins s σ H _ I h) fun us s1 ⟨vs,H1,I1,r1,q1⟩=>hc pins s1 σ H1 vs us Q I1 r1 q1) he hpl
theorem bN (hc:CallR X (.type T) r) (hg:Gl X x) (hm:X.mg x = none) (hv:bootBuiltins x = some (.type T)) (ha:PA X (e :: es) t) (hn:x ≠ "__name__" := by decide) (hdb:(x == ("__debug__" : Str)) = false:=by decide)
    (he:starEach (e :: es) X.env = (false,eval e X.env) :: starEach es X.env:=by rfl) (hpl:(backTo pos (starEach es X.env)).any (·.1) = false:=by rfl):PE X (.Call (.Name x p) (e :: es) [] pos) (tCB r t):=by
  intro pins s σ H Q I h
  refine wpAny_Call_Name_kw (gg I hg hm hv ?_ hn hdb)
  exact PyProof.Rows.callWith_type1 (thn (ha pos pins s σ H _ I h) fun us s1 ⟨vs,H1,I1,r1,q1⟩=>hc pins s1 σ H1 vs us Q I1 r1 q1) he hpl
end
end L2
namespace HT
open PySem PyProof.Rows
def lexLt:List Int→List Int→Bool
  | [],[]=>false
  | [],_ :: _=>true
  | _ :: _,[]=>false
  | x :: xs,y :: ys=>if x = y then lexLt xs ys else decide (x < y)
section
open PySem.SeqAt
open PySem.AutoSeq1 (wpAny_loadPart')
open PySem.MeetsSeq PySem.MeetsSeq2 PySem.MeetsSeq3
end
section
variable {prog:Program} {w:World} {A:Around} {E:Value→Shared→Prop} {s:Shared}
def sIx (n d:Nat):Option Int→Nat
  | none=>d
  | some v=>if v < 0 then (v + (n:Int)).toNat else min v.toNat n
theorem sIx_none (n d:Nat):sIx n d none = d:=rfl
theorem sIx_nat (n d k:Nat):sIx n d (some (k:Int)) = min k n:=by
  show (if (k:Int) < 0 then ((k:Int) + (n:Int)).toNat else min (k:Int).toNat n) = min k n
  rw [if_neg (by omega),Int.toNat_natCast]
theorem sIx_le (n d:Nat) (hd:d≤n) (o:Option Int):sIx n d o≤n:=by
  cases o with
  | none=>exact hd
  | some v =>
    show (if v < 0 then (v + (n:Int)).toNat else min v.toNat n)≤n
    by_cases hv:v < 0
    · rw [if_pos hv]; omega
    · rw [if_neg hv]; exact Nat.min_le_right _ _
theorem m3 (v:Int) (n d:Nat):(if v < 0 then max (v + (n:Int)) 0 else min v (n:Int)) = ((sIx n d (some v):Nat):Int):=by
  show (if v < 0 then max (v + (n:Int)) 0 else min v (n:Int)) = (((if v < 0 then (v + (n:Int)).toNat else min v.toNat n):Nat):Int)
  by_cases hv:v < 0
  · simp only [if_pos hv]; omega
  · simp only [if_neg hv]; omega
theorem ma (lo hi:Option Int) (n:Nat):Builtin.Slice.sliceAdjust lo hi 1 (n:Int) = (((sIx n 0 lo:Nat):Int),((sIx n n hi:Nat):Int)):=by
  have h1:¬ ((1:Int) < 0):=by omega
  unfold Builtin.Slice.sliceAdjust
  simp only [h1,if_false]
  refine Prod.ext ?_ ?_
  · cases lo with
    | none=>rfl
    | some v=>exact m3 v n 0
  · cases hi with
    | none=>rfl
    | some v=>exact m3 v n n
theorem mf (i j:Nat):Builtin.Slice.slicePlaces (i:Int) (j:Int) 1 = j - i:=by
  unfold Builtin.Slice.slicePlaces
  have h1:(1:Int) > 0:=by omega
  simp only [h1,if_true,Int.ediv_one]
  split <;> omega
theorem iF {v:Value} {o:Option Int} {Q:Option Int→Shared→Prop} (p:IsPart v o) (h:Q o s):wpAny (model prog w) A (Builtin.Slice.slicePartIndex v) Q E s:=by
  cases p with
  | none=>exact slicePart_none h
  | int i t=>exact slicePart_int h
theorem gd {sl:Addr} {vl vu:Value} {lo hi:Option Int} {n:Nat} {Q:Int×Int×Nat→Shared→Prop} (hs:s.heap.IsSliceOf sl vl vu .none) (pl:IsPart vl lo) (pu:IsPart vu hi)
    (h:Q (((sIx n 0 lo:Nat):Int),1,sIx n n hi - sIx n 0 lo) s):wpAny (model prog w) A (Builtin.Slice.sliceApplied (.ref sl) (pure (n:Int))) Q E s:=by
  obtain ⟨os,hos,hcs,hds⟩:=id hs
  unfold Builtin.Slice.sliceApplied Builtin.Slice.sliceFields
  refine wpAny_bind (wpAny_bind (wpAny_field hos hds (x:=vl) rfl (wpAny_bind (wpAny_field hos hds (x:=vu) rfl (wpAny_bind (wpAny_field hos hds (x:=.none) rfl (wpAny_pure ?_)))))))
  refine wpAny_bind (slicePart_none ?_)
  show wpAny _ _ (if ((1:Int) == 0) = true then _ else _) _ _ s
  rw [if_neg (by decide)]
  refine wpAny_bind (iF pl (wpAny_bind (iF pu (wpAny_bind (wpAny_pure ?_)))))
  show wpAny _ _ (match Builtin.Slice.sliceAdjust lo hi 1 (n:Int) with | (lo,hi)=>pure (lo,(1:Int),Builtin.Slice.slicePlaces lo hi 1)) _ _ s
  rw [ma lo hi n]
  show wpAny _ _ (pure (((sIx n 0 lo:Nat):Int),(1:Int),Builtin.Slice.slicePlaces ((sIx n 0 lo:Nat):Int) ((sIx n n hi:Nat):Int) 1)) _ _ s
  rw [mf]
  exact wpAny_pure h
theorem qH (xs:Array Value) (i k:Nat):((List.range k).filterMap fun (m:Nat)=>xs[((i:Int) + (m:Int) * 1).toNat]?).toArray = ((xs.toList.drop i).take k).toArray:=by
  have e:(fun (m:Nat)=>xs[((i:Int) + (m:Int) * 1).toNat]?) = fun m=>xs[i + m]?:=by
    funext m
    have:((i:Int) + (m:Int) * 1).toNat = i + m:=by omega
    rw [this]
  rw [e]
  have:=pick_run xs i k
  rw [List.filterMap_map] at this
  have e2:((fun x=>xs[x]?) ∘ fun x=>i + x) = fun m=>xs[i + m]?:=rfl
  rw [e2] at this
  rw [this]
theorem getItem_tuple_cut {t sl:Addr} {items:Array Value} {vl vu:Value} {lo hi:Option Int} {Q:Value→Shared→Prop} (ht:IsTup s.heap t items) (hs:s.heap.IsSliceOf sl vl vu .none) (pl:IsPart vl lo) (pu:IsPart vu hi)
    (hw:¬ (sIx items.size 0 lo = 0∧sIx items.size items.size hi = items.size))
    (h:Q (.ref s.heap.objs.size) { s with heap:=s.heap.push { cls:=.type "tuple",data:=.seq ((items.toList.drop (sIx items.size 0 lo)).take (sIx items.size items.size hi - sIx items.size 0 lo)).toArray } })
    (hsz:items.size≤sizeLine):wpAny (model prog w) A (getItem (.ref t) (.ref sl)) Q E s:=by
  have htake:sizeOk (.seq ((items.toList.drop (sIx items.size 0 lo)).take (sIx items.size items.size hi - sIx items.size 0 lo)).toArray):=by
    show ((items.toList.drop (sIx items.size 0 lo)).take (sIx items.size items.size hi - sIx items.size 0 lo)).toArray.size≤sizeLine
    rw [List.size_toArray,List.length_take,List.length_drop,Array.length_toList]
    omega
  have hj:sIx items.size items.size hi≤items.size:=sIx_le _ _ (Nat.le_refl _) hi
  obtain ⟨os,hos,hcs,hds⟩:=id hs
  have hTs:s.TypeIs (.ref sl) "slice" := ⟨os,hos,hcs⟩
  unfold getItem
  try with_reducible refine wpAny_holding ?_
  first | refine wpAny_bind (wpAny_pure ?_) | skip
  refine wpAny_bind (wpAny_sequenceKey ht.typeIs (by decide) ?_)
  refine wpAny_bind (wpAny_callSpecial?_slot (name:=Str.ofString "__getitem__") ht.typeIs PyProof.Rows.slot_tuple_getitem
    (wpAny_call_entry PyProof.Rows.slot_tuple_getitem ht.typeIs entry_tuple_getitem ?_ (args_tuple_getitem _ _)))
  show wpAny _ _ (Builtin.Tuple.tupleItemsOf (.ref t) >>= _) _ _ s
  refine wpAny_bind (tupleItemsOf_ ht ?_)
  refine wpAny_bind (wpAny_typeOf hTs ?_)
  rw [if_pos (by decide)]
  refine wpAny_bind (gd hs pl pu ?_)
  have hno:¬ ((((sIx items.size 0 lo:Nat):Int) == 0 && (1:Int) == 1 && (sIx items.size items.size hi - sIx items.size 0 lo) == items.size) = true):=by
    intro q
    rw [Bool.and_eq_true,Bool.and_eq_true] at q
    have q1:((sIx items.size 0 lo:Nat):Int) = 0:=eq_of_beq q.1.1
    have q2:sIx items.size items.size hi - sIx items.size 0 lo = items.size:=eq_of_beq q.2
    exact hw ⟨by omega,by omega⟩
  show wpAny _ _ (if (((sIx items.size 0 lo:Nat):Int) == 0 && (1:Int) == 1 && (sIx items.size items.size hi - sIx items.size 0 lo) == items.size) = true then _ else _) _ _ s
  rw [if_neg hno,qH]
  first
    | exact wpAny_bind (m:=Builtin.Tuple.tupleExact _) (wpAny_newObj_type (wpAny_pure ⟨_,rfl,wpAny_pure h⟩) htake)
    | exact wpAny_bind (m:=Builtin.Tuple.tupleExact _) (wpAny_newObj_type (wpAny_bind (wpAny_pure (wpAny_pure ⟨_,rfl,wpAny_pure h⟩))) htake)
    | exact wpAny_bind (wpAny_bind (m:=Builtin.Tuple.tupleExact _) (wpAny_newObj_type (wpAny_pure (wpAny_pure ⟨_,rfl,wpAny_pure h⟩)) htake))
    | exact wpAny_bind (wpAny_bind (m:=Builtin.Tuple.tupleExact _) (wpAny_newObj_type (wpAny_pure ⟨_,rfl,wpAny_pure h⟩) htake))
end
end HT
namespace L2
open PySem PySem.Spec PyProof.Rows
abbrev TO:=St→Hp→(Option Int→Hp→Prop)→Prop
def PO (X:Cx) (e:Option Expr) (t:TO):Prop :=
  ∀ (pins:List (Addr×Obj)) (s:Shared) (σ:St) (H:Hp) (Q:Option Int→Hp→Prop),Inv X pins σ H s→t σ H Q →
    wpAny (model X.prog X.w) X.A (evalPart e X.env) (fun u s'=>∃ o H',Inv X pins σ H' s'∧IsPart u o∧Q o H') X.xe s
def t6:TO:=fun _ H Q=>Q none H
def wJ (t:TE):TO:=fun σ H Q=>t σ H fun x H1=>∃ i,x = .int i∧Q (some i) H1
section
variable {X:Cx} {e:Expr} {te:TE} {lo hi:Option Expr} {tl th:TO} {pos p2:Pos}
theorem ut:PO X none t6:=by
  intro pins s σ H Q I h
  rw [evalPart_none]
  exact wpAny_pure ⟨none,H,I,.none,h⟩
theorem tj (h:PE X e te):PO X (some e) (wJ te):=by
  intro pins s σ H Q I hw
  rw [evalPart_some]
  refine thn (h pins s σ H _ I hw) fun u s1 ⟨x,H1,I1,r1,q1⟩=>?_
  obtain ⟨i,rfl,q⟩:=q1
  obtain ⟨t,rfl⟩:=r1
  exact ⟨some i,H1,I1,.int i t,q⟩
def SlR (X:Cx) (r:V→Option Int→Option Int→Hp→VK→Prop):Prop :=
  ∀ (pins:List (Addr×Obj)) (s:Shared) (σ:St) (H:Hp) (x:V) (v vl vu:Value) (lo hi:Option Int) (sl:Addr) (Q:VK),Inv X pins σ H s→RelV x v→s.heap.IsSliceOf sl vl vu .none→IsPart vl lo→IsPart vu hi→r x lo hi H Q →
    ∃ T id,typeLookup (.type T) "__getitem__" = pure (some (.builtin id))∧s.TypeIs v T∧wpAny (model X.prog X.w) X.A (getItem v (.ref sl)) (EP X pins σ Q) X.xe s
theorem SlR.or {r r':V→Option Int→Option Int→Hp→VK→Prop} (h:SlR X r) (h':SlR X r'):SlR X (fun x lo hi H Q=>r x lo hi H Q∨r' x lo hi H Q):=by
  intro pins s σ H x v vl vu lo hi sl Q I rx hs pl pu q
  rcases q with q | q
  · exact h pins s σ H x v vl vu lo hi sl Q I rx hs pl pu q
  · exact h' pins s σ H x v vl vu lo hi sl Q I rx hs pl pu q
def tSl (r:V→Option Int→Option Int→Hp→VK→Prop) (te:TE) (tl th:TO):TE:=fun σ H Q=>te σ H fun x H1=>tl σ H1 fun l H2=>th σ H2 fun u H3=>r x l u H3 Q
theorem qP {r:V→Option Int→Option Int→Hp→VK→Prop} (hr:SlR X r) (he:PE X e te) (hl:PO X lo tl) (hu:PO X hi th):PE X (.Subscript e (.Slice lo hi none p2) pos) (tSl r te tl th):=by
  intro pins s σ H Q I h
  refine Subscript_ (thn (he pins s σ H _ I h) fun v s1 ⟨x,H1,I1,r1,q1⟩=>?_)
  refine wpAny_Slice (thn (hl pins s1 σ H1 _ I1 q1) fun vl s2 ⟨l,H2,I2,pl,q2⟩=>thn (hu pins s2 σ H2 _ I2 q2) fun vu s3 ⟨u,H3,I3,pu,q3⟩=>?_)
  rw [evalPart_none]
  refine wpAny_pure ?_
  have I4:Inv X pins σ H3 { s3 with heap:=s3.heap.push { cls:=.type "slice",data:=.fields #[vl,vu,.none] } }:=I3.kept (t':=s3.toks) fun b ob q=>Heap.get?_push_of_some _ q
  obtain ⟨T,id,hT,ht,hg⟩:=hr pins { s3 with heap:=s3.heap.push { cls:=.type "slice",data:=.fields #[vl,vu,.none] } } σ H3 x v vl vu l u s3.heap.objs.size Q I4 r1 (Heap.IsSliceOf.new ..) pl pu q3
  show wpAny (model X.prog X.w) X.A (subscriptTail e (.Slice lo hi none p2) v (.ref s3.heap.objs.size)) (EP X pins σ Q) X.xe { s3 with heap:=s3.heap.push { cls:=.type "slice",data:=.fields #[vl,vu,.none] } }
  exact tail_any (ops:=[.ref s3.heap.objs.size,v]) ht hT hg (by with_unfolding_all rfl)
def eZ (xs:List V) (lo hi:Option Int):List V:=(xs.drop (HT.sIx xs.length 0 lo)).take (HT.sIx xs.length xs.length hi - HT.sIx xs.length 0 lo)
theorem gt (xs:List V) (lo hi:Option Int):(eZ xs lo hi).length≤xs.length:=by
  unfold eZ
  rw [List.length_take,List.length_drop]
  omega
def zi (K:PySem.W.Frag):V→Option Int→Option Int→Hp→VK→Prop:=fun x lo hi H Q=>∃ a xs,x = .ref a∧SqT K H a xs ∧
  ¬ (HT.sIx xs.length 0 lo = 0∧HT.sIx xs.length xs.length hi = xs.length)∧∀ p,H p = none→Q (.ref p) (upd H p (.tup (eZ xs lo hi)))
theorem sl_tup:SlR X (zi X.K):=by
  intro pins s σ H x v vl vu lo hi sl Q I rx hs pl pu h
  obtain ⟨a,xs,rfl,hx,hw,q⟩:=h
  cases rx
  obtain ⟨its,r,ht,hz⟩:=I.tuple hx
  have hlen:its.toArray.size = xs.length:=by rw [List.size_toArray]; exact r.length.symm
  refine ⟨"tuple",_,PyProof.Rows.slot_tuple_getitem.lookup,ht.typeIs,?_⟩
  refine HT.getItem_tuple_cut ht hs pl pu (by rw [hlen]; exact hw) ?_ (by rw [hlen]; exact hz)
  rw [hlen]
  refine ⟨.ref s.heap.objs.size,_,I.laid (t':=s.toks) (o:=.tup (eZ xs lo hi)) (fun b ob q=>Heap.get?_push_of_some _ q) (Nat.le_refl _) ?_,rfl,q _ (I.hok.fresh (Nat.le_refl _))⟩
  exact ⟨Nat.le_trans (gt xs lo hi) hz,_,(r.drop (HT.sIx xs.length 0 lo)).take (HT.sIx xs.length xs.length hi - HT.sIx xs.length 0 lo),IsTup.new _ _⟩
def A1 (K:PySem.W.Frag):R2:=fun x y H Q=>∃ a b ns ms,x = .ref a∧y = .ref b∧SqT K H a (ns.map V.int)∧SqT K H b (ms.map V.int)∧Q (.bl (HT.lexLt ns ms)) H
def zJ (K:PySem.W.Frag):R2:=fun x y H Q=>∃ a b xs ys,x = .ref a∧y = .ref b∧SqT K H a xs∧SqT K H b ys∧xs≠[]∧xs.length + ys.length≤sizeLine ∧
  (ys = []→Q (.ref a) H)∧(ys≠[]→∀ p,H p = none→Q (.ref p) (upd H p (.tup (xs ++ ys))))
end
end L2
namespace L2
open PySem PySem.Spec PyProof.Rows
def ixN (n:Nat) (i:Int):Option Nat:=if 0≤i then (if i < n then some i.toNat else none) else if -(n:Int)≤i then some (i + n).toNat else none
def atI {α:Type} (xs:List α) (i:Int):Option α:=(ixN xs.length i).bind fun j=>xs[j]?
theorem sS {n:Nat} {i:Int} {j:Nat} (h:ixN n i = some j):seqIndex? i n = some j∧j < n∧-(n:Int)≤i∧i < n:=by
  unfold ixN at h
  by_cases h0:0≤i
  · rw [if_pos h0] at h
    by_cases h1:i < n
    · rw [if_pos h1] at h
      have e:i.toNat = j:=Option.some.inj h
      exact ⟨by rw [seqIndex_of h0 h1,e],by omega,by omega,h1⟩
    · rw [if_neg h1] at h; cases h
  · rw [if_neg h0] at h
    by_cases h1:-(n:Int)≤i
    · rw [if_pos h1] at h
      have e:(i + n).toNat = j:=Option.some.inj h
      exact ⟨by rw [seqIndex_neg (by omega) h1,e],by omega,h1,by omega⟩
    · rw [if_neg h1] at h; cases h
theorem km {α:Type} {xs:List α} {i:Int} {v:α} (h:atI xs i = some v):∃ j,seqIndex? i xs.length = some j∧xs[j]? = some v∧j < xs.length∧-(xs.length:Int)≤i∧i < xs.length:=by
  unfold atI at h
  cases e:ixN xs.length i with
  | none=>rw [e] at h; cases h
  | some j =>
    rw [e] at h
    obtain ⟨h1,h2,h3,h4⟩:=sS e
    exact ⟨j,h1,h,h2,h3,h4⟩
theorem cD {α:Type} {xs:List α} {j:Nat} {v:α} (h:xs[j]? = some v):atI xs (j:Int) = some v:=by
  have hj:j < xs.length:=(List.getElem?_eq_some_iff.mp h).1
  have e:ixN xs.length (j:Int) = some j:=by
    unfold ixN
    rw [if_pos (by omega),if_pos (by omega)]; simp
  unfold atI; rw [e]; exact h
def um (b:Expr):Prop:=∀ o i,subscripted b false o i = operate [o,i] (getItem o i)
def IxR (X:Cx) (r:R2):Prop :=
  ∀ (value slice:Expr) (pins:List (Addr×Obj)) (s:Shared) (σ:St) (H:Hp) (x y:V) (v u:Value) (Q:VK),Inv X pins σ H s→RelV x v→RelV y u→r x y H Q →
    subscripted slice false v u = operate [v,u] (getItem v u)→wpAny (model X.prog X.w) X.A (subscriptTail value slice v u) (EP X pins σ Q) X.xe s
def MtR (X:Cx) (id:String) (r:V→List V→Hp→VK→Prop):Prop :=
  ∀ (pins:List (Addr×Obj)) (s:Shared) (σ:St) (H:Hp) (x:V) (xs:List V) (v:Value) (us:List Value) (Q:VK),Inv X pins σ H s→RelV x v→Vals xs us→r x xs H Q →
    wpAny (model X.prog X.w) X.A (call (.builtin id) (v :: us)) (EP X pins σ Q) X.xe s
section
variable {X:Cx} {a b:Expr} {ta tb:TE} {pos:Pos}
theorem IxR.or {r r':R2} (h:IxR X r) (h':IxR X r'):IxR X (fun x y H Q=>r x y H Q∨r' x y H Q):=by
  intro value slice pins s σ H x y v u Q I rx ry q hs
  rcases q with q | q
  · exact h value slice pins s σ H x y v u Q I rx ry q hs
  · exact h' value slice pins s σ H x y v u Q I rx ry q hs
theorem az {r:R2} (hr:IxR X r) (ha:PE X a ta) (hb:PE X b tb) (hs:um b):PE X (.Subscript a b pos) (tOp r ta tb):=by
  intro pins s σ H Q I h
  exact Subscript_ (v9 ha hb I h fun v u s2 x y H2 I2 rx ry q=>hr a b pins s2 σ H2 x y v u Q I2 rx ry q (hs _ _))
inductive rIxL (K:PySem.W.Frag) (x y:V) (H:Hp) (Q:VK):Prop
  | mk (p:Addr) (xs:List V) (i:Int) (v:V) (h0:x = .ref p) (h1:y = .int i) (h2:SqL K H p xs) (h3:atI xs i = some v) (h4:Q v H):rIxL K x y H Q
inductive rIxT (K:PySem.W.Frag) (x y:V) (H:Hp) (Q:VK):Prop
  | mk (p:Addr) (xs:List V) (i:Int) (v:V) (h0:x = .ref p) (h1:y = .int i) (h2:SqT K H p xs) (h3:atI xs i = some v) (h4:Q v H):rIxT K x y H Q
def xE:R2:=fun x y H Q=>∃ z i c,x = .str z∧y = .int i∧z.length≤sizeLine∧atI z.cps.toList i = some c∧Q (.str ⟨#[c]⟩) H
theorem ix_list:IxR X (rIxL X.K):=by
  intro value slice pins s σ H x y v u Q I rx ry h hs
  obtain ⟨p,xs,i,z,rfl,rfl,hq,he,q⟩:=h
  cases rx
  obtain ⟨t,rfl⟩:=ry
  obtain ⟨its,r,pl,hz⟩:=I.list hq
  obtain ⟨j,h1,h2,h3,h4,h5⟩:=km he
  obtain ⟨w,ew,rw'⟩:=r.get h2
  have hl:=r.length
  have hn:=gi
  have fin:EP X pins σ Q w s:=⟨z,H,I,rw',q⟩
  by_cases h0:0≤i
  · have hj:i.toNat = j:=by
      rw [seqIndex_of h0 h5] at h1
      exact Option.some.inj h1
    exact item_listR pl.isList h0 (by omega) (by rw [hj]; simpa using ew) fin hs
  · have hj:(i + (its.toArray.size:Int)).toNat = j:=by
      rw [seqIndex_neg (by omega) h4] at h1
      rw [List.size_toArray,← hl]
      exact Option.some.inj h1
    exact subscriptTail_builtinR (x:=w) pl.isList.typeIs slot_list_getitem.lookup
      (wpAny_getItem_list_neg (Q:=fun r s'=>r = w∧EP X pins σ Q r s') pl.isList (by omega) (by rw [List.size_toArray] <;> omega) (by omega) (by rw [hj]; simpa using ew) ⟨rfl,fin⟩) hs
theorem ix_tup:IxR X (rIxT X.K):=by
  intro value slice pins s σ H x y v u Q I rx ry h hs
  obtain ⟨p,xs,i,z,rfl,rfl,hq,he,q⟩:=h
  cases rx
  obtain ⟨t,rfl⟩:=ry
  obtain ⟨its,r,pl,hz⟩:=I.tuple hq
  obtain ⟨j,h1,h2,h3,h4,h5⟩:=km he
  obtain ⟨w,ew,rw'⟩:=r.get h2
  have hl:=r.length
  have hn:=gi
  have fin:EP X pins σ Q w s:=⟨z,H,I,rw',q⟩
  exact subscriptTail_builtinR (x:=w) pl.typeIs slot_tuple_getitem.lookup
    (getItem_tuple (j:=j) (Q:=fun r s'=>r = w∧EP X pins σ Q r s') pl (by omega) (by omega) (by rw [List.size_toArray,← hl]; exact h1) (by simpa using ew) ⟨rfl,fin⟩) hs
theorem vC:IxR X xE:=by
  intro value slice pins s σ H x y v u Q I rx ry h hs
  obtain ⟨z,i,c,rfl,rfl,hz,he,q⟩:=h
  obtain ⟨t,rfl⟩:=rx
  obtain ⟨t',rfl⟩:=ry
  obtain ⟨j,h1,h2,h3,h4,h5⟩:=km he
  have hl:z.cps.toList.length = z.length:=by simp [Str.length]
  rw [hl] at h1 h4 h5
  have hn:=gi
  exact tail_any (typeIs_str s z t) slot_str_getitem.lookup (getItem_str (c:=c) (by
    have e1:decide (i < -(2 ^ 63:Int)) = false:=decide_eq_false (by omega)
    have e2:decide (i ≥ 2 ^ 63) = false:=decide_eq_false (by omega)
    rw [e1,e2,Bool.or_false]) (by rw [h1]; simpa using h2) ⟨.str ⟨#[c]⟩,H,I.tok _,⟨_,rfl⟩,q⟩) hs
def rIx (K:PySem.W.Frag):R2:=fun x y H Q=>rIxL K x y H Q∨rIxT K x y H Q∨xE x y H Q
theorem av:IxR X (rIx X.K):=ix_list.or (ix_tup.or vC)
def zU:V→V→V→Hp→(Hp→Prop)→Prop:=fun o i v H Q=>∃ p xs k j,o = .ref p∧i = .int k∧H p = some (.lst xs)∧ixN xs.length k = some j∧Q (upd H p (.lst (xs.set j v)))
theorem j4 (lo hi:Option Int) (n:Nat):(sliceBounds lo hi none n).1 = ((HT.sIx n 0 lo:Nat):Int)∧(sliceBounds lo hi none n).2.1 = ((HT.sIx n n hi:Nat):Int)∧(sliceBounds lo hi none n).2.2 = 1:=by
  refine ⟨?_,?_,rfl⟩
  · cases lo with
    | none=>simp [sliceBounds,HT.sIx]
    | some i =>
      simp only [sliceBounds,HT.sIx,Option.getD_none,show (1:Int) > 0 by decide,if_true]
      by_cases h:i < 0
      · simp only [h,if_true] <;> omega
      · simp only [h,if_false] <;> omega
  · cases hi with
    | none=>simp [sliceBounds,HT.sIx]
    | some i =>
      simp only [sliceBounds,HT.sIx,Option.getD_none,show (1:Int) > 0 by decide,if_true]
      by_cases h:i < 0
      · simp only [h,if_true] <;> omega
      · simp only [h,if_false] <;> omega
theorem iG (its:List Value) (lo hi:Option Int):slicePick its.toArray lo hi none = ((its.drop (HT.sIx its.length 0 lo)).take (HT.sIx its.length its.length hi - HT.sIx its.length 0 lo)).toArray:=by
  obtain ⟨h1,h2,h3⟩:=j4 lo hi its.toArray.size
  unfold slicePick
  rw [h1,h2,h3]
  simp only [sliceRange_one,pick_run,List.size_toArray] <;> rfl
def yR (K:PySem.W.Frag):V→Option Int→Option Int→Hp→VK→Prop:=fun x lo hi H Q=>∃ a xs,x = .ref a∧SqL K H a xs∧∀ p,H p = none→Q (.ref p) (upd H p (.lst (eZ xs lo hi)))
theorem sl_list:SlR X (yR X.K):=by
  intro pins s σ H x v vl vu lo hi sl Q I rx hs pl pu h
  obtain ⟨a,xs,rfl,hx,q⟩:=h
  cases rx
  obtain ⟨its,r,ht,hz⟩:=I.list hx
  have hlen:=r.length
  refine ⟨"list",_,slot_list_getitem.lookup,ht.isList.typeIs,?_⟩
  refine wpAny_getItem_list_slice ht.isList hs pl pu .none (by simp) ?_ (by rw [List.size_toArray] <;> omega)
  rw [iG,← hlen]
  refine ⟨.ref s.heap.objs.size,_,I.laid (t':=s.toks) (o:=.lst (eZ xs lo hi)) (fun b ob q=>Heap.get?_push_of_some _ q) (Nat.le_refl _) ?_,rfl,q _ (I.hok.fresh (Nat.le_refl _))⟩
  exact ⟨Nat.le_trans (gt xs lo hi) hz,_,0,(r.drop (HT.sIx xs.length 0 lo)).take (HT.sIx xs.length xs.length hi - HT.sIx xs.length 0 lo),Heap.get?_push_size _ rfl⟩
def fU:V→Bool
  | .non=>true
  | .bl _=>true
  | .int _=>true
  | .str _=>true
  | _=>false
def eqV:V→V→Bool
  | .non,.non=>true
  | .bl a,.bl b=>a == b
  | .bl a,.int b=>(if a then 1 else 0) == b
  | .int a,.bl b=>a == (if b then 1 else 0)
  | .int a,.int b=>a == b
  | .str a,.str b=>a == b
  | _,_=>false
theorem wo {A:Around} {s:Shared} {y x:V} {u v:Value} (ry:RelV y u) (rx:RelV x v) (fy:fU y = true) (fx:fU x = true):SeqAt.EqAt A s u v (eqV y x):=by
  cases y with
  | non =>
    cases ry
    cases x with
    | non=>cases rx; exact SeqAt.EqAt.same _
    | bl b=>cases rx; exact SeqAt.EqAt.none_bool b
    | int b=>obtain ⟨t,rfl⟩:=rx; exact SeqAt.EqAt.none_int b t
    | str b=>obtain ⟨t,rfl⟩:=rx; exact SeqAt.EqAt.none_str b t
    | _=>exact absurd (show false = true from fx) Bool.false_ne_true
  | bl a =>
    cases ry
    cases x with
    | non=>cases rx; exact SeqAt.EqAt.bool_none a
    | bl b=>cases rx; exact SeqAt.EqAt.bool_bool a b
    | int b=>obtain ⟨t,rfl⟩:=rx; exact SeqAt.EqAt.bool_int a b t
    | str b=>obtain ⟨t,rfl⟩:=rx; exact SeqAt.EqAt.bool_str a b t
    | _=>exact absurd (show false = true from fx) Bool.false_ne_true
  | int a =>
    obtain ⟨t',rfl⟩:=ry
    cases x with
    | non=>cases rx; exact SeqAt.EqAt.int_none a t'
    | bl b=>cases rx; exact SeqAt.EqAt.int_bool a t' b
    | int b=>obtain ⟨t,rfl⟩:=rx; exact SeqAt.EqAt.int_int a t' b t
    | str b=>obtain ⟨t,rfl⟩:=rx; exact SeqAt.EqAt.int_str a t' b t
    | _=>exact absurd (show false = true from fx) Bool.false_ne_true
  | str a =>
    obtain ⟨t',rfl⟩:=ry
    cases x with
    | non=>cases rx; exact SeqAt.EqAt.str_none a t'
    | bl b=>cases rx; exact SeqAt.EqAt.str_bool a t' b
    | int b=>obtain ⟨t,rfl⟩:=rx; exact SeqAt.EqAt.str_int a t' b t
    | str b=>obtain ⟨t,rfl⟩:=rx; exact SeqAt.EqAt.str_str a t' b t
    | _=>exact absurd (show false = true from fx) Bool.false_ne_true
  | _=>exact absurd (show false = true from fy) Bool.false_ne_true
def eqU (x:V) (u:Value):Bool:=match u with
  | .none=>eqV .non x
  | .bool b=>eqV (.bl b) x
  | .int i _=>eqV (.int i) x
  | .str z _=>eqV (.str z) x
  | _=>false
theorem qf {x y:V} {u:Value} (r:RelV y u) (f:fU y = true):eqU x u = eqV y x:=by
  cases y with
  | non=>cases r; rfl
  | bl b=>cases r; rfl
  | int i=>obtain ⟨t,rfl⟩:=r; rfl
  | str z=>obtain ⟨t,rfl⟩:=r; rfl
  | _=>exact absurd (show false = true from f) Bool.false_ne_true
theorem jE {x:V}:∀ {xs:List V} {us:List Value},Vals xs us→xs.all fU = true→us.any (eqU x) = xs.any fun y=>eqV y x
  | _,_,.nil,_=>rfl
  | y :: xs,u :: us,.cons r t,f=>by
    rw [List.all_cons,Bool.and_eq_true] at f
    rw [List.any_cons,List.any_cons,qf r f.1,jE t f.2]
theorem hV {A:Around} {s:Shared} {x:V} {v:Value} (rx:RelV x v) (fx:fU x = true):∀ {xs:List V} {us:List Value},Vals xs us→xs.all fU = true→∀ u ∈ us,SeqAt.EqAt A s u v (eqU x u)
  | _,_,.nil,_=>fun u hu=>by cases hu
  | y :: xs,u :: us,.cons r t,f=>fun u' hu=>by
    rw [List.all_cons,Bool.and_eq_true] at f
    rcases List.mem_cons.mp hu with rfl | hu
    · rw [qf r f.1]; exact wo r rx f.1 fx
    · exact hV rx fx t f.2 u' hu
def inV (x:V) (xs:List V):Bool:=xs.any fun y=>eqV y x
inductive rIn (K:PySem.W.Frag) (neg:Bool) (x y:V) (H:Hp) (Q:VK):Prop
  | mk (p:Addr) (xs:List V) (h0:y = .ref p) (h1:SqL K H p xs∨SqT K H p xs) (h2:fU x = true) (h3:xs.all fU = true) (h4:Q (.bl (if neg then !inV x xs else inV x xs)) H):rIn K neg x y H Q
theorem jl:OpR X (compareOp .In) (rIn X.K false):=by
  intro pins s σ H x y v u Q I rx ry h
  obtain ⟨p,xs,rfl,hq,fx,fs,q⟩:=h
  cases ry
  rcases hq with hq | hq
  · obtain ⟨its,r,pl,hz⟩:=I.list hq
    refine SeqAt.in_listAt (eqU x) pl.isList (fun w hw=>hV rx fx r fs w (by simpa using hw)) ⟨.bl _,H,I,rfl,?_⟩
    rw [show its.toArray.any (eqU x) = its.any (eqU x) by simp,jE r fs]
    exact q
  · obtain ⟨its,r,pl,hz⟩:=I.tuple hq
    refine SeqAt.in_tupleAt (eqU x) pl (fun w hw=>hV rx fx r fs w (by simpa using hw)) ⟨.bl _,H,I,rfl,?_⟩
    rw [show its.toArray.any (eqU x) = its.any (eqU x) by simp,jE r fs]
    exact q
theorem j3:CallR X (.builtin "len") (fun xs H Q=>∃ p ys,xs = [.ref p]∧(SqL X.K H p ys∨SqT X.K H p ys)∧Q (.int ys.length) H):=by
  intro pins s σ H xs us Q I r h
  obtain ⟨p,ys,rfl,hq,q⟩:=h
  obtain ⟨u,rfl,rx⟩:=eF r
  cases rx
  have hn:=gi
  rcases hq with hq | hq
  · obtain ⟨its,r',pl,hz⟩:=I.list hq
    have hlen:=r'.length
    exact Calls.call_len_list pl.isList (by simp only [List.size_toArray] <;> omega) ⟨.int ys.length,H,I.tok _,⟨s.toks + 1,by rw [List.size_toArray,hlen]⟩,q⟩
  · obtain ⟨its,r',pl,hz⟩:=I.tuple hq
    have hlen:=r'.length
    exact len_tuple pl (by simp only [List.size_toArray] <;> omega) ⟨.int ys.length,H,I.tok _,⟨s.toks + 1,by rw [List.size_toArray,hlen]⟩,q⟩
theorem call_len_str:CallR X (.builtin "len") (fun xs H Q=>∃ z,xs = [.str z]∧z.length≤sizeLine∧Q (.int z.length) H):=by
  intro pins s σ H xs us Q I r h
  obtain ⟨z,rfl,hz,q⟩:=h
  obtain ⟨u,rfl,t,rfl⟩:=eF r
  have hn:=gi
  exact len_str (by omega) ⟨.int z.length,H,I.tok _,⟨_,rfl⟩,q⟩
theorem CallR.or {f:Value} {r r':List V→Hp→VK→Prop} (h:CallR X f r) (h':CallR X f r'):CallR X f (fun xs H Q=>r xs H Q∨r' xs H Q):=by
  intro pins s σ H xs us Q I rs q
  rcases q with q | q
  · exact h pins s σ H xs us Q I rs q
  · exact h' pins s σ H xs us Q I rs q
inductive rListOf (K:PySem.W.Frag) (xs:List V) (H:Hp) (Q:VK):Prop
  | mk (p:Addr) (ys:List V) (h0:xs = [.ref p]) (h1:SqL K H p ys∨SqT K H p ys) (h2:∀ l,H l = none→Q (.ref l) (upd H l (.lst ys))):rListOf K xs H Q
theorem cb:CallR X (.type "list") (rListOf X.K):=by
  intro pins s σ H xs us Q I r h
  obtain ⟨p,ys,rfl,hq,q⟩:=h
  obtain ⟨u,rfl,rx⟩:=eF r
  cases rx
  have fin:∀ (its:List Value),Vals ys its→ys.length≤sizeLine→∀ (h':Heap) (c':Nat),(∀ b o',s.heap.get? b = some o'→h'.get? b = some o') →
      h'.get? s.heap.objs.size = some { cls:=.type "list",dict:=none,data:=.seq its.toArray c',slots:=#[] }→EP X pins σ Q (.ref s.heap.objs.size) { s with heap:=h' }:=fun its r' hz h' c' kp e =>
    ⟨.ref s.heap.objs.size,_,I.laid (t':=s.toks) kp (Nat.le_refl _) (show ObjOk X.prog X.w _ h' _ (.lst ys) from ⟨hz,its,c',r',e⟩),rfl,q _ (I.hok.fresh (Nat.le_refl _))⟩
  rcases hq with hq | hq
  · obtain ⟨its,r',pl,hz⟩:=I.list hq
    have hlen:=r'.length
    obtain ⟨o,ho,hc,n,hd⟩:=pl.isList
    exact call_list_seq p (.inl rfl) ho hc hd (fun h' c' kp e=>fin its r' hz h' c' kp e) (by simp only [List.size_toArray] <;> omega)
  · obtain ⟨its,r',pl,hz⟩:=I.tuple hq
    have hlen:=r'.length
    obtain ⟨o,ho,hc,n,hd⟩:=pl
    exact call_list_seq p (.inr rfl) ho hc hd (fun h' c' kp e=>fin its r' hz h' c' kp e) (by simp only [List.size_toArray] <;> omega)
theorem iN:CallR X (.type "tuple") (fun xs H Q=>∃ p ys,xs = [.ref p]∧((SqL X.K H p ys∧∀ l,H l = none→Q (.ref l) (upd H l (.tup ys)))∨(SqT X.K H p ys∧Q (.ref p) H))):=by
  intro pins s σ H xs us Q I r h
  obtain ⟨p,ys,rfl,h⟩:=h
  obtain ⟨u,rfl,rx⟩:=eF r
  cases rx
  rcases h with ⟨hq,q⟩ | ⟨hq,q⟩
  · obtain ⟨its,r',pl,hz⟩:=I.list hq
    have hlen:=r'.length
    refine call_tuple_list pl.isList (fun h' kp=>?_) (by simp only [List.size_toArray] <;> omega)
    have I1:Inv X pins σ H { s with heap:=h' }:=I.kept (t':=s.toks) kp
    have I2:Inv X pins σ (upd H h'.objs.size (.tup ys)) { s with heap:=h'.push { cls:=.type "tuple",data:=.seq its.toArray } } :=
      I1.laid (t':=s.toks) (fun b o e=>Heap.get?_push_of_some _ e) (Nat.le_refl _) (show ObjOk X.prog X.w _ _ _ (.tup ys) from ⟨hz,its,r',IsTup.new _ _⟩)
    exact ⟨.ref h'.objs.size,_,I2,rfl,q _ (I1.hok.fresh (Nat.le_refl _))⟩
  · obtain ⟨its,r',pl,hz⟩:=I.tuple hq
    exact call_tuple_same pl ⟨.ref p,H,I,rfl,q⟩
def tyV (K:PySem.W.Frag) (T:String) (x:V) (H:Hp):Prop:=match x with
  | .str _=>T = "str"
  | .int _=>T = "int"
  | .ref p=>(T = "list" ∧ ∃ xs,SqL K H p xs)∨(T = "tuple" ∧ ∃ o,K.lookup p = some o∧o.cls = .type "tuple" ∧ o.dict = none) ∨
      (T = "dict" ∧ ((∃ kvs,H p = some (.dK kvs))∨∃ kvs,H p = some (.dT kvs)))∨(T = "set" ∧ ∃ S n,H p = some (.set S n))
  | _=>False
theorem vh {pins:List (Addr×Obj)} {σ:St} {H:Hp} {s:Shared} {T:String} {x:V} {v:Value} (I:Inv X pins σ H s) (r:RelV x v) (ty:tyV X.K T x H) :
    s.TypeIs v T∧∀ a,v = .ref a→∃ ob,s.heap.get? a = some ob∧ob.dict = none:=by
  cases x with
  | str z =>
    obtain ⟨t,rfl⟩:=r
    cases (show T = "str" from ty)
    exact ⟨typeIs_str s z t,fun _ e=>nomatch e⟩
  | int i =>
    obtain ⟨t,rfl⟩:=r
    cases (show T = "int" from ty)
    exact ⟨typeIs_int s i t,fun _ e=>nomatch e⟩
  | ref p =>
    cases r
    rcases ty with ⟨rfl,xs,hq⟩ | ⟨rfl,o,hk,hc,hd⟩ | ⟨rfl,hk⟩ | ⟨rfl,S,n,hk⟩
    · obtain ⟨its,_,pl,_⟩:=I.list hq
      refine ⟨pl.isList.typeIs,fun a e=>?_⟩
      cases e
      obtain ⟨o,n,e,c,hd,_⟩:=pl
      exact ⟨o,e,hd⟩
    · refine ⟨⟨o,I.kIn p o hk,hc⟩,fun a e=>?_⟩
      cases e
      exact ⟨o,I.kIn _ o hk,hd⟩
    · have z:∃ o,s.heap.get? p = some o∧o.ExactDict:=by
        rcases hk with ⟨kvs,hk⟩ | ⟨kvs,hk⟩
        · obtain ⟨_,_,_,_,o,_,_,e,ex,_⟩:=I.hok p _ hk
          exact ⟨o,e,ex⟩
        · obtain ⟨_,_,_,_,o,_,_,e,ex,_⟩:=I.hok p _ hk
          exact ⟨o,e,ex⟩
      obtain ⟨o,e,ex⟩:=z
      refine ⟨⟨o,e,ex.1⟩,fun a e2=>?_⟩
      cases e2
      exact ⟨o,e,ex.2.1⟩
    · obtain ⟨o,_,_,_,e,ex,_⟩:=I.hok p _ hk
      refine ⟨⟨o,e,ex.1⟩,fun a e2=>?_⟩
      cases e2
      exact ⟨o,e,ex.2.1⟩
  | _=>exact False.elim ty
def AC (K:PySem.W.Frag) (T:String) (r:V→List V→Hp→VK→Prop) (to:TE):TE:=fun σ H Q=>to σ H fun x H1=>tyV K T x H1∧r x [] H1 Q
def tBM (K:PySem.W.Frag) (T:String) (r:V→List V→Hp→VK→Prop) (to:TE) (t:TA):TE:=fun σ H Q=>to σ H fun x H1=>tyV K T x H1∧t σ H1 fun xs H2=>r x xs H2 Q
variable {o e:Expr} {es:List Expr} {to:TE} {t:TA} {name:Str} {apos cpos:Pos} {T id:String} {r:V→List V→Hp→VK→Prop}
theorem qI (pa:PlainAttrs T) (slot:Slot T name id) (hty:typeOf (.builtin id) = pure (.type "method_descriptor")) (hm:MtR X id r) (ho:PE X o to) (ha:PA X (e :: es) t)
    (hbase:attributeBase o name X.env (eval o X.env) = eval o X.env:=by rfl)
    (hfew:((backTo cpos (starEach (e :: es) X.env)).all (fun x=>!x.1) && (backToKw cpos (keywordEach [] X.env)).all (fun x=>x.1.isSome)
      && decide ((e :: es).length + ([]:List Keyword).length + (if ([]:List Keyword).isEmpty then 0 else 1) < 30)) = true:=by rfl)
    (hline:(apos.endLine == cpos.line) = true:=by rfl) (hs:starEach (e :: es) X.env = (false,eval e X.env) :: starEach es X.env:=by rfl) (hplain:(backTo cpos (starEach es X.env)).any (·.1) = false:=by rfl) :
    PE X (.Call (.Attribute o name apos) (e :: es) [] cpos) (tBM X.K T r to t):=by
  intro pins s σ H Q I h
  refine wpAny_Call_method_late hbase hfew hline rfl (thn (ho pins s σ H _ I h) fun v s1 ⟨x,H1,I1,r1,ty,q1⟩=>?_)
  obtain ⟨h1,h2⟩:=vh I1 r1 ty
  refine ⟨T,id,pa,slot,hty,h1,h2,?_⟩
  have hA:=ha cpos pins s1 σ H1 _ I1 q1
  rw [hs] at hA ⊢
  refine Calls.callWith_builtin (by show (false || (backTo cpos (starEach es X.env)).any (·.1)) = false; rw [hplain] <;> rfl) (Calls.evalArgs_plain ?_)
  exact thn hA fun us s2 ⟨vs,H2,I2,r2,q2⟩=>hm pins s2 σ H2 x vs v us Q I2 r1 r2 q2
end
end L2
namespace L2
open PySem PySem.Spec PyProof.Rows
def MtM (X:Cx) (id:String) (r:V→List V→Hp→VK→Prop):Prop :=
  ∀ (pins:List (Addr×Obj)) (s:Shared) (σ:St) (H:Hp) (x:V) (xs:List V) (v:Value) (us:List Value) (Q:VK),Inv X pins σ H s→RelV x v→Vals xs us→r x xs H Q →
    wpAny (model X.prog X.w) X.A (call (.builtin id) (v :: us)) (EP X pins σ Q) X.xe s
theorem Vals.one:∀ {x:V} {us:List Value},Vals [x] us→∃ u,us = [u]∧RelV x u
  | _,_,.cons r .nil=>⟨_,rfl,r⟩
theorem Vals.eraseIdx:∀ {xs:List V} {us:List Value} (i:Nat),Vals xs us→Vals (xs.eraseIdx i) (us.eraseIdx i)
  | _,_,_,.nil=>.nil
  | _,_,0,.cons _ t=>t
  | _,_,i + 1,.cons r t=>.cons r (Vals.eraseIdx i t)
theorem iT {α:Type}:∀ (l:List α) (i:Nat),(l.eraseIdx i).length≤l.length
  | [],_=>Nat.le_refl _
  | _ :: _,0=>Nat.le_succ _
  | _ :: r,i + 1=>Nat.succ_le_succ (iT r i)
section
variable {X:Cx} {pins:List (Addr×Obj)} {σ:St} {H:Hp} {s:Shared} {l b:Addr} {xs ys zs:List V}
theorem Inv.lset {its its':List Value} {n:Nat} {f:Array Value→Array Value} {t':Nat} (I:Inv X pins σ H s) (hH:H l = some (.lst xs))
    (e:s.heap.get? l = some { cls:=.type "list",data:=.seq its.toArray n }) (hf:f its.toArray = its'.toArray) (hv:Vals ys its') (hz:ys.length≤sizeLine) :
    Inv X pins σ (upd H l (.lst ys)) { s with heap:=s.heap.update l (Obj.mapSeq f),toks:=t' }:=by
  have q:=PySem.IsL.update e f
  rw [hf] at q
  refine I.write (x:=l) (e:=l) (by rw [hH]; exact trivial) (.inl rfl) (fun b' u hb hu=>(Heap.get?_update_other s.heap (Obj.mapSeq f) (Ne.symm hb)).trans hu) ⟨_,q⟩ ?_
  exact ⟨hz,its',_,hv,q⟩
theorem Inv.lnew {its:List Value} {t':Nat} (I:Inv X pins σ H s) (hv:Vals ys its) (hz:ys.length≤sizeLine) :
    Inv X pins σ (upd H s.heap.objs.size (.lst ys)) { s with heap:=s.heap.push { cls:=.type "list",data:=.seq its.toArray },toks:=t' } :=
  I.laid (fun _ _ q=>Heap.get?_push_of_some _ q) (Nat.le_refl _) ⟨hz,its,0,hv,Heap.get?_push_size _ rfl⟩
theorem Inv.fresh (I:Inv X pins σ H s):H s.heap.objs.size = none:=I.hok.fresh (Nat.le_refl _)
theorem Inv.lstM (I:Inv X pins σ H s) (hH:H l = some (.lst xs)):xs.length≤sizeLine∧∃ (its:List Value) (n:Nat),Vals xs its∧xs.length = its.length∧s.heap.get? l = some { cls:=.type "list",data:=.seq its.toArray n }:=by
  obtain ⟨z,its,n,r,e⟩:=I.hok l _ hH
  exact ⟨z,its,n,r,r.length,e⟩
theorem qF {n:Nat} (h:n≤sizeLine):Builtin.List.listTooLong n = false:=by
  unfold Builtin.List.listTooLong
  exact decide_eq_false (by omega)
end
section
variable {X:Cx}
inductive rAppend (x:V) (vs:List V) (H:Hp) (Q:VK):Prop
  | mk (l:Addr) (xs:List V) (y:V) (h0:x = .ref l) (h1:vs = [y]) (h2:H l = some (.lst xs)) (h3:xs.length < sizeLine) (h4:Q .non (upd H l (.lst (xs ++ [y])))):rAppend x vs H Q
theorem je:MtM X "list.append" rAppend:=by
  intro pins s σ H x vs v us Q I rx rv h
  obtain ⟨l,xs,y,rfl,rfl,hH,hz,q⟩:=h
  cases rx
  obtain ⟨u,rfl,ru⟩:=rv.one
  obtain ⟨z,its,n,r,hl,e⟩:=I.lstM hH
  refine call_meets F.slot_list_append ⟨_,e,rfl⟩ F.entry_list_append (F.args_list_append_2 _ _) (PySem.list_append l its.toArray n u (by rw [List.size_toArray]; omega)) ⟨e,?_⟩
  refine ⟨.non,_,I.lset (its':=its ++ [u]) hH e (by simp) (r.append (.cons ru .nil)) ?_,rfl,q⟩
  rw [List.length_append,List.length_singleton]
  omega
def nO:V→List V→Hp→VK→Prop:=fun x vs H Q=>∃ l b xs zs,x = .ref l∧vs = [.ref b]∧H l = some (.lst xs)∧H b = some (.lst zs)∧xs.length + zs.length≤sizeLine∧Q .non (upd H l (.lst (xs ++ zs)))
theorem oP:MtM X "list.extend" nO:=by
  intro pins s σ H x vs v us Q I rx rv h
  obtain ⟨l,b,xs,zs,rfl,rfl,hH,hB,hz,q⟩:=h
  cases rx
  obtain ⟨u,rfl,ru⟩:=rv.one
  cases ru
  obtain ⟨z,its,n,r,hl,e⟩:=I.lstM hH
  obtain ⟨z2,its2,n2,r2,hl2,e2⟩:=I.lstM hB
  have hsz:its.toArray.size + its2.toArray.size≤sizeLine:=by rw [List.size_toArray,List.size_toArray]; omega
  have hlong:¬ (!its.toArray.isEmpty && Builtin.List.listTooLong (its.toArray.size + its2.toArray.size)) = true:=by
    rw [qF hsz,Bool.and_false]
    exact Bool.false_ne_true
  refine call_meets F.slot_list_extend ⟨_,e,rfl⟩ F.entry_list_extend (F.args_list_extend_2 _ _)
    (AutoSeq1.list_extend_list_list_0 l its.toArray n b its2.toArray n2 hlong (by rw [List.size_toArray]; omega) (by omega)) ⟨e,e2,?_⟩
  refine ⟨.non,_,I.lset (its':=its ++ its2) hH e (by simp) (r.append r2) ?_,rfl,q⟩
  rw [List.length_append]
  omega
def AK:V→List V→Hp→VK→Prop:=fun x vs H Q=>∃ l xs y,x = .ref l∧vs = []∧H l = some (.lst xs)∧xs[xs.length - 1]? = some y∧Q y (upd H l (.lst xs.dropLast))
def qk:V→List V→Hp→VK→Prop:=fun x vs H Q=>∃ l xs i k y,x = .ref l∧vs = [.int i]∧H l = some (.lst xs)∧-(2 ^ 63)≤i∧i < 2 ^ 63∧seqIndex? i xs.length = some k∧xs[k]? = some y∧Q y (upd H l (.lst (xs.eraseIdx k)))
theorem qZ:MtM X "list.pop" qk:=by
  intro pins s σ H x vs v us Q I rx rv h
  obtain ⟨l,xs,i,k,y,rfl,rfl,hH,h1,h2,hk,hy,q⟩:=h
  cases rx
  obtain ⟨u,rfl,ru⟩:=rv.one
  obtain ⟨t,rfl⟩:=ru
  obtain ⟨z,its,n,r,hl,e⟩:=I.lstM hH
  obtain ⟨w,hw,rw'⟩:=r.get hy
  refine call_meets F.slot_list_pop ⟨_,e,rfl⟩ F.entry_list_pop (F.args_list_pop_2 _ _)
    (MeetsSeq.list_pop_at l its.toArray n i t k w (fitsIndex_both h1 h2) (by rw [List.size_toArray,← hl]; exact hk) (by rw [← Array.getElem?_toList]; exact hw) (by rw [List.size_toArray]; omega)) ⟨e,?_⟩
  refine ⟨y,_,I.lset (its':=its.eraseIdx k) hH e ?_ (r.eraseIdx k) ?_,rw',q⟩
  · show its.toArray.eraseIdxIfInBounds k = (its.eraseIdx k).toArray
    rw [List.eraseIdxIfInBounds_toArray]
  · have:=iT xs k
    omega
def wF:V→List V→Hp→VK→Prop:=fun x vs H Q=>∃ l xs,x = .ref l∧vs = []∧H l = some (.lst xs)∧Q .non (upd H l (.lst xs.reverse))
def yx:V→List V→Hp→VK→Prop:=fun x vs H Q=>∃ l xs,x = .ref l∧vs = []∧H l = some (.lst xs)∧Q .non (upd H l (.lst []))
inductive rCat (x y:V) (H:Hp) (Q:VK):Prop
  | mk (l b:Addr) (xs zs:List V) (h0:x = .ref l) (h1:y = .ref b) (h2:H l = some (.lst xs)) (h3:H b = some (.lst zs)) (h4:xs.length + zs.length≤sizeLine) (h5:∀ p,H p = none→Q (.ref p) (upd H p (.lst (xs ++ zs)))):rCat x y H Q
theorem ij:OpR X (binaryOp .Add) rCat:=by
  intro pins s σ H x y v u Q I rx ry h
  obtain ⟨l,b,xs,zs,rfl,rfl,hH,hB,hz,q⟩:=h
  cases rx
  cases ry
  obtain ⟨z,its,n,r,hl,e⟩:=I.lstM hH
  obtain ⟨z2,its2,n2,r2,hl2,e2⟩:=I.lstM hB
  refine PySem.P.add_list e e2 ?_ (by rw [List.size_toArray,List.size_toArray]; omega)
  have ea:its.toArray ++ its2.toArray = (its ++ its2).toArray:=by simp
  rw [ea]
  exact ⟨.ref _,_,I.lnew (t':=s.toks) (r.append r2) (by rw [List.length_append]; omega),rfl,q _ I.fresh⟩
def AD:R2:=fun x y H Q=>∃ l k xs,x = .ref l∧y = .int k∧H l = some (.lst xs)∧-(2 ^ 63)≤k∧k < 2 ^ 63∧xs.length * k.toNat≤sizeLine ∧
  ∀ p,H p = none→Q (.ref p) (upd H p (.lst (List.replicate k.toNat xs).flatten))
end
section
variable {prog:Program} {w:World} {A:Around} {E:Value→Shared→Prop} {s:Shared}
set_option maxRecDepth 100000 in
end
section
variable {X:Cx}
end
end L2
namespace Att
open PySem PySem.W PySem.Calls PyProof.Rows
theorem gC {P:Params} {h:Heap}:∀ (ns:List Int) (vs:List Value),WellAll P h vs (ns.map WData.int)→IntsAre vs ns:=by
  intro ns
  induction ns with
  | nil =>
    intro vs w
    rw [List.map_nil] at w
    cases w
    exact .nil
  | cons n ns ih =>
    intro vs w
    rw [List.map_cons] at w
    cases w with
    | cons a b =>
      cases a
      exact .cons _ _ (ih _ b)
theorem o0 {l:OpenLaw} {n:Nat} (hn:l.most = some n) {P:Params} {h:Heap} {args:List WData} {vals:List Value}
    (hpre:l.row.toRowW.claim.pre args = true) (hwl:WellAll P h vals args) :
    ∃ a vs ns,vals = [Value.ref a]∧args = [WData.list (ns.map WData.int)]∧h.get? a = some { cls:=.type "list",data:=.seq vs.toArray }∧IntsAre vs ns∧ns.length≤n:=by
  have hsh:WShape.hasAll [] args [.list .int] = true:=(pre_splitW hpre).1
  have hc:l.pre.holds [] { args:=args } = true:=(pre_splitW hpre).2
  obtain ⟨d,r,rfl,h1,h2⟩:=hasAllW_cons hsh
  obtain rfl:=hasAllW_nil h2
  obtain ⟨xs,rfl,h3⟩:=hasW_list h1
  obtain ⟨ns,rfl⟩:=items_int h3
  have hlen:ns.length≤n:=by
    unfold OpenLaw.pre at hc
    have h4:(WTm.not (.lt (.lit (.int (n:Int))) (.len (.arg 0)))).holds [] { args:=[.list (ns.map .int)] } = true:=by
      have h4:=(holds_andW hc).1
      rw [hn] at h4
      exact h4
    have h5:=condW_of h4 (w_not (w_lt w_lit (w_len_list (w_arg rfl))))
    rw [List.length_map] at h5
    refine Nat.le_of_not_lt fun q=>?_
    have q':(n:Int) < ((ns.length:Nat):Int):=by omega
    first
      | (rw [decide_eq_true q'] at h5; exact absurd h5 (by decide))
      | (simp at h5; omega)
  cases hwl with
  | cons w1 w2 =>
    cases w2
    cases w1 with
    | list ho hall=>exact ⟨_,_,ns,rfl,rfl,ho,gC ns _ hall,hlen⟩
theorem o7 (l:OpenLaw) (args:List WData):l.row.toRowW.claim.post args (.bool true) args = true :=
  postW_of (r:=l.row.toRowW) (X:=(true == true))
    (show WShape.has [] (.bool true) .bool = true by first | rfl | decide | simp [WShape.has,WShape.arms,WShape.armsAll])
    (show (WTm.eq .res (.lit (.bool true))).value [] { args:=args,res:=some (.bool true),after:=args } = some (.bool (true == true)) from w_eq_bool (w_res rfl) w_lit) rfl
theorem attach_call {l:OpenLaw} {n:Nat} {q:Program} {loose:List Str} {XP:(Str→Option Value)→Heap→Prop} {YP:World→Heap→Prop} {d:DefRec}
    (hn:l.most = some n) (hdf:d.params.defaults = [])
    (call:∀ (w:World) (s₀ s₁:Shared) (mg mb:Str→Option Value) (fa:Addr) (o:Obj) (pm cd doc:Value) (a:Addr) (vs:List Value) (ns:List Int),
      Ground q loose [] XP w s₀ mg mb s₁.heap→YP w s₁.heap →
      s₁.heap.get? fa = some o→o.data = .func (docDef d.name d.params d.body d.scope pm cd doc)→s₁.heap.CodeRec cd d.name→mg d.name = some (.ref fa) →
      s₁.heap.get? a = some { cls:=.type "list",data:=.seq vs.toArray }→IntsAre vs ns→ns.length≤n→s₁.gens = #[] →
      codeAny (model l.prog w) callerA (.call (.ref fa) ⟨[.ref a],[]⟩) (fun r s'=>r = .ok (.ret (.bool true))∧OldK s₁.heap s'.heap∧s'.os = s₁.os∧AllBare s'.gens) s₁) :
    WalkO q loose XP YP l.row.toRowW d [] (fun f vs=>PySem.call f vs):=by
  intro w s₀ s₁ mg mb G Y fa o pm cd doc dV kV ho hd hcd hD hmg hg args vals as hpre hlay hrd hwl hlo
  obtain rfl:dV = .none:=Dflts.none hD hdf
  obtain rfl:kV = .none:=Dflts.noKw hD
  obtain ⟨a,vs,ns,rfl,rfl,hobj,hints,hlen⟩:=o0 hn hpre hwl
  refine enter_call (codeAny_mono (call w s₀ s₁ mg mb fa o pm cd doc a vs ns G Y ho (fd_plain hd) hcd hmg hobj hints hlen hg) fun r s' hq=>?_)
  obtain ⟨rfl,h2,h3,h4⟩:=hq
  exact ⟨.inl ⟨.bool true,.bool true,[],rfl,fun _=>rfl,.bool true,o7 l _,fun _=>⟨List.Pairwise.nil,fun _ hm=>(nomatch hm)⟩⟩,h2,h3,h4⟩
section
variable {prog:Program} {w:World} {A:Around} {E:Value→Shared→Prop} {s:Shared} {K:Frag}
def zC (h:Heap):Heap:={ h with objs:=#[] }
def zB (h:Heap) (L d:Addr):List (Addr×Obj):=(List.range h.objs.size).filterMap fun a=>if a = L∨a = d then none else (h.get? a).map fun o=>(a,o)
end
end Att
namespace L2
open PySem PySem.Spec PyProof.Rows
theorem i8:∀ {vs:List Value} {ns:List Int},IntsAre vs ns→Vals (ns.map V.int) vs
  | _,_,.nil=>.nil
  | _,_,.cons n t h=>.cons ⟨t,rfl⟩ (i8 h)
def As (H:Hp):Prop:=∀ b,H b = none∨∃ o xs,H b = some (.frz o (.lst xs))
end L2
namespace L2
open PySem PySem.Spec PyProof.Rows
abbrev KOf {K:PySem.W.Frag} {h:Heap} (_:K.In h):PySem.W.Frag:=K
end L2
namespace L2
open PySem PySem.Spec PyProof.Rows
def cg (s:Stmt) (j:Nat):Stmt:=match s with
  | .ClassDef _ _ _ body _ _ _ _ _ _ _=>body.getD j (.Pass ⟨0,0,0,0⟩)
  | _=>.Pass ⟨0,0,0,0⟩
def ag (s:Stmt):Arguments:=match s with
  | .FunctionDef _ a _ _ _ _ _ _ _ _=>a
  | _=>{ posonlyargs:=[],args:=[],vararg:=none,kwonlyargs:=[],kw_defaults:=[],kwarg:=none,defaults:=[] }
def af (s:Stmt):List Stmt:=match s with
  | .FunctionDef _ _ b _ _ _ _ _ _ _=>b
  | _=>[]
def ac (s:Stmt):Scope:=match s with
  | .FunctionDef _ _ _ _ _ _ sc _ _ _=>sc
  | _=>{ kind:=.function,names:=[],isGenerator:=false,isCoroutine:=false }
abbrev CX0:CXT:=fun _ _ _ _ _ _=>False
abbrev E0:XK:=fun _ _ _=>False
theorem ap {X:Cx}:gr CX0 X E0:=fun _ _ _ _ _ _ _ h=>h.elim
structure Fun (K:PySem.W.Frag) (x qual:Str) (st:Stmt) (f:Addr) (fd:FuncData):Prop where
  ex:∃ (oc:Value) (od:Option Addr) (kV doc pm:Value) (an:Option Addr) (cdv ct:Value) (osl:Array (Option Value)),
    fd = PySem.W.fnOf x qual (ag st) (af st) (ac st) .none kV doc pm an cdv ct∧K.lookup f = some ⟨oc,od,.func fd,osl⟩∧PySem.W.codeIn K cdv qual = true
  kp:PySem.W.keepIn K (.ref f) = true
section
variable {P:Program} {w:World} {K:PySem.W.Frag} {mg:Str→Option Value} {base:Heap}
theorem Fun.ok {x qual:Str} {st:Stmt} {f:Addr} {fd:FuncData} {N ps:List Str} {k:Nat} {sp:Sp} (F:Fun K x qual st f fd) (S:FnScope N ps (ac st)) (len:∀ vs H Q E,sp vs H Q E→vs.length = ps.length)
    (hbody:∀ (cdv:Value) (A:Around) (outer:List Env) (s:Shared) (H:Hp) (vs:List V) (Q:VK) (E:XK),Room k (A.deeper (envOfC qual (ac st) s.heap.objs.size f cdv))→sp vs H Q E →
      ∃ t,PSs (dy CX0 P w K mg base N qual (ac st) f cdv A outer s H E).nox (af st) t∧t { nx:=fun _ H'=>Q .non H',rt:=Q } (start N vs) H):FnOk P w K mg base CX0 (k + 1) f fd ps sp:=by
  obtain ⟨oc,od,kV,doc,pm,an,cdv,ct,osl,rfl,lk,hcd⟩:=F.ex
  refine xD lk hcd S len fun A outer s H vs Q E hr hsp=>?_
  obtain ⟨t,h,q⟩:=hbody cdv A outer s H vs Q E hr hsp
  exact ⟨t,h.nox,q⟩
theorem Fun.binds {x qual:Str} {st:Stmt} {f:Addr} {fd:FuncData} {ps:List Str} (F:Fun K x qual st f fd)
    (h:∀ (kV doc pm:Value) (an:Option Addr) (cdv ct:Value) (us:List Value),us.length = ps.length→bindArgs (PySem.W.fnOf x qual (ag st) (af st) (ac st) .none kV doc pm an cdv ct) ⟨us,[]⟩ = pure (ps.zip us)):Binds K fd ps []:=by
  obtain ⟨oc,od,kV,doc,pm,an,cdv,ct,osl,rfl,lk,hcd⟩:=F.ex
  exact .all (h kV doc pm an cdv ct)
theorem am {x qual:Str} {st:Stmt} {f:Addr} {oc:Value} {od an:Option Addr} {osl:Array (Option Value)} {kV doc pm cdv ct:Value} (l:K.lookup f = some ⟨oc,od,.func (PySem.W.fnOf x qual (ag st) (af st) (ac st) .none kV doc pm an cdv ct),osl⟩)
    (c:PySem.W.codeIn K cdv qual = true) (k:PySem.W.keepIn K (.ref f) = true):Fun K x qual st f (PySem.W.fnOf x qual (ag st) (af st) (ac st) .none kV doc pm an cdv ct):=⟨⟨oc,od,kV,doc,pm,an,cdv,ct,osl,rfl,l,c⟩,k⟩
end
theorem jp {A:Around} {k:Nat} (hr:Room k A):A.units + 1 < cLine:=Nat.lt_of_le_of_lt (Nat.add_le_add_left (by decide:1≤64) _) hr.units
section
variable {X:Cx}
end
theorem zx {A B:Prop} (h:B):if false = true then A else B:=by
  rw [if_neg Bool.false_ne_true]
  exact h
theorem yG {c A B:Prop} [Decidable c] (h1:c→A) (h2:¬ c→B):if c then A else B:=by
  by_cases h:c
  · rw [if_pos h]
    exact h1 h
  · rw [if_neg h]
    exact h2 h
theorem nN {c A B:Prop} [Decidable c] (hc:c) (h:B):if (!decide c) = true then A else B:=by
  rw [decide_eq_true hc]
  exact zx h
def Same (H H':Hp):Prop:=∀ b o,H b = some o→H' b = some o
theorem Same.refl (H:Hp):Same H H:=fun _ _ h=>h
theorem Same.trans {H H1 H2:Hp} (a:Same H H1) (b:Same H1 H2):Same H H2:=fun c o h=>b c o (a c o h)
theorem Same.free {H H':Hp} (e:Same H H') {l:Addr} (h:H' l = Option.none):H l = Option.none:=by
  cases q:H l with
  | none=>rfl
  | some o =>
    rw [e l o q] at h
    cases h
theorem Same.seq {K:PySem.W.Frag} {H H':Hp} {a:Addr} {xs:List V} (e:Same H H') (h:SqL K H a xs):SqL K H' a xs:=by
  rcases h with (h | ⟨o,h⟩) | h
  · exact .inl (.inl (e _ _ h))
  · exact .inl (.inr ⟨o,e _ _ h⟩)
  · exact .inr h
end L2
set_option maxHeartbeats 4000000
namespace L2
open PySem PySem.Spec PyProof.Rows
def Its (x:Str):It:=⟨fun i _=>i < x.cps.size,fun i H y H'=>H' = H∧∃ c,x.cps[i]? = some c∧y = .str ⟨#[c]⟩,fun i _=>x.cps.size≤i⟩
theorem lq {P:Program} {w:World} {K:PySem.W.Frag} {tg:Expr} (x:Str) (it:Addr) {ty:String} {t:Tok} (hty:ty = "str_ascii_iterator" ∨ ty = "str_iterator") :
    Turn P w K tg (Its x) [it] it (fun i h=>h.IsStrIter it ty x t i) where
  mem:=by simp
  obj:=fun i h st b hb=>by
    have e:b = it:=by simpa using hb
    subst e
    obtain ⟨o,e,c,d⟩:=st
    exact ⟨o,e,fun v z=>by rw [d] at z; cases z⟩
  keep:=fun i h h' st k=>by
    obtain ⟨o,e,r⟩:=st
    exact ⟨o,k it (by simp) o e,r⟩
  item:=by
    intro X hP hw hK hc i pins s σ H E I hf st hg
    subst hP hw hK
    have hi:i < x.cps.size:=hg
    obtain ⟨f0,f1,f2,f3,f4,f5⟩:=hf it (by simp)
    rcases hty with rfl | rfl
    · refine wpAny_pyNext_ascii_item st (c:=x.cps[i]) (by simp [hi]) fun h' st' sb=>?_
      have I1:Inv X pins σ H { s with heap:=h',toks:=s.toks + 1 }:=I.turned (fun b o hb e=>(sb.2 b hb).trans e) f0 f1 f3 f4 f5
      obtain ⟨o,e,c,d⟩:=id st'
      exact ⟨_,rfl,iS (s:={ s with heap:=h',toks:=s.toks + 1 }) e c d (by decide) ⟨.str ⟨#[x.cps[i]]⟩,H,I1,⟨_,rfl⟩,⟨rfl,x.cps[i],by simp [hi],rfl⟩,st',fun b hb=>(hf b hb).1⟩⟩
    · refine wpAny_pyNext_wide_item st (c:=x.cps[i]) (by simp [hi]) fun h' st' sb=>?_
      have I1:Inv X pins σ H { s with heap:=h',toks:=s.toks + 1 }:=I.turned (fun b o hb e=>(sb.2 b hb).trans e) f0 f1 f3 f4 f5
      obtain ⟨o,e,c,d⟩:=id st'
      exact ⟨_,rfl,iS (s:={ s with heap:=h',toks:=s.toks + 1 }) e c d (by decide) ⟨.str ⟨#[x.cps[i]]⟩,H,I1,⟨_,rfl⟩,⟨rfl,x.cps[i],by simp [hi],rfl⟩,st',fun b hb=>(hf b hb).1⟩⟩
  done:=by
    intro X hP hw hK hc i pins s σ H E I hf st hg
    subst hP hw hK
    have hi:x.cps.size≤i:=hg
    obtain ⟨f0,f1,f2,f3,f4,f5⟩:=hf it (by simp)
    rcases hty with rfl | rfl
    · exact wpAny_pyNext_ascii_end (I.ok.hd hc) st (by simp [hi]) fun h' eb=>⟨rfl,I.turned (t':=s.toks) (fun b o hb e=>eb b o hb e) f0 f1 f3 f4 f5⟩
    · exact wpAny_pyNext_wide_end (I.ok.hd hc) st (by simp [hi]) fun h' eb=>⟨rfl,I.turned (t':=s.toks) (fun b o hb e=>eb b o hb e) f0 f1 f3 f4 f5⟩
  self:=fun _ _ _ _ _ st h=>by
    rcases hty with rfl | rfl
    · exact wpAny_pyIter_striter_ascii st h
    · exact wpAny_pyIter_striter_wide st h
def yN (tl:TE):TI:=fun σ H R=>tl σ H fun x H1=>∃ z,x = .str z∧R (Its z) H1
theorem wa {X:Cx} {tg l:Expr} {tl:TE} (hl:PE X l tl):PI X tg l (yN tl):=by
  intro pins s σ H R I h
  refine thn (hl pins s σ H _ I h) fun v s1 ⟨x,H1,I1,r1,q1⟩=>?_
  obtain ⟨z,e,q⟩:=q1
  subst e
  obtain ⟨t,rfl⟩:=r1
  refine wpAny_pyIter_strU ?_
  refine ⟨s1.heap.objs.size,[s1.heap.objs.size],_,_,H1,rfl,I1.kept (t':=s1.toks) fun b o e=>Heap.get?_push_of_some _ e,lq (ty:=strIterType z) (t:=t) z _ ?_,⟨_,Heap.get?_push_size _ rfl,rfl,rfl⟩,fun b hb=>?_,q⟩
  · unfold strIterType
    split
    · exact .inl rfl
    · exact .inr rfl
  · have e:b = s1.heap.objs.size:=by simpa using hb
    subst e
    exact I1.fpOk (Nat.le_refl _) (I1.hok.fresh (Nat.le_refl _))
end L2
namespace L2
open PySem PySem.Spec PyProof.Rows
def Wk:St→St→Prop
  | [],[]=>True
  | Option.none :: r,_ :: q=>Wk r q
  | some a :: r,b :: q=>b = some a∧Wk r q
  | _,_=>False
theorem Wk.len:∀ {a b:St},Wk a b→a.length = b.length
  | [],[],_=>rfl
  | Option.none :: r,_ :: q,h=>congrArg (· + 1) (Wk.len (a:=r) (b:=q) h)
  | some _ :: r,_ :: q,h=>congrArg (· + 1) (Wk.len (a:=r) (b:=q) h.2)
  | [],_ :: _,h=>h.elim
  | Option.none :: _,[],h=>h.elim
  | some _ :: _,[],h=>h.elim
theorem Wk.get:∀ {a b:St},Wk a b→∀ (i:Nat) v,a[i]? = some (some v)→b[i]? = some (some v)
  | [],[],_,i,v,e=>by simp at e
  | Option.none :: r,y :: q,h,0,v,e=>by simp at e
  | Option.none :: r,y :: q,h,i + 1,v,e=>by simpa using Wk.get (a:=r) (b:=q) h i v (by simpa using e)
  | some x :: r,y :: q,h,0,v,e=>by
    have e':x = v:=by simpa using e
    rw [h.1,e'] <;> simp
  | some x :: r,y :: q,h,i + 1,v,e=>by simpa using Wk.get (a:=r) (b:=q) h.2 i v (by simpa using e)
  | [],_ :: _,h,_,_,_=>h.elim
  | Option.none :: _,[],h,_,_,_=>h.elim
  | some _ :: _,[],h,_,_,_=>h.elim
def dw (cells:List (Str×Addr)):List (Str×NameKind)→List (Str×Addr)→List (Str×Addr)
  | [],acc=>acc
  | (n,k) :: r,acc=>if k == .free then dw cells r ((n,(cells.lookup n).getD 0) :: acc) else dw cells r acc
theorem d7 {sc:Scope} {env:Env} (h:∀ y ∈ sc.names,y.2 = .free→∃ c,env.cells.lookup y.1 = some c):closureFor sc env = pure (dw env.cells sc.names []):=by
  unfold closureFor
  have key:∀ (l:List (Str×NameKind)) (acc:List (Str×Addr)),(∀ y ∈ l,y.2 = .free→∃ c,env.cells.lookup y.1 = some c) →
      (forIn l acc fun x r=>match x with | (name,kind)=>if (kind == .free) = true then do let a ← cellOf env name; pure (ForInStep.yield ((name,a) :: r)) else pure (ForInStep.yield r):Sem (List (Str×Addr))) = pure (dw env.cells l acc):=by
    intro l
    induction l with
    | nil=>intro acc _; rfl
    | cons y r ih =>
      intro acc hy
      obtain ⟨n,k⟩:=y
      have hr:∀ y ∈ r,y.2 = .free→∃ c,env.cells.lookup y.1 = some c:=fun y hm=>hy y (List.mem_cons_of_mem _ hm)
      rw [List.forIn_cons]
      by_cases hk:k = .free
      · subst hk
        obtain ⟨c,hc⟩:=hy (n,.free) List.mem_cons_self rfl
        have e1:cellOf env n = pure c:=by unfold cellOf; rw [hc]
        have e2:dw env.cells ((n,.free) :: r) acc = dw env.cells r ((n,c) :: acc):=by
          show (if (NameKind.free == NameKind.free) = true then dw env.cells r ((n,(env.cells.lookup n).getD 0) :: acc) else dw env.cells r acc) = _
          rw [if_pos (by decide),hc]; rfl
        rw [e2,← ih ((n,c) :: acc) hr]
        show (do let x ← (if (NameKind.free == NameKind.free) = true then do let a ← cellOf env n; pure (ForInStep.yield ((n,a) :: acc)) else pure (ForInStep.yield acc):Sem _); _) = _
        rw [if_pos (by decide),e1]
        rfl
      · have hb:(k == NameKind.free) = false:=by simpa using hk
        have e2:dw env.cells ((n,k) :: r) acc = dw env.cells r acc:=by
          show (if (k == NameKind.free) = true then dw env.cells r ((n,(env.cells.lookup n).getD 0) :: acc) else dw env.cells r acc) = _
          rw [hb]; rfl
        rw [e2,← ih acc hr]
        show (do let x ← (if (k == NameKind.free) = true then do let a ← cellOf env n; pure (ForInStep.yield ((n,a) :: acc)) else pure (ForInStep.yield acc):Sem _); _) = _
        rw [hb]
        rfl
  have:=key sc.names [] h
  first | exact this | (rw [this]; rfl) | simpa using this
theorem dB {cells:List (Str×Addr)}:∀ {l:List (Str×NameKind)} {acc:List (Str×Addr)} {n:Str} {c:Addr},(∀ y ∈ l,y.2 = .free→∃ c,cells.lookup y.1 = some c)→(∀ n c,acc.lookup n = some c→cells.lookup n = some c) →
    (dw cells l acc).lookup n = some c→cells.lookup n = some c
  | [],acc,n,c,_,ha,e=>ha n c e
  | (m,k) :: r,acc,n,c,hl,ha,e=>by
    have hr:∀ y ∈ r,y.2 = .free→∃ c,cells.lookup y.1 = some c:=fun y hm=>hl y (List.mem_cons_of_mem _ hm)
    have e':(if (k == NameKind.free) = true then dw cells r ((m,(cells.lookup m).getD 0) :: acc) else dw cells r acc).lookup n = some c:=e
    by_cases hk:(k == NameKind.free) = true
    · rw [if_pos hk] at e'
      refine dB hr (fun n c z=>?_) e'
      obtain ⟨d,hd⟩:=hl (m,k) List.mem_cons_self (by simpa using hk)
      rw [List.lookup_cons] at z
      by_cases hn:(n == m) = true
      · rw [hn] at z
        have:n = m:=by simpa using hn
        subst this
        have hd':cells.lookup n = some d:=hd
        rw [hd'] at z ⊢
        simpa using z
      · have hn':(n == m) = false:=by simpa using hn
        rw [hn'] at z
        exact ha n c z
    · rw [if_neg hk] at e'
      exact dB hr ha e'
theorem eU {cells:List (Str×Addr)}:∀ {l:List (Str×NameKind)} {acc:List (Str×Addr)} {n:Str},((n,NameKind.free) ∈ l∨∃ c,acc.lookup n = some c)→∃ c,(dw cells l acc).lookup n = some c
  | [],acc,n,h=>by
    rcases h with h | h
    · cases h
    · exact h
  | (m,k) :: r,acc,n,h=>by
    show ∃ c,(if (k == NameKind.free) = true then dw cells r ((m,(cells.lookup m).getD 0) :: acc) else dw cells r acc).lookup n = some c
    have hcons:∀ a,n = m∨(∃ c,acc.lookup n = some c)→∃ c,((m,a) :: acc).lookup n = some c:=fun a z=>by
      rw [List.lookup_cons]
      by_cases hn:(n == m) = true
      · rw [hn]; exact ⟨_,rfl⟩
      · have hn':(n == m) = false:=by simpa using hn
        rw [hn']
        rcases z with z | z
        · exact absurd (by simpa using z) hn
        · exact z
    by_cases hk:(k == NameKind.free) = true
    · rw [if_pos hk]
      refine eU ?_
      rcases h with h | h
      · rcases List.mem_cons.mp h with e | h
        · exact .inr (hcons _ (.inl (congrArg Prod.fst e)))
        · exact .inl h
      · exact .inr (hcons _ (.inr h))
    · rw [if_neg hk]
      refine eU ?_
      rcases h with h | h
      · rcases List.mem_cons.mp h with e | h
        · have:k = .free:=(congrArg Prod.snd e).symm
          rw [this] at hk
          exact absurd (by decide) hk
        · exact .inl h
      · exact .inr h
def rlb (env:Env) (p:Str×NameKind):Str×NameKind:=if (p.2 == NameKind.free && env.scope.kind == ScopeKind.function && env.kindOf p.1 == some NameKind.cell) = true then (p.1,NameKind.cell) else p
theorem iL (sc:Scope) (env:Env):(relabel sc env).names = sc.names.map (rlb env):=rfl
theorem sM (env:Env) (p:Str×NameKind):(rlb env p).1 = p.1:=by
  unfold rlb
  split <;> rfl
theorem qt {env:Env} {p:Str×NameKind} (h:p.2≠.cell) (h2:(rlb env p).2 = .cell∨(rlb env p).2 = .free):p.2 = .free:=by
  unfold rlb at h2
  split at h2
  · rename_i q
    rw [Bool.and_eq_true,Bool.and_eq_true] at q
    simpa using q.1.1
  · rcases h2 with h2 | h2
    · exact absurd h2 h
    · exact h2
theorem fh {env:Env}:∀ {names:List (Str×NameKind)} {x:Str} {k:NameKind},(∀ y ∈ names,y.2≠.cell)→(k = .cell∨k = .free)→(names.map (rlb env)).lookup x = some k→(x,NameKind.free) ∈ names
  | [],x,k,_,_,e=>by simp at e
  | p :: r,x,k,hc,hk,e=>by
    have hr:∀ y ∈ r,y.2≠.cell:=fun y hm=>hc y (List.mem_cons_of_mem _ hm)
    have e0:rlb env p = (p.1,(rlb env p).2):=by rw [← sM env p]
    rw [List.map_cons,e0,List.lookup_cons] at e
    by_cases hx:x = p.1
    · have hb:(x == p.1) = true:=by simpa using hx
      rw [hb] at e
      have e2:(rlb env p).2 = k:=Option.some.inj e
      have hj:=qt (env:=env) (hc p List.mem_cons_self) (by rw [e2]; exact hk)
      have:(x,NameKind.free) = p:=by rw [hx,← hj]
      rw [this]
      exact List.mem_cons_self
    · have hb:(x == p.1) = false:=by simpa using hx
      rw [hb] at e
      exact List.mem_cons_of_mem _ (fh hr hk e)
theorem dY {env:Env} {sc:Scope} {x:Str} {k:NameKind} (hc:∀ y ∈ sc.names,y.2≠.cell) (hk:k = .cell∨k = .free) (e:(relabel sc env).names.lookup x = some k):(x,NameKind.free) ∈ sc.names :=
  fh (env:=env) hc hk (by rw [← iL]; exact e)
def oF (ix:List (Option Nat)) (σ:St):St:=ix.map fun o=>o.bind fun i=>(σ[i]?).join
def FreeOk (XN:List Str) (env:Env) (sc:Scope):List Str→List (Option Nat)→Prop
  | [],[]=>True
  | _ :: N,Option.none :: ix=>FreeOk XN env sc N ix
  | y :: N,some i :: ix=>XN[i]? = some y∧env.kindOf y = some .cell∧(relabel sc env).names.lookup y = some .cell∧FreeOk XN env sc N ix
  | _,_=>False
theorem FreeOk.len {XN:List Str} {env:Env} {sc:Scope}:∀ {N:List Str} {ix:List (Option Nat)},FreeOk XN env sc N ix→ix.length = N.length
  | [],[],_=>rfl
  | _ :: N,Option.none :: ix,h=>congrArg (· + 1) (FreeOk.len (N:=N) (ix:=ix) h)
  | _ :: N,some _ :: ix,h=>congrArg (· + 1) (FreeOk.len (N:=N) (ix:=ix) h.2.2.2)
  | [],_ :: _,h=>h.elim
  | _ :: _,[],h=>h.elim
theorem FreeOk.get {XN:List Str} {env:Env} {sc:Scope}:∀ {N:List Str} {ix:List (Option Nat)},FreeOk XN env sc N ix→∀ (j:Nat) (y:Str) (i:Nat),N[j]? = some y→ix[j]? = some (some i) →
    XN[i]? = some y∧env.kindOf y = some .cell∧(relabel sc env).names.lookup y = some .cell
  | [],[],_,j,y,i,e,_=>by simp at e
  | _ :: N,Option.none :: ix,h,0,y,i,e,e2=>by simp at e2
  | _ :: N,Option.none :: ix,h,j + 1,y,i,e,e2=>FreeOk.get (N:=N) (ix:=ix) h j y i (by simpa using e) (by simpa using e2)
  | z :: N,some k :: ix,h,0,y,i,e,e2=>by
    have e':z = y:=by simpa using e
    have e2':k = i:=by simpa using e2
    subst e'; subst e2'
    exact ⟨h.1,h.2.1,h.2.2.1⟩
  | _ :: N,some _ :: ix,h,j + 1,y,i,e,e2=>FreeOk.get (N:=N) (ix:=ix) h.2.2.2 j y i (by simpa using e) (by simpa using e2)
  | [],_ :: _,h,_,_,_,_,_=>h.elim
  | _ :: _,[],h,_,_,_,_,_=>h.elim
def cxB (X:Cx) (sc:Scope) (C:Addr) (N:List Str) (s₀:Shared) (H₀:Hp) (fp:List Addr):Cx :=
  { X with N:=N,s₀:=s₀,H₀:=H₀,env:=compEnvC sc (dw X.env.cells sc.names []) C X.env,outer:=X.stack,ex:=fp,fn:=fun _=>false,pn:=[],xe:=fun _ _=>False }
structure CompOk (X:Cx) (sc:Scope) (N:List Str) (ix:List (Option Nat)):Prop where
  kind:sc.kind = .function
  nocell:(sc.names.all fun y=>y.2 != .cell) = true
  names:(sc.names.all fun y=>y.2 != .local || sc.names.lookup y.1 == some .local) = true
  free:(sc.names.all fun y=>y.2 != .free || X.env.scope.names.lookup y.1 == some .cell) = true
  fr:FreeOk X.N X.env sc N ix
section
variable {X:Cx} {sc:Scope} {N:List Str} {ix:List (Option Nat)} {pins:List (Addr×Obj)} {σ:St} {H:Hp} {s:Shared}
theorem CompOk.cells (c:CompOk X sc N ix) (ok:X.Ok):∀ y ∈ sc.names,y.2 = .free→∃ c,X.env.cells.lookup y.1 = some c:=fun y hy e=>by
  have h:=List.all_eq_true.mp c.free y hy
  rw [e] at h
  have h':X.env.scope.names.lookup y.1 = some .cell:=by simpa using h
  exact ok.has y.1 (.inl h')
theorem CompOk.nc (c:CompOk X sc N ix):∀ y ∈ sc.names,y.2≠.cell:=fun y hy=>by simpa using List.all_eq_true.mp c.nocell y hy
theorem CompOk.nm (c:CompOk X sc N ix):∀ y ∈ sc.names,y.2 = .local→sc.names.lookup y.1 = some .local:=fun y hy e=>by
  have h:=List.all_eq_true.mp c.names y hy
  rw [e] at h
  simpa using h
theorem oG {C:Addr} {fp:List Addr} {h₁:Heap} {t':Nat} (c:CompOk X sc N ix) (I:Inv X pins σ H s) (hf:∀ b ∈ fp,fA X pins H b) (hfp:∀ b ∈ fp,b < s.heap.objs.size) (hC:s.heap.objs.size≤C)
    (hn:h₁.Ns C (fun _=>none)) (old:∀ b o,s.heap.get? b = some o→h₁.get? b = some o):Inv (cxB X sc C N s H fp) [] (oF ix σ) H { s with heap:=h₁,toks:=t' }:=by
  have hcells:=c.cells I.ok
  have sub:∀ n c,(dw X.env.cells sc.names []).lookup n = some c→X.env.cells.lookup n = some c:=fun n c e=>dB hcells (fun n c z=>by simp at z) e
  refine ⟨⟨I.ok.mod,c.kind,I.ok.glob,I.ok.blt,hC,fun x y d h1 h2=>I.ok.inj x y d (sub x d h1) (sub y d h2),fun x hx=>?_,fun x d z=>absurd z (by simp [cxB]),I.ok.hd,I.ok.frames,.inl rfl,fun b hb=>⟨?_,fun x d e=>?_⟩,I.bs,Nat.le_trans I.ok.bsz I.sz,fun b o e hb=>?_,fun b hb hs=>?_,I.stack,I.stkFree⟩,
    rfl,I.bare,Un.kept old,⟨_,hn,fun j y v e1 e2 e3=>?_⟩,fun x d e=>?_,I.hok.fresh hC,fun x d e=>I.freeC x d (sub x d e),fun p hp=>absurd (show p ∈ ([]:List (Addr×Obj)) from hp) (by simp),I.hok.kept old,?_⟩
  · refine eU (.inl ?_)
    rcases hx with hx | hx
    · exact dY c.nc (.inl rfl) (show (relabel sc X.env).names.lookup x = some .cell from hx)
    · exact dY c.nc (.inr rfl) (show (relabel sc X.env).names.lookup x = some .free from hx)
  · exact Nat.ne_of_lt (Nat.lt_of_lt_of_le (hfp b hb) hC)
  · exact (hf b hb).2.2.2.2.1 x d (sub x d e)
  · rcases (hf b hb).2.2.2.1 with z | z
    · exact I.ok.noex b o e z
    · exact absurd (Nat.lt_of_lt_of_le (Heap.lt_size e) (Nat.le_trans I.ok.bsz z)) (Nat.lt_irrefl _)
  · rcases List.mem_cons.mp (I.stkSub b hs) with z | z
    · exact (hf b hb).2.1 z
    · exact (hf b hb).2.2.1 z
  · have hj:∃ i,ix[j]? = some (some i)∧σ[i]? = some (some v):=by
      unfold oF at e2
      rw [List.getElem?_map] at e2
      cases q:ix[j]? with
      | none=>rw [q] at e2; cases e2
      | some o =>
        rw [q] at e2
        cases o with
        | none=>cases e2
        | some i =>
          refine ⟨i,rfl,?_⟩
          have e2':(σ[i]?).join = some v:=Option.some.inj e2
          cases q2:σ[i]? with
          | none=>rw [q2] at e2'; cases e2'
          | some w=>rw [q2] at e2'; exact congrArg some e2'
    obtain ⟨i,hi,hv⟩:=hj
    obtain ⟨k1,k2,k3⟩:=c.fr.get j y i e1 hi
    obtain ⟨m,hm,hl⟩:=I.loc
    obtain ⟨u,r,l⟩:=hl i y v k1 hv (.inr (.inl k2))
    refine ⟨u,r,?_⟩
    rcases l with ⟨z,_⟩ | ⟨_,d,hd,hcell⟩
    · rw [k2] at z; cases z
    · obtain ⟨d',hd'⟩:∃ d',(dw X.env.cells sc.names []).lookup y = some d':=eU (.inl (dY c.nc (.inl rfl) k3))
      have:=sub y d' hd'
      rw [hd] at this
      cases this
      exact .inr ⟨.inl k3,d,hd',hcell.keeps old⟩
  · obtain ⟨v,z⟩:=I.cell x d (sub x d e)
    exact ⟨v,z.keeps old⟩
  · show (oF ix σ).length = N.length
    unfold oF
    rw [List.length_map,c.fr.len]
theorem kQ {C:Addr} {fp:List Addr} {pins':List (Addr×Obj)} {σ':St} {H':Hp} {s':Shared} (I:Inv X pins σ H s) (hf:∀ b ∈ fp,fA X pins H b) (J:Inv (cxB X sc C N s H fp) pins' σ' H' s'):Inv X pins σ H' s':=by
  refine I.call' (ch:=fp) J.os J.base J.hok J.bare fun b hb=>?_
  obtain ⟨f0,f1,f2,f3,f4,f5⟩:=hf b hb
  exact ⟨f3,f1,f4,f5⟩
end
def PTs (X:Cx) (ifs:List Expr) (t:TT):Prop :=
  ∀ (pins:List (Addr×Obj)) (s:Shared) (σ:St) (H:Hp) (Q:Bool→Hp→Prop),Inv X pins σ H s→t σ H Q →
    wpAny (model X.prog X.w) X.A (forIn ifs true fun c r=>if r = true then do let ok ← isTrue c X.env (eval c X.env); pure (ForInStep.yield ok) else pure (ForInStep.yield r)) (TP X pins σ Q) X.xe s
def zh:TT:=fun _ H Q=>Q true H
theorem cA {X:Cx}:PTs X [] zh:=fun _ _ _ H _ I h=>wpAny_tests_nil ⟨H,I,h⟩
theorem gO {X:Cx} {c:Expr} {t:TT} (h:PT X c t):PTs X [c] t:=fun pins s σ H Q I hw=>wpAny_tests_one (h pins s σ H Q I hw)
def lc (J:It) (D:Addr) (σb:St) (g:TG) (tt:TT) (te:TE) (Q:Hp→List V→Prop) (W:Nat→Nat→List V→Hp→Prop):Prop :=
  ∀ i m ys H,W i m ys H→H D = some (.lst ys)∧((J.stop i H∧Q H ys)∨(J.go i H∧∀ x H3,J.yld i H x H3→g x σb H3 fun σ4 H4=>Wk σb σ4∧tt σ4 H4 fun b H5 =>
    if b = true then te σ4 H5 fun y H6=>H6 D = some (.lst ys)∧ys.length < sizeLine∧∃ m',m' < m∧W (i + 1) m' (ys ++ [y]) (upd H6 D (.lst (ys ++ [y]))) else ∃ m',m' < m∧W (i + 1) m' ys H5))
def uK (ix:List (Option Nat)) (wi:TI) (g:TG) (tt:TT) (te:TE):TE:=fun σ H Q=>wi σ H fun J H1=>∀ D,H1 D = none→∃ W,(∃ m,W 0 m [] (upd H1 D (.lst [])))∧lc J D (oF ix σ) g tt te (fun H _=>Q (.ref D) H) W
section
variable {X:Cx} {sc:Scope} {N:List Str} {ix:List (Option Nat)} {elt tg iter:Expr} {ifs:List Expr} {pos:Pos} {wi:TI} {g:TG} {tt:TT} {te:TE}
structure Blk (X:Cx) (sc:Scope) (N:List Str) (tg elt:Expr) (ifs:List Expr) (g:TG) (tt:TT) (te:TE):Prop where
  tg:∀ C s H fp,PG (cxB X sc C N s H fp) tg g
  tests:∀ C s H fp,PTs (cxB X sc C N s H fp) ifs tt
  elt:∀ C s H fp,PE (cxB X sc C N s H fp) elt te
theorem pK {J:It} {fp:List Addr} {it D:Addr} {tn:Nat→Heap→Prop} {σb:St} {Q:Hp→List V→Prop} {R:Result→Shared→Prop} {W:Nat→Nat→List V→Hp→Prop}
    (hc:X.calm = true) (hxe:X.xe = fun _ _=>False) (T:Turn X.prog X.w X.K tg J fp it tn) (hg:PG X tg g) (ht:PTs X ifs tt) (he:PE X elt te) (turn:lc J D σb g tt te Q W)
    (stat:∀ {H':Hp},(∀ b ∈ fp,H' b = none)→∀ b ∈ fp,fA X [] H' b)
    (fin:∀ {σ':St} {H':Hp} {s':Shared} {ys:List V},Inv X [] σ' H' s'→Q H' ys→R (.ok .next) s')
    {m0 i0:Nat} {ys0:List V} {H0:Hp} {s0:Shared} (I0:Inv X [] σb H0 s0) (st0:tn i0 s0.heap) (fr0:∀ b ∈ fp,H0 b = none) (w0:W i0 m0 ys0 H0) :
    codeAny (model X.prog X.w) X.A (.compLoop (.ListComp elt [⟨tg,iter,ifs,0⟩] sc pos) 0 (.ref it) (.ref D) X.env) R s0:=by
  have noE:∀ {E':Value→Shared→Prop} (e:Value) (s':Shared),X.xe e s'→E' e s':=fun {E'} e s' z=>by rw [hxe] at z; exact z.elim
  refine codeAny_loop rfl (fun n s'=>∃ i ys H',Inv X [] σb H' s'∧tn i s'.heap∧(∀ b ∈ fp,H' b = none)∧W i n ys H') ?_ m0 ⟨i0,ys0,H0,I0,st0,fr0,w0⟩
  rintro n s3 ⟨i,ys,H3,I3,st3,fr3,w3⟩
  show wpAny _ X.A ((compTurn (.ListComp elt [⟨tg,iter,ifs,0⟩] sc pos) 0 (.ref it) (.ref D) X.env).onRaise (fun x=>do noteFrame x X.env; theTreesLotGoes x)) _ _ s3
  refine wpAny_noted ?_
  rw [compTurn_list]
  refine wpAny_bind (wpAny_standAt (wpAny_bind ?_))
  obtain ⟨hDl,next⟩:=turn i n ys H3 w3
  rcases next with ⟨stop,q⟩ | ⟨go,step⟩
  · refine thn (T.done X rfl rfl rfl hc i [] s3 σb H3 _ I3 (stat fr3) st3 stop) fun r s4 ⟨hr,I4⟩=>?_
    subst hr
    exact wpAny_pure (fin I4 q)
  · refine thn (T.item X rfl rfl rfl hc i [] s3 σb H3 _ I3 (stat fr3) st3 go) fun r s4 ⟨u,hr,h4⟩=>?_
    subst hr
    refine wpAny_bind (thn h4 fun _ s5 ⟨x,H5,I5,r5,y5,st5,fr5⟩=>?_)
    have I5':=I5.pinned (stat fr5) (T.obj _ _ st5)
    have back:∀ {σ':St} {H':Hp} {s':Shared},Inv X ([] ++ gY fp s5.heap) σ' H' s'→Wk σb σ'→Inv X [] σb H' s'∧tn (i + 1) s'.heap∧∀ b ∈ fp,H' b = none:=fun {σ' H' s'} I7 wk=>by
      refine ⟨(I7.unpinned).weak wk.len wk.get,T.keep _ _ _ st5 fun b hb o e=>(I7.pin (b,o) (List.mem_append_right _ (List.mem_append_right _ (dW hb e)))).1,fun b hb=>?_⟩
      obtain ⟨o,e,d⟩:=T.obj _ _ st5 b hb
      exact (I7.pin (b,o) (List.mem_append_right _ (List.mem_append_right _ (dW hb e)))).2.1
    refine wpAny_bind (wpAny_mono (hg _ s5 σb H5 x u _ I5' r5 (step x H5 y5)) (fun _ s6 ⟨σ6,H6,I6,wk,q6⟩=>?_) noE)
    refine wpAny_bind (wpAny_mono (ht _ s6 σ6 H6 _ I6 q6) (fun ok s7 ⟨H7,I7,q7⟩=>?_) noE)
    cases ok with
    | false =>
      obtain ⟨m',hm,w7⟩:=q7
      obtain ⟨b1,b2,b3⟩:=back I7 wk
      exact wpAny_pure ⟨rfl,m',hm,i + 1,ys,H7,b1,b2,b3,w7⟩
    | true =>
      refine wpAny_bind (wpAny_bind (wpAny_mono (he _ s7 σ6 H7 _ I7 q7) (fun v s8 ⟨y,H8,I8,r8,hD8,hl8,m',hm,w8⟩=>?_) noE))
      refine wpAny_bind (wpAny_mono (je _ s8 σ6 H8 (.ref D) [y] (.ref D) [v] (fun _ H9=>H9 = upd H8 D (.lst (ys ++ [y]))) I8 rfl (.cons r8 .nil) ⟨D,ys,y,rfl,rfl,hD8,hl8,rfl⟩) (fun _ s9 ⟨z,H9,I9,_,e9⟩=>?_) noE)
      subst e9
      obtain ⟨b1,b2,b3⟩:=back I9 wk
      exact wpAny_pure (wpAny_pure ⟨rfl,m',hm,i + 1,ys ++ [y],_,b1,b2,b3,w8⟩)
theorem iU {pins:List (Addr×Obj)} {σ:St} {H:Hp} {s:Shared} {E:Value→Shared→Prop} {RR:Value→Addr→Result→Shared→Prop} {it:Addr} {fp:List Addr} {tn:Nat→Heap→Prop} {J:It} {Q:Addr→Hp→List V→Prop}
    (hc:X.calm = true) (c:CompOk X sc N ix) (B:Blk X sc N tg elt ifs g tt te) (I:Inv X pins σ H s) (T:Turn X.prog X.w X.K tg J fp it tn) (st:tn 0 s.heap) (hf:∀ b ∈ fp,fA X pins H b)
    (h:∀ D,H D = none→∃ W,(∃ m,W 0 m [] (upd H D (.lst [])))∧lc J D (oF ix σ) g tt te (Q D) W)
    (hR:∀ D C H' s' ys,Inv X pins σ H' s'→fA X pins H' C→(∃ m,s'.heap.Ns C m)→Q D H' ys→RR (.ref D) C (.ok .next) s') :
    wpAny (model X.prog X.w) X.A (newList []) (fun acc s₃=>wpAny (model X.prog X.w) X.A (newFunctionEnv sc X.env.globals (dw X.env.cells sc.names []) [] X.env.qual none .none (some X.env)) (fun cenv s₄ =>
      codeAny (model X.prog X.w) X.A (.compStart (.ListComp elt [⟨tg,iter,ifs,0⟩] sc pos) 0 (.ref it) acc { cenv with scope:=relabel sc X.env }) (RR acc cenv.locals) s₄) E s₃) E s:=by
  have hlt:∀ b ∈ fp,b < s.heap.objs.size:=fun b hb=>let ⟨o,e,_⟩:=T.obj _ _ st b hb; Heap.lt_size e
  refine wpAny_newObj_type ?_ (by show 0≤sizeLine; exact Nat.zero_le _)
  have hD:H s.heap.objs.size = none:=I.hok.fresh (Nat.le_refl _)
  obtain ⟨W,⟨m0,w0⟩,turn⟩:=h s.heap.objs.size hD
  have I1:Inv X pins σ (upd H s.heap.objs.size (.lst [])) { s with heap:=s.heap.push { cls:=.type "list",data:=.seq ([]:List Value).toArray } }:=I.lnew (t':=s.toks) (its:=[]) .nil (Nat.zero_le _)
  have k1:∀ b o,s.heap.get? b = some o→(s.heap.push { cls:=.type "list",data:=.seq ([]:List Value).toArray }).get? b = some o:=fun b o e=>Heap.get?_push_of_some _ e
  have hne:∀ b ∈ fp,b≠s.heap.objs.size:=fun b hb=>Nat.ne_of_lt (hlt b hb)
  have hf1:∀ b ∈ fp,fA X pins (upd H s.heap.objs.size (.lst [])) b:=fun b hb=>⟨by rw [ai (hne b hb)]; exact (hf b hb).1,(hf b hb).2⟩
  have st1:tn 0 (s.heap.push { cls:=.type "list",data:=.seq ([]:List Value).toArray }):=T.keep _ _ _ st fun b _ o e=>k1 b o e
  generalize hs1:({ s with heap:=s.heap.push { cls:=.type "list",data:=.seq ([]:List Value).toArray } }:Shared) = s1 at I1
  have hs1h:s1.heap = s.heap.push { cls:=.type "list",data:=.seq ([]:List Value).toArray }:=by rw [← hs1]
  generalize hDe:s.heap.objs.size = D at *
  show wpAny _ _ _ _ _ s1
  refine wpAny_newFunctionEnv c.nc (by intro y hy; simp at hy) (fun h₁ hns₁ hsb₁=>?_) c.kind
  have old:∀ b o,s1.heap.get? b = some o→h₁.get? b = some o:=fun b o e=>(hsb₁.2 b (Nat.ne_of_lt (Heap.lt_size e))).trans (Heap.get?_push_of_some _ e)
  have hlt1:∀ b ∈ fp,b < s1.heap.objs.size:=fun b hb=>by
    obtain ⟨o,e,_⟩:=T.obj _ _ st1 b hb
    rw [hs1h]
    exact Heap.lt_size e
  have J0:=oG (h₁:=h₁) (t':=s1.toks + ([]:List (Str×Value)).length) c I1 hf1 hlt1 (Nat.le_refl _) (by simpa using hns₁) old
  have stB:tn 0 h₁:=T.keep _ _ _ (by rw [hs1h]; exact st1:tn 0 s1.heap) fun b _ o e=>old b o e
  have fpB:∀ {H':Hp},(∀ b ∈ fp,H' b = none)→∀ b ∈ fp,fA (cxB X sc s1.heap.objs.size N s1 (upd H D (.lst [])) fp) [] H' b:=fun {H'} hn b hb=>by
    obtain ⟨f0,f1,f2,f3,f4,f5⟩:=hf1 b hb
    refine ⟨hn b hb,Nat.ne_of_lt (hlt1 b hb),?_,.inl hb,fun x d e=>f4 x d (dB (c.cells I.ok) (fun n c z=>by simp at z) e),fun p hp=>absurd (show p ∈ ([]:List (Addr×Obj)) from hp) (by simp)⟩
    intro z
    rcases List.mem_cons.mp (I1.stkSub b z) with q | q
    · exact f1 q
    · exact f2 q
  have fin:∀ {σ':St} {H':Hp} {s':Shared} {ys:List V},Inv (cxB X sc s1.heap.objs.size N s1 (upd H D (.lst [])) fp) [] σ' H' s'→Q D H' ys→RR (.ref D) s1.heap.objs.size (.ok .next) s':=fun {σ' H' s' ys} J q =>
    hR D _ H' s' ys (kQ I1 hf1 J) (I1.fpOk (Nat.le_refl _) J.free) (let ⟨m,hn,_⟩:=J.loc; ⟨m,hn⟩) q
  have loop:codeAny (model X.prog X.w) X.A (.compLoop (.ListComp elt [⟨tg,iter,ifs,0⟩] sc pos) 0 (.ref it) (.ref D) (cxB X sc s1.heap.objs.size N s1 (upd H D (.lst [])) fp).env) (RR (.ref D) s1.heap.objs.size) { s1 with heap:=h₁,toks:=s1.toks + ([]:List (Str×Value)).length } :=
    pK (X:=cxB X sc s1.heap.objs.size N s1 (upd H D (.lst [])) fp) hc rfl T (B.tg _ _ _ _) (B.tests _ _ _ _) (B.elt _ _ _ _) turn fpB fin J0 stB (fun b hb=>(hf1 b hb).1) w0
  exact codeAny_compStart_list loop (T.self _ 0 _ _ _ stB loop)
theorem cC (hc:X.calm = true) (c:CompOk X sc N ix) (hi:PI X tg iter wi) (B:Blk X sc N tg elt ifs g tt te) (hs:∀ x,foldedSetIterable iter X.env x = pure x:=by intro _; rfl):PE X (.ListComp elt [⟨tg,iter,ifs,0⟩] sc pos) (uK ix wi g tt te):=by
  intro pins s σ H Q I h
  rw [eval_ListComp]
  refine wpAny_comprehension_free (use:=none) rfl hs (d7 (c.cells I.ok)) c.kind c.nm (thn (hi pins s σ H _ I h) fun xv s₁ h₁=>thn h₁ fun itv s₂ h₂=>?_)
  obtain ⟨it,fp,tn,J,H2,e,I2,T,st2,f2,q2⟩:=h₂
  subst e
  refine iU (RR:=fun acc C=>compPost (model X.prog X.w) X.A X.xe none (EP X pins σ Q) acc C) (Q:=fun D H _=>Q (.ref D) H) hc c B I2 T st2 f2 q2 ?_
  intro D C H' s' ys I' fC ns q
  refine ⟨_,ns.choose_spec,fun h' sb=>⟨.ref D,H',?_,rfl,q⟩⟩
  obtain ⟨f0,f1,f2,f3,f4,f5⟩:=fC
  exact I'.turned (t':=s'.toks) (fun b o hb e=>(sb.2 b hb).trans e) f0 f1 f3 f4 f5
theorem gQ {i:Nat} {y:Str} {py spos:Pos} (hc:X.calm = true) (hN:X.N.Nodup) (hy:X.N[i]? = some y) (hl:X.env.scope.names.lookup y = some .local)
    (hsw:swapsWith (.ListComp elt [⟨tg,iter,ifs,0⟩] sc pos) (some (.Name y py)) spos.line X.env = pure true)
    (c:CompOk X sc N ix) (hi:PI X tg iter wi) (B:Blk X sc N tg elt ifs g tt te) (hs:∀ x,foldedSetIterable iter X.env x = pure x:=by intro _; rfl) :
    PS X (.Assign [.Name y py] (.ListComp elt [⟨tg,iter,ifs,0⟩] sc pos) spos) (vT (uK ix wi g tt te) (r9 i)):=by
  intro pins s σ H D0 I h
  rw [exec_Assign_Name_used _ _ _ _ hsw]
  refine wpAny_bind (wpAny_standAt (wpAny_bind ?_))
  show wpAny _ X.A (do let _ ← comprehension (.ListComp elt [⟨tg,iter,ifs,0⟩] sc pos) sc X.env _ (newList []) false (eval iter X.env) (some (assign (.Name y py) X.env))) _ _ s
  refine wpAny_bind (wpAny_mono (wpAny_comprehension_free (use:=some (assign (.Name y py) X.env)) (Q:=fun _ s'=>SP X pins D0 .next s') rfl hs (d7 (c.cells I.ok)) c.kind c.nm
    (thn (hi pins s σ H _ I h) fun xv s₁ h₁=>thn h₁ fun itv s₂ h₂=>?_)) (fun _ s' hq=>wpAny_pure (wpAny_pure hq)) fun _ _ e=>e)
  obtain ⟨it,fp,tn,J,H2,e,I2,T,st2,f2,q2⟩:=h₂
  subst e
  refine iU (RR:=fun acc C=>compPost (model X.prog X.w) X.A X.xe (some (assign (.Name y py) X.env)) (fun _ s'=>SP X pins D0 .next s') acc C) (Q:=fun D H _=>D0.nx (σ.set i (some (.ref D))) H) hc c B I2 T st2 f2 q2 ?_
  intro D C H' s' ys I' fC ns q
  show wpAny _ X.A (assign (.Name y py) X.env (.ref D)) _ _ _
  obtain ⟨f0,f1,f2,f3,f4,f5⟩:=fC
  refine wpAny_assign_Name (jr I' hN hy (.inl hl) (v:=.ref D) rfl (fun s2 J2 ⟨a,sb,ha⟩=>?_) (.inr hl))
  obtain ⟨m,hn⟩:=ns
  have neC:C≠a:=by
    rcases ha with z | z
    · rw [z]; exact f1
    · exact fun e=>f4 y a z e.symm
  refine ⟨m,hn.sameBut sb neC,fun h3 sb3=>⟨_,H',?_,q⟩⟩
  exact J2.turned (t':=s2.toks) (fun b o hb e=>(sb3.2 b hb).trans e) f0 f1 f3 f4 f5
end
end L2
namespace L2
open PySem PySem.Spec PyProof.Rows
section
variable {κ:Type} [DecidableEq κ]
def cy (kvs:List (κ×V)) (k:κ):Option V:=(kvs.find? fun kv=>decide (kv.1 = k)).map (·.2)
def cM (kvs:List (κ×V)) (k:κ) (v:V):List (κ×V) :=
  if (kvs.any fun kv=>decide (kv.1 = k)) = true then kvs.map (fun kv=>if kv.1 = k then (kv.1,v) else kv) else kvs ++ [(k,v)]
def qK (kvs:List (κ×V)) (k:κ):List (κ×V):=kvs.filter fun kv=>decide (kv.1≠k)
theorem bR {p:κ×V} {r:List (κ×V)} {k:κ} (e:p.1 = k):cy (p :: r) k = some p.2:=by simp [cy,List.find?_cons,e]
theorem bT {p:κ×V} {r:List (κ×V)} {k:κ} (e:¬ p.1 = k):cy (p :: r) k = cy r k:=by simp [cy,List.find?_cons,e]
theorem fV (k:κ):∀ kvs:List (κ×V),(kvs.any fun kv=>decide (kv.1 = k)) = (cy kvs k).isSome
  | []=>rfl
  | p :: r=>by
    rw [List.any_cons]
    by_cases e:p.1 = k
    · simp only [bR e,decide_eq_true e,Bool.true_or,Option.isSome_some]
    · rw [bT e,decide_eq_false e,Bool.false_or]; exact fV k r
theorem lF (k j:κ) (y:V):∀ kvs:List (κ×V),cy (kvs.map fun kv=>if kv.1 = k then (kv.1,y) else kv) j = (cy kvs j).map fun x=>if j = k then y else x
  | []=>rfl
  | p :: r=>by
    have ih:=lF k j y r
    rw [List.map_cons]
    by_cases h:p.1 = k
    · rw [if_pos h]
      by_cases e:p.1 = j
      · rw [bR (p:=(p.1,y)) e,bR e,Option.map_some,if_pos (e.symm.trans h)]
      · rw [bT (p:=(p.1,y)) e,bT e,ih]
    · rw [if_neg h]
      by_cases e:p.1 = j
      · rw [bR (p:=p) e,bR e,Option.map_some,if_neg (fun z=>h (e.trans z))]
      · rw [bT (p:=p) e,bT e,ih]
theorem iY (k j:κ) (y:V):∀ kvs:List (κ×V),cy kvs k = none→cy (kvs ++ [(k,y)]) j = if j = k then some y else cy kvs j
  | [],_=>by
    by_cases e:k = j
    · rw [if_pos e.symm]; exact bR (p:=(k,y)) e
    · rw [if_neg (fun z=>e z.symm)]; exact bT (p:=(k,y)) e
  | p :: r,hn=>by
    rw [List.cons_append]
    have hk:¬ p.1 = k:=fun z=>by rw [bR z] at hn; cases hn
    rw [bT hk] at hn
    have ih:=iY k j y r hn
    by_cases e:p.1 = j
    · rw [bR e,bR e,if_neg (fun z=>hk (e.trans z))]
    · rw [bT e,bT e,ih]
theorem kx (kvs:List (κ×V)) (k j:κ) (y:V):cy (cM kvs k y) j = if j = k then some y else cy kvs j:=by
  unfold cM
  by_cases a:(kvs.any fun kv=>decide (kv.1 = k)) = true
  · rw [if_pos a,lF]
    rw [fV] at a
    by_cases e:j = k
    · obtain ⟨x,hx⟩:=Option.isSome_iff_exists.mp a
      rw [if_pos e,e,hx,Option.map_some,if_pos rfl]
    · rw [if_neg e]
      cases cy kvs j with
      | none=>rfl
      | some x=>rw [Option.map_some,if_neg e]
  · rw [if_neg a]
    refine iY k j y kvs ?_
    rw [fV] at a
    cases q:cy kvs k with
    | none=>rfl
    | some x=>rw [q] at a; exact (a rfl).elim
theorem dh (kvs:List (κ×V)) (k:κ) (v:V):(cM kvs k v).length≤kvs.length + 1:=by
  unfold cM
  split
  · rw [List.length_map]; omega
  · rw [List.length_append,List.length_cons,List.length_nil]; omega
theorem RelO.isSome_eq {o:Option V} {u:Option Value} (r:RelO o u):o.isSome = u.isSome:=by
  cases o with
  | none=>cases u with
    | none=>rfl
    | some _=>exact (show False from r).elim
  | some _=>cases u with
    | none=>exact (show False from r).elim
    | some _=>rfl
theorem RelO.getD {o:Option V} {u:Option Value} {d:V} {d':Value} (r:RelO o u) (rd:RelV d d'):RelV (o.getD d) (u.getD d'):=by
  cases o with
  | none=>cases u with
    | none=>exact rd
    | some _=>exact (show False from r).elim
  | some _=>cases u with
    | none=>exact (show False from r).elim
    | some _=>exact r
theorem KV.val {kvs:List (κ×V)} {vs:List (κ×Value)} (r:KV kvs vs) (k:κ):RelO (cy kvs k) (valueAt vs k):=by
  unfold KV at r
  induction r with
  | nil=>exact True.intro
  | @cons p q ps qs h t ih =>
    obtain ⟨h1,h2⟩:=h
    by_cases e:p.1 = k
    · have e':q.1 = k:=h1.symm.trans e
      have b:valueAt (q :: qs) k = some q.2:=by simp [valueAt,List.find?_cons,e']
      rw [bR e,b]; exact h2
    · have e':¬ q.1 = k:=fun z=>e (h1.trans z)
      have b:valueAt (q :: qs) k = valueAt qs k:=by simp [valueAt,List.find?_cons,e']
      rw [bT e,b]; exact ih
theorem KV.any {kvs:List (κ×V)} {vs:List (κ×Value)} (r:KV kvs vs) (k:κ):(kvs.any fun kv=>decide (kv.1 = k)) = vs.any fun kv=>decide (kv.1 = k):=by
  unfold KV at r
  induction r with
  | nil=>rfl
  | cons h t ih=>rw [List.any_cons,List.any_cons,ih,h.1]
theorem KV.repl {kvs:List (κ×V)} {vs:List (κ×Value)} (r:KV kvs vs) (k:κ) {y:V} {u:Value} (ry:RelV y u) :
    KV (kvs.map fun kv=>if kv.1 = k then (kv.1,y) else kv) (vs.map fun kv=>if kv.1 = k then (kv.1,u) else kv):=by
  unfold KV at r ⊢
  induction r with
  | nil=>exact .nil
  | @cons p q ps qs h t ih =>
    rw [List.map_cons,List.map_cons]
    refine .cons ?_ ih
    obtain ⟨h1,h2⟩:=h
    by_cases e:p.1 = k
    · rw [if_pos e,if_pos (h1.symm.trans e)]; exact ⟨h1,ry⟩
    · rw [if_neg e,if_neg (fun z=>e (h1.trans z))]; exact ⟨h1,h2⟩
theorem KV.put {kvs:List (κ×V)} {vs:List (κ×Value)} (r:KV kvs vs) (k:κ) {y:V} {u:Value} (ry:RelV y u):KV (cM kvs k y) (stored vs k u):=by
  unfold cM stored
  rw [r.any k]
  by_cases e:(vs.any fun kv=>decide (kv.1 = k)) = true
  · rw [if_pos e,if_pos e]; exact r.repl k ry
  · rw [if_neg e,if_neg e]; exact Paired.snoc r ⟨rfl,ry⟩
theorem KV.length {kvs:List (κ×V)} {vs:List (κ×Value)} (r:KV kvs vs):kvs.length = vs.length:=Paired.length r
end
theorem nh {P:Program} {w:World} {k:Key} {u:Value} (r:RelV (kV k) u):(bE P w).is k u = true:=by
  cases k with
  | inl i=>obtain ⟨t,e⟩:=(show ∃ t,u = Value.int i t from r); subst e; exact kO P w i t
  | inr x=>obtain ⟨t,e⟩:=(show ∃ t,u = Value.str x t from r); subst e; exact kU P w x t
theorem iX {P:Program} {w:World}:∀ {ks:List Key} {us:List Value},Vals (ks.map kV) us→ItemsAre (bE P w) ks us
  | [],_,r=>by rw [List.map_nil] at r; cases r; exact .nil
  | k :: ks,_,r=>by
    rw [List.map_cons] at r
    cases r with
    | cons h t=>exact .cons (nh h) (iX t)
abbrev KT (H:Hp):List (List Key×V)→List (List Key×Addr×Value)→Prop:=Paired fun p q=>p.1 = q.1∧H q.2.1 = some (.tup (p.1.map kV))∧RelV p.2 q.2.2
theorem KT.val {H:Hp} {kvs:List (List Key×V)} {xs:List (List Key×Addr×Value)} (r:KT H kvs xs) (k:List Key):RelO (cy kvs k) ((atKey xs k).map (·.2)):=by
  induction r with
  | nil=>exact True.intro
  | @cons p q ps qs h t ih =>
    obtain ⟨h1,_,h2⟩:=h
    by_cases e:p.1 = k
    · have e':q.1 = k:=h1.symm.trans e
      have b:atKey (q :: qs) k = some q.2:=by simp [atKey,List.find?_cons,e']
      rw [bR e,b]; exact h2
    · have e':¬ q.1 = k:=fun z=>e (h1.trans z)
      have b:atKey (q :: qs) k = atKey qs k:=by simp [atKey,List.find?_cons,e']
      rw [bT e,b]; exact ih
theorem KT.repl {H:Hp} {kvs:List (List Key×V)} {xs:List (List Key×Addr×Value)} (r:KT H kvs xs) (k:List Key) {y:V} {u:Value} (ry:RelV y u) :
    KT H (kvs.map fun kv=>if kv.1 = k then (kv.1,y) else kv) (xs.map (putAt k u)):=by
  induction r with
  | nil=>exact .nil
  | @cons p q ps qs h t ih =>
    rw [List.map_cons,List.map_cons]
    refine .cons ?_ ih
    obtain ⟨h1,h2,h3⟩:=h
    unfold putAt
    by_cases e:p.1 = k
    · rw [if_pos e,if_pos (h1.symm.trans e)]; exact ⟨h1,h2,ry⟩
    · rw [if_neg e,if_neg (fun z=>e (h1.trans z))]; exact ⟨h1,h2,h3⟩
theorem KT.put {H:Hp} {kvs:List (List Key×V)} {xs:List (List Key×Addr×Value)} (r:KT H kvs xs) (k:List Key) {b:Addr} {y:V} {u:Value} (hb:H b = some (.tup (k.map kV))) (ry:RelV y u) :
    KT H (cM kvs k y) (storedH xs k b u):=by
  have e:(kvs.any fun kv=>decide (kv.1 = k)) = (atKey xs k).isSome:=by
    rw [fV,(r.val k).isSome_eq,Option.isSome_map]
  unfold cM storedH
  rw [e]
  by_cases q:(atKey xs k).isSome = true
  · rw [if_pos q,if_pos q]; exact r.repl k ry
  · rw [if_neg q,if_neg q]; exact Paired.snoc r ⟨rfl,hb,ry⟩
theorem KT.keeps {H H':Hp} {kvs:List (List Key×V)} {xs:List (List Key×Addr×Value)} (r:KT H kvs xs) (ht:∀ b ys,H b = some (.tup ys)→H' b = some (.tup ys)):KT H' kvs xs :=
  Paired.mapP r fun _ _ z=>⟨z.1,ht _ _ z.2.1,z.2.2⟩
section
variable {P:Program} {w:World} {H:Hp} {h:Heap} {a:Addr}
theorem uX {u:HO} (ok:HOk P w H h) (e:Rd H a u):ObjOk P w H h a u:=e.ok ok
theorem ll {kvs:List (Key×V)} (ok:HOk P w H h) (e:Rd H a (.dK kvs)):kvs.length≤sizeLine∧(a == sysModules) = false∧∃ vs,KV kvs vs∧h.DictOf (bE P w) a vs :=
  show ObjOk P w H h a (.dK kvs) from uX ok e
theorem xk {kvs:List (Key×V)} (ok:HOk P w H h) (e:H a = some (.dK kvs)):kvs.length≤sizeLine∧(a == sysModules) = false∧∃ vs,KV kvs vs∧h.DictOf (bE P w) a vs:=ll ok (.inl e)
theorem j5 {ks:List Key} (ok:HOk P w H h) (e:H a = some (.tup (ks.map kV))):(tupleKind (bE P w)).is h ks a:=by
  obtain ⟨_,its,r,o,h1,h2,n,h3⟩:=(show ObjOk P w H h a (.tup (ks.map kV)) from ok a _ e)
  exact ⟨o,its.toArray,n,h1,h2,h3,by simpa using iX r⟩
theorem kz {kvs:List (List Key×V)} (ok:HOk P w H h) (e:Rd H a (.dT kvs)):kvs.length≤sizeLine∧(a == sysModules) = false ∧
    ∃ xs,KT H kvs xs∧h.DictOfH (tupleKind (bE P w)) a xs:=by
  obtain ⟨z,y,xs,r,o,es,ep,h1,h2,h3,h4,h5⟩:=(show ObjOk P w H h a (.dT kvs) from uX ok e)
  refine ⟨z,y,xs,r,o,es,ep,h1,h2,h3,h4,fun x hx=>?_,h5⟩
  have all:∀ {l:List (List Key×V)} {m:List (List Key×Addr×Value)},KT H l m→∀ x ∈ m,(tupleKind (bE P w)).is h x.1 x.2.1:=by
    intro l m q
    induction q with
    | nil=>intro x hx; exact nomatch hx
    | @cons p q ps qs hq t ih =>
      intro x hx
      rcases List.mem_cons.mp hx with e | hx
      · subst e
        exact j5 ok (by rw [← hq.1]; exact hq.2.1)
      · exact ih x hx
  exact all r x hx
theorem wX {kvs:List (List Key×V)} (ok:HOk P w H h) (e:H a = some (.dT kvs)):kvs.length≤sizeLine∧(a == sysModules) = false ∧
    ∃ xs,KT H kvs xs∧h.DictOfH (tupleKind (bE P w)) a xs:=kz ok (.inl e)
end
def DGet (H:Hp) (a:Addr) (y:V) (r:Option V):Prop :=
  (∃ kvs k,Rd H a (.dK kvs)∧y = kV k∧r = cy kvs k)∨∃ kvs k b,Rd H a (.dT kvs)∧y = .ref b∧H b = some (.tup (k.map kV))∧r = cy kvs k
def DPut (H:Hp) (a:Addr) (y v:V) (H':Hp):Prop :=
  (∃ kvs k,H a = some (.dK kvs)∧y = kV k∧kvs.length < sizeLine∧H' = upd H a (.dK (cM kvs k v))) ∨
  ∃ kvs k b,H a = some (.dT kvs)∧y = .ref b∧H b = some (.tup (k.map kV))∧kvs.length < sizeLine∧H' = upd H a (.dT (cM kvs k v))
theorem DGet.k {H:Hp} {a:Addr} {kvs:List (Key×V)} {k:Key} (e:H a = some (.dK kvs)):DGet H a (kV k) (cy kvs k):=.inl ⟨kvs,k,.inl e,rfl,rfl⟩
theorem DGet.t {H:Hp} {a b:Addr} {kvs:List (List Key×V)} {k:List Key} (e:H a = some (.dT kvs)) (eb:H b = some (.tup (k.map kV))):DGet H a (.ref b) (cy kvs k):=.inr ⟨kvs,k,b,.inl e,rfl,eb,rfl⟩
theorem DPut.k {H:Hp} {a:Addr} {kvs:List (Key×V)} {k:Key} {v:V} (e:H a = some (.dK kvs)) (hl:kvs.length < sizeLine):DPut H a (kV k) v (upd H a (.dK (cM kvs k v))):=.inl ⟨kvs,k,e,rfl,hl,rfl⟩
theorem DPut.t {H:Hp} {a b:Addr} {kvs:List (List Key×V)} {k:List Key} {v:V} (e:H a = some (.dT kvs)) (eb:H b = some (.tup (k.map kV))) (hl:kvs.length < sizeLine) :
    DPut H a (.ref b) v (upd H a (.dT (cM kvs k v))):=.inr ⟨kvs,k,b,e,rfl,eb,hl,rfl⟩
section
variable {X:Cx} {pins:List (Addr×Obj)} {σ:St} {H:Hp} {s:Shared} {a:Addr} {y v:V} {u r:Value} {o:Option V} {A:Around} {E:Value→Shared→Prop}
theorem Inv.big (I:Inv X pins σ H s):sysModules < s.heap.objs.size:=by
  have h:mainGlobals < s.heap.objs.size:=(I.mod.glob.keeps I.bk).lt
  exact Nat.lt_trans (by decide) h
theorem oK {Q:Value→Shared→Prop} (hu:A.units + 1 < cLine) (I:Inv X pins σ H s) (g:DGet H a y (some v)) (ry:RelV y u) (h:∀ w' s',Inv X pins σ H s'→RelV v w'→Q w' s') :
    wpAny (model X.prog X.w) A (getItem (.ref a) u) Q E s:=by
  rcases g with ⟨kvs,k,e,ey,l⟩ | ⟨kvs,k,b,e,ey,eb,l⟩
  · subst ey
    obtain ⟨z,hd,vs,rel,dd⟩:=ll I.hok e
    obtain ⟨w',hw,rw'⟩:=RelO.some_of (v:=v) (o:=valueAt vs k) (by rw [l]; exact rel.val k)
    exact wpAny_getItem_of (nh ry) dd.mapOf hw (h w' _ (I.tok _) rw')
  · subst ey
    cases (show u = Value.ref b from ry)
    obtain ⟨z,hd,xs,rel,dd⟩:=kz I.hok e
    obtain ⟨w',hw,rw'⟩:=RelO.some_of (v:=v) (o:=(atKey xs k).map (·.2)) (by rw [l]; exact rel.val k)
    obtain ⟨p,hp,hp2⟩:=Option.map_eq_some_iff.mp hw
    refine wpAny_getItem_heap (tupleKind_room_in1 hu) (j5 I.hok eb) dd hp ?_
    rw [hp2]
    exact h w' _ (I.tok _) rw'
theorem ou {h':Heap} {t':Nat} {ob:HO} (I:Inv X pins σ H s) (mu:Mut (H a)) (hs:Heap.SameBut a s.heap h') (he:∃ q,h'.get? a = some q) (new:ObjOk X.prog X.w (upd H a ob) h' a ob) :
    Inv X pins σ (upd H a ob) { s with heap:=h',toks:=t' } :=
  I.write (x:=a) (e:=a) mu (.inl rfl) (fun b q hb z=>(hs.2 b hb).trans z) he new
theorem vA {P:Program} {w:World} {H':Hp} {h':Heap} {kvs:List (Key×V)} {vs:List (Key×Value)} (z:kvs.length≤sizeLine) (hd:(a == sysModules) = false) (rel:KV kvs vs) (dd:h'.DictOf (bE P w) a vs) :
    ObjOk P w H' h' a (.dK kvs):=⟨z,hd,vs,rel,dd⟩
theorem oZ {H':Hp} {Q:Unit→Shared→Prop} (hu:A.units + 1 < cLine) (I:Inv X pins σ H s) (g:DPut H a y v H') (ry:RelV y u) (rv:RelV v r) (h:∀ s',Inv X pins σ H' s'→Q () s') :
    wpAny (model X.prog X.w) A (setItem (.ref a) u r) Q E s:=by
  rcases g with ⟨kvs,k,e,ey,l,eH⟩ | ⟨kvs,k,b,e,ey,eb,l,eH⟩
  · subst ey eH
    obtain ⟨z,hd,vs,rel,dd⟩:=xk I.hok e
    have hz:vs.length≤sizeLine:=by rw [← rel.length]; exact z
    have hl:(cM kvs k v).length≤sizeLine:=by have:=dh kvs k v; omega
    refine wpAny_setItem_pairs (hsz:=hz) (nh ry) dd fun h' dd' hs=>h _ ?_
    have he:∃ q,h'.get? a = some q:=let ⟨q,_,_,hq,_⟩:=dd'; ⟨q,hq⟩
    exact ou I (by rw [e]; exact True.intro) hs he (vA hl hd (rel.put k rv) dd')
  · subst ey eH
    cases (show u = Value.ref b from ry)
    obtain ⟨z,hd,xs,rel,dd⟩:=wX I.hok e
    have hz:xs.length≤sizeLine:=by rw [← Paired.length rel]; exact z
    have hl:(cM kvs k v).length≤sizeLine:=by have:=dh kvs k v; omega
    refine wpAny_setItem_heap (hsz:=hz) (tupleKind_room_in1 hu) (j5 I.hok eb) dd fun h' dd' hs=>h _ ?_
    obtain ⟨q,es,ep,hq,h2,h3,h4,_,h5⟩:=dd'
    refine ou I (by rw [e]; exact True.intro) hs ⟨q,hq⟩ ⟨hl,hd,_,(rel.put k eb rv).keeps fun c ys ec=>?_,q,es,ep,hq,h2,h3,h4,h5⟩
    rw [ai (uz ec e (fun z=>nomatch z))]
    exact ec
end
section
variable {X:Cx} {pins:List (Addr×Obj)} {σ:St} {H:Hp} {s:Shared} {a:Addr} {kvs:List (Key×V)} {k:Key} {u:Value} {A:Around} {E:Value→Shared→Prop}
end
def xx (i:Expr):Prop:=∀ ov iv,subscripted i false ov iv = operate [ov,iv] (getItem ov iv)
theorem ss {prog:Program} {w:World} {A:Around} {E:Value→Shared→Prop} {s:Shared} {env:Env} {value slice:Expr} {pos:Pos} {T id:String} {Q:Value→Shared→Prop}
    (hl:typeLookup (.type T) "__getitem__" = pure (some (.builtin id))) (hs:xx slice)
    (h:wpAny (model prog w) A (eval value env) (fun o s₁=>wpAny (model prog w) A (eval slice env) (fun i s₂=>s₂.TypeIs o T∧wpAny (model prog w) A (getItem o i) Q E s₂) E s₁) E s) :
    wpAny (model prog w) A (eval (.Subscript value slice pos) env) Q E s:=by
  refine Subscript_ (wpAny_mono h (fun o s₁ h₁=>wpAny_mono h₁ (fun i s₂ h₂=>?_) fun _ _ x=>x) fun _ _ x=>x)
  obtain ⟨hT,h₂⟩:=h₂
  unfold subscriptTail
  refine wpAny_bind ?_
  rw [getitemInPython_of_ne hT.not_modules]
  refine wpAny_bind (wpAny_specialOf hT hl ?_)
  have fin:wpAny (model prog w) A (subscripted slice false o i) (fun r s₃=>wpAny (model prog w) A (letTemporaryGo value o r >>= fun _=>pure r) Q E s₃) E s₂:=by
    rw [hs o i]
    exact wpAny_operating (wpAny_mono h₂ (fun r s₃ h₃=>wpAny_bind (wpAny_letTemporaryGo (wpAny_pure h₃))) fun _ _ x=>x)
  first
    | exact wpAny_pure (wpAny_bind fin)
    | exact wpAny_bind (wpAny_pure (wpAny_bind fin))
    | exact wpAny_bind fin
theorem kC {X:Cx} {pins:List (Addr×Obj)} {σ:St} {H:Hp} {s:Shared} {a:Addr} {y:V} {o:Option V} (I:Inv X pins σ H s) (g:DGet H a y o):s.TypeIs (.ref a) "dict" := by
  rcases g with ⟨kvs,k,e,_,_⟩ | ⟨kvs,k,b,e,_,_,_⟩
  · obtain ⟨_,_,vs,_,dd⟩:=ll I.hok e
    exact dd.typeIs
  · obtain ⟨_,_,xs,_,dd⟩:=kz I.hok e
    exact dd.typeIs
inductive rDGet (x y:V) (H:Hp) (Q:VK):Prop
  | mk (a:Addr) (v:V) (h0:x = .ref a) (h1:DGet H a y (some v)) (h2:Q v H):rDGet x y H Q
def w5 (td ty:TE):TE:=fun σ H Q=>td σ H fun x H1=>ty σ H1 fun y H2=>rDGet x y H2 Q
def AN (ty td:TE):TE:=fun σ H Q=>ty σ H fun y H1=>td σ H1 fun x H2=>∃ a o,x = .ref a∧DGet H2 a y o∧Q (.bl o.isSome) H2
def yp (ty td:TE):TE:=fun σ H Q=>ty σ H fun y H1=>td σ H1 fun x H2=>∃ a o,x = .ref a∧DGet H2 a y o∧Q (.bl (!o.isSome)) H2
def wK (td ty tv:TE):TS:=fun D σ H=>tv σ H fun v H1=>td σ H1 fun x H2=>ty σ H2 fun y H3=>∃ a H4,x = .ref a∧DPut H3 a y v H4∧D.nx σ H4
def Ai (td ty tv:TE) (rd:V→V→Hp→VK→Prop):TS:=fun D σ H=>td σ H fun x H1=>ty σ H1 fun y H2=>∃ a v,x = .ref a∧DGet H2 a y (some v) ∧
  tv σ H2 fun y2 H3=>rd v y2 H3 fun z H4=>∃ H5,DPut H4 a y z H5∧D.nx σ H5
def An (td ty:TE):TS:=fun D σ H=>td σ H fun x H1=>ty σ H1 fun y H2=>∃ a kvs k,x = .ref a∧H2 a = some (.dK kvs)∧y = kV k∧(cy kvs k).isSome = true∧D.nx σ (upd H2 a (.dK (qK kvs k)))
section
variable {X:Cx} {o i e value:Expr} {pos pos' tpos:Pos} {td ty tv:TE}
theorem uk (hu:X.A.units + 1 < cLine) (ho:PE X o td) (hi:PE X i ty) (hs:xx i):PE X (.Subscript o i pos) (w5 td ty):=by
  intro pins s σ H Q I h
  refine ss PySem.F.slot_dict_getitem.lookup hs (thn (ho pins s σ H _ I h) fun u s1 ⟨x,H1,I1,rx,q1⟩=>thn (hi pins s1 σ H1 _ I1 q1) fun iv s2 ⟨y,H2,I2,ry,a,v,ex,g,q2⟩=>?_)
  subst ex
  obtain rfl:u = Value.ref a:=rx
  exact ⟨kC I2 g,oK hu I2 g ry fun w' s3 I3 rw'=>⟨v,H2,I3,rw',q2⟩⟩
theorem kc (hu:X.A.units + 1 < cLine) (ho:PE X o td) (hi:PE X i ty) (hv:PE X value tv) (hs:swapsWith value (some (.Subscript o i pos')) pos.line X.env = pure false) :
    PS X (.Assign [.Subscript o i pos'] value pos) (wK td ty tv):=by
  intro pins s σ H D I h
  refine wpAny_Assign_Subscript (thn (hv pins s σ H _ I h) fun r s1 ⟨v,H1,I1,rv,q1⟩=>thn (ho pins s1 σ H1 _ I1 q1) fun u s2 ⟨x,H2,I2,rx,q2⟩=>thn (hi pins s2 σ H2 _ I2 q2) fun iv s3 ⟨y,H3,I3,ry,a,H4,ex,g,q3⟩=>?_) hs
  subst ex
  obtain rfl:u = Value.ref a:=rx
  exact oZ hu I3 g ry rv fun s4 I4=>⟨σ,H4,I4,q3⟩
end
theorem qW {P:Program} {w:World} {H:Hp} (h:Heap) (hb:sysModules < h.objs.size):ObjOk P w H (h.push { cls:=.type "dict",data:=.dict #[] }) h.objs.size (.dT []) :=
  ⟨Nat.zero_le _,beq_eq_false_iff_ne.mpr (Ne.symm (Nat.ne_of_lt hb)),[],.nil,_,#[],0,Heap.get?_push_size _ rfl,⟨rfl,rfl,rfl⟩,rfl,rfl,List.nodup_nil⟩
def zD:TE:=fun _ H Q=>∀ p,H p = none→Q (.ref p) (upd H p (.dK []))
def vR:TE:=fun _ H Q=>∀ p,H p = none→Q (.ref p) (upd H p (.dT []))
section
variable {X:Cx} {pos:Pos}
theorem kB:PE X (.Dict [] [] pos) vR:=fun pins s σ H Q I h =>
  wpAny_Dict_empty ⟨.ref s.heap.objs.size,_,I.laid (a:=s.heap.objs.size) (o:=.dT []) (t':=s.toks) (fun _ _ q=>Heap.get?_push_of_some _ q) (Nat.le_refl _) (qW s.heap I.big),rfl,h _ (I.hok.fresh (Nat.le_refl _))⟩
end
def lL:List (TE×TE)→St→Hp→(List (V×V)→Hp→Prop)→Prop
  | [],_,H,Q=>Q [] H
  | (tk,tv) :: r,σ,H,Q=>tk σ H fun x H1=>tv σ H1 fun y H2=>lL r σ H2 fun ps H3=>Q ((x,y) :: ps) H3
abbrev VV:List (V×V)→List (Value×Value)→Prop:=Paired fun p q=>RelV p.1 q.1∧RelV p.2 q.2
def PPs (X:Cx) (pos:Pos) (keys:List (Option Expr)) (values:List Expr) (trs:List (TE×TE)):Prop :=
  ∀ (pins:List (Addr×Obj)) (s:Shared) (σ:St) (H:Hp) (Q:List (V×V)→Hp→Prop),Inv X pins σ H s→lL trs σ H Q →
    wpAny (model X.prog X.w) X.A (evalPairs (pairTrees keys values X.env pos)) (fun vs s'=>∃ ps H',Inv X pins σ H' s'∧VV ps vs∧Q ps H') X.xe s
def we (kvs more:List (Key×V)):List (Key×V):=more.foldl (fun acc kv=>cM acc kv.1 kv.2) kvs
def zS (trs:List (TE×TE)):TE:=fun σ H Q=>∀ p,H p = none→lL trs σ (upd H p (.dK [])) fun ps H2=>H2 p = some (.dK [])∧∃ kvs:List (Key×V),ps = kvs.map (fun kv=>(kV kv.1,kv.2))∧kvs.length≤15∧Q (.ref p) (upd H2 p (.dK (we [] kvs)))
structure M1 (X:Cx) (o:Expr) (m:Str) (apos:Pos) (e:Expr) (cpos:Pos):Prop where
  base:attributeBase o m X.env (eval o X.env) = eval o X.env
  few:((backTo cpos (starEach [e] X.env)).all (fun x=>!x.1) && (backToKw cpos (keywordEach [] X.env)).all (fun x=>x.1.isSome)
    && decide (([e]:List Expr).length + ([]:List Keyword).length + (if ([]:List Keyword).isEmpty then 0 else 1) < 30)) = true
  line:(apos.endLine == cpos.line) = true
  trees:backTo cpos (starEach [e] X.env) = [(false,eval e X.env)]
structure M2 (X:Cx) (o:Expr) (m:Str) (apos:Pos) (e f:Expr) (cpos:Pos):Prop where
  base:attributeBase o m X.env (eval o X.env) = eval o X.env
  few:((backTo cpos (starEach [e,f] X.env)).all (fun x=>!x.1) && (backToKw cpos (keywordEach [] X.env)).all (fun x=>x.1.isSome)
    && decide (([e,f]:List Expr).length + ([]:List Keyword).length + (if ([]:List Keyword).isEmpty then 0 else 1) < 30)) = true
  line:(apos.endLine == cpos.line) = true
  trees:backTo cpos (starEach [e,f] X.env) = [(false,eval e X.env),(false,eval f X.env)]
def IsD (H:Hp) (a:Addr):Prop:=(∃ kvs,Rd H a (.dK kvs))∨∃ kvs,Rd H a (.dT kvs)
theorem vM {X:Cx} {pins:List (Addr×Obj)} {σ:St} {H:Hp} {s:Shared} {a:Addr} (I:Inv X pins σ H s) (d:IsD H a) :
    s.TypeIs (.ref a) "dict" ∧ (∀ b,Value.ref a = .ref b→∃ ob,s.heap.get? b = some ob∧ob.dict = none)∧(a == sysModules) = false:=by
  rcases d with ⟨kvs,e⟩ | ⟨kvs,e⟩
  · obtain ⟨_,hd,vs,_,dd⟩:=ll I.hok e
    refine ⟨dd.typeIs,fun b q=>?_,hd⟩
    cases q
    obtain ⟨ob,_,_,h1,h2,_⟩:=dd
    exact ⟨ob,h1,h2.2.1⟩
  · obtain ⟨_,hd,xs,_,dd⟩:=kz I.hok e
    refine ⟨dd.typeIs,fun b q=>?_,hd⟩
    cases q
    obtain ⟨ob,_,_,h1,h2,_⟩:=dd
    exact ⟨ob,h1,h2.2.1⟩
section
variable {X:Cx} {pins:List (Addr×Obj)} {σ:St} {H:Hp} {s:Shared} {a:Addr} {y d:V} {u r:Value} {o:Option V} {A:Around} {E:Value→Shared→Prop}
theorem vY {Q:Value→Shared→Prop} (hu:A.units + 1 < cLine) (I:Inv X pins σ H s) (g:DGet H a y o) (ry:RelV y u) (rd:RelV d r) (h:∀ w' s',Inv X pins σ H s'→RelV (o.getD d) w'→Q w' s') :
    wpAny (model X.prog X.w) A (call (.builtin "dict.get") [.ref a,u,r]) Q E s:=by
  rcases g with ⟨kvs,k,e,ey,l⟩ | ⟨kvs,k,b,e,ey,eb,l⟩
  · subst ey
    obtain ⟨z,hd,vs,rel,dd⟩:=ll I.hok e
    refine call_meetsIn PySem.F.slot_dict_get dd.typeIs PySem.F.entry_dict_get (PySem.F.args_dict_get_3 _ _ _) (meets_dict_get_default (bE X.prog X.w) a (nh ry) hd r) ⟨_,dd.mapOf,h _ _ (I.tok _) ?_⟩
    rw [l]
    exact (rel.val k).getD rd
  · subst ey
    cases (show u = Value.ref b from ry)
    obtain ⟨z,hd,xs,rel,dd⟩:=kz I.hok e
    refine call_meetsIn PySem.F.slot_dict_get dd.typeIs PySem.F.entry_dict_get (PySem.F.args_dict_get_3 _ _ _) (meetsH_dict_get_default (tupleKind (bE X.prog X.w)) a b hd r) ⟨tupleKind_room_in1 hu,k,xs,j5 I.hok eb,dd,h _ _ (I.tok _) ?_⟩
    rw [l]
    exact (rel.val k).getD rd
end
def yX (td ty:TE):TE:=fun σ H Q=>td σ H fun x H1=>∃ a,x = .ref a∧IsD H1 a∧ty σ H1 fun y H2=>∃ o,DGet H2 a y o∧Q (o.getD .non) H2
def wj (td ty tx:TE):TE:=fun σ H Q=>td σ H fun x H1=>∃ a,x = .ref a∧IsD H1 a∧ty σ H1 fun y H2=>tx σ H2 fun z H3=>∃ o,DGet H3 a y o∧Q (o.getD z) H3
def zm (td ty:TE):TE:=fun σ H Q=>td σ H fun x H1=>∃ a,x = .ref a∧IsD H1 a∧ty σ H1 fun y H2=>∃ kvs k v,H2 a = some (.dK kvs)∧y = kV k∧cy kvs k = some v∧Q v (upd H2 a (.dK (qK kvs k)))
def y6 (td ty tx:TE):TE:=fun σ H Q=>td σ H fun x H1=>∃ a,x = .ref a∧IsD H1 a∧ty σ H1 fun y H2=>tx σ H2 fun z H3=>∃ kvs k,H3 a = some (.dK kvs)∧y = kV k ∧
  (∀ v,cy kvs k = some v→Q v (upd H3 a (.dK (qK kvs k))))∧(cy kvs k = none→Q z H3)
section
variable {X:Cx} {o e f:Expr} {apos cpos:Pos} {td ty tx:TE}
theorem kP (hu:X.A.units + 1 < cLine) (ho:PE X o td) (he:PE X e ty) (hf:PE X f tx) (m:M2 X o "get" apos e f cpos):PE X (.Call (.Attribute o "get" apos) [e,f] [] cpos) (wj td ty tx):=by
  intro pins s σ H Q I h
  refine wpAny_Call_method m.base m.few m.line PySem.F.plainAttrs_dict PySem.F.slot_dict_get PySem.F.type_dict_get (thn (ho pins s σ H _ I h) fun u s1 ⟨x,H1,I1,rx,a,ex,d,q1⟩=>?_)
  subst ex
  obtain rfl:u = Value.ref a:=rx
  obtain ⟨t1,t2,_⟩:=vM I1 d
  refine ⟨t1,t2,?_⟩
  rw [m.trees]
  refine Calls.callWith_builtin rfl (Calls.evalArgs_plain (Calls.spliced_cons (thn (he pins s1 σ H1 _ I1 q1) fun iv s2 ⟨y,H2,I2,ry,q2⟩ =>
    Calls.spliced_cons (thn (hf pins s2 σ H2 _ I2 q2) fun fv s3 ⟨z,H3,I3,rz,ov,g,q3⟩=>Calls.spliced_nil ?_))))
  exact vY hu I3 g ry rz fun w' s4 I4 rw'=>⟨_,H3,I4,rw',q3⟩
end
section
variable {X:Cx} {pins:List (Addr×Obj)} {σ:St} {H:Hp} {s:Shared} {a:Addr} {kvs:List (Key×V)} {A:Around} {E:Value→Shared→Prop}
end
section
variable {X:Cx} {pins:List (Addr×Obj)} {σ:St} {H:Hp} {s:Shared} {a:Addr} {y:V} {u:Value} {A:Around} {E:Value→Shared→Prop}
end
end L2
namespace L2
open PySem PySem.Spec PyProof.Rows
theorem OpR.imp {X:Cx} {f:Value→Value→Sem Value} {r r':R2} (h:OpR X f r) (i:∀ x y H Q,r' x y H Q→r x y H Q):OpR X f r' :=
  fun pins s σ H x y v u Q I rx ry q=>h pins s σ H x y v u Q I rx ry (i x y H Q q)
theorem CallR.imp {X:Cx} {f:Value} {r r':List V→Hp→VK→Prop} (h:CallR X f r) (i:∀ xs H Q,r' xs H Q→r xs H Q):CallR X f r' :=
  fun pins s σ H xs us Q I rs q=>h pins s σ H xs us Q I rs (i xs H Q q)
def tV (i:Nat):TE:=fun σ H Q=>match σ[i]? with
  | some (some v)=>Q v H
  | _=>False
theorem vr {X:Cx} (i:Nat) {x:Str} {pos:Pos} (hN:X.N[i]? = some x:=by rfl) (hv:Vis X.env.scope x:=by first | exact Or.inl rfl | exact Or.inr (Or.inl rfl) | exact Or.inr (Or.inr rfl)) (hd:(x == ("__debug__" : Str)) = false:=by decide)
    (hcd:(x == ("__classdict__" : Str)) = false:=by decide):PE X (.Name x pos) (tV i):=fun pins s σ H Q I h=>by
  refine wp hN hv hd hcd pins s σ H Q I ?_
  unfold tV at h
  split at h
  · rename_i v e
    exact ⟨v,e,h⟩
  · exact h.elim
def rI2 (g:Int→Int→V):R2:=fun x y H Q=>match x,y with
  | .int i,.int j=>Q (g i j) H
  | _,_=>False
def rIC (C:Int→Int→Prop) (g:Int→Int→V):R2:=fun x y H Q=>match x,y with
  | .int i,.int j=>C i j∧Q (g i j) H
  | _,_=>False
theorem OpR.i2 {X:Cx} {f:Value→Value→Sem Value} {g:Int→Int→V} (h:OpR X f (rI0 g)):OpR X f (rI2 g):=h.imp fun x y H Q q=>by
  cases x <;> cases y <;> first | exact ⟨_,_,rfl,rfl,q⟩ | exact (show False from q).elim
theorem OpR.ic {X:Cx} {f:Value→Value→Sem Value} {C:Int→Int→Prop} {g:Int→Int→V} (h:OpR X f (rI C g)):OpR X f (rIC C g):=h.imp fun x y H Q q=>by
  cases x <;> cases y <;> first | exact ⟨_,_,rfl,rfl,q.1,q.2⟩ | exact (show False from q).elim
section
variable {X:Cx}
def xX:R2:=fun x y H Q=>match x,y with
  | .int i,.int j=>Q (.int (i + j)) H
  | .str i,.str j=>i.length + j.length≤sizeLine∧Q (.str (i ++ j)) H
  | _,_=>False
theorem cG:OpR X (binaryOp .Add) xX:=(op_add.or md).imp fun x y H Q q=>by
  cases x <;> cases y <;> first | exact .inl ⟨_,_,rfl,rfl,q⟩ | exact .inr ⟨_,_,rfl,rfl,q.1,q.2⟩ | exact (show False from q).elim
theorem i7:OpR X (binaryOp .Sub) (rI2 fun i j=>.int (i - j)):=op_sub.i2
def xt (i j:Int):Prop:=0 < j
def CNn (i j:Int):Prop:=0≤j
theorem cp {i j:Int} (h:0 < j:=by decide):xt i j:=h
theorem cn {i j:Int} (h:0≤j:=by decide):CNn i j:=h
theorem cd {i j:Int} (h:0 < j:=by decide) (h2:j < 1073741824:=by decide):zf i j:=⟨h,h2⟩
theorem cw {i j:Int} (h:0≤j:=by decide) (h2:j≤1000000:=by decide) (h3:i.natAbs < 2 ^ 64:=by decide):wz i j:=⟨h,h2,h3⟩
theorem cl {i j:Int} (h:-(2 ^ 64) < i:=by decide) (h2:i < 2 ^ 64:=by decide):CMul i j:=.inl ⟨h,h2⟩
theorem cr {i j:Int} (h:-(2 ^ 64) < j:=by decide) (h2:j < 2 ^ 64:=by decide):CMul i j:=.inr ⟨h,h2⟩
theorem dJ:OpR X (binaryOp .Mod) (rIC xt fun i j=>.int (i % j)):=op_mod.ic
theorem wO:OpR X (binaryOp .Pow) (rIC wz fun i j=>.int (i ^ j.toNat)):=op_pow.ic
def xn (f:Int→Int→Bool) (g:Str→Str→Bool):R2:=fun x y H Q=>match x,y with
  | .int i,.int j=>Q (.bl (f i j)) H
  | .str i,.str j=>Q (.bl (g i j)) H
  | _,_=>False
theorem lB:OpR X (compareOp .Lt) (xn (fun i j=>decide (i < j)) fun i j=>decide (i.cps.toList < j.cps.toList)):=(op_lt.or pH).imp fun x y H Q q=>by
  cases x <;> cases y <;> first | exact .inl ⟨_,_,rfl,rfl,q⟩ | exact .inr ⟨_,_,rfl,rfl,q⟩ | exact (show False from q).elim
theorem w9:OpR X (compareOp .Gt) (rI2 fun i j=>.bl (decide (j < i))):=op_gt.i2
def t8 (neg:Bool):R2:=fun x y H Q=>match x,y with
  | .int i,.int j=>Q (.bl (if neg then !decide (i = j) else decide (i = j))) H
  | .str i,.str j=>Q (.bl (if neg then !decide (i = j) else decide (i = j))) H
  | .bl i,.bl j=>Q (.bl (if neg then !decide (i = j) else decide (i = j))) H
  | .non,.non=>Q (.bl (!neg)) H
  | .non,.int _=>Q (.bl neg) H
  | .non,.str _=>Q (.bl neg) H
  | .non,.bl _=>Q (.bl neg) H
  | .int _,.non=>Q (.bl neg) H
  | .str _,.non=>Q (.bl neg) H
  | .bl _,.non=>Q (.bl neg) H
  | .int _,.str _=>Q (.bl neg) H
  | .str _,.int _=>Q (.bl neg) H
  | _,_=>False
theorem vz:OpR X (compareOp .Eq) (t8 false):=op_eq.imp fun x y H Q q=>by
  cases x <;> cases y <;> first | exact (show False from q).elim | (refine ⟨rfl,?_⟩; revert q; simp [t8])
theorem rL:OpR X (compareOp .NotEq) (t8 true):=op_ne.imp fun x y H Q q=>by
  cases x <;> cases y <;> first | exact (show False from q).elim | (refine ⟨rfl,?_⟩; revert q; simp [t8])
def rU1 (g:Int→V):V→Hp→VK→Prop:=fun x H Q=>match x with
  | .int i=>Q (g i) H
  | _=>False
theorem uW:UnR X (unaryOp .USub) (rU1 fun i=>.int (-i)):=fun pins s σ H x v Q I r q=>vJ pins s σ H x v Q I r (by
  cases x <;> first | exact ⟨_,rfl,q⟩ | exact (show False from q).elim)
def Az (neg:Bool):R2:=fun x y H Q=>match x,y with
  | .str i,.str j=>Q (.bl (if neg then (Builtin.Str.occurrences j i 0 j.length 1).isEmpty else !(Builtin.Str.occurrences j i 0 j.length 1).isEmpty)) H
  | _,_=>False
def mB (Q:Bool→Hp→Prop):VK:=fun x H=>match x with
  | .bl c=>Q c H
  | _=>False
variable {a b c:Expr} {ta tb tc:TE} {pos:Pos} {rest:List Expr}
def yU (ta tb:TE):TE:=fun σ H Q=>ta σ H (mB fun c H1=>if c = true then tb σ H1 Q else Q (.bl false) H1)
def mOr (ta tb:TE):TE:=fun σ H Q=>ta σ H (mB fun c H1=>if c = true then Q (.bl true) H1 else tb σ H1 Q)
def yZ (ta:TE):TE:=fun σ H Q=>ta σ H (mB fun c H1=>Q (.bl (!c)) H1)
theorem fo {Q:Bool→Hp→Prop} {x:V} {H:Hp} (h:mB Q x H):∃ c,x = .bl c∧Q c H:=by
  cases x <;> first | exact ⟨_,rfl,h⟩ | exact (show False from h).elim
theorem u9 (ha:PE X a ta) (hb:PE X (.BoolOp .And (b :: rest) pos) tb):PE X (.BoolOp .And (a :: b :: rest) pos) (yU ta tb):=by
  intro pins s σ H Q I h
  refine BoolOp_and (thn (ha pins s σ H _ I h) fun v s1 ⟨x,H1,I1,r1,q1⟩=>?_)
  obtain ⟨c,rfl,q1⟩:=fo q1
  cases r1
  refine wpAny_truthy_bool ?_
  cases c with
  | true=>exact hb pins s1 σ H1 Q I1 q1
  | false=>exact ⟨.bl false,H1,I1,rfl,q1⟩
theorem xI (ha:PE X a ta):PE X (.UnaryOp .Not a pos) (yZ ta):=by
  intro pins s σ H Q I h
  refine UnaryOp_ (thn (ha pins s σ H _ I h) fun v s1 ⟨x,H1,I1,r1,q1⟩=>?_)
  obtain ⟨c,rfl,q1⟩:=fo q1
  cases r1
  exact not_of (wpAny_truthy_bool ⟨.bl (!c),H1,I1,rfl,q1⟩)
def mT (t:TE):TT:=fun σ H Q=>t σ H (mB Q)
theorem dA (h:PE X a ta) (he:∀ whole,isTrue a X.env whole = (do let v ← whole; standAt a.pos; holding [v] (truthy v)):=by intro _; rfl):PT X a (mT ta):=by
  intro pins s σ H Q I hw
  refine isTrue_plain (thn (h pins s σ H _ I hw) fun v s1 ⟨x,H1,I1,r1,q1⟩=>?_) (he _)
  obtain ⟨d,rfl,q⟩:=fo q1
  cases r1
  exact wpAny_truthy_bool ⟨H1,I1,q⟩
theorem df {op:CmpOp} {r:R2} (ho:OpR X (compareOp op) r) (ha:PE X a ta) (hb:PE X b tb) (hm:behindInMarks op b = false):PT X (.Compare a [op] [b] pos) (mT (tOp r ta tb)):=by
  intro pins s σ H Q I h
  refine wpAny_isTrue_Compare1 (thn (ha pins s σ H _ I h) fun v s1 ⟨x,H1,I1,r1,q1⟩=>thn (hb pins s1 σ H1 _ I1 q1) fun u s2 ⟨y,H2,I2,r2,q2⟩ =>
    thn (ho pins s2 σ H2 x y v u _ I2 r1 r2 q2) fun c s3 ⟨z,H3,I3,r3,q3⟩=>?_) hm
  obtain ⟨k,rfl,q3⟩:=fo q3
  cases r3
  exact wpAny_truthy_bool ⟨H3,I3,q3⟩
def pW (r r':R2) (ta tb tc:TE):TE:=fun σ H Q=>ta σ H fun x H1=>tb σ H1 fun y H2=>r x y H2 (mB fun k H3=>if k = true then tc σ H3 fun w' H4=>r' y w' H4 Q else Q (.bl false) H3)
theorem tO {op op':CmpOp} {r r':R2} (ho:OpR X (compareOp op) r) (ho':OpR X (compareOp op') r') (ha:PE X a ta) (hb:PE X b tb) (hc:PE X c tc)
    (hm:lastMarks [op,op'] [b,c] = false:=by with_unfolding_all rfl):PE X (.Compare a [op,op'] [b,c] pos) (pW r r' ta tb tc):=by
  intro pins s σ H Q I h
  refine Compare_chain (thn (ha pins s σ H _ I h) fun v s1 ⟨x,H1,I1,r1,q1⟩=>chain_link (thn (hb pins s1 σ H1 _ I1 q1) fun u s2 ⟨y,H2,I2,r2,q2⟩ =>
    thn (ho pins s2 σ H2 x y v u _ I2 r1 r2 q2) fun d s3 ⟨z,H3,I3,r3,q3⟩=>?_)) hm
  obtain ⟨k,rfl,q3⟩:=fo q3
  cases r3
  refine wpAny_truthy_bool ?_
  cases k with
  | false=>exact ite_ff ⟨.bl false,H3,I3,rfl,q3⟩
  | true=>exact ite_tt (chain_last (thn (hc pins s3 σ H3 _ I3 q3) fun w' s4 ⟨z',H4,I4,r4,q4⟩=>ho' pins s4 σ H4 y z' u w' Q I4 r2 r4 q4))
theorem tN {op op':CmpOp} {r r':R2} (ho:OpR X (compareOp op) r) (ho':OpR X (compareOp op') r') (ha:PE X a ta) (hb:PE X b tb) (hc:PE X c tc)
    (hm:lastMarks [op,op'] [b,c] = false:=by with_unfolding_all rfl):PT X (.Compare a [op,op'] [b,c] pos) (mT (pW r r' ta tb tc)):=by
  intro pins s σ H Q I h
  refine isTrue_chain (thn (ha pins s σ H _ I h) fun v s1 ⟨x,H1,I1,r1,q1⟩=>test_link (thn (hb pins s1 σ H1 _ I1 q1) fun u s2 ⟨y,H2,I2,r2,q2⟩ =>
    thn (ho pins s2 σ H2 x y v u _ I2 r1 r2 q2) fun d s3 ⟨z,H3,I3,r3,q3⟩=>?_)) hm
  obtain ⟨k,rfl,q3⟩:=fo q3
  cases r3
  refine wpAny_truthy_bool ?_
  cases k with
  | false=>exact ite_ff ⟨H3,I3,q3⟩
  | true =>
    refine ite_tt (test_last (thn (hc pins s3 σ H3 _ I3 q3) fun w' s4 ⟨z',H4,I4,r4,q4⟩=>thn (ho' pins s4 σ H4 y z' u w' _ I4 r2 r4 q4) fun d' s5 ⟨z2,H5,I5,r5,q5⟩=>?_))
    obtain ⟨k2,rfl,q5⟩:=fo q5
    cases r5
    exact wpAny_truthy_bool ⟨H5,I5,q5⟩
open PySem.W in
theorem mJ {pins:List (Addr×Obj)} {σ:St} {H:Hp} {s:Shared} {x:V} {u t:Value} (I:Inv X pins σ H s) (rx:RelV x u) (ty:TyOf X.K H x t) :
    ∃ Hh:Heap→Prop,KitX X.K u t Hh∧Hh s.heap∧u≠.builtin "__main__.__loader__#opaque" := by
  cases ty with
  | non=>cases (show u = Value.none from rx); exact ⟨_,PySem.W.kitx_none,True.intro,fun z=>nomatch z⟩
  | bl y=>cases (show u = Value.bool y from rx); exact ⟨_,PySem.W.kitx_bool,True.intro,fun z=>nomatch z⟩
  | int i=>obtain ⟨t,q⟩:=(show ∃ t,u = Value.int i t from rx); cases q; exact ⟨_,PySem.W.kitx_int,True.intro,fun z=>nomatch z⟩
  | str y=>obtain ⟨t,q⟩:=(show ∃ t,u = Value.str y t from rx); cases q; exact ⟨_,PySem.W.kitx_str,True.intro,fun z=>nomatch z⟩
  | flt y=>obtain ⟨t,q⟩:=(show ∃ t,u = Value.float y t from rx); cases q; exact ⟨_,PySem.W.kitx_float,True.intro,fun z=>nomatch z⟩
  | @lst a xs ea =>
    cases (show u = Value.ref a from rx)
    obtain ⟨_,_,n,_,h1⟩:=(show ObjOk X.prog X.w H s.heap a (.lst xs) from I.hok a _ ea)
    exact ⟨_,PySem.W.kitx_list,⟨_,h1,rfl⟩,fun z=>nomatch z⟩
  | @frz a ob xs ea =>
    cases (show u = Value.ref a from rx)
    obtain ⟨_,_,_,n,_,h1⟩:=(show ObjOk X.prog X.w H s.heap a (.frz ob (.lst xs)) from I.hok a _ ea)
    exact ⟨_,PySem.W.kitx_list,⟨_,h1,rfl⟩,fun z=>nomatch z⟩
  | @tup a xs ea =>
    cases (show u = Value.ref a from rx)
    obtain ⟨_,_,_,p⟩:=(show ObjOk X.prog X.w H s.heap a (.tup xs) from I.hok a _ ea)
    obtain ⟨o,h1,h2,_⟩:=p
    exact ⟨_,PySem.W.kitx_tuple,⟨o,h1,h2⟩,fun z=>nomatch z⟩
  | @dK a kvs ea =>
    cases (show u = Value.ref a from rx)
    obtain ⟨_,_,vs,_,p⟩:=(show ObjOk X.prog X.w H s.heap a (.dK kvs) from I.hok a _ ea)
    obtain ⟨o,es,ep,h1,h2,_⟩:=p
    exact ⟨_,PySem.W.kitx_dict,⟨o,h1,h2.1⟩,fun z=>nomatch z⟩
  | @dT a kvs ea =>
    cases (show u = Value.ref a from rx)
    obtain ⟨_,_,xs,_,o,es,ep,h1,h2,_⟩:=(show ObjOk X.prog X.w H s.heap a (.dT kvs) from I.hok a _ ea)
    exact ⟨_,PySem.W.kitx_dict,⟨o,h1,h2.1⟩,fun z=>nomatch z⟩
  | @ins a C dx fs ea cl ha hn htk hm =>
    cases (show u = Value.ref a from rx)
    obtain ⟨mA,O,_⟩:=gS I.hok ea
    obtain ⟨od,J,_⟩:=O.look
    exact ⟨_,PySem.W.kitx_own (cl.get _) cl.hd ha hn htk hm,J,fun z=>nomatch z⟩
def pL:V→Value
  | .ty n=>.type n
  | .ref a=>.ref a
  | _=>.none
def kW:V→Bool
  | .ty _=>true
  | .ref _=>true
  | _=>false
theorem mO {c:V} {u:Value} (h:kW c = true) (r:RelV c u):u = pL c:=by
  cases c <;> first | exact r | exact absurd (show false = true from h) Bool.false_ne_true
inductive rIsi (K:PySem.W.Frag) (xs:List V) (H:Hp) (Q:VK):Prop
  | mk (x c:V) (t:_) (b:Bool) (h0:xs = [x,c]) (h1:kW c = true) (h2:TyOf K H x t) (h3:PySem.W.kitOne K t (pL c) = some b) (h4:Q (.bl b) H):rIsi K xs H Q
theorem gb:CallR X (.builtin "isinstance") (rIsi X.K):=by
  intro pins s σ H xs us Q I r h
  obtain ⟨x,c,t,b,rfl,hc,ty,e,q⟩:=h
  obtain ⟨u,w',rfl,rx,rc⟩:=oj r
  cases mO hc rc
  obtain ⟨Hh,Z,p,hx⟩:=mJ I rx ty
  exact PySem.W.kia_one Z I.kIn p e hx fun tk=>⟨.bl b,H,I.tok tk,rfl,q⟩
end
end L2
namespace L2
open PySem PySem.Spec PyProof.Rows
theorem ifP {c:Prop} [Decidable c] {A B:Prop} (hc:c) (h:A):if decide c = true then A else B:=by rw [if_pos (decide_eq_true hc)]; exact h
theorem ifN {c:Prop} [Decidable c] {A B:Prop} (hc:¬ c) (h:B):if decide c = true then A else B:=by rw [if_neg (fun z=>hc (of_decide_eq_true z))]; exact h
theorem ifC {c:Prop} [Decidable c] {A B:Prop} (h1:c→A) (h2:¬ c→B):if decide c = true then A else B:=by
  by_cases h:c
  · exact ifP h (h1 h)
  · exact ifN h (h2 h)
theorem ifB {b:Bool} {A B:Prop} (h1:b = true→A) (h2:b = false→B):if b = true then A else B:=by
  cases b with
  | true=>rw [if_pos rfl]; exact h1 rfl
  | false=>rw [if_neg Bool.false_ne_true]; exact h2 rfl
theorem wb {α:Type} {xs:List α} {i:Int} (h0:0≤i) (h1:i < xs.length):∃ c,c ∈ xs∧atI xs i = some c:=by
  have hk:i.toNat < xs.length:=by omega
  refine ⟨xs[i.toNat],List.getElem_mem hk,?_⟩
  have e:((i.toNat:Nat):Int) = i:=by omega
  have:=cD (xs:=xs) (j:=i.toNat) (v:=xs[i.toNat]) (by simp [hk])
  rwa [e] at this
theorem cK:bootBuiltins "len" = some (.builtin "len"):=by decide +kernel
theorem ck:bootBuiltins "isinstance" = some (.builtin "isinstance"):=by decide +kernel
theorem qV:bootBuiltins "min" = some (.builtin "min"):=by decide +kernel
theorem pP:bootBuiltins "max" = some (.builtin "max"):=by decide +kernel
theorem vy:bootBuiltins "zip" = some (.type "zip"):=by decide +kernel
theorem lv:bootBuiltins "range" = some (.type "range"):=by decide +kernel
theorem wg:bootBuiltins "int" = some (.type "int"):=by decide +kernel
theorem uo:bootBuiltins "bool" = some (.type "bool"):=by decide +kernel
theorem dc:bootBuiltins "list" = some (.type "list"):=by decide +kernel
theorem kY:bootBuiltins "tuple" = some (.type "tuple"):=by decide +kernel
theorem dk {X:Cx} {x:Str} {v:V} {pos:Pos} (hg:Gl X x) (h:∃ u,X.mg x = some u∧RelV v u) (hd:(x == ("__debug__" : Str)) = false:=by decide):PE X (.Name x pos) (tC v) :=
  let ⟨_,e,r⟩:=h
  tT hg e r hd
def zv (K:PySem.W.Frag) (tl:TE):TI:=fun σ H R=>tl σ H fun x H1=>match x with
  | .str z=>R (Its z) H1
  | .ref a=>((∃ xs,SqL K H1 a xs)∧R (Itl K a) H1)∨((∃ xs,SqT K H1 a xs)∧R (Itt K a) H1)
  | _=>False
theorem bG {X:Cx} {tg l:Expr} {tl:TE} (hl:PE X l tl):PI X tg l (zv X.K tl):=by
  intro pins s σ H R I h
  have hl1:PE X l tl:=hl
  refine thn (hl pins s σ H _ I h) fun v s1 ⟨x,H1,I1,r1,q1⟩=>?_
  cases x with
  | str z =>
    have:=wa (X:=X) (tg:=tg) (l:=l) (tl:=tC (.str z))
    obtain ⟨t,rfl⟩:=r1
    refine wpAny_pyIter_strU ?_
    refine ⟨s1.heap.objs.size,[s1.heap.objs.size],_,_,H1,rfl,I1.kept (t':=s1.toks) fun b o e=>Heap.get?_push_of_some _ e,lq (ty:=strIterType z) (t:=t) z _ ?_,⟨_,Heap.get?_push_size _ rfl,rfl,rfl⟩,fun b hb=>?_,q1⟩
    · unfold strIterType
      split
      · exact .inl rfl
      · exact .inr rfl
    · have e:b = s1.heap.objs.size:=by simpa using hb
      subst e
      exact I1.fpOk (Nat.le_refl _) (I1.hok.fresh (Nat.le_refl _))
  | ref a =>
    cases r1
    rcases q1 with ⟨⟨xs,hq⟩,q⟩ | ⟨⟨xs,hq⟩,q⟩
    · obtain ⟨its,rv,p,hz⟩:=I1.list hq
      refine wpAny_pyIter_list p.isList ?_
      refine ⟨s1.heap.objs.size,[s1.heap.objs.size],_,_,H1,rfl,I1.kept (t':=s1.toks) fun b o e=>Heap.get?_push_of_some _ e,oX a _,⟨_,Heap.get?_push_size _ rfl,rfl,rfl⟩,fun b hb=>?_,q⟩
      have e:b = s1.heap.objs.size:=by simpa using hb
      subst e
      exact I1.fpOk (Nat.le_refl _) (I1.hok.fresh (Nat.le_refl _))
    · obtain ⟨its,rv,p,hz⟩:=I1.tuple hq
      refine wpAny_pyIter_tuple (show s1.heap.IsTuple a its.toArray from p) ?_
      refine ⟨s1.heap.objs.size,[s1.heap.objs.size],_,_,H1,rfl,I1.kept (t':=s1.toks) fun b o e=>Heap.get?_push_of_some _ e,lP a _,⟨_,Heap.get?_push_size _ rfl,rfl,rfl⟩,fun b hb=>?_,q⟩
      have e:b = s1.heap.objs.size:=by simpa using hb
      subst e
      exact I1.fpOk (Nat.le_refl _) (I1.hok.fresh (Nat.le_refl _))
  | _=>exact (show False from q1).elim
inductive rLenSq (K:PySem.W.Frag) (p:Addr) (H:Hp) (Q:VK):Prop
  | mk (ys:List V) (h0:SqL K H p ys∨SqT K H p ys) (h1:Q (.int ys.length) H):rLenSq K p H Q
theorem be {X:Cx}:CallR X (.builtin "len") (fun xs H Q=>match xs with
    | [.str z]=>z.length≤sizeLine∧Q (.int z.length) H
    | [.ref p]=>rLenSq X.K p H Q
    | _=>False):=(call_len_str.or j3).imp fun xs H Q q=>by
  match xs,q with
  | [.str z],q=>exact .inl ⟨z,rfl,q.1,q.2⟩
  | [.ref p],q=>obtain ⟨ys,h,q⟩:=q; exact .inr ⟨p,ys,rfl,h,q⟩
section
variable {D:Addr} {σb:St} {g:TG} {tt:TT} {te:TE} {Q:Hp→List V→Prop} {H:Hp} {K:PySem.W.Frag}
def uU (D:Addr) (σb:St) (g:TG) (tt:TT) (te:TE) (x:V) (ys:List V) (H:Hp) (P:List V→Hp→Prop):Prop :=
  g x σb H fun σ4 H4=>Wk σb σ4∧tt σ4 H4 fun b H5=>if b = true then te σ4 H5 fun y H6=>H6 D = some (.lst ys)∧ys.length < sizeLine∧P (ys ++ [y]) (upd H6 D (.lst (ys ++ [y]))) else P ys H5
theorem bB {a:Addr} {xs:List V} (Pv:Nat→List V→Hp→Prop) (h0:Pv 0 [] H) (hq:∀ i ys H,Pv i ys H→SqL K H a xs) (hl:∀ i ys H,Pv i ys H→H D = some (.lst ys))
    (hs:∀ (i:Nat) x ys H P,xs[i]? = some x→Pv i ys H→(∀ a b,Pv (i + 1) a b→P a b)→uU D σb g tt te x ys H P) (hd:∀ ys H,Pv xs.length ys H→Q H ys):∃ W,(∃ m,W 0 m [] H)∧lc (Itl K a) D σb g tt te Q W:=by
  refine ⟨fun i m ys H=>m = xs.length - i∧i≤xs.length∧Pv i ys H,⟨_,rfl,Nat.zero_le _,h0⟩,?_⟩
  rintro i m ys H ⟨rfl,hi,p⟩
  refine ⟨hl i ys H p,?_⟩
  have q:=hq i ys H p
  by_cases hlt:i < xs.length
  · refine .inr ⟨⟨xs,xs[i],q,by simp [hlt]⟩,fun x H3 y=>?_⟩
    obtain ⟨rfl,y⟩:=y
    exact hs i x ys _ (fun a b=>∃ m',m' < xs.length - i∧m' = xs.length - (i + 1)∧i + 1≤xs.length∧Pv (i + 1) a b) (y xs q) p (fun a b q=>⟨xs.length - (i + 1),by omega,rfl,hlt,q⟩)
  · have e:i = xs.length:=by omega
    subst e
    exact .inl ⟨⟨xs,q,Nat.le_refl _⟩,hd ys H p⟩
theorem iz {lo:Int} {n:Nat} (Pv:Nat→List V→Hp→Prop) (h0:Pv 0 [] H) (hl:∀ i ys H,Pv i ys H→H D = some (.lst ys))
    (hs:∀ (i:Nat) ys H P,i < n→Pv i ys H→(∀ a b,Pv (i + 1) a b→P a b)→uU D σb g tt te (.int (lo + i)) ys H P) (hd:∀ ys H,Pv n ys H→Q H ys):∃ W,(∃ m,W 0 m [] H)∧lc (Itr lo n) D σb g tt te Q W:=by
  refine ⟨fun i m ys H=>m = n - i∧i≤n∧Pv i ys H,⟨_,rfl,Nat.zero_le _,h0⟩,?_⟩
  rintro i m ys H ⟨rfl,hi,p⟩
  refine ⟨hl i ys H p,?_⟩
  by_cases hlt:i < n
  · refine .inr ⟨hlt,fun x H3 y=>?_⟩
    obtain ⟨rfl,rfl⟩:=y
    exact hs i ys _ (fun a b=>∃ m',m' < n - i∧m' = n - (i + 1)∧i + 1≤n∧Pv (i + 1) a b) hlt p (fun a b q=>⟨n - (i + 1),by omega,rfl,hlt,q⟩)
  · have e:i = n:=by omega
    subst e
    exact .inl ⟨Nat.le_refl _,hd ys H p⟩
end
theorem Same.new {H:Hp} {p:Addr} {o:HO} (h:H p = none):Same H (upd H p o):=fun b u e=>by rw [ai (aq e h)]; exact e
mutual
def DV (K:PySem.W.Frag) (H:Hp):PyData→V→Prop
  | .none,x=>x = .non
  | .bool b,x=>x = .bl b
  | .int i,x=>x = .int i
  | .str z,x=>x = .str z
  | .list ds,x=>∃ a xs,x = .ref a∧SqL K H a xs∧DVs K H ds xs
  | .tuple ds,x=>∃ a xs,x = .ref a∧SqT K H a xs∧DVs K H ds xs
  | .dict _,_=>False
def DVs (K:PySem.W.Frag) (H:Hp):List PyData→List V→Prop
  | [],xs=>xs = []
  | d :: ds,xs=>∃ y ys,xs = y :: ys∧DV K H d y∧DVs K H ds ys
end
section
variable {X:Cx} {pins:List (Addr×Obj)} {σ:St} {H:Hp} {s:Shared}
mutual
theorem DV.reads (I:Inv X pins σ H s):∀ {d:PyData} {x:V} {u:Value},DV X.K H d x→RelV x u→∃ as,Reads s.heap u d as
  | .none,x,u,h,r=>by
    rw [DV] at h; subst h; cases r; exact ⟨_,.none⟩
  | .bool b,x,u,h,r=>by
    rw [DV] at h; subst h; cases r; exact ⟨_,.bool b⟩
  | .int i,x,u,h,r=>by
    rw [DV] at h; subst h; obtain ⟨t,rfl⟩:=r; exact ⟨_,.int i t⟩
  | .str z,x,u,h,r=>by
    rw [DV] at h; subst h; obtain ⟨t,rfl⟩:=r; exact ⟨_,.str z t⟩
  | .list ds,x,u,h,r=>by
    rw [DV] at h
    obtain ⟨a,xs,rfl,h2,h3⟩:=h
    cases r
    obtain ⟨its,rv,⟨o,n,e,c,_,d⟩,_⟩:=I.list h2
    obtain ⟨as,q⟩:=DVs.reads I h3 rv
    exact ⟨_,.list e c d (by simpa using q)⟩
  | .tuple ds,x,u,h,r=>by
    rw [DV] at h
    obtain ⟨a,xs,rfl,h2,h3⟩:=h
    cases r
    obtain ⟨its,rv,⟨o,e,c,n,d⟩,_⟩:=I.tuple h2
    obtain ⟨as,q⟩:=DVs.reads I h3 rv
    exact ⟨_,.tuple e c d (by simpa using q)⟩
  | .dict _,x,u,h,r=>by rw [DV] at h; exact h.elim
theorem DVs.reads (I:Inv X pins σ H s):∀ {ds:List PyData} {xs:List V} {us:List Value},DVs X.K H ds xs→Vals xs us→∃ as,ReadsAll s.heap us ds as
  | [],xs,us,h,r=>by
    rw [DVs] at h; subst h; cases r; exact ⟨_,.nil⟩
  | d :: ds,xs,us,h,r=>by
    rw [DVs] at h
    obtain ⟨y,ys,rfl,h2,h3⟩:=h
    cases r with
    | cons r rs =>
      obtain ⟨as,q⟩:=DV.reads I h2 r
      obtain ⟨bs,p⟩:=DVs.reads I h3 rs
      exact ⟨_,.cons q p⟩
end
end
inductive rEqD (K:PySem.W.Frag) (neg:Bool) (x y:V) (H:Hp) (Q:VK):Prop
  | mk (d e:PyData) (h0:DV K H d x) (h1:DV K H e y) (h2:SeqAt.shaped d = true) (h3:SeqAt.shaped e = true) (h4:Q (.bl (if neg then !PyData.eqv d e else PyData.eqv d e)) H):rEqD K neg x y H Q
theorem qJ {X:Cx} (hu:X.A.units + 64 < cLine):OpR X (compareOp .Eq) (rEqD X.K false):=by
  intro pins s σ H x y v u Q I rx ry h
  obtain ⟨d,e,h1,h2,s1,s2,q⟩:=h
  obtain ⟨as,ra⟩:=h1.reads I rx
  obtain ⟨bs,rb⟩:=h2.reads I ry
  exact eq_dataH ra rb s1 s2 hu ⟨.bl _,H,I,rfl,q⟩
theorem xZ {X:Cx} (hu:X.A.units + 64 < cLine):OpR X (compareOp .NotEq) (rEqD X.K true):=by
  intro pins s σ H x y v u Q I rx ry h
  obtain ⟨d,e,h1,h2,s1,s2,q⟩:=h
  obtain ⟨as,ra⟩:=h1.reads I rx
  obtain ⟨bs,rb⟩:=h2.reads I ry
  exact ne_dataH ra rb s1 s2 hu ⟨.bl _,H,I,rfl,q⟩
end L2
namespace L2
open PySem PySem.Spec PyProof.Rows
def rO (z:Str) (lo hi:Option Int):Str:=⟨((z.cps.toList.drop (HT.sIx z.cps.size 0 lo)).take (HT.sIx z.cps.size z.cps.size hi - HT.sIx z.cps.size 0 lo)).toArray⟩
theorem uE (n d:Nat) (v:Option Int):(match v with | none=>(d:Int) | some i=>max 0 (min (if i < 0 then i + (n:Int) else i) (n:Int))) = ((HT.sIx n d v:Nat):Int):=by
  cases v with
  | none=>rfl
  | some i =>
    show max 0 (min (if i < 0 then i + (n:Int) else i) (n:Int)) = (((if i < 0 then (i + (n:Int)).toNat else min i.toNat n):Nat):Int)
    split <;> omega
theorem qM (lo hi:Option Int) (n:Nat):Builtin.Str.strSliceIndices lo hi 1 n = (List.range (HT.sIx n n hi - HT.sIx n 0 lo)).map (HT.sIx n 0 lo + ·):=by
  have e:Builtin.Str.strSliceIndices lo hi 1 n = sliceRange ((HT.sIx n 0 lo:Nat):Int) ((HT.sIx n n hi:Nat):Int) 1:=by
    rw [← uE n 0 lo,← uE n n hi]
    unfold Builtin.Str.strSliceIndices
    simp only [show (1:Int) > 0 by decide,if_true]
    cases lo <;> cases hi <;> rfl
  rw [e,sliceRange_one]
theorem pb (z:Str) (lo hi:Option Int):Txt.slice z lo hi = rO z lo hi:=by
  have e:((Builtin.Str.strSliceIndices lo hi 1 z.length).filterMap (z.cps[·]?)) = (z.cps.toList.drop (HT.sIx z.cps.size 0 lo)).take (HT.sIx z.cps.size z.cps.size hi - HT.sIx z.cps.size 0 lo):=by
    rw [qM]
    exact pick_run z.cps _ _
  unfold Txt.slice
  split
  · rename_i h
    have hl:(Builtin.Str.strSliceIndices lo hi 1 z.length).length = z.cps.size:=by
      rw [Bool.and_eq_true] at h
      exact eq_of_beq h.2
    rw [qM,List.length_map,List.length_range] at hl
    have h1:=HT.sIx_le z.cps.size z.cps.size (Nat.le_refl _) hi
    have hl':HT.sIx z.cps.size z.cps.size hi - HT.sIx z.cps.size 0 lo = z.cps.size:=hl
    unfold rO
    by_cases h0:z.cps.size = 0
    · refine ext_toList ?_
      have hz:z.cps.toList = []:=List.length_eq_zero_iff.mp (by simpa using h0)
      show z.cps.toList = _
      rw [hz]
      simp
    · have h2:HT.sIx z.cps.size 0 lo = 0:=by omega
      rw [hl',h2,List.drop_zero,List.take_of_length_le (by simp)]
  · rw [e]
    rfl
section
variable {X:Cx}
def zF:V→Option Int→Option Int→Hp→VK→Prop:=fun x lo hi H Q=>∃ z,x = .str z∧z.length≤sizeLine∧Q (.str (rO z lo hi)) H
theorem vF:SlR X zF:=by
  intro pins s σ H x v vl vu lo hi sl Q I rx hs pl pu h
  obtain ⟨z,rfl,hz,q⟩:=h
  obtain ⟨t,rfl⟩:=rx
  refine ⟨"str",_,F.slot_str_getitem.lookup,typeIs_str _ _ _,?_⟩
  rw [← pb] at q
  have fin:∀ t' k,EP X pins σ Q (.str (Txt.slice z lo hi) t') { s with toks:=k }:=fun t' k=>⟨.str _,H,I.tok _,⟨_,rfl⟩,q⟩
  cases pl with
  | none =>
    cases pu with
    | none=>exact wpAny_getItem_str_slice (l:=none) (u:=none) (st:=none) hs rfl (post_val_or_str ⟨Nat.le_trans (Txt.slice_le z _ _) hz,fin⟩)
    | int j uj=>exact wpAny_getItem_str_slice (l:=none) (u:=some (j,uj)) (st:=none) hs rfl (post_val_or_str ⟨Nat.le_trans (Txt.slice_le z _ _) hz,fin⟩)
  | int i ui =>
    cases pu with
    | none=>exact wpAny_getItem_str_slice (l:=some (i,ui)) (u:=none) (st:=none) hs rfl (post_val_or_str ⟨Nat.le_trans (Txt.slice_le z _ _) hz,fin⟩)
    | int j uj=>exact wpAny_getItem_str_slice (l:=some (i,ui)) (u:=some (j,uj)) (st:=none) hs rfl (post_val_or_str ⟨Nat.le_trans (Txt.slice_le z _ _) hz,fin⟩)
theorem SlR.imp {r r':V→Option Int→Option Int→Hp→VK→Prop} (h:SlR X r) (i:∀ x lo hi H Q,r' x lo hi H Q→r x lo hi H Q):SlR X r' :=
  fun pins s σ H x v vl vu lo hi sl Q I rx hs pl pu q=>h pins s σ H x v vl vu lo hi sl Q I rx hs pl pu (i x lo hi H Q q)
theorem vg:SlR X (fun x lo hi H Q=>match x with
    | .str z=>z.length≤sizeLine∧Q (.str (rO z lo hi)) H
    | .ref a=>(∃ xs,SqL X.K H a xs∧∀ p,H p = none→Q (.ref p) (upd H p (.lst (eZ xs lo hi)))) ∨
        ∃ xs,SqT X.K H a xs∧¬ (HT.sIx xs.length 0 lo = 0∧HT.sIx xs.length xs.length hi = xs.length)∧∀ p,H p = none→Q (.ref p) (upd H p (.tup (eZ xs lo hi)))
    | _=>False):=(sl_list.or (sl_tup.or vF)).imp fun x lo hi H Q q=>by
  cases x with
  | str z=>exact .inr (.inr ⟨z,rfl,q.1,q.2⟩)
  | ref a =>
    rcases q with ⟨xs,h1,h2⟩ | ⟨xs,h1,h2,h3⟩
    · exact .inl ⟨a,xs,rfl,h1,h2⟩
    · exact .inr (.inl ⟨a,xs,rfl,h1,h2,h3⟩)
  | _=>exact (show False from q).elim
def ym:V→List V→Hp→VK→Prop:=fun x xs H Q=>match x,xs with
  | .str z,[.str y]=>Q (.bl (Txt.startswith z y)) H
  | _,_=>False
def yv:V→List V→Hp→VK→Prop:=fun x xs H Q=>match x,xs with
  | .str z,[.str y]=>∃ i rest,Builtin.Str.occurrences z y 0 z.length 1 = i :: rest∧Q (.int (i:Nat)) H
  | _,_=>False
variable {o e:Expr} {es:List Expr} {to:TE} {t:TA} {apos cpos:Pos}
end
end L2
namespace L2
open PySem PySem.Spec PyProof.Rows
section
variable {X:Cx} {st:Stmt} {rest:List Stmt} {t u:TS} {e:Expr} {te:TE} {tt:TT}
def zQ (t u:TS):TS:=fun D σ H=>∃ M:St→Hp→Prop,t { D with nx:=M } σ H∧∀ σ' H',M σ' H'→u D σ' H'
def Ak (t:TE):TE:=fun σ H Q=>∃ M:VK,t σ H M∧∀ v H',M v H'→Q v H'
def zX (t:TT):TT:=fun σ H Q=>∃ M:Bool→Hp→Prop,t σ H M∧∀ v H',M v H'→Q v H'
end
end L2
namespace L2
open PySem PySem.Spec PyProof.Rows
section
variable {X:Cx} {pins:List (Addr×Obj)} {σ:St} {H:Hp} {s:Shared} {h':Heap}
theorem Inv.turnedNew {t':Nat} {ch:List Addr} {a:Addr} {o:HO} (I:Inv X pins σ H s) (k:∀ b u,b ∉ ch→s.heap.get? b = some u→h'.get? b = some u) (hf:∀ b ∈ ch,fA X pins H b)
    (ha:s.heap.objs.size≤a) (new:ObjOk X.prog X.w (upd H a o) h' a o):Inv X pins σ (upd H a o) { s with heap:=h',toks:=t' }:=by
  have hna:H a = none:=I.hok.fresh ha
  have nch:∀ b u,H b = some u→b ∉ ch:=fun b u e z=>by
    rw [(hf b z).1] at e
    cases e
  have nea:∀ b u,H b = some u→b≠a:=fun b u e z=>by
    rw [z,hna] at e
    cases e
  have old:∀ b u,s.heap.get? b = some u→b≠a:=fun b u e=>Nat.ne_of_lt (Nat.lt_of_lt_of_le (Heap.lt_size e) ha)
  refine I.step (g':=s.gens) (d':=s.drawn) (ch:=ch) (fun b hb=>?_) (fun b u _ _ hc e _=>k b u hc e) (fun b u _ _ hc e _=>⟨u.slots,k b u hc e⟩) (fun b u _ e n=>?_) (fun b u hc e=>⟨u,k b u hc e⟩)
    (fun b xs e=>?_) (fun b u v e=>?_) (fun b ps e=>⟨#[],?_⟩) (fun m hm=>?_) (fun b u e=>?_) I.bare
  · obtain ⟨_,f1,_,f3,f4,f5⟩:=hf b hb
    exact ⟨f3,f1,f4,f5⟩
  · rw [ai (old b u e)]; exact n
  · rw [ai (nea b _ e)]; exact e
  · rw [ai (nea b _ e)]; exact e
  · rw [ai (nea b _ e),e]; simp
  · obtain ⟨ob,es,ep,ho,r⟩:=hm
    exact ⟨ob,es,ep,k _ ob (fun z=>(hf _ z).2.1 rfl) ho,r⟩
  · by_cases hb:b = a
    · subst hb
      rw [ad] at e
      cases e
      exact new
    · rw [ai hb] at e
      refine (I.hok b u e).stay (fun c v hc q=>k c v ?_ q) (fun c q=>?_) fun c xs q=>?_
      · rcases hc with z | z
        · rw [z]; exact nch b u e
        · exact nch c _ z
      · rw [ai (nea c _ q)]; exact q
      · rw [ai (nea c _ q)]; exact q
theorem Inv.turnedN {t':Nat} {ch:List Addr} (I:Inv X pins σ H s) (k:∀ b u,b ∉ ch→s.heap.get? b = some u→h'.get? b = some u) (hf:∀ b ∈ ch,fA X pins H b):Inv X pins σ H { s with heap:=h',toks:=t' }:=by
  have nch:∀ b u,H b = some u→b ∉ ch:=fun b u e z=>by
    rw [(hf b z).1] at e
    cases e
  refine I.step (g':=s.gens) (d':=s.drawn) (ch:=ch) (fun b hb=>?_) (fun b u _ _ hc e _=>k b u hc e) (fun b u _ _ hc e _=>⟨u.slots,k b u hc e⟩) (fun b u _ e n=>n) (fun b u hc e=>⟨u,k b u hc e⟩)
    (fun b xs e=>e) (fun b u v e=>e) (fun b ps e=>⟨#[],by rw [e]; simp⟩) (fun m hm=>?_) (fun b u e=>?_) I.bare
  · obtain ⟨_,f1,_,f3,f4,f5⟩:=hf b hb
    exact ⟨f3,f1,f4,f5⟩
  · obtain ⟨ob,es,ep,ho,r⟩:=hm
    exact ⟨ob,es,ep,k _ ob (fun z=>(hf _ z).2.1 rfl) ho,r⟩
  · refine (I.hok b u e).stay (fun c v hc q=>k c v ?_ q) (fun c q=>q) fun c xs q=>q
    rcases hc with z | z
    · rw [z]; exact nch b u e
    · exact nch c _ z
end
def Ite (a:Addr):It:=⟨fun i H=>∃ xs x,H a = some (.lst xs)∧xs[i]? = some x,
  fun i H x H'=>∃ p y,H p = none∧x = .ref p∧(∀ xs,H a = some (.lst xs)→xs[i]? = some y)∧H' = upd H p (.tup [.int (i:Nat),y]),fun i H=>∃ xs,H a = some (.lst xs)∧xs.length≤i⟩
def Ar (ta:TA):TI:=fun σ H R=>ta σ H fun vs H1=>∃ a xs,vs = [.ref a]∧H1 a = some (.lst xs)∧R (Ite a) H1
def Itz (a b:Addr):It:=⟨fun i H=>∃ xs ys x y,H a = some (.lst xs)∧H b = some (.lst ys)∧xs[i]? = some x∧ys[i]? = some y,
  fun i H v H'=>∃ p x y,H p = none∧v = .ref p∧(∀ xs,H a = some (.lst xs)→xs[i]? = some x)∧(∀ ys,H b = some (.lst ys)→ys[i]? = some y)∧H' = upd H p (.tup [x,y]),
  fun i H=>∃ xs ys,H a = some (.lst xs)∧H b = some (.lst ys)∧(xs.length≤i∨ys.length≤i)⟩
theorem rC {P:Program} {w:World} {K:PySem.W.Frag} {es:List Expr} {k:Nat} {pos:Pos} (a b z TI TO i1 i2:Addr) (nd:[z,TI,TO,i1,i2].Nodup) :
    Turn P w K (.Tuple es k pos) (Itz a b) [z,TI,TO,i1,i2] z (fun i h=>IsZip h z TI TO .none∧IsPair h TI (.ref i1) (.ref i2)∧(∃ u v,IsPair h TO u v)∧h.IsListIter i1 a i∧h.IsListIter i2 b i):=by
  have n1:TI≠z:=fun e=>by simp [e] at nd
  have n2:TO≠z:=fun e=>by simp [e] at nd
  have n3:i1≠z:=fun e=>by simp [e] at nd
  have n4:i2≠z:=fun e=>by simp [e] at nd
  have n5:TI≠TO:=fun e=>by simp [e] at nd
  have n6:TI≠i1:=fun e=>by simp [e] at nd
  have n7:TI≠i2:=fun e=>by simp [e] at nd
  have n8:TO≠i1:=fun e=>by simp [e] at nd
  have n9:TO≠i2:=fun e=>by simp [e] at nd
  have n0:i1≠i2:=fun e=>by simp [e] at nd
  have apart:∀ {H:Hp} {xs ys:List V},(∀ c ∈ [z,TI,TO,i1,i2],H c = none)→H a = some (.lst xs)→H b = some (.lst ys)→ZipApart z TI TO i1 i2 a b:=fun {H xs ys} hf ha hb =>
    ⟨n1,n2,n3,n4,n5,n6,n7,n8,n9,n0,aq ha (hf z (by simp)),aq ha (hf TO (by simp)),aq ha (hf i1 (by simp)),aq ha (hf i2 (by simp)),
      aq hb (hf z (by simp)),aq hb (hf TO (by simp)),aq hb (hf i1 (by simp)),aq hb (hf i2 (by simp))⟩
  refine { mem:=by simp,obj:=?_,keep:=?_,item:=?_,done:=?_,self:=?_ }
  · rintro i h ⟨h1,h2,⟨u,v,h3⟩,⟨o4,h4,_,d4⟩,⟨o5,h5,_,d5⟩⟩ c hc
    simp only [List.mem_cons,List.not_mem_nil,or_false] at hc
    rcases hc with rfl | rfl | rfl | rfl | rfl
    · exact ⟨_,h1,fun v z=>by cases z⟩
    · exact ⟨_,h2,fun v z=>by cases z⟩
    · exact ⟨_,h3,fun v z=>by cases z⟩
    · exact ⟨_,h4,fun v z=>by rw [d4] at z; cases z⟩
    · exact ⟨_,h5,fun v z=>by rw [d5] at z; cases z⟩
  · rintro i h h' ⟨h1,h2,⟨u,v,h3⟩,⟨o4,h4,r4⟩,⟨o5,h5,r5⟩⟩ kp
    exact ⟨kp z (by simp) _ h1,kp TI (by simp) _ h2,⟨u,v,kp TO (by simp) _ h3⟩,⟨o4,kp i1 (by simp) _ h4,r4⟩,⟨o5,kp i2 (by simp) _ h5,r5⟩⟩
  · intro X hP hw hK hc i pins s σ H E I hf st hg
    subst hP hw hK
    obtain ⟨h1,h2,⟨u,v,h3⟩,h4,h5⟩:=st
    obtain ⟨xs,ys,x,y,ha,hb,hx,hy⟩:=hg
    obtain ⟨_,its,n,r,hlen,eo⟩:=I.lstM ha
    obtain ⟨_,its2,m,r2,hlen2,eo2⟩:=I.lstM hb
    obtain ⟨ux,hux,rux⟩:=Vals.get r hx
    obtain ⟨uy,huy,ruy⟩:=Vals.get r2 hy
    have hn:H s.heap.objs.size = none:=I.hok.fresh (Nat.le_refl _)
    have new:∀ c ∈ [z,TI,TO,i1,i2],c≠s.heap.objs.size:=fun c hc q=>by
      have:∃ o,s.heap.get? c = some o:=by
        simp only [List.mem_cons,List.not_mem_nil,or_false] at hc
        obtain ⟨o4,h4,_⟩:=h4
        obtain ⟨o5,h5,_⟩:=h5
        rcases hc with rfl | rfl | rfl | rfl | rfl
        · exact ⟨_,h1⟩
        · exact ⟨_,h2⟩
        · exact ⟨_,h3⟩
        · exact ⟨_,h4⟩
        · exact ⟨_,h5⟩
      obtain ⟨o,ho⟩:=this
      exact absurd (Heap.lt_size ho) (by rw [q]; exact Nat.lt_irrefl _)
    refine wpAny_pyNext_zip_item (apart (fun c hc=>(hf c hc).1) ha hb) h1 h2 h3 h4 h5 (xs:=its.toArray) (ys:=its2.toArray) ⟨_,eo,rfl,_,rfl⟩ ⟨_,eo2,rfl,_,rfl⟩ (x:=ux) (y:=uy) (by simpa using hux) (by simpa using huy)
      fun h6 e1 e2 e3 e4 e5 e6 e7=>?_
    refine ⟨_,rfl,wpAny_letOwnedTupleGo_zip e1 fun h7 e8 sb=>?_⟩
    have J:Inv X pins σ (upd H s.heap.objs.size (.tup [x,y])) { s with heap:=h7 }:=by
      refine I.turnedNew (t':=s.toks) (ch:=[z,TI,TO,i1,i2]) (fun c o hc q=>?_) hf (Nat.le_refl _) ⟨by rw [sizeLine_eq]; show 2≤16777216; decide,[ux,uy],.cons rux (.cons ruy .nil),_,(sb.2 _ (new z (by simp)).symm).trans e5,rfl,0,rfl⟩
      have c1:c≠z:=fun w=>hc (by simp [w])
      exact (sb.2 c c1).trans (e7 c o c1 (fun w=>hc (by simp [w])) (fun w=>hc (by simp [w])) (fun w=>hc (by simp [w])) q)
    refine ⟨.ref s.heap.objs.size,_,J,rfl,⟨s.heap.objs.size,x,y,hn,rfl,fun xs' h=>by rw [ha] at h; cases h; exact hx,fun ys' h=>by rw [hb] at h; cases h; exact hy,rfl⟩,⟨e8,?_,⟨ux,uy,?_⟩,?_,?_⟩,fun c hc=>?_⟩
    · exact (sb.2 TI n1).trans (e7 TI _ n1 n5 n6 n7 h2)
    · exact (sb.2 TO n2).trans e2
    · obtain ⟨o,ho,q⟩:=e3
      exact ⟨o,(sb.2 i1 n3).trans ho,q⟩
    · obtain ⟨o,ho,q⟩:=e4
      exact ⟨o,(sb.2 i2 n4).trans ho,q⟩
    · rw [ai (new c hc)]
      exact (hf c hc).1
  · intro X hP hw hK hc i pins s σ H E I hf st hg
    subst hP hw hK
    obtain ⟨h1,h2,⟨u,v,h3⟩,h4,h5⟩:=st
    obtain ⟨xs,ys,ha,hb,hx⟩:=hg
    obtain ⟨_,its,n,r,hlen,eo⟩:=I.lstM ha
    obtain ⟨_,its2,m,r2,hlen2,eo2⟩:=I.lstM hb
    refine wpAny_pyNext_zip_end (I.ok.hd hc) (apart (fun c hc=>(hf c hc).1) ha hb) h1 h2 h3 h4 h5 (xs:=its.toArray) (ys:=its2.toArray) ⟨_,eo,rfl,_,rfl⟩ ⟨_,eo2,rfl,_,rfl⟩ (by simp; omega) fun h6 e7=>?_
    exact ⟨rfl,I.turnedN (t':=s.toks) (ch:=[z,TI,TO,i1,i2]) (fun c o hc q=>e7 c o (fun w=>hc (by simp [w])) (fun w=>hc (by simp [w])) (fun w=>hc (by simp [w])) (fun w=>hc (by simp [w])) q) hf⟩
  · exact fun _ _ _ _ _ st h=>wpAny_pyIter_zip st.1 h
def yV (ta:TA):TI:=fun σ H R=>ta σ H fun vs H1=>∃ a b xs ys,vs = [.ref a,.ref b]∧H1 a = some (.lst xs)∧H1 b = some (.lst ys)∧R (Itz a b) H1
theorem si {X:Cx} {es:List Expr} {k:Nat} {tpos:Pos} {e f:Expr} {ta:TA} {p pos:Pos} (hg:Gl X "zip") (hm:X.mg "zip" = none) (ha:PA X [e,f] ta) (hs:starEach [e,f] X.env = (false,eval e X.env) :: starEach [f] X.env:=by rfl)
    (hpl:(backTo pos (starEach [f] X.env)).any (·.1) = false:=by rfl):PI X (.Tuple es k tpos) (.Call (.Name "zip" p) [e,f] [] pos) (yV ta):=by
  intro pins s σ H R I h
  refine wpAny_Call_Name_kw (gg I hg hm vy ?_ (by decide) (by decide))
  refine PyProof.Rows.callWith_type1 (thn (ha pos pins s σ H _ I h) fun us s1 ⟨vs,H1,I1,r1,a,b,xs,ys,e1,hl,hl2,q⟩=>?_) hs hpl
  subst e1
  obtain ⟨u,v,rfl,ru,rv⟩:=oj r1
  cases ru
  cases rv
  obtain ⟨_,its,n,r,hlen,eo⟩:=I1.lstM hl
  obtain ⟨_,its2,m,r2,hlen2,eo2⟩:=I1.lstM hl2
  refine call_zip_2 (xs:=its.toArray) (ys:=its2.toArray) ⟨_,eo,rfl,_,rfl⟩ ⟨_,eo2,rfl,_,rfl⟩ fun h2 e1 e2 e3 e4 e5 e6 e7=>?_
  have I2:Inv X pins σ H1 { s1 with heap:=h2 }:=I1.kept (t':=s1.toks) e7
  refine wpAny_pyIter_zip e1 ?_
  refine ⟨s1.heap.objs.size + 4,[s1.heap.objs.size + 4,s1.heap.objs.size + 2,s1.heap.objs.size + 3,s1.heap.objs.size,s1.heap.objs.size + 1],_,_,H1,rfl,I2,rC a b _ _ _ _ _ (by simp),⟨e1,e2,⟨_,_,e3⟩,e4,e5⟩,fun c hc=>?_,q⟩
  have hc':s1.heap.objs.size≤c:=by
    simp only [List.mem_cons,List.not_mem_nil,or_false] at hc
    rcases hc with z | z | z | z | z <;> rw [z] <;> first | exact Nat.le_refl _ | exact Nat.le_add_right _ _
  exact I1.fpOk hc' (I1.hok.fresh hc')
theorem oh {a b:Addr} {xs ys:List V} {g:TG} {tb:TS} {D:Ends} {σ:St} {H:Hp} (he:xs.length = ys.length) (Pv:Nat→St→Hp→Prop) (h0:Pv 0 σ H) (hl:∀ i σ H,Pv i σ H→H a = some (.lst xs)∧H b = some (.lst ys))
    (hs:∀ (i:Nat) x y σ H p,xs[i]? = some x→ys[i]? = some y→Pv i σ H→H p = none→g (.ref p) σ (upd H p (.tup [x,y])) fun σ2 H2=>tb { D with nx:=Pv (i + 1),ct:=Pv (i + 1),bk:=D.nx } σ2 H2) (hd:∀ σ H,Pv xs.length σ H→D.nx σ H) :
    ∃ W:Nat→Nat→St→Hp→Prop,(∃ m,W 0 m σ H)∧∀ i m σ H,W i m σ H →
      ((Itz a b).stop i H∧D.nx σ H)∨((Itz a b).go i H∧∃ N:St→Hp→Prop,(∀ σ' H',N σ' H'→∃ m',m' < m∧W (i + 1) m' σ' H')∧∀ x H',(Itz a b).yld i H x H'→g x σ H' fun σ2 H2=>tb { D with nx:=N,ct:=N,bk:=D.nx } σ2 H2):=by
  refine ⟨fun i m σ H=>m = xs.length - i∧i≤xs.length∧Pv i σ H,⟨_,rfl,Nat.zero_le _,h0⟩,?_⟩
  rintro i m σ H ⟨rfl,hi,p⟩
  obtain ⟨q1,q2⟩:=hl i σ H p
  by_cases hlt:i < xs.length
  · refine .inr ⟨⟨xs,ys,xs[i],ys[i]'(by omega),q1,q2,by simp [hlt],by simp [show i < ys.length by omega]⟩,Pv (i + 1),fun σ' H' p'=>⟨_,by omega,rfl,hlt,p'⟩,fun v H' y=>?_⟩
    obtain ⟨c,x,y,hc,rfl,hx,hy,rfl⟩:=y
    exact hs i x y σ H c (hx xs q1) (hy ys q2) p hc
  · have e:i = xs.length:=by omega
    subst e
    exact .inl ⟨⟨xs,ys,q1,q2,.inl (Nat.le_refl _)⟩,hd σ H p⟩
end L2
namespace NumM
open PySem PySem.NumText
def yY (l:List Nat):Bool:=decide (1≤l.length∧l.length≤12) && l.all fun c=>decide (48≤c∧c≤57)
def ny (l:List Nat):List Nat:=if l.head? = some 45 then l.tail else l
def y8 (l:List Nat):Int:=if l.head? = some 45 then -((digitsVal (ny l):Nat):Int) else ((digitsVal (ny l):Nat):Int)
def yH (l:List Nat):Bool:=decide ((ny l).head? = some 48) && decide (l≠[48])
def Ax (l:List Nat):Option Int:=if (yY (ny l) && !yH l) = true then some (y8 l) else none
def zw (n:Int):List Nat:=(toString n:String).toList.map Char.toNat
theorem kN {c:Nat} (h:c < 128):(Char.ofNat c).toNat = c:=by
  have:c.isValidChar:=Or.inl (by omega)
  simp [Char.ofNat,this,Char.toNat,Char.ofNatAux]
theorem back {cs:List Nat} (h:AllDigits cs):(cs.map Char.ofNat).map Char.toNat = cs:=by
  rw [List.map_map]
  induction cs with
  | nil=>rfl
  | cons c cs ih =>
    rw [List.map_cons,ih h.tail]
    have:=h.head
    show (Char.ofNat c).toNat :: cs = _
    rw [kN (by omega)]
end NumM
namespace L2
open PySem PySem.Spec PyProof.Rows
def zZ (c k:Int):Int:=if c % 4 = 1 then c / 2 ^ (2 + 40 * k).toNat % 2 ^ (40:Int).toNat else
  ((((c + 7919 * k) % 2147483647 * 48271 + k) % 2147483647) * ((((c + 7919 * k) % 2147483647 * 48271 + k) % 2147483647) + 7) % 2147483629) * (((((c + 7919 * k) % 2147483647 * 48271 + k) % 2147483647) * ((((c + 7919 * k) % 2147483647 * 48271 + k) % 2147483647) + 7) % 2147483629) + 3) % 2147483587
def zu (ns:List Int) (k:Int):Int:=if k < ns.length then ns.getD k.toNat 0 else 7919 * k + 14
def oV:Option Int→V
  | none=>.non
  | some n=>.int n
def wA (lo hi:Int):Option Int→Option Int
  | some n=>if lo≤n∧n≤hi then some n else none
  | none=>none
def wP (t S:Str) (m:Int):Bool:=decide (1≤(t.cps.size:Int)∧(t.cps.size:Int)≤m) && t.cps.toList.all fun c=>decide (c ∈ S.cps.toList)
end L2
namespace SplM
open PySem
def splitC (c:Nat):List Nat→List (List Nat)
  | []=>[[]]
  | a :: l=>if a = c then [] :: splitC c l else match splitC c l with
    | []=>[[a]]
    | p :: r=>(a :: p) :: r
def xg (c:Nat):List (List Nat)→List Nat
  | []=>[]
  | [p]=>p
  | p :: q :: r=>p ++ c :: xg c (q :: r)
end SplM
namespace L2
open PySem PySem.Spec PyProof.Rows
section
variable {X:Cx}
def zN (K:PySem.W.Frag):V→List V→Hp→VK→Prop:=fun x xs H Q=>∃ (z:Str) (p:Addr) (ts:List Str),x = .str z∧xs = [.ref p]∧(SqL K H p (ts.map V.str)∨SqT K H p (ts.map V.str)) ∧
  (ts.map (·.length)).sum + ts.length * z.length≤16777216∧Q (.str (Txt.join z ts)) H
open Builtin.Str in
theorem wC {P:Program} {w:World} {A:Around} {E:Value→Shared→Prop} {s:Shared} {x y:Str} {t u:Tok} {Q:Value→Shared→Prop} (hy:(y.length == 0) = false) (hx:x.length≤sizeLine)
    (hp:(partsBetween x (occurrences x y 0 x.length (x.length + 1)) y.length).length≤sizeLine)
    (h:∀ (l:List (Str×Tok)) (k:Nat),l.map (·.1) = Txt.split x y→Q (.ref s.heap.objs.size) { s with heap:=s.heap.push { cls:=.type "list",data:=.seq (strValues l).toArray },toks:=k }) :
    wpAny (model P w) A (call (.builtin "str.split") [.str x t,.str y u]) Q E s:=by
  by_cases h1:(decide (x.length < y.length) || decide (strKind x < strKind y)) = true
  · refine call_meets F.slot_str_split (typeIs_str s x t) F.entry_str_split (F.args_str_split_2 _ _) (meets_str_split_cannot_occur x y t u h1) ?_
    exact h [(x,t)] s.toks (by unfold Txt.split; rw [if_pos h1]; rfl)
  · have h1':=eq_false_of_ne_true h1
    by_cases h2:(occurrences x y 0 x.length (x.length + 1)).isEmpty = true
    · refine call_meets F.slot_str_split (typeIs_str s x t) F.entry_str_split (F.args_str_split_2 _ _) (meets_str_split_not_found x y t u h1' hy h2) ?_
      exact h [(x,t)] s.toks (by unfold Txt.split; rw [if_neg h1,if_pos h2]; rfl)
    · have h2':=eq_false_of_ne_true h2
      refine call_meets F.slot_str_split (typeIs_str s x t) F.entry_str_split (F.args_str_split_2 _ _) (meets_str_split_sep x y t u h1' hy h2' hx hp) ?_
      have:=h (numbered s.toks (partsBetween x (occurrences x y 0 x.length (x.length + 1)) y.length)) (s.toks + (partsBetween x (occurrences x y 0 x.length (x.length + 1)) y.length).length)
        ((numbered_texts _ _).trans (by unfold Txt.split; rw [if_neg h1,if_neg h2]))
      rw [← strsFrom_eq] at this
      exact this
def yQ:V→List V→Hp→VK→Prop:=fun x xs H Q=>∃ (z:Str) (c:Nat),x = .str z∧xs = [.str ⟨#[c]⟩]∧z.cps.size + 2≤sizeLine ∧
  ∀ (l:Addr) (ts:List Str),H l = none→ts.map (fun t=>t.cps.toList) = SplM.splitC c z.cps.toList→Q (.ref l) (upd H l (.lst (ts.map V.str)))
abbrev TJ:=Str→St→Hp→(Str→Hp→Prop)→Prop
def PJ (X:Cx) (vs:List Expr) (t:TJ):Prop:=∀ (pins:List (Addr×Obj)) (s:Shared) (σ:St) (H:Hp) (acc:Str) (Q:VK),Inv X pins σ H s→t acc σ H (fun out H'=>Q (.str out) H') →
  wpAny (model X.prog X.w) X.A (joinParts acc (evalEach vs X.env)) (EP X pins σ Q) X.xe s
def A0:TJ:=fun acc _ H R=>acc.length≤sizeLine∧R acc H
def Ae (te:TE) (tr:TJ):TJ:=fun acc σ H R=>te σ H fun x H1=>match x with
  | .str y=>(acc ++ y).length≤sizeLine∧tr (acc ++ y) σ H1 R
  | _=>False
def Ab (t:TJ):TE:=fun σ H Q=>t Str.empty σ H fun out H'=>Q (.str out) H'
def AM (te:TE):TE:=fun σ H Q=>te σ H fun x H1=>match x with
  | .str y=>y.length≤sizeLine∧Q (.str y) H1
  | .int i=>i.natAbs.log2 < 1920∧Q (.str (toString i)) H1
  | _=>False
variable {o e:Expr} {es:List Expr} {to:TE} {t:TA} {apos cpos:Pos}
theorem pe_m.append (ho:PE X o to) (ha:PA X (e :: es) t) (hbase:attributeBase o "append" X.env (eval o X.env) = eval o X.env:=by rfl)
    (hfew:((backTo cpos (starEach (e :: es) X.env)).all (fun x=>!x.1) && (backToKw cpos (keywordEach [] X.env)).all (fun x=>x.1.isSome) && decide ((e :: es).length + ([]:List Keyword).length + (if ([]:List Keyword).isEmpty then 0 else 1) < 30)) = true:=by rfl)
    (hline:(apos.endLine == cpos.line) = true:=by rfl) (hs:starEach (e :: es) X.env = (false,eval e X.env) :: starEach es X.env:=by rfl) (hplain:(backTo cpos (starEach es X.env)).any (·.1) = false:=by rfl) :
    PE X (.Call (.Attribute o "append" apos) (e :: es) [] cpos) (tBM X.K "list" rAppend to t):=qI F.plainAttrs_list F.slot_list_append F.type_list_append je ho ha hbase hfew hline hs hplain
theorem pe_m.popAt (ho:PE X o to) (ha:PA X (e :: es) t) (hbase:attributeBase o "pop" X.env (eval o X.env) = eval o X.env:=by rfl)
    (hfew:((backTo cpos (starEach (e :: es) X.env)).all (fun x=>!x.1) && (backToKw cpos (keywordEach [] X.env)).all (fun x=>x.1.isSome) && decide ((e :: es).length + ([]:List Keyword).length + (if ([]:List Keyword).isEmpty then 0 else 1) < 30)) = true:=by rfl)
    (hline:(apos.endLine == cpos.line) = true:=by rfl) (hs:starEach (e :: es) X.env = (false,eval e X.env) :: starEach es X.env:=by rfl) (hplain:(backTo cpos (starEach es X.env)).any (·.1) = false:=by rfl) :
    PE X (.Call (.Attribute o "pop" apos) (e :: es) [] cpos) (tBM X.K "list" qk to t):=qI F.plainAttrs_list F.slot_list_pop F.type_list_pop qZ ho ha hbase hfew hline hs hplain
end
def TK (H H':Hp):Prop:=∀ b xs,H b = some (.tup xs)→H' b = some (.tup xs)
theorem TK.trans {H H1 H2:Hp} (a:TK H H1) (b:TK H1 H2):TK H H2:=fun c o h=>b c o (a c o h)
theorem Same.tk {H H':Hp} (e:Same H H'):TK H H':=fun b xs h=>e b _ h
theorem TK.lst {H:Hp} {l:Addr} {xs ys:List V} (h:H l = some (.lst xs)):TK H (upd H l (.lst ys)):=fun b zs e=>by
  rw [ai (uz e h (by intro z; cases z))]; exact e
theorem Same.put {H H':Hp} {D:Addr} {o:HO} (e:Same H H') (h:H D = none):Same H (upd H' D o):=fun b u q=>by
  rw [ai (aq q h)]; exact e b u q
theorem dH {α:Type} {xs:List α} {i:Int} {v:α} (k:Nat) (hk:(k:Int) = i) (h:xs[k]? = some v):atI xs i = some v:=by rw [← hk]; exact cD h
theorem pG (xs:List V) (k:Nat):eZ xs (some (k:Int)) none = xs.drop k:=by
  unfold eZ
  rw [HT.sIx_nat,HT.sIx_none]
  by_cases h:k≤xs.length
  · rw [Nat.min_eq_left h,List.take_of_length_le (by simp)]
  · rw [Nat.min_eq_right (by omega),Nat.sub_self,List.take_zero,List.drop_of_length_le (by omega)]
def uG (t:Str):Bool:=wP t "abcdefghijklmnopqrstuvwxyz" 8
end L2
namespace L2
open PySem PySem.Spec PyProof.Rows
structure U where
  name:Str
  value:Int
  size:Int
  path:List Str
def uV (p:Addr) (u:U):List V:=[.str u.name,.int u.value,.int u.size,.ref p]
def IsU (H:Hp) (u:U) (x:V):Prop:=∃ a p,x = .ref a∧H a = some (.tup (uV p u))∧H p = some (.tup (u.path.map V.str))
abbrev AllU (H:Hp):List U→List V→Prop:=Paired (IsU H)
theorem AllU.len {H:Hp} {us:List U} {xs:List V} (h:AllU H us xs):us.length = xs.length:=Paired.length h
structure GoodU (u:U):Prop where
  nm:uG u.name = true
  v0:-1000000000≤u.value
  v1:u.value≤1000000000
  s0:1≤u.size
  s1:u.size≤1000000
  pl:u.path.length≤3
  pn:∀ n ∈ u.path,uG n = true
structure GoodL (us:List U):Prop where
  l1:1≤us.length
  l2:us.length≤24
  each:∀ u ∈ us,GoodU u
  nd:(us.map U.name).Nodup
  pth:∀ u ∈ us,∀ v ∈ us,u.path.length = v.path.length
def wZ:List Str→Str
  | [] => "-"
  | p :: r=>Txt.join "." (p :: r)
def xP (u:U):List Str:=[u.name,toString u.value,toString u.size,wZ u.path]
def Aa (u:U):Str:=Txt.join " " (xP u)
def uD (u:U):PyData:=.tuple [.str u.name,.int u.value,.int u.size,.tuple (u.path.map PyData.str)]
section
variable {X:Cx} {K:PySem.W.Frag}
theorem dQ (h:X.K = K):IxR X (rIx K):=h ▸ av
theorem sL (h:X.K = K):SlR X (fun x lo hi H Q=>match x with
    | .str z=>z.length≤sizeLine∧Q (.str (rO z lo hi)) H
    | .ref a=>(∃ xs,SqL K H a xs∧∀ p,H p = none→Q (.ref p) (upd H p (.lst (eZ xs lo hi)))) ∨
        ∃ xs,SqT K H a xs∧¬ (HT.sIx xs.length 0 lo = 0∧HT.sIx xs.length xs.length hi = xs.length)∧∀ p,H p = none→Q (.ref p) (upd H p (.tup (eZ xs lo hi)))
    | _=>False):=h ▸ vg
theorem lX (h:X.K = K):CallR X (.builtin "len") (fun xs H Q=>match xs with
    | [.str z]=>z.length≤sizeLine∧Q (.int z.length) H
    | [.ref p]=>rLenSq K p H Q
    | _=>False):=h ▸ be
theorem dj (h:X.K = K) {es:List Expr} {k:Nat} {t:TGs} {n:Nat} {pos:Pos} (hc:X.calm = true) (hp:PGs X es t) (hn:(assignEach es X.env).length = n:=by rfl) (hst:(assignEach es X.env).findIdx? (·.1) = none:=by rfl) :
    PG X (.Tuple es k pos) (gTup K n t):=h ▸ dq hc hp hn hst
end
end L2
namespace L2
open PySem PySem.Spec PyProof.Rows
structure XCls (K:PySem.W.Frag) (D:Addr):Prop where
  ga:PySem.W.findIn K (.ref D) "__getattribute__" = some (some (.builtin "BaseException.__getattribute__"))
  gn:PySem.W.findIn K (.ref D) "__getattr__" = some none
  cl:PySem.W.findIn K (.ref D) "__class__" = some (some (.builtin "object.__class__"))
  mb:PySem.W.mroIn K D (.type "BaseException") = some true
  mo:PySem.W.mroIn K D (.type "object") = some true
  isc:(PySem.W.clsIn K D).isSome = true
section
variable {prog:Program} {w:World} {A:Around} {E:Value→Shared→Prop} {h:Heap} {g:Array GenState} {d:Drawn} {t:Nat} {os:OsState} {a D:Addr} {o:Obj} {K:PySem.W.Frag}
theorem pV {M:Model} {nameV:Value} {Q:Unit→Shared→Prop} (c:XCls K D) (X:K.In h) (hx:h.get? a = some o) (hc:o.cls = .ref D) (hq:Q () ⟨h,g,d,t,os⟩) :
    wpAny M A (checkBuiltinCall "BaseException.__getattribute__" ⟨[.ref a,nameV],[]⟩) Q E ⟨h,g,d,t,os⟩:=by
  have hk:builtinKind "BaseException.__getattribute__" = some .slot:=by decide +kernel
  have hsplit:splitId "BaseException.__getattribute__" = some ("BaseException", "__getattribute__"):=by decide +kernel
  have ha:=F.args_bexc_ga (.ref a) nameV
  simp only [checkBuiltinCall,hk,hsplit]
  refine wpAny_bind ?_
  unfold isInstance
  repeat (first | (with_reducible refine wpAny_loadPart_at hx ?_; rw [hc]) | with_reducible refine (PySem.W.looks_mroIn X c.mb).at ?_ | wp_step)
  exact hq
theorem vn {R:Result→Shared→Prop} (c:XCls K D) (X:K.In h) (hx:h.get? a = some o) (hc:o.cls = .ref D) (hq:R (.ok (.ret (.ref D))) ⟨h,g,d,t,os⟩) :
    codeAny (model prog w) A (.call (.builtin "getset_descriptor.__get__") ⟨[.builtin "object.__class__",.ref a,.ref D],[]⟩) R ⟨h,g,d,t,os⟩:=by
  have hT5:(⟨h,g,d,t,os⟩:Shared).TypeIs (.builtin "object.__class__") "getset_descriptor" := F.typeOf_object_class
  have hO:PySem.W.Looks (model prog w) h (isSubtype (.ref D) (.type (".".intercalate ("object.__class__".cutAt '.').dropLast))) true:=by
    rw [F.owner_object_class]; exact PySem.W.looks_mroIn X c.mo
  refine codeAny_call_builtin F.slot_gs_get.plain F.entry_gs_get (F.slot_gs_get.check _ _ _ _ _ _ _ _ hT5 (F.args_gs_get _ _ _) ?_)
  repeat (any_goals (first | assumption | (with_reducible refine wpAny_loadPart_at hx ?_; rw [hc]) | with_reducible refine hO.at ?_ | wp_step))
  refine ⟨Code.quiet_builtin _ (by decide +kernel),codeAny_builtin F.entry_object_class ?_⟩
  repeat (any_goals (first | assumption | (with_reducible refine wpAny_loadPart_at hx ?_; rw [hc]) | wp_step))
theorem r6 {tk:Tok} {Q:Fin→Shared→Prop} (c:XCls K D) (X:K.In h) (hx:h.get? a = some o) (hc:o.cls = .ref D) (hq:Q (.done (.ret (.ref D))) ⟨h,g,d,t,os⟩) :
    wpAny (model prog w) A (Builtin.«object.__getattribute__» ⟨[.ref a,.str "__class__" tk],[]⟩) Q E ⟨h,g,d,t,os⟩:=by
  have hT5:(⟨h,g,d,t,os⟩:Shared).TypeIs (.builtin "object.__class__") "getset_descriptor" := F.typeOf_object_class
  have f5:=F.typeOf_object_class
  have f6:=F.slot_gs_get.lookup
  have f7:=F.slot_gs_set.lookup
  repeat (any_goals (first | assumption | (with_reducible refine wpAny_loadPart_at hx ?_; rw [hc]) | with_reducible refine (PySem.W.looks_findIn X c.cl).at ?_ | wp_step))
  refine vn c X hx hc ?_
  repeat (any_goals (first | assumption | wp_step))
theorem w6 {tk:Tok} {fill expr:Bool} {Q:Value→Shared→Prop} (c:XCls K D) (X:K.In h) (hx:h.get? a = some o) (hc:o.cls = .ref D) (hq:Q (.ref D) ⟨h,g,d,t,os⟩) :
    wpAny (model prog w) A (getAttrBy (.ref a) (.str "__class__" tk) fill expr) Q E ⟨h,g,d,t,os⟩:=by
  have f3:=PySem.F.attrBase_ValueError.ga.bind (.ref a)
  have hx0:(expr && onTheHeap (Value.builtin "BaseException.__getattribute__")) = false:=by cases expr <;> rfl
  have hx2:(Value.builtin "BaseException.__getattribute__" == Value.builtin "object.__getattribute__") = false:=by decide +kernel
  have hx1:(onTheHeap (Value.ref D) && Value.builtin "BaseException.__getattribute__" == Value.builtin "object.__getattribute__") = false:=by rw [hx2]; rfl
  repeat (any_goals (first | assumption | (with_reducible refine wpAny_loadPart_at hx ?_; rw [hc]) | with_reducible refine (PySem.W.looks_findIn X c.ga).at ?_ | with_reducible refine (PySem.W.looks_findIn X c.gn).at ?_ | wp_step))
  refine codeAny_call_builtin PySem.F.attrBase_ValueError.ga.plain F.entry_bexc_ga (pV c X hx hc (r6 c X hx hc ?_))
  repeat (any_goals (first | assumption | wp_step))
theorem sJ {Q:Option Value→Shared→Prop} (c:XCls K D) (X:K.In h) (hx:h.get? a = some o) (hc:o.cls = .ref D) (hq:Q (some (.ref D)) ⟨h,g,d,t + 1,os⟩) :
    wpAny (model prog w) A (getAttr? (.ref a) "__class__") Q E ⟨h,g,d,t,os⟩:=by
  unfold getAttr? getAttrBy?
  repeat (any_goals (first | assumption | with_reducible apply w6 c X hx hc | wp_step))
end
def XAt (a D:Addr) (h:Heap):Prop:=∃ o,h.get? a = some o∧o.cls = .ref D
theorem rH {K:PySem.W.Frag} {a D:Addr} (c:XCls K D):PySem.W.KitX K (.ref a) (.ref D) (XAt a D) where
  ty:=fun M h _ p=>by
    obtain ⟨o,h1,h2⟩:=p
    exact h2 ▸ (PySem.W.Looks.ld h1).andThen .now
  it:=fun _ _ X _=>by
    obtain ⟨cdD,hcD⟩:=Option.isSome_iff_exists.mp c.isc
    unfold PySem.W.clsIn at hcD
    split at hcD
    · rename_i c' d' cd' sl' ho
      intro A' Q' E' s' k q
      unfold isType loadHead
      exact wpAny_bind (wpAny_loadPart (k _ _ (X _ _ ho)) (wpAny_pure q))
    · cases hcD
  ne:=fun h tp dd its n sl X htp=>by
    obtain ⟨cdD,hcD⟩:=Option.isSome_iff_exists.mp c.isc
    refine Bool.eq_false_iff.mpr fun q=>?_
    have e:D = tp:=Value.ref.inj (beq_iff_eq.mp q)
    subst e
    unfold PySem.W.clsIn at hcD
    split at hcD
    · rename_i c' d' cd' sl' ho
      have z:=(X _ _ ho).symm.trans htp
      cases z
    · cases hcD
  ca:=fun {_ _ _ _ _ s} X p k=>by
    obtain ⟨h,g,d,t,os⟩:=s
    obtain ⟨o,h1,h2⟩:=p
    exact sJ c X h1 h2 k
end L2
namespace L2
open PySem PySem.Spec PyProof.Rows
structure XF (P:Program) (w:World) (outer:List Env) (H:Hp) (s:Shared) (x D:Addr) (a0:Value) (B:Heap) (H':Hp) (s':Shared):Prop where
  os:s'.os = s.os
  bare:AllBare s'.gens
  un:Un (frs outer) [] H H' s.heap s'.heap
  hok:HOk P w H' s'.heap
  fly:Heap.FlyingW B outer x (.ref D) a0 s'.heap
  cov:∀ b o,s'.heap.get? b = some o→((∃ o',s.heap.get? b = some o')∨(∃ u,H' b = some u))→b ∉ frs outer→B.get? b = some o
def CXE (P:Program) (w:World):CXT:=fun outer H s E e s'=>∃ x D a0 B H',e = .ref x∧XF P w outer H s x D a0 B H' s'∧E (.ref D) none H'
section
variable {P:Program} {w:World} {outer:List Env} {H H':Hp} {s s':Shared} {x D:Addr} {a0:Value} {B:Heap}
end
section
variable {X:Cx} {pins:List (Addr×Obj)} {σ:St} {H H':Hp} {s s':Shared} {x D:Addr} {a0:Value} {B h2:Heap}
end
section
variable {P:Program} {w:World} {K:PySem.W.Frag} {mg:Str→Option Value} {base:Heap} {N:List Str} {qual:Str} {scope:Scope} {f:Addr} {cdv:Value} {A:Around} {outer:List Env} {s0:Shared} {H0:Hp} {E:XK}
abbrev cxE (P:Program) (w:World) (K:PySem.W.Frag) (mg:Str→Option Value) (base:Heap) (N:List Str) (qual:Str) (scope:Scope) (f:Addr) (cdv:Value) (A:Around) (outer:List Env) (s0:Shared) (H0:Hp) (E:XK):Cx :=
  dy (CXE P w) P w K mg base N qual scope f cdv A outer s0 H0 E
def zg (E:XK) (C:Addr):TS:=fun _ _ H=>E (.ref C) none H
end
section
variable {P:Program} {w:World} {K:PySem.W.Frag} {mg:Str→Option Value} {base:Heap}
end
end L2
namespace L2
open PySem PySem.Spec PyProof.Rows
structure XHd (K:PySem.W.Frag) (C:Addr):Prop where
  isc:(PySem.W.clsIn K C).isSome = true
  ty:PySem.W.typeIn K (.ref C) = some (.type "type")
  mb:PySem.W.mroIn K C (.type "BaseException") = some true
def Cx.inX (X:Cx) (x:Addr):Cx:={ X with A:=X.A.mark (some (.ref x)),calm:=false,xe:=fun _ _=>False }
section
variable {X:Cx} {pins:List (Addr×Obj)} {σ:St} {H H' H1:Hp} {s s' s1:Shared} {x D C:Addr} {a0:Value} {B h2:Heap}
end
end L2
namespace L2
open PySem PySem.Spec PyProof.Rows
section
variable {X:Cx} {pins:List (Addr×Obj)} {σ:St} {H H' H1:Hp} {s s' s1:Shared} {x D C:Addr} {a0:Value} {B h2:Heap} {cn en:Str} {ie:Nat} {b₀:Stmt} {suite:List Stmt} {cp hp:Pos} {ts:TS} {DE:Ends}
def Ends.asG (DE:Ends) (ie:Nat):Ends:={ nx:=fun σ' H'=>DE.nx (σ'.set ie none) H',rt:=fun _ _=>False }
end
def zI (K:PySem.W.Frag) (C:Addr) (sp:Sp) (dvs:List V) (t:TA) (ie:Nat) (ts:TS):TS:=fun DE σ H=>t σ H fun vs H1=>sp (vs ++ dvs) H1 (fun _ H2=>DE.nx σ H2) (fun cls _ H2=>∃ D,cls = .ref D ∧
  PySem.W.mroIn K D (.ref C) = some true∧∀ x,H2 x = none→ts (DE.asG ie) (σ.set ie (some (.ref x))) (upd H2 x (.ext (XAt x D))))
section
variable {X:Cx} {k ie:Nat} {f C:Addr} {fd:FuncData} {ps:List Str} {sp:Sp} {dvs:List V} {ds:List Value} {fx cn en:Str} {p pos p2 cp hp tp:Pos} {e:Expr} {es:List Expr} {t:TA} {b₀:Stmt} {suite:List Stmt} {ts:TS}
end
def TyX (K:PySem.W.Frag) (H:Hp) (x:V) (t:Value):Prop:=TyOf K H x t∨∃ a D φ,x = .ref a∧t = .ref D∧XCls K D∧H a = some (.ext φ)∧∀ h,φ h→XAt a D h
section
variable {X:Cx}
open PySem.W in
theorem yn {pins:List (Addr×Obj)} {σ:St} {H:Hp} {s:Shared} {x:V} {u t:Value} (I:Inv X pins σ H s) (rx:RelV x u) (ty:TyX X.K H x t) :
    ∃ Hh:Heap→Prop,KitX X.K u t Hh∧Hh s.heap∧u≠.builtin "__main__.__loader__#opaque" := by
  rcases ty with ty | ⟨a,D,φ,rfl,rfl,c,e,hφ⟩
  · exact mJ I rx ty
  · cases (show u = Value.ref a from rx)
    exact ⟨_,rH c,hφ _ (I.hok a _ e).1,fun z=>nomatch z⟩
def AL (K:PySem.W.Frag):List V→Hp→VK→Prop:=fun xs H Q=>∃ x c t b,xs = [x,c]∧kW c = true∧TyX K H x t∧PySem.W.kitOne K t (pL c) = some b∧Q (.bl b) H
def zR (K:PySem.W.Frag):List V→Hp→VK→Prop:=fun xs H Q=>∃ x p cs t b,xs = [x,.ref p]∧H p = some (.tup cs)∧(cs.all kW) = true∧TyX K H x t∧PySem.W.kitAny K t (cs.map pL) = some b∧Q (.bl b) H
end
end L2
namespace L2
open PySem PySem.Spec PyProof.Rows
section
variable {prog:Program} {w:World} {A:Around} {E:Value→Shared→Prop} {h:Heap} {g:Array GenState} {d:Drawn} {t:Nat} {os:OsState} {a D dx:Addr} {o:Obj} {vs:Array Value} {cd:ClassData} {K:PySem.W.Frag} {name:Str} {mA:Str→Option Value} {v:Value}
abbrev bmV:List Value:=[.type "ValueError",.type "Exception",.type "BaseException",.type "object"]
def yw:Value→Bool
  | .ref _=>true
  | _=>false
def uY (l:List Value):Bool:=l.dropWhile yw == bmV
structure XSet (K:PySem.W.Frag) (D:Addr) (name:Str) (cd:ClassData):Prop where
  k:PySem.W.clsIn K D = some cd
  dct:cd.hasDict = true
  mro:uY cd.mro = true
  mo:PySem.W.mroIn K D (.type "object") = some true
  sa:PySem.W.findIn K (.ref D) "__setattr__" = some (some (.builtin "object.__setattr__"))
  na:PySem.W.findIn K (.ref D) name = some none
end
section
variable {prog:Program} {w:World} {A:Around} {E:Value→Shared→Prop} {h:Heap} {g:Array GenState} {d:Drawn} {t:Nat} {os:OsState}
variable {nm q:Str} {C N fI:Addr} {bs bm bmB:List Value} {hdct:Bool} {sn:List Str} {sub:List Value} {ab:Bool} {col:Option Bool} {dd:Option Addr} {k0 k1 k2 k3 k5:Option Value} {B newId initId:String} {mN:Str→Option Value} {rest:List Value} {oI:Obj}
abbrev Af (h:Heap) (C:Addr) (rest:List Value):Heap:=(h.push { cls:=.type "tuple",data:=.seq rest.toArray }).push { cls:=.ref C,data:=.fields #[.ref h.objs.size,.none,.none,.none,.bool false,.none] }
end
end L2
namespace L2
open PySem PySem.Spec PyProof.Rows
def XD0 (a D:Addr):Heap→Prop:=fun h=>∃ o vs,h.get? a = some o∧o.cls = .ref D∧o.data = .fields vs∧o.dict = none∧vs[1]? = some .none
def XD1 (a D dx:Addr):Heap→Prop:=fun h=>∃ o vs,h.get? a = some o∧o.cls = .ref D∧o.data = .fields vs∧o.dict = some dx∧vs[1]? = some .none
def pR (dx:Addr) (fs:List (Str×V)):Heap→Prop:=fun h=>∃ mA,h.Ns1 dx mA∧∀ f,RelO (fs.lookup f) (mA f)
theorem XD0.at {a D:Addr} {h:Heap} (x:XD0 a D h):XAt a D h:=let ⟨o,_,e,c,_⟩:=x; ⟨o,e,c⟩
theorem XD1.at {a D dx:Addr} {h:Heap} (x:XD1 a D dx h):XAt a D h:=let ⟨o,_,e,c,_⟩:=x; ⟨o,e,c⟩
section
variable {P:Program} {w:World} {H:Hp} {h:Heap} {a D dx:Addr} {fs:List (Str×V)}
end
section
variable {X:Cx} {pins:List (Addr×Obj)} {σ:St} {H:Hp} {s:Shared} {h':Heap} {x dx D:Addr} {φ:Heap→Prop} {ox od:HO}
end
def zK (K:PySem.W.Frag) (ta tv:TE) (f:Str):TS:=fun D σ H=>tv σ H fun y H1=>ta σ H1 fun x H2=>∃ a C cd,x = .ref a∧XSet K C f cd ∧
  ((H2 a = some (.ext (XD0 a C))∧∀ dx,H2 dx = none→dx≠a→D.nx σ (upd (upd H2 dx (.ext (pR dx [(f,y)]))) a (.ext (XD1 a C dx)))) ∨
    ∃ dx fs,H2 a = some (.ext (XD1 a C dx))∧H2 dx = some (.ext (pR dx fs))∧fs.length≤900∧D.nx σ (upd H2 dx (.ext (pR dx ((f,y) :: fs)))))
def Ao (K:PySem.W.Frag) (ta:TE) (f:Str):TE:=fun σ H Q=>ta σ H fun x H1=>∃ a C cd dx fs v,x = .ref a∧XSet K C f cd∧XCls K C∧H1 a = some (.ext (XD1 a C dx))∧H1 dx = some (.ext (pR dx fs))∧fs.lookup f = some v∧Q v H1
section
variable {X:Cx} {o e value:Expr} {f:Str} {pos pos' tpos:Pos} {ta tv:TE}
end
end L2
namespace L2
open PySem PySem.Spec PyProof.Rows
def xIn (K:PySem.W.Frag) (C:Addr) (fI:Option Value):Bool:=match K.lookup C with
  | some ⟨.type "type",_,.cls cd,sl⟩=>(match cd.mro,sl.toList with
    | .ref C' :: bm,[_,_,_,_,some (.builtin n),_]=>C' == C && n == "ValueError.__new__" && !cd.hasDel && PySem.W.tailIn K bmV bm && PySem.W.nsOkIn K cd.ns && PySem.W.nsIn K cd.ns "__init__" == some fI
    | _,_=>false)
  | _=>false
structure XObj (h:Heap) (C:Addr) (fI:Option Value):Prop where
  obj:∃ bm N nm q bs hdct sn sub ab col dd k0 k1 k2 k3 k5 mN,h.get? C = some (excClassObj nm q C N bs bm hdct sn sub ab col dd k0 k1 k2 k3 k5 "ValueError.__new__")∧h.Ns N mN∧mN "__init__" = fI∧OwnTail h bmV bm
def AF (K:PySem.W.Frag) (D:Addr):Bool:=PySem.W.findIn K (.ref D) "__getattribute__" == some (some (.builtin "BaseException.__getattribute__")) && PySem.W.findIn K (.ref D) "__getattr__" == some none &&
  PySem.W.findIn K (.ref D) "__class__" == some (some (.builtin "object.__class__")) && PySem.W.mroIn K D (.type "BaseException") == some true && PySem.W.mroIn K D (.type "object") == some true && (PySem.W.clsIn K D).isSome && PySem.W.typeIn K (.ref D) == some (.type "type")
def AG (K:PySem.W.Frag) (D:Addr) (name:Str):Bool:=((PySem.W.clsIn K D).any fun cd=>cd.hasDict && uY cd.mro) && PySem.W.mroIn K D (.type "object") == some true &&
  PySem.W.findIn K (.ref D) "__setattr__" == some (some (.builtin "object.__setattr__")) && PySem.W.findIn K (.ref D) name == some none
def yO (K:PySem.W.Frag) (cs:List Addr):Bool:=(List.range cs.length).all fun i=>(List.range cs.length).all fun j=>PySem.W.kitOne K (.ref (cs.getD i 0)) (.ref (cs.getD j 0)) == some (decide (i = j))
def zq (K:PySem.W.Frag) (cs:List Addr) (v:Value):Bool:=cs.all fun c=>PySem.W.kitOne K (.ref c) v == some true
section
variable {P:Program} {w:World} {K:PySem.W.Frag} {mg:Str→Option Value} {base:Heap} {N:List Str} {qual:Str} {scope:Scope} {f:Addr} {cdv:Value} {A:Around} {outer:List Env} {s0:Shared} {H0:Hp} {E:XK}
end
def Ag (C:Addr):TE:=fun _ H Q=>∀ a,H a = none→Q (.ref a) (upd H a (.ext (XD0 a C)))
def Au (C:Addr) (sp:Sp) (t:TA):TE:=fun σ H Q=>t σ H fun vs H1=>∀ a,H1 a = none→sp (.ref a :: vs) (upd H1 a (.ext (XD0 a C))) (fun v H2=>v = .non∧Q (.ref a) H2) E0
section
variable {X:Cx} {k:Nat} {f C:Addr} {fd:FuncData} {ps:List Str} {sp:Sp} {x:Str} {p pos:Pos} {e:Expr} {es:List Expr} {t:TA}
end
end L2
namespace L2
open PySem PySem.Spec PyProof.Rows
section
variable {prog:Program} {w:World} {KT:Type} [DecidableEq KT] {knd:KeyKind prog w KT} {A:Around} {E:Value→Shared→Prop} {s:Shared} {d:Addr} {kvs:List (KT×Value)} {k:KT} {key dflt:Value}
end
def zP:V→List V→Hp→VK→Prop:=fun x vs H Q=>∃ (a:Addr) (kvs:List (Key×V)) (k:Key) (v:V),x = .ref a∧vs = [kV k,v]∧H a = some (.dK kvs)∧kvs.length < sizeLine ∧
  (∀ y,cy kvs k = some y→Q y H)∧(cy kvs k = none→Q v (upd H a (.dK (kvs ++ [(k,v)]))))
section
variable {X:Cx}
end
end L2
namespace L2
open PySem PySem.Spec PyProof.Rows
def IV (v d:Addr):Heap→Prop:=fun h=>h.IsItemsView v d
def yK:V→List V→Hp→VK→Prop:=fun x vs H Q=>∃ (d:Addr) (kvs:List (Key×V)),x = .ref d∧vs = []∧H d = some (.dK kvs)∧∀ v,H v = none→Q (.ref v) (upd H v (.ext (IV v d)))
section
variable {X:Cx} {o e:Expr} {es:List Expr} {to:TE} {t:TA} {apos cpos:Pos}
def yP:List V→Hp→VK→Prop:=fun xs H Q=>∃ (v d:Addr) (kvs:List (Key×V)),xs = [.ref v]∧H v = some (.ext (IV v d))∧H d = some (.dK kvs) ∧
  ∀ (l:Addr) (as:List Addr) (H':Hp),Same H H'→H l = none→H' l = some (.lst (as.map V.ref))→as.length = kvs.length →
    (∀ (j:Nat) (a:Addr) (k:Key) (y:V),as[j]? = some a→kvs[j]? = some (k,y)→H a = none∧H' a = some (.tup [kV k,y]))→Q (.ref l) H'
end
section
variable {X:Cx} {o e:Expr} {es:List Expr} {to:TE} {t:TA} {apos cpos:Pos}
end
end L2
namespace L2
open PySem PySem.Spec PyProof.Rows
theorem mR:∀ {xs:List V} {us:List Value},xs.length = us.length→(∀ (i:Nat) x u,xs[i]? = some x→us[i]? = some u→RelV x u)→Vals xs us
  | [],[],_,_=>.nil
  | x :: xs,u :: us,h,r=>.cons (r 0 x u rfl rfl) (mR (by simpa using h) fun i y w h1 h2=>r (i + 1) y w (by simpa using h1) (by simpa using h2))
  | [],_ :: _,h,_=>by cases h
  | _ :: _,[],h,_=>by cases h
section
variable {X:Cx}
theorem jf:CallR X (.type "range") (fun xs H Q=>∃ b,xs = [.int b]∧∀ p,H p = none→Q (.ref p) (upd H p (.rng 0 b))):=by
  intro pins s σ H xs us Q I r h
  obtain ⟨b,rfl,q⟩:=h
  obtain ⟨u,rfl,⟨t,rfl⟩⟩:=eF r
  refine call_range_1 ?_
  exact ⟨.ref s.heap.objs.size,_,I.laid (o:=.rng 0 b) (fun b o e=>Heap.get?_push_of_some _ e) (Nat.le_refl _) ⟨_,_,_,Heap.get?_push_size _ rfl⟩,rfl,q _ (I.hok.fresh (Nat.le_refl _))⟩
end
end L2
namespace L2
open PySem PySem.Spec PyProof.Rows
section
variable {M:Model} {A:Around} {E:Value→Shared→Prop} {s:Shared} {env:Env} {K:PySem.W.Frag} {D:Addr}
end
end L2
namespace L2
open PySem PySem.Spec PyProof.Rows
def Fx (h:Heap) (e:Addr) (cls:Value) (dct:Option Addr) (fl:Value) (T:Addr):Prop :=
  ∃ ob fs oT ts,h.get? e = some ob∧ob.cls = cls∧ob.dict = dct∧ob.data = .fields fs∧fs[1]? = some (.ref T)∧T≠e∧h.get? T = some oT∧oT.data = .fields ts∧ts[3]? = some fl
section
variable {M:Model} {A:Around} {E:Value→Shared→Prop} {s:Shared} {base:Heap} {env:Env} {outer:List Env} {L e:Addr} {ob:Obj} {fs:Array Value} {head:Value} {more:Bool}
end
end L2
namespace L2
open PySem PySem.Spec PyProof.Rows
section
variable {M:Model} {A:Around} {E:Value→Shared→Prop} {s:Shared} {base:Heap} {env:Env} {outer:List Env} {L e T:Addr} {ob:Obj} {fs:Array Value} {cls fl:Value} {dct:Option Addr}
def KeptBut (xs fr:List Addr) (h h':Heap):Prop :=
  (∀ b o,b ∉ xs→b ∉ fr→h.get? b = some o→h'.get? b = some o)∧∀ b o,b ∉ xs→h.get? b = some o→∃ sl,h'.get? b = some { o with slots:=sl }
theorem KeptBut.trans {xs ys fr:List Addr} {h h1 h2:Heap} (a:KeptBut xs fr h h1) (b:KeptBut ys fr h1 h2):KeptBut (xs ++ ys) fr h h2 :=
  ⟨fun c o n f g=>b.1 c o (fun z=>n (List.mem_append_right _ z)) f (a.1 c o (fun z=>n (List.mem_append_left _ z)) f g),fun c o n g=>by
    obtain ⟨s1,g1⟩:=a.2 c o (fun z=>n (List.mem_append_left _ z)) g
    obtain ⟨s2,g2⟩:=b.2 c _ (fun z=>n (List.mem_append_right _ z)) g1
    exact ⟨s2,g2⟩⟩
end
end L2
namespace L2
open PySem PySem.Spec PyProof.Rows
structure XG (P:Program) (w:World) (outer:List Env) (H:Hp) (s:Shared) (x D:Addr) (dct:Option Addr) (T:Addr) (H':Hp) (s':Shared):Prop where
  os:s'.os = s.os
  bare:AllBare s'.gens
  un:Un (frs outer) [] H H' s.heap s'.heap
  hok:HOk P w H' s'.heap
  fx:Fx s'.heap x (.ref D) dct .none T
  nx:s.heap.get? x = none
  nT:s.heap.get? T = none
  ux:H' x = none
  uT:H' T = none
def CXG (P:Program) (w:World):CXT:=fun outer H s E e s'=>∃ x D dct T H',e = .ref x∧XG P w outer H s x D dct T H' s'∧E (.ref D) dct H'
section
variable {P:Program} {w:World} {K:PySem.W.Frag} {mg:Str→Option Value} {base:Heap} {N:List Str} {qual:Str} {scope:Scope} {f:Addr} {cdv:Value} {A:Around} {outer:List Env} {s0:Shared} {H0:Hp} {E:XK}
abbrev cxG (P:Program) (w:World) (K:PySem.W.Frag) (mg:Str→Option Value) (base:Heap) (N:List Str) (qual:Str) (scope:Scope) (f:Addr) (cdv:Value) (A:Around) (outer:List Env) (s0:Shared) (H0:Hp) (E:XK):Cx :=
  dy (CXG P w) P w K mg base N qual scope f cdv A outer s0 H0 E
end
section
variable {P:Program} {w:World} {K:PySem.W.Frag} {mg:Str→Option Value} {base:Heap}
end
end L2
namespace L2
open PySem PySem.Spec PyProof.Rows
def fJ (H:Hp) (x:Addr):Hp:=fun b=>if b = x then none else H b
theorem ce {H:Hp} {x b:Addr} (h:b≠x):fJ H x b = H b:=by unfold fJ; rw [if_neg h]
theorem eP {H:Hp} {x:Addr}:fJ H x x = none:=by unfold fJ; rw [if_pos rfl]
def XU (a D:Addr) (dct:Option Addr):Heap→Prop:=fun h=>∃ o vs,h.get? a = some o∧o.cls = .ref D∧o.data = .fields vs∧o.dict = dct∧vs[1]? = some .none
section
variable {P:Program} {w:World} {K:PySem.W.Frag} {mg:Str→Option Value} {base:Heap} {N:List Str} {qual:Str} {scope:Scope} {f:Addr} {cdv:Value} {A:Around} {outer:List Env} {s0:Shared} {H0:Hp} {E:XK}
def yk (K:PySem.W.Frag) (H0:Hp) (E:XK) (D:Addr) (te:TE):TS:=fun _ σ H=>te σ H fun v H1=>∃ x dct φ,v = .ref x∧H1 x = some (.ext φ)∧(∀ h,φ h→XU x D dct h)∧H0 x = none∧E (.ref D) dct (fJ H1 x)
end
end L2
namespace L2
open PySem PySem.Spec PyProof.Rows
def XCt (a D:Addr) (dct:Option Addr):Heap→Prop:=fun h=>∃ o vs,h.get? a = some o∧o.cls = .ref D∧o.data = .fields vs∧o.dict = dct
theorem XCt.at {a D:Addr} {dct:Option Addr} {h:Heap} (x:XCt a D dct h):XAt a D h:=let ⟨o,_,e,c,_⟩:=x; ⟨o,e,c⟩
section
variable {X:Cx} {pins:List (Addr×Obj)} {σ:St} {H H':Hp} {s s':Shared} {x D C T T2:Addr} {dct:Option Addr} {fl:Value} {h2:Heap} {xs:List Addr}
end
section
variable {X:Cx} {pins:List (Addr×Obj)} {σ:St} {H H':Hp} {s s':Shared} {x D C T:Addr} {dct:Option Addr} {cn en:Str} {ie:Nat} {b₀:Stmt} {suite:List Stmt} {cp hp:Pos} {ts:TS} {DE:Ends}
end
end L2
namespace L2
open PySem PySem.Spec PyProof.Rows
def zW (K:PySem.W.Frag) (C:Addr) (sp:Sp) (dvs:List V) (t:TA) (ie:Nat) (ts:TS):TS:=fun DE σ H=>t σ H fun vs H1=>sp (vs ++ dvs) H1 (fun _ H2=>DE.nx σ H2) (fun cls dct H2=>∃ D,cls = .ref D ∧
  PySem.W.mroIn K D (.ref C) = some true∧∀ x,H2 x = none→ts (DE.asG ie) (σ.set ie (some (.ref x))) (upd H2 x (.ext (XCt x D dct))))
section
variable {X:Cx} {k ie:Nat} {f C:Addr} {fd:FuncData} {ps:List Str} {sp:Sp} {dvs:List V} {ds:List Value} {fx cn en:Str} {p pos p2 cp hp tp:Pos} {e:Expr} {es:List Expr} {t:TA} {b₀:Stmt} {suite:List Stmt} {ts:TS}
end
def zT (K:PySem.W.Frag) (ta:TE) (f:Str):TE:=fun σ H Q=>ta σ H fun x H1=>∃ a C cd dx fs v φ,x = .ref a∧XSet K C f cd∧XCls K C∧H1 a = some (.ext φ)∧(∀ h,φ h→XCt a C (some dx) h)∧H1 dx = some (.ext (pR dx fs))∧fs.lookup f = some v∧Q v H1
end L2
namespace FrM
theorem lx (x y:Int):Int.gcd y (x % y) = Int.gcd x y:=by
  have e:x = x % y + y * (x / y):=(Int.emod_add_mul_ediv x y).symm
  rw [Int.gcd_comm x y]
  conv=>rhs; rw [e]
  rw [Int.gcd_add_mul_left_right]
def Bt (n:Nat) (i:Int):Prop:=i.natAbs < 2 ^ n
theorem Bt.mono {m n:Nat} {i:Int} (h:Bt m i) (l:m≤n):Bt n i:=Nat.lt_of_lt_of_le h (Nat.pow_le_pow_right (by decide) l)
theorem Bt.le {n:Nat} {i j:Int} (h:Bt n i) (l:j.natAbs≤i.natAbs):Bt n j:=Nat.lt_of_le_of_lt l h
theorem Bt.mul {m n:Nat} {i j:Int} (h:Bt m i) (h':Bt n j):Bt (m + n) (i * j):=by
  unfold Bt at *
  rw [Int.natAbs_mul,Nat.pow_add]
  exact Nat.mul_lt_mul_of_le_of_lt (Nat.le_of_lt h) h' (Nat.lt_of_le_of_lt (Nat.zero_le _) h)
theorem Bt.add {n:Nat} {i j:Int} (h:Bt n i) (h':Bt n j):Bt (n + 1) (i + j):=by
  unfold Bt at *
  rw [Nat.pow_succ]
  omega
theorem Bt.sub {n:Nat} {i j:Int} (h:Bt n i) (h':Bt n j):Bt (n + 1) (i - j):=by
  unfold Bt at *
  rw [Nat.pow_succ]
  omega
structure Low (T B t b:Int):Prop where
  pos:1≤b
  cop:Int.gcd t b = 1
  eq:t * B = T * b
theorem low (t b:Int) (hb:0 < b):0 < (Int.gcd t b:Int)∧(Int.gcd t b:Int)≤b∧Low t b (t / (Int.gcd t b:Int)) (b / (Int.gcd t b:Int))∧(t / (Int.gcd t b:Int)).natAbs≤t.natAbs∧(b / (Int.gcd t b:Int)).natAbs≤b.natAbs:=by
  have hg:0 < Int.gcd t b:=Int.gcd_pos_iff.mpr (.inr (by omega))
  have hgi:0 < (Int.gcd t b:Int):=by omega
  have d1:=Int.gcd_dvd_left t b
  have d2:=Int.gcd_dvd_right t b
  have e1:=Int.ediv_mul_cancel d1
  have e2:=Int.ediv_mul_cancel d2
  have hle:(Int.gcd t b:Int)≤b:=Int.le_of_dvd hb d2
  refine ⟨hgi,hle,⟨?_,Int.gcd_ediv_gcd_ediv_gcd hg,?_⟩,?_,?_⟩
  · have:=Int.ediv_pos_of_pos_of_dvd hb (by omega) d2
    omega
  · rw [← Int.mul_ediv_assoc _ d2,Int.mul_comm,← Int.mul_ediv_assoc _ d1,Int.mul_comm]
  · have:=congrArg Int.natAbs e1
    rw [Int.natAbs_mul] at this
    rw [← this]
    exact Nat.le_mul_of_pos_right _ (by simpa using hg)
  · have:=congrArg Int.natAbs e2
    rw [Int.natAbs_mul] at this
    rw [← this]
    exact Nat.le_mul_of_pos_right _ (by simpa using hg)
end FrM
namespace L2
open PySem PySem.Spec PyProof.Rows FrM
section
variable {X:Cx}
def CMulB (i j:Int):Prop:=(Bt 8000 i∧Bt 8000 j)∨CMul i j
theorem CMulB.ok {i j:Int} (h:CMulB i j):IntMulOk i j:=by
  rcases h with ⟨h1,h2⟩ | h
  · exact IntMulOk.of_le (m:=8000) (n:=8000) (intBits_le_iff.mpr h1) (intBits_le_iff.mpr h2) (by decide)
  · exact h.ok
def CDivB (i j:Int):Prop:=0 < j∧Bt 8000 j
theorem CDivB.no {i j:Int} (h:CDivB i j):Builtin.divisionGoesByPylong i j = false:=by
  refine PyProof.noPylong_of_log2 ?_
  have h2:j.natAbs < 2 ^ 8000:=h.2
  by_cases h0:j.natAbs = 0
  · rw [h0]; decide +kernel
  · have:j.natAbs.log2 < 8000:=(Nat.log2_lt h0).mpr h2
    omega
theorem op_mulB:OpR X (binaryOp .Mult) (rI CMulB fun i j=>.int (i * j)):=opI fun _ _ _ _ _ _ _ hc q=>mul_int q hc.ok
theorem op_fdivB:OpR X (binaryOp .FloorDiv) (rI CDivB fun i j=>.int (i / j)):=opI fun i j _ _ _ _ _ hc q=>by
  have h1:(0:Int) < j:=hc.1
  exact floordiv_int (by omega) (by rw [Int.fdiv_eq_ediv_of_nonneg i (by omega)]; exact q) (.inl hc.no)
theorem ba:OpR X (binaryOp .Mult) (rIC CMulB fun i j=>.int (i * j)):=op_mulB.ic
theorem cz:OpR X (binaryOp .FloorDiv) (rIC CDivB fun i j=>.int (i / j)):=op_fdivB.ic
theorem cmB {i j:Int} {m n:Nat} (h:Bt m i) (h':Bt n j) (hm:m≤8000:=by decide) (hn:n≤8000:=by decide):CMulB i j:=.inl ⟨h.mono hm,h'.mono hn⟩
theorem clB {i j:Int} (h:-(2 ^ 64) < i:=by decide) (h2:i < 2 ^ 64:=by decide):CMulB i j:=.inr (cl h h2)
theorem crB {i j:Int} (h:-(2 ^ 64) < j:=by decide) (h2:j < 2 ^ 64:=by decide):CMulB i j:=.inr (cr h h2)
theorem cdB {i j:Int} {n:Nat} (h:0 < j) (h':Bt n j) (hn:n≤8000:=by decide):CDivB i j:=⟨h,h'.mono hn⟩
theorem sf:bootBuiltins "abs" = some (.builtin "abs"):=by decide +kernel
end
end L2
namespace L2
open PySem PySem.Spec PyProof.Rows
def AB:Expr→Bool
  | .Starred ..=>true
  | _=>false
@[irreducible] def PSq (X:Cx) (sts:List Stmt) (t:TS):Prop:=PSs X sts t
theorem wB {X:Cx} {st:Stmt} {sts:List Stmt} {t u:TS} (h1:PS X st t) (h2:PSq X sts u):PSs X (st :: sts) (wU t u):=by
  unfold PSq at h2
  exact ah h1 h2
def za (K:PySem.W.Frag) (C:Addr) (sp:Sp) (dvs:List V) (t:TA) (ie ir:Nat) (ts:TS):TS:=fun DE σ H=>t σ H fun vs H1=>sp (vs ++ dvs) H1 (fun v H2=>DE.nx (σ.set ir (some v)) H2) (fun cls dct H2=>∃ D,cls = .ref D ∧
  PySem.W.mroIn K D (.ref C) = some true∧∀ x,H2 x = none→ts (DE.asG ie) (σ.set ie (some (.ref x))) (upd H2 x (.ext (XCt x D dct))))
section
variable {X:Cx} {k ie ir:Nat} {f C:Addr} {fd:FuncData} {ps:List Str} {sp:Sp} {dvs:List V} {ds:List Value} {fx cn en rn:Str} {p pos p2 p3 cp hp tp:Pos} {e:Expr} {es:List Expr} {t:TA} {b₀:Stmt} {suite:List Stmt} {ts:TS}
end
end L2
namespace HT
open PySem PySem.Spec PyProof.Rows
section
variable {prog:Program} {w:World} {A:Around} {E:Value→Shared→Prop} {s:Shared}
end
end HT
namespace L2
open PySem PySem.Spec PyProof.Rows
section
variable {X:Cx}
def y3 (K:PySem.W.Frag):R2:=fun x y H Q=>∃ a b ys,x = .ref a∧y = .ref b∧SqT K H a []∧SqT K H b ys∧Q (.ref b) H
def Ah (K:PySem.W.Frag):V→Option Int→Option Int→Hp→VK→Prop:=fun x lo hi H Q=>∃ a xs,x = .ref a∧SqT K H a xs∧(HT.sIx xs.length 0 lo = 0∧HT.sIx xs.length xs.length hi = xs.length)∧Q (.ref a) H
@[irreducible] def PAq (X:Cx) (es:List Expr) (t:TA):Prop:=PA X es t
theorem yu:PAq X [] v4:=by unfold PAq; exact ae
end
end L2
namespace L2
open PySem PySem.Spec PyProof.Rows
section
variable {X:Cx}
@[irreducible] def PEq (X:Cx) (e:Expr) (t:TE):Prop:=PE X e t
@[irreducible] def PSt (X:Cx) (st:Stmt) (t:TS):Prop:=PS X st t
theorem y9 {e:Expr} {t:TE} (h:PE X e t):PEq X e t:=by unfold PEq; exact h
end
end L2
namespace L2
open PySem PySem.Spec PyProof.Rows
structure LamD where
  qual:Str
  params:Arguments
  body:Expr
  scope:Scope
def fc (f:Addr) (d:LamD) (clos:List (Str×Addr)) (c:Addr):Heap→Prop:=fun h=>∃ pm ctv,h.get? f = some (PySem.W.kla_obj "<lambda>" d.qual d.params d.body d.scope clos pm c ctv)
def de (c:Addr) (v:V):Heap→Prop:=fun h=>∃ o u,h.get? c = some o∧o.data = .cell (some u)∧RelV v u
def dz (c:Addr) (q:Str):Heap→Prop:=fun h=>∃ o vs t,h.get? c = some o∧o.data = .fields vs∧vs[1]? = some (.str q t)
section
variable {P:Program} {w:World} {H:Hp} {h:Heap}
theorem nM {f:Addr} {d:LamD} {clos:List (Str×Addr)} {c:Addr} {pm ctv:Value} (e:h.get? f = some (PySem.W.kla_obj "<lambda>" d.qual d.params d.body d.scope clos pm c ctv)):ObjOk P w H h f (.ext (fc f d clos c)) :=
  ⟨⟨pm,ctv,e⟩,⟨_,e⟩,fun h1 h2 ⟨pm,ctv,e1⟩ k=>⟨pm,ctv,k _ e1⟩⟩
theorem lg {c:Addr} {v:V} (x:de c v h):ObjOk P w H h c (.ext (de c v)) :=
  ⟨x,let ⟨o,_,e,_⟩:=x; ⟨o,e⟩,fun h1 h2 ⟨o,u,e1,r⟩ k=>⟨o,u,k _ e1,r⟩⟩
theorem pO {c:Addr} {q:Str} (x:dz c q h):ObjOk P w H h c (.ext (dz c q)) :=
  ⟨x,let ⟨o,_,_,e,_⟩:=x; ⟨o,e⟩,fun h1 h2 ⟨o,vs,t,e1,r⟩ k=>⟨o,vs,t,k _ e1,r⟩⟩
end
theorem tQ (a:Addr) (o:Obj) (ho:o.data≠.freed):∃ h:Heap,h.get? a = some o:=by
  refine ⟨{ objs:=Array.replicate (a + 1) o },?_⟩
  obtain ⟨c,d,dt,sl⟩:=o
  cases dt <;> first | exact absurd rfl ho | simp [Heap.get?]
theorem j0 {c:Addr} {q:Str} {v:V}:HO.ext (dz c q)≠HO.ext (de c v):=fun e=>by
  injection e with e
  obtain ⟨h,hh⟩:=tQ c { cls:=.none,data:=.fields #[.none,.str q 0] } (by intro z; cases z)
  have y:de c v h:=by rw [← e]; exact ⟨_,_,_,hh,rfl,rfl⟩
  obtain ⟨o,u,e1,e2,_⟩:=y
  rw [hh] at e1
  cases e1
  cases e2
def wH:HO→Bool
  | .tbl _=>false
  | _=>true
def SameT (H H':Hp):Prop:=∀ b o,H b = some o→(wH o = true→H' b = some o)∧∃ o',H' b = some o'
theorem SameT.refl {H:Hp}:SameT H H:=fun b o e=>⟨fun _=>e,o,e⟩
theorem SameT.trans {H H1 H2:Hp} (a:SameT H H1) (b:SameT H1 H2):SameT H H2:=fun c o e=>by
  obtain ⟨f,o',e'⟩:=a c o e
  obtain ⟨g,o2,e2⟩:=b c o' e'
  exact ⟨fun n=>(b c o (f n)).1 n,o2,e2⟩
theorem Same.t {H H':Hp} (s:Same H H'):SameT H H':=fun b o e=>⟨fun _=>s b o e,o,s b o e⟩
theorem SameT.at {H H':Hp} (s:SameT H H') {a:Addr} {o:HO} (e:H a = some o) (n:wH o = true:=by rfl):H' a = some o:=(s a o e).1 n
theorem SameT.free {H H':Hp} (s:SameT H H') {a:Addr} (e:H' a = none):H a = none:=by
  cases q:H a with
  | none=>rfl
  | some o=>obtain ⟨_,o',e'⟩:=s a o q; rw [e] at e'; cases e'
theorem SameT.put {H H':Hp} (s:SameT H H') {a:Addr} {o:HO} (e:H a = none):SameT H (upd H' a o):=fun b u q=>by
  have n:b≠a:=fun z=>by rw [z,e] at q; cases q
  rw [ai n]
  exact s b u q
def wM (H:Hp) (P:Addr) (ls:List (Pos×Str)):Prop:=∃ ps,H P = some (.tbl ps)∧TriplesOk ps.toList∧∀ l ∈ ls,codeAmong l.1 ps.toList = none∨∃ c,codeAmong l.1 ps.toList = some (.ref c)∧H c = some (.ext (dz c l.2))
abbrev lI:=List (Addr×List (Pos×Str))
def TabsOk (tabs:lI) (H:Hp):Prop:=∀ q ∈ tabs,wM H q.1 q.2
theorem TabsOk.same {tabs:lI} {H H':Hp} (t:TabsOk tabs H) (s:Same H H'):TabsOk tabs H':=fun q hq=>by
  obtain ⟨ps,e1,e2,e3⟩:=t q hq
  exact ⟨ps,s _ _ e1,e2,fun l hl=>(e3 l hl).imp id fun ⟨c,a,b⟩=>⟨c,a,s _ _ b⟩⟩
theorem TabsOk.put {tabs:lI} {H:Hp} {r:Addr} {o:HO} (t:TabsOk tabs H) (h1:∀ ps,H r≠some (.tbl ps)) (h2:∀ φ,H r≠some (.ext φ)):TabsOk tabs (upd H r o):=fun q hq=>by
  obtain ⟨ps,e1,e2,e3⟩:=t q hq
  refine ⟨ps,?_,e2,fun l hl=>(e3 l hl).imp id fun ⟨c,a,b⟩=>⟨c,a,?_⟩⟩
  · rw [ai fun z=>h1 ps (by rw [← z]; exact e1)]; exact e1
  · rw [ai fun z=>h2 _ (by rw [← z]; exact b)]; exact b
theorem kD {p p':Pos} {c:Value} (l:List Value) (h:TriplesOk l) (hn:¬ (p.line = p'.line∧p.col = p'.col)):codeAmong p' (l ++ [rawInt p.line,rawInt p.col,c]) = codeAmong p' l:=by
  fun_induction TriplesOk l with
  | case1 =>
    simp only [List.nil_append,codeAmong,rawInt]
    rw [if_neg]
    intro z
    rw [Bool.and_eq_true,beq_iff_eq,beq_iff_eq] at z
    exact hn ⟨by omega,by omega⟩
  | case2 a t b u x rest ih =>
    simp only [List.cons_append,codeAmong]
    rw [ih h]
  | case3=>exact h.elim
theorem jX {p:Pos} {c:Value} (l:List Value) (h:TriplesOk l):TriplesOk (l ++ [rawInt p.line,rawInt p.col,c]):=by
  fun_induction TriplesOk l with
  | case1=>simp [TriplesOk,rawInt]
  | case2 a t b u x rest ih=>exact ih h
  | case3=>exact h.elim
def Bm (mg:Str→Option Value) (base:Heap):Prop:=∃ bm ob,mg "__builtins__" = some (.ref bm)∧base.get? bm = some ob∧ob.cls = .type "module" ∧ ob.dict = some builtinsNs∧ob.data = .plain
def zr (tabs:lI) (d:LamD) (clos:List (Str×Addr)):TE:=fun σ H Q=>TabsOk tabs H∧∀ f c H1,SameT H H1→TabsOk tabs H1→H f = none→H1 f = some (.ext (fc f d clos c))→H1 c = some (.ext (dz c d.qual))→Q (.ref f) H1
end L2
namespace L2
open PySem PySem.Spec PyProof.Rows
theorem jR {α β:Type}:∀ {l:List (α×β)},(l.map (·.1)).Nodup→∀ x ∈ l,∀ y ∈ l,x.1 = y.1→x = y
  | [],_,x,hx,_,_,_=>by cases hx
  | a :: r,nd,x,hx,y,hy,e=>by
    rw [List.map_cons,List.nodup_cons] at nd
    rcases List.mem_cons.mp hx with rfl | hx' <;> rcases List.mem_cons.mp hy with rfl | hy'
    · rfl
    · exact absurd (List.mem_map.mpr ⟨y,hy',e.symm⟩) nd.1
    · exact absurd (List.mem_map.mpr ⟨x,hx',e⟩) nd.1
    · exact jR nd.2 x hx' y hy' e
theorem nY:∀ {l:List (Pos×Str)},(l.Pairwise fun x y=>¬ (x.1.line = y.1.line∧x.1.col = y.1.col))→∀ x ∈ l,∀ y ∈ l,(x.1.line = y.1.line∧x.1.col = y.1.col)→x = y
  | [],_,x,hx,_,_,_=>by cases hx
  | a :: r,nd,x,hx,y,hy,e=>by
    rw [List.pairwise_cons] at nd
    rcases List.mem_cons.mp hx with rfl | hx' <;> rcases List.mem_cons.mp hy with rfl | hy'
    · rfl
    · exact absurd e (nd.1 y hy')
    · exact absurd ⟨e.1.symm,e.2.symm⟩ (nd.1 x hx')
    · exact nY nd.2 x hx' y hy' e
section
variable {X:Cx} {tabs:lI} {P c:Addr} {ls:List (Pos×Str)} {d:LamD} {clos:List (Str×Addr)} {pos:Pos}
theorem jW (hcd:X.env.code = .ref c) (hC:PySem.W.codeHdIn X.K c P = true) (hB:Bm X.mg X.base) (hq:X.env.qual ++ "<lambda>" = d.qual) (hcl:closureFor d.scope X.env = pure clos) (hdef:defaultsOf d.params X.env = ([],[]))
    (hm:(P,ls) ∈ tabs) (hl:(pos,d.qual) ∈ ls) (hnd:(tabs.map (·.1)).Nodup) (hps:ls.Pairwise fun x y=>¬ (x.1.line = y.1.line∧x.1.col = y.1.col)):PE X (.Lambda d.params d.body d.scope pos) (zr tabs d clos):=by
  intro pins s σ H Q I h
  obtain ⟨hT,hQ⟩:=h
  refine PySem.W.kla_eval hdef ?_
  rw [hq]
  obtain ⟨ps,hP,htr,hls⟩:=hT _ hm
  have hgs:s.heap.Ns mainGlobals X.mg:=I.mod.glob.keeps I.bk
  have C:PySem.W.CodeHd s.heap c P:=PySem.W.codeHd_of_K I.kIn hC
  have hPo:s.heap.get? P = some (PySem.W.tabObj ps):=I.hok P _ hP
  have hgP:mainGlobals≠P:=fun q=>by
    obtain ⟨o,es,ep,e,hd,_⟩:=hgs
    rw [q,hPo] at e; cases e; cases hd
  obtain ⟨bm,ob,b1,b2,b3,b4,b5⟩:=hB
  have bo:=I.bk _ _ b2
  have hbP:bm≠P:=fun q=>by
    rw [q,hPo] at bo; cases bo; cases b3
  have hbG:bm≠mainGlobals:=fun q=>by
    obtain ⟨o,es,ep,e,hd,_⟩:=hgs
    rw [q,e] at bo; cases bo; rw [hd] at b5; cases b5
  have hbB:bm≠builtinsNs:=fun q=>by
    obtain ⟨mb,⟨o,es,ep,e,hd,_⟩,_⟩:=I.mod.blt
    rw [q,e] at b2; cases b2; rw [hd] at b5; cases b5
  have BA:s.heap.BuiltinsAt X.mg P:=⟨bm,ob,b1,hbB,hbG,hbP,bo,b3,b4,b5⟩
  rcases hls _ hl with hn | ⟨c',hc,hHc⟩
  · refine PySem.W.kla_makeFunction (mg:=X.mg) hcl I.ok.glob hgs hcd C hPo htr hn hgP BA fun c' ctv h' tk hx hge hlt hrec htb=>?_
    have hc0:H c' = none:=I.hok.fresh hge
    have hf0:H h'.objs.size = none:=I.hok.fresh (Nat.le_trans hge (Nat.le_of_lt hlt))
    have ncf:c'≠h'.objs.size:=Nat.ne_of_lt hlt
    have nPc:P≠c':=aq hP hc0
    have nPf:P≠h'.objs.size:=aq hP hf0
    obtain ⟨f,hf⟩:∃ f,f = h'.objs.size:=⟨_,rfl⟩
    obtain ⟨ob',hob⟩:∃ o,o = PySem.W.kla_obj "<lambda>" d.qual d.params d.body d.scope clos ((X.mg "__name__").getD .none) c' ctv:=⟨_,rfl⟩
    have hfo:(h'.push ob').get? f = some ob':=by rw [hf,hob]; exact Heap.get?_push_size _ rfl
    have keep:∀ b o,b≠P→s.heap.get? b = some o→(h'.push ob').get? b = some o:=fun b o n e=>Heap.get?_push_of_some _ (hx b o n e)
    have htb':(h'.push ob').get? P = some (PySem.W.tabObj (ps ++ #[rawInt pos.line,rawInt pos.col,.ref c'])):=Heap.get?_push_of_some _ htb
    have hcx:dz c' d.qual (h'.push ob'):=by
      obtain ⟨c2,oc,vs,t,e2,hoc,hdt,hv⟩:=hrec
      cases e2
      exact ⟨oc,vs,t,Heap.get?_push_of_some _ hoc,hdt,hv⟩
    rw [← hf] at hf0 ncf nPf ⊢
    rw [← hob]
    obtain ⟨H1,hH1⟩:∃ H1,H1 = upd (upd (upd H P (.tbl (ps ++ #[rawInt pos.line,rawInt pos.col,.ref c']))) c' (.ext (dz c' d.qual))) f (.ext (fc f d clos c')):=⟨_,rfl⟩
    have gf:H1 f = some (.ext (fc f d clos c')):=by rw [hH1]; exact ad
    have gc:H1 c' = some (.ext (dz c' d.qual)):=by rw [hH1,ai ncf]; exact ad
    have gP:H1 P = some (.tbl (ps ++ #[rawInt pos.line,rawInt pos.col,.ref c'])):=by rw [hH1,ai nPf,ai nPc]; exact ad
    have go:∀ b,b≠P→b≠c'→b≠f→H1 b = H b:=fun b h1 h2 h3=>by rw [hH1,ai h3,ai h2,ai h1]
    have same:∀ b o,b≠P→H b = some o→H1 b = some o:=fun b o n e=>by rw [go b n (aq e hc0) (aq e hf0)]; exact e
    have nt:∀ b o,H b = some o→(∀ qs,o≠.tbl qs)→b≠P:=fun b o e n z=>by rw [z,hP] at e; cases e; exact n ps rfl
    have un:Un X.fs [] H H1 s.heap (h'.push ob'):=by
      refine ⟨fun b o e n _ _=>keep b o (fun z=>by rw [z,hP] at n; cases n) e,fun b o e n _ _=>⟨o.slots,keep b o (fun z=>by rw [z,hP] at n; cases n) e⟩,fun b o e n _=>?_,fun b o e _=>?_,fun b xs e=>same b _ (nt b _ e fun _ z=>nomatch z) e,fun b o u e=>same b _ (nt b _ e fun _ z=>nomatch z) e,fun b qs e=>?_⟩
      · have hb:b < s.heap.objs.size:=Heap.lt_size e
        rw [go b (fun z=>by rw [z,hP] at n; cases n) (Nat.ne_of_lt (Nat.lt_of_lt_of_le hb hge)) (by rw [hf]; exact Nat.ne_of_lt (Nat.lt_of_lt_of_le hb (Nat.le_trans hge (Nat.le_of_lt hlt))))]
        exact n
      · by_cases hb:b = P
        · rw [hb]; exact ⟨_,htb'⟩
        · exact ⟨o,keep b o hb e⟩
      · by_cases hb:b = P
        · rw [hb,hP] at e
          cases e
          rw [hb]
          exact ⟨_,gP⟩
        · exact ⟨#[],by rw [same b _ hb e]; simp⟩
    have hok:HOk X.prog X.w H1 (h'.push ob'):=fun a o e=>by
      by_cases h1:a = f
      · subst h1; rw [gf] at e; cases e; exact nM (by rw [hfo,hob])
      by_cases h2:a = c'
      · subst h2; rw [gc] at e; cases e; exact pO hcx
      by_cases h3:a = P
      · subst h3; rw [gP] at e; cases e; exact htb'
      rw [go a h3 h2 h1] at e
      refine (I.hok a o e).stay (fun b u hb q=>keep b u ?_ q) (fun b q=>same b _ (nt b _ q fun _ z=>nomatch z) q) fun b xs q=>same b _ (nt b _ q fun _ z=>nomatch z) q
      rcases hb with rfl | hb
      · exact h3
      · exact nt b _ hb fun _ z=>nomatch z
    refine ⟨.ref f,H1,I.un (h':=h'.push ob') (t':=tk) un hok,rfl,hQ f c' H1 (fun b o e=>?_) (fun q hq'=>?_) hf0 gf gc⟩
    · by_cases hb:b = P
      · subst hb
        rw [hP] at e
        cases e
        exact ⟨fun z=>(Bool.false_ne_true z).elim,_,gP⟩
      · exact ⟨fun _=>same b o hb e,o,same b o hb e⟩
    · by_cases hqP:q.1 = P
      · have hqe:q = (P,ls):=jR hnd q hq' (P,ls) hm hqP
        subst hqe
        refine ⟨_,gP,by rw [Array.toList_append]; exact jX _ htr,fun l' hl'=>?_⟩
        rw [Array.toList_append]
        by_cases hp:pos.line = l'.1.line∧pos.col = l'.1.col
        · have:=nY hps (pos,d.qual) hl l' hl' hp
          subst this
          exact .inr ⟨c',codeAmong_snoc _ htr hn,gc⟩
        · have eo:=kD (c:=.ref c') ps.toList htr hp
          rcases hls l' hl' with z | ⟨c2,z1,z2⟩
          · exact .inl (eo.trans z)
          · exact .inr ⟨c2,eo.trans z1,same c2 _ (nt c2 _ z2 fun _ z=>nomatch z) z2⟩
      · obtain ⟨qs,e1,e2,e3⟩:=hT q hq'
        exact ⟨qs,same _ _ hqP e1,e2,fun l' hl'=>(e3 l' hl').imp id fun ⟨c2,z1,z2⟩=>⟨c2,z1,same c2 _ (nt c2 _ z2 fun _ z=>nomatch z) z2⟩⟩
  · refine PySem.W.kla_makeFunctionHit (mg:=X.mg) hcl I.ok.glob hgs hcd C hPo htr hc BA fun ctv h' tk hk hsz=>?_
    have hf0:H h'.objs.size = none:=I.hok.fresh hsz
    have sm:Same H (upd H h'.objs.size (.ext (fc h'.objs.size d clos c'))):=Same.new hf0
    refine ⟨.ref h'.objs.size,_,I.laid (a:=h'.objs.size) (o:=.ext (fc h'.objs.size d clos c')) (t':=tk) (fun b u e=>Heap.get?_push_of_some _ (hk b u e)) hsz (nM (Heap.get?_push_size _ rfl)),rfl,hQ _ c' _ sm.t (hT.same sm) hf0 ad (sm _ _ hHc)⟩
end
end L2
namespace L2
open PySem PySem.Spec PyProof.Rows
def untrs (H:Hp) (cs:List Addr):Hp:=fun b=>if b ∈ cs then none else H b
theorem fB {H:Hp} {cs:List Addr} {b:Addr} (h:b ∈ cs):untrs H cs b = none:=by unfold untrs; rw [if_pos h]
theorem eY {H:Hp} {cs:List Addr} {b:Addr} (h:b ∉ cs):untrs H cs b = H b:=by unfold untrs; rw [if_neg h]
theorem cN {H:Hp} {cs:List Addr} {b:Addr} (h:H b = none):untrs H cs b = none:=by unfold untrs; split <;> first | rfl | exact h
abbrev CellsAt (H:Hp):List (Str×Addr)→List V→Prop:=Paired fun (p:Str×Addr) (v:V)=>H p.2 = some (.ext (de p.2 v))
theorem CellsAt.mem {H:Hp}:∀ {clos:List (Str×Addr)} {vals:List V},CellsAt H clos vals→∀ p ∈ clos,∃ v,H p.2 = some (.ext (de p.2 v))
  | _,_,.nil,p,h=>by cases h
  | _,_,.cons r t,p,h=>by
    rcases List.mem_cons.mp h with rfl | h
    · exact ⟨_,r⟩
    · exact CellsAt.mem t p h
theorem CellsAt.get {H:Hp}:∀ {clos:List (Str×Addr)} {vals:List V} {i:Nat} {v:V},CellsAt H clos vals→vals[i]? = some v→∃ p,clos[i]? = some p∧H p.2 = some (.ext (de p.2 v))
  | _,_,_,_,.nil,h=>by cases h
  | _,_,0,_,.cons r t,h=>by cases h; exact ⟨_,rfl,r⟩
  | _,_,i + 1,_,.cons r t,h=>CellsAt.get (i:=i) t h
theorem CellsAt.at {H:Hp} {clos:List (Str×Addr)} {vals:List V} (ca:CellsAt H clos vals) {b:Addr} (hb:b ∈ clos.map (·.2)):∃ v,H b = some (.ext (de b v)):=by
  obtain ⟨p,hp,rfl⟩:=List.mem_map.mp hb
  exact ca.mem p hp
theorem bM {H:Hp} {clos:List (Str×Addr)} {vals:List V} {b:Addr} {o:HO} (ca:CellsAt H clos vals) (h:H b = some o) (n:∀ v,o≠.ext (de b v)):untrs H (clos.map (·.2)) b = some o:=by
  rw [eY fun z=>?_]
  · exact h
  · obtain ⟨v,e⟩:=ca.at z
    rw [h] at e
    exact n v (Option.some.inj e)
theorem cQ {α:Type}:∀ {l:List (Str×α)} {x:Str} {u:α},(l.map (·.1)).Nodup→(x,u) ∈ l→l.lookup x = some u
  | [],_,_,_,h=>by cases h
  | (y,w) :: r,x,u,nd,h=>by
    rw [List.map_cons,List.nodup_cons] at nd
    rcases List.mem_cons.mp h with e | h
    · cases e; simp [List.lookup]
    · have:x≠y:=fun z=>nd.1 (List.mem_map.mpr ⟨(x,u),h,z⟩)
      rw [List.lookup_cons,beq_eq_false_iff_ne.mpr this]
      exact cQ nd.2 h
theorem pd {α:Type} {l:List α} (h:l.Nodup):l.reverse.Nodup:=by
  unfold List.Nodup at h ⊢
  rw [List.pairwise_reverse]
  exact h.imp fun n z=>n z.symm
def g9 (d:LamD) (L f c:Addr) (clos:List (Str×Addr)):Env:={ scope:=d.scope,locals:=L,globals:=mainGlobals,cells:=clos,qual:=d.qual ++ ".<locals>.",func:=some f,code:=.ref c,frame:=some L,builtins:=builtinsNs }
def cxL (P:Program) (w:World) (K:PySem.W.Frag) (mg:Str→Option Value) (base:Heap) (N:List Str) (d:LamD) (clos:List (Str×Addr)) (f c:Addr) (A:Around) (outer:List Env) (s:Shared) (H:Hp):Cx where
  prog:=P
  w:=w
  K:=K
  mg:=mg
  base:=base
  A:=A.deeper (g9 d s.heap.objs.size f c clos)
  N:=N
  s₀:=s
  H₀:=untrs H (clos.map (·.2))
  env:=g9 d s.heap.objs.size f c clos
  outer:=outer
  stack:=g9 d s.heap.objs.size f c clos :: outer
  ex:=[]
  calm:=true
  fn:=fun _=>false
  pn:=[]
  xe:=fun _ _=>False
def ee (P:Program) (w:World) (K:PySem.W.Frag) (mg:Str→Option Value) (base:Heap) (k:Nat) (d:LamD) (fv ps:List Str) (sp:List V→Sp):Prop :=
  ∀ (A:Around) (outer:List Env) (s:Shared) (H:Hp) (f c:Addr) (clos:List (Str×Addr)) (us:List Value) (vs vals:List V) (Q:VK) (E:XK),Room k A→Env0 P w K mg base A outer s H→H f = some (.ext (fc f d clos c))→H c = some (.ext (dz c d.qual)) →
    clos.map (·.1) = fv→(clos.map (·.2)).Nodup→CellsAt H clos vals→Vals vs us→sp vals vs H Q E→codeAny (model P w) A (.call (.ref f) ⟨us,[]⟩) (CR CX0 outer P w H s Q E) s
structure LamScope (d:LamD) (fv ps:List Str):Prop where
  kind:d.scope.kind = .function
  co:d.scope.isCoroutine = false
  gen:d.scope.isGenerator = false
  nocell:∀ x ∈ d.scope.names,x.2≠.cell
  par:∀ x ∈ ps,d.scope.names.lookup x = some .local
  free:∀ x ∈ d.scope.names,x.2 = .free→x.1 ∈ fv
  fr:∀ x ∈ fv,d.scope.names.lookup x = some .free
  nd:(ps ++ fv).Nodup
theorem b8 {α β:Type} [BEq α] [LawfulBEq α]:∀ {l:List (α×β)} {x:α} {u:β},l.lookup x = some u→(x,u) ∈ l
  | [],_,_,h=>by cases h
  | (y,w) :: r,x,u,h=>by
    rw [List.lookup_cons] at h
    cases e:x == y with
    | true=>rw [e] at h; cases h; rw [eq_of_beq e]; exact List.mem_cons_self ..
    | false=>rw [e] at h; exact List.mem_cons_of_mem _ (b8 h)
theorem lV {P:Program} {w:World} {K:PySem.W.Frag} {mg:Str→Option Value} {base:Heap} {d:LamD} {fv ps:List Str} {clos:List (Str×Addr)} {f c:Addr} {A:Around} {outer:List Env} {s:Shared} {H:Hp} {us:List Value} {vs vals:List V} {h1:Heap} {tk:Nat}
    (S:LamScope d fv ps) (hd:A.handled = none) (e0:Env0 P w K mg base A outer s H) (hl:vs.length = ps.length) (r:Vals vs us) (hfv:clos.map (·.1) = fv) (hnd:(clos.map (·.2)).Nodup) (ca:CellsAt H clos vals)
    (hns:h1.Ns s.heap.objs.size (fun x=>(ps.zip us).reverse.lookup x)) (hk:∀ b o,s.heap.get? b = some o→h1.get? b = some o) :
    Inv (cxL P w K mg base (ps ++ fv) d clos f c A outer s H) [] ((vs ++ vals).map some) (untrs H (clos.map (·.2))) { s with heap:=h1,toks:=tk }:=by
  have ndf:(clos.map (·.1)).Nodup:=by rw [hfv]; exact (List.nodup_append.mp S.nd).2.1
  have ndp:ps.Nodup:=(List.nodup_append.mp S.nd).1
  have lus:us.length = ps.length:=by rw [← r.length]; exact hl
  have hin:∀ x c',clos.lookup x = some c'→c' ∈ clos.map (·.2):=fun x c' e=>List.mem_map.mpr ⟨(x,c'),b8 e,rfl⟩
  have cellOf:∀ b v,H b = some (.ext (de b v))→∃ u,RelV v u∧h1.IsCell b (some u):=fun b v e=>by
    obtain ⟨⟨o,u,g1,g2,g3⟩,_⟩:=e0.hok b _ e
    exact ⟨u,g3,o,hk _ _ g1,g2⟩
  have noA:∀ b:Addr,b ∉ (cxL P w K mg base (ps ++ fv) d clos f c A outer s H).ex:=fun b z=>absurd (show b ∈ ([]:List Addr) from z) (by simp)
  have lcl:clos.length = fv.length:=by rw [← hfv,List.length_map]
  have lva:vals.length = clos.length:=(Paired.length ca).symm
  refine ⟨⟨e0.mod,S.kind,rfl,rfl,Nat.le_refl _,fun y z c' h1 h2=>?_,fun y hy=>?_,fun y c' h=>(Bool.false_ne_true h).elim,fun _=>hd,Around.frames_deeper e0.frames,.inr ⟨rfl,rfl⟩,fun b z=>absurd z (noA b),fun b o e=>⟨(e0.bs b o e).1,cN (e0.bs b o e).2⟩,e0.bsz,fun b _ _=>noA b,fun b z=>absurd z (noA b),e0.funs,fun b hb=>cN (e0.frf b hb)⟩,
    rfl,e0.bare,Un.kept hk,⟨_,hns,fun i y v g1 g2 g3=>?_⟩,fun y c' h=>?_,cN (e0.hok.fresh (Nat.le_refl _)),fun y c' h=>fB (hin y c' h),fun p hp=>absurd (show p ∈ ([]:List (Addr×Obj)) from hp) (by simp),fun b u e=>?_,?_⟩
  · have h1:clos.lookup y = some c':=h1
    have h2:clos.lookup z = some c':=h2
    have e1:=b8 h1
    have e2:=b8 h2
    have nd2:((clos.map fun p=>(p.2,p.1)).map (·.1)).Nodup:=by rw [List.map_map]; exact hnd
    have:=jR nd2 (c',y) (List.mem_map.mpr ⟨_,e1,rfl⟩) (c',z) (List.mem_map.mpr ⟨_,e2,rfl⟩) rfl
    exact congrArg Prod.snd this
  · have hy:d.scope.names.lookup y = some .cell∨d.scope.names.lookup y = some .free:=hy
    rcases hy with hy | hy
    · exact absurd rfl (S.nocell _ (b8 hy))
    · have:=S.free _ (b8 hy) rfl
      rw [← hfv] at this
      obtain ⟨p,hp,e⟩:=List.mem_map.mp this
      have e':p.1 = y:=e
      exact ⟨p.2,cQ ndf (by show (y,p.2) ∈ clos; rw [← e']; exact hp)⟩
  · have g1:(ps ++ fv)[i]? = some y:=g1
    by_cases hi:i < ps.length
    · rw [List.getElem?_append_left hi] at g1
      rw [List.getElem?_map,List.getElem?_append_left (by omega)] at g2
      have g2':vs[i]? = some v:=by
        cases q:vs[i]? with
        | none=>rw [q] at g2; cases g2
        | some x=>rw [q] at g2; cases g2; rfl
      obtain ⟨u,hu,rv⟩:=r.get g2'
      refine ⟨u,rv,.inl ⟨S.par y (List.mem_of_getElem? g1),?_⟩⟩
      have mem:(y,u) ∈ ps.zip us:=List.mem_of_getElem? (i:=i) (by rw [List.getElem?_zip_eq_some]; exact ⟨g1,hu⟩)
      refine cQ ?_ (List.mem_reverse.mpr mem)
      rw [List.map_reverse]
      refine pd ?_
      have:(ps.zip us).map (·.1) = ps:=by rw [List.map_fst_zip]; omega
      rw [this]
      exact ndp
    · rw [List.getElem?_append_right (by omega)] at g1
      rw [List.getElem?_map,List.getElem?_append_right (by omega)] at g2
      have g2':vals[i - ps.length]? = some v:=by
        rw [hl] at g2
        cases q:vals[i - ps.length]? with
        | none=>rw [q] at g2; cases g2
        | some x=>rw [q] at g2; cases g2; rfl
      obtain ⟨p,hp,e⟩:=ca.get g2'
      rw [← hfv,List.getElem?_map,hp] at g1
      cases g1
      obtain ⟨u,rv,ic⟩:=cellOf _ _ e
      have hmem:=List.mem_of_getElem? hp
      refine ⟨u,rv,.inr ⟨.inr (S.fr p.1 ?_),p.2,cQ ndf hmem,ic⟩⟩
      rw [← hfv]
      exact List.mem_map.mpr ⟨p,hmem,rfl⟩
  · obtain ⟨v,e⟩:=ca.at (hin y c' h)
    obtain ⟨u,_,ic⟩:=cellOf _ _ e
    exact ⟨_,ic⟩
  · by_cases hb:b ∈ clos.map (·.2)
    · rw [fB hb] at e; cases e
    · rw [eY hb] at e
      refine (e0.hok b u e).stay (fun b' u' _ q=>hk b' u' q) (fun b' q=>?_) fun b' xs q=>?_
      · exact bM ca q fun v z=>nomatch z
      · exact bM ca q fun v z=>nomatch z
  · show ((vs ++ vals).map some).length = (ps ++ fv).length
    rw [List.length_map,List.length_append,List.length_append]
    omega
end L2
namespace L2
open PySem PySem.Spec PyProof.Rows
section
variable {P:Program} {w:World} {K:PySem.W.Frag} {mg:Str→Option Value} {base:Heap}
theorem jT {d:LamD} {fv ps:List Str} {k:Nat} {sp:List V→Sp} (S:LamScope d fv ps)
    (hbind:∀ (pm ctv:Value) (clos:List (Str×Addr)) (c:Addr) (us:List Value),us.length = ps.length→bindArgs (PySem.W.kla_fn "<lambda>" d.qual d.params d.body d.scope clos pm (.ref c) ctv) ⟨us,[]⟩ = pure (ps.zip us))
    (len:∀ vals vs H Q E,sp vals vs H Q E→vs.length = ps.length)
    (hbody:∀ (A:Around) (outer:List Env) (s:Shared) (H:Hp) (f c:Addr) (clos:List (Str×Addr)) (vals vs:List V) (Q:VK) (E:XK),Room k (A.deeper (g9 d s.heap.objs.size f c clos))→clos.map (·.1) = fv→CellsAt H clos vals→sp vals vs H Q E →
      ∃ t,PE (cxL P w K mg base (ps ++ fv) d clos f c A outer s H) d.body t∧t ((vs ++ vals).map some) (untrs H (clos.map (·.2))) (fun v H'=>∀ H3,Same H' H3→(∀ p ∈ clos,H3 p.2 = H p.2)→Q v H3)) :
    ee P w K mg base (k + 1) d fv ps sp:=by
  intro A outer s H f c clos us vs vals Q E hr e0 hf hc hfv hnd ca r hsp
  have hl:=len _ _ _ _ _ hsp
  have lus:us.length = ps.length:=by rw [← r.length]; exact hl
  obtain ⟨⟨pm,ctv,ef⟩,_,_⟩:=e0.hok f _ hf
  obtain ⟨⟨oc,cvs,ct,ec,ed,ev⟩,_,_⟩:=e0.hok c _ hc
  have lim:s.heap.NoLimit:=e0.mod.nolimit.keeps fun b o e=>(e0.bs b o e).1
  obtain ⟨t,ht,hq⟩:=hbody A outer s H f c clos vals vs Q E (hr.deeper _) hfv ca hsp
  refine PySem.W.kla_callFunE (body:=d.body) hr.depth ef rfl S.co S.gen rfl ⟨c,oc,cvs,ct,rfl,ec,ed,ev⟩ ?_
  rw [hbind pm ctv clos c us lus]
  refine wpAny_pure (wpAny_newFunctionEnv S.nocell (fun y hy=>S.par y.1 (List.of_mem_zip hy).1) (fun h1 hns hsb=>?_) S.kind)
  have hk:∀ b o,s.heap.get? b = some o→h1.get? b = some o:=fun b o e=>hsb.extBut b o (Nat.ne_of_lt (Heap.lt_size e)) (Heap.get?_push_of_some _ e)
  refine ⟨lim.fresh _ hsb,?_⟩
  show codeAny _ _ (.expr d.body (g9 d s.heap.objs.size f c clos)) _ _
  have I:=lV (f:=f) (c:=c) (tk:=s.toks + (ps.zip us).length) S hr.hd e0 hl r hfv hnd ca hns hk
  refine PySem.W.kla_codeExpr (wpAny_mono (ht [] _ _ _ _ I hq) (fun u s' hs=>?_) fun e s' z=>False.elim z)
  obtain ⟨v,H',J,rv,q⟩:=hs
  obtain ⟨cs,hcs⟩:∃ cs,cs = clos.map (·.2):=⟨_,rfl⟩
  have ub:Un (frs outer) [] (untrs H (clos.map (·.2))) H' s.heap s'.heap:=J.base
  have hat:∀ b,b ∈ clos.map (·.2)→∃ o v,s.heap.get? b = some o∧H b = some (.ext (de b v)):=fun b hb=>by
    obtain ⟨v,e⟩:=ca.at hb
    obtain ⟨⟨o,_,g,_⟩,_⟩:=e0.hok b _ e
    exact ⟨o,v,g,e⟩
  have hfr:∀ b ∈ clos.map (·.2),H' b = none:=fun b hb=>by
    obtain ⟨o,v,g,_⟩:=hat b hb
    exact ub.free b o g (fB hb) (by simp)
  let H3:Hp:=fun b=>if b ∈ clos.map (·.2) then H b else H' b
  have g1:∀ b,b ∈ clos.map (·.2)→H3 b = H b:=fun b hb=>if_pos hb
  have g2:∀ b,b ∉ clos.map (·.2)→H3 b = H' b:=fun b hb=>if_neg hb
  have sm:Same H' H3:=fun b o e=>by
    rw [g2 b fun z=>by rw [hfr b z] at e; cases e]
    exact e
  have up:∀ b o,H b = some o→(∀ v,o≠.ext (de b v))→b ∉ clos.map (·.2):=fun b o e n z=>by
    obtain ⟨v,e'⟩:=ca.at z
    rw [e] at e'
    exact n v (Option.some.inj e')
  refine ⟨v,H3,J.os,J.bare,⟨fun b o e n hb hx=>ub.keep b o e (cN n) hb hx,fun b o e n hb hx=>ub.slot b o e (cN n) hb hx,fun b o e n hx=>?_,ub.there,fun b xs e=>?_,fun b o u e=>?_,fun b ps' e=>?_⟩,fun b o e=>?_,rv,q H3 sm fun p hp=>g1 p.2 (List.mem_map.mpr ⟨p,hp,rfl⟩)⟩
  · rw [g2 b fun z=>by obtain ⟨_,v,_,e'⟩:=hat b z; rw [n] at e'; cases e']
    exact ub.free b o e (cN n) hx
  · exact sm _ _ (ub.tups b xs (bM ca e fun v z=>nomatch z))
  · exact sm _ _ (ub.frzs b o u (bM ca e fun v z=>nomatch z))
  · obtain ⟨more,z⟩:=ub.tbls b ps' (bM ca e fun v z=>nomatch z)
    exact ⟨more,sm _ _ z⟩
  · by_cases hb:b ∈ clos.map (·.2)
    · rw [g1 b hb] at e
      obtain ⟨o',v',g,e'⟩:=hat b hb
      rw [e] at e'
      cases e'
      obtain ⟨⟨o2,u2,k1,k2,k3⟩,_⟩:=e0.hok b _ e
      refine lg ⟨o2,u2,ub.keep b o2 k1 (fB hb) (fun z=>?_) (by simp),k2,k3⟩
      rw [e0.frf b z] at e
      cases e
    · rw [g2 b hb] at e
      refine (J.hok b o e).stay (fun b' u' _ q=>q) (fun b' q=>sm _ _ q) fun b' xs q=>sm _ _ q
end
theorem PE.or {X:Cx} {e:Expr} {t t':TE} (h:PE X e t) (h':PE X e t'):PE X e (fun σ H Q=>t σ H Q∨t' σ H Q):=fun pins s σ H Q I q=>q.elim (h pins s σ H Q I) (h' pins s σ H Q I)
def ww (d:LamD) (fv:List Str) (sp:List V→Sp):V→List V→Hp→VK→Prop:=fun v vs H Q=>∃ f c clos vals,v = .ref f∧H f = some (.ext (fc f d clos c))∧H c = some (.ext (dz c d.qual))∧clos.map (·.1) = fv∧(clos.map (·.2)).Nodup∧CellsAt H clos vals∧sp vals vs H Q fun _ _ _=>False
def vS (d:LamD) (fv:List Str) (sp:List V→Sp) (tf:TE) (t:TA):TE:=fun σ H Q=>tf σ H fun v H1=>(∃ f d' clos c,v = .ref f∧H1 f = some (.ext (fc f d' clos c)))∧t σ H1 fun vs H2=>(∀ f d' clos c,v = .ref f→H1 f = some (.ext (fc f d' clos c))→H2 f = some (.ext (fc f d' clos c)))∧ww d fv sp v vs H2 Q
section
variable {X:Cx} {d:LamD} {fv ps:List Str} {k:Nat} {sp:List V→Sp} {x:Str} {p pos:Pos} {tf:TE} {t:TA} {e:Expr} {es:List Expr}
theorem mP {pins:List (Addr×Obj)} {σ:St} {H:Hp} {s:Shared} {Q:VK} {us:List Value} {vs:List V} {v:V} {u:Value} (L:ee X.prog X.w X.K X.mg X.base k d fv ps sp) (hr:Room k X.A) (I:Inv X pins σ H s) (rv:RelV v u) (r:Vals vs us) (h:ww d fv sp v vs H Q) :
    wpAny (model X.prog X.w) X.A (call u us) (EP X pins σ Q) X.xe s:=by
  obtain ⟨f,c,clos,vals,rfl,hf,hc,h1,h2,h3,h4⟩:=h
  obtain rfl:u = Value.ref f:=rv
  refine wpAny_call (codeAny_mono (L X.A X.stack s H f c clos us vs vals Q _ hr I.env0 hf hc h1 h2 h3 r h4) fun r s' hq=>?_)
  cases r with
  | error e=>exact False.elim hq
  | ok fl =>
    cases fl with
    | ret u=>exact I.after hq
    | next=>exact False.elim hq
    | brk=>exact False.elim hq
    | cont=>exact False.elim hq
theorem kj {H:Hp} {s:Shared} {P:Program} {w:World} {f c:Addr} {d:LamD} {clos:List (Str×Addr)} (ok:HOk P w H s.heap) (hf:H f = some (.ext (fc f d clos c))):PySem.W.FnAt f s.heap:=by
  obtain ⟨⟨pm,ctv,ef⟩,_,_⟩:=ok f _ hf
  exact ⟨_,_,_,_,ef⟩
theorem qE (hn:PE X (.Name x p) tf) (L:ee X.prog X.w X.K X.mg X.base k d fv ps sp) (hr:Room k X.A) (ha:PA X (e :: es) t)
    (he:starEach (e :: es) X.env = (false,eval e X.env) :: starEach es X.env:=by rfl) (hpl:(backTo pos (starEach es X.env)).any (·.1) = false:=by rfl):PE X (.Call (.Name x p) (e :: es) [] pos) (vS d fv sp tf t):=by
  intro pins s σ H Q I h
  refine wpAny_Call_Name_kw (thn (hn pins s σ H _ I h) fun u s1 ⟨v,H1,I1,rv,⟨f,d',clos,c,ef,hf⟩,q⟩=>?_)
  subst ef
  obtain rfl:u = Value.ref f:=rv
  refine PySem.W.callWith_F (kj I1.hok hf) (thn (ha pos pins s1 σ H1 _ I1 q) fun us s2 ⟨vs,H2,I2,r,q2⟩=>⟨kj I2.hok (q2.1 _ _ _ _ rfl hf),?_⟩) he hpl
  exact mP L hr I2 (v:=.ref f) rfl r q2.2
theorem gm (hn:PE X (.Name x p) tf) (L:ee X.prog X.w X.K X.mg X.base k d fv ps sp) (hr:Room k X.A):PE X (.Call (.Name x p) [] [] pos) (fun σ H Q=>tf σ H fun v H1=>ww d fv sp v [] H1 Q):=by
  intro pins s σ H Q I h
  refine wpAny_Call_Name_kw (thn (hn pins s σ H _ I h) fun u s1 ⟨v,H1,I1,rv,q⟩=>?_)
  obtain ⟨f,c,clos,vals,ef,hf,_⟩:=id q
  subst ef
  obtain rfl:u = Value.ref f:=rv
  exact PySem.W.callWith_F0 (kj I1.hok hf) (mP (us:=[]) L hr I1 (v:=.ref f) rfl .nil q)
end
end L2
namespace L2
open PySem PySem.Spec PyProof.Rows
abbrev TR:=VK→(V→St→Hp→Prop)→St→Hp→Prop
def PR (X:Cx) (sts:List Stmt) (t:TR):Prop :=
  ∀ (pins:List (Addr×Obj)) (s:Shared) (σ:St) (H:Hp) (R:VK) (Z:V→St→Hp→Prop),Inv X pins σ H s→t R Z σ H →
    wpAny (model X.prog X.w) X.A (execs sts X.env) (fun f s'=>∃ u,f = .ret u∧((∃ v σ' H',Inv X pins σ' H' s'∧RelV v u∧(R v H'∨Z v σ' H'))∨∃ v H',s'.os = X.s₀.os∧AllBare s'.gens∧Un X.fs X.ex X.H₀ H' X.s₀.heap s'.heap∧HOk X.prog X.w H' s'.heap∧RelV v u∧R v H')) X.xe s
section
variable {X:Cx} {e:Expr} {te:TE} {pos:Pos} {st:Stmt} {rest:List Stmt} {t:TS} {u:TR}
theorem qO (he:PE X e te):PR X [.Return (some e) pos] (fun _ Z σ H=>te σ H fun v H'=>Z v σ H'):=by
  intro pins s σ H R Z I h
  refine wpAny_execs_cons (wpAny_Return_some (thn (he pins s σ H _ I h) fun v s1 ⟨x,H1,I1,r1,q1⟩=>?_))
  exact ⟨v,rfl,.inl ⟨x,σ,H1,I1,r1,.inr q1⟩⟩
theorem kg (h1:PS X st t) (h2:PR X rest u):PR X (st :: rest) (fun R Z σ H=>t { nx:=u R Z,rt:=R } σ H):=by
  intro pins s σ H R Z I h
  refine wpAny_execs_cons (thn (h1 pins s σ H { nx:=u R Z,rt:=R } I h) fun f s1 q=>?_)
  cases f with
  | next =>
    obtain ⟨σ',H',I',q⟩:=q
    exact h2 pins s1 σ' H' R Z I' q
  | ret v =>
    obtain ⟨v',σ',H',I',r,q⟩:=q
    exact ⟨v,rfl,.inl ⟨v',σ',H',I',r,.inl q⟩⟩
  | brk=>obtain ⟨_,_,_,q⟩:=q; exact False.elim q
  | cont=>obtain ⟨_,_,_,q⟩:=q; exact False.elim q
end
def kq (cells:List (Str×Addr)) (N:List Str) (σ:St) (H3:Hp):Prop:=∀ (i:Nat) (y:Str) (v:V) (c:Addr),N[i]? = some y→σ[i]? = some (some v)→cells.lookup y = some c→H3 c = some (.ext (de c v))
theorem ge {y:Str} {c:Addr}:∀ (names:List (Str×NameKind)) (n:Nat) (acc:List (Str×Addr)),(y,c) ∈ cellsFrom n names acc→(y,c) ∈ acc∨(y,NameKind.cell) ∈ names
  | [],n,acc,h=>.inl h
  | (x,k) :: r,n,acc,h=>by
    unfold cellsFrom at h
    split at h
    · rename_i hk
      rcases ge r (n + 1) ((x,n) :: acc) h with z | z
      · rcases List.mem_cons.mp z with e | z
        · cases e
          rw [eq_of_beq hk]
          exact .inr (List.mem_cons_self ..)
        · exact .inl z
      · exact .inr (List.mem_cons_of_mem _ z)
    · rcases ge r n acc h with z | z
      · exact .inl z
      · exact .inr (List.mem_cons_of_mem _ z)
section
variable {P:Program} {w:World} {K:PySem.W.Frag} {mg:Str→Option Value} {base:Heap}
theorem uw {CX:CXT} {N:List Str} {qual:Str} {scope:Scope} {f:Addr} {cd:Value} {A:Around} {outer:List Env} {s s':Shared} {H H':Hp} {E:XK} {σ:St} (hN:N.Nodup) (hck:∀ p ∈ scope.names,p.2 = .cell→scope.names.lookup p.1 = some .cell)
    {pins:List (Addr×Obj)} (J:Inv (dy CX P w K mg base N qual scope f cd A outer s H E) pins σ H' s') :
    ∃ H3,Same H' H3∧kq (cellsFrom (s.heap.objs.size + 1) scope.names []) N σ H3∧(∀ b,H' b = none→H3 b≠none→∃ y,(cellsFrom (s.heap.objs.size + 1) scope.names []).lookup y = some b)∧Un (frs outer) [] H H3 s.heap s'.heap∧HOk P w H3 s'.heap:=by
  have hvis:∀ y c,(cellsFrom (s.heap.objs.size + 1) scope.names []).lookup y = some c→scope.names.lookup y = some .cell:=fun y c e=>by
    rcases ge _ _ _ (b8 e) with z | z
    · cases z
    · exact hck _ z rfl
  obtain ⟨cells,hcells⟩:∃ l,l = cellsFrom (s.heap.objs.size + 1) scope.names []:=⟨_,rfl⟩
  rw [← hcells] at hvis ⊢
  have henv:(dy CX P w K mg base N qual scope f cd A outer s H E).env.cells = cells:=hcells.symm
  let G:Addr→V→Prop:=fun b v=>∃ (i:Nat) (y:Str),N[i]? = some y∧σ[i]? = some (some v)∧cells.lookup y = some b
  have G1:∀ b v v',G b v→G b v'→v = v':=by
    rintro b v v' ⟨i,y,a1,a2,a3⟩ ⟨j,z,b1,b2,b3⟩
    have:y = z:=J.ok.inj y z b (by rw [henv]; exact a3) (by rw [henv]; exact b3)
    subst this
    have:i = j:=ip hN a1 b1
    subst this
    rw [a2] at b2
    cases b2
    rfl
  have G2:∀ b v,G b v→H' b = none∧s.heap.objs.size≤b∧de b v s'.heap:=by
    rintro b v ⟨i,y,a1,a2,a3⟩
    refine ⟨J.freeC y b (by rw [henv]; exact a3),J.ok.cab y b rfl (by rw [henv]; exact a3),?_⟩
    obtain ⟨m,hn,hl⟩:=J.loc
    obtain ⟨u,r,l⟩:=hl i y v a1 a2 (.inr (.inl (hvis y b a3)))
    rcases l with ⟨k,_⟩ | ⟨k,c,e,o,ho,hd⟩
    · exfalso
      have k:scope.names.lookup y = some .local:=k
      rw [hvis y b a3] at k
      cases k
    · have e:cells.lookup y = some c:=by rw [← henv]; exact e
      rw [a3] at e
      cases e
      exact ⟨o,u,ho,hd,r⟩
  classical
  let H3:Hp:=fun b=>if h:∃ v,G b v then some (.ext (de b (Classical.choose h))) else H' b
  have g1:∀ b v,G b v→H3 b = some (.ext (de b v)):=fun b v h=>by
    have hx:∃ v,G b v:=⟨v,h⟩
    show (if h:∃ v,G b v then some (.ext (de b (Classical.choose h))) else H' b) = _
    rw [dif_pos hx,G1 b _ v (Classical.choose_spec hx) h]
  have g2:∀ b,(¬ ∃ v,G b v)→H3 b = H' b:=fun b h=>dif_neg h
  have sm:Same H' H3:=fun b o e=>by
    rw [g2 b fun ⟨v,z⟩=>by rw [(G2 b v z).1] at e; cases e]
    exact e
  have jb:Un (frs outer) [] H H' s.heap s'.heap:=J.base
  refine ⟨H3,sm,fun i y v c a1 a2 a3=>g1 c v ⟨i,y,a1,a2,a3⟩,(fun b n1 n2=>?_),⟨jb.keep,jb.slot,fun b o e n hx=>?_,jb.there,fun b xs e=>sm _ _ (jb.tups b xs e),fun b o u e=>sm _ _ (jb.frzs b o u e),fun b ps e=>?_⟩,fun b o e=>?_⟩
  · by_cases h:∃ v,G b v
    · obtain ⟨v,i,y,_,_,a3⟩:=h
      exact ⟨y,a3⟩
    · rw [g2 b h] at n2
      exact absurd n1 n2
  · rw [g2 b fun ⟨v,z⟩=>absurd (Nat.lt_of_lt_of_le (Heap.lt_size e) (G2 b v z).2.1) (Nat.lt_irrefl _)]
    exact jb.free b o e n hx
  · obtain ⟨more,z⟩:=jb.tbls b ps e
    exact ⟨more,sm _ _ z⟩
  · by_cases h:∃ v,G b v
    · obtain ⟨v,h⟩:=h
      rw [g1 b v h] at e
      cases e
      exact lg (G2 b v h).2.2
    · rw [g2 b h] at e
      exact (J.hok b o e).stay (fun b' u' _ q=>q) (fun b' q=>sm _ _ q) fun b' xs q=>sm _ _ q
theorem sG {N:List Str} {qual:Str} {scope:Scope} {f:Addr} {cd:Value} {A:Around} {outer:List Env} {s:Shared} {H:Hp} {E:XK} {k:Nat} {g:Addr} {fd:FuncData} {ps:List Str} {sp:Sp} {ds:List Value} {dvs:List V} {x:Str} {p pos rp:Pos} {e:Expr} {es:List Expr} {t:TA}
    (hN:N.Nodup) (hck:∀ p ∈ scope.names,p.2 = .cell→scope.names.lookup p.1 = some .cell)
    (F:FnOk P w K mg base CX0 k g fd ps sp) (hr:Room k (dy CX0 P w K mg base N qual scope f cd A outer s H E).nox.A) (hg:Gl (dy CX0 P w K mg base N qual scope f cd A outer s H E).nox x) (hm:mg x = some (.ref g)) (hk:PySem.W.keepIn K (.ref g) = true) (hb:Binds K fd ps ds) (hd:Vals dvs ds)
    (ha:PA (dy CX0 P w K mg base N qual scope f cd A outer s H E).nox (e :: es) t) (hdb:(x == ("__debug__" : Str)) = false:=by decide)
    (he:starEach (e :: es) (dy CX0 P w K mg base N qual scope f cd A outer s H E).nox.env = (false,eval e (dy CX0 P w K mg base N qual scope f cd A outer s H E).nox.env) :: starEach es (dy CX0 P w K mg base N qual scope f cd A outer s H E).nox.env:=by rfl)
    (hpl:(backTo pos (starEach es (dy CX0 P w K mg base N qual scope f cd A outer s H E).nox.env)).any (·.1) = false:=by rfl) :
    PR (dy CX0 P w K mg base N qual scope f cd A outer s H E).nox [.Return (some (.Call (.Name x p) (e :: es) [] pos)) rp]
      (fun R _ σ H'=>t σ H' fun vs H1=>∀ H3,Same H1 H3→kq (cellsFrom (s.heap.objs.size + 1) scope.names []) N σ H3→sp (vs ++ dvs) H3 R fun _ _ _=>False):=by
  intro pins s1 σ H1 R Z I h
  refine wpAny_execs_cons (wpAny_Return_some ?_)
  refine wpAny_Call_Name_kw (gN I hg hm ?_ hdb)
  refine PySem.W.callWith_K (h₀:=base) I.ok.mod.kin hk (thn (ha pos pins s1 σ H1 _ I h) fun us s2 ⟨vs,H2,I2,r,q⟩=>⟨I2.kIn,?_⟩) he hpl
  have J:Inv (dy CX0 P w K mg base N qual scope f cd A outer s H E) pins σ H2 s2:=I2.unwish
  obtain ⟨H3,sm,hc,hnew,un,hok⟩:=uw hN hck J
  have r2:Vals (vs ++ dvs) (us ++ ds):=r.append hd
  have q':=q H3 sm hc
  have hl:(us ++ ds).length = ps.length:=by rw [← r2.length]; exact F.len _ _ _ _ q'
  have hL:∀ b ∈ frs (envOfC qual scope s.heap.objs.size f cd :: outer),b = s.heap.objs.size∨b ∈ frs outer:=fun b hb=>by
    have:b ∈ s.heap.objs.size :: frs outer:=hb
    exact List.mem_cons.mp this
  have e0:Env0 P w K mg base (dy CX0 P w K mg base N qual scope f cd A outer s H E).A (envOfC qual scope s.heap.objs.size f cd :: outer) s2 H3:=by
    have z:=J.env0
    refine ⟨z.frames,z.mod,fun b o e=>⟨(z.bs b o e).1,un.free b o (J.ok.bs b o e).1 (J.ok.bs b o e).2 (by simp)⟩,z.bsz,z.funs,fun b hb=>?_,hok,z.bare⟩
    cases q3:H3 b with
    | none=>rfl
    | some o =>
      obtain ⟨y,hy⟩:=hnew b (z.frf b hb) (by rw [q3]; simp)
      rcases hL b hb with rfl | hb'
      · exact absurd rfl (J.cne y _ hy)
      · obtain ⟨_,o',ho',_⟩:=J.ok.funs.mem hb'
        have:=J.ok.cab y b rfl hy
        exact absurd (Nat.lt_of_lt_of_le (Heap.lt_size ho') this) (Nat.lt_irrefl _)
  refine wpAny_call (codeAny_mono (F.run _ _ s2 H3 ⟨us,[]⟩ (us ++ ds) (vs ++ dvs) R _ hr e0 (hb s2 us J.kIn hl) r2 q') fun rr s' hq=>?_)
  cases rr with
  | error e=>exact False.elim hq
  | ok fl =>
    cases fl with
    | ret u =>
      obtain ⟨v,H4,os,bare,un2,hok4,rv,qq⟩:=hq
      have hout:∀ b o,s.heap.get? b = some o→b ∉ frs outer→b ∉ frs (envOfC qual scope s.heap.objs.size f cd :: outer):=fun b o e n z=>by
        rcases hL b z with rfl | z
        · exact absurd (Heap.lt_size e) (Nat.lt_irrefl _)
        · exact n z
      have hin:∀ b,b ∈ frs outer→b ∈ frs (envOfC qual scope s.heap.objs.size f cd :: outer):=fun b z=>by
        show b ∈ s.heap.objs.size :: frs outer
        exact List.mem_cons_of_mem _ z
      refine ⟨u,rfl,.inr ⟨v,H4,os.trans J.os,bare,⟨fun b o e n hb hx=>un2.keep b o (un.keep b o e n hb hx) (un.free b o e n hx) (hout b o e hb) hx,fun b o e n hb hx=>?_,fun b o e n hx=>?_,fun b o e hx=>?_,fun b xs e=>un2.tups b xs (un.tups b xs e),fun b o u e=>un2.frzs b o u (un.frzs b o u e),fun b qs e=>?_⟩,hok4,rv,qq⟩⟩
      · obtain ⟨sl,e1⟩:=un.slot b o e n hb hx
        obtain ⟨sl',e2⟩:=un2.slot b _ e1 (un.free b o e n hx) (hin b hb) hx
        exact ⟨sl',e2⟩
      · obtain ⟨o',e1⟩:=un.there b o e hx
        exact un2.free b o' e1 (un.free b o e n hx) hx
      · obtain ⟨o',e1⟩:=un.there b o e hx
        exact un2.there b o' e1 hx
      · obtain ⟨m1,e1⟩:=un.tbls b qs e
        obtain ⟨m2,e2⟩:=un2.tbls b _ e1
        exact ⟨m1 ++ m2,by rw [e2,Array.append_assoc]⟩
    | next=>exact False.elim hq
    | brk=>exact False.elim hq
    | cont=>exact False.elim hq
theorem Fun.okL {x qual:Str} {st:Stmt} {f c:Addr} {fd:FuncData} {N ps:List Str} {k:Nat} {sp:Sp} (F:Fun K x qual st f fd) (hc:fd.code = .ref c) (S:FnScope N ps (ac st)) (hck:∀ p ∈ (ac st).names,p.2 = .cell→(ac st).names.lookup p.1 = some .cell)
    (len:∀ vs H Q E,sp vs H Q E→vs.length = ps.length)
    (hbody:∀ (A:Around) (outer:List Env) (s:Shared) (H:Hp) (vs:List V) (Q:VK) (E:XK),Room k (A.deeper (envOfC qual (ac st) s.heap.objs.size f (.ref c)))→sp vs H Q E →
      ∃ t,PR (dy CX0 P w K mg base N qual (ac st) f (.ref c) A outer s H E).nox (af st) t∧t Q (fun v σ H'=>∀ H3,Same H' H3→kq (cellsFrom (s.heap.objs.size + 1) (ac st).names []) N σ H3→Q v H3) (start N vs) H):FnOk P w K mg base CX0 (k + 1) f fd ps sp:=by
  obtain ⟨oc,od,kV,doc,pm,an,cdv,ct,osl,rfl,lk,hcd⟩:=F.ex
  obtain rfl:cdv = .ref c:=hc
  refine ⟨len,fun A outer s H args us vs Q E hr e0 hb r hsp=>?_⟩
  have hl:=len _ _ _ _ hsp
  have KX:K.In s.heap:=e0.mod.kin.keeps fun b o e=>(e0.bs b o e).1
  have lim:s.heap.NoLimit:=e0.mod.nolimit.keeps fun b o e=>(e0.bs b o e).1
  have hkind:∀ y ∈ ps.zip us,(ac st).names.lookup y.1 = some .local∨((ac st).names.lookup y.1 = some .cell∧((cellsFrom (s.heap.objs.size + 1) (ac st).names []).lookup y.1).isSome = true):=fun ⟨n,v⟩ hy=>by
    rcases S.par n (List.of_mem_zip hy).1 with q | q
    · exact .inl q
    · exact .inr ⟨q,PySem.W.cellsFrom_some _ _ _ (.inl q)⟩
  refine codeAny_call_function hr.depth (KX _ _ lk) rfl S.co S.gen rfl (PySem.W.codeRec_of KX hcd) (hb _ _ _ _ ?_)
  refine wpAny_newFunctionEnv_cells S.kind hkind fun env he s1 x=>?_
  subst he
  refine ⟨lim.keeps x.toInCall.keep,codeAny_func ?_⟩
  obtain ⟨t,ht,hq⟩:=hbody A outer s H vs Q E (hr.deeper _) hsp
  have I:Inv (dy CX0 P w K mg base N qual (ac st) f (.ref c) A outer s H E) [] (start N vs) H s1:=i9 S hr.hd e0 hl r x
  refine wpAny_mono (ht [] s1 (start N vs) H Q _ (I.wish _) hq) (fun fl s' hs=>?_) fun e s' hs=>False.elim hs
  obtain ⟨u,rfl,⟨v,σ',H',J,rv,q⟩ | ⟨v,H',g1,g2,g3,g4,rv,q⟩⟩:=hs
  · have J:=J.unwish
    rcases q with q | q
    · exact ⟨v,H',J.os,J.bare,J.base,J.hok,rv,q⟩
    · obtain ⟨H3,h1,h2,_,h3,h4⟩:=uw S.nd hck J
      exact ⟨v,H3,J.os,J.bare,h3,h4,rv,q H3 h1 h2⟩
  · exact ⟨v,H',g1,g2,g3,g4,rv,q⟩
end
end L2
namespace L2
open PySem PySem.Spec PyProof.Rows
theorem oJ {P:Program} {w:World} {K:PySem.W.Frag} {mg mb:Str→Option Value} {CX:CXT} {k:Nat} {fa a:Addr} {fd:FuncData} {x:Str} {sp:Sp} {s₁:Shared} {vs:List Value} {ns:List Int} {ts:List Addr}
    (KX:K.In s₁.heap) (hns:s₁.heap.Ns mainGlobals mg) (hb:s₁.heap.Ns builtinsNs mb) (hbb:∀ x:Str,x ≠ "__name__" → mb x = bootBuiltins x) (hlim:s₁.heap.NoLimit) (hg:s₁.gens = #[])
    (ha:s₁.heap.get? a = some { cls:=.type "list",data:=.seq vs.toArray }) (hi:IntsAre vs ns) (hl:ns.length≤sizeLine) (hr:Room k callerA) (hbm:Bm mg s₁.heap)
    (htab:∀ P ∈ ts,s₁.heap.get? P = some (PySem.W.tabObj #[])) (htc:∀ P ∈ ts,∃ c,PySem.W.codeHdIn K c P = true) (htK:∀ P ∈ ts,K.lookup P = none)
    (F:∀ base:Heap,K.In base→base.Ns mainGlobals mg→Bm mg base→FnOk P w K mg base CX k fa fd [x] sp) (hbind:∀ (s:Shared) (u:Value),BindsTo s fd ⟨[u],[]⟩ [(x,u)])
    (hsp:∀ H:Hp,(∀ P ∈ ts,H P = some (.tbl #[]))→SqL K H a (ns.map V.int)→sp [.ref a] H (fun v _=>v = .bl true) fun _ _ _=>False)
    (hCX:∀ H e s',CX [] H s₁ (fun _ _ _=>False) e s'→False) :
    codeAny (model P w) callerA (.call (.ref fa) ⟨[.ref a],[]⟩) (fun r s'=>r = .ok (.ret (.bool true))∧OldK s₁.heap s'.heap∧s'.os = s₁.os∧AllBare s'.gens) s₁:=by
  have rv:=i8 hi
  have lenV:=hi.length
  have nat:a ∉ ts:=fun z=>by have:=htab a z; rw [ha] at this; cases this
  have core:∀ H:Hp,(∀ P ∈ ts,H P = some (.tbl #[]))→SqL K H a (ns.map V.int)→HOk P w H s₁.heap→(∀ b u,H b = some u→(b = a∧∃ o xs,u = .frz o (.lst xs))∨(b ∈ ts∧u = .tbl #[]))→(H a≠none→K.lookup a = none) →
      codeAny (model P w) callerA (.call (.ref fa) ⟨[.ref a],[]⟩) (fun r s'=>r = .ok (.ret (.bool true))∧OldK s₁.heap s'.heap∧s'.os = s₁.os∧AllBare s'.gens) s₁:=by
    intro H hT hS hok hA hK
    have base_of:∀ {b:Addr} {o:Obj},s₁.heap.get? b = some o→H b = none→(iQ s₁.heap H).get? b = some o:=fun e n=>qG e n
    have noA:∀ {b:Addr} {o:Obj},s₁.heap.get? b = some o→o.cls≠.none→(∀ its n,o.data≠.seq its n)→H b = none:=fun {b o} e d1 d2=>by
      cases q:H b with
      | none=>rfl
      | some u =>
        rcases hA b u q with ⟨rfl,_⟩ | ⟨hb,_⟩
        · rw [ha] at e; cases e; exact (d2 _ _ rfl).elim
        · rw [htab b hb] at e; cases e; exact (d1 rfl).elim
    have noD:∀ {b:Addr} {o:Obj} {es:Array DictEntry} {ep:Nat},s₁.heap.get? b = some o→o.data = .dict es ep→H b = none:=fun {b o es ep} e d=>by
      cases q:H b with
      | none=>rfl
      | some u =>
        rcases hA b u q with ⟨rfl,_⟩ | ⟨hb,_⟩
        · rw [ha] at e; cases e
          have d':Data.seq vs.toArray _ = Data.dict es ep:=d
          cases d'
        · rw [htab b hb] at e; cases e; cases d
    have nsK:∀ {b:Addr} {m:Str→Option Value},s₁.heap.Ns b m→(iQ s₁.heap H).Ns b m:=fun {b m} ⟨o,es,ep,e,d,r⟩=>⟨o,es,ep,base_of e (noD e d),d,r⟩
    have hKb:K.In (iQ s₁.heap H):=fun b o e=>base_of (KX b o e) (by
      cases q:H b with
      | none=>rfl
      | some u =>
        rcases hA b u q with ⟨rfl,_⟩ | ⟨hb,_⟩
        · rw [hK (by rw [q]; simp)] at e; cases e
        · rw [htK b hb] at e; cases e)
    have hM:Mod K mg (iQ s₁.heap H):=⟨hKb,nsK hns,⟨mb,nsK hb,hbb⟩,let ⟨mc,h1,h2⟩:=hlim; ⟨mc,nsK h1,h2⟩⟩
    have hB:Bm mg (iQ s₁.heap H):=by
      obtain ⟨bm,ob,b1,b2,b3,b4,b5⟩:=hbm
      exact ⟨bm,ob,b1,base_of b2 (noA b2 (by rw [b3]; simp) (fun its n=>by rw [b5]; intro z; cases z)),b3,b4,b5⟩
    have e0:Env0 P w K mg (iQ s₁.heap H) callerA [] s₁ H:=⟨rfl,hM,fun b o e=>tD e,Nat.le_of_eq (pF _ _),trivial,fun b hb=>absurd (show b ∈ ([]:List Addr) from hb) (by simp),hok,.of_eq hg⟩
    refine codeAny_mono ((F _ hKb (nsK hns) hB).run callerA [] s₁ H ⟨[.ref a],[]⟩ [.ref a] [.ref a] _ _ hr e0 (hbind s₁ (.ref a)) (.cons rfl .nil) (hsp H hT hS)) fun r s' h=>?_
    cases r with
    | error e=>exact (hCX H e s' h).elim
    | ok fl =>
      cases fl with
      | next=>exact False.elim h
      | brk=>exact False.elim h
      | cont=>exact False.elim h
      | ret u =>
        obtain ⟨v,H',os,bare,un,hok',r',q⟩:=h
        have q':v = .bl true:=q
        subst q'
        obtain rfl:u = Value.bool true:=r'
        refine ⟨rfl,⟨fun b o e=>?_,fun b o e=>un.there b o e (by simp)⟩,os,bare⟩
        cases q:H b with
        | none=>exact .inl (un.keep b o e q (by intro z; exact absurd (show b ∈ ([]:List Addr) from z) (by simp)) (by simp))
        | some u =>
          rcases hA b u q with ⟨_,ob,xs,rfl⟩ | ⟨hb,rfl⟩
          · have z2:=un.frzs b ob _ q
            obtain ⟨e1,_⟩:=hok b _ q
            obtain ⟨e2,_⟩:=hok' b _ z2
            rw [e] at e1; cases e1
            exact .inl e2
          · obtain ⟨c,hc⟩:=htc b hb
            have C:=PySem.W.codeHd_of_K KX hc
            obtain ⟨more,z⟩:=un.tbls b _ q
            have z2:s'.heap.get? b = some (PySem.W.tabObj (#[] ++ more)):=hok' b _ z
            rw [htab b hb] at e
            cases e
            exact .inr (.inl ⟨(C.tab (htab b hb)).isCodeTable,rfl,#[],more,rfl,z2⟩)
  let T:Hp:=fun b=>if b ∈ ts then some (.tbl #[]) else none
  cases hk:K.lookup a with
  | some o =>
    have e:=KX a o hk
    rw [ha] at e
    cases e
    refine core T (fun P hP=>if_pos hP) (.inr ⟨_,vs.toArray,_,hk,rfl,rfl,rfl,by rw [List.size_toArray,lenV]; exact hl,by simpa using rv⟩) (fun b u z=>?_) (fun b u z=>?_) fun z=>absurd (if_neg nat) z
    · by_cases hb:b ∈ ts
      · have z':=(if_pos hb).symm.trans z
        cases z'
        exact htab b hb
      · have z':=(if_neg hb).symm.trans z
        cases z'
    · by_cases hb:b ∈ ts
      · have z':=(if_pos hb).symm.trans z
        cases z'
        exact .inr ⟨hb,rfl⟩
      · have z':=(if_neg hb).symm.trans z
        cases z'
  | none =>
    refine core (fun b=>if b = a then some (.frz { cls:=.type "list",data:=.seq vs.toArray } (.lst (ns.map V.int))) else T b) (fun P hP=>?_) (.inl (.inr ⟨{ cls:=.type "list",data:=.seq vs.toArray },if_pos rfl⟩)) (fun b u z=>?_) (fun b u z=>?_) fun _=>hk
    · have hne:P≠a:=fun z=>nat (by rw [← z]; exact hP)
      exact (if_neg hne).trans (if_pos hP)
    · by_cases hb:b = a
      · have z':=(if_pos hb).symm.trans z
        cases z'
        subst hb
        exact ⟨ha,by rw [List.length_map]; exact hl,vs,_,rv,ha⟩
      · have z':=(if_neg hb).symm.trans z
        by_cases hb:b ∈ ts
        · have z':=(if_pos hb).symm.trans z'
          cases z'
          exact htab b hb
        · have z':=(if_neg hb).symm.trans z'
          cases z'
    · by_cases hb:b = a
      · have z':=(if_pos hb).symm.trans z
        cases z'
        exact .inl ⟨hb,_,_,rfl⟩
      · have z':=(if_neg hb).symm.trans z
        by_cases hb:b ∈ ts
        · have z':=(if_pos hb).symm.trans z'
          cases z'
          exact .inr ⟨hb,rfl⟩
        · have z':=(if_neg hb).symm.trans z'
          cases z'
theorem walk_ofT {l:PySem.W.OpenLaw} {n k:Nat} {q:Program} {loose:List Str} {XP:(Str→Option Value)→Heap→Prop} {YP:World→Heap→Prop} {d:DefRec} {K:Params→PySem.W.Frag} {CX:CXT} {sp:PySem.W.Frag→List Addr→Sp} {x:Str} {ts:List Addr}
    (hn:l.most = some n) (hn2:n≤sizeLine) (hdf:d.params.defaults = []) (hr:Room k callerA)
    (hY:∀ (w:World) (h:Heap),YP w h→(K w.params).In h∧∀ P ∈ ts,h.get? P = some (PySem.W.tabObj #[]))
    (F:∀ (ts':List Addr),ts' = ts→∀ (w:World) (mg:Str→Option Value) (fa:Addr) (h:Heap),(K w.params).In h→h.Ns mainGlobals mg→mg d.name = some (.ref fa) →
      ∃ fd:FuncData,(∀ (s:Shared) (u:Value),BindsTo s fd ⟨[u],[]⟩ [(x,u)])∧(∀ P ∈ ts,∃ c,PySem.W.codeHdIn (K w.params) c P = true)∧(∀ P ∈ ts,(K w.params).lookup P = none) ∧
        ∀ base:Heap,(K w.params).In base→base.Ns mainGlobals mg→Bm mg base→FnOk l.prog w (K w.params) mg base CX k fa fd [x] (sp (K w.params) ts))
    (hsp:∀ (K:PySem.W.Frag) (H:Hp) (a:Addr) (ns:List Int),ns.length≤n→(∀ P ∈ ts,H P = some (.tbl #[]))→SqL K H a (ns.map V.int)→sp K ts [.ref a] H (fun v _=>v = .bl true) fun _ _ _=>False)
    (hCX:∀ (H:Hp) (s:Shared) (e:Value) (s':Shared),CX [] H s (fun _ _ _=>False) e s'→False) :
    PySem.W.WalkO q loose XP YP l.row.toRowW d [] (fun f vs=>PySem.call f vs):=by
  refine Att.attach_call hn hdf fun w s₀ s₁ mg mb fa o pm cd doc a vs ns G Y ho hd hcd hmg hobj hints hlen hg=>?_
  obtain ⟨KX,hT⟩:=hY w _ Y
  obtain ⟨fd,hb,htc,htK,hF⟩:=F ts rfl w mg fa _ KX G.T.g hmg
  have hbm:Bm mg s₁.heap:=let ⟨bm,ob,b1,_,b3,b4,b5,b6⟩:=G.T.bmain; ⟨bm,ob,b1,b3,b4,b5,b6⟩
  exact oJ KX G.T.g G.T.b G.T.builtins G.T.nolimit hg hobj hints (Nat.le_trans hlen hn2) hr hbm hT htc htK hF hb (fun H hO hS=>hsp (K w.params) H a ns hlen hO hS) fun H e s'=>hCX H s₁ e s'
end L2
namespace FrM
def dN (t b:Int):Int×Int:=(t / (Int.gcd t b:Int),b / (Int.gcd t b:Int))
def sz (z:List Int) (k:Nat):Int:=z.getD k 0
def wR (z:List Int) (l:List Nat):Int:=(l.map (sz z)).sum
def stay (z:List Int) (l:List Nat) (w:Int):List Nat:=l.filter fun k=>decide (sz z k * w < wR z l)
theorem ug (z:List Int) (l:List Nat) (w:Int):(stay z l w).length≤l.length:=List.length_filter_le _ _
def fin (z:List Int) (l:List Nat) (w:Int):List Nat×Int :=
  if (stay z l w).length = l.length then (l,w) else fin z (stay z l w) (w - ((l.length:Int) - ((stay z l w).length:Int)))
termination_by l.length
decreasing_by
  have:=ug z l w
  lia
structure Rnd (z:List Int) (n:Nat) (m:Int) (l:List Nat) (w:Int):Prop where
  pos:0 < l.length
  sub:∀ k ∈ l,k < n
  lt:w < l.length
  dif:w - l.length = m - n
  fil:l = (List.range n).filter fun k=>decide (k ∈ l)
theorem Rnd.len {z:List Int} {n:Nat} {m:Int} {l:List Nat} {w:Int} (h:Rnd z n m l w):l.length≤n:=by
  have e:=congrArg List.length h.fil
  have:=List.length_filter_le (fun k=>decide (k ∈ l)) (List.range n)
  rw [List.length_range] at this
  lia
structure Top (m:Int) (n:Nat) (S:Int) (N:Nat→Int):Prop where
  pos:0 < S
  all:((List.range n).map N).sum = m * S
def due (z:List Int) (m:Int):List (Int×Int) :=
  if (z.length:Int)≤m then z.map fun _=>(1,1) else if m = 0 then z.map fun _=>(0,1)
  else (List.range z.length).map fun k=>if decide (k ∈ (fin z (List.range z.length) m).1) = true then dN (sz z k * (fin z (List.range z.length) m).2) (wR z (fin z (List.range z.length) m).1) else (1,1)
end FrM
namespace L2
open PySem PySem.Spec PyProof.Rows
def j2:List V→List Value→Bool
  | [],[]=>true
  | .int i :: xs,.int j _ :: us=>decide (i = j) && j2 xs us
  | _,_=>false
theorem gv:∀ {xs:List V} {us:List Value},j2 xs us = true→Vals xs us
  | [],[],_=>.nil
  | .int i :: xs,.int j t :: us,h=>by
    rw [j2,Bool.and_eq_true] at h
    have e:=of_decide_eq_true h.1
    exact .cons ⟨t,by rw [e]⟩ (gv h.2)
def fQ (K:PySem.W.Frag) (a:Addr) (xs:List V):Bool :=
  match K.lookup a with
  | some o =>
    (match o.cls with
    | .type t=>t == "tuple"
    | _=>false) &&
    (match o.data with
    | .seq its _=>decide (its.size≤1000) && j2 xs its.toList
    | _=>false)
  | none=>false
theorem pN {K:PySem.W.Frag} {H:Hp} {a:Addr} {xs:List V} (h:fQ K a xs = true):SqT K H a xs:=by
  unfold fQ at h
  split at h
  · rename_i o e
    rw [Bool.and_eq_true] at h
    obtain ⟨h1,h2⟩:=h
    split at h1
    · rename_i t ec
      split at h2
      · rename_i its n ed
        rw [Bool.and_eq_true] at h2
        refine .inr ⟨o,its,n,e,by rw [ec,beq_iff_eq.mp h1],ed,?_,gv h2.2⟩
        have:=of_decide_eq_true h2.1
        have:sizeLine = 16777216:=sizeLine_eq
        omega
      · cases h2
    · cases h1
  · cases h
def TyS (K:PySem.W.Frag) (H:Hp) (x:V) (t:Value):Prop:=TyOf K H x t∨∃ a xs,x = .ref a∧t = .type "tuple" ∧ SqT K H a xs
section
variable {X:Cx}
open PySem.W in
theorem sC {pins:List (Addr×Obj)} {σ:St} {H:Hp} {s:Shared} {x:V} {u t:Value} (I:Inv X pins σ H s) (rx:RelV x u) (ty:TyS X.K H x t) :
    ∃ Hh:Heap→Prop,KitX X.K u t Hh∧Hh s.heap∧u≠.builtin "__main__.__loader__#opaque" := by
  rcases ty with ty | ⟨a,xs,rfl,rfl,hq⟩
  · exact mJ I rx ty
  · cases (show u = Value.ref a from rx)
    obtain ⟨its,rv,p,hz⟩:=I.tuple hq
    exact ⟨_,PySem.W.kitx_tuple,let ⟨o,e,c,_⟩:=p; ⟨o,e,c⟩,fun z=>nomatch z⟩
def yW (K:PySem.W.Frag):List V→Hp→VK→Prop:=fun xs H Q=>∃ x c t b,xs = [x,c]∧kW c = true∧TyS K H x t∧PySem.W.kitOne K t (pL c) = some b∧Q (.bl b) H
theorem qx:CallR X (.builtin "isinstance") (yW X.K):=by
  intro pins s σ H xs us Q I r h
  obtain ⟨x,c,t,b,rfl,hc,ty,e,q⟩:=h
  obtain ⟨u,w',rfl,rx,rc⟩:=oj r
  cases mO hc rc
  obtain ⟨Hh,Z,p,hx⟩:=sC I rx ty
  exact PySem.W.kia_one Z I.kIn p e hx fun tk=>⟨.bl b,H,I.tok tk,rfl,q⟩
theorem wy:bootBuiltins "sum" = some (.builtin "sum"):=by decide +kernel
theorem eG:∀ {ns:List Int} {us:List Value},Vals (ns.map V.int) us→IntsAre us ns
  | [],_,.nil=>.nil
  | n :: ns,_,.cons r t=>by
    obtain ⟨t',rfl⟩:=r
    exact .cons _ _ (eG t)
inductive rSumI (K:PySem.W.Frag) (xs:List V) (H:Hp) (Q:VK):Prop
  | mk (p:Addr) (ns:List Int) (h0:xs = [.ref p]) (h1:SqL K H p (ns.map V.int)) (h2:Q (.int ns.sum) H):rSumI K xs H Q
theorem pv (hc:X.calm = true):CallR X (.builtin "sum") (rSumI X.K):=by
  intro pins s σ H xs us Q I r h
  obtain ⟨p,ns,rfl,hq,q⟩:=h
  obtain ⟨u,rfl,rx⟩:=eF r
  cases rx
  obtain ⟨its,rv,pl,hz⟩:=I.list hq
  have hi:=eG rv
  obtain ⟨xs,ex⟩:=hi.allInts.items
  have e2:(numsOf its) = ns:=hi.numsOf
  refine sum_intListG (I.ok.hd hc) (xs:=xs) (by rw [← ex]; exact pl.isList) fun h' tk t' hk=>?_
  have e3:preSum (numAt xs) xs.size = ns.sum:=by
    rw [preSum_eq,List.take_of_length_le (by simp),← e2,← nums_intItems,← ex]
  rw [e3]
  exact ⟨.int ns.sum,H,I.kept hk,⟨_,rfl⟩,q⟩
theorem fM (hc:X.calm = true):CallR X (.type "list") (fun xs H Q=>∃ (p:Addr) (n:Nat),xs = [.ref p]∧n≤1000∧H p = some (.rng 0 (n:Int))∧∀ l,H l = none→Q (.ref l) (upd H l (.lst ((List.range n).map fun (i:Nat)=>V.int (i:Int))))):=by
  intro pins s σ H xs us Q I r h
  obtain ⟨p,n,rfl,hn,e,q⟩:=h
  obtain ⟨u,rfl,ru⟩:=eF r
  cases ru
  obtain ⟨t,t2,t3,ho⟩:=(show ObjOk X.prog X.w H s.heap p (.rng 0 (n:Int)) from I.hok p _ e)
  refine call_list_range (n:=n) (I.ok.hd hc) ho (small_one (by decide) (by decide) (by omega) (by omega)) (by rw [rangeSize_one]; split <;> omega) (by omega) fun h' tk acc c hk hS hI=>?_
  refine ⟨.ref s.heap.objs.size,_,I.laid (t':=tk) (o:=.lst ((List.range n).map fun (i:Nat)=>V.int (i:Int))) hk (Nat.le_refl _) ?_,rfl,q _ (I.hok.fresh (Nat.le_refl _))⟩
  obtain ⟨z1,z2⟩:=hI
  refine ⟨by rw [List.length_map,List.length_range,sizeLine_eq]; omega,acc.toList,c,mR (by rw [List.length_map,List.length_range]; simpa using z1.symm) fun i x u hx hu=>?_,hS⟩
  rw [List.getElem?_map] at hx
  have hi:i < n:=by
    by_cases hi:i < n
    · exact hi
    · rw [List.getElem?_eq_none (by rw [List.length_range]; omega)] at hx
      cases hx
  rw [List.getElem?_range hi] at hx
  cases hx
  obtain ⟨tt,hv⟩:=z2 i u (by simpa using hu)
  refine (show ∃ t',u = Value.int (i:Int) t' from ⟨tt,?_⟩)
  rw [hv]
  congr 1
  omega
def pq (lo c:Int) (n:Nat):It:=⟨fun i _=>i < n,fun i H x H'=>H' = H∧x = .int (lo + i * c),fun i _=>n≤i⟩
theorem kr {P:Program} {w:World} {K:PySem.W.Frag} {tg:Expr} (it:Addr) (lo c:Int) (n:Nat):Turn P w K tg (pq lo c n) [it] it (fun i h=>IsRangeIter h it (lo + (i:Nat) * c) ((n:Int) - (i:Nat)) c) where
  mem:=by simp
  obj:=fun i h st b hb=>by
    have e:b = it:=by simpa using hb
    subst e
    exact ⟨_,st,fun v z=>by
      have z':Data.fields _ = Data.cell v:=z
      cases z'⟩
  keep:=fun i h h' st k=>k it (by simp) _ st
  item:=by
    intro X hP hw hK hc i pins s σ H E I hf st hg
    subst hP hw hK
    obtain ⟨f0,f1,f2,f3,f4,f5⟩:=hf it (by simp)
    have W:=Walks.range (prog:=X.prog) (w:=X.w) (I.ok.hd hc) it lo c n
    refine W.item i s _ _ hg st fun v h' tk hv st' kk=>?_
    obtain ⟨t,rfl⟩:=hv
    have I1:Inv X pins σ H { s with heap:=h',toks:=tk }:=I.turned (fun b o hb e=>kk b o (by simpa using hb) e) f0 f1 f3 f4 f5
    exact ⟨_,rfl,iS (s:={ s with heap:=h',toks:=tk }) (n := "range_iterator") st' rfl rfl (by decide) ⟨.int (lo + i * c),H,I1,⟨t,rfl⟩,⟨rfl,rfl⟩,st',fun b hb=>(hf b hb).1⟩⟩
  done:=by
    intro X hP hw hK hc i pins s σ H E I hf st hg
    subst hP hw hK
    obtain ⟨f0,f1,f2,f3,f4,f5⟩:=hf it (by simp)
    exact wpAny_pyNext_range_end (I.ok.hd hc) st (by have:n≤i:=hg; omega) fun h' eb=>⟨rfl,I.turned (t':=s.toks) (fun b o hb e=>eb b o hb e) f0 f1 f3 f4 f5⟩
  self:=fun _ _ _ _ _ st h=>wpAny_pyIter_rangeiter st h
theorem pi {a b:Int} (ha:0≤a) (ha':a < 2 ^ 60) (hb:-(2 ^ 60)≤b) (hb':b < 2 ^ 60):Builtin.Range.small a b 2 = true:=by
  unfold Builtin.Range.small Builtin.Range.rangeSize
  simp only [Builtin.Range.rangeFitsLong,Bool.and_eq_true,Bool.or_eq_true,decide_eq_true_eq,beq_iff_eq,show (2:Int) > 0 by decide,if_true]
  split <;> omega
def gx (i j:Int):Nat:=(Builtin.Range.rangeSize i j 2).toNat
theorem rN (i j:Int):((gx i j:Nat):Int) = Builtin.Range.rangeSize i j 2:=by
  unfold gx Builtin.Range.rangeSize
  simp only [show (2:Int) > 0 by decide,if_true]
  split <;> omega
def wL (ta:TA):TI:=fun σ H R=>ta σ H fun vs H1=>∃ i j:Int,vs = [.int i,.int j,.int 2]∧(0≤i∧i < 2 ^ 60∧-(2 ^ 60)≤j∧j < 2 ^ 60)∧R (pq i 2 (gx i j)) H1
theorem pC {tg:Expr} {pins:List (Addr×Obj)} {σ:St} {H:Hp} {s:Shared} {R:It→Hp→Prop} {E:Value→Shared→Prop} {lo hi:Int} {t u v:Tok} {tk:Nat} (I:Inv X pins σ H s) (h1:0≤lo) (h2:lo < 2 ^ 60) (h3:-(2 ^ 60)≤hi) (h4:hi < 2 ^ 60)
    (q:R (pq lo 2 (gx lo hi)) H):wpAny (model X.prog X.w) X.A (pyIter (.ref s.heap.objs.size)) (PIE X pins σ tg R) E { s with heap:=s.heap.push { cls:=.type "range",data:=.fields #[.int lo t,.int hi u,.int 2 v] },toks:=tk }:=by
  refine wpAny_pyIter_range (IsRange.new ..) (pi h1 h2 h3 h4) ?_
  have I1:Inv X pins σ H { s with heap:=s.heap.push { cls:=.type "range",data:=.fields #[.int lo t,.int hi u,.int 2 v] },toks:=tk }:=I.kept fun b o e=>Heap.get?_push_of_some _ e
  refine ⟨(s.heap.push { cls:=.type "range",data:=.fields #[.int lo t,.int hi u,.int 2 v] }).objs.size,[(s.heap.push { cls:=.type "range",data:=.fields #[.int lo t,.int hi u,.int 2 v] }).objs.size],_,_,H,rfl,
    I1.kept (t':=tk) fun b o e=>Heap.get?_push_of_some _ e,kr _ lo 2 (gx lo hi),?_,fun b hb=>?_,q⟩
  · have e1:lo + ((0:Nat):Int) * 2 = lo:=by simp
    have e2:((gx lo hi:Nat):Int) - ((0:Nat):Int) = Builtin.Range.rangeSize lo hi 2:=by rw [rN]; simp
    show IsRangeIter _ _ (lo + ((0:Nat):Int) * 2) (((gx lo hi:Nat):Int) - ((0:Nat):Int)) 2
    rw [e1,e2]
    exact Heap.get?_push_size _ rfl
  · have e:b = (s.heap.push { cls:=.type "range",data:=.fields #[.int lo t,.int hi u,.int 2 v] }).objs.size:=by simpa using hb
    subst e
    exact I1.fpOk (Nat.le_refl _) (I1.hok.fresh (Nat.le_refl _))
theorem o8 {tg a b c:Expr} {ta:TA} {p pos:Pos} (hg:Gl X "range") (hm:X.mg "range" = none) (ha:PA X [a,b,c] ta) (hs:starEach [a,b,c] X.env = [(false,eval a X.env),(false,eval b X.env),(false,eval c X.env)]:=by rfl) (hs2:starEach [b,c] X.env = [(false,eval b X.env),(false,eval c X.env)]:=by rfl) :
    PI X tg (.Call (.Name "range" p) [a,b,c] [] pos) (wL ta):=by
  intro pins s σ H R I h
  refine Call_ (gg I hg hm boot_range (PyProof.Rows.callWith_type1 (thn (ha pos pins s σ H _ I h) fun us s1 ⟨vs,H1,I1,r1,q1⟩=>?_) (by rw [hs,hs2]) (by rw [hs2]; rfl)))
  obtain ⟨i,j,e,⟨q1,q2,q3,q4⟩,q⟩:=q1
  subst e
  cases r1 with
  | cons r rr =>
    cases rr with
    | cons r' rr =>
      cases rr with
      | cons r'' rr =>
        cases rr
        obtain ⟨t,rfl⟩:=r
        obtain ⟨t',rfl⟩:=r'
        obtain ⟨t'',rfl⟩:=r''
        exact call_range_3 (by decide) (pC I1 q1 q2 q3 q4 q) (.inl (PyProof.noPylong_of_log2 (by decide +kernel)))
theorem lW {lo c:Int} {n:Nat} {g:TG} {tb:TS} {D:Ends} {σ:St} {H:Hp} (Pv:Nat→St→Hp→Prop) (h0:Pv 0 σ H)
    (hs:∀ i σ H,i < n→Pv i σ H→g (.int (lo + i * c)) σ H fun σ2 H2=>tb { D with nx:=Pv (i + 1),ct:=Pv (i + 1),bk:=D.nx } σ2 H2) (hd:∀ σ H,Pv n σ H→D.nx σ H) :
    ∃ W:Nat→Nat→St→Hp→Prop,(∃ m,W 0 m σ H)∧∀ i m σ H,W i m σ H →
      ((pq lo c n).stop i H∧D.nx σ H)∨((pq lo c n).go i H∧∃ N:St→Hp→Prop,(∀ σ' H',N σ' H'→∃ m',m' < m∧W (i + 1) m' σ' H')∧∀ x H',(pq lo c n).yld i H x H'→g x σ H' fun σ2 H2=>tb { D with nx:=N,ct:=N,bk:=D.nx } σ2 H2):=by
  refine ⟨fun i m σ H=>m = n - i∧i≤n∧Pv i σ H,⟨n,by simp,Nat.zero_le _,h0⟩,?_⟩
  rintro i m σ H ⟨rfl,hi,p⟩
  by_cases hlt:i < n
  · refine .inr ⟨hlt,Pv (i + 1),fun σ' H' p'=>⟨n - (i + 1),by omega,rfl,hlt,p'⟩,fun x H' y=>?_⟩
    obtain ⟨e,y⟩:=y
    subst e y
    exact hs i σ _ hlt p
  · have e:i = n:=by omega
    subst e
    exact .inl ⟨Nat.le_refl _,hd σ H p⟩
end
end L2
namespace L2
open PySem PySem.Spec PyProof.Rows
def dE:Expr:=.Name "" ⟨0,0,0,0⟩
def tu (st:Stmt) (i:Nat):Stmt:=(af st).getD i (.Pass ⟨0,0,0,0⟩)
def sr:Stmt→Expr
  | .Return (some e) _=>e
  | _=>dE
def vO:Expr→Nat→Expr
  | .Call _ es _ _,i=>es.getD i dE
  | _,_=>dE
def xU:Expr→Nat→Expr
  | .List es _,i=>es.getD i dE
  | _,_=>dE
def wI:Expr→Nat→Expr
  | .Tuple es _ _,i=>es.getD i dE
  | _,_=>dE
def nJ (q:Str):Expr→LamD
  | .Lambda p b s _=>⟨q,p,b,s⟩
  | _=>⟨q,default,dE,default⟩
def tw:Expr→Pos
  | .Lambda _ _ _ p=>p
  | _=>⟨0,0,0,0⟩
theorem o6:bootBuiltins "sorted" = some (.builtin "sorted"):=by decide +kernel
theorem fT:∀ {us:List Value} {ns:List Int},IntsAre us ns→Vals (ns.map V.int) us
  | _,_,.nil=>.nil
  | _,_,.cons n t h=>.cons ⟨_,rfl⟩ (fT h)
theorem jG {X:Cx}:CallR X (.builtin "sorted") (fun xs H Q=>∃ (p:Addr) (ns:List Int),xs = [.ref p]∧SqL X.K H p (ns.map V.int)∧ns.length < 64∧∀ q (ns':List Int),ns'.Perm ns→ns'.Pairwise (·≤·)→H q = none→Q (.ref q) (upd H q (.lst (ns'.map V.int)))):=by
  intro pins s σ H xs us Q I r h
  obtain ⟨p,ns,rfl,hq,hl,q⟩:=h
  obtain ⟨u,rfl,rx⟩:=eF r
  cases rx
  obtain ⟨its,rv,pl,hz⟩:=I.list hq
  have hi:=eG rv
  have hlen:its.length = ns.length:=by have:=rv.length; rw [List.length_map] at this; exact this.symm
  refine sorted_ints pl.isList hi (by omega) fun out ns' a1 a2 a3=>?_
  obtain ⟨e,he⟩:=sortedAll_at s.heap its out
  have hn:H (s.heap.objs.size + 1) = none:=I.hok.fresh (Nat.le_succ _)
  have small:sizeLine = 16777216:=sizeLine_eq
  refine ⟨.ref (s.heap.objs.size + 1),_,I.laid (a:=s.heap.objs.size + 1) (o:=.lst (ns'.map V.int)) (t':=s.toks) (fun b u z=>sortedAll_old z) (Nat.le_succ _) ⟨?_,out.toList,e,fT a1,?_⟩,rfl,q _ ns' a2 a3 hn⟩
  · rw [List.length_map,a2.length_eq]; omega
  · rw [he,Array.toArray_toList]
end L2
namespace L2
open PySem PySem.Spec PyProof.Rows
structure Lnd (X:Cx) (pins:List (Addr×Obj)) (σ:St) (H:Hp) (s:Shared) (x D:Addr) (dct:Option Addr) (T:Addr) (H':Hp) (s':Shared) (T4:Addr) (h5:Heap):Prop where
  I:Inv X pins σ H s
  G:XG X.prog X.w X.stack H s x D dct T H' s'
  k:KeptBut ([T,x] ++ [T4]) (frs X.stack) s'.heap h5
  hxs:∀ b,b = T∨b = x∨b = T4→s.heap.get? b = none∧H' b = none∧b ∉ frs X.stack
  fx:Fx h5 x (.ref D) dct .none T4
abbrev TH:=Addr→Option Addr→Addr→Ends→St→Hp→Prop
def PH (X:Cx) (hs:List ExceptHandler) (th:TH):Prop :=
  ∀ (pins:List (Addr×Obj)) (σ:St) (H:Hp) (s:Shared) (x D:Addr) (dct:Option Addr) (T:Addr) (H':Hp) (s':Shared) (T4:Addr) (h5:Heap) (DE:Ends),Lnd X pins σ H s x D dct T H' s' T4 h5→th D dct x DE σ (upd H' x (.ext (XCt x D dct))) →
    wpAny (model X.prog X.w) X.A (handleBy (.ref x) X.env hs) (SP X pins DE) X.xe { s' with heap:=h5 }
section
variable {X:Cx} {C:Addr} {cn en:Str} {ie:Nat} {b₀:Stmt} {suite:List Stmt} {cp hp:Pos} {ts:TS} {rest:List ExceptHandler} {tr:TH}
end
def HX (X:Cx) (pins:List (Addr×Obj)) (hr:Value→Option Addr→St→Hp→Prop) (e:Value) (s':Shared):Prop:=∃ σ H s,Inv X pins σ H s∧CXG X.prog X.w X.stack H s (fun c d H'=>hr c d σ H') e s'
abbrev TB:=(St→Hp→Prop)→VK→(Value→Option Addr→St→Hp→Prop)→St→Hp→Prop
def PB1 (X:Cx) (st:Stmt) (t:TB):Prop :=
  ∀ (pins:List (Addr×Obj)) (s:Shared) (σ:St) (H:Hp) (nx:St→Hp→Prop) (rt:VK) (hr:Value→Option Addr→St→Hp→Prop),Inv X pins σ H s→t nx rt hr σ H→wpAny (model X.prog X.w) X.A (exec st X.env) (SP X pins { nx:=nx,rt:=rt }) (HX X pins hr) s
def PB (X:Cx) (sts:List Stmt) (t:TB):Prop :=
  ∀ (pins:List (Addr×Obj)) (s:Shared) (σ:St) (H:Hp) (nx:St→Hp→Prop) (rt:VK) (hr:Value→Option Addr→St→Hp→Prop),Inv X pins σ H s→t nx rt hr σ H→wpAny (model X.prog X.w) X.A (execs sts X.env) (SP X pins { nx:=nx,rt:=rt }) (HX X pins hr) s
section
variable {X:Cx}
def PX (X:Cx) (e:Expr) (t:VK→XK→St→Hp→Prop):Prop :=
  ∀ (pins:List (Addr×Obj)) (s:Shared) (σ:St) (H:Hp) (Q:VK) (E:XK),Inv X pins σ H s→t Q E σ H →
    wpAny (model X.prog X.w) X.A (eval e X.env) (EP X pins σ Q) (fun e s'=>∃ H1 s1,Inv X pins σ H1 s1∧CXG X.prog X.w X.stack H1 s1 E e s') s
end
section
variable {X:Cx} {k:Nat} {f C:Addr} {fd:FuncData} {ps:List Str} {sp:Sp} {dvs:List V} {ds:List Value} {x m:Str} {p pos apos:Pos} {e o:Expr} {es:List Expr} {ta:TE} {t:TA}
end
end L2
namespace L2
open PySem PySem.Spec PyProof.Rows
def PAX (X:Cx) (es:List Expr) (t:(List V→Hp→Prop)→XK→St→Hp→Prop):Prop :=
  ∀ (pos:Pos) (pins:List (Addr×Obj)) (s:Shared) (σ:St) (H:Hp) (Q:List V→Hp→Prop) (E:XK),Inv X pins σ H s→t Q E σ H →
    wpAny (model X.prog X.w) X.A (spliced (backTo pos (starEach es X.env))) (AP X pins σ Q) (fun e s'=>∃ H1 s1,Inv X pins σ H1 s1∧CXG X.prog X.w X.stack H1 s1 E e s') s
section
variable {X:Cx} {e:Expr} {es:List Expr} {pos:Pos}
theorem wq {K:PySem.W.Frag} (h:X.K = K) (hu:X.A.units + 64 < cLine):OpR X (compareOp .Eq) (rEqD K false):=h ▸ qJ hu
end
end L2
namespace L2
open PySem PySem.Spec PyProof.Rows PySem.W
def DE (h:Heap) (d:Addr) (es:Array DictEntry) (ep:Nat):Prop:=∃ o,h.get? d = some o∧o.ExactDict∧o.data = .dict es ep
theorem DE.ty {s:Shared} {d:Addr} {es:Array DictEntry} {ep:Nat} (x:DE s.heap d es ep):s.TypeIs (.ref d) "dict" := let ⟨o,e,c,_⟩:=x; ⟨o,e,c.1⟩
section
variable {prog:Program} {w:World} {A:Around} {E:Value→Shared→Prop} {s:Shared} {d I:Addr} {es:Array DictEntry} {ep i:Nat}
def zL (es:Array DictEntry):List Value:=es.toList.map (·.key)
end
section
variable {X:Cx}
theorem KT.at {H:Hp}:∀ {kvs:List (List Key×V)} {xs:List (List Key×Addr×Value)} {i:Nat} {kv:List Key×V},KT H kvs xs→kvs[i]? = some kv→∃ x,xs[i]? = some x∧H x.2.1 = some (.tup (kv.1.map kV))
  | _,_,_,_,.nil,h=>by cases h
  | _,_,0,_,.cons r t,h=>by cases h; exact ⟨_,rfl,r.2.1⟩
  | _,_,i + 1,_,.cons r t,h=>KT.at (i:=i) t h
end
end L2
namespace L2
open PySem PySem.Spec PyProof.Rows PySem.W
section
variable {X:Cx} {pins:List (Addr×Obj)} {σ:St} {H:Hp} {s:Shared} {a:Addr} {kvs:List (List Key×V)} {o:Obj}
theorem Inv.freeze (I:Inv X pins σ H s) (h:Rd H a (.dT kvs)) (ho:s.heap.get? a = some o):Inv X pins σ (upd H a (.frz o (.dT kvs))) s:=by
  have hok:=h.ok I.hok
  have hs:∃ u,H a = some u:=by rcases h with e | ⟨_,e⟩ <;> exact ⟨_,e⟩
  have nn:∀ {b},H b = none→b≠a:=fun {b} e z=>by subst z; obtain ⟨u,q⟩:=hs; rw [e] at q; cases q
  have nt:∀ {b xs},H b = some (.tup xs)→b≠a:=fun {b xs} e z=>by subst z; rcases h with q | ⟨_,q⟩ <;> (rw [e] at q; cases q)
  have no:∀ {b y},H b = some (.own y)→b≠a:=fun {b y} e z=>by subst z; rcases h with q | ⟨_,q⟩ <;> (rw [e] at q; cases q)
  have nb:∀ {b ps},H b = some (.tbl ps)→b≠a:=fun {b ps} e z=>by subst z; rcases h with q | ⟨_,q⟩ <;> (rw [e] at q; cases q)
  have fz:∀ b u v,H b = some (.frz u v)→(upd H a (.frz o (.dT kvs))) b = some (.frz u v):=fun b u v e=>by
    by_cases c:b = a
    · subst c
      rcases h with q | ⟨o',q⟩
      · rw [e] at q; cases q
      · rw [e] at q
        cases q
        obtain ⟨g,_⟩:=(show ObjOk X.prog X.w H s.heap b (.frz u (.dT kvs)) from I.hok b _ e)
        rw [ho] at g
        cases g
        exact ad
    · rw [ai c]; exact e
  refine ⟨I.ok,I.os,I.bare,⟨I.base.keep,I.base.slot,fun b u e n hx=>?_,I.base.there,fun b xs e=>?_,fun b u v e=>fz b u v (I.base.frzs b u v e),fun b ps e=>?_⟩,I.loc,I.cell,?_,fun x c e=>?_,fun p hp=>?_,fun b u e=>?_,I.len⟩
  · have:=I.base.free b u e n hx; rw [ai (nn this)]; exact this
  · have:=I.base.tups b xs e; rw [ai (nt this)]; exact this
  · obtain ⟨more,z⟩:=I.base.tbls b ps e; exact ⟨more,by rw [ai (nb z)]; exact z⟩
  · rw [ai (nn I.free)]; exact I.free
  · rw [ai (nn (I.freeC x c e))]; exact I.freeC x c e
  · obtain ⟨g1,g2,g3⟩:=I.pin p hp; exact ⟨g1,by rw [ai (nn g2)]; exact g2,g3⟩
  · by_cases hb:b = a
    · subst hb
      rw [ad] at e
      cases e
      exact ⟨ho,hok.stay (fun _ _ _ q=>q) (fun c q=>by rw [ai (no q)]; exact q) fun c xs q=>by rw [ai (nt q)]; exact q⟩
    · rw [ai hb] at e
      exact (I.hok b u e).stay (fun _ _ _ q=>q) (fun c q=>by rw [ai (no q)]; exact q) fun c xs q=>by rw [ai (nt q)]; exact q
end
def Itd (d:Addr) (o:Obj) (kvs:List (List Key×V)):It :=
  ⟨fun i H=>H d = some (.frz o (.dT kvs))∧i < kvs.length,fun i H x H'=>H' = H∧∃ b kv,kvs[i]? = some kv∧x = .ref b∧H b = some (.tup (kv.1.map kV)),fun i H=>H d = some (.frz o (.dT kvs))∧kvs.length≤i⟩
theorem mL {P:Program} {w:World} {H:Hp} {h:Heap} {d:Addr} {o:Obj} {kvs:List (List Key×V)} (ok:HOk P w H h) (e:H d = some (.frz o (.dT kvs))):∃ xs es ep,KT H kvs xs∧h.get? d = some o∧o.ExactDict∧o.data = .dict es ep∧es.toList = xs.map (entryOfKey (tupleKind (bE P w)))∧(d == sysModules) = false:=by
  obtain ⟨g,z,y,xs,r,o',es,ep,h1,h2,h3,h4,h5⟩:=(show ObjOk P w H h d (.frz o (.dT kvs)) from ok d _ e)
  rw [g] at h1
  cases h1
  exact ⟨xs,es,ep,r,g,h2,h3,h4,y⟩
end L2
namespace L2
open PySem PySem.Spec PyProof.Rows PySem.W
section
variable {prog:Program} {w:World} {A:Around} {E:Value→Shared→Prop} {s:Shared} {d I v:Addr} {es:Array DictEntry} {ep i:Nat} {k0 v0:Value}
theorem sQ (nm:(d == sysModules) = false):MeetsIn prog w (Builtin.«dict.items» ⟨[.ref d],[]⟩) (fun _ R s=>DE s.heap d es ep ∧
    R (.ok (.ret (.ref s.heap.objs.size))) { s with heap:=s.heap.push { cls:=.type "dict_items",data:=.fields #[.ref d] } }):=.of_wp fun A R s ⟨x,h⟩=>by
  unfold Builtin.«dict.items»; refine wpAny_bind ?_
  unfold Builtin.Dict.noArgs; refine wpAny_bind (wpAny_notOrdered_dict x.ty ?_)
  show wpAny _ _ (pure d) _ _ s; refine wpAny_pure ?_
  show wpAny _ _ (Builtin.Dict.showsAll d >>= _) _ _ s; unfold Builtin.Dict.showsAll
  rw [if_neg (fun z=>by rw [nm] at z; cases z)]; refine wpAny_bind (wpAny_pure ?_); exact wpAny_bind (wpAny_newObj_type (wpAny_pure ⟨_,rfl,h⟩))
theorem sx {Q:Value→Shared→Prop} (hv:s.heap.IsItemsView v d) (x:DE s.heap d es ep)
    (q:Q (.ref s.heap.objs.size) { s with heap:=s.heap.push { cls:=.type "dict_itemiterator",data:=.fields #[.none,.bool false,.ref d,.int 0 0,.int es.size 0,.int ep 0,.none,.none] } }):wpAny (model prog w) A (pyIter (.ref v)) Q E s:=by
  obtain ⟨ov,v1,v2,v3⟩:=id hv; obtain ⟨ob,g1,g2,g3⟩:=id x
  refine wpAny_pyIter_slot hv.typeIs F.slot_dict_items_iter (wpAny_call_entry F.slot_dict_items_iter hv.typeIs F.entry_dict_items_iter ?_ (F.args_dict_items_iter_1 _))
  unfold Builtin.«dict_items.__iter__»; refine wpAny_bind (wpAny_pure (wpAny_bind ?_))
  unfold Builtin.Dict_items.dictOf; refine wpAny_bind (wpAny_field v1 v3 (x:=.ref d) rfl (wpAny_pure (wpAny_bind ?_)))
  unfold Builtin.Dict_items.newIterator; refine wpAny_bind (wpAny_dictEntries g1 g3 (wpAny_bind (wpAny_dictEpoch g1 g3 ?_)))
  have own:Builtin.Dict_items.ownsTuple "dict_itemiterator" = true:=by decide
  simp only [own,if_true]; refine wpAny_newObj_type (wpAny_pure ⟨_,rfl, "dict_itemiterator",_,⟨_,Heap.get?_push_size _ rfl,rfl⟩,F.slot_dict_itemiterator_next.lookup,?_⟩) (by simp only [sizeOk,Builtin.Dict_items.ownedTupleFields,List.size_toArray,List.length_append,List.length_cons,List.length_nil,sizeLine_eq]; omega)
  simpa [rawInt,Builtin.Dict_items.ownedTupleFields] using q
theorem ul {Q:Option Value→Shared→Prop} {e:DictEntry} (ki:IsItemIter s.heap I d i es.size ep k0 v0) (x:DE s.heap d es ep) (hx:es[i]? = some e)
    (q:∀ h',IsItemIterOut h' I d (i + 1) es.size ep e.key e.val s.heap.objs.size→h'.get? s.heap.objs.size = some { cls:=.type "tuple",data:=.seq #[e.key,e.val] }→h'.objs.size = s.heap.objs.size + 1 →
      (∀ b o,b≠I→s.heap.get? b = some o→h'.get? b = some o)→Q (some (.ref s.heap.objs.size)) { s with heap:=h' }):wpAny (model prog w) A (pyNext (.ref I)) Q E s:=by
  obtain ⟨hp,g,dr,tk,os⟩:=s; obtain ⟨ob,g1,g2,g3⟩:=id x
  have ty:Shared.TypeIs ⟨hp,g,dr,tk,os⟩ (.ref I) "dict_itemiterator" := ⟨_,ki,rfl⟩
  unfold pyNext; refine wpAny_bind (wpAny_attempt (wpAny_callSpecial?_slot (name:=Str.ofString "__next__") ty F.slot_dict_itemiterator_next (wpAny_call_entry F.slot_dict_itemiterator_next ty F.entry_dict_itemiterator_next ?_ (F.args_dict_itemiterator_next_1 _))))
  refine wpAny_bind (wpAny_pure (wpAny_bind (wpAny_bind ?_)))
  first | refine wpAny_bind (wpAny_typeNameOfWhole_itemiter ty (wpAny_pure ?_)) | refine wpAny_bind (wpAny_typeNameOf_itemiter ty (wpAny_pure ?_))
  refine wpAny_bind (wpAny_fieldsOf ki rfl ?_); have own:Builtin.Dict_items.ownsTuple "dict_itemiterator" = true:=by decide
  simp only [own,if_true]; show wpAny _ _ (if (Value.ref d == Value.none) = true then _ else _) _ _ _
  rw [if_neg (fun z:(Value.ref d == Value.none) = true=>Bool.false_ne_true z)]; refine wpAny_bind (wpAny_pure (wpAny_bind (wpAny_dictEntries g1 g3 ?_)))
  rw [if_neg (by simp)]; refine wpAny_bind (wpAny_pure (wpAny_bind (wpAny_dictEpoch g1 g3 ?_)))
  rw [if_neg (by simp)]; refine wpAny_pure ?_
  obtain ⟨hlt,rfl⟩:=Array.getElem?_eq_some_iff.mp hx
  simp only [show ¬ ((i:Int) < 0) from by omega,if_false,Int.toNat_natCast,Array.getElem?_eq_getElem hlt]; refine wpAny_bind ?_
  first | refine wpAny_bind (wpAny_typeNameOfWhole_itemiter ty (wpAny_pure ?_)) | refine wpAny_bind (wpAny_typeNameOf_itemiter ty (wpAny_pure ?_))
  refine wpAny_bind (wpAny_isOneOf_itemiter ty ?_); show wpAny _ _ (setField (.ref I) 3 (rawInt ((i:Int) + 1)) >>= _) _ _ ⟨hp,g,dr,tk,os⟩
  refine wpAny_bind (wpAny_setField_rec ki (by simp) fun h1 e1 b1=>?_); replace b1:Heap.SameBut I hp h1:=b1
  replace e1:IsItemIter h1 I d (i + 1) es.size ep k0 v0:=by
    have z:((i + 1:Nat):Int) = (i:Int) + 1:=by omega
    unfold IsItemIter; rw [z]; simpa [rawInt] using e1
  have ty1:Shared.TypeIs ⟨h1,g,dr,tk,os⟩ (.ref I) "dict_itemiterator" := ⟨_,e1,rfl⟩
  refine wpAny_bind (wpAny_holding (wpAny_bind (wpAny_isOneOf_itemiter ty1 (wpAny_bind (wpAny_isOneOf_itemiter ty1 ?_)))))
  show wpAny _ _ (Builtin.Dict_items.pairFromOwner (.ref I) 6 es[i].key es[i].val) _ _ ⟨h1,g,dr,tk,os⟩; unfold Builtin.Dict_items.pairFromOwner
  refine wpAny_bind (wpAny_newTuple ?_)
  have e2:IsItemIter (h1.push { cls:=.type "tuple",data:=.seq #[es[i].key,es[i].val] }) I d (i + 1) es.size ep k0 v0:=Heap.get?_push_of_some _ e1
  generalize hh:h1.push { cls:=.type "tuple",data:=.seq #[es[i].key,es[i].val] } = h2 at e2
  have z1:h1.objs.size = hp.objs.size:=b1.1
  have lt:I < hp.objs.size:=Heap.lt_size ki
  have t2:h2.get? hp.objs.size = some { cls:=.type "tuple",data:=.seq #[es[i].key,es[i].val] }:=by rw [← hh,← z1]; exact Heap.get?_push_size _ rfl
  have z2:h2.objs.size = hp.objs.size + 1:=by rw [← hh,Heap.size_push,z1]
  have k2:∀ b o,b≠I→hp.get? b = some o→h2.get? b = some o:=fun b o hb e=>by rw [← hh]; exact Heap.get?_push_of_some _ (b1.extBut b o hb e)
  show wpAny _ _ (Builtin.Dict_items.ownedTupleIsFree (.ref I) >>= _) _ _ ⟨h2,g,dr,tk,os⟩; rw [z1]
  clear hh e1 b1 ty1 z1 h1
  refine wpAny_bind ?_; unfold Builtin.Dict_items.ownedTupleIsFree
  refine wpAny_bind (wpAny_field e2 rfl (x:=.none) rfl (wpAny_pure ?_)); simp only [if_true]
  refine wpAny_bind (wpAny_field e2 rfl (x:=k0) rfl (wpAny_bind (wpAny_field e2 rfl (x:=v0) rfl ?_)))
  refine wpAny_bind (wpAny_setField_rec e2 (by simp) fun h3 e3 b3=>?_); replace b3:Heap.SameBut I h2 h3:=b3; replace e3:IsItemIter h3 I d (i + 1) es.size ep es[i].key v0:=e3
  refine wpAny_bind (wpAny_setField_rec e3 (by simp) fun h4 e4 b4=>?_); replace b4:Heap.SameBut I h3 h4:=b4; replace e4:IsItemIter h4 I d (i + 1) es.size ep es[i].key es[i].val:=e4
  refine wpAny_bind (wpAny_setField_rec e4 (by simp) fun h5 e5 b5=>?_); replace b5:Heap.SameBut I h4 h5:=b5; replace e5:IsItemIterOut h5 I d (i + 1) es.size ep es[i].key es[i].val hp.objs.size:=e5
  refine wpAny_bind (wpAny_setField_rec e5 (by simp) fun h6 e6 b6=>?_); replace b6:Heap.SameBut I h5 h6:=b6; replace e6:IsItemIterOut h6 I d (i + 1) es.size ep es[i].key es[i].val hp.objs.size:=e6
  have up:∀ b o,b≠I→h2.get? b = some o→h6.get? b = some o:=fun b o hb e=>b6.extBut b o hb (b5.extBut b o hb (b4.extBut b o hb (b3.extBut b o hb e)))
  refine wpAny_bind (wpAny_letGo (wpAny_pure (wpAny_pure ⟨_,rfl,wpAny_pure (q h6 e6 (up _ _ (Nat.ne_of_gt lt) t2) ?_ fun b o hb e=>up b o hb (k2 b o hb e))⟩)))
  show h6.objs.size = hp.objs.size + 1; rw [b6.1,b5.1,b4.1,b3.1,z2]
theorem vU {Q:Option Value→Shared→Prop} (hh:A.handled = none) (ki:IsItemIter s.heap I d i es.size ep k0 v0) (x:DE s.heap d es ep) (hx:es.size≤i)
    (q:∀ h',Heap.ExtBut I s.heap h'→Q none { s with heap:=h' }):wpAny (model prog w) A (pyNext (.ref I)) Q E s:=by
  obtain ⟨ob,g1,g2,g3⟩:=id x
  have ty:s.TypeIs (.ref I) "dict_itemiterator" := ⟨_,ki,rfl⟩
  unfold pyNext; refine wpAny_bind (wpAny_attempt (wpAny_callSpecial?_slot (name:=Str.ofString "__next__") ty F.slot_dict_itemiterator_next (wpAny_call_entry F.slot_dict_itemiterator_next ty F.entry_dict_itemiterator_next ?_ (F.args_dict_itemiterator_next_1 _))))
  refine wpAny_bind (wpAny_pure (wpAny_bind (wpAny_bind ?_)))
  first | refine wpAny_bind (wpAny_typeNameOfWhole_itemiter ty (wpAny_pure ?_)) | refine wpAny_bind (wpAny_typeNameOf_itemiter ty (wpAny_pure ?_))
  refine wpAny_bind (wpAny_fieldsOf ki rfl ?_); have own:Builtin.Dict_items.ownsTuple "dict_itemiterator" = true:=by decide
  simp only [own,if_true]; show wpAny _ _ (if (Value.ref d == Value.none) = true then _ else _) _ _ _
  rw [if_neg (fun z:(Value.ref d == Value.none) = true=>Bool.false_ne_true z)]; refine wpAny_bind (wpAny_pure (wpAny_bind (wpAny_dictEntries g1 g3 ?_)))
  rw [if_neg (by simp)]; refine wpAny_bind (wpAny_pure (wpAny_bind (wpAny_dictEpoch g1 g3 ?_)))
  rw [if_neg (by simp)]; refine wpAny_pure ?_
  simp only [show ¬ ((i:Int) < 0) from by omega,if_false,Int.toNat_natCast,Array.getElem?_eq_none hx]; refine wpAny_bind ?_
  first | refine wpAny_bind (wpAny_typeNameOfWhole_itemiter ty (wpAny_pure ?_)) | refine wpAny_bind (wpAny_typeNameOf_itemiter ty (wpAny_pure ?_))
  show wpAny _ _ (setField (.ref I) 2 .none >>= _) _ _ s; refine wpAny_bind (wpAny_setField ki rfl (by simp) ?_)
  show wpAny _ _ (newExc (.type "StopIteration") [] >>= _) _ _ _; refine wpAny_bind ?_
  simp only [newExc,newTuple]; refine wpAny_bind (wpAny_newObj_type ?_ (by size_fits))
  refine wpAny_bind (m:=firstArgMember _ _) (wpAny_of_eq (a:=Value.none) (by first | rfl | (simp only [firstArgMember]; rfl)) (wpAny_newObj_type ?_ (by size_fits)))
  simp only [raiseNew]; refine wpAny_bind (wpAny_handled ?_)
  rw [show A.in1.handled = none from hh]; refine wpAny_bind (wpAny_pure (wpAny_throw ?_))
  exact wpAny_bind (wpAny_isInstance (T := "StopIteration") (b:=true) ⟨_,Heap.get?_push_size _ rfl,rfl⟩ isSubtype_stop (wpAny_pure (q _ (((Heap.SameBut.update ..).extBut.push _).push _))))
end
end L2
namespace L2
open PySem PySem.Spec PyProof.Rows PySem.W
def Iti (d:Addr) (o:Obj) (kvs:List (List Key×V)):It :=
  ⟨fun i H=>H d = some (.frz o (.dT kvs))∧i < kvs.length,fun i H x H'=>∃ p b kv,H p = none∧kvs[i]? = some kv∧x = .ref p∧H b = some (.tup (kv.1.map kV))∧H' = upd H p (.tup [.ref b,kv.2]),fun i H=>H d = some (.frz o (.dT kvs))∧kvs.length≤i⟩
theorem KT.at2 {H:Hp}:∀ {kvs:List (List Key×V)} {xs:List (List Key×Addr×Value)} {i:Nat} {kv:List Key×V},KT H kvs xs→kvs[i]? = some kv→∃ x,xs[i]? = some x∧H x.2.1 = some (.tup (kv.1.map kV))∧RelV kv.2 x.2.2
  | _,_,0,_,.cons r _,h=>by cases h; exact ⟨_,rfl,r.2.1,r.2.2⟩
  | _,_,i + 1,_,.cons _ t,h=>by obtain ⟨x,e,q⟩:=KT.at2 (i:=i) t h; exact ⟨x,e,q⟩
theorem tL {prog:Program} {w:World} {A:Around} {E:Value→Shared→Prop} {s:Shared} {it d:Addr} {i n ep:Nat} {k0 v0:Value} {Q:Value→Shared→Prop} (ki:IsItemIter s.heap it d i n ep k0 v0) (h:Q (.ref it) s):wpAny (model prog w) A (pyIter (.ref it)) Q E s:=by
  have ty:s.TypeIs (.ref it) "dict_itemiterator" := ⟨_,ki,rfl⟩
  have en:entryFor table "dict_itemiterator.__iter__" = some Builtin.«dict_keyiterator.__iter__»:=entryFor_alias (id' := "dict_keyiterator.__iter__") (by kernel_rfl) rfl (by decide +kernel) (by kernel_rfl)
  refine wpAny_pyIter_slot ty F.slot_dict_itemiterator_iter (wpAny_call_entry F.slot_dict_itemiterator_iter ty en ?_ (F.args_dict_itemiterator_iter_1 _))
  show wpAny _ _ (ret (.ref it)) _ _ s; exact wpAny_pure ⟨_,rfl, "dict_itemiterator",_,ty,F.slot_dict_itemiterator_next.lookup,h⟩
theorem mK {P:Program} {w:World} {K:PySem.W.Frag} {el:List Expr} {kk:Nat} {pos:Pos} {d it:Addr} {o:Obj} {kvs:List (List Key×V)} {es:Array DictEntry} {ep:Nat} (hdat:o.data = .dict es ep) (hsz:es.size = kvs.length):Turn P w K (.Tuple el kk pos) (Iti d o kvs) [it] it (fun i h=>∃ k0 v0,IsItemIter h it d i es.size ep k0 v0) where
  mem:=List.mem_cons_self ..
  obj:=fun i h st b hb=>by
    rw [List.mem_singleton.mp hb]
    obtain ⟨k0,v0,e⟩:=st
    exact ⟨_,e,fun v z=>by cases z⟩
  keep:=fun i h h' st kp=>by
    obtain ⟨k0,v0,e⟩:=st
    exact ⟨k0,v0,kp it (List.mem_cons_self ..) _ e⟩
  item:=by
    intro X hP hw hK hc i pins s σ H E I hf st hg
    subst hP hw hK
    obtain ⟨hd,hi⟩:=hg
    obtain ⟨k0,v0,st⟩:=st
    obtain ⟨xs,es',ep',rel,g1,g2,g3,g4,g5⟩:=mL I.hok hd
    have e0:=hdat.symm.trans g3
    cases e0
    obtain ⟨kv,hkv⟩:∃ kv,kvs[i]? = some kv:=⟨_,List.getElem?_eq_getElem hi⟩
    obtain ⟨x,hx,hH,rv⟩:=rel.at2 hkv
    have he:es[i]? = some (entryOfKey (tupleKind (bE X.prog X.w)) x):=by rw [entry_at g4,hx]; rfl
    refine ul st ⟨o,g1,g2,g3⟩ he fun h1 e1 e2 e3 e4=>?_
    refine ⟨_,rfl,wpAny_letOwnedTupleGo_items e1 fun h2 e5 sb=>?_⟩
    have hps:s.heap.objs.size≠it:=fun q=>absurd (Heap.lt_size st) (by rw [← q]; exact Nat.lt_irrefl _)
    have hn:H s.heap.objs.size = none:=I.hok.fresh (Nat.le_refl _)
    have e2':h2.get? s.heap.objs.size = some { cls:=.type "tuple",data:=.seq #[.ref x.2.1,x.2.2] }:=(sb.2 _ hps).trans e2
    have J:Inv X pins σ (upd H s.heap.objs.size (.tup [.ref x.2.1,kv.2])) { s with heap:=h2,toks:=s.toks }:=by
      refine I.turnedNew (ch:=[it]) (fun b o hb q=>?_) hf (Nat.le_refl _) ⟨by rw [sizeLine_eq]; show 2≤16777216; decide,[.ref x.2.1,x.2.2],.cons rfl (.cons rv .nil),_,e2',rfl,0,rfl⟩
      have b1:b≠it:=fun z=>hb (by simp [z])
      exact (sb.2 b b1).trans (e4 b o b1 q)
    refine ⟨.ref s.heap.objs.size,_,J,rfl,⟨s.heap.objs.size,x.2.1,kv,hn,hkv,rfl,hH,rfl⟩,⟨_,_,e5⟩,fun b hb=>?_⟩
    rw [List.mem_singleton.mp hb,ai hps.symm]
    exact (hf it (List.mem_cons_self ..)).1
  done:=by
    intro X hP hw hK hc i pins s σ H E I hf st hg
    subst hP hw hK
    obtain ⟨hd,hi⟩:=hg
    obtain ⟨k0,v0,st⟩:=st
    obtain ⟨xs,es',ep',rel,g1,g2,g3,g4,g5⟩:=mL I.hok hd
    have e0:=hdat.symm.trans g3
    cases e0
    exact vU (I.ok.hd hc) st ⟨o,g1,g2,g3⟩ (by omega) fun h1 eb=>⟨rfl,I.turnedN (ch:=[it]) (t':=s.toks) (fun b o hb q=>eb b o (fun z=>hb (by simp [z])) q) hf⟩
  self:=fun _ _ _ _ _ st h=>by
    obtain ⟨k0,v0,e⟩:=st
    exact tL e h
def nI:V→List V→Hp→VK→Prop:=fun x vs H Q=>∃ (d:Addr) (kvs:List (List Key×V)),x = .ref d∧vs = []∧Rd H d (.dT kvs)∧∀ v,H v = none→Q (.ref v) (upd H v (.ext (IV v d)))
section
variable {X:Cx} {o e:Expr} {es:List Expr} {to:TE} {t:TA} {apos cpos:Pos}
theorem oY:MtR X "dict.items" nI:=by
  intro pins s σ H x vs v us Q I rx rv h
  obtain ⟨d,kvs,rfl,rfl,e,q⟩:=h
  cases rx
  cases rv
  obtain ⟨z,y,xs,r,o,es,ep,h1,h2,h3,h4,h5⟩:=(show ObjOk X.prog X.w H s.heap d (.dT kvs) from e.ok I.hok)
  have x:DE s.heap d es ep:=⟨o,h1,h2,h3⟩
  refine call_meetsIn PySem.F.slot_dict_items x.ty PySem.F.entry_dict_items (PySem.F.args_dict_items_1 _) (sQ y) ⟨x,?_⟩
  refine ⟨.ref s.heap.objs.size,_,I.laid (t':=s.toks) (a:=s.heap.objs.size) (o:=.ext (IV s.heap.objs.size d)) (fun b u e=>Heap.get?_push_of_some _ e) (Nat.le_refl _) ?_,rfl,q _ (I.hok.fresh (Nat.le_refl _))⟩
  have g:(s.heap.push { cls:=.type "dict_items",data:=.fields #[.ref d] }).get? s.heap.objs.size = some { cls:=.type "dict_items",data:=.fields #[.ref d] }:=Heap.get?_push_size _ rfl
  exact ⟨⟨_,g,rfl,rfl⟩,⟨_,g⟩,fun h1 h2 ⟨ob,e1,r⟩ k=>⟨ob,k ob e1,r⟩⟩
theorem rJ {el:List Expr} {kk:Nat} {tpos:Pos} {te:TE} (he:PE X e te):PI X (.Tuple el kk tpos) e (fun σ H R=>te σ H fun x H1=>∃ v d kvs,x = .ref v∧H1 v = some (.ext (IV v d))∧Rd H1 d (.dT kvs)∧∀ o,R (Iti d o kvs) (upd H1 d (.frz o (.dT kvs)))):=by
  intro pins s σ H R I h
  refine thn (he pins s σ H _ I h) fun u s1 ⟨x,H1,I1,r1,v,d,kvs,ex,hv,hd,q⟩=>?_
  subst ex
  obtain rfl:u = Value.ref v:=r1
  obtain ⟨o,ho⟩:∃ o,s1.heap.get? d = some o:=by
    obtain ⟨_,_,xs,_,o,_,_,g,_⟩:=(show ObjOk X.prog X.w H1 s1.heap d (.dT kvs) from hd.ok I1.hok)
    exact ⟨o,g⟩
  have iv:s1.heap.IsItemsView v d:=(show ObjOk X.prog X.w H1 s1.heap v (.ext (IV v d)) from I1.hok v _ hv).1
  have I2:=I1.freeze hd ho
  obtain ⟨xs,es,ep,rel,g1,g2,g3,g4,g5⟩:=mL I2.hok ad
  have hsz:es.size = kvs.length:=by rw [size_of_entries g4,Paired.length rel]
  refine sx iv ⟨o,g1,g2,g3⟩ ?_
  refine ⟨s1.heap.objs.size,[s1.heap.objs.size],_,_,_,rfl,I2.kept (t':=s1.toks) fun b o e=>Heap.get?_push_of_some _ e,mK g3 hsz,⟨_,_,Heap.get?_push_size _ rfl⟩,fun b hb=>?_,q o⟩
  have e:b = s1.heap.objs.size:=List.mem_singleton.mp hb
  subst e
  exact I2.fpOk (Nat.le_refl _) (I2.hok.fresh (Nat.le_refl _))
end
theorem oH {d:Addr} {o:Obj} {kvs:List (List Key×V)} {g:TG} {tb:TS} {D:Ends} {σ:St} {H:Hp} (Pv:Nat→St→Hp→Prop) (h0:Pv 0 σ H) (hl:∀ i σ H,Pv i σ H→H d = some (.frz o (.dT kvs)))
    (hs:∀ (i:Nat) kv b σ H p,kvs[i]? = some kv→H b = some (.tup (kv.1.map kV))→Pv i σ H→H p = none→g (.ref p) σ (upd H p (.tup [.ref b,kv.2])) fun σ2 H2=>tb { D with nx:=Pv (i + 1),ct:=Pv (i + 1),bk:=D.nx } σ2 H2) (hd:∀ σ H,Pv kvs.length σ H→D.nx σ H) :
    ∃ W:Nat→Nat→St→Hp→Prop,(∃ m,W 0 m σ H)∧∀ i m σ H,W i m σ H →
      ((Iti d o kvs).stop i H∧D.nx σ H)∨((Iti d o kvs).go i H∧∃ N:St→Hp→Prop,(∀ σ' H',N σ' H'→∃ m',m' < m∧W (i + 1) m' σ' H')∧∀ x H',(Iti d o kvs).yld i H x H'→g x σ H' fun σ2 H2=>tb { D with nx:=N,ct:=N,bk:=D.nx } σ2 H2):=by
  refine ⟨fun i m σ H=>m = kvs.length - i∧i≤kvs.length∧Pv i σ H,⟨_,rfl,Nat.zero_le _,h0⟩,?_⟩
  rintro i m σ H ⟨rfl,hi,p⟩
  have q:=hl i σ H p
  by_cases hlt:i < kvs.length
  · refine .inr ⟨⟨q,hlt⟩,Pv (i + 1),fun σ' H' p'=>⟨_,by omega,rfl,hlt,p'⟩,fun x H' y=>?_⟩
    obtain ⟨b,b',kv,hb,hkv,rfl,hb',rfl⟩:=y
    exact hs i kv b' σ H b hkv hb' p hb
  · have e:i = kvs.length:=by omega
    subst e
    exact .inl ⟨⟨q,Nat.le_refl _⟩,hd σ H p⟩
end L2
namespace Du
abbrev Sts:=List ((Nat×Nat)×Rat)
def Sf (st:Sts) (f:Nat×Nat→Rat):Rat:=(st.map fun x=>x.2 * f x.1).sum
theorem gk (f:Nat×Nat→Rat):Sf [] f = 0:=rfl
theorem cf (x:(Nat×Nat)×Rat) (st:Sts) (f:Nat×Nat→Rat):Sf (x :: st) f = x.2 * f x.1 + Sf st f:=by
  unfold Sf; rw [List.map_cons,List.sum_cons]
def fu (k:Nat×Nat) (m:Rat):Sts→Sts
  | []=>[(k,m)]
  | x :: r=>if x.1 = k then (k,x.2 + m) :: r else x :: fu k m r
def gG (st:Sts) (k:Nat×Nat) (m:Rat):Sts:=if 0 < m then fu k m st else st
theorem rk (k:Nat×Nat) (m:Rat) (f:Nat×Nat→Rat):∀ st:Sts,Sf (fu k m st) f = Sf st f + m * f k
  | []=>by rw [fu,cf,gk]; grind
  | x :: r=>by
    rw [fu]
    by_cases c:x.1 = k
    · rw [if_pos c,cf,cf,c]; grind
    · rw [if_neg c,cf,cf,rk k m f r]; grind
theorem j7 {st:Sts} {k:Nat×Nat} {m:Rat} (h:0≤m) (f:Nat×Nat→Rat):Sf (gG st k m) f = Sf st f + m * f k:=by
  unfold gG
  by_cases c:0 < m
  · rw [if_pos c,rk]
  · have:m = 0:=by grind
    rw [if_neg c,this]; grind
def sig (h c:Rat):Nat:=if h + c = 1 then 0 else 1
def d8 (h c:Rat) (mk:Nat) (acc:Sts) (x:(Nat×Nat)×Rat):Sts :=
  if h + c < 1 then gG (gG acc x.1 (x.2 * (h / (h + c)))) (mk,x.1.2) (x.2 * (c / (h + c)))
  else gG (gG acc (mk * sig h c,x.1.2 ||| x.1.1) (x.2 * ((1 - c) / (2 - (h + c))))) (x.1.1 * sig h c,x.1.2 ||| mk) (x.2 * ((1 - h) / (2 - (h + c))))
def cm (h c:Rat) (mk:Nat) (st:Sts):Sts:=st.foldl (d8 h c mk) []
def Tf (h c:Rat) (mk:Nat) (f:Nat×Nat→Rat):Nat×Nat→Rat:=fun k =>
  if h + c < 1 then h / (h + c) * f k + c / (h + c) * f (mk,k.2)
  else (1 - c) / (2 - (h + c)) * f (mk * sig h c,k.2 ||| k.1) + (1 - h) / (2 - (h + c)) * f (k.1 * sig h c,k.2 ||| mk)
def Psv (st:Sts):Prop:=∀ x ∈ st,0 < x.2
theorem ei {a b:Rat} (ha:0≤a) (hb:0 < b):0≤a / b:=by
  rw [Rat.div_def]
  exact Rat.mul_nonneg ha (Rat.le_of_lt (Rat.inv_pos.mpr hb))
theorem sP {h c:Rat} {mk:Nat} {acc:Sts} {x:(Nat×Nat)×Rat} (h0:0≤h) (h1:h < 1) (c0:0 < c) (c1:c < 1) (hx:0 < x.2) (f:Nat×Nat→Rat):Sf (d8 h c mk acc x) f = Sf acc f + x.2 * Tf h c mk f x.1:=by
  unfold d8 Tf
  have hx':=Rat.le_of_lt hx
  by_cases e:h + c < 1
  · rw [if_pos e,if_pos e]
    have p:0 < h + c:=by grind
    rw [j7 (Rat.mul_nonneg hx' (ei (by grind) p)),j7 (Rat.mul_nonneg hx' (ei h0 p))]
    grind
  · rw [if_neg e,if_neg e]
    have p:0 < 2 - (h + c):=by grind
    rw [j7 (Rat.mul_nonneg hx' (ei (by grind) p)),j7 (Rat.mul_nonneg hx' (ei (by grind) p))]
    grind
theorem om {h c:Rat} {mk:Nat} (h0:0≤h) (h1:h < 1) (c0:0 < c) (c1:c < 1) (f:Nat×Nat→Rat):∀ (st acc:Sts),Psv st→Sf (st.foldl (d8 h c mk) acc) f = Sf acc f + Sf st (Tf h c mk f)
  | [],acc,_=>by rw [List.foldl_nil,gk]; grind
  | x :: r,acc,p=>by
    rw [List.foldl_cons,om h0 h1 c0 c1 f r _ (fun y hy=>p y (List.mem_cons_of_mem _ hy)),sP h0 h1 c0 c1 (p x (List.mem_cons_self ..)),cf]
    grind
theorem fZ {h c:Rat} {mk:Nat} {st:Sts} (h0:0≤h) (h1:h < 1) (c0:0 < c) (c1:c < 1) (p:Psv st) (f:Nat×Nat→Rat):Sf (cm h c mk st) f = Sf st (Tf h c mk f):=by
  unfold cm
  rw [om h0 h1 c0 c1 f st [] p,gk]
  grind
theorem ol {k:Nat×Nat} {m:Rat} (hm:0 < m):∀ {st:Sts},Psv st→Psv (fu k m st)
  | [],_=>fun x hx=>by rw [fu] at hx; cases List.mem_singleton.mp hx; exact hm
  | y :: r,p=>fun x hx=>by
    rw [fu] at hx
    have py:=p y (List.mem_cons_self ..)
    have pr:Psv r:=fun z hz=>p z (List.mem_cons_of_mem _ hz)
    by_cases c:y.1 = k
    · rw [if_pos c] at hx
      rcases List.mem_cons.mp hx with e | e
      · rw [e]; show 0 < y.2 + m; grind
      · exact pr x e
    · rw [if_neg c] at hx
      rcases List.mem_cons.mp hx with e | e
      · rw [e]; exact py
      · exact ol hm pr x e
theorem gU {st:Sts} {k:Nat×Nat} {m:Rat} (p:Psv st):Psv (gG st k m):=by
  unfold gG
  by_cases c:0 < m
  · rw [if_pos c]; exact ol c p
  · rw [if_neg c]; exact p
theorem p9 {h c:Rat} {mk:Nat} {st:Sts}:Psv (cm h c mk st):=by
  unfold cm
  have:∀ (st acc:Sts),Psv acc→Psv (st.foldl (d8 h c mk) acc):=by
    intro st
    induction st with
    | nil=>intro acc p; exact p
    | cons x r ih =>
      intro acc p
      rw [List.foldl_cons]
      refine ih _ ?_
      unfold d8
      split
      · exact gU (gU p)
      · exact gU (gU p)
  exact this st [] (fun x hx=>by cases hx)
def hb (h c:Rat):Rat:=if h + c < 1 then h + c else h + c - 1
def Vf (h:Rat) (k:Nat×Nat):Rat:=if k.2 = 3 then 1 else if k.2 ||| k.1 = 3 then h else 0
theorem rT {h c:Rat} (h0:0≤h) (h1:h < 1) (c0:0 < c) (c1:c < 1):0≤hb h c∧hb h c < 1:=by
  unfold hb; split <;> grind
theorem ke {h c:Rat} (e:¬ h + c < 1):sig h c = 1∨(sig h c = 0∧hb h c = 0):=by
  unfold sig hb
  rw [if_neg e]
  by_cases z:h + c = 1
  · rw [if_pos z]; right; exact ⟨rfl,by grind⟩
  · rw [if_neg z]; exact .inl rfl
theorem tW {h c:Rat} (h0:0≤h) (h1:h < 1) (c0:0 < c) (c1:c < 1) (k:Nat×Nat) (hk:k.1 < 4∧k.2 < 4):Tf h c 0 (Vf (hb h c)) k = Vf h k:=by
  obtain ⟨u,s⟩:=k
  unfold Tf
  by_cases e:h + c < 1
  · rw [if_pos e]
    have p:h + c≠0:=by grind
    have eb:hb h c = h + c:=by unfold hb; rw [if_pos e]
    unfold Vf
    simp only [Nat.or_zero]
    rw [eb]
    split
    · grind
    · split
      · grind
      · grind
  · rw [if_neg e]
    have p:2 - (h + c)≠0:=by grind
    have eb:hb h c = h + c - 1:=by unfold hb; rw [if_neg e]
    rcases ke e with z | ⟨z,z2⟩
    · unfold Vf
      simp only [Nat.or_zero,z,Nat.mul_one,Nat.zero_mul]
      rw [eb]
      by_cases q:s = 3
      · subst q
        have:3 ||| u = 3:=by
          have:=hk.1
          match u with
          | 0=>rfl
          | 1=>rfl
          | 2=>rfl
          | 3=>rfl
          | n + 4=>exact absurd this (by omega)
        simp only [this,if_true]
        grind
      · simp only [q,if_false]
        by_cases r:s ||| u = 3
        · simp only [r,if_true]; grind
        · simp only [r,if_false]; grind
    · unfold Vf
      simp only [Nat.or_zero,z,Nat.mul_zero]
      by_cases q:s = 3
      · subst q
        have:3 ||| u = 3:=by
          have:=hk.1
          match u with
          | 0=>rfl
          | 1=>rfl
          | 2=>rfl
          | 3=>rfl
          | n + 4=>exact absurd this (by omega)
        simp only [this,if_true]
        grind
      · simp only [q,if_false]
        by_cases r:s ||| u = 3
        · simp only [r,if_true]; grind
        · simp only [r,if_false]; grind
end Du
set_option maxHeartbeats 1000000
namespace Du
theorem dL {st:Sts} {f g:Nat×Nat→Rat} (h:∀ x ∈ st,f x.1 = g x.1):Sf st f = Sf st g:=by
  induction st with
  | nil=>rfl
  | cons x r ih =>
    rw [cf,cf,h x (List.mem_cons_self ..),ih fun y hy=>h y (List.mem_cons_of_mem _ hy)]
theorem jF {st:Sts} {f g:Nat×Nat→Rat} {a b:Rat}:Sf st (fun k=>a * f k + b * g k) = a * Sf st f + b * Sf st g:=by
  induction st with
  | nil=>rw [gk,gk,gk]; grind
  | cons x r ih=>rw [cf,cf,cf,ih]; grind
theorem nP {k:Nat×Nat} {m:Rat} {x:(Nat×Nat)×Rat}:∀ {st:Sts},x ∈ fu k m st→x.1 = k∨∃ y ∈ st,x.1 = y.1
  | [],hx=>by rw [fu] at hx; cases List.mem_singleton.mp hx; exact .inl rfl
  | y :: r,hx=>by
    rw [fu] at hx
    by_cases c:y.1 = k
    · rw [if_pos c] at hx
      rcases List.mem_cons.mp hx with e | e
      · rw [e]; exact .inl rfl
      · exact .inr ⟨x,List.mem_cons_of_mem _ e,rfl⟩
    · rw [if_neg c] at hx
      rcases List.mem_cons.mp hx with e | e
      · rw [e]; exact .inr ⟨y,List.mem_cons_self ..,rfl⟩
      · rcases nP e with z | ⟨w,hw,z⟩
        · exact .inl z
        · exact .inr ⟨w,List.mem_cons_of_mem _ hw,z⟩
theorem gR {k:Nat×Nat} {m:Rat} {x:(Nat×Nat)×Rat} {st:Sts} (hx:x ∈ gG st k m):x.1 = k∨∃ y ∈ st,x.1 = y.1:=by
  unfold gG at hx
  by_cases c:0 < m
  · rw [if_pos c] at hx; exact nP hx
  · rw [if_neg c] at hx; exact .inr ⟨x,hx,rfl⟩
def tM (h c:Rat) (mk:Nat) (k k':Nat×Nat):Prop:=k' = k∨k' = (mk,k.2)∨k' = (mk * sig h c,k.2 ||| k.1)∨k' = (k.1 * sig h c,k.2 ||| mk)
theorem fW {h c:Rat} {mk:Nat} {st:Sts} {x:(Nat×Nat)×Rat} (hx:x ∈ cm h c mk st):∃ y ∈ st,tM h c mk y.1 x.1:=by
  unfold cm at hx
  have:∀ (l acc:Sts),x ∈ l.foldl (d8 h c mk) acc→(∃ y ∈ acc,x.1 = y.1)∨∃ y ∈ l,tM h c mk y.1 x.1:=by
    intro l
    induction l with
    | nil=>intro acc hx; exact .inl ⟨x,hx,rfl⟩
    | cons z r ih =>
      intro acc hx
      rw [List.foldl_cons] at hx
      rcases ih _ hx with ⟨y,hy,e⟩ | ⟨y,hy,e⟩
      · unfold d8 at hy
        split at hy
        · rcases gR hy with e2 | ⟨w,hw,e2⟩
          · exact .inr ⟨z,List.mem_cons_self ..,.inr (.inl (e.trans e2))⟩
          · rcases gR hw with e3 | ⟨v,hv,e3⟩
            · exact .inr ⟨z,List.mem_cons_self ..,.inl (e.trans (e2.trans e3))⟩
            · exact .inl ⟨v,hv,e.trans (e2.trans e3)⟩
        · rcases gR hy with e2 | ⟨w,hw,e2⟩
          · exact .inr ⟨z,List.mem_cons_self ..,.inr (.inr (.inr (e.trans e2)))⟩
          · rcases gR hw with e3 | ⟨v,hv,e3⟩
            · exact .inr ⟨z,List.mem_cons_self ..,.inr (.inr (.inl (e.trans (e2.trans e3))))⟩
            · exact .inl ⟨v,hv,e.trans (e2.trans e3)⟩
      · exact .inr ⟨y,List.mem_cons_of_mem _ hy,e⟩
  rcases this st [] hx with ⟨y,hy,_⟩ | z
  · cases hy
  · exact z
theorem iA (h c:Rat):sig h c = 0∨sig h c = 1:=by unfold sig; split <;> simp
def aH (hs:Rat×Sts) (x:Rat×Nat):Rat×Sts :=
  if x.1 = 1 then (hs.1,hs.2.map fun y=>((y.1.1,y.1.2 ||| x.2),y.2))
  else if 0 < x.1 then (hb hs.1 x.1,cm hs.1 x.1 x.2 hs.2) else hs
def AI (L:List (Rat×Nat)):Rat:=Sf (L.foldl aH (0,[((0,0),1)])).2 (Vf (L.foldl aH (0,[((0,0),1)])).1)
def In1 (c:Rat):Prop:=0≤c∧c≤1
def Uns (c:Rat):Prop:=0 < c∧c < 1
def kJ (st:Sts):Prop:=∀ x ∈ st,x.1.1 < 4∧x.1.2 < 4
theorem or4 {a b:Nat} (ha:a < 4) (hb:b < 4):a ||| b < 4:=Nat.or_lt_two_pow (n:=2) ha hb
theorem mr {h c:Rat} {mk:Nat} {st:Sts} (hm:mk < 4) (s:kJ st):kJ (cm h c mk st):=fun x hx=>by
  obtain ⟨y,hy,g⟩:=fW hx
  obtain ⟨a,b⟩:=s y hy
  rcases g with g | g | g | g
  · rw [g]; exact ⟨a,b⟩
  · rw [g]; exact ⟨hm,b⟩
  · rw [g]
    refine ⟨?_,or4 b a⟩
    rcases iA h c with e | e <;> rw [e]
    · exact Nat.zero_lt_succ _
    · rw [Nat.mul_one]; exact hm
  · rw [g]
    refine ⟨?_,or4 b hm⟩
    rcases iA h c with e | e <;> rw [e]
    · exact Nat.zero_lt_succ _
    · rw [Nat.mul_one]; exact a
theorem fL (st:Sts):(st.map fun y=>((y.1.1,y.1.2 ||| 0),y.2)) = st:=by
  induction st with
  | nil=>rfl
  | cons y r ih=>rw [List.map_cons,ih,Nat.or_zero]
structure Hs (hs:Rat×Sts):Prop where
  h0:0≤hs.1
  h1:hs.1 < 1
  pos:Psv hs.2
theorem Hs.step {hs:Rat×Sts} {x:Rat×Nat} (H:Hs hs) (hx:In1 x.1):Hs (aH hs x):=by
  unfold aH
  by_cases e:x.1 = 1
  · rw [if_pos e]
    refine ⟨H.h0,H.h1,fun z hz=>?_⟩
    obtain ⟨y,hy,rfl⟩:=List.mem_map.mp hz
    exact H.pos y hy
  · rw [if_neg e]
    by_cases p:0 < x.1
    · rw [if_pos p]
      have b:=rT H.h0 H.h1 p (by have:=hx.2; grind)
      exact ⟨b.1,b.2,p9⟩
    · rw [if_neg p]; exact H
theorem stays {hs:Rat×Sts} {c:Rat} (H:Hs hs) (s:kJ hs.2) (hc:In1 c):Sf (aH hs (c,0)).2 (Vf (aH hs (c,0)).1) = Sf hs.2 (Vf hs.1)∧kJ (aH hs (c,0)).2:=by
  unfold aH
  by_cases e:c = 1
  · rw [if_pos e]
    show Sf (hs.2.map fun y=>((y.1.1,y.1.2 ||| 0),y.2)) _ = _∧kJ (hs.2.map fun y=>((y.1.1,y.1.2 ||| 0),y.2))
    rw [fL]
    exact ⟨rfl,s⟩
  · rw [if_neg e]
    by_cases p:0 < c
    · rw [if_pos p]
      have c1:c < 1:=by have:=hc.2; grind
      refine ⟨?_,mr (show (0:Nat) < 4 by decide) s⟩
      rw [fZ H.h0 H.h1 p c1 H.pos]
      exact dL fun x hx=>tW H.h0 H.h1 p c1 x.1 (s x hx)
    · rw [if_neg p]; exact ⟨rfl,s⟩
structure P0 (hs:Rat×Sts):Prop extends Hs hs where
  key:∀ x ∈ hs.2,x.1 = (0,0)
  one:Sf hs.2 (fun _=>1) = 1
theorem vL {h c:Rat} {mk:Nat} (h0:0≤h) (h1:h < 1) (c0:0 < c) (c1:c < 1) (k:Nat×Nat):Tf h c mk (fun _=>1) k = 1:=by
  unfold Tf
  by_cases e:h + c < 1
  · rw [if_pos e]
    have p:h + c≠0:=by grind
    grind
  · rw [if_neg e]
    have p:2 - (h + c)≠0:=by grind
    grind
theorem P0.step {hs:Rat×Sts} {c:Rat} (P:P0 hs) (hc:In1 c):P0 (aH hs (c,0)):=by
  refine { toHs:=P.toHs.step hc,key:=?_,one:=?_ }
  · intro x hx
    unfold aH at hx
    by_cases e:c = 1
    · rw [if_pos e] at hx
      rw [fL] at hx
      exact P.key x hx
    · rw [if_neg e] at hx
      by_cases p:0 < c
      · rw [if_pos p] at hx
        obtain ⟨y,hy,g⟩:=fW hx
        have ky:=P.key y hy
        rw [ky] at g
        rcases g with g | g | g | g <;> rw [g] <;> simp
      · rw [if_neg p] at hx; exact P.key x hx
  · unfold aH
    by_cases e:c = 1
    · rw [if_pos e]
      show Sf (hs.2.map fun y=>((y.1.1,y.1.2 ||| 0),y.2)) _ = _
      rw [fL]; exact P.one
    · rw [if_neg e]
      by_cases p:0 < c
      · rw [if_pos p]
        have c1:c < 1:=by have:=hc.2; grind
        rw [fZ P.h0 P.h1 p c1 P.pos]
        exact (dL fun x hx=>vL P.h0 P.h1 p c1 x.1).trans P.one
      · rw [if_neg p]; exact P.one
theorem P0.all:∀ {A:List (Rat×Nat)} {hs:Rat×Sts},P0 hs→(∀ x ∈ A,x.2 = 0∧In1 x.1)→P0 (A.foldl aH hs)
  | [],_,P,_=>P
  | (c,k) :: A,hs,P,hA=>by
    obtain ⟨e,hc⟩:=hA (c,k) (List.mem_cons_self ..)
    have e:k = 0:=e
    subst e
    show P0 (A.foldl aH (aH hs (c,0)))
    exact P0.all (P.step hc) fun x hx=>hA x (List.mem_cons_of_mem _ hx)
theorem P0.at {hs:Rat×Sts} (P:P0 hs) (g:Nat×Nat→Rat):Sf hs.2 g = g (0,0):=by
  have:Sf hs.2 g = Sf hs.2 (fun k=>g (0,0) * (fun _=>(1:Rat)) k + 0 * (fun _=>(1:Rat)) k):=dL fun x hx=>by rw [P.key x hx]; grind
  rw [this,jF,P.one]
  grind
def us0 (h c:Rat):Rat×Rat:=if h + c < 1 then (c / (h + c),0) else ((1 - c) / (2 - (h + c)),(1 - h) / (2 - (h + c)))
def aZ (h:Rat) (us:Rat×Rat) (c:Rat):Rat×Rat:=if h + c < 1 then (us.1 * (h / (h + c)),us.2) else (us.1 * ((1 - h) / (2 - (h + c))),us.2 + us.1 * ((1 - c) / (2 - (h + c))))
def gW (x:Rat×(Rat×Rat)) (c:Rat):Rat×(Rat×Rat):=(hb x.1 c,aZ x.1 x.2 c)
def bk (us:Rat×Rat) (h c:Rat):Rat:=if 0 < h + c - 1 then us.2 * c + us.1 * (h + c - 1) else us.2 * c
def At (k:Nat×Nat) (k':Nat×Nat):Rat:=if k' = k then 1 else 0
def Ks (m:Nat) (k:Nat×Nat):Prop:=k = (0,0)∨k = (m,0)∨k = (0,m)
structure P1 (m:Nat) (c1:Rat) (hs:Rat×Sts) (us:Rat×Rat):Prop extends Hs hs where
  key:∀ x ∈ hs.2,Ks m x.1
  sure:Uns c1→Sf hs.2 (At (0,m)) = us.2
  up:Uns c1→Sf hs.2 (At (m,0)) = us.1∨hs.1 = 0
  cons:Sf hs.2 (At (0,m)) + Sf hs.2 (At (m,0)) * hs.1 = c1
  nup:¬ Uns c1→Sf hs.2 (At (m,0)) = 0
theorem Ks.or_zero {m:Nat} (hm:m = 1∨m = 2) {h c:Rat} {k k':Nat×Nat} (hk:Ks m k) (g:tM h c 0 k k'):Ks m k':=by
  unfold Ks
  rcases iA h c with e | e <;> rcases hm with rfl | rfl <;> rcases hk with rfl | rfl | rfl <;> rcases g with g | g | g | g <;> rw [g] <;> simp [e]
theorem Ks.first {m:Nat} (hm:m = 1∨m = 2) {h c:Rat} {k':Nat×Nat} (g:tM h c m (0,0) k'):Ks m k':=by
  unfold Ks
  rcases iA h c with e | e <;> rcases hm with rfl | rfl <;> rcases g with g | g | g | g <;> rw [g] <;> simp [e]
theorem xz {m:Nat} (hm:m = 1∨m = 2) {h c:Rat} {k:Nat×Nat} (hk:Ks m k):Tf h c 0 (At (m,0)) k = (if h + c < 1 then h / (h + c) else (1 - h) / (2 - (h + c)) * (sig h c:Rat)) * At (m,0) k + 0 * At (0,m) k:=by
  unfold Tf
  by_cases e:h + c < 1
  · rw [if_pos e,if_pos e]
    rcases hm with rfl | rfl <;> rcases hk with rfl | rfl | rfl <;> simp [At] <;> grind
  · rw [if_neg e,if_neg e]
    rcases iA h c with z | z <;> rcases hm with rfl | rfl <;> rcases hk with rfl | rfl | rfl <;> simp [At,z] <;> grind
theorem tI {m:Nat} (hm:m = 1∨m = 2) {h c:Rat} (h0:0≤h) (h1:h < 1) (c0:0 < c) (c1:c < 1) {k:Nat×Nat} (hk:Ks m k):Tf h c 0 (At (0,m)) k = (if h + c < 1 then 0 else (1 - c) / (2 - (h + c))) * At (m,0) k + 1 * At (0,m) k:=by
  unfold Tf
  by_cases e:h + c < 1
  · rw [if_pos e,if_pos e]
    have p:h + c≠0:=by grind
    rcases hm with rfl | rfl <;> rcases hk with rfl | rfl | rfl <;> simp [At] <;> grind
  · rw [if_neg e,if_neg e]
    have p:2 - (h + c)≠0:=by grind
    rcases iA h c with z | z <;> rcases hm with rfl | rfl <;> rcases hk with rfl | rfl | rfl <;> simp [At,z] <;> grind
theorem uq {m m':Nat} (hm:m = 1∧m' = 2∨m = 2∧m' = 1) {h c:Rat} (h0:0≤h) (h1:h < 1) (c0:0 < c) (c1:c < 1) {k:Nat×Nat} (hk:Ks m k):Tf h c m' (Vf (hb h c)) k = (if h + c < 1 then 0 else h + c - 1) * At (m,0) k + c * At (0,m) k:=by
  unfold Tf
  by_cases e:h + c < 1
  · rw [if_pos e,if_pos e]
    have p:h + c≠0:=by grind
    have eb:hb h c = h + c:=by unfold hb; rw [if_pos e]
    rw [eb]
    rcases hm with ⟨rfl,rfl⟩ | ⟨rfl,rfl⟩ <;> rcases hk with rfl | rfl | rfl <;> simp [At,Vf] <;> grind
  · rw [if_neg e,if_neg e]
    have p:2 - (h + c)≠0:=by grind
    have eb:hb h c = h + c - 1:=by unfold hb; rw [if_neg e]
    rw [eb]
    rcases ke e with z | ⟨z,z2⟩
    · rcases hm with ⟨rfl,rfl⟩ | ⟨rfl,rfl⟩ <;> rcases hk with rfl | rfl | rfl <;> simp [At,Vf,z] <;> grind
    · rw [eb] at z2
      rcases hm with ⟨rfl,rfl⟩ | ⟨rfl,rfl⟩ <;> rcases hk with rfl | rfl | rfl <;> simp [At,Vf,z] <;> grind
end Du
set_option maxHeartbeats 1000000
namespace Du
theorem ql:¬ Uns (1:Rat):=fun h=>by have:=h.2; grind
theorem p6 {c:Rat} (h:In1 c) (h1:c≠1) (h0:0 < c):Uns c:=⟨h0,by have:=h.2; grind⟩
def nj (hs:Rat) (us:Rat×Rat) (c:Rat):Rat×Rat:=if c = 1 then us else if 0 < c then aZ hs us c else us
theorem P1.step {m:Nat} (hm:m = 1∨m = 2) {c1:Rat} {hs:Rat×Sts} {us:Rat×Rat} {c:Rat} (P:P1 m c1 hs us) (hc:In1 c):P1 m c1 (aH hs (c,0)) (nj hs.1 us c):=by
  have H:=P.toHs.step (x:=(c,0)) hc
  unfold nj
  by_cases e:c = 1
  · have ed:aH hs (c,0) = hs:=by
      unfold aH; rw [if_pos e]
      show (hs.1,hs.2.map fun y=>((y.1.1,y.1.2 ||| 0),y.2)) = hs
      rw [fL]
    rw [ed,if_pos e]; exact P
  · rw [if_neg e]
    by_cases p:0 < c
    · rw [if_pos p]
      have u:=p6 hc e p
      have ed:aH hs (c,0) = (hb hs.1 c,cm hs.1 c 0 hs.2):=by unfold aH; rw [if_neg e,if_pos p]
      rw [ed] at H ⊢
      have q0:=P.h0
      have q1:=P.h1
      have b1:=u.2
      have a1:Sf (cm hs.1 c 0 hs.2) (At (0,m)) = (if hs.1 + c < 1 then 0 else (1 - c) / (2 - (hs.1 + c))) * Sf hs.2 (At (m,0)) + 1 * Sf hs.2 (At (0,m)):=by
        rw [fZ q0 q1 p b1 P.pos,dL (g:=fun k=>(if hs.1 + c < 1 then 0 else (1 - c) / (2 - (hs.1 + c))) * At (m,0) k + 1 * At (0,m) k) fun x hx=>tI hm q0 q1 p b1 (P.key x hx),jF]
      have a2:Sf (cm hs.1 c 0 hs.2) (At (m,0)) = (if hs.1 + c < 1 then hs.1 / (hs.1 + c) else (1 - hs.1) / (2 - (hs.1 + c)) * (sig hs.1 c:Rat)) * Sf hs.2 (At (m,0)) + 0 * Sf hs.2 (At (0,m)):=by
        rw [fZ q0 q1 p b1 P.pos,dL (g:=fun k=>(if hs.1 + c < 1 then hs.1 / (hs.1 + c) else (1 - hs.1) / (2 - (hs.1 + c)) * (sig hs.1 c:Rat)) * At (m,0) k + 0 * At (0,m) k) fun x hx=>xz hm (P.key x hx),jF]
      have hcons:=P.cons
      refine { toHs:=H,key:=?_,sure:=?_,up:=?_,cons:=?_,nup:=?_ }
      · intro x hx
        obtain ⟨y,hy,g⟩:=fW hx
        exact Ks.or_zero hm (P.key y hy) g
      · intro u1
        show Sf (cm hs.1 c 0 hs.2) _ = _
        have k1:=P.sure u1
        have k2:=P.up u1
        rw [a1,k1]
        unfold aZ
        by_cases z:hs.1 + c < 1
        · rw [if_pos z,if_pos z]; grind
        · rw [if_neg z,if_neg z]
          rcases k2 with k2 | k2
          · rw [k2]; grind
          · exfalso; rw [k2] at z; grind
      · intro u1
        show Sf (cm hs.1 c 0 hs.2) _ = _∨hb hs.1 c = 0
        have k2:=P.up u1
        rw [a2]
        unfold aZ
        by_cases z:hs.1 + c < 1
        · rw [if_pos z,if_pos z]
          left
          rcases k2 with k2 | k2
          · rw [k2]; grind
          · rw [k2]
            show (0:Rat) / (0 + c) * _ + 0 * _ = us.1 * (0 / (0 + c))
            have:(0:Rat) / (0 + c) = 0:=by rw [Rat.div_def,Rat.zero_mul]
            rw [this]; grind
        · rw [if_neg z,if_neg z]
          rcases ke z with y | ⟨y,y2⟩
          · rcases k2 with k2 | k2
            · rw [k2,y]; left; simp; grind
            · exfalso; rw [k2] at z; grind
          · exact .inr y2
      · show Sf (cm hs.1 c 0 hs.2) _ + Sf (cm hs.1 c 0 hs.2) _ * hb hs.1 c = c1
        rw [a1,a2,← hcons]
        by_cases z:hs.1 + c < 1
        · have eb:hb hs.1 c = hs.1 + c:=by unfold hb; rw [if_pos z]
          have p':hs.1 + c≠0:=by grind
          rw [if_pos z,if_pos z,eb]; grind
        · have eb:hb hs.1 c = hs.1 + c - 1:=by unfold hb; rw [if_neg z]
          have p':2 - (hs.1 + c)≠0:=by grind
          rw [if_neg z,if_neg z]
          rcases ke z with y | ⟨y,y2⟩
          · rw [y,eb]; simp; grind
          · rw [y,y2]; rw [eb] at y2
            have e3:hs.1 = 1 - c:=by grind
            have e4:2 - (hs.1 + c) = 1:=by grind
            rw [e4,e3]; simp; grind
      · intro nu
        show Sf (cm hs.1 c 0 hs.2) _ = _
        rw [a2,P.nup nu]; grind
    · have ed:aH hs (c,0) = hs:=by unfold aH; rw [if_neg e,if_neg p]
      rw [ed,if_neg p]; exact P
def tK (x:Rat×(Rat×Rat)) (c:Rat):Rat×(Rat×Rat):=if c = 1 then x else if 0 < c then gW x c else x
theorem mH (hs:Rat×Sts) (c:Rat) (mk:Nat):(aH hs (c,mk)).1 = (if c = 1 then hs.1 else if 0 < c then hb hs.1 c else hs.1):=by
  unfold aH
  by_cases e:c = 1
  · rw [if_pos e,if_pos e]
  · rw [if_neg e,if_neg e]
    by_cases p:0 < c
    · rw [if_pos p,if_pos p]
    · rw [if_neg p,if_neg p]
theorem P1.all {m:Nat} (hm:m = 1∨m = 2) {c1:Rat}:∀ {B:List (Rat×Nat)} {hs:Rat×Sts} {us:Rat×Rat},P1 m c1 hs us→(∀ x ∈ B,x.2 = 0∧In1 x.1)→P1 m c1 (B.foldl aH hs) ((B.map (·.1)).foldl tK (hs.1,us)).2∧(B.foldl aH hs).1 = ((B.map (·.1)).foldl tK (hs.1,us)).1
  | [],hs,us,P,_=>⟨P,rfl⟩
  | (c,k) :: B,hs,us,P,hB=>by
    obtain ⟨e,hc⟩:=hB (c,k) (List.mem_cons_self ..)
    have e:k = 0:=e
    subst e
    have ih:=P1.all hm (P.step hm hc) (fun x hx=>hB x (List.mem_cons_of_mem _ hx))
    have er:((aH hs (c,0)).1,nj hs.1 us c) = tK (hs.1,us) c:=by
      rw [mH]
      unfold nj tK
      by_cases e:c = 1
      · rw [if_pos e,if_pos e,if_pos e]
      · rw [if_neg e,if_neg e,if_neg e]
        by_cases p:0 < c
        · rw [if_pos p,if_pos p,if_pos p]; rfl
        · rw [if_neg p,if_neg p,if_neg p]
    rw [er] at ih
    exact ih
theorem lR {st:Sts} {m:Nat} {a b:Rat} {f:Nat×Nat→Rat} (h:∀ x ∈ st,f x.1 = a * At (m,0) x.1 + b * At (0,m) x.1):Sf st f = a * Sf st (At (m,0)) + b * Sf st (At (0,m)):=by
  rw [dL (g:=fun k=>a * At (m,0) k + b * At (0,m) k) h,jF]
theorem P1.end {m m':Nat} (hm:m = 1∧m' = 2∨m = 2∧m' = 1) {c1:Rat} {hs:Rat×Sts} {us:Rat×Rat} {c:Rat} (P:P1 m c1 hs us) (h1:In1 c1) (hc:In1 c):(Uns c1→Uns c→Sf (aH hs (c,m')).2 (Vf (aH hs (c,m')).1) = bk us hs.1 c)∧(¬ (Uns c1∧Uns c)→Sf (aH hs (c,m')).2 (Vf (aH hs (c,m')).1) = c1 * c):=by
  have q0:=P.h0
  have q1:=P.h1
  have hcons:=P.cons
  by_cases e:c = 1
  · have ed:aH hs (c,m') = (hs.1,hs.2.map fun y=>((y.1.1,y.1.2 ||| m'),y.2)):=by unfold aH; rw [if_pos e]
    rw [ed]
    refine ⟨fun _ u=>by rw [e] at u; exact absurd u ql,fun _=>?_⟩
    have:Sf (hs.2.map fun y=>((y.1.1,y.1.2 ||| m'),y.2)) (Vf hs.1) = Sf hs.2 (fun k=>Vf hs.1 (k.1,k.2 ||| m')):=by
      unfold Sf
      rw [List.map_map]
      rfl
    show Sf (hs.2.map fun y=>((y.1.1,y.1.2 ||| m'),y.2)) (Vf hs.1) = _
    rw [this,lR (m:=m) (a:=hs.1) (b:=1) fun x hx=>?_]
    · rw [e]; grind
    · rcases hm with ⟨rfl,rfl⟩ | ⟨rfl,rfl⟩ <;> rcases P.key x hx with z | z | z <;> rw [z] <;> simp [At,Vf] <;> grind
  · by_cases p:0 < c
    · have u:=p6 hc e p
      have ed:aH hs (c,m') = (hb hs.1 c,cm hs.1 c m' hs.2):=by unfold aH; rw [if_neg e,if_pos p]
      rw [ed]
      have w:Sf (cm hs.1 c m' hs.2) (Vf (hb hs.1 c)) = (if hs.1 + c < 1 then 0 else hs.1 + c - 1) * Sf hs.2 (At (m,0)) + c * Sf hs.2 (At (0,m)):=by
        rw [fZ q0 q1 p u.2 P.pos,lR (m:=m) fun x hx=>uq hm q0 q1 p u.2 (P.key x hx)]
      refine ⟨fun u1 _=>?_,fun nu=>?_⟩
      · show Sf (cm hs.1 c m' hs.2) (Vf (hb hs.1 c)) = _
        rw [w,P.sure u1]
        unfold bk
        by_cases z:0 < hs.1 + c - 1
        · have nz:¬ hs.1 + c < 1:=by grind
          rw [if_pos z,if_neg nz]
          rcases P.up u1 with k | k
          · rw [k]; grind
          · exfalso; have:=u.2; grind
        · rw [if_neg z]
          by_cases y:hs.1 + c < 1
          · rw [if_pos y]; grind
          · have:hs.1 + c - 1 = 0:=by grind
            rw [if_neg y,this]; grind
      · show Sf (cm hs.1 c m' hs.2) (Vf (hb hs.1 c)) = _
        have n1:¬ Uns c1:=fun z=>nu ⟨z,u⟩
        have z:=P.nup n1
        rw [z] at hcons
        rw [w,z]
        grind
    · have c0:c = 0:=by have:=hc.1; grind
      have ed:aH hs (c,m') = hs:=by unfold aH; rw [if_neg e,if_neg p]
      rw [ed]
      refine ⟨fun _ u=>absurd u.1 p,fun _=>?_⟩
      rw [lR (m:=m) (a:=0) (b:=0) fun x hx=>?_]
      · rw [c0]; grind
      · rcases hm with ⟨rfl,rfl⟩ | ⟨rfl,rfl⟩ <;> rcases P.key x hx with z | z | z <;> rw [z] <;> simp [At,Vf] <;> grind
def AA (h c:Rat):Rat:=if c = 1 then h else if 0 < c then hb h c else h
end Du
namespace Du
open FrM
def fr (q:Rat):Int×Int:=(q.num,(q.den:Int))
theorem wd {p q:Rat} (h:fr p = fr q):p = q:=by
  unfold fr at h
  injection h with h1 h2
  exact Rat.ext h1 (by omega)
theorem dP (n:Int) {d:Nat} (hd:d≠0):dN n (d:Int) = fr (mkRat n d):=by
  unfold dN fr
  rw [Rat.num_mkRat,Rat.den_mkRat,if_neg hd,if_neg hd]
  have e:Int.gcd n (d:Int) = d.gcd n.natAbs:=by rw [Int.gcd,Nat.gcd_comm]; rfl
  rw [e]
  rfl
theorem fN (t:Int) {b:Int} (hb:0 < b):dN t b = fr ((t:Rat) / (b:Rat)):=by
  obtain ⟨d,rfl⟩:=Int.eq_ofNat_of_zero_le (Int.le_of_lt hb)
  rw [dP t (by omega),← Rat.divInt_eq_div,← Rat.divInt_ofNat]
theorem mQ (p q:Rat):dN (p.num * (q.den:Int) + q.num * (p.den:Int)) ((p.den:Int) * (q.den:Int)) = fr (p + q):=by
  rw [Rat.add_def',← dP _ (Nat.mul_ne_zero p.den_nz q.den_nz)]
  simp
theorem tG (p q:Rat):dN (p.num * (q.den:Int) - q.num * (p.den:Int)) ((p.den:Int) * (q.den:Int)) = fr (p - q):=by
  rw [Rat.sub_def',← dP _ (Nat.mul_ne_zero p.den_nz q.den_nz)]
  simp
theorem nB (p q:Rat):dN (p.num * q.num) ((p.den:Int) * (q.den:Int)) = fr (p * q):=by
  rw [Rat.mul_def',← dP _ (Nat.mul_ne_zero p.den_nz q.den_nz)]
  simp
theorem num_pos {q:Rat}:0 < q.num↔0 < q:=by
  rw [Rat.lt_iff]; simp
theorem t5 (p q:Rat) (h:0 < q):dN (p.num * (q.den:Int)) ((p.den:Int) * q.num) = fr (p / q):=by
  have hn:=num_pos.mpr h
  have hp:(0:Int) < p.den:=by have:=p.den_pos; omega
  rw [fN _ (Int.mul_pos hp hn)]
  congr 1
  have e1:p = (p.num:Rat) / (p.den:Rat):=by
    have:=Rat.num_divInt_den p
    rw [Rat.divInt_eq_div] at this
    exact this.symm
  have e2:q = (q.num:Rat) / (q.den:Rat):=by
    have:=Rat.num_divInt_den q
    rw [Rat.divInt_eq_div] at this
    exact this.symm
  have d1:(p.den:Rat)≠0:=by have:=p.den_nz; exact_mod_cast this
  have d2:(q.den:Rat)≠0:=by have:=q.den_nz; exact_mod_cast this
  have d3:(q.num:Rat)≠0:=by
    have:q.num≠0:=by omega
    exact_mod_cast this
  conv=>rhs; rw [e1,e2]
  push_cast
  grind
def Bb (q:Rat):Prop:=Bt 1000 q.num∧Bt 1000 (q.den:Int)
def Bq (D:Nat) (q:Rat):Prop:=0≤q∧q≤1∧∃ n:Nat,q * (D:Rat) = (n:Rat)
def Bz (D:Nat) (q:Rat):Prop:=∃ n:Int,q * (D:Rat) = (n:Rat)∧n.natAbs≤4 * D
theorem lC {D:Nat} (h:0 < D):(0:Rat) < (D:Rat):=by exact_mod_cast h
theorem qv {D:Nat} {q:Rat} {n:Int} (hD:0 < D) (e:q * (D:Rat) = (n:Rat)):q = mkRat n D:=by
  have hp:=lC hD
  have:q = (n:Rat) / (D:Rat):=by grind
  rw [this,← Rat.divInt_ofNat,Rat.divInt_eq_div]
  rfl
theorem Bz.bb {D:Nat} {q:Rat} (hD:0 < D) (hl:D < 2 ^ 980) (h:Bz D q):Bb q:=by
  obtain ⟨n,e,hn⟩:=h
  have eq:=qv hD e
  have l:=dP n (show D≠0 by omega)
  rw [← eq] at l
  have hd:(0:Int) < (D:Int):=by omega
  obtain ⟨_,_,_,l4,l5⟩:=low n (D:Int) hd
  have e1:(dN n (D:Int)).1 = q.num:=by rw [l]; rfl
  have e2:(dN n (D:Int)).2 = (q.den:Int):=by rw [l]; rfl
  have e1':n / (Int.gcd n (D:Int):Int) = q.num:=e1
  have e2':(D:Int) / (Int.gcd n (D:Int):Int) = (q.den:Int):=e2
  rw [e1'] at l4
  rw [e2'] at l5
  have p1:(2:Nat) ^ 1000 = 2 ^ 980 * 1048576:=by decide +kernel
  unfold Bb Bt
  rw [p1]
  constructor <;> omega
theorem rF {n:Nat}:(0:Rat)≤(n:Rat):=by exact_mod_cast Nat.zero_le n
theorem pZ {n m:Nat} (h:(n:Rat)≤(m:Rat)):n≤m:=by exact_mod_cast h
theorem eB {n m:Nat} (h:m≤n):((n - m:Nat):Rat) = (n:Rat) - (m:Rat):=by
  obtain ⟨k,rfl⟩:=Nat.exists_eq_add_of_le h
  rw [Nat.add_sub_cancel_left]
  push_cast
  grind
theorem fw {a b:Rat} (ha:0≤a) (hb:0≤b):0≤a * b:=Rat.mul_nonneg ha hb
theorem Bq.nat {D:Nat} {q:Rat} (h:Bq D q):∃ n:Nat,q * (D:Rat) = (n:Rat)∧n≤D:=by
  obtain ⟨h0,h1,n,e⟩:=h
  refine ⟨n,e,pZ ?_⟩
  have:=fw (show 0≤1 - q by grind) (rF (n:=D))
  grind
theorem Bq.z {D:Nat} {q:Rat} (h:Bq D q):Bz D q:=by
  obtain ⟨n,e,hn⟩:=h.nat
  exact ⟨(n:Int),by rw [e]; rfl,by omega⟩
theorem Bq.bb {D:Nat} {q:Rat} (hD:0 < D) (hl:D < 2 ^ 980) (h:Bq D q):Bb q:=h.z.bb hD hl
theorem Bq.mul {D E:Nat} {q r:Rat} (h:Bq D q) (h':Bq E r):Bq (D * E) (q * r):=by
  obtain ⟨h0,h1,n,e⟩:=h
  obtain ⟨g0,g1,m,f⟩:=h'
  refine ⟨fw h0 g0,?_,n * m,?_⟩
  · have:=fw h0 (show 0≤1 - r by grind)
    grind
  · push_cast
    grind
theorem Bq.up {D:Nat} (E:Nat) {q:Rat} (h:Bq D q):Bq (D * E) q:=by
  obtain ⟨h0,h1,n,e⟩:=h
  refine ⟨h0,h1,n * E,?_⟩
  push_cast
  grind
theorem Bq.up' {D:Nat} (E:Nat) {q:Rat} (h:Bq D q):Bq (E * D) q:=by rw [Nat.mul_comm]; exact h.up E
theorem Bq.add {D:Nat} {q r:Rat} (h:Bq D q) (h':Bq D r) (l:q + r≤1):Bq D (q + r):=by
  obtain ⟨h0,h1,n,e⟩:=h
  obtain ⟨g0,g1,m,f⟩:=h'
  refine ⟨by grind,l,n + m,?_⟩
  push_cast
  grind
theorem Bq.zero {D:Nat}:Bq D 0:=⟨by grind,by grind,0,by grind⟩
theorem Bq.one {D:Nat}:Bq D 1:=⟨by grind,by grind,D,by grind⟩
theorem rD {B:Nat} {q:Rat} (a b c:Int) {h k:Rat} {n m:Nat} (e:h * (B:Rat) = (n:Rat)) (f:k * (B:Rat) = (m:Rat)) (hn:n≤B) (hm:m≤B) (hq:q = (a:Rat) * h + (b:Rat) * k + (c:Rat)) (ha:a.natAbs≤1) (hb:b.natAbs≤1) (hc:c.natAbs≤2):Bz B q:=by
  refine ⟨a * n + b * m + c * B,?_,?_⟩
  · push_cast
    rw [hq]
    grind
  · have h1:(a * (n:Int)).natAbs≤B:=by rw [Int.natAbs_mul]; have:=Nat.mul_le_mul ha hn; simp at this ⊢; exact this
    have h2:(b * (m:Int)).natAbs≤B:=by rw [Int.natAbs_mul]; have:=Nat.mul_le_mul hb hm; simp at this ⊢; exact this
    have h3:(c * (B:Int)).natAbs≤2 * B:=by rw [Int.natAbs_mul]; have:=Nat.mul_le_mul hc (Nat.le_refl B); simp at this ⊢; exact this
    omega
section
variable {B:Nat} {h c:Rat}
theorem v5 (H:Bq B h) (C:Bq B c):Bz B (h + c):=by
  obtain ⟨n,e,hn⟩:=H.nat
  obtain ⟨m,f,hm⟩:=C.nat
  exact rD 1 1 0 e f hn hm (by push_cast; grind) (by decide) (by decide) (by decide)
theorem tU (H:Bq B h) (C:Bq B c):Bz B (h + c - 1):=by
  obtain ⟨n,e,hn⟩:=H.nat
  obtain ⟨m,f,hm⟩:=C.nat
  exact rD 1 1 (-1) e f hn hm (by push_cast; grind) (by decide) (by decide) (by decide)
theorem sF (H:Bq B h) (C:Bq B c):Bz B (2 - (h + c)):=by
  obtain ⟨n,e,hn⟩:=H.nat
  obtain ⟨m,f,hm⟩:=C.nat
  exact rD (-1) (-1) 2 e f hn hm (by push_cast; grind) (by decide) (by decide) (by decide)
theorem jy (C:Bq B c):Bq B (1 - c):=by
  obtain ⟨m,f,hm⟩:=C.nat
  obtain ⟨c0,c1,_⟩:=C
  refine ⟨by grind,by grind,B - m,?_⟩
  rw [eB hm]
  grind
theorem sg (H:Bq B h) (C:Bq B c) (h1:h < 1) (c1:c < 1):Bq B (hb h c):=by
  obtain ⟨h0,_,n,e⟩:=H
  obtain ⟨c0,_,m,f⟩:=C
  unfold hb
  split
  · exact ⟨by grind,by grind,n + m,by push_cast; grind⟩
  · refine ⟨by grind,by grind,n + m - B,?_⟩
    have:(B:Rat)≤((n + m:Nat):Rat):=by
      push_cast
      have:=fw (show 0≤h + c - 1 by grind) (rF (n:=B))
      grind
    rw [eB (pZ this)]
    push_cast
    grind
theorem fG {a b:Rat} (A:∃ n:Nat,a * (B:Rat) = (n:Rat)) (hB:∃ n:Nat,b * (B:Rat) = (n:Rat)) (a0:0≤a) (b0:0 < b) (l:a≤b) (hp:0 < B) (T:Nat) (eT:b * (B:Rat) = (T:Rat)):Bq T (a / b):=by
  obtain ⟨n,e⟩:=A
  refine ⟨ei a0 b0,?_,n,?_⟩
  · have:a / b = 1 - (b - a) / b:=by grind
    have:=ei (show 0≤b - a by grind) b0
    grind
  · rw [← eT,← e]
    grind
end
theorem iw {B:Nat} {h c:Rat} (hp:0 < B) (H:Bq B h) (C:Bq B c) (h1:h < 1) (c0:0 < c) (c1:c < 1):∃ T:Nat,0 < T∧T≤2 * B ∧
    (h + c < 1→Bq T (h / (h + c))∧Bq T (c / (h + c)))∧(¬ h + c < 1→Bq T ((1 - c) / (2 - (h + c)))∧Bq T ((1 - h) / (2 - (h + c)))):=by
  obtain ⟨n,e,hn⟩:=H.nat
  obtain ⟨m,f,hm⟩:=C.nat
  obtain ⟨h0,_,_⟩:=H
  have hpB:=lC hp
  by_cases k:h + c < 1
  · have eT:(h + c) * (B:Rat) = ((n + m:Nat):Rat):=by push_cast; grind
    refine ⟨n + m,?_,by omega,fun _=>⟨fG ⟨n,e⟩ ⟨_,eT⟩ h0 (by grind) (by grind) hp _ eT,fG ⟨m,f⟩ ⟨_,eT⟩ (by grind) (by grind) (by grind) hp _ eT⟩,fun z=>absurd k z⟩
    have:(0:Rat) < (m:Rat):=by rw [← f]; exact Rat.mul_pos c0 hpB
    have:0 < m:=by exact_mod_cast this
    omega
  · have eT:(2 - (h + c)) * (B:Rat) = ((2 * B - (n + m):Nat):Rat):=by rw [eB (by omega)]; push_cast; grind
    have e1:(1 - c) * (B:Rat) = ((B - m:Nat):Rat):=by rw [eB (by omega)]; grind
    have e2:(1 - h) * (B:Rat) = ((B - n:Nat):Rat):=by rw [eB (by omega)]; grind
    refine ⟨2 * B - (n + m),?_,by omega,fun z=>absurd z k,fun _=>⟨fG ⟨_,e1⟩ ⟨_,eT⟩ (by grind) (by grind) (by grind) hp _ eT,fG ⟨_,e2⟩ ⟨_,eT⟩ (by grind) (by grind) (by grind) hp _ eT⟩⟩
    have:(0:Rat) < ((2 * B - (n + m):Nat):Rat):=by rw [← eT]; exact Rat.mul_pos (by grind) hpB
    exact_mod_cast this
def Pu (D:Nat) (us:Rat×Rat):Prop:=Bq D us.1∧Bq D us.2∧us.1 + us.2≤1
theorem Pu.step {B D T:Nat} {h c:Rat} {us:Rat×Rat} (P:Pu D us) (h0:0≤h) (h1:h < 1) (c0:0 < c) (c1:c < 1) (hT:(h + c < 1→Bq T (h / (h + c))∧Bq T (c / (h + c)))∧(¬ h + c < 1→Bq T ((1 - c) / (2 - (h + c)))∧Bq T ((1 - h) / (2 - (h + c))))):Pu (D * T) (aZ h us c):=by
  obtain ⟨p1,p2,p3⟩:=P
  unfold aZ
  split
  · rename_i k
    obtain ⟨t1,t2⟩:=hT.1 k
    refine ⟨p1.mul t1,p2.up T,?_⟩
    have:=fw p1.1 (show 0≤1 - h / (h + c) by have:=t1.2.1; grind)
    grind
  · rename_i k
    obtain ⟨t1,t2⟩:=hT.2 k
    have s1:(1 - c) / (2 - (h + c)) + (1 - h) / (2 - (h + c)) = 1:=by grind
    have e:us.1 * ((1 - h) / (2 - (h + c))) + (us.2 + us.1 * ((1 - c) / (2 - (h + c)))) = us.1 + us.2:=by
      have:us.1 * ((1 - h) / (2 - (h + c))) + us.1 * ((1 - c) / (2 - (h + c))) = us.1:=by
        rw [← Rat.mul_add,Rat.add_comm ((1 - h) / (2 - (h + c))),s1]; grind
      grind
    refine ⟨p1.mul t2,(p2.up T).add (p1.mul t1) ?_,by rw [e]; exact p3⟩
    have:=(p1.mul t2).1
    grind
theorem Pu.new {T:Nat} {h c:Rat} (h0:0≤h) (h1:h < 1) (c0:0 < c) (c1:c < 1) (hT:(h + c < 1→Bq T (h / (h + c))∧Bq T (c / (h + c)))∧(¬ h + c < 1→Bq T ((1 - c) / (2 - (h + c)))∧Bq T ((1 - h) / (2 - (h + c))))):Pu T (us0 h c):=by
  unfold us0
  split
  · rename_i k
    obtain ⟨t1,t2⟩:=hT.1 k
    exact ⟨t2,Bq.zero,by have:=t2.2.1; grind⟩
  · rename_i k
    obtain ⟨t1,t2⟩:=hT.2 k
    exact ⟨t1,t2,by grind⟩
theorem Pu.up {D:Nat} {us:Rat×Rat} (P:Pu D us) (E:Nat):Pu (E * D) us:=⟨P.1.up' E,P.2.1.up' E,P.2.2⟩
theorem Pu.bk {B D:Nat} {h c:Rat} {us:Rat×Rat} (P:Pu D us) (C:Bq B c) (H:Bq B h) (h1:h < 1) (c1:c < 1):Bq (D * B) (us.2 * c)∧(0 < h + c - 1→Bq B (h + c - 1)∧Bq (D * B) (us.1 * (h + c - 1)))∧Bq (D * B) (bk us h c):=by
  obtain ⟨p1,p2,p3⟩:=P
  have q1:=p2.mul C
  have q2:0 < h + c - 1→Bq B (h + c - 1):=fun z=>by
    have:=sg H C h1 c1
    unfold hb at this
    rw [if_neg (by grind)] at this
    exact this
  refine ⟨q1,fun z=>⟨q2 z,p1.mul (q2 z)⟩,?_⟩
  unfold Du.bk
  split
  · rename_i z
    refine q1.add (p1.mul (q2 z)) ?_
    have a1:=fw p2.1 (show 0≤1 - c by grind)
    have a2:=fw p1.1 (show 0≤1 - (h + c - 1) by grind)
    grind
  · exact q1
end Du
namespace Du
abbrev Fn:=Nat→Nat→Option Rat
def iI (f:Fn) (x y:Nat) (v:Rat):Fn:=fun a b=>if a = x∧b = y then some v else f a b
abbrev Er:=List (Nat×(Rat×Rat))
def fX (p:Nat) (h c:Rat) (e:Er) (f:Fn):Fn:=e.foldl (fun f z=>iI (iI f z.1 p (bk z.2 h c)) p z.1 (bk z.2 h c)) f
def bi (S:Fn×Er×Rat) (x:Nat×Rat):Fn×Er×Rat:=(fX x.1 S.2.2 x.2 S.2.1 S.1,S.2.1.map (fun z=>(z.1,aZ S.2.2 z.2 x.2)) ++ [(x.1,us0 S.2.2 x.2)],hb S.2.2 x.2)
def k0:Fn×Er×Rat:=(fun _ _=>none,[],0)
def dI (L:List (Nat×Rat)):Fn:=(L.foldl bi k0).1
theorem mM {f:Fn} {x y:Nat} {v:Rat}:iI f x y v x y = some v:=if_pos ⟨rfl,rfl⟩
theorem dC {f:Fn} {x y a b:Nat} {v:Rat} (h:¬ (a = x∧b = y)):iI f x y v a b = f a b:=if_neg h
theorem eh {p:Nat} {h c:Rat} {f:Fn} {z:Nat×(Rat×Rat)} {e:Er}:fX p h c (z :: e) f = fX p h c e (iI (iI f z.1 p (bk z.2 h c)) p z.1 (bk z.2 h c)):=rfl
theorem mU {p:Nat} {h c:Rat} {a b:Nat} (ha:a≠p) (hb:b≠p):∀ {e:Er} {f:Fn},fX p h c e f a b = f a b
  | [],_=>rfl
  | z :: e,f=>by
    rw [eh,mU ha hb,dC (fun q=>ha q.1),dC (fun q=>hb q.2)]
theorem jg {p:Nat} {h c:Rat} {x:Nat} (hx:x≠p):∀ {e:Er} {f:Fn},x ∉ e.map (·.1)→fX p h c e f x p = f x p
  | [],_,_=>rfl
  | z :: e,f,n=>by
    rw [List.map_cons,List.mem_cons,not_or] at n
    rw [eh,jg hx n.2,dC (fun q=>hx q.1),dC (fun q=>n.1 q.1)]
theorem mY {p:Nat} {h c:Rat} {x:Nat} {us:Rat×Rat} (hx:x≠p):∀ {e:Er} {f:Fn},(e.map (·.1)).Nodup→(x,us) ∈ e→fX p h c e f x p = some (bk us h c)
  | [],_,_,m=>by cases m
  | z :: e,f,nd,m=>by
    rw [List.map_cons,List.nodup_cons] at nd
    rw [eh]
    rcases List.mem_cons.mp m with e1 | e1
    · rw [← e1] at nd ⊢
      rw [jg hx nd.1,dC (fun q=>hx q.1),mM]
    · exact mY hx nd.2 e1
theorem oq {p:Nat} {h c:Rat}:∀ {e:Er} {f:Fn},(∀ a b,f a b = f b a)→∀ a b,fX p h c e f a b = fX p h c e f b a
  | [],_,s=>s
  | z :: e,f,s=>by
    rw [eh]
    refine oq fun a b=>?_
    unfold iI
    have:=s a b
    grind
theorem kM:∀ {L:List (Nat×Rat)} {S:Fn×Er×Rat},(∀ a b,S.1 a b = S.1 b a)→∀ a b,(L.foldl bi S).1 a b = (L.foldl bi S).1 b a
  | [],_,s=>s
  | x :: L,S,s=>by
    rw [List.foldl_cons]
    exact kM (oq s)
theorem sd (L:List (Nat×Rat)) (a b:Nat):dI L a b = dI L b a:=kM (fun _ _=>rfl) a b
theorem jQ:∀ {L:List (Nat×Rat)} {S:Fn×Er×Rat},(L.foldl bi S).2.1.map (·.1) = S.2.1.map (·.1) ++ L.map (·.1)
  | [],S=>by simp
  | x :: L,S=>by
    rw [List.foldl_cons,jQ]
    unfold bi
    simp [Function.comp_def]
theorem jw:∀ {L:List (Nat×Rat)} {S:Fn×Er×Rat},(L.foldl bi S).2.2 = (L.map (·.2)).foldl hb S.2.2
  | [],_=>rfl
  | x :: L,S=>by rw [List.foldl_cons,jw,List.map_cons,List.foldl_cons]; rfl
theorem ik {x:Nat}:∀ {L:List (Nat×Rat)} {S:Fn×Er×Rat} {us:Rat×Rat},(x,us) ∈ S.2.1→(x,((L.map (·.2)).foldl gW (S.2.2,us)).2) ∈ (L.foldl bi S).2.1∧(L.foldl bi S).2.2 = ((L.map (·.2)).foldl gW (S.2.2,us)).1
  | [],_,_,m=>⟨m,rfl⟩
  | y :: L,S,us,m=>by
    rw [List.foldl_cons,List.map_cons,List.foldl_cons]
    have m':(x,aZ S.2.2 us y.2) ∈ (bi S y).2.1:=List.mem_append_left _ (List.mem_map.mpr ⟨_,m,rfl⟩)
    exact ik (S:=bi S y) m'
theorem kT {a b:Nat}:∀ {L:List (Nat×Rat)} {S:Fn×Er×Rat},a ∉ L.map (·.1)→b ∉ L.map (·.1)→(L.foldl bi S).1 a b = S.1 a b
  | [],_,_,_=>rfl
  | y :: L,S,ha,hb=>by
    rw [List.map_cons,List.mem_cons,not_or] at ha hb
    rw [List.foldl_cons,kT ha.2 hb.2]
    exact mU ha.1 hb.1
theorem qp {x y:Nat} {c1 c2:Rat} {A B C:List (Nat×Rat)} (nd:((A ++ (x,c1) :: (B ++ (y,c2) :: C)).map (·.1)).Nodup) :
    dI (A ++ (x,c1) :: (B ++ (y,c2) :: C)) x y = some (bk ((B.map (·.2)).foldl gW (hb ((A.map (·.2)).foldl hb 0) c1,us0 ((A.map (·.2)).foldl hb 0) c1)).2 ((B.map (·.2)).foldl gW (hb ((A.map (·.2)).foldl hb 0) c1,us0 ((A.map (·.2)).foldl hb 0) c1)).1 c2):=by
  unfold dI
  rw [List.foldl_append,List.foldl_cons,List.foldl_append,List.foldl_cons]
  have hh:(A.foldl bi k0).2.2 = (A.map (·.2)).foldl hb 0:=jw
  have pl:(A.foldl bi k0).2.1.map (·.1) = A.map (·.1):=by rw [jQ]; rfl
  obtain ⟨S,hS⟩:∃ S,S = A.foldl bi k0:=⟨_,rfl⟩
  rw [← hS] at hh pl ⊢
  have m1:(x,us0 S.2.2 c1) ∈ (bi S (x,c1)).2.1:=List.mem_append_right _ (List.mem_singleton.mpr rfl)
  obtain ⟨m2,e2⟩:=ik (L:=B) m1
  have pl2:(B.foldl bi (bi S (x,c1))).2.1.map (·.1) = A.map (·.1) ++ x :: B.map (·.1):=by
    rw [jQ]
    unfold bi
    simp [Function.comp_def]
    rw [← pl]
  have e3:(bi S (x,c1)).2.2 = hb S.2.2 c1:=rfl
  rw [e3,hh] at m2 e2
  simp only [List.map_append,List.map_cons] at nd
  have nxy:x≠y:=by
    rintro rfl
    have:=List.nodup_append.mp nd
    simp at this
  have nd2:((B.foldl bi (bi S (x,c1))).2.1.map (·.1)).Nodup:=by
    rw [pl2]
    have e:(A.map (·.1) ++ x :: (B.map (·.1) ++ y :: C.map (·.1))) = (A.map (·.1) ++ x :: B.map (·.1)) ++ y :: C.map (·.1):=by simp
    rw [e] at nd
    exact (List.nodup_append.mp nd).1
  have nC:x ∉ C.map (·.1)∧y ∉ C.map (·.1):=by
    have h1:=(List.nodup_append.mp nd).2.1
    rw [List.nodup_cons] at h1
    have h2:=(List.nodup_append.mp h1.2).2.1
    rw [List.nodup_cons] at h2
    exact ⟨fun z=>h1.1 (List.mem_append_right _ (List.mem_cons_of_mem _ z)),h2.1⟩
  rw [kT nC.1 nC.2]
  show fX y (B.foldl bi (bi S (x,c1))).2.2 c2 (B.foldl bi (bi S (x,c1))).2.1 (B.foldl bi (bi S (x,c1))).1 x y = _
  rw [mY nxy nd2 m2,e2]
theorem lu {p:Nat} {h c:Rat} {a b:Nat}:∀ {e:Er} {f:Fn},f a b = none→¬ (a = p∧b ∈ e.map (·.1))→¬ (b = p∧a ∈ e.map (·.1))→fX p h c e f a b = none
  | [],_,n,_,_=>n
  | z :: e,f,n,h1,h2=>by
    rw [List.map_cons,List.mem_cons] at h1 h2
    rw [eh]
    refine lu ?_ (fun q=>h1 ⟨q.1,.inr q.2⟩) (fun q=>h2 ⟨q.1,.inr q.2⟩)
    rw [dC (fun q=>h1 ⟨q.1,.inl q.2⟩),dC (fun q=>h2 ⟨q.2,.inl q.1⟩)]
    exact n
theorem i5 {a b:Nat}:∀ {L:List (Nat×Rat)} {S:Fn×Er×Rat},S.1 a b = none→¬ (a ∈ S.2.1.map (·.1) ++ L.map (·.1)∧b ∈ S.2.1.map (·.1) ++ L.map (·.1))→(L.foldl bi S).1 a b = none
  | [],_,n,_=>n
  | y :: L,S,n,h=>by
    rw [List.foldl_cons]
    have pl:(bi S y).2.1.map (·.1) = S.2.1.map (·.1) ++ [y.1]:=by unfold bi; simp [Function.comp_def]
    refine i5 (lu n (fun q=>h ⟨?_,?_⟩) (fun q=>h ⟨?_,?_⟩)) ?_
    · rw [q.1]; simp
    · exact List.mem_append_left _ q.2
    · exact List.mem_append_left _ q.2
    · rw [q.1]; simp
    · rw [pl]; simpa [List.append_assoc] using h
theorem hJ {L:List (Nat×Rat)} {a b:Nat} (h:¬ (a ∈ L.map (·.1)∧b ∈ L.map (·.1))):dI L a b = none:=i5 rfl (by simpa [k0] using h)
def bZ (c:Rat):Bool:=decide (0 < c∧c < 1)
theorem unsQ_iff {c:Rat}:bZ c = true↔Uns c:=decide_eq_true_iff
end Du
namespace Du
abbrev sw:Nat×Nat→Rat:=fun _=>1
def NdK (st:Sts):Prop:=(st.map (·.1)).Nodup
theorem lr (k:Nat×Nat) (m:Rat):∀ st:Sts,(fu k m st).map (·.1) = if k ∈ st.map (·.1) then st.map (·.1) else st.map (·.1) ++ [k]
  | []=>by simp [fu]
  | x :: r=>by
    rw [fu]
    by_cases c:x.1 = k
    · rw [if_pos c]; simp [c]
    · rw [if_neg c,List.map_cons,lr k m r,List.map_cons]
      have c':¬ k = x.1:=fun z=>c z.symm
      by_cases h:k ∈ r.map (·.1)
      · rw [if_pos h,if_pos (List.mem_cons_of_mem _ h)]
      · rw [if_neg h,if_neg (fun z=>(List.mem_cons.mp z).elim c' h)]; rfl
theorem NdK.add {k:Nat×Nat} {m:Rat} {st:Sts} (h:NdK st):NdK (fu k m st):=by
  unfold NdK
  rw [lr]
  split
  · exact h
  · rename_i n
    exact List.nodup_append.mpr ⟨h,by simp,fun a ha b hb=>by simp at hb; rw [hb]; exact fun z=>n (z ▸ ha)⟩
theorem NdK.put {k:Nat×Nat} {m:Rat} {st:Sts} (h:NdK st):NdK (gG st k m):=by
  unfold gG; split
  · exact h.add
  · exact h
theorem NdK.step {h c:Rat} {mk:Nat} {acc:Sts} {x:(Nat×Nat)×Rat} (n:NdK acc):NdK (d8 h c mk acc x):=by
  unfold d8; split
  · exact n.put.put
  · exact n.put.put
theorem NdK.fold {h c:Rat} {mk:Nat}:∀ {st acc:Sts},NdK acc→NdK (st.foldl (d8 h c mk) acc)
  | [],_,n=>n
  | x :: r,acc,n=>NdK.fold (st:=r) (acc:=d8 h c mk acc x) n.step
theorem NdK.come {h c:Rat} {mk:Nat} {st:Sts}:NdK (cm h c mk st):=NdK.fold List.nodup_nil
def Al (S:Nat) (st:Sts):Prop:=∀ x ∈ st,x.1.1 ||| S = S∧x.1.2 ||| S = S
theorem pT {a S mk:Nat} (h:a ||| S = S):a ||| (S ||| mk) = S ||| mk:=by rw [← Nat.or_assoc,h]
theorem jY {a b S:Nat} (h:a ||| S = S) (h':b ||| S = S):(a ||| b) ||| S = S:=by rw [Nat.or_assoc,h',h]
theorem oo {a S:Nat} (h:a ||| S = S) {n:Nat} (hn:n = 0∨n = 1):(a * n) ||| S = S:=by
  rcases hn with e | e <;> rw [e]
  · simp
  · rw [Nat.mul_one]; exact h
theorem Al.step {S mk:Nat} {hs:Rat×Sts} {c:Rat} (h:Al S hs.2):Al (S ||| mk) (aH hs (c,mk)).2:=by
  have mS:mk ||| (S ||| mk) = S ||| mk:=by rw [Nat.or_comm S mk,← Nat.or_assoc,Nat.or_self]
  have up:∀ x ∈ hs.2,x.1.1 ||| (S ||| mk) = S ||| mk∧x.1.2 ||| (S ||| mk) = S ||| mk:=fun x hx=>⟨pT (h x hx).1,pT (h x hx).2⟩
  intro x hx
  unfold aH at hx
  by_cases e:c = 1
  · rw [if_pos e] at hx
    obtain ⟨y,hy,rfl⟩:=List.mem_map.mp hx
    exact ⟨(up y hy).1,jY (up y hy).2 mS⟩
  · rw [if_neg e] at hx
    by_cases p:0 < c
    · rw [if_pos p] at hx
      obtain ⟨y,hy,g⟩:=fW hx
      have s01:=iA hs.1 c
      obtain ⟨u1,u2⟩:=up y hy
      rcases g with g | g | g | g <;> rw [g]
      · exact ⟨u1,u2⟩
      · exact ⟨mS,u2⟩
      · exact ⟨oo mS s01,jY u2 u1⟩
      · exact ⟨oo u1 s01,jY u2 mS⟩
    · rw [if_neg p] at hx
      exact up x hx
def Mk:Nat→List (Rat×Nat)→Prop
  | _,[]=>True
  | S,x :: r=>(x.2 = 0∨x.2 &&& S = 0)∧x.2 < 4∧S < 4∧Mk (S ||| x.2) r
theorem vH (mk S:Nat) (hm:mk < 4) (hS:S < 4) (h:mk = 0∨mk &&& S = 0) (a b:Nat) (ha:a ||| S = S) (hb:b ||| S = S) (e:a ||| mk = b ||| mk):a = b:=by
  have la:a < 4:=by have:=Nat.left_le_or (n:=a) (m:=S); omega
  have lb:b < 4:=by have:=Nat.left_le_or (n:=b) (m:=S); omega
  have all:∀ mk S a b:Fin 4,(mk.1 = 0∨mk.1 &&& S.1 = 0)→a.1 ||| S.1 = S.1→b.1 ||| S.1 = S.1→a.1 ||| mk.1 = b.1 ||| mk.1→a.1 = b.1:=by decide +kernel
  exact all ⟨mk,hm⟩ ⟨S,hS⟩ ⟨a,la⟩ ⟨b,lb⟩ h ha hb e
theorem NdK.map {S mk:Nat} {st:Sts} (n:NdK st) (al:Al S st) (hm:mk < 4) (hS:S < 4) (h:mk = 0∨mk &&& S = 0):NdK (st.map fun y=>((y.1.1,y.1.2 ||| mk),y.2)):=by
  unfold NdK at *
  rw [List.map_map]
  have:∀ st:Sts,(∀ x ∈ st,x.1.1 ||| S = S∧x.1.2 ||| S = S)→(st.map (·.1)).Nodup→(st.map ((fun x=>x.1) ∘ fun y=>((y.1.1,y.1.2 ||| mk),y.2))).Nodup:=by
    intro st
    induction st with
    | nil=>intro _ _; exact List.nodup_nil
    | cons x r ih =>
      intro al nd
      rw [List.map_cons,List.nodup_cons] at nd
      rw [List.map_cons,List.nodup_cons]
      refine ⟨fun z=>?_,ih (fun y hy=>al y (List.mem_cons_of_mem _ hy)) nd.2⟩
      obtain ⟨y,hy,e⟩:=List.mem_map.mp z
      have e:(y.1.1,y.1.2 ||| mk) = (x.1.1,x.1.2 ||| mk):=e
      injection e with e1 e2
      have a1:=al x (List.mem_cons_self ..)
      have a2:=al y (List.mem_cons_of_mem _ hy)
      have e3:=vH mk S hm hS h _ _ a2.2 a1.2 e2
      exact nd.1 (List.mem_map.mpr ⟨y,hy,Prod.ext e1 e3⟩)
  exact this st al n
theorem NdK.dstep {S:Nat} {hs:Rat×Sts} {x:Rat×Nat} {r:List (Rat×Nat)} (n:NdK hs.2) (al:Al S hs.2) (m:Mk S (x :: r)):NdK (aH hs x).2:=by
  unfold aH
  split
  · exact n.map al m.2.1 m.2.2.1 m.1
  · split
    · exact NdK.come
    · exact n
def xq (D:Nat) (st:Sts):Prop:=∀ x ∈ st,Bq D x.2
def zj (st:Sts) (k:Nat×Nat):Rat:=match st with
  | []=>0
  | x :: r=>if x.1 = k then x.2 else zj r k
structure Mid (D:Nat) (acc:Sts) (s:Rat):Prop where
  pos:Psv acc
  nd:NdK acc
  b:xq D acc
  sum:Sf acc sw = s
structure Law (B D S:Nat) (hs:Rat×Sts):Prop where
  H:Hs hs
  hB:Bq B hs.1
  nd:NdK hs.2
  b:xq D hs.2
  one:Sf hs.2 sw = 1
  al:Al S hs.2
theorem Law.sure {B D S:Nat} {hs:Rat×Sts} {mk:Nat} {r:List (Rat×Nat)} (L:Law B D S hs) (m:Mk S ((1,mk) :: r)):Law B D (S ||| mk) (aH hs (1,mk)):=by
  have ed:aH hs (1,mk) = (hs.1,hs.2.map fun y=>((y.1.1,y.1.2 ||| mk),y.2)):=by
    unfold aH
    rw [if_pos rfl]
  have al:=Al.step (mk:=mk) (c:=1) L.al
  have nd:=L.nd.dstep L.al m
  have hh:=L.H.step (x:=(1,mk)) ⟨by show (0:Rat)≤1; grind,by show (1:Rat)≤1; grind⟩
  rw [ed] at al nd hh ⊢
  refine ⟨hh,L.hB,nd,fun x hx=>?_,?_,al⟩
  · obtain ⟨y,hy,rfl⟩:=List.mem_map.mp hx
    exact L.b y hy
  · have:∀ st:Sts,Sf (st.map fun y=>((y.1.1,y.1.2 ||| mk),y.2)) sw = Sf st sw:=fun st=>by
      induction st with
      | nil=>rfl
      | cons x r ih=>rw [List.map_cons,cf,cf,ih]
    exact (this hs.2).trans L.one
theorem Law.none {B D S:Nat} {hs:Rat×Sts} {mk:Nat} (L:Law B D S hs):Law B D (S ||| mk) (aH hs (0,mk)):=by
  have ed:aH hs (0,mk) = hs:=by
    unfold aH
    rw [if_neg (show ¬ (0:Rat) = 1 by grind),if_neg (show ¬ (0:Rat) < 0 by grind)]
  have al:=Al.step (mk:=mk) (c:=0) L.al
  rw [ed] at al ⊢
  exact ⟨L.H,L.hB,L.nd,L.b,L.one,al⟩
end Du
namespace FrM
def Fr (B:Int) (f:Int×Int):Prop:=0≤f.1∧f.1≤f.2∧0 < f.2∧f.2 ∣ B
def uns (f:Int×Int):Bool:=decide (0 < f.1∧f.1 < f.2)
def bd (a b:Int):Int:=a / (Int.gcd a b:Int) * b
theorem qd (x y:Nat):bd (x:Int) (y:Int) = (Nat.lcm x y:Nat):=by
  unfold bd
  rw [Int.gcd_natCast_natCast,← Int.natCast_ediv,← Int.natCast_mul,Nat.div_mul_right_comm (Nat.gcd_dvd_left x y)]
  rfl
theorem nQ {a b B:Int} (ha:0 < a) (hb:0 < b) (hB:0 < B) (da:a ∣ B) (db:b ∣ B):0 < bd a b∧a ∣ bd a b∧b ∣ bd a b∧bd a b ∣ B:=by
  obtain ⟨x,rfl⟩:=Int.eq_ofNat_of_zero_le (Int.le_of_lt ha)
  obtain ⟨y,rfl⟩:=Int.eq_ofNat_of_zero_le (Int.le_of_lt hb)
  obtain ⟨z,rfl⟩:=Int.eq_ofNat_of_zero_le (Int.le_of_lt hB)
  rw [qd]
  rw [Int.ofNat_dvd,] at da db
  refine ⟨?_,Int.ofNat_dvd.mpr (Nat.dvd_lcm_left x y),Int.ofNat_dvd.mpr (Nat.dvd_lcm_right x y),Int.ofNat_dvd.mpr (Nat.lcm_dvd da db)⟩
  exact Int.natCast_pos.mpr (Nat.lcm_pos (Int.natCast_pos.mp ha) (Int.natCast_pos.mp hb))
def duA (c e:Int×Int):Int:=c.1 * (bd c.2 e.2 / c.2)
def duB (c e:Int×Int):Int:=e.1 * (bd c.2 e.2 / e.2)
def duL (c e:Int×Int):Bool:=decide (duA c e + duB c e < bd c.2 e.2)
def du1 (c e:Int×Int):Int:=if duL c e = true then duA c e else bd c.2 e.2 - duB c e
def du2 (c e:Int×Int):Int:=if duL c e = true then duB c e else bd c.2 e.2 - duA c e
def duR (c e:Int×Int):Int×Int:=if duL c e = true then dN (duA c e + duB c e) (bd c.2 e.2) else dN (duA c e + duB c e - bd c.2 e.2) (bd c.2 e.2)
def duE (c e:Int×Int):Int×Int:=if duL c e = true then (0,1) else (1,1)
theorem nV {T d B:Int} (hd:0 < d) (h0:0≤T) (h1:T < d) (db:d ∣ B):Fr B (dN T d)∧(dN T d).1 < (dN T d).2:=by
  have hg:(0:Int) < (Int.gcd T d:Int):=(low T d hd).1
  obtain ⟨t,et⟩:=Int.gcd_dvd_left T d
  obtain ⟨b,eb⟩:=Int.gcd_dvd_right T d
  have e1:T / (Int.gcd T d:Int) = t:=Int.ediv_eq_of_eq_mul_right (by omega) et
  have e2:d / (Int.gcd T d:Int) = b:=Int.ediv_eq_of_eq_mul_right (by omega) eb
  unfold Fr dN
  simp only [e1,e2]
  have ht:0≤t:=by
    refine Int.not_lt.mp fun h=>?_
    have:=Int.mul_neg_of_pos_of_neg hg h
    rw [← et] at this
    omega
  have hlt:t < b:=by
    refine Int.not_le.mp fun h=>?_
    have:=Int.mul_le_mul_of_nonneg_left h (Int.le_of_lt hg)
    rw [← et,← eb] at this
    omega
  exact ⟨⟨ht,by omega,by omega,Int.dvd_trans ⟨_,by rw [Int.mul_comm]; exact eb⟩ db⟩,hlt⟩
theorem qg {c e:Int×Int} {B:Int} (hB:0 < B) (hc:Fr B c) (he:Fr B e) (uc:uns c = true) (ue:uns e = true) :
    0 < bd c.2 e.2∧bd c.2 e.2 ∣ B∧bd c.2 e.2≤B∧0 < duA c e∧duA c e < bd c.2 e.2∧0 < duB c e∧duB c e < bd c.2 e.2:=by
  obtain ⟨d0,⟨k1,e1⟩,⟨k2,e2⟩,d3⟩:=nQ hc.2.2.1 he.2.2.1 hB hc.2.2.2 he.2.2.2
  have c1:0 < c.1∧c.1 < c.2:=of_decide_eq_true uc
  have c2:0 < e.1∧e.1 < e.2:=of_decide_eq_true ue
  have q1:bd c.2 e.2 / c.2 = k1:=Int.ediv_eq_of_eq_mul_right (by omega) e1
  have q2:bd c.2 e.2 / e.2 = k2:=Int.ediv_eq_of_eq_mul_right (by omega) e2
  have k1p:0 < k1:=by
    refine Int.not_le.mp fun h=>?_
    have:=Int.mul_nonpos_of_nonneg_of_nonpos (a:=c.2) (b:=k1) (by omega) h
    omega
  have k2p:0 < k2:=by
    refine Int.not_le.mp fun h=>?_
    have:=Int.mul_nonpos_of_nonneg_of_nonpos (a:=e.2) (b:=k2) (by omega) h
    omega
  unfold duA duB
  rw [q1,q2]
  refine ⟨d0,d3,Int.le_of_dvd hB d3,Int.mul_pos c1.1 k1p,?_,Int.mul_pos c2.1 k2p,?_⟩
  · have:=Int.mul_lt_mul_of_pos_right c1.2 k1p
    omega
  · have:=Int.mul_lt_mul_of_pos_right c2.2 k2p
    omega
theorem uF {c e:Int×Int} {B:Int} (hB:0 < B) (hc:Fr B c) (he:Fr B e) (uc:uns c = true) (ue:uns e = true) :
    0 < du1 c e∧0 < du2 c e∧du1 c e + du2 c e≤B∧Fr B (duR c e)∧(duR c e).1 < (duR c e).2∧Fr B (duE c e)∧uns (duE c e) = false:=by
  obtain ⟨d0,d1,d2,a0,a1,b0,b1⟩:=qg hB hc he uc ue
  have o1:Fr B (0,1):=⟨by decide,by decide,by decide,Int.one_dvd B⟩
  have o2:Fr B (1,1):=⟨by decide,by decide,by decide,Int.one_dvd B⟩
  unfold du1 du2 duR duE
  by_cases h:duL c e = true
  · have h':duA c e + duB c e < bd c.2 e.2:=of_decide_eq_true h
    simp only [if_pos h]
    have:=nV d0 (T:=duA c e + duB c e) (by omega) h' d1
    exact ⟨a0,b0,by omega,this.1,this.2,o1,rfl⟩
  · have h':¬ duA c e + duB c e < bd c.2 e.2:=fun z=>h (decide_eq_true z)
    simp only [if_neg h]
    have:=nV d0 (T:=duA c e + duB c e - bd c.2 e.2) (by omega) (by omega) d1
    exact ⟨by omega,by omega,by omega,this.1,this.2,o2,rfl⟩
abbrev Tl:=List (Int×(Int×Int))
def whl (f:Int×Int):Bool:=decide (f = (1,1))
def eg (tl:Tl) (tk:List Int):Tl×List Int:=(tl.filter (fun x=>uns x.2),tk ++ (tl.filter fun x=>whl x.2).map (·.1))
def par (b:Bool) (c e:Int×Int):(Int×Int)×(Int×Int):=if b = duL c e then (duR c e,duE c e) else (duE c e,duR c e)
def sz1:Tl→Int
  | (_,c) :: (_,e) :: _=>du1 c e
  | [(_,c)]=>c.1
  | []=>0
def sz2:Tl→Int
  | (_,c) :: (_,e) :: _=>du2 c e
  | [(_,c)]=>c.2 - c.1
  | []=>0
def nx (b:Bool):Tl→List Int→Tl×List Int
  | (p,c) :: (o,e) :: r,tk=>eg ((p,(par b c e).1) :: (o,(par b c e).2) :: r) tk
  | [(p,_)],tk=>([],if b = true then tk ++ [p] else tk)
  | [],tk=>([],tk)
def yE:Tl→List Int→List (Int×Int×Int)→List Int→Prop
  | tl,tk,[],kept=>tl = []∧kept = tk
  | tl,tk,(k,n,t) :: r,kept=>tl≠[]∧k = sz1 tl∧n = sz2 tl∧0≤t∧t < k + n∧yE (nx (decide (t < k)) tl tk).1 (nx (decide (t < k)) tl tk).2 r kept
def WfS (B:Int) (tl:Tl) (tk:List Int):Prop:=(∀ x ∈ tl,Fr B x.2)∧tl.length + tk.length≤24
def WfT (B:Int) (tl:Tl) (tk:List Int):Prop:=(∀ x ∈ tl,Fr B x.2∧uns x.2 = true)∧tl.length + tk.length≤24
theorem tZ {f:Int×Int} (h:whl f = true):uns f = false:=by
  rw [of_decide_eq_true (p:=f = (1,1)) h]
  rfl
theorem li:∀ (tl:Tl) ,(tl.filter fun x=>uns x.2).length + (tl.filter fun x=>whl x.2).length≤tl.length
  | []=>by simp
  | x :: r=>by
    have ih:=li r
    rw [List.filter_cons,List.filter_cons,List.length_cons]
    cases hw:whl x.2 with
    | true=>rw [tZ hw]; simp; omega
    | false=>cases uns x.2 <;> simp <;> omega
theorem jM {B:Int} {tl:Tl} {tk:List Int} (h:WfS B tl tk):WfT B (eg tl tk).1 (eg tl tk).2:=by
  refine ⟨fun x hx=>?_,?_⟩
  · have:=List.mem_filter.mp hx
    exact ⟨h.1 x this.1,this.2⟩
  · have:=li tl
    have:=h.2
    simp only [eg,List.length_append,List.length_map]
    omega
theorem vp {c e:Int×Int} {B:Int} (hB:0 < B) (hc:Fr B c) (he:Fr B e) (uc:uns c = true) (ue:uns e = true) (b:Bool):Fr B (par b c e).1∧Fr B (par b c e).2:=by
  obtain ⟨_,_,_,h1,_,h2,_⟩:=uF hB hc he uc ue
  unfold par
  split
  · exact ⟨h1,h2⟩
  · exact ⟨h2,h1⟩
theorem rA {B:Int} {p o:Int} {c e:Int×Int} {r:Tl} {tk:List Int} (hB:0 < B) (h:WfT B ((p,c) :: (o,e) :: r) tk) (b:Bool):WfS B ((p,(par b c e).1) :: (o,(par b c e).2) :: r) tk:=by
  have h1:=h.1 _ (List.mem_cons_self ..)
  have h2:=h.1 _ (List.mem_cons_of_mem _ (List.mem_cons_self ..))
  have:=vp hB h1.1 h2.1 h1.2 h2.2 b
  refine ⟨fun x hx=>?_,h.2⟩
  rcases List.mem_cons.mp hx with rfl | hx
  · exact this.1
  rcases List.mem_cons.mp hx with rfl | hx
  · exact this.2
  · exact (h.1 x (List.mem_cons_of_mem _ (List.mem_cons_of_mem _ hx))).1
theorem kS {B:Int} {tl:Tl} {tk:List Int} (hB:0 < B) (h:WfT B tl tk) (b:Bool):WfT B (nx b tl tk).1 (nx b tl tk).2:=by
  match tl with
  | []=>exact h
  | [(p,c)] =>
    refine ⟨fun x hx=>(by cases hx),?_⟩
    have:=h.2
    show 0 + (if b = true then tk ++ [p] else tk).length≤24
    simp only [List.length_cons,List.length_nil] at this
    split
    · rw [List.length_append]; show 0 + (tk.length + 1)≤24; omega
    · omega
  | (p,c) :: (o,e) :: r=>exact jM (rA hB h b)
end FrM
namespace My
open PySem L2 FrM Du
def top (i:Nat):Stmt:=PySem.Challenge.pw_fewspeak_k32_whole_each_keeps_its_share.main.body.getD i (.Pass ⟨0,0,0,0⟩)
abbrev zc:Stmt:=top 0
abbrev aB:Stmt:=top 2
abbrev aD:Stmt:=top 3
abbrev cR:Stmt:=top 4
abbrev dF:Stmt:=top 5
abbrev cO:Stmt:=top 6
abbrev cY:Stmt:=top 7
abbrev dG:Stmt:=top 8
abbrev cU:Stmt:=top 9
abbrev aG:Stmt:=cg (top 12) 0
abbrev aL:Stmt:=cg (top 12) 1
abbrev bv:Stmt:=cg (top 12) 2
abbrev aX:Stmt:=cg (top 12) 3
abbrev aV:Stmt:=cg (top 12) 4
abbrev tJ:Stmt:=cg (top 12) 5
abbrev aK:Stmt:=cg (top 13) 0
abbrev aO:Stmt:=cg (top 13) 1
abbrev bJ:Stmt:=cg (top 13) 2
abbrev bn:Stmt:=cg (top 13) 3
abbrev bx:Stmt:=cg (top 13) 4
abbrev uA:Stmt:=cg (top 13) 5
abbrev so:Stmt:=cg (top 13) 6
abbrev bu:Stmt:=top 17
abbrev aW:Stmt:=top 18
abbrev bp:Stmt:=top 19
abbrev cX:Stmt:=top 22
abbrev bX:Stmt:=top 23
abbrev br:Stmt:=top 24
abbrev aE:Stmt:=top 25
abbrev bf:Stmt:=top 26
abbrev aY:Stmt:=top 27
abbrev aJ:Stmt:=top 28
abbrev aP:Stmt:=top 29
abbrev aF:Stmt:=top 30
abbrev bz:Stmt:=top 31
abbrev aR:Stmt:=top 32
abbrev aQ:Stmt:=top 33
abbrev cx:Stmt:=top 35
abbrev cS:Stmt:=top 36
abbrev cV:Stmt:=top 37
abbrev bW:Stmt:=top 38
abbrev cZ:Stmt:=top 39
abbrev ci:Stmt:=top 40
abbrev bU:Stmt:=top 41
abbrev aT:Stmt:=top 42
abbrev bK:Stmt:=top 43
abbrev bI:Stmt:=top 44
abbrev bV:Stmt:=top 45
abbrev cq:Stmt:=top 46
abbrev aU:Stmt:=top 47
abbrev cv:Stmt:=top 48
abbrev cj:Stmt:=top 49
abbrev fg:Stmt:=top 50
theorem sc_greatest_divisor:FnScope ["one", "other"] ["one", "other"] (ac aB):=⟨rfl,rfl,rfl,by decide +kernel,rfl,by decide +kernel,by decide +kernel⟩
theorem sc_least_multiple:FnScope ["numbers", "found", "number"] ["numbers"] (ac aD):=⟨rfl,rfl,rfl,by decide +kernel,rfl,by decide +kernel,by decide +kernel⟩
theorem sc_share:FnScope ["top", "bottom", "divisor"] ["top", "bottom"] (ac cR):=⟨rfl,rfl,rfl,by decide +kernel,rfl,by decide +kernel,by decide +kernel⟩
theorem ud:FnScope ["one", "other"] ["one", "other"] (ac dF):=⟨rfl,rfl,rfl,by decide +kernel,rfl,by decide +kernel,by decide +kernel⟩
theorem qY:FnScope ["one", "other"] ["one", "other"] (ac cO):=⟨rfl,rfl,rfl,by decide +kernel,rfl,by decide +kernel,by decide +kernel⟩
theorem rZ:FnScope ["one", "other"] ["one", "other"] (ac cY):=⟨rfl,rfl,rfl,by decide +kernel,rfl,by decide +kernel,by decide +kernel⟩
theorem sK:FnScope ["one", "other"] ["one", "other"] (ac dG):=⟨rfl,rfl,rfl,by decide +kernel,rfl,by decide +kernel,by decide +kernel⟩
theorem qU:FnScope ["one", "other"] ["one", "other"] (ac cU):=⟨rfl,rfl,rfl,by decide +kernel,rfl,by decide +kernel,by decide +kernel⟩
theorem gq:FnScope ["self", "kept"] ["self", "kept"] (ac aG):=⟨rfl,rfl,rfl,by decide +kernel,rfl,by decide +kernel,by decide +kernel⟩
theorem gD:FnScope ["self"] ["self"] (ac aL):=⟨rfl,rfl,rfl,by decide +kernel,rfl,by decide +kernel,by decide +kernel⟩
theorem jL:FnScope ["self"] ["self"] (ac bv):=⟨rfl,rfl,rfl,by decide +kernel,rfl,by decide +kernel,by decide +kernel⟩
theorem iK:FnScope ["self"] ["self"] (ac aX):=⟨rfl,rfl,rfl,by decide +kernel,rfl,by decide +kernel,by decide +kernel⟩
theorem iM:FnScope ["self"] ["self"] (ac aV):=⟨rfl,rfl,rfl,by decide +kernel,rfl,by decide +kernel,by decide +kernel⟩
theorem gE:FnScope ["self", "parts"] ["self", "parts"] (ac aK):=⟨rfl,rfl,rfl,by decide +kernel,rfl,by decide +kernel,by decide +kernel⟩
theorem iD:FnScope ["self"] ["self"] (ac aO):=⟨rfl,rfl,rfl,by decide +kernel,rfl,by decide +kernel,by decide +kernel⟩
theorem ly:FnScope ["self"] ["self"] (ac bJ):=⟨rfl,rfl,rfl,by decide +kernel,rfl,by decide +kernel,by decide +kernel⟩
theorem ko:FnScope ["self"] ["self"] (ac bn):=⟨rfl,rfl,rfl,by decide +kernel,rfl,by decide +kernel,by decide +kernel⟩
theorem jK:FnScope ["self"] ["self"] (ac bx):=⟨rfl,rfl,rfl,by decide +kernel,rfl,by decide +kernel,by decide +kernel⟩
theorem j6:FnScope ["many", "tell"] ["many", "tell"] (ac bu):=⟨rfl,rfl,rfl,by decide +kernel,rfl,by decide +kernel,by decide +kernel⟩
theorem iH:FnScope ["one", "many", "tell"] ["one", "many", "tell"] (ac aW):=⟨rfl,rfl,rfl,by decide +kernel,rfl,by decide +kernel,by decide +kernel⟩
theorem jD:FnScope ["chance"] ["chance"] (ac bp):=⟨rfl,rfl,rfl,by decide +kernel,rfl,by decide +kernel,by decide +kernel⟩
theorem rB:FnScope ["shares", "order"] ["shares", "order"] (ac cX):=⟨rfl,rfl,rfl,by decide +kernel,rfl,by decide +kernel,by decide +kernel⟩
theorem sc_settled:FnScope ["told", "taken", "sure"] ["told", "taken"] (ac bX):=⟨rfl,rfl,rfl,by decide +kernel,rfl,by decide +kernel,by decide +kernel⟩
theorem sc_open_node:FnScope ["told", "taken", "place", "chance", "other", "its_chance"] ["told", "taken"] (ac br):=⟨rfl,rfl,rfl,by decide +kernel,rfl,by decide +kernel,by decide +kernel⟩
abbrev dD:Expr:=(sr (tu aE 0))
def ld_settled_make_1:LamD:=nJ ((("settled_make" : Str) ++ ".<locals>.") ++ "<lambda>") dD
theorem gH:FnScope ["told", "taken"] ["told", "taken"] (ac aE):=⟨rfl,rfl,rfl,by decide +kernel,rfl,by decide +kernel,by decide +kernel⟩
abbrev fj:Expr:=(wI (xU (vO (sr (tu bf 1)) 0) 0) 1)
def ld_last_die_1:LamD:=nJ ((("last_die" : Str) ++ ".<locals>.") ++ "<lambda>") fj
abbrev fm:Expr:=(wI (xU (vO (sr (tu bf 1)) 0) 1) 1)
def ld_last_die_2:LamD:=nJ ((("last_die" : Str) ++ ".<locals>.") ++ "<lambda>") fm
theorem sc_last_die:FnScope ["last", "taken", "place", "chance"] ["last", "taken"] (ac bf):=⟨rfl,rfl,rfl,by decide +kernel,rfl,by decide +kernel,by decide +kernel⟩
theorem sc_duel_parts:FnScope ["one", "other", "bottom", "top", "its_top", "left"] ["one", "other"] (ac aY):=⟨rfl,rfl,rfl,by decide +kernel,rfl,by decide +kernel,by decide +kernel⟩
abbrev dM:Expr:=(vO (sr (tu aJ 2)) 1)
def bA:LamD:=nJ ((("duel_matrix" : Str) ++ ".<locals>.") ++ "<lambda>") dM
theorem sc_duel_matrix:FnScope ["shares", "order", "told", "found"] ["shares", "order"] (ac aJ):=⟨rfl,rfl,rfl,by decide +kernel,rfl,by decide +kernel,by decide +kernel⟩
theorem ia:FnScope ["told", "found", "one", "other"] ["told", "found", "one", "other"] (ac aP):=⟨rfl,rfl,rfl,by decide +kernel,rfl,by decide +kernel,by decide +kernel⟩
theorem sc_kept_together:FnScope ["told", "found", "earlier", "held", "place", "chance", "one", "up", "sure"] ["told"] (ac aF):=⟨rfl,rfl,rfl,by decide +kernel,rfl,by decide +kernel,by decide +kernel⟩
theorem sc_both_kept:FnScope ["up", "sure", "held", "chance", "spare", "when_sure"] ["up", "sure", "held", "chance"] (ac bz):=⟨rfl,rfl,rfl,by decide +kernel,rfl,by decide +kernel,by decide +kernel⟩
theorem sc_held_behind:FnScope ["held", "chance", "reached"] ["held", "chance"] (ac aR):=⟨rfl,rfl,rfl,by decide +kernel,rfl,by decide +kernel,by decide +kernel⟩
theorem sc_behind_duel:FnScope ["earlier", "held", "place", "chance", "reached", "stays", "lasting", "lacking", "ahead", "back"] ["earlier", "held", "place", "chance"] (ac aQ):=⟨rfl,rfl,rfl,by decide +kernel,rfl,by decide +kernel,by decide +kernel⟩
theorem oO:FnScope ["_law_script", "_law_k"] ["_law_script", "_law_k"] (ac cx):=⟨rfl,rfl,rfl,by decide +kernel,rfl,by decide +kernel,by decide +kernel⟩
theorem sc_L_mix:FnScope ["_law_cell_here", "_law_k", "_law_number"] ["_law_cell_here", "_law_k"] (ac cS):=⟨rfl,rfl,rfl,by decide +kernel,rfl,by decide +kernel,by decide +kernel⟩
theorem sc_L_row:FnScope ["_law_cell_here", "_law_bit", "_law_many", "_law_most", "_law_row_here", "_law_k"] ["_law_cell_here", "_law_bit", "_law_many", "_law_most"] (ac cV):=⟨rfl,rfl,rfl,by decide +kernel,rfl,by decide +kernel,by decide +kernel⟩
theorem ml:FnScope ["_law_found"] ["_law_found"] (ac bW):=⟨rfl,rfl,rfl,by decide +kernel,rfl,by decide +kernel,by decide +kernel⟩
theorem sc_L_low:FnScope ["_law_top", "_law_bottom", "_law_one", "_law_other"] ["_law_top", "_law_bottom"] (ac cZ):=⟨rfl,rfl,rfl,by decide +kernel,rfl,by decide +kernel,by decide +kernel⟩
theorem pJ:FnScope ["_law_one", "_law_other"] ["_law_one", "_law_other"] (ac ci):=⟨rfl,rfl,rfl,by decide +kernel,rfl,by decide +kernel,by decide +kernel⟩
theorem mq:FnScope ["_law_one", "_law_other"] ["_law_one", "_law_other"] (ac bU):=⟨rfl,rfl,rfl,by decide +kernel,rfl,by decide +kernel,by decide +kernel⟩
theorem iJ:FnScope ["_law_found", "_law_due"] ["_law_found", "_law_due"] (ac aT):=⟨rfl,rfl,rfl,by decide +kernel,rfl,by decide +kernel,by decide +kernel⟩
theorem sc_L_matrix:FnScope ["_law_found", "_law_due", "_law_row_here", "_law_others", "_law_one", "_law_other"] ["_law_found", "_law_due"] (ac bK):=⟨rfl,rfl,rfl,by decide +kernel,rfl,by decide +kernel,by decide +kernel⟩
theorem sc_L_shares:FnScope ["_law_script", "_law_start", "_law_most", "_law_many", "_law_bit", "_law_bottom", "_law_tops"] ["_law_script", "_law_start", "_law_most"] (ac bI):=⟨rfl,rfl,rfl,by decide +kernel,rfl,by decide +kernel,by decide +kernel⟩
theorem sc_L_order:FnScope ["_law_cell_here", "_law_bit", "_law_many", "_law_left", "_law_order_here", "_law_pick"] ["_law_cell_here", "_law_bit", "_law_many"] (ac bV):=⟨rfl,rfl,rfl,by decide +kernel,rfl,by decide +kernel,by decide +kernel⟩
theorem sc_L_ways:FnScope ["_law_node", "_law_much", "_law_found", "_law_many", "_law_part"] ["_law_node", "_law_much"] (ac cq):=⟨rfl,rfl,rfl,by decide +kernel,rfl,by decide +kernel,by decide +kernel⟩
theorem sc_L_together:FnScope ["_law_ways_here", "_law_places", "_law_rows", "_law_kept", "_law_much", "_law_found", "_law_one", "_law_row_here", "_law_other", "_law_total"] ["_law_ways_here", "_law_places"] (ac aU):=⟨rfl,rfl,rfl,by decide +kernel,rfl,by decide +kernel,by decide +kernel⟩
theorem oQ:FnScope ["_law_node"] ["_law_node"] (ac cv):=⟨rfl,rfl,rfl,by decide +kernel,rfl,by decide +kernel,by decide +kernel⟩
theorem sc_L_good:FnScope ["_law_shares_here", "_law_order_here", "_law_node", "_law_ways_here", "_law_due", "_law_total", "_law_one", "_law_sizes_kept", "_law_handed", "_law_found"] ["_law_shares_here", "_law_order_here"] (ac cj):=⟨rfl,rfl,rfl,by decide +kernel,rfl,by decide +kernel,by decide +kernel⟩
theorem sc_law:FnScope ["_law_script", "_law_shares_here", "_law_k", "_law_order_here"] ["_law_script"] (ac fg):=⟨rfl,rfl,rfl,by decide +kernel,rfl,by decide +kernel,by decide +kernel⟩
set_option genInjectivity false in
set_option genSizeOf false in
structure Ad where
  f_greatest_divisor:Addr
  d_greatest_divisor:FuncData
  f_least_multiple:Addr
  d_least_multiple:FuncData
  f_share:Addr
  d_share:FuncData
  f_plus:Addr
  d_plus:FuncData
  f_minus:Addr
  d_minus:FuncData
  f_times:Addr
  d_times:FuncData
  f_over:Addr
  d_over:FuncData
  f_below:Addr
  d_below:FuncData
  f_matrix_by:Addr
  d_matrix_by:FuncData
  f_matrix_row:Addr
  d_matrix_row:FuncData
  f_is_unsure:Addr
  d_is_unsure:FuncData
  f_duels:Addr
  d_duels:FuncData
  f_settled:Addr
  d_settled:FuncData
  f_open_node:Addr
  d_open_node:FuncData
  f_settled_make:Addr
  d_settled_make:FuncData
  f_last_die:Addr
  d_last_die:FuncData
  f_duel_parts:Addr
  d_duel_parts:FuncData
  f_duel_matrix:Addr
  d_duel_matrix:FuncData
  f_pair_chance:Addr
  d_pair_chance:FuncData
  f_kept_together:Addr
  d_kept_together:FuncData
  f_both_kept:Addr
  d_both_kept:FuncData
  f_held_behind:Addr
  d_held_behind:FuncData
  f_behind_duel:Addr
  d_behind_duel:FuncData
  f_L_cell:Addr
  d_L_cell:FuncData
  f_L_mix:Addr
  d_L_mix:FuncData
  f_L_row:Addr
  d_L_row:FuncData
  f_L_whole:Addr
  d_L_whole:FuncData
  f_L_low:Addr
  d_L_low:FuncData
  f_L_plus:Addr
  d_L_plus:FuncData
  f_L_times:Addr
  d_L_times:FuncData
  f_L_fraction:Addr
  d_L_fraction:FuncData
  f_L_matrix:Addr
  d_L_matrix:FuncData
  f_L_shares:Addr
  d_L_shares:FuncData
  f_L_order:Addr
  d_L_order:FuncData
  f_L_ways:Addr
  d_L_ways:FuncData
  f_L_together:Addr
  d_L_together:FuncData
  f_L_deep:Addr
  d_L_deep:FuncData
  f_L_good:Addr
  d_L_good:FuncData
  f_law:Addr
  d_law:FuncData
  c_Node:Addr
  c_Told:Addr
  i_Told:Addr
  e_Told:FuncData
  c_Die:Addr
  i_Die:Addr
  e_Die:FuncData
  x_Told_is_told:Addr
  y_Told_is_told:FuncData
  x_Die_is_told:Addr
  y_Die_is_told:FuncData
  x_Told_kept:Addr
  y_Told_kept:FuncData
  x_Die_kept:Addr
  y_Die_kept:FuncData
  x_Told_sides:Addr
  y_Told_sides:FuncData
  x_Die_sides:Addr
  y_Die_sides:FuncData
  x_Told_parts:Addr
  y_Told_parts:FuncData
  x_Die_parts:Addr
  y_Die_parts:FuncData
  k_NOUGHT:Addr
  k_WHOLE:Addr
  k_TWICE:Addr
  lc_duel_matrix:Addr
  lp_duel_matrix:Addr
  lc_last_die:Addr
  lp_last_die:Addr
  lc_settled_make:Addr
  lp_settled_make:Addr
abbrev du:List (Pos×Str):=[(tw dM,((("duel_matrix" : Str) ++ ".<locals>.") ++ "<lambda>"))]
theorem ig:(du).Pairwise fun x y=>¬ (x.1.line = y.1.line∧x.1.col = y.1.col):=by decide +kernel
abbrev eD:List (Pos×Str):=[(tw fj,((("last_die" : Str) ++ ".<locals>.") ++ "<lambda>")),(tw fm,((("last_die" : Str) ++ ".<locals>.") ++ "<lambda>"))]
theorem gy:(eD).Pairwise fun x y=>¬ (x.1.line = y.1.line∧x.1.col = y.1.col):=by decide +kernel
abbrev di:List (Pos×Str):=[(tw dD,((("settled_make" : Str) ++ ".<locals>.") ++ "<lambda>"))]
theorem gF:(di).Pairwise fun x y=>¬ (x.1.line = y.1.line∧x.1.col = y.1.col):=by decide +kernel
def tabs (a:Ad):lI:=[(a.lp_duel_matrix,du),(a.lp_last_die,eD),(a.lp_settled_make,di)]
theorem iC (a:Ad):(a.lp_duel_matrix,du) ∈ tabs a:=(.head _)
theorem gz (a:Ad):(a.lp_last_die,eD) ∈ tabs a:=(.tail _ (.head _))
theorem gB (a:Ad):(a.lp_settled_make,di) ∈ tabs a:=(.tail _ (.tail _ (.head _)))
structure Txt (K:PySem.W.Frag) (mg:Str→Option Value) (a:Ad):Prop where
  lcd_duel_matrix:a.d_duel_matrix.code = .ref a.lc_duel_matrix
  lch_duel_matrix:PySem.W.codeHdIn K a.lc_duel_matrix a.lp_duel_matrix = true
  lcd_last_die:a.d_last_die.code = .ref a.lc_last_die
  lch_last_die:PySem.W.codeHdIn K a.lc_last_die a.lp_last_die = true
  lcd_settled_make:a.d_settled_make.code = .ref a.lc_settled_make
  lch_settled_make:PySem.W.codeHdIn K a.lc_settled_make a.lp_settled_make = true
  tnd:((tabs a).map (·.1)).Nodup
  F_greatest_divisor:Fun K "greatest_divisor" "greatest_divisor" aB a.f_greatest_divisor a.d_greatest_divisor
  B_greatest_divisor:Binds K a.d_greatest_divisor ["one", "other"] []
  m_greatest_divisor:mg "greatest_divisor" = some (.ref a.f_greatest_divisor)
  F_least_multiple:Fun K "least_multiple" "least_multiple" aD a.f_least_multiple a.d_least_multiple
  B_least_multiple:Binds K a.d_least_multiple ["numbers"] []
  m_least_multiple:mg "least_multiple" = some (.ref a.f_least_multiple)
  F_share:Fun K "share" "share" cR a.f_share a.d_share
  B_share:Binds K a.d_share ["top", "bottom"] []
  m_share:mg "share" = some (.ref a.f_share)
  F_plus:Fun K "plus" "plus" dF a.f_plus a.d_plus
  B_plus:Binds K a.d_plus ["one", "other"] []
  m_plus:mg "plus" = some (.ref a.f_plus)
  F_minus:Fun K "minus" "minus" cO a.f_minus a.d_minus
  B_minus:Binds K a.d_minus ["one", "other"] []
  m_minus:mg "minus" = some (.ref a.f_minus)
  F_times:Fun K "times" "times" cY a.f_times a.d_times
  B_times:Binds K a.d_times ["one", "other"] []
  m_times:mg "times" = some (.ref a.f_times)
  F_over:Fun K "over" "over" dG a.f_over a.d_over
  B_over:Binds K a.d_over ["one", "other"] []
  m_over:mg "over" = some (.ref a.f_over)
  F_below:Fun K "below" "below" cU a.f_below a.d_below
  B_below:Binds K a.d_below ["one", "other"] []
  m_below:mg "below" = some (.ref a.f_below)
  F_matrix_by:Fun K "matrix_by" "matrix_by" bu a.f_matrix_by a.d_matrix_by
  B_matrix_by:Binds K a.d_matrix_by ["many", "tell"] []
  m_matrix_by:mg "matrix_by" = some (.ref a.f_matrix_by)
  F_matrix_row:Fun K "matrix_row" "matrix_row" aW a.f_matrix_row a.d_matrix_row
  B_matrix_row:Binds K a.d_matrix_row ["one", "many", "tell"] []
  m_matrix_row:mg "matrix_row" = some (.ref a.f_matrix_row)
  F_is_unsure:Fun K "is_unsure" "is_unsure" bp a.f_is_unsure a.d_is_unsure
  B_is_unsure:Binds K a.d_is_unsure ["chance"] []
  m_is_unsure:mg "is_unsure" = some (.ref a.f_is_unsure)
  F_duels:Fun K "duels" "duels" cX a.f_duels a.d_duels
  B_duels:Binds K a.d_duels ["shares", "order"] []
  m_duels:mg "duels" = some (.ref a.f_duels)
  F_settled:Fun K "settled" "settled" bX a.f_settled a.d_settled
  B_settled:Binds K a.d_settled ["told", "taken"] []
  m_settled:mg "settled" = some (.ref a.f_settled)
  F_open_node:Fun K "open_node" "open_node" br a.f_open_node a.d_open_node
  B_open_node:Binds K a.d_open_node ["told", "taken"] []
  m_open_node:mg "open_node" = some (.ref a.f_open_node)
  F_settled_make:Fun K "settled_make" "settled_make" aE a.f_settled_make a.d_settled_make
  B_settled_make:Binds K a.d_settled_make ["told", "taken"] []
  m_settled_make:mg "settled_make" = some (.ref a.f_settled_make)
  F_last_die:Fun K "last_die" "last_die" bf a.f_last_die a.d_last_die
  B_last_die:Binds K a.d_last_die ["last", "taken"] []
  m_last_die:mg "last_die" = some (.ref a.f_last_die)
  F_duel_parts:Fun K "duel_parts" "duel_parts" aY a.f_duel_parts a.d_duel_parts
  B_duel_parts:Binds K a.d_duel_parts ["one", "other"] []
  m_duel_parts:mg "duel_parts" = some (.ref a.f_duel_parts)
  F_duel_matrix:Fun K "duel_matrix" "duel_matrix" aJ a.f_duel_matrix a.d_duel_matrix
  B_duel_matrix:Binds K a.d_duel_matrix ["shares", "order"] []
  m_duel_matrix:mg "duel_matrix" = some (.ref a.f_duel_matrix)
  F_pair_chance:Fun K "pair_chance" "pair_chance" aP a.f_pair_chance a.d_pair_chance
  B_pair_chance:Binds K a.d_pair_chance ["told", "found", "one", "other"] []
  m_pair_chance:mg "pair_chance" = some (.ref a.f_pair_chance)
  F_kept_together:Fun K "kept_together" "kept_together" aF a.f_kept_together a.d_kept_together
  B_kept_together:Binds K a.d_kept_together ["told"] []
  m_kept_together:mg "kept_together" = some (.ref a.f_kept_together)
  F_both_kept:Fun K "both_kept" "both_kept" bz a.f_both_kept a.d_both_kept
  B_both_kept:Binds K a.d_both_kept ["up", "sure", "held", "chance"] []
  m_both_kept:mg "both_kept" = some (.ref a.f_both_kept)
  F_held_behind:Fun K "held_behind" "held_behind" aR a.f_held_behind a.d_held_behind
  B_held_behind:Binds K a.d_held_behind ["held", "chance"] []
  m_held_behind:mg "held_behind" = some (.ref a.f_held_behind)
  F_behind_duel:Fun K "behind_duel" "behind_duel" aQ a.f_behind_duel a.d_behind_duel
  B_behind_duel:Binds K a.d_behind_duel ["earlier", "held", "place", "chance"] []
  m_behind_duel:mg "behind_duel" = some (.ref a.f_behind_duel)
  F_L_cell:Fun K "_law_cell" "_law_cell" cx a.f_L_cell a.d_L_cell
  B_L_cell:Binds K a.d_L_cell ["_law_script", "_law_k"] []
  m_L_cell:mg "_law_cell" = some (.ref a.f_L_cell)
  F_L_mix:Fun K "_law_mix" "_law_mix" cS a.f_L_mix a.d_L_mix
  B_L_mix:Binds K a.d_L_mix ["_law_cell_here", "_law_k"] []
  m_L_mix:mg "_law_mix" = some (.ref a.f_L_mix)
  F_L_row:Fun K "_law_row" "_law_row" cV a.f_L_row a.d_L_row
  B_L_row:Binds K a.d_L_row ["_law_cell_here", "_law_bit", "_law_many", "_law_most"] []
  m_L_row:mg "_law_row" = some (.ref a.f_L_row)
  F_L_whole:Fun K "_law_whole" "_law_whole" bW a.f_L_whole a.d_L_whole
  B_L_whole:Binds K a.d_L_whole ["_law_found"] []
  m_L_whole:mg "_law_whole" = some (.ref a.f_L_whole)
  F_L_low:Fun K "_law_low" "_law_low" cZ a.f_L_low a.d_L_low
  B_L_low:Binds K a.d_L_low ["_law_top", "_law_bottom"] []
  m_L_low:mg "_law_low" = some (.ref a.f_L_low)
  F_L_plus:Fun K "_law_plus" "_law_plus" ci a.f_L_plus a.d_L_plus
  B_L_plus:Binds K a.d_L_plus ["_law_one", "_law_other"] []
  m_L_plus:mg "_law_plus" = some (.ref a.f_L_plus)
  F_L_times:Fun K "_law_times" "_law_times" bU a.f_L_times a.d_L_times
  B_L_times:Binds K a.d_L_times ["_law_one", "_law_other"] []
  m_L_times:mg "_law_times" = some (.ref a.f_L_times)
  F_L_fraction:Fun K "_law_fraction" "_law_fraction" aT a.f_L_fraction a.d_L_fraction
  B_L_fraction:Binds K a.d_L_fraction ["_law_found", "_law_due"] []
  m_L_fraction:mg "_law_fraction" = some (.ref a.f_L_fraction)
  F_L_matrix:Fun K "_law_matrix" "_law_matrix" bK a.f_L_matrix a.d_L_matrix
  B_L_matrix:Binds K a.d_L_matrix ["_law_found", "_law_due"] []
  m_L_matrix:mg "_law_matrix" = some (.ref a.f_L_matrix)
  F_L_shares:Fun K "_law_shares" "_law_shares" bI a.f_L_shares a.d_L_shares
  B_L_shares:Binds K a.d_L_shares ["_law_script", "_law_start", "_law_most"] []
  m_L_shares:mg "_law_shares" = some (.ref a.f_L_shares)
  F_L_order:Fun K "_law_order" "_law_order" bV a.f_L_order a.d_L_order
  B_L_order:Binds K a.d_L_order ["_law_cell_here", "_law_bit", "_law_many"] []
  m_L_order:mg "_law_order" = some (.ref a.f_L_order)
  F_L_ways:Fun K "_law_ways" "_law_ways" cq a.f_L_ways a.d_L_ways
  B_L_ways:Binds K a.d_L_ways ["_law_node", "_law_much"] []
  m_L_ways:mg "_law_ways" = some (.ref a.f_L_ways)
  F_L_together:Fun K "_law_together" "_law_together" aU a.f_L_together a.d_L_together
  B_L_together:Binds K a.d_L_together ["_law_ways_here", "_law_places"] []
  m_L_together:mg "_law_together" = some (.ref a.f_L_together)
  F_L_deep:Fun K "_law_deep" "_law_deep" cv a.f_L_deep a.d_L_deep
  B_L_deep:Binds K a.d_L_deep ["_law_node"] []
  m_L_deep:mg "_law_deep" = some (.ref a.f_L_deep)
  F_L_good:Fun K "_law_good" "_law_good" cj a.f_L_good a.d_L_good
  B_L_good:Binds K a.d_L_good ["_law_shares_here", "_law_order_here"] []
  m_L_good:mg "_law_good" = some (.ref a.f_L_good)
  F_law:Fun K "law" "law" fg a.f_law a.d_law
  B_law:Binds K a.d_law ["_law_script"] []
  m_law:mg "law" = some (.ref a.f_law)
  g_NOUGHT:∃ u,mg "NOUGHT" = some u∧RelV (.ref a.k_NOUGHT) u
  t_NOUGHT:fQ K a.k_NOUGHT [(.int 0),(.int 1)] = true
  g_WHOLE:∃ u,mg "WHOLE" = some u∧RelV (.ref a.k_WHOLE) u
  t_WHOLE:fQ K a.k_WHOLE [(.int 1),(.int 1)] = true
  g_TWICE:∃ u,mg "TWICE" = some u∧RelV (.ref a.k_TWICE) u
  t_TWICE:fQ K a.k_TWICE [(.int 2),(.int 1)] = true
  mc_Node:mg "Node" = some (.ref a.c_Node)
  g_Node:∃ u,mg "Node" = some u∧RelV (.ref a.c_Node) u
  cl_Node:Cls K a.c_Node
  ty_Node:∀ H x dx fs,H x = some (.ins a.c_Node dx fs)→TyOf K H (.ref x) (.ref a.c_Node)
  mc_Told:mg "Told" = some (.ref a.c_Told)
  g_Told:∃ u,mg "Told" = some u∧RelV (.ref a.c_Told) u
  cl_Told:Cls K a.c_Told
  ty_Told:∀ H x dx fs,H x = some (.ins a.c_Told dx fs)→TyOf K H (.ref x) (.ref a.c_Told)
  mk_Told:Mk K a.c_Told a.i_Told
  Fi_Told:Fun K "__init__" "Told.__init__" aG a.i_Told a.e_Told
  Bi_Told:Binds K a.e_Told ["self", "kept"] []
  na_Told_rising:NoAttr K a.c_Told "rising"
  mt_Told_is_told:Meth K a.c_Told "is_told" a.x_Told_is_told
  mt_Told_kept:Meth K a.c_Told "kept" a.x_Told_kept
  mt_Told_sides:Meth K a.c_Told "sides" a.x_Told_sides
  mt_Told_parts:Meth K a.c_Told "parts" a.x_Told_parts
  mc_Die:mg "Die" = some (.ref a.c_Die)
  g_Die:∃ u,mg "Die" = some u∧RelV (.ref a.c_Die) u
  cl_Die:Cls K a.c_Die
  ty_Die:∀ H x dx fs,H x = some (.ins a.c_Die dx fs)→TyOf K H (.ref x) (.ref a.c_Die)
  mk_Die:Mk K a.c_Die a.i_Die
  Fi_Die:Fun K "__init__" "Die.__init__" aK a.i_Die a.e_Die
  Bi_Die:Binds K a.e_Die ["self", "parts"] []
  na_Die_makes:NoAttr K a.c_Die "makes"
  mt_Die_is_told:Meth K a.c_Die "is_told" a.x_Die_is_told
  mt_Die_kept:Meth K a.c_Die "kept" a.x_Die_kept
  mt_Die_sides:Meth K a.c_Die "sides" a.x_Die_sides
  mt_Die_parts:Meth K a.c_Die "parts" a.x_Die_parts
  F_Told_is_told:Fun K "is_told" "Told.is_told" aL a.x_Told_is_told a.y_Told_is_told
  B_Told_is_told:Binds K a.y_Told_is_told ["self"] []
  F_Die_is_told:Fun K "is_told" "Die.is_told" aO a.x_Die_is_told a.y_Die_is_told
  B_Die_is_told:Binds K a.y_Die_is_told ["self"] []
  F_Told_kept:Fun K "kept" "Told.kept" bv a.x_Told_kept a.y_Told_kept
  B_Told_kept:Binds K a.y_Told_kept ["self"] []
  F_Die_kept:Fun K "kept" "Die.kept" bJ a.x_Die_kept a.y_Die_kept
  B_Die_kept:Binds K a.y_Die_kept ["self"] []
  F_Told_sides:Fun K "sides" "Told.sides" aX a.x_Told_sides a.y_Told_sides
  B_Told_sides:Binds K a.y_Told_sides ["self"] []
  F_Die_sides:Fun K "sides" "Die.sides" bn a.x_Die_sides a.y_Die_sides
  B_Die_sides:Binds K a.y_Die_sides ["self"] []
  F_Told_parts:Fun K "parts" "Told.parts" aV a.x_Told_parts a.y_Told_parts
  B_Told_parts:Binds K a.y_Told_parts ["self"] []
  F_Die_parts:Fun K "parts" "Die.parts" bx a.x_Die_parts a.y_Die_parts
  B_Die_parts:Binds K a.y_Die_parts ["self"] []
  z_abs:mg "abs" = none
  z_bool:mg "bool" = none
  z_int:mg "int" = none
  z_isinstance:mg "isinstance" = none
  z_len:mg "len" = none
  z_list:mg "list" = none
  z_max:mg "max" = none
  z_min:mg "min" = none
  z_range:mg "range" = none
  z_sorted:mg "sorted" = none
  z_sum:mg "sum" = none
  z_tuple:mg "tuple" = none
  z_zip:mg "zip" = none
  bl:∀ (s:Shared) (u:Value),BindsTo s a.d_law ⟨[u],[]⟩ [("_law_script",u)]
def spLaw (K:PySem.W.Frag) (ts:List Addr):Sp:=fun vs H Q _=>∃ (p:Addr) (ns:List Int),vs = [.ref p]∧SqL K H p (ns.map V.int)∧ns.length≤63∧(∀ P ∈ ts,H P = some (.tbl #[]))∧∀ H',Q (.bl true) H'
theorem law_start {K:PySem.W.Frag} {ts:List Addr} {H:Hp} {a:Addr} {ns:List Int} (hl:ns.length≤63) (hT:∀ P ∈ ts,H P = some (.tbl #[])) (hS:SqL K H a (ns.map V.int)):spLaw K ts [.ref a] H (fun v _=>v = .bl true) fun _ _ _=>False:=⟨a,ns,rfl,hS,hl,hT,fun _=>rfl⟩
def d6 (ns:List Int) (k:Int):Int:=if k < (ns.length:Int) then ns.getD k.toNat 0 else 7919 * k + 13
def me (K:PySem.W.Frag):Sp:=fun vs H Q _=>∃ (p:Addr) (ns:List Int) (k:Int),vs = [.ref p,.int k]∧SqL K H p (ns.map V.int)∧ns.length≤63∧0≤k∧k≤1000∧Q (.int (d6 ns k)) H
def u7:Sp:=fun vs H Q _=>∃ (c k:Int),vs = [.int c,.int k]∧0≤k∧k≤1000∧∀ r:Int,0≤r→Q (.int r) H
def p4:Sp:=fun vs H Q _=>∃ (c b n m:Int),vs = [.int c,.int b,.int n,.int m]∧0≤n∧n≤25∧1≤m∧m≤1000000000000∧∀ H' p (ns:List Int),Same H H'→H p = none→H' p = some (.lst (ns.map V.int))→(ns.length:Int) = n→(∀ x ∈ ns,0≤x∧x < m)→Q (.ref p) H'
def rS:Sp:=fun vs H Q _=>∃ (x y:Int),vs = [.int x,.int y]∧0≤x∧0≤y∧Q (.int (Int.gcd x y)) H
def yT (H:Hp) (Q:VK) (T B:Int):Prop:=∀ H' p,Same H H'→H' p = some (.tup [.int (dN T B).1,.int (dN T B).2])→Q (.ref p) H'
def eM:Sp:=fun vs H Q _=>∃ (T B:Int),vs = [.int T,.int B]∧0 < B∧Bt 3000 T∧Bt 3000 B∧yT H Q T B
def wT:Sp:=fun _ _ _ _=>False
def PT (K:PySem.W.Frag) (H:Hp) (p:Addr) (f:Int×Int):Prop:=H p = some (.tup [.int f.1,.int f.2])∨fQ K p [.int f.1,.int f.2] = true
theorem PT.sq {K:PySem.W.Frag} {H:Hp} {p:Addr} {f:Int×Int} (h:PT K H p f):SqT K H p [.int f.1,.int f.2]:=h.elim SqT.of pN
def IsF (K:PySem.W.Frag) (H:Hp) (f:Int×Int) (x:V):Prop:=∃ p,x = .ref p∧PT K H p f
theorem IsF.tk {K:PySem.W.Frag} {H H':Hp} {f:Int×Int} {x:V} (k:TK H H') (h:IsF K H f x):IsF K H' f x:=let ⟨p,e,q⟩:=h; ⟨p,e,q.imp (fun z=>k _ _ z) id⟩
abbrev AllF (K:PySem.W.Frag) (H:Hp):List (Int×Int)→List V→Prop:=PySem.Paired (IsF K H)
theorem IsF.same {K:PySem.W.Frag} {H H':Hp} {f:Int×Int} {x:V} (s:Same H H') (h:IsF K H f x):IsF K H' f x:=h.tk s.tk
theorem AllF.same {K:PySem.W.Frag} {H H':Hp} (s:Same H H'):∀ {fs:List (Int×Int)} {xs:List V},AllF K H fs xs→AllF K H' fs xs
  | _,_,.nil=>.nil
  | _,_,.cons r t=>.cons (r.same s) (AllF.same s t)
theorem AllF.tk {K:PySem.W.Frag} {H H':Hp} (k:TK H H'):∀ {fs:List (Int×Int)} {xs:List V},AllF K H fs xs→AllF K H' fs xs
  | _,_,.nil=>.nil
  | _,_,.cons r t=>.cons (r.tk k) (AllF.tk k t)
theorem AllF.get {K:PySem.W.Frag} {H:Hp}:∀ {fs:List (Int×Int)} {xs:List V} {i:Nat} {x:V},AllF K H fs xs→xs[i]? = some x→∃ f,fs[i]? = some f∧IsF K H f x
  | _,_,_,_,.nil,h=>by cases h
  | _,_,0,_,.cons r _,h=>⟨_,rfl,by cases h; exact r⟩
  | _,_,i + 1,_,.cons _ t,h=>AllF.get (i:=i) t h
theorem AllF.snoc {K:PySem.W.Frag} {H:Hp} {f:Int×Int} {x:V} (r:IsF K H f x):∀ {fs:List (Int×Int)} {xs:List V},AllF K H fs xs→AllF K H (fs ++ [f]) (xs ++ [x])
  | _,_,.nil=>.cons r .nil
  | _,_,.cons q t=>.cons q (AllF.snoc r t)
theorem AllF.len {K:PySem.W.Frag} {H:Hp} {fs:List (Int×Int)} {xs:List V} (h:AllF K H fs xs):fs.length = xs.length:=Paired.length h
theorem m4 (T B:Int):Int.gcd (if T < 0 then -T else T) B = Int.gcd T B:=by
  split
  · exact Int.neg_gcd
  · rfl
theorem px0 {K:PySem.W.Frag} {H:Hp} {p:Addr} {x y:V} {Q:VK} (h:SqT K H p [x,y]) (q:Q x H):rIx K (.ref p) (.int 0) H Q:=.inr (.inl ⟨p,_,_,x,rfl,rfl,h,cD (j:=0) rfl,q⟩)
theorem px1 {K:PySem.W.Frag} {H:Hp} {p:Addr} {x y:V} {Q:VK} (h:SqT K H p [x,y]) (q:Q y H):rIx K (.ref p) (.int 1) H Q:=.inr (.inl ⟨p,_,_,y,rfl,rfl,h,cD (j:=1) rfl,q⟩)
theorem bC (x y:V):[x,y].length≤sizeLine:=by show 2≤sizeLine; decide
def uP:Sp:=fun vs H Q _=>∃ (l:Addr) (x y:Int),vs = [.ref l]∧H l = some (.lst [.int x,.int y])∧0 < x∧0 < y∧x≤1000000000∧y≤1000000000∧Q (.int (bd x y)) H
def rf (K:PySem.W.Frag):Sp:=fun vs H Q _=>∃ (x:V) (f:Int×Int),vs = [x]∧IsF K H f x∧Q (.bl (uns f)) H
def oz:Sp:=fun vs H Q _=>∃ (x:Int),vs = [.int x]∧Q (.bl true) H
def im (K:PySem.W.Frag):Sp:=fun vs H Q _=>∃ (p q:Addr) (t b:Int),vs = [.ref p,.ref q]∧SqT K H p [.int t,.int b]∧SqT K H q [.int t,.int b]∧Q (.bl true) H
abbrev IsQ (K:PySem.W.Frag) (H:Hp) (q:Rat) (x:V):Prop:=IsF K H (fr q) x
def cH (op:Rat→Rat→Rat) (c:Rat→Prop) (K:PySem.W.Frag):Sp:=fun vs H Q _=>∃ (x y:V) (p q:Rat),vs = [x,y]∧IsQ K H p x∧IsQ K H q y∧Bb p∧Bb q∧c q∧∀ H' z,Same H H'→IsQ K H' (op p q) z→Q z H'
def mZ (K:PySem.W.Frag):Sp:=fun vs H Q _=>∃ (x y:V) (p q:Rat),vs = [x,y]∧IsQ K H p x∧IsQ K H q y∧Bb p∧Bb q∧Q (.bl (decide (p < q))) H
theorem qS (q:Rat):uns (fr q) = bZ q:=by
  unfold uns bZ fr
  refine decide_eq_decide.mpr ?_
  rw [← num_pos]
  have:q < 1↔q.num < (q.den:Int):=by rw [Rat.lt_iff]; simp
  rw [this]
section
variable {P:Program} {w:World} {K:PySem.W.Frag} {mg:Str→Option Value} {base:Heap} {a:Ad}
theorem xR {k:Nat} {f:Addr} {fd:FuncData} {ps:List Str}:FnOk P w K mg base CX0 k f fd ps wT:=⟨fun _ _ _ _ h=>h.elim,fun _ _ _ _ _ _ _ _ _ _ _ _ _ h=>h.elim⟩
theorem nX (T:Txt K mg a):FnOk P w K mg base CX0 1 a.f_L_cell a.d_L_cell ["_law_script", "_law_k"] (me K):=by
  refine T.F_L_cell.ok oO (fun vs H Q E h=>?_) (fun cdv A outer s H vs Q E hr h=>?_)
  · obtain ⟨p,ns,k,rfl,_⟩:=h; rfl
  · obtain ⟨p,ns,k,rfl,hS,hl,h0,h1,q⟩:=h
    refine ⟨_,(ah (cJ (df lB (vr 1) (aC be rfl T.z_len cK (aa (vr 0) ae)) (bY _)) (ak (ax (az av (vr 0) (vr 1) (fun _ _=>rfl)))) bF) (ak (ax (aw cG (aw ba aj (vr 1)) aj)))),?_⟩
    refine ⟨ns.map V.int,.inl hS,?_⟩
    rw [List.length_map]
    unfold d6 at q
    refine yG (fun c=>?_) (fun c=>?_)
    · have c':k < (ns.length:Int):=of_decide_eq_true c
      rw [if_pos c'] at q
      refine .inl ⟨p,_,k,.int (ns.getD k.toNat 0),rfl,rfl,hS,?_,q⟩
      have e:((k.toNat:Nat):Int) = k:=by omega
      rw [← e]
      refine cD ?_
      have hk:k.toNat < ns.length:=by omega
      rw [e]
      simp [List.getElem?_map,List.getD,hk]
    · have c':¬ k < (ns.length:Int):=fun z=>c (decide_eq_true z)
      rw [if_neg c'] at q
      exact ⟨clB,q⟩
theorem vI (T:Txt K mg a):FnOk P w K mg base CX0 1 a.f_L_mix a.d_L_mix ["_law_cell_here", "_law_k"] u7:=by
  refine T.F_L_mix.ok sc_L_mix (fun vs H Q E h=>?_) (fun cdv A outer s H vs Q E hr h=>?_)
  · obtain ⟨c,k,rfl,_⟩:=h; rfl
  · obtain ⟨c,k,rfl,h0,h1,q⟩:=h
    refine ⟨_,(ah (aA (i:=2) sc_L_mix.nd rfl (Or.inl rfl) (aw dJ (aw ba (aw cG (aw cG (aw dJ (vr 0) aj) (aw ba aj (vr 1))) aj) aj) aj)) (ah (aA (i:=2) sc_L_mix.nd rfl (Or.inl rfl) (aw dJ (aw cG (aw ba (vr 2) (vr 2)) (aw ba aj (vr 1))) aj)) (ak (ax (aw dJ (aw ba (vr 2) (aw cG (vr 2) aj)) aj))))),?_⟩
    exact ⟨cp,clB,crB,cp,clB (by omega) (by omega),clB,cp,clB (by omega) (by omega),cp,q _ (by omega)⟩
theorem rY (T:Txt K mg a):FnOk P w K mg base CX0 1 a.f_greatest_divisor a.d_greatest_divisor ["one", "other"] rS:=by
  refine T.F_greatest_divisor.ok sc_greatest_divisor (fun vs H Q E h=>?_) (fun cdv A outer s H vs Q E hr h=>?_)
  · obtain ⟨x,y,rfl,_⟩:=h; rfl
  · obtain ⟨x0,y0,rfl,h0,h1,q⟩:=h
    refine ⟨_,(ah (kG PassesOwn.never (kX (vr 1) (fun _=>rfl)) (ak (p0 rfl sc_greatest_divisor.nd (i:=0) (j:=1) rfl rfl (by decide) rfl rfl (aa (vr 1) (aa (aw dJ (vr 0) (vr 1)) ae)) rfl))) (ak (ax (vr 0)))),?_⟩
    refine ⟨fun m σ H'=>H' = H∧∃ x y:Int,0≤x∧0≤y∧m = y.toNat∧Int.gcd x y = Int.gcd x0 y0∧σ = [some (.int x),some (.int y)],⟨_,rfl,x0,y0,h0,h1,rfl,rfl,rfl⟩,?_⟩
    rintro m σ H' ⟨rfl,x,y,hx,hy,rfl,hg,rfl⟩
    refine ⟨_,rfl,?_⟩
    refine ifB (fun c=>?_) (fun c=>?_)
    · have c':y≠0:=by simpa using c
      refine ⟨fun σ' H''=>H'' = H'∧σ' = [some (.int y),some (.int (x % y))],?_,?_⟩
      · rintro σ' H'' ⟨rfl,rfl⟩
        exact ⟨(x % y).toNat,by have:=Int.emod_lt_of_pos x (show 0 < y by omega); have:=Int.emod_nonneg x c'; omega,rfl,y,x % y,hy,Int.emod_nonneg x c',rfl,by rw [lx,hg],rfl⟩
      · exact ⟨cp (by omega),_,_,rfl,rfl,rfl⟩
    · have c':y = 0:=by simpa using c
      subst c'
      rw [Int.gcd_zero_right] at hg
      have:x = (Int.gcd x0 y0:Int):=by omega
      rw [← this] at q
      exact q
theorem ez (T:Txt K mg a):FnOk P w K mg base CX0 2 a.f_share a.d_share ["top", "bottom"] eM:=by
  have G_share:FnOk P w K mg base CX0 1 a.f_share a.d_share ["top", "bottom"] wT:=xR
  have G_greatest_divisor:FnOk P w K mg base CX0 1 _ _ _ rS:=rY T
  refine T.F_share.ok sc_share (fun vs H Q E h=>?_) (fun cdv A outer s H vs Q E hr h=>?_)
  · obtain ⟨x,y,rfl,_⟩:=h; rfl
  · obtain ⟨t,b,rfl,hb,b1,b2,q⟩:=h
    refine ⟨_,(ah (cJ (df lB (vr 1) aj (bY _)) (ak (ax (ao G_share hr rfl T.m_share T.F_share.kp T.B_share .nil ap (aa (uN uW (vr 0)) (aa (uN uW (vr 1)) ae))))) bF) (ah (aA (i:=2) sc_share.nd rfl (Or.inl rfl) (ao G_greatest_divisor hr rfl T.m_greatest_divisor T.F_greatest_divisor.kp T.B_greatest_divisor .nil ap (aa (aC lG rfl T.z_abs sf (aa (vr 0) ae)) (aa (vr 1) ae)))) (ak (ax (aS (aa (aw cz (vr 0) (vr 2)) (aa (aw cz (vr 1) (vr 2)) ae))))))),?_⟩
    obtain ⟨l1,l2,l3,l4,l5⟩:=low t b hb
    refine ifC (fun c=>absurd c (by omega)) (fun _=>?_)
    refine ⟨t,rfl,⟨_,_,rfl,by split <;> omega,by omega,?_⟩⟩
    rw [m4]
    have hd:Bt 3000 (Int.gcd t b:Int):=b2.le (by omega)
    refine ⟨cdB l1 hd,cdB l1 hd,bC _ _,fun p hp=>?_⟩
    exact q _ p (Same.new hp) ad
theorem j8 (T:Txt K mg a):FnOk P w K mg base CX0 1 a.f_L_low a.d_L_low ["_law_top", "_law_bottom"] eM:=by
  refine T.F_L_low.ok sc_L_low (fun vs H Q E h=>?_) (fun cdv A outer s H vs Q E hr h=>?_)
  · obtain ⟨x,y,rfl,_⟩:=h; rfl
  · obtain ⟨t,b,rfl,hb,b1,b2,q⟩:=h
    refine ⟨_,(ah (aA (i:=2) sc_L_low.nd rfl (Or.inl rfl) (aC lG rfl T.z_abs sf (aa (vr 0) ae))) (ah (aA (i:=3) sc_L_low.nd rfl (Or.inl rfl) (vr 1)) (ah (kG PassesOwn.never (df w9 (vr 3) aj (bY _)) (ak (p0 rfl sc_L_low.nd (i:=2) (j:=3) rfl rfl (by decide) rfl rfl (aa (vr 3) (aa (aw dJ (vr 2) (vr 3)) ae)) rfl))) (ak (ax (aS (aa (aw cz (vr 0) (vr 2)) (aa (aw cz (vr 1) (vr 2)) ae)))))))),?_⟩
    obtain ⟨l1,l2,l3,l4,l5⟩:=low t b hb
    have hd:Bt 3000 (Int.gcd t b:Int):=b2.le (by omega)
    refine ⟨t,rfl,?_⟩
    refine ⟨fun m σ H'=>H' = H∧∃ x y:Int,0≤x∧0≤y∧m = y.toNat∧Int.gcd x y = Int.gcd t b∧σ = [some (.int t),some (.int b),some (.int x),some (.int y)],⟨_,rfl,_,b,by split <;> omega,by omega,rfl,m4 t b,rfl⟩,?_⟩
    rintro m σ H' ⟨rfl,x,y,hx,hy,rfl,hg,rfl⟩
    refine ifC (fun c=>?_) (fun c=>?_)
    · have c':y≠0:=by have z:0 < y:=c; omega
      refine ⟨fun σ' H''=>H'' = H'∧σ' = [some (.int t),some (.int b),some (.int y),some (.int (x % y))],?_,?_⟩
      · rintro σ' H'' ⟨rfl,rfl⟩
        exact ⟨(x % y).toNat,by have:=Int.emod_lt_of_pos x (show 0 < y by omega); have:=Int.emod_nonneg x c'; omega,rfl,y,x % y,hy,Int.emod_nonneg x c',rfl,by rw [lx,hg],rfl⟩
      · exact ⟨cp (by omega),_,_,rfl,rfl,rfl⟩
    · have c':y = 0:=by have z:¬ 0 < y:=c; omega
      subst c'
      rw [Int.gcd_zero_right] at hg
      have e:x = (Int.gcd t b:Int):=by omega
      subst e
      refine ⟨cdB l1 hd,cdB l1 hd,bC _ _,fun p hp=>?_⟩
      exact q _ p (Same.new hp) ad
theorem rG (T:Txt K mg a):FnOk P w K mg base CX0 2 a.f_L_row a.d_L_row ["_law_cell_here", "_law_bit", "_law_many", "_law_most"] p4:=by
  have G_L_mix:FnOk P w K mg base CX0 1 _ _ _ u7:=vI T
  refine T.F_L_row.ok sc_L_row (fun vs H Q E h=>?_) (fun cdv A outer s H vs Q E hr h=>?_)
  · obtain ⟨c,b,n,m,rfl,_⟩:=h; rfl
  · obtain ⟨c,b,n,m,rfl,n0,n1,m0,m1,q⟩:=h
    refine ⟨_,(ah (aA (i:=4) sc_L_row.nd rfl (Or.inl rfl) (bO ae)) (ah (cL PassesOwn.never rfl (eO rfl T.z_range (aa (vr 2) ae)) (ar (i:=5) sc_L_row.nd rfl (Or.inl rfl)) (ak (cJ (df vz (aw dJ (vr 1) aj) aj (bY _)) (ah (eX (pe_m.append (vr 4) (aa (aw dJ (vr 0) (vr 3)) ae))) (ak (aA (i:=0) sc_L_row.nd rfl (Or.inl rfl) (aw cz (vr 0) (vr 3))))) (ak (eX (pe_m.append (vr 4) (aa (aw dJ (ao G_L_mix hr rfl T.m_L_mix T.F_L_mix.kp T.B_L_mix .nil ap (aa (vr 0) (aa (vr 5) ae))) (vr 3)) ae))))))) (ak (ax (vr 4))))),?_⟩
    have sl:sizeLine = 16777216:=sizeLine_eq
    refine ⟨Nat.zero_le _,fun p hp=>?_⟩
    refine ⟨n,rfl,by omega,by omega,?_⟩
    refine pA (fun i σ H'=>∃ (c':Int) (ns:List Int) (x:Option V),H' = upd H p (.lst (ns.map V.int))∧ns.length = i∧(∀ y ∈ ns,0≤y∧y < m)∧σ = [some (.int c'),some (.int b),some (.int n),some (.int m),some (.ref p),x]) ⟨c,[],none,rfl,rfl,(fun y hy=>by cases hy),rfl⟩ ?_ ?_
    · rintro i σ H' hi ⟨c',ns,x,rfl,hl,hb,rfl⟩
      have sn:∀ v:Int,0≤v→v < m→∀ y ∈ ns ++ [v],0≤y∧y < m:=fun v h0 h1 y hy=>by
        rcases List.mem_append.mp hy with hy | hy
        · exact hb y hy
        · rw [List.mem_singleton.mp hy]; exact ⟨h0,h1⟩
      have em:∀ v:Int,(ns.map V.int) ++ [V.int v] = (ns ++ [v]).map V.int:=fun v=>by rw [List.map_append]; rfl
      have lz:(ns.map V.int).length < sizeLine:=by rw [List.length_map]; omega
      refine ⟨cp,ifC (fun _=>?_) (fun _=>?_)⟩
      · refine ⟨.inl ⟨rfl,_,SqL.of ad⟩,⟨cp (by omega),⟨p,_,_,rfl,rfl,ad,lz,?_⟩⟩⟩
        refine ⟨cdB (by omega) (show Bt 40 m by unfold Bt; omega),?_⟩
        rw [m8,em]
        exact ⟨_,_,_,rfl,by rw [List.length_append,hl]; rfl,sn _ (Int.emod_nonneg _ (by omega)) (Int.emod_lt_of_pos _ (by omega)),rfl⟩
      · refine ⟨.inl ⟨rfl,_,SqL.of ad⟩,⟨c',_,rfl,by omega,by omega,fun r r0=>⟨cp (by omega),⟨p,_,_,rfl,rfl,ad,lz,?_⟩⟩⟩⟩
        rw [m8,em]
        exact ⟨_,_,_,rfl,by rw [List.length_append,hl]; rfl,sn _ (Int.emod_nonneg _ (by omega)) (Int.emod_lt_of_pos _ (by omega)),rfl⟩
    · rintro σ H' ⟨c',ns,x,rfl,hl,hb,rfl⟩
      exact q _ p ns (Same.new hp) hp ad (by omega) hb
theorem qT (T:Txt K mg a):FnOk P w K mg base CX0 1 a.f_is_unsure a.d_is_unsure ["chance"] (rf K):=by
  refine T.F_is_unsure.ok jD (fun vs H Q E h=>?_) (fun cdv A outer s H vs Q E hr h=>?_)
  · obtain ⟨x,f,rfl,_⟩:=h; rfl
  · obtain ⟨x,f,rfl,⟨p,rfl,hp⟩,q⟩:=h
    refine ⟨_,(ak (ax (tO lB lB aj (az av (vr 0) aj (fun _ _=>rfl)) (az av (vr 0) aj (fun _ _=>rfl))))),?_⟩
    refine px0 hp.sq ?_
    refine ifC (fun c=>px1 hp.sq ?_) (fun c=>?_)
    · have c:0 < f.1:=c
      have e:uns f = decide (f.1 < f.2):=by unfold uns; simp [c]
      rw [e] at q
      exact q
    · have c:¬ 0 < f.1:=c
      have e:uns f = false:=by unfold uns; simp [c]
      rw [e] at q
      exact q
theorem rm (T:Txt K mg a):FnOk P w K mg base CX0 1 a.f_L_whole a.d_L_whole ["_law_found"] oz:=by
  refine T.F_L_whole.ok ml (fun vs H Q E h=>?_) (fun cdv A outer s H vs Q E hr h=>?_)
  · obtain ⟨x,rfl,_⟩:=h; rfl
  · obtain ⟨x,rfl,q⟩:=h
    refine ⟨_,(ak (ax (u9 (aC gb rfl T.z_isinstance ck (aa (vr 0) (aa (fK (v:=.ty "int") rfl T.z_int wg rfl) ae))) (rq (xI (aC gb rfl T.z_isinstance ck (aa (vr 0) (aa (fK (v:=.ty "bool") rfl T.z_bool uo rfl) ae)))))))),?_⟩
    exact ⟨_,_,_,true,rfl,rfl,.int x,rfl,⟨_,_,_,false,rfl,rfl,.int x,rfl,q⟩⟩
theorem fP {H:Hp} {p:Addr} {t b:Int} (h:SqT K H p [.int t,.int b]):DV K H (.tuple [.int t,.int b]) (.ref p):=by
  rw [DV]
  refine ⟨p,_,rfl,h,?_⟩
  rw [DVs]
  refine ⟨_,_,rfl,by simp [DV],?_⟩
  rw [DVs]
  exact ⟨_,_,rfl,by simp [DV],by simp [DVs]⟩
theorem dg (t b:Int):SeqAt.shaped (.tuple [.int t,.int b]) = true:=rfl
theorem kL (T:Txt K mg a):FnOk P w K mg base CX0 2 a.f_L_fraction a.d_L_fraction ["_law_found", "_law_due"] (im K):=by
  have G_L_whole:FnOk P w K mg base CX0 1 _ _ _ oz:=rm T
  refine T.F_L_fraction.ok iJ (fun vs H Q E h=>?_) (fun cdv A outer s H vs Q E hr h=>?_)
  · obtain ⟨p,q,t,b,rfl,_⟩:=h; rfl
  · obtain ⟨p,r,t,b,rfl,hp,hr',q⟩:=h
    refine ⟨_,(ah (cJ (PW.pt (jk (eC (dA (aC qx rfl T.z_isinstance ck (aa (vr 0) (aa (fK (v:=.ty "tuple") rfl T.z_tuple kY rfl) ae))))) (jk (df rL (aC be rfl T.z_len cK (aa (vr 0) ae)) aj (bY _)) (jk (eC (dA (ao G_L_whole hr rfl T.m_L_whole T.F_L_whole.kp T.B_L_whole .nil ap (aa (az av (vr 0) aj (fun _ _=>rfl)) ae)))) (jP (eC (dA (ao G_L_whole hr rfl T.m_L_whole T.F_L_whole.kp T.B_L_whole .nil ap (aa (az av (vr 0) aj (fun _ _=>rfl)) ae))))))))) (ak (ax d9)) bF) (ak (ax (jS (qJ hr.units) (vr 0) (vr 1) (bY _))))),?_⟩
    refine ⟨_,_,_,true,rfl,rfl,.inr ⟨p,_,rfl,rfl,hp⟩,rfl,?_⟩
    refine ⟨_,.inr hp,?_⟩
    refine px0 hp ⟨t,rfl,px1 hp ⟨b,rfl,?_⟩⟩
    refine ⟨.tuple [.int t,.int b],.tuple [.int t,.int b],fP hp,fP hr',dg t b,dg t b,?_⟩
    rw [SeqAt.eqv_refl _ (SeqAt.canLay_of_shaped (dg t b))]
    exact q
theorem jI (T:Txt K mg a):FnOk P w K mg base CX0 3 a.f_plus a.d_plus ["one", "other"] (cH (· + ·) (fun _=>True) K):=by
  have G_share:FnOk P w K mg base CX0 2 _ _ _ eM:=ez T
  refine T.F_plus.ok ud (fun vs H Q E h=>?_) (fun cdv A outer s H vs Q E hr h=>?_)
  · obtain ⟨x,y,p,q,rfl,_⟩:=h; rfl
  · obtain ⟨x,y,p,q,rfl,⟨x,rfl,hx⟩,⟨y,rfl,hy⟩,⟨z1,z2⟩,⟨z3,z4⟩,hc,Qq⟩:=h
    have hp:=hx.sq
    have hr':=hy.sq
    have d1:(0:Int) < (p.den:Int):=by have:=p.den_pos; omega
    have d2:(0:Int) < (q.den:Int):=by have:=q.den_pos; omega
    refine ⟨_,(ak (ax (ao G_share hr rfl T.m_share T.F_share.kp T.B_share .nil ap (aa (aw cG (aw ba (az av (vr 0) aj (fun _ _=>rfl)) (az av (vr 1) aj (fun _ _=>rfl))) (aw ba (az av (vr 1) aj (fun _ _=>rfl)) (az av (vr 0) aj (fun _ _=>rfl)))) (aa (aw ba (az av (vr 0) aj (fun _ _=>rfl)) (az av (vr 1) aj (fun _ _=>rfl))) ae))))),?_⟩
    refine px0 hp (px1 hr' ⟨cmB z1 z4,px0 hr' (px1 hp ⟨cmB z3 z2,px1 hp (px1 hr' ⟨cmB z2 z4,?_⟩)⟩)⟩)
    exact ⟨_,_,rfl,Int.mul_pos d1 d2,((z1.mul z4).add (z3.mul z2)).mono (by decide),(z2.mul z4).mono (by decide),fun H' r s hr2=>Qq _ _ s ⟨r,rfl,.inl (by rw [← mQ p q]; exact hr2)⟩⟩
theorem js (T:Txt K mg a):FnOk P w K mg base CX0 2 a.f_L_plus a.d_L_plus ["_law_one", "_law_other"] (cH (· + ·) (fun _=>True) K):=by
  have G_L_low:FnOk P w K mg base CX0 1 _ _ _ eM:=j8 T
  refine T.F_L_plus.ok pJ (fun vs H Q E h=>?_) (fun cdv A outer s H vs Q E hr h=>?_)
  · obtain ⟨x,y,p,q,rfl,_⟩:=h; rfl
  · obtain ⟨x,y,p,q,rfl,⟨x,rfl,hx⟩,⟨y,rfl,hy⟩,⟨z1,z2⟩,⟨z3,z4⟩,hc,Qq⟩:=h
    have hp:=hx.sq
    have hr':=hy.sq
    have d1:(0:Int) < (p.den:Int):=by have:=p.den_pos; omega
    have d2:(0:Int) < (q.den:Int):=by have:=q.den_pos; omega
    refine ⟨_,(ak (ax (ao G_L_low hr rfl T.m_L_low T.F_L_low.kp T.B_L_low .nil ap (aa (aw cG (aw ba (az av (vr 0) aj (fun _ _=>rfl)) (az av (vr 1) aj (fun _ _=>rfl))) (aw ba (az av (vr 1) aj (fun _ _=>rfl)) (az av (vr 0) aj (fun _ _=>rfl)))) (aa (aw ba (az av (vr 0) aj (fun _ _=>rfl)) (az av (vr 1) aj (fun _ _=>rfl))) ae))))),?_⟩
    refine px0 hp (px1 hr' ⟨cmB z1 z4,px0 hr' (px1 hp ⟨cmB z3 z2,px1 hp (px1 hr' ⟨cmB z2 z4,?_⟩)⟩)⟩)
    exact ⟨_,_,rfl,Int.mul_pos d1 d2,((z1.mul z4).add (z3.mul z2)).mono (by decide),(z2.mul z4).mono (by decide),fun H' r s hr2=>Qq _ _ s ⟨r,rfl,.inl (by rw [← mQ p q]; exact hr2)⟩⟩
theorem h9 (T:Txt K mg a):FnOk P w K mg base CX0 3 a.f_minus a.d_minus ["one", "other"] (cH (· - ·) (fun _=>True) K):=by
  have G_share:FnOk P w K mg base CX0 2 _ _ _ eM:=ez T
  refine T.F_minus.ok qY (fun vs H Q E h=>?_) (fun cdv A outer s H vs Q E hr h=>?_)
  · obtain ⟨x,y,p,q,rfl,_⟩:=h; rfl
  · obtain ⟨x,y,p,q,rfl,⟨x,rfl,hx⟩,⟨y,rfl,hy⟩,⟨z1,z2⟩,⟨z3,z4⟩,hc,Qq⟩:=h
    have hp:=hx.sq
    have hr':=hy.sq
    have d1:(0:Int) < (p.den:Int):=by have:=p.den_pos; omega
    have d2:(0:Int) < (q.den:Int):=by have:=q.den_pos; omega
    refine ⟨_,(ak (ax (ao G_share hr rfl T.m_share T.F_share.kp T.B_share .nil ap (aa (aw i7 (aw ba (az av (vr 0) aj (fun _ _=>rfl)) (az av (vr 1) aj (fun _ _=>rfl))) (aw ba (az av (vr 1) aj (fun _ _=>rfl)) (az av (vr 0) aj (fun _ _=>rfl)))) (aa (aw ba (az av (vr 0) aj (fun _ _=>rfl)) (az av (vr 1) aj (fun _ _=>rfl))) ae))))),?_⟩
    refine px0 hp (px1 hr' ⟨cmB z1 z4,px0 hr' (px1 hp ⟨cmB z3 z2,px1 hp (px1 hr' ⟨cmB z2 z4,?_⟩)⟩)⟩)
    exact ⟨_,_,rfl,Int.mul_pos d1 d2,((z1.mul z4).sub (z3.mul z2)).mono (by decide),(z2.mul z4).mono (by decide),fun H' r s hr2=>Qq _ _ s ⟨r,rfl,.inl (by rw [← tG p q]; exact hr2)⟩⟩
theorem g7 (T:Txt K mg a):FnOk P w K mg base CX0 3 a.f_times a.d_times ["one", "other"] (cH (· * ·) (fun _=>True) K):=by
  have G_share:FnOk P w K mg base CX0 2 _ _ _ eM:=ez T
  refine T.F_times.ok rZ (fun vs H Q E h=>?_) (fun cdv A outer s H vs Q E hr h=>?_)
  · obtain ⟨x,y,p,q,rfl,_⟩:=h; rfl
  · obtain ⟨x,y,p,q,rfl,⟨x,rfl,hx⟩,⟨y,rfl,hy⟩,⟨z1,z2⟩,⟨z3,z4⟩,hc,Qq⟩:=h
    have hp:=hx.sq
    have hr':=hy.sq
    have d1:(0:Int) < (p.den:Int):=by have:=p.den_pos; omega
    have d2:(0:Int) < (q.den:Int):=by have:=q.den_pos; omega
    refine ⟨_,(ak (ax (ao G_share hr rfl T.m_share T.F_share.kp T.B_share .nil ap (aa (aw ba (az av (vr 0) aj (fun _ _=>rfl)) (az av (vr 1) aj (fun _ _=>rfl))) (aa (aw ba (az av (vr 0) aj (fun _ _=>rfl)) (az av (vr 1) aj (fun _ _=>rfl))) ae))))),?_⟩
    refine px0 hp (px0 hr' ⟨cmB z1 z3,px1 hp (px1 hr' ⟨cmB z2 z4,?_⟩)⟩)
    exact ⟨_,_,rfl,Int.mul_pos d1 d2,(z1.mul z3).mono (by decide),(z2.mul z4).mono (by decide),fun H' r s hr2=>Qq _ _ s ⟨r,rfl,.inl (by rw [← nB p q]; exact hr2)⟩⟩
theorem mx (T:Txt K mg a):FnOk P w K mg base CX0 2 a.f_L_times a.d_L_times ["_law_one", "_law_other"] (cH (· * ·) (fun _=>True) K):=by
  have G_L_low:FnOk P w K mg base CX0 1 _ _ _ eM:=j8 T
  refine T.F_L_times.ok mq (fun vs H Q E h=>?_) (fun cdv A outer s H vs Q E hr h=>?_)
  · obtain ⟨x,y,p,q,rfl,_⟩:=h; rfl
  · obtain ⟨x,y,p,q,rfl,⟨x,rfl,hx⟩,⟨y,rfl,hy⟩,⟨z1,z2⟩,⟨z3,z4⟩,hc,Qq⟩:=h
    have hp:=hx.sq
    have hr':=hy.sq
    have d1:(0:Int) < (p.den:Int):=by have:=p.den_pos; omega
    have d2:(0:Int) < (q.den:Int):=by have:=q.den_pos; omega
    refine ⟨_,(ak (ax (ao G_L_low hr rfl T.m_L_low T.F_L_low.kp T.B_L_low .nil ap (aa (aw ba (az av (vr 0) aj (fun _ _=>rfl)) (az av (vr 1) aj (fun _ _=>rfl))) (aa (aw ba (az av (vr 0) aj (fun _ _=>rfl)) (az av (vr 1) aj (fun _ _=>rfl))) ae))))),?_⟩
    refine px0 hp (px0 hr' ⟨cmB z1 z3,px1 hp (px1 hr' ⟨cmB z2 z4,?_⟩)⟩)
    exact ⟨_,_,rfl,Int.mul_pos d1 d2,(z1.mul z3).mono (by decide),(z2.mul z4).mono (by decide),fun H' r s hr2=>Qq _ _ s ⟨r,rfl,.inl (by rw [← nB p q]; exact hr2)⟩⟩
theorem tH (T:Txt K mg a):FnOk P w K mg base CX0 3 a.f_over a.d_over ["one", "other"] (cH (· / ·) (fun q=>0 < q) K):=by
  have G_share:FnOk P w K mg base CX0 2 _ _ _ eM:=ez T
  refine T.F_over.ok sK (fun vs H Q E h=>?_) (fun cdv A outer s H vs Q E hr h=>?_)
  · obtain ⟨x,y,p,q,rfl,_⟩:=h; rfl
  · obtain ⟨x,y,p,q,rfl,⟨x,rfl,hx⟩,⟨y,rfl,hy⟩,⟨z1,z2⟩,⟨z3,z4⟩,hc,Qq⟩:=h
    have hp:=hx.sq
    have hr':=hy.sq
    have d1:(0:Int) < (p.den:Int):=by have:=p.den_pos; omega
    have d2:(0:Int) < (q.den:Int):=by have:=q.den_pos; omega
    refine ⟨_,(ak (ax (ao G_share hr rfl T.m_share T.F_share.kp T.B_share .nil ap (aa (aw ba (az av (vr 0) aj (fun _ _=>rfl)) (az av (vr 1) aj (fun _ _=>rfl))) (aa (aw ba (az av (vr 0) aj (fun _ _=>rfl)) (az av (vr 1) aj (fun _ _=>rfl))) ae))))),?_⟩
    refine px0 hp (px1 hr' ⟨cmB z1 z4,px1 hp (px0 hr' ⟨cmB z2 z3,?_⟩)⟩)
    exact ⟨_,_,rfl,Int.mul_pos d1 (num_pos.mpr hc),(z1.mul z4).mono (by decide),(z2.mul z3).mono (by decide),fun H' r s hr2=>Qq _ _ s ⟨r,rfl,.inl (by rw [← t5 p q hc]; exact hr2)⟩⟩
theorem iE (T:Txt K mg a):FnOk P w K mg base CX0 1 a.f_below a.d_below ["one", "other"] (mZ K):=by
  refine T.F_below.ok qU (fun vs H Q E h=>?_) (fun cdv A outer s H vs Q E hr h=>?_)
  · obtain ⟨x,y,p,q,rfl,_⟩:=h; rfl
  · obtain ⟨x,y,p,q,rfl,⟨x,rfl,hx⟩,⟨y,rfl,hy⟩,⟨z1,z2⟩,⟨z3,z4⟩,Qq⟩:=h
    have hp:=hx.sq
    have hr':=hy.sq
    refine ⟨_,(ak (ax (jS lB (aw ba (az av (vr 0) aj (fun _ _=>rfl)) (az av (vr 1) aj (fun _ _=>rfl))) (aw ba (az av (vr 1) aj (fun _ _=>rfl)) (az av (vr 0) aj (fun _ _=>rfl))) (bY _)))),?_⟩
    refine px0 hp (px1 hr' ⟨cmB z1 z4,px0 hr' (px1 hp ⟨cmB z3 z2,?_⟩)⟩)
    have e:decide (p < q) = decide (p.num * (q.den:Int) < q.num * (p.den:Int)):=decide_eq_decide.mpr (Rat.lt_iff p q)
    rw [e] at Qq
    exact Qq
theorem vP (T:Txt K mg a):FnOk P w K mg base CX0 2 a.f_least_multiple a.d_least_multiple ["numbers"] uP:=by
  have G_greatest_divisor:FnOk P w K mg base CX0 1 _ _ _ rS:=rY T
  refine T.F_least_multiple.ok sc_least_multiple (fun vs H Q E h=>?_) (fun cdv A outer s H vs Q E hr h=>?_)
  · obtain ⟨l,x,y,rfl,_⟩:=h; rfl
  · obtain ⟨l,x,y,rfl,hl,x0,y0,x1,y1,q⟩:=h
    refine ⟨_,(ah (aA (i:=1) sc_least_multiple.nd rfl (Or.inl rfl) aj) (ah (cL PassesOwn.never rfl (bG (vr 0)) (ar (i:=2) sc_least_multiple.nd rfl (Or.inl rfl)) (ak (aA (i:=1) sc_least_multiple.nd rfl (Or.inl rfl) (aw ba (aw cz (vr 1) (ao G_greatest_divisor hr rfl T.m_greatest_divisor T.F_greatest_divisor.kp T.B_greatest_divisor .nil ap (aa (vr 1) (aa (vr 2) ae)))) (vr 2))))) (ak (ax (vr 1))))),?_⟩
    refine .inl ⟨⟨_,SqL.of hl⟩,cI (K:=K) (a:=l) (xs:=[.int x,.int y]) (fun i σ H'=>H' = H∧∃ (f:Int) (x2:Option V),σ = [some (.ref l),some (.int f),x2]∧(i = 0→f = 1)∧(i = 1→f = x)∧(i = 2→f = bd x y)) ⟨rfl,1,none,rfl,fun _=>rfl,(by decide:¬ 0 = 1).elim,(by decide:¬ 0 = 2).elim⟩ (fun i σ H' _ h=>by rw [h.1]; exact SqL.of hl) ?_ ?_⟩
    · rintro i z σ H' hz ⟨rfl,f,x2,rfl,h0,h1,h2⟩
      have key:∀ u:Int,0 < f→f≤1000000000→0 < u→u≤1000000000→0 < (Int.gcd f u:Int)∧Bt 40 (Int.gcd f u:Int)∧0≤f / (Int.gcd f u:Int)∧f / (Int.gcd f u:Int)≤1000000000:=fun u f0 f1 u0 u1=>by
        obtain ⟨l1,l2,_⟩:=low f u u0
        refine ⟨l1,by unfold Bt; omega,Int.ediv_nonneg (by omega) (by omega),?_⟩
        have:=Int.ediv_le_self (a:=f) (Int.gcd f u:Int) (by omega)
        omega
      match i,hz with
      | 0,hz =>
        cases hz
        cases h0 rfl
        obtain ⟨k1,k2,k3,k4⟩:=key x (by decide) (by decide) x0 x1
        refine ⟨1,x,rfl,by decide,by omega,cdB k1 k2,clB (by omega) (by omega),rfl,_,_,rfl,(fun z=>by cases z),(fun _=>?_),(fun z=>by cases z)⟩
        rw [Int.one_gcd]
        show 1 / 1 * x = x
        rw [Int.ediv_self (by decide),Int.one_mul]
      | 1,hz =>
        cases hz
        cases h1 rfl
        obtain ⟨k1,k2,k3,k4⟩:=key y x0 x1 y0 y1
        exact ⟨_,y,rfl,by omega,by omega,cdB k1 k2,clB (by omega) (by omega),rfl,_,_,rfl,(fun z=>by cases z),(fun z=>by cases z),fun _=>rfl⟩
    · rintro σ H' ⟨rfl,f,x2,rfl,h0,h1,h2⟩
      cases h2 rfl
      exact q
end
end My
namespace My
open PySem L2 FrM Du
def kR (K:PySem.W.Frag):Sp:=fun vs H Q _=>∃ (p:Addr) (ns:List Int),vs = [.ref p,.int 0,.int 6]∧SqL K H p (ns.map V.int)∧ns.length≤63∧∀ H' l xs (qs:List Rat) (B:Nat),Same H H'→H l = none→H' l = some (.lst xs)→AllF K H' (qs.map fr) xs→1≤qs.length→qs.length≤6→0 < B→B≤1000000000→(∀ q ∈ qs,Bq B q)→Q (.ref l) H'
theorem iP {i:Int} (h0:0≤i) (h1:i≤4000000000):Bt 3000 i:=(show Bt 40 i by unfold Bt; omega).mono (by decide)
theorem v8 {u b:Int} (h0:0≤u) (h1:u≤b) (hb:0 < b):Bq b.toNat ((u:Rat) / (b:Rat)):=by
  have e:((b.toNat:Nat):Rat) = (b:Rat):=by
    have:((b.toNat:Nat):Int) = b:=by omega
    rw [← this]
    rfl
  have e':((u.toNat:Nat):Rat) = (u:Rat):=by
    have:((u.toNat:Nat):Int) = u:=by omega
    rw [← this]
    rfl
  have hb':(0:Rat) < (b:Rat):=by exact_mod_cast hb
  have hu':(0:Rat)≤(u:Rat):=by exact_mod_cast h0
  have hub:(u:Rat)≤(b:Rat):=by exact_mod_cast h1
  refine ⟨ei hu' hb',?_,u.toNat,?_⟩
  · have:=ei (show (0:Rat)≤(b:Rat) - (u:Rat) by grind) hb'
    grind
  · rw [e,e']
    grind
def m9:Sp:=fun vs H Q _=>∃ (c b:Int) (n:Nat),vs = [.int c,.int b,.int (n:Nat)]∧n≤24∧∀ H' l (ord:List Nat),Same H H'→H l = none→H' l = some (.lst (ord.map fun (o:Nat)=>V.int (o:Int)))→ord.Perm (List.range n)→Q (.ref l) H'
theorem xH {k n:Nat} (h:k < n):seqIndex? (k:Int) n = some k:=by
  have h0:¬ ((k:Int) < 0):=by omega
  unfold seqIndex?
  simp only [if_neg h0]
  rw [if_pos (by simp; omega)]
  simp
theorem jZ (L:List Nat) (k:Nat):(L.map fun (i:Nat)=>V.int (i:Int)).eraseIdx k = (L.eraseIdx k).map fun (i:Nat)=>V.int (i:Int):=by
  rw [List.eraseIdx_eq_take_drop_succ,List.eraseIdx_eq_take_drop_succ,List.map_append,List.map_take,List.map_drop]
theorem lY {L:List Nat} {k:Nat} (h:k < L.length):([L[k]] ++ L.eraseIdx k).Perm L:=by
  rw [List.eraseIdx_eq_take_drop_succ]
  have e:L = L.take k ++ L[k] :: L.drop (k + 1):=by rw [← List.drop_eq_getElem_cons h,List.take_append_drop]
  exact ((List.perm_middle (a:=L[k]) (l₁:=L.take k) (l₂:=L.drop (k + 1))).symm).trans (List.Perm.of_eq e.symm)
section
variable {P:Program} {w:World} {K:PySem.W.Frag} {mg:Str→Option Value} {base:Heap} {a:Ad}
theorem o9 (T:Txt K mg a):FnOk P w K mg base CX0 3 a.f_L_shares a.d_L_shares ["_law_script", "_law_start", "_law_most"] (kR K):=by
  have G_L_cell:FnOk P w K mg base CX0 2 _ _ _ (me K):=(nX T).mono (by decide)
  have G_L_row:FnOk P w K mg base CX0 2 _ _ _ p4:=rG T
  have G_L_low:FnOk P w K mg base CX0 2 _ _ _ eM:=(j8 T).mono (by decide)
  refine T.F_L_shares.ok sc_L_shares (fun vs H Q E h=>?_) (fun cdv A outer s H vs Q E hr h=>?_)
  · obtain ⟨p,ns,rfl,_⟩:=h; rfl
  · obtain ⟨p,ns,rfl,hS,hlen,q⟩:=h
    have small:sizeLine = 16777216:=sizeLine_eq
    refine ⟨_,(ah (aA (i:=3) sc_L_shares.nd rfl (Or.inl rfl) (aw cG aj (aw dJ (ao G_L_cell hr rfl T.m_L_cell T.F_L_cell.kp T.B_L_cell .nil ap (aa (vr 0) (aa (vr 1) ae))) (vr 2)))) (ah (aA (i:=4) sc_L_shares.nd rfl (Or.inl rfl) (ao G_L_cell hr rfl T.m_L_cell T.F_L_cell.kp T.B_L_cell .nil ap (aa (vr 0) (aa (aw cG (vr 1) aj) ae)))) (ah (aA (i:=5) sc_L_shares.nd rfl (Or.inr rfl) (aw cG aj (aw dJ (ao G_L_cell hr rfl T.m_L_cell T.F_L_cell.kp T.B_L_cell .nil ap (aa (vr 0) (aa (aw cG (vr 1) aj) ae))) (az av (bO (aa aj (aa aj (aa aj (aa (aw wO aj aj) ae))))) (aw dJ (aw cz (vr 4) aj) aj) (fun _ _=>rfl))))) (ah (aA (i:=6) sc_L_shares.nd rfl (Or.inl rfl) (ao G_L_row hr rfl T.m_L_row T.F_L_row.kp T.B_L_row .nil ap (aa (ao G_L_cell hr rfl T.m_L_cell T.F_L_cell.kp T.B_L_cell .nil ap (aa (vr 0) (aa (aw cG (vr 1) aj) ae))) (aa (vr 4) (aa (vr 3) (aa (aw cG (aw cG (vr 5) aj) (aw cz (vr 5) aj)) ae)))))) (ak (ax (cC rfl (N:=["_law_top", "_law_bottom"]) (ix:=[none,some 5]) ⟨rfl,rfl,rfl,rfl,⟨rfl,rfl,rfl,trivial⟩⟩ (bG (vr 6)) ⟨fun C s H fp=>ar (i:=0) (show List.Nodup (["_law_top", "_law_bottom"]:List Str) by decide +kernel) rfl (Or.inl rfl),fun C s H fp=>cA,fun C s H fp=>(ao G_L_low hr rfl T.m_L_low T.F_L_low.kp T.B_L_low .nil ap (aa (aC (oR rfl) rfl T.z_min qV (aa (vr 0) (aa (vr 1) ae))) (aa (vr 1) ae)))⟩))))))),?_⟩
    refine ⟨p,ns,0,rfl,hS,hlen,by decide,by decide,cp,?_⟩
    refine ⟨p,ns,1,rfl,hS,hlen,by decide,by decide,?_⟩
    refine ⟨p,ns,2,rfl,hS,hlen,by decide,by decide,?_⟩
    refine ⟨cw,by show 4≤sizeLine; decide,fun l4 f4=>?_⟩
    have s1:Same H (upd H l4 (.lst [.int 4,.int 12,.int 1000,.int ((10:Int) ^ (9:Int).toNat)])):=Same.new f4
    have e9:(10:Int) ^ (9:Int).toNat = 1000000000:=by decide
    refine ⟨cdB (by decide) (show Bt 40 2 by unfold Bt; decide),cp,?_⟩
    obtain ⟨v,hv,ev⟩:=wb (xs:=([4,12,1000,(10:Int) ^ (9:Int).toNat]:List Int).map V.int) (i:=d6 ns 1 / 2 % 4) (Int.emod_nonneg _ (by decide)) (by have:=Int.emod_lt_of_pos (d6 ns 1 / 2) (show (0:Int) < 4 by decide); simpa using this)
    obtain ⟨st,hst,rfl⟩:=List.mem_map.mp hv
    have hst':4≤st∧st≤1000000000:=by
      rw [e9] at hst
      simp only [List.mem_cons,List.not_mem_nil,or_false] at hst
      omega
    refine .inl ⟨l4,([4,12,1000,(10:Int) ^ (9:Int).toNat]:List Int).map V.int,_,.int st,rfl,rfl,SqL.of ad,ev,cp (by omega),?_⟩
    have hb0:=Int.emod_nonneg (d6 ns 2) (show st≠0 by omega)
    have hb1:=Int.emod_lt_of_pos (d6 ns 2) (show 0 < st by omega)
    have hm0:=Int.emod_nonneg (d6 ns 0) (show (6:Int)≠0 by decide)
    have hm1:=Int.emod_lt_of_pos (d6 ns 0) (show (0:Int) < 6 by decide)
    refine ⟨p,ns,3,rfl,s1.seq hS,hlen,by decide,by decide,?_⟩
    refine ⟨cdB (by decide) (show Bt 40 8 by unfold Bt; decide),?_⟩
    have hbb:0≤(1 + d6 ns 2 % st) / 8∧(1 + d6 ns 2 % st) / 8≤1 + d6 ns 2 % st:=⟨Int.ediv_nonneg (by omega) (by decide),Int.ediv_le_self _ (by omega)⟩
    refine ⟨_,_,_,_,rfl,by omega,by omega,by omega,by omega,fun H2 pr tops s2 fpr hpr hlt htb=>?_⟩
    refine .inl ⟨⟨_,SqL.of hpr⟩,fun D hD=>?_⟩
    generalize hbt:1 + d6 ns 2 % st = bt at *
    have s12:=s1.trans s2
    refine bB (K:=K) (a:=pr) (xs:=tops.map V.int) (fun i zs H'=>Same H2 H'∧H' D = some (.lst zs)∧i≤tops.length∧AllF K H' (((tops.take i).map fun t=>(((if bt < t then bt else t:Int):Rat) / (bt:Rat))).map fr) zs) ⟨Same.new hD,ad,Nat.zero_le _,.nil⟩ (fun i ys H' h=>SqL.of (h.1 _ _ hpr)) (fun i ys H' h=>h.2.1) ?_ ?_
    · rintro i y zs H' P' hy ⟨s3,hD3,hi,hzs⟩ hP'
      rw [List.getElem?_map] at hy
      cases hoi:tops[i]? with
      | none=>rw [hoi] at hy; cases hy
      | some t =>
        rw [hoi] at hy
        cases hy
        have ilt:i < tops.length:=(List.getElem?_eq_some_iff.mp hoi).1
        have tb:=htb t (List.mem_of_getElem? hoi)
        have zl:zs.length≤24:=by rw [← hzs.len,List.length_map,List.length_map,List.length_take]; omega
        refine ⟨⟨rfl,trivial⟩,t,bt,rfl,_,bt,rfl,by omega,iP (by split <;> omega) (by split <;> omega),iP (by omega) (by omega),fun H4 pf s4 hpf=>?_⟩
        have hD4:=s4 _ _ hD3
        have np:pf≠D:=fun z=>by rw [z,hD4] at hpf; cases hpf
        refine ⟨hD4,by omega,hP' _ _ ⟨(s3.trans s4).put hD,ad,ilt,?_⟩⟩
        rw [List.take_add_one,hoi,List.map_append,List.map_append]
        exact AllF.snoc ⟨pf,rfl,.inl (by rw [ai np,← fN _ (show 0 < bt by omega)]; exact hpf)⟩ ((hzs.same s4).tk (TK.lst hD4))
    · rintro zs H' ⟨s3,hD3,_,hzs⟩
      rw [List.length_map,List.take_length] at hzs
      have fD:H D = none:=s12.free hD
      refine q _ D zs _ bt.toNat (s12.trans s3) fD hD3 hzs (by rw [List.length_map]; omega) (by rw [List.length_map]; omega) (by omega) (by omega) fun f hf=>?_
      obtain ⟨t,ht,rfl⟩:=List.mem_map.mp hf
      have:=htb t ht
      exact v8 (by split <;> omega) (by split <;> omega) (by omega)
theorem ro (T:Txt K mg a):FnOk P w K mg base CX0 3 a.f_L_order a.d_L_order ["_law_cell_here", "_law_bit", "_law_many"] m9:=by
  have G_L_row:FnOk P w K mg base CX0 2 _ _ _ p4:=rG T
  refine T.F_L_order.ok sc_L_order (fun vs H Q E h=>?_) (fun cdv A outer s H vs Q E hr h=>?_)
  · obtain ⟨c,b,n,rfl,_⟩:=h; rfl
  · obtain ⟨c,b,n,rfl,hn,q⟩:=h
    have small:sizeLine = 16777216:=sizeLine_eq
    refine ⟨_,(ah (aA (i:=3) sc_L_order.nd rfl (Or.inl rfl) (bN (fM rfl) rfl T.z_list dc (aa (bN jf rfl T.z_range lv (aa (vr 2) ae)) ae))) (ah (aA (i:=4) sc_L_order.nd rfl (Or.inl rfl) (bO ae)) (ah (cL PassesOwn.never rfl (bG (ao G_L_row hr rfl T.m_L_row T.F_L_row.kp T.B_L_row .nil ap (aa (vr 0) (aa (vr 1) (aa (vr 2) (aa aj ae)))))) (ar (i:=5) sc_L_order.nd rfl (Or.inl rfl)) (ak (eX (pe_m.append (vr 4) (aa (pe_m.popAt (vr 3) (aa (aw dJ (vr 5) (aC be rfl T.z_len cK (aa (vr 3) ae))) ae)) ae))))) (ak (ax (vr 4)))))),?_⟩
    refine ⟨_,rfl,fun rg frg=>⟨rg,n,rfl,by omega,ad,fun lf flf=>?_⟩⟩
    have s1:=Same.new (o:=.rng 0 (n:Int)) frg
    have s2:=s1.trans (Same.new (o:=.lst ((List.range n).map fun (i:Nat)=>V.int (i:Int))) flf)
    have hlf:(upd (upd H rg (.rng 0 (n:Int))) lf (.lst ((List.range n).map fun (i:Nat)=>V.int (i:Int)))) lf = some (.lst ((List.range n).map fun (i:Nat)=>V.int (i:Int))):=ad
    have flf0:H lf = none:=by
      cases hh:H lf with
      | none=>rfl
      | some o=>rw [s1 _ _ hh] at flf; cases flf
    generalize upd (upd H rg (.rng 0 (n:Int))) lf (.lst ((List.range n).map fun (i:Nat)=>V.int (i:Int))) = H2 at s2 hlf
    refine ⟨Nat.zero_le _,fun od fod=>?_⟩
    have s3:=s2.trans (Same.new (o:=.lst []) fod)
    have hod:(upd H2 od (.lst [])) od = some (.lst []):=ad
    have hlf3:=Same.new (o:=.lst []) fod _ _ hlf
    have nod:od≠lf:=fun z=>by rw [z,hlf] at fod; cases fod
    have fod0:H od = none:=by
      cases hh:H od with
      | none=>rfl
      | some o=>rw [s2 _ _ hh] at fod; cases fod
    generalize upd H2 od (.lst []) = H3 at s3 hod hlf3
    refine ⟨c,b,(n:Int),24,rfl,by omega,by omega,by decide,by decide,fun H4 pr picks s4 fpr hpr hpl hpb=>?_⟩
    refine .inl ⟨⟨_,SqL.of hpr⟩,?_⟩
    have npl:pr≠lf:=fun z=>by rw [z,hlf3] at fpr; cases fpr
    have npo:pr≠od:=fun z=>by rw [z,hod] at fpr; cases fpr
    refine cI (K:=K) (a:=pr) (xs:=picks.map V.int) (fun i σ H'=>∃ (L O:List Nat) (x5:Option V),H' pr = some (.lst (picks.map V.int))∧Same H H'∧H' lf = some (.lst (L.map fun (i:Nat)=>V.int (i:Int)))∧H' od = some (.lst (O.map fun (i:Nat)=>V.int (i:Int)))∧(O ++ L).Perm (List.range n)∧O.length = i∧σ = [some (.int c),some (.int b),some (.int (n:Int)),some (.ref lf),some (.ref od),x5]) ⟨List.range n,[],none,hpr,s3.trans s4,s4 _ _ hlf3,s4 _ _ hod,List.Perm.refl _,rfl,rfl⟩ (fun i σ H' _ h=>by obtain ⟨L,O,x5,h,_⟩:=h; exact SqL.of h) ?_ ?_
    · rintro i x σ H' hx ⟨L,O,x5,hp',s5,hL,hO,hperm,hol,rfl⟩
      rw [List.getElem?_map] at hx
      cases hpi:picks[i]? with
      | none=>rw [hpi] at hx; cases hx
      | some pk =>
        rw [hpi] at hx
        cases hx
        have ilt:i < picks.length:=(List.getElem?_eq_some_iff.mp hpi).1
        have hll:O.length + L.length = n:=by rw [← List.length_append,hperm.length_eq,List.length_range]
        have hLp:0 < L.length:=by omega
        have m0:=Int.emod_nonneg pk (show (L.length:Int)≠0 by omega)
        have m1:=Int.emod_lt_of_pos pk (show (0:Int) < (L.length:Int) by omega)
        refine ⟨.inl ⟨rfl,_,SqL.of hO⟩,?_⟩
        refine ⟨.inl ⟨rfl,_,SqL.of hL⟩,?_⟩
        refine ⟨_,.inl (SqL.of hL),?_⟩
        rw [List.length_map]
        refine ⟨cp (by omega),?_⟩
        generalize hk:pk % (L.length:Int) = kk at *
        obtain ⟨k,rfl⟩:∃ k:Nat,kk = (k:Int):=⟨kk.toNat,by omega⟩
        have hkl:k < L.length:=by omega
        refine ⟨lf,_,(k:Int),k,.int (L[k]:Nat),rfl,(by show [V.int (pk % (L.length:Int))] = [V.int (k:Int)]; rw [hk]),hL,by omega,by omega,xH (by rw [List.length_map]; exact hkl),by rw [List.getElem?_map,List.getElem?_eq_getElem hkl]; rfl,?_⟩
        have hO2:(upd H' lf (.lst ((L.map fun (i:Nat)=>V.int (i:Int)).eraseIdx k))) od = some (.lst (O.map fun (i:Nat)=>V.int (i:Int))):=by rw [ai nod]; exact hO
        refine ⟨od,_,_,rfl,rfl,hO2,by rw [List.length_map]; omega,?_⟩
        refine ⟨L.eraseIdx k,O ++ [L[k]],_,?_,?_,?_,?_,?_,by rw [List.length_append,hol]; rfl,rfl⟩
        · rw [ai npo,ai npl]; exact hp'
        · intro b o e
          rw [ai (aq e fod0),ai (aq e flf0)]
          exact s5 _ _ e
        · rw [ai (Ne.symm nod),ad,jZ]
        · rw [ad,List.map_append]; rfl
        · rw [List.append_assoc]
          refine List.Perm.trans (List.Perm.append_left O ?_) hperm
          exact lY hkl
    · rintro σ H' ⟨L,O,x5,hp',s5,hL,hO,hperm,hol,rfl⟩
      rw [List.length_map] at hol
      have hll:O.length + L.length = n:=by rw [← List.length_append,hperm.length_eq,List.length_range]
      have:L = []:=List.length_eq_zero_iff.mp (by omega)
      rw [this,List.append_nil] at hperm
      exact q _ od O s5 fod0 hO hperm
end
end My
namespace My
open PySem L2 FrM Du
abbrev Lm:Nat:=2 ^ 980
theorem lU {D B:Nat} (hB:0 < B) (h:D * B < Lm):D < Lm:=Nat.lt_of_le_of_lt (Nat.le_mul_of_pos_right D hB) h
theorem jH {B:Nat} (h:B≤1000000000):B < Lm:=Nat.lt_of_le_of_lt h (by decide +kernel)
theorem uL {B:Nat} (h:B≤1000000000):2 * B < Lm:=Nat.lt_of_le_of_lt (show 2 * B≤2000000000 by omega) (by decide +kernel)
def PQ (K:PySem.W.Frag) (H:Hp) (z:Nat×Rat) (x:V):Prop:=∃ p v,x = .ref p∧H p = some (.tup [.int (z.1:Nat),v])∧IsQ K H z.2 v
def EQ (K:PySem.W.Frag) (H:Hp) (z:Nat×(Rat×Rat)) (x:V):Prop:=∃ p u s,x = .ref p∧H p = some (.tup [.int (z.1:Nat),u,s])∧IsQ K H z.2.1 u∧IsQ K H z.2.2 s
theorem PQ.tk {K:PySem.W.Frag} {H H':Hp} {z:Nat×Rat} {x:V} (k:TK H H') (h:PQ K H z x):PQ K H' z x:=let ⟨p,v,e,h1,h2⟩:=h; ⟨p,v,e,k _ _ h1,h2.tk k⟩
theorem EQ.tk {K:PySem.W.Frag} {H H':Hp} {z:Nat×(Rat×Rat)} {x:V} (k:TK H H') (h:EQ K H z x):EQ K H' z x:=let ⟨p,u,s,e,h1,h2,h3⟩:=h; ⟨p,u,s,e,k _ _ h1,h2.tk k,h3.tk k⟩
theorem ay {α β:Type} {R R':α→β→Prop} (f:∀ x y,R x y→R' x y):∀ {xs:List α} {ys:List β},Paired R xs ys→Paired R' xs ys
  | _,_,.nil=>.nil
  | _,_,.cons r t=>.cons (f _ _ r) (ay f t)
theorem bL {α β:Type} {R:α→β→Prop}:∀ {xs:List α} {ys:List β} {i:Nat} {y:β},Paired R xs ys→ys[i]? = some y→∃ x,xs[i]? = some x∧R x y
  | _,_,_,_,.nil,h=>by cases h
  | _,_,0,_,.cons r _,h=>⟨_,rfl,by cases h; exact r⟩
  | _,_,i + 1,_,.cons _ t,h=>bL (i:=i) t h
theorem b9 {α β:Type} {R:α→β→Prop} {x:α} {y:β} (h:R x y):∀ {xs:List α} {ys:List β},Paired R xs ys→Paired R (xs ++ [x]) (ys ++ [y])
  | _,_,.nil=>.cons h .nil
  | _,_,.cons a b=>.cons a (b9 h b)
theorem hG {α β:Type} {R:α→β→Prop}:∀ {xs xs':List α} {ys ys':List β},Paired R xs ys→Paired R xs' ys'→Paired R (xs ++ xs') (ys ++ ys')
  | _,_,_,_,.nil,h=>h
  | _,_,_,_,.cons a b,h=>.cons a (hG b h)
theorem jc {h c:Rat} {us:Rat×Rat} (z:h + c < 1):aZ h us c = (us.1 * (h / (h + c)),us.2):=by unfold aZ; rw [if_pos z]
theorem jh {h c:Rat} {us:Rat×Rat} (z:¬ h + c < 1):aZ h us c = (us.1 * ((1 - h) / (2 - (h + c))),us.2 + us.1 * ((1 - c) / (2 - (h + c)))):=by unfold aZ; rw [if_neg z]
theorem rW {h c:Rat} (z:h + c < 1):us0 h c = (c / (h + c),0):=by unfold us0; rw [if_pos z]
theorem rR {h c:Rat} (z:¬ h + c < 1):us0 h c = ((1 - c) / (2 - (h + c)),(1 - h) / (2 - (h + c))):=by unfold us0; rw [if_neg z]
structure Hc (B:Nat) (h c:Rat):Prop where
  B0:0 < B
  B1:B≤1000000000
  hB:Bq B h
  cB:Bq B c
  h1:h < 1
  c0:0 < c
  c1:c < 1
theorem Hc.bh {B:Nat} {h c:Rat} (H:Hc B h c):Bb h:=H.hB.bb H.B0 (jH H.B1)
theorem Hc.bc {B:Nat} {h c:Rat} (H:Hc B h c):Bb c:=H.cB.bb H.B0 (jH H.B1)
theorem Hc.bs {B:Nat} {h c:Rat} (H:Hc B h c):Bb (h + c):=(v5 H.hB H.cB).bb H.B0 (jH H.B1)
theorem Hc.bs1 {B:Nat} {h c:Rat} (H:Hc B h c):Bb (h + c - 1):=(tU H.hB H.cB).bb H.B0 (jH H.B1)
theorem Hc.bs2 {B:Nat} {h c:Rat} (H:Hc B h c):Bb (2 - (h + c)):=(sF H.hB H.cB).bb H.B0 (jH H.B1)
theorem Hc.b1c {B:Nat} {h c:Rat} (H:Hc B h c):Bb (1 - c):=(jy H.cB).bb H.B0 (jH H.B1)
theorem Hc.b1h {B:Nat} {h c:Rat} (H:Hc B h c):Bb (1 - h):=(jy H.hB).bb H.B0 (jH H.B1)
theorem Hc.step {B:Nat} {h c:Rat} (H:Hc B h c):∃ T:Nat,0 < T∧T≤2 * B∧(h + c < 1→Bq T (h / (h + c))∧Bq T (c / (h + c)))∧(¬ h + c < 1→Bq T ((1 - c) / (2 - (h + c)))∧Bq T ((1 - h) / (2 - (h + c)))):=iw H.B0 H.hB H.cB H.h1 H.c0 H.c1
theorem bb0:Bb 0:=⟨by show Bt 1000 0; unfold Bt; decide,by show Bt 1000 1; unfold Bt; decide⟩
theorem bb1:Bb 1:=⟨by show Bt 1000 1; unfold Bt; decide,by show Bt 1000 1; unfold Bt; decide⟩
theorem bb2:Bb 2:=⟨by show Bt 1000 2; unfold Bt; decide,by show Bt 1000 1; unfold Bt; decide⟩
def pM (K:PySem.W.Frag):Sp:=fun vs H Q _=>∃ (xu xs xh xc:V) (us:Rat×Rat) (h c:Rat) (D B:Nat),vs = [xu,xs,xh,xc]∧IsQ K H us.1 xu∧IsQ K H us.2 xs∧IsQ K H h xh∧IsQ K H c xc∧Hc B h c∧Pu D us∧0 < D∧D * B < Lm∧∀ H' z,Same H H'→IsQ K H' (bk us h c) z→Q z H'
def se (K:PySem.W.Frag):Sp:=fun vs H Q _=>∃ (xh xc:V) (h c:Rat) (B:Nat),vs = [xh,xc]∧IsQ K H h xh∧IsQ K H c xc∧Hc B h c∧∀ H' z,Same H H'→IsQ K H' (hb h c) z→Q z H'
def uH (K:PySem.W.Frag):Sp:=fun vs H Q _=>∃ (le:Addr) (xh xc:V) (p:Nat) (h c:Rat) (es:Er) (xs:List V) (D B:Nat),vs = [.ref le,xh,.int (p:Nat),xc]∧H le = some (.lst xs)∧Paired (EQ K H) es xs∧es.length≤24∧IsQ K H h xh∧IsQ K H c xc∧Hc B h c∧(∀ z ∈ es,Pu D z.2)∧0 < D∧D * (2 * B) < Lm ∧
  ∀ H' l ys,Same H H'→H l = none→H' l = some (.lst ys)→Paired (EQ K H') (es.map (fun z=>(z.1,aZ h z.2 c)) ++ [(p,us0 h c)]) ys→Q (.ref l) H'
section
variable {P:Program} {w:World} {K:PySem.W.Frag} {mg:Str→Option Value} {base:Heap} {a:Ad}
theorem eV (T:Txt K mg a) {H:Hp}:IsQ K H 1 (.ref a.k_WHOLE):=⟨_,rfl,.inr T.t_WHOLE⟩
theorem ii (T:Txt K mg a) {H:Hp}:IsQ K H 0 (.ref a.k_NOUGHT):=⟨_,rfl,.inr T.t_NOUGHT⟩
theorem tE (T:Txt K mg a) {H:Hp}:IsQ K H 2 (.ref a.k_TWICE):=⟨_,rfl,.inr T.t_TWICE⟩
theorem tS (T:Txt K mg a):FnOk P w K mg base CX0 4 a.f_both_kept a.d_both_kept ["up", "sure", "held", "chance"] (pM K):=by
  have G_plus:FnOk P w K mg base CX0 3 _ _ _ (cH (· + ·) (fun _=>True) K):=jI T
  have G_minus:FnOk P w K mg base CX0 3 _ _ _ (cH (· - ·) (fun _=>True) K):=h9 T
  have G_times:FnOk P w K mg base CX0 3 _ _ _ (cH (· * ·) (fun _=>True) K):=g7 T
  have G_below:FnOk P w K mg base CX0 3 _ _ _ (mZ K):=(iE T).mono (by decide)
  refine T.F_both_kept.ok sc_both_kept (fun vs H Q E h=>?_) (fun cdv A outer s H vs Q E hr h=>?_)
  · obtain ⟨xu,xs,xh,xc,us,h,c,D,B,rfl,_⟩:=h; rfl
  · obtain ⟨xu,xs,xh,xc,us,h,c,D,B,rfl,hu,hs,hh,hc,hcB,hP,hD,hl,q⟩:=h
    refine ⟨_,(ah (aA (i:=4) sc_both_kept.nd rfl (Or.inl rfl) (ao G_minus hr rfl T.m_minus T.F_minus.kp T.B_minus .nil ap (aa (ao G_plus hr rfl T.m_plus T.F_plus.kp T.B_plus .nil ap (aa (vr 2) (aa (vr 3) ae))) (aa (dk rfl T.g_WHOLE) ae)))) (ah (aA (i:=5) sc_both_kept.nd rfl (Or.inl rfl) (ao G_times hr rfl T.m_times T.F_times.kp T.B_times .nil ap (aa (vr 1) (aa (vr 3) ae)))) (ak (ax (kH (dA (ao G_below hr rfl T.m_below T.F_below.kp T.B_below .nil ap (aa (dk rfl T.g_NOUGHT) (aa (vr 4) ae)))) (ao G_plus hr rfl T.m_plus T.F_plus.kp T.B_plus .nil ap (aa (vr 5) (aa (ao G_times hr rfl T.m_times T.F_times.kp T.B_times .nil ap (aa (vr 0) (aa (vr 4) ae))) ae))) (vr 5)))))),?_⟩
    obtain ⟨k1,k2,k3⟩:=hP.bk hcB.cB hcB.hB hcB.h1 hcB.c1
    have lD:=lU hcB.B0 hl
    have DB:0 < D * B:=Nat.mul_pos hD hcB.B0
    refine ⟨_,_,h,c,rfl,hh,hc,hcB.bh,hcB.bc,trivial,fun H1 z1 s1 q1=>?_⟩
    refine ⟨_,_,h + c,1,rfl,q1,eV T,hcB.bs,bb1,trivial,fun H2 z2 s2 q2=>?_⟩
    have s12:=s1.trans s2
    refine ⟨_,_,us.2,c,rfl,hs.same s12,hc.same s12,hP.2.1.bb hD lD,hcB.bc,trivial,fun H3 z3 s3 q3=>?_⟩
    have s13:=s12.trans s3
    refine ⟨_,_,0,h + c - 1,rfl,ii T,q2.same s3,bb0,hcB.bs1,?_⟩
    refine ifC (fun z=>?_) (fun z=>?_)
    · have z:0 < h + c - 1:=z
      refine ⟨_,_,us.1,h + c - 1,rfl,hu.same s13,q2.same s3,hP.1.bb hD lD,hcB.bs1,trivial,fun H4 z4 s4 q4=>?_⟩
      refine ⟨_,_,us.2 * c,us.1 * (h + c - 1),rfl,q3.same s4,q4,k1.bb DB hl,(k2 z).2.bb DB hl,trivial,fun H5 z5 s5 q5=>?_⟩
      refine q _ _ (s13.trans (s4.trans s5)) ?_
      unfold bk
      rw [if_pos z]
      exact q5
    · have z:¬ 0 < h + c - 1:=z
      refine q _ _ s13 ?_
      unfold bk
      rw [if_neg z]
      exact q3
theorem tX (T:Txt K mg a):FnOk P w K mg base CX0 4 a.f_held_behind a.d_held_behind ["held", "chance"] (se K):=by
  have G_plus:FnOk P w K mg base CX0 3 _ _ _ (cH (· + ·) (fun _=>True) K):=jI T
  have G_minus:FnOk P w K mg base CX0 3 _ _ _ (cH (· - ·) (fun _=>True) K):=h9 T
  have G_below:FnOk P w K mg base CX0 3 _ _ _ (mZ K):=(iE T).mono (by decide)
  refine T.F_held_behind.ok sc_held_behind (fun vs H Q E h=>?_) (fun cdv A outer s H vs Q E hr h=>?_)
  · obtain ⟨xh,xc,h,c,B,rfl,_⟩:=h; rfl
  · obtain ⟨xh,xc,h,c,B,rfl,hh,hc,hcB,q⟩:=h
    refine ⟨_,(ah (aA (i:=2) sc_held_behind.nd rfl (Or.inl rfl) (ao G_plus hr rfl T.m_plus T.F_plus.kp T.B_plus .nil ap (aa (vr 0) (aa (vr 1) ae)))) (ak (ax (kH (dA (ao G_below hr rfl T.m_below T.F_below.kp T.B_below .nil ap (aa (vr 2) (aa (dk rfl T.g_WHOLE) ae)))) (vr 2) (ao G_minus hr rfl T.m_minus T.F_minus.kp T.B_minus .nil ap (aa (vr 2) (aa (dk rfl T.g_WHOLE) ae))))))),?_⟩
    refine ⟨_,_,h,c,rfl,hh,hc,hcB.bh,hcB.bc,trivial,fun H1 z1 s1 q1=>?_⟩
    refine ⟨_,_,h + c,1,rfl,q1,eV T,hcB.bs,bb1,?_⟩
    refine ifC (fun z=>?_) (fun z=>?_)
    · have z:h + c < 1:=z
      refine q _ _ s1 ?_
      unfold hb
      rw [if_pos z]
      exact q1
    · have z:¬ h + c < 1:=z
      refine ⟨_,_,h + c,1,rfl,q1,eV T,hcB.bs,bb1,trivial,fun H2 z2 s2 q2=>?_⟩
      refine q _ _ (s1.trans s2) ?_
      unfold hb
      rw [if_neg z]
      exact q2
theorem vQ (T:Txt K mg a):FnOk P w K mg base CX0 4 a.f_behind_duel a.d_behind_duel ["earlier", "held", "place", "chance"] (uH K):=by
  have G_plus:FnOk P w K mg base CX0 3 _ _ _ (cH (· + ·) (fun _=>True) K):=jI T
  have G_minus:FnOk P w K mg base CX0 3 _ _ _ (cH (· - ·) (fun _=>True) K):=h9 T
  have G_times:FnOk P w K mg base CX0 3 _ _ _ (cH (· * ·) (fun _=>True) K):=g7 T
  have G_over:FnOk P w K mg base CX0 3 _ _ _ (cH (· / ·) (fun q=>0 < q) K):=tH T
  have G_below:FnOk P w K mg base CX0 3 _ _ _ (mZ K):=(iE T).mono (by decide)
  refine T.F_behind_duel.ok sc_behind_duel (fun vs H Q E h=>?_) (fun cdv A outer s H vs Q E hr h=>?_)
  · obtain ⟨le,xh,xc,p,h,c,es,xs,D,B,rfl,_⟩:=h; rfl
  · obtain ⟨le,xh,xc,p,h,c,es,xs,D,B,rfl,hle,hE,hl24,hh,hc,hcB,hP,hD,hlm,q⟩:=h
    have small:sizeLine = 16777216:=sizeLine_eq
    refine ⟨_,(ah (aA (i:=4) sc_behind_duel.nd rfl (Or.inl rfl) (ao G_plus hr rfl T.m_plus T.F_plus.kp T.B_plus .nil ap (aa (vr 1) (aa (vr 3) ae)))) (ah (cJ (dA (ao G_below hr rfl T.m_below T.F_below.kp T.B_below .nil ap (aa (vr 4) (aa (dk rfl T.g_WHOLE) ae)))) (ah (aA (i:=5) sc_behind_duel.nd rfl (Or.inr rfl) (ao G_over hr rfl T.m_over T.F_over.kp T.B_over .nil ap (aa (vr 1) (aa (vr 4) ae)))) (ah (gQ rfl (i:=6) sc_behind_duel.nd rfl rfl (by with_unfolding_all rfl) (N:=["one", "up", "sure", "stays"]) (ix:=[none,none,none,some 5]) ⟨rfl,rfl,rfl,rfl,⟨rfl,rfl,rfl,trivial⟩⟩ (bG (vr 0)) ⟨fun C s H fp=>(dj (K:=K) (n:=3) rfl rfl (au (ar (i:=0) (show List.Nodup (["one", "up", "sure", "stays"]:List Str) by decide +kernel) rfl (Or.inl rfl)) (au (ar (i:=1) (show List.Nodup (["one", "up", "sure", "stays"]:List Str) by decide +kernel) rfl (Or.inl rfl)) (au (ar (i:=2) (show List.Nodup (["one", "up", "sure", "stays"]:List Str) by decide +kernel) rfl (Or.inl rfl)) bj)))),fun C s H fp=>cA,fun C s H fp=>(aS (aa (vr 0) (aa (ao G_times hr rfl T.m_times T.F_times.kp T.B_times .nil ap (aa (vr 1) (aa (vr 3) ae))) (aa (vr 2) ae))))⟩) (ak (ax (aw ij (vr 6) (bO (aa (aS (aa (vr 2) (aa (ao G_over hr rfl T.m_over T.F_over.kp T.B_over .nil ap (aa (vr 3) (aa (vr 4) ae))) (aa (dk rfl T.g_NOUGHT) ae)))) ae))))))) bF) (ah (aA (i:=7) sc_behind_duel.nd rfl (Or.inl rfl) (ao G_minus hr rfl T.m_minus T.F_minus.kp T.B_minus .nil ap (aa (dk rfl T.g_TWICE) (aa (vr 4) ae)))) (ah (aA (i:=8) sc_behind_duel.nd rfl (Or.inr rfl) (ao G_over hr rfl T.m_over T.F_over.kp T.B_over .nil ap (aa (ao G_minus hr rfl T.m_minus T.F_minus.kp T.B_minus .nil ap (aa (dk rfl T.g_WHOLE) (aa (vr 3) ae))) (aa (vr 7) ae)))) (ah (aA (i:=9) sc_behind_duel.nd rfl (Or.inr rfl) (ao G_over hr rfl T.m_over T.F_over.kp T.B_over .nil ap (aa (ao G_minus hr rfl T.m_minus T.F_minus.kp T.B_minus .nil ap (aa (dk rfl T.g_WHOLE) (aa (vr 1) ae))) (aa (vr 7) ae)))) (ah (gQ rfl (i:=6) sc_behind_duel.nd rfl rfl (by with_unfolding_all rfl) (N:=["one", "up", "sure", "back", "ahead"]) (ix:=[none,none,none,some 9,some 8]) ⟨rfl,rfl,rfl,rfl,⟨rfl,rfl,rfl,⟨rfl,rfl,rfl,trivial⟩⟩⟩ (bG (vr 0)) ⟨fun C s H fp=>(dj (K:=K) (n:=3) rfl rfl (au (ar (i:=0) (show List.Nodup (["one", "up", "sure", "back", "ahead"]:List Str) by decide +kernel) rfl (Or.inl rfl)) (au (ar (i:=1) (show List.Nodup (["one", "up", "sure", "back", "ahead"]:List Str) by decide +kernel) rfl (Or.inl rfl)) (au (ar (i:=2) (show List.Nodup (["one", "up", "sure", "back", "ahead"]:List Str) by decide +kernel) rfl (Or.inl rfl)) bj)))),fun C s H fp=>cA,fun C s H fp=>(aS (aa (vr 0) (aa (ao G_times hr rfl T.m_times T.F_times.kp T.B_times .nil ap (aa (vr 1) (aa (vr 3) ae))) (aa (ao G_plus hr rfl T.m_plus T.F_plus.kp T.B_plus .nil ap (aa (vr 2) (aa (ao G_times hr rfl T.m_times T.F_times.kp T.B_times .nil ap (aa (vr 1) (aa (vr 4) ae))) ae))) ae))))⟩) (ak (ax (aw ij (vr 6) (bO (aa (aS (aa (vr 2) (aa (vr 8) (aa (vr 9) ae)))) ae))))))))))),?_⟩
    obtain ⟨TT,t0,t1,hT⟩:=hcB.step
    have h0:=hcB.hB.1
    have lD:D < Lm:=lU (show 0 < 2 * B by have:=hcB.B0; omega) hlm
    have lT:TT < Lm:=Nat.lt_of_le_of_lt t1 (uL hcB.B1)
    have lDT:D * TT < Lm:=Nat.lt_of_le_of_lt (Nat.mul_le_mul_left D t1) hlm
    have DT0:0 < D * TT:=Nat.mul_pos hD t0
    have hxl:xs.length = es.length:=(Paired.length hE).symm
    refine ⟨_,_,h,c,rfl,hh,hc,hcB.bh,hcB.bc,trivial,fun H1 z1 s1 q1=>?_⟩
    refine ⟨_,_,h + c,1,rfl,q1,eV T,hcB.bs,bb1,?_⟩
    have sp:0 < h + c:=by have:=hcB.c0; grind
    refine ifC (fun z=>?_) (fun z=>?_)
    · have z:h + c < 1:=z
      obtain ⟨t2,t3⟩:=hT.1 z
      refine ⟨_,_,h,h + c,rfl,hh.same s1,q1,hcB.bh,hcB.bs,sp,fun H2 z2 s2 q2=>?_⟩
      have s02:=s1.trans s2
      have hle2:=s02 _ _ hle
      have hE2:=ay (fun z x (h:EQ K H z x)=>h.tk s02.tk) hE
      refine .inl ⟨⟨_,SqL.of hle2⟩,fun E0 hE0=>?_⟩
      refine bB (K:=K) (a:=le) (xs:=xs) (fun i ys H'=>i≤xs.length∧Same H2 H'∧H' E0 = some (.lst ys)∧Paired (EQ K H') ((es.take i).map fun z=>(z.1,aZ h z.2 c)) ys) ⟨Nat.zero_le _,Same.new hE0,ad,.nil⟩ (fun i ys H' h=>SqL.of (h.2.1 _ _ hle2)) (fun i ys H' h=>h.2.2.1) ?_ ?_
      · rintro i y ys H' P' hy ⟨hi,s3,hD3,hys⟩ hP'
        obtain ⟨⟨o,us⟩,hei,pp,u,sv,rfl,g1,g2,g3⟩:=bL (ay (fun z x (h:EQ K H2 z x)=>h.tk s3.tk) hE2) hy
        have ilt:i < xs.length:=(List.getElem?_eq_some_iff.mp hy).1
        have hPi:=hP _ (List.mem_of_getElem? hei)
        have yl:ys.length≤24:=by rw [← Paired.length hys,List.length_map,List.length_take]; omega
        refine ⟨pp,_,rfl,SqT.of g1,rfl,_,_,rfl,_,_,rfl,_,_,rfl,rfl,⟨rfl,trivial⟩,?_⟩
        refine ⟨_,_,us.1,h / (h + c),rfl,g2,q2.same s3,hPi.1.bb hD lD,t2.bb t0 lT,trivial,fun H4 z4 s4 q4=>?_⟩
        refine ⟨(by show 3≤sizeLine; decide),fun np fnp=>?_⟩
        have s5:=Same.new (o:=.tup [.int (o:Nat),z4,sv]) fnp
        have hD5:=s5 _ _ (s4 _ _ hD3)
        have ne:np≠E0:=fun z=>by rw [z,s4 _ _ hD3] at fnp; cases fnp
        have tk5:TK H4 (upd (upd H4 np (.tup [.int (o:Nat),z4,sv])) E0 (.lst (ys ++ [.ref np]))):=s5.tk.trans (TK.lst hD5)
        refine ⟨hD5,by omega,hP' _ _ ⟨ilt,((s3.trans s4).trans s5).put hE0,ad,?_⟩⟩
        rw [List.take_add_one,hei,List.map_append]
        refine b9 ⟨np,z4,sv,rfl,by rw [ai ne]; exact ad,?_,?_⟩ (ay (fun z x (h:EQ K H' z x)=>(h.tk s4.tk).tk tk5) hys)
        · show IsQ K _ (aZ h us c).1 z4; rw [jc z]; exact q4.tk tk5
        · show IsQ K _ (aZ h us c).2 sv; rw [jc z]; exact (g3.same s4).tk tk5
      · rintro ys H' ⟨_,s3,hD3,hys⟩
        rw [hxl,List.take_length] at hys
        have s03:=s02.trans s3
        refine ⟨_,_,c,h + c,rfl,hc.same s03,q1.same (s2.trans s3),hcB.bc,hcB.bs,sp,fun H4 z4 s4 q4=>?_⟩
        refine ⟨(by show 3≤sizeLine; decide),fun np fnp=>?_⟩
        have s5:=Same.new (o:=.tup [.int (p:Nat),z4,.ref a.k_NOUGHT]) fnp
        refine ⟨(by show 1≤sizeLine; decide),fun l1 fl1=>?_⟩
        have s6:=Same.new (o:=.lst [.ref np]) fl1
        have s46:=s4.trans (s5.trans s6)
        have yl:ys.length≤24:=by rw [← Paired.length hys,List.length_map]; omega
        refine ⟨E0,l1,_,_,rfl,rfl,s46 _ _ hD3,ad,by simp; omega,fun l2 fl2=>?_⟩
        have s7:=Same.new (o:=.lst (ys ++ [.ref np])) fl2
        have s47:=s46.trans s7
        refine q _ l2 _ (s03.trans s47) ((s03.trans s46).free fl2) ad ?_
        refine b9 ⟨np,z4,_,rfl,(s6.trans s7) _ _ ad,?_,?_⟩ (ay (fun z x (h:EQ K H' z x)=>h.tk s47.tk) hys)
        · show IsQ K _ (us0 h c).1 z4; rw [rW z]; exact q4.same (s5.trans (s6.trans s7))
        · show IsQ K _ (us0 h c).2 _; rw [rW z]; exact ii T
    · have z:¬ h + c < 1:=z
      obtain ⟨t2,t3⟩:=hT.2 z
      have sp2:0 < 2 - (h + c):=by have:=hcB.h1; have:=hcB.c1; grind
      refine ⟨_,_,2,h + c,rfl,tE T,q1,bb2,hcB.bs,trivial,fun H2 z2 s2 q2=>?_⟩
      have s02:=s1.trans s2
      refine ⟨_,_,1,c,rfl,eV T,hc.same s02,bb1,hcB.bc,trivial,fun H3 z3 s3 q3=>?_⟩
      refine ⟨_,_,1 - c,2 - (h + c),rfl,q3,q2.same s3,hcB.b1c,hcB.bs2,sp2,fun H4 z4 s4 q4=>?_⟩
      have s04:=s02.trans (s3.trans s4)
      refine ⟨_,_,1,h,rfl,eV T,hh.same s04,bb1,hcB.bh,trivial,fun H5 z5 s5 q5=>?_⟩
      refine ⟨_,_,1 - h,2 - (h + c),rfl,q5,q2.same (s3.trans (s4.trans s5)),hcB.b1h,hcB.bs2,sp2,fun H6 z6 s6 q6=>?_⟩
      have s46:=s5.trans s6
      have s06:=s04.trans s46
      have qa:=q4.same s46
      have hle6:=s06 _ _ hle
      have hE6:=ay (fun z x (h:EQ K H z x)=>h.tk s06.tk) hE
      refine .inl ⟨⟨_,SqL.of hle6⟩,fun E0 hE0=>?_⟩
      refine bB (K:=K) (a:=le) (xs:=xs) (fun i ys H'=>i≤xs.length∧Same H6 H'∧H' E0 = some (.lst ys)∧Paired (EQ K H') ((es.take i).map fun z=>(z.1,aZ h z.2 c)) ys) ⟨Nat.zero_le _,Same.new hE0,ad,.nil⟩ (fun i ys H' h=>SqL.of (h.2.1 _ _ hle6)) (fun i ys H' h=>h.2.2.1) ?_ ?_
      · rintro i y ys H' P' hy ⟨hi,s7,hD7,hys⟩ hP'
        obtain ⟨⟨o,us⟩,hei,pp,u,sv,rfl,g1,g2,g3⟩:=bL (ay (fun z x (h:EQ K H6 z x)=>h.tk s7.tk) hE6) hy
        have ilt:i < xs.length:=(List.getElem?_eq_some_iff.mp hy).1
        have hPi:=hP _ (List.mem_of_getElem? hei)
        have yl:ys.length≤24:=by rw [← Paired.length hys,List.length_map,List.length_take]; omega
        refine ⟨pp,_,rfl,SqT.of g1,rfl,_,_,rfl,_,_,rfl,_,_,rfl,rfl,⟨rfl,rfl,trivial⟩,?_⟩
        refine ⟨_,_,us.1,(1 - h) / (2 - (h + c)),rfl,g2,q6.same s7,hPi.1.bb hD lD,t3.bb t0 lT,trivial,fun H8 z8 s8 q8=>?_⟩
        refine ⟨_,_,us.1,(1 - c) / (2 - (h + c)),rfl,g2.same s8,qa.same (s7.trans s8),hPi.1.bb hD lD,t2.bb t0 lT,trivial,fun H9 z9 s9 q9=>?_⟩
        refine ⟨_,_,us.2,us.1 * ((1 - c) / (2 - (h + c))),rfl,g3.same (s8.trans s9),q9,hPi.2.1.bb hD lD,(hPi.1.mul t2).bb DT0 lDT,trivial,fun HA zA sA qA=>?_⟩
        refine ⟨(by show 3≤sizeLine; decide),fun np fnp=>?_⟩
        have s8A:=s8.trans (s9.trans sA)
        have sB:=Same.new (o:=.tup [.int (o:Nat),z8,zA]) fnp
        have hDB:=sB _ _ (s8A _ _ hD7)
        have ne:np≠E0:=fun z=>by rw [z,s8A _ _ hD7] at fnp; cases fnp
        have tkB:TK HA (upd (upd HA np (.tup [.int (o:Nat),z8,zA])) E0 (.lst (ys ++ [.ref np]))):=sB.tk.trans (TK.lst hDB)
        refine ⟨hDB,by omega,hP' _ _ ⟨ilt,((s7.trans s8A).trans sB).put hE0,ad,?_⟩⟩
        rw [List.take_add_one,hei,List.map_append]
        refine b9 ⟨np,z8,zA,rfl,by rw [ai ne]; exact ad,?_,?_⟩ (ay (fun z x (h:EQ K H' z x)=>(h.tk s8A.tk).tk tkB) hys)
        · show IsQ K _ (aZ h us c).1 z8; rw [jh z]; exact (q8.same (s9.trans sA)).tk tkB
        · show IsQ K _ (aZ h us c).2 zA; rw [jh z]; exact qA.tk tkB
      · rintro ys H' ⟨_,s7,hD7,hys⟩
        rw [hxl,List.take_length] at hys
        have s07:=s06.trans s7
        refine ⟨(by show 3≤sizeLine; decide),fun np fnp=>?_⟩
        have s8:=Same.new (o:=.tup [.int (p:Nat),z4,z6]) fnp
        refine ⟨(by show 1≤sizeLine; decide),fun l1 fl1=>?_⟩
        have s9:=Same.new (o:=.lst [.ref np]) fl1
        have s89:=s8.trans s9
        have yl:ys.length≤24:=by rw [← Paired.length hys,List.length_map]; omega
        refine ⟨E0,l1,_,_,rfl,rfl,s89 _ _ hD7,ad,by simp; omega,fun l2 fl2=>?_⟩
        have sA:=Same.new (o:=.lst (ys ++ [.ref np])) fl2
        have s8A:=s89.trans sA
        refine q _ l2 _ (s07.trans s8A) ((s07.trans s89).free fl2) ad ?_
        refine b9 ⟨np,z4,z6,rfl,(s9.trans sA) _ _ ad,?_,?_⟩ (ay (fun z x (h:EQ K H' z x)=>h.tk s8A.tk) hys)
        · show IsQ K _ (us0 h c).1 z4; rw [rR z]; exact qa.same (s7.trans s8A)
        · show IsQ K _ (us0 h c).2 z6; rw [rR z]; exact q6.same (s7.trans s8A)
end
end My
namespace My
open PySem L2 FrM Du
def ky (x y:Nat):List Key:=[.inl (x:Int),.inl (y:Int)]
theorem wx {x y x' y':Nat} (h:ky x y = ky x' y'):x = x'∧y = y':=by
  unfold ky at h
  simp at h
  omega
def DF (K:PySem.W.Frag) (H:Hp) (kvs:List (List Key×V)) (f:Fn):Prop:=∀ x y:Nat,(∀ v,f x y = some v→∃ z,cy kvs (ky x y) = some z∧IsQ K H v z)∧(f x y = none→cy kvs (ky x y) = none)
theorem DF.tk {K:PySem.W.Frag} {H H':Hp} {kvs:List (List Key×V)} {f:Fn} (k:TK H H') (h:DF K H kvs f):DF K H' kvs f:=fun x y=>⟨fun v e=>let ⟨z,h1,h2⟩:=(h x y).1 v e; ⟨z,h1,h2.tk k⟩,(h x y).2⟩
theorem DF.put {K:PySem.W.Frag} {H:Hp} {kvs:List (List Key×V)} {f:Fn} {x y:Nat} {v:Rat} {z:V} (h:DF K H kvs f) (hz:IsQ K H v z):DF K H (cM kvs (ky x y) z) (iI f x y v):=fun a b=>by
  rw [kx]
  by_cases c:a = x∧b = y
  · obtain ⟨rfl,rfl⟩:=c
    rw [if_pos rfl,mM]
    exact ⟨(fun v e=>by cases e; exact ⟨z,rfl,hz⟩),(fun e=>by cases e)⟩
  · rw [if_neg (fun e=>c (wx e)),dC c]
    exact h a b
theorem TK.dT {H:Hp} {d:Addr} {kvs:List (List Key×V)} {o:HO} (h:H d = some (.dT kvs)):TK H (upd H d o):=fun b xs e=>by rw [ai (fun z=>by rw [z,h] at e; cases e)]; exact e
def Dn (B:Nat) (i:Nat):Nat:=(2 * B) ^ i
theorem xO {B i:Nat} (hB:B≤1000000000) (hi:i≤24):(2 * B) ^ i * (2 * B) < Lm:=by
  have h1:2 * B≤2 ^ 31:=by omega
  have h2:(2 * B) ^ i≤(2 ^ 31) ^ i:=Nat.pow_le_pow_left h1 i
  have h3:(2 ^ 31) ^ i≤(2 ^ 31) ^ 24:=Nat.pow_le_pow_right (by decide) hi
  have h4:(2 * B) ^ i * (2 * B)≤(2 ^ 31) ^ 24 * 2 ^ 31:=Nat.mul_le_mul (Nat.le_trans h2 h3) h1
  exact Nat.lt_of_le_of_lt h4 (by decide +kernel)
structure KtS (B:Nat) (L:List (Nat×Rat)) (i:Nat) (S:Fn×Er×Rat):Prop where
  eq:S = (L.take i).foldl bi k0
  hB:Bq B S.2.2
  h1:S.2.2 < 1
  len:S.2.1.length = i
  D:∃ D,0 < D∧D≤(2 * B) ^ i∧∀ z ∈ S.2.1,Pu D z.2
theorem KtS.start {B:Nat} {L:List (Nat×Rat)}:KtS B L 0 k0:=⟨rfl,Bq.zero,by show (0:Rat) < 1; grind,rfl,1,by decide,by simp,fun z hz=>by cases hz⟩
theorem KtS.step {B:Nat} {L:List (Nat×Rat)} {i:Nat} {S:Fn×Er×Rat} {z:Nat×Rat} (k:KtS B L i S) (B0:0 < B) (B1:B≤1000000000) (hz:L[i]? = some z) (hq:Bq B z.2) (hu:Uns z.2):Hc B S.2.2 z.2∧KtS B L (i + 1) (bi S z):=by
  have hc:Hc B S.2.2 z.2:=⟨B0,B1,k.hB,hq,k.h1,hu.1,hu.2⟩
  refine ⟨hc,?_,sg k.hB hq k.h1 hu.2,(rT k.hB.1 k.h1 hu.1 hu.2).2,?_,?_⟩
  · rw [List.take_add_one,hz,List.foldl_append,← k.eq]; rfl
  · show (S.2.1.map _ ++ [_]).length = i + 1
    rw [List.length_append,List.length_map,k.len]; rfl
  · obtain ⟨D,d0,d1,hP⟩:=k.D
    obtain ⟨T,t0,t1,hT⟩:=hc.step
    refine ⟨D * T,Nat.mul_pos d0 t0,?_,fun y hy=>?_⟩
    · rw [Nat.pow_succ]; exact Nat.mul_le_mul d1 t1
    · have hy:y ∈ S.2.1.map (fun w=>(w.1,aZ S.2.2 w.2 z.2)) ++ [(z.1,us0 S.2.2 z.2)]:=hy
      rcases List.mem_append.mp hy with m | m
      · obtain ⟨w,hw,rfl⟩:=List.mem_map.mp m
        exact (hP w hw).step (B:=B) k.hB.1 k.h1 hu.1 hu.2 hT
      · cases List.mem_singleton.mp m
        exact (Pu.new k.hB.1 k.h1 hu.1 hu.2 hT).up D
def sk (K:PySem.W.Frag):Sp:=fun vs H Q _=>∃ (lt:Addr) (xs:List V) (L:List (Nat×Rat)) (B:Nat),vs = [.ref lt]∧H lt = some (.lst xs)∧Paired (PQ K H) L xs∧L.length≤24∧0 < B∧B≤1000000000∧(∀ z ∈ L,Bq B z.2∧Uns z.2) ∧
  ∀ H' d kvs,Same H H'→H d = none→H' d = some (.dT kvs)→DF K H' kvs (dI L)→Q (.ref d) H'
section
variable {P:Program} {w:World} {K:PySem.W.Frag} {mg:Str→Option Value} {base:Heap} {a:Ad}
theorem tR (T:Txt K mg a):FnOk P w K mg base CX0 5 a.f_kept_together a.d_kept_together ["told"] (sk K):=by
  have G_both_kept:FnOk P w K mg base CX0 4 _ _ _ (pM K):=tS T
  have G_behind_duel:FnOk P w K mg base CX0 4 _ _ _ (uH K):=vQ T
  have G_held_behind:FnOk P w K mg base CX0 4 _ _ _ (se K):=tX T
  refine T.F_kept_together.ok sc_kept_together (fun vs H Q E h=>?_) (fun cdv A outer s H vs Q E hr h=>?_)
  · obtain ⟨lt,xs,L,B,rfl,_⟩:=h; rfl
  · obtain ⟨lt,xs,L,B,rfl,hlt,hL,hl24,B0,B1,hq,q⟩:=h
    have small:sizeLine = 16777216:=sizeLine_eq
    have hxl:xs.length = L.length:=(Paired.length hL).symm
    refine ⟨_,(ah (aA (i:=1) sc_kept_together.nd rfl (Or.inl rfl) kB) (ah (aA (i:=2) sc_kept_together.nd rfl (Or.inl rfl) (bO ae)) (ah (aA (i:=3) sc_kept_together.nd rfl (Or.inl rfl) (dk rfl T.g_NOUGHT)) (ah (cL PassesOwn.never rfl (bG (vr 0)) (dq rfl (au (ar (i:=4) sc_kept_together.nd rfl (Or.inl rfl)) (au (ar (i:=5) sc_kept_together.nd rfl (Or.inl rfl)) bj))) (ah (cL PassesOwn.never rfl (bG (vr 2)) (dq rfl (au (ar (i:=6) sc_kept_together.nd rfl (Or.inl rfl)) (au (ar (i:=7) sc_kept_together.nd rfl (Or.inl rfl)) (au (ar (i:=8) sc_kept_together.nd rfl (Or.inl rfl)) bj)))) (ah (kc (jp hr) (vr 1) (aS (aa (vr 6) (aa (vr 4) ae))) (ao G_both_kept hr rfl T.m_both_kept T.F_both_kept.kp T.B_both_kept .nil ap (aa (vr 7) (aa (vr 8) (aa (vr 3) (aa (vr 5) ae))))) rfl) (ak (kc (jp hr) (vr 1) (aS (aa (vr 4) (aa (vr 6) ae))) (uk (jp hr) (vr 1) (aS (aa (vr 6) (aa (vr 4) ae))) (fun _ _=>rfl)) rfl)))) (ah (aA (i:=2) sc_kept_together.nd rfl (Or.inl rfl) (ao G_behind_duel hr rfl T.m_behind_duel T.F_behind_duel.kp T.B_behind_duel .nil ap (aa (vr 2) (aa (vr 3) (aa (vr 4) (aa (vr 5) ae)))))) (ak (aA (i:=3) sc_kept_together.nd rfl (Or.inl rfl) (ao G_held_behind hr rfl T.m_held_behind T.F_held_behind.kp T.B_held_behind .nil ap (aa (vr 3) (aa (vr 5) ae)))))))) (ak (ax (vr 1))))))),?_⟩
    intro d fd
    have s1:=Same.new (o:=.dT []) fd
    have hd1:=ad (H:=H) (a:=d) (o:=.dT [])
    generalize upd H d (.dT []) = H1 at s1 hd1
    refine ⟨Nat.zero_le _,fun le0 fle0=>?_⟩
    have s2:=Same.new (o:=.lst []) fle0
    have s12:=s1.trans s2
    have hd2:=s2 _ _ hd1
    have hle2:=ad (H:=H1) (a:=le0) (o:=.lst [])
    have nl0:H le0 = none:=s1.free fle0
    generalize upd H1 le0 (.lst []) = H2 at s2 s12 hd2 hle2
    refine .inl ⟨⟨_,SqL.of (s12 _ _ hlt)⟩,cI (K:=K) (a:=lt) (xs:=xs) (fun i σ H'=>∃ (S:Fn×Er×Rat) (kvs:List (List Key×V)) (le:Addr) (es:List V) (xh:V) (x4 x5 x6 x7 x8:Option V),KtS B L i S∧Same H H'∧H' d = some (.dT kvs)∧kvs.length≤48 * i∧DF K H' kvs S.1∧H' le = some (.lst es)∧Paired (EQ K H') S.2.1 es∧IsQ K H' S.2.2 xh∧σ = [some (.ref lt),some (.ref d),some (.ref le),some xh,x4,x5,x6,x7,x8])
      ⟨k0,[],le0,[],_,none,none,none,none,none,KtS.start,s12,hd2,Nat.zero_le _,(fun x y=>⟨(fun v e=>by cases e),fun _=>rfl⟩),hle2,.nil,ii T,rfl⟩ (fun i σ H' _ h=>?_) ?_ ?_⟩
    · obtain ⟨S,kvs,le,es,xh,x4,x5,x6,x7,x8,k,sH,_⟩:=h
      exact SqL.of (sH _ _ hlt)
    · rintro i x σ H' hx ⟨S,kvs,le,es,xh,x4,x5,x6,x7,x8,k,sH,hd,hkl,hF,hle,hE,hh,rfl⟩
      obtain ⟨⟨pl,c⟩,hzi,pp,vc,rfl,g1,g2⟩:=bL (ay (fun z x (h:PQ K H z x)=>h.tk sH.tk) hL) hx
      have ilt:i < L.length:=(List.getElem?_eq_some_iff.mp hzi).1
      obtain ⟨hqz,huz⟩:=hq _ (List.mem_of_getElem? hzi)
      obtain ⟨hc,kn⟩:=k.step B0 B1 hzi hqz huz
      obtain ⟨D,d0,d1,hP⟩:=k.D
      have lDB2:D * (2 * B) < Lm:=Nat.lt_of_le_of_lt (Nat.mul_le_mul_right _ d1) (xO B1 (by omega))
      have lDB:D * B < Lm:=Nat.lt_of_le_of_lt (Nat.mul_le_mul_left D (by omega)) lDB2
      have hel:es.length = i:=by rw [← Paired.length hE]; exact k.len
      refine ⟨pp,_,rfl,SqT.of g1,rfl,_,_,rfl,_,_,rfl,rfl,?_⟩
      refine .inl ⟨⟨_,SqL.of hle⟩,cI (K:=K) (a:=le) (xs:=es) (fun j σ H2=>∃ (kvs2:List (List Key×V)) (x6 x7 x8:Option V),(∀ b o,b≠d→H' b = some o→H2 b = some o)∧H2 d = some (.dT kvs2)∧kvs2.length≤48 * i + 2 * j∧DF K H2 kvs2 (fX pl S.2.2 c (S.2.1.take j) S.1)∧σ = [some (.ref lt),some (.ref d),some (.ref le),some xh,some (.int (pl:Nat)),some vc,x6,x7,x8])
        ⟨kvs,_,_,_,(fun b o _ e=>e),hd,by omega,by rw [List.take_zero]; exact hF,rfl⟩ (fun j σ H2 _ h=>?_) ?_ ?_⟩
      · obtain ⟨kvs2,x6,x7,x8,kp,_⟩:=h
        exact SqL.of (kp _ _ (fun z=>by rw [z,hd] at hle; cases hle) hle)
      · rintro j y σ H2 hy ⟨kvs2,x6,x7,x8,kp,hd2,hk2,hF2,rfl⟩
        have tk2:TK H' H2:=fun b us e=>kp _ _ (fun z=>by rw [z,hd] at e; cases e) e
        obtain ⟨⟨o,us⟩,hej,pe,u,sv,rfl,e1,e2,e3⟩:=bL (ay (fun z x (h:EQ K H' z x)=>h.tk tk2) hE) hy
        have jlt:j < es.length:=(List.getElem?_eq_some_iff.mp hy).1
        refine ⟨pe,_,rfl,SqT.of e1,rfl,_,_,rfl,_,_,rfl,_,_,rfl,rfl,?_⟩
        refine ⟨_,_,_,_,us,S.2.2,c,D,B,rfl,e2,e3,hh.tk tk2,g2.tk tk2,hc,hP _ (List.mem_of_getElem? hej),d0,lDB,fun H3 zb s3 qb=>?_⟩
        refine ⟨bC _ _,fun k1 fk1=>?_⟩
        have s4:=Same.new (o:=.tup [.int (o:Nat),.int (pl:Nat)]) fk1
        have hd4:=(s3.trans s4) _ _ hd2
        have hk1:=ad (H:=H3) (a:=k1) (o:=.tup [.int (o:Nat),.int (pl:Nat)])
        generalize upd H3 k1 (.tup [.int (o:Nat),.int (pl:Nat)]) = H4 at s4 hd4 hk1
        refine ⟨d,_,rfl,.inr ⟨kvs2,ky o pl,k1,hd4,rfl,hk1,by omega,rfl⟩,?_⟩
        have hF5:=((hF2.tk (s3.trans s4).tk).put (x:=o) (y:=pl) (qb.same s4)).tk (TK.dT (o:=.dT (cM kvs2 (ky o pl) zb)) hd4)
        have qb5:IsQ K (upd H4 d (.dT (cM kvs2 (ky o pl) zb))) (bk us S.2.2 c) zb:=(qb.same s4).tk (TK.dT hd4)
        have hd5:=ad (H:=H4) (a:=d) (o:=.dT (cM kvs2 (ky o pl) zb))
        have k5:∀ b o',b≠d→H' b = some o'→(upd H4 d (.dT (cM kvs2 (ky o pl) zb))) b = some o':=fun b o' n e=>by rw [ai n]; exact (s3.trans s4) _ _ (kp _ _ n e)
        generalize upd H4 d (.dT (cM kvs2 (ky o pl) zb)) = H5 at hF5 qb5 hd5 k5
        have hl5:=dh kvs2 (ky o pl) zb
        refine ⟨bC _ _,fun k2 fk2=>?_⟩
        have s6:=Same.new (o:=.tup [.int (o:Nat),.int (pl:Nat)]) fk2
        have hk2':=ad (H:=H5) (a:=k2) (o:=.tup [.int (o:Nat),.int (pl:Nat)])
        have hd6:=s6 _ _ hd5
        generalize upd H5 k2 (.tup [.int (o:Nat),.int (pl:Nat)]) = H6 at s6 hk2' hd6
        refine ⟨d,zb,rfl,.inr ⟨_,ky o pl,k2,.inl hd6,rfl,hk2',by rw [kx,if_pos rfl]⟩,?_⟩
        refine ⟨bC _ _,fun k3 fk3=>?_⟩
        have s7:=Same.new (o:=.tup [.int (pl:Nat),.int (o:Nat)]) fk3
        have hk3:=ad (H:=H6) (a:=k3) (o:=.tup [.int (pl:Nat),.int (o:Nat)])
        have hd7:=s7 _ _ hd6
        have s67:=s6.trans s7
        generalize upd H6 k3 (.tup [.int (pl:Nat),.int (o:Nat)]) = H7 at s7 hk3 hd7 s67
        refine ⟨d,_,rfl,.inr ⟨_,ky pl o,k3,hd7,rfl,hk3,by omega,rfl⟩,?_⟩
        have hl7:=dh (cM kvs2 (ky o pl) zb) (ky pl o) zb
        refine ⟨_,_,_,_,(fun b o' n e=>by rw [ai n]; exact s67 _ _ (k5 _ _ n e)),ad,by omega,?_,rfl⟩
        have e1':fX pl S.2.2 c (S.2.1.take (j + 1)) S.1 = iI (iI (fX pl S.2.2 c (S.2.1.take j) S.1) o pl (bk us S.2.2 c)) pl o (bk us S.2.2 c):=by
          rw [List.take_add_one,hej]
          unfold fX
          rw [List.foldl_append]
          rfl
        rw [e1']
        exact ((hF5.tk s67.tk).put (x:=pl) (y:=o) (qb5.same s67)).tk (TK.dT hd7)
      · rintro σ H2 ⟨kvs2,x6,x7,x8,kp,hd2,hk2,hF2,rfl⟩
        have eT:S.2.1.take es.length = S.2.1:=by rw [hel,← k.len,List.take_length]
        rw [eT] at hF2
        have tk2:TK H' H2:=fun b us e=>kp _ _ (fun z=>by rw [z,hd] at e; cases e) e
        have nle:le≠d:=fun z=>by rw [z,hd] at hle; cases hle
        have hH2:Same H H2:=fun b o e=>kp _ _ (aq e fd) (sH _ _ e)
        refine ⟨le,_,_,pl,S.2.2,c,S.2.1,es,D,B,rfl,kp _ _ nle hle,ay (fun z x (h:EQ K H' z x)=>h.tk tk2) hE,by rw [k.len]; omega,hh.tk tk2,g2.tk tk2,hc,hP,d0,lDB2,fun H3 l3 es3 s3 f3 h3 hE3=>?_⟩
        refine ⟨_,_,S.2.2,c,B,rfl,(hh.tk tk2).same s3,(g2.tk tk2).same s3,hc,fun H4 z4 s4 q4=>?_⟩
        have s34:=s3.trans s4
        exact ⟨bi S (pl,c),kvs2,l3,es3,z4,_,_,_,_,_,kn,hH2.trans s34,s34 _ _ hd2,by omega,hF2.tk s34.tk,s4 _ _ h3,ay (fun z x (h:EQ K H3 z x)=>h.tk s4.tk) hE3,q4,rfl⟩
    · rintro σ H' ⟨S,kvs,le,es,xh,x4,x5,x6,x7,x8,k,sH,hd,hkl,hF,hle,hE,hh,rfl⟩
      have eS:=k.eq
      rw [hxl,List.take_length] at eS
      rw [eS] at hF
      exact q _ d kvs sH fd hd hF
end
end My
namespace My
open PySem L2 FrM Du
theorem SameT.tk {H H':Hp} (s:SameT H H'):TK H H':=fun a xs h=>s.at h
def IsLam (H:Hp) (d:LamD) (fv:List Str) (v:V) (vals:List V):Prop:=∃ f c clos,v = .ref f∧H f = some (.ext (fc f d clos c))∧H c = some (.ext (dz c d.qual))∧clos.map (·.1) = fv∧(clos.map (·.2)).Nodup∧CellsAt H clos vals
theorem ow {H H':Hp} (s:SameT H H'):∀ {clos:List (Str×Addr)} {vals:List V},CellsAt H clos vals→CellsAt H' clos vals
  | _,_,.nil=>.nil
  | _,_,.cons r t=>.cons (s.at r) (ow s t)
theorem IsLam.t {H H':Hp} {d:LamD} {fv:List Str} {v:V} {vals:List V} (s:SameT H H') (h:IsLam H d fv v vals):IsLam H' d fv v vals:=by
  obtain ⟨f,c,clos,h1,h2,h3,h4,h5,h6⟩:=h
  exact ⟨f,c,clos,h1,s.at h2,s.at h3,h4,h5,ow s h6⟩
theorem nd2 (n:Nat):([n + 1 + 1,n + 1]:List Nat).Nodup:=by
  simp only [List.nodup_cons,List.mem_cons,List.not_mem_nil,or_false,not_or,not_false_eq_true,List.nodup_nil,and_true]
  omega
theorem xw {H H' H3:Hp} {clos:List (Str×Addr)} (s:Same (untrs H (clos.map (·.2))) H') (s3:Same H' H3) (hc:∀ p ∈ clos,H3 p.2 = H p.2):Same H H3:=fun b o e=>by
  by_cases hb:b ∈ clos.map (·.2)
  · obtain ⟨p,hp,rfl⟩:=List.mem_map.mp hb
    rw [hc p hp,e]
  · exact (s.trans s3) b o (by rw [eY hb]; exact e)
def MRow (K:PySem.W.Frag) (D:Addr) (H:Hp) (fs:List (Int×Int)) (x:V):Prop:=∃ q ys,x = .ref q∧q≠D∧H q = some (.lst ys)∧AllF K H fs ys
abbrev MatAt (K:PySem.W.Frag) (D:Addr) (H:Hp):List (List (Int×Int))→List V→Prop:=Paired (MRow K D H)
theorem MRow.same {K:PySem.W.Frag} {D:Addr} {H H':Hp} {fs:List (Int×Int)} {x:V} (s:SameT H H') (h:MRow K D H fs x):MRow K D H' fs x :=
  let ⟨q,ys,h1,h2,h3,h4⟩:=h; ⟨q,ys,h1,h2,s.at h3,h4.tk (SameT.tk s)⟩
theorem MatAt.same {K:PySem.W.Frag} {D:Addr} {H H':Hp} (s:SameT H H'):∀ {fss:List (List (Int×Int))} {xs:List V},MatAt K D H fss xs→MatAt K D H' fss xs
  | _,_,.nil=>.nil
  | _,_,.cons r t=>.cons (r.same s) (MatAt.same s t)
theorem MRow.put {K:PySem.W.Frag} {D:Addr} {H:Hp} {fs:List (Int×Int)} {x:V} {zs zs':List V} (hD:H D = some (.lst zs)) (h:MRow K D H fs x):MRow K D (upd H D (.lst zs')) fs x :=
  let ⟨q,ys,h1,h2,h3,h4⟩:=h; ⟨q,ys,h1,h2,by rw [ai h2]; exact h3,h4.tk (TK.lst hD)⟩
theorem MatAt.put {K:PySem.W.Frag} {D:Addr} {H:Hp} {zs zs':List V} (hD:H D = some (.lst zs)):∀ {fss:List (List (Int×Int))} {xs:List V},MatAt K D H fss xs→MatAt K D (upd H D (.lst zs')) fss xs
  | _,_,.nil=>.nil
  | _,_,.cons r t=>.cons (r.put hD) (MatAt.put hD t)
theorem MatAt.snoc {K:PySem.W.Frag} {D:Addr} {H:Hp} {fs:List (Int×Int)} {x:V} (h:MRow K D H fs x):∀ {fss:List (List (Int×Int))} {xs:List V},MatAt K D H fss xs→MatAt K D H (fss ++ [fs]) (xs ++ [x])
  | _,_,.nil=>.cons h .nil
  | _,_,.cons a b=>.cons a (MatAt.snoc h b)
theorem MatAt.get {K:PySem.W.Frag} {D:Addr} {H:Hp}:∀ {fss:List (List (Int×Int))} {xs:List V} {i:Nat} {x:V},MatAt K D H fss xs→xs[i]? = some x→∃ r,fss[i]? = some r∧MRow K D H r x
  | _,_,_,_,.nil,h=>by cases h
  | _,_,0,_,.cons r _,h=>⟨_,rfl,by cases h; exact r⟩
  | _,_,i + 1,_,.cons _ t,h=>MatAt.get (i:=i) t h
theorem MatAt.len {K:PySem.W.Frag} {D:Addr} {H:Hp} {fss:List (List (Int×Int))} {xs:List V} (h:MatAt K D H fss xs):fss.length = xs.length:=Paired.length h
abbrev fvM:List Str:=["told", "found"]
theorem lsM:LamScope bA fvM ["one", "other"]:=⟨rfl,rfl,rfl,by decide +kernel,by decide +kernel,by decide +kernel,by decide +kernel,by decide +kernel⟩
def ent (qs:List Rat) (f:Fn) (i j:Nat):Rat:=if i = j then qs.getD i 0 else (f i j).getD (qs.getD i 0 * qs.getD j 0)
def mw (qs:List Rat) (f:Fn) (i:Nat):List (Int×Int):=(List.range qs.length).map fun j=>fr (ent qs f i j)
def pI (qs:List Rat) (f:Fn):List (List (Int×Int)):=(List.range qs.length).map (mw qs f)
structure Mx (K:PySem.W.Frag) (H:Hp) (lt d:Addr) (qs:List Rat) (f:Fn) (B:Nat):Prop where
  l:∃ xs,H lt = some (.lst xs)∧AllF K H (qs.map fr) xs
  t:∃ kvs,H d = some (.dT kvs)∧DF K H kvs f
  n:qs.length≤24
  B0:0 < B
  B1:B≤1000000000
  q:∀ q ∈ qs,Bq B q
theorem Mx.on {K:PySem.W.Frag} {H H':Hp} {lt d:Addr} {qs:List Rat} {f:Fn} {B:Nat} (M:Mx K H lt d qs f B) (k:TK H H') (h1:∀ xs,H lt = some (.lst xs)→H' lt = some (.lst xs)) (h2:∀ kvs,H d = some (.dT kvs)→H' d = some (.dT kvs)):Mx K H' lt d qs f B :=
  let ⟨xs,a1,a2⟩:=M.l
  let ⟨kvs,b1,b2⟩:=M.t
  ⟨⟨xs,h1 _ a1,a2.tk k⟩,⟨kvs,h2 _ b1,b2.tk k⟩,M.n,M.B0,M.B1,M.q⟩
theorem Mx.same {K:PySem.W.Frag} {H H':Hp} {lt d:Addr} {qs:List Rat} {f:Fn} {B:Nat} (M:Mx K H lt d qs f B) (s:Same H H'):Mx K H' lt d qs f B:=M.on s.tk (fun xs e=>s _ _ e) (fun xs e=>s _ _ e)
theorem Mx.st {K:PySem.W.Frag} {H H':Hp} {lt d:Addr} {qs:List Rat} {f:Fn} {B:Nat} (M:Mx K H lt d qs f B) (s:SameT H H'):Mx K H' lt d qs f B:=M.on (SameT.tk s) (fun xs e=>s.at e) (fun xs e=>s.at e)
def qX (K:PySem.W.Frag):Sp:=fun vs H Q _=>∃ (lt d:Addr) (qs:List Rat) (f:Fn) (B i j:Nat),vs = [.ref lt,.ref d,.int (i:Nat),.int (j:Nat)]∧Mx K H lt d qs f B∧i < qs.length∧j < qs.length∧∀ H' z,Same H H'→IsQ K H' (ent qs f i j) z→Q z H'
def xC (K:PySem.W.Frag):List V→Sp:=fun vals vs H Q _=>∃ (lt d:Addr) (qs:List Rat) (f:Fn) (B i j:Nat),vals = [.ref lt,.ref d]∧vs = [.int (i:Nat),.int (j:Nat)]∧Mx K H lt d qs f B∧i < qs.length∧j < qs.length∧∀ H' z,Same H H'→IsQ K H' (ent qs f i j) z→Q z H'
def rV (K:PySem.W.Frag):Sp:=fun vs H Q _=>∃ (lt d:Addr) (qs:List Rat) (f:Fn) (B i:Nat) (v:V),vs = [.int (i:Nat),.int (qs.length:Nat),v]∧Mx K H lt d qs f B∧i < qs.length∧IsLam H bA fvM v [.ref lt,.ref d] ∧
  ∀ H' r ys,Same H H'→H r = none→H' r = some (.lst ys)→AllF K H' (mw qs f i) ys→Q (.ref r) H'
def uS (K:PySem.W.Frag):Sp:=fun vs H Q _=>∃ (lt d:Addr) (qs:List Rat) (f:Fn) (B:Nat) (v:V),vs = [.int (qs.length:Nat),v]∧Mx K H lt d qs f B∧IsLam H bA fvM v [.ref lt,.ref d] ∧
  ∀ H' r xs,Same H H'→H r = none→H' r = some (.lst xs)→MatAt K r H' (pI qs f) xs→xs.Nodup→(∀ q,V.ref q ∈ xs→H q = none)→Q (.ref r) H'
def xV (qs:List Rat) (ord:List Nat):List (Nat×Rat):=ord.map fun o=>(o,qs.getD o 0)
def iu (qs:List Rat) (ord:List Nat):List (Nat×Rat):=(xV qs ord).filter fun z=>bZ z.2
def xS (K:PySem.W.Frag) (a:Ad):Sp:=fun vs H Q _=>∃ (ls lo:Addr) (xs:List V) (qs:List Rat) (ord:List Nat) (B:Nat),vs = [.ref ls,.ref lo]∧H ls = some (.lst xs)∧AllF K H (qs.map fr) xs∧H lo = some (.lst (ord.map fun (o:Nat)=>V.int (o:Int)))∧qs.length≤24∧ord.length≤24∧(∀ o ∈ ord,o < qs.length)∧0 < B∧B≤1000000000∧(∀ q ∈ qs,Bq B q)∧TabsOk (tabs a) H ∧
  ∀ H' r xs,SameT H H'→TabsOk (tabs a) H'→H r = none→H' r = some (.lst xs)→MatAt K r H' (pI qs (dI (iu qs ord))) xs→xs.Nodup→(∀ q,V.ref q ∈ xs→H q = none)→Q (.ref r) H'
section
variable {P:Program} {w:World} {K:PySem.W.Frag} {mg:Str→Option Value} {base:Heap} {a:Ad}
theorem wu {H:Hp} {qs:List Rat} {xs:List V} (hF:AllF K H (qs.map fr) xs) {i:Nat} (hi:i < qs.length):∃ x,xs[i]? = some x∧IsQ K H (qs.getD i 0) x:=by
  have hl:xs.length = qs.length:=by rw [← hF.len,List.length_map]
  have hx:i < xs.length:=by omega
  obtain ⟨f,hf,isf⟩:=hF.get (List.getElem?_eq_getElem hx)
  rw [List.getElem?_map,List.getElem?_eq_getElem hi] at hf
  cases hf
  refine ⟨xs[i],List.getElem?_eq_getElem hx,?_⟩
  rw [List.getD,List.getElem?_eq_getElem hi]
  exact isf
theorem sU (T:Txt K mg a):FnOk P w K mg base CX0 4 a.f_pair_chance a.d_pair_chance ["told", "found", "one", "other"] (qX K):=by
  have G_times:FnOk P w K mg base CX0 3 _ _ _ (cH (· * ·) (fun _=>True) K):=g7 T
  refine T.F_pair_chance.ok ia (fun vs H Q E h=>?_) (fun cdv A outer s H vs Q E hr h=>?_)
  · obtain ⟨lt,d,qs,f,B,i,j,rfl,_⟩:=h; rfl
  · obtain ⟨lt,d,qs,f,B,i,j,rfl,M,hi,hj,q⟩:=h
    obtain ⟨xs,hlt,hF⟩:=M.l
    obtain ⟨kvs,hd,hD⟩:=M.t
    obtain ⟨xi,exi,qi⟩:=wu hF hi
    obtain ⟨xj,exj,qj⟩:=wu hF hj
    have bb:∀ {i},i < qs.length→Bb (qs.getD i 0):=fun {i} h=>(M.q _ (by rw [List.getD,List.getElem?_eq_getElem h]; exact List.getElem_mem h)).bb M.B0 (jH M.B1)
    refine ⟨_,(ah (cJ (df vz (vr 2) (vr 3) (bY _)) (ak (ax (az av (vr 0) (vr 2) (fun _ _=>rfl)))) bF) (ak (ax (kP (jp hr) (vr 1) (aS (aa (vr 2) (aa (vr 3) ae))) (ao G_times hr rfl T.m_times T.F_times.kp T.B_times .nil ap (aa (az av (vr 0) (vr 2) (fun _ _=>rfl)) (aa (az av (vr 0) (vr 3) (fun _ _=>rfl)) ae))) ⟨rfl,rfl,rfl,rfl⟩)))),?_⟩
    refine ifC (fun c=>?_) (fun c=>?_)
    · have c:i = j:=by omega
      refine .inl ⟨lt,_,_,xi,rfl,rfl,SqL.of hlt,cD exi,q _ _ (Same.refl _) ?_⟩
      unfold ent
      rw [if_pos c]
      exact qi
    · have c:¬ i = j:=by omega
      refine ⟨d,rfl,.inr ⟨kvs,.inl hd⟩,bC _ _,fun k fk=>?_⟩
      have s1:=Same.new (o:=.tup [.int (i:Nat),.int (j:Nat)]) fk
      have hk:=ad (H:=H) (a:=k) (o:=.tup [.int (i:Nat),.int (j:Nat)])
      generalize upd H k (.tup [.int (i:Nat),.int (j:Nat)]) = H1 at s1 hk
      refine .inl ⟨lt,_,_,xi,rfl,rfl,SqL.of (s1 _ _ hlt),cD exi,.inl ⟨lt,_,_,xj,rfl,rfl,SqL.of (s1 _ _ hlt),cD exj,?_⟩⟩
      refine ⟨_,_,_,_,rfl,qi.same s1,qj.same s1,bb hi,bb hj,trivial,fun H2 z2 s2 q2=>?_⟩
      have s12:=s1.trans s2
      refine ⟨_,.inr ⟨kvs,ky i j,k,.inl (s12 _ _ hd),rfl,s2 _ _ hk,rfl⟩,q _ _ s12 ?_⟩
      unfold ent
      rw [if_neg c]
      cases hf:f i j with
      | none=>rw [(hD i j).2 hf]; exact q2
      | some v =>
        obtain ⟨z,h1,h2⟩:=(hD i j).1 v hf
        rw [h1]
        exact h2.same s12
theorem rQ {H:Hp} {clos:List (Str×Addr)} {vals:List V} (ca:CellsAt H clos vals):TK H (untrs H (clos.map (·.2))):=fun b xs e=>bM ca e fun v z=>nomatch z
theorem wW (T:Txt K mg a):ee P w K mg base 5 bA fvM ["one", "other"] (xC K):=by
  have G_pair_chance:FnOk P w K mg base CX0 4 _ _ _ (qX K):=sU T
  refine jT lsM (fun pm ctv clos c us hl=>match us,hl with | [_,_],_=>rfl) (fun vals vs H Q E h=>?_) (fun A outer s H f c clos vals vs Q E hr hfv ca h=>?_)
  · obtain ⟨lt,d,qs,f,B,i,j,rfl,rfl,_⟩:=h; rfl
  · obtain ⟨lt,d,qs,ff,B,i,j,rfl,rfl,M,hi,hj,q⟩:=h
    refine ⟨_,(ao G_pair_chance hr rfl T.m_pair_chance T.F_pair_chance.kp T.B_pair_chance .nil ap (aa (vr 2) (aa (vr 3) (aa (vr 0) (aa (vr 1) ae))))),?_⟩
    exact ⟨lt,d,qs,ff,B,i,j,rfl,M.on (rQ ca) (fun xs e=>bM ca e fun v z=>nomatch z) (fun xs e=>bM ca e fun v z=>nomatch z),hi,hj,fun H' z s1 hz=>fun H3 s3 hc=>q _ z (xw s1 s3 hc) (hz.same s3)⟩
theorem tF (T:Txt K mg a):FnOk P w K mg base CX0 6 a.f_matrix_row a.d_matrix_row ["one", "many", "tell"] (rV K):=by
  have L_mat:ee P w K mg base 5 bA fvM ["one", "other"] (xC K):=wW T
  refine T.F_matrix_row.ok iH (fun vs H Q E h=>?_) (fun cdv A outer s H vs Q E hr h=>?_)
  · obtain ⟨lt,d,qs,ff,B,i,v,rfl,_⟩:=h; rfl
  · obtain ⟨lt,d,qs,ff,B,i,v,rfl,M,hi,hL,q⟩:=h
    have small:sizeLine = 16777216:=sizeLine_eq
    have n24:=M.n
    refine ⟨_,(ak (ax (cC rfl (N:=["other", "tell", "one"]) (ix:=[none,some 2,some 0]) ⟨rfl,rfl,rfl,rfl,⟨rfl,rfl,rfl,⟨rfl,rfl,rfl,trivial⟩⟩⟩ (eO rfl T.z_range (aa (vr 1) ae)) ⟨fun C s H fp=>ar (i:=0) (show List.Nodup (["other", "tell", "one"]:List Str) by decide +kernel) rfl (Or.inl rfl),fun C s H fp=>cA,fun C s H fp=>(qE (vr 1) L_mat hr (aa (vr 2) (aa (vr 0) ae)))⟩))),?_⟩
    refine ⟨(qs.length:Int),rfl,by omega,by omega,fun D hD=>?_⟩
    refine iz (lo:=0) (n:=qs.length) (fun j ys H'=>j≤qs.length∧Same H H'∧H' D = some (.lst ys)∧AllF K H' ((List.range j).map fun j=>fr (ent qs ff i j)) ys) ⟨Nat.zero_le _,Same.new hD,ad,.nil⟩ (fun j ys H' h=>h.2.2.1) ?_ ?_
    · rintro j ys H' P' hj ⟨_,s1,hD1,hF⟩ hP
      obtain ⟨f,c,clos,rfl,e1,e2,e3,e4,e5⟩:=hL.t s1.t
      have hyl:ys.length = j:=by rw [← hF.len,List.length_map,List.length_range]
      refine ⟨⟨rfl,rfl,trivial⟩,⟨f,_,_,_,rfl,e1⟩,?_⟩
      refine ⟨fun f' d' cl' c' _ z=>z,f,c,clos,_,rfl,e1,e2,e3,e4,e5,lt,d,qs,ff,B,i,j,rfl,?_,M.same s1,hi,hj,fun H2 z s2 hz=>?_⟩
      · show [V.int (i:Int),V.int (0 + (j:Int))] = _
        rw [Int.zero_add]
      have hD2:=s2 _ _ hD1
      refine ⟨hD2,by omega,hP _ _ ⟨hj,(s1.trans s2).put hD,ad,?_⟩⟩
      rw [List.range_succ,List.map_append]
      exact AllF.snoc (hz.tk (TK.lst hD2)) ((hF.same s2).tk (TK.lst hD2))
    · rintro ys H' ⟨_,s1,hD1,hF⟩
      exact q _ D ys s1 hD hD1 hF
theorem vv (T:Txt K mg a):FnOk P w K mg base CX0 7 a.f_matrix_by a.d_matrix_by ["many", "tell"] (uS K):=by
  have G_matrix_row:FnOk P w K mg base CX0 6 _ _ _ (rV K):=tF T
  refine T.F_matrix_by.ok j6 (fun vs H Q E h=>?_) (fun cdv A outer s H vs Q E hr h=>?_)
  · obtain ⟨lt,d,qs,ff,B,v,rfl,_⟩:=h; rfl
  · obtain ⟨lt,d,qs,ff,B,v,rfl,M,hL,q⟩:=h
    have small:sizeLine = 16777216:=sizeLine_eq
    have n24:=M.n
    refine ⟨_,(ak (ax (cC rfl (N:=["one", "many", "tell"]) (ix:=[none,some 0,some 1]) ⟨rfl,rfl,rfl,rfl,⟨rfl,rfl,rfl,⟨rfl,rfl,rfl,trivial⟩⟩⟩ (eO rfl T.z_range (aa (vr 0) ae)) ⟨fun C s H fp=>ar (i:=0) (show List.Nodup (["one", "many", "tell"]:List Str) by decide +kernel) rfl (Or.inl rfl),fun C s H fp=>cA,fun C s H fp=>(ao G_matrix_row hr rfl T.m_matrix_row T.F_matrix_row.kp T.B_matrix_row .nil ap (aa (vr 0) (aa (vr 1) (aa (vr 2) ae))))⟩))),?_⟩
    refine ⟨(qs.length:Int),rfl,by omega,by omega,fun D hD=>?_⟩
    refine iz (lo:=0) (n:=qs.length) (fun j ys H'=>j≤qs.length∧Same H H'∧H' D = some (.lst ys)∧MatAt K D H' ((List.range j).map (mw qs ff)) ys∧ys.Nodup∧∀ q,V.ref q ∈ ys→H q = none) ⟨Nat.zero_le _,Same.new hD,ad,.nil,List.nodup_nil,fun q hq=>by cases hq⟩ (fun j ys H' h=>h.2.2.1) ?_ ?_
    · rintro j ys H' P' hj ⟨_,s1,hD1,hM,hnd,hnew⟩ hP
      have hyl:ys.length = j:=by rw [← hM.len,List.length_map,List.length_range]
      refine ⟨⟨rfl,rfl,trivial⟩,lt,d,qs,ff,B,j,v,?_,M.same s1,hj,hL.t s1.t,fun H2 r ys2 s2 hr0 hr2 hF=>?_⟩
      · show [V.int (0 + (j:Int)),V.int (qs.length:Int),v] = _
        rw [Int.zero_add]
      have hD2:=s2 _ _ hD1
      have nr:r≠D:=fun z=>by rw [z,hD1] at hr0; cases hr0
      refine ⟨hD2,by omega,hP _ _ ⟨hj,(s1.trans s2).put hD,ad,?_,?_,fun q hq=>?_⟩⟩
      · rw [List.range_succ,List.map_append]
        exact MatAt.snoc ⟨r,ys2,rfl,nr,by rw [ai nr]; exact hr2,hF.tk (TK.lst hD2)⟩ (MatAt.put hD2 (MatAt.same s2.t hM))
      · rw [List.nodup_append]
        refine ⟨hnd,by simp,fun x hx y hy z=>?_⟩
        rw [List.mem_singleton] at hy
        subst hy
        subst z
        obtain ⟨i,hi⟩:=List.getElem?_of_mem hx
        obtain ⟨_,_,q1,_,e,_,h3,_⟩:=hM.get hi
        cases e
        rw [h3] at hr0
        cases hr0
      · rcases List.mem_append.mp hq with z | z
        · exact hnew q z
        · cases List.mem_singleton.mp z
          exact s1.free hr0
    · rintro ys H' ⟨_,s1,hD1,hM,hnd,hnew⟩
      exact q _ D ys s1 hD hD1 hM hnd hnew
theorem xT (T:Txt K mg a) (hB:Bm mg base):FnOk P w K mg base CX0 8 a.f_duel_matrix a.d_duel_matrix ["shares", "order"] (xS K a):=by
  have G_matrix_by:FnOk P w K mg base CX0 7 _ _ _ (uS K):=vv T
  have G_kept_together:FnOk P w K mg base CX0 7 _ _ _ (sk K):=(tR T).mono (by decide)
  have G_is_unsure:FnOk P w K mg base CX0 7 _ _ _ (rf K):=(qT T).mono (by decide)
  refine T.F_duel_matrix.okL T.lcd_duel_matrix sc_duel_matrix (by decide +kernel) (fun vs H Q E h=>?_) (fun A outer s H vs Q E hr h=>?_)
  · obtain ⟨ls,lo,xs,qs,ord,B,rfl,_⟩:=h; rfl
  · obtain ⟨ls,lo,xs,qs,ord,B,rfl,hls,hF,hlo,hq24,ho24,hord,B0,B1,hq,hT,q⟩:=h
    have small:sizeLine = 16777216:=sizeLine_eq
    refine ⟨_,(kg (aA (i:=2) sc_duel_matrix.nd rfl (Or.inr rfl) (bN cb rfl T.z_list dc (aa (vr 0) ae))) (kg (aA (i:=3) sc_duel_matrix.nd rfl (Or.inr rfl) (ao G_kept_together hr rfl T.m_kept_together T.F_kept_together.kp T.B_kept_together .nil ap (aa (cC rfl (N:=["place", "told"]) (ix:=[none,some 2]) ⟨rfl,rfl,rfl,rfl,⟨rfl,rfl,rfl,trivial⟩⟩ (bG (vr 1)) ⟨fun C s H fp=>ar (i:=0) (show List.Nodup (["place", "told"]:List Str) by decide +kernel) rfl (Or.inl rfl),fun C s H fp=>gO (dA (ao G_is_unsure hr rfl T.m_is_unsure T.F_is_unsure.kp T.B_is_unsure .nil ap (aa (az (dQ (K:=K) rfl) (vr 1) (vr 0) (fun _ _=>rfl)) ae))),fun C s H fp=>(aS (aa (vr 0) (aa (az (dQ (K:=K) rfl) (vr 1) (vr 0) (fun _ _=>rfl)) ae)))⟩) ae))) (sG sc_duel_matrix.nd (by decide +kernel) G_matrix_by hr rfl T.m_matrix_by T.F_matrix_by.kp T.B_matrix_by .nil (aa (aC be rfl T.z_len cK (aa (vr 2) ae)) (aa (jW (d:=bA) rfl T.lch_duel_matrix hB rfl (by with_unfolding_all rfl) rfl (iC a) (.head _) T.tnd ig) ae))))),?_⟩
    refine ⟨ls,xs,rfl,.inl (SqL.of hls),fun lt flt=>?_⟩
    have s1:=Same.new (o:=.lst xs) flt
    have hlt:=ad (H:=H) (a:=lt) (o:=.lst xs)
    generalize upd H lt (.lst xs) = H1 at s1 hlt
    have hF1:=hF.same s1
    have hxl:xs.length = qs.length:=by rw [← hF.len,List.length_map]
    have hlo1:=s1 _ _ hlo
    refine .inl ⟨⟨_,SqL.of hlo1⟩,fun D hD=>?_⟩
    refine bB (K:=K) (a:=lo) (xs:=ord.map fun (o:Nat)=>V.int (o:Int)) (fun i ys H'=>i≤ord.length∧Same H1 H'∧H' D = some (.lst ys)∧ys.length≤i∧Paired (PQ K H') (iu qs (ord.take i)) ys) ⟨Nat.zero_le _,Same.new hD,ad,Nat.zero_le _,.nil⟩ (fun i ys H' h=>SqL.of (h.2.1 _ _ hlo1)) (fun i ys H' h=>h.2.2.1) ?_ ?_
    · rintro i y ys H' P' hy ⟨hi,s2,hD2,hyl,hys⟩ hP'
      rw [List.getElem?_map] at hy
      cases hoi:ord[i]? with
      | none=>rw [hoi] at hy; cases hy
      | some o =>
        rw [hoi] at hy
        cases hy
        have ilt:i < ord.length:=(List.getElem?_eq_some_iff.mp hoi).1
        have ho:=hord o (List.mem_of_getElem? hoi)
        obtain ⟨xo,exo,qo⟩:=wu (hF1.same s2) ho
        have e1:iu qs (ord.take (i + 1)) = iu qs (ord.take i) ++ (if bZ (qs.getD o 0) then [(o,qs.getD o 0)] else []):=by
          unfold iu xV
          rw [List.take_add_one,hoi,List.map_append,List.filter_append]
          congr 1
          show List.filter _ [(o,qs.getD o 0)] = _
          by_cases c:bZ (qs.getD o 0) = true
          · rw [if_pos c,List.filter_cons_of_pos (p:=fun z:Nat×Rat=>bZ z.2) (a:=(o,qs.getD o 0)) c]; rfl
          · rw [if_neg c,List.filter_cons_of_neg (p:=fun z:Nat×Rat=>bZ z.2) (a:=(o,qs.getD o 0)) c]; rfl
        refine ⟨⟨rfl,trivial⟩,.inl ⟨lt,_,_,xo,rfl,rfl,SqL.of (s2 _ _ hlt),cD exo,xo,_,rfl,qo,?_⟩⟩
        rw [qS]
        refine ifB (fun c=>?_) (fun c=>?_)
        · refine .inl ⟨lt,_,_,xo,rfl,rfl,SqL.of (s2 _ _ hlt),cD exo,?_⟩
          refine ⟨bC _ _,fun np fnp=>?_⟩
          have s3:=Same.new (o:=.tup [.int (o:Nat),xo]) fnp
          have hD3:=s3 _ _ hD2
          have ne:np≠D:=fun z=>by rw [z,hD2] at fnp; cases fnp
          have tk3:TK H' (upd (upd H' np (.tup [.int (o:Nat),xo])) D (.lst (ys ++ [.ref np]))):=s3.tk.trans (TK.lst hD3)
          refine ⟨hD3,by omega,hP' _ _ ⟨ilt,(s2.trans s3).put hD,ad,by rw [List.length_append]; show ys.length + 1≤i + 1; omega,?_⟩⟩
          rw [e1,if_pos c]
          exact b9 ⟨np,xo,rfl,by rw [ai ne]; exact ad,qo.tk tk3⟩ (ay (fun z x (h:PQ K H' z x)=>h.tk tk3) hys)
        · refine hP' _ _ ⟨ilt,s2,hD2,by omega,?_⟩
          rw [e1,if_neg (by rw [c]; decide),List.append_nil]
          exact hys
    · rintro ys H' ⟨_,s2,hD2,hyl,hys⟩
      rw [List.length_map] at hyl hys
      rw [List.take_length] at hys
      have hul:(iu qs ord).length≤24:=by rw [Paired.length hys]; omega
      refine ⟨D,ys,iu qs ord,B,rfl,hD2,hys,hul,B0,B1,fun z hz=>?_,fun H3 d kvs s3 fd hd hDF=>?_⟩
      · obtain ⟨z1,z2⟩:=List.mem_filter.mp hz
        obtain ⟨o,ho,rfl⟩:=List.mem_map.mp z1
        have:=hord o ho
        exact ⟨hq _ (by show qs.getD o 0 ∈ qs; rw [List.getD,List.getElem?_eq_getElem this]; exact List.getElem_mem this),unsQ_iff.mp z2⟩
      have s23:=s2.trans s3
      refine ⟨_,.inl (SqL.of (s23 _ _ hlt)),?_⟩
      have hT3:=hT.same (s1.trans s23)
      refine ⟨hT3,fun f c H4 t4 hT4 hf0 ef ec=>?_⟩
      intro H5 s5 hc
      have cT:=hc 2 _ _ _ rfl rfl (by with_unfolding_all rfl)
      have cW:=hc 3 _ _ _ rfl rfl (by with_unfolding_all rfl)
      have t45:=t4.trans s5.t
      have M3:Mx K H3 lt d qs (dI (iu qs ord)) B:=⟨⟨xs,s23 _ _ hlt,hF1.same s23⟩,⟨kvs,hd,hDF⟩,hq24,B0,B1,hq⟩
      have t05:=(s1.trans s23).t.trans t45
      refine ⟨lt,d,qs,_,B,.ref f,by show [V.int (xs.length:Int),V.ref f] = _; rw [hxl],M3.st t45,⟨f,c,_,rfl,s5 _ _ ef,s5 _ _ ec,rfl,nd2 _,.cons cT (.cons cW .nil)⟩,fun H6 r xs6 s6 hr0 hr1 hM hnd hnew=>?_⟩
      exact q _ r xs6 (t05.trans s6.t) ((hT4.same s5).same s6) (t05.free hr0) hr1 hM hnd fun q hq=>t05.free (hnew q hq)
end
end My
namespace My
open PySem L2 FrM
def Two (c e:Int×Int):Prop:=∃ B:Int,0 < B∧B≤1000000000∧Fr B c∧Fr B e∧uns c = true∧uns e = true
def uB (K:PySem.W.Frag):Sp:=fun vs H Q _=>∃ (x y:V) (c e:Int×Int),vs = [x,y]∧IsF K H c x∧IsF K H e y∧Two c e ∧
  ∀ H' l p1 p2 x1 y1 x2 y2,Same H H'→H l = none→H' l = some (.lst [.ref p1,.ref p2])→H' p1 = some (.tup [.int (du1 c e),x1,y1])→H' p2 = some (.tup [.int (du2 c e),x2,y2]) →
    IsF K H' (par true c e).1 x1→IsF K H' (par true c e).2 y1→IsF K H' (par false c e).1 x2→IsF K H' (par false c e).2 y2→Q (.ref l) H'
theorem Two.facts {c e:Int×Int} (h:Two c e):0 < c.1∧c.1 < c.2∧c.2≤1000000000∧0 < e.1∧e.1 < e.2∧e.2≤1000000000∧0 < bd c.2 e.2∧bd c.2 e.2≤1000000000∧0 < duA c e∧duA c e < bd c.2 e.2∧0 < duB c e∧duB c e < bd c.2 e.2:=by
  obtain ⟨B,b0,b1,h1,h2,h3,h4⟩:=h
  obtain ⟨d0,d1,d2,a0,a1,b2,b3⟩:=qg b0 h1 h2 h3 h4
  have u1:0 < c.1∧c.1 < c.2:=of_decide_eq_true h3
  have u2:0 < e.1∧e.1 < e.2:=of_decide_eq_true h4
  have k1:=Int.le_of_dvd b0 h1.2.2.2
  have k2:=Int.le_of_dvd b0 h2.2.2.2
  exact ⟨u1.1,u1.2,by omega,u2.1,u2.2,by omega,d0,by omega,a0,a1,b2,b3⟩
section
variable {P:Program} {w:World} {K:PySem.W.Frag} {mg:Str→Option Value} {base:Heap} {a:Ad}
theorem wr (T:Txt K mg a):FnOk P w K mg base CX0 3 a.f_duel_parts a.d_duel_parts ["one", "other"] (uB K):=by
  have G_least_multiple:FnOk P w K mg base CX0 2 _ _ _ uP:=vP T
  have G_share:FnOk P w K mg base CX0 2 _ _ _ eM:=ez T
  refine T.F_duel_parts.ok sc_duel_parts (fun vs H Q E h=>?_) (fun cdv A outer s H vs Q E hr h=>?_)
  · obtain ⟨x,y,c,e,rfl,_⟩:=h; rfl
  · obtain ⟨x,y,c,e,rfl,hc,he,h2,q⟩:=h
    obtain ⟨c0,c1,c2,e0,e1,e2,d0,d1,a0,a1,b0,b1⟩:=h2.facts
    have ic:∀ {H':Hp},Same H H'→IsF K H' c x:=fun s=>hc.same s
    have ie:∀ {H':Hp},Same H H'→IsF K H' e y:=fun s=>he.same s
    obtain ⟨pc,rfl,hpc⟩:=id hc
    obtain ⟨pe,rfl,hpe⟩:=id he
    refine ⟨_,(ah (aA (i:=2) sc_duel_parts.nd rfl (Or.inl rfl) (ao G_least_multiple hr rfl T.m_least_multiple T.F_least_multiple.kp T.B_least_multiple .nil ap (aa (bO (aa (az av (vr 0) aj (fun _ _=>rfl)) (aa (az av (vr 1) aj (fun _ _=>rfl)) ae))) ae))) (ah (aA (i:=3) sc_duel_parts.nd rfl (Or.inl rfl) (aw ba (az av (vr 0) aj (fun _ _=>rfl)) (aw cz (vr 2) (az av (vr 0) aj (fun _ _=>rfl))))) (ah (aA (i:=4) sc_duel_parts.nd rfl (Or.inl rfl) (aw ba (az av (vr 1) aj (fun _ _=>rfl)) (aw cz (vr 2) (az av (vr 1) aj (fun _ _=>rfl))))) (ah (cJ (df lB (aw cG (vr 3) (vr 4)) (vr 2) (bY _)) (ah (aA (i:=5) sc_duel_parts.nd rfl (Or.inl rfl) (ao G_share hr rfl T.m_share T.F_share.kp T.B_share .nil ap (aa (aw cG (vr 3) (vr 4)) (aa (vr 2) ae)))) (ak (ax (bO (aa (aS (aa (vr 3) (aa (vr 5) (aa (dk rfl T.g_NOUGHT) ae)))) (aa (aS (aa (vr 4) (aa (dk rfl T.g_NOUGHT) (aa (vr 5) ae)))) ae)))))) bF) (ah (aA (i:=5) sc_duel_parts.nd rfl (Or.inl rfl) (ao G_share hr rfl T.m_share T.F_share.kp T.B_share .nil ap (aa (aw i7 (aw cG (vr 3) (vr 4)) (vr 2)) (aa (vr 2) ae)))) (ak (ax (bO (aa (aS (aa (aw i7 (vr 2) (vr 4)) (aa (dk rfl T.g_WHOLE) (aa (vr 5) ae)))) (aa (aS (aa (aw i7 (vr 2) (vr 3)) (aa (vr 5) (aa (dk rfl T.g_WHOLE) ae)))) ae)))))))))),?_⟩
    refine px1 hpc.sq (px1 hpe.sq ⟨bC _ _,fun l0 fl0=>⟨l0,c.2,e.2,rfl,ad,by omega,by omega,c2,e2,?_⟩⟩)
    have s1:=Same.new (o:=.lst [.int c.2,.int e.2]) fl0
    generalize upd H l0 (.lst [.int c.2,.int e.2]) = H1 at s1
    have hc1:PT K H1 pc c:=by obtain ⟨p,z,h⟩:=ic s1; cases z; exact h
    have he1:PT K H1 pe e:=by obtain ⟨p,z,h⟩:=ie s1; cases z; exact h
    refine px0 hc1.sq (px1 hc1.sq ⟨cdB (by omega) (iP (by omega) (by omega)),clB (by omega) (by omega),?_⟩)
    refine px0 he1.sq (px1 he1.sq ⟨cdB (by omega) (iP (by omega) (by omega)),clB (by omega) (by omega),?_⟩)
    refine ifC (fun hlt=>?_) fun hlt=>?_
    · have hlt:duA c e + duB c e < bd c.2 e.2:=hlt
      have hL:duL c e = true:=decide_eq_true hlt
      refine ⟨duA c e + duB c e,bd c.2 e.2,rfl,d0,iP (by omega) (by omega),iP (by omega) (by omega),fun H2 p s2 hp=>?_⟩
      refine ⟨by show 3≤sizeLine; decide,fun p1 f1=>?_⟩
      have s3:=Same.new (o:=.tup [.int (duA c e),.ref p,.ref a.k_NOUGHT]) f1
      refine ⟨by show 3≤sizeLine; decide,fun p2 f2=>?_⟩
      have s4:=Same.new (o:=.tup [.int (duB c e),.ref a.k_NOUGHT,.ref p]) f2
      refine ⟨bC _ _,fun l fl=>?_⟩
      have s5:=Same.new (o:=.lst [.ref p1,.ref p2]) fl
      have s35:=s3.trans (s4.trans s5)
      have hR:duR c e = dN (duA c e + duB c e) (bd c.2 e.2):=by unfold duR; rw [if_pos hL]
      have hE:duE c e = (0,1):=by unfold duE; rw [if_pos hL]
      have fR:∀ {H':Hp},Same H2 H'→IsF K H' (duR c e) (.ref p):=fun s=>⟨p,rfl,.inl (by rw [hR]; exact s _ _ hp)⟩
      have fE:∀ {H':Hp},IsF K H' (duE c e) (.ref a.k_NOUGHT):=⟨_,rfl,.inr (by rw [hE]; exact T.t_NOUGHT)⟩
      have pt:par true c e = (duR c e,duE c e):=by unfold par; rw [hL,if_pos rfl]
      have pf:par false c e = (duE c e,duR c e):=by unfold par; rw [hL,if_neg (by decide)]
      have nl:H l = none:=by
        cases hh:H l with
        | none=>rfl
        | some o=>exact absurd (fl.symm.trans ((s3.trans s4) _ _ ((s1.trans s2) _ _ hh))) (by simp)
      refine q _ l p1 p2 (.ref p) (.ref a.k_NOUGHT) (.ref a.k_NOUGHT) (.ref p) ((s1.trans s2).trans s35) nl ad ?_ ?_ ?_ ?_ ?_ ?_
      · rw [show du1 c e = duA c e by unfold du1; rw [if_pos hL]]; exact (s4.trans s5) _ _ ad
      · rw [show du2 c e = duB c e by unfold du2; rw [if_pos hL]]; exact s5 _ _ ad
      · rw [pt]; exact fR s35
      · rw [pt]; exact fE
      · rw [pf]; exact fE
      · rw [pf]; exact fR s35
    · have hlt:¬ duA c e + duB c e < bd c.2 e.2:=hlt
      have hL:duL c e = false:=decide_eq_false hlt
      have hL':¬ duL c e = true:=by rw [hL]; decide
      refine ⟨duA c e + duB c e - bd c.2 e.2,bd c.2 e.2,rfl,d0,iP (by omega) (by omega),iP (by omega) (by omega),fun H2 p s2 hp=>?_⟩
      refine ⟨by show 3≤sizeLine; decide,fun p1 f1=>?_⟩
      have s3:=Same.new (o:=.tup [.int (bd c.2 e.2 - duB c e),.ref a.k_WHOLE,.ref p]) f1
      refine ⟨by show 3≤sizeLine; decide,fun p2 f2=>?_⟩
      have s4:=Same.new (o:=.tup [.int (bd c.2 e.2 - duA c e),.ref p,.ref a.k_WHOLE]) f2
      refine ⟨bC _ _,fun l fl=>?_⟩
      have s5:=Same.new (o:=.lst [.ref p1,.ref p2]) fl
      have s35:=s3.trans (s4.trans s5)
      have hR:duR c e = dN (duA c e + duB c e - bd c.2 e.2) (bd c.2 e.2):=by unfold duR; rw [if_neg hL']
      have hE:duE c e = (1,1):=by unfold duE; rw [if_neg hL']
      have fR:∀ {H':Hp},Same H2 H'→IsF K H' (duR c e) (.ref p):=fun s=>⟨p,rfl,.inl (by rw [hR]; exact s _ _ hp)⟩
      have fE:∀ {H':Hp},IsF K H' (duE c e) (.ref a.k_WHOLE):=⟨_,rfl,.inr (by rw [hE]; exact T.t_WHOLE)⟩
      have pt:par true c e = (duE c e,duR c e):=by unfold par; rw [hL,if_neg (by decide)]
      have pf:par false c e = (duR c e,duE c e):=by unfold par; rw [hL,if_pos rfl]
      have nl:H l = none:=by
        cases hh:H l with
        | none=>rfl
        | some o=>exact absurd (fl.symm.trans ((s3.trans s4) _ _ ((s1.trans s2) _ _ hh))) (by simp)
      refine q _ l p1 p2 (.ref a.k_WHOLE) (.ref p) (.ref p) (.ref a.k_WHOLE) ((s1.trans s2).trans s35) nl ad ?_ ?_ ?_ ?_ ?_ ?_
      · rw [show du1 c e = bd c.2 e.2 - duB c e by unfold du1; rw [if_neg hL']]; exact (s4.trans s5) _ _ ad
      · rw [show du2 c e = bd c.2 e.2 - duA c e by unfold du2; rw [if_neg hL']]; exact s5 _ _ ad
      · rw [pt]; exact fE
      · rw [pt]; exact fR s35
      · rw [pf]; exact fR s35
      · rw [pf]; exact fE
end
end My
namespace My
open PySem L2 FrM
def Srt (ns kept:List Int):Prop:=ns.Perm kept∧ns.Pairwise (·≤·)
def IsTold (a:Ad) (H:Hp) (v:V) (kept:List Int):Prop:=∃ x dx t ns,v = .ref x∧H x = some (.ins a.c_Told dx [("rising",.ref t)])∧H t = some (.tup (ns.map V.int))∧Srt ns kept
theorem IsTold.t {a:Ad} {H H':Hp} {v:V} {kept:List Int} (s:SameT H H') (h:IsTold a H v kept):IsTold a H' v kept:=by
  obtain ⟨x,dx,t,ns,h1,h2,h3,h4⟩:=h
  exact ⟨x,dx,t,ns,h1,s.at h2,s.at h3,h4⟩
def LstI (H:Hp) (v:V) (ns:List Int):Prop:=∃ l,v = .ref l∧H l = some (.lst (ns.map V.int))
theorem LstI.t {H H':Hp} {v:V} {ns:List Int} (s:SameT H H') (h:LstI H v ns):LstI H' v ns:=by
  obtain ⟨l,h1,h2⟩:=h
  exact ⟨l,h1,s.at h2⟩
theorem IsF.t {K:PySem.W.Frag} {H H':Hp} {f:Int×Int} {x:V} (s:SameT H H') (h:IsF K H f x):IsF K H' f x:=let ⟨p,e,q⟩:=h; ⟨p,e,q.imp (fun z=>s.at z) id⟩
abbrev fvS:List Str:=["told", "taken"]
abbrev fvA:List Str:=["taken", "place"]
abbrev fvB:List Str:=["taken"]
def PrAt (K:PySem.W.Frag) (H:Hp) (x:Int×(Int×Int)) (v:V):Prop:=∃ q y,v = .ref q∧H q = some (.tup [.int x.1,y])∧IsF K H x.2 y
theorem PrAt.t {K:PySem.W.Frag} {H H':Hp} (s:SameT H H') (x:Int×(Int×Int)) (v:V) (h:PrAt K H x v):PrAt K H' x v:=let ⟨q,y,h1,h2,h3⟩:=h; ⟨q,y,h1,s.at h2,h3.t s⟩
theorem g8 {α β:Type} {r:α→β→Prop} {cs:List α} {ds:List β} (h2:Paired r cs ds):∀ {as:List α} {bs:List β},Paired r as bs→Paired r (as ++ cs) (bs ++ ds)
  | _,_,.nil=>h2
  | _,_,.cons x t=>.cons x (g8 h2 t)
def TlAt (K:PySem.W.Frag) (H:Hp) (v:V) (tl:Tl):Prop:=∃ l xs,v = .ref l∧H l = some (.lst xs)∧Paired (PrAt K H) tl xs
theorem TlAt.t {K:PySem.W.Frag} {H H':Hp} {v:V} {tl:Tl} (s:SameT H H') (h:TlAt K H v tl):TlAt K H' v tl:=let ⟨l,xs,h1,h2,h3⟩:=h; ⟨l,xs,h1,s.at h2,ay (PrAt.t s) h3⟩
def BB (B:Int):Prop:=0 < B∧B≤1000000000
def IsMk (K:PySem.W.Frag) (H:Hp) (f:V) (S:Tl×List Int):Prop :=
  (∃ vt vk tl tk B,IsLam H ld_settled_make_1 fvS f [vt,vk]∧TlAt K H vt tl∧LstI H vk tk∧BB B∧WfS B tl tk∧S = eg tl tk) ∨
  (∃ vk p tk,IsLam H ld_last_die_1 fvA f [vk,.int p]∧LstI H vk tk∧tk.length < 24∧S = ([],tk ++ [p])) ∨
  (∃ vk tk,IsLam H ld_last_die_2 fvB f [vk]∧LstI H vk tk∧tk.length≤24∧S = ([],tk))
theorem IsMk.t {K:PySem.W.Frag} {H H':Hp} {f:V} {S:Tl×List Int} (s:SameT H H') (h:IsMk K H f S):IsMk K H' f S:=by
  rcases h with ⟨vt,vk,tl,tk,B,h1,h2,h3,h4⟩ | ⟨vk,p,tk,h1,h2,h3⟩ | ⟨vk,tk,h1,h2,h3⟩
  · exact .inl ⟨vt,vk,tl,tk,B,h1.t s,h2.t s,h3.t s,h4⟩
  · exact .inr (.inl ⟨vk,p,tk,h1.t s,h2.t s,h3⟩)
  · exact .inr (.inr ⟨vk,tk,h1.t s,h2.t s,h3⟩)
def IsDie (K:PySem.W.Frag) (a:Ad) (H:Hp) (v:V) (m1 m2:Int) (S1 S2:Tl×List Int):Prop:=∃ x dx l p1 p2 f1 f2,v = .ref x∧H x = some (.ins a.c_Die dx [("makes",.ref l)])∧H l = some (.lst [.ref p1,.ref p2])∧H p1 = some (.tup [.int m1,f1])∧H p2 = some (.tup [.int m2,f2])∧IsMk K H f1 S1∧IsMk K H f2 S2
theorem IsDie.t {K:PySem.W.Frag} {a:Ad} {H H':Hp} {v:V} {m1 m2:Int} {S1 S2:Tl×List Int} (s:SameT H H') (h:IsDie K a H v m1 m2 S1 S2):IsDie K a H' v m1 m2 S1 S2:=by
  obtain ⟨x,dx,l,p1,p2,f1,f2,h1,h2,h3,h4,h5,h6,h7⟩:=h
  exact ⟨x,dx,l,p1,p2,f1,f2,h1,s.at h2,s.at h3,s.at h4,s.at h5,h6.t s,h7.t s⟩
def IsNode (K:PySem.W.Frag) (a:Ad) (H:Hp) (v:V) (S:Tl×List Int):Prop:=(S.1 = []∧IsTold a H v S.2)∨(S.1≠[]∧IsDie K a H v (sz1 S.1) (sz2 S.1) (nx true S.1 S.2) (nx false S.1 S.2))
theorem IsNode.t {K:PySem.W.Frag} {a:Ad} {H H':Hp} {v:V} {S:Tl×List Int} (s:SameT H H') (h:IsNode K a H v S):IsNode K a H' v S:=h.imp (fun ⟨x,y⟩=>⟨x,y.t s⟩) fun ⟨x,y⟩=>⟨x,y.t s⟩
def nA (N:Addr→Prop) (v:V):Prop:=∀ l,v = .ref l→N l
def IsMkN (K:PySem.W.Frag) (N:Addr→Prop) (H:Hp) (f:V) (S:Tl×List Int):Prop :=
  (∃ vt vk tl tk B,IsLam H ld_settled_make_1 fvS f [vt,vk]∧TlAt K H vt tl∧LstI H vk tk∧BB B∧WfS B tl tk∧S = eg tl tk∧nA N vt∧nA N vk) ∨
  (∃ vk p tk,IsLam H ld_last_die_1 fvA f [vk,.int p]∧LstI H vk tk∧tk.length < 24∧S = ([],tk ++ [p])∧nA N vk) ∨
  (∃ vk tk,IsLam H ld_last_die_2 fvB f [vk]∧LstI H vk tk∧tk.length≤24∧S = ([],tk)∧nA N vk)
theorem IsMkN.w {K:PySem.W.Frag} {N:Addr→Prop} {H:Hp} {f:V} {S:Tl×List Int} (h:IsMkN K N H f S):IsMk K H f S:=by
  rcases h with ⟨vt,vk,tl,tk,B,h1,h2,h3,h4,h5,h6,_⟩ | ⟨vk,p,tk,h1,h2,h3,h4,_⟩ | ⟨vk,tk,h1,h2,h3,h4,_⟩
  · exact .inl ⟨vt,vk,tl,tk,B,h1,h2,h3,h4,h5,h6⟩
  · exact .inr (.inl ⟨vk,p,tk,h1,h2,h3,h4⟩)
  · exact .inr (.inr ⟨vk,tk,h1,h2,h3,h4⟩)
theorem IsMkN.t {K:PySem.W.Frag} {N:Addr→Prop} {H H':Hp} {f:V} {S:Tl×List Int} (s:SameT H H') (h:IsMkN K N H f S):IsMkN K N H' f S:=by
  rcases h with ⟨vt,vk,tl,tk,B,h1,h2,h3,h4⟩ | ⟨vk,p,tk,h1,h2,h3⟩ | ⟨vk,tk,h1,h2,h3⟩
  · exact .inl ⟨vt,vk,tl,tk,B,h1.t s,h2.t s,h3.t s,h4⟩
  · exact .inr (.inl ⟨vk,p,tk,h1.t s,h2.t s,h3⟩)
  · exact .inr (.inr ⟨vk,tk,h1.t s,h2.t s,h3⟩)
def IsDieN (K:PySem.W.Frag) (a:Ad) (N:Addr→Prop) (H:Hp) (v:V) (m1 m2:Int) (S1 S2:Tl×List Int):Prop:=∃ x dx l p1 p2 f1 f2,v = .ref x∧H x = some (.ins a.c_Die dx [("makes",.ref l)])∧H l = some (.lst [.ref p1,.ref p2])∧H p1 = some (.tup [.int m1,f1])∧H p2 = some (.tup [.int m2,f2])∧IsMkN K N H f1 S1∧IsMkN K N H f2 S2∧N l
def IsNodeN (K:PySem.W.Frag) (a:Ad) (N:Addr→Prop) (H:Hp) (v:V) (S:Tl×List Int):Prop:=(S.1 = []∧IsTold a H v S.2)∨(S.1≠[]∧IsDieN K a N H v (sz1 S.1) (sz2 S.1) (nx true S.1 S.2) (nx false S.1 S.2))
theorem IsNodeN.w {K:PySem.W.Frag} {a:Ad} {N:Addr→Prop} {H:Hp} {v:V} {S:Tl×List Int} (h:IsNodeN K a N H v S):IsNode K a H v S:=by
  rcases h with h | ⟨h0,x,dx,l,p1,p2,f1,f2,h1,h2,h3,h4,h5,h6,h7,_⟩
  · exact .inl h
  · exact .inr ⟨h0,x,dx,l,p1,p2,f1,f2,h1,h2,h3,h4,h5,h6.w,h7.w⟩
theorem IsNodeN.t {K:PySem.W.Frag} {a:Ad} {N:Addr→Prop} {H H':Hp} {v:V} {S:Tl×List Int} (s:SameT H H') (h:IsNodeN K a N H v S):IsNodeN K a N H' v S:=by
  rcases h with ⟨h0,h⟩ | ⟨h0,x,dx,l,p1,p2,f1,f2,h1,h2,h3,h4,h5,h6,h7,h8⟩
  · exact .inl ⟨h0,h.t s⟩
  · exact .inr ⟨h0,x,dx,l,p1,p2,f1,f2,h1,s.at h2,s.at h3,s.at h4,s.at h5,h6.t s,h7.t s,h8⟩
theorem jm {H:Hp} {D:Addr} {ys zs:List V} (e:H D = some (.lst ys)):∀ {clos:List (Str×Addr)} {vals:List V},CellsAt H clos vals→CellsAt (upd H D (.lst zs)) clos vals
  | _,_,.nil=>.nil
  | _,_,.cons r t=>.cons (by rw [ai (fun z=>by rw [z,e] at r; cases r)]; exact r) (jm e t)
theorem IsLam.put {H:Hp} {D:Addr} {ys zs:List V} {d:LamD} {fv:List Str} {f:V} {vals:List V} (e:H D = some (.lst ys)) (h:IsLam H d fv f vals):IsLam (upd H D (.lst zs)) d fv f vals:=by
  obtain ⟨f',c,clos,h1,h2,h3,h4,h5,h6⟩:=h
  exact ⟨f',c,clos,h1,by rw [ai (fun z=>by rw [z,e] at h2; cases h2)]; exact h2,by rw [ai (fun z=>by rw [z,e] at h3; cases h3)]; exact h3,h4,h5,jm e h6⟩
theorem LstI.put {H:Hp} {D:Addr} {zs:List V} {v:V} {ns:List Int} (n:nA (·≠D) v) (h:LstI H v ns):LstI (upd H D (.lst zs)) v ns:=by
  obtain ⟨l,h1,h2⟩:=h
  exact ⟨l,h1,by rw [ai (n l h1)]; exact h2⟩
theorem PrAt.put {K:PySem.W.Frag} {H:Hp} {D:Addr} {ys zs:List V} (e:H D = some (.lst ys)) (x:Int×(Int×Int)) (v:V) (h:PrAt K H x v):PrAt K (upd H D (.lst zs)) x v:=by
  obtain ⟨q,y,h1,h2,p,h3,h4⟩:=h
  exact ⟨q,y,h1,by rw [ai (fun z=>by rw [z,e] at h2; cases h2)]; exact h2,p,h3,h4.imp (fun z=>by rw [ai (fun w=>by rw [w,e] at z; cases z)]; exact z) id⟩
theorem TlAt.put {K:PySem.W.Frag} {H:Hp} {D:Addr} {ys zs:List V} {v:V} {tl:Tl} (e:H D = some (.lst ys)) (n:nA (·≠D) v) (h:TlAt K H v tl):TlAt K (upd H D (.lst zs)) v tl:=by
  obtain ⟨l,xs,h1,h2,h3⟩:=h
  exact ⟨l,xs,h1,by rw [ai (n l h1)]; exact h2,ay (PrAt.put e) h3⟩
theorem IsMkN.put {K:PySem.W.Frag} {N:Addr→Prop} {H:Hp} {D:Addr} {ys zs:List V} {f:V} {S:Tl×List Int} (e:H D = some (.lst ys)) (n:∀ b,N b→b≠D) (h:IsMkN K N H f S):IsMkN K N (upd H D (.lst zs)) f S:=by
  have g:∀ v,nA N v→nA (·≠D) v:=fun v hv l hl=>n l (hv l hl)
  rcases h with ⟨vt,vk,tl,tk,B,h1,h2,h3,h4,h5,h6,h7,h8⟩ | ⟨vk,p,tk,h1,h2,h3,h4,h5⟩ | ⟨vk,tk,h1,h2,h3,h4,h5⟩
  · exact .inl ⟨vt,vk,tl,tk,B,h1.put e,h2.put e (g _ h7),h3.put (g _ h8),h4,h5,h6,h7,h8⟩
  · exact .inr (.inl ⟨vk,p,tk,h1.put e,h2.put (g _ h5),h3,h4,h5⟩)
  · exact .inr (.inr ⟨vk,tk,h1.put e,h2.put (g _ h5),h3,h4,h5⟩)
theorem IsNodeN.put {K:PySem.W.Frag} {a:Ad} {N:Addr→Prop} {H:Hp} {D:Addr} {ys zs:List V} {v:V} {S:Tl×List Int} (e:H D = some (.lst ys)) (n:∀ b,N b→b≠D) (h:IsNodeN K a N H v S):IsNodeN K a N (upd H D (.lst zs)) v S:=by
  rcases h with ⟨h0,x,dx,t,ns,h1,h2,h3,h4⟩ | ⟨h0,x,dx,l,p1,p2,f1,f2,h1,h2,h3,h4,h5,h6,h7,h8⟩
  · exact .inl ⟨h0,x,dx,t,ns,h1,by rw [ai (fun z=>by rw [z,e] at h2; cases h2)]; exact h2,by rw [ai (fun z=>by rw [z,e] at h3; cases h3)]; exact h3,h4⟩
  · exact .inr ⟨h0,x,dx,l,p1,p2,f1,f2,h1,by rw [ai (fun z=>by rw [z,e] at h2; cases h2)]; exact h2,by rw [ai (n l h8)]; exact h3,by rw [ai (fun z=>by rw [z,e] at h4; cases h4)]; exact h4,by rw [ai (fun z=>by rw [z,e] at h5; cases h5)]; exact h5,h6.put e n,h7.put e n,h8⟩
def gT (a:Ad):Sp:=fun vs H Q _=>∃ (x dx l:Addr) (ns:List Int),vs = [.ref x,.ref l]∧H x = some (.ins a.c_Told dx [])∧H l = some (.lst (ns.map V.int))∧ns.length < 64 ∧
  ∀ H' t ns',(∀ b o,b≠x→H b = some o→H' b = some o)→H' x = some (.ins a.c_Told dx [("rising",.ref t)])→H' t = some (.tup (ns'.map V.int))→Srt ns' ns→Q .non H'
def mC (a:Ad):Sp:=fun vs H Q _=>∃ (x dx l:Addr) (xs:List V),vs = [.ref x,.ref l]∧H x = some (.ins a.c_Die dx [])∧H l = some (.lst xs) ∧
  ∀ H' t,(∀ b o,b≠x→H b = some o→H' b = some o)→H' x = some (.ins a.c_Die dx [("makes",.ref t)])→H' t = some (.lst xs)→H t = none→Q .non H'
def sj (a:Ad):Sp:=fun vs H Q _=>∃ vt vk,vs = [vt,vk]∧TabsOk (tabs a) H∧∀ H' f,SameT H H'→TabsOk (tabs a) H'→IsLam H' ld_settled_make_1 fvS f [vt,vk]→Q f H'
def qD (K:PySem.W.Frag) (a:Ad):Sp:=fun vs H Q _=>∃ v vk p c tk N,vs = [v,vk]∧PrAt K H (p,c) v∧LstI H vk tk∧tk.length < 24∧TabsOk (tabs a) H∧(∀ b,H b = none→N b)∧nA N vk∧∀ H' u,SameT H H'→TabsOk (tabs a) H'→IsNodeN K a N H' u ([(p,c)],tk)→Q u H'
section
variable {P:Program} {w:World} {K:PySem.W.Frag} {mg:Str→Option Value} {base:Heap} {a:Ad}
theorem yd (n:Nat):([n + 1,n + 1 + 1]:List Nat).Nodup:=by
  simp only [List.nodup_cons,List.mem_cons,List.not_mem_nil,or_false,not_or,not_false_eq_true,List.nodup_nil,and_true]
  omega
theorem kh (T:Txt K mg a):FnOk P w K mg base CX0 1 a.i_Told a.e_Told ["self", "kept"] (gT a):=by
  refine T.Fi_Told.ok gq (fun vs H Q E h=>?_) (fun cdv A outer s H vs Q E hr h=>?_)
  · obtain ⟨x,dx,l,ns,rfl,_⟩:=h; rfl
  · obtain ⟨x,dx,l,ns,rfl,hx,hl,hn,q⟩:=h
    refine ⟨_,(ak (qc (vr 0) (bN iN rfl T.z_tuple kY (aa (aC jG rfl T.z_sorted o6 (aa (vr 1) ae)) ae)) rfl)),?_⟩
    refine ⟨l,ns,rfl,SqL.of hl,hn,fun p ns' hp hs fp=>?_⟩
    have s1:=Same.new (o:=.lst (ns'.map V.int)) fp
    refine ⟨p,_,rfl,.inl ⟨SqL.of ad,fun t ft=>?_⟩⟩
    have s2:=Same.new (o:=.tup (ns'.map V.int)) ft
    have s12:=s1.trans s2
    have nt:t≠x:=fun z=>by rw [z,s1 _ _ hx] at ft; cases ft
    refine ⟨x,a.c_Told,dx,[],rfl,s12 _ _ hx,T.cl_Told,T.na_Told_rising,(by decide),?_⟩
    exact q _ t ns' (fun b o n e=>by rw [ai n]; exact s12 _ _ e) ad (by rw [ai nt]; exact ad) ⟨hp,hs⟩
theorem re (T:Txt K mg a):FnOk P w K mg base CX0 1 a.i_Die a.e_Die ["self", "parts"] (mC a):=by
  refine T.Fi_Die.ok gE (fun vs H Q E h=>?_) (fun cdv A outer s H vs Q E hr h=>?_)
  · obtain ⟨x,dx,l,xs,rfl,_⟩:=h; rfl
  · obtain ⟨x,dx,l,xs,rfl,hx,hl,q⟩:=h
    refine ⟨_,(ak (qc (vr 0) (bN cb rfl T.z_list dc (aa (vr 1) ae)) rfl)),?_⟩
    refine ⟨l,xs,rfl,.inl (SqL.of hl),fun t ft=>?_⟩
    have s1:=Same.new (o:=.lst xs) ft
    have nt:t≠x:=fun z=>by rw [z,hx] at ft; cases ft
    refine ⟨x,a.c_Die,dx,[],rfl,s1 _ _ hx,T.cl_Die,T.na_Die_makes,(by decide),?_⟩
    exact q _ t (fun b o n e=>by rw [ai n]; exact s1 _ _ e) ad (by rw [ai nt]; exact ad) ft
theorem made {H1 H':Hp} {x dx:Addr} {o1 o2:HO} (hx:H1 x = none) (hd:H1 dx = none) (k:∀ b o,b≠x→(upd (upd H1 dx o1) x o2) b = some o→H' b = some o):Same H1 H':=fun b o e=>by
  refine k b o (aq e hx) ?_
  rw [ai (aq e hx),ai (aq e hd)]
  exact e
theorem uf (T:Txt K mg a) (hB:Bm mg base):FnOk P w K mg base CX0 1 a.f_settled_make a.d_settled_make ["told", "taken"] (sj a):=by
  refine T.F_settled_make.okL T.lcd_settled_make gH (by decide +kernel) (fun vs H Q E h=>?_) (fun A outer s H vs Q E hr h=>?_)
  · obtain ⟨vt,vk,rfl,_⟩:=h; rfl
  · obtain ⟨vt,vk,rfl,hT,q⟩:=h
    refine ⟨_,(qO (jW (d:=ld_settled_make_1) rfl T.lch_settled_make hB rfl (by with_unfolding_all rfl) rfl (gB a) (.head _) T.tnd gF)),?_⟩
    refine ⟨hT,fun f1 c1 H2 t2 hT2 n1 ef1 ec1=>?_⟩
    exact fun H3 s3 hc=>q _ _ (t2.trans s3.t) (hT2.same s3) ⟨f1,c1,_,rfl,s3 _ _ ef1,s3 _ _ ec1,rfl,yd _,.cons (hc 0 _ _ _ rfl rfl (by with_unfolding_all rfl)) (.cons (hc 1 _ _ _ rfl rfl (by with_unfolding_all rfl)) .nil)⟩
theorem sE (T:Txt K mg a) (hB:Bm mg base):FnOk P w K mg base CX0 3 a.f_last_die a.d_last_die ["last", "taken"] (qD K a):=by
  have G_Die:FnOk P w K mg base CX0 1 _ _ _ (mC a):=re T
  refine T.F_last_die.okL T.lcd_last_die sc_last_die (by decide +kernel) (fun vs H Q E h=>?_) (fun A outer s H vs Q E hr h=>?_)
  · obtain ⟨v,vk,p,c,tk,N,rfl,_⟩:=h; rfl
  · obtain ⟨v,vk,p,c,tk,N,rfl,⟨q0,y,rfl,hq0,hc⟩,hk,hlk,hT,hN,nk,q⟩:=h
    refine ⟨_,(kg (lM (vr 0) (dq rfl (au (ar (i:=2) sc_last_die.nd rfl (Or.inr rfl)) (au (ar (i:=3) sc_last_die.nd rfl (Or.inl rfl)) bj)))) (qO (fY T.mk_Die G_Die hr rfl T.mc_Die T.Bi_Die .nil ap (aa (bO (aa (aS (aa (az av (vr 3) aj (fun _ _=>rfl)) (aa (jW (d:=ld_last_die_1) rfl T.lch_last_die hB rfl (by with_unfolding_all rfl) rfl (gz a) (.head _) T.tnd gy) ae))) (aa (aS (aa (aw i7 (az av (vr 3) aj (fun _ _=>rfl)) (az av (vr 3) aj (fun _ _=>rfl))) (aa (jW (d:=ld_last_die_2) rfl T.lch_last_die hB rfl (by with_unfolding_all rfl) rfl (gz a) (.tail _ (.head _)) T.tnd gy) ae))) ae))) ae)))),?_⟩
    refine ⟨q0,_,rfl,SqT.of hq0,rfl,_,_,rfl,_,_,rfl,rfl,?_⟩
    obtain ⟨pc,rfl,hpc⟩:=id hc
    have pcat:∀ {H':Hp},SameT H H'→PT K H' pc c:=fun s=>by obtain ⟨_,z,h⟩:=hc.t s; cases z; exact h
    refine px0 hpc.sq ?_
    refine ⟨hT,fun f1 c1 H2 t2 hT2 n1 ef1 ec1=>?_⟩
    refine ⟨(by decide:2≤sizeLine),fun p1 hp1=>?_⟩
    have s3:=Same.new (o:=.tup [.int c.1,.ref f1]) hp1
    have ep1:(upd H2 p1 (.tup [.int c.1,.ref f1])) p1 = some (.tup [.int c.1,.ref f1]):=ad
    generalize upd H2 p1 (.tup [.int c.1,.ref f1]) = H3 at s3 ep1
    have t3:=t2.trans s3.t
    refine px1 (pcat t3).sq (px0 (pcat t3).sq ?_)
    refine ⟨hT2.same s3,fun f2 c2 H4 t4 hT4 n2 ef2 ec2=>?_⟩
    refine ⟨(by decide:2≤sizeLine),fun p2 hp2=>?_⟩
    have s5:=Same.new (o:=.tup [.int (c.2 - c.1),.ref f2]) hp2
    have ep2:(upd H4 p2 (.tup [.int (c.2 - c.1),.ref f2])) p2 = some (.tup [.int (c.2 - c.1),.ref f2]):=ad
    generalize upd H4 p2 (.tup [.int (c.2 - c.1),.ref f2]) = H5 at s5 ep2
    refine ⟨(by decide:2≤sizeLine),fun l0 hl0=>?_⟩
    have s6:=Same.new (o:=.lst [.ref p1,.ref p2]) hl0
    have el0:(upd H5 l0 (.lst [.ref p1,.ref p2])) l0 = some (.lst [.ref p1,.ref p2]):=ad
    generalize upd H5 l0 (.lst [.ref p1,.ref p2]) = H6 at s6 el0
    intro x dx hx hdx hne
    have s0:Same H6 (upd (upd H6 dx (.own x)) x (.ins a.c_Die dx [])):=fun b o e=>by rw [ai (aq e hx),ai (aq e hdx)]; exact e
    refine ⟨x,dx,l0,_,rfl,ad,s0 _ _ el0,fun H7 l k g1 g2 gl=>⟨rfl,fun H8 s8 hc'=>?_⟩⟩
    have s7:=made hx hdx k
    have s68:=s7.trans s8
    have s58:=s6.trans s68
    have t48:=s5.trans s58
    have t38:=t4.trans t48.t
    have t28:=s3.t.trans t38
    have t18:=t2.trans t28
    have cT:=hc' 1 _ _ _ rfl rfl (by with_unfolding_all rfl)
    have cP:=hc' 2 _ _ _ rfl rfl (by with_unfolding_all rfl)
    refine q _ _ t18 (hT4.same t48) (.inr ⟨by simp,x,dx,l,p1,p2,.ref f1,.ref f2,rfl,s8 _ _ g1,s8 _ _ g2,t38.at ep1,s58 _ _ ep2,.inr (.inl ⟨vk,p,tk,?_,hk.t t18,hlk,rfl,nk⟩),.inr (.inr ⟨vk,tk,?_,hk.t t18,by omega,rfl,nk⟩),hN _ ((t2.trans (s3.t.trans (t4.trans (s5.trans s6).t))).free (s0.free gl))⟩)
    · exact ⟨f1,c1,_,rfl,t28.at ef1,t28.at ec1,rfl,yd _,.cons cT (.cons cP .nil)⟩
    · exact ⟨f2,c2,_,rfl,t48 _ _ ef2,t48 _ _ ec2,rfl,by simp,.cons cT .nil⟩
end
end My
namespace My
open PySem L2 FrM
theorem vG {H H':Hp} {D:Addr} (s:SameT H H'):SameT (fJ H D) (fJ H' D):=fun b o e=>by
  by_cases hb:b = D
  · rw [hb,eP] at e; cases e
  · rw [ce hb] at e ⊢
    exact s b o e
theorem nF {H:Hp} {D:Addr} {o:HO}:SameT (fJ H D) (fJ (upd H D o) D):=fun b o' e=>by
  by_cases hb:b = D
  · rw [hb,eP] at e; cases e
  · rw [ce hb] at e
    rw [ce hb,ai hb]
    exact SameT.refl b o' e
theorem nZ {H:Hp} {D:Addr}:SameT (fJ H D) H:=fun b o' e=>by
  by_cases hb:b = D
  · rw [hb,eP] at e; cases e
  · rw [ce hb] at e
    exact SameT.refl b o' e
theorem mz {H:Hp} {D:Addr} {o:HO}:SameT (fJ H D) (upd H D o):=fun b o' e=>by
  by_cases hb:b = D
  · rw [hb,eP] at e; cases e
  · rw [ce hb] at e
    rw [ai hb]
    exact SameT.refl b o' e
theorem IsLam.cut {H:Hp} {D:Addr} {ys:List V} {d:LamD} {fv:List Str} {f:V} {vals:List V} (hD:H D = some (.lst ys)) (h:IsLam H d fv f vals):IsLam (fJ H D) d fv f vals:=by
  obtain ⟨f',c,clos,g1,g2,g3,g4,g5,g6⟩:=h
  have ne:∀ b φ,H b = some (.ext φ)→b≠D:=fun b φ e z=>by rw [z,hD] at e; cases e
  refine ⟨f',c,clos,g1,by rw [ce (ne _ _ g2)]; exact g2,by rw [ce (ne _ _ g3)]; exact g3,g4,g5,?_⟩
  clear g2 g3 g4 g5
  induction g6 with
  | nil=>exact .nil
  | cons r _ ih=>exact .cons (by rw [ce (ne _ _ r)]; exact r) ih
theorem PrAt.cut {K:PySem.W.Frag} {H:Hp} {D:Addr} {ys:List V} (hD:H D = some (.lst ys)) (x:Int×(Int×Int)) (v:V) (h:PrAt K H x v):PrAt K (fJ H D) x v:=by
  obtain ⟨q,y,h1,h2,p,h3,h4⟩:=h
  have ne:∀ b us,H b = some (.tup us)→b≠D:=fun b φ e z=>by rw [z,hD] at e; cases e
  exact ⟨q,y,h1,by rw [ce (ne _ _ h2)]; exact h2,p,h3,h4.imp (fun z=>by rw [ce (ne _ _ z)]; exact z) id⟩
def RowM (K:PySem.W.Frag) (N:Addr→Prop) (H:Hp) (r:Int×(Tl×List Int)) (y:V):Prop:=∃ q f,y = .ref q∧H q = some (.tup [.int r.1,f])∧IsMkN K N H f r.2
theorem RowM.t {K:PySem.W.Frag} {N:Addr→Prop} {H H':Hp} (s:SameT H H') (r:Int×(Tl×List Int)) (y:V) (h:RowM K N H r y):RowM K N H' r y:=let ⟨q,f,h1,h2,h3⟩:=h; ⟨q,f,h1,s.at h2,h3.t s⟩
theorem gu {α β:Type} {r:α→β→Prop} {as:List α} {x:α} {i:Nat} {ys:List β} {y:β} (h:Paired r (as.take i) ys) (e:as[i]? = some x) (q:r x y):Paired r (as.take (i + 1)) (ys ++ [y]):=by
  rw [List.take_add_one,e]
  exact b9 q h
def rl (K:PySem.W.Frag) (a:Ad):Sp:=fun vs H Q _=>∃ vt vk tl tk B N,vs = [vt,vk]∧TlAt K H vt tl∧LstI H vk tk∧BB B∧WfT B tl tk∧TabsOk (tabs a) H∧(∀ b,H b = none→N b)∧nA N vt∧nA N vk∧∀ H' u,SameT H H'→TabsOk (tabs a) H'→IsNodeN K a N H' u (tl,tk)→Q u H'
def lZ (K:PySem.W.Frag) (a:Ad):Sp:=fun vs H Q _=>∃ vt vk tl tk B N,vs = [vt,vk]∧TlAt K H vt tl∧LstI H vk tk∧BB B∧WfS B tl tk∧TabsOk (tabs a) H∧(∀ b,H b = none→N b)∧nA N vt∧nA N vk∧∀ H' u,SameT H H'→TabsOk (tabs a) H'→IsNodeN K a N H' u (eg tl tk)→Q u H'
def yo (K:PySem.W.Frag) (a:Ad):Sp:=fun vs H Q _=>∃ vt vk tl tk B,vs = [vt,vk]∧TlAt K H vt tl∧LstI H vk tk∧BB B∧WfS B tl tk∧TabsOk (tabs a) H∧∀ H' u,SameT H H'→TabsOk (tabs a) H'→IsNode K a H' u (eg tl tk)→Q u H'
section
variable {P:Program} {w:World} {K:PySem.W.Frag} {mg:Str→Option Value} {base:Heap} {a:Ad}
theorem rM (a b c d:Int):PyData.eqv (.tuple [.int a,.int b]) (.tuple [.int c,.int d]) = decide ((a,b) = (c,d)):=by
  simp [PyData.eqv,PyData.eqvAll]
  rfl
theorem sZ (T:Txt K mg a) (hB:Bm mg base):FnOk P w K mg base CX0 4 a.f_open_node a.d_open_node ["told", "taken"] (rl K a):=by
  have G_Told:FnOk P w K mg base CX0 2 _ _ _ (gT a):=(kh T).mono (by decide)
  have G_Die:FnOk P w K mg base CX0 2 _ _ _ (mC a):=(re T).mono (by decide)
  have G_last_die:FnOk P w K mg base CX0 3 _ _ _ (qD K a):=sE T hB
  have G_duel_parts:FnOk P w K mg base CX0 3 _ _ _ (uB K):=wr T
  have G_settled_make:FnOk P w K mg base CX0 3 _ _ _ (sj a):=(uf T hB).mono (by decide)
  refine T.F_open_node.ok sc_open_node (fun vs H Q E h=>?_) (fun cdv A outer s H vs Q E hr h=>?_)
  · obtain ⟨vt,vk,tl,tk,B,N,rfl,_⟩:=h; rfl
  · obtain ⟨vt,vk,tl,tk,B,N,rfl,⟨lt,xs,rfl,hlt,hP⟩,⟨lk,rfl,hlk⟩,hBB,hwf,hT,hN,ntt,nk,q⟩:=h
    have small:sizeLine = 16777216:=sizeLine_eq
    refine ⟨_,(ah (cJ (eC (kX (vr 0) (fun _=>rfl))) (ak (ax (fY T.mk_Told G_Told hr rfl T.mc_Told T.Bi_Told .nil ap (aa (vr 1) ae)))) bF) (ah (cJ (df vz (aC be rfl T.z_len cK (aa (vr 0) ae)) aj (bY _)) (ak (ax (ao G_last_die hr rfl T.m_last_die T.F_last_die.kp T.B_last_die .nil ap (aa (az av (vr 0) aj (fun _ _=>rfl)) (aa (vr 1) ae))))) bF) (ah (lM (az av (vr 0) aj (fun _ _=>rfl)) (dq rfl (au (ar (i:=2) sc_open_node.nd rfl (Or.inr rfl)) (au (ar (i:=3) sc_open_node.nd rfl (Or.inl rfl)) bj)))) (ah (lM (az av (vr 0) aj (fun _ _=>rfl)) (dq rfl (au (ar (i:=4) sc_open_node.nd rfl (Or.inr rfl)) (au (ar (i:=5) sc_open_node.nd rfl (Or.inl rfl)) bj)))) (ak (ax (fY T.mk_Die G_Die hr rfl T.mc_Die T.Bi_Die .nil ap (aa (cC rfl (N:=["many", "left", "its_left", "taken", "told", "place", "other"]) (ix:=[none,none,none,some 1,some 0,some 2,some 4]) ⟨rfl,rfl,rfl,rfl,⟨rfl,rfl,rfl,⟨rfl,rfl,rfl,⟨rfl,rfl,rfl,⟨rfl,rfl,rfl,trivial⟩⟩⟩⟩⟩ (bG (ao G_duel_parts hr rfl T.m_duel_parts T.F_duel_parts.kp T.B_duel_parts .nil ap (aa (vr 3) (aa (vr 5) ae)))) ⟨fun C s H fp=>(dj (K:=K) (n:=3) rfl rfl (au (ar (i:=0) (show List.Nodup (["many", "left", "its_left", "taken", "told", "place", "other"]:List Str) by decide +kernel) rfl (Or.inl rfl)) (au (ar (i:=1) (show List.Nodup (["many", "left", "its_left", "taken", "told", "place", "other"]:List Str) by decide +kernel) rfl (Or.inl rfl)) (au (ar (i:=2) (show List.Nodup (["many", "left", "its_left", "taken", "told", "place", "other"]:List Str) by decide +kernel) rfl (Or.inl rfl)) bj)))),fun C s H fp=>cA,fun C s H fp=>(aS (aa (vr 0) (aa (ao G_settled_make hr rfl T.m_settled_make T.F_settled_make.kp T.B_settled_make .nil ap (aa (aw ij (bO (aa (aS (aa (vr 5) (aa (vr 1) ae))) (aa (aS (aa (vr 6) (aa (vr 2) ae))) ae))) (qP (sL (K:=K) rfl) (vr 4) (tj aj) ut)) (aa (vr 3) ae))) ae)))⟩) ae)))))))),?_⟩
    cases hP with
    | nil =>
      refine ⟨_,.inl ⟨_,SqL.of hlt,rfl⟩,?_⟩
      intro x dx hx hdx hne
      have s0:Same H (upd (upd H dx (.own x)) x (.ins a.c_Told dx [])):=fun b o e=>by rw [ai (aq e hx),ai (aq e hdx)]; exact e
      have:=hwf.2
      refine ⟨x,dx,lk,tk,rfl,ad,s0 _ _ hlk,by simp at this; omega,fun H' t ns' k h1 h2 h3=>⟨rfl,?_⟩⟩
      have sm:=made hx hdx k
      exact q _ _ sm.t (hT.same sm) (.inl ⟨rfl,x,dx,t,ns',rfl,h1,h2,h3⟩)
    | @cons r1 v1 tl1 xs1 g1 hP1 =>
      obtain ⟨p,c⟩:=r1
      refine ⟨_,.inl ⟨_,SqL.of hlt,rfl⟩,?_⟩
      refine ⟨_,.inl (SqL.of hlt),?_⟩
      cases hP1 with
      | nil =>
        refine .inl ⟨lt,_,_,_,rfl,rfl,SqL.of hlt,dH 0 rfl rfl,?_⟩
        have:=hwf.2
        exact ⟨v1,.ref lk,p,c,tk,N,rfl,g1,⟨lk,rfl,hlk⟩,by simp at this; omega,hT,hN,nk,fun H' u t hT' n=>q _ _ t hT' n⟩
      | @cons r2 v2 tl2 xs2 g2 hP2 =>
        obtain ⟨o,e⟩:=r2
        obtain ⟨q1,y1,rfl,hq1,hc⟩:=g1
        obtain ⟨q2,y2,rfl,hq2,he⟩:=g2
        refine .inl ⟨lt,_,_,_,rfl,rfl,SqL.of hlt,dH 0 rfl rfl,q1,_,rfl,SqT.of hq1,rfl,_,_,rfl,_,_,rfl,rfl,?_⟩
        refine .inl ⟨lt,_,_,_,rfl,rfl,SqL.of hlt,dH 1 rfl rfl,q2,_,rfl,SqT.of hq2,rfl,_,_,rfl,_,_,rfl,rfl,?_⟩
        have w1:=hwf.1 _ (List.mem_cons_self ..)
        have w2:=hwf.1 _ (List.mem_cons_of_mem _ (List.mem_cons_self ..))
        refine ⟨y1,y2,c,e,rfl,hc,he,⟨B,hBB.1,hBB.2,w1.1,w2.1,w1.2,w2.2⟩,fun H2 l p1 p2 x1 z1 x2 z2 s2 fl hl h1 h2 i1 i2 i3 i4=>?_⟩
        refine .inl ⟨⟨_,SqL.of hl⟩,fun D hD=>?_⟩
        have hT2:=hT.same s2
        have wS:=fun b=>rA hBB.1 hwf b
        have hTD:TabsOk (tabs a) (upd H2 D (.lst [])):=hT2.same (Same.new hD)
        have ext:∀ {H':Hp},TabsOk (tabs a) H'→∀ {ys:List V} {ys':List V},H' D = some (.lst ys)→TabsOk (tabs a) (upd H' D (.lst ys')):=fun hT' ys ys' e=>hT'.put (fun ps z=>by rw [e] at z; cases z) fun φ z=>by rw [e] at z; cases z
        refine bB (K:=K) (a:=l) (xs:=[.ref p1,.ref p2]) (fun i ys H'=>SameT H2 H'∧TabsOk (tabs a) H'∧H' D = some (.lst ys)∧i≤2∧Paired (RowM K N (fJ H' D)) (([(du1 c e,nx true ((p,c) :: (o,e) :: tl2) tk),(du2 c e,nx false ((p,c) :: (o,e) :: tl2) tk)]:List (Int×(Tl×List Int))).take i) ys)
          ⟨(Same.new hD).t,hTD,ad,Nat.zero_le _,.nil⟩ (fun i ys H' h=>SqL.of (h.1.at hl)) (fun i ys H' h=>h.2.2.1) ?_ ?_
        · rintro i y ys H' P' hy ⟨t1,hT1,hD1,hi,hc'⟩ hP'
          obtain ⟨b,m,pp,xl,zl,rfl,hpp,ixl,izl,hrow⟩:∃ (b:Bool) (m:Int) (pp:Addr) (xl zl:V),y = .ref pp∧H2 pp = some (.tup [.int m,xl,zl])∧IsF K H2 (par b c e).1 xl∧IsF K H2 (par b c e).2 zl∧([(du1 c e,nx true ((p,c) :: (o,e) :: tl2) tk),(du2 c e,nx false ((p,c) :: (o,e) :: tl2) tk)]:List (Int×(Tl×List Int)))[i]? = some (m,nx b ((p,c) :: (o,e) :: tl2) tk):=by
            match i,hy with
            | 0,hy=>cases hy; exact ⟨true,_,p1,x1,z1,rfl,h1,i1,i2,rfl⟩
            | 1,hy=>cases hy; exact ⟨false,_,p2,x2,z2,rfl,h2,i3,i4,rfl⟩
          have t02:=s2.t.trans t1
          have ylen:ys.length≤2:=by rw [← hc'.length,List.length_take]; simp only [List.length_cons,List.length_nil]; omega
          refine ⟨pp,_,rfl,SqT.of (t1.at hpp),rfl,_,_,rfl,_,_,rfl,_,_,rfl,rfl,⟨rfl,rfl,rfl,rfl,trivial⟩,?_⟩
          refine ⟨bC _ _,fun a1 fa1=>?_⟩
          have u1:=Same.new (o:=.tup [.int p,xl]) fa1
          refine ⟨bC _ _,fun a2 fa2=>?_⟩
          have u2:=Same.new (o:=.tup [.int o,zl]) fa2
          refine ⟨bC _ _,fun a3 fa3=>?_⟩
          have u3:=Same.new (o:=.lst [.ref a1,.ref a2]) fa3
          have u13:=u1.trans (u2.trans u3)
          refine ⟨_,rfl,.inl ⟨_,SqL.of (u13 _ _ (t02.at hlt)),fun a4 fa4=>?_⟩⟩
          have u4:=Same.new (o:=.lst (eZ (.ref q1 :: .ref q2 :: xs2) (some 2) none)) fa4
          have ecut:eZ (.ref q1 :: .ref q2 :: xs2) (some 2) none = xs2:=pG _ 2
          have l2:xs2.length≤24:=by have:=hwf.2; have:=hP2.length; simp only [List.length_cons] at *; omega
          refine ⟨a3,a4,_,_,rfl,rfl,u4 _ _ ad,ad,by rw [ecut]; show 2 + xs2.length≤sizeLine; omega,fun a5 fa5=>?_⟩
          have u5:=Same.new (o:=.lst ([.ref a1,.ref a2] ++ eZ (.ref q1 :: .ref q2 :: xs2) (some 2) none)) fa5
          have u15:=u13.trans (u4.trans u5)
          refine ⟨.ref a5,.ref lk,rfl,hT1.same u15,fun H9 f t9 hT9 hf=>?_⟩
          refine ⟨bC _ _,fun a6 fa6=>?_⟩
          have u6:=Same.new (o:=.tup [.int m,f]) fa6
          have t19:=u15.t.trans (t9.trans u6.t)
          have hDn:=t19.at hD1
          have na6:a6≠D:=fun z=>by rw [z] at fa6; rw [(u15.t.trans t9).at hD1] at fa6; cases fa6
          have ha5:(upd H9 a6 (.tup [.int m,f])) a5 = some (.lst ([.ref a1,.ref a2] ++ eZ (.ref q1 :: .ref q2 :: xs2) (some 2) none)):=(t9.trans u6.t).at ad
          have na5:a5≠D:=fun z=>by
            rw [z] at fa5
            rw [(u13.trans u4) _ _ hD1] at fa5
            cases fa5
          have ha1:(upd H9 a6 (.tup [.int m,f])) a1 = some (.tup [.int p,xl]):=(((u2.trans u3).trans (u4.trans u5)).t.trans (t9.trans u6.t)).at ad
          have ha2:(upd H9 a6 (.tup [.int m,f])) a2 = some (.tup [.int o,zl]):=((u3.trans (u4.trans u5)).t.trans (t9.trans u6.t)).at ad
          have nlk:lk≠D:=fun z=>by rw [z] at hlk; rw [s2 _ _ hlk] at hD; cases hD
          have hlk9:(upd H9 a6 (.tup [.int m,f])) lk = some (.lst (tk.map V.int)):=(t02.trans t19).at hlk
          refine ⟨hDn,by omega,hP' _ _ ⟨(t1.trans t19).put hD,ext (hT9.same u6) hDn,ad,by have:=(List.getElem?_eq_some_iff.mp hrow).1; simp only [List.length_cons,List.length_nil] at this; omega,gu (ay (RowM.t ((vG t19).trans nF)) hc') hrow (RowM.t nF _ _ ⟨a6,f,rfl,by rw [ce na6]; exact ad,.inl ⟨.ref a5,.ref lk,_,tk,B,(hf.t u6.t).cut hDn,⟨a5,_,rfl,by rw [ce na5]; exact ha5,?_⟩,⟨lk,rfl,by rw [ce nlk]; exact hlk9⟩,hBB,wS b,rfl,(fun l hl=>by cases hl; exact hN _ (t02.free ((u13.trans u4).free fa5))),nk⟩⟩)⟩⟩
          rw [ecut]
          exact .cons (PrAt.cut hDn _ _ ⟨a1,xl,rfl,ha1,ixl.t (t1.trans t19)⟩) (.cons (PrAt.cut hDn _ _ ⟨a2,zl,rfl,ha2,izl.t (t1.trans t19)⟩) (ay (fun x v h=>PrAt.cut hDn _ _ (PrAt.t (t02.trans t19) _ _ h)) hP2))
        · rintro ys H' ⟨t1,hT1,hD1,hi,hc'⟩
          cases hc' with
          | cons ra hc2=>cases hc2 with
            | cons rb hc3=>cases hc3 with
              | nil =>
                obtain ⟨qa,fa,rfl,hqa,mka⟩:=ra.t nZ
                obtain ⟨qb,fb,rfl,hqb,mkb⟩:=rb.t nZ
                intro x dx hx hdx hne
                have s0:Same H' (upd (upd H' dx (.own x)) x (.ins a.c_Die dx [])):=fun b o e=>by rw [ai (aq e hx),ai (aq e hdx)]; exact e
                refine ⟨x,dx,D,_,rfl,ad,s0 _ _ hD1,fun H7 l' k g1 g2 gl=>⟨rfl,?_⟩⟩
                have s7:=made hx hdx k
                exact q _ _ (s2.t.trans (t1.trans s7.t)) (hT1.same s7) (.inr ⟨by simp,x,dx,l',qa,qb,fa,fb,rfl,g1,g2,s7 _ _ hqa,s7 _ _ hqb,mka.t s7.t,mkb.t s7.t,hN _ ((s2.t.trans t1).free (s0.free gl))⟩)
theorem hX (T:Txt K mg a) (hB:Bm mg base):FnOk P w K mg base CX0 5 a.f_settled a.d_settled ["told", "taken"] (lZ K a):=by
  have G_open_node:FnOk P w K mg base CX0 4 _ _ _ (rl K a):=sZ T hB
  have G_is_unsure:FnOk P w K mg base CX0 4 _ _ _ (rf K):=(qT T).mono (by decide)
  refine T.F_settled.ok sc_settled (fun vs H Q E h=>?_) (fun cdv A outer s H vs Q E hr h=>?_)
  · obtain ⟨vt,vk,tl,tk,B,N,rfl,_⟩:=h; rfl
  · obtain ⟨vt,vk,tl,tk,B,N,rfl,⟨lt,xs,rfl,hlt,hP⟩,⟨lk,rfl,hlk⟩,hBB,hwf,hT,hN,ntt,nk,q⟩:=h
    have small:sizeLine = 16777216:=sizeLine_eq
    refine ⟨_,(ah (gQ rfl (i:=2) sc_settled.nd rfl rfl (by with_unfolding_all rfl) (N:=["place", "chance"]) (ix:=[none,none]) ⟨rfl,rfl,rfl,rfl,trivial⟩ (bG (vr 0)) ⟨fun C s H fp=>(dj (K:=K) (n:=2) rfl rfl (au (ar (i:=0) (show List.Nodup (["place", "chance"]:List Str) by decide +kernel) rfl (Or.inl rfl)) (au (ar (i:=1) (show List.Nodup (["place", "chance"]:List Str) by decide +kernel) rfl (Or.inl rfl)) bj))),fun C s H fp=>gO (df (wq (K:=K) rfl hr.units) (vr 1) (dk rfl T.g_WHOLE) (bY _)),fun C s H fp=>(vr 0)⟩) (ak (ax (ao G_open_node hr rfl T.m_open_node T.F_open_node.kp T.B_open_node .nil ap (aa (cC rfl (N:=["place", "chance"]) (ix:=[none,none]) ⟨rfl,rfl,rfl,rfl,trivial⟩ (bG (vr 0)) ⟨fun C s H fp=>(dj (K:=K) (n:=2) rfl rfl (au (ar (i:=0) (show List.Nodup (["place", "chance"]:List Str) by decide +kernel) rfl (Or.inl rfl)) (au (ar (i:=1) (show List.Nodup (["place", "chance"]:List Str) by decide +kernel) rfl (Or.inl rfl)) bj))),fun C s H fp=>gO (dA (ao G_is_unsure hr rfl T.m_is_unsure T.F_is_unsure.kp T.B_is_unsure .nil ap (aa (vr 1) ae))),fun C s H fp=>(aS (aa (vr 0) (aa (vr 1) ae)))⟩) (aa (aw ij (vr 1) (vr 2)) ae)))))),?_⟩
    refine .inl ⟨⟨_,SqL.of hlt⟩,fun D hD=>?_⟩
    refine bB (K:=K) (a:=lt) (xs:=xs) (fun i zs H'=>Same H H'∧H' D = some (.lst zs)∧i≤tl.length∧zs = (((tl.take i).filter fun x=>whl x.2).map (·.1)).map V.int) ⟨Same.new hD,ad,Nat.zero_le _,rfl⟩ (fun i ys H' h=>SqL.of (h.1 _ _ hlt)) (fun i ys H' h=>h.2.1) ?_ ?_
    · rintro i y zs H' P' hy ⟨s1,hD1,hi,rfl⟩ hP'
      obtain ⟨⟨p,c⟩,hpt,q1,yc,rfl,hq1,hc⟩:=bL hP hy
      have ilt:i < tl.length:=(List.getElem?_eq_some_iff.mp hpt).1
      refine ⟨q1,_,rfl,SqT.of (s1 _ _ hq1),rfl,_,_,rfl,_,_,rfl,rfl,?_⟩
      obtain ⟨pc,rfl,hpc⟩:=hc.same s1
      refine ⟨trivial,.tuple [.int c.1,.int c.2],.tuple [.int 1,.int 1],fP hpc.sq,fP (pN T.t_WHOLE),dg _ _,dg _ _,?_⟩
      rw [rM]
      refine ifC (fun hh=>?_) fun hh=>?_
      · have hw:whl c = true:=decide_eq_true (show c = (1,1) from hh)
        refine ⟨hD1,?_,hP' _ _ ⟨s1.put hD,ad,ilt,?_⟩⟩
        · rw [List.length_map,List.length_map]
          have:=List.length_filter_le (fun x:Int×(Int×Int)=>whl x.2) (tl.take i)
          have:=hwf.2
          rw [List.length_take] at *
          omega
        · rw [List.take_add_one,hpt]
          simp [hw]
      · have hw:whl c = false:=decide_eq_false (show ¬ c = (1,1) from hh)
        refine hP' _ _ ⟨s1,hD1,ilt,?_⟩
        rw [List.take_add_one,hpt]
        simp [hw]
    · rintro zs H' ⟨s1,hD1,_,rfl⟩
      rw [show xs.length = tl.length from hP.length.symm,List.take_length] at hD1
      refine .inl ⟨⟨_,SqL.of (s1 _ _ hlt)⟩,fun D2 hD2=>?_⟩
      have nD:D2≠D:=fun z=>by rw [z,hD1] at hD2; cases hD2
      refine bB (K:=K) (a:=lt) (xs:=xs) (fun i zs H2=>Same H' H2∧H2 D2 = some (.lst zs)∧i≤tl.length∧Paired (PrAt K H2) ((tl.take i).filter fun x=>uns x.2) zs) ⟨Same.new hD2,ad,Nat.zero_le _,.nil⟩ (fun i ys H2 h=>SqL.of (h.1 _ _ (s1 _ _ hlt))) (fun i ys H2 h=>h.2.1) ?_ ?_
      · rintro i y zs H2 P' hy ⟨s2,hD3,hi,hzs⟩ hP'
        obtain ⟨⟨p,c⟩,hpt,q1,yc,rfl,hq1,hc⟩:=bL hP hy
        have ilt:i < tl.length:=(List.getElem?_eq_some_iff.mp hpt).1
        have s12:=s1.trans s2
        refine ⟨q1,_,rfl,SqT.of (s12 _ _ hq1),rfl,_,_,rfl,_,_,rfl,rfl,trivial,?_⟩
        refine ⟨yc,c,rfl,hc.same s12,?_⟩
        have zl:zs.length≤24:=by
          rw [← hzs.length]
          have:=List.length_filter_le (fun x:Int×(Int×Int)=>uns x.2) (tl.take i)
          have:=hwf.2
          rw [List.length_take] at *
          omega
        refine ifB (fun hu=>?_) fun hu=>?_
        · refine ⟨bC _ _,fun q3 f3=>?_⟩
          have s3:=Same.new (o:=.tup [.int p,yc]) f3
          have hD4:=s3 _ _ hD3
          have n3:q3≠D2:=fun z=>by rw [z,hD3] at f3; cases f3
          refine ⟨hD4,by omega,hP' _ _ ⟨(s2.trans s3).put hD2,ad,ilt,?_⟩⟩
          rw [List.take_add_one,hpt,List.filter_append]
          refine g8 ?_ (ay (fun x v h=>((h.t s3.t).cut hD4).t mz) hzs)
          simp only [Option.toList,List.filter_cons,hu,if_pos,List.filter_nil]
          refine .cons ⟨q3,yc,rfl,by rw [ai n3]; exact ad,?_⟩ .nil
          have h':PrAt K (upd (upd H2 q3 (.tup [.int p,yc])) D2 (.lst (zs ++ [.ref q3]))) (p,c) (.ref q1):=(PrAt.cut hD4 _ _ (PrAt.t (s12.trans s3).t _ _ ⟨q1,yc,rfl,hq1,hc⟩)).t mz
          obtain ⟨_,y',z1,z2,z3⟩:=h'
          cases z1
          have n1:q1≠D2:=fun z=>by rw [z] at hq1; rw [s12 _ _ hq1] at hD3; cases hD3
          rw [ai n1,(s12.trans s3) _ _ hq1] at z2
          cases z2
          exact z3
        · refine hP' _ _ ⟨s2,hD3,ilt,?_⟩
          rw [List.take_add_one,hpt,List.filter_append]
          simp only [Option.toList,List.filter_cons,hu,List.filter_nil]
          simpa using hzs
      · rintro zs H2 ⟨s2,hD3,_,hzs⟩
        rw [show xs.length = tl.length from hP.length.symm,List.take_length] at hzs
        have s12:=s1.trans s2
        have hlen:=(jM hwf).2
        refine ⟨lk,D,_,_,rfl,rfl,s12 _ _ hlk,s2 _ _ hD1,?_,fun r fr=>?_⟩
        · have hlen:((eg tl tk).2).length≤24:=by omega
          simp only [eg,List.length_append,List.length_map] at hlen ⊢
          omega
        rw [← List.map_append]
        have s3:=Same.new (o:=.lst ((tk ++ (tl.filter fun x=>whl x.2).map (·.1)).map V.int)) fr
        have s13:=s12.trans s3
        exact ⟨.ref D2,.ref r,(eg tl tk).1,(eg tl tk).2,B,N,rfl,⟨D2,_,rfl,s3 _ _ hD3,ay (PrAt.t s3.t) hzs⟩,⟨r,rfl,ad⟩,hBB,jM hwf,hT.same s13,(fun b hb=>hN b (s13.free hb)),(fun l hl=>by cases hl; exact hN _ (s1.free hD2)),(fun l hl=>by cases hl; exact hN _ (s12.free fr)),fun H3 u t hT3 n=>q _ _ (s13.t.trans t) hT3 n⟩
end
end My
namespace My
open PySem L2 FrM
theorem TabsOk.untrs {tabs:lI} {H:Hp} {clos:List (Str×Addr)} {vals:List V} (hT:TabsOk tabs H) (ca:CellsAt H clos vals):TabsOk tabs (untrs H (clos.map (·.2))):=fun q hq=>by
  obtain ⟨ps,e1,e2,e3⟩:=hT q hq
  exact ⟨ps,bM ca e1 (fun v z=>nomatch z),e2,fun l hl=>(e3 l hl).imp id fun ⟨c,x,y⟩=>⟨c,x,bM ca y fun v=>j0⟩⟩
theorem back {H H' H3:Hp} {clos:List (Str×Addr)} (s:SameT (untrs H (clos.map (·.2))) H') (s3:Same H' H3) (hc:∀ p ∈ clos,H3 p.2 = H p.2):SameT H H3:=fun b o e=>by
  by_cases hb:b ∈ clos.map (·.2)
  · obtain ⟨p,hp,rfl⟩:=List.mem_map.mp hb
    rw [hc p hp,e]
    exact ⟨fun _=>rfl,o,rfl⟩
  · exact (s.trans s3.t) b o (by rw [eY hb]; exact e)
def sqO:HO→Bool
  | .lst _=>true
  | .tup _=>true
  | _=>false
theorem PrAt.m {K:PySem.W.Frag} {H H':Hp} (s:∀ b o,sqO o = true→H b = some o→H' b = some o) (x:Int×(Int×Int)) (v:V) (h:PrAt K H x v):PrAt K H' x v:=by
  obtain ⟨q,y,h1,h2,p,h3,h4⟩:=h
  exact ⟨q,y,h1,s _ _ rfl h2,p,h3,h4.imp (fun z=>s _ _ rfl z) id⟩
theorem TlAt.m {K:PySem.W.Frag} {H H':Hp} {v:V} {tl:Tl} (s:∀ b o,sqO o = true→H b = some o→H' b = some o) (h:TlAt K H v tl):TlAt K H' v tl:=let ⟨l,xs,h1,h2,h3⟩:=h; ⟨l,xs,h1,s _ _ rfl h2,ay (PrAt.m s) h3⟩
theorem LstI.m {H H':Hp} {v:V} {ns:List Int} (s:∀ b o,sqO o = true→H b = some o→H' b = some o) (h:LstI H v ns):LstI H' v ns:=let ⟨l,h1,h2⟩:=h; ⟨l,h1,s _ _ rfl h2⟩
def v7 (K:PySem.W.Frag) (a:Ad):List V→Sp:=fun vals vs H Q _=>∃ vk p tk,vals = [vk,.int p]∧vs = []∧LstI H vk tk∧tk.length < 24∧TabsOk (tabs a) H∧∀ H' u,SameT H H'→TabsOk (tabs a) H'→IsNode K a H' u ([],tk ++ [p])→Q u H'
def wn (K:PySem.W.Frag) (a:Ad):List V→Sp:=fun vals vs H Q _=>∃ vk tk,vals = [vk]∧vs = []∧LstI H vk tk∧tk.length≤24∧TabsOk (tabs a) H∧∀ H' u,SameT H H'→TabsOk (tabs a) H'→IsNode K a H' u ([],tk)→Q u H'
theorem lsS:LamScope ld_settled_make_1 fvS []:=⟨rfl,rfl,rfl,by decide +kernel,by decide +kernel,by decide +kernel,by decide +kernel,by decide +kernel⟩
theorem lsA:LamScope ld_last_die_1 fvA []:=⟨rfl,rfl,rfl,by decide +kernel,by decide +kernel,by decide +kernel,by decide +kernel,by decide +kernel⟩
theorem lsB:LamScope ld_last_die_2 fvB []:=⟨rfl,rfl,rfl,by decide +kernel,by decide +kernel,by decide +kernel,by decide +kernel,by decide +kernel⟩
def spV (u:V):Sp:=fun vs H Q _=>∃ v,vs = [v]∧Q u H
def xL (a:Ad):Sp:=fun vs H Q _=>∃ x dx t,vs = [.ref x]∧H x = some (.ins a.c_Told dx [("rising",.ref t)])∧Q (.ref t) H
def vW:Sp:=fun vs H Q _=>∃ v,vs = [v]∧∀ p,H p = none→Q (.ref p) (upd H p (.lst []))
def xA (K:PySem.W.Frag) (a:Ad):Sp:=fun vs H Q _=>∃ v m1 m2 S1 S2,vs = [v]∧IsDie K a H v m1 m2 S1 S2∧∀ H',Same H H'→Q (.int (m1 + m2)) H'
def Nok (H:Hp) (N:Addr→Prop):Prop:=∀ b,(∀ ys,H b≠some (.lst ys))→N b
theorem IsMk.n {K:PySem.W.Frag} {H:Hp} {D:Addr} {f:V} {S:Tl×List Int} (e:H D = none) (h:IsMk K H f S):IsMkN K (·≠D) H f S:=by
  have g:∀ {v tk},LstI H v tk→nA (·≠D) v:=fun ⟨l,h1,h2⟩ l' hl z=>by rw [h1] at hl; cases hl; rw [z,e] at h2; cases h2
  rcases h with ⟨vt,vk,tl,tk,B,h1,h2,h3,h4,h5,h6⟩ | ⟨vk,p,tk,h1,h2,h3,h4⟩ | ⟨vk,tk,h1,h2,h3,h4⟩
  · exact .inl ⟨vt,vk,tl,tk,B,h1,h2,h3,h4,h5,h6,(let ⟨l,_,z1,z2,_⟩:=h2; fun l' hl z=>by rw [z1] at hl; cases hl; rw [z,e] at z2; cases z2),g h3⟩
  · exact .inr (.inl ⟨vk,p,tk,h1,h2,h3,h4,g h2⟩)
  · exact .inr (.inr ⟨vk,tk,h1,h2,h3,h4,g h2⟩)
theorem IsMkN.cut {K:PySem.W.Frag} {N:Addr→Prop} {H:Hp} {D:Addr} {f:V} {S:Tl×List Int} (e:H D = none) (h:IsMkN K N H f S):IsMkN K (fun b=>N b∧b≠D) H f S:=by
  have g:∀ {v tk},LstI H v tk→nA N v→nA (fun b=>N b∧b≠D) v:=fun ⟨l,h1,h2⟩ n l' hl=>⟨n l' hl,fun z=>by rw [h1] at hl; cases hl; rw [z,e] at h2; cases h2⟩
  rcases h with ⟨vt,vk,tl,tk,B,h1,h2,h3,h4,h5,h6,h7,h8⟩ | ⟨vk,p,tk,h1,h2,h3,h4,h5⟩ | ⟨vk,tk,h1,h2,h3,h4,h5⟩
  · exact .inl ⟨vt,vk,tl,tk,B,h1,h2,h3,h4,h5,h6,(let ⟨l,_,z1,z2,_⟩:=h2; fun l' hl=>⟨h7 l' hl,fun z=>by rw [z1] at hl; cases hl; rw [z,e] at z2; cases z2⟩),g h3 h8⟩
  · exact .inr (.inl ⟨vk,p,tk,h1,h2,h3,h4,g h2 h5⟩)
  · exact .inr (.inr ⟨vk,tk,h1,h2,h3,h4,g h2 h5⟩)
theorem IsMkN.mono {K:PySem.W.Frag} {N N':Addr→Prop} {H:Hp} {f:V} {S:Tl×List Int} (g:∀ b,N b→N' b) (h:IsMkN K N H f S):IsMkN K N' H f S:=by
  rcases h with ⟨vt,vk,tl,tk,B,h1,h2,h3,h4,h5,h6,h7,h8⟩ | ⟨vk,p,tk,h1,h2,h3,h4,h5⟩ | ⟨vk,tk,h1,h2,h3,h4,h5⟩
  · exact .inl ⟨vt,vk,tl,tk,B,h1,h2,h3,h4,h5,h6,fun l hl=>g l (h7 l hl),fun l hl=>g l (h8 l hl)⟩
  · exact .inr (.inl ⟨vk,p,tk,h1,h2,h3,h4,fun l hl=>g l (h5 l hl)⟩)
  · exact .inr (.inr ⟨vk,tk,h1,h2,h3,h4,fun l hl=>g l (h5 l hl)⟩)
theorem IsNodeN.mono {K:PySem.W.Frag} {a:Ad} {N N':Addr→Prop} {H:Hp} {v:V} {S:Tl×List Int} (g:∀ b,N b→N' b) (h:IsNodeN K a N H v S):IsNodeN K a N' H v S:=by
  rcases h with h | ⟨h0,x,dx,l,p1,p2,f1,f2,h1,h2,h3,h4,h5,h6,h7,h8⟩
  · exact .inl h
  · exact .inr ⟨h0,x,dx,l,p1,p2,f1,f2,h1,h2,h3,h4,h5,h6.mono g,h7.mono g,g _ h8⟩
theorem IsDie.n {K:PySem.W.Frag} {a:Ad} {H:Hp} {D:Addr} {v:V} {m1 m2:Int} {S1 S2:Tl×List Int} (e:H D = none) (h:IsDie K a H v m1 m2 S1 S2):IsDieN K a (·≠D) H v m1 m2 S1 S2:=by
  obtain ⟨x,dx,l,p1,p2,f1,f2,h1,h2,h3,h4,h5,h6,h7⟩:=h
  exact ⟨x,dx,l,p1,p2,f1,f2,h1,h2,h3,h4,h5,h6.n e,h7.n e,fun z=>by rw [z,e] at h3; cases h3⟩
theorem IsDieN.t {K:PySem.W.Frag} {a:Ad} {N:Addr→Prop} {H H':Hp} {v:V} {m1 m2:Int} {S1 S2:Tl×List Int} (s:SameT H H') (h:IsDieN K a N H v m1 m2 S1 S2):IsDieN K a N H' v m1 m2 S1 S2:=by
  obtain ⟨x,dx,l,p1,p2,f1,f2,h1,h2,h3,h4,h5,h6,h7,h8⟩:=h
  exact ⟨x,dx,l,p1,p2,f1,f2,h1,s.at h2,s.at h3,s.at h4,s.at h5,h6.t s,h7.t s,h8⟩
theorem IsDieN.w {K:PySem.W.Frag} {a:Ad} {N:Addr→Prop} {H:Hp} {v:V} {m1 m2:Int} {S1 S2:Tl×List Int} (h:IsDieN K a N H v m1 m2 S1 S2):IsDie K a H v m1 m2 S1 S2:=by
  obtain ⟨x,dx,l,p1,p2,f1,f2,h1,h2,h3,h4,h5,h6,h7,h8⟩:=h
  exact ⟨x,dx,l,p1,p2,f1,f2,h1,h2,h3,h4,h5,h6.w,h7.w⟩
def vX (K:PySem.W.Frag) (a:Ad):List V→Sp:=fun vals vs H Q _=>∃ vt vk tl tk B N,vals = [vt,vk]∧vs = []∧TlAt K H vt tl∧LstI H vk tk∧BB B∧WfS B tl tk∧TabsOk (tabs a) H∧Nok H N∧nA N vt∧nA N vk∧∀ H' u,SameT H H'→TabsOk (tabs a) H'→IsNodeN K a N H' u (eg tl tk)→Q u H'
def wv (K:PySem.W.Frag) (a:Ad):Sp:=fun vs H Q _=>∃ v m1 m2 S1 S2 N,vs = [v]∧IsDieN K a N H v m1 m2 S1 S2∧Nok H N∧TabsOk (tabs a) H ∧
  ∀ H' r q1 q2 n1 n2,SameT H H'→TabsOk (tabs a) H'→H r = none→H' r = some (.lst [.ref q1,.ref q2])→H' q1 = some (.tup [.int m1,n1])→H' q2 = some (.tup [.int m2,n2])→IsNodeN K a N H' n1 S1→IsNodeN K a N H' n2 S2→Q (.ref r) H'
section
variable {P:Program} {w:World} {K:PySem.W.Frag} {mg:Str→Option Value} {base:Heap} {a:Ad}
theorem xF (T:Txt K mg a) (hB:Bm mg base):ee P w K mg base 6 ld_settled_make_1 fvS [] (vX K a):=by
  have G_settled:FnOk P w K mg base CX0 5 _ _ _ (lZ K a):=hX T hB
  refine jT lsS (fun pm ctv clos c us hl=>match us,hl with | [],_=>rfl) (fun vals vs H Q E h=>?_) (fun A outer s H f c clos vals vs Q E hr hfv ca h=>?_)
  · obtain ⟨vt,vk,tl,tk,B,N,rfl,rfl,_⟩:=h; rfl
  · obtain ⟨vt,vk,tl,tk,B,N,rfl,rfl,ht,hk,hBB,hwf,hT,hN,n1,n2,q⟩:=h
    refine ⟨_,(ao G_settled hr rfl T.m_settled T.F_settled.kp T.B_settled .nil ap (aa (vr 0) (aa (vr 1) ae))),?_⟩
    have m:∀ b o,sqO o = true→H b = some o→untrs H (clos.map (·.2)) b = some o:=fun b o n e=>bM ca e fun v z=>by rw [z] at n; cases n
    refine ⟨vt,vk,tl,tk,B,N,rfl,ht.m m,hk.m m,hBB,hwf,TabsOk.untrs hT ca,(fun b hb=>hN b fun ys z=>?_),n1,n2,fun H' v t' hT3 few=>fun H3 s3 hc=>?_⟩
    · rw [m b _ rfl z] at hb; cases hb
    exact q _ _ (back t' s3 hc) (hT3.same s3) (few.t s3.t)
theorem xW (T:Txt K mg a) (hB:Bm mg base):ee P w K mg base 6 ld_last_die_1 fvA [] (v7 K a):=by
  have G_Told:FnOk P w K mg base CX0 4 _ _ _ (gT a):=(kh T).mono (by decide)
  refine jT lsA (fun pm ctv clos c us hl=>match us,hl with | [],_=>rfl) (fun vals vs H Q E h=>?_) (fun A outer s H f c clos vals vs Q E hr hfv ca h=>?_)
  · obtain ⟨vk,p,tk,rfl,rfl,_⟩:=h; rfl
  · obtain ⟨vk,p,tk,rfl,rfl,⟨lk,rfl,hlk⟩,hlen,hT,q⟩:=h
    have small:sizeLine = 16777216:=sizeLine_eq
    refine ⟨_,(fY T.mk_Told G_Told hr rfl T.mc_Told T.Bi_Told .nil ap (aa (aw ij (vr 0) (bO (aa (vr 1) ae))) ae)),?_⟩
    have hlk':=bM ca hlk fun v z=>nomatch z
    have hT':=TabsOk.untrs hT ca
    refine ⟨by show 1≤sizeLine; decide,fun l1 f1=>?_⟩
    have s1:=Same.new (o:=.lst [.int p]) f1
    refine ⟨lk,l1,_,_,rfl,rfl,s1 _ _ hlk',ad,by rw [List.length_map]; show _ + 1≤sizeLine; omega,fun l2 f2=>?_⟩
    have s2:=s1.trans (Same.new (o:=.lst (tk.map V.int ++ [.int p])) f2)
    have h2:(upd (upd (untrs H (clos.map (·.2))) l1 (.lst [.int p])) l2 (.lst (tk.map V.int ++ [.int p]))) l2 = some (.lst ((tk ++ [p]).map V.int)):=by rw [List.map_append]; exact ad
    generalize upd (upd (untrs H (clos.map (·.2))) l1 (.lst [.int p])) l2 (.lst (tk.map V.int ++ [.int p])) = H2 at s2 h2
    intro x dx hx hdx hne
    have s0:Same H2 (upd (upd H2 dx (.own x)) x (.ins a.c_Told dx [])):=fun b o e=>by rw [ai (aq e hx),ai (aq e hdx)]; exact e
    refine ⟨x,dx,l2,tk ++ [p],rfl,ad,s0 _ _ h2,by rw [List.length_append]; show _ + 1 < 64; omega,fun H' t ns' k g1 g2 g3=>⟨rfl,fun H3 s3 hc=>?_⟩⟩
    have sm:=s2.trans (made hx hdx k)
    exact q _ _ (back sm.t s3 hc) ((hT'.same sm).same s3) (.inl ⟨rfl,x,dx,t,ns',rfl,s3 _ _ g1,s3 _ _ g2,g3⟩)
theorem wN (T:Txt K mg a) (hB:Bm mg base):ee P w K mg base 6 ld_last_die_2 fvB [] (wn K a):=by
  have G_Told:FnOk P w K mg base CX0 4 _ _ _ (gT a):=(kh T).mono (by decide)
  refine jT lsB (fun pm ctv clos c us hl=>match us,hl with | [],_=>rfl) (fun vals vs H Q E h=>?_) (fun A outer s H f c clos vals vs Q E hr hfv ca h=>?_)
  · obtain ⟨vk,tk,rfl,rfl,_⟩:=h; rfl
  · obtain ⟨vk,tk,rfl,rfl,⟨lk,rfl,hlk⟩,hlen,hT,q⟩:=h
    refine ⟨_,(fY T.mk_Told G_Told hr rfl T.mc_Told T.Bi_Told .nil ap (aa (vr 0) ae)),?_⟩
    have hlk':=bM ca hlk fun v z=>nomatch z
    have hT':=TabsOk.untrs hT ca
    generalize hH2:untrs H (clos.map (·.2)) = H2 at hlk' hT'
    intro x dx hx hdx hne
    have s0:Same H2 (upd (upd H2 dx (.own x)) x (.ins a.c_Told dx [])):=fun b o e=>by rw [ai (aq e hx),ai (aq e hdx)]; exact e
    refine ⟨x,dx,lk,tk,rfl,ad,s0 _ _ hlk',by omega,fun H' t ns' k g1 g2 g3=>⟨rfl,fun H3 s3 hc=>?_⟩⟩
    have sm:=made hx hdx k
    rw [← hH2] at sm
    exact q _ _ (back sm.t s3 hc) ((hT'.same (hH2 ▸ sm)).same s3) (.inl ⟨rfl,x,dx,t,ns',rfl,s3 _ _ g1,s3 _ _ g2,g3⟩)
theorem uM (T:Txt K mg a):FnOk P w K mg base CX0 1 a.x_Told_is_told a.y_Told_is_told ["self"] (spV (.bl true)):=by
  refine T.F_Told_is_told.ok gD (fun vs H Q E h=>?_) (fun cdv A outer s H vs Q E hr h=>?_)
  · obtain ⟨v,rfl,_⟩:=h; rfl
  · obtain ⟨v,rfl,q⟩:=h
    exact ⟨_,(ak (ax d9)),q⟩
theorem xG (T:Txt K mg a):FnOk P w K mg base CX0 1 a.x_Told_sides a.y_Told_sides ["self"] (spV (.int 0)):=by
  refine T.F_Told_sides.ok iK (fun vs H Q E h=>?_) (fun cdv A outer s H vs Q E hr h=>?_)
  · obtain ⟨v,rfl,_⟩:=h; rfl
  · obtain ⟨v,rfl,q⟩:=h
    exact ⟨_,(ak (ax aj)),q⟩
theorem wD (T:Txt K mg a):FnOk P w K mg base CX0 1 a.x_Told_kept a.y_Told_kept ["self"] (xL a):=by
  refine T.F_Told_kept.ok jL (fun vs H Q E h=>?_) (fun cdv A outer s H vs Q E hr h=>?_)
  · obtain ⟨x,dx,t,rfl,_⟩:=h; rfl
  · obtain ⟨x,dx,t,rfl,hx,q⟩:=h
    exact ⟨_,(ak (ax (lJ (vr 0) rfl))),x,_,dx,_,_,rfl,hx,T.cl_Told,T.na_Told_rising,rfl,q⟩
theorem va (T:Txt K mg a):FnOk P w K mg base CX0 1 a.x_Told_parts a.y_Told_parts ["self"] vW:=by
  refine T.F_Told_parts.ok iM (fun vs H Q E h=>?_) (fun cdv A outer s H vs Q E hr h=>?_)
  · obtain ⟨v,rfl,_⟩:=h; rfl
  · obtain ⟨v,rfl,q⟩:=h
    exact ⟨_,(ak (ax (bO ae))),Nat.zero_le _,q⟩
theorem uJ (T:Txt K mg a):FnOk P w K mg base CX0 1 a.x_Die_is_told a.y_Die_is_told ["self"] (spV (.bl false)):=by
  refine T.F_Die_is_told.ok iD (fun vs H Q E h=>?_) (fun cdv A outer s H vs Q E hr h=>?_)
  · obtain ⟨v,rfl,_⟩:=h; rfl
  · obtain ⟨v,rfl,q⟩:=h
    exact ⟨_,(ak (ax d9)),q⟩
theorem yg (T:Txt K mg a):FnOk P w K mg base CX0 1 a.x_Die_kept a.y_Die_kept ["self"] (spV .non):=by
  refine T.F_Die_kept.ok ly (fun vs H Q E h=>?_) (fun cdv A outer s H vs Q E hr h=>?_)
  · obtain ⟨v,rfl,_⟩:=h; rfl
  · obtain ⟨v,rfl,q⟩:=h
    exact ⟨_,(ak (ax vq)),q⟩
theorem ye (T:Txt K mg a):FnOk P w K mg base CX0 1 a.x_Die_sides a.y_Die_sides ["self"] (xA K a):=by
  refine T.F_Die_sides.ok ko (fun vs H Q E h=>?_) (fun cdv A outer s H vs Q E hr h=>?_)
  · obtain ⟨v,m1,m2,S1,S2,rfl,_⟩:=h; rfl
  · obtain ⟨v,m1,m2,S1,S2,rfl,⟨x,dx,l,p1,p2,f1,f2,rfl,hx,hl,h1,h2,_⟩,q⟩:=h
    have small:sizeLine = 16777216:=sizeLine_eq
    refine ⟨_,(ak (ax (aC (pv rfl) rfl T.z_sum wy (aa (cC rfl (N:=["many", "make"]) (ix:=[none,none]) ⟨rfl,rfl,rfl,rfl,trivial⟩ (bG (lJ (vr 0) rfl)) ⟨fun C s H fp=>(dj (K:=K) (n:=2) rfl rfl (au (ar (i:=0) (show List.Nodup (["many", "make"]:List Str) by decide +kernel) rfl (Or.inl rfl)) (au (ar (i:=1) (show List.Nodup (["many", "make"]:List Str) by decide +kernel) rfl (Or.inl rfl)) bj))),fun C s H fp=>cA,fun C s H fp=>(vr 0)⟩) ae)))),?_⟩
    refine ⟨x,_,dx,_,_,rfl,hx,T.cl_Die,T.na_Die_makes,rfl,.inl ⟨⟨_,SqL.of hl⟩,fun D hD=>?_⟩⟩
    refine bB (K:=K) (a:=l) (xs:=[.ref p1,.ref p2]) (fun i ys H'=>Same H H'∧H' D = some (.lst ys)∧ys = ([.int m1,.int m2]:List V).take i) ⟨Same.new hD,ad,rfl⟩ (fun i ys H' h=>SqL.of (h.1 _ _ hl)) (fun i ys H' h=>h.2.1) ?_ ?_
    · rintro i y ys H' P' hy ⟨s1,hD1,rfl⟩ hP
      match i,hy with
      | 0,hy =>
        cases hy
        refine ⟨p1,_,rfl,SqT.of (s1 _ _ h1),rfl,_,_,rfl,_,_,rfl,rfl,trivial,hD1,(show 0 < sizeLine by decide),hP _ _ ⟨s1.put hD,ad,rfl⟩⟩
      | 1,hy =>
        cases hy
        refine ⟨p2,_,rfl,SqT.of (s1 _ _ h2),rfl,_,_,rfl,_,_,rfl,rfl,trivial,hD1,(show 1 < sizeLine by decide),hP _ _ ⟨s1.put hD,ad,rfl⟩⟩
    · rintro ys H' ⟨s1,hD1,rfl⟩
      refine ⟨D,[m1,m2],rfl,SqL.of hD1,?_⟩
      have e:([m1,m2]:List Int).sum = m1 + m2:=by simp only [List.sum_cons,List.sum_nil]; omega
      rw [e]
      exact q _ s1
theorem m6 {H:Hp} {f:V} {S:Tl×List Int} {N:Addr→Prop} {Q:VK} (hm:IsMkN K N H f S) (hN:Nok H N) (hT:TabsOk (tabs a) H) (q:∀ H' u,SameT H H'→TabsOk (tabs a) H'→IsNodeN K a N H' u S→Q u H') :
    (∃ f' c clos vals,f = .ref f'∧H f' = some (.ext (fc f' ld_settled_make_1 clos c))∧H c = some (.ext (dz c ld_settled_make_1.qual))∧clos.map (·.1) = fvS∧(clos.map (·.2)).Nodup∧CellsAt H clos vals∧vX K a vals [] H Q E0) ∨
    (∃ f' c clos vals,f = .ref f'∧H f' = some (.ext (fc f' ld_last_die_1 clos c))∧H c = some (.ext (dz c ld_last_die_1.qual))∧clos.map (·.1) = fvA∧(clos.map (·.2)).Nodup∧CellsAt H clos vals∧v7 K a vals [] H Q E0) ∨
    (∃ f' c clos vals,f = .ref f'∧H f' = some (.ext (fc f' ld_last_die_2 clos c))∧H c = some (.ext (dz c ld_last_die_2.qual))∧clos.map (·.1) = fvB∧(clos.map (·.2)).Nodup∧CellsAt H clos vals∧wn K a vals [] H Q E0):=by
  have told:∀ {H':Hp} {u:V} {tk:List Int},IsNode K a H' u ([],tk)→IsNodeN K a N H' u ([],tk):=fun h=>h.elim (fun z=>.inl z) fun z=>absurd rfl z.1
  rcases hm with ⟨vt,vk,tl,tk,B,⟨f',c,clos,rfl,e1,e2,e3,e4,e5⟩,h2,h3,h4,h5,rfl,h7,h8⟩ | ⟨vk,p,tk,⟨f',c,clos,rfl,e1,e2,e3,e4,e5⟩,h2,h3,rfl,_⟩ | ⟨vk,tk,⟨f',c,clos,rfl,e1,e2,e3,e4,e5⟩,h2,h3,rfl,_⟩
  · exact .inl ⟨f',c,clos,_,rfl,e1,e2,e3,e4,e5,vt,vk,tl,tk,B,N,rfl,rfl,h2,h3,h4,h5,hT,hN,h7,h8,q⟩
  · exact .inr (.inl ⟨f',c,clos,_,rfl,e1,e2,e3,e4,e5,vk,p,tk,rfl,rfl,h2,h3,hT,fun H' u s t n=>q H' u s t (told n)⟩)
  · exact .inr (.inr ⟨f',c,clos,_,rfl,e1,e2,e3,e4,e5,vk,tk,rfl,rfl,h2,h3,hT,fun H' u s t n=>q H' u s t (told n)⟩)
theorem uZ (T:Txt K mg a) (hB:Bm mg base):FnOk P w K mg base CX0 7 a.x_Die_parts a.y_Die_parts ["self"] (wv K a):=by
  have L_set:ee P w K mg base 6 ld_settled_make_1 fvS [] (vX K a):=xF T hB
  have L_la:ee P w K mg base 6 ld_last_die_1 fvA [] (v7 K a):=xW T hB
  have L_lb:ee P w K mg base 6 ld_last_die_2 fvB [] (wn K a):=wN T hB
  refine T.F_Die_parts.ok jK (fun vs H Q E h=>?_) (fun cdv A outer s H vs Q E hr h=>?_)
  · obtain ⟨v,m1,m2,S1,S2,N,rfl,_⟩:=h; rfl
  · obtain ⟨v,m1,m2,S1,S2,N,rfl,⟨x,dx,l,p1,p2,f1,f2,rfl,hx,hl,h1,h2,mk1,mk2,nl⟩,hN,hT,q⟩:=h
    refine ⟨_,(ak (ax (cC rfl (N:=["many", "make"]) (ix:=[none,none]) ⟨rfl,rfl,rfl,rfl,trivial⟩ (bG (lJ (vr 0) rfl)) ⟨fun C s H fp=>(dj (K:=K) (n:=2) rfl rfl (au (ar (i:=0) (show List.Nodup (["many", "make"]:List Str) by decide +kernel) rfl (Or.inl rfl)) (au (ar (i:=1) (show List.Nodup (["many", "make"]:List Str) by decide +kernel) rfl (Or.inl rfl)) bj))),fun C s H fp=>cA,fun C s H fp=>(aS (aa (vr 0) (aa (PE.or (gm (vr 1) L_set hr) (PE.or (gm (vr 1) L_la hr) (gm (vr 1) L_lb hr))) ae)))⟩))),?_⟩
    refine ⟨x,_,dx,_,_,rfl,hx,T.cl_Die,T.na_Die_makes,rfl,.inl ⟨⟨_,SqL.of hl⟩,fun D hD=>?_⟩⟩
    have hND:∀ {H':Hp},SameT H H'→∀ {ys:List V},H' D = some (.lst ys)→Nok H' (fun b=>N b∧b≠D):=fun s ys e b hb=>⟨hN b fun zs z=>hb zs (s.at z),fun z=>hb ys (by rw [z]; exact e)⟩
    have mk1:=mk1.cut hD
    have mk2:=mk2.cut hD
    have nD:∀ b,N b∧b≠D→b≠D:=fun b h=>h.2
    have hTD:TabsOk (tabs a) (upd H D (.lst [])):=hT.same (Same.new hD)
    have ext:∀ {H':Hp},TabsOk (tabs a) H'→∀ {ys:List V} {ys':List V},H' D = some (.lst ys)→TabsOk (tabs a) (upd H' D (.lst ys')):=fun hT' ys ys' e=>hT'.put (fun ps z=>by rw [e] at z; cases z) fun φ z=>by rw [e] at z; cases z
    refine bB (K:=K) (a:=l) (xs:=[.ref p1,.ref p2]) (fun i ys H'=>SameT H H'∧TabsOk (tabs a) H'∧H' D = some (.lst ys)∧((i = 0∧ys = [])∨(i = 1∧∃ q1 n1,ys = [.ref q1]∧H' q1 = some (.tup [.int m1,n1])∧IsNodeN K a (fun b=>N b∧b≠D) H' n1 S1)∨(i = 2∧∃ q1 q2 n1 n2,ys = [.ref q1,.ref q2]∧H' q1 = some (.tup [.int m1,n1])∧H' q2 = some (.tup [.int m2,n2])∧IsNodeN K a (fun b=>N b∧b≠D) H' n1 S1∧IsNodeN K a (fun b=>N b∧b≠D) H' n2 S2)))
      ⟨(Same.new hD).t,hTD,ad,.inl ⟨rfl,rfl⟩⟩ (fun i ys H' h=>SqL.of (h.1.at hl)) (fun i ys H' h=>h.2.2.1) ?_ ?_
    · rintro i y ys H' P' hy ⟨t1,hT1,hD1,hc⟩ hP
      match i,hy with
      | 0,hy =>
        cases hy
        have ey:ys = []:=by
          rcases hc with ⟨_,e⟩ | ⟨z,_⟩ | ⟨z,_⟩
          · exact e
          · cases z
          · cases z
        subst ey
        refine ⟨p1,_,rfl,SqT.of (t1.at h1),rfl,_,_,rfl,_,_,rfl,rfl,trivial,?_⟩
        refine m6 (mk1.t t1) (hND t1 hD1) hT1 fun H2 v2 t2 hT2 few=>?_
        refine ⟨(show 2≤sizeLine by decide),fun q1 hq1=>?_⟩
        have s3:=Same.new (o:=.tup [.int m1,v2]) hq1
        have hD3:=s3 _ _ (t2.at hD1)
        have n1:q1≠D:=fun z=>by rw [z,t2.at hD1] at hq1; cases hq1
        refine ⟨hD3,(show 0 < sizeLine by decide),hP _ _ ⟨((t1.trans t2).trans s3.t).put hD,ext (hT2.same s3) hD3,ad,.inr (.inl ⟨rfl,q1,v2,rfl,?_,(few.t s3.t).put hD3 nD⟩)⟩⟩
        rw [ai n1]
        exact ad
      | 1,hy =>
        cases hy
        have ey:∃ q1 n1,ys = [.ref q1]∧H' q1 = some (.tup [.int m1,n1])∧IsNodeN K a (fun b=>N b∧b≠D) H' n1 S1:=by
          rcases hc with ⟨z,_⟩ | ⟨_,e⟩ | ⟨z,_⟩
          · cases z
          · exact e
          · cases z
        obtain ⟨q1,n1,rfl,hq1,nd1⟩:=ey
        refine ⟨p2,_,rfl,SqT.of (t1.at h2),rfl,_,_,rfl,_,_,rfl,rfl,trivial,?_⟩
        refine m6 (mk2.t t1) (hND t1 hD1) hT1 fun H2 v2 t2 hT2 few=>?_
        refine ⟨(show 2≤sizeLine by decide),fun q2 hq2=>?_⟩
        have s3:=Same.new (o:=.tup [.int m2,v2]) hq2
        have hD3:=s3 _ _ (t2.at hD1)
        have nq:q2≠D:=fun z=>by rw [z,t2.at hD1] at hq2; cases hq2
        have nq1:q1≠D:=fun z=>by rw [z,hD1] at hq1; cases hq1
        refine ⟨hD3,(show 1 < sizeLine by decide),hP _ _ ⟨((t1.trans t2).trans s3.t).put hD,ext (hT2.same s3) hD3,ad,.inr (.inr ⟨rfl,q1,q2,n1,v2,rfl,?_,?_,(nd1.t (t2.trans s3.t)).put hD3 nD,(few.t s3.t).put hD3 nD⟩)⟩⟩
        · rw [ai nq1]; exact s3 _ _ (t2.at hq1)
        · rw [ai nq]; exact ad
    · rintro ys H' ⟨t1,hT1,hD1,hc⟩
      rcases hc with ⟨z,_⟩ | ⟨z,_⟩ | ⟨_,q1,q2,n1,n2,rfl,g1,g2,g3,g4⟩
      · cases z
      · cases z
      · exact q _ D q1 q2 n1 n2 t1 hT1 hD hD1 g1 g2 (g3.mono fun b h=>h.1) (g4.mono fun b h=>h.1)
end
end My
namespace My
open PySem L2 FrM
def tl0 (sh:List (Int×Int)) (ord:List Nat):Tl:=ord.map fun (o:Nat)=>((o:Int),sh.getD o (0,1))
def oe (K:PySem.W.Frag) (a:Ad):Sp:=fun vs H Q _=>∃ (ls lo:Addr) (xs:List V) (sh:List (Int×Int)) (ord:List Nat) (B:Int) (N:Addr→Prop),vs = [.ref ls,.ref lo]∧H ls = some (.lst xs)∧AllF K H sh xs∧H lo = some (.lst (ord.map fun (o:Nat)=>V.int (o:Int)))∧(∀ o ∈ ord,o < sh.length)∧ord.length≤24∧BB B∧(∀ f ∈ sh,Fr B f)∧TabsOk (tabs a) H∧(∀ b,H b = none→N b) ∧
  ∀ H' u,SameT H H'→TabsOk (tabs a) H'→IsNodeN K a N H' u (eg (tl0 sh ord) [])→Q u H'
section
variable {P:Program} {w:World} {K:PySem.W.Frag} {mg:Str→Option Value} {base:Heap} {a:Ad}
theorem rE (T:Txt K mg a) (hB:Bm mg base):FnOk P w K mg base CX0 6 a.f_duels a.d_duels ["shares", "order"] (oe K a):=by
  have G_settled:FnOk P w K mg base CX0 5 _ _ _ (lZ K a):=hX T hB
  refine T.F_duels.ok rB (fun vs H Q E h=>?_) (fun cdv A outer s H vs Q E hr h=>?_)
  · obtain ⟨ls,lo,xs,sh,ord,B,N,rfl,_⟩:=h; rfl
  · obtain ⟨ls,lo,xs,sh,ord,B,N,rfl,hls,hF,hlo,hord,hlen,hBB,hfr,hT,hN,q⟩:=h
    have small:sizeLine = 16777216:=sizeLine_eq
    refine ⟨_,(ak (ax (ao G_settled hr rfl T.m_settled T.F_settled.kp T.B_settled .nil ap (aa (cC rfl (N:=["place", "shares"]) (ix:=[none,some 0]) ⟨rfl,rfl,rfl,rfl,⟨rfl,rfl,rfl,trivial⟩⟩ (bG (vr 1)) ⟨fun C s H fp=>ar (i:=0) (show List.Nodup (["place", "shares"]:List Str) by decide +kernel) rfl (Or.inl rfl),fun C s H fp=>cA,fun C s H fp=>(aS (aa (vr 0) (aa (az (dQ (K:=K) rfl) (vr 1) (vr 0) (fun _ _=>rfl)) ae)))⟩) (aa (bO ae) ae))))),?_⟩
    refine .inl ⟨⟨_,SqL.of hlo⟩,fun D hD=>?_⟩
    refine bB (K:=K) (a:=lo) (xs:=ord.map fun (o:Nat)=>V.int (o:Int)) (fun i zs H'=>Same H H'∧H' D = some (.lst zs)∧i≤ord.length∧Paired (PrAt K H') ((tl0 sh ord).take i) zs) ⟨Same.new hD,ad,Nat.zero_le _,.nil⟩ (fun i ys H' h=>SqL.of (h.1 _ _ hlo)) (fun i ys H' h=>h.2.1) ?_ ?_
    · rintro i y zs H' P' hy ⟨s1,hD1,hi,hzs⟩ hP'
      rw [List.getElem?_map] at hy
      cases hoi:ord[i]? with
      | none=>rw [hoi] at hy; cases hy
      | some o =>
        rw [hoi] at hy
        cases hy
        have ho:=hord o (List.mem_of_getElem? hoi)
        have ilt:i < ord.length:=(List.getElem?_eq_some_iff.mp hoi).1
        have hox:o < xs.length:=by rw [← hF.len]; exact ho
        have ex:xs[o]? = some xs[o]:=List.getElem?_eq_getElem hox
        obtain ⟨f,hf,isf⟩:=hF.get ex
        have ef:sh.getD o (0,1) = f:=by rw [List.getD,hf]; rfl
        refine ⟨⟨rfl,trivial⟩,.inl ⟨ls,_,_,_,rfl,rfl,SqL.of (s1 _ _ hls),dH o rfl ex,?_⟩⟩
        refine ⟨bC _ _,fun q3 f3=>?_⟩
        have s3:=Same.new (o:=.tup [.int (o:Int),xs[o]]) f3
        have hD4:=s3 _ _ hD1
        have n3:q3≠D:=fun z=>by rw [z,hD1] at f3; cases f3
        have zl:zs.length≤24:=by rw [← hzs.length,List.length_take]; omega
        refine ⟨hD4,by omega,hP' _ _ ⟨(s1.trans s3).put hD,ad,ilt,gu (ay (fun x v h=>((h.t s3.t).cut hD4).t mz) hzs) (x:=((o:Int),f)) (by unfold tl0; rw [List.getElem?_map,hoi]; show some ((o:Int),sh.getD o (0,1)) = _; rw [ef]) ⟨q3,_,rfl,by rw [ai n3]; exact ad,?_⟩⟩⟩
        obtain ⟨pf,z1,z2⟩:=(isf.same (s1.trans s3))
        refine ⟨pf,z1,z2.imp (fun z=>?_) id⟩
        have npf:pf≠D:=fun w=>by rw [w,hD4] at z; cases z
        rw [ai npf]
        exact z
    · rintro zs H' ⟨s1,hD1,_,hzs⟩
      rw [List.length_map,show ord.length = (tl0 sh ord).length by unfold tl0; rw [List.length_map],List.take_length] at hzs
      refine ⟨Nat.zero_le _,fun e0 fe0=>?_⟩
      have s2:=Same.new (o:=.lst []) fe0
      have s12:=s1.trans s2
      refine ⟨.ref D,.ref e0,tl0 sh ord,[],B,N,rfl,⟨D,_,rfl,s2 _ _ hD1,ay (PrAt.t s2.t) hzs⟩,⟨e0,rfl,ad⟩,hBB,⟨fun x hx=>?_,by unfold tl0; rw [List.length_map]; exact hlen⟩,hT.same s12,(fun b hb=>hN b (s12.free hb)),(fun l hl=>by cases hl; exact hN _ hD),(fun l hl=>by cases hl; exact hN _ (s1.free fe0)),fun H3 u t hT3 nd=>q _ _ (s12.t.trans t) hT3 nd⟩
      obtain ⟨o,ho,rfl⟩:=List.mem_map.mp hx
      have:=hord o ho
      show Fr B (sh.getD o (0,1))
      rw [List.getD,List.getElem?_eq_getElem this]
      exact hfr _ (List.getElem_mem this)
end
end My
set_option maxHeartbeats 1000000
namespace Du
abbrev TQ:=List (Int×Rat)
def aN (tq:TQ) (tk:List Int):TQ×List Int:=(tq.filter (fun x=>bZ x.2),tk ++ (tq.filter fun x=>decide (x.2 = 1)).map (·.1))
def dU (b:Bool) (h c:Rat):Rat×Rat:=if h + c < 1 then (if b = true then (h + c,0) else (0,h + c)) else (if b = true then (1,h + c - 1) else (h + c - 1,1))
def nxQ (b:Bool):TQ→List Int→TQ×List Int
  | (p,h) :: (o,c) :: r,tk=>aN ((p,(dU b h c).1) :: (o,(dU b h c).2) :: r) tk
  | [(p,_)],tk=>([],if b = true then tk ++ [p] else tk)
  | [],tk=>([],tk)
def pr1:TQ→Rat
  | (_,h) :: (_,c) :: _=>if h + c < 1 then h / (h + c) else (1 - c) / (2 - (h + c))
  | [(_,h)]=>h
  | []=>1
def pr2:TQ→Rat
  | (_,h) :: (_,c) :: _=>if h + c < 1 then c / (h + c) else (1 - h) / (2 - (h + c))
  | [(_,h)]=>1 - h
  | []=>0
def UnsA (tq:TQ):Prop:=∀ x ∈ tq,Uns x.2
def upl (p:Int) (h:Rat) (r:TQ):TQ:=if h = 0 then r else (p,h) :: r
def EQ (φ:List Int→Rat):Nat→TQ→List Int→Rat
  | 0,_,tk=>φ tk
  | _ + 1,[],tk=>φ tk
  | n + 1,x :: r,tk=>pr1 (x :: r) * EQ φ n (nxQ true (x :: r) tk).1 (nxQ true (x :: r) tk).2 + pr2 (x :: r) * EQ φ n (nxQ false (x :: r) tk).1 (nxQ false (x :: r) tk).2
def wQ:Nat→TQ→List Int→Rat→List (List Int×Rat)
  | 0,_,tk,m=>[(tk,m)]
  | _ + 1,[],tk,m=>[(tk,m)]
  | n + 1,x :: r,tk,m=>wQ n (nxQ true (x :: r) tk).1 (nxQ true (x :: r) tk).2 (m * pr1 (x :: r)) ++ wQ n (nxQ false (x :: r) tk).1 (nxQ false (x :: r) tk).2 (m * pr2 (x :: r))
def SW (φ:List Int→Rat) (ws:List (List Int×Rat)):Rat:=(ws.map fun w=>w.2 * φ w.1).sum
theorem pU {φ:List Int→Rat} {a b:List (List Int×Rat)}:SW φ (a ++ b) = SW φ a + SW φ b:=by unfold SW; rw [List.map_append,List.sum_append]
theorem mD {φ:List Int→Rat} {w:List Int×Rat}:SW φ [w] = w.2 * φ w.1:=by unfold SW; simp only [List.map_cons,List.map_nil,List.sum_cons,List.sum_nil]; grind
theorem vb {φ:List Int→Rat}:∀ (n:Nat) (tq:TQ) (tk:List Int) (m:Rat),SW φ (wQ n tq tk m) = m * EQ φ n tq tk
  | 0,_,_,_=>by rw [wQ,mD,EQ]
  | _ + 1,[],_,_=>by rw [wQ,mD,EQ]
  | n + 1,x :: r,tk,m=>by rw [wQ,pU,vb n,vb n,EQ]; grind
theorem mn {r:TQ} (h:UnsA r):r.filter (fun x=>bZ x.2) = r:=List.filter_eq_self.mpr fun x hx=>unsQ_iff.mpr (h x hx)
theorem mF {r:TQ} (h:UnsA r):(r.filter fun x=>decide (x.2 = 1)) = []:=List.filter_eq_nil_iff.mpr fun x hx=>by
  have:=(h x hx).2
  simp
  grind
theorem UnsA.cons {x:Int×Rat} {r:TQ} (h:UnsA (x :: r)):Uns x.2∧UnsA r:=⟨h x (List.mem_cons_self ..),fun y hy=>h y (List.mem_cons_of_mem _ hy)⟩
theorem UnsA.mk {x:Int×Rat} {r:TQ} (h:Uns x.2) (h':UnsA r):UnsA (x :: r):=fun y hy=>by
  rcases List.mem_cons.mp hy with e | e
  · rw [e]; exact h
  · exact h' y e
theorem m7 {q:Rat} (h:¬ Uns q):bZ q = false:=by
  cases e:bZ q with
  | false=>rfl
  | true=>exact absurd (unsQ_iff.mp e) h
theorem UnsA.upl {p:Int} {h:Rat} {r:TQ} (h0:0≤h) (h1:h < 1) (u:UnsA r):UnsA (upl p h r):=by
  unfold Du.upl
  split
  · exact u
  · exact UnsA.mk ⟨by grind,h1⟩ u
theorem nK {p o:Int} {x y:Rat} {r:TQ} {tk:List Int} (u:UnsA r) (hx:0≤x) (hx1:x≤1) (hy:0≤y) (hy1:y≤1) (h:x = 0∨y = 0∨x = 1∨y = 1) :
    aN ((p,x) :: (o,y) :: r) tk = ((if x = 1 then [] else if x = 0 then [] else [(p,x)]) ++ ((if y = 1 then [] else if y = 0 then [] else [(o,y)]) ++ r),tk ++ ((if x = 1 then [p] else []) ++ (if y = 1 then [o] else []))):=by
  unfold aN
  have key:∀ (z:Rat),0≤z→z≤1→bZ z = decide (¬ z = 1∧¬ z = 0):=fun z a b=>by
    unfold bZ
    refine decide_eq_decide.mpr ⟨fun w=>⟨by grind,by grind⟩,fun w=>⟨by grind,by grind⟩⟩
  rw [List.filter_cons,List.filter_cons,List.filter_cons,List.filter_cons,mn u,mF u]
  rw [key x hx hx1,key y hy hy1]
  by_cases a:x = 1 <;> by_cases b:x = 0 <;> by_cases c:y = 1 <;> by_cases d:y = 0 <;> simp [a,b,c,d]
theorem vD {p o:Int} {h c:Rat} {r:TQ} {tk:List Int} (hh:Uns h) (hc:Uns c) (u:UnsA r):nxQ true ((p,h) :: (o,c) :: r) tk = if h + c < 1 then (upl p (h + c) r,tk) else (upl o (h + c - 1) r,tk ++ [p]):=by
  obtain ⟨a,b⟩:=hh
  obtain ⟨d,e⟩:=hc
  by_cases z:h + c < 1
  · show aN ((p,(dU true h c).1) :: (o,(dU true h c).2) :: r) tk = _
    rw [if_pos z]
    unfold dU
    rw [if_pos z,if_pos rfl]
    rw [nK u (by grind) (by grind) (by grind) (by grind) (.inr (.inl rfl))]
    rw [if_neg (show ¬ h + c = 1 by grind),if_neg (show ¬ h + c = 0 by grind),if_neg (show ¬ (0:Rat) = 1 by grind),if_pos rfl,if_neg (show ¬ h + c = 1 by grind),if_neg (show ¬ (0:Rat) = 1 by grind)]
    unfold upl
    rw [if_neg (show ¬ h + c = 0 by grind)]
    simp
  · show aN ((p,(dU true h c).1) :: (o,(dU true h c).2) :: r) tk = _
    rw [if_neg z]
    unfold dU
    rw [if_neg z,if_pos rfl]
    rw [nK u (by grind) (by grind) (by grind) (by grind) (.inr (.inr (.inl rfl)))]
    rw [if_pos rfl,if_neg (show ¬ h + c - 1 = 1 by grind),if_pos rfl,if_neg (show ¬ h + c - 1 = 1 by grind)]
    unfold upl
    by_cases w:h + c - 1 = 0
    · rw [if_pos w,if_pos w]; simp
    · rw [if_neg w,if_neg w]; simp
theorem ve {p o:Int} {h c:Rat} {r:TQ} {tk:List Int} (hh:Uns h) (hc:Uns c) (u:UnsA r):nxQ false ((p,h) :: (o,c) :: r) tk = if h + c < 1 then (upl o (h + c) r,tk) else (upl p (h + c - 1) r,tk ++ [o]):=by
  obtain ⟨a,b⟩:=hh
  obtain ⟨d,e⟩:=hc
  by_cases z:h + c < 1
  · show aN ((p,(dU false h c).1) :: (o,(dU false h c).2) :: r) tk = _
    rw [if_pos z]
    unfold dU
    rw [if_pos z,if_neg Bool.false_ne_true]
    rw [nK u (by grind) (by grind) (by grind) (by grind) (.inl rfl)]
    rw [if_neg (show ¬ (0:Rat) = 1 by grind),if_pos rfl,if_neg (show ¬ h + c = 1 by grind),if_neg (show ¬ h + c = 0 by grind),if_neg (show ¬ (0:Rat) = 1 by grind),if_neg (show ¬ h + c = 1 by grind)]
    unfold upl
    rw [if_neg (show ¬ h + c = 0 by grind)]
    simp
  · show aN ((p,(dU false h c).1) :: (o,(dU false h c).2) :: r) tk = _
    rw [if_neg z]
    unfold dU
    rw [if_neg z,if_neg Bool.false_ne_true]
    rw [nK u (by grind) (by grind) (by grind) (by grind) (.inr (.inr (.inr rfl)))]
    rw [if_neg (show ¬ h + c - 1 = 1 by grind),if_pos rfl,if_neg (show ¬ h + c - 1 = 1 by grind),if_pos rfl]
    unfold upl
    by_cases w:h + c - 1 = 0
    · rw [if_pos w,if_pos w]; simp
    · rw [if_neg w,if_neg w]; simp
theorem eW {p:Int} {h:Rat} {r:TQ}:(upl p h r).length≤r.length + 1:=by
  unfold upl
  split
  · omega
  · rw [List.length_cons]; omega
theorem eJ {φ:List Int→Rat} {n:Nat} {u k:Int} {h c:Rat} {R:TQ} {tk:List Int} (hh:Uns h) (hc:Uns c) (hR:UnsA R) :
    EQ φ (n + 1) ((u,h) :: (k,c) :: R) tk = if h + c < 1 then h / (h + c) * EQ φ n (upl u (h + c) R) tk + c / (h + c) * EQ φ n (upl k (h + c) R) tk
      else (1 - c) / (2 - (h + c)) * EQ φ n (upl k (h + c - 1) R) (tk ++ [u]) + (1 - h) / (2 - (h + c)) * EQ φ n (upl u (h + c - 1) R) (tk ++ [k]):=by
  rw [EQ,vD hh hc hR,ve hh hc hR]
  by_cases z:h + c < 1
  · simp only [if_pos z,pr1,pr2]
  · simp only [if_neg z,pr1,pr2]
theorem i6 {φ:List Int→Rat} {n:Nat} {tk:List Int}:EQ φ n [] tk = φ tk:=by cases n <;> rfl
theorem kd {φ:List Int→Rat} {n:Nat} {p:Int} {h:Rat} {tk:List Int}:EQ φ (n + 1) [(p,h)] tk = h * φ (tk ++ [p]) + (1 - h) * φ tk:=by
  rw [EQ]
  show h * EQ φ n [] (if true = true then tk ++ [p] else tk) + (1 - h) * EQ φ n [] (if false = true then tk ++ [p] else tk) = _
  rw [i6,i6,if_pos rfl,if_neg Bool.false_ne_true]
theorem gh {h c:Rat} (hh:Uns h) (hc:Uns c):(h + c < 1→h / (h + c) + c / (h + c) = 1)∧(¬ h + c < 1→(1 - c) / (2 - (h + c)) + (1 - h) / (2 - (h + c)) = 1):=by
  obtain ⟨a,b⟩:=hh
  obtain ⟨d,e⟩:=hc
  have p:h + c≠0:=by grind
  have q:2 - (h + c)≠0:=by grind
  exact ⟨fun _=>by grind,fun _=>by grind⟩
theorem gM {p:Int} {h:Rat} {r:TQ} {x:Int} (hx:x ∈ (upl p h r).map (·.1)):x = p∨x ∈ r.map (·.1):=by
  unfold upl at hx
  split at hx
  · exact .inr hx
  · rw [List.map_cons,List.mem_cons] at hx; exact hx
theorem fO {φ ψ:List Int→Rat}:∀ (n:Nat) (tq:TQ) (tk:List Int),UnsA tq→tq.length≤n→(∀ tk',(∀ x ∈ tk,x ∈ tk')→(∀ x ∈ tk',x ∈ tk∨x ∈ tq.map (·.1))→φ tk' = ψ tk')→EQ φ n tq tk = EQ ψ n tq tk
  | n,[],tk,_,_,hf=>by rw [i6,i6]; exact hf tk (fun _ h=>h) fun _ h=>.inl h
  | 0,_ :: _,_,_,hn,_=>by rw [List.length_cons] at hn; omega
  | n + 1,[(p,h)],tk,_,_,hf=>by
    rw [kd,kd,hf (tk ++ [p]) (fun x hx=>List.mem_append_left _ hx) (fun x hx=>by simpa using hx),hf tk (fun _ h=>h) fun _ h=>.inl h]
  | n + 1,(u,h) :: (k,c) :: R,tk,uu,hn,hf=>by
    obtain ⟨hh,u2⟩:=uu.cons
    obtain ⟨hc,hR⟩:=u2.cons
    have hh:=hh; have hc:=hc
    have a0:=hh.1; have a1:=hh.2; have b0:=hc.1; have b1:=hc.2
    simp only at a0 a1 b0 b1
    rw [eJ hh hc hR,eJ hh hc hR]
    have ln:∀ p q,(upl p q R).length≤n:=fun p q=>Nat.le_trans eW (by simp only [List.length_cons] at hn; omega)
    have go:∀ (p:Int) (q:Rat) (more:List Int),(p = u∨p = k)→(∀ x ∈ more,x = u∨x = k)→0≤q→q < 1→EQ φ n (upl p q R) (tk ++ more) = EQ ψ n (upl p q R) (tk ++ more):=fun p q more hp hm q0 q1 =>
      fO n (upl p q R) (tk ++ more) (UnsA.upl q0 q1 hR) (ln p q) fun tk' h1 h2=>hf tk' (fun x hx=>h1 x (List.mem_append_left _ hx)) fun x hx=>by
        simp only [List.map_cons,List.mem_cons]
        rcases h2 x hx with z | z
        · rcases List.mem_append.mp z with z | z
          · exact .inl z
          · exact .inr ((hm x z).elim .inl fun e=>.inr (.inl e))
        · rcases gM z with z | z
          · rw [z]; exact .inr (hp.elim .inl fun e=>.inr (.inl e))
          · exact .inr (.inr (.inr z))
    by_cases z:h + c < 1
    · rw [if_pos z,if_pos z]
      have e1:=go u (h + c) [] (.inl rfl) (fun x hx=>by cases hx) (by grind) z
      have e2:=go k (h + c) [] (.inr rfl) (fun x hx=>by cases hx) (by grind) z
      rw [List.append_nil] at e1 e2
      rw [e1,e2]
    · rw [if_neg z,if_neg z,go k (h + c - 1) [u] (.inr rfl) (fun x hx=>.inl (List.mem_singleton.mp hx)) (by grind) (by grind),go u (h + c - 1) [k] (.inl rfl) (fun x hx=>.inr (List.mem_singleton.mp hx)) (by grind) (by grind)]
theorem kf:∀ (n:Nat) (tq:TQ) (tk:List Int),EQ (fun _=>0) n tq tk = 0
  | 0,_,_=>rfl
  | _ + 1,[],_=>rfl
  | n + 1,x :: r,tk=>by rw [EQ,kf n,kf n]; grind
def ind (p:Prop) [Decidable p]:Rat:=if p then 1 else 0
def gI (i:Int):List Int→Rat:=fun tk=>ind (i ∈ tk)
def b7 (i j:Int):List Int→Rat:=fun tk=>ind (i ∈ tk∧j ∈ tk)
def vs (i:Int) (r:TQ):Rat:=(r.map fun x=>x.2 * ind (x.1 = i)).sum
theorem dR {i:Int} {x:Int×Rat} {r:TQ}:vs i (x :: r) = x.2 * ind (x.1 = i) + vs i r:=by unfold vs; rw [List.map_cons,List.sum_cons]
theorem fq {i p:Int} {h:Rat} {r:TQ}:vs i (upl p h r) = h * ind (p = i) + vs i r:=by
  unfold upl
  split
  · rename_i e; rw [e]; grind
  · rw [dR]
theorem bP {p:Prop} [Decidable p] (h:p):ind p = 1:=if_pos h
theorem aI {p:Prop} [Decidable p] (h:¬ p):ind p = 0:=if_neg h
theorem dZ {i u:Int} {tk:List Int} (h:u ∉ tk):ind (i ∈ tk ++ [u]) = ind (i ∈ tk) + ind (u = i):=by
  by_cases e:u = i
  · subst e
    rw [bP (by simp),aI h,bP rfl]; grind
  · rw [aI e]
    by_cases z:i ∈ tk
    · rw [bP (List.mem_append_left _ z),bP z]; grind
    · rw [aI (by simp [z]; exact fun w=>e w.symm),aI z]; grind
theorem oB (i:Int):∀ (n:Nat) (tq:TQ) (tk:List Int),UnsA tq→tq.length≤n→(tk ++ tq.map (·.1)).Nodup→EQ (gI i) n tq tk = ind (i ∈ tk) + vs i tq
  | n,[],tk,_,_,_=>by rw [i6]; show gI i tk = ind (i ∈ tk) + 0; unfold gI; grind
  | 0,_ :: _,_,_,hn,_=>by rw [List.length_cons] at hn; omega
  | n + 1,[(p,h)],tk,_,_,nd=>by
    have np:p ∉ tk:=fun z=>by
      have:=List.nodup_append.mp nd
      exact this.2.2 p z p (by simp) rfl
    rw [kd,dR]
    show h * gI i (tk ++ [p]) + (1 - h) * gI i tk = _ + (h * ind (p = i) + 0)
    unfold gI
    rw [dZ np]
    grind
  | n + 1,(u,h) :: (k,c) :: R,tk,uu,hn,nd=>by
    obtain ⟨hh,u2⟩:=uu.cons
    obtain ⟨hc,hR⟩:=u2.cons
    have a0:=hh.1; have a1:=hh.2; have b0:=hc.1; have b1:=hc.2
    simp only at a0 a1 b0 b1
    have ln:∀ p q,(upl p q R).length≤n:=fun p q=>Nat.le_trans eW (by simp only [List.length_cons] at hn; omega)
    have nd':=nd
    simp only [List.map_cons] at nd
    have nuk:(tk ++ [u] ++ [k] ++ R.map (·.1)).Nodup:=by simpa using nd
    have sub:∀ (p:Int) (q:Rat) (more:List Int),(more = []∧(p = u∨p = k)∨more = [u]∧p = k∨more = [k]∧p = u)→(tk ++ more ++ (upl p q R).map (·.1)).Nodup:=fun p q more hm=>by
      have:(tk ++ more ++ (p :: R.map (·.1))).Nodup:=by
        rcases hm with ⟨rfl,rfl | rfl⟩ | ⟨rfl,rfl⟩ | ⟨rfl,rfl⟩
        · refine List.Nodup.sublist ?_ nuk
          simp
        · refine List.Nodup.sublist ?_ nuk
          simp
        · simpa using nuk
        · refine (List.Perm.nodup_iff ?_).mp nuk
          simp only [List.append_assoc,List.singleton_append]
          exact List.Perm.append_left _ (List.Perm.swap ..)
      unfold upl
      split
      · exact List.Nodup.sublist (by simp) this
      · exact this
    have nu:u ∉ tk:=fun z=>by
      have:=List.nodup_append.mp nd
      exact this.2.2 u z u (by simp) rfl
    have nk:k ∉ tk:=fun z=>by
      have:=List.nodup_append.mp nd
      exact this.2.2 k z k (by simp) rfl
    have go:=fun (p:Int) (q:Rat) (more:List Int) hm (q0:0≤q) (q1:q < 1)=>oB i n (upl p q R) (tk ++ more) (UnsA.upl q0 q1 hR) (ln p q) (sub p q more hm)
    rw [eJ hh hc hR,dR,dR]
    by_cases z:h + c < 1
    · rw [if_pos z]
      have e1:=go u (h + c) [] (.inl ⟨rfl,.inl rfl⟩) (by grind) z
      have e2:=go k (h + c) [] (.inl ⟨rfl,.inr rfl⟩) (by grind) z
      rw [List.append_nil] at e1 e2
      rw [e1,e2,fq,fq]
      have p:h + c≠0:=by grind
      grind
    · rw [if_neg z,go k (h + c - 1) [u] (.inr (.inl ⟨rfl,rfl⟩)) (by grind) (by grind),go u (h + c - 1) [k] (.inr (.inr ⟨rfl,rfl⟩)) (by grind) (by grind),fq,fq,dZ nu,dZ nk]
      have p:2 - (h + c)≠0:=by grind
      grind
end Du
set_option maxHeartbeats 1000000
namespace Du
def Gf (bs:List Rat) (h:Rat) (us:Rat×Rat) (c:Rat):Rat:=bk (bs.foldl gW (h,us)).2 (bs.foldl gW (h,us)).1 c
theorem gJ {c:Rat} {bs:List Rat} {h:Rat} {us:Rat×Rat} {d:Rat}:Gf (c :: bs) h us d = Gf bs (hb h c) (aZ h us c) d:=rfl
theorem hZ {p q d:Rat}:∀ (bs:List Rat) (h:Rat) (a b:Rat×Rat),Gf bs h (p * a.1 + q * b.1,p * a.2 + q * b.2) d = p * Gf bs h a d + q * Gf bs h b d
  | [],h,a,b=>by
    show bk _ h d = p * bk a h d + q * bk b h d
    unfold bk
    split <;> grind
  | c :: bs,h,a,b=>by
    rw [gJ,gJ,gJ,← hZ bs]
    congr 1
    unfold aZ
    split
    · refine Prod.ext ?_ ?_ <;> simp only <;> grind
    · refine Prod.ext ?_ ?_ <;> simp only <;> grind
theorem jN {i j:Int} {n:Nat} {tq:TQ} {tk:List Int} (u:UnsA tq) (hn:tq.length≤n) (h:i ∉ tk) (h':i ∉ tq.map (·.1)):EQ (b7 i j) n tq tk = 0:=by
  rw [fO (φ:=b7 i j) (ψ:=fun _=>0) n tq tk u hn (fun tk' _ h2=>aI fun z=>(h2 i z.1).elim h h'),kf]
theorem ot {i j:Int} {n:Nat} {tq:TQ} {tk:List Int} (u:UnsA tq) (hn:tq.length≤n) (h:j ∉ tk) (h':j ∉ tq.map (·.1)):EQ (b7 i j) n tq tk = 0:=by
  rw [fO (φ:=b7 i j) (ψ:=fun _=>0) n tq tk u hn (fun tk' _ h2=>aI fun z=>(h2 j z.2).elim h h'),kf]
theorem vd {i j:Int} {n:Nat} {tq:TQ} {tk:List Int} (u:UnsA tq) (hn:tq.length≤n) (nd:(tk ++ tq.map (·.1)).Nodup) (h:i ∈ tk):EQ (b7 i j) n tq tk = ind (j ∈ tk) + vs j tq:=by
  rw [fO (ψ:=gI j) n tq tk u hn (fun tk' h1 _=>by
    unfold gI b7 ind
    by_cases z:j ∈ tk'
    · rw [if_pos ⟨h1 i h,z⟩,if_pos z]
    · rw [if_neg (fun w=>z w.2),if_neg z]),oB j n tq tk u hn nd]
theorem uC {i j:Int} {n:Nat} {tq:TQ} {tk:List Int} (u:UnsA tq) (hn:tq.length≤n) (nd:(tk ++ tq.map (·.1)).Nodup) (h:j ∈ tk):EQ (b7 i j) n tq tk = ind (i ∈ tk) + vs i tq:=by
  rw [fO (ψ:=gI i) n tq tk u hn (fun tk' h1 _=>by
    unfold gI b7 ind
    by_cases z:i ∈ tk'
    · rw [if_pos ⟨z,h1 j h⟩,if_pos z]
    · rw [if_neg (fun w=>z w.1),if_neg z]),oB i n tq tk u hn nd]
theorem iy {i:Int} {r:TQ} (h:i ∉ r.map (·.1)):vs i r = 0:=by
  induction r with
  | nil=>rfl
  | cons x r ih =>
    simp only [List.map_cons,List.mem_cons,not_or] at h
    rw [dR,ih h.2,aI fun e=>h.1 e.symm]
    grind
theorem mt {tk:List Int} {p:Int} {q:Rat} {R:TQ} (nd:(tk ++ (p :: R.map (·.1))).Nodup):(tk ++ (upl p q R).map (·.1)).Nodup:=by
  unfold upl
  split
  · exact List.Nodup.sublist (by simp) nd
  · exact nd
structure St (tk:List Int) (u:Int) (h:Rat) (R:TQ):Prop where
  h0:0≤h
  h1:h < 1
  uR:UnsA R
  nd:(tk ++ (u :: R.map (·.1))).Nodup
theorem St.out {tk:List Int} {u:Int} {h:Rat} {R:TQ} (S:St tk u h R):u ∉ tk∧u ∉ R.map (·.1)∧∀ x ∈ R.map (·.1),x ∉ tk:=by
  have:=List.nodup_append.mp S.nd
  have h2:=List.nodup_cons.mp this.2.1
  exact ⟨fun z=>this.2.2 u z u (List.mem_cons_self ..) rfl,h2.1,fun x hx z=>this.2.2 x z x (List.mem_cons_of_mem _ hx) rfl⟩
theorem St.ua {tk:List Int} {u:Int} {h:Rat} {R:TQ} (S:St tk u h R):UnsA (upl u h R):=UnsA.upl S.h0 S.h1 S.uR
theorem St.nx {tk:List Int} {u k:Int} {h c:Rat} {R:TQ} (S:St tk u h ((k,c) :: R)) (hp:0 < h) :
    (h + c < 1→St tk u (h + c) R∧St tk k (h + c) R)∧(¬ h + c < 1→St (tk ++ [u]) k (h + c - 1) R∧St (tk ++ [k]) u (h + c - 1) R):=by
  obtain ⟨hc,hR⟩:=S.uR.cons
  have b0:=hc.1; have b1:=hc.2; have a1:=S.h1
  simp only at b0 b1
  have nd:=S.nd
  simp only [List.map_cons] at nd
  have n1:(tk ++ (u :: R.map (·.1))).Nodup:=List.Nodup.sublist (by simp) nd
  have n2:(tk ++ (k :: R.map (·.1))).Nodup:=List.Nodup.sublist (by simp) nd
  have n3:(tk ++ [u] ++ (k :: R.map (·.1))).Nodup:=by simpa using nd
  have n4:(tk ++ [k] ++ (u :: R.map (·.1))).Nodup:=by
    refine (List.Perm.nodup_iff ?_).mp nd
    rw [List.append_assoc]
    exact List.Perm.append_left _ (List.Perm.swap ..)
  exact ⟨fun z=>⟨⟨by grind,z,hR,n1⟩,⟨by grind,z,hR,n2⟩⟩,fun z=>⟨⟨by grind,by grind,hR,n3⟩,⟨by grind,by grind,hR,n4⟩⟩⟩
theorem cE {u:Int} {h:Rat} {R:TQ} (hp:0 < h):upl u h R = (u,h) :: R:=if_neg (by grind)
theorem dO {u:Int} {R:TQ}:upl u 0 R = R:=if_pos rfl
theorem St.up {tk:List Int} {u k:Int} {h c:Rat} {R:TQ} (S:St tk u h ((k,c) :: R)):St tk k c R:=by
  obtain ⟨hc,hR⟩:=S.uR.cons
  have b0:=hc.1; have b1:=hc.2
  simp only at b0 b1
  have nd:=S.nd
  simp only [List.map_cons] at nd
  exact ⟨by grind,b1,hR,List.Nodup.sublist (by simp) nd⟩
theorem gs {h c:Rat} (z:h + c < 1):hb h c = h + c:=if_pos z
theorem kF {h c:Rat} (z:¬ h + c < 1):hb h c = h + c - 1:=if_neg z
theorem uI {h c:Rat} {us:Rat×Rat} (z:h + c < 1):aZ h us c = (us.1 * (h / (h + c)),us.2):=by unfold aZ; rw [if_pos z]
theorem xB {h c:Rat} {us:Rat×Rat} (z:¬ h + c < 1):aZ h us c = (us.1 * ((1 - h) / (2 - (h + c))),us.2 + us.1 * ((1 - c) / (2 - (h + c)))):=by unfold aZ; rw [if_neg z]
theorem jJ {n:Nat} {u p:Int} {h q:Rat} {x:Int×Rat} {R:TQ} (hp:0 < h) (hn:(upl u h (x :: R)).length≤n + 1):(upl p q R).length≤n:=by
  rw [cE hp] at hn
  simp only [List.length_cons] at hn
  exact Nat.le_trans eW (by omega)
theorem fi {i j:Int} {c2:Rat} {C:TQ}:∀ (B:TQ) (n:Nat) (u:Int) (h:Rat) (tk:List Int),St tk u h (B ++ (j,c2) :: C)→i ∉ (B ++ (j,c2) :: C).map (·.1)→(upl u h (B ++ (j,c2) :: C)).length≤n →
    EQ (b7 i j) n (upl u h (B ++ (j,c2) :: C)) tk = Gf (B.map (·.2)) h (ind (u = i),ind (i ∈ tk)) c2
  | [],n,u,h,tk,S,hi,hn=>by
    rw [List.nil_append] at S hi hn ⊢
    obtain ⟨hc,hC⟩:=S.uR.cons
    have b0:=hc.1; have b1:=hc.2; have a0:=S.h0; have a1:=S.h1
    simp only at b0 b1
    obtain ⟨o1,o2,o3⟩:=S.out
    simp only [List.map_cons,List.mem_cons,not_or] at hi o2
    have jt:j ∉ tk:=o3 j (by simp)
    have jC:j ∉ C.map (·.1):=by
      have:=List.nodup_append.mp S.nd
      have:=(List.nodup_cons.mp this.2.1).2
      simp only [List.map_cons] at this
      exact (List.nodup_cons.mp this).1
    have vj:∀ {q:Rat},vs j ((j,q) :: C) = q:=fun {q}=>by rw [dR,iy jC,bP rfl]; grind
    show _ = bk (ind (u = i),ind (i ∈ tk)) h c2
    by_cases it:i ∈ tk
    · have ui:¬ u = i:=fun z=>o1 (by rw [z]; exact it)
      rw [vd S.ua hn (mt S.nd) it,fq,vj,aI jt,bP it,aI ui,aI (show ¬ u = j from fun z=>o2.1 z)]
      unfold bk
      split <;> grind
    · rw [aI it]
      by_cases ui:u = i
      · subst ui
        rw [bP rfl]
        by_cases hz:h = 0
        · subst hz
          rw [dO] at hn ⊢
          rw [jN S.uR hn it (by simpa using ⟨hi.1,by simpa using hi.2⟩)]
          unfold bk
          rw [if_neg (by grind)]
          grind
        · have hp:0 < h:=by grind
          match n,hn with
          | 0,hn=>rw [cE hp] at hn; simp at hn
          | n + 1,hn =>
            have ln:∀ p q,(upl p q C).length≤n:=fun p q=>jJ hp hn
            rw [cE hp,eJ ⟨hp,a1⟩ hc hC]
            obtain ⟨w1,w2⟩:=S.nx hp
            by_cases z:h + c2 < 1
            · rw [if_pos z]
              obtain ⟨s1,s2⟩:=w1 z
              rw [ot s1.ua (ln _ _) jt (fun w=>(gM w).elim (fun e=>o2.1 e.symm) jC),jN s2.ua (ln _ _) it (fun w=>(gM w).elim (fun e=>o2.1 e) (by simpa using hi.2))]
              unfold bk
              rw [if_neg (by grind)]
              grind
            · rw [if_neg z]
              obtain ⟨s1,s2⟩:=w2 z
              rw [vd s1.ua (ln _ _) (mt s1.nd) (by simp),uC s2.ua (ln _ _) (mt s2.nd) (by simp),fq,fq,iy jC,iy (i:=u) (by simpa using hi.2),bP rfl,bP rfl]
              have ju:¬ j ∈ tk ++ [u]:=by simp [jt]; exact fun e=>o2.1 e.symm
              have uj:¬ u ∈ tk ++ [j]:=by simp [it]; exact fun e=>o2.1 e
              rw [aI ju,aI uj]
              have ps:=(gh ⟨hp,a1⟩ hc).2 z
              simp only at ps
              unfold bk
              split <;> grind
      · rw [aI ui,jN S.ua hn it (fun w=>(gM w).elim (fun e=>ui e.symm) (by simpa using hi))]
        unfold bk
        split <;> grind
  | (k,c) :: B,n,u,h,tk,S,hi,hn=>by
    rw [List.cons_append] at S hi hn ⊢
    obtain ⟨hc,hR⟩:=S.uR.cons
    have b0:=hc.1; have b1:=hc.2; have a0:=S.h0; have a1:=S.h1
    simp only at b0 b1
    obtain ⟨o1,o2,o3⟩:=S.out
    have hi2:=hi
    rw [List.map_cons,List.mem_cons,not_or] at hi
    obtain ⟨hik,hiR⟩:=hi
    rw [List.map_cons,gJ]
    by_cases hz:h = 0
    · subst hz
      have S':=S.up
      rw [dO] at hn ⊢
      have eu:upl k c (B ++ (j,c2) :: C) = (k,c) :: (B ++ (j,c2) :: C):=cE b0
      rw [← eu] at hn ⊢
      rw [fi B n k c tk S' hiR hn,gs (show (0:Rat) + c < 1 by grind),uI (show (0:Rat) + c < 1 by grind),aI (show ¬ k = i from fun z=>hik z.symm)]
      congr 1
      · grind
      · refine Prod.ext ?_ rfl
        simp only
        grind
    · have hp:0 < h:=by grind
      match n,hn with
      | 0,hn=>rw [cE hp] at hn; simp at hn
      | n + 1,hn =>
        have ln:∀ p q,(upl p q (B ++ (j,c2) :: C)).length≤n:=fun p q=>jJ hp hn
        rw [cE hp,eJ ⟨hp,a1⟩ hc hR]
        obtain ⟨w1,w2⟩:=S.nx hp
        by_cases z:h + c < 1
        · obtain ⟨s1,s2⟩:=w1 z
          rw [if_pos z,fi B n u _ tk s1 hiR (ln _ _),fi B n k _ tk s2 hiR (ln _ _),← hZ,gs z,uI z,aI (show ¬ k = i from fun z=>hik z.symm)]
          have ps:=(gh ⟨hp,a1⟩ hc).1 z
          simp only at ps
          congr 1
          refine Prod.ext ?_ ?_ <;> simp only <;> grind
        · obtain ⟨s1,s2⟩:=w2 z
          rw [if_neg z,fi B n k _ _ s1 hiR (ln _ _),fi B n u _ _ s2 hiR (ln _ _),← hZ,kF z,xB z,aI (show ¬ k = i from fun z=>hik z.symm),dZ o1,dZ (o3 k (by simp)),aI (show ¬ k = i from fun z=>hik z.symm)]
          have ps:=(gh ⟨hp,a1⟩ hc).2 z
          simp only at ps
          congr 1
          refine Prod.ext ?_ ?_ <;> simp only <;> grind
theorem mW {h c:Rat} (z:h + c < 1):us0 h c = (c / (h + c),0):=by unfold us0; rw [if_pos z]
theorem sN {h c:Rat} (z:¬ h + c < 1):us0 h c = ((1 - c) / (2 - (h + c)),(1 - h) / (2 - (h + c))):=by unfold us0; rw [if_neg z]
theorem eN {i j:Int} {c1 c2:Rat} {B C:TQ}:∀ (A:TQ) (n:Nat) (u:Int) (h:Rat) (tk:List Int),St tk u h (A ++ (i,c1) :: (B ++ (j,c2) :: C))→(upl u h (A ++ (i,c1) :: (B ++ (j,c2) :: C))).length≤n →
    EQ (b7 i j) n (upl u h (A ++ (i,c1) :: (B ++ (j,c2) :: C))) tk = Gf (B.map (·.2)) (hb ((A.map (·.2)).foldl hb h) c1) (us0 ((A.map (·.2)).foldl hb h) c1) c2
  | [],n,u,h,tk,S,hn=>by
    rw [List.nil_append] at S hn ⊢
    obtain ⟨hc,hR⟩:=S.uR.cons
    have b0:=hc.1; have b1:=hc.2; have a0:=S.h0; have a1:=S.h1
    simp only at b0 b1
    obtain ⟨o1,o2,o3⟩:=S.out
    have it:i ∉ tk:=o3 i (by simp)
    have hiR:i ∉ (B ++ (j,c2) :: C).map (·.1):=by
      have:=List.nodup_append.mp S.nd
      have:=(List.nodup_cons.mp this.2.1).2
      rw [List.map_cons] at this
      exact (List.nodup_cons.mp this).1
    have ui:¬ u = i:=fun z=>o2 (by rw [z]; simp)
    show _ = Gf (B.map (·.2)) (hb h c1) (us0 h c1) c2
    by_cases hz:h = 0
    · subst hz
      have S':=S.up
      rw [dO] at hn ⊢
      have eu:upl i c1 (B ++ (j,c2) :: C) = (i,c1) :: (B ++ (j,c2) :: C):=cE b0
      rw [← eu] at hn ⊢
      rw [fi B n i c1 tk S' hiR hn,gs (show (0:Rat) + c1 < 1 by grind),mW (show (0:Rat) + c1 < 1 by grind),bP rfl,aI it]
      congr 1
      · grind
      · refine Prod.ext ?_ rfl
        simp only
        grind
    · have hp:0 < h:=by grind
      match n,hn with
      | 0,hn=>rw [cE hp] at hn; simp at hn
      | n + 1,hn =>
        have ln:∀ p q,(upl p q (B ++ (j,c2) :: C)).length≤n:=fun p q=>jJ hp hn
        rw [cE hp,eJ ⟨hp,a1⟩ hc hR]
        obtain ⟨w1,w2⟩:=S.nx hp
        by_cases z:h + c1 < 1
        · obtain ⟨s1,s2⟩:=w1 z
          rw [if_pos z,fi B n u _ tk s1 hiR (ln _ _),fi B n i _ tk s2 hiR (ln _ _),← hZ,gs z,mW z,aI ui,bP rfl,aI it]
          congr 1
          refine Prod.ext ?_ ?_ <;> simp only <;> grind
        · obtain ⟨s1,s2⟩:=w2 z
          rw [if_neg z,fi B n i _ _ s1 hiR (ln _ _),fi B n u _ _ s2 hiR (ln _ _),← hZ,kF z,sN z,dZ o1,dZ it,bP rfl,aI ui,aI it]
          congr 1
          refine Prod.ext ?_ ?_ <;> simp only <;> grind
  | (k,c) :: A,n,u,h,tk,S,hn=>by
    rw [List.cons_append] at S hn ⊢
    obtain ⟨hc,hR⟩:=S.uR.cons
    have b0:=hc.1; have b1:=hc.2; have a0:=S.h0; have a1:=S.h1
    simp only at b0 b1
    rw [List.map_cons,List.foldl_cons]
    by_cases hz:h = 0
    · subst hz
      have S':=S.up
      rw [dO] at hn ⊢
      have eu:upl k c (A ++ (i,c1) :: (B ++ (j,c2) :: C)) = (k,c) :: (A ++ (i,c1) :: (B ++ (j,c2) :: C)):=cE b0
      rw [← eu] at hn ⊢
      rw [eN A n k c tk S' hn,gs (show (0:Rat) + c < 1 by grind),show (0:Rat) + c = c by grind]
    · have hp:0 < h:=by grind
      match n,hn with
      | 0,hn=>rw [cE hp] at hn; simp at hn
      | n + 1,hn =>
        have ln:∀ p q,(upl p q (A ++ (i,c1) :: (B ++ (j,c2) :: C))).length≤n:=fun p q=>jJ hp hn
        rw [cE hp,eJ ⟨hp,a1⟩ hc hR]
        obtain ⟨w1,w2⟩:=S.nx hp
        by_cases z:h + c < 1
        · obtain ⟨s1,s2⟩:=w1 z
          have ps:=(gh ⟨hp,a1⟩ hc).1 z
          simp only at ps
          rw [if_pos z,eN A n u _ tk s1 (ln _ _),eN A n k _ tk s2 (ln _ _),gs z]
          grind
        · obtain ⟨s1,s2⟩:=w2 z
          have ps:=(gh ⟨hp,a1⟩ hc).2 z
          simp only at ps
          rw [if_neg z,eN A n k _ _ s1 (ln _ _),eN A n u _ _ s2 (ln _ _),kF z]
          grind
end Du
set_option maxHeartbeats 1000000
namespace Du
def SQ (tq:TQ):Rat:=(tq.map (·.2)).sum
theorem eQ {x:Int×Rat} {r:TQ}:SQ (x :: r) = x.2 + SQ r:=by unfold SQ; rw [List.map_cons,List.sum_cons]
theorem pX {p:Int} {h:Rat} {r:TQ}:SQ (upl p h r) = h + SQ r:=by
  unfold upl
  split
  · rename_i e; rw [e]; grind
  · rw [eQ]
def sz (tq:TQ) (tk:List Int):Rat:=(tk.length:Rat) + SQ tq
theorem ku {tk:List Int} {p:Int}:(((tk ++ [p]).length:Nat):Rat) = (tk.length:Rat) + 1:=by
  rw [List.length_append,List.length_singleton]; push_cast; rfl
structure Szs (s:Rat) (ws:List (List Int×Rat)):Prop where
  all:∀ w ∈ ws,s < (w.1.length:Rat) + 1∧(w.1.length:Rat) < s + 1
  lo:∃ w ∈ ws,(w.1.length:Rat)≤s
  hi:∃ w ∈ ws,s≤(w.1.length:Rat)
theorem Szs.app {s:Rat} {a b:List (List Int×Rat)} (h:Szs s a) (h':Szs s b):Szs s (a ++ b):=by
  refine ⟨fun w hw=>(List.mem_append.mp hw).elim (h.all w) (h'.all w),?_,?_⟩
  · obtain ⟨w,hw,e⟩:=h.lo; exact ⟨w,List.mem_append_left _ hw,e⟩
  · obtain ⟨w,hw,e⟩:=h.hi; exact ⟨w,List.mem_append_left _ hw,e⟩
theorem gX {n:Nat} {tk:List Int} {m:Rat}:wQ n [] tk m = [(tk,m)]:=by cases n <;> rfl
theorem nR {n:Nat} {p:Int} {h:Rat} {tk:List Int} {m:Rat}:wQ (n + 1) [(p,h)] tk m = [(tk ++ [p],m * h),(tk,m * (1 - h))]:=by
  rw [wQ]
  show wQ n [] (if true = true then tk ++ [p] else tk) (m * h) ++ wQ n [] (if false = true then tk ++ [p] else tk) (m * (1 - h)) = _
  rw [gX,gX,if_pos rfl,if_neg Bool.false_ne_true]
  rfl
theorem oC {n:Nat} {u k:Int} {h c:Rat} {R:TQ} {tk:List Int} {m:Rat} (hh:Uns h) (hc:Uns c) (hR:UnsA R) :
    wQ (n + 1) ((u,h) :: (k,c) :: R) tk m = if h + c < 1 then wQ n (upl u (h + c) R) tk (m * (h / (h + c))) ++ wQ n (upl k (h + c) R) tk (m * (c / (h + c)))
      else wQ n (upl k (h + c - 1) R) (tk ++ [u]) (m * ((1 - c) / (2 - (h + c)))) ++ wQ n (upl u (h + c - 1) R) (tk ++ [k]) (m * ((1 - h) / (2 - (h + c)))):=by
  rw [wQ,vD hh hc hR,ve hh hc hR]
  by_cases z:h + c < 1
  · simp only [if_pos z,pr1,pr2]
  · simp only [if_neg z,pr1,pr2]
theorem jB:∀ (n:Nat) (tq:TQ) (tk:List Int) (m:Rat),UnsA tq→tq.length≤n→Szs (sz tq tk) (wQ n tq tk m)
  | n,[],tk,m,_,_=>by
    rw [gX]
    have e:sz [] tk = (tk.length:Rat):=by unfold sz; show _ + 0 = _; grind
    rw [e]
    refine ⟨fun w hw=>?_,⟨_,List.mem_singleton.mpr rfl,?_⟩,⟨_,List.mem_singleton.mpr rfl,?_⟩⟩
    · cases List.mem_singleton.mp hw; exact ⟨by grind,by grind⟩
    · grind
    · grind
  | 0,_ :: _,_,_,_,hn=>by rw [List.length_cons] at hn; omega
  | n + 1,[(p,h)],tk,m,u,_=>by
    rw [nR]
    obtain ⟨a,b⟩:=u.cons.1
    simp only at a b
    have e:sz [(p,h)] tk = (tk.length:Rat) + h:=by unfold sz; rw [eQ]; show _ + (h + 0) = _; grind
    have l:=ku (tk:=tk) (p:=p)
    rw [e]
    refine ⟨fun w hw=>?_,⟨(tk,m * (1 - h)),by simp,?_⟩,⟨(tk ++ [p],m * h),by simp,?_⟩⟩
    · simp only [List.mem_cons,List.not_mem_nil,or_false] at hw
      rcases hw with rfl | rfl
      · simp only [l]; exact ⟨by grind,by grind⟩
      · simp only; exact ⟨by grind,by grind⟩
    · simp only; grind
    · simp only [l]; grind
  | n + 1,(u,h) :: (k,c) :: R,tk,m,uu,hn=>by
    obtain ⟨hh,u2⟩:=uu.cons
    obtain ⟨hc,hR⟩:=u2.cons
    have a0:=hh.1; have a1:=hh.2; have b0:=hc.1; have b1:=hc.2
    simp only at a0 a1 b0 b1
    have ln:∀ p q,(upl p q R).length≤n:=fun p q=>Nat.le_trans eW (by simp only [List.length_cons] at hn; omega)
    rw [oC hh hc hR]
    have es:sz ((u,h) :: (k,c) :: R) tk = (tk.length:Rat) + (h + (c + SQ R)):=by unfold sz; rw [eQ,eQ]
    by_cases z:h + c < 1
    · rw [if_pos z]
      have g:=fun (p:Int) (m':Rat)=>jB n (upl p (h + c) R) tk m' (UnsA.upl (by grind) z hR) (ln _ _)
      have e:∀ p,sz (upl p (h + c) R) tk = sz ((u,h) :: (k,c) :: R) tk:=fun p=>by rw [es]; unfold sz; rw [pX]; grind
      have g1:=g u (m * (h / (h + c))); rw [e] at g1
      have g2:=g k (m * (c / (h + c))); rw [e] at g2
      exact g1.app g2
    · rw [if_neg z]
      have g:=fun (p q:Int) (m':Rat)=>jB n (upl p (h + c - 1) R) (tk ++ [q]) m' (UnsA.upl (by grind) (by grind) hR) (ln _ _)
      have e:∀ p q,sz (upl p (h + c - 1) R) (tk ++ [q]) = sz ((u,h) :: (k,c) :: R) tk:=fun p q=>by rw [es]; unfold sz; rw [pX,ku]; grind
      have g1:=g k u (m * ((1 - c) / (2 - (h + c)))); rw [e] at g1
      have g2:=g u k (m * ((1 - h) / (2 - (h + c)))); rw [e] at g2
      exact g1.app g2
def BqA (B:Nat) (tq:TQ):Prop:=∀ x ∈ tq,Bq B x.2
theorem qB {B:Nat} {h c:Rat} (H:Bq B h) (C:Bq B c) (hh:Uns h) (hc:Uns c):(h + c < 1→Bq B (h + c))∧(¬ h + c < 1→Bq B (h + c - 1)):=by
  have:=sg H C hh.2 hc.2
  exact ⟨fun z=>by rw [gs z] at this; exact this,fun z=>by rw [kF z] at this; exact this⟩
def chs (tq:TQ):List Rat:=tq.map (·.2)
theorem uO {B:Nat} (hp:0 < B):∀ (n:Nat) (cs:List Rat),cs.length≤n→(∀ c ∈ cs,Bq B c∧Uns c)→∃ D:Nat,0 < D∧D≤(2 * B) ^ n∧∀ (tq:TQ) (tk:List Int) (m:Rat) (E:Nat),chs tq = cs→Bq E m→∀ w ∈ wQ n tq tk m,Bq (E * D) w.2
  | n,[],_,_=>⟨1,by decide,Nat.pow_pos (by omega),fun tq tk m E e hm w hw=>by
    have:tq = []:=by cases tq with | nil=>rfl | cons x r=>cases e
    subst this
    rw [gX] at hw
    cases List.mem_singleton.mp hw
    rw [Nat.mul_one]; exact hm⟩
  | 0,_ :: _,hn,_=>by rw [List.length_cons] at hn; omega
  | n + 1,[h],_,hc=>by
    obtain ⟨H,hh⟩:=hc h (by simp)
    refine ⟨B,hp,?_,fun tq tk m E e hm w hw=>?_⟩
    · calc B≤2 * B:=by omega
        _ = (2 * B) ^ 1:=by rw [Nat.pow_one]
        _≤(2 * B) ^ (n + 1):=Nat.pow_le_pow_right (by omega) (by omega)
    · match tq,e with
      | [(p,q)],e =>
        have eq:q = h:=by cases e; rfl
        subst eq
        rw [nR] at hw
        simp only [List.mem_cons,List.not_mem_nil,or_false] at hw
        rcases hw with rfl | rfl
        · exact hm.mul H
        · exact hm.mul (jy H)
  | n + 1,h :: c :: cs,hn,hc=>by
    obtain ⟨H,hh⟩:=hc h (by simp)
    obtain ⟨C,hC⟩:=hc c (by simp)
    have a0:=hh.1; have a1:=hh.2; have b0:=hC.1; have b1:=hC.2
    obtain ⟨T,T0,T1,t1,t2⟩:=iw hp H C a1 b0 b1
    have hR:∀ x ∈ cs,Bq B x∧Uns x:=fun x hx=>hc x (by simp [hx])
    have bb:=qB H C hh hC
    let q:Rat:=hb h c
    have qe:(h + c < 1→q = h + c)∧(¬ h + c < 1→q = h + c - 1):=⟨fun z=>gs z,fun z=>kF z⟩
    have q0:=rT (Rat.le_of_lt a0) a1 b0 b1
    have Bqq:Bq B q:=by
      by_cases z:h + c < 1
      · rw [qe.1 z]; exact bb.1 z
      · rw [qe.2 z]; exact bb.2 z
    obtain ⟨D,D0,D1,hD⟩:=uO hp n (if q = 0 then cs else q :: cs) (by
      simp only [List.length_cons] at hn
      split
      · omega
      · rw [List.length_cons]; omega) (fun x hx=>by
      split at hx
      · exact hR x hx
      · rename_i nz
        rcases List.mem_cons.mp hx with e | e
        · rw [e]; exact ⟨Bqq,by have:=q0.1; grind,q0.2⟩
        · exact hR x e)
    refine ⟨T * D,Nat.mul_pos T0 D0,?_,fun tq tk m E e hm w hw=>?_⟩
    · rw [Nat.pow_succ,Nat.mul_comm]
      exact Nat.mul_le_mul D1 T1
    · match tq,e with
      | (u,h') :: (k,c') :: R,e =>
        have e1:h' = h:=by unfold chs at e; simp only [List.map_cons,List.cons.injEq] at e; exact e.1
        have e2:c' = c:=by unfold chs at e; simp only [List.map_cons,List.cons.injEq] at e; exact e.2.1
        have e3:chs R = cs:=by unfold chs at e ⊢; simp only [List.map_cons,List.cons.injEq] at e; exact e.2.2
        subst e1 e2
        have uR:UnsA R:=fun x hx=>(hR x.2 (by rw [← e3]; exact List.mem_map.mpr ⟨x,hx,rfl⟩)).2
        rw [oC hh hC uR] at hw
        have cu:∀ p,chs (upl p q R) = if q = 0 then cs else q :: cs:=fun p=>by
          unfold upl
          split
          · exact e3
          · unfold chs at e3 ⊢; rw [List.map_cons,e3]
        rw [← Nat.mul_assoc]
        by_cases z:h' + c' < 1
        · rw [if_pos z,← qe.1 z] at hw
          have tt:=t1 z
          rw [← qe.1 z] at tt
          rcases List.mem_append.mp hw with hw | hw
          · exact hD _ _ _ _ (cu _) (hm.mul tt.1) w hw
          · exact hD _ _ _ _ (cu _) (hm.mul tt.2) w hw
        · rw [if_neg z,← qe.2 z] at hw
          have tt:=t2 z
          rcases List.mem_append.mp hw with hw | hw
          · exact hD _ _ _ _ (cu _) (hm.mul tt.1) w hw
          · exact hD _ _ _ _ (cu _) (hm.mul tt.2) w hw
theorem iB:∀ (n:Nat) (tq:TQ) (tk:List Int),UnsA tq→tq.length≤n→EQ (fun _=>1) n tq tk = 1
  | n,[],tk,_,_=>by rw [i6]
  | 0,_ :: _,_,_,hn=>by rw [List.length_cons] at hn; omega
  | n + 1,[(p,h)],tk,_,_=>by rw [kd]; grind
  | n + 1,(u,h) :: (k,c) :: R,tk,uu,hn=>by
    obtain ⟨hh,u2⟩:=uu.cons
    obtain ⟨hc,hR⟩:=u2.cons
    have a0:=hh.1; have a1:=hh.2; have b0:=hc.1; have b1:=hc.2
    simp only at a0 a1 b0 b1
    have ln:∀ p q,(upl p q R).length≤n:=fun p q=>Nat.le_trans eW (by simp only [List.length_cons] at hn; omega)
    rw [eJ hh hc hR]
    have ps:=gh hh hc
    by_cases z:h + c < 1
    · rw [if_pos z,iB n _ _ (UnsA.upl (by grind) z hR) (ln _ _),iB n _ _ (UnsA.upl (by grind) z hR) (ln _ _)]
      have:=ps.1 z
      simp only at this
      grind
    · rw [if_neg z,iB n _ _ (UnsA.upl (by grind) (by grind) hR) (ln _ _),iB n _ _ (UnsA.upl (by grind) (by grind) hR) (ln _ _)]
      have:=ps.2 z
      simp only at this
      grind
def tq0 (qs:List Rat) (ord:List Nat):TQ:=ord.map fun (o:Nat)=>((o:Int),qs.getD o 0)
end Du
set_option maxHeartbeats 1000000
namespace Du
def ND (tq:TQ):Prop:=(tq.map (·.1)).Nodup
theorem jO:∀ {tq:TQ} {i:Int} {q q':Rat},ND tq→(i,q) ∈ tq→(i,q') ∈ tq→q = q'
  | x :: r,i,q,q',nd,h,h'=>by
    have n:=List.nodup_cons.mp nd
    rcases List.mem_cons.mp h with e | e <;> rcases List.mem_cons.mp h' with f | f
    · rw [← e] at f; cases f; rfl
    · exact absurd (List.mem_map.mpr ⟨_,f,rfl⟩) (by rw [show i = x.1 by rw [← e]]; exact n.1)
    · exact absurd (List.mem_map.mpr ⟨_,e,rfl⟩) (by rw [show i = x.1 by rw [← f]]; exact n.1)
    · exact jO n.2 e f
theorem mI {tq:TQ} {p:Int×Rat→Bool} {i:Int} {q:Rat} (nd:ND tq) (h:(i,q) ∈ tq):i ∈ (tq.filter p).map (·.1)↔p (i,q) = true:=by
  constructor
  · intro z
    obtain ⟨⟨i',q'⟩,hm,e⟩:=List.mem_map.mp z
    cases e
    obtain ⟨h1,h2⟩:=List.mem_filter.mp hm
    rw [jO nd h h1]; exact h2
  · intro z
    exact List.mem_map.mpr ⟨_,List.mem_filter.mpr ⟨h,z⟩,rfl⟩
theorem uQ:∀ {tq:TQ} {i:Int} {q:Rat},ND tq→(i,q) ∈ tq→vs i tq = q
  | x :: r,i,q,nd,h=>by
    have n:=List.nodup_cons.mp nd
    rw [dR]
    rcases List.mem_cons.mp h with e | e
    · rw [← e] at n ⊢
      rw [iy n.1,bP rfl]; grind
    · rw [uQ n.2 e,aI (fun z=>n.1 (by show x.1 ∈ _; rw [z]; exact List.mem_map.mpr ⟨_,e,rfl⟩))]; grind
theorem ND.filter {tq:TQ} {p:Int×Rat→Bool} (nd:ND tq):ND (tq.filter p):=List.Nodup.sublist ((List.filter_sublist).map _) nd
theorem jV {tq:TQ} {i:Int} {q:Rat} (nd:ND tq) (h:(i,q) ∈ tq):i ∈ (aN tq []).2↔q = 1:=by
  show i ∈ [] ++ (tq.filter fun x=>decide (x.2 = 1)).map (·.1)↔_
  rw [List.nil_append,mI nd h]
  exact decide_eq_true_iff
theorem xf {tq:TQ} {i:Int} {q:Rat} (nd:ND tq) (h:(i,q) ∈ tq) (hq:In1 q):ind (i ∈ (aN tq []).2) + vs i (aN tq []).1 = q:=by
  have e1:(aN tq []).1 = tq.filter fun x=>bZ x.2:=rfl
  rw [e1]
  obtain ⟨a,b⟩:=hq
  by_cases u:Uns q
  · rw [uQ nd.filter (List.mem_filter.mpr ⟨h,unsQ_iff.mpr u⟩),aI (fun z=>by
      have:=(jV nd h).mp z
      have:=u.2
      grind)]
    grind
  · rw [iy (fun z=>u (unsQ_iff.mp ((mI nd h).mp z)))]
    by_cases o:q = 1
    · rw [bP ((jV nd h).mpr o),o]; grind
    · rw [aI (fun z=>o ((jV nd h).mp z))]
      have:q = 0:=by
        by_cases z:0 < q
        · exact absurd ⟨z,by grind⟩ u
        · grind
      rw [this]; grind
theorem m5 {tq:TQ} (nd:ND tq):((aN tq []).2 ++ (aN tq []).1.map (·.1)).Nodup:=by
  show (([]:List Int) ++ (tq.filter fun (x:Int×Rat)=>decide (x.2 = 1)).map (·.1) ++ (tq.filter fun (x:Int×Rat)=>bZ x.2).map (·.1)).Nodup
  rw [List.nil_append]
  refine List.nodup_append.mpr ⟨nd.filter,nd.filter,fun a ha b hb e=>?_⟩
  subst e
  obtain ⟨⟨_,q⟩,hm,rfl⟩:=List.mem_map.mp ha
  obtain ⟨⟨_,q'⟩,hm',e'⟩:=List.mem_map.mp hb
  obtain ⟨h1,h2⟩:=List.mem_filter.mp hm
  obtain ⟨h3,h4⟩:=List.mem_filter.mp hm'
  simp only at e'
  subst e'
  have e:=jO nd h1 h3
  have o:=of_decide_eq_true h2
  have u:=unsQ_iff.mp h4
  have:=u.2
  simp only at o this
  grind
theorem ka {tq:TQ} {tk:List Int}:UnsA (aN tq tk).1:=fun x hx=>unsQ_iff.mp (List.mem_filter.mp hx).2
theorem oi:∀ {tq:TQ},(∀ x ∈ tq,In1 x.2)→SQ (tq.filter fun x=>bZ x.2) + ((tq.filter fun x=>decide (x.2 = 1)).length:Rat) = SQ tq
  | [],_=>by show (0:Rat) + 0 = 0; grind
  | x :: r,h=>by
    have ih:=oi (tq:=r) fun y hy=>h y (List.mem_cons_of_mem _ hy)
    obtain ⟨a,b⟩:=h x (List.mem_cons_self ..)
    rw [List.filter_cons,List.filter_cons,eQ]
    by_cases o:x.2 = 1
    · have nu:bZ x.2 = false:=m7 fun z=>by have:=z.2; grind
      rw [nu,if_neg Bool.false_ne_true,if_pos (decide_eq_true o),List.length_cons]
      push_cast
      grind
    · rw [if_neg (show ¬ decide (x.2 = 1) = true by simpa using o)]
      by_cases u:Uns x.2
      · rw [if_pos (unsQ_iff.mpr u),eQ]; grind
      · rw [m7 u,if_neg Bool.false_ne_true]
        have:x.2 = 0:=by
          by_cases z:0 < x.2
          · exact absurd ⟨z,by grind⟩ u
          · grind
        rw [this]; grind
theorem pj {α:Type} {L:List α} {x y:α} (hx:x ∈ L) (hy:y ∈ L) (ne:x≠y):∃ A B C,L = A ++ x :: (B ++ y :: C)∨L = A ++ y :: (B ++ x :: C):=by
  obtain ⟨s,t,rfl⟩:=List.append_of_mem hx
  rcases List.mem_append.mp hy with z | z
  · obtain ⟨s1,s2,rfl⟩:=List.append_of_mem z
    exact ⟨s1,s2,t,.inr (by simp)⟩
  · rcases List.mem_cons.mp z with e | z
    · exact absurd e.symm ne
    · obtain ⟨t1,t2,rfl⟩:=List.append_of_mem z
      exact ⟨s,t1,t2,.inl rfl⟩
def cst (z:Nat×Rat):Int×Rat:=((z.1:Int),z.2)
def yb (qs:List Rat) (f:Fn) (i j:Nat):Rat:=if i = j then qs.getD i 0 else (f i j).getD (qs.getD i 0 * qs.getD j 0)
def sV (qs:List Rat) (ord:List Nat):List (Nat×Rat):=ord.map fun o=>(o,qs.getD o 0)
def pw (qs:List Rat) (ord:List Nat):List (Nat×Rat):=(sV qs ord).filter fun z=>bZ z.2
theorem sW {qs:List Rat} {ord:List Nat}:tq0 qs ord = (sV qs ord).map cst:=by unfold tq0 sV; rw [List.map_map]; rfl
theorem kK {qs:List Rat} {ord:List Nat}:(aN (tq0 qs ord) []).1 = (pw qs ord).map cst:=by
  show (tq0 qs ord).filter (fun x=>bZ x.2) = _
  rw [sW,List.filter_map]; rfl
theorem nE {L:List (Nat×Rat)}:(L.map cst).map (·.2) = L.map (·.2):=by rw [List.map_map]; rfl
theorem tP {L:List (Nat×Rat)}:(L.map cst).map (·.1) = (L.map (·.1)).map (fun (n:Nat)=>(n:Int)):=by rw [List.map_map,List.map_map]; rfl
theorem gK {qs:List Rat} {ord:List Nat} {i:Nat} (h:i ∈ ord):((i:Int),qs.getD i 0) ∈ tq0 qs ord:=List.mem_map.mpr ⟨i,h,rfl⟩
theorem qh {qs:List Rat} {ord:List Nat} (nd:ord.Nodup):ND (tq0 qs ord):=by
  unfold ND tq0
  rw [List.map_map]
  exact List.Pairwise.map _ (fun a b (h:a≠b) (z:(a:Int) = (b:Int))=>h (by omega)) nd
theorem iq {qs:List Rat} {ord:List Nat} {i j:Nat} {N:Nat} {A B C:List (Nat×Rat)} {c1 c2:Rat} (nd:ord.Nodup) (hL:pw qs ord = A ++ (i,c1) :: (B ++ (j,c2) :: C)) (hN:(aN (tq0 qs ord) []).1.length≤N) :
    some (EQ (b7 i j) N (aN (tq0 qs ord) []).1 (aN (tq0 qs ord) []).2) = dI (pw qs ord) i j:=by
  have u:=ka (tq:=tq0 qs ord) (tk:=[])
  have n2:=m5 (qh (qs:=qs) nd)
  have e1:(aN (tq0 qs ord) []).1 = A.map cst ++ ((i:Int),c1) :: (B.map cst ++ ((j:Int),c2) :: C.map cst):=by rw [kK,hL]; simp [cst]
  have tkn:∀ x ∈ (aN (tq0 qs ord) []).2,(0:Int)≤x:=fun x hx=>by
    have hx:x ∈ [] ++ ((tq0 qs ord).filter fun x=>decide (x.2 = 1)).map (·.1):=hx
    rw [List.nil_append] at hx
    obtain ⟨y,hy,rfl⟩:=List.mem_map.mp hx
    obtain ⟨o,_,rfl⟩:=List.mem_map.mp (List.mem_filter.mp hy).1
    exact Int.natCast_nonneg _
  have tqn:∀ x ∈ (aN (tq0 qs ord) []).1.map (·.1),(0:Int)≤x:=fun x hx=>by
    rw [kK,tP] at hx
    obtain ⟨o,_,rfl⟩:=List.mem_map.mp hx
    exact Int.natCast_nonneg _
  generalize (aN (tq0 qs ord) []).2 = tk at *
  generalize (aN (tq0 qs ord) []).1 = tq at *
  have S:St tk (-1) 0 tq:=⟨by grind,by grind,u,by
    have n3:=List.nodup_append.mp n2
    refine List.nodup_append.mpr ⟨n3.1,List.nodup_cons.mpr ⟨fun z=>by have:=tqn _ z; omega,n3.2.1⟩,fun a ha b hb e=>?_⟩
    rcases List.mem_cons.mp hb with z | z
    · have:=tkn a ha; omega
    · exact n3.2.2 a ha b z e⟩
  subst e1
  have key:=eN (i:=(i:Int)) (j:=(j:Int)) (c1:=c1) (c2:=c2) (B:=B.map cst) (C:=C.map cst) (A.map cst) N (-1) 0 tk S (by rw [dO]; exact hN)
  rw [dO,nE,nE] at key
  rw [key,hL,qp (by rw [← hL]; exact List.Nodup.sublist ((List.filter_sublist).map _) (by unfold sV; rw [List.map_map]; simpa [Function.comp_def] using nd))]
  rfl
theorem pS {i j:Int}:b7 i j = b7 j i:=by
  funext tk
  unfold b7 ind
  by_cases h:i ∈ tk∧j ∈ tk
  · rw [if_pos h,if_pos ⟨h.2,h.1⟩]
  · rw [if_neg h,if_neg (fun z=>h ⟨z.2,z.1⟩)]
theorem p7 {i:Int}:b7 i i = gI i:=by
  funext tk
  unfold b7 gI ind
  by_cases h:i ∈ tk
  · rw [if_pos ⟨h,h⟩,if_pos h]
  · rw [if_neg (fun z=>h z.1),if_neg h]
theorem yj {qs:List Rat} {ord:List Nat} {i j:Nat} {N:Nat} (nd:ord.Nodup) (hi:i ∈ ord) (hj:j ∈ ord) (hq:∀ q ∈ qs,In1 q) (hN:(aN (tq0 qs ord) []).1.length≤N) :
    EQ (b7 i j) N (aN (tq0 qs ord) []).1 (aN (tq0 qs ord) []).2 = yb qs (dI (pw qs ord)) i j:=by
  have g:∀ o:Nat,In1 (qs.getD o 0):=fun o=>by
    rw [List.getD_eq_getElem?_getD]
    cases e:qs[o]? with
    | none=>exact ⟨by show (0:Rat)≤0; grind,by show (0:Rat)≤1; grind⟩
    | some q=>exact hq q (List.mem_of_getElem? e)
  have u:=ka (tq:=tq0 qs ord) (tk:=[])
  have n1:=qh (qs:=qs) nd
  have n2:=m5 n1
  have vi:=xf n1 (gK (qs:=qs) hi) (g i)
  have vj:=xf n1 (gK (qs:=qs) hj) (g j)
  unfold yb
  by_cases e:i = j
  · subst e
    rw [if_pos rfl,p7,oB _ N _ _ u hN n2]
    exact vi
  · rw [if_neg e]
    have in2:∀ o:Nat,o ∈ ord→((o:Int) ∈ (aN (tq0 qs ord) []).2↔qs.getD o 0 = 1):=fun o ho=>by
      exact jV n1 (gK ho)
    have in1:∀ o:Nat,o ∈ ord→((o:Int) ∈ (aN (tq0 qs ord) []).1.map (·.1)↔Uns (qs.getD o 0)):=fun o ho=>by
      show (o:Int) ∈ ((tq0 qs ord).filter fun x=>bZ x.2).map (·.1)↔_
      rw [mI n1 (gK ho)]
      exact unsQ_iff
    have inL:∀ o:Nat,o ∈ ord→Uns (qs.getD o 0)→(o,qs.getD o 0) ∈ pw qs ord:=fun o ho z=>List.mem_filter.mpr ⟨List.mem_map.mpr ⟨o,ho,rfl⟩,unsQ_iff.mpr z⟩
    have nL:∀ o:Nat,¬ Uns (qs.getD o 0)→o ∉ (pw qs ord).map (·.1):=fun o z w=>by
      obtain ⟨⟨a,b⟩,hm,rfl⟩:=List.mem_map.mp w
      obtain ⟨h1,h2⟩:=List.mem_filter.mp hm
      obtain ⟨o',_,e'⟩:=List.mem_map.mp h1
      cases e'
      exact z (unsQ_iff.mp h2)
    have cs:∀ o:Nat,Uns (qs.getD o 0)∨qs.getD o 0 = 1∨qs.getD o 0 = 0:=fun o=>by
      obtain ⟨a,b⟩:=g o
      by_cases z:Uns (qs.getD o 0)
      · exact .inl z
      · by_cases w:qs.getD o 0 = 1
        · exact .inr (.inl w)
        · refine .inr (.inr ?_)
          by_cases y:0 < qs.getD o 0
          · exact absurd ⟨y,by grind⟩ z
          · grind
    have n01:∀ q:Rat,q = 1∨q = 0→¬ Uns q:=fun q h z=>by have:=z.1; have:=z.2; rcases h with h | h <;> grind
    rcases cs i with ui | ui
    · rcases cs j with uj | uj
      · obtain ⟨A,B,C,h | h⟩:=pj (inL i hi ui) (inL j hj uj) (fun z=>e (by cases z; rfl))
        · have:=iq (N:=N) nd h hN
          rw [← this]; rfl
        · have:=iq (N:=N) nd h hN
          rw [pS,sd,← this]; rfl
      · rw [hJ (fun z=>nL j (n01 _ uj) z.2)]
        show _ = qs.getD i 0 * qs.getD j 0
        rcases uj with uj | uj
        · rw [uC u hN n2 ((in2 j hj).mpr uj),vi,uj]; grind
        · rw [ot u hN (fun z=>by have:=(in2 j hj).mp z; grind) (fun z=>n01 _ (.inr uj) ((in1 j hj).mp z)),uj]; grind
    · rw [hJ (fun z=>nL i (n01 _ ui) z.1)]
      show _ = qs.getD i 0 * qs.getD j 0
      rcases ui with ui | ui
      · rw [vd u hN n2 ((in2 i hi).mpr ui),vj,ui]; grind
      · rw [jN u hN (fun z=>by have:=(in2 i hi).mp z; grind) (fun z=>n01 _ (.inr ui) ((in1 i hi).mp z)),ui]; grind
end Du
set_option maxHeartbeats 1000000
namespace Du
open FrM
def cF (tq:TQ):Tl:=tq.map fun x=>(x.1,fr x.2)
theorem gL (q:Rat):uns (fr q) = bZ q:=by
  unfold uns bZ fr
  refine decide_eq_decide.mpr ?_
  rw [← num_pos]
  have:q < 1↔q.num < (q.den:Int):=by rw [Rat.lt_iff]; simp
  rw [this]
theorem vV (q:Rat):whl (fr q) = decide (q = 1):=by
  unfold whl
  exact decide_eq_decide.mpr ⟨fun h=>wd (q:=1) h,fun h=>by rw [h]; rfl⟩
theorem oA (tq:TQ) (tk:List Int):eg (cF tq) tk = (cF (aN tq tk).1,(aN tq tk).2):=by
  unfold eg aN cF
  rw [List.filter_map,List.filter_map,List.map_map]
  have e1:((fun x:Int×(Int×Int)=>uns x.2) ∘ fun x:Int×Rat=>(x.1,fr x.2)) = fun x=>bZ x.2:=by funext x; exact gL x.2
  have e2:((fun x:Int×(Int×Int)=>whl x.2) ∘ fun x:Int×Rat=>(x.1,fr x.2)) = fun x=>decide (x.2 = 1):=by funext x; exact vV x.2
  rw [e1,e2]
  rfl
theorem iV {B:Nat} {q:Rat} (hB:0 < B) (h:Bq B q):Fr (B:Int) (fr q):=by
  obtain ⟨h0,h1,n,e⟩:=h
  have e':q * (B:Rat) = (((n:Int)):Rat):=by rw [e]; push_cast; rfl
  have em:=qv hB e'
  refine ⟨?_,?_,?_,?_⟩
  · show 0≤q.num; exact Rat.num_nonneg.mpr h0
  · show q.num≤(q.den:Int)
    have:=(Rat.le_iff (a:=q) (b:=1)).mp h1
    simpa using this
  · show (0:Int) < (q.den:Int); have:=q.den_pos; omega
  · show (q.den:Int) ∣ (B:Int)
    have:q.den ∣ B:=by
      rw [em,Rat.den_mkRat,if_neg (by omega)]
      exact Nat.div_dvd_of_dvd (Nat.gcd_dvd_left _ _)
    exact Int.natCast_dvd_natCast.mpr this
theorem fH (q:Rat):q * (q.den:Rat) = (q.num:Rat):=by
  have h:(q.num:Rat) / (q.den:Rat) = q:=by have:=Rat.num_divInt_den q; rw [Rat.divInt_eq_div] at this; exact this
  have dn:(q.den:Rat)≠0:=by exact_mod_cast q.den_nz
  generalize (q.den:Rat) = d at *
  generalize (q.num:Rat) = n at *
  grind
theorem nv {q:Rat} {d:Int} (h:(q.den:Int) ∣ d):((q.num * (d / (q.den:Int)):Int):Rat) = q * (d:Rat):=by
  obtain ⟨k,rfl⟩:=h
  have hd:(q.den:Int)≠0:=by have:=q.den_pos; omega
  rw [Int.mul_ediv_cancel_left _ hd]
  push_cast
  have:q * (q.den:Rat) = (q.num:Rat):=fH q
  grind
structure Duq (B:Nat) (h c:Rat):Prop where
  B0:0 < B
  bh:Bq B h
  bc:Bq B c
  uh:Uns h
  uc:Uns c
theorem Duq.dv {B:Nat} {h c:Rat} (D:Duq B h c):0 < bd (fr h).2 (fr c).2∧((duA (fr h) (fr c):Int):Rat) = h * ((bd (fr h).2 (fr c).2:Int):Rat)∧((duB (fr h) (fr c):Int):Rat) = c * ((bd (fr h).2 (fr c).2:Int):Rat):=by
  have f1:=iV D.B0 D.bh
  have f2:=iV D.B0 D.bc
  obtain ⟨d0,d1,d2,d3⟩:=nQ f1.2.2.1 f2.2.2.1 (by have:=D.B0; omega) f1.2.2.2 f2.2.2.2
  exact ⟨d0,nv d1,nv d2⟩
theorem Duq.lt {B:Nat} {h c:Rat} (D:Duq B h c):duL (fr h) (fr c) = decide (h + c < 1):=by
  obtain ⟨d0,a,b⟩:=D.dv
  unfold duL
  refine decide_eq_decide.mpr ?_
  have dp:(0:Rat) < ((bd (fr h).2 (fr c).2:Int):Rat):=by exact_mod_cast d0
  constructor
  · intro z
    have z:((duA (fr h) (fr c) + duB (fr h) (fr c):Int):Rat) < ((bd (fr h).2 (fr c).2:Int):Rat):=by exact_mod_cast z
    push_cast at z
    rw [a,b,← Rat.add_mul] at z
    by_cases w:h + c < 1
    · exact w
    · exfalso
      have w:1≤h + c:=by grind
      have:=Rat.mul_le_mul_of_nonneg_right w (Rat.le_of_lt dp)
      grind
  · intro z
    have:=Rat.mul_lt_mul_of_pos_right z dp
    rw [Rat.one_mul,Rat.add_mul,← a,← b] at this
    exact_mod_cast this
theorem jz {x d:Rat} (h:d≠0):x * d / d = x:=by grind
theorem Duq.par {B:Nat} {h c:Rat} (D:Duq B h c) (b:Bool):par b (fr h) (fr c) = (fr (dU b h c).1,fr (dU b h c).2):=by
  obtain ⟨d0,a,b'⟩:=D.dv
  have dp:(0:Rat) < ((bd (fr h).2 (fr c).2:Int):Rat):=by exact_mod_cast d0
  have dn:((bd (fr h).2 (fr c).2:Int):Rat)≠0:=by grind
  have eL:=D.lt
  have eR:duR (fr h) (fr c) = if h + c < 1 then fr (h + c) else fr (h + c - 1):=by
    unfold duR
    rw [eL]
    by_cases z:h + c < 1
    · rw [if_pos (decide_eq_true z),if_pos z,fN _ d0]
      push_cast
      rw [a,b',← Rat.add_mul,jz dn]
    · rw [if_neg (by simpa using z),if_neg z,fN _ d0]
      push_cast
      rw [a,b']
      congr 1
      grind
  have eE:duE (fr h) (fr c) = if h + c < 1 then fr 0 else fr 1:=by
    unfold duE
    rw [eL]
    by_cases z:h + c < 1
    · rw [if_pos (decide_eq_true z),if_pos z]; rfl
    · rw [if_neg (by simpa using z),if_neg z]; rfl
  unfold FrM.par dU
  rw [eL,eR,eE]
  by_cases z:h + c < 1
  · rw [decide_eq_true z]
    simp only [if_pos z]
    cases b <;> simp
  · rw [decide_eq_false z]
    simp only [if_neg z]
    cases b <;> simp
def WfQ (B:Nat) (tq:TQ):Prop:=∀ x ∈ tq,Bq B x.2∧Uns x.2
theorem og {B:Nat} (B0:0 < B) (b:Bool) {tq:TQ} (w:WfQ B tq) (tk:List Int):nx b (cF tq) tk = (cF (nxQ b tq tk).1,(nxQ b tq tk).2):=by
  match tq,w with
  | [],_=>rfl
  | [(p,h)],_=>rfl
  | (p,h) :: (o,c) :: r,w =>
    have D:Duq B h c:=⟨B0,(w _ (List.mem_cons_self ..)).1,(w _ (List.mem_cons_of_mem _ (List.mem_cons_self ..))).1,(w _ (List.mem_cons_self ..)).2,(w _ (List.mem_cons_of_mem _ (List.mem_cons_self ..))).2⟩
    show eg ((p,(FrM.par b (fr h) (fr c)).1) :: (o,(FrM.par b (fr h) (fr c)).2) :: cF r) tk = _
    rw [D.par b]
    exact oA ((p,(dU b h c).1) :: (o,(dU b h c).2) :: r) tk
theorem yi {B:Nat} (B0:0 < B) (B1:B≤1000000000) {tq:TQ} (w:WfQ B tq) (ne:tq≠[]):0 < sz1 (cF tq)∧0 < sz2 (cF tq)∧sz1 (cF tq) + sz2 (cF tq)≤1000000000∧((sz1 (cF tq):Int):Rat) / ((sz1 (cF tq) + sz2 (cF tq):Int):Rat) = pr1 tq∧((sz2 (cF tq):Int):Rat) / ((sz1 (cF tq) + sz2 (cF tq):Int):Rat) = pr2 tq:=by
  match tq,w,ne with
  | [(p,h)],w,_ =>
    obtain ⟨H,u⟩:=w _ (List.mem_cons_self ..)
    have f:=iV B0 H
    have un:uns (fr h) = true:=by rw [gL]; exact unsQ_iff.mpr u
    have un:0 < h.num∧h.num < (h.den:Int):=of_decide_eq_true un
    have le:=Int.le_of_dvd (by omega) f.2.2.2
    have le:(h.den:Int)≤(B:Int):=le
    have dn:(h.den:Rat)≠0:=by exact_mod_cast h.den_nz
    have hd:h * (h.den:Rat) = (h.num:Rat):=fH h
    show 0 < h.num∧0 < (h.den:Int) - h.num∧h.num + ((h.den:Int) - h.num)≤_∧((h.num:Int):Rat) / ((h.num + ((h.den:Int) - h.num):Int):Rat) = h∧(((h.den:Int) - h.num:Int):Rat) / ((h.num + ((h.den:Int) - h.num):Int):Rat) = 1 - h
    rw [show h.num + ((h.den:Int) - h.num) = (h.den:Int) by omega]
    push_cast
    refine ⟨un.1,by omega,by omega,?_,?_⟩
    · grind
    · grind
  | (p,h) :: (o,c) :: r,w,_ =>
    have D:Duq B h c:=⟨B0,(w _ (List.mem_cons_self ..)).1,(w _ (List.mem_cons_of_mem _ (List.mem_cons_self ..))).1,(w _ (List.mem_cons_self ..)).2,(w _ (List.mem_cons_of_mem _ (List.mem_cons_self ..))).2⟩
    obtain ⟨d0,a,b'⟩:=D.dv
    obtain ⟨s1,s2,s3,_⟩:=uF (B:=(B:Int)) (by omega) (iV B0 D.bh) (iV B0 D.bc) (by rw [gL]; exact unsQ_iff.mpr D.uh) (by rw [gL]; exact unsQ_iff.mpr D.uc)
    have dp:(0:Rat) < ((bd (fr h).2 (fr c).2:Int):Rat):=by exact_mod_cast d0
    have dn:((bd (fr h).2 (fr c).2:Int):Rat)≠0:=by grind
    show 0 < du1 (fr h) (fr c)∧0 < du2 (fr h) (fr c)∧du1 (fr h) (fr c) + du2 (fr h) (fr c)≤_∧((du1 (fr h) (fr c):Int):Rat) / ((du1 (fr h) (fr c) + du2 (fr h) (fr c):Int):Rat) = (if h + c < 1 then h / (h + c) else (1 - c) / (2 - (h + c)))∧((du2 (fr h) (fr c):Int):Rat) / ((du1 (fr h) (fr c) + du2 (fr h) (fr c):Int):Rat) = (if h + c < 1 then c / (h + c) else (1 - h) / (2 - (h + c)))
    refine ⟨s1,s2,by omega,?_⟩
    have h0:=D.uh.1; have h1:=D.uh.2; have c0:=D.uc.1; have c1:=D.uc.2
    unfold du1 du2
    rw [D.lt]
    by_cases z:h + c < 1
    · have zz:decide (h + c < 1) = true:=decide_eq_true z
      simp only [if_pos zz,if_pos z]
      push_cast
      rw [a,b']
      generalize ((bd (fr h).2 (fr c).2:Int):Rat) = d at *
      have p:h + c≠0:=by grind
      have p2:h * d + c * d≠0:=by rw [← Rat.add_mul]; exact fun w=>(Rat.mul_eq_zero.mp w).elim p dn
      exact ⟨by grind,by grind⟩
    · have zz:¬ decide (h + c < 1) = true:=by simpa using z
      simp only [if_neg zz,if_neg z]
      push_cast
      rw [a,b']
      generalize ((bd (fr h).2 (fr c).2:Int):Rat) = d at *
      have p:2 - (h + c)≠0:=by grind
      have e:d - c * d + (d - h * d) = (2 - (h + c)) * d:=by grind
      have p2:(2 - (h + c)) * d≠0:=fun w=>(Rat.mul_eq_zero.mp w).elim p dn
      rw [e]
      exact ⟨by grind,by grind⟩
end Du
set_option maxHeartbeats 1000000
namespace Du
abbrev Rws:=List (List Int×Rat)
def dX (k:List Int) (m:Rat):Rws→Rws
  | []=>[(k,m)]
  | x :: r=>if x.1 = k then (k,x.2 + m) :: r else x :: dX k m r
def fe:Rws→List Int→Rat
  | [],_=>0
  | x :: r,k=>if x.1 = k then x.2 else fe r k
def NdR (st:Rws):Prop:=(st.map (·.1)).Nodup
theorem cc {φ:List Int→Rat} {x:List Int×Rat} {st:Rws}:SW φ (x :: st) = x.2 * φ x.1 + SW φ st:=by unfold SW; rw [List.map_cons,List.sum_cons]
theorem eI {φ:List Int→Rat}:SW φ [] = 0:=rfl
theorem mG {φ:List Int→Rat} (k:List Int) (m:Rat):∀ st:Rws,SW φ (dX k m st) = SW φ st + m * φ k
  | []=>by rw [dX,cc,eI]; grind
  | x :: r=>by
    rw [dX]
    by_cases c:x.1 = k
    · rw [if_pos c,cc,cc,c]; grind
    · rw [if_neg c,cc,cc,mG k m r]; grind
theorem iW (k:List Int) (m:Rat):∀ st:Rws,(dX k m st).map (·.1) = if k ∈ st.map (·.1) then st.map (·.1) else st.map (·.1) ++ [k]
  | []=>by simp [dX]
  | x :: r=>by
    rw [dX]
    by_cases c:x.1 = k
    · rw [if_pos c]; simp [c]
    · rw [if_neg c,List.map_cons,iW k m r,List.map_cons]
      have c':¬ k = x.1:=fun e=>c e.symm
      by_cases d:k ∈ r.map (·.1)
      · rw [if_pos d,if_pos (List.mem_cons_of_mem _ d)]
      · rw [if_neg d,if_neg (by simp only [List.mem_cons,not_or]; exact ⟨c',d⟩)]; rfl
theorem NdR.add {k:List Int} {m:Rat} {st:Rws} (h:NdR st):NdR (dX k m st):=by
  unfold NdR at *
  rw [iW]
  split
  · exact h
  · rename_i n
    exact List.nodup_append.mpr ⟨h,by simp,fun a ha b hb e=>n (by rw [List.mem_singleton] at hb; rw [← hb,← e]; exact ha)⟩
structure Row (D:Nat) (st:Rws) (s:Rat):Prop where
  b:∀ x ∈ st,Bq D x.2
  nd:NdR st
  one:SW (fun _=>1) st = s
theorem pY {st:Rws} {φ:List Int→Rat} (h:∀ x ∈ st,0≤x.2) (hφ:∀ k,0≤φ k):0≤SW φ st:=by
  induction st with
  | nil=>rw [eI]; grind
  | cons x r ih =>
    rw [cc]
    have:=ih fun y hy=>h y (List.mem_cons_of_mem _ hy)
    have:=Rat.mul_nonneg (h x (List.mem_cons_self ..)) (hφ x.1)
    grind
theorem xY {st:Rws} (h:∀ x ∈ st,0≤x.2):∀ x ∈ st,x.2≤SW (fun _=>1) st:=by
  induction st with
  | nil=>intro x hx; cases hx
  | cons y r ih =>
    intro x hx
    rw [cc]
    have h':∀ x ∈ r,0≤x.2:=fun z hz=>h z (List.mem_cons_of_mem _ hz)
    rcases List.mem_cons.mp hx with e | e
    · have:=pY h' (φ:=fun _=>1) (fun _=>by show (0:Rat)≤1; grind)
      rw [e]; grind
    · have:=ih h' x e
      have:=h y (List.mem_cons_self ..)
      grind
theorem kA {k:List Int}:∀ {st:Rws},fe st k = 0∨(k,fe st k) ∈ st
  | []=>.inl rfl
  | x :: r=>by
    rw [fe]
    by_cases c:x.1 = k
    · rw [if_pos c]; exact .inr (by rw [← c]; exact List.mem_cons_self ..)
    · rw [if_neg c]
      exact (kA (st:=r)).imp id fun z=>List.mem_cons_of_mem _ z
theorem Row.get {D:Nat} {st:Rws} {s:Rat} (R:Row D st s) (k:List Int):Bq D (fe st k)∧fe st k≤s:=by
  rcases kA (k:=k) (st:=st) with e | e
  · rw [e]
    refine ⟨Bq.zero,?_⟩
    rw [← R.one]
    exact pY (fun x hx=>(R.b x hx).1) fun _=>by show (0:Rat)≤1; grind
  · refine ⟨R.b _ e,?_⟩
    rw [← R.one]
    exact xY (fun x hx=>(R.b x hx).1) _ e
theorem lH {k:List Int} {m:Rat}:∀ {st:Rws} {x:List Int×Rat},x ∈ dX k m st→x ∈ st∨x = (k,fe st k + m)
  | [],x,hx=>by
    rw [dX] at hx
    rw [List.mem_singleton.mp hx,fe]
    right
    have:(0:Rat) + m = m:=by grind
    rw [this]
  | y :: r,x,hx=>by
    rw [dX] at hx
    rw [fe]
    by_cases c:y.1 = k
    · rw [if_pos c] at hx ⊢
      rcases List.mem_cons.mp hx with e | e
      · exact .inr e
      · exact .inl (List.mem_cons_of_mem _ e)
    · rw [if_neg c] at hx ⊢
      rcases List.mem_cons.mp hx with e | e
      · rw [e]; exact .inl (List.mem_cons_self ..)
      · exact (lH e).imp (List.mem_cons_of_mem _) id
theorem Row.add {D:Nat} {st:Rws} {s m:Rat} {k:List Int} (R:Row D st s) (hm:Bq D m) (l:s + m≤1):Row D (dX k m st) (s + m):=by
  refine ⟨fun x hx=>?_,R.nd.add,by rw [mG,R.one]; grind⟩
  rcases lH hx with e | e
  · exact R.b x e
  · rw [e]
    obtain ⟨h1,h2⟩:=R.get k
    exact h1.add hm (by grind)
theorem Row.nil {D:Nat}:Row D [] 0:=⟨(fun x hx=>by cases hx),List.nodup_nil,rfl⟩
theorem gZ {st:Rws} (h:∀ x ∈ st,0≤x.2) {φ:List Int→Rat} (h0:∀ k,0≤φ k) (h1:∀ k,φ k≤1):∀ i,SW φ (st.take i)≤SW (fun _=>1) st:=by
  induction st with
  | nil=>intro i; rw [List.take_nil,eI,eI]; grind
  | cons x r ih =>
    intro i
    have hr:∀ y ∈ r,0≤y.2:=fun y hy=>h y (List.mem_cons_of_mem _ hy)
    have hx:=h x (List.mem_cons_self ..)
    cases i with
    | zero =>
      rw [List.take_zero,eI,cc]
      have:=pY hr (φ:=fun _=>1) (fun _=>by show (0:Rat)≤1; grind)
      grind
    | succ i =>
      rw [List.take_succ_cons,cc,cc]
      have:=ih hr i
      have:=Rat.mul_le_mul_of_nonneg_left (h1 x.1) hx
      grind
theorem j9 {st:Rws} {φ:List Int→Rat} {i:Nat} {x:List Int×Rat} (h:st[i]? = some x):SW φ (st.take (i + 1)) = SW φ (st.take i) + x.2 * φ x.1:=by
  rw [List.take_add_one,h,pU]
  show _ + SW φ [x] = _
  rw [mD]
theorem xa {D:Nat} {st:Rws} (h:∀ x ∈ st,Bq D x.2) (l:SW (fun _=>1) st≤1) {φ:List Int→Rat} (h01:∀ k,φ k = 0∨φ k = 1):∀ i,Bq D (SW φ (st.take i)):=by
  intro i
  have h0:∀ k,0≤φ k:=fun k=>by rcases h01 k with e | e <;> rw [e] <;> grind
  have h1:∀ k,φ k≤1:=fun k=>by rcases h01 k with e | e <;> rw [e] <;> grind
  have nn:∀ x ∈ st,0≤x.2:=fun x hx=>(h x hx).1
  induction i with
  | zero=>rw [List.take_zero,eI]; exact Bq.zero
  | succ i ih =>
    cases e:st[i]? with
    | none=>rw [List.take_add_one,e]; simpa using ih
    | some x =>
      have hx:=List.mem_of_getElem? e
      have le:=gZ nn h0 h1 (i + 1)
      rw [j9 e] at le ⊢
      rcases h01 x.1 with z | z
      · rw [z] at le ⊢
        have:SW φ (st.take i) + x.2 * 0 = SW φ (st.take i):=by grind
        rw [this]; exact ih
      · rw [z] at le ⊢
        have e2:x.2 * 1 = x.2:=by grind
        rw [e2] at le ⊢
        exact ih.add (h x hx) (by grind)
def zy (ws:Rws) (f:List Int→List Int):Rws:=ws.foldl (fun st w=>dX (f w.1) w.2 st) []
theorem jq {φ:List Int→Rat} {f:List Int→List Int} (hf:∀ k,φ (f k) = φ k):∀ (ws st:Rws),SW φ (ws.foldl (fun st w=>dX (f w.1) w.2 st) st) = SW φ st + SW φ ws
  | [],st=>by rw [List.foldl_nil,eI]; grind
  | w :: ws,st=>by rw [List.foldl_cons,jq hf ws,mG,cc,hf]; grind
theorem yf {B:Nat} (B0:0 < B) {tq:TQ} (w:WfQ B tq) (ne:tq≠[]):∃ T:Nat,0 < T∧T≤2 * B∧Bq T (pr1 tq)∧Bq T (pr2 tq):=by
  match tq,w,ne with
  | [(p,h)],w,_ =>
    obtain ⟨H,u⟩:=w _ (List.mem_cons_self ..)
    exact ⟨B,B0,by omega,H,jy H⟩
  | (p,h) :: (o,c) :: r,w,_ =>
    obtain ⟨H,uh⟩:=w _ (List.mem_cons_self ..)
    obtain ⟨C,uc⟩:=w _ (List.mem_cons_of_mem _ (List.mem_cons_self ..))
    obtain ⟨T,T0,T1,t1,t2⟩:=iw B0 H C uh.2 uc.1 uc.2
    refine ⟨T,T0,T1,?_⟩
    show Bq T (if h + c < 1 then h / (h + c) else (1 - c) / (2 - (h + c)))∧Bq T (if h + c < 1 then c / (h + c) else (1 - h) / (2 - (h + c)))
    by_cases z:h + c < 1
    · rw [if_pos z,if_pos z]; exact t1 z
    · rw [if_neg z,if_neg z]; exact t2 z
theorem kS {B:Nat} (B0:0 < B) {tq:TQ} (w:WfQ B tq) (b:Bool) (tk:List Int):WfQ B (nxQ b tq tk).1∧((nxQ b tq tk).1.length + 1≤tq.length∨tq = []):=by
  match tq,w with
  | [],w=>exact ⟨w,.inr rfl⟩
  | [(p,h)],w=>exact ⟨(fun x hx=>by cases hx),.inl (by show 0 + 1≤1; omega)⟩
  | (p,h) :: (o,c) :: r,w =>
    obtain ⟨H,uh⟩:=w _ (List.mem_cons_self ..)
    obtain ⟨C,uc⟩:=w _ (List.mem_cons_of_mem _ (List.mem_cons_self ..))
    have hr:WfQ B r:=fun x hx=>w x (List.mem_cons_of_mem _ (List.mem_cons_of_mem _ hx))
    have ur:UnsA r:=fun x hx=>(hr x hx).2
    have bb:=qB H C uh uc
    have a0:=uh.1; have a1:=uh.2; have b0:=uc.1; have b1:=uc.2
    simp only at a0 a1 b0 b1
    have key:∀ (i:Int) (q:Rat),Bq B q→0≤q→q < 1→WfQ B (upl i q r)∧(upl i q r).length + 1≤((p,h) :: (o,c) :: r).length:=fun i q bq q0 q1=>by
      refine ⟨fun x hx=>?_,by simp only [List.length_cons]; have:=eW (p:=i) (h:=q) (r:=r); omega⟩
      unfold upl at hx
      split at hx
      · exact hr x hx
      · rcases List.mem_cons.mp hx with e | e
        · rw [e]; exact ⟨bq,by grind,q1⟩
        · exact hr x e
    cases b with
    | true =>
      rw [vD uh uc ur]
      by_cases z:h + c < 1
      · rw [if_pos z]; have k:=key p (h + c) (bb.1 z) (by grind) z; exact ⟨k.1,.inl k.2⟩
      · rw [if_neg z]; have k:=key o (h + c - 1) (bb.2 z) (by grind) (by grind); exact ⟨k.1,.inl k.2⟩
    | false =>
      rw [ve uh uc ur]
      by_cases z:h + c < 1
      · rw [if_pos z]; have k:=key o (h + c) (bb.1 z) (by grind) z; exact ⟨k.1,.inl k.2⟩
      · rw [if_neg z]; have k:=key p (h + c - 1) (bb.2 z) (by grind) (by grind); exact ⟨k.1,.inl k.2⟩
theorem gj:∀ (n:Nat) (tq:TQ) (tk:List Int) (m:Rat),(wQ n tq tk m).length≤2 ^ n
  | 0,_,_,_=>by rw [wQ]; simp
  | n + 1,[],_,_=>by rw [wQ]; have:=Nat.pow_pos (n:=n + 1) (show 0 < 2 by decide); simp; omega
  | n + 1,x :: r,tk,m=>by
    rw [wQ,List.length_append,Nat.pow_succ]
    have:=gj n (nxQ true (x :: r) tk).1 (nxQ true (x :: r) tk).2 (m * pr1 (x :: r))
    have:=gj n (nxQ false (x :: r) tk).1 (nxQ false (x :: r) tk).2 (m * pr2 (x :: r))
    omega
theorem qR:∀ (n:Nat) (tq:TQ) (tk:List Int) (m:Rat),wQ n tq tk m≠[]
  | 0,_,_,_=>by rw [wQ]; simp
  | n + 1,[],_,_=>by rw [wQ]; simp
  | n + 1,x :: r,tk,m=>by rw [wQ]; intro z; exact qR n _ _ _ (List.append_eq_nil_iff.mp z).1
end Du
namespace L2
open PySem PySem.Spec PyProof.Rows
section
variable {X:Cx} {a b c d:Expr} {ta tb tc td:TE} {pos:Pos}
def yt (r r' r2:R2) (ta tb tc td:TE):TE:=fun σ H Q=>ta σ H fun x H1=>tb σ H1 fun y H2=>r x y H2 (mB fun k H3=>if k = true then tc σ H3 fun z H4=>r' y z H4 (mB fun k2 H5=>if k2 = true then td σ H5 fun w' H6=>r2 z w' H6 Q else Q (.bl false) H5) else Q (.bl false) H3)
end
section
variable {X:Cx} {o e:Expr} {es:List Expr} {to:TE} {t:TA} {apos cpos:Pos}
theorem pe_m.extend (ho:PE X o to) (ha:PA X (e :: es) t) (hbase:attributeBase o "extend" X.env (eval o X.env) = eval o X.env:=by rfl)
    (hfew:((backTo cpos (starEach (e :: es) X.env)).all (fun x=>!x.1) && (backToKw cpos (keywordEach [] X.env)).all (fun x=>x.1.isSome) && decide ((e :: es).length + ([]:List Keyword).length + (if ([]:List Keyword).isEmpty then 0 else 1) < 30)) = true:=by rfl)
    (hline:(apos.endLine == cpos.line) = true:=by rfl) (hs:starEach (e :: es) X.env = (false,eval e X.env) :: starEach es X.env:=by rfl) (hplain:(backTo cpos (starEach es X.env)).any (·.1) = false:=by rfl) :
    PE X (.Call (.Attribute o "extend" apos) (e :: es) [] cpos) (tBM X.K "list" nO to t):=qI F.plainAttrs_list F.slot_list_extend F.type_list_extend oP ho ha hbase hfew hline hs hplain
end
end L2
namespace L2
open PySem PySem.Spec PyProof.Rows PySem.W
section
variable {X:Cx}
theorem oM (hc:X.calm = true):CallR X (.builtin "min") (fun xs H Q=>∃ (p:Addr) (ns:List Int),xs = [.ref p]∧SqL X.K H p (ns.map V.int)∧0 < ns.length∧∀ m ∈ ns,(∀ x ∈ ns,m≤x)→Q (.int m) H):=by
  intro pins s σ H xs us Q I r h
  obtain ⟨p,ns,rfl,hq,hne,q⟩:=h
  obtain ⟨u,rfl,rx⟩:=eF r
  cases rx
  obtain ⟨its,rv,pl,hz⟩:=I.list hq
  have hi:=eG rv
  obtain ⟨ys,e⟩:=hi.allInts.items
  have hns:ns = ys.toList.map (·.1):=by rw [← hi.numsOf,← nums_intItems,← e]
  have hsz:0 < ys.size:=by have h3:=hne; rw [hns,List.length_map,Array.length_toList] at h3; exact h3
  refine min_intList (I.ok.hd hc) (xs:=ys) (by rw [← e]; exact pl.isList) hsz fun v h' tk hv hk=>?_
  obtain ⟨t,rfl⟩:=intItems_at hv
  obtain ⟨h1,h2⟩:=argBest_lt (numAt ys) (ys.size - 1)
  refine ⟨.int _,H,I.kept hk,⟨_,rfl⟩,q _ ?_ fun x hx=>?_⟩
  · rw [hns,numAt_eq]; exact getD_mem (by rw [List.length_map,Array.length_toList]; omega)
  · rw [hns] at hx
    obtain ⟨j,hj,rfl⟩:=mem_getD hx
    rw [List.length_map,Array.length_toList] at hj
    rw [← numAt_eq]; exact h2 j (by omega)
theorem iR (hc:X.calm = true):CallR X (.builtin "max") (fun xs H Q=>∃ (p:Addr) (ns:List Int),xs = [.ref p]∧SqL X.K H p (ns.map V.int)∧0 < ns.length∧∀ m ∈ ns,(∀ x ∈ ns,x≤m)→Q (.int m) H):=by
  intro pins s σ H xs us Q I r h
  obtain ⟨p,ns,rfl,hq,hne,q⟩:=h
  obtain ⟨u,rfl,rx⟩:=eF r
  cases rx
  obtain ⟨its,rv,pl,hz⟩:=I.list hq
  have hi:=eG rv
  obtain ⟨ys,e⟩:=hi.allInts.items
  have hns:ns = ys.toList.map (·.1):=by rw [← hi.numsOf,← nums_intItems,← e]
  have hsz:0 < ys.size:=by have h3:=hne; rw [hns,List.length_map,Array.length_toList] at h3; exact h3
  refine max_intList (I.ok.hd hc) (xs:=ys) (by rw [← e]; exact pl.isList) hsz fun v h' tk hv hk=>?_
  obtain ⟨t,rfl⟩:=intItems_at hv
  obtain ⟨h1,h2⟩:=argBest_gt (numAt ys) (ys.size - 1)
  refine ⟨.int _,H,I.kept hk,⟨_,rfl⟩,q _ ?_ fun x hx=>?_⟩
  · rw [hns,numAt_eq]; exact getD_mem (by rw [List.length_map,Array.length_toList]; omega)
  · rw [hns] at hx
    obtain ⟨j,hj,rfl⟩:=mem_getD hx
    rw [List.length_map,Array.length_toList] at hj
    rw [← numAt_eq]; exact h2 j (by omega)
end
end L2
namespace My
open PySem L2 FrM Du
def WayAt (K:PySem.W.Frag) (H:Hp) (w:List Int×Rat) (x:V):Prop:=∃ p t z ns,x = .ref p∧H p = some (.tup [.ref t,z])∧H t = some (.tup (ns.map V.int))∧Srt ns w.1∧IsQ K H w.2 z
theorem WayAt.tk {K:PySem.W.Frag} {H H':Hp} (k:TK H H') (w:List Int×Rat) (x:V) (h:WayAt K H w x):WayAt K H' w x:=by
  obtain ⟨p,t,z,ns,h1,h2,h3,h4,h5⟩:=h
  exact ⟨p,t,z,ns,h1,k _ _ h2,k _ _ h3,h4,h5.tk k⟩
def jA (K:PySem.W.Frag) (a:Ad) (n:Nat):Sp:=fun vs H Q _=>∃ (v z:V) (tq:TQ) (tk:List Int) (m:Rat) (B E:Nat),vs = [v,z]∧IsNode K a H v (cF tq,tk)∧IsQ K H m z∧Bq E m∧0 < E∧E * (2 * B) ^ n < Lm∧WfQ B tq∧tq.length < n∧n≤7∧0 < B∧B≤1000000000∧TabsOk (tabs a) H ∧
  ∀ H' l xs,SameT H H'→TabsOk (tabs a) H'→H l = none→H' l = some (.lst xs)→Paired (WayAt K H') (wQ n tq tk m) xs→Q (.ref l) H'
def jU (K:PySem.W.Frag) (a:Ad) (n:Nat):Sp:=fun vs H Q _=>∃ (v:V) (tq:TQ) (tk:List Int) (B:Nat),vs = [v]∧IsNode K a H v (cF tq,tk)∧WfQ B tq∧tq.length < n∧0 < B∧TabsOk (tabs a) H ∧
  ∀ H' (d:Int),SameT H H'→TabsOk (tabs a) H'→0≤d→d≤tq.length→Q (.int d) H'
theorem IsMk.tr {K:PySem.W.Frag} {H:Hp} {f:V} {S:Tl×List Int} (h:IsMk K H f S):IsMkN K (fun _=>True) H f S:=by
  rcases h with ⟨vt,vk,tl,tk,B,h1,h2,h3,h4,h5,h6⟩ | ⟨vk,p,tk,h1,h2,h3,h4⟩ | ⟨vk,tk,h1,h2,h3,h4⟩
  · exact .inl ⟨vt,vk,tl,tk,B,h1,h2,h3,h4,h5,h6,fun _ _=>trivial,fun _ _=>trivial⟩
  · exact .inr (.inl ⟨vk,p,tk,h1,h2,h3,h4,fun _ _=>trivial⟩)
  · exact .inr (.inr ⟨vk,tk,h1,h2,h3,h4,fun _ _=>trivial⟩)
theorem IsDie.tr {K:PySem.W.Frag} {a:Ad} {H:Hp} {v:V} {m1 m2:Int} {S1 S2:Tl×List Int} (h:IsDie K a H v m1 m2 S1 S2):IsDieN K a (fun _=>True) H v m1 m2 S1 S2:=by
  obtain ⟨x,dx,l,p1,p2,f1,f2,h1,h2,h3,h4,h5,h6,h7⟩:=h
  exact ⟨x,dx,l,p1,p2,f1,f2,h1,h2,h3,h4,h5,h6.tr,h7.tr,trivial⟩
theorem IsNode.n {K:PySem.W.Frag} {a:Ad} {H:Hp} {D:Addr} {v:V} {S:Tl×List Int} (e:H D = none) (h:IsNode K a H v S):IsNodeN K a (·≠D) H v S:=h.imp id fun ⟨x,y⟩=>⟨x,y.n e⟩
theorem vK {tq:TQ} (h:cF tq = []):tq = []:=by
  unfold cF at h
  exact List.map_eq_nil_iff.mp h
section
variable {P:Program} {w:World} {K:PySem.W.Frag} {mg:Str→Option Value} {base:Heap} {a:Ad}
theorem oS (T:Txt K mg a) (hB:Bm mg base) (n:Nat) (G_L_ways:FnOk P w K mg base CX0 (n + 8) a.f_L_ways a.d_L_ways ["_law_node", "_law_much"] (jA K a n)):FnOk P w K mg base CX0 (n + 1 + 8) a.f_L_ways a.d_L_ways ["_law_node", "_law_much"] (jA K a (n + 1)):=by
  have G_Told_is_told:FnOk P w K mg base CX0 (n + 8) _ _ _ (spV (.bl true)):=(uM T).mono (by omega)
  have G_Die_is_told:FnOk P w K mg base CX0 (n + 8) _ _ _ (spV (.bl false)):=(uJ T).mono (by omega)
  have G_Told_kept:FnOk P w K mg base CX0 (n + 8) _ _ _ (xL a):=(wD T).mono (by omega)
  have G_Die_kept:FnOk P w K mg base CX0 (n + 8) _ _ _ (spV .non):=(yg T).mono (by omega)
  have G_Told_sides:FnOk P w K mg base CX0 (n + 8) _ _ _ (spV (.int 0)):=(xG T).mono (by omega)
  have G_Die_sides:FnOk P w K mg base CX0 (n + 8) _ _ _ (xA K a):=(ye T).mono (by omega)
  have G_Told_parts:FnOk P w K mg base CX0 (n + 8) _ _ _ vW:=(va T).mono (by omega)
  have G_Die_parts:FnOk P w K mg base CX0 (n + 8) _ _ _ (wv K a):=(uZ T hB).mono (by omega)
  have G_L_times:FnOk P w K mg base CX0 (n + 8) _ _ _ (cH (· * ·) (fun _=>True) K):=(mx T).mono (by omega)
  have G_L_low:FnOk P w K mg base CX0 (n + 8) _ _ _ eM:=(j8 T).mono (by omega)
  refine T.F_L_ways.ok sc_L_ways (fun vs H Q E h=>?_) (fun cdv A outer s H vs Q E hr h=>?_)
  · obtain ⟨v,z,tq,tk,m,B,E,rfl,_⟩:=h; rfl
  · obtain ⟨v,z,tq,tk,m,B,E,rfl,hn,hm,bm,E0,lm,wf,len,n6,B0,B1,hT,q⟩:=h
    have small:sizeLine = 16777216:=sizeLine_eq
    refine ⟨_,(ah (cJ (dA (PE.or (bQ (vr 0) T.cl_Told T.mt_Told_is_told G_Told_is_told hr T.B_Told_is_told .nil ap) (bQ (vr 0) T.cl_Die T.mt_Die_is_told G_Die_is_told hr T.B_Die_is_told .nil ap))) (ak (ax (bO (aa (aS (aa (PE.or (bQ (vr 0) T.cl_Told T.mt_Told_kept G_Told_kept hr T.B_Told_kept .nil ap) (bQ (vr 0) T.cl_Die T.mt_Die_kept G_Die_kept hr T.B_Die_kept .nil ap)) (aa (vr 1) ae))) ae)))) bF) (ah (aA (i:=2) sc_L_ways.nd rfl (Or.inl rfl) (bO ae)) (ah (cL PassesOwn.never rfl (bG (PE.or (bQ (vr 0) T.cl_Told T.mt_Told_parts G_Told_parts hr T.B_Told_parts .nil ap) (bQ (vr 0) T.cl_Die T.mt_Die_parts G_Die_parts hr T.B_Die_parts .nil ap))) (dq rfl (au (ar (i:=3) sc_L_ways.nd rfl (Or.inl rfl)) (au (ar (i:=4) sc_L_ways.nd rfl (Or.inl rfl)) bj))) (ak (eX (pe_m.extend (vr 2) (aa (ao G_L_ways hr rfl T.m_L_ways T.F_L_ways.kp T.B_L_ways .nil ap (aa (vr 4) (aa (ao G_L_times hr rfl T.m_L_times T.F_L_times.kp T.B_L_times .nil ap (aa (vr 1) (aa (ao G_L_low hr rfl T.m_L_low T.F_L_low.kp T.B_L_low .nil ap (aa (vr 3) (aa (PE.or (bQ (vr 0) T.cl_Told T.mt_Told_sides G_Told_sides hr T.B_Told_sides .nil ap) (bQ (vr 0) T.cl_Die T.mt_Die_sides G_Die_sides hr T.B_Die_sides .nil ap)) ae))) ae))) ae))) ae))))) (ak (ax (vr 2)))))),?_⟩
    rcases hn with ⟨h0,x,dx,t,ns,rfl,hx,ht,hs⟩ | ⟨h0,hd⟩
    · have e0:=vK h0
      subst e0
      refine .inl ⟨x,dx,_,rfl,hx,rfl,_,rfl,?_⟩
      refine .inl ⟨x,dx,_,rfl,hx,rfl,x,dx,t,rfl,hx,?_⟩
      refine ⟨bC _ _,fun p fp=>?_⟩
      have s1:=Same.new (o:=.tup [.ref t,z]) fp
      refine ⟨by show 1≤sizeLine; decide,fun l fl=>?_⟩
      have s2:=Same.new (o:=.lst [.ref p]) fl
      have s12:=s1.trans s2
      rw [gX] at q
      exact q _ l _ s12.t (hT.same s12) (s1.free fl) ad (.cons ⟨p,t,z,ns,rfl,s2 _ _ ad,s12 _ _ ht,hs,hm.same s12⟩ .nil)
    · have ne:tq≠[]:=fun e=>h0 (by rw [e]; rfl)
      obtain ⟨m1p,m2p,msum,p1,p2⟩:=yi B0 B1 wf ne
      rw [og B0 true wf,og B0 false wf] at hd
      have ew:wQ (n + 1) tq tk m = wQ n (nxQ true tq tk).1 (nxQ true tq tk).2 (m * pr1 tq) ++ wQ n (nxQ false tq tk).1 (nxQ false tq tk).2 (m * pr2 tq):=by
        cases tq with
        | nil=>exact absurd rfl ne
        | cons y r=>rw [wQ]
      rw [ew] at q
      obtain ⟨T2,T0,T1,b1,b2⟩:=yf B0 wf ne
      have wt:=kS B0 wf true tk
      have wf':=kS B0 wf false tk
      have lt1:(nxQ true tq tk).1.length < n:=by rcases wt.2 with h | h; omega; exact absurd h ne
      have lf1:(nxQ false tq tk).1.length < n:=by rcases wf'.2 with h | h; omega; exact absurd h ne
      have lmn:E * T2 * (2 * B) ^ n < Lm:=by
        refine Nat.lt_of_le_of_lt ?_ lm
        rw [Nat.pow_succ,Nat.mul_assoc,Nat.mul_comm T2]
        exact Nat.mul_le_mul_left _ (Nat.mul_le_mul_left _ T1)
      have lE:E < Lm:=lU (Nat.pow_pos (by omega)) lm
      have lT:T2 < Lm:=Nat.lt_of_le_of_lt T1 (uL B1)
      generalize nxQ true tq tk = N1 at *
      generalize nxQ false tq tk = N2 at *
      generalize pr1 tq = r1 at *
      generalize pr2 tq = r2 at *
      generalize sz1 (cF tq) = m1 at *
      generalize sz2 (cF tq) = m2 at *
      have two:(2:Nat) ^ n≤128:=Nat.le_trans (Nat.pow_le_pow_right (by decide) (show n≤7 by omega)) (by decide)
      obtain ⟨x,dx,l0,pp1,pp2,f1,f2,rfl,hx,_⟩:=id hd
      refine .inr ⟨x,dx,_,rfl,hx,rfl,_,rfl,?_⟩
      refine ⟨Nat.zero_le _,fun Pf hPf=>?_⟩
      have hdn:=hd.n hPf
      have s1:=Same.new (o:=.lst []) hPf
      have hP1:=ad (H:=H) (a:=Pf) (o:=.lst [])
      generalize upd H Pf (.lst []) = H1 at s1 hP1
      have hT1:=hT.same s1
      refine .inr ⟨x,dx,_,rfl,s1 _ _ hx,rfl,_,m1,m2,_,_,(·≠Pf),rfl,hdn.t s1.t,(fun b hb z=>hb [] (by rw [z]; exact hP1)),hT1,fun H2 r q1 q2 n1 n2 t2 hT2 fr hr2 g1 g2 nd1 nd2=>?_⟩
      have hP2:=t2.at hP1
      have nr:r≠Pf:=fun z=>by rw [z,hP1] at fr; cases fr
      have t02:=s1.t.trans t2
      refine .inl ⟨⟨_,SqL.of hr2⟩,cI (K:=K) (a:=r) (xs:=[.ref q1,.ref q2]) (fun i σ H'=>∃ (ys:List V) (x3 x4:Option V),σ = [some (.ref x),some z,some (.ref Pf),x3,x4]∧SameT H H'∧TabsOk (tabs a) H'∧H' Pf = some (.lst ys)∧H' r = some (.lst [.ref q1,.ref q2])∧H' q1 = some (.tup [.int m1,n1])∧H' q2 = some (.tup [.int m2,n2])∧IsNodeN K a (·≠Pf) H' n1 (cF N1.1,N1.2)∧IsNodeN K a (·≠Pf) H' n2 (cF N2.1,N2.2) ∧
        Paired (WayAt K H') ((if 1≤i then wQ n N1.1 N1.2 (m * r1) else []) ++ (if 2≤i then wQ n N2.1 N2.2 (m * r2) else [])) ys) ⟨[],none,none,rfl,t02,hT2,hP2,hr2,g1,g2,nd1,nd2,.nil⟩ (fun i σ H' _ h=>let ⟨_,_,_,_,_,_,_,e,_⟩:=h; SqL.of e) ?_ ?_⟩
      · rintro i y σ H' hy ⟨ys,x3,x4,rfl,t3,hT3,hP3,hr3,e1,e2,k1,k2,hw⟩
        obtain ⟨qi,mi,ni,Ni,ri,rfl,eq,mi0,mi1,er,bqi,kni,wni,lni,join⟩:∃ (qi:Addr) (mi:Int) (ni:V) (Ni:TQ×List Int) (ri:Rat),y = .ref qi∧H' qi = some (.tup [.int mi,ni])∧0 < mi∧mi≤1000000000∧((mi:Int):Rat) / ((m1 + m2:Int):Rat) = ri∧Bq T2 ri∧IsNodeN K a (·≠Pf) H' ni (cF Ni.1,Ni.2)∧WfQ B Ni.1∧Ni.1.length < n ∧
            ∀ (W:List Int×Rat→V→Prop) ys zs,Paired W ((if 1≤i then wQ n N1.1 N1.2 (m * r1) else []) ++ (if 2≤i then wQ n N2.1 N2.2 (m * r2) else [])) ys→Paired W (wQ n Ni.1 Ni.2 (m * ri)) zs→Paired W ((if 1≤i + 1 then wQ n N1.1 N1.2 (m * r1) else []) ++ (if 2≤i + 1 then wQ n N2.1 N2.2 (m * r2) else [])) (ys ++ zs):=by
          match i,hy with
          | 0,hy =>
            cases hy
            refine ⟨q1,m1,n1,N1,r1,rfl,e1,m1p,by omega,p1,b1,k1,wt.1,lt1,fun W ys zs h1 h2=>?_⟩
            have h1:Paired W [] ys:=h1
            cases h1
            show Paired W (wQ n N1.1 N1.2 (m * r1) ++ []) zs
            rw [List.append_nil]; exact h2
          | 1,hy =>
            cases hy
            refine ⟨q2,m2,n2,N2,r2,rfl,e2,m2p,by omega,p2,b2,k2,wf'.1,lf1,fun W ys zs h1 h2=>?_⟩
            have h1:Paired W (wQ n N1.1 N1.2 (m * r1) ++ []) ys:=h1
            rw [List.append_nil] at h1
            exact hG h1 h2
        have hP0:H' Pf = some (.lst ys):=hP3
        refine ⟨qi,_,rfl,SqT.of eq,rfl,_,_,rfl,_,_,rfl,rfl,?_⟩
        have hd3:=hd.t t3
        refine ⟨.inl ⟨rfl,_,SqL.of hP3⟩,?_⟩
        refine .inr ⟨x,dx,_,rfl,t3.at hx,rfl,_,m1,m2,_,_,rfl,hd3,fun H4 s4=>?_⟩
        refine ⟨mi,m1 + m2,rfl,by omega,iP (by omega) (by omega),iP (by omega) (by omega),fun H5 p5 s5 hp5=>?_⟩
        have s45:=s4.trans s5
        have q5:IsQ K H5 ri (.ref p5):=⟨p5,rfl,.inl (by rw [hp5,fN _ (show 0 < m1 + m2 by omega),er])⟩
        refine ⟨_,_,m,ri,rfl,(hm.t t3).same s45,q5,bm.bb E0 lE,bqi.bb T0 lT,trivial,fun H6 z6 s6 q6=>?_⟩
        have s46:=s45.trans s6
        refine ⟨ni,z6,Ni.1,Ni.2,m * ri,B,E * T2,rfl,(kni.t s46.t).w,q6,bm.mul bqi,Nat.mul_pos E0 T0,lmn,wni,lni,by omega,B0,B1,hT3.same s46,fun H7 l7 zs t7 hT7 fl7 hl7 hw7=>?_⟩
        have t37:=s46.t.trans t7
        have hP7:=t37.at hP3
        have l1:ys.length≤256:=by
          rw [← hw.length,List.length_append]
          have a1:(if 1≤i then wQ n N1.1 N1.2 (m * r1) else []).length≤128:=by
            split
            · exact Nat.le_trans (gj ..) two
            · simp
          have a2:(if 2≤i then wQ n N2.1 N2.2 (m * r2) else []).length≤128:=by
            split
            · exact Nat.le_trans (gj ..) two
            · simp
          omega
        have l2:zs.length≤128:=by rw [← hw7.length]; exact Nat.le_trans (gj ..) two
        refine ⟨Pf,l7,ys,zs,rfl,rfl,hP7,hl7,by omega,?_⟩
        have np:∀ {b:Addr} {o:HO},H7 b = some o→(∀ us,o≠.lst us)→b≠Pf:=fun e n z=>by rw [z,hP7] at e; cases e; exact n _ rfl
        have tkP:TK H7 (upd H7 Pf (.lst (ys ++ zs))):=TK.lst hP7
        refine ⟨ys ++ zs,_,_,rfl,(t3.trans t37).put hPf,hT7.put (fun ps z=>by rw [hP7] at z; cases z) (fun φ z=>by rw [hP7] at z; cases z),ad,by rw [ai nr]; exact t37.at hr3,?_,?_,(k1.t t37).put hP7 (fun b h=>h),(k2.t t37).put hP7 (fun b h=>h),join _ _ _ (ay (fun w x h=>(h.tk (SameT.tk t37)).tk tkP) hw) (ay (fun w x h=>h.tk tkP) hw7)⟩
        · rw [ai (np (t37.at e1) (fun us z=>nomatch z))]; exact t37.at e1
        · rw [ai (np (t37.at e2) (fun us z=>nomatch z))]; exact t37.at e2
      · rintro σ H' ⟨ys,x3,x4,rfl,t3,hT3,hP3,_,_,_,_,_,hw⟩
        exact q _ Pf ys t3 hT3 hPf hP3 hw
theorem mX (T:Txt K mg a) (hB:Bm mg base):∀ n,FnOk P w K mg base CX0 (n + 8) a.f_L_ways a.d_L_ways ["_law_node", "_law_much"] (jA K a n)
  | n + 1=>oS T hB n (mX T hB n)
  | 0=>⟨fun _ _ _ _ h=>by obtain ⟨v,z,tq,tk,m,B,E,rfl,_⟩:=h; rfl,fun _ _ _ _ _ _ _ _ _ _ _ _ _ h=>by obtain ⟨v,z,tq,tk,m,B,E,_,_,_,_,_,_,_,h,_⟩:=h; exact absurd h (Nat.not_lt_zero _)⟩
theorem oU (T:Txt K mg a) (hB:Bm mg base) (n:Nat) (G_L_deep:FnOk P w K mg base CX0 (n + 8) a.f_L_deep a.d_L_deep ["_law_node"] (jU K a n)):FnOk P w K mg base CX0 (n + 1 + 8) a.f_L_deep a.d_L_deep ["_law_node"] (jU K a (n + 1)):=by
  have G_Told_is_told:FnOk P w K mg base CX0 (n + 8) _ _ _ (spV (.bl true)):=(uM T).mono (by omega)
  have G_Die_is_told:FnOk P w K mg base CX0 (n + 8) _ _ _ (spV (.bl false)):=(uJ T).mono (by omega)
  have G_Told_parts:FnOk P w K mg base CX0 (n + 8) _ _ _ vW:=(va T).mono (by omega)
  have G_Die_parts:FnOk P w K mg base CX0 (n + 8) _ _ _ (wv K a):=(uZ T hB).mono (by omega)
  refine T.F_L_deep.ok oQ (fun vs H Q E h=>?_) (fun cdv A outer s H vs Q E hr h=>?_)
  · obtain ⟨v,tq,tk,B,rfl,_⟩:=h; rfl
  · obtain ⟨v,tq,tk,B,rfl,hn,wf,len,B0,hT,q⟩:=h
    have small:sizeLine = 16777216:=sizeLine_eq
    refine ⟨_,(ah (cJ (dA (PE.or (bQ (vr 0) T.cl_Told T.mt_Told_is_told G_Told_is_told hr T.B_Told_is_told .nil ap) (bQ (vr 0) T.cl_Die T.mt_Die_is_told G_Die_is_told hr T.B_Die_is_told .nil ap))) (ak (ax aj)) bF) (ak (ax (aw cG aj (aC (iR rfl) rfl T.z_max pP (aa (cC rfl (N:=["_law_many", "_law_part"]) (ix:=[none,none]) ⟨rfl,rfl,rfl,rfl,trivial⟩ (bG (PE.or (bQ (vr 0) T.cl_Told T.mt_Told_parts G_Told_parts hr T.B_Told_parts .nil ap) (bQ (vr 0) T.cl_Die T.mt_Die_parts G_Die_parts hr T.B_Die_parts .nil ap))) ⟨fun C s H fp=>(dj (K:=K) (n:=2) rfl rfl (au (ar (i:=0) (show List.Nodup (["_law_many", "_law_part"]:List Str) by decide +kernel) rfl (Or.inl rfl)) (au (ar (i:=1) (show List.Nodup (["_law_many", "_law_part"]:List Str) by decide +kernel) rfl (Or.inl rfl)) bj))),fun C s H fp=>cA,fun C s H fp=>(ao G_L_deep hr rfl T.m_L_deep T.F_L_deep.kp T.B_L_deep .nil ap (aa (vr 1) ae))⟩) ae)))))),?_⟩
    rcases hn with ⟨h0,x,dx,t,ns,rfl,hx,ht,hs⟩ | ⟨h0,hd⟩
    · refine .inl ⟨x,dx,_,rfl,hx,rfl,_,rfl,?_⟩
      exact q _ 0 SameT.refl hT (by decide) (by omega)
    · have ne:tq≠[]:=fun e=>h0 (by rw [e]; rfl)
      rw [og B0 true wf,og B0 false wf] at hd
      have wt:=kS B0 wf true tk
      have wf':=kS B0 wf false tk
      have lt1:(nxQ true tq tk).1.length + 1≤tq.length:=by rcases wt.2 with h | h; exact h; exact absurd h ne
      have lf1:(nxQ false tq tk).1.length + 1≤tq.length:=by rcases wf'.2 with h | h; exact h; exact absurd h ne
      generalize nxQ true tq tk = N1 at *
      generalize nxQ false tq tk = N2 at *
      obtain ⟨x,dx,l0,pp1,pp2,f1,f2,rfl,hx,_⟩:=id hd
      refine .inr ⟨x,dx,_,rfl,hx,rfl,_,rfl,?_⟩
      refine .inr ⟨x,dx,_,rfl,hx,rfl,_,_,_,_,_,(fun _=>True),rfl,hd.tr,(fun b hb=>trivial),hT,fun H2 r q1 q2 n1 n2 t2 hT2 fr hr2 g1 g2 nd1 nd2=>?_⟩
      refine .inl ⟨⟨_,SqL.of hr2⟩,fun D hD=>?_⟩
      have k1:=nd1.w.n hD
      have k2:=nd2.w.n hD
      have s1:=Same.new (o:=.lst []) hD
      have ext:∀ {H':Hp},TabsOk (tabs a) H'→∀ {ys:List V} {ys':List V},H' D = some (.lst ys)→TabsOk (tabs a) (upd H' D (.lst ys')):=fun hT' ys ys' e=>hT'.put (fun ps z=>by rw [e] at z; cases z) fun φ z=>by rw [e] at z; cases z
      refine bB (K:=K) (a:=r) (xs:=[.ref q1,.ref q2]) (fun i ys H'=>SameT H2 H'∧TabsOk (tabs a) H'∧H' D = some (.lst ys)∧IsNodeN K a (·≠D) H' n1 (cF N1.1,N1.2)∧IsNodeN K a (·≠D) H' n2 (cF N2.1,N2.2)∧∃ ds:List Int,ys = ds.map V.int∧ds.length = i∧∀ d ∈ ds,0≤d∧d + 1≤(tq.length:Int))
        ⟨s1.t,hT2.same s1,ad,k1.t s1.t,k2.t s1.t,[],rfl,rfl,fun d hd=>by cases hd⟩ (fun i ys H' h=>SqL.of (h.1.at hr2)) (fun i ys H' h=>h.2.2.1) ?_ ?_
      · rintro i y ys H' P' hy ⟨t3,hT3,hD3,e1,e2,ds,rfl,hl,hds⟩ hP'
        obtain ⟨qi,mi,ni,Ni,rfl,eq,kni,wni,lni⟩:∃ (qi:Addr) (mi:V) (ni:V) (Ni:TQ×List Int),y = .ref qi∧H' qi = some (.tup [mi,ni])∧IsNodeN K a (·≠D) H' ni (cF Ni.1,Ni.2)∧WfQ B Ni.1∧Ni.1.length + 1≤tq.length:=by
          match i,hy with
          | 0,hy=>cases hy; exact ⟨q1,_,n1,N1,rfl,t3.at g1,e1,wt.1,lt1⟩
          | 1,hy=>cases hy; exact ⟨q2,_,n2,N2,rfl,t3.at g2,e2,wf'.1,lf1⟩
        have il:i < 2:=(List.getElem?_eq_some_iff.mp hy).1
        refine ⟨qi,_,rfl,SqT.of eq,rfl,_,_,rfl,_,_,rfl,rfl,trivial,ni,Ni.1,Ni.2,B,rfl,kni.w,wni,by omega,B0,hT3,fun H4 d t4 hT4 d0 d1=>?_⟩
        have hD4:=t4.at hD3
        refine ⟨hD4,by rw [List.length_map]; omega,hP' _ _ ⟨(t3.trans t4).put hD,ext hT4 hD4,ad,(e1.t t4).put hD4 (fun b h=>h),(e2.t t4).put hD4 (fun b h=>h),ds ++ [d],by rw [List.map_append]; rfl,by rw [List.length_append,hl]; rfl,fun d' hd'=>?_⟩⟩
        rcases List.mem_append.mp hd' with z | z
        · exact hds d' z
        · rw [List.mem_singleton.mp z]; omega
      · rintro ys H' ⟨t3,hT3,hD3,e1,e2,ds,rfl,hl,hds⟩
        refine ⟨D,ds,rfl,SqL.of hD3,by rw [hl]; show 0 < 2; decide,fun m hm _=>?_⟩
        have:=hds m hm
        exact q _ _ (t2.trans t3) hT3 (by omega) (by omega)
theorem nw (T:Txt K mg a) (hB:Bm mg base):∀ n,FnOk P w K mg base CX0 (n + 8) a.f_L_deep a.d_L_deep ["_law_node"] (jU K a n)
  | n + 1=>oU T hB n (nw T hB n)
  | 0=>⟨fun _ _ _ _ h=>by obtain ⟨v,tq,tk,B,rfl,_⟩:=h; rfl,fun _ _ _ _ _ _ _ _ _ _ _ _ _ h=>by obtain ⟨v,tq,tk,B,_,_,_,h,_⟩:=h; exact absurd h (Nat.not_lt_zero _)⟩
end
end My
namespace L2
open PySem PySem.Spec PyProof.Rows PySem.W
section
variable {X:Cx} {o e:Expr} {to:TE} {apos cpos:Pos}
theorem pe_m.itemsR (ho:PE X o to) (hbase:attributeBase o "items" X.env (eval o X.env) = eval o X.env:=by rfl) (hline:(apos.endLine == cpos.line) = true:=by rfl) :
    PE X (.Call (.Attribute o "items" apos) [] [] cpos) (fun σ H Q=>to σ H fun x H1=>nI x [] H1 Q):=by
  intro pins s σ H Q I h
  refine wpAny_Call_method0_late hbase hline (thn (ho pins s σ H _ I h) fun v s1 ⟨x,H1,I1,r1,q1⟩=>?_)
  obtain ⟨d,kvs,rfl,hv,hd,q⟩:=id q1
  obtain ⟨ob,e1,ex⟩:∃ ob,s1.heap.get? d = some ob∧ob.ExactDict:=by
    obtain ⟨_,_,_,_,o,_,_,e,ex,_⟩:=(show ObjOk X.prog X.w H1 s1.heap d (.dT kvs) from hd.ok I1.hok)
    exact ⟨o,e,ex⟩
  cases (show v = Value.ref d from r1)
  exact ⟨"dict", "dict.items",F.plainAttrs_dict,F.slot_dict_items,F.type_dict_items,⟨ob,e1,ex.1⟩,fun a e2=>by cases e2; exact ⟨ob,e1,ex.2.1⟩,Calls.callWith_builtin rfl (PySem.evalArgs_none (oY pins s1 σ H1 _ [] _ [] Q I1 r1 .nil q1))⟩
end
end L2
namespace My
open PySem L2 FrM Du
def WayS (K:PySem.W.Frag) (H:Hp) (w:List Int×Rat) (x:V):Prop:=∃ p t z,x = .ref p∧H p = some (.tup [.ref t,z])∧H t = some (.tup (w.1.map V.int))∧IsQ K H w.2 z
theorem WayS.tk {K:PySem.W.Frag} {H H':Hp} (k:TK H H') (w:List Int×Rat) (x:V) (h:WayS K H w x):WayS K H' w x:=by
  obtain ⟨p,t,z,h1,h2,h3,h5⟩:=h
  exact ⟨p,t,z,h1,k _ _ h2,k _ _ h3,h5.tk k⟩
def kI (ns:List Int):List Key:=ns.map Sum.inl
theorem lO {a b:List Int} (h:kI a = kI b):a = b:=List.map_inj_right (f:=(Sum.inl:Int→Key)) (fun x y e=>by cases e; rfl) |>.mp h
theorem vE (ns:List Int):(kI ns).map kV = ns.map V.int:=by unfold kI; rw [List.map_map]; rfl
def RwR (K:PySem.W.Frag) (H:Hp) (x:List Int×Rat) (kv:List Key×V):Prop:=kv.1 = kI x.1∧IsQ K H x.2 kv.2
abbrev RwAt (K:PySem.W.Frag) (H:Hp):Rws→List (List Key×V)→Prop:=Paired (RwR K H)
theorem RwAt.tk {K:PySem.W.Frag} {H H':Hp} (k:TK H H') {st:Rws} {kvs:List (List Key×V)} (h:RwAt K H st kvs):RwAt K H' st kvs:=ay (fun x kv (r:RwR K H x kv)=>⟨r.1,r.2.tk k⟩) h
theorem RwAt.get {K:PySem.W.Frag} {H:Hp} {k:List Int}:∀ {st:Rws} {kvs:List (List Key×V)},RwAt K H st kvs→(cy kvs (kI k) = none∧fe st k = 0)∨∃ z,cy kvs (kI k) = some z∧IsQ K H (fe st k) z
  | _,_,.nil=>.inl ⟨rfl,rfl⟩
  | x :: st,kv :: kvs,.cons r t=>by
    rw [fe]
    by_cases c:x.1 = k
    · rw [if_pos c,bR (by rw [r.1,c])]
      exact .inr ⟨_,rfl,r.2⟩
    · rw [if_neg c,bT (fun z=>c (lO (r.1.symm.trans z)))]
      exact RwAt.get t
theorem sI {p:List Key×V} {r:List (List Key×V)} {k:List Key} {v:V} (h:¬ p.1 = k):cM (p :: r) k v = p :: cM r k v:=by
  unfold cM
  rw [List.any_cons,decide_eq_false h,Bool.false_or]
  split
  · rw [List.map_cons,if_neg h]
  · rfl
theorem sR {p:List Key×V} {r:List (List Key×V)} {k:List Key} {v:V} (h:p.1 = k) (n:∀ q ∈ r,¬ q.1 = k):cM (p :: r) k v = (p.1,v) :: r:=by
  unfold cM
  rw [List.any_cons,decide_eq_true h,Bool.true_or,if_pos rfl,List.map_cons,if_pos h]
  congr 1
  have:∀ q ∈ r,(if q.1 = k then (q.1,v) else q) = q:=fun q hq=>if_neg (n q hq)
  rw [List.map_congr_left this,List.map_id']
theorem RwAt.keys {K:PySem.W.Frag} {H:Hp}:∀ {st:Rws} {kvs:List (List Key×V)},RwAt K H st kvs→∀ q ∈ kvs,∃ x ∈ st,q.1 = kI x.1
  | _,_,.nil,q,h=>by cases h
  | x :: st,kv :: kvs,.cons r t,q,h=>by
    rcases List.mem_cons.mp h with e | e
    · rw [e]; exact ⟨x,List.mem_cons_self ..,r.1⟩
    · obtain ⟨y,hy,e'⟩:=RwAt.keys t q e
      exact ⟨y,List.mem_cons_of_mem _ hy,e'⟩
theorem RwAt.put {K:PySem.W.Frag} {H:Hp} {k:List Int} {m:Rat} {z:V}:∀ {st:Rws} {kvs:List (List Key×V)},RwAt K H st kvs→NdR st→IsQ K H (fe st k + m) z→RwAt K H (dX k m st) (cM kvs (kI k) z)
  | _,_,.nil,_,hz=>by
    rw [fe] at hz
    have:(0:Rat) + m = m:=by grind
    rw [this] at hz
    exact .cons ⟨rfl,hz⟩ .nil
  | x :: st,kv :: kvs,.cons r t,nd,hz=>by
    rw [dX]
    rw [fe] at hz
    unfold NdR at nd
    rw [List.map_cons,List.nodup_cons] at nd
    by_cases c:x.1 = k
    · rw [if_pos c] at hz ⊢
      rw [sR (by rw [r.1,c]) (fun q hq e=>by
        obtain ⟨y,hy,e'⟩:=RwAt.keys t q hq
        have:=lO (e'.symm.trans e)
        exact nd.1 (by rw [c,← this]; exact List.mem_map.mpr ⟨y,hy,rfl⟩))]
      exact .cons ⟨by show kv.1 = kI k; rw [r.1,c],hz⟩ t
    · rw [if_neg c] at hz ⊢
      rw [sI (fun e=>c (lO (r.1.symm.trans e)))]
      exact .cons r (RwAt.put t nd.2 hz)
def iO (W:Rws):Rws:=W.foldl (fun st w=>dX w.1 w.2 st) []
theorem jx {W:Rws} {i:Nat} {w:List Int×Rat} (h:W[i]? = some w):iO (W.take (i + 1)) = dX w.1 w.2 (iO (W.take i)):=by
  unfold iO
  rw [List.take_add_one,h,List.foldl_append]
  rfl
theorem sY {φ:List Int→Rat} (W:Rws):SW φ (iO W) = SW φ W:=by
  have:=jq (φ:=φ) (f:=id) (fun _=>rfl) W []
  rw [eI] at this
  show SW φ (W.foldl (fun st w=>dX (id w.1) w.2 st) []) = _
  rw [this]; grind
theorem kZ (i:Int) (ns:List Int):inV (.int i) (ns.map V.int) = decide (i ∈ ns):=by
  unfold inV
  rw [List.any_map]
  induction ns with
  | nil=>rfl
  | cons x r ih =>
    rw [List.any_cons,ih]
    simp only [List.mem_cons,Function.comp]
    by_cases e:i = x
    · subst e; simp [eqV]
    · have e':¬ x = i:=fun z=>e z.symm
      simp [eqV,e,e']
theorem jj (ns:List Int):(ns.map V.int).all fU = true:=by
  rw [List.all_map]
  exact List.all_eq_true.mpr fun x _=>rfl
def sT (W:Rws) (n i:Nat):List (Int×Int):=(List.range n).map fun j=>fr (SW (b7 (i:Nat) (j:Nat)) W)
def wm (W:Rws) (n:Nat):List (List (Int×Int)):=(List.range n).map (sT W n)
def uv (K:PySem.W.Frag):Sp:=fun vs H Q _=>∃ (lw lp:Addr) (W:Rws) (ws:List V) (n D:Nat),vs = [.ref lw,.ref lp]∧H lw = some (.lst ws)∧Paired (WayS K H) W ws∧H lp = some (.lst ((List.range n).map fun (o:Nat)=>V.int (o:Int)))∧n≤6∧W.length≤128∧(∀ w ∈ W,Bq D w.2)∧SW (fun _=>1) W≤1∧0 < D∧D < Lm ∧
  ∀ H' r xs,Same H H'→H r = none→H' r = some (.lst xs)→MatAt K r H' (wm W n) xs→Q (.ref r) H'
def But2 (d f:Addr) (H H':Hp):Prop:=∀ b u,b≠d→b≠f→H b = some u→H' b = some u
theorem But2.trans {d f:Addr} {H H' H2:Hp} (s:But2 d f H H') (t:But2 d f H' H2):But2 d f H H2:=fun b u n m e=>t b u n m (s b u n m e)
theorem MatAt.mv {K:PySem.W.Frag} {D:Addr} {H H':Hp}:∀ {fss:List (List (Int×Int))} {xs:List V},(∀ b us,V.ref b ∈ xs→H b = some (.lst us)→H' b = some (.lst us))→TK H H'→MatAt K D H fss xs→MatAt K D H' fss xs
  | _,_,_,_,.nil=>.nil
  | _,_,hl,k,.cons ⟨q,ys,h1,h2,h3,h4⟩ t=>.cons ⟨q,ys,h1,h2,hl q ys (by rw [h1]; exact List.mem_cons_self ..) h3,h4.tk k⟩ (MatAt.mv (fun b us hb=>hl b us (List.mem_cons_of_mem _ hb)) k t)
theorem yC (i j:Int) (k:List Int):b7 i j k = 0∨b7 i j k = 1:=by
  unfold b7 ind
  split
  · exact .inr rfl
  · exact .inl rfl
theorem Rd.dct {H H':Hp} {d:Addr} {kvs:List (List Key×V)} (s:∀ u,H d = some u→H' d = some u) (h:Rd H d (.dT kvs)):Rd H' d (.dT kvs):=h.imp (s _) fun ⟨o,e⟩=>⟨o,s _ e⟩
section
variable {P:Program} {w:World} {K:PySem.W.Frag} {mg:Str→Option Value} {base:Heap} {a:Ad}
theorem v6 (T:Txt K mg a):FnOk P w K mg base CX0 3 a.f_L_together a.d_L_together ["_law_ways_here", "_law_places"] (uv K):=by
  have G_L_plus:FnOk P w K mg base CX0 2 _ _ _ (cH (· + ·) (fun _=>True) K):=js T
  refine T.F_L_together.ok sc_L_together (fun vs H Q E h=>?_) (fun cdv A outer s H vs Q E hr h=>?_)
  · obtain ⟨lw,lp,W,ws,n,D,rfl,_⟩:=h; rfl
  · obtain ⟨lw,lp,W,ws,n,D,rfl,hlw,hW,hlp,n6,wl,hb,h1,D0,lD,q⟩:=h
    have small:sizeLine = 16777216:=sizeLine_eq
    refine ⟨_,(ah (aA (i:=2) sc_L_together.nd rfl (Or.inl rfl) kB) (ah (cL PassesOwn.never rfl (bG (vr 0)) (dq rfl (au (ar (i:=3) sc_L_together.nd rfl (Or.inl rfl)) (au (ar (i:=4) sc_L_together.nd rfl (Or.inl rfl)) bj))) (ak (kc (jp hr) (vr 2) (vr 3) (ao G_L_plus hr rfl T.m_L_plus T.F_L_plus.kp T.B_L_plus .nil ap (aa (kP (jp hr) (vr 2) (vr 3) (aS (aa aj (aa aj ae))) ⟨rfl,rfl,rfl,rfl⟩) (aa (vr 4) ae))) rfl))) (ah (aA (i:=5) sc_L_together.nd rfl (Or.inl rfl) (bO ae)) (ah (cL PassesOwn.never rfl (bG (vr 1)) (ar (i:=6) sc_L_together.nd rfl (Or.inl rfl)) (ah (aA (i:=7) sc_L_together.nd rfl (Or.inl rfl) (bO ae)) (ah (cL PassesOwn.never rfl (bG (vr 1)) (ar (i:=8) sc_L_together.nd rfl (Or.inl rfl)) (ah (aA (i:=9) sc_L_together.nd rfl (Or.inl rfl) (aS (aa aj (aa aj ae)))) (ah (cL PassesOwn.never rfl (rJ (pe_m.itemsR (vr 2))) (dq rfl (au (ar (i:=3) sc_L_together.nd rfl (Or.inl rfl)) (au (ar (i:=4) sc_L_together.nd rfl (Or.inl rfl)) bj))) (ak (cJ (PW.pt (wc (df jl (vr 6) (vr 3) (by with_unfolding_all rfl)) (tY (df jl (vr 8) (vr 3) (by with_unfolding_all rfl))))) (ak (aA (i:=9) sc_L_together.nd rfl (Or.inl rfl) (ao G_L_plus hr rfl T.m_L_plus T.F_L_plus.kp T.B_L_plus .nil ap (aa (vr 9) (aa (vr 4) ae))))) bF))) (ak (eX (pe_m.append (vr 7) (aa (vr 9) ae))))))) (ak (eX (pe_m.append (vr 5) (aa (vr 7) ae))))))) (ak (ax (vr 5))))))),?_⟩
    intro d fd
    have nW:W.length = ws.length:=hW.length
    have nn:∀ w ∈ W,0≤w.2:=fun w hw=>(hb w hw).1
    have s1:=Same.new (o:=.dT []) fd
    have hd1:=ad (H:=H) (a:=d) (o:=.dT [])
    generalize upd H d (.dT []) = H1 at s1 hd1
    have nlw:lw≠d:=fun z=>by rw [z,fd] at hlw; cases hlw
    refine .inl ⟨⟨_,SqL.of (s1 _ _ hlw)⟩,cI (K:=K) (a:=lw) (xs:=ws) (fun i σ H'=>∃ (kvs:List (List Key×V)) (x3 x4:Option V),(∀ b u,b≠d→H1 b = some u→H' b = some u)∧H' d = some (.dT kvs)∧kvs.length≤i∧RwAt K H' (iO (W.take i)) kvs∧Row D (iO (W.take i)) (SW (fun _=>1) (W.take i))∧σ = [some (.ref lw),some (.ref lp),some (.ref d),x3,x4,none,none,none,none,none]) ⟨[],none,none,(fun b u _ e=>e),hd1,Nat.le_refl _,.nil,by rw [List.take_zero]; exact Row.nil,rfl⟩ (fun i σ H' _ h=>let ⟨_,_,_,k,_⟩:=h; SqL.of (k _ _ nlw (s1 _ _ hlw))) ?_ ?_⟩
    · rintro i y σ H' hy ⟨kvs,x3,x4,kp,hd,hl,hS,R,rfl⟩
      obtain ⟨w,hwi,p,t,z,rfl,hp,ht,hz⟩:=bL hW hy
      have ne:∀ {b xs},H b = some (.tup xs)→b≠d:=fun e z=>by rw [z,fd] at e; cases e
      have hp':=kp _ _ (ne hp) (s1 _ _ hp)
      have ht':=kp _ _ (ne ht) (s1 _ _ ht)
      have tkH:TK H H':=fun b xs e=>kp _ _ (ne e) (s1 _ _ e)
      have hz':=hz.tk tkH
      have bw:=hb w (List.mem_of_getElem? hwi)
      have es:=j9 (φ:=fun _=>1) hwi
      have le:=gZ nn (φ:=fun _=>1) (fun _=>by show (0:Rat)≤1; grind) (fun _=>by show (1:Rat)≤1; grind) (i + 1)
      have es':SW (fun _=>1) (W.take (i + 1)) = SW (fun _=>1) (W.take i) + w.2:=by rw [es]; grind
      have R2:=R.add (k:=w.1) bw (by grind)
      rw [← es',← jx hwi] at R2
      obtain ⟨bg,_⟩:=R.get w.1
      refine ⟨p,_,rfl,SqT.of hp',rfl,_,_,rfl,_,_,rfl,rfl,?_⟩
      refine ⟨d,rfl,.inr ⟨kvs,.inl hd⟩,bC _ _,fun t0 ft0=>?_⟩
      have s2:=Same.new (o:=.tup [.int 0,.int 1]) ft0
      have ht0:=ad (H:=H') (a:=t0) (o:=.tup [.int 0,.int 1])
      generalize upd H' t0 (.tup [.int 0,.int 1]) = H2 at s2 ht0
      have htk:H2 t = some (.tup ((kI w.1).map kV)):=by rw [vE]; exact s2 _ _ ht'
      refine ⟨_,.inr ⟨kvs,kI w.1,t,.inl (s2 _ _ hd),rfl,htk,rfl⟩,?_⟩
      have old:IsQ K H2 (fe (iO (W.take i)) w.1) ((cy kvs (kI w.1)).getD (.ref t0)):=by
        rcases hS.get (k:=w.1) with ⟨e1,e2⟩ | ⟨z,e1,e2⟩
        · rw [e1,e2]; exact ⟨t0,rfl,.inl ht0⟩
        · rw [e1]; exact e2.same s2
      refine ⟨_,_,_,_,rfl,old,hz'.same s2,bg.bb D0 lD,bw.bb D0 lD,trivial,fun H3 z3 s3 q3=>?_⟩
      have s23:=s2.trans s3
      have hd3:=s23 _ _ hd
      have il:i < 128:=by have:=(List.getElem?_eq_some_iff.mp hwi).1; omega
      refine ⟨d,_,rfl,.inr ⟨kvs,kI w.1,t,hd3,rfl,by rw [vE]; exact s23 _ _ ht',by omega,rfl⟩,?_⟩
      refine ⟨_,_,_,(fun b u nb e=>by rw [ai nb]; exact s23 _ _ (kp _ _ nb e)),ad,Nat.le_trans (dh _ _ _) (by omega),?_,R2,rfl⟩
      rw [jx hwi]
      exact ((hS.tk s23.tk).put R.nd q3).tk (TK.dT hd3)
    · rintro σ H2 ⟨kvs,x3,x4,kp,hd,hl,hS,R,rfl⟩
      rw [← nW,List.take_length] at hS R
      have fin:∀ i j:Nat,SW (b7 (i:Nat) (j:Nat)) (iO W) = SW (b7 (i:Nat) (j:Nat)) W:=fun i j=>sY W
      have kl:kvs.length≤128:=by omega
      have hone:SW (fun _=>1) (iO W)≤1:=by rw [R.one]; exact h1
      generalize eA:iO W = st at *
      refine ⟨Nat.zero_le _,fun F fF=>?_⟩
      have nFd:F≠d:=fun z=>by rw [z,hd] at fF; cases fF
      have s3:=Same.new (o:=.lst []) fF
      have hF3:=ad (H:=H2) (a:=F) (o:=.lst [])
      have hd3:Rd (upd H2 F (.lst [])) d (.dT kvs):=.inl (s3 _ _ hd)
      have tk3:TK H2 (upd H2 F (.lst [])):=s3.tk
      generalize upd H2 F (.lst []) = H3 at s3 hF3 hd3 tk3
      have kp3:∀ b u,b≠d→H1 b = some u→H3 b = some u:=fun b u nb e=>s3 _ _ (kp b u nb e)
      have hlp3:H3 lp = some (.lst ((List.range n).map fun (o:Nat)=>V.int (o:Int))):=kp3 _ _ (fun z=>by rw [z,fd] at hlp; cases hlp) (s1 _ _ hlp)
      have ndH:∀ {b u},H b = some u→b≠d:=fun e z=>by rw [z,fd] at e; cases e
      have sH3:Same H H3:=fun b u e=>kp3 _ _ (ndH e) (s1 _ _ e)
      have sH2:Same H H2:=fun b u e=>kp _ _ (ndH e) (s1 _ _ e)
      have bqs:=fun (i j:Nat)=>xa R.b hone (φ:=b7 (i:Nat) (j:Nat)) (yC _ _)
      refine .inl ⟨⟨_,SqL.of hlp3⟩,cI (K:=K) (a:=lp) (xs:=(List.range n).map fun (o:Nat)=>V.int (o:Int)) (fun i σ H'=>∃ (xs:List V) (x3 x4 x6 x7 x8 x9:Option V),Same H H'∧Rd H' d (.dT kvs)∧RwAt K H' st kvs∧H' F = some (.lst xs)∧MatAt K F H' (((List.range n).take i).map (sT W n)) xs∧σ = [some (.ref lw),some (.ref lp),some (.ref d),x3,x4,some (.ref F),x6,x7,x8,x9])
        ⟨[],x3,x4,none,none,none,none,sH3,hd3,hS.tk tk3,hF3,.nil,rfl⟩ (fun i σ H' _ h=>let ⟨_,_,_,_,_,_,_,e,_⟩:=h; SqL.of (e _ _ hlp)) ?_ ?_⟩
      · rintro i y σ H' hy ⟨xs,x3,x4,x6,x7,x8,x9,sH,hd',hS',hF',hM,rfl⟩
        rw [List.getElem?_map] at hy
        cases hoi:(List.range n)[i]? with
        | none=>rw [hoi] at hy; cases hy
        | some o =>
          rw [hoi] at hy
          cases hy
          have io:o = i:=by rw [List.getElem?_range (by have:=(List.getElem?_eq_some_iff.mp hoi).1; simpa using this)] at hoi; cases hoi; rfl
          subst io
          have iln:o < n:=by have:=(List.getElem?_eq_some_iff.mp hoi).1; simpa using this
          refine ⟨Nat.zero_le _,fun Rr fR=>?_⟩
          have nRF:Rr≠F:=fun z=>by rw [z,hF'] at fR; cases fR
          have nRx:∀ q,V.ref q ∈ xs→q≠Rr:=fun q hq z=>by
            obtain ⟨k,hk⟩:=List.getElem?_of_mem hq
            obtain ⟨fs,_,q',ys',e1,_,e3,_⟩:=hM.get hk
            cases e1
            rw [z,fR] at e3; cases e3
          have s4:=Same.new (o:=.lst []) fR
          have hR4:=ad (H:=H') (a:=Rr) (o:=.lst [])
          have sR4:=sH.trans s4
          have hd4:Rd (upd H' Rr (.lst [])) d (.dT kvs):=Rd.dct (fun u e=>s4 _ _ e) hd'
          have hS4:=hS'.tk s4.tk
          have hF4:=s4 _ _ hF'
          have hM4:=hM.same s4.t
          generalize upd H' Rr (.lst []) = H4 at s4 hR4 sR4 hd4 hS4 hF4 hM4
          refine .inl ⟨⟨_,SqL.of (sR4 _ _ hlp)⟩,cI (K:=K) (a:=lp) (xs:=(List.range n).map fun (o:Nat)=>V.int (o:Int)) (fun j σ H'=>∃ (ys:List V) (x3 x4 x8 x9:Option V),Same H H'∧Rd H' d (.dT kvs)∧RwAt K H' st kvs∧H' F = some (.lst xs)∧MatAt K F H' (((List.range n).take o).map (sT W n)) xs∧H' Rr = some (.lst ys)∧AllF K H' (((List.range n).take j).map fun (j:Nat)=>fr (SW (b7 (o:Nat) (j:Nat)) W)) ys∧σ = [some (.ref lw),some (.ref lp),some (.ref d),x3,x4,some (.ref F),some (.int (o:Int)),some (.ref Rr),x8,x9])
            ⟨[],x3,x4,x8,x9,sR4,hd4,hS4,hF4,hM4,hR4,.nil,rfl⟩ (fun i σ H' _ h=>let ⟨_,_,_,_,_,e,_⟩:=h; SqL.of (e _ _ hlp)) ?_ ?_⟩
          · rintro j y σ H5 hy ⟨ys,x3,x4,x8,x9,sH5,hd5,hS5,hF5,hM5,hR5,hA5,rfl⟩
            rw [List.getElem?_map] at hy
            cases hoj:(List.range n)[j]? with
            | none=>rw [hoj] at hy; cases hy
            | some o2 =>
              rw [hoj] at hy
              cases hy
              have jo:o2 = j:=by rw [List.getElem?_range (by have:=(List.getElem?_eq_some_iff.mp hoj).1; simpa using this)] at hoj; cases hoj; rfl
              subst jo
              have jln:o2 < n:=by have:=(List.getElem?_eq_some_iff.mp hoj).1; simpa using this
              refine ⟨bC _ _,fun t0 ft0=>?_⟩
              have s6:=Same.new (o:=.tup [.int 0,.int 1]) ft0
              have ht6:=ad (H:=H5) (a:=t0) (o:=.tup [.int 0,.int 1])
              have hd6:Rd (upd H5 t0 (.tup [.int 0,.int 1])) d (.dT kvs):=Rd.dct (fun u e=>s6 _ _ e) hd5
              have sH6:=sH5.trans s6
              have hS6:=hS5.tk s6.tk
              have hF6:=s6 _ _ hF5
              have hM6:=hM5.same s6.t
              have hR6:=s6 _ _ hR5
              have hA6:=hA5.same s6
              generalize upd H5 t0 (.tup [.int 0,.int 1]) = H6 at s6 ht6 hd6 sH6 hS6 hF6 hM6 hR6 hA6
              refine ⟨d,kvs,rfl,rfl,hd6,fun v fv=>?_⟩
              have s7:=Same.new (o:=.ext (IV v d)) fv
              have hv7:=ad (H:=H6) (a:=v) (o:=.ext (IV v d))
              have hd7:Rd (upd H6 v (.ext (IV v d))) d (.dT kvs):=Rd.dct (fun u e=>s7 _ _ e) hd6
              refine ⟨v,d,kvs,rfl,hv7,hd7,fun ob=>?_⟩
              have nd:∀ {b u},(∀ k,u≠.dT k)→(∀ o k,u≠.frz o k)→H6 b = some u→b≠d:=fun h1 h2 e z=>by
                rw [z] at e
                rcases hd6 with e' | ⟨o',e'⟩ <;> rw [e'] at e <;> cases e
                · exact h1 _ rfl
                · exact h2 _ _ rfl
              have k8:∀ b u,b≠d→H6 b = some u→(upd (upd H6 v (.ext (IV v d))) d (.frz ob (.dT kvs))) b = some u:=fun b u n e=>by rw [ai n]; exact s7 _ _ e
              have hd8:=ad (H:=upd H6 v (.ext (IV v d))) (a:=d) (o:=.frz ob (.dT kvs))
              generalize upd (upd H6 v (.ext (IV v d))) d (.frz ob (.dT kvs)) = H8 at k8 hd8
              have tk8:TK H6 H8:=fun b us e=>k8 _ _ (nd (u:=.tup us) (fun _ z=>nomatch z) (fun _ _ z=>nomatch z) e) e
              have ls8:∀ b us,H6 b = some (.lst us)→H8 b = some (.lst us):=fun b us e=>k8 _ _ (nd (u:=.lst us) (fun _ z=>nomatch z) (fun _ _ z=>nomatch z) e) e
              have sH8:Same H H8:=fun b u e=>k8 _ _ (ndH e) (sH6 _ _ e)
              have hS8:=hS6.tk tk8
              have hq0:IsQ K H8 (SW (b7 (o:Nat) (o2:Nat)) (st.take 0)) (.ref t0):=by rw [List.take_zero]; exact ⟨t0,rfl,.inl (tk8 _ _ ht6)⟩
              refine oH (Pv:=fun i σ H'=>∃ (x3 x4:Option V) (pt:Addr),Same H8 H'∧IsQ K H' (SW (b7 (o:Nat) (o2:Nat)) (st.take i)) (.ref pt)∧σ = [some (.ref lw),some (.ref lp),some (.ref d),x3,x4,some (.ref F),some (.int (o:Int)),some (.ref Rr),some (.int (o2:Int)),some (.ref pt)]) ⟨x3,x4,t0,(fun b u e=>e),hq0,rfl⟩ (fun i σ H' h=>let ⟨_,_,_,k,_⟩:=h; k _ _ hd8) ?_ ?_
              · rintro k kv b σ H9 p hkv hb9 ⟨x3,x4,pt,s9,q9,rfl⟩ fp
                obtain ⟨x,hxi,ek,hval⟩:=bL hS8 hkv
                have s10:=Same.new (o:=.tup [.ref b,kv.2]) fp
                have hp10:=ad (H:=H9) (a:=p) (o:=.tup [.ref b,kv.2])
                have hb10:(upd H9 p (.tup [.ref b,kv.2])) b = some (.tup (x.1.map V.int)):=by rw [ek,vE] at hb9; exact s10 _ _ hb9
                have q10:=q9.same s10
                have v10:=(hval.tk s9.tk).same s10
                have s8p:=s9.trans s10
                generalize upd H9 p (.tup [.ref b,kv.2]) = H10 at s10 hp10 hb10 q10 v10 s8p
                refine ⟨p,_,rfl,SqT.of hp10,rfl,_,_,rfl,_,_,rfl,rfl,?_⟩
                have es:=j9 (φ:=b7 (o:Nat) (o2:Nat)) hxi
                have fin0:¬ ((o:Int) ∈ x.1∧(o2:Int) ∈ x.1)→IsQ K H10 (SW (b7 (o:Nat) (o2:Nat)) (st.take (k + 1))) (.ref pt):=fun h=>by
                  have:b7 (o:Nat) (o2:Nat) x.1 = 0:=aI h
                  rw [es,this,show SW (b7 (o:Nat) (o2:Nat)) (st.take k) + x.2 * 0 = SW (b7 (o:Nat) (o2:Nat)) (st.take k) by grind]
                  exact q10
                refine ⟨b,_,rfl,.inr (SqT.of hb10),rfl,jj _,?_⟩
                rw [kZ]
                refine ifC (fun c1=>?_) (fun c1=>?_)
                · refine ⟨b,_,rfl,.inr (SqT.of hb10),rfl,jj _,?_⟩
                  rw [kZ]
                  refine ifC (fun c2=>?_) (fun c2=>?_)
                  · refine ⟨_,_,_,_,rfl,q10,v10,(bqs o o2 k).bb D0 lD,(R.b x (List.mem_of_getElem? hxi)).bb D0 lD,trivial,fun H11 z11 s11 q11=>?_⟩
                    obtain ⟨pz,rfl,hpz⟩:=id q11
                    refine ⟨_,_,pz,s8p.trans s11,?_,rfl⟩
                    have:b7 (o:Nat) (o2:Nat) x.1 = 1:=bP ⟨c1,c2⟩
                    rw [es,this,show x.2 * 1 = x.2 by grind]
                    exact q11
                  · exact ⟨_,_,pt,s8p,fin0 fun h=>c2 h.2,rfl⟩
                · exact ⟨_,_,pt,s8p,fin0 fun h=>c1 h.1,rfl⟩
              · rintro σ H9 ⟨x3,x4,pt,s9,q9,rfl⟩
                have kl2:kvs.length = st.length:=hS8.length.symm
                rw [kl2,List.take_length,fin] at q9
                have ylen:ys.length≤6:=by rw [← hA6.len,List.length_map,List.length_take]; omega
                have hR9:=s9 _ _ (ls8 _ _ hR6)
                have hF9:=s9 _ _ (ls8 _ _ hF6)
                refine ⟨.inl ⟨rfl,_,SqL.of hR9⟩,Rr,ys,_,rfl,rfl,hR9,by omega,?_⟩
                have tkR:TK H9 (upd H9 Rr (.lst (ys ++ [.ref pt]))):=TK.lst hR9
                have tk69:=tk8.trans s9.tk
                have nRd:d≠Rr:=fun z=>by rw [← z,s9 _ _ hd8] at hR9; cases hR9
                refine ⟨ys ++ [.ref pt],_,_,_,_,(fun b u e=>by rw [ai (fun z=>by rw [z] at e; rw [sH _ _ e] at fR; cases fR)]; exact s9 _ _ (sH8 _ _ e)),.inr ⟨ob,by rw [ai nRd]; exact s9 _ _ hd8⟩,(hS8.tk s9.tk).tk tkR,by rw [ai (Ne.symm nRF)]; exact hF9,?_,ad,?_,rfl⟩
                · exact MatAt.mv (fun b us hb e=>by rw [ai (nRx b hb)]; exact s9 _ _ (ls8 _ _ e)) (tk69.trans tkR) hM6
                · rw [List.take_add_one,hoj,List.map_append]
                  exact AllF.snoc (q9.tk tkR) ((hA6.tk tk69).tk tkR)
          · rintro σ H5 ⟨ys,x3,x4,x8,x9,sH5,hd5,hS5,hF5,hM5,hR5,hA5,rfl⟩
            rw [List.length_map,List.length_range,List.take_of_length_le (by rw [List.length_range]; omega)] at hA5
            have xl:xs.length≤6:=by rw [← hM5.length,List.length_map,List.length_take]; omega
            refine ⟨.inl ⟨rfl,_,SqL.of hF5⟩,F,xs,_,rfl,rfl,hF5,by omega,?_⟩
            have tkF:TK H5 (upd H5 F (.lst (xs ++ [.ref Rr]))):=TK.lst hF5
            have nFd':d≠F:=fun z=>nFd z.symm
            refine ⟨xs ++ [.ref Rr],_,_,_,_,_,_,(fun b u e=>by rw [ai (fun z=>by rw [z] at e; rw [sH2 _ _ e] at fF; cases fF)]; exact sH5 _ _ e),Rd.dct (fun u e=>by rw [ai nFd']; exact e) hd5,hS5.tk tkF,ad,?_,rfl⟩
            rw [List.take_add_one,hoi,List.map_append]
            exact MatAt.snoc ⟨Rr,ys,rfl,nRF,by rw [ai nRF]; exact hR5,hA5.tk tkF⟩ (hM5.put hF5)
      · rintro σ H' ⟨xs,x3,x4,x6,x7,x8,x9,sH,hd',hS',hF',hM,rfl⟩
        rw [List.length_map,List.length_range,List.take_of_length_le (by rw [List.length_range]; omega)] at hM
        have fF0:H F = none:=by
          cases e:H F with
          | none=>rfl
          | some u=>rw [sH2 _ _ e] at fF; cases fF
        exact q _ F xs sH fF0 hF' hM
end
end My
set_option maxHeartbeats 1000000
namespace Du
open FrM
theorem fl {s:Rat} {k:Int} (h1:(k:Rat)≤s) (h2:s < (k:Rat) + 1):s.num / (s.den:Int) = k:=by
  have dp:=s.den_pos
  have d0:(0:Int) < (s.den:Int):=by omega
  have dr:(0:Rat) < (s.den:Rat):=by exact_mod_cast dp
  have e:=fH s
  have a1:=Rat.mul_le_mul_of_nonneg_right h1 (Rat.le_of_lt dr)
  have a2:=Rat.mul_lt_mul_of_pos_right h2 dr
  rw [e] at a1 a2
  have b1:k * (s.den:Int)≤s.num:=by exact_mod_cast a1
  have b2:s.num < (k + 1) * (s.den:Int):=by exact_mod_cast a2
  have c1:=Int.le_ediv_of_mul_le d0 b1
  have c2:=Int.ediv_lt_of_lt_mul d0 b2
  omega
theorem cl {s:Rat} {k:Int} (h1:s≤(k:Rat)) (h2:(k:Rat) < s + 1):(s.num + (s.den:Int) - 1) / (s.den:Int) = k:=by
  have dp:=s.den_pos
  have d0:(0:Int) < (s.den:Int):=by omega
  have dr:(0:Rat) < (s.den:Rat):=by exact_mod_cast dp
  have e:=fH s
  have a1:=Rat.mul_le_mul_of_nonneg_right h1 (Rat.le_of_lt dr)
  have a2:=Rat.mul_lt_mul_of_pos_right h2 dr
  rw [e] at a1
  rw [Rat.add_mul,e,Rat.one_mul] at a2
  have b1:s.num≤k * (s.den:Int):=by exact_mod_cast a1
  have b2:k * (s.den:Int) < s.num + (s.den:Int):=by exact_mod_cast a2
  have c1:=Int.le_ediv_of_mul_le (a:=k) (b:=s.num + (s.den:Int) - 1) d0 (by omega)
  have c2:(s.num + (s.den:Int) - 1) / (s.den:Int) < k + 1:=Int.ediv_lt_of_lt_mul d0 (by rw [Int.add_mul]; omega)
  omega
theorem bb6 {B:Nat} {q:Rat} {n:Nat} (B0:0 < B) (B1:B≤1000000000) (e:q * (B:Rat) = (n:Rat)) (hn:n≤6 * B):Bb q∧(q.den:Int)≤1000000000:=by
  have e':q * (B:Rat) = (((n:Int)):Rat):=by rw [e]; push_cast; rfl
  have em:=qv B0 e'
  have dd:q.den ∣ B:=by
    rw [em,Rat.den_mkRat,if_neg (by omega)]
    exact Nat.div_dvd_of_dvd (Nat.gcd_dvd_left _ _)
  have dl:=Nat.le_of_dvd B0 dd
  have dp:=q.den_pos
  obtain ⟨k,ek⟩:=dd
  have dm:=fH q
  have kp:0 < k:=by
    rcases Nat.eq_zero_or_pos k with z | z
    · rw [z] at ek; omega
    · exact z
  have en:q.num * (k:Int) = (n:Int):=by
    have:(q.num:Rat) * (k:Rat) = (n:Rat):=by
      rw [← dm,← e,ek]; push_cast; grind
    exact_mod_cast this
  have n0:0≤q.num:=by
    refine Int.not_lt.mp fun h=>?_
    have:=Int.mul_neg_of_neg_of_pos h (show (0:Int) < (k:Int) by omega)
    omega
  have n1:q.num≤(n:Int):=by
    have:=Int.mul_le_mul_of_nonneg_left (show (1:Int)≤(k:Int) by omega) n0
    omega
  refine ⟨⟨(show Bt 40 q.num by unfold Bt; omega).mono (by decide),(show Bt 40 (q.den:Int) by unfold Bt; omega).mono (by decide)⟩,by omega⟩
theorem rX {l l':List Nat} {f:Nat→Rat} (h:l.Perm l'):(l.map f).sum = (l'.map f).sum:=by
  induction h with
  | nil=>rfl
  | cons x _ ih=>rw [List.map_cons,List.map_cons,List.sum_cons,List.sum_cons,ih]
  | swap x y l=>simp only [List.map_cons,List.sum_cons]; grind
  | trans _ _ a b=>exact a.trans b
theorem kE:∀ (qs:List Rat),(List.range qs.length).map (fun o=>qs.getD o 0) = qs:=fun qs=>by
  refine List.ext_getElem? fun i=>?_
  rw [List.getElem?_map]
  by_cases h:i < qs.length
  · rw [List.getElem?_range h,List.getElem?_eq_getElem h]
    simp [List.getD_eq_getElem?_getD,h]
  · rw [List.getElem?_eq_none (by rw [List.length_range]; omega),List.getElem?_eq_none (by omega)]; rfl
theorem rj {qs:List Rat} {ord:List Nat} (hp:ord.Perm (List.range qs.length)) (hq:∀ q ∈ qs,In1 q):sz (aN (tq0 qs ord) []).1 (aN (tq0 qs ord) []).2 = qs.sum:=by
  have g:∀ x ∈ tq0 qs ord,In1 x.2:=fun x hx=>by
    obtain ⟨o,_,rfl⟩:=List.mem_map.mp hx
    show In1 (qs.getD o 0)
    rw [List.getD_eq_getElem?_getD]
    cases e:qs[o]? with
    | none=>exact ⟨by show (0:Rat)≤0; grind,by show (0:Rat)≤1; grind⟩
    | some q=>exact hq q (List.mem_of_getElem? e)
  have s:=oi g
  have e1:SQ (tq0 qs ord) = qs.sum:=by
    unfold SQ tq0
    rw [List.map_map]
    show (ord.map fun o=>qs.getD o 0).sum = _
    rw [rX hp,kE]
  unfold sz
  show (((([]:List Int) ++ ((tq0 qs ord).filter fun (x:Int×Rat)=>decide (x.2 = 1)).map (·.1)).length:Nat):Rat) + SQ ((tq0 qs ord).filter fun (x:Int×Rat)=>bZ x.2) = _
  rw [List.nil_append,List.length_map,← e1,← s]
  grind
theorem nG {qs:List Rat} {ord:List Nat} (hp:ord.Perm (List.range qs.length)):(aN (tq0 qs ord) []).1.length = (qs.filter bZ).length:=by
  show ((tq0 qs ord).filter fun x=>bZ x.2).length = _
  unfold tq0
  rw [List.filter_map,List.length_map]
  show (ord.filter fun o=>bZ (qs.getD o 0)).length = _
  rw [(hp.filter _).length_eq]
  conv=>rhs; rw [← kE qs,List.filter_map,List.length_map]
  rfl
theorem vZ (qs:List Rat) (ord:List Nat):(ord.map fun (o:Nat)=>((o:Int),(qs.map fr).getD o (0,1))) = cF (tq0 qs ord):=by
  unfold cF tq0
  rw [List.map_map]
  refine List.map_congr_left fun o _=>?_
  show ((o:Int),(qs.map fr).getD o (0,1)) = ((o:Int),fr (qs.getD o 0))
  rw [List.getD_eq_getElem?_getD,List.getD_eq_getElem?_getD,List.getElem?_map]
  cases qs[o]? <;> rfl
theorem qu (i j:Int) (a b:List Int) (h:a.Perm b):b7 i j a = b7 i j b:=by
  unfold b7 ind
  by_cases c:i ∈ a∧j ∈ a
  · rw [if_pos c,if_pos ⟨h.mem_iff.mp c.1,h.mem_iff.mp c.2⟩]
  · rw [if_neg c,if_neg fun z=>c ⟨h.mem_iff.mpr z.1,h.mem_iff.mpr z.2⟩]
theorem jv {B:Nat}:∀ (qs:List Rat),(∀ q ∈ qs,Bq B q)→∃ n:Nat,qs.sum * (B:Rat) = (n:Rat)∧n≤qs.length * B
  | [],_=>⟨0,by show (0:Rat) * _ = _; grind,by simp⟩
  | q :: qs,h=>by
    obtain ⟨n,e,l⟩:=jv qs fun x hx=>h x (List.mem_cons_of_mem _ hx)
    obtain ⟨m,f,k⟩:=(h q (List.mem_cons_self ..)).nat
    refine ⟨m + n,?_,?_⟩
    · rw [List.sum_cons,Rat.add_mul,e,f]; push_cast; rfl
    · rw [List.length_cons,Nat.add_mul]; omega
theorem xJ {B:Nat} (B1:B≤1000000000):(2 * B) ^ 7 < 2 ^ 980:=by
  refine Nat.lt_of_le_of_lt (Nat.pow_le_pow_left (show 2 * B≤2000000000 by omega) 7) ?_
  decide +kernel
end Du
namespace My
open PySem L2 FrM Du
def rh (K:PySem.W.Frag):Sp:=fun vs H Q _=>∃ (r d:Addr) (xs ys:List V) (fss:List (List (Int×Int))),vs = [.ref r,.ref d]∧H r = some (.lst xs)∧H d = some (.lst ys)∧MatAt K r H fss xs∧MatAt K d H fss ys∧∀ H',Same H H'→Q (.bl true) H'
theorem pQ {a:Ad} {ts:List Addr} {H:Hp} (hts:∀ q ∈ tabs a,q.1 ∈ ts) (h:∀ P ∈ ts,H P = some (.tbl #[])):TabsOk (tabs a) H:=fun q hq=>⟨#[],h _ (hts q hq),trivial,fun _ _=>.inl rfl⟩
def pD (fs:List (Int×Int)):List PyData:=fs.map fun f=>.tuple [.int f.1,.int f.2]
def qN (w w2:List Int×Rat):Prop:=w2.1.Perm w.1∧w2.2 = w.2
theorem mj {φ:List Int→Rat} (hφ:∀ a b:List Int,a.Perm b→φ a = φ b):∀ {W W2:Rws},Paired qN W W2→SW φ W2 = SW φ W
  | _,_,.nil=>rfl
  | _,_,.cons r t=>by rw [cc,cc,mj hφ t,r.2,hφ _ _ r.1]
theorem qm {K:PySem.W.Frag} {H:Hp}:∀ {W:Rws} {ws:List V},Paired (WayAt K H) W ws→∃ W2,Paired (WayS K H) W2 ws∧Paired qN W W2
  | _,_,.nil=>⟨[],.nil,.nil⟩
  | w :: W,_,.cons ⟨p,t,z,ns,h1,h2,h3,h4,h5⟩ r=>by
    obtain ⟨W2,a,b⟩:=qm r
    exact ⟨(ns,w.2) :: W2,.cons ⟨p,t,z,h1,h2,h3,h5⟩ a,.cons ⟨h4.1,rfl⟩ b⟩
theorem j1:∀ {W W2:Rws},Paired qN W W2→∀ w ∈ W2,∃ w' ∈ W,w.2 = w'.2∧w.1.length = w'.1.length
  | _,_,.cons r t,w,hw=>by
    rcases List.mem_cons.mp hw with e | e
    · rw [e]; exact ⟨_,List.mem_cons_self ..,r.2,r.1.length_eq⟩
    · obtain ⟨w',h1,h2⟩:=j1 t w e
      exact ⟨w',List.mem_cons_of_mem _ h1,h2⟩
theorem mV:∀ {W W2:Rws},Paired qN W W2→∀ {k:Nat} {w:List Int×Rat},W[k]? = some w→∃ w2,W2[k]? = some w2∧qN w w2
  | _,_,.cons r _,0,_,h=>by cases h; exact ⟨_,rfl,r⟩
  | _,_,.cons _ t,k + 1,_,h=>mV t (k:=k) h
def qL (K:PySem.W.Frag) (a:Ad):Sp:=fun vs H Q _=>∃ (ls lo:Addr) (xs:List V) (qs:List Rat) (ord:List Nat) (B:Nat),vs = [.ref ls,.ref lo]∧H ls = some (.lst xs)∧AllF K H (qs.map fr) xs∧H lo = some (.lst (ord.map fun (o:Nat)=>V.int (o:Int)))∧qs.length≤6∧ord.Perm (List.range qs.length)∧0 < B∧B≤1000000000∧(∀ q ∈ qs,Bq B q)∧TabsOk (tabs a) H ∧
  ∀ H',SameT H H'→TabsOk (tabs a) H'→Q (.bl true) H'
section
variable {P:Program} {w:World} {K:PySem.W.Frag} {mg:Str→Option Value} {base:Heap} {a:Ad}
theorem sO (T:Txt K mg a):FnOk P w K mg base CX0 3 a.f_L_matrix a.d_L_matrix ["_law_found", "_law_due"] (rh K):=by
  have G_L_fraction:FnOk P w K mg base CX0 2 _ _ _ (im K):=kL T
  refine T.F_L_matrix.ok sc_L_matrix (fun vs H Q E h=>?_) (fun cdv A outer s H vs Q E hr h=>?_)
  · obtain ⟨r,d,xs,ys,fss,rfl,_⟩:=h; rfl
  · obtain ⟨r,d,xs,ys,fss,rfl,hl,hr',fx,fy,q⟩:=h
    refine ⟨_,(ah (cJ (PW.pt (jk (eC (dA (aC gb rfl T.z_isinstance ck (aa (vr 0) (aa (fK (v:=.ty "list") rfl T.z_list dc rfl) ae))))) (jP (df rL (aC be rfl T.z_len cK (aa (vr 0) ae)) (aC be rfl T.z_len cK (aa (vr 1) ae)) (bY _))))) (ak (ax d9)) bF) (ah (cL PassesOwn.never rfl (si rfl T.z_zip (aa (vr 0) (aa (vr 1) ae))) (dq rfl (au (ar (i:=2) sc_L_matrix.nd rfl (Or.inl rfl)) (au (ar (i:=3) sc_L_matrix.nd rfl (Or.inl rfl)) bj))) (ah (cJ (PW.pt (jk (eC (dA (aC gb rfl T.z_isinstance ck (aa (vr 2) (aa (fK (v:=.ty "list") rfl T.z_list dc rfl) ae))))) (jP (df rL (aC be rfl T.z_len cK (aa (vr 2) ae)) (aC be rfl T.z_len cK (aa (vr 3) ae)) (bY _))))) (ak (ax d9)) bF) (ak (cL PassesOwn.never rfl (si rfl T.z_zip (aa (vr 2) (aa (vr 3) ae))) (dq rfl (au (ar (i:=4) sc_L_matrix.nd rfl (Or.inl rfl)) (au (ar (i:=5) sc_L_matrix.nd rfl (Or.inl rfl)) bj))) (ak (cJ (eC (dA (ao G_L_fraction hr rfl T.m_L_fraction T.F_L_fraction.kp T.B_L_fraction .nil ap (aa (vr 4) (aa (vr 5) ae))))) (ak (ax d9)) bF)))))) (ak (ax d9)))),?_⟩
    have e1:=fx.len
    have e2:=fy.len
    refine ⟨_,_,_,true,rfl,rfl,.lst hl,rfl,?_⟩
    refine ⟨_,.inl (SqL.of hl),⟨_,.inl (SqL.of hr'),?_⟩⟩
    refine nN (by rw [← e1,← e2]) ?_
    refine ⟨r,d,xs,ys,rfl,hl,hr',oh (a:=r) (b:=d) (xs:=xs) (ys:=ys) (by rw [← e1,← e2]) (fun i σ H'=>Same H H'∧∃ (x2 x3 x4 x5:Option V),σ = [some (.ref r),some (.ref d),x2,x3,x4,x5]) ⟨Same.refl H,none,none,none,none,rfl⟩ (fun i σ H' h=>⟨h.1 _ _ hl,h.1 _ _ hr'⟩) ?_ ?_⟩
    · rintro i x y σ H' p hxi hyi ⟨s1,x2,x3,x4,x5,rfl⟩ hp
      have s2:Same H (upd H' p (.tup [x,y])):=s1.trans (Same.new hp)
      obtain ⟨fs,hu1,q1,zs,rfl,_,g1,hF⟩:=fx.get hxi
      obtain ⟨fs',hu2,q2,zs',rfl,_,g2,hF'⟩:=fy.get hyi
      rw [hu1] at hu2
      cases hu2
      refine ⟨p,_,rfl,SqT.of ad,rfl,_,_,rfl,_,_,rfl,rfl,?_⟩
      generalize upd H' p (.tup [.ref q1,.ref q2]) = H2 at s2
      have k1:=s2 _ _ g1
      have k2:=s2 _ _ g2
      have l1:=hF.len
      have l2:=hF'.len
      refine ⟨_,_,_,true,rfl,rfl,.lst k1,rfl,?_⟩
      refine ⟨_,.inl (SqL.of k1),⟨_,.inl (SqL.of k2),?_⟩⟩
      refine nN (by rw [← l1,← l2]) ?_
      refine ⟨q1,q2,zs,zs',rfl,k1,k2,oh (a:=q1) (b:=q2) (xs:=zs) (ys:=zs') (by rw [← l1,← l2]) (fun i σ H'=>Same H H'∧∃ (x4 x5:Option V),σ = [some (.ref r),some (.ref d),some (.ref q1),some (.ref q2),x4,x5]) ⟨s2,_,_,rfl⟩ (fun i σ H' h=>⟨h.1 _ _ g1,h.1 _ _ g2⟩) ?_ ?_⟩
      · rintro i x y σ H' p hxi hyi ⟨s1,x4,x5,rfl⟩ hp
        have s2:Same H (upd H' p (.tup [x,y])):=s1.trans (Same.new hp)
        obtain ⟨u,hu1,hU⟩:=hF.get hxi
        obtain ⟨u',hu2,hU'⟩:=hF'.get hyi
        rw [hu1] at hu2
        cases hu2
        obtain ⟨a1,rfl,h1⟩:=hU.same s2
        obtain ⟨a2,rfl,h2⟩:=hU'.same s2
        refine ⟨p,_,rfl,SqT.of ad,rfl,_,_,rfl,_,_,rfl,rfl,?_⟩
        exact ⟨a1,a2,u.1,u.2,rfl,h1.sq,h2.sq,⟨s2,_,_,rfl⟩⟩
      · rintro σ H' ⟨s1,x4,x5,rfl⟩
        exact ⟨s1,_,_,_,_,rfl⟩
    · rintro σ H' ⟨s1,x2,x3,x4,x5,rfl⟩
      exact q _ s1
theorem oa {H:Hp}:∀ (l:List Int),DVs K H (l.map PyData.int) (l.map V.int)
  | []=>by simp [DVs]
  | c :: l=>by
    rw [List.map_cons,List.map_cons,DVs]
    exact ⟨_,_,rfl,by simp [DV],oa l⟩
theorem lj:∀ (l:List Int),PyData.canLayAll0 (l.map PyData.int) = true∧PyData.depthAll (l.map PyData.int)≤1
  | []=>by simp [PyData.canLayAll0,PyData.depthAll]
  | t :: l=>by
    obtain ⟨h1,h2⟩:=lj l
    rw [List.map_cons,PyData.canLayAll0,PyData.depthAll,h1,PyData.canLay0]
    refine ⟨rfl,?_⟩
    simp only [PyData.depth]
    omega
theorem nH {H:Hp}:∀ {fs:List (Int×Int)} {xs:List V},AllF K H fs xs→DVs K H (pD fs) xs
  | _,_,.nil=>by simp [DVs,pD]
  | _,_,.cons ⟨p,e,r⟩ t=>by
    unfold pD
    rw [List.map_cons,DVs]
    exact ⟨_,_,rfl,by rw [e]; exact fP r.sq,nH t⟩
theorem qw:∀ (fs:List (Int×Int)),PyData.canLayAll0 (pD fs) = true∧PyData.depthAll (pD fs)≤3
  | []=>by simp [PyData.canLayAll0,PyData.depthAll,pD]
  | t :: l=>by
    obtain ⟨h1,h2⟩:=qw l
    unfold pD at *
    rw [List.map_cons,PyData.canLayAll0,PyData.depthAll,h1]
    refine ⟨by simp [PyData.canLay0,PyData.canLayAll0],?_⟩
    simp only [PyData.depth,PyData.depthAll]
    omega
theorem xK {H:Hp} {fs:List (Int×Int)} {l r:Addr} {xs ys:List V} {Q:VK} (h1:H l = some (.lst xs)) (h2:H r = some (.lst ys)) (f1:AllF K H fs xs) (f2:AllF K H fs ys) (q:Q (.bl false) H):rEqD K true (.ref l) (.ref r) H Q:=by
  have hs:SeqAt.shaped (.list (pD fs)) = true:=by
    obtain ⟨k1,k2⟩:=qw fs
    unfold SeqAt.shaped
    rw [PyData.canLay0,k1,Bool.true_and]
    refine decide_eq_true ?_
    simp only [PyData.depth]
    omega
  refine ⟨.list (pD fs),.list (pD fs),by rw [DV]; exact ⟨l,_,rfl,SqL.of h1,nH f1⟩,by rw [DV]; exact ⟨r,_,rfl,SqL.of h2,nH f2⟩,hs,hs,?_⟩
  rw [SeqAt.eqv_refl _ (SeqAt.canLay_of_shaped hs)]
  exact q
theorem yS {H H':Hp} {p:Addr} {xs:List V} (s:SameT H H') (h:SqL K H p xs):SqL K H' p xs:=by
  rcases h with (h | ⟨o,h⟩) | h
  · exact .inl (.inl (s.at h))
  · exact .inl (.inr ⟨o,s.at h⟩)
  · exact .inr h
theorem sy {H:Hp} {fs:List (Int×Int)} {ns:List Int} {l r l1 l2 r1 r2:Addr} {xs:List V} {Q:VK} (h1:H l = some (.lst [.ref l1,.ref l2])) (h2:H r = some (.lst [.ref r1,.ref r2])) (a1:H l1 = some (.lst xs)) (a2:H r1 = some (.lst xs)) (hF:AllF K H fs xs)
    (b1:H l2 = some (.lst (ns.map V.int))) (b2:H r2 = some (.lst (ns.map V.int))) (q:Q (.bl true) H):rEqD K false (.ref l) (.ref r) H Q:=by
  have hs:SeqAt.shaped (.list [.list (pD fs),.list (ns.map PyData.int)]) = true:=by
    obtain ⟨k1,k2⟩:=qw fs
    obtain ⟨k3,k4⟩:=lj ns
    unfold SeqAt.shaped
    rw [PyData.canLay0,PyData.canLayAll0,PyData.canLayAll0,PyData.canLayAll0,PyData.canLay0,PyData.canLay0,k1,k3,Bool.true_and,Bool.true_and,Bool.true_and]
    refine decide_eq_true ?_
    simp only [PyData.depth,PyData.depthAll]
    omega
  have dv:∀ {x y z:Addr},H x = some (.lst [.ref y,.ref z])→H y = some (.lst xs)→H z = some (.lst (ns.map V.int))→DV K H (.list [.list (pD fs),.list (ns.map PyData.int)]) (.ref x):=fun {x y z} e1 e2 e3=>by
    rw [DV]
    refine ⟨x,_,rfl,SqL.of e1,?_⟩
    rw [DVs]
    refine ⟨_,_,rfl,by rw [DV]; exact ⟨y,_,rfl,SqL.of e2,nH hF⟩,?_⟩
    rw [DVs]
    exact ⟨_,_,rfl,by rw [DV]; exact ⟨z,_,rfl,SqL.of e3,oa _⟩,by simp [DVs]⟩
  refine ⟨_,_,dv h1 a1 b1,dv h2 a2 b2,hs,hs,?_⟩
  rw [SeqAt.eqv_refl _ (SeqAt.canLay_of_shaped hs)]
  exact q
theorem tm (T:Txt K mg a) (hB:Bm mg base):FnOk P w K mg base CX0 16 a.f_L_good a.d_L_good ["_law_shares_here", "_law_order_here"] (qL K a):=by
  have G_duels:FnOk P w K mg base CX0 15 _ _ _ (oe K a):=(rE T hB).mono (by decide)
  have G_L_ways:FnOk P w K mg base CX0 15 _ _ _ (jA K a 7):=mX T hB 7
  have G_L_together:FnOk P w K mg base CX0 15 _ _ _ (uv K):=(v6 T).mono (by decide)
  have G_L_plus:FnOk P w K mg base CX0 15 _ _ _ (cH (· + ·) (fun _=>True) K):=(js T).mono (by decide)
  have G_L_deep:FnOk P w K mg base CX0 15 _ _ _ (jU K a 7):=nw T hB 7
  have G_duel_matrix:FnOk P w K mg base CX0 15 _ _ _ (xS K a):=(xT T hB).mono (by decide)
  have G_L_matrix:FnOk P w K mg base CX0 15 _ _ _ (rh K):=(sO T).mono (by decide)
  refine T.F_L_good.ok sc_L_good (fun vs H Q E h=>?_) (fun cdv A outer s H vs Q E hr h=>?_)
  · obtain ⟨ls,lo,xs,qs,ord,B,rfl,_⟩:=h; rfl
  · obtain ⟨ls,lo,xs,qs,ord,B,rfl,hls,hF,hlo,n6,hperm,B0,B1,hqB,hT,q⟩:=h
    have small:sizeLine = 16777216:=sizeLine_eq
    have hxl:xs.length = qs.length:=by rw [← hF.len,List.length_map]
    have hordl:∀ o ∈ ord,o < qs.length:=fun o ho=>List.mem_range.mp (hperm.mem_iff.mp ho)
    have ordl:ord.length = qs.length:=by rw [hperm.length_eq,List.length_range]
    have hnd:ord.Nodup:=hperm.nodup_iff.mpr List.nodup_range
    have hin:∀ q ∈ qs,In1 q:=fun q hq=>⟨(hqB q hq).1,(hqB q hq).2.1⟩
    refine ⟨_,(ah (aA (i:=2) sc_L_good.nd rfl (Or.inl rfl) (ao G_duels hr rfl T.m_duels T.F_duels.kp T.B_duels .nil ap (aa (bN cb rfl T.z_list dc (aa (vr 0) ae)) (aa (bN cb rfl T.z_list dc (aa (vr 1) ae)) ae)))) (ah (aA (i:=3) sc_L_good.nd rfl (Or.inl rfl) (ao G_L_ways hr rfl T.m_L_ways T.F_L_ways.kp T.B_L_ways .nil ap (aa (vr 2) (aa (aS (aa aj (aa aj ae))) ae)))) (ah (aA (i:=4) sc_L_good.nd rfl (Or.inr rfl) (ao G_L_together hr rfl T.m_L_together T.F_L_together.kp T.B_L_together .nil ap (aa (vr 3) (aa (bN (fM rfl) rfl T.z_list dc (aa (bN jf rfl T.z_range lv (aa (aC be rfl T.z_len cK (aa (vr 0) ae)) ae)) ae)) ae)))) (ah (cJ (df (xZ hr.units) (cC rfl (N:=["_law_at", "_law_due"]) (ix:=[none,some 4]) ⟨rfl,rfl,rfl,rfl,⟨rfl,rfl,rfl,trivial⟩⟩ (eO rfl T.z_range (aa (aC be rfl T.z_len cK (aa (vr 0) ae)) ae)) ⟨fun C s H fp=>ar (i:=0) (show List.Nodup (["_law_at", "_law_due"]:List Str) by decide +kernel) rfl (Or.inl rfl),fun C s H fp=>cA,fun C s H fp=>(az (dQ (K:=K) rfl) (az (dQ (K:=K) rfl) (vr 1) (vr 0) (fun _ _=>rfl)) (vr 0) (fun _ _=>rfl))⟩) (vr 0) (bY _)) (ak (ax d9)) bF) (ah (aA (i:=5) sc_L_good.nd rfl (Or.inl rfl) (aS (aa aj (aa aj ae)))) (ah (cL PassesOwn.never rfl (bG (vr 0)) (ar (i:=6) sc_L_good.nd rfl (Or.inl rfl)) (ak (aA (i:=5) sc_L_good.nd rfl (Or.inl rfl) (ao G_L_plus hr rfl T.m_L_plus T.F_L_plus.kp T.B_L_plus .nil ap (aa (vr 5) (aa (vr 6) ae)))))) (ah (gQ rfl (i:=7) sc_L_good.nd rfl rfl (by with_unfolding_all rfl) (N:=["_law_kept", "_law_much"]) (ix:=[none,none]) ⟨rfl,rfl,rfl,rfl,trivial⟩ (bG (vr 3)) ⟨fun C s H fp=>(dj (K:=K) (n:=2) rfl rfl (au (ar (i:=0) (show List.Nodup (["_law_kept", "_law_much"]:List Str) by decide +kernel) rfl (Or.inl rfl)) (au (ar (i:=1) (show List.Nodup (["_law_kept", "_law_much"]:List Str) by decide +kernel) rfl (Or.inl rfl)) bj))),fun C s H fp=>cA,fun C s H fp=>(aC (lX (K:=K) rfl) rfl T.z_len cK (aa (vr 0) ae))⟩) (ah (cJ (PW.pt (jk (df rL (aC (oM rfl) rfl T.z_min qV (aa (vr 7) ae)) (aw cz (az av (vr 5) aj (fun _ _=>rfl)) (az av (vr 5) aj (fun _ _=>rfl))) (bY _)) (jP (df rL (aC (iR rfl) rfl T.z_max pP (aa (vr 7) ae)) (aw cz (aw i7 (aw cG (az av (vr 5) aj (fun _ _=>rfl)) (az av (vr 5) aj (fun _ _=>rfl))) aj) (az av (vr 5) aj (fun _ _=>rfl))) (bY _))))) (ak (ax d9)) bF) (ah (cJ (df w9 (ao G_L_deep hr rfl T.m_L_deep T.F_L_deep.kp T.B_L_deep .nil ap (aa (vr 2) ae)) (aC be rfl T.z_len cK (aa (cC rfl (N:=["_law_one"]) (ix:=[none]) ⟨rfl,rfl,rfl,rfl,trivial⟩ (bG (vr 0)) ⟨fun C s H fp=>ar (i:=0) (show List.Nodup (["_law_one"]:List Str) by decide +kernel) rfl (Or.inl rfl),fun C s H fp=>gO (tN lB lB aj (az (dQ (K:=K) rfl) (vr 0) aj (fun _ _=>rfl)) (az (dQ (K:=K) rfl) (vr 0) aj (fun _ _=>rfl))),fun C s H fp=>(vr 0)⟩) ae)) (bY _)) (ak (ax d9)) bF) (ah (aA (i:=8) sc_L_good.nd rfl (Or.inl rfl) (bO (aa (bN cb rfl T.z_list dc (aa (vr 0) ae)) (aa (bN cb rfl T.z_list dc (aa (vr 1) ae)) ae)))) (ah (aA (i:=9) sc_L_good.nd rfl (Or.inl rfl) (ao G_duel_matrix hr rfl T.m_duel_matrix T.F_duel_matrix.kp T.B_duel_matrix .nil ap (aa (az av (vr 8) aj (fun _ _=>rfl)) (aa (az av (vr 8) aj (fun _ _=>rfl)) ae)))) (ak (ax (u9 (jS (qJ hr.units) (vr 8) (bO (aa (vr 0) (aa (vr 1) ae))) (bY _)) (rq (ao G_L_matrix hr rfl T.m_L_matrix T.F_L_matrix.kp T.B_L_matrix .nil ap (aa (vr 9) (aa (vr 4) ae)))))))))))))))))),?_⟩
    -- the node
    refine ⟨ls,xs,rfl,.inl (SqL.of hls),fun l1 fl1=>?_⟩
    have u1:=Same.new (o:=.lst xs) fl1
    refine ⟨lo,_,rfl,.inl (SqL.of (u1 _ _ hlo)),fun l2 fl2=>?_⟩
    have u2:=Same.new (o:=.lst (ord.map fun (o:Nat)=>V.int (o:Int))) fl2
    have u12:=u1.trans u2
    have hl1:=u2 _ _ (ad (H:=H) (a:=l1) (o:=.lst xs))
    have hl2:=ad (H:=upd H l1 (.lst xs)) (a:=l2) (o:=.lst (ord.map fun (o:Nat)=>V.int (o:Int)))
    generalize upd (upd H l1 (.lst xs)) l2 (.lst (ord.map fun (o:Nat)=>V.int (o:Int))) = H1 at u12 hl1 hl2
    refine ⟨l1,l2,xs,qs.map fr,ord,(B:Int),(fun _=>True),rfl,hl1,hF.same u12,hl2,(fun o ho=>by rw [List.length_map]; exact hordl o ho),by omega,⟨by omega,by omega⟩,(fun f hf=>by obtain ⟨q,hq,rfl⟩:=List.mem_map.mp hf; exact iV B0 (hqB q hq)),hT.same u12,(fun _ _=>trivial),fun H2 u t2 hT2 nd0=>?_⟩
    have e0:eg (tl0 (qs.map fr) ord) [] = (cF (aN (tq0 qs ord) []).1,(aN (tq0 qs ord) []).2):=by
      unfold tl0
      rw [vZ,oA]
    rw [e0] at nd0
    have nd:=nd0.w
    have wfq:WfQ B (aN (tq0 qs ord) []).1:=fun x hx=>by
      have h1:=ka x hx
      have hx:x ∈ (tq0 qs ord).filter fun x=>bZ x.2:=hx
      obtain ⟨o,ho,rfl⟩:=List.mem_map.mp (List.mem_filter.mp hx).1
      refine ⟨?_,h1⟩
      show Bq B (qs.getD o 0)
      have:=hordl o ho
      rw [List.getD_eq_getElem?_getD,List.getElem?_eq_getElem this]
      exact hqB _ (List.getElem_mem this)
    have tlen:(aN (tq0 qs ord) []).1.length≤6:=by
      rw [nG hperm]
      exact Nat.le_trans (List.length_filter_le _ _) n6
    have hE:=fun (i j:Nat) (hi:i < qs.length) (hj:j < qs.length)=>yj (N:=7) hnd (hperm.mem_iff.mpr (List.mem_range.mpr hi)) (hperm.mem_iff.mpr (List.mem_range.mpr hj)) hin (show (aN (tq0 qs ord) []).1.length≤7 by omega)
    have hsz:=rj hperm hin
    have hul:=nG (qs:=qs) hperm
    have hU:=ka (tq:=tq0 qs ord) (tk:=[])
    generalize (aN (tq0 qs ord) []).1 = tq at *
    generalize (aN (tq0 qs ord) []).2 = tk at *
    have t02:=u12.t.trans t2
    -- the ways
    refine ⟨bC _ _,fun p1 fp1=>?_⟩
    have u3:=Same.new (o:=.tup [.int 1,.int 1]) fp1
    have hp1:=ad (H:=H2) (a:=p1) (o:=.tup [.int 1,.int 1])
    generalize upd H2 p1 (.tup [.int 1,.int 1]) = H3 at u3 hp1
    refine ⟨u,.ref p1,tq,tk,1,B,1,rfl,nd.t u3.t,⟨p1,rfl,.inl hp1⟩,Bq.one,by decide,by rw [Nat.one_mul]; exact xJ B1,wfq,by omega,by decide,B0,B1,hT2.same u3,fun H4 lw ws t4 hT4 flw hlw hW=>?_⟩
    have t04:=t02.trans (u3.t.trans t4)
    obtain ⟨D,D0,D1,hD⟩:=uO B0 7 (chs tq) (by unfold chs; rw [List.length_map]; omega) (fun c hc=>by
      obtain ⟨x,hx,rfl⟩:=List.mem_map.mp hc
      exact wfq x hx)
    have hD:=hD tq tk 1 1 rfl Bq.one
    rw [Nat.one_mul] at hD
    have lD:D < Lm:=Nat.lt_of_le_of_lt D1 (xJ B1)
    have hszs:=jB 7 tq tk 1 hU (by omega)
    rw [hsz] at hszs
    have hSW:∀ φ,SW φ (wQ 7 tq tk 1) = Du.EQ φ 7 tq tk:=fun φ=>by rw [vb]; grind
    have wlen:=gj 7 tq tk 1
    have wne:=qR 7 tq tk 1
    have htot:SW (fun _=>1) (wQ 7 tq tk 1) = 1:=by rw [hSW]; exact iB 7 tq tk hU (by omega)
    generalize wQ 7 tq tk 1 = W at *
    obtain ⟨W2,hW2,hsr⟩:=qm hW
    have wl2:W2.length = W.length:=hsr.length.symm
    -- together
    have hls4:=t04.at hls
    refine ⟨xs,.inl (SqL.of hls4),?_⟩
    rw [hxl]
    refine ⟨_,rfl,fun rg frg=>⟨rg,qs.length,rfl,by omega,ad,fun lf flf=>?_⟩⟩
    have v1:=Same.new (o:=.rng 0 (qs.length:Int)) frg
    have v2:=v1.trans (Same.new (o:=.lst ((List.range qs.length).map fun (i:Nat)=>V.int (i:Int))) flf)
    have hlf:=ad (H:=upd H4 rg (.rng 0 (qs.length:Int))) (a:=lf) (o:=.lst ((List.range qs.length).map fun (i:Nat)=>V.int (i:Int)))
    generalize upd (upd H4 rg (.rng 0 (qs.length:Int))) lf (.lst ((List.range qs.length).map fun (i:Nat)=>V.int (i:Int))) = H5 at v2 hlf
    refine ⟨lw,lf,W2,ws,qs.length,D,rfl,v2 _ _ hlw,ay (fun w x h=>h.tk v2.tk) hW2,hlf,n6,by omega,(fun w hw=>by obtain ⟨w',h1,h2,_⟩:=j1 hsr w hw; rw [h2]; exact hD w' h1),by rw [mj (fun _ _ _=>rfl) hsr,htot]; grind,D0,lD,fun H6 rd xd s6 frd hrd hMd=>?_⟩
    have em:wm W2 qs.length = pI qs (dI (iu qs ord)):=by
      unfold wm pI
      refine List.map_congr_left fun i hi=>?_
      unfold sT mw
      refine List.map_congr_left fun j hj=>?_
      rw [mj (qu _ _) hsr,hSW,hE i j (List.mem_range.mp hi) (List.mem_range.mp hj)]
      rfl
    rw [em] at hMd
    have t06:=t04.trans (v2.trans s6).t
    have hT6:=hT4.same (v2.trans s6)
    have hls6:=t06.at hls
    have hF6:=hF.tk (SameT.tk t06)
    have hlw6:=(v2.trans s6) _ _ hlw
    have hW6:Paired (WayS K H6) W2 ws:=ay (fun w x h=>h.tk (v2.trans s6).tk) hW2
    have nd6:=nd.t (u3.t.trans (t4.trans (v2.trans s6).t))
    -- the diagonal
    refine ⟨xs,.inl (SqL.of hls6),?_⟩
    rw [hxl]
    refine ⟨(qs.length:Int),rfl,by omega,by omega,fun Da hDa=>?_⟩
    refine iz (lo:=0) (n:=qs.length) (fun j ys H'=>j≤qs.length∧Same H6 H'∧H' Da = some (.lst ys)∧AllF K H' ((qs.take j).map fr) ys) ⟨Nat.zero_le _,Same.new hDa,ad,.nil⟩ (fun j ys H' h=>h.2.2.1) ?_ ?_
    · rintro j ys H' P' hj ⟨_,s1,hD1,hA⟩ hP
      have hyl:ys.length≤6:=by rw [← hA.len,List.length_map,List.length_take]; omega
      have hxd:xd.length = qs.length:=by rw [← hMd.length]; unfold pI; rw [List.length_map,List.length_range]
      have ej:xd[j]? = some xd[j]:=List.getElem?_eq_getElem (by omega)
      obtain ⟨fs,hfs,qr,yr,eqr,_,hqr,hAr⟩:=hMd.get ej
      have efs:fs = mw qs (dI (iu qs ord)) j:=by
        unfold pI at hfs
        rw [List.getElem?_map,List.getElem?_range hj] at hfs
        cases hfs; rfl
      subst efs
      have hyr:yr.length = qs.length:=by rw [← hAr.len]; unfold mw; rw [List.length_map,List.length_range]
      have ej2:yr[j]? = some yr[j]:=List.getElem?_eq_getElem (by omega)
      obtain ⟨f,hf,isf⟩:=hAr.get ej2
      have ef:f = fr (qs.getD j 0):=by
        unfold mw at hf
        rw [List.getElem?_map,List.getElem?_range hj] at hf
        have:f = fr (ent qs (dI (iu qs ord)) j j):=by cases hf; rfl
        rw [this]; unfold ent; rw [if_pos rfl]
      subst ef
      refine ⟨⟨rfl,trivial⟩,?_⟩
      refine .inl ⟨rd,_,_,.ref qr,rfl,rfl,SqL.of (s1 _ _ hrd),by rw [Int.zero_add,← eqr]; exact cD ej,?_⟩
      refine .inl ⟨qr,_,_,yr[j],rfl,rfl,SqL.of (s1 _ _ hqr),by rw [Int.zero_add]; exact cD ej2,?_⟩
      refine ⟨hD1,by omega,hP _ _ ⟨hj,s1.put hDa,ad,?_⟩⟩
      have eq:qs[j]? = some (qs.getD j 0):=by rw [List.getD_eq_getElem?_getD,List.getElem?_eq_getElem hj]; rfl
      rw [List.take_add_one,eq,List.map_append]
      exact AllF.snoc ((isf.same s1).tk (TK.lst hD1)) (hA.tk (TK.lst hD1))
    rintro ya H7 ⟨_,s7,hDa7,hA7⟩
    rw [List.take_length] at hA7
    refine xK hDa7 (s7 _ _ hls6) hA7 (hF6.same s7) ?_
    -- the total
    refine ⟨bC _ _,fun p8 fp8=>?_⟩
    have u8:=Same.new (o:=.tup [.int 0,.int 1]) fp8
    have hp8:=ad (H:=H7) (a:=p8) (o:=.tup [.int 0,.int 1])
    generalize upd H7 p8 (.tup [.int 0,.int 1]) = H8 at u8 hp8
    have s68:=s7.trans u8
    have t08:=t06.trans s68.t
    have hls8:=t08.at hls
    have hF8:=hF.tk (SameT.tk t08)
    have sb:=fun (i:Nat)=>jv (B:=B) (qs.take i) fun q hq=>hqB q (List.mem_of_mem_take hq)
    have bs:∀ i,Bb (qs.take i).sum:=fun i=>by
      obtain ⟨n,e,l⟩:=sb i
      refine (bb6 B0 B1 e (Nat.le_trans l (Nat.mul_le_mul_right _ ?_))).1
      rw [List.length_take]; omega
    refine .inl ⟨⟨_,SqL.of hls8⟩,cI (K:=K) (a:=ls) (xs:=xs) (fun i σ H'=>∃ (pt:Addr) (x6:Option V),Same H8 H'∧IsQ K H' (qs.take i).sum (.ref pt)∧σ = [some (.ref ls),some (.ref lo),some u,some (.ref lw),some (.ref rd),some (.ref pt),x6,none,none,none]) ⟨p8,none,(fun b u e=>e),⟨p8,rfl,.inl hp8⟩,rfl⟩ (fun i σ H' _ h=>let ⟨_,_,e,_⟩:=h; SqL.of (e _ _ hls8)) ?_ ?_⟩
    · rintro i y σ H' hy ⟨pt,x6,s9,q9,rfl⟩
      obtain ⟨f,hf,isf⟩:=hF8.get hy
      rw [List.getElem?_map] at hf
      cases eq:qs[i]? with
      | none=>rw [eq] at hf; cases hf
      | some qi =>
        rw [eq] at hf
        cases hf
        refine ⟨_,_,(qs.take i).sum,qi,rfl,q9,isf.same s9,bs i,(hqB qi (List.mem_of_getElem? eq)).bb B0 (jH B1),trivial,fun H10 z s10 q10=>?_⟩
        obtain ⟨pz,rfl,hpz⟩:=id q10
        refine ⟨pz,_,s9.trans s10,?_,rfl⟩
        rw [List.take_add_one,eq,List.sum_append]
        have:(some qi).toList.sum = qi:=by show qi + 0 = qi; grind
        rw [this]; exact q10
    rintro σ H9 ⟨pt,x6,s9,q9,rfl⟩
    rw [hxl,List.take_length] at q9
    have sAll:=sb qs.length
    rw [List.take_length] at sAll
    obtain ⟨nS,eS,lS⟩:=sAll
    obtain ⟨bS,dS⟩:=bb6 B0 B1 eS (Nat.le_trans lS (Nat.mul_le_mul_right _ n6))
    have dpS:(0:Int) < (qs.sum.den:Int):=by have:=qs.sum.den_pos; omega
    have bD:Bt 40 (qs.sum.den:Int):=by unfold Bt; omega
    have t69:=(s68.trans s9)
    -- how many are kept
    have hlw9:=t69 _ _ hlw6
    have hW9:Paired (WayS K H9) W2 ws:=ay (fun w x h=>h.tk t69.tk) hW6
    refine .inl ⟨⟨_,SqL.of hlw9⟩,fun Db hDb=>?_⟩
    refine bB (K:=K) (a:=lw) (xs:=ws) (fun i zs H'=>Same H9 H'∧H' Db = some (.lst zs)∧zs = ((W2.take i).map fun w=>(w.1.length:Int)).map V.int) ⟨Same.new hDb,ad,rfl⟩ (fun i ys H' h=>SqL.of (h.1 _ _ hlw9)) (fun i ys H' h=>h.2.1) ?_ ?_
    · rintro i y zs H' P' hy ⟨s1,hD1,rfl⟩ hP'
      obtain ⟨w,hwi,p,t,z,rfl,hp,ht,hz⟩:=bL hW9 hy
      have il:i < 128:=by have:=(List.getElem?_eq_some_iff.mp hwi).1; omega
      refine ⟨p,_,rfl,SqT.of (s1 _ _ hp),rfl,_,_,rfl,_,_,rfl,rfl,trivial,?_⟩
      refine ⟨_,.inr (SqT.of (s1 _ _ ht)),hD1,by rw [List.length_map,List.length_map,List.length_take]; omega,hP' _ _ ⟨s1.put hDb,ad,?_⟩⟩
      rw [List.take_add_one,hwi,List.map_append,List.map_append,List.length_map]
      rfl
    rintro zs H10 ⟨s10,hDb10,rfl⟩
    rw [show ws.length = W2.length from hW9.length.symm,List.take_length] at hDb10
    have hpt10:=(q9.same s10)
    have ne2:W2≠[]:=fun z=>wne (List.eq_nil_of_length_eq_zero (by rw [← wl2,z]; rfl))
    have mem1:∀ m ∈ (W2.map fun w=>(w.1.length:Int)),∃ w ∈ W,m = (w.1.length:Int):=fun m hm=>by
      obtain ⟨w,hw,rfl⟩:=List.mem_map.mp hm
      obtain ⟨w',h1,_,h2⟩:=j1 hsr w hw
      exact ⟨w',h1,by rw [h2]⟩
    have mem2:∀ w ∈ W,(w.1.length:Int) ∈ (W2.map fun w=>(w.1.length:Int)):=fun w hw=>by
      obtain ⟨k,hk⟩:=List.getElem?_of_mem hw
      obtain ⟨w2,h1,h2⟩:=mV hsr hk
      exact List.mem_map.mpr ⟨w2,List.mem_of_getElem? h1,by rw [h2.1.length_eq]⟩
    have pos2:0 < (W2.map fun w=>(w.1.length:Int)).length:=by rw [List.length_map]; exact List.length_pos_iff.mpr ne2
    obtain ⟨_,zz,hptT⟩:=id hpt10
    cases zz
    refine ⟨Db,_,rfl,SqL.of hDb10,pos2,fun m hm hall=>?_⟩
    have mfl:m = qs.sum.num / (qs.sum.den:Int):=by
      obtain ⟨w,hw,rfl⟩:=mem1 m hm
      obtain ⟨w0,hw0,h0⟩:=hszs.lo
      have h1:=hall _ (mem2 w0 hw0)
      have h2:=(hszs.all w hw).1
      have h3:((w.1.length:Int):Rat)≤qs.sum:=by
        have:(w.1.length:Rat)≤(w0.1.length:Rat):=by exact_mod_cast h1
        push_cast
        grind
      exact (fl h3 (by push_cast; exact h2)).symm
    refine px0 hptT.sq (px1 hptT.sq ⟨cdB dpS bD,?_⟩)
    refine nN mfl ?_
    refine ⟨Db,_,rfl,SqL.of hDb10,pos2,fun m2 hm2 hall2=>?_⟩
    have mcl:m2 = (qs.sum.num + (qs.sum.den:Int) - 1) / (qs.sum.den:Int):=by
      obtain ⟨w,hw,rfl⟩:=mem1 m2 hm2
      obtain ⟨w0,hw0,h0⟩:=hszs.hi
      have h1:=hall2 _ (mem2 w0 hw0)
      have h2:=(hszs.all w hw).2
      have h3:qs.sum≤((w.1.length:Int):Rat):=by
        have:(w0.1.length:Rat)≤(w.1.length:Rat):=by exact_mod_cast h1
        push_cast
        grind
      exact (cl h3 (by push_cast; exact h2)).symm
    refine px0 hptT.sq (px1 hptT.sq (px1 hptT.sq ⟨cdB dpS bD,?_⟩))
    refine nN mcl ?_
    -- how deep
    have s610:=t69.trans s10
    refine ⟨u,tq,tk,B,rfl,nd6.t s610.t,wfq,by omega,B0,hT6.same s610,fun H11 dd t11 hT11 dd0 dd1=>?_⟩
    have t011:=t06.trans (s610.t.trans t11)
    have hls11:=t011.at hls
    have hF11:=hF.tk (SameT.tk t011)
    refine .inl ⟨⟨_,SqL.of hls11⟩,fun Dc hDc=>?_⟩
    refine bB (K:=K) (a:=ls) (xs:=xs) (fun i zs H'=>Same H11 H'∧H' Dc = some (.lst zs)∧zs.length = ((qs.take i).filter bZ).length) ⟨Same.new hDc,ad,rfl⟩ (fun i ys H' h=>SqL.of (h.1 _ _ hls11)) (fun i ys H' h=>h.2.1) ?_ ?_
    · rintro i y zs H' P' hy ⟨s1,hD1,hl⟩ hP'
      obtain ⟨f,hf,isf⟩:=hF11.get hy
      rw [List.getElem?_map] at hf
      cases eq:qs[i]? with
      | none=>rw [eq] at hf; cases hf
      | some qi =>
        rw [eq] at hf
        cases hf
        obtain ⟨pf,rfl,hpf⟩:=isf.same s1
        have eu:bZ qi = decide (0 < qi.num∧qi.num < (qi.den:Int)):=(qS qi).symm
        have il:i < qs.length:=(List.getElem?_eq_some_iff.mp eq).1
        have zl:zs.length≤6:=by rw [hl]; exact Nat.le_trans (List.length_filter_le _ _) (by rw [List.length_take]; omega)
        have next:((qs.take (i + 1)).filter bZ).length = zs.length + (if bZ qi = true then 1 else 0):=by
          rw [List.take_add_one,eq,List.filter_append,List.length_append,hl]
          show _ + ([qi].filter bZ).length = _
          rw [List.filter_cons]
          split <;> simp
        refine ⟨trivial,px0 hpf.sq ?_⟩
        refine ifC (fun c1=>?_) (fun c1=>?_)
        · refine px1 hpf.sq ?_
          refine ifC (fun c2=>?_) (fun c2=>?_)
          · have e:bZ qi = true:=by rw [eu]; exact decide_eq_true ⟨c1,c2⟩
            exact ⟨hD1,by omega,hP' _ _ ⟨s1.put hDc,ad,by rw [next,if_pos e,List.length_append]; rfl⟩⟩
          · have e:¬ bZ qi = true:=by rw [eu]; exact fun z=>c2 (of_decide_eq_true z).2
            exact hP' _ _ ⟨s1,hD1,by rw [next,if_neg e]; rfl⟩
        · have e:¬ bZ qi = true:=by rw [eu]; exact fun z=>c1 (of_decide_eq_true z).1
          exact hP' _ _ ⟨s1,hD1,by rw [next,if_neg e]; rfl⟩
    rintro zs H12 ⟨s12,hD12,hl⟩
    rw [hxl,List.take_length,← hul] at hl
    refine ⟨_,.inl (SqL.of hD12),?_⟩
    refine ifC (fun c=>absurd c ?_) (fun _=>?_)
    · rw [hl]; omega
    -- the matrix
    have t012:=t011.trans s12.t
    have hT12:=hT11.same s12
    have hls12:=t012.at hls
    have hlo12:=t012.at hlo
    refine ⟨ls,xs,rfl,.inl (SqL.of hls12),fun la fla=>?_⟩
    have w1:=Same.new (o:=.lst xs) fla
    refine ⟨lo,_,rfl,.inl (SqL.of (w1 _ _ hlo12)),fun lb flb=>?_⟩
    have w2:=Same.new (o:=.lst (ord.map fun (o:Nat)=>V.int (o:Int))) flb
    refine ⟨bC _ _,fun lh flh=>?_⟩
    have w3:=Same.new (o:=.lst [.ref la,.ref lb]) flh
    have w13:=w1.trans (w2.trans w3)
    have hla3:=(w2.trans w3) _ _ (ad (H:=H12) (a:=la) (o:=.lst xs))
    have hlb3:=w3 _ _ (ad (H:=upd H12 la (.lst xs)) (a:=lb) (o:=.lst (ord.map fun (o:Nat)=>V.int (o:Int))))
    have hlh3:=ad (H:=upd (upd H12 la (.lst xs)) lb (.lst (ord.map fun (o:Nat)=>V.int (o:Int)))) (a:=lh) (o:=.lst [.ref la,.ref lb])
    generalize upd (upd (upd H12 la (.lst xs)) lb (.lst (ord.map fun (o:Nat)=>V.int (o:Int)))) lh (.lst [.ref la,.ref lb]) = H13 at w13 hla3 hlb3 hlh3
    have t013:=t012.trans w13.t
    have hF13:=hF.tk (SameT.tk t013)
    refine .inl ⟨lh,_,_,.ref la,rfl,rfl,SqL.of hlh3,dH 0 rfl rfl,.inl ⟨lh,_,_,.ref lb,rfl,rfl,SqL.of hlh3,dH 1 rfl rfl,?_⟩⟩
    refine ⟨la,lb,xs,qs,ord,B,rfl,hla3,hF13,hlb3,by omega,by omega,hordl,B0,B1,hqB,hT12.same w13,fun H14 r xr t14 hT14 hr0 hr14 hM14 _ _=>?_⟩
    have t014:=t013.trans t14
    refine ⟨bC _ _,fun l9 fl9=>?_⟩
    have w4:=Same.new (o:=.lst [.ref ls,.ref lo]) fl9
    have hl9:=ad (H:=H14) (a:=l9) (o:=.lst [.ref ls,.ref lo])
    generalize upd H14 l9 (.lst [.ref ls,.ref lo]) = H15 at w4 hl9
    have t015:=t014.trans w4.t
    have t1315:=t14.trans w4.t
    have eo:(ord.map fun (o:Nat)=>V.int (o:Int)) = (ord.map fun (o:Nat)=>(o:Int)).map V.int:=by rw [List.map_map]; rfl
    refine sy (t1315.at hlh3) hl9 (t1315.at hla3) (t015.at hls) (hF.tk (SameT.tk t015)) (by rw [← eo]; exact t1315.at hlb3) (by rw [← eo]; exact t015.at hlo) ?_
    have t615:=s610.t.trans (t11.trans (s12.t.trans (w13.t.trans t1315)))
    refine ⟨r,rd,xr,xd,_,rfl,w4 _ _ hr14,t615.at hrd,hM14.same w4.t,hMd.same t615,fun H16 s16=>?_⟩
    exact q _ (t015.trans s16.t) ((hT14.same w4).same s16)
end
end My
namespace My
open PySem L2 FrM Du
section
variable {P:Program} {w:World} {K:PySem.W.Frag} {mg:Str→Option Value} {base:Heap} {a:Ad}
abbrev lawK:Nat:=17
theorem ok_law {ts:List Addr} (T:Txt K mg a) (hB:Bm mg base) (hts:∀ q ∈ tabs a,q.1 ∈ ts):FnOk P w K mg base CX0 lawK a.f_law a.d_law ["_law_script"] (spLaw K ts):=by
  have G_L_cell:FnOk P w K mg base CX0 16 _ _ _ (me K):=(nX T).mono (by decide)
  have G_L_shares:FnOk P w K mg base CX0 16 _ _ _ (kR K):=(o9 T).mono (by decide)
  have G_L_order:FnOk P w K mg base CX0 16 _ _ _ m9:=(ro T).mono (by decide)
  have G_L_good:FnOk P w K mg base CX0 16 _ _ _ (qL K a):=tm T hB
  refine T.F_law.ok sc_law (fun vs H Q E h=>?_) (fun cdv A outer s H vs Q E hr h=>?_)
  · obtain ⟨p,ns,rfl,_⟩:=h; rfl
  · obtain ⟨p,ns,rfl,hS,hlen,hT0,q⟩:=h
    have small:sizeLine = 16777216:=sizeLine_eq
    have hT:=pQ hts hT0
    refine ⟨_,(ah (aA (i:=1) sc_law.nd rfl (Or.inl rfl) (ao G_L_shares hr rfl T.m_L_shares T.F_L_shares.kp T.B_L_shares .nil ap (aa (vr 0) (aa aj (aa aj ae))))) (ah (cL PassesOwn.never rfl (o8 rfl T.z_range (aa aj (aa aj (aa aj ae)))) (ar (i:=2) sc_law.nd rfl (Or.inl rfl)) (ah (aA (i:=3) sc_law.nd rfl (Or.inl rfl) (ao G_L_order hr rfl T.m_L_order T.F_L_order.kp T.B_L_order .nil ap (aa (ao G_L_cell hr rfl T.m_L_cell T.F_L_cell.kp T.B_L_cell .nil ap (aa (vr 0) (aa (vr 2) ae))) (aa (ao G_L_cell hr rfl T.m_L_cell T.F_L_cell.kp T.B_L_cell .nil ap (aa (vr 0) (aa (aw cG (vr 2) aj) ae))) (aa (aC be rfl T.z_len cK (aa (vr 1) ae)) ae))))) (ak (cJ (eC (dA (ao G_L_good hr rfl T.m_L_good T.F_L_good.kp T.B_L_good .nil ap (aa (vr 1) (aa (vr 3) ae))))) (ak (ax d9)) bF)))) (ak (ax d9)))),?_⟩
    refine ⟨p,ns,rfl,hS,hlen,fun H1 ls xs qs B s1 hls0 hls hF hq1 hq24 B0 B1 hqB=>?_⟩
    have hxl:xs.length = qs.length:=by rw [← hF.len,List.length_map]
    have hT1:=hT.same s1
    refine ⟨4,8,rfl,by decide,?_⟩
    refine lW (lo:=4) (c:=2) (n:=gx 4 8) (fun i σ H'=>∃ (x2 x3:Option V),SameT H1 H'∧TabsOk (tabs a) H'∧σ = [some (.ref p),some (.ref ls),x2,x3]) ⟨none,none,SameT.refl,hT1,rfl⟩ ?_ ?_
    · rintro i σ H' hi ⟨x2,x3,t1,hT',rfl⟩
      have hi:i < 2:=hi
      have hS':SqL K H' p (ns.map V.int):=yS t1 (s1.seq hS)
      have hls':=t1.at hls
      refine ⟨p,ns,4 + (i:Int) * 2,rfl,hS',hlen,by omega,by omega,?_⟩
      refine ⟨p,ns,4 + (i:Int) * 2 + 1,rfl,hS',hlen,by omega,by omega,?_⟩
      refine ⟨xs,.inl (SqL.of hls'),?_⟩
      rw [hxl]
      refine ⟨_,_,qs.length,rfl,by omega,fun H2 lo ord s2 hlo0 hlo hord=>?_⟩
      refine ⟨ls,lo,xs,qs,ord,B,rfl,s2 _ _ hls',(hF.tk (SameT.tk t1)).same s2,hlo,hq24,hord,B0,B1,hqB,hT'.same s2,fun H3 t3 hT3=>?_⟩
      exact ⟨_,_,t1.trans (s2.t.trans t3),hT3,rfl⟩
    · rintro σ H' ⟨x2,x3,t1,hT',rfl⟩
      exact q _
end
end My
namespace My
open PySem L2
theorem us0 {α:Type}:∀ {us:List α},us.length = 0→us = []
  | [],_=>rfl
theorem us1 {α:Type}:∀ {us:List α},us.length = 1→∃ a0,us = [a0]
  | [_],_=>⟨_,rfl⟩
theorem us2 {α:Type}:∀ {us:List α},us.length = 2→∃ a0 a1,us = [a0,a1]
  | [_,_],_=>⟨_,_,rfl⟩
theorem us3 {α:Type}:∀ {us:List α},us.length = 3→∃ a0 a1 a2,us = [a0,a1,a2]
  | [_,_,_],_=>⟨_,_,_,rfl⟩
theorem us4 {α:Type}:∀ {us:List α},us.length = 4→∃ a0 a1 a2 a3,us = [a0,a1,a2,a3]
  | [_,_,_,_],_=>⟨_,_,_,_,rfl⟩
theorem us5 {α:Type}:∀ {us:List α},us.length = 5→∃ a0 a1 a2 a3 a4,us = [a0,a1,a2,a3,a4]
  | [_,_,_,_,_],_=>⟨_,_,_,_,_,rfl⟩
theorem us6 {α:Type}:∀ {us:List α},us.length = 6→∃ a0 a1 a2 a3 a4 a5,us = [a0,a1,a2,a3,a4,a5]
  | [_,_,_,_,_,_],_=>⟨_,_,_,_,_,_,rfl⟩
theorem us7 {α:Type}:∀ {us:List α},us.length = 7→∃ a0 a1 a2 a3 a4 a5 a6,us = [a0,a1,a2,a3,a4,a5,a6]
  | [_,_,_,_,_,_,_],_=>⟨_,_,_,_,_,_,_,rfl⟩
theorem txt_mk {K:PySem.W.Frag} {h:Heap} {mg:Str→Option Value} {f0:Addr} {od0 an0:Option Addr} {sl0:Array (Option Value)} {oc0 kV0 dc0 pm0 cd0 ct0:Value} {f1:Addr} {od1 an1:Option Addr} {sl1:Array (Option Value)} {oc1 kV1 dc1 pm1 cd1 ct1:Value} {f2:Addr} {od2 an2:Option Addr} {sl2:Array (Option Value)} {oc2 kV2 dc2 pm2 cd2 ct2:Value} {f3:Addr} {od3 an3:Option Addr} {sl3:Array (Option Value)} {oc3 kV3 dc3 pm3 cd3 ct3:Value} {f4:Addr} {od4 an4:Option Addr} {sl4:Array (Option Value)} {oc4 kV4 dc4 pm4 cd4 ct4:Value} {f5:Addr} {od5 an5:Option Addr} {sl5:Array (Option Value)} {oc5 kV5 dc5 pm5 cd5 ct5:Value} {f6:Addr} {od6 an6:Option Addr} {sl6:Array (Option Value)} {oc6 kV6 dc6 pm6 cd6 ct6:Value} {f7:Addr} {od7 an7:Option Addr} {sl7:Array (Option Value)} {oc7 kV7 dc7 pm7 cd7 ct7:Value} {f8:Addr} {od8 an8:Option Addr} {sl8:Array (Option Value)} {oc8 kV8 dc8 pm8 cd8 ct8:Value} {f9:Addr} {od9 an9:Option Addr} {sl9:Array (Option Value)} {oc9 kV9 dc9 pm9 cd9 ct9:Value} {f10:Addr} {od10 an10:Option Addr} {sl10:Array (Option Value)} {oc10 kV10 dc10 pm10 cd10 ct10:Value} {f11:Addr} {od11 an11:Option Addr} {sl11:Array (Option Value)} {oc11 kV11 dc11 pm11 cd11 ct11:Value} {f12:Addr} {od12 an12:Option Addr} {sl12:Array (Option Value)} {oc12 kV12 dc12 pm12 cd12 ct12:Value} {f13:Addr} {od13 an13:Option Addr} {sl13:Array (Option Value)} {oc13 kV13 dc13 pm13 cd13 ct13:Value} {f14:Addr} {od14 an14:Option Addr} {sl14:Array (Option Value)} {oc14 kV14 dc14 pm14 cd14 ct14:Value} {f15:Addr} {od15 an15:Option Addr} {sl15:Array (Option Value)} {oc15 kV15 dc15 pm15 cd15 ct15:Value} {f16:Addr} {od16 an16:Option Addr} {sl16:Array (Option Value)} {oc16 kV16 dc16 pm16 cd16 ct16:Value} {f17:Addr} {od17 an17:Option Addr} {sl17:Array (Option Value)} {oc17 kV17 dc17 pm17 cd17 ct17:Value} {f18:Addr} {od18 an18:Option Addr} {sl18:Array (Option Value)} {oc18 kV18 dc18 pm18 cd18 ct18:Value} {f19:Addr} {od19 an19:Option Addr} {sl19:Array (Option Value)} {oc19 kV19 dc19 pm19 cd19 ct19:Value} {f20:Addr} {od20 an20:Option Addr} {sl20:Array (Option Value)} {oc20 kV20 dc20 pm20 cd20 ct20:Value} {f21:Addr} {od21 an21:Option Addr} {sl21:Array (Option Value)} {oc21 kV21 dc21 pm21 cd21 ct21:Value} {f22:Addr} {od22 an22:Option Addr} {sl22:Array (Option Value)} {oc22 kV22 dc22 pm22 cd22 ct22:Value} {f23:Addr} {od23 an23:Option Addr} {sl23:Array (Option Value)} {oc23 kV23 dc23 pm23 cd23 ct23:Value} {f24:Addr} {od24 an24:Option Addr} {sl24:Array (Option Value)} {oc24 kV24 dc24 pm24 cd24 ct24:Value} {f25:Addr} {od25 an25:Option Addr} {sl25:Array (Option Value)} {oc25 kV25 dc25 pm25 cd25 ct25:Value} {f26:Addr} {od26 an26:Option Addr} {sl26:Array (Option Value)} {oc26 kV26 dc26 pm26 cd26 ct26:Value} {f27:Addr} {od27 an27:Option Addr} {sl27:Array (Option Value)} {oc27 kV27 dc27 pm27 cd27 ct27:Value} {f28:Addr} {od28 an28:Option Addr} {sl28:Array (Option Value)} {oc28 kV28 dc28 pm28 cd28 ct28:Value} {f29:Addr} {od29 an29:Option Addr} {sl29:Array (Option Value)} {oc29 kV29 dc29 pm29 cd29 ct29:Value} {f30:Addr} {od30 an30:Option Addr} {sl30:Array (Option Value)} {oc30 kV30 dc30 pm30 cd30 ct30:Value} {f31:Addr} {od31 an31:Option Addr} {sl31:Array (Option Value)} {oc31 kV31 dc31 pm31 cd31 ct31:Value} {f32:Addr} {od32 an32:Option Addr} {sl32:Array (Option Value)} {oc32 kV32 dc32 pm32 cd32 ct32:Value} {f33:Addr} {od33 an33:Option Addr} {sl33:Array (Option Value)} {oc33 kV33 dc33 pm33 cd33 ct33:Value} {f34:Addr} {od34 an34:Option Addr} {sl34:Array (Option Value)} {oc34 kV34 dc34 pm34 cd34 ct34:Value} {f35:Addr} {od35 an35:Option Addr} {sl35:Array (Option Value)} {oc35 kV35 dc35 pm35 cd35 ct35:Value} {f36:Addr} {od36 an36:Option Addr} {sl36:Array (Option Value)} {oc36 kV36 dc36 pm36 cd36 ct36:Value} {f37:Addr} {od37 an37:Option Addr} {sl37:Array (Option Value)} {oc37 kV37 dc37 pm37 cd37 ct37:Value} {f38:Addr} {od38 an38:Option Addr} {sl38:Array (Option Value)} {oc38 kV38 dc38 pm38 cd38 ct38:Value} {k_NOUGHT:Addr} {k_WHOLE:Addr} {k_TWICE:Addr} {c_Node:Addr} {c_Told:Addr} {i_Told:Addr} {od_5 an_5:Option Addr} {sl_5:Array (Option Value)} {oc_5 kV_5 dc_5 pm_5 cd_5 ct_5:Value} {c_Die:Addr} {i_Die:Addr} {od_0 an_0:Option Addr} {sl_0:Array (Option Value)} {oc_0 kV_0 dc_0 pm_0 cd_0 ct_0:Value} {x_Told_is_told:Addr} {od_6 an_6:Option Addr} {sl_6:Array (Option Value)} {oc_6 kV_6 dc_6 pm_6 cd_6 ct_6:Value} {x_Die_is_told:Addr} {od_1 an_1:Option Addr} {sl_1:Array (Option Value)} {oc_1 kV_1 dc_1 pm_1 cd_1 ct_1:Value} {x_Told_kept:Addr} {od_7 an_7:Option Addr} {sl_7:Array (Option Value)} {oc_7 kV_7 dc_7 pm_7 cd_7 ct_7:Value} {x_Die_kept:Addr} {od_2 an_2:Option Addr} {sl_2:Array (Option Value)} {oc_2 kV_2 dc_2 pm_2 cd_2 ct_2:Value} {x_Told_sides:Addr} {od_9 an_9:Option Addr} {sl_9:Array (Option Value)} {oc_9 kV_9 dc_9 pm_9 cd_9 ct_9:Value} {x_Die_sides:Addr} {od_4 an_4:Option Addr} {sl_4:Array (Option Value)} {oc_4 kV_4 dc_4 pm_4 cd_4 ct_4:Value} {x_Told_parts:Addr} {od_8 an_8:Option Addr} {sl_8:Array (Option Value)} {oc_8 kV_8 dc_8 pm_8 cd_8 ct_8:Value} {x_Die_parts:Addr} {od_3 an_3:Option Addr} {sl_3:Array (Option Value)} {oc_3 kV_3 dc_3 pm_3 cd_3 ct_3:Value} {lc_duel_matrix lp_duel_matrix:Addr} {lo_a:Value} {lod_a:Option Addr} {lvs_a:Array Value} {lsl_a:Array (Option Value)} {lc_last_die lp_last_die:Addr} {lo_b:Value} {lod_b:Option Addr} {lvs_b:Array Value} {lsl_b:Array (Option Value)} {lc_settled_make lp_settled_make:Addr} {lo_c:Value} {lod_c:Option Addr} {lvs_c:Array Value} {lsl_c:Array (Option Value)} (X:K.In h) (G:h.Ns mainGlobals mg)
    (a0:PySem.W.nsIn K mainGlobals "greatest_divisor" = some (some (.ref f0))) (l0:K.lookup f0 = some ⟨oc0,od0,.func (PySem.W.fnOf "greatest_divisor" "greatest_divisor" (ag aB) (af aB) (ac aB) .none kV0 dc0 pm0 an0 cd0 ct0),sl0⟩) (c0:PySem.W.codeIn K cd0 "greatest_divisor" = true) (k0:PySem.W.keepIn K (.ref f0) = true)
    (a1:PySem.W.nsIn K mainGlobals "least_multiple" = some (some (.ref f1))) (l1:K.lookup f1 = some ⟨oc1,od1,.func (PySem.W.fnOf "least_multiple" "least_multiple" (ag aD) (af aD) (ac aD) .none kV1 dc1 pm1 an1 cd1 ct1),sl1⟩) (c1:PySem.W.codeIn K cd1 "least_multiple" = true) (k1:PySem.W.keepIn K (.ref f1) = true)
    (a2:PySem.W.nsIn K mainGlobals "share" = some (some (.ref f2))) (l2:K.lookup f2 = some ⟨oc2,od2,.func (PySem.W.fnOf "share" "share" (ag cR) (af cR) (ac cR) .none kV2 dc2 pm2 an2 cd2 ct2),sl2⟩) (c2:PySem.W.codeIn K cd2 "share" = true) (k2:PySem.W.keepIn K (.ref f2) = true)
    (a3:PySem.W.nsIn K mainGlobals "plus" = some (some (.ref f3))) (l3:K.lookup f3 = some ⟨oc3,od3,.func (PySem.W.fnOf "plus" "plus" (ag dF) (af dF) (ac dF) .none kV3 dc3 pm3 an3 cd3 ct3),sl3⟩) (c3:PySem.W.codeIn K cd3 "plus" = true) (k3:PySem.W.keepIn K (.ref f3) = true)
    (a4:PySem.W.nsIn K mainGlobals "minus" = some (some (.ref f4))) (l4:K.lookup f4 = some ⟨oc4,od4,.func (PySem.W.fnOf "minus" "minus" (ag cO) (af cO) (ac cO) .none kV4 dc4 pm4 an4 cd4 ct4),sl4⟩) (c4:PySem.W.codeIn K cd4 "minus" = true) (k4:PySem.W.keepIn K (.ref f4) = true)
    (a5:PySem.W.nsIn K mainGlobals "times" = some (some (.ref f5))) (l5:K.lookup f5 = some ⟨oc5,od5,.func (PySem.W.fnOf "times" "times" (ag cY) (af cY) (ac cY) .none kV5 dc5 pm5 an5 cd5 ct5),sl5⟩) (c5:PySem.W.codeIn K cd5 "times" = true) (k5:PySem.W.keepIn K (.ref f5) = true)
    (a6:PySem.W.nsIn K mainGlobals "over" = some (some (.ref f6))) (l6:K.lookup f6 = some ⟨oc6,od6,.func (PySem.W.fnOf "over" "over" (ag dG) (af dG) (ac dG) .none kV6 dc6 pm6 an6 cd6 ct6),sl6⟩) (c6:PySem.W.codeIn K cd6 "over" = true) (k6:PySem.W.keepIn K (.ref f6) = true)
    (a7:PySem.W.nsIn K mainGlobals "below" = some (some (.ref f7))) (l7:K.lookup f7 = some ⟨oc7,od7,.func (PySem.W.fnOf "below" "below" (ag cU) (af cU) (ac cU) .none kV7 dc7 pm7 an7 cd7 ct7),sl7⟩) (c7:PySem.W.codeIn K cd7 "below" = true) (k7:PySem.W.keepIn K (.ref f7) = true)
    (a8:PySem.W.nsIn K mainGlobals "matrix_by" = some (some (.ref f8))) (l8:K.lookup f8 = some ⟨oc8,od8,.func (PySem.W.fnOf "matrix_by" "matrix_by" (ag bu) (af bu) (ac bu) .none kV8 dc8 pm8 an8 cd8 ct8),sl8⟩) (c8:PySem.W.codeIn K cd8 "matrix_by" = true) (k8:PySem.W.keepIn K (.ref f8) = true)
    (a9:PySem.W.nsIn K mainGlobals "matrix_row" = some (some (.ref f9))) (l9:K.lookup f9 = some ⟨oc9,od9,.func (PySem.W.fnOf "matrix_row" "matrix_row" (ag aW) (af aW) (ac aW) .none kV9 dc9 pm9 an9 cd9 ct9),sl9⟩) (c9:PySem.W.codeIn K cd9 "matrix_row" = true) (k9:PySem.W.keepIn K (.ref f9) = true)
    (a10:PySem.W.nsIn K mainGlobals "is_unsure" = some (some (.ref f10))) (l10:K.lookup f10 = some ⟨oc10,od10,.func (PySem.W.fnOf "is_unsure" "is_unsure" (ag bp) (af bp) (ac bp) .none kV10 dc10 pm10 an10 cd10 ct10),sl10⟩) (c10:PySem.W.codeIn K cd10 "is_unsure" = true) (k10:PySem.W.keepIn K (.ref f10) = true)
    (a11:PySem.W.nsIn K mainGlobals "duels" = some (some (.ref f11))) (l11:K.lookup f11 = some ⟨oc11,od11,.func (PySem.W.fnOf "duels" "duels" (ag cX) (af cX) (ac cX) .none kV11 dc11 pm11 an11 cd11 ct11),sl11⟩) (c11:PySem.W.codeIn K cd11 "duels" = true) (k11:PySem.W.keepIn K (.ref f11) = true)
    (a12:PySem.W.nsIn K mainGlobals "settled" = some (some (.ref f12))) (l12:K.lookup f12 = some ⟨oc12,od12,.func (PySem.W.fnOf "settled" "settled" (ag bX) (af bX) (ac bX) .none kV12 dc12 pm12 an12 cd12 ct12),sl12⟩) (c12:PySem.W.codeIn K cd12 "settled" = true) (k12:PySem.W.keepIn K (.ref f12) = true)
    (a13:PySem.W.nsIn K mainGlobals "open_node" = some (some (.ref f13))) (l13:K.lookup f13 = some ⟨oc13,od13,.func (PySem.W.fnOf "open_node" "open_node" (ag br) (af br) (ac br) .none kV13 dc13 pm13 an13 cd13 ct13),sl13⟩) (c13:PySem.W.codeIn K cd13 "open_node" = true) (k13:PySem.W.keepIn K (.ref f13) = true)
    (a14:PySem.W.nsIn K mainGlobals "settled_make" = some (some (.ref f14))) (l14:K.lookup f14 = some ⟨oc14,od14,.func (PySem.W.fnOf "settled_make" "settled_make" (ag aE) (af aE) (ac aE) .none kV14 dc14 pm14 an14 cd14 ct14),sl14⟩) (c14:PySem.W.codeIn K cd14 "settled_make" = true) (k14:PySem.W.keepIn K (.ref f14) = true)
    (a15:PySem.W.nsIn K mainGlobals "last_die" = some (some (.ref f15))) (l15:K.lookup f15 = some ⟨oc15,od15,.func (PySem.W.fnOf "last_die" "last_die" (ag bf) (af bf) (ac bf) .none kV15 dc15 pm15 an15 cd15 ct15),sl15⟩) (c15:PySem.W.codeIn K cd15 "last_die" = true) (k15:PySem.W.keepIn K (.ref f15) = true)
    (a16:PySem.W.nsIn K mainGlobals "duel_parts" = some (some (.ref f16))) (l16:K.lookup f16 = some ⟨oc16,od16,.func (PySem.W.fnOf "duel_parts" "duel_parts" (ag aY) (af aY) (ac aY) .none kV16 dc16 pm16 an16 cd16 ct16),sl16⟩) (c16:PySem.W.codeIn K cd16 "duel_parts" = true) (k16:PySem.W.keepIn K (.ref f16) = true)
    (a17:PySem.W.nsIn K mainGlobals "duel_matrix" = some (some (.ref f17))) (l17:K.lookup f17 = some ⟨oc17,od17,.func (PySem.W.fnOf "duel_matrix" "duel_matrix" (ag aJ) (af aJ) (ac aJ) .none kV17 dc17 pm17 an17 cd17 ct17),sl17⟩) (c17:PySem.W.codeIn K cd17 "duel_matrix" = true) (k17:PySem.W.keepIn K (.ref f17) = true)
    (a18:PySem.W.nsIn K mainGlobals "pair_chance" = some (some (.ref f18))) (l18:K.lookup f18 = some ⟨oc18,od18,.func (PySem.W.fnOf "pair_chance" "pair_chance" (ag aP) (af aP) (ac aP) .none kV18 dc18 pm18 an18 cd18 ct18),sl18⟩) (c18:PySem.W.codeIn K cd18 "pair_chance" = true) (k18:PySem.W.keepIn K (.ref f18) = true)
    (a19:PySem.W.nsIn K mainGlobals "kept_together" = some (some (.ref f19))) (l19:K.lookup f19 = some ⟨oc19,od19,.func (PySem.W.fnOf "kept_together" "kept_together" (ag aF) (af aF) (ac aF) .none kV19 dc19 pm19 an19 cd19 ct19),sl19⟩) (c19:PySem.W.codeIn K cd19 "kept_together" = true) (k19:PySem.W.keepIn K (.ref f19) = true)
    (a20:PySem.W.nsIn K mainGlobals "both_kept" = some (some (.ref f20))) (l20:K.lookup f20 = some ⟨oc20,od20,.func (PySem.W.fnOf "both_kept" "both_kept" (ag bz) (af bz) (ac bz) .none kV20 dc20 pm20 an20 cd20 ct20),sl20⟩) (c20:PySem.W.codeIn K cd20 "both_kept" = true) (k20:PySem.W.keepIn K (.ref f20) = true)
    (a21:PySem.W.nsIn K mainGlobals "held_behind" = some (some (.ref f21))) (l21:K.lookup f21 = some ⟨oc21,od21,.func (PySem.W.fnOf "held_behind" "held_behind" (ag aR) (af aR) (ac aR) .none kV21 dc21 pm21 an21 cd21 ct21),sl21⟩) (c21:PySem.W.codeIn K cd21 "held_behind" = true) (k21:PySem.W.keepIn K (.ref f21) = true)
    (a22:PySem.W.nsIn K mainGlobals "behind_duel" = some (some (.ref f22))) (l22:K.lookup f22 = some ⟨oc22,od22,.func (PySem.W.fnOf "behind_duel" "behind_duel" (ag aQ) (af aQ) (ac aQ) .none kV22 dc22 pm22 an22 cd22 ct22),sl22⟩) (c22:PySem.W.codeIn K cd22 "behind_duel" = true) (k22:PySem.W.keepIn K (.ref f22) = true)
    (a23:PySem.W.nsIn K mainGlobals "_law_cell" = some (some (.ref f23))) (l23:K.lookup f23 = some ⟨oc23,od23,.func (PySem.W.fnOf "_law_cell" "_law_cell" (ag cx) (af cx) (ac cx) .none kV23 dc23 pm23 an23 cd23 ct23),sl23⟩) (c23:PySem.W.codeIn K cd23 "_law_cell" = true) (k23:PySem.W.keepIn K (.ref f23) = true)
    (a24:PySem.W.nsIn K mainGlobals "_law_mix" = some (some (.ref f24))) (l24:K.lookup f24 = some ⟨oc24,od24,.func (PySem.W.fnOf "_law_mix" "_law_mix" (ag cS) (af cS) (ac cS) .none kV24 dc24 pm24 an24 cd24 ct24),sl24⟩) (c24:PySem.W.codeIn K cd24 "_law_mix" = true) (k24:PySem.W.keepIn K (.ref f24) = true)
    (a25:PySem.W.nsIn K mainGlobals "_law_row" = some (some (.ref f25))) (l25:K.lookup f25 = some ⟨oc25,od25,.func (PySem.W.fnOf "_law_row" "_law_row" (ag cV) (af cV) (ac cV) .none kV25 dc25 pm25 an25 cd25 ct25),sl25⟩) (c25:PySem.W.codeIn K cd25 "_law_row" = true) (k25:PySem.W.keepIn K (.ref f25) = true)
    (a26:PySem.W.nsIn K mainGlobals "_law_whole" = some (some (.ref f26))) (l26:K.lookup f26 = some ⟨oc26,od26,.func (PySem.W.fnOf "_law_whole" "_law_whole" (ag bW) (af bW) (ac bW) .none kV26 dc26 pm26 an26 cd26 ct26),sl26⟩) (c26:PySem.W.codeIn K cd26 "_law_whole" = true) (k26:PySem.W.keepIn K (.ref f26) = true)
    (a27:PySem.W.nsIn K mainGlobals "_law_low" = some (some (.ref f27))) (l27:K.lookup f27 = some ⟨oc27,od27,.func (PySem.W.fnOf "_law_low" "_law_low" (ag cZ) (af cZ) (ac cZ) .none kV27 dc27 pm27 an27 cd27 ct27),sl27⟩) (c27:PySem.W.codeIn K cd27 "_law_low" = true) (k27:PySem.W.keepIn K (.ref f27) = true)
    (a28:PySem.W.nsIn K mainGlobals "_law_plus" = some (some (.ref f28))) (l28:K.lookup f28 = some ⟨oc28,od28,.func (PySem.W.fnOf "_law_plus" "_law_plus" (ag ci) (af ci) (ac ci) .none kV28 dc28 pm28 an28 cd28 ct28),sl28⟩) (c28:PySem.W.codeIn K cd28 "_law_plus" = true) (k28:PySem.W.keepIn K (.ref f28) = true)
    (a29:PySem.W.nsIn K mainGlobals "_law_times" = some (some (.ref f29))) (l29:K.lookup f29 = some ⟨oc29,od29,.func (PySem.W.fnOf "_law_times" "_law_times" (ag bU) (af bU) (ac bU) .none kV29 dc29 pm29 an29 cd29 ct29),sl29⟩) (c29:PySem.W.codeIn K cd29 "_law_times" = true) (k29:PySem.W.keepIn K (.ref f29) = true)
    (a30:PySem.W.nsIn K mainGlobals "_law_fraction" = some (some (.ref f30))) (l30:K.lookup f30 = some ⟨oc30,od30,.func (PySem.W.fnOf "_law_fraction" "_law_fraction" (ag aT) (af aT) (ac aT) .none kV30 dc30 pm30 an30 cd30 ct30),sl30⟩) (c30:PySem.W.codeIn K cd30 "_law_fraction" = true) (k30:PySem.W.keepIn K (.ref f30) = true)
    (a31:PySem.W.nsIn K mainGlobals "_law_matrix" = some (some (.ref f31))) (l31:K.lookup f31 = some ⟨oc31,od31,.func (PySem.W.fnOf "_law_matrix" "_law_matrix" (ag bK) (af bK) (ac bK) .none kV31 dc31 pm31 an31 cd31 ct31),sl31⟩) (c31:PySem.W.codeIn K cd31 "_law_matrix" = true) (k31:PySem.W.keepIn K (.ref f31) = true)
    (a32:PySem.W.nsIn K mainGlobals "_law_shares" = some (some (.ref f32))) (l32:K.lookup f32 = some ⟨oc32,od32,.func (PySem.W.fnOf "_law_shares" "_law_shares" (ag bI) (af bI) (ac bI) .none kV32 dc32 pm32 an32 cd32 ct32),sl32⟩) (c32:PySem.W.codeIn K cd32 "_law_shares" = true) (k32:PySem.W.keepIn K (.ref f32) = true)
    (a33:PySem.W.nsIn K mainGlobals "_law_order" = some (some (.ref f33))) (l33:K.lookup f33 = some ⟨oc33,od33,.func (PySem.W.fnOf "_law_order" "_law_order" (ag bV) (af bV) (ac bV) .none kV33 dc33 pm33 an33 cd33 ct33),sl33⟩) (c33:PySem.W.codeIn K cd33 "_law_order" = true) (k33:PySem.W.keepIn K (.ref f33) = true)
    (a34:PySem.W.nsIn K mainGlobals "_law_ways" = some (some (.ref f34))) (l34:K.lookup f34 = some ⟨oc34,od34,.func (PySem.W.fnOf "_law_ways" "_law_ways" (ag cq) (af cq) (ac cq) .none kV34 dc34 pm34 an34 cd34 ct34),sl34⟩) (c34:PySem.W.codeIn K cd34 "_law_ways" = true) (k34:PySem.W.keepIn K (.ref f34) = true)
    (a35:PySem.W.nsIn K mainGlobals "_law_together" = some (some (.ref f35))) (l35:K.lookup f35 = some ⟨oc35,od35,.func (PySem.W.fnOf "_law_together" "_law_together" (ag aU) (af aU) (ac aU) .none kV35 dc35 pm35 an35 cd35 ct35),sl35⟩) (c35:PySem.W.codeIn K cd35 "_law_together" = true) (k35:PySem.W.keepIn K (.ref f35) = true)
    (a36:PySem.W.nsIn K mainGlobals "_law_deep" = some (some (.ref f36))) (l36:K.lookup f36 = some ⟨oc36,od36,.func (PySem.W.fnOf "_law_deep" "_law_deep" (ag cv) (af cv) (ac cv) .none kV36 dc36 pm36 an36 cd36 ct36),sl36⟩) (c36:PySem.W.codeIn K cd36 "_law_deep" = true) (k36:PySem.W.keepIn K (.ref f36) = true)
    (a37:PySem.W.nsIn K mainGlobals "_law_good" = some (some (.ref f37))) (l37:K.lookup f37 = some ⟨oc37,od37,.func (PySem.W.fnOf "_law_good" "_law_good" (ag cj) (af cj) (ac cj) .none kV37 dc37 pm37 an37 cd37 ct37),sl37⟩) (c37:PySem.W.codeIn K cd37 "_law_good" = true) (k37:PySem.W.keepIn K (.ref f37) = true)
    (a38:PySem.W.nsIn K mainGlobals "law" = some (some (.ref f38))) (l38:K.lookup f38 = some ⟨oc38,od38,.func (PySem.W.fnOf "law" "law" (ag fg) (af fg) (ac fg) .none kV38 dc38 pm38 an38 cd38 ct38),sl38⟩) (c38:PySem.W.codeIn K cd38 "law" = true) (k38:PySem.W.keepIn K (.ref f38) = true)
    (b_NOUGHT:PySem.W.nsIn K mainGlobals "NOUGHT" = some (some (.ref k_NOUGHT))) (bt_NOUGHT:fQ K k_NOUGHT [(.int 0),(.int 1)] = true)
    (b_WHOLE:PySem.W.nsIn K mainGlobals "WHOLE" = some (some (.ref k_WHOLE))) (bt_WHOLE:fQ K k_WHOLE [(.int 1),(.int 1)] = true)
    (b_TWICE:PySem.W.nsIn K mainGlobals "TWICE" = some (some (.ref k_TWICE))) (bt_TWICE:fQ K k_TWICE [(.int 2),(.int 1)] = true)
    (ca_Node:PySem.W.nsIn K mainGlobals "Node" = some (some (.ref c_Node))) (pa_Node:PySem.W.plainGet K c_Node Str.empty = true) (pb_Node:PySem.W.hasDictIn K c_Node = true) (pc_Node:PySem.W.plainOver K c_Node = true)
    (pd_Node:PySem.W.findIn K (.ref c_Node) "__setattr__" = some (some (.builtin "object.__setattr__"))) (pe_Node:PySem.W.findIn K (.ref c_Node) "__class__" = some (some (.builtin "object.__class__"))) (pf_Node:PySem.W.specialIn K (.builtin "object.__class__") "__get__" = some (some (.builtin "getset_descriptor.__get__"))) (pg_Node:PySem.W.takesIn K (.builtin "object.__class__") = some true) (ph_Node:PySem.W.mroIn K c_Node (.type "object") = some true)
    (ca_Told:PySem.W.nsIn K mainGlobals "Told" = some (some (.ref c_Told))) (pa_Told:PySem.W.plainGet K c_Told Str.empty = true) (pb_Told:PySem.W.hasDictIn K c_Told = true) (pc_Told:PySem.W.plainOver K c_Told = true)
    (pd_Told:PySem.W.findIn K (.ref c_Told) "__setattr__" = some (some (.builtin "object.__setattr__"))) (pe_Told:PySem.W.findIn K (.ref c_Told) "__class__" = some (some (.builtin "object.__class__"))) (pf_Told:PySem.W.specialIn K (.builtin "object.__class__") "__get__" = some (some (.builtin "getset_descriptor.__get__"))) (pg_Told:PySem.W.takesIn K (.builtin "object.__class__") = some true) (ph_Told:PySem.W.mroIn K c_Told (.type "object") = some true)
    (qa_Told:PySem.W.makesIn K c_Told = true) (qb_Told:PySem.W.findIn K (.ref c_Told) "__init__" = some (some (.ref i_Told))) (qc_Told:PySem.W.isFn K (.ref i_Told) = true) (qd_Told:PySem.W.keepIn K (.ref c_Told) = true)
    (qn_Told_rising:PySem.W.findIn K (.ref c_Told) "rising" = some none)
    (cl_Told:K.lookup i_Told = some ⟨oc_5,od_5,.func (PySem.W.fnOf "__init__" "Told.__init__" (ag aG) (af aG) (ac aG) .none kV_5 dc_5 pm_5 an_5 cd_5 ct_5),sl_5⟩) (co_Told:PySem.W.codeIn K cd_5 "Told.__init__" = true) (ck_Told:PySem.W.keepIn K (.ref i_Told) = true)
    (ca_Die:PySem.W.nsIn K mainGlobals "Die" = some (some (.ref c_Die))) (pa_Die:PySem.W.plainGet K c_Die Str.empty = true) (pb_Die:PySem.W.hasDictIn K c_Die = true) (pc_Die:PySem.W.plainOver K c_Die = true)
    (pd_Die:PySem.W.findIn K (.ref c_Die) "__setattr__" = some (some (.builtin "object.__setattr__"))) (pe_Die:PySem.W.findIn K (.ref c_Die) "__class__" = some (some (.builtin "object.__class__"))) (pf_Die:PySem.W.specialIn K (.builtin "object.__class__") "__get__" = some (some (.builtin "getset_descriptor.__get__"))) (pg_Die:PySem.W.takesIn K (.builtin "object.__class__") = some true) (ph_Die:PySem.W.mroIn K c_Die (.type "object") = some true)
    (qa_Die:PySem.W.makesIn K c_Die = true) (qb_Die:PySem.W.findIn K (.ref c_Die) "__init__" = some (some (.ref i_Die))) (qc_Die:PySem.W.isFn K (.ref i_Die) = true) (qd_Die:PySem.W.keepIn K (.ref c_Die) = true)
    (qn_Die_makes:PySem.W.findIn K (.ref c_Die) "makes" = some none)
    (cl_Die:K.lookup i_Die = some ⟨oc_0,od_0,.func (PySem.W.fnOf "__init__" "Die.__init__" (ag aK) (af aK) (ac aK) .none kV_0 dc_0 pm_0 an_0 cd_0 ct_0),sl_0⟩) (co_Die:PySem.W.codeIn K cd_0 "Die.__init__" = true) (ck_Die:PySem.W.keepIn K (.ref i_Die) = true)
    (mf_6:PySem.W.findIn K (.ref c_Told) "is_told" = some (some (.ref x_Told_is_told)))
    (ml_6:K.lookup x_Told_is_told = some ⟨oc_6,od_6,.func (PySem.W.fnOf "is_told" "Told.is_told" (ag aL) (af aL) (ac aL) .none kV_6 dc_6 pm_6 an_6 cd_6 ct_6),sl_6⟩) (mo_6:PySem.W.codeIn K cd_6 "Told.is_told" = true) (mk_6:PySem.W.keepIn K (.ref x_Told_is_told) = true) (mi_6:PySem.W.isFn K (.ref x_Told_is_told) = true)
    (mf_1:PySem.W.findIn K (.ref c_Die) "is_told" = some (some (.ref x_Die_is_told)))
    (ml_1:K.lookup x_Die_is_told = some ⟨oc_1,od_1,.func (PySem.W.fnOf "is_told" "Die.is_told" (ag aO) (af aO) (ac aO) .none kV_1 dc_1 pm_1 an_1 cd_1 ct_1),sl_1⟩) (mo_1:PySem.W.codeIn K cd_1 "Die.is_told" = true) (mk_1:PySem.W.keepIn K (.ref x_Die_is_told) = true) (mi_1:PySem.W.isFn K (.ref x_Die_is_told) = true)
    (mf_7:PySem.W.findIn K (.ref c_Told) "kept" = some (some (.ref x_Told_kept)))
    (ml_7:K.lookup x_Told_kept = some ⟨oc_7,od_7,.func (PySem.W.fnOf "kept" "Told.kept" (ag bv) (af bv) (ac bv) .none kV_7 dc_7 pm_7 an_7 cd_7 ct_7),sl_7⟩) (mo_7:PySem.W.codeIn K cd_7 "Told.kept" = true) (mk_7:PySem.W.keepIn K (.ref x_Told_kept) = true) (mi_7:PySem.W.isFn K (.ref x_Told_kept) = true)
    (mf_2:PySem.W.findIn K (.ref c_Die) "kept" = some (some (.ref x_Die_kept)))
    (ml_2:K.lookup x_Die_kept = some ⟨oc_2,od_2,.func (PySem.W.fnOf "kept" "Die.kept" (ag bJ) (af bJ) (ac bJ) .none kV_2 dc_2 pm_2 an_2 cd_2 ct_2),sl_2⟩) (mo_2:PySem.W.codeIn K cd_2 "Die.kept" = true) (mk_2:PySem.W.keepIn K (.ref x_Die_kept) = true) (mi_2:PySem.W.isFn K (.ref x_Die_kept) = true)
    (mf_9:PySem.W.findIn K (.ref c_Told) "sides" = some (some (.ref x_Told_sides)))
    (ml_9:K.lookup x_Told_sides = some ⟨oc_9,od_9,.func (PySem.W.fnOf "sides" "Told.sides" (ag aX) (af aX) (ac aX) .none kV_9 dc_9 pm_9 an_9 cd_9 ct_9),sl_9⟩) (mo_9:PySem.W.codeIn K cd_9 "Told.sides" = true) (mk_9:PySem.W.keepIn K (.ref x_Told_sides) = true) (mi_9:PySem.W.isFn K (.ref x_Told_sides) = true)
    (mf_4:PySem.W.findIn K (.ref c_Die) "sides" = some (some (.ref x_Die_sides)))
    (ml_4:K.lookup x_Die_sides = some ⟨oc_4,od_4,.func (PySem.W.fnOf "sides" "Die.sides" (ag bn) (af bn) (ac bn) .none kV_4 dc_4 pm_4 an_4 cd_4 ct_4),sl_4⟩) (mo_4:PySem.W.codeIn K cd_4 "Die.sides" = true) (mk_4:PySem.W.keepIn K (.ref x_Die_sides) = true) (mi_4:PySem.W.isFn K (.ref x_Die_sides) = true)
    (mf_8:PySem.W.findIn K (.ref c_Told) "parts" = some (some (.ref x_Told_parts)))
    (ml_8:K.lookup x_Told_parts = some ⟨oc_8,od_8,.func (PySem.W.fnOf "parts" "Told.parts" (ag aV) (af aV) (ac aV) .none kV_8 dc_8 pm_8 an_8 cd_8 ct_8),sl_8⟩) (mo_8:PySem.W.codeIn K cd_8 "Told.parts" = true) (mk_8:PySem.W.keepIn K (.ref x_Told_parts) = true) (mi_8:PySem.W.isFn K (.ref x_Told_parts) = true)
    (mf_3:PySem.W.findIn K (.ref c_Die) "parts" = some (some (.ref x_Die_parts)))
    (ml_3:K.lookup x_Die_parts = some ⟨oc_3,od_3,.func (PySem.W.fnOf "parts" "Die.parts" (ag bx) (af bx) (ac bx) .none kV_3 dc_3 pm_3 an_3 cd_3 ct_3),sl_3⟩) (mo_3:PySem.W.codeIn K cd_3 "Die.parts" = true) (mk_3:PySem.W.keepIn K (.ref x_Die_parts) = true) (mi_3:PySem.W.isFn K (.ref x_Die_parts) = true)
    (lca_a:cd17 = .ref lc_duel_matrix) (lct_a:K.lookup lc_duel_matrix = some ⟨lo_a,lod_a,.fields lvs_a,lsl_a⟩) (lcq_a:lvs_a[11]? = some (.ref lp_duel_matrix)) (lch_duel_matrix:PySem.W.codeHdIn K lc_duel_matrix lp_duel_matrix = true)
    (lca_b:cd15 = .ref lc_last_die) (lct_b:K.lookup lc_last_die = some ⟨lo_b,lod_b,.fields lvs_b,lsl_b⟩) (lcq_b:lvs_b[11]? = some (.ref lp_last_die)) (lch_last_die:PySem.W.codeHdIn K lc_last_die lp_last_die = true)
    (lca_c:cd14 = .ref lc_settled_make) (lct_c:K.lookup lc_settled_make = some ⟨lo_c,lod_c,.fields lvs_c,lsl_c⟩) (lcq_c:lvs_c[11]? = some (.ref lp_settled_make)) (lch_settled_make:PySem.W.codeHdIn K lc_settled_make lp_settled_make = true)
    (ltnd:([lp_duel_matrix,lp_last_die,lp_settled_make]:List Addr).Nodup)
    (z0:PySem.W.nsIn K mainGlobals "abs" = some none)
    (z1:PySem.W.nsIn K mainGlobals "bool" = some none)
    (z2:PySem.W.nsIn K mainGlobals "int" = some none)
    (z3:PySem.W.nsIn K mainGlobals "isinstance" = some none)
    (z4:PySem.W.nsIn K mainGlobals "len" = some none)
    (z5:PySem.W.nsIn K mainGlobals "list" = some none)
    (z6:PySem.W.nsIn K mainGlobals "max" = some none)
    (z7:PySem.W.nsIn K mainGlobals "min" = some none)
    (z8:PySem.W.nsIn K mainGlobals "range" = some none)
    (z9:PySem.W.nsIn K mainGlobals "sorted" = some none)
    (z10:PySem.W.nsIn K mainGlobals "sum" = some none)
    (z11:PySem.W.nsIn K mainGlobals "tuple" = some none)
    (z12:PySem.W.nsIn K mainGlobals "zip" = some none)  : ∃ a:Ad,Txt K mg a∧(tabs a).map (·.1) = [lp_duel_matrix,lp_last_die,lp_settled_make]:=by
  refine ⟨{ f_greatest_divisor:=f0,d_greatest_divisor:=PySem.W.fnOf "greatest_divisor" "greatest_divisor" (ag aB) (af aB) (ac aB) .none kV0 dc0 pm0 an0 cd0 ct0,f_least_multiple:=f1,d_least_multiple:=PySem.W.fnOf "least_multiple" "least_multiple" (ag aD) (af aD) (ac aD) .none kV1 dc1 pm1 an1 cd1 ct1,f_share:=f2,d_share:=PySem.W.fnOf "share" "share" (ag cR) (af cR) (ac cR) .none kV2 dc2 pm2 an2 cd2 ct2,f_plus:=f3,d_plus:=PySem.W.fnOf "plus" "plus" (ag dF) (af dF) (ac dF) .none kV3 dc3 pm3 an3 cd3 ct3,f_minus:=f4,d_minus:=PySem.W.fnOf "minus" "minus" (ag cO) (af cO) (ac cO) .none kV4 dc4 pm4 an4 cd4 ct4,f_times:=f5,d_times:=PySem.W.fnOf "times" "times" (ag cY) (af cY) (ac cY) .none kV5 dc5 pm5 an5 cd5 ct5,f_over:=f6,d_over:=PySem.W.fnOf "over" "over" (ag dG) (af dG) (ac dG) .none kV6 dc6 pm6 an6 cd6 ct6,f_below:=f7,d_below:=PySem.W.fnOf "below" "below" (ag cU) (af cU) (ac cU) .none kV7 dc7 pm7 an7 cd7 ct7,f_matrix_by:=f8,d_matrix_by:=PySem.W.fnOf "matrix_by" "matrix_by" (ag bu) (af bu) (ac bu) .none kV8 dc8 pm8 an8 cd8 ct8,f_matrix_row:=f9,d_matrix_row:=PySem.W.fnOf "matrix_row" "matrix_row" (ag aW) (af aW) (ac aW) .none kV9 dc9 pm9 an9 cd9 ct9,f_is_unsure:=f10,d_is_unsure:=PySem.W.fnOf "is_unsure" "is_unsure" (ag bp) (af bp) (ac bp) .none kV10 dc10 pm10 an10 cd10 ct10,f_duels:=f11,d_duels:=PySem.W.fnOf "duels" "duels" (ag cX) (af cX) (ac cX) .none kV11 dc11 pm11 an11 cd11 ct11,f_settled:=f12,d_settled:=PySem.W.fnOf "settled" "settled" (ag bX) (af bX) (ac bX) .none kV12 dc12 pm12 an12 cd12 ct12,f_open_node:=f13,d_open_node:=PySem.W.fnOf "open_node" "open_node" (ag br) (af br) (ac br) .none kV13 dc13 pm13 an13 cd13 ct13,f_settled_make:=f14,d_settled_make:=PySem.W.fnOf "settled_make" "settled_make" (ag aE) (af aE) (ac aE) .none kV14 dc14 pm14 an14 cd14 ct14,f_last_die:=f15,d_last_die:=PySem.W.fnOf "last_die" "last_die" (ag bf) (af bf) (ac bf) .none kV15 dc15 pm15 an15 cd15 ct15,f_duel_parts:=f16,d_duel_parts:=PySem.W.fnOf "duel_parts" "duel_parts" (ag aY) (af aY) (ac aY) .none kV16 dc16 pm16 an16 cd16 ct16,f_duel_matrix:=f17,d_duel_matrix:=PySem.W.fnOf "duel_matrix" "duel_matrix" (ag aJ) (af aJ) (ac aJ) .none kV17 dc17 pm17 an17 cd17 ct17,f_pair_chance:=f18,d_pair_chance:=PySem.W.fnOf "pair_chance" "pair_chance" (ag aP) (af aP) (ac aP) .none kV18 dc18 pm18 an18 cd18 ct18,f_kept_together:=f19,d_kept_together:=PySem.W.fnOf "kept_together" "kept_together" (ag aF) (af aF) (ac aF) .none kV19 dc19 pm19 an19 cd19 ct19,f_both_kept:=f20,d_both_kept:=PySem.W.fnOf "both_kept" "both_kept" (ag bz) (af bz) (ac bz) .none kV20 dc20 pm20 an20 cd20 ct20,f_held_behind:=f21,d_held_behind:=PySem.W.fnOf "held_behind" "held_behind" (ag aR) (af aR) (ac aR) .none kV21 dc21 pm21 an21 cd21 ct21,f_behind_duel:=f22,d_behind_duel:=PySem.W.fnOf "behind_duel" "behind_duel" (ag aQ) (af aQ) (ac aQ) .none kV22 dc22 pm22 an22 cd22 ct22,f_L_cell:=f23,d_L_cell:=PySem.W.fnOf "_law_cell" "_law_cell" (ag cx) (af cx) (ac cx) .none kV23 dc23 pm23 an23 cd23 ct23,f_L_mix:=f24,d_L_mix:=PySem.W.fnOf "_law_mix" "_law_mix" (ag cS) (af cS) (ac cS) .none kV24 dc24 pm24 an24 cd24 ct24,f_L_row:=f25,d_L_row:=PySem.W.fnOf "_law_row" "_law_row" (ag cV) (af cV) (ac cV) .none kV25 dc25 pm25 an25 cd25 ct25,f_L_whole:=f26,d_L_whole:=PySem.W.fnOf "_law_whole" "_law_whole" (ag bW) (af bW) (ac bW) .none kV26 dc26 pm26 an26 cd26 ct26,f_L_low:=f27,d_L_low:=PySem.W.fnOf "_law_low" "_law_low" (ag cZ) (af cZ) (ac cZ) .none kV27 dc27 pm27 an27 cd27 ct27,f_L_plus:=f28,d_L_plus:=PySem.W.fnOf "_law_plus" "_law_plus" (ag ci) (af ci) (ac ci) .none kV28 dc28 pm28 an28 cd28 ct28,f_L_times:=f29,d_L_times:=PySem.W.fnOf "_law_times" "_law_times" (ag bU) (af bU) (ac bU) .none kV29 dc29 pm29 an29 cd29 ct29,f_L_fraction:=f30,d_L_fraction:=PySem.W.fnOf "_law_fraction" "_law_fraction" (ag aT) (af aT) (ac aT) .none kV30 dc30 pm30 an30 cd30 ct30,f_L_matrix:=f31,d_L_matrix:=PySem.W.fnOf "_law_matrix" "_law_matrix" (ag bK) (af bK) (ac bK) .none kV31 dc31 pm31 an31 cd31 ct31,f_L_shares:=f32,d_L_shares:=PySem.W.fnOf "_law_shares" "_law_shares" (ag bI) (af bI) (ac bI) .none kV32 dc32 pm32 an32 cd32 ct32,f_L_order:=f33,d_L_order:=PySem.W.fnOf "_law_order" "_law_order" (ag bV) (af bV) (ac bV) .none kV33 dc33 pm33 an33 cd33 ct33,f_L_ways:=f34,d_L_ways:=PySem.W.fnOf "_law_ways" "_law_ways" (ag cq) (af cq) (ac cq) .none kV34 dc34 pm34 an34 cd34 ct34,f_L_together:=f35,d_L_together:=PySem.W.fnOf "_law_together" "_law_together" (ag aU) (af aU) (ac aU) .none kV35 dc35 pm35 an35 cd35 ct35,f_L_deep:=f36,d_L_deep:=PySem.W.fnOf "_law_deep" "_law_deep" (ag cv) (af cv) (ac cv) .none kV36 dc36 pm36 an36 cd36 ct36,f_L_good:=f37,d_L_good:=PySem.W.fnOf "_law_good" "_law_good" (ag cj) (af cj) (ac cj) .none kV37 dc37 pm37 an37 cd37 ct37,f_law:=f38,d_law:=PySem.W.fnOf "law" "law" (ag fg) (af fg) (ac fg) .none kV38 dc38 pm38 an38 cd38 ct38,c_Node:=c_Node,c_Told:=c_Told,i_Told:=i_Told,e_Told:=PySem.W.fnOf "__init__" "Told.__init__" (ag aG) (af aG) (ac aG) .none kV_5 dc_5 pm_5 an_5 cd_5 ct_5,c_Die:=c_Die,i_Die:=i_Die,e_Die:=PySem.W.fnOf "__init__" "Die.__init__" (ag aK) (af aK) (ac aK) .none kV_0 dc_0 pm_0 an_0 cd_0 ct_0,x_Told_is_told:=x_Told_is_told,y_Told_is_told:=PySem.W.fnOf "is_told" "Told.is_told" (ag aL) (af aL) (ac aL) .none kV_6 dc_6 pm_6 an_6 cd_6 ct_6,x_Die_is_told:=x_Die_is_told,y_Die_is_told:=PySem.W.fnOf "is_told" "Die.is_told" (ag aO) (af aO) (ac aO) .none kV_1 dc_1 pm_1 an_1 cd_1 ct_1,x_Told_kept:=x_Told_kept,y_Told_kept:=PySem.W.fnOf "kept" "Told.kept" (ag bv) (af bv) (ac bv) .none kV_7 dc_7 pm_7 an_7 cd_7 ct_7,x_Die_kept:=x_Die_kept,y_Die_kept:=PySem.W.fnOf "kept" "Die.kept" (ag bJ) (af bJ) (ac bJ) .none kV_2 dc_2 pm_2 an_2 cd_2 ct_2,x_Told_sides:=x_Told_sides,y_Told_sides:=PySem.W.fnOf "sides" "Told.sides" (ag aX) (af aX) (ac aX) .none kV_9 dc_9 pm_9 an_9 cd_9 ct_9,x_Die_sides:=x_Die_sides,y_Die_sides:=PySem.W.fnOf "sides" "Die.sides" (ag bn) (af bn) (ac bn) .none kV_4 dc_4 pm_4 an_4 cd_4 ct_4,x_Told_parts:=x_Told_parts,y_Told_parts:=PySem.W.fnOf "parts" "Told.parts" (ag aV) (af aV) (ac aV) .none kV_8 dc_8 pm_8 an_8 cd_8 ct_8,x_Die_parts:=x_Die_parts,y_Die_parts:=PySem.W.fnOf "parts" "Die.parts" (ag bx) (af bx) (ac bx) .none kV_3 dc_3 pm_3 an_3 cd_3 ct_3,k_NOUGHT:=k_NOUGHT,k_WHOLE:=k_WHOLE,k_TWICE:=k_TWICE,lc_duel_matrix:=lc_duel_matrix,lp_duel_matrix:=lp_duel_matrix,lc_last_die:=lc_last_die,lp_last_die:=lp_last_die,lc_settled_make:=lc_settled_make,lp_settled_make:=lp_settled_make },?_,rfl⟩
  exact {
    lcd_duel_matrix:=lca_a
    lch_duel_matrix:=lch_duel_matrix
    lcd_last_die:=lca_b
    lch_last_die:=lch_last_die
    lcd_settled_make:=lca_c
    lch_settled_make:=lch_settled_make
    tnd:=ltnd
    F_greatest_divisor:=am (st:=aB) l0 c0 k0
    B_greatest_divisor:=(am (st:=aB) l0 c0 k0).binds (ps:=["one", "other"]) fun _ _ _ _ _ _ us hl=>(by obtain ⟨_,_,rfl⟩:=us2 hl; rfl)
    m_greatest_divisor:=PySem.W.mg_of X G a0
    F_least_multiple:=am (st:=aD) l1 c1 k1
    B_least_multiple:=(am (st:=aD) l1 c1 k1).binds (ps:=["numbers"]) fun _ _ _ _ _ _ us hl=>(by obtain ⟨_,rfl⟩:=us1 hl; rfl)
    m_least_multiple:=PySem.W.mg_of X G a1
    F_share:=am (st:=cR) l2 c2 k2
    B_share:=(am (st:=cR) l2 c2 k2).binds (ps:=["top", "bottom"]) fun _ _ _ _ _ _ us hl=>(by obtain ⟨_,_,rfl⟩:=us2 hl; rfl)
    m_share:=PySem.W.mg_of X G a2
    F_plus:=am (st:=dF) l3 c3 k3
    B_plus:=(am (st:=dF) l3 c3 k3).binds (ps:=["one", "other"]) fun _ _ _ _ _ _ us hl=>(by obtain ⟨_,_,rfl⟩:=us2 hl; rfl)
    m_plus:=PySem.W.mg_of X G a3
    F_minus:=am (st:=cO) l4 c4 k4
    B_minus:=(am (st:=cO) l4 c4 k4).binds (ps:=["one", "other"]) fun _ _ _ _ _ _ us hl=>(by obtain ⟨_,_,rfl⟩:=us2 hl; rfl)
    m_minus:=PySem.W.mg_of X G a4
    F_times:=am (st:=cY) l5 c5 k5
    B_times:=(am (st:=cY) l5 c5 k5).binds (ps:=["one", "other"]) fun _ _ _ _ _ _ us hl=>(by obtain ⟨_,_,rfl⟩:=us2 hl; rfl)
    m_times:=PySem.W.mg_of X G a5
    F_over:=am (st:=dG) l6 c6 k6
    B_over:=(am (st:=dG) l6 c6 k6).binds (ps:=["one", "other"]) fun _ _ _ _ _ _ us hl=>(by obtain ⟨_,_,rfl⟩:=us2 hl; rfl)
    m_over:=PySem.W.mg_of X G a6
    F_below:=am (st:=cU) l7 c7 k7
    B_below:=(am (st:=cU) l7 c7 k7).binds (ps:=["one", "other"]) fun _ _ _ _ _ _ us hl=>(by obtain ⟨_,_,rfl⟩:=us2 hl; rfl)
    m_below:=PySem.W.mg_of X G a7
    F_matrix_by:=am (st:=bu) l8 c8 k8
    B_matrix_by:=(am (st:=bu) l8 c8 k8).binds (ps:=["many", "tell"]) fun _ _ _ _ _ _ us hl=>(by obtain ⟨_,_,rfl⟩:=us2 hl; rfl)
    m_matrix_by:=PySem.W.mg_of X G a8
    F_matrix_row:=am (st:=aW) l9 c9 k9
    B_matrix_row:=(am (st:=aW) l9 c9 k9).binds (ps:=["one", "many", "tell"]) fun _ _ _ _ _ _ us hl=>(by obtain ⟨_,_,_,rfl⟩:=us3 hl; rfl)
    m_matrix_row:=PySem.W.mg_of X G a9
    F_is_unsure:=am (st:=bp) l10 c10 k10
    B_is_unsure:=(am (st:=bp) l10 c10 k10).binds (ps:=["chance"]) fun _ _ _ _ _ _ us hl=>(by obtain ⟨_,rfl⟩:=us1 hl; rfl)
    m_is_unsure:=PySem.W.mg_of X G a10
    F_duels:=am (st:=cX) l11 c11 k11
    B_duels:=(am (st:=cX) l11 c11 k11).binds (ps:=["shares", "order"]) fun _ _ _ _ _ _ us hl=>(by obtain ⟨_,_,rfl⟩:=us2 hl; rfl)
    m_duels:=PySem.W.mg_of X G a11
    F_settled:=am (st:=bX) l12 c12 k12
    B_settled:=(am (st:=bX) l12 c12 k12).binds (ps:=["told", "taken"]) fun _ _ _ _ _ _ us hl=>(by obtain ⟨_,_,rfl⟩:=us2 hl; rfl)
    m_settled:=PySem.W.mg_of X G a12
    F_open_node:=am (st:=br) l13 c13 k13
    B_open_node:=(am (st:=br) l13 c13 k13).binds (ps:=["told", "taken"]) fun _ _ _ _ _ _ us hl=>(by obtain ⟨_,_,rfl⟩:=us2 hl; rfl)
    m_open_node:=PySem.W.mg_of X G a13
    F_settled_make:=am (st:=aE) l14 c14 k14
    B_settled_make:=(am (st:=aE) l14 c14 k14).binds (ps:=["told", "taken"]) fun _ _ _ _ _ _ us hl=>(by obtain ⟨_,_,rfl⟩:=us2 hl; rfl)
    m_settled_make:=PySem.W.mg_of X G a14
    F_last_die:=am (st:=bf) l15 c15 k15
    B_last_die:=(am (st:=bf) l15 c15 k15).binds (ps:=["last", "taken"]) fun _ _ _ _ _ _ us hl=>(by obtain ⟨_,_,rfl⟩:=us2 hl; rfl)
    m_last_die:=PySem.W.mg_of X G a15
    F_duel_parts:=am (st:=aY) l16 c16 k16
    B_duel_parts:=(am (st:=aY) l16 c16 k16).binds (ps:=["one", "other"]) fun _ _ _ _ _ _ us hl=>(by obtain ⟨_,_,rfl⟩:=us2 hl; rfl)
    m_duel_parts:=PySem.W.mg_of X G a16
    F_duel_matrix:=am (st:=aJ) l17 c17 k17
    B_duel_matrix:=(am (st:=aJ) l17 c17 k17).binds (ps:=["shares", "order"]) fun _ _ _ _ _ _ us hl=>(by obtain ⟨_,_,rfl⟩:=us2 hl; rfl)
    m_duel_matrix:=PySem.W.mg_of X G a17
    F_pair_chance:=am (st:=aP) l18 c18 k18
    B_pair_chance:=(am (st:=aP) l18 c18 k18).binds (ps:=["told", "found", "one", "other"]) fun _ _ _ _ _ _ us hl=>(by obtain ⟨_,_,_,_,rfl⟩:=us4 hl; rfl)
    m_pair_chance:=PySem.W.mg_of X G a18
    F_kept_together:=am (st:=aF) l19 c19 k19
    B_kept_together:=(am (st:=aF) l19 c19 k19).binds (ps:=["told"]) fun _ _ _ _ _ _ us hl=>(by obtain ⟨_,rfl⟩:=us1 hl; rfl)
    m_kept_together:=PySem.W.mg_of X G a19
    F_both_kept:=am (st:=bz) l20 c20 k20
    B_both_kept:=(am (st:=bz) l20 c20 k20).binds (ps:=["up", "sure", "held", "chance"]) fun _ _ _ _ _ _ us hl=>(by obtain ⟨_,_,_,_,rfl⟩:=us4 hl; rfl)
    m_both_kept:=PySem.W.mg_of X G a20
    F_held_behind:=am (st:=aR) l21 c21 k21
    B_held_behind:=(am (st:=aR) l21 c21 k21).binds (ps:=["held", "chance"]) fun _ _ _ _ _ _ us hl=>(by obtain ⟨_,_,rfl⟩:=us2 hl; rfl)
    m_held_behind:=PySem.W.mg_of X G a21
    F_behind_duel:=am (st:=aQ) l22 c22 k22
    B_behind_duel:=(am (st:=aQ) l22 c22 k22).binds (ps:=["earlier", "held", "place", "chance"]) fun _ _ _ _ _ _ us hl=>(by obtain ⟨_,_,_,_,rfl⟩:=us4 hl; rfl)
    m_behind_duel:=PySem.W.mg_of X G a22
    F_L_cell:=am (st:=cx) l23 c23 k23
    B_L_cell:=(am (st:=cx) l23 c23 k23).binds (ps:=["_law_script", "_law_k"]) fun _ _ _ _ _ _ us hl=>(by obtain ⟨_,_,rfl⟩:=us2 hl; rfl)
    m_L_cell:=PySem.W.mg_of X G a23
    F_L_mix:=am (st:=cS) l24 c24 k24
    B_L_mix:=(am (st:=cS) l24 c24 k24).binds (ps:=["_law_cell_here", "_law_k"]) fun _ _ _ _ _ _ us hl=>(by obtain ⟨_,_,rfl⟩:=us2 hl; rfl)
    m_L_mix:=PySem.W.mg_of X G a24
    F_L_row:=am (st:=cV) l25 c25 k25
    B_L_row:=(am (st:=cV) l25 c25 k25).binds (ps:=["_law_cell_here", "_law_bit", "_law_many", "_law_most"]) fun _ _ _ _ _ _ us hl=>(by obtain ⟨_,_,_,_,rfl⟩:=us4 hl; rfl)
    m_L_row:=PySem.W.mg_of X G a25
    F_L_whole:=am (st:=bW) l26 c26 k26
    B_L_whole:=(am (st:=bW) l26 c26 k26).binds (ps:=["_law_found"]) fun _ _ _ _ _ _ us hl=>(by obtain ⟨_,rfl⟩:=us1 hl; rfl)
    m_L_whole:=PySem.W.mg_of X G a26
    F_L_low:=am (st:=cZ) l27 c27 k27
    B_L_low:=(am (st:=cZ) l27 c27 k27).binds (ps:=["_law_top", "_law_bottom"]) fun _ _ _ _ _ _ us hl=>(by obtain ⟨_,_,rfl⟩:=us2 hl; rfl)
    m_L_low:=PySem.W.mg_of X G a27
    F_L_plus:=am (st:=ci) l28 c28 k28
    B_L_plus:=(am (st:=ci) l28 c28 k28).binds (ps:=["_law_one", "_law_other"]) fun _ _ _ _ _ _ us hl=>(by obtain ⟨_,_,rfl⟩:=us2 hl; rfl)
    m_L_plus:=PySem.W.mg_of X G a28
    F_L_times:=am (st:=bU) l29 c29 k29
    B_L_times:=(am (st:=bU) l29 c29 k29).binds (ps:=["_law_one", "_law_other"]) fun _ _ _ _ _ _ us hl=>(by obtain ⟨_,_,rfl⟩:=us2 hl; rfl)
    m_L_times:=PySem.W.mg_of X G a29
    F_L_fraction:=am (st:=aT) l30 c30 k30
    B_L_fraction:=(am (st:=aT) l30 c30 k30).binds (ps:=["_law_found", "_law_due"]) fun _ _ _ _ _ _ us hl=>(by obtain ⟨_,_,rfl⟩:=us2 hl; rfl)
    m_L_fraction:=PySem.W.mg_of X G a30
    F_L_matrix:=am (st:=bK) l31 c31 k31
    B_L_matrix:=(am (st:=bK) l31 c31 k31).binds (ps:=["_law_found", "_law_due"]) fun _ _ _ _ _ _ us hl=>(by obtain ⟨_,_,rfl⟩:=us2 hl; rfl)
    m_L_matrix:=PySem.W.mg_of X G a31
    F_L_shares:=am (st:=bI) l32 c32 k32
    B_L_shares:=(am (st:=bI) l32 c32 k32).binds (ps:=["_law_script", "_law_start", "_law_most"]) fun _ _ _ _ _ _ us hl=>(by obtain ⟨_,_,_,rfl⟩:=us3 hl; rfl)
    m_L_shares:=PySem.W.mg_of X G a32
    F_L_order:=am (st:=bV) l33 c33 k33
    B_L_order:=(am (st:=bV) l33 c33 k33).binds (ps:=["_law_cell_here", "_law_bit", "_law_many"]) fun _ _ _ _ _ _ us hl=>(by obtain ⟨_,_,_,rfl⟩:=us3 hl; rfl)
    m_L_order:=PySem.W.mg_of X G a33
    F_L_ways:=am (st:=cq) l34 c34 k34
    B_L_ways:=(am (st:=cq) l34 c34 k34).binds (ps:=["_law_node", "_law_much"]) fun _ _ _ _ _ _ us hl=>(by obtain ⟨_,_,rfl⟩:=us2 hl; rfl)
    m_L_ways:=PySem.W.mg_of X G a34
    F_L_together:=am (st:=aU) l35 c35 k35
    B_L_together:=(am (st:=aU) l35 c35 k35).binds (ps:=["_law_ways_here", "_law_places"]) fun _ _ _ _ _ _ us hl=>(by obtain ⟨_,_,rfl⟩:=us2 hl; rfl)
    m_L_together:=PySem.W.mg_of X G a35
    F_L_deep:=am (st:=cv) l36 c36 k36
    B_L_deep:=(am (st:=cv) l36 c36 k36).binds (ps:=["_law_node"]) fun _ _ _ _ _ _ us hl=>(by obtain ⟨_,rfl⟩:=us1 hl; rfl)
    m_L_deep:=PySem.W.mg_of X G a36
    F_L_good:=am (st:=cj) l37 c37 k37
    B_L_good:=(am (st:=cj) l37 c37 k37).binds (ps:=["_law_shares_here", "_law_order_here"]) fun _ _ _ _ _ _ us hl=>(by obtain ⟨_,_,rfl⟩:=us2 hl; rfl)
    m_L_good:=PySem.W.mg_of X G a37
    F_law:=am (st:=fg) l38 c38 k38
    B_law:=(am (st:=fg) l38 c38 k38).binds (ps:=["_law_script"]) fun _ _ _ _ _ _ us hl=>(by obtain ⟨_,rfl⟩:=us1 hl; rfl)
    m_law:=PySem.W.mg_of X G a38
    g_NOUGHT:=⟨_,PySem.W.mg_of X G b_NOUGHT,rfl⟩
    t_NOUGHT:=bt_NOUGHT
    g_WHOLE:=⟨_,PySem.W.mg_of X G b_WHOLE,rfl⟩
    t_WHOLE:=bt_WHOLE
    g_TWICE:=⟨_,PySem.W.mg_of X G b_TWICE,rfl⟩
    t_TWICE:=bt_TWICE
    F_Told_is_told:=am (st:=aL) ml_6 mo_6 mk_6
    B_Told_is_told:=(am (st:=aL) ml_6 mo_6 mk_6).binds (ps:=["self"]) fun _ _ _ _ _ _ us hl=>(by obtain ⟨_,rfl⟩:=us1 hl; rfl)
    F_Die_is_told:=am (st:=aO) ml_1 mo_1 mk_1
    B_Die_is_told:=(am (st:=aO) ml_1 mo_1 mk_1).binds (ps:=["self"]) fun _ _ _ _ _ _ us hl=>(by obtain ⟨_,rfl⟩:=us1 hl; rfl)
    F_Told_kept:=am (st:=bv) ml_7 mo_7 mk_7
    B_Told_kept:=(am (st:=bv) ml_7 mo_7 mk_7).binds (ps:=["self"]) fun _ _ _ _ _ _ us hl=>(by obtain ⟨_,rfl⟩:=us1 hl; rfl)
    F_Die_kept:=am (st:=bJ) ml_2 mo_2 mk_2
    B_Die_kept:=(am (st:=bJ) ml_2 mo_2 mk_2).binds (ps:=["self"]) fun _ _ _ _ _ _ us hl=>(by obtain ⟨_,rfl⟩:=us1 hl; rfl)
    F_Told_sides:=am (st:=aX) ml_9 mo_9 mk_9
    B_Told_sides:=(am (st:=aX) ml_9 mo_9 mk_9).binds (ps:=["self"]) fun _ _ _ _ _ _ us hl=>(by obtain ⟨_,rfl⟩:=us1 hl; rfl)
    F_Die_sides:=am (st:=bn) ml_4 mo_4 mk_4
    B_Die_sides:=(am (st:=bn) ml_4 mo_4 mk_4).binds (ps:=["self"]) fun _ _ _ _ _ _ us hl=>(by obtain ⟨_,rfl⟩:=us1 hl; rfl)
    F_Told_parts:=am (st:=aV) ml_8 mo_8 mk_8
    B_Told_parts:=(am (st:=aV) ml_8 mo_8 mk_8).binds (ps:=["self"]) fun _ _ _ _ _ _ us hl=>(by obtain ⟨_,rfl⟩:=us1 hl; rfl)
    F_Die_parts:=am (st:=bx) ml_3 mo_3 mk_3
    B_Die_parts:=(am (st:=bx) ml_3 mo_3 mk_3).binds (ps:=["self"]) fun _ _ _ _ _ _ us hl=>(by obtain ⟨_,rfl⟩:=us1 hl; rfl)
    mt_Told_is_told:=⟨mf_6,mi_6,mk_6⟩
    mt_Die_is_told:=⟨mf_1,mi_1,mk_1⟩
    mt_Told_kept:=⟨mf_7,mi_7,mk_7⟩
    mt_Die_kept:=⟨mf_2,mi_2,mk_2⟩
    mt_Told_sides:=⟨mf_9,mi_9,mk_9⟩
    mt_Die_sides:=⟨mf_4,mi_4,mk_4⟩
    mt_Told_parts:=⟨mf_8,mi_8,mk_8⟩
    mt_Die_parts:=⟨mf_3,mi_3,mk_3⟩
    mc_Node:=PySem.W.mg_of X G ca_Node
    g_Node:=⟨_,PySem.W.mg_of X G ca_Node,rfl⟩
    cl_Node:=⟨pa_Node,pb_Node,pc_Node,pd_Node⟩
    ty_Node:=fun H x dx fs e=>.ins e ⟨pa_Node,pb_Node,pc_Node,pd_Node⟩ pe_Node pf_Node pg_Node ph_Node
    mc_Told:=PySem.W.mg_of X G ca_Told
    g_Told:=⟨_,PySem.W.mg_of X G ca_Told,rfl⟩
    cl_Told:=⟨pa_Told,pb_Told,pc_Told,pd_Told⟩
    ty_Told:=fun H x dx fs e=>.ins e ⟨pa_Told,pb_Told,pc_Told,pd_Told⟩ pe_Told pf_Told pg_Told ph_Told
    mk_Told:=⟨qa_Told,qb_Told,qc_Told,qd_Told⟩
    na_Told_rising:=qn_Told_rising
    Fi_Told:=am (st:=aG) cl_Told co_Told ck_Told
    Bi_Told:=(am (st:=aG) cl_Told co_Told ck_Told).binds (ps:=["self", "kept"]) fun _ _ _ _ _ _ us hl=>(by obtain ⟨_,_,rfl⟩:=us2 hl; rfl)
    mc_Die:=PySem.W.mg_of X G ca_Die
    g_Die:=⟨_,PySem.W.mg_of X G ca_Die,rfl⟩
    cl_Die:=⟨pa_Die,pb_Die,pc_Die,pd_Die⟩
    ty_Die:=fun H x dx fs e=>.ins e ⟨pa_Die,pb_Die,pc_Die,pd_Die⟩ pe_Die pf_Die pg_Die ph_Die
    mk_Die:=⟨qa_Die,qb_Die,qc_Die,qd_Die⟩
    na_Die_makes:=qn_Die_makes
    Fi_Die:=am (st:=aK) cl_Die co_Die ck_Die
    Bi_Die:=(am (st:=aK) cl_Die co_Die ck_Die).binds (ps:=["self", "parts"]) fun _ _ _ _ _ _ us hl=>(by obtain ⟨_,_,rfl⟩:=us2 hl; rfl)
    z_abs:=PySem.W.mg_none_of X G z0
    z_bool:=PySem.W.mg_none_of X G z1
    z_int:=PySem.W.mg_none_of X G z2
    z_isinstance:=PySem.W.mg_none_of X G z3
    z_len:=PySem.W.mg_none_of X G z4
    z_list:=PySem.W.mg_none_of X G z5
    z_max:=PySem.W.mg_none_of X G z6
    z_min:=PySem.W.mg_none_of X G z7
    z_range:=PySem.W.mg_none_of X G z8
    z_sorted:=PySem.W.mg_none_of X G z9
    z_sum:=PySem.W.mg_none_of X G z10
    z_tuple:=PySem.W.mg_none_of X G z11
    z_zip:=PySem.W.mg_none_of X G z12
    bl:=fun s u=>.of_eq rfl }
end My
open PySem PySem.W PyProof.Rows
def PySem.W.Fast.tw12757957876756466112:Nat:=0
def PySem.W.Fast.tw1879676395428362346:Nat:=0
def PySem.W.Fast.tw1950626081999773227:Nat:=0
def PySem.W.Fast.tw5576013734526190764:Nat:=0
def PySem.W.Fast.tw17465396250382579404:Nat:=0
def PySem.W.Fast.tw10767015341594227795:Nat:=0
def PySem.W.Fast.tw12940765310794943635:Nat:=0
def PySem.W.Fast.tw14051211203611710324:Nat:=0
def PySem.W.Fast.tw1489835807338033526:Nat:=0
def PySem.W.Fast.tw4581608834432909367:Nat:=0
def PySem.W.Fast.tw13786059329949924185:Nat:=0
set_option maxRecDepth 100000 in
set_option maxHeartbeats 0 in
theorem PySem.Challenge.cw_fewspeak_k32_whole_each_keeps_its_share_holds : PySem.Challenge.rw_fewspeak_k32_whole_each_keeps_its_share.Holds := by
  w_on; o_law; k_head; (case hw=>w_witness2)
  k_fill
  refine L2.walk_ofT (l:=PySem.Challenge.rw_fewspeak_k32_whole_each_keeps_its_share) (n:=63) (k:=My.lawK) (x := "_law_script") (CX:=L2.CX0) (sp:=My.spLaw) rfl (by decide) rfl ⟨rfl,by decide,by decide⟩ (fun w h Y=>⟨PySem.W.km_in_of Y,PySem.W.km_tabs_of Y⟩) ?F ?S ?C
  case F =>
    intro ts' hts w mg fa h KX G hmg
    have T:∃ a,My.Txt (L2.KOf KX) mg a∧(My.tabs a).map (·.1) = ts':=by
      rw [hts]
      dsimp only [L2.KOf]
      refine' My.txt_mk KX G ?a0 ?l0 ?c0 ?k0 ?a1 ?l1 ?c1 ?k1 ?a2 ?l2 ?c2 ?k2 ?a3 ?l3 ?c3 ?k3 ?a4 ?l4 ?c4 ?k4 ?a5 ?l5 ?c5 ?k5 ?a6 ?l6 ?c6 ?k6 ?a7 ?l7 ?c7 ?k7 ?a8 ?l8 ?c8 ?k8 ?a9 ?l9 ?c9 ?k9 ?a10 ?l10 ?c10 ?k10 ?a11 ?l11 ?c11 ?k11 ?a12 ?l12 ?c12 ?k12 ?a13 ?l13 ?c13 ?k13 ?a14 ?l14 ?c14 ?k14 ?a15 ?l15 ?c15 ?k15 ?a16 ?l16 ?c16 ?k16 ?a17 ?l17 ?c17 ?k17 ?a18 ?l18 ?c18 ?k18 ?a19 ?l19 ?c19 ?k19 ?a20 ?l20 ?c20 ?k20 ?a21 ?l21 ?c21 ?k21 ?a22 ?l22 ?c22 ?k22 ?a23 ?l23 ?c23 ?k23 ?a24 ?l24 ?c24 ?k24 ?a25 ?l25 ?c25 ?k25 ?a26 ?l26 ?c26 ?k26 ?a27 ?l27 ?c27 ?k27 ?a28 ?l28 ?c28 ?k28 ?a29 ?l29 ?c29 ?k29 ?a30 ?l30 ?c30 ?k30 ?a31 ?l31 ?c31 ?k31 ?a32 ?l32 ?c32 ?k32 ?a33 ?l33 ?c33 ?k33 ?a34 ?l34 ?c34 ?k34 ?a35 ?l35 ?c35 ?k35 ?a36 ?l36 ?c36 ?k36 ?a37 ?l37 ?c37 ?k37 ?a38 ?l38 ?c38 ?k38 ?b_NOUGHT ?bt_NOUGHT ?b_WHOLE ?bt_WHOLE ?b_TWICE ?bt_TWICE ?ca_Node ?pa_Node ?pb_Node ?pc_Node ?pd_Node ?pe_Node ?pf_Node ?pg_Node ?ph_Node ?ca_Told ?pa_Told ?pb_Told ?pc_Told ?pd_Told ?pe_Told ?pf_Told ?pg_Told ?ph_Told ?qa_Told ?qb_Told ?qc_Told ?qd_Told ?qn_Told_rising ?cl_Told ?co_Told ?ck_Told ?ca_Die ?pa_Die ?pb_Die ?pc_Die ?pd_Die ?pe_Die ?pf_Die ?pg_Die ?ph_Die ?qa_Die ?qb_Die ?qc_Die ?qd_Die ?qn_Die_makes ?cl_Die ?co_Die ?ck_Die ?mf_6 ?ml_6 ?mo_6 ?mk_6 ?mi_6 ?mf_1 ?ml_1 ?mo_1 ?mk_1 ?mi_1 ?mf_7 ?ml_7 ?mo_7 ?mk_7 ?mi_7 ?mf_2 ?ml_2 ?mo_2 ?mk_2 ?mi_2 ?mf_9 ?ml_9 ?mo_9 ?mk_9 ?mi_9 ?mf_4 ?ml_4 ?mo_4 ?mk_4 ?mi_4 ?mf_8 ?ml_8 ?mo_8 ?mk_8 ?mi_8 ?mf_3 ?ml_3 ?mo_3 ?mk_3 ?mi_3 ?lca_a ?lct_a ?lcq_a ?lch_duel_matrix ?lca_b ?lct_b ?lcq_b ?lch_last_die ?lca_c ?lct_c ?lcq_c ?lch_settled_make ?ltnd ?z0 ?z1 ?z2 ?z3 ?z4 ?z5 ?z6 ?z7 ?z8 ?z9 ?z10 ?z11 ?z12
      (case a0=>k_is)
      (case l0=>k_is)
      (case c0=>k_is)
      (case k0=>k_is)
      (case a1=>k_is)
      (case l1=>k_is)
      (case c1=>k_is)
      (case k1=>k_is)
      (case a2=>k_is)
      (case l2=>k_is)
      (case c2=>k_is)
      (case k2=>k_is)
      (case a3=>k_is)
      (case l3=>k_is)
      (case c3=>k_is)
      (case k3=>k_is)
      (case a4=>k_is)
      (case l4=>k_is)
      (case c4=>k_is)
      (case k4=>k_is)
      (case a5=>k_is)
      (case l5=>k_is)
      (case c5=>k_is)
      (case k5=>k_is)
      (case a6=>k_is)
      (case l6=>k_is)
      (case c6=>k_is)
      (case k6=>k_is)
      (case a7=>k_is)
      (case l7=>k_is)
      (case c7=>k_is)
      (case k7=>k_is)
      (case a8=>k_is)
      (case l8=>k_is)
      (case c8=>k_is)
      (case k8=>k_is)
      (case a9=>k_is)
      (case l9=>k_is)
      (case c9=>k_is)
      (case k9=>k_is)
      (case a10=>k_is)
      (case l10=>k_is)
      (case c10=>k_is)
      (case k10=>k_is)
      (case a11=>k_is)
      (case l11=>k_is)
      (case c11=>k_is)
      (case k11=>k_is)
      (case a12=>k_is)
      (case l12=>k_is)
      (case c12=>k_is)
      (case k12=>k_is)
      (case a13=>k_is)
      (case l13=>k_is)
      (case c13=>k_is)
      (case k13=>k_is)
      (case a14=>k_is)
      (case l14=>k_is)
      (case c14=>k_is)
      (case k14=>k_is)
      (case a15=>k_is)
      (case l15=>k_is)
      (case c15=>k_is)
      (case k15=>k_is)
      (case a16=>k_is)
      (case l16=>k_is)
      (case c16=>k_is)
      (case k16=>k_is)
      (case a17=>k_is)
      (case l17=>k_is)
      (case c17=>k_is)
      (case k17=>k_is)
      (case a18=>k_is)
      (case l18=>k_is)
      (case c18=>k_is)
      (case k18=>k_is)
      (case a19=>k_is)
      (case l19=>k_is)
      (case c19=>k_is)
      (case k19=>k_is)
      (case a20=>k_is)
      (case l20=>k_is)
      (case c20=>k_is)
      (case k20=>k_is)
      (case a21=>k_is)
      (case l21=>k_is)
      (case c21=>k_is)
      (case k21=>k_is)
      (case a22=>k_is)
      (case l22=>k_is)
      (case c22=>k_is)
      (case k22=>k_is)
      (case a23=>k_is)
      (case l23=>k_is)
      (case c23=>k_is)
      (case k23=>k_is)
      (case a24=>k_is)
      (case l24=>k_is)
      (case c24=>k_is)
      (case k24=>k_is)
      (case a25=>k_is)
      (case l25=>k_is)
      (case c25=>k_is)
      (case k25=>k_is)
      (case a26=>k_is)
      (case l26=>k_is)
      (case c26=>k_is)
      (case k26=>k_is)
      (case a27=>k_is)
      (case l27=>k_is)
      (case c27=>k_is)
      (case k27=>k_is)
      (case a28=>k_is)
      (case l28=>k_is)
      (case c28=>k_is)
      (case k28=>k_is)
      (case a29=>k_is)
      (case l29=>k_is)
      (case c29=>k_is)
      (case k29=>k_is)
      (case a30=>k_is)
      (case l30=>k_is)
      (case c30=>k_is)
      (case k30=>k_is)
      (case a31=>k_is)
      (case l31=>k_is)
      (case c31=>k_is)
      (case k31=>k_is)
      (case a32=>k_is)
      (case l32=>k_is)
      (case c32=>k_is)
      (case k32=>k_is)
      (case a33=>k_is)
      (case l33=>k_is)
      (case c33=>k_is)
      (case k33=>k_is)
      (case a34=>k_is)
      (case l34=>k_is)
      (case c34=>k_is)
      (case k34=>k_is)
      (case a35=>k_is)
      (case l35=>k_is)
      (case c35=>k_is)
      (case k35=>k_is)
      (case a36=>k_is)
      (case l36=>k_is)
      (case c36=>k_is)
      (case k36=>k_is)
      (case a37=>k_is)
      (case l37=>k_is)
      (case c37=>k_is)
      (case k37=>k_is)
      (case a38=>k_is)
      (case l38=>k_is)
      (case c38=>k_is)
      (case k38=>k_is)
      (case b_NOUGHT=>k_is)
      (case bt_NOUGHT=>kernel_rfl)
      (case b_WHOLE=>k_is)
      (case bt_WHOLE=>kernel_rfl)
      (case b_TWICE=>k_is)
      (case bt_TWICE=>kernel_rfl)
      (case ca_Node=>k_is)
      (case pa_Node=>(first | k_is | kernel_rfl))
      (case pb_Node=>(first | k_is | kernel_rfl))
      (case pc_Node=>(first | k_is | kernel_rfl))
      (case pd_Node=>(first | k_is | kernel_rfl))
      (case pe_Node=>(first | k_is | kernel_rfl))
      (case pf_Node=>(first | k_is | kernel_rfl))
      (case pg_Node=>(first | k_is | kernel_rfl))
      (case ph_Node=>(first | k_is | kernel_rfl))
      (case ca_Told=>k_is)
      (case pa_Told=>(first | k_is | kernel_rfl))
      (case pb_Told=>(first | k_is | kernel_rfl))
      (case pc_Told=>(first | k_is | kernel_rfl))
      (case pd_Told=>(first | k_is | kernel_rfl))
      (case pe_Told=>(first | k_is | kernel_rfl))
      (case pf_Told=>(first | k_is | kernel_rfl))
      (case pg_Told=>(first | k_is | kernel_rfl))
      (case ph_Told=>(first | k_is | kernel_rfl))
      (case qa_Told=>(first | k_is | kernel_rfl))
      (case qb_Told=>(first | k_is | kernel_rfl))
      (case qc_Told=>(first | k_is | kernel_rfl))
      (case qd_Told=>(first | k_is | kernel_rfl))
      (case qn_Told_rising=>(first | k_is | kernel_rfl))
      (case cl_Told=>k_is)
      (case co_Told=>k_is)
      (case ck_Told=>k_is)
      (case ca_Die=>k_is)
      (case pa_Die=>(first | k_is | kernel_rfl))
      (case pb_Die=>(first | k_is | kernel_rfl))
      (case pc_Die=>(first | k_is | kernel_rfl))
      (case pd_Die=>(first | k_is | kernel_rfl))
      (case pe_Die=>(first | k_is | kernel_rfl))
      (case pf_Die=>(first | k_is | kernel_rfl))
      (case pg_Die=>(first | k_is | kernel_rfl))
      (case ph_Die=>(first | k_is | kernel_rfl))
      (case qa_Die=>(first | k_is | kernel_rfl))
      (case qb_Die=>(first | k_is | kernel_rfl))
      (case qc_Die=>(first | k_is | kernel_rfl))
      (case qd_Die=>(first | k_is | kernel_rfl))
      (case qn_Die_makes=>(first | k_is | kernel_rfl))
      (case cl_Die=>k_is)
      (case co_Die=>k_is)
      (case ck_Die=>k_is)
      (case mf_6=>(first | k_is | kernel_rfl))
      (case ml_6=>k_is)
      (case mo_6=>k_is)
      (case mk_6=>k_is)
      (case mi_6=>(first | k_is | kernel_rfl))
      (case mf_1=>(first | k_is | kernel_rfl))
      (case ml_1=>k_is)
      (case mo_1=>k_is)
      (case mk_1=>k_is)
      (case mi_1=>(first | k_is | kernel_rfl))
      (case mf_7=>(first | k_is | kernel_rfl))
      (case ml_7=>k_is)
      (case mo_7=>k_is)
      (case mk_7=>k_is)
      (case mi_7=>(first | k_is | kernel_rfl))
      (case mf_2=>(first | k_is | kernel_rfl))
      (case ml_2=>k_is)
      (case mo_2=>k_is)
      (case mk_2=>k_is)
      (case mi_2=>(first | k_is | kernel_rfl))
      (case mf_9=>(first | k_is | kernel_rfl))
      (case ml_9=>k_is)
      (case mo_9=>k_is)
      (case mk_9=>k_is)
      (case mi_9=>(first | k_is | kernel_rfl))
      (case mf_4=>(first | k_is | kernel_rfl))
      (case ml_4=>k_is)
      (case mo_4=>k_is)
      (case mk_4=>k_is)
      (case mi_4=>(first | k_is | kernel_rfl))
      (case mf_8=>(first | k_is | kernel_rfl))
      (case ml_8=>k_is)
      (case mo_8=>k_is)
      (case mk_8=>k_is)
      (case mi_8=>(first | k_is | kernel_rfl))
      (case mf_3=>(first | k_is | kernel_rfl))
      (case ml_3=>k_is)
      (case mo_3=>k_is)
      (case mk_3=>k_is)
      (case mi_3=>(first | k_is | kernel_rfl))
      (case lca_a=>exact rfl)
      (case lct_a=>k_is)
      (case lcq_a=>exact rfl)
      (case lch_duel_matrix=>kernel_rfl)
      (case lca_b=>exact rfl)
      (case lct_b=>k_is)
      (case lcq_b=>exact rfl)
      (case lch_last_die=>kernel_rfl)
      (case lca_c=>exact rfl)
      (case lct_c=>k_is)
      (case lcq_c=>exact rfl)
      (case lch_settled_make=>kernel_rfl)
      (case ltnd=>decide)
      (case z0=>k_is)
      (case z1=>k_is)
      (case z2=>k_is)
      (case z3=>k_is)
      (case z4=>k_is)
      (case z5=>k_is)
      (case z6=>k_is)
      (case z7=>k_is)
      (case z8=>k_is)
      (case z9=>k_is)
      (case z10=>k_is)
      (case z11=>k_is)
      (case z12=>k_is)
    obtain ⟨a,T,e1⟩:=T
    have e1:=e1.trans hts
    have e0:=hmg.symm.trans T.m_law
    cases e0
    refine' ⟨a.d_law,?b,?t,?u,fun base kb nb hB=>My.ok_law T hB ?v⟩
    case b=>exact T.bl
    case t =>
      intro P hP
      have hP:=e1.symm ▸ hP
      simp only [My.tabs,List.map_cons,List.map_nil,List.mem_cons,List.not_mem_nil,or_false] at hP
      rcases hP with rfl | rfl | rfl
      · exact ⟨_,T.lch_duel_matrix⟩
      · exact ⟨_,T.lch_last_die⟩
      · exact ⟨_,T.lch_settled_make⟩
    case u =>
      intro P hP
      simp only [List.mem_cons,List.not_mem_nil,or_false] at hP
      rcases hP with rfl | rfl | rfl <;> kernel_rfl
    case v =>
      intro q hq
      rw [← e1]
      exact List.mem_map_of_mem hq
  case S=>exact fun K H a ns hl hO hS=>My.law_start hl hO hS
  case C=>exact fun H s e s' z=>z
