import PyProof.Rows.All
import Wide.All
import OpenK.AllK
import Wide.FinOn
import Lean
import PyProof.EqAt
import PyProof.EqKinds
import PyProof.TupleCall
import PySem.Challenge.RW_fewspeak_k34_duel_plans
open PySem.W(CodeHd FnAt Frag InstAt Looks any_some callWith_K cellsFrom_some clsIn codeHdIn codeHd_of_K codeIn codeRec_of emptyDict findIn fnOf handedIn hasDictIn instObj isFn keepIn kitAny kitOne kitx_dict kitx_list kitx_tuple kla_fn kla_obj lookIn looks_clsIn looks_findIn looks_mroIn looks_typeIn makesIn methodCall_KW methodObj mg_none_of mg_of mroIn nsIn nsOkIn osa_eq plainGet plainGet_of plainOver specialIn tabObj tailIn takerIn takesIn typeIn)
open List(all_cons all_eq_true any_cons append_nil drop_length ext_getElem filter_append filter_cons filter_cons_of_neg filter_cons_of_pos filter_map forIn_cons forIn_nil getElem_map getElem_mem getElem_range length_append length_cons length_filter_le length_map length_nil length_range length_set length_take lookup_cons map_append map_congr_left map_cons map_map map_nil map_take mem_append mem_append_left mem_append_right mem_cons mem_cons_of_mem mem_cons_self mem_filter mem_map mem_of_mem_take mem_range mem_singleton nodup_append nodup_cons nodup_nil not_mem_nil of_mem_zip range_succ size_toArray sum_cons sum_nil take_add_one take_length take_nil take_of_length_le take_zero)
noncomputable section
set_option Elab.async false
set_option linter.all false
set_option maxRecDepth 100000
namespace L2
open PySem PySem.Spec PyProof.Rows
abbrev Key:=Sum Int Str
def jH:Key→Value→Bool
 | .inl k,v=>Value.isInt k v
 | .inr x,v=>Value.isStrOf x v
def zc(w:World):Key→Int
 | .inl k=>hashInt k
 | .inr x=>hashStr w x
theorem ce:∀{k:Key}{v:Value},jH k v=true→(∃ i t,k=Sum.inl i∧v=Value.int i t)∨(∃ x t,k=Sum.inr x∧v=Value.str x t)
 | .inl i,v,h=>by
  obtain ⟨t,e⟩:=Value.isInt_shape (k:=i) (v:=v) h
  exact .inl ⟨i,t,rfl,e⟩
 | .inr x,v,h=>by
  obtain ⟨t,e⟩:=Value.isStrOf_shape (x:=x) (v:=v) h
  exact .inr ⟨x,t,rfl,e⟩
theorem pv(i:Int)(t:Tok):jH (.inl i) (.int i t)=true:=by simp[jH,Value.isInt]
theorem oX(x:Str)(t:Tok):jH (.inr x) (.str x t)=true:=by simp[jH,Value.isStrOf]
theorem xq(a b:Int):decide ((Sum.inl a:Key)=Sum.inl b)=(a == b):=by
 by_cases e:a=b
 ·subst e; simp
 ·have h:¬(Sum.inl a:Key)=Sum.inl b:=fun q=>e (Sum.inl.inj q)
  rw[decide_eq_false h]
  exact (beq_eq_false_iff_ne.mpr e).symm
theorem xb(a b:Str):decide ((Sum.inr a:Key)=Sum.inr b)=decide (a=b):=by
 by_cases e:a=b
 ·subst e; simp
 ·have h:¬(Sum.inr a:Key)=Sum.inr b:=fun q=>e (Sum.inr.inj q)
  rw[decide_eq_false h,decide_eq_false e]
theorem v5(a:Int)(b:Str):decide ((Sum.inl a:Key)=Sum.inr b)=false:=decide_eq_false (fun q=>nomatch q)
theorem wj(a:Str)(b:Int):decide ((Sum.inr a:Key)=Sum.inl b)=false:=decide_eq_false (fun q=>nomatch q)
def cq(prog:Program)(w:World):PySem.KeyKind prog w Key where
 is:=jH
 hash:=zc w
 inj:=fun v a b ha hb=>by
  rcases ce ha with ⟨i,t,rfl,rfl⟩ | ⟨x,t,rfl,rfl⟩
  ·rcases ce hb with ⟨j,u,rfl,e⟩ | ⟨y,u,rfl,e⟩
   ·injection e with e1 _; rw[e1]
   ·exact nomatch e
  ·rcases ce hb with ⟨j,u,rfl,e⟩ | ⟨y,u,rfl,e⟩
   ·exact nomatch e
   ·injection e with e1 _; rw[e1]
 byValue:=fun k v h=>by
  rcases ce h with ⟨i,t,rfl,rfl⟩ | ⟨x,t,rfl,rfl⟩ <;> rfl
 pyHash:=fun hv h=>by
  rcases ce hv with ⟨i,t,rfl,rfl⟩ | ⟨x,t,rfl,rfl⟩
  ·exact wpAny_pyHash_int h
  ·exact wpAny_pyHash_str h
 eqBool:=fun hu hv h=>by
  rcases ce hu with ⟨i,t,rfl,rfl⟩ | ⟨x,t,rfl,rfl⟩
  ·rcases ce hv with ⟨j,u,rfl,rfl⟩ | ⟨y,u,rfl,rfl⟩
   ·rw[xq]at h; exact wpAny_eqBool_int h
   ·rw[v5]at h; exact SeqAt.EqAt.int_str i t y u _ _ _ _ h
  ·rcases ce hv with ⟨j,u,rfl,rfl⟩ | ⟨y,u,rfl,rfl⟩
   ·rw[wj]at h; exact SeqAt.EqAt.str_int x t j u _ _ _ _ h
   ·rw[xb]at h; exact wpAny_eqBool_str h
 «strs»:=fun k x t v h=>by
  rcases ce h with ⟨i,u,rfl,e⟩ | ⟨y,u,rfl,e⟩
  ·exact nomatch e
  ·injection e with e1 _
   subst e1
   cases v <;> rfl
theorem lK(prog:Program)(w:World)(i:Int)(t:Tok):(cq prog w).is (.inl i) (.int i t)=true:=pv i t
theorem lS(prog:Program)(w:World)(x:Str)(t:Tok):(cq prog w).is (.inr x) (.str x t)=true:=oX x t
inductive V where
 | non | bl (b:Bool) | int (i:Int) | str (x:Str) | byt (b:Array UInt8) | flt (b:UInt64) | ref (a:Addr) | ty (n:String)
 deriving DecidableEq
def RelV:V→Value→Prop
 | .non,u=>u=Value.none
 | .bl b,u=>u=Value.bool b
 | .int i,u=>∃ t,u=Value.int i t
 | .str x,u=>∃ t,u=Value.str x t
 | .byt b,u=>∃ t,u=Value.bytes b t
 | .flt b,u=>∃ t,u=Value.float b t
 | .ref a,u=>u=Value.ref a
 | .ty n,u=>u=Value.type n
abbrev Vals:List V→List Value→Prop:=Paired RelV
theorem Vals.length{xs:List V}{us:List Value}(r:Vals xs us):xs.length=us.length:=Paired.length r
theorem Vals.get:∀{xs:List V}{us:List Value}{i:Nat}{x:V},Vals xs us→xs[i]? = some x→∃ u,us[i]? = some u∧RelV x u
 | _,_,_,_,.nil,e=>by simp at e
 | _,_,0,_,.cons r _,e=>by simp at e; subst e; exact ⟨_,rfl,r⟩
 | _,_,i+1,x,.cons _ t,e=>by
  obtain ⟨u,h1,h2⟩:=Vals.get (i:=i) (x:=x) t (by simpa using e)
  exact ⟨u,by simpa using h1,h2⟩
theorem Vals.set{x:V}{u:Value}(r:RelV x u):∀{xs:List V}{us:List Value}(i:Nat),Vals xs us→Vals (xs.set i x) (us.set i u)
 | _,_,_,.nil=>.nil
 | _,_,0,.cons _ t=>.cons r t
 | _,_,i+1,.cons q t=>.cons q (Vals.set r i t)
theorem Vals.append:∀{xs ys:List V}{us ws:List Value},Vals xs us→Vals ys ws→Vals (xs++ys) (us++ws)
 | _,_,_,_,.nil,s=>s
 | _,_,_,_,.cons r t,s=>.cons r (Vals.append t s)
theorem Vals.take:∀{xs:List V}{us:List Value}(n:Nat),Vals xs us→Vals (xs.take n) (us.take n)
 | _,_,0,_=>.nil
 | _,_,_+1,.nil=>.nil
 | _,_,n+1,.cons r t=>.cons r (Vals.take n t)
theorem Vals.drop:∀{xs:List V}{us:List Value}(n:Nat),Vals xs us→Vals (xs.drop n) (us.drop n)
 | _,_,0,r=>r
 | _,_,_+1,.nil=>.nil
 | _,_,n+1,.cons _ t=>Vals.drop n t
def RelO:Option V→Option Value→Prop
 | some v,some u=>RelV v u
 | none,none=>True
 | _,_=>False
def KV{κ:Type}:List (κ×V)→List (κ×Value)→Prop:=Paired fun (p:κ×V) (q:κ×Value)=>p.1=q.1∧RelV p.2 q.2
def kV:Key→V
 | .inl i=>.int i
 | .inr x=>.str x
inductive HO where
 | lst (xs:List V)
 | tup (xs:List V)
 | dK (kvs:List (Key×V)) | dT (kvs:List (List Key×V))
 | set (S:Int→Bool) (n:Nat)
 | ins (C dx:Addr) (fs:List (Str×V))
 | own (x:Addr)
 | xd (fs:List (Str×V))
 | met (f x:Addr)
 | rng (lo hi:Int)
 | frz (o:Obj) (u:HO)
 | tbl (ps:Array Value)
 | ext (φ:Heap→Prop)
abbrev Hp:=Addr→Option HO
def upd(H:Hp)(a:Addr)(o:HO):Hp:=fun b=>if b=a then some o else H b
theorem ac{H:Hp}{a:Addr}{o:HO}:upd H a o a=some o:=by unfold upd; rw[if_pos rfl]
theorem ag{H:Hp}{a b:Addr}{o:HO}(h:b≠a):upd H a o b=H b:=by unfold upd; rw[if_neg h]
theorem cv{H:Hp}{a:Addr}{o u:HO}:upd (upd H a o) a u=upd H a u:=by
 funext b; unfold upd; split <;> rfl
theorem vH{H:Hp}{a b:Addr}{o u:HO}(h:H a=some o)(h':H b=some u)(d:o≠u):a≠b:=by
 intro e; subst e; rw[h]at h'; exact d (Option.some.inj h')
theorem am{H:Hp}{a b:Addr}{o:HO}(h:H a=some o)(h':H b=none):a≠b:=by
 intro e; subst e; rw[h]at h'; cases h'
section
variable (P:Program) (w:World)
def ObjOk(H:Hp)(h:Heap)(a:Addr):HO→Prop
 | .lst xs=>xs.length≤sizeLine∧∃(its:List Value) (n:Nat),Vals xs its∧h.get? a=some { cls:=.type "list",data:=.seq its.toArray n }
 | .tup xs=>xs.length≤sizeLine∧∃ its:List Value,Vals xs its∧IsTup h a its.toArray
 | .dK kvs=>kvs.length≤sizeLine∧(a == sysModules)=false∧∃ vs,KV kvs vs∧h.DictOf (cq P w) a vs
 | .dT kvs=>kvs.length≤sizeLine∧(a == sysModules)=false∧∃ xs:List (List Key×Addr×Value),
   Paired (fun (p:List Key×V) (q:List Key×Addr×Value)=>p.1=q.1∧H q.2.1=some (.tup (p.1.map kV))∧RelV p.2 q.2.2) kvs xs ∧
   ∃ o es ep,h.get? a=some o∧o.ExactDict∧o.data=.dict es ep∧es.toList=xs.map (entryOfKey (tupleKind (cq P w)))∧(xs.map (·.1)).Nodup
 | .set S n=>h.SetOf (intKind P w) a S n
 | .ins C dx fs=>H dx=some (.own a)∧fs.length≤1000∧dx≠a∧h.get? a=some (instObj C dx) ∧
   ∃ mA,h.Ns1 dx mA∧(∀ f,RelO (fs.lookup f) (mA f))∧PySem.Within mA (fs.map (·.1))
 | .own _=>∃ o,h.get? a=some o
 | .xd fs=>∃ mA,h.Ns1 a mA∧∀ f,RelO (fs.lookup f) (mA f)
 | .rng lo hi=>∃ t u v,h.get? a=some { cls:=.type "range",data:=.fields #[.int lo t,.int hi u,.int 1 v] }
 | .frz o u=>h.get? a=some o∧ObjOk H h a u
 | .tbl ps=>h.get? a=some { cls:=.none,data:=.fields ps }
 | .met f x=>h.get? a=some (methodObj (.ref f) (.ref x))
 | .ext φ=>φ h∧(∃ o,h.get? a=some o)∧∀ h1 h2:Heap,φ h1→(∀ o,h1.get? a=some o→h2.get? a=some o)→φ h2
def HOk(H:Hp)(h:Heap):Prop:=∀ a o,H a=some o→ObjOk P w H h a o
end
section
variable {P:Program}{w:World}{H H':Hp}{h h':Heap}{a:Addr}{o:HO}
theorem ObjOk.lt(x:ObjOk P w H h a o):a<h.objs.size:=by
 cases o with
 | lst xs=>obtain ⟨_,_,_,_,e⟩:=x; exact Heap.lt_size e
 | tup xs=>obtain ⟨_,_,_,p⟩:=x; exact p.lt
 | dK kvs=>obtain ⟨_,_,_,_,o,_,_,e,_⟩:=x; exact Heap.lt_size e
 | dT kvs=>obtain ⟨_,_,_,_,o,_,_,e,_⟩:=x; exact Heap.lt_size e
 | set S n=>obtain ⟨o,_,_,_,e,_⟩:=x; exact Heap.lt_size e
 | ins C dx fs=>obtain ⟨_,_,_,e,_⟩:=x; exact Heap.lt_size e
 | own y=>obtain ⟨_,e⟩:=x; exact Heap.lt_size e
 | xd fs=>obtain ⟨_,⟨_,_,_,e,_⟩,_⟩:=x; exact Heap.lt_size e
 | rng lo hi=>obtain ⟨_,_,_,e⟩:=x; exact Heap.lt_size e
 | frz ob u=>obtain ⟨e,_⟩:=x; exact Heap.lt_size e
 | tbl ps=>exact Heap.lt_size (show h.get? a=some _ from x)
 | met f y=>exact Heap.lt_size (show h.get? a=some _ from x)
 | ext φ=>obtain ⟨_,⟨_,e⟩,_⟩:=x; exact Heap.lt_size e
theorem Paired.mapP{α β:Type}{F G:α→β→Prop}:∀{l₁:List α}{l₂:List β},Paired F l₁ l₂→(∀ a b,F a b→G a b)→Paired G l₁ l₂
 | _,_,.nil,_=>.nil
 | _,_,.cons r t,f=>.cons (f _ _ r) (Paired.mapP t f)
theorem ObjOk.stay(x:ObjOk P w H h a o)(k:∀ b u,(b=a∨H b=some (.own a))→h.get? b=some u→h'.get? b=some u)
  (ho:∀ b,H b=some (.own a)→H' b=some (.own a)) (ht:∀ b xs,H b=some (.tup xs)→H' b=some (.tup xs)):ObjOk P w H' h' a o:=by
 induction o with
 | lst xs=>obtain ⟨z,its,n,r,e⟩:=x; exact ⟨z,its,n,r,k _ _ (.inl rfl) e⟩
 | tup xs=>obtain ⟨z,its,r,ob,e,c⟩:=x; exact ⟨z,its,r,ob,k _ _ (.inl rfl) e,c⟩
 | dK kvs=>obtain ⟨z,y,vs,r,ob,es,ep,e,c⟩:=x; exact ⟨z,y,vs,r,ob,es,ep,k _ _ (.inl rfl) e,c⟩
 | dT kvs =>
  obtain ⟨z,y,xs,r,ob,es,ep,e,c⟩:=x
  exact ⟨z,y,xs,Paired.mapP r fun p q z=>⟨z.1,ht _ _ z.2.1,z.2.2⟩,ob,es,ep,k _ _ (.inl rfl) e,c⟩
 | set S n=>obtain ⟨ob,es,ep,t,e,c⟩:=x; exact ⟨ob,es,ep,t,k _ _ (.inl rfl) e,c⟩
 | ins C dx fs =>
  obtain ⟨d,z,ne,e,mA,⟨od,es,ep,e2,c⟩,r⟩:=x
  exact ⟨ho _ d,z,ne,k _ _ (.inl rfl) e,mA,⟨od,es,ep,k _ _ (.inr d) e2,c⟩,r⟩
 | own y=>obtain ⟨ob,e⟩:=x; exact ⟨ob,k _ _ (.inl rfl) e⟩
 | xd fs=>obtain ⟨mA,⟨od,es,ep,e,c⟩,r⟩:=x; exact ⟨mA,⟨od,es,ep,k _ _ (.inl rfl) e,c⟩,r⟩
 | rng lo hi=>obtain ⟨t,u,v,e⟩:=x; exact ⟨t,u,v,k _ _ (.inl rfl) e⟩
 | frz ob u ih=>obtain ⟨e,q⟩:=x; exact ⟨k _ _ (.inl rfl) e,ih q⟩
 | tbl ps =>
  have e:h.get? a=some { cls:=.none,data:=.fields ps }:=x
  show h'.get? a=some { cls:=.none,data:=.fields ps }
  exact k a _ (.inl rfl) e
 | met f y =>
  have e:h.get? a=some (methodObj (.ref f) (.ref y)):=x
  show h'.get? a=some (methodObj (.ref f) (.ref y))
  exact k a _ (.inl rfl) e
 | ext φ=>obtain ⟨p,⟨o,e⟩,st⟩:=x; exact ⟨st _ _ p fun o q=>k _ _ (.inl rfl) q,⟨o,k _ _ (.inl rfl) e⟩,st⟩
theorem HOk.lt(x:HOk P w H h)(e:H a=some o):a<h.objs.size:=(x a o e).lt
theorem HOk.fresh(x:HOk P w H h)(e:h.objs.size≤a):H a=none:=by
 cases q:H a with
 | none=>rfl
 | some u=>exact absurd (Nat.lt_of_lt_of_le (x.lt q) e) (Nat.lt_irrefl _)
theorem HOk.kept(x:HOk P w H h)(k:∀ b u,h.get? b=some u→h'.get? b=some u):HOk P w H h':=fun a o e =>
 (x a o e).stay (fun b u _ q=>k b u q) (fun _ q=>q) fun _ _ q=>q
theorem HOk.laid(x:HOk P w H h)(k:∀ b u,h.get? b=some u→h'.get? b=some u)(hp:h.objs.size≤a)(new:ObjOk P w (upd H a o) h' a o):HOk P w (upd H a o) h':=fun b u e=>by
 have hn:=x.fresh hp
 by_cases hb:b=a
 ·subst hb; rw[ac]at e; cases e; exact new
 ·rw[ag hb]at e
  exact (x b u e).stay (fun c v _ q=>k c v q) (fun c q=>by rw[ag (am q hn)]; exact q) fun c xs q=>by rw[ag (am q hn)]; exact q
end
def Rd(H:Hp)(a:Addr)(u:HO):Prop:=H a=some u∨∃ o,H a=some (.frz o u)
theorem Rd.ok{P:Program}{w:World}{H:Hp}{h:Heap}{a:Addr}{u:HO}(r:Rd H a u)(x:HOk P w H h):ObjOk P w H h a u:=by
 rcases r with r | ⟨o,r⟩
 ·exact x a u r
 ·obtain ⟨_,q⟩:=x a _ r
  exact q
def Mut:Option HO→Prop
 | some (.lst _)=>True
 | some (.dK _)=>True
 | some (.dT _)=>True
 | some (.set _ _)=>True
 | some (.ins _ _ _)=>True
 | some (.ext _)=>True
 | _=>False
section
variable {P:Program}{w:World}{H:Hp}{h h':Heap}{x e:Addr}{o':HO}
theorem HOk.write(ok:HOk P w H h)(mu:Mut (H x))(he:e=x∨H e=some (.own x))(k:∀ b u,b≠e→h.get? b=some u→h'.get? b=some u)(heo:∃ u,h'.get? e=some u)
  (new:ObjOk P w (upd H x o') h' x o'):HOk P w (upd H x o') h':=fun b u q=>by
 have nown:∀ c y,H c=some (.own y)→c≠x:=fun c y r z=>by subst z; rw[r]at mu; exact mu
 have ntup:∀ c xs,H c=some (.tup xs)→c≠x:=fun c xs r z=>by subst z; rw[r]at mu; exact mu
 by_cases hb:b=x
 ·subst hb; rw[ac]at q; cases q; exact new
 ·rw[ag hb]at q
  by_cases hbe:b=e
  ·have q':H b=some (.own x):=by
    rcases he with z | z
    ·exact absurd (hbe.trans z) hb
    ·rw[hbe]; exact z
   rw[q]at q'; cases q'
   obtain ⟨v,hv⟩:=heo
   exact ⟨v,by rw[hbe]; exact hv⟩
  ·refine (ok b u q).stay (fun c v hc r=>k c v ?_ r) (fun c r=>by rw[ag (nown c b r)]; exact r) fun c xs r=>by rw[ag (ntup c xs r)]; exact r
   rcases hc with rfl | hc
   ·exact hbe
   ·rintro rfl
    rcases he with z | z
    ·exact nown c b hc z
    ·rw[hc]at z; cases z; exact hb rfl
end
structure Un(fs ex:List Addr)(H H':Hp)(h h':Heap):Prop where
 keep:∀ b o,h.get? b=some o→H b=none→b ∉ fs→b ∉ ex→h'.get? b=some o
 slot:∀ b o,h.get? b=some o→H b=none→b∈fs→b ∉ ex→∃ sl,h'.get? b=some { o with slots:=sl }
 free:∀ b o,h.get? b=some o→H b=none→b ∉ ex→H' b=none
 there:∀ b o,h.get? b=some o→b ∉ ex→∃ o',h'.get? b=some o'
 tups:∀ b xs,H b=some (.tup xs)→H' b=some (.tup xs)
 frzs:∀ b o u,H b=some (.frz o u)→H' b=some (.frz o u)
 tbls:∀ b ps,H b=some (.tbl ps)→∃ more,H' b=some (.tbl (ps++more))
section
variable {fs fs' ex ex':List Addr}{H H1 H2:Hp}{h h1 h2 h':Heap}{a x e:Addr}{o:HO}
theorem Un.any(u:Un fs ex H H1 h h1){b:Addr}{ob:Obj}(q:h.get? b=some ob)(n:H b=none)(hx:b ∉ ex):∃ sl,h1.get? b=some { ob with slots:=sl }:=by
 by_cases hb:b∈fs
 ·exact u.slot b ob q n hb hx
 ·exact ⟨ob.slots,u.keep b ob q n hb hx⟩
theorem Un.kept(k:∀ b u,h.get? b=some u→h'.get? b=some u):Un fs ex H H h h' :=
 ⟨fun b ob q _ _ _=>k b ob q,fun b ob q _ _ _=>⟨ob.slots,k b ob q⟩,fun _ _ _ n _=>n,fun b ob q _=>⟨ob,k b ob q⟩,fun _ _ q=>q,fun _ _ _ q=>q,fun _ ps q=>⟨#[],by rw[q]; simp⟩⟩
theorem Un.refl:Un fs ex H H h h:=Un.kept fun _ _ q=>q
theorem Un.laid(k:∀ b u,h.get? b=some u→h'.get? b=some u)(hp:h.objs.size≤a)(hn:H a=none):Un fs ex H (upd H a o) h h' where
 keep:=fun b u q _ _ _=>k b u q
 slot:=fun b u q _ _ _=>⟨u.slots,k b u q⟩
 free:=fun b u q n _=>by rw[ag (Nat.ne_of_lt (Nat.lt_of_lt_of_le (Heap.lt_size q) hp))]; exact n
 there:=fun b u q _=>⟨u,k b u q⟩
 tups:=fun b xs q=>by rw[ag (am q hn)]; exact q
 frzs:=fun b u xs q=>by rw[ag (am q hn)]; exact q
 tbls:=fun b ps q=>⟨#[],by rw[ag (am q hn),q]; simp⟩
theorem Un.write(mu:Mut (H x))(he:e=x∨H e=some (.own x))(k:∀ b u,b≠e→h.get? b=some u→h'.get? b=some u)(heo:∃ u,h'.get? e=some u):Un fs ex H (upd H x o) h h':=by
 have hx:∀ b,H b=none→b≠x:=fun b n z=>by subst z; rw[n]at mu; exact mu
 have hb:∀ b,H b=none→b≠e:=fun b n z=>by
  subst z
  rcases he with r | r
  ·exact hx b n r
  ·rw[n]at r; cases r
 have hm:∀ b u,H b=some u→¬Mut (some u)→b≠x:=fun b u q nm z=>by subst z; rw[q]at mu; exact nm mu
 refine ⟨fun b u q n _ _=>k b u (hb b n) q,fun b u q n _ _=>⟨u.slots,k b u (hb b n) q⟩,fun b u q n _=>by rw[ag (hx b n)]; exact n,fun b u q _=>?_,
  fun b xs q=>by rw[ag (hm b _ q fun z=>z)]; exact q,fun b u xs q=>by rw[ag (hm b _ q fun z=>z)]; exact q,fun b ps q=>⟨#[],by rw[ag (hm b _ q fun z=>z),q]; simp⟩⟩
 by_cases hbe:b=e
 ·subst hbe; exact heo
 ·exact ⟨u,k b u hbe q⟩
end
def trk(h:Heap)(H:Hp):List Addr:=(List.range h.objs.size).filter fun a=>(H a).isSome
def jr(h:Heap)(H:Hp):Heap:=PySem.W.hideAll h (trk h H)
theorem pM(h:Heap)(H:Hp):(jr h H).objs.size=h.objs.size:=PySem.W.hideAll_size _ _
theorem qF{h:Heap}{H:Hp}{b:Addr}{o:Obj}(e:h.get? b=some o)(n:H b=none):(jr h H).get? b=some o :=
 PySem.W.hideAll_get _ e fun hm=>by
  have q:(H b).isSome=true:=(mem_filter.mp hm).2
  rw[n]at q; simp at q
theorem u8{h:Heap}{H:Hp}{b:Addr}{o:Obj}(e:(jr h H).get? b=some o):h.get? b=some o∧H b=none:=by
 have e':h.get? b=some o:=PySem.W.of_hideAll (trk h H) e
 refine ⟨e',?_⟩
 cases q:H b with
 | none=>rfl
 | some x =>
  have hm:b∈trk h H:=mem_filter.mpr ⟨mem_range.mpr (Heap.lt_size e'),by simp[q]⟩
  have z:(jr h H).get? b=none:=PySem.W.hideAll_none (trk h H) hm
  rw[z]at e; cases e
def vj(g h:Heap)(L:Addr):List (Addr×Obj):=(List.range h.objs.size).filterMap fun a=>if a=L∨(g.get? a).isSome=true then none else (h.get? a).map fun o=>(a,o)
def rest(g h:Heap)(L d:Addr):List (Addr×Obj):=(vj g h L).filter fun p=>decide (p.1≠d)
structure Mod(K:Frag)(mg:Str→Option Value)(base:Heap):Prop where
 kin:K.In base
 glob:base.Ns mainGlobals mg
 blt:∃ mb,base.Ns builtinsNs mb∧∀ x:Str,x ≠ "__name__" → mb x=bootBuiltins x
 nolimit:base.NoLimit
/-- the context: a def's body (or a comprehension's block) running. base: fixed through the whole law; s₀, H₀: the entry; outer: the frames whose slots others may change (a def's callers); stack: all frames that run;
   ex: iterators that were made ahead of the entry and are walked here (a comprehension's); fn: the names whose cells were made at the entry (a def: all; a comprehension's block: its own); calm: not wW an except suite; pn: pins that every state bears; xe: what is wanted of an exception that leaves the code -/
structure Cx where
 prog:Program
 w:World
 K:Frag
 mg:Str→Option Value
 base:Heap
 A:Around
 N:List Str
 s₀:Shared
 H₀:Hp
 env:Env
 outer:List Env
 stack:List Env
 ex:List Addr
 fn:Str→Bool
 calm:Bool
 pn:List (Addr×Obj)
 xe:Value→Shared→Prop
def frs(l:List Env):List Addr:=l.filterMap (·.frame)
abbrev Cx.fs(X:Cx):List Addr:=frs X.outer
def Vis(sc:Scope)(x:Str):Prop:=sc.names.lookup x = some .local∨sc.names.lookup x = some .cell∨sc.names.lookup x = some .free
def Loc(sc:Scope)(x:Str):Prop:=sc.names.lookup x = some .local∨sc.names.lookup x = some .cell
def yw(env:Env)(h:Heap)(m:Str→Option Value)(x:Str)(u:Value):Prop :=
 (env.kindOf x = some .local∧m x = some u)∨((env.kindOf x = some .cell∨env.kindOf x = some .free)∧∃ c,env.cells.lookup x = some c∧h.IsCell c (some u))
structure Cx.Ok(X:Cx):Prop where
 mod:Mod X.K X.mg X.base
 kind:X.env.scope.kind=.function
 glob:X.env.globals=mainGlobals
 blt:X.env.builtins=builtinsNs
 above:X.s₀.heap.objs.size≤X.env.locals
 inj:∀ x y c,X.env.cells.lookup x=some c→X.env.cells.lookup y=some c→x=y
 has:∀ x,(X.env.kindOf x=some .cell∨X.env.kindOf x=some .free)→∃ c,X.env.cells.lookup x=some c
 cab:∀ x c,X.fn x=true→X.env.cells.lookup x=some c→X.s₀.heap.objs.size≤c
 hd:X.calm=true→X.A.handled=none
 frames:X.A.frames=some X.stack
 stk:X.stack = X.outer∨(X.stack = X.env :: X.outer∧X.env.frame = some X.env.locals)
 exf:∀ b ∈ X.ex,b≠X.env.locals∧∀ x c,X.env.cells.lookup x = some c→c≠b
 bs:∀ b o,X.base.get? b=some o→X.s₀.heap.get? b=some o∧X.H₀ b=none
 bsz:X.base.objs.size≤X.s₀.heap.objs.size
 noex:∀ b o,X.base.get? b=some o→b ∉ X.ex
 exfs:∀ b∈X.ex,b ∉ X.fs
 funs:X.s₀.heap.FunFrames X.base X.outer
 frf:∀ b∈X.fs,X.H₀ b=none
structure Inv(X:Cx)(pins:List (Addr×Obj))(σ:List (Option V))(H:Hp)(s:Shared):Prop where
 ok:X.Ok
 os:s.os=X.s₀.os
 bare:AllBare s.gens
 base:Un X.fs X.ex X.H₀ H X.s₀.heap s.heap
 loc:∃ m,s.heap.Ns X.env.locals m∧∀(i:Nat) (x:Str) (v:V),X.N[i]? = some x→σ[i]? = some (some v)→Vis X.env.scope x→∃ u,RelV v u∧yw X.env s.heap m x u
 cell:∀ x c,X.env.cells.lookup x=some c→∃ v,s.heap.IsCell c v
 free:H X.env.locals = none
 freeC:∀ x c,X.env.cells.lookup x=some c→H c=none
 pin:∀ p ∈ X.pn ++ pins,s.heap.get? p.1 = some p.2∧H p.1 = none∧p.1≠X.env.locals∧p.1 ∉ X.fs∧∀ v,p.2.data≠.cell v
 hok:HOk X.prog X.w H s.heap
 len:σ.length=X.N.length
section
variable {X:Cx}{pins:List (Addr×Obj)}{σ:List (Option V)}{H H':Hp}{s:Shared}{h':Heap}
theorem Cx.Ok.nofr(ok:X.Ok){b:Addr}{o:Obj}(e:X.base.get? b=some o):b ∉ X.fs:=fun hb=>by
 have:=(ok.funs.mem hb).1
 rw[e]at this; cases this
theorem Inv.bs(I:Inv X pins σ H s):∀ b o,X.base.get? b=some o→s.heap.get? b=some o∧H b=none:=fun b o e =>
 ⟨I.base.keep b o (I.ok.bs b o e).1 (I.ok.bs b o e).2 (I.ok.nofr e) (I.ok.noex b o e),I.base.free b o (I.ok.bs b o e).1 (I.ok.bs b o e).2 (I.ok.noex b o e)⟩
theorem Inv.bk(I:Inv X pins σ H s):∀ b o,X.base.get? b=some o→s.heap.get? b=some o:=fun b o e=>(I.bs b o e).1
theorem Inv.mod(I:Inv X pins σ H s):Mod X.K X.mg X.base:=I.ok.mod
theorem Inv.kIn(I:Inv X pins σ H s):X.K.In s.heap:=I.ok.mod.kin.keeps I.bk
theorem Inv.lt(I:Inv X pins σ H s):X.env.locals < s.heap.objs.size:=let ⟨_,hn,_⟩:=I.loc; hn.lt
theorem Inv.sz(I:Inv X pins σ H s):X.s₀.heap.objs.size≤s.heap.objs.size:=Nat.le_trans I.ok.above (Nat.le_of_lt I.lt)
theorem Inv.nofs(I:Inv X pins σ H s){a:Addr}(h:s.heap.objs.size≤a):a ∉ X.fs:=fun hb=>by
 obtain ⟨_,o,ho,_⟩:=I.ok.funs.mem hb
 exact absurd (Nat.lt_of_lt_of_le (Heap.lt_size ho) (Nat.le_trans I.sz h)) (Nat.lt_irrefl _)
theorem Inv.cne(I:Inv X pins σ H s):∀ x c,X.env.cells.lookup x = some c→c≠X.env.locals:=fun x c e z=>by
 obtain ⟨v,o,ho,hd⟩:=I.cell x c e
 obtain ⟨m,⟨o',es,ep,ho',hd',_⟩,_⟩:=I.loc
 rw[z,ho']at ho; cases ho; rw[hd']at hd; cases hd
theorem Inv.funs(I:Inv X pins σ H s):s.heap.FunFrames X.base X.outer:=by
 have all:∀(l:List Env),(∀ b∈frs l,b∈X.fs)→X.s₀.heap.FunFrames X.base l→s.heap.FunFrames X.base l:=by
  intro l
  induction l with
  | nil=>intro _ _; trivial
  | cons env r ih =>
   intro hs hl
   obtain ⟨hk,⟨L,o,hf,hn,ho,hd⟩,hr⟩:=hl
   have hL:L∈X.fs:=hs L (by unfold frs; rw[List.filterMap_cons,hf]; exact mem_cons_self)
   obtain ⟨sl,e⟩:=I.base.slot L o ho (I.ok.frf L hL) hL fun z=>I.ok.exfs L z hL
   exact ⟨hk,⟨L,_,hf,hn,e,hd⟩,ih (fun b hb=>hs b (by unfold frs; rw[List.filterMap_cons,hf]; exact mem_cons_of_mem _ hb)) hr⟩
 exact all X.outer (fun _ hb=>hb) I.ok.funs
theorem Inv.stack(I:Inv X pins σ H s):s.heap.FunFrames X.base X.stack:=by
 rcases I.ok.stk with e | ⟨e,hf⟩
 ·rw[e]; exact I.funs
 ·rw[e]
  obtain ⟨m,hn,_⟩:=I.loc
  refine .cons (by rw[I.ok.kind]; decide) hf hn ?_ I.funs
  exact Heap.get?_none_of_le (Nat.le_trans I.ok.bsz I.ok.above)
theorem Inv.stkSub(I:Inv X pins σ H s):∀ b ∈ frs X.stack,b ∈ X.env.locals :: X.fs:=fun b hb=>by
 rcases I.ok.stk with e | ⟨e,hf⟩
 ·rw[e]at hb; exact mem_cons_of_mem _ hb
 ·rw[e]at hb
  unfold frs at hb
  rw[List.filterMap_cons,hf]at hb
  exact hb
theorem Inv.stkFree(I:Inv X pins σ H s):∀ b∈frs X.stack,H b=none:=fun b hb=>by
 rcases mem_cons.mp (I.stkSub b hb) with e | hb
 ·rw[e]; exact I.free
 ·obtain ⟨_,o,ho,_⟩:=I.ok.funs.mem hb
  exact I.base.free b o ho (I.ok.frf b hb) fun z=>I.ok.exfs b z hb
theorem Inv.step{g':Array GenState}{t':Nat}{d':Drawn}{ch:List Addr}(I:Inv X pins σ H s)
  (hch:∀ b ∈ ch,(b ∈ X.ex∨X.s₀.heap.objs.size≤b)∧b≠X.env.locals∧(∀ x c,X.env.cells.lookup x = some c→c≠b)∧∀ p ∈ X.pn ++ pins,p.1≠b)
  (keep:∀ b o,b≠X.env.locals→b ∉ X.fs→b ∉ ch→s.heap.get? b = some o→H b = none→h'.get? b = some o)
  (slot:∀ b o,b≠X.env.locals→b ∈ X.fs→b ∉ ch→s.heap.get? b = some o→H b = none→∃ sl,h'.get? b = some { o with slots:=sl }) (free:∀ b o,b ∉ ch→s.heap.get? b = some o→H b = none→H' b = none)
  (there:∀ b o,b ∉ ch→s.heap.get? b=some o→∃ o',h'.get? b=some o')
  (tups:∀ b xs,H b=some (.tup xs)→H' b=some (.tup xs)) (frzs:∀ b o u,H b=some (.frz o u)→H' b=some (.frz o u)) (tbls:∀ b ps,H b=some (.tbl ps)→∃ more,H' b=some (.tbl (ps++more)))
  (ns:∀ m,s.heap.Ns X.env.locals m→h'.Ns X.env.locals m) (hok:HOk X.prog X.w H' h') (hg:AllBare g') :
  Inv X pins σ H' { s with heap:=h',gens:=g',drawn:=d',toks:=t' }:=by
 have neL:∀ b o,X.s₀.heap.get? b = some o→b≠X.env.locals:=fun b o e=>Nat.ne_of_lt (Nat.lt_of_lt_of_le (Heap.lt_size e) I.ok.above)
 have neC:∀ b o,X.s₀.heap.get? b=some o→b ∉ X.ex→b ∉ ch:=fun b o e hx hb=>by
  rcases (hch b hb).1 with z | z
  ·exact hx z
  ·exact absurd (Nat.lt_of_lt_of_le (Heap.lt_size e) z) (Nat.lt_irrefl _)
 have cellK:∀ x c,X.env.cells.lookup x=some c→∀ v,s.heap.IsCell c v→h'.IsCell c v:=fun x c e v ⟨o,ho,hd⟩=>by
  have nch:c ∉ ch:=fun z=>(hch c z).2.2.1 x c e rfl
  by_cases hc:c∈X.fs
  ·obtain ⟨sl,q⟩:=slot c o (I.cne x c e) hc nch ho (I.freeC x c e)
   exact ⟨_,q,hd⟩
  ·exact ⟨o,keep c o (I.cne x c e) hc nch ho (I.freeC x c e),hd⟩
 refine ⟨I.ok,I.os,hg,⟨fun b o e n hb hx=>?_,fun b o e n hb hx=>?_,fun b o e n hx=>?_,fun b o e hx=>?_,fun b xs e=>tups b xs (I.base.tups b xs e),fun b o xs e=>frzs b o xs (I.base.frzs b o xs e),fun b ps e=>?_⟩,?_,fun x c e=>?_,?_,fun x c e=>?_,fun p hp=>?_,hok,I.len⟩
 ·exact keep b o (neL b o e) hb (neC b o e hx) (I.base.keep b o e n hb hx) (I.base.free b o e n hx)
 ·obtain ⟨sl,e1⟩:=I.base.slot b o e n hb hx
  obtain ⟨sl',e2⟩:=slot b _ (neL b o e) hb (neC b o e hx) e1 (I.base.free b o e n hx)
  exact ⟨sl',e2⟩
 ·obtain ⟨o',e1⟩:=I.base.there b o e hx
  exact free b o' (neC b o e hx) e1 (I.base.free b o e n hx)
 ·obtain ⟨o',e1⟩:=I.base.there b o e hx
  exact there b o' (neC b o e hx) e1
 ·obtain ⟨m1,e1⟩:=I.base.tbls b ps e
  obtain ⟨m2,e2⟩:=tbls b _ e1
  exact ⟨m1++m2,by rw[e2,Array.append_assoc]⟩
 ·obtain ⟨m,hn,hl⟩:=I.loc
  refine ⟨m,ns m hn,fun i x v e1 e2 e3=>?_⟩
  obtain ⟨u,r,l⟩:=hl i x v e1 e2 e3
  refine ⟨u,r,?_⟩
  rcases l with l | ⟨k,c,e,z⟩
  ·exact .inl l
  ·exact .inr ⟨k,c,e,cellK x c e _ z⟩
 ·obtain ⟨v,z⟩:=I.cell x c e
  exact ⟨v,cellK x c e v z⟩
 ·obtain ⟨m,⟨o,_,_,ho,_⟩,_⟩:=I.loc
  exact free _ o (fun z=>(hch _ z).2.1 rfl) ho I.free
 ·obtain ⟨v,o,ho,hd⟩:=I.cell x c e
  exact free c o (fun z=>(hch c z).2.2.1 x c e rfl) ho (I.freeC x c e)
 ·obtain ⟨e,n,ne,nf,d⟩:=I.pin p hp
  have nch:p.1 ∉ ch:=fun z=>(hch p.1 z).2.2.2 p hp rfl
  exact ⟨keep p.1 p.2 ne nf nch e n,free p.1 p.2 nch e n,ne,nf,d⟩
theorem Inv.un{t':Nat}(I:Inv X pins σ H s)(u:Un X.fs [] H H' s.heap h')(hok:HOk X.prog X.w H' h'):Inv X pins σ H' { s with heap:=h',toks:=t' }:=by
 obtain ⟨m,⟨o,es,ep,ho,r⟩,_⟩:=id I.loc
 obtain ⟨sl,hL⟩:=u.any ho I.free (by simp)
 exact I.step (g':=s.gens) (d':=s.drawn) (ch:=[]) (fun _ z=>nomatch z) (fun b o _ hb _ e n=>u.keep b o e n hb (by simp)) (fun b o _ hb _ e n=>u.slot b o e n hb (by simp)) (fun b o _ e n=>u.free b o e n (by simp)) (fun b o _ e=>u.there b o e (by simp)) u.tups u.frzs u.tbls (fun m' hm=>by
  obtain ⟨o',es',ep',ho',r'⟩:=hm
  rw[ho]at ho'; cases ho'
  exact ⟨_,es',ep',hL,r'⟩) hok I.bare
theorem Inv.call{g':Array GenState}{t':Nat}{d':Drawn}{ch:List Addr}(I:Inv X pins σ H s)(u:Un (frs X.stack) ch H H' s.heap h')(hok:HOk X.prog X.w H' h')(hg:AllBare g')
  (hch:∀ b ∈ ch,(b ∈ X.ex∨X.s₀.heap.objs.size≤b)∧b≠X.env.locals∧(∀ x c,X.env.cells.lookup x = some c→c≠b)∧∀ p ∈ X.pn ++ pins,p.1≠b) :
  Inv X pins σ H' { s with heap:=h',gens:=g',drawn:=d',toks:=t' }:=by
 obtain ⟨m,⟨o,es,ep,ho,r⟩,_⟩:=id I.loc
 obtain ⟨sl,hL⟩:=u.any ho I.free fun z=>(hch _ z).2.1 rfl
 exact I.step (ch:=ch) hch (fun b o hL hb hc e n=>u.keep b o e n (fun z=>(mem_cons.mp (I.stkSub b z)).elim hL hb) hc) (fun b o _ _ hc e n=>u.any e n hc) (fun b o hc e n=>u.free b o e n hc) (fun b o hc e=>u.there b o e hc) u.tups u.frzs u.tbls (fun m' hm=>by
  obtain ⟨o',es',ep',ho',r'⟩:=hm
  rw[ho]at ho'; cases ho'
  exact ⟨_,es',ep',hL,r'⟩) hok hg
theorem Inv.turned{t':Nat}{it:Addr}(I:Inv X pins σ H s)(k:∀ b o,b≠it→s.heap.get? b = some o→h'.get? b = some o)(hn:H it = none)(hL:it≠X.env.locals)
  (h1:it∈X.ex∨X.s₀.heap.objs.size≤it) (h2:∀ x c,X.env.cells.lookup x=some c→c≠it) (h3:∀ p∈X.pn++pins,p.1≠it):Inv X pins σ H { s with heap:=h',toks:=t' }:=by
 have nit:∀ b u,H b=some u→b≠it:=fun b u e z=>by rw[z,hn]at e; cases e
 refine I.step (g':=s.gens) (d':=s.drawn) (ch:=[it]) (fun b hb=>?_) (fun b o _ _ hc e _=>k b o (fun z=>hc (by simp[z])) e) (fun b o _ _ hc e _=>⟨o.slots,k b o (fun z=>hc (by simp[z])) e⟩) (fun _ _ _ _ n=>n)
  (fun b o hc e=>⟨o,k b o (fun z=>hc (by simp[z])) e⟩) (fun _ _ e=>e) (fun _ _ _ e=>e) (fun b ps e=>⟨#[],by rw[e]; simp⟩) (fun m hm=>?_) (fun b u e=>?_) I.bare
 ·have e:b=it:=by simpa using hb
  subst e
  exact ⟨h1,hL,h2,h3⟩
 ·obtain ⟨o,es,ep,ho,r⟩:=hm
  exact ⟨o,es,ep,k _ o (Ne.symm hL) ho,r⟩
 ·refine (I.hok b u e).stay (fun c v hc q=>k c v ?_ q) (fun _ q=>q) fun _ _ q=>q
  rcases hc with z | z
  ·rw[z]; exact nit b u e
  ·exact nit c _ z
theorem Inv.tok(I:Inv X pins σ H s)(t:Nat):Inv X pins σ H { s with toks:=t }:=I.un (h':=s.heap) (t':=t) Un.refl I.hok
theorem Inv.kept{t':Nat}(I:Inv X pins σ H s)(k:∀ b u,s.heap.get? b=some u→h'.get? b=some u):Inv X pins σ H { s with heap:=h',toks:=t' }:=I.un (Un.kept k) (I.hok.kept k)
theorem Inv.laid{a:Addr}{o:HO}{t':Nat}(I:Inv X pins σ H s)(k:∀ b u,s.heap.get? b=some u→h'.get? b=some u)(hp:s.heap.objs.size≤a)(new:ObjOk X.prog X.w (upd H a o) h' a o) :
  Inv X pins σ (upd H a o) { s with heap:=h',toks:=t' }:=I.un (Un.laid k hp (I.hok.fresh hp)) (I.hok.laid k hp new)
theorem Inv.write{x e:Addr}{o:HO}{t':Nat}(I:Inv X pins σ H s)(mu:Mut (H x))(he:e=x∨H e=some (.own x))(k:∀ b u,b≠e→s.heap.get? b=some u→h'.get? b=some u)(heo:∃ u,h'.get? e=some u)
  (new:ObjOk X.prog X.w (upd H x o) h' x o):Inv X pins σ (upd H x o) { s with heap:=h',toks:=t' }:=I.un (Un.write mu he k heo) (I.hok.write mu he k heo new)
theorem Inv.weak{σ':List (Option V)}(I:Inv X pins σ H s)(hl:σ'.length=σ.length)(w:∀(i:Nat) v,σ'[i]? = some (some v)→σ[i]? = some (some v)):Inv X pins σ' H s :=
 ⟨I.ok,I.os,I.bare,I.base,let ⟨m,hn,hl'⟩:=I.loc; ⟨m,hn,fun i x v e1 e2 e3=>hl' i x v e1 (w i v e2) e3⟩,I.cell,I.free,I.freeC,I.pin,I.hok,hl.trans I.len⟩
theorem Inv.pins_of{pins':List (Addr×Obj)}(I:Inv X pins σ H s)(h:∀ p ∈ pins',s.heap.get? p.1 = some p.2∧H p.1 = none∧p.1≠X.env.locals∧p.1 ∉ X.fs∧∀ v,p.2.data≠.cell v):Inv X pins' σ H s :=
 ⟨I.ok,I.os,I.bare,I.base,I.loc,I.cell,I.free,I.freeC,fun p hp=>(mem_append.mp hp).elim (fun z=>I.pin p (mem_append_left _ z)) (h p),I.hok,I.len⟩
theorem iN{N:List Str}(hN:N.Nodup){i j:Nat}{x:Str}(a:N[i]? = some x)(b:N[j]? = some x):i=j:=by
 obtain ⟨h1,e1⟩:=List.getElem?_eq_some_iff.mp a
 obtain ⟨h2,e2⟩:=List.getElem?_eq_some_iff.mp b
 exact (List.getElem_inj hN).mp (e1.trans e2.symm)
theorem jI{M:Model}{A:Around}{E:Value→Shared→Prop}{i:Nat}{x:Str}{v:V}{u:Value}{Q:Unit→Shared→Prop}(I:Inv X pins σ H s)(hN:X.N.Nodup)(hi:X.N[i]? = some x)(hx:Loc X.env.scope x)(r:RelV v u)
  (h:∀ s',Inv X pins (σ.set i (some v)) H s'→(∃ a,Heap.SameBut a s.heap s'.heap∧(a = X.env.locals∨X.env.cells.lookup x = some a))→Q () s') (hf:X.fn x = true∨X.env.scope.names.lookup x = some .local:=by first | exact .inl rfl | exact .inr rfl | assumption):wpAny M A (storeName X.env x u) Q E s:=by
 obtain ⟨m,hn,hl⟩:=id I.loc
 have hcls:(X.env.scope.kind == .class || (X.env.scope.kind == .module && X.env.locals != X.env.globals)) = false:=by rw[I.ok.kind]; rfl
 have hiσ:i<σ.length:=by rw[I.len]; exact (List.getElem?_eq_some_iff.mp hi).1
 have cne:=I.cne
 have tracked:∀{a:Addr}{h':Heap},(∃ o,s.heap.get? a=some o∧H a=none)→Heap.SameBut a s.heap h'→HOk X.prog X.w H h':=fun {a h'} ha hs b ob e=>by
  obtain ⟨_,_,hfree⟩:=ha
  refine (I.hok b ob e).stay (fun c w' hc q=>(hs.2 c ?_).trans q) (fun _ q=>q) fun _ _ q=>q
  rintro rfl
  rcases hc with rfl | hc
  ·rw[hfree]at e; cases e
  ·rw[hfree]at hc; cases hc
 rcases hx with hk | hk
 ·refine wpAny_storeName_local hk hn (fun h' hn' hs=>?_) hcls
  obtain ⟨oL,_,_,hoL,_⟩:=id hn
  refine h _ ⟨I.ok,I.os,I.bare,⟨fun b o e n hb hx=>?_,fun b o e n hb hx=>?_,I.base.free,fun b o e hx=>?_,I.base.tups,I.base.frzs,I.base.tbls⟩,⟨_,hn',fun j y v' e1 e2 e3=>?_⟩,fun y c e=>?_,I.free,I.freeC,fun p hp=>?_,tracked ⟨oL,hoL,I.free⟩ hs,by simpa using I.len⟩ ⟨_,hs,.inl rfl⟩
  ·exact (hs.2 b (Nat.ne_of_lt (Nat.lt_of_lt_of_le (Heap.lt_size e) I.ok.above))).trans (I.base.keep b o e n hb hx)
  ·obtain ⟨sl,e1⟩:=I.base.slot b o e n hb hx
   exact ⟨sl,(hs.2 b (Nat.ne_of_lt (Nat.lt_of_lt_of_le (Heap.lt_size e) I.ok.above))).trans e1⟩
  ·obtain ⟨o',e1⟩:=I.base.there b o e hx
   exact ⟨o',(hs.2 b (Nat.ne_of_lt (Nat.lt_of_lt_of_le (Heap.lt_size e) I.ok.above))).trans e1⟩
  ·by_cases hj:j=i
   ·subst hj
    rw[hi]at e1; cases e1
    rw[List.getElem?_set_self hiσ]at e2
    cases e2
    exact ⟨u,r,.inl ⟨hk,by simp⟩⟩
   ·rw[List.getElem?_set_ne (Ne.symm hj)]at e2
    obtain ⟨u',r',q⟩:=hl j y v' e1 e2 e3
    refine ⟨u',r',?_⟩
    rcases q with ⟨k,e⟩ | ⟨k,c,e,z⟩
    ·refine .inl ⟨k,?_⟩
     have:y≠x:=fun e=>hj (iN hN e1 (e ▸ hi))
     simp[this,e]
    ·exact .inr ⟨k,c,e,z.sameBut hs (cne y c e)⟩
  ·obtain ⟨w',z⟩:=I.cell y c e
   exact ⟨w',z.sameBut hs (cne y c e)⟩
  ·obtain ⟨e,n,ne,nf,d⟩:=I.pin p hp
   exact ⟨(hs.2 p.1 ne).trans e,n,ne,nf,d⟩
 ·have hfn:X.fn x=true:=by
   rcases hf with z | z
   ·exact z
   ·rw[z]at hk; cases hk
  obtain ⟨c,hc⟩:=I.ok.has x (.inl hk)
  obtain ⟨w',z⟩:=I.cell x c hc
  refine wpAny_storeName_cell I.ok.kind hk hc z (fun h' hc' hs=>?_)
  obtain ⟨oc,hoc,hocd⟩:=id z
  refine h { s with heap:=h' } ⟨I.ok,I.os,I.bare,⟨fun b o e n hb hx=>?_,fun b o e n hb hx=>?_,I.base.free,fun b o e hx=>?_,I.base.tups,I.base.frzs,I.base.tbls⟩,⟨m,hn.sameBut hs (Ne.symm (cne x c hc)),fun j y v' e1 e2 e3=>?_⟩,fun y c' e=>?_,I.free,I.freeC,fun p hp=>?_,tracked ⟨oc,hoc,I.freeC x c hc⟩ hs,by simpa using I.len⟩ ⟨c,hs,.inr hc⟩
  ·exact (hs.2 b (Nat.ne_of_lt (Nat.lt_of_lt_of_le (Heap.lt_size e) (I.ok.cab x c hfn hc)))).trans (I.base.keep b o e n hb hx)
  ·obtain ⟨sl,e1⟩:=I.base.slot b o e n hb hx
   exact ⟨sl,(hs.2 b (Nat.ne_of_lt (Nat.lt_of_lt_of_le (Heap.lt_size e) (I.ok.cab x c hfn hc)))).trans e1⟩
  ·obtain ⟨o',e1⟩:=I.base.there b o e hx
   exact ⟨o',(hs.2 b (Nat.ne_of_lt (Nat.lt_of_lt_of_le (Heap.lt_size e) (I.ok.cab x c hfn hc)))).trans e1⟩
  ·by_cases hj:j=i
   ·subst hj
    rw[hi]at e1; cases e1
    rw[List.getElem?_set_self hiσ]at e2
    cases e2
    exact ⟨u,r,.inr ⟨.inl hk,c,hc,hc'⟩⟩
   ·rw[List.getElem?_set_ne (Ne.symm hj)]at e2
    obtain ⟨u',r',q⟩:=hl j y v' e1 e2 e3
    refine ⟨u',r',?_⟩
    rcases q with q | ⟨k,c',e,z'⟩
    ·exact .inl q
    ·refine .inr ⟨k,c',e,z'.sameBut hs ?_⟩
     rintro rfl
     exact hj (iN hN e1 (I.ok.inj _ _ _ e hc ▸ hi))
  ·by_cases hcc:c'=c
   ·subst hcc; exact ⟨_,hc'⟩
   ·obtain ⟨w2,z2⟩:=I.cell y c' e
    exact ⟨w2,z2.sameBut hs hcc⟩
  ·obtain ⟨e,n,ne,nf,d⟩:=I.pin p hp
   refine ⟨(hs.2 p.1 ?_).trans e,n,ne,nf,d⟩
   intro q
   rw[q,hoc]at e
   have q':oc=p.2:=Option.some.inj e
   exact d w' (by rw[← q']; exact hocd)
theorem eM{M:Model}{A:Around}{E:Value→Shared→Prop}{i:Nat}{x:Str}{v:V}{u:Value}{Q:Unit→Shared→Prop}(I:Inv X pins σ H s)(hN:X.N.Nodup)(hi:X.N[i]? = some x)(hx:Loc X.env.scope x)(r:RelV v u)
  (h:∀ s',Inv X pins (σ.set i (some v)) H s'→Q () s') (hf:X.fn x = true∨X.env.scope.names.lookup x = some .local:=by first | exact .inl rfl | exact .inr rfl | assumption):wpAny M A (storeName X.env x u) Q E s :=
 jI I hN hi hx r (fun s' I' _=>h s' I') hf
theorem Inv.call'{s':Shared}{ch:List Addr}(I:Inv X pins σ H s)(ho:s'.os=s.os)(u:Un (frs X.stack) ch H H' s.heap s'.heap)(hok:HOk X.prog X.w H' s'.heap)(hg:AllBare s'.gens)
  (hch:∀ b ∈ ch,(b ∈ X.ex∨X.s₀.heap.objs.size≤b)∧b≠X.env.locals∧(∀ x c,X.env.cells.lookup x = some c→c≠b)∧∀ p ∈ X.pn ++ pins,p.1≠b):Inv X pins σ H' s':=by
 obtain ⟨h',g',d',t',o'⟩:=s'
 have e:o'=s.os:=ho
 subst e
 exact I.call (g':=g') (t':=t') (d':=d') u hok hg hch
end
abbrev XK:=Value→Option Addr→Hp→Prop
abbrev St:=List (Option V)
abbrev VK:=V→Hp→Prop
abbrev TE:=St→Hp→VK→Prop
abbrev TT:=St→Hp→(Bool→Hp→Prop)→Prop
abbrev TA:=St→Hp→(List V→Hp→Prop)→Prop
structure Ends where
 nx:St→Hp→Prop
 rt:VK
 bk:St→Hp→Prop:=fun _ _=>False
 ct:St→Hp→Prop:=fun _ _=>False
abbrev TS:=Ends→St→Hp→Prop
def EP(X:Cx)(pins:List (Addr×Obj))(σ:St)(Q:VK)(u:Value)(s':Shared):Prop:=∃ v H',Inv X pins σ H' s'∧RelV v u∧Q v H'
def TP(X:Cx)(pins:List (Addr×Obj))(σ:St)(Q:Bool→Hp→Prop)(b:Bool)(s':Shared):Prop:=∃ H',Inv X pins σ H' s'∧Q b H'
def AP(X:Cx)(pins:List (Addr×Obj))(σ:St)(Q:List V→Hp→Prop)(us:List Value)(s':Shared):Prop:=∃ vs H',Inv X pins σ H' s'∧Vals vs us∧Q vs H'
def SP(X:Cx)(pins:List (Addr×Obj))(D:Ends)(f:Flow)(s':Shared):Prop :=
 match f with
 | .next=>∃ σ' H',Inv X pins σ' H' s'∧D.nx σ' H'
 | .brk=>∃ σ' H',Inv X pins σ' H' s'∧D.bk σ' H'
 | .cont=>∃ σ' H',Inv X pins σ' H' s'∧D.ct σ' H'
 | .ret u=>∃ v σ' H',Inv X pins σ' H' s'∧RelV v u∧D.rt v H'
def PE(X:Cx)(e:Expr)(t:TE):Prop :=
 ∀(pins:List (Addr×Obj)) (s:Shared) (σ:St) (H:Hp) (Q:VK),Inv X pins σ H s→t σ H Q→wpAny (model X.prog X.w) X.A (eval e X.env) (EP X pins σ Q) X.xe s
def PT(X:Cx)(e:Expr)(t:TT):Prop :=
 ∀(pins:List (Addr×Obj)) (s:Shared) (σ:St) (H:Hp) (Q:Bool→Hp→Prop),Inv X pins σ H s→t σ H Q→wpAny (model X.prog X.w) X.A (isTrue e X.env (eval e X.env)) (TP X pins σ Q) X.xe s
def PW(X:Cx)(e:Expr)(t:TT):Prop :=
 ∀(whole:Sem Value) (pins:List (Addr×Obj)) (s:Shared) (σ:St) (H:Hp) (Q:Bool→Hp→Prop),Inv X pins σ H s→t σ H Q→wpAny (model X.prog X.w) X.A (isTrue e X.env whole) (TP X pins σ Q) X.xe s
theorem PW.pt{X:Cx}{e:Expr}{t:TT}(h:PW X e t):PT X e t:=h _
def PA(X:Cx)(es:List Expr)(t:TA):Prop :=
 ∀(pos:Pos) (pins:List (Addr×Obj)) (s:Shared) (σ:St) (H:Hp) (Q:List V→Hp→Prop),Inv X pins σ H s→t σ H Q→wpAny (model X.prog X.w) X.A (spliced (backTo pos (starEach es X.env))) (AP X pins σ Q) X.xe s
def PS(X:Cx)(st:Stmt)(t:TS):Prop :=
 ∀(pins:List (Addr×Obj)) (s:Shared) (σ:St) (H:Hp) (D:Ends),Inv X pins σ H s→t D σ H→wpAny (model X.prog X.w) X.A (exec st X.env) (SP X pins D) X.xe s
def PSs(X:Cx)(st:List Stmt)(t:TS):Prop :=
 ∀(pins:List (Addr×Obj)) (s:Shared) (σ:St) (H:Hp) (D:Ends),Inv X pins σ H s→t D σ H→wpAny (model X.prog X.w) X.A (execs st X.env) (SP X pins D) X.xe s
theorem thn{α:Type}{t:Sem α}{Q Q':α→Shared→Prop}{M:Model}{A:Around}{E:Value→Shared→Prop}{s:Shared}(h:wpAny M A t Q E s)(hQ:∀ a s,Q a s→Q' a s):wpAny M A t Q' E s:=wpAny_mono h hQ fun _ _ x=>x
section
variable {X:Cx}
def ze(i:Nat):TE:=fun σ H Q=>∃ v,σ[i]? = some (some v)∧Q v H
def tC(v:V):TE:=fun _ H Q=>Q v H
theorem wD{i:Nat}{x:Str}{pos:Pos}(hN:X.N[i]? = some x)(hv:Vis X.env.scope x)(hd:(x == ("__debug__" : Str))=false:=by decide)(hcd:(x == ("__classdict__" : Str))=false:=by decide):PE X (.Name x pos) (ze i):=by
 intro pins s σ H Q I h
 obtain ⟨v,e,h⟩:=h
 obtain ⟨m,hn,hl⟩:=I.loc
 obtain ⟨u,r,l⟩:=hl i x v hN e hv
 have fin:EP X pins σ Q u s:=⟨v,H,I,r,h⟩
 rcases l with ⟨hk,hm⟩ | ⟨hk,c,hc,hcell⟩
 ·exact wpAny_Name (wpAny_loadName_local I.ok.kind hk hn hm fin) hd
 ·rcases hk with hk | hk
  ·exact wpAny_Name (wpAny_loadName_cell I.ok.kind hk hc hcell fin) hd
  ·exact wpAny_Name (wpAny_loadName_free I.ok.kind hk hc hcell fin hcd) hd
theorem aj{i j pos}:PE X (.Constant (.int i) j pos) (tC (.int i)):=fun _ _ _ H _ I h=>wpAny_Constant_int ⟨.int i,H,I.tok _,⟨_,rfl⟩,h⟩
theorem dj{b j pos}:PE X (.Constant (.bool b) j pos) (tC (.bl b)):=fun _ _ _ H _ I h=>Constant_bool ⟨.bl b,H,I,rfl,h⟩
theorem dr{j pos}:PE X (.Constant .none j pos) (tC .non):=fun _ _ _ H _ I h=>Constant_none ⟨.non,H,I,rfl,h⟩
theorem gi{x j pos}:PE X (.Constant (.str x) j pos) (tC (.str x)):=fun _ _ _ H _ I h=>Calls.Constant_str ⟨.str x,H,I.tok _,⟨_,rfl⟩,h⟩
def Gl(X:Cx)(x:Str):Prop:=X.env.kindOf x=some .globalImplicit
theorem eZ{E:Value→Shared→Prop}{pins:List (Addr×Obj)}{s:Shared}{σ:St}{H:Hp}{x:Str}{u:Value}{pos:Pos}{Q:Value→Shared→Prop}(I:Inv X pins σ H s)(hg:Gl X x)(hm:X.mg x=some u)(h:Q u s)
  (hd:(x == ("__debug__" : Str))=false:=by decide):wpAny (model X.prog X.w) X.A (eval (.Name x pos) X.env) Q E s :=
 Calls.Name_function_global I.ok.kind hg (Calls.loadGlobal_global (by rw[I.ok.glob]; exact I.mod.glob.keeps I.bk) hm h) hd
theorem fB{E:Value→Shared→Prop}{pins:List (Addr×Obj)}{s:Shared}{σ:St}{H:Hp}{x:Str}{u:Value}{pos:Pos}{Q:Value→Shared→Prop}(I:Inv X pins σ H s)(hg:Gl X x)(hm:X.mg x=none)(hv:bootBuiltins x=some u)(h:Q u s)
  (hn:x ≠ "__name__" := by decide) (hd:(x == ("__debug__" : Str))=false:=by decide):wpAny (model X.prog X.w) X.A (eval (.Name x pos) X.env) Q E s:=by
 obtain ⟨mb,h1,h2⟩:=I.mod.blt
 exact Calls.Name_function_global I.ok.kind hg (Calls.loadGlobal_builtin (by rw[I.ok.glob]; exact I.mod.glob.keeps I.bk) hm (by rw[I.ok.blt]; exact h1.keeps I.bk) ((h2 x hn).trans hv) h) hd
theorem vd{x:Str}{v:V}{u:Value}{pos:Pos}(hg:Gl X x)(hm:X.mg x=some u)(r:RelV v u)(hd:(x == ("__debug__" : Str))=false:=by decide):PE X (.Name x pos) (tC v) :=
 fun _ _ _ H _ I h=>eZ I hg hm ⟨v,H,I,r,h⟩ hd
theorem fN{x:Str}{v:V}{u:Value}{pos:Pos}(hg:Gl X x)(hm:X.mg x=none)(hv:bootBuiltins x=some u)(r:RelV v u)(hn:x ≠ "__name__" := by decide)(hd:(x == ("__debug__" : Str))=false:=by decide):PE X (.Name x pos) (tC v) :=
 fun _ _ _ H _ I h=>fB I hg hm hv ⟨v,H,I,r,h⟩ hn hd
variable {a b:Expr}{ta tb:TE}{pos:Pos}
variable {tA tB':TT}{rest:List Expr}
def y3(t u:TT):TT:=fun σ H Q=>t σ H fun c H1=>if c=true then u σ H1 Q else Q false H1
def tOr(t u:TT):TT:=fun σ H Q=>t σ H fun c H1=>if c=true then Q true H1 else u σ H1 Q
def zp(t:TT):TT:=fun σ H Q=>t σ H fun c H1=>Q (!c) H1
theorem kE(ha:PT X a tA):PW X (.BoolOp .And [a] pos) tA:=by
 intro wh pins s σ H Q I h
 refine isTrue_and (thn (ha pins s σ H Q I h) fun c s1 e=>?_)
 cases c with
 | true=>exact isTrue_and_nil e
 | false=>exact e
theorem jm(ha:PT X a tA):PW X (.BoolOp .Or [a] pos) tA:=by
 intro wh pins s σ H Q I h
 refine isTrue_or (thn (ha pins s σ H Q I h) fun c s1 e=>?_)
 cases c with
 | false=>exact isTrue_or_nil e
 | true=>exact e
theorem mE(ha:PT X a tA)(hb:PW X (.BoolOp .And (b::rest) pos) tB'):PW X (.BoolOp .And (a::b::rest) pos) (y3 tA tB'):=by
 intro wh pins s σ H Q I h
 refine isTrue_and (thn (ha pins s σ H _ I h) fun c s1 ⟨H1,I1,q1⟩=>?_)
 cases c with
 | true=>exact hb wh pins s1 σ H1 Q I1 q1
 | false=>exact ⟨H1,I1,q1⟩
theorem iY(ha:PT X a tA)(hb:PW X (.BoolOp .Or (b::rest) pos) tB'):PW X (.BoolOp .Or (a::b::rest) pos) (tOr tA tB'):=by
 intro wh pins s σ H Q I h
 refine isTrue_or (thn (ha pins s σ H _ I h) fun c s1 ⟨H1,I1,q1⟩=>?_)
 cases c with
 | true=>exact ⟨H1,I1,q1⟩
 | false=>exact hb wh pins s1 σ H1 Q I1 q1
theorem dZ(ha:PT X a tA):PT X (.UnaryOp .Not a pos) (zp tA):=by
 intro pins s σ H Q I h
 exact isTrue_not (ha pins s σ H (fun c H1=>Q (!c) H1) I h)
theorem gZ{op}{t:TE}(h:PE X a t):PE X (.BoolOp op [a] pos) t:=fun pins s σ H Q I hw=>BoolOp_one (h pins s σ H Q I hw)
def tIf(t:TT)(ta tb:TE):TE:=fun σ H Q=>t σ H fun c H1=>if c=true then ta σ H1 Q else tb σ H1 Q
theorem iJ{c:Expr}(hc:PT X c tA)(ha:PE X a ta)(hb:PE X b tb):PE X (.IfExp c a b pos) (tIf tA ta tb):=by
 intro pins s σ H Q I h
 refine wpAny_IfExp (thn (hc pins s σ H _ I h) fun d s1 ⟨H1,I1,q1⟩=>?_)
 cases d with
 | true=>exact ha pins s1 σ H1 Q I1 q1
 | false=>exact hb pins s1 σ H1 Q I1 q1
end
def SqL(K:Frag)(H:Hp)(a:Addr)(xs:List V):Prop :=
 Rd H a (.lst xs) ∨
  ∃(o:Obj) (its:Array Value) (n:Nat),K.lookup a=some o∧o.cls=.type "list" ∧ o.dict=none∧o.data=.seq its n∧its.size≤sizeLine∧Vals xs its.toList
def SqT(K:Frag)(H:Hp)(a:Addr)(xs:List V):Prop :=
 Rd H a (.tup xs) ∨
  ∃(o:Obj) (its:Array Value) (n:Nat),K.lookup a=some o∧o.cls=.type "tuple" ∧ o.data=.seq its n∧its.size≤sizeLine∧Vals xs its.toList
def zh:Value→Option V
 | .none=>some .non
 | .bool b=>some (.bl b)
 | .int i _=>some (.int i)
 | .str x _=>some (.str x)
 | .bytes b _=>some (.byt b)
 | .float b _=>some (.flt b)
 | .ref a=>some (.ref a)
 | .type n=>some (.ty n)
 | _=>none
theorem RelV.abs{x:V}{u:Value}(r:RelV x u):zh u=some x:=by
 cases x with
 | non=>cases r; rfl
 | bl _=>cases r; rfl
 | int _=>obtain ⟨t,rfl⟩:=r; rfl
 | str _=>obtain ⟨t,rfl⟩:=r; rfl
 | byt _=>obtain ⟨t,rfl⟩:=r; rfl
 | flt _=>obtain ⟨t,rfl⟩:=r; rfl
 | ref _=>cases r; rfl
 | ty _=>cases r; rfl
theorem RelV.inj{x y:V}{u:Value}(r:RelV x u)(q:RelV y u):x=y:=Option.some.inj (r.abs.symm.trans q.abs)
theorem Vals.inj:∀{xs ys:List V}{us:List Value},Vals xs us→Vals ys us→xs=ys
 | _,_,_,.nil,.nil=>rfl
 | _,_,_,.cons r t,.cons r' t'=>by rw[r.inj r',Vals.inj t t']
section
variable {X:Cx}{pins:List (Addr×Obj)}{σ:St}{H:Hp}{s:Shared}{a:Addr}{xs ys:List V}
theorem SqL.of{K:Frag}(h:H a=some (.lst xs)):SqL K H a xs:=.inl (.inl h)
theorem SqT.of{K:Frag}(h:H a=some (.tup xs)):SqT K H a xs:=.inl (.inl h)
theorem Inv.list(I:Inv X pins σ H s)(h:SqL X.K H a xs):∃ its:List Value,Vals xs its∧PlainL s.heap a its.toArray∧xs.length≤sizeLine:=by
 rcases h with h | ⟨o,its,n,hk,hc,hd,hs,hz,r⟩
 ·obtain ⟨z,its,n,r,e⟩:=h.ok I.hok
  exact ⟨its,r,⟨_,n,e,rfl,rfl,rfl⟩,z⟩
 ·refine ⟨its.toList,r,⟨o,n,I.kIn a o hk,hc,hd,by simpa using hs⟩,?_⟩
  have e:=r.length
  simp only[Array.length_toList]at e
  lia
theorem Inv.tuple(I:Inv X pins σ H s)(h:SqT X.K H a xs):∃ its:List Value,Vals xs its∧IsTup s.heap a its.toArray∧xs.length≤sizeLine:=by
 rcases h with h | ⟨o,its,n,hk,hc,hs,hz,r⟩
 ·obtain ⟨z,its,r,p⟩:=h.ok I.hok
  exact ⟨its,r,p,z⟩
 ·refine ⟨its.toList,r,⟨o,I.kIn a o hk,hc,n,by simpa using hs⟩,?_⟩
  have e:=r.length
  simp only[Array.length_toList]at e
  lia
theorem Inv.list_inj(I:Inv X pins σ H s)(h:SqL X.K H a xs)(h':SqL X.K H a ys):xs=ys:=by
 obtain ⟨its,r,⟨o,n,e,_,_,d⟩,_⟩:=I.list h
 obtain ⟨its',r',⟨o',n',e',_,_,d'⟩,_⟩:=I.list h'
 rw[e]at e'; cases e'
 rw[d]at d'
 injection d' with d1 _
 have:its=its':=by simpa using congrArg Array.toList d1
 subst this
 exact r.inj r'
theorem Inv.tuple_inj(I:Inv X pins σ H s)(h:SqT X.K H a xs)(h':SqT X.K H a ys):xs=ys:=by
 obtain ⟨its,r,⟨o,e,_,n,d⟩,_⟩:=I.tuple h
 obtain ⟨its',r',⟨o',e',_,n',d'⟩,_⟩:=I.tuple h'
 rw[e]at e'; cases e'
 rw[d]at d'
 injection d' with d1 _
 have:its=its':=by simpa using congrArg Array.toList d1
 subst this
 exact r.inj r'
end
abbrev Cx.wish(X:Cx)(E:Value→Shared→Prop):Cx:={ X with xe:=E }
abbrev Cx.nox(X:Cx):Cx:=X.wish fun _ _=>False
theorem Cx.Ok.wish{X:Cx}(ok:X.Ok)(E:Value→Shared→Prop):(X.wish E).Ok :=
 ⟨ok.mod,ok.kind,ok.glob,ok.blt,ok.above,ok.inj,ok.has,ok.cab,ok.hd,ok.frames,ok.stk,ok.exf,ok.bs,ok.bsz,ok.noex,ok.exfs,ok.funs,ok.frf⟩
theorem Cx.Ok.unwish{X:Cx}{E:Value→Shared→Prop}(ok:(X.wish E).Ok):X.Ok :=
 ⟨ok.mod,ok.kind,ok.glob,ok.blt,ok.above,ok.inj,ok.has,ok.cab,ok.hd,ok.frames,ok.stk,ok.exf,ok.bs,ok.bsz,ok.noex,ok.exfs,ok.funs,ok.frf⟩
section
variable {X:Cx}{pins:List (Addr×Obj)}{σ:St}{H:Hp}{s:Shared}{E:Value→Shared→Prop}
theorem Inv.wish(I:Inv X pins σ H s)(E:Value→Shared→Prop):Inv (X.wish E) pins σ H s:=⟨I.ok.wish E,I.os,I.bare,I.base,I.loc,I.cell,I.free,I.freeC,I.pin,I.hok,I.len⟩
theorem Inv.unwish(I:Inv (X.wish E) pins σ H s):Inv X pins σ H s:=⟨I.ok.unwish,I.os,I.bare,I.base,I.loc,I.cell,I.free,I.freeC,I.pin,I.hok,I.len⟩
theorem SP.unwish{D:Ends}{f:Flow}{s':Shared}(h:SP (X.wish E) pins D f s'):SP X pins D f s':=by
 cases f with
 | next=>obtain ⟨σ',H',I,q⟩:=h; exact ⟨σ',H',I.unwish,q⟩
 | brk=>obtain ⟨σ',H',I,q⟩:=h; exact ⟨σ',H',I.unwish,q⟩
 | cont=>obtain ⟨σ',H',I,q⟩:=h; exact ⟨σ',H',I.unwish,q⟩
 | ret u=>obtain ⟨v,σ',H',I,r,q⟩:=h; exact ⟨v,σ',H',I.unwish,r,q⟩
theorem PSs.nox{st:List Stmt}{t:TS}(h:PSs X.nox st t):PSs X st t:=fun pins s σ H D I hw =>
 wpAny_mono (h pins s σ H D (I.wish _) hw) (fun _ _ q=>q.unwish) fun _ _ z=>False.elim z
end
section
variable {X:Cx}{st:Stmt}{rest:List Stmt}{t u:TS}{e:Expr}{te:TE}{pos:Pos}
def vI:TS:=fun D σ H=>D.nx σ H
def aA(t u:TS):TS:=fun D σ H=>t { D with nx:=u D } σ H
theorem aJ:PSs X [] vI:=fun _ _ σ H _ I h=>wpAny_execs_nil ⟨σ,H,I,h⟩
theorem af(h1:PS X st t)(h2:PSs X rest u):PSs X (st::rest) (aA t u):=by
 intro pins s σ H D I h
 refine wpAny_execs_cons (thn (h1 pins s σ H { D with nx:=u D } I h) fun f s1 q=>?_)
 cases f with
 | next =>
  obtain ⟨σ',H',I',q⟩:=q
  exact h2 pins s1 σ' H' D I' q
 | ret v=>exact q
 | brk=>exact q
 | cont=>exact q
theorem ak(h1:PS X st t):PSs X [st] t:=by
 intro pins s σ H D I h
 refine wpAny_execs_cons (thn (h1 pins s σ H D I h) fun f s1 q=>?_)
 cases f with
 | next=>exact wpAny_execs_nil q
 | ret v=>exact q
 | brk=>exact q
 | cont=>exact q
def wX:TS:=fun D σ H=>D.bk σ H
theorem sX:PS X (.Pass pos) vI:=fun _ _ σ H _ I h=>wpAny_Pass ⟨σ,H,I,h⟩
theorem rB:PS X (.Break pos) wX:=fun _ _ σ H _ I h=>wpAny_Break ⟨σ,H,I,h⟩
theorem Inv.quiet{pins:List (Addr×Obj)}{σ:St}{H:Hp}{s:Shared}(I:Inv X pins σ H s):interactive X.env=false:=by simp[interactive,I.ok.kind]
def yi(te:TE):TS:=fun D σ H=>te σ H fun _ H1=>D.nx σ H1
theorem dS(he:PE X e te)(hs:swapsWith e none pos.line X.env=pure false:=by rfl):PS X (.Expr e pos) (yi te):=by
 intro pins s σ H D I h
 exact wpAny_Expr_any (thn (he pins s σ H _ I h) fun v s1 ⟨x,H1,I1,r1,q1⟩=>⟨σ,H1,I1,q1⟩) I.quiet hs
def xA(te:TE):TS:=fun D σ H=>te σ H D.rt
theorem aw(he:PE X e te):PS X (.Return (some e) pos) (xA te):=by
 intro pins s σ H D I h
 exact wpAny_Return_some (thn (he pins s σ H _ I h) fun v s1 ⟨x,H1,I1,r1,q1⟩=>⟨x,σ,H1,I1,r1,q1⟩)
def yX(c:TT)(t u:TS):TS:=fun D σ H=>c σ H fun b H1=>if b=true then t D σ H1 else u D σ H1
theorem bJ{c:Expr}{a b:List Stmt}{tc:TT}(hc:PT X c tc)(ha:PSs X a t)(hb:PSs X b u):PS X (.If c a b pos) (yX tc t u):=by
 intro pins s σ H D I h
 refine wpAny_If (thn (hc pins s σ H _ I h) fun d s1 ⟨H1,I1,q1⟩=>?_)
 cases d with
 | true=>exact ha pins s1 σ H1 D I1 q1
 | false=>exact hb pins s1 σ H1 D I1 q1
def w9:TS:=fun _ _ _=>False
theorem jn:PS X st w9:=fun _ _ _ _ _ _ h=>h.elim
end
abbrev TG:=V→St→Hp→(St→Hp→Prop)→Prop
abbrev TGs:=List V→St→Hp→(St→Hp→Prop)→Prop
def PG(X:Cx)(target:Expr)(t:TG):Prop :=
 ∀(pins:List (Addr×Obj)) (s:Shared) (σ:St) (H:Hp) (v:V) (u:Value) (Q:St→Hp→Prop),Inv X pins σ H s→RelV v u→t v σ H Q →
  wpAny (model X.prog X.w) X.A (assign target X.env u) (fun _ s'=>∃ σ' H',Inv X pins σ' H' s'∧Q σ' H') X.xe s
def PGs(X:Cx)(ts:List Expr)(t:TGs):Prop :=
 ∀(pins:List (Addr×Obj)) (s:Shared) (σ:St) (H:Hp) (vs:List V) (us:List Value) (Q:St→Hp→Prop),Inv X pins σ H s→Vals vs us→t vs σ H Q →
  wpAny (model X.prog X.w) X.A (assignInOrder ((assignEach ts X.env).map (·.2)) us) (fun _ s'=>∃ σ' H',Inv X pins σ' H' s'∧Q σ' H') X.xe s
abbrev wu:=V→V→V→Hp→(Hp→Prop)→Prop
def xG(X:Cx)(t:wu):Prop :=
 ∀(pins:List (Addr×Obj)) (s:Shared) (σ:St) (H:Hp) (o i v:V) (ov iv u:Value) (Q:Hp→Prop),Inv X pins σ H s→RelV o ov→RelV i iv→RelV v u→t o i v H Q →
  wpAny (model X.prog X.w) X.A (setItem ov iv u) (fun _ s'=>∃ H',Inv X pins σ H' s'∧Q H') X.xe s
abbrev TIp:=V→V→Hp→VK→Prop
def PIp(X:Cx)(op:Operator)(t:TIp):Prop :=
 ∀(pins:List (Addr×Obj)) (s:Shared) (σ:St) (H:Hp) (x y:V) (v u:Value) (Q:VK),Inv X pins σ H s→RelV x v→RelV y u→t x y H Q →
  wpAny (model X.prog X.w) X.A (inplaceOp op v u) (EP X pins σ Q) X.xe s
section
variable {X:Cx}{pos:Pos}
def jP(i:Nat):TG:=fun v σ H Q=>Q (σ.set i (some v)) H
theorem ap{i:Nat}{x:Str}(hN:X.N.Nodup)(hi:X.N[i]? = some x)(hx:Loc X.env.scope x)(hf:X.fn x = true∨X.env.scope.names.lookup x = some .local:=by first | exact .inl rfl | exact .inr rfl | assumption):PG X (.Name x pos) (jP i):=by
 intro pins s σ H v u Q I r h
 exact wpAny_assign_Name (eM I hN hi hx r (fun s' I'=>⟨_,H,I',h⟩) hf)
def zB:TGs:=fun vs σ H Q=>vs=[]∧Q σ H
inductive gCons(t:TG)(u:TGs)(vs:List V)(σ:St)(H:Hp)(Q:St→Hp→Prop):Prop
 | mk(v:V)(r:List V)(h0:vs=v::r)(h1:t v σ H fun σ' H'=>u r σ' H' Q):gCons t u vs σ H Q
theorem bA:PGs X [] zB:=by
 intro pins s σ H vs us Q I r h
 obtain ⟨e,h⟩:=h
 subst e
 cases r
 exact assignInOrder_nil ⟨σ,H,I,h⟩
theorem ay{e:Expr}{es:List Expr}{t:TG}{u:TGs}(h1:PG X e t)(h2:PGs X es u)
  (hs:(assignEach (e::es) X.env).map (·.2)=assign e X.env::(assignEach es X.env).map (·.2):=by rfl):PGs X (e::es) (gCons t u):=by
 intro pins s σ H vs us Q I r h
 obtain ⟨v,vr,e1,h⟩:=h
 subst e1
 cases r with
 | cons r rr =>
  rw[hs]
  refine assignInOrder_cons (thn (h1 pins s σ H _ _ _ I r h) fun _ s1 ⟨σ1,H1,I1,q1⟩=>?_)
  exact h2 pins s1 σ1 H1 _ _ Q I1 rr q1
inductive gTup(K:Frag)(n:Nat)(t:TGs)(v:V)(σ:St)(H:Hp)(Q:St→Hp→Prop):Prop
 | mk(a:Addr)(xs:List V)(h0:v=.ref a)(h1:SqT K H a xs)(h2:xs.length=n)(h3:t xs σ H Q):gTup K n t v σ H Q
theorem du{es:List Expr}{k:Nat}{t:TGs}{n:Nat}(hc:X.calm=true)(h:PGs X es t)
  (hn:(assignEach es X.env).length=n:=by rfl) (hst:(assignEach es X.env).findIdx? (·.1)=none:=by rfl):PG X (.Tuple es k pos) (gTup X.K n t):=by
 intro pins s σ H v u Q I r hw
 obtain ⟨a,xs,e1,hq,hl,hw⟩:=hw
 subst e1
 cases r
 obtain ⟨its,rv,ht,hz⟩:=I.tuple hq
 refine assign_Tuple_tuple (I.ok.hd hc) ht (by simp[hn,← hl,rv.length]) hst fun h' hx=>?_
 have I1:Inv X pins σ H { s with heap:=h' }:=I.kept (t':=s.toks) fun b o e=>hx b o (Nat.ne_of_lt (Heap.lt_size e)) e
 exact h pins _ σ H xs _ Q I1 (by simpa using rv) hw
def yU(to ti:TE)(t:wu):TG:=fun v σ H Q=>to σ H fun o H1=>ti σ H1 fun i H2=>t o i v H2 fun H3=>Q σ H3
theorem i5{o i:Expr}{to ti:TE}{t:wu}(ho:PE X o to)(hi:PE X i ti)(hs:xG X t)
  (ha:∀ v,assign (.Subscript o i pos) X.env v=(do
   let ov ← holding [v] (eval o X.env)
   let iv ← holding [v,ov] (eval i X.env)
   standAt pos
   holding [v,ov,iv] (setItem ov iv v)
   release [v,ov,iv] []):=by intro _; rfl):PG X (.Subscript o i pos) (yU to ti t):=by
 intro pins s σ H v u Q I r h
 rw[ha]
 refine wpAny_bind (wpAny_holding (thn (ho pins s σ H _ I h) fun ov s1 ⟨x,H1,I1,r1,q1⟩=>?_))
 refine wpAny_bind (wpAny_holding (thn (hi pins s1 σ H1 _ I1 q1) fun iv s2 ⟨y,H2,I2,r2,q2⟩=>?_))
 refine wpAny_bind (wpAny_standAt (wpAny_bind (wpAny_holding (thn (hs pins s2 σ H2 x y v ov iv u _ I2 r1 r2 r q2) fun _ s3 ⟨H3,I3,q3⟩=>?_))))
 exact wpAny_release ⟨σ,H3,I3,q3⟩
def vZ(te:TE)(g:TG):TS:=fun D σ H=>te σ H fun x H1=>g x σ H1 D.nx
theorem dQ{tg e:Expr}{te:TE}{g:TG}(he:PE X e te)(hg:PG X tg g)(hs:swapsWithSole [tg] e pos.line X.env=pure false:=by rfl)(hw:swappedStores [tg] e X.env=pure none:=by rfl)
  (h1:(assignEach [tg] X.env).map (·.2)=[assign tg X.env]:=by rfl):PS X (.Assign [tg] e pos) (vZ te g):=by
 intro pins s σ H D I h
 refine wpAny_Assign_stores (thn (he pins s σ H _ I h) fun v s1 ⟨x,H1,I1,r1,q1⟩=>?_) hs hw
 rw[h1]
 exact thn (hg pins s1 σ H1 x v _ I1 r1 q1) fun _ s2 q=>q
theorem av{i:Nat}{x:Str}{e:Expr}{te:TE}{pos':Pos}(hN:X.N.Nodup)(hi:X.N[i]? = some x)(hx:Loc X.env.scope x)(he:PE X e te)(hs:swapsWith e (some (.Name x pos')) pos.line X.env = pure false:=by rfl)(hf:X.fn x = true∨X.env.scope.names.lookup x = some .local:=by first | exact .inl rfl | exact .inr rfl | assumption) :
  PS X (.Assign [.Name x pos'] e pos) (vZ te (jP i)):=by
 intro pins s σ H D I h
 refine wpAny_Assign_Name (thn (he pins s σ H _ I h) fun v s1 ⟨y,H1,I1,r1,q1⟩=>?_) hs
 exact eM I1 hN hi hx r1 (fun s2 I2=>⟨_,H1,I2,q1⟩) hf
def yY(i j:Nat)(ta:TA):TS:=fun D σ H=>ta σ H fun vs H1=>∃ v w,vs=[v,w]∧D.nx ((σ.set i (some v)).set j (some w)) H1
theorem mL{i j:Nat}{x y:Str}{a b:Expr}{ta:TA}{px py pt:Pos}{kt k2 pt2}(hc:X.calm=true)(hN:X.N.Nodup)(hi:X.N[i]? = some x)(hj:X.N[j]? = some y)(hij:i≠j)
  (hx:X.env.scope.names.lookup x = some .local) (hy:X.env.scope.names.lookup y = some .local) (ha:PA X [a,b] ta)
  (hw:swappedStores [.Tuple [.Name x px,.Name y py] kt pt] (.Tuple [a,b] k2 pt2) X.env=pure (some [x,y]))
  (hs:swapsWithSole [.Tuple [.Name x px,.Name y py] kt pt] (.Tuple [a,b] k2 pt2) pos.line X.env=pure false:=by rfl) :
  PS X (.Assign [.Tuple [.Name x px,.Name y py] kt pt] (.Tuple [a,b] k2 pt2) pos) (yY i j ta):=by
 intro pins s σ H D I h
 rw[exec_Assign_arm]
 refine wpAny_bind (wpAny_standAt ?_)
 rw[hs]
 refine wpAny_bind (wpAny_pure ?_)
 rw[if_neg (by decide)]
 refine wpAny_bind (Tuple_ (thn (ha _ pins s σ H _ I h) fun us s1 ⟨vs,H1,I1,r1,q1⟩=>?_))
 obtain ⟨v,w,e1,q1⟩:=q1
 subst e1
 obtain ⟨u1,u2,rfl,rv,rw'⟩:∃ u1 u2,us=[u1,u2]∧RelV v u1∧RelV w u2:=by
  cases r1 with
  | cons p q =>
   cases q with
   | cons p' q' =>
    cases q'
    exact ⟨_,_,rfl,p,p'⟩
 refine wpAny_newObj_type ?_ (by show 2≤sizeLine; decide)
 have I2:Inv X pins σ H1 { s1 with heap:=s1.heap.push { cls:=.type "tuple",data:=.seq [u1,u2].toArray } }:=I1.kept (t':=s1.toks) fun b o e=>Heap.get?_push_of_some _ e
 rw[hw]
 refine wpAny_bind (wpAny_pure ?_)
 show wpAny (model X.prog X.w) X.A (do rule "assign.swapped-stores"; let items ← unpackItems (.ref s1.heap.objs.size) 2 none; assignInOrder [fun v=>bindName X.env y v,fun v=>bindName X.env x v] items.reverse; pure Flow.next) _ _ _
 refine wpAny_bind (wpAny_rule (wpAny_bind (unpackItems_tuple (items:=#[u1,u2]) (I.ok.hd hc) (IsTup.new s1.heap _) fun h' hx'=>?_)))
 have I3:=I2.kept (h':=h') (t':=s1.toks) fun b o e=>hx' b o (Nat.ne_of_lt (Heap.lt_size e)) e
 show wpAny _ _ (assignInOrder [fun v=>bindName X.env y v,fun v=>bindName X.env x v] [u2,u1] >>= fun _=>pure Flow.next) _ _ _
 refine wpAny_bind (assignInOrder_cons (wpAny_bindName (eM I3 hN hj (.inl hy) rw' (fun s2 I4=>?_) (.inr hy))))
 refine assignInOrder_cons (wpAny_bindName (eM I4 hN hi (.inl hx) rv (fun s3 I5=>assignInOrder_nil (wpAny_pure ?_)) (.inr hx)))
 rw[List.set_comm _ _ (Ne.symm hij)]at I5
 exact ⟨_,H1,I5,q1⟩
def zq(i:Nat)(te:TE)(ti:TIp):TS:=fun D σ H=>∃ x,σ[i]? = some (some x)∧te σ H fun y H1=>ti x y H1 fun z H2=>D.nx (σ.set i (some z)) H2
theorem mt{i:Nat}{x:Str}{e:Expr}{te:TE}{op:Operator}{ti:TIp}{pos':Pos}(hN:X.N.Nodup)(hi:X.N[i]? = some x)(hx:Loc X.env.scope x)(he:PE X e te)(ho:PIp X op ti)(hf:X.fn x = true∨X.env.scope.names.lookup x = some .local:=by first | exact .inl rfl | exact .inr rfl | assumption) :
  PS X (.AugAssign (.Name x pos') op e pos) (zq i te ti):=by
 intro pins s σ H D I h
 obtain ⟨v,e1,h⟩:=h
 obtain ⟨m,hn,hl⟩:=I.loc
 have vis:Vis X.env.scope x:=by rcases hx with k | k; exact .inl k; exact .inr (.inl k)
 obtain ⟨u,r,l⟩:=hl i x v hi e1 vis
 refine wpAny_AugAssign_Name ?_
 have go:wpAny (model X.prog X.w) X.A (eval e X.env) (fun w s₂=>wpAny (model X.prog X.w) X.A (inplaceOp op u w) (fun r s₃=>wpAny (model X.prog X.w) X.A (storeName X.env x r) (fun _=>SP X pins D .next) X.xe s₃) X.xe s₂) X.xe s:=by
  refine thn (he pins s σ H _ I h) fun w s1 ⟨y,H1,I1,r1,q1⟩=>?_
  refine thn (ho pins s1 σ H1 v y u w _ I1 r r1 q1) fun z s2 ⟨zv,H2,I2,r2,q2⟩=>?_
  exact eM I2 hN hi hx r2 (fun s3 I3=>⟨_,H2,I3,q2⟩) hf
 rcases l with ⟨hk,hm⟩ | ⟨hk,c,hc,hcell⟩
 ·exact wpAny_loadName_local I.ok.kind hk hn hm go
 ·rcases hk with hk | hk
  ·exact wpAny_loadName_cell I.ok.kind hk hc hcell go
  ·rcases hx with k | k
   ·have:X.env.scope.names.lookup x=some .free:=hk
    rw[k]at this; cases this
   ·have:X.env.scope.names.lookup x=some .free:=hk
    rw[k]at this; cases this
def ipI(f:Int→Int→Int):TIp:=fun x y H Q=>∃ i j,x=.int i∧y=.int j∧Q (.int (f i j)) H
theorem r9:PIp X .Add (ipI fun i j=>i+j):=by
 intro pins s σ H x y v u Q I r1 r2 h
 obtain ⟨i,j,e1,e2,q⟩:=h
 subst e1; subst e2
 obtain ⟨t,rfl⟩:=r1
 obtain ⟨t',rfl⟩:=r2
 exact iadd_int ⟨.int _,H,I.tok _,⟨_,rfl⟩,q⟩
theorem xm:PIp X .Sub (ipI fun i j=>i - j):=by
 intro pins s σ H x y v u Q I r1 r2 h
 obtain ⟨i,j,e1,e2,q⟩:=h
 subst e1; subst e2
 obtain ⟨t,rfl⟩:=r1
 obtain ⟨t',rfl⟩:=r2
 exact isub_int ⟨.int _,H,I.tok _,⟨_,rfl⟩,q⟩
end
section
variable {X:Cx}{pos:Pos}
def v9(c:TT)(tb:TS):TS:=fun D σ H=>∃ W:Nat→St→Hp→Prop,(∃ m,W m σ H)∧∀ m σ H,W m σ H →
 c σ H fun b H1=>if b=true then ∃ N:St→Hp→Prop,(∀ σ' H',N σ' H'→∃ m',m'<m∧W m' σ' H')∧tb { D with nx:=N,ct:=N,bk:=D.nx } σ H1 else D.nx σ H1
theorem eO{c:Expr}{body:List Stmt}{tc:TT}{tb:TS}(hp:PassesOwn (model X.prog X.w) X.A X.env X.xe)(hc:PT X c tc)(hb:PSs X body tb):PS X (.While c body [] pos) (v9 tc tb):=by
 intro pins s σ H D I h
 obtain ⟨W,⟨m0,w0⟩,turn⟩:=h
 refine wpAny_While (codeAny_whileLoop (fun n s'=>∃ σ' H',Inv X pins σ' H' s'∧W n σ' H') ?_ m0 ⟨σ,H,I,w0⟩)
 rintro n s1 ⟨σ1,H1,I1,w1⟩
 refine wpAny_passesOwn hp (thn (hc pins s1 σ1 H1 _ I1 (turn n σ1 H1 w1)) fun b s2 ⟨H2,I2,q2⟩=>?_)
 cases b with
 | true =>
  obtain ⟨N,hN,q2⟩:=q2
  rw[if_pos rfl]
  refine wpAny_passesOwn hp (thn (hb pins s2 σ1 H2 _ I2 q2) fun f s3 q3=>?_)
  cases f with
  | next =>
   obtain ⟨σ3,H3,I3,n3⟩:=q3
   obtain ⟨m',hm,w3⟩:=hN σ3 H3 n3
   exact ⟨m',hm,σ3,H3,I3,w3⟩
  | cont =>
   obtain ⟨σ3,H3,I3,n3⟩:=q3
   obtain ⟨m',hm,w3⟩:=hN σ3 H3 n3
   exact ⟨m',hm,σ3,H3,I3,w3⟩
  | brk=>exact q3
  | ret v=>exact q3
 | false =>
  rw[if_neg Bool.false_ne_true]
  exact wpAny_execs_nil ⟨σ1,H2,I2,q2⟩
end
structure It where
 go:Nat→Hp→Prop
 yld:Nat→Hp→V→Hp→Prop
 stop:Nat→Hp→Prop
def FpOk(X:Cx)(pins:List (Addr×Obj))(H:Hp)(b:Addr):Prop :=
 H b = none∧b≠X.env.locals∧b ∉ X.fs∧(b ∈ X.ex∨X.s₀.heap.objs.size≤b)∧(∀ x c,X.env.cells.lookup x = some c→c≠b)∧∀ p ∈ X.pn ++ pins,p.1≠b
theorem Inv.fpOk{X:Cx}{pins:List (Addr×Obj)}{σ:St}{H H':Hp}{s:Shared}{b:Addr}(I:Inv X pins σ H s)(hb:s.heap.objs.size≤b)(hn:H' b=none):FpOk X pins H' b:=by
 refine ⟨hn,Nat.ne_of_gt (Nat.lt_of_lt_of_le I.lt hb),I.nofs hb,.inr (Nat.le_trans I.sz hb),fun x c e z=>?_,fun p hp z=>?_⟩
 ·obtain ⟨v,q⟩:=I.cell x c e
  exact absurd (Nat.lt_of_lt_of_le q.lt (by rw[z]; exact hb)) (Nat.lt_irrefl _)
 ·exact absurd (Nat.lt_of_lt_of_le (Heap.lt_size (I.pin p hp).1) (by rw[z]; exact hb)) (Nat.lt_irrefl _)
structure Turn(P:Program)(w:World)(K:Frag)(tg:Expr)(J:It)(fp:List Addr)(it:Addr)(tn:Nat→Heap→Prop):Prop where
 mem:it∈fp
 obj:∀ i h,tn i h→∀ b∈fp,∃ o,h.get? b=some o∧∀ v,o.data≠.cell v
 keep:∀ i h h',tn i h→(∀ b∈fp,∀ o,h.get? b=some o→h'.get? b=some o)→tn i h'
 item:∀(X:Cx),X.prog=P→X.w=w→X.K=K→X.calm=true→∀(i:Nat) (pins:List (Addr×Obj)) (s:Shared) (σ:St) (H:Hp) (E:Value→Shared→Prop),Inv X pins σ H s→(∀ b∈fp,FpOk X pins H b)→tn i s.heap→J.go i H →
  wpAny (model P w) X.A (pyNext (.ref it)) (fun r s1=>∃ u,r=some u ∧
   wpAny (model P w) X.A (letOwnedTupleGo tg (.ref it) u) (fun _ s2=>∃ x H',Inv X pins σ H' s2∧RelV x u∧J.yld i H x H'∧tn (i+1) s2.heap∧∀ b∈fp,H' b=none) E s1) E s
 done:∀(X:Cx),X.prog=P→X.w=w→X.K=K→X.calm=true→∀(i:Nat) (pins:List (Addr×Obj)) (s:Shared) (σ:St) (H:Hp) (E:Value→Shared→Prop),Inv X pins σ H s→(∀ b∈fp,FpOk X pins H b)→tn i s.heap→J.stop i H →
  wpAny (model P w) X.A (pyNext (.ref it)) (fun r s1=>r=none∧Inv X pins σ H s1) E s
 self:∀(A:Around) (i:Nat) (s:Shared) (Q:Value→Shared→Prop) (E:Value→Shared→Prop),tn i s.heap→Q (.ref it) s→wpAny (model P w) A (pyIter (.ref it)) Q E s
abbrev TI:=St→Hp→(It→Hp→Prop)→Prop
def PIE(X:Cx)(pins:List (Addr×Obj))(σ:St)(tg:Expr)(R:It→Hp→Prop)(itv:Value)(s2:Shared):Prop :=
 ∃(it:Addr) (fp:List Addr) (tn:Nat→Heap→Prop) (J:It) (H':Hp),itv=.ref it∧Inv X pins σ H' s2∧Turn X.prog X.w X.K tg J fp it tn∧tn 0 s2.heap∧(∀ b∈fp,FpOk X pins H' b)∧R J H'
def PI(X:Cx)(tg iter:Expr)(wi:TI):Prop :=
 ∀(pins:List (Addr×Obj)) (s:Shared) (σ:St) (H:Hp) (R:It→Hp→Prop),Inv X pins σ H s→wi σ H R →
  wpAny (model X.prog X.w) X.A (eval iter X.env) (fun v s1=>wpAny (model X.prog X.w) X.A (pyIter v) (PIE X pins σ tg R) X.xe s1) X.xe s
theorem lq{M:Model}{A:Around}{E:Value→Shared→Prop}{s:Shared}{tg:Expr}{it:Addr}{u:Value}{o:Obj}{n:String}{vs:Array Value}{Q:Unit→Shared→Prop}(ho:s.heap.get? it=some o)(hc:o.cls=.type n)(hd:o.data=.fields vs)
  (hn:["enumerate","zip","dict_itemiterator","dict_reverseitemiterator","odict_iterator","itertools.zip_longest","itertools.pairwise"].contains n=false) (hQ:Q () s):wpAny M A (letOwnedTupleGo tg (.ref it) u) Q E s:=by
 unfold letOwnedTupleGo
 cases tg <;> first
  | exact wpAny_pure hQ
  | (cases u <;> first
    | exact wpAny_pure hQ
    | (refine wpAny_bind (wpAny_load ho ?_)
       rw[hc,hd]
       show wpAny M A (if (["enumerate","zip","dict_itemiterator","dict_reverseitemiterator","odict_iterator","itertools.zip_longest","itertools.pairwise"].contains n && vs[0]? == some (rawInt _))=true then _ else _) Q E s
       rw[if_neg (by intro h; rw[hn,Bool.false_and]at h; cases h)]
       exact wpAny_pure hQ))
def Itl(K:Frag)(a:Addr):It :=
 ⟨fun i H=>∃ xs x,SqL K H a xs∧xs[i]? = some x,fun i H x H'=>H'=H∧∀ xs,SqL K H a xs→xs[i]? = some x,fun i H=>∃ xs,SqL K H a xs∧xs.length≤i⟩
def Itt(K:Frag)(a:Addr):It :=
 ⟨fun i H=>∃ xs x,SqT K H a xs∧xs[i]? = some x,fun i H x H'=>H'=H∧∀ xs,SqT K H a xs→xs[i]? = some x,fun i H=>∃ xs,SqT K H a xs∧xs.length≤i⟩
def Itr(lo:Int)(n:Nat):It:=⟨fun i _=>i<n,fun i H x H'=>H'=H∧x=.int (lo+i),fun i _=>n≤i⟩
theorem oS{P:Program}{w:World}{K:Frag}{tg:Expr}(a it:Addr):Turn P w K tg (Itl K a) [it] it (fun i h=>h.IsListIter it a i) where
 mem:=by simp
 obj:=fun i h st b hb=>by
  have e:b=it:=by simpa using hb
  subst e
  obtain ⟨o,e,c,d⟩:=st
  exact ⟨o,e,fun v z=>by rw[d]at z; cases z⟩
 keep:=fun i h h' st k=>st.at fun o e=>k it (by simp) o e
 item:=by
  intro X hP hw hK hc i pins s σ H E I hf st hg
  subst hP hw hK
  obtain ⟨xs,x,hq,hx⟩:=hg
  obtain ⟨its,rv,p,hz⟩:=I.list hq
  obtain ⟨u,hu,ru⟩:=rv.get hx
  obtain ⟨f0,f1,f2,f3,f4,f5⟩:=hf it (by simp)
  refine wpAny_pyNext_list_item st p.isList (x:=u) (by simpa using hu) fun h' st' sb=>?_
  have I1:Inv X pins σ H { s with heap:=h' }:=I.turned (t':=s.toks) (fun b o hb e=>(sb.2 b hb).trans e) f0 f1 f3 f4 f5
  obtain ⟨o,e,c,d⟩:=id st'
  exact ⟨u,rfl,lq (s:={ s with heap:=h' }) e c d (by decide) ⟨x,H,I1,ru,⟨rfl,fun ys hy=>by rw[I.list_inj hy hq]; exact hx⟩,st',fun b hb=>(hf b hb).1⟩⟩
 done:=by
  intro X hP hw hK hc i pins s σ H E I hf st hg
  subst hP hw hK
  obtain ⟨xs,hq,hx⟩:=hg
  obtain ⟨its,rv,p,hz⟩:=I.list hq
  obtain ⟨f0,f1,f2,f3,f4,f5⟩:=hf it (by simp)
  have hl:=rv.length
  exact wpAny_pyNext_list_end (I.ok.hd hc) st p.isList (by simp; lia) fun h' eb=>⟨rfl,I.turned (t':=s.toks) (fun b o hb e=>eb b o hb e) f0 f1 f3 f4 f5⟩
 self:=fun _ _ _ _ _ st h=>wpAny_pyIter_listiter st h
theorem mF{P:Program}{w:World}{K:Frag}{tg:Expr}(a it:Addr):Turn P w K tg (Itt K a) [it] it (fun i h=>h.IsTupleIter it a i) where
 mem:=by simp
 obj:=fun i h st b hb=>by
  have e:b=it:=by simpa using hb
  subst e
  obtain ⟨o,e,c,d⟩:=st
  exact ⟨o,e,fun v z=>by rw[d]at z; cases z⟩
 keep:=fun i h h' st k=>st.at fun o e=>k it (by simp) o e
 item:=by
  intro X hP hw hK hc i pins s σ H E I hf st hg
  subst hP hw hK
  obtain ⟨xs,x,hq,hx⟩:=hg
  obtain ⟨its,rv,p,hz⟩:=I.tuple hq
  obtain ⟨u,hu,ru⟩:=rv.get hx
  obtain ⟨f0,f1,f2,f3,f4,f5⟩:=hf it (by simp)
  refine wpAny_pyNext_tuple_item st (show s.heap.IsTuple a its.toArray from p) (x:=u) (by simpa using hu) fun h' st' sb=>?_
  have I1:Inv X pins σ H { s with heap:=h' }:=I.turned (t':=s.toks) (fun b o hb e=>(sb.2 b hb).trans e) f0 f1 f3 f4 f5
  obtain ⟨o,e,c,d⟩:=id st'
  exact ⟨u,rfl,lq (s:={ s with heap:=h' }) e c d (by decide) ⟨x,H,I1,ru,⟨rfl,fun ys hy=>by rw[I.tuple_inj hy hq]; exact hx⟩,st',fun b hb=>(hf b hb).1⟩⟩
 done:=by
  intro X hP hw hK hc i pins s σ H E I hf st hg
  subst hP hw hK
  obtain ⟨xs,hq,hx⟩:=hg
  obtain ⟨its,rv,p,hz⟩:=I.tuple hq
  obtain ⟨f0,f1,f2,f3,f4,f5⟩:=hf it (by simp)
  have hl:=rv.length
  exact wpAny_pyNext_tuple_end (I.ok.hd hc) st (show s.heap.IsTuple a its.toArray from p) (by simp; lia) fun h' eb=>⟨rfl,I.turned (t':=s.toks) (fun b o hb e=>eb b o hb e) f0 f1 f3 f4 f5⟩
 self:=fun _ _ _ _ _ st h=>wpAny_pyIter_tupleiter st h
theorem mi{P:Program}{w:World}{K:Frag}{tg:Expr}(it:Addr)(lo:Int)(n:Nat):Turn P w K tg (Itr lo n) [it] it (fun i h=>IsRangeIter h it (lo+(i:Nat)*1) ((n:Int) - (i:Nat)) 1) where
 mem:=by simp
 obj:=fun i h st b hb=>by
  have e:b=it:=by simpa using hb
  subst e
  exact ⟨_,st,fun v z=>by
   have z':Data.fields _=Data.cell v:=z
   cases z'⟩
 keep:=fun i h h' st k=>k it (by simp) _ st
 item:=by
  intro X hP hw hK hc i pins s σ H E I hf st hg
  subst hP hw hK
  obtain ⟨f0,f1,f2,f3,f4,f5⟩:=hf it (by simp)
  have W:=Walks.range (prog:=X.prog) (w:=X.w) (I.ok.hd hc) it lo 1 n
  refine W.item i s _ _ hg st fun v h' tk hv st' kk=>?_
  obtain ⟨t,rfl⟩:=hv
  have I1:Inv X pins σ H { s with heap:=h',toks:=tk }:=I.turned (fun b o hb e=>kk b o (by simpa using hb) e) f0 f1 f3 f4 f5
  refine ⟨_,rfl,lq (s:={ s with heap:=h',toks:=tk }) (n := "range_iterator") st' rfl rfl (by decide) ⟨.int (lo+i),H,I1,⟨t,?_⟩,⟨rfl,rfl⟩,st',fun b hb=>(hf b hb).1⟩⟩
  rw[Int.mul_one]
 done:=by
  intro X hP hw hK hc i pins s σ H E I hf st hg
  subst hP hw hK
  obtain ⟨f0,f1,f2,f3,f4,f5⟩:=hf it (by simp)
  exact wpAny_pyNext_range_end (I.ok.hd hc) st (by have:n≤i:=hg; lia) fun h' eb=>⟨rfl,I.turned (t':=s.toks) (fun b o hb e=>eb b o hb e) f0 f1 f3 f4 f5⟩
 self:=fun _ _ _ _ _ st h=>wpAny_pyIter_rangeiter st h
section
variable {X:Cx}{tg:Expr}
theorem sk{pins:List (Addr×Obj)}{σ:St}{H:Hp}{s:Shared}{R:It→Hp→Prop}{E:Value→Shared→Prop}{lo hi:Int}{t u v:Tok}{tk:Nat}(I:Inv X pins σ H s)(h1:-(2 ^ 62)≤lo)(h2:lo<2 ^ 62)(h3:-(2 ^ 62)≤hi)(h4:hi<2 ^ 62)
  (q:R (Itr lo (hi - lo).toNat) H):wpAny (model X.prog X.w) X.A (pyIter (.ref s.heap.objs.size)) (PIE X pins σ tg R) E { s with heap:=s.heap.push { cls:=.type "range",data:=.fields #[.int lo t,.int hi u,.int 1 v] },toks:=tk }:=by
 refine wpAny_pyIter_range (IsRange.new ..) (small_one h1 h2 h3 h4) ?_
 have I1:Inv X pins σ H { s with heap:=s.heap.push { cls:=.type "range",data:=.fields #[.int lo t,.int hi u,.int 1 v] },toks:=tk }:=I.kept fun b o e=>Heap.get?_push_of_some _ e
 refine ⟨(s.heap.push { cls:=.type "range",data:=.fields #[.int lo t,.int hi u,.int 1 v] }).objs.size,[(s.heap.push { cls:=.type "range",data:=.fields #[.int lo t,.int hi u,.int 1 v] }).objs.size],_,_,H,rfl,
  I1.kept (t':=tk) fun b o e=>Heap.get?_push_of_some _ e,mi _ lo (hi - lo).toNat,?_,fun b hb=>?_,q⟩
 ·have e1:lo+((0:Nat):Int)*1=lo:=by simp
  have e2:(((hi - lo).toNat:Nat):Int) - ((0:Nat):Int)=Builtin.Range.rangeSize lo hi 1:=by rw[rangeSize_one]; split <;> lia
  show IsRangeIter _ _ (lo+((0:Nat):Int)*1) ((((hi - lo).toNat:Nat):Int) - ((0:Nat):Int)) 1
  rw[e1,e2]
  exact Heap.get?_push_size _ rfl
 ·have e:b=(s.heap.push { cls:=.type "range",data:=.fields #[.int lo t,.int hi u,.int 1 v] }).objs.size:=by simpa using hb
  subst e
  exact I1.fpOk (Nat.le_refl _) (I1.hok.fresh (Nat.le_refl _))
def vV(ta:TA):TI:=fun σ H R=>ta σ H fun vs H1=>∃ j:Int,vs=[.int j]∧-(2 ^ 62)≤j∧j<2 ^ 62∧R (Itr 0 j.toNat) H1
theorem cA{a:Expr}{ta:TA}{p pos:Pos}(hg:Gl X "range")(hm:X.mg "range" = none)(ha:PA X [a] ta)(hs:starEach [a] X.env=[(false,eval a X.env)]:=by rfl):PI X tg (.Call (.Name "range" p) [a] [] pos) (vV ta):=by
 intro pins s σ H R I h
 refine Call_ (fB I hg hm boot_range (PyProof.Rows.callWith_type1 (thn (ha pos pins s σ H _ I h) fun us s1 ⟨vs,H1,I1,r1,q1⟩=>?_) hs rfl))
 obtain ⟨j,e,q1,q2,q⟩:=q1
 subst e
 cases r1 with
 | cons r rr =>
  cases rr
  obtain ⟨t,rfl⟩:=r
  exact call_range_1 (sk I1 (by lia) (by lia) q1 q2 (by simpa using q))
def zy(wi:TI)(g:TG)(tb:TS):TS:=fun D σ H=>wi σ H fun J H1=>∃ W:Nat→Nat→St→Hp→Prop,(∃ m,W 0 m σ H1)∧∀ i m σ H,W i m σ H →
 (J.stop i H∧D.nx σ H)∨(J.go i H∧∃ N:St→Hp→Prop,(∀ σ' H',N σ' H'→∃ m',m'<m∧W (i+1) m' σ' H')∧∀ x H',J.yld i H x H'→g x σ H' fun σ2 H2=>tb { D with nx:=N,ct:=N,bk:=D.nx } σ2 H2)
def iT(fp:List Addr)(h:Heap):List (Addr×Obj):=fp.filterMap fun b=>(h.get? b).map fun o=>(b,o)
theorem eX{fp:List Addr}{h:Heap}{b:Addr}{o:Obj}(hb:b∈fp)(e:h.get? b=some o):(b,o)∈iT fp h:=List.mem_filterMap.mpr ⟨b,hb,by rw[e]; rfl⟩
theorem pP{fp:List Addr}{h:Heap}{p:Addr×Obj}(hp:p∈iT fp h):p.1∈fp∧h.get? p.1=some p.2:=by
 obtain ⟨b,hb,e⟩:=List.mem_filterMap.mp hp
 cases q:h.get? b with
 | none=>rw[q]at e; cases e
 | some o =>
  rw[q]at e
  have e':(b,o)=p:=Option.some.inj e
  subst e'
  exact ⟨hb,q⟩
theorem Inv.pinned{pins:List (Addr×Obj)}{σ:St}{H:Hp}{s:Shared}{fp:List Addr}(I:Inv X pins σ H s)(hf:∀ b∈fp,FpOk X pins H b)(ho:∀ b∈fp,∃ o,s.heap.get? b=some o∧∀ v,o.data≠.cell v):Inv X (pins++iT fp s.heap) σ H s :=
 I.pins_of fun p hp=>(mem_append.mp hp).elim (fun z=>I.pin p (mem_append_right _ z)) fun z=>by
  obtain ⟨hb,e⟩:=pP z
  obtain ⟨f0,f1,f2,_⟩:=hf p.1 hb
  obtain ⟨o,e',d⟩:=ho p.1 hb
  rw[e]at e'; cases e'
  exact ⟨e,f0,f1,f2,d⟩
theorem Inv.unpinned{pins pl:List (Addr×Obj)}{σ:St}{H:Hp}{s:Shared}(I:Inv X (pins++pl) σ H s):Inv X pins σ H s:=I.pins_of fun p hp=>I.pin p (mem_append_right _ (mem_append_left _ hp))
theorem ei{iter:Expr}{body:List Stmt}{wi:TI}{g:TG}{tb:TS}{pos:Pos}(hp:PassesOwn (model X.prog X.w) X.A X.env X.xe)(hc:X.calm=true)(hi:PI X tg iter wi)(hg:PG X tg g)(hb:PSs X body tb)
  (hs:∀ x,foldedSetIterable iter X.env x=pure x:=by intro _; rfl):PS X (.For tg iter body [] pos) (zy wi g tb):=by
 intro pins s σ H D I h
 refine wpAny_For (thn (hi pins s σ H _ I h) fun v s1 h1=>thn h1 fun itv s2 h2=>?_) hs
 obtain ⟨it,fp,tn,J,H2,e,I2,T,st2,f2,W,⟨m0,w0⟩,turn⟩:=h2
 subst e
 -- what stays true of the iterator's objects through the loop
 have stat:∀{H':Hp},(∀ b∈fp,H' b=none)→∀ b∈fp,FpOk X pins H' b:=fun hn b hb=>⟨hn b hb,(f2 b hb).2⟩
 refine codeAny_forLoop_any (fun n s'=>∃ i σ' H',Inv X pins σ' H' s'∧tn i s'.heap∧(∀ b∈fp,H' b=none)∧W i n σ' H') ?_ m0 ⟨0,σ,H2,I2,st2,fun b hb=>(f2 b hb).1,w0⟩
 rintro n s3 ⟨i,σ3,H3,I3,st3,fr3,w3⟩
 rcases turn i n σ3 H3 w3 with ⟨stop,qn⟩ | ⟨go,N,hN,step⟩
 ·refine wpAny_passesOwn hp (thn (T.done X rfl rfl rfl hc i pins s3 σ3 H3 X.xe I3 (stat fr3) st3 stop) fun r s4 ⟨hr,I4⟩=>?_)
  subst hr
  exact wpAny_execs_nil ⟨σ3,H3,I4,qn⟩
 ·refine wpAny_passesOwn hp (thn (T.item X rfl rfl rfl hc i pins s3 σ3 H3 X.xe I3 (stat fr3) st3 go) fun r s4 ⟨u,hr,h4⟩=>?_)
  subst hr
  refine wpAny_passesOwn hp (thn h4 fun _ s5 ⟨x,H5,I5,r5,y5,st5,fr5⟩=>?_)
  have I5':=I5.pinned (stat fr5) (T.obj _ _ st5)
  refine wpAny_passesOwn hp (thn (hg _ s5 σ3 H5 x u _ I5' r5 (step x H5 y5)) fun _ s6 ⟨σ6,H6,I6,q6⟩=>?_)
  refine wpAny_passesOwn hp (thn (hb _ s6 σ6 H6 _ I6 q6) fun f s7 q7=>?_)
  have again:∀{σ7:St}{H7:Hp},Inv X (pins++iT fp s5.heap) σ7 H7 s7→N σ7 H7→∃ m,m<n∧∃ i σ' H',Inv X pins σ' H' s7∧tn i s7.heap∧(∀ b∈fp,H' b=none)∧W i m σ' H':=fun {σ7 H7} I7 n7=>by
   obtain ⟨m',hm,w7⟩:=hN σ7 H7 n7
   refine ⟨m',hm,i+1,σ7,H7,I7.unpinned,T.keep _ _ _ st5 fun b hb o e=>(I7.pin (b,o) (mem_append_right _ (mem_append_right _ (eX hb e)))).1,fun b hb=>?_,w7⟩
   obtain ⟨o,e,d⟩:=T.obj _ _ st5 b hb
   exact (I7.pin (b,o) (mem_append_right _ (mem_append_right _ (eX hb e)))).2.1
  cases f with
  | next=>obtain ⟨σ7,H7,I7,n7⟩:=q7; exact again I7 n7
  | cont=>obtain ⟨σ7,H7,I7,n7⟩:=q7; exact again I7 n7
  | brk=>obtain ⟨σ7,H7,I7,q7⟩:=q7; exact ⟨σ7,H7,I7.unpinned,q7⟩
  | ret v=>obtain ⟨x7,σ7,H7,I7,r7,q7⟩:=q7; exact ⟨x7,σ7,H7,I7.unpinned,r7,q7⟩
end
theorem d6{K:Frag}{a:Addr}{xs:List V}{g:TG}{tb:TS}{D:Ends}{σ:St}{H:Hp}(Pv:Nat→St→Hp→Prop)(h0:Pv 0 σ H)(hl:∀ i σ H,i≤xs.length→Pv i σ H→SqL K H a xs)
  (hs:∀ i x σ H,xs[i]? = some x→Pv i σ H→g x σ H fun σ2 H2=>tb { D with nx:=Pv (i+1),ct:=Pv (i+1),bk:=D.nx } σ2 H2) (hd:∀ σ H,Pv xs.length σ H→D.nx σ H) :
  ∃ W:Nat→Nat→St→Hp→Prop,(∃ m,W 0 m σ H)∧∀ i m σ H,W i m σ H →
   ((Itl K a).stop i H∧D.nx σ H)∨((Itl K a).go i H∧∃ N:St→Hp→Prop,(∀ σ' H',N σ' H'→∃ m',m'<m∧W (i+1) m' σ' H')∧∀ x H',(Itl K a).yld i H x H'→g x σ H' fun σ2 H2=>tb { D with nx:=N,ct:=N,bk:=D.nx } σ2 H2):=by
 refine ⟨fun i m σ H=>m=xs.length - i∧i≤xs.length∧Pv i σ H,⟨xs.length,by simp,Nat.zero_le _,h0⟩,?_⟩
 rintro i m σ H ⟨rfl,hi,p⟩
 have q:=hl i σ H hi p
 by_cases hlt:i<xs.length
 ·refine .inr ⟨⟨xs,xs[i],q,by simp[hlt]⟩,Pv (i+1),fun σ' H' p'=>⟨xs.length - (i+1),by lia,rfl,hlt,p'⟩,fun x H' y=>?_⟩
  obtain ⟨e,y⟩:=y
  subst e
  exact hs i x σ _ (y xs q) p
 ·have e:i=xs.length:=by lia
  subst e
  exact .inl ⟨⟨xs,q,Nat.le_refl _⟩,hd σ H p⟩
theorem jA{lo:Int}{n:Nat}{g:TG}{tb:TS}{D:Ends}{σ:St}{H:Hp}(Pv:Nat→St→Hp→Prop)(h0:Pv 0 σ H)
  (hs:∀ i σ H,i<n→Pv i σ H→g (.int (lo+i)) σ H fun σ2 H2=>tb { D with nx:=Pv (i+1),ct:=Pv (i+1),bk:=D.nx } σ2 H2) (hd:∀ σ H,Pv n σ H→D.nx σ H) :
  ∃ W:Nat→Nat→St→Hp→Prop,(∃ m,W 0 m σ H)∧∀ i m σ H,W i m σ H →
   ((Itr lo n).stop i H∧D.nx σ H)∨((Itr lo n).go i H∧∃ N:St→Hp→Prop,(∀ σ' H',N σ' H'→∃ m',m'<m∧W (i+1) m' σ' H')∧∀ x H',(Itr lo n).yld i H x H'→g x σ H' fun σ2 H2=>tb { D with nx:=N,ct:=N,bk:=D.nx } σ2 H2):=by
 refine ⟨fun i m σ H=>m=n - i∧i≤n∧Pv i σ H,⟨n,by simp,Nat.zero_le _,h0⟩,?_⟩
 rintro i m σ H ⟨rfl,hi,p⟩
 by_cases hlt:i<n
 ·refine .inr ⟨hlt,Pv (i+1),fun σ' H' p'=>⟨n - (i+1),by lia,rfl,hlt,p'⟩,fun x H' y=>?_⟩
  obtain ⟨e,y⟩:=y
  subst e y
  exact hs i σ _ hlt p
 ·have e:i=n:=by lia
  subst e
  exact .inl ⟨Nat.le_refl _,hd σ H p⟩
abbrev R2:=V→V→Hp→VK→Prop
def OpR(X:Cx)(f:Value→Value→Sem Value)(r:R2):Prop :=
 ∀(pins:List (Addr×Obj)) (s:Shared) (σ:St) (H:Hp) (x y:V) (v u:Value) (Q:VK),Inv X pins σ H s→RelV x v→RelV y u→r x y H Q →
  wpAny (model X.prog X.w) X.A (f v u) (EP X pins σ Q) X.xe s
def UnR(X:Cx)(f:Value→Sem Value)(r:V→Hp→VK→Prop):Prop :=
 ∀(pins:List (Addr×Obj)) (s:Shared) (σ:St) (H:Hp) (x:V) (v:Value) (Q:VK),Inv X pins σ H s→RelV x v→r x H Q →
  wpAny (model X.prog X.w) X.A (f v) (EP X pins σ Q) X.xe s
def CallR(X:Cx)(f:Value)(r:List V→Hp→VK→Prop):Prop :=
 ∀(pins:List (Addr×Obj)) (s:Shared) (σ:St) (H:Hp) (xs:List V) (us:List Value) (Q:VK),Inv X pins σ H s→Vals xs us→r xs H Q →
  wpAny (model X.prog X.w) X.A (call f us) (EP X pins σ Q) X.xe s
def yW(X:Cx)(r:V→Hp→(Bool→Hp→Prop)→Prop):Prop :=
 ∀(pins:List (Addr×Obj)) (s:Shared) (σ:St) (H:Hp) (x:V) (v:Value) (Q:Bool→Hp→Prop),Inv X pins σ H s→RelV x v→r x H Q →
  wpAny (model X.prog X.w) X.A (truthy v) (TP X pins σ Q) X.xe s
def tOp(r:R2)(ta tb:TE):TE:=fun σ H Q=>ta σ H fun x H1=>tb σ H1 fun y H2=>r x y H2 Q
def tUn(r:V→Hp→VK→Prop)(ta:TE):TE:=fun σ H Q=>ta σ H fun x H1=>r x H1 Q
def rI(C:Int→Int→Prop)(g:Int→Int→V):R2:=fun x y H Q=>∃ i j,x=.int i∧y=.int j∧C i j∧Q (g i j) H
def rI0(g:Int→Int→V):R2:=fun x y H Q=>∃ i j,x=.int i∧y=.int j∧Q (g i j) H
def rU(g:Int→V):V→Hp→VK→Prop:=fun x H Q=>∃ i,x=.int i∧Q (g i) H
section
variable {X:Cx}{a b c:Expr}{ta tb tc:TE}{pos:Pos}
theorem wU(ha:PE X a ta)(hb:PE X b tb){pins:List (Addr×Obj)}{s:Shared}{σ:St}{H:Hp}{R:V→V→Hp→Prop}(I:Inv X pins σ H s)
  (h:ta σ H fun x H1=>tb σ H1 fun y H2=>R x y H2){Q:Value→Shared→Prop}{f:Value→Value→Sem Value}
  (hf:∀ v u s2 x y H2,Inv X pins σ H2 s2→RelV x v→RelV y u→R x y H2→wpAny (model X.prog X.w) X.A (f v u) Q X.xe s2) :
  wpAny (model X.prog X.w) X.A (eval a X.env) (fun v s₁=>wpAny (model X.prog X.w) X.A (eval b X.env) (fun u s₂=>wpAny (model X.prog X.w) X.A (f v u) Q X.xe s₂) X.xe s₁) X.xe s:=by
 refine thn (ha pins s σ H _ I h) fun v s1 ⟨x,H1,I1,r1,q1⟩=>?_
 refine thn (hb pins s1 σ H1 _ I1 q1) fun u s2 ⟨y,H2,I2,r2,q2⟩=>?_
 exact hf v u s2 x y H2 I2 r1 r2 q2
theorem au{op:Operator}{r:R2}(ho:OpR X (binaryOp op) r)(ha:PE X a ta)(hb:PE X b tb):PE X (.BinOp a op b pos) (tOp r ta tb):=by
 intro pins s σ H Q I h
 exact wpAny_BinOp (wU ha hb I h fun v u s2 x y H2 I2 rx ry q=>ho pins s2 σ H2 x y v u Q I2 rx ry q)
theorem qJ{op:UnaryOp}{r:V→Hp→VK→Prop}(ho:UnR X (unaryOp op) r)(ha:PE X a ta):PE X (.UnaryOp op a pos) (tUn r ta):=by
 intro pins s σ H Q I h
 exact UnaryOp_ (thn (ha pins s σ H _ I h) fun v s1 ⟨x,H1,I1,r1,q1⟩=>ho pins s1 σ H1 x v Q I1 r1 q1)
theorem opI{f:Value→Value→Sem Value}{C:Int→Int→Prop}{g:Int→Int→Int}
  (rule:∀(i j:Int) (t u:Tok) (s:Shared) (Q:Value→Shared→Prop) (E:Value→Shared→Prop),C i j→Q (.int (g i j) s.toks) { s with toks:=s.toks+1 }→wpAny (model X.prog X.w) X.A (f (.int i t) (.int j u)) Q E s) :
  OpR X f (rI C fun i j=>.int (g i j)):=by
 intro pins s σ H x y v u Q I rx ry h
 obtain ⟨i,j,rfl,rfl,hc,q⟩:=h
 obtain ⟨t,rfl⟩:=rx
 obtain ⟨t',rfl⟩:=ry
 exact rule i j t t' s _ _ hc ⟨.int (g i j),H,I.tok _,⟨_,rfl⟩,q⟩
theorem ye{f:Value→Value→Sem Value}{g:Int→Int→Int}
  (rule:∀(i j:Int) (t u:Tok) (s:Shared) (Q:Value→Shared→Prop) (E:Value→Shared→Prop),Q (.int (g i j) s.toks) { s with toks:=s.toks+1 }→wpAny (model X.prog X.w) X.A (f (.int i t) (.int j u)) Q E s) :
  OpR X f (rI0 fun i j=>.int (g i j)):=by
 intro pins s σ H x y v u Q I rx ry h
 obtain ⟨i,j,rfl,rfl,q⟩:=h
 obtain ⟨t,rfl⟩:=rx
 obtain ⟨t',rfl⟩:=ry
 exact rule i j t t' s _ _ ⟨.int (g i j),H,I.tok _,⟨_,rfl⟩,q⟩
theorem tT{f:Value→Value→Sem Value}{g:Int→Int→Bool}
  (rule:∀(i j:Int) (t u:Tok) (s:Shared) (Q:Value→Shared→Prop) (E:Value→Shared→Prop),Q (.bool (g i j)) s→wpAny (model X.prog X.w) X.A (f (.int i t) (.int j u)) Q E s) :
  OpR X f (rI0 fun i j=>.bl (g i j)):=by
 intro pins s σ H x y v u Q I rx ry h
 obtain ⟨i,j,rfl,rfl,q⟩:=h
 obtain ⟨t,rfl⟩:=rx
 obtain ⟨t',rfl⟩:=ry
 exact rule i j t t' s _ _ ⟨.bl (g i j),H,I,rfl,q⟩
def zD(i j:Int):Prop:=0<j∧j<1073741824
def wJ(i j:Int):Prop:=0≤j∧j≤1000000∧i.natAbs<2 ^ 64
def CMul(i j:Int):Prop:=(-(2 ^ 64)<i∧i<2 ^ 64)∨(-(2 ^ 64)<j∧j<2 ^ 64)
theorem CMul.ok{i j:Int}(h:CMul i j):IntMulOk i j:=by
 rcases h with ⟨h1,h2⟩ | ⟨h1,h2⟩
 ·exact .of_left (intBits_le_64 h1 h2)
 ·exact .of_right (intBits_le_64 h1 h2)
theorem op_add:OpR X (binaryOp .Add) (rI0 fun i j=>.int (i+j)):=ye fun _ _ _ _ _ _ _ q=>add_int q
theorem op_sub:OpR X (binaryOp .Sub) (rI0 fun i j=>.int (i - j)):=ye fun _ _ _ _ _ _ _ q=>sub_int q
theorem op_mod:OpR X (binaryOp .Mod) (rI (fun _ j=>0<j) fun i j=>.int (i % j)):=opI fun i j _ _ _ _ _ hc q=>by
 have h1:(0:Int)<j:=hc
 exact mod_int' (by lia) (by rw[Int.fmod_eq_emod_of_nonneg i (by lia)]; exact q)
theorem op_pow:OpR X (binaryOp .Pow) (rI wJ fun i j=>.int (i ^ j.toNat)):=opI fun _ _ _ _ _ _ _ hc q=>pow_int_small hc.1 hc.2.1 hc.2.2 q
theorem unI{f:Value→Sem Value}{g:Int→Int}
  (rule:∀(i:Int) (t:Tok) (s:Shared) (Q:Value→Shared→Prop) (E:Value→Shared→Prop),Q (.int (g i) s.toks) { s with toks:=s.toks+1 }→wpAny (model X.prog X.w) X.A (f (.int i t)) Q E s) :
  UnR X f (rU fun i=>.int (g i)):=by
 intro pins s σ H x v Q I rx h
 obtain ⟨i,rfl,q⟩:=h
 obtain ⟨t,rfl⟩:=rx
 exact rule i t s _ _ ⟨.int (g i),H,I.tok _,⟨_,rfl⟩,q⟩
theorem wy:UnR X (unaryOp .USub) (rU fun i=>.int (-i)):=unI fun _ _ _ _ _ q=>neg_int q
end
def xL:V→V→Bool
 | .non,.non=>true | .non,.int _=>true | .int _,.non=>true | .non,.bl _=>true | .bl _,.non=>true | .non,.str _=>true | .str _,.non=>true
 | .int _,.int _=>true | .bl _,.bl _=>true | .str _,.str _=>true | .byt _,.byt _=>true
 | .int _,.str _=>true | .str _,.int _=>true | .bl _,.str _=>true | .str _,.bl _=>true
 | _,_=>false
def rEq:R2:=fun x y H Q=>xL x y=true∧Q (.bl (decide (x=y))) H
def rNe:R2:=fun x y H Q=>xL x y=true∧Q (.bl (!decide (x=y))) H
theorem nL{i j:Int}:decide (V.int i=V.int j)=(i == j):=by
 rw[Bool.eq_iff_iff]
 simp
theorem pT{i j:Bool}:decide (V.bl i=V.bl j)=(i == j):=by
 rw[Bool.eq_iff_iff]
 simp
theorem nR{i j:Str}:decide (V.str i=V.str j)=(i == j):=by
 rw[Bool.eq_iff_iff]
 simp
theorem nX{i j:Array UInt8}:decide (V.byt i=V.byt j)=(i.toList == j.toList):=by
 rw[Bool.eq_iff_iff]
 cases i
 cases j
 simp
section
variable {X:Cx}{a b c:Expr}{ta tb tc:TE}{pos:Pos}
theorem aX{pins:List (Addr×Obj)}{σ:St}{H:Hp}{s:Shared}{Q:VK}{k k':Bool}(I:Inv X pins σ H s)(q:Q (.bl k) H)(e:k=k'):EP X pins σ Q (.bool k') s:=by
 subst e
 exact ⟨.bl k,H,I,rfl,q⟩
theorem op_eq:OpR X (compareOp .Eq) rEq:=by
 intro pins s σ H x y v u Q I rx ry h
 obtain ⟨hs,q⟩:=h
 cases x with
 | non =>
  cases rx
  cases y with
  | non=>cases ry; exact PySem.EqNone.eq_none_none (aX I q (by simp))
  | bl j=>cases ry; exact PySem.EqNone.eq_none_bool (aX I q (by simp))
  | int j=>obtain ⟨t',rfl⟩:=ry; exact PySem.EqNone.eq_none_int (aX I q (by simp))
  | str j=>obtain ⟨t',rfl⟩:=ry; exact PySem.EqNone.eq_none_str (aX I q (by simp))
  | _=>exact absurd (show false=true from hs) Bool.false_ne_true
 | bl i =>
  cases rx
  cases y with
  | non=>cases ry; exact PySem.EqNone.eq_bool_none (aX I q (by simp))
  | bl j=>cases ry; exact eq_bool (aX I q pT)
  | str j=>obtain ⟨t',rfl⟩:=ry; exact PySem.EqMixed.eq_bool_str (aX I q (by simp))
  | _=>exact absurd (show false=true from hs) Bool.false_ne_true
 | int i =>
  obtain ⟨t,rfl⟩:=rx
  cases y with
  | non=>cases ry; exact PySem.EqNone.eq_int_none (aX I q (by simp))
  | int j=>obtain ⟨t',rfl⟩:=ry; exact eq_int (aX I q nL)
  | str j=>obtain ⟨t',rfl⟩:=ry; exact PySem.EqMixed.eq_int_str (aX I q (by simp))
  | _=>exact absurd (show false=true from hs) Bool.false_ne_true
 | str i =>
  obtain ⟨t,rfl⟩:=rx
  cases y with
  | non=>cases ry; exact PySem.EqNone.eq_str_none (aX I q (by simp))
  | bl j=>cases ry; exact PySem.EqMixed.eq_str_bool (aX I q (by simp))
  | int j=>obtain ⟨t',rfl⟩:=ry; exact PySem.EqMixed.eq_str_int (aX I q (by simp))
  | str j=>obtain ⟨t',rfl⟩:=ry; exact eq_str (aX I q nR)
  | _=>exact absurd (show false=true from hs) Bool.false_ne_true
 | byt i =>
  obtain ⟨t,rfl⟩:=rx
  cases y with
  | byt j=>obtain ⟨t',rfl⟩:=ry; exact PySem.W.eq_bytes (aX I q nX)
  | _=>exact absurd (show false=true from hs) Bool.false_ne_true
 | _=>cases y <;> exact absurd (show false=true from hs) Bool.false_ne_true
theorem op_ne:OpR X (compareOp .NotEq) rNe:=by
 intro pins s σ H x y v u Q I rx ry h
 obtain ⟨hs,q⟩:=h
 cases x with
 | non =>
  cases rx
  cases y with
  | non=>cases ry; exact PySem.EqNone.ne_none_none (aX I q (by simp))
  | bl j=>cases ry; exact PySem.EqNone.ne_none_bool (aX I q (by simp))
  | int j=>obtain ⟨t',rfl⟩:=ry; exact PySem.EqNone.ne_none_int (aX I q (by simp))
  | str j=>obtain ⟨t',rfl⟩:=ry; exact PySem.EqNone.ne_none_str (aX I q (by simp))
  | _=>exact absurd (show false=true from hs) Bool.false_ne_true
 | bl i =>
  cases rx
  cases y with
  | non=>cases ry; exact PySem.EqNone.ne_bool_none (aX I q (by simp))
  | bl j=>cases ry; exact ne_bool (aX I q (congrArg not pT))
  | str j=>obtain ⟨t',rfl⟩:=ry; exact PySem.EqMixed.ne_bool_str (aX I q (by simp))
  | _=>exact absurd (show false=true from hs) Bool.false_ne_true
 | int i =>
  obtain ⟨t,rfl⟩:=rx
  cases y with
  | non=>cases ry; exact PySem.EqNone.ne_int_none (aX I q (by simp))
  | int j=>obtain ⟨t',rfl⟩:=ry; exact ne_int (aX I q (congrArg not nL))
  | str j=>obtain ⟨t',rfl⟩:=ry; exact PySem.EqMixed.ne_int_str (aX I q (by simp))
  | _=>exact absurd (show false=true from hs) Bool.false_ne_true
 | str i =>
  obtain ⟨t,rfl⟩:=rx
  cases y with
  | non=>cases ry; exact PySem.EqNone.ne_str_none (aX I q (by simp))
  | bl j=>cases ry; exact PySem.EqMixed.ne_str_bool (aX I q (by simp))
  | int j=>obtain ⟨t',rfl⟩:=ry; exact PySem.EqMixed.ne_str_int (aX I q (by simp))
  | str j=>obtain ⟨t',rfl⟩:=ry; exact ne_str (aX I q (congrArg not nR))
  | _=>exact absurd (show false=true from hs) Bool.false_ne_true
 | byt i =>
  obtain ⟨t,rfl⟩:=rx
  cases y with
  | byt j=>obtain ⟨t',rfl⟩:=ry; exact PySem.W.ne_bytes (aX I q (congrArg not nX))
  | _=>exact absurd (show false=true from hs) Bool.false_ne_true
 | _=>cases y <;> exact absurd (show false=true from hs) Bool.false_ne_true
theorem op_lt:OpR X (compareOp .Lt) (rI0 fun i j=>.bl (decide (i<j))):=tT fun _ _ _ _ _ _ _ q=>lt_int q
theorem op_le:OpR X (compareOp .LtE) (rI0 fun i j=>.bl (decide (i≤j))):=tT fun _ _ _ _ _ _ _ q=>le_int q
theorem op_gt:OpR X (compareOp .Gt) (rI0 fun i j=>.bl (decide (j<i))):=tT fun _ _ _ _ _ _ _ q=>gt_int q
theorem op_ge:OpR X (compareOp .GtE) (rI0 fun i j=>.bl (decide (j≤i))):=tT fun _ _ _ _ _ _ _ q=>ge_int q
theorem o6:OpR X (compareOp .Lt) (fun x y H Q=>∃ i j,x=.str i∧y=.str j∧Q (.bl (decide (i.cps.toList<j.cps.toList))) H):=by
 intro pins s σ H x y v u Q I rx ry h
 obtain ⟨i,j,rfl,rfl,q⟩:=h
 obtain ⟨t,rfl⟩:=rx
 obtain ⟨t',rfl⟩:=ry
 exact lt_str (aX I q rfl)
theorem op_notN:OpR X (compareOp .IsNot) (fun x y H Q=>y=.non∧Q (.bl (!decide (x=.non))) H):=by
 intro pins s σ H x y v u Q I rx ry h
 obtain ⟨rfl,q⟩:=h
 cases ry
 refine isnot_none_gen (aX I q ?_)
 cases x <;> first
  | (cases rx; rfl)
  | (obtain ⟨t,rfl⟩:=rx; rfl)
theorem OpR.or{f:Value→Value→Sem Value}{r r':R2}(h:OpR X f r)(h':OpR X f r'):OpR X f (fun x y H Q=>r x y H Q∨r' x y H Q):=by
 intro pins s σ H x y v u Q I rx ry q
 rcases q with q | q
 ·exact h pins s σ H x y v u Q I rx ry q
 ·exact h' pins s σ H x y v u Q I rx ry q
theorem aC(b:Expr){op:CmpOp}(h:op≠.In:=by decide)(h2:op≠.NotIn:=by decide):behindInMarks op b=false:=by
 have e1:(op == CmpOp.In)=false:=by cases op <;> first | rfl | exact absurd rfl h
 have e2:(op == CmpOp.NotIn)=false:=by cases op <;> first | rfl | exact absurd rfl h2
 cases b <;> simp[behindInMarks,e1,e2]
theorem cY{op:CmpOp}{r:R2}(ho:OpR X (compareOp op) r)(ha:PE X a ta)(hb:PE X b tb)(hm:behindInMarks op b=false):PE X (.Compare a [op] [b] pos) (tOp r ta tb):=by
 intro pins s σ H Q I h
 exact wpAny_Compare1 (wU ha hb I h fun v u s2 x y H2 I2 rx ry q=>ho pins s2 σ H2 x y v u Q I2 rx ry q) hm
def yH(K:Frag)(x:V)(H:Hp)(k:Bool):Prop :=
 match x with
 | .non=>k=false
 | .bl b=>k=b
 | .int i=>k=(i != 0)
 | .str y=>y.length≤sizeLine∧k=((y.length:Int) != 0)
 | .byt y=>y.size≤sizeLine∧k=((y.size:Int) != 0)
 | .ref p=>(∃ xs,SqL K H p xs∧k = !xs.isEmpty)∨(∃ xs,SqT K H p xs∧k = !xs.isEmpty)∨∃ kvs,H p=some (.dK kvs)∧k = !kvs.isEmpty
 | _=>False
theorem ml{κ:Type}{kvs:List (κ×V)}{vs:List (κ×Value)}(r:KV kvs vs):(!vs.isEmpty) = !kvs.isEmpty:=by
 cases r <;> rfl
theorem iG{xs:List V}{its:List Value}(r:Vals xs its):(!its.toArray.isEmpty) = !xs.isEmpty:=by
 cases r <;> simp
theorem gm:(sizeLine:Nat)<2 ^ 63:=by rw[sizeLine_eq]; decide
theorem wZ:yW X (fun x H Q=>∃ k,yH X.K x H k∧Q k H):=by
 intro pins s σ H x v Q I rx h
 obtain ⟨k,e,q⟩:=h
 have hl:=gm
 have hs:sizeLine=16777216:=sizeLine_eq
 cases x with
 | non =>
  cases rx
  have e':k=false:=e
  subst e'
  exact truthy_none ⟨H,I,q⟩
 | bl b =>
  cases rx
  have e':k=b:=e
  subst e'
  exact wpAny_truthy_bool ⟨H,I,q⟩
 | int i =>
  obtain ⟨t,rfl⟩:=rx
  have e':k=(i != 0):=e
  subst e'
  exact PySem.P.truthy_int ⟨H,I,q⟩
 | str y =>
  obtain ⟨t,rfl⟩:=rx
  obtain ⟨hy,e'⟩:y.length≤sizeLine∧k=((y.length:Int) != 0):=e
  subst e'
  exact PySem.P.truthy_str (by lia) ⟨H,I.tok _,q⟩
 | byt y =>
  obtain ⟨t,rfl⟩:=rx
  obtain ⟨hy,e'⟩:y.size≤sizeLine∧k=((y.size:Int) != 0):=e
  subst e'
  exact PySem.W.truthy_bytes (by lia) ⟨H,I.tok _,q⟩
 | ref p =>
  cases rx
  have e':(∃ xs,SqL X.K H p xs∧k = !xs.isEmpty)∨(∃ xs,SqT X.K H p xs∧k = !xs.isEmpty)∨∃ kvs,H p=some (.dK kvs)∧k = !kvs.isEmpty:=e
  rcases e' with ⟨xs,hx,e'⟩ | ⟨xs,hx,e'⟩ | ⟨kvs,hx,e'⟩
  ·subst e'
   obtain ⟨its,r,pl,hz⟩:=I.list hx
   have hlen:=r.length
   exact wpAny_truthy_list pl.isList (by simp only[size_toArray]; lia) ⟨H,I.tok _,by rw[iG r]; exact q⟩
  ·subst e'
   obtain ⟨its,r,pl,hz⟩:=I.tuple hx
   have hlen:=r.length
   exact truthy_tuple pl (by simp only[size_toArray]; lia) ⟨H,I.tok _,by rw[iG r]; exact q⟩
  ·subst e'
   obtain ⟨hz,hS,vs,r,m⟩:kvs.length≤sizeLine∧(p == sysModules)=false∧∃ vs,KV kvs vs∧s.heap.DictOf (cq X.prog X.w) p vs:=I.hok p _ hx
   have hlen:kvs.length=vs.length:=Paired.length r
   exact wpAny_truthy_dict hS m (by lia) ⟨H,I.tok _,by rw[ml r]; exact q⟩
 | _=>exact (show False from e).elim
theorem lE(ha:PE X a ta)(he:∀ whole,isTrue a X.env whole=(do let v ← whole; standAt a.pos; holding [v] (truthy v))) :
  PT X a (fun σ H Q=>ta σ H fun x H'=>∃ k,yH X.K x H' k∧Q k H'):=by
 intro pins s σ H Q I h
 exact isTrue_plain (thn (ha pins s σ H _ I h) fun v s1 ⟨x,H1,I1,r1,q1⟩=>wZ pins s1 σ H1 x v Q I1 r1 q1) (he _)
theorem my:OpR X (binaryOp .Add) (fun x y H Q=>∃ i j,x=.str i∧y=.str j∧i.length+j.length≤sizeLine∧Q (.str (i++j)) H):=by
 intro pins s σ H x y v u Q I rx ry h
 obtain ⟨i,j,rfl,rfl,hz,q⟩:=h
 obtain ⟨t,rfl⟩:=rx
 obtain ⟨t',rfl⟩:=ry
 exact add_str (fun t' tk=>⟨.str (i++j),H,I.tok _,⟨_,rfl⟩,q⟩) hz
theorem ez{x:V}{us:List Value}(r:Vals [x] us):∃ u,us=[u]∧RelV x u:=by
 cases r with
 | cons r1 r2=>cases r2; exact ⟨_,rfl,r1⟩
theorem lM{x y:V}{us:List Value}(r:Vals [x,y] us):∃ u w',us=[u,w']∧RelV x u∧RelV y w':=by
 cases r with
 | cons r1 r2 =>
  cases r2 with
  | cons r3 r4=>cases r4; exact ⟨_,_,rfl,r1,r3⟩
theorem lI:CallR X (.builtin "abs") (fun xs H Q=>∃ i,xs=[.int i]∧Q (.int (if i<0 then -i else i)) H):=by
 intro pins s σ H xs us Q I r h
 obtain ⟨i,rfl,q⟩:=h
 obtain ⟨u,rfl,t,rfl⟩:=ez r
 exact call_abs_int fun u tk=>⟨.int (if i<0 then -i else i),H,I.tok _,⟨_,rfl⟩,q⟩
inductive rTwo(f:Int→Int→Int)(xs:List V)(H:Hp)(Q:VK):Prop
 | mk(i j:Int)(h0:xs=[.int i,.int j])(h1:Q (.int (f i j)) H):rTwo f xs H Q
theorem hJ(hc:X.calm=true):CallR X (.builtin "min") (rTwo fun i j=>if j<i then j else i):=by
 intro pins s σ H xs us Q I r h
 obtain ⟨i,j,rfl,q⟩:=h
 obtain ⟨u,w',rfl,⟨t,rfl⟩,⟨t',rfl⟩⟩:=lM r
 refine min_two_ints (I.ok.hd hc) fun h' tk k=>⟨_,H,I.kept k,?_,q⟩
 by_cases hj:j<i
 ·rw[if_pos hj,if_pos hj]; exact ⟨_,rfl⟩
 ·rw[if_neg hj,if_neg hj]; exact ⟨_,rfl⟩
theorem jO:CallR X (.type "int") (fun xs H Q=>(∃ i,xs=[.int i]∧Q (.int i) H)∨∃ k,xs=[.bl k]∧Q (.int (if k then 1 else 0)) H):=by
 intro pins s σ H xs us Q I r h
 rcases h with ⟨i,rfl,q⟩ | ⟨k,rfl,q⟩
 ·obtain ⟨u,rfl,t,rfl⟩:=ez r
  exact call_int_int ⟨.int i,H,I,⟨_,rfl⟩,q⟩
 ·obtain ⟨u,rfl,r1⟩:=ez r
  cases r1
  exact call_int_bool ⟨.int (if k then 1 else 0),H,I.tok _,⟨_,rfl⟩,q⟩
theorem call_str_int:CallR X (.type "str") (fun xs H Q=>∃ i,xs=[.int i]∧i.natAbs.log2<1920∧Q (.str (toString i)) H):=by
 intro pins s σ H xs us Q I r h
 obtain ⟨i,rfl,hz,q⟩:=h
 obtain ⟨u,rfl,t,rfl⟩:=ez r
 exact PySem.P.str_of_int hz ⟨.str _,H,I.tok _,⟨_,rfl⟩,q⟩
end
structure ObjM(h:Heap)(x dx C:Addr)(mA:Str→Option Value):Prop where
 obj:h.get? x=some (instObj C dx)
 ns:h.Ns1 dx mA
 ne:dx≠x
theorem pK{h:Heap}{dx:Addr}{mA:Str→Option Value}(n:h.Ns1 dx mA):∃ od,h.get? dx=some od∧∀ name,lookIn name od=some (mA name):=by
 obtain ⟨o,es,ep,ho,hd,hk,_,hm⟩:=n
 refine ⟨o,ho,fun name=>?_⟩
 have e:=hm name
 unfold nsFind findBy at e
 rw[← Array.find?_toList]at e
 unfold lookIn
 rw[hd]
 dsimp only
 split
 ·rename_i y q
  rw[q]at e
  exact congrArg some e
 ·rename_i q
  rw[q]at e
  have a:es.toList.any (·.refKey)=false:=by
   rw[List.any_eq_false]
   intro y hy
   obtain ⟨z,t,hkey⟩:=hk y (Array.mem_toList_iff.mp hy)
   simp[DictEntry.refKey,hkey]
  have a':¬es.toList.any (·.refKey)=true:=by rw[a]; exact Bool.false_ne_true
  rw[if_neg a']
  exact congrArg some e
theorem ObjM.look{h:Heap}{x dx C:Addr}{mA:Str→Option Value}(I:ObjM h x dx C mA):∃ od,InstAt h x (instObj C dx) C (some od)∧∀ name,lookIn name od=some (mA name) :=
 let ⟨od,ho,hl⟩:=pK I.ns
 ⟨od,⟨I.obj,rfl,rfl,ho⟩,hl⟩
section
variable {prog:Program}{w:World}{A:Around}{E:Value→Shared→Prop}{s:Shared}{K:Frag}{x dx C f:Addr}{mA:Str→Option Value}{name:Str}{v:Value}
theorem tI{expr:Bool}{Q:Value→Shared→Prop}(X:K.In s.heap)(I:ObjM s.heap x dx C mA)(hg:plainGet K C name=true)(hh:hasDictIn K C=true)
  (ha:findIn K (.ref C) name=some none) (hv:mA name=some v) (hv':handedIn v=true) (h:Q v { s with toks:=s.toks+1 }) :
  wpAny (model prog w) A (getAttr (.ref x) name expr) Q E s:=by
 obtain ⟨od,J,hl⟩:=I.look
 exact PySem.W.get_value X J (plainGet_of hg).1 (PySem.W.findObj_own hh ha rfl (by rw[hl,hv])) hv' h
theorem rY{pl:Sem Bool}{Q:Value×List Value→Shared→Prop}(X:K.In s.heap)(I:ObjM s.heap x dx C mA)(hg:plainGet K C name=true)
  (hf:findIn K (.ref C) name=some (some (.ref f))) (ht:isFn K (.ref f)=true) (hv:mA name=none) (h:Q (.ref f,[.ref x]) s) :
  wpAny (model prog w) A (getMethod (.ref x) name pl) Q E s:=by
 obtain ⟨od,J,hl⟩:=I.look
 exact PySem.W.method_fn X J (plainGet_of hg).1 (plainGet_of hg).2 hf (beq_iff_eq.mp ht) (by show (lookIn name od).map (·.isSome)=some false; rw[hl,hv]; rfl) h
theorem tE{ns:List Str}{Q:Unit→Shared→Prop}(X:K.In s.heap)(I:ObjM s.heap x dx C mA)
  (hs:findIn K (.ref C) "__setattr__" = some (some (.builtin "object.__setattr__"))) (hp:plainOver K C=true) (ht:takerIn K C name=some none) (hh:hasDictIn K C=true)
  (hw:PySem.Within mA ns) (hsz:ns.length≤sizeLine)
  (h:∀ h',ObjM h' x dx C (fun y=>if y=name then some v else mA y)→Heap.SameBut dx s.heap h'→Q () { s with heap:=h',toks:=s.toks+2 }) :
  wpAny (model prog w) A (setAttr (.ref x) name v) Q E s:=by
 obtain ⟨od,J,hl⟩:=I.look
 refine PySem.W.set_plain X J hs (PySem.W.osa_open (s:={ s with toks:=s.toks+1 }) (r:=none) X J hp ht fun b=>?_)
 obtain ⟨cd,hc,hd'⟩:=any_some hh
 have hx:s.heap.get? x=some ⟨.ref C,some dx,.plain,#[]⟩:=I.obj
 refine wpAny_bind (wpAny_pure (wpAny_bind (wpAny_bind (wpAny_loadPart hx (wpAny_bind (Looks.here (s:={ s with toks:=s.toks+1 }) (looks_clsIn X hc) ?_))))))
 rw[hd']
 refine wpAny_pure (a:=some dx) (wpAny_bind (wpAny_pure (wpAny_bind ?_)))
 refine wpAny_nsSet1 (s:={ s with toks:=s.toks+1 }) I.ns fun h' hn2 hs2=>?_
 obtain ⟨oD,esD,epD,hoD,hdD,hcD⟩:=hn2.count (PySem.Within.cons name v hw)
 refine wpAny_bind (wpAny_lookBehind hoD (by rw[hdD]; exact pastItsLine_dict (Nat.le_trans hcD (by rw[length_cons]; lia))) ?_)
 exact wpAny_pure (h _ ⟨(hs2.2 _ (Ne.symm I.ne)).trans I.obj,hn2,I.ne⟩ hs2)
theorem kU{R:Result→Shared→Prop}{vs:List Value}{kw:List (Str×Value)}(X:K.In s.heap)(hm:makesIn K C=true)
  (hi:findIn K (.ref C) "__init__" = some (some (.ref f))) (hf:typeIn K (.ref f)=some (.type "function"))
  (h:codeAny (model prog w) (A.under (.builtin "type.__call__" ⟨.ref C::vs,kw⟩)) (.call (.ref f) ⟨.ref (s.heap.objs.size+1)::vs,kw⟩) (PySem.W.InitBack (s.heap.objs.size+1) R)
   { s with heap:=(s.heap.push emptyDict).push (instObj C s.heap.objs.size) }) :
  codeAny (model prog w) A (.call (.ref C) ⟨vs,kw⟩) R s:=by
 obtain ⟨hh,g,d,t,os⟩:=s
 exact PySem.W.make_core (PySem.W.makes_of X hm) (looks_findIn X hi) (fun self=>PySem.W.bind_fn X self hf) (.inl rfl) h
end
def fP(f:Str)(v:V):List (Str×V)→List (Str×V)
 | []=>[(f,v)]
 | (g,x)::r=>if g=f then (g,v)::r else (g,x)::fP f v r
theorem hX(f g:Str)(v:V):∀ fs:List (Str×V),(fP f v fs).lookup g=if g=f then some v else fs.lookup g
 | []=>by
  show List.lookup g [(f,v)]=_
  by_cases h:g=f
  ·have hb:(g == f)=true:=beq_iff_eq.mpr h
   simp only[List.lookup,hb,if_pos h]
  ·have hb:(g == f)=false:=beq_eq_false_iff_ne.mpr h
   simp only[List.lookup,hb,if_neg h]
 | (k,x)::r=>by
  have ih:=hX f g v r
  rw[show fP f v ((k,x)::r)=(if k=f then (k,v)::r else (k,x)::fP f v r) from rfl]
  by_cases hk:k=f
  ·rw[if_pos hk]
   by_cases h:g=k
   ·have hb:(g == k)=true:=beq_iff_eq.mpr h
    simp only[List.lookup,hb,if_pos (h.trans hk)]
   ·have hb:(g == k)=false:=beq_eq_false_iff_ne.mpr h
    simp only[List.lookup,hb,if_neg (fun e:g=f=>h (e.trans hk.symm))]
  ·rw[if_neg hk]
   by_cases h:g=k
   ·have hb:(g == k)=true:=beq_iff_eq.mpr h
    simp only[List.lookup,hb,if_neg (fun e:g=f=>hk (h.symm.trans e))]
   ·have hb:(g == k)=false:=beq_eq_false_iff_ne.mpr h
    simp only[List.lookup,hb]
    exact ih
theorem g8(f:Str)(v:V):∀ fs:List (Str×V),f∈(fP f v fs).map (·.1)∧∀ g,g∈fs.map (·.1)→g∈(fP f v fs).map (·.1)
 | []=>⟨by simp[fP],fun g h=>by simp at h⟩
 | (k,x)::r=>by
  obtain ⟨i1,i2⟩:=g8 f v r
  rw[show fP f v ((k,x)::r)=(if k=f then (k,v)::r else (k,x)::fP f v r) from rfl]
  by_cases hk:k=f
  ·rw[if_pos hk]
   subst hk
   exact ⟨by simp,fun g h=>by simpa using h⟩
  ·rw[if_neg hk]
   refine ⟨?_,fun g h=>?_⟩
   ·rw[map_cons]
    exact mem_cons_of_mem _ i1
   ·rw[map_cons]at h ⊢
    rcases mem_cons.mp h with e | e
    ·exact mem_cons.mpr (.inl e)
    ·exact mem_cons_of_mem _ (i2 g e)
theorem ig(f:Str)(v:V):∀ fs:List (Str×V),(fP f v fs).length≤fs.length+1
 | []=>by simp[fP]
 | (k,x)::r=>by
  have ih:=ig f v r
  rw[show fP f v ((k,x)::r)=(if k=f then (k,v)::r else (k,x)::fP f v r) from rfl]
  by_cases hk:k=f
  ·rw[if_pos hk,length_cons,length_cons]; lia
  ·rw[if_neg hk,length_cons,length_cons]; lia
theorem RelO.some_of{v:V}{o:Option Value}(r:RelO (some v) o):∃ u,o=some u∧RelV v u:=by
 cases o with
 | none=>exact (show False from r).elim
 | some u=>exact ⟨u,rfl,r⟩
theorem RelO.none_of{o:Option Value}(r:RelO none o):o=none:=by
 cases o with
 | none=>rfl
 | some u=>exact (show False from r).elim
theorem pN{v:V}{u:Value}(r:RelV v u):handedIn u=true:=by
 cases v with
 | non=>cases (show u=Value.none from r); rfl
 | bl b=>cases (show u=Value.bool b from r); rfl
 | int i=>obtain ⟨t,e⟩:=(show ∃ t,u=Value.int i t from r); cases e; rfl
 | str x=>obtain ⟨t,e⟩:=(show ∃ t,u=Value.str x t from r); cases e; rfl
 | byt b=>obtain ⟨t,e⟩:=(show ∃ t,u=Value.bytes b t from r); cases e; rfl
 | flt b=>obtain ⟨t,e⟩:=(show ∃ t,u=Value.float b t from r); cases e; rfl
 | ref a=>cases (show u=Value.ref a from r); rfl
 | ty n=>cases (show u=Value.type n from r); rfl
section
variable {P:Program}{w:World}{H H':Hp}{h h':Heap}{a C dx:Addr}{fs fs':List (Str×V)}
theorem iB(hok:HOk P w H h)(e:H a=some (.ins C dx fs)):∃ mA,ObjM h a dx C mA∧(∀ f,RelO (fs.lookup f) (mA f))∧PySem.Within mA (fs.map (·.1))∧fs.length≤1000∧H dx=some (.own a):=by
 obtain ⟨d,z,ne,ob,mA,n,r,q⟩:=(show ObjOk P w H h a (.ins C dx fs) from hok a _ e)
 exact ⟨mA,⟨ob,n,ne⟩,r,q,z,d⟩
end
structure Cls(K:Frag)(C:Addr):Prop where
 pg:plainGet K C Str.empty=true
 hd:hasDictIn K C=true
 po:plainOver K C=true
 sa:findIn K (.ref C) "__setattr__" = some (some (.builtin "object.__setattr__"))
theorem Cls.get{K:Frag}{C:Addr}(c:Cls K C)(f:Str):plainGet K C f=true:=c.pg
def NoAttr(K:Frag)(C:Addr)(f:Str):Prop:=findIn K (.ref C) f=some none
theorem NoAttr.taker{K:Frag}{C:Addr}{f:Str}(n:NoAttr K C f):takerIn K C f=some none:=by
 unfold takerIn
 rw[show findIn K (.ref C) f=some none from n]
 rfl
structure Meth(K:Frag)(C:Addr)(m:Str)(f:Addr):Prop where
 at_:findIn K (.ref C) m=some (some (.ref f))
 fn:isFn K (.ref f)=true
 kp:keepIn K (.ref f)=true
section
variable {X:Cx}{pins:List (Addr×Obj)}{σ:St}{H:Hp}{s:Shared}{a C dx:Addr}{fs:List (Str×V)}{f:Str}{v:V}{A:Around}{E:Value→Shared→Prop}
theorem mn{b:Bool}{Q:Value→Shared→Prop}(I:Inv X pins σ H s)(e:H a=some (.ins C dx fs))(c:Cls X.K C)(n:NoAttr X.K C f)(l:fs.lookup f=some v)
  (h:∀ u s',Inv X pins σ H s'→RelV v u→Q u s'):wpAny (model X.prog X.w) A (getAttr (.ref a) f b) Q E s:=by
 obtain ⟨mA,O,r,_,_,_⟩:=iB I.hok e
 obtain ⟨u,hu,ru⟩:=RelO.some_of (v:=v) (o:=mA f) (by rw[← l]; exact r f)
 exact tI I.kIn O (c.get f) c.hd n hu (pN ru) (h u _ (I.tok _) ru)
theorem ja{m:Str}{g:Addr}{pl:Sem Bool}{Q:Value×List Value→Shared→Prop}(I:Inv X pins σ H s)(e:H a=some (.ins C dx fs))(c:Cls X.K C)(k:Meth X.K C m g)(l:fs.lookup m=none)
  (h:Q (.ref g,[.ref a]) s):wpAny (model X.prog X.w) A (getMethod (.ref a) m pl) Q E s:=by
 obtain ⟨mA,O,r,_,_,_⟩:=iB I.hok e
 have hn:mA m=none:=RelO.none_of (by rw[← l]; exact r m)
 exact rY I.kIn O (c.get m) k.at_ k.fn hn h
theorem mS{y:V}{u:Value}{Q:Unit→Shared→Prop}(I:Inv X pins σ H s)(e:H a=some (.ins C dx fs))(c:Cls X.K C)(n:NoAttr X.K C f)(hl:fs.length<1000)(ry:RelV y u)
  (h:∀ s',Inv X pins σ (upd H a (.ins C dx (fP f y fs))) s'→Q () s'):wpAny (model X.prog X.w) A (setAttr (.ref a) f u) Q E s:=by
 obtain ⟨mA,O,r,wi,_,ho⟩:=iB I.hok e
 have hz:(fs.map (·.1)).length≤sizeLine:=by rw[length_map,sizeLine_eq]; lia
 refine tE I.kIn O c.sa c.po n.taker c.hd wi hz fun h' O' sb=>h _ ?_
 have hd:∃ o,h'.get? dx=some o:=let ⟨o,_,_,e',_⟩:=O'.ns; ⟨o,e'⟩
 refine I.write (x:=a) (e:=dx) (by rw[e]; exact True.intro) (.inr ho) (fun b q hb z=>(sb.2 b hb).trans z) hd ?_
 refine ⟨by rw[ag O.ne]; exact ho,?_,O.ne,O'.obj,_,O'.ns,fun g=>?_,fun g hg=>?_⟩
 ·have:=ig f y fs; lia
 ·show RelO ((fP f y fs).lookup g) (if g=f then some u else mA g)
  rw[hX]
  by_cases q:g=f
  ·rw[if_pos q,if_pos q]; exact ry
  ·rw[if_neg q,if_neg q]; exact r g
 ·by_cases q:g=f
  ·rw[q]; exact (g8 f y fs).1
  ·refine (g8 f y fs).2 g (wi g fun z=>hg ?_)
   show (if g=f then some u else mA g)=none
   rw[if_neg q]; exact z
theorem Inv.made(I:Inv X pins σ H s):Inv X pins σ (upd (upd H s.heap.objs.size (.own (s.heap.objs.size+1))) (s.heap.objs.size+1) (.ins C s.heap.objs.size []))
  { s with heap:=(s.heap.push emptyDict).push (instObj C s.heap.objs.size) }:=by
 have e1:(s.heap.push emptyDict).get? s.heap.objs.size=some emptyDict:=Heap.get?_push_size s.heap rfl
 have e2:((s.heap.push emptyDict).push (instObj C s.heap.objs.size)).get? (s.heap.objs.size+1)=some (instObj C s.heap.objs.size):=by
  have:=Heap.get?_push_size (s.heap.push emptyDict) (o:=instObj C s.heap.objs.size) rfl
  rwa [Heap.size_push]at this
 have e3:(s.heap.push emptyDict).Ns s.heap.objs.size (fun _=>none):=⟨emptyDict,#[],_,e1,rfl,(fun e he=>absurd he (by simp)),fun _=>rfl⟩
 have I1:=I.laid (a:=s.heap.objs.size) (o:=.own (s.heap.objs.size+1)) (h':=s.heap.push emptyDict) (t':=s.toks) (fun b u q=>Heap.get?_push_of_some _ q) (Nat.le_refl _) ⟨_,e1⟩
 refine I1.laid (a:=s.heap.objs.size+1) (o:=.ins C s.heap.objs.size []) (t':=s.toks) (fun b u q=>Heap.get?_push_of_some _ q) (Nat.le_of_eq (Heap.size_push _ _)) ?_
 have ne:s.heap.objs.size≠s.heap.objs.size+1:=Nat.ne_of_lt (Nat.lt_succ_self _)
 refine ⟨by rw[ag ne,ac],Nat.zero_le _,ne,e2,fun _=>none,(Heap.Ns1.of_empty e3).at fun o q=>Heap.get?_push_of_some _ q,fun _=>True.intro,fun y hy=>absurd rfl hy⟩
theorem nJ{prog:Program}{w:World}{env:Env}{e:Expr}{f:Str}{pos:Pos}{s:Shared}{Q:Value→Shared→Prop}(hb:attributeBase e f env (eval e env)=eval e env)
  (h:wpAny (model prog w) A (eval e env) (fun o s₁=>wpAny (model prog w) A (getAttr o f true) Q E s₁) E s):wpAny (model prog w) A (eval (.Attribute e f pos) env) Q E s :=
 Attribute_any_ h (by rw[arm_eval_Attribute,hb])
end
def zC(K:Frag)(ta:TE)(f:Str):TE:=fun σ H Q=>ta σ H fun x H1=>∃ a C dx fs v,x=.ref a∧H1 a=some (.ins C dx fs)∧Cls K C∧NoAttr K C f∧fs.lookup f=some v∧Q v H1
def zF(K:Frag)(ta tv:TE)(f:Str):TS:=fun D σ H=>tv σ H fun y H1=>ta σ H1 fun x H2=>∃ a C dx fs,x=.ref a∧H2 a=some (.ins C dx fs)∧Cls K C∧NoAttr K C f∧fs.length<1000 ∧
 D.nx σ (upd H2 a (.ins C dx (fP f y fs)))
section
variable {X:Cx}{o e value:Expr}{f:Str}{pos pos' tpos:Pos}{ta tv:TE}
theorem d7(he:PE X e ta)(hb:attributeBase e f X.env (eval e X.env)=eval e X.env):PE X (.Attribute e f pos) (zC X.K ta f):=by
 intro pins s σ H Q I h
 refine nJ hb (thn (he pins s σ H _ I h) fun u s1 ⟨x,H1,I1,rx,a,C,dx,fs,v,ex,ea,c,n,l,q⟩=>?_)
 subst ex
 obtain rfl:u=Value.ref a:=rx
 exact mn I1 ea c n l fun u' s2 I2 ru=>⟨v,H1,I2,ru,q⟩
theorem mw(ha:PE X o ta)(hv:PE X value tv)(hs:swapsWith value (some (.Attribute o f pos')) pos.line X.env=pure false):PS X (.Assign [.Attribute o f pos'] value pos) (zF X.K ta tv f):=by
 intro pins s σ H D I h
 refine plainObj_wpAny_Assign_Attribute (thn (hv pins s σ H _ I h) fun u s1 ⟨y,H1,I1,ry,q⟩=>thn (ha pins s1 σ H1 _ I1 q) fun ov s2 ⟨x,H2,I2,rx,a,C,dx,fs,ex,ea,c,n,l,q2⟩=>?_) hs
 subst ex
 obtain rfl:ov=Value.ref a:=rx
 exact mS I2 ea c n l ry fun s3 I3=>⟨σ,_,I3,q2⟩
end
section
variable {X:Cx}{pins:List (Addr×Obj)}{σ:St}{H:Hp}{s:Shared}{A:Around}{E:Value→Shared→Prop}{Q:Value→Shared→Prop}{c:Value}{b:Bool}
inductive TyOf(K:Frag)(H:Hp):V→Value→Prop where
 | non:TyOf K H .non (.type "NoneType")
 | bl (x:Bool):TyOf K H (.bl x) (.type "bool")
 | int (i:Int):TyOf K H (.int i) (.type "int")
 | str (x:Str):TyOf K H (.str x) (.type "str")
 | flt (x:UInt64):TyOf K H (.flt x) (.type "float")
 | lst {a:Addr}{xs:List V}(e:H a=some (.lst xs)):TyOf K H (.ref a) (.type "list")
 | frz {a:Addr}{o:Obj}{xs:List V}(e:H a=some (.frz o (.lst xs))):TyOf K H (.ref a) (.type "list")
 | tup {a:Addr}{xs:List V}(e:H a=some (.tup xs)):TyOf K H (.ref a) (.type "tuple")
 | dK {a:Addr}{kvs:List (Key×V)}(e:H a=some (.dK kvs)):TyOf K H (.ref a) (.type "dict")
 | dT {a:Addr}{kvs:List (List Key×V)}(e:H a=some (.dT kvs)):TyOf K H (.ref a) (.type "dict")
 | ins {a C dx:Addr}{fs:List (Str×V)}(e:H a=some (.ins C dx fs)) (cl:Cls K C) (ha:findIn K (.ref C) "__class__" = some (some (.builtin "object.__class__")))
   (hn:specialIn K (.builtin "object.__class__") "__get__" = some (some (.builtin "getset_descriptor.__get__"))) (htk:takesIn K (.builtin "object.__class__")=some true)
   (hm:mroIn K C (.type "object")=some true):TyOf K H (.ref a) (.ref C)
end
structure Room(k:Nat)(A:Around):Prop where
 hd:A.handled=none
 dp:A.depth+3*k+5<recursionLimit
 un:A.units+16*k+200<cLine
theorem Room.mono{j k:Nat}{A:Around}(r:Room k A)(h:j≤k):Room j A:=⟨r.hd,by have:=r.dp; lia,by have:=r.un; lia⟩
theorem Room.deeper{k:Nat}{A:Around}(r:Room (k+1) A)(env:Env):Room k (A.deeper env) :=
 ⟨r.hd,by have:=r.dp; show A.depth+1+3*k+5<_; lia,by have:=r.un; show A.units+3+16*k+200<_; lia⟩
theorem mH{A:Around}{C:Addr}{us:List Value}{kw:List (Str×Value)}:(A.under (.builtin "type.__call__" ⟨.ref C::us,kw⟩)).depth=A.depth+1:=by
 first | rfl | simp[Around.under,Code.weight,Code.isCreation,Code.isGuard,Code.isCaller,Code.frames,Code.isFrame,guardIds]
theorem md{A:Around}{C:Addr}{us:List Value}{kw:List (Str×Value)}:(A.under (.builtin "type.__call__" ⟨.ref C::us,kw⟩)).units=A.units+1:=by
 first | rfl | simp[Around.under,Code.cUnits,Code.frames,Code.isFrame]
theorem Room.make{k:Nat}{A:Around}(r:Room (k+1) A)(C:Addr)(us:List Value)(kw:List (Str×Value)):Room k (A.under (.builtin "type.__call__" ⟨.ref C::us,kw⟩)) :=
 ⟨r.hd,by have:=r.dp; rw[mH]; lia,by have:=r.un; rw[md]; lia⟩
theorem Room.depth{k:Nat}{A:Around}(r:Room k A):A.depth<recursionLimit:=by have:=r.dp; lia
theorem Room.units{k:Nat}{A:Around}(r:Room k A):A.units+64<cLine:=by have:=r.un; lia
def kX:TA:=fun _ H Q=>Q [] H
def fY(ta:TE)(tr:TA):TA:=fun σ H Q=>ta σ H fun x H1=>tr σ H1 fun xs H2=>Q (x::xs) H2
section
variable {X:Cx}{e:Expr}{es:List Expr}{te:TE}{t:TA}{pos:Pos}
theorem ae:PA X [] kX:=fun _ _ _ _ H Q I h=>Calls.spliced_nil ⟨[],H,I,.nil,h⟩
theorem aa(ha:PE X e te)(hr:PA X es t)(hs:starEach (e::es) X.env=(false,eval e X.env)::starEach es X.env:=by rfl):PA X (e::es) (fY te t):=by
 intro pos pins s σ H Q I h
 rw[hs]
 show wpAny _ _ (spliced ((false,eval e X.env)::backTo pos (starEach es X.env))) _ _ s
 refine Calls.spliced_cons (thn (ha pins s σ H _ I h) fun u s1 ⟨x,H1,I1,r1,q1⟩=>?_)
 exact thn (hr pos pins s1 σ H1 _ I1 q1) fun us s2 ⟨xs,H2,I2,r2,q2⟩=>⟨x::xs,H2,I2,.cons r1 r2,q2⟩
def w6(t:TA):TE:=fun σ H Q=>t σ H fun xs H1=>xs.length≤sizeLine∧∀ p,H1 p=none→Q (.ref p) (upd H1 p (.tup xs))
def yu(t:TA):TE:=fun σ H Q=>t σ H fun xs H1=>xs.length≤sizeLine∧∀ p,H1 p=none→Q (.ref p) (upd H1 p (.lst xs))
theorem aM{x1}(h:PA X es t):PE X (.Tuple es x1 pos) (w6 t):=by
 intro pins s σ H Q I hq
 refine wpAny_Tuple_spliced (thn (h pos pins s σ H _ I hq) fun us s1 ⟨xs,H1,I1,r,z,q⟩=>⟨by rw[← r.length]; exact z,?_⟩)
 have hf:H1 s1.heap.objs.size=none:=I1.hok.fresh (Nat.le_refl _)
 refine ⟨.ref s1.heap.objs.size,upd H1 s1.heap.objs.size (.tup xs),I1.laid (t':=s1.toks) (fun b u e=>Heap.get?_push_of_some _ e) (Nat.le_refl _) ?_,rfl,q _ hf⟩
 exact ⟨z,us,r,⟨_,Heap.get?_push_size _ rfl,rfl,_,rfl⟩⟩
theorem aY(h:PA X es t):PE X (.List es pos) (yu t):=by
 intro pins s σ H Q I hq
 refine wpAny_List_spliced (thn (h pos pins s σ H _ I hq) fun us s1 ⟨xs,H1,I1,r,z,q⟩=>⟨by rw[← r.length]; exact z,?_⟩)
 have hf:H1 s1.heap.objs.size=none:=I1.hok.fresh (Nat.le_refl _)
 refine ⟨.ref s1.heap.objs.size,upd H1 s1.heap.objs.size (.lst xs),I1.laid (t':=s1.toks) (fun b u e=>Heap.get?_push_of_some _ e) (Nat.le_refl _) ?_,rfl,q _ hf⟩
 exact ⟨z,us,0,r,Heap.get?_push_size _ rfl⟩
end
abbrev Sp:=List V→Hp→VK→XK→Prop
abbrev CXT:=List Env→Hp→Shared→XK→Value→Shared→Prop
structure Env0(P:Program)(w:World)(K:Frag)(mg:Str→Option Value)(base:Heap)(A:Around)(outer:List Env)(s:Shared)(H:Hp):Prop where
 frames:A.frames=some outer
 mod:Mod K mg base
 bs:∀ b o,base.get? b=some o→s.heap.get? b=some o∧H b=none
 bsz:base.objs.size≤s.heap.objs.size
 funs:s.heap.FunFrames base outer
 frf:∀ b∈frs outer,H b=none
 hok:HOk P w H s.heap
 bare:AllBare s.gens
def CE(outer:List Env)(P:Program)(w:World)(H:Hp)(s:Shared)(Q:VK)(u:Value)(s':Shared):Prop :=
 ∃ v H',s'.os=s.os∧AllBare s'.gens∧Un (frs outer) [] H H' s.heap s'.heap∧HOk P w H' s'.heap∧RelV v u∧Q v H'
def CR(CX:CXT)(outer:List Env)(P:Program)(w:World)(H:Hp)(s:Shared)(Q:VK)(E:XK)(r:Result)(s':Shared):Prop :=
 match r with
 | .ok (.ret u)=>CE outer P w H s Q u s'
 | .ok _=>False
 | .error e=>CX outer H s E e s'
structure FnOk(P:Program)(w:World)(K:Frag)(mg:Str→Option Value)(base:Heap)(CX:CXT)(k:Nat)(f:Addr)(fd:FuncData)(ps:List Str)(sp:Sp):Prop where
 len:∀ vs H Q E,sp vs H Q E→vs.length=ps.length
 run:∀(A:Around) (outer:List Env) (s:Shared) (H:Hp) (args:Args) (us:List Value) (vs:List V) (Q:VK) (E:XK),Room k A→Env0 P w K mg base A outer s H→BindsTo s fd args (ps.zip us)→Vals vs us→sp vs H Q E →
  codeAny (model P w) A (.call (.ref f) args) (CR CX outer P w H s Q E) s
theorem FnOk.mono{P:Program}{w:World}{K:Frag}{mg:Str→Option Value}{base:Heap}{CX:CXT}{j k:Nat}{f:Addr}{fd:FuncData}{ps:List Str}{sp:Sp}(F:FnOk P w K mg base CX j f fd ps sp)(h:j≤k) :
  FnOk P w K mg base CX k f fd ps sp:=⟨F.len,fun A outer s H args us vs Q E hr=>F.run A outer s H args us vs Q E (hr.mono h)⟩
theorem FnOk.imp{P:Program}{w:World}{K:Frag}{mg:Str→Option Value}{base:Heap}{CX:CXT}{k:Nat}{f:Addr}{fd:FuncData}{ps:List Str}{sp sp':Sp}(F:FnOk P w K mg base CX k f fd ps sp)
  (h:∀ vs H Q E,sp' vs H Q E→sp vs H Q E):FnOk P w K mg base CX k f fd ps sp' :=
 ⟨fun vs H Q E q=>F.len vs H Q E (h _ _ _ _ q),fun A outer s H args us vs Q E hr he hb hv hs=>F.run A outer s H args us vs Q E hr he hb hv (h _ _ _ _ hs)⟩
theorem Env0.make{P:Program}{w:World}{K:Frag}{mg:Str→Option Value}{base:Heap}{A:Around}{outer:List Env}{s:Shared}{H:Hp}(e:Env0 P w K mg base A outer s H)(C:Addr)(us:List Value)(kw:List (Str×Value)) :
  Env0 P w K mg base (A.under (.builtin "type.__call__" ⟨.ref C::us,kw⟩)) outer s H:=⟨by first | exact e.frames | (simpa[Around.under,Code.envs,Code.isFrame,pushEnvs] using e.frames),e.mod,e.bs,e.bsz,e.funs,e.frf,e.hok,e.bare⟩
section
variable {X:Cx}{pins:List (Addr×Obj)}{σ:St}{H:Hp}{s s':Shared}
theorem Inv.env0(I:Inv X pins σ H s):Env0 X.prog X.w X.K X.mg X.base X.A X.stack s H :=
 ⟨I.ok.frames,I.ok.mod,I.bs,Nat.le_trans I.ok.bsz I.sz,I.stack,I.stkFree,I.hok,I.bare⟩
theorem Inv.after{Q:VK}{u:Value}(I:Inv X pins σ H s)(h:CE X.stack X.prog X.w H s Q u s'):EP X pins σ Q u s':=by
 obtain ⟨v,H',os,bare,un,hok,r,q⟩:=h
 obtain ⟨hh,g,d,t,os'⟩:=s'
 obtain rfl:os'=s.os:=os
 exact ⟨v,H',I.call (h':=hh) (g':=g) (d':=d) (t':=t) (ch:=[]) un hok bare (fun b z=>absurd z (by simp)),r,q⟩
end
def yo(sp:Sp)(dvs:List V)(E:XK)(t:TA):TE:=fun σ H Q=>t σ H fun vs H1=>sp (vs++dvs) H1 Q E
def vM(C:Addr)(m:Str)(sp:Sp)(dvs:List V)(E:XK)(ta:TE)(t:TA):TE:=fun σ H Q=>ta σ H fun x H1=>∃ a dx fs,x=.ref a∧H1 a=some (.ins C dx fs)∧fs.lookup m=none ∧
 t σ H1 fun vs H2=>sp (x::(vs++dvs)) H2 Q E
def yC(C:Addr)(sp:Sp)(dvs:List V)(E:XK)(t:TA):TE:=fun σ H Q=>t σ H fun vs H1=>∀ x dx,H1 x=none→H1 dx=none→dx≠x →
 sp (.ref x::(vs++dvs)) (upd (upd H1 dx (.own x)) x (.ins C dx [])) (fun v H2=>v=.non∧Q (.ref x) H2) E
def Binds(K:Frag)(fd:FuncData)(ps:List Str)(ds:List Value):Prop :=
 ∀(s:Shared) (us:List Value),K.In s.heap→(us++ds).length=ps.length→BindsTo s fd ⟨us,[]⟩ (ps.zip (us++ds))
theorem Binds.all{K:Frag}{fd:FuncData}{ps:List Str}(h:∀ us:List Value,us.length=ps.length→bindArgs fd ⟨us,[]⟩=pure (ps.zip us)):Binds K fd ps []:=fun s us _ hl=>by
 rw[append_nil]at hl ⊢
 exact .of_eq (h us hl)
def fG(CX:CXT)(X:Cx)(E:XK):Prop:=∀(pins:List (Addr×Obj)) (σ:St) (H:Hp) (s:Shared) (e:Value) (s':Shared),Inv X pins σ H s→CX X.stack H s E e s'→X.xe e s'
section
variable {X:Cx}{CX:CXT}{k:Nat}{f C:Addr}{fd:FuncData}{ps:List Str}{sp:Sp}{dvs:List V}{ds:List Value}{E:XK}{x m:Str}{p pos apos:Pos}{e o:Expr}{es:List Expr}{ta:TE}{t:TA}
theorem mU{pins:List (Addr×Obj)}{σ:St}{H:Hp}{s:Shared}{Q:VK}{us:List Value}{vs:List V}(F:FnOk X.prog X.w X.K X.mg X.base CX k f fd ps sp)(hr:Room k X.A)(hb:Binds X.K fd ps ds)(hd:Vals dvs ds)(hx:fG CX X E)
  (I:Inv X pins σ H s) (r:Vals vs us) (h:sp (vs++dvs) H Q E):wpAny (model X.prog X.w) X.A (call (.ref f) us) (EP X pins σ Q) X.xe s:=by
 have r2:Vals (vs++dvs) (us++ds):=r.append hd
 have hl:(us++ds).length=ps.length:=by rw[← r2.length]; exact F.len _ _ _ _ h
 refine wpAny_call (codeAny_mono (F.run X.A X.stack s H ⟨us,[]⟩ (us++ds) (vs++dvs) Q E hr I.env0 (hb s us I.kIn hl) r2 h) fun r s' hq=>?_)
 cases r with
 | error e=>exact hx pins σ H s e s' I hq
 | ok fl =>
  cases fl with
  | ret u=>exact I.after hq
  | next=>exact False.elim hq
  | brk=>exact False.elim hq
  | cont=>exact False.elim hq
theorem ao(F:FnOk X.prog X.w X.K X.mg X.base CX k f fd ps sp)(hr:Room k X.A)(hg:Gl X x)(hm:X.mg x=some (.ref f))(hk:keepIn X.K (.ref f)=true)(hb:Binds X.K fd ps ds)(hd:Vals dvs ds)(hx:fG CX X E)
  (ha:PA X (e::es) t) (hdb:(x == ("__debug__" : Str))=false:=by decide) (he:starEach (e::es) X.env=(false,eval e X.env)::starEach es X.env:=by rfl) (hpl:(backTo pos (starEach es X.env)).any (·.1)=false:=by rfl) :
  PE X (.Call (.Name x p) (e::es) [] pos) (yo sp dvs E t):=by
 intro pins s σ H Q I h
 refine wpAny_Call_Name_kw (eZ I hg hm ?_ hdb)
 refine callWith_K (h₀:=X.base) I.ok.mod.kin hk (thn (ha pos pins s σ H _ I h) fun us s1 ⟨vs,H1,I1,r,q⟩=>⟨I1.kIn,?_⟩) he hpl
 exact mU F hr hb hd hx I1 r q
theorem dW{pl:Sem Bool}(he:PE X o ta)(c:Cls X.K C)(hm:Meth X.K C m f)(F:FnOk X.prog X.w X.K X.mg X.base CX k f fd ps sp)(hr:Room k X.A)(hb:Binds X.K fd ps ds)(hd:Vals dvs ds)(hx:fG CX X E)(ha:PA X (e::es) t)
  (hst:starEach (e::es) X.env=(false,eval e X.env)::starEach es X.env:=by rfl) (hpl:(backTo pos (starEach es X.env)).any (·.1)=false:=by rfl)
  (ht:eval (.Call (.Attribute o m apos) (e::es) [] pos) X.env=(do
   let ov ← eval o X.env
   standAt apos.atName
   let (f,first) ← holding [ov] (getMethod ov m pl)
   callWith pos f first (backTo pos (starEach (e::es) X.env)) (backToKw pos (keywordEach [] X.env))):=by rfl) :
  PE X (.Call (.Attribute o m apos) (e::es) [] pos) (vM C m sp dvs E ta t):=by
 intro pins s σ H Q I h
 refine methodCall_KW (pl:=pl) (thn (he pins s σ H _ I h) fun u s1 ⟨x,H1,I1,rx,a,dx,fs,ex,ea,l,q⟩=>?_) ht
 subst ex
 obtain rfl:u=Value.ref a:=rx
 refine ja I1 ea c hm l ?_
 refine callWith_K (first:=[.ref a]) (h₀:=X.base) I.ok.mod.kin hm.kp (thn (ha pos pins s1 σ H1 _ I1 q) fun us s2 ⟨vs,H2,I2,r,q2⟩=>⟨I2.kIn,?_⟩) hst hpl
 exact mU (us:=.ref a::us) (vs:=.ref a::vs) F hr hb hd hx I2 (.cons rfl r) q2
theorem aR{pl:Sem Bool}(he:PE X o ta)(c:Cls X.K C)(hm:Meth X.K C m f)(F:FnOk X.prog X.w X.K X.mg X.base CX k f fd ps sp)(hr:Room k X.A)(hb:Binds X.K fd ps ds)(hd:Vals dvs ds)(hx:fG CX X E)
  (ht:eval (.Call (.Attribute o m apos) [] [] pos) X.env=(do
   let ov ← eval o X.env
   standAt apos.atName
   let (f,first) ← holding [ov] (getMethod ov m pl)
   callWith pos f first (backTo pos (starEach [] X.env)) (backToKw pos (keywordEach [] X.env))):=by rfl) :
  PE X (.Call (.Attribute o m apos) [] [] pos) (vM C m sp dvs E ta kX):=by
 intro pins s σ H Q I h
 refine methodCall_KW (pl:=pl) (thn (he pins s σ H _ I h) fun u s1 ⟨x,H1,I1,rx,a,dx,fs,ex,ea,l,q⟩=>?_) ht
 subst ex
 obtain rfl:u=Value.ref a:=rx
 refine ja I1 ea c hm l ?_
 exact PySem.W.callWith_K0 (first:=[.ref a]) I1.kIn hm.kp (mU (us:=[.ref a]) (vs:=[.ref a]) F hr hb hd hx I1 (.cons rfl .nil) q)
structure Mk(K:Frag)(C f:Addr):Prop where
 makes:makesIn K C=true
 init:findIn K (.ref C) "__init__" = some (some (.ref f))
 fn:isFn K (.ref f)=true
 kp:keepIn K (.ref C)=true
theorem qZ{pins:List (Addr×Obj)}{σ:St}{H:Hp}{s:Shared}{Q:VK}{us:List Value}{vs:List V}(M:Mk X.K C f)(F:FnOk X.prog X.w X.K X.mg X.base CX k f fd ps sp)(hr:Room (k+1) X.A)(hb:Binds X.K fd ps ds)(hd:Vals dvs ds)
  (hx:fG CX X E) (I:Inv X pins σ H s) (r:Vals vs us)
  (h:∀ x dx,H x=none→H dx=none→dx≠x→sp (.ref x::(vs++dvs)) (upd (upd H dx (.own x)) x (.ins C dx [])) (fun v H2=>v=.non∧Q (.ref x) H2) E) :
  wpAny (model X.prog X.w) X.A (call (.ref C) us) (EP X pins σ Q) X.xe s:=by
 have hq:=h (s.heap.objs.size+1) s.heap.objs.size (I.hok.fresh (Nat.le_succ _)) (I.hok.fresh (Nat.le_refl _)) (Nat.ne_of_lt (Nat.lt_succ_self _))
 have I2:=Inv.made (C:=C) I
 have r2:Vals (V.ref (s.heap.objs.size+1)::(vs++dvs)) (Value.ref (s.heap.objs.size+1)::(us++ds)):=.cons rfl (r.append hd)
 have hl:(Value.ref (s.heap.objs.size+1)::us++ds).length=ps.length:=by
  have e:=r2.length
  rw[F.len _ _ _ _ hq]at e
  exact e.symm
 refine wpAny_call (kU (f:=f) I.kIn M.makes M.init (beq_iff_eq.mp M.fn) (codeAny_mono (F.run _ X.stack _ _ ⟨Value.ref (s.heap.objs.size+1)::us,[]⟩ (Value.ref (s.heap.objs.size+1)::(us++ds)) _ _ E (hr.make C us [])
  (I2.env0.make C us []) (hb _ (Value.ref (s.heap.objs.size+1)::us) I2.kIn hl) r2 hq) fun r s' hq'=>?_))
 cases r with
 | error e=>exact hx pins σ _ _ e s' I2 hq'
 | ok fl =>
  cases fl with
  | ret u =>
   obtain ⟨v,H',I3,rv,ev,q3⟩:=I2.after hq'
   subst ev
   exact ⟨rv,⟨V.ref (s.heap.objs.size+1),H',I3,rfl,q3⟩⟩
  | next=>exact False.elim hq'
  | brk=>exact False.elim hq'
  | cont=>exact False.elim hq'
theorem fO(M:Mk X.K C f)(F:FnOk X.prog X.w X.K X.mg X.base CX k f fd ps sp)(hr:Room (k+1) X.A)(hg:Gl X x)(hm:X.mg x=some (.ref C))(hb:Binds X.K fd ps ds)(hd:Vals dvs ds)(hx:fG CX X E)
  (ha:PA X (e::es) t) (hdb:(x == ("__debug__" : Str))=false:=by decide) (he:starEach (e::es) X.env=(false,eval e X.env)::starEach es X.env:=by rfl) (hpl:(backTo pos (starEach es X.env)).any (·.1)=false:=by rfl) :
  PE X (.Call (.Name x p) (e::es) [] pos) (yC C sp dvs E t):=by
 intro pins s σ H Q I h
 refine wpAny_Call_Name_kw (eZ I hg hm ?_ hdb)
 refine callWith_K (h₀:=X.base) I.ok.mod.kin M.kp (thn (ha pos pins s σ H _ I h) fun us s1 ⟨vs,H1,I1,r,q⟩=>⟨I1.kIn,?_⟩) he hpl
 exact qZ M F hr hb hd hx I1 r q
end
section
variable {X:Cx}{CX:CXT}{k:Nat}{f C:Addr}{fd:FuncData}{ps ks:List Str}{sp:Sp}{E:XK}{x m:Str}{p pos apos kpos:Pos}{e o:Expr}{es:List Expr}{kws:List Keyword}{te ta:TE}{t tk:TA}{nm:Option Str}
variable {g:List Value→List Value→List Value}{gV:List V→List V→List V}
end
structure FnScope(N P:List Str)(sc:Scope):Prop where
 kind:sc.kind=.function
 co:sc.isCoroutine=false
 gen:sc.isGenerator=false
 nd:N.Nodup
 pre:N.take P.length=P
 par:∀ x ∈ P,sc.names.lookup x = some .local∨sc.names.lookup x = some .cell
 nofree:∀ y∈sc.names,y.2≠.free
theorem jT{kindOf:Str→Option NameKind}{x:Str}:∀{binds:List (Str×Value)}{m:Str→Option Value},(∀ v,(x,v) ∉ binds)→bindL kindOf binds m x=m x
 | [],_,_=>rfl
 | (n,v)::r,m,h=>by
  unfold bindL
  rw[jT fun w hw=>h w (mem_cons_of_mem _ hw)]
  split
  ·have:x≠n:=by rintro rfl; exact h v mem_cons_self
   simp[this]
  ·rfl
theorem jF{kindOf:Str→Option NameKind}{x:Str}:∀{binds:List (Str×Value)}{m:Str→Option Value},(∀ v,(x,v) ∉ binds)→bindC kindOf binds m x=m x
 | [],_,_=>rfl
 | (n,v)::r,m,h=>by
  unfold bindC
  rw[jF fun w hw=>h w (mem_cons_of_mem _ hw)]
  split
  ·rfl
  ·have:x≠n:=by rintro rfl; exact h v mem_cons_self
   simp[this]
theorem jG{kindOf:Str→Option NameKind}{x:Str}{v:Value}:∀{P:List Str}{vs:List Value}{i:Nat}{m:Str→Option Value},P.Nodup→P[i]? = some x→vs[i]? = some v→kindOf x = some .local →
  bindL kindOf (P.zip vs) m x=some v
 | [],_,_,_,_,h,_,_=>by simp at h
 | _::_,[],_,_,_,_,h,_=>by simp at h
 | p::P,w::vs,0,m,nd,h1,h2,hk=>by
  simp at h1 h2; subst h1; subst h2
  show bindL kindOf ((p,w)::P.zip vs) m p=_
  unfold bindL
  rw[jT fun v hv=>(nodup_cons.mp nd).1 (of_mem_zip hv).1,if_pos hk]
  simp
 | p::P,w::vs,i+1,m,nd,h1,h2,hk=>by
  show bindL kindOf ((p,w)::P.zip vs) m x=_
  unfold bindL
  exact jG (i:=i) (nodup_cons.mp nd).2 (by simpa using h1) (by simpa using h2) hk
theorem jN{kindOf:Str→Option NameKind}{x:Str}{v:Value}:∀{P:List Str}{vs:List Value}{i:Nat}{m:Str→Option Value},P.Nodup→P[i]? = some x→vs[i]? = some v→kindOf x≠some .local →
  bindC kindOf (P.zip vs) m x=some v
 | [],_,_,_,_,h,_,_=>by simp at h
 | _::_,[],_,_,_,_,h,_=>by simp at h
 | p::P,w::vs,0,m,nd,h1,h2,hk=>by
  simp at h1 h2; subst h1; subst h2
  show bindC kindOf ((p,w)::P.zip vs) m p=_
  unfold bindC
  rw[jF fun v hv=>(nodup_cons.mp nd).1 (of_mem_zip hv).1,if_neg hk]
  simp
 | p::P,w::vs,i+1,m,nd,h1,h2,hk=>by
  show bindC kindOf ((p,w)::P.zip vs) m x=_
  unfold bindC
  exact jN (i:=i) (nodup_cons.mp nd).2 (by simpa using h1) (by simpa using h2) hk
def start(N:List Str)(vs:List V):St:=vs.map some++List.replicate (N.length - vs.length) none
def eK(CX:CXT)(P:Program)(w:World)(K:Frag)(mg:Str→Option Value)(base:Heap)(N:List Str)(qual:Str)(scope:Scope)(f:Addr)(cd:Value)(A:Around)(outer:List Env)(s:Shared)(H:Hp)(E:XK):Cx where
 prog:=P
 w:=w
 K:=K
 mg:=mg
 base:=base
 A:=A.deeper (envOfC qual scope s.heap.objs.size f cd)
 N:=N
 s₀:=s
 H₀:=H
 env:=envOfC qual scope s.heap.objs.size f cd
 outer:=outer
 stack:=envOfC qual scope s.heap.objs.size f cd::outer
 ex:=[]
 calm:=true
 fn:=fun _=>true
 pn:=[]
 xe:=fun e s'=>wpAny (model P w) (A.deeper (envOfC qual scope s.heap.objs.size f cd)) (leaving (envOfC qual scope s.heap.objs.size f cd) e) (fun _ s''=>CX outer H s E e s'') (fun e' s''=>CX outer H s E e' s'') s'
theorem lC{sc:Scope}{n:Nat}{x:Str}(h:sc.names.lookup x=some .cell):∃ c,(cellsFrom n sc.names []).lookup x=some c:=by
 have q:=cellsFrom_some sc.names n [] (.inl h)
 exact Option.isSome_iff_exists.mp q
theorem jC{CX:CXT}{P:Program}{w:World}{K:Frag}{mg:Str→Option Value}{base:Heap}{N ps:List Str}{qual:Str}{scope:Scope}{f:Addr}{cd:Value}{A:Around}{outer:List Env}{s s1:Shared}{H:Hp}{E:XK}{us:List Value}{vs:List V}
  (S:FnScope N ps scope) (hd:A.handled=none) (e0:Env0 P w K mg base A outer s H) (hl:vs.length=ps.length) (r:Vals vs us)
  (x:InCallC s s.heap.objs.size (bindL (envOfC qual scope s.heap.objs.size f cd).kindOf (ps.zip us) fun _=>none) (cellsFrom (s.heap.objs.size+1) scope.names []) (bindC (envOfC qual scope s.heap.objs.size f cd).kindOf (ps.zip us) fun _=>none) s1) :
  Inv (eK CX P w K mg base N qual scope f cd A outer s H E) [] (start N vs) H s1:=by
 have hpl:ps.length≤N.length:=by have:=congrArg List.length S.pre; rw[length_take]at this; lia
 obtain ⟨h1,tk,rfl,hk⟩:=x.done
 have noA:∀ b:Addr,b ∉ (eK CX P w K mg base N qual scope f cd A outer s H E).ex:=fun b z=>absurd (show b∈([]:List Addr) from z) (by simp)
 refine ⟨⟨e0.mod,S.kind,rfl,rfl,Nat.le_refl _,fun y z c h1 h2=>?_,fun y hy=>?_,fun y c _ h=>?_,fun _=>hd,Around.frames_deeper e0.frames,.inr ⟨rfl,rfl⟩,fun b z=>absurd z (noA b),e0.bs,e0.bsz,fun b _ _=>noA b,fun b z=>absurd z (noA b),e0.funs,e0.frf⟩,
  rfl,e0.bare,Un.kept hk,⟨_,x.toInCall.ns,fun i y v h1 h2 h3=>?_⟩,fun y c h=>⟨_,x.cell y c h⟩,e0.hok.fresh (Nat.le_refl _),fun y c h=>?_,fun p hp=>absurd (show p∈([]:List (Addr×Obj)) from hp) (by simp),e0.hok.kept hk,?_⟩
 ·exact name_of_addr x.apart (PySem.mem_of_lookup h1) (PySem.mem_of_lookup h2)
 ·have hy:scope.names.lookup y=some .cell∨scope.names.lookup y=some .free:=hy
  rcases hy with hy | hy
  ·exact lC hy
  ·exact absurd rfl (S.nofree _ (PySem.mem_of_lookup hy))
 ·exact Nat.le_of_lt (x.above y c (PySem.mem_of_lookup h))
 ·have hi:i<vs.length:=by
   unfold start at h2
   by_cases hi:i<vs.length
   ·exact hi
   ·rw[List.getElem?_append_right (by simpa using hi)]at h2
    rw[List.getElem?_replicate]at h2
    split at h2 <;> cases h2
  have ha:vs[i]? = some v:=by
   unfold start at h2
   rw[List.getElem?_append_left (by simpa using hi),List.getElem?_map]at h2
   cases e:vs[i]? with
   | none=>rw[e]at h2; cases h2
   | some a=>rw[e]at h2; cases h2; rfl
  obtain ⟨u,hu,rv⟩:=r.get ha
  have hp:ps[i]? = some y:=by
   rw[← S.pre,List.getElem?_take_of_lt (by lia)]; exact h1
  have ndP:ps.Nodup:=by rw[← S.pre]; exact S.nd.sublist (List.take_sublist _ _)
  refine ⟨u,rv,?_⟩
  rcases S.par y (List.mem_of_getElem? hp) with k | k
  ·exact .inl ⟨k,jG ndP hp hu k⟩
  ·obtain ⟨c,e⟩:=lC (n:=s.heap.objs.size+1) k
   refine .inr ⟨.inl k,c,e,?_⟩
   have q:=x.cell y c e
   rw[jN ndP hp hu (by show scope.names.lookup y≠_; rw[k]; decide)]at q
   exact q
 ·exact e0.hok.fresh (Nat.le_of_lt (x.above y c (PySem.mem_of_lookup h)))
 ·unfold start
  show _=N.length
  rw[length_append,length_map,List.length_replicate]
  lia
theorem vA{CX:CXT}{P:Program}{w:World}{K:Frag}{mg:Str→Option Value}{base:Heap}{k:Nat}{f:Addr}{name qual:Str}{params:Arguments}{body:List Stmt}{scope:Scope}{dV kV doc pm cdv ct oc:Value}{an od:Option Addr}
  {osl:Array (Option Value)}{N ps:List Str}{sp:Sp}(lk:K.lookup f=some ⟨oc,od,.func (fnOf name qual params body scope dV kV doc pm an cdv ct),osl⟩) (hcd:codeIn K cdv qual=true) (S:FnScope N ps scope)
  (len:∀ vs H Q E,sp vs H Q E→vs.length=ps.length)
  (hbody:∀(A:Around) (outer:List Env) (s:Shared) (H:Hp) (vs:List V) (Q:VK) (E:XK),Room k (A.deeper (envOfC qual scope s.heap.objs.size f cdv))→sp vs H Q E →
   ∃ t,PSs (eK CX P w K mg base N qual scope f cdv A outer s H E) body t∧t { nx:=fun _ H'=>Q .non H',rt:=Q } (start N vs) H) :
  FnOk P w K mg base CX (k+1) f (fnOf name qual params body scope dV kV doc pm an cdv ct) ps sp:=by
 refine ⟨len,fun A outer s H args us vs Q E hr e0 hb r hsp=>?_⟩
 have hl:=len _ _ _ _ hsp
 have KX:K.In s.heap:=e0.mod.kin.keeps fun b o e=>(e0.bs b o e).1
 have lim:s.heap.NoLimit:=e0.mod.nolimit.keeps fun b o e=>(e0.bs b o e).1
 have hkind:∀ y ∈ ps.zip us,scope.names.lookup y.1 = some .local∨(scope.names.lookup y.1 = some .cell∧((cellsFrom (s.heap.objs.size + 1) scope.names []).lookup y.1).isSome = true):=fun ⟨n,v⟩ hy=>by
  rcases S.par n (of_mem_zip hy).1 with q | q
  ·exact .inl q
  ·exact .inr ⟨q,cellsFrom_some _ _ _ (.inl q)⟩
 refine codeAny_call_function hr.depth (KX _ _ lk) rfl S.co S.gen rfl (codeRec_of KX hcd) (hb _ _ _ _ ?_)
 refine wpAny_newFunctionEnv_cells S.kind hkind fun env he s1 x=>?_
 subst he
 refine ⟨lim.keeps x.toInCall.keep,codeAny_func ?_⟩
 obtain ⟨t,ht,hq⟩:=hbody A outer s H vs Q E (hr.deeper _) hsp
 have I:Inv (eK CX P w K mg base N qual scope f cdv A outer s H E) [] (start N vs) H s1:=jC S hr.hd e0 hl r x
 refine wpAny_mono (ht [] s1 (start N vs) H _ I hq) (fun fl s' hs=>?_) fun e s' hs=>hs
 have fin:∀{σ':St}{H':Hp}{v:V}{u:Value},Inv (eK CX P w K mg base N qual scope f cdv A outer s H E) [] σ' H' s'→RelV v u→Q v H'→CE outer P w H s Q u s' :=
  fun {σ' H' v u} J rv q=>⟨v,H',J.os,J.bare,J.base,J.hok,rv,q⟩
 cases fl with
 | ret u =>
  obtain ⟨v,σ',H',J,rv,q⟩:=hs
  exact fin J rv q
 | next =>
  obtain ⟨σ',H',J,q⟩:=hs
  exact fin (v:=V.non) (u:=Value.none) J rfl q
 | brk =>
  obtain ⟨_,_,_,q⟩:=hs
  exact False.elim q
 | cont =>
  obtain ⟨_,_,_,q⟩:=hs
  exact False.elim q
section
variable {X:Cx}{x:Str}{p pos:Pos}{e:Expr}{es:List Expr}{t:TA}{id T:String}{r:List V→Hp→VK→Prop}
def tCB(r:List V→Hp→VK→Prop)(t:TA):TE:=fun σ H Q=>t σ H fun vs H1=>r vs H1 Q
theorem az(hc:CallR X (.builtin id) r)(hg:Gl X x)(hm:X.mg x=none)(hv:bootBuiltins x=some (.builtin id))(ha:PA X (e::es) t)(hn:x ≠ "__name__" := by decide)(hdb:(x == ("__debug__" : Str))=false:=by decide)
  (he:starEach (e::es) X.env=(false,eval e X.env)::starEach es X.env:=by rfl) (hpl:(backTo pos (starEach es X.env)).any (·.1)=false:=by rfl):PE X (.Call (.Name x p) (e::es) [] pos) (tCB r t):=by
 intro pins s σ H Q I h
 refine wpAny_Call_Name_kw (fB I hg hm hv ?_ hn hdb)
 exact PyProof.Rows.callWith_builtin1 (thn (ha pos pins s σ H _ I h) fun us s1 ⟨vs,H1,I1,r1,q1⟩=>hc pins s1 σ H1 vs us Q I1 r1 q1) he hpl
theorem aL(hc:CallR X (.type T) r)(hg:Gl X x)(hm:X.mg x=none)(hv:bootBuiltins x=some (.type T))(ha:PA X (e::es) t)(hn:x ≠ "__name__" := by decide)(hdb:(x == ("__debug__" : Str))=false:=by decide)
  (he:starEach (e::es) X.env=(false,eval e X.env)::starEach es X.env:=by rfl) (hpl:(backTo pos (starEach es X.env)).any (·.1)=false:=by rfl):PE X (.Call (.Name x p) (e::es) [] pos) (tCB r t):=by
 intro pins s σ H Q I h
 refine wpAny_Call_Name_kw (fB I hg hm hv ?_ hn hdb)
 exact PyProof.Rows.callWith_type1 (thn (ha pos pins s σ H _ I h) fun us s1 ⟨vs,H1,I1,r1,q1⟩=>hc pins s1 σ H1 vs us Q I1 r1 q1) he hpl
end
end L2
namespace HT
open PySem PyProof.Rows
section
open PySem.SeqAt
open PySem.AutoSeq1 (wpAny_loadPart')
open PySem.MeetsSeq PySem.MeetsSeq2 PySem.MeetsSeq3
end
section
variable {prog:Program}{w:World}{A:Around}{E:Value→Shared→Prop}{s:Shared}
def sIx(n d:Nat):Option Int→Nat
 | none=>d
 | some v=>if v<0 then (v+(n:Int)).toNat else min v.toNat n
theorem sIx_none(n d:Nat):sIx n d none=d:=rfl
theorem sIx_nat(n d k:Nat):sIx n d (some (k:Int))=min k n:=by
 show (if (k:Int)<0 then ((k:Int)+(n:Int)).toNat else min (k:Int).toNat n)=min k n
 rw[if_neg (by lia),Int.toNat_natCast]
theorem sIx_le(n d:Nat)(hd:d≤n)(o:Option Int):sIx n d o≤n:=by
 cases o with
 | none=>exact hd
 | some v =>
  show (if v<0 then (v+(n:Int)).toNat else min v.toNat n)≤n
  by_cases hv:v<0
  ·rw[if_pos hv]; lia
  ·rw[if_neg hv]; exact Nat.min_le_right _ _
theorem m5(v:Int)(n d:Nat):(if v<0 then max (v+(n:Int)) 0 else min v (n:Int))=((sIx n d (some v):Nat):Int):=by
 show (if v<0 then max (v+(n:Int)) 0 else min v (n:Int))=(((if v<0 then (v+(n:Int)).toNat else min v.toNat n):Nat):Int)
 by_cases hv:v<0
 ·simp only[if_pos hv]; lia
 ·simp only[if_neg hv]; lia
theorem mh(lo hi:Option Int)(n:Nat):Builtin.Slice.sliceAdjust lo hi 1 (n:Int)=(((sIx n 0 lo:Nat):Int),((sIx n n hi:Nat):Int)):=by
 have h1:¬((1:Int)<0):=by lia
 unfold Builtin.Slice.sliceAdjust
 simp only[h1,if_false]
 refine Prod.ext ?_ ?_
 ·cases lo with
  | none=>rfl
  | some v=>exact m5 v n 0
 ·cases hi with
  | none=>rfl
  | some v=>exact m5 v n n
theorem mJ(i j:Nat):Builtin.Slice.slicePlaces (i:Int) (j:Int) 1=j - i:=by
 unfold Builtin.Slice.slicePlaces
 have h1:(1:Int) > 0:=by lia
 simp only[h1,if_true,Int.ediv_one]
 split <;> lia
theorem jh{v:Value}{o:Option Int}{Q:Option Int→Shared→Prop}(p:IsPart v o)(h:Q o s):wpAny (model prog w) A (Builtin.Slice.slicePartIndex v) Q E s:=by
 cases p with
 | none=>exact slicePart_none h
 | int i t=>exact slicePart_int h
theorem gU{sl:Addr}{vl vu:Value}{lo hi:Option Int}{n:Nat}{Q:Int×Int×Nat→Shared→Prop}(hs:s.heap.IsSliceOf sl vl vu .none)(pl:IsPart vl lo)(pu:IsPart vu hi)
  (h:Q (((sIx n 0 lo:Nat):Int),1,sIx n n hi - sIx n 0 lo) s):wpAny (model prog w) A (Builtin.Slice.sliceApplied (.ref sl) (pure (n:Int))) Q E s:=by
 obtain ⟨os,hos,hcs,hds⟩:=id hs
 unfold Builtin.Slice.sliceApplied Builtin.Slice.sliceFields
 refine wpAny_bind (wpAny_bind (wpAny_field hos hds (x:=vl) rfl (wpAny_bind (wpAny_field hos hds (x:=vu) rfl (wpAny_bind (wpAny_field hos hds (x:=.none) rfl (wpAny_pure ?_)))))))
 refine wpAny_bind (slicePart_none ?_)
 show wpAny _ _ (if ((1:Int) == 0)=true then _ else _) _ _ s
 rw[if_neg (by decide)]
 refine wpAny_bind (jh pl (wpAny_bind (jh pu (wpAny_bind (wpAny_pure ?_)))))
 show wpAny _ _ (match Builtin.Slice.sliceAdjust lo hi 1 (n:Int) with | (lo,hi)=>pure (lo,(1:Int),Builtin.Slice.slicePlaces lo hi 1)) _ _ s
 rw[mh lo hi n]
 show wpAny _ _ (pure (((sIx n 0 lo:Nat):Int),(1:Int),Builtin.Slice.slicePlaces ((sIx n 0 lo:Nat):Int) ((sIx n n hi:Nat):Int) 1)) _ _ s
 rw[mJ]
 exact wpAny_pure h
theorem qG(xs:Array Value)(i k:Nat):((List.range k).filterMap fun (m:Nat)=>xs[((i:Int)+(m:Int)*1).toNat]?).toArray=((xs.toList.drop i).take k).toArray:=by
 have e:(fun (m:Nat)=>xs[((i:Int)+(m:Int)*1).toNat]?)=fun m=>xs[i+m]?:=by
  funext m
  have:((i:Int)+(m:Int)*1).toNat=i+m:=by lia
  rw[this]
 rw[e]
 have:=pick_run xs i k
 rw[List.filterMap_map]at this
 have e2:((fun x=>xs[x]?) ∘ fun x=>i+x)=fun m=>xs[i+m]?:=rfl
 rw[e2]at this
 rw[this]
theorem getItem_tuple_cut{t sl:Addr}{items:Array Value}{vl vu:Value}{lo hi:Option Int}{Q:Value→Shared→Prop}(ht:IsTup s.heap t items)(hs:s.heap.IsSliceOf sl vl vu .none)(pl:IsPart vl lo)(pu:IsPart vu hi)
  (hw:¬(sIx items.size 0 lo=0∧sIx items.size items.size hi=items.size))
  (h:Q (.ref s.heap.objs.size) { s with heap:=s.heap.push { cls:=.type "tuple",data:=.seq ((items.toList.drop (sIx items.size 0 lo)).take (sIx items.size items.size hi - sIx items.size 0 lo)).toArray } })
  (hsz:items.size≤sizeLine):wpAny (model prog w) A (getItem (.ref t) (.ref sl)) Q E s:=by
 have htake:sizeOk (.seq ((items.toList.drop (sIx items.size 0 lo)).take (sIx items.size items.size hi - sIx items.size 0 lo)).toArray):=by
  show ((items.toList.drop (sIx items.size 0 lo)).take (sIx items.size items.size hi - sIx items.size 0 lo)).toArray.size≤sizeLine
  rw[size_toArray,length_take,List.length_drop,Array.length_toList]
  lia
 have hj:sIx items.size items.size hi≤items.size:=sIx_le _ _ (Nat.le_refl _) hi
 obtain ⟨os,hos,hcs,hds⟩:=id hs
 have hTs:s.TypeIs (.ref sl) "slice" := ⟨os,hos,hcs⟩
 unfold getItem
 try with_reducible refine wpAny_holding ?_
 first | refine wpAny_bind (wpAny_pure ?_) | skip
 refine wpAny_bind (wpAny_sequenceKey ht.typeIs (by decide) ?_)
 refine wpAny_bind (wpAny_callSpecial?_slot (name:=Str.ofString "__getitem__") ht.typeIs PyProof.Rows.slot_tuple_getitem
  (wpAny_call_entry PyProof.Rows.slot_tuple_getitem ht.typeIs entry_tuple_getitem ?_ (args_tuple_getitem _ _)))
 show wpAny _ _ (Builtin.Tuple.tupleItemsOf (.ref t) >>= _) _ _ s
 refine wpAny_bind (tupleItemsOf_ ht ?_)
 refine wpAny_bind (wpAny_typeOf hTs ?_)
 rw[if_pos (by decide)]
 refine wpAny_bind (gU hs pl pu ?_)
 have hno:¬((((sIx items.size 0 lo:Nat):Int) == 0 && (1:Int) == 1 && (sIx items.size items.size hi - sIx items.size 0 lo) == items.size)=true):=by
  intro q
  rw[Bool.and_eq_true,Bool.and_eq_true]at q
  have q1:((sIx items.size 0 lo:Nat):Int)=0:=eq_of_beq q.1.1
  have q2:sIx items.size items.size hi - sIx items.size 0 lo=items.size:=eq_of_beq q.2
  exact hw ⟨by lia,by lia⟩
 show wpAny _ _ (if (((sIx items.size 0 lo:Nat):Int) == 0 && (1:Int) == 1 && (sIx items.size items.size hi - sIx items.size 0 lo) == items.size)=true then _ else _) _ _ s
 rw[if_neg hno,qG]
 first
  | exact wpAny_bind (m:=Builtin.Tuple.tupleExact _) (wpAny_newObj_type (wpAny_pure ⟨_,rfl,wpAny_pure h⟩) htake)
  | exact wpAny_bind (m:=Builtin.Tuple.tupleExact _) (wpAny_newObj_type (wpAny_bind (wpAny_pure (wpAny_pure ⟨_,rfl,wpAny_pure h⟩))) htake)
  | exact wpAny_bind (wpAny_bind (m:=Builtin.Tuple.tupleExact _) (wpAny_newObj_type (wpAny_pure (wpAny_pure ⟨_,rfl,wpAny_pure h⟩)) htake))
  | exact wpAny_bind (wpAny_bind (m:=Builtin.Tuple.tupleExact _) (wpAny_newObj_type (wpAny_pure ⟨_,rfl,wpAny_pure h⟩) htake))
end
end HT
namespace L2
open PySem PySem.Spec PyProof.Rows
abbrev TO:=St→Hp→(Option Int→Hp→Prop)→Prop
def PO(X:Cx)(e:Option Expr)(t:TO):Prop :=
 ∀(pins:List (Addr×Obj)) (s:Shared) (σ:St) (H:Hp) (Q:Option Int→Hp→Prop),Inv X pins σ H s→t σ H Q →
  wpAny (model X.prog X.w) X.A (evalPart e X.env) (fun u s'=>∃ o H',Inv X pins σ H' s'∧IsPart u o∧Q o H') X.xe s
def sU:TO:=fun _ H Q=>Q none H
def yk(t:TE):TO:=fun σ H Q=>t σ H fun x H1=>∃ i,x=.int i∧Q (some i) H1
section
variable {X:Cx}{e:Expr}{te:TE}{lo hi:Option Expr}{tl th:TO}{pos p2:Pos}
theorem iA:PO X none sU:=by
 intro pins s σ H Q I h
 rw[evalPart_none]
 exact wpAny_pure ⟨none,H,I,.none,h⟩
theorem iz(h:PE X e te):PO X (some e) (yk te):=by
 intro pins s σ H Q I hw
 rw[evalPart_some]
 refine thn (h pins s σ H _ I hw) fun u s1 ⟨x,H1,I1,r1,q1⟩=>?_
 obtain ⟨i,rfl,q⟩:=q1
 obtain ⟨t,rfl⟩:=r1
 exact ⟨some i,H1,I1,.int i t,q⟩
def SlR(X:Cx)(r:V→Option Int→Option Int→Hp→VK→Prop):Prop :=
 ∀(pins:List (Addr×Obj)) (s:Shared) (σ:St) (H:Hp) (x:V) (v vl vu:Value) (lo hi:Option Int) (sl:Addr) (Q:VK),Inv X pins σ H s→RelV x v→s.heap.IsSliceOf sl vl vu .none→IsPart vl lo→IsPart vu hi→r x lo hi H Q →
  ∃ T id,typeLookup (.type T) "__getitem__" = pure (some (.builtin id))∧s.TypeIs v T∧wpAny (model X.prog X.w) X.A (getItem v (.ref sl)) (EP X pins σ Q) X.xe s
theorem SlR.or{r r':V→Option Int→Option Int→Hp→VK→Prop}(h:SlR X r)(h':SlR X r'):SlR X (fun x lo hi H Q=>r x lo hi H Q∨r' x lo hi H Q):=by
 intro pins s σ H x v vl vu lo hi sl Q I rx hs pl pu q
 rcases q with q | q
 ·exact h pins s σ H x v vl vu lo hi sl Q I rx hs pl pu q
 ·exact h' pins s σ H x v vl vu lo hi sl Q I rx hs pl pu q
def tSl(r:V→Option Int→Option Int→Hp→VK→Prop)(te:TE)(tl th:TO):TE:=fun σ H Q=>te σ H fun x H1=>tl σ H1 fun l H2=>th σ H2 fun u H3=>r x l u H3 Q
theorem gL{r:V→Option Int→Option Int→Hp→VK→Prop}(hr:SlR X r)(he:PE X e te)(hl:PO X lo tl)(hu:PO X hi th):PE X (.Subscript e (.Slice lo hi none p2) pos) (tSl r te tl th):=by
 intro pins s σ H Q I h
 refine Subscript_ (thn (he pins s σ H _ I h) fun v s1 ⟨x,H1,I1,r1,q1⟩=>?_)
 refine wpAny_Slice (thn (hl pins s1 σ H1 _ I1 q1) fun vl s2 ⟨l,H2,I2,pl,q2⟩=>thn (hu pins s2 σ H2 _ I2 q2) fun vu s3 ⟨u,H3,I3,pu,q3⟩=>?_)
 rw[evalPart_none]
 refine wpAny_pure ?_
 have I4:Inv X pins σ H3 { s3 with heap:=s3.heap.push { cls:=.type "slice",data:=.fields #[vl,vu,.none] } }:=I3.kept (t':=s3.toks) fun b ob q=>Heap.get?_push_of_some _ q
 obtain ⟨T,id,hT,ht,hg⟩:=hr pins { s3 with heap:=s3.heap.push { cls:=.type "slice",data:=.fields #[vl,vu,.none] } } σ H3 x v vl vu l u s3.heap.objs.size Q I4 r1 (Heap.IsSliceOf.new ..) pl pu q3
 show wpAny (model X.prog X.w) X.A (subscriptTail e (.Slice lo hi none p2) v (.ref s3.heap.objs.size)) (EP X pins σ Q) X.xe { s3 with heap:=s3.heap.push { cls:=.type "slice",data:=.fields #[vl,vu,.none] } }
 exact tail_any (ops:=[.ref s3.heap.objs.size,v]) ht hT hg (by with_unfolding_all rfl)
def dg(xs:List V)(lo hi:Option Int):List V:=(xs.drop (HT.sIx xs.length 0 lo)).take (HT.sIx xs.length xs.length hi - HT.sIx xs.length 0 lo)
theorem ia(xs:List V)(lo hi:Option Int):(dg xs lo hi).length≤xs.length:=by
 unfold dg
 rw[length_take,List.length_drop]
 lia
def zf(K:Frag):V→Option Int→Option Int→Hp→VK→Prop:=fun x lo hi H Q=>∃ a xs,x=.ref a∧SqT K H a xs ∧
 ¬(HT.sIx xs.length 0 lo=0∧HT.sIx xs.length xs.length hi=xs.length)∧∀ p,H p=none→Q (.ref p) (upd H p (.tup (dg xs lo hi)))
theorem sl_tup:SlR X (zf X.K):=by
 intro pins s σ H x v vl vu lo hi sl Q I rx hs pl pu h
 obtain ⟨a,xs,rfl,hx,hw,q⟩:=h
 cases rx
 obtain ⟨its,r,ht,hz⟩:=I.tuple hx
 have hlen:its.toArray.size=xs.length:=by rw[size_toArray]; exact r.length.symm
 refine ⟨"tuple",_,PyProof.Rows.slot_tuple_getitem.lookup,ht.typeIs,?_⟩
 refine HT.getItem_tuple_cut ht hs pl pu (by rw[hlen]; exact hw) ?_ (by rw[hlen]; exact hz)
 rw[hlen]
 refine ⟨.ref s.heap.objs.size,_,I.laid (t':=s.toks) (o:=.tup (dg xs lo hi)) (fun b ob q=>Heap.get?_push_of_some _ q) (Nat.le_refl _) ?_,rfl,q _ (I.hok.fresh (Nat.le_refl _))⟩
 exact ⟨Nat.le_trans (ia xs lo hi) hz,_,(r.drop (HT.sIx xs.length 0 lo)).take (HT.sIx xs.length xs.length hi - HT.sIx xs.length 0 lo),IsTup.new _ _⟩
end
def ixN(n:Nat)(i:Int):Option Nat:=if 0≤i then (if i<n then some i.toNat else none) else if -(n:Int)≤i then some (i+n).toNat else none
def atI{α:Type}(xs:List α)(i:Int):Option α:=(ixN xs.length i).bind fun j=>xs[j]?
theorem kD{n:Nat}{i:Int}{j:Nat}(h:ixN n i=some j):seqIndex? i n=some j∧j<n∧-(n:Int)≤i∧i<n:=by
 unfold ixN at h
 by_cases h0:0≤i
 ·rw[if_pos h0]at h
  by_cases h1:i<n
  ·rw[if_pos h1]at h
   have e:i.toNat=j:=Option.some.inj h
   exact ⟨by rw[seqIndex_of h0 h1,e],by lia,by lia,h1⟩
  ·rw[if_neg h1]at h; cases h
 ·rw[if_neg h0]at h
  by_cases h1:-(n:Int)≤i
  ·rw[if_pos h1]at h
   have e:(i+n).toNat=j:=Option.some.inj h
   exact ⟨by rw[seqIndex_neg (by lia) h1,e],by lia,h1,by lia⟩
  ·rw[if_neg h1]at h; cases h
theorem kl{α:Type}{xs:List α}{i:Int}{v:α}(h:atI xs i=some v):∃ j,seqIndex? i xs.length=some j∧xs[j]? = some v∧j<xs.length∧-(xs.length:Int)≤i∧i<xs.length:=by
 unfold atI at h
 cases e:ixN xs.length i with
 | none=>rw[e]at h; cases h
 | some j =>
  rw[e]at h
  obtain ⟨h1,h2,h3,h4⟩:=kD e
  exact ⟨j,h1,h,h2,h3,h4⟩
theorem bg{α:Type}{xs:List α}{j:Nat}{v:α}(h:xs[j]? = some v):atI xs (j:Int)=some v:=by
 have hj:j<xs.length:=(List.getElem?_eq_some_iff.mp h).1
 have e:ixN xs.length (j:Int)=some j:=by
  unfold ixN
  rw[if_pos (by lia),if_pos (by lia)]; simp
 unfold atI; rw[e]; exact h
theorem rh{α:Type}(xs:List α)(v:α):atI (xs++[v]) (-1)=some v:=by
 have hl:(xs++[v]).length=xs.length+1:=by simp
 have e:ixN (xs++[v]).length (-1)=some xs.length:=by
  unfold ixN
  rw[hl,if_neg (by decide),if_pos (by lia)]
  congr 1
  lia
 unfold atI
 rw[e]
 show (xs++[v])[xs.length]? = some v
 simp
def tL(b:Expr):Prop:=∀ o i,subscripted b false o i=operate [o,i] (getItem o i)
def IxR(X:Cx)(r:R2):Prop :=
 ∀(value slice:Expr) (pins:List (Addr×Obj)) (s:Shared) (σ:St) (H:Hp) (x y:V) (v u:Value) (Q:VK),Inv X pins σ H s→RelV x v→RelV y u→r x y H Q →
  subscripted slice false v u=operate [v,u] (getItem v u)→wpAny (model X.prog X.w) X.A (subscriptTail value slice v u) (EP X pins σ Q) X.xe s
def MtR(X:Cx)(id:String)(r:V→List V→Hp→VK→Prop):Prop :=
 ∀(pins:List (Addr×Obj)) (s:Shared) (σ:St) (H:Hp) (x:V) (xs:List V) (v:Value) (us:List Value) (Q:VK),Inv X pins σ H s→RelV x v→Vals xs us→r x xs H Q →
  wpAny (model X.prog X.w) X.A (call (.builtin id) (v::us)) (EP X pins σ Q) X.xe s
section
variable {X:Cx}{a b:Expr}{ta tb:TE}{pos:Pos}
theorem IxR.or{r r':R2}(h:IxR X r)(h':IxR X r'):IxR X (fun x y H Q=>r x y H Q∨r' x y H Q):=by
 intro value slice pins s σ H x y v u Q I rx ry q hs
 rcases q with q | q
 ·exact h value slice pins s σ H x y v u Q I rx ry q hs
 ·exact h' value slice pins s σ H x y v u Q I rx ry q hs
theorem ax{r:R2}(hr:IxR X r)(ha:PE X a ta)(hb:PE X b tb)(hs:tL b):PE X (.Subscript a b pos) (tOp r ta tb):=by
 intro pins s σ H Q I h
 exact Subscript_ (wU ha hb I h fun v u s2 x y H2 I2 rx ry q=>hr a b pins s2 σ H2 x y v u Q I2 rx ry q (hs _ _))
inductive rIxL(K:Frag)(x y:V)(H:Hp)(Q:VK):Prop
 | mk(p:Addr)(xs:List V)(i:Int)(v:V)(h0:x=.ref p)(h1:y=.int i)(h2:SqL K H p xs)(h3:atI xs i=some v)(h4:Q v H):rIxL K x y H Q
inductive rIxT(K:Frag)(x y:V)(H:Hp)(Q:VK):Prop
 | mk(p:Addr)(xs:List V)(i:Int)(v:V)(h0:x=.ref p)(h1:y=.int i)(h2:SqT K H p xs)(h3:atI xs i=some v)(h4:Q v H):rIxT K x y H Q
def yO:R2:=fun x y H Q=>∃ z i c,x=.str z∧y=.int i∧z.length≤sizeLine∧atI z.cps.toList i=some c∧Q (.str ⟨#[c]⟩) H
theorem ix_list:IxR X (rIxL X.K):=by
 intro value slice pins s σ H x y v u Q I rx ry h hs
 obtain ⟨p,xs,i,z,rfl,rfl,hq,he,q⟩:=h
 cases rx
 obtain ⟨t,rfl⟩:=ry
 obtain ⟨its,r,pl,hz⟩:=I.list hq
 obtain ⟨j,h1,h2,h3,h4,h5⟩:=kl he
 obtain ⟨w,ew,rw'⟩:=r.get h2
 have hl:=r.length
 have hn:=gm
 have fin:EP X pins σ Q w s:=⟨z,H,I,rw',q⟩
 by_cases h0:0≤i
 ·have hj:i.toNat=j:=by
   rw[seqIndex_of h0 h5]at h1
   exact Option.some.inj h1
  exact item_listR pl.isList h0 (by lia) (by rw[hj]; simpa using ew) fin hs
 ·have hj:(i+(its.toArray.size:Int)).toNat=j:=by
   rw[seqIndex_neg (by lia) h4]at h1
   rw[size_toArray,← hl]
   exact Option.some.inj h1
  exact subscriptTail_builtinR (x:=w) pl.isList.typeIs slot_list_getitem.lookup
   (wpAny_getItem_list_neg (Q:=fun r s'=>r=w∧EP X pins σ Q r s') pl.isList (by lia) (by rw[size_toArray] <;> lia) (by lia) (by rw[hj]; simpa using ew) ⟨rfl,fin⟩) hs
theorem ix_tup:IxR X (rIxT X.K):=by
 intro value slice pins s σ H x y v u Q I rx ry h hs
 obtain ⟨p,xs,i,z,rfl,rfl,hq,he,q⟩:=h
 cases rx
 obtain ⟨t,rfl⟩:=ry
 obtain ⟨its,r,pl,hz⟩:=I.tuple hq
 obtain ⟨j,h1,h2,h3,h4,h5⟩:=kl he
 obtain ⟨w,ew,rw'⟩:=r.get h2
 have hl:=r.length
 have hn:=gm
 have fin:EP X pins σ Q w s:=⟨z,H,I,rw',q⟩
 exact subscriptTail_builtinR (x:=w) pl.typeIs slot_tuple_getitem.lookup
  (getItem_tuple (j:=j) (Q:=fun r s'=>r=w∧EP X pins σ Q r s') pl (by lia) (by lia) (by rw[size_toArray,← hl]; exact h1) (by simpa using ew) ⟨rfl,fin⟩) hs
theorem vY:IxR X yO:=by
 intro value slice pins s σ H x y v u Q I rx ry h hs
 obtain ⟨z,i,c,rfl,rfl,hz,he,q⟩:=h
 obtain ⟨t,rfl⟩:=rx
 obtain ⟨t',rfl⟩:=ry
 obtain ⟨j,h1,h2,h3,h4,h5⟩:=kl he
 have hl:z.cps.toList.length=z.length:=by simp[Str.length]
 rw[hl]at h1 h4 h5
 have hn:=gm
 exact tail_any (typeIs_str s z t) slot_str_getitem.lookup (getItem_str (c:=c) (by
  have e1:decide (i < -(2 ^ 63:Int))=false:=decide_eq_false (by lia)
  have e2:decide (i ≥ 2 ^ 63)=false:=decide_eq_false (by lia)
  rw[e1,e2,Bool.or_false]) (by rw[h1]; simpa using h2) ⟨.str ⟨#[c]⟩,H,I.tok _,⟨_,rfl⟩,q⟩) hs
def rIx(K:Frag):R2:=fun x y H Q=>rIxL K x y H Q∨rIxT K x y H Q∨yO x y H Q
theorem ar:IxR X (rIx X.K):=ix_list.or (ix_tup.or vY)
theorem mQ(its:List Value)(n j:Nat)(u:Value):Obj.mapSeq (·.setIfInBounds j u) { cls:=.type "list",data:=.seq its.toArray n }={ cls:=.type "list",data:=.seq (its.set j u).toArray n }:=by
 simp[Obj.mapSeq]
theorem Inv.lst{pins:List (Addr×Obj)}{σ:St}{H:Hp}{s:Shared}{p:Addr}{xs:List V}(I:Inv X pins σ H s)(h:H p=some (.lst xs)) :
  ∃(its:List Value) (n:Nat),Vals xs its∧s.heap.get? p=some { cls:=.type "list",data:=.seq its.toArray n }∧xs.length≤sizeLine:=by
 obtain ⟨z,its,n,r,e⟩:=I.hok p _ h
 exact ⟨its,n,r,e,z⟩
theorem Inv.lstUpd{pins:List (Addr×Obj)}{σ:St}{H:Hp}{s:Shared}{p:Addr}{xs ys:List V}{its its':List Value}{n n':Nat}{f:Obj→Obj}(I:Inv X pins σ H s)(h:H p=some (.lst xs))
  (ho:s.heap.get? p=some { cls:=.type "list",data:=.seq its.toArray n }) (hf:f { cls:=.type "list",data:=.seq its.toArray n }={ cls:=.type "list",data:=.seq its'.toArray n' }) (r:Vals ys its') (hz:ys.length≤sizeLine) (t:Nat) :
  Inv X pins σ (upd H p (.lst ys)) { s with heap:=s.heap.update p f,toks:=t }:=by
 have e:(s.heap.update p f).get? p=some { cls:=.type "list",data:=.seq its'.toArray n' }:=by
  rw[Heap.get?_update_self f ho (by rw[hf] <;> rfl),hf]
 refine I.write (x:=p) (e:=p) (by rw[h]; trivial) (.inl rfl) (fun b u hb q=>(Heap.get?_update_other _ _ (Ne.symm hb)).trans q) ⟨_,e⟩ ?_
 exact ⟨hz,its',n',r,e⟩
def xH:V→V→V→Hp→(Hp→Prop)→Prop:=fun o i v H Q=>∃ p xs k j,o=.ref p∧i=.int k∧H p=some (.lst xs)∧ixN xs.length k=some j∧Q (upd H p (.lst (xs.set j v)))
theorem fz:xG X xH:=by
 intro pins s σ H o i v ov iv u Q I ro ri rv h
 obtain ⟨p,xs,k,j,rfl,rfl,hp,hj,q⟩:=h
 cases ro
 obtain ⟨t,rfl⟩:=ri
 obtain ⟨its,n,r,ho,hz⟩:=I.lst hp
 obtain ⟨h1,h2,h3,h4⟩:=kD hj
 have hl:=r.length
 have hn:=gm
 have I':Inv X pins σ (upd H p (.lst (xs.set j v))) { s with heap:=s.heap.update p (Obj.mapSeq (·.setIfInBounds j u)) } :=
  I.lstUpd hp ho (mQ its n j u) (r.set rv j) (by rw[length_set]; exact hz) s.toks
 by_cases h0:0≤k
 ·have hk:k.toNat=j:=by
   rw[seqIndex_of h0 h4]at h1
   exact Option.some.inj h1
  exact PySem.W.ki_setAt ho h0 (by lia) (by rw[size_toArray,← hl]; exact h4) (by rw[hk]; exact ⟨_,I',q⟩)
 ·have hk:(k+(its.toArray.size:Int)).toNat=j:=by
   rw[seqIndex_neg (by lia) h3]at h1
   rw[size_toArray,← hl]
   exact Option.some.inj h1
  exact PySem.W.ki_setBack ho (by lia) (by rw[size_toArray,← hl]; exact h3) (by lia) (by rw[hk]; exact ⟨_,I',q⟩)
theorem kG(lo hi:Option Int)(n:Nat):(sliceBounds lo hi none n).1=((HT.sIx n 0 lo:Nat):Int)∧(sliceBounds lo hi none n).2.1=((HT.sIx n n hi:Nat):Int)∧(sliceBounds lo hi none n).2.2=1:=by
 refine ⟨?_,?_,rfl⟩
 ·cases lo with
  | none=>simp[sliceBounds,HT.sIx]
  | some i =>
   simp only[sliceBounds,HT.sIx,Option.getD_none,show (1:Int) > 0 by decide,if_true]
   by_cases h:i<0
   ·simp only[h,if_true] <;> lia
   ·simp only[h,if_false] <;> lia
 ·cases hi with
  | none=>simp[sliceBounds,HT.sIx]
  | some i =>
   simp only[sliceBounds,HT.sIx,Option.getD_none,show (1:Int) > 0 by decide,if_true]
   by_cases h:i<0
   ·simp only[h,if_true] <;> lia
   ·simp only[h,if_false] <;> lia
theorem jt(its:List Value)(lo hi:Option Int):slicePick its.toArray lo hi none=((its.drop (HT.sIx its.length 0 lo)).take (HT.sIx its.length its.length hi - HT.sIx its.length 0 lo)).toArray:=by
 obtain ⟨h1,h2,h3⟩:=kG lo hi its.toArray.size
 unfold slicePick
 rw[h1,h2,h3]
 simp only[sliceRange_one,pick_run,size_toArray] <;> rfl
def zm(K:Frag):V→Option Int→Option Int→Hp→VK→Prop:=fun x lo hi H Q=>∃ a xs,x=.ref a∧SqL K H a xs∧∀ p,H p=none→Q (.ref p) (upd H p (.lst (dg xs lo hi)))
theorem sl_list:SlR X (zm X.K):=by
 intro pins s σ H x v vl vu lo hi sl Q I rx hs pl pu h
 obtain ⟨a,xs,rfl,hx,q⟩:=h
 cases rx
 obtain ⟨its,r,ht,hz⟩:=I.list hx
 have hlen:=r.length
 refine ⟨"list",_,slot_list_getitem.lookup,ht.isList.typeIs,?_⟩
 refine wpAny_getItem_list_slice ht.isList hs pl pu .none (by simp) ?_ (by rw[size_toArray] <;> lia)
 rw[jt,← hlen]
 refine ⟨.ref s.heap.objs.size,_,I.laid (t':=s.toks) (o:=.lst (dg xs lo hi)) (fun b ob q=>Heap.get?_push_of_some _ q) (Nat.le_refl _) ?_,rfl,q _ (I.hok.fresh (Nat.le_refl _))⟩
 exact ⟨Nat.le_trans (ia xs lo hi) hz,_,0,(r.drop (HT.sIx xs.length 0 lo)).take (HT.sIx xs.length xs.length hi - HT.sIx xs.length 0 lo),Heap.get?_push_size _ rfl⟩
def gI:V→Bool
 | .non=>true
 | .bl _=>true
 | .int _=>true
 | .str _=>true
 | _=>false
def eqV:V→V→Bool
 | .non,.non=>true
 | .bl a,.bl b=>a == b
 | .bl a,.int b=>(if a then 1 else 0) == b
 | .int a,.bl b=>a == (if b then 1 else 0)
 | .int a,.int b=>a == b
 | .str a,.str b=>a == b
 | _,_=>false
theorem v6{A:Around}{s:Shared}{y x:V}{u v:Value}(ry:RelV y u)(rx:RelV x v)(fy:gI y=true)(fx:gI x=true):SeqAt.EqAt A s u v (eqV y x):=by
 cases y with
 | non =>
  cases ry
  cases x with
  | non=>cases rx; exact SeqAt.EqAt.same _
  | bl b=>cases rx; exact SeqAt.EqAt.none_bool b
  | int b=>obtain ⟨t,rfl⟩:=rx; exact SeqAt.EqAt.none_int b t
  | str b=>obtain ⟨t,rfl⟩:=rx; exact SeqAt.EqAt.none_str b t
  | _=>exact absurd (show false=true from fx) Bool.false_ne_true
 | bl a =>
  cases ry
  cases x with
  | non=>cases rx; exact SeqAt.EqAt.bool_none a
  | bl b=>cases rx; exact SeqAt.EqAt.bool_bool a b
  | int b=>obtain ⟨t,rfl⟩:=rx; exact SeqAt.EqAt.bool_int a b t
  | str b=>obtain ⟨t,rfl⟩:=rx; exact SeqAt.EqAt.bool_str a b t
  | _=>exact absurd (show false=true from fx) Bool.false_ne_true
 | int a =>
  obtain ⟨t',rfl⟩:=ry
  cases x with
  | non=>cases rx; exact SeqAt.EqAt.int_none a t'
  | bl b=>cases rx; exact SeqAt.EqAt.int_bool a t' b
  | int b=>obtain ⟨t,rfl⟩:=rx; exact SeqAt.EqAt.int_int a t' b t
  | str b=>obtain ⟨t,rfl⟩:=rx; exact SeqAt.EqAt.int_str a t' b t
  | _=>exact absurd (show false=true from fx) Bool.false_ne_true
 | str a =>
  obtain ⟨t',rfl⟩:=ry
  cases x with
  | non=>cases rx; exact SeqAt.EqAt.str_none a t'
  | bl b=>cases rx; exact SeqAt.EqAt.str_bool a t' b
  | int b=>obtain ⟨t,rfl⟩:=rx; exact SeqAt.EqAt.str_int a t' b t
  | str b=>obtain ⟨t,rfl⟩:=rx; exact SeqAt.EqAt.str_str a t' b t
  | _=>exact absurd (show false=true from fx) Bool.false_ne_true
 | _=>exact absurd (show false=true from fy) Bool.false_ne_true
def eqU(x:V)(u:Value):Bool:=match u with
 | .none=>eqV .non x
 | .bool b=>eqV (.bl b) x
 | .int i _=>eqV (.int i) x
 | .str z _=>eqV (.str z) x
 | _=>false
theorem sd{x y:V}{u:Value}(r:RelV y u)(f:gI y=true):eqU x u=eqV y x:=by
 cases y with
 | non=>cases r; rfl
 | bl b=>cases r; rfl
 | int i=>obtain ⟨t,rfl⟩:=r; rfl
 | str z=>obtain ⟨t,rfl⟩:=r; rfl
 | _=>exact absurd (show false=true from f) Bool.false_ne_true
theorem kf{x:V}:∀{xs:List V}{us:List Value},Vals xs us→xs.all gI=true→us.any (eqU x)=xs.any fun y=>eqV y x
 | _,_,.nil,_=>rfl
 | y::xs,u::us,.cons r t,f=>by
  rw[all_cons,Bool.and_eq_true]at f
  rw[any_cons,any_cons,sd r f.1,kf t f.2]
theorem iV{A:Around}{s:Shared}{x:V}{v:Value}(rx:RelV x v)(fx:gI x=true):∀{xs:List V}{us:List Value},Vals xs us→xs.all gI=true→∀ u∈us,SeqAt.EqAt A s u v (eqU x u)
 | _,_,.nil,_=>fun u hu=>by cases hu
 | y::xs,u::us,.cons r t,f=>fun u' hu=>by
  rw[all_cons,Bool.and_eq_true]at f
  rcases mem_cons.mp hu with rfl | hu
  ·rw[sd r f.1]; exact v6 r rx f.1 fx
  ·exact iV rx fx t f.2 u' hu
def inV(x:V)(xs:List V):Bool:=xs.any fun y=>eqV y x
inductive rIn(K:Frag)(neg:Bool)(x y:V)(H:Hp)(Q:VK):Prop
 | mk(p:Addr)(xs:List V)(h0:y=.ref p)(h1:SqL K H p xs∨SqT K H p xs)(h2:gI x=true)(h3:xs.all gI=true)(h4:Q (.bl (if neg then !inV x xs else inV x xs)) H):rIn K neg x y H Q
theorem oU:OpR X (compareOp .In) (rIn X.K false):=by
 intro pins s σ H x y v u Q I rx ry h
 obtain ⟨p,xs,rfl,hq,fx,fs,q⟩:=h
 cases ry
 rcases hq with hq | hq
 ·obtain ⟨its,r,pl,hz⟩:=I.list hq
  refine SeqAt.in_listAt (eqU x) pl.isList (fun w hw=>iV rx fx r fs w (by simpa using hw)) ⟨.bl _,H,I,rfl,?_⟩
  rw[show its.toArray.any (eqU x)=its.any (eqU x) by simp,kf r fs]
  exact q
 ·obtain ⟨its,r,pl,hz⟩:=I.tuple hq
  refine SeqAt.in_tupleAt (eqU x) pl (fun w hw=>iV rx fx r fs w (by simpa using hw)) ⟨.bl _,H,I,rfl,?_⟩
  rw[show its.toArray.any (eqU x)=its.any (eqU x) by simp,kf r fs]
  exact q
theorem ka:CallR X (.builtin "len") (fun xs H Q=>∃ p ys,xs=[.ref p]∧(SqL X.K H p ys∨SqT X.K H p ys)∧Q (.int ys.length) H):=by
 intro pins s σ H xs us Q I r h
 obtain ⟨p,ys,rfl,hq,q⟩:=h
 obtain ⟨u,rfl,rx⟩:=ez r
 cases rx
 have hn:=gm
 rcases hq with hq | hq
 ·obtain ⟨its,r',pl,hz⟩:=I.list hq
  have hlen:=r'.length
  exact Calls.call_len_list pl.isList (by simp only[size_toArray] <;> lia) ⟨.int ys.length,H,I.tok _,⟨s.toks+1,by rw[size_toArray,hlen]⟩,q⟩
 ·obtain ⟨its,r',pl,hz⟩:=I.tuple hq
  have hlen:=r'.length
  exact len_tuple pl (by simp only[size_toArray] <;> lia) ⟨.int ys.length,H,I.tok _,⟨s.toks+1,by rw[size_toArray,hlen]⟩,q⟩
theorem call_len_str:CallR X (.builtin "len") (fun xs H Q=>∃ z,xs=[.str z]∧z.length≤sizeLine∧Q (.int z.length) H):=by
 intro pins s σ H xs us Q I r h
 obtain ⟨z,rfl,hz,q⟩:=h
 obtain ⟨u,rfl,t,rfl⟩:=ez r
 have hn:=gm
 exact len_str (by lia) ⟨.int z.length,H,I.tok _,⟨_,rfl⟩,q⟩
theorem CallR.or{f:Value}{r r':List V→Hp→VK→Prop}(h:CallR X f r)(h':CallR X f r'):CallR X f (fun xs H Q=>r xs H Q∨r' xs H Q):=by
 intro pins s σ H xs us Q I rs q
 rcases q with q | q
 ·exact h pins s σ H xs us Q I rs q
 ·exact h' pins s σ H xs us Q I rs q
inductive rListOf(K:Frag)(xs:List V)(H:Hp)(Q:VK):Prop
 | mk(p:Addr)(ys:List V)(h0:xs=[.ref p])(h1:SqL K H p ys∨SqT K H p ys)(h2:∀ l,H l=none→Q (.ref l) (upd H l (.lst ys))):rListOf K xs H Q
theorem dh:CallR X (.type "list") (rListOf X.K):=by
 intro pins s σ H xs us Q I r h
 obtain ⟨p,ys,rfl,hq,q⟩:=h
 obtain ⟨u,rfl,rx⟩:=ez r
 cases rx
 have fin:∀(its:List Value),Vals ys its→ys.length≤sizeLine→∀(h':Heap) (c':Nat),(∀ b o',s.heap.get? b=some o'→h'.get? b=some o') →
   h'.get? s.heap.objs.size=some { cls:=.type "list",dict:=none,data:=.seq its.toArray c',slots:=#[] }→EP X pins σ Q (.ref s.heap.objs.size) { s with heap:=h' }:=fun its r' hz h' c' kp e =>
  ⟨.ref s.heap.objs.size,_,I.laid (t':=s.toks) kp (Nat.le_refl _) (show ObjOk X.prog X.w _ h' _ (.lst ys) from ⟨hz,its,c',r',e⟩),rfl,q _ (I.hok.fresh (Nat.le_refl _))⟩
 rcases hq with hq | hq
 ·obtain ⟨its,r',pl,hz⟩:=I.list hq
  have hlen:=r'.length
  obtain ⟨o,ho,hc,n,hd⟩:=pl.isList
  exact call_list_seq p (.inl rfl) ho hc hd (fun h' c' kp e=>fin its r' hz h' c' kp e) (by simp only[size_toArray] <;> lia)
 ·obtain ⟨its,r',pl,hz⟩:=I.tuple hq
  have hlen:=r'.length
  obtain ⟨o,ho,hc,n,hd⟩:=pl
  exact call_list_seq p (.inr rfl) ho hc hd (fun h' c' kp e=>fin its r' hz h' c' kp e) (by simp only[size_toArray] <;> lia)
theorem dG:CallR X (.type "tuple") (fun xs H Q=>∃ p ys,xs=[.ref p]∧((SqL X.K H p ys∧∀ l,H l=none→Q (.ref l) (upd H l (.tup ys)))∨(SqT X.K H p ys∧Q (.ref p) H))):=by
 intro pins s σ H xs us Q I r h
 obtain ⟨p,ys,rfl,h⟩:=h
 obtain ⟨u,rfl,rx⟩:=ez r
 cases rx
 rcases h with ⟨hq,q⟩ | ⟨hq,q⟩
 ·obtain ⟨its,r',pl,hz⟩:=I.list hq
  have hlen:=r'.length
  refine call_tuple_list pl.isList (fun h' kp=>?_) (by simp only[size_toArray] <;> lia)
  have I1:Inv X pins σ H { s with heap:=h' }:=I.kept (t':=s.toks) kp
  have I2:Inv X pins σ (upd H h'.objs.size (.tup ys)) { s with heap:=h'.push { cls:=.type "tuple",data:=.seq its.toArray } } :=
   I1.laid (t':=s.toks) (fun b o e=>Heap.get?_push_of_some _ e) (Nat.le_refl _) (show ObjOk X.prog X.w _ _ _ (.tup ys) from ⟨hz,its,r',IsTup.new _ _⟩)
  exact ⟨.ref h'.objs.size,_,I2,rfl,q _ (I1.hok.fresh (Nat.le_refl _))⟩
 ·obtain ⟨its,r',pl,hz⟩:=I.tuple hq
  exact call_tuple_same pl ⟨.ref p,H,I,rfl,q⟩
def tyV(K:Frag)(T:String)(x:V)(H:Hp):Prop:=match x with
 | .str _=>T = "str"
 | .int _=>T = "int"
 | .ref p=>(T = "list" ∧ ∃ xs,SqL K H p xs)∨(T = "tuple" ∧ ∃ o,K.lookup p=some o∧o.cls=.type "tuple" ∧ o.dict=none) ∨
   (T = "dict" ∧ ((∃ kvs,H p=some (.dK kvs))∨∃ kvs,H p=some (.dT kvs)))∨(T = "set" ∧ ∃ S n,H p=some (.set S n))
 | _=>False
theorem qm{pins:List (Addr×Obj)}{σ:St}{H:Hp}{s:Shared}{T:String}{x:V}{v:Value}(I:Inv X pins σ H s)(r:RelV x v)(ty:tyV X.K T x H) :
  s.TypeIs v T∧∀ a,v=.ref a→∃ ob,s.heap.get? a=some ob∧ob.dict=none:=by
 cases x with
 | str z =>
  obtain ⟨t,rfl⟩:=r
  cases (show T = "str" from ty)
  exact ⟨typeIs_str s z t,fun _ e=>nomatch e⟩
 | int i =>
  obtain ⟨t,rfl⟩:=r
  cases (show T = "int" from ty)
  exact ⟨typeIs_int s i t,fun _ e=>nomatch e⟩
 | ref p =>
  cases r
  rcases ty with ⟨rfl,xs,hq⟩ | ⟨rfl,o,hk,hc,hd⟩ | ⟨rfl,hk⟩ | ⟨rfl,S,n,hk⟩
  ·obtain ⟨its,_,pl,_⟩:=I.list hq
   refine ⟨pl.isList.typeIs,fun a e=>?_⟩
   cases e
   obtain ⟨o,n,e,c,hd,_⟩:=pl
   exact ⟨o,e,hd⟩
  ·refine ⟨⟨o,I.kIn p o hk,hc⟩,fun a e=>?_⟩
   cases e
   exact ⟨o,I.kIn _ o hk,hd⟩
  ·have z:∃ o,s.heap.get? p=some o∧o.ExactDict:=by
    rcases hk with ⟨kvs,hk⟩ | ⟨kvs,hk⟩
    ·obtain ⟨_,_,_,_,o,_,_,e,ex,_⟩:=I.hok p _ hk
     exact ⟨o,e,ex⟩
    ·obtain ⟨_,_,_,_,o,_,_,e,ex,_⟩:=I.hok p _ hk
     exact ⟨o,e,ex⟩
   obtain ⟨o,e,ex⟩:=z
   refine ⟨⟨o,e,ex.1⟩,fun a e2=>?_⟩
   cases e2
   exact ⟨o,e,ex.2.1⟩
  ·obtain ⟨o,_,_,_,e,ex,_⟩:=I.hok p _ hk
   refine ⟨⟨o,e,ex.1⟩,fun a e2=>?_⟩
   cases e2
   exact ⟨o,e,ex.2.1⟩
 | _=>exact False.elim ty
def yD(K:Frag)(T:String)(r:V→List V→Hp→VK→Prop)(to:TE):TE:=fun σ H Q=>to σ H fun x H1=>tyV K T x H1∧r x [] H1 Q
def tBM(K:Frag)(T:String)(r:V→List V→Hp→VK→Prop)(to:TE)(t:TA):TE:=fun σ H Q=>to σ H fun x H1=>tyV K T x H1∧t σ H1 fun xs H2=>r x xs H2 Q
variable {o e:Expr}{es:List Expr}{to:TE}{t:TA}{name:Str}{apos cpos:Pos}{T id:String}{r:V→List V→Hp→VK→Prop}
theorem wq(pa:PlainAttrs T)(slot:Slot T name id)(hty:typeOf (.builtin id)=pure (.type "method_descriptor"))(hm:MtR X id r)(ho:PE X o to)
  (hbase:attributeBase o name X.env (eval o X.env)=eval o X.env:=by rfl) (hline:(apos.endLine == cpos.line)=true:=by rfl):PE X (.Call (.Attribute o name apos) [] [] cpos) (yD X.K T r to):=by
 intro pins s σ H Q I h
 refine wpAny_Call_method0_late hbase hline (thn (ho pins s σ H _ I h) fun v s1 ⟨x,H1,I1,r1,ty,q1⟩=>?_)
 obtain ⟨h1,h2⟩:=qm I1 r1 ty
 exact ⟨T,id,pa,slot,hty,h1,h2,Calls.callWith_builtin rfl (PySem.evalArgs_none (hm pins s1 σ H1 x [] v [] Q I1 r1 .nil q1))⟩
theorem vO(pa:PlainAttrs T)(slot:Slot T name id)(hty:typeOf (.builtin id)=pure (.type "method_descriptor"))(hm:MtR X id r)(ho:PE X o to)(ha:PA X (e::es) t)
  (hbase:attributeBase o name X.env (eval o X.env)=eval o X.env:=by rfl)
  (hfew:((backTo cpos (starEach (e::es) X.env)).all (fun x=>!x.1) && (backToKw cpos (keywordEach [] X.env)).all (fun x=>x.1.isSome)
   && decide ((e::es).length+([]:List Keyword).length+(if ([]:List Keyword).isEmpty then 0 else 1)<30))=true:=by rfl)
  (hline:(apos.endLine == cpos.line)=true:=by rfl) (hs:starEach (e::es) X.env=(false,eval e X.env)::starEach es X.env:=by rfl) (hplain:(backTo cpos (starEach es X.env)).any (·.1)=false:=by rfl) :
  PE X (.Call (.Attribute o name apos) (e::es) [] cpos) (tBM X.K T r to t):=by
 intro pins s σ H Q I h
 refine wpAny_Call_method_late hbase hfew hline rfl (thn (ho pins s σ H _ I h) fun v s1 ⟨x,H1,I1,r1,ty,q1⟩=>?_)
 obtain ⟨h1,h2⟩:=qm I1 r1 ty
 refine ⟨T,id,pa,slot,hty,h1,h2,?_⟩
 have hA:=ha cpos pins s1 σ H1 _ I1 q1
 rw[hs]at hA ⊢
 refine Calls.callWith_builtin (by show (false || (backTo cpos (starEach es X.env)).any (·.1))=false; rw[hplain] <;> rfl) (Calls.evalArgs_plain ?_)
 exact thn hA fun us s2 ⟨vs,H2,I2,r2,q2⟩=>hm pins s2 σ H2 x vs v us Q I2 r1 r2 q2
end
def MtM(X:Cx)(id:String)(r:V→List V→Hp→VK→Prop):Prop :=
 ∀(pins:List (Addr×Obj)) (s:Shared) (σ:St) (H:Hp) (x:V) (xs:List V) (v:Value) (us:List Value) (Q:VK),Inv X pins σ H s→RelV x v→Vals xs us→r x xs H Q →
  wpAny (model X.prog X.w) X.A (call (.builtin id) (v::us)) (EP X pins σ Q) X.xe s
theorem Vals.one:∀{x:V}{us:List Value},Vals [x] us→∃ u,us=[u]∧RelV x u
 | _,_,.cons r .nil=>⟨_,rfl,r⟩
theorem Vals.zero:∀{us:List Value},Vals [] us→us=[]
 | _,.nil=>rfl
theorem Vals.eraseIdx:∀{xs:List V}{us:List Value}(i:Nat),Vals xs us→Vals (xs.eraseIdx i) (us.eraseIdx i)
 | _,_,_,.nil=>.nil
 | _,_,0,.cons _ t=>t
 | _,_,i+1,.cons r t=>.cons r (Vals.eraseIdx i t)
theorem jB{α:Type}:∀(l:List α) (i:Nat),(l.eraseIdx i).length≤l.length
 | [],_=>Nat.le_refl _
 | _::_,0=>Nat.le_succ _
 | _::r,i+1=>Nat.succ_le_succ (jB r i)
section
variable {X:Cx}{pins:List (Addr×Obj)}{σ:St}{H:Hp}{s:Shared}{l b:Addr}{xs ys zs:List V}
theorem Inv.lset{its its':List Value}{n:Nat}{f:Array Value→Array Value}{t':Nat}(I:Inv X pins σ H s)(hH:H l=some (.lst xs))
  (e:s.heap.get? l=some { cls:=.type "list",data:=.seq its.toArray n }) (hf:f its.toArray=its'.toArray) (hv:Vals ys its') (hz:ys.length≤sizeLine) :
  Inv X pins σ (upd H l (.lst ys)) { s with heap:=s.heap.update l (Obj.mapSeq f),toks:=t' }:=by
 have q:=PySem.IsL.update e f
 rw[hf]at q
 refine I.write (x:=l) (e:=l) (by rw[hH]; exact trivial) (.inl rfl) (fun b' u hb hu=>(Heap.get?_update_other s.heap (Obj.mapSeq f) (Ne.symm hb)).trans hu) ⟨_,q⟩ ?_
 exact ⟨hz,its',_,hv,q⟩
theorem Inv.lnew{its:List Value}{t':Nat}(I:Inv X pins σ H s)(hv:Vals ys its)(hz:ys.length≤sizeLine) :
  Inv X pins σ (upd H s.heap.objs.size (.lst ys)) { s with heap:=s.heap.push { cls:=.type "list",data:=.seq its.toArray },toks:=t' } :=
 I.laid (fun _ _ q=>Heap.get?_push_of_some _ q) (Nat.le_refl _) ⟨hz,its,0,hv,Heap.get?_push_size _ rfl⟩
theorem Inv.fresh(I:Inv X pins σ H s):H s.heap.objs.size=none:=I.hok.fresh (Nat.le_refl _)
theorem Inv.lstM(I:Inv X pins σ H s)(hH:H l=some (.lst xs)):xs.length≤sizeLine∧∃(its:List Value) (n:Nat),Vals xs its∧xs.length=its.length∧s.heap.get? l=some { cls:=.type "list",data:=.seq its.toArray n }:=by
 obtain ⟨z,its,n,r,e⟩:=I.hok l _ hH
 exact ⟨z,its,n,r,r.length,e⟩
end
section
variable {X:Cx}
inductive rAppend(x:V)(vs:List V)(H:Hp)(Q:VK):Prop
 | mk(l:Addr)(xs:List V)(y:V)(h0:x=.ref l)(h1:vs=[y])(h2:H l=some (.lst xs))(h3:xs.length<sizeLine)(h4:Q .non (upd H l (.lst (xs++[y])))):rAppend x vs H Q
theorem jU:MtM X "list.append" rAppend:=by
 intro pins s σ H x vs v us Q I rx rv h
 obtain ⟨l,xs,y,rfl,rfl,hH,hz,q⟩:=h
 cases rx
 obtain ⟨u,rfl,ru⟩:=rv.one
 obtain ⟨z,its,n,r,hl,e⟩:=I.lstM hH
 refine call_meets F.slot_list_append ⟨_,e,rfl⟩ F.entry_list_append (F.args_list_append_2 _ _) (PySem.list_append l its.toArray n u (by rw[size_toArray]; lia)) ⟨e,?_⟩
 refine ⟨.non,_,I.lset (its':=its++[u]) hH e (by simp) (r.append (.cons ru .nil)) ?_,rfl,q⟩
 rw[length_append,List.length_singleton]
 lia
def p7:V→List V→Hp→VK→Prop:=fun x vs H Q=>∃ l xs i k y,x=.ref l∧vs=[.int i]∧H l=some (.lst xs)∧-(2 ^ 63)≤i∧i<2 ^ 63∧seqIndex? i xs.length=some k∧xs[k]? = some y∧Q y (upd H l (.lst (xs.eraseIdx k)))
theorem qT:MtM X "list.pop" p7:=by
 intro pins s σ H x vs v us Q I rx rv h
 obtain ⟨l,xs,i,k,y,rfl,rfl,hH,h1,h2,hk,hy,q⟩:=h
 cases rx
 obtain ⟨u,rfl,ru⟩:=rv.one
 obtain ⟨t,rfl⟩:=ru
 obtain ⟨z,its,n,r,hl,e⟩:=I.lstM hH
 obtain ⟨w,hw,rw'⟩:=r.get hy
 refine call_meets F.slot_list_pop ⟨_,e,rfl⟩ F.entry_list_pop (F.args_list_pop_2 _ _)
  (MeetsSeq.list_pop_at l its.toArray n i t k w (fitsIndex_both h1 h2) (by rw[size_toArray,← hl]; exact hk) (by rw[← Array.getElem?_toList]; exact hw) (by rw[size_toArray]; lia)) ⟨e,?_⟩
 refine ⟨y,_,I.lset (its':=its.eraseIdx k) hH e ?_ (r.eraseIdx k) ?_,rw',q⟩
 ·show its.toArray.eraseIdxIfInBounds k=(its.eraseIdx k).toArray
  rw[List.eraseIdxIfInBounds_toArray]
 ·have:=jB xs k
  lia
def qL:V→List V→Hp→VK→Prop:=fun x vs H Q=>∃ l xs,x=.ref l∧vs=[]∧H l=some (.lst xs)∧Q .non (upd H l (.lst []))
theorem si:MtM X "list.clear" qL:=by
 intro pins s σ H x vs v us Q I rx rv h
 obtain ⟨l,xs,rfl,rfl,hH,q⟩:=h
 cases rx
 have hus:=rv.zero
 subst hus
 obtain ⟨z,its,n,r,hl,e⟩:=I.lstM hH
 refine call_meets F.slot_list_clear ⟨_,e,rfl⟩ F.entry_list_clear (F.args_list_clear_1 _) (AutoSeq1.list_clear_list_0 l its.toArray n (by rw[size_toArray]; lia)) ⟨e,?_⟩
 exact ⟨.non,_,I.lset (its':=[]) (ys:=[]) hH e rfl .nil (Nat.zero_le _),rfl,q⟩
inductive rCat(x y:V)(H:Hp)(Q:VK):Prop
 | mk(l b:Addr)(xs zs:List V)(h0:x=.ref l)(h1:y=.ref b)(h2:H l=some (.lst xs))(h3:H b=some (.lst zs))(h4:xs.length+zs.length≤sizeLine)(h5:∀ p,H p=none→Q (.ref p) (upd H p (.lst (xs++zs)))):rCat x y H Q
theorem iE:OpR X (binaryOp .Add) rCat:=by
 intro pins s σ H x y v u Q I rx ry h
 obtain ⟨l,b,xs,zs,rfl,rfl,hH,hB,hz,q⟩:=h
 cases rx
 cases ry
 obtain ⟨z,its,n,r,hl,e⟩:=I.lstM hH
 obtain ⟨z2,its2,n2,r2,hl2,e2⟩:=I.lstM hB
 refine PySem.P.add_list e e2 ?_ (by rw[size_toArray,size_toArray]; lia)
 have ea:its.toArray++its2.toArray=(its++its2).toArray:=by simp
 rw[ea]
 exact ⟨.ref _,_,I.lnew (t':=s.toks) (r.append r2) (by rw[length_append]; lia),rfl,q _ I.fresh⟩
end
section
variable {prog:Program}{w:World}{A:Around}{E:Value→Shared→Prop}{s:Shared}
set_option maxRecDepth 100000 in
end
section
variable {X:Cx}
end
end L2
namespace Att
open PySem PySem.W PySem.Calls PyProof.Rows
theorem iq{P:Params}{h:Heap}:∀(ns:List Int) (vs:List Value),WellAll P h vs (ns.map WData.int)→IntsAre vs ns:=by
 intro ns
 induction ns with
 | nil =>
  intro vs w
  rw[map_nil]at w
  cases w
  exact .nil
 | cons n ns ih =>
  intro vs w
  rw[map_cons]at w
  cases w with
  | cons a b =>
   cases a
   exact .cons _ _ (ih _ b)
theorem pQ{l:OpenLaw}{n:Nat}(hn:l.most=some n){P:Params}{h:Heap}{args:List WData}{vals:List Value}
  (hpre:l.row.toRowW.claim.pre args=true) (hwl:WellAll P h vals args) :
  ∃ a vs ns,vals=[Value.ref a]∧args=[WData.list (ns.map WData.int)]∧h.get? a=some { cls:=.type "list",data:=.seq vs.toArray }∧IntsAre vs ns∧ns.length≤n:=by
 have hsh:WShape.hasAll [] args [.list .int]=true:=(pre_splitW hpre).1
 have hc:l.pre.holds [] { args:=args }=true:=(pre_splitW hpre).2
 obtain ⟨d,r,rfl,h1,h2⟩:=hasAllW_cons hsh
 obtain rfl:=hasAllW_nil h2
 obtain ⟨xs,rfl,h3⟩:=hasW_list h1
 obtain ⟨ns,rfl⟩:=items_int h3
 have hlen:ns.length≤n:=by
  unfold OpenLaw.pre at hc
  have h4:(WTm.not (.lt (.lit (.int (n:Int))) (.len (.arg 0)))).holds [] { args:=[.list (ns.map .int)] }=true:=by
   have h4:=(holds_andW hc).1
   rw[hn]at h4
   exact h4
  have h5:=condW_of h4 (w_not (w_lt w_lit (w_len_list (w_arg rfl))))
  rw[length_map]at h5
  refine Nat.le_of_not_lt fun q=>?_
  have q':(n:Int)<((ns.length:Nat):Int):=by lia
  first
   | (rw[decide_eq_true q']at h5; exact absurd h5 (by decide))
   | (simp at h5; lia)
 cases hwl with
 | cons w1 w2 =>
  cases w2
  cases w1 with
  | list ho hall=>exact ⟨_,_,ns,rfl,rfl,ho,iq ns _ hall,hlen⟩
theorem pH(l:OpenLaw)(args:List WData):l.row.toRowW.claim.post args (.bool true) args=true :=
 postW_of (r:=l.row.toRowW) (X:=(true == true))
  (show WShape.has [] (.bool true) .bool=true by first | rfl | decide | simp[WShape.has,WShape.arms,WShape.armsAll])
  (show (WTm.eq .res (.lit (.bool true))).value [] { args:=args,res:=some (.bool true),after:=args }=some (.bool (true == true)) from w_eq_bool (w_res rfl) w_lit) rfl
theorem attach_call{l:OpenLaw}{n:Nat}{q:Program}{loose:List Str}{XP:(Str→Option Value)→Heap→Prop}{YP:World→Heap→Prop}{d:DefRec}
  (hn:l.most=some n) (hdf:d.params.defaults=[])
  (call:∀(w:World) (s₀ s₁:Shared) (mg mb:Str→Option Value) (fa:Addr) (o:Obj) (pm cd doc:Value) (a:Addr) (vs:List Value) (ns:List Int),
   Ground q loose [] XP w s₀ mg mb s₁.heap→YP w s₁.heap →
   s₁.heap.get? fa=some o→o.data=.func (docDef d.name d.params d.body d.scope pm cd doc)→s₁.heap.CodeRec cd d.name→mg d.name=some (.ref fa) →
   s₁.heap.get? a=some { cls:=.type "list",data:=.seq vs.toArray }→IntsAre vs ns→ns.length≤n→s₁.gens = #[] →
   codeAny (model l.prog w) callerA (.call (.ref fa) ⟨[.ref a],[]⟩) (fun r s'=>r=.ok (.ret (.bool true))∧OldK s₁.heap s'.heap∧s'.os=s₁.os∧AllBare s'.gens) s₁) :
  WalkO q loose XP YP l.row.toRowW d [] (fun f vs=>PySem.call f vs):=by
 intro w s₀ s₁ mg mb G Y fa o pm cd doc dV kV ho hd hcd hD hmg hg args vals as hpre hlay hrd hwl hlo
 obtain rfl:dV=.none:=Dflts.none hD hdf
 obtain rfl:kV=.none:=Dflts.noKw hD
 obtain ⟨a,vs,ns,rfl,rfl,hobj,hints,hlen⟩:=pQ hn hpre hwl
 refine enter_call (codeAny_mono (call w s₀ s₁ mg mb fa o pm cd doc a vs ns G Y ho (fd_plain hd) hcd hmg hobj hints hlen hg) fun r s' hq=>?_)
 obtain ⟨rfl,h2,h3,h4⟩:=hq
 exact ⟨.inl ⟨.bool true,.bool true,[],rfl,fun _=>rfl,.bool true,pH l _,fun _=>⟨List.Pairwise.nil,fun _ hm=>(nomatch hm)⟩⟩,h2,h3,h4⟩
section
variable {prog:Program}{w:World}{A:Around}{E:Value→Shared→Prop}{s:Shared}{K:Frag}
end
end Att
namespace L2
open PySem PySem.Spec PyProof.Rows
theorem jK:∀{vs:List Value}{ns:List Int},IntsAre vs ns→Vals (ns.map V.int) vs
 | _,_,.nil=>.nil
 | _,_,.cons n t h=>.cons ⟨t,rfl⟩ (jK h)
abbrev KOf{K:Frag}{h:Heap}(_:K.In h):Frag:=K
def bB(s:Stmt)(j:Nat):Stmt:=match s with
 | .ClassDef _ _ _ body _ _ _ _ _ _ _=>body.getD j (.Pass ⟨0,0,0,0⟩)
 | _=>.Pass ⟨0,0,0,0⟩
def ai(s:Stmt):Arguments:=match s with
 | .FunctionDef _ a _ _ _ _ _ _ _ _=>a
 | _=>{ posonlyargs:=[],args:=[],vararg:=none,kwonlyargs:=[],kw_defaults:=[],kwarg:=none,defaults:=[] }
def ah(s:Stmt):List Stmt:=match s with
 | .FunctionDef _ _ b _ _ _ _ _ _ _=>b
 | _=>[]
def ad(s:Stmt):Scope:=match s with
 | .FunctionDef _ _ _ _ _ _ sc _ _ _=>sc
 | _=>{ kind:=.function,names:=[],isGenerator:=false,isCoroutine:=false }
abbrev CX0:CXT:=fun _ _ _ _ _ _=>False
abbrev E0:XK:=fun _ _ _=>False
theorem aq{X:Cx}:fG CX0 X E0:=fun _ _ _ _ _ _ _ h=>h.elim
structure Fun(K:Frag)(x qual:Str)(st:Stmt)(f:Addr)(fd:FuncData):Prop where
 ex:∃(oc:Value) (od:Option Addr) (kV doc pm:Value) (an:Option Addr) (cdv ct:Value) (osl:Array (Option Value)),
  fd=fnOf x qual (ai st) (ah st) (ad st) .none kV doc pm an cdv ct∧K.lookup f=some ⟨oc,od,.func fd,osl⟩∧codeIn K cdv qual=true
 kp:keepIn K (.ref f)=true
section
variable {P:Program}{w:World}{K:Frag}{mg:Str→Option Value}{base:Heap}
theorem Fun.ok{x qual:Str}{st:Stmt}{f:Addr}{fd:FuncData}{N ps:List Str}{k:Nat}{sp:Sp}(F:Fun K x qual st f fd)(S:FnScope N ps (ad st))(len:∀ vs H Q E,sp vs H Q E→vs.length=ps.length)
  (hbody:∀(cdv:Value) (A:Around) (outer:List Env) (s:Shared) (H:Hp) (vs:List V) (Q:VK) (E:XK),Room k (A.deeper (envOfC qual (ad st) s.heap.objs.size f cdv))→sp vs H Q E →
   ∃ t,PSs (eK CX0 P w K mg base N qual (ad st) f cdv A outer s H E).nox (ah st) t∧t { nx:=fun _ H'=>Q .non H',rt:=Q } (start N vs) H):FnOk P w K mg base CX0 (k+1) f fd ps sp:=by
 obtain ⟨oc,od,kV,doc,pm,an,cdv,ct,osl,rfl,lk,hcd⟩:=F.ex
 refine vA lk hcd S len fun A outer s H vs Q E hr hsp=>?_
 obtain ⟨t,h,q⟩:=hbody cdv A outer s H vs Q E hr hsp
 exact ⟨t,h.nox,q⟩
theorem Fun.binds{x qual:Str}{st:Stmt}{f:Addr}{fd:FuncData}{ps:List Str}(F:Fun K x qual st f fd)
  (h:∀(kV doc pm:Value) (an:Option Addr) (cdv ct:Value) (us:List Value),us.length=ps.length→bindArgs (fnOf x qual (ai st) (ah st) (ad st) .none kV doc pm an cdv ct) ⟨us,[]⟩=pure (ps.zip us)):Binds K fd ps []:=by
 obtain ⟨oc,od,kV,doc,pm,an,cdv,ct,osl,rfl,lk,hcd⟩:=F.ex
 exact .all (h kV doc pm an cdv ct)
theorem al{x qual:Str}{st:Stmt}{f:Addr}{oc:Value}{od an:Option Addr}{osl:Array (Option Value)}{kV doc pm cdv ct:Value}(l:K.lookup f=some ⟨oc,od,.func (fnOf x qual (ai st) (ah st) (ad st) .none kV doc pm an cdv ct),osl⟩)
  (c:codeIn K cdv qual=true) (k:keepIn K (.ref f)=true):Fun K x qual st f (fnOf x qual (ai st) (ah st) (ad st) .none kV doc pm an cdv ct):=⟨⟨oc,od,kV,doc,pm,an,cdv,ct,osl,rfl,l,c⟩,k⟩
end
theorem oa{A:Around}{k:Nat}(hr:Room k A):A.units+1<cLine:=Nat.lt_of_le_of_lt (Nat.add_le_add_left (by decide:1≤64) _) hr.units
section
variable {X:Cx}
end
theorem xR{A B:Prop}(h:B):if false=true then A else B:=by
 rw[if_neg Bool.false_ne_true]
 exact h
theorem zr{c A B:Prop}[Decidable c](h1:c→A)(h2:¬c→B):if c then A else B:=by
 by_cases h:c
 ·rw[if_pos h]
  exact h1 h
 ·rw[if_neg h]
  exact h2 h
theorem qd{c A B:Prop}[Decidable c](hc:c)(h:B):if (!decide c)=true then A else B:=by
 rw[decide_eq_true hc]
 exact xR h
def Same(H H':Hp):Prop:=∀ b o,H b=some o→H' b=some o
theorem Same.refl(H:Hp):Same H H:=fun _ _ h=>h
theorem Same.trans{H H1 H2:Hp}(a:Same H H1)(b:Same H1 H2):Same H H2:=fun c o h=>b c o (a c o h)
theorem Same.free{H H':Hp}(e:Same H H'){l:Addr}(h:H' l=Option.none):H l=Option.none:=by
 cases q:H l with
 | none=>rfl
 | some o =>
  rw[e l o q]at h
  cases h
theorem Same.seq{K:Frag}{H H':Hp}{a:Addr}{xs:List V}(e:Same H H')(h:SqL K H a xs):SqL K H' a xs:=by
 rcases h with (h | ⟨o,h⟩) | h
 ·exact .inl (.inl (e _ _ h))
 ·exact .inl (.inr ⟨o,e _ _ h⟩)
 ·exact .inr h
end L2
set_option maxHeartbeats 4000000
namespace L2
open PySem PySem.Spec PyProof.Rows
def Its(x:Str):It:=⟨fun i _=>i<x.cps.size,fun i H y H'=>H'=H∧∃ c,x.cps[i]? = some c∧y=.str ⟨#[c]⟩,fun i _=>x.cps.size≤i⟩
theorem lJ{P:Program}{w:World}{K:Frag}{tg:Expr}(x:Str)(it:Addr){ty:String}{t:Tok}(hty:ty = "str_ascii_iterator" ∨ ty = "str_iterator") :
  Turn P w K tg (Its x) [it] it (fun i h=>h.IsStrIter it ty x t i) where
 mem:=by simp
 obj:=fun i h st b hb=>by
  have e:b=it:=by simpa using hb
  subst e
  obtain ⟨o,e,c,d⟩:=st
  exact ⟨o,e,fun v z=>by rw[d]at z; cases z⟩
 keep:=fun i h h' st k=>by
  obtain ⟨o,e,r⟩:=st
  exact ⟨o,k it (by simp) o e,r⟩
 item:=by
  intro X hP hw hK hc i pins s σ H E I hf st hg
  subst hP hw hK
  have hi:i<x.cps.size:=hg
  obtain ⟨f0,f1,f2,f3,f4,f5⟩:=hf it (by simp)
  rcases hty with rfl | rfl
  ·refine wpAny_pyNext_ascii_item st (c:=x.cps[i]) (by simp[hi]) fun h' st' sb=>?_
   have I1:Inv X pins σ H { s with heap:=h',toks:=s.toks+1 }:=I.turned (fun b o hb e=>(sb.2 b hb).trans e) f0 f1 f3 f4 f5
   obtain ⟨o,e,c,d⟩:=id st'
   exact ⟨_,rfl,lq (s:={ s with heap:=h',toks:=s.toks+1 }) e c d (by decide) ⟨.str ⟨#[x.cps[i]]⟩,H,I1,⟨_,rfl⟩,⟨rfl,x.cps[i],by simp[hi],rfl⟩,st',fun b hb=>(hf b hb).1⟩⟩
  ·refine wpAny_pyNext_wide_item st (c:=x.cps[i]) (by simp[hi]) fun h' st' sb=>?_
   have I1:Inv X pins σ H { s with heap:=h',toks:=s.toks+1 }:=I.turned (fun b o hb e=>(sb.2 b hb).trans e) f0 f1 f3 f4 f5
   obtain ⟨o,e,c,d⟩:=id st'
   exact ⟨_,rfl,lq (s:={ s with heap:=h',toks:=s.toks+1 }) e c d (by decide) ⟨.str ⟨#[x.cps[i]]⟩,H,I1,⟨_,rfl⟩,⟨rfl,x.cps[i],by simp[hi],rfl⟩,st',fun b hb=>(hf b hb).1⟩⟩
 done:=by
  intro X hP hw hK hc i pins s σ H E I hf st hg
  subst hP hw hK
  have hi:x.cps.size≤i:=hg
  obtain ⟨f0,f1,f2,f3,f4,f5⟩:=hf it (by simp)
  rcases hty with rfl | rfl
  ·exact wpAny_pyNext_ascii_end (I.ok.hd hc) st (by simp[hi]) fun h' eb=>⟨rfl,I.turned (t':=s.toks) (fun b o hb e=>eb b o hb e) f0 f1 f3 f4 f5⟩
  ·exact wpAny_pyNext_wide_end (I.ok.hd hc) st (by simp[hi]) fun h' eb=>⟨rfl,I.turned (t':=s.toks) (fun b o hb e=>eb b o hb e) f0 f1 f3 f4 f5⟩
 self:=fun _ _ _ _ _ st h=>by
  rcases hty with rfl | rfl
  ·exact wpAny_pyIter_striter_ascii st h
  ·exact wpAny_pyIter_striter_wide st h
def zx(tl:TE):TI:=fun σ H R=>tl σ H fun x H1=>∃ z,x=.str z∧R (Its z) H1
theorem wE{X:Cx}{tg l:Expr}{tl:TE}(hl:PE X l tl):PI X tg l (zx tl):=by
 intro pins s σ H R I h
 refine thn (hl pins s σ H _ I h) fun v s1 ⟨x,H1,I1,r1,q1⟩=>?_
 obtain ⟨z,e,q⟩:=q1
 subst e
 obtain ⟨t,rfl⟩:=r1
 refine wpAny_pyIter_strU ?_
 refine ⟨s1.heap.objs.size,[s1.heap.objs.size],_,_,H1,rfl,I1.kept (t':=s1.toks) fun b o e=>Heap.get?_push_of_some _ e,lJ (ty:=strIterType z) (t:=t) z _ ?_,⟨_,Heap.get?_push_size _ rfl,rfl,rfl⟩,fun b hb=>?_,q⟩
 ·unfold strIterType
  split
  ·exact .inl rfl
  ·exact .inr rfl
 ·have e:b=s1.heap.objs.size:=by simpa using hb
  subst e
  exact I1.fpOk (Nat.le_refl _) (I1.hok.fresh (Nat.le_refl _))
def Wk:St→St→Prop
 | [],[]=>True
 | Option.none::r,_::q=>Wk r q
 | some a::r,b::q=>b=some a∧Wk r q
 | _,_=>False
theorem Wk.len:∀{a b:St},Wk a b→a.length=b.length
 | [],[],_=>rfl
 | Option.none::r,_::q,h=>congrArg (· + 1) (Wk.len (a:=r) (b:=q) h)
 | some _::r,_::q,h=>congrArg (· + 1) (Wk.len (a:=r) (b:=q) h.2)
 | [],_::_,h=>h.elim
 | Option.none::_,[],h=>h.elim
 | some _::_,[],h=>h.elim
theorem Wk.get:∀{a b:St},Wk a b→∀(i:Nat) v,a[i]? = some (some v)→b[i]? = some (some v)
 | [],[],_,i,v,e=>by simp at e
 | Option.none::r,y::q,h,0,v,e=>by simp at e
 | Option.none::r,y::q,h,i+1,v,e=>by simpa using Wk.get (a:=r) (b:=q) h i v (by simpa using e)
 | some x::r,y::q,h,0,v,e=>by
  have e':x=v:=by simpa using e
  rw[h.1,e'] <;> simp
 | some x::r,y::q,h,i+1,v,e=>by simpa using Wk.get (a:=r) (b:=q) h.2 i v (by simpa using e)
 | [],_::_,h,_,_,_=>h.elim
 | Option.none::_,[],h,_,_,_=>h.elim
 | some _::_,[],h,_,_,_=>h.elim
def el(cells:List (Str×Addr)):List (Str×NameKind)→List (Str×Addr)→List (Str×Addr)
 | [],acc=>acc
 | (n,k)::r,acc=>if k == .free then el cells r ((n,(cells.lookup n).getD 0)::acc) else el cells r acc
theorem fj{sc:Scope}{env:Env}(h:∀ y∈sc.names,y.2=.free→∃ c,env.cells.lookup y.1=some c):closureFor sc env=pure (el env.cells sc.names []):=by
 unfold closureFor
 have key:∀(l:List (Str×NameKind)) (acc:List (Str×Addr)),(∀ y∈l,y.2=.free→∃ c,env.cells.lookup y.1=some c) →
   (forIn l acc fun x r=>match x with | (name,kind)=>if (kind == .free)=true then do let a ← cellOf env name; pure (ForInStep.yield ((name,a)::r)) else pure (ForInStep.yield r):Sem (List (Str×Addr)))=pure (el env.cells l acc):=by
  intro l
  induction l with
  | nil=>intro acc _; rfl
  | cons y r ih =>
   intro acc hy
   obtain ⟨n,k⟩:=y
   have hr:∀ y∈r,y.2=.free→∃ c,env.cells.lookup y.1=some c:=fun y hm=>hy y (mem_cons_of_mem _ hm)
   rw[forIn_cons]
   by_cases hk:k=.free
   ·subst hk
    obtain ⟨c,hc⟩:=hy (n,.free) mem_cons_self rfl
    have e1:cellOf env n=pure c:=by unfold cellOf; rw[hc]
    have e2:el env.cells ((n,.free)::r) acc=el env.cells r ((n,c)::acc):=by
     show (if (NameKind.free == NameKind.free)=true then el env.cells r ((n,(env.cells.lookup n).getD 0)::acc) else el env.cells r acc)=_
     rw[if_pos (by decide),hc]; rfl
    rw[e2,← ih ((n,c)::acc) hr]
    show (do let x ← (if (NameKind.free == NameKind.free)=true then do let a ← cellOf env n; pure (ForInStep.yield ((n,a)::acc)) else pure (ForInStep.yield acc):Sem _); _)=_
    rw[if_pos (by decide),e1]
    rfl
   ·have hb:(k == NameKind.free)=false:=by simpa using hk
    have e2:el env.cells ((n,k)::r) acc=el env.cells r acc:=by
     show (if (k == NameKind.free)=true then el env.cells r ((n,(env.cells.lookup n).getD 0)::acc) else el env.cells r acc)=_
     rw[hb]; rfl
    rw[e2,← ih acc hr]
    show (do let x ← (if (k == NameKind.free)=true then do let a ← cellOf env n; pure (ForInStep.yield ((n,a)::acc)) else pure (ForInStep.yield acc):Sem _); _)=_
    rw[hb]
    rfl
 have:=key sc.names [] h
 first | exact this | (rw[this]; rfl) | simpa using this
theorem eC{cells:List (Str×Addr)}:∀{l:List (Str×NameKind)}{acc:List (Str×Addr)}{n:Str}{c:Addr},(∀ y∈l,y.2=.free→∃ c,cells.lookup y.1=some c)→(∀ n c,acc.lookup n=some c→cells.lookup n=some c) →
  (el cells l acc).lookup n=some c→cells.lookup n=some c
 | [],acc,n,c,_,ha,e=>ha n c e
 | (m,k)::r,acc,n,c,hl,ha,e=>by
  have hr:∀ y∈r,y.2=.free→∃ c,cells.lookup y.1=some c:=fun y hm=>hl y (mem_cons_of_mem _ hm)
  have e':(if (k == NameKind.free)=true then el cells r ((m,(cells.lookup m).getD 0)::acc) else el cells r acc).lookup n=some c:=e
  by_cases hk:(k == NameKind.free)=true
  ·rw[if_pos hk]at e'
   refine eC hr (fun n c z=>?_) e'
   obtain ⟨d,hd⟩:=hl (m,k) mem_cons_self (by simpa using hk)
   rw[lookup_cons]at z
   by_cases hn:(n == m)=true
   ·rw[hn]at z
    have:n=m:=by simpa using hn
    subst this
    have hd':cells.lookup n=some d:=hd
    rw[hd']at z ⊢
    simpa using z
   ·have hn':(n == m)=false:=by simpa using hn
    rw[hn']at z
    exact ha n c z
  ·rw[if_neg hk]at e'
   exact eC hr ha e'
theorem fJ{cells:List (Str×Addr)}:∀{l:List (Str×NameKind)}{acc:List (Str×Addr)}{n:Str},((n,NameKind.free)∈l∨∃ c,acc.lookup n=some c)→∃ c,(el cells l acc).lookup n=some c
 | [],acc,n,h=>by
  rcases h with h | h
  ·cases h
  ·exact h
 | (m,k)::r,acc,n,h=>by
  show ∃ c,(if (k == NameKind.free)=true then el cells r ((m,(cells.lookup m).getD 0)::acc) else el cells r acc).lookup n=some c
  have hcons:∀ a,n=m∨(∃ c,acc.lookup n=some c)→∃ c,((m,a)::acc).lookup n=some c:=fun a z=>by
   rw[lookup_cons]
   by_cases hn:(n == m)=true
   ·rw[hn]; exact ⟨_,rfl⟩
   ·have hn':(n == m)=false:=by simpa using hn
    rw[hn']
    rcases z with z | z
    ·exact absurd (by simpa using z) hn
    ·exact z
  by_cases hk:(k == NameKind.free)=true
  ·rw[if_pos hk]
   refine fJ ?_
   rcases h with h | h
   ·rcases mem_cons.mp h with e | h
    ·exact .inr (hcons _ (.inl (congrArg Prod.fst e)))
    ·exact .inl h
   ·exact .inr (hcons _ (.inr h))
  ·rw[if_neg hk]
   refine fJ ?_
   rcases h with h | h
   ·rcases mem_cons.mp h with e | h
    ·have:k=.free:=(congrArg Prod.snd e).symm
     rw[this]at hk
     exact absurd (by decide) hk
    ·exact .inl h
   ·exact .inr h
def rlb(env:Env)(p:Str×NameKind):Str×NameKind:=if (p.2 == NameKind.free && env.scope.kind == ScopeKind.function && env.kindOf p.1 == some NameKind.cell)=true then (p.1,NameKind.cell) else p
theorem jv(sc:Scope)(env:Env):(relabel sc env).names=sc.names.map (rlb env):=rfl
theorem uv(env:Env)(p:Str×NameKind):(rlb env p).1=p.1:=by
 unfold rlb
 split <;> rfl
theorem rS{env:Env}{p:Str×NameKind}(h:p.2≠.cell)(h2:(rlb env p).2=.cell∨(rlb env p).2=.free):p.2=.free:=by
 unfold rlb at h2
 split at h2
 ·rename_i q
  rw[Bool.and_eq_true,Bool.and_eq_true]at q
  simpa using q.1.1
 ·rcases h2 with h2 | h2
  ·exact absurd h2 h
  ·exact h2
theorem fW{env:Env}:∀{names:List (Str×NameKind)}{x:Str}{k:NameKind},(∀ y∈names,y.2≠.cell)→(k=.cell∨k=.free)→(names.map (rlb env)).lookup x=some k→(x,NameKind.free)∈names
 | [],x,k,_,_,e=>by simp at e
 | p::r,x,k,hc,hk,e=>by
  have hr:∀ y∈r,y.2≠.cell:=fun y hm=>hc y (mem_cons_of_mem _ hm)
  have e0:rlb env p=(p.1,(rlb env p).2):=by rw[← uv env p]
  rw[map_cons,e0,lookup_cons]at e
  by_cases hx:x=p.1
  ·have hb:(x == p.1)=true:=by simpa using hx
   rw[hb]at e
   have e2:(rlb env p).2=k:=Option.some.inj e
   have hj:=rS (env:=env) (hc p mem_cons_self) (by rw[e2]; exact hk)
   have:(x,NameKind.free)=p:=by rw[hx,← hj]
   rw[this]
   exact mem_cons_self
  ·have hb:(x == p.1)=false:=by simpa using hx
   rw[hb]at e
   exact mem_cons_of_mem _ (fW hr hk e)
theorem fe{env:Env}{sc:Scope}{x:Str}{k:NameKind}(hc:∀ y∈sc.names,y.2≠.cell)(hk:k=.cell∨k=.free)(e:(relabel sc env).names.lookup x=some k):(x,NameKind.free)∈sc.names :=
 fW (env:=env) hc hk (by rw[← jv]; exact e)
def pJ(ix:List (Option Nat))(σ:St):St:=ix.map fun o=>o.bind fun i=>(σ[i]?).join
def FreeOk(XN:List Str)(env:Env)(sc:Scope):List Str→List (Option Nat)→Prop
 | [],[]=>True
 | _::N,Option.none::ix=>FreeOk XN env sc N ix
 | y::N,some i::ix=>XN[i]? = some y∧env.kindOf y=some .cell∧(relabel sc env).names.lookup y=some .cell∧FreeOk XN env sc N ix
 | _,_=>False
theorem FreeOk.len{XN:List Str}{env:Env}{sc:Scope}:∀{N:List Str}{ix:List (Option Nat)},FreeOk XN env sc N ix→ix.length=N.length
 | [],[],_=>rfl
 | _::N,Option.none::ix,h=>congrArg (· + 1) (FreeOk.len (N:=N) (ix:=ix) h)
 | _::N,some _::ix,h=>congrArg (· + 1) (FreeOk.len (N:=N) (ix:=ix) h.2.2.2)
 | [],_::_,h=>h.elim
 | _::_,[],h=>h.elim
theorem FreeOk.get{XN:List Str}{env:Env}{sc:Scope}:∀{N:List Str}{ix:List (Option Nat)},FreeOk XN env sc N ix→∀(j:Nat) (y:Str) (i:Nat),N[j]? = some y→ix[j]? = some (some i) →
  XN[i]? = some y∧env.kindOf y=some .cell∧(relabel sc env).names.lookup y=some .cell
 | [],[],_,j,y,i,e,_=>by simp at e
 | _::N,Option.none::ix,h,0,y,i,e,e2=>by simp at e2
 | _::N,Option.none::ix,h,j+1,y,i,e,e2=>FreeOk.get (N:=N) (ix:=ix) h j y i (by simpa using e) (by simpa using e2)
 | z::N,some k::ix,h,0,y,i,e,e2=>by
  have e':z=y:=by simpa using e
  have e2':k=i:=by simpa using e2
  subst e'; subst e2'
  exact ⟨h.1,h.2.1,h.2.2.1⟩
 | _::N,some _::ix,h,j+1,y,i,e,e2=>FreeOk.get (N:=N) (ix:=ix) h.2.2.2 j y i (by simpa using e) (by simpa using e2)
 | [],_::_,h,_,_,_,_,_=>h.elim
 | _::_,[],h,_,_,_,_,_=>h.elim
def cxB(X:Cx)(sc:Scope)(C:Addr)(N:List Str)(s₀:Shared)(H₀:Hp)(fp:List Addr):Cx :=
 { X with N:=N,s₀:=s₀,H₀:=H₀,env:=compEnvC sc (el X.env.cells sc.names []) C X.env,outer:=X.stack,ex:=fp,fn:=fun _=>false,pn:=[],xe:=fun _ _=>False }
structure CompOk(X:Cx)(sc:Scope)(N:List Str)(ix:List (Option Nat)):Prop where
 kind:sc.kind=.function
 nocell:(sc.names.all fun y=>y.2 != .cell)=true
 names:(sc.names.all fun y=>y.2 != .local || sc.names.lookup y.1 == some .local) = true
 free:(sc.names.all fun y=>y.2 != .free || X.env.scope.names.lookup y.1 == some .cell)=true
 fr:FreeOk X.N X.env sc N ix
section
variable {X:Cx}{sc:Scope}{N:List Str}{ix:List (Option Nat)}{pins:List (Addr×Obj)}{σ:St}{H:Hp}{s:Shared}
theorem CompOk.cells(c:CompOk X sc N ix)(ok:X.Ok):∀ y∈sc.names,y.2=.free→∃ c,X.env.cells.lookup y.1=some c:=fun y hy e=>by
 have h:=all_eq_true.mp c.free y hy
 rw[e]at h
 have h':X.env.scope.names.lookup y.1=some .cell:=by simpa using h
 exact ok.has y.1 (.inl h')
theorem CompOk.nc(c:CompOk X sc N ix):∀ y∈sc.names,y.2≠.cell:=fun y hy=>by simpa using all_eq_true.mp c.nocell y hy
theorem CompOk.nm(c:CompOk X sc N ix):∀ y ∈ sc.names,y.2 = .local→sc.names.lookup y.1 = some .local:=fun y hy e=>by
 have h:=all_eq_true.mp c.names y hy
 rw[e]at h
 simpa using h
theorem oF{C:Addr}{fp:List Addr}{h₁:Heap}{t':Nat}(c:CompOk X sc N ix)(I:Inv X pins σ H s)(hf:∀ b∈fp,FpOk X pins H b)(hfp:∀ b∈fp,b<s.heap.objs.size)(hC:s.heap.objs.size≤C)
  (hn:h₁.Ns C (fun _=>none)) (old:∀ b o,s.heap.get? b=some o→h₁.get? b=some o):Inv (cxB X sc C N s H fp) [] (pJ ix σ) H { s with heap:=h₁,toks:=t' }:=by
 have hcells:=c.cells I.ok
 have sub:∀ n c,(el X.env.cells sc.names []).lookup n=some c→X.env.cells.lookup n=some c:=fun n c e=>eC hcells (fun n c z=>by simp at z) e
 refine ⟨⟨I.ok.mod,c.kind,I.ok.glob,I.ok.blt,hC,fun x y d h1 h2=>I.ok.inj x y d (sub x d h1) (sub y d h2),fun x hx=>?_,fun x d z=>absurd z (by simp[cxB]),I.ok.hd,I.ok.frames,.inl rfl,fun b hb=>⟨?_,fun x d e=>?_⟩,I.bs,Nat.le_trans I.ok.bsz I.sz,fun b o e hb=>?_,fun b hb hs=>?_,I.stack,I.stkFree⟩,
  rfl,I.bare,Un.kept old,⟨_,hn,fun j y v e1 e2 e3=>?_⟩,fun x d e=>?_,I.hok.fresh hC,fun x d e=>I.freeC x d (sub x d e),fun p hp=>absurd (show p∈([]:List (Addr×Obj)) from hp) (by simp),I.hok.kept old,?_⟩
 ·refine fJ (.inl ?_)
  rcases hx with hx | hx
  ·exact fe c.nc (.inl rfl) (show (relabel sc X.env).names.lookup x=some .cell from hx)
  ·exact fe c.nc (.inr rfl) (show (relabel sc X.env).names.lookup x=some .free from hx)
 ·exact Nat.ne_of_lt (Nat.lt_of_lt_of_le (hfp b hb) hC)
 ·exact (hf b hb).2.2.2.2.1 x d (sub x d e)
 ·rcases (hf b hb).2.2.2.1 with z | z
  ·exact I.ok.noex b o e z
  ·exact absurd (Nat.lt_of_lt_of_le (Heap.lt_size e) (Nat.le_trans I.ok.bsz z)) (Nat.lt_irrefl _)
 ·rcases mem_cons.mp (I.stkSub b hs) with z | z
  ·exact (hf b hb).2.1 z
  ·exact (hf b hb).2.2.1 z
 ·have hj:∃ i,ix[j]? = some (some i)∧σ[i]? = some (some v):=by
   unfold pJ at e2
   rw[List.getElem?_map]at e2
   cases q:ix[j]? with
   | none=>rw[q]at e2; cases e2
   | some o =>
    rw[q]at e2
    cases o with
    | none=>cases e2
    | some i =>
     refine ⟨i,rfl,?_⟩
     have e2':(σ[i]?).join=some v:=Option.some.inj e2
     cases q2:σ[i]? with
     | none=>rw[q2]at e2'; cases e2'
     | some w=>rw[q2]at e2'; exact congrArg some e2'
  obtain ⟨i,hi,hv⟩:=hj
  obtain ⟨k1,k2,k3⟩:=c.fr.get j y i e1 hi
  obtain ⟨m,hm,hl⟩:=I.loc
  obtain ⟨u,r,l⟩:=hl i y v k1 hv (.inr (.inl k2))
  refine ⟨u,r,?_⟩
  rcases l with ⟨z,_⟩ | ⟨_,d,hd,hcell⟩
  ·rw[k2]at z; cases z
  ·obtain ⟨d',hd'⟩:∃ d',(el X.env.cells sc.names []).lookup y=some d':=fJ (.inl (fe c.nc (.inl rfl) k3))
   have:=sub y d' hd'
   rw[hd]at this
   cases this
   exact .inr ⟨.inl k3,d,hd',hcell.keeps old⟩
 ·obtain ⟨v,z⟩:=I.cell x d (sub x d e)
  exact ⟨v,z.keeps old⟩
 ·show (pJ ix σ).length=N.length
  unfold pJ
  rw[length_map,c.fr.len]
theorem ly{C:Addr}{fp:List Addr}{pins':List (Addr×Obj)}{σ':St}{H':Hp}{s':Shared}(I:Inv X pins σ H s)(hf:∀ b∈fp,FpOk X pins H b)(J:Inv (cxB X sc C N s H fp) pins' σ' H' s'):Inv X pins σ H' s':=by
 refine I.call' (ch:=fp) J.os J.base J.hok J.bare fun b hb=>?_
 obtain ⟨f0,f1,f2,f3,f4,f5⟩:=hf b hb
 exact ⟨f3,f1,f4,f5⟩
end
def PTs(X:Cx)(ifs:List Expr)(t:TT):Prop :=
 ∀(pins:List (Addr×Obj)) (s:Shared) (σ:St) (H:Hp) (Q:Bool→Hp→Prop),Inv X pins σ H s→t σ H Q →
  wpAny (model X.prog X.w) X.A (forIn ifs true fun c r=>if r=true then do let ok ← isTrue c X.env (eval c X.env); pure (ForInStep.yield ok) else pure (ForInStep.yield r)) (TP X pins σ Q) X.xe s
def yT:TT:=fun _ H Q=>Q true H
theorem bi{X:Cx}:PTs X [] yT:=fun _ _ _ H _ I h=>wpAny_tests_nil ⟨H,I,h⟩
theorem eA{X:Cx}{c:Expr}{t:TT}(h:PT X c t):PTs X [c] t:=fun pins s σ H Q I hw=>wpAny_tests_one (h pins s σ H Q I hw)
def iM(J:It)(D:Addr)(σb:St)(g:TG)(tt:TT)(te:TE)(Q:Hp→List V→Prop)(W:Nat→Nat→List V→Hp→Prop):Prop :=
 ∀ i m ys H,W i m ys H→H D=some (.lst ys)∧((J.stop i H∧Q H ys)∨(J.go i H∧∀ x H3,J.yld i H x H3→g x σb H3 fun σ4 H4=>Wk σb σ4∧tt σ4 H4 fun b H5 =>
  if b=true then te σ4 H5 fun y H6=>H6 D=some (.lst ys)∧ys.length<sizeLine∧∃ m',m'<m∧W (i+1) m' (ys++[y]) (upd H6 D (.lst (ys++[y]))) else ∃ m',m'<m∧W (i+1) m' ys H5))
def rk(ix:List (Option Nat))(wi:TI)(g:TG)(tt:TT)(te:TE):TE:=fun σ H Q=>wi σ H fun J H1=>∀ D,H1 D=none→∃ W,(∃ m,W 0 m [] (upd H1 D (.lst [])))∧iM J D (pJ ix σ) g tt te (fun H _=>Q (.ref D) H) W
section
variable {X:Cx}{sc:Scope}{N:List Str}{ix:List (Option Nat)}{elt tg iter:Expr}{ifs:List Expr}{pos:Pos}{wi:TI}{g:TG}{tt:TT}{te:TE}
structure Blk(X:Cx)(sc:Scope)(N:List Str)(tg elt:Expr)(ifs:List Expr)(g:TG)(tt:TT)(te:TE):Prop where
 tg:∀ C s H fp,PG (cxB X sc C N s H fp) tg g
 tests:∀ C s H fp,PTs (cxB X sc C N s H fp) ifs tt
 elt:∀ C s H fp,PE (cxB X sc C N s H fp) elt te
theorem pd{J:It}{fp:List Addr}{it D:Addr}{tn:Nat→Heap→Prop}{σb:St}{Q:Hp→List V→Prop}{R:Result→Shared→Prop}{W:Nat→Nat→List V→Hp→Prop}
  (hc:X.calm=true) (hxe:X.xe=fun _ _=>False) (T:Turn X.prog X.w X.K tg J fp it tn) (hg:PG X tg g) (ht:PTs X ifs tt) (he:PE X elt te) (turn:iM J D σb g tt te Q W)
  (stat:∀{H':Hp},(∀ b∈fp,H' b=none)→∀ b∈fp,FpOk X [] H' b)
  (fin:∀{σ':St}{H':Hp}{s':Shared}{ys:List V},Inv X [] σ' H' s'→Q H' ys→R (.ok .next) s')
  {m0 i0:Nat}{ys0:List V}{H0:Hp}{s0:Shared}(I0:Inv X [] σb H0 s0) (st0:tn i0 s0.heap) (fr0:∀ b∈fp,H0 b=none) (w0:W i0 m0 ys0 H0) :
  codeAny (model X.prog X.w) X.A (.compLoop (.ListComp elt [⟨tg,iter,ifs,0⟩] sc pos) 0 (.ref it) (.ref D) X.env) R s0:=by
 have noE:∀{E':Value→Shared→Prop}(e:Value) (s':Shared),X.xe e s'→E' e s':=fun {E'} e s' z=>by rw[hxe]at z; exact z.elim
 refine codeAny_loop rfl (fun n s'=>∃ i ys H',Inv X [] σb H' s'∧tn i s'.heap∧(∀ b∈fp,H' b=none)∧W i n ys H') ?_ m0 ⟨i0,ys0,H0,I0,st0,fr0,w0⟩
 rintro n s3 ⟨i,ys,H3,I3,st3,fr3,w3⟩
 show wpAny _ X.A ((compTurn (.ListComp elt [⟨tg,iter,ifs,0⟩] sc pos) 0 (.ref it) (.ref D) X.env).onRaise (fun x=>do noteFrame x X.env; theTreesLotGoes x)) _ _ s3
 refine wpAny_noted ?_
 rw[compTurn_list]
 refine wpAny_bind (wpAny_standAt (wpAny_bind ?_))
 obtain ⟨hDl,next⟩:=turn i n ys H3 w3
 rcases next with ⟨stop,q⟩ | ⟨go,step⟩
 ·refine thn (T.done X rfl rfl rfl hc i [] s3 σb H3 _ I3 (stat fr3) st3 stop) fun r s4 ⟨hr,I4⟩=>?_
  subst hr
  exact wpAny_pure (fin I4 q)
 ·refine thn (T.item X rfl rfl rfl hc i [] s3 σb H3 _ I3 (stat fr3) st3 go) fun r s4 ⟨u,hr,h4⟩=>?_
  subst hr
  refine wpAny_bind (thn h4 fun _ s5 ⟨x,H5,I5,r5,y5,st5,fr5⟩=>?_)
  have I5':=I5.pinned (stat fr5) (T.obj _ _ st5)
  have back:∀{σ':St}{H':Hp}{s':Shared},Inv X ([]++iT fp s5.heap) σ' H' s'→Wk σb σ'→Inv X [] σb H' s'∧tn (i+1) s'.heap∧∀ b∈fp,H' b=none:=fun {σ' H' s'} I7 wk=>by
   refine ⟨(I7.unpinned).weak wk.len wk.get,T.keep _ _ _ st5 fun b hb o e=>(I7.pin (b,o) (mem_append_right _ (mem_append_right _ (eX hb e)))).1,fun b hb=>?_⟩
   obtain ⟨o,e,d⟩:=T.obj _ _ st5 b hb
   exact (I7.pin (b,o) (mem_append_right _ (mem_append_right _ (eX hb e)))).2.1
  refine wpAny_bind (wpAny_mono (hg _ s5 σb H5 x u _ I5' r5 (step x H5 y5)) (fun _ s6 ⟨σ6,H6,I6,wk,q6⟩=>?_) noE)
  refine wpAny_bind (wpAny_mono (ht _ s6 σ6 H6 _ I6 q6) (fun ok s7 ⟨H7,I7,q7⟩=>?_) noE)
  cases ok with
  | false =>
   obtain ⟨m',hm,w7⟩:=q7
   obtain ⟨b1,b2,b3⟩:=back I7 wk
   exact wpAny_pure ⟨rfl,m',hm,i+1,ys,H7,b1,b2,b3,w7⟩
  | true =>
   refine wpAny_bind (wpAny_bind (wpAny_mono (he _ s7 σ6 H7 _ I7 q7) (fun v s8 ⟨y,H8,I8,r8,hD8,hl8,m',hm,w8⟩=>?_) noE))
   refine wpAny_bind (wpAny_mono (jU _ s8 σ6 H8 (.ref D) [y] (.ref D) [v] (fun _ H9=>H9=upd H8 D (.lst (ys++[y]))) I8 rfl (.cons r8 .nil) ⟨D,ys,y,rfl,rfl,hD8,hl8,rfl⟩) (fun _ s9 ⟨z,H9,I9,_,e9⟩=>?_) noE)
   subst e9
   obtain ⟨b1,b2,b3⟩:=back I9 wk
   exact wpAny_pure (wpAny_pure ⟨rfl,m',hm,i+1,ys++[y],_,b1,b2,b3,w8⟩)
theorem jD{pins:List (Addr×Obj)}{σ:St}{H:Hp}{s:Shared}{E:Value→Shared→Prop}{RR:Value→Addr→Result→Shared→Prop}{it:Addr}{fp:List Addr}{tn:Nat→Heap→Prop}{J:It}{Q:Addr→Hp→List V→Prop}
  (hc:X.calm=true) (c:CompOk X sc N ix) (B:Blk X sc N tg elt ifs g tt te) (I:Inv X pins σ H s) (T:Turn X.prog X.w X.K tg J fp it tn) (st:tn 0 s.heap) (hf:∀ b∈fp,FpOk X pins H b)
  (h:∀ D,H D=none→∃ W,(∃ m,W 0 m [] (upd H D (.lst [])))∧iM J D (pJ ix σ) g tt te (Q D) W)
  (hR:∀ D C H' s' ys,Inv X pins σ H' s'→FpOk X pins H' C→(∃ m,s'.heap.Ns C m)→Q D H' ys→RR (.ref D) C (.ok .next) s') :
  wpAny (model X.prog X.w) X.A (newList []) (fun acc s₃=>wpAny (model X.prog X.w) X.A (newFunctionEnv sc X.env.globals (el X.env.cells sc.names []) [] X.env.qual none .none (some X.env)) (fun cenv s₄ =>
   codeAny (model X.prog X.w) X.A (.compStart (.ListComp elt [⟨tg,iter,ifs,0⟩] sc pos) 0 (.ref it) acc { cenv with scope:=relabel sc X.env }) (RR acc cenv.locals) s₄) E s₃) E s:=by
 have hlt:∀ b∈fp,b<s.heap.objs.size:=fun b hb=>let ⟨o,e,_⟩:=T.obj _ _ st b hb; Heap.lt_size e
 refine wpAny_newObj_type ?_ (by show 0≤sizeLine; exact Nat.zero_le _)
 have hD:H s.heap.objs.size=none:=I.hok.fresh (Nat.le_refl _)
 obtain ⟨W,⟨m0,w0⟩,turn⟩:=h s.heap.objs.size hD
 have I1:Inv X pins σ (upd H s.heap.objs.size (.lst [])) { s with heap:=s.heap.push { cls:=.type "list",data:=.seq ([]:List Value).toArray } }:=I.lnew (t':=s.toks) (its:=[]) .nil (Nat.zero_le _)
 have k1:∀ b o,s.heap.get? b=some o→(s.heap.push { cls:=.type "list",data:=.seq ([]:List Value).toArray }).get? b=some o:=fun b o e=>Heap.get?_push_of_some _ e
 have hne:∀ b∈fp,b≠s.heap.objs.size:=fun b hb=>Nat.ne_of_lt (hlt b hb)
 have hf1:∀ b∈fp,FpOk X pins (upd H s.heap.objs.size (.lst [])) b:=fun b hb=>⟨by rw[ag (hne b hb)]; exact (hf b hb).1,(hf b hb).2⟩
 have st1:tn 0 (s.heap.push { cls:=.type "list",data:=.seq ([]:List Value).toArray }):=T.keep _ _ _ st fun b _ o e=>k1 b o e
 generalize hs1:({ s with heap:=s.heap.push { cls:=.type "list",data:=.seq ([]:List Value).toArray } }:Shared)=s1 at I1
 have hs1h:s1.heap=s.heap.push { cls:=.type "list",data:=.seq ([]:List Value).toArray }:=by rw[← hs1]
 generalize hDe:s.heap.objs.size=D at *
 show wpAny _ _ _ _ _ s1
 refine wpAny_newFunctionEnv c.nc (by intro y hy; simp at hy) (fun h₁ hns₁ hsb₁=>?_) c.kind
 have old:∀ b o,s1.heap.get? b=some o→h₁.get? b=some o:=fun b o e=>(hsb₁.2 b (Nat.ne_of_lt (Heap.lt_size e))).trans (Heap.get?_push_of_some _ e)
 have hlt1:∀ b∈fp,b<s1.heap.objs.size:=fun b hb=>by
  obtain ⟨o,e,_⟩:=T.obj _ _ st1 b hb
  rw[hs1h]
  exact Heap.lt_size e
 have J0:=oF (h₁:=h₁) (t':=s1.toks+([]:List (Str×Value)).length) c I1 hf1 hlt1 (Nat.le_refl _) (by simpa using hns₁) old
 have stB:tn 0 h₁:=T.keep _ _ _ (by rw[hs1h]; exact st1:tn 0 s1.heap) fun b _ o e=>old b o e
 have fpB:∀{H':Hp},(∀ b∈fp,H' b=none)→∀ b∈fp,FpOk (cxB X sc s1.heap.objs.size N s1 (upd H D (.lst [])) fp) [] H' b:=fun {H'} hn b hb=>by
  obtain ⟨f0,f1,f2,f3,f4,f5⟩:=hf1 b hb
  refine ⟨hn b hb,Nat.ne_of_lt (hlt1 b hb),?_,.inl hb,fun x d e=>f4 x d (eC (c.cells I.ok) (fun n c z=>by simp at z) e),fun p hp=>absurd (show p∈([]:List (Addr×Obj)) from hp) (by simp)⟩
  intro z
  rcases mem_cons.mp (I1.stkSub b z) with q | q
  ·exact f1 q
  ·exact f2 q
 have fin:∀{σ':St}{H':Hp}{s':Shared}{ys:List V},Inv (cxB X sc s1.heap.objs.size N s1 (upd H D (.lst [])) fp) [] σ' H' s'→Q D H' ys→RR (.ref D) s1.heap.objs.size (.ok .next) s':=fun {σ' H' s' ys} J q =>
  hR D _ H' s' ys (ly I1 hf1 J) (I1.fpOk (Nat.le_refl _) J.free) (let ⟨m,hn,_⟩:=J.loc; ⟨m,hn⟩) q
 have loop:codeAny (model X.prog X.w) X.A (.compLoop (.ListComp elt [⟨tg,iter,ifs,0⟩] sc pos) 0 (.ref it) (.ref D) (cxB X sc s1.heap.objs.size N s1 (upd H D (.lst [])) fp).env) (RR (.ref D) s1.heap.objs.size) { s1 with heap:=h₁,toks:=s1.toks+([]:List (Str×Value)).length } :=
  pd (X:=cxB X sc s1.heap.objs.size N s1 (upd H D (.lst [])) fp) hc rfl T (B.tg _ _ _ _) (B.tests _ _ _ _) (B.elt _ _ _ _) turn fpB fin J0 stB (fun b hb=>(hf1 b hb).1) w0
 exact codeAny_compStart_list loop (T.self _ 0 _ _ _ stB loop)
theorem bf(hc:X.calm=true)(c:CompOk X sc N ix)(hi:PI X tg iter wi)(B:Blk X sc N tg elt ifs g tt te)(hs:∀ x,foldedSetIterable iter X.env x=pure x:=by intro _; rfl):PE X (.ListComp elt [⟨tg,iter,ifs,0⟩] sc pos) (rk ix wi g tt te):=by
 intro pins s σ H Q I h
 rw[eval_ListComp]
 refine wpAny_comprehension_free (use:=none) rfl hs (fj (c.cells I.ok)) c.kind c.nm (thn (hi pins s σ H _ I h) fun xv s₁ h₁=>thn h₁ fun itv s₂ h₂=>?_)
 obtain ⟨it,fp,tn,J,H2,e,I2,T,st2,f2,q2⟩:=h₂
 subst e
 refine jD (RR:=fun acc C=>compPost (model X.prog X.w) X.A X.xe none (EP X pins σ Q) acc C) (Q:=fun D H _=>Q (.ref D) H) hc c B I2 T st2 f2 q2 ?_
 intro D C H' s' ys I' fC ns q
 refine ⟨_,ns.choose_spec,fun h' sb=>⟨.ref D,H',?_,rfl,q⟩⟩
 obtain ⟨f0,f1,f2,f3,f4,f5⟩:=fC
 exact I'.turned (t':=s'.toks) (fun b o hb e=>(sb.2 b hb).trans e) f0 f1 f3 f4 f5
theorem fg{i:Nat}{y:Str}{py spos:Pos}(hc:X.calm = true)(hN:X.N.Nodup)(hy:X.N[i]? = some y)(hl:X.env.scope.names.lookup y = some .local)
  (hsw:swapsWith (.ListComp elt [⟨tg,iter,ifs,0⟩] sc pos) (some (.Name y py)) spos.line X.env=pure true)
  (c:CompOk X sc N ix) (hi:PI X tg iter wi) (B:Blk X sc N tg elt ifs g tt te) (hs:∀ x,foldedSetIterable iter X.env x=pure x:=by intro _; rfl) :
  PS X (.Assign [.Name y py] (.ListComp elt [⟨tg,iter,ifs,0⟩] sc pos) spos) (vZ (rk ix wi g tt te) (jP i)):=by
 intro pins s σ H D0 I h
 rw[exec_Assign_Name_used _ _ _ _ hsw]
 refine wpAny_bind (wpAny_standAt (wpAny_bind ?_))
 show wpAny _ X.A (do let _ ← comprehension (.ListComp elt [⟨tg,iter,ifs,0⟩] sc pos) sc X.env _ (newList []) false (eval iter X.env) (some (assign (.Name y py) X.env))) _ _ s
 refine wpAny_bind (wpAny_mono (wpAny_comprehension_free (use:=some (assign (.Name y py) X.env)) (Q:=fun _ s'=>SP X pins D0 .next s') rfl hs (fj (c.cells I.ok)) c.kind c.nm
  (thn (hi pins s σ H _ I h) fun xv s₁ h₁=>thn h₁ fun itv s₂ h₂=>?_)) (fun _ s' hq=>wpAny_pure (wpAny_pure hq)) fun _ _ e=>e)
 obtain ⟨it,fp,tn,J,H2,e,I2,T,st2,f2,q2⟩:=h₂
 subst e
 refine jD (RR:=fun acc C=>compPost (model X.prog X.w) X.A X.xe (some (assign (.Name y py) X.env)) (fun _ s'=>SP X pins D0 .next s') acc C) (Q:=fun D H _=>D0.nx (σ.set i (some (.ref D))) H) hc c B I2 T st2 f2 q2 ?_
 intro D C H' s' ys I' fC ns q
 show wpAny _ X.A (assign (.Name y py) X.env (.ref D)) _ _ _
 obtain ⟨f0,f1,f2,f3,f4,f5⟩:=fC
 refine wpAny_assign_Name (jI I' hN hy (.inl hl) (v:=.ref D) rfl (fun s2 J2 ⟨a,sb,ha⟩=>?_) (.inr hl))
 obtain ⟨m,hn⟩:=ns
 have neC:C≠a:=by
  rcases ha with z | z
  ·rw[z]; exact f1
  ·exact fun e=>f4 y a z e.symm
 refine ⟨m,hn.sameBut sb neC,fun h3 sb3=>⟨_,H',?_,q⟩⟩
 exact J2.turned (t':=s2.toks) (fun b o hb e=>(sb3.2 b hb).trans e) f0 f1 f3 f4 f5
end
section
variable {κ:Type} [DecidableEq κ]
def eJ(kvs:List (κ×V))(k:κ):Option V:=(kvs.find? fun kv=>decide (kv.1=k)).map (·.2)
def eY(kvs:List (κ×V))(k:κ)(v:V):List (κ×V) :=
 if (kvs.any fun kv=>decide (kv.1=k))=true then kvs.map (fun kv=>if kv.1=k then (kv.1,v) else kv) else kvs++[(k,v)]
theorem cK{p:κ×V}{r:List (κ×V)}{k:κ}(e:p.1=k):eJ (p::r) k=some p.2:=by simp[eJ,List.find?_cons,e]
theorem cL{p:κ×V}{r:List (κ×V)}{k:κ}(e:¬p.1=k):eJ (p::r) k=eJ r k:=by simp[eJ,List.find?_cons,e]
theorem gD(k:κ):∀ kvs:List (κ×V),(kvs.any fun kv=>decide (kv.1=k))=(eJ kvs k).isSome
 | []=>rfl
 | p::r=>by
  rw[any_cons]
  by_cases e:p.1=k
  ·simp only[cK e,decide_eq_true e,Bool.true_or,Option.isSome_some]
  ·rw[cL e,decide_eq_false e,Bool.false_or]; exact gD k r
theorem kY(k j:κ)(y:V):∀ kvs:List (κ×V),eJ (kvs.map fun kv=>if kv.1=k then (kv.1,y) else kv) j=(eJ kvs j).map fun x=>if j=k then y else x
 | []=>rfl
 | p::r=>by
  have ih:=kY k j y r
  rw[map_cons]
  by_cases h:p.1=k
  ·rw[if_pos h]
   by_cases e:p.1=j
   ·rw[cK (p:=(p.1,y)) e,cK e,Option.map_some,if_pos (e.symm.trans h)]
   ·rw[cL (p:=(p.1,y)) e,cL e,ih]
  ·rw[if_neg h]
   by_cases e:p.1=j
   ·rw[cK (p:=p) e,cK e,Option.map_some,if_neg (fun z=>h (e.trans z))]
   ·rw[cL (p:=p) e,cL e,ih]
theorem jQ(k j:κ)(y:V):∀ kvs:List (κ×V),eJ kvs k=none→eJ (kvs++[(k,y)]) j=if j=k then some y else eJ kvs j
 | [],_=>by
  by_cases e:k=j
  ·rw[if_pos e.symm]; exact cK (p:=(k,y)) e
  ·rw[if_neg (fun z=>e z.symm)]; exact cL (p:=(k,y)) e
 | p::r,hn=>by
  rw[List.cons_append]
  have hk:¬p.1=k:=fun z=>by rw[cK z]at hn; cases hn
  rw[cL hk]at hn
  have ih:=jQ k j y r hn
  by_cases e:p.1=j
  ·rw[cK e,cK e,if_neg (fun z=>hk (e.trans z))]
  ·rw[cL e,cL e,ih]
theorem kW(kvs:List (κ×V))(k j:κ)(y:V):eJ (eY kvs k y) j=if j=k then some y else eJ kvs j:=by
 unfold eY
 by_cases a:(kvs.any fun kv=>decide (kv.1=k))=true
 ·rw[if_pos a,kY]
  rw[gD]at a
  by_cases e:j=k
  ·obtain ⟨x,hx⟩:=Option.isSome_iff_exists.mp a
   rw[if_pos e,e,hx,Option.map_some,if_pos rfl]
  ·rw[if_neg e]
   cases eJ kvs j with
   | none=>rfl
   | some x=>rw[Option.map_some,if_neg e]
 ·rw[if_neg a]
  refine jQ k j y kvs ?_
  rw[gD]at a
  cases q:eJ kvs k with
  | none=>rfl
  | some x=>rw[q]at a; exact (a rfl).elim
theorem eF(kvs:List (κ×V))(k:κ)(v:V):(eY kvs k v).length≤kvs.length+1:=by
 unfold eY
 split
 ·rw[length_map]; lia
 ·rw[length_append,length_cons,length_nil]; lia
theorem RelO.isSome_eq{o:Option V}{u:Option Value}(r:RelO o u):o.isSome=u.isSome:=by
 cases o with
 | none=>cases u with
  | none=>rfl
  | some _=>exact (show False from r).elim
 | some _=>cases u with
  | none=>exact (show False from r).elim
  | some _=>rfl
theorem RelO.getD{o:Option V}{u:Option Value}{d:V}{d':Value}(r:RelO o u)(rd:RelV d d'):RelV (o.getD d) (u.getD d'):=by
 cases o with
 | none=>cases u with
  | none=>exact rd
  | some _=>exact (show False from r).elim
 | some _=>cases u with
  | none=>exact (show False from r).elim
  | some _=>exact r
theorem KV.val{kvs:List (κ×V)}{vs:List (κ×Value)}(r:KV kvs vs)(k:κ):RelO (eJ kvs k) (valueAt vs k):=by
 unfold KV at r
 induction r with
 | nil=>exact True.intro
 | @cons p q ps qs h t ih =>
  obtain ⟨h1,h2⟩:=h
  by_cases e:p.1=k
  ·have e':q.1=k:=h1.symm.trans e
   have b:valueAt (q::qs) k=some q.2:=by simp[valueAt,List.find?_cons,e']
   rw[cK e,b]; exact h2
  ·have e':¬q.1=k:=fun z=>e (h1.trans z)
   have b:valueAt (q::qs) k=valueAt qs k:=by simp[valueAt,List.find?_cons,e']
   rw[cL e,b]; exact ih
theorem KV.any{kvs:List (κ×V)}{vs:List (κ×Value)}(r:KV kvs vs)(k:κ):(kvs.any fun kv=>decide (kv.1=k))=vs.any fun kv=>decide (kv.1=k):=by
 unfold KV at r
 induction r with
 | nil=>rfl
 | cons h t ih=>rw[any_cons,any_cons,ih,h.1]
theorem KV.repl{kvs:List (κ×V)}{vs:List (κ×Value)}(r:KV kvs vs)(k:κ){y:V}{u:Value}(ry:RelV y u) :
  KV (kvs.map fun kv=>if kv.1=k then (kv.1,y) else kv) (vs.map fun kv=>if kv.1=k then (kv.1,u) else kv):=by
 unfold KV at r ⊢
 induction r with
 | nil=>exact .nil
 | @cons p q ps qs h t ih =>
  rw[map_cons,map_cons]
  refine .cons ?_ ih
  obtain ⟨h1,h2⟩:=h
  by_cases e:p.1=k
  ·rw[if_pos e,if_pos (h1.symm.trans e)]; exact ⟨h1,ry⟩
  ·rw[if_neg e,if_neg (fun z=>e (h1.trans z))]; exact ⟨h1,h2⟩
theorem KV.put{kvs:List (κ×V)}{vs:List (κ×Value)}(r:KV kvs vs)(k:κ){y:V}{u:Value}(ry:RelV y u):KV (eY kvs k y) (stored vs k u):=by
 unfold eY stored
 rw[r.any k]
 by_cases e:(vs.any fun kv=>decide (kv.1=k))=true
 ·rw[if_pos e,if_pos e]; exact r.repl k ry
 ·rw[if_neg e,if_neg e]; exact Paired.snoc r ⟨rfl,ry⟩
theorem KV.length{kvs:List (κ×V)}{vs:List (κ×Value)}(r:KV kvs vs):kvs.length=vs.length:=Paired.length r
end
theorem m6{P:Program}{w:World}{k:Key}{u:Value}(r:RelV (kV k) u):(cq P w).is k u=true:=by
 cases k with
 | inl i=>obtain ⟨t,e⟩:=(show ∃ t,u=Value.int i t from r); subst e; exact lK P w i t
 | inr x=>obtain ⟨t,e⟩:=(show ∃ t,u=Value.str x t from r); subst e; exact lS P w x t
theorem jR{P:Program}{w:World}:∀{ks:List Key}{us:List Value},Vals (ks.map kV) us→ItemsAre (cq P w) ks us
 | [],_,r=>by rw[map_nil]at r; cases r; exact .nil
 | k::ks,_,r=>by
  rw[map_cons]at r
  cases r with
  | cons h t=>exact .cons (m6 h) (jR t)
abbrev KT(H:Hp):List (List Key×V)→List (List Key×Addr×Value)→Prop:=Paired fun p q=>p.1=q.1∧H q.2.1=some (.tup (p.1.map kV))∧RelV p.2 q.2.2
theorem KT.val{H:Hp}{kvs:List (List Key×V)}{xs:List (List Key×Addr×Value)}(r:KT H kvs xs)(k:List Key):RelO (eJ kvs k) ((atKey xs k).map (·.2)):=by
 induction r with
 | nil=>exact True.intro
 | @cons p q ps qs h t ih =>
  obtain ⟨h1,_,h2⟩:=h
  by_cases e:p.1=k
  ·have e':q.1=k:=h1.symm.trans e
   have b:atKey (q::qs) k=some q.2:=by simp[atKey,List.find?_cons,e']
   rw[cK e,b]; exact h2
  ·have e':¬q.1=k:=fun z=>e (h1.trans z)
   have b:atKey (q::qs) k=atKey qs k:=by simp[atKey,List.find?_cons,e']
   rw[cL e,b]; exact ih
theorem KT.repl{H:Hp}{kvs:List (List Key×V)}{xs:List (List Key×Addr×Value)}(r:KT H kvs xs)(k:List Key){y:V}{u:Value}(ry:RelV y u) :
  KT H (kvs.map fun kv=>if kv.1=k then (kv.1,y) else kv) (xs.map (putAt k u)):=by
 induction r with
 | nil=>exact .nil
 | @cons p q ps qs h t ih =>
  rw[map_cons,map_cons]
  refine .cons ?_ ih
  obtain ⟨h1,h2,h3⟩:=h
  unfold putAt
  by_cases e:p.1=k
  ·rw[if_pos e,if_pos (h1.symm.trans e)]; exact ⟨h1,h2,ry⟩
  ·rw[if_neg e,if_neg (fun z=>e (h1.trans z))]; exact ⟨h1,h2,h3⟩
theorem KT.put{H:Hp}{kvs:List (List Key×V)}{xs:List (List Key×Addr×Value)}(r:KT H kvs xs)(k:List Key){b:Addr}{y:V}{u:Value}(hb:H b=some (.tup (k.map kV)))(ry:RelV y u) :
  KT H (eY kvs k y) (storedH xs k b u):=by
 have e:(kvs.any fun kv=>decide (kv.1=k))=(atKey xs k).isSome:=by
  rw[gD,(r.val k).isSome_eq,Option.isSome_map]
 unfold eY storedH
 rw[e]
 by_cases q:(atKey xs k).isSome=true
 ·rw[if_pos q,if_pos q]; exact r.repl k ry
 ·rw[if_neg q,if_neg q]; exact Paired.snoc r ⟨rfl,hb,ry⟩
theorem KT.keeps{H H':Hp}{kvs:List (List Key×V)}{xs:List (List Key×Addr×Value)}(r:KT H kvs xs)(ht:∀ b ys,H b=some (.tup ys)→H' b=some (.tup ys)):KT H' kvs xs :=
 Paired.mapP r fun _ _ z=>⟨z.1,ht _ _ z.2.1,z.2.2⟩
section
variable {P:Program}{w:World}{H:Hp}{h:Heap}{a:Addr}
theorem vL{u:HO}(ok:HOk P w H h)(e:Rd H a u):ObjOk P w H h a u:=e.ok ok
theorem lG{kvs:List (Key×V)}(ok:HOk P w H h)(e:Rd H a (.dK kvs)):kvs.length≤sizeLine∧(a == sysModules)=false∧∃ vs,KV kvs vs∧h.DictOf (cq P w) a vs :=
 show ObjOk P w H h a (.dK kvs) from vL ok e
theorem xy{kvs:List (Key×V)}(ok:HOk P w H h)(e:H a=some (.dK kvs)):kvs.length≤sizeLine∧(a == sysModules)=false∧∃ vs,KV kvs vs∧h.DictOf (cq P w) a vs:=lG ok (.inl e)
theorem ke{ks:List Key}(ok:HOk P w H h)(e:H a=some (.tup (ks.map kV))):(tupleKind (cq P w)).is h ks a:=by
 obtain ⟨_,its,r,o,h1,h2,n,h3⟩:=(show ObjOk P w H h a (.tup (ks.map kV)) from ok a _ e)
 exact ⟨o,its.toArray,n,h1,h2,h3,by simpa using jR r⟩
theorem kM{kvs:List (List Key×V)}(ok:HOk P w H h)(e:Rd H a (.dT kvs)):kvs.length≤sizeLine∧(a == sysModules)=false ∧
  ∃ xs,KT H kvs xs∧h.DictOfH (tupleKind (cq P w)) a xs:=by
 obtain ⟨z,y,xs,r,o,es,ep,h1,h2,h3,h4,h5⟩:=(show ObjOk P w H h a (.dT kvs) from vL ok e)
 refine ⟨z,y,xs,r,o,es,ep,h1,h2,h3,h4,fun x hx=>?_,h5⟩
 have all:∀{l:List (List Key×V)}{m:List (List Key×Addr×Value)},KT H l m→∀ x∈m,(tupleKind (cq P w)).is h x.1 x.2.1:=by
  intro l m q
  induction q with
  | nil=>intro x hx; exact nomatch hx
  | @cons p q ps qs hq t ih =>
   intro x hx
   rcases mem_cons.mp hx with e | hx
   ·subst e
    exact ke ok (by rw[← hq.1]; exact hq.2.1)
   ·exact ih x hx
 exact all r x hx
theorem xU{kvs:List (List Key×V)}(ok:HOk P w H h)(e:H a=some (.dT kvs)):kvs.length≤sizeLine∧(a == sysModules)=false ∧
  ∃ xs,KT H kvs xs∧h.DictOfH (tupleKind (cq P w)) a xs:=kM ok (.inl e)
end
def pY(H:Hp)(a:Addr)(y:V)(r:Option V):Prop :=
 (∃ kvs k,Rd H a (.dK kvs)∧y=kV k∧r=eJ kvs k)∨∃ kvs k b,Rd H a (.dT kvs)∧y=.ref b∧H b=some (.tup (k.map kV))∧r=eJ kvs k
def yd(H:Hp)(a:Addr)(y v:V)(H':Hp):Prop :=
 (∃ kvs k,H a=some (.dK kvs)∧y=kV k∧kvs.length<sizeLine∧H'=upd H a (.dK (eY kvs k v))) ∨
 ∃ kvs k b,H a=some (.dT kvs)∧y=.ref b∧H b=some (.tup (k.map kV))∧kvs.length<sizeLine∧H'=upd H a (.dT (eY kvs k v))
section
variable {X:Cx}{pins:List (Addr×Obj)}{σ:St}{H:Hp}{s:Shared}{a:Addr}{y v:V}{u r:Value}{o:Option V}{A:Around}{E:Value→Shared→Prop}
theorem Inv.big(I:Inv X pins σ H s):sysModules<s.heap.objs.size:=by
 have h:mainGlobals<s.heap.objs.size:=(I.mod.glob.keeps I.bk).lt
 exact Nat.lt_trans (by decide) h
theorem pE{Q:Value→Shared→Prop}(hu:A.units+1<cLine)(I:Inv X pins σ H s)(g:pY H a y (some v))(ry:RelV y u)(h:∀ w' s',Inv X pins σ H s'→RelV v w'→Q w' s') :
  wpAny (model X.prog X.w) A (getItem (.ref a) u) Q E s:=by
 rcases g with ⟨kvs,k,e,ey,l⟩ | ⟨kvs,k,b,e,ey,eb,l⟩
 ·subst ey
  obtain ⟨z,hd,vs,rel,dd⟩:=lG I.hok e
  obtain ⟨w',hw,rw'⟩:=RelO.some_of (v:=v) (o:=valueAt vs k) (by rw[l]; exact rel.val k)
  exact wpAny_getItem_of (m6 ry) dd.mapOf hw (h w' _ (I.tok _) rw')
 ·subst ey
  cases (show u=Value.ref b from ry)
  obtain ⟨z,hd,xs,rel,dd⟩:=kM I.hok e
  obtain ⟨w',hw,rw'⟩:=RelO.some_of (v:=v) (o:=(atKey xs k).map (·.2)) (by rw[l]; exact rel.val k)
  obtain ⟨p,hp,hp2⟩:=Option.map_eq_some_iff.mp hw
  refine wpAny_getItem_heap (tupleKind_room_in1 hu) (ke I.hok eb) dd hp ?_
  rw[hp2]
  exact h w' _ (I.tok _) rw'
theorem oq{h':Heap}{t':Nat}{ob:HO}(I:Inv X pins σ H s)(mu:Mut (H a))(hs:Heap.SameBut a s.heap h')(he:∃ q,h'.get? a=some q)(new:ObjOk X.prog X.w (upd H a ob) h' a ob) :
  Inv X pins σ (upd H a ob) { s with heap:=h',toks:=t' } :=
 I.write (x:=a) (e:=a) mu (.inl rfl) (fun b q hb z=>(hs.2 b hb).trans z) he new
theorem wv{P:Program}{w:World}{H':Hp}{h':Heap}{kvs:List (Key×V)}{vs:List (Key×Value)}(z:kvs.length≤sizeLine)(hd:(a == sysModules)=false)(rel:KV kvs vs)(dd:h'.DictOf (cq P w) a vs) :
  ObjOk P w H' h' a (.dK kvs):=⟨z,hd,vs,rel,dd⟩
theorem pC{H':Hp}{Q:Unit→Shared→Prop}(hu:A.units+1<cLine)(I:Inv X pins σ H s)(g:yd H a y v H')(ry:RelV y u)(rv:RelV v r)(h:∀ s',Inv X pins σ H' s'→Q () s') :
  wpAny (model X.prog X.w) A (setItem (.ref a) u r) Q E s:=by
 rcases g with ⟨kvs,k,e,ey,l,eH⟩ | ⟨kvs,k,b,e,ey,eb,l,eH⟩
 ·subst ey eH
  obtain ⟨z,hd,vs,rel,dd⟩:=xy I.hok e
  have hz:vs.length≤sizeLine:=by rw[← rel.length]; exact z
  have hl:(eY kvs k v).length≤sizeLine:=by have:=eF kvs k v; lia
  refine wpAny_setItem_pairs (hsz:=hz) (m6 ry) dd fun h' dd' hs=>h _ ?_
  have he:∃ q,h'.get? a=some q:=let ⟨q,_,_,hq,_⟩:=dd'; ⟨q,hq⟩
  exact oq I (by rw[e]; exact True.intro) hs he (wv hl hd (rel.put k rv) dd')
 ·subst ey eH
  cases (show u=Value.ref b from ry)
  obtain ⟨z,hd,xs,rel,dd⟩:=xU I.hok e
  have hz:xs.length≤sizeLine:=by rw[← Paired.length rel]; exact z
  have hl:(eY kvs k v).length≤sizeLine:=by have:=eF kvs k v; lia
  refine wpAny_setItem_heap (hsz:=hz) (tupleKind_room_in1 hu) (ke I.hok eb) dd fun h' dd' hs=>h _ ?_
  obtain ⟨q,es,ep,hq,h2,h3,h4,_,h5⟩:=dd'
  refine oq I (by rw[e]; exact True.intro) hs ⟨q,hq⟩ ⟨hl,hd,_,(rel.put k eb rv).keeps fun c ys ec=>?_,q,es,ep,hq,h2,h3,h4,h5⟩
  rw[ag (vH ec e (fun z=>nomatch z))]
  exact ec
end
section
variable {X:Cx}{pins:List (Addr×Obj)}{σ:St}{H:Hp}{s:Shared}{a:Addr}{kvs:List (Key×V)}{k:Key}{u:Value}{A:Around}{E:Value→Shared→Prop}
end
def xE(i:Expr):Prop:=∀ ov iv,subscripted i false ov iv=operate [ov,iv] (getItem ov iv)
theorem uh{prog:Program}{w:World}{A:Around}{E:Value→Shared→Prop}{s:Shared}{env:Env}{value slice:Expr}{pos:Pos}{T id:String}{Q:Value→Shared→Prop}
  (hl:typeLookup (.type T) "__getitem__" = pure (some (.builtin id))) (hs:xE slice)
  (h:wpAny (model prog w) A (eval value env) (fun o s₁=>wpAny (model prog w) A (eval slice env) (fun i s₂=>s₂.TypeIs o T∧wpAny (model prog w) A (getItem o i) Q E s₂) E s₁) E s) :
  wpAny (model prog w) A (eval (.Subscript value slice pos) env) Q E s:=by
 refine Subscript_ (wpAny_mono h (fun o s₁ h₁=>wpAny_mono h₁ (fun i s₂ h₂=>?_) fun _ _ x=>x) fun _ _ x=>x)
 obtain ⟨hT,h₂⟩:=h₂
 unfold subscriptTail
 refine wpAny_bind ?_
 rw[getitemInPython_of_ne hT.not_modules]
 refine wpAny_bind (wpAny_specialOf hT hl ?_)
 have fin:wpAny (model prog w) A (subscripted slice false o i) (fun r s₃=>wpAny (model prog w) A (letTemporaryGo value o r >>= fun _=>pure r) Q E s₃) E s₂:=by
  rw[hs o i]
  exact wpAny_operating (wpAny_mono h₂ (fun r s₃ h₃=>wpAny_bind (wpAny_letTemporaryGo (wpAny_pure h₃))) fun _ _ x=>x)
 first
  | exact wpAny_pure (wpAny_bind fin)
  | exact wpAny_bind (wpAny_pure (wpAny_bind fin))
  | exact wpAny_bind fin
theorem lF{X:Cx}{pins:List (Addr×Obj)}{σ:St}{H:Hp}{s:Shared}{a:Addr}{y:V}{o:Option V}(I:Inv X pins σ H s)(g:pY H a y o):s.TypeIs (.ref a) "dict" := by
 rcases g with ⟨kvs,k,e,_,_⟩ | ⟨kvs,k,b,e,_,_,_⟩
 ·obtain ⟨_,_,vs,_,dd⟩:=lG I.hok e
  exact dd.typeIs
 ·obtain ⟨_,_,xs,_,dd⟩:=kM I.hok e
  exact dd.typeIs
inductive rDGet(x y:V)(H:Hp)(Q:VK):Prop
 | mk(a:Addr)(v:V)(h0:x=.ref a)(h1:pY H a y (some v))(h2:Q v H):rDGet x y H Q
def xJ(td ty:TE):TE:=fun σ H Q=>td σ H fun x H1=>ty σ H1 fun y H2=>rDGet x y H2 Q
def ya(td ty tv:TE):TS:=fun D σ H=>tv σ H fun v H1=>td σ H1 fun x H2=>ty σ H2 fun y H3=>∃ a H4,x=.ref a∧yd H3 a y v H4∧D.nx σ H4
section
variable {X:Cx}{o i e value:Expr}{pos pos' tpos:Pos}{td ty tv:TE}
theorem uK(hu:X.A.units+1<cLine)(ho:PE X o td)(hi:PE X i ty)(hs:xE i):PE X (.Subscript o i pos) (xJ td ty):=by
 intro pins s σ H Q I h
 refine uh PySem.F.slot_dict_getitem.lookup hs (thn (ho pins s σ H _ I h) fun u s1 ⟨x,H1,I1,rx,q1⟩=>thn (hi pins s1 σ H1 _ I1 q1) fun iv s2 ⟨y,H2,I2,ry,a,v,ex,g,q2⟩=>?_)
 subst ex
 obtain rfl:u=Value.ref a:=rx
 exact ⟨lF I2 g,pE hu I2 g ry fun w' s3 I3 rw'=>⟨v,H2,I3,rw',q2⟩⟩
theorem nn(hu:X.A.units+1<cLine)(ho:PE X o td)(hi:PE X i ty)(hv:PE X value tv)(hs:swapsWith value (some (.Subscript o i pos')) pos.line X.env=pure false) :
  PS X (.Assign [.Subscript o i pos'] value pos) (ya td ty tv):=by
 intro pins s σ H D I h
 refine wpAny_Assign_Subscript (thn (hv pins s σ H _ I h) fun r s1 ⟨v,H1,I1,rv,q1⟩=>thn (ho pins s1 σ H1 _ I1 q1) fun u s2 ⟨x,H2,I2,rx,q2⟩=>thn (hi pins s2 σ H2 _ I2 q2) fun iv s3 ⟨y,H3,I3,ry,a,H4,ex,g,q3⟩=>?_) hs
 subst ex
 obtain rfl:u=Value.ref a:=rx
 exact pC hu I3 g ry rv fun s4 I4=>⟨σ,H4,I4,q3⟩
end
theorem rX{P:Program}{w:World}{H:Hp}(h:Heap)(hb:sysModules<h.objs.size):ObjOk P w H (h.push { cls:=.type "dict",data:=.dict #[] }) h.objs.size (.dK []) :=
 ⟨Nat.zero_le _,beq_eq_false_iff_ne.mpr (Ne.symm (Nat.ne_of_lt hb)),[],.nil,Heap.DictOf.new h⟩
theorem qv{P:Program}{w:World}{H:Hp}(h:Heap)(hb:sysModules<h.objs.size):ObjOk P w H (h.push { cls:=.type "dict",data:=.dict #[] }) h.objs.size (.dT []) :=
 ⟨Nat.zero_le _,beq_eq_false_iff_ne.mpr (Ne.symm (Nat.ne_of_lt hb)),[],.nil,_,#[],0,Heap.get?_push_size _ rfl,⟨rfl,rfl,rfl⟩,rfl,rfl,nodup_nil⟩
def wH:TE:=fun _ H Q=>∀ p,H p=none→Q (.ref p) (upd H p (.dK []))
def wp:TE:=fun _ H Q=>∀ p,H p=none→Q (.ref p) (upd H p (.dT []))
section
variable {X:Cx}{pos:Pos}
theorem su:PE X (.Dict [] [] pos) wH:=fun pins s σ H Q I h =>
 wpAny_Dict_empty ⟨.ref s.heap.objs.size,_,I.laid (a:=s.heap.objs.size) (o:=.dK []) (t':=s.toks) (fun _ _ q=>Heap.get?_push_of_some _ q) (Nat.le_refl _) (rX s.heap I.big),rfl,h _ (I.hok.fresh (Nat.le_refl _))⟩
theorem rC:PE X (.Dict [] [] pos) wp:=fun pins s σ H Q I h =>
 wpAny_Dict_empty ⟨.ref s.heap.objs.size,_,I.laid (a:=s.heap.objs.size) (o:=.dT []) (t':=s.toks) (fun _ _ q=>Heap.get?_push_of_some _ q) (Nat.le_refl _) (qv s.heap I.big),rfl,h _ (I.hok.fresh (Nat.le_refl _))⟩
end
structure M2(X:Cx)(o:Expr)(m:Str)(apos:Pos)(e f:Expr)(cpos:Pos):Prop where
 base:attributeBase o m X.env (eval o X.env)=eval o X.env
 few:((backTo cpos (starEach [e,f] X.env)).all (fun x=>!x.1) && (backToKw cpos (keywordEach [] X.env)).all (fun x=>x.1.isSome)
  && decide (([e,f]:List Expr).length+([]:List Keyword).length+(if ([]:List Keyword).isEmpty then 0 else 1)<30))=true
 line:(apos.endLine == cpos.line)=true
 trees:backTo cpos (starEach [e,f] X.env)=[(false,eval e X.env),(false,eval f X.env)]
def IsD(H:Hp)(a:Addr):Prop:=(∃ kvs,Rd H a (.dK kvs))∨∃ kvs,Rd H a (.dT kvs)
theorem wM{X:Cx}{pins:List (Addr×Obj)}{σ:St}{H:Hp}{s:Shared}{a:Addr}(I:Inv X pins σ H s)(d:IsD H a) :
  s.TypeIs (.ref a) "dict" ∧ (∀ b,Value.ref a=.ref b→∃ ob,s.heap.get? b=some ob∧ob.dict=none)∧(a == sysModules)=false:=by
 rcases d with ⟨kvs,e⟩ | ⟨kvs,e⟩
 ·obtain ⟨_,hd,vs,_,dd⟩:=lG I.hok e
  refine ⟨dd.typeIs,fun b q=>?_,hd⟩
  cases q
  obtain ⟨ob,_,_,h1,h2,_⟩:=dd
  exact ⟨ob,h1,h2.2.1⟩
 ·obtain ⟨_,hd,xs,_,dd⟩:=kM I.hok e
  refine ⟨dd.typeIs,fun b q=>?_,hd⟩
  cases q
  obtain ⟨ob,_,_,h1,h2,_⟩:=dd
  exact ⟨ob,h1,h2.2.1⟩
section
variable {X:Cx}{pins:List (Addr×Obj)}{σ:St}{H:Hp}{s:Shared}{a:Addr}{y d:V}{u r:Value}{o:Option V}{A:Around}{E:Value→Shared→Prop}
theorem v4{Q:Value→Shared→Prop}(hu:A.units+1<cLine)(I:Inv X pins σ H s)(g:pY H a y o)(ry:RelV y u)(rd:RelV d r)(h:∀ w' s',Inv X pins σ H s'→RelV (o.getD d) w'→Q w' s') :
  wpAny (model X.prog X.w) A (call (.builtin "dict.get") [.ref a,u,r]) Q E s:=by
 rcases g with ⟨kvs,k,e,ey,l⟩ | ⟨kvs,k,b,e,ey,eb,l⟩
 ·subst ey
  obtain ⟨z,hd,vs,rel,dd⟩:=lG I.hok e
  refine call_meetsIn PySem.F.slot_dict_get dd.typeIs PySem.F.entry_dict_get (PySem.F.args_dict_get_3 _ _ _) (meets_dict_get_default (cq X.prog X.w) a (m6 ry) hd r) ⟨_,dd.mapOf,h _ _ (I.tok _) ?_⟩
  rw[l]
  exact (rel.val k).getD rd
 ·subst ey
  cases (show u=Value.ref b from ry)
  obtain ⟨z,hd,xs,rel,dd⟩:=kM I.hok e
  refine call_meetsIn PySem.F.slot_dict_get dd.typeIs PySem.F.entry_dict_get (PySem.F.args_dict_get_3 _ _ _) (meetsH_dict_get_default (tupleKind (cq X.prog X.w)) a b hd r) ⟨tupleKind_room_in1 hu,k,xs,ke I.hok eb,dd,h _ _ (I.tok _) ?_⟩
  rw[l]
  exact (rel.val k).getD rd
end
def wd(td ty tx:TE):TE:=fun σ H Q=>td σ H fun x H1=>∃ a,x=.ref a∧IsD H1 a∧ty σ H1 fun y H2=>tx σ H2 fun z H3=>∃ o,pY H3 a y o∧Q (o.getD z) H3
section
variable {X:Cx}{o e f:Expr}{apos cpos:Pos}{td ty tx:TE}
theorem sR(hu:X.A.units+1<cLine)(ho:PE X o td)(he:PE X e ty)(hf:PE X f tx)(m:M2 X o "get" apos e f cpos):PE X (.Call (.Attribute o "get" apos) [e,f] [] cpos) (wd td ty tx):=by
 intro pins s σ H Q I h
 refine wpAny_Call_method m.base m.few m.line PySem.F.plainAttrs_dict PySem.F.slot_dict_get PySem.F.type_dict_get (thn (ho pins s σ H _ I h) fun u s1 ⟨x,H1,I1,rx,a,ex,d,q1⟩=>?_)
 subst ex
 obtain rfl:u=Value.ref a:=rx
 obtain ⟨t1,t2,_⟩:=wM I1 d
 refine ⟨t1,t2,?_⟩
 rw[m.trees]
 refine Calls.callWith_builtin rfl (Calls.evalArgs_plain (Calls.spliced_cons (thn (he pins s1 σ H1 _ I1 q1) fun iv s2 ⟨y,H2,I2,ry,q2⟩ =>
  Calls.spliced_cons (thn (hf pins s2 σ H2 _ I2 q2) fun fv s3 ⟨z,H3,I3,rz,ov,g,q3⟩=>Calls.spliced_nil ?_))))
 exact v4 hu I3 g ry rz fun w' s4 I4 rw'=>⟨_,H3,I4,rw',q3⟩
end
section
variable {X:Cx}{pins:List (Addr×Obj)}{σ:St}{H:Hp}{s:Shared}{a:Addr}{kvs:List (Key×V)}{A:Around}{E:Value→Shared→Prop}
end
section
variable {X:Cx}{pins:List (Addr×Obj)}{σ:St}{H:Hp}{s:Shared}{a:Addr}{y:V}{u:Value}{A:Around}{E:Value→Shared→Prop}
end
theorem OpR.imp{X:Cx}{f:Value→Value→Sem Value}{r r':R2}(h:OpR X f r)(i:∀ x y H Q,r' x y H Q→r x y H Q):OpR X f r' :=
 fun pins s σ H x y v u Q I rx ry q=>h pins s σ H x y v u Q I rx ry (i x y H Q q)
theorem CallR.imp{X:Cx}{f:Value}{r r':List V→Hp→VK→Prop}(h:CallR X f r)(i:∀ xs H Q,r' xs H Q→r xs H Q):CallR X f r' :=
 fun pins s σ H xs us Q I rs q=>h pins s σ H xs us Q I rs (i xs H Q q)
def tV(i:Nat):TE:=fun σ H Q=>match σ[i]? with
 | some (some v)=>Q v H
 | _=>False
theorem vr{X:Cx}(i:Nat){x:Str}{pos:Pos}(hN:X.N[i]? = some x:=by rfl)(hv:Vis X.env.scope x:=by first | exact Or.inl rfl | exact Or.inr (Or.inl rfl) | exact Or.inr (Or.inr rfl))(hd:(x == ("__debug__" : Str))=false:=by decide)
  (hcd:(x == ("__classdict__" : Str))=false:=by decide):PE X (.Name x pos) (tV i):=fun pins s σ H Q I h=>by
 refine wD hN hv hd hcd pins s σ H Q I ?_
 unfold tV at h
 split at h
 ·rename_i v e
  exact ⟨v,e,h⟩
 ·exact h.elim
def rI2(g:Int→Int→V):R2:=fun x y H Q=>match x,y with
 | .int i,.int j=>Q (g i j) H
 | _,_=>False
def rIC(C:Int→Int→Prop)(g:Int→Int→V):R2:=fun x y H Q=>match x,y with
 | .int i,.int j=>C i j∧Q (g i j) H
 | _,_=>False
theorem OpR.i2{X:Cx}{f:Value→Value→Sem Value}{g:Int→Int→V}(h:OpR X f (rI0 g)):OpR X f (rI2 g):=h.imp fun x y H Q q=>by
 cases x <;> cases y <;> first | exact ⟨_,_,rfl,rfl,q⟩ | exact (show False from q).elim
theorem OpR.ic{X:Cx}{f:Value→Value→Sem Value}{C:Int→Int→Prop}{g:Int→Int→V}(h:OpR X f (rI C g)):OpR X f (rIC C g):=h.imp fun x y H Q q=>by
 cases x <;> cases y <;> first | exact ⟨_,_,rfl,rfl,q.1,q.2⟩ | exact (show False from q).elim
section
variable {X:Cx}
def yK:R2:=fun x y H Q=>match x,y with
 | .int i,.int j=>Q (.int (i+j)) H
 | .str i,.str j=>i.length+j.length≤sizeLine∧Q (.str (i++j)) H
 | _,_=>False
theorem df:OpR X (binaryOp .Add) yK:=(op_add.or my).imp fun x y H Q q=>by
 cases x <;> cases y <;> first | exact .inl ⟨_,_,rfl,rfl,q⟩ | exact .inr ⟨_,_,rfl,rfl,q.1,q.2⟩ | exact (show False from q).elim
theorem dR:OpR X (binaryOp .Sub) (rI2 fun i j=>.int (i - j)):=op_sub.i2
def yy(i j:Int):Prop:=0<j
def CNn(i j:Int):Prop:=0≤j
theorem cp{i j:Int}(h:0<j:=by decide):yy i j:=h
theorem cn{i j:Int}(h:0≤j:=by decide):CNn i j:=h
theorem cd{i j:Int}(h:0<j:=by decide)(h2:j<1073741824:=by decide):zD i j:=⟨h,h2⟩
theorem cw{i j:Int}(h:0≤j:=by decide)(h2:j≤1000000:=by decide)(h3:i.natAbs<2 ^ 64:=by decide):wJ i j:=⟨h,h2,h3⟩
theorem cl{i j:Int}(h:-(2 ^ 64)<i:=by decide)(h2:i<2 ^ 64:=by decide):CMul i j:=.inl ⟨h,h2⟩
theorem cr{i j:Int}(h:-(2 ^ 64)<j:=by decide)(h2:j<2 ^ 64:=by decide):CMul i j:=.inr ⟨h,h2⟩
theorem cO:OpR X (binaryOp .Mod) (rIC yy fun i j=>.int (i % j)):=op_mod.ic
theorem qB:OpR X (binaryOp .Pow) (rIC wJ fun i j=>.int (i ^ j.toNat)):=op_pow.ic
theorem oE:OpR X (compareOp .LtE) (fun x y H Q=>∃ i j,x=.str i∧y=.str j∧Q (.bl (!decide (j.cps.toList<i.cps.toList))) H):=by
 intro pins s σ H x y v u Q I rx ry h
 obtain ⟨i,j,rfl,rfl,q⟩:=h
 obtain ⟨t,rfl⟩:=rx
 obtain ⟨t',rfl⟩:=ry
 exact PySem.P.le_str (aX I q rfl)
def nH(f:Int→Int→Bool)(g:Str→Str→Bool):R2:=fun x y H Q=>match x,y with
 | .int i,.int j=>Q (.bl (f i j)) H
 | .str i,.str j=>Q (.bl (g i j)) H
 | _,_=>False
theorem fm:OpR X (compareOp .Lt) (nH (fun i j=>decide (i<j)) fun i j=>decide (i.cps.toList<j.cps.toList)):=(op_lt.or o6).imp fun x y H Q q=>by
 cases x <;> cases y <;> first | exact .inl ⟨_,_,rfl,rfl,q⟩ | exact .inr ⟨_,_,rfl,rfl,q⟩ | exact (show False from q).elim
theorem sK:OpR X (compareOp .LtE) (nH (fun i j=>decide (i≤j)) fun i j=>!decide (j.cps.toList<i.cps.toList)):=(op_le.or oE).imp fun x y H Q q=>by
 cases x <;> cases y <;> first | exact .inl ⟨_,_,rfl,rfl,q⟩ | exact .inr ⟨_,_,rfl,rfl,q⟩ | exact (show False from q).elim
theorem wg:OpR X (compareOp .Gt) (rI2 fun i j=>.bl (decide (j<i))):=op_gt.i2
theorem yt:OpR X (compareOp .GtE) (rI2 fun i j=>.bl (decide (j≤i))):=op_ge.i2
def oG(neg:Bool):R2:=fun x y H Q=>match x,y with
 | .int i,.int j=>Q (.bl (if neg then !decide (i=j) else decide (i=j))) H
 | .str i,.str j=>Q (.bl (if neg then !decide (i=j) else decide (i=j))) H
 | .bl i,.bl j=>Q (.bl (if neg then !decide (i=j) else decide (i=j))) H
 | .non,.non=>Q (.bl (!neg)) H
 | .non,.int _=>Q (.bl neg) H
 | .non,.str _=>Q (.bl neg) H
 | .non,.bl _=>Q (.bl neg) H
 | .int _,.non=>Q (.bl neg) H
 | .str _,.non=>Q (.bl neg) H
 | .bl _,.non=>Q (.bl neg) H
 | .int _,.str _=>Q (.bl neg) H
 | .str _,.int _=>Q (.bl neg) H
 | _,_=>False
theorem jo:OpR X (compareOp .Eq) (oG false):=op_eq.imp fun x y H Q q=>by
 cases x <;> cases y <;> first | exact (show False from q).elim | (refine ⟨rfl,?_⟩; revert q; simp[oG])
theorem wA:OpR X (compareOp .NotEq) (oG true):=op_ne.imp fun x y H Q q=>by
 cases x <;> cases y <;> first | exact (show False from q).elim | (refine ⟨rfl,?_⟩; revert q; simp[oG])
def rU1(g:Int→V):V→Hp→VK→Prop:=fun x H Q=>match x with
 | .int i=>Q (g i) H
 | _=>False
theorem sG:UnR X (unaryOp .USub) (rU1 fun i=>.int (-i)):=fun pins s σ H x v Q I r q=>wy pins s σ H x v Q I r (by
 cases x <;> first | exact ⟨_,rfl,q⟩ | exact (show False from q).elim)
theorem iw:OpR X (compareOp .IsNot) (fun x y H Q=>match y with | .non=>Q (.bl (!decide (x=.non))) H | _=>False):=op_notN.imp fun x y H Q q=>by
 cases y <;> first | exact ⟨rfl,q⟩ | exact (show False from q).elim
def mB(Q:Bool→Hp→Prop):VK:=fun x H=>match x with
 | .bl c=>Q c H
 | _=>False
variable {a b c:Expr}{ta tb tc:TE}{pos:Pos}{rest:List Expr}
def zg(ta tb:TE):TE:=fun σ H Q=>ta σ H (mB fun c H1=>if c=true then tb σ H1 Q else Q (.bl false) H1)
def yV(ta:TE):TE:=fun σ H Q=>ta σ H (mB fun c H1=>Q (.bl (!c)) H1)
theorem gq{Q:Bool→Hp→Prop}{x:V}{H:Hp}(h:mB Q x H):∃ c,x=.bl c∧Q c H:=by
 cases x <;> first | exact ⟨_,rfl,h⟩ | exact (show False from h).elim
theorem fX(ha:PE X a ta)(hb:PE X (.BoolOp .And (b::rest) pos) tb):PE X (.BoolOp .And (a::b::rest) pos) (zg ta tb):=by
 intro pins s σ H Q I h
 refine BoolOp_and (thn (ha pins s σ H _ I h) fun v s1 ⟨x,H1,I1,r1,q1⟩=>?_)
 obtain ⟨c,rfl,q1⟩:=gq q1
 cases r1
 refine wpAny_truthy_bool ?_
 cases c with
 | true=>exact hb pins s1 σ H1 Q I1 q1
 | false=>exact ⟨.bl false,H1,I1,rfl,q1⟩
theorem rD(ha:PE X a ta):PE X (.UnaryOp .Not a pos) (yV ta):=by
 intro pins s σ H Q I h
 refine UnaryOp_ (thn (ha pins s σ H _ I h) fun v s1 ⟨x,H1,I1,r1,q1⟩=>?_)
 obtain ⟨c,rfl,q1⟩:=gq q1
 cases r1
 exact not_of (wpAny_truthy_bool ⟨.bl (!c),H1,I1,rfl,q1⟩)
def mT(t:TE):TT:=fun σ H Q=>t σ H (mB Q)
theorem dN(h:PE X a ta)(he:∀ whole,isTrue a X.env whole=(do let v ← whole; standAt a.pos; holding [v] (truthy v)):=by intro _; rfl):PT X a (mT ta):=by
 intro pins s σ H Q I hw
 refine isTrue_plain (thn (h pins s σ H _ I hw) fun v s1 ⟨x,H1,I1,r1,q1⟩=>?_) (he _)
 obtain ⟨d,rfl,q⟩:=gq q1
 cases r1
 exact wpAny_truthy_bool ⟨H1,I1,q⟩
theorem bx{op:CmpOp}{r:R2}(ho:OpR X (compareOp op) r)(ha:PE X a ta)(hb:PE X b tb)(hm:behindInMarks op b=false):PT X (.Compare a [op] [b] pos) (mT (tOp r ta tb)):=by
 intro pins s σ H Q I h
 refine wpAny_isTrue_Compare1 (thn (ha pins s σ H _ I h) fun v s1 ⟨x,H1,I1,r1,q1⟩=>thn (hb pins s1 σ H1 _ I1 q1) fun u s2 ⟨y,H2,I2,r2,q2⟩ =>
  thn (ho pins s2 σ H2 x y v u _ I2 r1 r2 q2) fun c s3 ⟨z,H3,I3,r3,q3⟩=>?_) hm
 obtain ⟨k,rfl,q3⟩:=gq q3
 cases r3
 exact wpAny_truthy_bool ⟨H3,I3,q3⟩
def qw(r r':R2)(ta tb tc:TE):TE:=fun σ H Q=>ta σ H fun x H1=>tb σ H1 fun y H2=>r x y H2 (mB fun k H3=>if k=true then tc σ H3 fun w' H4=>r' y w' H4 Q else Q (.bl false) H3)
theorem kz{op op':CmpOp}{r r':R2}(ho:OpR X (compareOp op) r)(ho':OpR X (compareOp op') r')(ha:PE X a ta)(hb:PE X b tb)(hc:PE X c tc)
  (hm:lastMarks [op,op'] [b,c]=false:=by with_unfolding_all rfl):PE X (.Compare a [op,op'] [b,c] pos) (qw r r' ta tb tc):=by
 intro pins s σ H Q I h
 refine Compare_chain (thn (ha pins s σ H _ I h) fun v s1 ⟨x,H1,I1,r1,q1⟩=>chain_link (thn (hb pins s1 σ H1 _ I1 q1) fun u s2 ⟨y,H2,I2,r2,q2⟩ =>
  thn (ho pins s2 σ H2 x y v u _ I2 r1 r2 q2) fun d s3 ⟨z,H3,I3,r3,q3⟩=>?_)) hm
 obtain ⟨k,rfl,q3⟩:=gq q3
 cases r3
 refine wpAny_truthy_bool ?_
 cases k with
 | false=>exact ite_ff ⟨.bl false,H3,I3,rfl,q3⟩
 | true=>exact ite_tt (chain_last (thn (hc pins s3 σ H3 _ I3 q3) fun w' s4 ⟨z',H4,I4,r4,q4⟩=>ho' pins s4 σ H4 y z' u w' Q I4 r2 r4 q4))
theorem j7{op op':CmpOp}{r r':R2}(ho:OpR X (compareOp op) r)(ho':OpR X (compareOp op') r')(ha:PE X a ta)(hb:PE X b tb)(hc:PE X c tc)
  (hm:lastMarks [op,op'] [b,c]=false:=by with_unfolding_all rfl):PT X (.Compare a [op,op'] [b,c] pos) (mT (qw r r' ta tb tc)):=by
 intro pins s σ H Q I h
 refine isTrue_chain (thn (ha pins s σ H _ I h) fun v s1 ⟨x,H1,I1,r1,q1⟩=>test_link (thn (hb pins s1 σ H1 _ I1 q1) fun u s2 ⟨y,H2,I2,r2,q2⟩ =>
  thn (ho pins s2 σ H2 x y v u _ I2 r1 r2 q2) fun d s3 ⟨z,H3,I3,r3,q3⟩=>?_)) hm
 obtain ⟨k,rfl,q3⟩:=gq q3
 cases r3
 refine wpAny_truthy_bool ?_
 cases k with
 | false=>exact ite_ff ⟨H3,I3,q3⟩
 | true =>
  refine ite_tt (test_last (thn (hc pins s3 σ H3 _ I3 q3) fun w' s4 ⟨z',H4,I4,r4,q4⟩=>thn (ho' pins s4 σ H4 y z' u w' _ I4 r2 r4 q4) fun d' s5 ⟨z2,H5,I5,r5,q5⟩=>?_))
  obtain ⟨k2,rfl,q5⟩:=gq q5
  cases r5
  exact wpAny_truthy_bool ⟨H5,I5,q5⟩
open PySem.W in
theorem mI{pins:List (Addr×Obj)}{σ:St}{H:Hp}{s:Shared}{x:V}{u t:Value}(I:Inv X pins σ H s)(rx:RelV x u)(ty:TyOf X.K H x t) :
  ∃ Hh:Heap→Prop,KitX X.K u t Hh∧Hh s.heap∧u≠.builtin "__main__.__loader__#opaque" := by
 cases ty with
 | non=>cases (show u=Value.none from rx); exact ⟨_,PySem.W.kitx_none,True.intro,fun z=>nomatch z⟩
 | bl y=>cases (show u=Value.bool y from rx); exact ⟨_,PySem.W.kitx_bool,True.intro,fun z=>nomatch z⟩
 | int i=>obtain ⟨t,q⟩:=(show ∃ t,u=Value.int i t from rx); cases q; exact ⟨_,PySem.W.kitx_int,True.intro,fun z=>nomatch z⟩
 | str y=>obtain ⟨t,q⟩:=(show ∃ t,u=Value.str y t from rx); cases q; exact ⟨_,PySem.W.kitx_str,True.intro,fun z=>nomatch z⟩
 | flt y=>obtain ⟨t,q⟩:=(show ∃ t,u=Value.float y t from rx); cases q; exact ⟨_,PySem.W.kitx_float,True.intro,fun z=>nomatch z⟩
 | @lst a xs ea =>
  cases (show u=Value.ref a from rx)
  obtain ⟨_,_,n,_,h1⟩:=(show ObjOk X.prog X.w H s.heap a (.lst xs) from I.hok a _ ea)
  exact ⟨_,kitx_list,⟨_,h1,rfl⟩,fun z=>nomatch z⟩
 | @frz a ob xs ea =>
  cases (show u=Value.ref a from rx)
  obtain ⟨_,_,_,n,_,h1⟩:=(show ObjOk X.prog X.w H s.heap a (.frz ob (.lst xs)) from I.hok a _ ea)
  exact ⟨_,kitx_list,⟨_,h1,rfl⟩,fun z=>nomatch z⟩
 | @tup a xs ea =>
  cases (show u=Value.ref a from rx)
  obtain ⟨_,_,_,p⟩:=(show ObjOk X.prog X.w H s.heap a (.tup xs) from I.hok a _ ea)
  obtain ⟨o,h1,h2,_⟩:=p
  exact ⟨_,kitx_tuple,⟨o,h1,h2⟩,fun z=>nomatch z⟩
 | @dK a kvs ea =>
  cases (show u=Value.ref a from rx)
  obtain ⟨_,_,vs,_,p⟩:=(show ObjOk X.prog X.w H s.heap a (.dK kvs) from I.hok a _ ea)
  obtain ⟨o,es,ep,h1,h2,_⟩:=p
  exact ⟨_,kitx_dict,⟨o,h1,h2.1⟩,fun z=>nomatch z⟩
 | @dT a kvs ea =>
  cases (show u=Value.ref a from rx)
  obtain ⟨_,_,xs,_,o,es,ep,h1,h2,_⟩:=(show ObjOk X.prog X.w H s.heap a (.dT kvs) from I.hok a _ ea)
  exact ⟨_,kitx_dict,⟨o,h1,h2.1⟩,fun z=>nomatch z⟩
 | @ins a C dx fs ea cl ha hn htk hm =>
  cases (show u=Value.ref a from rx)
  obtain ⟨mA,O,_⟩:=iB I.hok ea
  obtain ⟨od,J,_⟩:=O.look
  exact ⟨_,PySem.W.kitx_own (cl.get _) cl.hd ha hn htk hm,J,fun z=>nomatch z⟩
def u7:V→Value
 | .ty n=>.type n
 | .ref a=>.ref a
 | _=>.none
def oi:V→Bool
 | .ty _=>true
 | .ref _=>true
 | _=>false
theorem nZ{c:V}{u:Value}(h:oi c=true)(r:RelV c u):u=u7 c:=by
 cases c <;> first | exact r | exact absurd (show false=true from h) Bool.false_ne_true
inductive rIsi(K:Frag)(xs:List V)(H:Hp)(Q:VK):Prop
 | mk(x c:V)(t:_)(b:Bool)(h0:xs=[x,c])(h1:oi c=true)(h2:TyOf K H x t)(h3:kitOne K t (u7 c)=some b)(h4:Q (.bl b) H):rIsi K xs H Q
theorem ek:CallR X (.builtin "isinstance") (rIsi X.K):=by
 intro pins s σ H xs us Q I r h
 obtain ⟨x,c,t,b,rfl,hc,ty,e,q⟩:=h
 obtain ⟨u,w',rfl,rx,rc⟩:=lM r
 cases nZ hc rc
 obtain ⟨Hh,Z,p,hx⟩:=mI I rx ty
 exact PySem.W.kia_one Z I.kIn p e hx fun tk=>⟨.bl b,H,I.tok tk,rfl,q⟩
end
theorem rq{Q:V→Prop}{p r:Prop}[Decidable p][Decidable r](q:Q (.bl (decide (p∧r)))):if decide p=true then Q (.bl (decide r)) else Q (.bl false):=by
 by_cases h:p
 ·rw[if_pos (decide_eq_true h)]
  have e:decide (p∧r)=decide r:=by by_cases z:r <;> simp[h,z]
  rw[← e]; exact q
 ·rw[if_neg (fun z=>h (of_decide_eq_true z))]
  have e:decide (p∧r)=false:=decide_eq_false fun z=>h z.1
  rw[← e]; exact q
theorem ifP{c:Prop}[Decidable c]{A B:Prop}(hc:c)(h:A):if decide c=true then A else B:=by rw[if_pos (decide_eq_true hc)]; exact h
theorem ifN{c:Prop}[Decidable c]{A B:Prop}(hc:¬c)(h:B):if decide c=true then A else B:=by rw[if_neg (fun z=>hc (of_decide_eq_true z))]; exact h
theorem ifC{c:Prop}[Decidable c]{A B:Prop}(h1:c→A)(h2:¬c→B):if decide c=true then A else B:=by
 by_cases h:c
 ·exact ifP h (h1 h)
 ·exact ifN h (h2 h)
theorem ifB{b:Bool}{A B:Prop}(h1:b=true→A)(h2:b=false→B):if b=true then A else B:=by
 cases b with
 | true=>rw[if_pos rfl]; exact h1 rfl
 | false=>rw[if_neg Bool.false_ne_true]; exact h2 rfl
theorem bI:bootBuiltins "len" = some (.builtin "len"):=by decide +kernel
theorem bN:bootBuiltins "isinstance" = some (.builtin "isinstance"):=by decide +kernel
theorem mj:bootBuiltins "min" = some (.builtin "min"):=by decide +kernel
theorem j0:bootBuiltins "enumerate" = some (.type "enumerate"):=by decide +kernel
theorem qH:bootBuiltins "zip" = some (.type "zip"):=by decide +kernel
theorem fA:bootBuiltins "range" = some (.type "range"):=by decide +kernel
theorem v8:bootBuiltins "str" = some (.type "str"):=by decide +kernel
theorem iZ:bootBuiltins "int" = some (.type "int"):=by decide +kernel
theorem kq:bootBuiltins "bool" = some (.type "bool"):=by decide +kernel
theorem di:bootBuiltins "list" = some (.type "list"):=by decide +kernel
theorem gA:bootBuiltins "tuple" = some (.type "tuple"):=by decide +kernel
theorem cN{X:Cx}{x:Str}{v:V}{pos:Pos}(hg:Gl X x)(h:∃ u,X.mg x=some u∧RelV v u)(hd:(x == ("__debug__" : Str))=false:=by decide):PE X (.Name x pos) (tC v) :=
 let ⟨_,e,r⟩:=h
 vd hg e r hd
def zd(K:Frag)(tl:TE):TI:=fun σ H R=>tl σ H fun x H1=>match x with
 | .str z=>R (Its z) H1
 | .ref a=>((∃ xs,SqL K H1 a xs)∧R (Itl K a) H1)∨((∃ xs,SqT K H1 a xs)∧R (Itt K a) H1)
 | _=>False
theorem bj{X:Cx}{tg l:Expr}{tl:TE}(hl:PE X l tl):PI X tg l (zd X.K tl):=by
 intro pins s σ H R I h
 have hl1:PE X l tl:=hl
 refine thn (hl pins s σ H _ I h) fun v s1 ⟨x,H1,I1,r1,q1⟩=>?_
 cases x with
 | str z =>
  have:=wE (X:=X) (tg:=tg) (l:=l) (tl:=tC (.str z))
  obtain ⟨t,rfl⟩:=r1
  refine wpAny_pyIter_strU ?_
  refine ⟨s1.heap.objs.size,[s1.heap.objs.size],_,_,H1,rfl,I1.kept (t':=s1.toks) fun b o e=>Heap.get?_push_of_some _ e,lJ (ty:=strIterType z) (t:=t) z _ ?_,⟨_,Heap.get?_push_size _ rfl,rfl,rfl⟩,fun b hb=>?_,q1⟩
  ·unfold strIterType
   split
   ·exact .inl rfl
   ·exact .inr rfl
  ·have e:b=s1.heap.objs.size:=by simpa using hb
   subst e
   exact I1.fpOk (Nat.le_refl _) (I1.hok.fresh (Nat.le_refl _))
 | ref a =>
  cases r1
  rcases q1 with ⟨⟨xs,hq⟩,q⟩ | ⟨⟨xs,hq⟩,q⟩
  ·obtain ⟨its,rv,p,hz⟩:=I1.list hq
   refine wpAny_pyIter_list p.isList ?_
   refine ⟨s1.heap.objs.size,[s1.heap.objs.size],_,_,H1,rfl,I1.kept (t':=s1.toks) fun b o e=>Heap.get?_push_of_some _ e,oS a _,⟨_,Heap.get?_push_size _ rfl,rfl,rfl⟩,fun b hb=>?_,q⟩
   have e:b=s1.heap.objs.size:=by simpa using hb
   subst e
   exact I1.fpOk (Nat.le_refl _) (I1.hok.fresh (Nat.le_refl _))
  ·obtain ⟨its,rv,p,hz⟩:=I1.tuple hq
   refine wpAny_pyIter_tuple (show s1.heap.IsTuple a its.toArray from p) ?_
   refine ⟨s1.heap.objs.size,[s1.heap.objs.size],_,_,H1,rfl,I1.kept (t':=s1.toks) fun b o e=>Heap.get?_push_of_some _ e,mF a _,⟨_,Heap.get?_push_size _ rfl,rfl,rfl⟩,fun b hb=>?_,q⟩
   have e:b=s1.heap.objs.size:=by simpa using hb
   subst e
   exact I1.fpOk (Nat.le_refl _) (I1.hok.fresh (Nat.le_refl _))
 | _=>exact (show False from q1).elim
inductive rLenSq(K:Frag)(p:Addr)(H:Hp)(Q:VK):Prop
 | mk(ys:List V)(h0:SqL K H p ys∨SqT K H p ys)(h1:Q (.int ys.length) H):rLenSq K p H Q
theorem aE{X:Cx}:CallR X (.builtin "len") (fun xs H Q=>match xs with
  | [.str z]=>z.length≤sizeLine∧Q (.int z.length) H
  | [.ref p]=>rLenSq X.K p H Q
  | _=>False):=(call_len_str.or ka).imp fun xs H Q q=>by
 match xs,q with
 | [.str z],q=>exact .inl ⟨z,rfl,q.1,q.2⟩
 | [.ref p],q=>obtain ⟨ys,h,q⟩:=q; exact .inr ⟨p,ys,rfl,h,q⟩
section
variable {D:Addr}{σb:St}{g:TG}{tt:TT}{te:TE}{Q:Hp→List V→Prop}{H:Hp}{K:Frag}
def nQ(D:Addr)(σb:St)(g:TG)(tt:TT)(te:TE)(x:V)(ys:List V)(H:Hp)(P:List V→Hp→Prop):Prop :=
 g x σb H fun σ4 H4=>Wk σb σ4∧tt σ4 H4 fun b H5=>if b=true then te σ4 H5 fun y H6=>H6 D=some (.lst ys)∧ys.length<sizeLine∧P (ys++[y]) (upd H6 D (.lst (ys++[y]))) else P ys H5
theorem aK{a:Addr}{xs:List V}(Pv:Nat→List V→Hp→Prop)(h0:Pv 0 [] H)(hq:∀ i ys H,Pv i ys H→SqL K H a xs)(hl:∀ i ys H,Pv i ys H→H D=some (.lst ys))
  (hs:∀(i:Nat) x ys H P,xs[i]? = some x→Pv i ys H→(∀ a b,Pv (i+1) a b→P a b)→nQ D σb g tt te x ys H P) (hd:∀ ys H,Pv xs.length ys H→Q H ys):∃ W,(∃ m,W 0 m [] H)∧iM (Itl K a) D σb g tt te Q W:=by
 refine ⟨fun i m ys H=>m=xs.length - i∧i≤xs.length∧Pv i ys H,⟨_,rfl,Nat.zero_le _,h0⟩,?_⟩
 rintro i m ys H ⟨rfl,hi,p⟩
 refine ⟨hl i ys H p,?_⟩
 have q:=hq i ys H p
 by_cases hlt:i<xs.length
 ·refine .inr ⟨⟨xs,xs[i],q,by simp[hlt]⟩,fun x H3 y=>?_⟩
  obtain ⟨rfl,y⟩:=y
  exact hs i x ys _ (fun a b=>∃ m',m'<xs.length - i∧m'=xs.length - (i+1)∧i+1≤xs.length∧Pv (i+1) a b) (y xs q) p (fun a b q=>⟨xs.length - (i+1),by lia,rfl,hlt,q⟩)
 ·have e:i=xs.length:=by lia
  subst e
  exact .inl ⟨⟨xs,q,Nat.le_refl _⟩,hd ys H p⟩
theorem qM{a:Addr}{xs:List V}(Pv:Nat→List V→Hp→Prop)(h0:Pv 0 [] H)(hq:∀ i ys H,Pv i ys H→SqT K H a xs)(hl:∀ i ys H,Pv i ys H→H D=some (.lst ys))
  (hs:∀(i:Nat) x ys H P,xs[i]? = some x→Pv i ys H→(∀ a b,Pv (i+1) a b→P a b)→nQ D σb g tt te x ys H P) (hd:∀ ys H,Pv xs.length ys H→Q H ys):∃ W,(∃ m,W 0 m [] H)∧iM (Itt K a) D σb g tt te Q W:=by
 refine ⟨fun i m ys H=>m=xs.length - i∧i≤xs.length∧Pv i ys H,⟨_,rfl,Nat.zero_le _,h0⟩,?_⟩
 rintro i m ys H ⟨rfl,hi,p⟩
 refine ⟨hl i ys H p,?_⟩
 have q:=hq i ys H p
 by_cases hlt:i<xs.length
 ·refine .inr ⟨⟨xs,xs[i],q,by simp[hlt]⟩,fun x H3 y=>?_⟩
  obtain ⟨rfl,y⟩:=y
  exact hs i x ys _ (fun a b=>∃ m',m'<xs.length - i∧m'=xs.length - (i+1)∧i+1≤xs.length∧Pv (i+1) a b) (y xs q) p (fun a b q=>⟨xs.length - (i+1),by lia,rfl,hlt,q⟩)
 ·have e:i=xs.length:=by lia
  subst e
  exact .inl ⟨⟨xs,q,Nat.le_refl _⟩,hd ys H p⟩
theorem dO{lo:Int}{n:Nat}(Pv:Nat→List V→Hp→Prop)(h0:Pv 0 [] H)(hl:∀ i ys H,Pv i ys H→H D=some (.lst ys))
  (hs:∀(i:Nat) ys H P,i<n→Pv i ys H→(∀ a b,Pv (i+1) a b→P a b)→nQ D σb g tt te (.int (lo+i)) ys H P) (hd:∀ ys H,Pv n ys H→Q H ys):∃ W,(∃ m,W 0 m [] H)∧iM (Itr lo n) D σb g tt te Q W:=by
 refine ⟨fun i m ys H=>m=n - i∧i≤n∧Pv i ys H,⟨_,rfl,Nat.zero_le _,h0⟩,?_⟩
 rintro i m ys H ⟨rfl,hi,p⟩
 refine ⟨hl i ys H p,?_⟩
 by_cases hlt:i<n
 ·refine .inr ⟨hlt,fun x H3 y=>?_⟩
  obtain ⟨rfl,rfl⟩:=y
  exact hs i ys _ (fun a b=>∃ m',m'<n - i∧m'=n - (i+1)∧i+1≤n∧Pv (i+1) a b) hlt p (fun a b q=>⟨n - (i+1),by lia,rfl,hlt,q⟩)
 ·have e:i=n:=by lia
  subst e
  exact .inl ⟨Nat.le_refl _,hd ys H p⟩
end
theorem Same.new{H:Hp}{p:Addr}{o:HO}(h:H p=none):Same H (upd H p o):=fun b u e=>by rw[ag (am e h)]; exact e
mutual
def DV(K:Frag)(H:Hp):PyData→V→Prop
 | .none,x=>x=.non
 | .bool b,x=>x=.bl b
 | .int i,x=>x=.int i
 | .str z,x=>x=.str z
 | .list ds,x=>∃ a xs,x=.ref a∧SqL K H a xs∧DVs K H ds xs
 | .tuple ds,x=>∃ a xs,x=.ref a∧SqT K H a xs∧DVs K H ds xs
 | .dict _,_=>False
def DVs(K:Frag)(H:Hp):List PyData→List V→Prop
 | [],xs=>xs=[]
 | d::ds,xs=>∃ y ys,xs=y::ys∧DV K H d y∧DVs K H ds ys
end
section
variable {X:Cx}{pins:List (Addr×Obj)}{σ:St}{H:Hp}{s:Shared}
mutual
theorem DV.reads(I:Inv X pins σ H s):∀{d:PyData}{x:V}{u:Value},DV X.K H d x→RelV x u→∃ as,Reads s.heap u d as
 | .none,x,u,h,r=>by
  rw[DV]at h; subst h; cases r; exact ⟨_,.none⟩
 | .bool b,x,u,h,r=>by
  rw[DV]at h; subst h; cases r; exact ⟨_,.bool b⟩
 | .int i,x,u,h,r=>by
  rw[DV]at h; subst h; obtain ⟨t,rfl⟩:=r; exact ⟨_,.int i t⟩
 | .str z,x,u,h,r=>by
  rw[DV]at h; subst h; obtain ⟨t,rfl⟩:=r; exact ⟨_,.str z t⟩
 | .list ds,x,u,h,r=>by
  rw[DV]at h
  obtain ⟨a,xs,rfl,h2,h3⟩:=h
  cases r
  obtain ⟨its,rv,⟨o,n,e,c,_,d⟩,_⟩:=I.list h2
  obtain ⟨as,q⟩:=DVs.reads I h3 rv
  exact ⟨_,.list e c d (by simpa using q)⟩
 | .tuple ds,x,u,h,r=>by
  rw[DV]at h
  obtain ⟨a,xs,rfl,h2,h3⟩:=h
  cases r
  obtain ⟨its,rv,⟨o,e,c,n,d⟩,_⟩:=I.tuple h2
  obtain ⟨as,q⟩:=DVs.reads I h3 rv
  exact ⟨_,.tuple e c d (by simpa using q)⟩
 | .dict _,x,u,h,r=>by rw[DV]at h; exact h.elim
theorem DVs.reads(I:Inv X pins σ H s):∀{ds:List PyData}{xs:List V}{us:List Value},DVs X.K H ds xs→Vals xs us→∃ as,ReadsAll s.heap us ds as
 | [],xs,us,h,r=>by
  rw[DVs]at h; subst h; cases r; exact ⟨_,.nil⟩
 | d::ds,xs,us,h,r=>by
  rw[DVs]at h
  obtain ⟨y,ys,rfl,h2,h3⟩:=h
  cases r with
  | cons r rs =>
   obtain ⟨as,q⟩:=DV.reads I h2 r
   obtain ⟨bs,p⟩:=DVs.reads I h3 rs
   exact ⟨_,.cons q p⟩
end
end
inductive rEqD(K:Frag)(neg:Bool)(x y:V)(H:Hp)(Q:VK):Prop
 | mk(d e:PyData)(h0:DV K H d x)(h1:DV K H e y)(h2:SeqAt.shaped d=true)(h3:SeqAt.shaped e=true)(h4:Q (.bl (if neg then !PyData.eqv d e else PyData.eqv d e)) H):rEqD K neg x y H Q
theorem kS{X:Cx}(hu:X.A.units+64<cLine):OpR X (compareOp .Eq) (rEqD X.K false):=by
 intro pins s σ H x y v u Q I rx ry h
 obtain ⟨d,e,h1,h2,s1,s2,q⟩:=h
 obtain ⟨as,ra⟩:=h1.reads I rx
 obtain ⟨bs,rb⟩:=h2.reads I ry
 exact eq_dataH ra rb s1 s2 hu ⟨.bl _,H,I,rfl,q⟩
theorem gh{X:Cx}(hu:X.A.units+64<cLine):OpR X (compareOp .NotEq) (rEqD X.K true):=by
 intro pins s σ H x y v u Q I rx ry h
 obtain ⟨d,e,h1,h2,s1,s2,q⟩:=h
 obtain ⟨as,ra⟩:=h1.reads I rx
 obtain ⟨bs,rb⟩:=h2.reads I ry
 exact ne_dataH ra rb s1 s2 hu ⟨.bl _,H,I,rfl,q⟩
def lP(z:Str)(lo hi:Option Int):Str:=⟨((z.cps.toList.drop (HT.sIx z.cps.size 0 lo)).take (HT.sIx z.cps.size z.cps.size hi - HT.sIx z.cps.size 0 lo)).toArray⟩
theorem vT(n d:Nat)(v:Option Int):(match v with | none=>(d:Int) | some i=>max 0 (min (if i<0 then i+(n:Int) else i) (n:Int)))=((HT.sIx n d v:Nat):Int):=by
 cases v with
 | none=>rfl
 | some i =>
  show max 0 (min (if i<0 then i+(n:Int) else i) (n:Int))=(((if i<0 then (i+(n:Int)).toNat else min i.toNat n):Nat):Int)
  split <;> lia
theorem pX(lo hi:Option Int)(n:Nat):Builtin.Str.strSliceIndices lo hi 1 n=(List.range (HT.sIx n n hi - HT.sIx n 0 lo)).map (HT.sIx n 0 lo + ·):=by
 have e:Builtin.Str.strSliceIndices lo hi 1 n=sliceRange ((HT.sIx n 0 lo:Nat):Int) ((HT.sIx n n hi:Nat):Int) 1:=by
  rw[← vT n 0 lo,← vT n n hi]
  unfold Builtin.Str.strSliceIndices
  simp only[show (1:Int) > 0 by decide,if_true]
  cases lo <;> cases hi <;> rfl
 rw[e,sliceRange_one]
theorem oQ(z:Str)(lo hi:Option Int):Txt.slice z lo hi=lP z lo hi:=by
 have e:((Builtin.Str.strSliceIndices lo hi 1 z.length).filterMap (z.cps[·]?))=(z.cps.toList.drop (HT.sIx z.cps.size 0 lo)).take (HT.sIx z.cps.size z.cps.size hi - HT.sIx z.cps.size 0 lo):=by
  rw[pX]
  exact pick_run z.cps _ _
 unfold Txt.slice
 split
 ·rename_i h
  have hl:(Builtin.Str.strSliceIndices lo hi 1 z.length).length=z.cps.size:=by
   rw[Bool.and_eq_true]at h
   exact eq_of_beq h.2
  rw[pX,length_map,length_range]at hl
  have h1:=HT.sIx_le z.cps.size z.cps.size (Nat.le_refl _) hi
  have hl':HT.sIx z.cps.size z.cps.size hi - HT.sIx z.cps.size 0 lo=z.cps.size:=hl
  unfold lP
  by_cases h0:z.cps.size=0
  ·refine ext_toList ?_
   have hz:z.cps.toList=[]:=List.length_eq_zero_iff.mp (by simpa using h0)
   show z.cps.toList=_
   rw[hz]
   simp
  ·have h2:HT.sIx z.cps.size 0 lo=0:=by lia
   rw[hl',h2,List.drop_zero,take_of_length_le (by simp)]
 ·rw[e]
  rfl
section
variable {X:Cx}
def zw:V→Option Int→Option Int→Hp→VK→Prop:=fun x lo hi H Q=>∃ z,x=.str z∧z.length≤sizeLine∧Q (.str (lP z lo hi)) H
theorem wC:SlR X zw:=by
 intro pins s σ H x v vl vu lo hi sl Q I rx hs pl pu h
 obtain ⟨z,rfl,hz,q⟩:=h
 obtain ⟨t,rfl⟩:=rx
 refine ⟨"str",_,F.slot_str_getitem.lookup,typeIs_str _ _ _,?_⟩
 rw[← oQ]at q
 have fin:∀ t' k,EP X pins σ Q (.str (Txt.slice z lo hi) t') { s with toks:=k }:=fun t' k=>⟨.str _,H,I.tok _,⟨_,rfl⟩,q⟩
 cases pl with
 | none =>
  cases pu with
  | none=>exact wpAny_getItem_str_slice (l:=none) (u:=none) (st:=none) hs rfl (post_val_or_str ⟨Nat.le_trans (Txt.slice_le z _ _) hz,fin⟩)
  | int j uj=>exact wpAny_getItem_str_slice (l:=none) (u:=some (j,uj)) (st:=none) hs rfl (post_val_or_str ⟨Nat.le_trans (Txt.slice_le z _ _) hz,fin⟩)
 | int i ui =>
  cases pu with
  | none=>exact wpAny_getItem_str_slice (l:=some (i,ui)) (u:=none) (st:=none) hs rfl (post_val_or_str ⟨Nat.le_trans (Txt.slice_le z _ _) hz,fin⟩)
  | int j uj=>exact wpAny_getItem_str_slice (l:=some (i,ui)) (u:=some (j,uj)) (st:=none) hs rfl (post_val_or_str ⟨Nat.le_trans (Txt.slice_le z _ _) hz,fin⟩)
theorem SlR.imp{r r':V→Option Int→Option Int→Hp→VK→Prop}(h:SlR X r)(i:∀ x lo hi H Q,r' x lo hi H Q→r x lo hi H Q):SlR X r' :=
 fun pins s σ H x v vl vu lo hi sl Q I rx hs pl pu q=>h pins s σ H x v vl vu lo hi sl Q I rx hs pl pu (i x lo hi H Q q)
theorem km:SlR X (fun x lo hi H Q=>match x with
  | .str z=>z.length≤sizeLine∧Q (.str (lP z lo hi)) H
  | .ref a=>(∃ xs,SqL X.K H a xs∧∀ p,H p=none→Q (.ref p) (upd H p (.lst (dg xs lo hi)))) ∨
    ∃ xs,SqT X.K H a xs∧¬(HT.sIx xs.length 0 lo=0∧HT.sIx xs.length xs.length hi=xs.length)∧∀ p,H p=none→Q (.ref p) (upd H p (.tup (dg xs lo hi)))
  | _=>False):=(sl_list.or (sl_tup.or wC)).imp fun x lo hi H Q q=>by
 cases x with
 | str z=>exact .inr (.inr ⟨z,rfl,q.1,q.2⟩)
 | ref a =>
  rcases q with ⟨xs,h1,h2⟩ | ⟨xs,h1,h2,h3⟩
  ·exact .inl ⟨a,xs,rfl,h1,h2⟩
  ·exact .inr (.inl ⟨a,xs,rfl,h1,h2,h3⟩)
 | _=>exact (show False from q).elim
theorem ph:CallR X (.type "str") (fun xs H Q=>match xs with
  | [.int i]=>i.natAbs.log2<1920∧Q (.str (toString i)) H
  | _=>False):=call_str_int.imp fun xs H Q q=>by
 match xs,q with
 | [.int i],q=>exact ⟨i,rfl,q.1,q.2⟩
variable {o e:Expr}{es:List Expr}{to:TE}{t:TA}{apos cpos:Pos}
end
end L2
namespace L2
abbrev PvS:=Nat→St→Hp→Prop
abbrev PvL:=Nat→List V→Hp→Prop
theorem fi{A1 A2:TS}{D:Ends}{σ:St}{H:Hp}:(let B2:TS:=A2; aA A1 B2 D σ H)→aA A1 A2 D σ H:=fun h=>h
theorem iH{A1 A2 A3:TS}{D:Ends}{σ:St}{H:Hp}:(let B3:TS:=A3; let B2:TS:=aA A2 B3; aA A1 B2 D σ H)→aA A1 (aA A2 A3) D σ H:=fun h=>h
theorem oz{A1 A2 A3 A4:TS}{D:Ends}{σ:St}{H:Hp}:(let B4:TS:=A4; let B3:TS:=aA A3 B4; let B2:TS:=aA A2 B3; aA A1 B2 D σ H)→aA A1 (aA A2 (aA A3 A4)) D σ H:=fun h=>h
theorem pW{A1 A2 A3 A4 A5:TS}{D:Ends}{σ:St}{H:Hp}:(let B5:TS:=A5; let B4:TS:=aA A4 B5; let B3:TS:=aA A3 B4; let B2:TS:=aA A2 B3; aA A1 B2 D σ H)→aA A1 (aA A2 (aA A3 (aA A4 A5))) D σ H:=fun h=>h
theorem rK{A1 A2 A3 A4 A5 A6:TS}{D:Ends}{σ:St}{H:Hp}:(let B6:TS:=A6; let B5:TS:=aA A5 B6; let B4:TS:=aA A4 B5; let B3:TS:=aA A3 B4; let B2:TS:=aA A2 B3; aA A1 B2 D σ H)→aA A1 (aA A2 (aA A3 (aA A4 (aA A5 A6)))) D σ H:=fun h=>h
theorem xD{A1 A2 A3 A4 A5 A6 A7:TS}{D:Ends}{σ:St}{H:Hp}:(let B7:TS:=A7; let B6:TS:=aA A6 B7; let B5:TS:=aA A5 B6; let B4:TS:=aA A4 B5; let B3:TS:=aA A3 B4; let B2:TS:=aA A2 B3; aA A1 B2 D σ H)→aA A1 (aA A2 (aA A3 (aA A4 (aA A5 (aA A6 A7))))) D σ H:=fun h=>h
theorem xK{A1 A2 A3 A4 A5 A6 A7 A8:TS}{D:Ends}{σ:St}{H:Hp}:(let B8:TS:=A8; let B7:TS:=aA A7 B8; let B6:TS:=aA A6 B7; let B5:TS:=aA A5 B6; let B4:TS:=aA A4 B5; let B3:TS:=aA A3 B4; let B2:TS:=aA A2 B3; aA A1 B2 D σ H)→aA A1 (aA A2 (aA A3 (aA A4 (aA A5 (aA A6 (aA A7 A8)))))) D σ H:=fun h=>h
theorem wF{A1 A2 A3 A4 A5 A6 A7 A8 A9 A10:TS}{D:Ends}{σ:St}{H:Hp}:(let B10:TS:=A10; let B9:TS:=aA A9 B10; let B8:TS:=aA A8 B9; let B7:TS:=aA A7 B8; let B6:TS:=aA A6 B7; let B5:TS:=aA A5 B6; let B4:TS:=aA A4 B5; let B3:TS:=aA A3 B4; let B2:TS:=aA A2 B3; aA A1 B2 D σ H)→aA A1 (aA A2 (aA A3 (aA A4 (aA A5 (aA A6 (aA A7 (aA A8 (aA A9 A10)))))))) D σ H:=fun h=>h
theorem wf{A1 A2 A3 A4 A5 A6 A7 A8 A9 A10 A11 A12 A13 A14 A15 A16 A17 A18 A19 A20 A21:TS}{D:Ends}{σ:St}{H:Hp}:(let B21:TS:=A21; let B20:TS:=aA A20 B21; let B19:TS:=aA A19 B20; let B18:TS:=aA A18 B19; let B17:TS:=aA A17 B18; let B16:TS:=aA A16 B17; let B15:TS:=aA A15 B16; let B14:TS:=aA A14 B15; let B13:TS:=aA A13 B14; let B12:TS:=aA A12 B13; let B11:TS:=aA A11 B12; let B10:TS:=aA A10 B11; let B9:TS:=aA A9 B10; let B8:TS:=aA A8 B9; let B7:TS:=aA A7 B8; let B6:TS:=aA A6 B7; let B5:TS:=aA A5 B6; let B4:TS:=aA A4 B5; let B3:TS:=aA A3 B4; let B2:TS:=aA A2 B3; aA A1 B2 D σ H)→aA A1 (aA A2 (aA A3 (aA A4 (aA A5 (aA A6 (aA A7 (aA A8 (aA A9 (aA A10 (aA A11 (aA A12 (aA A13 (aA A14 (aA A15 (aA A16 (aA A17 (aA A18 (aA A19 (aA A20 A21))))))))))))))))))) D σ H:=fun h=>h
end L2
namespace L2
open PySem PySem.Spec PyProof.Rows
section
variable {X:Cx}{pins:List (Addr×Obj)}{σ:St}{H:Hp}{s:Shared}{h':Heap}
theorem Inv.turnedNew{t':Nat}{ch:List Addr}{a:Addr}{o:HO}(I:Inv X pins σ H s)(k:∀ b u,b ∉ ch→s.heap.get? b=some u→h'.get? b=some u)(hf:∀ b∈ch,FpOk X pins H b)
  (ha:s.heap.objs.size≤a) (new:ObjOk X.prog X.w (upd H a o) h' a o):Inv X pins σ (upd H a o) { s with heap:=h',toks:=t' }:=by
 have hna:H a=none:=I.hok.fresh ha
 have nch:∀ b u,H b=some u→b ∉ ch:=fun b u e z=>by
  rw[(hf b z).1]at e
  cases e
 have nea:∀ b u,H b=some u→b≠a:=fun b u e z=>by
  rw[z,hna]at e
  cases e
 have old:∀ b u,s.heap.get? b=some u→b≠a:=fun b u e=>Nat.ne_of_lt (Nat.lt_of_lt_of_le (Heap.lt_size e) ha)
 refine I.step (g':=s.gens) (d':=s.drawn) (ch:=ch) (fun b hb=>?_) (fun b u _ _ hc e _=>k b u hc e) (fun b u _ _ hc e _=>⟨u.slots,k b u hc e⟩) (fun b u _ e n=>?_) (fun b u hc e=>⟨u,k b u hc e⟩)
  (fun b xs e=>?_) (fun b u v e=>?_) (fun b ps e=>⟨#[],?_⟩) (fun m hm=>?_) (fun b u e=>?_) I.bare
 ·obtain ⟨_,f1,_,f3,f4,f5⟩:=hf b hb
  exact ⟨f3,f1,f4,f5⟩
 ·rw[ag (old b u e)]; exact n
 ·rw[ag (nea b _ e)]; exact e
 ·rw[ag (nea b _ e)]; exact e
 ·rw[ag (nea b _ e),e]; simp
 ·obtain ⟨ob,es,ep,ho,r⟩:=hm
  exact ⟨ob,es,ep,k _ ob (fun z=>(hf _ z).2.1 rfl) ho,r⟩
 ·by_cases hb:b=a
  ·subst hb
   rw[ac]at e
   cases e
   exact new
  ·rw[ag hb]at e
   refine (I.hok b u e).stay (fun c v hc q=>k c v ?_ q) (fun c q=>?_) fun c xs q=>?_
   ·rcases hc with z | z
    ·rw[z]; exact nch b u e
    ·exact nch c _ z
   ·rw[ag (nea c _ q)]; exact q
   ·rw[ag (nea c _ q)]; exact q
theorem Inv.turnedN{t':Nat}{ch:List Addr}(I:Inv X pins σ H s)(k:∀ b u,b ∉ ch→s.heap.get? b=some u→h'.get? b=some u)(hf:∀ b∈ch,FpOk X pins H b):Inv X pins σ H { s with heap:=h',toks:=t' }:=by
 have nch:∀ b u,H b=some u→b ∉ ch:=fun b u e z=>by
  rw[(hf b z).1]at e
  cases e
 refine I.step (g':=s.gens) (d':=s.drawn) (ch:=ch) (fun b hb=>?_) (fun b u _ _ hc e _=>k b u hc e) (fun b u _ _ hc e _=>⟨u.slots,k b u hc e⟩) (fun b u _ e n=>n) (fun b u hc e=>⟨u,k b u hc e⟩)
  (fun b xs e=>e) (fun b u v e=>e) (fun b ps e=>⟨#[],by rw[e]; simp⟩) (fun m hm=>?_) (fun b u e=>?_) I.bare
 ·obtain ⟨_,f1,_,f3,f4,f5⟩:=hf b hb
  exact ⟨f3,f1,f4,f5⟩
 ·obtain ⟨ob,es,ep,ho,r⟩:=hm
  exact ⟨ob,es,ep,k _ ob (fun z=>(hf _ z).2.1 rfl) ho,r⟩
 ·refine (I.hok b u e).stay (fun c v hc q=>k c v ?_ q) (fun c q=>q) fun c xs q=>q
  rcases hc with z | z
  ·rw[z]; exact nch b u e
  ·exact nch c _ z
end
def Ite(a:Addr):It:=⟨fun i H=>∃ xs x,H a=some (.lst xs)∧xs[i]? = some x,
 fun i H x H'=>∃ p y,H p=none∧x=.ref p∧(∀ xs,H a=some (.lst xs)→xs[i]? = some y)∧H'=upd H p (.tup [.int (i:Nat),y]),fun i H=>∃ xs,H a=some (.lst xs)∧xs.length≤i⟩
theorem pk{P:Program}{w:World}{K:Frag}{es:List Expr}{k:Nat}{pos:Pos}(a e it:Addr)(hne:e≠it) :
  Turn P w K (.Tuple es k pos) (Ite a) [e,it] e (fun i h=>(∃ old,IsEnum h e it i old)∧h.IsListIter it a i) where
 mem:=by simp
 obj:=fun i h st b hb=>by
  obtain ⟨⟨old,he⟩,o,h1,h2,h3⟩:=st
  rcases mem_cons.mp hb with rfl | hb
  ·exact ⟨_,he,fun v z=>by cases z⟩
  ·rw[mem_singleton.mp hb]
   exact ⟨o,h1,fun v z=>by rw[h3]at z; cases z⟩
 keep:=fun i h h' st kp=>by
  obtain ⟨⟨old,he⟩,o,h1,r⟩:=st
  exact ⟨⟨old,kp e (by simp) _ he⟩,o,kp it (by simp) o h1,r⟩
 item:=by
  intro X hP hw hK hc i pins s σ H E I hf st hg
  subst hP hw hK
  obtain ⟨⟨old,he⟩,hit⟩:=st
  obtain ⟨xs,x,hl,hx⟩:=hg
  obtain ⟨z,its,n,r,hlen,eo⟩:=I.lstM hl
  obtain ⟨u,hu,ru⟩:=Vals.get r hx
  have hil:s.heap.IsList a its.toArray:=⟨_,eo,rfl,_,rfl⟩
  refine wpAny_pyNext_enum_item he hit hil (x:=u) (by simpa using hu) hne fun h1 e1 e2 e3 e4 e5=>?_
  refine ⟨_,rfl,wpAny_letOwnedTupleGo_enum e1 fun h2 e6 sb=>?_⟩
  have hps:s.heap.objs.size≠e:=fun q=>absurd (Heap.lt_size he) (by rw[← q]; exact Nat.lt_irrefl _)
  have hpi:s.heap.objs.size≠it:=fun q=>by
   obtain ⟨o,ho,_⟩:=hit
   exact absurd (Heap.lt_size ho) (by rw[← q]; exact Nat.lt_irrefl _)
  have hn:H s.heap.objs.size=none:=I.hok.fresh (Nat.le_refl _)
  have e3':h2.get? s.heap.objs.size=some { cls:=.type "tuple",data:=.seq #[.int i s.toks,u] }:=(sb.2 _ hps).trans e3
  have J:Inv X pins σ (upd H s.heap.objs.size (.tup [.int (i:Nat),x])) { s with heap:=h2,toks:=s.toks+1 }:=by
   refine I.turnedNew (ch:=[e,it]) (fun b o hb q=>?_) hf (Nat.le_refl _) ⟨by rw[sizeLine_eq]; show 2≤16777216; decide,[.int i s.toks,u],.cons ⟨_,rfl⟩ (.cons ru .nil),_,e3',rfl,0,rfl⟩
   have b1:b≠e:=fun z=>hb (by simp[z])
   have b2:b≠it:=fun z=>hb (by simp[z])
   exact (sb.2 b b1).trans (e5 b o b1 b2 q)
  refine ⟨.ref s.heap.objs.size,_,J,rfl,⟨s.heap.objs.size,x,hn,rfl,fun ys hy=>?_,rfl⟩,⟨⟨u,?_⟩,?_⟩,fun b hb=>?_⟩
  ·rw[hl]at hy
   cases hy
   exact hx
  ·have e6':IsEnum h2 e it ((i:Int)+1) u:=e6
   have e7:((i+1:Nat):Int)=(i:Int)+1:=by lia
   rw[e7]
   exact e6'
  ·obtain ⟨o,ho,r⟩:=e2
   exact ⟨o,(sb.2 it (Ne.symm hne)).trans ho,r⟩
  ·have hb':b≠s.heap.objs.size:=by
    rcases mem_cons.mp hb with rfl | hb
    ·exact hps.symm
    ·rw[mem_singleton.mp hb]; exact hpi.symm
   rw[ag hb']
   exact (hf b hb).1
 done:=by
  intro X hP hw hK hc i pins s σ H E I hf st hg
  subst hP hw hK
  obtain ⟨⟨old,he⟩,hit⟩:=st
  obtain ⟨xs,hl,hx⟩:=hg
  obtain ⟨z,its,n,r,hlen,eo⟩:=I.lstM hl
  have hil:s.heap.IsList a its.toArray:=⟨_,eo,rfl,_,rfl⟩
  refine wpAny_pyNext_enum_end (I.ok.hd hc) he hit hil (by simp; lia) fun h1 eb=>⟨rfl,I.turnedN (ch:=[e,it]) (t':=s.toks) (fun b o hb q=>eb b o (fun z=>hb (by simp[z])) q) hf⟩
 self:=fun _ _ _ _ _ st h=>by
  obtain ⟨⟨old,he⟩,_⟩:=st
  exact wpAny_pyIter_enum he h
def yz(ta:TA):TI:=fun σ H R=>ta σ H fun vs H1=>∃ a xs,vs=[.ref a]∧H1 a=some (.lst xs)∧R (Ite a) H1
theorem oe{X:Cx}{es:List Expr}{k:Nat}{tpos:Pos}{e:Expr}{ta:TA}{p pos:Pos}(hg:Gl X "enumerate")(hm:X.mg "enumerate" = none)(ha:PA X [e] ta)(hs:starEach [e] X.env=[(false,eval e X.env)]:=by rfl) :
  PI X (.Tuple es k tpos) (.Call (.Name "enumerate" p) [e] [] pos) (yz ta):=by
 intro pins s σ H R I h
 refine wpAny_Call_Name_kw (fB I hg hm j0 ?_ (by decide) (by decide))
 refine PyProof.Rows.callWith_type1 (thn (ha pos pins s σ H _ I h) fun us s1 ⟨vs,H1,I1,r1,a,xs,e1,hl,q⟩=>?_) hs rfl
 subst e1
 obtain ⟨u,rfl,ru⟩:=ez r1
 cases ru
 obtain ⟨z,its,n,r,hlen,eo⟩:=I1.lstM hl
 refine call_enumerate_1 (n:=n) eo fun h2 e1 e2 e3 e4=>?_
 have I2:Inv X pins σ H1 { s1 with heap:=h2 }:=I1.kept (t':=s1.toks) e4
 have hne:s1.heap.objs.size+1≠s1.heap.objs.size:=Nat.succ_ne_self _
 refine wpAny_pyIter_enum e1 ?_
 refine ⟨s1.heap.objs.size+1,[s1.heap.objs.size+1,s1.heap.objs.size],_,_,H1,rfl,I2,pk a _ _ hne,⟨⟨_,e1⟩,e2⟩,fun b hb=>?_,q⟩
 have hb':s1.heap.objs.size≤b:=by
  rcases mem_cons.mp hb with rfl | hb
  ·lia
  ·rw[mem_singleton.mp hb]
   exact Nat.le_refl _
 exact I1.fpOk hb' (I1.hok.fresh hb')
theorem qI{a:Addr}{xs:List V}{g:TG}{tb:TS}{D:Ends}{σ:St}{H:Hp}(Pv:Nat→St→Hp→Prop)(h0:Pv 0 σ H)(hl:∀ i σ H,Pv i σ H→H a=some (.lst xs))
  (hs:∀(i:Nat) x σ H p,xs[i]? = some x→Pv i σ H→H p=none→g (.ref p) σ (upd H p (.tup [.int (i:Nat),x])) fun σ2 H2=>tb { D with nx:=Pv (i+1),ct:=Pv (i+1),bk:=D.nx } σ2 H2) (hd:∀ σ H,Pv xs.length σ H→D.nx σ H) :
  ∃ W:Nat→Nat→St→Hp→Prop,(∃ m,W 0 m σ H)∧∀ i m σ H,W i m σ H →
   ((Ite a).stop i H∧D.nx σ H)∨((Ite a).go i H∧∃ N:St→Hp→Prop,(∀ σ' H',N σ' H'→∃ m',m'<m∧W (i+1) m' σ' H')∧∀ x H',(Ite a).yld i H x H'→g x σ H' fun σ2 H2=>tb { D with nx:=N,ct:=N,bk:=D.nx } σ2 H2):=by
 refine ⟨fun i m σ H=>m=xs.length - i∧i≤xs.length∧Pv i σ H,⟨_,rfl,Nat.zero_le _,h0⟩,?_⟩
 rintro i m σ H ⟨rfl,hi,p⟩
 have q:=hl i σ H p
 by_cases hlt:i<xs.length
 ·refine .inr ⟨⟨xs,xs[i],q,by simp[hlt]⟩,Pv (i+1),fun σ' H' p'=>⟨_,by lia,rfl,hlt,p'⟩,fun x H' y=>?_⟩
  obtain ⟨b,v,hb,rfl,hv,rfl⟩:=y
  exact hs i v σ H b (hv xs q) p hb
 ·have e:i=xs.length:=by lia
  subst e
  exact .inl ⟨⟨xs,q,Nat.le_refl _⟩,hd σ H p⟩
theorem oB{D:Addr}{σb:St}{g:TG}{tt:TT}{te:TE}{Q:Hp→List V→Prop}{H:Hp}{a:Addr}{xs:List V}(Pv:Nat→List V→Hp→Prop)(h0:Pv 0 [] H)(hq:∀ i ys H,Pv i ys H→H a=some (.lst xs))(hl:∀ i ys H,Pv i ys H→H D=some (.lst ys))
  (hs:∀(i:Nat) x ys H p P,xs[i]? = some x→Pv i ys H→H p=none→(∀ a b,Pv (i+1) a b→P a b)→nQ D σb g tt te (.ref p) ys (upd H p (.tup [.int (i:Nat),x])) P) (hd:∀ ys H,Pv xs.length ys H→Q H ys):∃ W,(∃ m,W 0 m [] H)∧iM (Ite a) D σb g tt te Q W:=by
 refine ⟨fun i m ys H=>m=xs.length - i∧i≤xs.length∧Pv i ys H,⟨_,rfl,Nat.zero_le _,h0⟩,?_⟩
 rintro i m ys H ⟨rfl,hi,p⟩
 refine ⟨hl i ys H p,?_⟩
 have q:=hq i ys H p
 by_cases hlt:i<xs.length
 ·refine .inr ⟨⟨xs,xs[i],q,by simp[hlt]⟩,fun x H3 y=>?_⟩
  obtain ⟨b,v,hb,rfl,hv,rfl⟩:=y
  exact hs i v ys H b (fun a b=>∃ m',m'<xs.length - i∧m'=xs.length - (i+1)∧i+1≤xs.length∧Pv (i+1) a b) (hv xs q) p hb fun a b r=>⟨_,by lia,rfl,hlt,r⟩
 ·have e:i=xs.length:=by lia
  subst e
  exact .inl ⟨⟨xs,q,Nat.le_refl _⟩,hd ys H p⟩
def Itz(a b:Addr):It:=⟨fun i H=>∃ xs ys x y,H a=some (.lst xs)∧H b=some (.lst ys)∧xs[i]? = some x∧ys[i]? = some y,
 fun i H v H'=>∃ p x y,H p=none∧v=.ref p∧(∀ xs,H a=some (.lst xs)→xs[i]? = some x)∧(∀ ys,H b=some (.lst ys)→ys[i]? = some y)∧H'=upd H p (.tup [x,y]),
 fun i H=>∃ xs ys,H a=some (.lst xs)∧H b=some (.lst ys)∧(xs.length≤i∨ys.length≤i)⟩
theorem qg{P:Program}{w:World}{K:Frag}{es:List Expr}{k:Nat}{pos:Pos}(a b z TI TO i1 i2:Addr)(nd:[z,TI,TO,i1,i2].Nodup) :
  Turn P w K (.Tuple es k pos) (Itz a b) [z,TI,TO,i1,i2] z (fun i h=>IsZip h z TI TO .none∧IsPair h TI (.ref i1) (.ref i2)∧(∃ u v,IsPair h TO u v)∧h.IsListIter i1 a i∧h.IsListIter i2 b i):=by
 have n1:TI≠z:=fun e=>by simp[e]at nd
 have n2:TO≠z:=fun e=>by simp[e]at nd
 have n3:i1≠z:=fun e=>by simp[e]at nd
 have n4:i2≠z:=fun e=>by simp[e]at nd
 have n5:TI≠TO:=fun e=>by simp[e]at nd
 have n6:TI≠i1:=fun e=>by simp[e]at nd
 have n7:TI≠i2:=fun e=>by simp[e]at nd
 have n8:TO≠i1:=fun e=>by simp[e]at nd
 have n9:TO≠i2:=fun e=>by simp[e]at nd
 have n0:i1≠i2:=fun e=>by simp[e]at nd
 have apart:∀{H:Hp}{xs ys:List V},(∀ c∈[z,TI,TO,i1,i2],H c=none)→H a=some (.lst xs)→H b=some (.lst ys)→ZipApart z TI TO i1 i2 a b:=fun {H xs ys} hf ha hb =>
  ⟨n1,n2,n3,n4,n5,n6,n7,n8,n9,n0,am ha (hf z (by simp)),am ha (hf TO (by simp)),am ha (hf i1 (by simp)),am ha (hf i2 (by simp)),
   am hb (hf z (by simp)),am hb (hf TO (by simp)),am hb (hf i1 (by simp)),am hb (hf i2 (by simp))⟩
 refine { mem:=by simp,obj:=?_,keep:=?_,item:=?_,done:=?_,self:=?_ }
 ·rintro i h ⟨h1,h2,⟨u,v,h3⟩,⟨o4,h4,_,d4⟩,⟨o5,h5,_,d5⟩⟩ c hc
  simp only[mem_cons,not_mem_nil,or_false]at hc
  rcases hc with rfl | rfl | rfl | rfl | rfl
  ·exact ⟨_,h1,fun v z=>by cases z⟩
  ·exact ⟨_,h2,fun v z=>by cases z⟩
  ·exact ⟨_,h3,fun v z=>by cases z⟩
  ·exact ⟨_,h4,fun v z=>by rw[d4]at z; cases z⟩
  ·exact ⟨_,h5,fun v z=>by rw[d5]at z; cases z⟩
 ·rintro i h h' ⟨h1,h2,⟨u,v,h3⟩,⟨o4,h4,r4⟩,⟨o5,h5,r5⟩⟩ kp
  exact ⟨kp z (by simp) _ h1,kp TI (by simp) _ h2,⟨u,v,kp TO (by simp) _ h3⟩,⟨o4,kp i1 (by simp) _ h4,r4⟩,⟨o5,kp i2 (by simp) _ h5,r5⟩⟩
 ·intro X hP hw hK hc i pins s σ H E I hf st hg
  subst hP hw hK
  obtain ⟨h1,h2,⟨u,v,h3⟩,h4,h5⟩:=st
  obtain ⟨xs,ys,x,y,ha,hb,hx,hy⟩:=hg
  obtain ⟨_,its,n,r,hlen,eo⟩:=I.lstM ha
  obtain ⟨_,its2,m,r2,hlen2,eo2⟩:=I.lstM hb
  obtain ⟨ux,hux,rux⟩:=Vals.get r hx
  obtain ⟨uy,huy,ruy⟩:=Vals.get r2 hy
  have hn:H s.heap.objs.size=none:=I.hok.fresh (Nat.le_refl _)
  have new:∀ c∈[z,TI,TO,i1,i2],c≠s.heap.objs.size:=fun c hc q=>by
   have:∃ o,s.heap.get? c=some o:=by
    simp only[mem_cons,not_mem_nil,or_false]at hc
    obtain ⟨o4,h4,_⟩:=h4
    obtain ⟨o5,h5,_⟩:=h5
    rcases hc with rfl | rfl | rfl | rfl | rfl
    ·exact ⟨_,h1⟩
    ·exact ⟨_,h2⟩
    ·exact ⟨_,h3⟩
    ·exact ⟨_,h4⟩
    ·exact ⟨_,h5⟩
   obtain ⟨o,ho⟩:=this
   exact absurd (Heap.lt_size ho) (by rw[q]; exact Nat.lt_irrefl _)
  refine wpAny_pyNext_zip_item (apart (fun c hc=>(hf c hc).1) ha hb) h1 h2 h3 h4 h5 (xs:=its.toArray) (ys:=its2.toArray) ⟨_,eo,rfl,_,rfl⟩ ⟨_,eo2,rfl,_,rfl⟩ (x:=ux) (y:=uy) (by simpa using hux) (by simpa using huy)
   fun h6 e1 e2 e3 e4 e5 e6 e7=>?_
  refine ⟨_,rfl,wpAny_letOwnedTupleGo_zip e1 fun h7 e8 sb=>?_⟩
  have J:Inv X pins σ (upd H s.heap.objs.size (.tup [x,y])) { s with heap:=h7 }:=by
   refine I.turnedNew (t':=s.toks) (ch:=[z,TI,TO,i1,i2]) (fun c o hc q=>?_) hf (Nat.le_refl _) ⟨by rw[sizeLine_eq]; show 2≤16777216; decide,[ux,uy],.cons rux (.cons ruy .nil),_,(sb.2 _ (new z (by simp)).symm).trans e5,rfl,0,rfl⟩
   have c1:c≠z:=fun w=>hc (by simp[w])
   exact (sb.2 c c1).trans (e7 c o c1 (fun w=>hc (by simp[w])) (fun w=>hc (by simp[w])) (fun w=>hc (by simp[w])) q)
  refine ⟨.ref s.heap.objs.size,_,J,rfl,⟨s.heap.objs.size,x,y,hn,rfl,fun xs' h=>by rw[ha]at h; cases h; exact hx,fun ys' h=>by rw[hb]at h; cases h; exact hy,rfl⟩,⟨e8,?_,⟨ux,uy,?_⟩,?_,?_⟩,fun c hc=>?_⟩
  ·exact (sb.2 TI n1).trans (e7 TI _ n1 n5 n6 n7 h2)
  ·exact (sb.2 TO n2).trans e2
  ·obtain ⟨o,ho,q⟩:=e3
   exact ⟨o,(sb.2 i1 n3).trans ho,q⟩
  ·obtain ⟨o,ho,q⟩:=e4
   exact ⟨o,(sb.2 i2 n4).trans ho,q⟩
  ·rw[ag (new c hc)]
   exact (hf c hc).1
 ·intro X hP hw hK hc i pins s σ H E I hf st hg
  subst hP hw hK
  obtain ⟨h1,h2,⟨u,v,h3⟩,h4,h5⟩:=st
  obtain ⟨xs,ys,ha,hb,hx⟩:=hg
  obtain ⟨_,its,n,r,hlen,eo⟩:=I.lstM ha
  obtain ⟨_,its2,m,r2,hlen2,eo2⟩:=I.lstM hb
  refine wpAny_pyNext_zip_end (I.ok.hd hc) (apart (fun c hc=>(hf c hc).1) ha hb) h1 h2 h3 h4 h5 (xs:=its.toArray) (ys:=its2.toArray) ⟨_,eo,rfl,_,rfl⟩ ⟨_,eo2,rfl,_,rfl⟩ (by simp; lia) fun h6 e7=>?_
  exact ⟨rfl,I.turnedN (t':=s.toks) (ch:=[z,TI,TO,i1,i2]) (fun c o hc q=>e7 c o (fun w=>hc (by simp[w])) (fun w=>hc (by simp[w])) (fun w=>hc (by simp[w])) (fun w=>hc (by simp[w])) q) hf⟩
 ·exact fun _ _ _ _ _ st h=>wpAny_pyIter_zip st.1 h
def zn(ta:TA):TI:=fun σ H R=>ta σ H fun vs H1=>∃ a b xs ys,vs=[.ref a,.ref b]∧H1 a=some (.lst xs)∧H1 b=some (.lst ys)∧R (Itz a b) H1
theorem wB{X:Cx}{es:List Expr}{k:Nat}{tpos:Pos}{e f:Expr}{ta:TA}{p pos:Pos}(hg:Gl X "zip")(hm:X.mg "zip" = none)(ha:PA X [e,f] ta)(hs:starEach [e,f] X.env=(false,eval e X.env)::starEach [f] X.env:=by rfl)
  (hpl:(backTo pos (starEach [f] X.env)).any (·.1)=false:=by rfl):PI X (.Tuple es k tpos) (.Call (.Name "zip" p) [e,f] [] pos) (zn ta):=by
 intro pins s σ H R I h
 refine wpAny_Call_Name_kw (fB I hg hm qH ?_ (by decide) (by decide))
 refine PyProof.Rows.callWith_type1 (thn (ha pos pins s σ H _ I h) fun us s1 ⟨vs,H1,I1,r1,a,b,xs,ys,e1,hl,hl2,q⟩=>?_) hs hpl
 subst e1
 obtain ⟨u,v,rfl,ru,rv⟩:=lM r1
 cases ru
 cases rv
 obtain ⟨_,its,n,r,hlen,eo⟩:=I1.lstM hl
 obtain ⟨_,its2,m,r2,hlen2,eo2⟩:=I1.lstM hl2
 refine call_zip_2 (xs:=its.toArray) (ys:=its2.toArray) ⟨_,eo,rfl,_,rfl⟩ ⟨_,eo2,rfl,_,rfl⟩ fun h2 e1 e2 e3 e4 e5 e6 e7=>?_
 have I2:Inv X pins σ H1 { s1 with heap:=h2 }:=I1.kept (t':=s1.toks) e7
 refine wpAny_pyIter_zip e1 ?_
 refine ⟨s1.heap.objs.size+4,[s1.heap.objs.size+4,s1.heap.objs.size+2,s1.heap.objs.size+3,s1.heap.objs.size,s1.heap.objs.size+1],_,_,H1,rfl,I2,qg a b _ _ _ _ _ (by simp),⟨e1,e2,⟨_,_,e3⟩,e4,e5⟩,fun c hc=>?_,q⟩
 have hc':s1.heap.objs.size≤c:=by
  simp only[mem_cons,not_mem_nil,or_false]at hc
  rcases hc with z | z | z | z | z <;> rw[z] <;> first | exact Nat.le_refl _ | exact Nat.le_add_right _ _
 exact I1.fpOk hc' (I1.hok.fresh hc')
theorem tH{a b:Addr}{xs ys:List V}{g:TG}{tb:TS}{D:Ends}{σ:St}{H:Hp}(he:xs.length=ys.length)(Pv:Nat→St→Hp→Prop)(h0:Pv 0 σ H)(hl:∀ i σ H,Pv i σ H→H a=some (.lst xs)∧H b=some (.lst ys))
  (hs:∀(i:Nat) x y σ H p,xs[i]? = some x→ys[i]? = some y→Pv i σ H→H p=none→g (.ref p) σ (upd H p (.tup [x,y])) fun σ2 H2=>tb { D with nx:=Pv (i+1),ct:=Pv (i+1),bk:=D.nx } σ2 H2) (hd:∀ σ H,Pv xs.length σ H→D.nx σ H) :
  ∃ W:Nat→Nat→St→Hp→Prop,(∃ m,W 0 m σ H)∧∀ i m σ H,W i m σ H →
   ((Itz a b).stop i H∧D.nx σ H)∨((Itz a b).go i H∧∃ N:St→Hp→Prop,(∀ σ' H',N σ' H'→∃ m',m'<m∧W (i+1) m' σ' H')∧∀ x H',(Itz a b).yld i H x H'→g x σ H' fun σ2 H2=>tb { D with nx:=N,ct:=N,bk:=D.nx } σ2 H2):=by
 refine ⟨fun i m σ H=>m=xs.length - i∧i≤xs.length∧Pv i σ H,⟨_,rfl,Nat.zero_le _,h0⟩,?_⟩
 rintro i m σ H ⟨rfl,hi,p⟩
 obtain ⟨q1,q2⟩:=hl i σ H p
 by_cases hlt:i<xs.length
 ·refine .inr ⟨⟨xs,ys,xs[i],ys[i]'(by lia),q1,q2,by simp[hlt],by simp[show i<ys.length by lia]⟩,Pv (i+1),fun σ' H' p'=>⟨_,by lia,rfl,hlt,p'⟩,fun v H' y=>?_⟩
  obtain ⟨c,x,y,hc,rfl,hx,hy,rfl⟩:=y
  exact hs i x y σ H c (hx xs q1) (hy ys q2) p hc
 ·have e:i=xs.length:=by lia
  subst e
  exact .inl ⟨⟨xs,ys,q1,q2,.inl (Nat.le_refl _)⟩,hd σ H p⟩
end L2
namespace NumM
open PySem PySem.NumText
def codesI(n:Int):List Nat:=(toString n:String).toList.map Char.toNat
theorem codes_nat(m:Nat):codesI (m:Int)=(Nat.toDigits 10 m).map Char.toNat:=by
 unfold codesI
 show (Nat.repr m).toList.map Char.toNat=_
 rw[Nat.toList_repr]
theorem codes_neg(m:Nat)(h:0<m):codesI (-(m:Int))=45::(Nat.toDigits 10 m).map Char.toNat:=by
 obtain ⟨k,rfl⟩:∃ k,m=k+1:=⟨m - 1,by omega⟩
 have e:-((k+1:Nat):Int)=Int.negSucc k:=rfl
 rw[e]
 unfold codesI
 have e2:(toString (Int.negSucc k):String) = "-" ++ Nat.repr (k+1):=rfl
 rw[e2,String.toList_append,Nat.toList_repr]
 rfl
end NumM
namespace L2
open PySem PySem.Spec PyProof.Rows
theorem oW{i:Int}(h:i.natAbs<2 ^ 64):i.natAbs.log2<1920:=by
 by_cases h0:i.natAbs=0
 ·rw[h0]; decide
 ·have:=(Nat.log2_lt h0).mpr h
  omega
theorem ll(n:Int):((toString n:String):Str).cps.toList=NumM.codesI n:=signs_ofString _
theorem kr:∀(k m:Nat),m<10 ^ (k+1)→(Nat.toDigits 10 m).length≤k+1
 | 0,m,h=>by
  rw[Nat.toDigits_of_lt_base (by simpa using h)]
  exact Nat.le_refl _
 | k+1,m,h=>by
  by_cases hm:m<10
  ·rw[Nat.toDigits_of_lt_base hm]
   simp
  ·have hr:m % 10<10:=Nat.mod_lt m (by decide)
   have t:Nat.toDigits 10 (m/10)++Nat.toDigits 10 (m % 10)=Nat.toDigits 10 (10*(m/10)+m % 10):=Nat.toDigits_append_toDigits (by decide) (by omega) hr
   rw[Nat.div_add_mod]at t
   rw[← t,length_append,Nat.toDigits_of_lt_base hr]
   have:=kr k (m/10) (by rw[Nat.pow_succ]at h; omega)
   simp only[length_cons,length_nil]
   omega
theorem o3{k:Nat}{n:Int}(h:n.natAbs<10 ^ (k+1)):(NumM.codesI n).length≤k+2:=by
 by_cases h0:0≤n
 ·obtain ⟨m,rfl⟩:=Int.eq_ofNat_of_zero_le h0
  rw[NumM.codes_nat,length_map]
  have:=kr k m (by simpa using h)
  omega
 ·obtain ⟨m,rfl⟩:∃ m:Nat,n = -(m:Int):=⟨n.natAbs,by omega⟩
  rw[NumM.codes_neg m (by omega),length_cons,length_map]
  have:=kr k m (by simpa using h)
  omega
def wW(lo hi:Int):Option Int→Option Int
 | some n=>if lo≤n∧n≤hi then some n else none
 | none=>none
end L2
namespace SplM
open PySem
end SplM
namespace L2
open PySem PySem.Spec PyProof.Rows
section
variable {X:Cx}
open Builtin.Str in
theorem xx{P:Program}{w:World}{A:Around}{E:Value→Shared→Prop}{s:Shared}{x y:Str}{t u:Tok}{Q:Value→Shared→Prop}(hy:(y.length == 0)=false)(hx:x.length≤sizeLine)
  (hp:(partsBetween x (occurrences x y 0 x.length (x.length+1)) y.length).length≤sizeLine)
  (h:∀(l:List (Str×Tok)) (k:Nat),l.map (·.1)=Txt.split x y→Q (.ref s.heap.objs.size) { s with heap:=s.heap.push { cls:=.type "list",data:=.seq (strValues l).toArray },toks:=k }) :
  wpAny (model P w) A (call (.builtin "str.split") [.str x t,.str y u]) Q E s:=by
 by_cases h1:(decide (x.length<y.length) || decide (strKind x<strKind y))=true
 ·refine call_meets F.slot_str_split (typeIs_str s x t) F.entry_str_split (F.args_str_split_2 _ _) (meets_str_split_cannot_occur x y t u h1) ?_
  exact h [(x,t)] s.toks (by unfold Txt.split; rw[if_pos h1]; rfl)
 ·have h1':=eq_false_of_ne_true h1
  by_cases h2:(occurrences x y 0 x.length (x.length+1)).isEmpty=true
  ·refine call_meets F.slot_str_split (typeIs_str s x t) F.entry_str_split (F.args_str_split_2 _ _) (meets_str_split_not_found x y t u h1' hy h2) ?_
   exact h [(x,t)] s.toks (by unfold Txt.split; rw[if_neg h1,if_pos h2]; rfl)
  ·have h2':=eq_false_of_ne_true h2
   refine call_meets F.slot_str_split (typeIs_str s x t) F.entry_str_split (F.args_str_split_2 _ _) (meets_str_split_sep x y t u h1' hy h2' hx hp) ?_
   have:=h (numbered s.toks (partsBetween x (occurrences x y 0 x.length (x.length+1)) y.length)) (s.toks+(partsBetween x (occurrences x y 0 x.length (x.length+1)) y.length).length)
    ((numbered_texts _ _).trans (by unfold Txt.split; rw[if_neg h1,if_neg h2]))
   rw[← strsFrom_eq]at this
   exact this
abbrev TJ:=Str→St→Hp→(Str→Hp→Prop)→Prop
def PJ(X:Cx)(vs:List Expr)(t:TJ):Prop:=∀(pins:List (Addr×Obj)) (s:Shared) (σ:St) (H:Hp) (acc:Str) (Q:VK),Inv X pins σ H s→t acc σ H (fun out H'=>Q (.str out) H') →
 wpAny (model X.prog X.w) X.A (joinParts acc (evalEach vs X.env)) (EP X pins σ Q) X.xe s
def zk:TJ:=fun acc _ H R=>acc.length≤sizeLine∧R acc H
def yE(te:TE)(tr:TJ):TJ:=fun acc σ H R=>te σ H fun x H1=>match x with
 | .str y=>(acc++y).length≤sizeLine∧tr (acc++y) σ H1 R
 | _=>False
theorem xp:PJ X [] zk:=fun pins s σ H acc Q I h=>joinParts_nil ⟨.str acc,H,I.tok _,⟨_,rfl⟩,h.2⟩ h.1
theorem om{e:Expr}{es:List Expr}{te:TE}{tr:TJ}(he:PE X e te)(hr:PJ X es tr):PJ X (e::es) (yE te tr):=by
 intro pins s σ H acc Q I h
 show wpAny _ _ (joinParts acc (eval e X.env::evalEach es X.env)) _ _ s
 refine joinParts_cons (thn (he pins s σ H _ I h) fun v s1 ⟨x,H1,I1,r1,q1⟩=>?_)
 cases x with
 | str y =>
  obtain ⟨t,rfl⟩:=r1
  exact ⟨q1.1,hr pins s1 σ H1 (acc++y) Q I1 q1.2⟩
 | _=>exact (show False from q1).elim
def xO(t:TJ):TE:=fun σ H Q=>t Str.empty σ H fun out H'=>Q (.str out) H'
theorem vn{v1 v2:Expr}{rest:List Expr}{pos:Pos}{t:TJ}(h:PJ X (v1::v2::rest) t):PE X (.JoinedStr (v1::v2::rest) pos) (xO t):=fun pins s σ H Q I q=>JoinedStr_many (h pins s σ H Str.empty Q I q)
def za(te:TE):TE:=fun σ H Q=>te σ H fun x H1=>match x with
 | .str y=>y.length≤sizeLine∧Q (.str y) H1
 | .int i=>i.natAbs.log2<1920∧Q (.str (toString i)) H1
 | _=>False
theorem xa{e:Expr}{te:TE}{pos:Pos}(he:PE X e te):PE X (.FormattedValue e (-1) none pos) (za te):=by
 intro pins s σ H Q I h
 refine FormattedValue_plain (thn (he pins s σ H _ I h) fun v s1 ⟨x,H1,I1,r1,q1⟩=>?_)
 cases x with
 | str y =>
  obtain ⟨t,rfl⟩:=r1
  exact formatField_str (fun t' tk=>⟨.str y,H1,I1.tok _,⟨_,rfl⟩,q1.2⟩) q1.1
 | int i =>
  obtain ⟨t,rfl⟩:=r1
  exact formatField_int_small q1.1 ⟨.str _,H1,I1.tok _,⟨_,rfl⟩,q1.2⟩
 | _=>exact (show False from q1).elim
variable {o e:Expr}{es:List Expr}{to:TE}{t:TA}{apos cpos:Pos}
theorem pe_m.append(ho:PE X o to)(ha:PA X (e::es) t)(hbase:attributeBase o "append" X.env (eval o X.env)=eval o X.env:=by rfl)
  (hfew:((backTo cpos (starEach (e::es) X.env)).all (fun x=>!x.1) && (backToKw cpos (keywordEach [] X.env)).all (fun x=>x.1.isSome) && decide ((e::es).length+([]:List Keyword).length+(if ([]:List Keyword).isEmpty then 0 else 1)<30))=true:=by rfl)
  (hline:(apos.endLine == cpos.line)=true:=by rfl) (hs:starEach (e::es) X.env=(false,eval e X.env)::starEach es X.env:=by rfl) (hplain:(backTo cpos (starEach es X.env)).any (·.1)=false:=by rfl) :
  PE X (.Call (.Attribute o "append" apos) (e::es) [] cpos) (tBM X.K "list" rAppend to t):=vO F.plainAttrs_list F.slot_list_append F.type_list_append jU ho ha hbase hfew hline hs hplain
theorem pe_m.popAt(ho:PE X o to)(ha:PA X (e::es) t)(hbase:attributeBase o "pop" X.env (eval o X.env)=eval o X.env:=by rfl)
  (hfew:((backTo cpos (starEach (e::es) X.env)).all (fun x=>!x.1) && (backToKw cpos (keywordEach [] X.env)).all (fun x=>x.1.isSome) && decide ((e::es).length+([]:List Keyword).length+(if ([]:List Keyword).isEmpty then 0 else 1)<30))=true:=by rfl)
  (hline:(apos.endLine == cpos.line)=true:=by rfl) (hs:starEach (e::es) X.env=(false,eval e X.env)::starEach es X.env:=by rfl) (hplain:(backTo cpos (starEach es X.env)).any (·.1)=false:=by rfl) :
  PE X (.Call (.Attribute o "pop" apos) (e::es) [] cpos) (tBM X.K "list" p7 to t):=vO F.plainAttrs_list F.slot_list_pop F.type_list_pop qT ho ha hbase hfew hline hs hplain
theorem pe_m.clear(ho:PE X o to)(hbase:attributeBase o "clear" X.env (eval o X.env)=eval o X.env:=by rfl)(hline:(apos.endLine == cpos.line)=true:=by rfl) :
  PE X (.Call (.Attribute o "clear" apos) [] [] cpos) (yD X.K "list" qL to):=wq F.plainAttrs_list F.slot_list_clear F.type_list_clear si ho hbase hline
end
def TK(H H':Hp):Prop:=∀ b xs,H b=some (.tup xs)→H' b=some (.tup xs)
theorem TK.trans{H H1 H2:Hp}(a:TK H H1)(b:TK H1 H2):TK H H2:=fun c o h=>b c o (a c o h)
theorem Same.tk{H H':Hp}(e:Same H H'):TK H H':=fun b xs h=>e b _ h
theorem TK.lst{H:Hp}{l:Addr}{xs ys:List V}(h:H l=some (.lst xs)):TK H (upd H l (.lst ys)):=fun b zs e=>by
 rw[ag (vH e h (by intro z; cases z))]; exact e
theorem Same.put{H H':Hp}{D:Addr}{o:HO}(e:Same H H')(h:H D=none):Same H (upd H' D o):=fun b u q=>by
 rw[ag (am q h)]; exact e b u q
theorem aB{α:Type}{xs:List α}{i:Int}{v:α}(k:Nat)(hk:(k:Int)=i)(h:xs[k]? = some v):atI xs i=some v:=by rw[← hk]; exact bg h
theorem pA(xs:List V)(k:Nat)(h:k≤xs.length):dg xs none (some (k:Int))=xs.take k:=by
 unfold dg
 rw[HT.sIx_nat,HT.sIx_none,List.drop_zero,Nat.sub_zero,Nat.min_eq_left h]
theorem oZ(xs:List V)(k:Nat):dg xs (some (k:Int)) none=xs.drop k:=by
 unfold dg
 rw[HT.sIx_nat,HT.sIx_none]
 by_cases h:k≤xs.length
 ·rw[Nat.min_eq_left h,take_of_length_le (by simp)]
 ·rw[Nat.min_eq_right (by lia),Nat.sub_self,take_zero,List.drop_of_length_le (by lia)]
section
variable {X:Cx}{K:Frag}
theorem bL(h:X.K=K):IxR X (rIx K):=h ▸ ar
theorem uw(h:X.K=K):SlR X (fun x lo hi H Q=>match x with
  | .str z=>z.length≤sizeLine∧Q (.str (lP z lo hi)) H
  | .ref a=>(∃ xs,SqL K H a xs∧∀ p,H p=none→Q (.ref p) (upd H p (.lst (dg xs lo hi)))) ∨
    ∃ xs,SqT K H a xs∧¬(HT.sIx xs.length 0 lo=0∧HT.sIx xs.length xs.length hi=xs.length)∧∀ p,H p=none→Q (.ref p) (upd H p (.tup (dg xs lo hi)))
  | _=>False):=h ▸ km
theorem mV(h:X.K=K):OpR X (compareOp .In) (rIn K false):=h ▸ oU
theorem dF(h:X.K=K){es:List Expr}{k:Nat}{t:TGs}{n:Nat}{pos:Pos}(hc:X.calm=true)(hp:PGs X es t)(hn:(assignEach es X.env).length=n:=by rfl)(hst:(assignEach es X.env).findIdx? (·.1)=none:=by rfl) :
  PG X (.Tuple es k pos) (gTup K n t):=h ▸ du hc hp hn hst
end
structure XCls(K:Frag)(D:Addr):Prop where
 ga:findIn K (.ref D) "__getattribute__" = some (some (.builtin "BaseException.__getattribute__"))
 gn:findIn K (.ref D) "__getattr__" = some none
 cl:findIn K (.ref D) "__class__" = some (some (.builtin "object.__class__"))
 mb:mroIn K D (.type "BaseException")=some true
 mo:mroIn K D (.type "object")=some true
 isc:(clsIn K D).isSome=true
section
variable {prog:Program}{w:World}{A:Around}{E:Value→Shared→Prop}{h:Heap}{g:Array GenState}{d:Drawn}{t:Nat}{os:OsState}{a D:Addr}{o:Obj}{K:Frag}
theorem kZ{M:Model}{nameV:Value}{Q:Unit→Shared→Prop}(c:XCls K D)(X:K.In h)(hx:h.get? a=some o)(hc:o.cls=.ref D)(hq:Q () ⟨h,g,d,t,os⟩) :
  wpAny M A (checkBuiltinCall "BaseException.__getattribute__" ⟨[.ref a,nameV],[]⟩) Q E ⟨h,g,d,t,os⟩:=by
 have hk:builtinKind "BaseException.__getattribute__" = some .slot:=by decide +kernel
 have hsplit:splitId "BaseException.__getattribute__" = some ("BaseException","__getattribute__"):=by decide +kernel
 have ha:=F.args_bexc_ga (.ref a) nameV
 simp only[checkBuiltinCall,hk,hsplit]
 refine wpAny_bind ?_
 unfold isInstance
 repeat (first | (with_reducible refine wpAny_loadPart_at hx ?_; rw[hc]) | with_reducible refine (looks_mroIn X c.mb).at ?_ | wp_step)
 exact hq
theorem xr{R:Result→Shared→Prop}(c:XCls K D)(X:K.In h)(hx:h.get? a=some o)(hc:o.cls=.ref D)(hq:R (.ok (.ret (.ref D))) ⟨h,g,d,t,os⟩) :
  codeAny (model prog w) A (.call (.builtin "getset_descriptor.__get__") ⟨[.builtin "object.__class__",.ref a,.ref D],[]⟩) R ⟨h,g,d,t,os⟩:=by
 have hT5:(⟨h,g,d,t,os⟩:Shared).TypeIs (.builtin "object.__class__") "getset_descriptor" := F.typeOf_object_class
 have hO:Looks (model prog w) h (isSubtype (.ref D) (.type (".".intercalate ("object.__class__".cutAt '.').dropLast))) true:=by
  rw[F.owner_object_class]; exact looks_mroIn X c.mo
 refine codeAny_call_builtin F.slot_gs_get.plain F.entry_gs_get (F.slot_gs_get.check _ _ _ _ _ _ _ _ hT5 (F.args_gs_get _ _ _) ?_)
 repeat (any_goals (first | assumption | (with_reducible refine wpAny_loadPart_at hx ?_; rw[hc]) | with_reducible refine hO.at ?_ | wp_step))
 refine ⟨Code.quiet_builtin _ (by decide +kernel),codeAny_builtin F.entry_object_class ?_⟩
 repeat (any_goals (first | assumption | (with_reducible refine wpAny_loadPart_at hx ?_; rw[hc]) | wp_step))
theorem sg{tk:Tok}{Q:Fin→Shared→Prop}(c:XCls K D)(X:K.In h)(hx:h.get? a=some o)(hc:o.cls=.ref D)(hq:Q (.done (.ret (.ref D))) ⟨h,g,d,t,os⟩) :
  wpAny (model prog w) A (Builtin.«object.__getattribute__» ⟨[.ref a,.str "__class__" tk],[]⟩) Q E ⟨h,g,d,t,os⟩:=by
 have hT5:(⟨h,g,d,t,os⟩:Shared).TypeIs (.builtin "object.__class__") "getset_descriptor" := F.typeOf_object_class
 have f5:=F.typeOf_object_class
 have f6:=F.slot_gs_get.lookup
 have f7:=F.slot_gs_set.lookup
 repeat (any_goals (first | assumption | (with_reducible refine wpAny_loadPart_at hx ?_; rw[hc]) | with_reducible refine (looks_findIn X c.cl).at ?_ | wp_step))
 refine xr c X hx hc ?_
 repeat (any_goals (first | assumption | wp_step))
theorem yb{tk:Tok}{fill expr:Bool}{Q:Value→Shared→Prop}(c:XCls K D)(X:K.In h)(hx:h.get? a=some o)(hc:o.cls=.ref D)(hq:Q (.ref D) ⟨h,g,d,t,os⟩) :
  wpAny (model prog w) A (getAttrBy (.ref a) (.str "__class__" tk) fill expr) Q E ⟨h,g,d,t,os⟩:=by
 have f3:=PySem.F.attrBase_ValueError.ga.bind (.ref a)
 have hx0:(expr && onTheHeap (Value.builtin "BaseException.__getattribute__"))=false:=by cases expr <;> rfl
 have hx2:(Value.builtin "BaseException.__getattribute__" == Value.builtin "object.__getattribute__")=false:=by decide +kernel
 have hx1:(onTheHeap (Value.ref D) && Value.builtin "BaseException.__getattribute__" == Value.builtin "object.__getattribute__")=false:=by rw[hx2]; rfl
 repeat (any_goals (first | assumption | (with_reducible refine wpAny_loadPart_at hx ?_; rw[hc]) | with_reducible refine (looks_findIn X c.ga).at ?_ | with_reducible refine (looks_findIn X c.gn).at ?_ | wp_step))
 refine codeAny_call_builtin PySem.F.attrBase_ValueError.ga.plain F.entry_bexc_ga (kZ c X hx hc (sg c X hx hc ?_))
 repeat (any_goals (first | assumption | wp_step))
theorem uF{Q:Option Value→Shared→Prop}(c:XCls K D)(X:K.In h)(hx:h.get? a=some o)(hc:o.cls=.ref D)(hq:Q (some (.ref D)) ⟨h,g,d,t+1,os⟩) :
  wpAny (model prog w) A (getAttr? (.ref a) "__class__") Q E ⟨h,g,d,t,os⟩:=by
 unfold getAttr? getAttrBy?
 repeat (any_goals (first | assumption | with_reducible apply yb c X hx hc | wp_step))
end
def XAt(a D:Addr)(h:Heap):Prop:=∃ o,h.get? a=some o∧o.cls=.ref D
theorem sL{K:Frag}{a D:Addr}(c:XCls K D):PySem.W.KitX K (.ref a) (.ref D) (XAt a D) where
 ty:=fun M h _ p=>by
  obtain ⟨o,h1,h2⟩:=p
  exact h2 ▸ (Looks.ld h1).andThen .now
 it:=fun _ _ X _=>by
  obtain ⟨cdD,hcD⟩:=Option.isSome_iff_exists.mp c.isc
  unfold clsIn at hcD
  split at hcD
  ·rename_i c' d' cd' sl' ho
   intro A' Q' E' s' k q
   unfold isType loadHead
   exact wpAny_bind (wpAny_loadPart (k _ _ (X _ _ ho)) (wpAny_pure q))
  ·cases hcD
 ne:=fun h tp dd its n sl X htp=>by
  obtain ⟨cdD,hcD⟩:=Option.isSome_iff_exists.mp c.isc
  refine Bool.eq_false_iff.mpr fun q=>?_
  have e:D=tp:=Value.ref.inj (beq_iff_eq.mp q)
  subst e
  unfold clsIn at hcD
  split at hcD
  ·rename_i c' d' cd' sl' ho
   have z:=(X _ _ ho).symm.trans htp
   cases z
  ·cases hcD
 ca:=fun {_ _ _ _ _ s} X p k=>by
  obtain ⟨h,g,d,t,os⟩:=s
  obtain ⟨o,h1,h2⟩:=p
  exact uF c X h1 h2 k
theorem nW{fs:List Addr}{H0 H:Hp}{h0 h h2:Heap}(u:Un fs [] H0 H h0 h)(k:∀ b o,(∃ o',h0.get? b=some o')→b ∉ fs→h.get? b=some o→h2.get? b=some o)
  (sl:∀ b o,b∈fs→h.get? b=some o→∃ l,h2.get? b=some { o with slots:=l }):Un fs [] H0 H h0 h2 where
 keep:=fun b o q n hf hx=>k b o ⟨o,q⟩ hf (u.keep b o q n hf hx)
 slot:=fun b o q n hf hx=>by
  obtain ⟨l,e⟩:=u.slot b o q n hf hx
  obtain ⟨l',e'⟩:=sl b _ hf e
  exact ⟨l',e'⟩
 free:=u.free
 there:=fun b o q hx=>by
  obtain ⟨o',e⟩:=u.there b o q hx
  by_cases hf:b∈fs
  ·obtain ⟨l,e'⟩:=sl b o' hf e
   exact ⟨_,e'⟩
  ·exact ⟨o',k b o' ⟨o,q⟩ hf e⟩
 tups:=u.tups
 frzs:=u.frzs
 tbls:=u.tbls
theorem iU{P:Program}{w:World}{H:Hp}{h h2:Heap}(x:HOk P w H h)(k:∀ b o u,H b=some u→h.get? b=some o→h2.get? b=some o):HOk P w H h2:=fun a o e =>
 (x a o e).stay (fun b u hb q=>by
  rcases hb with z | z
  ·rw[z]at q ⊢
   exact k a u o e q
  ·exact k b u _ z q) (fun _ q=>q) fun _ _ q=>q
theorem ObjOk.isObj{P:Program}{w:World}{H:Hp}{h:Heap}{a:Addr}{o:HO}(x:ObjOk P w H h a o):∃ u,h.get? a=some u:=by
 cases o with
 | lst xs=>obtain ⟨_,_,_,_,e⟩:=x; exact ⟨_,e⟩
 | tup xs=>obtain ⟨_,_,_,_,e,_⟩:=x; exact ⟨_,e⟩
 | dK kvs=>obtain ⟨_,_,_,_,o,_,_,e,_⟩:=x; exact ⟨_,e⟩
 | dT kvs=>obtain ⟨_,_,_,_,o,_,_,e,_⟩:=x; exact ⟨_,e⟩
 | set S n=>obtain ⟨o,_,_,_,e,_⟩:=x; exact ⟨_,e⟩
 | ins C dx fs=>obtain ⟨_,_,_,e,_⟩:=x; exact ⟨_,e⟩
 | own y=>exact x
 | xd fs=>obtain ⟨_,⟨_,_,_,e,_⟩,_⟩:=x; exact ⟨_,e⟩
 | rng lo hi=>obtain ⟨_,_,_,e⟩:=x; exact ⟨_,e⟩
 | frz ob u=>exact ⟨_,x.1⟩
 | tbl ps=>exact ⟨_,x⟩
 | met f y=>exact ⟨_,x⟩
 | ext φ=>exact x.2.1
section
variable {P:Program}{w:World}{outer:List Env}{H H':Hp}{s s':Shared}{x D:Addr}{a0:Value}{B:Heap}
end
section
variable {X:Cx}{pins:List (Addr×Obj)}{σ:St}{H H':Hp}{s s':Shared}{x D:Addr}{a0:Value}{B h2:Heap}
theorem um(J:Inv X pins σ H' s'){b:Addr}(h:∃ o',X.s₀.heap.get? b=some o')(hn:b ∉ frs X.outer):b ∉ frs X.stack:=fun hb=>by
 obtain ⟨o',e⟩:=h
 rcases mem_cons.mp (J.stkSub b hb) with z | z
 ·have h1:=Heap.lt_size e
  have h2:=J.ok.above
  rw[z]at h1
  exact absurd (Nat.lt_of_lt_of_le h1 h2) (Nat.lt_irrefl _)
 ·exact hn z
theorem uB(J:Inv X pins σ H' s'){b:Addr}{u:HO}(e:H' b=some u):b ∉ frs X.stack:=fun hb=>by
 rw[J.stkFree b hb]at e
 cases e
end
section
variable {P:Program}{w:World}{K:Frag}{mg:Str→Option Value}{base:Heap}{N:List Str}{qual:Str}{scope:Scope}{f:Addr}{cdv:Value}{A:Around}{outer:List Env}{s0:Shared}{H0:Hp}{E:XK}
end
section
variable {P:Program}{w:World}{K:Frag}{mg:Str→Option Value}{base:Heap}
end
structure XHd(K:Frag)(C:Addr):Prop where
 isc:(clsIn K C).isSome=true
 ty:typeIn K (.ref C)=some (.type "type")
 mb:mroIn K C (.type "BaseException")=some true
theorem lm{K:Frag}{M:Model}{h:Heap}{C:Addr}(X:K.In h)(e:(clsIn K C).isSome=true):Looks M h (isType (.ref C)) true:=by
 obtain ⟨cdD,hcD⟩:=Option.isSome_iff_exists.mp e
 unfold clsIn at hcD
 split at hcD
 ·rename_i c' d' cd' sl' ho
  intro A' Q' E' s' k q
  unfold isType loadHead
  exact wpAny_bind (wpAny_loadPart (k _ _ (X _ _ ho)) (wpAny_pure q))
 ·cases hcD
theorem o8{K:Frag}{M:Model}{h:Heap}{C D x:Addr}{ob:Obj}(X:K.In h)(c:XHd K C)(hx:h.get? x=some ob)(hc:ob.cls=.ref D)(hm:mroIn K D (.ref C)=some true) :
  Looks M h (excMatches (.ref x) (.ref C)) true:=by
 have L1:Looks M h (typeOf (.ref C)) (.type "type"):=looks_typeIn X c.ty
 have L2':Looks M h (isSubtype (.type "type") (.type "tuple")) false:=Looks.of_pure tc_notTuple
 have L3:Looks M h (isInstance (.ref C) (.type "tuple")) false:=L1.andThen L2'
 have L4:Looks M h (isExcClass (.ref C)) true:=by
  unfold isExcClass
  exact (lm X c.isc).andThen (looks_mroIn X c.mb)
 have L5:Looks M h (typeOf (.ref x)) (.ref D):=hc ▸ (Looks.ld hx).andThen .now
 have L6:Looks M h (isSubtype (.ref D) (.ref C)) true:=looks_mroIn X hm
 intro A Q E s k q
 unfold excMatches
 refine wpAny_bind (L3 A _ E s k ?_)
 rw[if_neg Bool.false_ne_true]
 refine wpAny_bind (wpAny_pure ?_)
 simp only[forIn_cons,forIn_nil,bind_assoc,pure_bind]
 refine wpAny_bind (L4 A _ E s k ?_)
 simp only[Bool.not_true,Bool.false_eq_true,if_false,pure_bind]
 refine wpAny_bind (L5 A _ E s k ?_)
 refine wpAny_bind (L6 A _ E s k ?_)
 simp only[if_true,pure_bind]
 exact wpAny_pure q
def Cx.inX(X:Cx)(x:Addr):Cx:={ X with A:=X.A.mark (some (.ref x)),calm:=false,xe:=fun _ _=>False }
section
variable {X:Cx}{pins:List (Addr×Obj)}{σ:St}{H H' H1:Hp}{s s' s1:Shared}{x D C:Addr}{a0:Value}{B h2:Heap}
theorem Inv.inX(I:Inv X pins σ H s)(x:Addr):Inv (X.inX x) pins σ H s :=
 ⟨⟨I.ok.mod,I.ok.kind,I.ok.glob,I.ok.blt,I.ok.above,I.ok.inj,I.ok.has,I.ok.cab,fun z=>absurd (show false=true from z) Bool.false_ne_true,I.ok.frames,I.ok.stk,I.ok.exf,I.ok.bs,I.ok.bsz,I.ok.noex,I.ok.exfs,I.ok.funs,I.ok.frf⟩,
  I.os,I.bare,I.base,I.loc,I.cell,I.free,I.freeC,I.pin,I.hok,I.len⟩
theorem Inv.outX(hk:X.calm=true→X.A.handled=none)(I:Inv (X.inX x) pins σ H s):Inv X pins σ H s :=
 ⟨⟨I.ok.mod,I.ok.kind,I.ok.glob,I.ok.blt,I.ok.above,I.ok.inj,I.ok.has,I.ok.cab,hk,I.ok.frames,I.ok.stk,I.ok.exf,I.ok.bs,I.ok.bsz,I.ok.noex,I.ok.exfs,I.ok.funs,I.ok.frf⟩,
  I.os,I.bare,I.base,I.loc,I.cell,I.free,I.freeC,I.pin,I.hok,I.len⟩
theorem Inv.gone{i:Nat}{n:Str}{m:Str→Option Value}{v:Option Value}{h':Heap}{t':Nat}(I:Inv X pins σ H s)(hN:X.N.Nodup)(hi:X.N[i]? = some n)(hl:X.env.kindOf n = some .local)
  (hm:∀(j:Nat) (y:Str) (w:V),X.N[j]? = some y→σ[j]? = some (some w)→Vis X.env.scope y→∃ u,RelV w u∧yw X.env s.heap m y u)
  (hn:h'.Ns X.env.locals (fun y=>if y = n then v else m y)) (sb:Heap.SameBut X.env.locals s.heap h'):Inv X pins (σ.set i none) H { s with heap:=h',toks:=t' }:=by
 have lt:i<σ.length:=by rw[I.len]; exact (List.getElem?_eq_some_iff.mp hi).1
 have ne0:∀ b o,X.s₀.heap.get? b = some o→b≠X.env.locals:=fun b o e=>Nat.ne_of_lt (Nat.lt_of_lt_of_le (Heap.lt_size e) I.ok.above)
 have u:=I.base
 refine ⟨I.ok,I.os,I.bare,⟨fun b o e n hf hx=>(sb.2 b (ne0 b o e)).trans (u.keep b o e n hf hx),fun b o e n hf hx=>?_,u.free,fun b o e hx=>?_,u.tups,u.frzs,u.tbls⟩,⟨_,hn,fun j y w e1 e2 e3=>?_⟩,fun x c e=>?_,I.free,I.freeC,fun p hp=>?_,?_,by rw[length_set]; exact I.len⟩
 ·obtain ⟨sl,e'⟩:=u.slot b o e n hf hx
  exact ⟨sl,(sb.2 b (ne0 b o e)).trans e'⟩
 ·obtain ⟨o',e'⟩:=u.there b o e hx
  exact ⟨o',(sb.2 b (ne0 b o e)).trans e'⟩
 ·have hij:i≠j:=fun z=>by
   subst z
   rw[List.getElem?_set_self lt]at e2
   cases e2
  rw[List.getElem?_set_ne hij]at e2
  have hy:y≠n:=fun z=>by
   subst z
   exact hij ((List.getElem?_inj (List.getElem?_eq_some_iff.mp hi).1 hN).mp (hi.trans e1.symm))
  obtain ⟨u',r,l⟩:=hm j y w e1 e2 e3
  refine ⟨u',r,?_⟩
  rcases l with ⟨z1,z2⟩ | ⟨z1,c,z2,z3⟩
  ·exact .inl ⟨z1,by simp only[if_neg hy]; exact z2⟩
  ·exact .inr ⟨z1,c,z2,z3.sameBut sb (I.cne y c z2)⟩
 ·obtain ⟨v',z⟩:=I.cell x c e
  exact ⟨v',z.sameBut sb (I.cne x c e)⟩
 ·obtain ⟨p1,p2,p3,p4,p5⟩:=I.pin p hp
  exact ⟨(sb.2 _ p3).trans p1,p2,p3,p4,p5⟩
 ·exact iU I.hok fun b o u' e q=>(sb.2 b fun z=>by rw[z,I.free]at e; cases e).trans q
end
section
variable {X:Cx}{pins:List (Addr×Obj)}{σ:St}{H H' H1:Hp}{s s' s1:Shared}{x D C:Addr}{a0:Value}{B h2:Heap}{cn en:Str}{ie:Nat}{b₀:Stmt}{suite:List Stmt}{cp hp:Pos}{ts:TS}{DE:Ends}
def Ends.asG(DE:Ends)(ie:Nat):Ends:={ nx:=fun σ' H'=>DE.nx (σ'.set ie none) H',rt:=fun _ _=>False }
end
section
variable {X:Cx}{k ie:Nat}{f C:Addr}{fd:FuncData}{ps:List Str}{sp:Sp}{dvs:List V}{ds:List Value}{fx cn en:Str}{p pos p2 cp hp tp:Pos}{e:Expr}{es:List Expr}{t:TA}{b₀:Stmt}{suite:List Stmt}{ts:TS}
end
def TyX(K:Frag)(H:Hp)(x:V)(t:Value):Prop:=TyOf K H x t∨∃ a D φ,x=.ref a∧t=.ref D∧XCls K D∧H a=some (.ext φ)∧∀ h,φ h→XAt a D h
section
variable {X:Cx}
open PySem.W in
theorem uD{pins:List (Addr×Obj)}{σ:St}{H:Hp}{s:Shared}{x:V}{u t:Value}(I:Inv X pins σ H s)(rx:RelV x u)(ty:TyX X.K H x t) :
  ∃ Hh:Heap→Prop,KitX X.K u t Hh∧Hh s.heap∧u≠.builtin "__main__.__loader__#opaque" := by
 rcases ty with ty | ⟨a,D,φ,rfl,rfl,c,e,hφ⟩
 ·exact mI I rx ty
 ·cases (show u=Value.ref a from rx)
  exact ⟨_,sL c,hφ _ (I.hok a _ e).1,fun z=>nomatch z⟩
def xX(K:Frag):List V→Hp→VK→Prop:=fun xs H Q=>∃ x p cs t b,xs=[x,.ref p]∧H p=some (.tup cs)∧(cs.all oi)=true∧TyX K H x t∧kitAny K t (cs.map u7)=some b∧Q (.bl b) H
theorem kP:∀{cs:List V}{us:List Value},(cs.all oi)=true→Vals cs us→us=cs.map u7
 | [],_,_,.nil=>rfl
 | c::cs,_,h,.cons r t=>by
  rw[all_cons,Bool.and_eq_true]at h
  rw[map_cons,nZ h.1 r,kP h.2 t]
theorem pL:CallR X (.builtin "isinstance") (xX X.K):=by
 intro pins s σ H xs us Q I r h
 obtain ⟨x,p,cs,t,b,rfl,hp,hc,ty,e,q⟩:=h
 obtain ⟨u,w',rfl,rx,rc⟩:=lM r
 cases (show w'=Value.ref p from rc)
 obtain ⟨_,its,rv,o,ho,hoc,n,hod⟩:=(show ObjOk X.prog X.w H s.heap p (.tup cs) from I.hok p _ hp)
 obtain ⟨oc,dd,dt,sl⟩:=o
 obtain rfl:oc=.type "tuple" := hoc
 obtain rfl:dt=_:=hod
 rw[kP hc rv]at ho
 obtain ⟨Hh,Z,z,hx⟩:=uD I rx ty
 exact PySem.W.kia_tup Z I.kIn z ho e hx fun tk=>⟨.bl b,H,I.tok tk,rfl,q⟩
end
section
variable {prog:Program}{w:World}{A:Around}{E:Value→Shared→Prop}{h:Heap}{g:Array GenState}{d:Drawn}{t:Nat}{os:OsState}{a D dx:Addr}{o:Obj}{vs:Array Value}{cd:ClassData}{K:Frag}{name:Str}{mA:Str→Option Value}{v:Value}
theorem sO{tk:Tok}{Q:Fin→Shared→Prop}(X:K.In h)(na:findIn K (.ref D) name=some none)(hk:clsIn K D=some cd)(hkd:cd.hasDict=true)(hx:h.get? a=some o)(hc:o.cls=.ref D)(hdt:o.data=.fields vs)(hd:o.dict=some dx)
  (hn:h.Ns dx mA) (hv:mA name=some v) (hq:Q (.done (.ret v)) ⟨h,g,d,t,os⟩):wpAny (model prog w) A (Builtin.«object.__getattribute__» ⟨[.ref a,.str name tk],[]⟩) Q E ⟨h,g,d,t,os⟩:=by
 unfold Builtin.«object.__getattribute__»
 repeat (any_goals (first | assumption | (with_reducible refine wpAny_loadPart_at hx ?_; rw[hc]) | with_reducible refine (looks_findIn X na).at ?_ | wp_step))
 rw[hdt]
 show wpAny _ _ (instanceDict a false) _ _ _
 unfold instanceDict
 refine wpAny_bind (wpAny_loadPart_at hx ?_)
 rw[hc]
 refine wpAny_bind ((looks_clsIn X hk).at ?_)
 rw[hkd,hd]
 simp only[Bool.not_true,Bool.false_eq_true,if_false]
 refine wpAny_pure ?_
 unfold Builtin.ObjectAttr.inDict
 refine wpAny_nsGet hn ?_
 rw[hv]
 refine wpAny_bind (wpAny_rule (wpAny_pure ?_))
 exact wpAny_pure hq
theorem yP{tk:Tok}{fill expr:Bool}{Q:Value→Shared→Prop}(c:XCls K D)(X:K.In h)(na:findIn K (.ref D) name=some none)(hk:clsIn K D=some cd)(hkd:cd.hasDict=true)(hx:h.get? a=some o)(hc:o.cls=.ref D)
  (hdt:o.data=.fields vs) (hd:o.dict=some dx) (hn:h.Ns dx mA) (hv:mA name=some v) (hb:∀ id,v≠.builtin id) (hq:Q v ⟨h,g,d,t,os⟩) :
  wpAny (model prog w) A (getAttrBy (.ref a) (.str name tk) fill expr) Q E ⟨h,g,d,t,os⟩:=by
 have f3:=PySem.F.attrBase_ValueError.ga.bind (.ref a)
 have hx0:(expr && onTheHeap (Value.builtin "BaseException.__getattribute__"))=false:=by cases expr <;> rfl
 have hx2:(Value.builtin "BaseException.__getattribute__" == Value.builtin "object.__getattribute__")=false:=by decide +kernel
 have hx1:(onTheHeap (Value.ref D) && Value.builtin "BaseException.__getattribute__" == Value.builtin "object.__getattribute__")=false:=by rw[hx2]; rfl
 repeat (any_goals (first | assumption | (with_reducible refine wpAny_loadPart_at hx ?_; rw[hc]) | with_reducible refine (looks_findIn X c.ga).at ?_ | with_reducible refine (looks_findIn X c.gn).at ?_ | wp_step))
 refine codeAny_call_builtin PySem.F.attrBase_ValueError.ga.plain F.entry_bexc_ga (kZ c X hx hc (sO X na hk hkd hx hc hdt hd hn hv ?_))
 repeat (any_goals (first | assumption | wp_step))
 cases v with
 | builtin id=>exact absurd rfl (hb id)
 | _=>exact wpAny_pure hq
theorem tq{expr:Bool}{Q:Value→Shared→Prop}(c:XCls K D)(X:K.In h)(na:findIn K (.ref D) name=some none)(hk:clsIn K D=some cd)(hkd:cd.hasDict=true)(hx:h.get? a=some o)(hc:o.cls=.ref D)
  (hdt:o.data=.fields vs) (hd:o.dict=some dx) (hn:h.Ns dx mA) (hv:mA name=some v) (hb:∀ id,v≠.builtin id) (hq:Q v ⟨h,g,d,t+1,os⟩) :
  wpAny (model prog w) A (getAttr (.ref a) name expr) Q E ⟨h,g,d,t,os⟩:=by
 unfold getAttr
 repeat (any_goals (first | assumption | with_reducible apply yP c X na hk hkd hx hc hdt hd hn hv hb | wp_step))
abbrev bmV:List Value:=[.type "ValueError",.type "Exception",.type "BaseException",.type "object"]
def yM:Value→Bool
 | .ref _=>true
 | _=>false
def jL(l:List Value):Bool:=l.dropWhile yM == bmV
theorem li(self:Value):∀{l:List Value},jL l=true→refuseLoop self "__setattr__" l=pure ()
 | [],e=>by cases e
 | x::r,e=>by
  by_cases hx:yM x=true
  ·have e':jL r=true:=by
    unfold jL at e ⊢
    rw[List.dropWhile_cons_of_pos hx]at e
    exact e
   cases x <;> first | exact absurd hx Bool.false_ne_true | (rw[refuseLoop_ref]; exact li self e')
  ·unfold jL at e
   rw[List.dropWhile_cons_of_neg hx]at e
   rw[beq_iff_eq.mp e]
   exact PySem.F.store_ValueError.passes self
structure XSet(K:Frag)(D:Addr)(name:Str)(cd:ClassData):Prop where
 k:clsIn K D=some cd
 dct:cd.hasDict=true
 mro:jL cd.mro=true
 mo:mroIn K D (.type "object")=some true
 sa:findIn K (.ref D) "__setattr__" = some (some (.builtin "object.__setattr__"))
 na:findIn K (.ref D) name=some none
theorem mZ{tk:Tok}{Q:Fin→Shared→Prop}(c:XSet K D name cd)(X:K.In h)(hx:h.get? a=some o)(hc:o.cls=.ref D)
  (hq:wpAny (model prog w) A (instanceDict a true) (fun r s'=>wpAny (model prog w) A (match r with | some d'=>Builtin.ObjectAttr.storeInDict d' (.str name tk) name v | none=>Builtin.ObjectAttr.noDictFor (.ref a) (.ref D) name false) Q E s') E ⟨h,g,d,t,os⟩) :
  wpAny (model prog w) A (Builtin.«object.__setattr__» ⟨[.ref a,.str name tk,v],[]⟩) Q E ⟨h,g,d,t,os⟩:=by
 have LT:Looks (model prog w) h (typeOf (.ref a)) (.ref D):=hc ▸ (Looks.ld hx).andThen .now
 have LM:Looks (model prog w) h (mroOf (.ref D)) cd.mro:=(looks_clsIn X c.k).andThen .now
 rw[osa_eq,refuse_eq]
 refine wpAny_bind (wpAny_bind (LT.at (wpAny_bind (LM.at ?_))))
 rw[li _ c.mro]
 refine wpAny_pure (wpAny_bind (LT.at (wpAny_bind ((looks_findIn X c.na).at ?_))))
 refine wpAny_bind (wpAny_pure ?_)
 show wpAny _ _ (Builtin.ObjectAttr.storeInOwnDict (.ref a) (.ref D) (.str name tk) name v false) _ _ _
 unfold Builtin.ObjectAttr.storeInOwnDict
 refine wpAny_bind (wpAny_pure ?_)
 rw[if_neg (show ¬((Value.ref D == Value.type "module")=true) from fun z=>by cases eq_of_beq z)]
 exact wpAny_bind hq
theorem lx{tk:Tok}{Q:Fin→Shared→Prop}{dd:Addr}{ns:List Str}(hn:h.Ns1 dd mA)(hw:PySem.Within mA ns)(hz:ns.length≤1000)
  (hq:∀ h',h'.Ns1 dd (fun y=>if y=name then some v else mA y)→Heap.SameBut dd h h'→Q (.done (.ret .none)) ⟨h',g,d,t+1,os⟩) :
  wpAny (model prog w) A (Builtin.ObjectAttr.storeInDict dd (.str name tk) name v) Q E ⟨h,g,d,t,os⟩:=by
 unfold Builtin.ObjectAttr.storeInDict Builtin.ObjectAttr.newKeyGuard
 refine wpAny_bind (wpAny_pure (wpAny_bind (wpAny_nsSet1 hn fun h1 n1 s1=>?_)))
 obtain ⟨o1,es1,ep1,g1,d1,c1⟩:=n1.count (PySem.Within.cons name v hw)
 have z1:es1.size≤sizeLine:=Nat.le_trans c1 (by rw[length_cons,sizeLine_eq]; lia)
 refine wpAny_bind (wpAny_lookBehind g1 (by rw[d1]; exact pastItsLine_dict (Nat.le_succ_of_le z1)) ?_)
 exact wpAny_pure (hq h1 n1 s1)
theorem sJ{tk:Tok}{Q:Fin→Shared→Prop}(c:XSet K D name cd)(X:K.In h)(hx:h.get? a=some o)(hc:o.cls=.ref D)(hdt:o.data=.fields vs)(hd:o.dict=none)
  (hq:∀ h',h'.Ns1 h.objs.size (fun y=>if y=name then some v else none)→h'.get? a=some { o with dict:=some h.objs.size }→(∀ b u,b≠a→h.get? b=some u→h'.get? b=some u)→Q (.done (.ret .none)) ⟨h',g,d,t+1,os⟩) :
  wpAny (model prog w) A (Builtin.«object.__setattr__» ⟨[.ref a,.str name tk,v],[]⟩) Q E ⟨h,g,d,t,os⟩:=by
 refine mZ c X hx hc ?_
 have hx1:(h.push { cls:=.type "dict",data:=.dict #[] }).get? a=some o:=Heap.get?_push_of_some _ hx
 have hne:a≠h.objs.size:=Nat.ne_of_lt (Heap.lt_size hx)
 unfold instanceDict
 refine wpAny_bind (wpAny_loadPart_at hx ?_)
 rw[hc]
 refine wpAny_bind ((looks_clsIn X c.k).at ?_)
 rw[c.dct,hd,hdt]
 simp only[Bool.not_true,Bool.false_eq_true,if_false]
 rw[if_neg (by simp[typeHasDict])]
 refine wpAny_bind (wpAny_alloc' (wpAny_bind (wpAny_update' hx1 (wpAny_pure ?_))))
 have e1:((h.push { cls:=.type "dict",data:=.dict #[] }).update a fun u=>{ u with dict:=some h.objs.size }).get? h.objs.size=some { cls:=.type "dict",data:=.dict #[] } :=
  (Heap.get?_update_ne _ _ _ _ hne.symm).trans (Heap.get?_push_at rfl rfl)
 refine lx (Heap.Ns1.of_empty ⟨_,#[],_,e1,rfl,fun u hu=>absurd hu (by simp),fun _=>rfl⟩) PySem.Within.nil (by simp) fun h2 n2 s2=>hq h2 n2 ?_ fun b u hb e=>?_
 ·refine (s2.2 a hne).trans (Heap.get?_update_self _ hx1 ?_)
  rw[Obj.isFreed_of_fields (vs:=vs)]
  exact hdt
 ·exact (s2.2 b (Nat.ne_of_lt (Heap.lt_size e))).trans ((Heap.get?_update_ne _ _ _ _ hb).trans (Heap.get?_push_of_some _ e))
theorem uU{tk:Tok}{Q:Fin→Shared→Prop}{ns:List Str}(c:XSet K D name cd)(X:K.In h)(hx:h.get? a=some o)(hc:o.cls=.ref D)(hd:o.dict=some dx)(hn:h.Ns1 dx mA)(hw:PySem.Within mA ns)(hz:ns.length≤1000)
  (hq:∀ h',h'.Ns1 dx (fun y=>if y=name then some v else mA y)→Heap.SameBut dx h h'→Q (.done (.ret .none)) ⟨h',g,d,t+1,os⟩) :
  wpAny (model prog w) A (Builtin.«object.__setattr__» ⟨[.ref a,.str name tk,v],[]⟩) Q E ⟨h,g,d,t,os⟩:=by
 refine mZ c X hx hc ?_
 unfold instanceDict
 refine wpAny_bind (wpAny_loadPart_at hx ?_)
 rw[hc]
 refine wpAny_bind ((looks_clsIn X c.k).at ?_)
 rw[c.dct,hd]
 simp only[Bool.not_true,Bool.false_eq_true,if_false]
 exact wpAny_pure (lx hn hw hz hq)
theorem nC{Q:Unit→Shared→Prop}(c:XSet K D name cd)(X:K.In h)(hx:h.get? a=some o)(hc:o.cls=.ref D)
  (hq:∀(B:Around) (tk:Tok) (Q':Fin→Shared→Prop) (E':Value→Shared→Prop),(∀ s',Q () s'→Q' (.done (.ret .none)) s')→wpAny (model prog w) B (Builtin.«object.__setattr__» ⟨[.ref a,.str name tk,v],[]⟩) Q' E' ⟨h,g,d,t+1,os⟩) :
  wpAny (model prog w) A (setAttr (.ref a) name v) Q E ⟨h,g,d,t,os⟩:=by
 have f3:=PySem.F.store_ValueError.slot.bind (.ref a)
 have SF:=PySem.F.store_ValueError
 have LT:Looks (model prog w) h (typeOf (.ref a)) (.ref D):=hc ▸ (Looks.ld hx).andThen .now
 have LO:Looks (model prog w) h (isInstance (.ref a) (.type "object")) true:=LT.andThen (looks_mroIn X c.mo)
 unfold setAttr callSpecial? specialOf
 repeat (any_goals (first | assumption | (with_reducible refine wpAny_loadPart_at hx ?_; rw[hc]) | with_reducible refine (looks_findIn X c.sa).at ?_ | wp_step))
 refine codeAny_call_builtin SF.slot.plain SF.entry (@PySem.W.check_slot (model prog w) _ _ ⟨h,g,d,t+1,os⟩ "object.__setattr__" "object" "__setattr__" (.ref a) [.str name t,v] [] _ SF.kind SF.split LO (SF.args (.ref a) (.str name t) v) ?_)
 exact hq _ t _ _ fun s' q=>wpAny_pure (wpAny_pure q)
end
section
variable {prog:Program}{w:World}{A:Around}{E:Value→Shared→Prop}{h:Heap}{g:Array GenState}{d:Drawn}{t:Nat}{os:OsState}
variable {nm q:Str}{C N fI:Addr}{bs bm bmB:List Value}{hdct:Bool}{sn:List Str}{sub:List Value}{ab:Bool}{col:Option Bool}{dd:Option Addr}{k0 k1 k2 k3 k5:Option Value}{B newId initId:String}{mN:Str→Option Value}{rest:List Value}{oI:Obj}
abbrev fF(h:Heap)(C:Addr)(rest:List Value):Heap:=(h.push { cls:=.type "tuple",data:=.seq rest.toArray }).push { cls:=.ref C,data:=.fields #[.ref h.objs.size,.none,.none,.none,.bool false,.none] }
theorem uJ{Q:Fin→Shared→Prop}(F:ExcBaseFacts B newId initId bmB)(T:OwnTail h bmB bm)(hC:h.get? C=some (excClassObj nm q C N bs bm hdct sn sub ab col dd k0 k1 k2 k3 k5 newId))(hn:h.Ns N mN)(hi:mN "__init__" = some (.ref fI))
  (hf:h.get? fI=some oI) (hfc:oI.cls=.type "function") (hz:rest.length≤sizeLine)
  (hq:wpAny (model prog w) A (call (.ref fI) (.ref (h.objs.size+1)::rest)) (fun r s'=>r=.none∧Q (.done (.ret (.ref (h.objs.size+1)))) s') E ⟨fF h C rest,g,d,t,os⟩) :
  wpAny (model prog w) A (Builtin.«type.__call__» ⟨.ref C::rest,[]⟩) Q E ⟨h,g,d,t,os⟩:=by
 have up:∀ b o,h.get? b=some o→(fF h C rest).get? b=some o:=fun b o e=>Heap.get?_push_of_some _ (Heap.get?_push_of_some _ e)
 have C1:=up C _ hC
 have N1:(fF h C rest).Ns N mN:=hn.keeps up
 have T1:OwnTail (fF h C rest) bmB bm:=T.keeps up
 have X1:(fF h C rest).get? (h.objs.size+1)=some { cls:=.ref C,data:=.fields #[.ref h.objs.size,.none,.none,.none,.bool false,.none] }:=by heap_get
 have self:(Value.ref C::bm).contains (.ref C)=true:=by simp
 repeat (first | with_reducible refine wpAny_loadPart_at hC ?_ | with_reducible refine wpAny_madeBy_exc hC ?_ | wp_step)
 refine codeAny_call_builtin_code (Code.quiet_builtin _ F.quiet) (wpAny_check_new_subT F T hC (codeAny_exc_new_subT F T hC ?_ hz))
 show wpAny _ _ _ _ _ ⟨fF h C rest,g,d,t,os⟩
 unfold isInstance
 repeat (first | with_reducible refine wpAny_loadPart_at X1 ?_ | (with_reducible refine wpAny_isSubtype_exc C1 ?_; rw[self]) | wp_step)
 show wpAny _ _ (typeLookup (.ref C) _) _ _ _
 refine wpAny_typeLookup_tail C1 N1 T1 F.mroIs F.init.lookup ?_
 rw[hi]
 refine wpAny_holding (wpAny_bind ?_)
 unfold bindSpecial
 refine wpAny_bind (wpAny_typeOf (T := "function") ⟨oI,up fI _ hf,hfc⟩ ?_)
 rw[if_pos (by decide)]
 refine wpAny_pure (wpAny_bind (wpAny_mono hq (fun r s' hr=>?_) fun _ _ z=>z))
 obtain ⟨rfl,hQ⟩:=hr
 wp_walk
 exact hQ
theorem tN{Q:Value→Shared→Prop}(F:ExcBaseFacts B newId initId bmB)(T:OwnTail h bmB bm)(hC:h.get? C=some (excClassObj nm q C N bs bm hdct sn sub ab col dd k0 k1 k2 k3 k5 newId))(hn:h.Ns N mN)(hi:mN "__init__" = some (.ref fI))
  (hf:h.get? fI=some oI) (hfc:oI.cls=.type "function") (hz:rest.length≤sizeLine)
  (hq:wpAny (model prog w) (A.under (.builtin "type.__call__" ⟨.ref C::rest,[]⟩)) (call (.ref fI) (.ref (h.objs.size+1)::rest)) (fun r s'=>r=.none∧Q (.ref (h.objs.size+1)) s') E ⟨fF h C rest,g,d,t,os⟩) :
  wpAny (model prog w) A (call (.ref C) rest) Q E ⟨h,g,d,t,os⟩:=by
 have l1:=tc_lookup
 have l2:=tc_bind (.ref C)
 have tyC:(⟨h,g,d,t,os⟩:Shared).TypeIs (.ref C) "type" := ⟨_,hC,rfl⟩
 refine wpAny_call (codeAny_of_tree ?_)
 show wpAny _ _ (callAny (.ref C) _) _ _ _
 repeat (any_goals (first | assumption | with_reducible refine wpAny_loadPart_at hC ?_ | wp_step))
 exact ⟨rfl,codeAny_call_builtin_at (Code.quiet_builtin _ (by decide +kernel)) entry_typeCall (wpAny_check_type_call_sub hC (uJ F T hC hn hi hf hfc hz hq))⟩
end
def XD0(a D:Addr):Heap→Prop:=fun h=>∃ o vs,h.get? a=some o∧o.cls=.ref D∧o.data=.fields vs∧o.dict=none∧vs[1]? = some .none∧vs[2]? = some .none
def XD1(a D dx:Addr):Heap→Prop:=fun h=>∃ o vs,h.get? a=some o∧o.cls=.ref D∧o.data=.fields vs∧o.dict=some dx∧vs[1]? = some .none∧vs[2]? = some .none
def XDct(dx:Addr)(fs:List (Str×V)):Heap→Prop:=fun h=>∃ mA,h.Ns1 dx mA∧∀ f,RelO (fs.lookup f) (mA f)
section
variable {P:Program}{w:World}{H:Hp}{h:Heap}{a D dx:Addr}{fs:List (Str×V)}
theorem XD0.ok(x:XD0 a D h):ObjOk P w H h a (.ext (XD0 a D)):=⟨x,let ⟨o,_,e,_⟩:=x; ⟨o,e⟩,fun _ _ ⟨o,vs,e,r⟩ k=>⟨o,vs,k o e,r⟩⟩
theorem XD1.ok(x:XD1 a D dx h):ObjOk P w H h a (.ext (XD1 a D dx)):=⟨x,let ⟨o,_,e,_⟩:=x; ⟨o,e⟩,fun _ _ ⟨o,vs,e,r⟩ k=>⟨o,vs,k o e,r⟩⟩
theorem XDct.ok(x:XDct dx fs h):ObjOk P w H h dx (.ext (XDct dx fs)):=⟨x,let ⟨_,⟨o,_,_,e,_⟩,_⟩:=x; ⟨o,e⟩,fun _ _ ⟨mA,n,r⟩ k=>⟨mA,n.at k,r⟩⟩
end
section
variable {X:Cx}{pins:List (Addr×Obj)}{σ:St}{H:Hp}{s:Shared}{h':Heap}{x dx D:Addr}{φ:Heap→Prop}{ox od:HO}
theorem Inv.put2{t':Nat}(I:Inv X pins σ H s)(hx:H x=some (.ext φ))(hd:s.heap.objs.size≤dx)(k:∀ b u,b≠x→s.heap.get? b=some u→h'.get? b=some u)(n1:ObjOk X.prog X.w (upd (upd H dx od) x ox) h' x ox)
  (n2:ObjOk X.prog X.w (upd (upd H dx od) x ox) h' dx od):Inv X pins σ (upd (upd H dx od) x ox) { s with heap:=h',toks:=t' }:=by
 have hdn:H dx=none:=I.hok.fresh hd
 have hxd:x≠dx:=fun z=>by rw[z,hdn]at hx; cases hx
 have ne:∀ b o,s.heap.get? b=some o→b≠dx:=fun b o e=>Nat.ne_of_lt (Nat.lt_of_lt_of_le (Heap.lt_size e) hd)
 have nh:∀ b u,H b=some u→b≠dx:=fun b u e z=>by rw[z,hdn]at e; cases e
 have nx:∀ b,H b=none→b≠x:=fun b e z=>by rw[z,hx]at e; cases e
 have nt:∀ b u,H b=some u→(∀ ψ,u≠.ext ψ)→b≠x:=fun b u e n z=>by
  rw[z,hx]at e
  cases e
  exact n φ rfl
 obtain ⟨ux,hux⟩:=n1.isObj
 refine I.un ⟨fun b o e n _ _=>k b o (nx b n) e,fun b o e n _ _=>⟨o.slots,k b o (nx b n) e⟩,fun b o e n _=>?_,fun b o e _=>?_,fun b xs e=>?_,fun b o u e=>?_,fun b ps e=>⟨#[],?_⟩⟩ fun b u e=>?_
 ·rw[ag (nx b n),ag (ne b o e)]; exact n
 ·by_cases hb:b=x
  ·subst hb; exact ⟨ux,hux⟩
  ·exact ⟨o,k b o hb e⟩
 ·rw[ag (nt b _ e fun _ z=>nomatch z),ag (nh b _ e)]; exact e
 ·rw[ag (nt b _ e fun _ z=>nomatch z),ag (nh b _ e)]; exact e
 ·rw[ag (nt b _ e fun _ z=>nomatch z),ag (nh b _ e),e]; simp
 ·by_cases hb:b=x
  ·subst hb
   rw[ac]at e
   cases e
   exact n1
  ·by_cases hb2:b=dx
   ·subst hb2
    rw[ag hb,ac]at e
    cases e
    exact n2
   ·rw[ag hb,ag hb2]at e
    refine (I.hok b u e).stay (fun c v hc q=>k c v ?_ q) (fun c q=>?_) fun c xs q=>?_
    ·rintro rfl
     rcases hc with z | z
     ·exact hb z.symm
     ·rw[hx]at z; cases z
    ·rw[ag (nt c _ q fun _ z=>nomatch z),ag (nh c _ q)]; exact q
    ·rw[ag (nt c _ q fun _ z=>nomatch z),ag (nh c _ q)]; exact q
end
def xT(K:Frag)(ta tv:TE)(f:Str):TS:=fun D σ H=>tv σ H fun y H1=>ta σ H1 fun x H2=>∃ a C cd,x=.ref a∧XSet K C f cd ∧
 ((H2 a=some (.ext (XD0 a C))∧∀ dx,H2 dx=none→dx≠a→D.nx σ (upd (upd H2 dx (.ext (XDct dx [(f,y)]))) a (.ext (XD1 a C dx)))) ∨
  ∃ dx fs,H2 a=some (.ext (XD1 a C dx))∧H2 dx=some (.ext (XDct dx fs))∧fs.length≤900∧D.nx σ (upd H2 dx (.ext (XDct dx ((f,y)::fs)))))
theorem vb{v:V}{u:Value}(r:RelV v u):∀ id,u≠.builtin id:=fun id z=>by
 subst z
 cases v with
 | non=>cases r
 | bl b=>cases r
 | int i=>obtain ⟨_,z⟩:=r; cases z
 | str x=>obtain ⟨_,z⟩:=r; cases z
 | byt b=>obtain ⟨_,z⟩:=r; cases z
 | flt b=>obtain ⟨_,z⟩:=r; cases z
 | ref a=>cases r
 | ty n=>cases r
theorem fD{f g:Str}{y:V}{fs:List (Str×V)}:List.lookup g ((f,y)::fs)=if g=f then some y else fs.lookup g:=by
 rw[lookup_cons]
 by_cases z:g=f
 ·rw[if_pos z,show (g == f)=true by simpa using z]
 ·rw[if_neg z,show (g == f)=false by simpa using z]
section
variable {X:Cx}{o e value:Expr}{f:Str}{pos pos' tpos:Pos}{ta tv:TE}
theorem uR(ha:PE X o ta)(hv:PE X value tv)(hs:swapsWith value (some (.Attribute o f pos')) pos.line X.env=pure false):PS X (.Assign [.Attribute o f pos'] value pos) (xT X.K ta tv f):=by
 intro pins s σ H D I h
 refine plainObj_wpAny_Assign_Attribute (thn (hv pins s σ H _ I h) fun u s1 ⟨y,H1,I1,ry,q⟩=>thn (ha pins s1 σ H1 _ I1 q) fun ov s2 ⟨x,H2,I2,rx,a,C,cd,ex,c,q2⟩=>?_) hs
 subst ex
 obtain rfl:ov=Value.ref a:=rx
 obtain ⟨h2,g2,d2,t2,os2⟩:=s2
 rcases q2 with ⟨ea,q2⟩ | ⟨dx,fs,ea,ed,hl,q2⟩
 ·obtain ⟨⟨ob,vs,e1,e2,e3,e4,e5⟩,_⟩:=I2.hok a _ ea
  refine nC c I2.kIn e1 e2 fun B tk Q' E' hQ=>sJ c I2.kIn e1 e2 e3 e4 fun h' n' o' k'=>hQ _ ?_
  have hf:H2 h2.objs.size=none:=I2.hok.fresh (Nat.le_refl _)
  have hne:h2.objs.size≠a:=Nat.ne_of_gt (Heap.lt_size e1)
  refine ⟨σ,_,I2.put2 (t':=t2+1+1) (h':=h') (x:=a) (dx:=h2.objs.size) (od:=.ext (XDct h2.objs.size [(f,y)])) (ox:=.ext (XD1 a C h2.objs.size)) ea (Nat.le_refl _) k' (XD1.ok ⟨_,vs,o',e2,e3,rfl,e5⟩) (XDct.ok ⟨_,n',fun g=>?_⟩),q2 _ hf hne⟩
  rw[fD]
  by_cases z:g=f
  ·rw[if_pos z,if_pos z]; exact ry
  ·rw[if_neg z,if_neg z]; exact True.intro
 ·obtain ⟨⟨ob,vs,e1,e2,e3,e4,e5⟩,_⟩:=I2.hok a _ ea
  obtain ⟨⟨mA,nA,rA⟩,_⟩:=I2.hok dx _ ed
  have wi:PySem.Within mA (fs.map (·.1)):=fun g hg=>by
   cases q:fs.lookup g with
   | none =>
    have:=rA g
    rw[q]at this
    exact absurd (RelO.none_of this) hg
   | some v=>exact mem_map.mpr ⟨(g,v),PySem.mem_of_lookup q,rfl⟩
  refine nC c I2.kIn e1 e2 fun B tk Q' E' hQ=>uU c I2.kIn e1 e2 e4 nA wi (by rw[length_map]; lia) fun h' n' sb=>hQ _ ?_
  refine ⟨σ,_,I2.write (t':=t2+1+1) (h':=h') (x:=dx) (e:=dx) (o:=.ext (XDct dx ((f,y)::fs))) (by rw[ed]; exact True.intro) (.inl rfl) (fun b u hb e=>(sb.2 b hb).trans e) (let ⟨o',_,_,e',_⟩:=n'; ⟨o',e'⟩) (XDct.ok ⟨_,n',fun g=>?_⟩),q2⟩
  rw[fD]
  by_cases z:g=f
  ·rw[if_pos z,if_pos z]; exact ry
  ·rw[if_neg z,if_neg z]; exact rA g
end
theorem mv{K:Frag}{h:Heap}{N:Addr}{m:Str→Option Value}{n:Str}{v:Value}(X:K.In h)(G:h.Ns N m)(q:nsIn K N n=some (some v)):m n=some v:=by
 obtain ⟨ob,en,ep,gob,dob,_,fnd⟩:=G
 unfold nsIn at q
 split at q
 ·rename_i c0 d0 en0 k0 sl0 lk
  have at0:=X _ _ lk
  rw[gob]at at0
  cases at0
  cases dob
  split at q
  ·rename_i entry found
   cases q
   rw[← fnd]
   unfold nsFind findBy
   rw[← Array.find?_toList,found]
   rfl
  ·split at q <;> cases q
 ·cases q
def xIn(K:Frag)(C:Addr)(fI:Option Value):Bool:=match K.lookup C with
 | some ⟨.type "type",_,.cls cd,sl⟩=>(match cd.mro,sl.toList with
  | .ref C'::bm,[_,_,_,_,some (.builtin n),_]=>C' == C && n == "ValueError.__new__" && !cd.hasDel && tailIn K bmV bm && nsOkIn K cd.ns && nsIn K cd.ns "__init__" == some fI
  | _,_=>false)
 | _=>false
structure XObj(h:Heap)(C:Addr)(fI:Option Value):Prop where
 obj:∃ bm N nm q bs hdct sn sub ab col dd k0 k1 k2 k3 k5 mN,h.get? C=some (excClassObj nm q C N bs bm hdct sn sub ab col dd k0 k1 k2 k3 k5 "ValueError.__new__")∧h.Ns N mN∧mN "__init__" = fI∧OwnTail h bmV bm
theorem vh{K:Frag}{h:Heap}{C:Addr}{fI:Option Value}(X:K.In h)(z:xIn K C fI=true):XObj h C fI:=by
 unfold xIn at z
 split at z
 ·rename_i dct cld slt lk
  split at z
  ·rename_i C' tl a0 a1 a2 a3 nid a5 hmro hsl
   simp only[Bool.and_eq_true,beq_iff_eq,Bool.not_eq_true']at z
   obtain ⟨⟨⟨⟨⟨rfl,rfl⟩,hdel⟩,ht⟩,hok⟩,hin⟩:=z
   obtain ⟨nm,bs,mro,ns,qn,hd,sn,sub,ab,col,del⟩:=cld
   dsimp only at hmro hdel hok hin
   subst hmro hdel
   have es:slt = #[a0,a1,a2,a3,some (.builtin "ValueError.__new__"),a5]:=by
    obtain ⟨l⟩:=slt
    simp only at hsl
    rw[hsl]
   subst es
   have hN:h.Ns ns (h.nsMap ns):=.of_isNs (PySem.W.isNs_of_in X hok)
   refine ⟨tl,ns,nm,qn,bs,hd,sn,sub,ab,col,dct,a0,a1,a2,a3,a5,_,X _ _ lk,hN,?_,PySem.W.tail_of_in X ht⟩
   cases fI with
   | none=>exact PySem.W.ns_none_of X hN hin
   | some v=>exact mv X hN hin
  ·cases z
 ·cases z
def mP(K:Frag)(D:Addr):Bool:=findIn K (.ref D) "__getattribute__" == some (some (.builtin "BaseException.__getattribute__")) && findIn K (.ref D) "__getattr__" == some none &&
 findIn K (.ref D) "__class__" == some (some (.builtin "object.__class__")) && mroIn K D (.type "BaseException") == some true && mroIn K D (.type "object") == some true && (clsIn K D).isSome && typeIn K (.ref D) == some (.type "type")
theorem yn{K:Frag}{D:Addr}(h:mP K D=true):XCls K D:=by
 unfold mP at h
 simp only[Bool.and_eq_true,beq_iff_eq]at h
 obtain ⟨⟨⟨⟨⟨⟨h1,h2⟩,h3⟩,h4⟩,h5⟩,h6⟩,h7⟩:=h
 exact ⟨h1,h2,h3,h4,h5,h6⟩
theorem yp{K:Frag}{D:Addr}(h:mP K D=true):XHd K D:=by
 unfold mP at h
 simp only[Bool.and_eq_true,beq_iff_eq]at h
 obtain ⟨⟨⟨⟨⟨⟨h1,h2⟩,h3⟩,h4⟩,h5⟩,h6⟩,h7⟩:=h
 exact ⟨h6,h7,h4⟩
def uQ(K:Frag)(D:Addr)(name:Str):Bool:=((clsIn K D).any fun cd=>cd.hasDict && jL cd.mro) && mroIn K D (.type "object") == some true &&
 findIn K (.ref D) "__setattr__" == some (some (.builtin "object.__setattr__")) && findIn K (.ref D) name == some none
theorem yN{K:Frag}{D:Addr}{name:Str}(h:uQ K D name=true):∃ cd,XSet K D name cd:=by
 unfold uQ at h
 simp only[Bool.and_eq_true,beq_iff_eq]at h
 obtain ⟨⟨⟨h1,h2⟩,h3⟩,h4⟩:=h
 obtain ⟨cd,e,e2⟩:=any_some h1
 rw[Bool.and_eq_true]at e2
 exact ⟨cd,e,e2.1,e2.2,h2,h3,h4⟩
section
variable {P:Program}{w:World}{K:Frag}{mg:Str→Option Value}{base:Heap}{N:List Str}{qual:Str}{scope:Scope}{f:Addr}{cdv:Value}{A:Around}{outer:List Env}{s0:Shared}{H0:Hp}{E:XK}
end
def yZ(C:Addr)(sp:Sp)(t:TA):TE:=fun σ H Q=>t σ H fun vs H1=>∀ a,H1 a=none→sp (.ref a::vs) (upd H1 a (.ext (XD0 a C))) (fun v H2=>v=.non∧Q (.ref a) H2) E0
section
variable {X:Cx}{k:Nat}{f C:Addr}{fd:FuncData}{ps:List Str}{sp:Sp}{x:Str}{p pos:Pos}{e:Expr}{es:List Expr}{t:TA}
theorem wI(z:xIn X.K C (some (.ref f))=true)(kp:keepIn X.K (.ref C)=true)(fn:isFn X.K (.ref f)=true)(F:FnOk X.prog X.w X.K X.mg X.base CX0 k f fd ps sp)(hr:Room (k+1) X.A)(hg:Gl X x)(hm:X.mg x=some (.ref C))
  (hb:Binds X.K fd ps []) (ha:PA X (e::es) t) (hz:∀ vs H Q E,sp vs H Q E→vs.length≤100) (hdb:(x == ("__debug__" : Str))=false:=by decide) (he:starEach (e::es) X.env=(false,eval e X.env)::starEach es X.env:=by rfl)
  (hpl:(backTo pos (starEach es X.env)).any (·.1)=false:=by rfl):PE X (.Call (.Name x p) (e::es) [] pos) (yZ C sp t):=by
 intro pins s σ H Q I h
 refine wpAny_Call_Name_kw (eZ I hg hm ?_ hdb)
 refine callWith_K (h₀:=X.base) I.ok.mod.kin kp (thn (ha pos pins s σ H _ I h) fun us s1 ⟨vs,H1,I1,r,q⟩=>⟨I1.kIn,?_⟩) he hpl
 obtain ⟨bm,N,nm,qn,bs,hdct,sn,sub,ab,col,dd,k0,k1,k2,k3,k5,mN,hC,hN,hni,T⟩:=(vh I1.kIn z).obj
 have q1:=q (s1.heap.objs.size+1) (I1.hok.fresh (Nat.le_succ _))
 have hlen:us.length≤sizeLine:=by
  have:=hz _ _ _ _ q1
  rw[length_cons]at this
  rw[← r.length]
  exact Nat.le_trans (Nat.le_of_succ_le this) (by decide)
 have up:∀ b o,s1.heap.get? b=some o→(fF s1.heap C us).get? b=some o:=fun b o e=>Heap.get?_push_of_some _ (Heap.get?_push_of_some _ e)
 have e2:(fF s1.heap C us).get? (s1.heap.objs.size+1)=some { cls:=.ref C,data:=.fields #[.ref s1.heap.objs.size,.none,.none,.none,.bool false,.none] }:=by heap_get
 have I2:=I1.laid (t':=s1.toks) (h':=fF s1.heap C us) (a:=s1.heap.objs.size+1) (o:=.ext (XD0 (s1.heap.objs.size+1) C)) up (Nat.le_succ _) (XD0.ok ⟨_,_,e2,rfl,rfl,rfl,rfl,rfl⟩)
 obtain ⟨oI,hfI,hfc⟩:∃ oI,s1.heap.get? f=some oI∧oI.cls=.type "function" := by
  have:=beq_iff_eq.mp fn
  unfold typeIn at this
  obtain ⟨ob,lk,hcl⟩:=Option.map_eq_some_iff.mp this
  exact ⟨ob,I1.kIn _ _ lk,hcl⟩
 have r2:Vals (V.ref (s1.heap.objs.size+1)::vs) (Value.ref (s1.heap.objs.size+1)::us):=.cons rfl r
 have hl2:(Value.ref (s1.heap.objs.size+1)::us).length=ps.length:=by rw[← r2.length]; exact F.len _ _ _ _ q1
 have b2:=hb { s1 with heap:=fF s1.heap C us,toks:=s1.toks } (Value.ref (s1.heap.objs.size+1)::us) I2.kIn (by rw[append_nil]; exact hl2)
 rw[append_nil]at b2
 have goal:wpAny (model X.prog X.w) X.A (call (.ref C) us) (EP X pins σ Q) X.xe s1:=by
  obtain ⟨h1,g1,d1,t1,os1⟩:=s1
  refine tN PySem.F.excBase_ValueError T hC hN hni hfI hfc hlen ?_
  refine wpAny_call (codeAny_mono (F.run _ X.stack _ _ ⟨Value.ref (h1.objs.size+1)::us,[]⟩ (Value.ref (h1.objs.size+1)::us) _ _ E0 (hr.make C us []) (I2.env0.make C us []) b2 r2 q1) fun r s' hq=>?_)
  cases r with
  | error e=>exact False.elim hq
  | ok fl =>
   cases fl with
   | ret u =>
    obtain ⟨v,H',I3,rv,ev,q3⟩:=I2.after hq
    subst ev
    exact ⟨rv,⟨V.ref (h1.objs.size+1),H',I3,rfl,q3⟩⟩
   | next=>exact False.elim hq
   | brk=>exact False.elim hq
   | cont=>exact False.elim hq
 exact goal
end
theorem jX:∀{xs:List V}{us:List Value},xs.length=us.length→(∀(i:Nat) x u,xs[i]? = some x→us[i]? = some u→RelV x u)→Vals xs us
 | [],[],_,_=>.nil
 | x::xs,u::us,h,r=>.cons (r 0 x u rfl rfl) (jX (by simpa using h) fun i y w h1 h2=>r (i+1) y w (by simpa using h1) (by simpa using h2))
 | [],_::_,h,_=>by cases h
 | _::_,[],h,_=>by cases h
section
variable {X:Cx}
theorem eQ:CallR X (.type "range") (fun xs H Q=>∃ b,xs=[.int b]∧∀ p,H p=none→Q (.ref p) (upd H p (.rng 0 b))):=by
 intro pins s σ H xs us Q I r h
 obtain ⟨b,rfl,q⟩:=h
 obtain ⟨u,rfl,⟨t,rfl⟩⟩:=ez r
 refine call_range_1 ?_
 exact ⟨.ref s.heap.objs.size,_,I.laid (o:=.rng 0 b) (fun b o e=>Heap.get?_push_of_some _ e) (Nat.le_refl _) ⟨_,_,_,Heap.get?_push_size _ rfl⟩,rfl,q _ (I.hok.fresh (Nat.le_refl _))⟩
theorem lL(hc:X.calm=true):CallR X (.type "list") (fun xs H Q=>∃(p:Addr),xs=[.ref p]∧H p=some (.rng 0 24)∧∀ l,H l=none→Q (.ref l) (upd H l (.lst ((List.range 24).map fun (i:Nat)=>V.int (i:Int))))):=by
 intro pins s σ H xs us Q I r h
 obtain ⟨p,rfl,e,q⟩:=h
 obtain ⟨u,rfl,ru⟩:=ez r
 cases ru
 obtain ⟨t,t2,t3,ho⟩:=(show ObjOk X.prog X.w H s.heap p (.rng 0 24) from I.hok p _ e)
 refine call_list_range (n:=24) (I.ok.hd hc) ho (by decide) (by decide) (by decide) fun h' tk acc c hk hS hI=>?_
 refine ⟨.ref s.heap.objs.size,_,I.laid (t':=tk) (o:=.lst ((List.range 24).map fun (i:Nat)=>V.int (i:Int))) hk (Nat.le_refl _) ?_,rfl,q _ (I.hok.fresh (Nat.le_refl _))⟩
 obtain ⟨z1,z2⟩:=hI
 refine ⟨by rw[length_map,length_range,sizeLine_eq]; lia,acc.toList,c,jX (by rw[length_map,length_range]; simpa using z1.symm) fun i x u hx hu=>?_,hS⟩
 rw[List.getElem?_map]at hx
 have hi:i<24:=by
  by_cases hi:i<24
  ·exact hi
  ·rw[List.getElem?_eq_none (by rw[length_range]; lia)]at hx
   cases hx
 rw[List.getElem?_range hi]at hx
 cases hx
 obtain ⟨tt,hv⟩:=z2 i u (by simpa using hu)
 refine (show ∃ t',u=Value.int (i:Int) t' from ⟨tt,?_⟩)
 rw[hv]
 congr 1
 lia
end
section
variable {M:Model}{A:Around}{E:Value→Shared→Prop}{s:Shared}{env:Env}{K:Frag}{D:Addr}
theorem tJ{x:Sem Value}{Q:Flow→Shared→Prop}(c:XCls K D)(hd:XHd K D)(hh:A.handled=none)
  (h:wpAny M A x (fun v s₁=>∃ e ob vs,v=.ref e∧K.In s₁.heap∧s₁.heap.get? e=some ob∧ob.cls=.ref D∧ob.data=.fields vs∧vs[1]? = some .none∧E (.ref e) s₁) E s):wpAny M A (raiseStmt env (some x) none) Q E s:=by
 unfold raiseStmt
 refine wpAny_bind (wpAny_mono h (fun v s₁ h₁=>?_) fun _ _ z=>z)
 obtain ⟨e,ob,vs,rfl,X,ge,gc,gd,g1,hE⟩:=h₁
 obtain ⟨hp,g,d,tk,os⟩:=s₁
 repeat (first | with_reducible refine (looks_typeIn X hd.ty).at ?_ | (with_reducible refine wpAny_loadPart_at ge ?_; first | rw[gc] | rw[gd]) | with_reducible refine (looks_mroIn X c.mb).at ?_ | with_reducible refine wpAny_field ge gd g1 ?_ | wp_step)
 exact wpAny_raiseNew_none hh hE
end
def Fx(h:Heap)(e:Addr)(cls:Value)(dct:Option Addr)(fl:Value)(T:Addr):Prop :=
 ∃ ob fs oT ts,h.get? e=some ob∧ob.cls=cls∧ob.dict=dct∧ob.data=.fields fs∧fs[1]? = some (.ref T)∧T≠e∧h.get? T=some oT∧oT.data=.fields ts∧ts[3]? = some fl
theorem iP(f:Array Value→Array Value)(o:Obj):(Obj.mapFields f o).dict=o.dict:=by
 obtain ⟨c,d,dt,sl⟩:=o
 cases dt <;> rfl
theorem qC(f:Array Value→Array Value)(o:Obj):(Obj.mapFields f o).cls=o.cls:=Obj.cls_mapFields _ _
section
variable {M:Model}{A:Around}{E:Value→Shared→Prop}{s:Shared}{base:Heap}{env:Env}{outer:List Env}{L e:Addr}{ob:Obj}{fs:Array Value}{head:Value}{more:Bool}
theorem kO{Q:Unit→Shared→Prop}(fr:A.frames=some (env::outer))(ff:s.heap.FunFrames base (env::outer))(fL:env.frame=some L)(ge:s.heap.get? e=some ob)(de:ob.data=.fields fs)(sz:1<fs.size)
  (h:∀ h' T,Fx h' e ob.cls ob.dict (rawInt L) T→s.heap.get? T=none→(∀ b o,b≠e→b ∉ frs (env::outer)→s.heap.get? b=some o→h'.get? b=some o) →
   (∀ b o,b≠e→s.heap.get? b=some o→∃ sl,h'.get? b=some { o with slots:=sl })→Q () { s with heap:=h' }) :
  wpAny M A (do let a ← frameOf env; let pl ← entryPlaceOf L more; let b ← EntryCells.newEntry head a .none (rawInt L) .none pl; setField (.ref e) 1 b) Q E s:=by
 have out:e ∉ frs (env::outer):=fun hm=>by
  obtain ⟨_,o,go,nf⟩:=ff.mem hm
  rw[ge]at go
  cases go
  exact nf fs de
 refine wpAny_bind (wpAny_frameOf_fun fr ff fL fun h1 so=>?_)
 refine wpAny_bind (wpAny_entryPlaceOf fun pl isP=>?_)
 unfold EntryCells.newEntry newFields
 refine wpAny_bind (wpAny_newObj_type ?_ (isP.sizeOk5 _ _ _ _ _))
 have e1:h1.get? e=some ob:=(so.2.1 e out).trans ge
 have e2:=Heap.get?_push_of_some (h:=h1) { cls:=.type "traceback",dict:=none,data:=.fields ([head,.ref L,.none,rawInt L,.none]++(if pl.isEmpty then List.replicate 6 Value.none else pl)).toArray } e1
 have nT:h1.objs.size≠e:=Nat.ne_of_gt (Heap.lt_size e1)
 have dm:=Obj.data_mapFields de (·.setIfInBounds 1 (Value.ref h1.objs.size))
 have e3:=Heap.get?_update_self (Obj.mapFields (·.setIfInBounds 1 (Value.ref h1.objs.size))) e2 (Obj.isFreed_of_fields dm)
 have oth:∀ b o,b≠e→h1.get? b=some o→((h1.push { cls:=.type "traceback",dict:=none,data:=.fields ([head,.ref L,.none,rawInt L,.none]++(if pl.isEmpty then List.replicate 6 Value.none else pl)).toArray }).update e (Obj.mapFields (·.setIfInBounds 1 (Value.ref h1.objs.size)))).get? b=some o :=
  fun b o nb gb=>(Heap.get?_update_other _ _ (Ne.symm nb)).trans (Heap.get?_push_of_some _ gb)
 refine wpAny_setField e2 de sz (h _ h1.objs.size ⟨_,_,_,_,e3,qC _ _,iP _ _,dm,by simp[sz],nT,(Heap.get?_update_other _ _ (Ne.symm nT)).trans (Heap.get?_push_size _ rfl),rfl,?_⟩ ?_ (fun b o nb nf gb=>oth b o nb ((so.2.1 b nf).trans gb)) fun b o nb gb=>?_)
 ·simp
 ·have:s.heap.objs.size=h1.objs.size:=so.1.symm
  rw[← this]
  exact Heap.get?_none_of_le (Nat.le_refl _)
 ·obtain ⟨sl,g1⟩:=so.2.2 b o gb
  exact ⟨sl,oth b _ nb g1⟩
end
section
variable {M:Model}{A:Around}{E:Value→Shared→Prop}{s:Shared}{base:Heap}{env:Env}{outer:List Env}{L e T:Addr}{ob:Obj}{fs:Array Value}{cls fl:Value}{dct:Option Addr}
def KeptBut(xs fr:List Addr)(h h':Heap):Prop :=
 (∀ b o,b ∉ xs→b ∉ fr→h.get? b=some o→h'.get? b=some o)∧∀ b o,b ∉ xs→h.get? b=some o→∃ sl,h'.get? b=some { o with slots:=sl }
theorem KeptBut.trans{xs ys fr:List Addr}{h h1 h2:Heap}(a:KeptBut xs fr h h1)(b:KeptBut ys fr h1 h2):KeptBut (xs++ys) fr h h2 :=
 ⟨fun c o n f g=>b.1 c o (fun z=>n (mem_append_right _ z)) f (a.1 c o (fun z=>n (mem_append_left _ z)) f g),fun c o n g=>by
  obtain ⟨s1,g1⟩:=a.2 c o (fun z=>n (mem_append_left _ z)) g
  obtain ⟨s2,g2⟩:=b.2 c _ (fun z=>n (mem_append_right _ z)) g1
  exact ⟨s2,g2⟩⟩
theorem qW{Q:Unit→Shared→Prop}(fr:A.frames=some (env::outer))(ff:s.heap.FunFrames base (env::outer))(fL:env.frame=some L)(ge:s.heap.get? e=some ob)(de:ob.data=.fields fs)(f1:fs[1]? = some .none)
  (h:∀ h' T,Fx h' e ob.cls ob.dict (rawInt L) T→s.heap.get? T=none→KeptBut [e] (frs (env::outer)) s.heap h'→Q () { s with heap:=h' }):wpAny M A (noteFrame (.ref e) env) Q E s:=by
 unfold noteFrame
 simp only[fL]
 refine wpAny_bind (wpAny_field ge de f1 ?_)
 rw[if_neg (by decide)]
 exact kO fr ff fL ge de (Array.getElem?_eq_some_iff.mp f1).1 fun h' T x nT k1 k2=>h h' T x nT ⟨fun b o n f g=>k1 b o (by simpa using n) f g,fun b o n g=>k2 b o (by simpa using n) g⟩
theorem m7{Q:Unit→Shared→Prop}(fr:A.frames=some (env::outer))(ff:s.heap.FunFrames base (env::outer))(fL:env.frame=some L)(x:Fx s.heap e cls dct .none T)
  (h:∀ h' T',Fx h' e cls dct (rawInt L) T'→s.heap.get? T'=none→KeptBut [T,e] (frs (env::outer)) s.heap h'→Q () { s with heap:=h' }):wpAny M A (noteFrame (.ref e) env) Q E s:=by
 obtain ⟨ob,fs,oT,ts,ge,rfl,rfl,de,f1,nT,gT,dT,t3⟩:=x
 unfold noteFrame
 simp only[fL]
 refine wpAny_bind (wpAny_field ge de f1 ?_)
 rw[if_pos (show (Value.ref T != Value.none)=true from by simp)]
 refine wpAny_bind (wpAny_field gT dT t3 ?_)
 rw[if_neg (show ¬((Value.none == rawInt L)=true) from by simp[rawInt])]
 refine wpAny_bind (wpAny_setField gT dT (Array.getElem?_eq_some_iff.mp t3).1 ?_)
 have oth:∀ b,b≠T→(s.heap.update T (Obj.mapFields (·.setIfInBounds 3 Value.none))).get? b=s.heap.get? b:=fun b nb=>Heap.get?_update_other _ _ (Ne.symm nb)
 have nrec:∀ b o,s.heap.get? b=some o→(∀ vs,o.data≠.fields vs)→b≠T:=fun b o gb nf z=>by
  rw[z,gT]at gb
  cases gb
  exact nf ts dT
 have gT':=Heap.get?_update_self (Obj.mapFields (·.setIfInBounds 3 Value.none)) gT (Obj.isFreed_of_fields (Obj.data_mapFields dT _))
 refine kO fr (ff.of_keeps fun b o gb nf=>⟨o,(oth b (nrec b o gb nf)).trans gb,rfl⟩) fL ((oth e nT.symm).trans ge) de (Array.getElem?_eq_some_iff.mp f1).1 fun h' T' x' nT' k1 k2=>h h' T' x' ?_ ⟨fun b o n f g=>?_,fun b o n g=>?_⟩
 ·cases q:s.heap.get? T' with
  | none=>rfl
  | some o =>
   by_cases z:T'=T
   ·rw[z,gT']at nT'
    cases nT'
   ·have nT'':=nT'
    rw[oth T' z,q]at nT''
    cases nT''
 ·have n1:b≠T:=fun z=>n (by rw[z]; exact mem_cons_self)
  have n2:b≠e:=fun z=>n (by rw[z]; simp)
  exact k1 b o n2 f ((oth b n1).trans g)
 ·have n1:b≠T:=fun z=>n (by rw[z]; exact mem_cons_self)
  have n2:b≠e:=fun z=>n (by rw[z]; simp)
  exact k2 b o n2 ((oth b n1).trans g)
theorem fH{Q:Unit→Shared→Prop}{fr:List Addr}(x:Fx s.heap e cls dct fl T)(h:∀ h',Fx h' e cls dct .none T→KeptBut [T] fr s.heap h'→Q () { s with heap:=h' }):wpAny M A (setFlight (.ref e) none) Q E s:=by
 obtain ⟨ob,fs,oT,ts,ge,rfl,rfl,de,f1,nT,gT,dT,t3⟩:=x
 have z3:3<ts.size:=(Array.getElem?_eq_some_iff.mp t3).1
 have oth:∀ b,b≠T→(s.heap.update T (Obj.mapFields (·.setIfInBounds 3 ((none:Option Addr).elim Value.none fun f=>rawInt f)))).get? b=s.heap.get? b:=fun b nb=>Heap.get?_update_other _ _ (Ne.symm nb)
 unfold setFlight
 refine wpAny_bind (wpAny_field ge de f1 ?_)
 rw[if_pos (show (Value.ref T != Value.none)=true from by simp)]
 refine wpAny_setField gT dT z3 (h _ ⟨ob,fs,_,_,(oth e nT.symm).trans ge,rfl,rfl,de,f1,nT,Heap.get?_update_self _ gT (Obj.isFreed_of_fields (Obj.data_mapFields dT _)),Obj.data_mapFields dT _,by simp[z3]⟩ ⟨fun b o n _ g=>?_,fun b o n g=>?_⟩)
 ·exact (oth b (by simpa using n)).trans g
 ·exact ⟨o.slots,(oth b (by simpa using n)).trans g⟩
theorem sP{Q:Unit→Shared→Prop}(fr:A.frames=some (env::outer))(ff:s.heap.FunFrames base (env::outer))(fL:env.frame=some L)(x:Fx s.heap e cls dct .none T)
  (h:∀ h' T',Fx h' e cls dct .none T'→s.heap.get? T'=none→KeptBut [T,e,T'] (frs (env::outer)) s.heap h'→Q () { s with heap:=h' }):wpAny M A (leaving env (.ref e)) Q E s:=by
 unfold leaving
 refine wpAny_bind (m7 fr ff fL x fun h1 T1 x1 n1 k1=>fH (s:={ s with heap:=h1 }) x1 fun h2 x2 k2=>h h2 T1 x2 n1 (k1.trans k2))
theorem oJ{Q:Unit→Shared→Prop}(fr:A.frames=some (env::outer))(ff:s.heap.FunFrames base (env::outer))(fL:env.frame=some L)(ge:s.heap.get? e=some ob)(de:ob.data=.fields fs)(f1:fs[1]? = some .none)
  (h:∀ h' T',Fx h' e ob.cls ob.dict .none T'→s.heap.get? T'=none→KeptBut [e,T'] (frs (env::outer)) s.heap h'→Q () { s with heap:=h' }):wpAny M A (leaving env (.ref e)) Q E s:=by
 unfold leaving
 refine wpAny_bind (qW fr ff fL ge de f1 fun h1 T1 x1 n1 k1=>fH (s:={ s with heap:=h1 }) x1 fun h2 x2 k2=>h h2 T1 x2 n1 (k1.trans k2))
end
structure XG(P:Program)(w:World)(outer:List Env)(H:Hp)(s:Shared)(x D:Addr)(dct:Option Addr)(T:Addr)(H':Hp)(s':Shared):Prop where
 os:s'.os=s.os
 bare:AllBare s'.gens
 un:Un (frs outer) [] H H' s.heap s'.heap
 hok:HOk P w H' s'.heap
 fx:Fx s'.heap x (.ref D) dct .none T
 nx:s.heap.get? x=none
 nT:s.heap.get? T=none
 ux:H' x=none
 uT:H' T=none
def CXG(P:Program)(w:World):CXT:=fun outer H s E e s'=>∃ x D dct T H',e=.ref x∧XG P w outer H s x D dct T H' s'∧E (.ref D) dct H'
theorem cQ{fs:List Addr}{H H':Hp}{h h':Heap}{b:Addr}(u:Un fs [] H H' h h')(n:h'.get? b=none):h.get? b=none:=by
 cases q:h.get? b with
 | none=>rfl
 | some o =>
  obtain ⟨o',e⟩:=u.there b o q (by simp)
  rw[n]at e
  cases e
section
variable {P:Program}{w:World}{K:Frag}{mg:Str→Option Value}{base:Heap}{N:List Str}{qual:Str}{scope:Scope}{f:Addr}{cdv:Value}{A:Around}{outer:List Env}{s0:Shared}{H0:Hp}{E:XK}
abbrev cxG(P:Program)(w:World)(K:Frag)(mg:Str→Option Value)(base:Heap)(N:List Str)(qual:Str)(scope:Scope)(f:Addr)(cdv:Value)(A:Around)(outer:List Env)(s0:Shared)(H0:Hp)(E:XK):Cx :=
 eK (CXG P w) P w K mg base N qual scope f cdv A outer s0 H0 E
theorem oj{X:Cx}{pins:List (Addr×Obj)}{σ:St}{H':Hp}{s':Shared}{h2:Heap}{x D T:Addr}{dct:Option Addr}{xs:List Addr}(J:Inv X pins σ H' s')(hex:X.ex=[])
  (k:KeptBut xs (frs X.stack) s'.heap h2) (hxs:∀ b∈xs,X.s₀.heap.get? b=none∧H' b=none∧b ∉ frs X.outer) (fx:Fx h2 x (.ref D) dct .none T) (mx:x∈xs) (mT:T∈xs) :
  XG X.prog X.w X.outer X.H₀ X.s₀ x D dct T H' { s' with heap:=h2 }:=by
 have jb:Un (frs X.outer) [] X.H₀ H' X.s₀.heap s'.heap:=by
  have:=J.base
  rw[hex]at this
  exact this
 refine ⟨J.os,J.bare,nW jb (fun b o h0 hf e=>k.1 b o (fun z=>?_) (um J h0 hf) e) (fun b o hf e=>k.2 b o (fun z=>(hxs b z).2.2 hf) e),iU J.hok (fun b o u hu e=>k.1 b o (fun z=>?_) (uB J hu) e),fx,(hxs x mx).1,(hxs T mT).1,(hxs x mx).2.1,(hxs T mT).2.1⟩
 ·obtain ⟨o0,e0⟩:=h0
  rw[(hxs b z).1]at e0
  cases e0
 ·rw[(hxs b z).2.1]at hu
  cases hu
theorem iC{X:Cx}{pins:List (Addr×Obj)}{σ:St}{H:Hp}{s:Shared}(I:Inv X pins σ H s){b:Addr}(h:s.heap.get? b=none):b ∉ frs X.outer:=fun z=>by
 obtain ⟨_,o,e,_⟩:=I.funs.mem z
 rw[h]at e
 cases e
theorem xV:fG (CXG P w) (cxG P w K mg base N qual scope f cdv A outer s0 H0 E) E:=by
 intro pins σ H s e s' I hx
 obtain ⟨x,D,dct,T,H',rfl,G,q⟩:=hx
 have J:Inv (cxG P w K mg base N qual scope f cdv A outer s0 H0 E) pins σ H' s':=I.call' (ch:=[]) G.os G.un G.hok G.bare (by simp)
 have ib:Un (frs outer) [] H0 H s0.heap s.heap:=I.base
 have jb:Un (frs outer) [] H0 H' s0.heap s'.heap:=J.base
 show wpAny _ _ (leaving _ (.ref x)) _ _ s'
 refine sP I.ok.frames J.stack rfl G.fx fun h2 T2 x2 n2 k=>?_
 refine ⟨x,D,dct,T2,H',rfl,oj J rfl k (fun b hb=>?_) x2 (by simp) (by simp),q⟩
 have hb':b=T∨b=x∨b=T2:=by simpa using hb
 rcases hb' with rfl | rfl | rfl
 ·exact ⟨cQ ib G.nT,G.uT,iC I G.nT⟩
 ·exact ⟨cQ ib G.nx,G.ux,iC I G.nx⟩
 ·refine ⟨cQ jb n2,?_,iC J n2⟩
  cases z:H' b with
  | none=>rfl
  | some u =>
   obtain ⟨o,e⟩:=(J.hok b u z).isObj
   rw[n2]at e
   cases e
end
section
variable {P:Program}{w:World}{K:Frag}{mg:Str→Option Value}{base:Heap}
theorem Fun.okG{x qual:Str}{st:Stmt}{f:Addr}{fd:FuncData}{N ps:List Str}{k:Nat}{sp:Sp}(F:Fun K x qual st f fd)(S:FnScope N ps (ad st))(len:∀ vs H Q E,sp vs H Q E→vs.length=ps.length)
  (hbody:∀(cdv:Value) (A:Around) (outer:List Env) (s:Shared) (H:Hp) (vs:List V) (Q:VK) (E:XK),Room k (A.deeper (envOfC qual (ad st) s.heap.objs.size f cdv))→sp vs H Q E →
   ∃ t,PSs (cxG P w K mg base N qual (ad st) f cdv A outer s H E) (ah st) t∧t { nx:=fun _ H'=>Q .non H',rt:=Q } (start N vs) H):FnOk P w K mg base (CXG P w) (k+1) f fd ps sp:=by
 obtain ⟨oc,od,kV,doc,pm,an,cdv,ct,osl,rfl,lk,hcd⟩:=F.ex
 exact vA lk hcd S len fun A outer s H vs Q E hr hsp=>hbody cdv A outer s H vs Q E hr hsp
end
def untr(H:Hp)(x:Addr):Hp:=fun b=>if b=x then none else H b
theorem aD{H:Hp}{x b:Addr}(h:b≠x):untr H x b=H b:=by unfold untr; rw[if_neg h]
theorem cy{H:Hp}{x:Addr}:untr H x x=none:=by unfold untr; rw[if_pos rfl]
def XU(a D:Addr)(dct:Option Addr):Heap→Prop:=fun h=>∃ o vs,h.get? a=some o∧o.cls=.ref D∧o.data=.fields vs∧o.dict=dct∧vs[1]? = some .none∧vs[2]? = some .none
theorem Inv.untr{X:Cx}{pins:List (Addr×Obj)}{σ:St}{H:Hp}{s:Shared}{x:Addr}{φ:Heap→Prop}(I:Inv X pins σ H s)(hx:H x=some (.ext φ)):Inv X pins σ (untr H x) s:=by
 have nt:∀ b u,H b=some u→(∀ ψ,u≠.ext ψ)→b≠x:=fun b u e n z=>by
  rw[z,hx]at e
  cases e
  exact n φ rfl
 have fr:∀ b,H b=none→L2.untr H x b=none:=fun b e=>by
  by_cases z:b=x
  ·rw[z]; exact cy
  ·rw[aD z]; exact e
 have hok:HOk X.prog X.w (L2.untr H x) s.heap:=fun b u e=>by
  by_cases z:b=x
  ·rw[z,cy]at e
   cases e
  ·rw[aD z]at e
   refine (I.hok b u e).stay (fun _ _ _ q=>q) (fun c q=>?_) fun c xs q=>?_
   ·rw[aD (nt c _ q fun _ z=>nomatch z)]; exact q
   ·rw[aD (nt c _ q fun _ z=>nomatch z)]; exact q
 exact I.un (t':=s.toks) (h':=s.heap) ⟨fun b o e _ _ _=>e,fun b o e _ _ _=>⟨o.slots,e⟩,fun b o e n _=>fr b n,fun b o e _=>⟨o,e⟩,fun b xs e=>by rw[aD (nt b _ e fun _ z=>nomatch z)]; exact e,
  fun b o u e=>by rw[aD (nt b _ e fun _ z=>nomatch z)]; exact e,fun b ps e=>⟨#[],by rw[aD (nt b _ e fun _ z=>nomatch z),e]; simp⟩⟩ hok
section
variable {P:Program}{w:World}{K:Frag}{mg:Str→Option Value}{base:Heap}{N:List Str}{qual:Str}{scope:Scope}{f:Addr}{cdv:Value}{A:Around}{outer:List Env}{s0:Shared}{H0:Hp}{E:XK}
def uG(K:Frag)(H0:Hp)(E:XK)(D:Addr)(te:TE):TS:=fun _ σ H=>te σ H fun v H1=>∃ x dct φ,v=.ref x∧H1 x=some (.ext φ)∧(∀ h,φ h→XU x D dct h)∧H0 x=none∧E (.ref D) dct (untr H1 x)
theorem o9{ex:Expr}{te:TE}{D:Addr}{pos:Pos}(c:XCls K D)(hd:XHd K D)(he:PE (cxG P w K mg base N qual scope f cdv A outer s0 H0 E) ex te) :
  PS (cxG P w K mg base N qual scope f cdv A outer s0 H0 E) (.Raise (some ex) none pos) (uG K H0 E D te):=by
 intro pins s σ H DE I h
 rw[arm_exec_Raise]
 refine wpAny_bind (wpAny_standAt ?_)
 show wpAny _ _ (raiseStmt _ (some (do let v ← eval ex (cxG P w K mg base N qual scope f cdv A outer s0 H0 E).env; standAt pos; pure v)) none) _ _ s
 refine tJ (K:=K) (D:=D) c hd (I.ok.hd rfl) (wpAny_bind (thn (he pins s σ H _ I h) fun v s1 ⟨y,H1,I1,ry,x,dct,φ,ey,hx,hφ,h0,q⟩=>wpAny_bind (wpAny_standAt (wpAny_pure ?_))))
 subst ey
 obtain rfl:v=Value.ref x:=ry
 obtain ⟨ob,vs,g1,g2,g3,g4,g5⟩:=hφ _ (I1.hok x _ hx).1
 refine ⟨x,ob,vs,rfl,I1.kIn,g1,g2,g3,g5.1,?_⟩
 show wpAny _ _ (leaving _ (.ref x)) _ _ s1
 have J:=I1.untr hx
 have jb:Un (frs outer) [] H0 (untr H1 x) s0.heap s1.heap:=J.base
 have ib:Un (frs outer) [] H0 H1 s0.heap s1.heap:=I1.base
 have nx:s0.heap.get? x=none:=by
  cases z:s0.heap.get? x with
  | none=>rfl
  | some o =>
   have:=ib.free x o z h0 (by simp)
   rw[hx]at this
   cases this
 refine oJ I1.ok.frames J.stack rfl g1 g3 g5.1 fun h2 T fx nT k=>?_
 rw[g2,g4]at fx
 refine ⟨x,D,dct,T,untr H1 x,rfl,oj J rfl k (fun b hb=>?_) fx (by simp) (by simp),q⟩
 have hb':b=x∨b=T:=by simpa using hb
 rcases hb' with rfl | rfl
 ·refine ⟨nx,cy,fun z=>?_⟩
  obtain ⟨_,o,e,nf⟩:=J.funs.mem z
  rw[g1]at e
  cases e
  exact nf vs g3
 ·refine ⟨cQ jb nT,?_,iC J nT⟩
  cases z:untr H1 x b with
  | none=>rfl
  | some u =>
   obtain ⟨o,e⟩:=(J.hok b u z).isObj
   rw[nT]at e
   cases e
end
def XCt(a D:Addr)(dct:Option Addr):Heap→Prop:=fun h=>∃ o vs,h.get? a=some o∧o.cls=.ref D∧o.data=.fields vs∧o.dict=dct
section
variable {X:Cx}{pins:List (Addr×Obj)}{σ:St}{H H':Hp}{s s':Shared}{x D C T T2:Addr}{dct:Option Addr}{fl:Value}{h2:Heap}{xs:List Addr}
theorem vR(I:Inv X pins σ H s)(G:XG X.prog X.w X.stack H s x D dct T H' s')(k:KeptBut xs (frs X.stack) s'.heap h2)(hxs:∀ b∈xs,s.heap.get? b=none∧H' b=none∧b ∉ frs X.stack)(fx:Fx h2 x (.ref D) dct fl T2) :
  Inv X pins σ (upd H' x (.ext (XCt x D dct))) { s' with heap:=h2 }:=by
 have hnx:∀ b u,H' b=some u→b≠x:=fun b u e z=>by rw[z,G.ux]at e; cases e
 have trk:∀ b u,H' b=some u→b ∉ frs X.stack:=fun b u e hb=>by
  obtain ⟨_,o,ho,_⟩:=I.stack.mem hb
  rw[G.un.free b o ho (I.stkFree b hb) (by simp)]at e
  cases e
 have u2:Un (frs X.stack) [] H H' s.heap h2:=nW G.un (fun b o h0 hf e=>k.1 b o (fun z=>by obtain ⟨o0,e0⟩:=h0; rw[(hxs b z).1]at e0; cases e0) hf e) (fun b o hf e=>k.2 b o (fun z=>(hxs b z).2.2 hf) e)
 have hk2:HOk X.prog X.w H' h2:=iU G.hok (fun b o u hu e=>k.1 b o (fun z=>by rw[(hxs b z).2.1]at hu; cases hu) (trk b u hu) e)
 obtain ⟨ob,fs,_,_,gx,gc,gd,gf,_⟩:=fx
 refine I.call' (ch:=[]) (s':={ s' with heap:=h2 }) G.os ⟨u2.keep,u2.slot,fun b o e n hx'=>?_,u2.there,fun b xs e=>?_,fun b o u e=>?_,fun b ps e=>?_⟩ (fun a o e=>?_) G.bare (by simp)
 ·have:b≠x:=fun z=>by rw[z,G.nx]at e; cases e
  rw[ag this]
  exact u2.free b o e n hx'
 ·have e':=u2.tups b xs e
  rw[ag (hnx b _ e')]
  exact e'
 ·have e':=u2.frzs b o u e
  rw[ag (hnx b _ e')]
  exact e'
 ·obtain ⟨more,e'⟩:=u2.tbls b ps e
  exact ⟨more,by rw[ag (hnx b _ e')]; exact e'⟩
 ·by_cases ha:a=x
  ·subst ha
   rw[ac]at e
   cases e
   exact ⟨⟨ob,fs,gx,gc,gf,gd⟩,⟨ob,gx⟩,fun h1 h3 ⟨o,vs,e1,r⟩ kk=>⟨o,vs,kk o e1,r⟩⟩
  ·rw[ag ha]at e
   exact (hk2 a o e).stay (fun _ _ _ q=>q) (fun b q=>by rw[ag (hnx b _ q)]; exact q) fun b xs q=>by rw[ag (hnx b _ q)]; exact q
end
section
variable {X:Cx}{pins:List (Addr×Obj)}{σ:St}{H H':Hp}{s s':Shared}{x D C T:Addr}{dct:Option Addr}{cn en:Str}{ie:Nat}{b₀:Stmt}{suite:List Stmt}{cp hp:Pos}{ts:TS}{DE:Ends}
end
section
variable {X:Cx}{k ie:Nat}{f C:Addr}{fd:FuncData}{ps:List Str}{sp:Sp}{dvs:List V}{ds:List Value}{fx cn en:Str}{p pos p2 cp hp tp:Pos}{e:Expr}{es:List Expr}{t:TA}{b₀:Stmt}{suite:List Stmt}{ts:TS}
end
def vJ(K:Frag)(ta:TE)(f:Str):TE:=fun σ H Q=>ta σ H fun x H1=>∃ a C cd dx fs v φ,x=.ref a∧XSet K C f cd∧XCls K C∧H1 a=some (.ext φ)∧(∀ h,φ h→XCt a C (some dx) h)∧H1 dx=some (.ext (XDct dx fs))∧fs.lookup f=some v∧Q v H1
theorem tG{X:Cx}{e:Expr}{f:Str}{pos:Pos}{ta:TE}(he:PE X e ta)(hb:attributeBase e f X.env (eval e X.env)=eval e X.env:=by rfl):PE X (.Attribute e f pos) (vJ X.K ta f):=by
 intro pins s σ H Q I h
 refine nJ hb (thn (he pins s σ H _ I h) fun u s1 ⟨x,H1,I1,rx,a,C,cd,dx,fs,v,φ,ex,c,cl,ea,hφ,ed,l,q⟩=>?_)
 subst ex
 obtain rfl:u=Value.ref a:=rx
 obtain ⟨h1,g1,d1,t1,os1⟩:=s1
 obtain ⟨ob,vs,e1,e2,e3,e4⟩:=hφ _ (I1.hok a _ ea).1
 obtain ⟨⟨mA,nA,rA⟩,_⟩:=I1.hok dx _ ed
 have:=rA f
 rw[l]at this
 obtain ⟨u',hu,ru⟩:=RelO.some_of this
 exact tq cl I1.kIn c.na c.k c.dct e1 e2 e3 e4 nA.ns hu (vb ru) ⟨v,H1,I1.tok _,ru,q⟩
end L2
namespace FrM
theorem jc(x y:Int):Int.gcd y (x % y)=Int.gcd x y:=by
 have e:x=x % y+y*(x/y):=(Int.emod_add_mul_ediv x y).symm
 rw[Int.gcd_comm x y]
 conv=>rhs; rw[e]
 rw[Int.gcd_add_mul_left_right]
def Bt(n:Nat)(i:Int):Prop:=i.natAbs<2 ^ n
theorem Bt.mono{m n:Nat}{i:Int}(h:Bt m i)(l:m≤n):Bt n i:=Nat.lt_of_lt_of_le h (Nat.pow_le_pow_right (by decide) l)
theorem Bt.le{n:Nat}{i j:Int}(h:Bt n i)(l:j.natAbs≤i.natAbs):Bt n j:=Nat.lt_of_le_of_lt l h
theorem Bt.mul{m n:Nat}{i j:Int}(h:Bt m i)(h':Bt n j):Bt (m+n) (i*j):=by
 unfold Bt at *
 rw[Int.natAbs_mul,Nat.pow_add]
 exact Nat.mul_lt_mul_of_le_of_lt (Nat.le_of_lt h) h' (Nat.lt_of_le_of_lt (Nat.zero_le _) h)
theorem Bt.add{n:Nat}{i j:Int}(h:Bt n i)(h':Bt n j):Bt (n+1) (i+j):=by
 unfold Bt at *
 rw[Nat.pow_succ]
 omega
theorem Bt.sub{n:Nat}{i j:Int}(h:Bt n i)(h':Bt n j):Bt (n+1) (i - j):=by
 unfold Bt at *
 rw[Nat.pow_succ]
 omega
structure Low(T B t b:Int):Prop where
 pos:1≤b
 cop:Int.gcd t b=1
 eq:t*B=T*b
theorem low(t b:Int)(hb:0<b):0<(Int.gcd t b:Int)∧(Int.gcd t b:Int)≤b∧Low t b (t/(Int.gcd t b:Int)) (b/(Int.gcd t b:Int))∧(t/(Int.gcd t b:Int)).natAbs≤t.natAbs∧(b/(Int.gcd t b:Int)).natAbs≤b.natAbs:=by
 have hg:0<Int.gcd t b:=Int.gcd_pos_iff.mpr (.inr (by omega))
 have hgi:0<(Int.gcd t b:Int):=by omega
 have d1:=Int.gcd_dvd_left t b
 have d2:=Int.gcd_dvd_right t b
 have e1:=Int.ediv_mul_cancel d1
 have e2:=Int.ediv_mul_cancel d2
 have hle:(Int.gcd t b:Int)≤b:=Int.le_of_dvd hb d2
 refine ⟨hgi,hle,⟨?_,Int.gcd_ediv_gcd_ediv_gcd hg,?_⟩,?_,?_⟩
 ·have:=Int.ediv_pos_of_pos_of_dvd hb (by omega) d2
  omega
 ·rw[← Int.mul_ediv_assoc _ d2,Int.mul_comm,← Int.mul_ediv_assoc _ d1,Int.mul_comm]
 ·have:=congrArg Int.natAbs e1
  rw[Int.natAbs_mul]at this
  rw[← this]
  exact Nat.le_mul_of_pos_right _ (by simpa using hg)
 ·have:=congrArg Int.natAbs e2
  rw[Int.natAbs_mul]at this
  rw[← this]
  exact Nat.le_mul_of_pos_right _ (by simpa using hg)
theorem gu{b t b':Int}(c:Int.gcd t b=1)(h:b ∣ t*b'):b ∣ b':=by
 rw[← Int.natAbs_dvd_natAbs]at *
 rw[Int.natAbs_mul]at h
 exact Nat.Coprime.dvd_of_dvd_mul_left (by rw[Nat.coprime_comm]; exact c) h
theorem Low.uniq{T B t b t' b':Int}(hB:B≠0)(h:Low T B t b)(h':Low T B t' b'):t=t'∧b=b':=by
 have e:t*b'=t'*b:=by
  have:(t*b')*B=(t'*b)*B:=by
   rw[Int.mul_assoc,Int.mul_comm b' B,← Int.mul_assoc,h.eq,Int.mul_assoc t' b B,Int.mul_comm b B,← Int.mul_assoc,h'.eq,Int.mul_assoc,Int.mul_assoc,Int.mul_comm b b']
  exact Int.eq_of_mul_eq_mul_right hB this
 have d1:b ∣ b':=by
  have:b ∣ t*b':=⟨t',by rw[e,Int.mul_comm]⟩
  exact gu h.cop this
 have d2:b' ∣ b:=by
  have:b' ∣ t'*b:=⟨t,by rw[← e,Int.mul_comm]⟩
  exact gu h'.cop this
 have eb:b=b':=Int.dvd_antisymm (by have:=h.pos; omega) (by have:=h'.pos; omega) d1 d2
 refine ⟨?_,eb⟩
 rw[eb]at e
 exact Int.eq_of_mul_eq_mul_right (by have:=h'.pos; omega) e
end FrM
namespace L2
open PySem PySem.Spec PyProof.Rows FrM
section
variable {X:Cx}
def CMulB(i j:Int):Prop:=(Bt 8000 i∧Bt 8000 j)∨CMul i j
theorem CMulB.ok{i j:Int}(h:CMulB i j):IntMulOk i j:=by
 rcases h with ⟨h1,h2⟩ | h
 ·exact IntMulOk.of_le (m:=8000) (n:=8000) (intBits_le_iff.mpr h1) (intBits_le_iff.mpr h2) (by decide)
 ·exact h.ok
def CDivB(i j:Int):Prop:=0<j∧Bt 8000 j
theorem CDivB.no{i j:Int}(h:CDivB i j):Builtin.divisionGoesByPylong i j=false:=by
 refine PyProof.noPylong_of_log2 ?_
 have h2:j.natAbs<2 ^ 8000:=h.2
 by_cases h0:j.natAbs=0
 ·rw[h0]; decide +kernel
 ·have:j.natAbs.log2<8000:=(Nat.log2_lt h0).mpr h2
  lia
theorem op_mulB:OpR X (binaryOp .Mult) (rI CMulB fun i j=>.int (i*j)):=opI fun _ _ _ _ _ _ _ hc q=>mul_int q hc.ok
theorem op_fdivB:OpR X (binaryOp .FloorDiv) (rI CDivB fun i j=>.int (i/j)):=opI fun i j _ _ _ _ _ hc q=>by
 have h1:(0:Int)<j:=hc.1
 exact floordiv_int (by lia) (by rw[Int.fdiv_eq_ediv_of_nonneg i (by lia)]; exact q) (.inl hc.no)
theorem bz:OpR X (binaryOp .Mult) (rIC CMulB fun i j=>.int (i*j)):=op_mulB.ic
theorem cb:OpR X (binaryOp .FloorDiv) (rIC CDivB fun i j=>.int (i/j)):=op_fdivB.ic
theorem cmB{i j:Int}{m n:Nat}(h:Bt m i)(h':Bt n j)(hm:m≤8000:=by decide)(hn:n≤8000:=by decide):CMulB i j:=.inl ⟨h.mono hm,h'.mono hn⟩
theorem clB{i j:Int}(h:-(2 ^ 64)<i:=by decide)(h2:i<2 ^ 64:=by decide):CMulB i j:=.inr (cl h h2)
theorem crB{i j:Int}(h:-(2 ^ 64)<j:=by decide)(h2:j<2 ^ 64:=by decide):CMulB i j:=.inr (cr h h2)
theorem cdB{i j:Int}{n:Nat}(h:0<j)(h':Bt n j)(hn:n≤8000:=by decide):CDivB i j:=⟨h,h'.mono hn⟩
theorem rZ:bootBuiltins "abs" = some (.builtin "abs"):=by decide +kernel
end
end L2
namespace L2
open PySem PySem.Spec PyProof.Rows
def xk:Expr→Bool
 | .Starred ..=>true
 | _=>false
theorem oO{e:Expr}{es:List Expr}{env:Env}(h:xk e=false):starEach (e::es) env=(false,eval e env)::starEach es env:=by
 cases e <;> first | rfl | cases h
theorem pU{X:Cx}{e:Expr}{es:List Expr}{te:TE}{t:TA}(ha:PE X e te)(hr:PA X es t)(h:xk e=false:=by rfl):PA X (e::es) (fY te t):=aa ha hr (oO h)
@[irreducible] def PSq(X:Cx)(sts:List Stmt)(t:TS):Prop:=PSs X sts t
theorem xw{X:Cx}{st:Stmt}{sts:List Stmt}{t u:TS}(h1:PS X st t)(h2:PSq X sts u):PSs X (st::sts) (aA t u):=by
 unfold PSq at h2
 exact af h1 h2
theorem rL{X:Cx}{K:Frag}{e:Expr}{f:Str}{pos:Pos}{ta:TE}(h:X.K=K)(he:PE X e ta)(hb:attributeBase e f X.env (eval e X.env)=eval e X.env:=by rfl):PE X (.Attribute e f pos) (vJ K ta f):=h ▸ tG he hb
section
variable {X:Cx}{k ie ir:Nat}{f C:Addr}{fd:FuncData}{ps:List Str}{sp:Sp}{dvs:List V}{ds:List Value}{fx cn en rn:Str}{p pos p2 p3 cp hp tp:Pos}{e:Expr}{es:List Expr}{t:TA}{b₀:Stmt}{suite:List Stmt}{ts:TS}
end
end L2
namespace HT
open PySem PySem.Spec PyProof.Rows
section
variable {prog:Program}{w:World}{A:Around}{E:Value→Shared→Prop}{s:Shared}
end
end HT
namespace L2
open PySem PySem.Spec PyProof.Rows
section
variable {X:Cx}
@[irreducible] def PAq(X:Cx)(es:List Expr)(t:TA):Prop:=PA X es t
theorem vi:PAq X [] kX:=by unfold PAq; exact ae
theorem dL{e:Expr}{es:List Expr}{te:TE}{t:TA}(ha:PE X e te)(hr:PAq X es t)(h:xk e=false:=by rfl):PAq X (e::es) (fY te t):=by
 unfold PAq at hr ⊢
 exact pU ha hr h
theorem tS{es:List Expr}{t:TA}{pos:Pos}(h:PAq X es t):PE X (.List es pos) (yu t):=by
 unfold PAq at h
 exact aY h
end
section
variable {X:Cx}
@[irreducible] def PEq(X:Cx)(e:Expr)(t:TE):Prop:=PE X e t
@[irreducible] def PSt(X:Cx)(st:Stmt)(t:TS):Prop:=PS X st t
theorem zi{e:Expr}{t:TE}(h:PE X e t):PEq X e t:=by unfold PEq; exact h
theorem mW{st:Stmt}{t:TS}(h:PS X st t):PSt X st t:=by unfold PSt; exact h
theorem nI{st:Stmt}{t:TS}(h:PSt X st t):PS X st t:=by unfold PSt at h; exact h
theorem m3{st:Stmt}{t:TS}(h:PSt X st t):PSq X [st] t:=by unfold PSq; exact ak (nI h)
theorem qh{st:Stmt}{sts:List Stmt}{t u:TS}(h:PSt X st t)(h2:PSq X sts u):PSq X (st::sts) (aA t u):=by
 unfold PSq at h2 ⊢
 exact af (nI h) h2
theorem oy{sts:List Stmt}{t:TS}(h:PSq X sts t):PSs X sts t:=by unfold PSq at h; exact h
end
structure LamD where
 qual:Str
 params:Arguments
 body:Expr
 scope:Scope
def fQ(f:Addr)(d:LamD)(clos:List (Str×Addr))(c:Addr):Heap→Prop:=fun h=>∃ pm ctv,h.get? f=some (kla_obj "<lambda>" d.qual d.params d.body d.scope clos pm c ctv)
def dM(c:Addr)(v:V):Heap→Prop:=fun h=>∃ o u,h.get? c=some o∧o.data=.cell (some u)∧RelV v u
def er(c:Addr)(q:Str):Heap→Prop:=fun h=>∃ o vs t,h.get? c=some o∧o.data=.fields vs∧vs[1]? = some (.str q t)
section
variable {P:Program}{w:World}{H:Hp}{h:Heap}
theorem nE{f:Addr}{d:LamD}{clos:List (Str×Addr)}{c:Addr}{pm ctv:Value}(e:h.get? f=some (kla_obj "<lambda>" d.qual d.params d.body d.scope clos pm c ctv)):ObjOk P w H h f (.ext (fQ f d clos c)) :=
 ⟨⟨pm,ctv,e⟩,⟨_,e⟩,fun h1 h2 ⟨pm,ctv,e1⟩ k=>⟨pm,ctv,k _ e1⟩⟩
theorem lN{c:Addr}{v:V}(x:dM c v h):ObjOk P w H h c (.ext (dM c v)) :=
 ⟨x,let ⟨o,_,e,_⟩:=x; ⟨o,e⟩,fun h1 h2 ⟨o,u,e1,r⟩ k=>⟨o,u,k _ e1,r⟩⟩
theorem qO{c:Addr}{q:Str}(x:er c q h):ObjOk P w H h c (.ext (er c q)) :=
 ⟨x,let ⟨o,_,_,e,_⟩:=x; ⟨o,e⟩,fun h1 h2 ⟨o,vs,t,e1,r⟩ k=>⟨o,vs,t,k _ e1,r⟩⟩
end
theorem tZ(a:Addr)(o:Obj)(ho:o.data≠.freed):∃ h:Heap,h.get? a=some o:=by
 refine ⟨{ objs:=Array.replicate (a+1) o },?_⟩
 obtain ⟨c,d,dt,sl⟩:=o
 cases dt <;> first | exact absurd rfl ho | simp[Heap.get?]
theorem j5{c:Addr}{q:Str}{v:V}:HO.ext (er c q)≠HO.ext (dM c v):=fun e=>by
 injection e with e
 obtain ⟨h,hh⟩:=tZ c { cls:=.none,data:=.fields #[.none,.str q 0] } (by intro z; cases z)
 have y:dM c v h:=by rw[← e]; exact ⟨_,_,_,hh,rfl,rfl⟩
 obtain ⟨o,u,e1,e2,_⟩:=y
 rw[hh]at e1
 cases e1
 cases e2
def xI:HO→Bool
 | .tbl _=>false
 | _=>true
def SameT(H H':Hp):Prop:=∀ b o,H b=some o→(xI o=true→H' b=some o)∧∃ o',H' b=some o'
theorem SameT.refl{H:Hp}:SameT H H:=fun b o e=>⟨fun _=>e,o,e⟩
theorem SameT.trans{H H1 H2:Hp}(a:SameT H H1)(b:SameT H1 H2):SameT H H2:=fun c o e=>by
 obtain ⟨f,o',e'⟩:=a c o e
 obtain ⟨g,o2,e2⟩:=b c o' e'
 exact ⟨fun n=>(b c o (f n)).1 n,o2,e2⟩
theorem Same.t{H H':Hp}(s:Same H H'):SameT H H':=fun b o e=>⟨fun _=>s b o e,o,s b o e⟩
theorem SameT.at{H H':Hp}(s:SameT H H'){a:Addr}{o:HO}(e:H a=some o)(n:xI o=true:=by rfl):H' a=some o:=(s a o e).1 n
theorem SameT.free{H H':Hp}(s:SameT H H'){a:Addr}(e:H' a=none):H a=none:=by
 cases q:H a with
 | none=>rfl
 | some o=>obtain ⟨_,o',e'⟩:=s a o q; rw[e]at e'; cases e'
theorem SameT.put{H H':Hp}(s:SameT H H'){a:Addr}{o:HO}(e:H a=none):SameT H (upd H' a o):=fun b u q=>by
 have n:b≠a:=fun z=>by rw[z,e]at q; cases q
 rw[ag n]
 exact s b u q
def yG(H:Hp)(P:Addr)(ls:List (Pos×Str)):Prop:=∃ ps,H P=some (.tbl ps)∧TriplesOk ps.toList∧∀ l∈ls,codeAmong l.1 ps.toList=none∨∃ c,codeAmong l.1 ps.toList=some (.ref c)∧H c=some (.ext (er c l.2))
abbrev la:=List (Addr×List (Pos×Str))
def TabsOk(tabs:la)(H:Hp):Prop:=∀ q∈tabs,yG H q.1 q.2
theorem TabsOk.same{tabs:la}{H H':Hp}(t:TabsOk tabs H)(s:Same H H'):TabsOk tabs H':=fun q hq=>by
 obtain ⟨ps,e1,e2,e3⟩:=t q hq
 exact ⟨ps,s _ _ e1,e2,fun l hl=>(e3 l hl).imp id fun ⟨c,a,b⟩=>⟨c,a,s _ _ b⟩⟩
theorem TabsOk.put{tabs:la}{H:Hp}{r:Addr}{o:HO}(t:TabsOk tabs H)(h1:∀ ps,H r≠some (.tbl ps))(h2:∀ φ,H r≠some (.ext φ)):TabsOk tabs (upd H r o):=fun q hq=>by
 obtain ⟨ps,e1,e2,e3⟩:=t q hq
 refine ⟨ps,?_,e2,fun l hl=>(e3 l hl).imp id fun ⟨c,a,b⟩=>⟨c,a,?_⟩⟩
 ·rw[ag fun z=>h1 ps (by rw[← z]; exact e1)]; exact e1
 ·rw[ag fun z=>h2 _ (by rw[← z]; exact b)]; exact b
theorem kT{p p':Pos}{c:Value}(l:List Value)(h:TriplesOk l)(hn:¬(p.line=p'.line∧p.col=p'.col)):codeAmong p' (l++[rawInt p.line,rawInt p.col,c])=codeAmong p' l:=by
 fun_induction TriplesOk l with
 | case1 =>
  simp only[List.nil_append,codeAmong,rawInt]
  rw[if_neg]
  intro z
  rw[Bool.and_eq_true,beq_iff_eq,beq_iff_eq]at z
  exact hn ⟨by lia,by lia⟩
 | case2 a t b u x rest ih =>
  simp only[List.cons_append,codeAmong]
  rw[ih h]
 | case3=>exact h.elim
theorem j3{p:Pos}{c:Value}(l:List Value)(h:TriplesOk l):TriplesOk (l++[rawInt p.line,rawInt p.col,c]):=by
 fun_induction TriplesOk l with
 | case1=>simp[TriplesOk,rawInt]
 | case2 a t b u x rest ih=>exact ih h
 | case3=>exact h.elim
def Bm(mg:Str→Option Value)(base:Heap):Prop:=∃ bm ob,mg "__builtins__" = some (.ref bm)∧base.get? bm=some ob∧ob.cls=.type "module" ∧ ob.dict=some builtinsNs∧ob.data=.plain
def zE(tabs:la)(d:LamD)(clos:List (Str×Addr)):TE:=fun σ H Q=>TabsOk tabs H∧∀ f c H1,SameT H H1→TabsOk tabs H1→H f=none→H1 f=some (.ext (fQ f d clos c))→H1 c=some (.ext (er c d.qual))→Q (.ref f) H1
theorem jW{α β:Type}:∀{l:List (α×β)},(l.map (·.1)).Nodup→∀ x∈l,∀ y∈l,x.1=y.1→x=y
 | [],_,x,hx,_,_,_=>by cases hx
 | a::r,nd,x,hx,y,hy,e=>by
  rw[map_cons,nodup_cons]at nd
  rcases mem_cons.mp hx with rfl | hx' <;> rcases mem_cons.mp hy with rfl | hy'
  ·rfl
  ·exact absurd (mem_map.mpr ⟨y,hy',e.symm⟩) nd.1
  ·exact absurd (mem_map.mpr ⟨x,hx',e⟩) nd.1
  ·exact jW nd.2 x hx' y hy' e
theorem ou:∀{l:List (Pos×Str)},(l.Pairwise fun x y=>¬(x.1.line=y.1.line∧x.1.col=y.1.col))→∀ x∈l,∀ y∈l,(x.1.line=y.1.line∧x.1.col=y.1.col)→x=y
 | [],_,x,hx,_,_,_=>by cases hx
 | a::r,nd,x,hx,y,hy,e=>by
  rw[List.pairwise_cons]at nd
  rcases mem_cons.mp hx with rfl | hx' <;> rcases mem_cons.mp hy with rfl | hy'
  ·rfl
  ·exact absurd e (nd.1 y hy')
  ·exact absurd ⟨e.1.symm,e.2.symm⟩ (nd.1 x hx')
  ·exact ou nd.2 x hx' y hy' e
section
variable {X:Cx}{tabs:la}{P c:Addr}{ls:List (Pos×Str)}{d:LamD}{clos:List (Str×Addr)}{pos:Pos}
theorem kd(hcd:X.env.code=.ref c)(hC:codeHdIn X.K c P=true)(hB:Bm X.mg X.base)(hq:X.env.qual ++ "<lambda>" = d.qual)(hcl:closureFor d.scope X.env=pure clos)(hdef:defaultsOf d.params X.env=([],[]))
  (hm:(P,ls)∈tabs) (hl:(pos,d.qual)∈ls) (hnd:(tabs.map (·.1)).Nodup) (hps:ls.Pairwise fun x y=>¬(x.1.line=y.1.line∧x.1.col=y.1.col)):PE X (.Lambda d.params d.body d.scope pos) (zE tabs d clos):=by
 intro pins s σ H Q I h
 obtain ⟨hT,hQ⟩:=h
 refine PySem.W.kla_eval hdef ?_
 rw[hq]
 obtain ⟨ps,hP,htr,hls⟩:=hT _ hm
 have hgs:s.heap.Ns mainGlobals X.mg:=I.mod.glob.keeps I.bk
 have C:CodeHd s.heap c P:=codeHd_of_K I.kIn hC
 have hPo:s.heap.get? P=some (tabObj ps):=I.hok P _ hP
 have hgP:mainGlobals≠P:=fun q=>by
  obtain ⟨o,es,ep,e,hd,_⟩:=hgs
  rw[q,hPo]at e; cases e; cases hd
 obtain ⟨bm,ob,b1,b2,b3,b4,b5⟩:=hB
 have bo:=I.bk _ _ b2
 have hbP:bm≠P:=fun q=>by
  rw[q,hPo]at bo; cases bo; cases b3
 have hbG:bm≠mainGlobals:=fun q=>by
  obtain ⟨o,es,ep,e,hd,_⟩:=hgs
  rw[q,e]at bo; cases bo; rw[hd]at b5; cases b5
 have hbB:bm≠builtinsNs:=fun q=>by
  obtain ⟨mb,⟨o,es,ep,e,hd,_⟩,_⟩:=I.mod.blt
  rw[q,e]at b2; cases b2; rw[hd]at b5; cases b5
 have BA:s.heap.BuiltinsAt X.mg P:=⟨bm,ob,b1,hbB,hbG,hbP,bo,b3,b4,b5⟩
 rcases hls _ hl with hn | ⟨c',hc,hHc⟩
 ·refine PySem.W.kla_makeFunction (mg:=X.mg) hcl I.ok.glob hgs hcd C hPo htr hn hgP BA fun c' ctv h' tk hx hge hlt hrec htb=>?_
  have hc0:H c'=none:=I.hok.fresh hge
  have hf0:H h'.objs.size=none:=I.hok.fresh (Nat.le_trans hge (Nat.le_of_lt hlt))
  have ncf:c'≠h'.objs.size:=Nat.ne_of_lt hlt
  have nPc:P≠c':=am hP hc0
  have nPf:P≠h'.objs.size:=am hP hf0
  obtain ⟨f,hf⟩:∃ f,f=h'.objs.size:=⟨_,rfl⟩
  obtain ⟨ob',hob⟩:∃ o,o=kla_obj "<lambda>" d.qual d.params d.body d.scope clos ((X.mg "__name__").getD .none) c' ctv:=⟨_,rfl⟩
  have hfo:(h'.push ob').get? f=some ob':=by rw[hf,hob]; exact Heap.get?_push_size _ rfl
  have keep:∀ b o,b≠P→s.heap.get? b=some o→(h'.push ob').get? b=some o:=fun b o n e=>Heap.get?_push_of_some _ (hx b o n e)
  have htb':(h'.push ob').get? P=some (tabObj (ps ++ #[rawInt pos.line,rawInt pos.col,.ref c'])):=Heap.get?_push_of_some _ htb
  have hcx:er c' d.qual (h'.push ob'):=by
   obtain ⟨c2,oc,vs,t,e2,hoc,hdt,hv⟩:=hrec
   cases e2
   exact ⟨oc,vs,t,Heap.get?_push_of_some _ hoc,hdt,hv⟩
  rw[← hf]at hf0 ncf nPf ⊢
  rw[← hob]
  obtain ⟨H1,hH1⟩:∃ H1,H1=upd (upd (upd H P (.tbl (ps ++ #[rawInt pos.line,rawInt pos.col,.ref c']))) c' (.ext (er c' d.qual))) f (.ext (fQ f d clos c')):=⟨_,rfl⟩
  have gf:H1 f=some (.ext (fQ f d clos c')):=by rw[hH1]; exact ac
  have gc:H1 c'=some (.ext (er c' d.qual)):=by rw[hH1,ag ncf]; exact ac
  have gP:H1 P=some (.tbl (ps ++ #[rawInt pos.line,rawInt pos.col,.ref c'])):=by rw[hH1,ag nPf,ag nPc]; exact ac
  have go:∀ b,b≠P→b≠c'→b≠f→H1 b=H b:=fun b h1 h2 h3=>by rw[hH1,ag h3,ag h2,ag h1]
  have same:∀ b o,b≠P→H b=some o→H1 b=some o:=fun b o n e=>by rw[go b n (am e hc0) (am e hf0)]; exact e
  have nt:∀ b o,H b=some o→(∀ qs,o≠.tbl qs)→b≠P:=fun b o e n z=>by rw[z,hP]at e; cases e; exact n ps rfl
  have un:Un X.fs [] H H1 s.heap (h'.push ob'):=by
   refine ⟨fun b o e n _ _=>keep b o (fun z=>by rw[z,hP]at n; cases n) e,fun b o e n _ _=>⟨o.slots,keep b o (fun z=>by rw[z,hP]at n; cases n) e⟩,fun b o e n _=>?_,fun b o e _=>?_,fun b xs e=>same b _ (nt b _ e fun _ z=>nomatch z) e,fun b o u e=>same b _ (nt b _ e fun _ z=>nomatch z) e,fun b qs e=>?_⟩
   ·have hb:b<s.heap.objs.size:=Heap.lt_size e
    rw[go b (fun z=>by rw[z,hP]at n; cases n) (Nat.ne_of_lt (Nat.lt_of_lt_of_le hb hge)) (by rw[hf]; exact Nat.ne_of_lt (Nat.lt_of_lt_of_le hb (Nat.le_trans hge (Nat.le_of_lt hlt))))]
    exact n
   ·by_cases hb:b=P
    ·rw[hb]; exact ⟨_,htb'⟩
    ·exact ⟨o,keep b o hb e⟩
   ·by_cases hb:b=P
    ·rw[hb,hP]at e
     cases e
     rw[hb]
     exact ⟨_,gP⟩
    ·exact ⟨#[],by rw[same b _ hb e]; simp⟩
  have hok:HOk X.prog X.w H1 (h'.push ob'):=fun a o e=>by
   by_cases h1:a=f
   ·subst h1; rw[gf]at e; cases e; exact nE (by rw[hfo,hob])
   by_cases h2:a=c'
   ·subst h2; rw[gc]at e; cases e; exact qO hcx
   by_cases h3:a=P
   ·subst h3; rw[gP]at e; cases e; exact htb'
   rw[go a h3 h2 h1]at e
   refine (I.hok a o e).stay (fun b u hb q=>keep b u ?_ q) (fun b q=>same b _ (nt b _ q fun _ z=>nomatch z) q) fun b xs q=>same b _ (nt b _ q fun _ z=>nomatch z) q
   rcases hb with rfl | hb
   ·exact h3
   ·exact nt b _ hb fun _ z=>nomatch z
  refine ⟨.ref f,H1,I.un (h':=h'.push ob') (t':=tk) un hok,rfl,hQ f c' H1 (fun b o e=>?_) (fun q hq'=>?_) hf0 gf gc⟩
  ·by_cases hb:b=P
   ·subst hb
    rw[hP]at e
    cases e
    exact ⟨fun z=>(Bool.false_ne_true z).elim,_,gP⟩
   ·exact ⟨fun _=>same b o hb e,o,same b o hb e⟩
  ·by_cases hqP:q.1=P
   ·have hqe:q=(P,ls):=jW hnd q hq' (P,ls) hm hqP
    subst hqe
    refine ⟨_,gP,by rw[Array.toList_append]; exact j3 _ htr,fun l' hl'=>?_⟩
    rw[Array.toList_append]
    by_cases hp:pos.line=l'.1.line∧pos.col=l'.1.col
    ·have:=ou hps (pos,d.qual) hl l' hl' hp
     subst this
     exact .inr ⟨c',codeAmong_snoc _ htr hn,gc⟩
    ·have eo:=kT (c:=.ref c') ps.toList htr hp
     rcases hls l' hl' with z | ⟨c2,z1,z2⟩
     ·exact .inl (eo.trans z)
     ·exact .inr ⟨c2,eo.trans z1,same c2 _ (nt c2 _ z2 fun _ z=>nomatch z) z2⟩
   ·obtain ⟨qs,e1,e2,e3⟩:=hT q hq'
    exact ⟨qs,same _ _ hqP e1,e2,fun l' hl'=>(e3 l' hl').imp id fun ⟨c2,z1,z2⟩=>⟨c2,z1,same c2 _ (nt c2 _ z2 fun _ z=>nomatch z) z2⟩⟩
 ·refine PySem.W.kla_makeFunctionHit (mg:=X.mg) hcl I.ok.glob hgs hcd C hPo htr hc BA fun ctv h' tk hk hsz=>?_
  have hf0:H h'.objs.size=none:=I.hok.fresh hsz
  have sm:Same H (upd H h'.objs.size (.ext (fQ h'.objs.size d clos c'))):=Same.new hf0
  refine ⟨.ref h'.objs.size,_,I.laid (a:=h'.objs.size) (o:=.ext (fQ h'.objs.size d clos c')) (t':=tk) (fun b u e=>Heap.get?_push_of_some _ (hk b u e)) hsz (nE (Heap.get?_push_size _ rfl)),rfl,hQ _ c' _ sm.t (hT.same sm) hf0 ac (sm _ _ hHc)⟩
end
def untrs(H:Hp)(cs:List Addr):Hp:=fun b=>if b∈cs then none else H b
theorem gF{H:Hp}{cs:List Addr}{b:Addr}(h:b∈cs):untrs H cs b=none:=by unfold untrs; rw[if_pos h]
theorem fM{H:Hp}{cs:List Addr}{b:Addr}(h:b ∉ cs):untrs H cs b=H b:=by unfold untrs; rw[if_neg h]
theorem dk{H:Hp}{cs:List Addr}{b:Addr}(h:H b=none):untrs H cs b=none:=by unfold untrs; split <;> first | rfl | exact h
abbrev CellsAt(H:Hp):List (Str×Addr)→List V→Prop:=Paired fun (p:Str×Addr) (v:V)=>H p.2=some (.ext (dM p.2 v))
theorem CellsAt.mem{H:Hp}:∀{clos:List (Str×Addr)}{vals:List V},CellsAt H clos vals→∀ p∈clos,∃ v,H p.2=some (.ext (dM p.2 v))
 | _,_,.nil,p,h=>by cases h
 | _,_,.cons r t,p,h=>by
  rcases mem_cons.mp h with rfl | h
  ·exact ⟨_,r⟩
  ·exact CellsAt.mem t p h
theorem CellsAt.get{H:Hp}:∀{clos:List (Str×Addr)}{vals:List V}{i:Nat}{v:V},CellsAt H clos vals→vals[i]? = some v→∃ p,clos[i]? = some p∧H p.2=some (.ext (dM p.2 v))
 | _,_,_,_,.nil,h=>by cases h
 | _,_,0,_,.cons r t,h=>by cases h; exact ⟨_,rfl,r⟩
 | _,_,i+1,_,.cons r t,h=>CellsAt.get (i:=i) t h
theorem CellsAt.at{H:Hp}{clos:List (Str×Addr)}{vals:List V}(ca:CellsAt H clos vals){b:Addr}(hb:b∈clos.map (·.2)):∃ v,H b=some (.ext (dM b v)):=by
 obtain ⟨p,hp,rfl⟩:=mem_map.mp hb
 exact ca.mem p hp
theorem cx{H:Hp}{clos:List (Str×Addr)}{vals:List V}{b:Addr}{o:HO}(ca:CellsAt H clos vals)(h:H b=some o)(n:∀ v,o≠.ext (dM b v)):untrs H (clos.map (·.2)) b=some o:=by
 rw[fM fun z=>?_]
 ·exact h
 ·obtain ⟨v,e⟩:=ca.at z
  rw[h]at e
  exact n v (Option.some.inj e)
theorem dA{α:Type}:∀{l:List (Str×α)}{x:Str}{u:α},(l.map (·.1)).Nodup→(x,u)∈l→l.lookup x=some u
 | [],_,_,_,h=>by cases h
 | (y,w)::r,x,u,nd,h=>by
  rw[map_cons,nodup_cons]at nd
  rcases mem_cons.mp h with e | h
  ·cases e; simp[List.lookup]
  ·have:x≠y:=fun z=>nd.1 (mem_map.mpr ⟨(x,u),h,z⟩)
   rw[lookup_cons,beq_eq_false_iff_ne.mpr this]
   exact dA nd.2 h
theorem oV{α:Type}{l:List α}(h:l.Nodup):l.reverse.Nodup:=by
 unfold List.Nodup at h ⊢
 rw[List.pairwise_reverse]
 exact h.imp fun n z=>n z.symm
def jf(d:LamD)(L f c:Addr)(clos:List (Str×Addr)):Env:={ scope:=d.scope,locals:=L,globals:=mainGlobals,cells:=clos,qual:=d.qual ++ ".<locals>.",func:=some f,code:=.ref c,frame:=some L,builtins:=builtinsNs }
def cxL(P:Program)(w:World)(K:Frag)(mg:Str→Option Value)(base:Heap)(N:List Str)(d:LamD)(clos:List (Str×Addr))(f c:Addr)(A:Around)(outer:List Env)(s:Shared)(H:Hp):Cx where
 prog:=P
 w:=w
 K:=K
 mg:=mg
 base:=base
 A:=A.deeper (jf d s.heap.objs.size f c clos)
 N:=N
 s₀:=s
 H₀:=untrs H (clos.map (·.2))
 env:=jf d s.heap.objs.size f c clos
 outer:=outer
 stack:=jf d s.heap.objs.size f c clos::outer
 ex:=[]
 calm:=true
 fn:=fun _=>false
 pn:=[]
 xe:=fun _ _=>False
def d8(P:Program)(w:World)(K:Frag)(mg:Str→Option Value)(base:Heap)(k:Nat)(d:LamD)(fv ps:List Str)(sp:List V→Sp):Prop :=
 ∀(A:Around) (outer:List Env) (s:Shared) (H:Hp) (f c:Addr) (clos:List (Str×Addr)) (us:List Value) (vs vals:List V) (Q:VK) (E:XK),Room k A→Env0 P w K mg base A outer s H→H f=some (.ext (fQ f d clos c))→H c=some (.ext (er c d.qual)) →
  clos.map (·.1)=fv→(clos.map (·.2)).Nodup→CellsAt H clos vals→Vals vs us→sp vals vs H Q E→codeAny (model P w) A (.call (.ref f) ⟨us,[]⟩) (CR CX0 outer P w H s Q E) s
structure LamScope(d:LamD)(fv ps:List Str):Prop where
 kind:d.scope.kind=.function
 co:d.scope.isCoroutine=false
 gen:d.scope.isGenerator=false
 nocell:∀ x∈d.scope.names,x.2≠.cell
 par:∀ x ∈ ps,d.scope.names.lookup x = some .local
 free:∀ x∈d.scope.names,x.2=.free→x.1∈fv
 fr:∀ x∈fv,d.scope.names.lookup x=some .free
 nd:(ps++fv).Nodup
theorem cM{α β:Type}[BEq α][LawfulBEq α]:∀{l:List (α×β)}{x:α}{u:β},l.lookup x=some u→(x,u)∈l
 | [],_,_,h=>by cases h
 | (y,w)::r,x,u,h=>by
  rw[lookup_cons]at h
  cases e:x == y with
  | true=>rw[e]at h; cases h; rw[eq_of_beq e]; exact mem_cons_self ..
  | false=>rw[e]at h; exact mem_cons_of_mem _ (cM h)
theorem mf{P:Program}{w:World}{K:Frag}{mg:Str→Option Value}{base:Heap}{d:LamD}{fv ps:List Str}{clos:List (Str×Addr)}{f c:Addr}{A:Around}{outer:List Env}{s:Shared}{H:Hp}{us:List Value}{vs vals:List V}{h1:Heap}{tk:Nat}
  (S:LamScope d fv ps) (hd:A.handled=none) (e0:Env0 P w K mg base A outer s H) (hl:vs.length=ps.length) (r:Vals vs us) (hfv:clos.map (·.1)=fv) (hnd:(clos.map (·.2)).Nodup) (ca:CellsAt H clos vals)
  (hns:h1.Ns s.heap.objs.size (fun x=>(ps.zip us).reverse.lookup x)) (hk:∀ b o,s.heap.get? b=some o→h1.get? b=some o) :
  Inv (cxL P w K mg base (ps++fv) d clos f c A outer s H) [] ((vs++vals).map some) (untrs H (clos.map (·.2))) { s with heap:=h1,toks:=tk }:=by
 have ndf:(clos.map (·.1)).Nodup:=by rw[hfv]; exact (nodup_append.mp S.nd).2.1
 have ndp:ps.Nodup:=(nodup_append.mp S.nd).1
 have lus:us.length=ps.length:=by rw[← r.length]; exact hl
 have hin:∀ x c',clos.lookup x=some c'→c'∈clos.map (·.2):=fun x c' e=>mem_map.mpr ⟨(x,c'),cM e,rfl⟩
 have cellOf:∀ b v,H b=some (.ext (dM b v))→∃ u,RelV v u∧h1.IsCell b (some u):=fun b v e=>by
  obtain ⟨⟨o,u,g1,g2,g3⟩,_⟩:=e0.hok b _ e
  exact ⟨u,g3,o,hk _ _ g1,g2⟩
 have noA:∀ b:Addr,b ∉ (cxL P w K mg base (ps++fv) d clos f c A outer s H).ex:=fun b z=>absurd (show b∈([]:List Addr) from z) (by simp)
 have lcl:clos.length=fv.length:=by rw[← hfv,length_map]
 have lva:vals.length=clos.length:=(Paired.length ca).symm
 refine ⟨⟨e0.mod,S.kind,rfl,rfl,Nat.le_refl _,fun y z c' h1 h2=>?_,fun y hy=>?_,fun y c' h=>(Bool.false_ne_true h).elim,fun _=>hd,Around.frames_deeper e0.frames,.inr ⟨rfl,rfl⟩,fun b z=>absurd z (noA b),fun b o e=>⟨(e0.bs b o e).1,dk (e0.bs b o e).2⟩,e0.bsz,fun b _ _=>noA b,fun b z=>absurd z (noA b),e0.funs,fun b hb=>dk (e0.frf b hb)⟩,
  rfl,e0.bare,Un.kept hk,⟨_,hns,fun i y v g1 g2 g3=>?_⟩,fun y c' h=>?_,dk (e0.hok.fresh (Nat.le_refl _)),fun y c' h=>gF (hin y c' h),fun p hp=>absurd (show p∈([]:List (Addr×Obj)) from hp) (by simp),fun b u e=>?_,?_⟩
 ·have h1:clos.lookup y=some c':=h1
  have h2:clos.lookup z=some c':=h2
  have e1:=cM h1
  have e2:=cM h2
  have nd2:((clos.map fun p=>(p.2,p.1)).map (·.1)).Nodup:=by rw[map_map]; exact hnd
  have:=jW nd2 (c',y) (mem_map.mpr ⟨_,e1,rfl⟩) (c',z) (mem_map.mpr ⟨_,e2,rfl⟩) rfl
  exact congrArg Prod.snd this
 ·have hy:d.scope.names.lookup y=some .cell∨d.scope.names.lookup y=some .free:=hy
  rcases hy with hy | hy
  ·exact absurd rfl (S.nocell _ (cM hy))
  ·have:=S.free _ (cM hy) rfl
   rw[← hfv]at this
   obtain ⟨p,hp,e⟩:=mem_map.mp this
   have e':p.1=y:=e
   exact ⟨p.2,dA ndf (by show (y,p.2)∈clos; rw[← e']; exact hp)⟩
 ·have g1:(ps++fv)[i]? = some y:=g1
  by_cases hi:i<ps.length
  ·rw[List.getElem?_append_left hi]at g1
   rw[List.getElem?_map,List.getElem?_append_left (by lia)]at g2
   have g2':vs[i]? = some v:=by
    cases q:vs[i]? with
    | none=>rw[q]at g2; cases g2
    | some x=>rw[q]at g2; cases g2; rfl
   obtain ⟨u,hu,rv⟩:=r.get g2'
   refine ⟨u,rv,.inl ⟨S.par y (List.mem_of_getElem? g1),?_⟩⟩
   have mem:(y,u)∈ps.zip us:=List.mem_of_getElem? (i:=i) (by rw[List.getElem?_zip_eq_some]; exact ⟨g1,hu⟩)
   refine dA ?_ (List.mem_reverse.mpr mem)
   rw[List.map_reverse]
   refine oV ?_
   have:(ps.zip us).map (·.1)=ps:=by rw[List.map_fst_zip]; lia
   rw[this]
   exact ndp
  ·rw[List.getElem?_append_right (by lia)]at g1
   rw[List.getElem?_map,List.getElem?_append_right (by lia)]at g2
   have g2':vals[i - ps.length]? = some v:=by
    rw[hl]at g2
    cases q:vals[i - ps.length]? with
    | none=>rw[q]at g2; cases g2
    | some x=>rw[q]at g2; cases g2; rfl
   obtain ⟨p,hp,e⟩:=ca.get g2'
   rw[← hfv,List.getElem?_map,hp]at g1
   cases g1
   obtain ⟨u,rv,ic⟩:=cellOf _ _ e
   have hmem:=List.mem_of_getElem? hp
   refine ⟨u,rv,.inr ⟨.inr (S.fr p.1 ?_),p.2,dA ndf hmem,ic⟩⟩
   rw[← hfv]
   exact mem_map.mpr ⟨p,hmem,rfl⟩
 ·obtain ⟨v,e⟩:=ca.at (hin y c' h)
  obtain ⟨u,_,ic⟩:=cellOf _ _ e
  exact ⟨_,ic⟩
 ·by_cases hb:b∈clos.map (·.2)
  ·rw[gF hb]at e; cases e
  ·rw[fM hb]at e
   refine (e0.hok b u e).stay (fun b' u' _ q=>hk b' u' q) (fun b' q=>?_) fun b' xs q=>?_
   ·exact cx ca q fun v z=>nomatch z
   ·exact cx ca q fun v z=>nomatch z
 ·show ((vs++vals).map some).length=(ps++fv).length
  rw[length_map,length_append,length_append]
  lia
section
variable {P:Program}{w:World}{K:Frag}{mg:Str→Option Value}{base:Heap}
theorem ko{d:LamD}{fv ps:List Str}{k:Nat}{sp:List V→Sp}(S:LamScope d fv ps)
  (hbind:∀(pm ctv:Value) (clos:List (Str×Addr)) (c:Addr) (us:List Value),us.length=ps.length→bindArgs (kla_fn "<lambda>" d.qual d.params d.body d.scope clos pm (.ref c) ctv) ⟨us,[]⟩=pure (ps.zip us))
  (len:∀ vals vs H Q E,sp vals vs H Q E→vs.length=ps.length)
  (hbody:∀(A:Around) (outer:List Env) (s:Shared) (H:Hp) (f c:Addr) (clos:List (Str×Addr)) (vals vs:List V) (Q:VK) (E:XK),Room k (A.deeper (jf d s.heap.objs.size f c clos))→clos.map (·.1)=fv→CellsAt H clos vals→sp vals vs H Q E →
   ∃ t,PE (cxL P w K mg base (ps++fv) d clos f c A outer s H) d.body t∧t ((vs++vals).map some) (untrs H (clos.map (·.2))) (fun v H'=>∀ H3,Same H' H3→(∀ p∈clos,H3 p.2=H p.2)→Q v H3)) :
  d8 P w K mg base (k+1) d fv ps sp:=by
 intro A outer s H f c clos us vs vals Q E hr e0 hf hc hfv hnd ca r hsp
 have hl:=len _ _ _ _ _ hsp
 have lus:us.length=ps.length:=by rw[← r.length]; exact hl
 obtain ⟨⟨pm,ctv,ef⟩,_,_⟩:=e0.hok f _ hf
 obtain ⟨⟨oc,cvs,ct,ec,ed,ev⟩,_,_⟩:=e0.hok c _ hc
 have lim:s.heap.NoLimit:=e0.mod.nolimit.keeps fun b o e=>(e0.bs b o e).1
 obtain ⟨t,ht,hq⟩:=hbody A outer s H f c clos vals vs Q E (hr.deeper _) hfv ca hsp
 refine PySem.W.kla_callFunE (body:=d.body) hr.depth ef rfl S.co S.gen rfl ⟨c,oc,cvs,ct,rfl,ec,ed,ev⟩ ?_
 rw[hbind pm ctv clos c us lus]
 refine wpAny_pure (wpAny_newFunctionEnv S.nocell (fun y hy=>S.par y.1 (of_mem_zip hy).1) (fun h1 hns hsb=>?_) S.kind)
 have hk:∀ b o,s.heap.get? b=some o→h1.get? b=some o:=fun b o e=>hsb.extBut b o (Nat.ne_of_lt (Heap.lt_size e)) (Heap.get?_push_of_some _ e)
 refine ⟨lim.fresh _ hsb,?_⟩
 show codeAny _ _ (.expr d.body (jf d s.heap.objs.size f c clos)) _ _
 have I:=mf (f:=f) (c:=c) (tk:=s.toks+(ps.zip us).length) S hr.hd e0 hl r hfv hnd ca hns hk
 refine PySem.W.kla_codeExpr (wpAny_mono (ht [] _ _ _ _ I hq) (fun u s' hs=>?_) fun e s' z=>False.elim z)
 obtain ⟨v,H',J,rv,q⟩:=hs
 obtain ⟨cs,hcs⟩:∃ cs,cs=clos.map (·.2):=⟨_,rfl⟩
 have ub:Un (frs outer) [] (untrs H (clos.map (·.2))) H' s.heap s'.heap:=J.base
 have hat:∀ b,b∈clos.map (·.2)→∃ o v,s.heap.get? b=some o∧H b=some (.ext (dM b v)):=fun b hb=>by
  obtain ⟨v,e⟩:=ca.at hb
  obtain ⟨⟨o,_,g,_⟩,_⟩:=e0.hok b _ e
  exact ⟨o,v,g,e⟩
 have hfr:∀ b∈clos.map (·.2),H' b=none:=fun b hb=>by
  obtain ⟨o,v,g,_⟩:=hat b hb
  exact ub.free b o g (gF hb) (by simp)
 let H3:Hp:=fun b=>if b∈clos.map (·.2) then H b else H' b
 have g1:∀ b,b∈clos.map (·.2)→H3 b=H b:=fun b hb=>if_pos hb
 have g2:∀ b,b ∉ clos.map (·.2)→H3 b=H' b:=fun b hb=>if_neg hb
 have sm:Same H' H3:=fun b o e=>by
  rw[g2 b fun z=>by rw[hfr b z]at e; cases e]
  exact e
 have up:∀ b o,H b=some o→(∀ v,o≠.ext (dM b v))→b ∉ clos.map (·.2):=fun b o e n z=>by
  obtain ⟨v,e'⟩:=ca.at z
  rw[e]at e'
  exact n v (Option.some.inj e')
 refine ⟨v,H3,J.os,J.bare,⟨fun b o e n hb hx=>ub.keep b o e (dk n) hb hx,fun b o e n hb hx=>ub.slot b o e (dk n) hb hx,fun b o e n hx=>?_,ub.there,fun b xs e=>?_,fun b o u e=>?_,fun b ps' e=>?_⟩,fun b o e=>?_,rv,q H3 sm fun p hp=>g1 p.2 (mem_map.mpr ⟨p,hp,rfl⟩)⟩
 ·rw[g2 b fun z=>by obtain ⟨_,v,_,e'⟩:=hat b z; rw[n]at e'; cases e']
  exact ub.free b o e (dk n) hx
 ·exact sm _ _ (ub.tups b xs (cx ca e fun v z=>nomatch z))
 ·exact sm _ _ (ub.frzs b o u (cx ca e fun v z=>nomatch z))
 ·obtain ⟨more,z⟩:=ub.tbls b ps' (cx ca e fun v z=>nomatch z)
  exact ⟨more,sm _ _ z⟩
 ·by_cases hb:b∈clos.map (·.2)
  ·rw[g1 b hb]at e
   obtain ⟨o',v',g,e'⟩:=hat b hb
   rw[e]at e'
   cases e'
   obtain ⟨⟨o2,u2,k1,k2,k3⟩,_⟩:=e0.hok b _ e
   refine lN ⟨o2,u2,ub.keep b o2 k1 (gF hb) (fun z=>?_) (by simp),k2,k3⟩
   rw[e0.frf b z]at e
   cases e
  ·rw[g2 b hb]at e
   refine (J.hok b o e).stay (fun b' u' _ q=>q) (fun b' q=>sm _ _ q) fun b' xs q=>sm _ _ q
end
theorem PE.or{X:Cx}{e:Expr}{t t':TE}(h:PE X e t)(h':PE X e t'):PE X e (fun σ H Q=>t σ H Q∨t' σ H Q):=fun pins s σ H Q I q=>q.elim (h pins s σ H Q I) (h' pins s σ H Q I)
def ww(d:LamD)(fv:List Str)(sp:List V→Sp):V→List V→Hp→VK→Prop:=fun v vs H Q=>∃ f c clos vals,v=.ref f∧H f=some (.ext (fQ f d clos c))∧H c=some (.ext (er c d.qual))∧clos.map (·.1)=fv∧(clos.map (·.2)).Nodup∧CellsAt H clos vals∧sp vals vs H Q fun _ _ _=>False
def w4(d:LamD)(fv:List Str)(sp:List V→Sp)(tf:TE)(t:TA):TE:=fun σ H Q=>tf σ H fun v H1=>(∃ f d' clos c,v=.ref f∧H1 f=some (.ext (fQ f d' clos c)))∧t σ H1 fun vs H2=>(∀ f d' clos c,v=.ref f→H1 f=some (.ext (fQ f d' clos c))→H2 f=some (.ext (fQ f d' clos c)))∧ww d fv sp v vs H2 Q
section
variable {X:Cx}{d:LamD}{fv ps:List Str}{k:Nat}{sp:List V→Sp}{x:Str}{p pos:Pos}{tf:TE}{t:TA}{e:Expr}{es:List Expr}
theorem nO{pins:List (Addr×Obj)}{σ:St}{H:Hp}{s:Shared}{Q:VK}{us:List Value}{vs:List V}{v:V}{u:Value}(L:d8 X.prog X.w X.K X.mg X.base k d fv ps sp)(hr:Room k X.A)(I:Inv X pins σ H s)(rv:RelV v u)(r:Vals vs us)(h:ww d fv sp v vs H Q) :
  wpAny (model X.prog X.w) X.A (call u us) (EP X pins σ Q) X.xe s:=by
 obtain ⟨f,c,clos,vals,rfl,hf,hc,h1,h2,h3,h4⟩:=h
 obtain rfl:u=Value.ref f:=rv
 refine wpAny_call (codeAny_mono (L X.A X.stack s H f c clos us vs vals Q _ hr I.env0 hf hc h1 h2 h3 r h4) fun r s' hq=>?_)
 cases r with
 | error e=>exact False.elim hq
 | ok fl =>
  cases fl with
  | ret u=>exact I.after hq
  | next=>exact False.elim hq
  | brk=>exact False.elim hq
  | cont=>exact False.elim hq
theorem kI{H:Hp}{s:Shared}{P:Program}{w:World}{f c:Addr}{d:LamD}{clos:List (Str×Addr)}(ok:HOk P w H s.heap)(hf:H f=some (.ext (fQ f d clos c))):FnAt f s.heap:=by
 obtain ⟨⟨pm,ctv,ef⟩,_,_⟩:=ok f _ hf
 exact ⟨_,_,_,_,ef⟩
theorem rJ(hn:PE X (.Name x p) tf)(L:d8 X.prog X.w X.K X.mg X.base k d fv ps sp)(hr:Room k X.A)(ha:PA X (e::es) t)
  (he:starEach (e::es) X.env=(false,eval e X.env)::starEach es X.env:=by rfl) (hpl:(backTo pos (starEach es X.env)).any (·.1)=false:=by rfl):PE X (.Call (.Name x p) (e::es) [] pos) (w4 d fv sp tf t):=by
 intro pins s σ H Q I h
 refine wpAny_Call_Name_kw (thn (hn pins s σ H _ I h) fun u s1 ⟨v,H1,I1,rv,⟨f,d',clos,c,ef,hf⟩,q⟩=>?_)
 subst ef
 obtain rfl:u=Value.ref f:=rv
 refine PySem.W.callWith_F (kI I1.hok hf) (thn (ha pos pins s1 σ H1 _ I1 q) fun us s2 ⟨vs,H2,I2,r,q2⟩=>⟨kI I2.hok (q2.1 _ _ _ _ rfl hf),?_⟩) he hpl
 exact nO L hr I2 (v:=.ref f) rfl r q2.2
theorem dX(hn:PE X (.Name x p) tf)(L:d8 X.prog X.w X.K X.mg X.base k d fv ps sp)(hr:Room k X.A):PE X (.Call (.Name x p) [] [] pos) (fun σ H Q=>tf σ H fun v H1=>ww d fv sp v [] H1 Q):=by
 intro pins s σ H Q I h
 refine wpAny_Call_Name_kw (thn (hn pins s σ H _ I h) fun u s1 ⟨v,H1,I1,rv,q⟩=>?_)
 obtain ⟨f,c,clos,vals,ef,hf,_⟩:=id q
 subst ef
 obtain rfl:u=Value.ref f:=rv
 exact PySem.W.callWith_F0 (kI I1.hok hf) (nO (us:=[]) L hr I1 (v:=.ref f) rfl .nil q)
end
abbrev TR:=VK→(V→St→Hp→Prop)→St→Hp→Prop
def PR(X:Cx)(sts:List Stmt)(t:TR):Prop :=
 ∀(pins:List (Addr×Obj)) (s:Shared) (σ:St) (H:Hp) (R:VK) (Z:V→St→Hp→Prop),Inv X pins σ H s→t R Z σ H →
  wpAny (model X.prog X.w) X.A (execs sts X.env) (fun f s'=>∃ u,f=.ret u∧((∃ v σ' H',Inv X pins σ' H' s'∧RelV v u∧(R v H'∨Z v σ' H'))∨∃ v H',s'.os=X.s₀.os∧AllBare s'.gens∧Un X.fs X.ex X.H₀ H' X.s₀.heap s'.heap∧HOk X.prog X.w H' s'.heap∧RelV v u∧R v H')) X.xe s
section
variable {X:Cx}{e:Expr}{te:TE}{pos:Pos}{st:Stmt}{rest:List Stmt}{t:TS}{u:TR}
theorem se(he:PE X e te):PR X [.Return (some e) pos] (fun _ Z σ H=>te σ H fun v H'=>Z v σ H'):=by
 intro pins s σ H R Z I h
 refine wpAny_execs_cons (wpAny_Return_some (thn (he pins s σ H _ I h) fun v s1 ⟨x,H1,I1,r1,q1⟩=>?_))
 exact ⟨v,rfl,.inl ⟨x,σ,H1,I1,r1,.inr q1⟩⟩
theorem j9(h1:PS X st t)(h2:PR X rest u):PR X (st::rest) (fun R Z σ H=>t { nx:=u R Z,rt:=R } σ H):=by
 intro pins s σ H R Z I h
 refine wpAny_execs_cons (thn (h1 pins s σ H { nx:=u R Z,rt:=R } I h) fun f s1 q=>?_)
 cases f with
 | next =>
  obtain ⟨σ',H',I',q⟩:=q
  exact h2 pins s1 σ' H' R Z I' q
 | ret v =>
  obtain ⟨v',σ',H',I',r,q⟩:=q
  exact ⟨v,rfl,.inl ⟨v',σ',H',I',r,.inl q⟩⟩
 | brk=>obtain ⟨_,_,_,q⟩:=q; exact False.elim q
 | cont=>obtain ⟨_,_,_,q⟩:=q; exact False.elim q
end
def kK(cells:List (Str×Addr))(N:List Str)(σ:St)(H3:Hp):Prop:=∀(i:Nat) (y:Str) (v:V) (c:Addr),N[i]? = some y→σ[i]? = some (some v)→cells.lookup y=some c→H3 c=some (.ext (dM c v))
theorem gY{y:Str}{c:Addr}:∀(names:List (Str×NameKind)) (n:Nat) (acc:List (Str×Addr)),(y,c)∈cellsFrom n names acc→(y,c)∈acc∨(y,NameKind.cell)∈names
 | [],n,acc,h=>.inl h
 | (x,k)::r,n,acc,h=>by
  unfold cellsFrom at h
  split at h
  ·rename_i hk
   rcases gY r (n+1) ((x,n)::acc) h with z | z
   ·rcases mem_cons.mp z with e | z
    ·cases e
     rw[eq_of_beq hk]
     exact .inr (mem_cons_self ..)
    ·exact .inl z
   ·exact .inr (mem_cons_of_mem _ z)
  ·rcases gY r n acc h with z | z
   ·exact .inl z
   ·exact .inr (mem_cons_of_mem _ z)
section
variable {P:Program}{w:World}{K:Frag}{mg:Str→Option Value}{base:Heap}
theorem vy{CX:CXT}{N:List Str}{qual:Str}{scope:Scope}{f:Addr}{cd:Value}{A:Around}{outer:List Env}{s s':Shared}{H H':Hp}{E:XK}{σ:St}(hN:N.Nodup)(hck:∀ p∈scope.names,p.2=.cell→scope.names.lookup p.1=some .cell)
  {pins:List (Addr×Obj)}(J:Inv (eK CX P w K mg base N qual scope f cd A outer s H E) pins σ H' s') :
  ∃ H3,Same H' H3∧kK (cellsFrom (s.heap.objs.size+1) scope.names []) N σ H3∧(∀ b,H' b=none→H3 b≠none→∃ y,(cellsFrom (s.heap.objs.size+1) scope.names []).lookup y=some b)∧Un (frs outer) [] H H3 s.heap s'.heap∧HOk P w H3 s'.heap:=by
 have hvis:∀ y c,(cellsFrom (s.heap.objs.size+1) scope.names []).lookup y=some c→scope.names.lookup y=some .cell:=fun y c e=>by
  rcases gY _ _ _ (cM e) with z | z
  ·cases z
  ·exact hck _ z rfl
 obtain ⟨cells,hcells⟩:∃ l,l=cellsFrom (s.heap.objs.size+1) scope.names []:=⟨_,rfl⟩
 rw[← hcells]at hvis ⊢
 have henv:(eK CX P w K mg base N qual scope f cd A outer s H E).env.cells=cells:=hcells.symm
 let G:Addr→V→Prop:=fun b v=>∃(i:Nat) (y:Str),N[i]? = some y∧σ[i]? = some (some v)∧cells.lookup y=some b
 have G1:∀ b v v',G b v→G b v'→v=v':=by
  rintro b v v' ⟨i,y,a1,a2,a3⟩ ⟨j,z,b1,b2,b3⟩
  have:y=z:=J.ok.inj y z b (by rw[henv]; exact a3) (by rw[henv]; exact b3)
  subst this
  have:i=j:=iN hN a1 b1
  subst this
  rw[a2]at b2
  cases b2
  rfl
 have G2:∀ b v,G b v→H' b=none∧s.heap.objs.size≤b∧dM b v s'.heap:=by
  rintro b v ⟨i,y,a1,a2,a3⟩
  refine ⟨J.freeC y b (by rw[henv]; exact a3),J.ok.cab y b rfl (by rw[henv]; exact a3),?_⟩
  obtain ⟨m,hn,hl⟩:=J.loc
  obtain ⟨u,r,l⟩:=hl i y v a1 a2 (.inr (.inl (hvis y b a3)))
  rcases l with ⟨k,_⟩ | ⟨k,c,e,o,ho,hd⟩
  ·exfalso
   have k:scope.names.lookup y = some .local:=k
   rw[hvis y b a3]at k
   cases k
  ·have e:cells.lookup y=some c:=by rw[← henv]; exact e
   rw[a3]at e
   cases e
   exact ⟨o,u,ho,hd,r⟩
 classical
 let H3:Hp:=fun b=>if h:∃ v,G b v then some (.ext (dM b (Classical.choose h))) else H' b
 have g1:∀ b v,G b v→H3 b=some (.ext (dM b v)):=fun b v h=>by
  have hx:∃ v,G b v:=⟨v,h⟩
  show (if h:∃ v,G b v then some (.ext (dM b (Classical.choose h))) else H' b)=_
  rw[dif_pos hx,G1 b _ v (Classical.choose_spec hx) h]
 have g2:∀ b,(¬∃ v,G b v)→H3 b=H' b:=fun b h=>dif_neg h
 have sm:Same H' H3:=fun b o e=>by
  rw[g2 b fun ⟨v,z⟩=>by rw[(G2 b v z).1]at e; cases e]
  exact e
 have jb:Un (frs outer) [] H H' s.heap s'.heap:=J.base
 refine ⟨H3,sm,fun i y v c a1 a2 a3=>g1 c v ⟨i,y,a1,a2,a3⟩,(fun b n1 n2=>?_),⟨jb.keep,jb.slot,fun b o e n hx=>?_,jb.there,fun b xs e=>sm _ _ (jb.tups b xs e),fun b o u e=>sm _ _ (jb.frzs b o u e),fun b ps e=>?_⟩,fun b o e=>?_⟩
 ·by_cases h:∃ v,G b v
  ·obtain ⟨v,i,y,_,_,a3⟩:=h
   exact ⟨y,a3⟩
  ·rw[g2 b h]at n2
   exact absurd n1 n2
 ·rw[g2 b fun ⟨v,z⟩=>absurd (Nat.lt_of_lt_of_le (Heap.lt_size e) (G2 b v z).2.1) (Nat.lt_irrefl _)]
  exact jb.free b o e n hx
 ·obtain ⟨more,z⟩:=jb.tbls b ps e
  exact ⟨more,sm _ _ z⟩
 ·by_cases h:∃ v,G b v
  ·obtain ⟨v,h⟩:=h
   rw[g1 b v h]at e
   cases e
   exact lN (G2 b v h).2.2
  ·rw[g2 b h]at e
   exact (J.hok b o e).stay (fun b' u' _ q=>q) (fun b' q=>sm _ _ q) fun b' xs q=>sm _ _ q
theorem tj{N:List Str}{qual:Str}{scope:Scope}{f:Addr}{cd:Value}{A:Around}{outer:List Env}{s:Shared}{H:Hp}{E:XK}{k:Nat}{g:Addr}{fd:FuncData}{ps:List Str}{sp:Sp}{ds:List Value}{dvs:List V}{x:Str}{p pos rp:Pos}{e:Expr}{es:List Expr}{t:TA}
  (hN:N.Nodup) (hck:∀ p∈scope.names,p.2=.cell→scope.names.lookup p.1=some .cell)
  (F:FnOk P w K mg base CX0 k g fd ps sp) (hr:Room k (eK CX0 P w K mg base N qual scope f cd A outer s H E).nox.A) (hg:Gl (eK CX0 P w K mg base N qual scope f cd A outer s H E).nox x) (hm:mg x=some (.ref g)) (hk:keepIn K (.ref g)=true) (hb:Binds K fd ps ds) (hd:Vals dvs ds)
  (ha:PA (eK CX0 P w K mg base N qual scope f cd A outer s H E).nox (e::es) t) (hdb:(x == ("__debug__" : Str))=false:=by decide)
  (he:starEach (e::es) (eK CX0 P w K mg base N qual scope f cd A outer s H E).nox.env=(false,eval e (eK CX0 P w K mg base N qual scope f cd A outer s H E).nox.env)::starEach es (eK CX0 P w K mg base N qual scope f cd A outer s H E).nox.env:=by rfl)
  (hpl:(backTo pos (starEach es (eK CX0 P w K mg base N qual scope f cd A outer s H E).nox.env)).any (·.1)=false:=by rfl) :
  PR (eK CX0 P w K mg base N qual scope f cd A outer s H E).nox [.Return (some (.Call (.Name x p) (e::es) [] pos)) rp]
   (fun R _ σ H'=>t σ H' fun vs H1=>∀ H3,Same H1 H3→kK (cellsFrom (s.heap.objs.size+1) scope.names []) N σ H3→sp (vs++dvs) H3 R fun _ _ _=>False):=by
 intro pins s1 σ H1 R Z I h
 refine wpAny_execs_cons (wpAny_Return_some ?_)
 refine wpAny_Call_Name_kw (eZ I hg hm ?_ hdb)
 refine callWith_K (h₀:=base) I.ok.mod.kin hk (thn (ha pos pins s1 σ H1 _ I h) fun us s2 ⟨vs,H2,I2,r,q⟩=>⟨I2.kIn,?_⟩) he hpl
 have J:Inv (eK CX0 P w K mg base N qual scope f cd A outer s H E) pins σ H2 s2:=I2.unwish
 obtain ⟨H3,sm,hc,hnew,un,hok⟩:=vy hN hck J
 have r2:Vals (vs++dvs) (us++ds):=r.append hd
 have q':=q H3 sm hc
 have hl:(us++ds).length=ps.length:=by rw[← r2.length]; exact F.len _ _ _ _ q'
 have hL:∀ b∈frs (envOfC qual scope s.heap.objs.size f cd::outer),b=s.heap.objs.size∨b∈frs outer:=fun b hb=>by
  have:b∈s.heap.objs.size::frs outer:=hb
  exact mem_cons.mp this
 have e0:Env0 P w K mg base (eK CX0 P w K mg base N qual scope f cd A outer s H E).A (envOfC qual scope s.heap.objs.size f cd::outer) s2 H3:=by
  have z:=J.env0
  refine ⟨z.frames,z.mod,fun b o e=>⟨(z.bs b o e).1,un.free b o (J.ok.bs b o e).1 (J.ok.bs b o e).2 (by simp)⟩,z.bsz,z.funs,fun b hb=>?_,hok,z.bare⟩
  cases q3:H3 b with
  | none=>rfl
  | some o =>
   obtain ⟨y,hy⟩:=hnew b (z.frf b hb) (by rw[q3]; simp)
   rcases hL b hb with rfl | hb'
   ·exact absurd rfl (J.cne y _ hy)
   ·obtain ⟨_,o',ho',_⟩:=J.ok.funs.mem hb'
    have:=J.ok.cab y b rfl hy
    exact absurd (Nat.lt_of_lt_of_le (Heap.lt_size ho') this) (Nat.lt_irrefl _)
 refine wpAny_call (codeAny_mono (F.run _ _ s2 H3 ⟨us,[]⟩ (us++ds) (vs++dvs) R _ hr e0 (hb s2 us J.kIn hl) r2 q') fun rr s' hq=>?_)
 cases rr with
 | error e=>exact False.elim hq
 | ok fl =>
  cases fl with
  | ret u =>
   obtain ⟨v,H4,os,bare,un2,hok4,rv,qq⟩:=hq
   have hout:∀ b o,s.heap.get? b=some o→b ∉ frs outer→b ∉ frs (envOfC qual scope s.heap.objs.size f cd::outer):=fun b o e n z=>by
    rcases hL b z with rfl | z
    ·exact absurd (Heap.lt_size e) (Nat.lt_irrefl _)
    ·exact n z
   have hin:∀ b,b∈frs outer→b∈frs (envOfC qual scope s.heap.objs.size f cd::outer):=fun b z=>by
    show b∈s.heap.objs.size::frs outer
    exact mem_cons_of_mem _ z
   refine ⟨u,rfl,.inr ⟨v,H4,os.trans J.os,bare,⟨fun b o e n hb hx=>un2.keep b o (un.keep b o e n hb hx) (un.free b o e n hx) (hout b o e hb) hx,fun b o e n hb hx=>?_,fun b o e n hx=>?_,fun b o e hx=>?_,fun b xs e=>un2.tups b xs (un.tups b xs e),fun b o u e=>un2.frzs b o u (un.frzs b o u e),fun b qs e=>?_⟩,hok4,rv,qq⟩⟩
   ·obtain ⟨sl,e1⟩:=un.slot b o e n hb hx
    obtain ⟨sl',e2⟩:=un2.slot b _ e1 (un.free b o e n hx) (hin b hb) hx
    exact ⟨sl',e2⟩
   ·obtain ⟨o',e1⟩:=un.there b o e hx
    exact un2.free b o' e1 (un.free b o e n hx) hx
   ·obtain ⟨o',e1⟩:=un.there b o e hx
    exact un2.there b o' e1 hx
   ·obtain ⟨m1,e1⟩:=un.tbls b qs e
    obtain ⟨m2,e2⟩:=un2.tbls b _ e1
    exact ⟨m1++m2,by rw[e2,Array.append_assoc]⟩
  | next=>exact False.elim hq
  | brk=>exact False.elim hq
  | cont=>exact False.elim hq
theorem Fun.okL{x qual:Str}{st:Stmt}{f c:Addr}{fd:FuncData}{N ps:List Str}{k:Nat}{sp:Sp}(F:Fun K x qual st f fd)(hc:fd.code=.ref c)(S:FnScope N ps (ad st))(hck:∀ p∈(ad st).names,p.2=.cell→(ad st).names.lookup p.1=some .cell)
  (len:∀ vs H Q E,sp vs H Q E→vs.length=ps.length)
  (hbody:∀(A:Around) (outer:List Env) (s:Shared) (H:Hp) (vs:List V) (Q:VK) (E:XK),Room k (A.deeper (envOfC qual (ad st) s.heap.objs.size f (.ref c)))→sp vs H Q E →
   ∃ t,PR (eK CX0 P w K mg base N qual (ad st) f (.ref c) A outer s H E).nox (ah st) t∧t Q (fun v σ H'=>∀ H3,Same H' H3→kK (cellsFrom (s.heap.objs.size+1) (ad st).names []) N σ H3→Q v H3) (start N vs) H):FnOk P w K mg base CX0 (k+1) f fd ps sp:=by
 obtain ⟨oc,od,kV,doc,pm,an,cdv,ct,osl,rfl,lk,hcd⟩:=F.ex
 obtain rfl:cdv=.ref c:=hc
 refine ⟨len,fun A outer s H args us vs Q E hr e0 hb r hsp=>?_⟩
 have hl:=len _ _ _ _ hsp
 have KX:K.In s.heap:=e0.mod.kin.keeps fun b o e=>(e0.bs b o e).1
 have lim:s.heap.NoLimit:=e0.mod.nolimit.keeps fun b o e=>(e0.bs b o e).1
 have hkind:∀ y ∈ ps.zip us,(ad st).names.lookup y.1 = some .local∨((ad st).names.lookup y.1 = some .cell∧((cellsFrom (s.heap.objs.size + 1) (ad st).names []).lookup y.1).isSome = true):=fun ⟨n,v⟩ hy=>by
  rcases S.par n (of_mem_zip hy).1 with q | q
  ·exact .inl q
  ·exact .inr ⟨q,cellsFrom_some _ _ _ (.inl q)⟩
 refine codeAny_call_function hr.depth (KX _ _ lk) rfl S.co S.gen rfl (codeRec_of KX hcd) (hb _ _ _ _ ?_)
 refine wpAny_newFunctionEnv_cells S.kind hkind fun env he s1 x=>?_
 subst he
 refine ⟨lim.keeps x.toInCall.keep,codeAny_func ?_⟩
 obtain ⟨t,ht,hq⟩:=hbody A outer s H vs Q E (hr.deeper _) hsp
 have I:Inv (eK CX0 P w K mg base N qual (ad st) f (.ref c) A outer s H E) [] (start N vs) H s1:=jC S hr.hd e0 hl r x
 refine wpAny_mono (ht [] s1 (start N vs) H Q _ (I.wish _) hq) (fun fl s' hs=>?_) fun e s' hs=>False.elim hs
 obtain ⟨u,rfl,⟨v,σ',H',J,rv,q⟩ | ⟨v,H',g1,g2,g3,g4,rv,q⟩⟩:=hs
 ·have J:=J.unwish
  rcases q with q | q
  ·exact ⟨v,H',J.os,J.bare,J.base,J.hok,rv,q⟩
  ·obtain ⟨H3,h1,h2,_,h3,h4⟩:=vy S.nd hck J
   exact ⟨v,H3,J.os,J.bare,h3,h4,rv,q H3 h1 h2⟩
 ·exact ⟨v,H',g1,g2,g3,g4,rv,q⟩
end
theorem oN{P:Program}{w:World}{K:Frag}{mg mb:Str→Option Value}{CX:CXT}{k:Nat}{fa a:Addr}{fd:FuncData}{x:Str}{sp:Sp}{s₁:Shared}{vs:List Value}{ns:List Int}{ts:List Addr}
  (KX:K.In s₁.heap) (hns:s₁.heap.Ns mainGlobals mg) (hb:s₁.heap.Ns builtinsNs mb) (hbb:∀ x:Str,x ≠ "__name__" → mb x=bootBuiltins x) (hlim:s₁.heap.NoLimit) (hg:s₁.gens = #[])
  (ha:s₁.heap.get? a=some { cls:=.type "list",data:=.seq vs.toArray }) (hi:IntsAre vs ns) (hl:ns.length≤sizeLine) (hr:Room k callerA) (hbm:Bm mg s₁.heap)
  (htab:∀ P∈ts,s₁.heap.get? P=some (tabObj #[])) (htc:∀ P∈ts,∃ c,codeHdIn K c P=true) (htK:∀ P∈ts,K.lookup P=none)
  (F:∀ base:Heap,K.In base→base.Ns mainGlobals mg→Bm mg base→FnOk P w K mg base CX k fa fd [x] sp) (hbind:∀(s:Shared) (u:Value),BindsTo s fd ⟨[u],[]⟩ [(x,u)])
  (hsp:∀ H:Hp,(∀ P∈ts,H P=some (.tbl #[]))→SqL K H a (ns.map V.int)→sp [.ref a] H (fun v _=>v=.bl true) fun _ _ _=>False)
  (hCX:∀ H e s',CX [] H s₁ (fun _ _ _=>False) e s'→False) :
  codeAny (model P w) callerA (.call (.ref fa) ⟨[.ref a],[]⟩) (fun r s'=>r=.ok (.ret (.bool true))∧OldK s₁.heap s'.heap∧s'.os=s₁.os∧AllBare s'.gens) s₁:=by
 have rv:=jK hi
 have lenV:=hi.length
 have nat:a ∉ ts:=fun z=>by have:=htab a z; rw[ha]at this; cases this
 have core:∀ H:Hp,(∀ P∈ts,H P=some (.tbl #[]))→SqL K H a (ns.map V.int)→HOk P w H s₁.heap→(∀ b u,H b=some u→(b=a∧∃ o xs,u=.frz o (.lst xs))∨(b∈ts∧u=.tbl #[]))→(H a≠none→K.lookup a=none) →
   codeAny (model P w) callerA (.call (.ref fa) ⟨[.ref a],[]⟩) (fun r s'=>r=.ok (.ret (.bool true))∧OldK s₁.heap s'.heap∧s'.os=s₁.os∧AllBare s'.gens) s₁:=by
  intro H hT hS hok hA hK
  have base_of:∀{b:Addr}{o:Obj},s₁.heap.get? b=some o→H b=none→(jr s₁.heap H).get? b=some o:=fun e n=>qF e n
  have noA:∀{b:Addr}{o:Obj},s₁.heap.get? b=some o→o.cls≠.none→(∀ its n,o.data≠.seq its n)→H b=none:=fun {b o} e d1 d2=>by
   cases q:H b with
   | none=>rfl
   | some u =>
    rcases hA b u q with ⟨rfl,_⟩ | ⟨hb,_⟩
    ·rw[ha]at e; cases e; exact (d2 _ _ rfl).elim
    ·rw[htab b hb]at e; cases e; exact (d1 rfl).elim
  have noD:∀{b:Addr}{o:Obj}{es:Array DictEntry}{ep:Nat},s₁.heap.get? b=some o→o.data=.dict es ep→H b=none:=fun {b o es ep} e d=>by
   cases q:H b with
   | none=>rfl
   | some u =>
    rcases hA b u q with ⟨rfl,_⟩ | ⟨hb,_⟩
    ·rw[ha]at e; cases e
     have d':Data.seq vs.toArray _=Data.dict es ep:=d
     cases d'
    ·rw[htab b hb]at e; cases e; cases d
  have nsK:∀{b:Addr}{m:Str→Option Value},s₁.heap.Ns b m→(jr s₁.heap H).Ns b m:=fun {b m} ⟨o,es,ep,e,d,r⟩=>⟨o,es,ep,base_of e (noD e d),d,r⟩
  have hKb:K.In (jr s₁.heap H):=fun b o e=>base_of (KX b o e) (by
   cases q:H b with
   | none=>rfl
   | some u =>
    rcases hA b u q with ⟨rfl,_⟩ | ⟨hb,_⟩
    ·rw[hK (by rw[q]; simp)]at e; cases e
    ·rw[htK b hb]at e; cases e)
  have hM:Mod K mg (jr s₁.heap H):=⟨hKb,nsK hns,⟨mb,nsK hb,hbb⟩,let ⟨mc,h1,h2⟩:=hlim; ⟨mc,nsK h1,h2⟩⟩
  have hB:Bm mg (jr s₁.heap H):=by
   obtain ⟨bm,ob,b1,b2,b3,b4,b5⟩:=hbm
   exact ⟨bm,ob,b1,base_of b2 (noA b2 (by rw[b3]; simp) (fun its n=>by rw[b5]; intro z; cases z)),b3,b4,b5⟩
  have e0:Env0 P w K mg (jr s₁.heap H) callerA [] s₁ H:=⟨rfl,hM,fun b o e=>u8 e,Nat.le_of_eq (pM _ _),trivial,fun b hb=>absurd (show b∈([]:List Addr) from hb) (by simp),hok,.of_eq hg⟩
  refine codeAny_mono ((F _ hKb (nsK hns) hB).run callerA [] s₁ H ⟨[.ref a],[]⟩ [.ref a] [.ref a] _ _ hr e0 (hbind s₁ (.ref a)) (.cons rfl .nil) (hsp H hT hS)) fun r s' h=>?_
  cases r with
  | error e=>exact (hCX H e s' h).elim
  | ok fl =>
   cases fl with
   | next=>exact False.elim h
   | brk=>exact False.elim h
   | cont=>exact False.elim h
   | ret u =>
    obtain ⟨v,H',os,bare,un,hok',r',q⟩:=h
    have q':v=.bl true:=q
    subst q'
    obtain rfl:u=Value.bool true:=r'
    refine ⟨rfl,⟨fun b o e=>?_,fun b o e=>un.there b o e (by simp)⟩,os,bare⟩
    cases q:H b with
    | none=>exact .inl (un.keep b o e q (by intro z; exact absurd (show b∈([]:List Addr) from z) (by simp)) (by simp))
    | some u =>
     rcases hA b u q with ⟨_,ob,xs,rfl⟩ | ⟨hb,rfl⟩
     ·have z2:=un.frzs b ob _ q
      obtain ⟨e1,_⟩:=hok b _ q
      obtain ⟨e2,_⟩:=hok' b _ z2
      rw[e]at e1; cases e1
      exact .inl e2
     ·obtain ⟨c,hc⟩:=htc b hb
      have C:=codeHd_of_K KX hc
      obtain ⟨more,z⟩:=un.tbls b _ q
      have z2:s'.heap.get? b=some (tabObj (#[]++more)):=hok' b _ z
      rw[htab b hb]at e
      cases e
      exact .inr (.inl ⟨(C.tab (htab b hb)).isCodeTable,rfl,#[],more,rfl,z2⟩)
 let T:Hp:=fun b=>if b∈ts then some (.tbl #[]) else none
 cases hk:K.lookup a with
 | some o =>
  have e:=KX a o hk
  rw[ha]at e
  cases e
  refine core T (fun P hP=>if_pos hP) (.inr ⟨_,vs.toArray,_,hk,rfl,rfl,rfl,by rw[size_toArray,lenV]; exact hl,by simpa using rv⟩) (fun b u z=>?_) (fun b u z=>?_) fun z=>absurd (if_neg nat) z
  ·by_cases hb:b∈ts
   ·have z':=(if_pos hb).symm.trans z
    cases z'
    exact htab b hb
   ·have z':=(if_neg hb).symm.trans z
    cases z'
  ·by_cases hb:b∈ts
   ·have z':=(if_pos hb).symm.trans z
    cases z'
    exact .inr ⟨hb,rfl⟩
   ·have z':=(if_neg hb).symm.trans z
    cases z'
 | none =>
  refine core (fun b=>if b=a then some (.frz { cls:=.type "list",data:=.seq vs.toArray } (.lst (ns.map V.int))) else T b) (fun P hP=>?_) (.inl (.inr ⟨{ cls:=.type "list",data:=.seq vs.toArray },if_pos rfl⟩)) (fun b u z=>?_) (fun b u z=>?_) fun _=>hk
  ·have hne:P≠a:=fun z=>nat (by rw[← z]; exact hP)
   exact (if_neg hne).trans (if_pos hP)
  ·by_cases hb:b=a
   ·have z':=(if_pos hb).symm.trans z
    cases z'
    subst hb
    exact ⟨ha,by rw[length_map]; exact hl,vs,_,rv,ha⟩
   ·have z':=(if_neg hb).symm.trans z
    by_cases hb:b∈ts
    ·have z':=(if_pos hb).symm.trans z'
     cases z'
     exact htab b hb
    ·have z':=(if_neg hb).symm.trans z'
     cases z'
  ·by_cases hb:b=a
   ·have z':=(if_pos hb).symm.trans z
    cases z'
    exact .inl ⟨hb,_,_,rfl⟩
   ·have z':=(if_neg hb).symm.trans z
    by_cases hb:b∈ts
    ·have z':=(if_pos hb).symm.trans z'
     cases z'
     exact .inr ⟨hb,rfl⟩
    ·have z':=(if_neg hb).symm.trans z'
     cases z'
theorem walk_ofT{l:PySem.W.OpenLaw}{n k:Nat}{q:Program}{loose:List Str}{XP:(Str→Option Value)→Heap→Prop}{YP:World→Heap→Prop}{d:DefRec}{K:Params→Frag}{CX:CXT}{sp:Frag→List Addr→Sp}{x:Str}{ts:List Addr}
  (hn:l.most=some n) (hn2:n≤sizeLine) (hdf:d.params.defaults=[]) (hr:Room k callerA)
  (hY:∀(w:World) (h:Heap),YP w h→(K w.params).In h∧∀ P∈ts,h.get? P=some (tabObj #[]))
  (F:∀(ts':List Addr),ts'=ts→∀(w:World) (mg:Str→Option Value) (fa:Addr) (h:Heap),(K w.params).In h→h.Ns mainGlobals mg→mg d.name=some (.ref fa) →
   ∃ fd:FuncData,(∀(s:Shared) (u:Value),BindsTo s fd ⟨[u],[]⟩ [(x,u)])∧(∀ P∈ts,∃ c,codeHdIn (K w.params) c P=true)∧(∀ P∈ts,(K w.params).lookup P=none) ∧
    ∀ base:Heap,(K w.params).In base→base.Ns mainGlobals mg→Bm mg base→FnOk l.prog w (K w.params) mg base CX k fa fd [x] (sp (K w.params) ts))
  (hsp:∀(K:Frag) (H:Hp) (a:Addr) (ns:List Int),ns.length≤n→(∀ P∈ts,H P=some (.tbl #[]))→SqL K H a (ns.map V.int)→sp K ts [.ref a] H (fun v _=>v=.bl true) fun _ _ _=>False)
  (hCX:∀(H:Hp) (s:Shared) (e:Value) (s':Shared),CX [] H s (fun _ _ _=>False) e s'→False) :
  PySem.W.WalkO q loose XP YP l.row.toRowW d [] (fun f vs=>PySem.call f vs):=by
 refine Att.attach_call hn hdf fun w s₀ s₁ mg mb fa o pm cd doc a vs ns G Y ho hd hcd hmg hobj hints hlen hg=>?_
 obtain ⟨KX,hT⟩:=hY w _ Y
 obtain ⟨fd,hb,htc,htK,hF⟩:=F ts rfl w mg fa _ KX G.T.g hmg
 have hbm:Bm mg s₁.heap:=let ⟨bm,ob,b1,_,b3,b4,b5,b6⟩:=G.T.bmain; ⟨bm,ob,b1,b3,b4,b5,b6⟩
 exact oN KX G.T.g G.T.b G.T.builtins G.T.nolimit hg hobj hints (Nat.le_trans hlen hn2) hr hbm hT htc htK hF hb (fun H hO hS=>hsp (K w.params) H a ns hlen hO hS) fun H e s'=>hCX H s₁ e s'
end L2
namespace FrM
def cI(t b:Int):Int×Int:=(t/(Int.gcd t b:Int),b/(Int.gcd t b:Int))
theorem gv{t b:Int}(hb:0<b):Low t b (cI t b).1 (cI t b).2:=(low t b hb).2.2.1
theorem qQ{T B t b:Int}(hB:0<B)(h:Low T B t b):(t,b)=cI T B:=by
 obtain ⟨e1,e2⟩:=h.uniq (by lia) (gv hB)
 rw[e1,e2]
def sz(z:List Int)(k:Nat):Int:=z.getD k 0
def aW(z:List Int)(l:List Nat):Int:=(l.map (sz z)).sum
def stay(z:List Int)(l:List Nat)(w:Int):List Nat:=l.filter fun k=>decide (sz z k*w<aW z l)
theorem gz(z:List Int)(l:List Nat)(w:Int):(stay z l w).length≤l.length:=length_filter_le _ _
def fin(z:List Int)(l:List Nat)(w:Int):List Nat×Int :=
 if (stay z l w).length=l.length then (l,w) else fin z (stay z l w) (w - ((l.length:Int) - ((stay z l w).length:Int)))
termination_by l.length
decreasing_by
 have:=gz z l w
 lia
theorem gt{z:List Int}{l:List Nat}{w:Int}(h:(stay z l w).length=l.length):fin z l w=(l,w):=by
 rw[fin,if_pos h]
theorem kC{z:List Int}{l:List Nat}{w:Int}(h:(stay z l w).length≠l.length):fin z l w=fin z (stay z l w) (w - ((l.length:Int) - ((stay z l w).length:Int))):=by
 rw[fin,if_neg h]
theorem eu(z:List Int):∀(l:List Nat),(∀ k∈l,1≤sz z k)→(l.length:Int)≤aW z l
 | [],_=>by simp[aW]
 | a::l,h=>by
  have:=eu z l (fun k hk=>h k (mem_cons_of_mem _ hk))
  have h1:=h a mem_cons_self
  unfold aW at *
  rw[map_cons,sum_cons,length_cons]
  lia
theorem gs(z:List Int)(M:Int):∀(l:List Nat),(∀ k∈l,sz z k≤M)→aW z l≤(l.length:Int)*M
 | [],_=>by simp[aW]
 | a::l,h=>by
  have:=gs z M l (fun k hk=>h k (mem_cons_of_mem _ hk))
  have h1:=h a mem_cons_self
  unfold aW at *
  rw[map_cons,sum_cons,length_cons]
  have e:((l.length+1:Nat):Int)*M=(l.length:Int)*M+M:=by rw[Int.natCast_add,Int.add_mul]; simp
  rw[e]
  lia
theorem gk(z:List Int)(w S:Int):∀(l:List Nat),(∀ k∈l,S≤sz z k*w)→(l.length:Int)*S≤aW z l*w
 | [],_=>by simp[aW]
 | a::l,h=>by
  have:=gk z w S l (fun k hk=>h k (mem_cons_of_mem _ hk))
  have h1:=h a mem_cons_self
  unfold aW at *
  rw[map_cons,sum_cons,length_cons,Int.add_mul]
  have e:((l.length+1:Nat):Int)*S=(l.length:Int)*S+S:=by rw[Int.natCast_add,Int.add_mul]; simp
  rw[e]
  lia
theorem lu{z:List Int}{l:List Nat}{w:Int}(hz:∀ k∈l,1≤sz z k)(hw:w<l.length)(hl:0<l.length):0<(stay z l w).length:=by
 by_cases h:0<(stay z l w).length
 ·exact h
 ·exfalso
  have e:stay z l w=[]:=List.length_eq_zero_iff.mp (by lia)
  have hall:∀ k∈l,aW z l≤sz z k*w:=fun k hk=>by
   have:=(List.filter_eq_nil_iff.mp e) k hk
   simp at this
   exact this
  have h1:=gk z w (aW z l) l hall
  have h2:=eu z l hz
  have h3:0<aW z l:=by lia
  rw[Int.mul_comm (aW z l) w]at h1
  have:=Int.le_of_mul_le_mul_right h1 h3
  lia
structure Rnd(z:List Int)(n:Nat)(m:Int)(l:List Nat)(w:Int):Prop where
 pos:0<l.length
 sub:∀ k∈l,k<n
 lt:w<l.length
 dif:w - l.length=m - n
 fil:l=(List.range n).filter fun k=>decide (k∈l)
theorem Rnd.len{z:List Int}{n:Nat}{m:Int}{l:List Nat}{w:Int}(h:Rnd z n m l w):l.length≤n:=by
 have e:=congrArg List.length h.fil
 have:=length_filter_le (fun k=>decide (k∈l)) (List.range n)
 rw[length_range]at this
 lia
theorem Rnd.start{z:List Int}{n:Nat}{m:Int}(h0:0<n)(hm:m<n):Rnd z n m (List.range n) m:=by
 refine ⟨by rw[length_range]; exact h0,fun k hk=>mem_range.mp hk,by rw[length_range]; exact hm,by rw[length_range],?_⟩
 rw[List.filter_eq_self.mpr]
 intro k hk
 exact decide_eq_true hk
theorem Rnd.step{z:List Int}{n:Nat}{m:Int}{l:List Nat}{w:Int}(hz:∀ k,k<n→1≤sz z k)(h:Rnd z n m l w):Rnd z n m (stay z l w) (w - ((l.length:Int) - ((stay z l w).length:Int))):=by
 have hp:=lu (fun k hk=>hz k (h.sub k hk)) h.lt h.pos
 refine ⟨hp,fun k hk=>h.sub k (mem_filter.mp hk).1,by have:=h.lt; lia,by have:=h.dif; lia,?_⟩
 have e:(List.range n).filter (fun k=>decide (k∈stay z l w))=((List.range n).filter fun k=>decide (k∈l)).filter fun k=>decide (sz z k*w<aW z l):=by
  rw[List.filter_filter]
  refine List.filter_congr fun k _=>?_
  rw[Bool.eq_iff_iff]
  simp[stay]
  exact And.comm
 rw[e,← h.fil]
 rfl
theorem Rnd.fin{z:List Int}{n:Nat}{m:Int}(hz:∀ k,k<n→1≤sz z k):∀(c:Nat) (l:List Nat) (w:Int),l.length≤c→Rnd z n m l w→Rnd z n m (fin z l w).1 (fin z l w).2
 | 0,l,w,hc,h=>absurd h.pos (by lia)
 | c+1,l,w,hc,h=>by
  by_cases e:(stay z l w).length=l.length
  ·rw[gt e]; exact h
  ·rw[kC e]
   have:=gz z l w
   exact Rnd.fin hz c _ _ (by lia) (h.step hz)
theorem oA(q:Nat→Bool)(f:Nat→Int)(c:Int):∀ r:List Nat,(r.map fun k=>if q k=true then f k else c).sum=((r.filter q).map f).sum+((r.length:Int) - ((r.filter q).length:Int))*c
 | []=>by simp
 | a::r=>by
  have ih:=oA q f c r
  rw[map_cons,sum_cons,ih]
  by_cases h:q a=true
  ·rw[if_pos h,filter_cons_of_pos h,map_cons,sum_cons,length_cons,length_cons]
   have:((r.length+1:Nat):Int) - (((r.filter q).length+1:Nat):Int)=(r.length:Int) - ((r.filter q).length:Int):=by lia
   rw[this]
   lia
  ·rw[if_neg h,filter_cons_of_neg h,length_cons]
   have e:((r.length+1:Nat):Int) - ((r.filter q).length:Int)=(r.length:Int) - ((r.filter q).length:Int)+1:=by lia
   rw[e,Int.add_mul]
   lia
theorem lX(f:Nat→Int)(w:Int):∀ r:List Nat,(r.map fun k=>f k*w).sum=(r.map f).sum*w
 | []=>by simp
 | a::r=>by
  rw[map_cons,sum_cons,lX f w r,map_cons,sum_cons,Int.add_mul]
structure Top(m:Int)(n:Nat)(S:Int)(N:Nat→Int):Prop where
 pos:0<S
 all:((List.range n).map N).sum=m*S
theorem Top.of_rnd{z:List Int}{n:Nat}{m:Int}{l:List Nat}{w:Int}(hz:∀ k,k<n→1≤sz z k)(h:Rnd z n m l w):Top m n (aW z l) fun k=>if decide (k∈l)=true then sz z k*w else aW z l:=by
 have h1:=eu z l fun k hk=>hz k (h.sub k hk)
 refine ⟨by have:=h.pos; lia,?_⟩
 rw[oA,← h.fil,lX,length_range]
 show aW z l*w+((n:Int) - (l.length:Int))*aW z l=m*aW z l
 have e:m=w+((n:Int) - (l.length:Int)):=by have:=h.dif; lia
 rw[e,Int.add_mul,Int.mul_comm (aW z l) w]
theorem gQ(c:Int):∀ r:List Nat,(r.map fun _=>c).sum=(r.length:Int)*c
 | []=>by simp
 | a::r=>by
  rw[map_cons,sum_cons,gQ c r,length_cons]
  have:((r.length+1:Nat):Int)*c=(r.length:Int)*c+c:=by rw[Int.natCast_add,Int.add_mul]; simp
  rw[this]
  lia
theorem wL{N S t b:Int}(hS:0<S)(h:Low N S t b):b≤S∧t.natAbs≤N.natAbs:=by
 have hb:=h.pos
 have d:b ∣ S:=gu h.cop ⟨N,by rw[h.eq,Int.mul_comm]⟩
 have hle:=Int.le_of_dvd hS d
 refine ⟨hle,?_⟩
 have e:=congrArg Int.natAbs h.eq
 rw[Int.natAbs_mul,Int.natAbs_mul]at e
 have h1:b.natAbs≤S.natAbs:=by lia
 have h2:0<S.natAbs:=by lia
 have h3:N.natAbs*b.natAbs≤N.natAbs*S.natAbs:=Nat.mul_le_mul_left _ h1
 rw[← e]at h3
 exact Nat.le_of_mul_le_mul_right h3 h2
def due(z:List Int)(m:Int):List (Int×Int) :=
 if (z.length:Int)≤m then z.map fun _=>(1,1) else if m=0 then z.map fun _=>(0,1)
 else (List.range z.length).map fun k=>if decide (k∈(fin z (List.range z.length) m).1)=true then cI (sz z k*(fin z (List.range z.length) m).2) (aW z (fin z (List.range z.length) m).1) else (1,1)
theorem cu(z:List Int)(m:Int):(due z m).length=z.length:=by
 unfold due
 split
 ·simp
 ·split <;> simp
theorem ug{z:List Int}{m:Int}(hz:∀ k,k<z.length→1≤sz z k)(hh:∀ k,k<z.length→sz z k≤24000000)(hl:z.length≤24)(hm:0≤m)(hm':m≤24):∃ S N,Top (if (z.length:Int)≤m then (z.length:Int) else m) z.length S N∧(∀ k p,(due z m)[k]? = some p→Low (N k) S p.1 p.2)∧S≤576000000∧∀ k,k<z.length→(N k).natAbs≤576000000:=by
 have one:Low 1 1 1 1:=⟨by decide,by decide,by decide⟩
 have nil:Low 0 1 0 1:=⟨by decide,by decide,by decide⟩
 unfold due
 by_cases h1:(z.length:Int)≤m
 ·rw[if_pos h1,if_pos h1]
  refine ⟨1,fun _=>1,⟨by decide,by rw[gQ,length_range]⟩,fun k p hp=>?_,by decide,fun _ _=>(by decide:(1:Nat)≤576000000)⟩
  rw[List.getElem?_map]at hp
  cases hk:z[k]? with
  | none=>rw[hk]at hp; cases hp
  | some x=>rw[hk]at hp; cases hp; exact one
 ·rw[if_neg h1,if_neg h1]
  by_cases h2:m=0
  ·rw[if_pos h2]
   refine ⟨1,fun _=>0,⟨by decide,by rw[gQ,h2]; simp⟩,fun k p hp=>?_,by decide,fun _ _=>(by decide:(0:Nat)≤576000000)⟩
   rw[List.getElem?_map]at hp
   cases hk:z[k]? with
   | none=>rw[hk]at hp; cases hp
   | some x=>rw[hk]at hp; cases hp; exact nil
  ·rw[if_neg h2]
   have R:=Rnd.fin hz _ _ _ (Nat.le_refl _) (Rnd.start (z:=z) (n:=z.length) (m:=m) (by lia) (by lia))
   have T:=Top.of_rnd hz R
   have hS:aW z (FrM.fin z (List.range z.length) m).1≤576000000:=by
    have h3:=gs z 24000000 _ fun k hk=>hh k (R.sub k hk)
    have h4:=R.len
    lia
   refine ⟨_,_,T,fun k p hp=>?_,hS,fun k hk=>?_⟩
   ·rw[List.getElem?_map]at hp
    by_cases hk:k<z.length
    ·rw[List.getElem?_range hk]at hp
     cases hp
     by_cases hd:decide (k∈(FrM.fin z (List.range z.length) m).1)=true
     ·simp only[if_pos hd]; exact gv T.pos
     ·simp only[if_neg hd]
      exact ⟨by decide,by decide,by lia⟩
    ·rw[List.getElem?_eq_none (by rw[length_range]; lia)]at hp
     cases hp
   ·have h3:=R.dif
    have h4:=R.lt
    have h5:=R.len
    have w1:(FrM.fin z (List.range z.length) m).2.natAbs≤24:=by lia
    have z1:(sz z k).natAbs≤24000000:=by have:=hz k hk; have:=hh k hk; lia
    have p1:=T.pos
    split
    ·rw[Int.natAbs_mul]
     exact Nat.le_trans (Nat.mul_le_mul z1 w1) (by decide)
    ·lia
end FrM
namespace L2
open PySem PySem.Spec PyProof.Rows
def kh:List V→List Value→Bool
 | [],[]=>true
 | .int i::xs,.int j _::us=>decide (i=j) && kh xs us
 | _,_=>false
theorem hV:∀{xs:List V}{us:List Value},kh xs us=true→Vals xs us
 | [],[],_=>.nil
 | .int i::xs,.int j t::us,h=>by
  rw[kh,Bool.and_eq_true]at h
  have e:=of_decide_eq_true h.1
  exact .cons ⟨t,by rw[e]⟩ (hV h.2)
def gK(K:Frag)(a:Addr)(xs:List V):Bool :=
 match K.lookup a with
 | some o =>
  (match o.cls with
  | .type t=>t == "tuple"
  | _=>false) &&
  (match o.data with
  | .seq its _=>decide (its.size≤1000) && kh xs its.toList
  | _=>false)
 | none=>false
theorem qE{K:Frag}{H:Hp}{a:Addr}{xs:List V}(h:gK K a xs=true):SqT K H a xs:=by
 unfold gK at h
 split at h
 ·rename_i o e
  rw[Bool.and_eq_true]at h
  obtain ⟨h1,h2⟩:=h
  split at h1
  ·rename_i t ec
   split at h2
   ·rename_i its n ed
    rw[Bool.and_eq_true]at h2
    refine .inr ⟨o,its,n,e,by rw[ec,beq_iff_eq.mp h1],ed,?_,hV h2.2⟩
    have:=of_decide_eq_true h2.1
    have:sizeLine=16777216:=sizeLine_eq
    lia
   ·cases h2
  ·cases h1
 ·cases h
def TyS(K:Frag)(H:Hp)(x:V)(t:Value):Prop:=TyOf K H x t∨∃ a xs,x=.ref a∧t=.type "tuple" ∧ SqT K H a xs
section
variable {X:Cx}
open PySem.W in
theorem yS{pins:List (Addr×Obj)}{σ:St}{H:Hp}{s:Shared}{x:V}{u t:Value}(I:Inv X pins σ H s)(rx:RelV x u)(ty:TyS X.K H x t) :
  ∃ Hh:Heap→Prop,KitX X.K u t Hh∧Hh s.heap∧u≠.builtin "__main__.__loader__#opaque" := by
 rcases ty with ty | ⟨a,xs,rfl,rfl,hq⟩
 ·exact mI I rx ty
 ·cases (show u=Value.ref a from rx)
  obtain ⟨its,rv,p,hz⟩:=I.tuple hq
  exact ⟨_,kitx_tuple,let ⟨o,e,c,_⟩:=p; ⟨o,e,c⟩,fun z=>nomatch z⟩
theorem gO:bootBuiltins "sum" = some (.builtin "sum"):=by decide +kernel
theorem iI:∀{ns:List Int}{us:List Value},Vals (ns.map V.int) us→IntsAre us ns
 | [],_,.nil=>.nil
 | n::ns,_,.cons r t=>by
  obtain ⟨t',rfl⟩:=r
  exact .cons _ _ (iI t)
inductive rSumI(K:Frag)(xs:List V)(H:Hp)(Q:VK):Prop
 | mk(p:Addr)(ns:List Int)(h0:xs=[.ref p])(h1:SqL K H p (ns.map V.int))(h2:Q (.int ns.sum) H):rSumI K xs H Q
theorem dY(hc:X.calm=true):CallR X (.builtin "sum") (rSumI X.K):=by
 intro pins s σ H xs us Q I r h
 obtain ⟨p,ns,rfl,hq,q⟩:=h
 obtain ⟨u,rfl,rx⟩:=ez r
 cases rx
 obtain ⟨its,rv,pl,hz⟩:=I.list hq
 have hi:=iI rv
 obtain ⟨xs,ex⟩:=hi.allInts.items
 have e2:(numsOf its)=ns:=hi.numsOf
 refine sum_intListG (I.ok.hd hc) (xs:=xs) (by rw[← ex]; exact pl.isList) fun h' tk t' hk=>?_
 have e3:preSum (numAt xs) xs.size=ns.sum:=by
  rw[preSum_eq,take_of_length_le (by simp),← e2,← nums_intItems,← ex]
 rw[e3]
 exact ⟨.int ns.sum,H,I.kept hk,⟨_,rfl⟩,q⟩
theorem dU(hc:X.calm=true):CallR X (.type "list") (fun xs H Q=>∃(p:Addr) (n:Nat),xs=[.ref p]∧n≤1000∧H p=some (.rng 0 (n:Int))∧∀ l,H l=none→Q (.ref l) (upd H l (.lst ((List.range n).map fun (i:Nat)=>V.int (i:Int))))):=by
 intro pins s σ H xs us Q I r h
 obtain ⟨p,n,rfl,hn,e,q⟩:=h
 obtain ⟨u,rfl,ru⟩:=ez r
 cases ru
 obtain ⟨t,t2,t3,ho⟩:=(show ObjOk X.prog X.w H s.heap p (.rng 0 (n:Int)) from I.hok p _ e)
 refine call_list_range (n:=n) (I.ok.hd hc) ho (small_one (by decide) (by decide) (by lia) (by lia)) (by rw[rangeSize_one]; split <;> lia) (by lia) fun h' tk acc c hk hS hI=>?_
 refine ⟨.ref s.heap.objs.size,_,I.laid (t':=tk) (o:=.lst ((List.range n).map fun (i:Nat)=>V.int (i:Int))) hk (Nat.le_refl _) ?_,rfl,q _ (I.hok.fresh (Nat.le_refl _))⟩
 obtain ⟨z1,z2⟩:=hI
 refine ⟨by rw[length_map,length_range,sizeLine_eq]; lia,acc.toList,c,jX (by rw[length_map,length_range]; simpa using z1.symm) fun i x u hx hu=>?_,hS⟩
 rw[List.getElem?_map]at hx
 have hi:i<n:=by
  by_cases hi:i<n
  ·exact hi
  ·rw[List.getElem?_eq_none (by rw[length_range]; lia)]at hx
   cases hx
 rw[List.getElem?_range hi]at hx
 cases hx
 obtain ⟨tt,hv⟩:=z2 i u (by simpa using hu)
 refine (show ∃ t',u=Value.int (i:Int) t' from ⟨tt,?_⟩)
 rw[hv]
 congr 1
 lia
end
def dE:Expr:=.Name "" ⟨0,0,0,0⟩
def t7(st:Stmt)(i:Nat):Stmt:=(ah st).getD i (.Pass ⟨0,0,0,0⟩)
def tQ:Stmt→Expr
 | .Return (some e) _=>e
 | _=>dE
def wN:Expr→Nat→Expr
 | .Call _ es _ _,i=>es.getD i dE
 | _,_=>dE
def xN:Expr→Nat→Expr
 | .List es _,i=>es.getD i dE
 | _,_=>dE
def xP:Expr→Nat→Expr
 | .Tuple es _ _,i=>es.getD i dE
 | _,_=>dE
def ow(q:Str):Expr→LamD
 | .Lambda p b s _=>⟨q,p,b,s⟩
 | _=>⟨q,default,dE,default⟩
def tz:Expr→Pos
 | .Lambda _ _ _ p=>p
 | _=>⟨0,0,0,0⟩
theorem g9:bootBuiltins "sorted" = some (.builtin "sorted"):=by decide +kernel
theorem gE:∀{us:List Value}{ns:List Int},IntsAre us ns→Vals (ns.map V.int) us
 | _,_,.nil=>.nil
 | _,_,.cons n t h=>.cons ⟨_,rfl⟩ (gE h)
theorem eV{X:Cx}:CallR X (.builtin "sorted") (fun xs H Q=>∃(p:Addr) (ns:List Int),xs=[.ref p]∧SqL X.K H p (ns.map V.int)∧ns.length<64∧∀ q (ns':List Int),ns'.Perm ns→ns'.Pairwise (·≤·)→H q=none→Q (.ref q) (upd H q (.lst (ns'.map V.int)))):=by
 intro pins s σ H xs us Q I r h
 obtain ⟨p,ns,rfl,hq,hl,q⟩:=h
 obtain ⟨u,rfl,rx⟩:=ez r
 cases rx
 obtain ⟨its,rv,pl,hz⟩:=I.list hq
 have hi:=iI rv
 have hlen:its.length=ns.length:=by have:=rv.length; rw[length_map]at this; exact this.symm
 refine sorted_ints pl.isList hi (by lia) fun out ns' a1 a2 a3=>?_
 obtain ⟨e,he⟩:=sortedAll_at s.heap its out
 have hn:H (s.heap.objs.size+1)=none:=I.hok.fresh (Nat.le_succ _)
 have small:sizeLine=16777216:=sizeLine_eq
 refine ⟨.ref (s.heap.objs.size+1),_,I.laid (a:=s.heap.objs.size+1) (o:=.lst (ns'.map V.int)) (t':=s.toks) (fun b u z=>sortedAll_old z) (Nat.le_succ _) ⟨?_,out.toList,e,gE a1,?_⟩,rfl,q _ ns' a2 a3 hn⟩
 ·rw[length_map,a2.length_eq]; lia
 ·rw[he,Array.toArray_toList]
theorem pi{K:Frag}{M:Model}{h:Heap}{C D x:Addr}{ob:Obj}(X:K.In h)(c:XHd K C)(hx:h.get? x=some ob)(hc:ob.cls=.ref D)(hm:mroIn K D (.ref C)=some false) :
  Looks M h (excMatches (.ref x) (.ref C)) false:=by
 have L1:Looks M h (typeOf (.ref C)) (.type "type"):=looks_typeIn X c.ty
 have L2':Looks M h (isSubtype (.type "type") (.type "tuple")) false:=Looks.of_pure tc_notTuple
 have L3:Looks M h (isInstance (.ref C) (.type "tuple")) false:=L1.andThen L2'
 have L4:Looks M h (isExcClass (.ref C)) true:=by
  unfold isExcClass
  exact (lm X c.isc).andThen (looks_mroIn X c.mb)
 have L5:Looks M h (typeOf (.ref x)) (.ref D):=hc ▸ (Looks.ld hx).andThen .now
 have L6:Looks M h (isSubtype (.ref D) (.ref C)) false:=looks_mroIn X hm
 intro A Q E s k q
 unfold excMatches
 refine wpAny_bind (L3 A _ E s k ?_)
 rw[if_neg Bool.false_ne_true]
 refine wpAny_bind (wpAny_pure ?_)
 simp only[forIn_cons,forIn_nil,bind_assoc,pure_bind]
 refine wpAny_bind (L4 A _ E s k ?_)
 simp only[Bool.not_true,Bool.false_eq_true,if_false,pure_bind]
 refine wpAny_bind (L5 A _ E s k ?_)
 refine wpAny_bind (L6 A _ E s k ?_)
 simp only[Bool.false_eq_true,if_false,pure_bind]
 exact wpAny_pure q
structure Lnd(X:Cx)(pins:List (Addr×Obj))(σ:St)(H:Hp)(s:Shared)(x D:Addr)(dct:Option Addr)(T:Addr)(H':Hp)(s':Shared)(T4:Addr)(h5:Heap):Prop where
 I:Inv X pins σ H s
 G:XG X.prog X.w X.stack H s x D dct T H' s'
 k:KeptBut ([T,x]++[T4]) (frs X.stack) s'.heap h5
 hxs:∀ b,b=T∨b=x∨b=T4→s.heap.get? b=none∧H' b=none∧b ∉ frs X.stack
 fx:Fx h5 x (.ref D) dct .none T4
abbrev TH:=Addr→Option Addr→Addr→Ends→St→Hp→Prop
def PH(X:Cx)(hs:List ExceptHandler)(th:TH):Prop :=
 ∀(pins:List (Addr×Obj)) (σ:St) (H:Hp) (s:Shared) (x D:Addr) (dct:Option Addr) (T:Addr) (H':Hp) (s':Shared) (T4:Addr) (h5:Heap) (DE:Ends),Lnd X pins σ H s x D dct T H' s' T4 h5→th D dct x DE σ (upd H' x (.ext (XCt x D dct))) →
  wpAny (model X.prog X.w) X.A (handleBy (.ref x) X.env hs) (SP X pins DE) X.xe { s' with heap:=h5 }
theorem wP{X:Cx}:PH X [] (fun _ _ _ _ _ _=>False):=fun _ _ _ _ _ _ _ _ _ _ _ _ _ _ q=>False.elim q
section
variable {X:Cx}{C:Addr}{cn en:Str}{ie:Nat}{b₀:Stmt}{suite:List Stmt}{cp hp:Pos}{ts:TS}{rest:List ExceptHandler}{tr:TH}
theorem Lnd.J{pins:List (Addr×Obj)}{σ:St}{H:Hp}{s:Shared}{x D:Addr}{dct:Option Addr}{T:Addr}{H':Hp}{s':Shared}{T4:Addr}{h5:Heap}(L:Lnd X pins σ H s x D dct T H' s' T4 h5):Inv X pins σ (upd H' x (.ext (XCt x D dct))) { s' with heap:=h5 } :=
 vR (h2:=h5) L.I L.G L.k (fun b hb=>L.hxs b (by simpa using hb)) L.fx
theorem yF(hst:X.stack = X.env :: X.outer∧X.env.frame = some X.env.locals)(gC:Gl X cn)(mC:X.mg cn = some (.ref C))(cC:XHd X.K C)(hN:X.N.Nodup)(hi:X.N[ie]? = some en)(hl:X.env.kindOf en = some .local)
  (hs:∀ x,PSs (X.inX x) (b₀::suite) ts) (hr:PH X rest tr) (hdb:(cn == ("__debug__" : Str))=false:=by decide) :
  PH X (.ExceptHandler (some (.Name cn cp)) (some en) (b₀::suite) hp::rest) (fun D dct x DE σ H1=>(mroIn X.K D (.ref C)=some true∧ts (DE.asG ie) (σ.set ie (some (.ref x))) H1)∨(mroIn X.K D (.ref C)=some false∧tr D dct x DE σ H1)):=by
 intro pins σ H s x D dct T H' s' T4 h5 DE L q
 have J5:=L.J
 obtain ⟨o5,ho5,hc5⟩:∃ o,h5.get? x=some o∧o.cls=.ref D:=let ⟨o,_,_,_,e,c,_⟩:=L.fx; ⟨o,e,c⟩
 refine wpAny_handleBy_cons (codeAny_handlers_test (eZ (X:=X.inX x) (J5.inX x) gC mC ?_ hdb)) (by intro z; cases z)
 rcases q with ⟨hm,q⟩ | ⟨hm,q⟩
 ·refine (o8 J5.kIn cC ho5 hc5 hm).at ?_
  refine codeAny_handlers_suite_as ?_
  refine fH (s:={ s' with heap:=h5 }) (fr:=frs (X.env::X.outer)) L.fx fun h6 x6 k6=>?_
  have k46:KeptBut ([T,x]++[T4]++[T4]) (frs X.stack) s'.heap h6:=by
   have:=L.k
   rw[hst.1]at this ⊢
   exact this.trans k6
  have J6:=vR (h2:=h6) L.I L.G k46 (fun b hb=>L.hxs b (by
   have:b=T∨b=x∨b=T4∨b=T4:=by simpa using hb
   rcases this with z | z | z | z
   ·exact .inl z
   ·exact .inr (.inl z)
   ·exact .inr (.inr z)
   ·exact .inr (.inr z))) x6
  refine eM J6 hN hi (.inl hl) (v:=.ref x) rfl (fun s7 I7=>?_) (.inr hl)
  refine wpAny_mono (hs x pins s7 _ _ _ (I7.inX x) q) (fun fl s8 hf=>?_) (fun _ _ z=>False.elim z)
  cases fl with
  | next =>
   obtain ⟨σ8,H8,I8,q8⟩:=hf
   have J8:Inv X pins σ8 H8 s8:=I8.outX L.I.ok.hd
   obtain ⟨m,hn,hlk⟩:=id J8.loc
   refine wpAny_nameGoes_keeps hl hn (by rw[L.I.ok.kind]; rfl) fun h9 v hn9 sb=>?_
   exact ⟨_,H8,J8.gone hN hi hl hlk hn9 sb,q8⟩
  | ret u=>obtain ⟨_,_,_,_,_,z⟩:=hf; exact False.elim z
  | brk=>obtain ⟨_,_,_,z⟩:=hf; exact False.elim z
  | cont=>obtain ⟨_,_,_,z⟩:=hf; exact False.elim z
 ·refine (pi J5.kIn cC ho5 hc5 hm).at ?_
  exact hr pins σ H s x D dct T H' s' T4 h5 DE L q
end
def HX(X:Cx)(pins:List (Addr×Obj))(hr:Value→Option Addr→St→Hp→Prop)(e:Value)(s':Shared):Prop:=∃ σ H s,Inv X pins σ H s∧CXG X.prog X.w X.stack H s (fun c d H'=>hr c d σ H') e s'
abbrev TB:=(St→Hp→Prop)→VK→(Value→Option Addr→St→Hp→Prop)→St→Hp→Prop
def PB1(X:Cx)(st:Stmt)(t:TB):Prop :=
 ∀(pins:List (Addr×Obj)) (s:Shared) (σ:St) (H:Hp) (nx:St→Hp→Prop) (rt:VK) (hr:Value→Option Addr→St→Hp→Prop),Inv X pins σ H s→t nx rt hr σ H→wpAny (model X.prog X.w) X.A (exec st X.env) (SP X pins { nx:=nx,rt:=rt }) (HX X pins hr) s
def PB(X:Cx)(sts:List Stmt)(t:TB):Prop :=
 ∀(pins:List (Addr×Obj)) (s:Shared) (σ:St) (H:Hp) (nx:St→Hp→Prop) (rt:VK) (hr:Value→Option Addr→St→Hp→Prop),Inv X pins σ H s→t nx rt hr σ H→wpAny (model X.prog X.w) X.A (execs sts X.env) (SP X pins { nx:=nx,rt:=rt }) (HX X pins hr) s
section
variable {X:Cx}
theorem wR{st:Stmt}{t:TB}(h1:PB1 X st t):PB X [st] t:=by
 intro pins s σ H nx rt hr I h
 refine wpAny_execs_cons (thn (h1 pins s σ H nx rt hr I h) fun f s1 q=>?_)
 cases f with
 | next=>exact wpAny_execs_nil q
 | ret v=>exact q
 | brk=>exact q
 | cont=>exact q
def PX(X:Cx)(e:Expr)(t:VK→XK→St→Hp→Prop):Prop :=
 ∀(pins:List (Addr×Obj)) (s:Shared) (σ:St) (H:Hp) (Q:VK) (E:XK),Inv X pins σ H s→t Q E σ H →
  wpAny (model X.prog X.w) X.A (eval e X.env) (EP X pins σ Q) (fun e s'=>∃ H1 s1,Inv X pins σ H1 s1∧CXG X.prog X.w X.stack H1 s1 E e s') s
theorem ss{e:Expr}{t:VK→XK→St→Hp→Prop}{pos:Pos}(h:PX X e t)(hsw:swapsWith e none pos.line X.env=pure false:=by rfl):PB1 X (.Expr e pos) (fun nx _ hr σ H=>t (fun _ H1=>nx σ H1) (fun c d H'=>hr c d σ H') σ H):=by
 intro pins s σ H nx rt hr I q
 refine wpAny_Expr_any (wpAny_mono (h pins s σ H _ _ I q) (fun u s1 ⟨v,H1,I1,r,q1⟩=>?_) fun e s' ⟨H1,s1,I1,c⟩=>⟨σ,H1,s1,I1,c⟩) I.quiet hsw
 exact ⟨σ,H1,I1,q1⟩
end
section
variable {X:Cx}{k:Nat}{f C:Addr}{fd:FuncData}{ps:List Str}{sp:Sp}{dvs:List V}{ds:List Value}{x m:Str}{p pos apos:Pos}{e o:Expr}{es:List Expr}{ta:TE}{t:TA}
theorem pZ{pins:List (Addr×Obj)}{σ:St}{H:Hp}{s:Shared}{Q:VK}{E:XK}{us:List Value}{vs:List V}(M:Mk X.K C f)(F:FnOk X.prog X.w X.K X.mg X.base (CXG X.prog X.w) k f fd ps sp)(hr:Room (k+1) X.A)(hb:Binds X.K fd ps ds)(hd:Vals dvs ds)
  (I:Inv X pins σ H s) (r:Vals vs us)
  (h:∀ x dx,H x=none→H dx=none→dx≠x→sp (.ref x::(vs++dvs)) (upd (upd H dx (.own x)) x (.ins C dx [])) (fun v H2=>v=.non∧Q (.ref x) H2) E) :
  wpAny (model X.prog X.w) X.A (call (.ref C) us) (EP X pins σ Q) (fun e s'=>∃ H1 s1,Inv X pins σ H1 s1∧CXG X.prog X.w X.stack H1 s1 E e s') s:=by
 have hq:=h (s.heap.objs.size+1) s.heap.objs.size (I.hok.fresh (Nat.le_succ _)) (I.hok.fresh (Nat.le_refl _)) (Nat.ne_of_lt (Nat.lt_succ_self _))
 have I2:=Inv.made (C:=C) I
 have r2:Vals (V.ref (s.heap.objs.size+1)::(vs++dvs)) (Value.ref (s.heap.objs.size+1)::(us++ds)):=.cons rfl (r.append hd)
 have hl:(Value.ref (s.heap.objs.size+1)::us++ds).length=ps.length:=by
  have e:=r2.length
  rw[F.len _ _ _ _ hq]at e
  exact e.symm
 refine wpAny_call (kU (f:=f) I.kIn M.makes M.init (beq_iff_eq.mp M.fn) (codeAny_mono (F.run _ X.stack _ _ ⟨Value.ref (s.heap.objs.size+1)::us,[]⟩ (Value.ref (s.heap.objs.size+1)::(us++ds)) _ _ E (hr.make C us [])
  (I2.env0.make C us []) (hb _ (Value.ref (s.heap.objs.size+1)::us) I2.kIn hl) r2 hq) fun r s' hq'=>?_))
 cases r with
 | error e=>exact ⟨_,_,I2,hq'⟩
 | ok fl =>
  cases fl with
  | ret u =>
   obtain ⟨v,H',I3,rv,ev,q3⟩:=I2.after hq'
   subst ev
   exact ⟨rv,⟨V.ref (s.heap.objs.size+1),H',I3,rfl,q3⟩⟩
  | next=>exact False.elim hq'
  | brk=>exact False.elim hq'
  | cont=>exact False.elim hq'
theorem sY(M:Mk X.K C f)(F:FnOk X.prog X.w X.K X.mg X.base (CXG X.prog X.w) k f fd ps sp)(hr:Room (k+1) X.A)(hg:Gl X x)(hm:X.mg x=some (.ref C))(hb:Binds X.K fd ps ds)(hd:Vals dvs ds)
  (ha:PA X.nox (e::es) t) (hdb:(x == ("__debug__" : Str))=false:=by decide) (he:starEach (e::es) X.env=(false,eval e X.env)::starEach es X.env:=by rfl) (hpl:(backTo pos (starEach es X.env)).any (·.1)=false:=by rfl) :
  PX X (.Call (.Name x p) (e::es) [] pos) (fun Q E σ H=>t σ H fun vs H1=>∀ x dx,H1 x=none→H1 dx=none→dx≠x→sp (.ref x::(vs++dvs)) (upd (upd H1 dx (.own x)) x (.ins C dx [])) (fun v H2=>v=.non∧Q (.ref x) H2) E):=by
 intro pins s σ H Q E I h
 refine wpAny_Call_Name_kw (eZ I hg hm ?_ hdb)
 refine callWith_K (h₀:=X.base) I.ok.mod.kin M.kp (wpAny_mono (ha pos pins s σ H _ (I.wish _) h) (fun us s1 ⟨vs,H1,I1,r,q⟩=>⟨I1.unwish.kIn,?_⟩) fun _ _ z=>False.elim z) he hpl
 exact pZ M F hr hb hd I1.unwish r q
theorem ve{body:List Stmt}{h₀:ExceptHandler}{hs:List ExceptHandler}{tb:TB}{th:TH}{tp:Pos}(hst:X.stack = X.env :: X.outer∧X.env.frame = some X.env.locals)(hb:PB X body tb)(hh:PH X (h₀ :: hs) th) :
  PS X (.Try body (h₀::hs) [] [] tp) (fun DE σ H=>tb DE.nx DE.rt (fun c dct σ' H'=>∃ D,c=.ref D∧∀ x,H' x=none→th D dct x DE σ' (upd H' x (.ext (XCt x D dct)))) σ H):=by
 intro pins s σ H DE I h
 refine wpAny_Try_except ?_
 refine wpAny_mono (hb pins s σ H DE.nx DE.rt _ I h) (fun f s1 q=>?_) fun e s' z=>?_
 ·cases f with
  | next=>exact wpAny_execs_nil q
  | ret u=>exact q
  | brk=>obtain ⟨_,_,_,z⟩:=q; exact False.elim z
  | cont=>obtain ⟨_,_,_,z⟩:=q; exact False.elim z
 ·obtain ⟨σ1,H1,s1,I1,x,D,dct,T,H',rfl,G,D',eD,hq⟩:=z
  cases eD
  have J:Inv X pins σ1 H' s':=I1.call' (ch:=[]) G.os G.un G.hok G.bare (by simp)
  have st:s'.heap.FunFrames X.base (X.env::X.outer):=hst.1 ▸ J.stack
  refine m7 (by rw[I1.ok.frames,hst.1]) st hst.2 G.fx fun h4 T4 x4 n4 k4=>?_
  refine fH (s:={ s' with heap:=h4 }) (fr:=frs (X.env::X.outer)) x4 fun h5 x5 k5=>?_
  have k45:KeptBut ([T,x]++[T4]) (frs X.stack) s'.heap h5:=by rw[hst.1]; exact k4.trans k5
  have so:∀ b,s1.heap.get? b=none→b ∉ frs X.stack:=fun b n z=>by
   obtain ⟨_,o,e,_⟩:=I1.stack.mem z
   rw[n]at e
   cases e
  have h4s:s1.heap.get? T4=none:=cQ G.un n4
  have u4:H' T4=none:=by
   cases z:H' T4 with
   | none=>rfl
   | some u =>
    obtain ⟨o,e⟩:=(J.hok T4 u z).isObj
    rw[n4]at e
    cases e
  refine hh pins σ1 H1 s1 x D dct T H' s' T4 h5 DE ⟨I1,G,k45,fun b hb=>?_,x5⟩ (hq x G.ux)
  rcases hb with rfl | rfl | rfl
  ·exact ⟨G.nT,G.uT,so _ G.nT⟩
  ·exact ⟨G.nx,G.ux,so _ G.nx⟩
  ·exact ⟨h4s,u4,so _ h4s⟩
end
section
variable {X:Cx}{e:Expr}{es:List Expr}{pos:Pos}
theorem pS{K:Frag}(h:X.K=K)(hu:X.A.units+64<cLine):OpR X (compareOp .Eq) (rEqD K false):=h ▸ kS hu
end
section
variable {X:Cx}
def zj(K:Frag):R2:=fun x y H Q=>∃(l b:Addr) (xs:List V),x=.ref l∧y=.ref b∧SqL K H l xs∧SqL K H b xs∧(∀ v∈xs,∃ p,v=.ref p)∧Q (.bl false) H
theorem jV:∀{xs:List V}{us us':List Value},(∀ v∈xs,∃ p,v=.ref p)→Vals xs us→Vals xs us'→us=us'
 | [],_,_,_,h1,h2=>by cases h1; cases h2; rfl
 | x::xs,_,_,h,h1,h2=>by
  cases h1 with
  | cons r1 t1 =>
   cases h2 with
   | cons r2 t2 =>
    obtain ⟨p,rfl⟩:=h x (mem_cons_self ..)
    cases r1
    cases r2
    rw[jV (fun v hv=>h v (mem_cons_of_mem _ hv)) t1 t2]
theorem yR(hu:X.A.units+64<cLine):OpR X (compareOp .NotEq) (zj X.K):=by
 intro pins s σ H x y v u Q I rx ry h
 obtain ⟨l,b,xs,rfl,rfl,h1,h2,hr,q⟩:=h
 cases rx
 cases ry
 obtain ⟨its,r1,p1,_⟩:=I.list h1
 obtain ⟨its',r2,p2,_⟩:=I.list h2
 have e:=jV hr r1 r2
 subst e
 have L:=SeqAt.RcNeAt.lists (A:=X.A) (e:=fun _=>true) p1.isList p2.isList rfl (by lia) (fun j h1 h2=>SeqAt.EqAt.same _)
 refine PySem.W.cmp_ofNotEq (L _ _ _ _ ?_)
 have ea:(List.range its.toArray.size).all (fun _=>true)=true:=by simp
 rw[ea]
 exact ⟨.bl false,H,I,rfl,q⟩
end
abbrev kJ(h:Heap)(z TI TO:Addr)(f0:Value)(b:Bool):Prop :=
 h.get? z=some { cls:=.type "zip",dict:=none,data:=.fields #[f0,.bool b,.bool false,.ref TI,.ref TO],slots:=#[] }
section
variable {prog:Program}{w:World}{A:Around}{E:Value→Shared→Prop}{s:Shared}
theorem wY{a:Addr}{o:Obj}{Q:Option Obj→Shared→Prop}(h:s.heap.get? a=some o)(hk:Q (some o) s):wpAny (model prog w) A (loadIfAlive a) Q E s:=by
 intro Γ p hΓ
 unfold loadIfAlive
 rw[Sem.wp_loadIfAlive,h]
 exact (wpAny_pure (M:=model prog w) (A:=A) (E:=E) hk) Γ p hΓ
theorem fV{z TI TO T:Addr}{b:Bool}{o:Obj}{Q:Bool→Shared→Prop}(hz:kJ s.heap z TI TO (rawInt T) b)(hT:s.heap.get? T=some o)
  (hQ:∀ h',kJ h' z TI TO (rawInt T) true→Heap.SameBut z s.heap h'→Q false { s with heap:=h' }):wpAny (model prog w) A (Builtin.SmallTypes.ownedTupleIsFree (.ref z)) Q E s:=by
 unfold Builtin.SmallTypes.ownedTupleIsFree
 refine wpAny_bind (wpAny_field hz rfl (x:=rawInt T) rfl ?_)
 show wpAny _ _ (loadIfAlive (Int.toNat (T:Int)) >>= _) _ _ s
 rw[Int.toNat_natCast]
 refine wpAny_bind (wY hT ?_)
 show wpAny _ _ (if (false=true) then _ else _) _ _ s
 rw[if_neg Bool.false_ne_true]
 refine wpAny_bind (wpAny_field hz rfl (x:=.bool b) rfl ?_)
 cases b with
 | true =>
  rw[if_neg (by decide)]
  exact wpAny_pure (hQ _ hz ⟨rfl,fun _ _=>rfl⟩)
 | false =>
  rw[if_pos (by decide)]
  exact wpAny_bind (wpAny_setField_rec hz (by simp) fun h₁ hz₁ hs₁=>wpAny_pure (hQ h₁ hz₁ hs₁))
theorem jw{z TI TO i1 i2 l1 l2 T:Addr}{b:Bool}{o:Obj}{k1 k2:Nat}{xs ys:Array Value}{x y:Value}{Q:Value→Shared→Prop}(D:ZipApart z TI TO i1 i2 l1 l2)
  (hz:kJ s.heap z TI TO (rawInt T) b) (hT:s.heap.get? T=some o) (hTI:IsPair s.heap TI (.ref i1) (.ref i2))
  (h1:s.heap.IsListIter i1 l1 k1) (h2:s.heap.IsListIter i2 l2 k2) (hl1:s.heap.IsList l1 xs) (hl2:s.heap.IsList l2 ys) (hx:xs[k1]? = some x) (hy:ys[k2]? = some y)
  (hQ:∀ h',kJ h' z TI TO (rawInt T) true→h'.IsListIter i1 l1 (k1+1)→h'.IsListIter i2 l2 (k2+1)→IsPair h' s.heap.objs.size x y→h'.objs.size=s.heap.objs.size+1 →
   (∀ c o,c≠z→c≠i1→c≠i2→s.heap.get? c=some o→h'.get? c=some o)→(∃ o,h'.get? T=some o)→Q (.ref s.heap.objs.size) { s with heap:=h' }) :
  wpAny (model prog w) A (Builtin.«zip.__next__» ⟨[.ref z],[]⟩) (fun fin s'=>∃ v,fin=.done (.ret v)∧Q v s') E s:=by
 show wpAny _ _ (field (.ref z) 2 >>= _) _ _ _
 refine wpAny_bind (wpAny_field hz rfl (x:=.bool false) rfl ?_)
 show wpAny _ _ (field (.ref z) 3 >>= _) _ _ _
 refine wpAny_bind (wpAny_field hz rfl (x:=.ref TI) rfl ?_)
 refine wpAny_bind (wpAny_seqItems hTI rfl ?_)
 show wpAny _ _ (Builtin.SmallTypes.ownedTupleIsFree (.ref z) >>= _) _ _ _
 refine wpAny_bind (fV hz hT fun h₁ hz₁ hs₁=>?_)
 simp only[Bool.false_eq_true,if_false]
 refine wpAny_bind ?_
 rw[← Array.forIn_toList]
 simp only[forIn_cons,forIn_nil]
 have a1:=h1.extBut hs₁.extBut D.i1z
 have a2:=h2.extBut hs₁.extBut D.i2z
 have b1:=hl1.extBut hs₁.extBut D.l1z
 have b2:=hl2.extBut hs₁.extBut D.l2z
 refine wpAny_bind (wpAny_bind (wpAny_holding ?_))
 show wpAny _ _ (Builtin.SmallTypes.nextOf (.ref i1) >>= _) _ _ _
 refine wpAny_bind (wpAny_nextOf_list_item a1 b1 hx fun h₂ c1 hs₂=>wpAny_pure (wpAny_pure ?_))
 refine wpAny_bind (wpAny_bind (wpAny_holding ?_))
 show wpAny _ _ (Builtin.SmallTypes.nextOf (.ref i2) >>= _) _ _ _
 refine wpAny_bind (wpAny_nextOf_list_item (a2.extBut hs₂.extBut D.i12.symm) (b2.extBut hs₂.extBut D.l2i1) hy fun h₃ c2 hs₃=>wpAny_pure (wpAny_pure (wpAny_pure ?_)))
 show wpAny _ _ (newTuple [x,y] >>= fun v=>ret v) _ _ _
 refine wpAny_bind (wpAny_newTuple (wpAny_pure ⟨_,rfl,?_⟩))
 have hsz:h₃.objs.size=s.heap.objs.size:=by rw[hs₃.1,hs₂.1,hs₁.1]
 have up:∀ c o,c≠z→c≠i1→c≠i2→s.heap.get? c=some o→h₃.get? c=some o:=fun c o c1 c2 c3 e=>hs₃.extBut _ _ c3 (hs₂.extBut _ _ c2 (hs₁.extBut _ _ c1 e))
 have hz₃:kJ h₃ z TI TO (rawInt T) true:=hs₃.extBut _ _ D.i2z.symm (hs₂.extBut _ _ D.i1z.symm hz₁)
 have c1':=c1.extBut hs₃.extBut D.i12
 show Q (.ref h₃.objs.size) _
 rw[hsz]
 have hT₃:∃ o,h₃.get? T=some o:=by
  by_cases e1:T=z
  ·rw[e1]; exact ⟨_,hz₃⟩
  by_cases e2:T=i1
  ·obtain ⟨o,ho,_⟩:=c1'; rw[e2]; exact ⟨o,ho⟩
  by_cases e3:T=i2
  ·obtain ⟨o,ho,_⟩:=c2; rw[e3]; exact ⟨o,ho⟩
  exact ⟨_,up _ _ e1 e2 e3 hT⟩
 obtain ⟨oT,hoT⟩:=hT₃
 refine hQ _ (Heap.get?_push_of_some _ hz₃) (c1'.at fun o e=>Heap.get?_push_of_some _ e) (c2.at fun o e=>Heap.get?_push_of_some _ e) ?_ ?_ (fun c o n1 n2 n3 e=>Heap.get?_push_of_some _ (up c o n1 n2 n3 e)) ⟨oT,Heap.get?_push_of_some _ hoT⟩
 ·have:=Heap.get?_push_size h₃ (o:={ cls:=.type "tuple",data:=.seq #[x,y] }) rfl
  rw[hsz]at this
  exact this
 ·rw[Heap.size_push,hsz]
theorem ku{z TI TO i1 i2 l1 l2 T:Addr}{b:Bool}{o:Obj}{k1:Nat}{xs:Array Value}{Q:Fin→Shared→Prop}(hh:A.handled=none)(D:ZipApart z TI TO i1 i2 l1 l2)
  (hz:kJ s.heap z TI TO (rawInt T) b) (hT:s.heap.get? T=some o) (hTI:IsPair s.heap TI (.ref i1) (.ref i2))
  (h1:s.heap.IsListIter i1 l1 k1) (hl1:s.heap.IsList l1 xs) (hx:xs[k1]? = none)
  (hE:∀ h' e,(∀ c o,c≠z→c≠i1→s.heap.get? c=some o→h'.get? c=some o)→(∃ o,h'.get? e=some o∧o.cls=.type "StopIteration")→E (.ref e) { s with heap:=h' }) :
  wpAny (model prog w) A (Builtin.«zip.__next__» ⟨[.ref z],[]⟩) Q E s:=by
 show wpAny _ _ (field (.ref z) 2 >>= _) _ _ _
 refine wpAny_bind (wpAny_field hz rfl (x:=.bool false) rfl ?_)
 show wpAny _ _ (field (.ref z) 3 >>= _) _ _ _
 refine wpAny_bind (wpAny_field hz rfl (x:=.ref TI) rfl ?_)
 refine wpAny_bind (wpAny_seqItems hTI rfl ?_)
 show wpAny _ _ (Builtin.SmallTypes.ownedTupleIsFree (.ref z) >>= _) _ _ _
 refine wpAny_bind (fV hz hT fun h₁ hz₁ hs₁=>?_)
 simp only[Bool.false_eq_true,if_false]
 refine wpAny_bind ?_
 rw[← Array.forIn_toList]
 simp only[forIn_cons,forIn_nil]
 refine wpAny_bind (wpAny_bind (wpAny_holding ?_))
 show wpAny _ _ (Builtin.SmallTypes.nextOf (.ref i1) >>= _) _ _ _
 refine wpAny_bind (wpAny_nextOf_list_end hh (h1.extBut hs₁.extBut D.i1z) (hl1.extBut hs₁.extBut D.l1z) hx fun h₂ e hs₂ he=>?_)
 exact hE h₂ e (fun c o c1 c2 x=>hs₂ _ _ c2 (hs₁.extBut _ _ c1 x)) he
structure ZS(h:Heap)(z TI TO i1 i2 l1 l2:Addr)(xs ys:Array Value)(i:Nat):Prop where
 zo:(kJ h z TI TO .none false)∨∃(T:Addr) (o:Obj) (b:Bool),kJ h z TI TO (rawInt (T:Nat)) b∧h.get? T=some o
 ti:IsPair h TI (.ref i1) (.ref i2)
 to:∃ a b,IsPair h TO a b
 j1:h.IsListIter i1 l1 i
 j2:h.IsListIter i2 l2 i
 q1:h.IsList l1 xs
 q2:h.IsList l2 ys
theorem tu{z TI TO i1 i2 l1 l2:Addr}{i:Nat}{xs ys:Array Value}{x y:Value}{Q:Option Value→Shared→Prop}(D:ZipApart z TI TO i1 i2 l1 l2)(Z:ZS s.heap z TI TO i1 i2 l1 l2 xs ys i)(hx:xs[i]? = some x)(hy:ys[i]? = some y)
  (hQ:∀ h',ZS h' z TI TO i1 i2 l1 l2 xs ys (i+1)→IsPair h' s.heap.objs.size x y→(∀ c o,c≠z→c≠TO→c≠i1→c≠i2→s.heap.get? c=some o→h'.get? c=some o)→Q (some (.ref s.heap.objs.size)) { s with heap:=h' }) :
  wpAny (model prog w) A (pyNext (.ref z)) Q E s:=by
 obtain ⟨zo,ti,⟨a,b,to⟩,j1,j2,q1,q2⟩:=Z
 rcases zo with hz | ⟨T,o,b',hz,hT⟩
 ·refine wpAny_pyNext_zip_item D hz ti to j1 j2 q1 q2 hx hy fun h' e1 e2 e3 e4 e5 e6 e7=>hQ h' ⟨.inr ⟨_,_,_,e1,e5⟩,e7 _ _ D.TIz D.TITO D.TIi1 D.TIi2 ti,⟨_,_,e2⟩,e3,e4,q1.at fun o e=>e7 _ o D.l1z D.l1TO D.l1i1 D.l1i2 e,q2.at fun o e=>e7 _ o D.l2z D.l2TO D.l2i1 D.l2i2 e⟩ e5 e7
 ·have hTy:s.TypeIs (.ref z) "zip" := ⟨_,hz,rfl⟩
  unfold pyNext
  refine wpAny_bind (wpAny_attempt (wpAny_callSpecial?_slot (name:=Str.ofString "__next__") hTy F.slot_zip_next
   (wpAny_call_entry F.slot_zip_next hTy F.entry_zip_next
    (jw D hz hT ti j1 j2 q1 q2 hx hy fun h' e1 e3 e4 e5 e6 e7 e8=>wpAny_pure (hQ h' ?_ e5 fun c o c1 c2 c3 c4 e=>e7 c o c1 c3 c4 e)) (F.args_zip_next_1 _))))
  obtain ⟨o',ho'⟩:=e8
  exact ⟨.inr ⟨_,_,_,e1,ho'⟩,e7 _ _ D.TIz D.TIi1 D.TIi2 ti,⟨_,_,e7 _ _ D.TOz D.TOi1 D.TOi2 to⟩,e3,e4,q1.at fun o e=>e7 _ o D.l1z D.l1i1 D.l1i2 e,q2.at fun o e=>e7 _ o D.l2z D.l2i1 D.l2i2 e⟩
theorem wQ{z TI TO i1 i2 l1 l2:Addr}{i:Nat}{xs ys:Array Value}{Q:Option Value→Shared→Prop}(hh:A.handled=none)(D:ZipApart z TI TO i1 i2 l1 l2)(Z:ZS s.heap z TI TO i1 i2 l1 l2 xs ys i)(hx:xs[i]? = none)
  (hQ:∀ h',(∀ c o,c≠z→c≠TO→c≠i1→c≠i2→s.heap.get? c=some o→h'.get? c=some o)→Q none { s with heap:=h' }):wpAny (model prog w) A (pyNext (.ref z)) Q E s:=by
 obtain ⟨zo,ti,⟨a,b,to⟩,j1,j2,q1,q2⟩:=Z
 rcases zo with hz | ⟨T,o,b',hz,hT⟩
 ·exact wpAny_pyNext_zip_end hh D hz ti to j1 j2 q1 q2 (.inl hx) hQ
 ·have hTy:s.TypeIs (.ref z) "zip" := ⟨_,hz,rfl⟩
  unfold pyNext
  refine wpAny_bind (wpAny_attempt (wpAny_callSpecial?_slot (name:=Str.ofString "__next__") hTy F.slot_zip_next
   (wpAny_call_entry F.slot_zip_next hTy F.entry_zip_next (ku hh D hz hT ti j1 q1 hx fun h' e hk he=>?_) (F.args_zip_next_1 _))))
  obtain ⟨o,ho,hc⟩:=he
  refine wpAny_bind (wpAny_isInstance (T := "StopIteration") (b:=true) ⟨o,ho,hc⟩ isSubtype_stop ?_)
  exact wpAny_pure (hQ _ fun c o c1 _ c3 _ e=>hk c o c1 c3 e)
theorem ZS.on{h h':Heap}{z TI TO i1 i2 l1 l2:Addr}{xs ys:Array Value}{i:Nat}(Z:ZS h z TI TO i1 i2 l1 l2 xs ys i)(k:∀ b∈[z,TI,TO,i1,i2,l1,l2],∀ o,h.get? b=some o→h'.get? b=some o)(k2:∀ b o,h.get? b=some o→∃ o',h'.get? b=some o'):ZS h' z TI TO i1 i2 l1 l2 xs ys i:=by
 obtain ⟨zo,ti,⟨a,b,to⟩,j1,j2,q1,q2⟩:=Z
 refine ⟨zo.imp (fun h=>k z (by simp) _ h) (fun ⟨T,o,b',hz,hT⟩=>?_),k TI (by simp) _ ti,⟨a,b,k TO (by simp) _ to⟩,j1.at fun o e=>k i1 (by simp) o e,j2.at fun o e=>k i2 (by simp) o e,q1.at fun o e=>k l1 (by simp) o e,q2.at fun o e=>k l2 (by simp) o e⟩
 obtain ⟨o',ho'⟩:=k2 T o hT
 exact ⟨T,o',b',k z (by simp) _ hz,ho'⟩
end
theorem FpOk.on{X:Cx}{pins:List (Addr×Obj)}{H H':Hp}{b:Addr}(h:FpOk X pins H b)(e:H' b=none):FpOk X pins H' b:=⟨e,h.2⟩
def Zp(H:Hp)(xs ys ps:List V):Prop:=∀(j:Nat) p x y,ps[j]? = some p→xs[j]? = some x→ys[j]? = some y→∃ q,p=.ref q∧H q=some (.tup [x,y])
theorem t8{X:Cx}{A:Around}{R:Result→Shared→Prop}{pins:List (Addr×Obj)}{σ:St}{z TI TO i1 i2 l1 l2 S:Addr}{xs ys:List V}{us ws:List Value}{res:Value}{H0:Hp}(hh:A.in1.handled=none)(D:ZipApart z TI TO i1 i2 l1 l2)(hS:S ∉ [z,TI,TO,i1,i2,l1,l2])(r1:Vals xs us)(r2:Vals ys ws)(hl:xs.length=ys.length)(hn:xs.length≤1000)(fS:H0 S=none) :
  ∀(k i:Nat) (s:Shared) (H:Hp) (ps:List V),xs.length - i=k→i≤xs.length→ZS s.heap z TI TO i1 i2 l1 l2 us.toArray ws.toArray i→Inv X pins σ H s→(∀ b∈[z,TO,i1,i2],FpOk X pins H b)→Same H0 H→H S=some (.lst ps)→ps.length=i→Zp H xs ys ps →
   (∀ s' H' ps',Inv X pins σ H' s'→Same H0 H'→H' S=some (.lst ps')→ps'.length=xs.length→Zp H' xs ys ps'→R (.ok (.ret res)) s') →
   codeAny (model X.prog X.w) A (.builtin "list.extend.loop" ⟨[.ref S,.ref z,res],[]⟩) R s:=by
 have sl:sizeLine=16777216:=sizeLine_eq
 have e1:=r1.length
 have e2:=r2.length
 intro k
 induction k with
 | zero =>
  intro i s H ps hk hi hz I hf sm hSS hps hp hR
  have hin:i=xs.length:=by lia
  subst hin
  refine codeAny_builtin F.entry_extend_loop ?_
  rw[Around.under_plainId F.plain_extend_loop _]
  show wpAny _ A.in1 (pyNext (.ref z) >>= _) _ _ s
  refine wpAny_bind (wQ hh D hz (by simp; lia) fun h' hk'=>?_)
  have J:Inv X pins σ H { s with heap:=h' }:=I.turnedN (t':=s.toks) (ch:=[z,TO,i1,i2]) (fun c o hc q=>hk' c o (fun w=>hc (by simp[w])) (fun w=>hc (by simp[w])) (fun w=>hc (by simp[w])) (fun w=>hc (by simp[w])) q) hf
  exact wpAny_pure (hR _ H ps J sm hSS hps hp)
 | succ k ih =>
  intro i s H ps hk hi hz I hf sm hSS hps hp hR
  have hlt:i<xs.length:=by lia
  obtain ⟨ux,hux,rux⟩:=r1.get (List.getElem?_eq_getElem hlt)
  obtain ⟨uy,huy,ruy⟩:=r2.get (List.getElem?_eq_getElem (show i<ys.length by lia))
  refine codeAny_builtin F.entry_extend_loop ?_
  rw[Around.under_plainId F.plain_extend_loop _]
  show wpAny _ A.in1 (pyNext (.ref z) >>= _) _ _ s
  refine wpAny_bind (tu D hz (by simpa using hux) (by simpa using huy) fun h' hz' hT hk'=>?_)
  have hn0:H s.heap.objs.size=none:=I.hok.fresh (Nat.le_refl _)
  have J:Inv X pins σ (upd H s.heap.objs.size (.tup [xs[i],ys[i]])) { s with heap:=h' } :=
   I.turnedNew (t':=s.toks) (ch:=[z,TO,i1,i2]) (fun c o hc q=>hk' c o (fun w=>hc (by simp[w])) (fun w=>hc (by simp[w])) (fun w=>hc (by simp[w])) (fun w=>hc (by simp[w])) q) hf (Nat.le_refl _) ⟨by rw[sl]; show 2≤16777216; decide,[ux,uy],.cons rux (.cons ruy .nil),_,hT,rfl,0,rfl⟩
  have nS:S≠s.heap.objs.size:=am hSS hn0
  have hS1:(upd H s.heap.objs.size (.tup [xs[i],ys[i]])) S=some (.lst ps):=by rw[ag nS]; exact hSS
  obtain ⟨_,its,n,rv,hlen,eo⟩:=J.lstM hS1
  show wpAny _ A.in1 (updateSeq S (·.push (.ref s.heap.objs.size)) >>= _) _ _ _
  refine wpAny_bind ?_
  have J2:Inv X pins σ (upd (upd H s.heap.objs.size (.tup [xs[i],ys[i]])) S (.lst (ps++[.ref s.heap.objs.size]))) { s with heap:=h'.update S (Obj.mapSeq (·.push (.ref s.heap.objs.size))) } :=
   J.lset (s:={ s with heap:=h' }) (t':=s.toks) (its:=its) (its':=its++[.ref s.heap.objs.size]) hS1 eo (by simp) (rv.append (.cons (show RelV (V.ref s.heap.objs.size) (.ref s.heap.objs.size) from rfl) .nil)) (by rw[length_append,List.length_singleton]; lia)
  have new:∀ c∈[z,TO,i1,i2],c≠s.heap.objs.size:=fun c hc q=>by
   have:∃ o,s.heap.get? c=some o:=by
    obtain ⟨zo,ti,⟨a,b,to⟩,⟨o1,j1,_⟩,⟨o2,j2,_⟩,_⟩:=hz
    simp only[mem_cons,not_mem_nil,or_false]at hc
    rcases hc with rfl | rfl | rfl | rfl
    ·rcases zo with h | ⟨_,_,_,h,_⟩
     ·exact ⟨_,h⟩
     ·exact ⟨_,h⟩
    ·exact ⟨_,to⟩
    ·exact ⟨_,j1⟩
    ·exact ⟨_,j2⟩
   obtain ⟨o,ho⟩:=this
   exact absurd (Heap.lt_size ho) (by rw[q]; exact Nat.lt_irrefl _)
  have nSf:∀ c∈[z,TI,TO,i1,i2,l1,l2],c≠S:=fun c hc q=>hS (by rw[← q]; exact hc)
  refine wpAny_updateSeq eo rfl (wpAny_pure ⟨plainId_quiet F.plain_extend_loop _,ih (i+1) _ _ _ (by lia) hlt (hz'.on (fun b hb o e=>(Heap.get?_update_other _ _ (nSf b hb).symm).trans e) fun b o e=>?_) J2 (fun b hb=>(hf b hb).on ?_) ((sm.put (sm.free hn0)).put fS) ac (by rw[length_append,List.length_singleton]; lia) ?_ hR⟩) (by rw[size_toArray]; lia) (by rw[Array.size_push,size_toArray]; lia)
  ·by_cases eb:b=S
   ·subst eb
    exact ⟨_,Heap.get?_update_self _ eo rfl⟩
   ·exact ⟨o,(Heap.get?_update_other _ _ (Ne.symm eb)).trans e⟩
  ·rw[ag (nSf b (by simp at hb ⊢; rcases hb with rfl | rfl | rfl | rfl <;> simp)),ag (new b hb)]
   exact (hf b hb).1
  ·intro j p x y h1 h2 h3
   by_cases hj:j<ps.length
   ·rw[List.getElem?_append_left hj]at h1
    obtain ⟨q,rfl,hq⟩:=hp j p x y h1 h2 h3
    refine ⟨q,rfl,?_⟩
    have nq:q≠S:=fun e=>by rw[e,hSS]at hq; cases hq
    rw[ag nq,ag (am hq hn0)]
    exact hq
   ·rw[List.getElem?_append_right (by lia)]at h1
    have:j=i:=by
     by_cases e:j - ps.length=0
     ·lia
     ·rw[List.getElem?_eq_none (by simp; lia)]at h1; cases h1
    subst this
    rw[show j - ps.length=0 by lia]at h1
    cases h1
    rw[List.getElem?_eq_getElem hlt]at h2
    cases h2
    rw[List.getElem?_eq_getElem (by lia)]at h3
    cases h3
    exact ⟨_,rfl,by rw[ag nS.symm]; exact ac⟩
theorem oK(n a b:Nat)(h1:a<n)(h2:b<n):ZipApart (n+4) (n+2) (n+3) n (n+1) a b:=by
 constructor <;> exact (show (_:Nat)≠(_:Nat) by lia)
theorem uX(n a b c:Nat)(h1:a<n)(h2:b<n)(h:c∈[n+4,n+2,n+3,n,n+1,a,b]):c≠n+5:=by
 simp only[mem_cons,not_mem_nil,or_false]at h
 lia
theorem iW(n c:Nat)(h:c∈[n+4,n+3,n,n+1]):n≤c∧c≠n+5:=by
 simp only[mem_cons,not_mem_nil,or_false]at h
 lia
theorem mY:typeLookup (.type "zip") (Str.ofString "__len__")=pure none:=by rw[typeLookup_type,builtinLookup_eq_fast]; kernel_rfl
theorem lV:typeLookup (.type "zip") (Str.ofString "__length_hint__")=pure none:=by rw[typeLookup_type,builtinLookup_eq_fast]; kernel_rfl
section
variable {prog:Program}{w:World}{A:Around}{E:Value→Shared→Prop}{s:Shared}{I:Addr}
theorem rG{Q:Bool→Shared→Prop}(hT:s.TypeIs (.ref I) "zip")(h:Q true s):wpAny (model prog w) A (Builtin.List.listLengthHint (.ref I)) Q E s:=by
 unfold Builtin.List.listLengthHint
 refine wpAny_bind (wpAny_specialOf hT mY ?_)
 show wpAny _ A (specialOf (Value.ref I) (Str.ofString "__length_hint__") >>= _) _ _ _
 refine wpAny_bind (wpAny_specialOf hT lV ?_)
 exact wpAny_pure h
end
section
variable {X:Cx}{e f:Expr}{ta:TA}{p1 p2 pos pos2:Pos}
def tLZ(ta:TA):TE:=fun σ H Q=>ta σ H fun vs H1=>∃(a b:Addr) (xs ys:List V),vs=[.ref a,.ref b]∧H1 a=some (.lst xs)∧H1 b=some (.lst ys)∧xs.length=ys.length∧xs.length≤1000 ∧
 ∀ H' l ps,Same H1 H'→H1 l=none→H' l=some (.lst ps)→ps.length=xs.length→Zp H' xs ys ps→Q (.ref l) H'
theorem mX(hc:X.calm=true)(hg1:Gl X "list")(hm1:X.mg "list" = none)(hg2:Gl X "zip")(hm2:X.mg "zip" = none)(ha:PA X [e,f] ta)
  (he:starEach [Expr.Call (.Name "zip" p2) [e,f] [] pos2] X.env=[(false,eval (.Call (.Name "zip" p2) [e,f] [] pos2) X.env)]:=by rfl) (hs:starEach [e,f] X.env=(false,eval e X.env)::starEach [f] X.env:=by rfl)
  (hpl:(backTo pos2 (starEach [f] X.env)).any (·.1)=false:=by rfl) :
  PE X (.Call (.Name "list" p1) [.Call (.Name "zip" p2) [e,f] [] pos2] [] pos) (tLZ ta):=by
 intro pins s σ H Q I h
 have sl:sizeLine=16777216:=sizeLine_eq
 refine wpAny_Call_Name_kw (fB I hg1 hm1 di ?_ (by decide) (by decide))
 refine PyProof.Rows.callWith_type1 (Calls.spliced_cons ?_) he rfl
 refine wpAny_Call_Name_kw (fB I hg2 hm2 qH ?_ (by decide) (by decide))
 refine PyProof.Rows.callWith_type1 (thn (ha pos2 pins s σ H _ I h) fun us s1 ⟨vs,H1,I1,r1,a,b,xs,ys,e1,hl,hl2,hxy,hx,q⟩=>?_) hs hpl
 subst e1
 obtain ⟨u,v,rfl,ru,rv⟩:=lM r1
 cases ru
 cases rv
 obtain ⟨_,its,n,r,hlen,eo⟩:=I1.lstM hl
 obtain ⟨_,its2,m,r2,hlen2,eo2⟩:=I1.lstM hl2
 refine call_zip_2 (xs:=its.toArray) (ys:=its2.toArray) ⟨_,eo,rfl,_,rfl⟩ ⟨_,eo2,rfl,_,rfl⟩ fun h2 e1 e2 e3 e4 e5 e6 e7=>?_
 refine Calls.spliced_nil ?_
 have I2:Inv X pins σ H1 { s1 with heap:=h2 }:=I1.kept (t':=s1.toks) e7
 have lta:a<s1.heap.objs.size:=Heap.lt_size eo
 have ltb:b<s1.heap.objs.size:=Heap.lt_size eo2
 have Z2:ZS h2 (s1.heap.objs.size+4) (s1.heap.objs.size+2) (s1.heap.objs.size+3) s1.heap.objs.size (s1.heap.objs.size+1) a b its.toArray its2.toArray 0:=⟨.inl e1,e2,⟨_,_,e3⟩,e4,e5,⟨_,e7 _ _ eo,rfl,_,rfl⟩,⟨_,e7 _ _ eo2,rfl,_,rfl⟩⟩
 have D:ZipApart (s1.heap.objs.size+4) (s1.heap.objs.size+2) (s1.heap.objs.size+3) s1.heap.objs.size (s1.heap.objs.size+1) a b:=oK _ _ _ lta ltb
 have fp0:∀ c,s1.heap.objs.size≤c→FpOk X pins H1 c:=fun c hc'=>I1.fpOk hc' (I1.hok.fresh hc')
 obtain ⟨S,hS⟩:∃ S,S=h2.objs.size:=⟨_,rfl⟩
 have hS5:S=s1.heap.objs.size+5:=by rw[hS,e6]
 refine callType_codes (Q₁:=fun obj s₁=>obj=.ref h2.objs.size∧s₁={ s1 with heap:=h2.push { cls:=.type "list",data:=.seq #[] } }) F.called_list (F.typeCall_list_1 _) F.entry_list_init (code_list_new _ ⟨rfl,rfl⟩) fun obj s₁ h₁=>?_
 obtain ⟨rfl,rfl⟩:=h₁
 rw[← hS]
 have I3:Inv X pins σ (upd H1 S (.lst [])) { s1 with heap:=h2.push { cls:=.type "list",data:=.seq #[] } }:=by
  have:=I2.lnew (t':=s1.toks) (ys:=[]) (its:=[]) .nil (Nat.zero_le _)
  rw[hS]
  exact this
 have fS:H1 S=none:=I1.hok.fresh (by lia)
 obtain ⟨_,its3,n3,r3,_,hS3⟩:=I3.lstM (l:=S) (xs:=[]) ac
 cases r3
 refine ⟨⟨_,hS3,rfl⟩,F.args_list_init_2 _ _,?_⟩
 show wpAny _ _ (do let old ← Builtin.List.listItems (.ref S); Builtin.List.listUpdate (.ref S) (fun _=>#[]); letGo old.toList.reverse; Builtin.List.listExtendWith (.ref S) (.ref (s1.heap.objs.size+4)) .none) _ _ _
 refine wpAny_bind ?_; unfold Builtin.List.listItems; refine wpAny_bind (wpAny_seqItems hS3 rfl (wpAny_pure ?_))
 show wpAny _ _ (updateSeq S (fun _=>#[]) >>= fun _=>letGo (#[]:Array Value).toList.reverse >>= fun _=>Builtin.List.listExtendWith (.ref S) (.ref (s1.heap.objs.size+4)) .none) _ _ _
 refine wpAny_bind (wpAny_updateSeq hS3 rfl ?_)
 refine wpAny_bind (wpAny_letGo ?_)
 have I4:Inv X pins σ (upd (upd H1 S (.lst [])) S (.lst [])) { s1 with heap:=(h2.push { cls:=.type "list",data:=.seq #[] }).update S (Obj.mapSeq (fun _=>#[])) } :=
  I3.lset (s:={ s1 with heap:=h2.push { cls:=.type "list",data:=.seq #[] } }) (t':=s1.toks) (its:=[]) (its':=[]) ac hS3 rfl .nil (Nat.zero_le _)
 rw[cv]at I4
 have up:∀ c o,h2.get? c=some o→((h2.push { cls:=.type "list",data:=.seq #[] }).update S (Obj.mapSeq (fun _=>(#[]:Array Value)))).get? c=some o:=fun c o hc'=>(Heap.get?_update_other _ _ (by rw[hS]; exact Nat.ne_of_gt (Heap.lt_size hc'))).trans (Heap.get?_push_of_some _ hc')
 have Z4:=Z2.on (fun c _ o hc'=>up c o hc') (fun c o hc'=>⟨o,up c o hc'⟩)
 have ti:Shared.TypeIs { s1 with heap:=(h2.push { cls:=.type "list",data:=.seq #[] }).update S (Obj.mapSeq (fun _=>(#[]:Array Value))) } (.ref (s1.heap.objs.size+4)) "zip" := ⟨_,up _ _ e1,rfl⟩
 unfold Builtin.List.listExtendWith
 refine wpAny_bind (wpAny_typeOf ti ?_)
 have g1:Builtin.List.listSameRef (.ref S) (.ref (s1.heap.objs.size+4))=false:=by
  have:(S:Nat)≠s1.heap.objs.size+4:=by lia
  simpa[Builtin.List.listSameRef] using this
 have g2:(Value.type "zip" == Value.type "list")=false:=by decide
 have g3:(Value.type "zip" == Value.type "tuple")=false:=by decide
 simp only[g1,g2,g3,Bool.or_false,Bool.false_eq_true,if_false]
 refine wpAny_bind ?_
 have pz:∀{A':Around}{Q':Value→Shared→Prop}{E':Value→Shared→Prop}{s':Shared},kJ s'.heap (s1.heap.objs.size+4) (s1.heap.objs.size+2) (s1.heap.objs.size+3) .none false→Q' (.ref (s1.heap.objs.size+4)) s'→wpAny (model X.prog X.w) A' (pyIter (.ref (s1.heap.objs.size+4))) Q' E' s':=fun h h'=>wpAny_pyIter_zip h h'
 refine pz (up _ _ e1) ?_
 refine wpAny_bind (wpAny_holding (rG ti ?_))
 rw[if_pos (by rfl)]
 refine wpAny_bind (wpAny_rule ?_)
 obtain ⟨_,its4,n4,r4,_,hS4⟩:=I4.lstM (l:=S) (xs:=[]) ac
 cases r4
 unfold Builtin.List.listTouch
 refine wpAny_bind (wpAny_bind ?_)
 show wpAny _ _ (updateSeq S (·.push .none)) _ _ _
 refine wpAny_updateSeq hS4 rfl ?_ (by simp) (by simp)
 have I5:=I4.lset (s:={ s1 with heap:=(h2.push { cls:=.type "list",data:=.seq #[] }).update S (Obj.mapSeq (fun _=>#[])) }) (t':=s1.toks) (its:=[]) (its':=[.none]) (f:=(·.push .none)) (ys:=[.non]) ac hS4 rfl (.cons rfl .nil) (by rw[sl]; show 1≤16777216; decide)
 rw[cv]at I5
 obtain ⟨_,its5,n5,r5,_,hS5'⟩:=I5.lstM (l:=S) (xs:=[.non]) ac
 obtain ⟨u5,rfl,ru5⟩:=r5.one
 cases ru5
 show wpAny _ _ (updateSeq S (·.pop)) _ _ _
 refine wpAny_updateSeq hS5' rfl ?_ (by simp[sl]) (by simp)
 have I6:=I5.lset (s:={ s1 with heap:=((h2.push { cls:=.type "list",data:=.seq #[] }).update S (Obj.mapSeq (fun _=>#[]))).update S (Obj.mapSeq (·.push .none)) }) (t':=s1.toks) (its:=[.none]) (its':=[]) (f:=(·.pop)) (ys:=[]) ac hS5' (by simp) .nil (Nat.zero_le _)
 rw[cv]at I6
 have nzS:∀ c∈[s1.heap.objs.size+4,s1.heap.objs.size+2,s1.heap.objs.size+3,s1.heap.objs.size,s1.heap.objs.size+1,a,b],c≠S:=fun c hc'=>by
  rw[hS5]
  exact uX _ _ _ _ lta ltb hc'
 have Z6:=(Z4.on (fun c hc' o e=>(Heap.get?_update_other _ (Obj.mapSeq (·.push .none)) (nzS c hc').symm).trans e) (fun c o e=>by
  by_cases ec:c=S
  ·exact ⟨_,by rw[ec]; exact hS5'⟩
  ·exact ⟨o,(Heap.get?_update_other _ _ (Ne.symm ec)).trans e⟩)).on (fun c hc' o e=>(Heap.get?_update_other _ (Obj.mapSeq (·.pop)) (nzS c hc').symm).trans e) (fun c o e=>by
  by_cases ec:c=S
  ·exact ⟨_,by rw[ec]; exact Heap.get?_update_self _ hS5' rfl⟩
  ·exact ⟨o,(Heap.get?_update_other _ _ (Ne.symm ec)).trans e⟩)
 refine wpAny_pure ⟨plainId_quiet F.plain_extend_loop _,t8 (H0:=H1) (by simpa using I1.ok.hd hc) D ?_ r r2 hxy hx fS xs.length 0 _ _ _ rfl (Nat.zero_le _) Z6 I6 (fun c hc'=>(fp0 c ?_).on ?_) (Same.new fS) ac rfl (fun j p x y h=>by cases h) fun s' H' ps' I' sm hS' hps hz=>⟨rfl,?_⟩⟩
 ·exact fun z=>nzS _ z rfl
 ·exact (iW _ _ hc').1
 ·rw[ag (by rw[hS5]; exact (iW _ _ hc').2)]
  exact I1.hok.fresh (iW _ _ hc').1
 ·exact ⟨.ref S,H',I',rfl,q H' S ps' sm fS hS' hps hz⟩
end
end L2
namespace Du
theorem kg{a b:Rat}(ha:0≤a)(hb:0<b):0≤a/b:=by
 rw[Rat.div_def]
 exact Rat.mul_nonneg ha (Rat.le_of_lt (Rat.inv_pos.mpr hb))
def hb(h c:Rat):Rat:=if h+c<1 then h+c else h+c - 1
theorem yq{h c:Rat}(h0:0≤h)(h1:h<1)(c0:0<c)(c1:c<1):0≤hb h c∧hb h c<1:=by
 unfold hb; split <;> grind
end Du
namespace Du
def Uns(c:Rat):Prop:=0<c∧c<1
def us0(h c:Rat):Rat×Rat:=if h+c<1 then (c/(h+c),0) else ((1 - c)/(2 - (h+c)),(1 - h)/(2 - (h+c)))
def cZ(h:Rat)(us:Rat×Rat)(c:Rat):Rat×Rat:=if h+c<1 then (us.1*(h/(h+c)),us.2) else (us.1*((1 - h)/(2 - (h+c))),us.2+us.1*((1 - c)/(2 - (h+c))))
def bk(us:Rat×Rat)(h c:Rat):Rat:=if 0<h+c - 1 then us.2*c+us.1*(h+c - 1) else us.2*c
end Du
namespace Du
open FrM
def fr(q:Rat):Int×Int:=(q.num,(q.den:Int))
theorem eP(n:Int){d:Nat}(hd:d≠0):cI n (d:Int)=fr (mkRat n d):=by
 unfold cI fr
 rw[Rat.num_mkRat,Rat.den_mkRat,if_neg hd,if_neg hd]
 have e:Int.gcd n (d:Int)=d.gcd n.natAbs:=by rw[Int.gcd,Nat.gcd_comm]; rfl
 rw[e]
 rfl
theorem nK(t:Int){b:Int}(hb:0<b):cI t b=fr ((t:Rat)/(b:Rat)):=by
 obtain ⟨d,rfl⟩:=Int.eq_ofNat_of_zero_le (Int.le_of_lt hb)
 rw[eP t (by omega),← Rat.divInt_eq_div,← Rat.divInt_ofNat]
theorem ud(p q:Rat):cI (p.num*(q.den:Int)+q.num*(p.den:Int)) ((p.den:Int)*(q.den:Int))=fr (p+q):=by
 rw[Rat.add_def',← eP _ (Nat.mul_ne_zero p.den_nz q.den_nz)]
 simp
theorem tU(p q:Rat):cI (p.num*(q.den:Int) - q.num*(p.den:Int)) ((p.den:Int)*(q.den:Int))=fr (p - q):=by
 rw[Rat.sub_def',← eP _ (Nat.mul_ne_zero p.den_nz q.den_nz)]
 simp
theorem vg(p q:Rat):cI (p.num*q.num) ((p.den:Int)*(q.den:Int))=fr (p*q):=by
 rw[Rat.mul_def',← eP _ (Nat.mul_ne_zero p.den_nz q.den_nz)]
 simp
theorem num_pos{q:Rat}:0<q.num↔0<q:=by
 rw[Rat.lt_iff]; simp
theorem tB(p q:Rat)(h:0<q):cI (p.num*(q.den:Int)) ((p.den:Int)*q.num)=fr (p/q):=by
 have hn:=num_pos.mpr h
 have hp:(0:Int)<p.den:=by have:=p.den_pos; omega
 rw[nK _ (Int.mul_pos hp hn)]
 congr 1
 have e1:p=(p.num:Rat)/(p.den:Rat):=by
  have:=Rat.num_divInt_den p
  rw[Rat.divInt_eq_div]at this
  exact this.symm
 have e2:q=(q.num:Rat)/(q.den:Rat):=by
  have:=Rat.num_divInt_den q
  rw[Rat.divInt_eq_div]at this
  exact this.symm
 have d1:(p.den:Rat)≠0:=by have:=p.den_nz; exact_mod_cast this
 have d2:(q.den:Rat)≠0:=by have:=q.den_nz; exact_mod_cast this
 have d3:(q.num:Rat)≠0:=by
  have:q.num≠0:=by omega
  exact_mod_cast this
 conv=>rhs; rw[e1,e2]
 push_cast
 grind
def Bb(q:Rat):Prop:=Bt 1000 q.num∧Bt 1000 (q.den:Int)
def Bq(D:Nat)(q:Rat):Prop:=0≤q∧q≤1∧∃ n:Nat,q*(D:Rat)=(n:Rat)
def Bz(D:Nat)(q:Rat):Prop:=∃ n:Int,q*(D:Rat)=(n:Rat)∧n.natAbs≤4*D
theorem lj{D:Nat}(h:0<D):(0:Rat)<(D:Rat):=by exact_mod_cast h
theorem xW{D:Nat}{q:Rat}{n:Int}(hD:0<D)(e:q*(D:Rat)=(n:Rat)):q=mkRat n D:=by
 have hp:=lj hD
 have:q=(n:Rat)/(D:Rat):=by grind
 rw[this,← Rat.divInt_ofNat,Rat.divInt_eq_div]
 rfl
theorem Bz.bb{D:Nat}{q:Rat}(hD:0<D)(hl:D<2 ^ 980)(h:Bz D q):Bb q:=by
 obtain ⟨n,e,hn⟩:=h
 have eq:=xW hD e
 have l:=eP n (show D≠0 by omega)
 rw[← eq]at l
 have hd:(0:Int)<(D:Int):=by omega
 obtain ⟨_,_,_,l4,l5⟩:=low n (D:Int) hd
 have e1:(cI n (D:Int)).1=q.num:=by rw[l]; rfl
 have e2:(cI n (D:Int)).2=(q.den:Int):=by rw[l]; rfl
 have e1':n/(Int.gcd n (D:Int):Int)=q.num:=e1
 have e2':(D:Int)/(Int.gcd n (D:Int):Int)=(q.den:Int):=e2
 rw[e1']at l4
 rw[e2']at l5
 have p1:(2:Nat) ^ 1000=2 ^ 980*1048576:=by decide +kernel
 unfold Bb Bt
 rw[p1]
 constructor <;> omega
theorem ql{n:Nat}:(0:Rat)≤(n:Rat):=by exact_mod_cast Nat.zero_le n
theorem qN{n m:Nat}(h:(n:Rat)≤(m:Rat)):n≤m:=by exact_mod_cast h
theorem fq{n m:Nat}(h:m≤n):((n - m:Nat):Rat)=(n:Rat) - (m:Rat):=by
 obtain ⟨k,rfl⟩:=Nat.exists_eq_add_of_le h
 rw[Nat.add_sub_cancel_left]
 push_cast
 grind
theorem gr{a b:Rat}(ha:0≤a)(hb:0≤b):0≤a*b:=Rat.mul_nonneg ha hb
theorem Bq.nat{D:Nat}{q:Rat}(h:Bq D q):∃ n:Nat,q*(D:Rat)=(n:Rat)∧n≤D:=by
 obtain ⟨h0,h1,n,e⟩:=h
 refine ⟨n,e,qN ?_⟩
 have:=gr (show 0≤1 - q by grind) (ql (n:=D))
 grind
theorem Bq.z{D:Nat}{q:Rat}(h:Bq D q):Bz D q:=by
 obtain ⟨n,e,hn⟩:=h.nat
 exact ⟨(n:Int),by rw[e]; rfl,by omega⟩
theorem Bq.bb{D:Nat}{q:Rat}(hD:0<D)(hl:D<2 ^ 980)(h:Bq D q):Bb q:=h.z.bb hD hl
theorem Bq.mul{D E:Nat}{q r:Rat}(h:Bq D q)(h':Bq E r):Bq (D*E) (q*r):=by
 obtain ⟨h0,h1,n,e⟩:=h
 obtain ⟨g0,g1,m,f⟩:=h'
 refine ⟨gr h0 g0,?_,n*m,?_⟩
 ·have:=gr h0 (show 0≤1 - r by grind)
  grind
 ·push_cast
  grind
theorem Bq.up{D:Nat}(E:Nat){q:Rat}(h:Bq D q):Bq (D*E) q:=by
 obtain ⟨h0,h1,n,e⟩:=h
 refine ⟨h0,h1,n*E,?_⟩
 push_cast
 grind
theorem Bq.up'{D:Nat}(E:Nat){q:Rat}(h:Bq D q):Bq (E*D) q:=by rw[Nat.mul_comm]; exact h.up E
theorem Bq.add{D:Nat}{q r:Rat}(h:Bq D q)(h':Bq D r)(l:q+r≤1):Bq D (q+r):=by
 obtain ⟨h0,h1,n,e⟩:=h
 obtain ⟨g0,g1,m,f⟩:=h'
 refine ⟨by grind,l,n+m,?_⟩
 push_cast
 grind
theorem Bq.zero{D:Nat}:Bq D 0:=⟨by grind,by grind,0,by grind⟩
theorem rH{B:Nat}{q:Rat}(a b c:Int){h k:Rat}{n m:Nat}(e:h*(B:Rat)=(n:Rat))(f:k*(B:Rat)=(m:Rat))(hn:n≤B)(hm:m≤B)(hq:q=(a:Rat)*h+(b:Rat)*k+(c:Rat))(ha:a.natAbs≤1)(hb:b.natAbs≤1)(hc:c.natAbs≤2):Bz B q:=by
 refine ⟨a*n+b*m+c*B,?_,?_⟩
 ·push_cast
  rw[hq]
  grind
 ·have h1:(a*(n:Int)).natAbs≤B:=by rw[Int.natAbs_mul]; have:=Nat.mul_le_mul ha hn; simp at this ⊢; exact this
  have h2:(b*(m:Int)).natAbs≤B:=by rw[Int.natAbs_mul]; have:=Nat.mul_le_mul hb hm; simp at this ⊢; exact this
  have h3:(c*(B:Int)).natAbs≤2*B:=by rw[Int.natAbs_mul]; have:=Nat.mul_le_mul hc (Nat.le_refl B); simp at this ⊢; exact this
  omega
section
variable {B:Nat}{h c:Rat}
theorem wO(H:Bq B h)(C:Bq B c):Bz B (h+c):=by
 obtain ⟨n,e,hn⟩:=H.nat
 obtain ⟨m,f,hm⟩:=C.nat
 exact rH 1 1 0 e f hn hm (by push_cast; grind) (by decide) (by decide) (by decide)
theorem uA(H:Bq B h)(C:Bq B c):Bz B (h+c - 1):=by
 obtain ⟨n,e,hn⟩:=H.nat
 obtain ⟨m,f,hm⟩:=C.nat
 exact rH 1 1 (-1) e f hn hm (by push_cast; grind) (by decide) (by decide) (by decide)
theorem uY(H:Bq B h)(C:Bq B c):Bz B (2 - (h+c)):=by
 obtain ⟨n,e,hn⟩:=H.nat
 obtain ⟨m,f,hm⟩:=C.nat
 exact rH (-1) (-1) 2 e f hn hm (by push_cast; grind) (by decide) (by decide) (by decide)
theorem rF(C:Bq B c):Bq B (1 - c):=by
 obtain ⟨m,f,hm⟩:=C.nat
 obtain ⟨c0,c1,_⟩:=C
 refine ⟨by grind,by grind,B - m,?_⟩
 rw[fq hm]
 grind
theorem vX(H:Bq B h)(C:Bq B c)(h1:h<1)(c1:c<1):Bq B (hb h c):=by
 obtain ⟨h0,_,n,e⟩:=H
 obtain ⟨c0,_,m,f⟩:=C
 unfold hb
 split
 ·exact ⟨by grind,by grind,n+m,by push_cast; grind⟩
 ·refine ⟨by grind,by grind,n+m - B,?_⟩
  have:(B:Rat)≤((n+m:Nat):Rat):=by
   push_cast
   have:=gr (show 0≤h+c - 1 by grind) (ql (n:=B))
   grind
  rw[fq (qN this)]
  push_cast
  grind
theorem gH{a b:Rat}(A:∃ n:Nat,a*(B:Rat)=(n:Rat))(hB:∃ n:Nat,b*(B:Rat)=(n:Rat))(a0:0≤a)(b0:0<b)(l:a≤b)(hp:0<B)(T:Nat)(eT:b*(B:Rat)=(T:Rat)):Bq T (a/b):=by
 obtain ⟨n,e⟩:=A
 refine ⟨kg a0 b0,?_,n,?_⟩
 ·have:a/b=1 - (b - a)/b:=by grind
  have:=kg (show 0≤b - a by grind) b0
  grind
 ·rw[← eT,← e]
  grind
end
theorem qV{B:Nat}{h c:Rat}(hp:0<B)(H:Bq B h)(C:Bq B c)(h1:h<1)(c0:0<c)(c1:c<1):∃ T:Nat,0<T∧T≤2*B ∧
  (h+c<1→Bq T (h/(h+c))∧Bq T (c/(h+c)))∧(¬h+c<1→Bq T ((1 - c)/(2 - (h+c)))∧Bq T ((1 - h)/(2 - (h+c)))):=by
 obtain ⟨n,e,hn⟩:=H.nat
 obtain ⟨m,f,hm⟩:=C.nat
 obtain ⟨h0,_,_⟩:=H
 have hpB:=lj hp
 by_cases k:h+c<1
 ·have eT:(h+c)*(B:Rat)=((n+m:Nat):Rat):=by push_cast; grind
  refine ⟨n+m,?_,by omega,fun _=>⟨gH ⟨n,e⟩ ⟨_,eT⟩ h0 (by grind) (by grind) hp _ eT,gH ⟨m,f⟩ ⟨_,eT⟩ (by grind) (by grind) (by grind) hp _ eT⟩,fun z=>absurd k z⟩
  have:(0:Rat)<(m:Rat):=by rw[← f]; exact Rat.mul_pos c0 hpB
  have:0<m:=by exact_mod_cast this
  omega
 ·have eT:(2 - (h+c))*(B:Rat)=((2*B - (n+m):Nat):Rat):=by rw[fq (by omega)]; push_cast; grind
  have e1:(1 - c)*(B:Rat)=((B - m:Nat):Rat):=by rw[fq (by omega)]; grind
  have e2:(1 - h)*(B:Rat)=((B - n:Nat):Rat):=by rw[fq (by omega)]; grind
  refine ⟨2*B - (n+m),?_,by omega,fun z=>absurd z k,fun _=>⟨gH ⟨_,e1⟩ ⟨_,eT⟩ (by grind) (by grind) (by grind) hp _ eT,gH ⟨_,e2⟩ ⟨_,eT⟩ (by grind) (by grind) (by grind) hp _ eT⟩⟩
  have:(0:Rat)<((2*B - (n+m):Nat):Rat):=by rw[← eT]; exact Rat.mul_pos (by grind) hpB
  exact_mod_cast this
def Pu(D:Nat)(us:Rat×Rat):Prop:=Bq D us.1∧Bq D us.2∧us.1+us.2≤1
theorem Pu.step{B D T:Nat}{h c:Rat}{us:Rat×Rat}(P:Pu D us)(h0:0≤h)(h1:h<1)(c0:0<c)(c1:c<1)(hT:(h+c<1→Bq T (h/(h+c))∧Bq T (c/(h+c)))∧(¬h+c<1→Bq T ((1 - c)/(2 - (h+c)))∧Bq T ((1 - h)/(2 - (h+c))))):Pu (D*T) (cZ h us c):=by
 obtain ⟨p1,p2,p3⟩:=P
 unfold cZ
 split
 ·rename_i k
  obtain ⟨t1,t2⟩:=hT.1 k
  refine ⟨p1.mul t1,p2.up T,?_⟩
  have:=gr p1.1 (show 0≤1 - h/(h+c) by have:=t1.2.1; grind)
  grind
 ·rename_i k
  obtain ⟨t1,t2⟩:=hT.2 k
  have s1:(1 - c)/(2 - (h+c))+(1 - h)/(2 - (h+c))=1:=by grind
  have e:us.1*((1 - h)/(2 - (h+c)))+(us.2+us.1*((1 - c)/(2 - (h+c))))=us.1+us.2:=by
   have:us.1*((1 - h)/(2 - (h+c)))+us.1*((1 - c)/(2 - (h+c)))=us.1:=by
    rw[← Rat.mul_add,Rat.add_comm ((1 - h)/(2 - (h+c))),s1]; grind
   grind
  refine ⟨p1.mul t2,(p2.up T).add (p1.mul t1) ?_,by rw[e]; exact p3⟩
  have:=(p1.mul t2).1
  grind
theorem Pu.new{T:Nat}{h c:Rat}(h0:0≤h)(h1:h<1)(c0:0<c)(c1:c<1)(hT:(h+c<1→Bq T (h/(h+c))∧Bq T (c/(h+c)))∧(¬h+c<1→Bq T ((1 - c)/(2 - (h+c)))∧Bq T ((1 - h)/(2 - (h+c))))):Pu T (us0 h c):=by
 unfold us0
 split
 ·rename_i k
  obtain ⟨t1,t2⟩:=hT.1 k
  exact ⟨t2,Bq.zero,by have:=t2.2.1; grind⟩
 ·rename_i k
  obtain ⟨t1,t2⟩:=hT.2 k
  exact ⟨t1,t2,by grind⟩
theorem Pu.up{D:Nat}{us:Rat×Rat}(P:Pu D us)(E:Nat):Pu (E*D) us:=⟨P.1.up' E,P.2.1.up' E,P.2.2⟩
theorem Pu.bk{B D:Nat}{h c:Rat}{us:Rat×Rat}(P:Pu D us)(C:Bq B c)(H:Bq B h)(h1:h<1)(c1:c<1):Bq (D*B) (us.2*c)∧(0<h+c - 1→Bq B (h+c - 1)∧Bq (D*B) (us.1*(h+c - 1)))∧Bq (D*B) (bk us h c):=by
 obtain ⟨p1,p2,p3⟩:=P
 have q1:=p2.mul C
 have q2:0<h+c - 1→Bq B (h+c - 1):=fun z=>by
  have:=vX H C h1 c1
  unfold hb at this
  rw[if_neg (by grind)]at this
  exact this
 refine ⟨q1,fun z=>⟨q2 z,p1.mul (q2 z)⟩,?_⟩
 unfold Du.bk
 split
 ·rename_i z
  refine q1.add (p1.mul (q2 z)) ?_
  have a1:=gr p2.1 (show 0≤1 - c by grind)
  have a2:=gr p1.1 (show 0≤1 - (h+c - 1) by grind)
  grind
 ·exact q1
end Du
namespace Du
abbrev Fn:=Nat→Nat→Option Rat
def mq(f:Fn)(x y:Nat)(v:Rat):Fn:=fun a b=>if a=x∧b=y then some v else f a b
abbrev Er:=List (Nat×(Rat×Rat))
def qK(p:Nat)(h c:Rat)(e:Er)(f:Fn):Fn:=e.foldl (fun f z=>mq (mq f z.1 p (bk z.2 h c)) p z.1 (bk z.2 h c)) f
def nB(S:Fn×Er×Rat)(x:Nat×Rat):Fn×Er×Rat:=(qK x.1 S.2.2 x.2 S.2.1 S.1,S.2.1.map (fun z=>(z.1,cZ S.2.2 z.2 x.2))++[(x.1,us0 S.2.2 x.2)],hb S.2.2 x.2)
def k0:Fn×Er×Rat:=(fun _ _=>none,[],0)
def nj(L:List (Nat×Rat)):Fn:=(L.foldl nB k0).1
theorem tK{f:Fn}{x y:Nat}{v:Rat}:mq f x y v x y=some v:=if_pos ⟨rfl,rfl⟩
theorem sV{f:Fn}{x y a b:Nat}{v:Rat}(h:¬(a=x∧b=y)):mq f x y v a b=f a b:=if_neg h
def kN(c:Rat):Bool:=decide (0<c∧c<1)
theorem unsQ_iff{c:Rat}:kN c=true↔Uns c:=decide_eq_true_iff
end Du
namespace FrM
def Fr(B:Int)(f:Int×Int):Prop:=0≤f.1∧f.1≤f.2∧0<f.2∧f.2 ∣ B
def uns(f:Int×Int):Bool:=decide (0<f.1∧f.1<f.2)
def bD(a b:Int):Int:=a/(Int.gcd a b:Int)*b
theorem kQ(x y:Nat):bD (x:Int) (y:Int)=(Nat.lcm x y:Nat):=by
 unfold bD
 rw[Int.gcd_natCast_natCast,← Int.natCast_ediv,← Int.natCast_mul,Nat.div_mul_right_comm (Nat.gcd_dvd_left x y)]
 rfl
theorem qY{a b:Int}(ha:0<a)(hb:0<b):a*b/(Int.gcd a b:Int)=bD a b:=by
 obtain ⟨x,rfl⟩:=Int.eq_ofNat_of_zero_le (Int.le_of_lt ha)
 obtain ⟨y,rfl⟩:=Int.eq_ofNat_of_zero_le (Int.le_of_lt hb)
 rw[kQ,Int.gcd_natCast_natCast,← Int.natCast_mul,← Int.natCast_ediv]
 rfl
theorem oh{a b B:Int}(ha:0<a)(hb:0<b)(hB:0<B)(da:a ∣ B)(db:b ∣ B):0<bD a b∧a ∣ bD a b∧b ∣ bD a b∧bD a b ∣ B:=by
 obtain ⟨x,rfl⟩:=Int.eq_ofNat_of_zero_le (Int.le_of_lt ha)
 obtain ⟨y,rfl⟩:=Int.eq_ofNat_of_zero_le (Int.le_of_lt hb)
 obtain ⟨z,rfl⟩:=Int.eq_ofNat_of_zero_le (Int.le_of_lt hB)
 rw[kQ]
 rw[Int.ofNat_dvd,]at da db
 refine ⟨?_,Int.ofNat_dvd.mpr (Nat.dvd_lcm_left x y),Int.ofNat_dvd.mpr (Nat.dvd_lcm_right x y),Int.ofNat_dvd.mpr (Nat.lcm_dvd da db)⟩
 exact Int.natCast_pos.mpr (Nat.lcm_pos (Int.natCast_pos.mp ha) (Int.natCast_pos.mp hb))
def duA(c e:Int×Int):Int:=c.1*(bD c.2 e.2/c.2)
def duB(c e:Int×Int):Int:=e.1*(bD c.2 e.2/e.2)
def duL(c e:Int×Int):Bool:=decide (duA c e+duB c e<bD c.2 e.2)
def du1(c e:Int×Int):Int:=if duL c e=true then duA c e else bD c.2 e.2 - duB c e
def du2(c e:Int×Int):Int:=if duL c e=true then duB c e else bD c.2 e.2 - duA c e
def duR(c e:Int×Int):Int×Int:=if duL c e=true then cI (duA c e+duB c e) (bD c.2 e.2) else cI (duA c e+duB c e - bD c.2 e.2) (bD c.2 e.2)
def duE(c e:Int×Int):Int×Int:=if duL c e=true then (0,1) else (1,1)
theorem nP{T d B:Int}(hd:0<d)(h0:0≤T)(h1:T<d)(db:d ∣ B):Fr B (cI T d)∧(cI T d).1<(cI T d).2:=by
 have hg:(0:Int)<(Int.gcd T d:Int):=(low T d hd).1
 obtain ⟨t,et⟩:=Int.gcd_dvd_left T d
 obtain ⟨b,eb⟩:=Int.gcd_dvd_right T d
 have e1:T/(Int.gcd T d:Int)=t:=Int.ediv_eq_of_eq_mul_right (by omega) et
 have e2:d/(Int.gcd T d:Int)=b:=Int.ediv_eq_of_eq_mul_right (by omega) eb
 unfold Fr cI
 simp only[e1,e2]
 have ht:0≤t:=by
  refine Int.not_lt.mp fun h=>?_
  have:=Int.mul_neg_of_pos_of_neg hg h
  rw[← et]at this
  omega
 have hlt:t<b:=by
  refine Int.not_le.mp fun h=>?_
  have:=Int.mul_le_mul_of_nonneg_left h (Int.le_of_lt hg)
  rw[← et,← eb]at this
  omega
 exact ⟨⟨ht,by omega,by omega,Int.dvd_trans ⟨_,by rw[Int.mul_comm]; exact eb⟩ db⟩,hlt⟩
theorem rg{c e:Int×Int}{B:Int}(hB:0<B)(hc:Fr B c)(he:Fr B e)(uc:uns c=true)(ue:uns e=true) :
  0<bD c.2 e.2∧bD c.2 e.2 ∣ B∧bD c.2 e.2≤B∧0<duA c e∧duA c e<bD c.2 e.2∧0<duB c e∧duB c e<bD c.2 e.2:=by
 obtain ⟨d0,⟨k1,e1⟩,⟨k2,e2⟩,d3⟩:=oh hc.2.2.1 he.2.2.1 hB hc.2.2.2 he.2.2.2
 have c1:0<c.1∧c.1<c.2:=of_decide_eq_true uc
 have c2:0<e.1∧e.1<e.2:=of_decide_eq_true ue
 have q1:bD c.2 e.2/c.2=k1:=Int.ediv_eq_of_eq_mul_right (by omega) e1
 have q2:bD c.2 e.2/e.2=k2:=Int.ediv_eq_of_eq_mul_right (by omega) e2
 have k1p:0<k1:=by
  refine Int.not_le.mp fun h=>?_
  have:=Int.mul_nonpos_of_nonneg_of_nonpos (a:=c.2) (b:=k1) (by omega) h
  omega
 have k2p:0<k2:=by
  refine Int.not_le.mp fun h=>?_
  have:=Int.mul_nonpos_of_nonneg_of_nonpos (a:=e.2) (b:=k2) (by omega) h
  omega
 unfold duA duB
 rw[q1,q2]
 refine ⟨d0,d3,Int.le_of_dvd hB d3,Int.mul_pos c1.1 k1p,?_,Int.mul_pos c2.1 k2p,?_⟩
 ·have:=Int.mul_lt_mul_of_pos_right c1.2 k1p
  omega
 ·have:=Int.mul_lt_mul_of_pos_right c2.2 k2p
  omega
theorem og{c e:Int×Int}{B:Int}(hB:0<B)(hc:Fr B c)(he:Fr B e)(uc:uns c=true)(ue:uns e=true) :
  0<du1 c e∧0<du2 c e∧du1 c e+du2 c e≤B∧Fr B (duR c e)∧(duR c e).1<(duR c e).2∧Fr B (duE c e)∧uns (duE c e)=false:=by
 obtain ⟨d0,d1,d2,a0,a1,b0,b1⟩:=rg hB hc he uc ue
 have o1:Fr B (0,1):=⟨by decide,by decide,by decide,Int.one_dvd B⟩
 have o2:Fr B (1,1):=⟨by decide,by decide,by decide,Int.one_dvd B⟩
 unfold du1 du2 duR duE
 by_cases h:duL c e=true
 ·have h':duA c e+duB c e<bD c.2 e.2:=of_decide_eq_true h
  simp only[if_pos h]
  have:=nP d0 (T:=duA c e+duB c e) (by omega) h' d1
  exact ⟨a0,b0,by omega,this.1,this.2,o1,rfl⟩
 ·have h':¬duA c e+duB c e<bD c.2 e.2:=fun z=>h (decide_eq_true z)
  simp only[if_neg h]
  have:=nP d0 (T:=duA c e+duB c e - bD c.2 e.2) (by omega) (by omega) d1
  exact ⟨by omega,by omega,by omega,this.1,this.2,o2,rfl⟩
abbrev Tl:=List (Int×(Int×Int))
def whl(f:Int×Int):Bool:=decide (f=(1,1))
def cc(tl:Tl)(tk:List Int):Tl×List Int:=(tl.filter (fun x=>uns x.2),tk++(tl.filter fun x=>whl x.2).map (·.1))
def par(b:Bool)(c e:Int×Int):(Int×Int)×(Int×Int):=if b=duL c e then (duR c e,duE c e) else (duE c e,duR c e)
def sz1:Tl→Int
 | (_,c)::(_,e)::_=>du1 c e
 | [(_,c)]=>c.1
 | []=>0
def sz2:Tl→Int
 | (_,c)::(_,e)::_=>du2 c e
 | [(_,c)]=>c.2 - c.1
 | []=>0
def nx(b:Bool):Tl→List Int→Tl×List Int
 | (p,c)::(o,e)::r,tk=>cc ((p,(par b c e).1)::(o,(par b c e).2)::r) tk
 | [(p,_)],tk=>([],if b=true then tk++[p] else tk)
 | [],tk=>([],tk)
def eW:Tl→List Int→List (Int×Int×Int)→List Int→Prop
 | tl,tk,[],kept=>tl=[]∧kept=tk
 | tl,tk,(k,n,t)::r,kept=>tl≠[]∧k=sz1 tl∧n=sz2 tl∧0≤t∧t<k+n∧eW (nx (decide (t<k)) tl tk).1 (nx (decide (t<k)) tl tk).2 r kept
def WfS(B:Int)(tl:Tl)(tk:List Int):Prop:=(∀ x∈tl,Fr B x.2)∧tl.length+tk.length≤24
def WfT(B:Int)(tl:Tl)(tk:List Int):Prop:=(∀ x∈tl,Fr B x.2∧uns x.2=true)∧tl.length+tk.length≤24
theorem nv{f:Int×Int}(h:whl f=true):uns f=false:=by
 rw[of_decide_eq_true (p:=f=(1,1)) h]
 rfl
theorem lW:∀(tl:Tl) ,(tl.filter fun x=>uns x.2).length+(tl.filter fun x=>whl x.2).length≤tl.length
 | []=>by simp
 | x::r=>by
  have ih:=lW r
  rw[filter_cons,filter_cons,length_cons]
  cases hw:whl x.2 with
  | true=>rw[nv hw]; simp; omega
  | false=>cases uns x.2 <;> simp <;> omega
theorem iy{B:Int}{tl:Tl}{tk:List Int}(h:WfS B tl tk):WfT B (cc tl tk).1 (cc tl tk).2:=by
 refine ⟨fun x hx=>?_,?_⟩
 ·have:=mem_filter.mp hx
  exact ⟨h.1 x this.1,this.2⟩
 ·have:=lW tl
  have:=h.2
  simp only[cc,length_append,length_map]
  omega
theorem wr{c e:Int×Int}{B:Int}(hB:0<B)(hc:Fr B c)(he:Fr B e)(uc:uns c=true)(ue:uns e=true)(b:Bool):Fr B (par b c e).1∧Fr B (par b c e).2:=by
 obtain ⟨_,_,_,h1,_,h2,_⟩:=og hB hc he uc ue
 unfold par
 split
 ·exact ⟨h1,h2⟩
 ·exact ⟨h2,h1⟩
theorem rP{B:Int}{p o:Int}{c e:Int×Int}{r:Tl}{tk:List Int}(hB:0<B)(h:WfT B ((p,c)::(o,e)::r) tk)(b:Bool):WfS B ((p,(par b c e).1)::(o,(par b c e).2)::r) tk:=by
 have h1:=h.1 _ (mem_cons_self ..)
 have h2:=h.1 _ (mem_cons_of_mem _ (mem_cons_self ..))
 have:=wr hB h1.1 h2.1 h1.2 h2.2 b
 refine ⟨fun x hx=>?_,h.2⟩
 rcases mem_cons.mp hx with rfl | hx
 ·exact this.1
 rcases mem_cons.mp hx with rfl | hx
 ·exact this.2
 ·exact (h.1 x (mem_cons_of_mem _ (mem_cons_of_mem _ hx))).1
theorem yg{B:Int}{tl:Tl}{tk:List Int}(hB:0<B)(h:WfT B tl tk)(b:Bool):WfT B (nx b tl tk).1 (nx b tl tk).2:=by
 match tl with
 | []=>exact h
 | [(p,c)] =>
  refine ⟨fun x hx=>(by cases hx),?_⟩
  have:=h.2
  show 0+(if b=true then tk++[p] else tk).length≤24
  simp only[length_cons,length_nil]at this
  split
  ·rw[length_append]; show 0+(tk.length+1)≤24; omega
  ·omega
 | (p,c)::(o,e)::r=>exact iy (rP hB h b)
end FrM
namespace FrM
def gN(now:List (Int×Int))(o:Nat):Int×Int:=now.getD o (0,1)
def TL(now:List (Int×Int))(up:Option Nat)(os:List Nat):Tl:=(match up with | some u=>[((u:Int),gN now u)] | none=>[])++((os.map fun (o:Nat)=>((o:Int),gN now o)).filter fun x=>uns x.2)
def wh(now:List (Int×Int)):List Int:=((List.range now.length).filter fun i=>whl (gN now i)).map (fun (i:Nat)=>(i:Int))
theorem gX{now:List (Int×Int)}{i j:Nat}{f:Int×Int}(hi:i<now.length):gN (now.set i f) j=if j=i then f else gN now j:=by
 unfold gN
 rw[List.getD,List.getD,List.getElem?_set]
 by_cases h:i=j
 ·subst h
  rw[if_pos rfl,if_pos hi,if_pos rfl]
  rfl
 ·rw[if_neg h,if_neg (fun z=>h z.symm)]
theorem lR(now:List (Int×Int)):(wh now).Nodup:=by
 unfold wh
 refine List.Pairwise.map _ (fun a b h=>?_) ((List.nodup_range (n:=now.length)).filter _)
 exact fun z=>h (by exact_mod_cast z)
theorem mem_wh{now:List (Int×Int)}{x:Int}:x∈wh now↔∃ i:Nat,i<now.length∧whl (gN now i)=true∧x=(i:Int):=by
 unfold wh
 rw[mem_map]
 constructor
 ·rintro ⟨i,hi,rfl⟩
  obtain ⟨h1,h2⟩:=mem_filter.mp hi
  exact ⟨i,mem_range.mp h1,h2,rfl⟩
 ·rintro ⟨i,h1,h2,rfl⟩
  exact ⟨i,mem_filter.mpr ⟨mem_range.mpr h1,h2⟩,rfl⟩
theorem mG{now:List (Int×Int)}{i:Nat}{f:Int×Int}(hi:i<now.length)(hw:whl (gN now i)=false):(wh (now.set i f)).Perm (wh now++if whl f=true then [(i:Int)] else []):=by
 have hn:(i:Int) ∉ wh now:=fun h=>by
  obtain ⟨j,_,h2,h3⟩:=mem_wh.mp h
  have:i=j:=by exact_mod_cast h3
  rw[← this,hw]at h2
  cases h2
 have nd2:(wh now++if whl f=true then [(i:Int)] else []).Nodup:=by
  rw[nodup_append]
  refine ⟨lR now,by split <;> simp,fun a ha b hb z=>?_⟩
  split at hb
  ·rw[mem_singleton.mp hb]at z
   exact hn (z ▸ ha)
  ·cases hb
 refine (List.perm_ext_iff_of_nodup (lR _) nd2).mpr fun x=>?_
 rw[mem_wh,mem_append,mem_wh,length_set]
 constructor
 ·rintro ⟨j,h1,h2,rfl⟩
  rw[gX hi]at h2
  by_cases hj:j=i
  ·rw[if_pos hj]at h2
   rw[if_pos h2]
   exact .inr (by rw[hj]; exact mem_singleton.mpr rfl)
  ·rw[if_neg hj]at h2
   exact .inl ⟨j,h1,h2,rfl⟩
 ·rintro (⟨j,h1,h2,rfl⟩ | h)
  ·refine ⟨j,h1,?_,rfl⟩
   have hj:j≠i:=fun z=>by rw[z,hw]at h2; cases h2
   rw[gX hi,if_neg hj]
   exact h2
  ·split at h
   ·rename_i hf
    refine ⟨i,hi,?_,mem_singleton.mp h⟩
    rw[gX hi,if_pos rfl]
    exact hf
   ·cases h
theorem j6(now:List (Int×Int))(up:Option Nat)(o:Nat)(os:List Nat):TL now up (o::os)=(match up with | some u=>[((u:Int),gN now u)] | none=>[])++(if uns (gN now o)=true then [((o:Int),gN now o)] else [])++((os.map fun (o:Nat)=>((o:Int),gN now o)).filter fun x=>uns x.2):=by
 unfold TL
 rw[map_cons,filter_cons]
 cases up <;> cases h:uns (gN now o) <;> simp
theorem uz{now now':List (Int×Int)}{os:List Nat}(h:∀ o∈os,gN now' o=gN now o):((os.map fun (o:Nat)=>((o:Int),gN now' o)).filter fun x=>uns x.2)=((os.map fun (o:Nat)=>((o:Int),gN now o)).filter fun x=>uns x.2):=by
 rw[map_congr_left (fun o ho=>by rw[h o ho])]
structure WI(tlS:Tl)(tkS:List Int)(B:Int)(now:List (Int×Int))(up:Option Nat)(os:List Nat)(rs:List (Int×Int×Int)):Prop where
 nd:os.Nodup
 lt:∀ o∈os,o<now.length
 upk:∀ u,up=some u→u<now.length∧u ∉ os∧uns (gN now u)=true
 fr:∀ i,i<now.length→Fr B (gN now i)
 ex:∃ tk,tk.Perm (wh now)∧∀ r' kept,eW (TL now up os) tk r' kept→eW tlS tkS (rs++r') kept
theorem WI.start{B:Int}{sh:List (Int×Int)}{ord:List Nat}(hp:ord.Perm (List.range sh.length))(hf:∀ f∈sh,Fr B f):WI (cc (ord.map fun (o:Nat)=>((o:Int),sh.getD o (0,1))) []).1 (cc (ord.map fun (o:Nat)=>((o:Int),sh.getD o (0,1))) []).2 B sh none ord []:=by
 refine ⟨hp.nodup_iff.mpr List.nodup_range,fun o ho=>mem_range.mp (hp.mem_iff.mp ho),fun u h=>(by cases h),fun i hi=>?_,_,?_,fun r' kept h=>h⟩
 ·unfold gN
  rw[List.getD,List.getElem?_eq_getElem hi]
  exact hf _ (getElem_mem hi)
 ·show ([]++((ord.map fun (o:Nat)=>((o:Int),sh.getD o (0,1))).filter fun (x:Int×(Int×Int))=>whl x.2).map (fun (x:Int×(Int×Int))=>x.1)).Perm (wh sh)
  rw[List.nil_append,filter_map,map_map]
  exact (hp.filter _).map _
theorem WI.skip{tlS:Tl}{tkS:List Int}{B:Int}{now:List (Int×Int)}{up:Option Nat}{o:Nat}{os:List Nat}{rs:List (Int×Int×Int)}(h:WI tlS tkS B now up (o::os) rs)(hu:uns (gN now o)=false):WI tlS tkS B now up os rs:=by
 refine ⟨(nodup_cons.mp h.nd).2,fun x hx=>h.lt x (mem_cons_of_mem _ hx),fun u hu'=>?_,h.fr,?_⟩
 ·obtain ⟨a,b,c⟩:=h.upk u hu'
  exact ⟨a,fun z=>b (mem_cons_of_mem _ z),c⟩
 ·obtain ⟨tk,h1,h2⟩:=h.ex
  refine ⟨tk,h1,fun r' kept g=>h2 r' kept ?_⟩
  rw[j6,if_neg (by rw[hu]; decide),append_nil]
  exact g
theorem WI.get{tlS:Tl}{tkS:List Int}{B:Int}{now:List (Int×Int)}{o:Nat}{os:List Nat}{rs:List (Int×Int×Int)}(h:WI tlS tkS B now none (o::os) rs)(hu:uns (gN now o)=true):WI tlS tkS B now (some o) os rs:=by
 refine ⟨(nodup_cons.mp h.nd).2,fun x hx=>h.lt x (mem_cons_of_mem _ hx),fun u hu'=>?_,h.fr,?_⟩
 ·cases hu'
  exact ⟨h.lt o (mem_cons_self ..),(nodup_cons.mp h.nd).1,hu⟩
 ·obtain ⟨tk,h1,h2⟩:=h.ex
  refine ⟨tk,h1,fun r' kept g=>h2 r' kept ?_⟩
  rw[j6,if_pos hu]
  exact g
theorem gw{f:Int×Int}(h:uns f=true):whl f=false:=by
 cases hw:whl f with
 | false=>rfl
 | true=>rw[nv hw]at h; cases h
theorem mO{f:Int×Int}(h:f.1<f.2):whl f=false:=by
 unfold whl
 exact decide_eq_false fun z=>by rw[z]at h; exact absurd h (by decide)
theorem lB(os:List Nat)(now:List (Int×Int))(p:Int×Int→Bool)(hp:∀ f,uns f=true→p f=false):(((os.map fun (o:Nat)=>((o:Int),gN now o)).filter fun x=>uns x.2).filter fun x=>p x.2)=[]:=by
 rw[List.filter_eq_nil_iff]
 intro x hx
 rw[hp _ (mem_filter.mp hx).2]
 decide
theorem pI(os:List Nat)(now:List (Int×Int)):(((os.map fun (o:Nat)=>((o:Int),gN now o)).filter fun x=>uns x.2).filter fun x=>uns x.2)=((os.map fun (o:Nat)=>((o:Int),gN now o)).filter fun x=>uns x.2):=by
 rw[List.filter_eq_self]
 intro x hx
 exact (mem_filter.mp hx).2
theorem WI.duel{tlS:Tl}{tkS:List Int}{B:Int}{now:List (Int×Int)}{u o i j:Nat}{os:List Nat}{rs:List (Int×Int×Int)}{t:Int}(hB:0<B)(h:WI tlS tkS B now (some u) (o::os) rs)(hu:uns (gN now o)=true)
  (t0:0≤t) (t1:t<du1 (gN now u) (gN now o)+du2 (gN now u) (gN now o))
  (hij:(decide (t<du1 (gN now u) (gN now o))=duL (gN now u) (gN now o)∧i=o∧j=u)∨(decide (t<du1 (gN now u) (gN now o))≠duL (gN now u) (gN now o)∧i=u∧j=o)) :
  WI tlS tkS B ((now.set i (duE (gN now u) (gN now o))).set j (duR (gN now u) (gN now o))) (if uns (duR (gN now u) (gN now o))=true then some j else none) os (rs++[(du1 (gN now u) (gN now o),du2 (gN now u) (gN now o),t)]):=by
 obtain ⟨ul,uo,uu⟩:=h.upk u rfl
 have ol:=h.lt o (mem_cons_self ..)
 have uno:u≠o:=fun z=>uo (by rw[z]; exact mem_cons_self ..)
 have unos:u ∉ os:=fun z=>uo (mem_cons_of_mem _ z)
 have onos:=(nodup_cons.mp h.nd).1
 obtain ⟨d1,d2,d3,fR,ltR,fE,uE⟩:=og hB (h.fr u ul) (h.fr o ol) uu hu
 generalize hc:gN now u=c at *
 generalize he:gN now o=e at *
 have il:i<now.length:=by rcases hij with ⟨_,rfl,_⟩ | ⟨_,rfl,_⟩ <;> assumption
 have jl:j<now.length:=by rcases hij with ⟨_,_,rfl⟩ | ⟨_,_,rfl⟩ <;> assumption
 have ij:j≠i:=by
  rcases hij with ⟨_,rfl,rfl⟩ | ⟨_,rfl,rfl⟩
  ·exact uno
  ·exact Ne.symm uno
 have ios:i ∉ os:=by rcases hij with ⟨_,rfl,_⟩ | ⟨_,rfl,_⟩ <;> assumption
 have jos:j ∉ os:=by rcases hij with ⟨_,_,rfl⟩ | ⟨_,_,rfl⟩ <;> assumption
 have ui:uns (gN now i)=true:=by rcases hij with ⟨_,rfl,_⟩ | ⟨_,rfl,_⟩ <;> simp only[hc,he] <;> assumption
 have uj:uns (gN now j)=true:=by rcases hij with ⟨_,_,rfl⟩ | ⟨_,_,rfl⟩ <;> simp only[hc,he] <;> assumption
 have jl':j<(now.set i (duE c e)).length:=by rw[length_set]; exact jl
 have gg:∀ k,gN ((now.set i (duE c e)).set j (duR c e)) k=if k=j then duR c e else if k=i then duE c e else gN now k:=fun k=>by rw[gX jl',gX il]
 have gos:∀ k∈os,gN ((now.set i (duE c e)).set j (duR c e)) k=gN now k:=fun k hk=>by
  rw[gg,if_neg (fun z:k=j=>jos (z ▸ hk)),if_neg (fun z:k=i=>ios (z ▸ hk))]
 refine ⟨(nodup_cons.mp h.nd).2,fun x hx=>?_,fun v hv=>?_,fun k hk=>?_,?_⟩
 ·rw[length_set,length_set]; exact h.lt x (mem_cons_of_mem _ hx)
 ·split at hv
  ·rename_i hR
   cases hv
   rw[length_set,length_set,gg,if_pos rfl]
   exact ⟨jl,jos,hR⟩
  ·cases hv
 ·rw[length_set,length_set]at hk
  rw[gg]
  split
  ·exact fR
  split
  ·exact fE
  ·exact h.fr k hk
 ·obtain ⟨tk,h1,h2⟩:=h.ex
  have hwi:=mG (f:=duE c e) il (gw ui)
  have hwj:=mG (now:=now.set i (duE c e)) (f:=duR c e) jl' (by rw[gX il,if_neg ij]; exact gw uj)
  rw[if_neg (by rw[mO ltR]; decide),append_nil]at hwj
  refine ⟨tk++(if whl (duE c e)=true then [(i:Int)] else []),?_,fun r' kept g=>?_⟩
  ·exact (h1.append_right _).trans (hwi.symm.trans hwj.symm)
  rw[List.append_assoc]
  refine h2 _ kept ?_
  have eTL:TL now (some u) (o::os)=((u:Int),c)::((o:Int),e)::((os.map fun (o:Nat)=>((o:Int),gN now o)).filter fun x=>uns x.2):=by
   rw[j6,he,if_pos hu]
   show ((u:Int),gN now u)::_=_
   rw[hc]
   rfl
  rw[eTL]
  refine ⟨by simp,rfl,rfl,t0,t1,?_⟩
  show eW (cc _ tk).1 (cc _ tk).2 r' kept
  have key:cc (((u:Int),(par (decide (t<du1 c e)) c e).1)::((o:Int),(par (decide (t<du1 c e)) c e).2)::((os.map fun (o:Nat)=>((o:Int),gN now o)).filter fun x=>uns x.2)) tk=(TL ((now.set i (duE c e)).set j (duR c e)) (if uns (duR c e)=true then some j else none) os,tk++(if whl (duE c e)=true then [(i:Int)] else [])):=by
   unfold cc TL
   rw[uz gos]
   simp only[filter_cons,pI,lB os now whl (fun f hf=>gw hf)]
   rcases hij with ⟨hb,rfl,rfl⟩ | ⟨hb,rfl,rfl⟩
   ·have hp:par (decide (t<du1 c e)) c e=(duR c e,duE c e):=by unfold par; rw[if_pos hb]
    rw[hp]
    simp only[uE,mO ltR]
    cases hR:uns (duR c e) <;> cases hW:whl (duE c e) <;> simp[gg]
   ·have hp:par (decide (t<du1 c e)) c e=(duE c e,duR c e):=by unfold par; rw[if_neg hb]
    rw[hp]
    simp only[uE,mO ltR]
    cases hR:uns (duR c e) <;> cases hW:whl (duE c e) <;> simp[gg]
  have key2:=congrArg (fun S=>eW S.1 S.2 r' kept) key
  exact key2.mpr g
theorem WI.end_none{tlS:Tl}{tkS:List Int}{B:Int}{now:List (Int×Int)}{rs:List (Int×Int×Int)}(h:WI tlS tkS B now none [] rs):∃ kept,eW tlS tkS rs kept∧kept.Perm (wh now):=by
 obtain ⟨tk,h1,h2⟩:=h.ex
 have:=h2 [] tk ⟨rfl,rfl⟩
 rw[append_nil]at this
 exact ⟨tk,this,h1⟩
theorem WI.end_some{tlS:Tl}{tkS:List Int}{B:Int}{now:List (Int×Int)}{u:Nat}{rs:List (Int×Int×Int)}{t:Int}(h:WI tlS tkS B now (some u) [] rs)(t0:0≤t)(t1:t<(gN now u).2) :
  ∃ kept,eW tlS tkS (rs++[((gN now u).1,(gN now u).2 - (gN now u).1,t)]) kept∧kept.Perm (wh (now.set u (if t<(gN now u).1 then (1,1) else (0,1)))):=by
 obtain ⟨tk,h1,h2⟩:=h.ex
 obtain ⟨ul,_,uu⟩:=h.upk u rfl
 have hw:=mG (f:=if t<(gN now u).1 then (1,1) else (0,1)) ul (gw uu)
 refine ⟨tk++(if whl (if t<(gN now u).1 then (1,1) else (0,1))=true then [(u:Int)] else []),h2 _ _ ⟨by simp[TL],rfl,rfl,t0,by omega,?_⟩,(h1.append_right _).trans hw.symm⟩
 show eW [] (if decide (t<(gN now u).1)=true then tk++[(u:Int)] else tk) [] _
 by_cases c:t<(gN now u).1
 ·rw[decide_eq_true c,if_pos c]
  exact ⟨rfl,rfl⟩
 ·rw[decide_eq_false c,if_neg c]
  exact ⟨rfl,by simp[whl]⟩
end FrM
namespace FrM
def un(B:Int)(f:Int×Int):Int:=f.1*(B/f.2)
theorem qf{B T d:Int}(hd:0<d)(db:d ∣ B):un B (cI T d)=T*(B/d):=by
 obtain ⟨k,rfl⟩:=db
 have h:=gv (t:=T) (b:=d) hd
 generalize cI T d=f at h
 obtain ⟨t,b⟩:=f
 have hb:0<b:=h.pos
 have e:t*d=T*b:=h.eq
 have dv:b ∣ d:=gu h.cop ⟨T,by rw[e,Int.mul_comm]⟩
 obtain ⟨j,rfl⟩:=dv
 show t*(b*j*k/b)=T*(b*j*k/(b*j))
 rw[Int.mul_ediv_cancel_left _ (by lia:b*j≠0),Int.mul_assoc b j k,Int.mul_ediv_cancel_left _ (by lia:b≠0)]
 have e2:t*j=T:=by
  refine Int.eq_of_mul_eq_mul_right (show b≠0 by lia) ?_
  rw[← e,Int.mul_assoc,Int.mul_comm j b]
 rw[← e2,Int.mul_assoc]
theorem nF{B d:Int}{c:Int×Int}(hc:0<c.2)(hd:0<d)(cd:c.2 ∣ d)(db:d ∣ B):c.1*(d/c.2)*(B/d)=un B c:=by
 obtain ⟨k,rfl⟩:=db
 obtain ⟨j,rfl⟩:=cd
 unfold un
 rw[Int.mul_ediv_cancel_left _ (by lia:c.2*j≠0),Int.mul_assoc c.2 j k,Int.mul_ediv_cancel_left _ (by lia:c.2≠0),Int.mul_ediv_cancel_left _ (by lia:c.2≠0),Int.mul_assoc]
theorem xn{B:Int}{c e:Int×Int}(hB:0<B)(hc:Fr B c)(he:Fr B e)(b:Bool):un B (par b c e).1+un B (par b c e).2=un B c+un B e:=by
 obtain ⟨d0,d1,d2,d3⟩:=oh hc.2.2.1 he.2.2.1 hB hc.2.2.2 he.2.2.2
 have ec:=nF hc.2.2.1 d0 d1 d3
 have ee:=nF he.2.2.1 d0 d2 d3
 have one:un B (1,1)=B:=by unfold un; simp
 have nil:un B (0,1)=0:=by unfold un; simp
 have key:un B (duR c e)+un B (duE c e)=un B c+un B e:=by
  unfold duR duE
  by_cases h:duL c e=true
  ·rw[if_pos h,if_pos h,qf d0 d3,nil,← ec,← ee]
   unfold duA duB
   rw[Int.add_mul]; lia
  ·rw[if_neg h,if_neg h,qf d0 d3,one,← ec,← ee]
   unfold duA duB
   rw[Int.sub_mul,Int.add_mul,Int.mul_ediv_cancel' d3]; lia
 unfold par
 split
 ·exact key
 ·show un B (duE c e)+un B (duR c e)=_
  rw[Int.add_comm]; exact key
def wt(B:Int)(tl:Tl)(tk:List Int):Int:=(tl.map fun x=>un B x.2).sum+B*(tk.length:Int)
def mz(f:Int×Int):Prop:=uns f=true∨f=(1,1)∨f.1=0
theorem ot{B:Int}:∀(tl:Tl) (tk:List Int),(∀ x∈tl,mz x.2)→wt B (cc tl tk).1 (cc tl tk).2=wt B tl tk:=by
 have key:∀ tl:Tl,(∀ x∈tl,mz x.2)→((tl.filter fun x=>uns x.2).map fun x=>un B x.2).sum+B*((tl.filter fun x=>whl x.2).length:Int)=(tl.map fun x=>un B x.2).sum:=by
  intro tl
  induction tl with
  | nil=>intro _; simp
  | cons x r ih =>
   intro h
   have h':=ih fun y hy=>h y (mem_cons_of_mem _ hy)
   rw[map_cons,sum_cons,← h']
   rcases h x mem_cons_self with e | e | e
   ·rw[filter_cons_of_pos (by exact e),filter_cons_of_neg (by rw[gw e]; decide),map_cons,sum_cons]; lia
   ·rw[filter_cons_of_neg (by rw[e]; decide),filter_cons_of_pos (by rw[e]; decide),length_cons,e]
    have:un B (1,1)=B:=by unfold un; simp
    rw[this,Int.natCast_add,Int.mul_add]; simp; lia
   ·rw[filter_cons_of_neg (by unfold uns; rw[e]; simp),filter_cons_of_neg (by unfold whl; intro z; have:=of_decide_eq_true z; rw[this]at e; simp at e)]
    have:un B x.2=0:=by unfold un; rw[e]; simp
    rw[this]; lia
 intro tl tk h
 unfold wt cc
 rw[length_append,length_map,Int.natCast_add,Int.mul_add,← key tl h]; lia
theorem rN{c e:Int×Int}{B:Int}(hB:0<B)(hc:Fr B c)(he:Fr B e)(uc:uns c=true)(ue:uns e=true)(b:Bool):mz (par b c e).1∧mz (par b c e).2:=by
 obtain ⟨_,_,_,h1,h3,_⟩:=og hB hc he uc ue
 have n1:mz (duR c e):=by
  rcases Int.lt_or_eq_of_le h1.1 with g | g
  ·exact .inl (decide_eq_true ⟨g,h3⟩)
  ·exact .inr (.inr g.symm)
 have n2:mz (duE c e):=by
  unfold duE; split
  ·exact .inr (.inr rfl)
  ·exact .inr (.inl rfl)
 unfold par; split
 ·exact ⟨n1,n2⟩
 ·exact ⟨n2,n1⟩
theorem vf{B:Int}{c:Int×Int}(hB:0<B)(hc:Fr B c)(uc:uns c=true):0<un B c∧un B c<B:=by
 obtain ⟨h0,h1⟩:=of_decide_eq_true (p:=0<c.1∧c.1<c.2) uc
 obtain ⟨k,hk⟩:=hc.2.2.2
 have k0:0<k:=by
  rcases Int.lt_or_le 0 k with g | g
  ·exact g
  ·exact absurd (Int.mul_nonpos_of_nonneg_of_nonpos (show 0≤c.2 by lia) g) (by lia)
 have e:un B c=c.1*k:=by unfold un; rw[hk,Int.mul_ediv_cancel_left _ (by lia:c.2≠0)]
 rw[e]
 refine ⟨Int.mul_pos h0 k0,?_⟩
 have:=Int.mul_lt_mul_of_pos_right h1 k0
 rw[← hk]at this
 exact this
theorem lv{B:Int}(hB:0<B):∀(rows:List (Int×Int×Int)) (tl:Tl) (tk kept:List Int) (k:Int),eW tl tk rows kept→WfT B tl tk→wt B tl tk=k*B→(kept.length:Int)=k
 | [],tl,tk,kept,k,h,_,e=>by
  obtain ⟨rfl,rfl⟩:=h
  unfold wt at e
  simp at e
  rw[Int.mul_comm B]at e
  exact Int.eq_of_mul_eq_mul_right (by lia) e
 | (a,b,t)::r,tl,tk,kept,k,h,hw,e=>by
  obtain ⟨hn,_,_,_,_,hg⟩:=h
  match tl,hn,hw,e,hg with
  | [(p,c)],_,hw,e,hg =>
   have w1:=hw.1 (p,c) mem_cons_self
   obtain ⟨u0,u1⟩:=vf hB w1.1 w1.2
   unfold wt at e
   simp at e
   exfalso
   have e2:un B c=(k - tk.length)*B:=by rw[Int.sub_mul,← e,Int.mul_comm B]; lia
   rcases Int.lt_or_le 0 (k - tk.length) with g | g
   ·have:=Int.mul_le_mul_of_nonneg_right (show 1≤k - tk.length by lia) (show 0≤B by lia)
    lia
   ·have:=Int.mul_nonpos_of_nonpos_of_nonneg g (show 0≤B by lia)
    lia
  | (p,c)::(o,e')::r',_,hw,e,hg =>
   have w1:=hw.1 (p,c) mem_cons_self
   have w2:=hw.1 (o,e') (mem_cons_of_mem _ mem_cons_self)
   refine lv hB r _ _ kept k hg (yg hB hw _) ?_
   obtain ⟨n1,n2⟩:=rN hB w1.1 w2.1 w1.2 w2.2 (decide (t<a))
   show wt B (cc _ tk).1 (cc _ tk).2=_
   rw[ot]
   ·rw[← e]
    unfold wt
    simp only[map_cons,sum_cons]
    have:=xn hB w1.1 w2.1 (decide (t<a))
    lia
   ·intro x hx
    rcases mem_cons.mp hx with rfl | hx
    ·exact n1
    rcases mem_cons.mp hx with rfl | hx
    ·exact n2
    exact .inl (hw.1 x (mem_cons_of_mem _ (mem_cons_of_mem _ hx))).2
def rl(g:Int→Int)(tl:Tl):Tl:=tl.map fun x=>(g x.1,x.2)
theorem ny(g:Int→Int)(tl:Tl)(tk:List Int):cc (rl g tl) (tk.map g)=(rl g (cc tl tk).1,(cc tl tk).2.map g):=by
 unfold cc rl
 rw[filter_map,filter_map,map_append,map_map,map_map]
 rfl
theorem yB(g:Int→Int)(b:Bool)(tl:Tl)(tk:List Int):nx b (rl g tl) (tk.map g)=(rl g (nx b tl tk).1,(nx b tl tk).2.map g):=by
 match tl with
 | []=>rfl
 | [(p,c)]=>cases b <;> simp[nx,rl]
 | (p,c)::(o,e)::r=>exact ny g ((p,(par b c e).1)::(o,(par b c e).2)::r) tk
theorem vS(g:Int→Int)(tl:Tl):sz1 (rl g tl)=sz1 tl∧sz2 (rl g tl)=sz2 tl:=by
 match tl with
 | []=>exact ⟨rfl,rfl⟩
 | [(p,c)]=>exact ⟨rfl,rfl⟩
 | (p,c)::(o,e)::r=>exact ⟨rfl,rfl⟩
theorem nY(g:Int→Int):∀(rows:List (Int×Int×Int)) (tl:Tl) (tk kept:List Int),eW tl tk rows kept→eW (rl g tl) (tk.map g) rows (kept.map g)
 | [],tl,tk,kept,h=>by obtain ⟨rfl,rfl⟩:=h; exact ⟨rfl,rfl⟩
 | (a,b,t)::r,tl,tk,kept,h=>by
  obtain ⟨hn,h1,h2,h3,h4,hg⟩:=h
  have:=nY g r _ _ _ hg
  refine ⟨fun z=>hn (List.map_eq_nil_iff.mp z),by rw[(vS g tl).1]; exact h1,by rw[(vS g tl).2]; exact h2,h3,h4,?_⟩
  rw[yB]
  exact this
end FrM
namespace FrM
theorem i6(z:List Int)(p:Nat→Bool):∀ l:List Nat,aW z l=aW z (l.filter p)+aW z (l.filter fun k=>!p k)∧l.length=(l.filter p).length+(l.filter fun k=>!p k).length
 | []=>by simp[aW]
 | a::l=>by
  obtain ⟨h1,h2⟩:=i6 z p l
  have e:∀ r:List Nat,aW z (a::r)=sz z a+aW z r:=fun r=>by unfold aW; rw[map_cons,sum_cons]
  cases h:p a with
  | true =>
   rw[filter_cons_of_pos (by exact h),filter_cons_of_neg (by simp[h]),e,e,length_cons,length_cons]
   lia
  | false =>
   rw[filter_cons_of_neg (by simp[h]),filter_cons_of_pos (by simp[h]),e,e,length_cons,length_cons]
   lia
theorem rR{z:List Int}{l:List Nat}{w:Int}(hz:∀ k∈l,1≤sz z k)(hw:w<l.length)(w0:0<w):0<w - ((l.length:Int) - ((stay z l w).length:Int)):=by
 have hp:=lu hz hw (by lia)
 obtain ⟨h1,h2⟩:=i6 z (fun k=>decide (sz z k*w<aW z l)) l
 have hs:l.filter (fun k=>decide (sz z k*w<aW z l))=stay z l w:=rfl
 rw[hs]at h1 h2
 have h3:=eu z (stay z l w) fun k hk=>hz k (mem_filter.mp hk).1
 have h4:=gk z w (aW z l) (l.filter fun k=>!decide (sz z k*w<aW z l)) fun k hk=>by
  have:=(mem_filter.mp hk).2
  simpa using this
 generalize (l.filter fun k=>!decide (sz z k*w<aW z l))=hi at *
 have h5:aW z hi≤aW z l - 1:=by lia
 have h6:aW z hi*w≤(aW z l - 1)*w:=Int.mul_le_mul_of_nonneg_right h5 (by lia)
 rw[Int.sub_mul,Int.one_mul]at h6
 have h7:(hi.length:Int)*aW z l<w*aW z l:=by rw[Int.mul_comm w]; lia
 have h8:=eu z l hz
 have h9:=Int.lt_of_mul_lt_mul_right h7 (by lia)
 lia
theorem nN{z:List Int}{n:Nat}{m:Int}(hz:∀ k,k<n→1≤sz z k):∀(c:Nat) (l:List Nat) (w:Int),l.length≤c→Rnd z n m l w→0<w→0<(fin z l w).2∧∀ k∈(fin z l w).1,sz z k*(fin z l w).2<aW z (fin z l w).1
 | 0,l,w,hc,h,_=>absurd h.pos (by lia)
 | c+1,l,w,hc,h,w0=>by
  by_cases e:(stay z l w).length=l.length
  ·rw[gt e]
   refine ⟨w0,fun k hk=>?_⟩
   have:=List.length_filter_eq_length_iff.mp e k hk
   simpa using this
  ·rw[kC e]
   have:=gz z l w
   exact nN hz c _ _ (by lia) (h.step hz) (rR (fun k hk=>hz k (h.sub k hk)) h.lt w0)
structure FrOk(f:Int×Int):Prop where
 pos:0<f.2
 lo:0≤f.1
 hi:f.1≤f.2
 bd:f.2≤576000000
 ends:¬(0<f.1∧f.1<f.2)→f=(1,1)∨f=(0,1)
theorem wz{T B:Int}(h0:0<T)(h1:T<B)(h2:B≤576000000):FrOk (cI T B):=by
 have h:=gv (t:=T) (b:=B) (by lia)
 generalize cI T B=f at h
 obtain ⟨t,b⟩:=f
 have hb:0<b:=h.pos
 have hd:b≤B:=(wL (by lia) h).1
 have e:t*B=T*b:=h.eq
 have p1:0<T*b:=Int.mul_pos h0 hb
 have t0:0<t:=by
  rcases Int.lt_or_le 0 t with g | g
  ·exact g
  ·exact absurd (Int.mul_nonpos_of_nonpos_of_nonneg g (show 0≤B by lia)) (by lia)
 have t1:t<b:=by
  have p2:T*b<B*b:=Int.mul_lt_mul_of_pos_right h1 hb
  rw[← e,Int.mul_comm B b]at p2
  exact Int.lt_of_mul_lt_mul_right p2 (by lia)
 exact ⟨hb,by show 0≤t; lia,by show t≤b; lia,by show b≤576000000; lia,fun g=>absurd ⟨t0,t1⟩ g⟩
theorem wG{z:List Int}{m:Int}(hz:∀ k,k<z.length→1≤sz z k)(hh:∀ k,k<z.length→sz z k≤24000000)(hl:z.length≤24)(hm:0≤m):∀ f∈due z m,FrOk f:=by
 have one:FrOk (1,1):=⟨by decide,by decide,by decide,by decide,fun _=>.inl rfl⟩
 have nil:FrOk (0,1):=⟨by decide,by decide,by decide,by decide,fun _=>.inr rfl⟩
 intro f hf
 unfold due at hf
 by_cases h1:(z.length:Int)≤m
 ·rw[if_pos h1]at hf
  obtain ⟨_,_,rfl⟩:=mem_map.mp hf
  exact one
 ·rw[if_neg h1]at hf
  by_cases h2:m=0
  ·rw[if_pos h2]at hf
   obtain ⟨_,_,rfl⟩:=mem_map.mp hf
   exact nil
  ·rw[if_neg h2]at hf
   obtain ⟨k,hk,rfl⟩:=mem_map.mp hf
   have S:=Rnd.start (z:=z) (n:=z.length) (m:=m) (by lia) (by lia)
   have R:=Rnd.fin hz _ _ _ (Nat.le_refl _) S
   obtain ⟨w0,hall⟩:=nN hz _ _ _ (Nat.le_refl _) S (by lia)
   by_cases hd:decide (k∈(FrM.fin z (List.range z.length) m).1)=true
   ·rw[if_pos hd]
    have hk':=of_decide_eq_true hd
    have h3:=gs z 24000000 _ fun k hk=>hh k (R.sub k hk)
    have h4:=R.len
    have h5:=hz k (R.sub k hk')
    exact wz (Int.mul_pos (by lia) w0) (hall k hk') (by lia)
   ·rw[if_neg hd]
    exact one
end FrM
namespace My
open PySem L2 FrM Du
def top(i:Nat):Stmt:=PySem.Challenge.pw_fewspeak_k34_duel_plans.main.body.getD i (.Pass ⟨0,0,0,0⟩)
abbrev aI:Stmt:=bB (top 3) 0
abbrev bC:Stmt:=bB (top 4) 0
abbrev aF:Stmt:=top 6
abbrev aN:Stmt:=top 7
abbrev dC:Stmt:=top 8
abbrev eL:Stmt:=top 9
abbrev dz:Stmt:=top 10
abbrev dD:Stmt:=top 11
abbrev eI:Stmt:=top 12
abbrev dH:Stmt:=top 13
abbrev cf:Stmt:=top 15
abbrev aU:Stmt:=bB (top 18) 0
abbrev aZ:Stmt:=bB (top 18) 1
abbrev bZ:Stmt:=bB (top 18) 2
abbrev bF:Stmt:=bB (top 18) 3
abbrev bH:Stmt:=bB (top 18) 4
abbrev ba:Stmt:=bB (top 19) 0
abbrev bv:Stmt:=bB (top 19) 1
abbrev ck:Stmt:=bB (top 19) 2
abbrev bR:Stmt:=bB (top 19) 3
abbrev bW:Stmt:=bB (top 19) 4
abbrev bS:Stmt:=bB (top 19) 5
abbrev aT:Stmt:=top 20
abbrev dw:Stmt:=top 21
abbrev cU:Stmt:=top 27
abbrev aO:Stmt:=top 28
abbrev bO:Stmt:=top 29
abbrev bV:Stmt:=top 30
abbrev bY:Stmt:=top 31
abbrev bG:Stmt:=top 32
abbrev bt:Stmt:=top 33
abbrev aG:Stmt:=bB (top 34) 0
abbrev cz:Stmt:=bB (top 35) 0
abbrev b7:Stmt:=bB (top 38) 0
abbrev b8:Stmt:=bB (top 40) 0
abbrev bQ:Stmt:=top 41
abbrev cD:Stmt:=top 45
abbrev bP:Stmt:=top 46
abbrev aQ:Stmt:=top 47
abbrev bK:Stmt:=top 48
abbrev bE:Stmt:=top 49
abbrev be:Stmt:=top 50
abbrev bw:Stmt:=top 51
abbrev aS:Stmt:=top 52
abbrev bM:Stmt:=top 53
abbrev bp:Stmt:=top 54
abbrev bn:Stmt:=top 55
abbrev aV:Stmt:=bB (top 56) 0
abbrev bU:Stmt:=bB (top 56) 1
abbrev bu:Stmt:=bB (top 56) 2
abbrev br:Stmt:=bB (top 56) 3
abbrev bT:Stmt:=bB (top 56) 4
abbrev cR:Stmt:=top 58
abbrev dy:Stmt:=top 59
abbrev dI:Stmt:=top 60
abbrev cF:Stmt:=top 61
abbrev dB:Stmt:=top 62
abbrev cg:Stmt:=top 63
abbrev cE:Stmt:=top 64
abbrev ci:Stmt:=top 65
abbrev cV:Stmt:=top 66
abbrev cX:Stmt:=top 67
abbrev cj:Stmt:=top 68
abbrev cG:Stmt:=top 69
abbrev bX:Stmt:=top 70
abbrev cS:Stmt:=top 71
abbrev dJ:Stmt:=top 72
abbrev gy:Stmt:=top 73
theorem fS{N P:List Str}{sc:Scope}(a:sc.kind=.function)(b:sc.isCoroutine=false)(c:sc.isGenerator=false)(d:N.take P.length=P)(h:N.Nodup∧(∀ x∈P,sc.names.lookup x = some .local ∨ sc.names.lookup x = some .cell)∧∀ y∈sc.names,y.2≠.free):FnScope N P sc:=⟨a,b,c,h.1,d,h.2.1,h.2.2⟩
theorem gj:FnScope ["self","place"] ["self","place"] (ad aI):=fS rfl rfl rfl rfl (by decide +kernel)
theorem sc_h:FnScope ["one","other"] ["one","other"] (ad aF):=fS rfl rfl rfl rfl (by decide +kernel)
theorem sc_r:FnScope ["numbers","found","number"] ["numbers"] (ad aN):=fS rfl rfl rfl rfl (by decide +kernel)
theorem sc_E:FnScope ["top","bottom","divisor"] ["top","bottom"] (ad dC):=fS rfl rfl rfl rfl (by decide +kernel)
theorem vm:FnScope ["one","other"] ["one","other"] (ad eL):=fS rfl rfl rfl rfl (by decide +kernel)
theorem sE:FnScope ["one","other"] ["one","other"] (ad dz):=fS rfl rfl rfl rfl (by decide +kernel)
theorem sI:FnScope ["one","other"] ["one","other"] (ad dD):=fS rfl rfl rfl rfl (by decide +kernel)
theorem uS:FnScope ["one","other"] ["one","other"] (ad eI):=fS rfl rfl rfl rfl (by decide +kernel)
theorem qc:FnScope ["one","other"] ["one","other"] (ad dH):=fS rfl rfl rfl rfl (by decide +kernel)
theorem hZ:FnScope ["thing","low","high"] ["thing","low","high"] (ad cf):=fS rfl rfl rfl rfl (by decide +kernel)
theorem g7:FnScope ["self","kept"] ["self","kept"] (ad aU):=fS rfl rfl rfl rfl (by decide +kernel)
theorem iu:FnScope ["self"] ["self"] (ad aZ):=fS rfl rfl rfl rfl (by decide +kernel)
theorem kA:FnScope ["self"] ["self"] (ad bZ):=fS rfl rfl rfl rfl (by decide +kernel)
theorem ju:FnScope ["self"] ["self"] (ad bF):=fS rfl rfl rfl rfl (by decide +kernel)
theorem jy:FnScope ["self"] ["self"] (ad bH):=fS rfl rfl rfl rfl (by decide +kernel)
theorem ik:FnScope ["self","parts"] ["self","parts"] (ad ba):=fS rfl rfl rfl rfl (by decide +kernel)
theorem jd:FnScope ["self"] ["self"] (ad bv):=fS rfl rfl rfl rfl (by decide +kernel)
theorem lg:FnScope ["self"] ["self"] (ad ck):=fS rfl rfl rfl rfl (by decide +kernel)
theorem kH:FnScope ["self"] ["self"] (ad bR):=fS rfl rfl rfl rfl (by decide +kernel)
theorem kc:FnScope ["self"] ["self"] (ad bW):=fS rfl rfl rfl rfl (by decide +kernel)
theorem sc_u:FnScope ["self","throw","number","last","many","make"] ["self","throw"] (ad bS):=fS rfl rfl rfl rfl (by decide +kernel)
theorem gS:FnScope ["node","throw"] ["node","throw"] (ad aT):=fS rfl rfl rfl rfl (by decide +kernel)
theorem sc_aq:FnScope ["node","throws","here","place","throw"] ["node","throws"] (ad dw):=fS rfl rfl rfl rfl (by decide +kernel)
theorem oR:FnScope ["sizes","many"] ["sizes","many"] (ad cU):=fS rfl rfl rfl rfl (by decide +kernel)
theorem sc_l:FnScope ["sizes","many","left","wanted","whole","staying"] ["sizes","many"] (ad aO):=fS rfl rfl rfl rfl (by decide +kernel)
theorem ki:FnScope ["crowd","many"] ["crowd","many"] (ad bO):=fS rfl rfl rfl rfl (by decide +kernel)
theorem j8:FnScope ["crowd"] ["crowd"] (ad bV):=fS rfl rfl rfl rfl (by decide +kernel)
theorem jZ:FnScope ["many","tell"] ["many","tell"] (ad bY):=fS rfl rfl rfl rfl (by decide +kernel)
theorem jq:FnScope ["one","many","tell"] ["one","many","tell"] (ad bG):=fS rfl rfl rfl rfl (by decide +kernel)
theorem i8:FnScope ["thing","low","high"] ["thing","low","high"] (ad bt):=fS rfl rfl rfl rfl (by decide +kernel)
theorem fT:FnScope ["self","levels"] ["self","levels"] (ad aG):=fS rfl rfl rfl rfl (by decide +kernel)
theorem kF:FnScope ["chance"] ["chance"] (ad bQ):=fS rfl rfl rfl rfl (by decide +kernel)
theorem sc_X:FnScope ["told","taken","sure"] ["told","taken"] (ad cD):=fS rfl rfl rfl rfl (by decide +kernel)
theorem sc_M:FnScope ["told","taken","place","chance","other","its_chance"] ["told","taken"] (ad bP):=fS rfl rfl rfl rfl (by decide +kernel)
abbrev eG:Expr:=(tQ (t7 aQ 0))
def ld_settled_make_1:LamD:=ow ((("settled_make" : Str) ++ ".<locals>.") ++ "<lambda>") eG
theorem io:FnScope ["told","taken"] ["told","taken"] (ad aQ):=fS rfl rfl rfl rfl (by decide +kernel)
abbrev fU:Expr:=(xP (xN (wN (tQ (t7 bK 1)) 0) 0) 1)
def ld_last_die_1:LamD:=ow ((("last_die" : Str) ++ ".<locals>.") ++ "<lambda>") fU
abbrev fZ:Expr:=(xP (xN (wN (tQ (t7 bK 1)) 0) 1) 1)
def ld_last_die_2:LamD:=ow ((("last_die" : Str) ++ ".<locals>.") ++ "<lambda>") fZ
theorem sc_j:FnScope ["last","taken","place","chance"] ["last","taken"] (ad bK):=fS rfl rfl rfl rfl (by decide +kernel)
theorem sc_G:FnScope ["one","other","bottom","top","its_top","left"] ["one","other"] (ad bE):=fS rfl rfl rfl rfl (by decide +kernel)
abbrev eR:Expr:=(wN (tQ (t7 be 2)) 1)
def b9:LamD:=ow ((("duel_matrix" : Str) ++ ".<locals>.") ++ "<lambda>") eR
theorem sc_d:FnScope ["shares","order","told","found"] ["shares","order"] (ad be):=fS rfl rfl rfl rfl (by decide +kernel)
theorem iQ:FnScope ["told","found","one","other"] ["told","found","one","other"] (ad bw):=fS rfl rfl rfl rfl (by decide +kernel)
theorem sc_k:FnScope ["told","found","earlier","held","place","chance","one","up","sure"] ["told"] (ad aS):=fS rfl rfl rfl rfl (by decide +kernel)
theorem sc_U:FnScope ["up","sure","held","chance","spare","when_sure"] ["up","sure","held","chance"] (ad bM):=fS rfl rfl rfl rfl (by decide +kernel)
theorem sc_H:FnScope ["held","chance","reached"] ["held","chance"] (ad bp):=fS rfl rfl rfl rfl (by decide +kernel)
theorem sc_w:FnScope ["earlier","held","place","chance","reached","stays","lasting","lacking","ahead","back"] ["earlier","held","place","chance"] (ad bn):=fS rfl rfl rfl rfl (by decide +kernel)
theorem gW:FnScope ["self","many"] ["self","many"] (ad aV):=fS rfl rfl rfl rfl (by decide +kernel)
theorem kj:FnScope ["self","crowd"] ["self","crowd"] (ad bU):=fS rfl rfl rfl rfl (by decide +kernel)
theorem je:FnScope ["self","crowd"] ["self","crowd"] (ad bu):=fS rfl rfl rfl rfl (by decide +kernel)
theorem sc_z:FnScope ["self","crowd","wanted"] ["self","crowd"] (ad br):=fS rfl rfl rfl rfl (by decide +kernel)
theorem sc_J:FnScope ["self","many"] ["self"] (ad bT):=fS rfl rfl rfl rfl (by decide +kernel)
theorem oP:FnScope ["_law_script","_law_k"] ["_law_script","_law_k"] (ad cR):=fS rfl rfl rfl rfl (by decide +kernel)
theorem sc_at:FnScope ["_law_cell_here","_law_k","_law_number"] ["_law_cell_here","_law_k"] (ad dy):=fS rfl rfl rfl rfl (by decide +kernel)
theorem sc_ag:FnScope ["_law_cell_here","_law_bit","_law_many","_law_most","_law_row_here","_law_k"] ["_law_cell_here","_law_bit","_law_many","_law_most"] (ad dI):=fS rfl rfl rfl rfl (by decide +kernel)
theorem lZ:FnScope ["_law_found"] ["_law_found"] (ad cF):=fS rfl rfl rfl rfl (by decide +kernel)
theorem sc_ah:FnScope ["_law_top","_law_bottom","_law_one","_law_other"] ["_law_top","_law_bottom"] (ad dB):=fS rfl rfl rfl rfl (by decide +kernel)
theorem sc_ab:FnScope ["_law_one","_law_other"] ["_law_one","_law_other"] (ad cg):=fS rfl rfl rfl rfl (by decide +kernel)
theorem sc_W:FnScope ["_law_script","_law_start","_law_most","_law_many","_law_bit","_law_most_size","_law_sizes","_law_left","_law_places","_law_pick","_law_path"] ["_law_script","_law_start","_law_most"] (ad cE):=fS rfl rfl rfl rfl (by decide +kernel)
theorem sc_A:FnScope ["_law_sizes","_law_many","_law_sure","_law_more","_law_total","_law_high","_law_k","_law_found"] ["_law_sizes","_law_many"] (ad ci):=fS rfl rfl rfl rfl (by decide +kernel)
theorem sc_aj:FnScope ["_law_first","_law_second","_law_d","_law_a","_law_b"] ["_law_first","_law_second"] (ad cV):=fS rfl rfl rfl rfl (by decide +kernel)
theorem sc_V:FnScope ["_law_shares","_law_order","_law_throws","_law_now","_law_rows","_law_up","_law_at","_law_sizes","_law_end","_law_rest","_law_throw","_law_ends","_law_top","_law_bottom"] ["_law_shares","_law_order","_law_throws"] (ad cX):=fS rfl rfl rfl rfl (by decide +kernel)
theorem sc_aa:FnScope ["_law_node","_law_rows","_law_kept","_law_sizes","_law_throw"] ["_law_node","_law_rows","_law_kept"] (ad cj):=fS rfl rfl rfl rfl (by decide +kernel)
theorem mr:FnScope ["_law_cell_here"] ["_law_cell_here"] (ad cG):=fS rfl rfl rfl rfl (by decide +kernel)
theorem sc_O:FnScope ["_law_thing_here","_law_place","e"] ["_law_thing_here"] (ad bX):=fS rfl rfl rfl rfl (by decide +kernel)
theorem sc_ap:FnScope ["_law_plan","_law_many","_law_kinds"] ["_law_plan","_law_many"] (ad cS):=fS rfl rfl rfl rfl (by decide +kernel)
theorem sN:FnScope ["_law_crowd_here","_law_many"] ["_law_crowd_here","_law_many"] (ad dJ):=fS rfl rfl rfl rfl (by decide +kernel)
theorem sc_av:FnScope ["_law_script","_law_crowd_here","_law_places","_law_many","_law_shares","_law_throws","_law_rows","_law_inside","_law_kept","_law_handed","_law_plan","_law_node","_law_found","_law_ends","_law_due_here","_law_row_here","_law_others","_law_thrown_here"] ["_law_script"] (ad gy):=fS rfl rfl rfl rfl (by decide +kernel)
def qR(K:Frag)(D C:Addr):Bool:=mroIn K D (.ref C) == some true
set_option genInjectivity false in
set_option genSizeOf false in
structure Ad where
 f_h:Addr
 d_h:FuncData
 f_r:Addr
 d_r:FuncData
 f_E:Addr
 d_E:FuncData
 f_ak:Addr
 d_ak:FuncData
 f_ac:Addr
 d_ac:FuncData
 f_Y:Addr
 d_Y:FuncData
 f_ar:Addr
 d_ar:FuncData
 f_al:Addr
 d_al:FuncData
 f_T:Addr
 d_T:FuncData
 f_v:Addr
 d_v:FuncData
 f_aq:Addr
 d_aq:FuncData
 f_as:Addr
 d_as:FuncData
 f_l:Addr
 d_l:FuncData
 f_P:Addr
 d_P:FuncData
 f_ae:Addr
 d_ae:FuncData
 f_af:Addr
 d_af:FuncData
 f_Z:Addr
 d_Z:FuncData
 f_R:Addr
 d_R:FuncData
 f_Q:Addr
 d_Q:FuncData
 f_X:Addr
 d_X:FuncData
 f_M:Addr
 d_M:FuncData
 f_e:Addr
 d_e:FuncData
 f_j:Addr
 d_j:FuncData
 f_G:Addr
 d_G:FuncData
 f_d:Addr
 d_d:FuncData
 f_S:Addr
 d_S:FuncData
 f_k:Addr
 d_k:FuncData
 f_U:Addr
 d_U:FuncData
 f_H:Addr
 d_H:FuncData
 f_w:Addr
 d_w:FuncData
 f_B:Addr
 d_B:FuncData
 f_at:Addr
 d_at:FuncData
 f_ag:Addr
 d_ag:FuncData
 f_am:Addr
 d_am:FuncData
 f_ah:Addr
 d_ah:FuncData
 f_ab:Addr
 d_ab:FuncData
 f_W:Addr
 d_W:FuncData
 f_A:Addr
 d_A:FuncData
 f_aj:Addr
 d_aj:FuncData
 f_V:Addr
 d_V:FuncData
 f_aa:Addr
 d_aa:FuncData
 f_an:Addr
 d_an:FuncData
 f_O:Addr
 d_O:FuncData
 f_ap:Addr
 d_ap:FuncData
 f_au:Addr
 d_au:FuncData
 f_av:Addr
 d_av:FuncData
 c_ad:Addr
 c_f:Addr
 i_f:Addr
 e_f:FuncData
 c_y:Addr
 i_y:Addr
 e_y:FuncData
 c_ao:Addr
 c_g:Addr
 i_g:Addr
 e_g:FuncData
 c_i:Addr
 i_i:Addr
 e_i:FuncData
 c_ai:Addr
 c_N:Addr
 i_N:Addr
 e_N:FuncData
 c_n:Addr
 i_n:Addr
 e_n:FuncData
 c_o:Addr
 i_o:Addr
 e_o:FuncData
 c_c:Addr
 i_c:Addr
 e_c:FuncData
 x_p:Addr
 y_p:FuncData
 x_s:Addr
 y_s:FuncData
 x_C:Addr
 y_C:FuncData
 x_I:Addr
 y_I:FuncData
 x_x:Addr
 y_x:FuncData
 x_D:Addr
 y_D:FuncData
 x_F:Addr
 y_F:FuncData
 x_K:Addr
 y_K:FuncData
 x_u:Addr
 y_u:FuncData
 x_L:Addr
 y_L:FuncData
 x_t:Addr
 y_t:FuncData
 x_z:Addr
 y_z:FuncData
 x_J:Addr
 y_J:FuncData
 x_q:Addr
 y_q:FuncData
 k_NOUGHT:Addr
 k_WHOLE:Addr
 k_TWICE:Addr
 lc_d:Addr
 lp_d:Addr
 lc_j:Addr
 lp_j:Addr
 lc_e:Addr
 lp_e:Addr
abbrev d9:List (Pos×Str):=[(tz eR,((("duel_matrix" : Str) ++ ".<locals>.") ++ "<lambda>"))]
theorem jk:(d9).Pairwise fun x y=>¬(x.1.line=y.1.line∧x.1.col=y.1.col):=by decide +kernel
abbrev fw:List (Pos×Str):=[(tz fU,((("last_die" : Str) ++ ".<locals>.") ++ "<lambda>")),(tz fZ,((("last_die" : Str) ++ ".<locals>.") ++ "<lambda>"))]
theorem hU:(fw).Pairwise fun x y=>¬(x.1.line=y.1.line∧x.1.col=y.1.col):=by decide +kernel
abbrev dP:List (Pos×Str):=[(tz eG,((("settled_make" : Str) ++ ".<locals>.") ++ "<lambda>"))]
theorem im:(dP).Pairwise fun x y=>¬(x.1.line=y.1.line∧x.1.col=y.1.col):=by decide +kernel
def tabs(a:Ad):la:=[(a.lp_d,d9),(a.lp_j,fw),(a.lp_e,dP)]
theorem iR(a:Ad):(a.lp_d,d9)∈tabs a:=(.head _)
theorem ii(a:Ad):(a.lp_j,fw)∈tabs a:=(.tail _ (.head _))
theorem ip(a:Ad):(a.lp_e,dP)∈tabs a:=(.tail _ (.tail _ (.head _)))
structure Txt(K:Frag)(mg:Str→Option Value)(a:Ad):Prop where
 lcd_d:a.d_d.code=.ref a.lc_d
 lch_d:codeHdIn K a.lc_d a.lp_d=true
 lcd_j:a.d_j.code=.ref a.lc_j
 lch_j:codeHdIn K a.lc_j a.lp_j=true
 lcd_e:a.d_e.code=.ref a.lc_e
 lch_e:codeHdIn K a.lc_e a.lp_e=true
 tnd:((tabs a).map (·.1)).Nodup
 F_h:Fun K "greatest_divisor" "greatest_divisor" aF a.f_h a.d_h
 B_h:Binds K a.d_h ["one","other"] []
 m_h:mg "greatest_divisor" = some (.ref a.f_h)
 F_r:Fun K "least_multiple" "least_multiple" aN a.f_r a.d_r
 B_r:Binds K a.d_r ["numbers"] []
 m_r:mg "least_multiple" = some (.ref a.f_r)
 F_E:Fun K "share" "share" dC a.f_E a.d_E
 B_E:Binds K a.d_E ["top","bottom"] []
 m_E:mg "share" = some (.ref a.f_E)
 F_ak:Fun K "plus" "plus" eL a.f_ak a.d_ak
 B_ak:Binds K a.d_ak ["one","other"] []
 m_ak:mg "plus" = some (.ref a.f_ak)
 F_ac:Fun K "minus" "minus" dz a.f_ac a.d_ac
 B_ac:Binds K a.d_ac ["one","other"] []
 m_ac:mg "minus" = some (.ref a.f_ac)
 F_Y:Fun K "times" "times" dD a.f_Y a.d_Y
 B_Y:Binds K a.d_Y ["one","other"] []
 m_Y:mg "times" = some (.ref a.f_Y)
 F_ar:Fun K "over" "over" eI a.f_ar a.d_ar
 B_ar:Binds K a.d_ar ["one","other"] []
 m_ar:mg "over" = some (.ref a.f_ar)
 F_al:Fun K "below" "below" dH a.f_al a.d_al
 B_al:Binds K a.d_al ["one","other"] []
 m_al:mg "below" = some (.ref a.f_al)
 F_T:Fun K "is_whole" "is_whole" cf a.f_T a.d_T
 B_T:Binds K a.d_T ["thing","low","high"] []
 m_T:mg "is_whole" = some (.ref a.f_T)
 F_v:Fun K "can_be_thrown" "can_be_thrown" aT a.f_v a.d_v
 B_v:Binds K a.d_v ["node","throw"] []
 m_v:mg "can_be_thrown" = some (.ref a.f_v)
 F_aq:Fun K "drawn" "drawn" dw a.f_aq a.d_aq
 B_aq:Binds K a.d_aq ["node","throws"] []
 m_aq:mg "drawn" = some (.ref a.f_aq)
 F_as:Fun K "wished" "wished" cU a.f_as a.d_as
 B_as:Binds K a.d_as ["sizes","many"] []
 m_as:mg "wished" = some (.ref a.f_as)
 F_l:Fun K "wished_of_some" "wished_of_some" aO a.f_l a.d_l
 B_l:Binds K a.d_l ["sizes","many"] []
 m_l:mg "wished_of_some" = some (.ref a.f_l)
 F_P:Fun K "wished_by" "wished_by" bO a.f_P a.d_P
 B_P:Binds K a.d_P ["crowd","many"] []
 m_P:mg "wished_by" = some (.ref a.f_P)
 F_ae:Fun K "places_of" "places_of" bV a.f_ae a.d_ae
 B_ae:Binds K a.d_ae ["crowd"] []
 m_ae:mg "places_of" = some (.ref a.f_ae)
 F_af:Fun K "matrix_by" "matrix_by" bY a.f_af a.d_af
 B_af:Binds K a.d_af ["many","tell"] []
 m_af:mg "matrix_by" = some (.ref a.f_af)
 F_Z:Fun K "matrix_row" "matrix_row" bG a.f_Z a.d_Z
 B_Z:Binds K a.d_Z ["one","many","tell"] []
 m_Z:mg "matrix_row" = some (.ref a.f_Z)
 F_R:Fun K "need_number" "need_number" bt a.f_R a.d_R
 B_R:Binds K a.d_R ["thing","low","high"] []
 m_R:mg "need_number" = some (.ref a.f_R)
 F_Q:Fun K "is_unsure" "is_unsure" bQ a.f_Q a.d_Q
 B_Q:Binds K a.d_Q ["chance"] []
 m_Q:mg "is_unsure" = some (.ref a.f_Q)
 F_X:Fun K "settled" "settled" cD a.f_X a.d_X
 B_X:Binds K a.d_X ["told","taken"] []
 m_X:mg "settled" = some (.ref a.f_X)
 F_M:Fun K "open_node" "open_node" bP a.f_M a.d_M
 B_M:Binds K a.d_M ["told","taken"] []
 m_M:mg "open_node" = some (.ref a.f_M)
 F_e:Fun K "settled_make" "settled_make" aQ a.f_e a.d_e
 B_e:Binds K a.d_e ["told","taken"] []
 m_e:mg "settled_make" = some (.ref a.f_e)
 F_j:Fun K "last_die" "last_die" bK a.f_j a.d_j
 B_j:Binds K a.d_j ["last","taken"] []
 m_j:mg "last_die" = some (.ref a.f_j)
 F_G:Fun K "duel_parts" "duel_parts" bE a.f_G a.d_G
 B_G:Binds K a.d_G ["one","other"] []
 m_G:mg "duel_parts" = some (.ref a.f_G)
 F_d:Fun K "duel_matrix" "duel_matrix" be a.f_d a.d_d
 B_d:Binds K a.d_d ["shares","order"] []
 m_d:mg "duel_matrix" = some (.ref a.f_d)
 F_S:Fun K "pair_chance" "pair_chance" bw a.f_S a.d_S
 B_S:Binds K a.d_S ["told","found","one","other"] []
 m_S:mg "pair_chance" = some (.ref a.f_S)
 F_k:Fun K "kept_together" "kept_together" aS a.f_k a.d_k
 B_k:Binds K a.d_k ["told"] []
 m_k:mg "kept_together" = some (.ref a.f_k)
 F_U:Fun K "both_kept" "both_kept" bM a.f_U a.d_U
 B_U:Binds K a.d_U ["up","sure","held","chance"] []
 m_U:mg "both_kept" = some (.ref a.f_U)
 F_H:Fun K "held_behind" "held_behind" bp a.f_H a.d_H
 B_H:Binds K a.d_H ["held","chance"] []
 m_H:mg "held_behind" = some (.ref a.f_H)
 F_w:Fun K "behind_duel" "behind_duel" bn a.f_w a.d_w
 B_w:Binds K a.d_w ["earlier","held","place","chance"] []
 m_w:mg "behind_duel" = some (.ref a.f_w)
 F_B:Fun K "_law_cell" "_law_cell" cR a.f_B a.d_B
 B_B:Binds K a.d_B ["_law_script","_law_k"] []
 m_B:mg "_law_cell" = some (.ref a.f_B)
 F_at:Fun K "_law_mix" "_law_mix" dy a.f_at a.d_at
 B_at:Binds K a.d_at ["_law_cell_here","_law_k"] []
 m_at:mg "_law_mix" = some (.ref a.f_at)
 F_ag:Fun K "_law_row" "_law_row" dI a.f_ag a.d_ag
 B_ag:Binds K a.d_ag ["_law_cell_here","_law_bit","_law_many","_law_most"] []
 m_ag:mg "_law_row" = some (.ref a.f_ag)
 F_am:Fun K "_law_whole" "_law_whole" cF a.f_am a.d_am
 B_am:Binds K a.d_am ["_law_found"] []
 m_am:mg "_law_whole" = some (.ref a.f_am)
 F_ah:Fun K "_law_low" "_law_low" dB a.f_ah a.d_ah
 B_ah:Binds K a.d_ah ["_law_top","_law_bottom"] []
 m_ah:mg "_law_low" = some (.ref a.f_ah)
 F_ab:Fun K "_law_common" "_law_common" cg a.f_ab a.d_ab
 B_ab:Binds K a.d_ab ["_law_one","_law_other"] []
 m_ab:mg "_law_common" = some (.ref a.f_ab)
 F_W:Fun K "_law_crowd" "_law_crowd" cE a.f_W a.d_W
 B_W:Binds K a.d_W ["_law_script","_law_start","_law_most"] []
 m_W:mg "_law_crowd" = some (.ref a.f_W)
 F_A:Fun K "_law_wished" "_law_wished" ci a.f_A a.d_A
 B_A:Binds K a.d_A ["_law_sizes","_law_many"] []
 m_A:mg "_law_wished" = some (.ref a.f_A)
 F_aj:Fun K "_law_duel" "_law_duel" cV a.f_aj a.d_aj
 B_aj:Binds K a.d_aj ["_law_first","_law_second"] []
 m_aj:mg "_law_duel" = some (.ref a.f_aj)
 F_V:Fun K "_law_walk" "_law_walk" cX a.f_V a.d_V
 B_V:Binds K a.d_V ["_law_shares","_law_order","_law_throws"] []
 m_V:mg "_law_walk" = some (.ref a.f_V)
 F_aa:Fun K "_law_thrown" "_law_thrown" cj a.f_aa a.d_aa
 B_aa:Binds K a.d_aa ["_law_node","_law_rows","_law_kept"] []
 m_aa:mg "_law_thrown" = some (.ref a.f_aa)
 F_an:Fun K "_law_thing" "_law_thing" cG a.f_an a.d_an
 B_an:Binds K a.d_an ["_law_cell_here"] []
 m_an:mg "_law_thing" = some (.ref a.f_an)
 F_O:Fun K "_law_refused" "_law_refused" bX a.f_O a.d_O
 B_O:Binds K a.d_O ["_law_thing_here"] []
 m_O:mg "_law_refused" = some (.ref a.f_O)
 F_ap:Fun K "_law_kind" "_law_kind" cS a.f_ap a.d_ap
 B_ap:Binds K a.d_ap ["_law_plan","_law_many"] []
 m_ap:mg "_law_kind" = some (.ref a.f_ap)
 F_au:Fun K "_law_due" "_law_due" dJ a.f_au a.d_au
 B_au:Binds K a.d_au ["_law_crowd_here","_law_many"] []
 m_au:mg "_law_due" = some (.ref a.f_au)
 F_av:Fun K "law" "law" gy a.f_av a.d_av
 m_av:mg "law" = some (.ref a.f_av)
 g_MOST_MANY:∃ u,mg "MOST_MANY" = some u∧RelV (.int 24) u
 g_NOUGHT:∃ u,mg "NOUGHT" = some u∧RelV (.ref a.k_NOUGHT) u
 t_NOUGHT:gK K a.k_NOUGHT [(.int 0),(.int 1)]=true
 g_WHOLE:∃ u,mg "WHOLE" = some u∧RelV (.ref a.k_WHOLE) u
 t_WHOLE:gK K a.k_WHOLE [(.int 1),(.int 1)]=true
 g_TWICE:∃ u,mg "TWICE" = some u∧RelV (.ref a.k_TWICE) u
 t_TWICE:gK K a.k_TWICE [(.int 2),(.int 1)]=true
 mc_f:mg "NoPlan" = some (.ref a.c_f)
 kc_NoPlan:keepIn K (.ref a.c_f)=true
 xc_f:XCls K a.c_f
 xh_f:XHd K a.c_f
 xi_NoPlan:xIn K a.c_f (some (.ref a.i_f))=true
 fn_NoPlan:isFn K (.ref a.i_f)=true
 Fi_f:Fun K "__init__" "NoPlan.__init__" aI a.i_f a.e_f
 Bi_f:Binds K a.e_f ["self","place"] []
 sx_NoPlan_place:∃ cd,XSet K a.c_f "place" cd
 mc_g:mg "Told" = some (.ref a.c_g)
 cl_g:Cls K a.c_g
 mk_g:Mk K a.c_g a.i_g
 Fi_g:Fun K "__init__" "Told.__init__" aU a.i_g a.e_g
 Bi_g:Binds K a.e_g ["self","kept"] []
 na_Told_rising:NoAttr K a.c_g "rising"
 mt_p:Meth K a.c_g "is_told" a.x_p
 mt_C:Meth K a.c_g "kept" a.x_C
 mt_x:Meth K a.c_g "sides" a.x_x
 mt_F:Meth K a.c_g "parts" a.x_F
 mc_i:mg "Die" = some (.ref a.c_i)
 cl_i:Cls K a.c_i
 mk_i:Mk K a.c_i a.i_i
 Fi_i:Fun K "__init__" "Die.__init__" ba a.i_i a.e_i
 Bi_i:Binds K a.e_i ["self","parts"] []
 na_Die_makes:NoAttr K a.c_i "makes"
 mt_s:Meth K a.c_i "is_told" a.x_s
 mt_I:Meth K a.c_i "kept" a.x_I
 mt_D:Meth K a.c_i "sides" a.x_D
 mt_K:Meth K a.c_i "parts" a.x_K
 mt_u:Meth K a.c_i "after" a.x_u
 g_ai:∃ u,mg "Plan" = some u∧RelV (.ref a.c_ai) u
 g_N:∃ u,mg "Few" = some u∧RelV (.ref a.c_N) u
 g_n:∃ u,mg "Start" = some u∧RelV (.ref a.c_n) u
 g_o:∃ u,mg "Loose" = some u∧RelV (.ref a.c_o) u
 mc_c:mg "Duel" = some (.ref a.c_c)
 cl_c:Cls K a.c_c
 ty_c:∀ H x dx fs,H x=some (.ins a.c_c dx fs)→TyOf K H (.ref x) (.ref a.c_c)
 mk_c:Mk K a.c_c a.i_c
 Fi_c:Fun K "__init__" "Duel.__init__" aV a.i_c a.e_c
 Bi_c:Binds K a.e_c ["self","many"] []
 na_Duel_many:NoAttr K a.c_c "many"
 mt_L:Meth K a.c_c "node" a.x_L
 mt_t:Meth K a.c_c "matrix" a.x_t
 mt_z:Meth K a.c_c "bounds" a.x_z
 mt_J:Meth K a.c_c "text" a.x_J
 mt_Duel_need_levels:Meth K a.c_c "need_levels" a.x_q
 F_p:Fun K "is_told" "Told.is_told" aZ a.x_p a.y_p
 B_p:Binds K a.y_p ["self"] []
 F_s:Fun K "is_told" "Die.is_told" bv a.x_s a.y_s
 B_s:Binds K a.y_s ["self"] []
 F_C:Fun K "kept" "Told.kept" bZ a.x_C a.y_C
 B_C:Binds K a.y_C ["self"] []
 F_I:Fun K "kept" "Die.kept" ck a.x_I a.y_I
 B_I:Binds K a.y_I ["self"] []
 F_x:Fun K "sides" "Told.sides" bF a.x_x a.y_x
 B_x:Binds K a.y_x ["self"] []
 F_D:Fun K "sides" "Die.sides" bR a.x_D a.y_D
 B_D:Binds K a.y_D ["self"] []
 F_F:Fun K "parts" "Told.parts" bH a.x_F a.y_F
 B_F:Binds K a.y_F ["self"] []
 F_K:Fun K "parts" "Die.parts" bW a.x_K a.y_K
 B_K:Binds K a.y_K ["self"] []
 F_u:Fun K "after" "Die.after" bS a.x_u a.y_u
 B_u:Binds K a.y_u ["self","throw"] []
 F_L:Fun K "node" "Duel.node" bU a.x_L a.y_L
 B_L:Binds K a.y_L ["self","crowd"] []
 F_t:Fun K "matrix" "Duel.matrix" bu a.x_t a.y_t
 B_t:Binds K a.y_t ["self","crowd"] []
 F_z:Fun K "bounds" "Duel.bounds" br a.x_z a.y_z
 B_z:Binds K a.y_z ["self","crowd"] []
 F_J:Fun K "text" "Duel.text" bT a.x_J a.y_J
 B_J:Binds K a.y_J ["self"] []
 F_q:Fun K "need_levels" "Plan.need_levels" aG a.x_q a.y_q
 B_q:Binds K a.y_q ["self","levels"] []
 tn:qR K a.c_f a.c_f=true
 kdp:kitOne K (.ref a.c_c) (.ref a.c_ai)=some true
 kdt:kitAny K (.ref a.c_c) [.ref a.c_N,.ref a.c_o,.ref a.c_n]=some false
 z_abs:mg "abs" = none
 z_bool:mg "bool" = none
 z_enumerate:mg "enumerate" = none
 z_int:mg "int" = none
 z_isinstance:mg "isinstance" = none
 z_len:mg "len" = none
 z_list:mg "list" = none
 z_min:mg "min" = none
 z_range:mg "range" = none
 z_sorted:mg "sorted" = none
 z_str:mg "str" = none
 z_sum:mg "sum" = none
 z_tuple:mg "tuple" = none
 z_zip:mg "zip" = none
 bl:∀(s:Shared) (u:Value),BindsTo s a.d_av ⟨[u],[]⟩ [("_law_script",u)]
inductive spLaw(K:Frag)(ts:List Addr)(vs:List V)(H:Hp)(Q:VK)(_E:XK):Prop
 | mk(p:Addr)(ns:List Int)(h0:vs=[.ref p])(h1:SqL K H p (ns.map V.int))(h2:ns.length≤63)(h3:(∀ P∈ts,H P=some (.tbl #[])))(h4:∀ H',Q (.bl true) H'):spLaw K ts vs H Q _E
theorem law_start{K:Frag}{ts:List Addr}{H:Hp}{a:Addr}{ns:List Int}(hl:ns.length≤63)(hT:∀ P∈ts,H P=some (.tbl #[]))(hS:SqL K H a (ns.map V.int)):spLaw K ts [.ref a] H (fun v _=>v=.bl true) fun _ _ _=>False:=⟨a,ns,rfl,hS,hl,hT,fun _=>rfl⟩
def cH(ns:List Int)(k:Int):Int:=if k<(ns.length:Int) then ns.getD k.toNat 0 else 7919*k+13
inductive spCell(K:Frag)(vs:List V)(H:Hp)(Q:VK)(_E:XK):Prop
 | mk(p:Addr)(ns:List Int)(k:Int)(h0:vs=[.ref p,.int k])(h1:SqL K H p (ns.map V.int))(h2:ns.length≤63)(h3:0≤k)(h4:k≤1000)(h5:Q (.int (cH ns k)) H):spCell K vs H Q _E
inductive spMix(vs:List V)(H:Hp)(Q:VK)(_E:XK):Prop
 | mk(c k:Int)(h0:vs=[.int c,.int k])(h1:0≤k)(h2:k≤1000)(h3:∀ r:Int,0≤r→Q (.int r) H):spMix vs H Q _E
inductive spRow(vs:List V)(H:Hp)(Q:VK)(_E:XK):Prop
 | mk(c b n m:Int)(h0:vs=[.int c,.int b,.int n,.int m])(h1:0≤n)(h2:n≤25)(h3:1≤m)(h4:m≤1000000000000)(h5:∀ H' p (ns:List Int),Same H H'→H p=none→H' p=some (.lst (ns.map V.int))→(ns.length:Int)=n→(∀ x∈ns,0≤x∧x<m)→Q (.ref p) H'):spRow vs H Q _E
inductive spGcd(vs:List V)(H:Hp)(Q:VK)(_E:XK):Prop
 | mk(x y:Int)(h0:vs=[.int x,.int y])(h1:0≤x)(h2:0≤y)(h3:Q (.int (Int.gcd x y)) H):spGcd vs H Q _E
def y4(H:Hp)(Q:VK)(T B:Int):Prop:=∀ H' p,Same H H'→H' p=some (.tup [.int (cI T B).1,.int (cI T B).2])→Q (.ref p) H'
inductive spLow(vs:List V)(H:Hp)(Q:VK)(_E:XK):Prop
 | mk(T B:Int)(h0:vs=[.int T,.int B])(h1:0<B)(h2:Bt 3000 T)(h3:Bt 3000 B)(h4:y4 H Q T B):spLow vs H Q _E
def yI:Sp:=fun _ _ _ _=>False
def PT(K:Frag)(H:Hp)(p:Addr)(f:Int×Int):Prop:=H p=some (.tup [.int f.1,.int f.2])∨gK K p [.int f.1,.int f.2]=true
theorem PT.sq{K:Frag}{H:Hp}{p:Addr}{f:Int×Int}(h:PT K H p f):SqT K H p [.int f.1,.int f.2]:=h.elim SqT.of qE
def IsF(K:Frag)(H:Hp)(f:Int×Int)(x:V):Prop:=∃ p,x=.ref p∧PT K H p f
theorem IsF.tk{K:Frag}{H H':Hp}{f:Int×Int}{x:V}(k:TK H H')(h:IsF K H f x):IsF K H' f x:=let ⟨p,e,q⟩:=h; ⟨p,e,q.imp (fun z=>k _ _ z) id⟩
abbrev AllF(K:Frag)(H:Hp):List (Int×Int)→List V→Prop:=PySem.Paired (IsF K H)
theorem IsF.same{K:Frag}{H H':Hp}{f:Int×Int}{x:V}(s:Same H H')(h:IsF K H f x):IsF K H' f x:=h.tk s.tk
theorem cm{α β:Type}{R:α→β→Prop}:∀{xs:List α}{ys:List β}{i:Nat}{y:β},Paired R xs ys→ys[i]? = some y→∃ x,xs[i]? = some x∧R x y:=fun h e=>by
 rename_i i _
 induction h generalizing i with
 | nil=>cases e
 | cons r _ ih=>cases i; cases e; exact ⟨_,rfl,r⟩; exact ih e
theorem AllF.same{K:Frag}{H H':Hp}(s:Same H H'):∀{fs:List (Int×Int)}{xs:List V},AllF K H fs xs→AllF K H' fs xs:=fun h=>Paired.mapP h fun _ _ r=>r.same s
theorem AllF.tk{K:Frag}{H H':Hp}(k:TK H H'):∀{fs:List (Int×Int)}{xs:List V},AllF K H fs xs→AllF K H' fs xs:=fun h=>Paired.mapP h fun _ _ r=>r.tk k
theorem AllF.get{K:Frag}{H:Hp}:∀{fs:List (Int×Int)}{xs:List V}{i:Nat}{x:V},AllF K H fs xs→xs[i]? = some x→∃ f,fs[i]? = some f∧IsF K H f x:=cm
theorem AllF.snoc{K:Frag}{H:Hp}{f:Int×Int}{x:V}(r:IsF K H f x):∀{fs:List (Int×Int)}{xs:List V},AllF K H fs xs→AllF K H (fs++[f]) (xs++[x]):=fun h=>PySem.Paired.snoc h r
theorem AllF.len{K:Frag}{H:Hp}{fs:List (Int×Int)}{xs:List V}(h:AllF K H fs xs):fs.length=xs.length:=Paired.length h
theorem ni(T B:Int):Int.gcd (if T<0 then -T else T) B=Int.gcd T B:=by
 split
 ·exact Int.neg_gcd
 ·rfl
theorem px0{K:Frag}{H:Hp}{p:Addr}{x y:V}{Q:VK}(h:SqT K H p [x,y])(q:Q x H):rIx K (.ref p) (.int 0) H Q:=.inr (.inl ⟨p,_,_,x,rfl,rfl,h,bg (j:=0) rfl,q⟩)
theorem px1{K:Frag}{H:Hp}{p:Addr}{x y:V}{Q:VK}(h:SqT K H p [x,y])(q:Q y H):rIx K (.ref p) (.int 1) H Q:=.inr (.inl ⟨p,_,_,y,rfl,rfl,h,bg (j:=1) rfl,q⟩)
theorem aP(x y:V):[x,y].length≤sizeLine:=by show 2≤sizeLine; decide
inductive spLcm(vs:List V)(H:Hp)(Q:VK)(_E:XK):Prop
 | mk(l:Addr)(x y:Int)(h0:vs=[.ref l])(h1:H l=some (.lst [.int x,.int y]))(h2:0<x)(h3:0<y)(h4:x≤1000000000)(h5:y≤1000000000)(h6:Q (.int (bD x y)) H):spLcm vs H Q _E
structure Szs(z:List Int):Prop where
 len:z.length≤24
 lo:∀ x∈z,1≤x
 hi:∀ x∈z,x≤24000000
inductive spWished(K:Frag)(vs:List V)(H:Hp)(Q:VK)(_E:XK):Prop
 | mk(l:Addr)(z:List Int)(m:Int)(h0:vs=[.ref l,.int m])(h1:H l=some (.lst (z.map V.int)))(h2:Szs z)(h3:0≤m)(h4:m≤24)(h5:∀ H' r xs,Same H H'→H r=none→H' r=some (.lst xs)→AllF K H' (due z m) xs→Q (.ref r) H'):spWished K vs H Q _E
inductive spSome(K:Frag)(vs:List V)(H:Hp)(Q:VK)(_E:XK):Prop
 | mk(l:Addr)(z:List Int)(m:Int)(h0:vs=[.ref l,.int m])(h1:H l=some (.lst (z.map V.int)))(h2:Szs z)(h3:0<m)(h4:m<z.length)(h5:∀ H' r xs,Same H H'→H r=none→H' r=some (.lst xs)→AllF K H' (due z m) xs→Q (.ref r) H'):spSome K vs H Q _E
inductive spUns(K:Frag)(vs:List V)(H:Hp)(Q:VK)(_E:XK):Prop
 | mk(x:V)(f:Int×Int)(h0:vs=[x])(h1:IsF K H f x)(h2:Q (.bl (uns f)) H):spUns K vs H Q _E
inductive spWhole(vs:List V)(H:Hp)(Q:VK)(_E:XK):Prop
 | mk(x:Int)(h0:vs=[.int x])(h1:Q (.bl true) H):spWhole vs H Q _E
abbrev IsQ(K:Frag)(H:Hp)(q:Rat)(x:V):Prop:=IsF K H (fr q) x
inductive spAri(op:Rat→Rat→Rat)(c:Rat→Prop)(K:Frag)(vs:List V)(H:Hp)(Q:VK)(_E:XK):Prop
 | mk(x y:V)(p q:Rat)(h0:vs=[x,y])(h1:IsQ K H p x)(h2:IsQ K H q y)(h3:Bb p)(h4:Bb q)(h5:c q)(h6:∀ H' z,Same H H'→IsQ K H' (op p q) z→Q z H'):spAri op c K vs H Q _E
inductive spBel(K:Frag)(vs:List V)(H:Hp)(Q:VK)(_E:XK):Prop
 | mk(x y:V)(p q:Rat)(h0:vs=[x,y])(h1:IsQ K H p x)(h2:IsQ K H q y)(h3:Bb p)(h4:Bb q)(h5:Q (.bl (decide (p<q))) H):spBel K vs H Q _E
theorem wc(q:Rat):uns (fr q)=kN q:=by
 unfold uns kN fr
 refine decide_eq_decide.mpr ?_
 rw[← num_pos]
 have:q<1↔q.num<(q.den:Int):=by rw[Rat.lt_iff]; simp
 rw[this]
section
variable {P:Program}{w:World}{K:Frag}{mg:Str→Option Value}{base:Heap}{a:Ad}
theorem xz{k:Nat}{f:Addr}{fd:FuncData}{ps:List Str}:FnOk P w K mg base CX0 k f fd ps yI:=⟨fun _ _ _ _ h=>h.elim,fun _ _ _ _ _ _ _ _ _ _ _ _ _ h=>h.elim⟩
theorem m8(T:Txt K mg a):FnOk P w K mg base CX0 1 a.f_B a.d_B ["_law_script","_law_k"] (spCell K):=by
 refine T.F_B.ok oP (fun vs H Q E h=>?_) (fun cdv A outer s H vs Q E hr h=>?_)
 ·obtain ⟨p,ns,k,rfl,_⟩:=h; rfl
 ·obtain ⟨p,ns,k,rfl,hS,hl,h0,h1,q⟩:=h
  refine ⟨_,(af (bJ (bx fm (vr 1) (az aE rfl T.z_len bI (aa (vr 0) ae)) (aC _)) (ak (aw (ax ar (vr 0) (vr 1) (fun _ _=>rfl)))) aJ) (ak (aw (au df (au bz aj (vr 1)) aj)))),fi ?_⟩
  intro zt2
  refine ⟨ns.map V.int,.inl hS,?_⟩
  rw[length_map]
  unfold cH at q
  refine zr (fun c=>?_) (fun c=>?_)
  ·have c':k<(ns.length:Int):=of_decide_eq_true c
   rw[if_pos c']at q
   refine .inl ⟨p,_,k,.int (ns.getD k.toNat 0),rfl,rfl,hS,?_,q⟩
   have e:((k.toNat:Nat):Int)=k:=by lia
   rw[← e]
   refine bg ?_
   have hk:k.toNat<ns.length:=by lia
   rw[e]
   simp[List.getElem?_map,List.getD,hk]
  ·have c':¬k<(ns.length:Int):=fun z=>c (decide_eq_true z)
   rw[if_neg c']at q
   exact ⟨clB,q⟩
theorem we(T:Txt K mg a):FnOk P w K mg base CX0 1 a.f_at a.d_at ["_law_cell_here","_law_k"] spMix:=by
 refine T.F_at.ok sc_at (fun vs H Q E h=>?_) (fun cdv A outer s H vs Q E hr h=>?_)
 ·obtain ⟨c,k,rfl,_⟩:=h; rfl
 ·obtain ⟨c,k,rfl,h0,h1,q⟩:=h
  refine ⟨_,(af (av (i:=2) sc_at.nd rfl (Or.inl rfl) (au cO (au bz (au df (au df (au cO (vr 0) aj) (au bz aj (vr 1))) aj) aj) aj)) (af (av (i:=2) sc_at.nd rfl (Or.inl rfl) (au cO (au df (au bz (vr 2) (vr 2)) (au bz aj (vr 1))) aj)) (ak (aw (au cO (au bz (vr 2) (au df (vr 2) aj)) aj))))),iH ?_⟩
  intro zt3 zt2
  exact ⟨cp,clB,crB,cp,clB (by lia) (by lia),clB,cp,clB (by lia) (by lia),cp,q _ (by lia)⟩
theorem qS(T:Txt K mg a):FnOk P w K mg base CX0 1 a.f_h a.d_h ["one","other"] spGcd:=by
 refine T.F_h.ok sc_h (fun vs H Q E h=>?_) (fun cdv A outer s H vs Q E hr h=>?_)
 ·obtain ⟨x,y,rfl,_⟩:=h; rfl
 ·obtain ⟨x0,y0,rfl,h0,h1,q⟩:=h
  refine ⟨_,(af (eO PassesOwn.never (lE (vr 1) (fun _=>rfl)) (ak (mL rfl sc_h.nd (i:=0) (j:=1) rfl rfl (by decide) rfl rfl (aa (vr 1) (aa (au cO (vr 0) (vr 1)) ae)) rfl))) (ak (aw (vr 0)))),fi ?_⟩
  intro zt2
  refine ⟨fun m σ H'=>H'=H∧∃ x y:Int,0≤x∧0≤y∧m=y.toNat∧Int.gcd x y=Int.gcd x0 y0∧σ=[some (.int x),some (.int y)],⟨_,rfl,x0,y0,h0,h1,rfl,rfl,rfl⟩,?_⟩
  rintro m σ H' ⟨rfl,x,y,hx,hy,rfl,hg,rfl⟩
  refine ⟨_,rfl,?_⟩
  refine ifB (fun c=>?_) (fun c=>?_)
  ·have c':y≠0:=by simpa using c
   let Pw3:St→Hp→Prop:=fun σ' H''=>H''=H'∧σ'=[some (.int y),some (.int (x % y))]
   refine ⟨Pw3,?_,?_⟩
   ·rintro σ' H'' ⟨rfl,rfl⟩
    exact ⟨(x % y).toNat,by have:=Int.emod_lt_of_pos x (show 0<y by lia); have:=Int.emod_nonneg x c'; lia,rfl,y,x % y,hy,Int.emod_nonneg x c',rfl,by rw[jc,hg],rfl⟩
   ·exact ⟨cp (by lia),_,_,rfl,rfl,rfl⟩
  ·have c':y=0:=by simpa using c
   subst c'
   rw[Int.gcd_zero_right]at hg
   have:x=(Int.gcd x0 y0:Int):=by lia
   rw[← this]at q
   exact q
theorem eN(T:Txt K mg a):FnOk P w K mg base CX0 2 a.f_E a.d_E ["top","bottom"] spLow:=by
 have G_E:FnOk P w K mg base CX0 1 a.f_E a.d_E ["top","bottom"] yI:=xz
 have G_h:FnOk P w K mg base CX0 1 _ _ _ spGcd:=qS T
 refine T.F_E.ok sc_E (fun vs H Q E h=>?_) (fun cdv A outer s H vs Q E hr h=>?_)
 ·obtain ⟨x,y,rfl,_⟩:=h; rfl
 ·obtain ⟨t,b,rfl,hb,b1,b2,q⟩:=h
  refine ⟨_,(af (bJ (bx fm (vr 1) aj (aC _)) (ak (aw (ao G_E hr rfl T.m_E T.F_E.kp T.B_E .nil aq (aa (qJ sG (vr 0)) (aa (qJ sG (vr 1)) ae))))) aJ) (af (av (i:=2) sc_E.nd rfl (Or.inl rfl) (ao G_h hr rfl T.m_h T.F_h.kp T.B_h .nil aq (aa (az lI rfl T.z_abs rZ (aa (vr 0) ae)) (aa (vr 1) ae)))) (ak (aw (aM (aa (au cb (vr 0) (vr 2)) (aa (au cb (vr 1) (vr 2)) ae))))))),iH ?_⟩
  intro zt3 zt2
  obtain ⟨l1,l2,l3,l4,l5⟩:=low t b hb
  refine ifC (fun c=>absurd c (by lia)) (fun _=>?_)
  refine ⟨t,rfl,⟨_,_,rfl,by split <;> lia,by lia,?_⟩⟩
  rw[ni]
  have hd:Bt 3000 (Int.gcd t b:Int):=b2.le (by lia)
  refine ⟨cdB l1 hd,cdB l1 hd,aP _ _,fun p hp=>?_⟩
  exact q _ p (Same.new hp) ac
theorem qU(T:Txt K mg a):FnOk P w K mg base CX0 1 a.f_ah a.d_ah ["_law_top","_law_bottom"] spLow:=by
 refine T.F_ah.ok sc_ah (fun vs H Q E h=>?_) (fun cdv A outer s H vs Q E hr h=>?_)
 ·obtain ⟨x,y,rfl,_⟩:=h; rfl
 ·obtain ⟨t,b,rfl,hb,b1,b2,q⟩:=h
  refine ⟨_,(af (av (i:=2) sc_ah.nd rfl (Or.inl rfl) (az lI rfl T.z_abs rZ (aa (vr 0) ae))) (af (av (i:=3) sc_ah.nd rfl (Or.inl rfl) (vr 1)) (af (eO PassesOwn.never (bx wg (vr 3) aj (aC _)) (ak (mL rfl sc_ah.nd (i:=2) (j:=3) rfl rfl (by decide) rfl rfl (aa (vr 3) (aa (au cO (vr 2) (vr 3)) ae)) rfl))) (ak (aw (aM (aa (au cb (vr 0) (vr 2)) (aa (au cb (vr 1) (vr 2)) ae)))))))),oz ?_⟩
  intro zt4 zt3 zt2
  obtain ⟨l1,l2,l3,l4,l5⟩:=low t b hb
  have hd:Bt 3000 (Int.gcd t b:Int):=b2.le (by lia)
  refine ⟨t,rfl,?_⟩
  refine ⟨fun m σ H'=>H'=H∧∃ x y:Int,0≤x∧0≤y∧m=y.toNat∧Int.gcd x y=Int.gcd t b∧σ=[some (.int t),some (.int b),some (.int x),some (.int y)],⟨_,rfl,_,b,by split <;> lia,by lia,rfl,ni t b,rfl⟩,?_⟩
  rintro m σ H' ⟨rfl,x,y,hx,hy,rfl,hg,rfl⟩
  refine ifC (fun c=>?_) (fun c=>?_)
  ·have c':y≠0:=by have z:0<y:=c; lia
   let Pw4:St→Hp→Prop:=fun σ' H''=>H''=H'∧σ'=[some (.int t),some (.int b),some (.int y),some (.int (x % y))]
   refine ⟨Pw4,?_,?_⟩
   ·rintro σ' H'' ⟨rfl,rfl⟩
    exact ⟨(x % y).toNat,by have:=Int.emod_lt_of_pos x (show 0<y by lia); have:=Int.emod_nonneg x c'; lia,rfl,y,x % y,hy,Int.emod_nonneg x c',rfl,by rw[jc,hg],rfl⟩
   ·exact ⟨cp (by lia),_,_,rfl,rfl,rfl⟩
  ·have c':y=0:=by have z:¬0<y:=c; lia
   subst c'
   rw[Int.gcd_zero_right]at hg
   have e:x=(Int.gcd t b:Int):=by lia
   subst e
   refine ⟨cdB l1 hd,cdB l1 hd,aP _ _,fun p hp=>?_⟩
   exact q _ p (Same.new hp) ac
theorem sC(T:Txt K mg a):FnOk P w K mg base CX0 2 a.f_ag a.d_ag ["_law_cell_here","_law_bit","_law_many","_law_most"] spRow:=by
 have G_at:FnOk P w K mg base CX0 1 _ _ _ spMix:=we T
 refine T.F_ag.ok sc_ag (fun vs H Q E h=>?_) (fun cdv A outer s H vs Q E hr h=>?_)
 ·obtain ⟨c,b,n,m,rfl,_⟩:=h; rfl
 ·obtain ⟨c,b,n,m,rfl,n0,n1,m0,m1,q⟩:=h
  refine ⟨_,(af (av (i:=4) sc_ag.nd rfl (Or.inl rfl) (aY ae)) (af (ei PassesOwn.never rfl (cA rfl T.z_range (aa (vr 2) ae)) (ap (i:=5) sc_ag.nd rfl (Or.inl rfl)) (ak (bJ (bx jo (au cO (vr 1) aj) aj (aC _)) (af (dS (pe_m.append (vr 4) (aa (au cO (vr 0) (vr 3)) ae))) (ak (av (i:=0) sc_ag.nd rfl (Or.inl rfl) (au cb (vr 0) (vr 3))))) (ak (dS (pe_m.append (vr 4) (aa (au cO (ao G_at hr rfl T.m_at T.F_at.kp T.B_at .nil aq (aa (vr 0) (aa (vr 5) ae))) (vr 3)) ae))))))) (ak (aw (vr 4))))),iH ?_⟩
  intro zt3 zt2
  have sl:sizeLine=16777216:=sizeLine_eq
  refine ⟨Nat.zero_le _,fun p hp=>?_⟩
  refine ⟨n,rfl,by lia,by lia,?_⟩
  let Pw1:PvS:=fun i σ H'=>∃(c':Int) (ns:List Int) (x:Option V),H'=upd H p (.lst (ns.map V.int))∧ns.length=i∧(∀ y∈ns,0≤y∧y<m)∧σ=[some (.int c'),some (.int b),some (.int n),some (.int m),some (.ref p),x]
  refine jA Pw1 ⟨c,[],none,rfl,rfl,(fun y hy=>by cases hy),rfl⟩ ?_ ?_
  ·rintro i σ H' hi ⟨c',ns,x,rfl,hl,hb,rfl⟩
   have sn:∀ v:Int,0≤v→v<m→∀ y∈ns++[v],0≤y∧y<m:=fun v h0 h1 y hy=>by
    rcases mem_append.mp hy with hy | hy
    ·exact hb y hy
    ·rw[mem_singleton.mp hy]; exact ⟨h0,h1⟩
   have em:∀ v:Int,(ns.map V.int)++[V.int v]=(ns++[v]).map V.int:=fun v=>by rw[map_append]; rfl
   have lz:(ns.map V.int).length<sizeLine:=by rw[length_map]; lia
   refine ⟨cp,ifC (fun _=>?_) (fun _=>?_)⟩
   ·refine ⟨.inl ⟨rfl,_,SqL.of ac⟩,⟨cp (by lia),⟨p,_,_,rfl,rfl,ac,lz,?_⟩⟩⟩
    refine ⟨cdB (by lia) (show Bt 40 m by unfold Bt; lia),?_⟩
    rw[cv,em]
    exact ⟨_,_,_,rfl,by rw[length_append,hl]; rfl,sn _ (Int.emod_nonneg _ (by lia)) (Int.emod_lt_of_pos _ (by lia)),rfl⟩
   ·refine ⟨.inl ⟨rfl,_,SqL.of ac⟩,⟨c',_,rfl,by lia,by lia,fun r r0=>⟨cp (by lia),⟨p,_,_,rfl,rfl,ac,lz,?_⟩⟩⟩⟩
    rw[cv,em]
    exact ⟨_,_,_,rfl,by rw[length_append,hl]; rfl,sn _ (Int.emod_nonneg _ (by lia)) (Int.emod_lt_of_pos _ (by lia)),rfl⟩
  ·rintro σ H' ⟨c',ns,x,rfl,hl,hb,rfl⟩
   exact q _ p ns (Same.new hp) hp ac (by lia) hb
theorem rW(T:Txt K mg a):FnOk P w K mg base CX0 1 a.f_Q a.d_Q ["chance"] (spUns K):=by
 refine T.F_Q.ok kF (fun vs H Q E h=>?_) (fun cdv A outer s H vs Q E hr h=>?_)
 ·obtain ⟨x,f,rfl,_⟩:=h; rfl
 ·obtain ⟨x,f,rfl,⟨p,rfl,hp⟩,q⟩:=h
  refine ⟨_,(ak (aw (kz fm fm aj (ax ar (vr 0) aj (fun _ _=>rfl)) (ax ar (vr 0) aj (fun _ _=>rfl))))),?_⟩
  refine px0 hp.sq ?_
  refine ifC (fun c=>px1 hp.sq ?_) (fun c=>?_)
  ·have c:0<f.1:=c
   have e:uns f=decide (f.1<f.2):=by unfold uns; simp[c]
   rw[e]at q
   exact q
  ·have c:¬0<f.1:=c
   have e:uns f=false:=by unfold uns; simp[c]
   rw[e]at q
   exact q
theorem sQ(T:Txt K mg a):FnOk P w K mg base CX0 1 a.f_am a.d_am ["_law_found"] spWhole:=by
 refine T.F_am.ok lZ (fun vs H Q E h=>?_) (fun cdv A outer s H vs Q E hr h=>?_)
 ·obtain ⟨x,rfl,_⟩:=h; rfl
 ·obtain ⟨x,rfl,q⟩:=h
  refine ⟨_,(ak (aw (fX (az ek rfl T.z_isinstance bN (aa (vr 0) (aa (fN (v:=.ty "int") rfl T.z_int iZ rfl) ae))) (gZ (rD (az ek rfl T.z_isinstance bN (aa (vr 0) (aa (fN (v:=.ty "bool") rfl T.z_bool kq rfl) ae)))))))),?_⟩
  exact ⟨_,_,_,true,rfl,rfl,.int x,rfl,⟨_,_,_,false,rfl,rfl,.int x,rfl,q⟩⟩
theorem fc{H:Hp}{p:Addr}{t b:Int}(h:SqT K H p [.int t,.int b]):DV K H (.tuple [.int t,.int b]) (.ref p):=by
 rw[DV]
 refine ⟨p,_,rfl,h,?_⟩
 rw[DVs]
 refine ⟨_,_,rfl,by simp[DV],?_⟩
 rw[DVs]
 exact ⟨_,_,rfl,by simp[DV],by simp[DVs]⟩
theorem dc(t b:Int):SeqAt.shaped (.tuple [.int t,.int b])=true:=rfl
theorem j4(T:Txt K mg a):FnOk P w K mg base CX0 3 a.f_ak a.d_ak ["one","other"] (spAri (· + ·) (fun _=>True) K):=by
 have G_E:FnOk P w K mg base CX0 2 _ _ _ spLow:=eN T
 refine T.F_ak.ok vm (fun vs H Q E h=>?_) (fun cdv A outer s H vs Q E hr h=>?_)
 ·obtain ⟨x,y,p,q,rfl,_⟩:=h; rfl
 ·obtain ⟨x,y,p,q,rfl,⟨x,rfl,hx⟩,⟨y,rfl,hy⟩,⟨z1,z2⟩,⟨z3,z4⟩,hc,Qq⟩:=h
  have hp:=hx.sq
  have hr':=hy.sq
  have d1:(0:Int)<(p.den:Int):=by have:=p.den_pos; lia
  have d2:(0:Int)<(q.den:Int):=by have:=q.den_pos; lia
  refine ⟨_,(ak (aw (ao G_E hr rfl T.m_E T.F_E.kp T.B_E .nil aq (aa (au df (au bz (ax ar (vr 0) aj (fun _ _=>rfl)) (ax ar (vr 1) aj (fun _ _=>rfl))) (au bz (ax ar (vr 1) aj (fun _ _=>rfl)) (ax ar (vr 0) aj (fun _ _=>rfl)))) (aa (au bz (ax ar (vr 0) aj (fun _ _=>rfl)) (ax ar (vr 1) aj (fun _ _=>rfl))) ae))))),?_⟩
  refine px0 hp (px1 hr' ⟨cmB z1 z4,px0 hr' (px1 hp ⟨cmB z3 z2,px1 hp (px1 hr' ⟨cmB z2 z4,?_⟩)⟩)⟩)
  exact ⟨_,_,rfl,Int.mul_pos d1 d2,((z1.mul z4).add (z3.mul z2)).mono (by decide),(z2.mul z4).mono (by decide),fun H' r s hr2=>Qq _ _ s ⟨r,rfl,.inl (by rw[← ud p q]; exact hr2)⟩⟩
theorem iO(T:Txt K mg a):FnOk P w K mg base CX0 3 a.f_ac a.d_ac ["one","other"] (spAri (· - ·) (fun _=>True) K):=by
 have G_E:FnOk P w K mg base CX0 2 _ _ _ spLow:=eN T
 refine T.F_ac.ok sE (fun vs H Q E h=>?_) (fun cdv A outer s H vs Q E hr h=>?_)
 ·obtain ⟨x,y,p,q,rfl,_⟩:=h; rfl
 ·obtain ⟨x,y,p,q,rfl,⟨x,rfl,hx⟩,⟨y,rfl,hy⟩,⟨z1,z2⟩,⟨z3,z4⟩,hc,Qq⟩:=h
  have hp:=hx.sq
  have hr':=hy.sq
  have d1:(0:Int)<(p.den:Int):=by have:=p.den_pos; lia
  have d2:(0:Int)<(q.den:Int):=by have:=q.den_pos; lia
  refine ⟨_,(ak (aw (ao G_E hr rfl T.m_E T.F_E.kp T.B_E .nil aq (aa (au dR (au bz (ax ar (vr 0) aj (fun _ _=>rfl)) (ax ar (vr 1) aj (fun _ _=>rfl))) (au bz (ax ar (vr 1) aj (fun _ _=>rfl)) (ax ar (vr 0) aj (fun _ _=>rfl)))) (aa (au bz (ax ar (vr 0) aj (fun _ _=>rfl)) (ax ar (vr 1) aj (fun _ _=>rfl))) ae))))),?_⟩
  refine px0 hp (px1 hr' ⟨cmB z1 z4,px0 hr' (px1 hp ⟨cmB z3 z2,px1 hp (px1 hr' ⟨cmB z2 z4,?_⟩)⟩)⟩)
  exact ⟨_,_,rfl,Int.mul_pos d1 d2,((z1.mul z4).sub (z3.mul z2)).mono (by decide),(z2.mul z4).mono (by decide),fun H' r s hr2=>Qq _ _ s ⟨r,rfl,.inl (by rw[← tU p q]; exact hr2)⟩⟩
theorem iX(T:Txt K mg a):FnOk P w K mg base CX0 3 a.f_Y a.d_Y ["one","other"] (spAri (· * ·) (fun _=>True) K):=by
 have G_E:FnOk P w K mg base CX0 2 _ _ _ spLow:=eN T
 refine T.F_Y.ok sI (fun vs H Q E h=>?_) (fun cdv A outer s H vs Q E hr h=>?_)
 ·obtain ⟨x,y,p,q,rfl,_⟩:=h; rfl
 ·obtain ⟨x,y,p,q,rfl,⟨x,rfl,hx⟩,⟨y,rfl,hy⟩,⟨z1,z2⟩,⟨z3,z4⟩,hc,Qq⟩:=h
  have hp:=hx.sq
  have hr':=hy.sq
  have d1:(0:Int)<(p.den:Int):=by have:=p.den_pos; lia
  have d2:(0:Int)<(q.den:Int):=by have:=q.den_pos; lia
  refine ⟨_,(ak (aw (ao G_E hr rfl T.m_E T.F_E.kp T.B_E .nil aq (aa (au bz (ax ar (vr 0) aj (fun _ _=>rfl)) (ax ar (vr 1) aj (fun _ _=>rfl))) (aa (au bz (ax ar (vr 0) aj (fun _ _=>rfl)) (ax ar (vr 1) aj (fun _ _=>rfl))) ae))))),?_⟩
  refine px0 hp (px0 hr' ⟨cmB z1 z3,px1 hp (px1 hr' ⟨cmB z2 z4,?_⟩)⟩)
  exact ⟨_,_,rfl,Int.mul_pos d1 d2,(z1.mul z3).mono (by decide),(z2.mul z4).mono (by decide),fun H' r s hr2=>Qq _ _ s ⟨r,rfl,.inl (by rw[← vg p q]; exact hr2)⟩⟩
theorem tW(T:Txt K mg a):FnOk P w K mg base CX0 3 a.f_ar a.d_ar ["one","other"] (spAri (· / ·) (fun q=>0<q) K):=by
 have G_E:FnOk P w K mg base CX0 2 _ _ _ spLow:=eN T
 refine T.F_ar.ok uS (fun vs H Q E h=>?_) (fun cdv A outer s H vs Q E hr h=>?_)
 ·obtain ⟨x,y,p,q,rfl,_⟩:=h; rfl
 ·obtain ⟨x,y,p,q,rfl,⟨x,rfl,hx⟩,⟨y,rfl,hy⟩,⟨z1,z2⟩,⟨z3,z4⟩,hc,Qq⟩:=h
  have hp:=hx.sq
  have hr':=hy.sq
  have d1:(0:Int)<(p.den:Int):=by have:=p.den_pos; lia
  have d2:(0:Int)<(q.den:Int):=by have:=q.den_pos; lia
  refine ⟨_,(ak (aw (ao G_E hr rfl T.m_E T.F_E.kp T.B_E .nil aq (aa (au bz (ax ar (vr 0) aj (fun _ _=>rfl)) (ax ar (vr 1) aj (fun _ _=>rfl))) (aa (au bz (ax ar (vr 0) aj (fun _ _=>rfl)) (ax ar (vr 1) aj (fun _ _=>rfl))) ae))))),?_⟩
  refine px0 hp (px1 hr' ⟨cmB z1 z4,px1 hp (px0 hr' ⟨cmB z2 z3,?_⟩)⟩)
  exact ⟨_,_,rfl,Int.mul_pos d1 (num_pos.mpr hc),(z1.mul z4).mono (by decide),(z2.mul z3).mono (by decide),fun H' r s hr2=>Qq _ _ s ⟨r,rfl,.inl (by rw[← tB p q hc]; exact hr2)⟩⟩
theorem i7(T:Txt K mg a):FnOk P w K mg base CX0 1 a.f_al a.d_al ["one","other"] (spBel K):=by
 refine T.F_al.ok qc (fun vs H Q E h=>?_) (fun cdv A outer s H vs Q E hr h=>?_)
 ·obtain ⟨x,y,p,q,rfl,_⟩:=h; rfl
 ·obtain ⟨x,y,p,q,rfl,⟨x,rfl,hx⟩,⟨y,rfl,hy⟩,⟨z1,z2⟩,⟨z3,z4⟩,Qq⟩:=h
  have hp:=hx.sq
  have hr':=hy.sq
  refine ⟨_,(ak (aw (cY fm (au bz (ax ar (vr 0) aj (fun _ _=>rfl)) (ax ar (vr 1) aj (fun _ _=>rfl))) (au bz (ax ar (vr 1) aj (fun _ _=>rfl)) (ax ar (vr 0) aj (fun _ _=>rfl))) (aC _)))),?_⟩
  refine px0 hp (px1 hr' ⟨cmB z1 z4,px0 hr' (px1 hp ⟨cmB z3 z2,?_⟩)⟩)
  have e:decide (p<q)=decide (p.num*(q.den:Int)<q.num*(p.den:Int)):=decide_eq_decide.mpr (Rat.lt_iff p q)
  rw[e]at Qq
  exact Qq
theorem wn(T:Txt K mg a):FnOk P w K mg base CX0 2 a.f_r a.d_r ["numbers"] spLcm:=by
 have G_h:FnOk P w K mg base CX0 1 _ _ _ spGcd:=qS T
 refine T.F_r.ok sc_r (fun vs H Q E h=>?_) (fun cdv A outer s H vs Q E hr h=>?_)
 ·obtain ⟨l,x,y,rfl,_⟩:=h; rfl
 ·obtain ⟨l,x,y,rfl,hl,x0,y0,x1,y1,q⟩:=h
  refine ⟨_,(af (av (i:=1) sc_r.nd rfl (Or.inl rfl) aj) (af (ei PassesOwn.never rfl (bj (vr 0)) (ap (i:=2) sc_r.nd rfl (Or.inl rfl)) (ak (av (i:=1) sc_r.nd rfl (Or.inl rfl) (au bz (au cb (vr 1) (ao G_h hr rfl T.m_h T.F_h.kp T.B_h .nil aq (aa (vr 1) (aa (vr 2) ae)))) (vr 2))))) (ak (aw (vr 1))))),iH ?_⟩
  intro zt3 zt2
  let Pw2:PvS:=fun i σ H'=>H'=H∧∃(f:Int) (x2:Option V),σ=[some (.ref l),some (.int f),x2]∧(i=0→f=1)∧(i=1→f=x)∧(i=2→f=bD x y)
  refine .inl ⟨⟨_,SqL.of hl⟩,d6 (K:=K) (a:=l) (xs:=[.int x,.int y]) Pw2 ⟨rfl,1,none,rfl,fun _=>rfl,(by decide:¬0=1).elim,(by decide:¬0=2).elim⟩ (fun i σ H' _ h=>by rw[h.1]; exact SqL.of hl) ?_ ?_⟩
  ·rintro i z σ H' hz ⟨rfl,f,x2,rfl,h0,h1,h2⟩
   have key:∀ u:Int,0<f→f≤1000000000→0<u→u≤1000000000→0<(Int.gcd f u:Int)∧Bt 40 (Int.gcd f u:Int)∧0≤f/(Int.gcd f u:Int)∧f/(Int.gcd f u:Int)≤1000000000:=fun u f0 f1 u0 u1=>by
    obtain ⟨l1,l2,_⟩:=low f u u0
    refine ⟨l1,by unfold Bt; lia,Int.ediv_nonneg (by lia) (by lia),?_⟩
    have:=Int.ediv_le_self (a:=f) (Int.gcd f u:Int) (by lia)
    lia
   match i,hz with
   | 0,hz =>
    cases hz
    cases h0 rfl
    obtain ⟨k1,k2,k3,k4⟩:=key x (by decide) (by decide) x0 x1
    refine ⟨1,x,rfl,by decide,by lia,cdB k1 k2,clB (by lia) (by lia),rfl,_,_,rfl,(fun z=>by cases z),(fun _=>?_),(fun z=>by cases z)⟩
    rw[Int.one_gcd]
    show 1/1*x=x
    rw[Int.ediv_self (by decide),Int.one_mul]
   | 1,hz =>
    cases hz
    cases h1 rfl
    obtain ⟨k1,k2,k3,k4⟩:=key y x0 x1 y0 y1
    exact ⟨_,y,rfl,by lia,by lia,cdB k1 k2,clB (by lia) (by lia),rfl,_,_,rfl,(fun z=>by cases z),(fun z=>by cases z),fun _=>rfl⟩
  ·rintro σ H' ⟨rfl,f,x2,rfl,h0,h1,h2⟩
   cases h2 rfl
   exact q
theorem pq(T:Txt K mg a):FnOk P w K mg base CX0 1 a.f_ab a.d_ab ["_law_one","_law_other"] spGcd:=by
 refine T.F_ab.ok sc_ab (fun vs H Q E h=>?_) (fun cdv A outer s H vs Q E hr h=>?_)
 ·obtain ⟨x,y,rfl,_⟩:=h; rfl
 ·obtain ⟨x0,y0,rfl,h0,h1,q⟩:=h
  refine ⟨_,(af (eO PassesOwn.never (bx wg (vr 1) aj (aC _)) (ak (mL rfl sc_ab.nd (i:=0) (j:=1) rfl rfl (by decide) rfl rfl (aa (vr 1) (aa (au cO (vr 0) (vr 1)) ae)) rfl))) (ak (aw (vr 0)))),fi ?_⟩
  intro zt2
  refine ⟨fun m σ H'=>H'=H∧∃ x y:Int,0≤x∧0≤y∧m=y.toNat∧Int.gcd x y=Int.gcd x0 y0∧σ=[some (.int x),some (.int y)],⟨_,rfl,x0,y0,h0,h1,rfl,rfl,rfl⟩,?_⟩
  rintro m σ H' ⟨rfl,x,y,hx,hy,rfl,hg,rfl⟩
  refine ifC (fun c=>?_) (fun c=>?_)
  ·have c':y≠0:=by have z:0<y:=c; lia
   let Pw5:St→Hp→Prop:=fun σ' H''=>H''=H'∧σ'=[some (.int y),some (.int (x % y))]
   refine ⟨Pw5,?_,?_⟩
   ·rintro σ' H'' ⟨rfl,rfl⟩
    exact ⟨(x % y).toNat,by have:=Int.emod_lt_of_pos x (show 0<y by lia); have:=Int.emod_nonneg x c'; lia,rfl,y,x % y,hy,Int.emod_nonneg x c',rfl,by rw[jc,hg],rfl⟩
   ·exact ⟨cp (by lia),_,_,rfl,rfl,rfl⟩
  ·have c':y=0:=by have z:¬0<y:=c; lia
   subst c'
   rw[Int.gcd_zero_right]at hg
   have:x=(Int.gcd x0 y0:Int):=by lia
   rw[← this]at q
   exact q
end
def nV(L:List Nat):List V:=L.map fun (k:Nat)=>V.int (k:Int)
theorem mK{L:List Nat}{j:Nat}{x:V}(h:(nV L)[j]? = some x):∃ k,L[j]? = some k∧x=.int (k:Int):=by
 unfold nV at h
 rw[List.getElem?_map]at h
 cases hk:L[j]? with
 | none=>rw[hk]at h; cases h
 | some k=>rw[hk]at h; cases h; exact ⟨k,rfl,rfl⟩
theorem qy{z:List Int}{k:Nat}(hk:k<z.length):atI (z.map V.int) (k:Int)=some (.int (sz z k)):=bg (by simp[sz,List.getElem?_map,List.getD,hk])
theorem gR{z:List Int}{k:Nat}(hk:k<z.length):sz z k∈z:=by
 unfold sz
 rw[List.getD,List.getElem?_eq_getElem hk]
 exact getElem_mem hk
theorem wl(L:List Nat):(nV L).all gI=true:=by
 rw[all_eq_true]
 intro x hx
 obtain ⟨k,_,rfl⟩:=mem_map.mp hx
 rfl
theorem zu(L:List Nat)(k:Nat):inV (.int (k:Int)) (nV L)=decide (k∈L):=by
 rw[Bool.eq_iff_iff]
 unfold inV nV
 rw[List.any_map,List.any_eq_true,decide_eq_true_eq]
 constructor
 ·rintro ⟨j,hj,e⟩
  have:(j:Int)=(k:Int):=by simpa[eqV] using e
  have:j=k:=by lia
  rw[← this]; exact hj
 ·intro h
  exact ⟨k,h,by simp[eqV]⟩
section
variable {P:Program}{w:World}{K:Frag}{mg:Str→Option Value}{base:Heap}{a:Ad}
theorem sW(T:Txt K mg a):FnOk P w K mg base CX0 3 a.f_l a.d_l ["sizes","many"] (spSome K):=by
 have G_E:FnOk P w K mg base CX0 2 _ _ _ spLow:=eN T
 refine T.F_l.ok sc_l (fun vs H Q E h=>?_) (fun cdv A outer s H vs Q E hr h=>?_)
 ·obtain ⟨l,z,m,rfl,_⟩:=h; rfl
 ·obtain ⟨l,z,m,rfl,hl,hz,m0,m1,q⟩:=h
  refine ⟨_,(af (av (i:=2) sc_l.nd rfl (Or.inr rfl) (aL (dU rfl) rfl T.z_list di (aa (aL eQ rfl T.z_range fA (aa (az aE rfl T.z_len bI (aa (vr 0) ae)) ae)) ae))) (af (av (i:=3) sc_l.nd rfl (Or.inr rfl) (vr 1)) (af (eO PassesOwn.never (dN dj) (af (av (i:=4) sc_l.nd rfl (Or.inr rfl) (az (dY rfl) rfl T.z_sum gO (aa (bf rfl (N:=["place","sizes"]) (ix:=[none,some 0]) ⟨rfl,rfl,rfl,rfl,⟨rfl,rfl,rfl,trivial⟩⟩ (bj (vr 2)) ⟨fun C s H fp=>ap (i:=0) (show List.Nodup (["place","sizes"]:List Str) by decide +kernel) rfl (Or.inl rfl),fun C s H fp=>bi,fun C s H fp=>(ax (bL (K:=K) rfl) (vr 1) (vr 0) (fun _ _=>rfl))⟩) ae))) (af (fg rfl (i:=5) sc_l.nd rfl rfl (by with_unfolding_all rfl) (N:=["place","whole","wanted","sizes"]) (ix:=[none,some 4,some 3,some 0]) ⟨rfl,rfl,rfl,rfl,⟨rfl,rfl,rfl,⟨rfl,rfl,rfl,⟨rfl,rfl,rfl,trivial⟩⟩⟩⟩ (bj (vr 2)) ⟨fun C s H fp=>ap (i:=0) (show List.Nodup (["place","whole","wanted","sizes"]:List Str) by decide +kernel) rfl (Or.inl rfl),fun C s H fp=>eA (bx fm (au bz (ax (bL (K:=K) rfl) (vr 3) (vr 0) (fun _ _=>rfl)) (vr 2)) (vr 1) (aC _)),fun C s H fp=>(vr 0)⟩) (af (bJ (bx jo (az aE rfl T.z_len bI (aa (vr 5) ae)) (az aE rfl T.z_len bI (aa (vr 2) ae)) (aC _)) (ak rB) aJ) (af (mt (i:=3) sc_l.nd rfl (Or.inr rfl) (au dR (az aE rfl T.z_len bI (aa (vr 2) ae)) (az aE rfl T.z_len bI (aa (vr 5) ae))) xm) (ak (av (i:=2) sc_l.nd rfl (Or.inr rfl) (vr 5)))))))) (ak (aw (bf rfl (N:=["place","size","left","whole","wanted"]) (ix:=[none,none,some 2,some 4,some 3]) ⟨rfl,rfl,rfl,rfl,⟨rfl,rfl,rfl,⟨rfl,rfl,rfl,⟨rfl,rfl,rfl,trivial⟩⟩⟩⟩ (oe rfl T.z_enumerate (aa (vr 0) ae)) ⟨fun C s H fp=>(dF (K:=K) (n:=2) rfl rfl (ay (ap (i:=0) (show List.Nodup (["place","size","left","whole","wanted"]:List Str) by decide +kernel) rfl (Or.inl rfl)) (ay (ap (i:=1) (show List.Nodup (["place","size","left","whole","wanted"]:List Str) by decide +kernel) rfl (Or.inl rfl)) bA))),fun C s H fp=>bi,fun C s H fp=>(iJ (bx (mV (K:=K) rfl) (vr 0) (vr 2) (by with_unfolding_all rfl)) (ao G_E hr rfl T.m_E T.F_E.kp T.B_E .nil aq (aa (au bz (vr 1) (vr 4)) (aa (vr 3) ae))) (cN rfl T.g_WHOLE))⟩)))))),oz ?_⟩
  intro zt4 zt3 zt2
  have sl:sizeLine=16777216:=sizeLine_eq
  have zl:=hz.len
  have hzs:∀ k,k<z.length→1≤sz z k:=fun k hk=>hz.lo _ (gR hk)
  have hzh:∀ k,k<z.length→sz z k≤24000000:=fun k hk=>hz.hi _ (gR hk)
  refine ⟨_,.inl (SqL.of hl),⟨_,rfl,fun p hp=>⟨p,z.length,rfl,by lia,by rw[ac,length_map],fun lf hlf=>?_⟩⟩⟩
  have s1:Same H (upd (upd H p (.rng 0 ((z.map V.int).length:Int))) lf (.lst (nV (List.range z.length)))):=(Same.new hp).trans (Same.new hlf)
  let Pw12:PvS:=fun c σ H'=>∃(lf:Addr) (L:List Nat) (w:Int) (x4 x5:Option V),c=L.length∧Same H H'∧H' lf=some (.lst (nV L))∧Rnd z z.length m L w∧FrM.fin z L w=FrM.fin z (List.range z.length) m∧σ=[some (.ref l),some (.int m),some (.ref lf),some (.int w),x4,x5]
  refine ⟨Pw12,⟨_,lf,List.range z.length,m,none,none,rfl,s1,ac,Rnd.start (by lia) (by lia),rfl,rfl⟩,?_⟩
  rintro c σ H' ⟨lf,L,w,x4,x5,rfl,sm,hlf,R,hf,rfl⟩
  have hl':=sm _ _ hl
  have Ll:=R.len
  have wb:-24≤w∧w≤24:=by have:=R.dif; have:=R.lt; lia
  let Pw14:St→Hp→Prop:=fun σ' H''=>∃(lf':Addr) (x4 x5:Option V),Same H H''∧H'' lf'=some (.lst (nV (stay z L w)))∧(stay z L w).length≠L.length∧σ'=[some (.ref l),some (.int m),some (.ref lf'),some (.int (w - ((L.length:Int) - ((stay z L w).length:Int)))),x4,x5]
  refine ⟨Pw14,?_,?_⟩
  ·rintro σ' H'' ⟨lf',x4,x5,sm',h',hne,rfl⟩
   have:=gz z L w
   exact ⟨_,by lia,lf',_,_,x4,x5,rfl,sm',h',R.step hzs,by rw[← hf]; exact (kC hne).symm,rfl⟩
  ·refine .inl ⟨⟨_,SqL.of hlf⟩,fun D hD=>?_⟩
   let Pw1:PvL:=fun i ys H2=>i≤L.length∧H2=upd H' D (.lst ys)∧ys=(L.take i).map fun k=>V.int (sz z k)
   refine aK (K:=K) (a:=lf) (xs:=nV L) Pw1 ⟨Nat.zero_le _,rfl,rfl⟩ (fun i ys H2 h=>by rw[h.2.1]; exact SqL.of (by rw[ag (am hlf hD)]; exact hlf)) (fun i ys H2 h=>by rw[h.2.1]; exact ac) ?_ ?_
   ·rintro i x ys H2 P' hx ⟨hi,rfl,rfl⟩ hP
    obtain ⟨k,hk,rfl⟩:=mK hx
    have hlt:i<L.length:=(List.getElem?_eq_some_iff.mp hk).1
    have hkz:=R.sub k (List.mem_of_getElem? hk)
    refine ⟨⟨rfl,trivial⟩,.inl ⟨l,_,_,_,rfl,rfl,SqL.of (by rw[ag (am hl' hD)]; exact hl'),qy hkz,ac,?_,hP _ _ ⟨hlt,cv,?_⟩⟩⟩
    ·rw[length_map,length_take]; lia
    ·rw[take_add_one,hk,map_append]; rfl
   rintro ys H2 ⟨_,rfl,rfl⟩
   have eS:((L.take (nV L).length).map fun k=>V.int (sz z k))=(L.map (sz z)).map V.int:=by
    rw[show (nV L).length=L.length by unfold nV; rw[length_map],take_of_length_le (Nat.le_refl _),map_map]; rfl
   refine ⟨D,L.map (sz z),rfl,SqL.of (by rw[ac,eS]),?_⟩
   rw[eS]
   have sD:Same H' (upd H' D (.lst ((L.map (sz z)).map V.int))):=Same.new hD
   generalize upd H' D (.lst ((L.map (sz z)).map V.int))=H3 at sD
   have hl3:=sD _ _ hl'
   have hlf3:=sD _ _ hlf
   refine .inl ⟨⟨_,SqL.of hlf3⟩,fun D2 hD2=>?_⟩
   let Pw2:PvL:=fun i ys H2=>i≤L.length∧H2=upd H3 D2 (.lst ys)∧ys=nV ((L.take i).filter fun k=>decide (sz z k*w<aW z L))
   refine aK (K:=K) (a:=lf) (xs:=nV L) Pw2 ⟨Nat.zero_le _,rfl,rfl⟩ (fun i ys H2 h=>by rw[h.2.1]; exact SqL.of (by rw[ag (am hlf3 hD2)]; exact hlf3)) (fun i ys H2 h=>by rw[h.2.1]; exact ac) ?_ ?_
   ·rintro i x ys H2 P' hx ⟨hi,rfl,rfl⟩ hP
    obtain ⟨k,hk,rfl⟩:=mK hx
    have hlt:i<L.length:=(List.getElem?_eq_some_iff.mp hk).1
    have hkz:=R.sub k (List.mem_of_getElem? hk)
    have et:(L.take (i+1)).filter (fun k=>decide (sz z k*w<aW z L))=(L.take i).filter (fun k=>decide (sz z k*w<aW z L))++if sz z k*w<aW z L then [k] else []:=by
     rw[take_add_one,hk,filter_append]
     by_cases c:sz z k*w<aW z L <;> simp[c]
    refine ⟨⟨rfl,rfl,rfl,trivial⟩,.inl ⟨l,_,_,_,rfl,rfl,SqL.of (by rw[ag (am hl3 hD2)]; exact hl3),qy hkz,crB (by lia) (by lia),?_⟩⟩
    refine ifC (fun c=>?_) (fun c=>?_)
    ·have c':sz z k*w<aW z L:=c
     rw[if_pos c']at et
     refine ⟨ac,?_,hP _ _ ⟨hlt,cv,?_⟩⟩
     ·unfold nV
      rw[length_map]
      have:=length_filter_le (fun k=>decide (sz z k*w<aW z L)) (L.take i)
      rw[length_take]at this
      lia
     ·rw[et]; unfold nV; rw[map_append]; rfl
    ·have c':¬sz z k*w<aW z L:=c
     rw[if_neg c',append_nil]at et
     exact hP _ _ ⟨hlt,rfl,by rw[et]⟩
   rintro ys H2 ⟨_,rfl,rfl⟩
   have eT:nV ((L.take (nV L).length).filter fun k=>decide (sz z k*w<aW z L))=nV (stay z L w):=by
    rw[show (nV L).length=L.length by unfold nV; rw[length_map],take_of_length_le (Nat.le_refl _)]; rfl
   rw[eT]
   have sD2:Same H3 (upd H3 D2 (.lst (nV (stay z L w)))):=Same.new hD2
   have hst:(upd H3 D2 (.lst (nV (stay z L w)))) D2=some (.lst (nV (stay z L w))):=ac
   generalize upd H3 D2 (.lst (nV (stay z L w)))=H4 at sD2 hst
   have hl4:=sD2 _ _ hl3
   have hlf4:=sD2 _ _ hlf3
   have s4:Same H H4:=sm.trans (sD.trans sD2)
   have jp:∀ L:List Nat,(nV L).length=L.length:=fun L=>by unfold nV; rw[length_map]
   refine ⟨_,.inl (SqL.of hst),⟨_,.inl (SqL.of hlf4),?_⟩⟩
   rw[jp,jp]
   refine ifC (fun c=>?_) (fun c=>?_)
   ·have c':(stay z L w).length=L.length:=by have z:((stay z L w).length:Int)=(L.length:Int):=c; lia
    have hfin:=gt c'
    rw[hf]at hfin
    have hS:0<aW z L:=by have:=eu z L fun k hk=>hzs k (R.sub k hk); have:=R.pos; lia
    have hSb:Bt 40 (aW z L):=by
     have:=gs z 24000000 L fun k hk=>hzh k (R.sub k hk)
     unfold Bt
     have e40:(2:Nat) ^ 40=1099511627776:=by decide
     rw[e40]
     lia
    refine ⟨l,_,rfl,hl4,fun D3 hD3=>?_⟩
    have hDue:due z m=(List.range z.length).map fun k=>if decide (k∈L)=true then cI (sz z k*w) (aW z L) else (1,1):=by
     unfold due
     rw[if_neg (by lia),if_neg (by lia),hfin]
    have fD3:H D3=none:=s4.free hD3
    refine oB (a:=l) (xs:=z.map V.int) (fun i ys H2=>i≤z.length∧Same H H2∧Same H4 H2∧H2 D3=some (.lst ys)∧AllF K H2 ((due z m).take i) ys) ⟨Nat.zero_le _,s4.trans (Same.new hD3),Same.new hD3,ac,by rw[take_zero]; exact .nil⟩ (fun i ys H2 h=>h.2.1 _ _ hl) (fun i ys H2 h=>h.2.2.2.1) ?_ ?_
    ·rintro i x ys H2 p P' hx ⟨hi,t1,t4,hD4,hA⟩ hp hP
     have hlt:i<z.length:=by have:=(List.getElem?_eq_some_iff.mp hx).1; rw[length_map]at this; exact this
     have ex:x=.int (sz z i):=by
      rw[List.getElem?_map,List.getElem?_eq_getElem hlt]at hx
      cases hx
      simp[sz,List.getD,hlt]
     subst ex
     have s2:Same H2 (upd H2 p (.tup [.int (i:Nat),.int (sz z i)])):=Same.new hp
     refine ⟨p,_,rfl,SqT.of ac,rfl,_,_,rfl,_,_,rfl,rfl,⟨rfl,rfl,rfl,trivial⟩,?_⟩
     generalize upd H2 p (.tup [.int (i:Nat),.int (sz z i)])=H5 at s2
     have hD5:=s2 _ _ hD4
     have yl:ys.length=i:=by rw[← hA.len,length_take,cu]; lia
     have et:(due z m).take (i+1)=(due z m).take i++[if decide (i∈L)=true then cI (sz z i*w) (aW z L) else (1,1)]:=by
      rw[take_add_one]
      congr 1
      rw[hDue,List.getElem?_map,List.getElem?_range hlt]
      rfl
     refine ⟨lf,_,rfl,.inl (SqL.of ((t4.trans s2) _ _ hlf4)),rfl,wl L,?_⟩
     rw[zu]
     refine ifB (fun c=>?_) (fun c=>?_)
     ·have c':decide (i∈L)=true:=c
      rw[if_pos c']at et
      refine ⟨crB (by lia) (by lia),⟨_,_,rfl,hS,((show Bt 30 (sz z i) by have:=hzs i hlt; have:=hzh i hlt; unfold Bt; lia).mul (show Bt 5 w by unfold Bt; lia)).mono (by decide),hSb.mono (by decide),fun H6 p6 s6 e6=>?_⟩⟩
      refine ⟨s6 _ _ hD5,by lia,hP _ _ ⟨hlt,((t1.trans s2).trans s6).put fD3,?_,ac,?_⟩⟩
      ·exact ((t4.trans s2).trans s6).put hD3
      ·rw[et]
       have hD6:=s6 _ _ hD5
       exact AllF.snoc ⟨p6,rfl,.inl (TK.lst hD6 _ _ e6)⟩ (hA.tk ((s2.trans s6).tk.trans (TK.lst hD6)))
     ·have c':decide (i∈L)=false:=c
      rw[if_neg (by rw[c']; exact Bool.false_ne_true)]at et
      refine ⟨hD5,by lia,hP _ _ ⟨hlt,(t1.trans s2).put fD3,(t4.trans s2).put hD3,ac,?_⟩⟩
      rw[et]
      exact AllF.snoc ⟨a.k_WHOLE,rfl,.inr T.t_WHOLE⟩ (hA.tk (s2.tk.trans (TK.lst hD5)))
    ·rintro ys H2 ⟨_,t1,t4,hD4,hA⟩
     rw[take_of_length_le (by rw[cu,length_map]; exact Nat.le_refl _)]at hA
     exact q H2 D3 ys t1 fD3 hD4 hA
   ·have c':(stay z L w).length≠L.length:=fun e=>c (by show ((stay z L w).length:Int)=(L.length:Int); lia)
    refine ⟨_,rfl,⟨_,.inl (SqL.of hlf4),⟨_,.inl (SqL.of hst),⟨_,_,rfl,rfl,⟨D2,some (.int (L.map (sz z)).sum),some (.ref D2),s4,hst,c',?_⟩⟩⟩⟩⟩
    rw[jp,jp]
    rfl
theorem pG(T:Txt K mg a):FnOk P w K mg base CX0 4 a.f_as a.d_as ["sizes","many"] (spWished K):=by
 have G_l:FnOk P w K mg base CX0 3 _ _ _ (spSome K):=sW T
 refine T.F_as.ok oR (fun vs H Q E h=>?_) (fun cdv A outer s H vs Q E hr h=>?_)
 ·obtain ⟨l,z,m,rfl,_⟩:=h; rfl
 ·obtain ⟨l,z,m,rfl,hl,hz,m0,m1,q⟩:=h
  refine ⟨_,(af (bJ (bx sK (az aE rfl T.z_len bI (aa (vr 0) ae)) (vr 1) (aC _)) (ak (aw (bf rfl (N:=["size"]) (ix:=[none]) ⟨rfl,rfl,rfl,rfl,trivial⟩ (bj (vr 0)) ⟨fun C s H fp=>ap (i:=0) (show List.Nodup (["size"]:List Str) by decide +kernel) rfl (Or.inl rfl),fun C s H fp=>bi,fun C s H fp=>(cN rfl T.g_WHOLE)⟩))) aJ) (af (bJ (bx jo (vr 1) aj (aC _)) (ak (aw (bf rfl (N:=["size"]) (ix:=[none]) ⟨rfl,rfl,rfl,rfl,trivial⟩ (bj (vr 0)) ⟨fun C s H fp=>ap (i:=0) (show List.Nodup (["size"]:List Str) by decide +kernel) rfl (Or.inl rfl),fun C s H fp=>bi,fun C s H fp=>(cN rfl T.g_NOUGHT)⟩))) aJ) (ak (aw (ao G_l hr rfl T.m_l T.F_l.kp T.B_l .nil aq (aa (vr 0) (aa (vr 1) ae))))))),iH ?_⟩
  intro zt3 zt2
  have sl:sizeLine=16777216:=sizeLine_eq
  have zl:=hz.len
  refine ⟨_,.inl (SqL.of hl),?_⟩
  rw[length_map]
  refine ifC (fun c=>?_) (fun c=>ifC (fun c2=>?_) (fun c2=>?_))
  ·have c':(z.length:Int)≤m:=c
   have hDue:due z m=z.map fun _=>(1,1):=by unfold due; rw[if_pos c']
   refine .inl ⟨⟨_,SqL.of hl⟩,fun D hD=>?_⟩
   let Pw3:PvL:=fun i ys H2=>i≤z.length∧H2=upd H D (.lst ys)∧AllF K H2 ((due z m).take i) ys
   refine aK (K:=K) (a:=l) (xs:=z.map V.int) Pw3 ⟨Nat.zero_le _,rfl,by rw[take_zero]; exact .nil⟩ (fun i ys H2 h=>by rw[h.2.1]; exact SqL.of (by rw[ag (am hl hD)]; exact hl)) (fun i ys H2 h=>by rw[h.2.1]; exact ac) ?_ ?_
   ·rintro i x ys H2 P' hx ⟨hi,rfl,hA⟩ hP
    have hlt:i<z.length:=by have:=(List.getElem?_eq_some_iff.mp hx).1; rw[length_map]at this; exact this
    have yl:ys.length=i:=by rw[← hA.len,length_take,cu]; lia
    refine ⟨trivial,ac,by lia,hP _ _ ⟨hlt,cv,?_⟩⟩
    have et:(due z m).take (i+1)=(due z m).take i++[(1,1)]:=by
     rw[take_add_one]
     congr 1
     rw[hDue,List.getElem?_map,List.getElem?_eq_getElem hlt]
     rfl
    rw[et]
    exact AllF.snoc ⟨a.k_WHOLE,rfl,.inr T.t_WHOLE⟩ (hA.tk (TK.lst ac))
   ·rintro ys H2 ⟨_,rfl,hA⟩
    rw[take_of_length_le (by rw[cu,length_map]; exact Nat.le_refl _)]at hA
    exact q _ D ys (Same.new hD) hD ac hA
  ·have c':¬(z.length:Int)≤m:=c
   have c2':m=0:=c2
   have hDue:due z m=z.map fun _=>(0,1):=by unfold due; rw[if_neg c',if_pos c2']
   refine .inl ⟨⟨_,SqL.of hl⟩,fun D hD=>?_⟩
   let Pw4:PvL:=fun i ys H2=>i≤z.length∧H2=upd H D (.lst ys)∧AllF K H2 ((due z m).take i) ys
   refine aK (K:=K) (a:=l) (xs:=z.map V.int) Pw4 ⟨Nat.zero_le _,rfl,by rw[take_zero]; exact .nil⟩ (fun i ys H2 h=>by rw[h.2.1]; exact SqL.of (by rw[ag (am hl hD)]; exact hl)) (fun i ys H2 h=>by rw[h.2.1]; exact ac) ?_ ?_
   ·rintro i x ys H2 P' hx ⟨hi,rfl,hA⟩ hP
    have hlt:i<z.length:=by have:=(List.getElem?_eq_some_iff.mp hx).1; rw[length_map]at this; exact this
    have yl:ys.length=i:=by rw[← hA.len,length_take,cu]; lia
    refine ⟨trivial,ac,by lia,hP _ _ ⟨hlt,cv,?_⟩⟩
    have et:(due z m).take (i+1)=(due z m).take i++[(0,1)]:=by
     rw[take_add_one]
     congr 1
     rw[hDue,List.getElem?_map,List.getElem?_eq_getElem hlt]
     rfl
    rw[et]
    exact AllF.snoc ⟨a.k_NOUGHT,rfl,.inr T.t_NOUGHT⟩ (hA.tk (TK.lst ac))
   ·rintro ys H2 ⟨_,rfl,hA⟩
    rw[take_of_length_le (by rw[cu,length_map]; exact Nat.le_refl _)]at hA
    exact q _ D ys (Same.new hD) hD ac hA
  ·have c':¬(z.length:Int)≤m:=c
   have c2':¬m=0:=c2
   exact ⟨l,z,m,rfl,hl,hz,by lia,by lia,q⟩
end
def ej(n:Nat)(L:List Nat):List V:=(List.range n).map fun (k:Nat)=>V.bl (decide (k ∉ L))
theorem uf{n k:Nat}(L:List Nat)(hk:k<n):atI (ej n L) (k:Int)=some (.bl (decide (k ∉ L))):=bg (by unfold ej; rw[List.getElem?_map,List.getElem?_range hk]; rfl)
theorem jM{n j:Nat}{L:List Nat}(hj:j<n):((List.range n).take (j+1)).filter (fun k=>decide (k∈L))=((List.range n).take j).filter (fun k=>decide (k∈L))++if j∈L then [j] else []:=by
 rw[take_add_one,List.getElem?_range hj,filter_append]
 by_cases c:j∈L <;> simp[c]
theorem pO{n j:Nat}{L:List Nat}(p:Nat→Bool)(hj:j<n):((List.range n).take (j+1)).filter (fun k=>decide (k∈L) && p k)=((List.range n).take j).filter (fun k=>decide (k∈L) && p k)++if (decide (j∈L) && p j)=true then [j] else []:=by
 rw[take_add_one,List.getElem?_range hj,filter_append]
 by_cases c:(decide (j∈L) && p j)=true
 ·rw[if_pos c]; simp[c]
 ·rw[if_neg c]; simp[c]
theorem gJ{n k:Nat}(L:List Nat)(hk:k<n):atI (ej n L) (0+(k:Int))=some (.bl (decide (k ∉ L))):=by rw[Int.zero_add]; exact uf L hk
theorem jY{z:List Int}{k:Nat}(hk:k<z.length):atI (z.map V.int) (0+(k:Int))=some (.int (sz z k)):=by rw[Int.zero_add]; exact qy hk
def fh(n:Nat)(L hs:List Nat):List V:=(List.range n).map fun (k:Nat)=>V.bl (decide (k ∉ L∨k∈hs))
theorem pB(n:Nat)(L:List Nat):fh n L []=ej n L:=by
 unfold fh ej
 refine map_congr_left fun k hk=>?_
 simp
theorem oC(n:Nat)(L hs:List Nat):(fh n L hs).length=n:=by unfold fh; rw[length_map,length_range]
theorem pF{n k:Nat}(L hs:List Nat):(fh n L hs).set k (.bl true)=fh n L (hs++[k]):=by
 refine List.ext_getElem? fun i=>?_
 rw[List.getElem?_set]
 unfold fh
 rw[length_map,length_range,List.getElem?_map,List.getElem?_map]
 by_cases hi:i<n
 ·rw[List.getElem?_range hi]
  by_cases e:k=i
  ·subst e
   rw[if_pos rfl,if_pos hi]
   simp
  ·rw[if_neg e]
   have:¬i=k:=fun z=>e z.symm
   simp[this]
 ·rw[List.getElem?_eq_none (by rw[length_range]; lia)]
  split
  ·split
   ·lia
   ·rfl
  ·rfl
theorem lY{n:Nat}{L:List Nat}(p:Nat→Bool):fh n L (L.filter fun k=>!p k)=ej n (L.filter p):=by
 unfold fh ej
 refine map_congr_left fun k hk=>?_
 congr 1
 rw[decide_eq_decide]
 rw[mem_filter,mem_filter]
 by_cases h1:k∈L
 ·by_cases h2:p k=true <;> simp[h1,h2]
 ·simp[h1]
theorem pV(p:Nat→Bool):∀ L:List Nat,(L.filter fun k=>!p k).length+(L.filter p).length=L.length
 | []=>rfl
 | k::L=>by
  have ih:=pV p L
  by_cases h:p k=true
  ·rw[filter_cons_of_neg (by simp[h]),filter_cons_of_pos h,length_cons,length_cons]; lia
  ·rw[filter_cons_of_pos (by simpa using h),filter_cons_of_neg h,length_cons,length_cons]; lia
theorem vQ{K:Frag}{H:Hp}:∀(l:List Nat),DVs K H (l.map fun (k:Nat)=>PyData.int (k:Int)) (nV l)
 | []=>by simp[DVs,nV]
 | c::l=>by
  show DVs K H (PyData.int (c:Int)::l.map fun (k:Nat)=>PyData.int (k:Int)) (V.int (c:Int)::nV l)
  rw[DVs]
  exact ⟨_,_,rfl,by simp[DV],vQ l⟩
theorem vz:∀(l:List Nat),PyData.canLayAll0 (l.map fun (k:Nat)=>PyData.int (k:Int))=true∧PyData.depthAll (l.map fun (k:Nat)=>PyData.int (k:Int))≤1
 | []=>by simp[PyData.canLayAll0,PyData.depthAll]
 | t::l=>by
  obtain ⟨h1,h2⟩:=vz l
  rw[map_cons,PyData.canLayAll0,PyData.depthAll,h1,PyData.canLay0]
  refine ⟨rfl,?_⟩
  simp only[PyData.depth]
  lia
theorem rE{K:Frag}{H:Hp}{ns:List Nat}{l r:Addr}{Q:VK}(h1:H l=some (.lst (nV ns)))(h2:H r=some (.lst []))(q:Q (.bl (!ns.isEmpty)) H):rEqD K true (.ref l) (.ref r) H Q:=by
 have hs:SeqAt.shaped (.list (ns.map fun (k:Nat)=>PyData.int (k:Int)))=true:=by
  obtain ⟨k1,k2⟩:=vz ns
  unfold SeqAt.shaped
  rw[PyData.canLay0,k1,Bool.true_and]
  refine decide_eq_true ?_
  simp only[PyData.depth]
  lia
 refine ⟨.list (ns.map fun (k:Nat)=>PyData.int (k:Int)),.list [],by rw[DV]; exact ⟨l,_,rfl,SqL.of h1,vQ _⟩,by rw[DV]; exact ⟨r,_,rfl,SqL.of h2,by simp[DVs]⟩,hs,by decide +kernel,?_⟩
 have e:PyData.eqv (.list (ns.map fun (k:Nat)=>PyData.int (k:Int))) (.list [])=ns.isEmpty:=by
  cases ns with
  | nil=>decide +kernel
  | cons n ns=>simp[PyData.eqv,PyData.eqvAll]
 rw[e]
 exact q
theorem u9{n:Nat}{L:List Nat}(h:L=(List.range n).filter fun k=>decide (k∈L))(p:Nat→Bool):(List.range n).filter (fun k=>decide (k∈L) && p k)=L.filter p:=by
 have e:((List.range n).filter fun k=>decide (k∈L)).filter p=L.filter p:=by rw[← h]
 rw[← e,List.filter_filter]
 refine List.filter_congr fun k _=>?_
 rw[Bool.and_comm]
theorem ma{x S:Int}(hS:0<S):cI (x*0) S=(0,1):=by
 rw[Int.mul_zero]
 exact (qQ hS ⟨by decide,by decide,by lia⟩).symm
section
variable {P:Program}{w:World}{K:Frag}{mg:Str→Option Value}{base:Heap}{a:Ad}
theorem iS(T:Txt K mg a):FnOk P w K mg base CX0 2 a.f_A a.d_A ["_law_sizes","_law_many"] (spWished K):=by
 have G_ah:FnOk P w K mg base CX0 1 _ _ _ spLow:=qU T
 refine T.F_A.ok sc_A (fun vs H Q E h=>?_) (fun cdv A outer s H vs Q E hr h=>?_)
 ·obtain ⟨l,z,m,rfl,_⟩:=h; rfl
 ·obtain ⟨l,z,m,rfl,hl,hz,m0,m1,q⟩:=h
  refine ⟨_,(af (bJ (bx yt (vr 1) (az aE rfl T.z_len bI (aa (vr 0) ae)) (aC _)) (ak (aw (bf rfl (N:=["_law_size"]) (ix:=[none]) ⟨rfl,rfl,rfl,rfl,trivial⟩ (bj (vr 0)) ⟨fun C s H fp=>ap (i:=0) (show List.Nodup (["_law_size"]:List Str) by decide +kernel) rfl (Or.inl rfl),fun C s H fp=>bi,fun C s H fp=>(aM (aa aj (aa aj ae)))⟩))) aJ) (af (av (i:=2) sc_A.nd rfl (Or.inr rfl) (bf rfl (N:=["_law_size"]) (ix:=[none]) ⟨rfl,rfl,rfl,rfl,trivial⟩ (bj (vr 0)) ⟨fun C s H fp=>ap (i:=0) (show List.Nodup (["_law_size"]:List Str) by decide +kernel) rfl (Or.inl rfl),fun C s H fp=>bi,fun C s H fp=>dj⟩)) (af (av (i:=3) sc_A.nd rfl (Or.inl rfl) (cY wg (vr 1) aj (aC _))) (af (eO PassesOwn.never (dN (vr 3)) (af (av (i:=4) sc_A.nd rfl (Or.inr rfl) (az (dY rfl) rfl T.z_sum gO (aa (bf rfl (N:=["_law_k","_law_sizes","_law_sure"]) (ix:=[none,some 0,some 2]) ⟨rfl,rfl,rfl,rfl,⟨rfl,rfl,rfl,⟨rfl,rfl,rfl,trivial⟩⟩⟩ (cA rfl T.z_range (aa (az aE rfl T.z_len bI (aa (vr 0) ae)) ae)) ⟨fun C s H fp=>ap (i:=0) (show List.Nodup (["_law_k","_law_sizes","_law_sure"]:List Str) by decide +kernel) rfl (Or.inl rfl),fun C s H fp=>eA (dZ (dN (ax (bL (K:=K) rfl) (vr 2) (vr 0) (fun _ _=>rfl)))),fun C s H fp=>(ax (bL (K:=K) rfl) (vr 1) (vr 0) (fun _ _=>rfl))⟩) ae))) (af (fg rfl (i:=5) sc_A.nd rfl rfl (by with_unfolding_all rfl) (N:=["_law_k","_law_total","_law_sure","_law_many","_law_sizes"]) (ix:=[none,some 4,some 2,some 1,some 0]) ⟨rfl,rfl,rfl,rfl,⟨rfl,rfl,rfl,⟨rfl,rfl,rfl,⟨rfl,rfl,rfl,⟨rfl,rfl,rfl,trivial⟩⟩⟩⟩⟩ (cA rfl T.z_range (aa (az aE rfl T.z_len bI (aa (vr 0) ae)) ae)) ⟨fun C s H fp=>ap (i:=0) (show List.Nodup (["_law_k","_law_total","_law_sure","_law_many","_law_sizes"]:List Str) by decide +kernel) rfl (Or.inl rfl),fun C s H fp=>eA (PW.pt (mE (dZ (dN (ax (bL (K:=K) rfl) (vr 2) (vr 0) (fun _ _=>rfl)))) (kE (bx yt (au bz (ax (bL (K:=K) rfl) (vr 4) (vr 0) (fun _ _=>rfl)) (vr 3)) (vr 1) (aC _))))),fun C s H fp=>(vr 0)⟩) (af (ei PassesOwn.never rfl (bj (vr 5)) (ap (i:=6) sc_A.nd rfl (Or.inl rfl)) (ak (dQ dj (i5 (vr 2) (vr 6) fz)))) (af (av (i:=1) sc_A.nd rfl (Or.inr rfl) (au dR (vr 1) (az aE rfl T.z_len bI (aa (vr 5) ae)))) (ak (av (i:=3) sc_A.nd rfl (Or.inl rfl) (cY (gh hr.units) (vr 5) (aY ae) (aC _))))))))) (af (av (i:=4) sc_A.nd rfl (Or.inr rfl) (az (dY rfl) rfl T.z_sum gO (aa (bf rfl (N:=["_law_k","_law_sizes","_law_sure"]) (ix:=[none,some 0,some 2]) ⟨rfl,rfl,rfl,rfl,⟨rfl,rfl,rfl,⟨rfl,rfl,rfl,trivial⟩⟩⟩ (cA rfl T.z_range (aa (az aE rfl T.z_len bI (aa (vr 0) ae)) ae)) ⟨fun C s H fp=>ap (i:=0) (show List.Nodup (["_law_k","_law_sizes","_law_sure"]:List Str) by decide +kernel) rfl (Or.inl rfl),fun C s H fp=>eA (dZ (dN (ax (bL (K:=K) rfl) (vr 2) (vr 0) (fun _ _=>rfl)))),fun C s H fp=>(ax (bL (K:=K) rfl) (vr 1) (vr 0) (fun _ _=>rfl))⟩) ae))) (af (av (i:=7) sc_A.nd rfl (Or.inl rfl) (aY ae)) (af (ei PassesOwn.never rfl (cA rfl T.z_range (aa (az aE rfl T.z_len bI (aa (vr 0) ae)) ae)) (ap (i:=6) sc_A.nd rfl (Or.inl rfl)) (af (dS (pe_m.append (vr 7) (aa (aM (aa aj (aa aj ae))) ae))) (ak (bJ (dZ (dN (ax ar (vr 2) (vr 6) (fun _ _=>rfl)))) (ak (dQ (ao G_ah hr rfl T.m_ah T.F_ah.kp T.B_ah .nil aq (aa (au bz (ax ar (vr 0) (vr 6) (fun _ _=>rfl)) (vr 1)) (aa (vr 4) ae))) (i5 (vr 7) (vr 6) fz))) aJ)))) (ak (aw (vr 7)))))))))),xK ?_⟩
  intro zt8 zt7 zt6 zt5 zt4 zt3 zt2
  have sl:sizeLine=16777216:=sizeLine_eq
  have zl:=hz.len
  have hzs:∀ k,k<z.length→1≤sz z k:=fun k hk=>hz.lo _ (gR hk)
  have hzh:∀ k,k<z.length→sz z k≤24000000:=fun k hk=>hz.hi _ (gR hk)
  refine ⟨_,.inl (SqL.of hl),?_⟩
  rw[length_map]
  refine ifC (fun c=>?_) (fun c=>?_)
  ·have c':(z.length:Int)≤m:=c
   have hDue:due z m=z.map fun _=>(1,1):=by unfold due; rw[if_pos c']
   refine .inl ⟨⟨_,SqL.of hl⟩,fun D hD=>?_⟩
   let Pw5:PvL:=fun i ys H2=>i≤z.length∧Same H H2∧H2 D=some (.lst ys)∧AllF K H2 ((due z m).take i) ys
   refine aK (K:=K) (a:=l) (xs:=z.map V.int) Pw5 ⟨Nat.zero_le _,Same.new hD,ac,by rw[take_zero]; exact .nil⟩ (fun i ys H2 h=>SqL.of (h.2.1 _ _ hl)) (fun i ys H2 h=>h.2.2.1) ?_ ?_
   ·rintro i x ys H2 P' hx ⟨hi,s2,hD2,hA⟩ hP
    have hlt:i<z.length:=by have:=(List.getElem?_eq_some_iff.mp hx).1; rw[length_map]at this; exact this
    have yl:ys.length=i:=by rw[← hA.len,length_take,cu]; lia
    refine ⟨trivial,aP _ _,fun p hp=>?_⟩
    have s3:=Same.new (o:=.tup [.int 1,.int 1]) hp
    have hD3:=s3 _ _ hD2
    refine ⟨hD3,by lia,hP _ _ ⟨hlt,(s2.trans s3).put hD,ac,?_⟩⟩
    have et:(due z m).take (i+1)=(due z m).take i++[(1,1)]:=by
     rw[take_add_one]
     congr 1
     rw[hDue,List.getElem?_map,List.getElem?_eq_getElem hlt]
     rfl
    rw[et]
    exact AllF.snoc ⟨p,rfl,.inl (TK.lst hD3 _ _ ac)⟩ (hA.tk (s3.tk.trans (TK.lst hD3)))
   ·rintro ys H2 ⟨_,s2,hD2,hA⟩
    rw[take_of_length_le (by rw[cu,length_map]; exact Nat.le_refl _)]at hA
    exact q _ D ys s2 hD hD2 hA
  have c':¬(z.length:Int)≤m:=c
  refine .inl ⟨⟨_,SqL.of hl⟩,fun sr hsr=>?_⟩
  let Pw6:PvL:=fun i ys H2=>i≤z.length∧H2=upd H sr (.lst ys)∧ys=((List.range z.length).take i).map fun _=>V.bl false
  refine aK (K:=K) (a:=l) (xs:=z.map V.int) Pw6 ⟨Nat.zero_le _,rfl,rfl⟩ (fun i ys H2 h=>by rw[h.2.1]; exact SqL.of (by rw[ag (am hl hsr)]; exact hl)) (fun i ys H2 h=>by rw[h.2.1]; exact ac) ?_ ?_
  ·rintro i x ys H2 P' hx ⟨hi,rfl,rfl⟩ hP
   have hlt:i<z.length:=by have:=(List.getElem?_eq_some_iff.mp hx).1; rw[length_map]at this; exact this
   refine ⟨trivial,ac,?_,hP _ _ ⟨hlt,cv,?_⟩⟩
   ·rw[length_map,length_take,length_range]; lia
   ·rw[take_add_one,List.getElem?_range hlt,map_append]; rfl
  rintro ys H2 ⟨_,rfl,rfl⟩
  have e0:(((List.range z.length).take (z.map V.int).length).map fun _=>V.bl false)=ej z.length (List.range z.length):=by
   rw[length_map,take_of_length_le (by rw[length_range]; exact Nat.le_refl _)]
   unfold ej
   refine map_congr_left fun k hk=>?_
   rw[decide_eq_false (fun h=>h hk)]
  rw[e0]
  have fsr:H sr=none:=hsr
  let Pw13:PvS:=fun c σ H'=>∃(L:List Nat) (w:Int) (b:Bool) (x4 x5 x6:Option V),c=2*L.length+(if b then 1 else 0)∧Same H H'∧H' sr=some (.lst (ej z.length L))∧Rnd z z.length m L w ∧
    (m=0→b=false∧w=0∧L=List.range z.length)∧(m≠0→FrM.fin z L w=FrM.fin z (List.range z.length) m)∧(m≠0→b=false→(stay z L w).length=L.length)∧σ=[some (.ref l),some (.int w),some (.ref sr),some (.bl b),x4,x5,x6,none]
  refine ⟨Pw13,
   ⟨_,List.range z.length,m,decide (0<m),none,none,none,rfl,Same.new hsr,ac,Rnd.start (by lia) (by lia),fun e=>⟨by rw[e]; rfl,e,rfl⟩,fun _=>rfl,fun e1 e2=>absurd (of_decide_eq_false e2) (by lia),rfl⟩,?_⟩
  rintro c0 σ H' ⟨L,w,b,x4,x5,x6,rfl,sm,hs',R,hm0,hmf,hms,rfl⟩
  have hl':=sm _ _ hl
  have Ll:=R.len
  have wb:-24≤w∧w≤24:=by have:=R.dif; have:=R.lt; lia
  have jp:∀ L:List Nat,(nV L).length=L.length:=fun L=>by unfold nV; rw[length_map]
  refine ifB (fun hb=>?_) (fun hb=>?_)
  ·subst hb
   have hm:m≠0:=fun e=>by have:=(hm0 e).1; cases this
   let Pw15:St→Hp→Prop:=fun σ' H''=>∃(w':Int) (b':Bool) (x4 x5 x6:Option V),w'=w - ((L.length:Int) - ((stay z L w).length:Int))∧b'=decide ((stay z L w).length≠L.length)∧Same H H''∧H'' sr=some (.lst (ej z.length (stay z L w)))∧σ'=[some (.ref l),some (.int w'),some (.ref sr),some (.bl b'),x4,x5,x6,none]
   refine ⟨Pw15,?_,?_⟩
   ·rintro σ' H'' ⟨w',b',x4,x5,x6,rfl,rfl,sm',h',rfl⟩
    have sle:=gz z L w
    by_cases e:(stay z L w).length=L.length
    ·have es:stay z L w=L:=by
      unfold stay
      rw[List.filter_eq_self]
      exact fun k hk=>(List.length_filter_eq_length_iff.mp e) k hk
     have ew:w - ((L.length:Int) - ((stay z L w).length:Int))=w:=by lia
     have eb:decide ((stay z L w).length≠L.length)=false:=decide_eq_false (fun h=>h e)
     rw[ew,eb]
     refine ⟨_,?_,L,w,false,x4,x5,x6,rfl,sm',by rw[es]at h'; exact h',R,fun z=>absurd z hm,hmf,fun _ _=>e,rfl⟩
     simp
    ·have eb:decide ((stay z L w).length≠L.length)=true:=decide_eq_true e
     rw[eb]
     refine ⟨_,?_,_,_,true,x4,x5,x6,rfl,sm',h',R.step hzs,fun z=>absurd z hm,fun z=>by rw[← hmf z]; exact (kC e).symm,fun _ z=>(by cases z),rfl⟩
     simp
     lia
   ·refine ⟨_,.inl (SqL.of hl'),_,rfl,by rw[length_map]; lia,by rw[length_map]; lia,fun D hD=>?_⟩
    let Pw7:PvL:=fun j ys H2=>j≤z.length∧H2=upd H' D (.lst ys)∧ys=((((List.range z.length).take j).filter fun k=>decide (k∈L)).map (sz z)).map V.int
    refine dO (lo:=0) (n:=(z.map V.int).length) Pw7 ⟨Nat.zero_le _,rfl,rfl⟩ (fun j ys H2 h=>by rw[h.2.1]; exact ac) ?_ ?_
    ·rintro j ys H2 P' hj ⟨hj2,rfl,rfl⟩ hP
     rw[length_map]at hj
     have et:=jM (L:=L) hj
     refine ⟨⟨rfl,rfl,trivial⟩,.inl ⟨sr,_,_,_,rfl,rfl,SqL.of (by rw[ag (am hs' hD)]; exact hs'),gJ L hj,?_⟩⟩
     refine ifB (fun c=>?_) (fun c=>?_)
     ·have c':j∈L:=by simpa using c
      rw[if_pos c']at et
      refine .inl ⟨l,_,_,_,rfl,rfl,SqL.of (by rw[ag (am hl' hD)]; exact hl'),jY hj,ac,?_,hP _ _ ⟨hj,cv,?_⟩⟩
      ·rw[length_map,length_map]
       have:=length_filter_le (fun k=>decide (k∈L)) ((List.range z.length).take j)
       rw[length_take]at this
       lia
      ·rw[et,map_append,map_append]; rfl
     ·have c':j ∉ L:=by simpa using c
      rw[if_neg c',append_nil]at et
      exact hP _ _ ⟨hj,rfl,by rw[et]⟩
    rintro ys H2 ⟨_,rfl,rfl⟩
    have eS:(((List.range z.length).take (z.map V.int).length).filter fun k=>decide (k∈L))=L:=by
     rw[length_map,take_of_length_le (by rw[length_range]; exact Nat.le_refl _)]
     exact R.fil.symm
    rw[eS]
    refine ⟨D,L.map (sz z),rfl,SqL.of ac,?_⟩
    have sD:Same H' (upd H' D (.lst ((L.map (sz z)).map V.int))):=Same.new hD
    generalize upd H' D (.lst ((L.map (sz z)).map V.int))=H3 at sD
    have hl3:=sD _ _ hl'
    have hs3:=sD _ _ hs'
    refine ⟨_,.inl (SqL.of hl3),_,rfl,by rw[length_map]; lia,by rw[length_map]; lia,fun D2 hD2=>?_⟩
    let Pw8:PvL:=fun j ys H2=>j≤z.length∧H2=upd H3 D2 (.lst ys)∧ys=nV (((List.range z.length).take j).filter fun k=>decide (k∈L) && !decide (sz z k*w<aW z L))
    refine dO (lo:=0) (n:=(z.map V.int).length) Pw8 ⟨Nat.zero_le _,rfl,rfl⟩ (fun j ys H2 h=>by rw[h.2.1]; exact ac) ?_ ?_
    ·rintro j ys H2 P' hj ⟨hj2,rfl,rfl⟩ hP
     rw[length_map]at hj
     have et:=pO (L:=L) (fun k=>!decide (sz z k*w<aW z L)) hj
     have hk0:=hzs j hj
     have hk1:=hzh j hj
     refine ⟨⟨rfl,rfl,rfl,rfl,trivial⟩,.inl ⟨sr,_,_,_,rfl,rfl,SqL.of (by rw[ag (am hs3 hD2)]; exact hs3),gJ L hj,?_⟩⟩
     refine ifB (fun c=>?_) (fun c=>?_)
     ·have c':j∈L:=by simpa using c
      refine .inl ⟨l,_,_,_,rfl,rfl,SqL.of (by rw[ag (am hl3 hD2)]; exact hl3),jY hj,crB (by lia) (by lia),?_⟩
      refine ifC (fun c2=>?_) (fun c2=>?_)
      ·have c2':aW z L≤sz z j*w:=c2
       rw[if_pos (by simp[c']; exact c2')]at et
       refine ⟨ac,?_,hP _ _ ⟨hj,cv,?_⟩⟩
       ·rw[jp]
        have:=length_filter_le (fun k=>decide (k∈L) && !decide (sz z k*w<aW z L)) ((List.range z.length).take j)
        rw[length_take]at this
        lia
       ·rw[et]; unfold nV; rw[map_append,Int.zero_add]; rfl
      ·have c2':¬aW z L≤sz z j*w:=c2
       rw[if_neg (by simp[c']; lia),append_nil]at et
       exact hP _ _ ⟨hj,rfl,by rw[et]⟩
     ·have c':j ∉ L:=by simpa using c
      rw[if_neg (by simp[c']),append_nil]at et
      exact xR (hP _ _ ⟨hj,rfl,by rw[et]⟩)
    rintro ys H2 ⟨_,rfl,rfl⟩
    obtain ⟨hi,hhi⟩:∃ hi,hi=L.filter fun k=>!decide (sz z k*w<aW z L):=⟨_,rfl⟩
    have eT:nV (((List.range z.length).take (z.map V.int).length).filter fun k=>decide (k∈L) && !decide (sz z k*w<aW z L))=nV hi:=by
     rw[length_map,take_of_length_le (by rw[length_range]; exact Nat.le_refl _),hhi]
     congr 1
     exact u9 R.fil _
    rw[eT]
    have hlen:hi.length+(stay z L w).length=L.length:=by rw[hhi]; exact pV _ L
    have sD2:Same H3 (upd H3 D2 (.lst (nV hi))):=Same.new hD2
    have hst:(upd H3 D2 (.lst (nV hi))) D2=some (.lst (nV hi)):=ac
    have nsr:sr≠D2:=am hs3 hD2
    generalize upd H3 D2 (.lst (nV hi))=H4 at sD2 hst
    have hs4:=sD2 _ _ hs3
    have s4:Same H H4:=sm.trans (sD.trans sD2)
    let Pw9:PvS:=fun j σ H2=>∃ x6,H2=upd H4 sr (.lst (fh z.length L (hi.take j)))∧σ=[some (.ref l),some (.int w),some (.ref sr),some (.bl true),some (.int (L.map (sz z)).sum),some (.ref D2),x6,none]
    refine .inl ⟨⟨_,SqL.of hst⟩,d6 (K:=K) (a:=D2) (xs:=nV hi) Pw9 ⟨x6,by rw[take_zero,pB]; funext b; by_cases e:b=sr; (· rw[e,ac]; exact hs4); (· rw[ag e]),rfl⟩ (fun j σ H2 _ h=>by obtain ⟨_,rfl,_⟩:=h; exact SqL.of (by rw[ag nsr.symm]; exact hst)) ?_ ?_⟩
    ·rintro j x σ H2 hx ⟨x6,rfl,rfl⟩
     obtain ⟨k,hk,rfl⟩:=mK hx
     have hkz:k<z.length:=by
      have:=List.mem_of_getElem? hk
      rw[hhi]at this
      exact R.sub k (mem_filter.mp this).1
     refine ⟨sr,_,_,k,rfl,rfl,ac,?_,?_⟩
     ·rw[oC]
      unfold ixN
      rw[if_pos (by lia),if_pos (by lia)]
      simp
     ·refine ⟨_,?_,rfl⟩
      rw[cv,pF,take_add_one,hk]
      rfl
    ·rintro σ H2 ⟨x6,rfl,rfl⟩
     have hst5:(upd H4 sr (.lst (fh z.length L (hi.take (nV hi).length)))) D2=some (.lst (nV hi)):=by rw[ag nsr.symm]; exact hst
     have e6:fh z.length L (hi.take (nV hi).length)=ej z.length (stay z L w):=by
      rw[jp,take_of_length_le (Nat.le_refl _),hhi]
      exact lY _
     rw[e6]at hst5 ⊢
     refine ⟨_,.inl (SqL.of hst5),Nat.zero_le _,fun p hp=>?_⟩
     have sp:=Same.new (o:=.lst []) hp
     refine rE (sp _ _ hst5) ac ?_
     have s5:Same H (upd H4 sr (.lst (ej z.length (stay z L w)))):=s4.put fsr
     refine ⟨_,_,_,_,_,?_,?_,s5.trans sp,sp _ _ ac,rfl⟩
     ·rw[jp]; lia
     ·rw[Bool.eq_iff_iff,decide_eq_true_eq]
      cases hi with
      | nil=>simp at hlen; simp[hlen]
      | cons k hi=>simp at hlen; simp; lia
  ·subst hb
   have hDue:due z m=(List.range z.length).map fun k=>if decide (k∈L)=true then cI (sz z k*w) (aW z L) else (1,1):=by
    unfold due
    rw[if_neg c']
    by_cases hm:m=0
    ·obtain ⟨_,hw,hL⟩:=hm0 hm
     rw[if_pos hm,hw,hL]
     refine List.ext_getElem? fun i=>?_
     rw[List.getElem?_map,List.getElem?_map]
     by_cases hi:i<z.length
     ·rw[List.getElem?_range hi,List.getElem?_eq_getElem hi]
      show some ((0:Int),(1:Int))=some _
      congr 1
      show ((0:Int),(1:Int))=if decide (i∈List.range z.length)=true then cI (sz z i*0) (aW z (List.range z.length)) else (1,1)
      rw[if_pos (decide_eq_true (mem_range.mpr hi))]
      refine (ma ?_).symm
      have:=eu z (List.range z.length) fun k hk=>hzs k (mem_range.mp hk)
      rw[length_range]at this
      lia
     ·rw[List.getElem?_eq_none (by lia),List.getElem?_eq_none (by rw[length_range]; lia)]
      rfl
    ·have hfin:=gt (hms hm rfl)
     rw[hmf hm]at hfin
     rw[if_neg hm,hfin]
   have hS:0<aW z L:=by have:=eu z L fun k hk=>hzs k (R.sub k hk); have:=R.pos; lia
   have hSb:Bt 40 (aW z L):=by
    have:=gs z 24000000 L fun k hk=>hzh k (R.sub k hk)
    unfold Bt
    have e40:(2:Nat) ^ 40=1099511627776:=by decide
    rw[e40]
    lia
   refine ⟨_,.inl (SqL.of hl'),_,rfl,by rw[length_map]; lia,by rw[length_map]; lia,fun D hD=>?_⟩
   let Pw10:PvL:=fun j ys H2=>j≤z.length∧H2=upd H' D (.lst ys)∧ys=((((List.range z.length).take j).filter fun k=>decide (k∈L)).map (sz z)).map V.int
   refine dO (lo:=0) (n:=(z.map V.int).length) Pw10 ⟨Nat.zero_le _,rfl,rfl⟩ (fun j ys H2 h=>by rw[h.2.1]; exact ac) ?_ ?_
   ·rintro j ys H2 P' hj ⟨hj2,rfl,rfl⟩ hP
    rw[length_map]at hj
    have et:=jM (L:=L) hj
    refine ⟨⟨rfl,rfl,trivial⟩,.inl ⟨sr,_,_,_,rfl,rfl,SqL.of (by rw[ag (am hs' hD)]; exact hs'),gJ L hj,?_⟩⟩
    refine ifB (fun c=>?_) (fun c=>?_)
    ·have c':j∈L:=by simpa using c
     rw[if_pos c']at et
     refine .inl ⟨l,_,_,_,rfl,rfl,SqL.of (by rw[ag (am hl' hD)]; exact hl'),jY hj,ac,?_,hP _ _ ⟨hj,cv,?_⟩⟩
     ·rw[length_map,length_map]
      have:=length_filter_le (fun k=>decide (k∈L)) ((List.range z.length).take j)
      rw[length_take]at this
      lia
     ·rw[et,map_append,map_append]; rfl
    ·have c':j ∉ L:=by simpa using c
     rw[if_neg c',append_nil]at et
     exact hP _ _ ⟨hj,rfl,by rw[et]⟩
   rintro ys H2 ⟨_,rfl,rfl⟩
   have eS:(((List.range z.length).take (z.map V.int).length).filter fun k=>decide (k∈L))=L:=by
    rw[length_map,take_of_length_le (by rw[length_range]; exact Nat.le_refl _)]
    exact R.fil.symm
   rw[eS]
   refine ⟨D,L.map (sz z),rfl,SqL.of ac,?_⟩
   have sD:Same H' (upd H' D (.lst ((L.map (sz z)).map V.int))):=Same.new hD
   generalize upd H' D (.lst ((L.map (sz z)).map V.int))=H3 at sD
   have hl3:=sD _ _ hl'
   have hs3:=sD _ _ hs'
   refine ⟨Nat.zero_le _,fun fd hfd=>?_⟩
   have s3:Same H H3:=sm.trans sD
   have ffd:H fd=none:=s3.free hfd
   have hs4:=Same.new (o:=.lst []) hfd _ _ hs3
   refine ⟨_,.inl (SqL.of (Same.new hfd _ _ hl3)),_,rfl,by rw[length_map]; lia,by rw[length_map]; lia,?_⟩
   let Pw11:PvS:=fun i σ H2=>∃(ys:List V) (x6:Option V),i≤z.length∧Same H H2∧H2 sr=some (.lst (ej z.length L))∧H2 fd=some (.lst ys)∧AllF K H2 ((due z m).take i) ys∧σ=[some (.ref l),some (.int w),some (.ref sr),some (.bl false),some (.int (L.map (sz z)).sum),x5,x6,some (.ref fd)]
   refine jA (lo:=0) (n:=(z.map V.int).length) Pw11 ⟨[],x6,Nat.zero_le _,s3.trans (Same.new hfd),hs4,ac,by rw[take_zero]; exact .nil,rfl⟩ ?_ ?_
   ·rintro i σ H2 hi ⟨ys,x6,hi2,t1,hs2,hf2,hA,rfl⟩
    rw[length_map]at hi
    have hk0:=hzs i hi
    have hk1:=hzh i hi
    have yl:ys.length=i:=by rw[← hA.len,length_take,cu]; lia
    refine ⟨.inl ⟨rfl,_,SqL.of hf2⟩,aP _ _,fun p hp=>?_⟩
    have sp:=Same.new (o:=.tup [.int 1,.int 1]) hp
    have hf3:=sp _ _ hf2
    refine ⟨fd,_,_,rfl,rfl,hf3,by lia,?_⟩
    have nsf:sr≠fd:=fun e=>by
     rw[e,hf2]at hs2
     have hfdsr:H3 sr=none:=by rw[e]; exact hfd
     rw[hs3]at hfdsr
     cases hfdsr
    have hs5:(upd (upd H2 p (.tup [.int 1,.int 1])) fd (.lst (ys++[.ref p]))) sr=some (.lst (ej z.length L)):=by rw[ag nsf]; exact sp _ _ hs2
    have t5:Same H (upd (upd H2 p (.tup [.int 1,.int 1])) fd (.lst (ys++[.ref p]))):=(t1.trans sp).put ffd
    have tk5:TK H2 (upd (upd H2 p (.tup [.int 1,.int 1])) fd (.lst (ys++[.ref p]))):=sp.tk.trans (TK.lst hf3)
    have et:(due z m).take (i+1)=(due z m).take i++[if decide (i∈L)=true then cI (sz z i*w) (aW z L) else (1,1)]:=by
     rw[take_add_one]
     congr 1
     rw[hDue,List.getElem?_map,List.getElem?_range hi]
     rfl
    have pt:PT K (upd (upd H2 p (.tup [.int 1,.int 1])) fd (.lst (ys++[.ref p]))) p (1,1):=.inl (TK.lst hf3 _ _ ac)
    have hfd5:(upd (upd H2 p (.tup [.int 1,.int 1])) fd (.lst (ys++[.ref p]))) fd=some (.lst (ys++[.ref p])):=ac
    generalize upd (upd H2 p (.tup [.int 1,.int 1])) fd (.lst (ys++[.ref p]))=H5 at hs5 t5 tk5 pt hfd5
    refine .inl ⟨sr,_,_,_,rfl,rfl,SqL.of hs5,gJ L hi,?_⟩
    refine ifB (fun c=>?_) (fun c=>?_)
    ·have c':i∈L:=by simpa using c
     rw[if_pos (decide_eq_true c')]at et
     refine .inl ⟨l,_,_,_,rfl,rfl,SqL.of (t5 _ _ hl),jY hi,crB (by lia) (by lia),⟨_,_,rfl,hS,((show Bt 30 (sz z i) by unfold Bt; lia).mul (show Bt 5 w by unfold Bt; lia)).mono (by decide),hSb.mono (by decide),fun H6 p6 s6 e6=>?_⟩⟩
     have hf6:=s6 _ _ hfd5
     refine ⟨fd,_,_,i,rfl,rfl,hf6,?_,?_⟩
     ·unfold ixN
      rw[length_append,length_cons,length_nil,if_pos (by lia),if_pos (by lia)]
      simp
     ·have eset:(ys++[V.ref p]).set i (.ref p6)=ys++[.ref p6]:=by
       rw[← yl]
       simp
      rw[eset]
      refine ⟨_,_,hi,(t5.trans s6).put ffd,by rw[ag nsf]; exact s6 _ _ hs5,ac,?_,rfl⟩
      rw[et]
      exact AllF.snoc ⟨p6,rfl,.inl (TK.lst hf6 _ _ e6)⟩ (hA.tk ((tk5.trans s6.tk).trans (TK.lst hf6)))
    ·have c':i ∉ L:=by simpa using c
     rw[if_neg (by simp[c'])]at et
     refine ⟨_,_,hi,t5,hs5,hfd5,?_,rfl⟩
     rw[et]
     exact AllF.snoc ⟨p,rfl,pt⟩ (hA.tk tk5)
   ·rintro σ H2 ⟨ys,x6,_,t1,hs2,hf2,hA,rfl⟩
    rw[take_of_length_le (by rw[cu,length_map]; exact Nat.le_refl _)]at hA
    exact q _ fd ys t1 ffd hf2 hA
end
abbrev Lm:Nat:=2 ^ 980
theorem p9{D B:Nat}(hB:0<B)(h:D*B<Lm):D<Lm:=Nat.lt_of_le_of_lt (Nat.le_mul_of_pos_right D hB) h
theorem lb{B:Nat}(h:B≤1000000000):B<Lm:=Nat.lt_of_le_of_lt h (by decide +kernel)
theorem xZ{B:Nat}(h:B≤1000000000):2*B<Lm:=Nat.lt_of_le_of_lt (show 2*B≤2000000000 by lia) (by decide +kernel)
def PQ(K:Frag)(H:Hp)(z:Nat×Rat)(x:V):Prop:=∃ p v,x=.ref p∧H p=some (.tup [.int (z.1:Nat),v])∧IsQ K H z.2 v
def EQ(K:Frag)(H:Hp)(z:Nat×(Rat×Rat))(x:V):Prop:=∃ p u s,x=.ref p∧H p=some (.tup [.int (z.1:Nat),u,s])∧IsQ K H z.2.1 u∧IsQ K H z.2.2 s
theorem PQ.tk{K:Frag}{H H':Hp}{z:Nat×Rat}{x:V}(k:TK H H')(h:PQ K H z x):PQ K H' z x:=let ⟨p,v,e,h1,h2⟩:=h; ⟨p,v,e,k _ _ h1,h2.tk k⟩
theorem EQ.tk{K:Frag}{H H':Hp}{z:Nat×(Rat×Rat)}{x:V}(k:TK H H')(h:EQ K H z x):EQ K H' z x:=let ⟨p,u,s,e,h1,h2,h3⟩:=h; ⟨p,u,s,e,k _ _ h1,h2.tk k,h3.tk k⟩
theorem aH{α β:Type}{R R':α→β→Prop}(f:∀ x y,R x y→R' x y):∀{xs:List α}{ys:List β},Paired R xs ys→Paired R' xs ys:=fun h=>Paired.mapP h f
theorem cJ{α β:Type}{R:α→β→Prop}{x:α}{y:β}(h:R x y):∀{xs:List α}{ys:List β},Paired R xs ys→Paired R (xs++[x]) (ys++[y]):=fun g=>PySem.Paired.snoc g h
theorem mM{α β:Type}{R:α→β→Prop}:∀{xs xs':List α}{ys ys':List β},Paired R xs ys→Paired R xs' ys'→Paired R (xs++xs') (ys++ys'):=fun h g=>by
 induction h with
 | nil=>exact g
 | cons r _ ih=>exact .cons r ih
theorem jJ{h c:Rat}{us:Rat×Rat}(z:h+c<1):cZ h us c=(us.1*(h/(h+c)),us.2):=by unfold cZ; rw[if_pos z]
theorem jE{h c:Rat}{us:Rat×Rat}(z:¬h+c<1):cZ h us c=(us.1*((1 - h)/(2 - (h+c))),us.2+us.1*((1 - c)/(2 - (h+c)))):=by unfold cZ; rw[if_neg z]
theorem sM{h c:Rat}(z:h+c<1):us0 h c=(c/(h+c),0):=by unfold us0; rw[if_pos z]
theorem sS{h c:Rat}(z:¬h+c<1):us0 h c=((1 - c)/(2 - (h+c)),(1 - h)/(2 - (h+c))):=by unfold us0; rw[if_neg z]
structure Hc(B:Nat)(h c:Rat):Prop where
 B0:0<B
 B1:B≤1000000000
 hB:Bq B h
 cB:Bq B c
 h1:h<1
 c0:0<c
 c1:c<1
theorem Hc.bh{B:Nat}{h c:Rat}(H:Hc B h c):Bb h:=H.hB.bb H.B0 (lb H.B1)
theorem Hc.bc{B:Nat}{h c:Rat}(H:Hc B h c):Bb c:=H.cB.bb H.B0 (lb H.B1)
theorem Hc.bs{B:Nat}{h c:Rat}(H:Hc B h c):Bb (h+c):=(wO H.hB H.cB).bb H.B0 (lb H.B1)
theorem Hc.bs1{B:Nat}{h c:Rat}(H:Hc B h c):Bb (h+c - 1):=(uA H.hB H.cB).bb H.B0 (lb H.B1)
theorem Hc.bs2{B:Nat}{h c:Rat}(H:Hc B h c):Bb (2 - (h+c)):=(uY H.hB H.cB).bb H.B0 (lb H.B1)
theorem Hc.b1c{B:Nat}{h c:Rat}(H:Hc B h c):Bb (1 - c):=(rF H.cB).bb H.B0 (lb H.B1)
theorem Hc.b1h{B:Nat}{h c:Rat}(H:Hc B h c):Bb (1 - h):=(rF H.hB).bb H.B0 (lb H.B1)
theorem Hc.step{B:Nat}{h c:Rat}(H:Hc B h c):∃ T:Nat,0<T∧T≤2*B∧(h+c<1→Bq T (h/(h+c))∧Bq T (c/(h+c)))∧(¬h+c<1→Bq T ((1 - c)/(2 - (h+c)))∧Bq T ((1 - h)/(2 - (h+c)))):=qV H.B0 H.hB H.cB H.h1 H.c0 H.c1
theorem bb0:Bb 0:=⟨by show Bt 1000 0; unfold Bt; decide,by show Bt 1000 1; unfold Bt; decide⟩
theorem bb1:Bb 1:=⟨by show Bt 1000 1; unfold Bt; decide,by show Bt 1000 1; unfold Bt; decide⟩
theorem bb2:Bb 2:=⟨by show Bt 1000 2; unfold Bt; decide,by show Bt 1000 1; unfold Bt; decide⟩
inductive spBoth(K:Frag)(vs:List V)(H:Hp)(Q:VK)(_E:XK):Prop
 | mk(xu xs xh xc:V)(us:Rat×Rat)(h c:Rat)(D B:Nat)(h0:vs=[xu,xs,xh,xc])(h1:IsQ K H us.1 xu)(h2:IsQ K H us.2 xs)(h3:IsQ K H h xh)(h4:IsQ K H c xc)(h5:Hc B h c)(h6:Pu D us)(h7:0<D)(h8:D*B<Lm)(h9:∀ H' z,Same H H'→IsQ K H' (bk us h c) z→Q z H'):spBoth K vs H Q _E
inductive spHeld(K:Frag)(vs:List V)(H:Hp)(Q:VK)(_E:XK):Prop
 | mk(xh xc:V)(h c:Rat)(B:Nat)(h0:vs=[xh,xc])(h1:IsQ K H h xh)(h2:IsQ K H c xc)(h3:Hc B h c)(h4:∀ H' z,Same H H'→IsQ K H' (hb h c) z→Q z H'):spHeld K vs H Q _E
inductive spBeh(K:Frag)(vs:List V)(H:Hp)(Q:VK)(_E:XK):Prop
 | mk(le:Addr)(xh xc:V)(p:Nat)(h c:Rat)(es:Er)(xs:List V)(D B:Nat)(h0:vs=[.ref le,xh,.int (p:Nat),xc])(h1:H le=some (.lst xs))(h2:Paired (EQ K H) es xs)(h3:es.length≤24)(h4:IsQ K H h xh)(h5:IsQ K H c xc)(h6:Hc B h c)(h7:(∀ z∈es,Pu D z.2))(h8:0<D)(h9:D*(2*B)<Lm)(h10:∀ H' l ys,Same H H'→H l=none→H' l=some (.lst ys)→Paired (EQ K H') (es.map (fun z=>(z.1,cZ h z.2 c))++[(p,us0 h c)]) ys→Q (.ref l) H'):spBeh K vs H Q _E
section
variable {P:Program}{w:World}{K:Frag}{mg:Str→Option Value}{base:Heap}{a:Ad}
theorem fK(T:Txt K mg a){H:Hp}:IsQ K H 1 (.ref a.k_WHOLE):=⟨_,rfl,.inr T.t_WHOLE⟩
theorem iK(T:Txt K mg a){H:Hp}:IsQ K H 0 (.ref a.k_NOUGHT):=⟨_,rfl,.inr T.t_NOUGHT⟩
theorem uO(T:Txt K mg a){H:Hp}:IsQ K H 2 (.ref a.k_TWICE):=⟨_,rfl,.inr T.t_TWICE⟩
theorem tD(T:Txt K mg a):FnOk P w K mg base CX0 4 a.f_U a.d_U ["up","sure","held","chance"] (spBoth K):=by
 have G_ak:FnOk P w K mg base CX0 3 _ _ _ (spAri (· + ·) (fun _=>True) K):=j4 T
 have G_ac:FnOk P w K mg base CX0 3 _ _ _ (spAri (· - ·) (fun _=>True) K):=iO T
 have G_Y:FnOk P w K mg base CX0 3 _ _ _ (spAri (· * ·) (fun _=>True) K):=iX T
 have G_al:FnOk P w K mg base CX0 3 _ _ _ _:=(i7 T).mono (by decide)
 refine T.F_U.ok sc_U (fun vs H Q E h=>?_) (fun cdv A outer s H vs Q E hr h=>?_)
 ·obtain ⟨xu,xs,xh,xc,us,h,c,D,B,rfl,_⟩:=h; rfl
 ·obtain ⟨xu,xs,xh,xc,us,h,c,D,B,rfl,hu,hs,hh,hc,hcB,hP,hD,hl,q⟩:=h
  refine ⟨_,(af (av (i:=4) sc_U.nd rfl (Or.inl rfl) (ao G_ac hr rfl T.m_ac T.F_ac.kp T.B_ac .nil aq (aa (ao G_ak hr rfl T.m_ak T.F_ak.kp T.B_ak .nil aq (aa (vr 2) (aa (vr 3) ae))) (aa (cN rfl T.g_WHOLE) ae)))) (af (av (i:=5) sc_U.nd rfl (Or.inl rfl) (ao G_Y hr rfl T.m_Y T.F_Y.kp T.B_Y .nil aq (aa (vr 1) (aa (vr 3) ae)))) (ak (aw (iJ (dN (ao G_al hr rfl T.m_al T.F_al.kp T.B_al .nil aq (aa (cN rfl T.g_NOUGHT) (aa (vr 4) ae)))) (ao G_ak hr rfl T.m_ak T.F_ak.kp T.B_ak .nil aq (aa (vr 5) (aa (ao G_Y hr rfl T.m_Y T.F_Y.kp T.B_Y .nil aq (aa (vr 0) (aa (vr 4) ae))) ae))) (vr 5)))))),iH ?_⟩
  intro zt3 zt2
  obtain ⟨k1,k2,k3⟩:=hP.bk hcB.cB hcB.hB hcB.h1 hcB.c1
  have lD:=p9 hcB.B0 hl
  have DB:0<D*B:=Nat.mul_pos hD hcB.B0
  refine ⟨_,_,h,c,rfl,hh,hc,hcB.bh,hcB.bc,trivial,fun H1 z1 s1 q1=>?_⟩
  refine ⟨_,_,h+c,1,rfl,q1,fK T,hcB.bs,bb1,trivial,fun H2 z2 s2 q2=>?_⟩
  have s12:=s1.trans s2
  refine ⟨_,_,us.2,c,rfl,hs.same s12,hc.same s12,hP.2.1.bb hD lD,hcB.bc,trivial,fun H3 z3 s3 q3=>?_⟩
  have s13:=s12.trans s3
  refine ⟨_,_,0,h+c - 1,rfl,iK T,q2.same s3,bb0,hcB.bs1,?_⟩
  refine ifC (fun z=>?_) (fun z=>?_)
  ·have z:0<h+c - 1:=z
   refine ⟨_,_,us.1,h+c - 1,rfl,hu.same s13,q2.same s3,hP.1.bb hD lD,hcB.bs1,trivial,fun H4 z4 s4 q4=>?_⟩
   refine ⟨_,_,us.2*c,us.1*(h+c - 1),rfl,q3.same s4,q4,k1.bb DB hl,(k2 z).2.bb DB hl,trivial,fun H5 z5 s5 q5=>?_⟩
   refine q _ _ (s13.trans (s4.trans s5)) ?_
   unfold bk
   rw[if_pos z]
   exact q5
  ·have z:¬0<h+c - 1:=z
   refine q _ _ s13 ?_
   unfold bk
   rw[if_neg z]
   exact q3
theorem uP(T:Txt K mg a):FnOk P w K mg base CX0 4 a.f_H a.d_H ["held","chance"] (spHeld K):=by
 have G_ak:FnOk P w K mg base CX0 3 _ _ _ (spAri (· + ·) (fun _=>True) K):=j4 T
 have G_ac:FnOk P w K mg base CX0 3 _ _ _ (spAri (· - ·) (fun _=>True) K):=iO T
 have G_al:FnOk P w K mg base CX0 3 _ _ _ _:=(i7 T).mono (by decide)
 refine T.F_H.ok sc_H (fun vs H Q E h=>?_) (fun cdv A outer s H vs Q E hr h=>?_)
 ·obtain ⟨xh,xc,h,c,B,rfl,_⟩:=h; rfl
 ·obtain ⟨xh,xc,h,c,B,rfl,hh,hc,hcB,q⟩:=h
  refine ⟨_,(af (av (i:=2) sc_H.nd rfl (Or.inl rfl) (ao G_ak hr rfl T.m_ak T.F_ak.kp T.B_ak .nil aq (aa (vr 0) (aa (vr 1) ae)))) (ak (aw (iJ (dN (ao G_al hr rfl T.m_al T.F_al.kp T.B_al .nil aq (aa (vr 2) (aa (cN rfl T.g_WHOLE) ae)))) (vr 2) (ao G_ac hr rfl T.m_ac T.F_ac.kp T.B_ac .nil aq (aa (vr 2) (aa (cN rfl T.g_WHOLE) ae))))))),fi ?_⟩
  intro zt2
  refine ⟨_,_,h,c,rfl,hh,hc,hcB.bh,hcB.bc,trivial,fun H1 z1 s1 q1=>?_⟩
  refine ⟨_,_,h+c,1,rfl,q1,fK T,hcB.bs,bb1,?_⟩
  refine ifC (fun z=>?_) (fun z=>?_)
  ·have z:h+c<1:=z
   refine q _ _ s1 ?_
   unfold hb
   rw[if_pos z]
   exact q1
  ·have z:¬h+c<1:=z
   refine ⟨_,_,h+c,1,rfl,q1,fK T,hcB.bs,bb1,trivial,fun H2 z2 s2 q2=>?_⟩
   refine q _ _ (s1.trans s2) ?_
   unfold hb
   rw[if_neg z]
   exact q2
theorem wK(T:Txt K mg a):FnOk P w K mg base CX0 4 a.f_w a.d_w ["earlier","held","place","chance"] (spBeh K):=by
 have G_ak:FnOk P w K mg base CX0 3 _ _ _ (spAri (· + ·) (fun _=>True) K):=j4 T
 have G_ac:FnOk P w K mg base CX0 3 _ _ _ (spAri (· - ·) (fun _=>True) K):=iO T
 have G_Y:FnOk P w K mg base CX0 3 _ _ _ (spAri (· * ·) (fun _=>True) K):=iX T
 have G_ar:FnOk P w K mg base CX0 3 _ _ _ (spAri (· / ·) (fun q=>0<q) K):=tW T
 have G_al:FnOk P w K mg base CX0 3 _ _ _ _:=(i7 T).mono (by decide)
 refine T.F_w.ok sc_w (fun vs H Q E h=>?_) (fun cdv A outer s H vs Q E hr h=>?_)
 ·obtain ⟨le,xh,xc,p,h,c,es,xs,D,B,rfl,_⟩:=h; rfl
 ·obtain ⟨le,xh,xc,p,h,c,es,xs,D,B,rfl,hle,hE,hl24,hh,hc,hcB,hP,hD,hlm,q⟩:=h
  have small:sizeLine=16777216:=sizeLine_eq
  refine ⟨_,(af (av (i:=4) sc_w.nd rfl (Or.inl rfl) (ao G_ak hr rfl T.m_ak T.F_ak.kp T.B_ak .nil aq (aa (vr 1) (aa (vr 3) ae)))) (af (bJ (dN (ao G_al hr rfl T.m_al T.F_al.kp T.B_al .nil aq (aa (vr 4) (aa (cN rfl T.g_WHOLE) ae)))) (af (av (i:=5) sc_w.nd rfl (Or.inr rfl) (ao G_ar hr rfl T.m_ar T.F_ar.kp T.B_ar .nil aq (aa (vr 1) (aa (vr 4) ae)))) (af (fg rfl (i:=6) sc_w.nd rfl rfl (by with_unfolding_all rfl) (N:=["one","up","sure","stays"]) (ix:=[none,none,none,some 5]) ⟨rfl,rfl,rfl,rfl,⟨rfl,rfl,rfl,trivial⟩⟩ (bj (vr 0)) ⟨fun C s H fp=>(dF (K:=K) (n:=3) rfl rfl (ay (ap (i:=0) (show List.Nodup (["one","up","sure","stays"]:List Str) by decide +kernel) rfl (Or.inl rfl)) (ay (ap (i:=1) (show List.Nodup (["one","up","sure","stays"]:List Str) by decide +kernel) rfl (Or.inl rfl)) (ay (ap (i:=2) (show List.Nodup (["one","up","sure","stays"]:List Str) by decide +kernel) rfl (Or.inl rfl)) bA)))),fun C s H fp=>bi,fun C s H fp=>(aM (aa (vr 0) (aa (ao G_Y hr rfl T.m_Y T.F_Y.kp T.B_Y .nil aq (aa (vr 1) (aa (vr 3) ae))) (aa (vr 2) ae))))⟩) (ak (aw (au iE (vr 6) (aY (aa (aM (aa (vr 2) (aa (ao G_ar hr rfl T.m_ar T.F_ar.kp T.B_ar .nil aq (aa (vr 3) (aa (vr 4) ae))) (aa (cN rfl T.g_NOUGHT) ae)))) ae))))))) aJ) (af (av (i:=7) sc_w.nd rfl (Or.inl rfl) (ao G_ac hr rfl T.m_ac T.F_ac.kp T.B_ac .nil aq (aa (cN rfl T.g_TWICE) (aa (vr 4) ae)))) (af (av (i:=8) sc_w.nd rfl (Or.inr rfl) (ao G_ar hr rfl T.m_ar T.F_ar.kp T.B_ar .nil aq (aa (ao G_ac hr rfl T.m_ac T.F_ac.kp T.B_ac .nil aq (aa (cN rfl T.g_WHOLE) (aa (vr 3) ae))) (aa (vr 7) ae)))) (af (av (i:=9) sc_w.nd rfl (Or.inr rfl) (ao G_ar hr rfl T.m_ar T.F_ar.kp T.B_ar .nil aq (aa (ao G_ac hr rfl T.m_ac T.F_ac.kp T.B_ac .nil aq (aa (cN rfl T.g_WHOLE) (aa (vr 1) ae))) (aa (vr 7) ae)))) (af (fg rfl (i:=6) sc_w.nd rfl rfl (by with_unfolding_all rfl) (N:=["one","up","sure","back","ahead"]) (ix:=[none,none,none,some 9,some 8]) ⟨rfl,rfl,rfl,rfl,⟨rfl,rfl,rfl,⟨rfl,rfl,rfl,trivial⟩⟩⟩ (bj (vr 0)) ⟨fun C s H fp=>(dF (K:=K) (n:=3) rfl rfl (ay (ap (i:=0) (show List.Nodup (["one","up","sure","back","ahead"]:List Str) by decide +kernel) rfl (Or.inl rfl)) (ay (ap (i:=1) (show List.Nodup (["one","up","sure","back","ahead"]:List Str) by decide +kernel) rfl (Or.inl rfl)) (ay (ap (i:=2) (show List.Nodup (["one","up","sure","back","ahead"]:List Str) by decide +kernel) rfl (Or.inl rfl)) bA)))),fun C s H fp=>bi,fun C s H fp=>(aM (aa (vr 0) (aa (ao G_Y hr rfl T.m_Y T.F_Y.kp T.B_Y .nil aq (aa (vr 1) (aa (vr 3) ae))) (aa (ao G_ak hr rfl T.m_ak T.F_ak.kp T.B_ak .nil aq (aa (vr 2) (aa (ao G_Y hr rfl T.m_Y T.F_Y.kp T.B_Y .nil aq (aa (vr 1) (aa (vr 4) ae))) ae))) ae))))⟩) (ak (aw (au iE (vr 6) (aY (aa (aM (aa (vr 2) (aa (vr 8) (aa (vr 9) ae)))) ae))))))))))),xD ?_⟩
  intro zt7 zt6 zt5 zt4 zt3 zt2
  obtain ⟨TT,t0,t1,hT⟩:=hcB.step
  have h0:=hcB.hB.1
  have lD:D<Lm:=p9 (show 0<2*B by have:=hcB.B0; lia) hlm
  have lT:TT<Lm:=Nat.lt_of_le_of_lt t1 (xZ hcB.B1)
  have lDT:D*TT<Lm:=Nat.lt_of_le_of_lt (Nat.mul_le_mul_left D t1) hlm
  have DT0:0<D*TT:=Nat.mul_pos hD t0
  have hxl:xs.length=es.length:=(Paired.length hE).symm
  refine ⟨_,_,h,c,rfl,hh,hc,hcB.bh,hcB.bc,trivial,fun H1 z1 s1 q1=>?_⟩
  refine ⟨_,_,h+c,1,rfl,q1,fK T,hcB.bs,bb1,?_⟩
  have sp:0<h+c:=by have:=hcB.c0; grind
  refine ifC (fun z=>?_) (fun z=>?_)
  ·have z:h+c<1:=z
   obtain ⟨t2,t3⟩:=hT.1 z
   refine ⟨_,_,h,h+c,rfl,hh.same s1,q1,hcB.bh,hcB.bs,sp,fun H2 z2 s2 q2=>?_⟩
   have s02:=s1.trans s2
   have hle2:=s02 _ _ hle
   have hE2:=aH (fun z x (h:EQ K H z x)=>h.tk s02.tk) hE
   refine .inl ⟨⟨_,SqL.of hle2⟩,fun E0 hE0=>?_⟩
   let Pw1:PvL:=fun i ys H'=>i≤xs.length∧Same H2 H'∧H' E0=some (.lst ys)∧Paired (EQ K H') ((es.take i).map fun z=>(z.1,cZ h z.2 c)) ys
   refine aK (K:=K) (a:=le) (xs:=xs) Pw1 ⟨Nat.zero_le _,Same.new hE0,ac,.nil⟩ (fun i ys H' h=>SqL.of (h.2.1 _ _ hle2)) (fun i ys H' h=>h.2.2.1) ?_ ?_
   ·rintro i y ys H' P' hy ⟨hi,s3,hD3,hys⟩ hP'
    obtain ⟨⟨o,us⟩,hei,pp,u,sv,rfl,g1,g2,g3⟩:=cm (aH (fun z x (h:EQ K H2 z x)=>h.tk s3.tk) hE2) hy
    have ilt:i<xs.length:=(List.getElem?_eq_some_iff.mp hy).1
    have hPi:=hP _ (List.mem_of_getElem? hei)
    have yl:ys.length≤24:=by rw[← Paired.length hys,length_map,length_take]; lia
    refine ⟨pp,_,rfl,SqT.of g1,rfl,_,_,rfl,_,_,rfl,_,_,rfl,rfl,⟨rfl,trivial⟩,?_⟩
    refine ⟨_,_,us.1,h/(h+c),rfl,g2,q2.same s3,hPi.1.bb hD lD,t2.bb t0 lT,trivial,fun H4 z4 s4 q4=>?_⟩
    refine ⟨(by show 3≤sizeLine; decide),fun np fnp=>?_⟩
    have s5:=Same.new (o:=.tup [.int (o:Nat),z4,sv]) fnp
    have hD5:=s5 _ _ (s4 _ _ hD3)
    have ne:np≠E0:=fun z=>by rw[z,s4 _ _ hD3]at fnp; cases fnp
    have tk5:TK H4 (upd (upd H4 np (.tup [.int (o:Nat),z4,sv])) E0 (.lst (ys++[.ref np]))):=s5.tk.trans (TK.lst hD5)
    refine ⟨hD5,by lia,hP' _ _ ⟨ilt,((s3.trans s4).trans s5).put hE0,ac,?_⟩⟩
    rw[take_add_one,hei,map_append]
    refine cJ ⟨np,z4,sv,rfl,by rw[ag ne]; exact ac,?_,?_⟩ (aH (fun z x (h:EQ K H' z x)=>(h.tk s4.tk).tk tk5) hys)
    ·show IsQ K _ (cZ h us c).1 z4; rw[jJ z]; exact q4.tk tk5
    ·show IsQ K _ (cZ h us c).2 sv; rw[jJ z]; exact (g3.same s4).tk tk5
   ·rintro ys H' ⟨_,s3,hD3,hys⟩
    rw[hxl,take_length]at hys
    have s03:=s02.trans s3
    refine ⟨_,_,c,h+c,rfl,hc.same s03,q1.same (s2.trans s3),hcB.bc,hcB.bs,sp,fun H4 z4 s4 q4=>?_⟩
    refine ⟨(by show 3≤sizeLine; decide),fun np fnp=>?_⟩
    have s5:=Same.new (o:=.tup [.int (p:Nat),z4,.ref a.k_NOUGHT]) fnp
    refine ⟨(by show 1≤sizeLine; decide),fun l1 fl1=>?_⟩
    have s6:=Same.new (o:=.lst [.ref np]) fl1
    have s46:=s4.trans (s5.trans s6)
    have yl:ys.length≤24:=by rw[← Paired.length hys,length_map]; lia
    refine ⟨E0,l1,_,_,rfl,rfl,s46 _ _ hD3,ac,by simp; lia,fun l2 fl2=>?_⟩
    have s7:=Same.new (o:=.lst (ys++[.ref np])) fl2
    have s47:=s46.trans s7
    refine q _ l2 _ (s03.trans s47) ((s03.trans s46).free fl2) ac ?_
    refine cJ ⟨np,z4,_,rfl,(s6.trans s7) _ _ ac,?_,?_⟩ (aH (fun z x (h:EQ K H' z x)=>h.tk s47.tk) hys)
    ·show IsQ K _ (us0 h c).1 z4; rw[sM z]; exact q4.same (s5.trans (s6.trans s7))
    ·show IsQ K _ (us0 h c).2 _; rw[sM z]; exact iK T
  ·have z:¬h+c<1:=z
   obtain ⟨t2,t3⟩:=hT.2 z
   have sp2:0<2 - (h+c):=by have:=hcB.h1; have:=hcB.c1; grind
   refine ⟨_,_,2,h+c,rfl,uO T,q1,bb2,hcB.bs,trivial,fun H2 z2 s2 q2=>?_⟩
   have s02:=s1.trans s2
   refine ⟨_,_,1,c,rfl,fK T,hc.same s02,bb1,hcB.bc,trivial,fun H3 z3 s3 q3=>?_⟩
   refine ⟨_,_,1 - c,2 - (h+c),rfl,q3,q2.same s3,hcB.b1c,hcB.bs2,sp2,fun H4 z4 s4 q4=>?_⟩
   have s04:=s02.trans (s3.trans s4)
   refine ⟨_,_,1,h,rfl,fK T,hh.same s04,bb1,hcB.bh,trivial,fun H5 z5 s5 q5=>?_⟩
   refine ⟨_,_,1 - h,2 - (h+c),rfl,q5,q2.same (s3.trans (s4.trans s5)),hcB.b1h,hcB.bs2,sp2,fun H6 z6 s6 q6=>?_⟩
   have s46:=s5.trans s6
   have s06:=s04.trans s46
   have qa:=q4.same s46
   have hle6:=s06 _ _ hle
   have hE6:=aH (fun z x (h:EQ K H z x)=>h.tk s06.tk) hE
   refine .inl ⟨⟨_,SqL.of hle6⟩,fun E0 hE0=>?_⟩
   let Pw2:PvL:=fun i ys H'=>i≤xs.length∧Same H6 H'∧H' E0=some (.lst ys)∧Paired (EQ K H') ((es.take i).map fun z=>(z.1,cZ h z.2 c)) ys
   refine aK (K:=K) (a:=le) (xs:=xs) Pw2 ⟨Nat.zero_le _,Same.new hE0,ac,.nil⟩ (fun i ys H' h=>SqL.of (h.2.1 _ _ hle6)) (fun i ys H' h=>h.2.2.1) ?_ ?_
   ·rintro i y ys H' P' hy ⟨hi,s7,hD7,hys⟩ hP'
    obtain ⟨⟨o,us⟩,hei,pp,u,sv,rfl,g1,g2,g3⟩:=cm (aH (fun z x (h:EQ K H6 z x)=>h.tk s7.tk) hE6) hy
    have ilt:i<xs.length:=(List.getElem?_eq_some_iff.mp hy).1
    have hPi:=hP _ (List.mem_of_getElem? hei)
    have yl:ys.length≤24:=by rw[← Paired.length hys,length_map,length_take]; lia
    refine ⟨pp,_,rfl,SqT.of g1,rfl,_,_,rfl,_,_,rfl,_,_,rfl,rfl,⟨rfl,rfl,trivial⟩,?_⟩
    refine ⟨_,_,us.1,(1 - h)/(2 - (h+c)),rfl,g2,q6.same s7,hPi.1.bb hD lD,t3.bb t0 lT,trivial,fun H8 z8 s8 q8=>?_⟩
    refine ⟨_,_,us.1,(1 - c)/(2 - (h+c)),rfl,g2.same s8,qa.same (s7.trans s8),hPi.1.bb hD lD,t2.bb t0 lT,trivial,fun H9 z9 s9 q9=>?_⟩
    refine ⟨_,_,us.2,us.1*((1 - c)/(2 - (h+c))),rfl,g3.same (s8.trans s9),q9,hPi.2.1.bb hD lD,(hPi.1.mul t2).bb DT0 lDT,trivial,fun HA zA sA qA=>?_⟩
    refine ⟨(by show 3≤sizeLine; decide),fun np fnp=>?_⟩
    have s8A:=s8.trans (s9.trans sA)
    have sB:=Same.new (o:=.tup [.int (o:Nat),z8,zA]) fnp
    have hDB:=sB _ _ (s8A _ _ hD7)
    have ne:np≠E0:=fun z=>by rw[z,s8A _ _ hD7]at fnp; cases fnp
    have tkB:TK HA (upd (upd HA np (.tup [.int (o:Nat),z8,zA])) E0 (.lst (ys++[.ref np]))):=sB.tk.trans (TK.lst hDB)
    refine ⟨hDB,by lia,hP' _ _ ⟨ilt,((s7.trans s8A).trans sB).put hE0,ac,?_⟩⟩
    rw[take_add_one,hei,map_append]
    refine cJ ⟨np,z8,zA,rfl,by rw[ag ne]; exact ac,?_,?_⟩ (aH (fun z x (h:EQ K H' z x)=>(h.tk s8A.tk).tk tkB) hys)
    ·show IsQ K _ (cZ h us c).1 z8; rw[jE z]; exact (q8.same (s9.trans sA)).tk tkB
    ·show IsQ K _ (cZ h us c).2 zA; rw[jE z]; exact qA.tk tkB
   ·rintro ys H' ⟨_,s7,hD7,hys⟩
    rw[hxl,take_length]at hys
    have s07:=s06.trans s7
    refine ⟨(by show 3≤sizeLine; decide),fun np fnp=>?_⟩
    have s8:=Same.new (o:=.tup [.int (p:Nat),z4,z6]) fnp
    refine ⟨(by show 1≤sizeLine; decide),fun l1 fl1=>?_⟩
    have s9:=Same.new (o:=.lst [.ref np]) fl1
    have s89:=s8.trans s9
    have yl:ys.length≤24:=by rw[← Paired.length hys,length_map]; lia
    refine ⟨E0,l1,_,_,rfl,rfl,s89 _ _ hD7,ac,by simp; lia,fun l2 fl2=>?_⟩
    have sA:=Same.new (o:=.lst (ys++[.ref np])) fl2
    have s8A:=s89.trans sA
    refine q _ l2 _ (s07.trans s8A) ((s07.trans s89).free fl2) ac ?_
    refine cJ ⟨np,z4,z6,rfl,(s9.trans sA) _ _ ac,?_,?_⟩ (aH (fun z x (h:EQ K H' z x)=>h.tk s8A.tk) hys)
    ·show IsQ K _ (us0 h c).1 z4; rw[sS z]; exact qa.same (s7.trans s8A)
    ·show IsQ K _ (us0 h c).2 z6; rw[sS z]; exact q6.same (s7.trans s8A)
end
def ky(x y:Nat):List Key:=[.inl (x:Int),.inl (y:Int)]
theorem xg{x y x' y':Nat}(h:ky x y=ky x' y'):x=x'∧y=y':=by
 unfold ky at h
 simp at h
 lia
def DF(K:Frag)(H:Hp)(kvs:List (List Key×V))(f:Fn):Prop:=∀ x y:Nat,(∀ v,f x y=some v→∃ z,eJ kvs (ky x y)=some z∧IsQ K H v z)∧(f x y=none→eJ kvs (ky x y)=none)
theorem DF.tk{K:Frag}{H H':Hp}{kvs:List (List Key×V)}{f:Fn}(k:TK H H')(h:DF K H kvs f):DF K H' kvs f:=fun x y=>⟨fun v e=>let ⟨z,h1,h2⟩:=(h x y).1 v e; ⟨z,h1,h2.tk k⟩,(h x y).2⟩
theorem DF.put{K:Frag}{H:Hp}{kvs:List (List Key×V)}{f:Fn}{x y:Nat}{v:Rat}{z:V}(h:DF K H kvs f)(hz:IsQ K H v z):DF K H (eY kvs (ky x y) z) (mq f x y v):=fun a b=>by
 rw[kW]
 by_cases c:a=x∧b=y
 ·obtain ⟨rfl,rfl⟩:=c
  rw[if_pos rfl,tK]
  exact ⟨(fun v e=>by cases e; exact ⟨z,rfl,hz⟩),(fun e=>by cases e)⟩
 ·rw[if_neg (fun e=>c (xg e)),sV c]
  exact h a b
theorem TK.dT{H:Hp}{d:Addr}{kvs:List (List Key×V)}{o:HO}(h:H d=some (.dT kvs)):TK H (upd H d o):=fun b xs e=>by rw[ag (fun z=>by rw[z,h]at e; cases e)]; exact e
theorem yL{B i:Nat}(hB:B≤1000000000)(hi:i≤24):(2*B) ^ i*(2*B)<Lm:=by
 have h1:2*B≤2 ^ 31:=by lia
 have h2:(2*B) ^ i≤(2 ^ 31) ^ i:=Nat.pow_le_pow_left h1 i
 have h3:(2 ^ 31) ^ i≤(2 ^ 31) ^ 24:=Nat.pow_le_pow_right (by decide) hi
 have h4:(2*B) ^ i*(2*B)≤(2 ^ 31) ^ 24*2 ^ 31:=Nat.mul_le_mul (Nat.le_trans h2 h3) h1
 exact Nat.lt_of_le_of_lt h4 (by decide +kernel)
structure KtS(B:Nat)(L:List (Nat×Rat))(i:Nat)(S:Fn×Er×Rat):Prop where
 eq:S=(L.take i).foldl nB k0
 hB:Bq B S.2.2
 h1:S.2.2<1
 len:S.2.1.length=i
 D:∃ D,0<D∧D≤(2*B) ^ i∧∀ z∈S.2.1,Pu D z.2
theorem KtS.start{B:Nat}{L:List (Nat×Rat)}:KtS B L 0 k0:=⟨rfl,Bq.zero,by show (0:Rat)<1; grind,rfl,1,by decide,by simp,fun z hz=>by cases hz⟩
theorem KtS.step{B:Nat}{L:List (Nat×Rat)}{i:Nat}{S:Fn×Er×Rat}{z:Nat×Rat}(k:KtS B L i S)(B0:0<B)(B1:B≤1000000000)(hz:L[i]? = some z)(hq:Bq B z.2)(hu:Uns z.2):Hc B S.2.2 z.2∧KtS B L (i+1) (nB S z):=by
 have hc:Hc B S.2.2 z.2:=⟨B0,B1,k.hB,hq,k.h1,hu.1,hu.2⟩
 refine ⟨hc,?_,vX k.hB hq k.h1 hu.2,(yq k.hB.1 k.h1 hu.1 hu.2).2,?_,?_⟩
 ·rw[take_add_one,hz,List.foldl_append,← k.eq]; rfl
 ·show (S.2.1.map _++[_]).length=i+1
  rw[length_append,length_map,k.len]; rfl
 ·obtain ⟨D,d0,d1,hP⟩:=k.D
  obtain ⟨T,t0,t1,hT⟩:=hc.step
  refine ⟨D*T,Nat.mul_pos d0 t0,?_,fun y hy=>?_⟩
  ·rw[Nat.pow_succ]; exact Nat.mul_le_mul d1 t1
  ·have hy:y∈S.2.1.map (fun w=>(w.1,cZ S.2.2 w.2 z.2))++[(z.1,us0 S.2.2 z.2)]:=hy
   rcases mem_append.mp hy with m | m
   ·obtain ⟨w,hw,rfl⟩:=mem_map.mp m
    exact (hP w hw).step (B:=B) k.hB.1 k.h1 hu.1 hu.2 hT
   ·cases mem_singleton.mp m
    exact (Pu.new k.hB.1 k.h1 hu.1 hu.2 hT).up D
inductive spKept(K:Frag)(vs:List V)(H:Hp)(Q:VK)(_E:XK):Prop
 | mk(lt:Addr)(xs:List V)(L:List (Nat×Rat))(B:Nat)(h0:vs=[.ref lt])(h1:H lt=some (.lst xs))(h2:Paired (PQ K H) L xs)(h3:L.length≤24)(h4:0<B)(h5:B≤1000000000)(h6:(∀ z∈L,Bq B z.2∧Uns z.2))(h7:∀ H' d kvs,Same H H'→H d=none→H' d=some (.dT kvs)→DF K H' kvs (nj L)→Q (.ref d) H'):spKept K vs H Q _E
section
variable {P:Program}{w:World}{K:Frag}{mg:Str→Option Value}{base:Heap}{a:Ad}
theorem tF(T:Txt K mg a):FnOk P w K mg base CX0 5 a.f_k a.d_k ["told"] (spKept K):=by
 have G_U:FnOk P w K mg base CX0 4 _ _ _ (spBoth K):=tD T
 have G_w:FnOk P w K mg base CX0 4 _ _ _ (spBeh K):=wK T
 have G_H:FnOk P w K mg base CX0 4 _ _ _ (spHeld K):=uP T
 refine T.F_k.ok sc_k (fun vs H Q E h=>?_) (fun cdv A outer s H vs Q E hr h=>?_)
 ·obtain ⟨lt,xs,L,B,rfl,_⟩:=h; rfl
 ·obtain ⟨lt,xs,L,B,rfl,hlt,hL,hl24,B0,B1,hq,q⟩:=h
  have small:sizeLine=16777216:=sizeLine_eq
  have hxl:xs.length=L.length:=(Paired.length hL).symm
  refine ⟨_,(af (av (i:=1) sc_k.nd rfl (Or.inl rfl) rC) (af (av (i:=2) sc_k.nd rfl (Or.inl rfl) (aY ae)) (af (av (i:=3) sc_k.nd rfl (Or.inl rfl) (cN rfl T.g_NOUGHT)) (af (ei PassesOwn.never rfl (bj (vr 0)) (du rfl (ay (ap (i:=4) sc_k.nd rfl (Or.inl rfl)) (ay (ap (i:=5) sc_k.nd rfl (Or.inl rfl)) bA))) (af (ei PassesOwn.never rfl (bj (vr 2)) (du rfl (ay (ap (i:=6) sc_k.nd rfl (Or.inl rfl)) (ay (ap (i:=7) sc_k.nd rfl (Or.inl rfl)) (ay (ap (i:=8) sc_k.nd rfl (Or.inl rfl)) bA)))) (af (nn (oa hr) (vr 1) (aM (aa (vr 6) (aa (vr 4) ae))) (ao G_U hr rfl T.m_U T.F_U.kp T.B_U .nil aq (aa (vr 7) (aa (vr 8) (aa (vr 3) (aa (vr 5) ae))))) rfl) (ak (nn (oa hr) (vr 1) (aM (aa (vr 4) (aa (vr 6) ae))) (uK (oa hr) (vr 1) (aM (aa (vr 6) (aa (vr 4) ae))) (fun _ _=>rfl)) rfl)))) (af (av (i:=2) sc_k.nd rfl (Or.inl rfl) (ao G_w hr rfl T.m_w T.F_w.kp T.B_w .nil aq (aa (vr 2) (aa (vr 3) (aa (vr 4) (aa (vr 5) ae)))))) (ak (av (i:=3) sc_k.nd rfl (Or.inl rfl) (ao G_H hr rfl T.m_H T.F_H.kp T.B_H .nil aq (aa (vr 3) (aa (vr 5) ae)))))))) (ak (aw (vr 1))))))),pW ?_⟩
  intro zt5 zt4 zt3 zt2
  intro d fd
  have s1:=Same.new (o:=.dT []) fd
  have hd1:=ac (H:=H) (a:=d) (o:=.dT [])
  generalize upd H d (.dT [])=H1 at s1 hd1
  refine ⟨Nat.zero_le _,fun le0 fle0=>?_⟩
  have s2:=Same.new (o:=.lst []) fle0
  have s12:=s1.trans s2
  have hd2:=s2 _ _ hd1
  have hle2:=ac (H:=H1) (a:=le0) (o:=.lst [])
  have nl0:H le0=none:=s1.free fle0
  generalize upd H1 le0 (.lst [])=H2 at s2 s12 hd2 hle2
  let Pw1:PvS:=fun i σ H'=>∃(S:Fn×Er×Rat) (kvs:List (List Key×V)) (le:Addr) (es:List V) (xh:V) (x4 x5 x6 x7 x8:Option V),KtS B L i S∧Same H H'∧H' d=some (.dT kvs)∧kvs.length≤48*i∧DF K H' kvs S.1∧H' le=some (.lst es)∧Paired (EQ K H') S.2.1 es∧IsQ K H' S.2.2 xh∧σ=[some (.ref lt),some (.ref d),some (.ref le),some xh,x4,x5,x6,x7,x8]
  refine .inl ⟨⟨_,SqL.of (s12 _ _ hlt)⟩,d6 (K:=K) (a:=lt) (xs:=xs) Pw1
   ⟨k0,[],le0,[],_,none,none,none,none,none,KtS.start,s12,hd2,Nat.zero_le _,(fun x y=>⟨(fun v e=>by cases e),fun _=>rfl⟩),hle2,.nil,iK T,rfl⟩ (fun i σ H' _ h=>?_) ?_ ?_⟩
  ·obtain ⟨S,kvs,le,es,xh,x4,x5,x6,x7,x8,k,sH,_⟩:=h
   exact SqL.of (sH _ _ hlt)
  ·rintro i x σ H' hx ⟨S,kvs,le,es,xh,x4,x5,x6,x7,x8,k,sH,hd,hkl,hF,hle,hE,hh,rfl⟩
   obtain ⟨⟨pl,c⟩,hzi,pp,vc,rfl,g1,g2⟩:=cm (aH (fun z x (h:PQ K H z x)=>h.tk sH.tk) hL) hx
   have ilt:i<L.length:=(List.getElem?_eq_some_iff.mp hzi).1
   obtain ⟨hqz,huz⟩:=hq _ (List.mem_of_getElem? hzi)
   obtain ⟨hc,kn⟩:=k.step B0 B1 hzi hqz huz
   obtain ⟨D,d0,d1,hP⟩:=k.D
   have lDB2:D*(2*B)<Lm:=Nat.lt_of_le_of_lt (Nat.mul_le_mul_right _ d1) (yL B1 (by lia))
   have lDB:D*B<Lm:=Nat.lt_of_le_of_lt (Nat.mul_le_mul_left D (by lia)) lDB2
   have hel:es.length=i:=by rw[← Paired.length hE]; exact k.len
   refine ⟨pp,_,rfl,SqT.of g1,rfl,_,_,rfl,_,_,rfl,rfl,?_⟩
   let Pw2:PvS:=fun j σ H2=>∃(kvs2:List (List Key×V)) (x6 x7 x8:Option V),(∀ b o,b≠d→H' b=some o→H2 b=some o)∧H2 d=some (.dT kvs2)∧kvs2.length≤48*i+2*j∧DF K H2 kvs2 (qK pl S.2.2 c (S.2.1.take j) S.1)∧σ=[some (.ref lt),some (.ref d),some (.ref le),some xh,some (.int (pl:Nat)),some vc,x6,x7,x8]
   refine .inl ⟨⟨_,SqL.of hle⟩,d6 (K:=K) (a:=le) (xs:=es) Pw2
    ⟨kvs,_,_,_,(fun b o _ e=>e),hd,by lia,by rw[take_zero]; exact hF,rfl⟩ (fun j σ H2 _ h=>?_) ?_ ?_⟩
   ·obtain ⟨kvs2,x6,x7,x8,kp,_⟩:=h
    exact SqL.of (kp _ _ (fun z=>by rw[z,hd]at hle; cases hle) hle)
   ·rintro j y σ H2 hy ⟨kvs2,x6,x7,x8,kp,hd2,hk2,hF2,rfl⟩
    have tk2:TK H' H2:=fun b us e=>kp _ _ (fun z=>by rw[z,hd]at e; cases e) e
    obtain ⟨⟨o,us⟩,hej,pe,u,sv,rfl,e1,e2,e3⟩:=cm (aH (fun z x (h:EQ K H' z x)=>h.tk tk2) hE) hy
    have jlt:j<es.length:=(List.getElem?_eq_some_iff.mp hy).1
    refine ⟨pe,_,rfl,SqT.of e1,rfl,_,_,rfl,_,_,rfl,_,_,rfl,rfl,?_⟩
    refine ⟨_,_,_,_,us,S.2.2,c,D,B,rfl,e2,e3,hh.tk tk2,g2.tk tk2,hc,hP _ (List.mem_of_getElem? hej),d0,lDB,fun H3 zb s3 qb=>?_⟩
    refine ⟨aP _ _,fun k1 fk1=>?_⟩
    have s4:=Same.new (o:=.tup [.int (o:Nat),.int (pl:Nat)]) fk1
    have hd4:=(s3.trans s4) _ _ hd2
    have hk1:=ac (H:=H3) (a:=k1) (o:=.tup [.int (o:Nat),.int (pl:Nat)])
    generalize upd H3 k1 (.tup [.int (o:Nat),.int (pl:Nat)])=H4 at s4 hd4 hk1
    refine ⟨d,_,rfl,.inr ⟨kvs2,ky o pl,k1,hd4,rfl,hk1,by lia,rfl⟩,?_⟩
    have hF5:=((hF2.tk (s3.trans s4).tk).put (x:=o) (y:=pl) (qb.same s4)).tk (TK.dT (o:=.dT (eY kvs2 (ky o pl) zb)) hd4)
    have qb5:IsQ K (upd H4 d (.dT (eY kvs2 (ky o pl) zb))) (bk us S.2.2 c) zb:=(qb.same s4).tk (TK.dT hd4)
    have hd5:=ac (H:=H4) (a:=d) (o:=.dT (eY kvs2 (ky o pl) zb))
    have k5:∀ b o',b≠d→H' b=some o'→(upd H4 d (.dT (eY kvs2 (ky o pl) zb))) b=some o':=fun b o' n e=>by rw[ag n]; exact (s3.trans s4) _ _ (kp _ _ n e)
    generalize upd H4 d (.dT (eY kvs2 (ky o pl) zb))=H5 at hF5 qb5 hd5 k5
    have hl5:=eF kvs2 (ky o pl) zb
    refine ⟨aP _ _,fun k2 fk2=>?_⟩
    have s6:=Same.new (o:=.tup [.int (o:Nat),.int (pl:Nat)]) fk2
    have hk2':=ac (H:=H5) (a:=k2) (o:=.tup [.int (o:Nat),.int (pl:Nat)])
    have hd6:=s6 _ _ hd5
    generalize upd H5 k2 (.tup [.int (o:Nat),.int (pl:Nat)])=H6 at s6 hk2' hd6
    refine ⟨d,zb,rfl,.inr ⟨_,ky o pl,k2,.inl hd6,rfl,hk2',by rw[kW,if_pos rfl]⟩,?_⟩
    refine ⟨aP _ _,fun k3 fk3=>?_⟩
    have s7:=Same.new (o:=.tup [.int (pl:Nat),.int (o:Nat)]) fk3
    have hk3:=ac (H:=H6) (a:=k3) (o:=.tup [.int (pl:Nat),.int (o:Nat)])
    have hd7:=s7 _ _ hd6
    have s67:=s6.trans s7
    generalize upd H6 k3 (.tup [.int (pl:Nat),.int (o:Nat)])=H7 at s7 hk3 hd7 s67
    refine ⟨d,_,rfl,.inr ⟨_,ky pl o,k3,hd7,rfl,hk3,by lia,rfl⟩,?_⟩
    have hl7:=eF (eY kvs2 (ky o pl) zb) (ky pl o) zb
    refine ⟨_,_,_,_,(fun b o' n e=>by rw[ag n]; exact s67 _ _ (k5 _ _ n e)),ac,by lia,?_,rfl⟩
    have e1':qK pl S.2.2 c (S.2.1.take (j+1)) S.1=mq (mq (qK pl S.2.2 c (S.2.1.take j) S.1) o pl (bk us S.2.2 c)) pl o (bk us S.2.2 c):=by
     rw[take_add_one,hej]
     unfold qK
     rw[List.foldl_append]
     rfl
    rw[e1']
    exact ((hF5.tk s67.tk).put (x:=pl) (y:=o) (qb5.same s67)).tk (TK.dT hd7)
   ·rintro σ H2 ⟨kvs2,x6,x7,x8,kp,hd2,hk2,hF2,rfl⟩
    have eT:S.2.1.take es.length=S.2.1:=by rw[hel,← k.len,take_length]
    rw[eT]at hF2
    have tk2:TK H' H2:=fun b us e=>kp _ _ (fun z=>by rw[z,hd]at e; cases e) e
    have nle:le≠d:=fun z=>by rw[z,hd]at hle; cases hle
    have hH2:Same H H2:=fun b o e=>kp _ _ (am e fd) (sH _ _ e)
    refine ⟨le,_,_,pl,S.2.2,c,S.2.1,es,D,B,rfl,kp _ _ nle hle,aH (fun z x (h:EQ K H' z x)=>h.tk tk2) hE,by rw[k.len]; lia,hh.tk tk2,g2.tk tk2,hc,hP,d0,lDB2,fun H3 l3 es3 s3 f3 h3 hE3=>?_⟩
    refine ⟨_,_,S.2.2,c,B,rfl,(hh.tk tk2).same s3,(g2.tk tk2).same s3,hc,fun H4 z4 s4 q4=>?_⟩
    have s34:=s3.trans s4
    exact ⟨nB S (pl,c),kvs2,l3,es3,z4,_,_,_,_,_,kn,hH2.trans s34,s34 _ _ hd2,by lia,hF2.tk s34.tk,s4 _ _ h3,aH (fun z x (h:EQ K H3 z x)=>h.tk s4.tk) hE3,q4,rfl⟩
  ·rintro σ H' ⟨S,kvs,le,es,xh,x4,x5,x6,x7,x8,k,sH,hd,hkl,hF,hle,hE,hh,rfl⟩
   have eS:=k.eq
   rw[hxl,take_length]at eS
   rw[eS]at hF
   exact q _ d kvs sH fd hd hF
end
theorem SameT.tk{H H':Hp}(s:SameT H H'):TK H H':=fun a xs h=>s.at h
def IsLam(H:Hp)(d:LamD)(fv:List Str)(v:V)(vals:List V):Prop:=∃ f c clos,v=.ref f∧H f=some (.ext (fQ f d clos c))∧H c=some (.ext (er c d.qual))∧clos.map (·.1)=fv∧(clos.map (·.2)).Nodup∧CellsAt H clos vals
theorem m4{H H':Hp}(s:SameT H H'):∀{clos:List (Str×Addr)}{vals:List V},CellsAt H clos vals→CellsAt H' clos vals
 | _,_,.nil=>.nil
 | _,_,.cons r t=>.cons (s.at r) (m4 s t)
theorem IsLam.t{H H':Hp}{d:LamD}{fv:List Str}{v:V}{vals:List V}(s:SameT H H')(h:IsLam H d fv v vals):IsLam H' d fv v vals:=by
 obtain ⟨f,c,clos,h1,h2,h3,h4,h5,h6⟩:=h
 exact ⟨f,c,clos,h1,s.at h2,s.at h3,h4,h5,m4 s h6⟩
theorem nd2(n:Nat):([n+1+1,n+1]:List Nat).Nodup:=by
 simp only[nodup_cons,mem_cons,not_mem_nil,or_false,not_or,not_false_eq_true,nodup_nil,and_true]
 lia
theorem yJ{H H' H3:Hp}{clos:List (Str×Addr)}(s:Same (untrs H (clos.map (·.2))) H')(s3:Same H' H3)(hc:∀ p∈clos,H3 p.2=H p.2):Same H H3:=fun b o e=>by
 by_cases hb:b∈clos.map (·.2)
 ·obtain ⟨p,hp,rfl⟩:=mem_map.mp hb
  rw[hc p hp,e]
 ·exact (s.trans s3) b o (by rw[fM hb]; exact e)
def MRow(K:Frag)(D:Addr)(H:Hp)(fs:List (Int×Int))(x:V):Prop:=∃ q ys,x=.ref q∧q≠D∧H q=some (.lst ys)∧AllF K H fs ys
abbrev MatAt(K:Frag)(D:Addr)(H:Hp):List (List (Int×Int))→List V→Prop:=Paired (MRow K D H)
theorem MRow.same{K:Frag}{D:Addr}{H H':Hp}{fs:List (Int×Int)}{x:V}(s:SameT H H')(h:MRow K D H fs x):MRow K D H' fs x :=
 let ⟨q,ys,h1,h2,h3,h4⟩:=h; ⟨q,ys,h1,h2,s.at h3,h4.tk (SameT.tk s)⟩
theorem MatAt.same{K:Frag}{D:Addr}{H H':Hp}(s:SameT H H'):∀{fss:List (List (Int×Int))}{xs:List V},MatAt K D H fss xs→MatAt K D H' fss xs:=fun h=>Paired.mapP h fun _ _ r=>r.same s
theorem MRow.put{K:Frag}{D:Addr}{H:Hp}{fs:List (Int×Int)}{x:V}{zs zs':List V}(hD:H D=some (.lst zs))(h:MRow K D H fs x):MRow K D (upd H D (.lst zs')) fs x :=
 let ⟨q,ys,h1,h2,h3,h4⟩:=h; ⟨q,ys,h1,h2,by rw[ag h2]; exact h3,h4.tk (TK.lst hD)⟩
theorem MatAt.put{K:Frag}{D:Addr}{H:Hp}{zs zs':List V}(hD:H D=some (.lst zs)):∀{fss:List (List (Int×Int))}{xs:List V},MatAt K D H fss xs→MatAt K D (upd H D (.lst zs')) fss xs:=fun h=>Paired.mapP h fun _ _ r=>r.put hD
theorem MatAt.snoc{K:Frag}{D:Addr}{H:Hp}{fs:List (Int×Int)}{x:V}(h:MRow K D H fs x):∀{fss:List (List (Int×Int))}{xs:List V},MatAt K D H fss xs→MatAt K D H (fss++[fs]) (xs++[x]):=fun g=>PySem.Paired.snoc g h
theorem MatAt.get{K:Frag}{D:Addr}{H:Hp}:∀{fss:List (List (Int×Int))}{xs:List V}{i:Nat}{x:V},MatAt K D H fss xs→xs[i]? = some x→∃ r,fss[i]? = some r∧MRow K D H r x:=cm
theorem MatAt.len{K:Frag}{D:Addr}{H:Hp}{fss:List (List (Int×Int))}{xs:List V}(h:MatAt K D H fss xs):fss.length=xs.length:=Paired.length h
abbrev fvM:List Str:=["told","found"]
theorem lsM:LamScope b9 fvM ["one","other"]:=⟨rfl,rfl,rfl,by decide +kernel,by decide +kernel,by decide +kernel,by decide +kernel,by decide +kernel⟩
def ent(qs:List Rat)(f:Fn)(i j:Nat):Rat:=if i=j then qs.getD i 0 else (f i j).getD (qs.getD i 0*qs.getD j 0)
def wa(qs:List Rat)(f:Fn)(i:Nat):List (Int×Int):=(List.range qs.length).map fun j=>fr (ent qs f i j)
def uV(qs:List Rat)(f:Fn):List (List (Int×Int)):=(List.range qs.length).map (wa qs f)
structure Mx(K:Frag)(H:Hp)(lt d:Addr)(qs:List Rat)(f:Fn)(B:Nat):Prop where
 l:∃ xs,H lt=some (.lst xs)∧AllF K H (qs.map fr) xs
 t:∃ kvs,H d=some (.dT kvs)∧DF K H kvs f
 n:qs.length≤24
 B0:0<B
 B1:B≤1000000000
 q:∀ q∈qs,Bq B q
theorem Mx.on{K:Frag}{H H':Hp}{lt d:Addr}{qs:List Rat}{f:Fn}{B:Nat}(M:Mx K H lt d qs f B)(k:TK H H')(h1:∀ xs,H lt=some (.lst xs)→H' lt=some (.lst xs))(h2:∀ kvs,H d=some (.dT kvs)→H' d=some (.dT kvs)):Mx K H' lt d qs f B :=
 let ⟨xs,a1,a2⟩:=M.l
 let ⟨kvs,b1,b2⟩:=M.t
 ⟨⟨xs,h1 _ a1,a2.tk k⟩,⟨kvs,h2 _ b1,b2.tk k⟩,M.n,M.B0,M.B1,M.q⟩
theorem Mx.same{K:Frag}{H H':Hp}{lt d:Addr}{qs:List Rat}{f:Fn}{B:Nat}(M:Mx K H lt d qs f B)(s:Same H H'):Mx K H' lt d qs f B:=M.on s.tk (fun xs e=>s _ _ e) (fun xs e=>s _ _ e)
theorem Mx.st{K:Frag}{H H':Hp}{lt d:Addr}{qs:List Rat}{f:Fn}{B:Nat}(M:Mx K H lt d qs f B)(s:SameT H H'):Mx K H' lt d qs f B:=M.on (SameT.tk s) (fun xs e=>s.at e) (fun xs e=>s.at e)
inductive spPair(K:Frag)(vs:List V)(H:Hp)(Q:VK)(_E:XK):Prop
 | mk(lt d:Addr)(qs:List Rat)(f:Fn)(B i j:Nat)(h0:vs=[.ref lt,.ref d,.int (i:Nat),.int (j:Nat)])(h1:Mx K H lt d qs f B)(h2:i<qs.length)(h3:j<qs.length)(h4:∀ H' z,Same H H'→IsQ K H' (ent qs f i j) z→Q z H'):spPair K vs H Q _E
def yf(K:Frag):List V→Sp:=fun vals vs H Q _=>∃(lt d:Addr) (qs:List Rat) (f:Fn) (B i j:Nat),vals=[.ref lt,.ref d]∧vs=[.int (i:Nat),.int (j:Nat)]∧Mx K H lt d qs f B∧i<qs.length∧j<qs.length∧∀ H' z,Same H H'→IsQ K H' (ent qs f i j) z→Q z H'
inductive spMRow(K:Frag)(vs:List V)(H:Hp)(Q:VK)(_E:XK):Prop
 | mk(lt d:Addr)(qs:List Rat)(f:Fn)(B i:Nat)(v:V)(h0:vs=[.int (i:Nat),.int (qs.length:Nat),v])(h1:Mx K H lt d qs f B)(h2:i<qs.length)(h3:IsLam H b9 fvM v [.ref lt,.ref d])(h4:∀ H' r ys,Same H H'→H r=none→H' r=some (.lst ys)→AllF K H' (wa qs f i) ys→Q (.ref r) H'):spMRow K vs H Q _E
inductive spMBy(K:Frag)(vs:List V)(H:Hp)(Q:VK)(_E:XK):Prop
 | mk(lt d:Addr)(qs:List Rat)(f:Fn)(B:Nat)(v:V)(h0:vs=[.int (qs.length:Nat),v])(h1:Mx K H lt d qs f B)(h2:IsLam H b9 fvM v [.ref lt,.ref d])(h3:∀ H' r xs,Same H H'→H r=none→H' r=some (.lst xs)→MatAt K r H' (uV qs f) xs→xs.Nodup→(∀ q,V.ref q∈xs→H q=none)→Q (.ref r) H'):spMBy K vs H Q _E
def xF(qs:List Rat)(ord:List Nat):List (Nat×Rat):=ord.map fun o=>(o,qs.getD o 0)
def kx(qs:List Rat)(ord:List Nat):List (Nat×Rat):=(xF qs ord).filter fun z=>kN z.2
inductive spDM(K:Frag)(a:Ad)(vs:List V)(H:Hp)(Q:VK)(_E:XK):Prop
 | mk(ls lo:Addr)(xs:List V)(qs:List Rat)(ord:List Nat)(B:Nat)(h0:vs=[.ref ls,.ref lo])(h1:H ls=some (.lst xs))(h2:AllF K H (qs.map fr) xs)(h3:H lo=some (.lst (ord.map fun (o:Nat)=>V.int (o:Int))))(h4:qs.length≤24)(h5:ord.length≤24)(h6:(∀ o∈ord,o<qs.length))(h7:0<B)(h8:B≤1000000000)(h9:(∀ q∈qs,Bq B q))(h10:TabsOk (tabs a) H)(h11:∀ H' r xs,SameT H H'→TabsOk (tabs a) H'→H r=none→H' r=some (.lst xs)→MatAt K r H' (uV qs (nj (kx qs ord))) xs→xs.Nodup→(∀ q,V.ref q∈xs→H q=none)→Q (.ref r) H'):spDM K a vs H Q _E
section
variable {P:Program}{w:World}{K:Frag}{mg:Str→Option Value}{base:Heap}{a:Ad}
theorem v0{H:Hp}{qs:List Rat}{xs:List V}(hF:AllF K H (qs.map fr) xs){i:Nat}(hi:i<qs.length):∃ x,xs[i]? = some x∧IsQ K H (qs.getD i 0) x:=by
 have hl:xs.length=qs.length:=by rw[← hF.len,length_map]
 have hx:i<xs.length:=by lia
 obtain ⟨f,hf,isf⟩:=hF.get (List.getElem?_eq_getElem hx)
 rw[List.getElem?_map,List.getElem?_eq_getElem hi]at hf
 cases hf
 refine ⟨xs[i],List.getElem?_eq_getElem hx,?_⟩
 rw[List.getD,List.getElem?_eq_getElem hi]
 exact isf
theorem uZ(T:Txt K mg a):FnOk P w K mg base CX0 4 a.f_S a.d_S ["told","found","one","other"] (spPair K):=by
 have G_Y:FnOk P w K mg base CX0 3 _ _ _ (spAri (· * ·) (fun _=>True) K):=iX T
 refine T.F_S.ok iQ (fun vs H Q E h=>?_) (fun cdv A outer s H vs Q E hr h=>?_)
 ·obtain ⟨lt,d,qs,f,B,i,j,rfl,_⟩:=h; rfl
 ·obtain ⟨lt,d,qs,f,B,i,j,rfl,M,hi,hj,q⟩:=h
  obtain ⟨xs,hlt,hF⟩:=M.l
  obtain ⟨kvs,hd,hD⟩:=M.t
  obtain ⟨xi,exi,qi⟩:=v0 hF hi
  obtain ⟨xj,exj,qj⟩:=v0 hF hj
  have bb:∀{i},i<qs.length→Bb (qs.getD i 0):=fun {i} h=>(M.q _ (by rw[List.getD,List.getElem?_eq_getElem h]; exact getElem_mem h)).bb M.B0 (lb M.B1)
  refine ⟨_,(af (bJ (bx jo (vr 2) (vr 3) (aC _)) (ak (aw (ax ar (vr 0) (vr 2) (fun _ _=>rfl)))) aJ) (ak (aw (sR (oa hr) (vr 1) (aM (aa (vr 2) (aa (vr 3) ae))) (ao G_Y hr rfl T.m_Y T.F_Y.kp T.B_Y .nil aq (aa (ax ar (vr 0) (vr 2) (fun _ _=>rfl)) (aa (ax ar (vr 0) (vr 3) (fun _ _=>rfl)) ae))) ⟨rfl,rfl,rfl,rfl⟩)))),fi ?_⟩
  intro zt2
  refine ifC (fun c=>?_) (fun c=>?_)
  ·have c:i=j:=by lia
   refine .inl ⟨lt,_,_,xi,rfl,rfl,SqL.of hlt,bg exi,q _ _ (Same.refl _) ?_⟩
   unfold ent
   rw[if_pos c]
   exact qi
  ·have c:¬i=j:=by lia
   refine ⟨d,rfl,.inr ⟨kvs,.inl hd⟩,aP _ _,fun k fk=>?_⟩
   have s1:=Same.new (o:=.tup [.int (i:Nat),.int (j:Nat)]) fk
   have hk:=ac (H:=H) (a:=k) (o:=.tup [.int (i:Nat),.int (j:Nat)])
   generalize upd H k (.tup [.int (i:Nat),.int (j:Nat)])=H1 at s1 hk
   refine .inl ⟨lt,_,_,xi,rfl,rfl,SqL.of (s1 _ _ hlt),bg exi,.inl ⟨lt,_,_,xj,rfl,rfl,SqL.of (s1 _ _ hlt),bg exj,?_⟩⟩
   refine ⟨_,_,_,_,rfl,qi.same s1,qj.same s1,bb hi,bb hj,trivial,fun H2 z2 s2 q2=>?_⟩
   have s12:=s1.trans s2
   refine ⟨_,.inr ⟨kvs,ky i j,k,.inl (s12 _ _ hd),rfl,s2 _ _ hk,rfl⟩,q _ _ s12 ?_⟩
   unfold ent
   rw[if_neg c]
   cases hf:f i j with
   | none=>rw[(hD i j).2 hf]; exact q2
   | some v =>
    obtain ⟨z,h1,h2⟩:=(hD i j).1 v hf
    rw[h1]
    exact h2.same s12
theorem qz{H:Hp}{clos:List (Str×Addr)}{vals:List V}(ca:CellsAt H clos vals):TK H (untrs H (clos.map (·.2))):=fun b xs e=>cx ca e fun v z=>nomatch z
theorem yr(T:Txt K mg a):d8 P w K mg base 5 b9 fvM ["one","other"] (yf K):=by
 have G_S:FnOk P w K mg base CX0 4 _ _ _ (spPair K):=uZ T
 refine ko lsM (fun pm ctv clos c us hl=>match us,hl with | [_,_],_=>rfl) (fun vals vs H Q E h=>?_) (fun A outer s H f c clos vals vs Q E hr hfv ca h=>?_)
 ·obtain ⟨lt,d,qs,f,B,i,j,rfl,rfl,_⟩:=h; rfl
 ·obtain ⟨lt,d,qs,ff,B,i,j,rfl,rfl,M,hi,hj,q⟩:=h
  refine ⟨_,(ao G_S hr rfl T.m_S T.F_S.kp T.B_S .nil aq (aa (vr 2) (aa (vr 3) (aa (vr 0) (aa (vr 1) ae))))),?_⟩
  exact ⟨lt,d,qs,ff,B,i,j,rfl,M.on (qz ca) (fun xs e=>cx ca e fun v z=>nomatch z) (fun xs e=>cx ca e fun v z=>nomatch z),hi,hj,fun H' z s1 hz=>fun H3 s3 hc=>q _ z (yJ s1 s3 hc) (hz.same s3)⟩
theorem tM(T:Txt K mg a):FnOk P w K mg base CX0 6 a.f_Z a.d_Z ["one","many","tell"] (spMRow K):=by
 have L_mat:d8 P w K mg base 5 b9 fvM ["one","other"] (yf K):=yr T
 refine T.F_Z.ok jq (fun vs H Q E h=>?_) (fun cdv A outer s H vs Q E hr h=>?_)
 ·obtain ⟨lt,d,qs,ff,B,i,v,rfl,_⟩:=h; rfl
 ·obtain ⟨lt,d,qs,ff,B,i,v,rfl,M,hi,hL,q⟩:=h
  have small:sizeLine=16777216:=sizeLine_eq
  have n24:=M.n
  refine ⟨_,(ak (aw (bf rfl (N:=["other","tell","one"]) (ix:=[none,some 2,some 0]) ⟨rfl,rfl,rfl,rfl,⟨rfl,rfl,rfl,⟨rfl,rfl,rfl,trivial⟩⟩⟩ (cA rfl T.z_range (aa (vr 1) ae)) ⟨fun C s H fp=>ap (i:=0) (show List.Nodup (["other","tell","one"]:List Str) by decide +kernel) rfl (Or.inl rfl),fun C s H fp=>bi,fun C s H fp=>(rJ (vr 1) L_mat hr (aa (vr 2) (aa (vr 0) ae)))⟩))),?_⟩
  refine ⟨(qs.length:Int),rfl,by lia,by lia,fun D hD=>?_⟩
  let Pw1:PvL:=fun j ys H'=>j≤qs.length∧Same H H'∧H' D=some (.lst ys)∧AllF K H' ((List.range j).map fun j=>fr (ent qs ff i j)) ys
  refine dO (lo:=0) (n:=qs.length) Pw1 ⟨Nat.zero_le _,Same.new hD,ac,.nil⟩ (fun j ys H' h=>h.2.2.1) ?_ ?_
  ·rintro j ys H' P' hj ⟨_,s1,hD1,hF⟩ hP
   obtain ⟨f,c,clos,rfl,e1,e2,e3,e4,e5⟩:=hL.t s1.t
   have hyl:ys.length=j:=by rw[← hF.len,length_map,length_range]
   refine ⟨⟨rfl,rfl,trivial⟩,⟨f,_,_,_,rfl,e1⟩,?_⟩
   refine ⟨fun f' d' cl' c' _ z=>z,f,c,clos,_,rfl,e1,e2,e3,e4,e5,lt,d,qs,ff,B,i,j,rfl,?_,M.same s1,hi,hj,fun H2 z s2 hz=>?_⟩
   ·show [V.int (i:Int),V.int (0+(j:Int))]=_
    rw[Int.zero_add]
   have hD2:=s2 _ _ hD1
   refine ⟨hD2,by lia,hP _ _ ⟨hj,(s1.trans s2).put hD,ac,?_⟩⟩
   rw[range_succ,map_append]
   exact AllF.snoc (hz.tk (TK.lst hD2)) ((hF.same s2).tk (TK.lst hD2))
  ·rintro ys H' ⟨_,s1,hD1,hF⟩
   exact q _ D ys s1 hD hD1 hF
theorem wm(T:Txt K mg a):FnOk P w K mg base CX0 7 a.f_af a.d_af ["many","tell"] (spMBy K):=by
 have G_Z:FnOk P w K mg base CX0 6 _ _ _ (spMRow K):=tM T
 refine T.F_af.ok jZ (fun vs H Q E h=>?_) (fun cdv A outer s H vs Q E hr h=>?_)
 ·obtain ⟨lt,d,qs,ff,B,v,rfl,_⟩:=h; rfl
 ·obtain ⟨lt,d,qs,ff,B,v,rfl,M,hL,q⟩:=h
  have small:sizeLine=16777216:=sizeLine_eq
  have n24:=M.n
  refine ⟨_,(ak (aw (bf rfl (N:=["one","many","tell"]) (ix:=[none,some 0,some 1]) ⟨rfl,rfl,rfl,rfl,⟨rfl,rfl,rfl,⟨rfl,rfl,rfl,trivial⟩⟩⟩ (cA rfl T.z_range (aa (vr 0) ae)) ⟨fun C s H fp=>ap (i:=0) (show List.Nodup (["one","many","tell"]:List Str) by decide +kernel) rfl (Or.inl rfl),fun C s H fp=>bi,fun C s H fp=>(ao G_Z hr rfl T.m_Z T.F_Z.kp T.B_Z .nil aq (aa (vr 0) (aa (vr 1) (aa (vr 2) ae))))⟩))),?_⟩
  refine ⟨(qs.length:Int),rfl,by lia,by lia,fun D hD=>?_⟩
  let Pw2:PvL:=fun j ys H'=>j≤qs.length∧Same H H'∧H' D=some (.lst ys)∧MatAt K D H' ((List.range j).map (wa qs ff)) ys∧ys.Nodup∧∀ q,V.ref q∈ys→H q=none
  refine dO (lo:=0) (n:=qs.length) Pw2 ⟨Nat.zero_le _,Same.new hD,ac,.nil,nodup_nil,fun q hq=>by cases hq⟩ (fun j ys H' h=>h.2.2.1) ?_ ?_
  ·rintro j ys H' P' hj ⟨_,s1,hD1,hM,hnd,hnew⟩ hP
   have hyl:ys.length=j:=by rw[← hM.len,length_map,length_range]
   refine ⟨⟨rfl,rfl,trivial⟩,lt,d,qs,ff,B,j,v,?_,M.same s1,hj,hL.t s1.t,fun H2 r ys2 s2 hr0 hr2 hF=>?_⟩
   ·show [V.int (0+(j:Int)),V.int (qs.length:Int),v]=_
    rw[Int.zero_add]
   have hD2:=s2 _ _ hD1
   have nr:r≠D:=fun z=>by rw[z,hD1]at hr0; cases hr0
   refine ⟨hD2,by lia,hP _ _ ⟨hj,(s1.trans s2).put hD,ac,?_,?_,fun q hq=>?_⟩⟩
   ·rw[range_succ,map_append]
    exact MatAt.snoc ⟨r,ys2,rfl,nr,by rw[ag nr]; exact hr2,hF.tk (TK.lst hD2)⟩ (MatAt.put hD2 (MatAt.same s2.t hM))
   ·rw[nodup_append]
    refine ⟨hnd,by simp,fun x hx y hy z=>?_⟩
    rw[mem_singleton]at hy
    subst hy
    subst z
    obtain ⟨i,hi⟩:=List.getElem?_of_mem hx
    obtain ⟨_,_,q1,_,e,_,h3,_⟩:=hM.get hi
    cases e
    rw[h3]at hr0
    cases hr0
   ·rcases mem_append.mp hq with z | z
    ·exact hnew q z
    ·cases mem_singleton.mp z
     exact s1.free hr0
  ·rintro ys H' ⟨_,s1,hD1,hM,hnd,hnew⟩
   exact q _ D ys s1 hD hD1 hM hnd hnew
theorem vN(T:Txt K mg a)(hB:Bm mg base):FnOk P w K mg base CX0 8 a.f_d a.d_d ["shares","order"] (spDM K a):=by
 have G_af:FnOk P w K mg base CX0 7 _ _ _ (spMBy K):=wm T
 have G_k:FnOk P w K mg base CX0 7 _ _ _ _:=(tF T).mono (by decide)
 have G_Q:FnOk P w K mg base CX0 7 _ _ _ _:=(rW T).mono (by decide)
 refine T.F_d.okL T.lcd_d sc_d (by decide +kernel) (fun vs H Q E h=>?_) (fun A outer s H vs Q E hr h=>?_)
 ·obtain ⟨ls,lo,xs,qs,ord,B,rfl,_⟩:=h; rfl
 ·obtain ⟨ls,lo,xs,qs,ord,B,rfl,hls,hF,hlo,hq24,ho24,hord,B0,B1,hq,hT,q⟩:=h
  have small:sizeLine=16777216:=sizeLine_eq
  refine ⟨_,(j9 (av (i:=2) sc_d.nd rfl (Or.inr rfl) (aL dh rfl T.z_list di (aa (vr 0) ae))) (j9 (av (i:=3) sc_d.nd rfl (Or.inr rfl) (ao G_k hr rfl T.m_k T.F_k.kp T.B_k .nil aq (aa (bf rfl (N:=["place","told"]) (ix:=[none,some 2]) ⟨rfl,rfl,rfl,rfl,⟨rfl,rfl,rfl,trivial⟩⟩ (bj (vr 1)) ⟨fun C s H fp=>ap (i:=0) (show List.Nodup (["place","told"]:List Str) by decide +kernel) rfl (Or.inl rfl),fun C s H fp=>eA (dN (ao G_Q hr rfl T.m_Q T.F_Q.kp T.B_Q .nil aq (aa (ax (bL (K:=K) rfl) (vr 1) (vr 0) (fun _ _=>rfl)) ae))),fun C s H fp=>(aM (aa (vr 0) (aa (ax (bL (K:=K) rfl) (vr 1) (vr 0) (fun _ _=>rfl)) ae)))⟩) ae))) (tj sc_d.nd (by decide +kernel) G_af hr rfl T.m_af T.F_af.kp T.B_af .nil (aa (az aE rfl T.z_len bI (aa (vr 2) ae)) (aa (kd (d:=b9) rfl T.lch_d hB rfl (by with_unfolding_all rfl) rfl (iR a) (.head _) T.tnd jk) ae))))),?_⟩
  refine ⟨ls,xs,rfl,.inl (SqL.of hls),fun lt flt=>?_⟩
  have s1:=Same.new (o:=.lst xs) flt
  have hlt:=ac (H:=H) (a:=lt) (o:=.lst xs)
  generalize upd H lt (.lst xs)=H1 at s1 hlt
  have hF1:=hF.same s1
  have hxl:xs.length=qs.length:=by rw[← hF.len,length_map]
  have hlo1:=s1 _ _ hlo
  refine .inl ⟨⟨_,SqL.of hlo1⟩,fun D hD=>?_⟩
  let Pw3:PvL:=fun i ys H'=>i≤ord.length∧Same H1 H'∧H' D=some (.lst ys)∧ys.length≤i∧Paired (PQ K H') (kx qs (ord.take i)) ys
  refine aK (K:=K) (a:=lo) (xs:=ord.map fun (o:Nat)=>V.int (o:Int)) Pw3 ⟨Nat.zero_le _,Same.new hD,ac,Nat.zero_le _,.nil⟩ (fun i ys H' h=>SqL.of (h.2.1 _ _ hlo1)) (fun i ys H' h=>h.2.2.1) ?_ ?_
  ·rintro i y ys H' P' hy ⟨hi,s2,hD2,hyl,hys⟩ hP'
   rw[List.getElem?_map]at hy
   cases hoi:ord[i]? with
   | none=>rw[hoi]at hy; cases hy
   | some o =>
    rw[hoi]at hy
    cases hy
    have ilt:i<ord.length:=(List.getElem?_eq_some_iff.mp hoi).1
    have ho:=hord o (List.mem_of_getElem? hoi)
    obtain ⟨xo,exo,qo⟩:=v0 (hF1.same s2) ho
    have e1:kx qs (ord.take (i+1))=kx qs (ord.take i)++(if kN (qs.getD o 0) then [(o,qs.getD o 0)] else []):=by
     unfold kx xF
     rw[take_add_one,hoi,map_append,filter_append]
     congr 1
     show List.filter _ [(o,qs.getD o 0)]=_
     by_cases c:kN (qs.getD o 0)=true
     ·rw[if_pos c,filter_cons_of_pos (p:=fun z:Nat×Rat=>kN z.2) (a:=(o,qs.getD o 0)) c]; rfl
     ·rw[if_neg c,filter_cons_of_neg (p:=fun z:Nat×Rat=>kN z.2) (a:=(o,qs.getD o 0)) c]; rfl
    refine ⟨⟨rfl,trivial⟩,.inl ⟨lt,_,_,xo,rfl,rfl,SqL.of (s2 _ _ hlt),bg exo,xo,_,rfl,qo,?_⟩⟩
    rw[wc]
    refine ifB (fun c=>?_) (fun c=>?_)
    ·refine .inl ⟨lt,_,_,xo,rfl,rfl,SqL.of (s2 _ _ hlt),bg exo,?_⟩
     refine ⟨aP _ _,fun np fnp=>?_⟩
     have s3:=Same.new (o:=.tup [.int (o:Nat),xo]) fnp
     have hD3:=s3 _ _ hD2
     have ne:np≠D:=fun z=>by rw[z,hD2]at fnp; cases fnp
     have tk3:TK H' (upd (upd H' np (.tup [.int (o:Nat),xo])) D (.lst (ys++[.ref np]))):=s3.tk.trans (TK.lst hD3)
     refine ⟨hD3,by lia,hP' _ _ ⟨ilt,(s2.trans s3).put hD,ac,by rw[length_append]; show ys.length+1≤i+1; lia,?_⟩⟩
     rw[e1,if_pos c]
     exact cJ ⟨np,xo,rfl,by rw[ag ne]; exact ac,qo.tk tk3⟩ (aH (fun z x (h:PQ K H' z x)=>h.tk tk3) hys)
    ·refine hP' _ _ ⟨ilt,s2,hD2,by lia,?_⟩
     rw[e1,if_neg (by rw[c]; decide),append_nil]
     exact hys
  ·rintro ys H' ⟨_,s2,hD2,hyl,hys⟩
   rw[length_map]at hyl hys
   rw[take_length]at hys
   have hul:(kx qs ord).length≤24:=by rw[Paired.length hys]; lia
   refine ⟨D,ys,kx qs ord,B,rfl,hD2,hys,hul,B0,B1,fun z hz=>?_,fun H3 d kvs s3 fd hd hDF=>?_⟩
   ·obtain ⟨z1,z2⟩:=mem_filter.mp hz
    obtain ⟨o,ho,rfl⟩:=mem_map.mp z1
    have:=hord o ho
    exact ⟨hq _ (by show qs.getD o 0∈qs; rw[List.getD,List.getElem?_eq_getElem this]; exact getElem_mem this),unsQ_iff.mp z2⟩
   have s23:=s2.trans s3
   refine ⟨_,.inl (SqL.of (s23 _ _ hlt)),?_⟩
   have hT3:=hT.same (s1.trans s23)
   refine ⟨hT3,fun f c H4 t4 hT4 hf0 ef ec=>?_⟩
   intro H5 s5 hc
   have cT:=hc 2 _ _ _ rfl rfl (by with_unfolding_all rfl)
   have cW:=hc 3 _ _ _ rfl rfl (by with_unfolding_all rfl)
   have t45:=t4.trans s5.t
   have M3:Mx K H3 lt d qs (nj (kx qs ord)) B:=⟨⟨xs,s23 _ _ hlt,hF1.same s23⟩,⟨kvs,hd,hDF⟩,hq24,B0,B1,hq⟩
   have t05:=(s1.trans s23).t.trans t45
   refine ⟨lt,d,qs,_,B,.ref f,by show [V.int (xs.length:Int),V.ref f]=_; rw[hxl],M3.st t45,⟨f,c,_,rfl,s5 _ _ ef,s5 _ _ ec,rfl,nd2 _,.cons cT (.cons cW .nil)⟩,fun H6 r xs6 s6 hr0 hr1 hM hnd hnew=>?_⟩
   exact q _ r xs6 (t05.trans s6.t) ((hT4.same s5).same s6) (t05.free hr0) hr1 hM hnd fun q hq=>t05.free (hnew q hq)
end
def Two(c e:Int×Int):Prop:=∃ B:Int,0<B∧B≤1000000000∧Fr B c∧Fr B e∧uns c=true∧uns e=true
inductive spDuP(K:Frag)(vs:List V)(H:Hp)(Q:VK)(_E:XK):Prop
 | mk(x y:V)(c e:Int×Int)(h0:vs=[x,y])(h1:IsF K H c x)(h2:IsF K H e y)(h3:Two c e)(h4:∀ H' l p1 p2 x1 y1 x2 y2,Same H H'→H l=none→H' l=some (.lst [.ref p1,.ref p2])→H' p1=some (.tup [.int (du1 c e),x1,y1])→H' p2=some (.tup [.int (du2 c e),x2,y2])→IsF K H' (par true c e).1 x1→IsF K H' (par true c e).2 y1→IsF K H' (par false c e).1 x2→IsF K H' (par false c e).2 y2→Q (.ref l) H'):spDuP K vs H Q _E
inductive spDuel(K:Frag)(vs:List V)(H:Hp)(Q:VK)(_E:XK):Prop
 | mk(x y:V)(c e:Int×Int)(h0:vs=[x,y])(h1:IsF K H c x)(h2:IsF K H e y)(h3:Two c e)(h4:∀ H' p s n r,Same H H'→H s=none→H' p=some (.tup [.ref s,.ref n,.ref r])→H' s=some (.lst [.int (du1 c e),.int (du2 c e)])→H' n=some (.tup [.int (duE c e).1,.int (duE c e).2])→H' r=some (.tup [.int (duR c e).1,.int (duR c e).2])→Q (.ref p) H'):spDuel K vs H Q _E
theorem Two.facts{c e:Int×Int}(h:Two c e):0<c.1∧c.1<c.2∧c.2≤1000000000∧0<e.1∧e.1<e.2∧e.2≤1000000000∧0<bD c.2 e.2∧bD c.2 e.2≤1000000000∧0<duA c e∧duA c e<bD c.2 e.2∧0<duB c e∧duB c e<bD c.2 e.2:=by
 obtain ⟨B,b0,b1,h1,h2,h3,h4⟩:=h
 obtain ⟨d0,d1,d2,a0,a1,b2,b3⟩:=rg b0 h1 h2 h3 h4
 have u1:0<c.1∧c.1<c.2:=of_decide_eq_true h3
 have u2:0<e.1∧e.1<e.2:=of_decide_eq_true h4
 have k1:=Int.le_of_dvd b0 h1.2.2.2
 have k2:=Int.le_of_dvd b0 h2.2.2.2
 exact ⟨u1.1,u1.2,by lia,u2.1,u2.2,by lia,d0,by lia,a0,a1,b2,b3⟩
theorem gM{i:Int}(h0:0≤i)(h1:i≤4000000000):Bt 3000 i:=(show Bt 40 i by unfold Bt; lia).mono (by decide)
section
variable {P:Program}{w:World}{K:Frag}{mg:Str→Option Value}{base:Heap}{a:Ad}
theorem xt(T:Txt K mg a):FnOk P w K mg base CX0 3 a.f_G a.d_G ["one","other"] (spDuP K):=by
 have G_r:FnOk P w K mg base CX0 2 _ _ _ spLcm:=wn T
 have G_E:FnOk P w K mg base CX0 2 _ _ _ spLow:=eN T
 refine T.F_G.ok sc_G (fun vs H Q E h=>?_) (fun cdv A outer s H vs Q E hr h=>?_)
 ·obtain ⟨x,y,c,e,rfl,_⟩:=h; rfl
 ·obtain ⟨x,y,c,e,rfl,hc,he,h2,q⟩:=h
  obtain ⟨c0,c1,c2,e0,e1,e2,d0,d1,a0,a1,b0,b1⟩:=h2.facts
  have ic:∀{H':Hp},Same H H'→IsF K H' c x:=fun s=>hc.same s
  have ie:∀{H':Hp},Same H H'→IsF K H' e y:=fun s=>he.same s
  obtain ⟨pc,rfl,hpc⟩:=id hc
  obtain ⟨pe,rfl,hpe⟩:=id he
  refine ⟨_,(af (av (i:=2) sc_G.nd rfl (Or.inl rfl) (ao G_r hr rfl T.m_r T.F_r.kp T.B_r .nil aq (aa (aY (aa (ax ar (vr 0) aj (fun _ _=>rfl)) (aa (ax ar (vr 1) aj (fun _ _=>rfl)) ae))) ae))) (af (av (i:=3) sc_G.nd rfl (Or.inl rfl) (au bz (ax ar (vr 0) aj (fun _ _=>rfl)) (au cb (vr 2) (ax ar (vr 0) aj (fun _ _=>rfl))))) (af (av (i:=4) sc_G.nd rfl (Or.inl rfl) (au bz (ax ar (vr 1) aj (fun _ _=>rfl)) (au cb (vr 2) (ax ar (vr 1) aj (fun _ _=>rfl))))) (af (bJ (bx fm (au df (vr 3) (vr 4)) (vr 2) (aC _)) (af (av (i:=5) sc_G.nd rfl (Or.inl rfl) (ao G_E hr rfl T.m_E T.F_E.kp T.B_E .nil aq (aa (au df (vr 3) (vr 4)) (aa (vr 2) ae)))) (ak (aw (aY (aa (aM (aa (vr 3) (aa (vr 5) (aa (cN rfl T.g_NOUGHT) ae)))) (aa (aM (aa (vr 4) (aa (cN rfl T.g_NOUGHT) (aa (vr 5) ae)))) ae)))))) aJ) (af (av (i:=5) sc_G.nd rfl (Or.inl rfl) (ao G_E hr rfl T.m_E T.F_E.kp T.B_E .nil aq (aa (au dR (au df (vr 3) (vr 4)) (vr 2)) (aa (vr 2) ae)))) (ak (aw (aY (aa (aM (aa (au dR (vr 2) (vr 4)) (aa (cN rfl T.g_WHOLE) (aa (vr 5) ae)))) (aa (aM (aa (au dR (vr 2) (vr 3)) (aa (vr 5) (aa (cN rfl T.g_WHOLE) ae)))) ae)))))))))),rK ?_⟩
  intro zt6 zt5 zt4 zt3 zt2
  refine px1 hpc.sq (px1 hpe.sq ⟨aP _ _,fun l0 fl0=>⟨l0,c.2,e.2,rfl,ac,by lia,by lia,c2,e2,?_⟩⟩)
  have s1:=Same.new (o:=.lst [.int c.2,.int e.2]) fl0
  generalize upd H l0 (.lst [.int c.2,.int e.2])=H1 at s1
  have hc1:PT K H1 pc c:=by obtain ⟨p,z,h⟩:=ic s1; cases z; exact h
  have he1:PT K H1 pe e:=by obtain ⟨p,z,h⟩:=ie s1; cases z; exact h
  refine px0 hc1.sq (px1 hc1.sq ⟨cdB (by lia) (gM (by lia) (by lia)),clB (by lia) (by lia),?_⟩)
  refine px0 he1.sq (px1 he1.sq ⟨cdB (by lia) (gM (by lia) (by lia)),clB (by lia) (by lia),?_⟩)
  refine ifC (fun hlt=>?_) fun hlt=>?_
  ·have hlt:duA c e+duB c e<bD c.2 e.2:=hlt
   have hL:duL c e=true:=decide_eq_true hlt
   refine ⟨duA c e+duB c e,bD c.2 e.2,rfl,d0,gM (by lia) (by lia),gM (by lia) (by lia),fun H2 p s2 hp=>?_⟩
   refine ⟨by show 3≤sizeLine; decide,fun p1 f1=>?_⟩
   have s3:=Same.new (o:=.tup [.int (duA c e),.ref p,.ref a.k_NOUGHT]) f1
   refine ⟨by show 3≤sizeLine; decide,fun p2 f2=>?_⟩
   have s4:=Same.new (o:=.tup [.int (duB c e),.ref a.k_NOUGHT,.ref p]) f2
   refine ⟨aP _ _,fun l fl=>?_⟩
   have s5:=Same.new (o:=.lst [.ref p1,.ref p2]) fl
   have s35:=s3.trans (s4.trans s5)
   have hR:duR c e=cI (duA c e+duB c e) (bD c.2 e.2):=by unfold duR; rw[if_pos hL]
   have hE:duE c e=(0,1):=by unfold duE; rw[if_pos hL]
   have fR:∀{H':Hp},Same H2 H'→IsF K H' (duR c e) (.ref p):=fun s=>⟨p,rfl,.inl (by rw[hR]; exact s _ _ hp)⟩
   have fE:∀{H':Hp},IsF K H' (duE c e) (.ref a.k_NOUGHT):=⟨_,rfl,.inr (by rw[hE]; exact T.t_NOUGHT)⟩
   have pt:par true c e=(duR c e,duE c e):=by unfold par; rw[hL,if_pos rfl]
   have pf:par false c e=(duE c e,duR c e):=by unfold par; rw[hL,if_neg (by decide)]
   have nl:H l=none:=by
    cases hh:H l with
    | none=>rfl
    | some o=>exact absurd (fl.symm.trans ((s3.trans s4) _ _ ((s1.trans s2) _ _ hh))) (by simp)
   refine q _ l p1 p2 (.ref p) (.ref a.k_NOUGHT) (.ref a.k_NOUGHT) (.ref p) ((s1.trans s2).trans s35) nl ac ?_ ?_ ?_ ?_ ?_ ?_
   ·rw[show du1 c e=duA c e by unfold du1; rw[if_pos hL]]; exact (s4.trans s5) _ _ ac
   ·rw[show du2 c e=duB c e by unfold du2; rw[if_pos hL]]; exact s5 _ _ ac
   ·rw[pt]; exact fR s35
   ·rw[pt]; exact fE
   ·rw[pf]; exact fE
   ·rw[pf]; exact fR s35
  ·have hlt:¬duA c e+duB c e<bD c.2 e.2:=hlt
   have hL:duL c e=false:=decide_eq_false hlt
   have hL':¬duL c e=true:=by rw[hL]; decide
   refine ⟨duA c e+duB c e - bD c.2 e.2,bD c.2 e.2,rfl,d0,gM (by lia) (by lia),gM (by lia) (by lia),fun H2 p s2 hp=>?_⟩
   refine ⟨by show 3≤sizeLine; decide,fun p1 f1=>?_⟩
   have s3:=Same.new (o:=.tup [.int (bD c.2 e.2 - duB c e),.ref a.k_WHOLE,.ref p]) f1
   refine ⟨by show 3≤sizeLine; decide,fun p2 f2=>?_⟩
   have s4:=Same.new (o:=.tup [.int (bD c.2 e.2 - duA c e),.ref p,.ref a.k_WHOLE]) f2
   refine ⟨aP _ _,fun l fl=>?_⟩
   have s5:=Same.new (o:=.lst [.ref p1,.ref p2]) fl
   have s35:=s3.trans (s4.trans s5)
   have hR:duR c e=cI (duA c e+duB c e - bD c.2 e.2) (bD c.2 e.2):=by unfold duR; rw[if_neg hL']
   have hE:duE c e=(1,1):=by unfold duE; rw[if_neg hL']
   have fR:∀{H':Hp},Same H2 H'→IsF K H' (duR c e) (.ref p):=fun s=>⟨p,rfl,.inl (by rw[hR]; exact s _ _ hp)⟩
   have fE:∀{H':Hp},IsF K H' (duE c e) (.ref a.k_WHOLE):=⟨_,rfl,.inr (by rw[hE]; exact T.t_WHOLE)⟩
   have pt:par true c e=(duE c e,duR c e):=by unfold par; rw[hL,if_neg (by decide)]
   have pf:par false c e=(duR c e,duE c e):=by unfold par; rw[hL,if_pos rfl]
   have nl:H l=none:=by
    cases hh:H l with
    | none=>rfl
    | some o=>exact absurd (fl.symm.trans ((s3.trans s4) _ _ ((s1.trans s2) _ _ hh))) (by simp)
   refine q _ l p1 p2 (.ref a.k_WHOLE) (.ref p) (.ref p) (.ref a.k_WHOLE) ((s1.trans s2).trans s35) nl ac ?_ ?_ ?_ ?_ ?_ ?_
   ·rw[show du1 c e=bD c.2 e.2 - duB c e by unfold du1; rw[if_neg hL']]; exact (s4.trans s5) _ _ ac
   ·rw[show du2 c e=bD c.2 e.2 - duA c e by unfold du2; rw[if_neg hL']]; exact s5 _ _ ac
   ·rw[pt]; exact fE
   ·rw[pt]; exact fR s35
   ·rw[pf]; exact fR s35
   ·rw[pf]; exact fE
theorem tP(T:Txt K mg a):FnOk P w K mg base CX0 2 a.f_aj a.d_aj ["_law_first","_law_second"] (spDuel K):=by
 have G_ab:FnOk P w K mg base CX0 1 _ _ _ spGcd:=pq T
 have G_ah:FnOk P w K mg base CX0 1 _ _ _ spLow:=qU T
 refine T.F_aj.ok sc_aj (fun vs H Q E h=>?_) (fun cdv A outer s H vs Q E hr h=>?_)
 ·obtain ⟨x,y,c,e,rfl,_⟩:=h; rfl
 ·obtain ⟨x,y,c,e,rfl,hc,he,h2,q⟩:=h
  obtain ⟨c0,c1,c2,e0,e1,e2,d0,d1,a0,a1,b0,b1⟩:=h2.facts
  obtain ⟨pc,rfl,hpc⟩:=id hc
  obtain ⟨pe,rfl,hpe⟩:=id he
  refine ⟨_,(af (av (i:=2) sc_aj.nd rfl (Or.inl rfl) (au cb (au bz (ax ar (vr 0) aj (fun _ _=>rfl)) (ax ar (vr 1) aj (fun _ _=>rfl))) (ao G_ab hr rfl T.m_ab T.F_ab.kp T.B_ab .nil aq (aa (ax ar (vr 0) aj (fun _ _=>rfl)) (aa (ax ar (vr 1) aj (fun _ _=>rfl)) ae))))) (af (av (i:=3) sc_aj.nd rfl (Or.inl rfl) (au bz (ax ar (vr 0) aj (fun _ _=>rfl)) (au cb (vr 2) (ax ar (vr 0) aj (fun _ _=>rfl))))) (af (av (i:=4) sc_aj.nd rfl (Or.inl rfl) (au bz (ax ar (vr 1) aj (fun _ _=>rfl)) (au cb (vr 2) (ax ar (vr 1) aj (fun _ _=>rfl))))) (af (bJ (bx fm (au df (vr 3) (vr 4)) (vr 2) (aC _)) (ak (aw (aM (aa (aY (aa (vr 3) (aa (vr 4) ae))) (aa (aM (aa aj (aa aj ae))) (aa (ao G_ah hr rfl T.m_ah T.F_ah.kp T.B_ah .nil aq (aa (au df (vr 3) (vr 4)) (aa (vr 2) ae))) ae)))))) aJ) (ak (aw (aM (aa (aY (aa (au dR (vr 2) (vr 4)) (aa (au dR (vr 2) (vr 3)) ae))) (aa (aM (aa aj (aa aj ae))) (aa (ao G_ah hr rfl T.m_ah T.F_ah.kp T.B_ah .nil aq (aa (au dR (au df (vr 3) (vr 4)) (vr 2)) (aa (vr 2) ae))) ae)))))))))),pW ?_⟩
  intro zt5 zt4 zt3 zt2
  have hg:=(low c.2 e.2 (by lia)).1
  have hg2:=(low c.2 e.2 (by lia)).2.1
  refine px1 hpc.sq (px1 hpe.sq ⟨clB (by lia) (by lia),px1 hpc.sq (px1 hpe.sq ⟨c.2,e.2,rfl,by lia,by lia,cdB hg (gM (by lia) (by lia)),?_⟩)⟩)
  dsimp only
  rw[qY (show 0<c.2 by lia) (show 0<e.2 by lia)]
  refine px0 hpc.sq (px1 hpc.sq ⟨cdB (by lia) (gM (by lia) (by lia)),clB (by lia) (by lia),?_⟩)
  refine px0 hpe.sq (px1 hpe.sq ⟨cdB (by lia) (gM (by lia) (by lia)),clB (by lia) (by lia),?_⟩)
  refine ifC (fun hlt=>?_) fun hlt=>?_
  ·have hlt:duA c e+duB c e<bD c.2 e.2:=hlt
   have hL:duL c e=true:=decide_eq_true hlt
   refine ⟨aP _ _,fun sl fs=>?_⟩
   have s1:=Same.new (o:=.lst [.int (duA c e),.int (duB c e)]) fs
   refine ⟨aP _ _,fun ne fn=>?_⟩
   have s2:=Same.new (o:=.tup [.int 0,.int 1]) fn
   refine ⟨duA c e+duB c e,bD c.2 e.2,rfl,d0,gM (by lia) (by lia),gM (by lia) (by lia),fun H2 p s3 hp=>?_⟩
   refine ⟨by show 3≤sizeLine; decide,fun p1 f1=>?_⟩
   have s4:=Same.new (o:=.tup [.ref sl,.ref ne,.ref p]) f1
   have hR:duR c e=cI (duA c e+duB c e) (bD c.2 e.2):=by unfold duR; rw[if_pos hL]
   have hE:duE c e=(0,1):=by unfold duE; rw[if_pos hL]
   refine q _ p1 sl ne p ((s1.trans s2).trans (s3.trans s4)) fs ac ?_ ?_ ?_
   ·rw[show du1 c e=duA c e by unfold du1; rw[if_pos hL],show du2 c e=duB c e by unfold du2; rw[if_pos hL]]; exact (s2.trans (s3.trans s4)) _ _ ac
   ·rw[hE]; exact (s3.trans s4) _ _ ac
   ·rw[hR]; exact s4 _ _ hp
  ·have hlt:¬duA c e+duB c e<bD c.2 e.2:=hlt
   have hL:duL c e=false:=decide_eq_false hlt
   have hL':¬duL c e=true:=by rw[hL]; decide
   refine ⟨aP _ _,fun sl fs=>?_⟩
   have s1:=Same.new (o:=.lst [.int (bD c.2 e.2 - duB c e),.int (bD c.2 e.2 - duA c e)]) fs
   refine ⟨aP _ _,fun ne fn=>?_⟩
   have s2:=Same.new (o:=.tup [.int 1,.int 1]) fn
   refine ⟨duA c e+duB c e - bD c.2 e.2,bD c.2 e.2,rfl,d0,gM (by lia) (by lia),gM (by lia) (by lia),fun H2 p s3 hp=>?_⟩
   refine ⟨by show 3≤sizeLine; decide,fun p1 f1=>?_⟩
   have s4:=Same.new (o:=.tup [.ref sl,.ref ne,.ref p]) f1
   have hR:duR c e=cI (duA c e+duB c e - bD c.2 e.2) (bD c.2 e.2):=by unfold duR; rw[if_neg hL']
   have hE:duE c e=(1,1):=by unfold duE; rw[if_neg hL']
   refine q _ p1 sl ne p ((s1.trans s2).trans (s3.trans s4)) fs ac ?_ ?_ ?_
   ·rw[show du1 c e=bD c.2 e.2 - duB c e by unfold du1; rw[if_neg hL'],show du2 c e=bD c.2 e.2 - duA c e by unfold du2; rw[if_neg hL']]; exact (s2.trans (s3.trans s4)) _ _ ac
   ·rw[hE]; exact (s3.trans s4) _ _ ac
   ·rw[hR]; exact s4 _ _ hp
end
def Srt(ns kept:List Int):Prop:=ns.Perm kept∧ns.Pairwise (·≤·)
def IsTold(a:Ad)(H:Hp)(v:V)(kept:List Int):Prop:=∃ x dx t ns,v=.ref x∧H x=some (.ins a.c_g dx [("rising",.ref t)])∧H t=some (.tup (ns.map V.int))∧Srt ns kept
theorem IsTold.t{a:Ad}{H H':Hp}{v:V}{kept:List Int}(s:SameT H H')(h:IsTold a H v kept):IsTold a H' v kept:=by
 obtain ⟨x,dx,t,ns,h1,h2,h3,h4⟩:=h
 exact ⟨x,dx,t,ns,h1,s.at h2,s.at h3,h4⟩
def LstI(H:Hp)(v:V)(ns:List Int):Prop:=∃ l,v=.ref l∧H l=some (.lst (ns.map V.int))
theorem LstI.t{H H':Hp}{v:V}{ns:List Int}(s:SameT H H')(h:LstI H v ns):LstI H' v ns:=by
 obtain ⟨l,h1,h2⟩:=h
 exact ⟨l,h1,s.at h2⟩
theorem IsF.t{K:Frag}{H H':Hp}{f:Int×Int}{x:V}(s:SameT H H')(h:IsF K H f x):IsF K H' f x:=let ⟨p,e,q⟩:=h; ⟨p,e,q.imp (fun z=>s.at z) id⟩
abbrev fvS:List Str:=["told","taken"]
abbrev fvA:List Str:=["taken","place"]
abbrev fvB:List Str:=["taken"]
def PrAt(K:Frag)(H:Hp)(x:Int×(Int×Int))(v:V):Prop:=∃ q y,v=.ref q∧H q=some (.tup [.int x.1,y])∧IsF K H x.2 y
theorem PrAt.t{K:Frag}{H H':Hp}(s:SameT H H')(x:Int×(Int×Int))(v:V)(h:PrAt K H x v):PrAt K H' x v:=let ⟨q,y,h1,h2,h3⟩:=h; ⟨q,y,h1,s.at h2,h3.t s⟩
theorem mR{α β:Type}{r:α→β→Prop}{cs:List α}{ds:List β}(h2:Paired r cs ds):∀{as:List α}{bs:List β},Paired r as bs→Paired r (as++cs) (bs++ds):=fun h=>mM h h2
def TlAt(K:Frag)(H:Hp)(v:V)(tl:Tl):Prop:=∃ l xs,v=.ref l∧H l=some (.lst xs)∧Paired (PrAt K H) tl xs
theorem TlAt.t{K:Frag}{H H':Hp}{v:V}{tl:Tl}(s:SameT H H')(h:TlAt K H v tl):TlAt K H' v tl:=let ⟨l,xs,h1,h2,h3⟩:=h; ⟨l,xs,h1,s.at h2,aH (PrAt.t s) h3⟩
def BB(B:Int):Prop:=0<B∧B≤1000000000
def IsMk(K:Frag)(H:Hp)(f:V)(S:Tl×List Int):Prop :=
 (∃ vt vk tl tk B,IsLam H ld_settled_make_1 fvS f [vt,vk]∧TlAt K H vt tl∧LstI H vk tk∧BB B∧WfS B tl tk∧S=cc tl tk) ∨
 (∃ vk p tk,IsLam H ld_last_die_1 fvA f [vk,.int p]∧LstI H vk tk∧tk.length<24∧S=([],tk++[p])) ∨
 (∃ vk tk,IsLam H ld_last_die_2 fvB f [vk]∧LstI H vk tk∧tk.length≤24∧S=([],tk))
theorem IsMk.t{K:Frag}{H H':Hp}{f:V}{S:Tl×List Int}(s:SameT H H')(h:IsMk K H f S):IsMk K H' f S:=by
 rcases h with ⟨vt,vk,tl,tk,B,h1,h2,h3,h4⟩ | ⟨vk,p,tk,h1,h2,h3⟩ | ⟨vk,tk,h1,h2,h3⟩
 ·exact .inl ⟨vt,vk,tl,tk,B,h1.t s,h2.t s,h3.t s,h4⟩
 ·exact .inr (.inl ⟨vk,p,tk,h1.t s,h2.t s,h3⟩)
 ·exact .inr (.inr ⟨vk,tk,h1.t s,h2.t s,h3⟩)
def IsDie(K:Frag)(a:Ad)(H:Hp)(v:V)(m1 m2:Int)(S1 S2:Tl×List Int):Prop:=∃ x dx l p1 p2 f1 f2,v=.ref x∧H x=some (.ins a.c_i dx [("makes",.ref l)])∧H l=some (.lst [.ref p1,.ref p2])∧H p1=some (.tup [.int m1,f1])∧H p2=some (.tup [.int m2,f2])∧IsMk K H f1 S1∧IsMk K H f2 S2
theorem IsDie.t{K:Frag}{a:Ad}{H H':Hp}{v:V}{m1 m2:Int}{S1 S2:Tl×List Int}(s:SameT H H')(h:IsDie K a H v m1 m2 S1 S2):IsDie K a H' v m1 m2 S1 S2:=by
 obtain ⟨x,dx,l,p1,p2,f1,f2,h1,h2,h3,h4,h5,h6,h7⟩:=h
 exact ⟨x,dx,l,p1,p2,f1,f2,h1,s.at h2,s.at h3,s.at h4,s.at h5,h6.t s,h7.t s⟩
def IsNode(K:Frag)(a:Ad)(H:Hp)(v:V)(S:Tl×List Int):Prop:=(S.1=[]∧IsTold a H v S.2)∨(S.1≠[]∧IsDie K a H v (sz1 S.1) (sz2 S.1) (nx true S.1 S.2) (nx false S.1 S.2))
theorem IsNode.t{K:Frag}{a:Ad}{H H':Hp}{v:V}{S:Tl×List Int}(s:SameT H H')(h:IsNode K a H v S):IsNode K a H' v S:=h.imp (fun ⟨x,y⟩=>⟨x,y.t s⟩) fun ⟨x,y⟩=>⟨x,y.t s⟩
def nA(N:Addr→Prop)(v:V):Prop:=∀ l,v=.ref l→N l
def IsMkN(K:Frag)(N:Addr→Prop)(H:Hp)(f:V)(S:Tl×List Int):Prop :=
 (∃ vt vk tl tk B,IsLam H ld_settled_make_1 fvS f [vt,vk]∧TlAt K H vt tl∧LstI H vk tk∧BB B∧WfS B tl tk∧S=cc tl tk∧nA N vt∧nA N vk) ∨
 (∃ vk p tk,IsLam H ld_last_die_1 fvA f [vk,.int p]∧LstI H vk tk∧tk.length<24∧S=([],tk++[p])∧nA N vk) ∨
 (∃ vk tk,IsLam H ld_last_die_2 fvB f [vk]∧LstI H vk tk∧tk.length≤24∧S=([],tk)∧nA N vk)
theorem IsMkN.w{K:Frag}{N:Addr→Prop}{H:Hp}{f:V}{S:Tl×List Int}(h:IsMkN K N H f S):IsMk K H f S:=by
 rcases h with ⟨vt,vk,tl,tk,B,h1,h2,h3,h4,h5,h6,_⟩ | ⟨vk,p,tk,h1,h2,h3,h4,_⟩ | ⟨vk,tk,h1,h2,h3,h4,_⟩
 ·exact .inl ⟨vt,vk,tl,tk,B,h1,h2,h3,h4,h5,h6⟩
 ·exact .inr (.inl ⟨vk,p,tk,h1,h2,h3,h4⟩)
 ·exact .inr (.inr ⟨vk,tk,h1,h2,h3,h4⟩)
theorem IsMkN.t{K:Frag}{N:Addr→Prop}{H H':Hp}{f:V}{S:Tl×List Int}(s:SameT H H')(h:IsMkN K N H f S):IsMkN K N H' f S:=by
 rcases h with ⟨vt,vk,tl,tk,B,h1,h2,h3,h4⟩ | ⟨vk,p,tk,h1,h2,h3⟩ | ⟨vk,tk,h1,h2,h3⟩
 ·exact .inl ⟨vt,vk,tl,tk,B,h1.t s,h2.t s,h3.t s,h4⟩
 ·exact .inr (.inl ⟨vk,p,tk,h1.t s,h2.t s,h3⟩)
 ·exact .inr (.inr ⟨vk,tk,h1.t s,h2.t s,h3⟩)
def wT(K:Frag)(a:Ad)(N:Addr→Prop)(H:Hp)(v:V)(m1 m2:Int)(S1 S2:Tl×List Int):Prop:=∃ x dx l p1 p2 f1 f2,v=.ref x∧H x=some (.ins a.c_i dx [("makes",.ref l)])∧H l=some (.lst [.ref p1,.ref p2])∧H p1=some (.tup [.int m1,f1])∧H p2=some (.tup [.int m2,f2])∧IsMkN K N H f1 S1∧IsMkN K N H f2 S2∧N l
def IsNodeN(K:Frag)(a:Ad)(N:Addr→Prop)(H:Hp)(v:V)(S:Tl×List Int):Prop:=(S.1=[]∧IsTold a H v S.2)∨(S.1≠[]∧wT K a N H v (sz1 S.1) (sz2 S.1) (nx true S.1 S.2) (nx false S.1 S.2))
theorem IsNodeN.w{K:Frag}{a:Ad}{N:Addr→Prop}{H:Hp}{v:V}{S:Tl×List Int}(h:IsNodeN K a N H v S):IsNode K a H v S:=by
 rcases h with h | ⟨h0,x,dx,l,p1,p2,f1,f2,h1,h2,h3,h4,h5,h6,h7,_⟩
 ·exact .inl h
 ·exact .inr ⟨h0,x,dx,l,p1,p2,f1,f2,h1,h2,h3,h4,h5,h6.w,h7.w⟩
theorem IsNodeN.t{K:Frag}{a:Ad}{N:Addr→Prop}{H H':Hp}{v:V}{S:Tl×List Int}(s:SameT H H')(h:IsNodeN K a N H v S):IsNodeN K a N H' v S:=by
 rcases h with ⟨h0,h⟩ | ⟨h0,x,dx,l,p1,p2,f1,f2,h1,h2,h3,h4,h5,h6,h7,h8⟩
 ·exact .inl ⟨h0,h.t s⟩
 ·exact .inr ⟨h0,x,dx,l,p1,p2,f1,f2,h1,s.at h2,s.at h3,s.at h4,s.at h5,h6.t s,h7.t s,h8⟩
theorem jS{H:Hp}{D:Addr}{ys zs:List V}(e:H D=some (.lst ys)):∀{clos:List (Str×Addr)}{vals:List V},CellsAt H clos vals→CellsAt (upd H D (.lst zs)) clos vals
 | _,_,.nil=>.nil
 | _,_,.cons r t=>.cons (by rw[ag (fun z=>by rw[z,e]at r; cases r)]; exact r) (jS e t)
theorem IsLam.put{H:Hp}{D:Addr}{ys zs:List V}{d:LamD}{fv:List Str}{f:V}{vals:List V}(e:H D=some (.lst ys))(h:IsLam H d fv f vals):IsLam (upd H D (.lst zs)) d fv f vals:=by
 obtain ⟨f',c,clos,h1,h2,h3,h4,h5,h6⟩:=h
 exact ⟨f',c,clos,h1,by rw[ag (fun z=>by rw[z,e]at h2; cases h2)]; exact h2,by rw[ag (fun z=>by rw[z,e]at h3; cases h3)]; exact h3,h4,h5,jS e h6⟩
theorem LstI.put{H:Hp}{D:Addr}{zs:List V}{v:V}{ns:List Int}(n:nA (·≠D) v)(h:LstI H v ns):LstI (upd H D (.lst zs)) v ns:=by
 obtain ⟨l,h1,h2⟩:=h
 exact ⟨l,h1,by rw[ag (n l h1)]; exact h2⟩
theorem PrAt.put{K:Frag}{H:Hp}{D:Addr}{ys zs:List V}(e:H D=some (.lst ys))(x:Int×(Int×Int))(v:V)(h:PrAt K H x v):PrAt K (upd H D (.lst zs)) x v:=by
 obtain ⟨q,y,h1,h2,p,h3,h4⟩:=h
 exact ⟨q,y,h1,by rw[ag (fun z=>by rw[z,e]at h2; cases h2)]; exact h2,p,h3,h4.imp (fun z=>by rw[ag (fun w=>by rw[w,e]at z; cases z)]; exact z) id⟩
theorem TlAt.put{K:Frag}{H:Hp}{D:Addr}{ys zs:List V}{v:V}{tl:Tl}(e:H D=some (.lst ys))(n:nA (·≠D) v)(h:TlAt K H v tl):TlAt K (upd H D (.lst zs)) v tl:=by
 obtain ⟨l,xs,h1,h2,h3⟩:=h
 exact ⟨l,xs,h1,by rw[ag (n l h1)]; exact h2,aH (PrAt.put e) h3⟩
theorem IsMkN.put{K:Frag}{N:Addr→Prop}{H:Hp}{D:Addr}{ys zs:List V}{f:V}{S:Tl×List Int}(e:H D=some (.lst ys))(n:∀ b,N b→b≠D)(h:IsMkN K N H f S):IsMkN K N (upd H D (.lst zs)) f S:=by
 have g:∀ v,nA N v→nA (·≠D) v:=fun v hv l hl=>n l (hv l hl)
 rcases h with ⟨vt,vk,tl,tk,B,h1,h2,h3,h4,h5,h6,h7,h8⟩ | ⟨vk,p,tk,h1,h2,h3,h4,h5⟩ | ⟨vk,tk,h1,h2,h3,h4,h5⟩
 ·exact .inl ⟨vt,vk,tl,tk,B,h1.put e,h2.put e (g _ h7),h3.put (g _ h8),h4,h5,h6,h7,h8⟩
 ·exact .inr (.inl ⟨vk,p,tk,h1.put e,h2.put (g _ h5),h3,h4,h5⟩)
 ·exact .inr (.inr ⟨vk,tk,h1.put e,h2.put (g _ h5),h3,h4,h5⟩)
theorem IsNodeN.put{K:Frag}{a:Ad}{N:Addr→Prop}{H:Hp}{D:Addr}{ys zs:List V}{v:V}{S:Tl×List Int}(e:H D=some (.lst ys))(n:∀ b,N b→b≠D)(h:IsNodeN K a N H v S):IsNodeN K a N (upd H D (.lst zs)) v S:=by
 rcases h with ⟨h0,x,dx,t,ns,h1,h2,h3,h4⟩ | ⟨h0,x,dx,l,p1,p2,f1,f2,h1,h2,h3,h4,h5,h6,h7,h8⟩
 ·exact .inl ⟨h0,x,dx,t,ns,h1,by rw[ag (fun z=>by rw[z,e]at h2; cases h2)]; exact h2,by rw[ag (fun z=>by rw[z,e]at h3; cases h3)]; exact h3,h4⟩
 ·exact .inr ⟨h0,x,dx,l,p1,p2,f1,f2,h1,by rw[ag (fun z=>by rw[z,e]at h2; cases h2)]; exact h2,by rw[ag (n l h8)]; exact h3,by rw[ag (fun z=>by rw[z,e]at h4; cases h4)]; exact h4,by rw[ag (fun z=>by rw[z,e]at h5; cases h5)]; exact h5,h6.put e n,h7.put e n,h8⟩
inductive spToldI(a:Ad)(vs:List V)(H:Hp)(Q:VK)(_E:XK):Prop
 | mk(x dx l:Addr)(ns:List Int)(h0:vs=[.ref x,.ref l])(h1:H x=some (.ins a.c_g dx []))(h2:H l=some (.lst (ns.map V.int)))(h3:ns.length<64)(h4:∀ H' t ns',(∀ b o,b≠x→H b=some o→H' b=some o)→H' x=some (.ins a.c_g dx [("rising",.ref t)])→H' t=some (.tup (ns'.map V.int))→Srt ns' ns→Q .non H'):spToldI a vs H Q _E
inductive spDieI(a:Ad)(vs:List V)(H:Hp)(Q:VK)(_E:XK):Prop
 | mk(x dx l:Addr)(xs:List V)(h0:vs=[.ref x,.ref l])(h1:H x=some (.ins a.c_i dx []))(h2:H l=some (.lst xs))(h3:∀ H' t,(∀ b o,b≠x→H b=some o→H' b=some o)→H' x=some (.ins a.c_i dx [("makes",.ref t)])→H' t=some (.lst xs)→H t=none→Q .non H'):spDieI a vs H Q _E
def rf(a:Ad):Sp:=fun vs H Q _=>∃ vt vk,vs=[vt,vk]∧TabsOk (tabs a) H∧∀ H' f,SameT H H'→TabsOk (tabs a) H'→IsLam H' ld_settled_make_1 fvS f [vt,vk]→Q f H'
def rT(K:Frag)(a:Ad):Sp:=fun vs H Q _=>∃ v vk p c tk N,vs=[v,vk]∧PrAt K H (p,c) v∧LstI H vk tk∧tk.length<24∧TabsOk (tabs a) H∧(∀ b,H b=none→N b)∧nA N vk∧∀ H' u,SameT H H'→TabsOk (tabs a) H'→IsNodeN K a N H' u ([(p,c)],tk)→Q u H'
section
variable {P:Program}{w:World}{K:Frag}{mg:Str→Option Value}{base:Heap}{a:Ad}
theorem xM(n:Nat):([n+1,n+1+1]:List Nat).Nodup:=by
 simp only[nodup_cons,mem_cons,not_mem_nil,or_false,not_or,not_false_eq_true,nodup_nil,and_true]
 lia
theorem kB(T:Txt K mg a):FnOk P w K mg base CX0 1 a.i_g a.e_g ["self","kept"] (spToldI a):=by
 refine T.Fi_g.ok g7 (fun vs H Q E h=>?_) (fun cdv A outer s H vs Q E hr h=>?_)
 ·obtain ⟨x,dx,l,ns,rfl,_⟩:=h; rfl
 ·obtain ⟨x,dx,l,ns,rfl,hx,hl,hn,q⟩:=h
  refine ⟨_,(ak (mw (vr 0) (aL dG rfl T.z_tuple gA (aa (az eV rfl T.z_sorted g9 (aa (vr 1) ae)) ae)) rfl)),?_⟩
  refine ⟨l,ns,rfl,SqL.of hl,hn,fun p ns' hp hs fp=>?_⟩
  have s1:=Same.new (o:=.lst (ns'.map V.int)) fp
  refine ⟨p,_,rfl,.inl ⟨SqL.of ac,fun t ft=>?_⟩⟩
  have s2:=Same.new (o:=.tup (ns'.map V.int)) ft
  have s12:=s1.trans s2
  have nt:t≠x:=fun z=>by rw[z,s1 _ _ hx]at ft; cases ft
  refine ⟨x,a.c_g,dx,[],rfl,s12 _ _ hx,T.cl_g,T.na_Told_rising,(by decide),?_⟩
  exact q _ t ns' (fun b o n e=>by rw[ag n]; exact s12 _ _ e) ac (by rw[ag nt]; exact ac) ⟨hp,hs⟩
theorem qu(T:Txt K mg a):FnOk P w K mg base CX0 1 a.i_i a.e_i ["self","parts"] (spDieI a):=by
 refine T.Fi_i.ok ik (fun vs H Q E h=>?_) (fun cdv A outer s H vs Q E hr h=>?_)
 ·obtain ⟨x,dx,l,xs,rfl,_⟩:=h; rfl
 ·obtain ⟨x,dx,l,xs,rfl,hx,hl,q⟩:=h
  refine ⟨_,(ak (mw (vr 0) (aL dh rfl T.z_list di (aa (vr 1) ae)) rfl)),?_⟩
  refine ⟨l,xs,rfl,.inl (SqL.of hl),fun t ft=>?_⟩
  have s1:=Same.new (o:=.lst xs) ft
  have nt:t≠x:=fun z=>by rw[z,hx]at ft; cases ft
  refine ⟨x,a.c_i,dx,[],rfl,s1 _ _ hx,T.cl_i,T.na_Die_makes,(by decide),?_⟩
  exact q _ t (fun b o n e=>by rw[ag n]; exact s1 _ _ e) ac (by rw[ag nt]; exact ac) ft
theorem made{H1 H':Hp}{x dx:Addr}{o1 o2:HO}(hx:H1 x=none)(hd:H1 dx=none)(k:∀ b o,b≠x→(upd (upd H1 dx o1) x o2) b=some o→H' b=some o):Same H1 H':=fun b o e=>by
 refine k b o (am e hx) ?_
 rw[ag (am e hx),ag (am e hd)]
 exact e
theorem uW(T:Txt K mg a)(hB:Bm mg base):FnOk P w K mg base CX0 1 a.f_e a.d_e ["told","taken"] (rf a):=by
 refine T.F_e.okL T.lcd_e io (by decide +kernel) (fun vs H Q E h=>?_) (fun A outer s H vs Q E hr h=>?_)
 ·obtain ⟨vt,vk,rfl,_⟩:=h; rfl
 ·obtain ⟨vt,vk,rfl,hT,q⟩:=h
  refine ⟨_,(se (kd (d:=ld_settled_make_1) rfl T.lch_e hB rfl (by with_unfolding_all rfl) rfl (ip a) (.head _) T.tnd im)),?_⟩
  refine ⟨hT,fun f1 c1 H2 t2 hT2 n1 ef1 ec1=>?_⟩
  exact fun H3 s3 hc=>q _ _ (t2.trans s3.t) (hT2.same s3) ⟨f1,c1,_,rfl,s3 _ _ ef1,s3 _ _ ec1,rfl,xM _,.cons (hc 0 _ _ _ rfl rfl (by with_unfolding_all rfl)) (.cons (hc 1 _ _ _ rfl rfl (by with_unfolding_all rfl)) .nil)⟩
theorem ur(T:Txt K mg a)(hB:Bm mg base):FnOk P w K mg base CX0 3 a.f_j a.d_j ["last","taken"] (rT K a):=by
 have G_i:FnOk P w K mg base CX0 1 _ _ _ (spDieI a):=qu T
 refine T.F_j.okL T.lcd_j sc_j (by decide +kernel) (fun vs H Q E h=>?_) (fun A outer s H vs Q E hr h=>?_)
 ·obtain ⟨v,vk,p,c,tk,N,rfl,_⟩:=h; rfl
 ·obtain ⟨v,vk,p,c,tk,N,rfl,⟨q0,y,rfl,hq0,hc⟩,hk,hlk,hT,hN,nk,q⟩:=h
  refine ⟨_,(j9 (dQ (vr 0) (du rfl (ay (ap (i:=2) sc_j.nd rfl (Or.inr rfl)) (ay (ap (i:=3) sc_j.nd rfl (Or.inl rfl)) bA)))) (se (fO T.mk_i G_i hr rfl T.mc_i T.Bi_i .nil aq (aa (aY (aa (aM (aa (ax ar (vr 3) aj (fun _ _=>rfl)) (aa (kd (d:=ld_last_die_1) rfl T.lch_j hB rfl (by with_unfolding_all rfl) rfl (ii a) (.head _) T.tnd hU) ae))) (aa (aM (aa (au dR (ax ar (vr 3) aj (fun _ _=>rfl)) (ax ar (vr 3) aj (fun _ _=>rfl))) (aa (kd (d:=ld_last_die_2) rfl T.lch_j hB rfl (by with_unfolding_all rfl) rfl (ii a) (.tail _ (.head _)) T.tnd hU) ae))) ae))) ae)))),?_⟩
  refine ⟨q0,_,rfl,SqT.of hq0,rfl,_,_,rfl,_,_,rfl,rfl,?_⟩
  obtain ⟨pc,rfl,hpc⟩:=id hc
  have pcat:∀{H':Hp},SameT H H'→PT K H' pc c:=fun s=>by obtain ⟨_,z,h⟩:=hc.t s; cases z; exact h
  refine px0 hpc.sq ?_
  refine ⟨hT,fun f1 c1 H2 t2 hT2 n1 ef1 ec1=>?_⟩
  refine ⟨(by decide:2≤sizeLine),fun p1 hp1=>?_⟩
  have s3:=Same.new (o:=.tup [.int c.1,.ref f1]) hp1
  have ep1:(upd H2 p1 (.tup [.int c.1,.ref f1])) p1=some (.tup [.int c.1,.ref f1]):=ac
  generalize upd H2 p1 (.tup [.int c.1,.ref f1])=H3 at s3 ep1
  have t3:=t2.trans s3.t
  refine px1 (pcat t3).sq (px0 (pcat t3).sq ?_)
  refine ⟨hT2.same s3,fun f2 c2 H4 t4 hT4 n2 ef2 ec2=>?_⟩
  refine ⟨(by decide:2≤sizeLine),fun p2 hp2=>?_⟩
  have s5:=Same.new (o:=.tup [.int (c.2 - c.1),.ref f2]) hp2
  have ep2:(upd H4 p2 (.tup [.int (c.2 - c.1),.ref f2])) p2=some (.tup [.int (c.2 - c.1),.ref f2]):=ac
  generalize upd H4 p2 (.tup [.int (c.2 - c.1),.ref f2])=H5 at s5 ep2
  refine ⟨(by decide:2≤sizeLine),fun l0 hl0=>?_⟩
  have s6:=Same.new (o:=.lst [.ref p1,.ref p2]) hl0
  have el0:(upd H5 l0 (.lst [.ref p1,.ref p2])) l0=some (.lst [.ref p1,.ref p2]):=ac
  generalize upd H5 l0 (.lst [.ref p1,.ref p2])=H6 at s6 el0
  intro x dx hx hdx hne
  have s0:Same H6 (upd (upd H6 dx (.own x)) x (.ins a.c_i dx [])):=fun b o e=>by rw[ag (am e hx),ag (am e hdx)]; exact e
  refine ⟨x,dx,l0,_,rfl,ac,s0 _ _ el0,fun H7 l k g1 g2 gl=>⟨rfl,fun H8 s8 hc'=>?_⟩⟩
  have s7:=made hx hdx k
  have s68:=s7.trans s8
  have s58:=s6.trans s68
  have t48:=s5.trans s58
  have t38:=t4.trans t48.t
  have t28:=s3.t.trans t38
  have t18:=t2.trans t28
  have cT:=hc' 1 _ _ _ rfl rfl (by with_unfolding_all rfl)
  have cP:=hc' 2 _ _ _ rfl rfl (by with_unfolding_all rfl)
  refine q _ _ t18 (hT4.same t48) (.inr ⟨by simp,x,dx,l,p1,p2,.ref f1,.ref f2,rfl,s8 _ _ g1,s8 _ _ g2,t38.at ep1,s58 _ _ ep2,.inr (.inl ⟨vk,p,tk,?_,hk.t t18,hlk,rfl,nk⟩),.inr (.inr ⟨vk,tk,?_,hk.t t18,by lia,rfl,nk⟩),hN _ ((t2.trans (s3.t.trans (t4.trans (s5.trans s6).t))).free (s0.free gl))⟩)
  ·exact ⟨f1,c1,_,rfl,t28.at ef1,t28.at ec1,rfl,xM _,.cons cT (.cons cP .nil)⟩
  ·exact ⟨f2,c2,_,rfl,t48 _ _ ef2,t48 _ _ ec2,rfl,by simp,.cons cT .nil⟩
end
theorem gp{H H':Hp}{D:Addr}(s:SameT H H'):SameT (untr H D) (untr H' D):=fun b o e=>by
 by_cases hb:b=D
 ·rw[hb,cy]at e; cases e
 ·rw[aD hb]at e ⊢
  exact s b o e
theorem cut_put{H:Hp}{D:Addr}{o:HO}:SameT (untr H D) (untr (upd H D o) D):=fun b o' e=>by
 by_cases hb:b=D
 ·rw[hb,cy]at e; cases e
 ·rw[aD hb]at e
  rw[aD hb,ag hb]
  exact SameT.refl b o' e
theorem cut_sub{H:Hp}{D:Addr}:SameT (untr H D) H:=fun b o' e=>by
 by_cases hb:b=D
 ·rw[hb,cy]at e; cases e
 ·rw[aD hb]at e
  exact SameT.refl b o' e
theorem sT{H:Hp}{D:Addr}{o:HO}:SameT (untr H D) (upd H D o):=fun b o' e=>by
 by_cases hb:b=D
 ·rw[hb,cy]at e; cases e
 ·rw[aD hb]at e
  rw[ag hb]
  exact SameT.refl b o' e
theorem IsLam.cut{H:Hp}{D:Addr}{ys:List V}{d:LamD}{fv:List Str}{f:V}{vals:List V}(hD:H D=some (.lst ys))(h:IsLam H d fv f vals):IsLam (untr H D) d fv f vals:=by
 obtain ⟨f',c,clos,g1,g2,g3,g4,g5,g6⟩:=h
 have ne:∀ b φ,H b=some (.ext φ)→b≠D:=fun b φ e z=>by rw[z,hD]at e; cases e
 refine ⟨f',c,clos,g1,by rw[aD (ne _ _ g2)]; exact g2,by rw[aD (ne _ _ g3)]; exact g3,g4,g5,?_⟩
 clear g2 g3 g4 g5
 induction g6 with
 | nil=>exact .nil
 | cons r _ ih=>exact .cons (by rw[aD (ne _ _ r)]; exact r) ih
theorem PrAt.cut{K:Frag}{H:Hp}{D:Addr}{ys:List V}(hD:H D=some (.lst ys))(x:Int×(Int×Int))(v:V)(h:PrAt K H x v):PrAt K (untr H D) x v:=by
 obtain ⟨q,y,h1,h2,p,h3,h4⟩:=h
 have ne:∀ b us,H b=some (.tup us)→b≠D:=fun b φ e z=>by rw[z,hD]at e; cases e
 exact ⟨q,y,h1,by rw[aD (ne _ _ h2)]; exact h2,p,h3,h4.imp (fun z=>by rw[aD (ne _ _ z)]; exact z) id⟩
def RowM(K:Frag)(N:Addr→Prop)(H:Hp)(r:Int×(Tl×List Int))(y:V):Prop:=∃ q f,y=.ref q∧H q=some (.tup [.int r.1,f])∧IsMkN K N H f r.2
theorem RowM.t{K:Frag}{N:Addr→Prop}{H H':Hp}(s:SameT H H')(r:Int×(Tl×List Int))(y:V)(h:RowM K N H r y):RowM K N H' r y:=let ⟨q,f,h1,h2,h3⟩:=h; ⟨q,f,h1,s.at h2,h3.t s⟩
theorem lO{α β:Type}{r:α→β→Prop}{as:List α}{x:α}{i:Nat}{ys:List β}{y:β}(h:Paired r (as.take i) ys)(e:as[i]? = some x)(q:r x y):Paired r (as.take (i+1)) (ys++[y]):=by
 rw[take_add_one,e]
 exact cJ q h
def qX(K:Frag)(a:Ad):Sp:=fun vs H Q _=>∃ vt vk tl tk B N,vs=[vt,vk]∧TlAt K H vt tl∧LstI H vk tk∧BB B∧WfT B tl tk∧TabsOk (tabs a) H∧(∀ b,H b=none→N b)∧nA N vt∧nA N vk∧∀ H' u,SameT H H'→TabsOk (tabs a) H'→IsNodeN K a N H' u (tl,tk)→Q u H'
def rm(K:Frag)(a:Ad):Sp:=fun vs H Q _=>∃ vt vk tl tk B N,vs=[vt,vk]∧TlAt K H vt tl∧LstI H vk tk∧BB B∧WfS B tl tk∧TabsOk (tabs a) H∧(∀ b,H b=none→N b)∧nA N vt∧nA N vk∧∀ H' u,SameT H H'→TabsOk (tabs a) H'→IsNodeN K a N H' u (cc tl tk)→Q u H'
def nu(K:Frag)(a:Ad):Sp:=fun vs H Q _=>∃ vt vk tl tk B,vs=[vt,vk]∧TlAt K H vt tl∧LstI H vk tk∧BB B∧WfS B tl tk∧TabsOk (tabs a) H∧∀ H' u,SameT H H'→TabsOk (tabs a) H'→IsNode K a H' u (cc tl tk)→Q u H'
section
variable {P:Program}{w:World}{K:Frag}{mg:Str→Option Value}{base:Heap}{a:Ad}
theorem jg(a b c d:Int):PyData.eqv (.tuple [.int a,.int b]) (.tuple [.int c,.int d])=decide ((a,b)=(c,d)):=by
 simp[PyData.eqv,PyData.eqvAll]
 rfl
theorem va(T:Txt K mg a)(hB:Bm mg base):FnOk P w K mg base CX0 4 a.f_M a.d_M ["told","taken"] (qX K a):=by
 have G_g:FnOk P w K mg base CX0 2 _ _ _ _:=(kB T).mono (by decide)
 have G_i:FnOk P w K mg base CX0 2 _ _ _ _:=(qu T).mono (by decide)
 have G_j:FnOk P w K mg base CX0 3 _ _ _ (rT K a):=ur T hB
 have G_G:FnOk P w K mg base CX0 3 _ _ _ (spDuP K):=xt T
 have G_e:FnOk P w K mg base CX0 3 _ _ _ _:=(uW T hB).mono (by decide)
 refine T.F_M.ok sc_M (fun vs H Q E h=>?_) (fun cdv A outer s H vs Q E hr h=>?_)
 ·obtain ⟨vt,vk,tl,tk,B,N,rfl,_⟩:=h; rfl
 ·obtain ⟨vt,vk,tl,tk,B,N,rfl,⟨lt,xs,rfl,hlt,hP⟩,⟨lk,rfl,hlk⟩,hBB,hwf,hT,hN,ntt,nk,q⟩:=h
  have small:sizeLine=16777216:=sizeLine_eq
  refine ⟨_,(af (bJ (dZ (lE (vr 0) (fun _=>rfl))) (ak (aw (fO T.mk_g G_g hr rfl T.mc_g T.Bi_g .nil aq (aa (vr 1) ae)))) aJ) (af (bJ (bx jo (az aE rfl T.z_len bI (aa (vr 0) ae)) aj (aC _)) (ak (aw (ao G_j hr rfl T.m_j T.F_j.kp T.B_j .nil aq (aa (ax ar (vr 0) aj (fun _ _=>rfl)) (aa (vr 1) ae))))) aJ) (af (dQ (ax ar (vr 0) aj (fun _ _=>rfl)) (du rfl (ay (ap (i:=2) sc_M.nd rfl (Or.inr rfl)) (ay (ap (i:=3) sc_M.nd rfl (Or.inl rfl)) bA)))) (af (dQ (ax ar (vr 0) aj (fun _ _=>rfl)) (du rfl (ay (ap (i:=4) sc_M.nd rfl (Or.inr rfl)) (ay (ap (i:=5) sc_M.nd rfl (Or.inl rfl)) bA)))) (ak (aw (fO T.mk_i G_i hr rfl T.mc_i T.Bi_i .nil aq (aa (bf rfl (N:=["many","left","its_left","taken","told","place","other"]) (ix:=[none,none,none,some 1,some 0,some 2,some 4]) ⟨rfl,rfl,rfl,rfl,⟨rfl,rfl,rfl,⟨rfl,rfl,rfl,⟨rfl,rfl,rfl,⟨rfl,rfl,rfl,trivial⟩⟩⟩⟩⟩ (bj (ao G_G hr rfl T.m_G T.F_G.kp T.B_G .nil aq (aa (vr 3) (aa (vr 5) ae)))) ⟨fun C s H fp=>(dF (K:=K) (n:=3) rfl rfl (ay (ap (i:=0) (show List.Nodup (["many","left","its_left","taken","told","place","other"]:List Str) by decide +kernel) rfl (Or.inl rfl)) (ay (ap (i:=1) (show List.Nodup (["many","left","its_left","taken","told","place","other"]:List Str) by decide +kernel) rfl (Or.inl rfl)) (ay (ap (i:=2) (show List.Nodup (["many","left","its_left","taken","told","place","other"]:List Str) by decide +kernel) rfl (Or.inl rfl)) bA)))),fun C s H fp=>bi,fun C s H fp=>(aM (aa (vr 0) (aa (ao G_e hr rfl T.m_e T.F_e.kp T.B_e .nil aq (aa (au iE (aY (aa (aM (aa (vr 5) (aa (vr 1) ae))) (aa (aM (aa (vr 6) (aa (vr 2) ae))) ae))) (gL (uw (K:=K) rfl) (vr 4) (iz aj) iA)) (aa (vr 3) ae))) ae)))⟩) ae)))))))),pW ?_⟩
  intro zt5 zt4 zt3 zt2
  cases hP with
  | nil =>
   refine ⟨_,.inl ⟨_,SqL.of hlt,rfl⟩,?_⟩
   intro x dx hx hdx hne
   have s0:Same H (upd (upd H dx (.own x)) x (.ins a.c_g dx [])):=fun b o e=>by rw[ag (am e hx),ag (am e hdx)]; exact e
   have:=hwf.2
   refine ⟨x,dx,lk,tk,rfl,ac,s0 _ _ hlk,by simp at this; lia,fun H' t ns' k h1 h2 h3=>⟨rfl,?_⟩⟩
   have sm:=made hx hdx k
   exact q _ _ sm.t (hT.same sm) (.inl ⟨rfl,x,dx,t,ns',rfl,h1,h2,h3⟩)
  | @cons r1 v1 tl1 xs1 g1 hP1 =>
   obtain ⟨p,c⟩:=r1
   refine ⟨_,.inl ⟨_,SqL.of hlt,rfl⟩,?_⟩
   refine ⟨_,.inl (SqL.of hlt),?_⟩
   cases hP1 with
   | nil =>
    refine .inl ⟨lt,_,_,_,rfl,rfl,SqL.of hlt,aB 0 rfl rfl,?_⟩
    have:=hwf.2
    exact ⟨v1,.ref lk,p,c,tk,N,rfl,g1,⟨lk,rfl,hlk⟩,by simp at this; lia,hT,hN,nk,fun H' u t hT' n=>q _ _ t hT' n⟩
   | @cons r2 v2 tl2 xs2 g2 hP2 =>
    obtain ⟨o,e⟩:=r2
    obtain ⟨q1,y1,rfl,hq1,hc⟩:=g1
    obtain ⟨q2,y2,rfl,hq2,he⟩:=g2
    refine .inl ⟨lt,_,_,_,rfl,rfl,SqL.of hlt,aB 0 rfl rfl,q1,_,rfl,SqT.of hq1,rfl,_,_,rfl,_,_,rfl,rfl,?_⟩
    refine .inl ⟨lt,_,_,_,rfl,rfl,SqL.of hlt,aB 1 rfl rfl,q2,_,rfl,SqT.of hq2,rfl,_,_,rfl,_,_,rfl,rfl,?_⟩
    have w1:=hwf.1 _ (mem_cons_self ..)
    have w2:=hwf.1 _ (mem_cons_of_mem _ (mem_cons_self ..))
    refine ⟨y1,y2,c,e,rfl,hc,he,⟨B,hBB.1,hBB.2,w1.1,w2.1,w1.2,w2.2⟩,fun H2 l p1 p2 x1 z1 x2 z2 s2 fl hl h1 h2 i1 i2 i3 i4=>?_⟩
    refine .inl ⟨⟨_,SqL.of hl⟩,fun D hD=>?_⟩
    have hT2:=hT.same s2
    have wS:=fun b=>rP hBB.1 hwf b
    have hTD:TabsOk (tabs a) (upd H2 D (.lst [])):=hT2.same (Same.new hD)
    have ext:∀{H':Hp},TabsOk (tabs a) H'→∀{ys:List V}{ys':List V},H' D=some (.lst ys)→TabsOk (tabs a) (upd H' D (.lst ys')):=fun hT' ys ys' e=>hT'.put (fun ps z=>by rw[e]at z; cases z) fun φ z=>by rw[e]at z; cases z
    let Pw1:PvL:=fun i ys H'=>SameT H2 H'∧TabsOk (tabs a) H'∧H' D=some (.lst ys)∧i≤2∧Paired (RowM K N (untr H' D)) (([(du1 c e,nx true ((p,c)::(o,e)::tl2) tk),(du2 c e,nx false ((p,c)::(o,e)::tl2) tk)]:List (Int×(Tl×List Int))).take i) ys
    refine aK (K:=K) (a:=l) (xs:=[.ref p1,.ref p2]) Pw1
     ⟨(Same.new hD).t,hTD,ac,Nat.zero_le _,.nil⟩ (fun i ys H' h=>SqL.of (h.1.at hl)) (fun i ys H' h=>h.2.2.1) ?_ ?_
    ·rintro i y ys H' P' hy ⟨t1,hT1,hD1,hi,hc'⟩ hP'
     obtain ⟨b,m,pp,xl,zl,rfl,hpp,ixl,izl,hrow⟩:∃(b:Bool) (m:Int) (pp:Addr) (xl zl:V),y=.ref pp∧H2 pp=some (.tup [.int m,xl,zl])∧IsF K H2 (par b c e).1 xl∧IsF K H2 (par b c e).2 zl∧([(du1 c e,nx true ((p,c)::(o,e)::tl2) tk),(du2 c e,nx false ((p,c)::(o,e)::tl2) tk)]:List (Int×(Tl×List Int)))[i]? = some (m,nx b ((p,c)::(o,e)::tl2) tk):=by
      match i,hy with
      | 0,hy=>cases hy; exact ⟨true,_,p1,x1,z1,rfl,h1,i1,i2,rfl⟩
      | 1,hy=>cases hy; exact ⟨false,_,p2,x2,z2,rfl,h2,i3,i4,rfl⟩
     have t02:=s2.t.trans t1
     have ylen:ys.length≤2:=by rw[← hc'.length,length_take]; simp only[length_cons,length_nil]; lia
     refine ⟨pp,_,rfl,SqT.of (t1.at hpp),rfl,_,_,rfl,_,_,rfl,_,_,rfl,rfl,⟨rfl,rfl,rfl,rfl,trivial⟩,?_⟩
     refine ⟨aP _ _,fun a1 fa1=>?_⟩
     have u1:=Same.new (o:=.tup [.int p,xl]) fa1
     refine ⟨aP _ _,fun a2 fa2=>?_⟩
     have u2:=Same.new (o:=.tup [.int o,zl]) fa2
     refine ⟨aP _ _,fun a3 fa3=>?_⟩
     have u3:=Same.new (o:=.lst [.ref a1,.ref a2]) fa3
     have u13:=u1.trans (u2.trans u3)
     refine ⟨_,rfl,.inl ⟨_,SqL.of (u13 _ _ (t02.at hlt)),fun a4 fa4=>?_⟩⟩
     have u4:=Same.new (o:=.lst (dg (.ref q1::.ref q2::xs2) (some 2) none)) fa4
     have ecut:dg (.ref q1::.ref q2::xs2) (some 2) none=xs2:=oZ _ 2
     have l2:xs2.length≤24:=by have:=hwf.2; have:=hP2.length; simp only[length_cons]at *; lia
     refine ⟨a3,a4,_,_,rfl,rfl,u4 _ _ ac,ac,by rw[ecut]; show 2+xs2.length≤sizeLine; lia,fun a5 fa5=>?_⟩
     have u5:=Same.new (o:=.lst ([.ref a1,.ref a2]++dg (.ref q1::.ref q2::xs2) (some 2) none)) fa5
     have u15:=u13.trans (u4.trans u5)
     refine ⟨.ref a5,.ref lk,rfl,hT1.same u15,fun H9 f t9 hT9 hf=>?_⟩
     refine ⟨aP _ _,fun a6 fa6=>?_⟩
     have u6:=Same.new (o:=.tup [.int m,f]) fa6
     have t19:=u15.t.trans (t9.trans u6.t)
     have hDn:=t19.at hD1
     have na6:a6≠D:=fun z=>by rw[z]at fa6; rw[(u15.t.trans t9).at hD1]at fa6; cases fa6
     have ha5:(upd H9 a6 (.tup [.int m,f])) a5=some (.lst ([.ref a1,.ref a2]++dg (.ref q1::.ref q2::xs2) (some 2) none)):=(t9.trans u6.t).at ac
     have na5:a5≠D:=fun z=>by
      rw[z]at fa5
      rw[(u13.trans u4) _ _ hD1]at fa5
      cases fa5
     have ha1:(upd H9 a6 (.tup [.int m,f])) a1=some (.tup [.int p,xl]):=(((u2.trans u3).trans (u4.trans u5)).t.trans (t9.trans u6.t)).at ac
     have ha2:(upd H9 a6 (.tup [.int m,f])) a2=some (.tup [.int o,zl]):=((u3.trans (u4.trans u5)).t.trans (t9.trans u6.t)).at ac
     have nlk:lk≠D:=fun z=>by rw[z]at hlk; rw[s2 _ _ hlk]at hD; cases hD
     have hlk9:(upd H9 a6 (.tup [.int m,f])) lk=some (.lst (tk.map V.int)):=(t02.trans t19).at hlk
     refine ⟨hDn,by lia,hP' _ _ ⟨(t1.trans t19).put hD,ext (hT9.same u6) hDn,ac,by have:=(List.getElem?_eq_some_iff.mp hrow).1; simp only[length_cons,length_nil]at this; lia,lO (aH (RowM.t ((gp t19).trans cut_put)) hc') hrow (RowM.t cut_put _ _ ⟨a6,f,rfl,by rw[aD na6]; exact ac,.inl ⟨.ref a5,.ref lk,_,tk,B,(hf.t u6.t).cut hDn,⟨a5,_,rfl,by rw[aD na5]; exact ha5,?_⟩,⟨lk,rfl,by rw[aD nlk]; exact hlk9⟩,hBB,wS b,rfl,(fun l hl=>by cases hl; exact hN _ (t02.free ((u13.trans u4).free fa5))),nk⟩⟩)⟩⟩
     rw[ecut]
     exact .cons (PrAt.cut hDn _ _ ⟨a1,xl,rfl,ha1,ixl.t (t1.trans t19)⟩) (.cons (PrAt.cut hDn _ _ ⟨a2,zl,rfl,ha2,izl.t (t1.trans t19)⟩) (aH (fun x v h=>PrAt.cut hDn _ _ (PrAt.t (t02.trans t19) _ _ h)) hP2))
    ·rintro ys H' ⟨t1,hT1,hD1,hi,hc'⟩
     cases hc' with
     | cons ra hc2=>cases hc2 with
      | cons rb hc3=>cases hc3 with
       | nil =>
        obtain ⟨qa,fa,rfl,hqa,mka⟩:=ra.t cut_sub
        obtain ⟨qb,fb,rfl,hqb,mkb⟩:=rb.t cut_sub
        intro x dx hx hdx hne
        have s0:Same H' (upd (upd H' dx (.own x)) x (.ins a.c_i dx [])):=fun b o e=>by rw[ag (am e hx),ag (am e hdx)]; exact e
        refine ⟨x,dx,D,_,rfl,ac,s0 _ _ hD1,fun H7 l' k g1 g2 gl=>⟨rfl,?_⟩⟩
        have s7:=made hx hdx k
        exact q _ _ (s2.t.trans (t1.trans s7.t)) (hT1.same s7) (.inr ⟨by simp,x,dx,l',qa,qb,fa,fb,rfl,g1,g2,s7 _ _ hqa,s7 _ _ hqb,mka.t s7.t,mkb.t s7.t,hN _ ((s2.t.trans t1).free (s0.free gl))⟩)
theorem jj(T:Txt K mg a)(hB:Bm mg base):FnOk P w K mg base CX0 5 a.f_X a.d_X ["told","taken"] (rm K a):=by
 have G_M:FnOk P w K mg base CX0 4 _ _ _ (qX K a):=va T hB
 have G_Q:FnOk P w K mg base CX0 4 _ _ _ _:=(rW T).mono (by decide)
 refine T.F_X.ok sc_X (fun vs H Q E h=>?_) (fun cdv A outer s H vs Q E hr h=>?_)
 ·obtain ⟨vt,vk,tl,tk,B,N,rfl,_⟩:=h; rfl
 ·obtain ⟨vt,vk,tl,tk,B,N,rfl,⟨lt,xs,rfl,hlt,hP⟩,⟨lk,rfl,hlk⟩,hBB,hwf,hT,hN,ntt,nk,q⟩:=h
  have small:sizeLine=16777216:=sizeLine_eq
  refine ⟨_,(af (fg rfl (i:=2) sc_X.nd rfl rfl (by with_unfolding_all rfl) (N:=["place","chance"]) (ix:=[none,none]) ⟨rfl,rfl,rfl,rfl,trivial⟩ (bj (vr 0)) ⟨fun C s H fp=>(dF (K:=K) (n:=2) rfl rfl (ay (ap (i:=0) (show List.Nodup (["place","chance"]:List Str) by decide +kernel) rfl (Or.inl rfl)) (ay (ap (i:=1) (show List.Nodup (["place","chance"]:List Str) by decide +kernel) rfl (Or.inl rfl)) bA))),fun C s H fp=>eA (bx (pS (K:=K) rfl hr.units) (vr 1) (cN rfl T.g_WHOLE) (aC _)),fun C s H fp=>(vr 0)⟩) (ak (aw (ao G_M hr rfl T.m_M T.F_M.kp T.B_M .nil aq (aa (bf rfl (N:=["place","chance"]) (ix:=[none,none]) ⟨rfl,rfl,rfl,rfl,trivial⟩ (bj (vr 0)) ⟨fun C s H fp=>(dF (K:=K) (n:=2) rfl rfl (ay (ap (i:=0) (show List.Nodup (["place","chance"]:List Str) by decide +kernel) rfl (Or.inl rfl)) (ay (ap (i:=1) (show List.Nodup (["place","chance"]:List Str) by decide +kernel) rfl (Or.inl rfl)) bA))),fun C s H fp=>eA (dN (ao G_Q hr rfl T.m_Q T.F_Q.kp T.B_Q .nil aq (aa (vr 1) ae))),fun C s H fp=>(aM (aa (vr 0) (aa (vr 1) ae)))⟩) (aa (au iE (vr 1) (vr 2)) ae)))))),fi ?_⟩
  intro zt2
  refine .inl ⟨⟨_,SqL.of hlt⟩,fun D hD=>?_⟩
  let Pw2:PvL:=fun i zs H'=>Same H H'∧H' D=some (.lst zs)∧i≤tl.length∧zs=(((tl.take i).filter fun x=>whl x.2).map (·.1)).map V.int
  refine aK (K:=K) (a:=lt) (xs:=xs) Pw2 ⟨Same.new hD,ac,Nat.zero_le _,rfl⟩ (fun i ys H' h=>SqL.of (h.1 _ _ hlt)) (fun i ys H' h=>h.2.1) ?_ ?_
  ·rintro i y zs H' P' hy ⟨s1,hD1,hi,rfl⟩ hP'
   obtain ⟨⟨p,c⟩,hpt,q1,yc,rfl,hq1,hc⟩:=cm hP hy
   have ilt:i<tl.length:=(List.getElem?_eq_some_iff.mp hpt).1
   refine ⟨q1,_,rfl,SqT.of (s1 _ _ hq1),rfl,_,_,rfl,_,_,rfl,rfl,?_⟩
   obtain ⟨pc,rfl,hpc⟩:=hc.same s1
   refine ⟨trivial,.tuple [.int c.1,.int c.2],.tuple [.int 1,.int 1],fc hpc.sq,fc (qE T.t_WHOLE),dc _ _,dc _ _,?_⟩
   rw[jg]
   refine ifC (fun hh=>?_) fun hh=>?_
   ·have hw:whl c=true:=decide_eq_true (show c=(1,1) from hh)
    refine ⟨hD1,?_,hP' _ _ ⟨s1.put hD,ac,ilt,?_⟩⟩
    ·rw[length_map,length_map]
     have:=length_filter_le (fun x:Int×(Int×Int)=>whl x.2) (tl.take i)
     have:=hwf.2
     rw[length_take]at *
     lia
    ·rw[take_add_one,hpt]
     simp[hw]
   ·have hw:whl c=false:=decide_eq_false (show ¬c=(1,1) from hh)
    refine hP' _ _ ⟨s1,hD1,ilt,?_⟩
    rw[take_add_one,hpt]
    simp[hw]
  ·rintro zs H' ⟨s1,hD1,_,rfl⟩
   rw[show xs.length=tl.length from hP.length.symm,take_length]at hD1
   refine .inl ⟨⟨_,SqL.of (s1 _ _ hlt)⟩,fun D2 hD2=>?_⟩
   have nD:D2≠D:=fun z=>by rw[z,hD1]at hD2; cases hD2
   let Pw3:PvL:=fun i zs H2=>Same H' H2∧H2 D2=some (.lst zs)∧i≤tl.length∧Paired (PrAt K H2) ((tl.take i).filter fun x=>uns x.2) zs
   refine aK (K:=K) (a:=lt) (xs:=xs) Pw3 ⟨Same.new hD2,ac,Nat.zero_le _,.nil⟩ (fun i ys H2 h=>SqL.of (h.1 _ _ (s1 _ _ hlt))) (fun i ys H2 h=>h.2.1) ?_ ?_
   ·rintro i y zs H2 P' hy ⟨s2,hD3,hi,hzs⟩ hP'
    obtain ⟨⟨p,c⟩,hpt,q1,yc,rfl,hq1,hc⟩:=cm hP hy
    have ilt:i<tl.length:=(List.getElem?_eq_some_iff.mp hpt).1
    have s12:=s1.trans s2
    refine ⟨q1,_,rfl,SqT.of (s12 _ _ hq1),rfl,_,_,rfl,_,_,rfl,rfl,trivial,?_⟩
    refine ⟨yc,c,rfl,hc.same s12,?_⟩
    have zl:zs.length≤24:=by
     rw[← hzs.length]
     have:=length_filter_le (fun x:Int×(Int×Int)=>uns x.2) (tl.take i)
     have:=hwf.2
     rw[length_take]at *
     lia
    refine ifB (fun hu=>?_) fun hu=>?_
    ·refine ⟨aP _ _,fun q3 f3=>?_⟩
     have s3:=Same.new (o:=.tup [.int p,yc]) f3
     have hD4:=s3 _ _ hD3
     have n3:q3≠D2:=fun z=>by rw[z,hD3]at f3; cases f3
     refine ⟨hD4,by lia,hP' _ _ ⟨(s2.trans s3).put hD2,ac,ilt,?_⟩⟩
     rw[take_add_one,hpt,filter_append]
     refine mR ?_ (aH (fun x v h=>((h.t s3.t).cut hD4).t sT) hzs)
     simp only[Option.toList,filter_cons,hu,if_pos,List.filter_nil]
     refine .cons ⟨q3,yc,rfl,by rw[ag n3]; exact ac,?_⟩ .nil
     have h':PrAt K (upd (upd H2 q3 (.tup [.int p,yc])) D2 (.lst (zs++[.ref q3]))) (p,c) (.ref q1):=(PrAt.cut hD4 _ _ (PrAt.t (s12.trans s3).t _ _ ⟨q1,yc,rfl,hq1,hc⟩)).t sT
     obtain ⟨_,y',z1,z2,z3⟩:=h'
     cases z1
     have n1:q1≠D2:=fun z=>by rw[z]at hq1; rw[s12 _ _ hq1]at hD3; cases hD3
     rw[ag n1,(s12.trans s3) _ _ hq1]at z2
     cases z2
     exact z3
    ·refine hP' _ _ ⟨s2,hD3,ilt,?_⟩
     rw[take_add_one,hpt,filter_append]
     simp only[Option.toList,filter_cons,hu,List.filter_nil]
     simpa using hzs
   ·rintro zs H2 ⟨s2,hD3,_,hzs⟩
    rw[show xs.length=tl.length from hP.length.symm,take_length]at hzs
    have s12:=s1.trans s2
    have hlen:=(iy hwf).2
    refine ⟨lk,D,_,_,rfl,rfl,s12 _ _ hlk,s2 _ _ hD1,?_,fun r fr=>?_⟩
    ·have hlen:((cc tl tk).2).length≤24:=by lia
     simp only[cc,length_append,length_map]at hlen ⊢
     lia
    rw[← map_append]
    have s3:=Same.new (o:=.lst ((tk++(tl.filter fun x=>whl x.2).map (·.1)).map V.int)) fr
    have s13:=s12.trans s3
    exact ⟨.ref D2,.ref r,(cc tl tk).1,(cc tl tk).2,B,N,rfl,⟨D2,_,rfl,s3 _ _ hD3,aH (PrAt.t s3.t) hzs⟩,⟨r,rfl,ac⟩,hBB,iy hwf,hT.same s13,(fun b hb=>hN b (s13.free hb)),(fun l hl=>by cases hl; exact hN _ (s1.free hD2)),(fun l hl=>by cases hl; exact hN _ (s12.free fr)),fun H3 u t hT3 n=>q _ _ (s13.t.trans t) hT3 n⟩
theorem kR(T:Txt K mg a)(hB:Bm mg base):FnOk P w K mg base CX0 5 a.f_X a.d_X ["told","taken"] (nu K a) :=
 (jj T hB).imp fun vs H Q E h=>by
  obtain ⟨vt,vk,tl,tk,B,h1,h2,h3,h4,h5,h6,q⟩:=h
  exact ⟨vt,vk,tl,tk,B,fun _=>True,h1,h2,h3,h4,h5,h6,fun _ _=>trivial,fun _ _=>trivial,fun _ _=>trivial,fun H' u t hT n=>q H' u t hT n.w⟩
end
theorem TabsOk.untrs{tabs:la}{H:Hp}{clos:List (Str×Addr)}{vals:List V}(hT:TabsOk tabs H)(ca:CellsAt H clos vals):TabsOk tabs (untrs H (clos.map (·.2))):=fun q hq=>by
 obtain ⟨ps,e1,e2,e3⟩:=hT q hq
 exact ⟨ps,cx ca e1 (fun v z=>nomatch z),e2,fun l hl=>(e3 l hl).imp id fun ⟨c,x,y⟩=>⟨c,x,cx ca y fun v=>j5⟩⟩
theorem back{H H' H3:Hp}{clos:List (Str×Addr)}(s:SameT (untrs H (clos.map (·.2))) H')(s3:Same H' H3)(hc:∀ p∈clos,H3 p.2=H p.2):SameT H H3:=fun b o e=>by
 by_cases hb:b∈clos.map (·.2)
 ·obtain ⟨p,hp,rfl⟩:=mem_map.mp hb
  rw[hc p hp,e]
  exact ⟨fun _=>rfl,o,rfl⟩
 ·exact (s.trans s3.t) b o (by rw[fM hb]; exact e)
def sqO:HO→Bool
 | .lst _=>true
 | .tup _=>true
 | _=>false
theorem PrAt.m{K:Frag}{H H':Hp}(s:∀ b o,sqO o=true→H b=some o→H' b=some o)(x:Int×(Int×Int))(v:V)(h:PrAt K H x v):PrAt K H' x v:=by
 obtain ⟨q,y,h1,h2,p,h3,h4⟩:=h
 exact ⟨q,y,h1,s _ _ rfl h2,p,h3,h4.imp (fun z=>s _ _ rfl z) id⟩
theorem TlAt.m{K:Frag}{H H':Hp}{v:V}{tl:Tl}(s:∀ b o,sqO o=true→H b=some o→H' b=some o)(h:TlAt K H v tl):TlAt K H' v tl:=let ⟨l,xs,h1,h2,h3⟩:=h; ⟨l,xs,h1,s _ _ rfl h2,aH (PrAt.m s) h3⟩
theorem LstI.m{H H':Hp}{v:V}{ns:List Int}(s:∀ b o,sqO o=true→H b=some o→H' b=some o)(h:LstI H v ns):LstI H' v ns:=let ⟨l,h1,h2⟩:=h; ⟨l,h1,s _ _ rfl h2⟩
def sZ(K:Frag)(a:Ad):List V→Sp:=fun vals vs H Q _=>∃ vt vk tl tk B,vals=[vt,vk]∧vs=[]∧TlAt K H vt tl∧LstI H vk tk∧BB B∧WfS B tl tk∧TabsOk (tabs a) H∧∀ H' u,SameT H H'→TabsOk (tabs a) H'→IsNode K a H' u (cc tl tk)→Q u H'
def ua(K:Frag)(a:Ad):List V→Sp:=fun vals vs H Q _=>∃ vk p tk,vals=[vk,.int p]∧vs=[]∧LstI H vk tk∧tk.length<24∧TabsOk (tabs a) H∧∀ H' u,SameT H H'→TabsOk (tabs a) H'→IsNode K a H' u ([],tk++[p])→Q u H'
def uH(K:Frag)(a:Ad):List V→Sp:=fun vals vs H Q _=>∃ vk tk,vals=[vk]∧vs=[]∧LstI H vk tk∧tk.length≤24∧TabsOk (tabs a) H∧∀ H' u,SameT H H'→TabsOk (tabs a) H'→IsNode K a H' u ([],tk)→Q u H'
theorem lsS:LamScope ld_settled_make_1 fvS []:=⟨rfl,rfl,rfl,by decide +kernel,by decide +kernel,by decide +kernel,by decide +kernel,by decide +kernel⟩
theorem lsA:LamScope ld_last_die_1 fvA []:=⟨rfl,rfl,rfl,by decide +kernel,by decide +kernel,by decide +kernel,by decide +kernel,by decide +kernel⟩
theorem lsB:LamScope ld_last_die_2 fvB []:=⟨rfl,rfl,rfl,by decide +kernel,by decide +kernel,by decide +kernel,by decide +kernel,by decide +kernel⟩
inductive spIsW(vs:List V)(H:Hp)(Q:VK)(_E:XK):Prop
 | mk(i lo hi:Int)(h0:vs=[.int i,.int lo,.int hi])(h1:Q (.bl (decide (lo≤i∧i≤hi))) H):spIsW vs H Q _E
def spV(u:V):Sp:=fun vs H Q _=>∃ v,vs=[v]∧Q u H
def wo(a:Ad):Sp:=fun vs H Q _=>∃ x dx t,vs=[.ref x]∧H x=some (.ins a.c_g dx [("rising",.ref t)])∧Q (.ref t) H
def xC:Sp:=fun vs H Q _=>∃ v,vs=[v]∧∀ p,H p=none→Q (.ref p) (upd H p (.lst []))
def v3(K:Frag)(a:Ad):Sp:=fun vs H Q _=>∃ v m1 m2 S1 S2,vs=[v]∧IsDie K a H v m1 m2 S1 S2∧∀ H',Same H H'→Q (.int (m1+m2)) H'
def r6(K:Frag)(a:Ad):Sp:=fun vs H Q _=>∃ v m1 m2 S1 S2,∃ t:Int,vs=[v,.int t]∧IsDie K a H v m1 m2 S1 S2∧0≤t∧t<m1+m2∧∀ H',Same H H'→Q (.bl true) H'
def xQ(K:Frag)(a:Ad):Sp:=fun vs H Q _=>∃ v m1 m2 S1 S2,vs=[v]∧IsDie K a H v m1 m2 S1 S2∧TabsOk (tabs a) H∧∀ H' r q1 q2 n1 n2,SameT H H'→TabsOk (tabs a) H'→H r=none→H' r=some (.lst [.ref q1,.ref q2])→H' q1=some (.tup [.int m1,n1])→H' q2=some (.tup [.int m2,n2])→Q (.ref r) H'
def wV(K:Frag)(a:Ad):Sp:=fun vs H Q _=>∃ v m1 m2 S1 S2,∃ t:Int,vs=[v,.int t]∧IsDie K a H v m1 m2 S1 S2∧0≤t∧t<m1+m2∧TabsOk (tabs a) H∧∀ H' v',SameT H H'→TabsOk (tabs a) H'→IsNode K a H' v' (if t<m1 then S1 else S2)→Q v' H'
section
variable {P:Program}{w:World}{K:Frag}{mg:Str→Option Value}{base:Heap}{a:Ad}
theorem vE(T:Txt K mg a)(hB:Bm mg base):d8 P w K mg base 6 ld_settled_make_1 fvS [] (sZ K a):=by
 have G_X:FnOk P w K mg base CX0 5 _ _ _ (nu K a):=kR T hB
 refine ko lsS (fun pm ctv clos c us hl=>match us,hl with | [],_=>rfl) (fun vals vs H Q E h=>?_) (fun A outer s H f c clos vals vs Q E hr hfv ca h=>?_)
 ·obtain ⟨vt,vk,tl,tk,B,rfl,rfl,_⟩:=h; rfl
 ·obtain ⟨vt,vk,tl,tk,B,rfl,rfl,ht,hk,hBB,hwf,hT,q⟩:=h
  refine ⟨_,(ao G_X hr rfl T.m_X T.F_X.kp T.B_X .nil aq (aa (vr 0) (aa (vr 1) ae))),?_⟩
  have m:∀ b o,sqO o=true→H b=some o→untrs H (clos.map (·.2)) b=some o:=fun b o n e=>cx ca e fun v z=>by rw[z]at n; cases n
  refine ⟨vt,vk,tl,tk,B,rfl,ht.m m,hk.m m,hBB,hwf,TabsOk.untrs hT ca,fun H' v t' hT3 few=>fun H3 s3 hc=>?_⟩
  exact q _ _ (back t' s3 hc) (hT3.same s3) (few.t s3.t)
theorem vU(T:Txt K mg a)(hB:Bm mg base):d8 P w K mg base 6 ld_last_die_1 fvA [] (ua K a):=by
 have G_g:FnOk P w K mg base CX0 4 _ _ _ _:=(kB T).mono (by decide)
 refine ko lsA (fun pm ctv clos c us hl=>match us,hl with | [],_=>rfl) (fun vals vs H Q E h=>?_) (fun A outer s H f c clos vals vs Q E hr hfv ca h=>?_)
 ·obtain ⟨vk,p,tk,rfl,rfl,_⟩:=h; rfl
 ·obtain ⟨vk,p,tk,rfl,rfl,⟨lk,rfl,hlk⟩,hlen,hT,q⟩:=h
  have small:sizeLine=16777216:=sizeLine_eq
  refine ⟨_,(fO T.mk_g G_g hr rfl T.mc_g T.Bi_g .nil aq (aa (au iE (vr 0) (aY (aa (vr 1) ae))) ae)),?_⟩
  have hlk':=cx ca hlk fun v z=>nomatch z
  have hT':=TabsOk.untrs hT ca
  refine ⟨by show 1≤sizeLine; decide,fun l1 f1=>?_⟩
  have s1:=Same.new (o:=.lst [.int p]) f1
  refine ⟨lk,l1,_,_,rfl,rfl,s1 _ _ hlk',ac,by rw[length_map]; show _+1≤sizeLine; lia,fun l2 f2=>?_⟩
  have s2:=s1.trans (Same.new (o:=.lst (tk.map V.int++[.int p])) f2)
  have h2:(upd (upd (untrs H (clos.map (·.2))) l1 (.lst [.int p])) l2 (.lst (tk.map V.int++[.int p]))) l2=some (.lst ((tk++[p]).map V.int)):=by rw[map_append]; exact ac
  generalize upd (upd (untrs H (clos.map (·.2))) l1 (.lst [.int p])) l2 (.lst (tk.map V.int++[.int p]))=H2 at s2 h2
  intro x dx hx hdx hne
  have s0:Same H2 (upd (upd H2 dx (.own x)) x (.ins a.c_g dx [])):=fun b o e=>by rw[ag (am e hx),ag (am e hdx)]; exact e
  refine ⟨x,dx,l2,tk++[p],rfl,ac,s0 _ _ h2,by rw[length_append]; show _+1<64; lia,fun H' t ns' k g1 g2 g3=>⟨rfl,fun H3 s3 hc=>?_⟩⟩
  have sm:=s2.trans (made hx hdx k)
  exact q _ _ (back sm.t s3 hc) ((hT'.same sm).same s3) (.inl ⟨rfl,x,dx,t,ns',rfl,s3 _ _ g1,s3 _ _ g2,g3⟩)
theorem vw(T:Txt K mg a)(hB:Bm mg base):d8 P w K mg base 6 ld_last_die_2 fvB [] (uH K a):=by
 have G_g:FnOk P w K mg base CX0 4 _ _ _ _:=(kB T).mono (by decide)
 refine ko lsB (fun pm ctv clos c us hl=>match us,hl with | [],_=>rfl) (fun vals vs H Q E h=>?_) (fun A outer s H f c clos vals vs Q E hr hfv ca h=>?_)
 ·obtain ⟨vk,tk,rfl,rfl,_⟩:=h; rfl
 ·obtain ⟨vk,tk,rfl,rfl,⟨lk,rfl,hlk⟩,hlen,hT,q⟩:=h
  refine ⟨_,(fO T.mk_g G_g hr rfl T.mc_g T.Bi_g .nil aq (aa (vr 0) ae)),?_⟩
  have hlk':=cx ca hlk fun v z=>nomatch z
  have hT':=TabsOk.untrs hT ca
  generalize hH2:untrs H (clos.map (·.2))=H2 at hlk' hT'
  intro x dx hx hdx hne
  have s0:Same H2 (upd (upd H2 dx (.own x)) x (.ins a.c_g dx [])):=fun b o e=>by rw[ag (am e hx),ag (am e hdx)]; exact e
  refine ⟨x,dx,lk,tk,rfl,ac,s0 _ _ hlk',by lia,fun H' t ns' k g1 g2 g3=>⟨rfl,fun H3 s3 hc=>?_⟩⟩
  have sm:=made hx hdx k
  rw[← hH2]at sm
  exact q _ _ (back sm.t s3 hc) ((hT'.same (hH2 ▸ sm)).same s3) (.inl ⟨rfl,x,dx,t,ns',rfl,s3 _ _ g1,s3 _ _ g2,g3⟩)
theorem v7(T:Txt K mg a):FnOk P w K mg base CX0 1 a.f_T a.d_T ["thing","low","high"] spIsW:=by
 refine T.F_T.ok hZ (fun vs H Q E h=>?_) (fun cdv A outer s H vs Q E hr h=>?_)
 ·obtain ⟨i,lo,hi,rfl,_⟩:=h; rfl
 ·obtain ⟨i,lo,hi,rfl,q⟩:=h
  refine ⟨_,(ak (aw (fX (az ek rfl T.z_isinstance bN (aa (vr 0) (aa (fN (v:=.ty "int") rfl T.z_int iZ rfl) ae))) (fX (rD (az ek rfl T.z_isinstance bN (aa (vr 0) (aa (fN (v:=.ty "bool") rfl T.z_bool kq rfl) ae)))) (gZ (kz sK sK (vr 1) (vr 0) (vr 2))))))),?_⟩
  refine ⟨_,_,_,true,rfl,rfl,.int i,rfl,?_⟩
  refine ⟨_,_,_,false,rfl,rfl,.int i,rfl,?_⟩
  exact rq (Q:=fun v=>Q v H) q
theorem vx(T:Txt K mg a):FnOk P w K mg base CX0 1 a.x_p a.y_p ["self"] (spV (.bl true)):=by
 refine T.F_p.ok iu (fun vs H Q E h=>?_) (fun cdv A outer s H vs Q E hr h=>?_)
 ·obtain ⟨v,rfl,_⟩:=h; rfl
 ·obtain ⟨v,rfl,q⟩:=h
  exact ⟨_,(ak (aw dj)),q⟩
theorem vD(T:Txt K mg a):FnOk P w K mg base CX0 1 a.x_x a.y_x ["self"] (spV (.int 0)):=by
 refine T.F_x.ok ju (fun vs H Q E h=>?_) (fun cdv A outer s H vs Q E hr h=>?_)
 ·obtain ⟨v,rfl,_⟩:=h; rfl
 ·obtain ⟨v,rfl,q⟩:=h
  exact ⟨_,(ak (aw aj)),q⟩
theorem vP(T:Txt K mg a):FnOk P w K mg base CX0 1 a.x_C a.y_C ["self"] (wo a):=by
 refine T.F_C.ok kA (fun vs H Q E h=>?_) (fun cdv A outer s H vs Q E hr h=>?_)
 ·obtain ⟨x,dx,t,rfl,_⟩:=h; rfl
 ·obtain ⟨x,dx,t,rfl,hx,q⟩:=h
  exact ⟨_,(ak (aw (d7 (vr 0) rfl))),x,_,dx,_,_,rfl,hx,T.cl_g,T.na_Told_rising,rfl,q⟩
theorem ym(T:Txt K mg a):FnOk P w K mg base CX0 1 a.x_F a.y_F ["self"] xC:=by
 refine T.F_F.ok jy (fun vs H Q E h=>?_) (fun cdv A outer s H vs Q E hr h=>?_)
 ·obtain ⟨v,rfl,_⟩:=h; rfl
 ·obtain ⟨v,rfl,q⟩:=h
  exact ⟨_,(ak (aw (aY ae))),Nat.zero_le _,q⟩
theorem vB(T:Txt K mg a):FnOk P w K mg base CX0 1 a.x_s a.y_s ["self"] (spV (.bl false)):=by
 refine T.F_s.ok jd (fun vs H Q E h=>?_) (fun cdv A outer s H vs Q E hr h=>?_)
 ·obtain ⟨v,rfl,_⟩:=h; rfl
 ·obtain ⟨v,rfl,q⟩:=h
  exact ⟨_,(ak (aw dj)),q⟩
theorem vF(T:Txt K mg a):FnOk P w K mg base CX0 1 a.x_I a.y_I ["self"] (spV .non):=by
 refine T.F_I.ok lg (fun vs H Q E h=>?_) (fun cdv A outer s H vs Q E hr h=>?_)
 ·obtain ⟨v,rfl,_⟩:=h; rfl
 ·obtain ⟨v,rfl,q⟩:=h
  exact ⟨_,(ak (aw dr)),q⟩
theorem vK(T:Txt K mg a):FnOk P w K mg base CX0 1 a.x_D a.y_D ["self"] (v3 K a):=by
 refine T.F_D.ok kH (fun vs H Q E h=>?_) (fun cdv A outer s H vs Q E hr h=>?_)
 ·obtain ⟨v,m1,m2,S1,S2,rfl,_⟩:=h; rfl
 ·obtain ⟨v,m1,m2,S1,S2,rfl,⟨x,dx,l,p1,p2,f1,f2,rfl,hx,hl,h1,h2,_⟩,q⟩:=h
  have small:sizeLine=16777216:=sizeLine_eq
  refine ⟨_,(ak (aw (az (dY rfl) rfl T.z_sum gO (aa (bf rfl (N:=["many","make"]) (ix:=[none,none]) ⟨rfl,rfl,rfl,rfl,trivial⟩ (bj (d7 (vr 0) rfl)) ⟨fun C s H fp=>(dF (K:=K) (n:=2) rfl rfl (ay (ap (i:=0) (show List.Nodup (["many","make"]:List Str) by decide +kernel) rfl (Or.inl rfl)) (ay (ap (i:=1) (show List.Nodup (["many","make"]:List Str) by decide +kernel) rfl (Or.inl rfl)) bA))),fun C s H fp=>bi,fun C s H fp=>(vr 0)⟩) ae)))),?_⟩
  refine ⟨x,_,dx,_,_,rfl,hx,T.cl_i,T.na_Die_makes,rfl,.inl ⟨⟨_,SqL.of hl⟩,fun D hD=>?_⟩⟩
  let Pw1:PvL:=fun i ys H'=>Same H H'∧H' D=some (.lst ys)∧ys=([.int m1,.int m2]:List V).take i
  refine aK (K:=K) (a:=l) (xs:=[.ref p1,.ref p2]) Pw1 ⟨Same.new hD,ac,rfl⟩ (fun i ys H' h=>SqL.of (h.1 _ _ hl)) (fun i ys H' h=>h.2.1) ?_ ?_
  ·rintro i y ys H' P' hy ⟨s1,hD1,rfl⟩ hP
   match i,hy with
   | 0,hy =>
    cases hy
    refine ⟨p1,_,rfl,SqT.of (s1 _ _ h1),rfl,_,_,rfl,_,_,rfl,rfl,trivial,hD1,(show 0<sizeLine by decide),hP _ _ ⟨s1.put hD,ac,rfl⟩⟩
   | 1,hy =>
    cases hy
    refine ⟨p2,_,rfl,SqT.of (s1 _ _ h2),rfl,_,_,rfl,_,_,rfl,rfl,trivial,hD1,(show 1<sizeLine by decide),hP _ _ ⟨s1.put hD,ac,rfl⟩⟩
  ·rintro ys H' ⟨s1,hD1,rfl⟩
   refine ⟨D,[m1,m2],rfl,SqL.of hD1,?_⟩
   have e:([m1,m2]:List Int).sum=m1+m2:=by simp only[sum_cons,sum_nil]; lia
   rw[e]
   exact q _ s1
theorem qr(T:Txt K mg a):FnOk P w K mg base CX0 2 a.f_v a.d_v ["node","throw"] (r6 K a):=by
 have G_T:FnOk P w K mg base CX0 1 _ _ _ spIsW:=v7 T
 have G_x:FnOk P w K mg base CX0 1 _ _ _ (spV (.int 0)):=vD T
 have G_D:FnOk P w K mg base CX0 1 _ _ _ (v3 K a):=vK T
 refine T.F_v.ok gS (fun vs H Q E h=>?_) (fun cdv A outer s H vs Q E hr h=>?_)
 ·obtain ⟨v,m1,m2,S1,S2,t,rfl,_⟩:=h; rfl
 ·obtain ⟨v,m1,m2,S1,S2,t,rfl,hd,t0,t1,q⟩:=h
  obtain ⟨x,dx,l,p1,p2,f1,f2,rfl,hx,_⟩:=id hd
  refine ⟨_,(ak (aw (ao G_T hr rfl T.m_T T.F_T.kp T.B_T .nil aq (aa (vr 1) (aa aj (aa (au dR (PE.or (aR (vr 0) T.cl_g T.mt_x G_x hr T.B_x .nil aq) (aR (vr 0) T.cl_i T.mt_D G_D hr T.B_D .nil aq)) aj) ae)))))),?_⟩
  refine .inr ⟨x,dx,_,rfl,hx,rfl,_,m1,m2,S1,S2,rfl,hd,fun H' s1=>?_⟩
  refine ⟨t,0,m1+m2 - 1,rfl,?_⟩
  rw[decide_eq_true (show 0≤t∧t≤m1+m2 - 1 by lia)]
  exact q _ s1
theorem iD{H:Hp}{f:V}{S:Tl×List Int}{Q:VK}(hm:IsMk K H f S)(hT:TabsOk (tabs a) H)(q:∀ H' u,SameT H H'→TabsOk (tabs a) H'→IsNode K a H' u S→Q u H') :
  (∃ f' c clos vals,f=.ref f'∧H f'=some (.ext (fQ f' ld_settled_make_1 clos c))∧H c=some (.ext (er c ld_settled_make_1.qual))∧clos.map (·.1)=fvS∧(clos.map (·.2)).Nodup∧CellsAt H clos vals∧sZ K a vals [] H Q E0) ∨
  (∃ f' c clos vals,f=.ref f'∧H f'=some (.ext (fQ f' ld_last_die_1 clos c))∧H c=some (.ext (er c ld_last_die_1.qual))∧clos.map (·.1)=fvA∧(clos.map (·.2)).Nodup∧CellsAt H clos vals∧ua K a vals [] H Q E0) ∨
  (∃ f' c clos vals,f=.ref f'∧H f'=some (.ext (fQ f' ld_last_die_2 clos c))∧H c=some (.ext (er c ld_last_die_2.qual))∧clos.map (·.1)=fvB∧(clos.map (·.2)).Nodup∧CellsAt H clos vals∧uH K a vals [] H Q E0):=by
 rcases hm with ⟨vt,vk,tl,tk,B,⟨f',c,clos,rfl,e1,e2,e3,e4,e5⟩,h2,h3,h4,h5,rfl⟩ | ⟨vk,p,tk,⟨f',c,clos,rfl,e1,e2,e3,e4,e5⟩,h2,h3,rfl⟩ | ⟨vk,tk,⟨f',c,clos,rfl,e1,e2,e3,e4,e5⟩,h2,h3,rfl⟩
 ·exact .inl ⟨f',c,clos,_,rfl,e1,e2,e3,e4,e5,vt,vk,tl,tk,B,rfl,rfl,h2,h3,h4,h5,hT,q⟩
 ·exact .inr (.inl ⟨f',c,clos,_,rfl,e1,e2,e3,e4,e5,vk,p,tk,rfl,rfl,h2,h3,hT,q⟩)
 ·exact .inr (.inr ⟨f',c,clos,_,rfl,e1,e2,e3,e4,e5,vk,tk,rfl,rfl,h2,h3,hT,q⟩)
theorem yx(T:Txt K mg a)(hB:Bm mg base):FnOk P w K mg base CX0 7 a.x_K a.y_K ["self"] (xQ K a):=by
 have L_set:d8 P w K mg base 6 ld_settled_make_1 fvS [] (sZ K a):=vE T hB
 have L_la:d8 P w K mg base 6 ld_last_die_1 fvA [] (ua K a):=vU T hB
 have L_lb:d8 P w K mg base 6 ld_last_die_2 fvB [] (uH K a):=vw T hB
 refine T.F_K.ok kc (fun vs H Q E h=>?_) (fun cdv A outer s H vs Q E hr h=>?_)
 ·obtain ⟨v,m1,m2,S1,S2,rfl,_⟩:=h; rfl
 ·obtain ⟨v,m1,m2,S1,S2,rfl,⟨x,dx,l,p1,p2,f1,f2,rfl,hx,hl,h1,h2,mk1,mk2⟩,hT,q⟩:=h
  refine ⟨_,(ak (aw (bf rfl (N:=["many","make"]) (ix:=[none,none]) ⟨rfl,rfl,rfl,rfl,trivial⟩ (bj (d7 (vr 0) rfl)) ⟨fun C s H fp=>(dF (K:=K) (n:=2) rfl rfl (ay (ap (i:=0) (show List.Nodup (["many","make"]:List Str) by decide +kernel) rfl (Or.inl rfl)) (ay (ap (i:=1) (show List.Nodup (["many","make"]:List Str) by decide +kernel) rfl (Or.inl rfl)) bA))),fun C s H fp=>bi,fun C s H fp=>(aM (aa (vr 0) (aa (PE.or (dX (vr 1) L_set hr) (PE.or (dX (vr 1) L_la hr) (dX (vr 1) L_lb hr))) ae)))⟩))),?_⟩
  refine ⟨x,_,dx,_,_,rfl,hx,T.cl_i,T.na_Die_makes,rfl,.inl ⟨⟨_,SqL.of hl⟩,fun D hD=>?_⟩⟩
  have hTD:TabsOk (tabs a) (upd H D (.lst [])):=hT.same (Same.new hD)
  have ext:∀{H':Hp},TabsOk (tabs a) H'→∀{ys:List V}{ys':List V},H' D=some (.lst ys)→TabsOk (tabs a) (upd H' D (.lst ys')):=fun hT' ys ys' e=>hT'.put (fun ps z=>by rw[e]at z; cases z) fun φ z=>by rw[e]at z; cases z
  let Pw2:PvL:=fun i ys H'=>SameT H H'∧TabsOk (tabs a) H'∧H' D=some (.lst ys)∧((i=0∧ys=[])∨(i=1∧∃ q1 n1,ys=[.ref q1]∧H' q1=some (.tup [.int m1,n1]))∨(i=2∧∃ q1 q2 n1 n2,ys=[.ref q1,.ref q2]∧H' q1=some (.tup [.int m1,n1])∧H' q2=some (.tup [.int m2,n2])))
  refine aK (K:=K) (a:=l) (xs:=[.ref p1,.ref p2]) Pw2
   ⟨(Same.new hD).t,hTD,ac,.inl ⟨rfl,rfl⟩⟩ (fun i ys H' h=>SqL.of (h.1.at hl)) (fun i ys H' h=>h.2.2.1) ?_ ?_
  ·rintro i y ys H' P' hy ⟨t1,hT1,hD1,hc⟩ hP
   match i,hy with
   | 0,hy =>
    cases hy
    have ey:ys=[]:=by
     rcases hc with ⟨_,e⟩ | ⟨z,_⟩ | ⟨z,_⟩
     ·exact e
     ·cases z
     ·cases z
    subst ey
    refine ⟨p1,_,rfl,SqT.of (t1.at h1),rfl,_,_,rfl,_,_,rfl,rfl,trivial,?_⟩
    refine iD (mk1.t t1) hT1 fun H2 v2 t2 hT2 few=>?_
    refine ⟨(show 2≤sizeLine by decide),fun q1 hq1=>?_⟩
    have s3:=Same.new (o:=.tup [.int m1,v2]) hq1
    have hD3:=s3 _ _ (t2.at hD1)
    have n1:q1≠D:=fun z=>by rw[z,t2.at hD1]at hq1; cases hq1
    refine ⟨hD3,(show 0<sizeLine by decide),hP _ _ ⟨((t1.trans t2).trans s3.t).put hD,ext (hT2.same s3) hD3,ac,.inr (.inl ⟨rfl,q1,v2,rfl,?_⟩)⟩⟩
    rw[ag n1]
    exact ac
   | 1,hy =>
    cases hy
    have ey:∃ q1 n1,ys=[.ref q1]∧H' q1=some (.tup [.int m1,n1]):=by
     rcases hc with ⟨z,_⟩ | ⟨_,e⟩ | ⟨z,_⟩
     ·cases z
     ·exact e
     ·cases z
    obtain ⟨q1,n1,rfl,hq1⟩:=ey
    refine ⟨p2,_,rfl,SqT.of (t1.at h2),rfl,_,_,rfl,_,_,rfl,rfl,trivial,?_⟩
    refine iD (mk2.t t1) hT1 fun H2 v2 t2 hT2 few=>?_
    refine ⟨(show 2≤sizeLine by decide),fun q2 hq2=>?_⟩
    have s3:=Same.new (o:=.tup [.int m2,v2]) hq2
    have hD3:=s3 _ _ (t2.at hD1)
    have nq:q2≠D:=fun z=>by rw[z,t2.at hD1]at hq2; cases hq2
    have nq1:q1≠D:=fun z=>by rw[z,hD1]at hq1; cases hq1
    refine ⟨hD3,(show 1<sizeLine by decide),hP _ _ ⟨((t1.trans t2).trans s3.t).put hD,ext (hT2.same s3) hD3,ac,.inr (.inr ⟨rfl,q1,q2,n1,v2,rfl,?_,?_⟩)⟩⟩
    ·rw[ag nq1]; exact s3 _ _ (t2.at hq1)
    ·rw[ag nq]; exact ac
  ·rintro ys H' ⟨t1,hT1,hD1,hc⟩
   rcases hc with ⟨z,_⟩ | ⟨z,_⟩ | ⟨_,q1,q2,n1,n2,rfl,g1,g2⟩
   ·cases z
   ·cases z
   ·exact q _ D q1 q2 n1 n2 t1 hT1 hD hD1 g1 g2
theorem vW(T:Txt K mg a)(hB:Bm mg base):FnOk P w K mg base CX0 7 a.x_u a.y_u ["self","throw"] (wV K a):=by
 have L_set:d8 P w K mg base 6 ld_settled_make_1 fvS [] (sZ K a):=vE T hB
 have L_la:d8 P w K mg base 6 ld_last_die_1 fvA [] (ua K a):=vU T hB
 have L_lb:d8 P w K mg base 6 ld_last_die_2 fvB [] (uH K a):=vw T hB
 have G_v:FnOk P w K mg base CX0 6 _ _ _ _:=(qr T).mono (by decide)
 refine T.F_u.ok sc_u (fun vs H Q E h=>?_) (fun cdv A outer s H vs Q E hr h=>?_)
 ·obtain ⟨v,m1,m2,S1,S2,t,rfl,_⟩:=h; rfl
 ·obtain ⟨v,m1,m2,S1,S2,t,rfl,hd,t0,t1,hT,q⟩:=h
  refine ⟨_,(af (bJ (dZ (dN (ao G_v hr rfl T.m_v T.F_v.kp T.B_v .nil aq (aa (vr 0) (aa (vr 1) ae))))) (ak jn) aJ) (af (av (i:=2) sc_u.nd rfl (Or.inl rfl) aj) (af (av (i:=3) sc_u.nd rfl (Or.inl rfl) (au dR (ax ar (ax ar (d7 (vr 0) rfl) aj (fun _ _=>rfl)) aj (fun _ _=>rfl)) aj)) (af (eO PassesOwn.never (bx fm (vr 3) (vr 1) (aC _)) (af (mt (i:=2) sc_u.nd rfl (Or.inl rfl) aj r9) (ak (mt (i:=3) sc_u.nd rfl (Or.inl rfl) (ax ar (ax ar (d7 (vr 0) rfl) (vr 2) (fun _ _=>rfl)) aj (fun _ _=>rfl)) r9)))) (af (dQ (ax ar (d7 (vr 0) rfl) (vr 2) (fun _ _=>rfl)) (du rfl (ay (ap (i:=4) sc_u.nd rfl (Or.inl rfl)) (ay (ap (i:=5) sc_u.nd rfl (Or.inl rfl)) bA)))) (ak (aw (PE.or (dX (vr 5) L_set hr) (PE.or (dX (vr 5) L_la hr) (dX (vr 5) L_lb hr)))))))))),rK ?_⟩
  intro zt6 zt5 zt4 zt3 zt2
  refine ⟨v,m1,m2,S1,S2,t,rfl,hd,t0,t1,fun H1 s1=>?_⟩
  have hd1:=hd.t s1.t
  have hT1:=hT.same s1
  obtain ⟨x,dx,l,p1,p2,f1,f2,rfl,hx,hl,h1,h2,mk1,mk2⟩:=id hd1
  refine ⟨x,_,dx,_,_,rfl,hx,T.cl_i,T.na_Die_makes,rfl,.inl ⟨l,_,_,_,rfl,rfl,SqL.of hl,aB 0 rfl rfl,.inr (.inl ⟨p1,_,_,_,rfl,rfl,SqT.of h1,aB 0 rfl rfl,?_⟩)⟩⟩
  refine ⟨fun k σ H'=>H'=H1∧∃(number:Nat) (last:Int) (x4 x5:Option V),σ=[some (.ref x),some (.int t),some (.int (number:Nat)),some (.int last),x4,x5]∧((number=0∧last=m1 - 1∧k=1)∨(number=1∧last=m1+m2 - 1∧m1≤t∧k=0)),⟨1,rfl,0,_,_,_,rfl,.inl ⟨rfl,rfl,rfl⟩⟩,?_⟩
  rintro k σ H' ⟨rfl,number,last,x4,x5,rfl,hcs⟩
  refine ifC (fun c=>?_) fun c=>?_
  ·have c:last<t:=c
   have hc0:number=0∧last=m1 - 1∧k=1:=by
    rcases hcs with h | ⟨_,h,_⟩
    ·exact h
    ·lia
   obtain ⟨rfl,rfl,rfl⟩:=hc0
   let Pw3:St→Hp→Prop:=fun σ' H''=>H''=H'∧σ'=[some (.ref x),some (.int t),some (.int ((1:Nat):Int)),some (.int (m1+m2 - 1)),x4,x5]
   refine ⟨Pw3,?_,?_⟩
   ·rintro σ' H'' ⟨rfl,rfl⟩
    exact ⟨0,by decide,rfl,1,_,_,_,rfl,.inr ⟨rfl,rfl,by lia,rfl⟩⟩
   ·refine ⟨_,rfl,_,_,rfl,rfl,_,rfl,?_⟩
    refine ⟨x,_,dx,_,_,rfl,hx,T.cl_i,T.na_Die_makes,rfl,.inl ⟨l,_,_,_,rfl,rfl,SqL.of hl,aB 1 rfl rfl,.inr (.inl ⟨p2,_,_,_,rfl,rfl,SqT.of h2,aB 0 rfl rfl,_,_,rfl,rfl,rfl,?_⟩)⟩⟩
    show [some (V.ref x),some (.int t),some (.int (0+1)),some (.int (m1 - 1+m2)),x4,x5]=_
    rw[show m1 - 1+m2=m1+m2 - 1 by lia]
    rfl
  ·have c:¬last<t:=c
   rcases hcs with ⟨rfl,rfl,_⟩ | ⟨rfl,rfl,hm,_⟩
   ·have hlt:t<m1:=by lia
    refine ⟨x,_,dx,_,_,rfl,hx,T.cl_i,T.na_Die_makes,rfl,.inl ⟨l,_,_,_,rfl,rfl,SqL.of hl,aB 0 rfl rfl,p1,_,rfl,SqT.of h1,rfl,_,_,rfl,_,_,rfl,rfl,?_⟩⟩
    refine iD mk1 hT1 fun H2 v2 t2 hT2 nd=>?_
    refine q _ _ (s1.t.trans t2) hT2 ?_
    rw[if_pos hlt]
    exact nd
   ·have hlt:¬t<m1:=by lia
    refine ⟨x,_,dx,_,_,rfl,hx,T.cl_i,T.na_Die_makes,rfl,.inl ⟨l,_,_,_,rfl,rfl,SqL.of hl,aB 1 rfl rfl,p2,_,rfl,SqT.of h2,rfl,_,_,rfl,_,_,rfl,rfl,?_⟩⟩
    refine iD mk2 hT1 fun H2 v2 t2 hT2 nd=>?_
    refine q _ _ (s1.t.trans t2) hT2 ?_
    rw[if_neg hlt]
    exact nd
end
theorem lA{l₁ l₂ k:List Int}(a:Srt l₁ k)(b:Srt l₂ k):l₁=l₂:=List.Perm.eq_of_pairwise (fun x y _ _ h h'=>Int.le_antisymm h h') a.2 b.2 (a.1.trans b.1.symm)
structure At(K:Frag)(a:Ad)(H:Hp)(v:V)(rows:List (Int×Int×Int))(kept:List Int):Prop where
 ex:∃ S:Tl×List Int,IsNode K a H v S∧eW S.1 S.2 rows kept
theorem At.t{K:Frag}{a:Ad}{H H':Hp}{v:V}{rows:List (Int×Int×Int)}{kept:List Int}(s:SameT H H')(h:At K a H v rows kept):At K a H' v rows kept :=
 let ⟨S,h1,h3⟩:=h.ex; ⟨S,h1.t s,h3⟩
theorem At.nil{K:Frag}{a:Ad}{H:Hp}{v:V}{kept:List Int}(h:At K a H v [] kept):IsTold a H v kept:=by
 obtain ⟨S,h1,h3,h4⟩:=h.ex
 rw[h4]
 rcases h1 with ⟨_,h⟩ | ⟨h,_⟩
 ·exact h
 ·exact absurd h3 h
theorem At.cons{K:Frag}{a:Ad}{H:Hp}{v:V}{k n t:Int}{rows:List (Int×Int×Int)}{kept:List Int}(h:At K a H v ((k,n,t)::rows) kept):∃ S1 S2,IsDie K a H v k n S1 S2∧0≤t∧t<k+n ∧
  ∀ H' v',IsNode K a H' v' (if t<k then S1 else S2)→At K a H' v' rows kept:=by
 obtain ⟨S,h1,g1,g2,g3,g4,g5,g6⟩:=h.ex
 rcases h1 with ⟨z,_⟩ | ⟨_,hd⟩
 ·exact absurd z g1
 rw[← g2,← g3]at hd
 refine ⟨_,_,hd,g4,g5,fun H' v' nd=>⟨_,nd,?_⟩⟩
 by_cases c:t<k
 ·rw[if_pos c]
  rw[decide_eq_true c]at g6
  exact g6
 ·rw[if_neg c]
  rw[decide_eq_false c]at g6
  exact g6
def nG(K:Frag)(a:Ad):Sp:=fun vs H Q _=>∃ v l rows kept,vs=[v,.ref l]∧At K a H v rows kept∧H l=some (.lst ((rows.map fun r=>r.2.2).map V.int))∧TabsOk (tabs a) H∧∀ H' t ns,SameT H H'→TabsOk (tabs a) H'→H' t=some (.tup (ns.map V.int))→Srt ns kept→Q (.ref t) H'
def qt(H:Hp)(r:Int×Int×Int)(x:V):Prop:=∃ p ls,x=.ref p∧H p=some (.tup [.ref ls,.int r.2.2])∧H ls=some (.lst [.int r.1,.int r.2.1])
abbrev RowsAt(H:Hp):List (Int×Int×Int)→List V→Prop:=Paired (qt H)
theorem RowsAt.t{H H':Hp}(s:SameT H H'):∀{rs:List (Int×Int×Int)}{xs:List V},RowsAt H rs xs→RowsAt H' rs xs:=fun h=>Paired.mapP h fun _ _ r=>let ⟨p,ls,h1,h2,h3⟩:=r; ⟨p,ls,h1,s.at h2,s.at h3⟩
theorem RowsAt.get{H:Hp}:∀{rs:List (Int×Int×Int)}{xs:List V}{i:Nat}{x:V},RowsAt H rs xs→xs[i]? = some x→∃ r,rs[i]? = some r∧qt H r x:=cm
theorem RowsAt.len{H:Hp}{rs:List (Int×Int×Int)}{xs:List V}(h:RowsAt H rs xs):rs.length=xs.length:=Paired.length h
theorem RowsAt.snoc{H:Hp}{r:Int×Int×Int}{x:V}(h:qt H r x):∀{rs:List (Int×Int×Int)}{xs:List V},RowsAt H rs xs→RowsAt H (rs++[r]) (xs++[x]):=fun g=>PySem.Paired.snoc g h
def lH(K:Frag)(a:Ad):Sp:=fun vs H Q _=>∃ v l kt rows xs kept ks,vs=[v,.ref l,.ref kt]∧At K a H v rows kept∧H l=some (.lst xs)∧RowsAt H rows xs∧H kt=some (.tup (ks.map V.int))∧Srt ks kept∧ks.length≤40∧TabsOk (tabs a) H∧∀ H',SameT H H'→TabsOk (tabs a) H'→Q (.bl true) H'
def tl0(sh:List (Int×Int))(ord:List Nat):Tl:=ord.map fun (o:Nat)=>((o:Int),sh.getD o (0,1))
section
variable {P:Program}{w:World}{K:Frag}{mg:Str→Option Value}{base:Heap}{a:Ad}
theorem sw(T:Txt K mg a)(hB:Bm mg base):FnOk P w K mg base CX0 8 a.f_aq a.d_aq ["node","throws"] (nG K a):=by
 have G_v:FnOk P w K mg base CX0 7 _ _ _ _:=(qr T).mono (by decide)
 have G_u:FnOk P w K mg base CX0 7 _ _ _ (wV K a):=vW T hB
 have G_p:FnOk P w K mg base CX0 7 _ _ _ _:=(vx T).mono (by decide)
 have G_s:FnOk P w K mg base CX0 7 _ _ _ _:=(vB T).mono (by decide)
 have G_C:FnOk P w K mg base CX0 7 _ _ _ _:=(vP T).mono (by decide)
 have G_I:FnOk P w K mg base CX0 7 _ _ _ _:=(vF T).mono (by decide)
 refine T.F_aq.ok sc_aq (fun vs H Q E h=>?_) (fun cdv A outer s H vs Q E hr h=>?_)
 ·obtain ⟨v,l,rows,kept,rfl,_⟩:=h; rfl
 ·obtain ⟨v,l,rows,kept,rfl,hat,hl,hT,q⟩:=h
  refine ⟨_,(af (av (i:=2) sc_aq.nd rfl (Or.inl rfl) (vr 0)) (af (ei PassesOwn.never rfl (oe rfl T.z_enumerate (aa (vr 1) ae)) (du rfl (ay (ap (i:=3) sc_aq.nd rfl (Or.inl rfl)) (ay (ap (i:=4) sc_aq.nd rfl (Or.inl rfl)) bA))) (af (bJ (dZ (dN (ao G_v hr rfl T.m_v T.F_v.kp T.B_v .nil aq (aa (vr 2) (aa (vr 4) ae))))) (ak jn) aJ) (ak (av (i:=2) sc_aq.nd rfl (Or.inl rfl) (dW (vr 2) T.cl_i T.mt_u G_u hr T.B_u .nil aq (aa (vr 4) ae)))))) (af (bJ (dZ (dN (PE.or (aR (vr 2) T.cl_g T.mt_p G_p hr T.B_p .nil aq) (aR (vr 2) T.cl_i T.mt_s G_s hr T.B_s .nil aq)))) (ak jn) aJ) (ak (aw (PE.or (aR (vr 2) T.cl_g T.mt_C G_C hr T.B_C .nil aq) (aR (vr 2) T.cl_i T.mt_I G_I hr T.B_I .nil aq))))))),oz ?_⟩
  intro zt4 zt3 zt2
  let Pw1:PvS:=fun i σ H'=>SameT H H'∧TabsOk (tabs a) H'∧∃(here:V) (x3 x4:Option V),σ=[some v,some (.ref l),some here,x3,x4]∧At K a H' here (rows.drop i) kept
  refine ⟨l,_,rfl,hl,qI (a:=l) (xs:=(rows.map fun r=>r.2.2).map V.int) Pw1 ⟨SameT.refl,hT,v,none,none,rfl,hat⟩ (fun i σ H' h=>h.1.at hl) ?_ ?_⟩
  ·rintro i x σ H' p hx ⟨t1,hT1,here,x3,x4,rfl,hat1⟩ hp
   rw[List.getElem?_map,List.getElem?_map]at hx
   cases hri:rows[i]? with
   | none=>rw[hri]at hx; cases hx
   | some r =>
    obtain ⟨k,n,t⟩:=r
    rw[hri]at hx
    cases hx
    have hdr:rows.drop i=(k,n,t)::rows.drop (i+1):=by
     obtain ⟨hi,e⟩:=List.getElem?_eq_some_iff.mp hri
     rw[List.drop_eq_getElem_cons hi,e]
    rw[hdr]at hat1
    have s2:Same H' (upd H' p (.tup [.int (i:Nat),.int t])):=Same.new hp
    obtain ⟨S1,S2,hd,t0,t1',nxt⟩:=(hat1.t s2.t).cons
    refine ⟨p,_,rfl,SqT.of ac,rfl,_,_,rfl,_,_,rfl,rfl,?_⟩
    refine ⟨here,k,n,S1,S2,t,rfl,hd,t0,t1',fun H2 s3=>?_⟩
    have hd2:=hd.t s3.t
    obtain ⟨x,dx,l',p1,p2,f1,f2,rfl,hx',_⟩:=id hd2
    refine ⟨x,dx,_,rfl,hx',rfl,_,k,n,S1,S2,t,rfl,hd2,t0,t1',(hT1.same s2).same s3,fun H3 v' t4 hT4 few=>?_⟩
    exact ⟨t1.trans (s2.t.trans (s3.t.trans t4)),hT4,v',_,_,rfl,nxt _ _ few⟩
  ·rintro σ H' ⟨t1,hT1,here,x3,x4,rfl,hat1⟩
   rw[length_map,length_map,drop_length]at hat1
   obtain ⟨x,dx,t,ns,rfl,hx,ht,hs⟩:=hat1.nil
   refine .inl ⟨x,dx,_,rfl,hx,rfl,_,rfl,?_⟩
   exact .inl ⟨x,dx,_,rfl,hx,rfl,x,dx,t,rfl,hx,q _ t ns t1 hT1 ht hs⟩
theorem eU{H:Hp}:∀(l:List Int),DVs K H (l.map PyData.int) (l.map V.int)
 | []=>by simp[DVs]
 | c::l=>by
  rw[map_cons,map_cons,DVs]
  exact ⟨_,_,rfl,by simp[DV],eU l⟩
theorem gB:∀(l:List Int),PyData.canLayAll0 (l.map PyData.int)=true∧PyData.depthAll (l.map PyData.int)≤1
 | []=>by simp[PyData.canLayAll0,PyData.depthAll]
 | t::l=>by
  obtain ⟨h1,h2⟩:=gB l
  rw[map_cons,PyData.canLayAll0,PyData.depthAll,h1,PyData.canLay0]
  refine ⟨rfl,?_⟩
  simp only[PyData.depth]
  lia
theorem uM{H:Hp}{ns:List Int}{l r:Addr}{Q:VK}(h1:H l=some (.lst (ns.map V.int)))(h2:H r=some (.lst (ns.map V.int)))(q:Q (.bl false) H):rEqD K true (.ref l) (.ref r) H Q:=by
 have hs:SeqAt.shaped (.list (ns.map PyData.int))=true:=by
  obtain ⟨k1,k2⟩:=gB ns
  unfold SeqAt.shaped
  rw[PyData.canLay0,k1,Bool.true_and]
  refine decide_eq_true ?_
  simp only[PyData.depth]
  lia
 refine ⟨.list (ns.map PyData.int),.list (ns.map PyData.int),by rw[DV]; exact ⟨l,_,rfl,SqL.of h1,eU _⟩,by rw[DV]; exact ⟨r,_,rfl,SqL.of h2,eU _⟩,hs,hs,?_⟩
 rw[SeqAt.eqv_refl _ (SeqAt.canLay_of_shaped hs)]
 exact q
theorem tX{H:Hp}{ns:List Int}{l r:Addr}{Q:VK}(h1:H l=some (.tup (ns.map V.int)))(h2:H r=some (.tup (ns.map V.int)))(q:Q (.bl true) H):rEqD K false (.ref l) (.ref r) H Q:=by
 have hsh:SeqAt.shaped (.tuple (ns.map PyData.int))=true:=by
  obtain ⟨k1,k2⟩:=gB ns
  unfold SeqAt.shaped
  rw[PyData.canLay0,k1,Bool.true_and]
  refine decide_eq_true ?_
  simp only[PyData.depth]
  lia
 refine ⟨.tuple (ns.map PyData.int),.tuple (ns.map PyData.int),?_,?_,hsh,hsh,?_⟩
 ·rw[DV]; exact ⟨l,_,rfl,SqT.of h1,eU ns⟩
 ·rw[DV]; exact ⟨r,_,rfl,SqT.of h2,eU ns⟩
 rw[SeqAt.eqv_refl _ (SeqAt.canLay_of_shaped hsh)]
 exact q
theorem uC{H:Hp}{l r:Addr}{Q:VK}(h1:H l=some (.lst []))(h2:H r=some (.lst []))(q:Q (.bl true) H):rEqD K false (.ref l) (.ref r) H Q:=by
 refine ⟨.list [],.list [],?_,?_,by decide +kernel,by decide +kernel,?_⟩
 ·rw[DV]; exact ⟨l,_,rfl,SqL.of h1,by simp[DVs]⟩
 ·rw[DV]; exact ⟨r,_,rfl,SqL.of h2,by simp[DVs]⟩
 have:PyData.eqv (.list []) (.list [])=true:=by decide +kernel
 rw[this]
 exact q
theorem oY(T:Txt K mg a)(hB:Bm mg base):FnOk P w K mg base CX0 8 a.f_aa a.d_aa ["_law_node","_law_rows","_law_kept"] (lH K a):=by
 have G_u:FnOk P w K mg base CX0 7 _ _ _ (wV K a):=vW T hB
 have G_p:FnOk P w K mg base CX0 7 _ _ _ _:=(vx T).mono (by decide)
 have G_s:FnOk P w K mg base CX0 7 _ _ _ _:=(vB T).mono (by decide)
 have G_C:FnOk P w K mg base CX0 7 _ _ _ _:=(vP T).mono (by decide)
 have G_I:FnOk P w K mg base CX0 7 _ _ _ _:=(vF T).mono (by decide)
 have G_x:FnOk P w K mg base CX0 7 _ _ _ _:=(vD T).mono (by decide)
 have G_D:FnOk P w K mg base CX0 7 _ _ _ _:=(vK T).mono (by decide)
 have G_F:FnOk P w K mg base CX0 7 _ _ _ _:=(ym T).mono (by decide)
 have G_K:FnOk P w K mg base CX0 7 _ _ _ (xQ K a):=yx T hB
 refine T.F_aa.ok sc_aa (fun vs H Q E h=>?_) (fun cdv A outer s H vs Q E hr h=>?_)
 ·obtain ⟨v,l,kt,rows,xs,kept,ks,rfl,_⟩:=h; rfl
 ·obtain ⟨v,l,kt,rows,xs,kept,ks,rfl,hat,hl,hrs,hk,hks,hkl,hT,q⟩:=h
  refine ⟨_,(af (ei PassesOwn.never rfl (bj (vr 1)) (du rfl (ay (ap (i:=3) sc_aa.nd rfl (Or.inl rfl)) (ay (ap (i:=4) sc_aa.nd rfl (Or.inl rfl)) bA))) (af (bJ (PW.pt (iY (dN (PE.or (aR (vr 0) T.cl_g T.mt_p G_p hr T.B_p .nil aq) (aR (vr 0) T.cl_i T.mt_s G_s hr T.B_s .nil aq))) (iY (bx iw (PE.or (aR (vr 0) T.cl_g T.mt_C G_C hr T.B_C .nil aq) (aR (vr 0) T.cl_i T.mt_I G_I hr T.B_I .nil aq)) dr (aC _)) (jm (bx wA (PE.or (aR (vr 0) T.cl_g T.mt_x G_x hr T.B_x .nil aq) (aR (vr 0) T.cl_i T.mt_D G_D hr T.B_D .nil aq)) (az (dY rfl) rfl T.z_sum gO (aa (vr 3) ae)) (aC _)))))) (ak (aw dj)) aJ) (af (bJ (bx (gh hr.units) (bf rfl (N:=["_law_many","_law_part"]) (ix:=[none,none]) ⟨rfl,rfl,rfl,rfl,trivial⟩ (bj (PE.or (aR (vr 0) T.cl_g T.mt_F G_F hr T.B_F .nil aq) (aR (vr 0) T.cl_i T.mt_K G_K hr T.B_K .nil aq))) ⟨fun C s H fp=>(dF (K:=K) (n:=2) rfl rfl (ay (ap (i:=0) (show List.Nodup (["_law_many","_law_part"]:List Str) by decide +kernel) rfl (Or.inl rfl)) (ay (ap (i:=1) (show List.Nodup (["_law_many","_law_part"]:List Str) by decide +kernel) rfl (Or.inl rfl)) bA))),fun C s H fp=>bi,fun C s H fp=>(vr 0)⟩) (vr 3) (aC _)) (ak (aw dj)) aJ) (ak (av (i:=0) sc_aa.nd rfl (Or.inl rfl) (dW (vr 0) T.cl_i T.mt_u G_u hr T.B_u .nil aq (aa (vr 4) ae))))))) (ak (aw (fX (PE.or (aR (vr 0) T.cl_g T.mt_p G_p hr T.B_p .nil aq) (aR (vr 0) T.cl_i T.mt_s G_s hr T.B_s .nil aq)) (fX (cY (kS hr.units) (PE.or (aR (vr 0) T.cl_g T.mt_C G_C hr T.B_C .nil aq) (aR (vr 0) T.cl_i T.mt_I G_I hr T.B_I .nil aq)) (vr 2) (aC _)) (fX (cY jo (PE.or (aR (vr 0) T.cl_g T.mt_x G_x hr T.B_x .nil aq) (aR (vr 0) T.cl_i T.mt_D G_D hr T.B_D .nil aq)) aj (aC _)) (gZ (cY (kS hr.units) (PE.or (aR (vr 0) T.cl_g T.mt_F G_F hr T.B_F .nil aq) (aR (vr 0) T.cl_i T.mt_K G_K hr T.B_K .nil aq)) (aY ae) (aC _))))))))),fi ?_⟩
  intro zt2
  let Pw2:PvS:=fun i σ H'=>SameT H H'∧TabsOk (tabs a) H'∧∃(here:V) (x3 x4:Option V),σ=[some here,some (.ref l),some (.ref kt),x3,x4]∧At K a H' here (rows.drop i) kept
  refine .inl ⟨⟨_,SqL.of hl⟩,d6 (K:=K) (a:=l) (xs:=xs) Pw2 ⟨SameT.refl,hT,v,none,none,rfl,hat⟩ (fun i σ H' _ h=>SqL.of (h.1.at hl)) ?_ ?_⟩
  ·rintro i y σ H' hy ⟨t1,hT1,here,x3,x4,rfl,hat1⟩
   obtain ⟨⟨k,n,t⟩,hri,p,ls,rfl,hp,hls⟩:=(hrs.t t1).get hy
   have hdr:rows.drop i=(k,n,t)::rows.drop (i+1):=by
    obtain ⟨hi,e⟩:=List.getElem?_eq_some_iff.mp hri
    rw[List.drop_eq_getElem_cons hi,e]
   rw[hdr]at hat1
   obtain ⟨S1,S2,hd,t0,t1',nxt⟩:=hat1.cons
   obtain ⟨x,dx,l',p1,p2,f1,f2,rfl,hx,hd'⟩:=id hd
   refine ⟨p,_,rfl,SqT.of hp,rfl,_,_,rfl,_,_,rfl,rfl,?_⟩
   refine .inr ⟨x,dx,_,rfl,hx,rfl,_,rfl,?_⟩
   refine .inr ⟨x,dx,_,rfl,hx,rfl,_,rfl,?_⟩
   refine .inr ⟨x,dx,_,rfl,hx,rfl,_,k,n,S1,S2,rfl,hd,fun H2 s2=>?_⟩
   refine ⟨ls,[k,n],rfl,SqL.of (s2 _ _ hls),?_⟩
   have esum:([k,n]:List Int).sum=k+n:=by simp only[sum_cons,sum_nil]; lia
   rw[esum]
   refine qd rfl ?_
   have hd2:=hd.t s2.t
   refine .inr ⟨x,dx,_,rfl,s2 _ _ hx,rfl,_,k,n,S1,S2,rfl,hd2,hT1.same s2,fun H3 r q1 q2 n1 n2 t3 hT3 hr0 hr3 g1 g2=>?_⟩
   refine .inl ⟨⟨_,SqL.of hr3⟩,fun D hD=>?_⟩
   let Pw3:PvL:=fun i ys H'=>Same H3 H'∧H' D=some (.lst ys)∧ys=([.int k,.int n]:List V).take i
   refine aK (K:=K) (a:=r) (xs:=[.ref q1,.ref q2]) Pw3 ⟨Same.new hD,ac,rfl⟩ (fun i ys H' h=>SqL.of (h.1 _ _ hr3)) (fun i ys H' h=>h.2.1) ?_ ?_
   ·rintro i y ys H4 P' hy ⟨s4,hD4,rfl⟩ hP
    match i,hy with
    | 0,hy =>
     cases hy
     exact ⟨q1,_,rfl,SqT.of (s4 _ _ g1),rfl,_,_,rfl,_,_,rfl,rfl,trivial,hD4,(show 0<sizeLine by decide),hP _ _ ⟨s4.put hD,ac,rfl⟩⟩
    | 1,hy =>
     cases hy
     exact ⟨q2,_,rfl,SqT.of (s4 _ _ g2),rfl,_,_,rfl,_,_,rfl,rfl,trivial,hD4,(show 1<sizeLine by decide),hP _ _ ⟨s4.put hD,ac,rfl⟩⟩
   ·rintro ys H4 ⟨s4,hD4,rfl⟩
    have t24:=s2.t.trans (t3.trans s4.t)
    have hls4:H4 ls=some (.lst ([k,n].map V.int)):=t24.at hls
    have hD5:H4 D=some (.lst ([k,n].map V.int)):=by rw[hD4]; rfl
    refine uM (ns:=[k,n]) hD5 hls4 ?_
    have hd4:=hd.t t24
    refine ⟨x,dx,_,rfl,t24.at hx,rfl,_,k,n,S1,S2,t,rfl,hd4,t0,t1',hT3.same s4,fun H5 v' t5 hT5 few=>?_⟩
    exact ⟨t1.trans (t24.trans t5),hT5,v',_,_,rfl,nxt _ _ few⟩
  ·rintro σ H' ⟨t1,hT1,here,x3,x4,rfl,hat1⟩
   rw[← hrs.len,drop_length]at hat1
   obtain ⟨x,dx,t,ns,rfl,hx,ht,hs⟩:=hat1.nil
   have:ns=ks:=lA hs hks
   subst this
   refine .inl ⟨x,dx,_,rfl,hx,rfl,_,rfl,?_⟩
   refine .inl ⟨x,dx,_,rfl,hx,rfl,x,dx,t,rfl,hx,?_⟩
   refine tX ht (t1.at hk) ?_
   refine .inl ⟨x,dx,_,rfl,hx,rfl,_,rfl,?_⟩
   refine .inl ⟨x,dx,_,rfl,hx,rfl,_,rfl,fun p1 g1=>?_⟩
   have s1:=Same.new (o:=.lst []) g1
   refine ⟨Nat.zero_le _,fun p2 g2=>?_⟩
   have s2:=Same.new (o:=.lst []) g2
   exact uC (s2 _ _ ac) ac (q _ (t1.trans (s1.t.trans s2.t)) (hT1.same (s1.trans s2)))
end
inductive spWalk(K:Frag)(vs:List V)(H:Hp)(Q:VK)(_E:XK):Prop
 | mk(ls lo lt:Addr)(xs:List V)(sh:List (Int×Int))(ord:List Nat)(thr:List Int)(B:Int)(h0:vs=[.ref ls,.ref lo,.ref lt])(h1:H ls=some (.lst xs))(h2:AllF K H sh xs)(h3:H lo=some (.lst (ord.map fun (o:Nat)=>V.int (o:Int))))(h4:ord.Perm (List.range sh.length))(h5:H lt=some (.lst (thr.map V.int)))(h6:thr.length=25)(h7:sh.length≤24)(h8:BB B)(h9:(∀ f∈sh,Fr B f))(h10:∀ H' p lr lk rows ys kept ks,Same H H'→H' p=some (.tup [.ref lr,.ref lk])→H' lr=some (.lst ys)→RowsAt H' rows ys→H' lk=some (.tup (ks.map V.int))→eW (cc (tl0 sh ord) []).1 (cc (tl0 sh ord) []).2 rows kept→Srt ks kept→ks.length≤24→rows.length≤25→Q (.ref p) H'):spWalk K vs H Q _E
def upV:Option Nat→V
 | none=>.non
 | some u=>.int (u:Int)
section
variable {P:Program}{w:World}{K:Frag}{mg:Str→Option Value}{base:Heap}{a:Ad}
theorem dq{H:Hp}{nw:Addr}{xs':List V}{v:V}{f:Int×Int}{i:Int}{Q:Bool→Hp→Prop}(hnw:H nw=some (.lst xs'))(ev:atI xs' i=some v)(hf:IsF K H f v)(q:Q (uns f) H) :
  rIx K (.ref nw) (.int i) H fun x H1=>rIx K x (.int 0) H1 fun y H2=>nH (fun i j=>decide (i<j)) (fun i j=>decide (i.cps.toList<j.cps.toList)) (.int 0) y H2 (mB fun k H3=>if k=true then (rIx K (.ref nw) (.int i) H3 fun x H4=>rIx K x (.int 1) H4 fun z H5=>nH (fun i j=>decide (i<j)) (fun i j=>decide (i.cps.toList<j.cps.toList)) y z H5 (mB Q)) else mB Q (.bl false) H3):=by
 obtain ⟨pf,rfl,hpf⟩:=hf
 refine .inl ⟨nw,xs',i,_,rfl,rfl,SqL.of hnw,ev,px0 hpf.sq ?_⟩
 refine ifC (fun c=>?_) fun c=>?_
 ·have c:0<f.1:=c
  refine .inl ⟨nw,xs',i,_,rfl,rfl,SqL.of hnw,ev,px1 hpf.sq ?_⟩
  have e:uns f=decide (f.1<f.2):=by unfold uns; simp[c]
  rw[e]at q
  exact q
 ·have c:¬0<f.1:=c
  have e:uns f=false:=by unfold uns; simp[c]
  rw[e]at q
  exact q
theorem gG{k n:Nat}(h:k<n):ixN n (k:Int)=some k:=by
 unfold ixN
 rw[if_pos (by lia),if_pos (by lia)]
 simp
theorem eh{α β:Type}{r:α→β→Prop}{x:α}{y:β}(h:r x y):∀{as:List α}{bs:List β}(k:Nat),Paired r as bs→Paired r (as.set k x) (bs.set k y):=fun k h'=>by
 induction h' generalizing k with
 | nil=>exact .nil
 | cons r t ih=>cases k; exact .cons h t; exact .cons r (ih _)
theorem uN(T:Txt K mg a):FnOk P w K mg base CX0 3 a.f_V a.d_V ["_law_shares","_law_order","_law_throws"] (spWalk K):=by
 have G_aj:FnOk P w K mg base CX0 2 _ _ _ (spDuel K):=tP T
 refine T.F_V.ok sc_V (fun vs H Q E h=>?_) (fun cdv A outer s H vs Q E hr h=>?_)
 ·obtain ⟨ls,lo,lt,xs,sh,ord,thr,B,rfl,_⟩:=h; rfl
 ·obtain ⟨ls,lo,lt,xs,sh,ord,thr,B,rfl,hls,hF,hlo,hord,hlt,htl,hshl,hBB,hfr,q⟩:=h
  have small:sizeLine=16777216:=sizeLine_eq
  refine ⟨_,(af (av (i:=3) sc_V.nd rfl (Or.inr rfl) (aL dh rfl T.z_list di (aa (vr 0) ae))) (af (av (i:=4) sc_V.nd rfl (Or.inl rfl) (aY ae)) (af (av (i:=5) sc_V.nd rfl (Or.inl rfl) dr) (af (ei PassesOwn.never rfl (bj (vr 1)) (ap (i:=6) sc_V.nd rfl (Or.inl rfl)) (af (bJ (PW.pt (mE (j7 fm fm aj (ax ar (ax ar (vr 3) (vr 6) (fun _ _=>rfl)) aj (fun _ _=>rfl)) (ax ar (ax ar (vr 3) (vr 6) (fun _ _=>rfl)) aj (fun _ _=>rfl))) (kE (bx iw (vr 5) dr (aC _))))) (af (dQ (ao G_aj hr rfl T.m_aj T.F_aj.kp T.B_aj .nil aq (aa (ax ar (vr 3) (vr 5) (fun _ _=>rfl)) (aa (ax ar (vr 3) (vr 6) (fun _ _=>rfl)) ae))) (du rfl (ay (ap (i:=7) sc_V.nd rfl (Or.inl rfl)) (ay (ap (i:=8) sc_V.nd rfl (Or.inl rfl)) (ay (ap (i:=9) sc_V.nd rfl (Or.inl rfl)) bA))))) (af (av (i:=10) sc_V.nd rfl (Or.inl rfl) (au cO (ax ar (vr 2) (az aE rfl T.z_len bI (aa (vr 4) ae)) (fun _ _=>rfl)) (az (dY rfl) rfl T.z_sum gO (aa (vr 7) ae)))) (af (dS (pe_m.append (vr 4) (aa (aM (aa (vr 7) (aa (vr 10) ae))) ae))) (af (av (i:=11) sc_V.nd rfl (Or.inl rfl) (aY (aa (vr 5) (aa (vr 6) ae)))) (af (bJ (bx jo (cY fm (vr 10) (ax ar (vr 7) aj (fun _ _=>rfl)) (aC _)) (cY (kS hr.units) (vr 8) (aM (aa aj (aa aj ae))) (aC _)) (aC _)) (ak (av (i:=11) sc_V.nd rfl (Or.inl rfl) (aY (aa (vr 6) (aa (vr 5) ae))))) aJ) (af (dQ (vr 8) (i5 (vr 3) (ax ar (vr 11) aj (fun _ _=>rfl)) fz)) (af (dQ (vr 9) (i5 (vr 3) (ax ar (vr 11) aj (fun _ _=>rfl)) fz)) (ak (av (i:=5) sc_V.nd rfl (Or.inl rfl) (ax ar (vr 11) aj (fun _ _=>rfl))))))))))) (ak (bJ (j7 fm fm aj (ax ar (ax ar (vr 3) (vr 6) (fun _ _=>rfl)) aj (fun _ _=>rfl)) (ax ar (ax ar (vr 3) (vr 6) (fun _ _=>rfl)) aj (fun _ _=>rfl))) (ak (av (i:=5) sc_V.nd rfl (Or.inl rfl) (vr 6))) aJ))) (ak (bJ (PW.pt (mE (bx iw (vr 5) dr (aC _)) (kE (dZ (j7 fm fm aj (ax ar (ax ar (vr 3) (vr 5) (fun _ _=>rfl)) aj (fun _ _=>rfl)) (ax ar (ax ar (vr 3) (vr 5) (fun _ _=>rfl)) aj (fun _ _=>rfl))))))) (ak (av (i:=5) sc_V.nd rfl (Or.inl rfl) dr)) aJ)))) (af (bJ (bx iw (vr 5) dr (aC _)) (af (dQ (ax ar (vr 3) (vr 5) (fun _ _=>rfl)) (du rfl (ay (ap (i:=12) sc_V.nd rfl (Or.inl rfl)) (ay (ap (i:=13) sc_V.nd rfl (Or.inl rfl)) bA)))) (af (dS (pe_m.append (vr 4) (aa (aM (aa (aY (aa (vr 12) (aa (au dR (vr 13) (vr 12)) ae))) (aa (au cO (ax ar (vr 2) (az aE rfl T.z_len bI (aa (vr 4) ae)) (fun _ _=>rfl)) (vr 13)) ae))) ae))) (ak (dQ (aM (aa (aL jO rfl T.z_int iZ (aa (cY fm (ax ar (ax ar (vr 4) (qJ sG aj) (fun _ _=>rfl)) aj (fun _ _=>rfl)) (vr 12) (aC _)) ae)) (aa aj ae))) (i5 (vr 3) (vr 5) fz))))) aJ) (ak (aw (aM (aa (vr 4) (aa (aL dG rfl T.z_tuple gA (aa (bf rfl (N:=["_law_at","_law_now"]) (ix:=[none,some 3]) ⟨rfl,rfl,rfl,rfl,⟨rfl,rfl,rfl,trivial⟩⟩ (cA rfl T.z_range (aa (az aE rfl T.z_len bI (aa (vr 3) ae)) ae)) ⟨fun C s H fp=>ap (i:=0) (show List.Nodup (["_law_at","_law_now"]:List Str) by decide +kernel) rfl (Or.inl rfl),fun C s H fp=>eA (bx (pS (K:=K) rfl hr.units) (ax (bL (K:=K) rfl) (vr 1) (vr 0) (fun _ _=>rfl)) (aM (aa aj (aa aj ae))) (aC _)),fun C s H fp=>(vr 0)⟩) ae)) ae)))))))))),rK ?_⟩
  intro zt6 zt5 zt4 zt3 zt2
  refine ⟨ls,xs,rfl,.inl (SqL.of hls),fun nw fnw=>?_⟩
  refine ⟨Nat.zero_le _,fun rl frl=>?_⟩
  refine .inl ⟨⟨_,SqL.of (Same.new frl _ _ (Same.new fnw _ _ hlo))⟩,?_⟩
  have u1:=Same.new (o:=.lst xs) fnw
  have u2:=u1.trans (Same.new (o:=.lst []) frl)
  have hnw:(upd (upd H nw (.lst xs)) rl (.lst [])) nw=some (.lst xs):=Same.new frl _ _ ac
  have hrl:(upd (upd H nw (.lst xs)) rl (.lst [])) rl=some (.lst []):=ac
  have nrn:rl≠nw:=fun z=>by rw[z,ac]at frl; cases frl
  have frl0:H rl=none:=by
   cases hh:H rl with
   | none=>rfl
   | some o=>rw[u1 _ _ hh]at frl; cases frl
  let Pw1:PvS:=fun i σ H'=>∃(now:List (Int×Int)) (up:Option Nat) (rs:List (Int×Int×Int)) (xs' ys:List V) (x6 x7 x8 x9 x10 x11 x12 x13:Option V),Same H H'∧H' nw=some (.lst xs')∧AllF K H' now xs'∧now.length=sh.length∧H' rl=some (.lst ys)∧RowsAt (untr (untr H' nw) rl) rs ys∧WI (cc (tl0 sh ord) []).1 (cc (tl0 sh ord) []).2 B now up (ord.drop i) rs∧rs.length≤i∧σ=[some (.ref ls),some (.ref lo),some (.ref lt),some (.ref nw),some (.ref rl),some (upV up),x6,x7,x8,x9,x10,x11,x12,x13]
  refine d6 (K:=K) (a:=lo) (xs:=ord.map fun (o:Nat)=>V.int (o:Int)) Pw1
   ⟨sh,none,[],xs,[],none,none,none,none,none,none,none,none,u2,hnw,hF.same u2,rfl,hrl,.nil,WI.start hord hfr,Nat.le_refl _,rfl⟩ (fun i σ H' _ h=>by obtain ⟨_,_,_,_,_,_,_,_,_,_,_,_,_,h,_⟩:=h; exact SqL.of (h _ _ hlo)) ?_ ?_
  ·rintro i x σ H' hx ⟨now,up,rs,xs',ys,x6,x7,x8,x9,x10,x11,x12,x13,s1,hn1,hA1,hnl,hr1,hR1,hW,hrsl,rfl⟩
   rw[List.getElem?_map]at hx
   cases hoi:ord[i]? with
   | none=>rw[hoi]at hx; cases hx
   | some o =>
    rw[hoi]at hx
    cases hx
    have ilt:i<ord.length:=(List.getElem?_eq_some_iff.mp hoi).1
    have hdr:ord.drop i=o::ord.drop (i+1):=by
     obtain ⟨hi,e⟩:=List.getElem?_eq_some_iff.mp hoi
     rw[List.drop_eq_getElem_cons hi,e]
    rw[hdr]at hW
    have ol:=hW.lt o (mem_cons_self ..)
    have oxl:o<xs'.length:=by rw[← hA1.len]; exact ol
    have at_:∀ k:Nat,k<now.length→∃ v,xs'[k]? = some v∧IsF K H' (gN now k) v:=fun k hk=>by
     have hk':k<xs'.length:=by rw[← hA1.len]; exact hk
     have e:xs'[k]? = some xs'[k]:=List.getElem?_eq_getElem hk'
     obtain ⟨f,hf,isf⟩:=hA1.get e
     have ef:gN now k=f:=by unfold gN; rw[List.getD,hf]; rfl
     exact ⟨_,e,ef ▸ isf⟩
    obtain ⟨vo,evo,fo⟩:=at_ o ol
    refine dq hn1 (bg evo) fo ?_
    cases hu:uns (gN now o) with
    | false =>
     refine dq hn1 (bg evo) fo ?_
     rw[hu]
     have hW2:=hW.skip hu
     cases up with
     | none =>
      exact ⟨now,none,rs,xs',ys,_,_,_,_,_,_,_,_,s1,hn1,hA1,hnl,hr1,hR1,hW2,by lia,rfl⟩
     | some u =>
      obtain ⟨ul,_,uu⟩:=hW2.upk u rfl
      obtain ⟨vu,evu,fu⟩:=at_ u ul
      refine dq hn1 (bg evu) fu ?_
      rw[uu]
      exact ⟨now,some u,rs,xs',ys,_,_,_,_,_,_,_,_,s1,hn1,hA1,hnl,hr1,hR1,hW2,by lia,rfl⟩
    | true =>
     cases up with
     | none =>
      refine dq hn1 (bg evo) fo ?_
      rw[hu]
      refine dq hn1 (bg evo) fo ?_
      rw[hu]
      exact ⟨now,some o,rs,xs',ys,_,_,_,_,_,_,_,_,s1,hn1,hA1,hnl,hr1,hR1,hW.get hu,by lia,rfl⟩
     | some u =>
      obtain ⟨ul,unos,uu⟩:=hW.upk u rfl
      obtain ⟨vu,evu,fu⟩:=at_ u ul
      have two:Two (gN now u) (gN now o):=⟨B,hBB.1,hBB.2,hW.fr u ul,hW.fr o ol,uu,hu⟩
      refine .inl ⟨nw,_,_,_,rfl,rfl,SqL.of hn1,bg evu,.inl ⟨nw,_,_,_,rfl,rfl,SqL.of hn1,bg evo,?_⟩⟩
      refine ⟨vu,vo,gN now u,gN now o,rfl,fu,fo,two,fun H2 pp sl ne re s2 fsl hpp hsl hne hre=>?_⟩
      have hD:=fun t t0 t1 i j hij=>hW.duel (t:=t) (i:=i) (j:=j) hBB.1 hu t0 t1 hij
      obtain ⟨d1,d2,d3,fR,ltR,fE,uE⟩:=og hBB.1 (hW.fr u ul) (hW.fr o ol) uu hu
      generalize hce:gN now u=c at *
      generalize hee:gN now o=e at *
      refine ⟨pp,_,rfl,SqT.of hpp,rfl,_,_,rfl,_,_,rfl,_,_,rfl,rfl,?_⟩
      have yl:ys.length=rs.length:=hR1.len.symm
      have ordl:ord.length=sh.length:=by rw[hord.length_eq,length_range]
      refine ⟨_,.inl (SqL.of (s2 _ _ hr1)),?_⟩
      have rlt:rs.length<thr.length:=by lia
      have etr:(thr.map V.int)[rs.length]? = some (.int thr[rs.length]):=by rw[List.getElem?_map,List.getElem?_eq_getElem rlt]; rfl
      refine .inl ⟨lt,_,_,.int thr[rs.length],rfl,rfl,SqL.of (s2 _ _ (s1 _ _ hlt)),aB rs.length (by rw[yl]) etr,?_⟩
      refine ⟨sl,[du1 c e,du2 c e],rfl,SqL.of hsl,?_⟩
      rw[show ([du1 c e,du2 c e]:List Int).sum=du1 c e+du2 c e by simp only[sum_cons,sum_nil]; lia]
      refine ⟨cp (by lia),?_⟩
      have t0:=Int.emod_nonneg thr[rs.length] (show du1 c e+du2 c e≠0 by lia)
      have t1:=Int.emod_lt_of_pos thr[rs.length] (show 0<du1 c e+du2 c e by lia)
      dsimp only
      generalize thr[rs.length] % (du1 c e+du2 c e)=t at t0 t1
      refine ⟨.inl ⟨rfl,_,SqL.of (s2 _ _ hr1)⟩,⟨aP _ _,fun pr fpr=>?_⟩⟩
      have s3:=Same.new (o:=.tup [.ref sl,.int t]) fpr
      have hr3:=s3 _ _ (s2 _ _ hr1)
      refine ⟨rl,ys,_,rfl,rfl,hr3,by lia,?_⟩
      have npr:pr≠rl:=fun z=>by rw[z,s2 _ _ hr1]at fpr; cases fpr
      have nprn:pr≠nw:=fun z=>by rw[z,s2 _ _ hn1]at fpr; cases fpr
      have nsl:sl≠rl:=fun z=>by rw[z,hr1]at fsl; cases fsl
      have nsln:sl≠nw:=fun z=>by rw[z,hn1]at fsl; cases fsl
      have nne:ne≠rl:=fun z=>by rw[z,s2 _ _ hr1]at hne; cases hne
      have nre:re≠rl:=fun z=>by rw[z,s2 _ _ hr1]at hre; cases hre
      have hn4:(upd (upd H2 pr (.tup [.ref sl,.int t])) rl (.lst (ys++[.ref pr]))) nw=some (.lst xs'):=by rw[ag (Ne.symm nrn)]; exact s3 _ _ (s2 _ _ hn1)
      have hr4:(upd (upd H2 pr (.tup [.ref sl,.int t])) rl (.lst (ys++[.ref pr]))) rl=some (.lst (ys++[.ref pr])):=ac
      have hsl4:(upd (upd H2 pr (.tup [.ref sl,.int t])) rl (.lst (ys++[.ref pr]))) sl=some (.lst [.int (du1 c e),.int (du2 c e)]):=by rw[ag nsl]; exact s3 _ _ hsl
      have hne4:(upd (upd H2 pr (.tup [.ref sl,.int t])) rl (.lst (ys++[.ref pr]))) ne=some (.tup [.int (duE c e).1,.int (duE c e).2]):=by rw[ag nne]; exact s3 _ _ hne
      have hre4:(upd (upd H2 pr (.tup [.ref sl,.int t])) rl (.lst (ys++[.ref pr]))) re=some (.tup [.int (duR c e).1,.int (duR c e).2]):=by rw[ag nre]; exact s3 _ _ hre
      have s04:Same H (upd (upd H2 pr (.tup [.ref sl,.int t])) rl (.lst (ys++[.ref pr]))):=fun b o q=>by rw[ag (am q frl0)]; exact s3 _ _ (s2 _ _ (s1 _ _ q))
      have hA4:AllF K (upd (upd H2 pr (.tup [.ref sl,.int t])) rl (.lst (ys++[.ref pr]))) now xs':=(hA1.same (s2.trans s3)).tk (TK.lst hr3)
      have hR4:RowsAt (untr (untr (upd (upd H2 pr (.tup [.ref sl,.int t])) rl (.lst (ys++[.ref pr]))) nw) rl) (rs++[(du1 c e,du2 c e,t)]) (ys++[.ref pr]):=by
       refine RowsAt.snoc ⟨pr,sl,rfl,?_,?_⟩ (RowsAt.t ?_ hR1)
       ·rw[aD npr,aD nprn,ag npr]; exact ac
       ·rw[aD nsl,aD nsln,ag nsl]; exact s3 _ _ hsl
       ·refine Same.t fun b o q=>?_
        have b1:b≠rl:=fun z=>by rw[z,cy]at q; cases q
        rw[aD b1]at q
        have b2:b≠nw:=fun z=>by rw[z,cy]at q; cases q
        rw[aD b2]at q
        rw[aD b1,aD b2,ag b1]
        exact s3 _ _ (s2 _ _ q)
      generalize upd (upd H2 pr (.tup [.ref sl,.int t])) rl (.lst (ys++[.ref pr]))=H4 at hn4 hr4 hsl4 hne4 hre4 s04 hA4 hR4
      refine ⟨aP _ _,fun en fen=>?_⟩
      have s5:=Same.new (o:=.lst [upV (some u),.int (o:Nat)]) fen
      refine .inl ⟨sl,_,_,.int (du1 c e),rfl,rfl,SqL.of (s5 _ _ hsl4),aB 0 rfl rfl,?_⟩
      refine ⟨aP _ _,fun zt fzt=>?_⟩
      have s6:=s5.trans (Same.new (o:=.tup [.int 0,.int 1]) fzt)
      refine ⟨.tuple [.int (duE c e).1,.int (duE c e).2],.tuple [.int 0,.int 1],fc (SqT.of (s6 _ _ hne4)),fc (SqT.of ac),dc _ _,dc _ _,?_⟩
      rw[jg]
      have eE:decide (((duE c e).1,(duE c e).2)=((0:Int),(1:Int)))=duL c e:=by
       unfold duE
       cases hL:duL c e <;> simp
      rw[eE]
      have hen:(upd (upd H4 en (.lst [upV (some u),.int (o:Nat)])) zt (.tup [.int 0,.int 1])) en=some (.lst [.int (u:Nat),.int (o:Nat)]):=Same.new fzt _ _ ac
      generalize upd (upd H4 en (.lst [upV (some u),.int (o:Nat)])) zt (.tup [.int 0,.int 1])=H6 at s6 hen
      have hn6:=s6 _ _ hn4
      have hA6:=hA4.same s6
      have lP:∀{HX:Hp},Same H4 HX→RowsAt (untr (untr HX nw) rl) (rs++[(du1 c e,du2 c e,t)]) (ys++[.ref pr]):=fun sx=>RowsAt.t ((gp (gp sx.t))) hR4
      refine ifC (fun hb=>?_) fun hb=>?_
      ·refine ⟨aP _ _,fun en2 fen2=>?_⟩
       have sy:=s6.trans (Same.new (o:=.lst [.int (o:Nat),upV (some u)]) fen2)
       have nEN:en2≠nw:=fun z=>by rw[z,hn6]at fen2; cases fen2
       have hEN:(upd H6 en2 (.lst [.int (o:Nat),upV (some u)])) en2=some (.lst [.int (o:Nat),.int (u:Nat)]):=ac
       have hny:=sy _ _ hn4
       have hAy:=hA4.same sy
       generalize upd H6 en2 (.lst [.int (o:Nat),upV (some u)])=Hy at sy hEN hny hAy
       refine .inl ⟨en2,_,_,.int (o:Nat),rfl,rfl,SqL.of hEN,aB 0 rfl rfl,?_⟩
       have il:o<xs'.length:=by rw[← hAy.len]; exact ol
       have jl:u<xs'.length:=by rw[← hAy.len]; exact ul
       refine ⟨nw,xs',(o:Nat),o,rfl,rfl,hny,gG il,?_⟩
       refine .inl ⟨en2,_,_,.int (u:Nat),rfl,rfl,SqL.of ((ag nEN).trans hEN),aB 1 rfl rfl,?_⟩
       refine ⟨nw,xs'.set o (.ref ne),(u:Nat),u,rfl,rfl,ac,gG (by rw[length_set]; exact jl),?_⟩
       refine .inl ⟨en2,_,_,.int (u:Nat),rfl,rfl,SqL.of ((ag nEN).trans ((ag nEN).trans hEN)),aB 1 rfl rfl,?_⟩
       have hn9:(upd (upd Hy nw (.lst (xs'.set o (.ref ne)))) nw (.lst ((xs'.set o (.ref ne)).set u (.ref re)))) nw=some (.lst ((xs'.set o (.ref ne)).set u (.ref re))):=ac
       have nne':ne≠nw:=fun z=>by rw[z,hn4]at hne4; cases hne4
       have nre':re≠nw:=fun z=>by rw[z,hn4]at hre4; cases hre4
       have hr9:(upd (upd Hy nw (.lst (xs'.set o (.ref ne)))) nw (.lst ((xs'.set o (.ref ne)).set u (.ref re)))) rl=some (.lst (ys++[.ref pr])):=by rw[ag nrn,ag nrn]; exact sy _ _ hr4
       have s09:Same H (upd (upd Hy nw (.lst (xs'.set o (.ref ne)))) nw (.lst ((xs'.set o (.ref ne)).set u (.ref re)))):=fun b o q=>by rw[ag (am q fnw),ag (am q fnw)]; exact sy _ _ (s04 _ _ q)
       have fE9:IsF K (upd (upd Hy nw (.lst (xs'.set o (.ref ne)))) nw (.lst ((xs'.set o (.ref ne)).set u (.ref re)))) (duE c e) (.ref ne):=⟨ne,rfl,.inl (by rw[ag nne',ag nne']; exact sy _ _ hne4)⟩
       have fR9:IsF K (upd (upd Hy nw (.lst (xs'.set o (.ref ne)))) nw (.lst ((xs'.set o (.ref ne)).set u (.ref re)))) (duR c e) (.ref re):=⟨re,rfl,.inl (by rw[ag nre',ag nre']; exact sy _ _ hre4)⟩
       have hA9:AllF K (upd (upd Hy nw (.lst (xs'.set o (.ref ne)))) nw (.lst ((xs'.set o (.ref ne)).set u (.ref re)))) ((now.set o (duE c e)).set u (duR c e)) ((xs'.set o (.ref ne)).set u (.ref re)):=eh fR9 u (eh fE9 o ((hAy.tk (TK.lst hny)).tk (TK.lst ac)))
       have hR9:RowsAt (untr (untr (upd (upd Hy nw (.lst (xs'.set o (.ref ne)))) nw (.lst ((xs'.set o (.ref ne)).set u (.ref re)))) nw) rl) (rs++[(du1 c e,du2 c e,t)]) (ys++[.ref pr]):=RowsAt.t (gp (cut_put.trans cut_put)) (lP sy)
       have hW9:=hD t t0 t1 o u (.inl ⟨hb,rfl,rfl⟩)
       have evj:((xs'.set o (.ref ne)).set u (.ref re))[u]? = some (.ref re):=by
        rw[List.getElem?_set_self (by rw[length_set]; exact jl)]
       generalize (upd (upd Hy nw (.lst (xs'.set o (.ref ne)))) nw (.lst ((xs'.set o (.ref ne)).set u (.ref re))))=H9 at hn9 hr9 s09 fE9 fR9 hA9 hR9
       refine dq hn9 (bg evj) fR9 ?_
       have nl9:((now.set o (duE c e)).set u (duR c e)).length=sh.length:=by rw[length_set,length_set]; exact hnl
       have rl9:(rs++[(du1 c e,du2 c e,t)]).length≤i+1:=by rw[length_append]; show rs.length+1≤i+1; lia
       cases hR:uns (duR c e) with
       | true =>
        rw[hR,if_pos rfl]at hW9
        exact ⟨_,some u,_,_,_,_,_,_,_,_,_,_,_,s09,hn9,hA9,nl9,hr9,hR9,hW9,rl9,rfl⟩
       | false =>
        rw[hR,if_neg (by decide)]at hW9
        exact ⟨_,none,_,_,_,_,_,_,_,_,_,_,_,s09,hn9,hA9,nl9,hr9,hR9,hW9,rl9,rfl⟩
      ·have sy:=s6
       have nEN:en≠nw:=fun z=>by rw[z,hn4]at fen; cases fen
       have hEN:=hen
       have hny:=hn6
       have hAy:=hA6
       refine .inl ⟨en,_,_,.int (u:Nat),rfl,rfl,SqL.of hEN,aB 0 rfl rfl,?_⟩
       have il:u<xs'.length:=by rw[← hAy.len]; exact ul
       have jl:o<xs'.length:=by rw[← hAy.len]; exact ol
       refine ⟨nw,xs',(u:Nat),u,rfl,rfl,hny,gG il,?_⟩
       refine .inl ⟨en,_,_,.int (o:Nat),rfl,rfl,SqL.of ((ag nEN).trans hEN),aB 1 rfl rfl,?_⟩
       refine ⟨nw,xs'.set u (.ref ne),(o:Nat),o,rfl,rfl,ac,gG (by rw[length_set]; exact jl),?_⟩
       refine .inl ⟨en,_,_,.int (o:Nat),rfl,rfl,SqL.of ((ag nEN).trans ((ag nEN).trans hEN)),aB 1 rfl rfl,?_⟩
       have hn9:(upd (upd H6 nw (.lst (xs'.set u (.ref ne)))) nw (.lst ((xs'.set u (.ref ne)).set o (.ref re)))) nw=some (.lst ((xs'.set u (.ref ne)).set o (.ref re))):=ac
       have nne':ne≠nw:=fun z=>by rw[z,hn4]at hne4; cases hne4
       have nre':re≠nw:=fun z=>by rw[z,hn4]at hre4; cases hre4
       have hr9:(upd (upd H6 nw (.lst (xs'.set u (.ref ne)))) nw (.lst ((xs'.set u (.ref ne)).set o (.ref re)))) rl=some (.lst (ys++[.ref pr])):=by rw[ag nrn,ag nrn]; exact sy _ _ hr4
       have s09:Same H (upd (upd H6 nw (.lst (xs'.set u (.ref ne)))) nw (.lst ((xs'.set u (.ref ne)).set o (.ref re)))):=fun b o q=>by rw[ag (am q fnw),ag (am q fnw)]; exact sy _ _ (s04 _ _ q)
       have fE9:IsF K (upd (upd H6 nw (.lst (xs'.set u (.ref ne)))) nw (.lst ((xs'.set u (.ref ne)).set o (.ref re)))) (duE c e) (.ref ne):=⟨ne,rfl,.inl (by rw[ag nne',ag nne']; exact sy _ _ hne4)⟩
       have fR9:IsF K (upd (upd H6 nw (.lst (xs'.set u (.ref ne)))) nw (.lst ((xs'.set u (.ref ne)).set o (.ref re)))) (duR c e) (.ref re):=⟨re,rfl,.inl (by rw[ag nre',ag nre']; exact sy _ _ hre4)⟩
       have hA9:AllF K (upd (upd H6 nw (.lst (xs'.set u (.ref ne)))) nw (.lst ((xs'.set u (.ref ne)).set o (.ref re)))) ((now.set u (duE c e)).set o (duR c e)) ((xs'.set u (.ref ne)).set o (.ref re)):=eh fR9 o (eh fE9 u ((hAy.tk (TK.lst hny)).tk (TK.lst ac)))
       have hR9:RowsAt (untr (untr (upd (upd H6 nw (.lst (xs'.set u (.ref ne)))) nw (.lst ((xs'.set u (.ref ne)).set o (.ref re)))) nw) rl) (rs++[(du1 c e,du2 c e,t)]) (ys++[.ref pr]):=RowsAt.t (gp (cut_put.trans cut_put)) (lP sy)
       have hW9:=hD t t0 t1 u o (.inr ⟨hb,rfl,rfl⟩)
       have evj:((xs'.set u (.ref ne)).set o (.ref re))[o]? = some (.ref re):=by
        rw[List.getElem?_set_self (by rw[length_set]; exact jl)]
       generalize (upd (upd H6 nw (.lst (xs'.set u (.ref ne)))) nw (.lst ((xs'.set u (.ref ne)).set o (.ref re))))=H9 at hn9 hr9 s09 fE9 fR9 hA9 hR9
       refine dq hn9 (bg evj) fR9 ?_
       have nl9:((now.set u (duE c e)).set o (duR c e)).length=sh.length:=by rw[length_set,length_set]; exact hnl
       have rl9:(rs++[(du1 c e,du2 c e,t)]).length≤i+1:=by rw[length_append]; show rs.length+1≤i+1; lia
       cases hR:uns (duR c e) with
       | true =>
        rw[hR,if_pos rfl]at hW9
        exact ⟨_,some o,_,_,_,_,_,_,_,_,_,_,_,s09,hn9,hA9,nl9,hr9,hR9,hW9,rl9,rfl⟩
       | false =>
        rw[hR,if_neg (by decide)]at hW9
        exact ⟨_,none,_,_,_,_,_,_,_,_,_,_,_,s09,hn9,hA9,nl9,hr9,hR9,hW9,rl9,rfl⟩
  ·rintro σ H' ⟨now,up,rs,xs',ys,x6,x7,x8,x9,x10,x11,x12,x13,s1,hn1,hA1,hnl,hr1,hR1,hW,hrsl,rfl⟩
   rw[length_map,drop_length]at hW
   have ordl:ord.length=sh.length:=by rw[hord.length_eq,length_range]
   rw[length_map]at hrsl
   have fin:∀(HX:Hp) (nowX:List (Int×Int)) (rsX:List (Int×Int×Int)) (xsX ysX:List V) (kept:List Int),Same H HX→HX nw=some (.lst xsX)→AllF K HX nowX xsX→nowX.length=sh.length→HX rl=some (.lst ysX)→RowsAt (untr (untr HX nw) rl) rsX ysX→rsX.length≤25 →
     eW (cc (tl0 sh ord) []).1 (cc (tl0 sh ord) []).2 rsX kept→kept.Perm (wh nowX)→∀(y6 y7 y8 y9 y10 y11 y12 y13:Option V) (upx:V),
     xA (w6 (fY (tV 4) (fY (tCB (fun xs H_1 Q=>∃ p ys,xs=[.ref p]∧((SqL K H_1 p ys∧∀ l,H_1 l=none→Q (.ref l) (upd H_1 l (.tup ys)))∨(SqT K H_1 p ys∧Q (.ref p) H_1)))
      (fY (rk [none,some 3] (vV (fY (tCB (fun xs H_1 Q=>match xs with
       | [V.str z]=>z.length≤sizeLine∧Q (V.int (z.length:Int)) H_1
       | [V.ref p]=>rLenSq K p H_1 Q
       | _=>False) (fY (tV 3) kX)) kX)) (jP 0) (mT (tOp (rEqD K false) (tOp (rIx K) (tV 1) (tV 0)) (w6 (fY (tC (V.int 1)) (fY (tC (V.int 1)) kX))))) (tV 0)) kX)) kX)))
      { nx:=fun _ H'=>Q V.non H',rt:=Q } [some (.ref ls),some (.ref lo),some (.ref lt),some (.ref nw),some (.ref rl),some upx,y6,y7,y8,y9,y10,y11,y12,y13] HX:=by
    intro HX nowX rsX xsX ysX kept sx hnx hAx hnlx hrx hRx hrlx hG hPm y6 y7 y8 y9 y10 y11 y12 y13 upx
    refine ⟨_,.inl (SqL.of hnx),?_⟩
    rw[show xsX.length=nowX.length from hAx.len.symm]
    refine ⟨(nowX.length:Int),rfl,by lia,by lia,fun D hD=>?_⟩
    let Pw2:PvL:=fun j zs H'=>j≤nowX.length∧Same HX H'∧H' D=some (.lst zs)∧zs=(((List.range j).filter fun i=>whl (gN nowX i)).map (fun (i:Nat)=>(i:Int))).map V.int
    refine dO (lo:=0) (n:=((nowX.length:Nat):Int).toNat) Pw2 ⟨Nat.zero_le _,Same.new hD,ac,rfl⟩ (fun j zs H' h=>h.2.2.1) ?_ ?_
    ·rintro j zs H' P' hj ⟨hj2,sj,hDj,rfl⟩ hP'
     have jl:j<nowX.length:=by lia
     have jx:j<xsX.length:=by rw[← hAx.len]; exact jl
     obtain ⟨f,hf,⟨pf,ef,hpf⟩⟩:=hAx.get (List.getElem?_eq_getElem jx)
     have egN:gN nowX j=f:=by unfold gN; rw[List.getD,hf]; rfl
     have at1:atI xsX (0+(j:Int))=some (.ref pf):=by rw[Int.zero_add]; exact bg (by rw[List.getElem?_eq_getElem jx,ef])
     refine ⟨⟨rfl,trivial⟩,.inl ⟨nw,_,_,_,rfl,rfl,SqL.of (sj _ _ hnx),at1,⟨aP _ _,fun zt fzt=>?_⟩⟩⟩
     have s5:=Same.new (o:=.tup [.int 1,.int 1]) fzt
     have hpf2:IsF K _ f (.ref pf):=IsF.same (sj.trans s5) ⟨pf,rfl,hpf⟩
     obtain ⟨pg,eg,hpg⟩:=hpf2
     cases eg
     refine ⟨.tuple [.int f.1,.int f.2],.tuple [.int 1,.int 1],fc hpg.sq,fc (SqT.of ac),dc _ _,dc _ _,?_⟩
     rw[jg]
     have hD5:=s5 _ _ hDj
     refine ifC (fun hh=>?_) fun hh=>?_
     ·have hw:whl (gN nowX j)=true:=by rw[egN]; exact decide_eq_true (show f=(1,1) from hh)
      refine ⟨hD5,?_,hP' _ _ ⟨jl,(sj.trans s5).put hD,ac,?_⟩⟩
      ·rw[length_map,length_map]
       have:=length_filter_le (fun i=>whl (gN nowX i)) (List.range j)
       rw[length_range]at this
       lia
      ·rw[range_succ,filter_append]
       simp[hw]
     ·have hw:whl (gN nowX j)=false:=by rw[egN]; exact decide_eq_false (show ¬f=(1,1) from hh)
      refine hP' _ _ ⟨jl,sj.trans s5,hD5,?_⟩
      rw[range_succ,filter_append]
      simp[hw]
    rintro zs H9 ⟨_,s9,hD9,rfl⟩
    have ew:(((List.range ((nowX.length:Nat):Int).toNat).filter fun i=>whl (gN nowX i)).map (fun (i:Nat)=>(i:Int)))=wh nowX:=rfl
    rw[ew]at hD9
    refine ⟨D,_,rfl,.inl ⟨SqL.of hD9,fun lk flk=>?_⟩⟩
    have s10:=Same.new (o:=.tup ((wh nowX).map V.int)) flk
    refine ⟨aP _ _,fun p fp=>?_⟩
    have s11:=s10.trans (Same.new (o:=.tup [.ref rl,.ref lk]) fp)
    have hRr:RowsAt HX rsX ysX:=RowsAt.t (cut_sub.trans cut_sub) hRx
    have s9t:=s9.trans s11
    have swh:Srt (wh nowX) kept:=by
     refine ⟨hPm.symm,?_⟩
     unfold wh
     rw[List.pairwise_map]
     refine List.Pairwise.imp (fun h=>by lia) ((List.pairwise_lt_range (n:=nowX.length)).filter _)
    refine q _ p rl lk rsX ysX kept (wh nowX) (sx.trans s9t) ac (s9t _ _ hrx) (hRr.t s9t.t) (Same.new fp _ _ ac) hG swh ?_ hrlx
    unfold wh
    rw[length_map]
    have:=length_filter_le (fun i=>whl (gN nowX i)) (List.range nowX.length)
    rw[length_range]at this
    lia
   have yl:ys.length=rs.length:=hR1.len.symm
   cases up with
   | none =>
    obtain ⟨kept,hG,hPm⟩:=hW.end_none
    exact fin H' now rs xs' ys kept s1 hn1 hA1 hnl hr1 hR1 (by lia) hG hPm _ _ _ _ _ _ _ _ _
   | some u =>
    obtain ⟨ul,_,uu⟩:=hW.upk u rfl
    have ux:u<xs'.length:=by rw[← hA1.len]; exact ul
    obtain ⟨c,hc,⟨pc,epc,hpc⟩⟩:=hA1.get (List.getElem?_eq_getElem ux)
    have ef:gN now u=c:=by unfold gN; rw[List.getD,hc]; rfl
    have hc0:0<c.1∧c.1<c.2:=by rw[ef]at uu; unfold uns at uu; simpa using uu
    have atu:atI xs' ((u:Nat):Int)=some (.ref pc):=bg (by rw[List.getElem?_eq_getElem ux,epc])
    refine .inl ⟨nw,_,_,_,rfl,rfl,SqL.of hn1,atu,?_⟩
    refine ⟨pc,_,rfl,hpc.sq,rfl,_,_,rfl,_,_,rfl,rfl,?_⟩
    refine ⟨.inl ⟨rfl,_,SqL.of hr1⟩,⟨aP _ _,fun sl fsl=>?_⟩⟩
    have s2:=Same.new (o:=.lst [.int c.1,.int (c.2 - c.1)]) fsl
    have hsl:=ac (H:=H') (a:=sl) (o:=.lst [.int c.1,.int (c.2 - c.1)])
    have rlt:rs.length<thr.length:=by lia
    have etr:(thr.map V.int)[rs.length]? = some (.int thr[rs.length]):=by rw[List.getElem?_map,List.getElem?_eq_getElem rlt]; rfl
    refine ⟨_,.inl (SqL.of (s2 _ _ hr1)),.inl ⟨lt,_,_,.int thr[rs.length],rfl,rfl,SqL.of (s2 _ _ (s1 _ _ hlt)),aB rs.length (by rw[yl]) etr,⟨cp (by lia),?_⟩⟩⟩
    have t0:=Int.emod_nonneg thr[rs.length] (show c.2≠0 by lia)
    have t1:=Int.emod_lt_of_pos thr[rs.length] (show 0<c.2 by lia)
    dsimp only
    generalize thr[rs.length] % c.2=t at t0 t1
    refine ⟨aP _ _,fun pr fpr=>?_⟩
    generalize upd H' sl (.lst [.int c.1,.int (c.2 - c.1)])=H2 at s2 hsl fpr
    have s3:=Same.new (o:=.tup [.ref sl,.int t]) fpr
    have hr3:=s3 _ _ (s2 _ _ hr1)
    refine ⟨rl,ys,_,rfl,rfl,hr3,by lia,?_⟩
    have npr:pr≠rl:=fun z=>by rw[z,s2 _ _ hr1]at fpr; cases fpr
    have nprn:pr≠nw:=fun z=>by rw[z,s2 _ _ hn1]at fpr; cases fpr
    have nsl:sl≠rl:=fun z=>by rw[z,hr1]at fsl; cases fsl
    have nsln:sl≠nw:=fun z=>by rw[z,hn1]at fsl; cases fsl
    have hn4:(upd (upd H2 pr (.tup [.ref sl,.int t])) rl (.lst (ys++[.ref pr]))) nw=some (.lst xs'):=by rw[ag (Ne.symm nrn)]; exact s3 _ _ (s2 _ _ hn1)
    have hr4:(upd (upd H2 pr (.tup [.ref sl,.int t])) rl (.lst (ys++[.ref pr]))) rl=some (.lst (ys++[.ref pr])):=ac
    have hpr4:(upd (upd H2 pr (.tup [.ref sl,.int t])) rl (.lst (ys++[.ref pr]))) pr=some (.tup [.ref sl,.int t]):=by rw[ag npr]; exact ac
    have s04:Same H (upd (upd H2 pr (.tup [.ref sl,.int t])) rl (.lst (ys++[.ref pr]))):=fun b o q=>by rw[ag (am q frl0)]; exact s3 _ _ (s2 _ _ (s1 _ _ q))
    have hA4:AllF K (upd (upd H2 pr (.tup [.ref sl,.int t])) rl (.lst (ys++[.ref pr]))) now xs':=(hA1.same (s2.trans s3)).tk (TK.lst hr3)
    have hR4:RowsAt (untr (untr (upd (upd H2 pr (.tup [.ref sl,.int t])) rl (.lst (ys++[.ref pr]))) nw) rl) (rs++[(c.1,c.2 - c.1,t)]) (ys++[.ref pr]):=by
     refine RowsAt.snoc ⟨pr,sl,rfl,?_,?_⟩ (RowsAt.t ?_ hR1)
     ·rw[aD npr,aD nprn,ag npr]; exact ac
     ·rw[aD nsl,aD nsln,ag nsl]; exact s3 _ _ hsl
     ·refine Same.t fun b o q=>?_
      have b1:b≠rl:=fun z=>by rw[z,cy]at q; cases q
      rw[aD b1]at q
      have b2:b≠nw:=fun z=>by rw[z,cy]at q; cases q
      rw[aD b2]at q
      rw[aD b1,aD b2,ag b1]
      exact s3 _ _ (s2 _ _ q)
    generalize upd (upd H2 pr (.tup [.ref sl,.int t])) rl (.lst (ys++[.ref pr]))=H4 at hn4 hr4 hpr4 s04 hA4 hR4
    refine .inl ⟨rl,_,_,.ref pr,rfl,rfl,SqL.of hr4,rh _ _,.inr (.inl ⟨pr,_,_,.int t,rfl,rfl,SqT.of hpr4,aB 1 rfl rfl,?_⟩)⟩
    refine .inr ⟨_,rfl,⟨aP _ _,fun nt fnt=>?_⟩⟩
    obtain ⟨kept,hG,hPm⟩:=hW.end_some t0 (by rw[ef]; exact t1)
    rw[ef]at hG hPm
    obtain ⟨g,hg⟩:∃ g:Int×Int,g=if t<c.1 then (1,1) else (0,1):=⟨_,rfl⟩
    rw[← hg]at hPm
    have eg:(if decide (t<c.1)=true then (1:Int) else 0)=g.1∧(1:Int)=g.2:=by
     rw[hg]
     by_cases z:t<c.1 <;> simp[z]
    have s5:=Same.new (o:=.tup [.int (if decide (t<c.1)=true then (1:Int) else 0),.int 1]) fnt
    have hnt:(upd H4 nt (.tup [.int (if decide (t<c.1)=true then (1:Int) else 0),.int 1])) nt=some (.tup [.int g.1,.int g.2]):=by rw[ac,← eg.1,← eg.2]
    generalize upd H4 nt (.tup [.int (if decide (t<c.1)=true then (1:Int) else 0),.int 1])=H5 at s5 hnt
    have hn5:=s5 _ _ hn4
    refine ⟨nw,xs',((u:Nat):Int),u,rfl,rfl,hn5,gG ux,?_⟩
    have nntw:nt≠nw:=fun z=>by rw[z,hn4]at fnt; cases fnt
    have hA6:AllF K (upd H5 nw (.lst (xs'.set u (.ref nt)))) (now.set u g) (xs'.set u (.ref nt)):=eh ⟨nt,rfl,.inl (by rw[ag nntw]; exact hnt)⟩ u ((hA4.same s5).tk (TK.lst hn5))
    have hR6:RowsAt (untr (untr (upd H5 nw (.lst (xs'.set u (.ref nt)))) nw) rl) (rs++[(c.1,c.2 - c.1,t)]) (ys++[.ref pr]):=RowsAt.t (gp ((gp s5.t).trans cut_put)) hR4
    exact fin _ (now.set u g) _ _ _ kept (fun b o q=>by rw[ag (am q fnw)]; exact s5 _ _ (s04 _ _ q)) ac hA6 (by rw[length_set]; exact hnl) (by rw[ag nrn]; exact s5 _ _ hr4) hR6 (by rw[length_append]; show rs.length+1≤25; lia) hG hPm _ _ _ _ _ _ _ _ _
end
end My
namespace FrM
open Du
theorem tm{u b:Int}(h0:0≤u)(h1:u≤b)(hb:0<b):Bq b.toNat ((u:Rat)/(b:Rat)):=by
 have e:((b.toNat:Nat):Rat)=(b:Rat):=by
  have:((b.toNat:Nat):Int)=b:=by lia
  rw[← this]
  rfl
 have e':((u.toNat:Nat):Rat)=(u:Rat):=by
  have:((u.toNat:Nat):Int)=u:=by lia
  rw[← this]
  rfl
 have hb':(0:Rat)<(b:Rat):=by exact_mod_cast hb
 have hu':(0:Rat)≤(u:Rat):=by exact_mod_cast h0
 have hub:(u:Rat)≤(b:Rat):=by exact_mod_cast h1
 refine ⟨kg hu' hb',?_,u.toNat,?_⟩
 ·have:=kg (show (0:Rat)≤(b:Rat) - (u:Rat) by grind) hb'
  grind
 ·rw[e,e']
  grind
structure Due(z:List Int)(m:Int)(B:Nat)(qs:List Rat):Prop where
 B0:0<B
 B1:B≤1000000000
 len:qs.length=z.length
 eq:qs.map fr=due z m
 bq:∀ q∈qs,Bq B q
 fr:∀ f∈due z m,Fr (B:Int) f
 nice:∀ f∈due z m,mz f
 sum:((due z m).map (un (B:Int))).sum=(if (z.length:Int)≤m then (z.length:Int) else m)*(B:Int)
theorem uI{z:List Int}{m:Int}(hz:∀ k,k<z.length→1≤sz z k)(hh:∀ k,k<z.length→sz z k≤24000000)(hl:z.length≤24)(hm:0≤m)(hm':m≤24):∃ B qs,Due z m B qs:=by
 obtain ⟨S,N,hT,hL,hS,_⟩:=ug hz hh hl hm hm'
 have ok:=wG hz hh hl hm
 have dl:=cu z m
 have eB:((S.toNat:Nat):Int)=S:=by have:=hT.pos; lia
 have S0:=hT.pos
 have key:∀ k p,(due z m)[k]? = some p→Fr S p∧un S p=N k∧p=Du.fr ((N k:Rat)/(S:Rat))∧0≤N k∧N k≤S:=fun k p hp=>by
  have f:=ok p (List.mem_of_getElem? hp)
  have l:=hL k p hp
  have dv:p.2 ∣ S:=gu l.cop ⟨N k,by rw[l.eq,Int.mul_comm]⟩
  have p0:=f.pos
  have e1:un S p=N k:=by
   refine Int.eq_of_mul_eq_mul_right (show p.2≠0 by lia) ?_
   unfold un
   rw[Int.mul_assoc,Int.ediv_mul_cancel dv]
   exact l.eq
  refine ⟨⟨f.lo,f.hi,f.pos,dv⟩,e1,by rw[← nK _ S0]; exact qQ S0 l,?_,?_⟩
  ·rw[← e1]; unfold un
   exact Int.mul_nonneg f.lo (Int.ediv_nonneg (by lia) (by lia))
  ·have e2:p.1*S=N k*p.2:=l.eq
   have h3:p.1*S≤p.2*S:=Int.mul_le_mul_of_nonneg_right f.hi (by lia)
   rw[e2,Int.mul_comm p.2]at h3
   exact Int.le_of_mul_le_mul_right h3 p0
 have at_:∀ k (h:k<z.length),(due z m)[k]? = some ((due z m)[k]'(by lia)):=fun k h=>List.getElem?_eq_getElem (by lia)
 refine ⟨S.toNat,(List.range z.length).map fun k=>(N k:Rat)/(S:Rat),?_⟩
 refine ⟨by lia,by lia,by rw[length_map,length_range],?_,?_,?_,?_,?_⟩
 ·apply ext_getElem
  ·simp[dl]
  ·intro k h1 h2
   rw[getElem_map,getElem_map,getElem_range]
   exact (key k _ (List.getElem?_eq_getElem h2)).2.2.1.symm
 ·intro q hq
  obtain ⟨k,hk,rfl⟩:=mem_map.mp hq
  have hk:=mem_range.mp hk
  have:=key k _ (at_ k hk)
  exact tm this.2.2.2.1 this.2.2.2.2 S0
 ·intro f hf
  obtain ⟨k,hk⟩:=List.getElem?_of_mem hf
  rw[eB]
  exact (key k f hk).1
 ·intro f hf
  have g:=ok f hf
  by_cases hu:uns f=true
  ·exact .inl hu
  ·rcases g.ends (fun z=>hu (decide_eq_true z)) with e | e
   ·exact .inr (.inl e)
   ·exact .inr (.inr (by rw[e]))
 ·rw[eB,← hT.all]
  congr 1
  apply ext_getElem
  ·simp[dl]
  ·intro k h1 h2
   rw[getElem_map,getElem_map,getElem_range]
   exact (key k _ (List.getElem?_eq_getElem (by simpa using h1))).2.1
def tlR(sh:List (Int×Int)):Tl:=(List.range sh.length).map fun (o:Nat)=>((o:Int),sh.getD o (0,1))
theorem vv(B:Int)(sh:List (Int×Int)):wt B (tlR sh) []=(sh.map (un B)).sum:=by
 unfold wt tlR
 rw[map_map]
 simp only[length_nil,Int.natCast_zero,Int.mul_zero,Int.add_zero]
 congr 1
 apply ext_getElem
 ·simp
 ·intro k h1 h2
  rw[getElem_map,getElem_map,getElem_range]
  have hk:k<sh.length:=by simpa using h2
  simp[List.getD,hk]
theorem nz{sh:List (Int×Int)}{x:Int×(Int×Int)}(h:x∈tlR sh):x.2∈sh:=by
 obtain ⟨k,hk,rfl⟩:=mem_map.mp h
 have hk:=mem_range.mp hk
 simp[List.getD,hk]
theorem w5{ps:List Int}{sh:List (Int×Int)}(h:ps.length=sh.length):ps.zip sh=rl (fun i=>ps.getD i.toNat 0) (tlR sh):=by
 unfold rl tlR
 apply ext_getElem
 ·simp[h]
 ·intro k h1 h2
  have hk:k<sh.length:=by simp at h1; lia
  have hp:k<ps.length:=by lia
  rw[List.getElem_zip,getElem_map,getElem_map,getElem_range]
  simp[List.getD,hk,hp]
theorem qe{z:List Int}{m:Int}{B:Nat}{qs:List Rat}(D:Due z m B qs)(hl:z.length≤24){rows:List (Int×Int×Int)}{kept:List Int}(h:eW (cc (tlR (due z m)) []).1 (cc (tlR (due z m)) []).2 rows kept):(kept.length:Int)=if (z.length:Int)≤m then (z.length:Int) else m:=by
 have hB:(0:Int)<(B:Int):=by have:=D.B0; lia
 refine lv hB rows _ _ kept _ h (iy ⟨fun x hx=>D.fr _ (nz hx),?_⟩) ?_
 ·unfold tlR; simp[cu,hl]
 ·rw[ot _ _ fun x hx=>D.nice _ (nz hx),vv,D.sum]
theorem iF(tl:Tl)(tk:List Int):(∀ x∈(cc tl tk).2,x∈tk∨x∈tl.map (·.1))∧∀ x∈(cc tl tk).1.map (·.1),x∈tl.map (·.1):=by
 refine ⟨fun x hx=>?_,fun x hx=>?_⟩
 ·rcases mem_append.mp hx with h | h
  ·exact .inl h
  ·obtain ⟨y,hy,rfl⟩:=mem_map.mp h
   exact .inr (mem_map.mpr ⟨y,(mem_filter.mp hy).1,rfl⟩)
 ·obtain ⟨y,hy,rfl⟩:=mem_map.mp hx
  exact mem_map.mpr ⟨y,(mem_filter.mp hy).1,rfl⟩
theorem rO(b:Bool)(tl:Tl)(tk:List Int):(∀ x∈(nx b tl tk).2,x∈tk∨x∈tl.map (·.1))∧∀ x∈(nx b tl tk).1.map (·.1),x∈tl.map (·.1):=by
 match tl with
 | []=>exact ⟨fun x hx=>.inl hx,fun x hx=>hx⟩
 | [(p,c)] =>
  cases b
  ·exact ⟨fun x hx=>.inl hx,fun x hx=>by cases hx⟩
  ·refine ⟨fun x hx=>?_,fun x hx=>by cases hx⟩
   rcases mem_append.mp (show x∈tk++[p] from hx) with h | h
   ·exact .inl h
   ·exact .inr h
 | (p,c)::(o,e)::r=>exact iF ((p,(par b c e).1)::(o,(par b c e).2)::r) tk
theorem lw:∀(rows:List (Int×Int×Int)) (tl:Tl) (tk kept:List Int),eW tl tk rows kept→∀ x∈kept,x∈tk∨x∈tl.map (·.1)
 | [],tl,tk,kept,h,x,hx=>by obtain ⟨rfl,rfl⟩:=h; exact .inl hx
 | (a,b,t)::r,tl,tk,kept,h,x,hx=>by
  obtain ⟨_,_,_,_,_,hg⟩:=h
  rcases lw r _ _ kept hg x hx with z | z
  ·exact (rO _ _ _).1 x z
  ·exact .inr ((rO _ _ _).2 x z)
theorem tY{sh:List (Int×Int)}{rows:List (Int×Int×Int)}{kept:List Int}(h:eW (cc (tlR sh) []).1 (cc (tlR sh) []).2 rows kept):∀ x∈kept,0≤x∧x.toNat<sh.length:=fun x hx=>by
 have key:x∈(tlR sh).map (·.1):=by
  rcases lw rows _ _ kept h x hx with z | z
  ·rcases (iF _ _).1 x z with z | z
   ·cases z
   ·exact z
  ·exact (iF _ _).2 x z
 obtain ⟨y,hy,rfl⟩:=mem_map.mp key
 obtain ⟨k,hk,rfl⟩:=mem_map.mp hy
 exact ⟨Int.natCast_nonneg _,by simpa using hk⟩
end FrM
namespace My
open PySem L2 FrM Du
abbrev Mb:=Int×Int×List Str
def xY(H:Hp)(m:Mb)(x:V):Prop:=∃ q pt,x=.ref q∧H q=some (.tup [.int m.1,.int m.2.1,.ref pt])∧H pt=some (.tup (m.2.2.map V.str))
abbrev CrAt(H:Hp):List Mb→List V→Prop:=Paired (xY H)
theorem CrAt.tk{H H':Hp}(k:TK H H'):∀{ms:List Mb}{xs:List V},CrAt H ms xs→CrAt H' ms xs:=fun h=>Paired.mapP h fun _ _ r=>let ⟨q,pt,h1,h2,h3⟩:=r; ⟨q,pt,h1,k _ _ h2,k _ _ h3⟩
theorem CrAt.get{H:Hp}:∀{ms:List Mb}{xs:List V}{i:Nat}{x:V},CrAt H ms xs→xs[i]? = some x→∃ r,ms[i]? = some r∧xY H r x:=cm
theorem CrAt.len{H:Hp}{ms:List Mb}{xs:List V}(h:CrAt H ms xs):ms.length=xs.length:=Paired.length h
def plc(ms:List Mb):List Int:=ms.map (·.1)
inductive spPlaces(vs:List V)(H:Hp)(Q:VK)(_E:XK):Prop
 | mk(l:Addr)(xs:List V)(ms:List Mb)(h0:vs=[.ref l])(h1:H l=some (.lst xs))(h2:CrAt H ms xs)(h3:ms.length≤24)(h4:∀ H' r,Same H H'→H r=none→H' r=some (.lst ((plc ms).map V.int))→Q (.ref r) H'):spPlaces vs H Q _E
theorem yv{i:Int}(h0:0≤i)(h1:i≤100):((toString i:String):Str).length≤14:=by
 have h:=o3 (k:=12) (n:=i) (by lia)
 rw[← ll]at h
 simpa[Str.length] using h
theorem yh{i:Int}(h0:0≤i)(h1:i≤100):i.natAbs.log2<1920:=oW (by lia)
theorem emp(x:Str):(Str.empty++x:Str)=x:=by
 refine PyProof.Rows.ext_toList ?_
 show ((#[]:Array Nat)++x.cps).toList=x.cps.toList
 simp
def pD(fs:List (Int×Int)):List PyData:=fs.map fun f=>.tuple [.int f.1,.int f.2]
def szs(ms:List Mb):List Int:=ms.map (·.2.1)
inductive spWBy(K:Frag)(vs:List V)(H:Hp)(Q:VK)(_E:XK):Prop
 | mk(l:Addr)(xs:List V)(ms:List Mb)(m:Int)(h0:vs=[.ref l,.int m])(h1:H l=some (.lst xs))(h2:CrAt H ms xs)(h3:Szs (szs ms))(h4:0≤m)(h5:m≤24)(h6:∀ H' r ys,Same H H'→H r=none→H' r=some (.lst ys)→AllF K H' (due (szs ms) m) ys→Q (.ref r) H'):spWBy K vs H Q _E
def lsL(ms:List Mb)(m:Nat):Tl:=(plc ms).zip (due (szs ms) (m:Nat))
theorem lU{K:Frag}{H:Hp}:∀{ps:List Int}{fs:List (Int×Int)}{ys zs:List V},ps.length=fs.length→zs.length=ps.length→AllF K H fs ys→Zp H (ps.map V.int) ys zs→Paired (PrAt K H) (ps.zip fs) zs
 | [],[],_,[],_,_,_,_=>.nil
 | [],[],_,_::_,_,h,_,_=>by cases h
 | [],_::_,_,_,h,_,_,_=>by cases h
 | _::_,[],_,_,h,_,_,_=>by cases h
 | _::_,_::_,_,[],_,h,_,_=>by cases h
 | p::ps,f::fs,y::ys,z::zs,h1,h2,.cons hf t,hz=>by
  obtain ⟨q,e,hq⟩:=hz 0 z (.int p) y rfl rfl rfl
  exact .cons ⟨q,y,e,hq,hf⟩ (lU (by simpa using h1) (by simpa using h2) t fun j a b c h3 h4 h5=>hz (j+1) a b c h3 h4 h5)
theorem uL(ms:List Mb)(m:Nat):(lsL ms m).length=ms.length:=by
 unfold lsL
 rw[List.length_zip,cu]
 unfold plc szs
 rw[length_map,length_map]
 exact Nat.min_self _
theorem xS{H:Hp}{x dx:Addr}{o1 o2:HO}(hx:H x=none)(hd:H dx=none):Same H (upd (upd H dx o1) x o2):=fun b o e=>by rw[ag (am e hx),ag (am e hd)]; exact e
def tw(ms:List Mb):Prop:=∀ m∈ms,∀ t∈m.2.2,PyData.strOk t=true
inductive spCrowd(K:Frag)(vs:List V)(H:Hp)(Q:VK)(_E:XK):Prop
 | mk(p:Addr)(ns:List Int)(h0:vs=[.ref p,.int 0,.int 24])(h1:SqL K H p (ns.map V.int))(h2:ns.length≤63)(h3:∀ H' r ms xs,Same H H'→H r=none→H' r=some (.lst xs)→CrAt H' ms xs→Szs (szs ms)→tw ms→Q (.ref r) H'):spCrowd K vs H Q _E
theorem CrAt.refs{H:Hp}:∀{ms:List Mb}{xs:List V},CrAt H ms xs→∀ v∈xs,∃ p,v=V.ref p:=fun h v m=>let ⟨_,q,_,e,_⟩:=PySem.Paired.right h v m; ⟨q,e⟩
inductive Thing(H:Hp):V→Option Int→Prop
 | int (i:Int):Thing H (.int i) (some i)
 | bl (b:Bool):Thing H (.bl b) none
 | non:Thing H .non none
 | str (t:Str):Thing H (.str t) none
 | lst (p:Addr) (xs:List V) (e:H p=some (.lst xs)):Thing H (.ref p) none
 | tup (p:Addr) (xs:List V) (e:H p=some (.tup xs)):Thing H (.ref p) none
 | dK (p:Addr) (kvs:List (Key×V)) (e:H p=some (.dK kvs)):Thing H (.ref p) none
theorem Thing.same{H H':Hp}{x:V}{o:Option Int}(s:Same H H')(h:Thing H x o):Thing H' x o:=by
 cases h with
 | int i=>exact .int i
 | bl b=>exact .bl b
 | non=>exact .non
 | str t=>exact .str t
 | lst p xs e=>exact .lst p xs (s _ _ e)
 | tup p xs e=>exact .tup p xs (s _ _ e)
 | dK p kvs e=>exact .dK p kvs (s _ _ e)
def inR(lo hi:Int):Option Int→Bool
 | some i=>decide (lo≤i∧i≤hi)
 | none=>false
inductive spWhole3(vs:List V)(H:Hp)(Q:VK)(_E:XK):Prop
 | mk(x:V)(lo hi:Int)(o:Option Int)(h0:vs=[x,.int lo,.int hi])(h1:Thing H x o)(h2:Q (.bl (inR lo hi o)) H):spWhole3 vs H Q _E
inductive spI1(c:Addr)(f1:Str)(vs:List V)(H:Hp)(Q:VK)(_E:XK):Prop
 | mk(x:Addr)(m:Int)(h0:vs=[.ref x,.int m])(h1:H x=some (.ext (XD0 x c)))(h2:∀ dx,H dx=none→dx≠x→Q .non (upd (upd H dx (.ext (XDct dx [(f1,.int m)]))) x (.ext (XD1 x c dx)))):spI1 c f1 vs H Q _E
theorem jp{c:Addr}{f1:Str}:∀ vs H Q E,spI1 c f1 vs H Q E→vs.length≤100:=by
 rintro _ _ _ _ ⟨_,_,rfl,_⟩; exact (by decide:2≤100)
def Ref(a:Ad)(H:Hp)(E:XK):Prop:=∀ H' dx,Same H H'→H' dx=some (.ext (XDct dx [("place",.int 0)]))→E (.ref a.c_f) (some dx) H'
inductive spNeed(a:Ad)(vs:List V)(H:Hp)(Q:VK)(E:XK):Prop
 | mk(x:V)(lo hi:Int)(o:Option Int)(h0:vs=[x,.int lo,.int hi])(h1:Thing H x o)(h2:((inR lo hi o=true∧Q .non H)∨(inR lo hi o=false∧Ref a H E))):spNeed a vs H Q E
inductive spInit(a:Ad)(C:Addr)(f:Str)(lo hi:Int)(vs:List V)(H:Hp)(Q:VK)(E:XK):Prop
 | mk(x dx:Addr)(v:V)(o:Option Int)(h0:vs=[.ref x,v])(h1:H x=some (.ins C dx []))(h2:Thing H v o)(h3:((inR lo hi o=true∧Q .non (upd H x (.ins C dx [(f,v)])))∨(inR lo hi o=false∧Ref a H E))):spInit a C f lo hi vs H Q E
def IsDuel(a:Ad)(H:Hp)(v:V)(m:Nat):Prop:=∃ x dx,v=.ref x∧H x=some (.ins a.c_c dx [("many",.int (m:Nat))])
theorem IsDuel.t{a:Ad}{H H':Hp}{v:V}{m:Nat}(s:SameT H H')(h:IsDuel a H v m):IsDuel a H' v m:=let ⟨x,dx,h1,h2⟩:=h; ⟨x,dx,h1,s.at h2⟩
inductive spDuelI(a:Ad)(vs:List V)(H:Hp)(Q:VK)(_E:XK):Prop
 | mk(x dx:Addr)(m:Nat)(h0:vs=[.ref x,.int (m:Nat)])(h1:H x=some (.ins a.c_c dx []))(h2:m≤24)(h3:Q .non (upd H x (.ins a.c_c dx [("many",.int (m:Nat))]))):spDuelI a vs H Q _E
inductive spDNode(K:Frag)(a:Ad)(vs:List V)(H:Hp)(Q:VK)(_E:XK):Prop
 | mk(N:Addr→Prop)(v:V)(m:Nat)(l:Addr)(xs:List V)(ms:List Mb)(B:Nat)(qs:List Rat)(h0:vs=[v,.ref l])(h1:(∀ b,H b=none→N b))(h2:IsDuel a H v m)(h3:H l=some (.lst xs))(h4:CrAt H ms xs)(h5:Szs (szs ms))(h6:m≤24)(h7:Due (szs ms) (m:Nat) B qs)(h8:TabsOk (tabs a) H)(h9:∀ H' u,SameT H H'→TabsOk (tabs a) H'→IsNodeN K a N H' u (cc (lsL ms m) [])→Q u H'):spDNode K a vs H Q _E
def dmx(qs:List Rat):List (List (Int×Int)):=uV qs (nj (kx qs (List.range qs.length)))
def vC(K:Frag)(a:Ad)(H:Hp)(Q:VK)(qs:List Rat):Prop:=∀ H' r xs,SameT H H'→TabsOk (tabs a) H'→H r=none→H' r=some (.lst xs)→MatAt K r H' (dmx qs) xs→xs.Nodup→(∀ q,V.ref q∈xs→H q=none)→Q (.ref r) H'
inductive spDMat(K:Frag)(a:Ad)(vs:List V)(H:Hp)(Q:VK)(_E:XK):Prop
 | mk(v:V)(m:Nat)(l:Addr)(xs:List V)(ms:List Mb)(B:Nat)(qs:List Rat)(h0:vs=[v,.ref l])(h1:IsDuel a H v m)(h2:H l=some (.lst xs))(h3:CrAt H ms xs)(h4:Szs (szs ms))(h5:m≤24)(h6:Due (szs ms) (m:Nat) B qs)(h7:TabsOk (tabs a) H)(h8:vC K a H Q qs):spDMat K a vs H Q _E
def mnI(m n:Nat):Int:=if (n:Int)<(m:Int) then (n:Int) else (m:Int)
inductive spDBo(a:Ad)(vs:List V)(H:Hp)(Q:VK)(_E:XK):Prop
 | mk(v:V)(m:Nat)(l:Addr)(xs:List V)(h0:vs=[v,.ref l])(h1:IsDuel a H v m)(h2:H l=some (.lst xs))(h3:xs.length≤24)(h4:∀ H' p,Same H H'→H' p=some (.tup [.int (mnI m xs.length),.int (mnI m xs.length)])→Q (.ref p) H'):spDBo a vs H Q _E
inductive spTextD(a:Ad)(vs:List V)(H:Hp)(Q:VK)(_E:XK):Prop
 | mk(v:V)(m:Nat)(h0:vs=[v])(h1:IsDuel a H v m)(h2:m≤24)(h3:Q (.str (("duel " : Str)++(toString (m:Int):String))) H):spTextD a vs H Q _E
section
variable {P:Program}{w:World}{K:Frag}{mg:Str→Option Value}{base:Heap}{a:Ad}
theorem pR(T:Txt K mg a):FnOk P w K mg base CX0 1 a.f_ae a.d_ae ["crowd"] spPlaces:=by
 refine T.F_ae.ok j8 (fun vs H Q E h=>?_) (fun cdv A outer s H vs Q E hr h=>?_)
 ·obtain ⟨l,xs,ms,rfl,_⟩:=h; rfl
 ·obtain ⟨l,xs,ms,rfl,hl,hc,hlen,q⟩:=h
  have small:sizeLine=16777216:=sizeLine_eq
  have hcl:=hc.len
  refine ⟨_,(ak (aw (bf rfl (N:=["member"]) (ix:=[none]) ⟨rfl,rfl,rfl,rfl,trivial⟩ (bj (vr 0)) ⟨fun C s H fp=>ap (i:=0) (show List.Nodup (["member"]:List Str) by decide +kernel) rfl (Or.inl rfl),fun C s H fp=>bi,fun C s H fp=>(ax (bL (K:=K) rfl) (vr 0) aj (fun _ _=>rfl))⟩))),?_⟩
  refine .inl ⟨⟨_,SqL.of hl⟩,fun D hD=>?_⟩
  let Pw1:PvL:=fun i ys H'=>i≤xs.length∧Same H H'∧H' D=some (.lst ys)∧ys=(plc (ms.take i)).map V.int
  refine aK (K:=K) (a:=l) (xs:=xs) Pw1 ⟨Nat.zero_le _,Same.new hD,ac,rfl⟩ (fun i ys H' h=>SqL.of (h.2.1 _ _ hl)) (fun i ys H' h=>h.2.2.1) ?_ ?_
  ·rintro i x ys H' P' hx ⟨hi,s1,hD1,rfl⟩ hP
   obtain ⟨m,hm,q1,pt,rfl,g1,g2⟩:=(hc.tk s1.tk).get hx
   have hlt:i<xs.length:=(List.getElem?_eq_some_iff.mp hx).1
   refine ⟨trivial,.inr (.inl ⟨q1,_,_,_,rfl,rfl,SqT.of g1,aB 0 rfl rfl,hD1,?_,hP _ _ ⟨hlt,s1.put hD,ac,?_⟩⟩)⟩
   ·unfold plc; rw[length_map,length_map,length_take]; lia
   ·unfold plc; rw[take_add_one,hm,map_append,map_append]; rfl
  ·rintro ys H' ⟨_,s1,hD1,rfl⟩
   rw[← hcl,take_of_length_le (Nat.le_refl _)]at hD1
   exact q _ D s1 hD hD1
theorem qx(T:Txt K mg a):FnOk P w K mg base CX0 5 a.f_P a.d_P ["crowd","many"] (spWBy K):=by
 have G_as:FnOk P w K mg base CX0 4 _ _ _ (spWished K):=pG T
 refine T.F_P.ok ki (fun vs H Q E h=>?_) (fun cdv A outer s H vs Q E hr h=>?_)
 ·obtain ⟨l,xs,ms,m,rfl,_⟩:=h; rfl
 ·obtain ⟨l,xs,ms,m,rfl,hl,hc,hz,m0,m1,q⟩:=h
  have small:sizeLine=16777216:=sizeLine_eq
  have hcl:=hc.len
  have hlen:ms.length≤24:=by have:=hz.len; unfold szs at this; rw[length_map]at this; exact this
  refine ⟨_,(ak (aw (ao G_as hr rfl T.m_as T.F_as.kp T.B_as .nil aq (aa (bf rfl (N:=["member"]) (ix:=[none]) ⟨rfl,rfl,rfl,rfl,trivial⟩ (bj (vr 0)) ⟨fun C s H fp=>ap (i:=0) (show List.Nodup (["member"]:List Str) by decide +kernel) rfl (Or.inl rfl),fun C s H fp=>bi,fun C s H fp=>(ax (bL (K:=K) rfl) (vr 0) aj (fun _ _=>rfl))⟩) (aa (vr 1) ae))))),?_⟩
  refine .inl ⟨⟨_,SqL.of hl⟩,fun D hD=>?_⟩
  let Pw2:PvL:=fun i ys H'=>i≤xs.length∧Same H H'∧H' D=some (.lst ys)∧ys=(szs (ms.take i)).map V.int
  refine aK (K:=K) (a:=l) (xs:=xs) Pw2 ⟨Nat.zero_le _,Same.new hD,ac,rfl⟩ (fun i ys H' h=>SqL.of (h.2.1 _ _ hl)) (fun i ys H' h=>h.2.2.1) ?_ ?_
  ·rintro i x ys H' P' hx ⟨hi,s1,hD1,rfl⟩ hP
   obtain ⟨mm,hm,q1,pt,rfl,g1,g2⟩:=(hc.tk s1.tk).get hx
   have hlt:i<xs.length:=(List.getElem?_eq_some_iff.mp hx).1
   refine ⟨trivial,.inr (.inl ⟨q1,_,_,_,rfl,rfl,SqT.of g1,aB 1 rfl rfl,hD1,?_,hP _ _ ⟨hlt,s1.put hD,ac,?_⟩⟩)⟩
   ·unfold szs; rw[length_map,length_map,length_take]; lia
   ·unfold szs; rw[take_add_one,hm,map_append,map_append]; rfl
  ·rintro ys H' ⟨_,s1,hD1,rfl⟩
   rw[← hcl,take_of_length_le (Nat.le_refl _)]at hD1
   exact ⟨D,szs ms,m,rfl,hD1,hz,m0,m1,fun H2 r ys s2 hr0 hr hA=>q H2 r ys (s1.trans s2) (s1.free hr0) hr hA⟩
theorem rV(T:Txt K mg a):FnOk P w K mg base CX0 3 a.f_W a.d_W ["_law_script","_law_start","_law_most"] (spCrowd K):=by
 have G_B:FnOk P w K mg base CX0 2 _ _ _ _:=(m8 T).mono (by decide)
 have G_ag:FnOk P w K mg base CX0 2 _ _ _ spRow:=sC T
 refine T.F_W.ok sc_W (fun vs H Q E h=>?_) (fun cdv A outer s H vs Q E hr h=>?_)
 ·obtain ⟨p,ns,rfl,_⟩:=h; rfl
 ·obtain ⟨p,ns,rfl,hS,hlen,q⟩:=h
  have small:sizeLine=16777216:=sizeLine_eq
  refine ⟨_,(af (av (i:=3) sc_W.nd rfl (Or.inl rfl) (au cO (ao G_B hr rfl T.m_B T.F_B.kp T.B_B .nil aq (aa (vr 0) (aa (vr 1) ae))) (au df (vr 2) aj))) (af (av (i:=4) sc_W.nd rfl (Or.inl rfl) (ao G_B hr rfl T.m_B T.F_B.kp T.B_B .nil aq (aa (vr 0) (aa (au df (vr 1) aj) ae)))) (af (av (i:=5) sc_W.nd rfl (Or.inl rfl) (ax ar (aY (aa aj (aa aj (aa (ax ar (aY (aa aj (aa aj ae))) (aL jO rfl T.z_int iZ (aa (cY fm (vr 3) aj (aC _)) ae)) (fun _ _=>rfl)) ae)))) (au cO (au cb (vr 4) aj) aj) (fun _ _=>rfl))) (af (av (i:=6) sc_W.nd rfl (Or.inr rfl) (ao G_ag hr rfl T.m_ag T.F_ag.kp T.B_ag .nil aq (aa (ao G_B hr rfl T.m_B T.F_B.kp T.B_B .nil aq (aa (vr 0) (aa (au df (vr 1) aj) ae))) (aa (vr 4) (aa (vr 3) (aa (vr 5) ae)))))) (af (av (i:=7) sc_W.nd rfl (Or.inl rfl) (aL (lL rfl) rfl T.z_list di (aa (aL eQ rfl T.z_range fA (aa aj ae)) ae))) (af (av (i:=8) sc_W.nd rfl (Or.inr rfl) (aY ae)) (af (ei PassesOwn.never rfl (bj (ao G_ag hr rfl T.m_ag T.F_ag.kp T.B_ag .nil aq (aa (ao G_B hr rfl T.m_B T.F_B.kp T.B_B .nil aq (aa (vr 0) (aa (au df (vr 1) aj) ae))) (aa (au cb (vr 4) aj) (aa (vr 3) (aa aj ae)))))) (ap (i:=9) sc_W.nd rfl (Or.inl rfl)) (ak (dS (pe_m.append (vr 8) (aa (pe_m.popAt (vr 7) (aa (au cO (vr 9) (az aE rfl T.z_len bI (aa (vr 7) ae))) ae)) ae))))) (af (av (i:=8) sc_W.nd rfl (Or.inr rfl) (az eV rfl T.z_sorted g9 (aa (vr 8) ae))) (af (av (i:=10) sc_W.nd rfl (Or.inr rfl) (aL dG rfl T.z_tuple gA (aa (gL km (aY (aa gi (aa gi (aa gi ae)))) iA (iz (au cO (au cb (vr 4) aj) aj))) ae))) (ak (aw (bf rfl (N:=["_law_k","_law_path","_law_places","_law_sizes"]) (ix:=[none,some 10,some 8,some 6]) ⟨rfl,rfl,rfl,rfl,⟨rfl,rfl,rfl,⟨rfl,rfl,rfl,⟨rfl,rfl,rfl,trivial⟩⟩⟩⟩ (cA rfl T.z_range (aa (vr 3) ae)) ⟨fun C s H fp=>ap (i:=0) (show List.Nodup (["_law_k","_law_path","_law_places","_law_sizes"]:List Str) by decide +kernel) rfl (Or.inl rfl),fun C s H fp=>bi,fun C s H fp=>(aM (aa (ax (bL (K:=K) rfl) (vr 2) (vr 0) (fun _ _=>rfl)) (aa (au df aj (ax (bL (K:=K) rfl) (vr 3) (vr 0) (fun _ _=>rfl))) (aa (vr 1) ae))))⟩)))))))))))),wF ?_⟩
  intro zt10 zt9 zt8 zt7 zt6 zt5 zt4 zt3 zt2
  refine ⟨p,ns,0,rfl,hS,hlen,by decide,by decide,cp,?_⟩
  have n0:0≤(cH ns 0 % 25):=by lia
  have n1:(cH ns 0 % 25)≤24:=by lia
  refine ⟨p,ns,1,rfl,hS,hlen,by decide,by decide,?_⟩
  refine ⟨aP _ _,fun p0 hp0=>?_⟩
  have s0:=Same.new (o:=.lst [.int 1000,.int 24000000]) hp0
  obtain ⟨m9,hm9,m90,m91⟩:∃ m:Int,atI [V.int 1000,V.int 24000000] (if decide (cH ns 0 % 25<9)=true then 1 else 0)=some (.int m)∧1≤m∧m≤24000000:=by
   split
   ·exact ⟨24000000,aB 1 rfl rfl,by decide,by decide⟩
   ·exact ⟨1000,aB 0 rfl rfl,by decide,by decide⟩
  refine .inr ⟨_,rfl,?_⟩
  refine .inl ⟨p0,_,_,.int m9,rfl,rfl,SqL.of ac,hm9,?_⟩
  refine ⟨(by decide:3≤sizeLine),fun p1 hp1=>⟨cdB (by decide) (show Bt 2 2 by unfold Bt; decide),cp,?_⟩⟩
  have s1:=s0.trans (Same.new (o:=.lst [.int 9,.int 1000,.int m9]) hp1)
  obtain ⟨m,hm,m0,m1⟩:∃ m:Int,atI [V.int 9,V.int 1000,V.int m9] ((cH ns 1)/2 % 3)=some (.int m)∧1≤m∧m≤24000000:=by
   have h3:(cH ns 1)/2 % 3=((0:Nat):Int)∨(cH ns 1)/2 % 3=((1:Nat):Int)∨(cH ns 1)/2 % 3=((2:Nat):Int):=by lia
   rcases h3 with e | e | e <;> rw[e]
   ·exact ⟨9,bg rfl,by decide,by decide⟩
   ·exact ⟨1000,bg rfl,by decide,by decide⟩
   ·exact ⟨m9,bg rfl,m90,m91⟩
  refine .inl ⟨p1,_,_,.int m,rfl,rfl,SqL.of ac,hm,?_⟩
  refine ⟨p,ns,2,rfl,s1.seq hS,hlen,by decide,by decide,?_⟩
  refine ⟨_,_,_,_,rfl,n0,by lia,m0,by lia,fun H2 ls sizes s2 _ hls hl2 hb2=>?_⟩
  have s02:=s1.trans s2
  refine ⟨24,rfl,fun pr hpr=>?_⟩
  have s3:Same H2 (upd H2 pr (.rng 0 24)):=Same.new hpr
  refine ⟨pr,rfl,ac,fun pl hpl=>?_⟩
  have s03:=s02.trans s3
  have hls3:=s3 _ _ hls
  generalize upd H2 pr (.rng 0 24)=H3 at s3 hpl s03 hls3
  have hplH:H pl=none:=s03.free hpl
  have s4:=Same.new (o:=.lst ((List.range 24).map fun (i:Nat)=>V.int (i:Int))) hpl
  have hpl4:(upd H3 pl (.lst ((List.range 24).map fun (i:Nat)=>V.int (i:Int)))) pl=some (.lst ((List.range 24).map fun (i:Nat)=>V.int (i:Int))):=ac
  generalize upd H3 pl (.lst ((List.range 24).map fun (i:Nat)=>V.int (i:Int)))=H4 at s4 hpl4
  refine ⟨Nat.zero_le _,fun r hr0=>?_⟩
  have s5:=Same.new (o:=.lst []) hr0
  have s05:=(s03.trans s4).trans s5
  have nrp:r≠pl:=fun z=>by rw[z,hpl4]at hr0; cases hr0
  have hrH:H r=none:=(s03.trans s4).free hr0
  have nls1:ls≠pl:=am hls3 hpl
  have nls2:ls≠r:=am (s4 _ _ hls3) hr0
  have hr5:(upd H4 r (.lst [])) r=some (.lst []):=ac
  have hpl5:=s5 _ _ hpl4
  have hls5:=(s4.trans s5) _ _ hls3
  generalize upd H4 r (.lst [])=H5 at s5 s05 hr5 hpl5 hls5
  refine ⟨p,ns,3,rfl,s05.seq hS,hlen,by decide,by decide,cdB (by decide) (show Bt 3 6 by unfold Bt; decide),?_⟩
  refine ⟨_,_,_,_,rfl,n0,by lia,by decide,by decide,fun H6 lp picks s6 hlp0 hlp hl6 hb6=>?_⟩
  obtain ⟨many,hmany⟩:∃ x:Int,x=cH ns 0 % 25:=⟨_,rfl⟩
  have n0:0≤many:=by lia
  have n1:many≤24:=by lia
  have hl2:(sizes.length:Int)=many:=by lia
  have hl6:(picks.length:Int)=many:=by lia
  have s06:=s05.trans s6
  have nlp1:lp≠pl:=fun z=>by rw[z,hpl5]at hlp0; cases hlp0
  have nlp2:lp≠r:=fun z=>by rw[z,hr5]at hlp0; cases hlp0
  let Pw3:PvS:=fun i σ H'=>∃(ys:List V) (zs:List Int) (x8:Option V),σ=[some (.ref p),some (.int 0),some (.int 24),some (.int many),some (.int (cH ns 1)),some (.int m),some (.ref ls),some (.ref pl),some (.ref r),x8,none]∧Same H H'∧H' lp=some (.lst (picks.map V.int))∧H' ls=some (.lst (sizes.map V.int))∧H' pl=some (.lst ys)∧ys.length=24 - i∧(∀ y∈ys,∃ n:Int,y=.int n)∧H' r=some (.lst (zs.map V.int))∧zs.length=i
  refine .inl ⟨⟨_,SqL.of hlp⟩,d6 (K:=K) (a:=lp) (xs:=picks.map V.int) Pw3
   ⟨_,[],none,by rw[hmany]; rfl,s06,hlp,s6 _ _ hls5,s6 _ _ hpl5,by rw[length_map,length_range],(fun y hy=>by obtain ⟨j,_,e⟩:=mem_map.mp hy; exact ⟨_,e.symm⟩),s6 _ _ hr5,rfl⟩ (fun i σ H' _ h=>by obtain ⟨_,_,_,_,_,z,_⟩:=h; exact SqL.of z) ?_ ?_⟩
  ·rintro i x σ H' hx ⟨ys,zs,x8,rfl,sH,hlp',hls',hpl',hyl,hint,hr',hzl⟩
   have hi:i<picks.length:=by have:=(List.getElem?_eq_some_iff.mp hx).1; rw[length_map]at this; exact this
   rw[List.getElem?_map,List.getElem?_eq_getElem hi]at hx
   cases hx
   have hi24:i<24:=by lia
   refine ⟨.inl ⟨rfl,_,SqL.of hr'⟩,.inl ⟨rfl,_,SqL.of hpl'⟩,ys,.inl (SqL.of hpl'),cp (by lia),?_⟩
   obtain ⟨ix,hix⟩:∃ x:Int,x=picks[i] % (ys.length:Int):=⟨_,rfl⟩
   have i0:0≤ix:=by rw[hix]; exact Int.emod_nonneg _ (by lia)
   have i1:ix<ys.length:=by rw[hix]; exact Int.emod_lt_of_pos _ (by lia)
   have hk:ix.toNat<ys.length:=by lia
   have hN:ixN ys.length ix=some ix.toNat:=by
    unfold ixN
    rw[if_pos i0,if_pos i1]
   obtain ⟨n,hn⟩:=hint ys[ix.toNat] (getElem_mem hk)
   refine ⟨pl,ys,ix,ix.toNat,ys[ix.toNat],rfl,by rw[hix],hpl',by lia,by lia,(kD hN).1,List.getElem?_eq_getElem hk,?_⟩
   rw[hn]
   have hr2:(upd H' pl (.lst (ys.eraseIdx ix.toNat))) r=some (.lst (zs.map V.int)):=by rw[ag nrp]; exact hr'
   refine ⟨r,_,_,rfl,rfl,hr2,by rw[length_map]; lia,?_⟩
   refine ⟨ys.eraseIdx ix.toNat,zs++[n],_,rfl,(sH.put hplH).put hrH,?_,?_,?_,?_,fun y hy=>hint y (List.mem_of_mem_eraseIdx hy),?_,?_⟩
   ·rw[ag nlp2,ag nlp1]; exact hlp'
   ·rw[ag nls2,ag nls1]; exact hls'
   ·rw[ag nrp.symm]; exact ac
   ·rw[List.length_eraseIdx_of_lt hk,hyl]; lia
   ·rw[ac,map_append]; rfl
   ·rw[length_append,hzl]; rfl
  ·rintro σ H' ⟨ys,zs,x8,rfl,sH,hlp',hls',hpl',hyl,hint,hr',hzl⟩
   rw[length_map]at hzl
   have hzm:(zs.length:Int)=many:=by lia
   refine ⟨r,zs,rfl,SqL.of hr',by lia,fun q1 ps hp hs f1=>?_⟩
   have t1:=Same.new (o:=.lst (ps.map V.int)) f1
   have hps:ps.length=zs.length:=hp.length_eq
   refine ⟨(show 3≤sizeLine by decide),fun q2 f2=>?_⟩
   have t2:=t1.trans (Same.new (o:=.lst [.str "ab",.str "abc",.str "b"]) f2)
   refine ⟨cdB (by decide) (show Bt 4 12 by unfold Bt; decide),cp,_,rfl,.inl ⟨_,SqL.of ac,fun q3 f3=>?_⟩⟩
   obtain ⟨kk,hkk,hk4⟩:∃ kk:Nat,cH ns 1/12 % 4=(kk:Int)∧kk<4:=⟨(cH ns 1/12 % 4).toNat,by lia,by lia⟩
   obtain ⟨pa,hpa⟩:∃ pa:List Str,pa=(["ab","abc","b"]:List Str).take kk:=⟨_,rfl⟩
   have ecut:dg [V.str "ab",V.str "abc",V.str "b"] none (some (cH ns 1/12 % 4))=pa.map V.str:=by
    rw[hkk,hpa,map_take]
    match kk,hk4 with
    | 0,_=>rfl
    | 1,_=>rfl
    | 2,_=>rfl
    | 3,_=>rfl
   have t3:=t2.trans (Same.new (o:=.lst (dg [V.str "ab",V.str "abc",V.str "b"] none (some (cH ns 1/12 % 4)))) f3)
   refine ⟨q3,_,rfl,.inl ⟨SqL.of ac,fun pt fpt=>?_⟩⟩
   have n4:=Same.new (o:=.tup (dg [V.str "ab",V.str "abc",V.str "b"] none (some (cH ns 1/12 % 4)))) fpt
   have t4:=t3.trans n4
   have hq1:=((Same.new (o:=.lst [.str "ab",.str "abc",.str "b"]) f2).trans ((Same.new (o:=.lst (dg [V.str "ab",V.str "abc",V.str "b"] none (some (cH ns 1/12 % 4)))) f3).trans n4)) _ _ (ac (a:=q1) (o:=.lst (ps.map V.int)))
   have hpt:∀ H7:Hp,Same (upd (upd (upd (upd H' q1 (.lst (ps.map V.int))) q2 (.lst [.str "ab",.str "abc",.str "b"])) q3 (.lst (dg [V.str "ab",V.str "abc",V.str "b"] none (some (cH ns 1/12 % 4))))) pt (.tup (dg [V.str "ab",V.str "abc",V.str "b"] none (some (cH ns 1/12 % 4))))) H7→H7 pt=some (.tup (pa.map V.str)):=fun H7 s7=>by rw[← ecut]; exact s7 _ _ ac
   have hls4:=t4 _ _ hls'
   have hpt':=hpt _ (Same.refl _)
   clear hpt
   refine ⟨many,rfl,by lia,by lia,?_⟩
   generalize upd (upd (upd (upd H' q1 (.lst (ps.map V.int))) q2 (.lst [.str "ab",.str "abc",.str "b"])) q3 (.lst (dg [V.str "ab",V.str "abc",V.str "b"] none (some (cH ns 1/12 % 4))))) pt (.tup (dg [V.str "ab",V.str "abc",V.str "b"] none (some (cH ns 1/12 % 4))))=H7 at t4 hq1 hpt' hls4 n4
   intro D hD
   have hmn:(many.toNat:Int)=many:=by lia
   let Pw4:PvL:=fun j ys H2=>j≤many.toNat∧Same H7 H2∧H2 D=some (.lst ys)∧CrAt H2 ((List.range j).map fun (k:Nat)=>((ps.getD k 0,1+sizes.getD k 0,pa):Mb)) ys
   refine dO (lo:=0) (n:=many.toNat) Pw4 ⟨Nat.zero_le _,Same.new hD,ac,.nil⟩ (fun j ys H2 h=>h.2.2.1) ?_ ?_
   ·rintro j ys H2 P' hj ⟨_,u1,hD2,hC⟩ hP
    have hyl:ys.length=j:=by rw[← hC.len,length_map,length_range]
    have hjp:j<ps.length:=by lia
    have hjs:j<sizes.length:=by lia
    refine ⟨⟨rfl,rfl,rfl,trivial⟩,.inl ⟨q1,_,_,.int (ps.getD j 0),rfl,rfl,SqL.of (u1 _ _ hq1),aB j (by lia) (by simp[List.getElem?_map,List.getD,hjp]),.inl ⟨ls,_,_,.int (sizes.getD j 0),rfl,rfl,SqL.of (u1 _ _ hls4),aB j (by lia) (by simp[List.getElem?_map,List.getD,hjs]),?_⟩⟩⟩
    refine ⟨(show 3≤sizeLine by decide),fun q4 f4=>?_⟩
    have n5:=Same.new (o:=.tup [.int (ps.getD j 0),.int (1+sizes.getD j 0),.ref pt]) f4
    have hD3:=n5 _ _ hD2
    refine ⟨hD3,by lia,hP _ _ ⟨hj,(u1.trans n5).put hD,ac,?_⟩⟩
    have k5:TK H2 (upd (upd H2 q4 (.tup [.int (ps.getD j 0),.int (1+sizes.getD j 0),.ref pt])) D (.lst (ys++[.ref q4]))):=n5.tk.trans (TK.lst hD3)
    rw[range_succ,map_append]
    exact cJ ⟨q4,pt,rfl,TK.lst hD3 _ _ ac,k5 _ _ (u1 _ _ hpt')⟩ (hC.tk k5)
   ·rintro ys H2 ⟨_,u1,hD2,hC⟩
    refine q _ D _ ys (sH.trans (t4.trans u1)) ((sH.trans t4).free hD) hD2 hC ?_ fun mb hmb t ht=>?_
    rotate_left
    ·obtain ⟨k,_,rfl⟩:=mem_map.mp hmb
     have ht:t∈pa:=ht
     rw[hpa]at ht
     have:=mem_of_mem_take ht
     rcases mem_cons.mp this with rfl | this
     ·decide +kernel
     rcases mem_cons.mp this with rfl | this
     ·decide +kernel
     rcases mem_cons.mp this with rfl | this
     ·decide +kernel
     cases this
    unfold szs
    rw[map_map]
    have szl:((List.range many.toNat).map ((fun x:Mb=>x.2.1) ∘ fun (k:Nat)=>((ps.getD k 0,1+sizes.getD k 0,pa):Mb))).length≤24:=by rw[length_map,length_range]; lia
    have szb:∀ z∈(List.range many.toNat).map ((fun x:Mb=>x.2.1) ∘ fun (k:Nat)=>((ps.getD k 0,1+sizes.getD k 0,pa):Mb)),1≤z∧z≤24000000:=fun z hz=>by
     obtain ⟨k,hk,rfl⟩:=mem_map.mp hz
     have hk:=mem_range.mp hk
     have hks:k<sizes.length:=by lia
     have:=hb2 (sizes.getD k 0) (by rw[List.getD,List.getElem?_eq_getElem hks]; exact getElem_mem hks)
     show 1≤1+sizes.getD k 0∧1+sizes.getD k 0≤24000000
     lia
    exact ⟨szl,fun z hz=>(szb z hz).1,fun z hz=>(szb z hz).2⟩
theorem pj(T:Txt K mg a):FnOk P w K mg base CX0 1 a.f_T a.d_T ["thing","low","high"] spWhole3:=by
 refine T.F_T.ok hZ (fun vs H Q E h=>?_) (fun cdv A outer s H vs Q E hr h=>?_)
 ·obtain ⟨x,lo,hi,o,rfl,_⟩:=h; rfl
 ·obtain ⟨x,lo,hi,o,rfl,th,q⟩:=h
  refine ⟨_,(ak (aw (fX (az ek rfl T.z_isinstance bN (aa (vr 0) (aa (fN (v:=.ty "int") rfl T.z_int iZ rfl) ae))) (fX (rD (az ek rfl T.z_isinstance bN (aa (vr 0) (aa (fN (v:=.ty "bool") rfl T.z_bool kq rfl) ae)))) (gZ (kz sK sK (vr 1) (vr 0) (vr 2))))))),?_⟩
  cases th with
  | int i =>
   refine ⟨_,_,_,true,rfl,rfl,.int i,rfl,?_⟩
   refine ⟨_,_,_,false,rfl,rfl,.int i,rfl,?_⟩
   exact rq (Q:=fun v=>Q v H) q
  | bl b=>exact ⟨_,_,_,true,rfl,rfl,.bl b,rfl,⟨_,_,_,true,rfl,rfl,.bl b,rfl,q⟩⟩
  | non=>exact ⟨_,_,_,false,rfl,rfl,.non,rfl,q⟩
  | str t=>exact ⟨_,_,_,false,rfl,rfl,.str t,rfl,q⟩
  | lst p xs e=>exact ⟨_,_,_,false,rfl,rfl,.lst e,rfl,q⟩
  | tup p xs e=>exact ⟨_,_,_,false,rfl,rfl,.tup e,rfl,q⟩
  | dK p kvs e=>exact ⟨_,_,_,false,rfl,rfl,.dK e,rfl,q⟩
theorem oH(T:Txt K mg a):FnOk P w K mg base CX0 1 a.i_f a.e_f ["self","place"] (spI1 a.c_f "place"):=by
 refine T.Fi_f.ok gj (fun vs H Q E h=>?_) (fun cdv A outer s H vs Q E hr h=>?_)
 ·obtain ⟨x,m,rfl,_⟩:=h; rfl
 ·obtain ⟨x,m,rfl,hx,q⟩:=h
  obtain ⟨cd1,s1⟩:=T.sx_NoPlan_place
  refine ⟨_,(ak (uR (vr 0) (vr 1) rfl)),?_⟩
  exact ⟨x,a.c_f,cd1,rfl,s1,.inl ⟨hx,fun dx hd hne=>q dx hd hne⟩⟩
theorem vq(T:Txt K mg a):FnOk P w K mg base (CXG P w) 3 a.f_R a.d_R ["thing","low","high"] (spNeed a):=by
 have G_T:FnOk P w K mg base CX0 2 _ _ _ _:=(pj T).mono (by decide)
 have G_f:FnOk P w K mg base CX0 1 _ _ _ (spI1 a.c_f "place"):=oH T
 refine T.F_R.okG i8 (fun vs H Q E h=>?_) (fun cdv A outer s H vs Q E hr h=>?_)
 ·obtain ⟨x,lo,hi,o,rfl,_⟩:=h; rfl
 ·obtain ⟨x,lo,hi,o,rfl,th,h⟩:=h
  refine ⟨_,(ak (bJ (dZ (dN (ao G_T hr rfl T.m_T T.F_T.kp T.B_T .nil aq (aa (vr 0) (aa (vr 1) (aa (vr 2) ae)))))) (ak (o9 T.xc_f T.xh_f (wI T.xi_NoPlan T.kc_NoPlan T.fn_NoPlan G_f hr rfl T.mc_f T.Bi_f (aa aj ae) jp))) aJ)),?_⟩
  refine ⟨x,lo,hi,o,rfl,th,?_⟩
  rcases h with ⟨hi,q⟩ | ⟨hi,q⟩
  ·refine ifB (fun c=>by rw[hi]at c; cases c) (fun _=>q)
  ·refine ifB (fun _=>?_) (fun c=>by rw[hi]at c; cases c)
   intro x hx
   refine ⟨x,0,rfl,ac,fun dx hd hne=>⟨rfl,x,some dx,_,rfl,ac,fun h z=>z,hx,?_⟩⟩
   have hd':H dx=none:=by rw[ag hne]at hd; exact hd
   refine q _ dx (fun b o e=>?_) ?_
   ·have b1:b≠x:=fun z=>by rw[z,hx]at e; cases e
    have b2:b≠dx:=fun z=>by rw[z,hd']at e; cases e
    rw[aD b1,ag b1,ag b2,ag b1]
    exact e
   ·rw[aD hne,ag hne]
    exact ac
theorem nM(T:Txt K mg a):FnOk P w K mg base (CXG P w) 4 a.i_c a.e_c ["self","many"] (spInit a a.c_c "many" 0 24):=by
 have G_R:FnOk P w K mg base (CXG P w) 3 _ _ _ (spNeed a):=vq T
 refine T.Fi_c.okG gW (fun vs H Q E h=>?_) (fun cdv A outer s H vs Q E hr h=>?_)
 ·obtain ⟨x,dx,v,o,rfl,_⟩:=h; rfl
 ·obtain ⟨x,dx,v,o,rfl,hx,th,h⟩:=h
  refine ⟨_,(af (dS (ao G_R hr rfl T.m_R T.F_R.kp T.B_R .nil xV (aa (vr 1) (aa aj (aa (cN rfl T.g_MOST_MANY) ae))))) (ak (mw (vr 0) (vr 1) rfl))),fi ?_⟩
  intro zt2
  refine ⟨v,0,24,o,rfl,th,?_⟩
  rcases h with ⟨hi,q⟩ | ⟨hi,q⟩
  ·exact .inl ⟨hi,⟨x,_,dx,_,rfl,hx,T.cl_c,T.na_Duel_many,by decide,q⟩⟩
  ·exact .inr ⟨hi,q⟩
theorem yA{k:Nat}{f:Addr}{fd:FuncData}{ps:List Str}{sp:Sp}(F:FnOk P w K mg base (CXG P w) k f fd ps sp):FnOk P w K mg base CX0 k f fd ps (fun vs H Q _=>sp vs H Q fun _ _ _=>False) :=
 ⟨fun vs H Q E h=>F.len vs H Q _ h,fun A outer s H args us vs Q E hr e0 hb hv hs=>codeAny_mono (F.run A outer s H args us vs Q _ hr e0 hb hv hs) fun r s' hq=>by
  cases r with
  | error e=>obtain ⟨_,_,_,_,_,_,_,z⟩:=hq; exact z
  | ok fl=>cases fl <;> exact hq⟩
theorem sf(T:Txt K mg a):FnOk P w K mg base CX0 4 a.i_c a.e_c ["self","many"] (spDuelI a) :=
 (yA (nM T)).imp fun vs H Q E h=>by
  obtain ⟨x,dx,m,rfl,hx,hm,q⟩:=h
  exact ⟨x,dx,_,some (m:Int),rfl,hx,.int _,.inl ⟨decide_eq_true ⟨by lia,by lia⟩,q⟩⟩
theorem rM(T:Txt K mg a)(hB:Bm mg base):FnOk P w K mg base CX0 6 a.x_L a.y_L ["self","crowd"] (spDNode K a):=by
 have G_ae:FnOk P w K mg base CX0 5 _ _ _ _:=(pR T).mono (by decide)
 have G_P:FnOk P w K mg base CX0 5 _ _ _ (spWBy K):=qx T
 have G_X:FnOk P w K mg base CX0 5 _ _ _ (rm K a):=jj T hB
 refine T.F_L.ok kj (fun vs H Q E h=>?_) (fun cdv A outer s H vs Q E hr h=>?_)
 ·obtain ⟨N,v,m,l,xs,ms,B,qs,rfl,_⟩:=h; rfl
 ·obtain ⟨N,v,m,l,xs,ms,B,qs,rfl,hN,⟨x,dx,rfl,hx⟩,hl,hc,hz,m2,D,hT,q⟩:=h
  have small:sizeLine=16777216:=sizeLine_eq
  have hlen:ms.length≤24:=by have:=hz.len; unfold szs at this; rw[length_map]at this; exact this
  refine ⟨_,(ak (aw (ao G_X hr rfl T.m_X T.F_X.kp T.B_X .nil aq (aa (mX rfl rfl T.z_list rfl T.z_zip (aa (ao G_ae hr rfl T.m_ae T.F_ae.kp T.B_ae .nil aq (aa (vr 1) ae)) (aa (ao G_P hr rfl T.m_P T.F_P.kp T.B_P .nil aq (aa (vr 1) (aa (d7 (vr 0) rfl) ae))) ae))) (aa (aY ae) ae))))),?_⟩
  refine ⟨l,xs,ms,rfl,hl,hc,hlen,fun H1 r s1 hr0 hr1=>?_⟩
  refine ⟨x,_,dx,_,_,rfl,s1 _ _ hx,T.cl_c,T.na_Duel_many,rfl,?_⟩
  refine ⟨l,xs,ms,(m:Nat),rfl,s1 _ _ hl,hc.tk s1.tk,hz,by lia,by lia,fun H2 w' ys s2 hw0 hw hF=>?_⟩
  have yl:ys.length=ms.length:=by rw[← hF.len,cu]; unfold szs; rw[length_map]
  have pl:(plc ms).length=ms.length:=by unfold plc; rw[length_map]
  refine ⟨r,w',_,_,rfl,s2 _ _ hr1,hw,by rw[length_map]; lia,by rw[length_map]; lia,fun H3 lt ps s3 ht0 hlt hpsl hzp=>?_⟩
  rw[length_map]at hpsl
  have hP:Paired (PrAt K H3) (lsL ms m) ps:=lU (by rw[pl,cu]; unfold szs; rw[length_map]) hpsl (hF.same s3) hzp
  have s03:=s1.trans (s2.trans s3)
  refine ⟨Nat.zero_le _,fun lk flk=>?_⟩
  have s4:=Same.new (o:=.lst []) flk
  have s04:=s03.trans s4
  have hB0:BB (B:Int):=⟨by have:=D.B0; lia,by have:=D.B1; lia⟩
  refine ⟨.ref lt,.ref lk,lsL ms m,[],(B:Int),N,rfl,⟨lt,ps,rfl,s4 _ _ hlt,aH (PrAt.t s4.t) hP⟩,⟨lk,rfl,ac⟩,hB0,⟨fun x hx=>D.fr _ (of_mem_zip hx).2,by rw[uL]; simpa using hlen⟩,hT.same s04,(fun b hb=>hN b (s04.free hb)),(fun b hb=>by cases hb; exact hN _ ((s1.trans s2).free ht0)),(fun b hb=>by cases hb; exact hN _ (s03.free flk)),fun H5 u t5 hT5 n5=>q _ _ (s04.t.trans t5) hT5 n5⟩
theorem vp(T:Txt K mg a)(hB:Bm mg base):FnOk P w K mg base CX0 9 a.x_t a.y_t ["self","crowd"] (spDMat K a):=by
 have G_P:FnOk P w K mg base CX0 8 _ _ _ _:=(qx T).mono (by decide)
 have G_d:FnOk P w K mg base CX0 8 _ _ _ (spDM K a):=vN T hB
 refine T.F_t.ok je (fun vs H Q E h=>?_) (fun cdv A outer s H vs Q E hr h=>?_)
 ·obtain ⟨v,m,l,xs,ms,B,qs,rfl,_⟩:=h; rfl
 ·obtain ⟨v,m,l,xs,ms,B,qs,rfl,⟨x,dx,rfl,hx⟩,hl,hc,hz,m2,D,hT,q⟩:=h
  have small:sizeLine=16777216:=sizeLine_eq
  have hlen:ms.length≤24:=by have:=hz.len; unfold szs at this; rw[length_map]at this; exact this
  have qlen:qs.length=xs.length:=by rw[D.len,← hc.len]; unfold szs; rw[length_map]
  have xlen:xs.length≤24:=by rw[← hc.len]; exact hlen
  refine ⟨_,(ak (aw (ao G_d hr rfl T.m_d T.F_d.kp T.B_d .nil aq (aa (ao G_P hr rfl T.m_P T.F_P.kp T.B_P .nil aq (aa (vr 1) (aa (d7 (vr 0) rfl) ae))) (aa (aL (dU rfl) rfl T.z_list di (aa (aL eQ rfl T.z_range fA (aa (az aE rfl T.z_len bI (aa (vr 1) ae)) ae)) ae)) ae))))),?_⟩
  refine ⟨x,_,dx,_,_,rfl,hx,T.cl_c,T.na_Duel_many,rfl,?_⟩
  refine ⟨l,xs,ms,(m:Nat),rfl,hl,hc,hz,by lia,by lia,fun H2 w' ys s2 hw0 hw hF=>?_⟩
  refine ⟨_,.inl (SqL.of (s2 _ _ hl)),⟨_,rfl,fun p hp=>⟨p,xs.length,rfl,by lia,ac,fun lf hlf=>?_⟩⟩⟩
  have s3:=(Same.new (o:=.rng 0 (xs.length:Int)) hp).trans (Same.new (o:=.lst ((List.range xs.length).map fun (o:Nat)=>V.int (o:Int))) hlf)
  have s03:=s2.trans s3
  refine ⟨w',lf,ys,qs,List.range xs.length,B,rfl,s3 _ _ hw,by rw[D.eq]; exact hF.same s3,ac,by lia,by rw[length_range]; exact xlen,fun o ho=>by rw[qlen]; exact mem_range.mp ho,D.B0,D.B1,D.bq,hT.same s03,fun H4 r zs t4 hT4 fr hr hM hnd hnew=>?_⟩
  refine q _ r zs (s03.t.trans t4) hT4 (s03.free fr) hr ?_ hnd fun b hb=>s03.free (hnew b hb)
  unfold dmx
  rw[qlen]
  exact hM
theorem wx(T:Txt K mg a):FnOk P w K mg base CX0 1 a.x_z a.y_z ["self","crowd"] (spDBo a):=by
 refine T.F_z.ok sc_z (fun vs H Q E h=>?_) (fun cdv A outer s H vs Q E hr h=>?_)
 ·obtain ⟨v,m,l,xs,rfl,_⟩:=h; rfl
 ·obtain ⟨v,m,l,xs,rfl,⟨x,dx,rfl,hx⟩,hl,hlen,q⟩:=h
  refine ⟨_,(af (av (i:=2) sc_z.nd rfl (Or.inl rfl) (az (hJ rfl) rfl T.z_min mj (aa (d7 (vr 0) rfl) (aa (az aE rfl T.z_len bI (aa (vr 1) ae)) ae)))) (ak (aw (aM (aa (vr 2) (aa (vr 2) ae)))))),fi ?_⟩
  intro zt2
  refine ⟨x,_,dx,_,_,rfl,hx,T.cl_c,T.na_Duel_many,rfl,?_⟩
  refine ⟨_,.inl (SqL.of hl),⟨_,_,rfl,?_⟩⟩
  refine ⟨aP _ _,fun p fp=>?_⟩
  exact q _ p (Same.new fp) ac
theorem qP(T:Txt K mg a):FnOk P w K mg base CX0 1 a.x_J a.y_J ["self"] (spTextD a):=by
 refine T.F_J.ok sc_J (fun vs H Q E h=>?_) (fun cdv A outer s H vs Q E hr h=>?_)
 ·obtain ⟨v,m,rfl,_⟩:=h; rfl
 ·obtain ⟨v,m,rfl,⟨x,dx,rfl,hx⟩,hm,q⟩:=h
  refine ⟨_,(af (av (i:=1) sc_J.nd rfl (Or.inl rfl) (d7 (vr 0) rfl)) (ak (aw (vn (om gi (om (xa (vr 1)) xp)))))),fi ?_⟩
  intro zt2
  have h0:(0:Int)≤(m:Int):=by lia
  have h1:(m:Int)≤100:=by lia
  have hl:=yv h0 h1
  have sl:sizeLine=16777216:=sizeLine_eq
  have e1:((Str.empty++("duel " : Str):Str)).length≤8:=by decide +kernel
  have e2:((Str.empty++("duel " : Str))++((toString (m:Int):String):Str):Str).length≤sizeLine:=by rw[strLen_append]; lia
  refine ⟨x,_,dx,_,_,rfl,hx,T.cl_c,T.na_Duel_many,rfl,?_⟩
  refine ⟨by lia,yh h0 h1,e2,e2,?_⟩
  rw[emp]
  exact q
end
inductive spThingD(vs:List V)(H:Hp)(Q:VK)(_E:XK):Prop
 | mk(c:Int)(h0:vs=[.int c])(h1:∀ H' v o,Same H H'→Thing H' v o→inR 0 24 o=false→Q v H'):spThingD vs H Q _E
inductive spRefD(vs:List V)(H:Hp)(Q:VK)(_E:XK):Prop
 | mk(v:V)(o:Option Int)(h0:vs=[v])(h1:Thing H v o)(h2:inR 0 24 o=false)(h3:∀ H',Same H H'→Q (.bl true) H'):spRefD vs H Q _E
inductive spKind(a:Ad)(vs:List V)(H:Hp)(Q:VK)(_E:XK):Prop
 | mk(v:V)(m:Nat)(h0:vs=[v,.int (m:Nat)])(h1:IsDuel a H v m)(h2:m≤24)(h3:∀ H',Same H H'→Q (.bl true) H'):spKind a vs H Q _E
inductive spLDue(K:Frag)(a:Ad)(vs:List V)(H:Hp)(Q:VK)(_E:XK):Prop
 | mk(m:Nat)(l:Addr)(xs:List V)(ms:List Mb)(B:Nat)(qs:List Rat)(h0:vs=[.ref l,.int (m:Nat)])(h1:H l=some (.lst xs))(h2:CrAt H ms xs)(h3:tw ms)(h4:Szs (szs ms))(h5:m≤24)(h6:Due (szs ms) (m:Nat) B qs)(h7:TabsOk (tabs a) H)(h8:vC K a H Q qs):spLDue K a vs H Q _E
inductive spLevels(C:Addr)(vs:List V)(H:Hp)(Q:VK)(_E:XK):Prop
 | mk(x:Addr)(v:V)(h0:vs=[.ref x,v])(h1:Q .non H):spLevels C vs H Q _E
theorem tO{x:Str}{Q:VK}{H:Hp}(q:Q (.bl true) H):oG false (.str x) (.str x) H Q:=by simpa[oG] using q
def mbD(ms:List Mb):List PyData:=ms.map fun m=>.tuple [.int m.1,.int m.2.1,.tuple (m.2.2.map PyData.str)]
def mD(fss:List (List (Int×Int))):List PyData:=fss.map fun fs=>.list (pD fs)
section
variable {P:Program}{w:World}{K:Frag}{mg:Str→Option Value}{base:Heap}{a:Ad}
theorem ji{H:Hp}:∀(l:List Bool),DVs K H (l.map PyData.bool) (l.map V.bl)
 | []=>by simp[DVs]
 | c::l=>by
  rw[map_cons,map_cons,DVs]
  exact ⟨_,_,rfl,by simp[DV],ji l⟩
theorem jz:∀(l:List Bool),PyData.canLayAll0 (l.map PyData.bool)=true∧PyData.depthAll (l.map PyData.bool)≤1
 | []=>by simp[PyData.canLayAll0,PyData.depthAll]
 | t::l=>by
  obtain ⟨h1,h2⟩:=jz l
  rw[map_cons,PyData.canLayAll0,PyData.depthAll,h1,PyData.canLay0]
  refine ⟨rfl,?_⟩
  simp only[PyData.depth]
  lia
theorem p8{H:Hp}{ns:List Bool}{l r:Addr}{Q:VK}(h1:H l=some (.lst (ns.map V.bl)))(h2:H r=some (.lst (ns.map V.bl)))(q:Q (.bl false) H):rEqD K true (.ref l) (.ref r) H Q:=by
 have hs:SeqAt.shaped (.list (ns.map PyData.bool))=true:=by
  obtain ⟨k1,k2⟩:=jz ns
  unfold SeqAt.shaped
  rw[PyData.canLay0,k1,Bool.true_and]
  refine decide_eq_true ?_
  simp only[PyData.depth]
  lia
 refine ⟨.list (ns.map PyData.bool),.list (ns.map PyData.bool),by rw[DV]; exact ⟨l,_,rfl,SqL.of h1,ji _⟩,by rw[DV]; exact ⟨r,_,rfl,SqL.of h2,ji _⟩,hs,hs,?_⟩
 rw[SeqAt.eqv_refl _ (SeqAt.canLay_of_shaped hs)]
 exact q
theorem o7(T:Txt K mg a){C:Addr}:FnOk P w K mg base CX0 1 a.x_q a.y_q ["self","levels"] (spLevels C):=by
 refine T.F_q.ok fT (fun vs H Q E h=>?_) (fun cdv A outer s H vs Q E hr h=>?_)
 ·obtain ⟨x,v,rfl,_⟩:=h; rfl
 ·obtain ⟨x,v,rfl,q⟩:=h
  exact ⟨_,(ak sX),q⟩
theorem oo{H:Hp}:∀{fs:List (Int×Int)}{xs:List V},AllF K H fs xs→DVs K H (pD fs) xs
 | _,_,.nil=>by simp[DVs,pD]
 | _,_,.cons ⟨p,e,r⟩ t=>by
  unfold pD
  rw[map_cons,DVs]
  exact ⟨_,_,rfl,by rw[e]; exact fc r.sq,oo t⟩
theorem qD:∀(fs:List (Int×Int)),PyData.canLayAll0 (pD fs)=true∧PyData.depthAll (pD fs)≤3
 | []=>by simp[PyData.canLayAll0,PyData.depthAll,pD]
 | t::l=>by
  obtain ⟨h1,h2⟩:=qD l
  unfold pD at *
  rw[map_cons,PyData.canLayAll0,PyData.depthAll,h1]
  refine ⟨by simp[PyData.canLay0,PyData.canLayAll0],?_⟩
  simp only[PyData.depth,PyData.depthAll]
  lia
theorem yQ{H:Hp}{fs:List (Int×Int)}{l r:Addr}{xs ys:List V}{Q:VK}(h1:H l=some (.lst xs))(h2:H r=some (.lst ys))(f1:AllF K H fs xs)(f2:AllF K H fs ys)(q:Q (.bl false) H):rEqD K true (.ref l) (.ref r) H Q:=by
 have hs:SeqAt.shaped (.list (pD fs))=true:=by
  obtain ⟨k1,k2⟩:=qD fs
  unfold SeqAt.shaped
  rw[PyData.canLay0,k1,Bool.true_and]
  refine decide_eq_true ?_
  simp only[PyData.depth]
  lia
 refine ⟨.list (pD fs),.list (pD fs),by rw[DV]; exact ⟨l,_,rfl,SqL.of h1,oo f1⟩,by rw[DV]; exact ⟨r,_,rfl,SqL.of h2,oo f2⟩,hs,hs,?_⟩
 rw[SeqAt.eqv_refl _ (SeqAt.canLay_of_shaped hs)]
 exact q
theorem rQ{H:Hp}{D:Addr}:∀{fss:List (List (Int×Int))}{xs:List V},MatAt K D H fss xs→DVs K H (mD fss) xs
 | _,_,.nil=>by simp[DVs,mD]
 | _,_,.cons ⟨q,ys,e,_,g,f⟩ t=>by
  unfold mD
  rw[map_cons,DVs]
  exact ⟨_,_,rfl,by rw[e,DV]; exact ⟨q,_,rfl,SqL.of g,oo f⟩,rQ t⟩
theorem vG:∀(fss:List (List (Int×Int))),PyData.canLayAll0 (mD fss)=true∧PyData.depthAll (mD fss)≤5
 | []=>by simp[PyData.canLayAll0,PyData.depthAll,mD]
 | t::l=>by
  obtain ⟨h1,h2⟩:=vG l
  obtain ⟨h3,h4⟩:=qD t
  unfold mD at *
  rw[map_cons,PyData.canLayAll0,PyData.depthAll,h1,PyData.canLay0,h3]
  refine ⟨rfl,?_⟩
  simp only[PyData.depth]
  lia
theorem me{H:Hp}{fss:List (List (Int×Int))}{l r d e:Addr}{xs ys:List V}{Q:VK}(h1:H l=some (.lst xs))(h2:H r=some (.lst ys))(f1:MatAt K d H fss xs)(f2:MatAt K e H fss ys)(q:Q (.bl false) H):rEqD K true (.ref l) (.ref r) H Q:=by
 have hs:SeqAt.shaped (.list (mD fss))=true:=by
  obtain ⟨k1,k2⟩:=vG fss
  unfold SeqAt.shaped
  rw[PyData.canLay0,k1,Bool.true_and]
  refine decide_eq_true ?_
  simp only[PyData.depth]
  lia
 refine ⟨.list (mD fss),.list (mD fss),by rw[DV]; exact ⟨l,_,rfl,SqL.of h1,rQ f1⟩,by rw[DV]; exact ⟨r,_,rfl,SqL.of h2,rQ f2⟩,hs,hs,?_⟩
 rw[SeqAt.eqv_refl _ (SeqAt.canLay_of_shaped hs)]
 exact q
theorem nU{H:Hp}:∀(l:List Str),DVs K H (l.map PyData.str) (l.map V.str)
 | []=>by simp[DVs]
 | t::l=>by
  rw[map_cons,map_cons,DVs]
  exact ⟨_,_,rfl,by simp[DV],nU l⟩
theorem lQ:∀(l:List Str),(∀ t∈l,PyData.strOk t=true)→PyData.canLayAll0 (l.map PyData.str)=true∧PyData.depthAll (l.map PyData.str)≤1
 | [],_=>by simp[PyData.canLayAll0,PyData.depthAll]
 | t::l,h=>by
  obtain ⟨h1,h2⟩:=lQ l fun x hx=>h x (mem_cons_of_mem _ hx)
  rw[map_cons,PyData.canLayAll0,PyData.depthAll,h1]
  refine ⟨by simp[PyData.canLay0,h t mem_cons_self],?_⟩
  simp only[PyData.depth]
  lia
theorem sF{H:Hp}:∀{ms:List Mb}{xs:List V},CrAt H ms xs→DVs K H (mbD ms) xs
 | _,_,.nil=>by simp[DVs,mbD]
 | m::_,_,.cons ⟨q,pt,e,h1,h2⟩ t=>by
  unfold mbD
  rw[map_cons,DVs]
  refine ⟨_,_,rfl,?_,sF t⟩
  rw[e,DV]
  refine ⟨q,_,rfl,SqT.of h1,?_⟩
  rw[DVs]
  refine ⟨_,_,rfl,by simp[DV],?_⟩
  rw[DVs]
  refine ⟨_,_,rfl,by simp[DV],?_⟩
  rw[DVs]
  refine ⟨_,_,rfl,?_,by simp[DVs]⟩
  rw[DV]
  exact ⟨pt,_,rfl,SqT.of h2,nU _⟩
theorem qp:∀(ms:List Mb),tw ms→PyData.canLayAll0 (mbD ms)=true∧PyData.depthAll (mbD ms)≤5
 | [],_=>by simp[PyData.canLayAll0,PyData.depthAll,mbD]
 | t::l,h=>by
  obtain ⟨h1,h2⟩:=qp l fun x hx=>h x (mem_cons_of_mem _ hx)
  obtain ⟨h3,h4⟩:=lQ t.2.2 (h t mem_cons_self)
  unfold mbD at *
  rw[map_cons,PyData.canLayAll0,PyData.depthAll,h1]
  refine ⟨by simp[PyData.canLay0,PyData.canLayAll0,h3],?_⟩
  simp only[PyData.depth,PyData.depthAll]
  lia
theorem xB{H:Hp}{ms:List Mb}{l r:Addr}{xs:List V}{Q:VK}(h1:H l=some (.lst xs))(hC:CrAt H ms xs)(hp:tw ms)(h2:H r=some (.lst []))(q:Q (.bl ms.isEmpty) H):rEqD K false (.ref l) (.ref r) H Q:=by
 have hs:SeqAt.shaped (.list (mbD ms))=true:=by
  obtain ⟨k1,k2⟩:=qp ms hp
  unfold SeqAt.shaped
  rw[PyData.canLay0,k1,Bool.true_and]
  refine decide_eq_true ?_
  simp only[PyData.depth]
  lia
 refine ⟨.list (mbD ms),.list [],by rw[DV]; exact ⟨l,_,rfl,SqL.of h1,sF hC⟩,by rw[DV]; exact ⟨r,_,rfl,SqL.of h2,by simp[DVs]⟩,hs,by decide +kernel,?_⟩
 have e:PyData.eqv (.list (mbD ms)) (.list [])=ms.isEmpty:=by
  cases ms with
  | nil=>decide +kernel
  | cons n ns=>simp[PyData.eqv,PyData.eqvAll,mbD]
 rw[e]
 exact q
theorem ut{H:Hp}{l r:Addr}{Q:VK}(h1:H l=some (.lst [.non,.non,.non,.non]))(h2:H r=some (.lst [.non,.non,.non,.non]))(q:Q (.bl false) H):rEqD K true (.ref l) (.ref r) H Q:=by
 have dn:DVs K H [.none,.none,.none,.none] [.non,.non,.non,.non]:=by simp[DVs,DV]
 refine ⟨.list [.none,.none,.none,.none],.list [.none,.none,.none,.none],by rw[DV]; exact ⟨l,_,rfl,SqL.of h1,dn⟩,by rw[DV]; exact ⟨r,_,rfl,SqL.of h2,dn⟩,by decide +kernel,by decide +kernel,?_⟩
 have e:PyData.eqv (.list [.none,.none,.none,.none]) (.list [.none,.none,.none,.none])=true:=by decide +kernel
 rw[e]
 exact q
theorem oM(T:Txt K mg a):FnOk P w K mg base CX0 1 a.f_an a.d_an ["_law_cell_here"] spThingD:=by
 refine T.F_an.ok mr (fun vs H Q E h=>?_) (fun cdv A outer s H vs Q E hr h=>?_)
 ·obtain ⟨c,rfl,_⟩:=h; rfl
 ·obtain ⟨c,rfl,q⟩:=h
  refine ⟨_,(oy (qh (mW (bJ (bx jo (au cO (vr 0) aj) aj (aC _)) (oy (m3 (mW (aw (ax ar (aY (aa aj (aa (au dR aj aj) (aa (au df aj (au cO (au cb (vr 0) aj) (au qB aj aj))) (aa (au dR (au dR aj aj) (au cO (au cb (vr 0) aj) (au qB aj aj))) ae))))) (au cO (au cb (vr 0) aj) aj) (fun _ _=>rfl)))))) aJ)) (m3 (mW (aw (ax ar (tS (dL dj (dL dr (dL gi (dL (aY (aa aj ae)) (dL (aM (aa aj (aa aj ae))) (dL su (dL dj (dL gi vi))))))))) (au cO (au cb (vr 0) aj) aj) (fun _ _=>rfl))))))),fi ?_⟩
  intro zt2
  have e30:(10:Int) ^ (30:Int).toNat=1000000000000000000000000000000:=by decide +kernel
  have h30:0<(10:Int) ^ (30:Int).toNat:=by rw[e30]; decide
  have qi:∀ i:Int,∀ H',(i<0∨24<i)→Same H H'→Q (.int i) H':=fun i H' hi s=>q H' _ _ s (.int i) (decide_eq_false (by lia))
  have b16:Bt 5 16:=by unfold Bt; decide
  have b2:Bt 2 2:=by unfold Bt; decide
  have u0:0≤c/16 % (10:Int) ^ (30:Int).toNat:=Int.emod_nonneg _ (by lia)
  refine ⟨cp,?_⟩
  refine ifC (fun _=>?_) (fun _=>?_)
  ·refine ⟨cdB (by decide) b16,cw,cp h30,cdB (by decide) b16,cw,cp h30,(by decide:4≤sizeLine),fun p hp=>⟨cdB (by decide) b2,cp,?_⟩⟩
   have h4:c/2 % 4=((0:Nat):Int)∨c/2 % 4=((1:Nat):Int)∨c/2 % 4=((2:Nat):Int)∨c/2 % 4=((3:Nat):Int):=by lia
   rcases h4 with e | e | e | e
   ·exact .inl ⟨p,_,_,_,rfl,rfl,SqL.of ac,aB _ e.symm rfl,qi _ _ (by decide) (Same.new hp)⟩
   ·exact .inl ⟨p,_,_,_,rfl,rfl,SqL.of ac,aB _ e.symm rfl,qi _ _ (by decide) (Same.new hp)⟩
   ·exact .inl ⟨p,_,_,_,rfl,rfl,SqL.of ac,aB _ e.symm rfl,qi _ _ (by lia) (Same.new hp)⟩
   ·exact .inl ⟨p,_,_,_,rfl,rfl,SqL.of ac,aB _ e.symm rfl,qi _ _ (by lia) (Same.new hp)⟩
  ·refine ⟨(by decide:1≤sizeLine),fun p1 hp1=>⟨(by decide:2≤sizeLine),fun p2 hp2=>fun p3 hp3=>⟨(by decide:8≤sizeLine),fun p4 hp4=>⟨cdB (by decide) b2,cp,?_⟩⟩⟩⟩
   have s34:=Same.new (o:=.lst [.bl true,.non,.str "3",.ref p1,.ref p2,.ref p3,.bl false,.str "duel 3"]) hp4
   have s23:=Same.new (o:=.dK []) hp3
   have s12:=Same.new (o:=.tup [.int 3,.int 1]) hp2
   have s01:=Same.new (o:=.lst [.int 3]) hp1
   have s4:=s01.trans (s12.trans (s23.trans s34))
   have t1:=(s12.trans (s23.trans s34)) _ _ ac
   have t2:=(s23.trans s34) _ _ ac
   have t3:=s34 _ _ ac
   have h8:c/2 % 8=((0:Nat):Int)∨c/2 % 8=((1:Nat):Int)∨c/2 % 8=((2:Nat):Int)∨c/2 % 8=((3:Nat):Int)∨c/2 % 8=((4:Nat):Int)∨c/2 % 8=((5:Nat):Int)∨c/2 % 8=((6:Nat):Int)∨c/2 % 8=((7:Nat):Int):=by lia
   rcases h8 with e | e | e | e | e | e | e | e <;> refine .inl ⟨p4,_,_,_,rfl,rfl,SqL.of ac,aB _ e.symm rfl,?_⟩
   ·exact q _ _ _ s4 (.bl true) rfl
   ·exact q _ _ _ s4 .non rfl
   ·exact q _ _ _ s4 (.str _) rfl
   ·exact q _ _ _ s4 (.lst p1 _ t1) rfl
   ·exact q _ _ _ s4 (.tup p2 _ t2) rfl
   ·exact q _ _ _ s4 (.dK p3 _ t3) rfl
   ·exact q _ _ _ s4 (.bl false) rfl
   ·exact q _ _ _ s4 (.str _) rfl
theorem tR(T:Txt K mg a):FnOk P w K mg base CX0 6 a.f_O a.d_O ["_law_thing_here"] spRefD:=by
 have G_c:FnOk P w K mg base (CXG P w) 4 _ _ _ (spInit a a.c_c "many" 0 24):=nM T
 have G_am:FnOk P w K mg base CX0 5 _ _ _ _:=(sQ T).mono (by decide)
 refine T.F_O.ok sc_O (fun vs H Q E h=>?_) (fun cdv A outer s H vs Q E hr h=>?_)
 ·obtain ⟨v,o,rfl,_⟩:=h; rfl
 ·obtain ⟨v,o,rfl,th,hno,q⟩:=h
  refine ⟨_,(af (av (i:=1) sc_O.nd rfl (Or.inl rfl) dr) (af (ve ⟨rfl,rfl⟩ (wR (ss (sY T.mk_c G_c hr rfl T.mc_c T.Bi_c .nil (aa (vr 0) ae)))) (yF ⟨rfl,rfl⟩ rfl T.mc_f T.xh_f sc_O.nd (ie:=2) rfl rfl (fun x=>(ak (av (i:=1) sc_O.nd rfl (Or.inl rfl) (rL (K:=K) rfl (vr 2))))) wP)) (ak (aw (fX (cY jo (vr 1) aj (aC _)) (gZ (ao G_am hr rfl T.m_am T.F_am.kp T.B_am .nil aq (aa (vr 1) ae)))))))),iH ?_⟩
  intro zt3 zt2
  intro x dx hx hdx hne
  have s0:Same H (upd (upd H dx (.own x)) x (.ins a.c_c dx [])):=fun b o e=>by rw[ag (am e hx),ag (am e hdx)]; exact e
  refine ⟨x,dx,v,o,rfl,ac,th.same s0,.inr ⟨hno,fun H' d2 s1 hd2=>?_⟩⟩
  refine ⟨_,rfl,fun xe hxe=>.inl ⟨beq_iff_eq.mp T.tn,?_⟩⟩
  have sx:Same H' (upd H' xe (.ext (XCt xe a.c_f (some d2)))):=Same.new hxe
  obtain ⟨cd1,sx1⟩:=T.sx_NoPlan_place
  refine ⟨xe,_,cd1,d2,_,_,_,rfl,sx1,T.xc_f,ac,fun _ z=>z,sx _ _ hd2,rfl,?_⟩
  exact ⟨0,rfl,q _ (s0.trans (s1.trans sx))⟩
theorem uk(T:Txt K mg a):FnOk P w K mg base CX0 2 a.f_ap a.d_ap ["_law_plan","_law_many"] (spKind a):=by
 have G_q:FnOk P w K mg base CX0 1 _ _ _ (spLevels a.c_c):=o7 T
 have G_J:FnOk P w K mg base CX0 1 _ _ _ (spTextD a):=qP T
 refine T.F_ap.ok sc_ap (fun vs H Q E h=>?_) (fun cdv A outer s H vs Q E hr h=>?_)
 ·obtain ⟨v,m,rfl,_⟩:=h; rfl
 ·obtain ⟨v,m,rfl,⟨x,dx,rfl,hx⟩,hm,q⟩:=h
  have sl:sizeLine=16777216:=sizeLine_eq
  have h0:(0:Int)≤(m:Int):=by lia
  have h1:(m:Int)≤100:=by lia
  refine ⟨_,(af (av (i:=2) sc_ap.nd rfl (Or.inl rfl) (aY (aa (az ek rfl T.z_isinstance bN (aa (vr 0) (aa (cN rfl T.g_ai) ae))) (aa (az pL rfl T.z_isinstance bN (aa (vr 0) (aa (aM (aa (cN rfl T.g_N) (aa (cN rfl T.g_o) (aa (cN rfl T.g_n) ae)))) ae))) ae)))) (af (bJ (PW.pt (iY (bx (gh hr.units) (vr 2) (aY (aa dj (aa dj ae))) (aC _)) (jm (bx wA (d7 (vr 0) rfl) (vr 1) (aC _))))) (ak (aw dj)) aJ) (af (bJ (bx (gh hr.units) (bf rfl (N:=["_law_levels","_law_plan"]) (ix:=[none,some 0]) ⟨rfl,rfl,rfl,rfl,⟨rfl,rfl,rfl,trivial⟩⟩ (cA rfl T.z_range (aa aj ae)) ⟨fun C s H fp=>ap (i:=0) (show List.Nodup (["_law_levels","_law_plan"]:List Str) by decide +kernel) rfl (Or.inl rfl),fun C s H fp=>bi,fun C s H fp=>(dW (vr 1) T.cl_c T.mt_Duel_need_levels G_q hr T.B_q .nil aq (aa (vr 0) ae))⟩) (aY (aa dr (aa dr (aa dr (aa dr ae))))) (aC _)) (ak (aw dj)) aJ) (ak (aw (cY jo (aR (vr 0) T.cl_c T.mt_J G_J hr T.B_J .nil aq) (au df gi (aL ph rfl T.z_str v8 (aa (vr 1) ae))) (aC _))))))),oz ?_⟩
  intro zt4 zt3 zt2
  refine ⟨_,_,_,true,rfl,rfl,T.ty_c H x dx _ hx,T.kdp,?_⟩
  refine ⟨(by decide:3≤sizeLine),fun tp ftp=>?_⟩
  have s1:=Same.new (o:=.tup [.ref a.c_N,.ref a.c_o,.ref a.c_n]) ftp
  refine ⟨_,tp,_,_,false,rfl,ac,rfl,.inl (T.ty_c _ x dx _ (s1 _ _ hx)),T.kdt,?_⟩
  refine ⟨aP _ _,fun l hl=>?_⟩
  have s2:=s1.trans (Same.new (o:=.lst ([true,false].map V.bl)) hl)
  refine ⟨aP _ _,fun l1 hl1=>?_⟩
  have n3:=Same.new (o:=.lst ([true,false].map V.bl)) hl1
  have s3:=s2.trans n3
  refine p8 (ns:=[true,false]) (n3 _ _ ac) ac ?_
  refine ⟨x,_,dx,_,_,rfl,s3 _ _ hx,T.cl_c,T.na_Duel_many,rfl,?_⟩
  refine qd (by simp) ⟨4,rfl,by decide,by decide,fun D hD=>?_⟩
  obtain ⟨H3,hH3⟩:∃ H3,H3=upd (upd (upd H tp (.tup [.ref a.c_N,.ref a.c_o,.ref a.c_n])) l (.lst ([true,false].map V.bl))) l1 (.lst ([true,false].map V.bl)):=⟨_,rfl⟩
  have s3:Same H H3:=by rw[hH3]; exact s3
  have hD:H3 D=none:=by rw[hH3]; exact hD
  have hx3:=s3 _ _ hx
  let Pw1:PvL:=fun j ys H'=>j≤4∧H'=upd H3 D (.lst ys)∧ys=List.replicate j .non
  refine dO (lo:=0) (n:=4) Pw1 ⟨by decide,by rw[hH3]; rfl,rfl⟩ (fun j ys H' h=>by rw[h.2.1]; exact ac) ?_ ?_
  ·rintro j ys H' P' hj ⟨hj2,rfl,rfl⟩ hP
   refine ⟨⟨rfl,trivial⟩,x,dx,_,rfl,Same.new hD _ _ hx3,rfl,⟨x,_,rfl,ac,?_,hP _ _ ⟨hj,cv,?_⟩⟩⟩
   ·rw[List.length_replicate]; exact Nat.lt_trans hj (by decide)
   ·rw[List.replicate_succ']
  ·rintro ys H' ⟨_,rfl,rfl⟩
   have s4:=s3.trans (Same.new (o:=.lst (List.replicate 4 .non)) hD)
   refine ⟨(by decide:4≤sizeLine),fun l5 hl5=>?_⟩
   have n5:=Same.new (o:=.lst [.non,.non,.non,.non]) hl5
   have s5:=s4.trans n5
   refine ut (n5 _ _ ac) ac ?_
   refine ⟨x,dx,_,rfl,s5 _ _ hx,rfl,⟨.ref x,m,rfl,⟨x,dx,rfl,s5 _ _ hx⟩,hm,⟨yh h0 h1,?_,?_⟩⟩⟩
   ·have z1:=yv h0 h1
    have z2:("duel " : Str).length≤8:=by decide +kernel
    lia
   ·exact tO (q _ s5)
theorem t6(T:Txt K mg a)(hB:Bm mg base):FnOk P w K mg base CX0 9 a.f_au a.d_au ["_law_crowd_here","_law_many"] (spLDue K a):=by
 have G_A:FnOk P w K mg base CX0 8 _ _ _ _:=(iS T).mono (by decide)
 have G_d:FnOk P w K mg base CX0 8 _ _ _ (spDM K a):=vN T hB
 refine T.F_au.ok sN (fun vs H Q E h=>?_) (fun cdv A outer s H vs Q E hr h=>?_)
 ·obtain ⟨m,l,xs,ms,B,qs,rfl,_⟩:=h; rfl
 ·obtain ⟨m,l,xs,ms,B,qs,rfl,hl,hc,hpa,hz,m2,D,hT,q⟩:=h
  have small:sizeLine=16777216:=sizeLine_eq
  have hlen:ms.length≤24:=by have:=hz.len; unfold szs at this; rw[length_map]at this; exact this
  have hcl:=hc.len
  have qlen:qs.length=xs.length:=by rw[D.len,← hc.len]; unfold szs; rw[length_map]
  have xlen:xs.length≤24:=by rw[← hc.len]; exact hlen
  refine ⟨_,(af (bJ (bx (kS hr.units) (vr 0) (aY ae) (aC _)) (ak (aw (aY ae))) aJ) (ak (aw (ao G_d hr rfl T.m_d T.F_d.kp T.B_d .nil aq (aa (ao G_A hr rfl T.m_A T.F_A.kp T.B_A .nil aq (aa (bf rfl (N:=["_law_row_here"]) (ix:=[none]) ⟨rfl,rfl,rfl,rfl,trivial⟩ (bj (vr 0)) ⟨fun C s H fp=>ap (i:=0) (show List.Nodup (["_law_row_here"]:List Str) by decide +kernel) rfl (Or.inl rfl),fun C s H fp=>bi,fun C s H fp=>(ax (bL (K:=K) rfl) (vr 0) aj (fun _ _=>rfl))⟩) (aa (vr 1) ae))) (aa (aL (dU rfl) rfl T.z_list di (aa (aL eQ rfl T.z_range fA (aa (az aE rfl T.z_len bI (aa (vr 0) ae)) ae)) ae)) ae)))))),fi ?_⟩
  intro zt2
  refine ⟨Nat.zero_le _,fun le fle=>?_⟩
  have s1:=Same.new (o:=.lst []) fle
  refine xB (s1 _ _ hl) (hc.tk s1.tk) hpa ac ?_
  generalize upd H le (.lst [])=H1 at s1
  refine ifB (fun he=>?_) fun _=>?_
  ·refine ⟨Nat.zero_le _,fun r fr=>?_⟩
   have e0:ms=[]:=List.isEmpty_iff.mp he
   have eq0:qs=[]:=by rw[e0]at hcl; exact List.length_eq_zero_iff.mp (by rw[qlen,← hcl]; rfl)
   have s2:=s1.trans (Same.new (o:=.lst []) fr)
   refine q _ r [] s2.t (hT.same s2) (s1.free fr) ac ?_ nodup_nil fun b hb=>by cases hb
   rw[eq0]
   exact .nil
  ·refine .inl ⟨⟨_,SqL.of (s1 _ _ hl)⟩,fun D2 hD2=>?_⟩
   let Pw2:PvL:=fun i ys H'=>i≤xs.length∧Same H1 H'∧H' D2=some (.lst ys)∧ys=(szs (ms.take i)).map V.int
   refine aK (K:=K) (a:=l) (xs:=xs) Pw2 ⟨Nat.zero_le _,Same.new hD2,ac,rfl⟩ (fun i ys H' h=>SqL.of (h.2.1 _ _ (s1 _ _ hl))) (fun i ys H' h=>h.2.2.1) ?_ ?_
   ·rintro i x ys H' P' hx ⟨hi,s3,hD1,rfl⟩ hP
    obtain ⟨mm,hm,q1,pt,rfl,g1,g2⟩:=(hc.tk (s1.trans s3).tk).get hx
    have hlt:i<xs.length:=(List.getElem?_eq_some_iff.mp hx).1
    refine ⟨trivial,.inr (.inl ⟨q1,_,_,_,rfl,rfl,SqT.of g1,aB 1 rfl rfl,hD1,?_,hP _ _ ⟨hlt,s3.put hD2,ac,?_⟩⟩)⟩
    ·unfold szs; rw[length_map,length_map,length_take]; lia
    ·unfold szs; rw[take_add_one,hm,map_append,map_append]; rfl
   ·rintro ys H2 ⟨_,s2,hD1,rfl⟩
    rw[← hcl,take_of_length_le (Nat.le_refl _)]at hD1
    refine ⟨D2,szs ms,(m:Nat),rfl,hD1,hz,by lia,by lia,fun H3 w' ys s3 hw0 hw hF=>?_⟩
    have s03:=s1.trans (s2.trans s3)
    refine ⟨_,.inl (SqL.of (s03 _ _ hl)),⟨_,rfl,fun p hp=>⟨p,xs.length,rfl,by lia,ac,fun lf hlf=>?_⟩⟩⟩
    have s4:=(Same.new (o:=.rng 0 (xs.length:Int)) hp).trans (Same.new (o:=.lst ((List.range xs.length).map fun (o:Nat)=>V.int (o:Int))) hlf)
    have s04:=s03.trans s4
    refine ⟨w',lf,ys,qs,List.range xs.length,B,rfl,s4 _ _ hw,by rw[D.eq]; exact hF.same s4,ac,by lia,by rw[length_range]; exact xlen,fun o ho=>by rw[qlen]; exact mem_range.mp ho,D.B0,D.B1,D.bq,hT.same s04,fun H5 r zs t5 hT5 fr hr hM hnd hnew=>?_⟩
    refine q _ r zs (s04.t.trans t5) hT5 (s04.free fr) hr ?_ hnd fun b hb=>s04.free (hnew b hb)
    unfold dmx
    rw[qlen]
    exact hM
end
theorem js{X:Cx}{K:Frag}(h:X.K=K):CallR X (.type "list") (rListOf K):=h ▸ dh
theorem rj{a:Ad}{ts:List Addr}{H:Hp}(hts:∀ q∈tabs a,q.1∈ts)(h:∀ P∈ts,H P=some (.tbl #[])):TabsOk (tabs a) H:=fun q hq=>⟨#[],h _ (hts q hq),trivial,fun _ _=>.inl rfl⟩
theorem kL{tabs:la}{H:Hp}{q:Addr}{zs zs':List V}(hq:H q=some (.lst zs))(hT:TabsOk tabs H):TabsOk tabs (upd H q (.lst zs')):=hT.put (fun ps z=>by rw[hq]at z; cases z) (fun φ z=>by rw[hq]at z; cases z)
theorem MatAt.keep{K:Frag}{D:Addr}{H H':Hp}(k:TK H H'):∀{fss:List (List (Int×Int))}{xs:List V},(∀ q zs,V.ref q∈xs→H q=some (.lst zs)→H' q=some (.lst zs))→MatAt K D H fss xs→MatAt K D H' fss xs:=fun h g=>by
 induction g with
 | nil=>exact .nil
 | cons r _ ih=>obtain ⟨q,ys,e,n,g,f⟩:=r; exact .cons ⟨q,ys,e,n,h _ _ (by rw[e]; exact mem_cons_self ..) g,f.tk k⟩ (ih fun q zs m=>h q zs (mem_cons_of_mem _ m))
theorem MatAt.mem{K:Frag}{D:Addr}{H:Hp}:∀{fss:List (List (Int×Int))}{xs:List V}{q:Addr},MatAt K D H fss xs→V.ref q∈xs→q≠D∧∃ ys,H q=some (.lst ys):=fun h m=>by
 obtain ⟨_,q,ys,e,n,g,_⟩:=PySem.Paired.right h _ m
 cases e
 exact ⟨n,ys,g⟩
theorem iL:∀{xs:List V}{i:Nat}{x:V},xs.Nodup→xs[i]? = some x→x ∉ xs.take i
 | [],_,_,_,h=>by cases h
 | _::_,0,_,_,_=>by simp
 | y::xs,i+1,x,hn,h=>by
  rw[nodup_cons]at hn
  rw[List.take_succ_cons]
  intro z
  rcases mem_cons.mp z with e | e
  ·rw[← e]at hn
   exact hn.1 (List.mem_of_getElem? h)
  ·exact iL hn.2 h e
theorem SameT.seq{K:Frag}{H H':Hp}{b:Addr}{xs:List V}(e:SameT H H')(h:SqL K H b xs):SqL K H' b xs:=by
 rcases h with (h | ⟨o,h⟩) | h
 ·exact .inl (.inl (e.at h))
 ·exact .inl (.inr ⟨o,e.at h⟩)
 ·exact .inr h
theorem uq{i:Nat}{v:V}{σ σ':St}{H:Hp}{Q:St→Hp→Prop}(e:σ.set i (some v)=σ')(h:Q σ' H):jP i v σ H Q:=by
 subst e; exact h
theorem yj(xs:List V):dg xs none (some 5)=xs.take 5:=by
 by_cases h:5≤xs.length
 ·exact pA xs 5 h
 ·match xs,h with
  | [],_=>rfl
  | [_],_=>rfl
  | [_,_],_=>rfl
  | [_,_,_],_=>rfl
  | [_,_,_,_],_=>rfl
  | _::_::_::_::_::r,h=>simp at h
theorem CrAt.take{H:Hp}:∀(k:Nat){ms:List Mb}{xs:List V},CrAt H ms xs→CrAt H (ms.take k) (xs.take k):=fun k _ _ h=>by
 induction h generalizing k with
 | nil=>rw[take_nil,take_nil]; exact .nil
 | cons r _ ih=>cases k; exact .nil; exact .cons r (ih _)
theorem i9{ms:List Mb}(h:Szs (szs ms))(k:Nat):Szs (szs (ms.take k)):=by
 have e:szs (ms.take k)=(szs ms).take k:=by unfold szs; rw[map_take]
 rw[e]
 exact ⟨Nat.le_trans (by rw[length_take]; exact Nat.min_le_right _ _) h.len,fun z hz=>h.lo z (mem_of_mem_take hz),fun z hz=>h.hi z (mem_of_mem_take hz)⟩
theorem qk{ms:List Mb}(h:Szs (szs ms)){m:Nat}(hm:m≤24):∃ B qs,Due (szs ms) (m:Nat) B qs :=
 uI (fun k hk=>h.lo _ (gR hk)) (fun k hk=>h.hi _ (gR hk)) h.len (by lia) (by lia)
section
variable {P:Program}{w:World}{K:Frag}{mg:Str→Option Value}{base:Heap}{a:Ad}
theorem ng{H:Hp}{ns:List Int}{l r:Addr}{Q:VK}(h1:H l=some (.tup (ns.map V.int)))(h2:H r=some (.tup (ns.map V.int)))(q:Q (.bl false) H):rEqD K true (.ref l) (.ref r) H Q:=by
 have hsh:SeqAt.shaped (.tuple (ns.map PyData.int))=true:=by
  obtain ⟨k1,k2⟩:=gB ns
  unfold SeqAt.shaped
  rw[PyData.canLay0,k1,Bool.true_and]
  refine decide_eq_true ?_
  simp only[PyData.depth]
  lia
 refine ⟨.tuple (ns.map PyData.int),.tuple (ns.map PyData.int),?_,?_,hsh,hsh,?_⟩
 ·rw[DV]; exact ⟨l,_,rfl,SqT.of h1,eU ns⟩
 ·rw[DV]; exact ⟨r,_,rfl,SqT.of h2,eU ns⟩
 rw[SeqAt.eqv_refl _ (SeqAt.canLay_of_shaped hsh)]
 exact q
abbrev lawK:Nat:=10
theorem ok_law{ts:List Addr}(T:Txt K mg a)(hB:Bm mg base)(hts:∀ q∈tabs a,q.1∈ts):FnOk P w K mg base CX0 lawK a.f_av a.d_av ["_law_script"] (spLaw K ts):=by
 have G_B:FnOk P w K mg base CX0 9 _ _ _ _:=(m8 T).mono (by decide)
 have G_W:FnOk P w K mg base CX0 9 _ _ _ _:=(rV T).mono (by decide)
 have G_ag:FnOk P w K mg base CX0 9 _ _ _ _:=(sC T).mono (by decide)
 have G_A:FnOk P w K mg base CX0 9 _ _ _ _:=(iS T).mono (by decide)
 have G_V:FnOk P w K mg base CX0 9 _ _ _ _:=(uN T).mono (by decide)
 have G_c:FnOk P w K mg base CX0 8 _ _ _ _:=(sf T).mono (by decide)
 have G_L:FnOk P w K mg base CX0 9 _ _ _ _:=(rM T hB).mono (by decide)
 have G_t:FnOk P w K mg base CX0 9 _ _ _ (spDMat K a):=vp T hB
 have G_z:FnOk P w K mg base CX0 9 _ _ _ _:=(wx T).mono (by decide)
 have G_au:FnOk P w K mg base CX0 9 _ _ _ (spLDue K a):=t6 T hB
 have G_aa:FnOk P w K mg base CX0 9 _ _ _ _:=(oY T hB).mono (by decide)
 have G_aq:FnOk P w K mg base CX0 9 _ _ _ _:=(sw T hB).mono (by decide)
 have G_ap:FnOk P w K mg base CX0 9 _ _ _ _:=(uk T).mono (by decide)
 have G_O:FnOk P w K mg base CX0 9 _ _ _ _:=(tR T).mono (by decide)
 have G_an:FnOk P w K mg base CX0 9 _ _ _ _:=(oM T).mono (by decide)
 refine T.F_av.ok sc_av (fun vs H Q E h=>?_) (fun cdv A outer s H vs Q E hr h=>?_)
 ·obtain ⟨p,ns,rfl,_⟩:=h; rfl
 ·obtain ⟨p,ns,rfl,hS,hlen,hT0,q⟩:=h
  have small:sizeLine=16777216:=sizeLine_eq
  have hT:=rj hts hT0
  refine ⟨_,(af (av (i:=1) sc_av.nd rfl (Or.inl rfl) (ao G_W hr rfl T.m_W T.F_W.kp T.B_W .nil aq (aa (vr 0) (aa aj (aa aj ae))))) (af (av (i:=2) sc_av.nd rfl (Or.inr rfl) (bf rfl (N:=["_law_row_here"]) (ix:=[none]) ⟨rfl,rfl,rfl,rfl,trivial⟩ (bj (vr 1)) ⟨fun C s H fp=>ap (i:=0) (show List.Nodup (["_law_row_here"]:List Str) by decide +kernel) rfl (Or.inl rfl),fun C s H fp=>bi,fun C s H fp=>(ax (bL (K:=K) rfl) (vr 0) aj (fun _ _=>rfl))⟩)) (af (av (i:=3) sc_av.nd rfl (Or.inl rfl) (au cO (ao G_B hr rfl T.m_B T.F_B.kp T.B_B .nil aq (aa (vr 0) (aa aj ae))) aj)) (af (av (i:=4) sc_av.nd rfl (Or.inl rfl) (ao G_A hr rfl T.m_A T.F_A.kp T.B_A .nil aq (aa (bf rfl (N:=["_law_row_here"]) (ix:=[none]) ⟨rfl,rfl,rfl,rfl,trivial⟩ (bj (vr 1)) ⟨fun C s H fp=>ap (i:=0) (show List.Nodup (["_law_row_here"]:List Str) by decide +kernel) rfl (Or.inl rfl),fun C s H fp=>bi,fun C s H fp=>(ax (bL (K:=K) rfl) (vr 0) aj (fun _ _=>rfl))⟩) (aa (vr 3) ae)))) (af (av (i:=5) sc_av.nd rfl (Or.inl rfl) (ao G_ag hr rfl T.m_ag T.F_ag.kp T.B_ag .nil aq (aa (ao G_B hr rfl T.m_B T.F_B.kp T.B_B .nil aq (aa (vr 0) (aa aj ae))) (aa (ao G_B hr rfl T.m_B T.F_B.kp T.B_B .nil aq (aa (vr 0) (aa aj ae))) (aa aj (aa (au qB aj aj) ae)))))) (af (dQ (ao G_V hr rfl T.m_V T.F_V.kp T.B_V .nil aq (aa (vr 4) (aa (aL (dU rfl) rfl T.z_list di (aa (aL eQ rfl T.z_range fA (aa (az aE rfl T.z_len bI (aa (vr 4) ae)) ae)) ae)) (aa (vr 5) ae)))) (du rfl (ay (ap (i:=6) sc_av.nd rfl (Or.inl rfl)) (ay (ap (i:=7) sc_av.nd rfl (Or.inl rfl)) bA)))) (af (av (i:=8) sc_av.nd rfl (Or.inl rfl) (aL dG rfl T.z_tuple gA (aa (az eV rfl T.z_sorted g9 (aa (bf rfl (N:=["_law_at","_law_places"]) (ix:=[none,some 2]) ⟨rfl,rfl,rfl,rfl,⟨rfl,rfl,rfl,trivial⟩⟩ (bj (vr 7)) ⟨fun C s H fp=>ap (i:=0) (show List.Nodup (["_law_at","_law_places"]:List Str) by decide +kernel) rfl (Or.inl rfl),fun C s H fp=>bi,fun C s H fp=>(ax (bL (K:=K) rfl) (vr 1) (vr 0) (fun _ _=>rfl))⟩) ae)) ae))) (af (av (i:=9) sc_av.nd rfl (Or.inl rfl) (aL dh rfl T.z_list di (aa (vr 1) ae))) (af (av (i:=10) sc_av.nd rfl (Or.inl rfl) (fO T.mk_c G_c hr rfl T.mc_c T.Bi_c .nil aq (aa (vr 3) ae))) (af (av (i:=11) sc_av.nd rfl (Or.inl rfl) (dW (vr 10) T.cl_c T.mt_L G_L hr T.B_L .nil aq (aa (vr 9) ae))) (af (av (i:=12) sc_av.nd rfl (Or.inl rfl) (dW (vr 10) T.cl_c T.mt_t G_t hr T.B_t .nil aq (aa (vr 9) ae))) (af (av (i:=13) sc_av.nd rfl (Or.inl rfl) (aM (aa (az (hJ rfl) rfl T.z_min mj (aa (vr 3) (aa (az aE rfl T.z_len bI (aa (vr 1) ae)) ae))) (aa (az (hJ rfl) rfl T.z_min mj (aa (vr 3) (aa (az aE rfl T.z_len bI (aa (vr 1) ae)) ae))) ae)))) (af (bJ (PW.pt (iY (bx (gh hr.units) (dW (vr 10) T.cl_c T.mt_z G_z hr T.B_z .nil aq (aa (vr 9) ae)) (vr 13) (aC _)) (iY (bx wA (az aE rfl T.z_len bI (aa (vr 8) ae)) (ax ar (vr 13) aj (fun _ _=>rfl)) (aC _)) (jm (bx (yR hr.units) (vr 9) (vr 1) (aC _)))))) (ak (aw dj)) aJ) (af (fg rfl (i:=14) sc_av.nd rfl rfl (by with_unfolding_all rfl) (N:=["_law_row_here"]) (ix:=[none]) ⟨rfl,rfl,rfl,rfl,trivial⟩ (bj (ao G_au hr rfl T.m_au T.F_au.kp T.B_au .nil aq (aa (vr 1) (aa (vr 3) ae)))) ⟨fun C s H fp=>ap (i:=0) (show List.Nodup (["_law_row_here"]:List Str) by decide +kernel) rfl (Or.inl rfl),fun C s H fp=>bi,fun C s H fp=>(aL (js (K:=K) rfl) rfl T.z_list di (aa (vr 0) ae))⟩) (af (bJ (PW.pt (iY (bx (gh hr.units) (vr 12) (vr 14) (aC _)) (jm (bx (gh hr.units) (dW (vr 10) T.cl_c T.mt_t G_t hr T.B_t .nil aq (aa (gL km (vr 1) iA (iz aj)) ae)) (ao G_au hr rfl T.m_au T.F_au.kp T.B_au .nil aq (aa (gL km (vr 1) iA (iz aj)) (aa (vr 3) ae))) (aC _))))) (ak (aw dj)) aJ) (af (ei PassesOwn.never rfl (wB rfl T.z_zip (aa (vr 12) (aa (vr 14) ae))) (du rfl (ay (ap (i:=15) sc_av.nd rfl (Or.inl rfl)) (ay (ap (i:=16) sc_av.nd rfl (Or.inl rfl)) bA))) (af (bJ (bx (gh hr.units) (vr 15) (vr 16) (aC _)) (ak (aw dj)) aJ) (ak (dS (pe_m.clear (vr 15)))))) (af (bJ (bx (gh hr.units) (dW (vr 10) T.cl_c T.mt_t G_t hr T.B_t .nil aq (aa (vr 1) ae)) (vr 14) (aC _)) (ak (aw dj)) aJ) (af (dS (pe_m.clear (vr 9))) (af (fg rfl (i:=17) sc_av.nd rfl rfl (by with_unfolding_all rfl) (N:=["_law_sizes","_law_throw"]) (ix:=[none,none]) ⟨rfl,rfl,rfl,rfl,trivial⟩ (bj (vr 6)) ⟨fun C s H fp=>(dF (K:=K) (n:=2) rfl rfl (ay (ap (i:=0) (show List.Nodup (["_law_sizes","_law_throw"]:List Str) by decide +kernel) rfl (Or.inl rfl)) (ay (ap (i:=1) (show List.Nodup (["_law_sizes","_law_throw"]:List Str) by decide +kernel) rfl (Or.inl rfl)) bA))),fun C s H fp=>bi,fun C s H fp=>(vr 1)⟩) (af (bJ (PW.pt (iY (dZ (dN (ao G_aa hr rfl T.m_aa T.F_aa.kp T.B_aa .nil aq (aa (vr 11) (aa (vr 6) (aa (vr 8) ae)))))) (jm (bx (gh hr.units) (ao G_aq hr rfl T.m_aq T.F_aq.kp T.B_aq .nil aq (aa (dW (vr 10) T.cl_c T.mt_L G_L hr T.B_L .nil aq (aa (vr 1) ae)) (aa (vr 17) ae))) (vr 8) (aC _))))) (ak (aw dj)) aJ) (ak (aw (fX (ao G_ap hr rfl T.m_ap T.F_ap.kp T.B_ap .nil aq (aa (vr 10) (aa (vr 3) ae))) (gZ (ao G_O hr rfl T.m_O T.F_O.kp T.B_O .nil aq (aa (ao G_an hr rfl T.m_an T.F_an.kp T.B_an .nil aq (aa (ao G_B hr rfl T.m_B T.F_B.kp T.B_B .nil aq (aa (vr 0) (aa aj ae))) ae)) ae)))))))))))))))))))))))))),wf ?_⟩
  intro zt21 zt20 zt19 zt18 zt17 zt16 zt15 zt14 zt13 zt12 zt11 zt10 zt9 zt8 zt7 zt6 zt5 zt4 zt3 zt2
  refine ⟨p,ns,rfl,hS,hlen,fun H1 lc ms xs s1 flc hlc hC hz hpa=>?_⟩
  have hcl:=hC.len
  have hms:ms.length≤24:=by have:=hz.len; unfold szs at this; rw[length_map]at this; exact this
  have hx24:xs.length≤24:=by lia
  refine .inl ⟨⟨_,SqL.of hlc⟩,fun D hD=>?_⟩
  let Pw1:PvL:=fun i ys H'=>i≤xs.length∧Same H1 H'∧H' D=some (.lst ys)∧ys=(plc (ms.take i)).map V.int
  refine aK (K:=K) (a:=lc) (xs:=xs) Pw1 ⟨Nat.zero_le _,Same.new hD,ac,rfl⟩ (fun i ys H' h=>SqL.of (h.2.1 _ _ hlc)) (fun i ys H' h=>h.2.2.1) ?_ ?_
  ·rintro i x ys H' P' hx ⟨hi,s3,hD1,rfl⟩ hP'
   obtain ⟨m',hm',q1,pt,rfl,g1,g2⟩:=((hC).tk s3.tk).get hx
   have hlt:i<xs.length:=(List.getElem?_eq_some_iff.mp hx).1
   refine ⟨trivial,.inr (.inl ⟨q1,_,_,_,rfl,rfl,SqT.of g1,aB 0 rfl rfl,hD1,?_,hP' _ _ ⟨hlt,s3.put hD,ac,?_⟩⟩)⟩
   ·unfold plc; rw[length_map,length_map,length_take]; lia
   ·unfold plc; rw[take_add_one,hm',map_append,map_append]; rfl
  rintro ys H2 ⟨_,s2,hD1,rfl⟩
  rw[← hcl,take_of_length_le (Nat.le_refl _)]at hD1
  have hpl:(plc ms).length=ms.length:=by unfold plc; rw[length_map]
  have s12:=s1.trans s2
  refine ⟨p,ns,4,rfl,s12.seq hS,hlen,by decide,by decide,cp,?_⟩
  obtain ⟨m,hm,hm24⟩:∃ m:Nat,cH ns 4 % 25=(m:Int)∧m≤24:=⟨(cH ns 4 % 25).toNat,by lia,by lia⟩
  show jP 3 (V.int (cH ns 4 % 25)) _ H2 _
  rw[hm]
  obtain ⟨B,qs,hDu⟩:=qk hz hm24
  have hlc2:=s2 _ _ hlc
  have hC2:=hC.tk s2.tk
  refine .inl ⟨⟨_,SqL.of hlc2⟩,fun D2 hD2=>?_⟩
  let Pw2:PvL:=fun i ys H'=>i≤xs.length∧Same H2 H'∧H' D2=some (.lst ys)∧ys=(szs (ms.take i)).map V.int
  refine aK (K:=K) (a:=lc) (xs:=xs) Pw2 ⟨Nat.zero_le _,Same.new hD2,ac,rfl⟩ (fun i ys H' h=>SqL.of (h.2.1 _ _ hlc2)) (fun i ys H' h=>h.2.2.1) ?_ ?_
  ·rintro i x ys H' P' hx ⟨hi,s3,hD1,rfl⟩ hP'
   obtain ⟨m',hm',q1,pt,rfl,g1,g2⟩:=((hC2).tk s3.tk).get hx
   have hlt:i<xs.length:=(List.getElem?_eq_some_iff.mp hx).1
   refine ⟨trivial,.inr (.inl ⟨q1,_,_,_,rfl,rfl,SqT.of g1,aB 1 rfl rfl,hD1,?_,hP' _ _ ⟨hlt,s3.put hD2,ac,?_⟩⟩)⟩
   ·unfold szs; rw[length_map,length_map,length_take]; lia
   ·unfold szs; rw[take_add_one,hm',map_append,map_append]; rfl
  rintro ys2 H3 ⟨_,s3,hD3,rfl⟩
  rw[← hcl,take_of_length_le (Nat.le_refl _)]at hD3
  refine ⟨D2,szs ms,(m:Nat),rfl,hD3,hz,by lia,by lia,fun H4 lsh ys s4 fsh hsh hF=>?_⟩
  have s14:=s12.trans (s3.trans s4)
  have dl:(due (szs ms) (m:Nat)).length=ys.length:=hF.len
  have dm:(due (szs ms) (m:Nat)).length=ms.length:=by rw[cu]; unfold szs; rw[length_map]
  refine ⟨p,ns,5,rfl,s14.seq hS,hlen,by decide,by decide,?_⟩
  refine ⟨p,ns,6,rfl,s14.seq hS,hlen,by decide,by decide,cw,?_⟩
  have e12:(10:Int) ^ (12:Int).toNat=1000000000000:=by decide +kernel
  dsimp only
  rw[e12]
  refine ⟨_,_,25,1000000000000,rfl,by decide,by decide,by decide,by decide,fun H5 lt thr s5 flt hlt htl _=>?_⟩
  have htl:thr.length=25:=by lia
  refine ⟨_,.inl (SqL.of (s5 _ _ hsh)),⟨_,rfl,fun pr hpr=>⟨pr,ys.length,rfl,by lia,ac,fun lo flo=>?_⟩⟩⟩
  have s6:=(Same.new (o:=.rng 0 (ys.length:Int)) hpr).trans (Same.new (o:=.lst ((List.range ys.length).map fun (o:Nat)=>V.int (o:Int))) flo)
  have hB0:BB (B:Int):=⟨by have:=hDu.B0; lia,by have:=hDu.B1; lia⟩
  refine ⟨lsh,lo,lt,ys,due (szs ms) (m:Nat),List.range ys.length,thr,(B:Int),rfl,(s5.trans s6) _ _ hsh,hF.same (s5.trans s6),ac,by rw[dl],s6 _ _ hlt,htl,by lia,hB0,hDu.fr,fun H7 pw lr lk rows rys kept ks s7 hpw hlr hR hlk hG hSr ks24 rl25=>?_⟩
  have hG:eW (cc (tlR (due (szs ms) (m:Nat))) []).1 (cc (tlR (due (szs ms) (m:Nat))) []).2 rows kept:=by
   have e:tlR (due (szs ms) (m:Nat))=tl0 (due (szs ms) (m:Nat)) (List.range ys.length):=by unfold tlR tl0; rw[dl]
   rw[e]; exact hG
  have s27:=(s3.trans s4).trans ((s5.trans s6).trans s7)
  have s17:=s12.trans s27
  refine ⟨pw,_,rfl,SqT.of hpw,rfl,_,_,rfl,_,_,rfl,rfl,?_⟩
  have kin:∀ x∈ks,0≤x∧x.toNat<(plc ms).length:=fun x hx=>by
   rw[hpl,← dm]
   exact tY hG x (hSr.1.mem_iff.mp hx)
  have hD7:=s27 _ _ hD1
  refine .inr ⟨⟨_,SqT.of hlk⟩,fun D3 hD3'=>?_⟩
  let Pw3:PvL:=fun i zs H'=>i≤ks.length∧Same H7 H'∧H' D3=some (.lst zs)∧zs=((ks.take i).map fun i=>(plc ms).getD i.toNat 0).map V.int
  refine qM (K:=K) (a:=lk) (xs:=ks.map V.int) Pw3 ⟨Nat.zero_le _,Same.new hD3',ac,rfl⟩ (fun i zs H' h=>SqT.of (h.2.1 _ _ hlk)) (fun i zs H' h=>h.2.2.1) ?_ ?_
  ·rintro i x zs H' P' hx ⟨hi,s8,hD8,rfl⟩ hP'
   have hlt:i<ks.length:=by have:=(List.getElem?_eq_some_iff.mp hx).1; rw[length_map]at this; exact this
   rw[List.getElem?_map,List.getElem?_eq_getElem hlt]at hx
   cases hx
   obtain ⟨k0,k1⟩:=kin _ (getElem_mem hlt)
   have at1:atI ((plc ms).map V.int) ks[i]=some (.int ((plc ms).getD ks[i].toNat 0)):=by
    have e:((ks[i].toNat:Nat):Int)=ks[i]:=by lia
    refine aB ks[i].toNat e ?_
    simp[List.getElem?_map,List.getD,k1]
   refine ⟨⟨rfl,trivial⟩,.inl ⟨D,_,_,_,rfl,rfl,SqL.of (s8 _ _ hD7),at1,hD8,?_,hP' _ _ ⟨hlt,s8.put hD3',ac,?_⟩⟩⟩
   ·rw[length_map,length_map,length_take]; lia
   ·rw[take_add_one,List.getElem?_eq_getElem hlt,map_append,map_append]; rfl
  rintro zs H8 ⟨_,s8,hD8,rfl⟩
  rw[length_map,take_of_length_le (Nat.le_refl _)]at hD8
  obtain ⟨g,hg⟩:∃ g:Int→Int,g=fun i=>(plc ms).getD i.toNat 0:=⟨_,rfl⟩
  rw[← hg]at hD8
  refine ⟨D3,ks.map g,rfl,SqL.of hD8,by rw[length_map]; lia,fun q1 ps hp hs f1=>?_⟩
  refine ⟨q1,_,rfl,.inl ⟨SqL.of ac,fun kt fkt=>?_⟩⟩
  have s9:=(Same.new (o:=.lst (ps.map V.int)) f1).trans (Same.new (o:=.tup (ps.map V.int)) fkt)
  have hkt9:=ac (H:=upd H8 q1 (.lst (ps.map V.int))) (a:=kt) (o:=.tup (ps.map V.int))
  generalize upd (upd H8 q1 (.lst (ps.map V.int))) kt (.tup (ps.map V.int))=H9 at s9 hkt9
  have s79:=s8.trans s9
  have hSp:Srt ps (kept.map g):=⟨hp.trans (hSr.1.map g),hs⟩
  have pslen:(ps.length:Int)=mnI m xs.length:=by
   have e1:=hSp.1.length_eq
   rw[length_map]at e1
   have e2:=qe hDu hz.len hG
   have e3:(szs ms).length=xs.length:=by unfold szs; rw[length_map]; exact hcl
   rw[e3]at e2
   unfold mnI
   rw[e1,e2]
   split <;> split <;> lia
  have ps40:ps.length≤40:=by have:=hSp.1.length_eq; rw[length_map]at this; have:=hSr.1.length_eq; lia
  have hGd:eW (cc (lsL ms m) []).1 (cc (lsL ms m) []).2 rows (kept.map g):=by
   have:=nY g rows _ _ _ hG
   have e:lsL ms m=rl g (tlR (due (szs ms) (m:Nat))):=by
    unfold lsL
    rw[hg]
    exact w5 (by rw[hpl,dm])
   rw[e,show ([]:List Int)=[].map g from rfl,ny]
   exact this
  have s29:=s27.trans s79
  have s19:=s12.trans s29
  refine ⟨lc,xs,rfl,.inl (SqL.of (s29 _ _ hlc2)),fun lh flh=>?_⟩
  have s10:=Same.new (o:=.lst xs) flh
  have hlh10:=ac (H:=H9) (a:=lh) (o:=.lst xs)
  generalize upd H9 lh (.lst xs)=H10 at s10 hlh10
  intro x dx hx hdx hne
  refine ⟨x,dx,m,rfl,ac,hm24,⟨rfl,?_⟩⟩
  rw[cv]
  have s11:Same H10 (upd (upd H10 dx (.own x)) x (.ins a.c_c dx [("many",.int (m:Nat))])):=xS hx hdx
  have hx11:=ac (H:=upd H10 dx (.own x)) (a:=x) (o:=.ins a.c_c dx [("many",.int (m:Nat))])
  generalize upd (upd H10 dx (.own x)) x (.ins a.c_c dx [("many",.int (m:Nat))])=H11 at s11 hx11
  have s911:=s10.trans s11
  have s711:=s79.trans s911
  have s111:=s19.trans s911
  have hS11:=s111.seq hS
  have hT11:=hT.same s111
  have hlc11:=(s29.trans s911) _ _ hlc2
  have hC11:=hC2.tk (s29.trans s911).tk
  have hlr11:=s711 _ _ hlr
  have hR11:=RowsAt.t s711.t hR
  have hkt11:=s911 _ _ hkt9
  have hlh11:=s11 _ _ hlh10
  have hd11:IsDuel a H11 (.ref x) m:=⟨x,dx,rfl,hx11⟩
  have nxlh:x≠lh:=fun z=>by rw[z,hlh10]at hx; cases hx
  have hS9:=s19.seq hS
  have hlc9:=s29 _ _ hlc2
  have hC9:=hC2.tk s29.tk
  have hlr9:=s79 _ _ hlr
  have hR9:=RowsAt.t s79.t hR
  clear hlr hR hlk hpw hD8 hD7 hD3 hD1 hlc2 hC2 hlh10 s29 s19 s711 s79 s8 s27 s17 s7 s5 s6 s3 s4 s14 s12 s111
  refine uq (σ':=[some (.ref p),some (.ref lc),some (.ref D),some (.int (m:Nat)),some (.ref lsh),some (.ref lt),some (.ref lr),some (.ref lk),some (.ref kt),some (.ref lh),some (.ref x),none,none,none,none,none,none,none]) rfl ?_
  refine ⟨x,dx,_,rfl,hx11,rfl,(fun b=>b≠lh),.ref x,m,lh,xs,ms,B,qs,rfl,(fun b hb z=>by rw[z,hlh11]at hb; cases hb),hd11,hlh11,hC11,hz,hm24,hDu,hT11,fun H12 nd t12 hT12 n12=>?_⟩
  have hlh12:=t12.at hlh11
  refine uq (σ':=[some (.ref p),some (.ref lc),some (.ref D),some (.int (m:Nat)),some (.ref lsh),some (.ref lt),some (.ref lr),some (.ref lk),some (.ref kt),some (.ref lh),some (.ref x),some (nd),none,none,none,none,none,none]) rfl ?_
  refine ⟨x,dx,_,rfl,t12.at hx11,rfl,.ref x,m,lh,xs,ms,B,qs,rfl,hd11.t t12,hlh12,hC11.tk (SameT.tk t12),hz,hm24,hDu,hT12,fun H13 fr xf t13 hT13 hfr0 hfr hM hnd hnew=>?_⟩
  have t113:=t12.trans t13
  refine uq (σ':=[some (.ref p),some (.ref lc),some (.ref D),some (.int (m:Nat)),some (.ref lsh),some (.ref lt),some (.ref lr),some (.ref lk),some (.ref kt),some (.ref lh),some (.ref x),some (nd),some (.ref fr),none,none,none,none,none]) rfl ?_
  have hlc13:=t113.at hlc11
  refine ⟨_,.inl (SqL.of hlc13),⟨_,_,rfl,?_⟩⟩
  refine ⟨_,.inl (SqL.of hlc13),⟨_,_,rfl,aP _ _,fun en fen=>?_⟩⟩
  have s14:=Same.new (o:=.tup [.int (mnI m xs.length),.int (mnI m xs.length)]) fen
  have hen14:=ac (H:=H13) (a:=en) (o:=.tup [.int (mnI m xs.length),.int (mnI m xs.length)])
  refine uq (σ':=[some (.ref p),some (.ref lc),some (.ref D),some (.int (m:Nat)),some (.ref lsh),some (.ref lt),some (.ref lr),some (.ref lk),some (.ref kt),some (.ref lh),some (.ref x),some (nd),some (.ref fr),some (.ref en),none,none,none,none]) rfl ?_
  refine ⟨x,dx,_,rfl,s14 _ _ (t113.at hx11),rfl,.ref x,m,lh,xs,rfl,(hd11.t t113).t s14.t,s14 _ _ (t13.at hlh12),hx24,fun H15 pb s15 hpb=>?_⟩
  have hen15:=s15 _ _ hen14
  have s1315:Same H13 H15:=s14.trans s15
  have t115:=t113.trans s1315.t
  have hT15:=hT13.same s1315
  refine ng (ns:=[mnI m xs.length,mnI m xs.length]) hpb hen15 ?_
  refine ⟨_,.inr (SqT.of (t115.at hkt11)),?_⟩
  refine .inr (.inl ⟨en,_,_,_,rfl,rfl,SqT.of hen15,aB 0 rfl rfl,?_⟩)
  refine qd (by rw[length_map]; simp[pslen]) ?_
  refine ⟨lh,lc,xs,rfl,rfl,SqL.of (t115.at hlh11),SqL.of (t115.at hlc11),hC.refs,?_⟩
  refine ⟨m,lc,xs,ms,B,qs,rfl,t115.at hlc11,hC11.tk (SameT.tk t115),hpa,hz,hm24,hDu,hT15,fun H16 r16 x16 t16 hT16 f16 h16 hM16 nd16 new16=>?_⟩
  have x16l:x16.length≤24:=by
   rw[← hM16.len]
   unfold dmx uV
   rw[length_map,length_range,hDu.len]
   exact hz.len
  refine .inl ⟨⟨_,SqL.of h16⟩,fun D4 hD4=>?_⟩
  let Pw4:PvL:=fun i zs H'=>i≤x16.length∧Same H16 H'∧H' D4=some (.lst zs)∧MatAt K D4 H' ((dmx qs).take i) zs∧∀ q,V.ref q∈zs→H16 q=none
  refine aK (K:=K) (a:=r16) (xs:=x16) Pw4 ⟨Nat.zero_le _,Same.new hD4,ac,.nil,fun b hb=>by cases hb⟩ (fun i zs H' h=>SqL.of (h.2.1 _ _ h16)) (fun i zs H' h=>h.2.2.1) ?_ ?_
  ·rintro i y zs H' P' hy ⟨hi,s17,hD17,hM17,new17⟩ hP'
   obtain ⟨fs,hu,q1,zz,rfl,nq1,g1,hF1⟩:=hM16.get hy
   have hlt:i<x16.length:=(List.getElem?_eq_some_iff.mp hy).1
   have zl:zs.length≤24:=by rw[← hM17.len,length_take]; lia
   refine ⟨trivial,q1,_,rfl,.inl (SqL.of (s17 _ _ g1)),fun ln fln=>?_⟩
   have n1:=Same.new (o:=.lst zz) fln
   have hD18:=n1 _ _ hD17
   have nln:ln≠D4:=fun z=>by rw[z,hD17]at fln; cases fln
   refine ⟨hD18,by lia,hP' _ _ ⟨hlt,(s17.trans n1).put hD4,ac,?_,?_⟩⟩
   ·rw[take_add_one,hu]
    exact MatAt.snoc ⟨ln,zz,rfl,nln,by rw[ag nln]; exact ac,(hF1.same (s17.trans n1)).tk (TK.lst hD18)⟩ ((hM17.same n1.t).put hD18)
   ·intro b hb
    rcases mem_append.mp hb with h | h
    ·exact new17 b h
    ·cases mem_singleton.mp h; exact s17.free fln
  rintro zs H17 ⟨_,s17,hD17,hM17,new17⟩
  rw[← hM16.len,take_of_length_le (Nat.le_refl _)]at hM17
  have t1316:=s1315.t.trans t16
  have t1317:=t1316.trans s17.t
  refine me (t1317.at hfr) hD17 (hM.same t1317) hM17 ?_
  obtain ⟨B5,qs5,hDu5⟩:=qk (i9 hz 5) hm24
  have t117:=t113.trans t1317
  have hT17:=hT16.same s17
  refine ⟨x,dx,_,rfl,t117.at hx11,rfl,_,rfl,.inl ⟨_,SqL.of (t117.at hlc11),fun l5 fl5=>?_⟩⟩
  have s18:=Same.new (o:=.lst (dg xs none (some 5))) fl5
  have t118:=t117.trans s18.t
  refine ⟨.ref x,m,l5,xs.take 5,ms.take 5,B5,qs5,rfl,hd11.t t118,(by rw[← yj]; exact ac),(hC11.tk (SameT.tk t118)).take 5,i9 hz 5,hm24,hDu5,hT17.same s18,fun H19 r19 x19 t19 hT19 _ h19 hM19 _ _=>?_⟩
  have t119:=t118.trans t19
  refine ⟨_,rfl,.inl ⟨_,SqL.of (t119.at hlc11),fun l6 fl6=>?_⟩⟩
  have s20:=Same.new (o:=.lst (dg xs none (some 5))) fl6
  have t120:=t119.trans s20.t
  refine ⟨m,l6,xs.take 5,ms.take 5,B5,qs5,rfl,(by rw[← yj]; exact ac),(hC11.tk (SameT.tk t120)).take 5,(fun mb hmb=>hpa mb (mem_of_mem_take hmb)),i9 hz 5,hm24,hDu5,hT19.same s20,fun H21 r21 x21 t21 hT21 _ h21 hM21 _ _=>?_⟩
  have t1921:=s20.t.trans t21
  refine me (t1921.at h19) h21 (hM19.same t1921) hM21 ?_
  have t1721:=(s18.t.trans t19).trans t1921
  have t1321:=t1317.trans t1721
  have t1221:=t13.trans t1321
  have n66:∀{b:Addr}{o:HO},H12 b=some o→V.ref b ∉ xf:=fun {b o} eb z=>by rw[hnew _ z]at eb; cases eb
  have hfr21:=t1321.at hfr
  have hMf:=hM.same t1321
  have hD21:=t1721.at hD17
  have hMd:=hM17.same t1721
  have nfr:V.ref fr ∉ xf:=fun z=>(hM.mem z).1 rfl
  have nD4:V.ref D4 ∉ xf:=fun z=>by
   obtain ⟨_,ws,e⟩:=hM.mem z
   rw[t1316.at e]at hD4; cases hD4
  have nrow:∀ b,V.ref b∈zs→V.ref b ∉ xf:=fun b hb z=>by
   obtain ⟨_,ws,e⟩:=hM.mem z
   have e2:=new17 b hb
   rw[t1316.at e]at e2; cases e2
  let Pw5:PvS:=fun i σ H'=>(∀ b o,V.ref b ∉ xf.take i→H21 b=some o→H' b=some o)∧TabsOk (tabs a) H'∧∃ x15 x16,σ=[some (.ref p),some (.ref lc),some (.ref D),some (.int (m:Nat)),some (.ref lsh),some (.ref lt),some (.ref lr),some (.ref lk),some (.ref kt),some (.ref lh),some (.ref x),some nd,some (.ref fr),some (.ref en),some (.ref D4),x15,x16,none]
  refine ⟨fr,D4,xf,zs,rfl,hfr21,hD21,tH (a:=fr) (b:=D4) (xs:=xf) (ys:=zs) (by rw[← hM.len,← hM17.len]) Pw5 ⟨fun b o _ e=>e,hT21,none,none,rfl⟩ (fun i σ H' h=>⟨h.1 _ _ (fun z=>nfr (mem_of_mem_take z)) hfr21,h.1 _ _ (fun z=>nD4 (mem_of_mem_take z)) hD21⟩) ?_ ?_⟩
  ·rintro i v1 v2 σ H' pp hxi hyi ⟨k1,hT',x15,x16',rfl⟩ hpp
   obtain ⟨fs,hu1,q1,z1,rfl,nq1,g1,hF1⟩:=hMf.get hxi
   obtain ⟨fs',hu2,q2,z2,rfl,nq2,g2,hF2⟩:=hMd.get hyi
   rw[hu1]at hu2
   cases hu2
   have n1:V.ref q1 ∉ xf.take i:=iL hnd hxi
   have n2:V.ref q2 ∉ xf:=nrow q2 (List.mem_of_getElem? hyi)
   have tk1:TK H21 H':=fun b us e=>k1 _ _ (fun z=>by
    obtain ⟨_,ws,e'⟩:=hMf.mem (mem_of_mem_take z)
    rw[e]at e'; cases e') e
   have sn:=Same.new (o:=.tup [.ref q1,.ref q2]) hpp
   have tk2:=tk1.trans sn.tk
   have c1:=sn _ _ (k1 _ _ n1 g1)
   have c2:=sn _ _ (k1 _ _ (fun z=>n2 (mem_of_mem_take z)) g2)
   have hT2:=hT'.same sn
   refine ⟨pp,_,rfl,SqT.of ac,rfl,_,_,rfl,_,_,rfl,rfl,?_⟩
   refine yQ c1 c2 (hF1.tk tk2) (hF2.tk tk2) ?_
   refine ⟨.inl ⟨rfl,_,SqL.of c1⟩,⟨q1,_,rfl,rfl,c1,?_⟩⟩
   refine ⟨fun b o nb e=>?_,kL c1 hT2,_,_,rfl⟩
   rw[take_add_one,hxi]at nb
   have nb1:V.ref b ∉ xf.take i:=fun z=>nb (mem_append_left _ z)
   have nb2:b≠q1:=fun z=>nb (mem_append_right _ (by rw[z]; exact mem_singleton.mpr rfl))
   rw[ag nb2]
   exact sn _ _ (k1 _ _ nb1 e)
  rintro σ H22 ⟨k22,hT22,x15,x16',rfl⟩
  rw[take_of_length_le (Nat.le_refl _)]at k22
  have t1222:SameT H12 H22:=fun b o eb=>⟨fun n=>k22 _ _ (n66 eb) (t1221.at eb n),let ⟨o',e'⟩:=(t1221 b o eb).2; ⟨o',k22 _ _ (n66 eb) e'⟩⟩
  have t122:=t12.trans t1222
  have tk22:TK H21 H22:=fun b us e=>k22 _ _ (fun z=>by
   obtain ⟨_,ws,e'⟩:=hMf.mem z
   rw[e]at e'; cases e') e
  have hD22:=k22 _ _ nD4 hD21
  have hMd22:=hMd.keep tk22 fun q ws hq h=>k22 _ _ (nrow q hq) h
  refine ⟨x,dx,_,rfl,t122.at hx11,rfl,.ref x,m,lc,xs,ms,B,qs,rfl,hd11.t t122,t122.at hlc11,hC11.tk (SameT.tk t122),hz,hm24,hDu,hT22,fun H23 r23 x23 t23 hT23 _ h23 hM23 _ _=>?_⟩
  refine me h23 (t23.at hD22) hM23 (hMd22.same t23) ?_
  have t123:=t122.trans t23
  have hlh23:=t123.at hlh11
  refine ⟨.inl ⟨rfl,_,SqL.of hlh23⟩,⟨lh,_,rfl,rfl,hlh23,?_⟩⟩
  have n24:=(n12.t (t1222.trans t23)).put (zs:=[]) hlh23 (fun b h=>h)
  have hT24:=kL (zs':=[]) hlh23 hT23
  have t924:SameT H9 (upd H23 lh (.lst [])):=(s911.t.trans t123).put flh
  have hx24':(upd H23 lh (.lst [])) x=some (.ins a.c_c dx [("many",.int (m:Nat))]):=by rw[ag nxlh]; exact t123.at hx11
  generalize upd H23 lh (.lst [])=H24 at n24 hT24 t924 hx24'
  have hlr24:=t924.at hlr9
  have hR24:=RowsAt.t t924 hR9
  refine .inl ⟨⟨_,SqL.of hlr24⟩,fun D5 hD5=>?_⟩
  let Pw6:PvL:=fun i zs H'=>Same H24 H'∧H' D5=some (.lst zs)∧i≤rows.length∧zs=((rows.map fun r=>r.2.2).map V.int).take i
  refine aK (K:=K) (a:=lr) (xs:=rys) Pw6 ⟨Same.new hD5,ac,Nat.zero_le _,rfl⟩ (fun i zs H' h=>SqL.of (h.1 _ _ hlr24)) (fun i zs H' h=>h.2.1) ?_ ?_
  ·rintro i y zs H' P' hy ⟨s13,hD13,hi,rfl⟩ hP'
   obtain ⟨⟨k,n,t⟩,hri,pr,lsz,rfl,hpr,hlsz⟩:=hR24.get hy
   have ilt:i<rows.length:=(List.getElem?_eq_some_iff.mp hri).1
   refine ⟨pr,_,rfl,SqT.of (s13 _ _ hpr),rfl,_,_,rfl,_,_,rfl,rfl,trivial,hD13,?_,hP' _ _ ⟨s13.put hD5,ac,ilt,?_⟩⟩
   ·rw[length_take]; lia
   ·rw[take_add_one,List.getElem?_map,List.getElem?_map,hri]; rfl
  rintro zs5 H25 ⟨s25,hD25,_,rfl⟩
  rw[← hR24.len,take_of_length_le (by rw[length_map,length_map]; exact Nat.le_refl _)]at hD25
  have t925:=t924.trans s25.t
  refine ⟨nd,lr,kt,rows,rys,kept.map g,ps,rfl,⟨_,(n24.t s25.t).w,hGd⟩,t925.at hlr9,RowsAt.t t925 hR9,t925.at hkt9,hSp,ps40,hT24.same s25,fun H26 t26 hT26=>?_⟩
  have t2426:=s25.t.trans t26
  have t926:=t924.trans t2426
  refine ⟨x,dx,_,rfl,t2426.at hx24',rfl,(fun _=>True),.ref x,m,lc,xs,ms,B,qs,rfl,(fun _ _=>trivial),⟨x,dx,rfl,t2426.at hx24'⟩,t926.at hlc9,hC9.tk (SameT.tk t926),hz,hm24,hDu,hT26,fun H27 nd2 t27 hT27 n27=>?_⟩
  refine ⟨nd2,D5,rows,kept.map g,rfl,⟨_,n27.w,hGd⟩,(t26.trans t27).at hD25,hT27,fun H28 kt2 ks2 t28 hT28 hkt2 hks2=>?_⟩
  have e2:ks2=ps:=lA hks2 hSp
  subst e2
  have t2628:=t27.trans t28
  have t928:=t926.trans t2628
  refine ng hkt2 (t928.at hkt9) ?_
  refine ⟨.ref x,m,rfl,⟨x,dx,rfl,(t2426.trans t2628).at hx24'⟩,hm24,fun H29 s29=>?_⟩
  refine ⟨p,ns,7,rfl,SameT.seq (t928.trans s29.t) hS9,hlen,by decide,by decide,⟨_,rfl,fun H30 v o s30 th hno=>⟨v,o,rfl,th,hno,fun H31 s31=>q _⟩⟩⟩
end
end My
namespace My
open PySem L2
theorem us0{α:Type}:∀{us:List α},us.length=0→us=[]
 | [],_=>rfl
theorem us1{α:Type}{us:List α}(h:us.length=1):∃ a0,us=[a0]:=by
 cases us with
 | nil=>cases h
 | cons a0 t=>obtain rfl:=us0 (Nat.succ.inj h); exact ⟨a0,rfl⟩
theorem us2{α:Type}{us:List α}(h:us.length=2):∃ a0 a1,us=[a0,a1]:=by
 cases us with
 | nil=>cases h
 | cons a0 t=>obtain ⟨a1,rfl⟩:=us1 (Nat.succ.inj h); exact ⟨a0,a1,rfl⟩
theorem us3{α:Type}{us:List α}(h:us.length=3):∃ a0 a1 a2,us=[a0,a1,a2]:=by
 cases us with
 | nil=>cases h
 | cons a0 t=>obtain ⟨a1,a2,rfl⟩:=us2 (Nat.succ.inj h); exact ⟨a0,a1,a2,rfl⟩
theorem us4{α:Type}{us:List α}(h:us.length=4):∃ a0 a1 a2 a3,us=[a0,a1,a2,a3]:=by
 cases us with
 | nil=>cases h
 | cons a0 t=>obtain ⟨a1,a2,a3,rfl⟩:=us3 (Nat.succ.inj h); exact ⟨a0,a1,a2,a3,rfl⟩
theorem txt_mk{K:Frag}{h:Heap}{mg:Str→Option Value}{f0 f1 f2 f3 f4 f5 f6 f7 f8 f9 f10 f11 f12 f13 f14 f15 f16 f17 f18 f19 f20 f21 f22 f23 f24 f25 f26 f27 f28 f29 f30 f31 f32 f33 f34 f35 f36 f37 f38 f39 f40 f41 f42 f43 f44 f45 k_NOUGHT k_WHOLE k_TWICE c_ad c_f i_f c_y i_y c_ao c_g i_g c_i i_i c_ai c_N i_N c_n i_n c_o i_o c_c i_c x_p x_s x_C x_I x_x x_D x_F x_K x_u x_L x_t x_z x_J x_q lc_d lp_d lc_j lp_j lc_e lp_e:Addr}{od0 an0 od1 an1 od2 an2 od3 an3 od4 an4 od5 an5 od6 an6 od7 an7 od8 an8 od9 an9 od10 an10 od11 an11 od12 an12 od13 an13 od14 an14 od15 an15 od16 an16 od17 an17 od18 an18 od19 an19 od20 an20 od21 an21 od22 an22 od23 an23 od24 an24 od25 an25 od26 an26 od27 an27 od28 an28 od29 an29 od30 an30 od31 an31 od32 an32 od33 an33 od34 an34 od35 an35 od36 an36 od37 an37 od38 an38 od39 an39 od40 an40 od41 an41 od42 an42 od43 an43 od44 an44 od45 an45 od_e an_e od_f an_f od_12 an_12 od_0 an_0 od_c an_c od_11 an_11 od_d an_d od_6 an_6 od_13 an_13 od_2 an_2 od_14 an_14 od_3 an_3 od_16 an_16 od_5 an_5 od_15 an_15 od_4 an_4 od_1 an_1 od_a an_a od_8 an_8 od_7 an_7 od_b an_b od_10 an_10 lod_17 lod_18 lod_19:Option Addr}{sl0 sl1 sl2 sl3 sl4 sl5 sl6 sl7 sl8 sl9 sl10 sl11 sl12 sl13 sl14 sl15 sl16 sl17 sl18 sl19 sl20 sl21 sl22 sl23 sl24 sl25 sl26 sl27 sl28 sl29 sl30 sl31 sl32 sl33 sl34 sl35 sl36 sl37 sl38 sl39 sl40 sl41 sl42 sl43 sl44 sl45 sl_e sl_f sl_12 sl_0 sl_c sl_11 sl_d sl_6 sl_13 sl_2 sl_14 sl_3 sl_16 sl_5 sl_15 sl_4 sl_1 sl_a sl_8 sl_7 sl_b sl_10 lsl_17 lsl_18 lsl_19:Array (Option Value)}{oc0 kV0 dc0 pm0 cd0 ct0 oc1 kV1 dc1 pm1 cd1 ct1 oc2 kV2 dc2 pm2 cd2 ct2 oc3 kV3 dc3 pm3 cd3 ct3 oc4 kV4 dc4 pm4 cd4 ct4 oc5 kV5 dc5 pm5 cd5 ct5 oc6 kV6 dc6 pm6 cd6 ct6 oc7 kV7 dc7 pm7 cd7 ct7 oc8 kV8 dc8 pm8 cd8 ct8 oc9 kV9 dc9 pm9 cd9 ct9 oc10 kV10 dc10 pm10 cd10 ct10 oc11 kV11 dc11 pm11 cd11 ct11 oc12 kV12 dc12 pm12 cd12 ct12 oc13 kV13 dc13 pm13 cd13 ct13 oc14 kV14 dc14 pm14 cd14 ct14 oc15 kV15 dc15 pm15 cd15 ct15 oc16 kV16 dc16 pm16 cd16 ct16 oc17 kV17 dc17 pm17 cd17 ct17 oc18 kV18 dc18 pm18 cd18 ct18 oc19 kV19 dc19 pm19 cd19 ct19 oc20 kV20 dc20 pm20 cd20 ct20 oc21 kV21 dc21 pm21 cd21 ct21 oc22 kV22 dc22 pm22 cd22 ct22 oc23 kV23 dc23 pm23 cd23 ct23 oc24 kV24 dc24 pm24 cd24 ct24 oc25 kV25 dc25 pm25 cd25 ct25 oc26 kV26 dc26 pm26 cd26 ct26 oc27 kV27 dc27 pm27 cd27 ct27 oc28 kV28 dc28 pm28 cd28 ct28 oc29 kV29 dc29 pm29 cd29 ct29 oc30 kV30 dc30 pm30 cd30 ct30 oc31 kV31 dc31 pm31 cd31 ct31 oc32 kV32 dc32 pm32 cd32 ct32 oc33 kV33 dc33 pm33 cd33 ct33 oc34 kV34 dc34 pm34 cd34 ct34 oc35 kV35 dc35 pm35 cd35 ct35 oc36 kV36 dc36 pm36 cd36 ct36 oc37 kV37 dc37 pm37 cd37 ct37 oc38 kV38 dc38 pm38 cd38 ct38 oc39 kV39 dc39 pm39 cd39 ct39 oc40 kV40 dc40 pm40 cd40 ct40 oc41 kV41 dc41 pm41 cd41 ct41 oc42 kV42 dc42 pm42 cd42 ct42 oc43 kV43 dc43 pm43 cd43 ct43 oc44 kV44 dc44 pm44 cd44 ct44 oc45 kV45 dc45 pm45 cd45 ct45 u0 u1 oc_e kV_e dc_e pm_e cd_e ct_e oc_f kV_f dc_f pm_f cd_f ct_f oc_12 kV_12 dc_12 pm_12 cd_12 ct_12 oc_0 kV_0 dc_0 pm_0 cd_0 ct_0 oc_c kV_c dc_c pm_c cd_c ct_c oc_11 kV_11 dc_11 pm_11 cd_11 ct_11 oc_d kV_d dc_d pm_d cd_d ct_d oc_6 kV_6 dc_6 pm_6 cd_6 ct_6 oc_13 kV_13 dc_13 pm_13 cd_13 ct_13 oc_2 kV_2 dc_2 pm_2 cd_2 ct_2 oc_14 kV_14 dc_14 pm_14 cd_14 ct_14 oc_3 kV_3 dc_3 pm_3 cd_3 ct_3 oc_16 kV_16 dc_16 pm_16 cd_16 ct_16 oc_5 kV_5 dc_5 pm_5 cd_5 ct_5 oc_15 kV_15 dc_15 pm_15 cd_15 ct_15 oc_4 kV_4 dc_4 pm_4 cd_4 ct_4 oc_1 kV_1 dc_1 pm_1 cd_1 ct_1 oc_a kV_a dc_a pm_a cd_a ct_a oc_8 kV_8 dc_8 pm_8 cd_8 ct_8 oc_7 kV_7 dc_7 pm_7 cd_7 ct_7 oc_b kV_b dc_b pm_b cd_b ct_b oc_10 kV_10 dc_10 pm_10 cd_10 ct_10 lo_17 lo_18 lo_19:Value}{lvs_17 lvs_18 lvs_19:Array Value}(X:K.In h) (G:h.Ns mainGlobals mg)
  (a0:nsIn K mainGlobals "greatest_divisor" = some (some (.ref f0))) (l0:K.lookup f0=some ⟨oc0,od0,.func (fnOf "greatest_divisor" "greatest_divisor" (ai aF) (ah aF) (ad aF) .none kV0 dc0 pm0 an0 cd0 ct0),sl0⟩) (c0:codeIn K cd0 "greatest_divisor" = true) (k0:keepIn K (.ref f0)=true)
  (a1:nsIn K mainGlobals "least_multiple" = some (some (.ref f1))) (l1:K.lookup f1=some ⟨oc1,od1,.func (fnOf "least_multiple" "least_multiple" (ai aN) (ah aN) (ad aN) .none kV1 dc1 pm1 an1 cd1 ct1),sl1⟩) (c1:codeIn K cd1 "least_multiple" = true) (k1:keepIn K (.ref f1)=true)
  (a2:nsIn K mainGlobals "share" = some (some (.ref f2))) (l2:K.lookup f2=some ⟨oc2,od2,.func (fnOf "share" "share" (ai dC) (ah dC) (ad dC) .none kV2 dc2 pm2 an2 cd2 ct2),sl2⟩) (c2:codeIn K cd2 "share" = true) (k2:keepIn K (.ref f2)=true)
  (a3:nsIn K mainGlobals "plus" = some (some (.ref f3))) (l3:K.lookup f3=some ⟨oc3,od3,.func (fnOf "plus" "plus" (ai eL) (ah eL) (ad eL) .none kV3 dc3 pm3 an3 cd3 ct3),sl3⟩) (c3:codeIn K cd3 "plus" = true) (k3:keepIn K (.ref f3)=true)
  (a4:nsIn K mainGlobals "minus" = some (some (.ref f4))) (l4:K.lookup f4=some ⟨oc4,od4,.func (fnOf "minus" "minus" (ai dz) (ah dz) (ad dz) .none kV4 dc4 pm4 an4 cd4 ct4),sl4⟩) (c4:codeIn K cd4 "minus" = true) (k4:keepIn K (.ref f4)=true)
  (a5:nsIn K mainGlobals "times" = some (some (.ref f5))) (l5:K.lookup f5=some ⟨oc5,od5,.func (fnOf "times" "times" (ai dD) (ah dD) (ad dD) .none kV5 dc5 pm5 an5 cd5 ct5),sl5⟩) (c5:codeIn K cd5 "times" = true) (k5:keepIn K (.ref f5)=true)
  (a6:nsIn K mainGlobals "over" = some (some (.ref f6))) (l6:K.lookup f6=some ⟨oc6,od6,.func (fnOf "over" "over" (ai eI) (ah eI) (ad eI) .none kV6 dc6 pm6 an6 cd6 ct6),sl6⟩) (c6:codeIn K cd6 "over" = true) (k6:keepIn K (.ref f6)=true)
  (a7:nsIn K mainGlobals "below" = some (some (.ref f7))) (l7:K.lookup f7=some ⟨oc7,od7,.func (fnOf "below" "below" (ai dH) (ah dH) (ad dH) .none kV7 dc7 pm7 an7 cd7 ct7),sl7⟩) (c7:codeIn K cd7 "below" = true) (k7:keepIn K (.ref f7)=true)
  (a8:nsIn K mainGlobals "is_whole" = some (some (.ref f8))) (l8:K.lookup f8=some ⟨oc8,od8,.func (fnOf "is_whole" "is_whole" (ai cf) (ah cf) (ad cf) .none kV8 dc8 pm8 an8 cd8 ct8),sl8⟩) (c8:codeIn K cd8 "is_whole" = true) (k8:keepIn K (.ref f8)=true)
  (a9:nsIn K mainGlobals "can_be_thrown" = some (some (.ref f9))) (l9:K.lookup f9=some ⟨oc9,od9,.func (fnOf "can_be_thrown" "can_be_thrown" (ai aT) (ah aT) (ad aT) .none kV9 dc9 pm9 an9 cd9 ct9),sl9⟩) (c9:codeIn K cd9 "can_be_thrown" = true) (k9:keepIn K (.ref f9)=true)
  (a10:nsIn K mainGlobals "drawn" = some (some (.ref f10))) (l10:K.lookup f10=some ⟨oc10,od10,.func (fnOf "drawn" "drawn" (ai dw) (ah dw) (ad dw) .none kV10 dc10 pm10 an10 cd10 ct10),sl10⟩) (c10:codeIn K cd10 "drawn" = true) (k10:keepIn K (.ref f10)=true)
  (a11:nsIn K mainGlobals "wished" = some (some (.ref f11))) (l11:K.lookup f11=some ⟨oc11,od11,.func (fnOf "wished" "wished" (ai cU) (ah cU) (ad cU) .none kV11 dc11 pm11 an11 cd11 ct11),sl11⟩) (c11:codeIn K cd11 "wished" = true) (k11:keepIn K (.ref f11)=true)
  (a12:nsIn K mainGlobals "wished_of_some" = some (some (.ref f12))) (l12:K.lookup f12=some ⟨oc12,od12,.func (fnOf "wished_of_some" "wished_of_some" (ai aO) (ah aO) (ad aO) .none kV12 dc12 pm12 an12 cd12 ct12),sl12⟩) (c12:codeIn K cd12 "wished_of_some" = true) (k12:keepIn K (.ref f12)=true)
  (a13:nsIn K mainGlobals "wished_by" = some (some (.ref f13))) (l13:K.lookup f13=some ⟨oc13,od13,.func (fnOf "wished_by" "wished_by" (ai bO) (ah bO) (ad bO) .none kV13 dc13 pm13 an13 cd13 ct13),sl13⟩) (c13:codeIn K cd13 "wished_by" = true) (k13:keepIn K (.ref f13)=true)
  (a14:nsIn K mainGlobals "places_of" = some (some (.ref f14))) (l14:K.lookup f14=some ⟨oc14,od14,.func (fnOf "places_of" "places_of" (ai bV) (ah bV) (ad bV) .none kV14 dc14 pm14 an14 cd14 ct14),sl14⟩) (c14:codeIn K cd14 "places_of" = true) (k14:keepIn K (.ref f14)=true)
  (a15:nsIn K mainGlobals "matrix_by" = some (some (.ref f15))) (l15:K.lookup f15=some ⟨oc15,od15,.func (fnOf "matrix_by" "matrix_by" (ai bY) (ah bY) (ad bY) .none kV15 dc15 pm15 an15 cd15 ct15),sl15⟩) (c15:codeIn K cd15 "matrix_by" = true) (k15:keepIn K (.ref f15)=true)
  (a16:nsIn K mainGlobals "matrix_row" = some (some (.ref f16))) (l16:K.lookup f16=some ⟨oc16,od16,.func (fnOf "matrix_row" "matrix_row" (ai bG) (ah bG) (ad bG) .none kV16 dc16 pm16 an16 cd16 ct16),sl16⟩) (c16:codeIn K cd16 "matrix_row" = true) (k16:keepIn K (.ref f16)=true)
  (a17:nsIn K mainGlobals "need_number" = some (some (.ref f17))) (l17:K.lookup f17=some ⟨oc17,od17,.func (fnOf "need_number" "need_number" (ai bt) (ah bt) (ad bt) .none kV17 dc17 pm17 an17 cd17 ct17),sl17⟩) (c17:codeIn K cd17 "need_number" = true) (k17:keepIn K (.ref f17)=true)
  (a18:nsIn K mainGlobals "is_unsure" = some (some (.ref f18))) (l18:K.lookup f18=some ⟨oc18,od18,.func (fnOf "is_unsure" "is_unsure" (ai bQ) (ah bQ) (ad bQ) .none kV18 dc18 pm18 an18 cd18 ct18),sl18⟩) (c18:codeIn K cd18 "is_unsure" = true) (k18:keepIn K (.ref f18)=true)
  (a19:nsIn K mainGlobals "settled" = some (some (.ref f19))) (l19:K.lookup f19=some ⟨oc19,od19,.func (fnOf "settled" "settled" (ai cD) (ah cD) (ad cD) .none kV19 dc19 pm19 an19 cd19 ct19),sl19⟩) (c19:codeIn K cd19 "settled" = true) (k19:keepIn K (.ref f19)=true)
  (a20:nsIn K mainGlobals "open_node" = some (some (.ref f20))) (l20:K.lookup f20=some ⟨oc20,od20,.func (fnOf "open_node" "open_node" (ai bP) (ah bP) (ad bP) .none kV20 dc20 pm20 an20 cd20 ct20),sl20⟩) (c20:codeIn K cd20 "open_node" = true) (k20:keepIn K (.ref f20)=true)
  (a21:nsIn K mainGlobals "settled_make" = some (some (.ref f21))) (l21:K.lookup f21=some ⟨oc21,od21,.func (fnOf "settled_make" "settled_make" (ai aQ) (ah aQ) (ad aQ) .none kV21 dc21 pm21 an21 cd21 ct21),sl21⟩) (c21:codeIn K cd21 "settled_make" = true) (k21:keepIn K (.ref f21)=true)
  (a22:nsIn K mainGlobals "last_die" = some (some (.ref f22))) (l22:K.lookup f22=some ⟨oc22,od22,.func (fnOf "last_die" "last_die" (ai bK) (ah bK) (ad bK) .none kV22 dc22 pm22 an22 cd22 ct22),sl22⟩) (c22:codeIn K cd22 "last_die" = true) (k22:keepIn K (.ref f22)=true)
  (a23:nsIn K mainGlobals "duel_parts" = some (some (.ref f23))) (l23:K.lookup f23=some ⟨oc23,od23,.func (fnOf "duel_parts" "duel_parts" (ai bE) (ah bE) (ad bE) .none kV23 dc23 pm23 an23 cd23 ct23),sl23⟩) (c23:codeIn K cd23 "duel_parts" = true) (k23:keepIn K (.ref f23)=true)
  (a24:nsIn K mainGlobals "duel_matrix" = some (some (.ref f24))) (l24:K.lookup f24=some ⟨oc24,od24,.func (fnOf "duel_matrix" "duel_matrix" (ai be) (ah be) (ad be) .none kV24 dc24 pm24 an24 cd24 ct24),sl24⟩) (c24:codeIn K cd24 "duel_matrix" = true) (k24:keepIn K (.ref f24)=true)
  (a25:nsIn K mainGlobals "pair_chance" = some (some (.ref f25))) (l25:K.lookup f25=some ⟨oc25,od25,.func (fnOf "pair_chance" "pair_chance" (ai bw) (ah bw) (ad bw) .none kV25 dc25 pm25 an25 cd25 ct25),sl25⟩) (c25:codeIn K cd25 "pair_chance" = true) (k25:keepIn K (.ref f25)=true)
  (a26:nsIn K mainGlobals "kept_together" = some (some (.ref f26))) (l26:K.lookup f26=some ⟨oc26,od26,.func (fnOf "kept_together" "kept_together" (ai aS) (ah aS) (ad aS) .none kV26 dc26 pm26 an26 cd26 ct26),sl26⟩) (c26:codeIn K cd26 "kept_together" = true) (k26:keepIn K (.ref f26)=true)
  (a27:nsIn K mainGlobals "both_kept" = some (some (.ref f27))) (l27:K.lookup f27=some ⟨oc27,od27,.func (fnOf "both_kept" "both_kept" (ai bM) (ah bM) (ad bM) .none kV27 dc27 pm27 an27 cd27 ct27),sl27⟩) (c27:codeIn K cd27 "both_kept" = true) (k27:keepIn K (.ref f27)=true)
  (a28:nsIn K mainGlobals "held_behind" = some (some (.ref f28))) (l28:K.lookup f28=some ⟨oc28,od28,.func (fnOf "held_behind" "held_behind" (ai bp) (ah bp) (ad bp) .none kV28 dc28 pm28 an28 cd28 ct28),sl28⟩) (c28:codeIn K cd28 "held_behind" = true) (k28:keepIn K (.ref f28)=true)
  (a29:nsIn K mainGlobals "behind_duel" = some (some (.ref f29))) (l29:K.lookup f29=some ⟨oc29,od29,.func (fnOf "behind_duel" "behind_duel" (ai bn) (ah bn) (ad bn) .none kV29 dc29 pm29 an29 cd29 ct29),sl29⟩) (c29:codeIn K cd29 "behind_duel" = true) (k29:keepIn K (.ref f29)=true)
  (a30:nsIn K mainGlobals "_law_cell" = some (some (.ref f30))) (l30:K.lookup f30=some ⟨oc30,od30,.func (fnOf "_law_cell" "_law_cell" (ai cR) (ah cR) (ad cR) .none kV30 dc30 pm30 an30 cd30 ct30),sl30⟩) (c30:codeIn K cd30 "_law_cell" = true) (k30:keepIn K (.ref f30)=true)
  (a31:nsIn K mainGlobals "_law_mix" = some (some (.ref f31))) (l31:K.lookup f31=some ⟨oc31,od31,.func (fnOf "_law_mix" "_law_mix" (ai dy) (ah dy) (ad dy) .none kV31 dc31 pm31 an31 cd31 ct31),sl31⟩) (c31:codeIn K cd31 "_law_mix" = true) (k31:keepIn K (.ref f31)=true)
  (a32:nsIn K mainGlobals "_law_row" = some (some (.ref f32))) (l32:K.lookup f32=some ⟨oc32,od32,.func (fnOf "_law_row" "_law_row" (ai dI) (ah dI) (ad dI) .none kV32 dc32 pm32 an32 cd32 ct32),sl32⟩) (c32:codeIn K cd32 "_law_row" = true) (k32:keepIn K (.ref f32)=true)
  (a33:nsIn K mainGlobals "_law_whole" = some (some (.ref f33))) (l33:K.lookup f33=some ⟨oc33,od33,.func (fnOf "_law_whole" "_law_whole" (ai cF) (ah cF) (ad cF) .none kV33 dc33 pm33 an33 cd33 ct33),sl33⟩) (c33:codeIn K cd33 "_law_whole" = true) (k33:keepIn K (.ref f33)=true)
  (a34:nsIn K mainGlobals "_law_low" = some (some (.ref f34))) (l34:K.lookup f34=some ⟨oc34,od34,.func (fnOf "_law_low" "_law_low" (ai dB) (ah dB) (ad dB) .none kV34 dc34 pm34 an34 cd34 ct34),sl34⟩) (c34:codeIn K cd34 "_law_low" = true) (k34:keepIn K (.ref f34)=true)
  (a35:nsIn K mainGlobals "_law_common" = some (some (.ref f35))) (l35:K.lookup f35=some ⟨oc35,od35,.func (fnOf "_law_common" "_law_common" (ai cg) (ah cg) (ad cg) .none kV35 dc35 pm35 an35 cd35 ct35),sl35⟩) (c35:codeIn K cd35 "_law_common" = true) (k35:keepIn K (.ref f35)=true)
  (a36:nsIn K mainGlobals "_law_crowd" = some (some (.ref f36))) (l36:K.lookup f36=some ⟨oc36,od36,.func (fnOf "_law_crowd" "_law_crowd" (ai cE) (ah cE) (ad cE) .none kV36 dc36 pm36 an36 cd36 ct36),sl36⟩) (c36:codeIn K cd36 "_law_crowd" = true) (k36:keepIn K (.ref f36)=true)
  (a37:nsIn K mainGlobals "_law_wished" = some (some (.ref f37))) (l37:K.lookup f37=some ⟨oc37,od37,.func (fnOf "_law_wished" "_law_wished" (ai ci) (ah ci) (ad ci) .none kV37 dc37 pm37 an37 cd37 ct37),sl37⟩) (c37:codeIn K cd37 "_law_wished" = true) (k37:keepIn K (.ref f37)=true)
  (a38:nsIn K mainGlobals "_law_duel" = some (some (.ref f38))) (l38:K.lookup f38=some ⟨oc38,od38,.func (fnOf "_law_duel" "_law_duel" (ai cV) (ah cV) (ad cV) .none kV38 dc38 pm38 an38 cd38 ct38),sl38⟩) (c38:codeIn K cd38 "_law_duel" = true) (k38:keepIn K (.ref f38)=true)
  (a39:nsIn K mainGlobals "_law_walk" = some (some (.ref f39))) (l39:K.lookup f39=some ⟨oc39,od39,.func (fnOf "_law_walk" "_law_walk" (ai cX) (ah cX) (ad cX) .none kV39 dc39 pm39 an39 cd39 ct39),sl39⟩) (c39:codeIn K cd39 "_law_walk" = true) (k39:keepIn K (.ref f39)=true)
  (a40:nsIn K mainGlobals "_law_thrown" = some (some (.ref f40))) (l40:K.lookup f40=some ⟨oc40,od40,.func (fnOf "_law_thrown" "_law_thrown" (ai cj) (ah cj) (ad cj) .none kV40 dc40 pm40 an40 cd40 ct40),sl40⟩) (c40:codeIn K cd40 "_law_thrown" = true) (k40:keepIn K (.ref f40)=true)
  (a41:nsIn K mainGlobals "_law_thing" = some (some (.ref f41))) (l41:K.lookup f41=some ⟨oc41,od41,.func (fnOf "_law_thing" "_law_thing" (ai cG) (ah cG) (ad cG) .none kV41 dc41 pm41 an41 cd41 ct41),sl41⟩) (c41:codeIn K cd41 "_law_thing" = true) (k41:keepIn K (.ref f41)=true)
  (a42:nsIn K mainGlobals "_law_refused" = some (some (.ref f42))) (l42:K.lookup f42=some ⟨oc42,od42,.func (fnOf "_law_refused" "_law_refused" (ai bX) (ah bX) (ad bX) .none kV42 dc42 pm42 an42 cd42 ct42),sl42⟩) (c42:codeIn K cd42 "_law_refused" = true) (k42:keepIn K (.ref f42)=true)
  (a43:nsIn K mainGlobals "_law_kind" = some (some (.ref f43))) (l43:K.lookup f43=some ⟨oc43,od43,.func (fnOf "_law_kind" "_law_kind" (ai cS) (ah cS) (ad cS) .none kV43 dc43 pm43 an43 cd43 ct43),sl43⟩) (c43:codeIn K cd43 "_law_kind" = true) (k43:keepIn K (.ref f43)=true)
  (a44:nsIn K mainGlobals "_law_due" = some (some (.ref f44))) (l44:K.lookup f44=some ⟨oc44,od44,.func (fnOf "_law_due" "_law_due" (ai dJ) (ah dJ) (ad dJ) .none kV44 dc44 pm44 an44 cd44 ct44),sl44⟩) (c44:codeIn K cd44 "_law_due" = true) (k44:keepIn K (.ref f44)=true)
  (a45:nsIn K mainGlobals "law" = some (some (.ref f45))) (l45:K.lookup f45=some ⟨oc45,od45,.func (fnOf "law" "law" (ai gy) (ah gy) (ad gy) .none kV45 dc45 pm45 an45 cd45 ct45),sl45⟩) (c45:codeIn K cd45 "law" = true) (k45:keepIn K (.ref f45)=true)
  (b_NOUGHT:nsIn K mainGlobals "NOUGHT" = some (some (.ref k_NOUGHT))) (bt_NOUGHT:gK K k_NOUGHT [(.int 0),(.int 1)]=true)
  (b_WHOLE:nsIn K mainGlobals "WHOLE" = some (some (.ref k_WHOLE))) (bt_WHOLE:gK K k_WHOLE [(.int 1),(.int 1)]=true)
  (b_TWICE:nsIn K mainGlobals "TWICE" = some (some (.ref k_TWICE))) (bt_TWICE:gK K k_TWICE [(.int 2),(.int 1)]=true)
  (b0:nsIn K mainGlobals "MOST_MANY" = some (some u0))
  (b1:nsIn K mainGlobals "MOST_STEP" = some (some u1))
  (ca_ad:nsIn K mainGlobals "SpeakError" = some (some (.ref c_ad))) (cb_ad:keepIn K (.ref c_ad)=true) (cc_ad:mP K c_ad=true)
  (cx_ad:xIn K c_ad none=true)
  (ca_f:nsIn K mainGlobals "NoPlan" = some (some (.ref c_f))) (cb_f:keepIn K (.ref c_f)=true) (cc_f:mP K c_f=true)
  (cf_f:findIn K (.ref c_f) "__init__" = some (some (.ref i_f))) (cx_f:xIn K c_f (some (.ref i_f))=true) (cg_f:isFn K (.ref i_f)=true)
  (cl_f:K.lookup i_f=some ⟨oc_e,od_e,.func (fnOf "__init__" "NoPlan.__init__" (ai aI) (ah aI) (ad aI) .none kV_e dc_e pm_e an_e cd_e ct_e),sl_e⟩) (co_f:codeIn K cd_e "NoPlan.__init__" = true) (ck_f:keepIn K (.ref i_f)=true)
  (cs_NoPlan_place:uQ K c_f "place" = true)
  (ca_y:nsIn K mainGlobals "NoThrow" = some (some (.ref c_y))) (cb_y:keepIn K (.ref c_y)=true) (cc_y:mP K c_y=true)
  (cf_y:findIn K (.ref c_y) "__init__" = some (some (.ref i_y))) (cx_y:xIn K c_y (some (.ref i_y))=true) (cg_y:isFn K (.ref i_y)=true)
  (cl_y:K.lookup i_y=some ⟨oc_f,od_f,.func (fnOf "__init__" "NoThrow.__init__" (ai bC) (ah bC) (ad bC) .none kV_f dc_f pm_f an_f cd_f ct_f),sl_f⟩) (co_y:codeIn K cd_f "NoThrow.__init__" = true) (ck_y:keepIn K (.ref i_y)=true)
  (cs_NoThrow_place:uQ K c_y "place" = true)
  (ca_ao:nsIn K mainGlobals "Node" = some (some (.ref c_ao))) (pa_ao:plainGet K c_ao Str.empty=true) (pb_ao:hasDictIn K c_ao=true) (pc_ao:plainOver K c_ao=true)
  (pd_ao:findIn K (.ref c_ao) "__setattr__" = some (some (.builtin "object.__setattr__"))) (pe_ao:findIn K (.ref c_ao) "__class__" = some (some (.builtin "object.__class__"))) (pf_ao:specialIn K (.builtin "object.__class__") "__get__" = some (some (.builtin "getset_descriptor.__get__"))) (pg_ao:takesIn K (.builtin "object.__class__")=some true) (ph_ao:mroIn K c_ao (.type "object")=some true)
  (ca_g:nsIn K mainGlobals "Told" = some (some (.ref c_g))) (pa_g:plainGet K c_g Str.empty=true) (pb_g:hasDictIn K c_g=true) (pc_g:plainOver K c_g=true)
  (pd_g:findIn K (.ref c_g) "__setattr__" = some (some (.builtin "object.__setattr__"))) (pe_g:findIn K (.ref c_g) "__class__" = some (some (.builtin "object.__class__"))) (pf_g:specialIn K (.builtin "object.__class__") "__get__" = some (some (.builtin "getset_descriptor.__get__"))) (pg_g:takesIn K (.builtin "object.__class__")=some true) (ph_g:mroIn K c_g (.type "object")=some true)
  (qa_g:makesIn K c_g=true) (qb_g:findIn K (.ref c_g) "__init__" = some (some (.ref i_g))) (qc_g:isFn K (.ref i_g)=true) (qd_g:keepIn K (.ref c_g)=true)
  (qn_Told_rising:findIn K (.ref c_g) "rising" = some none)
  (cl_g:K.lookup i_g=some ⟨oc_12,od_12,.func (fnOf "__init__" "Told.__init__" (ai aU) (ah aU) (ad aU) .none kV_12 dc_12 pm_12 an_12 cd_12 ct_12),sl_12⟩) (co_g:codeIn K cd_12 "Told.__init__" = true) (ck_g:keepIn K (.ref i_g)=true)
  (ca_i:nsIn K mainGlobals "Die" = some (some (.ref c_i))) (pa_i:plainGet K c_i Str.empty=true) (pb_i:hasDictIn K c_i=true) (pc_i:plainOver K c_i=true)
  (pd_i:findIn K (.ref c_i) "__setattr__" = some (some (.builtin "object.__setattr__"))) (pe_i:findIn K (.ref c_i) "__class__" = some (some (.builtin "object.__class__"))) (pf_i:specialIn K (.builtin "object.__class__") "__get__" = some (some (.builtin "getset_descriptor.__get__"))) (pg_i:takesIn K (.builtin "object.__class__")=some true) (ph_i:mroIn K c_i (.type "object")=some true)
  (qa_i:makesIn K c_i=true) (qb_i:findIn K (.ref c_i) "__init__" = some (some (.ref i_i))) (qc_i:isFn K (.ref i_i)=true) (qd_i:keepIn K (.ref c_i)=true)
  (qn_Die_makes:findIn K (.ref c_i) "makes" = some none)
  (cl_i:K.lookup i_i=some ⟨oc_0,od_0,.func (fnOf "__init__" "Die.__init__" (ai ba) (ah ba) (ad ba) .none kV_0 dc_0 pm_0 an_0 cd_0 ct_0),sl_0⟩) (co_i:codeIn K cd_0 "Die.__init__" = true) (ck_i:keepIn K (.ref i_i)=true)
  (ca_ai:nsIn K mainGlobals "Plan" = some (some (.ref c_ai))) (pa_ai:plainGet K c_ai Str.empty=true) (pb_ai:hasDictIn K c_ai=true) (pc_ai:plainOver K c_ai=true)
  (pd_ai:findIn K (.ref c_ai) "__setattr__" = some (some (.builtin "object.__setattr__"))) (pe_ai:findIn K (.ref c_ai) "__class__" = some (some (.builtin "object.__class__"))) (pf_ai:specialIn K (.builtin "object.__class__") "__get__" = some (some (.builtin "getset_descriptor.__get__"))) (pg_ai:takesIn K (.builtin "object.__class__")=some true) (ph_ai:mroIn K c_ai (.type "object")=some true)
  (ca_N:nsIn K mainGlobals "Few" = some (some (.ref c_N))) (pa_N:plainGet K c_N Str.empty=true) (pb_N:hasDictIn K c_N=true) (pc_N:plainOver K c_N=true)
  (pd_N:findIn K (.ref c_N) "__setattr__" = some (some (.builtin "object.__setattr__"))) (pe_N:findIn K (.ref c_N) "__class__" = some (some (.builtin "object.__class__"))) (pf_N:specialIn K (.builtin "object.__class__") "__get__" = some (some (.builtin "getset_descriptor.__get__"))) (pg_N:takesIn K (.builtin "object.__class__")=some true) (ph_N:mroIn K c_N (.type "object")=some true)
  (qa_N:makesIn K c_N=true) (qb_N:findIn K (.ref c_N) "__init__" = some (some (.ref i_N))) (qc_N:isFn K (.ref i_N)=true) (qd_N:keepIn K (.ref c_N)=true)
  (qn_Few_many:findIn K (.ref c_N) "many" = some none)
  (cl_N:K.lookup i_N=some ⟨oc_c,od_c,.func (fnOf "__init__" "Few.__init__" (ai cz) (ah cz) (ad cz) .none kV_c dc_c pm_c an_c cd_c ct_c),sl_c⟩) (co_N:codeIn K cd_c "Few.__init__" = true) (ck_N:keepIn K (.ref i_N)=true)
  (ca_n:nsIn K mainGlobals "Start" = some (some (.ref c_n))) (pa_n:plainGet K c_n Str.empty=true) (pb_n:hasDictIn K c_n=true) (pc_n:plainOver K c_n=true)
  (pd_n:findIn K (.ref c_n) "__setattr__" = some (some (.builtin "object.__setattr__"))) (pe_n:findIn K (.ref c_n) "__class__" = some (some (.builtin "object.__class__"))) (pf_n:specialIn K (.builtin "object.__class__") "__get__" = some (some (.builtin "getset_descriptor.__get__"))) (pg_n:takesIn K (.builtin "object.__class__")=some true) (ph_n:mroIn K c_n (.type "object")=some true)
  (qa_n:makesIn K c_n=true) (qb_n:findIn K (.ref c_n) "__init__" = some (some (.ref i_n))) (qc_n:isFn K (.ref i_n)=true) (qd_n:keepIn K (.ref c_n)=true)
  (qn_Start_step:findIn K (.ref c_n) "step" = some none)
  (cl_n:K.lookup i_n=some ⟨oc_11,od_11,.func (fnOf "__init__" "Start.__init__" (ai b7) (ah b7) (ad b7) .none kV_11 dc_11 pm_11 an_11 cd_11 ct_11),sl_11⟩) (co_n:codeIn K cd_11 "Start.__init__" = true) (ck_n:keepIn K (.ref i_n)=true)
  (ca_o:nsIn K mainGlobals "Loose" = some (some (.ref c_o))) (pa_o:plainGet K c_o Str.empty=true) (pb_o:hasDictIn K c_o=true) (pc_o:plainOver K c_o=true)
  (pd_o:findIn K (.ref c_o) "__setattr__" = some (some (.builtin "object.__setattr__"))) (pe_o:findIn K (.ref c_o) "__class__" = some (some (.builtin "object.__class__"))) (pf_o:specialIn K (.builtin "object.__class__") "__get__" = some (some (.builtin "getset_descriptor.__get__"))) (pg_o:takesIn K (.builtin "object.__class__")=some true) (ph_o:mroIn K c_o (.type "object")=some true)
  (qa_o:makesIn K c_o=true) (qb_o:findIn K (.ref c_o) "__init__" = some (some (.ref i_o))) (qc_o:isFn K (.ref i_o)=true) (qd_o:keepIn K (.ref c_o)=true)
  (qn_Loose_many:findIn K (.ref c_o) "many" = some none)
  (cl_o:K.lookup i_o=some ⟨oc_d,od_d,.func (fnOf "__init__" "Loose.__init__" (ai b8) (ah b8) (ad b8) .none kV_d dc_d pm_d an_d cd_d ct_d),sl_d⟩) (co_o:codeIn K cd_d "Loose.__init__" = true) (ck_o:keepIn K (.ref i_o)=true)
  (ca_c:nsIn K mainGlobals "Duel" = some (some (.ref c_c))) (pa_c:plainGet K c_c Str.empty=true) (pb_c:hasDictIn K c_c=true) (pc_c:plainOver K c_c=true)
  (pd_c:findIn K (.ref c_c) "__setattr__" = some (some (.builtin "object.__setattr__"))) (pe_c:findIn K (.ref c_c) "__class__" = some (some (.builtin "object.__class__"))) (pf_c:specialIn K (.builtin "object.__class__") "__get__" = some (some (.builtin "getset_descriptor.__get__"))) (pg_c:takesIn K (.builtin "object.__class__")=some true) (ph_c:mroIn K c_c (.type "object")=some true)
  (qa_c:makesIn K c_c=true) (qb_c:findIn K (.ref c_c) "__init__" = some (some (.ref i_c))) (qc_c:isFn K (.ref i_c)=true) (qd_c:keepIn K (.ref c_c)=true)
  (qn_Duel_many:findIn K (.ref c_c) "many" = some none)
  (cl_c:K.lookup i_c=some ⟨oc_6,od_6,.func (fnOf "__init__" "Duel.__init__" (ai aV) (ah aV) (ad aV) .none kV_6 dc_6 pm_6 an_6 cd_6 ct_6),sl_6⟩) (co_c:codeIn K cd_6 "Duel.__init__" = true) (ck_c:keepIn K (.ref i_c)=true)
  (mf_13:findIn K (.ref c_g) "is_told" = some (some (.ref x_p)))
  (ml_13:K.lookup x_p=some ⟨oc_13,od_13,.func (fnOf "is_told" "Told.is_told" (ai aZ) (ah aZ) (ad aZ) .none kV_13 dc_13 pm_13 an_13 cd_13 ct_13),sl_13⟩) (mo_13:codeIn K cd_13 "Told.is_told" = true) (mk_13:keepIn K (.ref x_p)=true) (mi_13:isFn K (.ref x_p)=true)
  (mf_2:findIn K (.ref c_i) "is_told" = some (some (.ref x_s)))
  (ml_2:K.lookup x_s=some ⟨oc_2,od_2,.func (fnOf "is_told" "Die.is_told" (ai bv) (ah bv) (ad bv) .none kV_2 dc_2 pm_2 an_2 cd_2 ct_2),sl_2⟩) (mo_2:codeIn K cd_2 "Die.is_told" = true) (mk_2:keepIn K (.ref x_s)=true) (mi_2:isFn K (.ref x_s)=true)
  (mf_14:findIn K (.ref c_g) "kept" = some (some (.ref x_C)))
  (ml_14:K.lookup x_C=some ⟨oc_14,od_14,.func (fnOf "kept" "Told.kept" (ai bZ) (ah bZ) (ad bZ) .none kV_14 dc_14 pm_14 an_14 cd_14 ct_14),sl_14⟩) (mo_14:codeIn K cd_14 "Told.kept" = true) (mk_14:keepIn K (.ref x_C)=true) (mi_14:isFn K (.ref x_C)=true)
  (mf_3:findIn K (.ref c_i) "kept" = some (some (.ref x_I)))
  (ml_3:K.lookup x_I=some ⟨oc_3,od_3,.func (fnOf "kept" "Die.kept" (ai ck) (ah ck) (ad ck) .none kV_3 dc_3 pm_3 an_3 cd_3 ct_3),sl_3⟩) (mo_3:codeIn K cd_3 "Die.kept" = true) (mk_3:keepIn K (.ref x_I)=true) (mi_3:isFn K (.ref x_I)=true)
  (mf_16:findIn K (.ref c_g) "sides" = some (some (.ref x_x)))
  (ml_16:K.lookup x_x=some ⟨oc_16,od_16,.func (fnOf "sides" "Told.sides" (ai bF) (ah bF) (ad bF) .none kV_16 dc_16 pm_16 an_16 cd_16 ct_16),sl_16⟩) (mo_16:codeIn K cd_16 "Told.sides" = true) (mk_16:keepIn K (.ref x_x)=true) (mi_16:isFn K (.ref x_x)=true)
  (mf_5:findIn K (.ref c_i) "sides" = some (some (.ref x_D)))
  (ml_5:K.lookup x_D=some ⟨oc_5,od_5,.func (fnOf "sides" "Die.sides" (ai bR) (ah bR) (ad bR) .none kV_5 dc_5 pm_5 an_5 cd_5 ct_5),sl_5⟩) (mo_5:codeIn K cd_5 "Die.sides" = true) (mk_5:keepIn K (.ref x_D)=true) (mi_5:isFn K (.ref x_D)=true)
  (mf_15:findIn K (.ref c_g) "parts" = some (some (.ref x_F)))
  (ml_15:K.lookup x_F=some ⟨oc_15,od_15,.func (fnOf "parts" "Told.parts" (ai bH) (ah bH) (ad bH) .none kV_15 dc_15 pm_15 an_15 cd_15 ct_15),sl_15⟩) (mo_15:codeIn K cd_15 "Told.parts" = true) (mk_15:keepIn K (.ref x_F)=true) (mi_15:isFn K (.ref x_F)=true)
  (mf_4:findIn K (.ref c_i) "parts" = some (some (.ref x_K)))
  (ml_4:K.lookup x_K=some ⟨oc_4,od_4,.func (fnOf "parts" "Die.parts" (ai bW) (ah bW) (ad bW) .none kV_4 dc_4 pm_4 an_4 cd_4 ct_4),sl_4⟩) (mo_4:codeIn K cd_4 "Die.parts" = true) (mk_4:keepIn K (.ref x_K)=true) (mi_4:isFn K (.ref x_K)=true)
  (mf_1:findIn K (.ref c_i) "after" = some (some (.ref x_u)))
  (ml_1:K.lookup x_u=some ⟨oc_1,od_1,.func (fnOf "after" "Die.after" (ai bS) (ah bS) (ad bS) .none kV_1 dc_1 pm_1 an_1 cd_1 ct_1),sl_1⟩) (mo_1:codeIn K cd_1 "Die.after" = true) (mk_1:keepIn K (.ref x_u)=true) (mi_1:isFn K (.ref x_u)=true)
  (mf_a:findIn K (.ref c_c) "node" = some (some (.ref x_L)))
  (ml_a:K.lookup x_L=some ⟨oc_a,od_a,.func (fnOf "node" "Duel.node" (ai bU) (ah bU) (ad bU) .none kV_a dc_a pm_a an_a cd_a ct_a),sl_a⟩) (mo_a:codeIn K cd_a "Duel.node" = true) (mk_a:keepIn K (.ref x_L)=true) (mi_a:isFn K (.ref x_L)=true)
  (mf_8:findIn K (.ref c_c) "matrix" = some (some (.ref x_t)))
  (ml_8:K.lookup x_t=some ⟨oc_8,od_8,.func (fnOf "matrix" "Duel.matrix" (ai bu) (ah bu) (ad bu) .none kV_8 dc_8 pm_8 an_8 cd_8 ct_8),sl_8⟩) (mo_8:codeIn K cd_8 "Duel.matrix" = true) (mk_8:keepIn K (.ref x_t)=true) (mi_8:isFn K (.ref x_t)=true)
  (mf_7:findIn K (.ref c_c) "bounds" = some (some (.ref x_z)))
  (ml_7:K.lookup x_z=some ⟨oc_7,od_7,.func (fnOf "bounds" "Duel.bounds" (ai br) (ah br) (ad br) .none kV_7 dc_7 pm_7 an_7 cd_7 ct_7),sl_7⟩) (mo_7:codeIn K cd_7 "Duel.bounds" = true) (mk_7:keepIn K (.ref x_z)=true) (mi_7:isFn K (.ref x_z)=true)
  (mf_b:findIn K (.ref c_c) "text" = some (some (.ref x_J)))
  (ml_b:K.lookup x_J=some ⟨oc_b,od_b,.func (fnOf "text" "Duel.text" (ai bT) (ah bT) (ad bT) .none kV_b dc_b pm_b an_b cd_b ct_b),sl_b⟩) (mo_b:codeIn K cd_b "Duel.text" = true) (mk_b:keepIn K (.ref x_J)=true) (mi_b:isFn K (.ref x_J)=true)
  (mf_9:findIn K (.ref c_c) "need_levels" = some (some (.ref x_q)))
  (ml_10:K.lookup x_q=some ⟨oc_10,od_10,.func (fnOf "need_levels" "Plan.need_levels" (ai aG) (ah aG) (ad aG) .none kV_10 dc_10 pm_10 an_10 cd_10 ct_10),sl_10⟩) (mo_10:codeIn K cd_10 "Plan.need_levels" = true) (mk_10:keepIn K (.ref x_q)=true) (mi_10:isFn K (.ref x_q)=true)
  (lca_17:cd24=.ref lc_d) (lct_17:K.lookup lc_d=some ⟨lo_17,lod_17,.fields lvs_17,lsl_17⟩) (lcq_17:lvs_17[11]? = some (.ref lp_d)) (lch_d:codeHdIn K lc_d lp_d=true)
  (lca_18:cd22=.ref lc_j) (lct_18:K.lookup lc_j=some ⟨lo_18,lod_18,.fields lvs_18,lsl_18⟩) (lcq_18:lvs_18[11]? = some (.ref lp_j)) (lch_j:codeHdIn K lc_j lp_j=true)
  (lca_19:cd21=.ref lc_e) (lct_19:K.lookup lc_e=some ⟨lo_19,lod_19,.fields lvs_19,lsl_19⟩) (lcq_19:lvs_19[11]? = some (.ref lp_e)) (lch_e:codeHdIn K lc_e lp_e=true)
  (ltnd:([lp_d,lp_j,lp_e]:List Addr).Nodup)
  (fact_tn:qR K c_f c_f=true)
  (fact_kdp:kitOne K (.ref c_c) (.ref c_ai)=some true)
  (fact_kdt:kitAny K (.ref c_c) [.ref c_N,.ref c_o,.ref c_n]=some false)
  (z0:nsIn K mainGlobals "abs" = some none)
  (z1:nsIn K mainGlobals "bool" = some none)
  (z2:nsIn K mainGlobals "enumerate" = some none)
  (z3:nsIn K mainGlobals "int" = some none)
  (z4:nsIn K mainGlobals "isinstance" = some none)
  (z5:nsIn K mainGlobals "len" = some none)
  (z6:nsIn K mainGlobals "list" = some none)
  (z7:nsIn K mainGlobals "min" = some none)
  (z8:nsIn K mainGlobals "range" = some none)
  (z9:nsIn K mainGlobals "sorted" = some none)
  (z10:nsIn K mainGlobals "str" = some none)
  (z11:nsIn K mainGlobals "sum" = some none)
  (z12:nsIn K mainGlobals "tuple" = some none)
  (z13:nsIn K mainGlobals "zip" = some none) (r0:RelV (.int 24) u0) (r1:RelV (.int 100) u1):∃ a:Ad,Txt K mg a∧(tabs a).map (·.1)=[lp_d,lp_j,lp_e]:=by
 refine ⟨{ f_h:=f0,d_h:=fnOf "greatest_divisor" "greatest_divisor" (ai aF) (ah aF) (ad aF) .none kV0 dc0 pm0 an0 cd0 ct0,f_r:=f1,d_r:=fnOf "least_multiple" "least_multiple" (ai aN) (ah aN) (ad aN) .none kV1 dc1 pm1 an1 cd1 ct1,f_E:=f2,d_E:=fnOf "share" "share" (ai dC) (ah dC) (ad dC) .none kV2 dc2 pm2 an2 cd2 ct2,f_ak:=f3,d_ak:=fnOf "plus" "plus" (ai eL) (ah eL) (ad eL) .none kV3 dc3 pm3 an3 cd3 ct3,f_ac:=f4,d_ac:=fnOf "minus" "minus" (ai dz) (ah dz) (ad dz) .none kV4 dc4 pm4 an4 cd4 ct4,f_Y:=f5,d_Y:=fnOf "times" "times" (ai dD) (ah dD) (ad dD) .none kV5 dc5 pm5 an5 cd5 ct5,f_ar:=f6,d_ar:=fnOf "over" "over" (ai eI) (ah eI) (ad eI) .none kV6 dc6 pm6 an6 cd6 ct6,f_al:=f7,d_al:=fnOf "below" "below" (ai dH) (ah dH) (ad dH) .none kV7 dc7 pm7 an7 cd7 ct7,f_T:=f8,d_T:=fnOf "is_whole" "is_whole" (ai cf) (ah cf) (ad cf) .none kV8 dc8 pm8 an8 cd8 ct8,f_v:=f9,d_v:=fnOf "can_be_thrown" "can_be_thrown" (ai aT) (ah aT) (ad aT) .none kV9 dc9 pm9 an9 cd9 ct9,f_aq:=f10,d_aq:=fnOf "drawn" "drawn" (ai dw) (ah dw) (ad dw) .none kV10 dc10 pm10 an10 cd10 ct10,f_as:=f11,d_as:=fnOf "wished" "wished" (ai cU) (ah cU) (ad cU) .none kV11 dc11 pm11 an11 cd11 ct11,f_l:=f12,d_l:=fnOf "wished_of_some" "wished_of_some" (ai aO) (ah aO) (ad aO) .none kV12 dc12 pm12 an12 cd12 ct12,f_P:=f13,d_P:=fnOf "wished_by" "wished_by" (ai bO) (ah bO) (ad bO) .none kV13 dc13 pm13 an13 cd13 ct13,f_ae:=f14,d_ae:=fnOf "places_of" "places_of" (ai bV) (ah bV) (ad bV) .none kV14 dc14 pm14 an14 cd14 ct14,f_af:=f15,d_af:=fnOf "matrix_by" "matrix_by" (ai bY) (ah bY) (ad bY) .none kV15 dc15 pm15 an15 cd15 ct15,f_Z:=f16,d_Z:=fnOf "matrix_row" "matrix_row" (ai bG) (ah bG) (ad bG) .none kV16 dc16 pm16 an16 cd16 ct16,f_R:=f17,d_R:=fnOf "need_number" "need_number" (ai bt) (ah bt) (ad bt) .none kV17 dc17 pm17 an17 cd17 ct17,f_Q:=f18,d_Q:=fnOf "is_unsure" "is_unsure" (ai bQ) (ah bQ) (ad bQ) .none kV18 dc18 pm18 an18 cd18 ct18,f_X:=f19,d_X:=fnOf "settled" "settled" (ai cD) (ah cD) (ad cD) .none kV19 dc19 pm19 an19 cd19 ct19,f_M:=f20,d_M:=fnOf "open_node" "open_node" (ai bP) (ah bP) (ad bP) .none kV20 dc20 pm20 an20 cd20 ct20,f_e:=f21,d_e:=fnOf "settled_make" "settled_make" (ai aQ) (ah aQ) (ad aQ) .none kV21 dc21 pm21 an21 cd21 ct21,f_j:=f22,d_j:=fnOf "last_die" "last_die" (ai bK) (ah bK) (ad bK) .none kV22 dc22 pm22 an22 cd22 ct22,f_G:=f23,d_G:=fnOf "duel_parts" "duel_parts" (ai bE) (ah bE) (ad bE) .none kV23 dc23 pm23 an23 cd23 ct23,f_d:=f24,d_d:=fnOf "duel_matrix" "duel_matrix" (ai be) (ah be) (ad be) .none kV24 dc24 pm24 an24 cd24 ct24,f_S:=f25,d_S:=fnOf "pair_chance" "pair_chance" (ai bw) (ah bw) (ad bw) .none kV25 dc25 pm25 an25 cd25 ct25,f_k:=f26,d_k:=fnOf "kept_together" "kept_together" (ai aS) (ah aS) (ad aS) .none kV26 dc26 pm26 an26 cd26 ct26,f_U:=f27,d_U:=fnOf "both_kept" "both_kept" (ai bM) (ah bM) (ad bM) .none kV27 dc27 pm27 an27 cd27 ct27,f_H:=f28,d_H:=fnOf "held_behind" "held_behind" (ai bp) (ah bp) (ad bp) .none kV28 dc28 pm28 an28 cd28 ct28,f_w:=f29,d_w:=fnOf "behind_duel" "behind_duel" (ai bn) (ah bn) (ad bn) .none kV29 dc29 pm29 an29 cd29 ct29,f_B:=f30,d_B:=fnOf "_law_cell" "_law_cell" (ai cR) (ah cR) (ad cR) .none kV30 dc30 pm30 an30 cd30 ct30,f_at:=f31,d_at:=fnOf "_law_mix" "_law_mix" (ai dy) (ah dy) (ad dy) .none kV31 dc31 pm31 an31 cd31 ct31,f_ag:=f32,d_ag:=fnOf "_law_row" "_law_row" (ai dI) (ah dI) (ad dI) .none kV32 dc32 pm32 an32 cd32 ct32,f_am:=f33,d_am:=fnOf "_law_whole" "_law_whole" (ai cF) (ah cF) (ad cF) .none kV33 dc33 pm33 an33 cd33 ct33,f_ah:=f34,d_ah:=fnOf "_law_low" "_law_low" (ai dB) (ah dB) (ad dB) .none kV34 dc34 pm34 an34 cd34 ct34,f_ab:=f35,d_ab:=fnOf "_law_common" "_law_common" (ai cg) (ah cg) (ad cg) .none kV35 dc35 pm35 an35 cd35 ct35,f_W:=f36,d_W:=fnOf "_law_crowd" "_law_crowd" (ai cE) (ah cE) (ad cE) .none kV36 dc36 pm36 an36 cd36 ct36,f_A:=f37,d_A:=fnOf "_law_wished" "_law_wished" (ai ci) (ah ci) (ad ci) .none kV37 dc37 pm37 an37 cd37 ct37,f_aj:=f38,d_aj:=fnOf "_law_duel" "_law_duel" (ai cV) (ah cV) (ad cV) .none kV38 dc38 pm38 an38 cd38 ct38,f_V:=f39,d_V:=fnOf "_law_walk" "_law_walk" (ai cX) (ah cX) (ad cX) .none kV39 dc39 pm39 an39 cd39 ct39,f_aa:=f40,d_aa:=fnOf "_law_thrown" "_law_thrown" (ai cj) (ah cj) (ad cj) .none kV40 dc40 pm40 an40 cd40 ct40,f_an:=f41,d_an:=fnOf "_law_thing" "_law_thing" (ai cG) (ah cG) (ad cG) .none kV41 dc41 pm41 an41 cd41 ct41,f_O:=f42,d_O:=fnOf "_law_refused" "_law_refused" (ai bX) (ah bX) (ad bX) .none kV42 dc42 pm42 an42 cd42 ct42,f_ap:=f43,d_ap:=fnOf "_law_kind" "_law_kind" (ai cS) (ah cS) (ad cS) .none kV43 dc43 pm43 an43 cd43 ct43,f_au:=f44,d_au:=fnOf "_law_due" "_law_due" (ai dJ) (ah dJ) (ad dJ) .none kV44 dc44 pm44 an44 cd44 ct44,f_av:=f45,d_av:=fnOf "law" "law" (ai gy) (ah gy) (ad gy) .none kV45 dc45 pm45 an45 cd45 ct45,c_ad:=c_ad,c_f:=c_f,i_f:=i_f,e_f:=fnOf "__init__" "NoPlan.__init__" (ai aI) (ah aI) (ad aI) .none kV_e dc_e pm_e an_e cd_e ct_e,c_y:=c_y,i_y:=i_y,e_y:=fnOf "__init__" "NoThrow.__init__" (ai bC) (ah bC) (ad bC) .none kV_f dc_f pm_f an_f cd_f ct_f,c_ao:=c_ao,c_g:=c_g,i_g:=i_g,e_g:=fnOf "__init__" "Told.__init__" (ai aU) (ah aU) (ad aU) .none kV_12 dc_12 pm_12 an_12 cd_12 ct_12,c_i:=c_i,i_i:=i_i,e_i:=fnOf "__init__" "Die.__init__" (ai ba) (ah ba) (ad ba) .none kV_0 dc_0 pm_0 an_0 cd_0 ct_0,c_ai:=c_ai,c_N:=c_N,i_N:=i_N,e_N:=fnOf "__init__" "Few.__init__" (ai cz) (ah cz) (ad cz) .none kV_c dc_c pm_c an_c cd_c ct_c,c_n:=c_n,i_n:=i_n,e_n:=fnOf "__init__" "Start.__init__" (ai b7) (ah b7) (ad b7) .none kV_11 dc_11 pm_11 an_11 cd_11 ct_11,c_o:=c_o,i_o:=i_o,e_o:=fnOf "__init__" "Loose.__init__" (ai b8) (ah b8) (ad b8) .none kV_d dc_d pm_d an_d cd_d ct_d,c_c:=c_c,i_c:=i_c,e_c:=fnOf "__init__" "Duel.__init__" (ai aV) (ah aV) (ad aV) .none kV_6 dc_6 pm_6 an_6 cd_6 ct_6,x_p:=x_p,y_p:=fnOf "is_told" "Told.is_told" (ai aZ) (ah aZ) (ad aZ) .none kV_13 dc_13 pm_13 an_13 cd_13 ct_13,x_s:=x_s,y_s:=fnOf "is_told" "Die.is_told" (ai bv) (ah bv) (ad bv) .none kV_2 dc_2 pm_2 an_2 cd_2 ct_2,x_C:=x_C,y_C:=fnOf "kept" "Told.kept" (ai bZ) (ah bZ) (ad bZ) .none kV_14 dc_14 pm_14 an_14 cd_14 ct_14,x_I:=x_I,y_I:=fnOf "kept" "Die.kept" (ai ck) (ah ck) (ad ck) .none kV_3 dc_3 pm_3 an_3 cd_3 ct_3,x_x:=x_x,y_x:=fnOf "sides" "Told.sides" (ai bF) (ah bF) (ad bF) .none kV_16 dc_16 pm_16 an_16 cd_16 ct_16,x_D:=x_D,y_D:=fnOf "sides" "Die.sides" (ai bR) (ah bR) (ad bR) .none kV_5 dc_5 pm_5 an_5 cd_5 ct_5,x_F:=x_F,y_F:=fnOf "parts" "Told.parts" (ai bH) (ah bH) (ad bH) .none kV_15 dc_15 pm_15 an_15 cd_15 ct_15,x_K:=x_K,y_K:=fnOf "parts" "Die.parts" (ai bW) (ah bW) (ad bW) .none kV_4 dc_4 pm_4 an_4 cd_4 ct_4,x_u:=x_u,y_u:=fnOf "after" "Die.after" (ai bS) (ah bS) (ad bS) .none kV_1 dc_1 pm_1 an_1 cd_1 ct_1,x_L:=x_L,y_L:=fnOf "node" "Duel.node" (ai bU) (ah bU) (ad bU) .none kV_a dc_a pm_a an_a cd_a ct_a,x_t:=x_t,y_t:=fnOf "matrix" "Duel.matrix" (ai bu) (ah bu) (ad bu) .none kV_8 dc_8 pm_8 an_8 cd_8 ct_8,x_z:=x_z,y_z:=fnOf "bounds" "Duel.bounds" (ai br) (ah br) (ad br) .none kV_7 dc_7 pm_7 an_7 cd_7 ct_7,x_J:=x_J,y_J:=fnOf "text" "Duel.text" (ai bT) (ah bT) (ad bT) .none kV_b dc_b pm_b an_b cd_b ct_b,x_q:=x_q,y_q:=fnOf "need_levels" "Plan.need_levels" (ai aG) (ah aG) (ad aG) .none kV_10 dc_10 pm_10 an_10 cd_10 ct_10,k_NOUGHT:=k_NOUGHT,k_WHOLE:=k_WHOLE,k_TWICE:=k_TWICE,lc_d:=lc_d,lp_d:=lp_d,lc_j:=lc_j,lp_j:=lp_j,lc_e:=lc_e,lp_e:=lp_e },?_,rfl⟩
 exact {
  lcd_d:=lca_17
  lch_d:=lch_d
  lcd_j:=lca_18
  lch_j:=lch_j
  lcd_e:=lca_19
  lch_e:=lch_e
  tnd:=ltnd
  F_h:=al l0 c0 k0
  B_h:=(al l0 c0 k0).binds (ps:=["one","other"]) fun _ _ _ _ _ _ us hl=>(by obtain ⟨_,_,rfl⟩:=us2 hl; rfl)
  m_h:=mg_of X G a0
  F_r:=al l1 c1 k1
  B_r:=(al l1 c1 k1).binds (ps:=["numbers"]) fun _ _ _ _ _ _ us hl=>(by obtain ⟨_,rfl⟩:=us1 hl; rfl)
  m_r:=mg_of X G a1
  F_E:=al l2 c2 k2
  B_E:=(al l2 c2 k2).binds (ps:=["top","bottom"]) fun _ _ _ _ _ _ us hl=>(by obtain ⟨_,_,rfl⟩:=us2 hl; rfl)
  m_E:=mg_of X G a2
  F_ak:=al l3 c3 k3
  B_ak:=(al l3 c3 k3).binds (ps:=["one","other"]) fun _ _ _ _ _ _ us hl=>(by obtain ⟨_,_,rfl⟩:=us2 hl; rfl)
  m_ak:=mg_of X G a3
  F_ac:=al l4 c4 k4
  B_ac:=(al l4 c4 k4).binds (ps:=["one","other"]) fun _ _ _ _ _ _ us hl=>(by obtain ⟨_,_,rfl⟩:=us2 hl; rfl)
  m_ac:=mg_of X G a4
  F_Y:=al l5 c5 k5
  B_Y:=(al l5 c5 k5).binds (ps:=["one","other"]) fun _ _ _ _ _ _ us hl=>(by obtain ⟨_,_,rfl⟩:=us2 hl; rfl)
  m_Y:=mg_of X G a5
  F_ar:=al l6 c6 k6
  B_ar:=(al l6 c6 k6).binds (ps:=["one","other"]) fun _ _ _ _ _ _ us hl=>(by obtain ⟨_,_,rfl⟩:=us2 hl; rfl)
  m_ar:=mg_of X G a6
  F_al:=al l7 c7 k7
  B_al:=(al l7 c7 k7).binds (ps:=["one","other"]) fun _ _ _ _ _ _ us hl=>(by obtain ⟨_,_,rfl⟩:=us2 hl; rfl)
  m_al:=mg_of X G a7
  F_T:=al l8 c8 k8
  B_T:=(al l8 c8 k8).binds (ps:=["thing","low","high"]) fun _ _ _ _ _ _ us hl=>(by obtain ⟨_,_,_,rfl⟩:=us3 hl; rfl)
  m_T:=mg_of X G a8
  F_v:=al l9 c9 k9
  B_v:=(al l9 c9 k9).binds (ps:=["node","throw"]) fun _ _ _ _ _ _ us hl=>(by obtain ⟨_,_,rfl⟩:=us2 hl; rfl)
  m_v:=mg_of X G a9
  F_aq:=al l10 c10 k10
  B_aq:=(al l10 c10 k10).binds (ps:=["node","throws"]) fun _ _ _ _ _ _ us hl=>(by obtain ⟨_,_,rfl⟩:=us2 hl; rfl)
  m_aq:=mg_of X G a10
  F_as:=al l11 c11 k11
  B_as:=(al l11 c11 k11).binds (ps:=["sizes","many"]) fun _ _ _ _ _ _ us hl=>(by obtain ⟨_,_,rfl⟩:=us2 hl; rfl)
  m_as:=mg_of X G a11
  F_l:=al l12 c12 k12
  B_l:=(al l12 c12 k12).binds (ps:=["sizes","many"]) fun _ _ _ _ _ _ us hl=>(by obtain ⟨_,_,rfl⟩:=us2 hl; rfl)
  m_l:=mg_of X G a12
  F_P:=al l13 c13 k13
  B_P:=(al l13 c13 k13).binds (ps:=["crowd","many"]) fun _ _ _ _ _ _ us hl=>(by obtain ⟨_,_,rfl⟩:=us2 hl; rfl)
  m_P:=mg_of X G a13
  F_ae:=al l14 c14 k14
  B_ae:=(al l14 c14 k14).binds (ps:=["crowd"]) fun _ _ _ _ _ _ us hl=>(by obtain ⟨_,rfl⟩:=us1 hl; rfl)
  m_ae:=mg_of X G a14
  F_af:=al l15 c15 k15
  B_af:=(al l15 c15 k15).binds (ps:=["many","tell"]) fun _ _ _ _ _ _ us hl=>(by obtain ⟨_,_,rfl⟩:=us2 hl; rfl)
  m_af:=mg_of X G a15
  F_Z:=al l16 c16 k16
  B_Z:=(al l16 c16 k16).binds (ps:=["one","many","tell"]) fun _ _ _ _ _ _ us hl=>(by obtain ⟨_,_,_,rfl⟩:=us3 hl; rfl)
  m_Z:=mg_of X G a16
  F_R:=al l17 c17 k17
  B_R:=(al l17 c17 k17).binds (ps:=["thing","low","high"]) fun _ _ _ _ _ _ us hl=>(by obtain ⟨_,_,_,rfl⟩:=us3 hl; rfl)
  m_R:=mg_of X G a17
  F_Q:=al l18 c18 k18
  B_Q:=(al l18 c18 k18).binds (ps:=["chance"]) fun _ _ _ _ _ _ us hl=>(by obtain ⟨_,rfl⟩:=us1 hl; rfl)
  m_Q:=mg_of X G a18
  F_X:=al l19 c19 k19
  B_X:=(al l19 c19 k19).binds (ps:=["told","taken"]) fun _ _ _ _ _ _ us hl=>(by obtain ⟨_,_,rfl⟩:=us2 hl; rfl)
  m_X:=mg_of X G a19
  F_M:=al l20 c20 k20
  B_M:=(al l20 c20 k20).binds (ps:=["told","taken"]) fun _ _ _ _ _ _ us hl=>(by obtain ⟨_,_,rfl⟩:=us2 hl; rfl)
  m_M:=mg_of X G a20
  F_e:=al l21 c21 k21
  B_e:=(al l21 c21 k21).binds (ps:=["told","taken"]) fun _ _ _ _ _ _ us hl=>(by obtain ⟨_,_,rfl⟩:=us2 hl; rfl)
  m_e:=mg_of X G a21
  F_j:=al l22 c22 k22
  B_j:=(al l22 c22 k22).binds (ps:=["last","taken"]) fun _ _ _ _ _ _ us hl=>(by obtain ⟨_,_,rfl⟩:=us2 hl; rfl)
  m_j:=mg_of X G a22
  F_G:=al l23 c23 k23
  B_G:=(al l23 c23 k23).binds (ps:=["one","other"]) fun _ _ _ _ _ _ us hl=>(by obtain ⟨_,_,rfl⟩:=us2 hl; rfl)
  m_G:=mg_of X G a23
  F_d:=al l24 c24 k24
  B_d:=(al l24 c24 k24).binds (ps:=["shares","order"]) fun _ _ _ _ _ _ us hl=>(by obtain ⟨_,_,rfl⟩:=us2 hl; rfl)
  m_d:=mg_of X G a24
  F_S:=al l25 c25 k25
  B_S:=(al l25 c25 k25).binds (ps:=["told","found","one","other"]) fun _ _ _ _ _ _ us hl=>(by obtain ⟨_,_,_,_,rfl⟩:=us4 hl; rfl)
  m_S:=mg_of X G a25
  F_k:=al l26 c26 k26
  B_k:=(al l26 c26 k26).binds (ps:=["told"]) fun _ _ _ _ _ _ us hl=>(by obtain ⟨_,rfl⟩:=us1 hl; rfl)
  m_k:=mg_of X G a26
  F_U:=al l27 c27 k27
  B_U:=(al l27 c27 k27).binds (ps:=["up","sure","held","chance"]) fun _ _ _ _ _ _ us hl=>(by obtain ⟨_,_,_,_,rfl⟩:=us4 hl; rfl)
  m_U:=mg_of X G a27
  F_H:=al l28 c28 k28
  B_H:=(al l28 c28 k28).binds (ps:=["held","chance"]) fun _ _ _ _ _ _ us hl=>(by obtain ⟨_,_,rfl⟩:=us2 hl; rfl)
  m_H:=mg_of X G a28
  F_w:=al l29 c29 k29
  B_w:=(al l29 c29 k29).binds (ps:=["earlier","held","place","chance"]) fun _ _ _ _ _ _ us hl=>(by obtain ⟨_,_,_,_,rfl⟩:=us4 hl; rfl)
  m_w:=mg_of X G a29
  F_B:=al l30 c30 k30
  B_B:=(al l30 c30 k30).binds (ps:=["_law_script","_law_k"]) fun _ _ _ _ _ _ us hl=>(by obtain ⟨_,_,rfl⟩:=us2 hl; rfl)
  m_B:=mg_of X G a30
  F_at:=al l31 c31 k31
  B_at:=(al l31 c31 k31).binds (ps:=["_law_cell_here","_law_k"]) fun _ _ _ _ _ _ us hl=>(by obtain ⟨_,_,rfl⟩:=us2 hl; rfl)
  m_at:=mg_of X G a31
  F_ag:=al l32 c32 k32
  B_ag:=(al l32 c32 k32).binds (ps:=["_law_cell_here","_law_bit","_law_many","_law_most"]) fun _ _ _ _ _ _ us hl=>(by obtain ⟨_,_,_,_,rfl⟩:=us4 hl; rfl)
  m_ag:=mg_of X G a32
  F_am:=al l33 c33 k33
  B_am:=(al l33 c33 k33).binds (ps:=["_law_found"]) fun _ _ _ _ _ _ us hl=>(by obtain ⟨_,rfl⟩:=us1 hl; rfl)
  m_am:=mg_of X G a33
  F_ah:=al l34 c34 k34
  B_ah:=(al l34 c34 k34).binds (ps:=["_law_top","_law_bottom"]) fun _ _ _ _ _ _ us hl=>(by obtain ⟨_,_,rfl⟩:=us2 hl; rfl)
  m_ah:=mg_of X G a34
  F_ab:=al l35 c35 k35
  B_ab:=(al l35 c35 k35).binds (ps:=["_law_one","_law_other"]) fun _ _ _ _ _ _ us hl=>(by obtain ⟨_,_,rfl⟩:=us2 hl; rfl)
  m_ab:=mg_of X G a35
  F_W:=al l36 c36 k36
  B_W:=(al l36 c36 k36).binds (ps:=["_law_script","_law_start","_law_most"]) fun _ _ _ _ _ _ us hl=>(by obtain ⟨_,_,_,rfl⟩:=us3 hl; rfl)
  m_W:=mg_of X G a36
  F_A:=al l37 c37 k37
  B_A:=(al l37 c37 k37).binds (ps:=["_law_sizes","_law_many"]) fun _ _ _ _ _ _ us hl=>(by obtain ⟨_,_,rfl⟩:=us2 hl; rfl)
  m_A:=mg_of X G a37
  F_aj:=al l38 c38 k38
  B_aj:=(al l38 c38 k38).binds (ps:=["_law_first","_law_second"]) fun _ _ _ _ _ _ us hl=>(by obtain ⟨_,_,rfl⟩:=us2 hl; rfl)
  m_aj:=mg_of X G a38
  F_V:=al l39 c39 k39
  B_V:=(al l39 c39 k39).binds (ps:=["_law_shares","_law_order","_law_throws"]) fun _ _ _ _ _ _ us hl=>(by obtain ⟨_,_,_,rfl⟩:=us3 hl; rfl)
  m_V:=mg_of X G a39
  F_aa:=al l40 c40 k40
  B_aa:=(al l40 c40 k40).binds (ps:=["_law_node","_law_rows","_law_kept"]) fun _ _ _ _ _ _ us hl=>(by obtain ⟨_,_,_,rfl⟩:=us3 hl; rfl)
  m_aa:=mg_of X G a40
  F_an:=al l41 c41 k41
  B_an:=(al l41 c41 k41).binds (ps:=["_law_cell_here"]) fun _ _ _ _ _ _ us hl=>(by obtain ⟨_,rfl⟩:=us1 hl; rfl)
  m_an:=mg_of X G a41
  F_O:=al l42 c42 k42
  B_O:=(al l42 c42 k42).binds (ps:=["_law_thing_here"]) fun _ _ _ _ _ _ us hl=>(by obtain ⟨_,rfl⟩:=us1 hl; rfl)
  m_O:=mg_of X G a42
  F_ap:=al l43 c43 k43
  B_ap:=(al l43 c43 k43).binds (ps:=["_law_plan","_law_many"]) fun _ _ _ _ _ _ us hl=>(by obtain ⟨_,_,rfl⟩:=us2 hl; rfl)
  m_ap:=mg_of X G a43
  F_au:=al l44 c44 k44
  B_au:=(al l44 c44 k44).binds (ps:=["_law_crowd_here","_law_many"]) fun _ _ _ _ _ _ us hl=>(by obtain ⟨_,_,rfl⟩:=us2 hl; rfl)
  m_au:=mg_of X G a44
  F_av:=al l45 c45 k45
  m_av:=mg_of X G a45
  g_NOUGHT:=⟨_,mg_of X G b_NOUGHT,rfl⟩
  t_NOUGHT:=bt_NOUGHT
  g_WHOLE:=⟨_,mg_of X G b_WHOLE,rfl⟩
  t_WHOLE:=bt_WHOLE
  g_TWICE:=⟨_,mg_of X G b_TWICE,rfl⟩
  t_TWICE:=bt_TWICE
  F_p:=al ml_13 mo_13 mk_13
  B_p:=(al ml_13 mo_13 mk_13).binds (ps:=["self"]) fun _ _ _ _ _ _ us hl=>(by obtain ⟨_,rfl⟩:=us1 hl; rfl)
  F_s:=al ml_2 mo_2 mk_2
  B_s:=(al ml_2 mo_2 mk_2).binds (ps:=["self"]) fun _ _ _ _ _ _ us hl=>(by obtain ⟨_,rfl⟩:=us1 hl; rfl)
  F_C:=al ml_14 mo_14 mk_14
  B_C:=(al ml_14 mo_14 mk_14).binds (ps:=["self"]) fun _ _ _ _ _ _ us hl=>(by obtain ⟨_,rfl⟩:=us1 hl; rfl)
  F_I:=al ml_3 mo_3 mk_3
  B_I:=(al ml_3 mo_3 mk_3).binds (ps:=["self"]) fun _ _ _ _ _ _ us hl=>(by obtain ⟨_,rfl⟩:=us1 hl; rfl)
  F_x:=al ml_16 mo_16 mk_16
  B_x:=(al ml_16 mo_16 mk_16).binds (ps:=["self"]) fun _ _ _ _ _ _ us hl=>(by obtain ⟨_,rfl⟩:=us1 hl; rfl)
  F_D:=al ml_5 mo_5 mk_5
  B_D:=(al ml_5 mo_5 mk_5).binds (ps:=["self"]) fun _ _ _ _ _ _ us hl=>(by obtain ⟨_,rfl⟩:=us1 hl; rfl)
  F_F:=al ml_15 mo_15 mk_15
  B_F:=(al ml_15 mo_15 mk_15).binds (ps:=["self"]) fun _ _ _ _ _ _ us hl=>(by obtain ⟨_,rfl⟩:=us1 hl; rfl)
  F_K:=al ml_4 mo_4 mk_4
  B_K:=(al ml_4 mo_4 mk_4).binds (ps:=["self"]) fun _ _ _ _ _ _ us hl=>(by obtain ⟨_,rfl⟩:=us1 hl; rfl)
  F_u:=al ml_1 mo_1 mk_1
  B_u:=(al ml_1 mo_1 mk_1).binds (ps:=["self","throw"]) fun _ _ _ _ _ _ us hl=>(by obtain ⟨_,_,rfl⟩:=us2 hl; rfl)
  F_L:=al ml_a mo_a mk_a
  B_L:=(al ml_a mo_a mk_a).binds (ps:=["self","crowd"]) fun _ _ _ _ _ _ us hl=>(by obtain ⟨_,_,rfl⟩:=us2 hl; rfl)
  F_t:=al ml_8 mo_8 mk_8
  B_t:=(al ml_8 mo_8 mk_8).binds (ps:=["self","crowd"]) fun _ _ _ _ _ _ us hl=>(by obtain ⟨_,_,rfl⟩:=us2 hl; rfl)
  F_z:=al ml_7 mo_7 mk_7
  B_z:=(al ml_7 mo_7 mk_7).binds (ps:=["self","crowd"]) fun _ _ _ _ _ _ us hl=>(by obtain ⟨_,_,rfl⟩:=us2 hl; rfl)
  F_J:=al ml_b mo_b mk_b
  B_J:=(al ml_b mo_b mk_b).binds (ps:=["self"]) fun _ _ _ _ _ _ us hl=>(by obtain ⟨_,rfl⟩:=us1 hl; rfl)
  F_q:=al ml_10 mo_10 mk_10
  B_q:=(al ml_10 mo_10 mk_10).binds (ps:=["self","levels"]) fun _ _ _ _ _ _ us hl=>(by obtain ⟨_,_,rfl⟩:=us2 hl; rfl)
  mt_p:=⟨mf_13,mi_13,mk_13⟩
  mt_s:=⟨mf_2,mi_2,mk_2⟩
  mt_C:=⟨mf_14,mi_14,mk_14⟩
  mt_I:=⟨mf_3,mi_3,mk_3⟩
  mt_x:=⟨mf_16,mi_16,mk_16⟩
  mt_D:=⟨mf_5,mi_5,mk_5⟩
  mt_F:=⟨mf_15,mi_15,mk_15⟩
  mt_K:=⟨mf_4,mi_4,mk_4⟩
  mt_u:=⟨mf_1,mi_1,mk_1⟩
  mt_L:=⟨mf_a,mi_a,mk_a⟩
  mt_t:=⟨mf_8,mi_8,mk_8⟩
  mt_z:=⟨mf_7,mi_7,mk_7⟩
  mt_J:=⟨mf_b,mi_b,mk_b⟩
  mt_Duel_need_levels:=⟨mf_9,mi_10,mk_10⟩
  mc_g:=mg_of X G ca_g
  cl_g:=⟨pa_g,pb_g,pc_g,pd_g⟩
  mk_g:=⟨qa_g,qb_g,qc_g,qd_g⟩
  na_Told_rising:=qn_Told_rising
  Fi_g:=al cl_g co_g ck_g
  Bi_g:=(al cl_g co_g ck_g).binds (ps:=["self","kept"]) fun _ _ _ _ _ _ us hl=>(by obtain ⟨_,_,rfl⟩:=us2 hl; rfl)
  mc_i:=mg_of X G ca_i
  cl_i:=⟨pa_i,pb_i,pc_i,pd_i⟩
  mk_i:=⟨qa_i,qb_i,qc_i,qd_i⟩
  na_Die_makes:=qn_Die_makes
  Fi_i:=al cl_i co_i ck_i
  Bi_i:=(al cl_i co_i ck_i).binds (ps:=["self","parts"]) fun _ _ _ _ _ _ us hl=>(by obtain ⟨_,_,rfl⟩:=us2 hl; rfl)
  g_ai:=⟨_,mg_of X G ca_ai,rfl⟩
  g_N:=⟨_,mg_of X G ca_N,rfl⟩
  g_n:=⟨_,mg_of X G ca_n,rfl⟩
  g_o:=⟨_,mg_of X G ca_o,rfl⟩
  mc_c:=mg_of X G ca_c
  cl_c:=⟨pa_c,pb_c,pc_c,pd_c⟩
  ty_c:=fun H x dx fs e=>.ins e ⟨pa_c,pb_c,pc_c,pd_c⟩ pe_c pf_c pg_c ph_c
  mk_c:=⟨qa_c,qb_c,qc_c,qd_c⟩
  na_Duel_many:=qn_Duel_many
  Fi_c:=al cl_c co_c ck_c
  Bi_c:=(al cl_c co_c ck_c).binds (ps:=["self","many"]) fun _ _ _ _ _ _ us hl=>(by obtain ⟨_,_,rfl⟩:=us2 hl; rfl)
  g_MOST_MANY:=⟨u0,mg_of X G b0,r0⟩
  mc_f:=mg_of X G ca_f
  kc_NoPlan:=cb_f
  xc_f:=yn cc_f
  xh_f:=yp cc_f
  xi_NoPlan:=cx_f
  fn_NoPlan:=cg_f
  Fi_f:=al cl_f co_f ck_f
  Bi_f:=(al cl_f co_f ck_f).binds (ps:=["self","place"]) fun _ _ _ _ _ _ us hl=>(by obtain ⟨_,_,rfl⟩:=us2 hl; rfl)
  sx_NoPlan_place:=yN cs_NoPlan_place
  tn:=fact_tn
  kdp:=fact_kdp
  kdt:=fact_kdt
  z_abs:=mg_none_of X G z0
  z_bool:=mg_none_of X G z1
  z_enumerate:=mg_none_of X G z2
  z_int:=mg_none_of X G z3
  z_isinstance:=mg_none_of X G z4
  z_len:=mg_none_of X G z5
  z_list:=mg_none_of X G z6
  z_min:=mg_none_of X G z7
  z_range:=mg_none_of X G z8
  z_sorted:=mg_none_of X G z9
  z_str:=mg_none_of X G z10
  z_sum:=mg_none_of X G z11
  z_tuple:=mg_none_of X G z12
  z_zip:=mg_none_of X G z13
  bl:=fun s u=>.of_eq rfl }
end My
open PySem PySem.W PyProof.Rows
namespace PySem.W.Fast
def tw16327949479203638528:=0
def tw3969779991562945953:=0
def tw2899291024301088899:=0
def tw2880530951696490627:=0
def tw8925806679282440805:=0
def tw18041932341986873446:=0
def tw3261740830593515015:=0
def tw5036168105891045481:=0
def tw11906165156465017994:=0
def tw102704545550382827:=0
def tw4715422051477200811:=0
def tw11345904107327386349:=0
def tw427800043334102798:=0
def tw13858406493977675662:=0
def tw15007802521406119828:=0
def tw17097258599748741557:=0
def tw16691633208532856277:=0
def tw11932714168662450167:=0
def tw18399054439308253658:=0
def tw5955810174060499834:=0
def tw12357127973566217981:=0
def tw4594431580827413887:=0
def tw9281546832328337984:=0
def tw866254148506334563:=0
def tw2312758156279613025:=0
def tw12468890509484333634:=0
def tw14745442629086629078:=0
def tw6998273110604669207:=0
def tw7061029312567499231:=0
def tw1876165413966029120:=0
def tw628199414946833750:=0
def tw8650667195353017494:=0
def tw14965135797746873720:=0
def tw10281908971470169859:=0
def tw15317710703206918540:=0
def tw13798628488739201130:=0
def tw10581640379171782734:=0
def tw9131046960380767954:=0
def tw12904383334374119671:=0
def tw17269966113373875426:=0
def tw9882545115511245758:=0
def tw13528094305028733862:=0
def tw11305234356713015137:=0
def tw2996007877712987758:=0
def tw17098952000130426734:=0
def tw11535868732511784601:=0
def tw7834477232189447983:=0
def tw8676118392004924258:=0
def tw5111190839435216950:=0
def tw6642646607058985412:=0
def tw11121204836287600373:=0
def tw18373364540306670075:=0
def tw13769710980168300672:=0
def tw10112250710399576848:=0
def tw10721160054979931509:=0
def tw15788421200610041741:=0
def tw8550514694131097409:=0
def tw994257444557003910:=0
def tw13722824113687670664:=0
def tw11285204824934860711:=0
def tw8562511441234092230:=0
def tw17717271052101054419:=0
def tw5459123327359713334:=0
def tw7274138202682923005:=0
def tw7101764161944816086:=0
def tw67177888861150044:=0
def tw8347971774698373779:=0
def tw9222088357624650727:=0
def tw1747758375455940189:=0
def tw16684803349708112340:=0
def tw15473339002842024331:=0
def tw169299163349260058:=0
def tw12603848664915214799:=0
def tw7105924626500300562:=0
def tw7280346663814083013:=0
def tw9397097028275150545:=0
def tw14297158195510382019:=0
def tw3926941546534183713:=0
def tw14063618136087799198:=0
def tw16847941924336554339:=0
def tw765416051821888750:=0
def tw5459848662862315761:=0
def tw463585335062544394:=0
def tw11750859363913318061:=0
def tw5002841197685187220:=0
def tw7611547594254611757:=0
def tw7474904090352614861:=0
def tw6834638526021413923:=0
def tw17980171709848693082:=0
def tw17088582968470329448:=0
def tw10878993989396329336:=0
def tw13447756154357080268:=0
def tw8794838152546097710:=0
def tw4283572789986033997:=0
def tw13535595899574212821:=0
def tw11875614050150773051:=0
def tw15518356065469593706:=0
def tw7989438574922067551:=0
def tw16994175705787329164:=0
def tw17400825942216348875:=0
def tw186735945636540799:=0
def tw1839249248165159921:=0
def tw7713897929159344013:=0
def tw9313914964299414060:=0
def tw2075945359611467628:=0
def tw1349186337491387910:=0
def tw6738392309349336332:=0
def tw6227683403786384902:=0
def tw9519284453353236824:=0
def tw4441458843185997363:=0
def tw8473089120128317911:=0
def tw17348227590578328478:=0
def tw15166347317363991438:=0
def tw7437041147976331471:=0
def tw15179382833296932172:=0
def tw612567531088540797:=0
def tw12264422572813473372:=0
def tw17448846166029540818:=0
def tw13201778166567049880:=0
def tw13245998013228573023:=0
def tw9907464774767084544:=0
def tw3411400433414097239:=0
def tw18140889995810869240:=0
def tw4728938031093858318:=0
def tw5226684843214117607:=0
def tw4137205816880388210:=0
def tw6724175300841169503:=0
def tw13253556945583023729:=0
def tw13378640039482614403:=0
def tw8249568389862392253:=0
def tw4759502907644404597:=0
def tw6482474104820654425:=0
def tw7167908183624480761:=0
def tw162456775442801756:=0
def tw8780435040032826857:=0
def tw4039306885979690113:=0
def tw14172208670736059014:=0
def tw4676481062449610485:=0
def tw475056123617986183:=0
def tw9164670910338920679:=0
def tw3844603117901676986:=0
def tw7337054062934578940:=0
def tw8676871072981165539:=0
def tw2533138626106410901:=0
def tw16243787696158467234:=0
def tw17112445310963118449:=0
def tw4469396601393180083:=0
def tw2755745091790133255:=0
def tw12392251361930754244:=0
def tw809605342066910742:=0
def tw18198089262550603527:=0
def tw3953579731652447846:=0
def tw17037119289260056856:=0
def tw15216657759802384688:=0
def tw4838116856070349357:=0
def tw16168151265153109237:=0
def tw5948947834708031277:=0
def tw1271951677239699483:=0
def tw3993977787826384438:=0
def tw11090718640003370407:=0
def tw7952416354764707410:=0
def tw16097030285221652753:=0
def tw18405974162291581163:=0
def tw17837191507492463506:=0
def tw9675605665033395:=0
def tw1367489766174598212:=0
def tw6520057447666947305:=0
def tw3903423320302646779:=0
def tw6755174672537086:=0
def tw3650840297354707501:=0
def tw8541543911477939259:=0
def tw1696434025627973278:=0
def tw7698567966508738526:=0
def tw13747474536793159852:=0
def tw11005774173599839867:=0
def tw3427633917173270225:=0
def tw12719343160572149274:=0
def tw10264416444453033679:=0
def tw16585631243029571017:=0
def tw12322944247574514875:=0
def tw13678523273979291041:=0
def tw1263530051728318435:=0
def tw18382710794008085861:=0
def tw14130891936679402481:=0
def tw2128681374128254987:=0
def tw5705727618507757025:=0
def tw17514987358660956729:=0
def tw55068597621698740:=0
def tw17498673911407333479:=0
def tw2923429169991289621:=0
def tw8304359700645340775:=0
def tw18283110343697726653:=0
def tw11089837475607112076:=0
def tw3458688184492037630:=0
def tw13358196973609204798:=0
def tw11405227268253721908:=0
def tw14239907183991771053:=0
def tw2006299886720125765:=0
def tw15770234554310161745:=0
def tw9924733783126155018:=0
def tw11611528819006119784:=0
def tw12333909624546340697:=0
def tw755289120293848041:=0
def tw14248228680774540019:=0
def tw15669500565233264065:=0
def tw12291369434292220676:=0
def tw5487315170148277040:=0
def tw6737882226665466739:=0
def tw1676602342055560237:=0
def tw4834078984293405372:=0
def tw17418605081063028386:=0
def tw72077226106363031:=0
def tw1633943897839962386:=0
def tw15315641366589773489:=0
def tw8550055964919809526:=0
def tw14090521127019859214:=0
def tw9297809017718534264:=0
def tw10674431881376189331:=0
def tw17987254719970057077:=0
def tw6960744029497720378:=0
def tw2140139592116204759:=0
def tw4183104286722818664:=0
def tw14800127550398465150:=0
def tw5380845378391178636:=0
def tw1307705061104342481:=0
def tw4315632528457414975:=0
def tw4374508473766842692:=0
def tw17139289451739594642:=0
def tw10724744948686168231:=0
def tw15607154550902457315:=0
def tw13795360960595619029:=0
def tw13458577600130268756:=0
def tw7397436309141940013:=0
def tw4590662315288761210:=0
def tw9344778444590239276:=0
def tw8818054335652177445:=0
def tw5928234567666978016:=0
def tw3085639245346688876:=0
def tw14142012243956604132:=0
def tw11023856052137208819:=0
def tw13117421122320293982:=0
def tw17568393709227404576:=0
def tw5875676344772150307:=0
def tw4967534048071619981:=0
def tw14745199536767579586:=0
def tw11645253477111409872:=0
def tw11777627361404548477:=0
def tw16994879571811120517:=0
def tw1896052120138993517:=0
def tw6112606988326637323:=0
def tw8405885707458517908:=0
def tw7370269508103762513:=0
def tw12206839393707292111:=0
def tw4995092832158976616:=0
def tw1857195632562619383:=0
def tw10989382407615626639:=0
def tw15094457181107495039:=0
def tw13076146265726384897:=0
def tw3965004596394816308:=0
def tw13220478079384153201:=0
def tw2098741427992160751:=0
def tw1514280718018129275:=0
def tw237025366495927499:=0
def tw5346570859834341536:=0
def tw8540300199442737439:=0
def tw346894493972380027:=0
def tw13459109614576604901:=0
def tw9403620014197434291:=0
def tw6320158743819269123:=0
def tw12591915839994666538:=0
def tw17786380776415665266:=0
def tw12241014556658845429:=0
def tw1738611073358879525:=0
def tw4157385068408427543:=0
def tw4011424286471166347:=0
def tw4128466152460523155:=0
def tw13425978358218599994:=0
def tw12653985839599246407:=0
def tw15133428281962362610:=0
def tw6388063330847707687:=0
def tw14290362569410137912:=0
def tw7286895542571927821:=0
def tw9640047575373588320:=0
def tw4986735174060157712:=0
def tw12811123034076654595:=0
def tw6128707466739264292:=0
def tw13488725402256314823:=0
def tw3373986687905827931:=0
def tw15580505017701023598:=0
def tw4366351697389007221:=0
def tw18034176754022117492:=0
def tw7724775256867551449:=0
def tw13269913248242127581:=0
def tw16246742767278524827:=0
def tw1506816427490017622:=0
def tw11194772958753307722:=0
def tw13902517207786229741:=0
def tw16013815402787213578:=0
def tw5773930312782755903:=0
def tw8898105343627579036:=0
def tw17470648726791229439:=0
def tw9625303020233207069:=0
def tw1187788441885291806:=0
def tw18168143063102732915:=0
def tw16966882908172057052:=0
def tw67290976670175059:=0
def tw8179197879334235803:=0
def tw14437958369582201442:=0
def tw14896966952649566692:=0
def tw12954456874941608534:=0
def tw133511621184309680:=0
def tw7098596739880294365:=0
def tw18265252726195057912:=0
def tw678190811449173111:=0
def tw2392315500405443857:=0
def tw10826933613378954538:=0
def tw4940227564418531152:=0
def tw5509797854929379467:=0
def tw18417620646805444460:=0
def tw2421321668544011759:=0
def tw6785660067641433998:=0
def tw5841783613352576600:=0
def tw12081858590939434066:=0
def tw3388063859171480480:=0
def tw1879578755470487141:=0
def tw17693874387710113296:=0
def tw15674047770744207346:=0
def tw4093914171780430054:=0
def tw631566440485057314:=0
def tw17395669882540011870:=0
def tw18295717792349438413:=0
def tw1593144278730677691:=0
def tw4821274498081780726:=0
def tw6419880845287176847:=0
def tw638202782218993914:=0
def tw7165480456195452254:=0
def tw4035361444763294802:=0
def tw2172246354961621156:=0
def tw13581562631236558325:=0
def tw3138175542271583896:=0
def tw15844791723052590844:=0
def tw1572249313641111698:=0
def tw13069169604485852612:=0
def tw11180119953845726828:=0
def tw11530207724584904707:=0
def tw5735277525210230969:=0
def tw4041332949833334337:=0
def tw4725795345559293343:=0
def tw2736169568950930477:=0
def tw4844446044719972310:=0
def tw1312069489399350852:=0
def tw16855915991878058612:=0
def tw4133425444943125772:=0
def tw10975882719911312292:=0
def tw17746218260206042149:=0
def tw859348543849033911:=0
def tw7428117295613683203:=0
def tw276994470251452940:=0
def tw7964701181560701220:=0
def tw13348615277502637257:=0
def tw5582296058434425218:=0
def tw4885488164208273567:=0
def tw13736771973530950914:=0
def tw8039948859847350537:=0
def tw17230510218085757436:=0
def tw13987556676253701024:=0
def tw16494266234195362068:=0
def tw5330164355868174356:=0
def tw914846606849378030:=0
def tw3073440418466880404:=0
def tw1882061033293540189:=0
def tw5272137041347480223:=0
def tw7279237497336512634:=0
def tw10710200887717919105:=0
def tw3846750161021989401:=0
def tw6561025585616337848:=0
def tw582513273074615583:=0
def tw13419594385233772008:=0
def tw12723402542105049458:=0
def tw12673040794800939196:=0
def tw6236951516077822617:=0
def tw9813513363819896177:=0
def tw18079982234590193463:=0
def tw3795672508284325074:=0
def tw16635391271900625605:=0
def tw1318432724953326053:=0
def tw11559434084882947595:=0
def tw16800648829736050070:=0
def tw11268838127626293591:=0
def tw9628441525066017511:=0
def tw7553137726510776336:=0
def tw5387823108553529549:=0
def tw14942143766890137398:=0
def tw12584962456767695708:=0
def tw15469658081628202570:=0
def tw17827909568947507532:=0
def tw3312581904738015815:=0
def tw12699730304685138662:=0
def tw6155240823852995284:=0
def tw10878114277934845210:=0
def tw7413755773241217524:=0
def tw3070959553877993845:=0
def tw15766222833247735783:=0
def tw6999397440078108630:=0
def tw6676188839333755655:=0
def tw786753724199223110:=0
def tw12338134274583133675:=0
def tw10484983079391149337:=0
def tw3688694644458335168:=0
def tw7647624546796369939:=0
def tw10538383252923288522:=0
def tw3301315106075642011:=0
def tw7418900999002845006:=0
def tw17895892718377182471:=0
def tw7235708376484704128:=0
def tw1349353390006059848:=0
def tw9158449384428824399:=0
def tw12199518839527460407:=0
def tw18300631616485077010:=0
def tw11365182285486091015:=0
def tw8916666544614746383:=0
def tw3670985593683514341:=0
def tw877948342982418889:=0
def tw10397636801571199262:=0
def tw835942301708969391:=0
def tw8282045360909679552:=0
def tw8266369107634156019:=0
def tw16980889475154455011:=0
def tw14224276750889013505:=0
def tw18145038912026039898:=0
def tw12204582325707606945:=0
def tw5948999325246015635:=0
def tw734042254678083042:=0
def tw10066821887040969758:=0
def tw10428639384489326213:=0
def tw18025488183766648268:=0
def tw5047702981883348265:=0
def tw2934410571953641237:=0
def tw15066182489338290046:=0
def tw16415511526137697008:=0
def tw6046672182657426991:=0
def tw6591920895977709614:=0
def tw331201689077283181:=0
def tw9327142998408592678:=0
def tw11430707836067557603:=0
def tw13133782714774033663:=0
def tw9834555863969969580:=0
def tw7133644810999978867:=0
def tw17406301010877156606:=0
def tw3873997446872698508:=0
def tw1518906176902479821:=0
def tw4231387680014580388:=0
def tw11445115762012210164:=0
def tw12727602756298509711:=0
def tw15500176901196347995:=0
def tw5738236063490875461:=0
def tw13116329281818500154:=0
def tw15317390664421567188:=0
def tw5998004768097622188:=0
def tw4942456082576412394:=0
def tw12335836286571414354:=0
def tw14969552599158335842:=0
def tw8428435001816799935:=0
def tw9809986210661440627:=0
def tw11576704891682191028:=0
def tw5848427833243989242:=0
def tw9575239226618151632:=0
def tw10878151363109754024:=0
def tw7582485898430520351:=0
def tw4541341276662741930:=0
def tw8609402282749269079:=0
def tw3525363746783375005:=0
def tw8273048439284520418:=0
def tw16040331508933632524:=0
def tw10949745131493024725:=0
def tw5752636249078644997:=0
def tw2268549086946595873:=0
def tw10455082977695405872:=0
def tw1445922219709730812:=0
def tw9805951784434768425:=0
def tw382470519084163188:=0
def tw5704597997665944985:=0
def tw8724241305432318202:=0
def tw5282205952027350291:=0
def tw1807565545898343056:=0
def tw12911880842489238485:=0
def tw11876128226593767487:=0
def tw290647852038088416:=0
def tw15158598459175699789:=0
def tw11697111803435812151:=0
def tw7812798579608828087:=0
def tw11208784683983937793:=0
def tw6689315288689365595:=0
def tw477475340969061480:=0
def tw10621064196781126885:=0
def tw853538088133029644:=0
def tw8979986253178120859:=0
def tw8545420672529825464:=0
def tw7742498934440815262:=0
def tw10420524207434234722:=0
def tw17276224410004094842:=0
def tw15898543045726470211:=0
def tw10940191948912447734:=0
def tw11675460848304444302:=0
def tw14710269281545437821:=0
def tw8091626994638981691:=0
def tw10649488454124609644:=0
def tw1698901135038954750:=0
def tw8301586792629611520:=0
def tw12235524358804994077:=0
def tw15440335494424892010:=0
def tw10432854497896836242:=0
def tw10365530874888856401:=0
def tw16951244078308286186:=0
def tw2589310313934095301:=0
def tw12008523525174805233:=0
def tw10364459315724684155:=0
def tw15148010781950928576:=0
def tw4809328373527794555:=0
def tw12182740287845349986:=0
def tw16790042688487641514:=0
def tw14012764813727277491:=0
def tw12366499763715460833:=0
def tw4216001030500173468:=0
def tw7121264104681255244:=0
def tw4539080007712758460:=0
def tw2048263584528835805:=0
def tw2095478155332299297:=0
def tw17813418542533839466:=0
def tw12005464962104251169:=0
def tw13103954364262542033:=0
def tw2700845539262266750:=0
def tw1747726315939185615:=0
end PySem.W.Fast
set_option maxRecDepth 100000 in
set_option maxHeartbeats 0 in
theorem PySem.Challenge.cw_fewspeak_k34_duel_plans_holds : PySem.Challenge.rw_fewspeak_k34_duel_plans.Holds := by
 w_on; o_law; k_head; (case hw=>w_witness2)
 k_fill
 refine L2.walk_ofT (l:=PySem.Challenge.rw_fewspeak_k34_duel_plans) (n:=63) (k:=My.lawK) (x := "_law_script") (CX:=L2.CX0) (sp:=My.spLaw) rfl (by decide) rfl ⟨rfl,by decide,by decide⟩ (fun w h Y=>⟨PySem.W.km_in_of Y,PySem.W.km_tabs_of Y⟩) ?F ?S ?C
 case F =>
  intro ts' hts w mg fa h KX G hmg
  have T:∃ a,My.Txt (L2.KOf KX) mg a∧(My.tabs a).map (·.1)=[540,526,519]:=by
   dsimp only[L2.KOf]
   refine' My.txt_mk KX G ?a0 ?l0 ?c0 ?k0 ?a1 ?l1 ?c1 ?k1 ?a2 ?l2 ?c2 ?k2 ?a3 ?l3 ?c3 ?k3 ?a4 ?l4 ?c4 ?k4 ?a5 ?l5 ?c5 ?k5 ?a6 ?l6 ?c6 ?k6 ?a7 ?l7 ?c7 ?k7 ?a8 ?l8 ?c8 ?k8 ?a9 ?l9 ?c9 ?k9 ?a10 ?l10 ?c10 ?k10 ?a11 ?l11 ?c11 ?k11 ?a12 ?l12 ?c12 ?k12 ?a13 ?l13 ?c13 ?k13 ?a14 ?l14 ?c14 ?k14 ?a15 ?l15 ?c15 ?k15 ?a16 ?l16 ?c16 ?k16 ?a17 ?l17 ?c17 ?k17 ?a18 ?l18 ?c18 ?k18 ?a19 ?l19 ?c19 ?k19 ?a20 ?l20 ?c20 ?k20 ?a21 ?l21 ?c21 ?k21 ?a22 ?l22 ?c22 ?k22 ?a23 ?l23 ?c23 ?k23 ?a24 ?l24 ?c24 ?k24 ?a25 ?l25 ?c25 ?k25 ?a26 ?l26 ?c26 ?k26 ?a27 ?l27 ?c27 ?k27 ?a28 ?l28 ?c28 ?k28 ?a29 ?l29 ?c29 ?k29 ?a30 ?l30 ?c30 ?k30 ?a31 ?l31 ?c31 ?k31 ?a32 ?l32 ?c32 ?k32 ?a33 ?l33 ?c33 ?k33 ?a34 ?l34 ?c34 ?k34 ?a35 ?l35 ?c35 ?k35 ?a36 ?l36 ?c36 ?k36 ?a37 ?l37 ?c37 ?k37 ?a38 ?l38 ?c38 ?k38 ?a39 ?l39 ?c39 ?k39 ?a40 ?l40 ?c40 ?k40 ?a41 ?l41 ?c41 ?k41 ?a42 ?l42 ?c42 ?k42 ?a43 ?l43 ?c43 ?k43 ?a44 ?l44 ?c44 ?k44 ?a45 ?l45 ?c45 ?k45 ?b_NOUGHT ?bt_NOUGHT ?b_WHOLE ?bt_WHOLE ?b_TWICE ?bt_TWICE ?b0 ?b1 ?ca_ad ?cb_ad ?cc_ad ?cx_ad ?ca_f ?cb_f ?cc_f ?cf_f ?cx_f ?cg_f ?cl_f ?co_f ?ck_f ?cs_NoPlan_place ?ca_y ?cb_y ?cc_y ?cf_y ?cx_y ?cg_y ?cl_y ?co_y ?ck_y ?cs_NoThrow_place ?ca_ao ?pa_ao ?pb_ao ?pc_ao ?pd_ao ?pe_ao ?pf_ao ?pg_ao ?ph_ao ?ca_g ?pa_g ?pb_g ?pc_g ?pd_g ?pe_g ?pf_g ?pg_g ?ph_g ?qa_g ?qb_g ?qc_g ?qd_g ?qn_Told_rising ?cl_g ?co_g ?ck_g ?ca_i ?pa_i ?pb_i ?pc_i ?pd_i ?pe_i ?pf_i ?pg_i ?ph_i ?qa_i ?qb_i ?qc_i ?qd_i ?qn_Die_makes ?cl_i ?co_i ?ck_i ?ca_ai ?pa_ai ?pb_ai ?pc_ai ?pd_ai ?pe_ai ?pf_ai ?pg_ai ?ph_ai ?ca_N ?pa_N ?pb_N ?pc_N ?pd_N ?pe_N ?pf_N ?pg_N ?ph_N ?qa_N ?qb_N ?qc_N ?qd_N ?qn_Few_many ?cl_N ?co_N ?ck_N ?ca_n ?pa_n ?pb_n ?pc_n ?pd_n ?pe_n ?pf_n ?pg_n ?ph_n ?qa_n ?qb_n ?qc_n ?qd_n ?qn_Start_step ?cl_n ?co_n ?ck_n ?ca_o ?pa_o ?pb_o ?pc_o ?pd_o ?pe_o ?pf_o ?pg_o ?ph_o ?qa_o ?qb_o ?qc_o ?qd_o ?qn_Loose_many ?cl_o ?co_o ?ck_o ?ca_c ?pa_c ?pb_c ?pc_c ?pd_c ?pe_c ?pf_c ?pg_c ?ph_c ?qa_c ?qb_c ?qc_c ?qd_c ?qn_Duel_many ?cl_c ?co_c ?ck_c ?mf_13 ?ml_13 ?mo_13 ?mk_13 ?mi_13 ?mf_2 ?ml_2 ?mo_2 ?mk_2 ?mi_2 ?mf_14 ?ml_14 ?mo_14 ?mk_14 ?mi_14 ?mf_3 ?ml_3 ?mo_3 ?mk_3 ?mi_3 ?mf_16 ?ml_16 ?mo_16 ?mk_16 ?mi_16 ?mf_5 ?ml_5 ?mo_5 ?mk_5 ?mi_5 ?mf_15 ?ml_15 ?mo_15 ?mk_15 ?mi_15 ?mf_4 ?ml_4 ?mo_4 ?mk_4 ?mi_4 ?mf_1 ?ml_1 ?mo_1 ?mk_1 ?mi_1 ?mf_a ?ml_a ?mo_a ?mk_a ?mi_a ?mf_8 ?ml_8 ?mo_8 ?mk_8 ?mi_8 ?mf_7 ?ml_7 ?mo_7 ?mk_7 ?mi_7 ?mf_b ?ml_b ?mo_b ?mk_b ?mi_b ?mf_9 ?ml_10 ?mo_10 ?mk_10 ?mi_10 ?lca_17 ?lct_17 ?lcq_17 ?lch_d ?lca_18 ?lct_18 ?lcq_18 ?lch_j ?lca_19 ?lct_19 ?lcq_19 ?lch_e ?ltnd ?fact_tn ?fact_kdp ?fact_kdt ?z0 ?z1 ?z2 ?z3 ?z4 ?z5 ?z6 ?z7 ?z8 ?z9 ?z10 ?z11 ?z12 ?z13 ?r0 ?r1
   case a0|l0|c0|k0|a1|l1|c1|k1|a2|l2|c2|k2|a3|l3|c3|k3|a4|l4|c4|k4|a5|l5|c5|k5|a6|l6|c6|k6|a7|l7|c7|k7|a8|l8|c8|k8|a9|l9|c9|k9|a10|l10|c10|k10|a11|l11|c11|k11|a12|l12|c12|k12|a13|l13|c13|k13|a14|l14|c14|k14|a15|l15|c15|k15|a16|l16|c16|k16|a17|l17|c17|k17|a18|l18|c18|k18|a19|l19|c19|k19|a20|l20|c20|k20|a21|l21|c21|k21|a22|l22|c22|k22|a23|l23|c23|k23|a24|l24|c24|k24|a25|l25|c25|k25|a26|l26|c26|k26|a27|l27|c27|k27|a28|l28|c28|k28|a29|l29|c29|k29|a30|l30|c30|k30|a31|l31|c31|k31|a32|l32|c32|k32|a33|l33|c33|k33|a34|l34|c34|k34|a35|l35|c35|k35|a36|l36|c36|k36|a37|l37|c37|k37|a38|l38|c38|k38|a39|l39|c39|k39|a40|l40|c40|k40|a41|l41|c41|k41|a42|l42|c42|k42|a43|l43|c43|k43|a44|l44|c44|k44|a45|l45|c45|k45|b_NOUGHT =>k_is
   case bt_NOUGHT =>kernel_rfl
   case b_WHOLE =>k_is
   case bt_WHOLE =>kernel_rfl
   case b_TWICE =>k_is
   case bt_TWICE =>kernel_rfl
   case b0|b1|ca_ad|cb_ad =>k_is
   case cc_ad|cx_ad =>kernel_rfl
   case ca_f|cb_f =>k_is
   case cc_f =>kernel_rfl
   case cf_f =>k_is
   case cx_f =>kernel_rfl
   case cg_f|cl_f|co_f|ck_f =>k_is
   case cs_NoPlan_place =>kernel_rfl
   case ca_y|cb_y =>k_is
   case cc_y =>kernel_rfl
   case cf_y =>k_is
   case cx_y =>kernel_rfl
   case cg_y|cl_y|co_y|ck_y =>k_is
   case cs_NoThrow_place =>kernel_rfl
   case ca_ao =>k_is
   case pa_ao|pb_ao|pc_ao|pd_ao|pe_ao|pf_ao|pg_ao|ph_ao =>(first | k_is | kernel_rfl)
   case ca_g =>k_is
   case pa_g|pb_g|pc_g|pd_g|pe_g|pf_g|pg_g|ph_g|qa_g|qb_g|qc_g|qd_g|qn_Told_rising =>(first | k_is | kernel_rfl)
   case cl_g|co_g|ck_g|ca_i =>k_is
   case pa_i|pb_i|pc_i|pd_i|pe_i|pf_i|pg_i|ph_i|qa_i|qb_i|qc_i|qd_i|qn_Die_makes =>(first | k_is | kernel_rfl)
   case cl_i|co_i|ck_i|ca_ai =>k_is
   case pa_ai|pb_ai|pc_ai|pd_ai|pe_ai|pf_ai|pg_ai|ph_ai =>(first | k_is | kernel_rfl)
   case ca_N =>k_is
   case pa_N|pb_N|pc_N|pd_N|pe_N|pf_N|pg_N|ph_N|qa_N|qb_N|qc_N|qd_N|qn_Few_many =>(first | k_is | kernel_rfl)
   case cl_N|co_N|ck_N|ca_n =>k_is
   case pa_n|pb_n|pc_n|pd_n|pe_n|pf_n|pg_n|ph_n|qa_n|qb_n|qc_n|qd_n|qn_Start_step =>(first | k_is | kernel_rfl)
   case cl_n|co_n|ck_n|ca_o =>k_is
   case pa_o|pb_o|pc_o|pd_o|pe_o|pf_o|pg_o|ph_o|qa_o|qb_o|qc_o|qd_o|qn_Loose_many =>(first | k_is | kernel_rfl)
   case cl_o|co_o|ck_o|ca_c =>k_is
   case pa_c|pb_c|pc_c|pd_c|pe_c|pf_c|pg_c|ph_c|qa_c|qb_c|qc_c|qd_c|qn_Duel_many =>(first | k_is | kernel_rfl)
   case cl_c|co_c|ck_c =>k_is
   case mf_13 =>(first | k_is | kernel_rfl)
   case ml_13|mo_13|mk_13 =>k_is
   case mi_13|mf_2 =>(first | k_is | kernel_rfl)
   case ml_2|mo_2|mk_2 =>k_is
   case mi_2|mf_14 =>(first | k_is | kernel_rfl)
   case ml_14|mo_14|mk_14 =>k_is
   case mi_14|mf_3 =>(first | k_is | kernel_rfl)
   case ml_3|mo_3|mk_3 =>k_is
   case mi_3|mf_16 =>(first | k_is | kernel_rfl)
   case ml_16|mo_16|mk_16 =>k_is
   case mi_16|mf_5 =>(first | k_is | kernel_rfl)
   case ml_5|mo_5|mk_5 =>k_is
   case mi_5|mf_15 =>(first | k_is | kernel_rfl)
   case ml_15|mo_15|mk_15 =>k_is
   case mi_15|mf_4 =>(first | k_is | kernel_rfl)
   case ml_4|mo_4|mk_4 =>k_is
   case mi_4|mf_1 =>(first | k_is | kernel_rfl)
   case ml_1|mo_1|mk_1 =>k_is
   case mi_1|mf_a =>(first | k_is | kernel_rfl)
   case ml_a|mo_a|mk_a =>k_is
   case mi_a|mf_8 =>(first | k_is | kernel_rfl)
   case ml_8|mo_8|mk_8 =>k_is
   case mi_8|mf_7 =>(first | k_is | kernel_rfl)
   case ml_7|mo_7|mk_7 =>k_is
   case mi_7|mf_b =>(first | k_is | kernel_rfl)
   case ml_b|mo_b|mk_b =>k_is
   case mi_b|mf_9 =>(first | k_is | kernel_rfl)
   case ml_10|mo_10|mk_10 =>k_is
   case mi_10 =>(first | k_is | kernel_rfl)
   case lca_17 =>exact rfl
   case lct_17 =>k_is
   case lcq_17 =>exact rfl
   case lch_d =>kernel_rfl
   case lca_18 =>exact rfl
   case lct_18 =>k_is
   case lcq_18 =>exact rfl
   case lch_j =>kernel_rfl
   case lca_19 =>exact rfl
   case lct_19 =>k_is
   case lcq_19 =>exact rfl
   case lch_e =>kernel_rfl
   case ltnd =>decide
   case fact_tn|fact_kdp|fact_kdt =>kernel_rfl
   case z0|z1|z2|z3|z4|z5|z6|z7|z8|z9|z10|z11|z12|z13 =>k_is
   case r0|r1 =>first | exact rfl | exact ⟨_,rfl⟩
  obtain ⟨a,T,e1⟩:=T
  have e0:=hmg.symm.trans T.m_av
  cases e0
  refine' ⟨a.d_av,?b,?t,?u,fun base kb nb hB=>My.ok_law T hB ?v⟩
  case b=>exact T.bl
  case t =>
   have key:([468,501,416,442,357,383,540,526,519]:List PySem.Addr).all (fun P=>(List.range 620).any fun c=>codeHdIn (L2.KOf KX) c P)=true:=by kernel_rfl
   intro P hP
   obtain ⟨c,_,hc⟩:=List.any_eq_true.mp (all_eq_true.mp key P hP)
   exact ⟨c,hc⟩
  case u =>
   intro P hP
   simp only[mem_cons,not_mem_nil,or_false]at hP
   rcases hP with rfl | rfl | rfl | rfl | rfl | rfl | rfl | rfl | rfl <;> kernel_rfl
  case v =>
   intro q hq
   have:=List.mem_map_of_mem (f:=Prod.fst) hq
   have e1':(My.tabs a).map Prod.fst=[540,526,519]:=e1
   rw[e1']at this
   exact mem_append_right [468,501,416,442,357,383] this
 case S=>exact fun K H a ns hl hO hS=>My.law_start hl hO hS
 case C=>exact fun H s e s' z=>z
