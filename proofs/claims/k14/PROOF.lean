import PyProof.Rows.All
import Wide.All
import OpenK.AllK
import Wide.FinOn
import Lean
import PyProof.EqAt
import PyProof.EqKinds
import PyProof.TupleCall
import PySem.Challenge.RW_fewspeak_k14_tables
open PySem.W(CodeHd FnAt Frag InstAt any_some callWith_K callWith_K0 cellsFrom_some clsIn codeHdIn codeHd_of_K codeIn codeRec_of emptyDict findIn fnOf handedIn hasDictIn instObj isFn keepIn kia_one kitOne kitx_dict kitx_list kitx_tuple kla_fn kla_obj lookIn looks_mroIn looks_typeIn makesIn methodObj mg_none_of mg_of mroIn nsIn nsOkIn plainGet plainGet_of plainOver specialIn tabObj tailIn takerIn takesIn typeIn)
open List(all_cons all_eq_true all_map all_toArray any_cons append_assoc append_nil cons_append drop_drop drop_sublist drop_take ext_getElem foldl_cons forIn_cons getElem_map getElem_mem getElem_range length_append length_cons length_drop length_map length_pos_iff length_range length_singleton length_take lookup_cons mapM_toArray map_append map_congr_left map_cons map_drop map_map map_nil map_take mem_append mem_append_left mem_append_right mem_cons mem_cons_of_mem mem_cons_self mem_filter mem_map mem_of_mem_take mem_range mem_singleton nil_append nodup_append nodup_cons nodup_nil nodup_range not_mem_nil of_mem_zip pairwise_append pairwise_cons pairwise_iff_getElem pairwise_singleton perm_append_comm singleton_append size_toArray sum_append sum_cons sum_nil take_add take_add_one take_append_drop take_length take_of_length_le take_sublist take_zero toList_toArray)
noncomputable section
set_option Elab.async false
set_option linter.all false
set_option maxRecDepth 100000
namespace L2
open PySem PySem.Spec PyProof.Rows
abbrev Key:=Sum Int Str
def iW:Key→Value→Bool
 | .inl k,v=>Value.isInt k v
 | .inr x,v=>Value.isStrOf x v
def yk(w:World):Key→Int
 | .inl k=>hashInt k
 | .inr x=>hashStr w x
theorem bA:∀{k:Key}{v:Value},iW k v=true→(∃ i t,k=Sum.inl i∧v=Value.int i t)∨(∃ x t,k=Sum.inr x∧v=Value.str x t)
 | .inl i,v,h=>by
  obtain ⟨t,e⟩:=Value.isInt_shape (k:=i) (v:=v) h
  exact .inl ⟨i,t,rfl,e⟩
 | .inr x,v,h=>by
  obtain ⟨t,e⟩:=Value.isStrOf_shape (x:=x) (v:=v) h
  exact .inr ⟨x,t,rfl,e⟩
theorem oN(i:Int)(t:Tok):iW (.inl i) (.int i t)=true:=by simp[iW,Value.isInt]
theorem pC(x:Str)(t:Tok):iW (.inr x) (.str x t)=true:=by simp[iW,Value.isStrOf]
theorem u7(a b:Int):decide ((Sum.inl a:Key)=Sum.inl b)=(a == b):=by
 by_cases e:a=b
 ·subst e; simp
 ·have h:¬(Sum.inl a:Key)=Sum.inl b:=fun q=>e (Sum.inl.inj q)
  rw[decide_eq_false h]
  exact (beq_eq_false_iff_ne.mpr e).symm
theorem wg(a b:Str):decide ((Sum.inr a:Key)=Sum.inr b)=decide (a=b):=by
 by_cases e:a=b
 ·subst e; simp
 ·have h:¬(Sum.inr a:Key)=Sum.inr b:=fun q=>e (Sum.inr.inj q)
  rw[decide_eq_false h,decide_eq_false e]
theorem wb(a:Int)(b:Str):decide ((Sum.inl a:Key)=Sum.inr b)=false:=decide_eq_false (fun q=>nomatch q)
theorem vZ(a:Str)(b:Int):decide ((Sum.inr a:Key)=Sum.inl b)=false:=decide_eq_false (fun q=>nomatch q)
def aZ(prog:Program)(w:World):PySem.KeyKind prog w Key where
 is:=iW
 hash:=yk w
 inj:=fun v a b ha hb=>by
  rcases bA ha with ⟨i,t,rfl,rfl⟩ | ⟨x,t,rfl,rfl⟩
  ·rcases bA hb with ⟨j,u,rfl,e⟩ | ⟨y,u,rfl,e⟩
   ·injection e with e1 _; rw[e1]
   ·exact nomatch e
  ·rcases bA hb with ⟨j,u,rfl,e⟩ | ⟨y,u,rfl,e⟩
   ·exact nomatch e
   ·injection e with e1 _; rw[e1]
 byValue:=fun k v h=>by
  rcases bA h with ⟨i,t,rfl,rfl⟩ | ⟨x,t,rfl,rfl⟩ <;> rfl
 pyHash:=fun hv h=>by
  rcases bA hv with ⟨i,t,rfl,rfl⟩ | ⟨x,t,rfl,rfl⟩
  ·exact wpAny_pyHash_int h
  ·exact wpAny_pyHash_str h
 eqBool:=fun hu hv h=>by
  rcases bA hu with ⟨i,t,rfl,rfl⟩ | ⟨x,t,rfl,rfl⟩
  ·rcases bA hv with ⟨j,u,rfl,rfl⟩ | ⟨y,u,rfl,rfl⟩
   ·rw[u7]at h; exact wpAny_eqBool_int h
   ·rw[wb]at h; exact SeqAt.EqAt.int_str i t y u _ _ _ _ h
  ·rcases bA hv with ⟨j,u,rfl,rfl⟩ | ⟨y,u,rfl,rfl⟩
   ·rw[vZ]at h; exact SeqAt.EqAt.str_int x t j u _ _ _ _ h
   ·rw[wg]at h; exact wpAny_eqBool_str h
 «strs»:=fun k x t v h=>by
  rcases bA h with ⟨i,u,rfl,e⟩ | ⟨y,u,rfl,e⟩
  ·exact nomatch e
  ·injection e with e1 _
   subst e1
   cases v <;> rfl
theorem kx(prog:Program)(w:World)(i:Int)(t:Tok):(aZ prog w).is (.inl i) (.int i t)=true:=oN i t
theorem j7(prog:Program)(w:World)(x:Str)(t:Tok):(aZ prog w).is (.inr x) (.str x t)=true:=pC x t
inductive V where
 | non | bl (b:Bool) | int (i:Int) | str (x:Str) | byt (b:Array UInt8) | flt (b:UInt64) | ref (a:Addr) | ty (n:String)
 deriving DecidableEq
def RelV:V→Value→Prop
 | .non,u=>u=Value.none
 | .bl b,u=>u=Value.bool b
 | .int i,u=>∃ t,u=Value.int i t
 | .str x,u=>∃ t,u=Value.str x t
 | .byt b,u=>∃ t,u=Value.bytes b t
 | .flt b,u=>∃ t,u=Value.float b t
 | .ref a,u=>u=Value.ref a
 | .ty n,u=>u=Value.type n
abbrev Vals:List V→List Value→Prop:=Paired RelV
theorem Vals.length{xs:List V}{us:List Value}(r:Vals xs us):xs.length=us.length:=Paired.length r
theorem Vals.get:∀{xs:List V}{us:List Value}{i:Nat}{x:V},Vals xs us→xs[i]? = some x→∃ u,us[i]? = some u∧RelV x u
 | _,_,_,_,.nil,e=>by simp at e
 | _,_,0,_,.cons r _,e=>by simp at e; subst e; exact ⟨_,rfl,r⟩
 | _,_,i+1,x,.cons _ t,e=>by
  obtain ⟨u,h1,h2⟩:=Vals.get (i:=i) (x:=x) t (by simpa using e)
  exact ⟨u,by simpa using h1,h2⟩
theorem Vals.set{x:V}{u:Value}(r:RelV x u):∀{xs:List V}{us:List Value}(i:Nat),Vals xs us→Vals (xs.set i x) (us.set i u)
 | _,_,_,.nil=>.nil
 | _,_,0,.cons _ t=>.cons r t
 | _,_,i+1,.cons q t=>.cons q (Vals.set r i t)
theorem Vals.append:∀{xs ys:List V}{us ws:List Value},Vals xs us→Vals ys ws→Vals (xs++ys) (us++ws)
 | _,_,_,_,.nil,s=>s
 | _,_,_,_,.cons r t,s=>.cons r (Vals.append t s)
def RelO:Option V→Option Value→Prop
 | some v,some u=>RelV v u
 | none,none=>True
 | _,_=>False
def KV{κ:Type}:List (κ×V)→List (κ×Value)→Prop:=Paired fun (p:κ×V) (q:κ×Value)=>p.1=q.1∧RelV p.2 q.2
def kV:Key→V
 | .inl i=>.int i
 | .inr x=>.str x
inductive HO where
 | lst (xs:List V)
 | tup (xs:List V)
 | dK (kvs:List (Key×V)) | dT (kvs:List (List Key×V))
 | set (S:Int→Bool) (n:Nat)
 | ins (C dx:Addr) (fs:List (Str×V))
 | own (x:Addr)
 | xd (fs:List (Str×V))
 | met (f x:Addr)
 | rng (lo hi:Int)
 | frz (o:Obj) (u:HO)
 | tbl (ps:Array Value)
 | ext (φ:Heap→Prop)
abbrev Hp:=Addr→Option HO
def upd(H:Hp)(a:Addr)(o:HO):Hp:=fun b=>if b=a then some o else H b
theorem ad{H:Hp}{a:Addr}{o:HO}:upd H a o a=some o:=by unfold upd; rw[if_pos rfl]
theorem ag{H:Hp}{a b:Addr}{o:HO}(h:b≠a):upd H a o b=H b:=by unfold upd; rw[if_neg h]
theorem ce{H:Hp}{a b:Addr}{o u:HO}(h:H a=some o)(h':H b=some u)(d:o≠u):a≠b:=by
 intro e; subst e; rw[h]at h'; exact d (Option.some.inj h')
theorem au{H:Hp}{a b:Addr}{o:HO}(h:H a=some o)(h':H b=none):a≠b:=by
 intro e; subst e; rw[h]at h'; cases h'
section
variable (P:Program) (w:World)
def ObjOk(H:Hp)(h:Heap)(a:Addr):HO→Prop
 | .lst xs=>xs.length≤sizeLine∧∃(its:List Value) (n:Nat),Vals xs its∧h.get? a=some { cls:=.type "list",data:=.seq its.toArray n }
 | .tup xs=>xs.length≤sizeLine∧∃ its:List Value,Vals xs its∧IsTup h a its.toArray
 | .dK kvs=>kvs.length≤sizeLine∧(a == sysModules)=false∧∃ vs,KV kvs vs∧h.DictOf (aZ P w) a vs
 | .dT kvs=>kvs.length≤sizeLine∧(a == sysModules)=false∧∃ xs:List (List Key×Addr×Value),
   Paired (fun (p:List Key×V) (q:List Key×Addr×Value)=>p.1=q.1∧H q.2.1=some (.tup (p.1.map kV))∧RelV p.2 q.2.2) kvs xs ∧
   ∃ o es ep,h.get? a=some o∧o.ExactDict∧o.data=.dict es ep∧es.toList=xs.map (entryOfKey (tupleKind (aZ P w)))∧(xs.map (·.1)).Nodup
 | .set S n=>h.SetOf (intKind P w) a S n
 | .ins C dx fs=>H dx=some (.own a)∧fs.length≤1000∧dx≠a∧h.get? a=some (instObj C dx) ∧
   ∃ mA,h.Ns1 dx mA∧(∀ f,RelO (fs.lookup f) (mA f))∧PySem.Within mA (fs.map (·.1))
 | .own _=>∃ o,h.get? a=some o
 | .xd fs=>∃ mA,h.Ns1 a mA∧∀ f,RelO (fs.lookup f) (mA f)
 | .rng lo hi=>∃ t u v,h.get? a=some { cls:=.type "range",data:=.fields #[.int lo t,.int hi u,.int 1 v] }
 | .frz o u=>h.get? a=some o∧ObjOk H h a u
 | .tbl ps=>h.get? a=some { cls:=.none,data:=.fields ps }
 | .met f x=>h.get? a=some (methodObj (.ref f) (.ref x))
 | .ext φ=>φ h∧(∃ o,h.get? a=some o)∧∀ h1 h2:Heap,φ h1→(∀ o,h1.get? a=some o→h2.get? a=some o)→φ h2
def HOk(H:Hp)(h:Heap):Prop:=∀ a o,H a=some o→ObjOk P w H h a o
end
section
variable {P:Program}{w:World}{H H':Hp}{h h':Heap}{a:Addr}{o:HO}
theorem ObjOk.lt(x:ObjOk P w H h a o):a<h.objs.size:=by
 cases o with
 | lst xs=>obtain ⟨_,_,_,_,e⟩:=x; exact Heap.lt_size e
 | tup xs=>obtain ⟨_,_,_,p⟩:=x; exact p.lt
 | dK kvs=>obtain ⟨_,_,_,_,o,_,_,e,_⟩:=x; exact Heap.lt_size e
 | dT kvs=>obtain ⟨_,_,_,_,o,_,_,e,_⟩:=x; exact Heap.lt_size e
 | set S n=>obtain ⟨o,_,_,_,e,_⟩:=x; exact Heap.lt_size e
 | ins C dx fs=>obtain ⟨_,_,_,e,_⟩:=x; exact Heap.lt_size e
 | own y=>obtain ⟨_,e⟩:=x; exact Heap.lt_size e
 | xd fs=>obtain ⟨_,⟨_,_,_,e,_⟩,_⟩:=x; exact Heap.lt_size e
 | rng lo hi=>obtain ⟨_,_,_,e⟩:=x; exact Heap.lt_size e
 | frz ob u=>obtain ⟨e,_⟩:=x; exact Heap.lt_size e
 | tbl ps=>exact Heap.lt_size (show h.get? a=some _ from x)
 | met f y=>exact Heap.lt_size (show h.get? a=some _ from x)
 | ext φ=>obtain ⟨_,⟨_,e⟩,_⟩:=x; exact Heap.lt_size e
theorem Paired.mapP{α β:Type}{F G:α→β→Prop}:∀{l₁:List α}{l₂:List β},Paired F l₁ l₂→(∀ a b,F a b→G a b)→Paired G l₁ l₂
 | _,_,.nil,_=>.nil
 | _,_,.cons r t,f=>.cons (f _ _ r) (Paired.mapP t f)
theorem ObjOk.stay(x:ObjOk P w H h a o)(k:∀ b u,(b=a∨H b=some (.own a))→h.get? b=some u→h'.get? b=some u)
  (ho:∀ b,H b=some (.own a)→H' b=some (.own a)) (ht:∀ b xs,H b=some (.tup xs)→H' b=some (.tup xs)):ObjOk P w H' h' a o:=by
 induction o with
 | lst xs=>obtain ⟨z,its,n,r,e⟩:=x; exact ⟨z,its,n,r,k _ _ (.inl rfl) e⟩
 | tup xs=>obtain ⟨z,its,r,ob,e,c⟩:=x; exact ⟨z,its,r,ob,k _ _ (.inl rfl) e,c⟩
 | dK kvs=>obtain ⟨z,y,vs,r,ob,es,ep,e,c⟩:=x; exact ⟨z,y,vs,r,ob,es,ep,k _ _ (.inl rfl) e,c⟩
 | dT kvs =>
  obtain ⟨z,y,xs,r,ob,es,ep,e,c⟩:=x
  exact ⟨z,y,xs,Paired.mapP r fun p q z=>⟨z.1,ht _ _ z.2.1,z.2.2⟩,ob,es,ep,k _ _ (.inl rfl) e,c⟩
 | set S n=>obtain ⟨ob,es,ep,t,e,c⟩:=x; exact ⟨ob,es,ep,t,k _ _ (.inl rfl) e,c⟩
 | ins C dx fs =>
  obtain ⟨d,z,ne,e,mA,⟨od,es,ep,e2,c⟩,r⟩:=x
  exact ⟨ho _ d,z,ne,k _ _ (.inl rfl) e,mA,⟨od,es,ep,k _ _ (.inr d) e2,c⟩,r⟩
 | own y=>obtain ⟨ob,e⟩:=x; exact ⟨ob,k _ _ (.inl rfl) e⟩
 | xd fs=>obtain ⟨mA,⟨od,es,ep,e,c⟩,r⟩:=x; exact ⟨mA,⟨od,es,ep,k _ _ (.inl rfl) e,c⟩,r⟩
 | rng lo hi=>obtain ⟨t,u,v,e⟩:=x; exact ⟨t,u,v,k _ _ (.inl rfl) e⟩
 | frz ob u ih=>obtain ⟨e,q⟩:=x; exact ⟨k _ _ (.inl rfl) e,ih q⟩
 | tbl ps =>
  have e:h.get? a=some { cls:=.none,data:=.fields ps }:=x
  show h'.get? a=some { cls:=.none,data:=.fields ps }
  exact k a _ (.inl rfl) e
 | met f y =>
  have e:h.get? a=some (methodObj (.ref f) (.ref y)):=x
  show h'.get? a=some (methodObj (.ref f) (.ref y))
  exact k a _ (.inl rfl) e
 | ext φ=>obtain ⟨p,⟨o,e⟩,st⟩:=x; exact ⟨st _ _ p fun o q=>k _ _ (.inl rfl) q,⟨o,k _ _ (.inl rfl) e⟩,st⟩
theorem HOk.lt(x:HOk P w H h)(e:H a=some o):a<h.objs.size:=(x a o e).lt
theorem HOk.fresh(x:HOk P w H h)(e:h.objs.size≤a):H a=none:=by
 cases q:H a with
 | none=>rfl
 | some u=>exact absurd (Nat.lt_of_lt_of_le (x.lt q) e) (Nat.lt_irrefl _)
theorem HOk.kept(x:HOk P w H h)(k:∀ b u,h.get? b=some u→h'.get? b=some u):HOk P w H h':=fun a o e =>
 (x a o e).stay (fun b u _ q=>k b u q) (fun _ q=>q) fun _ _ q=>q
theorem HOk.laid(x:HOk P w H h)(k:∀ b u,h.get? b=some u→h'.get? b=some u)(hp:h.objs.size≤a)(new:ObjOk P w (upd H a o) h' a o):HOk P w (upd H a o) h':=fun b u e=>by
 have hn:=x.fresh hp
 by_cases hb:b=a
 ·subst hb; rw[ad]at e; cases e; exact new
 ·rw[ag hb]at e
  exact (x b u e).stay (fun c v _ q=>k c v q) (fun c q=>by rw[ag (au q hn)]; exact q) fun c xs q=>by rw[ag (au q hn)]; exact q
end
def Rd(H:Hp)(a:Addr)(u:HO):Prop:=H a=some u∨∃ o,H a=some (.frz o u)
theorem Rd.ok{P:Program}{w:World}{H:Hp}{h:Heap}{a:Addr}{u:HO}(r:Rd H a u)(x:HOk P w H h):ObjOk P w H h a u:=by
 rcases r with r | ⟨o,r⟩
 ·exact x a u r
 ·obtain ⟨_,q⟩:=x a _ r
  exact q
def Mut:Option HO→Prop
 | some (.lst _)=>True
 | some (.dK _)=>True
 | some (.dT _)=>True
 | some (.set _ _)=>True
 | some (.ins _ _ _)=>True
 | some (.ext _)=>True
 | _=>False
section
variable {P:Program}{w:World}{H:Hp}{h h':Heap}{x e:Addr}{o':HO}
theorem HOk.write(ok:HOk P w H h)(mu:Mut (H x))(he:e=x∨H e=some (.own x))(k:∀ b u,b≠e→h.get? b=some u→h'.get? b=some u)(heo:∃ u,h'.get? e=some u)
  (new:ObjOk P w (upd H x o') h' x o'):HOk P w (upd H x o') h':=fun b u q=>by
 have nown:∀ c y,H c=some (.own y)→c≠x:=fun c y r z=>by subst z; rw[r]at mu; exact mu
 have ntup:∀ c xs,H c=some (.tup xs)→c≠x:=fun c xs r z=>by subst z; rw[r]at mu; exact mu
 by_cases hb:b=x
 ·subst hb; rw[ad]at q; cases q; exact new
 ·rw[ag hb]at q
  by_cases hbe:b=e
  ·have q':H b=some (.own x):=by
    rcases he with z | z
    ·exact absurd (hbe.trans z) hb
    ·rw[hbe]; exact z
   rw[q]at q'; cases q'
   obtain ⟨v,hv⟩:=heo
   exact ⟨v,by rw[hbe]; exact hv⟩
  ·refine (ok b u q).stay (fun c v hc r=>k c v ?_ r) (fun c r=>by rw[ag (nown c b r)]; exact r) fun c xs r=>by rw[ag (ntup c xs r)]; exact r
   rcases hc with rfl | hc
   ·exact hbe
   ·rintro rfl
    rcases he with z | z
    ·exact nown c b hc z
    ·rw[hc]at z; cases z; exact hb rfl
end
structure Un(fs ex:List Addr)(H H':Hp)(h h':Heap):Prop where
 keep:∀ b o,h.get? b=some o→H b=none→b ∉ fs→b ∉ ex→h'.get? b=some o
 slot:∀ b o,h.get? b=some o→H b=none→b∈fs→b ∉ ex→∃ sl,h'.get? b=some { o with slots:=sl }
 free:∀ b o,h.get? b=some o→H b=none→b ∉ ex→H' b=none
 there:∀ b o,h.get? b=some o→b ∉ ex→∃ o',h'.get? b=some o'
 tups:∀ b xs,H b=some (.tup xs)→H' b=some (.tup xs)
 frzs:∀ b o u,H b=some (.frz o u)→H' b=some (.frz o u)
 tbls:∀ b ps,H b=some (.tbl ps)→∃ more,H' b=some (.tbl (ps++more))
section
variable {fs fs' ex ex':List Addr}{H H1 H2:Hp}{h h1 h2 h':Heap}{a x e:Addr}{o:HO}
theorem Un.any(u:Un fs ex H H1 h h1){b:Addr}{ob:Obj}(q:h.get? b=some ob)(n:H b=none)(hx:b ∉ ex):∃ sl,h1.get? b=some { ob with slots:=sl }:=by
 by_cases hb:b∈fs
 ·exact u.slot b ob q n hb hx
 ·exact ⟨ob.slots,u.keep b ob q n hb hx⟩
theorem Un.kept(k:∀ b u,h.get? b=some u→h'.get? b=some u):Un fs ex H H h h' :=
 ⟨fun b ob q _ _ _=>k b ob q,fun b ob q _ _ _=>⟨ob.slots,k b ob q⟩,fun _ _ _ n _=>n,fun b ob q _=>⟨ob,k b ob q⟩,fun _ _ q=>q,fun _ _ _ q=>q,fun _ ps q=>⟨#[],by rw[q]; simp⟩⟩
theorem Un.refl:Un fs ex H H h h:=Un.kept fun _ _ q=>q
theorem Un.laid(k:∀ b u,h.get? b=some u→h'.get? b=some u)(hp:h.objs.size≤a)(hn:H a=none):Un fs ex H (upd H a o) h h' where
 keep:=fun b u q _ _ _=>k b u q
 slot:=fun b u q _ _ _=>⟨u.slots,k b u q⟩
 free:=fun b u q n _=>by rw[ag (Nat.ne_of_lt (Nat.lt_of_lt_of_le (Heap.lt_size q) hp))]; exact n
 there:=fun b u q _=>⟨u,k b u q⟩
 tups:=fun b xs q=>by rw[ag (au q hn)]; exact q
 frzs:=fun b u xs q=>by rw[ag (au q hn)]; exact q
 tbls:=fun b ps q=>⟨#[],by rw[ag (au q hn),q]; simp⟩
theorem Un.write(mu:Mut (H x))(he:e=x∨H e=some (.own x))(k:∀ b u,b≠e→h.get? b=some u→h'.get? b=some u)(heo:∃ u,h'.get? e=some u):Un fs ex H (upd H x o) h h':=by
 have hx:∀ b,H b=none→b≠x:=fun b n z=>by subst z; rw[n]at mu; exact mu
 have hb:∀ b,H b=none→b≠e:=fun b n z=>by
  subst z
  rcases he with r | r
  ·exact hx b n r
  ·rw[n]at r; cases r
 have hm:∀ b u,H b=some u→¬Mut (some u)→b≠x:=fun b u q nm z=>by subst z; rw[q]at mu; exact nm mu
 refine ⟨fun b u q n _ _=>k b u (hb b n) q,fun b u q n _ _=>⟨u.slots,k b u (hb b n) q⟩,fun b u q n _=>by rw[ag (hx b n)]; exact n,fun b u q _=>?_,
  fun b xs q=>by rw[ag (hm b _ q fun z=>z)]; exact q,fun b u xs q=>by rw[ag (hm b _ q fun z=>z)]; exact q,fun b ps q=>⟨#[],by rw[ag (hm b _ q fun z=>z),q]; simp⟩⟩
 by_cases hbe:b=e
 ·subst hbe; exact heo
 ·exact ⟨u,k b u hbe q⟩
end
def trk(h:Heap)(H:Hp):List Addr:=(List.range h.objs.size).filter fun a=>(H a).isSome
def iR(h:Heap)(H:Hp):Heap:=PySem.W.hideAll h (trk h H)
theorem o7(h:Heap)(H:Hp):(iR h H).objs.size=h.objs.size:=PySem.W.hideAll_size _ _
theorem pQ{h:Heap}{H:Hp}{b:Addr}{o:Obj}(e:h.get? b=some o)(n:H b=none):(iR h H).get? b=some o :=
 PySem.W.hideAll_get _ e fun hm=>by
  have q:(H b).isSome=true:=(mem_filter.mp hm).2
  rw[n]at q; simp at q
theorem tL{h:Heap}{H:Hp}{b:Addr}{o:Obj}(e:(iR h H).get? b=some o):h.get? b=some o∧H b=none:=by
 have e':h.get? b=some o:=PySem.W.of_hideAll (trk h H) e
 refine ⟨e',?_⟩
 cases q:H b with
 | none=>rfl
 | some x =>
  have hm:b∈trk h H:=mem_filter.mpr ⟨mem_range.mpr (Heap.lt_size e'),by simp[q]⟩
  have z:(iR h H).get? b=none:=PySem.W.hideAll_none (trk h H) hm
  rw[z]at e; cases e
def sI(g h:Heap)(L:Addr):List (Addr×Obj):=(List.range h.objs.size).filterMap fun a=>if a=L∨(g.get? a).isSome=true then none else (h.get? a).map fun o=>(a,o)
def rest(g h:Heap)(L d:Addr):List (Addr×Obj):=(sI g h L).filter fun p=>decide (p.1≠d)
structure Mod(K:Frag)(mg:Str→Option Value)(base:Heap):Prop where
 kin:K.In base
 glob:base.Ns mainGlobals mg
 blt:∃ mb,base.Ns builtinsNs mb∧∀ x:Str,x ≠ "__name__" → mb x=bootBuiltins x
 nolimit:base.NoLimit
/-- the context: a def's body (or a comprehension's block) running. base: fixed through the whole law; s₀, H₀: the entry; outer: the frames whose slots others may change (a def's callers); stack: all frames that run;
   ex: iterators that were made ahead of the entry and are walked here (a comprehension's); fn: the names whose cells were made at the entry (a def: all; a comprehension's block: its own); calm: not within an except suite; pn: pins that every state bears; xe: what is wanted of an exception that leaves the code -/
structure Cx where
 prog:Program
 w:World
 K:Frag
 mg:Str→Option Value
 base:Heap
 A:Around
 N:List Str
 s₀:Shared
 H₀:Hp
 env:Env
 outer:List Env
 stack:List Env
 ex:List Addr
 fn:Str→Bool
 calm:Bool
 pn:List (Addr×Obj)
 xe:Value→Shared→Prop
def frs(l:List Env):List Addr:=l.filterMap (·.frame)
abbrev Cx.fs(X:Cx):List Addr:=frs X.outer
def Vis(sc:Scope)(x:Str):Prop:=sc.names.lookup x = some .local∨sc.names.lookup x = some .cell∨sc.names.lookup x = some .free
def Loc(sc:Scope)(x:Str):Prop:=sc.names.lookup x = some .local∨sc.names.lookup x = some .cell
def yo(env:Env)(h:Heap)(m:Str→Option Value)(x:Str)(u:Value):Prop :=
 (env.kindOf x = some .local∧m x = some u)∨((env.kindOf x = some .cell∨env.kindOf x = some .free)∧∃ c,env.cells.lookup x = some c∧h.IsCell c (some u))
structure Cx.Ok(X:Cx):Prop where
 mod:Mod X.K X.mg X.base
 kind:X.env.scope.kind=.function
 glob:X.env.globals=mainGlobals
 blt:X.env.builtins=builtinsNs
 above:X.s₀.heap.objs.size≤X.env.locals
 inj:∀ x y c,X.env.cells.lookup x=some c→X.env.cells.lookup y=some c→x=y
 has:∀ x,(X.env.kindOf x=some .cell∨X.env.kindOf x=some .free)→∃ c,X.env.cells.lookup x=some c
 cab:∀ x c,X.fn x=true→X.env.cells.lookup x=some c→X.s₀.heap.objs.size≤c
 hd:X.calm=true→X.A.handled=none
 frames:X.A.frames=some X.stack
 stk:X.stack = X.outer∨(X.stack = X.env :: X.outer∧X.env.frame = some X.env.locals)
 exf:∀ b ∈ X.ex,b≠X.env.locals∧∀ x c,X.env.cells.lookup x = some c→c≠b
 bs:∀ b o,X.base.get? b=some o→X.s₀.heap.get? b=some o∧X.H₀ b=none
 bsz:X.base.objs.size≤X.s₀.heap.objs.size
 noex:∀ b o,X.base.get? b=some o→b ∉ X.ex
 exfs:∀ b∈X.ex,b ∉ X.fs
 funs:X.s₀.heap.FunFrames X.base X.outer
 frf:∀ b∈X.fs,X.H₀ b=none
structure Inv(X:Cx)(pins:List (Addr×Obj))(σ:List (Option V))(H:Hp)(s:Shared):Prop where
 ok:X.Ok
 os:s.os=X.s₀.os
 bare:AllBare s.gens
 base:Un X.fs X.ex X.H₀ H X.s₀.heap s.heap
 loc:∃ m,s.heap.Ns X.env.locals m∧∀(i:Nat) (x:Str) (v:V),X.N[i]? = some x→σ[i]? = some (some v)→Vis X.env.scope x→∃ u,RelV v u∧yo X.env s.heap m x u
 cell:∀ x c,X.env.cells.lookup x=some c→∃ v,s.heap.IsCell c v
 free:H X.env.locals = none
 freeC:∀ x c,X.env.cells.lookup x=some c→H c=none
 pin:∀ p ∈ X.pn ++ pins,s.heap.get? p.1 = some p.2∧H p.1 = none∧p.1≠X.env.locals∧p.1 ∉ X.fs∧∀ v,p.2.data≠.cell v
 hok:HOk X.prog X.w H s.heap
 len:σ.length=X.N.length
section
variable {X:Cx}{pins:List (Addr×Obj)}{σ:List (Option V)}{H H':Hp}{s:Shared}{h':Heap}
theorem Cx.Ok.nofr(ok:X.Ok){b:Addr}{o:Obj}(e:X.base.get? b=some o):b ∉ X.fs:=fun hb=>by
 have:=(ok.funs.mem hb).1
 rw[e]at this; cases this
theorem Inv.bs(I:Inv X pins σ H s):∀ b o,X.base.get? b=some o→s.heap.get? b=some o∧H b=none:=fun b o e =>
 ⟨I.base.keep b o (I.ok.bs b o e).1 (I.ok.bs b o e).2 (I.ok.nofr e) (I.ok.noex b o e),I.base.free b o (I.ok.bs b o e).1 (I.ok.bs b o e).2 (I.ok.noex b o e)⟩
theorem Inv.bk(I:Inv X pins σ H s):∀ b o,X.base.get? b=some o→s.heap.get? b=some o:=fun b o e=>(I.bs b o e).1
theorem Inv.mod(I:Inv X pins σ H s):Mod X.K X.mg X.base:=I.ok.mod
theorem Inv.kIn(I:Inv X pins σ H s):X.K.In s.heap:=I.ok.mod.kin.keeps I.bk
theorem Inv.lt(I:Inv X pins σ H s):X.env.locals < s.heap.objs.size:=let ⟨_,hn,_⟩:=I.loc; hn.lt
theorem Inv.sz(I:Inv X pins σ H s):X.s₀.heap.objs.size≤s.heap.objs.size:=Nat.le_trans I.ok.above (Nat.le_of_lt I.lt)
theorem Inv.nofs(I:Inv X pins σ H s){a:Addr}(h:s.heap.objs.size≤a):a ∉ X.fs:=fun hb=>by
 obtain ⟨_,o,ho,_⟩:=I.ok.funs.mem hb
 exact absurd (Nat.lt_of_lt_of_le (Heap.lt_size ho) (Nat.le_trans I.sz h)) (Nat.lt_irrefl _)
theorem Inv.cne(I:Inv X pins σ H s):∀ x c,X.env.cells.lookup x = some c→c≠X.env.locals:=fun x c e z=>by
 obtain ⟨v,o,ho,hd⟩:=I.cell x c e
 obtain ⟨m,⟨o',es,ep,ho',hd',_⟩,_⟩:=I.loc
 rw[z,ho']at ho; cases ho; rw[hd']at hd; cases hd
theorem Inv.funs(I:Inv X pins σ H s):s.heap.FunFrames X.base X.outer:=by
 have all:∀(l:List Env),(∀ b∈frs l,b∈X.fs)→X.s₀.heap.FunFrames X.base l→s.heap.FunFrames X.base l:=by
  intro l
  induction l with
  | nil=>intro _ _; trivial
  | cons env r ih =>
   intro hs hl
   obtain ⟨hk,⟨L,o,hf,hn,ho,hd⟩,hr⟩:=hl
   have hL:L∈X.fs:=hs L (by unfold frs; rw[List.filterMap_cons,hf]; exact mem_cons_self)
   obtain ⟨sl,e⟩:=I.base.slot L o ho (I.ok.frf L hL) hL fun z=>I.ok.exfs L z hL
   exact ⟨hk,⟨L,_,hf,hn,e,hd⟩,ih (fun b hb=>hs b (by unfold frs; rw[List.filterMap_cons,hf]; exact mem_cons_of_mem _ hb)) hr⟩
 exact all X.outer (fun _ hb=>hb) I.ok.funs
theorem Inv.stack(I:Inv X pins σ H s):s.heap.FunFrames X.base X.stack:=by
 rcases I.ok.stk with e | ⟨e,hf⟩
 ·rw[e]; exact I.funs
 ·rw[e]
  obtain ⟨m,hn,_⟩:=I.loc
  refine .cons (by rw[I.ok.kind]; decide) hf hn ?_ I.funs
  exact Heap.get?_none_of_le (Nat.le_trans I.ok.bsz I.ok.above)
theorem Inv.stkSub(I:Inv X pins σ H s):∀ b ∈ frs X.stack,b ∈ X.env.locals :: X.fs:=fun b hb=>by
 rcases I.ok.stk with e | ⟨e,hf⟩
 ·rw[e]at hb; exact mem_cons_of_mem _ hb
 ·rw[e]at hb
  unfold frs at hb
  rw[List.filterMap_cons,hf]at hb
  exact hb
theorem Inv.stkFree(I:Inv X pins σ H s):∀ b∈frs X.stack,H b=none:=fun b hb=>by
 rcases mem_cons.mp (I.stkSub b hb) with e | hb
 ·rw[e]; exact I.free
 ·obtain ⟨_,o,ho,_⟩:=I.ok.funs.mem hb
  exact I.base.free b o ho (I.ok.frf b hb) fun z=>I.ok.exfs b z hb
theorem Inv.step{g':Array GenState}{t':Nat}{d':Drawn}{ch:List Addr}(I:Inv X pins σ H s)
  (hch:∀ b ∈ ch,(b ∈ X.ex∨X.s₀.heap.objs.size≤b)∧b≠X.env.locals∧(∀ x c,X.env.cells.lookup x = some c→c≠b)∧∀ p ∈ X.pn ++ pins,p.1≠b)
  (keep:∀ b o,b≠X.env.locals→b ∉ X.fs→b ∉ ch→s.heap.get? b = some o→H b = none→h'.get? b = some o)
  (slot:∀ b o,b≠X.env.locals→b ∈ X.fs→b ∉ ch→s.heap.get? b = some o→H b = none→∃ sl,h'.get? b = some { o with slots:=sl }) (free:∀ b o,b ∉ ch→s.heap.get? b = some o→H b = none→H' b = none)
  (there:∀ b o,b ∉ ch→s.heap.get? b=some o→∃ o',h'.get? b=some o')
  (tups:∀ b xs,H b=some (.tup xs)→H' b=some (.tup xs)) (frzs:∀ b o u,H b=some (.frz o u)→H' b=some (.frz o u)) (tbls:∀ b ps,H b=some (.tbl ps)→∃ more,H' b=some (.tbl (ps++more)))
  (ns:∀ m,s.heap.Ns X.env.locals m→h'.Ns X.env.locals m) (hok:HOk X.prog X.w H' h') (hg:AllBare g') :
  Inv X pins σ H' { s with heap:=h',gens:=g',drawn:=d',toks:=t' }:=by
 have neL:∀ b o,X.s₀.heap.get? b = some o→b≠X.env.locals:=fun b o e=>Nat.ne_of_lt (Nat.lt_of_lt_of_le (Heap.lt_size e) I.ok.above)
 have neC:∀ b o,X.s₀.heap.get? b=some o→b ∉ X.ex→b ∉ ch:=fun b o e hx hb=>by
  rcases (hch b hb).1 with z | z
  ·exact hx z
  ·exact absurd (Nat.lt_of_lt_of_le (Heap.lt_size e) z) (Nat.lt_irrefl _)
 have cellK:∀ x c,X.env.cells.lookup x=some c→∀ v,s.heap.IsCell c v→h'.IsCell c v:=fun x c e v ⟨o,ho,hd⟩=>by
  have nch:c ∉ ch:=fun z=>(hch c z).2.2.1 x c e rfl
  by_cases hc:c∈X.fs
  ·obtain ⟨sl,q⟩:=slot c o (I.cne x c e) hc nch ho (I.freeC x c e)
   exact ⟨_,q,hd⟩
  ·exact ⟨o,keep c o (I.cne x c e) hc nch ho (I.freeC x c e),hd⟩
 refine ⟨I.ok,I.os,hg,⟨fun b o e n hb hx=>?_,fun b o e n hb hx=>?_,fun b o e n hx=>?_,fun b o e hx=>?_,fun b xs e=>tups b xs (I.base.tups b xs e),fun b o xs e=>frzs b o xs (I.base.frzs b o xs e),fun b ps e=>?_⟩,?_,fun x c e=>?_,?_,fun x c e=>?_,fun p hp=>?_,hok,I.len⟩
 ·exact keep b o (neL b o e) hb (neC b o e hx) (I.base.keep b o e n hb hx) (I.base.free b o e n hx)
 ·obtain ⟨sl,e1⟩:=I.base.slot b o e n hb hx
  obtain ⟨sl',e2⟩:=slot b _ (neL b o e) hb (neC b o e hx) e1 (I.base.free b o e n hx)
  exact ⟨sl',e2⟩
 ·obtain ⟨o',e1⟩:=I.base.there b o e hx
  exact free b o' (neC b o e hx) e1 (I.base.free b o e n hx)
 ·obtain ⟨o',e1⟩:=I.base.there b o e hx
  exact there b o' (neC b o e hx) e1
 ·obtain ⟨m1,e1⟩:=I.base.tbls b ps e
  obtain ⟨m2,e2⟩:=tbls b _ e1
  exact ⟨m1++m2,by rw[e2,Array.append_assoc]⟩
 ·obtain ⟨m,hn,hl⟩:=I.loc
  refine ⟨m,ns m hn,fun i x v e1 e2 e3=>?_⟩
  obtain ⟨u,r,l⟩:=hl i x v e1 e2 e3
  refine ⟨u,r,?_⟩
  rcases l with l | ⟨k,c,e,z⟩
  ·exact .inl l
  ·exact .inr ⟨k,c,e,cellK x c e _ z⟩
 ·obtain ⟨v,z⟩:=I.cell x c e
  exact ⟨v,cellK x c e v z⟩
 ·obtain ⟨m,⟨o,_,_,ho,_⟩,_⟩:=I.loc
  exact free _ o (fun z=>(hch _ z).2.1 rfl) ho I.free
 ·obtain ⟨v,o,ho,hd⟩:=I.cell x c e
  exact free c o (fun z=>(hch c z).2.2.1 x c e rfl) ho (I.freeC x c e)
 ·obtain ⟨e,n,ne,nf,d⟩:=I.pin p hp
  have nch:p.1 ∉ ch:=fun z=>(hch p.1 z).2.2.2 p hp rfl
  exact ⟨keep p.1 p.2 ne nf nch e n,free p.1 p.2 nch e n,ne,nf,d⟩
theorem Inv.un{t':Nat}(I:Inv X pins σ H s)(u:Un X.fs [] H H' s.heap h')(hok:HOk X.prog X.w H' h'):Inv X pins σ H' { s with heap:=h',toks:=t' }:=by
 obtain ⟨m,⟨o,es,ep,ho,r⟩,_⟩:=id I.loc
 obtain ⟨sl,hL⟩:=u.any ho I.free (by simp)
 exact I.step (g':=s.gens) (d':=s.drawn) (ch:=[]) (fun _ z=>nomatch z) (fun b o _ hb _ e n=>u.keep b o e n hb (by simp)) (fun b o _ hb _ e n=>u.slot b o e n hb (by simp)) (fun b o _ e n=>u.free b o e n (by simp)) (fun b o _ e=>u.there b o e (by simp)) u.tups u.frzs u.tbls (fun m' hm=>by
  obtain ⟨o',es',ep',ho',r'⟩:=hm
  rw[ho]at ho'; cases ho'
  exact ⟨_,es',ep',hL,r'⟩) hok I.bare
theorem Inv.call{g':Array GenState}{t':Nat}{d':Drawn}{ch:List Addr}(I:Inv X pins σ H s)(u:Un (frs X.stack) ch H H' s.heap h')(hok:HOk X.prog X.w H' h')(hg:AllBare g')
  (hch:∀ b ∈ ch,(b ∈ X.ex∨X.s₀.heap.objs.size≤b)∧b≠X.env.locals∧(∀ x c,X.env.cells.lookup x = some c→c≠b)∧∀ p ∈ X.pn ++ pins,p.1≠b) :
  Inv X pins σ H' { s with heap:=h',gens:=g',drawn:=d',toks:=t' }:=by
 obtain ⟨m,⟨o,es,ep,ho,r⟩,_⟩:=id I.loc
 obtain ⟨sl,hL⟩:=u.any ho I.free fun z=>(hch _ z).2.1 rfl
 exact I.step (ch:=ch) hch (fun b o hL hb hc e n=>u.keep b o e n (fun z=>(mem_cons.mp (I.stkSub b z)).elim hL hb) hc) (fun b o _ _ hc e n=>u.any e n hc) (fun b o hc e n=>u.free b o e n hc) (fun b o hc e=>u.there b o e hc) u.tups u.frzs u.tbls (fun m' hm=>by
  obtain ⟨o',es',ep',ho',r'⟩:=hm
  rw[ho]at ho'; cases ho'
  exact ⟨_,es',ep',hL,r'⟩) hok hg
theorem Inv.turned{t':Nat}{it:Addr}(I:Inv X pins σ H s)(k:∀ b o,b≠it→s.heap.get? b = some o→h'.get? b = some o)(hn:H it = none)(hL:it≠X.env.locals)
  (h1:it∈X.ex∨X.s₀.heap.objs.size≤it) (h2:∀ x c,X.env.cells.lookup x=some c→c≠it) (h3:∀ p∈X.pn++pins,p.1≠it):Inv X pins σ H { s with heap:=h',toks:=t' }:=by
 have nit:∀ b u,H b=some u→b≠it:=fun b u e z=>by rw[z,hn]at e; cases e
 refine I.step (g':=s.gens) (d':=s.drawn) (ch:=[it]) (fun b hb=>?_) (fun b o _ _ hc e _=>k b o (fun z=>hc (by simp[z])) e) (fun b o _ _ hc e _=>⟨o.slots,k b o (fun z=>hc (by simp[z])) e⟩) (fun _ _ _ _ n=>n)
  (fun b o hc e=>⟨o,k b o (fun z=>hc (by simp[z])) e⟩) (fun _ _ e=>e) (fun _ _ _ e=>e) (fun b ps e=>⟨#[],by rw[e]; simp⟩) (fun m hm=>?_) (fun b u e=>?_) I.bare
 ·have e:b=it:=by simpa using hb
  subst e
  exact ⟨h1,hL,h2,h3⟩
 ·obtain ⟨o,es,ep,ho,r⟩:=hm
  exact ⟨o,es,ep,k _ o (Ne.symm hL) ho,r⟩
 ·refine (I.hok b u e).stay (fun c v hc q=>k c v ?_ q) (fun _ q=>q) fun _ _ q=>q
  rcases hc with z | z
  ·rw[z]; exact nit b u e
  ·exact nit c _ z
theorem Inv.tok(I:Inv X pins σ H s)(t:Nat):Inv X pins σ H { s with toks:=t }:=I.un (h':=s.heap) (t':=t) Un.refl I.hok
theorem Inv.kept{t':Nat}(I:Inv X pins σ H s)(k:∀ b u,s.heap.get? b=some u→h'.get? b=some u):Inv X pins σ H { s with heap:=h',toks:=t' }:=I.un (Un.kept k) (I.hok.kept k)
theorem Inv.laid{a:Addr}{o:HO}{t':Nat}(I:Inv X pins σ H s)(k:∀ b u,s.heap.get? b=some u→h'.get? b=some u)(hp:s.heap.objs.size≤a)(new:ObjOk X.prog X.w (upd H a o) h' a o) :
  Inv X pins σ (upd H a o) { s with heap:=h',toks:=t' }:=I.un (Un.laid k hp (I.hok.fresh hp)) (I.hok.laid k hp new)
theorem Inv.write{x e:Addr}{o:HO}{t':Nat}(I:Inv X pins σ H s)(mu:Mut (H x))(he:e=x∨H e=some (.own x))(k:∀ b u,b≠e→s.heap.get? b=some u→h'.get? b=some u)(heo:∃ u,h'.get? e=some u)
  (new:ObjOk X.prog X.w (upd H x o) h' x o):Inv X pins σ (upd H x o) { s with heap:=h',toks:=t' }:=I.un (Un.write mu he k heo) (I.hok.write mu he k heo new)
theorem Inv.weak{σ':List (Option V)}(I:Inv X pins σ H s)(hl:σ'.length=σ.length)(w:∀(i:Nat) v,σ'[i]? = some (some v)→σ[i]? = some (some v)):Inv X pins σ' H s :=
 ⟨I.ok,I.os,I.bare,I.base,let ⟨m,hn,hl'⟩:=I.loc; ⟨m,hn,fun i x v e1 e2 e3=>hl' i x v e1 (w i v e2) e3⟩,I.cell,I.free,I.freeC,I.pin,I.hok,hl.trans I.len⟩
theorem Inv.pins_of{pins':List (Addr×Obj)}(I:Inv X pins σ H s)(h:∀ p ∈ pins',s.heap.get? p.1 = some p.2∧H p.1 = none∧p.1≠X.env.locals∧p.1 ∉ X.fs∧∀ v,p.2.data≠.cell v):Inv X pins' σ H s :=
 ⟨I.ok,I.os,I.bare,I.base,I.loc,I.cell,I.free,I.freeC,fun p hp=>(mem_append.mp hp).elim (fun z=>I.pin p (mem_append_left _ z)) (h p),I.hok,I.len⟩
theorem iz{N:List Str}(hN:N.Nodup){i j:Nat}{x:Str}(a:N[i]? = some x)(b:N[j]? = some x):i=j:=by
 obtain ⟨h1,e1⟩:=List.getElem?_eq_some_iff.mp a
 obtain ⟨h2,e2⟩:=List.getElem?_eq_some_iff.mp b
 exact (List.getElem_inj hN).mp (e1.trans e2.symm)
theorem jn{M:Model}{A:Around}{E:Value→Shared→Prop}{i:Nat}{x:Str}{v:V}{u:Value}{Q:Unit→Shared→Prop}(I:Inv X pins σ H s)(hN:X.N.Nodup)(hi:X.N[i]? = some x)(hx:Loc X.env.scope x)(r:RelV v u)
  (h:∀ s',Inv X pins (σ.set i (some v)) H s'→(∃ a,Heap.SameBut a s.heap s'.heap∧(a = X.env.locals∨X.env.cells.lookup x = some a))→Q () s') (hf:X.fn x = true∨X.env.scope.names.lookup x = some .local:=by first | exact .inl rfl | exact .inr rfl | assumption):wpAny M A (storeName X.env x u) Q E s:=by
 obtain ⟨m,hn,hl⟩:=id I.loc
 have hcls:(X.env.scope.kind == .class || (X.env.scope.kind == .module && X.env.locals != X.env.globals)) = false:=by rw[I.ok.kind]; rfl
 have hiσ:i<σ.length:=by rw[I.len]; exact (List.getElem?_eq_some_iff.mp hi).1
 have cne:=I.cne
 have tracked:∀{a:Addr}{h':Heap},(∃ o,s.heap.get? a=some o∧H a=none)→Heap.SameBut a s.heap h'→HOk X.prog X.w H h':=fun {a h'} ha hs b ob e=>by
  obtain ⟨_,_,hfree⟩:=ha
  refine (I.hok b ob e).stay (fun c w' hc q=>(hs.2 c ?_).trans q) (fun _ q=>q) fun _ _ q=>q
  rintro rfl
  rcases hc with rfl | hc
  ·rw[hfree]at e; cases e
  ·rw[hfree]at hc; cases hc
 rcases hx with hk | hk
 ·refine wpAny_storeName_local hk hn (fun h' hn' hs=>?_) hcls
  obtain ⟨oL,_,_,hoL,_⟩:=id hn
  refine h _ ⟨I.ok,I.os,I.bare,⟨fun b o e n hb hx=>?_,fun b o e n hb hx=>?_,I.base.free,fun b o e hx=>?_,I.base.tups,I.base.frzs,I.base.tbls⟩,⟨_,hn',fun j y v' e1 e2 e3=>?_⟩,fun y c e=>?_,I.free,I.freeC,fun p hp=>?_,tracked ⟨oL,hoL,I.free⟩ hs,by simpa using I.len⟩ ⟨_,hs,.inl rfl⟩
  ·exact (hs.2 b (Nat.ne_of_lt (Nat.lt_of_lt_of_le (Heap.lt_size e) I.ok.above))).trans (I.base.keep b o e n hb hx)
  ·obtain ⟨sl,e1⟩:=I.base.slot b o e n hb hx
   exact ⟨sl,(hs.2 b (Nat.ne_of_lt (Nat.lt_of_lt_of_le (Heap.lt_size e) I.ok.above))).trans e1⟩
  ·obtain ⟨o',e1⟩:=I.base.there b o e hx
   exact ⟨o',(hs.2 b (Nat.ne_of_lt (Nat.lt_of_lt_of_le (Heap.lt_size e) I.ok.above))).trans e1⟩
  ·by_cases hj:j=i
   ·subst hj
    rw[hi]at e1; cases e1
    rw[List.getElem?_set_self hiσ]at e2
    cases e2
    exact ⟨u,r,.inl ⟨hk,by simp⟩⟩
   ·rw[List.getElem?_set_ne (Ne.symm hj)]at e2
    obtain ⟨u',r',q⟩:=hl j y v' e1 e2 e3
    refine ⟨u',r',?_⟩
    rcases q with ⟨k,e⟩ | ⟨k,c,e,z⟩
    ·refine .inl ⟨k,?_⟩
     have:y≠x:=fun e=>hj (iz hN e1 (e ▸ hi))
     simp[this,e]
    ·exact .inr ⟨k,c,e,z.sameBut hs (cne y c e)⟩
  ·obtain ⟨w',z⟩:=I.cell y c e
   exact ⟨w',z.sameBut hs (cne y c e)⟩
  ·obtain ⟨e,n,ne,nf,d⟩:=I.pin p hp
   exact ⟨(hs.2 p.1 ne).trans e,n,ne,nf,d⟩
 ·have hfn:X.fn x=true:=by
   rcases hf with z | z
   ·exact z
   ·rw[z]at hk; cases hk
  obtain ⟨c,hc⟩:=I.ok.has x (.inl hk)
  obtain ⟨w',z⟩:=I.cell x c hc
  refine wpAny_storeName_cell I.ok.kind hk hc z (fun h' hc' hs=>?_)
  obtain ⟨oc,hoc,hocd⟩:=id z
  refine h { s with heap:=h' } ⟨I.ok,I.os,I.bare,⟨fun b o e n hb hx=>?_,fun b o e n hb hx=>?_,I.base.free,fun b o e hx=>?_,I.base.tups,I.base.frzs,I.base.tbls⟩,⟨m,hn.sameBut hs (Ne.symm (cne x c hc)),fun j y v' e1 e2 e3=>?_⟩,fun y c' e=>?_,I.free,I.freeC,fun p hp=>?_,tracked ⟨oc,hoc,I.freeC x c hc⟩ hs,by simpa using I.len⟩ ⟨c,hs,.inr hc⟩
  ·exact (hs.2 b (Nat.ne_of_lt (Nat.lt_of_lt_of_le (Heap.lt_size e) (I.ok.cab x c hfn hc)))).trans (I.base.keep b o e n hb hx)
  ·obtain ⟨sl,e1⟩:=I.base.slot b o e n hb hx
   exact ⟨sl,(hs.2 b (Nat.ne_of_lt (Nat.lt_of_lt_of_le (Heap.lt_size e) (I.ok.cab x c hfn hc)))).trans e1⟩
  ·obtain ⟨o',e1⟩:=I.base.there b o e hx
   exact ⟨o',(hs.2 b (Nat.ne_of_lt (Nat.lt_of_lt_of_le (Heap.lt_size e) (I.ok.cab x c hfn hc)))).trans e1⟩
  ·by_cases hj:j=i
   ·subst hj
    rw[hi]at e1; cases e1
    rw[List.getElem?_set_self hiσ]at e2
    cases e2
    exact ⟨u,r,.inr ⟨.inl hk,c,hc,hc'⟩⟩
   ·rw[List.getElem?_set_ne (Ne.symm hj)]at e2
    obtain ⟨u',r',q⟩:=hl j y v' e1 e2 e3
    refine ⟨u',r',?_⟩
    rcases q with q | ⟨k,c',e,z'⟩
    ·exact .inl q
    ·refine .inr ⟨k,c',e,z'.sameBut hs ?_⟩
     rintro rfl
     exact hj (iz hN e1 (I.ok.inj _ _ _ e hc ▸ hi))
  ·by_cases hcc:c'=c
   ·subst hcc; exact ⟨_,hc'⟩
   ·obtain ⟨w2,z2⟩:=I.cell y c' e
    exact ⟨w2,z2.sameBut hs hcc⟩
  ·obtain ⟨e,n,ne,nf,d⟩:=I.pin p hp
   refine ⟨(hs.2 p.1 ?_).trans e,n,ne,nf,d⟩
   intro q
   rw[q,hoc]at e
   have q':oc=p.2:=Option.some.inj e
   exact d w' (by rw[← q']; exact hocd)
theorem eG{M:Model}{A:Around}{E:Value→Shared→Prop}{i:Nat}{x:Str}{v:V}{u:Value}{Q:Unit→Shared→Prop}(I:Inv X pins σ H s)(hN:X.N.Nodup)(hi:X.N[i]? = some x)(hx:Loc X.env.scope x)(r:RelV v u)
  (h:∀ s',Inv X pins (σ.set i (some v)) H s'→Q () s') (hf:X.fn x = true∨X.env.scope.names.lookup x = some .local:=by first | exact .inl rfl | exact .inr rfl | assumption):wpAny M A (storeName X.env x u) Q E s :=
 jn I hN hi hx r (fun s' I' _=>h s' I') hf
theorem Inv.call'{s':Shared}{ch:List Addr}(I:Inv X pins σ H s)(ho:s'.os=s.os)(u:Un (frs X.stack) ch H H' s.heap s'.heap)(hok:HOk X.prog X.w H' s'.heap)(hg:AllBare s'.gens)
  (hch:∀ b ∈ ch,(b ∈ X.ex∨X.s₀.heap.objs.size≤b)∧b≠X.env.locals∧(∀ x c,X.env.cells.lookup x = some c→c≠b)∧∀ p ∈ X.pn ++ pins,p.1≠b):Inv X pins σ H' s':=by
 obtain ⟨h',g',d',t',o'⟩:=s'
 have e:o'=s.os:=ho
 subst e
 exact I.call (g':=g') (t':=t') (d':=d') u hok hg hch
end
abbrev XK:=Value→Option Addr→Hp→Prop
abbrev St:=List (Option V)
abbrev VK:=V→Hp→Prop
abbrev TE:=St→Hp→VK→Prop
abbrev TT:=St→Hp→(Bool→Hp→Prop)→Prop
abbrev TA:=St→Hp→(List V→Hp→Prop)→Prop
structure Ends where
 nx:St→Hp→Prop
 rt:VK
 bk:St→Hp→Prop:=fun _ _=>False
 ct:St→Hp→Prop:=fun _ _=>False
abbrev TS:=Ends→St→Hp→Prop
def EP(X:Cx)(pins:List (Addr×Obj))(σ:St)(Q:VK)(u:Value)(s':Shared):Prop:=∃ v H',Inv X pins σ H' s'∧RelV v u∧Q v H'
def TP(X:Cx)(pins:List (Addr×Obj))(σ:St)(Q:Bool→Hp→Prop)(b:Bool)(s':Shared):Prop:=∃ H',Inv X pins σ H' s'∧Q b H'
def AP(X:Cx)(pins:List (Addr×Obj))(σ:St)(Q:List V→Hp→Prop)(us:List Value)(s':Shared):Prop:=∃ vs H',Inv X pins σ H' s'∧Vals vs us∧Q vs H'
def SP(X:Cx)(pins:List (Addr×Obj))(D:Ends)(f:Flow)(s':Shared):Prop :=
 match f with
 | .next=>∃ σ' H',Inv X pins σ' H' s'∧D.nx σ' H'
 | .brk=>∃ σ' H',Inv X pins σ' H' s'∧D.bk σ' H'
 | .cont=>∃ σ' H',Inv X pins σ' H' s'∧D.ct σ' H'
 | .ret u=>∃ v σ' H',Inv X pins σ' H' s'∧RelV v u∧D.rt v H'
def PE(X:Cx)(e:Expr)(t:TE):Prop :=
 ∀(pins:List (Addr×Obj)) (s:Shared) (σ:St) (H:Hp) (Q:VK),Inv X pins σ H s→t σ H Q→wpAny (model X.prog X.w) X.A (eval e X.env) (EP X pins σ Q) X.xe s
def PT(X:Cx)(e:Expr)(t:TT):Prop :=
 ∀(pins:List (Addr×Obj)) (s:Shared) (σ:St) (H:Hp) (Q:Bool→Hp→Prop),Inv X pins σ H s→t σ H Q→wpAny (model X.prog X.w) X.A (isTrue e X.env (eval e X.env)) (TP X pins σ Q) X.xe s
def PW(X:Cx)(e:Expr)(t:TT):Prop :=
 ∀(whole:Sem Value) (pins:List (Addr×Obj)) (s:Shared) (σ:St) (H:Hp) (Q:Bool→Hp→Prop),Inv X pins σ H s→t σ H Q→wpAny (model X.prog X.w) X.A (isTrue e X.env whole) (TP X pins σ Q) X.xe s
theorem PW.pt{X:Cx}{e:Expr}{t:TT}(h:PW X e t):PT X e t:=h _
def PA(X:Cx)(es:List Expr)(t:TA):Prop :=
 ∀(pos:Pos) (pins:List (Addr×Obj)) (s:Shared) (σ:St) (H:Hp) (Q:List V→Hp→Prop),Inv X pins σ H s→t σ H Q→wpAny (model X.prog X.w) X.A (spliced (backTo pos (starEach es X.env))) (AP X pins σ Q) X.xe s
def PS(X:Cx)(st:Stmt)(t:TS):Prop :=
 ∀(pins:List (Addr×Obj)) (s:Shared) (σ:St) (H:Hp) (D:Ends),Inv X pins σ H s→t D σ H→wpAny (model X.prog X.w) X.A (exec st X.env) (SP X pins D) X.xe s
def PSs(X:Cx)(st:List Stmt)(t:TS):Prop :=
 ∀(pins:List (Addr×Obj)) (s:Shared) (σ:St) (H:Hp) (D:Ends),Inv X pins σ H s→t D σ H→wpAny (model X.prog X.w) X.A (execs st X.env) (SP X pins D) X.xe s
theorem thn{α:Type}{t:Sem α}{Q Q':α→Shared→Prop}{M:Model}{A:Around}{E:Value→Shared→Prop}{s:Shared}(h:wpAny M A t Q E s)(hQ:∀ a s,Q a s→Q' a s):wpAny M A t Q' E s:=wpAny_mono h hQ fun _ _ x=>x
section
variable {X:Cx}
def xQ(i:Nat):TE:=fun σ H Q=>∃ v,σ[i]? = some (some v)∧Q v H
def tC(v:V):TE:=fun _ H Q=>Q v H
theorem vt{i:Nat}{x:Str}{pos:Pos}(hN:X.N[i]? = some x)(hv:Vis X.env.scope x)(hd:(x == ("__debug__" : Str))=false:=by decide)(hcd:(x == ("__classdict__" : Str))=false:=by decide):PE X (.Name x pos) (xQ i):=by
 intro pins s σ H Q I h
 obtain ⟨v,e,h⟩:=h
 obtain ⟨m,hn,hl⟩:=I.loc
 obtain ⟨u,r,l⟩:=hl i x v hN e hv
 have fin:EP X pins σ Q u s:=⟨v,H,I,r,h⟩
 rcases l with ⟨hk,hm⟩ | ⟨hk,c,hc,hcell⟩
 ·exact wpAny_Name (wpAny_loadName_local I.ok.kind hk hn hm fin) hd
 ·rcases hk with hk | hk
  ·exact wpAny_Name (wpAny_loadName_cell I.ok.kind hk hc hcell fin) hd
  ·exact wpAny_Name (wpAny_loadName_free I.ok.kind hk hc hcell fin hcd) hd
theorem ai{i j pos}:PE X (.Constant (.int i) j pos) (tC (.int i)):=fun _ _ _ H _ I h=>wpAny_Constant_int ⟨.int i,H,I.tok _,⟨_,rfl⟩,h⟩
theorem fu{b j pos}:PE X (.Constant (.bool b) j pos) (tC (.bl b)):=fun _ _ _ H _ I h=>Constant_bool ⟨.bl b,H,I,rfl,h⟩
theorem vv{j pos}:PE X (.Constant .none j pos) (tC .non):=fun _ _ _ H _ I h=>Constant_none ⟨.non,H,I,rfl,h⟩
theorem hV{x j pos}:PE X (.Constant (.str x) j pos) (tC (.str x)):=fun _ _ _ H _ I h=>Calls.Constant_str ⟨.str x,H,I.tok _,⟨_,rfl⟩,h⟩
def Gl(X:Cx)(x:Str):Prop:=X.env.kindOf x=some .globalImplicit
theorem eK{E:Value→Shared→Prop}{pins:List (Addr×Obj)}{s:Shared}{σ:St}{H:Hp}{x:Str}{u:Value}{pos:Pos}{Q:Value→Shared→Prop}(I:Inv X pins σ H s)(hg:Gl X x)(hm:X.mg x=some u)(h:Q u s)
  (hd:(x == ("__debug__" : Str))=false:=by decide):wpAny (model X.prog X.w) X.A (eval (.Name x pos) X.env) Q E s :=
 Calls.Name_function_global I.ok.kind hg (Calls.loadGlobal_global (by rw[I.ok.glob]; exact I.mod.glob.keeps I.bk) hm h) hd
theorem gS{E:Value→Shared→Prop}{pins:List (Addr×Obj)}{s:Shared}{σ:St}{H:Hp}{x:Str}{u:Value}{pos:Pos}{Q:Value→Shared→Prop}(I:Inv X pins σ H s)(hg:Gl X x)(hm:X.mg x=none)(hv:bootBuiltins x=some u)(h:Q u s)
  (hn:x ≠ "__name__" := by decide) (hd:(x == ("__debug__" : Str))=false:=by decide):wpAny (model X.prog X.w) X.A (eval (.Name x pos) X.env) Q E s:=by
 obtain ⟨mb,h1,h2⟩:=I.mod.blt
 exact Calls.Name_function_global I.ok.kind hg (Calls.loadGlobal_builtin (by rw[I.ok.glob]; exact I.mod.glob.keeps I.bk) hm (by rw[I.ok.blt]; exact h1.keeps I.bk) ((h2 x hn).trans hv) h) hd
theorem ug{x:Str}{v:V}{u:Value}{pos:Pos}(hg:Gl X x)(hm:X.mg x=some u)(r:RelV v u)(hd:(x == ("__debug__" : Str))=false:=by decide):PE X (.Name x pos) (tC v) :=
 fun _ _ _ H _ I h=>eK I hg hm ⟨v,H,I,r,h⟩ hd
theorem dX{x:Str}{v:V}{u:Value}{pos:Pos}(hg:Gl X x)(hm:X.mg x=none)(hv:bootBuiltins x=some u)(r:RelV v u)(hn:x ≠ "__name__" := by decide)(hd:(x == ("__debug__" : Str))=false:=by decide):PE X (.Name x pos) (tC v) :=
 fun _ _ _ H _ I h=>gS I hg hm hv ⟨v,H,I,r,h⟩ hn hd
variable {a b:Expr}{ta tb:TE}{pos:Pos}
def tB(t:TE):TT:=fun σ H Q=>t σ H fun x H1=>∃ c,x=.bl c∧Q c H1
variable {tA tB':TT}{rest:List Expr}
def ym(t u:TT):TT:=fun σ H Q=>t σ H fun c H1=>if c=true then u σ H1 Q else Q false H1
def tOr(t u:TT):TT:=fun σ H Q=>t σ H fun c H1=>if c=true then Q true H1 else u σ H1 Q
def xX(t:TT):TT:=fun σ H Q=>t σ H fun c H1=>Q (!c) H1
theorem jK(ha:PT X a tA):PW X (.BoolOp .And [a] pos) tA:=by
 intro wh pins s σ H Q I h
 refine isTrue_and (thn (ha pins s σ H Q I h) fun c s1 e=>?_)
 cases c with
 | true=>exact isTrue_and_nil e
 | false=>exact e
theorem iF(ha:PT X a tA):PW X (.BoolOp .Or [a] pos) tA:=by
 intro wh pins s σ H Q I h
 refine isTrue_or (thn (ha pins s σ H Q I h) fun c s1 e=>?_)
 cases c with
 | false=>exact isTrue_or_nil e
 | true=>exact e
theorem lE(ha:PT X a tA)(hb:PW X (.BoolOp .And (b::rest) pos) tB'):PW X (.BoolOp .And (a::b::rest) pos) (ym tA tB'):=by
 intro wh pins s σ H Q I h
 refine isTrue_and (thn (ha pins s σ H _ I h) fun c s1 ⟨H1,I1,q1⟩=>?_)
 cases c with
 | true=>exact hb wh pins s1 σ H1 Q I1 q1
 | false=>exact ⟨H1,I1,q1⟩
theorem gY(ha:PT X a tA)(hb:PW X (.BoolOp .Or (b::rest) pos) tB'):PW X (.BoolOp .Or (a::b::rest) pos) (tOr tA tB'):=by
 intro wh pins s σ H Q I h
 refine isTrue_or (thn (ha pins s σ H _ I h) fun c s1 ⟨H1,I1,q1⟩=>?_)
 cases c with
 | true=>exact ⟨H1,I1,q1⟩
 | false=>exact hb wh pins s1 σ H1 Q I1 q1
theorem eu(ha:PT X a tA):PT X (.UnaryOp .Not a pos) (xX tA):=by
 intro pins s σ H Q I h
 exact isTrue_not (ha pins s σ H (fun c H1=>Q (!c) H1) I h)
theorem pX{op}{t:TE}(h:PE X a t):PE X (.BoolOp op [a] pos) t:=fun pins s σ H Q I hw=>BoolOp_one (h pins s σ H Q I hw)
end
def SqL(K:Frag)(H:Hp)(a:Addr)(xs:List V):Prop :=
 Rd H a (.lst xs) ∨
  ∃(o:Obj) (its:Array Value) (n:Nat),K.lookup a=some o∧o.cls=.type "list" ∧ o.dict=none∧o.data=.seq its n∧its.size≤sizeLine∧Vals xs its.toList
def SqT(K:Frag)(H:Hp)(a:Addr)(xs:List V):Prop :=
 Rd H a (.tup xs) ∨
  ∃(o:Obj) (its:Array Value) (n:Nat),K.lookup a=some o∧o.cls=.type "tuple" ∧ o.data=.seq its n∧its.size≤sizeLine∧Vals xs its.toList
def yi:Value→Option V
 | .none=>some .non
 | .bool b=>some (.bl b)
 | .int i _=>some (.int i)
 | .str x _=>some (.str x)
 | .bytes b _=>some (.byt b)
 | .float b _=>some (.flt b)
 | .ref a=>some (.ref a)
 | .type n=>some (.ty n)
 | _=>none
theorem RelV.abs{x:V}{u:Value}(r:RelV x u):yi u=some x:=by
 cases x with
 | non=>cases r; rfl
 | bl _=>cases r; rfl
 | int _=>obtain ⟨t,rfl⟩:=r; rfl
 | str _=>obtain ⟨t,rfl⟩:=r; rfl
 | byt _=>obtain ⟨t,rfl⟩:=r; rfl
 | flt _=>obtain ⟨t,rfl⟩:=r; rfl
 | ref _=>cases r; rfl
 | ty _=>cases r; rfl
theorem RelV.inj{x y:V}{u:Value}(r:RelV x u)(q:RelV y u):x=y:=Option.some.inj (r.abs.symm.trans q.abs)
theorem Vals.inj:∀{xs ys:List V}{us:List Value},Vals xs us→Vals ys us→xs=ys
 | _,_,_,.nil,.nil=>rfl
 | _,_,_,.cons r t,.cons r' t'=>by rw[r.inj r',Vals.inj t t']
section
variable {X:Cx}{pins:List (Addr×Obj)}{σ:St}{H:Hp}{s:Shared}{a:Addr}{xs ys:List V}
theorem SqL.of{K:Frag}(h:H a=some (.lst xs)):SqL K H a xs:=.inl (.inl h)
theorem SqT.of{K:Frag}(h:H a=some (.tup xs)):SqT K H a xs:=.inl (.inl h)
theorem Inv.list(I:Inv X pins σ H s)(h:SqL X.K H a xs):∃ its:List Value,Vals xs its∧PlainL s.heap a its.toArray∧xs.length≤sizeLine:=by
 rcases h with h | ⟨o,its,n,hk,hc,hd,hs,hz,r⟩
 ·obtain ⟨z,its,n,r,e⟩:=h.ok I.hok
  exact ⟨its,r,⟨_,n,e,rfl,rfl,rfl⟩,z⟩
 ·refine ⟨its.toList,r,⟨o,n,I.kIn a o hk,hc,hd,by simpa using hs⟩,?_⟩
  have e:=r.length
  simp only[Array.length_toList]at e
  lia
theorem Inv.tuple(I:Inv X pins σ H s)(h:SqT X.K H a xs):∃ its:List Value,Vals xs its∧IsTup s.heap a its.toArray∧xs.length≤sizeLine:=by
 rcases h with h | ⟨o,its,n,hk,hc,hs,hz,r⟩
 ·obtain ⟨z,its,r,p⟩:=h.ok I.hok
  exact ⟨its,r,p,z⟩
 ·refine ⟨its.toList,r,⟨o,I.kIn a o hk,hc,n,by simpa using hs⟩,?_⟩
  have e:=r.length
  simp only[Array.length_toList]at e
  lia
theorem Inv.list_inj(I:Inv X pins σ H s)(h:SqL X.K H a xs)(h':SqL X.K H a ys):xs=ys:=by
 obtain ⟨its,r,⟨o,n,e,_,_,d⟩,_⟩:=I.list h
 obtain ⟨its',r',⟨o',n',e',_,_,d'⟩,_⟩:=I.list h'
 rw[e]at e'; cases e'
 rw[d]at d'
 injection d' with d1 _
 have:its=its':=by simpa using congrArg Array.toList d1
 subst this
 exact r.inj r'
theorem Inv.tuple_inj(I:Inv X pins σ H s)(h:SqT X.K H a xs)(h':SqT X.K H a ys):xs=ys:=by
 obtain ⟨its,r,⟨o,e,_,n,d⟩,_⟩:=I.tuple h
 obtain ⟨its',r',⟨o',e',_,n',d'⟩,_⟩:=I.tuple h'
 rw[e]at e'; cases e'
 rw[d]at d'
 injection d' with d1 _
 have:its=its':=by simpa using congrArg Array.toList d1
 subst this
 exact r.inj r'
end
abbrev Cx.wish(X:Cx)(E:Value→Shared→Prop):Cx:={ X with xe:=E }
abbrev Cx.nox(X:Cx):Cx:=X.wish fun _ _=>False
theorem Cx.Ok.wish{X:Cx}(ok:X.Ok)(E:Value→Shared→Prop):(X.wish E).Ok :=
 ⟨ok.mod,ok.kind,ok.glob,ok.blt,ok.above,ok.inj,ok.has,ok.cab,ok.hd,ok.frames,ok.stk,ok.exf,ok.bs,ok.bsz,ok.noex,ok.exfs,ok.funs,ok.frf⟩
theorem Cx.Ok.unwish{X:Cx}{E:Value→Shared→Prop}(ok:(X.wish E).Ok):X.Ok :=
 ⟨ok.mod,ok.kind,ok.glob,ok.blt,ok.above,ok.inj,ok.has,ok.cab,ok.hd,ok.frames,ok.stk,ok.exf,ok.bs,ok.bsz,ok.noex,ok.exfs,ok.funs,ok.frf⟩
section
variable {X:Cx}{pins:List (Addr×Obj)}{σ:St}{H:Hp}{s:Shared}{E:Value→Shared→Prop}
theorem Inv.wish(I:Inv X pins σ H s)(E:Value→Shared→Prop):Inv (X.wish E) pins σ H s:=⟨I.ok.wish E,I.os,I.bare,I.base,I.loc,I.cell,I.free,I.freeC,I.pin,I.hok,I.len⟩
theorem Inv.unwish(I:Inv (X.wish E) pins σ H s):Inv X pins σ H s:=⟨I.ok.unwish,I.os,I.bare,I.base,I.loc,I.cell,I.free,I.freeC,I.pin,I.hok,I.len⟩
theorem SP.unwish{D:Ends}{f:Flow}{s':Shared}(h:SP (X.wish E) pins D f s'):SP X pins D f s':=by
 cases f with
 | next=>obtain ⟨σ',H',I,q⟩:=h; exact ⟨σ',H',I.unwish,q⟩
 | brk=>obtain ⟨σ',H',I,q⟩:=h; exact ⟨σ',H',I.unwish,q⟩
 | cont=>obtain ⟨σ',H',I,q⟩:=h; exact ⟨σ',H',I.unwish,q⟩
 | ret u=>obtain ⟨v,σ',H',I,r,q⟩:=h; exact ⟨v,σ',H',I.unwish,r,q⟩
theorem PSs.nox{st:List Stmt}{t:TS}(h:PSs X.nox st t):PSs X st t:=fun pins s σ H D I hw =>
 wpAny_mono (h pins s σ H D (I.wish _) hw) (fun _ _ q=>q.unwish) fun _ _ z=>False.elim z
end
section
variable {X:Cx}{st:Stmt}{rest:List Stmt}{t u:TS}{e:Expr}{te:TE}{pos:Pos}
def wK:TS:=fun D σ H=>D.nx σ H
def bI(t u:TS):TS:=fun D σ H=>t { D with nx:=u D } σ H
theorem bU:PSs X [] wK:=fun _ _ σ H _ I h=>wpAny_execs_nil ⟨σ,H,I,h⟩
theorem ah(h1:PS X st t)(h2:PSs X rest u):PSs X (st::rest) (bI t u):=by
 intro pins s σ H D I h
 refine wpAny_execs_cons (thn (h1 pins s σ H { D with nx:=u D } I h) fun f s1 q=>?_)
 cases f with
 | next =>
  obtain ⟨σ',H',I',q⟩:=q
  exact h2 pins s1 σ' H' D I' q
 | ret v=>exact q
 | brk=>exact q
 | cont=>exact q
theorem ao(h1:PS X st t):PSs X [st] t:=by
 intro pins s σ H D I h
 refine wpAny_execs_cons (thn (h1 pins s σ H D I h) fun f s1 q=>?_)
 cases f with
 | next=>exact wpAny_execs_nil q
 | ret v=>exact q
 | brk=>exact q
 | cont=>exact q
theorem Inv.quiet{pins:List (Addr×Obj)}{σ:St}{H:Hp}{s:Shared}(I:Inv X pins σ H s):interactive X.env=false:=by simp[interactive,I.ok.kind]
def wP(te:TE):TS:=fun D σ H=>te σ H fun _ H1=>D.nx σ H1
theorem cH(he:PE X e te)(hs:swapsWith e none pos.line X.env=pure false:=by rfl):PS X (.Expr e pos) (wP te):=by
 intro pins s σ H D I h
 exact wpAny_Expr_any (thn (he pins s σ H _ I h) fun v s1 ⟨x,H1,I1,r1,q1⟩=>⟨σ,H1,I1,q1⟩) I.quiet hs
def xG(te:TE):TS:=fun D σ H=>te σ H D.rt
theorem aC(he:PE X e te):PS X (.Return (some e) pos) (xG te):=by
 intro pins s σ H D I h
 exact wpAny_Return_some (thn (he pins s σ H _ I h) fun v s1 ⟨x,H1,I1,r1,q1⟩=>⟨x,σ,H1,I1,r1,q1⟩)
def xS(c:TT)(t u:TS):TS:=fun D σ H=>c σ H fun b H1=>if b=true then t D σ H1 else u D σ H1
theorem db{c:Expr}{a b:List Stmt}{tc:TT}(hc:PT X c tc)(ha:PSs X a t)(hb:PSs X b u):PS X (.If c a b pos) (xS tc t u):=by
 intro pins s σ H D I h
 refine wpAny_If (thn (hc pins s σ H _ I h) fun d s1 ⟨H1,I1,q1⟩=>?_)
 cases d with
 | true=>exact ha pins s1 σ H1 D I1 q1
 | false=>exact hb pins s1 σ H1 D I1 q1
end
abbrev TG:=V→St→Hp→(St→Hp→Prop)→Prop
abbrev TGs:=List V→St→Hp→(St→Hp→Prop)→Prop
def PG(X:Cx)(target:Expr)(t:TG):Prop :=
 ∀(pins:List (Addr×Obj)) (s:Shared) (σ:St) (H:Hp) (v:V) (u:Value) (Q:St→Hp→Prop),Inv X pins σ H s→RelV v u→t v σ H Q →
  wpAny (model X.prog X.w) X.A (assign target X.env u) (fun _ s'=>∃ σ' H',Inv X pins σ' H' s'∧Q σ' H') X.xe s
def PGs(X:Cx)(ts:List Expr)(t:TGs):Prop :=
 ∀(pins:List (Addr×Obj)) (s:Shared) (σ:St) (H:Hp) (vs:List V) (us:List Value) (Q:St→Hp→Prop),Inv X pins σ H s→Vals vs us→t vs σ H Q →
  wpAny (model X.prog X.w) X.A (assignInOrder ((assignEach ts X.env).map (·.2)) us) (fun _ s'=>∃ σ' H',Inv X pins σ' H' s'∧Q σ' H') X.xe s
abbrev vN:=V→V→V→Hp→(Hp→Prop)→Prop
def wy(X:Cx)(t:vN):Prop :=
 ∀(pins:List (Addr×Obj)) (s:Shared) (σ:St) (H:Hp) (o i v:V) (ov iv u:Value) (Q:Hp→Prop),Inv X pins σ H s→RelV o ov→RelV i iv→RelV v u→t o i v H Q →
  wpAny (model X.prog X.w) X.A (setItem ov iv u) (fun _ s'=>∃ H',Inv X pins σ H' s'∧Q H') X.xe s
section
variable {X:Cx}{pos:Pos}
def ke(i:Nat):TG:=fun v σ H Q=>Q (σ.set i (some v)) H
theorem ar{i:Nat}{x:Str}(hN:X.N.Nodup)(hi:X.N[i]? = some x)(hx:Loc X.env.scope x)(hf:X.fn x = true∨X.env.scope.names.lookup x = some .local:=by first | exact .inl rfl | exact .inr rfl | assumption):PG X (.Name x pos) (ke i):=by
 intro pins s σ H v u Q I r h
 exact wpAny_assign_Name (eG I hN hi hx r (fun s' I'=>⟨_,H,I',h⟩) hf)
def xL:TGs:=fun vs σ H Q=>vs=[]∧Q σ H
inductive gCons(t:TG)(u:TGs)(vs:List V)(σ:St)(H:Hp)(Q:St→Hp→Prop):Prop
 | mk(v:V)(r:List V)(h0:vs=v::r)(h1:t v σ H fun σ' H'=>u r σ' H' Q):gCons t u vs σ H Q
theorem bV:PGs X [] xL:=by
 intro pins s σ H vs us Q I r h
 obtain ⟨e,h⟩:=h
 subst e
 cases r
 exact assignInOrder_nil ⟨σ,H,I,h⟩
theorem aD{e:Expr}{es:List Expr}{t:TG}{u:TGs}(h1:PG X e t)(h2:PGs X es u)
  (hs:(assignEach (e::es) X.env).map (·.2)=assign e X.env::(assignEach es X.env).map (·.2):=by rfl):PGs X (e::es) (gCons t u):=by
 intro pins s σ H vs us Q I r h
 obtain ⟨v,vr,e1,h⟩:=h
 subst e1
 cases r with
 | cons r rr =>
  rw[hs]
  refine assignInOrder_cons (thn (h1 pins s σ H _ _ _ I r h) fun _ s1 ⟨σ1,H1,I1,q1⟩=>?_)
  exact h2 pins s1 σ1 H1 _ _ Q I1 rr q1
inductive gTup(K:Frag)(n:Nat)(t:TGs)(v:V)(σ:St)(H:Hp)(Q:St→Hp→Prop):Prop
 | mk(a:Addr)(xs:List V)(h0:v=.ref a)(h1:SqT K H a xs)(h2:xs.length=n)(h3:t xs σ H Q):gTup K n t v σ H Q
theorem eB{es:List Expr}{k:Nat}{t:TGs}{n:Nat}(hc:X.calm=true)(h:PGs X es t)
  (hn:(assignEach es X.env).length=n:=by rfl) (hst:(assignEach es X.env).findIdx? (·.1)=none:=by rfl):PG X (.Tuple es k pos) (gTup X.K n t):=by
 intro pins s σ H v u Q I r hw
 obtain ⟨a,xs,e1,hq,hl,hw⟩:=hw
 subst e1
 cases r
 obtain ⟨its,rv,ht,hz⟩:=I.tuple hq
 refine assign_Tuple_tuple (I.ok.hd hc) ht (by simp[hn,← hl,rv.length]) hst fun h' hx=>?_
 have I1:Inv X pins σ H { s with heap:=h' }:=I.kept (t':=s.toks) fun b o e=>hx b o (Nat.ne_of_lt (Heap.lt_size e)) e
 exact h pins _ σ H xs _ Q I1 (by simpa using rv) hw
def yn(to ti:TE)(t:vN):TG:=fun v σ H Q=>to σ H fun o H1=>ti σ H1 fun i H2=>t o i v H2 fun H3=>Q σ H3
theorem vU{o i:Expr}{to ti:TE}{t:vN}(ho:PE X o to)(hi:PE X i ti)(hs:wy X t)
  (ha:∀ v,assign (.Subscript o i pos) X.env v=(do
   let ov ← holding [v] (eval o X.env)
   let iv ← holding [v,ov] (eval i X.env)
   standAt pos
   holding [v,ov,iv] (setItem ov iv v)
   release [v,ov,iv] []):=by intro _; rfl):PG X (.Subscript o i pos) (yn to ti t):=by
 intro pins s σ H v u Q I r h
 rw[ha]
 refine wpAny_bind (wpAny_holding (thn (ho pins s σ H _ I h) fun ov s1 ⟨x,H1,I1,r1,q1⟩=>?_))
 refine wpAny_bind (wpAny_holding (thn (hi pins s1 σ H1 _ I1 q1) fun iv s2 ⟨y,H2,I2,r2,q2⟩=>?_))
 refine wpAny_bind (wpAny_standAt (wpAny_bind (wpAny_holding (thn (hs pins s2 σ H2 x y v ov iv u _ I2 r1 r2 r q2) fun _ s3 ⟨H3,I3,q3⟩=>?_))))
 exact wpAny_release ⟨σ,H3,I3,q3⟩
def uk(te:TE)(g:TG):TS:=fun D σ H=>te σ H fun x H1=>g x σ H1 D.nx
theorem qg{tg e:Expr}{te:TE}{g:TG}(he:PE X e te)(hg:PG X tg g)(hs:swapsWithSole [tg] e pos.line X.env=pure false:=by rfl)(hw:swappedStores [tg] e X.env=pure none:=by rfl)
  (h1:(assignEach [tg] X.env).map (·.2)=[assign tg X.env]:=by rfl):PS X (.Assign [tg] e pos) (uk te g):=by
 intro pins s σ H D I h
 refine wpAny_Assign_stores (thn (he pins s σ H _ I h) fun v s1 ⟨x,H1,I1,r1,q1⟩=>?_) hs hw
 rw[h1]
 exact thn (hg pins s1 σ H1 x v _ I1 r1 q1) fun _ s2 q=>q
theorem ax{i:Nat}{x:Str}{e:Expr}{te:TE}{pos':Pos}(hN:X.N.Nodup)(hi:X.N[i]? = some x)(hx:Loc X.env.scope x)(he:PE X e te)(hs:swapsWith e (some (.Name x pos')) pos.line X.env = pure false:=by rfl)(hf:X.fn x = true∨X.env.scope.names.lookup x = some .local:=by first | exact .inl rfl | exact .inr rfl | assumption) :
  PS X (.Assign [.Name x pos'] e pos) (uk te (ke i)):=by
 intro pins s σ H D I h
 refine wpAny_Assign_Name (thn (he pins s σ H _ I h) fun v s1 ⟨y,H1,I1,r1,q1⟩=>?_) hs
 exact eG I1 hN hi hx r1 (fun s2 I2=>⟨_,H1,I2,q1⟩) hf
def xM(i j:Nat)(ta:TA):TS:=fun D σ H=>ta σ H fun vs H1=>∃ v w,vs=[v,w]∧D.nx ((σ.set i (some v)).set j (some w)) H1
theorem ql{i j:Nat}{x y:Str}{a b:Expr}{ta:TA}{px py pt:Pos}{kt k2 pt2}(hc:X.calm=true)(hN:X.N.Nodup)(hi:X.N[i]? = some x)(hj:X.N[j]? = some y)(hij:i≠j)
  (hx:X.env.scope.names.lookup x = some .local) (hy:X.env.scope.names.lookup y = some .local) (ha:PA X [a,b] ta)
  (hw:swappedStores [.Tuple [.Name x px,.Name y py] kt pt] (.Tuple [a,b] k2 pt2) X.env=pure (some [x,y]))
  (hs:swapsWithSole [.Tuple [.Name x px,.Name y py] kt pt] (.Tuple [a,b] k2 pt2) pos.line X.env=pure false:=by rfl) :
  PS X (.Assign [.Tuple [.Name x px,.Name y py] kt pt] (.Tuple [a,b] k2 pt2) pos) (xM i j ta):=by
 intro pins s σ H D I h
 rw[exec_Assign_arm]
 refine wpAny_bind (wpAny_standAt ?_)
 rw[hs]
 refine wpAny_bind (wpAny_pure ?_)
 rw[if_neg (by decide)]
 refine wpAny_bind (Tuple_ (thn (ha _ pins s σ H _ I h) fun us s1 ⟨vs,H1,I1,r1,q1⟩=>?_))
 obtain ⟨v,w,e1,q1⟩:=q1
 subst e1
 obtain ⟨u1,u2,rfl,rv,rw'⟩:∃ u1 u2,us=[u1,u2]∧RelV v u1∧RelV w u2:=by
  cases r1 with
  | cons p q =>
   cases q with
   | cons p' q' =>
    cases q'
    exact ⟨_,_,rfl,p,p'⟩
 refine wpAny_newObj_type ?_ (by show 2≤sizeLine; decide)
 have I2:Inv X pins σ H1 { s1 with heap:=s1.heap.push { cls:=.type "tuple",data:=.seq [u1,u2].toArray } }:=I1.kept (t':=s1.toks) fun b o e=>Heap.get?_push_of_some _ e
 rw[hw]
 refine wpAny_bind (wpAny_pure ?_)
 show wpAny (model X.prog X.w) X.A (do rule "assign.swapped-stores"; let items ← unpackItems (.ref s1.heap.objs.size) 2 none; assignInOrder [fun v=>bindName X.env y v,fun v=>bindName X.env x v] items.reverse; pure Flow.next) _ _ _
 refine wpAny_bind (wpAny_rule (wpAny_bind (unpackItems_tuple (items:=#[u1,u2]) (I.ok.hd hc) (IsTup.new s1.heap _) fun h' hx'=>?_)))
 have I3:=I2.kept (h':=h') (t':=s1.toks) fun b o e=>hx' b o (Nat.ne_of_lt (Heap.lt_size e)) e
 show wpAny _ _ (assignInOrder [fun v=>bindName X.env y v,fun v=>bindName X.env x v] [u2,u1] >>= fun _=>pure Flow.next) _ _ _
 refine wpAny_bind (assignInOrder_cons (wpAny_bindName (eG I3 hN hj (.inl hy) rw' (fun s2 I4=>?_) (.inr hy))))
 refine assignInOrder_cons (wpAny_bindName (eG I4 hN hi (.inl hx) rv (fun s3 I5=>assignInOrder_nil (wpAny_pure ?_)) (.inr hx)))
 rw[List.set_comm _ _ (Ne.symm hij)]at I5
 exact ⟨_,H1,I5,q1⟩
end
section
variable {X:Cx}{pos:Pos}
def u9(c:TT)(tb:TS):TS:=fun D σ H=>∃ W:Nat→St→Hp→Prop,(∃ m,W m σ H)∧∀ m σ H,W m σ H →
 c σ H fun b H1=>if b=true then ∃ N:St→Hp→Prop,(∀ σ' H',N σ' H'→∃ m',m'<m∧W m' σ' H')∧tb { D with nx:=N,ct:=N,bk:=D.nx } σ H1 else D.nx σ H1
theorem fg{c:Expr}{body:List Stmt}{tc:TT}{tb:TS}(hp:PassesOwn (model X.prog X.w) X.A X.env X.xe)(hc:PT X c tc)(hb:PSs X body tb):PS X (.While c body [] pos) (u9 tc tb):=by
 intro pins s σ H D I h
 obtain ⟨W,⟨m0,w0⟩,turn⟩:=h
 refine wpAny_While (codeAny_whileLoop (fun n s'=>∃ σ' H',Inv X pins σ' H' s'∧W n σ' H') ?_ m0 ⟨σ,H,I,w0⟩)
 rintro n s1 ⟨σ1,H1,I1,w1⟩
 refine wpAny_passesOwn hp (thn (hc pins s1 σ1 H1 _ I1 (turn n σ1 H1 w1)) fun b s2 ⟨H2,I2,q2⟩=>?_)
 cases b with
 | true =>
  obtain ⟨N,hN,q2⟩:=q2
  rw[if_pos rfl]
  refine wpAny_passesOwn hp (thn (hb pins s2 σ1 H2 _ I2 q2) fun f s3 q3=>?_)
  cases f with
  | next =>
   obtain ⟨σ3,H3,I3,n3⟩:=q3
   obtain ⟨m',hm,w3⟩:=hN σ3 H3 n3
   exact ⟨m',hm,σ3,H3,I3,w3⟩
  | cont =>
   obtain ⟨σ3,H3,I3,n3⟩:=q3
   obtain ⟨m',hm,w3⟩:=hN σ3 H3 n3
   exact ⟨m',hm,σ3,H3,I3,w3⟩
  | brk=>exact q3
  | ret v=>exact q3
 | false =>
  rw[if_neg Bool.false_ne_true]
  exact wpAny_execs_nil ⟨σ1,H2,I2,q2⟩
end
structure It where
 go:Nat→Hp→Prop
 yld:Nat→Hp→V→Hp→Prop
 stop:Nat→Hp→Prop
def eZ(X:Cx)(pins:List (Addr×Obj))(H:Hp)(b:Addr):Prop :=
 H b = none∧b≠X.env.locals∧b ∉ X.fs∧(b ∈ X.ex∨X.s₀.heap.objs.size≤b)∧(∀ x c,X.env.cells.lookup x = some c→c≠b)∧∀ p ∈ X.pn ++ pins,p.1≠b
theorem Inv.fpOk{X:Cx}{pins:List (Addr×Obj)}{σ:St}{H H':Hp}{s:Shared}{b:Addr}(I:Inv X pins σ H s)(hb:s.heap.objs.size≤b)(hn:H' b=none):eZ X pins H' b:=by
 refine ⟨hn,Nat.ne_of_gt (Nat.lt_of_lt_of_le I.lt hb),I.nofs hb,.inr (Nat.le_trans I.sz hb),fun x c e z=>?_,fun p hp z=>?_⟩
 ·obtain ⟨v,q⟩:=I.cell x c e
  exact absurd (Nat.lt_of_lt_of_le q.lt (by rw[z]; exact hb)) (Nat.lt_irrefl _)
 ·exact absurd (Nat.lt_of_lt_of_le (Heap.lt_size (I.pin p hp).1) (by rw[z]; exact hb)) (Nat.lt_irrefl _)
structure Turn(P:Program)(w:World)(K:Frag)(tg:Expr)(J:It)(fp:List Addr)(it:Addr)(tn:Nat→Heap→Prop):Prop where
 mem:it∈fp
 obj:∀ i h,tn i h→∀ b∈fp,∃ o,h.get? b=some o∧∀ v,o.data≠.cell v
 keep:∀ i h h',tn i h→(∀ b∈fp,∀ o,h.get? b=some o→h'.get? b=some o)→tn i h'
 item:∀(X:Cx),X.prog=P→X.w=w→X.K=K→X.calm=true→∀(i:Nat) (pins:List (Addr×Obj)) (s:Shared) (σ:St) (H:Hp) (E:Value→Shared→Prop),Inv X pins σ H s→(∀ b∈fp,eZ X pins H b)→tn i s.heap→J.go i H →
  wpAny (model P w) X.A (pyNext (.ref it)) (fun r s1=>∃ u,r=some u ∧
   wpAny (model P w) X.A (letOwnedTupleGo tg (.ref it) u) (fun _ s2=>∃ x H',Inv X pins σ H' s2∧RelV x u∧J.yld i H x H'∧tn (i+1) s2.heap∧∀ b∈fp,H' b=none) E s1) E s
 done:∀(X:Cx),X.prog=P→X.w=w→X.K=K→X.calm=true→∀(i:Nat) (pins:List (Addr×Obj)) (s:Shared) (σ:St) (H:Hp) (E:Value→Shared→Prop),Inv X pins σ H s→(∀ b∈fp,eZ X pins H b)→tn i s.heap→J.stop i H →
  wpAny (model P w) X.A (pyNext (.ref it)) (fun r s1=>r=none∧Inv X pins σ H s1) E s
 self:∀(A:Around) (i:Nat) (s:Shared) (Q:Value→Shared→Prop) (E:Value→Shared→Prop),tn i s.heap→Q (.ref it) s→wpAny (model P w) A (pyIter (.ref it)) Q E s
abbrev TI:=St→Hp→(It→Hp→Prop)→Prop
def PIE(X:Cx)(pins:List (Addr×Obj))(σ:St)(tg:Expr)(R:It→Hp→Prop)(itv:Value)(s2:Shared):Prop :=
 ∃(it:Addr) (fp:List Addr) (tn:Nat→Heap→Prop) (J:It) (H':Hp),itv=.ref it∧Inv X pins σ H' s2∧Turn X.prog X.w X.K tg J fp it tn∧tn 0 s2.heap∧(∀ b∈fp,eZ X pins H' b)∧R J H'
def PI(X:Cx)(tg iter:Expr)(wi:TI):Prop :=
 ∀(pins:List (Addr×Obj)) (s:Shared) (σ:St) (H:Hp) (R:It→Hp→Prop),Inv X pins σ H s→wi σ H R →
  wpAny (model X.prog X.w) X.A (eval iter X.env) (fun v s1=>wpAny (model X.prog X.w) X.A (pyIter v) (PIE X pins σ tg R) X.xe s1) X.xe s
theorem kT{M:Model}{A:Around}{E:Value→Shared→Prop}{s:Shared}{tg:Expr}{it:Addr}{u:Value}{o:Obj}{n:String}{vs:Array Value}{Q:Unit→Shared→Prop}(ho:s.heap.get? it=some o)(hc:o.cls=.type n)(hd:o.data=.fields vs)
  (hn:["enumerate","zip","dict_itemiterator","dict_reverseitemiterator","odict_iterator","itertools.zip_longest","itertools.pairwise"].contains n=false) (hQ:Q () s):wpAny M A (letOwnedTupleGo tg (.ref it) u) Q E s:=by
 unfold letOwnedTupleGo
 cases tg <;> first
  | exact wpAny_pure hQ
  | (cases u <;> first
    | exact wpAny_pure hQ
    | (refine wpAny_bind (wpAny_load ho ?_)
       rw[hc,hd]
       show wpAny M A (if (["enumerate","zip","dict_itemiterator","dict_reverseitemiterator","odict_iterator","itertools.zip_longest","itertools.pairwise"].contains n && vs[0]? == some (rawInt _))=true then _ else _) Q E s
       rw[if_neg (by intro h; rw[hn,Bool.false_and]at h; cases h)]
       exact wpAny_pure hQ))
def Itl(K:Frag)(a:Addr):It :=
 ⟨fun i H=>∃ xs x,SqL K H a xs∧xs[i]? = some x,fun i H x H'=>H'=H∧∀ xs,SqL K H a xs→xs[i]? = some x,fun i H=>∃ xs,SqL K H a xs∧xs.length≤i⟩
def Itt(K:Frag)(a:Addr):It :=
 ⟨fun i H=>∃ xs x,SqT K H a xs∧xs[i]? = some x,fun i H x H'=>H'=H∧∀ xs,SqT K H a xs→xs[i]? = some x,fun i H=>∃ xs,SqT K H a xs∧xs.length≤i⟩
def Itr(lo:Int)(n:Nat):It:=⟨fun i _=>i<n,fun i H x H'=>H'=H∧x=.int (lo+i),fun i _=>n≤i⟩
theorem oQ{P:Program}{w:World}{K:Frag}{tg:Expr}(a it:Addr):Turn P w K tg (Itl K a) [it] it (fun i h=>h.IsListIter it a i) where
 mem:=by simp
 obj:=fun i h st b hb=>by
  have e:b=it:=by simpa using hb
  subst e
  obtain ⟨o,e,c,d⟩:=st
  exact ⟨o,e,fun v z=>by rw[d]at z; cases z⟩
 keep:=fun i h h' st k=>st.at fun o e=>k it (by simp) o e
 item:=by
  intro X hP hw hK hc i pins s σ H E I hf st hg
  subst hP hw hK
  obtain ⟨xs,x,hq,hx⟩:=hg
  obtain ⟨its,rv,p,hz⟩:=I.list hq
  obtain ⟨u,hu,ru⟩:=rv.get hx
  obtain ⟨f0,f1,f2,f3,f4,f5⟩:=hf it (by simp)
  refine wpAny_pyNext_list_item st p.isList (x:=u) (by simpa using hu) fun h' st' sb=>?_
  have I1:Inv X pins σ H { s with heap:=h' }:=I.turned (t':=s.toks) (fun b o hb e=>(sb.2 b hb).trans e) f0 f1 f3 f4 f5
  obtain ⟨o,e,c,d⟩:=id st'
  exact ⟨u,rfl,kT (s:={ s with heap:=h' }) e c d (by decide) ⟨x,H,I1,ru,⟨rfl,fun ys hy=>by rw[I.list_inj hy hq]; exact hx⟩,st',fun b hb=>(hf b hb).1⟩⟩
 done:=by
  intro X hP hw hK hc i pins s σ H E I hf st hg
  subst hP hw hK
  obtain ⟨xs,hq,hx⟩:=hg
  obtain ⟨its,rv,p,hz⟩:=I.list hq
  obtain ⟨f0,f1,f2,f3,f4,f5⟩:=hf it (by simp)
  have hl:=rv.length
  exact wpAny_pyNext_list_end (I.ok.hd hc) st p.isList (by simp; lia) fun h' eb=>⟨rfl,I.turned (t':=s.toks) (fun b o hb e=>eb b o hb e) f0 f1 f3 f4 f5⟩
 self:=fun _ _ _ _ _ st h=>wpAny_pyIter_listiter st h
theorem mz{P:Program}{w:World}{K:Frag}{tg:Expr}(a it:Addr):Turn P w K tg (Itt K a) [it] it (fun i h=>h.IsTupleIter it a i) where
 mem:=by simp
 obj:=fun i h st b hb=>by
  have e:b=it:=by simpa using hb
  subst e
  obtain ⟨o,e,c,d⟩:=st
  exact ⟨o,e,fun v z=>by rw[d]at z; cases z⟩
 keep:=fun i h h' st k=>st.at fun o e=>k it (by simp) o e
 item:=by
  intro X hP hw hK hc i pins s σ H E I hf st hg
  subst hP hw hK
  obtain ⟨xs,x,hq,hx⟩:=hg
  obtain ⟨its,rv,p,hz⟩:=I.tuple hq
  obtain ⟨u,hu,ru⟩:=rv.get hx
  obtain ⟨f0,f1,f2,f3,f4,f5⟩:=hf it (by simp)
  refine wpAny_pyNext_tuple_item st (show s.heap.IsTuple a its.toArray from p) (x:=u) (by simpa using hu) fun h' st' sb=>?_
  have I1:Inv X pins σ H { s with heap:=h' }:=I.turned (t':=s.toks) (fun b o hb e=>(sb.2 b hb).trans e) f0 f1 f3 f4 f5
  obtain ⟨o,e,c,d⟩:=id st'
  exact ⟨u,rfl,kT (s:={ s with heap:=h' }) e c d (by decide) ⟨x,H,I1,ru,⟨rfl,fun ys hy=>by rw[I.tuple_inj hy hq]; exact hx⟩,st',fun b hb=>(hf b hb).1⟩⟩
 done:=by
  intro X hP hw hK hc i pins s σ H E I hf st hg
  subst hP hw hK
  obtain ⟨xs,hq,hx⟩:=hg
  obtain ⟨its,rv,p,hz⟩:=I.tuple hq
  obtain ⟨f0,f1,f2,f3,f4,f5⟩:=hf it (by simp)
  have hl:=rv.length
  exact wpAny_pyNext_tuple_end (I.ok.hd hc) st (show s.heap.IsTuple a its.toArray from p) (by simp; lia) fun h' eb=>⟨rfl,I.turned (t':=s.toks) (fun b o hb e=>eb b o hb e) f0 f1 f3 f4 f5⟩
 self:=fun _ _ _ _ _ st h=>wpAny_pyIter_tupleiter st h
theorem lQ{P:Program}{w:World}{K:Frag}{tg:Expr}(it:Addr)(lo:Int)(n:Nat):Turn P w K tg (Itr lo n) [it] it (fun i h=>IsRangeIter h it (lo+(i:Nat)*1) ((n:Int) - (i:Nat)) 1) where
 mem:=by simp
 obj:=fun i h st b hb=>by
  have e:b=it:=by simpa using hb
  subst e
  exact ⟨_,st,fun v z=>by
   have z':Data.fields _=Data.cell v:=z
   cases z'⟩
 keep:=fun i h h' st k=>k it (by simp) _ st
 item:=by
  intro X hP hw hK hc i pins s σ H E I hf st hg
  subst hP hw hK
  obtain ⟨f0,f1,f2,f3,f4,f5⟩:=hf it (by simp)
  have W:=Walks.range (prog:=X.prog) (w:=X.w) (I.ok.hd hc) it lo 1 n
  refine W.item i s _ _ hg st fun v h' tk hv st' kk=>?_
  obtain ⟨t,rfl⟩:=hv
  have I1:Inv X pins σ H { s with heap:=h',toks:=tk }:=I.turned (fun b o hb e=>kk b o (by simpa using hb) e) f0 f1 f3 f4 f5
  refine ⟨_,rfl,kT (s:={ s with heap:=h',toks:=tk }) (n := "range_iterator") st' rfl rfl (by decide) ⟨.int (lo+i),H,I1,⟨t,?_⟩,⟨rfl,rfl⟩,st',fun b hb=>(hf b hb).1⟩⟩
  rw[Int.mul_one]
 done:=by
  intro X hP hw hK hc i pins s σ H E I hf st hg
  subst hP hw hK
  obtain ⟨f0,f1,f2,f3,f4,f5⟩:=hf it (by simp)
  exact wpAny_pyNext_range_end (I.ok.hd hc) st (by have:n≤i:=hg; lia) fun h' eb=>⟨rfl,I.turned (t':=s.toks) (fun b o hb e=>eb b o hb e) f0 f1 f3 f4 f5⟩
 self:=fun _ _ _ _ _ st h=>wpAny_pyIter_rangeiter st h
section
variable {X:Cx}{tg:Expr}
theorem rP{pins:List (Addr×Obj)}{σ:St}{H:Hp}{s:Shared}{R:It→Hp→Prop}{E:Value→Shared→Prop}{lo hi:Int}{t u v:Tok}{tk:Nat}(I:Inv X pins σ H s)(h1:-(2 ^ 62)≤lo)(h2:lo<2 ^ 62)(h3:-(2 ^ 62)≤hi)(h4:hi<2 ^ 62)
  (q:R (Itr lo (hi - lo).toNat) H):wpAny (model X.prog X.w) X.A (pyIter (.ref s.heap.objs.size)) (PIE X pins σ tg R) E { s with heap:=s.heap.push { cls:=.type "range",data:=.fields #[.int lo t,.int hi u,.int 1 v] },toks:=tk }:=by
 refine wpAny_pyIter_range (IsRange.new ..) (small_one h1 h2 h3 h4) ?_
 have I1:Inv X pins σ H { s with heap:=s.heap.push { cls:=.type "range",data:=.fields #[.int lo t,.int hi u,.int 1 v] },toks:=tk }:=I.kept fun b o e=>Heap.get?_push_of_some _ e
 refine ⟨(s.heap.push { cls:=.type "range",data:=.fields #[.int lo t,.int hi u,.int 1 v] }).objs.size,[(s.heap.push { cls:=.type "range",data:=.fields #[.int lo t,.int hi u,.int 1 v] }).objs.size],_,_,H,rfl,
  I1.kept (t':=tk) fun b o e=>Heap.get?_push_of_some _ e,lQ _ lo (hi - lo).toNat,?_,fun b hb=>?_,q⟩
 ·have e1:lo+((0:Nat):Int)*1=lo:=by simp
  have e2:(((hi - lo).toNat:Nat):Int) - ((0:Nat):Int)=Builtin.Range.rangeSize lo hi 1:=by rw[rangeSize_one]; split <;> lia
  show IsRangeIter _ _ (lo+((0:Nat):Int)*1) ((((hi - lo).toNat:Nat):Int) - ((0:Nat):Int)) 1
  rw[e1,e2]
  exact Heap.get?_push_size _ rfl
 ·have e:b=(s.heap.push { cls:=.type "range",data:=.fields #[.int lo t,.int hi u,.int 1 v] }).objs.size:=by simpa using hb
  subst e
  exact I1.fpOk (Nat.le_refl _) (I1.hok.fresh (Nat.le_refl _))
def xt(ta:TA):TI:=fun σ H R=>ta σ H fun vs H1=>∃ j:Int,vs=[.int j]∧-(2 ^ 62)≤j∧j<2 ^ 62∧R (Itr 0 j.toNat) H1
theorem b9{a:Expr}{ta:TA}{p pos:Pos}(hg:Gl X "range")(hm:X.mg "range" = none)(ha:PA X [a] ta)(hs:starEach [a] X.env=[(false,eval a X.env)]:=by rfl):PI X tg (.Call (.Name "range" p) [a] [] pos) (xt ta):=by
 intro pins s σ H R I h
 refine Call_ (gS I hg hm boot_range (PyProof.Rows.callWith_type1 (thn (ha pos pins s σ H _ I h) fun us s1 ⟨vs,H1,I1,r1,q1⟩=>?_) hs rfl))
 obtain ⟨j,e,q1,q2,q⟩:=q1
 subst e
 cases r1 with
 | cons r rr =>
  cases rr
  obtain ⟨t,rfl⟩:=r
  exact call_range_1 (rP I1 (by lia) (by lia) q1 q2 (by simpa using q))
def xW(wi:TI)(g:TG)(tb:TS):TS:=fun D σ H=>wi σ H fun J H1=>∃ W:Nat→Nat→St→Hp→Prop,(∃ m,W 0 m σ H1)∧∀ i m σ H,W i m σ H →
 (J.stop i H∧D.nx σ H)∨(J.go i H∧∃ N:St→Hp→Prop,(∀ σ' H',N σ' H'→∃ m',m'<m∧W (i+1) m' σ' H')∧∀ x H',J.yld i H x H'→g x σ H' fun σ2 H2=>tb { D with nx:=N,ct:=N,bk:=D.nx } σ2 H2)
def ii(fp:List Addr)(h:Heap):List (Addr×Obj):=fp.filterMap fun b=>(h.get? b).map fun o=>(b,o)
theorem dR{fp:List Addr}{h:Heap}{b:Addr}{o:Obj}(hb:b∈fp)(e:h.get? b=some o):(b,o)∈ii fp h:=List.mem_filterMap.mpr ⟨b,hb,by rw[e]; rfl⟩
theorem oC{fp:List Addr}{h:Heap}{p:Addr×Obj}(hp:p∈ii fp h):p.1∈fp∧h.get? p.1=some p.2:=by
 obtain ⟨b,hb,e⟩:=List.mem_filterMap.mp hp
 cases q:h.get? b with
 | none=>rw[q]at e; cases e
 | some o =>
  rw[q]at e
  have e':(b,o)=p:=Option.some.inj e
  subst e'
  exact ⟨hb,q⟩
theorem Inv.pinned{pins:List (Addr×Obj)}{σ:St}{H:Hp}{s:Shared}{fp:List Addr}(I:Inv X pins σ H s)(hf:∀ b∈fp,eZ X pins H b)(ho:∀ b∈fp,∃ o,s.heap.get? b=some o∧∀ v,o.data≠.cell v):Inv X (pins++ii fp s.heap) σ H s :=
 I.pins_of fun p hp=>(mem_append.mp hp).elim (fun z=>I.pin p (mem_append_right _ z)) fun z=>by
  obtain ⟨hb,e⟩:=oC z
  obtain ⟨f0,f1,f2,_⟩:=hf p.1 hb
  obtain ⟨o,e',d⟩:=ho p.1 hb
  rw[e]at e'; cases e'
  exact ⟨e,f0,f1,f2,d⟩
theorem Inv.unpinned{pins pl:List (Addr×Obj)}{σ:St}{H:Hp}{s:Shared}(I:Inv X (pins++pl) σ H s):Inv X pins σ H s:=I.pins_of fun p hp=>I.pin p (mem_append_right _ (mem_append_left _ hp))
theorem b7{iter:Expr}{body:List Stmt}{wi:TI}{g:TG}{tb:TS}{pos:Pos}(hp:PassesOwn (model X.prog X.w) X.A X.env X.xe)(hc:X.calm=true)(hi:PI X tg iter wi)(hg:PG X tg g)(hb:PSs X body tb)
  (hs:∀ x,foldedSetIterable iter X.env x=pure x:=by intro _; rfl):PS X (.For tg iter body [] pos) (xW wi g tb):=by
 intro pins s σ H D I h
 refine wpAny_For (thn (hi pins s σ H _ I h) fun v s1 h1=>thn h1 fun itv s2 h2=>?_) hs
 obtain ⟨it,fp,tn,J,H2,e,I2,T,st2,f2,W,⟨m0,w0⟩,turn⟩:=h2
 subst e
 -- what stays true of the iterator's objects through the loop
 have stat:∀{H':Hp},(∀ b∈fp,H' b=none)→∀ b∈fp,eZ X pins H' b:=fun hn b hb=>⟨hn b hb,(f2 b hb).2⟩
 refine codeAny_forLoop_any (fun n s'=>∃ i σ' H',Inv X pins σ' H' s'∧tn i s'.heap∧(∀ b∈fp,H' b=none)∧W i n σ' H') ?_ m0 ⟨0,σ,H2,I2,st2,fun b hb=>(f2 b hb).1,w0⟩
 rintro n s3 ⟨i,σ3,H3,I3,st3,fr3,w3⟩
 rcases turn i n σ3 H3 w3 with ⟨stop,qn⟩ | ⟨go,N,hN,step⟩
 ·refine wpAny_passesOwn hp (thn (T.done X rfl rfl rfl hc i pins s3 σ3 H3 X.xe I3 (stat fr3) st3 stop) fun r s4 ⟨hr,I4⟩=>?_)
  subst hr
  exact wpAny_execs_nil ⟨σ3,H3,I4,qn⟩
 ·refine wpAny_passesOwn hp (thn (T.item X rfl rfl rfl hc i pins s3 σ3 H3 X.xe I3 (stat fr3) st3 go) fun r s4 ⟨u,hr,h4⟩=>?_)
  subst hr
  refine wpAny_passesOwn hp (thn h4 fun _ s5 ⟨x,H5,I5,r5,y5,st5,fr5⟩=>?_)
  have I5':=I5.pinned (stat fr5) (T.obj _ _ st5)
  refine wpAny_passesOwn hp (thn (hg _ s5 σ3 H5 x u _ I5' r5 (step x H5 y5)) fun _ s6 ⟨σ6,H6,I6,q6⟩=>?_)
  refine wpAny_passesOwn hp (thn (hb _ s6 σ6 H6 _ I6 q6) fun f s7 q7=>?_)
  have again:∀{σ7:St}{H7:Hp},Inv X (pins++ii fp s5.heap) σ7 H7 s7→N σ7 H7→∃ m,m<n∧∃ i σ' H',Inv X pins σ' H' s7∧tn i s7.heap∧(∀ b∈fp,H' b=none)∧W i m σ' H':=fun {σ7 H7} I7 n7=>by
   obtain ⟨m',hm,w7⟩:=hN σ7 H7 n7
   refine ⟨m',hm,i+1,σ7,H7,I7.unpinned,T.keep _ _ _ st5 fun b hb o e=>(I7.pin (b,o) (mem_append_right _ (mem_append_right _ (dR hb e)))).1,fun b hb=>?_,w7⟩
   obtain ⟨o,e,d⟩:=T.obj _ _ st5 b hb
   exact (I7.pin (b,o) (mem_append_right _ (mem_append_right _ (dR hb e)))).2.1
  cases f with
  | next=>obtain ⟨σ7,H7,I7,n7⟩:=q7; exact again I7 n7
  | cont=>obtain ⟨σ7,H7,I7,n7⟩:=q7; exact again I7 n7
  | brk=>obtain ⟨σ7,H7,I7,q7⟩:=q7; exact ⟨σ7,H7,I7.unpinned,q7⟩
  | ret v=>obtain ⟨x7,σ7,H7,I7,r7,q7⟩:=q7; exact ⟨x7,σ7,H7,I7.unpinned,r7,q7⟩
end
theorem bX{K:Frag}{a:Addr}{xs:List V}{g:TG}{tb:TS}{D:Ends}{σ:St}{H:Hp}(Pv:Nat→St→Hp→Prop)(h0:Pv 0 σ H)(hl:∀ i σ H,i≤xs.length→Pv i σ H→SqL K H a xs)
  (hs:∀ i x σ H,xs[i]? = some x→Pv i σ H→g x σ H fun σ2 H2=>tb { D with nx:=Pv (i+1),ct:=Pv (i+1),bk:=D.nx } σ2 H2) (hd:∀ σ H,Pv xs.length σ H→D.nx σ H) :
  ∃ W:Nat→Nat→St→Hp→Prop,(∃ m,W 0 m σ H)∧∀ i m σ H,W i m σ H →
   ((Itl K a).stop i H∧D.nx σ H)∨((Itl K a).go i H∧∃ N:St→Hp→Prop,(∀ σ' H',N σ' H'→∃ m',m'<m∧W (i+1) m' σ' H')∧∀ x H',(Itl K a).yld i H x H'→g x σ H' fun σ2 H2=>tb { D with nx:=N,ct:=N,bk:=D.nx } σ2 H2):=by
 refine ⟨fun i m σ H=>m=xs.length - i∧i≤xs.length∧Pv i σ H,⟨xs.length,by simp,Nat.zero_le _,h0⟩,?_⟩
 rintro i m σ H ⟨rfl,hi,p⟩
 have q:=hl i σ H hi p
 by_cases hlt:i<xs.length
 ·refine .inr ⟨⟨xs,xs[i],q,by simp[hlt]⟩,Pv (i+1),fun σ' H' p'=>⟨xs.length - (i+1),by lia,rfl,hlt,p'⟩,fun x H' y=>?_⟩
  obtain ⟨e,y⟩:=y
  subst e
  exact hs i x σ _ (y xs q) p
 ·have e:i=xs.length:=by lia
  subst e
  exact .inl ⟨⟨xs,q,Nat.le_refl _⟩,hd σ H p⟩
theorem ss{K:Frag}{a:Addr}{xs:List V}{g:TG}{tb:TS}{D:Ends}{σ:St}{H:Hp}(Pv:Nat→St→Hp→Prop)(h0:Pv 0 σ H)(hl:∀ i σ H,i≤xs.length→Pv i σ H→SqT K H a xs)
  (hs:∀ i x σ H,xs[i]? = some x→Pv i σ H→g x σ H fun σ2 H2=>tb { D with nx:=Pv (i+1),ct:=Pv (i+1),bk:=D.nx } σ2 H2) (hd:∀ σ H,Pv xs.length σ H→D.nx σ H) :
  ∃ W:Nat→Nat→St→Hp→Prop,(∃ m,W 0 m σ H)∧∀ i m σ H,W i m σ H →
   ((Itt K a).stop i H∧D.nx σ H)∨((Itt K a).go i H∧∃ N:St→Hp→Prop,(∀ σ' H',N σ' H'→∃ m',m'<m∧W (i+1) m' σ' H')∧∀ x H',(Itt K a).yld i H x H'→g x σ H' fun σ2 H2=>tb { D with nx:=N,ct:=N,bk:=D.nx } σ2 H2):=by
 refine ⟨fun i m σ H=>m=xs.length - i∧i≤xs.length∧Pv i σ H,⟨xs.length,by simp,Nat.zero_le _,h0⟩,?_⟩
 rintro i m σ H ⟨rfl,hi,p⟩
 have q:=hl i σ H hi p
 by_cases hlt:i<xs.length
 ·refine .inr ⟨⟨xs,xs[i],q,by simp[hlt]⟩,Pv (i+1),fun σ' H' p'=>⟨xs.length - (i+1),by lia,rfl,hlt,p'⟩,fun x H' y=>?_⟩
  obtain ⟨e,y⟩:=y
  subst e
  exact hs i x σ _ (y xs q) p
 ·have e:i=xs.length:=by lia
  subst e
  exact .inl ⟨⟨xs,q,Nat.le_refl _⟩,hd σ H p⟩
theorem dP{lo:Int}{n:Nat}{g:TG}{tb:TS}{D:Ends}{σ:St}{H:Hp}(Pv:Nat→St→Hp→Prop)(h0:Pv 0 σ H)
  (hs:∀ i σ H,i<n→Pv i σ H→g (.int (lo+i)) σ H fun σ2 H2=>tb { D with nx:=Pv (i+1),ct:=Pv (i+1),bk:=D.nx } σ2 H2) (hd:∀ σ H,Pv n σ H→D.nx σ H) :
  ∃ W:Nat→Nat→St→Hp→Prop,(∃ m,W 0 m σ H)∧∀ i m σ H,W i m σ H →
   ((Itr lo n).stop i H∧D.nx σ H)∨((Itr lo n).go i H∧∃ N:St→Hp→Prop,(∀ σ' H',N σ' H'→∃ m',m'<m∧W (i+1) m' σ' H')∧∀ x H',(Itr lo n).yld i H x H'→g x σ H' fun σ2 H2=>tb { D with nx:=N,ct:=N,bk:=D.nx } σ2 H2):=by
 refine ⟨fun i m σ H=>m=n - i∧i≤n∧Pv i σ H,⟨n,by simp,Nat.zero_le _,h0⟩,?_⟩
 rintro i m σ H ⟨rfl,hi,p⟩
 by_cases hlt:i<n
 ·refine .inr ⟨hlt,Pv (i+1),fun σ' H' p'=>⟨n - (i+1),by lia,rfl,hlt,p'⟩,fun x H' y=>?_⟩
  obtain ⟨e,y⟩:=y
  subst e y
  exact hs i σ _ hlt p
 ·have e:i=n:=by lia
  subst e
  exact .inl ⟨Nat.le_refl _,hd σ H p⟩
abbrev R2:=V→V→Hp→VK→Prop
def OpR(X:Cx)(f:Value→Value→Sem Value)(r:R2):Prop :=
 ∀(pins:List (Addr×Obj)) (s:Shared) (σ:St) (H:Hp) (x y:V) (v u:Value) (Q:VK),Inv X pins σ H s→RelV x v→RelV y u→r x y H Q →
  wpAny (model X.prog X.w) X.A (f v u) (EP X pins σ Q) X.xe s
def UnR(X:Cx)(f:Value→Sem Value)(r:V→Hp→VK→Prop):Prop :=
 ∀(pins:List (Addr×Obj)) (s:Shared) (σ:St) (H:Hp) (x:V) (v:Value) (Q:VK),Inv X pins σ H s→RelV x v→r x H Q →
  wpAny (model X.prog X.w) X.A (f v) (EP X pins σ Q) X.xe s
def CallR(X:Cx)(f:Value)(r:List V→Hp→VK→Prop):Prop :=
 ∀(pins:List (Addr×Obj)) (s:Shared) (σ:St) (H:Hp) (xs:List V) (us:List Value) (Q:VK),Inv X pins σ H s→Vals xs us→r xs H Q →
  wpAny (model X.prog X.w) X.A (call f us) (EP X pins σ Q) X.xe s
def xV(X:Cx)(r:V→Hp→(Bool→Hp→Prop)→Prop):Prop :=
 ∀(pins:List (Addr×Obj)) (s:Shared) (σ:St) (H:Hp) (x:V) (v:Value) (Q:Bool→Hp→Prop),Inv X pins σ H s→RelV x v→r x H Q →
  wpAny (model X.prog X.w) X.A (truthy v) (TP X pins σ Q) X.xe s
def tOp(r:R2)(ta tb:TE):TE:=fun σ H Q=>ta σ H fun x H1=>tb σ H1 fun y H2=>r x y H2 Q
def tUn(r:V→Hp→VK→Prop)(ta:TE):TE:=fun σ H Q=>ta σ H fun x H1=>r x H1 Q
def rI(C:Int→Int→Prop)(g:Int→Int→V):R2:=fun x y H Q=>∃ i j,x=.int i∧y=.int j∧C i j∧Q (g i j) H
def rI0(g:Int→Int→V):R2:=fun x y H Q=>∃ i j,x=.int i∧y=.int j∧Q (g i j) H
def rU(g:Int→V):V→Hp→VK→Prop:=fun x H Q=>∃ i,x=.int i∧Q (g i) H
section
variable {X:Cx}{a b c:Expr}{ta tb tc:TE}{pos:Pos}
theorem vb(ha:PE X a ta)(hb:PE X b tb){pins:List (Addr×Obj)}{s:Shared}{σ:St}{H:Hp}{R:V→V→Hp→Prop}(I:Inv X pins σ H s)
  (h:ta σ H fun x H1=>tb σ H1 fun y H2=>R x y H2){Q:Value→Shared→Prop}{f:Value→Value→Sem Value}
  (hf:∀ v u s2 x y H2,Inv X pins σ H2 s2→RelV x v→RelV y u→R x y H2→wpAny (model X.prog X.w) X.A (f v u) Q X.xe s2) :
  wpAny (model X.prog X.w) X.A (eval a X.env) (fun v s₁=>wpAny (model X.prog X.w) X.A (eval b X.env) (fun u s₂=>wpAny (model X.prog X.w) X.A (f v u) Q X.xe s₂) X.xe s₁) X.xe s:=by
 refine thn (ha pins s σ H _ I h) fun v s1 ⟨x,H1,I1,r1,q1⟩=>?_
 refine thn (hb pins s1 σ H1 _ I1 q1) fun u s2 ⟨y,H2,I2,r2,q2⟩=>?_
 exact hf v u s2 x y H2 I2 r1 r2 q2
theorem aB{op:Operator}{r:R2}(ho:OpR X (binaryOp op) r)(ha:PE X a ta)(hb:PE X b tb):PE X (.BinOp a op b pos) (tOp r ta tb):=by
 intro pins s σ H Q I h
 exact wpAny_BinOp (vb ha hb I h fun v u s2 x y H2 I2 rx ry q=>ho pins s2 σ H2 x y v u Q I2 rx ry q)
theorem uO{op:UnaryOp}{r:V→Hp→VK→Prop}(ho:UnR X (unaryOp op) r)(ha:PE X a ta):PE X (.UnaryOp op a pos) (tUn r ta):=by
 intro pins s σ H Q I h
 exact UnaryOp_ (thn (ha pins s σ H _ I h) fun v s1 ⟨x,H1,I1,r1,q1⟩=>ho pins s1 σ H1 x v Q I1 r1 q1)
theorem opI{f:Value→Value→Sem Value}{C:Int→Int→Prop}{g:Int→Int→Int}
  (rule:∀(i j:Int) (t u:Tok) (s:Shared) (Q:Value→Shared→Prop) (E:Value→Shared→Prop),C i j→Q (.int (g i j) s.toks) { s with toks:=s.toks+1 }→wpAny (model X.prog X.w) X.A (f (.int i t) (.int j u)) Q E s) :
  OpR X f (rI C fun i j=>.int (g i j)):=by
 intro pins s σ H x y v u Q I rx ry h
 obtain ⟨i,j,rfl,rfl,hc,q⟩:=h
 obtain ⟨t,rfl⟩:=rx
 obtain ⟨t',rfl⟩:=ry
 exact rule i j t t' s _ _ hc ⟨.int (g i j),H,I.tok _,⟨_,rfl⟩,q⟩
theorem vg{f:Value→Value→Sem Value}{g:Int→Int→Int}
  (rule:∀(i j:Int) (t u:Tok) (s:Shared) (Q:Value→Shared→Prop) (E:Value→Shared→Prop),Q (.int (g i j) s.toks) { s with toks:=s.toks+1 }→wpAny (model X.prog X.w) X.A (f (.int i t) (.int j u)) Q E s) :
  OpR X f (rI0 fun i j=>.int (g i j)):=by
 intro pins s σ H x y v u Q I rx ry h
 obtain ⟨i,j,rfl,rfl,q⟩:=h
 obtain ⟨t,rfl⟩:=rx
 obtain ⟨t',rfl⟩:=ry
 exact rule i j t t' s _ _ ⟨.int (g i j),H,I.tok _,⟨_,rfl⟩,q⟩
theorem xy{f:Value→Value→Sem Value}{g:Int→Int→Bool}
  (rule:∀(i j:Int) (t u:Tok) (s:Shared) (Q:Value→Shared→Prop) (E:Value→Shared→Prop),Q (.bool (g i j)) s→wpAny (model X.prog X.w) X.A (f (.int i t) (.int j u)) Q E s) :
  OpR X f (rI0 fun i j=>.bl (g i j)):=by
 intro pins s σ H x y v u Q I rx ry h
 obtain ⟨i,j,rfl,rfl,q⟩:=h
 obtain ⟨t,rfl⟩:=rx
 obtain ⟨t',rfl⟩:=ry
 exact rule i j t t' s _ _ ⟨.bl (g i j),H,I,rfl,q⟩
def ye(i j:Int):Prop:=0<j∧j<1073741824
def vh(i j:Int):Prop:=0≤j∧j≤1000000∧i.natAbs<2 ^ 64
def CMul(i j:Int):Prop:=(-(2 ^ 64)<i∧i<2 ^ 64)∨(-(2 ^ 64)<j∧j<2 ^ 64)
theorem CMul.ok{i j:Int}(h:CMul i j):IntMulOk i j:=by
 rcases h with ⟨h1,h2⟩ | ⟨h1,h2⟩
 ·exact .of_left (intBits_le_64 h1 h2)
 ·exact .of_right (intBits_le_64 h1 h2)
theorem lq(k:Nat):(0:Int)≤2 ^ k:=by
 rw[two_pow_cast]
 exact Int.natCast_nonneg _
theorem op_add:OpR X (binaryOp .Add) (rI0 fun i j=>.int (i+j)):=vg fun _ _ _ _ _ _ _ q=>add_int q
theorem op_sub:OpR X (binaryOp .Sub) (rI0 fun i j=>.int (i - j)):=vg fun _ _ _ _ _ _ _ q=>sub_int q
theorem op_mod:OpR X (binaryOp .Mod) (rI (fun _ j=>0<j) fun i j=>.int (i % j)):=opI fun i j _ _ _ _ _ hc q=>by
 have h1:(0:Int)<j:=hc
 exact mod_int' (by lia) (by rw[Int.fmod_eq_emod_of_nonneg i (by lia)]; exact q)
theorem op_pow:OpR X (binaryOp .Pow) (rI vh fun i j=>.int (i ^ j.toNat)):=opI fun _ _ _ _ _ _ _ hc q=>pow_int_small hc.1 hc.2.1 hc.2.2 q
theorem op_shr:OpR X (binaryOp .RShift) (rI (fun _ j=>0≤j) fun i j=>.int (i/2 ^ j.toNat)):=opI fun i j _ _ _ _ _ hc q =>
 rshift_int hc (by rw[Int.fdiv_eq_ediv_of_nonneg i (lq _)]; exact q)
theorem op_and:OpR X (binaryOp .BitAnd) (rI0 fun i j=>.int (Builtin.bitAnd i j)):=vg fun _ _ _ _ _ _ _ q=>and_int q
theorem unI{f:Value→Sem Value}{g:Int→Int}
  (rule:∀(i:Int) (t:Tok) (s:Shared) (Q:Value→Shared→Prop) (E:Value→Shared→Prop),Q (.int (g i) s.toks) { s with toks:=s.toks+1 }→wpAny (model X.prog X.w) X.A (f (.int i t)) Q E s) :
  UnR X f (rU fun i=>.int (g i)):=by
 intro pins s σ H x v Q I rx h
 obtain ⟨i,rfl,q⟩:=h
 obtain ⟨t,rfl⟩:=rx
 exact rule i t s _ _ ⟨.int (g i),H,I.tok _,⟨_,rfl⟩,q⟩
theorem vM:UnR X (unaryOp .USub) (rU fun i=>.int (-i)):=unI fun _ _ _ _ _ q=>neg_int q
end
def xE:V→V→Bool
 | .non,.non=>true | .non,.int _=>true | .int _,.non=>true | .non,.bl _=>true | .bl _,.non=>true | .non,.str _=>true | .str _,.non=>true
 | .int _,.int _=>true | .bl _,.bl _=>true | .str _,.str _=>true | .byt _,.byt _=>true
 | .int _,.str _=>true | .str _,.int _=>true | .bl _,.str _=>true | .str _,.bl _=>true
 | _,_=>false
def rEq:R2:=fun x y H Q=>xE x y=true∧Q (.bl (decide (x=y))) H
def rNe:R2:=fun x y H Q=>xE x y=true∧Q (.bl (!decide (x=y))) H
theorem nR{i j:Int}:decide (V.int i=V.int j)=(i == j):=by
 rw[Bool.eq_iff_iff]
 simp
theorem rQ{i j:Bool}:decide (V.bl i=V.bl j)=(i == j):=by
 rw[Bool.eq_iff_iff]
 simp
theorem nH{i j:Str}:decide (V.str i=V.str j)=(i == j):=by
 rw[Bool.eq_iff_iff]
 simp
theorem nY{i j:Array UInt8}:decide (V.byt i=V.byt j)=(i.toList == j.toList):=by
 rw[Bool.eq_iff_iff]
 cases i
 cases j
 simp
section
variable {X:Cx}{a b c:Expr}{ta tb tc:TE}{pos:Pos}
theorem aL{pins:List (Addr×Obj)}{σ:St}{H:Hp}{s:Shared}{Q:VK}{k k':Bool}(I:Inv X pins σ H s)(q:Q (.bl k) H)(e:k=k'):EP X pins σ Q (.bool k') s:=by
 subst e
 exact ⟨.bl k,H,I,rfl,q⟩
theorem op_eq:OpR X (compareOp .Eq) rEq:=by
 intro pins s σ H x y v u Q I rx ry h
 obtain ⟨hs,q⟩:=h
 cases x with
 | non =>
  cases rx
  cases y with
  | non=>cases ry; exact PySem.EqNone.eq_none_none (aL I q (by simp))
  | bl j=>cases ry; exact PySem.EqNone.eq_none_bool (aL I q (by simp))
  | int j=>obtain ⟨t',rfl⟩:=ry; exact PySem.EqNone.eq_none_int (aL I q (by simp))
  | str j=>obtain ⟨t',rfl⟩:=ry; exact PySem.EqNone.eq_none_str (aL I q (by simp))
  | _=>exact absurd (show false=true from hs) Bool.false_ne_true
 | bl i =>
  cases rx
  cases y with
  | non=>cases ry; exact PySem.EqNone.eq_bool_none (aL I q (by simp))
  | bl j=>cases ry; exact eq_bool (aL I q rQ)
  | str j=>obtain ⟨t',rfl⟩:=ry; exact PySem.EqMixed.eq_bool_str (aL I q (by simp))
  | _=>exact absurd (show false=true from hs) Bool.false_ne_true
 | int i =>
  obtain ⟨t,rfl⟩:=rx
  cases y with
  | non=>cases ry; exact PySem.EqNone.eq_int_none (aL I q (by simp))
  | int j=>obtain ⟨t',rfl⟩:=ry; exact eq_int (aL I q nR)
  | str j=>obtain ⟨t',rfl⟩:=ry; exact PySem.EqMixed.eq_int_str (aL I q (by simp))
  | _=>exact absurd (show false=true from hs) Bool.false_ne_true
 | str i =>
  obtain ⟨t,rfl⟩:=rx
  cases y with
  | non=>cases ry; exact PySem.EqNone.eq_str_none (aL I q (by simp))
  | bl j=>cases ry; exact PySem.EqMixed.eq_str_bool (aL I q (by simp))
  | int j=>obtain ⟨t',rfl⟩:=ry; exact PySem.EqMixed.eq_str_int (aL I q (by simp))
  | str j=>obtain ⟨t',rfl⟩:=ry; exact eq_str (aL I q nH)
  | _=>exact absurd (show false=true from hs) Bool.false_ne_true
 | byt i =>
  obtain ⟨t,rfl⟩:=rx
  cases y with
  | byt j=>obtain ⟨t',rfl⟩:=ry; exact PySem.W.eq_bytes (aL I q nY)
  | _=>exact absurd (show false=true from hs) Bool.false_ne_true
 | _=>cases y <;> exact absurd (show false=true from hs) Bool.false_ne_true
theorem op_ne:OpR X (compareOp .NotEq) rNe:=by
 intro pins s σ H x y v u Q I rx ry h
 obtain ⟨hs,q⟩:=h
 cases x with
 | non =>
  cases rx
  cases y with
  | non=>cases ry; exact PySem.EqNone.ne_none_none (aL I q (by simp))
  | bl j=>cases ry; exact PySem.EqNone.ne_none_bool (aL I q (by simp))
  | int j=>obtain ⟨t',rfl⟩:=ry; exact PySem.EqNone.ne_none_int (aL I q (by simp))
  | str j=>obtain ⟨t',rfl⟩:=ry; exact PySem.EqNone.ne_none_str (aL I q (by simp))
  | _=>exact absurd (show false=true from hs) Bool.false_ne_true
 | bl i =>
  cases rx
  cases y with
  | non=>cases ry; exact PySem.EqNone.ne_bool_none (aL I q (by simp))
  | bl j=>cases ry; exact ne_bool (aL I q (congrArg not rQ))
  | str j=>obtain ⟨t',rfl⟩:=ry; exact PySem.EqMixed.ne_bool_str (aL I q (by simp))
  | _=>exact absurd (show false=true from hs) Bool.false_ne_true
 | int i =>
  obtain ⟨t,rfl⟩:=rx
  cases y with
  | non=>cases ry; exact PySem.EqNone.ne_int_none (aL I q (by simp))
  | int j=>obtain ⟨t',rfl⟩:=ry; exact ne_int (aL I q (congrArg not nR))
  | str j=>obtain ⟨t',rfl⟩:=ry; exact PySem.EqMixed.ne_int_str (aL I q (by simp))
  | _=>exact absurd (show false=true from hs) Bool.false_ne_true
 | str i =>
  obtain ⟨t,rfl⟩:=rx
  cases y with
  | non=>cases ry; exact PySem.EqNone.ne_str_none (aL I q (by simp))
  | bl j=>cases ry; exact PySem.EqMixed.ne_str_bool (aL I q (by simp))
  | int j=>obtain ⟨t',rfl⟩:=ry; exact PySem.EqMixed.ne_str_int (aL I q (by simp))
  | str j=>obtain ⟨t',rfl⟩:=ry; exact ne_str (aL I q (congrArg not nH))
  | _=>exact absurd (show false=true from hs) Bool.false_ne_true
 | byt i =>
  obtain ⟨t,rfl⟩:=rx
  cases y with
  | byt j=>obtain ⟨t',rfl⟩:=ry; exact PySem.W.ne_bytes (aL I q (congrArg not nY))
  | _=>exact absurd (show false=true from hs) Bool.false_ne_true
 | _=>cases y <;> exact absurd (show false=true from hs) Bool.false_ne_true
theorem op_lt:OpR X (compareOp .Lt) (rI0 fun i j=>.bl (decide (i<j))):=xy fun _ _ _ _ _ _ _ q=>lt_int q
theorem op_gt:OpR X (compareOp .Gt) (rI0 fun i j=>.bl (decide (j<i))):=xy fun _ _ _ _ _ _ _ q=>gt_int q
theorem o9:OpR X (compareOp .Lt) (fun x y H Q=>∃ i j,x=.str i∧y=.str j∧Q (.bl (decide (i.cps.toList<j.cps.toList))) H):=by
 intro pins s σ H x y v u Q I rx ry h
 obtain ⟨i,j,rfl,rfl,q⟩:=h
 obtain ⟨t,rfl⟩:=rx
 obtain ⟨t',rfl⟩:=ry
 exact lt_str (aL I q rfl)
theorem OpR.or{f:Value→Value→Sem Value}{r r':R2}(h:OpR X f r)(h':OpR X f r'):OpR X f (fun x y H Q=>r x y H Q∨r' x y H Q):=by
 intro pins s σ H x y v u Q I rx ry q
 rcases q with q | q
 ·exact h pins s σ H x y v u Q I rx ry q
 ·exact h' pins s σ H x y v u Q I rx ry q
theorem bM(b:Expr){op:CmpOp}(h:op≠.In:=by decide)(h2:op≠.NotIn:=by decide):behindInMarks op b=false:=by
 have e1:(op == CmpOp.In)=false:=by cases op <;> first | rfl | exact absurd rfl h
 have e2:(op == CmpOp.NotIn)=false:=by cases op <;> first | rfl | exact absurd rfl h2
 cases b <;> simp[behindInMarks,e1,e2]
theorem gL{op:CmpOp}{r:R2}(ho:OpR X (compareOp op) r)(ha:PE X a ta)(hb:PE X b tb)(hm:behindInMarks op b=false):PE X (.Compare a [op] [b] pos) (tOp r ta tb):=by
 intro pins s σ H Q I h
 exact wpAny_Compare1 (vb ha hb I h fun v u s2 x y H2 I2 rx ry q=>ho pins s2 σ H2 x y v u Q I2 rx ry q) hm
def wY(K:Frag)(x:V)(H:Hp)(k:Bool):Prop :=
 match x with
 | .non=>k=false
 | .bl b=>k=b
 | .int i=>k=(i != 0)
 | .str y=>y.length≤sizeLine∧k=((y.length:Int) != 0)
 | .byt y=>y.size≤sizeLine∧k=((y.size:Int) != 0)
 | .ref p=>(∃ xs,SqL K H p xs∧k = !xs.isEmpty)∨(∃ xs,SqT K H p xs∧k = !xs.isEmpty)∨∃ kvs,H p=some (.dK kvs)∧k = !kvs.isEmpty
 | _=>False
theorem lD{κ:Type}{kvs:List (κ×V)}{vs:List (κ×Value)}(r:KV kvs vs):(!vs.isEmpty) = !kvs.isEmpty:=by
 cases r <;> rfl
theorem io{xs:List V}{its:List Value}(r:Vals xs its):(!its.toArray.isEmpty) = !xs.isEmpty:=by
 cases r <;> simp
theorem fc:(sizeLine:Nat)<2 ^ 63:=by rw[sizeLine_eq]; decide
theorem vy:xV X (fun x H Q=>∃ k,wY X.K x H k∧Q k H):=by
 intro pins s σ H x v Q I rx h
 obtain ⟨k,e,q⟩:=h
 have hl:=fc
 have hs:sizeLine=16777216:=sizeLine_eq
 cases x with
 | non =>
  cases rx
  have e':k=false:=e
  subst e'
  exact truthy_none ⟨H,I,q⟩
 | bl b =>
  cases rx
  have e':k=b:=e
  subst e'
  exact wpAny_truthy_bool ⟨H,I,q⟩
 | int i =>
  obtain ⟨t,rfl⟩:=rx
  have e':k=(i != 0):=e
  subst e'
  exact PySem.P.truthy_int ⟨H,I,q⟩
 | str y =>
  obtain ⟨t,rfl⟩:=rx
  obtain ⟨hy,e'⟩:y.length≤sizeLine∧k=((y.length:Int) != 0):=e
  subst e'
  exact PySem.P.truthy_str (by lia) ⟨H,I.tok _,q⟩
 | byt y =>
  obtain ⟨t,rfl⟩:=rx
  obtain ⟨hy,e'⟩:y.size≤sizeLine∧k=((y.size:Int) != 0):=e
  subst e'
  exact PySem.W.truthy_bytes (by lia) ⟨H,I.tok _,q⟩
 | ref p =>
  cases rx
  have e':(∃ xs,SqL X.K H p xs∧k = !xs.isEmpty)∨(∃ xs,SqT X.K H p xs∧k = !xs.isEmpty)∨∃ kvs,H p=some (.dK kvs)∧k = !kvs.isEmpty:=e
  rcases e' with ⟨xs,hx,e'⟩ | ⟨xs,hx,e'⟩ | ⟨kvs,hx,e'⟩
  ·subst e'
   obtain ⟨its,r,pl,hz⟩:=I.list hx
   have hlen:=r.length
   exact wpAny_truthy_list pl.isList (by simp only[size_toArray]; lia) ⟨H,I.tok _,by rw[io r]; exact q⟩
  ·subst e'
   obtain ⟨its,r,pl,hz⟩:=I.tuple hx
   have hlen:=r.length
   exact truthy_tuple pl (by simp only[size_toArray]; lia) ⟨H,I.tok _,by rw[io r]; exact q⟩
  ·subst e'
   obtain ⟨hz,hS,vs,r,m⟩:kvs.length≤sizeLine∧(p == sysModules)=false∧∃ vs,KV kvs vs∧s.heap.DictOf (aZ X.prog X.w) p vs:=I.hok p _ hx
   have hlen:kvs.length=vs.length:=Paired.length r
   exact wpAny_truthy_dict hS m (by lia) ⟨H,I.tok _,by rw[lD r]; exact q⟩
 | _=>exact (show False from e).elim
theorem kE(ha:PE X a ta)(he:∀ whole,isTrue a X.env whole=(do let v ← whole; standAt a.pos; holding [v] (truthy v))) :
  PT X a (fun σ H Q=>ta σ H fun x H'=>∃ k,wY X.K x H' k∧Q k H'):=by
 intro pins s σ H Q I h
 exact isTrue_plain (thn (ha pins s σ H _ I h) fun v s1 ⟨x,H1,I1,r1,q1⟩=>vy pins s1 σ H1 x v Q I1 r1 q1) (he _)
theorem lU:OpR X (binaryOp .Add) (fun x y H Q=>∃ i j,x=.str i∧y=.str j∧i.length+j.length≤sizeLine∧Q (.str (i++j)) H):=by
 intro pins s σ H x y v u Q I rx ry h
 obtain ⟨i,j,rfl,rfl,hz,q⟩:=h
 obtain ⟨t,rfl⟩:=rx
 obtain ⟨t',rfl⟩:=ry
 exact add_str (fun t' tk=>⟨.str (i++j),H,I.tok _,⟨_,rfl⟩,q⟩) hz
theorem eI{x:V}{us:List Value}(r:Vals [x] us):∃ u,us=[u]∧RelV x u:=by
 cases r with
 | cons r1 r2=>cases r2; exact ⟨_,rfl,r1⟩
theorem rK{x y:V}{us:List Value}(r:Vals [x,y] us):∃ u w',us=[u,w']∧RelV x u∧RelV y w':=by
 cases r with
 | cons r1 r2 =>
  cases r2 with
  | cons r3 r4=>cases r4; exact ⟨_,_,rfl,r1,r3⟩
theorem iu:CallR X (.builtin "abs") (fun xs H Q=>∃ i,xs=[.int i]∧Q (.int (if i<0 then -i else i)) H):=by
 intro pins s σ H xs us Q I r h
 obtain ⟨i,rfl,q⟩:=h
 obtain ⟨u,rfl,t,rfl⟩:=eI r
 exact call_abs_int fun u tk=>⟨.int (if i<0 then -i else i),H,I.tok _,⟨_,rfl⟩,q⟩
theorem ph:CallR X (.type "int") (fun xs H Q=>(∃ i,xs=[.int i]∧Q (.int i) H)∨∃ k,xs=[.bl k]∧Q (.int (if k then 1 else 0)) H):=by
 intro pins s σ H xs us Q I r h
 rcases h with ⟨i,rfl,q⟩ | ⟨k,rfl,q⟩
 ·obtain ⟨u,rfl,t,rfl⟩:=eI r
  exact call_int_int ⟨.int i,H,I,⟨_,rfl⟩,q⟩
 ·obtain ⟨u,rfl,r1⟩:=eI r
  cases r1
  exact call_int_bool ⟨.int (if k then 1 else 0),H,I.tok _,⟨_,rfl⟩,q⟩
end
structure ObjM(h:Heap)(x dx C:Addr)(mA:Str→Option Value):Prop where
 obj:h.get? x=some (instObj C dx)
 ns:h.Ns1 dx mA
 ne:dx≠x
theorem oG{h:Heap}{dx:Addr}{mA:Str→Option Value}(n:h.Ns1 dx mA):∃ od,h.get? dx=some od∧∀ name,lookIn name od=some (mA name):=by
 obtain ⟨o,es,ep,ho,hd,hk,_,hm⟩:=n
 refine ⟨o,ho,fun name=>?_⟩
 have e:=hm name
 unfold nsFind findBy at e
 rw[← Array.find?_toList]at e
 unfold lookIn
 rw[hd]
 dsimp only
 split
 ·rename_i y q
  rw[q]at e
  exact congrArg some e
 ·rename_i q
  rw[q]at e
  have a:es.toList.any (·.refKey)=false:=by
   rw[List.any_eq_false]
   intro y hy
   obtain ⟨z,t,hkey⟩:=hk y (Array.mem_toList_iff.mp hy)
   simp[DictEntry.refKey,hkey]
  have a':¬es.toList.any (·.refKey)=true:=by rw[a]; exact Bool.false_ne_true
  rw[if_neg a']
  exact congrArg some e
theorem ObjM.look{h:Heap}{x dx C:Addr}{mA:Str→Option Value}(I:ObjM h x dx C mA):∃ od,InstAt h x (instObj C dx) C (some od)∧∀ name,lookIn name od=some (mA name) :=
 let ⟨od,ho,hl⟩:=oG I.ns
 ⟨od,⟨I.obj,rfl,rfl,ho⟩,hl⟩
section
variable {prog:Program}{w:World}{A:Around}{E:Value→Shared→Prop}{s:Shared}{K:Frag}{x dx C f:Addr}{mA:Str→Option Value}{name:Str}{v:Value}
theorem jJ{expr:Bool}{Q:Value→Shared→Prop}(X:K.In s.heap)(I:ObjM s.heap x dx C mA)(hg:plainGet K C name=true)(hh:hasDictIn K C=true)
  (ha:findIn K (.ref C) name=some none) (hv:mA name=some v) (hv':handedIn v=true) (h:Q v { s with toks:=s.toks+1 }) :
  wpAny (model prog w) A (getAttr (.ref x) name expr) Q E s:=by
 obtain ⟨od,J,hl⟩:=I.look
 exact PySem.W.get_value X J (plainGet_of hg).1 (PySem.W.findObj_own hh ha rfl (by rw[hl,hv])) hv' h
theorem rT{pl:Sem Bool}{Q:Value×List Value→Shared→Prop}(X:K.In s.heap)(I:ObjM s.heap x dx C mA)(hg:plainGet K C name=true)
  (hf:findIn K (.ref C) name=some (some (.ref f))) (ht:isFn K (.ref f)=true) (hv:mA name=none) (h:Q (.ref f,[.ref x]) s) :
  wpAny (model prog w) A (getMethod (.ref x) name pl) Q E s:=by
 obtain ⟨od,J,hl⟩:=I.look
 exact PySem.W.method_fn X J (plainGet_of hg).1 (plainGet_of hg).2 hf (beq_iff_eq.mp ht) (by show (lookIn name od).map (·.isSome)=some false; rw[hl,hv]; rfl) h
theorem uv{ns:List Str}{Q:Unit→Shared→Prop}(X:K.In s.heap)(I:ObjM s.heap x dx C mA)
  (hs:findIn K (.ref C) "__setattr__" = some (some (.builtin "object.__setattr__"))) (hp:plainOver K C=true) (ht:takerIn K C name=some none) (hh:hasDictIn K C=true)
  (hw:PySem.Within mA ns) (hsz:ns.length≤sizeLine)
  (h:∀ h',ObjM h' x dx C (fun y=>if y=name then some v else mA y)→Heap.SameBut dx s.heap h'→Q () { s with heap:=h',toks:=s.toks+2 }) :
  wpAny (model prog w) A (setAttr (.ref x) name v) Q E s:=by
 obtain ⟨od,J,hl⟩:=I.look
 refine PySem.W.set_plain X J hs (PySem.W.osa_open (s:={ s with toks:=s.toks+1 }) (r:=none) X J hp ht fun b=>?_)
 obtain ⟨cd,hc,hd'⟩:=any_some hh
 have hx:s.heap.get? x=some ⟨.ref C,some dx,.plain,#[]⟩:=I.obj
 refine wpAny_bind (wpAny_pure (wpAny_bind (wpAny_bind (wpAny_loadPart hx (wpAny_bind (PySem.W.Looks.here (s:={ s with toks:=s.toks+1 }) (PySem.W.looks_clsIn X hc) ?_))))))
 rw[hd']
 refine wpAny_pure (a:=some dx) (wpAny_bind (wpAny_pure (wpAny_bind ?_)))
 refine wpAny_nsSet1 (s:={ s with toks:=s.toks+1 }) I.ns fun h' hn2 hs2=>?_
 obtain ⟨oD,esD,epD,hoD,hdD,hcD⟩:=hn2.count (PySem.Within.cons name v hw)
 refine wpAny_bind (wpAny_lookBehind hoD (by rw[hdD]; exact pastItsLine_dict (Nat.le_trans hcD (by rw[length_cons]; lia))) ?_)
 exact wpAny_pure (h _ ⟨(hs2.2 _ (Ne.symm I.ne)).trans I.obj,hn2,I.ne⟩ hs2)
theorem qy{R:Result→Shared→Prop}{vs:List Value}{kw:List (Str×Value)}(X:K.In s.heap)(hm:makesIn K C=true)
  (hi:findIn K (.ref C) "__init__" = some (some (.ref f))) (hf:typeIn K (.ref f)=some (.type "function"))
  (h:codeAny (model prog w) (A.under (.builtin "type.__call__" ⟨.ref C::vs,kw⟩)) (.call (.ref f) ⟨.ref (s.heap.objs.size+1)::vs,kw⟩) (PySem.W.InitBack (s.heap.objs.size+1) R)
   { s with heap:=(s.heap.push emptyDict).push (instObj C s.heap.objs.size) }) :
  codeAny (model prog w) A (.call (.ref C) ⟨vs,kw⟩) R s:=by
 obtain ⟨hh,g,d,t,os⟩:=s
 exact PySem.W.make_core (PySem.W.makes_of X hm) (PySem.W.looks_findIn X hi) (fun self=>PySem.W.bind_fn X self hf) (.inl rfl) h
end
def eV(f:Str)(v:V):List (Str×V)→List (Str×V)
 | []=>[(f,v)]
 | (g,x)::r=>if g=f then (g,v)::r else (g,x)::eV f v r
theorem gv(f g:Str)(v:V):∀ fs:List (Str×V),(eV f v fs).lookup g=if g=f then some v else fs.lookup g
 | []=>by
  show List.lookup g [(f,v)]=_
  by_cases h:g=f
  ·have hb:(g == f)=true:=beq_iff_eq.mpr h
   simp only[List.lookup,hb,if_pos h]
  ·have hb:(g == f)=false:=beq_eq_false_iff_ne.mpr h
   simp only[List.lookup,hb,if_neg h]
 | (k,x)::r=>by
  have ih:=gv f g v r
  rw[show eV f v ((k,x)::r)=(if k=f then (k,v)::r else (k,x)::eV f v r) from rfl]
  by_cases hk:k=f
  ·rw[if_pos hk]
   by_cases h:g=k
   ·have hb:(g == k)=true:=beq_iff_eq.mpr h
    simp only[List.lookup,hb,if_pos (h.trans hk)]
   ·have hb:(g == k)=false:=beq_eq_false_iff_ne.mpr h
    simp only[List.lookup,hb,if_neg (fun e:g=f=>h (e.trans hk.symm))]
  ·rw[if_neg hk]
   by_cases h:g=k
   ·have hb:(g == k)=true:=beq_iff_eq.mpr h
    simp only[List.lookup,hb,if_neg (fun e:g=f=>hk (h.symm.trans e))]
   ·have hb:(g == k)=false:=beq_eq_false_iff_ne.mpr h
    simp only[List.lookup,hb]
    exact ih
theorem fX(f:Str)(v:V):∀ fs:List (Str×V),f∈(eV f v fs).map (·.1)∧∀ g,g∈fs.map (·.1)→g∈(eV f v fs).map (·.1)
 | []=>⟨by simp[eV],fun g h=>by simp at h⟩
 | (k,x)::r=>by
  obtain ⟨i1,i2⟩:=fX f v r
  rw[show eV f v ((k,x)::r)=(if k=f then (k,v)::r else (k,x)::eV f v r) from rfl]
  by_cases hk:k=f
  ·rw[if_pos hk]
   subst hk
   exact ⟨by simp,fun g h=>by simpa using h⟩
  ·rw[if_neg hk]
   refine ⟨?_,fun g h=>?_⟩
   ·rw[map_cons]
    exact mem_cons_of_mem _ i1
   ·rw[map_cons]at h ⊢
    rcases mem_cons.mp h with e | e
    ·exact mem_cons.mpr (.inl e)
    ·exact mem_cons_of_mem _ (i2 g e)
theorem gp(f:Str)(v:V):∀ fs:List (Str×V),(eV f v fs).length≤fs.length+1
 | []=>by simp[eV]
 | (k,x)::r=>by
  have ih:=gp f v r
  rw[show eV f v ((k,x)::r)=(if k=f then (k,v)::r else (k,x)::eV f v r) from rfl]
  by_cases hk:k=f
  ·rw[if_pos hk,length_cons,length_cons]; lia
  ·rw[if_neg hk,length_cons,length_cons]; lia
theorem RelO.some_of{v:V}{o:Option Value}(r:RelO (some v) o):∃ u,o=some u∧RelV v u:=by
 cases o with
 | none=>exact (show False from r).elim
 | some u=>exact ⟨u,rfl,r⟩
theorem RelO.none_of{o:Option Value}(r:RelO none o):o=none:=by
 cases o with
 | none=>rfl
 | some u=>exact (show False from r).elim
theorem oV{v:V}{u:Value}(r:RelV v u):handedIn u=true:=by
 cases v with
 | non=>cases (show u=Value.none from r); rfl
 | bl b=>cases (show u=Value.bool b from r); rfl
 | int i=>obtain ⟨t,e⟩:=(show ∃ t,u=Value.int i t from r); cases e; rfl
 | str x=>obtain ⟨t,e⟩:=(show ∃ t,u=Value.str x t from r); cases e; rfl
 | byt b=>obtain ⟨t,e⟩:=(show ∃ t,u=Value.bytes b t from r); cases e; rfl
 | flt b=>obtain ⟨t,e⟩:=(show ∃ t,u=Value.float b t from r); cases e; rfl
 | ref a=>cases (show u=Value.ref a from r); rfl
 | ty n=>cases (show u=Value.type n from r); rfl
section
variable {P:Program}{w:World}{H H':Hp}{h h':Heap}{a C dx:Addr}{fs fs':List (Str×V)}
theorem gO(hok:HOk P w H h)(e:H a=some (.ins C dx fs)):∃ mA,ObjM h a dx C mA∧(∀ f,RelO (fs.lookup f) (mA f))∧PySem.Within mA (fs.map (·.1))∧fs.length≤1000∧H dx=some (.own a):=by
 obtain ⟨d,z,ne,ob,mA,n,r,q⟩:=(show ObjOk P w H h a (.ins C dx fs) from hok a _ e)
 exact ⟨mA,⟨ob,n,ne⟩,r,q,z,d⟩
end
structure Cls(K:Frag)(C:Addr):Prop where
 pg:plainGet K C Str.empty=true
 hd:hasDictIn K C=true
 po:plainOver K C=true
 sa:findIn K (.ref C) "__setattr__" = some (some (.builtin "object.__setattr__"))
theorem Cls.get{K:Frag}{C:Addr}(c:Cls K C)(f:Str):plainGet K C f=true:=c.pg
def NoAttr(K:Frag)(C:Addr)(f:Str):Prop:=findIn K (.ref C) f=some none
theorem NoAttr.taker{K:Frag}{C:Addr}{f:Str}(n:NoAttr K C f):takerIn K C f=some none:=by
 unfold takerIn
 rw[show findIn K (.ref C) f=some none from n]
 rfl
structure Meth(K:Frag)(C:Addr)(m:Str)(f:Addr):Prop where
 at_:findIn K (.ref C) m=some (some (.ref f))
 fn:isFn K (.ref f)=true
 kp:keepIn K (.ref f)=true
section
variable {X:Cx}{pins:List (Addr×Obj)}{σ:St}{H:Hp}{s:Shared}{a C dx:Addr}{fs:List (Str×V)}{f:Str}{v:V}{A:Around}{E:Value→Shared→Prop}
theorem mv{b:Bool}{Q:Value→Shared→Prop}(I:Inv X pins σ H s)(e:H a=some (.ins C dx fs))(c:Cls X.K C)(n:NoAttr X.K C f)(l:fs.lookup f=some v)
  (h:∀ u s',Inv X pins σ H s'→RelV v u→Q u s'):wpAny (model X.prog X.w) A (getAttr (.ref a) f b) Q E s:=by
 obtain ⟨mA,O,r,_,_,_⟩:=gO I.hok e
 obtain ⟨u,hu,ru⟩:=RelO.some_of (v:=v) (o:=mA f) (by rw[← l]; exact r f)
 exact jJ I.kIn O (c.get f) c.hd n hu (oV ru) (h u _ (I.tok _) ru)
theorem lG{m:Str}{g:Addr}{pl:Sem Bool}{Q:Value×List Value→Shared→Prop}(I:Inv X pins σ H s)(e:H a=some (.ins C dx fs))(c:Cls X.K C)(k:Meth X.K C m g)(l:fs.lookup m=none)
  (h:Q (.ref g,[.ref a]) s):wpAny (model X.prog X.w) A (getMethod (.ref a) m pl) Q E s:=by
 obtain ⟨mA,O,r,_,_,_⟩:=gO I.hok e
 have hn:mA m=none:=RelO.none_of (by rw[← l]; exact r m)
 exact rT I.kIn O (c.get m) k.at_ k.fn hn h
theorem mD{y:V}{u:Value}{Q:Unit→Shared→Prop}(I:Inv X pins σ H s)(e:H a=some (.ins C dx fs))(c:Cls X.K C)(n:NoAttr X.K C f)(hl:fs.length<1000)(ry:RelV y u)
  (h:∀ s',Inv X pins σ (upd H a (.ins C dx (eV f y fs))) s'→Q () s'):wpAny (model X.prog X.w) A (setAttr (.ref a) f u) Q E s:=by
 obtain ⟨mA,O,r,wi,_,ho⟩:=gO I.hok e
 have hz:(fs.map (·.1)).length≤sizeLine:=by rw[length_map,sizeLine_eq]; lia
 refine uv I.kIn O c.sa c.po n.taker c.hd wi hz fun h' O' sb=>h _ ?_
 have hd:∃ o,h'.get? dx=some o:=let ⟨o,_,_,e',_⟩:=O'.ns; ⟨o,e'⟩
 refine I.write (x:=a) (e:=dx) (by rw[e]; exact True.intro) (.inr ho) (fun b q hb z=>(sb.2 b hb).trans z) hd ?_
 refine ⟨by rw[ag O.ne]; exact ho,?_,O.ne,O'.obj,_,O'.ns,fun g=>?_,fun g hg=>?_⟩
 ·have:=gp f y fs; lia
 ·show RelO ((eV f y fs).lookup g) (if g=f then some u else mA g)
  rw[gv]
  by_cases q:g=f
  ·rw[if_pos q,if_pos q]; exact ry
  ·rw[if_neg q,if_neg q]; exact r g
 ·by_cases q:g=f
  ·rw[q]; exact (fX f y fs).1
  ·refine (fX f y fs).2 g (wi g fun z=>hg ?_)
   show (if g=f then some u else mA g)=none
   rw[if_neg q]; exact z
theorem Inv.made(I:Inv X pins σ H s):Inv X pins σ (upd (upd H s.heap.objs.size (.own (s.heap.objs.size+1))) (s.heap.objs.size+1) (.ins C s.heap.objs.size []))
  { s with heap:=(s.heap.push emptyDict).push (instObj C s.heap.objs.size) }:=by
 have e1:(s.heap.push emptyDict).get? s.heap.objs.size=some emptyDict:=Heap.get?_push_size s.heap rfl
 have e2:((s.heap.push emptyDict).push (instObj C s.heap.objs.size)).get? (s.heap.objs.size+1)=some (instObj C s.heap.objs.size):=by
  have:=Heap.get?_push_size (s.heap.push emptyDict) (o:=instObj C s.heap.objs.size) rfl
  rwa [Heap.size_push]at this
 have e3:(s.heap.push emptyDict).Ns s.heap.objs.size (fun _=>none):=⟨emptyDict,#[],_,e1,rfl,(fun e he=>absurd he (by simp)),fun _=>rfl⟩
 have I1:=I.laid (a:=s.heap.objs.size) (o:=.own (s.heap.objs.size+1)) (h':=s.heap.push emptyDict) (t':=s.toks) (fun b u q=>Heap.get?_push_of_some _ q) (Nat.le_refl _) ⟨_,e1⟩
 refine I1.laid (a:=s.heap.objs.size+1) (o:=.ins C s.heap.objs.size []) (t':=s.toks) (fun b u q=>Heap.get?_push_of_some _ q) (Nat.le_of_eq (Heap.size_push _ _)) ?_
 have ne:s.heap.objs.size≠s.heap.objs.size+1:=Nat.ne_of_lt (Nat.lt_succ_self _)
 refine ⟨by rw[ag ne,ad],Nat.zero_le _,ne,e2,fun _=>none,(Heap.Ns1.of_empty e3).at fun o q=>Heap.get?_push_of_some _ q,fun _=>True.intro,fun y hy=>absurd rfl hy⟩
theorem tJ{prog:Program}{w:World}{env:Env}{e:Expr}{f:Str}{pos:Pos}{s:Shared}{Q:Value→Shared→Prop}(hb:attributeBase e f env (eval e env)=eval e env)
  (h:wpAny (model prog w) A (eval e env) (fun o s₁=>wpAny (model prog w) A (getAttr o f true) Q E s₁) E s):wpAny (model prog w) A (eval (.Attribute e f pos) env) Q E s :=
 Attribute_any_ h (by rw[arm_eval_Attribute,hb])
end
def xJ(K:Frag)(ta:TE)(f:Str):TE:=fun σ H Q=>ta σ H fun x H1=>∃ a C dx fs v,x=.ref a∧H1 a=some (.ins C dx fs)∧Cls K C∧NoAttr K C f∧fs.lookup f=some v∧Q v H1
def xI(K:Frag)(ta tv:TE)(f:Str):TS:=fun D σ H=>tv σ H fun y H1=>ta σ H1 fun x H2=>∃ a C dx fs,x=.ref a∧H2 a=some (.ins C dx fs)∧Cls K C∧NoAttr K C f∧fs.length<1000 ∧
 D.nx σ (upd H2 a (.ins C dx (eV f y fs)))
section
variable {X:Cx}{o e value:Expr}{f:Str}{pos pos' tpos:Pos}{ta tv:TE}
theorem lN(he:PE X e ta)(hb:attributeBase e f X.env (eval e X.env)=eval e X.env):PE X (.Attribute e f pos) (xJ X.K ta f):=by
 intro pins s σ H Q I h
 refine tJ hb (thn (he pins s σ H _ I h) fun u s1 ⟨x,H1,I1,rx,a,C,dx,fs,v,ex,ea,c,n,l,q⟩=>?_)
 subst ex
 obtain rfl:u=Value.ref a:=rx
 exact mv I1 ea c n l fun u' s2 I2 ru=>⟨v,H1,I2,ru,q⟩
theorem pZ(ha:PE X o ta)(hv:PE X value tv)(hs:swapsWith value (some (.Attribute o f pos')) pos.line X.env=pure false):PS X (.Assign [.Attribute o f pos'] value pos) (xI X.K ta tv f):=by
 intro pins s σ H D I h
 refine plainObj_wpAny_Assign_Attribute (thn (hv pins s σ H _ I h) fun u s1 ⟨y,H1,I1,ry,q⟩=>thn (ha pins s1 σ H1 _ I1 q) fun ov s2 ⟨x,H2,I2,rx,a,C,dx,fs,ex,ea,c,n,l,q2⟩=>?_) hs
 subst ex
 obtain rfl:ov=Value.ref a:=rx
 exact mD I2 ea c n l ry fun s3 I3=>⟨σ,_,I3,q2⟩
end
section
variable {X:Cx}{pins:List (Addr×Obj)}{σ:St}{H:Hp}{s:Shared}{A:Around}{E:Value→Shared→Prop}{Q:Value→Shared→Prop}{c:Value}{b:Bool}
inductive TyOf(K:Frag)(H:Hp):V→Value→Prop where
 | non:TyOf K H .non (.type "NoneType")
 | bl (x:Bool):TyOf K H (.bl x) (.type "bool")
 | int (i:Int):TyOf K H (.int i) (.type "int")
 | str (x:Str):TyOf K H (.str x) (.type "str")
 | flt (x:UInt64):TyOf K H (.flt x) (.type "float")
 | lst {a:Addr}{xs:List V}(e:H a=some (.lst xs)):TyOf K H (.ref a) (.type "list")
 | frz {a:Addr}{o:Obj}{xs:List V}(e:H a=some (.frz o (.lst xs))):TyOf K H (.ref a) (.type "list")
 | tup {a:Addr}{xs:List V}(e:H a=some (.tup xs)):TyOf K H (.ref a) (.type "tuple")
 | dK {a:Addr}{kvs:List (Key×V)}(e:H a=some (.dK kvs)):TyOf K H (.ref a) (.type "dict")
 | dT {a:Addr}{kvs:List (List Key×V)}(e:H a=some (.dT kvs)):TyOf K H (.ref a) (.type "dict")
 | ins {a C dx:Addr}{fs:List (Str×V)}(e:H a=some (.ins C dx fs)) (cl:Cls K C) (ha:findIn K (.ref C) "__class__" = some (some (.builtin "object.__class__")))
   (hn:specialIn K (.builtin "object.__class__") "__get__" = some (some (.builtin "getset_descriptor.__get__"))) (htk:takesIn K (.builtin "object.__class__")=some true)
   (hm:mroIn K C (.type "object")=some true):TyOf K H (.ref a) (.ref C)
end
structure Room(k:Nat)(A:Around):Prop where
 hd:A.handled=none
 dp:A.depth+3*k+5<recursionLimit
 un:A.units+16*k+200<cLine
theorem Room.mono{j k:Nat}{A:Around}(r:Room k A)(h:j≤k):Room j A:=⟨r.hd,by have:=r.dp; lia,by have:=r.un; lia⟩
theorem Room.deeper{k:Nat}{A:Around}(r:Room (k+1) A)(env:Env):Room k (A.deeper env) :=
 ⟨r.hd,by have:=r.dp; show A.depth+1+3*k+5<_; lia,by have:=r.un; show A.units+3+16*k+200<_; lia⟩
theorem mt{A:Around}{C:Addr}{us:List Value}{kw:List (Str×Value)}:(A.under (.builtin "type.__call__" ⟨.ref C::us,kw⟩)).depth=A.depth+1:=by
 first | rfl | simp[Around.under,Code.weight,Code.isCreation,Code.isGuard,Code.isCaller,Code.frames,Code.isFrame,guardIds]
theorem mH{A:Around}{C:Addr}{us:List Value}{kw:List (Str×Value)}:(A.under (.builtin "type.__call__" ⟨.ref C::us,kw⟩)).units=A.units+1:=by
 first | rfl | simp[Around.under,Code.cUnits,Code.frames,Code.isFrame]
theorem Room.make{k:Nat}{A:Around}(r:Room (k+1) A)(C:Addr)(us:List Value)(kw:List (Str×Value)):Room k (A.under (.builtin "type.__call__" ⟨.ref C::us,kw⟩)) :=
 ⟨r.hd,by have:=r.dp; rw[mt]; lia,by have:=r.un; rw[mH]; lia⟩
theorem Room.depth{k:Nat}{A:Around}(r:Room k A):A.depth<recursionLimit:=by have:=r.dp; lia
theorem Room.units{k:Nat}{A:Around}(r:Room k A):A.units+64<cLine:=by have:=r.un; lia
def vT:TA:=fun _ H Q=>Q [] H
def rZ(ta:TE)(tr:TA):TA:=fun σ H Q=>ta σ H fun x H1=>tr σ H1 fun xs H2=>Q (x::xs) H2
section
variable {X:Cx}{e:Expr}{es:List Expr}{te:TE}{t:TA}{pos:Pos}
theorem af:PA X [] vT:=fun _ _ _ _ H Q I h=>Calls.spliced_nil ⟨[],H,I,.nil,h⟩
theorem aa(ha:PE X e te)(hr:PA X es t)(hs:starEach (e::es) X.env=(false,eval e X.env)::starEach es X.env:=by rfl):PA X (e::es) (rZ te t):=by
 intro pos pins s σ H Q I h
 rw[hs]
 show wpAny _ _ (spliced ((false,eval e X.env)::backTo pos (starEach es X.env))) _ _ s
 refine Calls.spliced_cons (thn (ha pins s σ H _ I h) fun u s1 ⟨x,H1,I1,r1,q1⟩=>?_)
 exact thn (hr pos pins s1 σ H1 _ I1 q1) fun us s2 ⟨xs,H2,I2,r2,q2⟩=>⟨x::xs,H2,I2,.cons r1 r2,q2⟩
def yg(t:TA):TE:=fun σ H Q=>t σ H fun xs H1=>xs.length≤sizeLine∧∀ p,H1 p=none→Q (.ref p) (upd H1 p (.tup xs))
def vL(t:TA):TE:=fun σ H Q=>t σ H fun xs H1=>xs.length≤sizeLine∧∀ p,H1 p=none→Q (.ref p) (upd H1 p (.lst xs))
theorem bO{x1}(h:PA X es t):PE X (.Tuple es x1 pos) (yg t):=by
 intro pins s σ H Q I hq
 refine wpAny_Tuple_spliced (thn (h pos pins s σ H _ I hq) fun us s1 ⟨xs,H1,I1,r,z,q⟩=>⟨by rw[← r.length]; exact z,?_⟩)
 have hf:H1 s1.heap.objs.size=none:=I1.hok.fresh (Nat.le_refl _)
 refine ⟨.ref s1.heap.objs.size,upd H1 s1.heap.objs.size (.tup xs),I1.laid (t':=s1.toks) (fun b u e=>Heap.get?_push_of_some _ e) (Nat.le_refl _) ?_,rfl,q _ hf⟩
 exact ⟨z,us,r,⟨_,Heap.get?_push_size _ rfl,rfl,_,rfl⟩⟩
theorem cI(h:PA X es t):PE X (.List es pos) (vL t):=by
 intro pins s σ H Q I hq
 refine wpAny_List_spliced (thn (h pos pins s σ H _ I hq) fun us s1 ⟨xs,H1,I1,r,z,q⟩=>⟨by rw[← r.length]; exact z,?_⟩)
 have hf:H1 s1.heap.objs.size=none:=I1.hok.fresh (Nat.le_refl _)
 refine ⟨.ref s1.heap.objs.size,upd H1 s1.heap.objs.size (.lst xs),I1.laid (t':=s1.toks) (fun b u e=>Heap.get?_push_of_some _ e) (Nat.le_refl _) ?_,rfl,q _ hf⟩
 exact ⟨z,us,0,r,Heap.get?_push_size _ rfl⟩
end
abbrev Sp:=List V→Hp→VK→XK→Prop
abbrev CXT:=List Env→Hp→Shared→XK→Value→Shared→Prop
structure Env0(P:Program)(w:World)(K:Frag)(mg:Str→Option Value)(base:Heap)(A:Around)(outer:List Env)(s:Shared)(H:Hp):Prop where
 frames:A.frames=some outer
 mod:Mod K mg base
 bs:∀ b o,base.get? b=some o→s.heap.get? b=some o∧H b=none
 bsz:base.objs.size≤s.heap.objs.size
 funs:s.heap.FunFrames base outer
 frf:∀ b∈frs outer,H b=none
 hok:HOk P w H s.heap
 bare:AllBare s.gens
def CE(outer:List Env)(P:Program)(w:World)(H:Hp)(s:Shared)(Q:VK)(u:Value)(s':Shared):Prop :=
 ∃ v H',s'.os=s.os∧AllBare s'.gens∧Un (frs outer) [] H H' s.heap s'.heap∧HOk P w H' s'.heap∧RelV v u∧Q v H'
def CR(CX:CXT)(outer:List Env)(P:Program)(w:World)(H:Hp)(s:Shared)(Q:VK)(E:XK)(r:Result)(s':Shared):Prop :=
 match r with
 | .ok (.ret u)=>CE outer P w H s Q u s'
 | .ok _=>False
 | .error e=>CX outer H s E e s'
structure FnOk(P:Program)(w:World)(K:Frag)(mg:Str→Option Value)(base:Heap)(CX:CXT)(k:Nat)(f:Addr)(fd:FuncData)(ps:List Str)(sp:Sp):Prop where
 len:∀ vs H Q E,sp vs H Q E→vs.length=ps.length
 run:∀(A:Around) (outer:List Env) (s:Shared) (H:Hp) (args:Args) (us:List Value) (vs:List V) (Q:VK) (E:XK),Room k A→Env0 P w K mg base A outer s H→BindsTo s fd args (ps.zip us)→Vals vs us→sp vs H Q E →
  codeAny (model P w) A (.call (.ref f) args) (CR CX outer P w H s Q E) s
theorem FnOk.mono{P:Program}{w:World}{K:Frag}{mg:Str→Option Value}{base:Heap}{CX:CXT}{j k:Nat}{f:Addr}{fd:FuncData}{ps:List Str}{sp:Sp}(F:FnOk P w K mg base CX j f fd ps sp)(h:j≤k) :
  FnOk P w K mg base CX k f fd ps sp:=⟨F.len,fun A outer s H args us vs Q E hr=>F.run A outer s H args us vs Q E (hr.mono h)⟩
theorem Env0.make{P:Program}{w:World}{K:Frag}{mg:Str→Option Value}{base:Heap}{A:Around}{outer:List Env}{s:Shared}{H:Hp}(e:Env0 P w K mg base A outer s H)(C:Addr)(us:List Value)(kw:List (Str×Value)) :
  Env0 P w K mg base (A.under (.builtin "type.__call__" ⟨.ref C::us,kw⟩)) outer s H:=⟨by first | exact e.frames | (simpa[Around.under,Code.envs,Code.isFrame,pushEnvs] using e.frames),e.mod,e.bs,e.bsz,e.funs,e.frf,e.hok,e.bare⟩
section
variable {X:Cx}{pins:List (Addr×Obj)}{σ:St}{H:Hp}{s s':Shared}
theorem Inv.env0(I:Inv X pins σ H s):Env0 X.prog X.w X.K X.mg X.base X.A X.stack s H :=
 ⟨I.ok.frames,I.ok.mod,I.bs,Nat.le_trans I.ok.bsz I.sz,I.stack,I.stkFree,I.hok,I.bare⟩
theorem Inv.after{Q:VK}{u:Value}(I:Inv X pins σ H s)(h:CE X.stack X.prog X.w H s Q u s'):EP X pins σ Q u s':=by
 obtain ⟨v,H',os,bare,un,hok,r,q⟩:=h
 obtain ⟨hh,g,d,t,os'⟩:=s'
 obtain rfl:os'=s.os:=os
 exact ⟨v,H',I.call (h':=hh) (g':=g) (d':=d) (t':=t) (ch:=[]) un hok bare (fun b z=>absurd z (by simp)),r,q⟩
end
def wQ(sp:Sp)(dvs:List V)(E:XK)(t:TA):TE:=fun σ H Q=>t σ H fun vs H1=>sp (vs++dvs) H1 Q E
def xu(C:Addr)(m:Str)(sp:Sp)(dvs:List V)(E:XK)(ta:TE)(t:TA):TE:=fun σ H Q=>ta σ H fun x H1=>∃ a dx fs,x=.ref a∧H1 a=some (.ins C dx fs)∧fs.lookup m=none ∧
 t σ H1 fun vs H2=>sp (x::(vs++dvs)) H2 Q E
def xh(C:Addr)(sp:Sp)(dvs:List V)(E:XK)(t:TA):TE:=fun σ H Q=>t σ H fun vs H1=>∀ x dx,H1 x=none→H1 dx=none→dx≠x →
 sp (.ref x::(vs++dvs)) (upd (upd H1 dx (.own x)) x (.ins C dx [])) (fun v H2=>v=.non∧Q (.ref x) H2) E
def Binds(K:Frag)(fd:FuncData)(ps:List Str)(ds:List Value):Prop :=
 ∀(s:Shared) (us:List Value),K.In s.heap→(us++ds).length=ps.length→BindsTo s fd ⟨us,[]⟩ (ps.zip (us++ds))
theorem Binds.all{K:Frag}{fd:FuncData}{ps:List Str}(h:∀ us:List Value,us.length=ps.length→bindArgs fd ⟨us,[]⟩=pure (ps.zip us)):Binds K fd ps []:=fun s us _ hl=>by
 rw[append_nil]at hl ⊢
 exact .of_eq (h us hl)
def fe(CX:CXT)(X:Cx)(E:XK):Prop:=∀(pins:List (Addr×Obj)) (σ:St) (H:Hp) (s:Shared) (e:Value) (s':Shared),Inv X pins σ H s→CX X.stack H s E e s'→X.xe e s'
section
variable {X:Cx}{CX:CXT}{k:Nat}{f C:Addr}{fd:FuncData}{ps:List Str}{sp:Sp}{dvs:List V}{ds:List Value}{E:XK}{x m:Str}{p pos apos:Pos}{e o:Expr}{es:List Expr}{ta:TE}{t:TA}
theorem qZ{pins:List (Addr×Obj)}{σ:St}{H:Hp}{s:Shared}{Q:VK}{us:List Value}{vs:List V}(F:FnOk X.prog X.w X.K X.mg X.base CX k f fd ps sp)(hr:Room k X.A)(hb:Binds X.K fd ps ds)(hd:Vals dvs ds)(hx:fe CX X E)
  (I:Inv X pins σ H s) (r:Vals vs us) (h:sp (vs++dvs) H Q E):wpAny (model X.prog X.w) X.A (call (.ref f) us) (EP X pins σ Q) X.xe s:=by
 have r2:Vals (vs++dvs) (us++ds):=r.append hd
 have hl:(us++ds).length=ps.length:=by rw[← r2.length]; exact F.len _ _ _ _ h
 refine wpAny_call (codeAny_mono (F.run X.A X.stack s H ⟨us,[]⟩ (us++ds) (vs++dvs) Q E hr I.env0 (hb s us I.kIn hl) r2 h) fun r s' hq=>?_)
 cases r with
 | error e=>exact hx pins σ H s e s' I hq
 | ok fl =>
  cases fl with
  | ret u=>exact I.after hq
  | next=>exact False.elim hq
  | brk=>exact False.elim hq
  | cont=>exact False.elim hq
theorem aq(F:FnOk X.prog X.w X.K X.mg X.base CX k f fd ps sp)(hr:Room k X.A)(hg:Gl X x)(hm:X.mg x=some (.ref f))(hk:keepIn X.K (.ref f)=true)(hb:Binds X.K fd ps ds)(hd:Vals dvs ds)(hx:fe CX X E)
  (ha:PA X (e::es) t) (hdb:(x == ("__debug__" : Str))=false:=by decide) (he:starEach (e::es) X.env=(false,eval e X.env)::starEach es X.env:=by rfl) (hpl:(backTo pos (starEach es X.env)).any (·.1)=false:=by rfl) :
  PE X (.Call (.Name x p) (e::es) [] pos) (wQ sp dvs E t):=by
 intro pins s σ H Q I h
 refine wpAny_Call_Name_kw (eK I hg hm ?_ hdb)
 refine callWith_K (h₀:=X.base) I.ok.mod.kin hk (thn (ha pos pins s σ H _ I h) fun us s1 ⟨vs,H1,I1,r,q⟩=>⟨I1.kIn,?_⟩) he hpl
 exact qZ F hr hb hd hx I1 r q
theorem cX{pl:Sem Bool}(he:PE X o ta)(c:Cls X.K C)(hm:Meth X.K C m f)(F:FnOk X.prog X.w X.K X.mg X.base CX k f fd ps sp)(hr:Room k X.A)(hb:Binds X.K fd ps ds)(hd:Vals dvs ds)(hx:fe CX X E)
  (ht:eval (.Call (.Attribute o m apos) [] [] pos) X.env=(do
   let ov ← eval o X.env
   standAt apos.atName
   let (f,first) ← holding [ov] (getMethod ov m pl)
   callWith pos f first (backTo pos (starEach [] X.env)) (backToKw pos (keywordEach [] X.env))):=by rfl) :
  PE X (.Call (.Attribute o m apos) [] [] pos) (xu C m sp dvs E ta vT):=by
 intro pins s σ H Q I h
 refine PySem.W.methodCall_KW (pl:=pl) (thn (he pins s σ H _ I h) fun u s1 ⟨x,H1,I1,rx,a,dx,fs,ex,ea,l,q⟩=>?_) ht
 subst ex
 obtain rfl:u=Value.ref a:=rx
 refine lG I1 ea c hm l ?_
 exact callWith_K0 (first:=[.ref a]) I1.kIn hm.kp (qZ (us:=[.ref a]) (vs:=[.ref a]) F hr hb hd hx I1 (.cons rfl .nil) q)
structure Mk(K:Frag)(C f:Addr):Prop where
 makes:makesIn K C=true
 init:findIn K (.ref C) "__init__" = some (some (.ref f))
 fn:isFn K (.ref f)=true
 kp:keepIn K (.ref C)=true
theorem pV{pins:List (Addr×Obj)}{σ:St}{H:Hp}{s:Shared}{Q:VK}{us:List Value}{vs:List V}(M:Mk X.K C f)(F:FnOk X.prog X.w X.K X.mg X.base CX k f fd ps sp)(hr:Room (k+1) X.A)(hb:Binds X.K fd ps ds)(hd:Vals dvs ds)
  (hx:fe CX X E) (I:Inv X pins σ H s) (r:Vals vs us)
  (h:∀ x dx,H x=none→H dx=none→dx≠x→sp (.ref x::(vs++dvs)) (upd (upd H dx (.own x)) x (.ins C dx [])) (fun v H2=>v=.non∧Q (.ref x) H2) E) :
  wpAny (model X.prog X.w) X.A (call (.ref C) us) (EP X pins σ Q) X.xe s:=by
 have hq:=h (s.heap.objs.size+1) s.heap.objs.size (I.hok.fresh (Nat.le_succ _)) (I.hok.fresh (Nat.le_refl _)) (Nat.ne_of_lt (Nat.lt_succ_self _))
 have I2:=Inv.made (C:=C) I
 have r2:Vals (V.ref (s.heap.objs.size+1)::(vs++dvs)) (Value.ref (s.heap.objs.size+1)::(us++ds)):=.cons rfl (r.append hd)
 have hl:(Value.ref (s.heap.objs.size+1)::us++ds).length=ps.length:=by
  have e:=r2.length
  rw[F.len _ _ _ _ hq]at e
  exact e.symm
 refine wpAny_call (qy (f:=f) I.kIn M.makes M.init (beq_iff_eq.mp M.fn) (codeAny_mono (F.run _ X.stack _ _ ⟨Value.ref (s.heap.objs.size+1)::us,[]⟩ (Value.ref (s.heap.objs.size+1)::(us++ds)) _ _ E (hr.make C us [])
  (I2.env0.make C us []) (hb _ (Value.ref (s.heap.objs.size+1)::us) I2.kIn hl) r2 hq) fun r s' hq'=>?_))
 cases r with
 | error e=>exact hx pins σ _ _ e s' I2 hq'
 | ok fl =>
  cases fl with
  | ret u =>
   obtain ⟨v,H',I3,rv,ev,q3⟩:=I2.after hq'
   subst ev
   exact ⟨rv,⟨V.ref (s.heap.objs.size+1),H',I3,rfl,q3⟩⟩
  | next=>exact False.elim hq'
  | brk=>exact False.elim hq'
  | cont=>exact False.elim hq'
theorem jT(M:Mk X.K C f)(F:FnOk X.prog X.w X.K X.mg X.base CX k f fd ps sp)(hr:Room (k+1) X.A)(hg:Gl X x)(hm:X.mg x=some (.ref C))(hb:Binds X.K fd ps ds)(hd:Vals dvs ds)(hx:fe CX X E)
  (ha:PA X (e::es) t) (hdb:(x == ("__debug__" : Str))=false:=by decide) (he:starEach (e::es) X.env=(false,eval e X.env)::starEach es X.env:=by rfl) (hpl:(backTo pos (starEach es X.env)).any (·.1)=false:=by rfl) :
  PE X (.Call (.Name x p) (e::es) [] pos) (xh C sp dvs E t):=by
 intro pins s σ H Q I h
 refine wpAny_Call_Name_kw (eK I hg hm ?_ hdb)
 refine callWith_K (h₀:=X.base) I.ok.mod.kin M.kp (thn (ha pos pins s σ H _ I h) fun us s1 ⟨vs,H1,I1,r,q⟩=>⟨I1.kIn,?_⟩) he hpl
 exact pV M F hr hb hd hx I1 r q
end
section
variable {X:Cx}{CX:CXT}{k:Nat}{f C:Addr}{fd:FuncData}{ps ks:List Str}{sp:Sp}{E:XK}{x m:Str}{p pos apos kpos:Pos}{e o:Expr}{es:List Expr}{kws:List Keyword}{te ta:TE}{t tk:TA}{nm:Option Str}
variable {g:List Value→List Value→List Value}{gV:List V→List V→List V}
end
structure FnScope(N P:List Str)(sc:Scope):Prop where
 kind:sc.kind=.function
 co:sc.isCoroutine=false
 gen:sc.isGenerator=false
 nd:N.Nodup
 pre:N.take P.length=P
 par:∀ x ∈ P,sc.names.lookup x = some .local∨sc.names.lookup x = some .cell
 nofree:∀ y∈sc.names,y.2≠.free
theorem iX{kindOf:Str→Option NameKind}{x:Str}:∀{binds:List (Str×Value)}{m:Str→Option Value},(∀ v,(x,v) ∉ binds)→bindL kindOf binds m x=m x
 | [],_,_=>rfl
 | (n,v)::r,m,h=>by
  unfold bindL
  rw[iX fun w hw=>h w (mem_cons_of_mem _ hw)]
  split
  ·have:x≠n:=by rintro rfl; exact h v mem_cons_self
   simp[this]
  ·rfl
theorem jm{kindOf:Str→Option NameKind}{x:Str}:∀{binds:List (Str×Value)}{m:Str→Option Value},(∀ v,(x,v) ∉ binds)→bindC kindOf binds m x=m x
 | [],_,_=>rfl
 | (n,v)::r,m,h=>by
  unfold bindC
  rw[jm fun w hw=>h w (mem_cons_of_mem _ hw)]
  split
  ·rfl
  ·have:x≠n:=by rintro rfl; exact h v mem_cons_self
   simp[this]
theorem jo{kindOf:Str→Option NameKind}{x:Str}{v:Value}:∀{P:List Str}{vs:List Value}{i:Nat}{m:Str→Option Value},P.Nodup→P[i]? = some x→vs[i]? = some v→kindOf x = some .local →
  bindL kindOf (P.zip vs) m x=some v
 | [],_,_,_,_,h,_,_=>by simp at h
 | _::_,[],_,_,_,_,h,_=>by simp at h
 | p::P,w::vs,0,m,nd,h1,h2,hk=>by
  simp at h1 h2; subst h1; subst h2
  show bindL kindOf ((p,w)::P.zip vs) m p=_
  unfold bindL
  rw[iX fun v hv=>(nodup_cons.mp nd).1 (of_mem_zip hv).1,if_pos hk]
  simp
 | p::P,w::vs,i+1,m,nd,h1,h2,hk=>by
  show bindL kindOf ((p,w)::P.zip vs) m x=_
  unfold bindL
  exact jo (i:=i) (nodup_cons.mp nd).2 (by simpa using h1) (by simpa using h2) hk
theorem jp{kindOf:Str→Option NameKind}{x:Str}{v:Value}:∀{P:List Str}{vs:List Value}{i:Nat}{m:Str→Option Value},P.Nodup→P[i]? = some x→vs[i]? = some v→kindOf x≠some .local →
  bindC kindOf (P.zip vs) m x=some v
 | [],_,_,_,_,h,_,_=>by simp at h
 | _::_,[],_,_,_,_,h,_=>by simp at h
 | p::P,w::vs,0,m,nd,h1,h2,hk=>by
  simp at h1 h2; subst h1; subst h2
  show bindC kindOf ((p,w)::P.zip vs) m p=_
  unfold bindC
  rw[jm fun v hv=>(nodup_cons.mp nd).1 (of_mem_zip hv).1,if_neg hk]
  simp
 | p::P,w::vs,i+1,m,nd,h1,h2,hk=>by
  show bindC kindOf ((p,w)::P.zip vs) m x=_
  unfold bindC
  exact jp (i:=i) (nodup_cons.mp nd).2 (by simpa using h1) (by simpa using h2) hk
def start(N:List Str)(vs:List V):St:=vs.map some++List.replicate (N.length - vs.length) none
def hX(CX:CXT)(P:Program)(w:World)(K:Frag)(mg:Str→Option Value)(base:Heap)(N:List Str)(qual:Str)(scope:Scope)(f:Addr)(cd:Value)(A:Around)(outer:List Env)(s:Shared)(H:Hp)(E:XK):Cx where
 prog:=P
 w:=w
 K:=K
 mg:=mg
 base:=base
 A:=A.deeper (envOfC qual scope s.heap.objs.size f cd)
 N:=N
 s₀:=s
 H₀:=H
 env:=envOfC qual scope s.heap.objs.size f cd
 outer:=outer
 stack:=envOfC qual scope s.heap.objs.size f cd::outer
 ex:=[]
 calm:=true
 fn:=fun _=>true
 pn:=[]
 xe:=fun e s'=>wpAny (model P w) (A.deeper (envOfC qual scope s.heap.objs.size f cd)) (leaving (envOfC qual scope s.heap.objs.size f cd) e) (fun _ s''=>CX outer H s E e s'') (fun e' s''=>CX outer H s E e' s'') s'
theorem kd{sc:Scope}{n:Nat}{x:Str}(h:sc.names.lookup x=some .cell):∃ c,(cellsFrom n sc.names []).lookup x=some c:=by
 have q:=cellsFrom_some sc.names n [] (.inl h)
 exact Option.isSome_iff_exists.mp q
theorem jh{CX:CXT}{P:Program}{w:World}{K:Frag}{mg:Str→Option Value}{base:Heap}{N ps:List Str}{qual:Str}{scope:Scope}{f:Addr}{cd:Value}{A:Around}{outer:List Env}{s s1:Shared}{H:Hp}{E:XK}{us:List Value}{vs:List V}
  (S:FnScope N ps scope) (hd:A.handled=none) (e0:Env0 P w K mg base A outer s H) (hl:vs.length=ps.length) (r:Vals vs us)
  (x:InCallC s s.heap.objs.size (bindL (envOfC qual scope s.heap.objs.size f cd).kindOf (ps.zip us) fun _=>none) (cellsFrom (s.heap.objs.size+1) scope.names []) (bindC (envOfC qual scope s.heap.objs.size f cd).kindOf (ps.zip us) fun _=>none) s1) :
  Inv (hX CX P w K mg base N qual scope f cd A outer s H E) [] (start N vs) H s1:=by
 have hpl:ps.length≤N.length:=by have:=congrArg List.length S.pre; rw[length_take]at this; lia
 obtain ⟨h1,tk,rfl,hk⟩:=x.done
 have noA:∀ b:Addr,b ∉ (hX CX P w K mg base N qual scope f cd A outer s H E).ex:=fun b z=>absurd (show b∈([]:List Addr) from z) (by simp)
 refine ⟨⟨e0.mod,S.kind,rfl,rfl,Nat.le_refl _,fun y z c h1 h2=>?_,fun y hy=>?_,fun y c _ h=>?_,fun _=>hd,Around.frames_deeper e0.frames,.inr ⟨rfl,rfl⟩,fun b z=>absurd z (noA b),e0.bs,e0.bsz,fun b _ _=>noA b,fun b z=>absurd z (noA b),e0.funs,e0.frf⟩,
  rfl,e0.bare,Un.kept hk,⟨_,x.toInCall.ns,fun i y v h1 h2 h3=>?_⟩,fun y c h=>⟨_,x.cell y c h⟩,e0.hok.fresh (Nat.le_refl _),fun y c h=>?_,fun p hp=>absurd (show p∈([]:List (Addr×Obj)) from hp) (by simp),e0.hok.kept hk,?_⟩
 ·exact name_of_addr x.apart (PySem.mem_of_lookup h1) (PySem.mem_of_lookup h2)
 ·have hy:scope.names.lookup y=some .cell∨scope.names.lookup y=some .free:=hy
  rcases hy with hy | hy
  ·exact kd hy
  ·exact absurd rfl (S.nofree _ (PySem.mem_of_lookup hy))
 ·exact Nat.le_of_lt (x.above y c (PySem.mem_of_lookup h))
 ·have hi:i<vs.length:=by
   unfold start at h2
   by_cases hi:i<vs.length
   ·exact hi
   ·rw[List.getElem?_append_right (by simpa using hi)]at h2
    rw[List.getElem?_replicate]at h2
    split at h2 <;> cases h2
  have ha:vs[i]? = some v:=by
   unfold start at h2
   rw[List.getElem?_append_left (by simpa using hi),List.getElem?_map]at h2
   cases e:vs[i]? with
   | none=>rw[e]at h2; cases h2
   | some a=>rw[e]at h2; cases h2; rfl
  obtain ⟨u,hu,rv⟩:=r.get ha
  have hp:ps[i]? = some y:=by
   rw[← S.pre,List.getElem?_take_of_lt (by lia)]; exact h1
  have ndP:ps.Nodup:=by rw[← S.pre]; exact S.nd.sublist (take_sublist _ _)
  refine ⟨u,rv,?_⟩
  rcases S.par y (List.mem_of_getElem? hp) with k | k
  ·exact .inl ⟨k,jo ndP hp hu k⟩
  ·obtain ⟨c,e⟩:=kd (n:=s.heap.objs.size+1) k
   refine .inr ⟨.inl k,c,e,?_⟩
   have q:=x.cell y c e
   rw[jp ndP hp hu (by show scope.names.lookup y≠_; rw[k]; decide)]at q
   exact q
 ·exact e0.hok.fresh (Nat.le_of_lt (x.above y c (PySem.mem_of_lookup h)))
 ·unfold start
  show _=N.length
  rw[length_append,length_map,List.length_replicate]
  lia
theorem uN{CX:CXT}{P:Program}{w:World}{K:Frag}{mg:Str→Option Value}{base:Heap}{k:Nat}{f:Addr}{name qual:Str}{params:Arguments}{body:List Stmt}{scope:Scope}{dV kV doc pm cdv ct oc:Value}{an od:Option Addr}
  {osl:Array (Option Value)}{N ps:List Str}{sp:Sp}(lk:K.lookup f=some ⟨oc,od,.func (fnOf name qual params body scope dV kV doc pm an cdv ct),osl⟩) (hcd:codeIn K cdv qual=true) (S:FnScope N ps scope)
  (len:∀ vs H Q E,sp vs H Q E→vs.length=ps.length)
  (hbody:∀(A:Around) (outer:List Env) (s:Shared) (H:Hp) (vs:List V) (Q:VK) (E:XK),Room k (A.deeper (envOfC qual scope s.heap.objs.size f cdv))→sp vs H Q E →
   ∃ t,PSs (hX CX P w K mg base N qual scope f cdv A outer s H E) body t∧t { nx:=fun _ H'=>Q .non H',rt:=Q } (start N vs) H) :
  FnOk P w K mg base CX (k+1) f (fnOf name qual params body scope dV kV doc pm an cdv ct) ps sp:=by
 refine ⟨len,fun A outer s H args us vs Q E hr e0 hb r hsp=>?_⟩
 have hl:=len _ _ _ _ hsp
 have KX:K.In s.heap:=e0.mod.kin.keeps fun b o e=>(e0.bs b o e).1
 have lim:s.heap.NoLimit:=e0.mod.nolimit.keeps fun b o e=>(e0.bs b o e).1
 have hkind:∀ y ∈ ps.zip us,scope.names.lookup y.1 = some .local∨(scope.names.lookup y.1 = some .cell∧((cellsFrom (s.heap.objs.size + 1) scope.names []).lookup y.1).isSome = true):=fun ⟨n,v⟩ hy=>by
  rcases S.par n (of_mem_zip hy).1 with q | q
  ·exact .inl q
  ·exact .inr ⟨q,cellsFrom_some _ _ _ (.inl q)⟩
 refine codeAny_call_function hr.depth (KX _ _ lk) rfl S.co S.gen rfl (codeRec_of KX hcd) (hb _ _ _ _ ?_)
 refine wpAny_newFunctionEnv_cells S.kind hkind fun env he s1 x=>?_
 subst he
 refine ⟨lim.keeps x.toInCall.keep,codeAny_func ?_⟩
 obtain ⟨t,ht,hq⟩:=hbody A outer s H vs Q E (hr.deeper _) hsp
 have I:Inv (hX CX P w K mg base N qual scope f cdv A outer s H E) [] (start N vs) H s1:=jh S hr.hd e0 hl r x
 refine wpAny_mono (ht [] s1 (start N vs) H _ I hq) (fun fl s' hs=>?_) fun e s' hs=>hs
 have fin:∀{σ':St}{H':Hp}{v:V}{u:Value},Inv (hX CX P w K mg base N qual scope f cdv A outer s H E) [] σ' H' s'→RelV v u→Q v H'→CE outer P w H s Q u s' :=
  fun {σ' H' v u} J rv q=>⟨v,H',J.os,J.bare,J.base,J.hok,rv,q⟩
 cases fl with
 | ret u =>
  obtain ⟨v,σ',H',J,rv,q⟩:=hs
  exact fin J rv q
 | next =>
  obtain ⟨σ',H',J,q⟩:=hs
  exact fin (v:=V.non) (u:=Value.none) J rfl q
 | brk =>
  obtain ⟨_,_,_,q⟩:=hs
  exact False.elim q
 | cont =>
  obtain ⟨_,_,_,q⟩:=hs
  exact False.elim q
section
variable {X:Cx}{x:Str}{p pos:Pos}{e:Expr}{es:List Expr}{t:TA}{id T:String}{r:List V→Hp→VK→Prop}
def tCB(r:List V→Hp→VK→Prop)(t:TA):TE:=fun σ H Q=>t σ H fun vs H1=>r vs H1 Q
theorem aI(hc:CallR X (.builtin id) r)(hg:Gl X x)(hm:X.mg x=none)(hv:bootBuiltins x=some (.builtin id))(ha:PA X (e::es) t)(hn:x ≠ "__name__" := by decide)(hdb:(x == ("__debug__" : Str))=false:=by decide)
  (he:starEach (e::es) X.env=(false,eval e X.env)::starEach es X.env:=by rfl) (hpl:(backTo pos (starEach es X.env)).any (·.1)=false:=by rfl):PE X (.Call (.Name x p) (e::es) [] pos) (tCB r t):=by
 intro pins s σ H Q I h
 refine wpAny_Call_Name_kw (gS I hg hm hv ?_ hn hdb)
 exact PyProof.Rows.callWith_builtin1 (thn (ha pos pins s σ H _ I h) fun us s1 ⟨vs,H1,I1,r1,q1⟩=>hc pins s1 σ H1 vs us Q I1 r1 q1) he hpl
theorem b8(hc:CallR X (.type T) r)(hg:Gl X x)(hm:X.mg x=none)(hv:bootBuiltins x=some (.type T))(ha:PA X (e::es) t)(hn:x ≠ "__name__" := by decide)(hdb:(x == ("__debug__" : Str))=false:=by decide)
  (he:starEach (e::es) X.env=(false,eval e X.env)::starEach es X.env:=by rfl) (hpl:(backTo pos (starEach es X.env)).any (·.1)=false:=by rfl):PE X (.Call (.Name x p) (e::es) [] pos) (tCB r t):=by
 intro pins s σ H Q I h
 refine wpAny_Call_Name_kw (gS I hg hm hv ?_ hn hdb)
 exact PyProof.Rows.callWith_type1 (thn (ha pos pins s σ H _ I h) fun us s1 ⟨vs,H1,I1,r1,q1⟩=>hc pins s1 σ H1 vs us Q I1 r1 q1) he hpl
end
end L2
namespace HT
open PySem PyProof.Rows
section
open PySem.SeqAt
open PySem.AutoSeq1 (wpAny_loadPart')
open PySem.MeetsSeq PySem.MeetsSeq2 PySem.MeetsSeq3
end
section
variable {prog:Program}{w:World}{A:Around}{E:Value→Shared→Prop}{s:Shared}
end
end HT
namespace L2
open PySem PySem.Spec PyProof.Rows
abbrev TO:=St→Hp→(Option Int→Hp→Prop)→Prop
section
variable {X:Cx}{e:Expr}{te:TE}{lo hi:Option Expr}{tl th:TO}{pos p2:Pos}
end
def ixN(n:Nat)(i:Int):Option Nat:=if 0≤i then (if i<n then some i.toNat else none) else if -(n:Int)≤i then some (i+n).toNat else none
def atI{α:Type}(xs:List α)(i:Int):Option α:=(ixN xs.length i).bind fun j=>xs[j]?
theorem nj{n:Nat}{i:Int}{j:Nat}(h:ixN n i=some j):seqIndex? i n=some j∧j<n∧-(n:Int)≤i∧i<n:=by
 unfold ixN at h
 by_cases h0:0≤i
 ·rw[if_pos h0]at h
  by_cases h1:i<n
  ·rw[if_pos h1]at h
   have e:i.toNat=j:=Option.some.inj h
   exact ⟨by rw[seqIndex_of h0 h1,e],by lia,by lia,h1⟩
  ·rw[if_neg h1]at h; cases h
 ·rw[if_neg h0]at h
  by_cases h1:-(n:Int)≤i
  ·rw[if_pos h1]at h
   have e:(i+n).toNat=j:=Option.some.inj h
   exact ⟨by rw[seqIndex_neg (by lia) h1,e],by lia,h1,by lia⟩
  ·rw[if_neg h1]at h; cases h
theorem jD{α:Type}{xs:List α}{i:Int}{v:α}(h:atI xs i=some v):∃ j,seqIndex? i xs.length=some j∧xs[j]? = some v∧j<xs.length∧-(xs.length:Int)≤i∧i<xs.length:=by
 unfold atI at h
 cases e:ixN xs.length i with
 | none=>rw[e]at h; cases h
 | some j =>
  rw[e]at h
  obtain ⟨h1,h2,h3,h4⟩:=nj e
  exact ⟨j,h1,h,h2,h3,h4⟩
theorem cN{α:Type}{xs:List α}{j:Nat}{v:α}(h:xs[j]? = some v):atI xs (j:Int)=some v:=by
 have hj:j<xs.length:=(List.getElem?_eq_some_iff.mp h).1
 have e:ixN xs.length (j:Int)=some j:=by
  unfold ixN
  rw[if_pos (by lia),if_pos (by lia)]; simp
 unfold atI; rw[e]; exact h
def mM(b:Expr):Prop:=∀ o i,subscripted b false o i=operate [o,i] (getItem o i)
def IxR(X:Cx)(r:R2):Prop :=
 ∀(value slice:Expr) (pins:List (Addr×Obj)) (s:Shared) (σ:St) (H:Hp) (x y:V) (v u:Value) (Q:VK),Inv X pins σ H s→RelV x v→RelV y u→r x y H Q →
  subscripted slice false v u=operate [v,u] (getItem v u)→wpAny (model X.prog X.w) X.A (subscriptTail value slice v u) (EP X pins σ Q) X.xe s
def MtR(X:Cx)(id:String)(r:V→List V→Hp→VK→Prop):Prop :=
 ∀(pins:List (Addr×Obj)) (s:Shared) (σ:St) (H:Hp) (x:V) (xs:List V) (v:Value) (us:List Value) (Q:VK),Inv X pins σ H s→RelV x v→Vals xs us→r x xs H Q →
  wpAny (model X.prog X.w) X.A (call (.builtin id) (v::us)) (EP X pins σ Q) X.xe s
section
variable {X:Cx}{a b:Expr}{ta tb:TE}{pos:Pos}
theorem IxR.or{r r':R2}(h:IxR X r)(h':IxR X r'):IxR X (fun x y H Q=>r x y H Q∨r' x y H Q):=by
 intro value slice pins s σ H x y v u Q I rx ry q hs
 rcases q with q | q
 ·exact h value slice pins s σ H x y v u Q I rx ry q hs
 ·exact h' value slice pins s σ H x y v u Q I rx ry q hs
theorem bN{r:R2}(hr:IxR X r)(ha:PE X a ta)(hb:PE X b tb)(hs:mM b):PE X (.Subscript a b pos) (tOp r ta tb):=by
 intro pins s σ H Q I h
 exact Subscript_ (vb ha hb I h fun v u s2 x y H2 I2 rx ry q=>hr a b pins s2 σ H2 x y v u Q I2 rx ry q (hs _ _))
inductive rIxL(K:Frag)(x y:V)(H:Hp)(Q:VK):Prop
 | mk(p:Addr)(xs:List V)(i:Int)(v:V)(h0:x=.ref p)(h1:y=.int i)(h2:SqL K H p xs)(h3:atI xs i=some v)(h4:Q v H):rIxL K x y H Q
inductive rIxT(K:Frag)(x y:V)(H:Hp)(Q:VK):Prop
 | mk(p:Addr)(xs:List V)(i:Int)(v:V)(h0:x=.ref p)(h1:y=.int i)(h2:SqT K H p xs)(h3:atI xs i=some v)(h4:Q v H):rIxT K x y H Q
def wx:R2:=fun x y H Q=>∃ z i c,x=.str z∧y=.int i∧z.length≤sizeLine∧atI z.cps.toList i=some c∧Q (.str ⟨#[c]⟩) H
theorem ix_list:IxR X (rIxL X.K):=by
 intro value slice pins s σ H x y v u Q I rx ry h hs
 obtain ⟨p,xs,i,z,rfl,rfl,hq,he,q⟩:=h
 cases rx
 obtain ⟨t,rfl⟩:=ry
 obtain ⟨its,r,pl,hz⟩:=I.list hq
 obtain ⟨j,h1,h2,h3,h4,h5⟩:=jD he
 obtain ⟨w,ew,rw'⟩:=r.get h2
 have hl:=r.length
 have hn:=fc
 have fin:EP X pins σ Q w s:=⟨z,H,I,rw',q⟩
 by_cases h0:0≤i
 ·have hj:i.toNat=j:=by
   rw[seqIndex_of h0 h5]at h1
   exact Option.some.inj h1
  exact item_listR pl.isList h0 (by lia) (by rw[hj]; simpa using ew) fin hs
 ·have hj:(i+(its.toArray.size:Int)).toNat=j:=by
   rw[seqIndex_neg (by lia) h4]at h1
   rw[size_toArray,← hl]
   exact Option.some.inj h1
  exact subscriptTail_builtinR (x:=w) pl.isList.typeIs slot_list_getitem.lookup
   (wpAny_getItem_list_neg (Q:=fun r s'=>r=w∧EP X pins σ Q r s') pl.isList (by lia) (by rw[size_toArray] <;> lia) (by lia) (by rw[hj]; simpa using ew) ⟨rfl,fin⟩) hs
theorem ix_tup:IxR X (rIxT X.K):=by
 intro value slice pins s σ H x y v u Q I rx ry h hs
 obtain ⟨p,xs,i,z,rfl,rfl,hq,he,q⟩:=h
 cases rx
 obtain ⟨t,rfl⟩:=ry
 obtain ⟨its,r,pl,hz⟩:=I.tuple hq
 obtain ⟨j,h1,h2,h3,h4,h5⟩:=jD he
 obtain ⟨w,ew,rw'⟩:=r.get h2
 have hl:=r.length
 have hn:=fc
 have fin:EP X pins σ Q w s:=⟨z,H,I,rw',q⟩
 exact subscriptTail_builtinR (x:=w) pl.typeIs slot_tuple_getitem.lookup
  (getItem_tuple (j:=j) (Q:=fun r s'=>r=w∧EP X pins σ Q r s') pl (by lia) (by lia) (by rw[size_toArray,← hl]; exact h1) (by simpa using ew) ⟨rfl,fin⟩) hs
theorem va:IxR X wx:=by
 intro value slice pins s σ H x y v u Q I rx ry h hs
 obtain ⟨z,i,c,rfl,rfl,hz,he,q⟩:=h
 obtain ⟨t,rfl⟩:=rx
 obtain ⟨t',rfl⟩:=ry
 obtain ⟨j,h1,h2,h3,h4,h5⟩:=jD he
 have hl:z.cps.toList.length=z.length:=by simp[Str.length]
 rw[hl]at h1 h4 h5
 have hn:=fc
 exact tail_any (typeIs_str s z t) slot_str_getitem.lookup (getItem_str (c:=c) (by
  have e1:decide (i < -(2 ^ 63:Int))=false:=decide_eq_false (by lia)
  have e2:decide (i ≥ 2 ^ 63)=false:=decide_eq_false (by lia)
  rw[e1,e2,Bool.or_false]) (by rw[h1]; simpa using h2) ⟨.str ⟨#[c]⟩,H,I.tok _,⟨_,rfl⟩,q⟩) hs
def rIx(K:Frag):R2:=fun x y H Q=>rIxL K x y H Q∨rIxT K x y H Q∨wx x y H Q
theorem bv:IxR X (rIx X.K):=ix_list.or (ix_tup.or va)
theorem lO(its:List Value)(n j:Nat)(u:Value):Obj.mapSeq (·.setIfInBounds j u) { cls:=.type "list",data:=.seq its.toArray n }={ cls:=.type "list",data:=.seq (its.set j u).toArray n }:=by
 simp[Obj.mapSeq]
theorem Inv.lst{pins:List (Addr×Obj)}{σ:St}{H:Hp}{s:Shared}{p:Addr}{xs:List V}(I:Inv X pins σ H s)(h:H p=some (.lst xs)) :
  ∃(its:List Value) (n:Nat),Vals xs its∧s.heap.get? p=some { cls:=.type "list",data:=.seq its.toArray n }∧xs.length≤sizeLine:=by
 obtain ⟨z,its,n,r,e⟩:=I.hok p _ h
 exact ⟨its,n,r,e,z⟩
theorem Inv.lstUpd{pins:List (Addr×Obj)}{σ:St}{H:Hp}{s:Shared}{p:Addr}{xs ys:List V}{its its':List Value}{n n':Nat}{f:Obj→Obj}(I:Inv X pins σ H s)(h:H p=some (.lst xs))
  (ho:s.heap.get? p=some { cls:=.type "list",data:=.seq its.toArray n }) (hf:f { cls:=.type "list",data:=.seq its.toArray n }={ cls:=.type "list",data:=.seq its'.toArray n' }) (r:Vals ys its') (hz:ys.length≤sizeLine) (t:Nat) :
  Inv X pins σ (upd H p (.lst ys)) { s with heap:=s.heap.update p f,toks:=t }:=by
 have e:(s.heap.update p f).get? p=some { cls:=.type "list",data:=.seq its'.toArray n' }:=by
  rw[Heap.get?_update_self f ho (by rw[hf] <;> rfl),hf]
 refine I.write (x:=p) (e:=p) (by rw[h]; trivial) (.inl rfl) (fun b u hb q=>(Heap.get?_update_other _ _ (Ne.symm hb)).trans q) ⟨_,e⟩ ?_
 exact ⟨hz,its',n',r,e⟩
def wO:V→V→V→Hp→(Hp→Prop)→Prop:=fun o i v H Q=>∃ p xs k j,o=.ref p∧i=.int k∧H p=some (.lst xs)∧ixN xs.length k=some j∧Q (upd H p (.lst (xs.set j v)))
theorem rE:wy X wO:=by
 intro pins s σ H o i v ov iv u Q I ro ri rv h
 obtain ⟨p,xs,k,j,rfl,rfl,hp,hj,q⟩:=h
 cases ro
 obtain ⟨t,rfl⟩:=ri
 obtain ⟨its,n,r,ho,hz⟩:=I.lst hp
 obtain ⟨h1,h2,h3,h4⟩:=nj hj
 have hl:=r.length
 have hn:=fc
 have I':Inv X pins σ (upd H p (.lst (xs.set j v))) { s with heap:=s.heap.update p (Obj.mapSeq (·.setIfInBounds j u)) } :=
  I.lstUpd hp ho (lO its n j u) (r.set rv j) (by rw[List.length_set]; exact hz) s.toks
 by_cases h0:0≤k
 ·have hk:k.toNat=j:=by
   rw[seqIndex_of h0 h4]at h1
   exact Option.some.inj h1
  exact PySem.W.ki_setAt ho h0 (by lia) (by rw[size_toArray,← hl]; exact h4) (by rw[hk]; exact ⟨_,I',q⟩)
 ·have hk:(k+(its.toArray.size:Int)).toNat=j:=by
   rw[seqIndex_neg (by lia) h3]at h1
   rw[size_toArray,← hl]
   exact Option.some.inj h1
  exact PySem.W.ki_setBack ho (by lia) (by rw[size_toArray,← hl]; exact h3) (by lia) (by rw[hk]; exact ⟨_,I',q⟩)
def fk:V→Bool
 | .non=>true
 | .bl _=>true
 | .int _=>true
 | .str _=>true
 | _=>false
def eqV:V→V→Bool
 | .non,.non=>true
 | .bl a,.bl b=>a == b
 | .bl a,.int b=>(if a then 1 else 0) == b
 | .int a,.bl b=>a == (if b then 1 else 0)
 | .int a,.int b=>a == b
 | .str a,.str b=>a == b
 | _,_=>false
theorem vG{A:Around}{s:Shared}{y x:V}{u v:Value}(ry:RelV y u)(rx:RelV x v)(fy:fk y=true)(fx:fk x=true):SeqAt.EqAt A s u v (eqV y x):=by
 cases y with
 | non =>
  cases ry
  cases x with
  | non=>cases rx; exact SeqAt.EqAt.same _
  | bl b=>cases rx; exact SeqAt.EqAt.none_bool b
  | int b=>obtain ⟨t,rfl⟩:=rx; exact SeqAt.EqAt.none_int b t
  | str b=>obtain ⟨t,rfl⟩:=rx; exact SeqAt.EqAt.none_str b t
  | _=>exact absurd (show false=true from fx) Bool.false_ne_true
 | bl a =>
  cases ry
  cases x with
  | non=>cases rx; exact SeqAt.EqAt.bool_none a
  | bl b=>cases rx; exact SeqAt.EqAt.bool_bool a b
  | int b=>obtain ⟨t,rfl⟩:=rx; exact SeqAt.EqAt.bool_int a b t
  | str b=>obtain ⟨t,rfl⟩:=rx; exact SeqAt.EqAt.bool_str a b t
  | _=>exact absurd (show false=true from fx) Bool.false_ne_true
 | int a =>
  obtain ⟨t',rfl⟩:=ry
  cases x with
  | non=>cases rx; exact SeqAt.EqAt.int_none a t'
  | bl b=>cases rx; exact SeqAt.EqAt.int_bool a t' b
  | int b=>obtain ⟨t,rfl⟩:=rx; exact SeqAt.EqAt.int_int a t' b t
  | str b=>obtain ⟨t,rfl⟩:=rx; exact SeqAt.EqAt.int_str a t' b t
  | _=>exact absurd (show false=true from fx) Bool.false_ne_true
 | str a =>
  obtain ⟨t',rfl⟩:=ry
  cases x with
  | non=>cases rx; exact SeqAt.EqAt.str_none a t'
  | bl b=>cases rx; exact SeqAt.EqAt.str_bool a t' b
  | int b=>obtain ⟨t,rfl⟩:=rx; exact SeqAt.EqAt.str_int a t' b t
  | str b=>obtain ⟨t,rfl⟩:=rx; exact SeqAt.EqAt.str_str a t' b t
  | _=>exact absurd (show false=true from fx) Bool.false_ne_true
 | _=>exact absurd (show false=true from fy) Bool.false_ne_true
def eqU(x:V)(u:Value):Bool:=match u with
 | .none=>eqV .non x
 | .bool b=>eqV (.bl b) x
 | .int i _=>eqV (.int i) x
 | .str z _=>eqV (.str z) x
 | _=>false
theorem qM{x y:V}{u:Value}(r:RelV y u)(f:fk y=true):eqU x u=eqV y x:=by
 cases y with
 | non=>cases r; rfl
 | bl b=>cases r; rfl
 | int i=>obtain ⟨t,rfl⟩:=r; rfl
 | str z=>obtain ⟨t,rfl⟩:=r; rfl
 | _=>exact absurd (show false=true from f) Bool.false_ne_true
theorem fF{x:V}:∀{xs:List V}{us:List Value},Vals xs us→xs.all fk=true→us.any (eqU x)=xs.any fun y=>eqV y x
 | _,_,.nil,_=>rfl
 | y::xs,u::us,.cons r t,f=>by
  rw[all_cons,Bool.and_eq_true]at f
  rw[any_cons,any_cons,qM r f.1,fF t f.2]
theorem eh{A:Around}{s:Shared}{x:V}{v:Value}(rx:RelV x v)(fx:fk x=true):∀{xs:List V}{us:List Value},Vals xs us→xs.all fk=true→∀ u∈us,SeqAt.EqAt A s u v (eqU x u)
 | _,_,.nil,_=>fun u hu=>by cases hu
 | y::xs,u::us,.cons r t,f=>fun u' hu=>by
  rw[all_cons,Bool.and_eq_true]at f
  rcases mem_cons.mp hu with rfl | hu
  ·rw[qM r f.1]; exact vG r rx f.1 fx
  ·exact eh rx fx t f.2 u' hu
def inV(x:V)(xs:List V):Bool:=xs.any fun y=>eqV y x
inductive rIn(K:Frag)(neg:Bool)(x y:V)(H:Hp)(Q:VK):Prop
 | mk(p:Addr)(xs:List V)(h0:y=.ref p)(h1:SqL K H p xs∨SqT K H p xs)(h2:fk x=true)(h3:xs.all fk=true)(h4:Q (.bl (if neg then !inV x xs else inV x xs)) H):rIn K neg x y H Q
theorem fO:OpR X (compareOp .In) (rIn X.K false):=by
 intro pins s σ H x y v u Q I rx ry h
 obtain ⟨p,xs,rfl,hq,fx,fs,q⟩:=h
 cases ry
 rcases hq with hq | hq
 ·obtain ⟨its,r,pl,hz⟩:=I.list hq
  refine SeqAt.in_listAt (eqU x) pl.isList (fun w hw=>eh rx fx r fs w (by simpa using hw)) ⟨.bl _,H,I,rfl,?_⟩
  rw[show its.toArray.any (eqU x)=its.any (eqU x) by simp,fF r fs]
  exact q
 ·obtain ⟨its,r,pl,hz⟩:=I.tuple hq
  refine SeqAt.in_tupleAt (eqU x) pl (fun w hw=>eh rx fx r fs w (by simpa using hw)) ⟨.bl _,H,I,rfl,?_⟩
  rw[show its.toArray.any (eqU x)=its.any (eqU x) by simp,fF r fs]
  exact q
theorem jU:OpR X (compareOp .NotIn) (rIn X.K true):=by
 intro pins s σ H x y v u Q I rx ry h
 obtain ⟨p,xs,rfl,hq,fx,fs,q⟩:=h
 cases ry
 rcases hq with hq | hq
 ·obtain ⟨its,r,pl,hz⟩:=I.list hq
  refine SeqAt.notIn_listAt (eqU x) pl.isList (fun w hw=>eh rx fx r fs w (by simpa using hw)) ⟨.bl _,H,I,rfl,?_⟩
  rw[show its.toArray.any (eqU x)=its.any (eqU x) by simp,fF r fs]
  exact q
 ·obtain ⟨its,r,pl,hz⟩:=I.tuple hq
  refine SeqAt.notIn_tupleAt (eqU x) pl (fun w hw=>eh rx fx r fs w (by simpa using hw)) ⟨.bl _,H,I,rfl,?_⟩
  rw[show its.toArray.any (eqU x)=its.any (eqU x) by simp,fF r fs]
  exact q
theorem jt:CallR X (.builtin "len") (fun xs H Q=>∃ p ys,xs=[.ref p]∧(SqL X.K H p ys∨SqT X.K H p ys)∧Q (.int ys.length) H):=by
 intro pins s σ H xs us Q I r h
 obtain ⟨p,ys,rfl,hq,q⟩:=h
 obtain ⟨u,rfl,rx⟩:=eI r
 cases rx
 have hn:=fc
 rcases hq with hq | hq
 ·obtain ⟨its,r',pl,hz⟩:=I.list hq
  have hlen:=r'.length
  exact Calls.call_len_list pl.isList (by simp only[size_toArray] <;> lia) ⟨.int ys.length,H,I.tok _,⟨s.toks+1,by rw[size_toArray,hlen]⟩,q⟩
 ·obtain ⟨its,r',pl,hz⟩:=I.tuple hq
  have hlen:=r'.length
  exact len_tuple pl (by simp only[size_toArray] <;> lia) ⟨.int ys.length,H,I.tok _,⟨s.toks+1,by rw[size_toArray,hlen]⟩,q⟩
theorem call_len_str:CallR X (.builtin "len") (fun xs H Q=>∃ z,xs=[.str z]∧z.length≤sizeLine∧Q (.int z.length) H):=by
 intro pins s σ H xs us Q I r h
 obtain ⟨z,rfl,hz,q⟩:=h
 obtain ⟨u,rfl,t,rfl⟩:=eI r
 have hn:=fc
 exact len_str (by lia) ⟨.int z.length,H,I.tok _,⟨_,rfl⟩,q⟩
theorem CallR.or{f:Value}{r r':List V→Hp→VK→Prop}(h:CallR X f r)(h':CallR X f r'):CallR X f (fun xs H Q=>r xs H Q∨r' xs H Q):=by
 intro pins s σ H xs us Q I rs q
 rcases q with q | q
 ·exact h pins s σ H xs us Q I rs q
 ·exact h' pins s σ H xs us Q I rs q
inductive rListOf(K:Frag)(xs:List V)(H:Hp)(Q:VK):Prop
 | mk(p:Addr)(ys:List V)(h0:xs=[.ref p])(h1:SqL K H p ys∨SqT K H p ys)(h2:∀ l,H l=none→Q (.ref l) (upd H l (.lst ys))):rListOf K xs H Q
theorem cM:CallR X (.type "list") (rListOf X.K):=by
 intro pins s σ H xs us Q I r h
 obtain ⟨p,ys,rfl,hq,q⟩:=h
 obtain ⟨u,rfl,rx⟩:=eI r
 cases rx
 have fin:∀(its:List Value),Vals ys its→ys.length≤sizeLine→∀(h':Heap) (c':Nat),(∀ b o',s.heap.get? b=some o'→h'.get? b=some o') →
   h'.get? s.heap.objs.size=some { cls:=.type "list",dict:=none,data:=.seq its.toArray c',slots:=#[] }→EP X pins σ Q (.ref s.heap.objs.size) { s with heap:=h' }:=fun its r' hz h' c' kp e =>
  ⟨.ref s.heap.objs.size,_,I.laid (t':=s.toks) kp (Nat.le_refl _) (show ObjOk X.prog X.w _ h' _ (.lst ys) from ⟨hz,its,c',r',e⟩),rfl,q _ (I.hok.fresh (Nat.le_refl _))⟩
 rcases hq with hq | hq
 ·obtain ⟨its,r',pl,hz⟩:=I.list hq
  have hlen:=r'.length
  obtain ⟨o,ho,hc,n,hd⟩:=pl.isList
  exact call_list_seq p (.inl rfl) ho hc hd (fun h' c' kp e=>fin its r' hz h' c' kp e) (by simp only[size_toArray] <;> lia)
 ·obtain ⟨its,r',pl,hz⟩:=I.tuple hq
  have hlen:=r'.length
  obtain ⟨o,ho,hc,n,hd⟩:=pl
  exact call_list_seq p (.inr rfl) ho hc hd (fun h' c' kp e=>fin its r' hz h' c' kp e) (by simp only[size_toArray] <;> lia)
theorem dH:CallR X (.type "tuple") (fun xs H Q=>∃ p ys,xs=[.ref p]∧((SqL X.K H p ys∧∀ l,H l=none→Q (.ref l) (upd H l (.tup ys)))∨(SqT X.K H p ys∧Q (.ref p) H))):=by
 intro pins s σ H xs us Q I r h
 obtain ⟨p,ys,rfl,h⟩:=h
 obtain ⟨u,rfl,rx⟩:=eI r
 cases rx
 rcases h with ⟨hq,q⟩ | ⟨hq,q⟩
 ·obtain ⟨its,r',pl,hz⟩:=I.list hq
  have hlen:=r'.length
  refine call_tuple_list pl.isList (fun h' kp=>?_) (by simp only[size_toArray] <;> lia)
  have I1:Inv X pins σ H { s with heap:=h' }:=I.kept (t':=s.toks) kp
  have I2:Inv X pins σ (upd H h'.objs.size (.tup ys)) { s with heap:=h'.push { cls:=.type "tuple",data:=.seq its.toArray } } :=
   I1.laid (t':=s.toks) (fun b o e=>Heap.get?_push_of_some _ e) (Nat.le_refl _) (show ObjOk X.prog X.w _ _ _ (.tup ys) from ⟨hz,its,r',IsTup.new _ _⟩)
  exact ⟨.ref h'.objs.size,_,I2,rfl,q _ (I1.hok.fresh (Nat.le_refl _))⟩
 ·obtain ⟨its,r',pl,hz⟩:=I.tuple hq
  exact call_tuple_same pl ⟨.ref p,H,I,rfl,q⟩
def tyV(K:Frag)(T:String)(x:V)(H:Hp):Prop:=match x with
 | .str _=>T = "str"
 | .int _=>T = "int"
 | .ref p=>(T = "list" ∧ ∃ xs,SqL K H p xs)∨(T = "tuple" ∧ ∃ o,K.lookup p=some o∧o.cls=.type "tuple" ∧ o.dict=none) ∨
   (T = "dict" ∧ ((∃ kvs,H p=some (.dK kvs))∨∃ kvs,H p=some (.dT kvs)))∨(T = "set" ∧ ∃ S n,H p=some (.set S n))
 | _=>False
theorem rG{pins:List (Addr×Obj)}{σ:St}{H:Hp}{s:Shared}{T:String}{x:V}{v:Value}(I:Inv X pins σ H s)(r:RelV x v)(ty:tyV X.K T x H) :
  s.TypeIs v T∧∀ a,v=.ref a→∃ ob,s.heap.get? a=some ob∧ob.dict=none:=by
 cases x with
 | str z =>
  obtain ⟨t,rfl⟩:=r
  cases (show T = "str" from ty)
  exact ⟨typeIs_str s z t,fun _ e=>nomatch e⟩
 | int i =>
  obtain ⟨t,rfl⟩:=r
  cases (show T = "int" from ty)
  exact ⟨typeIs_int s i t,fun _ e=>nomatch e⟩
 | ref p =>
  cases r
  rcases ty with ⟨rfl,xs,hq⟩ | ⟨rfl,o,hk,hc,hd⟩ | ⟨rfl,hk⟩ | ⟨rfl,S,n,hk⟩
  ·obtain ⟨its,_,pl,_⟩:=I.list hq
   refine ⟨pl.isList.typeIs,fun a e=>?_⟩
   cases e
   obtain ⟨o,n,e,c,hd,_⟩:=pl
   exact ⟨o,e,hd⟩
  ·refine ⟨⟨o,I.kIn p o hk,hc⟩,fun a e=>?_⟩
   cases e
   exact ⟨o,I.kIn _ o hk,hd⟩
  ·have z:∃ o,s.heap.get? p=some o∧o.ExactDict:=by
    rcases hk with ⟨kvs,hk⟩ | ⟨kvs,hk⟩
    ·obtain ⟨_,_,_,_,o,_,_,e,ex,_⟩:=I.hok p _ hk
     exact ⟨o,e,ex⟩
    ·obtain ⟨_,_,_,_,o,_,_,e,ex,_⟩:=I.hok p _ hk
     exact ⟨o,e,ex⟩
   obtain ⟨o,e,ex⟩:=z
   refine ⟨⟨o,e,ex.1⟩,fun a e2=>?_⟩
   cases e2
   exact ⟨o,e,ex.2.1⟩
  ·obtain ⟨o,_,_,_,e,ex,_⟩:=I.hok p _ hk
   refine ⟨⟨o,e,ex.1⟩,fun a e2=>?_⟩
   cases e2
   exact ⟨o,e,ex.2.1⟩
 | _=>exact False.elim ty
def vJ(K:Frag)(T:String)(r:V→List V→Hp→VK→Prop)(to:TE):TE:=fun σ H Q=>to σ H fun x H1=>tyV K T x H1∧r x [] H1 Q
def tBM(K:Frag)(T:String)(r:V→List V→Hp→VK→Prop)(to:TE)(t:TA):TE:=fun σ H Q=>to σ H fun x H1=>tyV K T x H1∧t σ H1 fun xs H2=>r x xs H2 Q
variable {o e:Expr}{es:List Expr}{to:TE}{t:TA}{name:Str}{apos cpos:Pos}{T id:String}{r:V→List V→Hp→VK→Prop}
theorem pY(pa:PlainAttrs T)(slot:Slot T name id)(hty:typeOf (.builtin id)=pure (.type "method_descriptor"))(hm:MtR X id r)(ho:PE X o to)
  (hbase:attributeBase o name X.env (eval o X.env)=eval o X.env:=by rfl) (hline:(apos.endLine == cpos.line)=true:=by rfl):PE X (.Call (.Attribute o name apos) [] [] cpos) (vJ X.K T r to):=by
 intro pins s σ H Q I h
 refine wpAny_Call_method0_late hbase hline (thn (ho pins s σ H _ I h) fun v s1 ⟨x,H1,I1,r1,ty,q1⟩=>?_)
 obtain ⟨h1,h2⟩:=rG I1 r1 ty
 exact ⟨T,id,pa,slot,hty,h1,h2,Calls.callWith_builtin rfl (PySem.evalArgs_none (hm pins s1 σ H1 x [] v [] Q I1 r1 .nil q1))⟩
theorem uG(pa:PlainAttrs T)(slot:Slot T name id)(hty:typeOf (.builtin id)=pure (.type "method_descriptor"))(hm:MtR X id r)(ho:PE X o to)(ha:PA X (e::es) t)
  (hbase:attributeBase o name X.env (eval o X.env)=eval o X.env:=by rfl)
  (hfew:((backTo cpos (starEach (e::es) X.env)).all (fun x=>!x.1) && (backToKw cpos (keywordEach [] X.env)).all (fun x=>x.1.isSome)
   && decide ((e::es).length+([]:List Keyword).length+(if ([]:List Keyword).isEmpty then 0 else 1)<30))=true:=by rfl)
  (hline:(apos.endLine == cpos.line)=true:=by rfl) (hs:starEach (e::es) X.env=(false,eval e X.env)::starEach es X.env:=by rfl) (hplain:(backTo cpos (starEach es X.env)).any (·.1)=false:=by rfl) :
  PE X (.Call (.Attribute o name apos) (e::es) [] cpos) (tBM X.K T r to t):=by
 intro pins s σ H Q I h
 refine wpAny_Call_method_late hbase hfew hline rfl (thn (ho pins s σ H _ I h) fun v s1 ⟨x,H1,I1,r1,ty,q1⟩=>?_)
 obtain ⟨h1,h2⟩:=rG I1 r1 ty
 refine ⟨T,id,pa,slot,hty,h1,h2,?_⟩
 have hA:=ha cpos pins s1 σ H1 _ I1 q1
 rw[hs]at hA ⊢
 refine Calls.callWith_builtin (by show (false || (backTo cpos (starEach es X.env)).any (·.1))=false; rw[hplain] <;> rfl) (Calls.evalArgs_plain ?_)
 exact thn hA fun us s2 ⟨vs,H2,I2,r2,q2⟩=>hm pins s2 σ H2 x vs v us Q I2 r1 r2 q2
end
def MtM(X:Cx)(id:String)(r:V→List V→Hp→VK→Prop):Prop :=
 ∀(pins:List (Addr×Obj)) (s:Shared) (σ:St) (H:Hp) (x:V) (xs:List V) (v:Value) (us:List Value) (Q:VK),Inv X pins σ H s→RelV x v→Vals xs us→r x xs H Q →
  wpAny (model X.prog X.w) X.A (call (.builtin id) (v::us)) (EP X pins σ Q) X.xe s
theorem Vals.one:∀{x:V}{us:List Value},Vals [x] us→∃ u,us=[u]∧RelV x u
 | _,_,.cons r .nil=>⟨_,rfl,r⟩
theorem Vals.zero:∀{us:List Value},Vals [] us→us=[]
 | _,.nil=>rfl
theorem Vals.dropLast{xs:List V}{us:List Value}(h:Vals xs us):Vals xs.dropLast us.dropLast:=by
 induction h with
 | nil=>exact .nil
 | cons r t ih =>
  cases t with
  | nil=>exact .nil
  | cons q t'=>exact .cons r ih
theorem lT{α:Type}(l:List α):l.eraseIdx (l.length - 1)=l.dropLast:=by
 induction l with
 | nil=>rfl
 | cons a r ih =>
  cases r with
  | nil=>rfl
  | cons b r =>
   have e:(a::b::r).length - 1=((b::r).length - 1)+1:=by
    have h1:(a::b::r).length=r.length+2:=rfl
    have h2:(b::r).length=r.length+1:=rfl
    lia
   rw[e,List.eraseIdx_cons_succ,ih]
   all_goals rfl
section
variable {X:Cx}{pins:List (Addr×Obj)}{σ:St}{H:Hp}{s:Shared}{l b:Addr}{xs ys zs:List V}
theorem Inv.lset{its its':List Value}{n:Nat}{f:Array Value→Array Value}{t':Nat}(I:Inv X pins σ H s)(hH:H l=some (.lst xs))
  (e:s.heap.get? l=some { cls:=.type "list",data:=.seq its.toArray n }) (hf:f its.toArray=its'.toArray) (hv:Vals ys its') (hz:ys.length≤sizeLine) :
  Inv X pins σ (upd H l (.lst ys)) { s with heap:=s.heap.update l (Obj.mapSeq f),toks:=t' }:=by
 have q:=PySem.IsL.update e f
 rw[hf]at q
 refine I.write (x:=l) (e:=l) (by rw[hH]; exact trivial) (.inl rfl) (fun b' u hb hu=>(Heap.get?_update_other s.heap (Obj.mapSeq f) (Ne.symm hb)).trans hu) ⟨_,q⟩ ?_
 exact ⟨hz,its',_,hv,q⟩
theorem Inv.lnew{its:List Value}{t':Nat}(I:Inv X pins σ H s)(hv:Vals ys its)(hz:ys.length≤sizeLine) :
  Inv X pins σ (upd H s.heap.objs.size (.lst ys)) { s with heap:=s.heap.push { cls:=.type "list",data:=.seq its.toArray },toks:=t' } :=
 I.laid (fun _ _ q=>Heap.get?_push_of_some _ q) (Nat.le_refl _) ⟨hz,its,0,hv,Heap.get?_push_size _ rfl⟩
theorem Inv.lstM(I:Inv X pins σ H s)(hH:H l=some (.lst xs)):xs.length≤sizeLine∧∃(its:List Value) (n:Nat),Vals xs its∧xs.length=its.length∧s.heap.get? l=some { cls:=.type "list",data:=.seq its.toArray n }:=by
 obtain ⟨z,its,n,r,e⟩:=I.hok l _ hH
 exact ⟨z,its,n,r,r.length,e⟩
theorem qh{n:Nat}(h:n≤sizeLine):Builtin.List.listTooLong n=false:=by
 unfold Builtin.List.listTooLong
 exact decide_eq_false (by lia)
end
section
variable {X:Cx}
inductive rAppend(x:V)(vs:List V)(H:Hp)(Q:VK):Prop
 | mk(l:Addr)(xs:List V)(y:V)(h0:x=.ref l)(h1:vs=[y])(h2:H l=some (.lst xs))(h3:xs.length<sizeLine)(h4:Q .non (upd H l (.lst (xs++[y])))):rAppend x vs H Q
theorem ja:MtM X "list.append" rAppend:=by
 intro pins s σ H x vs v us Q I rx rv h
 obtain ⟨l,xs,y,rfl,rfl,hH,hz,q⟩:=h
 cases rx
 obtain ⟨u,rfl,ru⟩:=rv.one
 obtain ⟨z,its,n,r,hl,e⟩:=I.lstM hH
 refine call_meets F.slot_list_append ⟨_,e,rfl⟩ F.entry_list_append (F.args_list_append_2 _ _) (PySem.list_append l its.toArray n u (by rw[size_toArray]; lia)) ⟨e,?_⟩
 refine ⟨.non,_,I.lset (its':=its++[u]) hH e (by simp) (r.append (.cons ru .nil)) ?_,rfl,q⟩
 rw[length_append,length_singleton]
 lia
def oe:V→List V→Hp→VK→Prop:=fun x vs H Q=>∃ l b xs zs,x=.ref l∧vs=[.ref b]∧H l=some (.lst xs)∧H b=some (.lst zs)∧xs.length+zs.length≤sizeLine∧Q .non (upd H l (.lst (xs++zs)))
theorem pO:MtM X "list.extend" oe:=by
 intro pins s σ H x vs v us Q I rx rv h
 obtain ⟨l,b,xs,zs,rfl,rfl,hH,hB,hz,q⟩:=h
 cases rx
 obtain ⟨u,rfl,ru⟩:=rv.one
 cases ru
 obtain ⟨z,its,n,r,hl,e⟩:=I.lstM hH
 obtain ⟨z2,its2,n2,r2,hl2,e2⟩:=I.lstM hB
 have hsz:its.toArray.size+its2.toArray.size≤sizeLine:=by rw[size_toArray,size_toArray]; lia
 have hlong:¬(!its.toArray.isEmpty && Builtin.List.listTooLong (its.toArray.size+its2.toArray.size))=true:=by
  rw[qh hsz,Bool.and_false]
  exact Bool.false_ne_true
 refine call_meets F.slot_list_extend ⟨_,e,rfl⟩ F.entry_list_extend (F.args_list_extend_2 _ _)
  (AutoSeq1.list_extend_list_list_0 l its.toArray n b its2.toArray n2 hlong (by rw[size_toArray]; lia) (by lia)) ⟨e,e2,?_⟩
 refine ⟨.non,_,I.lset (its':=its++its2) hH e (by simp) (r.append r2) ?_,rfl,q⟩
 rw[length_append]
 lia
def wW:V→List V→Hp→VK→Prop:=fun x vs H Q=>∃ l xs y,x=.ref l∧vs=[]∧H l=some (.lst xs)∧xs[xs.length - 1]? = some y∧Q y (upd H l (.lst xs.dropLast))
theorem wc:MtM X "list.pop" wW:=by
 intro pins s σ H x vs v us Q I rx rv h
 obtain ⟨l,xs,y,rfl,rfl,hH,hy,q⟩:=h
 cases rx
 have hus:=rv.zero
 subst hus
 obtain ⟨z,its,n,r,hl,e⟩:=I.lstM hH
 obtain ⟨u,hu,ru⟩:=r.get hy
 have hy':its.toArray[its.toArray.size - 1]? = some u:=by
  show its.toArray[its.length - 1]? = some u
  rw[← Array.getElem?_toList,← hl]
  exact hu
 refine call_meets F.slot_list_pop ⟨_,e,rfl⟩ F.entry_list_pop (F.args_list_pop_1 _) (MeetsSeq.list_pop_last l its.toArray n u hy' (by rw[size_toArray]; lia)) ⟨e,?_⟩
 refine ⟨y,_,I.lset (its':=its.dropLast) hH e ?_ r.dropLast ?_,ru,q⟩
 ·show its.toArray.eraseIdxIfInBounds (its.toArray.size - 1)=its.dropLast.toArray
  rw[size_toArray,List.eraseIdxIfInBounds_toArray,lT]
 ·rw[List.length_dropLast]
  lia
def qx:V→List V→Hp→VK→Prop:=fun x vs H Q=>∃ l xs,x=.ref l∧vs=[]∧H l=some (.lst xs)∧Q .non (upd H l (.lst []))
theorem rF:MtM X "list.clear" qx:=by
 intro pins s σ H x vs v us Q I rx rv h
 obtain ⟨l,xs,rfl,rfl,hH,q⟩:=h
 cases rx
 have hus:=rv.zero
 subst hus
 obtain ⟨z,its,n,r,hl,e⟩:=I.lstM hH
 refine call_meets F.slot_list_clear ⟨_,e,rfl⟩ F.entry_list_clear (F.args_list_clear_1 _) (AutoSeq1.list_clear_list_0 l its.toArray n (by rw[size_toArray]; lia)) ⟨e,?_⟩
 exact ⟨.non,_,I.lset (its':=[]) (ys:=[]) hH e rfl .nil (Nat.zero_le _),rfl,q⟩
end
section
variable {prog:Program}{w:World}{A:Around}{E:Value→Shared→Prop}{s:Shared}
set_option maxRecDepth 100000 in
end
section
variable {X:Cx}
end
end L2
namespace Att
open PySem PySem.W PySem.Calls PyProof.Rows
theorem gA{P:Params}{h:Heap}:∀(ns:List Int) (vs:List Value),WellAll P h vs (ns.map WData.int)→IntsAre vs ns:=by
 intro ns
 induction ns with
 | nil =>
  intro vs w
  rw[map_nil]at w
  cases w
  exact .nil
 | cons n ns ih =>
  intro vs w
  rw[map_cons]at w
  cases w with
  | cons a b =>
   cases a
   exact .cons _ _ (ih _ b)
theorem oU{l:OpenLaw}{n:Nat}(hn:l.most=some n){P:Params}{h:Heap}{args:List WData}{vals:List Value}
  (hpre:l.row.toRowW.claim.pre args=true) (hwl:WellAll P h vals args) :
  ∃ a vs ns,vals=[Value.ref a]∧args=[WData.list (ns.map WData.int)]∧h.get? a=some { cls:=.type "list",data:=.seq vs.toArray }∧IntsAre vs ns∧ns.length≤n:=by
 have hsh:WShape.hasAll [] args [.list .int]=true:=(pre_splitW hpre).1
 have hc:l.pre.holds [] { args:=args }=true:=(pre_splitW hpre).2
 obtain ⟨d,r,rfl,h1,h2⟩:=hasAllW_cons hsh
 obtain rfl:=hasAllW_nil h2
 obtain ⟨xs,rfl,h3⟩:=hasW_list h1
 obtain ⟨ns,rfl⟩:=items_int h3
 have hlen:ns.length≤n:=by
  unfold OpenLaw.pre at hc
  have h4:(WTm.not (.lt (.lit (.int (n:Int))) (.len (.arg 0)))).holds [] { args:=[.list (ns.map .int)] }=true:=by
   have h4:=(holds_andW hc).1
   rw[hn]at h4
   exact h4
  have h5:=condW_of h4 (w_not (w_lt w_lit (w_len_list (w_arg rfl))))
  rw[length_map]at h5
  refine Nat.le_of_not_lt fun q=>?_
  have q':(n:Int)<((ns.length:Nat):Int):=by lia
  first
   | (rw[decide_eq_true q']at h5; exact absurd h5 (by decide))
   | (simp at h5; lia)
 cases hwl with
 | cons w1 w2 =>
  cases w2
  cases w1 with
  | list ho hall=>exact ⟨_,_,ns,rfl,rfl,ho,gA ns _ hall,hlen⟩
theorem oY(l:OpenLaw)(args:List WData):l.row.toRowW.claim.post args (.bool true) args=true :=
 postW_of (r:=l.row.toRowW) (X:=(true == true))
  (show WShape.has [] (.bool true) .bool=true by first | rfl | decide | simp[WShape.has,WShape.arms,WShape.armsAll])
  (show (WTm.eq .res (.lit (.bool true))).value [] { args:=args,res:=some (.bool true),after:=args }=some (.bool (true == true)) from w_eq_bool (w_res rfl) w_lit) rfl
theorem attach_call{l:OpenLaw}{n:Nat}{q:Program}{loose:List Str}{XP:(Str→Option Value)→Heap→Prop}{YP:World→Heap→Prop}{d:DefRec}
  (hn:l.most=some n) (hdf:d.params.defaults=[])
  (call:∀(w:World) (s₀ s₁:Shared) (mg mb:Str→Option Value) (fa:Addr) (o:Obj) (pm cd doc:Value) (a:Addr) (vs:List Value) (ns:List Int),
   Ground q loose [] XP w s₀ mg mb s₁.heap→YP w s₁.heap →
   s₁.heap.get? fa=some o→o.data=.func (docDef d.name d.params d.body d.scope pm cd doc)→s₁.heap.CodeRec cd d.name→mg d.name=some (.ref fa) →
   s₁.heap.get? a=some { cls:=.type "list",data:=.seq vs.toArray }→IntsAre vs ns→ns.length≤n→s₁.gens = #[] →
   codeAny (model l.prog w) callerA (.call (.ref fa) ⟨[.ref a],[]⟩) (fun r s'=>r=.ok (.ret (.bool true))∧OldK s₁.heap s'.heap∧s'.os=s₁.os∧AllBare s'.gens) s₁) :
  WalkO q loose XP YP l.row.toRowW d [] (fun f vs=>PySem.call f vs):=by
 intro w s₀ s₁ mg mb G Y fa o pm cd doc dV kV ho hd hcd hD hmg hg args vals as hpre hlay hrd hwl hlo
 obtain rfl:dV=.none:=Dflts.none hD hdf
 obtain rfl:kV=.none:=Dflts.noKw hD
 obtain ⟨a,vs,ns,rfl,rfl,hobj,hints,hlen⟩:=oU hn hpre hwl
 refine enter_call (codeAny_mono (call w s₀ s₁ mg mb fa o pm cd doc a vs ns G Y ho (fd_plain hd) hcd hmg hobj hints hlen hg) fun r s' hq=>?_)
 obtain ⟨rfl,h2,h3,h4⟩:=hq
 exact ⟨.inl ⟨.bool true,.bool true,[],rfl,fun _=>rfl,.bool true,oY l _,fun _=>⟨List.Pairwise.nil,fun _ hm=>(nomatch hm)⟩⟩,h2,h3,h4⟩
section
variable {prog:Program}{w:World}{A:Around}{E:Value→Shared→Prop}{s:Shared}{K:Frag}
end
end Att
namespace L2
open PySem PySem.Spec PyProof.Rows
theorem iY:∀{vs:List Value}{ns:List Int},IntsAre vs ns→Vals (ns.map V.int) vs
 | _,_,.nil=>.nil
 | _,_,.cons n t h=>.cons ⟨t,rfl⟩ (iY h)
abbrev KOf{K:Frag}{h:Heap}(_:K.In h):Frag:=K
def cO(s:Stmt)(j:Nat):Stmt:=match s with
 | .ClassDef _ _ _ body _ _ _ _ _ _ _=>body.getD j (.Pass ⟨0,0,0,0⟩)
 | _=>.Pass ⟨0,0,0,0⟩
def am(s:Stmt):Arguments:=match s with
 | .FunctionDef _ a _ _ _ _ _ _ _ _=>a
 | _=>{ posonlyargs:=[],args:=[],vararg:=none,kwonlyargs:=[],kw_defaults:=[],kwarg:=none,defaults:=[] }
def aj(s:Stmt):List Stmt:=match s with
 | .FunctionDef _ _ b _ _ _ _ _ _ _=>b
 | _=>[]
def ae(s:Stmt):Scope:=match s with
 | .FunctionDef _ _ _ _ _ _ sc _ _ _=>sc
 | _=>{ kind:=.function,names:=[],isGenerator:=false,isCoroutine:=false }
abbrev CX0:CXT:=fun _ _ _ _ _ _=>False
abbrev E0:XK:=fun _ _ _=>False
theorem aA{X:Cx}:fe CX0 X E0:=fun _ _ _ _ _ _ _ h=>h.elim
structure Fun(K:Frag)(x qual:Str)(st:Stmt)(f:Addr)(fd:FuncData):Prop where
 ex:∃(oc:Value) (od:Option Addr) (kV doc pm:Value) (an:Option Addr) (cdv ct:Value) (osl:Array (Option Value)),
  fd=fnOf x qual (am st) (aj st) (ae st) .none kV doc pm an cdv ct∧K.lookup f=some ⟨oc,od,.func fd,osl⟩∧codeIn K cdv qual=true
 kp:keepIn K (.ref f)=true
section
variable {P:Program}{w:World}{K:Frag}{mg:Str→Option Value}{base:Heap}
theorem Fun.ok{x qual:Str}{st:Stmt}{f:Addr}{fd:FuncData}{N ps:List Str}{k:Nat}{sp:Sp}(F:Fun K x qual st f fd)(S:FnScope N ps (ae st))(len:∀ vs H Q E,sp vs H Q E→vs.length=ps.length)
  (hbody:∀(cdv:Value) (A:Around) (outer:List Env) (s:Shared) (H:Hp) (vs:List V) (Q:VK) (E:XK),Room k (A.deeper (envOfC qual (ae st) s.heap.objs.size f cdv))→sp vs H Q E →
   ∃ t,PSs (hX CX0 P w K mg base N qual (ae st) f cdv A outer s H E).nox (aj st) t∧t { nx:=fun _ H'=>Q .non H',rt:=Q } (start N vs) H):FnOk P w K mg base CX0 (k+1) f fd ps sp:=by
 obtain ⟨oc,od,kV,doc,pm,an,cdv,ct,osl,rfl,lk,hcd⟩:=F.ex
 refine uN lk hcd S len fun A outer s H vs Q E hr hsp=>?_
 obtain ⟨t,h,q⟩:=hbody cdv A outer s H vs Q E hr hsp
 exact ⟨t,h.nox,q⟩
theorem Fun.binds{x qual:Str}{st:Stmt}{f:Addr}{fd:FuncData}{ps:List Str}(F:Fun K x qual st f fd)
  (h:∀(kV doc pm:Value) (an:Option Addr) (cdv ct:Value) (us:List Value),us.length=ps.length→bindArgs (fnOf x qual (am st) (aj st) (ae st) .none kV doc pm an cdv ct) ⟨us,[]⟩=pure (ps.zip us)):Binds K fd ps []:=by
 obtain ⟨oc,od,kV,doc,pm,an,cdv,ct,osl,rfl,lk,hcd⟩:=F.ex
 exact .all (h kV doc pm an cdv ct)
theorem ap{x qual:Str}{st:Stmt}{f:Addr}{oc:Value}{od an:Option Addr}{osl:Array (Option Value)}{kV doc pm cdv ct:Value}(l:K.lookup f=some ⟨oc,od,.func (fnOf x qual (am st) (aj st) (ae st) .none kV doc pm an cdv ct),osl⟩)
  (c:codeIn K cdv qual=true) (k:keepIn K (.ref f)=true):Fun K x qual st f (fnOf x qual (am st) (aj st) (ae st) .none kV doc pm an cdv ct):=⟨⟨oc,od,kV,doc,pm,an,cdv,ct,osl,rfl,l,c⟩,k⟩
end
theorem iy{A:Around}{k:Nat}(hr:Room k A):A.units+1<cLine:=Nat.lt_of_le_of_lt (Nat.add_le_add_left (by decide:1≤64) _) hr.units
section
variable {X:Cx}
end
theorem yc{c A B:Prop}[Decidable c](h1:c→A)(h2:¬c→B):if c then A else B:=by
 by_cases h:c
 ·rw[if_pos h]
  exact h1 h
 ·rw[if_neg h]
  exact h2 h
def Same(H H':Hp):Prop:=∀ b o,H b=some o→H' b=some o
theorem Same.refl(H:Hp):Same H H:=fun _ _ h=>h
theorem Same.trans{H H1 H2:Hp}(a:Same H H1)(b:Same H1 H2):Same H H2:=fun c o h=>b c o (a c o h)
theorem Same.free{H H':Hp}(e:Same H H'){l:Addr}(h:H' l=Option.none):H l=Option.none:=by
 cases q:H l with
 | none=>rfl
 | some o =>
  rw[e l o q]at h
  cases h
end L2
set_option maxHeartbeats 4000000
namespace L2
open PySem PySem.Spec PyProof.Rows
def Its(x:Str):It:=⟨fun i _=>i<x.cps.size,fun i H y H'=>H'=H∧∃ c,x.cps[i]? = some c∧y=.str ⟨#[c]⟩,fun i _=>x.cps.size≤i⟩
theorem kX{P:Program}{w:World}{K:Frag}{tg:Expr}(x:Str)(it:Addr){ty:String}{t:Tok}(hty:ty = "str_ascii_iterator" ∨ ty = "str_iterator") :
  Turn P w K tg (Its x) [it] it (fun i h=>h.IsStrIter it ty x t i) where
 mem:=by simp
 obj:=fun i h st b hb=>by
  have e:b=it:=by simpa using hb
  subst e
  obtain ⟨o,e,c,d⟩:=st
  exact ⟨o,e,fun v z=>by rw[d]at z; cases z⟩
 keep:=fun i h h' st k=>by
  obtain ⟨o,e,r⟩:=st
  exact ⟨o,k it (by simp) o e,r⟩
 item:=by
  intro X hP hw hK hc i pins s σ H E I hf st hg
  subst hP hw hK
  have hi:i<x.cps.size:=hg
  obtain ⟨f0,f1,f2,f3,f4,f5⟩:=hf it (by simp)
  rcases hty with rfl | rfl
  ·refine wpAny_pyNext_ascii_item st (c:=x.cps[i]) (by simp[hi]) fun h' st' sb=>?_
   have I1:Inv X pins σ H { s with heap:=h',toks:=s.toks+1 }:=I.turned (fun b o hb e=>(sb.2 b hb).trans e) f0 f1 f3 f4 f5
   obtain ⟨o,e,c,d⟩:=id st'
   exact ⟨_,rfl,kT (s:={ s with heap:=h',toks:=s.toks+1 }) e c d (by decide) ⟨.str ⟨#[x.cps[i]]⟩,H,I1,⟨_,rfl⟩,⟨rfl,x.cps[i],by simp[hi],rfl⟩,st',fun b hb=>(hf b hb).1⟩⟩
  ·refine wpAny_pyNext_wide_item st (c:=x.cps[i]) (by simp[hi]) fun h' st' sb=>?_
   have I1:Inv X pins σ H { s with heap:=h',toks:=s.toks+1 }:=I.turned (fun b o hb e=>(sb.2 b hb).trans e) f0 f1 f3 f4 f5
   obtain ⟨o,e,c,d⟩:=id st'
   exact ⟨_,rfl,kT (s:={ s with heap:=h',toks:=s.toks+1 }) e c d (by decide) ⟨.str ⟨#[x.cps[i]]⟩,H,I1,⟨_,rfl⟩,⟨rfl,x.cps[i],by simp[hi],rfl⟩,st',fun b hb=>(hf b hb).1⟩⟩
 done:=by
  intro X hP hw hK hc i pins s σ H E I hf st hg
  subst hP hw hK
  have hi:x.cps.size≤i:=hg
  obtain ⟨f0,f1,f2,f3,f4,f5⟩:=hf it (by simp)
  rcases hty with rfl | rfl
  ·exact wpAny_pyNext_ascii_end (I.ok.hd hc) st (by simp[hi]) fun h' eb=>⟨rfl,I.turned (t':=s.toks) (fun b o hb e=>eb b o hb e) f0 f1 f3 f4 f5⟩
  ·exact wpAny_pyNext_wide_end (I.ok.hd hc) st (by simp[hi]) fun h' eb=>⟨rfl,I.turned (t':=s.toks) (fun b o hb e=>eb b o hb e) f0 f1 f3 f4 f5⟩
 self:=fun _ _ _ _ _ st h=>by
  rcases hty with rfl | rfl
  ·exact wpAny_pyIter_striter_ascii st h
  ·exact wpAny_pyIter_striter_wide st h
def xZ(tl:TE):TI:=fun σ H R=>tl σ H fun x H1=>∃ z,x=.str z∧R (Its z) H1
theorem vB{X:Cx}{tg l:Expr}{tl:TE}(hl:PE X l tl):PI X tg l (xZ tl):=by
 intro pins s σ H R I h
 refine thn (hl pins s σ H _ I h) fun v s1 ⟨x,H1,I1,r1,q1⟩=>?_
 obtain ⟨z,e,q⟩:=q1
 subst e
 obtain ⟨t,rfl⟩:=r1
 refine wpAny_pyIter_strU ?_
 refine ⟨s1.heap.objs.size,[s1.heap.objs.size],_,_,H1,rfl,I1.kept (t':=s1.toks) fun b o e=>Heap.get?_push_of_some _ e,kX (ty:=strIterType z) (t:=t) z _ ?_,⟨_,Heap.get?_push_size _ rfl,rfl,rfl⟩,fun b hb=>?_,q⟩
 ·unfold strIterType
  split
  ·exact .inl rfl
  ·exact .inr rfl
 ·have e:b=s1.heap.objs.size:=by simpa using hb
  subst e
  exact I1.fpOk (Nat.le_refl _) (I1.hok.fresh (Nat.le_refl _))
def Wk:St→St→Prop
 | [],[]=>True
 | Option.none::r,_::q=>Wk r q
 | some a::r,b::q=>b=some a∧Wk r q
 | _,_=>False
theorem Wk.len:∀{a b:St},Wk a b→a.length=b.length
 | [],[],_=>rfl
 | Option.none::r,_::q,h=>congrArg (· + 1) (Wk.len (a:=r) (b:=q) h)
 | some _::r,_::q,h=>congrArg (· + 1) (Wk.len (a:=r) (b:=q) h.2)
 | [],_::_,h=>h.elim
 | Option.none::_,[],h=>h.elim
 | some _::_,[],h=>h.elim
theorem Wk.get:∀{a b:St},Wk a b→∀(i:Nat) v,a[i]? = some (some v)→b[i]? = some (some v)
 | [],[],_,i,v,e=>by simp at e
 | Option.none::r,y::q,h,0,v,e=>by simp at e
 | Option.none::r,y::q,h,i+1,v,e=>by simpa using Wk.get (a:=r) (b:=q) h i v (by simpa using e)
 | some x::r,y::q,h,0,v,e=>by
  have e':x=v:=by simpa using e
  rw[h.1,e'] <;> simp
 | some x::r,y::q,h,i+1,v,e=>by simpa using Wk.get (a:=r) (b:=q) h.2 i v (by simpa using e)
 | [],_::_,h,_,_,_=>h.elim
 | Option.none::_,[],h,_,_,_=>h.elim
 | some _::_,[],h,_,_,_=>h.elim
def dy(cells:List (Str×Addr)):List (Str×NameKind)→List (Str×Addr)→List (Str×Addr)
 | [],acc=>acc
 | (n,k)::r,acc=>if k == .free then dy cells r ((n,(cells.lookup n).getD 0)::acc) else dy cells r acc
theorem d6{sc:Scope}{env:Env}(h:∀ y∈sc.names,y.2=.free→∃ c,env.cells.lookup y.1=some c):closureFor sc env=pure (dy env.cells sc.names []):=by
 unfold closureFor
 have key:∀(l:List (Str×NameKind)) (acc:List (Str×Addr)),(∀ y∈l,y.2=.free→∃ c,env.cells.lookup y.1=some c) →
   (forIn l acc fun x r=>match x with | (name,kind)=>if (kind == .free)=true then do let a ← cellOf env name; pure (ForInStep.yield ((name,a)::r)) else pure (ForInStep.yield r):Sem (List (Str×Addr)))=pure (dy env.cells l acc):=by
  intro l
  induction l with
  | nil=>intro acc _; rfl
  | cons y r ih =>
   intro acc hy
   obtain ⟨n,k⟩:=y
   have hr:∀ y∈r,y.2=.free→∃ c,env.cells.lookup y.1=some c:=fun y hm=>hy y (mem_cons_of_mem _ hm)
   rw[forIn_cons]
   by_cases hk:k=.free
   ·subst hk
    obtain ⟨c,hc⟩:=hy (n,.free) mem_cons_self rfl
    have e1:cellOf env n=pure c:=by unfold cellOf; rw[hc]
    have e2:dy env.cells ((n,.free)::r) acc=dy env.cells r ((n,c)::acc):=by
     show (if (NameKind.free == NameKind.free)=true then dy env.cells r ((n,(env.cells.lookup n).getD 0)::acc) else dy env.cells r acc)=_
     rw[if_pos (by decide),hc]; rfl
    rw[e2,← ih ((n,c)::acc) hr]
    show (do let x ← (if (NameKind.free == NameKind.free)=true then do let a ← cellOf env n; pure (ForInStep.yield ((n,a)::acc)) else pure (ForInStep.yield acc):Sem _); _)=_
    rw[if_pos (by decide),e1]
    rfl
   ·have hb:(k == NameKind.free)=false:=by simpa using hk
    have e2:dy env.cells ((n,k)::r) acc=dy env.cells r acc:=by
     show (if (k == NameKind.free)=true then dy env.cells r ((n,(env.cells.lookup n).getD 0)::acc) else dy env.cells r acc)=_
     rw[hb]; rfl
    rw[e2,← ih acc hr]
    show (do let x ← (if (k == NameKind.free)=true then do let a ← cellOf env n; pure (ForInStep.yield ((n,a)::acc)) else pure (ForInStep.yield acc):Sem _); _)=_
    rw[hb]
    rfl
 have:=key sc.names [] h
 first | exact this | (rw[this]; rfl) | simpa using this
theorem dF{cells:List (Str×Addr)}:∀{l:List (Str×NameKind)}{acc:List (Str×Addr)}{n:Str}{c:Addr},(∀ y∈l,y.2=.free→∃ c,cells.lookup y.1=some c)→(∀ n c,acc.lookup n=some c→cells.lookup n=some c) →
  (dy cells l acc).lookup n=some c→cells.lookup n=some c
 | [],acc,n,c,_,ha,e=>ha n c e
 | (m,k)::r,acc,n,c,hl,ha,e=>by
  have hr:∀ y∈r,y.2=.free→∃ c,cells.lookup y.1=some c:=fun y hm=>hl y (mem_cons_of_mem _ hm)
  have e':(if (k == NameKind.free)=true then dy cells r ((m,(cells.lookup m).getD 0)::acc) else dy cells r acc).lookup n=some c:=e
  by_cases hk:(k == NameKind.free)=true
  ·rw[if_pos hk]at e'
   refine dF hr (fun n c z=>?_) e'
   obtain ⟨d,hd⟩:=hl (m,k) mem_cons_self (by simpa using hk)
   rw[lookup_cons]at z
   by_cases hn:(n == m)=true
   ·rw[hn]at z
    have:n=m:=by simpa using hn
    subst this
    have hd':cells.lookup n=some d:=hd
    rw[hd']at z ⊢
    simpa using z
   ·have hn':(n == m)=false:=by simpa using hn
    rw[hn']at z
    exact ha n c z
  ·rw[if_neg hk]at e'
   exact dF hr ha e'
theorem eP{cells:List (Str×Addr)}:∀{l:List (Str×NameKind)}{acc:List (Str×Addr)}{n:Str},((n,NameKind.free)∈l∨∃ c,acc.lookup n=some c)→∃ c,(dy cells l acc).lookup n=some c
 | [],acc,n,h=>by
  rcases h with h | h
  ·cases h
  ·exact h
 | (m,k)::r,acc,n,h=>by
  show ∃ c,(if (k == NameKind.free)=true then dy cells r ((m,(cells.lookup m).getD 0)::acc) else dy cells r acc).lookup n=some c
  have hcons:∀ a,n=m∨(∃ c,acc.lookup n=some c)→∃ c,((m,a)::acc).lookup n=some c:=fun a z=>by
   rw[lookup_cons]
   by_cases hn:(n == m)=true
   ·rw[hn]; exact ⟨_,rfl⟩
   ·have hn':(n == m)=false:=by simpa using hn
    rw[hn']
    rcases z with z | z
    ·exact absurd (by simpa using z) hn
    ·exact z
  by_cases hk:(k == NameKind.free)=true
  ·rw[if_pos hk]
   refine eP ?_
   rcases h with h | h
   ·rcases mem_cons.mp h with e | h
    ·exact .inr (hcons _ (.inl (congrArg Prod.fst e)))
    ·exact .inl h
   ·exact .inr (hcons _ (.inr h))
  ·rw[if_neg hk]
   refine eP ?_
   rcases h with h | h
   ·rcases mem_cons.mp h with e | h
    ·have:k=.free:=(congrArg Prod.snd e).symm
     rw[this]at hk
     exact absurd (by decide) hk
    ·exact .inl h
   ·exact .inr h
def rlb(env:Env)(p:Str×NameKind):Str×NameKind:=if (p.2 == NameKind.free && env.scope.kind == ScopeKind.function && env.kindOf p.1 == some NameKind.cell)=true then (p.1,NameKind.cell) else p
theorem iU(sc:Scope)(env:Env):(relabel sc env).names=sc.names.map (rlb env):=rfl
theorem um(env:Env)(p:Str×NameKind):(rlb env p).1=p.1:=by
 unfold rlb
 split <;> rfl
theorem p7{env:Env}{p:Str×NameKind}(h:p.2≠.cell)(h2:(rlb env p).2=.cell∨(rlb env p).2=.free):p.2=.free:=by
 unfold rlb at h2
 split at h2
 ·rename_i q
  rw[Bool.and_eq_true,Bool.and_eq_true]at q
  simpa using q.1.1
 ·rcases h2 with h2 | h2
  ·exact absurd h2 h
  ·exact h2
theorem eY{env:Env}:∀{names:List (Str×NameKind)}{x:Str}{k:NameKind},(∀ y∈names,y.2≠.cell)→(k=.cell∨k=.free)→(names.map (rlb env)).lookup x=some k→(x,NameKind.free)∈names
 | [],x,k,_,_,e=>by simp at e
 | p::r,x,k,hc,hk,e=>by
  have hr:∀ y∈r,y.2≠.cell:=fun y hm=>hc y (mem_cons_of_mem _ hm)
  have e0:rlb env p=(p.1,(rlb env p).2):=by rw[← um env p]
  rw[map_cons,e0,lookup_cons]at e
  by_cases hx:x=p.1
  ·have hb:(x == p.1)=true:=by simpa using hx
   rw[hb]at e
   have e2:(rlb env p).2=k:=Option.some.inj e
   have hj:=p7 (env:=env) (hc p mem_cons_self) (by rw[e2]; exact hk)
   have:(x,NameKind.free)=p:=by rw[hx,← hj]
   rw[this]
   exact mem_cons_self
  ·have hb:(x == p.1)=false:=by simpa using hx
   rw[hb]at e
   exact mem_cons_of_mem _ (eY hr hk e)
theorem dS{env:Env}{sc:Scope}{x:Str}{k:NameKind}(hc:∀ y∈sc.names,y.2≠.cell)(hk:k=.cell∨k=.free)(e:(relabel sc env).names.lookup x=some k):(x,NameKind.free)∈sc.names :=
 eY (env:=env) hc hk (by rw[← iU]; exact e)
def oO(ix:List (Option Nat))(σ:St):St:=ix.map fun o=>o.bind fun i=>(σ[i]?).join
def FreeOk(XN:List Str)(env:Env)(sc:Scope):List Str→List (Option Nat)→Prop
 | [],[]=>True
 | _::N,Option.none::ix=>FreeOk XN env sc N ix
 | y::N,some i::ix=>XN[i]? = some y∧env.kindOf y=some .cell∧(relabel sc env).names.lookup y=some .cell∧FreeOk XN env sc N ix
 | _,_=>False
theorem FreeOk.len{XN:List Str}{env:Env}{sc:Scope}:∀{N:List Str}{ix:List (Option Nat)},FreeOk XN env sc N ix→ix.length=N.length
 | [],[],_=>rfl
 | _::N,Option.none::ix,h=>congrArg (· + 1) (FreeOk.len (N:=N) (ix:=ix) h)
 | _::N,some _::ix,h=>congrArg (· + 1) (FreeOk.len (N:=N) (ix:=ix) h.2.2.2)
 | [],_::_,h=>h.elim
 | _::_,[],h=>h.elim
theorem FreeOk.get{XN:List Str}{env:Env}{sc:Scope}:∀{N:List Str}{ix:List (Option Nat)},FreeOk XN env sc N ix→∀(j:Nat) (y:Str) (i:Nat),N[j]? = some y→ix[j]? = some (some i) →
  XN[i]? = some y∧env.kindOf y=some .cell∧(relabel sc env).names.lookup y=some .cell
 | [],[],_,j,y,i,e,_=>by simp at e
 | _::N,Option.none::ix,h,0,y,i,e,e2=>by simp at e2
 | _::N,Option.none::ix,h,j+1,y,i,e,e2=>FreeOk.get (N:=N) (ix:=ix) h j y i (by simpa using e) (by simpa using e2)
 | z::N,some k::ix,h,0,y,i,e,e2=>by
  have e':z=y:=by simpa using e
  have e2':k=i:=by simpa using e2
  subst e'; subst e2'
  exact ⟨h.1,h.2.1,h.2.2.1⟩
 | _::N,some _::ix,h,j+1,y,i,e,e2=>FreeOk.get (N:=N) (ix:=ix) h.2.2.2 j y i (by simpa using e) (by simpa using e2)
 | [],_::_,h,_,_,_,_,_=>h.elim
 | _::_,[],h,_,_,_,_,_=>h.elim
def cxB(X:Cx)(sc:Scope)(C:Addr)(N:List Str)(s₀:Shared)(H₀:Hp)(fp:List Addr):Cx :=
 { X with N:=N,s₀:=s₀,H₀:=H₀,env:=compEnvC sc (dy X.env.cells sc.names []) C X.env,outer:=X.stack,ex:=fp,fn:=fun _=>false,pn:=[],xe:=fun _ _=>False }
structure CompOk(X:Cx)(sc:Scope)(N:List Str)(ix:List (Option Nat)):Prop where
 kind:sc.kind=.function
 nocell:(sc.names.all fun y=>y.2 != .cell)=true
 names:(sc.names.all fun y=>y.2 != .local || sc.names.lookup y.1 == some .local) = true
 free:(sc.names.all fun y=>y.2 != .free || X.env.scope.names.lookup y.1 == some .cell)=true
 fr:FreeOk X.N X.env sc N ix
section
variable {X:Cx}{sc:Scope}{N:List Str}{ix:List (Option Nat)}{pins:List (Addr×Obj)}{σ:St}{H:Hp}{s:Shared}
theorem CompOk.cells(c:CompOk X sc N ix)(ok:X.Ok):∀ y∈sc.names,y.2=.free→∃ c,X.env.cells.lookup y.1=some c:=fun y hy e=>by
 have h:=all_eq_true.mp c.free y hy
 rw[e]at h
 have h':X.env.scope.names.lookup y.1=some .cell:=by simpa using h
 exact ok.has y.1 (.inl h')
theorem CompOk.nc(c:CompOk X sc N ix):∀ y∈sc.names,y.2≠.cell:=fun y hy=>by simpa using all_eq_true.mp c.nocell y hy
theorem CompOk.nm(c:CompOk X sc N ix):∀ y ∈ sc.names,y.2 = .local→sc.names.lookup y.1 = some .local:=fun y hy e=>by
 have h:=all_eq_true.mp c.names y hy
 rw[e]at h
 simpa using h
theorem pe{C:Addr}{fp:List Addr}{h₁:Heap}{t':Nat}(c:CompOk X sc N ix)(I:Inv X pins σ H s)(hf:∀ b∈fp,eZ X pins H b)(hfp:∀ b∈fp,b<s.heap.objs.size)(hC:s.heap.objs.size≤C)
  (hn:h₁.Ns C (fun _=>none)) (old:∀ b o,s.heap.get? b=some o→h₁.get? b=some o):Inv (cxB X sc C N s H fp) [] (oO ix σ) H { s with heap:=h₁,toks:=t' }:=by
 have hcells:=c.cells I.ok
 have sub:∀ n c,(dy X.env.cells sc.names []).lookup n=some c→X.env.cells.lookup n=some c:=fun n c e=>dF hcells (fun n c z=>by simp at z) e
 refine ⟨⟨I.ok.mod,c.kind,I.ok.glob,I.ok.blt,hC,fun x y d h1 h2=>I.ok.inj x y d (sub x d h1) (sub y d h2),fun x hx=>?_,fun x d z=>absurd z (by simp[cxB]),I.ok.hd,I.ok.frames,.inl rfl,fun b hb=>⟨?_,fun x d e=>?_⟩,I.bs,Nat.le_trans I.ok.bsz I.sz,fun b o e hb=>?_,fun b hb hs=>?_,I.stack,I.stkFree⟩,
  rfl,I.bare,Un.kept old,⟨_,hn,fun j y v e1 e2 e3=>?_⟩,fun x d e=>?_,I.hok.fresh hC,fun x d e=>I.freeC x d (sub x d e),fun p hp=>absurd (show p∈([]:List (Addr×Obj)) from hp) (by simp),I.hok.kept old,?_⟩
 ·refine eP (.inl ?_)
  rcases hx with hx | hx
  ·exact dS c.nc (.inl rfl) (show (relabel sc X.env).names.lookup x=some .cell from hx)
  ·exact dS c.nc (.inr rfl) (show (relabel sc X.env).names.lookup x=some .free from hx)
 ·exact Nat.ne_of_lt (Nat.lt_of_lt_of_le (hfp b hb) hC)
 ·exact (hf b hb).2.2.2.2.1 x d (sub x d e)
 ·rcases (hf b hb).2.2.2.1 with z | z
  ·exact I.ok.noex b o e z
  ·exact absurd (Nat.lt_of_lt_of_le (Heap.lt_size e) (Nat.le_trans I.ok.bsz z)) (Nat.lt_irrefl _)
 ·rcases mem_cons.mp (I.stkSub b hs) with z | z
  ·exact (hf b hb).2.1 z
  ·exact (hf b hb).2.2.1 z
 ·have hj:∃ i,ix[j]? = some (some i)∧σ[i]? = some (some v):=by
   unfold oO at e2
   rw[List.getElem?_map]at e2
   cases q:ix[j]? with
   | none=>rw[q]at e2; cases e2
   | some o =>
    rw[q]at e2
    cases o with
    | none=>cases e2
    | some i =>
     refine ⟨i,rfl,?_⟩
     have e2':(σ[i]?).join=some v:=Option.some.inj e2
     cases q2:σ[i]? with
     | none=>rw[q2]at e2'; cases e2'
     | some w=>rw[q2]at e2'; exact congrArg some e2'
  obtain ⟨i,hi,hv⟩:=hj
  obtain ⟨k1,k2,k3⟩:=c.fr.get j y i e1 hi
  obtain ⟨m,hm,hl⟩:=I.loc
  obtain ⟨u,r,l⟩:=hl i y v k1 hv (.inr (.inl k2))
  refine ⟨u,r,?_⟩
  rcases l with ⟨z,_⟩ | ⟨_,d,hd,hcell⟩
  ·rw[k2]at z; cases z
  ·obtain ⟨d',hd'⟩:∃ d',(dy X.env.cells sc.names []).lookup y=some d':=eP (.inl (dS c.nc (.inl rfl) k3))
   have:=sub y d' hd'
   rw[hd]at this
   cases this
   exact .inr ⟨.inl k3,d,hd',hcell.keeps old⟩
 ·obtain ⟨v,z⟩:=I.cell x d (sub x d e)
  exact ⟨v,z.keeps old⟩
 ·show (oO ix σ).length=N.length
  unfold oO
  rw[length_map,c.fr.len]
theorem kz{C:Addr}{fp:List Addr}{pins':List (Addr×Obj)}{σ':St}{H':Hp}{s':Shared}(I:Inv X pins σ H s)(hf:∀ b∈fp,eZ X pins H b)(J:Inv (cxB X sc C N s H fp) pins' σ' H' s'):Inv X pins σ H' s':=by
 refine I.call' (ch:=fp) J.os J.base J.hok J.bare fun b hb=>?_
 obtain ⟨f0,f1,f2,f3,f4,f5⟩:=hf b hb
 exact ⟨f3,f1,f4,f5⟩
end
def PTs(X:Cx)(ifs:List Expr)(t:TT):Prop :=
 ∀(pins:List (Addr×Obj)) (s:Shared) (σ:St) (H:Hp) (Q:Bool→Hp→Prop),Inv X pins σ H s→t σ H Q →
  wpAny (model X.prog X.w) X.A (forIn ifs true fun c r=>if r=true then do let ok ← isTrue c X.env (eval c X.env); pure (ForInStep.yield ok) else pure (ForInStep.yield r)) (TP X pins σ Q) X.xe s
def xT:TT:=fun _ H Q=>Q true H
theorem bz{X:Cx}:PTs X [] xT:=fun _ _ _ H _ I h=>wpAny_tests_nil ⟨H,I,h⟩
theorem nU{X:Cx}{c:Expr}{t:TT}(h:PT X c t):PTs X [c] t:=fun pins s σ H Q I hw=>wpAny_tests_one (h pins s σ H Q I hw)
def jg(J:It)(D:Addr)(σb:St)(g:TG)(tt:TT)(te:TE)(Q:Hp→List V→Prop)(W:Nat→Nat→List V→Hp→Prop):Prop :=
 ∀ i m ys H,W i m ys H→H D=some (.lst ys)∧((J.stop i H∧Q H ys)∨(J.go i H∧∀ x H3,J.yld i H x H3→g x σb H3 fun σ4 H4=>Wk σb σ4∧tt σ4 H4 fun b H5 =>
  if b=true then te σ4 H5 fun y H6=>H6 D=some (.lst ys)∧ys.length<sizeLine∧∃ m',m'<m∧W (i+1) m' (ys++[y]) (upd H6 D (.lst (ys++[y]))) else ∃ m',m'<m∧W (i+1) m' ys H5))
def uK(ix:List (Option Nat))(wi:TI)(g:TG)(tt:TT)(te:TE):TE:=fun σ H Q=>wi σ H fun J H1=>∀ D,H1 D=none→∃ W,(∃ m,W 0 m [] (upd H1 D (.lst [])))∧jg J D (oO ix σ) g tt te (fun H _=>Q (.ref D) H) W
section
variable {X:Cx}{sc:Scope}{N:List Str}{ix:List (Option Nat)}{elt tg iter:Expr}{ifs:List Expr}{pos:Pos}{wi:TI}{g:TG}{tt:TT}{te:TE}
structure Blk(X:Cx)(sc:Scope)(N:List Str)(tg elt:Expr)(ifs:List Expr)(g:TG)(tt:TT)(te:TE):Prop where
 tg:∀ C s H fp,PG (cxB X sc C N s H fp) tg g
 tests:∀ C s H fp,PTs (cxB X sc C N s H fp) ifs tt
 elt:∀ C s H fp,PE (cxB X sc C N s H fp) elt te
theorem pL{J:It}{fp:List Addr}{it D:Addr}{tn:Nat→Heap→Prop}{σb:St}{Q:Hp→List V→Prop}{R:Result→Shared→Prop}{W:Nat→Nat→List V→Hp→Prop}
  (hc:X.calm=true) (hxe:X.xe=fun _ _=>False) (T:Turn X.prog X.w X.K tg J fp it tn) (hg:PG X tg g) (ht:PTs X ifs tt) (he:PE X elt te) (turn:jg J D σb g tt te Q W)
  (stat:∀{H':Hp},(∀ b∈fp,H' b=none)→∀ b∈fp,eZ X [] H' b)
  (fin:∀{σ':St}{H':Hp}{s':Shared}{ys:List V},Inv X [] σ' H' s'→Q H' ys→R (.ok .next) s')
  {m0 i0:Nat}{ys0:List V}{H0:Hp}{s0:Shared}(I0:Inv X [] σb H0 s0) (st0:tn i0 s0.heap) (fr0:∀ b∈fp,H0 b=none) (w0:W i0 m0 ys0 H0) :
  codeAny (model X.prog X.w) X.A (.compLoop (.ListComp elt [⟨tg,iter,ifs,0⟩] sc pos) 0 (.ref it) (.ref D) X.env) R s0:=by
 have noE:∀{E':Value→Shared→Prop}(e:Value) (s':Shared),X.xe e s'→E' e s':=fun {E'} e s' z=>by rw[hxe]at z; exact z.elim
 refine codeAny_loop rfl (fun n s'=>∃ i ys H',Inv X [] σb H' s'∧tn i s'.heap∧(∀ b∈fp,H' b=none)∧W i n ys H') ?_ m0 ⟨i0,ys0,H0,I0,st0,fr0,w0⟩
 rintro n s3 ⟨i,ys,H3,I3,st3,fr3,w3⟩
 show wpAny _ X.A ((compTurn (.ListComp elt [⟨tg,iter,ifs,0⟩] sc pos) 0 (.ref it) (.ref D) X.env).onRaise (fun x=>do noteFrame x X.env; theTreesLotGoes x)) _ _ s3
 refine wpAny_noted ?_
 rw[compTurn_list]
 refine wpAny_bind (wpAny_standAt (wpAny_bind ?_))
 obtain ⟨hDl,next⟩:=turn i n ys H3 w3
 rcases next with ⟨stop,q⟩ | ⟨go,step⟩
 ·refine thn (T.done X rfl rfl rfl hc i [] s3 σb H3 _ I3 (stat fr3) st3 stop) fun r s4 ⟨hr,I4⟩=>?_
  subst hr
  exact wpAny_pure (fin I4 q)
 ·refine thn (T.item X rfl rfl rfl hc i [] s3 σb H3 _ I3 (stat fr3) st3 go) fun r s4 ⟨u,hr,h4⟩=>?_
  subst hr
  refine wpAny_bind (thn h4 fun _ s5 ⟨x,H5,I5,r5,y5,st5,fr5⟩=>?_)
  have I5':=I5.pinned (stat fr5) (T.obj _ _ st5)
  have back:∀{σ':St}{H':Hp}{s':Shared},Inv X ([]++ii fp s5.heap) σ' H' s'→Wk σb σ'→Inv X [] σb H' s'∧tn (i+1) s'.heap∧∀ b∈fp,H' b=none:=fun {σ' H' s'} I7 wk=>by
   refine ⟨(I7.unpinned).weak wk.len wk.get,T.keep _ _ _ st5 fun b hb o e=>(I7.pin (b,o) (mem_append_right _ (mem_append_right _ (dR hb e)))).1,fun b hb=>?_⟩
   obtain ⟨o,e,d⟩:=T.obj _ _ st5 b hb
   exact (I7.pin (b,o) (mem_append_right _ (mem_append_right _ (dR hb e)))).2.1
  refine wpAny_bind (wpAny_mono (hg _ s5 σb H5 x u _ I5' r5 (step x H5 y5)) (fun _ s6 ⟨σ6,H6,I6,wk,q6⟩=>?_) noE)
  refine wpAny_bind (wpAny_mono (ht _ s6 σ6 H6 _ I6 q6) (fun ok s7 ⟨H7,I7,q7⟩=>?_) noE)
  cases ok with
  | false =>
   obtain ⟨m',hm,w7⟩:=q7
   obtain ⟨b1,b2,b3⟩:=back I7 wk
   exact wpAny_pure ⟨rfl,m',hm,i+1,ys,H7,b1,b2,b3,w7⟩
  | true =>
   refine wpAny_bind (wpAny_bind (wpAny_mono (he _ s7 σ6 H7 _ I7 q7) (fun v s8 ⟨y,H8,I8,r8,hD8,hl8,m',hm,w8⟩=>?_) noE))
   refine wpAny_bind (wpAny_mono (ja _ s8 σ6 H8 (.ref D) [y] (.ref D) [v] (fun _ H9=>H9=upd H8 D (.lst (ys++[y]))) I8 rfl (.cons r8 .nil) ⟨D,ys,y,rfl,rfl,hD8,hl8,rfl⟩) (fun _ s9 ⟨z,H9,I9,_,e9⟩=>?_) noE)
   subst e9
   obtain ⟨b1,b2,b3⟩:=back I9 wk
   exact wpAny_pure (wpAny_pure ⟨rfl,m',hm,i+1,ys++[y],_,b1,b2,b3,w8⟩)
theorem i6{pins:List (Addr×Obj)}{σ:St}{H:Hp}{s:Shared}{E:Value→Shared→Prop}{RR:Value→Addr→Result→Shared→Prop}{it:Addr}{fp:List Addr}{tn:Nat→Heap→Prop}{J:It}{Q:Addr→Hp→List V→Prop}
  (hc:X.calm=true) (c:CompOk X sc N ix) (B:Blk X sc N tg elt ifs g tt te) (I:Inv X pins σ H s) (T:Turn X.prog X.w X.K tg J fp it tn) (st:tn 0 s.heap) (hf:∀ b∈fp,eZ X pins H b)
  (h:∀ D,H D=none→∃ W,(∃ m,W 0 m [] (upd H D (.lst [])))∧jg J D (oO ix σ) g tt te (Q D) W)
  (hR:∀ D C H' s' ys,Inv X pins σ H' s'→eZ X pins H' C→(∃ m,s'.heap.Ns C m)→Q D H' ys→RR (.ref D) C (.ok .next) s') :
  wpAny (model X.prog X.w) X.A (newList []) (fun acc s₃=>wpAny (model X.prog X.w) X.A (newFunctionEnv sc X.env.globals (dy X.env.cells sc.names []) [] X.env.qual none .none (some X.env)) (fun cenv s₄ =>
   codeAny (model X.prog X.w) X.A (.compStart (.ListComp elt [⟨tg,iter,ifs,0⟩] sc pos) 0 (.ref it) acc { cenv with scope:=relabel sc X.env }) (RR acc cenv.locals) s₄) E s₃) E s:=by
 have hlt:∀ b∈fp,b<s.heap.objs.size:=fun b hb=>let ⟨o,e,_⟩:=T.obj _ _ st b hb; Heap.lt_size e
 refine wpAny_newObj_type ?_ (by show 0≤sizeLine; exact Nat.zero_le _)
 have hD:H s.heap.objs.size=none:=I.hok.fresh (Nat.le_refl _)
 obtain ⟨W,⟨m0,w0⟩,turn⟩:=h s.heap.objs.size hD
 have I1:Inv X pins σ (upd H s.heap.objs.size (.lst [])) { s with heap:=s.heap.push { cls:=.type "list",data:=.seq ([]:List Value).toArray } }:=I.lnew (t':=s.toks) (its:=[]) .nil (Nat.zero_le _)
 have k1:∀ b o,s.heap.get? b=some o→(s.heap.push { cls:=.type "list",data:=.seq ([]:List Value).toArray }).get? b=some o:=fun b o e=>Heap.get?_push_of_some _ e
 have hne:∀ b∈fp,b≠s.heap.objs.size:=fun b hb=>Nat.ne_of_lt (hlt b hb)
 have hf1:∀ b∈fp,eZ X pins (upd H s.heap.objs.size (.lst [])) b:=fun b hb=>⟨by rw[ag (hne b hb)]; exact (hf b hb).1,(hf b hb).2⟩
 have st1:tn 0 (s.heap.push { cls:=.type "list",data:=.seq ([]:List Value).toArray }):=T.keep _ _ _ st fun b _ o e=>k1 b o e
 generalize hs1:({ s with heap:=s.heap.push { cls:=.type "list",data:=.seq ([]:List Value).toArray } }:Shared)=s1 at I1
 have hs1h:s1.heap=s.heap.push { cls:=.type "list",data:=.seq ([]:List Value).toArray }:=by rw[← hs1]
 generalize hDe:s.heap.objs.size=D at *
 show wpAny _ _ _ _ _ s1
 refine wpAny_newFunctionEnv c.nc (by intro y hy; simp at hy) (fun h₁ hns₁ hsb₁=>?_) c.kind
 have old:∀ b o,s1.heap.get? b=some o→h₁.get? b=some o:=fun b o e=>(hsb₁.2 b (Nat.ne_of_lt (Heap.lt_size e))).trans (Heap.get?_push_of_some _ e)
 have hlt1:∀ b∈fp,b<s1.heap.objs.size:=fun b hb=>by
  obtain ⟨o,e,_⟩:=T.obj _ _ st1 b hb
  rw[hs1h]
  exact Heap.lt_size e
 have J0:=pe (h₁:=h₁) (t':=s1.toks+([]:List (Str×Value)).length) c I1 hf1 hlt1 (Nat.le_refl _) (by simpa using hns₁) old
 have stB:tn 0 h₁:=T.keep _ _ _ (by rw[hs1h]; exact st1:tn 0 s1.heap) fun b _ o e=>old b o e
 have fpB:∀{H':Hp},(∀ b∈fp,H' b=none)→∀ b∈fp,eZ (cxB X sc s1.heap.objs.size N s1 (upd H D (.lst [])) fp) [] H' b:=fun {H'} hn b hb=>by
  obtain ⟨f0,f1,f2,f3,f4,f5⟩:=hf1 b hb
  refine ⟨hn b hb,Nat.ne_of_lt (hlt1 b hb),?_,.inl hb,fun x d e=>f4 x d (dF (c.cells I.ok) (fun n c z=>by simp at z) e),fun p hp=>absurd (show p∈([]:List (Addr×Obj)) from hp) (by simp)⟩
  intro z
  rcases mem_cons.mp (I1.stkSub b z) with q | q
  ·exact f1 q
  ·exact f2 q
 have fin:∀{σ':St}{H':Hp}{s':Shared}{ys:List V},Inv (cxB X sc s1.heap.objs.size N s1 (upd H D (.lst [])) fp) [] σ' H' s'→Q D H' ys→RR (.ref D) s1.heap.objs.size (.ok .next) s':=fun {σ' H' s' ys} J q =>
  hR D _ H' s' ys (kz I1 hf1 J) (I1.fpOk (Nat.le_refl _) J.free) (let ⟨m,hn,_⟩:=J.loc; ⟨m,hn⟩) q
 have loop:codeAny (model X.prog X.w) X.A (.compLoop (.ListComp elt [⟨tg,iter,ifs,0⟩] sc pos) 0 (.ref it) (.ref D) (cxB X sc s1.heap.objs.size N s1 (upd H D (.lst [])) fp).env) (RR (.ref D) s1.heap.objs.size) { s1 with heap:=h₁,toks:=s1.toks+([]:List (Str×Value)).length } :=
  pL (X:=cxB X sc s1.heap.objs.size N s1 (upd H D (.lst [])) fp) hc rfl T (B.tg _ _ _ _) (B.tests _ _ _ _) (B.elt _ _ _ _) turn fpB fin J0 stB (fun b hb=>(hf1 b hb).1) w0
 exact codeAny_compStart_list loop (T.self _ 0 _ _ _ stB loop)
theorem bJ(hc:X.calm=true)(c:CompOk X sc N ix)(hi:PI X tg iter wi)(B:Blk X sc N tg elt ifs g tt te)(hs:∀ x,foldedSetIterable iter X.env x=pure x:=by intro _; rfl):PE X (.ListComp elt [⟨tg,iter,ifs,0⟩] sc pos) (uK ix wi g tt te):=by
 intro pins s σ H Q I h
 rw[eval_ListComp]
 refine wpAny_comprehension_free (use:=none) rfl hs (d6 (c.cells I.ok)) c.kind c.nm (thn (hi pins s σ H _ I h) fun xv s₁ h₁=>thn h₁ fun itv s₂ h₂=>?_)
 obtain ⟨it,fp,tn,J,H2,e,I2,T,st2,f2,q2⟩:=h₂
 subst e
 refine i6 (RR:=fun acc C=>compPost (model X.prog X.w) X.A X.xe none (EP X pins σ Q) acc C) (Q:=fun D H _=>Q (.ref D) H) hc c B I2 T st2 f2 q2 ?_
 intro D C H' s' ys I' fC ns q
 refine ⟨_,ns.choose_spec,fun h' sb=>⟨.ref D,H',?_,rfl,q⟩⟩
 obtain ⟨f0,f1,f2,f3,f4,f5⟩:=fC
 exact I'.turned (t':=s'.toks) (fun b o hb e=>(sb.2 b hb).trans e) f0 f1 f3 f4 f5
theorem jI{i:Nat}{y:Str}{py spos:Pos}(hc:X.calm = true)(hN:X.N.Nodup)(hy:X.N[i]? = some y)(hl:X.env.scope.names.lookup y = some .local)
  (hsw:swapsWith (.ListComp elt [⟨tg,iter,ifs,0⟩] sc pos) (some (.Name y py)) spos.line X.env=pure true)
  (c:CompOk X sc N ix) (hi:PI X tg iter wi) (B:Blk X sc N tg elt ifs g tt te) (hs:∀ x,foldedSetIterable iter X.env x=pure x:=by intro _; rfl) :
  PS X (.Assign [.Name y py] (.ListComp elt [⟨tg,iter,ifs,0⟩] sc pos) spos) (uk (uK ix wi g tt te) (ke i)):=by
 intro pins s σ H D0 I h
 rw[exec_Assign_Name_used _ _ _ _ hsw]
 refine wpAny_bind (wpAny_standAt (wpAny_bind ?_))
 show wpAny _ X.A (do let _ ← comprehension (.ListComp elt [⟨tg,iter,ifs,0⟩] sc pos) sc X.env _ (newList []) false (eval iter X.env) (some (assign (.Name y py) X.env))) _ _ s
 refine wpAny_bind (wpAny_mono (wpAny_comprehension_free (use:=some (assign (.Name y py) X.env)) (Q:=fun _ s'=>SP X pins D0 .next s') rfl hs (d6 (c.cells I.ok)) c.kind c.nm
  (thn (hi pins s σ H _ I h) fun xv s₁ h₁=>thn h₁ fun itv s₂ h₂=>?_)) (fun _ s' hq=>wpAny_pure (wpAny_pure hq)) fun _ _ e=>e)
 obtain ⟨it,fp,tn,J,H2,e,I2,T,st2,f2,q2⟩:=h₂
 subst e
 refine i6 (RR:=fun acc C=>compPost (model X.prog X.w) X.A X.xe (some (assign (.Name y py) X.env)) (fun _ s'=>SP X pins D0 .next s') acc C) (Q:=fun D H _=>D0.nx (σ.set i (some (.ref D))) H) hc c B I2 T st2 f2 q2 ?_
 intro D C H' s' ys I' fC ns q
 show wpAny _ X.A (assign (.Name y py) X.env (.ref D)) _ _ _
 obtain ⟨f0,f1,f2,f3,f4,f5⟩:=fC
 refine wpAny_assign_Name (jn I' hN hy (.inl hl) (v:=.ref D) rfl (fun s2 J2 ⟨a,sb,ha⟩=>?_) (.inr hl))
 obtain ⟨m,hn⟩:=ns
 have neC:C≠a:=by
  rcases ha with z | z
  ·rw[z]; exact f1
  ·exact fun e=>f4 y a z e.symm
 refine ⟨m,hn.sameBut sb neC,fun h3 sb3=>⟨_,H',?_,q⟩⟩
 exact J2.turned (t':=s2.toks) (fun b o hb e=>(sb3.2 b hb).trans e) f0 f1 f3 f4 f5
end
section
variable {κ:Type} [DecidableEq κ]
def cf(kvs:List (κ×V))(k:κ):Option V:=(kvs.find? fun kv=>decide (kv.1=k)).map (·.2)
def dI(kvs:List (κ×V))(k:κ)(v:V):List (κ×V) :=
 if (kvs.any fun kv=>decide (kv.1=k))=true then kvs.map (fun kv=>if kv.1=k then (kv.1,v) else kv) else kvs++[(k,v)]
theorem bw{p:κ×V}{r:List (κ×V)}{k:κ}(e:p.1=k):cf (p::r) k=some p.2:=by simp[cf,List.find?_cons,e]
theorem bx{p:κ×V}{r:List (κ×V)}{k:κ}(e:¬p.1=k):cf (p::r) k=cf r k:=by simp[cf,List.find?_cons,e]
theorem d8(k:κ):∀ kvs:List (κ×V),(kvs.any fun kv=>decide (kv.1=k))=(cf kvs k).isSome
 | []=>rfl
 | p::r=>by
  rw[any_cons]
  by_cases e:p.1=k
  ·simp only[bw e,decide_eq_true e,Bool.true_or,Option.isSome_some]
  ·rw[bx e,decide_eq_false e,Bool.false_or]; exact d8 k r
theorem ku(k j:κ)(y:V):∀ kvs:List (κ×V),cf (kvs.map fun kv=>if kv.1=k then (kv.1,y) else kv) j=(cf kvs j).map fun x=>if j=k then y else x
 | []=>rfl
 | p::r=>by
  have ih:=ku k j y r
  rw[map_cons]
  by_cases h:p.1=k
  ·rw[if_pos h]
   by_cases e:p.1=j
   ·rw[bw (p:=(p.1,y)) e,bw e,Option.map_some,if_pos (e.symm.trans h)]
   ·rw[bx (p:=(p.1,y)) e,bx e,ih]
  ·rw[if_neg h]
   by_cases e:p.1=j
   ·rw[bw (p:=p) e,bw e,Option.map_some,if_neg (fun z=>h (e.trans z))]
   ·rw[bx (p:=p) e,bx e,ih]
theorem je(k j:κ)(y:V):∀ kvs:List (κ×V),cf kvs k=none→cf (kvs++[(k,y)]) j=if j=k then some y else cf kvs j
 | [],_=>by
  by_cases e:k=j
  ·rw[if_pos e.symm]; exact bw (p:=(k,y)) e
  ·rw[if_neg (fun z=>e z.symm)]; exact bx (p:=(k,y)) e
 | p::r,hn=>by
  rw[cons_append]
  have hk:¬p.1=k:=fun z=>by rw[bw z]at hn; cases hn
  rw[bx hk]at hn
  have ih:=je k j y r hn
  by_cases e:p.1=j
  ·rw[bw e,bw e,if_neg (fun z=>hk (e.trans z))]
  ·rw[bx e,bx e,ih]
theorem qm(kvs:List (κ×V))(k j:κ)(y:V):cf (dI kvs k y) j=if j=k then some y else cf kvs j:=by
 unfold dI
 by_cases a:(kvs.any fun kv=>decide (kv.1=k))=true
 ·rw[if_pos a,ku]
  rw[d8]at a
  by_cases e:j=k
  ·obtain ⟨x,hx⟩:=Option.isSome_iff_exists.mp a
   rw[if_pos e,e,hx,Option.map_some,if_pos rfl]
  ·rw[if_neg e]
   cases cf kvs j with
   | none=>rfl
   | some x=>rw[Option.map_some,if_neg e]
 ·rw[if_neg a]
  refine je k j y kvs ?_
  rw[d8]at a
  cases q:cf kvs k with
  | none=>rfl
  | some x=>rw[q]at a; exact (a rfl).elim
theorem eE(kvs:List (κ×V))(k:κ)(v:V):(dI kvs k v).length≤kvs.length+1:=by
 unfold dI
 split
 ·rw[length_map]; lia
 ·rw[length_append,length_cons,List.length_nil]; lia
theorem rY{kvs:List (κ×V)}{k:κ}(v:V)(h:cf kvs k=none):dI kvs k v=kvs++[(k,v)]:=by
 unfold dI
 rw[d8,h]
 exact if_neg (by decide)
theorem RelO.isSome_eq{o:Option V}{u:Option Value}(r:RelO o u):o.isSome=u.isSome:=by
 cases o with
 | none=>cases u with
  | none=>rfl
  | some _=>exact (show False from r).elim
 | some _=>cases u with
  | none=>exact (show False from r).elim
  | some _=>rfl
theorem RelO.getD{o:Option V}{u:Option Value}{d:V}{d':Value}(r:RelO o u)(rd:RelV d d'):RelV (o.getD d) (u.getD d'):=by
 cases o with
 | none=>cases u with
  | none=>exact rd
  | some _=>exact (show False from r).elim
 | some _=>cases u with
  | none=>exact (show False from r).elim
  | some _=>exact r
theorem KV.val{kvs:List (κ×V)}{vs:List (κ×Value)}(r:KV kvs vs)(k:κ):RelO (cf kvs k) (valueAt vs k):=by
 unfold KV at r
 induction r with
 | nil=>exact True.intro
 | @cons p q ps qs h t ih =>
  obtain ⟨h1,h2⟩:=h
  by_cases e:p.1=k
  ·have e':q.1=k:=h1.symm.trans e
   have b:valueAt (q::qs) k=some q.2:=by simp[valueAt,List.find?_cons,e']
   rw[bw e,b]; exact h2
  ·have e':¬q.1=k:=fun z=>e (h1.trans z)
   have b:valueAt (q::qs) k=valueAt qs k:=by simp[valueAt,List.find?_cons,e']
   rw[bx e,b]; exact ih
theorem KV.any{kvs:List (κ×V)}{vs:List (κ×Value)}(r:KV kvs vs)(k:κ):(kvs.any fun kv=>decide (kv.1=k))=vs.any fun kv=>decide (kv.1=k):=by
 unfold KV at r
 induction r with
 | nil=>rfl
 | cons h t ih=>rw[any_cons,any_cons,ih,h.1]
theorem KV.repl{kvs:List (κ×V)}{vs:List (κ×Value)}(r:KV kvs vs)(k:κ){y:V}{u:Value}(ry:RelV y u) :
  KV (kvs.map fun kv=>if kv.1=k then (kv.1,y) else kv) (vs.map fun kv=>if kv.1=k then (kv.1,u) else kv):=by
 unfold KV at r ⊢
 induction r with
 | nil=>exact .nil
 | @cons p q ps qs h t ih =>
  rw[map_cons,map_cons]
  refine .cons ?_ ih
  obtain ⟨h1,h2⟩:=h
  by_cases e:p.1=k
  ·rw[if_pos e,if_pos (h1.symm.trans e)]; exact ⟨h1,ry⟩
  ·rw[if_neg e,if_neg (fun z=>e (h1.trans z))]; exact ⟨h1,h2⟩
theorem KV.put{kvs:List (κ×V)}{vs:List (κ×Value)}(r:KV kvs vs)(k:κ){y:V}{u:Value}(ry:RelV y u):KV (dI kvs k y) (stored vs k u):=by
 unfold dI stored
 rw[r.any k]
 by_cases e:(vs.any fun kv=>decide (kv.1=k))=true
 ·rw[if_pos e,if_pos e]; exact r.repl k ry
 ·rw[if_neg e,if_neg e]; exact Paired.snoc r ⟨rfl,ry⟩
theorem KV.length{kvs:List (κ×V)}{vs:List (κ×Value)}(r:KV kvs vs):kvs.length=vs.length:=Paired.length r
end
theorem nJ{P:Program}{w:World}{k:Key}{u:Value}(r:RelV (kV k) u):(aZ P w).is k u=true:=by
 cases k with
 | inl i=>obtain ⟨t,e⟩:=(show ∃ t,u=Value.int i t from r); subst e; exact kx P w i t
 | inr x=>obtain ⟨t,e⟩:=(show ∃ t,u=Value.str x t from r); subst e; exact j7 P w x t
theorem i7{P:Program}{w:World}:∀{ks:List Key}{us:List Value},Vals (ks.map kV) us→ItemsAre (aZ P w) ks us
 | [],_,r=>by rw[map_nil]at r; cases r; exact .nil
 | k::ks,_,r=>by
  rw[map_cons]at r
  cases r with
  | cons h t=>exact .cons (nJ h) (i7 t)
abbrev KT(H:Hp):List (List Key×V)→List (List Key×Addr×Value)→Prop:=Paired fun p q=>p.1=q.1∧H q.2.1=some (.tup (p.1.map kV))∧RelV p.2 q.2.2
theorem KT.val{H:Hp}{kvs:List (List Key×V)}{xs:List (List Key×Addr×Value)}(r:KT H kvs xs)(k:List Key):RelO (cf kvs k) ((atKey xs k).map (·.2)):=by
 induction r with
 | nil=>exact True.intro
 | @cons p q ps qs h t ih =>
  obtain ⟨h1,_,h2⟩:=h
  by_cases e:p.1=k
  ·have e':q.1=k:=h1.symm.trans e
   have b:atKey (q::qs) k=some q.2:=by simp[atKey,List.find?_cons,e']
   rw[bw e,b]; exact h2
  ·have e':¬q.1=k:=fun z=>e (h1.trans z)
   have b:atKey (q::qs) k=atKey qs k:=by simp[atKey,List.find?_cons,e']
   rw[bx e,b]; exact ih
theorem KT.repl{H:Hp}{kvs:List (List Key×V)}{xs:List (List Key×Addr×Value)}(r:KT H kvs xs)(k:List Key){y:V}{u:Value}(ry:RelV y u) :
  KT H (kvs.map fun kv=>if kv.1=k then (kv.1,y) else kv) (xs.map (putAt k u)):=by
 induction r with
 | nil=>exact .nil
 | @cons p q ps qs h t ih =>
  rw[map_cons,map_cons]
  refine .cons ?_ ih
  obtain ⟨h1,h2,h3⟩:=h
  unfold putAt
  by_cases e:p.1=k
  ·rw[if_pos e,if_pos (h1.symm.trans e)]; exact ⟨h1,h2,ry⟩
  ·rw[if_neg e,if_neg (fun z=>e (h1.trans z))]; exact ⟨h1,h2,h3⟩
theorem KT.put{H:Hp}{kvs:List (List Key×V)}{xs:List (List Key×Addr×Value)}(r:KT H kvs xs)(k:List Key){b:Addr}{y:V}{u:Value}(hb:H b=some (.tup (k.map kV)))(ry:RelV y u) :
  KT H (dI kvs k y) (storedH xs k b u):=by
 have e:(kvs.any fun kv=>decide (kv.1=k))=(atKey xs k).isSome:=by
  rw[d8,(r.val k).isSome_eq,Option.isSome_map]
 unfold dI storedH
 rw[e]
 by_cases q:(atKey xs k).isSome=true
 ·rw[if_pos q,if_pos q]; exact r.repl k ry
 ·rw[if_neg q,if_neg q]; exact Paired.snoc r ⟨rfl,hb,ry⟩
theorem KT.keeps{H H':Hp}{kvs:List (List Key×V)}{xs:List (List Key×Addr×Value)}(r:KT H kvs xs)(ht:∀ b ys,H b=some (.tup ys)→H' b=some (.tup ys)):KT H' kvs xs :=
 Paired.mapP r fun _ _ z=>⟨z.1,ht _ _ z.2.1,z.2.2⟩
section
variable {P:Program}{w:World}{H:Hp}{h:Heap}{a:Addr}
theorem uY{u:HO}(ok:HOk P w H h)(e:Rd H a u):ObjOk P w H h a u:=e.ok ok
theorem kq{kvs:List (Key×V)}(ok:HOk P w H h)(e:Rd H a (.dK kvs)):kvs.length≤sizeLine∧(a == sysModules)=false∧∃ vs,KV kvs vs∧h.DictOf (aZ P w) a vs :=
 show ObjOk P w H h a (.dK kvs) from uY ok e
theorem wS{kvs:List (Key×V)}(ok:HOk P w H h)(e:H a=some (.dK kvs)):kvs.length≤sizeLine∧(a == sysModules)=false∧∃ vs,KV kvs vs∧h.DictOf (aZ P w) a vs:=kq ok (.inl e)
theorem ij{ks:List Key}(ok:HOk P w H h)(e:H a=some (.tup (ks.map kV))):(tupleKind (aZ P w)).is h ks a:=by
 obtain ⟨_,its,r,o,h1,h2,n,h3⟩:=(show ObjOk P w H h a (.tup (ks.map kV)) from ok a _ e)
 exact ⟨o,its.toArray,n,h1,h2,h3,by simpa using i7 r⟩
theorem iZ{kvs:List (List Key×V)}(ok:HOk P w H h)(e:Rd H a (.dT kvs)):kvs.length≤sizeLine∧(a == sysModules)=false ∧
  ∃ xs,KT H kvs xs∧h.DictOfH (tupleKind (aZ P w)) a xs:=by
 obtain ⟨z,y,xs,r,o,es,ep,h1,h2,h3,h4,h5⟩:=(show ObjOk P w H h a (.dT kvs) from uY ok e)
 refine ⟨z,y,xs,r,o,es,ep,h1,h2,h3,h4,fun x hx=>?_,h5⟩
 have all:∀{l:List (List Key×V)}{m:List (List Key×Addr×Value)},KT H l m→∀ x∈m,(tupleKind (aZ P w)).is h x.1 x.2.1:=by
  intro l m q
  induction q with
  | nil=>intro x hx; exact nomatch hx
  | @cons p q ps qs hq t ih =>
   intro x hx
   rcases mem_cons.mp hx with e | hx
   ·subst e
    exact ij ok (by rw[← hq.1]; exact hq.2.1)
   ·exact ih x hx
 exact all r x hx
theorem rq{kvs:List (List Key×V)}(ok:HOk P w H h)(e:H a=some (.dT kvs)):kvs.length≤sizeLine∧(a == sysModules)=false ∧
  ∃ xs,KT H kvs xs∧h.DictOfH (tupleKind (aZ P w)) a xs:=iZ ok (.inl e)
end
def pW(H:Hp)(a:Addr)(y:V)(r:Option V):Prop :=
 (∃ kvs k,Rd H a (.dK kvs)∧y=kV k∧r=cf kvs k)∨∃ kvs k b,Rd H a (.dT kvs)∧y=.ref b∧H b=some (.tup (k.map kV))∧r=cf kvs k
def wz(H:Hp)(a:Addr)(y v:V)(H':Hp):Prop :=
 (∃ kvs k,H a=some (.dK kvs)∧y=kV k∧kvs.length<sizeLine∧H'=upd H a (.dK (dI kvs k v))) ∨
 ∃ kvs k b,H a=some (.dT kvs)∧y=.ref b∧H b=some (.tup (k.map kV))∧kvs.length<sizeLine∧H'=upd H a (.dT (dI kvs k v))
section
variable {X:Cx}{pins:List (Addr×Obj)}{σ:St}{H:Hp}{s:Shared}{a:Addr}{y v:V}{u r:Value}{o:Option V}{A:Around}{E:Value→Shared→Prop}
theorem Inv.big(I:Inv X pins σ H s):sysModules<s.heap.objs.size:=by
 have h:mainGlobals<s.heap.objs.size:=(I.mod.glob.keeps I.bk).lt
 exact Nat.lt_trans (by decide) h
theorem o8{Q:Value→Shared→Prop}(hu:A.units+1<cLine)(I:Inv X pins σ H s)(g:pW H a y (some v))(ry:RelV y u)(h:∀ w' s',Inv X pins σ H s'→RelV v w'→Q w' s') :
  wpAny (model X.prog X.w) A (getItem (.ref a) u) Q E s:=by
 rcases g with ⟨kvs,k,e,ey,l⟩ | ⟨kvs,k,b,e,ey,eb,l⟩
 ·subst ey
  obtain ⟨z,hd,vs,rel,dd⟩:=kq I.hok e
  obtain ⟨w',hw,rw'⟩:=RelO.some_of (v:=v) (o:=valueAt vs k) (by rw[l]; exact rel.val k)
  exact wpAny_getItem_of (nJ ry) dd.mapOf hw (h w' _ (I.tok _) rw')
 ·subst ey
  cases (show u=Value.ref b from ry)
  obtain ⟨z,hd,xs,rel,dd⟩:=iZ I.hok e
  obtain ⟨w',hw,rw'⟩:=RelO.some_of (v:=v) (o:=(atKey xs k).map (·.2)) (by rw[l]; exact rel.val k)
  obtain ⟨p,hp,hp2⟩:=Option.map_eq_some_iff.mp hw
  refine wpAny_getItem_heap (tupleKind_room_in1 hu) (ij I.hok eb) dd hp ?_
  rw[hp2]
  exact h w' _ (I.tok _) rw'
theorem jA{h':Heap}{t':Nat}{ob:HO}(I:Inv X pins σ H s)(mu:Mut (H a))(hs:Heap.SameBut a s.heap h')(he:∃ q,h'.get? a=some q)(new:ObjOk X.prog X.w (upd H a ob) h' a ob) :
  Inv X pins σ (upd H a ob) { s with heap:=h',toks:=t' } :=
 I.write (x:=a) (e:=a) mu (.inl rfl) (fun b q hb z=>(hs.2 b hb).trans z) he new
theorem wo{P:Program}{w:World}{H':Hp}{h':Heap}{kvs:List (Key×V)}{vs:List (Key×Value)}(z:kvs.length≤sizeLine)(hd:(a == sysModules)=false)(rel:KV kvs vs)(dd:h'.DictOf (aZ P w) a vs) :
  ObjOk P w H' h' a (.dK kvs):=⟨z,hd,vs,rel,dd⟩
theorem oF{H':Hp}{Q:Unit→Shared→Prop}(hu:A.units+1<cLine)(I:Inv X pins σ H s)(g:wz H a y v H')(ry:RelV y u)(rv:RelV v r)(h:∀ s',Inv X pins σ H' s'→Q () s') :
  wpAny (model X.prog X.w) A (setItem (.ref a) u r) Q E s:=by
 rcases g with ⟨kvs,k,e,ey,l,eH⟩ | ⟨kvs,k,b,e,ey,eb,l,eH⟩
 ·subst ey eH
  obtain ⟨z,hd,vs,rel,dd⟩:=wS I.hok e
  have hz:vs.length≤sizeLine:=by rw[← rel.length]; exact z
  have hl:(dI kvs k v).length≤sizeLine:=by have:=eE kvs k v; lia
  refine wpAny_setItem_pairs (hsz:=hz) (nJ ry) dd fun h' dd' hs=>h _ ?_
  have he:∃ q,h'.get? a=some q:=let ⟨q,_,_,hq,_⟩:=dd'; ⟨q,hq⟩
  exact jA I (by rw[e]; exact True.intro) hs he (wo hl hd (rel.put k rv) dd')
 ·subst ey eH
  cases (show u=Value.ref b from ry)
  obtain ⟨z,hd,xs,rel,dd⟩:=rq I.hok e
  have hz:xs.length≤sizeLine:=by rw[← Paired.length rel]; exact z
  have hl:(dI kvs k v).length≤sizeLine:=by have:=eE kvs k v; lia
  refine wpAny_setItem_heap (hsz:=hz) (tupleKind_room_in1 hu) (ij I.hok eb) dd fun h' dd' hs=>h _ ?_
  obtain ⟨q,es,ep,hq,h2,h3,h4,_,h5⟩:=dd'
  refine jA I (by rw[e]; exact True.intro) hs ⟨q,hq⟩ ⟨hl,hd,_,(rel.put k eb rv).keeps fun c ys ec=>?_,q,es,ep,hq,h2,h3,h4,h5⟩
  rw[ag (ce ec e (fun z=>nomatch z))]
  exact ec
end
section
variable {X:Cx}{pins:List (Addr×Obj)}{σ:St}{H:Hp}{s:Shared}{a:Addr}{kvs:List (Key×V)}{k:Key}{u:Value}{A:Around}{E:Value→Shared→Prop}
end
def xq(i:Expr):Prop:=∀ ov iv,subscripted i false ov iv=operate [ov,iv] (getItem ov iv)
theorem uo{prog:Program}{w:World}{A:Around}{E:Value→Shared→Prop}{s:Shared}{env:Env}{value slice:Expr}{pos:Pos}{T id:String}{Q:Value→Shared→Prop}
  (hl:typeLookup (.type T) "__getitem__" = pure (some (.builtin id))) (hs:xq slice)
  (h:wpAny (model prog w) A (eval value env) (fun o s₁=>wpAny (model prog w) A (eval slice env) (fun i s₂=>s₂.TypeIs o T∧wpAny (model prog w) A (getItem o i) Q E s₂) E s₁) E s) :
  wpAny (model prog w) A (eval (.Subscript value slice pos) env) Q E s:=by
 refine Subscript_ (wpAny_mono h (fun o s₁ h₁=>wpAny_mono h₁ (fun i s₂ h₂=>?_) fun _ _ x=>x) fun _ _ x=>x)
 obtain ⟨hT,h₂⟩:=h₂
 unfold subscriptTail
 refine wpAny_bind ?_
 rw[getitemInPython_of_ne hT.not_modules]
 refine wpAny_bind (wpAny_specialOf hT hl ?_)
 have fin:wpAny (model prog w) A (subscripted slice false o i) (fun r s₃=>wpAny (model prog w) A (letTemporaryGo value o r >>= fun _=>pure r) Q E s₃) E s₂:=by
  rw[hs o i]
  exact wpAny_operating (wpAny_mono h₂ (fun r s₃ h₃=>wpAny_bind (wpAny_letTemporaryGo (wpAny_pure h₃))) fun _ _ x=>x)
 first
  | exact wpAny_pure (wpAny_bind fin)
  | exact wpAny_bind (wpAny_pure (wpAny_bind fin))
  | exact wpAny_bind fin
theorem kN{X:Cx}{pins:List (Addr×Obj)}{σ:St}{H:Hp}{s:Shared}{a:Addr}{y:V}{o:Option V}(I:Inv X pins σ H s)(g:pW H a y o):s.TypeIs (.ref a) "dict" := by
 rcases g with ⟨kvs,k,e,_,_⟩ | ⟨kvs,k,b,e,_,_,_⟩
 ·obtain ⟨_,_,vs,_,dd⟩:=kq I.hok e
  exact dd.typeIs
 ·obtain ⟨_,_,xs,_,dd⟩:=iZ I.hok e
  exact dd.typeIs
inductive rDGet(x y:V)(H:Hp)(Q:VK):Prop
 | mk(a:Addr)(v:V)(h0:x=.ref a)(h1:pW H a y (some v))(h2:Q v H):rDGet x y H Q
def wL(td ty:TE):TE:=fun σ H Q=>td σ H fun x H1=>ty σ H1 fun y H2=>rDGet x y H2 Q
def wC(td ty tv:TE):TS:=fun D σ H=>tv σ H fun v H1=>td σ H1 fun x H2=>ty σ H2 fun y H3=>∃ a H4,x=.ref a∧wz H3 a y v H4∧D.nx σ H4
section
variable {X:Cx}{o i e value:Expr}{pos pos' tpos:Pos}{td ty tv:TE}
theorem sJ(hu:X.A.units+1<cLine)(ho:PE X o td)(hi:PE X i ty)(hs:xq i):PE X (.Subscript o i pos) (wL td ty):=by
 intro pins s σ H Q I h
 refine uo PySem.F.slot_dict_getitem.lookup hs (thn (ho pins s σ H _ I h) fun u s1 ⟨x,H1,I1,rx,q1⟩=>thn (hi pins s1 σ H1 _ I1 q1) fun iv s2 ⟨y,H2,I2,ry,a,v,ex,g,q2⟩=>?_)
 subst ex
 obtain rfl:u=Value.ref a:=rx
 exact ⟨kN I2 g,o8 hu I2 g ry fun w' s3 I3 rw'=>⟨v,H2,I3,rw',q2⟩⟩
theorem nO(hu:X.A.units+1<cLine)(ho:PE X o td)(hi:PE X i ty)(hv:PE X value tv)(hs:swapsWith value (some (.Subscript o i pos')) pos.line X.env=pure false) :
  PS X (.Assign [.Subscript o i pos'] value pos) (wC td ty tv):=by
 intro pins s σ H D I h
 refine wpAny_Assign_Subscript (thn (hv pins s σ H _ I h) fun r s1 ⟨v,H1,I1,rv,q1⟩=>thn (ho pins s1 σ H1 _ I1 q1) fun u s2 ⟨x,H2,I2,rx,q2⟩=>thn (hi pins s2 σ H2 _ I2 q2) fun iv s3 ⟨y,H3,I3,ry,a,H4,ex,g,q3⟩=>?_) hs
 subst ex
 obtain rfl:u=Value.ref a:=rx
 exact oF hu I3 g ry rv fun s4 I4=>⟨σ,H4,I4,q3⟩
end
theorem r9{P:Program}{w:World}{H:Hp}(h:Heap)(hb:sysModules<h.objs.size):ObjOk P w H (h.push { cls:=.type "dict",data:=.dict #[] }) h.objs.size (.dT []) :=
 ⟨Nat.zero_le _,beq_eq_false_iff_ne.mpr (Ne.symm (Nat.ne_of_lt hb)),[],.nil,_,#[],0,Heap.get?_push_size _ rfl,⟨rfl,rfl,rfl⟩,rfl,rfl,nodup_nil⟩
def vW:TE:=fun _ H Q=>∀ p,H p=none→Q (.ref p) (upd H p (.dT []))
section
variable {X:Cx}{pos:Pos}
theorem hJ:PE X (.Dict [] [] pos) vW:=fun pins s σ H Q I h =>
 wpAny_Dict_empty ⟨.ref s.heap.objs.size,_,I.laid (a:=s.heap.objs.size) (o:=.dT []) (t':=s.toks) (fun _ _ q=>Heap.get?_push_of_some _ q) (Nat.le_refl _) (r9 s.heap I.big),rfl,h _ (I.hok.fresh (Nat.le_refl _))⟩
end
structure M2(X:Cx)(o:Expr)(m:Str)(apos:Pos)(e f:Expr)(cpos:Pos):Prop where
 base:attributeBase o m X.env (eval o X.env)=eval o X.env
 few:((backTo cpos (starEach [e,f] X.env)).all (fun x=>!x.1) && (backToKw cpos (keywordEach [] X.env)).all (fun x=>x.1.isSome)
  && decide (([e,f]:List Expr).length+([]:List Keyword).length+(if ([]:List Keyword).isEmpty then 0 else 1)<30))=true
 line:(apos.endLine == cpos.line)=true
 trees:backTo cpos (starEach [e,f] X.env)=[(false,eval e X.env),(false,eval f X.env)]
def IsD(H:Hp)(a:Addr):Prop:=(∃ kvs,Rd H a (.dK kvs))∨∃ kvs,Rd H a (.dT kvs)
theorem qd{X:Cx}{pins:List (Addr×Obj)}{σ:St}{H:Hp}{s:Shared}{a:Addr}(I:Inv X pins σ H s)(d:IsD H a) :
  s.TypeIs (.ref a) "dict" ∧ (∀ b,Value.ref a=.ref b→∃ ob,s.heap.get? b=some ob∧ob.dict=none)∧(a == sysModules)=false:=by
 rcases d with ⟨kvs,e⟩ | ⟨kvs,e⟩
 ·obtain ⟨_,hd,vs,_,dd⟩:=kq I.hok e
  refine ⟨dd.typeIs,fun b q=>?_,hd⟩
  cases q
  obtain ⟨ob,_,_,h1,h2,_⟩:=dd
  exact ⟨ob,h1,h2.2.1⟩
 ·obtain ⟨_,hd,xs,_,dd⟩:=iZ I.hok e
  refine ⟨dd.typeIs,fun b q=>?_,hd⟩
  cases q
  obtain ⟨ob,_,_,h1,h2,_⟩:=dd
  exact ⟨ob,h1,h2.2.1⟩
section
variable {X:Cx}{pins:List (Addr×Obj)}{σ:St}{H:Hp}{s:Shared}{a:Addr}{y d:V}{u r:Value}{o:Option V}{A:Around}{E:Value→Shared→Prop}
theorem v5{Q:Value→Shared→Prop}(hu:A.units+1<cLine)(I:Inv X pins σ H s)(g:pW H a y o)(ry:RelV y u)(rd:RelV d r)(h:∀ w' s',Inv X pins σ H s'→RelV (o.getD d) w'→Q w' s') :
  wpAny (model X.prog X.w) A (call (.builtin "dict.get") [.ref a,u,r]) Q E s:=by
 rcases g with ⟨kvs,k,e,ey,l⟩ | ⟨kvs,k,b,e,ey,eb,l⟩
 ·subst ey
  obtain ⟨z,hd,vs,rel,dd⟩:=kq I.hok e
  refine call_meetsIn PySem.F.slot_dict_get dd.typeIs PySem.F.entry_dict_get (PySem.F.args_dict_get_3 _ _ _) (meets_dict_get_default (aZ X.prog X.w) a (nJ ry) hd r) ⟨_,dd.mapOf,h _ _ (I.tok _) ?_⟩
  rw[l]
  exact (rel.val k).getD rd
 ·subst ey
  cases (show u=Value.ref b from ry)
  obtain ⟨z,hd,xs,rel,dd⟩:=iZ I.hok e
  refine call_meetsIn PySem.F.slot_dict_get dd.typeIs PySem.F.entry_dict_get (PySem.F.args_dict_get_3 _ _ _) (meetsH_dict_get_default (tupleKind (aZ X.prog X.w)) a b hd r) ⟨tupleKind_room_in1 hu,k,xs,ij I.hok eb,dd,h _ _ (I.tok _) ?_⟩
  rw[l]
  exact (rel.val k).getD rd
end
def vu(td ty tx:TE):TE:=fun σ H Q=>td σ H fun x H1=>∃ a,x=.ref a∧IsD H1 a∧ty σ H1 fun y H2=>tx σ H2 fun z H3=>∃ o,pW H3 a y o∧Q (o.getD z) H3
section
variable {X:Cx}{o e f:Expr}{apos cpos:Pos}{td ty tx:TE}
theorem iK(hu:X.A.units+1<cLine)(ho:PE X o td)(he:PE X e ty)(hf:PE X f tx)(m:M2 X o "get" apos e f cpos):PE X (.Call (.Attribute o "get" apos) [e,f] [] cpos) (vu td ty tx):=by
 intro pins s σ H Q I h
 refine wpAny_Call_method m.base m.few m.line PySem.F.plainAttrs_dict PySem.F.slot_dict_get PySem.F.type_dict_get (thn (ho pins s σ H _ I h) fun u s1 ⟨x,H1,I1,rx,a,ex,d,q1⟩=>?_)
 subst ex
 obtain rfl:u=Value.ref a:=rx
 obtain ⟨t1,t2,_⟩:=qd I1 d
 refine ⟨t1,t2,?_⟩
 rw[m.trees]
 refine Calls.callWith_builtin rfl (Calls.evalArgs_plain (Calls.spliced_cons (thn (he pins s1 σ H1 _ I1 q1) fun iv s2 ⟨y,H2,I2,ry,q2⟩ =>
  Calls.spliced_cons (thn (hf pins s2 σ H2 _ I2 q2) fun fv s3 ⟨z,H3,I3,rz,ov,g,q3⟩=>Calls.spliced_nil ?_))))
 exact v5 hu I3 g ry rz fun w' s4 I4 rw'=>⟨_,H3,I4,rw',q3⟩
end
section
variable {X:Cx}{pins:List (Addr×Obj)}{σ:St}{H:Hp}{s:Shared}{a:Addr}{kvs:List (Key×V)}{A:Around}{E:Value→Shared→Prop}
end
section
variable {X:Cx}{pins:List (Addr×Obj)}{σ:St}{H:Hp}{s:Shared}{a:Addr}{y:V}{u:Value}{A:Around}{E:Value→Shared→Prop}
end
theorem OpR.imp{X:Cx}{f:Value→Value→Sem Value}{r r':R2}(h:OpR X f r)(i:∀ x y H Q,r' x y H Q→r x y H Q):OpR X f r' :=
 fun pins s σ H x y v u Q I rx ry q=>h pins s σ H x y v u Q I rx ry (i x y H Q q)
theorem CallR.imp{X:Cx}{f:Value}{r r':List V→Hp→VK→Prop}(h:CallR X f r)(i:∀ xs H Q,r' xs H Q→r xs H Q):CallR X f r' :=
 fun pins s σ H xs us Q I rs q=>h pins s σ H xs us Q I rs (i xs H Q q)
def tV(i:Nat):TE:=fun σ H Q=>match σ[i]? with
 | some (some v)=>Q v H
 | _=>False
theorem vr{X:Cx}(i:Nat){x:Str}{pos:Pos}(hN:X.N[i]? = some x:=by rfl)(hv:Vis X.env.scope x:=by first | exact Or.inl rfl | exact Or.inr (Or.inl rfl) | exact Or.inr (Or.inr rfl))(hd:(x == ("__debug__" : Str))=false:=by decide)
  (hcd:(x == ("__classdict__" : Str))=false:=by decide):PE X (.Name x pos) (tV i):=fun pins s σ H Q I h=>by
 refine vt hN hv hd hcd pins s σ H Q I ?_
 unfold tV at h
 split at h
 ·rename_i v e
  exact ⟨v,e,h⟩
 ·exact h.elim
def rI2(g:Int→Int→V):R2:=fun x y H Q=>match x,y with
 | .int i,.int j=>Q (g i j) H
 | _,_=>False
def rIC(C:Int→Int→Prop)(g:Int→Int→V):R2:=fun x y H Q=>match x,y with
 | .int i,.int j=>C i j∧Q (g i j) H
 | _,_=>False
theorem OpR.i2{X:Cx}{f:Value→Value→Sem Value}{g:Int→Int→V}(h:OpR X f (rI0 g)):OpR X f (rI2 g):=h.imp fun x y H Q q=>by
 cases x <;> cases y <;> first | exact ⟨_,_,rfl,rfl,q⟩ | exact (show False from q).elim
theorem OpR.ic{X:Cx}{f:Value→Value→Sem Value}{C:Int→Int→Prop}{g:Int→Int→V}(h:OpR X f (rI C g)):OpR X f (rIC C g):=h.imp fun x y H Q q=>by
 cases x <;> cases y <;> first | exact ⟨_,_,rfl,rfl,q.1,q.2⟩ | exact (show False from q).elim
section
variable {X:Cx}
def xz:R2:=fun x y H Q=>match x,y with
 | .int i,.int j=>Q (.int (i+j)) H
 | .str i,.str j=>i.length+j.length≤sizeLine∧Q (.str (i++j)) H
 | _,_=>False
theorem dD:OpR X (binaryOp .Add) xz:=(op_add.or lU).imp fun x y H Q q=>by
 cases x <;> cases y <;> first | exact .inl ⟨_,_,rfl,rfl,q⟩ | exact .inr ⟨_,_,rfl,rfl,q.1,q.2⟩ | exact (show False from q).elim
theorem xg:OpR X (binaryOp .Sub) (rI2 fun i j=>.int (i - j)):=op_sub.i2
def wI(i j:Int):Prop:=0<j
def CNn(i j:Int):Prop:=0≤j
theorem cp{i j:Int}(h:0<j:=by decide):wI i j:=h
theorem cn{i j:Int}(h:0≤j:=by decide):CNn i j:=h
theorem cd{i j:Int}(h:0<j:=by decide)(h2:j<1073741824:=by decide):ye i j:=⟨h,h2⟩
theorem cw{i j:Int}(h:0≤j:=by decide)(h2:j≤1000000:=by decide)(h3:i.natAbs<2 ^ 64:=by decide):vh i j:=⟨h,h2,h3⟩
theorem cl{i j:Int}(h:-(2 ^ 64)<i:=by decide)(h2:i<2 ^ 64:=by decide):CMul i j:=.inl ⟨h,h2⟩
theorem cr{i j:Int}(h:-(2 ^ 64)<j:=by decide)(h2:j<2 ^ 64:=by decide):CMul i j:=.inr ⟨h,h2⟩
theorem dM:OpR X (binaryOp .Mod) (rIC wI fun i j=>.int (i % j)):=op_mod.ic
theorem uF:OpR X (binaryOp .Pow) (rIC vh fun i j=>.int (i ^ j.toNat)):=op_pow.ic
theorem wJ:OpR X (binaryOp .RShift) (rIC CNn fun i j=>.int (i/2 ^ j.toNat)):=op_shr.ic
def wv(f:Int→Int→Bool)(g:Str→Str→Bool):R2:=fun x y H Q=>match x,y with
 | .int i,.int j=>Q (.bl (f i j)) H
 | .str i,.str j=>Q (.bl (g i j)) H
 | _,_=>False
theorem xb:OpR X (compareOp .Lt) (wv (fun i j=>decide (i<j)) fun i j=>decide (i.cps.toList<j.cps.toList)):=(op_lt.or o9).imp fun x y H Q q=>by
 cases x <;> cases y <;> first | exact .inl ⟨_,_,rfl,rfl,q⟩ | exact .inr ⟨_,_,rfl,rfl,q⟩ | exact (show False from q).elim
theorem ut:OpR X (compareOp .Gt) (rI2 fun i j=>.bl (decide (j<i))):=op_gt.i2
def tM(neg:Bool):R2:=fun x y H Q=>match x,y with
 | .int i,.int j=>Q (.bl (if neg then !decide (i=j) else decide (i=j))) H
 | .str i,.str j=>Q (.bl (if neg then !decide (i=j) else decide (i=j))) H
 | .bl i,.bl j=>Q (.bl (if neg then !decide (i=j) else decide (i=j))) H
 | .non,.non=>Q (.bl (!neg)) H
 | .non,.int _=>Q (.bl neg) H
 | .non,.str _=>Q (.bl neg) H
 | .non,.bl _=>Q (.bl neg) H
 | .int _,.non=>Q (.bl neg) H
 | .str _,.non=>Q (.bl neg) H
 | .bl _,.non=>Q (.bl neg) H
 | .int _,.str _=>Q (.bl neg) H
 | .str _,.int _=>Q (.bl neg) H
 | _,_=>False
theorem oK:OpR X (compareOp .Eq) (tM false):=op_eq.imp fun x y H Q q=>by
 cases x <;> cases y <;> first | exact (show False from q).elim | (refine ⟨rfl,?_⟩; revert q; simp[tM])
theorem wA:OpR X (compareOp .NotEq) (tM true):=op_ne.imp fun x y H Q q=>by
 cases x <;> cases y <;> first | exact (show False from q).elim | (refine ⟨rfl,?_⟩; revert q; simp[tM])
def rU1(g:Int→V):V→Hp→VK→Prop:=fun x H Q=>match x with
 | .int i=>Q (g i) H
 | _=>False
theorem uI:UnR X (unaryOp .USub) (rU1 fun i=>.int (-i)):=fun pins s σ H x v Q I r q=>vM pins s σ H x v Q I r (by
 cases x <;> first | exact ⟨_,rfl,q⟩ | exact (show False from q).elim)
def mB(Q:Bool→Hp→Prop):VK:=fun x H=>match x with
 | .bl c=>Q c H
 | _=>False
variable {a b c:Expr}{ta tb tc:TE}{pos:Pos}{rest:List Expr}
def xK(ta tb:TE):TE:=fun σ H Q=>ta σ H (mB fun c H1=>if c=true then tb σ H1 Q else Q (.bl false) H1)
def mOr(ta tb:TE):TE:=fun σ H Q=>ta σ H (mB fun c H1=>if c=true then Q (.bl true) H1 else tb σ H1 Q)
def xR(ta:TE):TE:=fun σ H Q=>ta σ H (mB fun c H1=>Q (.bl (!c)) H1)
theorem iJ{Q:Bool→Hp→Prop}{x:V}{H:Hp}(h:mB Q x H):∃ c,x=.bl c∧Q c H:=by
 cases x <;> first | exact ⟨_,rfl,h⟩ | exact (show False from h).elim
theorem wG(ha:PE X a ta)(hb:PE X (.BoolOp .And (b::rest) pos) tb):PE X (.BoolOp .And (a::b::rest) pos) (xK ta tb):=by
 intro pins s σ H Q I h
 refine BoolOp_and (thn (ha pins s σ H _ I h) fun v s1 ⟨x,H1,I1,r1,q1⟩=>?_)
 obtain ⟨c,rfl,q1⟩:=iJ q1
 cases r1
 refine wpAny_truthy_bool ?_
 cases c with
 | true=>exact hb pins s1 σ H1 Q I1 q1
 | false=>exact ⟨.bl false,H1,I1,rfl,q1⟩
theorem xU(ha:PE X a ta)(hb:PE X (.BoolOp .Or (b::rest) pos) tb):PE X (.BoolOp .Or (a::b::rest) pos) (mOr ta tb):=by
 intro pins s σ H Q I h
 refine BoolOp_or (thn (ha pins s σ H _ I h) fun v s1 ⟨x,H1,I1,r1,q1⟩=>?_)
 obtain ⟨c,rfl,q1⟩:=iJ q1
 cases r1
 refine wpAny_truthy_bool ?_
 cases c with
 | false=>exact hb pins s1 σ H1 Q I1 q1
 | true=>exact ⟨.bl true,H1,I1,rfl,q1⟩
theorem xi(ha:PE X a ta):PE X (.UnaryOp .Not a pos) (xR ta):=by
 intro pins s σ H Q I h
 refine UnaryOp_ (thn (ha pins s σ H _ I h) fun v s1 ⟨x,H1,I1,r1,q1⟩=>?_)
 obtain ⟨c,rfl,q1⟩:=iJ q1
 cases r1
 exact not_of (wpAny_truthy_bool ⟨.bl (!c),H1,I1,rfl,q1⟩)
def mT(t:TE):TT:=fun σ H Q=>t σ H (mB Q)
theorem eF(h:PE X a ta)(he:∀ whole,isTrue a X.env whole=(do let v ← whole; standAt a.pos; holding [v] (truthy v)):=by intro _; rfl):PT X a (mT ta):=by
 intro pins s σ H Q I hw
 refine isTrue_plain (thn (h pins s σ H _ I hw) fun v s1 ⟨x,H1,I1,r1,q1⟩=>?_) (he _)
 obtain ⟨d,rfl,q⟩:=iJ q1
 cases r1
 exact wpAny_truthy_bool ⟨H1,I1,q⟩
theorem cJ{op:CmpOp}{r:R2}(ho:OpR X (compareOp op) r)(ha:PE X a ta)(hb:PE X b tb)(hm:behindInMarks op b=false):PT X (.Compare a [op] [b] pos) (mT (tOp r ta tb)):=by
 intro pins s σ H Q I h
 refine wpAny_isTrue_Compare1 (thn (ha pins s σ H _ I h) fun v s1 ⟨x,H1,I1,r1,q1⟩=>thn (hb pins s1 σ H1 _ I1 q1) fun u s2 ⟨y,H2,I2,r2,q2⟩ =>
  thn (ho pins s2 σ H2 x y v u _ I2 r1 r2 q2) fun c s3 ⟨z,H3,I3,r3,q3⟩=>?_) hm
 obtain ⟨k,rfl,q3⟩:=iJ q3
 cases r3
 exact wpAny_truthy_bool ⟨H3,I3,q3⟩
open PySem.W in
theorem qt{pins:List (Addr×Obj)}{σ:St}{H:Hp}{s:Shared}{x:V}{u t:Value}(I:Inv X pins σ H s)(rx:RelV x u)(ty:TyOf X.K H x t) :
  ∃ Hh:Heap→Prop,KitX X.K u t Hh∧Hh s.heap∧u≠.builtin "__main__.__loader__#opaque" := by
 cases ty with
 | non=>cases (show u=Value.none from rx); exact ⟨_,PySem.W.kitx_none,True.intro,fun z=>nomatch z⟩
 | bl y=>cases (show u=Value.bool y from rx); exact ⟨_,PySem.W.kitx_bool,True.intro,fun z=>nomatch z⟩
 | int i=>obtain ⟨t,q⟩:=(show ∃ t,u=Value.int i t from rx); cases q; exact ⟨_,PySem.W.kitx_int,True.intro,fun z=>nomatch z⟩
 | str y=>obtain ⟨t,q⟩:=(show ∃ t,u=Value.str y t from rx); cases q; exact ⟨_,PySem.W.kitx_str,True.intro,fun z=>nomatch z⟩
 | flt y=>obtain ⟨t,q⟩:=(show ∃ t,u=Value.float y t from rx); cases q; exact ⟨_,PySem.W.kitx_float,True.intro,fun z=>nomatch z⟩
 | @lst a xs ea =>
  cases (show u=Value.ref a from rx)
  obtain ⟨_,_,n,_,h1⟩:=(show ObjOk X.prog X.w H s.heap a (.lst xs) from I.hok a _ ea)
  exact ⟨_,kitx_list,⟨_,h1,rfl⟩,fun z=>nomatch z⟩
 | @frz a ob xs ea =>
  cases (show u=Value.ref a from rx)
  obtain ⟨_,_,_,n,_,h1⟩:=(show ObjOk X.prog X.w H s.heap a (.frz ob (.lst xs)) from I.hok a _ ea)
  exact ⟨_,kitx_list,⟨_,h1,rfl⟩,fun z=>nomatch z⟩
 | @tup a xs ea =>
  cases (show u=Value.ref a from rx)
  obtain ⟨_,_,_,p⟩:=(show ObjOk X.prog X.w H s.heap a (.tup xs) from I.hok a _ ea)
  obtain ⟨o,h1,h2,_⟩:=p
  exact ⟨_,kitx_tuple,⟨o,h1,h2⟩,fun z=>nomatch z⟩
 | @dK a kvs ea =>
  cases (show u=Value.ref a from rx)
  obtain ⟨_,_,vs,_,p⟩:=(show ObjOk X.prog X.w H s.heap a (.dK kvs) from I.hok a _ ea)
  obtain ⟨o,es,ep,h1,h2,_⟩:=p
  exact ⟨_,kitx_dict,⟨o,h1,h2.1⟩,fun z=>nomatch z⟩
 | @dT a kvs ea =>
  cases (show u=Value.ref a from rx)
  obtain ⟨_,_,xs,_,o,es,ep,h1,h2,_⟩:=(show ObjOk X.prog X.w H s.heap a (.dT kvs) from I.hok a _ ea)
  exact ⟨_,kitx_dict,⟨o,h1,h2.1⟩,fun z=>nomatch z⟩
 | @ins a C dx fs ea cl ha hn htk hm =>
  cases (show u=Value.ref a from rx)
  obtain ⟨mA,O,_⟩:=gO I.hok ea
  obtain ⟨od,J,_⟩:=O.look
  exact ⟨_,PySem.W.kitx_own (cl.get _) cl.hd ha hn htk hm,J,fun z=>nomatch z⟩
def vH:V→Value
 | .ty n=>.type n
 | .ref a=>.ref a
 | _=>.none
def rg:V→Bool
 | .ty _=>true
 | .ref _=>true
 | _=>false
theorem nE{c:V}{u:Value}(h:rg c=true)(r:RelV c u):u=vH c:=by
 cases c <;> first | exact r | exact absurd (show false=true from h) Bool.false_ne_true
inductive rIsi(K:Frag)(xs:List V)(H:Hp)(Q:VK):Prop
 | mk(x c:V)(t:_)(b:Bool)(h0:xs=[x,c])(h1:rg c=true)(h2:TyOf K H x t)(h3:kitOne K t (vH c)=some b)(h4:Q (.bl b) H):rIsi K xs H Q
theorem dO:CallR X (.builtin "isinstance") (rIsi X.K):=by
 intro pins s σ H xs us Q I r h
 obtain ⟨x,c,t,b,rfl,hc,ty,e,q⟩:=h
 obtain ⟨u,w',rfl,rx,rc⟩:=rK r
 cases nE hc rc
 obtain ⟨Hh,Z,p,hx⟩:=qt I rx ty
 exact kia_one Z I.kIn p e hx fun tk=>⟨.bl b,H,I.tok tk,rfl,q⟩
end
theorem ifP{c:Prop}[Decidable c]{A B:Prop}(hc:c)(h:A):if decide c=true then A else B:=by rw[if_pos (decide_eq_true hc)]; exact h
theorem ifN{c:Prop}[Decidable c]{A B:Prop}(hc:¬c)(h:B):if decide c=true then A else B:=by rw[if_neg (fun z=>hc (of_decide_eq_true z))]; exact h
theorem ifC{c:Prop}[Decidable c]{A B:Prop}(h1:c→A)(h2:¬c→B):if decide c=true then A else B:=by
 by_cases h:c
 ·exact ifP h (h1 h)
 ·exact ifN h (h2 h)
theorem ifB{b:Bool}{A B:Prop}(h1:b=true→A)(h2:b=false→B):if b=true then A else B:=by
 cases b with
 | true=>rw[if_pos rfl]; exact h1 rfl
 | false=>rw[if_neg Bool.false_ne_true]; exact h2 rfl
theorem qD{α:Type}{xs:List α}{i:Int}(h0:0≤i)(h1:i<xs.length):∃ c,c∈xs∧atI xs i=some c:=by
 have hk:i.toNat<xs.length:=by lia
 refine ⟨xs[i.toNat],getElem_mem hk,?_⟩
 have e:((i.toNat:Nat):Int)=i:=by lia
 have:=cN (xs:=xs) (j:=i.toNat) (v:=xs[i.toNat]) (by simp[hk])
 rwa [e]at this
theorem jw:bootBuiltins "len" = some (.builtin "len"):=by decide +kernel
theorem bB:bootBuiltins "isinstance" = some (.builtin "isinstance"):=by decide +kernel
theorem vq:bootBuiltins "zip" = some (.type "zip"):=by decide +kernel
theorem rJ:bootBuiltins "int" = some (.type "int"):=by decide +kernel
theorem ud:bootBuiltins "bool" = some (.type "bool"):=by decide +kernel
theorem dg:bootBuiltins "list" = some (.type "list"):=by decide +kernel
theorem fA:bootBuiltins "tuple" = some (.type "tuple"):=by decide +kernel
theorem xf{X:Cx}{x:Str}{v:V}{pos:Pos}(hg:Gl X x)(h:∃ u,X.mg x=some u∧RelV v u)(hd:(x == ("__debug__" : Str))=false:=by decide):PE X (.Name x pos) (tC v) :=
 let ⟨_,e,r⟩:=h
 ug hg e r hd
def xN(K:Frag)(tl:TE):TI:=fun σ H R=>tl σ H fun x H1=>match x with
 | .str z=>R (Its z) H1
 | .ref a=>((∃ xs,SqL K H1 a xs)∧R (Itl K a) H1)∨((∃ xs,SqT K H1 a xs)∧R (Itt K a) H1)
 | _=>False
theorem aY{X:Cx}{tg l:Expr}{tl:TE}(hl:PE X l tl):PI X tg l (xN X.K tl):=by
 intro pins s σ H R I h
 have hl1:PE X l tl:=hl
 refine thn (hl pins s σ H _ I h) fun v s1 ⟨x,H1,I1,r1,q1⟩=>?_
 cases x with
 | str z =>
  have:=vB (X:=X) (tg:=tg) (l:=l) (tl:=tC (.str z))
  obtain ⟨t,rfl⟩:=r1
  refine wpAny_pyIter_strU ?_
  refine ⟨s1.heap.objs.size,[s1.heap.objs.size],_,_,H1,rfl,I1.kept (t':=s1.toks) fun b o e=>Heap.get?_push_of_some _ e,kX (ty:=strIterType z) (t:=t) z _ ?_,⟨_,Heap.get?_push_size _ rfl,rfl,rfl⟩,fun b hb=>?_,q1⟩
  ·unfold strIterType
   split
   ·exact .inl rfl
   ·exact .inr rfl
  ·have e:b=s1.heap.objs.size:=by simpa using hb
   subst e
   exact I1.fpOk (Nat.le_refl _) (I1.hok.fresh (Nat.le_refl _))
 | ref a =>
  cases r1
  rcases q1 with ⟨⟨xs,hq⟩,q⟩ | ⟨⟨xs,hq⟩,q⟩
  ·obtain ⟨its,rv,p,hz⟩:=I1.list hq
   refine wpAny_pyIter_list p.isList ?_
   refine ⟨s1.heap.objs.size,[s1.heap.objs.size],_,_,H1,rfl,I1.kept (t':=s1.toks) fun b o e=>Heap.get?_push_of_some _ e,oQ a _,⟨_,Heap.get?_push_size _ rfl,rfl,rfl⟩,fun b hb=>?_,q⟩
   have e:b=s1.heap.objs.size:=by simpa using hb
   subst e
   exact I1.fpOk (Nat.le_refl _) (I1.hok.fresh (Nat.le_refl _))
  ·obtain ⟨its,rv,p,hz⟩:=I1.tuple hq
   refine wpAny_pyIter_tuple (show s1.heap.IsTuple a its.toArray from p) ?_
   refine ⟨s1.heap.objs.size,[s1.heap.objs.size],_,_,H1,rfl,I1.kept (t':=s1.toks) fun b o e=>Heap.get?_push_of_some _ e,mz a _,⟨_,Heap.get?_push_size _ rfl,rfl,rfl⟩,fun b hb=>?_,q⟩
   have e:b=s1.heap.objs.size:=by simpa using hb
   subst e
   exact I1.fpOk (Nat.le_refl _) (I1.hok.fresh (Nat.le_refl _))
 | _=>exact (show False from q1).elim
inductive rLenSq(K:Frag)(p:Addr)(H:Hp)(Q:VK):Prop
 | mk(ys:List V)(h0:SqL K H p ys∨SqT K H p ys)(h1:Q (.int ys.length) H):rLenSq K p H Q
theorem eU{X:Cx}:CallR X (.builtin "len") (fun xs H Q=>match xs with
  | [.str z]=>z.length≤sizeLine∧Q (.int z.length) H
  | [.ref p]=>rLenSq X.K p H Q
  | _=>False):=(call_len_str.or jt).imp fun xs H Q q=>by
 match xs,q with
 | [.str z],q=>exact .inl ⟨z,rfl,q.1,q.2⟩
 | [.ref p],q=>obtain ⟨ys,h,q⟩:=q; exact .inr ⟨p,ys,rfl,h,q⟩
section
variable {D:Addr}{σb:St}{g:TG}{tt:TT}{te:TE}{Q:Hp→List V→Prop}{H:Hp}{K:Frag}
def rL(D:Addr)(σb:St)(g:TG)(tt:TT)(te:TE)(x:V)(ys:List V)(H:Hp)(P:List V→Hp→Prop):Prop :=
 g x σb H fun σ4 H4=>Wk σb σ4∧tt σ4 H4 fun b H5=>if b=true then te σ4 H5 fun y H6=>H6 D=some (.lst ys)∧ys.length<sizeLine∧P (ys++[y]) (upd H6 D (.lst (ys++[y]))) else P ys H5
theorem bK{a:Addr}{xs:List V}(Pv:Nat→List V→Hp→Prop)(h0:Pv 0 [] H)(hq:∀ i ys H,Pv i ys H→SqL K H a xs)(hl:∀ i ys H,Pv i ys H→H D=some (.lst ys))
  (hs:∀(i:Nat) x ys H P,xs[i]? = some x→Pv i ys H→(∀ a b,Pv (i+1) a b→P a b)→rL D σb g tt te x ys H P) (hd:∀ ys H,Pv xs.length ys H→Q H ys):∃ W,(∃ m,W 0 m [] H)∧jg (Itl K a) D σb g tt te Q W:=by
 refine ⟨fun i m ys H=>m=xs.length - i∧i≤xs.length∧Pv i ys H,⟨_,rfl,Nat.zero_le _,h0⟩,?_⟩
 rintro i m ys H ⟨rfl,hi,p⟩
 refine ⟨hl i ys H p,?_⟩
 have q:=hq i ys H p
 by_cases hlt:i<xs.length
 ·refine .inr ⟨⟨xs,xs[i],q,by simp[hlt]⟩,fun x H3 y=>?_⟩
  obtain ⟨rfl,y⟩:=y
  exact hs i x ys _ (fun a b=>∃ m',m'<xs.length - i∧m'=xs.length - (i+1)∧i+1≤xs.length∧Pv (i+1) a b) (y xs q) p (fun a b q=>⟨xs.length - (i+1),by lia,rfl,hlt,q⟩)
 ·have e:i=xs.length:=by lia
  subst e
  exact .inl ⟨⟨xs,q,Nat.le_refl _⟩,hd ys H p⟩
theorem ip{a:Addr}{xs:List V}(Pv:Nat→List V→Hp→Prop)(h0:Pv 0 [] H)(hq:∀ i ys H,Pv i ys H→SqT K H a xs)(hl:∀ i ys H,Pv i ys H→H D=some (.lst ys))
  (hs:∀(i:Nat) x ys H P,xs[i]? = some x→Pv i ys H→(∀ a b,Pv (i+1) a b→P a b)→rL D σb g tt te x ys H P) (hd:∀ ys H,Pv xs.length ys H→Q H ys):∃ W,(∃ m,W 0 m [] H)∧jg (Itt K a) D σb g tt te Q W:=by
 refine ⟨fun i m ys H=>m=xs.length - i∧i≤xs.length∧Pv i ys H,⟨_,rfl,Nat.zero_le _,h0⟩,?_⟩
 rintro i m ys H ⟨rfl,hi,p⟩
 refine ⟨hl i ys H p,?_⟩
 have q:=hq i ys H p
 by_cases hlt:i<xs.length
 ·refine .inr ⟨⟨xs,xs[i],q,by simp[hlt]⟩,fun x H3 y=>?_⟩
  obtain ⟨rfl,y⟩:=y
  exact hs i x ys _ (fun a b=>∃ m',m'<xs.length - i∧m'=xs.length - (i+1)∧i+1≤xs.length∧Pv (i+1) a b) (y xs q) p (fun a b q=>⟨xs.length - (i+1),by lia,rfl,hlt,q⟩)
 ·have e:i=xs.length:=by lia
  subst e
  exact .inl ⟨⟨xs,q,Nat.le_refl _⟩,hd ys H p⟩
theorem eC{lo:Int}{n:Nat}(Pv:Nat→List V→Hp→Prop)(h0:Pv 0 [] H)(hl:∀ i ys H,Pv i ys H→H D=some (.lst ys))
  (hs:∀(i:Nat) ys H P,i<n→Pv i ys H→(∀ a b,Pv (i+1) a b→P a b)→rL D σb g tt te (.int (lo+i)) ys H P) (hd:∀ ys H,Pv n ys H→Q H ys):∃ W,(∃ m,W 0 m [] H)∧jg (Itr lo n) D σb g tt te Q W:=by
 refine ⟨fun i m ys H=>m=n - i∧i≤n∧Pv i ys H,⟨_,rfl,Nat.zero_le _,h0⟩,?_⟩
 rintro i m ys H ⟨rfl,hi,p⟩
 refine ⟨hl i ys H p,?_⟩
 by_cases hlt:i<n
 ·refine .inr ⟨hlt,fun x H3 y=>?_⟩
  obtain ⟨rfl,rfl⟩:=y
  exact hs i ys _ (fun a b=>∃ m',m'<n - i∧m'=n - (i+1)∧i+1≤n∧Pv (i+1) a b) hlt p (fun a b q=>⟨n - (i+1),by lia,rfl,hlt,q⟩)
 ·have e:i=n:=by lia
  subst e
  exact .inl ⟨Nat.le_refl _,hd ys H p⟩
end
theorem Same.new{H:Hp}{p:Addr}{o:HO}(h:H p=none):Same H (upd H p o):=fun b u e=>by rw[ag (au e h)]; exact e
mutual
def DV(K:Frag)(H:Hp):PyData→V→Prop
 | .none,x=>x=.non
 | .bool b,x=>x=.bl b
 | .int i,x=>x=.int i
 | .str z,x=>x=.str z
 | .list ds,x=>∃ a xs,x=.ref a∧SqL K H a xs∧DVs K H ds xs
 | .tuple ds,x=>∃ a xs,x=.ref a∧SqT K H a xs∧DVs K H ds xs
 | .dict _,_=>False
def DVs(K:Frag)(H:Hp):List PyData→List V→Prop
 | [],xs=>xs=[]
 | d::ds,xs=>∃ y ys,xs=y::ys∧DV K H d y∧DVs K H ds ys
end
section
variable {X:Cx}{pins:List (Addr×Obj)}{σ:St}{H:Hp}{s:Shared}
mutual
theorem DV.reads(I:Inv X pins σ H s):∀{d:PyData}{x:V}{u:Value},DV X.K H d x→RelV x u→∃ as,Reads s.heap u d as
 | .none,x,u,h,r=>by
  rw[DV]at h; subst h; cases r; exact ⟨_,.none⟩
 | .bool b,x,u,h,r=>by
  rw[DV]at h; subst h; cases r; exact ⟨_,.bool b⟩
 | .int i,x,u,h,r=>by
  rw[DV]at h; subst h; obtain ⟨t,rfl⟩:=r; exact ⟨_,.int i t⟩
 | .str z,x,u,h,r=>by
  rw[DV]at h; subst h; obtain ⟨t,rfl⟩:=r; exact ⟨_,.str z t⟩
 | .list ds,x,u,h,r=>by
  rw[DV]at h
  obtain ⟨a,xs,rfl,h2,h3⟩:=h
  cases r
  obtain ⟨its,rv,⟨o,n,e,c,_,d⟩,_⟩:=I.list h2
  obtain ⟨as,q⟩:=DVs.reads I h3 rv
  exact ⟨_,.list e c d (by simpa using q)⟩
 | .tuple ds,x,u,h,r=>by
  rw[DV]at h
  obtain ⟨a,xs,rfl,h2,h3⟩:=h
  cases r
  obtain ⟨its,rv,⟨o,e,c,n,d⟩,_⟩:=I.tuple h2
  obtain ⟨as,q⟩:=DVs.reads I h3 rv
  exact ⟨_,.tuple e c d (by simpa using q)⟩
 | .dict _,x,u,h,r=>by rw[DV]at h; exact h.elim
theorem DVs.reads(I:Inv X pins σ H s):∀{ds:List PyData}{xs:List V}{us:List Value},DVs X.K H ds xs→Vals xs us→∃ as,ReadsAll s.heap us ds as
 | [],xs,us,h,r=>by
  rw[DVs]at h; subst h; cases r; exact ⟨_,.nil⟩
 | d::ds,xs,us,h,r=>by
  rw[DVs]at h
  obtain ⟨y,ys,rfl,h2,h3⟩:=h
  cases r with
  | cons r rs =>
   obtain ⟨as,q⟩:=DV.reads I h2 r
   obtain ⟨bs,p⟩:=DVs.reads I h3 rs
   exact ⟨_,.cons q p⟩
end
end
inductive rEqD(K:Frag)(neg:Bool)(x y:V)(H:Hp)(Q:VK):Prop
 | mk(d e:PyData)(h0:DV K H d x)(h1:DV K H e y)(h2:SeqAt.shaped d=true)(h3:SeqAt.shaped e=true)(h4:Q (.bl (if neg then !PyData.eqv d e else PyData.eqv d e)) H):rEqD K neg x y H Q
theorem uM{X:Cx}(hu:X.A.units+64<cLine):OpR X (compareOp .Eq) (rEqD X.K false):=by
 intro pins s σ H x y v u Q I rx ry h
 obtain ⟨d,e,h1,h2,s1,s2,q⟩:=h
 obtain ⟨as,ra⟩:=h1.reads I rx
 obtain ⟨bs,rb⟩:=h2.reads I ry
 exact eq_dataH ra rb s1 s2 hu ⟨.bl _,H,I,rfl,q⟩
theorem nk{X:Cx}(hu:X.A.units+64<cLine):OpR X (compareOp .NotEq) (rEqD X.K true):=by
 intro pins s σ H x y v u Q I rx ry h
 obtain ⟨d,e,h1,h2,s1,s2,q⟩:=h
 obtain ⟨as,ra⟩:=h1.reads I rx
 obtain ⟨bs,rb⟩:=h2.reads I ry
 exact ne_dataH ra rb s1 s2 hu ⟨.bl _,H,I,rfl,q⟩
end L2
namespace L2
abbrev PvS:=Nat→St→Hp→Prop
abbrev PvL:=Nat→List V→Hp→Prop
theorem iA{A1 A2:TS}{D:Ends}{σ:St}{H:Hp}:(let B2:TS:=A2; bI A1 B2 D σ H)→bI A1 A2 D σ H:=fun h=>h
theorem jd{A1 A2 A3:TS}{D:Ends}{σ:St}{H:Hp}:(let B3:TS:=A3; let B2:TS:=bI A2 B3; bI A1 B2 D σ H)→bI A1 (bI A2 A3) D σ H:=fun h=>h
theorem mR{A1 A2 A3 A4:TS}{D:Ends}{σ:St}{H:Hp}:(let B4:TS:=A4; let B3:TS:=bI A3 B4; let B2:TS:=bI A2 B3; bI A1 B2 D σ H)→bI A1 (bI A2 (bI A3 A4)) D σ H:=fun h=>h
theorem nC{A1 A2 A3 A4 A5:TS}{D:Ends}{σ:St}{H:Hp}:(let B5:TS:=A5; let B4:TS:=bI A4 B5; let B3:TS:=bI A3 B4; let B2:TS:=bI A2 B3; bI A1 B2 D σ H)→bI A1 (bI A2 (bI A3 (bI A4 A5))) D σ H:=fun h=>h
theorem v4{A1 A2 A3 A4 A5 A6 A7 A8 A9 A10 A11:TS}{D:Ends}{σ:St}{H:Hp}:(let B11:TS:=A11; let B10:TS:=bI A10 B11; let B9:TS:=bI A9 B10; let B8:TS:=bI A8 B9; let B7:TS:=bI A7 B8; let B6:TS:=bI A6 B7; let B5:TS:=bI A5 B6; let B4:TS:=bI A4 B5; let B3:TS:=bI A3 B4; let B2:TS:=bI A2 B3; bI A1 B2 D σ H)→bI A1 (bI A2 (bI A3 (bI A4 (bI A5 (bI A6 (bI A7 (bI A8 (bI A9 (bI A10 A11))))))))) D σ H:=fun h=>h
end L2
namespace L2
open PySem PySem.Spec PyProof.Rows
section
variable {X:Cx}{pins:List (Addr×Obj)}{σ:St}{H:Hp}{s:Shared}{h':Heap}
theorem Inv.turnedNew{t':Nat}{ch:List Addr}{a:Addr}{o:HO}(I:Inv X pins σ H s)(k:∀ b u,b ∉ ch→s.heap.get? b=some u→h'.get? b=some u)(hf:∀ b∈ch,eZ X pins H b)
  (ha:s.heap.objs.size≤a) (new:ObjOk X.prog X.w (upd H a o) h' a o):Inv X pins σ (upd H a o) { s with heap:=h',toks:=t' }:=by
 have hna:H a=none:=I.hok.fresh ha
 have nch:∀ b u,H b=some u→b ∉ ch:=fun b u e z=>by
  rw[(hf b z).1]at e
  cases e
 have nea:∀ b u,H b=some u→b≠a:=fun b u e z=>by
  rw[z,hna]at e
  cases e
 have old:∀ b u,s.heap.get? b=some u→b≠a:=fun b u e=>Nat.ne_of_lt (Nat.lt_of_lt_of_le (Heap.lt_size e) ha)
 refine I.step (g':=s.gens) (d':=s.drawn) (ch:=ch) (fun b hb=>?_) (fun b u _ _ hc e _=>k b u hc e) (fun b u _ _ hc e _=>⟨u.slots,k b u hc e⟩) (fun b u _ e n=>?_) (fun b u hc e=>⟨u,k b u hc e⟩)
  (fun b xs e=>?_) (fun b u v e=>?_) (fun b ps e=>⟨#[],?_⟩) (fun m hm=>?_) (fun b u e=>?_) I.bare
 ·obtain ⟨_,f1,_,f3,f4,f5⟩:=hf b hb
  exact ⟨f3,f1,f4,f5⟩
 ·rw[ag (old b u e)]; exact n
 ·rw[ag (nea b _ e)]; exact e
 ·rw[ag (nea b _ e)]; exact e
 ·rw[ag (nea b _ e),e]; simp
 ·obtain ⟨ob,es,ep,ho,r⟩:=hm
  exact ⟨ob,es,ep,k _ ob (fun z=>(hf _ z).2.1 rfl) ho,r⟩
 ·by_cases hb:b=a
  ·subst hb
   rw[ad]at e
   cases e
   exact new
  ·rw[ag hb]at e
   refine (I.hok b u e).stay (fun c v hc q=>k c v ?_ q) (fun c q=>?_) fun c xs q=>?_
   ·rcases hc with z | z
    ·rw[z]; exact nch b u e
    ·exact nch c _ z
   ·rw[ag (nea c _ q)]; exact q
   ·rw[ag (nea c _ q)]; exact q
theorem Inv.turnedN{t':Nat}{ch:List Addr}(I:Inv X pins σ H s)(k:∀ b u,b ∉ ch→s.heap.get? b=some u→h'.get? b=some u)(hf:∀ b∈ch,eZ X pins H b):Inv X pins σ H { s with heap:=h',toks:=t' }:=by
 have nch:∀ b u,H b=some u→b ∉ ch:=fun b u e z=>by
  rw[(hf b z).1]at e
  cases e
 refine I.step (g':=s.gens) (d':=s.drawn) (ch:=ch) (fun b hb=>?_) (fun b u _ _ hc e _=>k b u hc e) (fun b u _ _ hc e _=>⟨u.slots,k b u hc e⟩) (fun b u _ e n=>n) (fun b u hc e=>⟨u,k b u hc e⟩)
  (fun b xs e=>e) (fun b u v e=>e) (fun b ps e=>⟨#[],by rw[e]; simp⟩) (fun m hm=>?_) (fun b u e=>?_) I.bare
 ·obtain ⟨_,f1,_,f3,f4,f5⟩:=hf b hb
  exact ⟨f3,f1,f4,f5⟩
 ·obtain ⟨ob,es,ep,ho,r⟩:=hm
  exact ⟨ob,es,ep,k _ ob (fun z=>(hf _ z).2.1 rfl) ho,r⟩
 ·refine (I.hok b u e).stay (fun c v hc q=>k c v ?_ q) (fun c q=>q) fun c xs q=>q
  rcases hc with z | z
  ·rw[z]; exact nch b u e
  ·exact nch c _ z
end
def Itz(a b:Addr):It:=⟨fun i H=>∃ xs ys x y,H a=some (.lst xs)∧H b=some (.lst ys)∧xs[i]? = some x∧ys[i]? = some y,
 fun i H v H'=>∃ p x y,H p=none∧v=.ref p∧(∀ xs,H a=some (.lst xs)→xs[i]? = some x)∧(∀ ys,H b=some (.lst ys)→ys[i]? = some y)∧H'=upd H p (.tup [x,y]),
 fun i H=>∃ xs ys,H a=some (.lst xs)∧H b=some (.lst ys)∧(xs.length≤i∨ys.length≤i)⟩
theorem rH{P:Program}{w:World}{K:Frag}{es:List Expr}{k:Nat}{pos:Pos}(a b z TI TO i1 i2:Addr)(nd:[z,TI,TO,i1,i2].Nodup) :
  Turn P w K (.Tuple es k pos) (Itz a b) [z,TI,TO,i1,i2] z (fun i h=>IsZip h z TI TO .none∧IsPair h TI (.ref i1) (.ref i2)∧(∃ u v,IsPair h TO u v)∧h.IsListIter i1 a i∧h.IsListIter i2 b i):=by
 have n1:TI≠z:=fun e=>by simp[e]at nd
 have n2:TO≠z:=fun e=>by simp[e]at nd
 have n3:i1≠z:=fun e=>by simp[e]at nd
 have n4:i2≠z:=fun e=>by simp[e]at nd
 have n5:TI≠TO:=fun e=>by simp[e]at nd
 have n6:TI≠i1:=fun e=>by simp[e]at nd
 have n7:TI≠i2:=fun e=>by simp[e]at nd
 have n8:TO≠i1:=fun e=>by simp[e]at nd
 have n9:TO≠i2:=fun e=>by simp[e]at nd
 have n0:i1≠i2:=fun e=>by simp[e]at nd
 have apart:∀{H:Hp}{xs ys:List V},(∀ c∈[z,TI,TO,i1,i2],H c=none)→H a=some (.lst xs)→H b=some (.lst ys)→ZipApart z TI TO i1 i2 a b:=fun {H xs ys} hf ha hb =>
  ⟨n1,n2,n3,n4,n5,n6,n7,n8,n9,n0,au ha (hf z (by simp)),au ha (hf TO (by simp)),au ha (hf i1 (by simp)),au ha (hf i2 (by simp)),
   au hb (hf z (by simp)),au hb (hf TO (by simp)),au hb (hf i1 (by simp)),au hb (hf i2 (by simp))⟩
 refine { mem:=by simp,obj:=?_,keep:=?_,item:=?_,done:=?_,self:=?_ }
 ·rintro i h ⟨h1,h2,⟨u,v,h3⟩,⟨o4,h4,_,d4⟩,⟨o5,h5,_,d5⟩⟩ c hc
  simp only[mem_cons,not_mem_nil,or_false]at hc
  rcases hc with rfl | rfl | rfl | rfl | rfl
  ·exact ⟨_,h1,fun v z=>by cases z⟩
  ·exact ⟨_,h2,fun v z=>by cases z⟩
  ·exact ⟨_,h3,fun v z=>by cases z⟩
  ·exact ⟨_,h4,fun v z=>by rw[d4]at z; cases z⟩
  ·exact ⟨_,h5,fun v z=>by rw[d5]at z; cases z⟩
 ·rintro i h h' ⟨h1,h2,⟨u,v,h3⟩,⟨o4,h4,r4⟩,⟨o5,h5,r5⟩⟩ kp
  exact ⟨kp z (by simp) _ h1,kp TI (by simp) _ h2,⟨u,v,kp TO (by simp) _ h3⟩,⟨o4,kp i1 (by simp) _ h4,r4⟩,⟨o5,kp i2 (by simp) _ h5,r5⟩⟩
 ·intro X hP hw hK hc i pins s σ H E I hf st hg
  subst hP hw hK
  obtain ⟨h1,h2,⟨u,v,h3⟩,h4,h5⟩:=st
  obtain ⟨xs,ys,x,y,ha,hb,hx,hy⟩:=hg
  obtain ⟨_,its,n,r,hlen,eo⟩:=I.lstM ha
  obtain ⟨_,its2,m,r2,hlen2,eo2⟩:=I.lstM hb
  obtain ⟨ux,hux,rux⟩:=Vals.get r hx
  obtain ⟨uy,huy,ruy⟩:=Vals.get r2 hy
  have hn:H s.heap.objs.size=none:=I.hok.fresh (Nat.le_refl _)
  have new:∀ c∈[z,TI,TO,i1,i2],c≠s.heap.objs.size:=fun c hc q=>by
   have:∃ o,s.heap.get? c=some o:=by
    simp only[mem_cons,not_mem_nil,or_false]at hc
    obtain ⟨o4,h4,_⟩:=h4
    obtain ⟨o5,h5,_⟩:=h5
    rcases hc with rfl | rfl | rfl | rfl | rfl
    ·exact ⟨_,h1⟩
    ·exact ⟨_,h2⟩
    ·exact ⟨_,h3⟩
    ·exact ⟨_,h4⟩
    ·exact ⟨_,h5⟩
   obtain ⟨o,ho⟩:=this
   exact absurd (Heap.lt_size ho) (by rw[q]; exact Nat.lt_irrefl _)
  refine wpAny_pyNext_zip_item (apart (fun c hc=>(hf c hc).1) ha hb) h1 h2 h3 h4 h5 (xs:=its.toArray) (ys:=its2.toArray) ⟨_,eo,rfl,_,rfl⟩ ⟨_,eo2,rfl,_,rfl⟩ (x:=ux) (y:=uy) (by simpa using hux) (by simpa using huy)
   fun h6 e1 e2 e3 e4 e5 e6 e7=>?_
  refine ⟨_,rfl,wpAny_letOwnedTupleGo_zip e1 fun h7 e8 sb=>?_⟩
  have J:Inv X pins σ (upd H s.heap.objs.size (.tup [x,y])) { s with heap:=h7 }:=by
   refine I.turnedNew (t':=s.toks) (ch:=[z,TI,TO,i1,i2]) (fun c o hc q=>?_) hf (Nat.le_refl _) ⟨by rw[sizeLine_eq]; show 2≤16777216; decide,[ux,uy],.cons rux (.cons ruy .nil),_,(sb.2 _ (new z (by simp)).symm).trans e5,rfl,0,rfl⟩
   have c1:c≠z:=fun w=>hc (by simp[w])
   exact (sb.2 c c1).trans (e7 c o c1 (fun w=>hc (by simp[w])) (fun w=>hc (by simp[w])) (fun w=>hc (by simp[w])) q)
  refine ⟨.ref s.heap.objs.size,_,J,rfl,⟨s.heap.objs.size,x,y,hn,rfl,fun xs' h=>by rw[ha]at h; cases h; exact hx,fun ys' h=>by rw[hb]at h; cases h; exact hy,rfl⟩,⟨e8,?_,⟨ux,uy,?_⟩,?_,?_⟩,fun c hc=>?_⟩
  ·exact (sb.2 TI n1).trans (e7 TI _ n1 n5 n6 n7 h2)
  ·exact (sb.2 TO n2).trans e2
  ·obtain ⟨o,ho,q⟩:=e3
   exact ⟨o,(sb.2 i1 n3).trans ho,q⟩
  ·obtain ⟨o,ho,q⟩:=e4
   exact ⟨o,(sb.2 i2 n4).trans ho,q⟩
  ·rw[ag (new c hc)]
   exact (hf c hc).1
 ·intro X hP hw hK hc i pins s σ H E I hf st hg
  subst hP hw hK
  obtain ⟨h1,h2,⟨u,v,h3⟩,h4,h5⟩:=st
  obtain ⟨xs,ys,ha,hb,hx⟩:=hg
  obtain ⟨_,its,n,r,hlen,eo⟩:=I.lstM ha
  obtain ⟨_,its2,m,r2,hlen2,eo2⟩:=I.lstM hb
  refine wpAny_pyNext_zip_end (I.ok.hd hc) (apart (fun c hc=>(hf c hc).1) ha hb) h1 h2 h3 h4 h5 (xs:=its.toArray) (ys:=its2.toArray) ⟨_,eo,rfl,_,rfl⟩ ⟨_,eo2,rfl,_,rfl⟩ (by simp; lia) fun h6 e7=>?_
  exact ⟨rfl,I.turnedN (t':=s.toks) (ch:=[z,TI,TO,i1,i2]) (fun c o hc q=>e7 c o (fun w=>hc (by simp[w])) (fun w=>hc (by simp[w])) (fun w=>hc (by simp[w])) (fun w=>hc (by simp[w])) q) hf⟩
 ·exact fun _ _ _ _ _ st h=>wpAny_pyIter_zip st.1 h
def xY(ta:TA):TI:=fun σ H R=>ta σ H fun vs H1=>∃ a b xs ys,vs=[.ref a,.ref b]∧H1 a=some (.lst xs)∧H1 b=some (.lst ys)∧R (Itz a b) H1
theorem we{X:Cx}{es:List Expr}{k:Nat}{tpos:Pos}{e f:Expr}{ta:TA}{p pos:Pos}(hg:Gl X "zip")(hm:X.mg "zip" = none)(ha:PA X [e,f] ta)(hs:starEach [e,f] X.env=(false,eval e X.env)::starEach [f] X.env:=by rfl)
  (hpl:(backTo pos (starEach [f] X.env)).any (·.1)=false:=by rfl):PI X (.Tuple es k tpos) (.Call (.Name "zip" p) [e,f] [] pos) (xY ta):=by
 intro pins s σ H R I h
 refine wpAny_Call_Name_kw (gS I hg hm vq ?_ (by decide) (by decide))
 refine PyProof.Rows.callWith_type1 (thn (ha pos pins s σ H _ I h) fun us s1 ⟨vs,H1,I1,r1,a,b,xs,ys,e1,hl,hl2,q⟩=>?_) hs hpl
 subst e1
 obtain ⟨u,v,rfl,ru,rv⟩:=rK r1
 cases ru
 cases rv
 obtain ⟨_,its,n,r,hlen,eo⟩:=I1.lstM hl
 obtain ⟨_,its2,m,r2,hlen2,eo2⟩:=I1.lstM hl2
 refine call_zip_2 (xs:=its.toArray) (ys:=its2.toArray) ⟨_,eo,rfl,_,rfl⟩ ⟨_,eo2,rfl,_,rfl⟩ fun h2 e1 e2 e3 e4 e5 e6 e7=>?_
 have I2:Inv X pins σ H1 { s1 with heap:=h2 }:=I1.kept (t':=s1.toks) e7
 refine wpAny_pyIter_zip e1 ?_
 refine ⟨s1.heap.objs.size+4,[s1.heap.objs.size+4,s1.heap.objs.size+2,s1.heap.objs.size+3,s1.heap.objs.size,s1.heap.objs.size+1],_,_,H1,rfl,I2,rH a b _ _ _ _ _ (by simp),⟨e1,e2,⟨_,_,e3⟩,e4,e5⟩,fun c hc=>?_,q⟩
 have hc':s1.heap.objs.size≤c:=by
  simp only[mem_cons,not_mem_nil,or_false]at hc
  rcases hc with z | z | z | z | z <;> rw[z] <;> first | exact Nat.le_refl _ | exact Nat.le_add_right _ _
 exact I1.fpOk hc' (I1.hok.fresh hc')
theorem sY{a b:Addr}{xs ys:List V}{g:TG}{tb:TS}{D:Ends}{σ:St}{H:Hp}(he:xs.length=ys.length)(Pv:Nat→St→Hp→Prop)(h0:Pv 0 σ H)(hl:∀ i σ H,Pv i σ H→H a=some (.lst xs)∧H b=some (.lst ys))
  (hs:∀(i:Nat) x y σ H p,xs[i]? = some x→ys[i]? = some y→Pv i σ H→H p=none→g (.ref p) σ (upd H p (.tup [x,y])) fun σ2 H2=>tb { D with nx:=Pv (i+1),ct:=Pv (i+1),bk:=D.nx } σ2 H2) (hd:∀ σ H,Pv xs.length σ H→D.nx σ H) :
  ∃ W:Nat→Nat→St→Hp→Prop,(∃ m,W 0 m σ H)∧∀ i m σ H,W i m σ H →
   ((Itz a b).stop i H∧D.nx σ H)∨((Itz a b).go i H∧∃ N:St→Hp→Prop,(∀ σ' H',N σ' H'→∃ m',m'<m∧W (i+1) m' σ' H')∧∀ x H',(Itz a b).yld i H x H'→g x σ H' fun σ2 H2=>tb { D with nx:=N,ct:=N,bk:=D.nx } σ2 H2):=by
 refine ⟨fun i m σ H=>m=xs.length - i∧i≤xs.length∧Pv i σ H,⟨_,rfl,Nat.zero_le _,h0⟩,?_⟩
 rintro i m σ H ⟨rfl,hi,p⟩
 obtain ⟨q1,q2⟩:=hl i σ H p
 by_cases hlt:i<xs.length
 ·refine .inr ⟨⟨xs,ys,xs[i],ys[i]'(by lia),q1,q2,by simp[hlt],by simp[show i<ys.length by lia]⟩,Pv (i+1),fun σ' H' p'=>⟨_,by lia,rfl,hlt,p'⟩,fun v H' y=>?_⟩
  obtain ⟨c,x,y,hc,rfl,hx,hy,rfl⟩:=y
  exact hs i x y σ H c (hx xs q1) (hy ys q2) p hc
 ·have e:i=xs.length:=by lia
  subst e
  exact .inl ⟨⟨xs,ys,q1,q2,.inl (Nat.le_refl _)⟩,hd σ H p⟩
end L2
namespace SplM
open PySem
end SplM
namespace L2
open PySem PySem.Spec PyProof.Rows
section
variable {X:Cx}
open Builtin.Str in
theorem wq{P:Program}{w:World}{A:Around}{E:Value→Shared→Prop}{s:Shared}{x y:Str}{t u:Tok}{Q:Value→Shared→Prop}(hy:(y.length == 0)=false)(hx:x.length≤sizeLine)
  (hp:(partsBetween x (occurrences x y 0 x.length (x.length+1)) y.length).length≤sizeLine)
  (h:∀(l:List (Str×Tok)) (k:Nat),l.map (·.1)=Txt.split x y→Q (.ref s.heap.objs.size) { s with heap:=s.heap.push { cls:=.type "list",data:=.seq (strValues l).toArray },toks:=k }) :
  wpAny (model P w) A (call (.builtin "str.split") [.str x t,.str y u]) Q E s:=by
 by_cases h1:(decide (x.length<y.length) || decide (strKind x<strKind y))=true
 ·refine call_meets F.slot_str_split (typeIs_str s x t) F.entry_str_split (F.args_str_split_2 _ _) (meets_str_split_cannot_occur x y t u h1) ?_
  exact h [(x,t)] s.toks (by unfold Txt.split; rw[if_pos h1]; rfl)
 ·have h1':=eq_false_of_ne_true h1
  by_cases h2:(occurrences x y 0 x.length (x.length+1)).isEmpty=true
  ·refine call_meets F.slot_str_split (typeIs_str s x t) F.entry_str_split (F.args_str_split_2 _ _) (meets_str_split_not_found x y t u h1' hy h2) ?_
   exact h [(x,t)] s.toks (by unfold Txt.split; rw[if_neg h1,if_pos h2]; rfl)
  ·have h2':=eq_false_of_ne_true h2
   refine call_meets F.slot_str_split (typeIs_str s x t) F.entry_str_split (F.args_str_split_2 _ _) (meets_str_split_sep x y t u h1' hy h2' hx hp) ?_
   have:=h (numbered s.toks (partsBetween x (occurrences x y 0 x.length (x.length+1)) y.length)) (s.toks+(partsBetween x (occurrences x y 0 x.length (x.length+1)) y.length).length)
    ((numbered_texts _ _).trans (by unfold Txt.split; rw[if_neg h1,if_neg h2]))
   rw[← strsFrom_eq]at this
   exact this
variable {o e:Expr}{es:List Expr}{to:TE}{t:TA}{apos cpos:Pos}
theorem pe_m.append(ho:PE X o to)(ha:PA X (e::es) t)(hbase:attributeBase o "append" X.env (eval o X.env)=eval o X.env:=by rfl)
  (hfew:((backTo cpos (starEach (e::es) X.env)).all (fun x=>!x.1) && (backToKw cpos (keywordEach [] X.env)).all (fun x=>x.1.isSome) && decide ((e::es).length+([]:List Keyword).length+(if ([]:List Keyword).isEmpty then 0 else 1)<30))=true:=by rfl)
  (hline:(apos.endLine == cpos.line)=true:=by rfl) (hs:starEach (e::es) X.env=(false,eval e X.env)::starEach es X.env:=by rfl) (hplain:(backTo cpos (starEach es X.env)).any (·.1)=false:=by rfl) :
  PE X (.Call (.Attribute o "append" apos) (e::es) [] cpos) (tBM X.K "list" rAppend to t):=uG F.plainAttrs_list F.slot_list_append F.type_list_append ja ho ha hbase hfew hline hs hplain
theorem pe_m.clear(ho:PE X o to)(hbase:attributeBase o "clear" X.env (eval o X.env)=eval o X.env:=by rfl)(hline:(apos.endLine == cpos.line)=true:=by rfl) :
  PE X (.Call (.Attribute o "clear" apos) [] [] cpos) (vJ X.K "list" qx to):=pY F.plainAttrs_list F.slot_list_clear F.type_list_clear rF ho hbase hline
theorem pe_m.pop(ho:PE X o to)(hbase:attributeBase o "pop" X.env (eval o X.env)=eval o X.env:=by rfl)(hline:(apos.endLine == cpos.line)=true:=by rfl) :
  PE X (.Call (.Attribute o "pop" apos) [] [] cpos) (vJ X.K "list" wW to):=pY F.plainAttrs_list F.slot_list_pop F.type_list_pop wc ho hbase hline
end
def TK(H H':Hp):Prop:=∀ b xs,H b=some (.tup xs)→H' b=some (.tup xs)
theorem TK.trans{H H1 H2:Hp}(a:TK H H1)(b:TK H1 H2):TK H H2:=fun c o h=>b c o (a c o h)
theorem Same.tk{H H':Hp}(e:Same H H'):TK H H':=fun b xs h=>e b _ h
theorem Same.put{H H':Hp}{D:Addr}{o:HO}(e:Same H H')(h:H D=none):Same H (upd H' D o):=fun b u q=>by
 rw[ag (au q h)]; exact e b u q
theorem kr{α:Type}{xs:List α}{i:Int}{v:α}(k:Nat)(hk:(k:Int)=i)(h:xs[k]? = some v):atI xs i=some v:=by rw[← hk]; exact cN h
structure U where
 name:Str
 value:Int
 size:Int
 path:List Str
section
variable {X:Cx}{K:Frag}
theorem fH(h:X.K=K):IxR X (rIx K):=h ▸ bv
theorem mf(h:X.K=K):OpR X (compareOp .In) (rIn K false):=h ▸ fO
theorem dZ(h:X.K=K){es:List Expr}{k:Nat}{t:TGs}{n:Nat}{pos:Pos}(hc:X.calm=true)(hp:PGs X es t)(hn:(assignEach es X.env).length=n:=by rfl)(hst:(assignEach es X.env).findIdx? (·.1)=none:=by rfl) :
  PG X (.Tuple es k pos) (gTup K n t):=h ▸ eB hc hp hn hst
end
structure XCls(K:Frag)(D:Addr):Prop where
 ga:findIn K (.ref D) "__getattribute__" = some (some (.builtin "BaseException.__getattribute__"))
 gn:findIn K (.ref D) "__getattr__" = some none
 cl:findIn K (.ref D) "__class__" = some (some (.builtin "object.__class__"))
 mb:mroIn K D (.type "BaseException")=some true
 mo:mroIn K D (.type "object")=some true
 isc:(clsIn K D).isSome=true
section
variable {prog:Program}{w:World}{A:Around}{E:Value→Shared→Prop}{h:Heap}{g:Array GenState}{d:Drawn}{t:Nat}{os:OsState}{a D:Addr}{o:Obj}{K:Frag}
end
theorem mY{fs:List Addr}{H0 H:Hp}{h0 h h2:Heap}(u:Un fs [] H0 H h0 h)(k:∀ b o,(∃ o',h0.get? b=some o')→b ∉ fs→h.get? b=some o→h2.get? b=some o)
  (sl:∀ b o,b∈fs→h.get? b=some o→∃ l,h2.get? b=some { o with slots:=l }):Un fs [] H0 H h0 h2 where
 keep:=fun b o q n hf hx=>k b o ⟨o,q⟩ hf (u.keep b o q n hf hx)
 slot:=fun b o q n hf hx=>by
  obtain ⟨l,e⟩:=u.slot b o q n hf hx
  obtain ⟨l',e'⟩:=sl b _ hf e
  exact ⟨l',e'⟩
 free:=u.free
 there:=fun b o q hx=>by
  obtain ⟨o',e⟩:=u.there b o q hx
  by_cases hf:b∈fs
  ·obtain ⟨l,e'⟩:=sl b o' hf e
   exact ⟨_,e'⟩
  ·exact ⟨o',k b o' ⟨o,q⟩ hf e⟩
 tups:=u.tups
 frzs:=u.frzs
 tbls:=u.tbls
theorem j0{P:Program}{w:World}{H:Hp}{h h2:Heap}(x:HOk P w H h)(k:∀ b o u,H b=some u→h.get? b=some o→h2.get? b=some o):HOk P w H h2:=fun a o e =>
 (x a o e).stay (fun b u hb q=>by
  rcases hb with z | z
  ·rw[z]at q ⊢
   exact k a u o e q
  ·exact k b u _ z q) (fun _ q=>q) fun _ _ q=>q
theorem ObjOk.isObj{P:Program}{w:World}{H:Hp}{h:Heap}{a:Addr}{o:HO}(x:ObjOk P w H h a o):∃ u,h.get? a=some u:=by
 cases o with
 | lst xs=>obtain ⟨_,_,_,_,e⟩:=x; exact ⟨_,e⟩
 | tup xs=>obtain ⟨_,_,_,_,e,_⟩:=x; exact ⟨_,e⟩
 | dK kvs=>obtain ⟨_,_,_,_,o,_,_,e,_⟩:=x; exact ⟨_,e⟩
 | dT kvs=>obtain ⟨_,_,_,_,o,_,_,e,_⟩:=x; exact ⟨_,e⟩
 | set S n=>obtain ⟨o,_,_,_,e,_⟩:=x; exact ⟨_,e⟩
 | ins C dx fs=>obtain ⟨_,_,_,e,_⟩:=x; exact ⟨_,e⟩
 | own y=>exact x
 | xd fs=>obtain ⟨_,⟨_,_,_,e,_⟩,_⟩:=x; exact ⟨_,e⟩
 | rng lo hi=>obtain ⟨_,_,_,e⟩:=x; exact ⟨_,e⟩
 | frz ob u=>exact ⟨_,x.1⟩
 | tbl ps=>exact ⟨_,x⟩
 | met f y=>exact ⟨_,x⟩
 | ext φ=>exact x.2.1
section
variable {P:Program}{w:World}{outer:List Env}{H H':Hp}{s s':Shared}{x D:Addr}{a0:Value}{B:Heap}
end
section
variable {X:Cx}{pins:List (Addr×Obj)}{σ:St}{H H':Hp}{s s':Shared}{x D:Addr}{a0:Value}{B h2:Heap}
theorem sS(J:Inv X pins σ H' s'){b:Addr}(h:∃ o',X.s₀.heap.get? b=some o')(hn:b ∉ frs X.outer):b ∉ frs X.stack:=fun hb=>by
 obtain ⟨o',e⟩:=h
 rcases mem_cons.mp (J.stkSub b hb) with z | z
 ·have h1:=Heap.lt_size e
  have h2:=J.ok.above
  rw[z]at h1
  exact absurd (Nat.lt_of_lt_of_le h1 h2) (Nat.lt_irrefl _)
 ·exact hn z
theorem sX(J:Inv X pins σ H' s'){b:Addr}{u:HO}(e:H' b=some u):b ∉ frs X.stack:=fun hb=>by
 rw[J.stkFree b hb]at e
 cases e
end
section
variable {P:Program}{w:World}{K:Frag}{mg:Str→Option Value}{base:Heap}{N:List Str}{qual:Str}{scope:Scope}{f:Addr}{cdv:Value}{A:Around}{outer:List Env}{s0:Shared}{H0:Hp}{E:XK}
end
section
variable {P:Program}{w:World}{K:Frag}{mg:Str→Option Value}{base:Heap}
end
structure XHd(K:Frag)(C:Addr):Prop where
 isc:(clsIn K C).isSome=true
 ty:typeIn K (.ref C)=some (.type "type")
 mb:mroIn K C (.type "BaseException")=some true
theorem kQ{K:Frag}{M:Model}{h:Heap}{C:Addr}(X:K.In h)(e:(clsIn K C).isSome=true):PySem.W.Looks M h (isType (.ref C)) true:=by
 obtain ⟨cdD,hcD⟩:=Option.isSome_iff_exists.mp e
 unfold clsIn at hcD
 split at hcD
 ·rename_i c' d' cd' sl' ho
  intro A' Q' E' s' k q
  unfold isType loadHead
  exact wpAny_bind (wpAny_loadPart (k _ _ (X _ _ ho)) (wpAny_pure q))
 ·cases hcD
theorem pN{K:Frag}{M:Model}{h:Heap}{C D x:Addr}{ob:Obj}(X:K.In h)(c:XHd K C)(hx:h.get? x=some ob)(hc:ob.cls=.ref D)(hm:mroIn K D (.ref C)=some true) :
  PySem.W.Looks M h (excMatches (.ref x) (.ref C)) true:=by
 have L1:PySem.W.Looks M h (typeOf (.ref C)) (.type "type"):=looks_typeIn X c.ty
 have L2':PySem.W.Looks M h (isSubtype (.type "type") (.type "tuple")) false:=PySem.W.Looks.of_pure tc_notTuple
 have L3:PySem.W.Looks M h (isInstance (.ref C) (.type "tuple")) false:=L1.andThen L2'
 have L4:PySem.W.Looks M h (isExcClass (.ref C)) true:=by
  unfold isExcClass
  exact (kQ X c.isc).andThen (looks_mroIn X c.mb)
 have L5:PySem.W.Looks M h (typeOf (.ref x)) (.ref D):=hc ▸ (PySem.W.Looks.ld hx).andThen .now
 have L6:PySem.W.Looks M h (isSubtype (.ref D) (.ref C)) true:=looks_mroIn X hm
 intro A Q E s k q
 unfold excMatches
 refine wpAny_bind (L3 A _ E s k ?_)
 rw[if_neg Bool.false_ne_true]
 refine wpAny_bind (wpAny_pure ?_)
 simp only[forIn_cons,List.forIn_nil,bind_assoc,pure_bind]
 refine wpAny_bind (L4 A _ E s k ?_)
 simp only[Bool.not_true,Bool.false_eq_true,if_false,pure_bind]
 refine wpAny_bind (L5 A _ E s k ?_)
 refine wpAny_bind (L6 A _ E s k ?_)
 simp only[if_true,pure_bind]
 exact wpAny_pure q
def Cx.inX(X:Cx)(x:Addr):Cx:={ X with A:=X.A.mark (some (.ref x)),calm:=false,xe:=fun _ _=>False }
section
variable {X:Cx}{pins:List (Addr×Obj)}{σ:St}{H H' H1:Hp}{s s' s1:Shared}{x D C:Addr}{a0:Value}{B h2:Heap}
theorem Inv.inX(I:Inv X pins σ H s)(x:Addr):Inv (X.inX x) pins σ H s :=
 ⟨⟨I.ok.mod,I.ok.kind,I.ok.glob,I.ok.blt,I.ok.above,I.ok.inj,I.ok.has,I.ok.cab,fun z=>absurd (show false=true from z) Bool.false_ne_true,I.ok.frames,I.ok.stk,I.ok.exf,I.ok.bs,I.ok.bsz,I.ok.noex,I.ok.exfs,I.ok.funs,I.ok.frf⟩,
  I.os,I.bare,I.base,I.loc,I.cell,I.free,I.freeC,I.pin,I.hok,I.len⟩
theorem Inv.outX(hk:X.calm=true→X.A.handled=none)(I:Inv (X.inX x) pins σ H s):Inv X pins σ H s :=
 ⟨⟨I.ok.mod,I.ok.kind,I.ok.glob,I.ok.blt,I.ok.above,I.ok.inj,I.ok.has,I.ok.cab,hk,I.ok.frames,I.ok.stk,I.ok.exf,I.ok.bs,I.ok.bsz,I.ok.noex,I.ok.exfs,I.ok.funs,I.ok.frf⟩,
  I.os,I.bare,I.base,I.loc,I.cell,I.free,I.freeC,I.pin,I.hok,I.len⟩
end
section
variable {prog:Program}{w:World}{A:Around}{E:Value→Shared→Prop}{h:Heap}{g:Array GenState}{d:Drawn}{t:Nat}{os:OsState}{a D dx:Addr}{o:Obj}{vs:Array Value}{cd:ClassData}{K:Frag}{name:Str}{mA:Str→Option Value}{v:Value}
abbrev bmV:List Value:=[.type "ValueError",.type "Exception",.type "BaseException",.type "object"]
def xH:Value→Bool
 | .ref _=>true
 | _=>false
def uL(l:List Value):Bool:=l.dropWhile xH == bmV
structure XSet(K:Frag)(D:Addr)(name:Str)(cd:ClassData):Prop where
 k:clsIn K D=some cd
 dct:cd.hasDict=true
 mro:uL cd.mro=true
 mo:mroIn K D (.type "object")=some true
 sa:findIn K (.ref D) "__setattr__" = some (some (.builtin "object.__setattr__"))
 na:findIn K (.ref D) name=some none
end
section
variable {prog:Program}{w:World}{A:Around}{E:Value→Shared→Prop}{h:Heap}{g:Array GenState}{d:Drawn}{t:Nat}{os:OsState}
variable {nm q:Str}{C N fI:Addr}{bs bm bmB:List Value}{hdct:Bool}{sn:List Str}{sub:List Value}{ab:Bool}{col:Option Bool}{dd:Option Addr}{k0 k1 k2 k3 k5:Option Value}{B newId initId:String}{mN:Str→Option Value}{rest:List Value}{oI:Obj}
end
def XD0(a D:Addr):Heap→Prop:=fun h=>∃ o vs,h.get? a=some o∧o.cls=.ref D∧o.data=.fields vs∧o.dict=none∧vs[1]? = some .none∧vs[2]? = some .none
section
variable {P:Program}{w:World}{H:Hp}{h:Heap}{a D dx:Addr}{fs:List (Str×V)}
theorem XD0.ok(x:XD0 a D h):ObjOk P w H h a (.ext (XD0 a D)):=⟨x,let ⟨o,_,e,_⟩:=x; ⟨o,e⟩,fun _ _ ⟨o,vs,e,r⟩ k=>⟨o,vs,k o e,r⟩⟩
end
section
variable {X:Cx}{pins:List (Addr×Obj)}{σ:St}{H:Hp}{s:Shared}{h':Heap}{x dx D:Addr}{φ:Heap→Prop}{ox od:HO}
theorem Inv.tracked{t':Nat}(I:Inv X pins σ H s)(k:∀ b u,s.heap.get? b=some u→h'.get? b=some u)(hn:s.heap.get? x=none)(new:ObjOk X.prog X.w (upd H x ox) h' x ox):Inv X pins σ (upd H x ox) { s with heap:=h',toks:=t' }:=by
 have hx:H x=none:=by
  cases q:H x with
  | none=>rfl
  | some u =>
   obtain ⟨o,e⟩:=(I.hok x u q).isObj
   rw[hn]at e
   cases e
 have ne:∀ b o,s.heap.get? b=some o→b≠x:=fun b o e z=>by rw[z,hn]at e; cases e
 have nh:∀ b u,H b=some u→b≠x:=fun b u e z=>by rw[z,hx]at e; cases e
 refine I.un ⟨fun b o e _ _ _=>k b o e,fun b o e _ _ _=>⟨o.slots,k b o e⟩,fun b o e n _=>?_,fun b o e _=>⟨o,k b o e⟩,fun b xs e=>?_,fun b o u e=>?_,fun b ps e=>⟨#[],?_⟩⟩ fun b u e=>?_
 ·rw[ag (ne b o e)]; exact n
 ·rw[ag (nh b _ e)]; exact e
 ·rw[ag (nh b _ e)]; exact e
 ·rw[ag (nh b _ e),e]; simp
 ·by_cases hb:b=x
  ·subst hb
   rw[ad]at e
   cases e
   exact new
  ·rw[ag hb]at e
   exact (I.hok b u e).stay (fun c v _ q=>k c v q) (fun c q=>by rw[ag (nh c _ q)]; exact q) fun c xs q=>by rw[ag (nh c _ q)]; exact q
end
section
variable {X:Cx}{o e value:Expr}{f:Str}{pos pos' tpos:Pos}{ta tv:TE}
end
theorem lP{K:Frag}{h:Heap}{N:Addr}{m:Str→Option Value}{n:Str}{v:Value}(X:K.In h)(G:h.Ns N m)(q:nsIn K N n=some (some v)):m n=some v:=by
 obtain ⟨ob,en,ep,gob,dob,_,fnd⟩:=G
 unfold nsIn at q
 split at q
 ·rename_i c0 d0 en0 k0 sl0 lk
  have at0:=X _ _ lk
  rw[gob]at at0
  cases at0
  cases dob
  split at q
  ·rename_i entry found
   cases q
   rw[← fnd]
   unfold nsFind findBy
   rw[← Array.find?_toList,found]
   rfl
  ·split at q <;> cases q
 ·cases q
def xIn(K:Frag)(C:Addr)(fI:Option Value):Bool:=match K.lookup C with
 | some ⟨.type "type",_,.cls cd,sl⟩=>(match cd.mro,sl.toList with
  | .ref C'::bm,[_,_,_,_,some (.builtin n),_]=>C' == C && n == "ValueError.__new__" && !cd.hasDel && tailIn K bmV bm && nsOkIn K cd.ns && nsIn K cd.ns "__init__" == some fI
  | _,_=>false)
 | _=>false
structure XObj(h:Heap)(C:Addr)(fI:Option Value):Prop where
 obj:∃ bm N nm q bs hdct sn sub ab col dd k0 k1 k2 k3 k5 mN,h.get? C=some (excClassObj nm q C N bs bm hdct sn sub ab col dd k0 k1 k2 k3 k5 "ValueError.__new__")∧h.Ns N mN∧mN "__init__" = fI∧OwnTail h bmV bm
theorem tT{K:Frag}{h:Heap}{C:Addr}{fI:Option Value}(X:K.In h)(z:xIn K C fI=true):XObj h C fI:=by
 unfold xIn at z
 split at z
 ·rename_i dct cld slt lk
  split at z
  ·rename_i C' tl a0 a1 a2 a3 nid a5 hmro hsl
   simp only[Bool.and_eq_true,beq_iff_eq,Bool.not_eq_true']at z
   obtain ⟨⟨⟨⟨⟨rfl,rfl⟩,hdel⟩,ht⟩,hok⟩,hin⟩:=z
   obtain ⟨nm,bs,mro,ns,qn,hd,sn,sub,ab,col,del⟩:=cld
   dsimp only at hmro hdel hok hin
   subst hmro hdel
   have es:slt = #[a0,a1,a2,a3,some (.builtin "ValueError.__new__"),a5]:=by
    obtain ⟨l⟩:=slt
    simp only at hsl
    rw[hsl]
   subst es
   have hN:h.Ns ns (h.nsMap ns):=.of_isNs (PySem.W.isNs_of_in X hok)
   refine ⟨tl,ns,nm,qn,bs,hd,sn,sub,ab,col,dct,a0,a1,a2,a3,a5,_,X _ _ lk,hN,?_,PySem.W.tail_of_in X ht⟩
   cases fI with
   | none=>exact PySem.W.ns_none_of X hN hin
   | some v=>exact lP X hN hin
  ·cases z
 ·cases z
def lV(K:Frag)(D:Addr):Bool:=findIn K (.ref D) "__getattribute__" == some (some (.builtin "BaseException.__getattribute__")) && findIn K (.ref D) "__getattr__" == some none &&
 findIn K (.ref D) "__class__" == some (some (.builtin "object.__class__")) && mroIn K D (.type "BaseException") == some true && mroIn K D (.type "object") == some true && (clsIn K D).isSome && typeIn K (.ref D) == some (.type "type")
theorem xD{K:Frag}{D:Addr}(h:lV K D=true):XCls K D:=by
 unfold lV at h
 simp only[Bool.and_eq_true,beq_iff_eq]at h
 obtain ⟨⟨⟨⟨⟨⟨h1,h2⟩,h3⟩,h4⟩,h5⟩,h6⟩,h7⟩:=h
 exact ⟨h1,h2,h3,h4,h5,h6⟩
theorem uZ{K:Frag}{D:Addr}(h:lV K D=true):XHd K D:=by
 unfold lV at h
 simp only[Bool.and_eq_true,beq_iff_eq]at h
 obtain ⟨⟨⟨⟨⟨⟨h1,h2⟩,h3⟩,h4⟩,h5⟩,h6⟩,h7⟩:=h
 exact ⟨h6,h7,h4⟩
def vC(K:Frag)(D:Addr)(name:Str):Bool:=((clsIn K D).any fun cd=>cd.hasDict && uL cd.mro) && mroIn K D (.type "object") == some true &&
 findIn K (.ref D) "__setattr__" == some (some (.builtin "object.__setattr__")) && findIn K (.ref D) name == some none
theorem yr{K:Frag}{D:Addr}{name:Str}(h:vC K D name=true):∃ cd,XSet K D name cd:=by
 unfold vC at h
 simp only[Bool.and_eq_true,beq_iff_eq]at h
 obtain ⟨⟨⟨h1,h2⟩,h3⟩,h4⟩:=h
 obtain ⟨cd,e,e2⟩:=any_some h1
 rw[Bool.and_eq_true]at e2
 exact ⟨cd,e,e2.1,e2.2,h2,h3,h4⟩
section
variable {P:Program}{w:World}{K:Frag}{mg:Str→Option Value}{base:Heap}{N:List Str}{qual:Str}{scope:Scope}{f:Addr}{cdv:Value}{A:Around}{outer:List Env}{s0:Shared}{H0:Hp}{E:XK}
end
def wD(C:Addr):TE:=fun _ H Q=>∀ a,H a=none→Q (.ref a) (upd H a (.ext (XD0 a C)))
section
variable {X:Cx}{k:Nat}{f C:Addr}{fd:FuncData}{ps:List Str}{sp:Sp}{x:Str}{p pos:Pos}{e:Expr}{es:List Expr}{t:TA}
theorem sO(z:xIn X.K C none=true)(kp:keepIn X.K (.ref C)=true)(hg:Gl X x)(hm:X.mg x=some (.ref C))(hdb:(x == ("__debug__" : Str))=false:=by decide):PE X (.Call (.Name x p) [] [] pos) (wD C):=by
 intro pins s σ H Q I h
 refine wpAny_Call_Name_kw (eK I hg hm ?_ hdb)
 refine callWith_K0 I.kIn kp ?_
 obtain ⟨bm,N,nm,q,bs,hdct,sn,sub,ab,col,dd,k0,k1,k2,k3,k5,mN,hC,hN,hni,T⟩:=(tT I.kIn z).obj
 obtain ⟨h0,g0,d0,t0,os0⟩:=s
 refine wpAny_call_exc_subT (rest:=[]) PySem.F.excBase_ValueError T hC hN hni (fun h' a hx=>?_) (Nat.zero_le _)
 obtain ⟨t1,ht,_,_⟩:=hx.there
 have hn:H a=none:=by
  cases q:H a with
  | none=>rfl
  | some u =>
   obtain ⟨o,e⟩:=(I.hok a u q).isObj
   have:=hx.new
   rw[show h0.get? a=some o from e]at this
   cases this
 exact ⟨.ref a,_,I.tracked (t':=t0) hx.keeps hx.new (XD0.ok ⟨_,_,ht,rfl,rfl,rfl,rfl,rfl⟩),rfl,h a hn⟩
end
def IV(v d:Addr):Heap→Prop:=fun h=>h.IsItemsView v d
section
variable {X:Cx}{o e:Expr}{es:List Expr}{to:TE}{t:TA}{apos cpos:Pos}
end
section
variable {X:Cx}{o e:Expr}{es:List Expr}{to:TE}{t:TA}{apos cpos:Pos}
end
section
variable {M:Model}{A:Around}{E:Value→Shared→Prop}{s:Shared}{env:Env}{K:Frag}{D:Addr}
theorem tI{x:Sem Value}{Q:Flow→Shared→Prop}(c:XCls K D)(hd:XHd K D)(hh:A.handled=none)
  (h:wpAny M A x (fun v s₁=>∃ e ob vs,v=.ref e∧K.In s₁.heap∧s₁.heap.get? e=some ob∧ob.cls=.ref D∧ob.data=.fields vs∧vs[1]? = some .none∧E (.ref e) s₁) E s):wpAny M A (raiseStmt env (some x) none) Q E s:=by
 unfold raiseStmt
 refine wpAny_bind (wpAny_mono h (fun v s₁ h₁=>?_) fun _ _ z=>z)
 obtain ⟨e,ob,vs,rfl,X,ge,gc,gd,g1,hE⟩:=h₁
 obtain ⟨hp,g,d,tk,os⟩:=s₁
 repeat (first | with_reducible refine (looks_typeIn X hd.ty).at ?_ | (with_reducible refine wpAny_loadPart_at ge ?_; first | rw[gc] | rw[gd]) | with_reducible refine (looks_mroIn X c.mb).at ?_ | with_reducible refine wpAny_field ge gd g1 ?_ | wp_step)
 exact wpAny_raiseNew_none hh hE
end
def Fx(h:Heap)(e:Addr)(cls:Value)(dct:Option Addr)(fl:Value)(T:Addr):Prop :=
 ∃ ob fs oT ts,h.get? e=some ob∧ob.cls=cls∧ob.dict=dct∧ob.data=.fields fs∧fs[1]? = some (.ref T)∧T≠e∧h.get? T=some oT∧oT.data=.fields ts∧ts[3]? = some fl
theorem hU(f:Array Value→Array Value)(o:Obj):(Obj.mapFields f o).dict=o.dict:=by
 obtain ⟨c,d,dt,sl⟩:=o
 cases dt <;> rfl
theorem sg(f:Array Value→Array Value)(o:Obj):(Obj.mapFields f o).cls=o.cls:=Obj.cls_mapFields _ _
section
variable {M:Model}{A:Around}{E:Value→Shared→Prop}{s:Shared}{base:Heap}{env:Env}{outer:List Env}{L e:Addr}{ob:Obj}{fs:Array Value}{head:Value}{more:Bool}
theorem kG{Q:Unit→Shared→Prop}(fr:A.frames=some (env::outer))(ff:s.heap.FunFrames base (env::outer))(fL:env.frame=some L)(ge:s.heap.get? e=some ob)(de:ob.data=.fields fs)(sz:1<fs.size)
  (h:∀ h' T,Fx h' e ob.cls ob.dict (rawInt L) T→s.heap.get? T=none→(∀ b o,b≠e→b ∉ frs (env::outer)→s.heap.get? b=some o→h'.get? b=some o) →
   (∀ b o,b≠e→s.heap.get? b=some o→∃ sl,h'.get? b=some { o with slots:=sl })→Q () { s with heap:=h' }) :
  wpAny M A (do let a ← frameOf env; let pl ← entryPlaceOf L more; let b ← EntryCells.newEntry head a .none (rawInt L) .none pl; setField (.ref e) 1 b) Q E s:=by
 have out:e ∉ frs (env::outer):=fun hm=>by
  obtain ⟨_,o,go,nf⟩:=ff.mem hm
  rw[ge]at go
  cases go
  exact nf fs de
 refine wpAny_bind (wpAny_frameOf_fun fr ff fL fun h1 so=>?_)
 refine wpAny_bind (wpAny_entryPlaceOf fun pl isP=>?_)
 unfold EntryCells.newEntry newFields
 refine wpAny_bind (wpAny_newObj_type ?_ (isP.sizeOk5 _ _ _ _ _))
 have e1:h1.get? e=some ob:=(so.2.1 e out).trans ge
 have e2:=Heap.get?_push_of_some (h:=h1) { cls:=.type "traceback",dict:=none,data:=.fields ([head,.ref L,.none,rawInt L,.none]++(if pl.isEmpty then List.replicate 6 Value.none else pl)).toArray } e1
 have nT:h1.objs.size≠e:=Nat.ne_of_gt (Heap.lt_size e1)
 have dm:=Obj.data_mapFields de (·.setIfInBounds 1 (Value.ref h1.objs.size))
 have e3:=Heap.get?_update_self (Obj.mapFields (·.setIfInBounds 1 (Value.ref h1.objs.size))) e2 (Obj.isFreed_of_fields dm)
 have oth:∀ b o,b≠e→h1.get? b=some o→((h1.push { cls:=.type "traceback",dict:=none,data:=.fields ([head,.ref L,.none,rawInt L,.none]++(if pl.isEmpty then List.replicate 6 Value.none else pl)).toArray }).update e (Obj.mapFields (·.setIfInBounds 1 (Value.ref h1.objs.size)))).get? b=some o :=
  fun b o nb gb=>(Heap.get?_update_other _ _ (Ne.symm nb)).trans (Heap.get?_push_of_some _ gb)
 refine wpAny_setField e2 de sz (h _ h1.objs.size ⟨_,_,_,_,e3,sg _ _,hU _ _,dm,by simp[sz],nT,(Heap.get?_update_other _ _ (Ne.symm nT)).trans (Heap.get?_push_size _ rfl),rfl,?_⟩ ?_ (fun b o nb nf gb=>oth b o nb ((so.2.1 b nf).trans gb)) fun b o nb gb=>?_)
 ·simp
 ·have:s.heap.objs.size=h1.objs.size:=so.1.symm
  rw[← this]
  exact Heap.get?_none_of_le (Nat.le_refl _)
 ·obtain ⟨sl,g1⟩:=so.2.2 b o gb
  exact ⟨sl,oth b _ nb g1⟩
end
section
variable {M:Model}{A:Around}{E:Value→Shared→Prop}{s:Shared}{base:Heap}{env:Env}{outer:List Env}{L e T:Addr}{ob:Obj}{fs:Array Value}{cls fl:Value}{dct:Option Addr}
def KeptBut(xs fr:List Addr)(h h':Heap):Prop :=
 (∀ b o,b ∉ xs→b ∉ fr→h.get? b=some o→h'.get? b=some o)∧∀ b o,b ∉ xs→h.get? b=some o→∃ sl,h'.get? b=some { o with slots:=sl }
theorem KeptBut.trans{xs ys fr:List Addr}{h h1 h2:Heap}(a:KeptBut xs fr h h1)(b:KeptBut ys fr h1 h2):KeptBut (xs++ys) fr h h2 :=
 ⟨fun c o n f g=>b.1 c o (fun z=>n (mem_append_right _ z)) f (a.1 c o (fun z=>n (mem_append_left _ z)) f g),fun c o n g=>by
  obtain ⟨s1,g1⟩:=a.2 c o (fun z=>n (mem_append_left _ z)) g
  obtain ⟨s2,g2⟩:=b.2 c _ (fun z=>n (mem_append_right _ z)) g1
  exact ⟨s2,g2⟩⟩
theorem rB{Q:Unit→Shared→Prop}(fr:A.frames=some (env::outer))(ff:s.heap.FunFrames base (env::outer))(fL:env.frame=some L)(ge:s.heap.get? e=some ob)(de:ob.data=.fields fs)(f1:fs[1]? = some .none)
  (h:∀ h' T,Fx h' e ob.cls ob.dict (rawInt L) T→s.heap.get? T=none→KeptBut [e] (frs (env::outer)) s.heap h'→Q () { s with heap:=h' }):wpAny M A (noteFrame (.ref e) env) Q E s:=by
 unfold noteFrame
 simp only[fL]
 refine wpAny_bind (wpAny_field ge de f1 ?_)
 rw[if_neg (by decide)]
 exact kG fr ff fL ge de (Array.getElem?_eq_some_iff.mp f1).1 fun h' T x nT k1 k2=>h h' T x nT ⟨fun b o n f g=>k1 b o (by simpa using n) f g,fun b o n g=>k2 b o (by simpa using n) g⟩
theorem nZ{Q:Unit→Shared→Prop}(fr:A.frames=some (env::outer))(ff:s.heap.FunFrames base (env::outer))(fL:env.frame=some L)(x:Fx s.heap e cls dct .none T)
  (h:∀ h' T',Fx h' e cls dct (rawInt L) T'→s.heap.get? T'=none→KeptBut [T,e] (frs (env::outer)) s.heap h'→Q () { s with heap:=h' }):wpAny M A (noteFrame (.ref e) env) Q E s:=by
 obtain ⟨ob,fs,oT,ts,ge,rfl,rfl,de,f1,nT,gT,dT,t3⟩:=x
 unfold noteFrame
 simp only[fL]
 refine wpAny_bind (wpAny_field ge de f1 ?_)
 rw[if_pos (show (Value.ref T != Value.none)=true from by simp)]
 refine wpAny_bind (wpAny_field gT dT t3 ?_)
 rw[if_neg (show ¬((Value.none == rawInt L)=true) from by simp[rawInt])]
 refine wpAny_bind (wpAny_setField gT dT (Array.getElem?_eq_some_iff.mp t3).1 ?_)
 have oth:∀ b,b≠T→(s.heap.update T (Obj.mapFields (·.setIfInBounds 3 Value.none))).get? b=s.heap.get? b:=fun b nb=>Heap.get?_update_other _ _ (Ne.symm nb)
 have nrec:∀ b o,s.heap.get? b=some o→(∀ vs,o.data≠.fields vs)→b≠T:=fun b o gb nf z=>by
  rw[z,gT]at gb
  cases gb
  exact nf ts dT
 have gT':=Heap.get?_update_self (Obj.mapFields (·.setIfInBounds 3 Value.none)) gT (Obj.isFreed_of_fields (Obj.data_mapFields dT _))
 refine kG fr (ff.of_keeps fun b o gb nf=>⟨o,(oth b (nrec b o gb nf)).trans gb,rfl⟩) fL ((oth e nT.symm).trans ge) de (Array.getElem?_eq_some_iff.mp f1).1 fun h' T' x' nT' k1 k2=>h h' T' x' ?_ ⟨fun b o n f g=>?_,fun b o n g=>?_⟩
 ·cases q:s.heap.get? T' with
  | none=>rfl
  | some o =>
   by_cases z:T'=T
   ·rw[z,gT']at nT'
    cases nT'
   ·have nT'':=nT'
    rw[oth T' z,q]at nT''
    cases nT''
 ·have n1:b≠T:=fun z=>n (by rw[z]; exact mem_cons_self)
  have n2:b≠e:=fun z=>n (by rw[z]; simp)
  exact k1 b o n2 f ((oth b n1).trans g)
 ·have n1:b≠T:=fun z=>n (by rw[z]; exact mem_cons_self)
  have n2:b≠e:=fun z=>n (by rw[z]; simp)
  exact k2 b o n2 ((oth b n1).trans g)
theorem eN{Q:Unit→Shared→Prop}{fr:List Addr}(x:Fx s.heap e cls dct fl T)(h:∀ h',Fx h' e cls dct .none T→KeptBut [T] fr s.heap h'→Q () { s with heap:=h' }):wpAny M A (setFlight (.ref e) none) Q E s:=by
 obtain ⟨ob,fs,oT,ts,ge,rfl,rfl,de,f1,nT,gT,dT,t3⟩:=x
 have z3:3<ts.size:=(Array.getElem?_eq_some_iff.mp t3).1
 have oth:∀ b,b≠T→(s.heap.update T (Obj.mapFields (·.setIfInBounds 3 ((none:Option Addr).elim Value.none fun f=>rawInt f)))).get? b=s.heap.get? b:=fun b nb=>Heap.get?_update_other _ _ (Ne.symm nb)
 unfold setFlight
 refine wpAny_bind (wpAny_field ge de f1 ?_)
 rw[if_pos (show (Value.ref T != Value.none)=true from by simp)]
 refine wpAny_setField gT dT z3 (h _ ⟨ob,fs,_,_,(oth e nT.symm).trans ge,rfl,rfl,de,f1,nT,Heap.get?_update_self _ gT (Obj.isFreed_of_fields (Obj.data_mapFields dT _)),Obj.data_mapFields dT _,by simp[z3]⟩ ⟨fun b o n _ g=>?_,fun b o n g=>?_⟩)
 ·exact (oth b (by simpa using n)).trans g
 ·exact ⟨o.slots,(oth b (by simpa using n)).trans g⟩
theorem rV{Q:Unit→Shared→Prop}(fr:A.frames=some (env::outer))(ff:s.heap.FunFrames base (env::outer))(fL:env.frame=some L)(x:Fx s.heap e cls dct .none T)
  (h:∀ h' T',Fx h' e cls dct .none T'→s.heap.get? T'=none→KeptBut [T,e,T'] (frs (env::outer)) s.heap h'→Q () { s with heap:=h' }):wpAny M A (leaving env (.ref e)) Q E s:=by
 unfold leaving
 refine wpAny_bind (nZ fr ff fL x fun h1 T1 x1 n1 k1=>eN (s:={ s with heap:=h1 }) x1 fun h2 x2 k2=>h h2 T1 x2 n1 (k1.trans k2))
theorem pq{Q:Unit→Shared→Prop}(fr:A.frames=some (env::outer))(ff:s.heap.FunFrames base (env::outer))(fL:env.frame=some L)(ge:s.heap.get? e=some ob)(de:ob.data=.fields fs)(f1:fs[1]? = some .none)
  (h:∀ h' T',Fx h' e ob.cls ob.dict .none T'→s.heap.get? T'=none→KeptBut [e,T'] (frs (env::outer)) s.heap h'→Q () { s with heap:=h' }):wpAny M A (leaving env (.ref e)) Q E s:=by
 unfold leaving
 refine wpAny_bind (rB fr ff fL ge de f1 fun h1 T1 x1 n1 k1=>eN (s:={ s with heap:=h1 }) x1 fun h2 x2 k2=>h h2 T1 x2 n1 (k1.trans k2))
end
structure XG(P:Program)(w:World)(outer:List Env)(H:Hp)(s:Shared)(x D:Addr)(dct:Option Addr)(T:Addr)(H':Hp)(s':Shared):Prop where
 os:s'.os=s.os
 bare:AllBare s'.gens
 un:Un (frs outer) [] H H' s.heap s'.heap
 hok:HOk P w H' s'.heap
 fx:Fx s'.heap x (.ref D) dct .none T
 nx:s.heap.get? x=none
 nT:s.heap.get? T=none
 ux:H' x=none
 uT:H' T=none
def CXG(P:Program)(w:World):CXT:=fun outer H s E e s'=>∃ x D dct T H',e=.ref x∧XG P w outer H s x D dct T H' s'∧E (.ref D) dct H'
theorem cE{fs:List Addr}{H H':Hp}{h h':Heap}{b:Addr}(u:Un fs [] H H' h h')(n:h'.get? b=none):h.get? b=none:=by
 cases q:h.get? b with
 | none=>rfl
 | some o =>
  obtain ⟨o',e⟩:=u.there b o q (by simp)
  rw[n]at e
  cases e
section
variable {P:Program}{w:World}{K:Frag}{mg:Str→Option Value}{base:Heap}{N:List Str}{qual:Str}{scope:Scope}{f:Addr}{cdv:Value}{A:Around}{outer:List Env}{s0:Shared}{H0:Hp}{E:XK}
abbrev cxG(P:Program)(w:World)(K:Frag)(mg:Str→Option Value)(base:Heap)(N:List Str)(qual:Str)(scope:Scope)(f:Addr)(cdv:Value)(A:Around)(outer:List Env)(s0:Shared)(H0:Hp)(E:XK):Cx :=
 hX (CXG P w) P w K mg base N qual scope f cdv A outer s0 H0 E
theorem oA{X:Cx}{pins:List (Addr×Obj)}{σ:St}{H':Hp}{s':Shared}{h2:Heap}{x D T:Addr}{dct:Option Addr}{xs:List Addr}(J:Inv X pins σ H' s')(hex:X.ex=[])
  (k:KeptBut xs (frs X.stack) s'.heap h2) (hxs:∀ b∈xs,X.s₀.heap.get? b=none∧H' b=none∧b ∉ frs X.outer) (fx:Fx h2 x (.ref D) dct .none T) (mx:x∈xs) (mT:T∈xs) :
  XG X.prog X.w X.outer X.H₀ X.s₀ x D dct T H' { s' with heap:=h2 }:=by
 have jb:Un (frs X.outer) [] X.H₀ H' X.s₀.heap s'.heap:=by
  have:=J.base
  rw[hex]at this
  exact this
 refine ⟨J.os,J.bare,mY jb (fun b o h0 hf e=>k.1 b o (fun z=>?_) (sS J h0 hf) e) (fun b o hf e=>k.2 b o (fun z=>(hxs b z).2.2 hf) e),j0 J.hok (fun b o u hu e=>k.1 b o (fun z=>?_) (sX J hu) e),fx,(hxs x mx).1,(hxs T mT).1,(hxs x mx).2.1,(hxs T mT).2.1⟩
 ·obtain ⟨o0,e0⟩:=h0
  rw[(hxs b z).1]at e0
  cases e0
 ·rw[(hxs b z).2.1]at hu
  cases hu
theorem gE{X:Cx}{pins:List (Addr×Obj)}{σ:St}{H:Hp}{s:Shared}(I:Inv X pins σ H s){b:Addr}(h:s.heap.get? b=none):b ∉ frs X.outer:=fun z=>by
 obtain ⟨_,o,e,_⟩:=I.funs.mem z
 rw[h]at e
 cases e
theorem uQ:fe (CXG P w) (cxG P w K mg base N qual scope f cdv A outer s0 H0 E) E:=by
 intro pins σ H s e s' I hx
 obtain ⟨x,D,dct,T,H',rfl,G,q⟩:=hx
 have J:Inv (cxG P w K mg base N qual scope f cdv A outer s0 H0 E) pins σ H' s':=I.call' (ch:=[]) G.os G.un G.hok G.bare (by simp)
 have ib:Un (frs outer) [] H0 H s0.heap s.heap:=I.base
 have jb:Un (frs outer) [] H0 H' s0.heap s'.heap:=J.base
 show wpAny _ _ (leaving _ (.ref x)) _ _ s'
 refine rV I.ok.frames J.stack rfl G.fx fun h2 T2 x2 n2 k=>?_
 refine ⟨x,D,dct,T2,H',rfl,oA J rfl k (fun b hb=>?_) x2 (by simp) (by simp),q⟩
 have hb':b=T∨b=x∨b=T2:=by simpa using hb
 rcases hb' with rfl | rfl | rfl
 ·exact ⟨cE ib G.nT,G.uT,gE I G.nT⟩
 ·exact ⟨cE ib G.nx,G.ux,gE I G.nx⟩
 ·refine ⟨cE jb n2,?_,gE J n2⟩
  cases z:H' b with
  | none=>rfl
  | some u =>
   obtain ⟨o,e⟩:=(J.hok b u z).isObj
   rw[n2]at e
   cases e
theorem qF:PassesOwn (model P w) (cxG P w K mg base N qual scope f cdv A outer s0 H0 E).A (cxG P w K mg base N qual scope f cdv A outer s0 H0 E).env (cxG P w K mg base N qual scope f cdv A outer s0 H0 E).xe:=PassesOwn.leaving
end
section
variable {P:Program}{w:World}{K:Frag}{mg:Str→Option Value}{base:Heap}
theorem Fun.okG{x qual:Str}{st:Stmt}{f:Addr}{fd:FuncData}{N ps:List Str}{k:Nat}{sp:Sp}(F:Fun K x qual st f fd)(S:FnScope N ps (ae st))(len:∀ vs H Q E,sp vs H Q E→vs.length=ps.length)
  (hbody:∀(cdv:Value) (A:Around) (outer:List Env) (s:Shared) (H:Hp) (vs:List V) (Q:VK) (E:XK),Room k (A.deeper (envOfC qual (ae st) s.heap.objs.size f cdv))→sp vs H Q E →
   ∃ t,PSs (cxG P w K mg base N qual (ae st) f cdv A outer s H E) (aj st) t∧t { nx:=fun _ H'=>Q .non H',rt:=Q } (start N vs) H):FnOk P w K mg base (CXG P w) (k+1) f fd ps sp:=by
 obtain ⟨oc,od,kV,doc,pm,an,cdv,ct,osl,rfl,lk,hcd⟩:=F.ex
 exact uN lk hcd S len fun A outer s H vs Q E hr hsp=>hbody cdv A outer s H vs Q E hr hsp
end
def untr(H:Hp)(x:Addr):Hp:=fun b=>if b=x then none else H b
theorem av{H:Hp}{x b:Addr}(h:b≠x):untr H x b=H b:=by unfold untr; rw[if_neg h]
theorem aQ{H:Hp}{x:Addr}:untr H x x=none:=by unfold untr; rw[if_pos rfl]
def XU(a D:Addr)(dct:Option Addr):Heap→Prop:=fun h=>∃ o vs,h.get? a=some o∧o.cls=.ref D∧o.data=.fields vs∧o.dict=dct∧vs[1]? = some .none∧vs[2]? = some .none
theorem Inv.untr{X:Cx}{pins:List (Addr×Obj)}{σ:St}{H:Hp}{s:Shared}{x:Addr}{φ:Heap→Prop}(I:Inv X pins σ H s)(hx:H x=some (.ext φ)):Inv X pins σ (untr H x) s:=by
 have nt:∀ b u,H b=some u→(∀ ψ,u≠.ext ψ)→b≠x:=fun b u e n z=>by
  rw[z,hx]at e
  cases e
  exact n φ rfl
 have fr:∀ b,H b=none→L2.untr H x b=none:=fun b e=>by
  by_cases z:b=x
  ·rw[z]; exact aQ
  ·rw[av z]; exact e
 have hok:HOk X.prog X.w (L2.untr H x) s.heap:=fun b u e=>by
  by_cases z:b=x
  ·rw[z,aQ]at e
   cases e
  ·rw[av z]at e
   refine (I.hok b u e).stay (fun _ _ _ q=>q) (fun c q=>?_) fun c xs q=>?_
   ·rw[av (nt c _ q fun _ z=>nomatch z)]; exact q
   ·rw[av (nt c _ q fun _ z=>nomatch z)]; exact q
 exact I.un (t':=s.toks) (h':=s.heap) ⟨fun b o e _ _ _=>e,fun b o e _ _ _=>⟨o.slots,e⟩,fun b o e n _=>fr b n,fun b o e _=>⟨o,e⟩,fun b xs e=>by rw[av (nt b _ e fun _ z=>nomatch z)]; exact e,
  fun b o u e=>by rw[av (nt b _ e fun _ z=>nomatch z)]; exact e,fun b ps e=>⟨#[],by rw[av (nt b _ e fun _ z=>nomatch z),e]; simp⟩⟩ hok
section
variable {P:Program}{w:World}{K:Frag}{mg:Str→Option Value}{base:Heap}{N:List Str}{qual:Str}{scope:Scope}{f:Addr}{cdv:Value}{A:Around}{outer:List Env}{s0:Shared}{H0:Hp}{E:XK}
def sR(K:Frag)(H0:Hp)(E:XK)(D:Addr)(te:TE):TS:=fun _ σ H=>te σ H fun v H1=>∃ x dct φ,v=.ref x∧H1 x=some (.ext φ)∧(∀ h,φ h→XU x D dct h)∧H0 x=none∧E (.ref D) dct (untr H1 x)
theorem oB{ex:Expr}{te:TE}{D:Addr}{pos:Pos}(c:XCls K D)(hd:XHd K D)(he:PE (cxG P w K mg base N qual scope f cdv A outer s0 H0 E) ex te) :
  PS (cxG P w K mg base N qual scope f cdv A outer s0 H0 E) (.Raise (some ex) none pos) (sR K H0 E D te):=by
 intro pins s σ H DE I h
 rw[arm_exec_Raise]
 refine wpAny_bind (wpAny_standAt ?_)
 show wpAny _ _ (raiseStmt _ (some (do let v ← eval ex (cxG P w K mg base N qual scope f cdv A outer s0 H0 E).env; standAt pos; pure v)) none) _ _ s
 refine tI (K:=K) (D:=D) c hd (I.ok.hd rfl) (wpAny_bind (thn (he pins s σ H _ I h) fun v s1 ⟨y,H1,I1,ry,x,dct,φ,ey,hx,hφ,h0,q⟩=>wpAny_bind (wpAny_standAt (wpAny_pure ?_))))
 subst ey
 obtain rfl:v=Value.ref x:=ry
 obtain ⟨ob,vs,g1,g2,g3,g4,g5⟩:=hφ _ (I1.hok x _ hx).1
 refine ⟨x,ob,vs,rfl,I1.kIn,g1,g2,g3,g5.1,?_⟩
 show wpAny _ _ (leaving _ (.ref x)) _ _ s1
 have J:=I1.untr hx
 have jb:Un (frs outer) [] H0 (untr H1 x) s0.heap s1.heap:=J.base
 have ib:Un (frs outer) [] H0 H1 s0.heap s1.heap:=I1.base
 have nx:s0.heap.get? x=none:=by
  cases z:s0.heap.get? x with
  | none=>rfl
  | some o =>
   have:=ib.free x o z h0 (by simp)
   rw[hx]at this
   cases this
 refine pq I1.ok.frames J.stack rfl g1 g3 g5.1 fun h2 T fx nT k=>?_
 rw[g2,g4]at fx
 refine ⟨x,D,dct,T,untr H1 x,rfl,oA J rfl k (fun b hb=>?_) fx (by simp) (by simp),q⟩
 have hb':b=x∨b=T:=by simpa using hb
 rcases hb' with rfl | rfl
 ·refine ⟨nx,aQ,fun z=>?_⟩
  obtain ⟨_,o,e,nf⟩:=J.funs.mem z
  rw[g1]at e
  cases e
  exact nf vs g3
 ·refine ⟨cE jb nT,?_,gE J nT⟩
  cases z:untr H1 x b with
  | none=>rfl
  | some u =>
   obtain ⟨o,e⟩:=(J.hok b u z).isObj
   rw[nT]at e
   cases e
end
def XCt(a D:Addr)(dct:Option Addr):Heap→Prop:=fun h=>∃ o vs,h.get? a=some o∧o.cls=.ref D∧o.data=.fields vs∧o.dict=dct
section
variable {X:Cx}{pins:List (Addr×Obj)}{σ:St}{H H':Hp}{s s':Shared}{x D C T T2:Addr}{dct:Option Addr}{fl:Value}{h2:Heap}{xs:List Addr}
theorem uX(I:Inv X pins σ H s)(G:XG X.prog X.w X.stack H s x D dct T H' s')(k:KeptBut xs (frs X.stack) s'.heap h2)(hxs:∀ b∈xs,s.heap.get? b=none∧H' b=none∧b ∉ frs X.stack)(fx:Fx h2 x (.ref D) dct fl T2) :
  Inv X pins σ (upd H' x (.ext (XCt x D dct))) { s' with heap:=h2 }:=by
 have hnx:∀ b u,H' b=some u→b≠x:=fun b u e z=>by rw[z,G.ux]at e; cases e
 have trk:∀ b u,H' b=some u→b ∉ frs X.stack:=fun b u e hb=>by
  obtain ⟨_,o,ho,_⟩:=I.stack.mem hb
  rw[G.un.free b o ho (I.stkFree b hb) (by simp)]at e
  cases e
 have u2:Un (frs X.stack) [] H H' s.heap h2:=mY G.un (fun b o h0 hf e=>k.1 b o (fun z=>by obtain ⟨o0,e0⟩:=h0; rw[(hxs b z).1]at e0; cases e0) hf e) (fun b o hf e=>k.2 b o (fun z=>(hxs b z).2.2 hf) e)
 have hk2:HOk X.prog X.w H' h2:=j0 G.hok (fun b o u hu e=>k.1 b o (fun z=>by rw[(hxs b z).2.1]at hu; cases hu) (trk b u hu) e)
 obtain ⟨ob,fs,_,_,gx,gc,gd,gf,_⟩:=fx
 refine I.call' (ch:=[]) (s':={ s' with heap:=h2 }) G.os ⟨u2.keep,u2.slot,fun b o e n hx'=>?_,u2.there,fun b xs e=>?_,fun b o u e=>?_,fun b ps e=>?_⟩ (fun a o e=>?_) G.bare (by simp)
 ·have:b≠x:=fun z=>by rw[z,G.nx]at e; cases e
  rw[ag this]
  exact u2.free b o e n hx'
 ·have e':=u2.tups b xs e
  rw[ag (hnx b _ e')]
  exact e'
 ·have e':=u2.frzs b o u e
  rw[ag (hnx b _ e')]
  exact e'
 ·obtain ⟨more,e'⟩:=u2.tbls b ps e
  exact ⟨more,by rw[ag (hnx b _ e')]; exact e'⟩
 ·by_cases ha:a=x
  ·subst ha
   rw[ad]at e
   cases e
   exact ⟨⟨ob,fs,gx,gc,gf,gd⟩,⟨ob,gx⟩,fun h1 h3 ⟨o,vs,e1,r⟩ kk=>⟨o,vs,kk o e1,r⟩⟩
  ·rw[ag ha]at e
   exact (hk2 a o e).stay (fun _ _ _ q=>q) (fun b q=>by rw[ag (hnx b _ q)]; exact q) fun b xs q=>by rw[ag (hnx b _ q)]; exact q
end
section
variable {X:Cx}{pins:List (Addr×Obj)}{σ:St}{H H':Hp}{s s':Shared}{x D C T:Addr}{dct:Option Addr}{cn en:Str}{ie:Nat}{b₀:Stmt}{suite:List Stmt}{cp hp:Pos}{ts:TS}{DE:Ends}
end
end L2
namespace FrM
theorem kB(x y:Int):Int.gcd y (x % y)=Int.gcd x y:=by
 have e:x=x % y+y*(x/y):=(Int.emod_add_mul_ediv x y).symm
 rw[Int.gcd_comm x y]
 conv=>rhs; rw[e]
 rw[Int.gcd_add_mul_left_right]
def Bt(n:Nat)(i:Int):Prop:=i.natAbs<2 ^ n
theorem Bt.mono{m n:Nat}{i:Int}(h:Bt m i)(l:m≤n):Bt n i:=Nat.lt_of_lt_of_le h (Nat.pow_le_pow_right (by decide) l)
theorem Bt.le{n:Nat}{i j:Int}(h:Bt n i)(l:j.natAbs≤i.natAbs):Bt n j:=Nat.lt_of_le_of_lt l h
theorem Bt.mul{m n:Nat}{i j:Int}(h:Bt m i)(h':Bt n j):Bt (m+n) (i*j):=by
 unfold Bt at *
 rw[Int.natAbs_mul,Nat.pow_add]
 exact Nat.mul_lt_mul_of_le_of_lt (Nat.le_of_lt h) h' (Nat.lt_of_le_of_lt (Nat.zero_le _) h)
theorem Bt.add{n:Nat}{i j:Int}(h:Bt n i)(h':Bt n j):Bt (n+1) (i+j):=by
 unfold Bt at *
 rw[Nat.pow_succ]
 omega
structure Low(T B t b:Int):Prop where
 pos:1≤b
 cop:Int.gcd t b=1
 eq:t*B=T*b
theorem low(t b:Int)(hb:0<b):0<(Int.gcd t b:Int)∧(Int.gcd t b:Int)≤b∧Low t b (t/(Int.gcd t b:Int)) (b/(Int.gcd t b:Int))∧(t/(Int.gcd t b:Int)).natAbs≤t.natAbs∧(b/(Int.gcd t b:Int)).natAbs≤b.natAbs:=by
 have hg:0<Int.gcd t b:=Int.gcd_pos_iff.mpr (.inr (by omega))
 have hgi:0<(Int.gcd t b:Int):=by omega
 have d1:=Int.gcd_dvd_left t b
 have d2:=Int.gcd_dvd_right t b
 have e1:=Int.ediv_mul_cancel d1
 have e2:=Int.ediv_mul_cancel d2
 have hle:(Int.gcd t b:Int)≤b:=Int.le_of_dvd hb d2
 refine ⟨hgi,hle,⟨?_,Int.gcd_ediv_gcd_ediv_gcd hg,?_⟩,?_,?_⟩
 ·have:=Int.ediv_pos_of_pos_of_dvd hb (by omega) d2
  omega
 ·rw[← Int.mul_ediv_assoc _ d2,Int.mul_comm,← Int.mul_ediv_assoc _ d1,Int.mul_comm]
 ·have:=congrArg Int.natAbs e1
  rw[Int.natAbs_mul]at this
  rw[← this]
  exact Nat.le_mul_of_pos_right _ (by simpa using hg)
 ·have:=congrArg Int.natAbs e2
  rw[Int.natAbs_mul]at this
  rw[← this]
  exact Nat.le_mul_of_pos_right _ (by simpa using hg)
end FrM
namespace L2
open PySem PySem.Spec PyProof.Rows FrM
section
variable {X:Cx}
def CMulB(i j:Int):Prop:=(Bt 8000 i∧Bt 8000 j)∨CMul i j
theorem CMulB.ok{i j:Int}(h:CMulB i j):IntMulOk i j:=by
 rcases h with ⟨h1,h2⟩ | h
 ·exact IntMulOk.of_le (m:=8000) (n:=8000) (intBits_le_iff.mpr h1) (intBits_le_iff.mpr h2) (by decide)
 ·exact h.ok
def CDivB(i j:Int):Prop:=0<j∧Bt 8000 j
theorem CDivB.no{i j:Int}(h:CDivB i j):Builtin.divisionGoesByPylong i j=false:=by
 refine PyProof.noPylong_of_log2 ?_
 have h2:j.natAbs<2 ^ 8000:=h.2
 by_cases h0:j.natAbs=0
 ·rw[h0]; decide +kernel
 ·have:j.natAbs.log2<8000:=(Nat.log2_lt h0).mpr h2
  lia
theorem op_mulB:OpR X (binaryOp .Mult) (rI CMulB fun i j=>.int (i*j)):=opI fun _ _ _ _ _ _ _ hc q=>mul_int q hc.ok
theorem op_fdivB:OpR X (binaryOp .FloorDiv) (rI CDivB fun i j=>.int (i/j)):=opI fun i j _ _ _ _ _ hc q=>by
 have h1:(0:Int)<j:=hc.1
 exact floordiv_int (by lia) (by rw[Int.fdiv_eq_ediv_of_nonneg i (by lia)]; exact q) (.inl hc.no)
theorem bT:OpR X (binaryOp .Mult) (rIC CMulB fun i j=>.int (i*j)):=op_mulB.ic
theorem cK:OpR X (binaryOp .FloorDiv) (rIC CDivB fun i j=>.int (i/j)):=op_fdivB.ic
theorem cmB{i j:Int}{m n:Nat}(h:Bt m i)(h':Bt n j)(hm:m≤8000:=by decide)(hn:n≤8000:=by decide):CMulB i j:=.inl ⟨h.mono hm,h'.mono hn⟩
theorem clB{i j:Int}(h:-(2 ^ 64)<i:=by decide)(h2:i<2 ^ 64:=by decide):CMulB i j:=.inr (cl h h2)
theorem crB{i j:Int}(h:-(2 ^ 64)<j:=by decide)(h2:j<2 ^ 64:=by decide):CMulB i j:=.inr (cr h h2)
theorem cdB{i j:Int}{n:Nat}(h:0<j)(h':Bt n j)(hn:n≤8000:=by decide):CDivB i j:=⟨h,h'.mono hn⟩
theorem mG:bootBuiltins "abs" = some (.builtin "abs"):=by decide +kernel
end
end L2
namespace L2
open PySem PySem.Spec PyProof.Rows
def u8:Expr→Bool
 | .Starred ..=>true
 | _=>false
theorem pM{e:Expr}{es:List Expr}{env:Env}(h:u8 e=false):starEach (e::es) env=(false,eval e env)::starEach es env:=by
 cases e <;> first | rfl | cases h
theorem pS{X:Cx}{e:Expr}{es:List Expr}{te:TE}{t:TA}(ha:PE X e te)(hr:PA X es t)(h:u8 e=false:=by rfl):PA X (e::es) (rZ te t):=aa ha hr (pM h)
@[irreducible] def PSq(X:Cx)(sts:List Stmt)(t:TS):Prop:=PSs X sts t
theorem wp{X:Cx}{st:Stmt}{sts:List Stmt}{t u:TS}(h1:PS X st t)(h2:PSq X sts u):PSs X (st::sts) (bI t u):=by
 unfold PSq at h2
 exact ah h1 h2
section
variable {X:Cx}{k ie ir:Nat}{f C:Addr}{fd:FuncData}{ps:List Str}{sp:Sp}{dvs:List V}{ds:List Value}{fx cn en rn:Str}{p pos p2 p3 cp hp tp:Pos}{e:Expr}{es:List Expr}{t:TA}{b₀:Stmt}{suite:List Stmt}{ts:TS}
end
end L2
namespace HT
open PySem PySem.Spec PyProof.Rows
section
variable {prog:Program}{w:World}{A:Around}{E:Value→Shared→Prop}{s:Shared}
end
end HT
namespace L2
open PySem PySem.Spec PyProof.Rows
section
variable {X:Cx}
@[irreducible] def PAq(X:Cx)(es:List Expr)(t:TA):Prop:=PA X es t
theorem uj:PAq X [] vT:=by unfold PAq; exact af
theorem cz{e:Expr}{es:List Expr}{te:TE}{t:TA}(ha:PE X e te)(hr:PAq X es t)(h:u8 e=false:=by rfl):PAq X (e::es) (rZ te t):=by
 unfold PAq at hr ⊢
 exact pS ha hr h
theorem sw{es:List Expr}{t:TA}{pos:Pos}(h:PAq X es t):PE X (.List es pos) (vL t):=by
 unfold PAq at h
 exact cI h
end
section
variable {X:Cx}
@[irreducible] def PEq(X:Cx)(e:Expr)(t:TE):Prop:=PE X e t
@[irreducible] def PSt(X:Cx)(st:Stmt)(t:TS):Prop:=PS X st t
theorem qr{e:Expr}{t:TE}(h:PE X e t):PEq X e t:=by unfold PEq; exact h
theorem nA{e:Expr}{t:TE}(h:PEq X e t):PE X e t:=by unfold PEq at h; exact h
theorem ik{st:Stmt}{t:TS}(h:PS X st t):PSt X st t:=by unfold PSt; exact h
theorem oo{st:Stmt}{t:TS}(h:PSt X st t):PS X st t:=by unfold PSt at h; exact h
theorem sH{es:List Expr}{t:TA}{pos:Pos}(h:PAq X es t):PEq X (.List es pos) (vL t):=qr (sw h)
theorem tZ{st:Stmt}{t:TS}(h:PSt X st t):PSq X [st] t:=by unfold PSq; exact ao (oo h)
theorem fi{st:Stmt}{sts:List Stmt}{t u:TS}(h:PSt X st t)(h2:PSq X sts u):PSq X (st::sts) (bI t u):=by
 unfold PSq at h2 ⊢
 exact ah (oo h) h2
theorem tj{sts:List Stmt}{t:TS}(h:PSq X sts t):PSs X sts t:=by unfold PSq at h; exact h
theorem sM{i:Nat}{x:Str}{e:Expr}{te:TE}{pos pos':Pos}(hN:X.N.Nodup)(hi:X.N[i]? = some x)(hx:Loc X.env.scope x)(he:PEq X e te)(hs:swapsWith e (some (.Name x pos')) pos.line X.env = pure false:=by rfl)(hf:X.fn x = true∨X.env.scope.names.lookup x = some .local:=by first | exact .inl rfl | exact .inr rfl | assumption) :
  PSt X (.Assign [.Name x pos'] e pos) (uk te (ke i)):=ik (ax hN hi hx (nA he) hs hf)
end
structure LamD where
 qual:Str
 params:Arguments
 body:Expr
 scope:Scope
def iS(f:Addr)(d:LamD)(clos:List (Str×Addr))(c:Addr):Heap→Prop:=fun h=>∃ pm ctv,h.get? f=some (kla_obj "<lambda>" d.qual d.params d.body d.scope clos pm c ctv)
def cZ(c:Addr)(v:V):Heap→Prop:=fun h=>∃ o u,h.get? c=some o∧o.data=.cell (some u)∧RelV v u
def ez(c:Addr)(q:Str):Heap→Prop:=fun h=>∃ o vs t,h.get? c=some o∧o.data=.fields vs∧vs[1]? = some (.str q t)
section
variable {P:Program}{w:World}{H:Hp}{h:Heap}
theorem mJ{f:Addr}{d:LamD}{clos:List (Str×Addr)}{c:Addr}{pm ctv:Value}(e:h.get? f=some (kla_obj "<lambda>" d.qual d.params d.body d.scope clos pm c ctv)):ObjOk P w H h f (.ext (iS f d clos c)) :=
 ⟨⟨pm,ctv,e⟩,⟨_,e⟩,fun h1 h2 ⟨pm,ctv,e1⟩ k=>⟨pm,ctv,k _ e1⟩⟩
theorem kS{c:Addr}{v:V}(x:cZ c v h):ObjOk P w H h c (.ext (cZ c v)) :=
 ⟨x,let ⟨o,_,e,_⟩:=x; ⟨o,e⟩,fun h1 h2 ⟨o,u,e1,r⟩ k=>⟨o,u,k _ e1,r⟩⟩
theorem re{c:Addr}{q:Str}(x:ez c q h):ObjOk P w H h c (.ext (ez c q)) :=
 ⟨x,let ⟨o,_,_,e,_⟩:=x; ⟨o,e⟩,fun h1 h2 ⟨o,vs,t,e1,r⟩ k=>⟨o,vs,t,k _ e1,r⟩⟩
end
theorem sF(a:Addr)(o:Obj)(ho:o.data≠.freed):∃ h:Heap,h.get? a=some o:=by
 refine ⟨{ objs:=Array.replicate (a+1) o },?_⟩
 obtain ⟨c,d,dt,sl⟩:=o
 cases dt <;> first | exact absurd rfl ho | simp[Heap.get?]
theorem jP{c:Addr}{q:Str}{v:V}:HO.ext (ez c q)≠HO.ext (cZ c v):=fun e=>by
 injection e with e
 obtain ⟨h,hh⟩:=sF c { cls:=.none,data:=.fields #[.none,.str q 0] } (by intro z; cases z)
 have y:cZ c v h:=by rw[← e]; exact ⟨_,_,_,hh,rfl,rfl⟩
 obtain ⟨o,u,e1,e2,_⟩:=y
 rw[hh]at e1
 cases e1
 cases e2
def xm:HO→Bool
 | .tbl _=>false
 | _=>true
def SameT(H H':Hp):Prop:=∀ b o,H b=some o→(xm o=true→H' b=some o)∧∃ o',H' b=some o'
theorem SameT.refl{H:Hp}:SameT H H:=fun b o e=>⟨fun _=>e,o,e⟩
theorem SameT.trans{H H1 H2:Hp}(a:SameT H H1)(b:SameT H1 H2):SameT H H2:=fun c o e=>by
 obtain ⟨f,o',e'⟩:=a c o e
 obtain ⟨g,o2,e2⟩:=b c o' e'
 exact ⟨fun n=>(b c o (f n)).1 n,o2,e2⟩
theorem Same.t{H H':Hp}(s:Same H H'):SameT H H':=fun b o e=>⟨fun _=>s b o e,o,s b o e⟩
theorem SameT.at{H H':Hp}(s:SameT H H'){a:Addr}{o:HO}(e:H a=some o)(n:xm o=true:=by rfl):H' a=some o:=(s a o e).1 n
theorem SameT.free{H H':Hp}(s:SameT H H'){a:Addr}(e:H' a=none):H a=none:=by
 cases q:H a with
 | none=>rfl
 | some o=>obtain ⟨_,o',e'⟩:=s a o q; rw[e]at e'; cases e'
theorem SameT.put{H H':Hp}(s:SameT H H'){a:Addr}{o:HO}(e:H a=none):SameT H (upd H' a o):=fun b u q=>by
 have n:b≠a:=fun z=>by rw[z,e]at q; cases q
 rw[ag n]
 exact s b u q
def wB(H:Hp)(P:Addr)(ls:List (Pos×Str)):Prop:=∃ ps,H P=some (.tbl ps)∧TriplesOk ps.toList∧∀ l∈ls,codeAmong l.1 ps.toList=none∨∃ c,codeAmong l.1 ps.toList=some (.ref c)∧H c=some (.ext (ez c l.2))
abbrev kn:=List (Addr×List (Pos×Str))
def TabsOk(tabs:kn)(H:Hp):Prop:=∀ q∈tabs,wB H q.1 q.2
theorem TabsOk.same{tabs:kn}{H H':Hp}(t:TabsOk tabs H)(s:Same H H'):TabsOk tabs H':=fun q hq=>by
 obtain ⟨ps,e1,e2,e3⟩:=t q hq
 exact ⟨ps,s _ _ e1,e2,fun l hl=>(e3 l hl).imp id fun ⟨c,a,b⟩=>⟨c,a,s _ _ b⟩⟩
theorem TabsOk.put{tabs:kn}{H:Hp}{r:Addr}{o:HO}(t:TabsOk tabs H)(h1:∀ ps,H r≠some (.tbl ps))(h2:∀ φ,H r≠some (.ext φ)):TabsOk tabs (upd H r o):=fun q hq=>by
 obtain ⟨ps,e1,e2,e3⟩:=t q hq
 refine ⟨ps,?_,e2,fun l hl=>(e3 l hl).imp id fun ⟨c,a,b⟩=>⟨c,a,?_⟩⟩
 ·rw[ag fun z=>h1 ps (by rw[← z]; exact e1)]; exact e1
 ·rw[ag fun z=>h2 _ (by rw[← z]; exact b)]; exact b
theorem kC{p p':Pos}{c:Value}(l:List Value)(h:TriplesOk l)(hn:¬(p.line=p'.line∧p.col=p'.col)):codeAmong p' (l++[rawInt p.line,rawInt p.col,c])=codeAmong p' l:=by
 fun_induction TriplesOk l with
 | case1 =>
  simp only[nil_append,codeAmong,rawInt]
  rw[if_neg]
  intro z
  rw[Bool.and_eq_true,beq_iff_eq,beq_iff_eq]at z
  exact hn ⟨by lia,by lia⟩
 | case2 a t b u x rest ih =>
  simp only[cons_append,codeAmong]
  rw[ih h]
 | case3=>exact h.elim
theorem jz{p:Pos}{c:Value}(l:List Value)(h:TriplesOk l):TriplesOk (l++[rawInt p.line,rawInt p.col,c]):=by
 fun_induction TriplesOk l with
 | case1=>simp[TriplesOk,rawInt]
 | case2 a t b u x rest ih=>exact ih h
 | case3=>exact h.elim
def Bm(mg:Str→Option Value)(base:Heap):Prop:=∃ bm ob,mg "__builtins__" = some (.ref bm)∧base.get? bm=some ob∧ob.cls=.type "module" ∧ ob.dict=some builtinsNs∧ob.data=.plain
def yb(tabs:kn)(d:LamD)(clos:List (Str×Addr)):TE:=fun σ H Q=>TabsOk tabs H∧∀ f c H1,SameT H H1→TabsOk tabs H1→H f=none→H1 f=some (.ext (iS f d clos c))→H1 c=some (.ext (ez c d.qual))→Q (.ref f) H1
theorem jQ{α β:Type}:∀{l:List (α×β)},(l.map (·.1)).Nodup→∀ x∈l,∀ y∈l,x.1=y.1→x=y
 | [],_,x,hx,_,_,_=>by cases hx
 | a::r,nd,x,hx,y,hy,e=>by
  rw[map_cons,nodup_cons]at nd
  rcases mem_cons.mp hx with rfl | hx' <;> rcases mem_cons.mp hy with rfl | hy'
  ·rfl
  ·exact absurd (mem_map.mpr ⟨y,hy',e.symm⟩) nd.1
  ·exact absurd (mem_map.mpr ⟨x,hx',e⟩) nd.1
  ·exact jQ nd.2 x hx' y hy' e
theorem mV:∀{l:List (Pos×Str)},(l.Pairwise fun x y=>¬(x.1.line=y.1.line∧x.1.col=y.1.col))→∀ x∈l,∀ y∈l,(x.1.line=y.1.line∧x.1.col=y.1.col)→x=y
 | [],_,x,hx,_,_,_=>by cases hx
 | a::r,nd,x,hx,y,hy,e=>by
  rw[pairwise_cons]at nd
  rcases mem_cons.mp hx with rfl | hx' <;> rcases mem_cons.mp hy with rfl | hy'
  ·rfl
  ·exact absurd e (nd.1 y hy')
  ·exact absurd ⟨e.1.symm,e.2.symm⟩ (nd.1 x hx')
  ·exact mV nd.2 x hx' y hy' e
section
variable {X:Cx}{tabs:kn}{P c:Addr}{ls:List (Pos×Str)}{d:LamD}{clos:List (Str×Addr)}{pos:Pos}
theorem vP(hcd:X.env.code=.ref c)(hC:codeHdIn X.K c P=true)(hB:Bm X.mg X.base)(hq:X.env.qual ++ "<lambda>" = d.qual)(hcl:closureFor d.scope X.env=pure clos)(hdef:defaultsOf d.params X.env=([],[]))
  (hm:(P,ls)∈tabs) (hl:(pos,d.qual)∈ls) (hnd:(tabs.map (·.1)).Nodup) (hps:ls.Pairwise fun x y=>¬(x.1.line=y.1.line∧x.1.col=y.1.col)):PE X (.Lambda d.params d.body d.scope pos) (yb tabs d clos):=by
 intro pins s σ H Q I h
 obtain ⟨hT,hQ⟩:=h
 refine PySem.W.kla_eval hdef ?_
 rw[hq]
 obtain ⟨ps,hP,htr,hls⟩:=hT _ hm
 have hgs:s.heap.Ns mainGlobals X.mg:=I.mod.glob.keeps I.bk
 have C:CodeHd s.heap c P:=codeHd_of_K I.kIn hC
 have hPo:s.heap.get? P=some (tabObj ps):=I.hok P _ hP
 have hgP:mainGlobals≠P:=fun q=>by
  obtain ⟨o,es,ep,e,hd,_⟩:=hgs
  rw[q,hPo]at e; cases e; cases hd
 obtain ⟨bm,ob,b1,b2,b3,b4,b5⟩:=hB
 have bo:=I.bk _ _ b2
 have hbP:bm≠P:=fun q=>by
  rw[q,hPo]at bo; cases bo; cases b3
 have hbG:bm≠mainGlobals:=fun q=>by
  obtain ⟨o,es,ep,e,hd,_⟩:=hgs
  rw[q,e]at bo; cases bo; rw[hd]at b5; cases b5
 have hbB:bm≠builtinsNs:=fun q=>by
  obtain ⟨mb,⟨o,es,ep,e,hd,_⟩,_⟩:=I.mod.blt
  rw[q,e]at b2; cases b2; rw[hd]at b5; cases b5
 have BA:s.heap.BuiltinsAt X.mg P:=⟨bm,ob,b1,hbB,hbG,hbP,bo,b3,b4,b5⟩
 rcases hls _ hl with hn | ⟨c',hc,hHc⟩
 ·refine PySem.W.kla_makeFunction (mg:=X.mg) hcl I.ok.glob hgs hcd C hPo htr hn hgP BA fun c' ctv h' tk hx hge hlt hrec htb=>?_
  have hc0:H c'=none:=I.hok.fresh hge
  have hf0:H h'.objs.size=none:=I.hok.fresh (Nat.le_trans hge (Nat.le_of_lt hlt))
  have ncf:c'≠h'.objs.size:=Nat.ne_of_lt hlt
  have nPc:P≠c':=au hP hc0
  have nPf:P≠h'.objs.size:=au hP hf0
  obtain ⟨f,hf⟩:∃ f,f=h'.objs.size:=⟨_,rfl⟩
  obtain ⟨ob',hob⟩:∃ o,o=kla_obj "<lambda>" d.qual d.params d.body d.scope clos ((X.mg "__name__").getD .none) c' ctv:=⟨_,rfl⟩
  have hfo:(h'.push ob').get? f=some ob':=by rw[hf,hob]; exact Heap.get?_push_size _ rfl
  have keep:∀ b o,b≠P→s.heap.get? b=some o→(h'.push ob').get? b=some o:=fun b o n e=>Heap.get?_push_of_some _ (hx b o n e)
  have htb':(h'.push ob').get? P=some (tabObj (ps ++ #[rawInt pos.line,rawInt pos.col,.ref c'])):=Heap.get?_push_of_some _ htb
  have hcx:ez c' d.qual (h'.push ob'):=by
   obtain ⟨c2,oc,vs,t,e2,hoc,hdt,hv⟩:=hrec
   cases e2
   exact ⟨oc,vs,t,Heap.get?_push_of_some _ hoc,hdt,hv⟩
  rw[← hf]at hf0 ncf nPf ⊢
  rw[← hob]
  obtain ⟨H1,hH1⟩:∃ H1,H1=upd (upd (upd H P (.tbl (ps ++ #[rawInt pos.line,rawInt pos.col,.ref c']))) c' (.ext (ez c' d.qual))) f (.ext (iS f d clos c')):=⟨_,rfl⟩
  have gf:H1 f=some (.ext (iS f d clos c')):=by rw[hH1]; exact ad
  have gc:H1 c'=some (.ext (ez c' d.qual)):=by rw[hH1,ag ncf]; exact ad
  have gP:H1 P=some (.tbl (ps ++ #[rawInt pos.line,rawInt pos.col,.ref c'])):=by rw[hH1,ag nPf,ag nPc]; exact ad
  have go:∀ b,b≠P→b≠c'→b≠f→H1 b=H b:=fun b h1 h2 h3=>by rw[hH1,ag h3,ag h2,ag h1]
  have same:∀ b o,b≠P→H b=some o→H1 b=some o:=fun b o n e=>by rw[go b n (au e hc0) (au e hf0)]; exact e
  have nt:∀ b o,H b=some o→(∀ qs,o≠.tbl qs)→b≠P:=fun b o e n z=>by rw[z,hP]at e; cases e; exact n ps rfl
  have un:Un X.fs [] H H1 s.heap (h'.push ob'):=by
   refine ⟨fun b o e n _ _=>keep b o (fun z=>by rw[z,hP]at n; cases n) e,fun b o e n _ _=>⟨o.slots,keep b o (fun z=>by rw[z,hP]at n; cases n) e⟩,fun b o e n _=>?_,fun b o e _=>?_,fun b xs e=>same b _ (nt b _ e fun _ z=>nomatch z) e,fun b o u e=>same b _ (nt b _ e fun _ z=>nomatch z) e,fun b qs e=>?_⟩
   ·have hb:b<s.heap.objs.size:=Heap.lt_size e
    rw[go b (fun z=>by rw[z,hP]at n; cases n) (Nat.ne_of_lt (Nat.lt_of_lt_of_le hb hge)) (by rw[hf]; exact Nat.ne_of_lt (Nat.lt_of_lt_of_le hb (Nat.le_trans hge (Nat.le_of_lt hlt))))]
    exact n
   ·by_cases hb:b=P
    ·rw[hb]; exact ⟨_,htb'⟩
    ·exact ⟨o,keep b o hb e⟩
   ·by_cases hb:b=P
    ·rw[hb,hP]at e
     cases e
     rw[hb]
     exact ⟨_,gP⟩
    ·exact ⟨#[],by rw[same b _ hb e]; simp⟩
  have hok:HOk X.prog X.w H1 (h'.push ob'):=fun a o e=>by
   by_cases h1:a=f
   ·subst h1; rw[gf]at e; cases e; exact mJ (by rw[hfo,hob])
   by_cases h2:a=c'
   ·subst h2; rw[gc]at e; cases e; exact re hcx
   by_cases h3:a=P
   ·subst h3; rw[gP]at e; cases e; exact htb'
   rw[go a h3 h2 h1]at e
   refine (I.hok a o e).stay (fun b u hb q=>keep b u ?_ q) (fun b q=>same b _ (nt b _ q fun _ z=>nomatch z) q) fun b xs q=>same b _ (nt b _ q fun _ z=>nomatch z) q
   rcases hb with rfl | hb
   ·exact h3
   ·exact nt b _ hb fun _ z=>nomatch z
  refine ⟨.ref f,H1,I.un (h':=h'.push ob') (t':=tk) un hok,rfl,hQ f c' H1 (fun b o e=>?_) (fun q hq'=>?_) hf0 gf gc⟩
  ·by_cases hb:b=P
   ·subst hb
    rw[hP]at e
    cases e
    exact ⟨fun z=>(Bool.false_ne_true z).elim,_,gP⟩
   ·exact ⟨fun _=>same b o hb e,o,same b o hb e⟩
  ·by_cases hqP:q.1=P
   ·have hqe:q=(P,ls):=jQ hnd q hq' (P,ls) hm hqP
    subst hqe
    refine ⟨_,gP,by rw[Array.toList_append]; exact jz _ htr,fun l' hl'=>?_⟩
    rw[Array.toList_append]
    by_cases hp:pos.line=l'.1.line∧pos.col=l'.1.col
    ·have:=mV hps (pos,d.qual) hl l' hl' hp
     subst this
     exact .inr ⟨c',codeAmong_snoc _ htr hn,gc⟩
    ·have eo:=kC (c:=.ref c') ps.toList htr hp
     rcases hls l' hl' with z | ⟨c2,z1,z2⟩
     ·exact .inl (eo.trans z)
     ·exact .inr ⟨c2,eo.trans z1,same c2 _ (nt c2 _ z2 fun _ z=>nomatch z) z2⟩
   ·obtain ⟨qs,e1,e2,e3⟩:=hT q hq'
    exact ⟨qs,same _ _ hqP e1,e2,fun l' hl'=>(e3 l' hl').imp id fun ⟨c2,z1,z2⟩=>⟨c2,z1,same c2 _ (nt c2 _ z2 fun _ z=>nomatch z) z2⟩⟩
 ·refine PySem.W.kla_makeFunctionHit (mg:=X.mg) hcl I.ok.glob hgs hcd C hPo htr hc BA fun ctv h' tk hk hsz=>?_
  have hf0:H h'.objs.size=none:=I.hok.fresh hsz
  have sm:Same H (upd H h'.objs.size (.ext (iS h'.objs.size d clos c'))):=Same.new hf0
  refine ⟨.ref h'.objs.size,_,I.laid (a:=h'.objs.size) (o:=.ext (iS h'.objs.size d clos c')) (t':=tk) (fun b u e=>Heap.get?_push_of_some _ (hk b u e)) hsz (mJ (Heap.get?_push_size _ rfl)),rfl,hQ _ c' _ sm.t (hT.same sm) hf0 ad (sm _ _ hHc)⟩
end
def untrs(H:Hp)(cs:List Addr):Hp:=fun b=>if b∈cs then none else H b
theorem fJ{H:Hp}{cs:List Addr}{b:Addr}(h:b∈cs):untrs H cs b=none:=by unfold untrs; rw[if_pos h]
theorem dN{H:Hp}{cs:List Addr}{b:Addr}(h:b ∉ cs):untrs H cs b=H b:=by unfold untrs; rw[if_neg h]
theorem cP{H:Hp}{cs:List Addr}{b:Addr}(h:H b=none):untrs H cs b=none:=by unfold untrs; split <;> first | rfl | exact h
abbrev CellsAt(H:Hp):List (Str×Addr)→List V→Prop:=Paired fun (p:Str×Addr) (v:V)=>H p.2=some (.ext (cZ p.2 v))
theorem CellsAt.mem{H:Hp}:∀{clos:List (Str×Addr)}{vals:List V},CellsAt H clos vals→∀ p∈clos,∃ v,H p.2=some (.ext (cZ p.2 v))
 | _,_,.nil,p,h=>by cases h
 | _,_,.cons r t,p,h=>by
  rcases mem_cons.mp h with rfl | h
  ·exact ⟨_,r⟩
  ·exact CellsAt.mem t p h
theorem CellsAt.get{H:Hp}:∀{clos:List (Str×Addr)}{vals:List V}{i:Nat}{v:V},CellsAt H clos vals→vals[i]? = some v→∃ p,clos[i]? = some p∧H p.2=some (.ext (cZ p.2 v))
 | _,_,_,_,.nil,h=>by cases h
 | _,_,0,_,.cons r t,h=>by cases h; exact ⟨_,rfl,r⟩
 | _,_,i+1,_,.cons r t,h=>CellsAt.get (i:=i) t h
theorem CellsAt.at{H:Hp}{clos:List (Str×Addr)}{vals:List V}(ca:CellsAt H clos vals){b:Addr}(hb:b∈clos.map (·.2)):∃ v,H b=some (.ext (cZ b v)):=by
 obtain ⟨p,hp,rfl⟩:=mem_map.mp hb
 exact ca.mem p hp
theorem du{H:Hp}{clos:List (Str×Addr)}{vals:List V}{b:Addr}{o:HO}(ca:CellsAt H clos vals)(h:H b=some o)(n:∀ v,o≠.ext (cZ b v)):untrs H (clos.map (·.2)) b=some o:=by
 rw[dN fun z=>?_]
 ·exact h
 ·obtain ⟨v,e⟩:=ca.at z
  rw[h]at e
  exact n v (Option.some.inj e)
theorem cT{α:Type}:∀{l:List (Str×α)}{x:Str}{u:α},(l.map (·.1)).Nodup→(x,u)∈l→l.lookup x=some u
 | [],_,_,_,h=>by cases h
 | (y,w)::r,x,u,nd,h=>by
  rw[map_cons,nodup_cons]at nd
  rcases mem_cons.mp h with e | h
  ·cases e; simp[List.lookup]
  ·have:x≠y:=fun z=>nd.1 (mem_map.mpr ⟨(x,u),h,z⟩)
   rw[lookup_cons,beq_eq_false_iff_ne.mpr this]
   exact cT nd.2 h
theorem pB{α:Type}{l:List α}(h:l.Nodup):l.reverse.Nodup:=by
 unfold List.Nodup at h ⊢
 rw[List.pairwise_reverse]
 exact h.imp fun n z=>n z.symm
def gZ(d:LamD)(L f c:Addr)(clos:List (Str×Addr)):Env:={ scope:=d.scope,locals:=L,globals:=mainGlobals,cells:=clos,qual:=d.qual ++ ".<locals>.",func:=some f,code:=.ref c,frame:=some L,builtins:=builtinsNs }
def cxL(P:Program)(w:World)(K:Frag)(mg:Str→Option Value)(base:Heap)(N:List Str)(d:LamD)(clos:List (Str×Addr))(f c:Addr)(A:Around)(outer:List Env)(s:Shared)(H:Hp):Cx where
 prog:=P
 w:=w
 K:=K
 mg:=mg
 base:=base
 A:=A.deeper (gZ d s.heap.objs.size f c clos)
 N:=N
 s₀:=s
 H₀:=untrs H (clos.map (·.2))
 env:=gZ d s.heap.objs.size f c clos
 outer:=outer
 stack:=gZ d s.heap.objs.size f c clos::outer
 ex:=[]
 calm:=true
 fn:=fun _=>false
 pn:=[]
 xe:=fun _ _=>False
def kD(P:Program)(w:World)(K:Frag)(mg:Str→Option Value)(base:Heap)(k:Nat)(d:LamD)(fv ps:List Str)(sp:List V→Sp):Prop :=
 ∀(A:Around) (outer:List Env) (s:Shared) (H:Hp) (f c:Addr) (clos:List (Str×Addr)) (us:List Value) (vs vals:List V) (Q:VK) (E:XK),Room k A→Env0 P w K mg base A outer s H→H f=some (.ext (iS f d clos c))→H c=some (.ext (ez c d.qual)) →
  clos.map (·.1)=fv→(clos.map (·.2)).Nodup→CellsAt H clos vals→Vals vs us→sp vals vs H Q E→codeAny (model P w) A (.call (.ref f) ⟨us,[]⟩) (CR CX0 outer P w H s Q E) s
structure LamScope(d:LamD)(fv ps:List Str):Prop where
 kind:d.scope.kind=.function
 co:d.scope.isCoroutine=false
 gen:d.scope.isGenerator=false
 nocell:∀ x∈d.scope.names,x.2≠.cell
 par:∀ x ∈ ps,d.scope.names.lookup x = some .local
 free:∀ x∈d.scope.names,x.2=.free→x.1∈fv
 fr:∀ x∈fv,d.scope.names.lookup x=some .free
 nd:(ps++fv).Nodup
theorem bW{α β:Type}[BEq α][LawfulBEq α]:∀{l:List (α×β)}{x:α}{u:β},l.lookup x=some u→(x,u)∈l
 | [],_,_,h=>by cases h
 | (y,w)::r,x,u,h=>by
  rw[lookup_cons]at h
  cases e:x == y with
  | true=>rw[e]at h; cases h; rw[eq_of_beq e]; exact mem_cons_self ..
  | false=>rw[e]at h; exact mem_cons_of_mem _ (bW h)
theorem lJ{P:Program}{w:World}{K:Frag}{mg:Str→Option Value}{base:Heap}{d:LamD}{fv ps:List Str}{clos:List (Str×Addr)}{f c:Addr}{A:Around}{outer:List Env}{s:Shared}{H:Hp}{us:List Value}{vs vals:List V}{h1:Heap}{tk:Nat}
  (S:LamScope d fv ps) (hd:A.handled=none) (e0:Env0 P w K mg base A outer s H) (hl:vs.length=ps.length) (r:Vals vs us) (hfv:clos.map (·.1)=fv) (hnd:(clos.map (·.2)).Nodup) (ca:CellsAt H clos vals)
  (hns:h1.Ns s.heap.objs.size (fun x=>(ps.zip us).reverse.lookup x)) (hk:∀ b o,s.heap.get? b=some o→h1.get? b=some o) :
  Inv (cxL P w K mg base (ps++fv) d clos f c A outer s H) [] ((vs++vals).map some) (untrs H (clos.map (·.2))) { s with heap:=h1,toks:=tk }:=by
 have ndf:(clos.map (·.1)).Nodup:=by rw[hfv]; exact (nodup_append.mp S.nd).2.1
 have ndp:ps.Nodup:=(nodup_append.mp S.nd).1
 have lus:us.length=ps.length:=by rw[← r.length]; exact hl
 have hin:∀ x c',clos.lookup x=some c'→c'∈clos.map (·.2):=fun x c' e=>mem_map.mpr ⟨(x,c'),bW e,rfl⟩
 have cellOf:∀ b v,H b=some (.ext (cZ b v))→∃ u,RelV v u∧h1.IsCell b (some u):=fun b v e=>by
  obtain ⟨⟨o,u,g1,g2,g3⟩,_⟩:=e0.hok b _ e
  exact ⟨u,g3,o,hk _ _ g1,g2⟩
 have noA:∀ b:Addr,b ∉ (cxL P w K mg base (ps++fv) d clos f c A outer s H).ex:=fun b z=>absurd (show b∈([]:List Addr) from z) (by simp)
 have lcl:clos.length=fv.length:=by rw[← hfv,length_map]
 have lva:vals.length=clos.length:=(Paired.length ca).symm
 refine ⟨⟨e0.mod,S.kind,rfl,rfl,Nat.le_refl _,fun y z c' h1 h2=>?_,fun y hy=>?_,fun y c' h=>(Bool.false_ne_true h).elim,fun _=>hd,Around.frames_deeper e0.frames,.inr ⟨rfl,rfl⟩,fun b z=>absurd z (noA b),fun b o e=>⟨(e0.bs b o e).1,cP (e0.bs b o e).2⟩,e0.bsz,fun b _ _=>noA b,fun b z=>absurd z (noA b),e0.funs,fun b hb=>cP (e0.frf b hb)⟩,
  rfl,e0.bare,Un.kept hk,⟨_,hns,fun i y v g1 g2 g3=>?_⟩,fun y c' h=>?_,cP (e0.hok.fresh (Nat.le_refl _)),fun y c' h=>fJ (hin y c' h),fun p hp=>absurd (show p∈([]:List (Addr×Obj)) from hp) (by simp),fun b u e=>?_,?_⟩
 ·have h1:clos.lookup y=some c':=h1
  have h2:clos.lookup z=some c':=h2
  have e1:=bW h1
  have e2:=bW h2
  have nd2:((clos.map fun p=>(p.2,p.1)).map (·.1)).Nodup:=by rw[map_map]; exact hnd
  have:=jQ nd2 (c',y) (mem_map.mpr ⟨_,e1,rfl⟩) (c',z) (mem_map.mpr ⟨_,e2,rfl⟩) rfl
  exact congrArg Prod.snd this
 ·have hy:d.scope.names.lookup y=some .cell∨d.scope.names.lookup y=some .free:=hy
  rcases hy with hy | hy
  ·exact absurd rfl (S.nocell _ (bW hy))
  ·have:=S.free _ (bW hy) rfl
   rw[← hfv]at this
   obtain ⟨p,hp,e⟩:=mem_map.mp this
   have e':p.1=y:=e
   exact ⟨p.2,cT ndf (by show (y,p.2)∈clos; rw[← e']; exact hp)⟩
 ·have g1:(ps++fv)[i]? = some y:=g1
  by_cases hi:i<ps.length
  ·rw[List.getElem?_append_left hi]at g1
   rw[List.getElem?_map,List.getElem?_append_left (by lia)]at g2
   have g2':vs[i]? = some v:=by
    cases q:vs[i]? with
    | none=>rw[q]at g2; cases g2
    | some x=>rw[q]at g2; cases g2; rfl
   obtain ⟨u,hu,rv⟩:=r.get g2'
   refine ⟨u,rv,.inl ⟨S.par y (List.mem_of_getElem? g1),?_⟩⟩
   have mem:(y,u)∈ps.zip us:=List.mem_of_getElem? (i:=i) (by rw[List.getElem?_zip_eq_some]; exact ⟨g1,hu⟩)
   refine cT ?_ (List.mem_reverse.mpr mem)
   rw[List.map_reverse]
   refine pB ?_
   have:(ps.zip us).map (·.1)=ps:=by rw[List.map_fst_zip]; lia
   rw[this]
   exact ndp
  ·rw[List.getElem?_append_right (by lia)]at g1
   rw[List.getElem?_map,List.getElem?_append_right (by lia)]at g2
   have g2':vals[i - ps.length]? = some v:=by
    rw[hl]at g2
    cases q:vals[i - ps.length]? with
    | none=>rw[q]at g2; cases g2
    | some x=>rw[q]at g2; cases g2; rfl
   obtain ⟨p,hp,e⟩:=ca.get g2'
   rw[← hfv,List.getElem?_map,hp]at g1
   cases g1
   obtain ⟨u,rv,ic⟩:=cellOf _ _ e
   have hmem:=List.mem_of_getElem? hp
   refine ⟨u,rv,.inr ⟨.inr (S.fr p.1 ?_),p.2,cT ndf hmem,ic⟩⟩
   rw[← hfv]
   exact mem_map.mpr ⟨p,hmem,rfl⟩
 ·obtain ⟨v,e⟩:=ca.at (hin y c' h)
  obtain ⟨u,_,ic⟩:=cellOf _ _ e
  exact ⟨_,ic⟩
 ·by_cases hb:b∈clos.map (·.2)
  ·rw[fJ hb]at e; cases e
  ·rw[dN hb]at e
   refine (e0.hok b u e).stay (fun b' u' _ q=>hk b' u' q) (fun b' q=>?_) fun b' xs q=>?_
   ·exact du ca q fun v z=>nomatch z
   ·exact du ca q fun v z=>nomatch z
 ·show ((vs++vals).map some).length=(ps++fv).length
  rw[length_map,length_append,length_append]
  lia
section
variable {P:Program}{w:World}{K:Frag}{mg:Str→Option Value}{base:Heap}
theorem vw{d:LamD}{fv ps:List Str}{k:Nat}{sp:List V→Sp}(S:LamScope d fv ps)
  (hbind:∀(pm ctv:Value) (clos:List (Str×Addr)) (c:Addr) (us:List Value),us.length=ps.length→bindArgs (kla_fn "<lambda>" d.qual d.params d.body d.scope clos pm (.ref c) ctv) ⟨us,[]⟩=pure (ps.zip us))
  (len:∀ vals vs H Q E,sp vals vs H Q E→vs.length=ps.length)
  (hbody:∀(A:Around) (outer:List Env) (s:Shared) (H:Hp) (f c:Addr) (clos:List (Str×Addr)) (vals vs:List V) (Q:VK) (E:XK),Room k (A.deeper (gZ d s.heap.objs.size f c clos))→clos.map (·.1)=fv→CellsAt H clos vals→sp vals vs H Q E →
   ∃ t,PE (cxL P w K mg base (ps++fv) d clos f c A outer s H) d.body t∧t ((vs++vals).map some) (untrs H (clos.map (·.2))) (fun v H'=>∀ H3,Same H' H3→(∀ p∈clos,H3 p.2=H p.2)→Q v H3)) :
  kD P w K mg base (k+1) d fv ps sp:=by
 intro A outer s H f c clos us vs vals Q E hr e0 hf hc hfv hnd ca r hsp
 have hl:=len _ _ _ _ _ hsp
 have lus:us.length=ps.length:=by rw[← r.length]; exact hl
 obtain ⟨⟨pm,ctv,ef⟩,_,_⟩:=e0.hok f _ hf
 obtain ⟨⟨oc,cvs,ct,ec,ed,ev⟩,_,_⟩:=e0.hok c _ hc
 have lim:s.heap.NoLimit:=e0.mod.nolimit.keeps fun b o e=>(e0.bs b o e).1
 obtain ⟨t,ht,hq⟩:=hbody A outer s H f c clos vals vs Q E (hr.deeper _) hfv ca hsp
 refine PySem.W.kla_callFunE (body:=d.body) hr.depth ef rfl S.co S.gen rfl ⟨c,oc,cvs,ct,rfl,ec,ed,ev⟩ ?_
 rw[hbind pm ctv clos c us lus]
 refine wpAny_pure (wpAny_newFunctionEnv S.nocell (fun y hy=>S.par y.1 (of_mem_zip hy).1) (fun h1 hns hsb=>?_) S.kind)
 have hk:∀ b o,s.heap.get? b=some o→h1.get? b=some o:=fun b o e=>hsb.extBut b o (Nat.ne_of_lt (Heap.lt_size e)) (Heap.get?_push_of_some _ e)
 refine ⟨lim.fresh _ hsb,?_⟩
 show codeAny _ _ (.expr d.body (gZ d s.heap.objs.size f c clos)) _ _
 have I:=lJ (f:=f) (c:=c) (tk:=s.toks+(ps.zip us).length) S hr.hd e0 hl r hfv hnd ca hns hk
 refine PySem.W.kla_codeExpr (wpAny_mono (ht [] _ _ _ _ I hq) (fun u s' hs=>?_) fun e s' z=>False.elim z)
 obtain ⟨v,H',J,rv,q⟩:=hs
 obtain ⟨cs,hcs⟩:∃ cs,cs=clos.map (·.2):=⟨_,rfl⟩
 have ub:Un (frs outer) [] (untrs H (clos.map (·.2))) H' s.heap s'.heap:=J.base
 have hat:∀ b,b∈clos.map (·.2)→∃ o v,s.heap.get? b=some o∧H b=some (.ext (cZ b v)):=fun b hb=>by
  obtain ⟨v,e⟩:=ca.at hb
  obtain ⟨⟨o,_,g,_⟩,_⟩:=e0.hok b _ e
  exact ⟨o,v,g,e⟩
 have hfr:∀ b∈clos.map (·.2),H' b=none:=fun b hb=>by
  obtain ⟨o,v,g,_⟩:=hat b hb
  exact ub.free b o g (fJ hb) (by simp)
 let H3:Hp:=fun b=>if b∈clos.map (·.2) then H b else H' b
 have g1:∀ b,b∈clos.map (·.2)→H3 b=H b:=fun b hb=>if_pos hb
 have g2:∀ b,b ∉ clos.map (·.2)→H3 b=H' b:=fun b hb=>if_neg hb
 have sm:Same H' H3:=fun b o e=>by
  rw[g2 b fun z=>by rw[hfr b z]at e; cases e]
  exact e
 have up:∀ b o,H b=some o→(∀ v,o≠.ext (cZ b v))→b ∉ clos.map (·.2):=fun b o e n z=>by
  obtain ⟨v,e'⟩:=ca.at z
  rw[e]at e'
  exact n v (Option.some.inj e')
 refine ⟨v,H3,J.os,J.bare,⟨fun b o e n hb hx=>ub.keep b o e (cP n) hb hx,fun b o e n hb hx=>ub.slot b o e (cP n) hb hx,fun b o e n hx=>?_,ub.there,fun b xs e=>?_,fun b o u e=>?_,fun b ps' e=>?_⟩,fun b o e=>?_,rv,q H3 sm fun p hp=>g1 p.2 (mem_map.mpr ⟨p,hp,rfl⟩)⟩
 ·rw[g2 b fun z=>by obtain ⟨_,v,_,e'⟩:=hat b z; rw[n]at e'; cases e']
  exact ub.free b o e (cP n) hx
 ·exact sm _ _ (ub.tups b xs (du ca e fun v z=>nomatch z))
 ·exact sm _ _ (ub.frzs b o u (du ca e fun v z=>nomatch z))
 ·obtain ⟨more,z⟩:=ub.tbls b ps' (du ca e fun v z=>nomatch z)
  exact ⟨more,sm _ _ z⟩
 ·by_cases hb:b∈clos.map (·.2)
  ·rw[g1 b hb]at e
   obtain ⟨o',v',g,e'⟩:=hat b hb
   rw[e]at e'
   cases e'
   obtain ⟨⟨o2,u2,k1,k2,k3⟩,_⟩:=e0.hok b _ e
   refine kS ⟨o2,u2,ub.keep b o2 k1 (fJ hb) (fun z=>?_) (by simp),k2,k3⟩
   rw[e0.frf b z]at e
   cases e
  ·rw[g2 b hb]at e
   refine (J.hok b o e).stay (fun b' u' _ q=>q) (fun b' q=>sm _ _ q) fun b' xs q=>sm _ _ q
end
theorem PE.or{X:Cx}{e:Expr}{t t':TE}(h:PE X e t)(h':PE X e t'):PE X e (fun σ H Q=>t σ H Q∨t' σ H Q):=fun pins s σ H Q I q=>q.elim (h pins s σ H Q I) (h' pins s σ H Q I)
def xw(d:LamD)(fv:List Str)(sp:List V→Sp):V→List V→Hp→VK→Prop:=fun v vs H Q=>∃ f c clos vals,v=.ref f∧H f=some (.ext (iS f d clos c))∧H c=some (.ext (ez c d.qual))∧clos.map (·.1)=fv∧(clos.map (·.2)).Nodup∧CellsAt H clos vals∧sp vals vs H Q fun _ _ _=>False
section
variable {X:Cx}{d:LamD}{fv ps:List Str}{k:Nat}{sp:List V→Sp}{x:Str}{p pos:Pos}{tf:TE}{t:TA}{e:Expr}{es:List Expr}
theorem tz{pins:List (Addr×Obj)}{σ:St}{H:Hp}{s:Shared}{Q:VK}{us:List Value}{vs:List V}{v:V}{u:Value}(L:kD X.prog X.w X.K X.mg X.base k d fv ps sp)(hr:Room k X.A)(I:Inv X pins σ H s)(rv:RelV v u)(r:Vals vs us)(h:xw d fv sp v vs H Q) :
  wpAny (model X.prog X.w) X.A (call u us) (EP X pins σ Q) X.xe s:=by
 obtain ⟨f,c,clos,vals,rfl,hf,hc,h1,h2,h3,h4⟩:=h
 obtain rfl:u=Value.ref f:=rv
 refine wpAny_call (codeAny_mono (L X.A X.stack s H f c clos us vs vals Q _ hr I.env0 hf hc h1 h2 h3 r h4) fun r s' hq=>?_)
 cases r with
 | error e=>exact False.elim hq
 | ok fl =>
  cases fl with
  | ret u=>exact I.after hq
  | next=>exact False.elim hq
  | brk=>exact False.elim hq
  | cont=>exact False.elim hq
theorem ue{H:Hp}{s:Shared}{P:Program}{w:World}{f c:Addr}{d:LamD}{clos:List (Str×Addr)}(ok:HOk P w H s.heap)(hf:H f=some (.ext (iS f d clos c))):FnAt f s.heap:=by
 obtain ⟨⟨pm,ctv,ef⟩,_,_⟩:=ok f _ hf
 exact ⟨_,_,_,_,ef⟩
theorem pH(hn:PE X (.Name x p) tf)(L:kD X.prog X.w X.K X.mg X.base k d fv ps sp)(hr:Room k X.A):PE X (.Call (.Name x p) [] [] pos) (fun σ H Q=>tf σ H fun v H1=>xw d fv sp v [] H1 Q):=by
 intro pins s σ H Q I h
 refine wpAny_Call_Name_kw (thn (hn pins s σ H _ I h) fun u s1 ⟨v,H1,I1,rv,q⟩=>?_)
 obtain ⟨f,c,clos,vals,ef,hf,_⟩:=id q
 subst ef
 obtain rfl:u=Value.ref f:=rv
 exact PySem.W.callWith_F0 (ue I1.hok hf) (tz (us:=[]) L hr I1 (v:=.ref f) rfl .nil q)
end
abbrev TR:=VK→(V→St→Hp→Prop)→St→Hp→Prop
def PR(X:Cx)(sts:List Stmt)(t:TR):Prop :=
 ∀(pins:List (Addr×Obj)) (s:Shared) (σ:St) (H:Hp) (R:VK) (Z:V→St→Hp→Prop),Inv X pins σ H s→t R Z σ H →
  wpAny (model X.prog X.w) X.A (execs sts X.env) (fun f s'=>∃ u,f=.ret u∧((∃ v σ' H',Inv X pins σ' H' s'∧RelV v u∧(R v H'∨Z v σ' H'))∨∃ v H',s'.os=X.s₀.os∧AllBare s'.gens∧Un X.fs X.ex X.H₀ H' X.s₀.heap s'.heap∧HOk X.prog X.w H' s'.heap∧RelV v u∧R v H')) X.xe s
section
variable {X:Cx}{e:Expr}{te:TE}{pos:Pos}{st:Stmt}{rest:List Stmt}{t:TS}{u:TR}
theorem v9(he:PE X e te):PR X [.Return (some e) pos] (fun _ Z σ H=>te σ H fun v H'=>Z v σ H'):=by
 intro pins s σ H R Z I h
 refine wpAny_execs_cons (wpAny_Return_some (thn (he pins s σ H _ I h) fun v s1 ⟨x,H1,I1,r1,q1⟩=>?_))
 exact ⟨v,rfl,.inl ⟨x,σ,H1,I1,r1,.inr q1⟩⟩
end
def mX(cells:List (Str×Addr))(N:List Str)(σ:St)(H3:Hp):Prop:=∀(i:Nat) (y:Str) (v:V) (c:Addr),N[i]? = some y→σ[i]? = some (some v)→cells.lookup y=some c→H3 c=some (.ext (cZ c v))
theorem fV{y:Str}{c:Addr}:∀(names:List (Str×NameKind)) (n:Nat) (acc:List (Str×Addr)),(y,c)∈cellsFrom n names acc→(y,c)∈acc∨(y,NameKind.cell)∈names
 | [],n,acc,h=>.inl h
 | (x,k)::r,n,acc,h=>by
  unfold cellsFrom at h
  split at h
  ·rename_i hk
   rcases fV r (n+1) ((x,n)::acc) h with z | z
   ·rcases mem_cons.mp z with e | z
    ·cases e
     rw[eq_of_beq hk]
     exact .inr (mem_cons_self ..)
    ·exact .inl z
   ·exact .inr (mem_cons_of_mem _ z)
  ·rcases fV r n acc h with z | z
   ·exact .inl z
   ·exact .inr (mem_cons_of_mem _ z)
section
variable {P:Program}{w:World}{K:Frag}{mg:Str→Option Value}{base:Heap}
theorem xp{CX:CXT}{N:List Str}{qual:Str}{scope:Scope}{f:Addr}{cd:Value}{A:Around}{outer:List Env}{s s':Shared}{H H':Hp}{E:XK}{σ:St}(hN:N.Nodup)(hck:∀ p∈scope.names,p.2=.cell→scope.names.lookup p.1=some .cell)
  {pins:List (Addr×Obj)}(J:Inv (hX CX P w K mg base N qual scope f cd A outer s H E) pins σ H' s') :
  ∃ H3,Same H' H3∧mX (cellsFrom (s.heap.objs.size+1) scope.names []) N σ H3∧(∀ b,H' b=none→H3 b≠none→∃ y,(cellsFrom (s.heap.objs.size+1) scope.names []).lookup y=some b)∧Un (frs outer) [] H H3 s.heap s'.heap∧HOk P w H3 s'.heap:=by
 have hvis:∀ y c,(cellsFrom (s.heap.objs.size+1) scope.names []).lookup y=some c→scope.names.lookup y=some .cell:=fun y c e=>by
  rcases fV _ _ _ (bW e) with z | z
  ·cases z
  ·exact hck _ z rfl
 obtain ⟨cells,hcells⟩:∃ l,l=cellsFrom (s.heap.objs.size+1) scope.names []:=⟨_,rfl⟩
 rw[← hcells]at hvis ⊢
 have henv:(hX CX P w K mg base N qual scope f cd A outer s H E).env.cells=cells:=hcells.symm
 let G:Addr→V→Prop:=fun b v=>∃(i:Nat) (y:Str),N[i]? = some y∧σ[i]? = some (some v)∧cells.lookup y=some b
 have G1:∀ b v v',G b v→G b v'→v=v':=by
  rintro b v v' ⟨i,y,a1,a2,a3⟩ ⟨j,z,b1,b2,b3⟩
  have:y=z:=J.ok.inj y z b (by rw[henv]; exact a3) (by rw[henv]; exact b3)
  subst this
  have:i=j:=iz hN a1 b1
  subst this
  rw[a2]at b2
  cases b2
  rfl
 have G2:∀ b v,G b v→H' b=none∧s.heap.objs.size≤b∧cZ b v s'.heap:=by
  rintro b v ⟨i,y,a1,a2,a3⟩
  refine ⟨J.freeC y b (by rw[henv]; exact a3),J.ok.cab y b rfl (by rw[henv]; exact a3),?_⟩
  obtain ⟨m,hn,hl⟩:=J.loc
  obtain ⟨u,r,l⟩:=hl i y v a1 a2 (.inr (.inl (hvis y b a3)))
  rcases l with ⟨k,_⟩ | ⟨k,c,e,o,ho,hd⟩
  ·exfalso
   have k:scope.names.lookup y = some .local:=k
   rw[hvis y b a3]at k
   cases k
  ·have e:cells.lookup y=some c:=by rw[← henv]; exact e
   rw[a3]at e
   cases e
   exact ⟨o,u,ho,hd,r⟩
 classical
 let H3:Hp:=fun b=>if h:∃ v,G b v then some (.ext (cZ b (Classical.choose h))) else H' b
 have g1:∀ b v,G b v→H3 b=some (.ext (cZ b v)):=fun b v h=>by
  have hx:∃ v,G b v:=⟨v,h⟩
  show (if h:∃ v,G b v then some (.ext (cZ b (Classical.choose h))) else H' b)=_
  rw[dif_pos hx,G1 b _ v (Classical.choose_spec hx) h]
 have g2:∀ b,(¬∃ v,G b v)→H3 b=H' b:=fun b h=>dif_neg h
 have sm:Same H' H3:=fun b o e=>by
  rw[g2 b fun ⟨v,z⟩=>by rw[(G2 b v z).1]at e; cases e]
  exact e
 have jb:Un (frs outer) [] H H' s.heap s'.heap:=J.base
 refine ⟨H3,sm,fun i y v c a1 a2 a3=>g1 c v ⟨i,y,a1,a2,a3⟩,(fun b n1 n2=>?_),⟨jb.keep,jb.slot,fun b o e n hx=>?_,jb.there,fun b xs e=>sm _ _ (jb.tups b xs e),fun b o u e=>sm _ _ (jb.frzs b o u e),fun b ps e=>?_⟩,fun b o e=>?_⟩
 ·by_cases h:∃ v,G b v
  ·obtain ⟨v,i,y,_,_,a3⟩:=h
   exact ⟨y,a3⟩
  ·rw[g2 b h]at n2
   exact absurd n1 n2
 ·rw[g2 b fun ⟨v,z⟩=>absurd (Nat.lt_of_lt_of_le (Heap.lt_size e) (G2 b v z).2.1) (Nat.lt_irrefl _)]
  exact jb.free b o e n hx
 ·obtain ⟨more,z⟩:=jb.tbls b ps e
  exact ⟨more,sm _ _ z⟩
 ·by_cases h:∃ v,G b v
  ·obtain ⟨v,h⟩:=h
   rw[g1 b v h]at e
   cases e
   exact kS (G2 b v h).2.2
  ·rw[g2 b h]at e
   exact (J.hok b o e).stay (fun b' u' _ q=>q) (fun b' q=>sm _ _ q) fun b' xs q=>sm _ _ q
theorem Fun.okL{x qual:Str}{st:Stmt}{f c:Addr}{fd:FuncData}{N ps:List Str}{k:Nat}{sp:Sp}(F:Fun K x qual st f fd)(hc:fd.code=.ref c)(S:FnScope N ps (ae st))(hck:∀ p∈(ae st).names,p.2=.cell→(ae st).names.lookup p.1=some .cell)
  (len:∀ vs H Q E,sp vs H Q E→vs.length=ps.length)
  (hbody:∀(A:Around) (outer:List Env) (s:Shared) (H:Hp) (vs:List V) (Q:VK) (E:XK),Room k (A.deeper (envOfC qual (ae st) s.heap.objs.size f (.ref c)))→sp vs H Q E →
   ∃ t,PR (hX CX0 P w K mg base N qual (ae st) f (.ref c) A outer s H E).nox (aj st) t∧t Q (fun v σ H'=>∀ H3,Same H' H3→mX (cellsFrom (s.heap.objs.size+1) (ae st).names []) N σ H3→Q v H3) (start N vs) H):FnOk P w K mg base CX0 (k+1) f fd ps sp:=by
 obtain ⟨oc,od,kV,doc,pm,an,cdv,ct,osl,rfl,lk,hcd⟩:=F.ex
 obtain rfl:cdv=.ref c:=hc
 refine ⟨len,fun A outer s H args us vs Q E hr e0 hb r hsp=>?_⟩
 have hl:=len _ _ _ _ hsp
 have KX:K.In s.heap:=e0.mod.kin.keeps fun b o e=>(e0.bs b o e).1
 have lim:s.heap.NoLimit:=e0.mod.nolimit.keeps fun b o e=>(e0.bs b o e).1
 have hkind:∀ y ∈ ps.zip us,(ae st).names.lookup y.1 = some .local∨((ae st).names.lookup y.1 = some .cell∧((cellsFrom (s.heap.objs.size + 1) (ae st).names []).lookup y.1).isSome = true):=fun ⟨n,v⟩ hy=>by
  rcases S.par n (of_mem_zip hy).1 with q | q
  ·exact .inl q
  ·exact .inr ⟨q,cellsFrom_some _ _ _ (.inl q)⟩
 refine codeAny_call_function hr.depth (KX _ _ lk) rfl S.co S.gen rfl (codeRec_of KX hcd) (hb _ _ _ _ ?_)
 refine wpAny_newFunctionEnv_cells S.kind hkind fun env he s1 x=>?_
 subst he
 refine ⟨lim.keeps x.toInCall.keep,codeAny_func ?_⟩
 obtain ⟨t,ht,hq⟩:=hbody A outer s H vs Q E (hr.deeper _) hsp
 have I:Inv (hX CX0 P w K mg base N qual (ae st) f (.ref c) A outer s H E) [] (start N vs) H s1:=jh S hr.hd e0 hl r x
 refine wpAny_mono (ht [] s1 (start N vs) H Q _ (I.wish _) hq) (fun fl s' hs=>?_) fun e s' hs=>False.elim hs
 obtain ⟨u,rfl,⟨v,σ',H',J,rv,q⟩ | ⟨v,H',g1,g2,g3,g4,rv,q⟩⟩:=hs
 ·have J:=J.unwish
  rcases q with q | q
  ·exact ⟨v,H',J.os,J.bare,J.base,J.hok,rv,q⟩
  ·obtain ⟨H3,h1,h2,_,h3,h4⟩:=xp S.nd hck J
   exact ⟨v,H3,J.os,J.bare,h3,h4,rv,q H3 h1 h2⟩
 ·exact ⟨v,H',g1,g2,g3,g4,rv,q⟩
end
theorem oZ{P:Program}{w:World}{K:Frag}{mg mb:Str→Option Value}{CX:CXT}{k:Nat}{fa a:Addr}{fd:FuncData}{x:Str}{sp:Sp}{s₁:Shared}{vs:List Value}{ns:List Int}{ts:List Addr}
  (KX:K.In s₁.heap) (hns:s₁.heap.Ns mainGlobals mg) (hb:s₁.heap.Ns builtinsNs mb) (hbb:∀ x:Str,x ≠ "__name__" → mb x=bootBuiltins x) (hlim:s₁.heap.NoLimit) (hg:s₁.gens = #[])
  (ha:s₁.heap.get? a=some { cls:=.type "list",data:=.seq vs.toArray }) (hi:IntsAre vs ns) (hl:ns.length≤sizeLine) (hr:Room k callerA) (hbm:Bm mg s₁.heap)
  (htab:∀ P∈ts,s₁.heap.get? P=some (tabObj #[])) (htc:∀ P∈ts,∃ c,codeHdIn K c P=true) (htK:∀ P∈ts,K.lookup P=none)
  (F:∀ base:Heap,K.In base→base.Ns mainGlobals mg→Bm mg base→FnOk P w K mg base CX k fa fd [x] sp) (hbind:∀(s:Shared) (u:Value),BindsTo s fd ⟨[u],[]⟩ [(x,u)])
  (hsp:∀ H:Hp,(∀ P∈ts,H P=some (.tbl #[]))→SqL K H a (ns.map V.int)→sp [.ref a] H (fun v _=>v=.bl true) fun _ _ _=>False)
  (hCX:∀ H e s',CX [] H s₁ (fun _ _ _=>False) e s'→False) :
  codeAny (model P w) callerA (.call (.ref fa) ⟨[.ref a],[]⟩) (fun r s'=>r=.ok (.ret (.bool true))∧OldK s₁.heap s'.heap∧s'.os=s₁.os∧AllBare s'.gens) s₁:=by
 have rv:=iY hi
 have lenV:=hi.length
 have nat:a ∉ ts:=fun z=>by have:=htab a z; rw[ha]at this; cases this
 have core:∀ H:Hp,(∀ P∈ts,H P=some (.tbl #[]))→SqL K H a (ns.map V.int)→HOk P w H s₁.heap→(∀ b u,H b=some u→(b=a∧∃ o xs,u=.frz o (.lst xs))∨(b∈ts∧u=.tbl #[]))→(H a≠none→K.lookup a=none) →
   codeAny (model P w) callerA (.call (.ref fa) ⟨[.ref a],[]⟩) (fun r s'=>r=.ok (.ret (.bool true))∧OldK s₁.heap s'.heap∧s'.os=s₁.os∧AllBare s'.gens) s₁:=by
  intro H hT hS hok hA hK
  have base_of:∀{b:Addr}{o:Obj},s₁.heap.get? b=some o→H b=none→(iR s₁.heap H).get? b=some o:=fun e n=>pQ e n
  have noA:∀{b:Addr}{o:Obj},s₁.heap.get? b=some o→o.cls≠.none→(∀ its n,o.data≠.seq its n)→H b=none:=fun {b o} e d1 d2=>by
   cases q:H b with
   | none=>rfl
   | some u =>
    rcases hA b u q with ⟨rfl,_⟩ | ⟨hb,_⟩
    ·rw[ha]at e; cases e; exact (d2 _ _ rfl).elim
    ·rw[htab b hb]at e; cases e; exact (d1 rfl).elim
  have noD:∀{b:Addr}{o:Obj}{es:Array DictEntry}{ep:Nat},s₁.heap.get? b=some o→o.data=.dict es ep→H b=none:=fun {b o es ep} e d=>by
   cases q:H b with
   | none=>rfl
   | some u =>
    rcases hA b u q with ⟨rfl,_⟩ | ⟨hb,_⟩
    ·rw[ha]at e; cases e
     have d':Data.seq vs.toArray _=Data.dict es ep:=d
     cases d'
    ·rw[htab b hb]at e; cases e; cases d
  have nsK:∀{b:Addr}{m:Str→Option Value},s₁.heap.Ns b m→(iR s₁.heap H).Ns b m:=fun {b m} ⟨o,es,ep,e,d,r⟩=>⟨o,es,ep,base_of e (noD e d),d,r⟩
  have hKb:K.In (iR s₁.heap H):=fun b o e=>base_of (KX b o e) (by
   cases q:H b with
   | none=>rfl
   | some u =>
    rcases hA b u q with ⟨rfl,_⟩ | ⟨hb,_⟩
    ·rw[hK (by rw[q]; simp)]at e; cases e
    ·rw[htK b hb]at e; cases e)
  have hM:Mod K mg (iR s₁.heap H):=⟨hKb,nsK hns,⟨mb,nsK hb,hbb⟩,let ⟨mc,h1,h2⟩:=hlim; ⟨mc,nsK h1,h2⟩⟩
  have hB:Bm mg (iR s₁.heap H):=by
   obtain ⟨bm,ob,b1,b2,b3,b4,b5⟩:=hbm
   exact ⟨bm,ob,b1,base_of b2 (noA b2 (by rw[b3]; simp) (fun its n=>by rw[b5]; intro z; cases z)),b3,b4,b5⟩
  have e0:Env0 P w K mg (iR s₁.heap H) callerA [] s₁ H:=⟨rfl,hM,fun b o e=>tL e,Nat.le_of_eq (o7 _ _),trivial,fun b hb=>absurd (show b∈([]:List Addr) from hb) (by simp),hok,.of_eq hg⟩
  refine codeAny_mono ((F _ hKb (nsK hns) hB).run callerA [] s₁ H ⟨[.ref a],[]⟩ [.ref a] [.ref a] _ _ hr e0 (hbind s₁ (.ref a)) (.cons rfl .nil) (hsp H hT hS)) fun r s' h=>?_
  cases r with
  | error e=>exact (hCX H e s' h).elim
  | ok fl =>
   cases fl with
   | next=>exact False.elim h
   | brk=>exact False.elim h
   | cont=>exact False.elim h
   | ret u =>
    obtain ⟨v,H',os,bare,un,hok',r',q⟩:=h
    have q':v=.bl true:=q
    subst q'
    obtain rfl:u=Value.bool true:=r'
    refine ⟨rfl,⟨fun b o e=>?_,fun b o e=>un.there b o e (by simp)⟩,os,bare⟩
    cases q:H b with
    | none=>exact .inl (un.keep b o e q (by intro z; exact absurd (show b∈([]:List Addr) from z) (by simp)) (by simp))
    | some u =>
     rcases hA b u q with ⟨_,ob,xs,rfl⟩ | ⟨hb,rfl⟩
     ·have z2:=un.frzs b ob _ q
      obtain ⟨e1,_⟩:=hok b _ q
      obtain ⟨e2,_⟩:=hok' b _ z2
      rw[e]at e1; cases e1
      exact .inl e2
     ·obtain ⟨c,hc⟩:=htc b hb
      have C:=codeHd_of_K KX hc
      obtain ⟨more,z⟩:=un.tbls b _ q
      have z2:s'.heap.get? b=some (tabObj (#[]++more)):=hok' b _ z
      rw[htab b hb]at e
      cases e
      exact .inr (.inl ⟨(C.tab (htab b hb)).isCodeTable,rfl,#[],more,rfl,z2⟩)
 let T:Hp:=fun b=>if b∈ts then some (.tbl #[]) else none
 cases hk:K.lookup a with
 | some o =>
  have e:=KX a o hk
  rw[ha]at e
  cases e
  refine core T (fun P hP=>if_pos hP) (.inr ⟨_,vs.toArray,_,hk,rfl,rfl,rfl,by rw[size_toArray,lenV]; exact hl,by simpa using rv⟩) (fun b u z=>?_) (fun b u z=>?_) fun z=>absurd (if_neg nat) z
  ·by_cases hb:b∈ts
   ·have z':=(if_pos hb).symm.trans z
    cases z'
    exact htab b hb
   ·have z':=(if_neg hb).symm.trans z
    cases z'
  ·by_cases hb:b∈ts
   ·have z':=(if_pos hb).symm.trans z
    cases z'
    exact .inr ⟨hb,rfl⟩
   ·have z':=(if_neg hb).symm.trans z
    cases z'
 | none =>
  refine core (fun b=>if b=a then some (.frz { cls:=.type "list",data:=.seq vs.toArray } (.lst (ns.map V.int))) else T b) (fun P hP=>?_) (.inl (.inr ⟨{ cls:=.type "list",data:=.seq vs.toArray },if_pos rfl⟩)) (fun b u z=>?_) (fun b u z=>?_) fun _=>hk
  ·have hne:P≠a:=fun z=>nat (by rw[← z]; exact hP)
   exact (if_neg hne).trans (if_pos hP)
  ·by_cases hb:b=a
   ·have z':=(if_pos hb).symm.trans z
    cases z'
    subst hb
    exact ⟨ha,by rw[length_map]; exact hl,vs,_,rv,ha⟩
   ·have z':=(if_neg hb).symm.trans z
    by_cases hb:b∈ts
    ·have z':=(if_pos hb).symm.trans z'
     cases z'
     exact htab b hb
    ·have z':=(if_neg hb).symm.trans z'
     cases z'
  ·by_cases hb:b=a
   ·have z':=(if_pos hb).symm.trans z
    cases z'
    exact .inl ⟨hb,_,_,rfl⟩
   ·have z':=(if_neg hb).symm.trans z
    by_cases hb:b∈ts
    ·have z':=(if_pos hb).symm.trans z'
     cases z'
     exact .inr ⟨hb,rfl⟩
    ·have z':=(if_neg hb).symm.trans z'
     cases z'
theorem walk_ofT{l:PySem.W.OpenLaw}{n k:Nat}{q:Program}{loose:List Str}{XP:(Str→Option Value)→Heap→Prop}{YP:World→Heap→Prop}{d:DefRec}{K:Params→Frag}{CX:CXT}{sp:Frag→List Addr→Sp}{x:Str}{ts:List Addr}
  (hn:l.most=some n) (hn2:n≤sizeLine) (hdf:d.params.defaults=[]) (hr:Room k callerA)
  (hY:∀(w:World) (h:Heap),YP w h→(K w.params).In h∧∀ P∈ts,h.get? P=some (tabObj #[]))
  (F:∀(ts':List Addr),ts'=ts→∀(w:World) (mg:Str→Option Value) (fa:Addr) (h:Heap),(K w.params).In h→h.Ns mainGlobals mg→mg d.name=some (.ref fa) →
   ∃ fd:FuncData,(∀(s:Shared) (u:Value),BindsTo s fd ⟨[u],[]⟩ [(x,u)])∧(∀ P∈ts,∃ c,codeHdIn (K w.params) c P=true)∧(∀ P∈ts,(K w.params).lookup P=none) ∧
    ∀ base:Heap,(K w.params).In base→base.Ns mainGlobals mg→Bm mg base→FnOk l.prog w (K w.params) mg base CX k fa fd [x] (sp (K w.params) ts))
  (hsp:∀(K:Frag) (H:Hp) (a:Addr) (ns:List Int),ns.length≤n→(∀ P∈ts,H P=some (.tbl #[]))→SqL K H a (ns.map V.int)→sp K ts [.ref a] H (fun v _=>v=.bl true) fun _ _ _=>False)
  (hCX:∀(H:Hp) (s:Shared) (e:Value) (s':Shared),CX [] H s (fun _ _ _=>False) e s'→False) :
  PySem.W.WalkO q loose XP YP l.row.toRowW d [] (fun f vs=>PySem.call f vs):=by
 refine Att.attach_call hn hdf fun w s₀ s₁ mg mb fa o pm cd doc a vs ns G Y ho hd hcd hmg hobj hints hlen hg=>?_
 obtain ⟨KX,hT⟩:=hY w _ Y
 obtain ⟨fd,hb,htc,htK,hF⟩:=F ts rfl w mg fa _ KX G.T.g hmg
 have hbm:Bm mg s₁.heap:=let ⟨bm,ob,b1,_,b3,b4,b5,b6⟩:=G.T.bmain; ⟨bm,ob,b1,b3,b4,b5,b6⟩
 exact oZ KX G.T.g G.T.b G.T.builtins G.T.nolimit hg hobj hints (Nat.le_trans hlen hn2) hr hbm hT htc htK hF hb (fun H hO hS=>hsp (K w.params) H a ns hlen hO hS) fun H e s'=>hCX H s₁ e s'
end L2
namespace FrM
def eW(t b:Int):Int×Int:=(t/(Int.gcd t b:Int),b/(Int.gcd t b:Int))
end FrM
namespace L2
open PySem PySem.Spec PyProof.Rows
def jE:List V→List Value→Bool
 | [],[]=>true
 | .int i::xs,.int j _::us=>decide (i=j) && jE xs us
 | _,_=>false
theorem gh:∀{xs:List V}{us:List Value},jE xs us=true→Vals xs us
 | [],[],_=>.nil
 | .int i::xs,.int j t::us,h=>by
  rw[jE,Bool.and_eq_true]at h
  have e:=of_decide_eq_true h.1
  exact .cons ⟨t,by rw[e]⟩ (gh h.2)
def rR(K:Frag)(a:Addr)(xs:List V):Bool :=
 match K.lookup a with
 | some o =>
  (match o.cls with
  | .type t=>t == "tuple"
  | _=>false) &&
  (match o.data with
  | .seq its _=>decide (its.size≤1000) && jE xs its.toList
  | _=>false)
 | none=>false
theorem vE{K:Frag}{H:Hp}{a:Addr}{xs:List V}(h:rR K a xs=true):SqT K H a xs:=by
 unfold rR at h
 split at h
 ·rename_i o e
  rw[Bool.and_eq_true]at h
  obtain ⟨h1,h2⟩:=h
  split at h1
  ·rename_i t ec
   split at h2
   ·rename_i its n ed
    rw[Bool.and_eq_true]at h2
    refine .inr ⟨o,its,n,e,by rw[ec,beq_iff_eq.mp h1],ed,?_,gh h2.2⟩
    have:=of_decide_eq_true h2.1
    have:sizeLine=16777216:=sizeLine_eq
    lia
   ·cases h2
  ·cases h1
 ·cases h
def TyS(K:Frag)(H:Hp)(x:V)(t:Value):Prop:=TyOf K H x t∨∃ a xs,x=.ref a∧t=.type "tuple" ∧ SqT K H a xs
section
variable {X:Cx}
open PySem.W in
theorem sU{pins:List (Addr×Obj)}{σ:St}{H:Hp}{s:Shared}{x:V}{u t:Value}(I:Inv X pins σ H s)(rx:RelV x u)(ty:TyS X.K H x t) :
  ∃ Hh:Heap→Prop,KitX X.K u t Hh∧Hh s.heap∧u≠.builtin "__main__.__loader__#opaque" := by
 rcases ty with ty | ⟨a,xs,rfl,rfl,hq⟩
 ·exact qt I rx ty
 ·cases (show u=Value.ref a from rx)
  obtain ⟨its,rv,p,hz⟩:=I.tuple hq
  exact ⟨_,kitx_tuple,let ⟨o,e,c,_⟩:=p; ⟨o,e,c⟩,fun z=>nomatch z⟩
def xP(K:Frag):List V→Hp→VK→Prop:=fun xs H Q=>∃ x c t b,xs=[x,c]∧rg c=true∧TyS K H x t∧kitOne K t (vH c)=some b∧Q (.bl b) H
theorem rO:CallR X (.builtin "isinstance") (xP X.K):=by
 intro pins s σ H xs us Q I r h
 obtain ⟨x,c,t,b,rfl,hc,ty,e,q⟩:=h
 obtain ⟨u,w',rfl,rx,rc⟩:=rK r
 cases nE hc rc
 obtain ⟨Hh,Z,p,hx⟩:=sU I rx ty
 exact kia_one Z I.kIn p e hx fun tk=>⟨.bl b,H,I.tok tk,rfl,q⟩
theorem mn:bootBuiltins "sum" = some (.builtin "sum"):=by decide +kernel
theorem gX:∀{ns:List Int}{us:List Value},Vals (ns.map V.int) us→IntsAre us ns
 | [],_,.nil=>.nil
 | n::ns,_,.cons r t=>by
  obtain ⟨t',rfl⟩:=r
  exact .cons _ _ (gX t)
inductive rSumI(K:Frag)(xs:List V)(H:Hp)(Q:VK):Prop
 | mk(p:Addr)(ns:List Int)(h0:xs=[.ref p])(h1:SqL K H p (ns.map V.int))(h2:Q (.int ns.sum) H):rSumI K xs H Q
theorem fZ(hc:X.calm=true):CallR X (.builtin "sum") (rSumI X.K):=by
 intro pins s σ H xs us Q I r h
 obtain ⟨p,ns,rfl,hq,q⟩:=h
 obtain ⟨u,rfl,rx⟩:=eI r
 cases rx
 obtain ⟨its,rv,pl,hz⟩:=I.list hq
 have hi:=gX rv
 obtain ⟨xs,ex⟩:=hi.allInts.items
 have e2:(numsOf its)=ns:=hi.numsOf
 refine sum_intListG (I.ok.hd hc) (xs:=xs) (by rw[← ex]; exact pl.isList) fun h' tk t' hk=>?_
 have e3:preSum (numAt xs) xs.size=ns.sum:=by
  rw[preSum_eq,take_of_length_le (by simp),← e2,← nums_intItems,← ex]
 rw[e3]
 exact ⟨.int ns.sum,H,I.kept hk,⟨_,rfl⟩,q⟩
end
def dE:Expr:=.Name "" ⟨0,0,0,0⟩
def yh(st:Stmt)(i:Nat):Stmt:=(aj st).getD i (.Pass ⟨0,0,0,0⟩)
def yq:Stmt→Expr
 | .Return (some e) _=>e
 | _=>dE
def ww(q:Str):Expr→LamD
 | .Lambda p b s _=>⟨q,p,b,s⟩
 | _=>⟨q,default,dE,default⟩
def ya:Expr→Pos
 | .Lambda _ _ _ p=>p
 | _=>⟨0,0,0,0⟩
theorem eL:bootBuiltins "sorted" = some (.builtin "sorted"):=by decide +kernel
theorem fB:∀{us:List Value}{ns:List Int},IntsAre us ns→Vals (ns.map V.int) us
 | _,_,.nil=>.nil
 | _,_,.cons n t h=>.cons ⟨_,rfl⟩ (fB h)
theorem fj{X:Cx}:CallR X (.builtin "sorted") (fun xs H Q=>∃(p:Addr) (ns:List Int),xs=[.ref p]∧SqL X.K H p (ns.map V.int)∧ns.length<64∧∀ q (ns':List Int),ns'.Perm ns→ns'.Pairwise (·≤·)→H q=none→Q (.ref q) (upd H q (.lst (ns'.map V.int)))):=by
 intro pins s σ H xs us Q I r h
 obtain ⟨p,ns,rfl,hq,hl,q⟩:=h
 obtain ⟨u,rfl,rx⟩:=eI r
 cases rx
 obtain ⟨its,rv,pl,hz⟩:=I.list hq
 have hi:=gX rv
 have hlen:its.length=ns.length:=by have:=rv.length; rw[length_map]at this; exact this.symm
 refine sorted_ints pl.isList hi (by lia) fun out ns' a1 a2 a3=>?_
 obtain ⟨e,he⟩:=sortedAll_at s.heap its out
 have hn:H (s.heap.objs.size+1)=none:=I.hok.fresh (Nat.le_succ _)
 have small:sizeLine=16777216:=sizeLine_eq
 refine ⟨.ref (s.heap.objs.size+1),_,I.laid (a:=s.heap.objs.size+1) (o:=.lst (ns'.map V.int)) (t':=s.toks) (fun b u z=>sortedAll_old z) (Nat.le_succ _) ⟨?_,out.toList,e,fB a1,?_⟩,rfl,q _ ns' a2 a3 hn⟩
 ·rw[length_map,a2.length_eq]; lia
 ·rw[he,Array.toArray_toList]
theorem oM{K:Frag}{M:Model}{h:Heap}{C D x:Addr}{ob:Obj}(X:K.In h)(c:XHd K C)(hx:h.get? x=some ob)(hc:ob.cls=.ref D)(hm:mroIn K D (.ref C)=some false) :
  PySem.W.Looks M h (excMatches (.ref x) (.ref C)) false:=by
 have L1:PySem.W.Looks M h (typeOf (.ref C)) (.type "type"):=looks_typeIn X c.ty
 have L2':PySem.W.Looks M h (isSubtype (.type "type") (.type "tuple")) false:=PySem.W.Looks.of_pure tc_notTuple
 have L3:PySem.W.Looks M h (isInstance (.ref C) (.type "tuple")) false:=L1.andThen L2'
 have L4:PySem.W.Looks M h (isExcClass (.ref C)) true:=by
  unfold isExcClass
  exact (kQ X c.isc).andThen (looks_mroIn X c.mb)
 have L5:PySem.W.Looks M h (typeOf (.ref x)) (.ref D):=hc ▸ (PySem.W.Looks.ld hx).andThen .now
 have L6:PySem.W.Looks M h (isSubtype (.ref D) (.ref C)) false:=looks_mroIn X hm
 intro A Q E s k q
 unfold excMatches
 refine wpAny_bind (L3 A _ E s k ?_)
 rw[if_neg Bool.false_ne_true]
 refine wpAny_bind (wpAny_pure ?_)
 simp only[forIn_cons,List.forIn_nil,bind_assoc,pure_bind]
 refine wpAny_bind (L4 A _ E s k ?_)
 simp only[Bool.not_true,Bool.false_eq_true,if_false,pure_bind]
 refine wpAny_bind (L5 A _ E s k ?_)
 refine wpAny_bind (L6 A _ E s k ?_)
 simp only[Bool.false_eq_true,if_false,pure_bind]
 exact wpAny_pure q
structure Lnd(X:Cx)(pins:List (Addr×Obj))(σ:St)(H:Hp)(s:Shared)(x D:Addr)(dct:Option Addr)(T:Addr)(H':Hp)(s':Shared)(T4:Addr)(h5:Heap):Prop where
 I:Inv X pins σ H s
 G:XG X.prog X.w X.stack H s x D dct T H' s'
 k:KeptBut ([T,x]++[T4]) (frs X.stack) s'.heap h5
 hxs:∀ b,b=T∨b=x∨b=T4→s.heap.get? b=none∧H' b=none∧b ∉ frs X.stack
 fx:Fx h5 x (.ref D) dct .none T4
abbrev TH:=Addr→Option Addr→Addr→Ends→St→Hp→Prop
def PH(X:Cx)(hs:List ExceptHandler)(th:TH):Prop :=
 ∀(pins:List (Addr×Obj)) (σ:St) (H:Hp) (s:Shared) (x D:Addr) (dct:Option Addr) (T:Addr) (H':Hp) (s':Shared) (T4:Addr) (h5:Heap) (DE:Ends),Lnd X pins σ H s x D dct T H' s' T4 h5→th D dct x DE σ (upd H' x (.ext (XCt x D dct))) →
  wpAny (model X.prog X.w) X.A (handleBy (.ref x) X.env hs) (SP X pins DE) X.xe { s' with heap:=h5 }
theorem vS{X:Cx}:PH X [] (fun _ _ _ _ _ _=>False):=fun _ _ _ _ _ _ _ _ _ _ _ _ _ _ q=>False.elim q
section
variable {X:Cx}{C:Addr}{cn en:Str}{ie:Nat}{b₀:Stmt}{suite:List Stmt}{cp hp:Pos}{ts:TS}{rest:List ExceptHandler}{tr:TH}
theorem Lnd.J{pins:List (Addr×Obj)}{σ:St}{H:Hp}{s:Shared}{x D:Addr}{dct:Option Addr}{T:Addr}{H':Hp}{s':Shared}{T4:Addr}{h5:Heap}(L:Lnd X pins σ H s x D dct T H' s' T4 h5):Inv X pins σ (upd H' x (.ext (XCt x D dct))) { s' with heap:=h5 } :=
 uX (h2:=h5) L.I L.G L.k (fun b hb=>L.hxs b (by simpa using hb)) L.fx
theorem nz(hst:X.stack = X.env :: X.outer∧X.env.frame = some X.env.locals)(gC:Gl X cn)(mC:X.mg cn = some (.ref C))(cC:XHd X.K C)
  (hs:∀ x,PSs (X.inX x) (b₀::suite) ts) (hr:PH X rest tr) (hdb:(cn == ("__debug__" : Str))=false:=by decide) :
  PH X (.ExceptHandler (some (.Name cn cp)) none (b₀::suite) hp::rest) (fun D dct x DE σ H1=>(mroIn X.K D (.ref C)=some true∧ts { nx:=DE.nx,rt:=DE.rt } σ H1)∨(mroIn X.K D (.ref C)=some false∧tr D dct x DE σ H1)):=by
 intro pins σ H s x D dct T H' s' T4 h5 DE L q
 have J5:=L.J
 obtain ⟨o5,ho5,hc5⟩:∃ o,h5.get? x=some o∧o.cls=.ref D:=let ⟨o,_,_,_,e,c,_⟩:=L.fx; ⟨o,e,c⟩
 refine wpAny_handleBy_cons (codeAny_handlers_test (eK (X:=X.inX x) (J5.inX x) gC mC ?_ hdb)) (by intro z; cases z)
 rcases q with ⟨hm,q⟩ | ⟨hm,q⟩
 ·refine (pN J5.kIn cC ho5 hc5 hm).at ?_
  refine codeAny_handlers_suite ?_
  refine eN (s:={ s' with heap:=h5 }) (fr:=frs (X.env::X.outer)) L.fx fun h6 x6 k6=>?_
  have k46:KeptBut ([T,x]++[T4]++[T4]) (frs X.stack) s'.heap h6:=by
   have:=L.k
   rw[hst.1]at this ⊢
   exact this.trans k6
  have J6:=uX (h2:=h6) L.I L.G k46 (fun b hb=>L.hxs b (by
   have:b=T∨b=x∨b=T4∨b=T4:=by simpa using hb
   rcases this with z | z | z | z
   ·exact .inl z
   ·exact .inr (.inl z)
   ·exact .inr (.inr z)
   ·exact .inr (.inr z))) x6
  refine wpAny_mono (hs x pins _ _ _ _ (J6.inX x) q) (fun fl s8 hf=>?_) (fun _ _ z=>False.elim z)
  cases fl with
  | next =>
   obtain ⟨σ8,H8,I8,q8⟩:=hf
   exact ⟨σ8,H8,I8.outX L.I.ok.hd,q8⟩
  | ret u =>
   obtain ⟨v,σ8,H8,I8,rv,q8⟩:=hf
   exact ⟨v,σ8,H8,I8.outX L.I.ok.hd,rv,q8⟩
  | brk=>obtain ⟨_,_,_,z⟩:=hf; exact False.elim z
  | cont=>obtain ⟨_,_,_,z⟩:=hf; exact False.elim z
 ·refine (oM J5.kIn cC ho5 hc5 hm).at ?_
  exact hr pins σ H s x D dct T H' s' T4 h5 DE L q
end
def HX(X:Cx)(pins:List (Addr×Obj))(hr:Value→Option Addr→St→Hp→Prop)(e:Value)(s':Shared):Prop:=∃ σ H s,Inv X pins σ H s∧CXG X.prog X.w X.stack H s (fun c d H'=>hr c d σ H') e s'
abbrev TB:=(St→Hp→Prop)→VK→(Value→Option Addr→St→Hp→Prop)→St→Hp→Prop
def PB1(X:Cx)(st:Stmt)(t:TB):Prop :=
 ∀(pins:List (Addr×Obj)) (s:Shared) (σ:St) (H:Hp) (nx:St→Hp→Prop) (rt:VK) (hr:Value→Option Addr→St→Hp→Prop),Inv X pins σ H s→t nx rt hr σ H→wpAny (model X.prog X.w) X.A (exec st X.env) (SP X pins { nx:=nx,rt:=rt }) (HX X pins hr) s
def PB(X:Cx)(sts:List Stmt)(t:TB):Prop :=
 ∀(pins:List (Addr×Obj)) (s:Shared) (σ:St) (H:Hp) (nx:St→Hp→Prop) (rt:VK) (hr:Value→Option Addr→St→Hp→Prop),Inv X pins σ H s→t nx rt hr σ H→wpAny (model X.prog X.w) X.A (execs sts X.env) (SP X pins { nx:=nx,rt:=rt }) (HX X pins hr) s
section
variable {X:Cx}
theorem lB{st:Stmt}{t:TB}(h1:PB1 X st t):PB X [st] t:=by
 intro pins s σ H nx rt hr I h
 refine wpAny_execs_cons (thn (h1 pins s σ H nx rt hr I h) fun f s1 q=>?_)
 cases f with
 | next=>exact wpAny_execs_nil q
 | ret v=>exact q
 | brk=>exact q
 | cont=>exact q
theorem wa{c:Expr}{a b:List Stmt}{tc:TT}{t u:TB}{pos:Pos}(hc:PT X.nox c tc)(ha:PB X a t)(hb:PB X b u):PB1 X (.If c a b pos) (fun nx rt hr σ H=>tc σ H fun d H1=>if d=true then t nx rt hr σ H1 else u nx rt hr σ H1):=by
 intro pins s σ H nx rt hr I h
 refine wpAny_If (wpAny_mono (hc pins s σ H _ (I.wish _) h) (fun d s1 ⟨H1,I1,q1⟩=>?_) fun _ _ z=>False.elim z)
 cases d with
 | true=>exact ha pins s1 σ H1 nx rt hr I1.unwish q1
 | false=>exact hb pins s1 σ H1 nx rt hr I1.unwish q1
def PX(X:Cx)(e:Expr)(t:VK→XK→St→Hp→Prop):Prop :=
 ∀(pins:List (Addr×Obj)) (s:Shared) (σ:St) (H:Hp) (Q:VK) (E:XK),Inv X pins σ H s→t Q E σ H →
  wpAny (model X.prog X.w) X.A (eval e X.env) (EP X pins σ Q) (fun e s'=>∃ H1 s1,Inv X pins σ H1 s1∧CXG X.prog X.w X.stack H1 s1 E e s') s
theorem pR{e:Expr}{t:VK→XK→St→Hp→Prop}{pos:Pos}(h:PX X e t)(hsw:swapsWith e none pos.line X.env=pure false:=by rfl):PB1 X (.Expr e pos) (fun nx _ hr σ H=>t (fun _ H1=>nx σ H1) (fun c d H'=>hr c d σ H') σ H):=by
 intro pins s σ H nx rt hr I q
 refine wpAny_Expr_any (wpAny_mono (h pins s σ H _ _ I q) (fun u s1 ⟨v,H1,I1,r,q1⟩=>?_) fun e s' ⟨H1,s1,I1,c⟩=>⟨σ,H1,s1,I1,c⟩) I.quiet hsw
 exact ⟨σ,H1,I1,q1⟩
theorem sG{e:Expr}{t:VK→XK→St→Hp→Prop}{i:Nat}{x:Str}{pos pos':Pos}(hN:X.N.Nodup)(hi:X.N[i]? = some x)(hl:X.env.scope.names.lookup x = some .local)(h:PX X e t)(hsw:swapsWith e (some (.Name x pos')) pos.line X.env = pure false:=by rfl) :
  PB1 X (.Assign [.Name x pos'] e pos) (fun nx _ hr σ H=>t (fun v H1=>nx (σ.set i (some v)) H1) (fun c d H'=>hr c d σ H') σ H):=by
 intro pins s σ H nx rt hr I q
 refine wpAny_Assign_Name (wpAny_mono (h pins s σ H _ _ I q) (fun u s1 ⟨v,H1,I1,r,q1⟩=>?_) fun e s' ⟨H1,s1,I1,c⟩=>⟨σ,H1,s1,I1,c⟩) hsw
 exact eG I1 hN hi (.inl hl) r (fun s3 I3=>⟨_,H1,I3,q1⟩) (.inr hl)
end
section
variable {X:Cx}{k:Nat}{f C:Addr}{fd:FuncData}{ps:List Str}{sp:Sp}{dvs:List V}{ds:List Value}{x m:Str}{p pos apos:Pos}{e o:Expr}{es:List Expr}{ta:TE}{t:TA}
theorem v7{pins:List (Addr×Obj)}{σ:St}{H:Hp}{s:Shared}{Q:VK}{E:XK}{us:List Value}{vs:List V}(F:FnOk X.prog X.w X.K X.mg X.base (CXG X.prog X.w) k f fd ps sp)(hr:Room k X.A)(hb:Binds X.K fd ps ds)(hd:Vals dvs ds)
  (I:Inv X pins σ H s) (r:Vals vs us) (h:sp (vs++dvs) H Q E):wpAny (model X.prog X.w) X.A (call (.ref f) us) (EP X pins σ Q) (fun e s'=>∃ H1 s1,Inv X pins σ H1 s1∧CXG X.prog X.w X.stack H1 s1 E e s') s:=by
 have r2:Vals (vs++dvs) (us++ds):=r.append hd
 have hl:(us++ds).length=ps.length:=by rw[← r2.length]; exact F.len _ _ _ _ h
 refine wpAny_call (codeAny_mono (F.run X.A X.stack s H ⟨us,[]⟩ (us++ds) (vs++dvs) Q E hr I.env0 (hb s us I.kIn hl) r2 h) fun r s' hq=>?_)
 cases r with
 | error e=>exact ⟨H,s,I,hq⟩
 | ok fl =>
  cases fl with
  | ret u=>exact I.after hq
  | next=>exact False.elim hq
  | brk=>exact False.elim hq
  | cont=>exact False.elim hq
theorem ng(F:FnOk X.prog X.w X.K X.mg X.base (CXG X.prog X.w) k f fd ps sp)(hr:Room k X.A)(hg:Gl X x)(hm:X.mg x=some (.ref f))(hk:keepIn X.K (.ref f)=true)(hb:Binds X.K fd ps ds)(hd:Vals dvs ds)
  (ha:PA X.nox (e::es) t) (hdb:(x == ("__debug__" : Str))=false:=by decide) (he:starEach (e::es) X.env=(false,eval e X.env)::starEach es X.env:=by rfl) (hpl:(backTo pos (starEach es X.env)).any (·.1)=false:=by rfl) :
  PX X (.Call (.Name x p) (e::es) [] pos) (fun Q E σ H=>t σ H fun vs H1=>sp (vs++dvs) H1 Q E):=by
 intro pins s σ H Q E I h
 refine wpAny_Call_Name_kw (eK I hg hm ?_ hdb)
 refine callWith_K (h₀:=X.base) I.ok.mod.kin hk (wpAny_mono (ha pos pins s σ H _ (I.wish _) h) (fun us s1 ⟨vs,H1,I1,r,q⟩=>⟨I1.unwish.kIn,?_⟩) fun _ _ z=>False.elim z) he hpl
 exact v7 F hr hb hd I1.unwish r q
theorem uc{body:List Stmt}{h₀:ExceptHandler}{hs:List ExceptHandler}{tb:TB}{th:TH}{tp:Pos}(hst:X.stack = X.env :: X.outer∧X.env.frame = some X.env.locals)(hb:PB X body tb)(hh:PH X (h₀ :: hs) th) :
  PS X (.Try body (h₀::hs) [] [] tp) (fun DE σ H=>tb DE.nx DE.rt (fun c dct σ' H'=>∃ D,c=.ref D∧∀ x,H' x=none→th D dct x DE σ' (upd H' x (.ext (XCt x D dct)))) σ H):=by
 intro pins s σ H DE I h
 refine wpAny_Try_except ?_
 refine wpAny_mono (hb pins s σ H DE.nx DE.rt _ I h) (fun f s1 q=>?_) fun e s' z=>?_
 ·cases f with
  | next=>exact wpAny_execs_nil q
  | ret u=>exact q
  | brk=>obtain ⟨_,_,_,z⟩:=q; exact False.elim z
  | cont=>obtain ⟨_,_,_,z⟩:=q; exact False.elim z
 ·obtain ⟨σ1,H1,s1,I1,x,D,dct,T,H',rfl,G,D',eD,hq⟩:=z
  cases eD
  have J:Inv X pins σ1 H' s':=I1.call' (ch:=[]) G.os G.un G.hok G.bare (by simp)
  have st:s'.heap.FunFrames X.base (X.env::X.outer):=hst.1 ▸ J.stack
  refine nZ (by rw[I1.ok.frames,hst.1]) st hst.2 G.fx fun h4 T4 x4 n4 k4=>?_
  refine eN (s:={ s' with heap:=h4 }) (fr:=frs (X.env::X.outer)) x4 fun h5 x5 k5=>?_
  have k45:KeptBut ([T,x]++[T4]) (frs X.stack) s'.heap h5:=by rw[hst.1]; exact k4.trans k5
  have so:∀ b,s1.heap.get? b=none→b ∉ frs X.stack:=fun b n z=>by
   obtain ⟨_,o,e,_⟩:=I1.stack.mem z
   rw[n]at e
   cases e
  have h4s:s1.heap.get? T4=none:=cE G.un n4
  have u4:H' T4=none:=by
   cases z:H' T4 with
   | none=>rfl
   | some u =>
    obtain ⟨o,e⟩:=(J.hok T4 u z).isObj
    rw[n4]at e
    cases e
  refine hh pins σ1 H1 s1 x D dct T H' s' T4 h5 DE ⟨I1,G,k45,fun b hb=>?_,x5⟩ (hq x G.ux)
  rcases hb with rfl | rfl | rfl
  ·exact ⟨G.nT,G.uT,so _ G.nT⟩
  ·exact ⟨G.nx,G.ux,so _ G.nx⟩
  ·exact ⟨h4s,u4,so _ h4s⟩
end
section
variable {X:Cx}{e:Expr}{es:List Expr}{pos:Pos}
theorem vA{a b:Expr}{ta tb:TE}{r:R2}(hr:IxR X r)(ha:PEq X a ta)(hb:PE X b tb)(hp:mM b):PEq X (.Subscript a b pos) (tOp r ta tb):=qr (bN hr (nA ha) hb hp)
theorem wH:OpR X (binaryOp .BitAnd) (rI2 fun i j=>.int (Builtin.bitAnd i j)):=op_and.i2
end
end L2
namespace Du
open FrM
def fr(q:Rat):Int×Int:=(q.num,(q.den:Int))
theorem eM(n:Int){d:Nat}(hd:d≠0):eW n (d:Int)=fr (mkRat n d):=by
 unfold eW fr
 rw[Rat.num_mkRat,Rat.den_mkRat,if_neg hd,if_neg hd]
 have e:Int.gcd n (d:Int)=d.gcd n.natAbs:=by rw[Int.gcd,Nat.gcd_comm]; rfl
 rw[e]
 rfl
theorem m9(t:Int){b:Int}(hb:0<b):eW t b=fr ((t:Rat)/(b:Rat)):=by
 obtain ⟨d,rfl⟩:=Int.eq_ofNat_of_zero_le (Int.le_of_lt hb)
 rw[eM t (by omega),← Rat.divInt_eq_div,← Rat.divInt_ofNat]
theorem uf(p q:Rat):eW (p.num*(q.den:Int)+q.num*(p.den:Int)) ((p.den:Int)*(q.den:Int))=fr (p+q):=by
 rw[Rat.add_def',← eM _ (Nat.mul_ne_zero p.den_nz q.den_nz)]
 simp
theorem uz(p q:Rat):eW (p.num*q.num) ((p.den:Int)*(q.den:Int))=fr (p*q):=by
 rw[Rat.mul_def',← eM _ (Nat.mul_ne_zero p.den_nz q.den_nz)]
 simp
def Bq(D:Nat)(q:Rat):Prop:=0≤q∧q≤1∧∃ n:Nat,q*(D:Rat)=(n:Rat)
theorem qT{D:Nat}(h:0<D):(0:Rat)<(D:Rat):=by exact_mod_cast h
theorem wM{D:Nat}{q:Rat}{n:Int}(hD:0<D)(e:q*(D:Rat)=(n:Rat)):q=mkRat n D:=by
 have hp:=qT hD
 have:q=(n:Rat)/(D:Rat):=by grind
 rw[this,← Rat.divInt_ofNat,Rat.divInt_eq_div]
 rfl
theorem fN{a b:Rat}(ha:0≤a)(hb:0≤b):0≤a*b:=Rat.mul_nonneg ha hb
section
variable {B:Nat}{h c:Rat}
end
end Du
namespace Tb
open FrM Du
inductive Tr where
 | leaf (ns:List Int)
 | die (ps:List (Int×Tr))
def tot(ps:List (Int×Tr)):Int:=(ps.map (·.1)).sum
mutual
def lv:Tr→Nat
 | .leaf _=>1
 | .die ps=>lvs ps
def lvs:List (Int×Tr)→Nat
 | []=>0
 | (_,u)::r=>lv u+lvs r
end
mutual
def sz:Tr→Nat
 | .leaf _=>1
 | .die ps=>szs ps+1
def szs:List (Int×Tr)→Nat
 | []=>0
 | (_,u)::r=>sz u+szs r
end
mutual
def Ok:Tr→Prop
 | .leaf ns=>ns.Nodup∧ns.length≤12
 | .die ps=>ps≠[]∧Oks ps
def Oks:List (Int×Tr)→Prop
 | []=>True
 | (m,u)::r=>1≤m∧Ok u∧Oks r
end
abbrev Way:=List Int×(Int×Int)
mutual
def wl:Tr→Int→Int→List Way
 | .leaf ns,t,b=>[(ns,(t,b))]
 | .die ps,t,b=>wls ps t b (tot ps)
def wls:List (Int×Tr)→Int→Int→Int→List Way
 | [],_,_,_=>[]
 | (m,u)::r,t,b,S=>wls r t b S++wl u (t*m) (b*S)
end
abbrev Ent:=Tr×(Int×Int)
def st:List Ent→List Way
 | []=>[]
 | (u,(t,b))::r=>st r++wl u t b
def stL:List Ent→Nat
 | []=>0
 | (u,_)::r=>stL r+lv u
def stS:List Ent→Nat
 | []=>0
 | (u,_)::r=>stS r+sz u
theorem jL:∀(a b:List Ent),st (a++b)=st b++st a
 | [],b=>by simp[st]
 | (u,(t,c))::a,b=>by rw[cons_append,st,jL a b,st,append_assoc]
theorem stS_app:∀(a b:List Ent),stS (a++b)=stS a+stS b
 | [],b=>by simp[stS]
 | (u,c)::a,b=>by rw[cons_append,stS,stS_app a b,stS]; lia
def kids(ps:List (Int×Tr))(t b S:Int):List Ent:=ps.map fun p=>(p.2,(t*p.1,b*S))
theorem mZ(t b S:Int):∀ ps:List (Int×Tr),st (kids ps t b S)=wls ps t b S
 | []=>rfl
 | (m,u)::r=>by
  have ih:=mZ t b S r
  unfold kids at *
  rw[map_cons,st,ih,wls]
theorem stS_kids(t b S:Int):∀ ps:List (Int×Tr),stS (kids ps t b S)=szs ps
 | []=>rfl
 | (m,u)::r=>by
  have ih:=stS_kids t b S r
  unfold kids at *
  rw[map_cons,stS,ih,szs]; lia
mutual
theorem qX:∀ t:Tr,Ok t→1≤lv t
 | .leaf _,_=>by simp[lv]
 | .die ps,h=>by rw[lv]; rw[Ok]at h; exact uh ps h.2 h.1
theorem uh:∀ ps:List (Int×Tr),Oks ps→ps≠[]→1≤lvs ps
 | [],_,h=>absurd rfl h
 | (m,u)::r,h,_=>by rw[Oks]at h; rw[lvs]; have:=qX u h.2.1; lia
end
def StOk(s:List Ent):Prop:=∀ e∈s,Ok e.1
theorem m8:∀ s:List Ent,StOk s→s.length≤stL s
 | [],_=>Nat.le_refl _
 | (u,c)::r,h=>by
  have:=m8 r fun e he=>h e (mem_cons_of_mem _ he)
  have:=qX u (h _ mem_cons_self)
  rw[stL,length_cons]; lia
theorem nL:∀{ps:List (Int×Tr)},Oks ps→∀ p∈ps,1≤p.1∧Ok p.2
 | (m,u)::r,h,p,hp=>by
  rw[Oks]at h
  rcases mem_cons.mp hp with rfl | hp
  ·exact ⟨h.1,h.2.1⟩
  ·exact nL h.2.2 p hp
theorem StOk.kids{ps:List (Int×Tr)}{t b S:Int}(h:Oks ps):StOk (kids ps t b S):=fun e he=>by
 obtain ⟨p,hp,rfl⟩:=mem_map.mp he
 exact (nL h p hp).2
mutual
theorem wl_len:∀(t:Tr) (a b:Int),(wl t a b).length=lv t
 | .leaf _,_,_=>rfl
 | .die ps,a,b=>by rw[wl,lv]; exact nW ps a b _
theorem nW:∀(ps:List (Int×Tr)) (a b S:Int),(wls ps a b S).length=lvs ps
 | [],_,_,_=>rfl
 | (m,u)::r,a,b,S=>by rw[wls,lvs,length_append,nW r,wl_len u]; lia
end
structure Wk(t:Tr)(ways:List Way)(s:List Ent):Prop where
 all:ways++st s=wl t 1 1
 ok:StOk s
theorem Wk.start{t:Tr}(h:Ok t):Wk t [] [(t,(1,1))]:=⟨by simp[st],fun e he=>by cases mem_singleton.mp he; exact h⟩
theorem Wk.leaf{t:Tr}{ways:List Way}{s:List Ent}{ns:List Int}{a b:Int}(h:Wk t ways (s++[(.leaf ns,(a,b))])):Wk t (ways++[(ns,(a,b))]) s:=by
 refine ⟨?_,fun e he=>h.ok e (mem_append_left _ he)⟩
 have:=h.all
 rw[jL]at this
 rw[append_assoc]
 exact this
theorem Wk.die{t:Tr}{ways:List Way}{s:List Ent}{ps:List (Int×Tr)}{a b:Int}(h:Wk t ways (s++[(.die ps,(a,b))])):Wk t ways (s++kids ps a b (tot ps)):=by
 have o:=h.ok _ (mem_append_right _ mem_cons_self)
 rw[Ok]at o
 refine ⟨?_,fun e he=>?_⟩
 ·rw[jL,mZ]
  have:=h.all
  rw[jL]at this
  simpa[st,wl] using this
 ·rcases mem_append.mp he with he | he
  ·exact h.ok e (mem_append_left _ he)
  ·exact StOk.kids o.2 e he
theorem rk:∀ s:List Ent,(st s).length=stL s
 | []=>rfl
 | (u,(a,b))::r=>by rw[st,stL,length_append,rk r,wl_len]
theorem Wk.few{t:Tr}{ways:List Way}{s:List Ent}(h:Wk t ways s):ways.length+s.length≤lv t:=by
 have e:=congrArg List.length h.all
 rw[length_append,rk,wl_len]at e
 have:=m8 s h.ok
 lia
theorem Wk.done{t:Tr}{ways:List Way}(h:Wk t ways []):ways=wl t 1 1:=by have:=h.all; simpa[st] using this
abbrev Rws:=List (List Int×Rat)
def dw(W:Rws)(k:List Int):Rat:=((W.filter fun w=>decide (w.1=k)).map (·.2)).sum
theorem hZ{k:List Int}:dw [] k=0:=rfl
theorem aR{w:List Int×Rat}{W:Rws}{k:List Int}:dw (w::W) k=(if w.1=k then w.2 else 0)+dw W k:=by
 unfold dw
 rw[List.filter_cons]
 by_cases h:w.1=k
 ·rw[if_pos (decide_eq_true h),if_pos h,map_cons,sum_cons]
 ·rw[if_neg (by simp[h]),if_neg h]; grind
theorem oP{A B:Rws}{k:List Int}(h:A.Perm B):dw A k=dw B k:=by
 induction h with
 | nil=>rfl
 | cons x _ ih=>rw[aR,aR,ih]
 | swap x y l=>rw[aR,aR,aR,aR]; grind
 | trans _ _ a b=>rw[a,b]
theorem kH{W:Rws}{k:List Int}(h:k ∉ W.map (·.1)):dw W k=0:=by
 induction W with
 | nil=>rfl
 | cons w W ih =>
  rw[map_cons,mem_cons,not_or]at h
  rw[aR,if_neg (fun e=>h.1 e.symm),ih h.2]; grind
def addR(k:List Int)(m:Rat):Rws→Rws
 | []=>[(k,m)]
 | x::r=>if x.1=k then (k,x.2+m)::r else x::addR k m r
def getR:Rws→List Int→Rat
 | [],_=>0
 | x::r,k=>if x.1=k then x.2 else getR r k
def NdR(st:Rws):Prop:=(st.map (·.1)).Nodup
theorem fQ(k:List Int)(m:Rat):∀ st:Rws,(addR k m st).map (·.1)=if k∈st.map (·.1) then st.map (·.1) else st.map (·.1)++[k]
 | []=>by simp[addR]
 | x::r=>by
  rw[addR]
  by_cases c:x.1=k
  ·rw[if_pos c]; simp[c]
  ·rw[if_neg c,map_cons,fQ k m r,map_cons]
   have c':¬k=x.1:=fun e=>c e.symm
   by_cases d:k∈r.map (·.1)
   ·rw[if_pos d,if_pos (mem_cons_of_mem _ d)]
   ·rw[if_neg d,if_neg (by simp only[mem_cons,not_or]; exact ⟨c',d⟩)]; rfl
theorem NdR.add{k:List Int}{m:Rat}{st:Rws}(h:NdR st):NdR (addR k m st):=by
 unfold NdR at *
 rw[fQ]
 split
 ·exact h
 ·rename_i n
  exact nodup_append.mpr ⟨h,by simp,fun a ha b hb e=>n (by rw[mem_singleton]at hb; rw[← hb,← e]; exact ha)⟩
theorem ko{k k':List Int}{m:Rat}:∀{st:Rws},dw (addR k m st) k'=dw st k'+if k=k' then m else 0
 | []=>by rw[addR,aR,hZ]; grind
 | x::r=>by
  rw[addR]
  by_cases c:x.1=k
  ·rw[if_pos c,aR,aR]
   show (if k=k' then x.2+m else 0)+dw r k'=_
   rw[c]; split <;> grind
  ·rw[if_neg c,aR,aR,ko]; grind
def adds(W:Rws):Rws:=W.foldl (fun st w=>addR w.1 w.2 st) []
theorem pu(st:Rws):∀(W:Rws) (k:List Int),dw (W.foldl (fun st w=>addR w.1 w.2 st) st) k=dw st k+dw W k:=by
 intro W
 induction W generalizing st with
 | nil=>intro k; rw[List.foldl_nil,hZ]; grind
 | cons w W ih=>intro k; rw[foldl_cons,ih,ko,aR]; grind
theorem iV(W:Rws)(k:List Int):dw (adds W) k=dw W k:=by
 unfold adds; rw[pu,hZ]; grind
theorem pT(st:Rws)(h:NdR st):∀ W:Rws,NdR (W.foldl (fun st w=>addR w.1 w.2 st) st):=by
 intro W
 induction W generalizing st with
 | nil=>exact h
 | cons w W ih=>exact ih _ h.add
theorem adds_nd(W:Rws):NdR (adds W):=pT [] nodup_nil W
theorem lA(st:Rws):∀(W:Rws) (k:List Int),k∈(W.foldl (fun st w=>addR w.1 w.2 st) st).map (·.1)↔k∈st.map (·.1)∨k∈W.map (·.1):=by
 intro W
 induction W generalizing st with
 | nil=>intro k; simp
 | cons w W ih =>
  intro k
  rw[foldl_cons,ih,fQ,map_cons,mem_cons]
  split
  ·rename_i h
   constructor
   ·rintro (a | a)
    ·exact .inl a
    ·exact .inr (.inr a)
   ·rintro (a | a | a)
    ·exact .inl a
    ·exact .inl (by rw[a]; exact h)
    ·exact .inr a
  ·rw[mem_append,mem_singleton]
   constructor
   ·rintro ((a | a) | a)
    ·exact .inl a
    ·exact .inr (.inl a)
    ·exact .inr (.inr a)
   ·rintro (a | a | a)
    ·exact .inl (.inl a)
    ·exact .inl (.inr a)
    ·exact .inr a
theorem oW(W:Rws)(k:List Int):k∈(adds W).map (·.1)↔k∈W.map (·.1):=by
 unfold adds; rw[lA]; simp
theorem qA{st:Rws}(nd:NdR st):∀ x∈st,dw st x.1=x.2:=by
 induction st with
 | nil=>intro x hx; cases hx
 | cons y r ih =>
  intro x hx
  unfold NdR at nd
  rw[map_cons,nodup_cons]at nd
  rw[aR]
  rcases mem_cons.mp hx with rfl | hx
  ·rw[if_pos rfl,kH nd.1]; grind
  ·have e:=ih nd.2 x hx
   rw[if_neg (fun z=>nd.1 (by rw[z]; exact mem_map.mpr ⟨x,hx,rfl⟩)),e]; grind
abbrev Grp:=List (List Int×List (Int×Int))
def pushG(k:List Int)(c:Int×Int):Grp→Grp
 | []=>[(k,[c])]
 | x::r=>if x.1=k then (k,x.2++[c])::r else x::pushG k c r
def grp(W:List Way):Grp:=W.foldl (fun g w=>pushG w.1 w.2 g) []
def qv(c:Int×Int):Rat:=(c.1:Rat)/(c.2:Rat)
def sumQ(l:List (Int×Int)):Rat:=(l.map qv).sum
def rat(g:Grp):Rws:=g.map fun x=>(x.1,sumQ x.2)
def toR(W:List Way):Rws:=W.map fun w=>(w.1,qv w.2)
theorem j8(k:List Int)(c:Int×Int):∀ g:Grp,rat (pushG k c g)=addR k (qv c) (rat g)
 | []=>by
  show [(k,sumQ [c])]=[(k,qv c)]
  unfold sumQ; simp only[map_cons,map_nil,sum_cons,sum_nil]
  have:qv c+0=qv c:=by grind
  rw[this]
 | x::r=>by
  rw[pushG]
  by_cases h:x.1=k
  ·rw[if_pos h]
   show (k,sumQ (x.2++[c]))::rat r=addR k (qv c) ((x.1,sumQ x.2)::rat r)
   rw[addR,if_pos h]
   have:sumQ (x.2++[c])=sumQ x.2+qv c:=by unfold sumQ; rw[map_append,sum_append]; simp only[map_cons,map_nil,sum_cons,sum_nil]; grind
   rw[this]
  ·rw[if_neg h]
   show (x.1,sumQ x.2)::rat (pushG k c r)=addR k (qv c) ((x.1,sumQ x.2)::rat r)
   rw[addR,if_neg h,j8 k c r]
theorem qY(g:Grp):∀ W:List Way,rat (W.foldl (fun g w=>pushG w.1 w.2 g) g)=(toR W).foldl (fun st w=>addR w.1 w.2 st) (rat g):=by
 intro W
 induction W generalizing g with
 | nil=>rfl
 | cons w W ih =>
  rw[foldl_cons,ih,j8]
  rfl
theorem rat_grp(W:List Way):rat (grp W)=adds (toR W):=qY [] W
theorem grp_snoc{W:List Way}{i:Nat}{w:Way}(h:W[i]? = some w):grp (W.take (i+1))=pushG w.1 w.2 (grp (W.take i)):=by
 unfold grp
 rw[take_add_one,h,List.foldl_append]
 rfl
mutual
def wf:Tr→Rat→Rws
 | .leaf ns,q=>[(ns,q)]
 | .die ps,q=>wfs ps q (tot ps)
def wfs:List (Int×Tr)→Rat→Int→Rws
 | [],_,_=>[]
 | (m,u)::r,q,S=>wf u (q*((m:Rat)/(S:Rat)))++wfs r q S
end
theorem vf{a b m S:Int}(hb:b≠0)(hS:S≠0):qv (a*m,b*S)=qv (a,b)*((m:Rat)/(S:Rat)):=by
 unfold qv
 have hb':(b:Rat)≠0:=by exact_mod_cast hb
 have hS':(S:Rat)≠0:=by exact_mod_cast hS
 simp only[Rat.intCast_mul]
 grind
theorem oks_tot:∀{ps:List (Int×Tr)},Oks ps→(ps.length:Int)≤tot ps
 | [],_=>by simp[tot]
 | (m,u)::r,h=>by
  rw[Oks]at h
  have:=oks_tot h.2.2
  unfold tot at *
  rw[map_cons,sum_cons,length_cons]
  have:=h.1
  show ((r.length+1:Nat):Int)≤m+_
  lia
mutual
theorem uW:∀(t:Tr) (a b:Int),Ok t→0<b→(toR (wl t a b)).Perm (wf t (qv (a,b)))
 | .leaf ns,a,b,_,_=>by rw[wl,wf]; exact .refl _
 | .die ps,a,b,h,hb=>by
  rw[Ok]at h
  rw[wl,wf]
  have:=oks_tot h.2
  have:0<ps.length:=length_pos_iff.mpr h.1
  exact qC ps a b (tot ps) h.2 hb (by lia)
theorem qC:∀(ps:List (Int×Tr)) (a b S:Int),Oks ps→0<b→0<S→(toR (wls ps a b S)).Perm (wfs ps (qv (a,b)) S)
 | [],_,_,_,_,_,_=>by rw[wls,wfs]; exact .refl _
 | (m,u)::r,a,b,S,h,hb,hS=>by
  rw[Oks]at h
  rw[wls,wfs]
  have e:toR (wls r a b S++wl u (a*m) (b*S))=toR (wls r a b S)++toR (wl u (a*m) (b*S)):=by unfold toR; rw[map_append]
  rw[e,← vf (by lia) (by lia)]
  exact (perm_append_comm).trans ((uW u _ _ h.2.1 (Int.mul_pos hb hS)).append (qC r a b S h.2.2 hb hS))
end
end Tb
namespace LexM
def aG:List Int→List Int→Bool
 | [],[]=>false
 | [],_::_=>true
 | _::_,[]=>false
 | x::xs,y::ys=>if x=y then aG xs ys else decide (x<y)
theorem jM:∀ a,aG a a=false
 | []=>rfl
 | x::xs=>by rw[aG,if_pos rfl]; exact jM xs
theorem iI:∀ a b,aG a b=true→aG b a=false
 | [],[],h=>by cases h
 | [],_::_,_=>rfl
 | _::_,[],h=>by cases h
 | x::xs,y::ys,h=>by
  rw[aG]at h ⊢
  by_cases e:x=y
  ·rw[if_pos e]at h; rw[if_pos e.symm]; exact iI xs ys h
  ·rw[if_neg e]at h; rw[if_neg (fun z=>e z.symm)]
   have:=of_decide_eq_true h
   exact decide_eq_false (by omega)
theorem jy:∀ a b,a≠b→aG a b=true∨aG b a=true
 | [],[],h=>absurd rfl h
 | [],_::_,_=>.inl rfl
 | _::_,[],_=>.inr rfl
 | x::xs,y::ys,h=>by
  rw[aG,aG]
  by_cases e:x=y
  ·rw[if_pos e,if_pos e.symm]
   exact jy xs ys fun z=>h (by rw[e,z])
  ·rw[if_neg e,if_neg (fun z=>e z.symm)]
   rcases Int.lt_or_gt_of_ne e with z | z
   ·exact .inl (decide_eq_true z)
   ·exact .inr (decide_eq_true z)
theorem fU:∀ a b c,aG a b=true→aG b c=true→aG a c=true
 | [],[],_,h,_=>by cases h
 | [],_::_,[],_,h=>by cases h
 | [],_::_,_::_,_,_=>rfl
 | _::_,[],_,h,_=>by cases h
 | _::_,_::_,[],_,h=>by cases h
 | x::xs,y::ys,z::zs,h,k=>by
  rw[aG]at h k ⊢
  by_cases e:x=y
  ·rw[if_pos e]at h
   by_cases e2:y=z
   ·rw[if_pos e2]at k; rw[if_pos (e.trans e2)]; exact fU xs ys zs h k
   ·rw[if_neg e2]at k; rw[if_neg (fun q=>e2 (by omega))]
    have:=of_decide_eq_true k
    exact decide_eq_true (by omega)
  ·rw[if_neg e]at h
   have h:=of_decide_eq_true h
   by_cases e2:y=z
   ·rw[if_neg (by omega)]; exact decide_eq_true (by omega)
   ·rw[if_neg e2]at k
    have k:=of_decide_eq_true k
    rw[if_neg (by omega)]; exact decide_eq_true (by omega)
end LexM
namespace Tb
open FrM Du LexM
def so(l:List Int):List Int:=l.mergeSort (fun a b=>decide (a≤b))
theorem jx(l:List Int):(so l).Perm l:=List.mergeSort_perm l _
theorem vi(l:List Int):(so l).Pairwise (·≤·):=by
 have h:=List.pairwise_mergeSort (le:=fun (a b:Int)=>decide (a≤b)) (by intro a b c h1 h2; simp at *; lia) (by intro a b; simp; lia) l
 exact h.imp fun h=>by simpa using h
theorem mO:∀{a b:List Int},a.Perm b→a.Pairwise (·≤·)→b.Pairwise (·≤·)→a=b
 | [],b,p,_,_=>(List.nil_perm.mp p).symm ▸ rfl
 | x::a,[],p,_,_=>absurd p.length_eq (by simp)
 | x::a,y::b,p,h1,h2=>by
  rw[pairwise_cons]at h1 h2
  have e:x=y:=by
   have m1:x∈y::b:=p.mem_iff.mp mem_cons_self
   have m2:y∈x::a:=p.mem_iff.mpr mem_cons_self
   rcases mem_cons.mp m1 with z | z
   ·exact z
   ·rcases mem_cons.mp m2 with z' | z'
    ·exact z'.symm
    ·have:=h2.1 x z
     have:=h1.1 y z'
     lia
  subst e
  rw[mO (List.perm_cons x |>.mp p) h1.2 h2.2]
theorem so_uniq{a l:List Int}(h:a.Perm l)(s:a.Pairwise (·≤·)):a=so l:=mO (h.trans (jx l).symm) s (vi l)
def kW(W:List Way):List Way:=W.map fun w=>(so w.1,w.2)
def kR(W:Rws):Rws:=W.map fun w=>(so w.1,w.2)
theorem vR(W:List Way):toR (kW W)=kR (toR W):=by unfold toR kW kR; rw[map_map,map_map]; rfl
def kt(t:Tr):Rws:=kR (wf t 1)
theorem kt_perm{t:Tr}(h:Ok t):(toR (kW (wl t 1 1))).Perm (kt t):=by
 rw[vR]
 have:=uW t 1 1 h (by decide)
 have e:qv (1,1)=1:=by unfold qv; grind
 rw[e]at this
 exact this.map _
structure IsTab(W R:Rws):Prop where
 pm:R.Perm (adds W)
 up:(R.map (·.1)).Pairwise fun a b=>aG a b=true
theorem jR:∀{a b:List (List Int)},(a.Pairwise fun x y=>aG x y=true)→(b.Pairwise fun x y=>aG x y=true)→(∀ x,x∈a↔x∈b)→a=b
 | [],[],_,_,_=>rfl
 | [],y::b,_,_,h=>absurd ((h y).mpr mem_cons_self) (by simp)
 | x::a,[],_,_,h=>absurd ((h x).mp mem_cons_self) (by simp)
 | x::a,y::b,h1,h2,h=>by
  rw[pairwise_cons]at h1 h2
  have e:x=y:=by
   rcases mem_cons.mp ((h x).mp mem_cons_self) with z | z
   ·exact z
   ·rcases mem_cons.mp ((h y).mpr mem_cons_self) with z' | z'
    ·exact z'.symm
    ·have a1:=iI _ _ (h2.1 x z)
     rw[h1.1 y z']at a1; cases a1
  subst e
  have:a=b:=jR h1.2 h2.2 fun z=>by
   have hz:=h z
   rw[mem_cons,mem_cons]at hz
   constructor
   ·intro m
    rcases hz.mp (.inr m) with e | e
    ·have:=h1.1 z m; rw[e,jM]at this; cases this
    ·exact e
   ·intro m
    rcases hz.mpr (.inr m) with e | e
    ·have:=h2.1 z m; rw[e,jM]at this; cases this
    ·exact e
  rw[this]
theorem IsTab.keys{W R:Rws}(h:IsTab W R)(k:List Int):k∈R.map (·.1)↔k∈W.map (·.1):=by
 rw[← oW W k]
 exact (h.pm.map _).mem_iff
theorem IsTab.val{W R:Rws}(h:IsTab W R){x:List Int×Rat}(hx:x∈R):x.2=dw W x.1:=by
 rw[← iV,qA (adds_nd W) x (h.pm.mem_iff.mp hx)]
theorem IsTab.eqv{W R:Rws}(h:IsTab W R):R=(R.map (·.1)).map fun k=>(k,dw W k):=by
 rw[map_map]
 have:∀ x∈R,x=((fun k=>(k,dw W k)) ∘ fun x=>x.1) x:=fun x hx=>by
  show x=(x.1,dw W x.1)
  rw[← h.val hx]
 conv=>lhs; rw[← List.map_id R]
 exact map_congr_left this
theorem IsTab.uniq{W W' R R':Rws}(p:W.Perm W')(h:IsTab W R)(h':IsTab W' R'):R=R':=by
 have e:R.map (·.1)=R'.map (·.1):=jR h.up h'.up fun k=>by rw[h.keys,h'.keys]; exact (p.map _).mem_iff
 rw[h.eqv,h'.eqv,e]
 exact map_congr_left fun k _=>by rw[oP p]
theorem tab_of{g:Rws}{o:List Nat}(nd:NdR g)(hp:o.Perm (List.range g.length))(hs:o.Pairwise fun i j=>aG ((g.map (·.1)).getD j []) ((g.map (·.1)).getD i [])=false) :
  (o.map fun i=>g.getD i ([],0)).Perm g∧((o.map fun i=>g.getD i ([],0)).map (·.1)).Pairwise fun a b=>aG a b=true:=by
 constructor
 ·have e:(List.range g.length).map (fun i=>g.getD i ([],0))=g:=by
   apply ext_getElem
   ·simp
   ·intro i h1 h2
    rw[getElem_map,getElem_range,List.getD,List.getElem?_eq_getElem h2]
    rfl
  have:=hp.map fun i=>g.getD i ([],0)
  rw[e]at this
  exact this
 ·have on:o.Nodup:=hp.nodup_iff.mpr nodup_range
  rw[map_map,List.pairwise_map]
  have both:=hs.and on
  refine List.Pairwise.imp_of_mem (fun {i j} hi hj h=>?_) both
  have li:i<g.length:=mem_range.mp (hp.mem_iff.mp hi)
  have lj:j<g.length:=mem_range.mp (hp.mem_iff.mp hj)
  have ei:(g.map (·.1)).getD i []=(g.getD i ([],0)).1:=by simp[List.getD,li]
  have ej:(g.map (·.1)).getD j []=(g.getD j ([],0)).1:=by simp[List.getD,lj]
  rw[ei,ej]at h
  have ne:(g.getD i ([],0)).1≠(g.getD j ([],0)).1:=fun e=>by
   have e1:(g.map (·.1))[i]'(by simpa using li)=(g.map (·.1))[j]'(by simpa using lj):=by
    simp[List.getD,li,lj]at e; simpa using e
   have key:∀ i j (li:i<(g.map (·.1)).length) (lj:j<(g.map (·.1)).length),i<j→(g.map (·.1))[i]≠(g.map (·.1))[j]:=pairwise_iff_getElem.mp nd
   rcases Nat.lt_trichotomy i j with y | y | y
   ·exact key i j _ _ y e1
   ·exact h.2 y
   ·exact key j i _ _ y e1.symm
  rcases jy _ _ ne with z | z
  ·exact z
  ·have h1:=h.1
   rw[z]at h1; cases h1
abbrev sm(W:Rws):Rat:=(W.map (·.2)).sum
def pm(p:List Int→Bool)(W:Rws):Rat:=(W.map fun x=>if p x.1=true then x.2 else 0).sum
def Nn(D:Nat)(x:Rat):Prop:=0≤x∧∃ n:Nat,x*(D:Rat)=(n:Rat)
theorem Nn.add{D:Nat}{x y:Rat}(h:Nn D x)(h':Nn D y):Nn D (x+y):=by
 obtain ⟨a,n,e⟩:=h
 obtain ⟨b,m,f⟩:=h'
 refine ⟨by grind,n+m,?_⟩
 push_cast
 grind
theorem Nn.zero{D:Nat}:Nn D 0:=⟨by grind,0,by grind⟩
structure Gd(D:Nat)(W:Rws):Prop where
 nn:∀ x∈W,Nn D x.2
 le:sm W≤1
theorem jq{D:Nat}:∀{W:Rws},(∀ x∈W,Nn D x.2)→Nn D (sm W)
 | [],_=>by show Nn D 0; exact Nn.zero
 | x::W,h=>by
  show Nn D (x.2+sm W)
  exact (h x mem_cons_self).add (jq fun y hy=>h y (mem_cons_of_mem _ hy))
theorem sm_app(A B:Rws):sm (A++B)=sm A+sm B:=by unfold sm; rw[map_append,sum_append]
theorem nN{D:Nat}{p:List Int→Bool}:∀{W:Rws}{i:Nat},(∀ x∈W,Nn D x.2)→Nn D (pm p (W.take i))∧pm p (W.take i)≤sm W
 | [],i,_=>by
  rw[List.take_nil]
  exact ⟨(show Nn D 0 from Nn.zero),(show (0:Rat)≤0 by grind)⟩
 | x::W,0,h=>by
  have:=(jq h).1
  exact ⟨(show Nn D 0 from Nn.zero),(show (0:Rat)≤sm (x::W) from this)⟩
 | x::W,i+1,h=>by
  have hx:=h x mem_cons_self
  obtain ⟨a,b⟩:=nN (p:=p) (i:=i) fun y hy=>h y (mem_cons_of_mem _ hy)
  rw[List.take_succ_cons]
  have e:pm p (x::W.take i)=(if p x.1=true then x.2 else 0)+pm p (W.take i):=by unfold pm; rw[map_cons,sum_cons]
  have e2:sm (x::W)=x.2+sm W:=by unfold sm; rw[map_cons,sum_cons]
  rw[e,e2]
  have:=hx.1
  split
  ·exact ⟨hx.add a,by grind⟩
  ·exact ⟨Nn.zero.add a,by grind⟩
theorem Gd.pm{D:Nat}{W:Rws}(h:Gd D W)(p:List Int→Bool)(i:Nat):Bq D (Tb.pm p (W.take i)):=by
 obtain ⟨⟨a,n⟩,b⟩:=nN (p:=p) (i:=i) h.nn
 have:=h.le
 exact ⟨a,by grind,n⟩
theorem Gd.pmA{D:Nat}{W:Rws}(h:Gd D W)(p:List Int→Bool):Bq D (Tb.pm p W):=by
 have:=h.pm p W.length
 rwa [take_length]at this
theorem Gd.left{D:Nat}{A B:Rws}(h:Gd D (A++B)):Gd D A:=by
 refine ⟨fun x hx=>h.nn x (mem_append_left _ hx),?_⟩
 have h1:=h.le
 rw[sm_app]at h1
 have:=(jq (D:=D) (W:=B) fun x hx=>h.nn x (mem_append_right _ hx)).1
 grind
theorem Gd.right{D:Nat}{A B:Rws}(h:Gd D (A++B)):Gd D B:=by
 refine ⟨fun x hx=>h.nn x (mem_append_right _ hx),?_⟩
 have h1:=h.le
 rw[sm_app]at h1
 have:=(jq (D:=D) (W:=A) fun x hx=>h.nn x (mem_append_left _ hx)).1
 grind
theorem Gd.sm{D:Nat}{W:Rws}(h:Gd D W):Bq D (Tb.sm W):=⟨(jq h.nn).1,h.le,(jq h.nn).2⟩
theorem Gd.one{D:Nat}{W:Rws}(h:Gd D W){x:List Int×Rat}(hx:x∈W):Bq D x.2:=by
 obtain ⟨A,B,rfl⟩:=List.append_of_mem hx
 have h2:=h.right
 have h3:Gd D ([x]++B):=h2
 have:=h3.left.sm
 have e:Tb.sm [x]=x.2:=by show x.2+0=x.2; grind
 rw[e]at this
 exact this
theorem nu{W:Rws}{k:List Int}:dw W k=pm (fun y=>decide (y=k)) W:=by
 induction W with
 | nil=>rfl
 | cons w W ih =>
  rw[aR,ih]
  have e:pm (fun y=>decide (y=k)) (w::W)=(if decide (w.1=k)=true then w.2 else 0)+pm (fun y=>decide (y=k)) W:=by unfold pm; rw[map_cons,sum_cons]
  rw[e]
  by_cases h:w.1=k
  ·rw[if_pos h,if_pos (decide_eq_true h)]
  ·rw[if_neg h,if_neg (by simp[h])]
theorem ow{A B:Rws}(h:A.Perm B):sm A=sm B:=by
 induction h with
 | nil=>rfl
 | @cons x l1 l2 _ ih=>show x.2+sm l1=x.2+sm l2; rw[ih]
 | swap x y l=>show y.2+(x.2+sm l)=x.2+(y.2+sm l); grind
 | trans _ _ a b=>rw[a,b]
theorem mU(k:List Int)(m:Rat):∀ st:Rws,sm (addR k m st)=sm st+m
 | []=>by show m+0=0+m; grind
 | x::r=>by
  rw[addR]
  split
  ·show (x.2+m)+sm r=x.2+sm r+m; grind
  ·show x.2+sm (addR k m r)=x.2+sm r+m; rw[mU k m r]; grind
theorem ui(st:Rws):∀ W:Rws,sm (W.foldl (fun st w=>addR w.1 w.2 st) st)=sm st+sm W:=by
 intro W
 induction W generalizing st with
 | nil=>show _=sm st+0; rw[List.foldl_nil]; grind
 | cons w W ih=>rw[foldl_cons,ih,mU]; show _=sm st+(w.2+sm W); grind
theorem su(W:Rws):sm (adds W)=sm W:=by unfold adds; rw[ui]; show (0:Rat)+_=_; grind
theorem o6{st:Rws}(nd:NdR st)(k:List Int):getR st k=dw st k:=by
 induction st with
 | nil=>rfl
 | cons x r ih =>
  unfold NdR at nd
  rw[map_cons,nodup_cons]at nd
  rw[getR,aR]
  by_cases h:x.1=k
  ·rw[if_pos h,if_pos h,kH (by rw[← h]; exact nd.1)]; grind
  ·rw[if_neg h,if_neg h,ih nd.2]; grind
theorem adds_app(A:Rws)(x:List Int×Rat):adds (A++[x])=addR x.1 x.2 (adds A):=by unfold adds; rw[List.foldl_append]; rfl
theorem IsTab.sm{W R:Rws}(h:IsTab W R):Tb.sm R=Tb.sm W:=by rw[ow h.pm,su]
theorem IsTab.gd{D:Nat}{W R:Rws}(h:IsTab W R)(g:Gd D W):Gd D R:=by
 refine ⟨fun x hx=>?_,by rw[h.sm]; exact g.le⟩
 rw[h.val hx,nu]
 have:=g.pmA fun y=>decide (y=x.1)
 exact ⟨this.1,this.2.2⟩
theorem kR_sm(W:Rws):sm (kR W)=sm W:=by unfold sm kR; rw[map_map]; rfl
mutual
def dn:Tr→Nat
 | .leaf _=>1
 | .die ps=>(tot ps).toNat*dns ps
def dns:List (Int×Tr)→Nat
 | []=>1
 | (_,u)::r=>dn u*dns r
end
theorem my{D E:Nat}{x:Rat}(h:Nn D x):Nn (D*E) x:=by
 obtain ⟨a,n,e⟩:=h
 refine ⟨a,n*E,?_⟩
 push_cast
 grind
mutual
theorem uE:∀(t:Tr) (q:Rat) (E:Nat),Ok t→Nn E q→(∀ x∈wf t q,Nn (E*dn t) x.2)∧sm (wf t q)=q
 | .leaf ns,q,E,_,h=>by
  rw[wf,dn]
  refine ⟨fun x hx=>?_,?_⟩
  ·rw[mem_singleton.mp hx]; exact my h
  ·show q+0=q; grind
 | .die ps,q,E,h,hq=>by
  rw[Ok]at h
  have h1:=oks_tot h.2
  have h2:0<ps.length:=length_pos_iff.mpr h.1
  have hS:0<tot ps:=by lia
  obtain ⟨a,b⟩:=qu ps q E (tot ps) h.2 hS hq
  rw[wf,dn]
  refine ⟨fun x hx=>?_,?_⟩
  ·have:=a x hx
   rwa [Nat.mul_assoc]at this
  ·rw[b]
   have hS':((tot ps:Int):Rat)≠0:=by have:tot ps≠0:=(by lia); exact_mod_cast this
   grind
theorem qu:∀(ps:List (Int×Tr)) (q:Rat) (E:Nat) (S:Int),Oks ps→0<S→Nn E q→(∀ x∈wfs ps q S,Nn (E*S.toNat*dns ps) x.2)∧sm (wfs ps q S)=q*((tot ps:Rat)/(S:Rat))
 | [],q,E,S,_,hS,_=>by
  rw[wfs]
  refine ⟨(fun x hx=>by cases hx),?_⟩
  show (0:Rat)=q*(((0:Int):Rat)/(S:Rat))
  grind
 | (m,u)::r,q,E,S,h,hS,hq=>by
  rw[Oks]at h
  rw[wfs,dns]
  have hS':(S:Rat)≠0:=by have:S≠0:=(by lia); exact_mod_cast this
  have eS:((S.toNat:Nat):Rat)=(S:Rat):=by
   have:((S.toNat:Nat):Int)=S:=by lia
   exact_mod_cast this
  have q1:Nn (E*S.toNat) (q*((m:Rat)/(S:Rat))):=by
   obtain ⟨a,n,e⟩:=hq
   refine ⟨?_,n*m.toNat,?_⟩
   ·have m0:(0:Rat)≤(m:Rat):=by have:(0:Int)≤m:=(by lia); exact_mod_cast this
    have sp:(0:Rat)<(S:Rat):=by exact_mod_cast hS
    have s0:(0:Rat)≤(S:Rat)⁻¹:=by have:=Rat.inv_pos.mpr sp; grind
    rw[Rat.div_def]
    exact fN a (fN m0 s0)
   ·have em:((m.toNat:Nat):Rat)=(m:Rat):=by
     have:((m.toNat:Nat):Int)=m:=by lia
     exact_mod_cast this
    push_cast
    rw[eS,em]
    grind
  obtain ⟨a1,a2⟩:=uE u _ (E*S.toNat) h.2.1 q1
  obtain ⟨b1,b2⟩:=qu r q E S h.2.2 hS hq
  refine ⟨fun x hx=>?_,?_⟩
  ·rcases mem_append.mp hx with hx | hx
   ·have:=my (E:=dns r) (a1 x hx)
    rwa [Nat.mul_assoc]at this
   ·have:=my (E:=dn u) (b1 x hx)
    rwa [Nat.mul_assoc,Nat.mul_comm (dns r)]at this
  ·rw[sm_app,a2,b2]
   have et:tot ((m,u)::r)=m+tot r:=by unfold tot; rw[map_cons,sum_cons]
   rw[et]
   push_cast
   grind
end
theorem kt_gd{t:Tr}(h:Ok t):Gd (dn t) (kt t)∧sm (kt t)=1:=by
 obtain ⟨a,b⟩:=uE t 1 1 h ⟨by grind,1,by grind⟩
 rw[Nat.one_mul]at a
 have e:sm (kt t)=1:=by unfold kt; rw[kR_sm,b]
 refine ⟨⟨fun x hx=>?_,by rw[e]; grind⟩,e⟩
 obtain ⟨y,hy,rfl⟩:=mem_map.mp hx
 exact a y hy
mutual
theorem dn_pos:∀ t:Tr,Ok t→0<dn t
 | .leaf _,_=>by rw[dn]; decide
 | .die ps,h=>by
  rw[Ok]at h
  have h1:=oks_tot h.2
  have h2:0<ps.length:=length_pos_iff.mpr h.1
  rw[dn]
  exact Nat.mul_pos (by lia) (kJ ps h.2)
theorem kJ:∀ ps:List (Int×Tr),Oks ps→0<dns ps
 | [],_=>by rw[dns]; decide
 | (m,u)::r,h=>by rw[Oks]at h; rw[dns]; exact Nat.mul_pos (dn_pos u h.2.1) (kJ r h.2.2)
end
structure Ch(D:Int)(c:Int×Int):Prop where
 t0:0≤c.1
 le:c.1≤c.2
 b0:0<c.2
 dv:c.2 ∣ D
mutual
theorem uH:∀(t:Tr) (a b E:Int),Ok t→0≤a→a≤b→0<b→b ∣ E→∀ w∈wl t a b,Ch (E*(dn t:Nat)) w.2
 | .leaf ns,a,b,E,_,h0,h1,h2,h3,w,hw=>by
  rw[wl]at hw
  rw[mem_singleton.mp hw]
  exact ⟨h0,h1,h2,Int.dvd_mul_of_dvd_left h3⟩
 | .die ps,a,b,E,h,h0,h1,h2,h3,w,hw=>by
  rw[Ok]at h
  have g1:=oks_tot h.2
  have g2:0<ps.length:=length_pos_iff.mpr h.1
  rw[wl]at hw
  rw[dn]
  have:=qc ps a b E (tot ps) h.2 h0 h1 h2 h3 (by lia) (fun p hp=>mem_tot h.2 hp) w hw
  have e:(((tot ps).toNat*dns ps:Nat):Int)=tot ps*(dns ps:Nat):=by push_cast; rw[Int.toNat_of_nonneg (by lia)]
  rw[e,← Int.mul_assoc]
  exact this
theorem qc:∀(ps:List (Int×Tr)) (a b E S:Int),Oks ps→0≤a→a≤b→0<b→b ∣ E→0<S→(∀ p∈ps,p.1≤S)→∀ w∈wls ps a b S,Ch (E*S*(dns ps:Nat)) w.2
 | [],_,_,_,_,_,_,_,_,_,_,_,w,hw=>by rw[wls]at hw; cases hw
 | (m,u)::r,a,b,E,S,h,h0,h1,h2,h3,hS,hm,w,hw=>by
  rw[Oks]at h
  rw[wls]at hw
  rw[dns]
  have m1:m≤S:=hm _ mem_cons_self
  rcases mem_append.mp hw with hw | hw
  ·have:=qc r a b E S h.2.2 h0 h1 h2 h3 hS (fun p hp=>hm p (mem_cons_of_mem _ hp)) w hw
   refine ⟨this.t0,this.le,this.b0,?_⟩
   push_cast
   have e:E*S*((dn u:Int)*(dns r:Int))=E*S*(dns r:Int)*(dn u:Int):=by rw[Int.mul_comm (dn u:Int),← Int.mul_assoc]
   rw[e]
   exact Int.dvd_mul_of_dvd_left this.dv
  ·have:=uH u (a*m) (b*S) (E*S) h.2.1 (Int.mul_nonneg h0 (by lia)) (Int.mul_le_mul h1 m1 (by lia) (by lia)) (Int.mul_pos h2 hS) (Int.mul_dvd_mul h3 (Int.dvd_refl S)) w hw
   refine ⟨this.t0,this.le,this.b0,?_⟩
   push_cast
   rw[← Int.mul_assoc]
   exact Int.dvd_mul_of_dvd_left this.dv
theorem mem_tot:∀{ps:List (Int×Tr)},Oks ps→∀{p:Int×Tr},p∈ps→p.1≤tot ps
 | (m,u)::r,h,p,hp=>by
  rw[Oks]at h
  have et:tot ((m,u)::r)=m+tot r:=by unfold tot; rw[map_cons,sum_cons]
  rw[et]
  have:=oks_tot h.2.2
  rcases mem_cons.mp hp with rfl | hp
  ·show m≤_; lia
  ·have:=mem_tot h.2.2 hp
   have:=h.1
   lia
end
theorem lcm_step{r n D:Int}(hr:0<r)(hn:0<n)(h1:r ∣ D)(h2:n ∣ D):0<r/(Int.gcd r n:Int)*n∧r ∣ r/(Int.gcd r n:Int)*n∧n ∣ r/(Int.gcd r n:Int)*n∧r/(Int.gcd r n:Int)*n ∣ D:=by
 have g0:0<Int.gcd r n:=Int.gcd_pos_of_ne_zero_right _ (by lia)
 have g1:(0:Int)<(Int.gcd r n:Int):=by lia
 obtain ⟨c,hc⟩:=Int.gcd_dvd_left (a:=r) (b:=n)
 obtain ⟨e,he⟩:=Int.gcd_dvd_right (a:=r) (b:=n)
 have ec:r/(Int.gcd r n:Int)=c:=by
  have:=Int.mul_ediv_cancel_left c (show (Int.gcd r n:Int)≠0 by lia)
  rw[← hc]at this
  exact this
 have c0:0<c:=by
  rcases Int.lt_or_le 0 c with h | h
  ·exact h
  ·have:=Int.mul_nonpos_of_nonneg_of_nonpos (Int.le_of_lt g1) h; lia
 rw[ec]
 refine ⟨Int.mul_pos c0 hn,⟨e,?_⟩,⟨c,Int.mul_comm _ _⟩,?_⟩
 ·rw[hc]
  conv=>lhs; rw[he]
  generalize (Int.gcd r n:Int)=g
  rw[← Int.mul_assoc,Int.mul_comm c g]
 ·have l:(Int.lcm r n:Int) ∣ D:=by
   have:=Nat.lcm_dvd (Int.natAbs_dvd_natAbs.mpr h1) (Int.natAbs_dvd_natAbs.mpr h2)
   exact Int.natAbs_dvd_natAbs.mp (by rw[Int.natAbs_natCast]; exact this)
  have el:(Int.lcm r n:Int)=c*n:=by
   have:=Int.gcd_mul_lcm r n
   have e1:(Int.gcd r n:Int)*(Int.lcm r n:Int)=r*n:=by
    have h:((Int.gcd r n*Int.lcm r n:Nat):Int)=((r*n).natAbs:Int):=by rw[this,Int.natAbs_mul]
    rw[Int.natCast_mul]at h
    have:=Int.mul_pos hr hn
    lia
   have e2:(Int.gcd r n:Int)*(Int.lcm r n:Int)=(Int.gcd r n:Int)*(c*n):=by
    rw[e1,← Int.mul_assoc,← hc]
   exact Int.eq_of_mul_eq_mul_left (by lia) e2
  rw[← el]
  exact l
theorem nM{L t b:Int}(hL:0<L)(hb:0<b)(h:b ∣ L):((t*(L/b):Int):Rat)=qv (t,b)*(L:Rat):=by
 obtain ⟨c,rfl⟩:=h
 rw[Int.mul_ediv_cancel_left c (by lia)]
 have hb':(b:Rat)≠0:=by have:b≠0:=(by lia); exact_mod_cast this
 unfold qv
 push_cast
 grind
theorem top_sum{L:Int}(hL:0<L):∀{fs:List (Int×Int)},(∀ f∈fs,0<f.2∧f.2 ∣ L)→(((fs.map fun f=>f.1*(L/f.2)).sum:Int):Rat)=sumQ fs*(L:Rat)
 | [],_=>by show ((0:Int):Rat)=0*_; grind
 | f::fs,h=>by
  have h1:=nM (t:=f.1) hL (h f mem_cons_self).1 (h f mem_cons_self).2
  have h2:=top_sum hL fun x hx=>h x (mem_cons_of_mem _ hx)
  rw[map_cons,sum_cons,Rat.intCast_add,h1,h2]
  have e:sumQ (f::fs)=qv (f.1,f.2)+sumQ fs:=by unfold sumQ; rw[map_cons,sum_cons]
  rw[e]
  grind
theorem low_tops{L T:Int}{q:Rat}(hL:0<L)(e:(T:Rat)=q*(L:Rat)):eW T L=fr q:=by
 rw[m9 T hL,e]
 have hb':(L:Rat)≠0:=by have:L≠0:=(by lia); exact_mod_cast this
 congr 1
 grind
theorem wt(q:Rat):qv (fr q)=q:=by
 unfold qv fr
 have:=Rat.num_divInt_den q
 rw[Rat.divInt_eq_div]at this
 exact this
theorem bq_bt{D:Nat}{q:Rat}(hD:0<D)(h:Bq D q):0≤q.num∧q.num≤(q.den:Int)∧(0:Int)<q.den∧(q.den:Int) ∣ (D:Int):=by
 obtain ⟨h0,h1,n,e⟩:=h
 have e':q*(D:Rat)=((n:Int):Rat):=by rw[e]; rfl
 have eq:=wM hD e'
 have l:=eM (n:Int) (show D≠0 by lia)
 rw[← eq]at l
 have e2:(eW (n:Int) (D:Int)).2=(q.den:Int):=by rw[l]; rfl
 have e2':(D:Int)/(Int.gcd (n:Int) (D:Int):Int)=(q.den:Int):=e2
 refine ⟨Rat.num_nonneg.mpr h0,?_,by have:=q.den_pos; lia,?_⟩
 ·have:q≤1:=h1
  rw[Rat.le_iff]at this
  simpa using this
 ·rw[← e2']
  exact Int.ediv_dvd_of_dvd (Int.gcd_dvd_right (a:=(n:Int)) (b:=(D:Int)))
def Lm2:Nat:=2 ^ 2720
theorem bt_of{D:Nat}{i:Int}(hD:0<D)(hl:D≤Lm2)(h0:0≤i)(h:i≤(D:Int)):Bt 2721 i:=by
 unfold Bt
 have e:(2:Nat) ^ 2721=Lm2*2:=by unfold Lm2; exact Nat.pow_succ 2 2720
 rw[e]
 have:0<Lm2:=by unfold Lm2; exact Nat.pow_pos (by decide)
 lia
theorem bq_bb{D:Nat}{q:Rat}(hD:0<D)(hl:D≤Lm2)(h:Bq D q):Bt 2721 q.num∧Bt 2721 (q.den:Int):=by
 obtain ⟨a,b,c,d⟩:=bq_bt hD h
 have:=Int.le_of_dvd (by lia) d
 exact ⟨bt_of hD hl a (by lia),bt_of hD hl (by lia) this⟩
theorem ch_bt{D:Nat}{c:Int×Int}(hD:0<D)(hl:D≤Lm2)(h:Ch (D:Int) c):Bt 2721 c.1∧Bt 2721 c.2:=by
 have:=Int.le_of_dvd (by lia) h.dv
 have:=h.le
 have:=h.b0
 exact ⟨bt_of hD hl h.t0 (by lia),bt_of hD hl (by lia) (by lia)⟩
def fb:Nat→Nat
 | 0=>0
 | d+1=>32+4*fb d
mutual
def Dp:Nat→Tr→Prop
 | _,.leaf ns=>ns.Nodup∧ns.length≤6
 | 0,.die _=>False
 | d+1,.die ps=>1≤ps.length∧ps.length≤4∧Dps d ps
def Dps:Nat→List (Int×Tr)→Prop
 | _,[]=>True
 | d,(m,u)::r=>1≤m∧m≤1000000000∧Dp d u∧Dps d r
end
theorem dps_of:∀{d:Nat}{ps:List (Int×Tr)},(∀ p∈ps,1≤p.1∧p.1≤1000000000∧Dp d p.2)→Dps d ps
 | d,[],_=>by rw[Dps]; trivial
 | d,(m,u)::r,h=>by rw[Dps]; exact ⟨(h _ mem_cons_self).1,(h _ mem_cons_self).2.1,(h _ mem_cons_self).2.2,dps_of fun p hp=>h p (mem_cons_of_mem _ hp)⟩
mutual
theorem dp_ok:∀(d:Nat) (t:Tr),Dp d t→Ok t
 | _,.leaf ns,h=>by rw[Dp]at h; rw[Ok]; exact ⟨h.1,by lia⟩
 | 0,.die ps,h=>by rw[Dp]at h; exact h.elim
 | d+1,.die ps,h=>by
  rw[Dp]at h; rw[Ok]
  exact ⟨fun e=>by rw[e]at h; exact absurd h.1 (by decide),qf d ps h.2.2⟩
theorem qf:∀(d:Nat) (ps:List (Int×Tr)),Dps d ps→Oks ps
 | _,[],_=>by rw[Oks]; trivial
 | d,(m,u)::r,h=>by rw[Dps]at h; rw[Oks]; exact ⟨h.1,dp_ok d u h.2.2.1,qf d r h.2.2.2⟩
end
theorem dps_tot:∀(d:Nat) (ps:List (Int×Tr)),Dps d ps→tot ps≤(ps.length:Int)*1000000000
 | _,[],_=>by simp[tot]
 | d,(m,u)::r,h=>by
  rw[Dps]at h
  have ih:=dps_tot d r h.2.2.2
  have et:tot ((m,u)::r)=m+tot r:=by unfold tot; rw[map_cons,sum_cons]
  rw[et,length_cons]
  have:=h.2.1
  push_cast
  lia
mutual
theorem uU:∀(d:Nat) (t:Tr),Dp d t→dn t≤2 ^ fb d
 | d,.leaf ns,_=>by rw[dn]; exact Nat.one_le_two_pow
 | 0,.die ps,h=>by rw[Dp]at h; exact h.elim
 | d+1,.die ps,h=>by
  rw[Dp]at h
  rw[dn,fb,Nat.pow_add]
  have h1:=dps_tot d ps h.2.2
  have h2:=rh d ps h.2.2
  have h3:2 ^ (ps.length*fb d)≤2 ^ (4*fb d):=Nat.pow_le_pow_right (by decide) (Nat.mul_le_mul_right _ h.2.1)
  have e:(2:Nat) ^ 32=4294967296:=by decide
  exact Nat.mul_le_mul (by rw[e]; have:=h.2.1; lia) (Nat.le_trans h2 h3)
theorem rh:∀(d:Nat) (ps:List (Int×Tr)),Dps d ps→dns ps≤2 ^ (ps.length*fb d)
 | d,[],_=>by rw[dns]; exact Nat.one_le_two_pow
 | d,(m,u)::r,h=>by
  rw[Dps]at h
  rw[dns,length_cons,Nat.add_mul,Nat.one_mul,Nat.pow_add,Nat.mul_comm]
  exact Nat.mul_le_mul (rh d r h.2.2.2) (uU d u h.2.2.1)
end
theorem tR:∀{d:Nat},d≤4→fb d≤2720
 | 0,_=>by decide
 | 1,_=>by decide
 | 2,_=>by decide
 | 3,_=>by decide
 | 4,_=>by decide
 | n+5,h=>by lia
theorem dn_lm{d:Nat}{t:Tr}(hd:d≤4)(h:Dp d t):dn t≤Lm2:=Nat.le_trans (uU d t h) (Nat.pow_le_pow_right (by decide) (tR hd))
mutual
theorem uD:∀(d:Nat) (t:Tr),Dp d t→lv t≤4 ^ d
 | d,.leaf ns,_=>by rw[lv]; exact Nat.one_le_pow _ _ (by decide)
 | 0,.die ps,h=>by rw[Dp]at h; exact h.elim
 | d+1,.die ps,h=>by
  rw[Dp]at h
  rw[lv]
  have:=qW d ps h.2.2
  have h3:ps.length*4 ^ d≤4*4 ^ d:=Nat.mul_le_mul_right _ h.2.1
  rw[Nat.pow_succ,Nat.mul_comm]
  lia
theorem qW:∀(d:Nat) (ps:List (Int×Tr)),Dps d ps→lvs ps≤ps.length*4 ^ d
 | d,[],_=>by rw[lvs]; exact Nat.zero_le _
 | d,(m,u)::r,h=>by
  rw[Dps]at h
  rw[lvs,length_cons,Nat.add_mul,Nat.one_mul]
  have:=uD d u h.2.2.1
  have:=qW d r h.2.2.2
  lia
end
theorem lv_256{d:Nat}{t:Tr}(hd:d≤4)(h:Dp d t):lv t≤256:=by
 have h1:=uD d t h
 have h2:4 ^ d≤4 ^ 4:=Nat.pow_le_pow_right (by decide) hd
 have e:4 ^ 4=256:=by decide
 lia
mutual
theorem qU:∀(t:Tr) (a b:Int),Ok t→∀ w∈wl t a b,w.1.Nodup∧w.1.length≤12
 | .leaf ns,a,b,h,w,hw=>by rw[wl]at hw; rw[Ok]at h; rw[mem_singleton.mp hw]; exact h
 | .die ps,a,b,h,w,hw=>by rw[wl]at hw; rw[Ok]at h; exact mQ ps a b _ h.2 w hw
theorem mQ:∀(ps:List (Int×Tr)) (a b S:Int),Oks ps→∀ w∈wls ps a b S,w.1.Nodup∧w.1.length≤12
 | [],_,_,_,_,w,hw=>by rw[wls]at hw; cases hw
 | (m,u)::r,a,b,S,h,w,hw=>by
  rw[Oks]at h
  rw[wls]at hw
  rcases mem_append.mp hw with hw | hw
  ·exact mQ r a b S h.2.2 w hw
  ·exact qU u _ _ h.2.1 w hw
end
end Tb
namespace WSrt
open PySem PySem.W PyProof.Rows
def run{α:Type}(lt:Nat→Nat→Bool):KasT α→α
 | .ret x=>x
 | .ask i j k=>run lt (k (lt i j))
theorem dJ{α β:Type}(lt:Nat→Nat→Bool)(f:α→KasT β):∀ t:KasT α,run lt (t.bind f)=run lt (f (run lt t))
 | .ret _=>rfl
 | .ask i j k=>dJ lt f (k (lt i j))
def e(p:Array Nat)(i:Nat):Nat:=(p[i]?).getD 0
theorem aM(p:Array Nat)(i:Nat):p.getD i 0=e p i:=by unfold e; simp[Array.getD_eq_getD_getElem?]
variable (lt:Nat→Nat→Bool) (n:Nat)
structure Wk:Prop where
 asy:∀ i j,i<n→j<n→lt i j=true→lt j i=false
 tr:∀ i j k,i<n→j<n→k<n→lt j i=false→lt k j=false→lt k i=false
structure PV(p:Array Nat):Prop where
 sz:p.size=n
 pm:p.toList.Perm (List.range n)
theorem e_list{p:Array Nat}{i:Nat}(h:i<p.size):p.toList[i]? = some (e p i):=by
 unfold e
 rw[Array.getElem?_toList]
 simp[h]
theorem PV.bd{p:Array Nat}(h:PV n p){i:Nat}(hi:i<n):e p i<n:=by
 have:=e_list (p:=p) (i:=i) (by rw[h.sz]; exact hi)
 have hm:=h.pm.mem_iff.mp (List.mem_of_getElem? this)
 exact mem_range.mp hm
theorem PV.ne{p:Array Nat}(h:PV n p){i j:Nat}(hi:i<n)(hj:j<n)(hne:i≠j):e p i≠e p j:=by
 have nd:p.toList.Nodup:=h.pm.nodup_iff.mpr nodup_range
 have h1:=e_list (p:=p) (i:=i) (by rw[h.sz]; exact hi)
 have h2:=e_list (p:=p) (i:=j) (by rw[h.sz]; exact hj)
 intro z
 rw[z]at h1
 have l1:=(List.getElem?_eq_some_iff.mp h1)
 have l2:=(List.getElem?_eq_some_iff.mp h2)
 obtain ⟨a1,b1⟩:=l1
 obtain ⟨a2,b2⟩:=l2
 have pw:=pairwise_iff_getElem.mp nd
 rcases Nat.lt_trichotomy i j with c | c | c
 ·exact pw i j a1 a2 c (b1.trans b2.symm)
 ·exact hne c
 ·exact pw j i a2 a1 c (b2.trans b1.symm)
def Asc(p:Array Nat)(m:Nat):Prop:=∀ i j,i<j→j<m→lt (e p j) (e p i)=false
def Dsc(p:Array Nat)(m:Nat):Prop:=∀ i j,i<j→j<m→lt (e p i) (e p j)=false
def Blk(p:Array Nat)(i j:Nat):Prop:=∀ x y,i≤x→x<j→i≤y→y<j→lt (e p x) (e p y)=false
variable (T:Wk lt n)
include T
theorem rf{p:Array Nat}{m:Nat}(h:PV n p)(hm:1≤m)(hmn:m<n)(a:Asc lt p m)(c:lt (e p m) (e p (m - 1))=false):Asc lt p (m+1):=by
 intro i j hij hj
 by_cases c1:j<m
 ·exact a i j hij c1
 ·have:j=m:=by omega
  subst this
  by_cases c2:i=j - 1
  ·rw[c2]; exact c
  ·exact T.tr _ (e p (j - 1)) _ (h.bd n (by omega)) (h.bd n (by omega)) (h.bd n (by omega)) (a i (j - 1) (by omega) (by omega)) c
theorem iH{p:Array Nat}{m:Nat}(h:PV n p)(hm:1≤m)(hmn:m<n)(a:Dsc lt p m)(c:lt (e p (m - 1)) (e p m)=false):Dsc lt p (m+1):=by
 intro i j hij hj
 by_cases c1:j<m
 ·exact a i j hij c1
 ·have:j=m:=by omega
  subst this
  by_cases c2:i=j - 1
  ·rw[c2]; exact c
  ·exact T.tr _ (e p (j - 1)) _ (h.bd n (by omega)) (h.bd n (by omega)) (h.bd n (by omega)) c (a i (j - 1) (by omega) (by omega))
theorem gM{p:Array Nat}(h:PV n p):∀(f m:Nat),1≤m→m+f≤n→Asc lt p m→m≤run lt (kas_asc p f m)∧run lt (kas_asc p f m)≤m+f∧Asc lt p (run lt (kas_asc p f m))∧(run lt (kas_asc p f m)<m+f→lt (e p (run lt (kas_asc p f m))) (e p (run lt (kas_asc p f m) - 1))=true)
 | 0,m,_,_,a=>⟨Nat.le_refl _,Nat.le_refl _,a,fun z=>absurd z (Nat.lt_irrefl _)⟩
 | f+1,m,h1,h2,a=>by
  have e0:run lt (kas_asc p (f+1) m)=run lt (if lt (e p m) (e p (m - 1))=true then .ret m else kas_asc p f (m+1)):=by
   show run lt (if lt (p.getD m 0) (p.getD (m - 1) 0)=true then .ret m else kas_asc p f (m+1))=_
   rw[aM,aM]
  rw[e0]
  cases c:lt (e p m) (e p (m - 1)) with
  | true =>
   rw[if_pos rfl]
   exact ⟨Nat.le_refl _,by show m≤_; omega,a,fun _=>c⟩
  | false =>
   rw[if_neg (by decide)]
   obtain ⟨q1,q2,q3,q4⟩:=gM h f (m+1) (by omega) (by omega) (rf lt n T h h1 (by omega) a c)
   exact ⟨by omega,by omega,q3,fun z=>q4 (by omega)⟩
omit T in
theorem d7{p:Array Nat}{i m k:Nat}(hm:m≤p.size):e (kas_rev p i m) k=if i≤k∧k<m then e p (i+m - 1 - k) else e p k:=by
 unfold e kas_rev
 rw[getElem?_mirror_all hm]
 split <;> rfl
omit T in
theorem PV.rev{p:Array Nat}(h:PV n p)(i m:Nat):PV n (kas_rev p i m):=⟨by unfold kas_rev; rw[mirror_size]; exact h.sz,(Array.perm_iff_toList_perm.mp (mirror_perm p i m ((m - i)/2))).trans h.pm⟩
theorem kI{p:Array Nat}{i m:Nat}(h:PV n p)(hm:m≤n)(a:Dsc lt p m)(b:Blk lt p i m):Dsc lt (kas_rev p i m) m:=by
 intro x y hxy hy
 have hz:m≤p.size:=by rw[h.sz]; exact hm
 rw[d7 hz,d7 hz]
 by_cases cy:i≤y∧y<m
 ·rw[if_pos cy]
  by_cases cx:i≤x∧x<m
  ·rw[if_pos cx]
   exact b _ _ (by omega) (by omega) (by omega) (by omega)
  ·rw[if_neg cx]
   exact a _ _ (by omega) (by omega)
 ·rw[if_neg cy,if_neg (by omega)]
  exact a _ _ hxy hy
theorem d9:∀(f:Nat) (p:Array Nat) (m q:Nat),PV n p→q+1≤m→m+f≤n→Dsc lt p m→Blk lt p (m - (q+1)) m→∃ p' m' q',run lt (kas_desc f p m q)=(p',m',q')∧PV n p'∧m≤m'∧m'≤m+f∧q'+1≤m'∧Dsc lt p' m'∧Blk lt p' (m' - (q'+1)) m'
 | 0,p,m,q,h,hq,_,a,b=>⟨p,m,q,rfl,h,Nat.le_refl _,Nat.le_refl _,hq,a,b⟩
 | f+1,p,m,q,h,hq,hf,a,b=>by
  have e0:run lt (kas_desc (f+1) p m q)=run lt (if lt (e p m) (e p (m - 1))=true then (if q > 0 then kas_desc f (kas_rev p (m - (q+1)) m) (m+1) 0 else kas_desc f p (m+1) 0) else (if lt (e p (m - 1)) (e p m)=true then .ret (p,m,q) else kas_desc f p (m+1) (q+1))):=by
   show run lt (if lt (p.getD m 0) (p.getD (m - 1) 0)=true then (if q > 0 then kas_desc f (kas_rev p (m - (q+1)) m) (m+1) 0 else kas_desc f p (m+1) 0) else .ask (p.getD (m - 1) 0) (p.getD m 0) fun d=>if d=true then .ret (p,m,q) else kas_desc f p (m+1) (q+1))=_
   rw[aM,aM]
   split <;> rfl
  rw[e0]
  have one:∀ p':Array Nat,PV n p'→Blk lt p' (m+1 - (0+1)) (m+1):=fun p' h' x y hx1 hx2 hy1 hy2=>by
   have:x=m:=by omega
   have:y=m:=by omega
   subst x y
   cases c:lt (e p' m) (e p' m) with
   | false=>rfl
   | true=>rw[T.asy _ _ (h'.bd n (by omega)) (h'.bd n (by omega)) c]at c; exact absurd c (by decide)
  have hz:m≤p.size:=by rw[h.sz]; omega
  cases c:lt (e p m) (e p (m - 1)) with
  | true =>
   have c':=T.asy _ _ (h.bd n (by omega)) (h.bd n (by omega)) c
   rw[if_pos rfl]
   by_cases hq0:q > 0
   ·rw[if_pos hq0]
    have h':=h.rev n (m - (q+1)) m
    have a':=kI lt n T h (by omega) a b
    have c2:lt (e (kas_rev p (m - (q+1)) m) (m - 1)) (e (kas_rev p (m - (q+1)) m) m)=false:=by
     rw[d7 hz,d7 hz,if_pos ⟨by omega,by omega⟩,if_neg (by omega)]
     have e1:m - (q+1)+m - 1 - (m - 1)=m - (q+1):=by omega
     rw[e1]
     exact T.tr _ (e p (m - 1)) _ (h.bd n (by omega)) (h.bd n (by omega)) (h.bd n (by omega)) c' (b _ _ (by omega) (by omega) (by omega) (by omega))
    obtain ⟨p',m',q',r1,r2,r3,r4,r5,r6,r7⟩:=d9 f _ (m+1) 0 h' (by omega) (by omega) (iH lt n T h' (by omega) (by omega) a' c2) (one _ h')
    exact ⟨p',m',q',r1,r2,by omega,by omega,r5,r6,r7⟩
   ·rw[if_neg hq0]
    obtain ⟨p',m',q',r1,r2,r3,r4,r5,r6,r7⟩:=d9 f p (m+1) 0 h (by omega) (by omega) (iH lt n T h (by omega) (by omega) a c') (one _ h)
    exact ⟨p',m',q',r1,r2,by omega,by omega,r5,r6,r7⟩
  | false =>
   rw[if_neg (by decide)]
   cases d:lt (e p (m - 1)) (e p m) with
   | true =>
    rw[if_pos rfl]
    exact ⟨p,m,q,rfl,h,Nat.le_refl _,by omega,hq,a,b⟩
   | false =>
    rw[if_neg (by decide)]
    have b':Blk lt p (m+1 - (q+1+1)) (m+1):=by
     have em:m+1 - (q+1+1)=m - (q+1):=by omega
     rw[em]
     have up:∀ x,m - (q+1)≤x→x<m→lt (e p x) (e p m)=false∧lt (e p m) (e p x)=false:=fun x h1 h2 =>
      ⟨T.tr _ (e p (m - 1)) _ (h.bd n (by omega)) (h.bd n (by omega)) (h.bd n (by omega)) d (b _ _ h1 h2 (by omega) (by omega)),T.tr _ (e p (m - 1)) _ (h.bd n (by omega)) (h.bd n (by omega)) (h.bd n (by omega)) (b _ _ (by omega) (by omega) h1 h2) c⟩
     intro x y hx1 hx2 hy1 hy2
     by_cases cx:x=m
     ·by_cases cy:y=m
      ·rw[cx,cy]
       exact one p h m m (by omega) (by omega) (by omega) (by omega)
      ·rw[cx]; exact (up y hy1 (by omega)).2
     ·by_cases cy:y=m
      ·rw[cy]; exact (up x hx1 (by omega)).1
      ·exact b x y hx1 (by omega) hy1 (by omega)
    obtain ⟨p',m',q',r1,r2,r3,r4,r5,r6,r7⟩:=d9 f p (m+1) (q+1) h (by omega) (by omega) (iH lt n T h (by omega) (by omega) a d) b'
    exact ⟨p',m',q',r1,r2,by omega,by omega,r5,r6,r7⟩
omit T in
theorem tK{p:Array Nat}{m:Nat}(h:PV n p)(hm:m≤n)(a:Dsc lt p m):Asc lt (kas_rev p 0 m) m:=by
 intro i j hij hj
 have hz:m≤p.size:=by rw[h.sz]; exact hm
 rw[d7 hz,d7 hz,if_pos ⟨by omega,by omega⟩,if_pos ⟨by omega,by omega⟩]
 exact a _ _ (by omega) (by omega)
theorem jY{p:Array Nat}{m:Nat}(h:PV n p)(h1:1≤m)(hm:m≤n)(a:Dsc lt p m):∃ m' p',run lt (kas_tail3 m n p)=(m',p')∧PV n p'∧Asc lt p' m'∧1≤m'∧m'≤n:=by
 unfold kas_tail3
 rw[dJ]
 have h':=h.rev n 0 m
 obtain ⟨q1,q2,q3,_⟩:=gM lt n T h' (n - m) m h1 (by omega) (tK lt n h hm a)
 exact ⟨_,_,rfl,h',q3,by omega,by omega⟩
theorem jk{p:Array Nat}{m:Nat}(h:PV n p)(h1:1≤m)(hm:m<n)(a:Dsc lt p (m+1)):∃ m' p',run lt (kas_descPart m n p)=(m',p')∧PV n p'∧Asc lt p' m'∧1≤m'∧m'≤n:=by
 unfold kas_descPart
 rw[dJ]
 have one:Blk lt p (m+1 - (0+1)) (m+1):=fun x y hx1 hx2 hy1 hy2=>by
  have:x=m:=by omega
  have:y=m:=by omega
  subst x y
  cases c:lt (e p m) (e p m) with
  | false=>rfl
  | true=>rw[T.asy _ _ (h.bd n hm) (h.bd n hm) c]at c; exact absurd c (by decide)
 obtain ⟨p',m',q',r1,r2,r3,r4,r5,r6,r7⟩:=d9 lt n T (n - (m+1)) p (m+1) 0 h (by omega) (by omega) a one
 rw[r1]
 show ∃ m'' p'',run lt (if q' > 0 then kas_tail3 m' n (kas_rev p' (m' - (q'+1)) m') else kas_tail3 m' n p')=_∧_
 by_cases c:q' > 0
 ·rw[if_pos c]
  exact jY lt n T (r2.rev n _ _) (by omega) (by omega) (kI lt n T r2 (by omega) r6 r7)
 ·rw[if_neg c]
  exact jY lt n T r2 (by omega) (by omega) r6
theorem kf{p:Array Nat}{m:Nat}(h:PV n p)(q1:1≤m)(hm:m<n)(q3:Asc lt p m)(c3:lt (e p 0) (e p (m - 1))=false)(cs:lt (e p (m - 1)) (e p m)=false):Dsc lt (kas_rev p 0 m) (m+1):=by
 have hz:m≤p.size:=by rw[h.sz]; omega
 have le:∀ x y,x≤y→y<m→lt (e p y) (e p x)=false:=fun x y hxy hy=>by
  by_cases z:x=y
  ·subst z
   cases c4:lt (e p x) (e p x) with
   | false=>rfl
   | true=>rw[T.asy _ _ (h.bd n (by omega)) (h.bd n (by omega)) c4]at c4; exact absurd c4 (by decide)
  ·exact q3 x y (by omega) hy
 have al:∀ x y,x<m→y<m→lt (e p x) (e p y)=false:=fun x y hx hy =>
  T.tr _ (e p 0) _ (h.bd n (by omega)) (h.bd n (by omega)) (h.bd n (by omega)) (T.tr _ (e p (m - 1)) _ (h.bd n (by omega)) (h.bd n (by omega)) (h.bd n (by omega)) (le y (m - 1) (by omega) (by omega)) c3) (le 0 x (by omega) hx)
 intro i j hij hj
 rw[d7 hz,d7 hz,if_pos ⟨by omega,by omega⟩]
 by_cases cj:j<m
 ·rw[if_pos ⟨by omega,cj⟩]
  exact al _ _ (by omega) (by omega)
 ·rw[if_neg (by omega)]
  have:j=m:=by omega
  subst this
  exact T.tr _ (e p (j - 1)) _ (h.bd n (by omega)) (h.bd n (by omega)) (h.bd n (by omega)) cs (al _ _ (by omega) (by omega))
theorem jl{p:Array Nat}(h:PV n p)(hn:2≤n):∃ m' p',run lt (kas_count n p)=(m',p')∧PV n p'∧Asc lt p' m'∧1≤m'∧m'≤n:=by
 unfold kas_count
 rw[dJ]
 have a1:Asc lt p 1:=fun i j hij hj=>by omega
 obtain ⟨q1,q2,q3,q4⟩:=gM lt n T h (n - 1) 1 (Nat.le_refl _) (by omega) a1
 generalize run lt (kas_asc p (n - 1) 1)=m at q1 q2 q3 q4
 by_cases c:m=n
 ·have:(m == n)=true:=by simpa using c
  rw[if_pos this]
  exact ⟨m,p,rfl,h,q3,q1,by omega⟩
 ·have:¬(m == n)=true:=by simpa using c
  rw[if_neg this]
  have cs:=T.asy _ _ (h.bd n (by omega)) (h.bd n (by omega)) (q4 (by omega))
  by_cases c2:m > 1
  ·rw[if_pos c2]
   show ∃ m' p',run lt (if lt (p.getD 0 0) (p.getD (m - 1) 0)=true then .ret (m,p) else kas_descPart m n (kas_rev p 0 m))=_∧_
   rw[aM,aM]
   cases c3:lt (e p 0) (e p (m - 1)) with
   | true =>
    rw[if_pos rfl]
    exact ⟨m,p,rfl,h,q3,q1,by omega⟩
   | false =>
    rw[if_neg (by decide)]
    exact jk lt n T (h.rev n 0 m) (by omega) (by omega) (kf lt n T h q1 (by omega) q3 c3 cs)
  ·rw[if_neg c2]
   have m1:m=1:=by omega
   subst m1
   refine jk lt n T h (by omega) (by omega) ?_
   intro i j hij hj
   have:i=0:=by omega
   have:j=1:=by omega
   subst i j
   exact cs
theorem fR{p:Array Nat}{k:Nat}(h:PV n p)(hk:k<n)(a:Asc lt p k):∀(f l r:Nat),l≤r→r≤k→r - l≤f→(∀ i,i<l→lt (e p k) (e p i)=false)→(∀ i,r≤i→i<k→lt (e p i) (e p k)=false) →
  run lt (kas_place p k f l r)≤k∧(∀ i,i<run lt (kas_place p k f l r)→lt (e p k) (e p i)=false)∧(∀ i,run lt (kas_place p k f l r)≤i→i<k→lt (e p i) (e p k)=false)
 | 0,l,r,h1,h2,h3,lo,hi=>⟨by show l≤k; omega,lo,fun i hi1 hi2=>hi i (by have z:l≤i:=hi1; omega) hi2⟩
 | f+1,l,r,h1,h2,h3,lo,hi=>by
  by_cases c:l ≥ r
  ·have e0:run lt (kas_place p k (f+1) l r)=l:=by
    show run lt (if l ≥ r then .ret l else _)=l
    rw[if_pos c]; rfl
   rw[e0]
   exact ⟨by omega,lo,fun i hi1 hi2=>hi i (by omega) hi2⟩
  ·have e0:run lt (kas_place p k (f+1) l r)=run lt (if lt (e p k) (e p ((l+r)/2))=true then kas_place p k f l ((l+r)/2) else kas_place p k f ((l+r)/2+1) r):=by
    show run lt (if l ≥ r then .ret l else .ask (p.getD k 0) (p.getD ((l+r)/2) 0) fun c=>if c=true then kas_place p k f l ((l+r)/2) else kas_place p k f ((l+r)/2+1) r)=_
    rw[if_neg c,aM,aM]
    rfl
   rw[e0]
   have hm1:l≤(l+r)/2:=by omega
   have hm2:(l+r)/2<r:=by omega
   generalize (l+r)/2=m at hm1 hm2
   cases cc:lt (e p k) (e p m) with
   | true =>
    have cc':=T.asy _ _ (h.bd n hk) (h.bd n (by omega)) cc
    rw[if_pos rfl]
    refine fR h hk a f l m hm1 (by omega) (by omega) lo fun i hi1 hi2=>?_
    by_cases c3:i=m
    ·rw[c3]; exact cc'
    ·exact T.tr _ (e p m) _ (h.bd n hk) (h.bd n (by omega)) (h.bd n (by omega)) cc' (a m i (by omega) hi2)
   | false =>
    rw[if_neg (by decide)]
    refine fR h hk a f (m+1) r (by omega) h2 (by omega) (fun i hi1=>?_) hi
    by_cases c3:i=m
    ·rw[c3]; exact cc
    ·exact T.tr _ (e p m) _ (h.bd n (by omega)) (h.bd n (by omega)) (h.bd n hk) (a i m (by omega) (by omega)) cc
omit T in
theorem fE{p:Array Nat}{k l i:Nat}(hk:k<p.size)(hl:l≤k):e (bubble p k (k - l)) i=if i=l then e p k else if l<i∧i≤k then e p (i - 1) else e p i:=by
 unfold e
 rw[getElem?_bubble hk (k - l) (by omega)]
 have e1:k - (k - l)=l:=by omega
 rw[e1]
 split
 ·rfl
 ·split <;> rfl
theorem nB:∀(f:Nat) (p:Array Nat) (k:Nat),PV n p→k+f≤n→Asc lt p k→∃ p',run lt (kas_bin f p k)=p'∧PV n p'∧Asc lt p' (k+f)
 | 0,p,k,h,_,a=>⟨p,rfl,h,a⟩
 | f+1,p,k,h,hk,a=>by
  obtain ⟨q1,q2,q3⟩:=fR lt n T h (by omega) a k 0 k (by omega) (Nat.le_refl _) (by omega) (fun i hi=>by omega) (fun i h1 h2=>by omega)
  have e0:run lt (kas_bin (f+1) p k)=run lt (kas_bin f (bubble p k (k - run lt (kas_place p k k 0 k))) (k+1)):=by
   show run lt ((kas_place p k k 0 k).bind fun l=>kas_bin f (bubble p k (k - l)) (k+1))=_
   rw[dJ]
  rw[e0]
  generalize run lt (kas_place p k k 0 k)=l at q1 q2 q3
  have hz:k<p.size:=by rw[h.sz]; omega
  have h':PV n (bubble p k (k - l)):=⟨by rw[bubble_size]; exact h.sz,(Array.perm_iff_toList_perm.mp (bubble_perm p k (k - l))).trans h.pm⟩
  have a':Asc lt (bubble p k (k - l)) (k+1):=by
   intro i j hij hj
   by_cases c1:i=l
   ·have e1:e (bubble p k (k - l)) i=e p k:=by rw[fE hz q1,if_pos c1]
    have e2:e (bubble p k (k - l)) j=e p (j - 1):=by rw[fE hz q1,if_neg (by omega),if_pos ⟨by omega,by omega⟩]
    rw[e1,e2]
    exact q3 (j - 1) (by omega) (by omega)
   ·by_cases c2:j=l
    ·have e1:e (bubble p k (k - l)) i=e p i:=by rw[fE hz q1,if_neg c1,if_neg (by omega)]
     have e2:e (bubble p k (k - l)) j=e p k:=by rw[fE hz q1,if_pos c2]
     rw[e1,e2]
     exact q2 i (by omega)
    ·have e1:e (bubble p k (k - l)) i=if l<i then e p (i - 1) else e p i:=by
      rw[fE hz q1,if_neg c1]
      by_cases c:l<i
      ·rw[if_pos ⟨c,by omega⟩,if_pos c]
      ·rw[if_neg (fun z=>c z.1),if_neg c]
     have e2:e (bubble p k (k - l)) j=if l<j then e p (j - 1) else e p j:=by
      rw[fE hz q1,if_neg c2]
      by_cases c:l<j
      ·rw[if_pos ⟨c,by omega⟩,if_pos c]
      ·rw[if_neg (fun z=>c z.1),if_neg c]
     rw[e1,e2]
     split
     ·split
      ·exact a _ _ (by omega) (by omega)
      ·exact a _ _ (by omega) (by omega)
     ·split
      ·omega
      ·exact a _ _ hij (by omega)
  obtain ⟨p',r1,r2,r3⟩:=nB f _ (k+1) h' (by omega) a'
  exact ⟨p',r1,r2,by rw[show k+(f+1)=k+1+f by omega]; exact r3⟩
theorem run_sort(hn:2≤n):∃ p,run lt (kas_sort n)=p∧PV n p∧Asc lt p n:=by
 unfold kas_sort
 rw[dJ]
 have h0:PV n (List.toArray (List.range n)):=⟨by simp,by simp⟩
 obtain ⟨m,p,e1,e2,e3,e4,e5⟩:=jl lt n T h0 hn
 rw[e1]
 show ∃ p',run lt (if m<n then kas_bin (n - max m 1) p (max m 1) else .ret p)=p'∧_
 have mm:max m 1=m:=by omega
 by_cases c:m<n
 ·rw[if_pos c,mm]
  obtain ⟨p',r1,r2,r3⟩:=nB lt n T (n - m) p m e2 (by omega) e3
  exact ⟨p',r1,r2,by rw[show m+(n - m)=n by omega]at r3; exact r3⟩
 ·rw[if_neg c]
  have:m=n:=by omega
  subst this
  exact ⟨p,rfl,e2,e3⟩
omit T in
def In{α:Type}:KasT α→Prop
 | .ret _=>True
 | .ask i j k=>i<n∧j<n∧i≠j∧In (k (lt i j))
omit T in
theorem eT{α β:Type}{f:α→KasT β}:∀{t:KasT α},In lt n t→In lt n (f (run lt t))→In lt n (t.bind f)
 | .ret _,_,h=>h
 | .ask i j k,h,h'=>⟨h.1,h.2.1,h.2.2.1,eT h.2.2.2 h'⟩
omit T in
theorem mi{p:Array Nat}(h:PV n p):∀(f m:Nat),1≤m→m+f≤n→In lt n (kas_asc p f m)
 | 0,_,_,_=>trivial
 | f+1,m,h1,h2=>by
  refine ⟨by rw[aM]; exact h.bd n (by omega),by rw[aM]; exact h.bd n (by omega),by rw[aM,aM]; exact h.ne n (by omega) (by omega) (by omega),?_⟩
  dsimp only
  split
  ·exact trivial
  ·exact mi h f (m+1) (by omega) (by omega)
omit T in
theorem gH:∀(f:Nat) (p:Array Nat) (m q:Nat),PV n p→1≤m→m+f≤n→In lt n (kas_desc f p m q)
 | 0,_,_,_,_,_,_=>trivial
 | f+1,p,m,q,h,h1,h2=>by
  refine ⟨by rw[aM]; exact h.bd n (by omega),by rw[aM]; exact h.bd n (by omega),by rw[aM,aM]; exact h.ne n (by omega) (by omega) (by omega),?_⟩
  dsimp only
  split
  ·split
   ·exact gH f _ _ _ (h.rev n _ _) (by omega) (by omega)
   ·exact gH f _ _ _ h (by omega) (by omega)
  ·refine ⟨by rw[aM]; exact h.bd n (by omega),by rw[aM]; exact h.bd n (by omega),by rw[aM,aM]; exact h.ne n (by omega) (by omega) (by omega),?_⟩
   dsimp only
   split
   ·exact trivial
   ·exact gH f _ _ _ h (by omega) (by omega)
omit T in
theorem nv{p:Array Nat}{m:Nat}(h:PV n p)(h1:1≤m)(hm:m≤n):In lt n (kas_tail3 m n p):=eT lt n (mi lt n (h.rev n 0 m) (n - m) m h1 (by omega)) trivial
theorem j6{p:Array Nat}{m:Nat}(h:PV n p)(h1:1≤m)(hm:m<n)(a:Dsc lt p (m+1)):In lt n (kas_descPart m n p):=by
 have one:Blk lt p (m+1 - (0+1)) (m+1):=fun x y hx1 hx2 hy1 hy2=>by
  have:x=m:=by omega
  have:y=m:=by omega
  subst x y
  cases c:lt (e p m) (e p m) with
  | false=>rfl
  | true=>rw[T.asy _ _ (h.bd n hm) (h.bd n hm) c]at c; exact absurd c (by decide)
 obtain ⟨p',m',q',r1,r2,r3,r4,r5,r6,r7⟩:=d9 lt n T (n - (m+1)) p (m+1) 0 h (by omega) (by omega) a one
 refine eT lt n (gH lt n _ _ _ _ h (by omega) (by omega)) ?_
 rw[r1]
 show In lt n (if q' > 0 then kas_tail3 m' n (kas_rev p' (m' - (q'+1)) m') else kas_tail3 m' n p')
 split
 ·exact nv lt n (r2.rev n _ _) (by omega) (by omega)
 ·exact nv lt n r2 (by omega) (by omega)
theorem qL{p:Array Nat}(h:PV n p)(hn:2≤n):In lt n (kas_count n p):=by
 refine eT lt n (mi lt n h (n - 1) 1 (by omega) (by omega)) ?_
 have a1:Asc lt p 1:=fun i j hij hj=>by omega
 obtain ⟨q1,q2,q3,q4⟩:=gM lt n T h (n - 1) 1 (Nat.le_refl _) (by omega) a1
 generalize run lt (kas_asc p (n - 1) 1)=m at q1 q2 q3 q4
 by_cases c:m=n
 ·have:(m == n)=true:=by simpa using c
  rw[if_pos this]
  exact trivial
 ·have:¬(m == n)=true:=by simpa using c
  rw[if_neg this]
  have cs:=T.asy _ _ (h.bd n (by omega)) (h.bd n (by omega)) (q4 (by omega))
  by_cases c2:m > 1
  ·rw[if_pos c2]
   refine ⟨by rw[aM]; exact h.bd n (by omega),by rw[aM]; exact h.bd n (by omega),by rw[aM,aM]; exact h.ne n (by omega) (by omega) (by omega),?_⟩
   rw[aM,aM]
   cases c3:lt (e p 0) (e p (m - 1)) with
   | true=>exact trivial
   | false =>
    show In lt n (if false=true then _ else kas_descPart m n (kas_rev p 0 m))
    rw[if_neg (by decide)]
    exact j6 lt n T (h.rev n 0 m) (by omega) (by omega) (kf lt n T h q1 (by omega) q3 c3 cs)
  ·rw[if_neg c2]
   have m1:m=1:=by omega
   subst m1
   refine j6 lt n T h (by omega) (by omega) ?_
   intro i j hij hj
   have:i=0:=by omega
   have:j=1:=by omega
   subst i j
   exact cs
omit T in
theorem g8{p:Array Nat}{k:Nat}(h:PV n p)(hk:k<n):∀(f l r:Nat),r≤k→In lt n (kas_place p k f l r)
 | 0,_,_,_=>trivial
 | f+1,l,r,h2=>by
  show In lt n (if l ≥ r then .ret l else .ask (p.getD k 0) (p.getD ((l+r)/2) 0) fun c=>if c=true then kas_place p k f l ((l+r)/2) else kas_place p k f ((l+r)/2+1) r)
  split
  ·exact trivial
  ·refine ⟨by rw[aM]; exact h.bd n hk,by rw[aM]; exact h.bd n (by omega),by rw[aM,aM]; exact h.ne n hk (by omega) (by omega),?_⟩
   dsimp only
   split
   ·exact g8 h hk f l _ (by omega)
   ·exact g8 h hk f _ r h2
omit T in
theorem q9:∀(f:Nat) (p:Array Nat) (k:Nat),PV n p→k+f≤n→In lt n (kas_bin f p k)
 | 0,_,_,_,_=>trivial
 | f+1,p,k,h,hk=>by
  refine eT lt n (g8 lt n h (by omega) k 0 k (Nat.le_refl _)) ?_
  exact q9 f _ (k+1) ⟨by rw[bubble_size]; exact h.sz,(Array.perm_iff_toList_perm.mp (bubble_perm p k _)).trans h.pm⟩ (by omega)
theorem In_sort(hn:2≤n):In lt n (kas_sort n):=by
 have h0:PV n (List.toArray (List.range n)):=⟨by simp,by simp⟩
 refine eT lt n (qL lt n T h0 hn) ?_
 obtain ⟨m,p,e1,e2,e3,e4,e5⟩:=jl lt n T h0 hn
 rw[e1]
 show In lt n (if m<n then kas_bin (n - max m 1) p (max m 1) else .ret p)
 split
 ·exact q9 lt n _ _ _ e2 (by omega)
 ·exact trivial
omit T in
theorem wp_run{α:Type}{cmp:Nat→Nat→(Bool→Shared→Prop)→Shared→Prop}{s:Shared}(hc:∀ i j,i<n→j<n→i≠j→∀ C,C (lt i j) s→cmp i j C s){Q:α→Shared→Prop}:∀ t:KasT α,In lt n t→Q (run lt t) s→t.kasWp cmp Q s
 | .ret _,_,h=>h
 | .ask i j k,hi,h=>hc i j hi.1 hi.2.1 hi.2.2.1 _ (wp_run hc (k (lt i j)) hi.2.2.2 h)
end WSrt
namespace L2
open PySem PySem.Spec PyProof.Rows PySem.W
def ord(lt:Nat→Nat→Bool)(n:Nat):List Nat:=if 2≤n then (WSrt.run lt (kas_sort n)).toList else List.range n
theorem qz{lt:Nat→Nat→Bool}{n:Nat}(T:WSrt.Wk lt n):(ord lt n).Perm (List.range n):=by
 unfold ord
 split
 ·rename_i h
  obtain ⟨p,e,h1,h2⟩:=WSrt.run_sort lt n T h
  rw[e]; exact h1.pm
 ·exact .refl _
theorem tP{lt:Nat→Nat→Bool}{n:Nat}(T:WSrt.Wk lt n):(ord lt n).Pairwise fun i j=>lt j i=false:=by
 unfold ord
 split
 ·rename_i h
  obtain ⟨p,e,h1,h2⟩:=WSrt.run_sort lt n T h
  rw[e,pairwise_iff_getElem]
  intro i j hi hj hij
  have hj':j<n:=by rw[Array.length_toList,h1.sz]at hj; exact hj
  have e1:=(List.getElem?_eq_some_iff.mp (WSrt.e_list (p:=p) (i:=i) (by rw[h1.sz]; lia))).2
  have e2:=(List.getElem?_eq_some_iff.mp (WSrt.e_list (p:=p) (i:=j) (by rw[h1.sz]; lia))).2
  rw[e1,e2]
  exact h2 i j hij hj'
 ·match n with
  | 0=>exact List.Pairwise.nil
  | 1=>exact pairwise_singleton _ _
  | n+2=>exact absurd (show 2≤n+2 by lia) (by assumption)
section
variable {X:Cx}{pins:List (Addr×Obj)}{σ:St}{H:Hp}{s:Shared}{κ:SortKind}{lt:Nat→Nat→Bool}{KO:Nat→V→Hp→Prop}{xs:List V}{q:Addr}
end
def DE(h:Heap)(d:Addr)(es:Array DictEntry)(ep:Nat):Prop:=∃ o,h.get? d=some o∧o.ExactDict∧o.data=.dict es ep
theorem DE.on{h h':Heap}{d:Addr}{es:Array DictEntry}{ep:Nat}(x:DE h d es ep)(k:∀ o,h.get? d=some o→h'.get? d=some o):DE h' d es ep:=let ⟨o,e,r⟩:=x; ⟨o,k o e,r⟩
theorem DE.lt{h:Heap}{d:Addr}{es:Array DictEntry}{ep:Nat}(x:DE h d es ep):d<h.objs.size:=let ⟨_,e,_⟩:=x; Heap.lt_size e
theorem DE.ty{s:Shared}{d:Addr}{es:Array DictEntry}{ep:Nat}(x:DE s.heap d es ep):s.TypeIs (.ref d) "dict" := let ⟨o,e,c,_⟩:=x; ⟨o,e,c.1⟩
section
variable {prog:Program}{w:World}{A:Around}{E:Value→Shared→Prop}{s:Shared}{d I:Addr}{es:Array DictEntry}{ep i:Nat}
theorem t7{Q:Value→Shared→Prop}(nm:(d == sysModules)=false)(x:DE s.heap d es ep)
  (q:Q (.ref s.heap.objs.size) { s with heap:=s.heap.push { cls:=.type "dict_keyiterator",data:=.fields #[.ref d,.int 0 0,.int es.size 0,.int ep 0] } }):wpAny (model prog w) A (pyIter (.ref d)) Q E s:=by
 have ty:=x.ty
 obtain ⟨ob,g1,g2,g3⟩:=id x
 refine wpAny_pyIter_slot ty F.slot_dict_iter (wpAny_call_entry F.slot_dict_iter ty F.entry_dict_iter ?_ (F.args_dict_iter_1 _))
 unfold Builtin.«dict.__iter__»; refine wpAny_bind ?_
 unfold Builtin.Dict.dictSlotNone; refine wpAny_bind (wpAny_notOrdered_dict ty (wpAny_pure ?_))
 show wpAny _ _ (Builtin.Dict.showsAll d >>= _) _ _ _
 unfold Builtin.Dict.showsAll; rw[if_neg (fun z=>by rw[nm]at z; cases z)]
 refine wpAny_bind (wpAny_pure (wpAny_bind (wpAny_dictEntries g1 g3 (wpAny_bind (wpAny_dictEpoch g1 g3 ?_)))))
 refine wpAny_bind (wpAny_newObj_type (wpAny_pure ⟨_,rfl, "dict_keyiterator",_,⟨_,Heap.get?_push_size _ rfl,rfl⟩,F.slot_dict_keyiterator_next.lookup,?_⟩)); simpa[rawInt] using q
theorem tu{Q:Option Value→Shared→Prop}{e:DictEntry}(ki:s.heap.IsKeyIter I d i es.size ep)(x:DE s.heap d es ep)(hx:es[i]? = some e)
  (q:∀ h',h'.IsKeyIter I d (i+1) es.size ep→Heap.SameBut I s.heap h'→Q (some e.key) { s with heap:=h' }):wpAny (model prog w) A (pyNext (.ref I)) Q E s:=by
 obtain ⟨oi,k1,k2,k3⟩:=id ki
 obtain ⟨ob,g1,g2,g3⟩:=id x
 unfold pyNext; refine wpAny_bind (wpAny_attempt (wpAny_callSpecial?_slot (name:=Str.ofString "__next__") ki.typeIs F.slot_dict_keyiterator_next (wpAny_call_entry F.slot_dict_keyiterator_next ki.typeIs F.entry_dict_keyiterator_next ?_ (F.args_dict_keyiterator_next_1 _))))
 refine wpAny_bind (wpAny_pure (wpAny_bind (wpAny_bind ?_)))
 first | refine wpAny_bind (wpAny_typeNameOfWhole_keyiter ki.typeIs (wpAny_pure ?_)) | refine wpAny_bind (wpAny_typeNameOf_keyiter ki.typeIs (wpAny_pure ?_))
 refine wpAny_bind (wpAny_fieldsOf k1 k3 ?_); have own:Builtin.Dict_items.ownsTuple "dict_keyiterator" = false:=by decide
 simp only[own,Bool.false_eq_true,if_false]; show wpAny _ _ (if (Value.ref d == Value.none)=true then _ else _) _ _ _
 rw[if_neg (fun z:(Value.ref d == Value.none)=true=>Bool.false_ne_true z)]; refine wpAny_bind (wpAny_pure (wpAny_bind (wpAny_dictEntries g1 g3 ?_)))
 rw[if_neg (by simp)]; refine wpAny_bind (wpAny_pure (wpAny_bind (wpAny_dictEpoch g1 g3 ?_)))
 rw[if_neg (by simp)]; refine wpAny_pure ?_
 obtain ⟨hlt,rfl⟩:=Array.getElem?_eq_some_iff.mp hx
 simp only[show ¬((i:Int)<0) from by lia,if_false,Int.toNat_natCast,Array.getElem?_eq_getElem hlt]; refine wpAny_bind ?_
 first | refine wpAny_bind (wpAny_typeNameOfWhole_keyiter ki.typeIs (wpAny_pure ?_)) | refine wpAny_bind (wpAny_typeNameOf_keyiter ki.typeIs (wpAny_pure ?_))
 refine wpAny_bind (wpAny_isOneOf_keyiter ki.typeIs ?_); show wpAny _ _ (setField (.ref I) 1 (rawInt ((i:Int)+1)) >>= _) _ _ _
 refine wpAny_bind (wpAny_setField k1 k3 (by simp) ?_)
 have ki':(s.heap.update I (Obj.mapFields (·.setIfInBounds 1 (rawInt ((i:Int)+1))))).IsKeyIter I d (i+1) es.size ep:=⟨_,Heap.get?_update_self _ k1 (Obj.isFreed_of_fields (Obj.data_mapFields k3 _)),(Obj.cls_mapFields ..).trans k2,by rw[Obj.data_mapFields k3]; simp[rawInt]⟩
 refine wpAny_bind (wpAny_holding (wpAny_bind (wpAny_isOneOf_keyiter (s:={ s with heap:=s.heap.update I (Obj.mapFields (·.setIfInBounds 1 (rawInt ((i:Int)+1)))) }) ki'.typeIs ?_)))
 show wpAny _ _ (pure es[i].key) _ _ _; exact wpAny_pure (wpAny_pure ⟨_,rfl,wpAny_pure (q _ ki' (Heap.SameBut.update ..))⟩)
theorem vO{Q:Option Value→Shared→Prop}(hh:A.handled=none)(ki:s.heap.IsKeyIter I d i es.size ep)(x:DE s.heap d es ep)(hx:es.size≤i)
  (q:∀ h',Heap.ExtBut I s.heap h'→Q none { s with heap:=h' }):wpAny (model prog w) A (pyNext (.ref I)) Q E s:=by
 obtain ⟨oi,k1,k2,k3⟩:=id ki
 obtain ⟨ob,g1,g2,g3⟩:=id x
 unfold pyNext; refine wpAny_bind (wpAny_attempt (wpAny_callSpecial?_slot (name:=Str.ofString "__next__") ki.typeIs F.slot_dict_keyiterator_next (wpAny_call_entry F.slot_dict_keyiterator_next ki.typeIs F.entry_dict_keyiterator_next ?_ (F.args_dict_keyiterator_next_1 _))))
 refine wpAny_bind (wpAny_pure (wpAny_bind (wpAny_bind ?_)))
 first | refine wpAny_bind (wpAny_typeNameOfWhole_keyiter ki.typeIs (wpAny_pure ?_)) | refine wpAny_bind (wpAny_typeNameOf_keyiter ki.typeIs (wpAny_pure ?_))
 refine wpAny_bind (wpAny_fieldsOf k1 k3 ?_); have own:Builtin.Dict_items.ownsTuple "dict_keyiterator" = false:=by decide
 simp only[own,Bool.false_eq_true,if_false]; show wpAny _ _ (if (Value.ref d == Value.none)=true then _ else _) _ _ _
 rw[if_neg (fun z:(Value.ref d == Value.none)=true=>Bool.false_ne_true z)]; refine wpAny_bind (wpAny_pure (wpAny_bind (wpAny_dictEntries g1 g3 ?_)))
 rw[if_neg (by simp)]; refine wpAny_bind (wpAny_pure (wpAny_bind (wpAny_dictEpoch g1 g3 ?_)))
 rw[if_neg (by simp)]; refine wpAny_pure ?_
 simp only[show ¬((i:Int)<0) from by lia,if_false,Int.toNat_natCast,Array.getElem?_eq_none hx]; refine wpAny_bind ?_
 first | refine wpAny_bind (wpAny_typeNameOfWhole_keyiter ki.typeIs (wpAny_pure ?_)) | refine wpAny_bind (wpAny_typeNameOf_keyiter ki.typeIs (wpAny_pure ?_))
 show wpAny _ _ (setField (.ref I) 0 .none >>= _) _ _ _; refine wpAny_bind (wpAny_setField k1 k3 (by simp) ?_)
 show wpAny _ _ (newExc (.type "StopIteration") [] >>= _) _ _ _; refine wpAny_bind ?_; simp only[newExc,newTuple]
 refine wpAny_bind (wpAny_newObj_type (wpAny_bind (m:=firstArgMember _ _) (wpAny_of_eq (a:=Value.none) (by first | rfl | (simp only[firstArgMember]; rfl)) (wpAny_newObj_type ?_ (by size_fits)))) (by size_fits))
 simp only[raiseNew]; refine wpAny_bind (wpAny_handled ?_); rw[show A.in1.handled=none from hh]
 refine wpAny_bind (wpAny_pure (wpAny_throw ?_)); refine wpAny_bind (wpAny_isInstance (T := "StopIteration") (b:=true) ⟨_,Heap.get?_push_size _ rfl,rfl⟩ isSubtype_stop ?_)
 exact wpAny_pure (q _ (((Heap.SameBut.update ..).extBut.push _).push _))
theorem rj(hh:A.handled=none)(hne:d≠I):Walks prog w A I [I,d] [I] es.size (fun i v=>∃ e,es[i]? = some e∧v=e.key) (fun i h=>h.IsKeyIter I d i es.size ep∧DE h d es ep) where
 sub:=fun b hb=>by rw[mem_singleton.mp hb]; exact mem_cons_self ..
 frame:=fun _ _ _ st hk=>⟨st.1.at fun o e=>hk I (mem_cons_self ..) o e,st.2.on fun o e=>hk d (by simp) o e⟩
 item:=fun i s Q E hi st hQ=>by
  refine tu st.1 st.2 (Array.getElem?_eq_getElem hi) fun h' k' hs=>?_
  exact hQ _ h' s.toks ⟨_,Array.getElem?_eq_getElem hi,rfl⟩ ⟨k',st.2.on fun o e=>hs.extBut d o hne e⟩ fun b o hb e=>hs.extBut b o (fun z=>hb (by rw[z]; exact mem_cons_self ..)) e
 done:=fun s Q E st hQ=>vO hh st.1 st.2 (Nat.le_refl _) fun h' hs=>hQ h' s.toks fun b o hb e=>hs b o (fun z=>hb (by rw[z]; exact mem_cons_self ..)) e
 self:=fun _ _ _ _ st hQ=>wpAny_pyIter_keyiter st.1 hQ
theorem vF(nm:(d == sysModules)=false):KdlSrc prog w "dict" d d es.size (fun i v=>∃ e,es[i]? = some e∧v=e.key) (fun h=>DE h d es ep) where
 type:=fun _ x=>x.ty
 there:=fun _ x=>⟨x.lt,x.lt⟩
 keep:=fun _ _ x hk=>x.on fun o e=>hk d (.inl rfl) o e
 notList:=by decide
 notTuple:=by decide
 hint:=fun _ _ _ _ x q=>kdl_hint_dict x.ty q
 iter:=fun _ _ hh x=>⟨_,_,(fun _ _ q=>t7 nm x q),rj hh (Nat.ne_of_lt x.lt),⟨⟨_,Heap.get?_push_size _ rfl,rfl,rfl⟩,x.on fun o e=>Heap.get?_push_of_some _ e⟩⟩
def im(es:Array DictEntry):List Value:=es.toList.map (·.key)
theorem mw{acc:Array Value}(h:ItemsOf (fun i v=>∃ e,es[i]? = some e∧v=e.key) acc es.size):acc.toList=im es:=by
 obtain ⟨h1,h2⟩:=h
 refine List.ext_getElem? fun j=>?_
 unfold im
 rw[List.getElem?_map,Array.getElem?_toList,Array.getElem?_toList]
 by_cases c:j<acc.size
 ·obtain ⟨e,he,hv⟩:=h2 j _ (Array.getElem?_eq_getElem c)
  rw[Array.getElem?_eq_getElem c,he,hv]; rfl
 ·rw[Array.getElem?_eq_none (by lia),Array.getElem?_eq_none (by lia)]; rfl
theorem mh{Q:List Value→Shared→Prop}(hh:A.handled=none)(nm:(d == sysModules)=false)(x:DE s.heap d es ep)(hn:es.size≤sizeLine)
  (q:∀ h' tk,s.heap.objs.size<h'.objs.size→(∀ b o,s.heap.get? b=some o→h'.get? b=some o)→Q (im es) { s with heap:=h',toks:=tk }):wpAny (model prog w) A (collect (.ref d)) Q E s:=by
 unfold collect; refine wpAny_bind (wpAny_runValue (codeAny_builtin entry_proto_collect' ?_))
 show wpAny _ _ (do again (.builtin "list.__iadd__" ⟨[← newList [],.ref d],[]⟩)) _ _ _
 refine wpAny_bind (wpAny_newList (wpAny_pure ⟨Code.quiet_builtin _ (by decide +kernel),codeAny_builtin entry_list_iadd' ?_⟩))
 have hlt:=x.lt
 refine kdl_extend (R:=fun r s'=>match r with | Except.ok (Flow.ret v)=>wpAny (model prog w) A (match v with | Value.ref a=>(do let o ← load a; match o.data with | Data.seq xs _=>pure xs.toList | _=>unsupported "internal:collect") | _=>unsupported "internal:collect") Q E s' | Except.ok _=>False | Except.error e=>E e s') (s:={ s with heap:=s.heap.push { cls:=.type "list",data:=.seq #[] } }) (vF nm) hh (x.on fun o e=>Heap.get?_push_of_some _ e) s.heap.objs.size (Nat.ne_of_gt hlt) (Nat.ne_of_gt hlt) _ 0 (Heap.get?_push_size _ rfl) (fun h' tk acc c' hk hS ha=>?_) hn
 show wpAny (model prog w) A (do
   let o ← load s.heap.objs.size
   match o.data with
   | .seq xs _=>pure xs.toList
   | _=>unsupported "internal:collect") Q E _
 refine wpAny_bind (wpAny_load hS (wpAny_pure ?_)); rw[mw ha]
 exact q h' tk (Heap.lt_size hS) fun b o e=>hk b o (Nat.ne_of_lt (Heap.lt_size e)) (Heap.get?_push_of_some _ e)
end
section
variable {X:Cx}
theorem KT.at{H:Hp}:∀{kvs:List (List Key×V)}{xs:List (List Key×Addr×Value)}{i:Nat}{kv:List Key×V},KT H kvs xs→kvs[i]? = some kv→∃ x,xs[i]? = some x∧H x.2.1=some (.tup (kv.1.map kV))
 | _,_,_,_,.nil,h=>by cases h
 | _,_,0,_,.cons r t,h=>by cases h; exact ⟨_,rfl,r.2.1⟩
 | _,_,i+1,_,.cons r t,h=>KT.at (i:=i) t h
theorem fW{vs:List Value}(f:Nat→V):∀{o:List Nat},(∀ i∈o,RelV (f i) (vs.getD i Value.none))→Vals (o.map f) (o.map fun i=>vs.getD i Value.none)
 | [],_=>.nil
 | i::o,h=>.cons (h i (mem_cons_self ..)) (fW f fun j hj=>h j (mem_cons_of_mem _ hj))
end
section
variable {prog:Program}{w:World}{A:Around}{E:Value→Shared→Prop}{s:Shared}{d I v:Addr}{es:Array DictEntry}{ep i:Nat}{k0 v0:Value}
theorem sr(nm:(d == sysModules)=false):MeetsIn prog w (Builtin.«dict.items» ⟨[.ref d],[]⟩) (fun _ R s=>DE s.heap d es ep ∧
  R (.ok (.ret (.ref s.heap.objs.size))) { s with heap:=s.heap.push { cls:=.type "dict_items",data:=.fields #[.ref d] } }):=.of_wp fun A R s ⟨x,h⟩=>by
 unfold Builtin.«dict.items»; refine wpAny_bind ?_
 unfold Builtin.Dict.noArgs; refine wpAny_bind (wpAny_notOrdered_dict x.ty ?_)
 show wpAny _ _ (pure d) _ _ s; refine wpAny_pure ?_
 show wpAny _ _ (Builtin.Dict.showsAll d >>= _) _ _ s; unfold Builtin.Dict.showsAll
 rw[if_neg (fun z=>by rw[nm]at z; cases z)]; refine wpAny_bind (wpAny_pure ?_); exact wpAny_bind (wpAny_newObj_type (wpAny_pure ⟨_,rfl,h⟩))
theorem sh{Q:Value→Shared→Prop}(hv:s.heap.IsItemsView v d)(x:DE s.heap d es ep)
  (q:Q (.ref s.heap.objs.size) { s with heap:=s.heap.push { cls:=.type "dict_itemiterator",data:=.fields #[.none,.bool false,.ref d,.int 0 0,.int es.size 0,.int ep 0,.none,.none] } }):wpAny (model prog w) A (pyIter (.ref v)) Q E s:=by
 obtain ⟨ov,v1,v2,v3⟩:=id hv; obtain ⟨ob,g1,g2,g3⟩:=id x
 refine wpAny_pyIter_slot hv.typeIs F.slot_dict_items_iter (wpAny_call_entry F.slot_dict_items_iter hv.typeIs F.entry_dict_items_iter ?_ (F.args_dict_items_iter_1 _))
 unfold Builtin.«dict_items.__iter__»; refine wpAny_bind (wpAny_pure (wpAny_bind ?_))
 unfold Builtin.Dict_items.dictOf; refine wpAny_bind (wpAny_field v1 v3 (x:=.ref d) rfl (wpAny_pure (wpAny_bind ?_)))
 unfold Builtin.Dict_items.newIterator; refine wpAny_bind (wpAny_dictEntries g1 g3 (wpAny_bind (wpAny_dictEpoch g1 g3 ?_)))
 have own:Builtin.Dict_items.ownsTuple "dict_itemiterator" = true:=by decide
 simp only[own,if_true]; refine wpAny_newObj_type (wpAny_pure ⟨_,rfl, "dict_itemiterator",_,⟨_,Heap.get?_push_size _ rfl,rfl⟩,F.slot_dict_itemiterator_next.lookup,?_⟩) (by simp only[sizeOk,Builtin.Dict_items.ownedTupleFields,size_toArray,length_append,length_cons,List.length_nil,sizeLine_eq]; lia)
 simpa[rawInt,Builtin.Dict_items.ownedTupleFields] using q
theorem ul{Q:Option Value→Shared→Prop}{e:DictEntry}(ki:IsItemIter s.heap I d i es.size ep k0 v0)(x:DE s.heap d es ep)(hx:es[i]? = some e)
  (q:∀ h',IsItemIterOut h' I d (i+1) es.size ep e.key e.val s.heap.objs.size→h'.get? s.heap.objs.size=some { cls:=.type "tuple",data:=.seq #[e.key,e.val] }→h'.objs.size=s.heap.objs.size+1 →
   (∀ b o,b≠I→s.heap.get? b=some o→h'.get? b=some o)→Q (some (.ref s.heap.objs.size)) { s with heap:=h' }):wpAny (model prog w) A (pyNext (.ref I)) Q E s:=by
 obtain ⟨hp,g,dr,tk,os⟩:=s; obtain ⟨ob,g1,g2,g3⟩:=id x
 have ty:Shared.TypeIs ⟨hp,g,dr,tk,os⟩ (.ref I) "dict_itemiterator" := ⟨_,ki,rfl⟩
 unfold pyNext; refine wpAny_bind (wpAny_attempt (wpAny_callSpecial?_slot (name:=Str.ofString "__next__") ty F.slot_dict_itemiterator_next (wpAny_call_entry F.slot_dict_itemiterator_next ty F.entry_dict_itemiterator_next ?_ (F.args_dict_itemiterator_next_1 _))))
 refine wpAny_bind (wpAny_pure (wpAny_bind (wpAny_bind ?_)))
 first | refine wpAny_bind (wpAny_typeNameOfWhole_itemiter ty (wpAny_pure ?_)) | refine wpAny_bind (wpAny_typeNameOf_itemiter ty (wpAny_pure ?_))
 refine wpAny_bind (wpAny_fieldsOf ki rfl ?_); have own:Builtin.Dict_items.ownsTuple "dict_itemiterator" = true:=by decide
 simp only[own,if_true]; show wpAny _ _ (if (Value.ref d == Value.none)=true then _ else _) _ _ _
 rw[if_neg (fun z:(Value.ref d == Value.none)=true=>Bool.false_ne_true z)]; refine wpAny_bind (wpAny_pure (wpAny_bind (wpAny_dictEntries g1 g3 ?_)))
 rw[if_neg (by simp)]; refine wpAny_bind (wpAny_pure (wpAny_bind (wpAny_dictEpoch g1 g3 ?_)))
 rw[if_neg (by simp)]; refine wpAny_pure ?_
 obtain ⟨hlt,rfl⟩:=Array.getElem?_eq_some_iff.mp hx
 simp only[show ¬((i:Int)<0) from by lia,if_false,Int.toNat_natCast,Array.getElem?_eq_getElem hlt]; refine wpAny_bind ?_
 first | refine wpAny_bind (wpAny_typeNameOfWhole_itemiter ty (wpAny_pure ?_)) | refine wpAny_bind (wpAny_typeNameOf_itemiter ty (wpAny_pure ?_))
 refine wpAny_bind (wpAny_isOneOf_itemiter ty ?_); show wpAny _ _ (setField (.ref I) 3 (rawInt ((i:Int)+1)) >>= _) _ _ ⟨hp,g,dr,tk,os⟩
 refine wpAny_bind (wpAny_setField_rec ki (by simp) fun h1 e1 b1=>?_); replace b1:Heap.SameBut I hp h1:=b1
 replace e1:IsItemIter h1 I d (i+1) es.size ep k0 v0:=by
  have z:((i+1:Nat):Int)=(i:Int)+1:=by lia
  unfold IsItemIter; rw[z]; simpa[rawInt] using e1
 have ty1:Shared.TypeIs ⟨h1,g,dr,tk,os⟩ (.ref I) "dict_itemiterator" := ⟨_,e1,rfl⟩
 refine wpAny_bind (wpAny_holding (wpAny_bind (wpAny_isOneOf_itemiter ty1 (wpAny_bind (wpAny_isOneOf_itemiter ty1 ?_)))))
 show wpAny _ _ (Builtin.Dict_items.pairFromOwner (.ref I) 6 es[i].key es[i].val) _ _ ⟨h1,g,dr,tk,os⟩; unfold Builtin.Dict_items.pairFromOwner
 refine wpAny_bind (wpAny_newTuple ?_)
 have e2:IsItemIter (h1.push { cls:=.type "tuple",data:=.seq #[es[i].key,es[i].val] }) I d (i+1) es.size ep k0 v0:=Heap.get?_push_of_some _ e1
 generalize hh:h1.push { cls:=.type "tuple",data:=.seq #[es[i].key,es[i].val] }=h2 at e2
 have z1:h1.objs.size=hp.objs.size:=b1.1
 have lt:I<hp.objs.size:=Heap.lt_size ki
 have t2:h2.get? hp.objs.size=some { cls:=.type "tuple",data:=.seq #[es[i].key,es[i].val] }:=by rw[← hh,← z1]; exact Heap.get?_push_size _ rfl
 have z2:h2.objs.size=hp.objs.size+1:=by rw[← hh,Heap.size_push,z1]
 have k2:∀ b o,b≠I→hp.get? b=some o→h2.get? b=some o:=fun b o hb e=>by rw[← hh]; exact Heap.get?_push_of_some _ (b1.extBut b o hb e)
 show wpAny _ _ (Builtin.Dict_items.ownedTupleIsFree (.ref I) >>= _) _ _ ⟨h2,g,dr,tk,os⟩; rw[z1]
 clear hh e1 b1 ty1 z1 h1
 refine wpAny_bind ?_; unfold Builtin.Dict_items.ownedTupleIsFree
 refine wpAny_bind (wpAny_field e2 rfl (x:=.none) rfl (wpAny_pure ?_)); simp only[if_true]
 refine wpAny_bind (wpAny_field e2 rfl (x:=k0) rfl (wpAny_bind (wpAny_field e2 rfl (x:=v0) rfl ?_)))
 refine wpAny_bind (wpAny_setField_rec e2 (by simp) fun h3 e3 b3=>?_); replace b3:Heap.SameBut I h2 h3:=b3; replace e3:IsItemIter h3 I d (i+1) es.size ep es[i].key v0:=e3
 refine wpAny_bind (wpAny_setField_rec e3 (by simp) fun h4 e4 b4=>?_); replace b4:Heap.SameBut I h3 h4:=b4; replace e4:IsItemIter h4 I d (i+1) es.size ep es[i].key es[i].val:=e4
 refine wpAny_bind (wpAny_setField_rec e4 (by simp) fun h5 e5 b5=>?_); replace b5:Heap.SameBut I h4 h5:=b5; replace e5:IsItemIterOut h5 I d (i+1) es.size ep es[i].key es[i].val hp.objs.size:=e5
 refine wpAny_bind (wpAny_setField_rec e5 (by simp) fun h6 e6 b6=>?_); replace b6:Heap.SameBut I h5 h6:=b6; replace e6:IsItemIterOut h6 I d (i+1) es.size ep es[i].key es[i].val hp.objs.size:=e6
 have up:∀ b o,b≠I→h2.get? b=some o→h6.get? b=some o:=fun b o hb e=>b6.extBut b o hb (b5.extBut b o hb (b4.extBut b o hb (b3.extBut b o hb e)))
 refine wpAny_bind (wpAny_letGo (wpAny_pure (wpAny_pure ⟨_,rfl,wpAny_pure (q h6 e6 (up _ _ (Nat.ne_of_gt lt) t2) ?_ fun b o hb e=>up b o hb (k2 b o hb e))⟩)))
 show h6.objs.size=hp.objs.size+1; rw[b6.1,b5.1,b4.1,b3.1,z2]
theorem vk{Q:Option Value→Shared→Prop}(hh:A.handled=none)(ki:IsItemIter s.heap I d i es.size ep k0 v0)(x:DE s.heap d es ep)(hx:es.size≤i)
  (q:∀ h',Heap.ExtBut I s.heap h'→Q none { s with heap:=h' }):wpAny (model prog w) A (pyNext (.ref I)) Q E s:=by
 obtain ⟨ob,g1,g2,g3⟩:=id x
 have ty:s.TypeIs (.ref I) "dict_itemiterator" := ⟨_,ki,rfl⟩
 unfold pyNext; refine wpAny_bind (wpAny_attempt (wpAny_callSpecial?_slot (name:=Str.ofString "__next__") ty F.slot_dict_itemiterator_next (wpAny_call_entry F.slot_dict_itemiterator_next ty F.entry_dict_itemiterator_next ?_ (F.args_dict_itemiterator_next_1 _))))
 refine wpAny_bind (wpAny_pure (wpAny_bind (wpAny_bind ?_)))
 first | refine wpAny_bind (wpAny_typeNameOfWhole_itemiter ty (wpAny_pure ?_)) | refine wpAny_bind (wpAny_typeNameOf_itemiter ty (wpAny_pure ?_))
 refine wpAny_bind (wpAny_fieldsOf ki rfl ?_); have own:Builtin.Dict_items.ownsTuple "dict_itemiterator" = true:=by decide
 simp only[own,if_true]; show wpAny _ _ (if (Value.ref d == Value.none)=true then _ else _) _ _ _
 rw[if_neg (fun z:(Value.ref d == Value.none)=true=>Bool.false_ne_true z)]; refine wpAny_bind (wpAny_pure (wpAny_bind (wpAny_dictEntries g1 g3 ?_)))
 rw[if_neg (by simp)]; refine wpAny_bind (wpAny_pure (wpAny_bind (wpAny_dictEpoch g1 g3 ?_)))
 rw[if_neg (by simp)]; refine wpAny_pure ?_
 simp only[show ¬((i:Int)<0) from by lia,if_false,Int.toNat_natCast,Array.getElem?_eq_none hx]; refine wpAny_bind ?_
 first | refine wpAny_bind (wpAny_typeNameOfWhole_itemiter ty (wpAny_pure ?_)) | refine wpAny_bind (wpAny_typeNameOf_itemiter ty (wpAny_pure ?_))
 show wpAny _ _ (setField (.ref I) 2 .none >>= _) _ _ s; refine wpAny_bind (wpAny_setField ki rfl (by simp) ?_)
 show wpAny _ _ (newExc (.type "StopIteration") [] >>= _) _ _ _; refine wpAny_bind ?_
 simp only[newExc,newTuple]; refine wpAny_bind (wpAny_newObj_type ?_ (by size_fits))
 refine wpAny_bind (m:=firstArgMember _ _) (wpAny_of_eq (a:=Value.none) (by first | rfl | (simp only[firstArgMember]; rfl)) (wpAny_newObj_type ?_ (by size_fits)))
 simp only[raiseNew]; refine wpAny_bind (wpAny_handled ?_)
 rw[show A.in1.handled=none from hh]; refine wpAny_bind (wpAny_pure (wpAny_throw ?_))
 exact wpAny_bind (wpAny_isInstance (T := "StopIteration") (b:=true) ⟨_,Heap.get?_push_size _ rfl,rfl⟩ isSubtype_stop (wpAny_pure (q _ (((Heap.SameBut.update ..).extBut.push _).push _))))
end
theorem KT.at2{H:Hp}:∀{kvs:List (List Key×V)}{xs:List (List Key×Addr×Value)}{i:Nat}{kv:List Key×V},KT H kvs xs→kvs[i]? = some kv→∃ x,xs[i]? = some x∧H x.2.1=some (.tup (kv.1.map kV))∧RelV kv.2 x.2.2
 | _,_,0,_,.cons r _,h=>by cases h; exact ⟨_,rfl,r.2.1,r.2.2⟩
 | _,_,i+1,_,.cons _ t,h=>by obtain ⟨x,e,q⟩:=KT.at2 (i:=i) t h; exact ⟨x,e,q⟩
def oy:V→List V→Hp→VK→Prop:=fun x vs H Q=>∃(d:Addr) (kvs:List (List Key×V)),x=.ref d∧vs=[]∧Rd H d (.dT kvs)∧∀ v,H v=none→Q (.ref v) (upd H v (.ext (IV v d)))
section
variable {X:Cx}{o e:Expr}{es:List Expr}{to:TE}{t:TA}{apos cpos:Pos}
theorem pE:MtR X "dict.items" oy:=by
 intro pins s σ H x vs v us Q I rx rv h
 obtain ⟨d,kvs,rfl,rfl,e,q⟩:=h
 cases rx
 cases rv
 obtain ⟨z,y,xs,r,o,es,ep,h1,h2,h3,h4,h5⟩:=(show ObjOk X.prog X.w H s.heap d (.dT kvs) from e.ok I.hok)
 have x:DE s.heap d es ep:=⟨o,h1,h2,h3⟩
 refine call_meetsIn PySem.F.slot_dict_items x.ty PySem.F.entry_dict_items (PySem.F.args_dict_items_1 _) (sr y) ⟨x,?_⟩
 refine ⟨.ref s.heap.objs.size,_,I.laid (t':=s.toks) (a:=s.heap.objs.size) (o:=.ext (IV s.heap.objs.size d)) (fun b u e=>Heap.get?_push_of_some _ e) (Nat.le_refl _) ?_,rfl,q _ (I.hok.fresh (Nat.le_refl _))⟩
 have g:(s.heap.push { cls:=.type "dict_items",data:=.fields #[.ref d] }).get? s.heap.objs.size=some { cls:=.type "dict_items",data:=.fields #[.ref d] }:=Heap.get?_push_size _ rfl
 exact ⟨⟨_,g,rfl,rfl⟩,⟨_,g⟩,fun h1 h2 ⟨ob,e1,r⟩ k=>⟨ob,k ob e1,r⟩⟩
end
end L2
namespace L2
open PySem PySem.Spec PyProof.Rows
section
variable {prog:Program}{w:World}{KT:Type} [DecidableEq KT] {knd:HeapKind prog w KT}{A:Around}{E:Value→Shared→Prop}{s:Shared}{d a:Addr}{xs:List (KT×Addr×Value)}{k:KT}{dflt:Value}
theorem sdH{Q:Value→Shared→Prop}(hu:knd.room A)(hkey:knd.is s.heap k a)(hm:s.heap.DictOfH knd d xs)(hsz:xs.length≤sizeLine)
  (h1:∀ p,atKey xs k=some p→Q p.2 { s with toks:=s.toks+knd.draws k })
  (h2:atKey xs k=none→∀ h',h'.DictOfH knd d (storedH xs k a dflt)→Heap.SameBut d s.heap h'→Q dflt { s with heap:=h',toks:=s.toks+knd.draws k }):wpAny (model prog w) A (dictSetDefault d (.ref a) dflt) Q E s:=by
 obtain ⟨o,es,ep,ho,hc,hd,he,his,hn⟩:=hm
 unfold dictSetDefault
 refine wpAny_holding (wpAny_bind (knd.pyHash hu hkey (wpAny_bind (wpAny_dictFind_heap (s:={ s with toks:=s.toks+knd.draws k }) hu hkey ho hd he his hn ?_ ?_))))
 ·intro hno
  have hnot:k ∉ xs.map (·.1):=not_mem_keys_of_get hno
  have hk:=atKey_none_of_get hno
  refine wpAny_bind (wpAny_rule (wpAny_bind (wpAny_updateDictKeys (hz:=by have e:=size_of_entries he; lia) (s:={ s with toks:=s.toks+knd.draws k }) ho hd (wpAny_pure (h2 hk _ ⟨_,_,ep+1,Heap.get?_update_self _ ho (Obj.isFreed_of_dict (Obj.data_mapDictKeys hd _)),
   hc.mapDictKeys _,Obj.data_mapDictKeys hd _,?_,?_,?_⟩ (Heap.SameBut.update ..))))))
  ·rw[storedH_new hk]
   simp[he,entryOfKey]
  ·rw[storedH_new hk]
   intro x hx
   rcases mem_append.mp hx with hx | hx
   ·exact knd.keeps (his x hx) ho hd (Heap.SameBut.update ..)
   ·simp only[mem_singleton]at hx
    subst hx
    exact knd.keeps hkey ho hd (Heap.SameBut.update ..)
  ·rw[storedH_new hk]
   rw[map_append,nodup_append]
   refine ⟨hn,by simp,?_⟩
   intro x hx y hy
   simp only[map_cons,map_nil,mem_singleton]at hy
   subst hy
   exact fun e=>hnot (e ▸ hx)
 ·intro j p hj
  have hk:=atKey_of_get hn hj
  refine wpAny_bind (wpAny_dictEntries (s:={ s with toks:=s.toks+knd.draws k }) ho hd ?_)
  rw[entry_at he j,hj]
  exact wpAny_bind (wpAny_rule (wpAny_pure (h1 p hk)))
theorem pc(hd:(d == sysModules)=false)(dflt:Value):MeetsIn prog w (Builtin.«dict.setdefault» ⟨[.ref d,.ref a,dflt],[]⟩) (fun A R s=>knd.room A.in1∧∃ k xs,knd.is s.heap k a∧s.heap.DictOfH knd d xs∧xs.length≤sizeLine ∧
  (∀ p,atKey xs k=some p→R (.ok (.ret p.2)) { s with toks:=s.toks+knd.draws k })∧(atKey xs k=none→∀ h',h'.DictOfH knd d (storedH xs k a dflt)→Heap.SameBut d s.heap h'→R (.ok (.ret dflt)) { s with heap:=h',toks:=s.toks+knd.draws k })) :=
 .of_wp fun A R s ⟨hu,k,xs,hkey,hm,hz,h1,h2⟩=>by
  unfold Builtin.«dict.setdefault»
  refine wpAny_bind ?_
  unfold Builtin.Dict.keyAndDefault
  refine wpAny_bind (wpAny_notOrdered_dict hm.typeIs (show wpAny _ _ (pure (d,Value.ref a,some dflt)) _ _ s from wpAny_pure ?_))
  show wpAny _ _ (if (d == sysModules)=true then _ else (dictSetDefault d (.ref a) dflt >>= _)) _ _ s
  rw[if_neg (by rw[hd]; exact Bool.false_ne_true)]
  exact wpAny_bind (sdH hu hkey hm hz (fun p hp=>wpAny_pure ⟨_,rfl,h1 p hp⟩) fun hn h' m' s'=>wpAny_pure ⟨_,rfl,h2 hn h' m' s'⟩)
end
def xO(td ty tx:TE):TE:=fun σ H Q=>td σ H fun x H1=>∃ a,x=.ref a∧IsD H1 a∧ty σ H1 fun y H2=>tx σ H2 fun z H3=>∃ kvs k b,y=.ref b∧H3 b=some (.tup (k.map kV))∧H3 a=some (.dT kvs)∧kvs.length<sizeLine ∧
 (∀ v,cf kvs k=some v→Q v H3)∧(cf kvs k=none→Q z (upd H3 a (.dT (kvs++[(k,z)]))))
section
variable {X:Cx}{o e f:Expr}{apos cpos:Pos}{td ty tx:TE}
theorem v6(hu:X.A.units+1<cLine)(ho:PE X o td)(he:PE X e ty)(hf:PE X f tx)(m:M2 X o "setdefault" apos e f cpos):PE X (.Call (.Attribute o "setdefault" apos) [e,f] [] cpos) (xO td ty tx):=by
 intro pins s σ H Q I h
 refine wpAny_Call_method m.base m.few m.line PySem.F.plainAttrs_dict PySem.F.slot_dict_setdefault PySem.F.type_dict_setdefault (thn (ho pins s σ H _ I h) fun u s1 ⟨x,H1,I1,rx,a,ex,d,q1⟩=>?_)
 subst ex
 obtain rfl:u=Value.ref a:=rx
 obtain ⟨t1,t2,_⟩:=qd I1 d
 refine ⟨t1,t2,?_⟩
 rw[m.trees]
 refine Calls.callWith_builtin rfl (Calls.evalArgs_plain (Calls.spliced_cons (thn (he pins s1 σ H1 _ I1 q1) fun iv s2 ⟨y,H2,I2,ry,q2⟩ =>
  Calls.spliced_cons (thn (hf pins s2 σ H2 _ I2 q2) fun fv s3 ⟨z,H3,I3,rz,kvs,k,b,ey,eb,ed,l,q3,q4⟩=>Calls.spliced_nil ?_))))
 subst ey
 cases (show iv=Value.ref b from ry)
 obtain ⟨zz,hd,xs,rel,dd⟩:=rq I3.hok ed
 have hz:xs.length≤sizeLine:=by rw[← Paired.length rel]; exact zz
 refine call_meetsIn PySem.F.slot_dict_setdefault dd.typeIs PySem.F.entry_dict_setdefault (PySem.F.args_dict_setdefault_3 _ _ _) (pc (knd:=tupleKind (aZ X.prog X.w)) hd fv) ⟨tupleKind_room_in1 hu,k,xs,ij I3.hok eb,dd,hz,fun p hp=>?_,fun hn h' m' s'=>?_⟩
 ·have rv:=rel.val k
  rw[hp]at rv
  cases q:cf kvs k with
  | none=>rw[q]at rv; exact False.elim rv
  | some y'=>rw[q]at rv; exact ⟨y',H3,I3.tok _,rv,q3 y' q⟩
 ·have rv:=rel.val k
  rw[hn]at rv
  have q:cf kvs k=none:=by
   cases q:cf kvs k with
   | none=>rfl
   | some y'=>rw[q]at rv; exact False.elim rv
  have hl:(kvs++[(k,z)]).length≤sizeLine:=by rw[length_append]; exact l
  have rp:=rel.put k eb rz
  rw[rY z q]at rp
  obtain ⟨ob,es,ep,hq,h2,h3,h4,_,h5⟩:=m'
  refine ⟨z,_,jA (ob:=.dT (kvs++[(k,z)])) I3 (by rw[ed]; exact True.intro) s' ⟨ob,hq⟩ ⟨hl,hd,_,rp.keeps fun c ys ec=>?_,ob,es,ep,hq,h2,h3,h4,h5⟩,rz,q4 q⟩
  rw[ag (ce ec ed (fun z=>nomatch z))]
  exact ec
end
end L2
namespace TS
open PySem PySem.W PyProof.Rows WSrt
abbrev SM:=StateT SortSt Sem
def S(κ:SortKind)(it:Nat→Keyed)(p:Array Nat)(pd:Array (Nat×Nat×Nat))(g:Nat):SortSt:=SortSt.mk' κ (p.map it) pd g none
def eA(prog:Program)(w:World)(A:Around)(s:Shared)(κ:SortKind)(it:Nat→Keyed)(n:Nat):Prop :=
 ∀ i j,i<n→j<n→i≠j→∀ Q:Bool→Shared→Prop,Q (decide (i<j)) s→wpAny (model prog w) A (keyLt' κ (it i).1 (it j).1) Q (fun _ _=>False) s
def Up(p:Array Nat)(lo hi:Nat):Prop:=∀ i j,lo≤i→i<j→j<hi→e p i<e p j
section
variable {prog:Program}{w:World}{A:Around}{E:Value→Shared→Prop}{s:Shared}{κ:SortKind}{it:Nat→Keyed}{n:Nat}
theorem kY(hc:eA prog w A s κ it n){st:SortSt}{i j:Nat}{Q:Option Bool→SortSt→Prop}(hk:kindOf st=κ)(hi:i<n)(hj:j<n)(hne:i≠j)(h:Q (some (decide (i<j))) st):wpS (model prog w) A E s (lt' (it i) (it j)) Q st:=by
 rw[lt'_eq]
 refine wpS_bind (wpS_get ?_)
 rw[hk]
 refine wpS_bind (wpS_lift (wpAny_attempt (wpAny_mono (hc i j hi hj hne (fun b s'=>s'=s∧b=decide (i<j)) ⟨rfl,rfl⟩) (fun b s' hb=>?_) fun _ _ z=>z.elim)))
 obtain ⟨rfl,rfl⟩:=hb
 exact ⟨rfl,wpS_pure h⟩
theorem jJ{p:Array Nat}{i:Nat}(h:i<p.size):(p.map it)[i]? = some (it (e p i)):=by
 unfold e
 rw[Array.getElem?_map,getElem?_pos p i h]
 rfl
theorem aP{p:Array Nat}{i:Nat}{st:SortSt}{Q:Keyed→SortSt→Prop}(hi:i<p.size)(h:Q (it (e p i)) st):wpS (model prog w) A E s (elem' (p.map it) i) Q st:=by
 rw[elem'_eq,jJ hi]
 exact wpS_pure h
theorem fz(hc:eA prog w A s κ it n){p:Array Nat}{pd:Array (Nat×Nat×Nat)}{g i j:Nat}{Q:Option Bool→SortSt→Prop}(hp:PV n p)(hi:i<n)(hj:j<n)(hne:i≠j)(h:Q (some (decide (e p i<e p j))) (S κ it p pd g)) :
  wpS (model prog w) A E s (ltAt' i j) Q (S κ it p pd g):=by
 rw[ltAt'_eq]
 refine wpS_bind (wpS_get ?_)
 show wpS _ _ _ _ (do let x ← elem' (p.map it) i; let y ← elem' (p.map it) j; lt' x y) Q _
 refine wpS_bind (aP (by rw[hp.sz]; exact hi) (wpS_bind (aP (by rw[hp.sz]; exact hj) ?_)))
 exact kY hc rfl (hp.bd n hi) (hp.bd n hj) (hp.ne n hi hj hne) h
theorem ve{p:Array Nat}{pd:Array (Nat×Nat×Nat)}{g i j:Nat}{Q:Unit→SortSt→Prop}(h:Q () (S κ it (kas_rev p i j) pd g)):wpS (model prog w) A E s (reverseSlice' i j) Q (S κ it p pd g):=by
 rw[reverseSlice'_eq]
 refine wpS_modify ?_
 have e1:mirror (p.map it) i j ((j - i)/2)=(mirror p i j ((j - i)/2)).map it:=kas_swaps_map it (fun k=>i+k) (fun k=>j - 1 - k) _ p
 show Q () (SortSt.mk' κ (mirror (p.map it) i j ((j - i)/2)) pd g none)
 rw[e1]
 exact h
theorem tw{p:Array Nat}{pd:Array (Nat×Nat×Nat)}{g k l:Nat}{Q:Unit→SortSt→Prop}(h:Q () (S κ it (bubble p k (k - l)) pd g)):wpS (model prog w) A E s (moveDown' k l) Q (S κ it p pd g):=by
 rw[moveDown'_eq]
 refine wpS_modify ?_
 have e1:bubble (p.map it) k (k - l)=(bubble p k (k - l)).map it:=kas_swaps_map it (fun i=>k - i) (fun i=>k - i - 1) _ p
 show Q () (SortSt.mk' κ (bubble (p.map it) k (k - l)) pd g none)
 rw[e1]
 exact h
theorem tU{p:Array Nat}{lo m:Nat}(h:Up p lo m)(h1:lo+1≤m)(c:e p (m - 1)<e p m):Up p lo (m+1):=by
 intro i j hi hij hj
 by_cases c1:j<m
 ·exact h i j hi hij c1
 ·have:j=m:=by lia
  subst this
  by_cases c2:i=j - 1
  ·rw[c2]; exact c
  ·exact Nat.lt_trans (h i (j - 1) hi (by lia) (by lia)) c
theorem vx{p:Array Nat}{lo:Nat}:Up p lo (lo+1):=fun i j hi hij hj=>by lia
theorem rM(hc:eA prog w A s κ it n){p:Array Nat}{pd:Array (Nat×Nat×Nat)}{g lo a nrem:Nat}{Q:Option (Option Nat)×Nat→SortSt→Prop}(hp:PV n p)(hn:lo+nrem≤n)(h1:1≤a)(ha:a≤nrem)(hu:Up p lo (lo+a))
  (h:∀ m,a≤m→m≤nrem→Up p lo (lo+m)→(m<nrem→e p (lo+m)<e p (lo+m - 1))→Q (none,m) (S κ it p pd g)) :
  wpS (model prog w) A E s (forIn [a:nrem] ((none,a):Option (Option Nat)×Nat) fun _ __s=>do
   let __x ← ltAt' (lo+__s.snd) (lo+__s.snd - 1)
   match __x with
   | some smaller=>if smaller=true then pure (ForInStep.done (none,__s.snd)) else pure (ForInStep.yield (none,__s.snd+1))
   | _=>pure (ForInStep.done (some none,__s.snd))) Q (S κ it p pd g):=by
 refine wpS_forRange (I:=fun x c st'=>st'=S κ it p pd g∧c=(none,x)∧Up p lo (lo+x)) ?step ?fin ⟨rfl,rfl,hu⟩
 case fin =>
  rintro c st' ⟨rfl,rfl,hu'⟩
  rw[show max a nrem=nrem by lia]at hu' ⊢
  exact h nrem ha (Nat.le_refl _) hu' (fun z=>absurd z (Nat.lt_irrefl _))
 case step =>
  rintro x c st' hax hxn ⟨rfl,rfl,hu'⟩
  dsimp only
  refine wpS_bind (fz hc hp (by lia) (by lia) (by lia) ?_)
  by_cases c:e p (lo+x)<e p (lo+x - 1)
  ·rw[decide_eq_true c]
   exact wpS_pure (h x hax (by lia) hu' (fun _=>c))
  ·rw[decide_eq_false c]
   have ne:=hp.ne n (i:=lo+x) (j:=lo+x - 1) (by lia) (by lia) (by lia)
   exact wpS_pure ⟨rfl,rfl,tU (m:=lo+x) hu' (by lia) (by lia)⟩
def Dn(p:Array Nat)(lo hi:Nat):Prop:=∀ i j,lo≤i→i<j→j<hi→e p j<e p i
theorem oh{p:Array Nat}{lo m:Nat}(h:Dn p lo m)(h1:lo+1≤m)(c:e p m<e p (m - 1)):Dn p lo (m+1):=by
 intro i j hi hij hj
 by_cases c1:j<m
 ·exact h i j hi hij c1
 ·have:j=m:=by lia
  subst this
  by_cases c2:i=j - 1
  ·rw[c2]; exact c
  ·exact Nat.lt_trans c (h i (j - 1) hi (by lia) (by lia))
theorem vX{p:Array Nat}{lo m:Nat}(hm:m≤p.size)(h:Dn p lo m):Up (kas_rev p lo m) lo m:=by
 intro i j hi hij hj
 rw[d7 hm,d7 hm,if_pos (by lia),if_pos (by lia)]
 exact h _ _ (by lia) (by lia) (by lia)
theorem se(hc:eA prog w A s κ it n){p:Array Nat}{pd:Array (Nat×Nat×Nat)}{g lo nrem:Nat}{Q:Option Nat→SortSt→Prop}(hp:PV n p)(hn:lo+nrem≤n)(h1:1≤nrem)
  (h:∀ m p',PV n p'→1≤m→m≤nrem→Up p' lo (lo+m)→(∀ k,k<lo→e p' k=e p k)→Q (some m) (S κ it p' pd g)) :
  wpS (model prog w) A E s (countRun' lo nrem) Q (S κ it p pd g):=by
 rw[countRun'_eq]
 refine wpS_bind (rM hc hp hn (Nat.le_refl 1) h1 vx fun m m1 m2 hu hs=>?_)
 dsimp only
 by_cases c0:m=nrem
 ·rw[if_pos (by simpa using c0)]
  exact wpS_pure (h m p hp m1 m2 hu fun _ _=>rfl)
 rw[if_neg (by simpa using c0)]
 by_cases c1:m > 1
 ·rw[if_pos c1]
  refine wpS_bind (fz hc hp (by lia) (by lia) (by lia) ?_)
  rw[decide_eq_true (hu lo (lo+m - 1) (by lia) (by lia) (by lia))]
  exact wpS_pure (h m p hp m1 m2 hu fun _ _=>rfl)
 rw[if_neg c1]
 obtain rfl:m=1:=by lia
 have hs:=hs (by lia)
 refine wpS_bind (wpS_lift (wpAny_rule ⟨rfl,?_⟩))
 refine wpS_bind (wpS_mono (wpS_forRange (I:=fun x c st'=>st'=S κ it p pd g∧c=(none,x,0)∧Dn p lo (lo+x)) (Q:=fun c st'=>st'=S κ it p pd g∧∃ x,c=(none,x,0)∧1≤x∧x≤nrem∧Dn p lo (lo+x)) ?step ?fin ⟨rfl,rfl,?ini⟩) ?post)
 case ini=>exact oh (m:=lo+1) (fun i j hi hij hj=>by lia) (by lia) hs
 case fin =>
  rintro c st' ⟨rfl,rfl,hd⟩
  rw[show max (1+1) nrem=nrem by lia]at hd ⊢
  exact ⟨rfl,nrem,rfl,by lia,Nat.le_refl _,hd⟩
 case step =>
  rintro x c st' hax hxn ⟨rfl,rfl,hd⟩
  dsimp only
  refine wpS_bind (fz hc hp (by lia) (by lia) (by lia) ?_)
  by_cases c:e p (lo+x)<e p (lo+x - 1)
  ·rw[decide_eq_true c]
   exact wpS_pure ⟨rfl,rfl,oh (m:=lo+x) hd (by lia) c⟩
  ·rw[decide_eq_false c]
   have ne:=hp.ne n (i:=lo+x) (j:=lo+x - 1) (by lia) (by lia) (by lia)
   refine wpS_bind (fz hc hp (by lia) (by lia) (by lia) ?_)
   rw[decide_eq_true (show e p (lo+x - 1)<e p (lo+x) by lia)]
   exact wpS_pure ⟨rfl,x,rfl,by lia,by lia,hd⟩
 case post =>
  rintro c st' ⟨rfl,x,rfl,x1,x2,hd⟩
  dsimp only
  rw[if_neg (by lia)]
  have hz:lo+x≤p.size:=by rw[hp.sz]; lia
  refine wpS_bind (ve ?_)
  refine wpS_bind (rM hc (hp.rev n _ _) hn x1 x2 (vX hz hd) fun m2 a1 a2 hu2 _=>?_)
  refine wpS_pure (h m2 _ (hp.rev n _ _) (by lia) a2 hu2 fun k hk=>?_)
  rw[d7 hz,if_neg (by lia)]
theorem PV.bub{p:Array Nat}(h:PV n p)(k d:Nat):PV n (bubble p k d):=⟨by rw[bubble_size]; exact h.sz,(Array.perm_iff_toList_perm.mp (bubble_perm p k d)).trans h.pm⟩
theorem pA(hc:eA prog w A s κ it n){p:Array Nat}{pd:Array (Nat×Nat×Nat)}{g lo m ok:Nat}{Q:Bool→SortSt→Prop}(hp:PV n p)(hn:lo+m≤n)(hok:ok≤m)(h1:1≤ok)(hu:Up p lo (lo+ok))
  (h:∀ p',PV n p'→Up p' lo (lo+m)→(∀ k,k<lo→e p' k=e p k)→Q true (S κ it p' pd g)):wpS (model prog w) A E s (binarySort' lo m ok) Q (S κ it p pd g):=by
 rw[binarySort'_eq]
 refine wpS_bind (wpS_mono (wpS_forRange (I:=fun k c st'=>c=(none,())∧∃ p',st'=S κ it p' pd g∧PV n p'∧Up p' lo (lo+min k m)∧∀ k,k<lo→e p' k=e p k)
  (Q:=fun c st'=>c=(none,())∧∃ p',st'=S κ it p' pd g∧PV n p'∧Up p' lo (lo+m)∧∀ k,k<lo→e p' k=e p k) ?step ?fin ?init) ?post)
 case post =>
  rintro c st' ⟨rfl,p',rfl,hp',hu',hs'⟩
  exact wpS_pure (h p' hp' hu' hs')
 case init=>exact ⟨rfl,p,rfl,hp,by rw[show min (max ok 1) m=ok by lia]; exact hu,fun _ _=>rfl⟩
 case fin =>
  rintro c st' ⟨hc',p',e1,hp',hu',hs'⟩
  rw[show min (max (max ok 1) m) m=m by lia]at hu'
  exact ⟨hc',p',e1,hp',hu',hs'⟩
 case step =>
  rintro k c st' hak hkm ⟨rfl,p',rfl,hp',hu',hs'⟩
  rw[show min k m=k by lia]at hu'
  refine wpS_bind (wpS_mono (wpS_forRange (I:=fun x c st''=>st''=S κ it p' pd g∧∃ l r,c=(none,l,r)∧l≤r∧r≤k∧r - l≤k - x∧(∀ i,i<l→e p' (lo+i)<e p' (lo+k))∧(∀ i,r≤i→i<k→e p' (lo+k)<e p' (lo+i)))
   (Q:=fun c st''=>st''=S κ it p' pd g∧∃ l r,c=(none,l,r)∧l≤k∧(∀ i,i<l→e p' (lo+i)<e p' (lo+k))∧(∀ i,l≤i→i<k→e p' (lo+k)<e p' (lo+i))) ?istep ?ifin ?iinit) ?ipost)
  case iinit=>exact ⟨rfl,0,k,rfl,by lia,by lia,by lia,fun i hi=>by lia,fun i h1 h2=>by lia⟩
  case ifin =>
   rintro c st'' ⟨rfl,l,r,rfl,hlr,hrk,hm,hlo,hhi⟩
   obtain rfl:l=r:=by lia
   exact ⟨rfl,l,l,rfl,hrk,hlo,hhi⟩
  case istep =>
   rintro x c st'' _ hxk ⟨rfl,l,r,rfl,hlr,hrk,hm,hlo,hhi⟩
   dsimp only
   by_cases hge:l ≥ r
   ·rw[if_pos hge]
    obtain rfl:l=r:=by lia
    exact wpS_pure ⟨rfl,l,l,rfl,hrk,hlo,hhi⟩
   ·rw[if_neg hge]
    refine wpS_bind (fz hc hp' (by lia) (by lia) (by lia) ?_)
    by_cases c:e p' (lo+k)<e p' (lo+(l+r)/2)
    ·rw[decide_eq_true c]
     refine wpS_pure ⟨rfl,l,(l+r)/2,rfl,by lia,by lia,by lia,hlo,fun i h1 h2=>?_⟩
     by_cases ci:i=(l+r)/2
     ·rw[ci]; exact c
     ·exact Nat.lt_trans c (hu' _ _ (by lia) (by lia) (by lia))
    ·rw[decide_eq_false c]
     have ne:=hp'.ne n (i:=lo+k) (j:=lo+(l+r)/2) (by lia) (by lia) (by lia)
     refine wpS_pure ⟨rfl,(l+r)/2+1,r,rfl,by lia,by lia,by lia,fun i h1=>?_,hhi⟩
     by_cases ci:i=(l+r)/2
     ·rw[ci]; lia
     ·have:=hu' (lo+i) (lo+(l+r)/2) (by lia) (by lia) (by lia)
      lia
  case ipost =>
   rintro c st'' ⟨rfl,l,r,rfl,hlk,hlo,hhi⟩
   dsimp only
   have hks:lo+k<p'.size:=by rw[hp'.sz]; lia
   refine wpS_bind (tw (wpS_pure ⟨rfl,_,rfl,PV.bub hp' _ _,?_,fun i hi=>?_⟩))
   ·rw[show min (k+1) m=k+1 by lia]
    intro i j hi hij hj
    rw[fE hks (by lia),fE hks (by lia)]
    repeat' split
    all_goals first
     | (exfalso; lia)
     | (have:=hlo (i - lo) (by lia); rw[show lo+(i - lo)=i by lia]at this; exact this)
     | (have:=hhi (j - 1 - lo) (by lia) (by lia); rw[show lo+(j - 1 - lo)=j - 1 by lia]at this; exact this)
     | exact hu' _ _ (by lia) (by lia) (by lia)
   ·rw[fE hks (by lia),if_neg (by lia),if_neg (by lia)]
    exact hs' i hi
end
def cG:Bool→Keyed→Array Keyed→Nat→Nat→Nat→SM (Option Nat):=sortPriv% PySem.Builtin.gallop
def dB(left:Bool)(key:Keyed)(arr:Array Keyed)(base:Nat)(i:Nat):SM (Option Bool):=do
 let x ← elem' arr (base+i)
 if left then lt' x key else return (← lt' key x).map (!·)
theorem mq(left:Bool)(key:Keyed)(arr:Array Keyed)(base n hint:Nat):cG left key arr base n hint=(do
 let mut lastofs:=0
 let mut ofs:=1
 let mut lo:=0
 let mut hi:=0
 let some right ← dB left key arr base hint | return none
 if right then
  let maxofs:=n - hint
  for _ in [0:n] do
   if ofs ≥ maxofs then break
   let some more ← dB left key arr base (hint+ofs) | return none
   if !more then break
   lastofs:=ofs
   ofs:=2*ofs+1
  lo:=hint+lastofs+1
  hi:=hint+min ofs maxofs
 else
  let maxofs:=hint+1
  for _ in [0:n] do
   if ofs ≥ maxofs then break
   let some found ← dB left key arr base (hint - ofs) | return none
   if found then break
   lastofs:=ofs
   ofs:=2*ofs+1
  lo:=hint+1 - min ofs maxofs
  hi:=hint - lastofs
 for _ in [0:n] do
  if lo ≥ hi then break
  let m:=lo+(hi - lo)/2
  let some more ← dB left key arr base m | return none
  if more then lo:=m+1 else hi:=m
 return some hi):=rfl
section
variable {prog:Program}{w:World}{A:Around}{E:Value→Shared→Prop}{s:Shared}{κ:SortKind}{it:Nat→Keyed}{n:Nat}
theorem pj(hc:eA prog w A s κ it n){left:Bool}{k:Nat}{p:Array Nat}{base i:Nat}{st:SortSt}{Q:Option Bool→SortSt→Prop}(hst:kindOf st=κ)(hk:k<n)(hi:base+i<p.size)(hb:e p (base+i)<n)(hne:e p (base+i)≠k)
  (h:Q (some (decide (e p (base+i)<k))) st):wpS (model prog w) A E s (dB left (it k) (p.map it) base i) Q st:=by
 unfold dB
 refine wpS_bind (aP hi ?_)
 cases left with
 | true=>exact kY hc hst hb hk hne h
 | false =>
  refine wpS_bind (kY hc hst hk hb hne.symm (wpS_pure ?_))
  have:(!decide (k<e p (base+i)))=decide (e p (base+i)<k):=by
   by_cases c:k<e p (base+i)
   ·rw[decide_eq_true c,decide_eq_false (by lia)]; rfl
   ·rw[decide_eq_false c,decide_eq_true (by lia)]; rfl
  show Q (some (!decide (k<e p (base+i)))) st
  rw[this]
  exact h
theorem dk(hc:eA prog w A s κ it n){left:Bool}{k:Nat}{p:Array Nat}{base m hint:Nat}{st:SortSt}{Q:Option Nat→SortSt→Prop}(hst:kindOf st=κ)(hk:k<n)(hsz:base+m≤p.size)(hb:∀ i,i<m→e p (base+i)<n∧e p (base+i)≠k)(hu:Up p base (base+m))(hh:hint<m)
  (h:∀ r,r≤m→(∀ i,i<r→e p (base+i)<k)→(∀ i,r≤i→i<m→k<e p (base+i))→Q (some r) st):wpS (model prog w) A E s (cG left (it k) (p.map it) base m hint) Q st:=by
 have bey:∀{i:Nat}{Q:Option Bool→SortSt→Prop},i<m→Q (some (decide (e p (base+i)<k))) st→wpS (model prog w) A E s (dB left (it k) (p.map it) base i) Q st:=fun hi hq=>pj hc hst hk (by lia) (hb _ hi).1 (hb _ hi).2 hq
 have low:∀ i j,i≤j→j<m→e p (base+j)<k→e p (base+i)<k:=fun i j hij hj c=>by
  by_cases z:i=j
  ·rw[z]; exact c
  ·exact Nat.lt_trans (hu _ _ (by lia) (by lia) (by lia)) c
 have high:∀ i j,i≤j→j<m→¬e p (base+i)<k→k<e p (base+j):=fun i j hij hj c=>by
  by_cases z:e p (base+j)<k
  ·exact absurd (low i j hij hj z) c
  ·have:=(hb j hj).2; lia
 -- the last loop
 have last:∀ lo hi,lo≤hi→hi≤m→(∀ i,i<lo→e p (base+i)<k)→(∀ i,hi≤i→i<m→k<e p (base+i)) →
   wpS (model prog w) A E s (forIn [0:m] ((none,lo,hi):Option (Option Nat)×Nat×Nat) fun _ __s=>if __s.snd.fst ≥ __s.snd.snd then pure (ForInStep.done (none,__s.snd.fst,__s.snd.snd)) else do
    let __x ← dB left (it k) (p.map it) base (__s.snd.fst+(__s.snd.snd - __s.snd.fst)/2)
    match __x with
    | some more=>if more=true then pure (ForInStep.yield (none,__s.snd.fst+(__s.snd.snd - __s.snd.fst)/2+1,__s.snd.snd)) else pure (ForInStep.yield (none,__s.snd.fst,__s.snd.fst+(__s.snd.snd - __s.snd.fst)/2))
    | _=>pure (ForInStep.done (some none,__s.snd.fst,__s.snd.snd))) (fun c st'=>st'=st∧∃ l r,c=(none,l,r)∧r≤m∧(∀ i,i<r→e p (base+i)<k)∧(∀ i,r≤i→i<m→k<e p (base+i))) st:=by
  intro lo hi h1 h2 h3 h4
  refine wpS_forRange (I:=fun x c st'=>st'=st∧∃ l r,c=(none,l,r)∧l≤r∧r≤m∧r - l≤m - x∧(∀ i,i<l→e p (base+i)<k)∧(∀ i,r≤i→i<m→k<e p (base+i))) ?_ ?_ ⟨rfl,lo,hi,rfl,h1,h2,by lia,h3,h4⟩
  ·rintro x c st' _ hx ⟨rfl,l,r,rfl,a1,a2,a3,a4,a5⟩
   dsimp only
   by_cases c:l ≥ r
   ·rw[if_pos c]
    obtain rfl:l=r:=by lia
    exact wpS_pure ⟨rfl,l,l,rfl,a2,a4,a5⟩
   rw[if_neg c]
   refine wpS_bind (bey (by lia) ?_)
   by_cases c:e p (base+(l+(r - l)/2))<k
   ·rw[decide_eq_true c]
    exact wpS_pure ⟨rfl,_,_,rfl,by lia,by lia,by lia,fun i hi=>low i _ (by lia) (by lia) c,a5⟩
   ·rw[decide_eq_false c]
    exact wpS_pure ⟨rfl,_,_,rfl,by lia,by lia,by lia,a4,fun i hi hm=>high _ i hi hm c⟩
  ·rintro c st' ⟨rfl,l,r,rfl,a1,a2,a3,a4,a5⟩
   rw[show max 0 m=m by lia]at a3
   obtain rfl:l=r:=by lia
   exact ⟨rfl,l,l,rfl,a2,a4,a5⟩
 rw[mq]
 refine wpS_bind (bey hh ?_)
 by_cases c0:e p (base+hint)<k
 ·rw[decide_eq_true c0]
  dsimp only
  rw[if_pos rfl]
  refine wpS_bind (wpS_mono (wpS_forRange (I:=fun x c st'=>st'=st∧∃ lo ofs,c=(none,lo,ofs)∧lo<ofs∧x<ofs∧hint+lo<m∧e p (base+(hint+lo))<k)
   (Q:=fun c st'=>st'=st∧∃ lo ofs,c=(none,lo,ofs)∧lo<ofs∧hint+lo<m∧e p (base+(hint+lo))<k∧(m - hint≤ofs∨(hint+ofs<m∧¬e p (base+(hint+ofs))<k))) ?step ?fin ⟨rfl,0,1,rfl,by lia,by lia,by lia,c0⟩) ?post)
  case fin =>
   rintro c st' ⟨rfl,lo,ofs,rfl,a1,a2,a3,a4⟩
   exact ⟨rfl,lo,ofs,rfl,a1,a3,a4,.inl (by lia)⟩
  case step =>
   rintro x c st' _ hx ⟨rfl,lo,ofs,rfl,a1,a2,a3,a4⟩
   dsimp only
   by_cases c:ofs ≥ m - hint
   ·rw[if_pos c]
    exact wpS_pure ⟨rfl,lo,ofs,rfl,a1,a3,a4,.inl c⟩
   rw[if_neg c]
   refine wpS_bind (bey (by lia) ?_)
   by_cases c2:e p (base+(hint+ofs))<k
   ·rw[decide_eq_true c2]
    exact wpS_pure ⟨rfl,ofs,2*ofs+1,rfl,by lia,by lia,by lia,c2⟩
   ·rw[decide_eq_false c2]
    exact wpS_pure ⟨rfl,lo,ofs,rfl,a1,a3,a4,.inr ⟨by lia,c2⟩⟩
  case post =>
   rintro c st' ⟨rfl,lo,ofs,rfl,a1,a3,a4,a5⟩
   dsimp only
   refine wpS_bind (wpS_mono (last (hint+lo+1) (hint+min ofs (m - hint)) (by lia) (by lia) (fun i hi=>low i _ (by lia) a3 a4) (fun i hi hm=>?_)) ?_)
   ·rcases a5 with z | ⟨z1,z2⟩
    ·lia
    ·exact high _ i (by lia) hm z2
   ·rintro c st' ⟨rfl,l,r,rfl,b1,b2,b3⟩
    exact wpS_pure (h r b1 b2 b3)
 ·rw[decide_eq_false c0]
  dsimp only
  rw[if_neg (by simp)]
  refine wpS_bind (wpS_mono (wpS_forRange (I:=fun x c st'=>st'=st∧∃ lo ofs,c=(none,lo,ofs)∧lo<ofs∧x<ofs∧lo≤hint∧¬e p (base+(hint - lo))<k)
   (Q:=fun c st'=>st'=st∧∃ lo ofs,c=(none,lo,ofs)∧lo<ofs∧lo≤hint∧¬e p (base+(hint - lo))<k∧(hint+1≤ofs∨(ofs≤hint∧e p (base+(hint - ofs))<k))) ?step ?fin ⟨rfl,0,1,rfl,by lia,by lia,by lia,c0⟩) ?post)
  case fin =>
   rintro c st' ⟨rfl,lo,ofs,rfl,a1,a2,a3,a4⟩
   exact ⟨rfl,lo,ofs,rfl,a1,a3,a4,.inl (by lia)⟩
  case step =>
   rintro x c st' _ hx ⟨rfl,lo,ofs,rfl,a1,a2,a3,a4⟩
   dsimp only
   by_cases c:ofs ≥ hint+1
   ·rw[if_pos c]
    exact wpS_pure ⟨rfl,lo,ofs,rfl,a1,a3,a4,.inl c⟩
   rw[if_neg c]
   refine wpS_bind (bey (by lia) ?_)
   by_cases c2:e p (base+(hint - ofs))<k
   ·rw[decide_eq_true c2]
    exact wpS_pure ⟨rfl,lo,ofs,rfl,a1,a3,a4,.inr ⟨by lia,c2⟩⟩
   ·rw[decide_eq_false c2]
    exact wpS_pure ⟨rfl,ofs,2*ofs+1,rfl,by lia,by lia,by lia,c2⟩
  case post =>
   rintro c st' ⟨rfl,lo,ofs,rfl,a1,a3,a4,a5⟩
   dsimp only
   refine wpS_bind (wpS_mono (last (hint+1 - min ofs (hint+1)) (hint - lo) (by lia) (by lia) (fun i hi=>?_) (fun i hi hm=>high _ i (by lia) hm a4)) ?_)
   ·rcases a5 with z | ⟨z1,z2⟩
    ·lia
    ·exact low i _ (by lia) (by lia) z2
   ·rintro c st' ⟨rfl,l,r,rfl,b1,b2,b3⟩
    exact wpS_pure (h r b1 b2 b3)
end
structure MI(la lb q:List Nat)(ia ib:Nat):Prop where
 perm:q.Perm (la.take ia++lb.take ib)
 srt:q.Pairwise (· < ·)
 ba:∀ x∈q,∀ y∈la.drop ia,x<y
 bb:∀ x∈q,∀ y∈lb.drop ib,x<y
def Fine(la lb q:List Nat):Prop:=q.Perm (la++lb)∧q.Pairwise (· < ·)
section
variable {la lb q:List Nat}{ia ib:Nat}
theorem oE(l:List Nat)(i k:Nat):l.take (i+k)=l.take i++(l.drop i).take k:=take_add
theorem MI.swap(m:MI la lb q ia ib):MI lb la q ib ia:=⟨m.perm.trans perm_append_comm,m.srt,m.bb,m.ba⟩
theorem MI.addB(m:MI la lb q ia ib)(hs:lb.Pairwise (· < ·))(k:Nat)(h:∀ x∈(lb.drop ib).take k,∀ y∈la.drop ia,x<y):MI la lb (q++(lb.drop ib).take k) ia (ib+k):=by
 refine ⟨?_,?_,?_,?_⟩
 ·rw[oE,← append_assoc]
  exact m.perm.append_right _
 ·rw[pairwise_append]
  exact ⟨m.srt,(hs.sublist ((take_sublist _ _).trans (drop_sublist _ _))),fun x hx y hy=>m.bb x hx y (mem_of_mem_take hy)⟩
 ·intro x hx y hy
  rcases mem_append.mp hx with z | z
  ·exact m.ba x z y hy
  ·exact h x z y hy
 ·intro x hx y hy
  have hy':y∈(lb.drop ib).drop k:=by rw[drop_drop]; exact hy
  rcases mem_append.mp hx with z | z
  ·exact m.bb x z y (List.mem_of_mem_drop hy')
  ·have hp:(lb.drop ib).Pairwise (· < ·):=hs.sublist (drop_sublist _ _)
   rw[← take_append_drop k (lb.drop ib),pairwise_append]at hp
   exact hp.2.2 x z y hy'
theorem MI.addA(m:MI la lb q ia ib)(hs:la.Pairwise (· < ·))(k:Nat)(h:∀ x∈(la.drop ia).take k,∀ y∈lb.drop ib,x<y):MI la lb (q++(la.drop ia).take k) (ia+k) ib:=(m.swap.addB hs k h).swap
theorem MI.endB(m:MI la lb q ia ib)(ha:la.Pairwise (· < ·))(hb:lb.Pairwise (· < ·))(h:∀ x∈lb.drop ib,∀ y∈la.drop ia,x<y):Fine la lb (q++lb.drop ib++la.drop ia):=by
 refine ⟨?_,?_⟩
 ·have h1:(la.take ia++lb.take ib++lb.drop ib++la.drop ia).Perm (la++lb):=by
   rw[append_assoc (la.take ia),take_append_drop]
   refine (perm_append_comm (l₁:=la.take ia++lb) (l₂:=la.drop ia)).trans ?_
   rw[← append_assoc]
   refine List.Perm.append_right _ (perm_append_comm.trans ?_)
   rw[take_append_drop]
  exact ((m.perm.append_right _).append_right _).trans h1
 ·rw[pairwise_append,pairwise_append]
  refine ⟨⟨m.srt,hb.sublist (drop_sublist _ _),m.bb⟩,ha.sublist (drop_sublist _ _),fun x hx y hy=>?_⟩
  rcases mem_append.mp hx with z | z
  ·exact m.ba x z y hy
  ·exact h x z y hy
theorem Fine.swap(h:Fine lb la q):Fine la lb q:=⟨h.1.trans perm_append_comm,h.2⟩
theorem MI.endA(m:MI la lb q ia ib)(ha:la.Pairwise (· < ·))(hb:lb.Pairwise (· < ·))(h:∀ x∈la.drop ia,∀ y∈lb.drop ib,x<y):Fine la lb (q++la.drop ia++lb.drop ib):=(m.swap.endB hb ha h).swap
theorem gy{l:List Nat}{i y:Nat}(h:y∈l.drop i):∃ j,i≤j∧j<l.length∧y=e l.toArray j:=by
 obtain ⟨j,hj,rfl⟩:=List.mem_iff_getElem.mp h
 rw[length_drop]at hj
 refine ⟨i+j,by lia,by lia,?_⟩
 unfold e
 simp[show i+j<l.length by lia]
theorem dC{l:List Nat}{i k y:Nat}(h:y∈(l.drop i).take k):∃ j,i≤j∧j<i+k∧j<l.length∧y=e l.toArray j:=by
 obtain ⟨j,hj,rfl⟩:=List.mem_iff_getElem.mp h
 rw[length_take,length_drop]at hj
 refine ⟨i+j,by lia,by lia,by lia,?_⟩
 unfold e
 simp[show i+j<l.length by lia]
theorem mL{l:List Nat}(h:l.Pairwise (· < ·)):Up l.toArray 0 l.length:=by
 intro i j _ hij hj
 have:=pairwise_iff_getElem.mp h i j (by lia) hj hij
 unfold e
 simpa[show i<l.length by lia,hj] using this
theorem eJ{l:List Nat}{i:Nat}(h:i<l.length):e l.toArray i∈l:=by
 unfold e
 simp[h]
theorem bZ{l:List Nat}{i:Nat}(h:i<l.length):(l.drop i).take 1=[e l.toArray i]:=by
 rw[List.drop_eq_getElem_cons h]
 unfold e
 simp only[List.getElem?_toArray,List.getElem?_eq_getElem h,Option.getD_some,List.take_succ_cons,take_zero]
end
def gQ:Array Keyed→Array Keyed→SM (Array Keyed):=sortPriv% PySem.Builtin.mergeLo
def iw:Array Keyed→Array Keyed→SM (Array Keyed):=sortPriv% PySem.Builtin.mergeHi
def lC(g:Nat):SM Unit:=modify fun st=>SortSt.mk' (kindOf st) (arrOf st) (pendingOf st) g (failedOf st)
theorem kh(a b:Array Keyed):gQ a b=(do
 rule "list.sort.merge-lo"
 let total:=a.size+b.size
 let done (out:Array Keyed) (ia ib:Nat):=out++a.extract ia a.size++b.extract ib b.size
 let lastOfA (out:Array Keyed) (ia ib:Nat):=out++b.extract ib b.size++a.extract ia a.size
 let mut out:Array Keyed:=#[← elem' b 0]
 let mut ia:=0
 let mut ib:=1
 if ib == b.size then return done out ia ib
 if ia+1 == a.size then return lastOfA out ia ib
 let mut minGallop:=gallopOf (← get)
 for _ in [0:total] do
  let mut acount:=0
  let mut bcount:=0
  for _ in [0:total] do
   let some bWins ← lt' (← elem' b ib) (← elem' a ia) | return done out ia ib
   if bWins then
    out:=out.push (← elem' b ib); ib:=ib+1; bcount:=bcount+1; acount:=0
    if ib == b.size then return done out ia ib
    if bcount ≥ minGallop then break
   else
    out:=out.push (← elem' a ia); ia:=ia+1; acount:=acount+1; bcount:=0
    if ia+1 == a.size then return lastOfA out ia ib
    if acount ≥ minGallop then break
  rule "list.sort.gallop"
  minGallop:=minGallop+1
  for _ in [0:total] do
   if minGallop > 1 then minGallop:=minGallop - 1
   lC minGallop
   let some k ← cG false (← elem' b ib) a ia (a.size - ia) 0 | return done out ia ib
   acount:=k
   if k > 0 then
    out:=out++a.extract ia (ia+k); ia:=ia+k
    if ia+1 == a.size then return lastOfA out ia ib
    if ia == a.size then return done out ia ib
   out:=out.push (← elem' b ib); ib:=ib+1
   if ib == b.size then return done out ia ib
   let some k ← cG true (← elem' a ia) b ib (b.size - ib) 0 | return done out ia ib
   bcount:=k
   if k > 0 then
    out:=out++b.extract ib (ib+k); ib:=ib+k
    if ib == b.size then return done out ia ib
   out:=out.push (← elem' a ia); ia:=ia+1
   if ia+1 == a.size then return lastOfA out ia ib
   if acount<7 && bcount<7 then break
  minGallop:=minGallop+1
  lC minGallop
 unsupported "internal:list.sort.merge-bound"):=rfl
abbrev mF:=Option (Array Keyed)×Array Keyed×Nat×Nat×Nat×Nat×Nat
def sK(a b out:Array Keyed)(ia ib g ac bc:Nat):SM (ForInStep mF):=do
 let x ← elem' a ia
 if (ia+1+1 == a.size)=true then pure (.done (some (out.push x++b.extract ib b.size++a.extract (ia+1) a.size),out.push x,ia+1,ib,g,ac,bc))
 else if (decide (ac<7) && decide (bc<7))=true then pure (.done (none,out.push x,ia+1,ib,g,ac,bc)) else pure (.yield (none,out.push x,ia+1,ib,g,ac,bc))
def sZ(a b out:Array Keyed)(ia ib g ac bc:Nat):SM (ForInStep mF):=do
 let x ← elem' b ib
 if (ib+1 == b.size)=true then pure (.done (some (out.push x++a.extract ia a.size++b.extract (ib+1) b.size),out.push x,ia,ib+1,g,ac,bc)) else do
  let y ← elem' a ia
  let r ← cG true y b (ib+1) (b.size - (ib+1)) 0
  match r with
  | some k =>
   if k > 0 then
    if (ib+1+k == b.size)=true then pure (.done (some (out.push x++b.extract (ib+1) (ib+1+k)++a.extract ia a.size++b.extract (ib+1+k) b.size),out.push x++b.extract (ib+1) (ib+1+k),ia,ib+1+k,g,ac,k))
    else sK a b (out.push x++b.extract (ib+1) (ib+1+k)) ia (ib+1+k) g ac k
   else sK a b (out.push x) ia (ib+1) g ac k
  | _=>pure (.done (some (out.push x++a.extract ia a.size++b.extract (ib+1) b.size),out.push x,ia,ib+1,g,ac,bc))
def loG(a b out:Array Keyed)(ia ib g ac bc:Nat):SM (ForInStep mF):=do
 lC g
 let x ← elem' b ib
 let r ← cG false x a ia (a.size - ia) 0
 match r with
 | some k =>
  if k > 0 then
   if (ia+k+1 == a.size)=true then pure (.done (some (out++a.extract ia (ia+k)++b.extract ib b.size++a.extract (ia+k) a.size),out++a.extract ia (ia+k),ia+k,ib,g,k,bc))
   else if (ia+k == a.size)=true then pure (.done (some (out++a.extract ia (ia+k)++a.extract (ia+k) a.size++b.extract ib b.size),out++a.extract ia (ia+k),ia+k,ib,g,k,bc))
   else sZ a b (out++a.extract ia (ia+k)) (ia+k) ib g k bc
  else sZ a b out ia ib g k bc
 | _=>pure (.done (some (out++a.extract ia a.size++b.extract ib b.size),out,ia,ib,g,ac,bc))
section
variable {prog:Program}{w:World}{A:Around}{E:Value→Shared→Prop}{s:Shared}{κ:SortKind}{it:Nat→Keyed}{n:Nat}{la lb:List Nat}{p:Array Nat}{pd:Array (Nat×Nat×Nat)}
theorem da(l:List Nat)(i j:Nat):(l.toArray.map it).extract i j=(((l.drop i).take (j - i)).map it).toArray:=by simp[map_take,map_drop]
theorem fh(q:List Nat)(x:Nat):(q.map it).toArray.push (it x)=((q++[x]).map it).toArray:=by simp
theorem ay(q r:List Nat):(q.map it).toArray++(r.map it).toArray=((q++r).map it).toArray:=by simp
theorem dG(l:List Nat):(l.toArray.map it).size=l.length:=by simp
structure Two(n:Nat)(la lb:List Nat):Prop where
 sa:la.Pairwise (· < ·)
 sb:lb.Pairwise (· < ·)
 na:∀ x∈la,x<n
 nb:∀ x∈lb,x<n
 ne:∀ x∈la,∀ y∈lb,x≠y
def Told(κ:SortKind)(it:Nat→Keyed)(p:Array Nat)(pd:Array (Nat×Nat×Nat))(la lb:List Nat)(st:SortSt)(o:Option (Array Keyed)):Prop:=∃ g,st=S κ it p pd g∧∃ q,o=some ((q.map it).toArray)∧Fine la lb q
theorem gI{g g':Nat}{Q:Unit→SortSt→Prop}(h:Q () (S κ it p pd g')):wpS (model prog w) A E s (lC g') Q (S κ it p pd g):=wpS_modify h
theorem gN{lo:Nat}(T:Two n la lb)(hl:∀ y∈lb,y<e la.toArray (la.length - 1)){i j:Nat}(hi:i+1=la.length):∀ x∈lb.drop j,∀ y∈la.drop i,x<y:=fun x hx y hy=>by
 obtain ⟨k,k1,k2,rfl⟩:=gy hy
 rw[show k=la.length - 1 by lia]
 exact hl x (List.mem_of_mem_drop hx)
theorem cQ{l m:List Nat}{i j:Nat}(hm:m.Pairwise (· < ·))(hj:j<m.length){x:Nat}(c:x<e m.toArray j):∀ y∈m.drop j,x<y:=fun y hy=>by
 obtain ⟨k,k1,k2,rfl⟩:=gy hy
 by_cases z:k=j
 ·rw[z]; exact c
 ·exact Nat.lt_trans c (mL hm j k (Nat.zero_le _) (by lia) k2)
theorem mK(T:Two n la lb)(hl:∀ y∈lb,y<e la.toArray (la.length - 1)){q:List Nat}{ia ib g g0 ac bc:Nat}{Q:ForInStep mF→SortSt→Prop}(m:MI la lb q ia ib)(h1:ia+1<la.length)(h2:ib<lb.length)(hc:e la.toArray ia<e lb.toArray ib)
  (hd:∀ c st,Told κ it p pd la lb st c.1→Q (.done c) st)
  (hn:∀ q' ia',MI la lb q' ia' ib→ia'+1<la.length→ia<ia'→Q (.done (none,(q'.map it).toArray,ia',ib,g,ac,bc)) (S κ it p pd g0)∧Q (.yield (none,(q'.map it).toArray,ia',ib,g,ac,bc)) (S κ it p pd g0)) :
  wpS (model prog w) A E s (sK (la.toArray.map it) (lb.toArray.map it) ((q.map it).toArray) ia ib g ac bc) Q (S κ it p pd g0):=by
 unfold sK
 have m':=m.addA T.sa 1 (by rw[bZ (by lia)]; intro x hx y hy; rw[mem_singleton.mp hx]; exact cQ (l:=la) (i:=0) T.sb h2 hc y hy)
 rw[bZ (by lia)]at m'
 refine wpS_bind (aP (by simp; lia) ?_)
 rw[fh,dG,da,da,dG,take_of_length_le (by simp),take_of_length_le (by simp)]
 by_cases c:ia+1+1=la.length
 ·rw[if_pos (by simpa using c)]
  refine wpS_pure (hd _ _ ⟨g0,rfl,_,by rw[ay,ay],m'.endB T.sa T.sb (gN (lo:=0) T hl c)⟩)
 ·rw[if_neg (by simpa using c)]
  split
  ·exact wpS_pure (hn _ _ m' (by lia) (by lia)).1
  ·exact wpS_pure (hn _ _ m' (by lia) (by lia)).2
theorem iE{l:List Nat}{i:Nat}(h:l.length≤i){P:Nat→Prop}:∀ y∈l.drop i,P y:=fun y hy=>by rw[List.drop_of_length_le h]at hy; cases hy
theorem me{m:List Nat}{k:Nat}(hk:k ∉ m)(hm:∀ x∈m,x<n){i:Nat}:∀ j,j<m.length - i→e m.toArray (i+j)<n∧e m.toArray (i+j)≠k:=fun j hj=>by
 have:=eJ (l:=m) (i:=i+j) (by lia)
 exact ⟨hm _ this,fun z=>hk (z ▸ this)⟩
theorem gG{m:List Nat}(hm:m.Pairwise (· < ·)){i j:Nat}(hj:j≤m.length):Up m.toArray i j:=fun x y hx hxy hy=>mL hm x y (Nat.zero_le _) hxy (by lia)
theorem m6(ha:eA prog w A s κ it n)(T:Two n la lb)(hl:∀ y∈lb,y<e la.toArray (la.length - 1)){q:List Nat}{ia ib g g0 ac bc:Nat}{Q:ForInStep mF→SortSt→Prop}(m:MI la lb q ia ib)(h1:ia+1<la.length)(h2:ib<lb.length)(hc:e lb.toArray ib<e la.toArray ia)
  (hd:∀ c st,Told κ it p pd la lb st c.1→Q (.done c) st)
  (hn:∀ q' ia' ib' bc',MI la lb q' ia' ib'→ia'+1<la.length→ib'<lb.length→ia+ib<ia'+ib'→Q (.done (none,(q'.map it).toArray,ia',ib',g,ac,bc')) (S κ it p pd g0)∧Q (.yield (none,(q'.map it).toArray,ia',ib',g,ac,bc')) (S κ it p pd g0)) :
  wpS (model prog w) A E s (sZ (la.toArray.map it) (lb.toArray.map it) ((q.map it).toArray) ia ib g ac bc) Q (S κ it p pd g0):=by
 unfold sZ
 have m':=m.addB T.sb 1 (by rw[bZ (by lia)]; intro x hx y hy; rw[mem_singleton.mp hx]; exact cQ (l:=la) (i:=0) T.sa (by lia) hc y hy)
 rw[bZ (by lia)]at m'
 refine wpS_bind (aP (by simpa using h2) ?_)
 rw[fh,dG,dG]
 have ea:(la.toArray.map it).extract ia la.length=((la.drop ia).map it).toArray:=by rw[da,take_of_length_le (by simp)]
 have eb:∀ j,(lb.toArray.map it).extract j lb.length=((lb.drop j).map it).toArray:=fun j=>by rw[da,take_of_length_le (by simp)]
 by_cases c:ib+1=lb.length
 ·rw[if_pos (by simpa using c)]
  refine wpS_pure (hd _ _ ⟨g0,rfl,_,by rw[ea,eb,ay,ay],m'.endA T.sa T.sb (fun x hx=>iE (by lia))⟩)
 rw[if_neg (by simpa using c)]
 refine wpS_bind (aP (by simp; lia) ?_)
 have hm:e la.toArray ia∈la:=eJ (by lia)
 refine wpS_bind (dk ha rfl (T.na _ hm) (by simp; lia) (me (fun z=>T.ne _ hm _ z rfl) T.nb) (gG T.sb (by lia)) (by lia) fun k k1 k2 k3=>?_)
 dsimp only
 by_cases ck:k > 0
 ·rw[if_pos ck,da,ay,show ib+1+k - (ib+1)=k by lia]
  have m2:=m'.addB T.sb k (fun x hx y hy=>by
   obtain ⟨j,j1,j2,j3,rfl⟩:=dC hx
   have:=k2 (j - (ib+1)) (by lia)
   rw[show ib+1+(j - (ib+1))=j by lia]at this
   exact cQ (l:=la) (i:=0) T.sa (by lia) this y hy)
  by_cases c2:ib+1+k=lb.length
  ·rw[if_pos (by simpa using c2)]
   refine wpS_pure (hd _ _ ⟨g0,rfl,_,by rw[ea,eb,ay,ay],m2.endA T.sa T.sb (fun x hx=>iE (by lia))⟩)
  ·rw[if_neg (by simpa using c2)]
   have k3:=k3 k (Nat.le_refl _) (by lia)
   exact mK T hl m2 h1 (by lia) k3 hd fun q' ia' a1 a2 a3=>hn q' ia' _ _ a1 a2 (by lia) (by lia)
 ·rw[if_neg ck]
  have k3:=k3 0 (by lia) (by lia)
  exact mK T hl m' h1 (by lia) k3 hd fun q' ia' a1 a2 a3=>hn q' ia' _ _ a1 a2 (by lia) (by lia)
theorem vj(ha:eA prog w A s κ it n)(T:Two n la lb)(hl:∀ y∈lb,y<e la.toArray (la.length - 1)){q:List Nat}{ia ib g g0 ac bc:Nat}{Q:ForInStep mF→SortSt→Prop}(m:MI la lb q ia ib)(h1:ia+1<la.length)(h2:ib<lb.length)
  (hd:∀ c st,Told κ it p pd la lb st c.1→Q (.done c) st)
  (hn:∀ q' ia' ib' ac' bc',MI la lb q' ia' ib'→ia'+1<la.length→ib'<lb.length→ia+ib<ia'+ib'→Q (.done (none,(q'.map it).toArray,ia',ib',g,ac',bc')) (S κ it p pd g)∧Q (.yield (none,(q'.map it).toArray,ia',ib',g,ac',bc')) (S κ it p pd g)) :
  wpS (model prog w) A E s (loG (la.toArray.map it) (lb.toArray.map it) ((q.map it).toArray) ia ib g ac bc) Q (S κ it p pd g0):=by
 unfold loG
 refine wpS_bind (gI ?_)
 refine wpS_bind (aP (by simpa using h2) ?_)
 rw[dG,dG]
 have ea:∀ j,(la.toArray.map it).extract j la.length=((la.drop j).map it).toArray:=fun j=>by rw[da,take_of_length_le (by simp)]
 have eb:∀ j,(lb.toArray.map it).extract j lb.length=((lb.drop j).map it).toArray:=fun j=>by rw[da,take_of_length_le (by simp)]
 have hm:e lb.toArray ib∈lb:=eJ h2
 refine wpS_bind (dk ha rfl (T.nb _ hm) (by simp; lia) (me (fun z=>T.ne _ z _ hm rfl) T.na) (gG T.sa (by lia)) (by lia) fun k k1 k2 k3=>?_)
 dsimp only
 by_cases ck:k > 0
 ·rw[if_pos ck,da,ay,show ia+k - ia=k by lia]
  have m2:=m.addA T.sa k (fun x hx y hy=>by
   obtain ⟨j,j1,j2,j3,rfl⟩:=dC hx
   have:=k2 (j - ia) (by lia)
   rw[show ia+(j - ia)=j by lia]at this
   exact cQ (l:=la) (i:=0) T.sb h2 this y hy)
  by_cases c2:ia+k+1=la.length
  ·rw[if_pos (by simpa using c2)]
   refine wpS_pure (hd _ _ ⟨g,rfl,_,by rw[ea,eb,ay,ay],m2.endB T.sa T.sb (gN (lo:=0) T hl c2)⟩)
  rw[if_neg (by simpa using c2)]
  by_cases c3:ia+k=la.length
  ·rw[if_pos (by simpa using c3)]
   refine wpS_pure (hd _ _ ⟨g,rfl,_,by rw[ea,eb,ay,ay],m2.endA T.sa T.sb (iE (by lia))⟩)
  rw[if_neg (by simpa using c3)]
  have k3:=k3 k (Nat.le_refl _) (by lia)
  exact m6 ha T hl m2 (by lia) h2 k3 hd fun q' ia' ib' bc' a1 a2 a3 a4=>hn q' ia' ib' _ _ a1 a2 a3 (by lia)
 ·rw[if_neg ck]
  have k3:=k3 0 (by lia) (by lia)
  exact m6 ha T hl m h1 h2 k3 hd fun q' ia' ib' bc' a1 a2 a3 a4=>hn q' ia' ib' _ _ a1 a2 a3 (by lia)
end
section
variable {prog:Program}{w:World}{A:Around}{E:Value→Shared→Prop}{s:Shared}{κ:SortKind}{it:Nat→Keyed}{n:Nat}{la lb:List Nat}{p:Array Nat}{pd:Array (Nat×Nat×Nat)}
def uu(κ:SortKind)(it:Nat→Keyed)(p:Array Nat)(pd:Array (Nat×Nat×Nat))(la lb:List Nat)(m:Nat)(c:mF)(st':SortSt):Prop:=∃ q ia2 ib2 g2 g3 ac bc,c=(none,(q.map it).toArray,ia2,ib2,g2,ac,bc)∧st'=S κ it p pd g3∧MI la lb q ia2 ib2∧ia2+1<la.length∧ib2<lb.length∧m<ia2+ib2
theorem lW(ha:eA prog w A s κ it n)(T:Two n la lb)(hl:∀ y∈lb,y<e la.toArray (la.length - 1))(h1:0<la.length)(h2:0<lb.length)(hf:e lb.toArray 0<e la.toArray 0){g:Nat}{Q:Array Keyed→SortSt→Prop}
  (h:∀ q g',Fine la lb q→Q ((q.map it).toArray) (S κ it p pd g')):wpS (model prog w) A E s (gQ (la.toArray.map it) (lb.toArray.map it)) Q (S κ it p pd g):=by
 rw[kh]
 refine wpS_bind (wpS_lift (wpAny_rule ⟨rfl,?_⟩))
 dsimp only
 refine wpS_bind (aP (by simpa using h2) ?_)
 have za:(la.toArray.map it).size=la.length:=dG la
 have zb:(lb.toArray.map it).size=lb.length:=dG lb
 have ea:∀ j,(la.toArray.map it).extract j (la.toArray.map it).size=((la.drop j).map it).toArray:=fun j=>by rw[za,da,take_of_length_le (by simp)]
 have eb:∀ j,(lb.toArray.map it).extract j (lb.toArray.map it).size=((lb.drop j).map it).toArray:=fun j=>by rw[zb,da,take_of_length_le (by simp)]
 have m0:MI la lb [] 0 0:=⟨.refl _,.nil,fun x hx=>(not_mem_nil hx).elim,fun x hx=>(not_mem_nil hx).elim⟩
 have m:=m0.addB T.sb 1 (by rw[bZ h2]; intro x hx y hy; rw[mem_singleton.mp hx]; exact cQ (l:=la) (i:=0) T.sa h1 hf y hy)
 rw[bZ h2,nil_append,Nat.zero_add]at m
 have e0:(#[it (e lb.toArray 0)]:Array Keyed)=([e lb.toArray 0].map it).toArray:=rfl
 rw[e0]
 by_cases c:1=lb.length
 ·rw[if_pos (by simpa using c)]
  rw[ea,eb,ay,ay]
  exact wpS_pure (h _ _ (m.endA T.sa T.sb fun x hx=>iE (by lia)))
 rw[if_neg (by simpa using c)]
 by_cases c2:0+1=la.length
 ·rw[if_pos (by simpa using c2)]
  rw[ea,eb,ay,ay]
  exact wpS_pure (h _ _ (m.endB T.sa T.sb (gN (lo:=0) T hl c2)))
 rw[if_neg (by simpa using c2)]
 refine wpS_bind (wpS_get ?_)
 refine wpS_bind (wpS_mono (wpS_forRange (I:=fun x c st'=>∃ q ia ib g0 g1,c=(none,(q.map it).toArray,ia,ib,g0)∧st'=S κ it p pd g1∧MI la lb q ia ib∧ia+1<la.length∧ib<lb.length∧1+x≤ia+ib) (Q:=fun c st'=>Told κ it p pd la lb st' c.1) ?step ?fin ⟨_,0,1,_,g,rfl,rfl,m,by lia,by lia,by lia⟩) ?post)
 case post =>
  rintro ⟨o,c⟩ st' ⟨g',rfl,q,e1,hq⟩
  dsimp only at e1 ⊢
  rw[e1]
  exact wpS_pure (h q g' hq)
 case fin =>
  rintro c st' ⟨q,ia,ib,g0,g1,rfl,rfl,m,a1,a2,a3⟩
  lia
 case step =>
  rintro x c st' _ hx ⟨q,ia,ib,g0,g1,rfl,rfl,m,a1,a2,a3⟩
  dsimp only
  refine wpS_bind (wpS_mono (wpS_forRange (I:=fun y c st'=>∃ q ia' ib' ac bc,c=(none,(q.map it).toArray,ia',ib',ac,bc)∧st'=S κ it p pd g1∧MI la lb q ia' ib'∧ia'+1<la.length∧ib'<lb.length∧ia+ib+y≤ia'+ib')
   (Q:=fun c st'=>Told κ it p pd la lb st' c.1∨∃ q ia' ib' ac bc,c=(none,(q.map it).toArray,ia',ib',ac,bc)∧st'=S κ it p pd g1∧MI la lb q ia' ib'∧ia'+1<la.length∧ib'<lb.length∧ia+ib<ia'+ib') ?s1 ?f1 ⟨q,ia,ib,0,0,rfl,rfl,m,a1,a2,Nat.le_refl _⟩) ?p1)
  case f1 =>
   rintro c st' ⟨q',ia',ib',ac,bc,rfl,rfl,m',b1,b2,b3⟩
   exact .inr ⟨q',ia',ib',ac,bc,rfl,rfl,m',b1,b2,by lia⟩
  case s1 =>
   rintro y c st' _ hy ⟨q',ia',ib',ac,bc,rfl,rfl,m',b1,b2,b3⟩
   dsimp only
   have ma:e la.toArray ia'∈la:=eJ (by lia)
   have mb:e lb.toArray ib'∈lb:=eJ (by lia)
   refine wpS_bind (aP (by simpa using b2) (wpS_bind (aP (by simp; lia) (wpS_bind (kY ha rfl (T.nb _ mb) (T.na _ ma) (fun z=>T.ne _ ma _ mb z.symm) ?_)))))
   dsimp only
   by_cases c:e lb.toArray ib'<e la.toArray ia'
   ·rw[decide_eq_true c,if_pos rfl]
    refine wpS_bind (aP (by simpa using b2) ?_)
    have m2:=m'.addB T.sb 1 (by rw[bZ (by lia)]; intro x hx y hy; rw[mem_singleton.mp hx]; exact cQ (l:=la) (i:=0) T.sa (by lia) c y hy)
    rw[bZ (by lia)]at m2
    rw[fh,ea,eb,ay,ay]
    by_cases c2:ib'+1=lb.length
    ·rw[if_pos (by simpa using c2)]
     exact wpS_pure (.inl ⟨g1,rfl,_,rfl,m2.endA T.sa T.sb fun x hx=>iE (by lia)⟩)
    rw[if_neg (by simpa using c2)]
    split
    ·exact wpS_pure (.inr ⟨_,_,_,_,_,rfl,rfl,m2,b1,by lia,by lia⟩)
    ·exact wpS_pure ⟨_,_,_,_,_,rfl,rfl,m2,b1,by lia,by lia⟩
   ·rw[decide_eq_false c,if_neg (by simp)]
    refine wpS_bind (aP (by simp; lia) ?_)
    have ne:=T.ne _ ma _ mb
    have m2:=m'.addA T.sa 1 (by rw[bZ (by lia)]; intro x hx y hy; rw[mem_singleton.mp hx]; exact cQ (l:=la) (i:=0) T.sb b2 (by lia) y hy)
    rw[bZ (by lia)]at m2
    rw[fh,ea,eb,ay,ay]
    by_cases c2:ia'+1+1=la.length
    ·rw[if_pos (by simpa using c2)]
     exact wpS_pure (.inl ⟨g1,rfl,_,rfl,m2.endB T.sa T.sb (gN (lo:=0) T hl c2)⟩)
    rw[if_neg (by simpa using c2)]
    split
    ·exact wpS_pure (.inr ⟨_,_,_,_,_,rfl,rfl,m2,by lia,by lia,by lia⟩)
    ·exact wpS_pure ⟨_,_,_,_,_,rfl,rfl,m2,by lia,by lia,by lia⟩
  case p1 =>
   rintro c st' (⟨g',rfl,q',e1,hq⟩ | ⟨q',ia',ib',ac,bc,rfl,rfl,m',b1,b2,b3⟩)
   ·obtain ⟨o,c⟩:=c
    dsimp only at e1 ⊢
    rw[e1]
    exact wpS_pure ⟨g',rfl,q',rfl,hq⟩
   dsimp only
   refine wpS_bind (wpS_lift (wpAny_rule ⟨rfl,?_⟩))
   refine wpS_bind (wpS_mono (wpS_forRange (I:=fun y c st'=>uu κ it p pd la lb (ia+ib) c st')
    (Q:=fun c st'=>Told κ it p pd la lb st' c.1∨uu κ it p pd la lb (ia+ib) c st') ?s2 ?f2 ⟨q',ia',ib',_,g1,ac,bc,rfl,rfl,m',b1,b2,b3⟩) ?p2)
   case f2=>exact fun c st' z=>.inr z
   case s2 =>
    rintro y c st' _ hy ⟨q2,ia2,ib2,g2,g3,ac,bc,rfl,rfl,m2,d1,d2,d3⟩
    dsimp only
    have go:∀ g,wpS (model prog w) A E s (loG (la.toArray.map it) (lb.toArray.map it) ((q2.map it).toArray) ia2 ib2 g ac bc) (fun r st'=>match r with | .done c'=>(Told κ it p pd la lb st' c'.1∨uu κ it p pd la lb (ia+ib) c' st') | .yield c'=>uu κ it p pd la lb (ia+ib) c' st') (S κ it p pd g3):=fun g =>
     vj ha T hl m2 d1 d2 (fun c st z=>.inl z) fun q3 ia3 ib3 ac3 bc3 f1 f2 f3 f4=>⟨.inr ⟨q3,ia3,ib3,g,g,ac3,bc3,rfl,rfl,f1,f2,f3,by lia⟩,q3,ia3,ib3,g,g,ac3,bc3,rfl,rfl,f1,f2,f3,by lia⟩
    by_cases cg:g2 > 1
    ·rw[if_pos cg]; exact wpS_mono (go (g2 - 1)) fun r st' z=>by cases r <;> exact z
    ·rw[if_neg cg]; exact wpS_mono (go g2) fun r st' z=>by cases r <;> exact z
   case p2 =>
    rintro c st' (⟨g',rfl,q',e1,hq⟩ | ⟨q2,ia2,ib2,g2,g3,ac,bc,rfl,rfl,m2,d1,d2,d3⟩)
    ·obtain ⟨o,c⟩:=c
     dsimp only at e1 ⊢
     rw[e1]
     exact wpS_pure ⟨g',rfl,q',rfl,hq⟩
    dsimp only
    refine wpS_bind (gI (wpS_pure ⟨q2,ia2,ib2,_,_,rfl,rfl,m2,d1,d2,by lia⟩))
end
structure MH(la lb r:List Nat)(na nb:Nat):Prop where
 perm:r.Perm (la.drop na++lb.drop nb)
 srt:r.Pairwise (· < ·)
 ba:∀ x∈la.take na,∀ y∈r,x<y
 bb:∀ x∈lb.take nb,∀ y∈r,x<y
section
variable {la lb r:List Nat}{na nb:Nat}
theorem MH.swap(m:MH la lb r na nb):MH lb la r nb na:=⟨m.perm.trans perm_append_comm,m.srt,m.bb,m.ba⟩
theorem pK(l:List Nat){i j:Nat}(h:i≤j)(hj:j≤l.length):l.drop i=(l.take j).drop i++l.drop j:=by
 rw[← List.drop_append_of_le_length (by rw[length_take]; lia),take_append_drop]
theorem MH.addA(m:MH la lb r na nb)(hs:la.Pairwise (· < ·)){k:Nat}(hk:k≤na)(hn:na≤la.length)(h:∀ x∈lb.take nb,∀ y∈(la.take na).drop k,x<y):MH la lb ((la.take na).drop k++r) k nb:=by
 refine ⟨?_,?_,?_,?_⟩
 ·rw[pK la hk hn,append_assoc]
  exact m.perm.append_left _
 ·rw[pairwise_append]
  exact ⟨hs.sublist ((drop_sublist _ _).trans (take_sublist _ _)),m.srt,fun x hx y hy=>m.ba x (List.mem_of_mem_drop hx) y hy⟩
 ·intro x hx y hy
  have hx':x∈(la.take na).take k:=by rw[List.take_take,Nat.min_eq_left hk]; exact hx
  rcases mem_append.mp hy with z | z
  ·have hp:(la.take na).Pairwise (· < ·):=hs.sublist (take_sublist _ _)
   rw[← take_append_drop k (la.take na),pairwise_append]at hp
   exact hp.2.2 x hx' y z
  ·exact m.ba x (mem_of_mem_take hx') y z
 ·intro x hx y hy
  rcases mem_append.mp hy with z | z
  ·exact h x hx y z
  ·exact m.bb x hx y z
theorem MH.addB(m:MH la lb r na nb)(hs:lb.Pairwise (· < ·)){k:Nat}(hk:k≤nb)(hn:nb≤lb.length)(h:∀ x∈la.take na,∀ y∈(lb.take nb).drop k,x<y):MH la lb ((lb.take nb).drop k++r) na k:=(m.swap.addA hs hk hn h).swap
theorem MH.endA(m:MH la lb r na nb)(ha:la.Pairwise (· < ·))(hb:lb.Pairwise (· < ·))(h:∀ x∈la.take na,∀ y∈lb.take nb,x<y):Fine la lb (la.take na++lb.take nb++r):=by
 refine ⟨?_,?_⟩
 ·refine (m.perm.append_left _).trans ?_
  have h1:(la.take na++lb.take nb++(la.drop na++lb.drop nb)).Perm (la.take na++la.drop na++(lb.take nb++lb.drop nb)):=by
   rw[append_assoc,append_assoc]
   refine List.Perm.append_left _ ?_
   rw[← append_assoc,← append_assoc]
   exact List.Perm.append_right _ perm_append_comm
  rw[take_append_drop,take_append_drop]at h1
  exact h1
 ·rw[pairwise_append,pairwise_append]
  refine ⟨⟨ha.sublist (take_sublist _ _),hb.sublist (take_sublist _ _),h⟩,m.srt,fun x hx y hy=>?_⟩
  rcases mem_append.mp hx with z | z
  ·exact m.ba x z y hy
  ·exact m.bb x z y hy
theorem MH.endB(m:MH la lb r na nb)(ha:la.Pairwise (· < ·))(hb:lb.Pairwise (· < ·))(h:∀ x∈lb.take nb,∀ y∈la.take na,x<y):Fine la lb (lb.take nb++la.take na++r):=(m.swap.endA hb ha h).swap
theorem i4{l:List Nat}{i y:Nat}(h:y∈l.take i):∃ j,j<i∧j<l.length∧y=e l.toArray j:=by
 obtain ⟨j,a1,a2,a3,a4⟩:=dC (i:=0) (k:=i) (by rw[List.drop_zero]; exact h)
 exact ⟨j,by lia,a3,a4⟩
theorem i5{l:List Nat}{i k y:Nat}(h:y∈(l.take i).drop k):∃ j,k≤j∧j<i∧j<l.length∧y=e l.toArray j:=by
 rw[drop_take]at h
 obtain ⟨j,a1,a2,a3,a4⟩:=dC h
 exact ⟨j,a1,by lia,a3,a4⟩
theorem cb{l:List Nat}{i:Nat}(h:i<l.length):(l.take (i+1)).drop i=[e l.toArray i]:=by
 rw[drop_take,show i+1 - i=1 by lia]
 exact bZ h
theorem dj{m:List Nat}{j:Nat}(hm:m.Pairwise (· < ·))(hj:j<m.length){x:Nat}(c:e m.toArray j<x):∀ y∈m.take (j+1),y<x:=fun y hy=>by
 obtain ⟨k,k1,k2,rfl⟩:=i4 hy
 by_cases z:k=j
 ·rw[z]; exact c
 ·exact Nat.lt_trans (mL hm k j (Nat.zero_le _) (by lia) hj) c
end
theorem kP(a b:Array Keyed):iw a b=(do
 rule "list.sort.merge-hi"
 let total:=a.size+b.size
 let done (out:Array Keyed) (na nb:Nat):=a.extract 0 na++b.extract 0 nb++out.reverse
 let firstOfB (out:Array Keyed) (na nb:Nat):=b.extract 0 nb++a.extract 0 na++out.reverse
 let mut na:=a.size - 1
 let mut nb:=b.size
 let mut out:Array Keyed:=#[← elem' a na]
 if na == 0 then return done out na nb
 if nb == 1 then return firstOfB out na nb
 let mut minGallop:=gallopOf (← get)
 for _ in [0:total] do
  let mut acount:=0
  let mut bcount:=0
  for _ in [0:total] do
   let some aWins ← lt' (← elem' b (nb - 1)) (← elem' a (na - 1)) | return done out na nb
   if aWins then
    na:=na - 1; out:=out.push (← elem' a na); acount:=acount+1; bcount:=0
    if na == 0 then return done out na nb
    if acount ≥ minGallop then break
   else
    nb:=nb - 1; out:=out.push (← elem' b nb); bcount:=bcount+1; acount:=0
    if nb == 1 then return firstOfB out na nb
    if bcount ≥ minGallop then break
  rule "list.sort.gallop"
  minGallop:=minGallop+1
  for _ in [0:total] do
   if minGallop > 1 then minGallop:=minGallop - 1
   lC minGallop
   let some at_ ← cG false (← elem' b (nb - 1)) a 0 na (na - 1) | return done out na nb
   let k:=na - at_
   acount:=k
   if k > 0 then
    out:=out++(a.extract at_ na).reverse; na:=at_
    if na == 0 then return done out na nb
   nb:=nb - 1; out:=out.push (← elem' b nb)
   if nb == 1 then return firstOfB out na nb
   let some at_ ← cG true (← elem' a (na - 1)) b 0 nb (nb - 1) | return done out na nb
   let k:=nb - at_
   bcount:=k
   if k > 0 then
    out:=out++(b.extract at_ nb).reverse; nb:=at_
    if nb == 1 then return firstOfB out na nb
    if nb == 0 then return done out na nb
   na:=na - 1; out:=out.push (← elem' a na)
   if na == 0 then return done out na nb
   if acount<7 && bcount<7 then break
  minGallop:=minGallop+1
  lC minGallop
 unsupported "internal:list.sort.merge-bound"):=rfl
abbrev lK:=Option (Array Keyed)×Nat×Nat×Array Keyed×Nat×Nat×Nat
def sv(a b out:Array Keyed)(na nb g ac bc:Nat):SM (ForInStep lK):=do
 let x ← elem' a (na - 1)
 if (na - 1 == 0)=true then pure (.done (some (a.extract 0 (na - 1)++b.extract 0 nb++(out.push x).reverse),na - 1,nb,out.push x,g,ac,bc))
 else if (decide (ac<7) && decide (bc<7))=true then pure (.done (none,na - 1,nb,out.push x,g,ac,bc)) else pure (.yield (none,na - 1,nb,out.push x,g,ac,bc))
def sW(a b out:Array Keyed)(na nb g ac bc:Nat):SM (ForInStep lK):=do
 let x ← elem' b (nb - 1)
 if (nb - 1 == 1)=true then pure (.done (some (b.extract 0 (nb - 1)++a.extract 0 na++(out.push x).reverse),na,nb - 1,out.push x,g,ac,bc)) else do
  let y ← elem' a (na - 1)
  let r ← cG true y b 0 (nb - 1) (nb - 1 - 1)
  match r with
  | some at_ =>
   if nb - 1 - at_ > 0 then
    if (at_ == 1)=true then pure (.done (some (b.extract 0 at_++a.extract 0 na++(out.push x++(b.extract at_ (nb - 1)).reverse).reverse),na,at_,out.push x++(b.extract at_ (nb - 1)).reverse,g,ac,nb - 1 - at_))
    else if (at_ == 0)=true then pure (.done (some (a.extract 0 na++b.extract 0 at_++(out.push x++(b.extract at_ (nb - 1)).reverse).reverse),na,at_,out.push x++(b.extract at_ (nb - 1)).reverse,g,ac,nb - 1 - at_))
    else sv a b (out.push x++(b.extract at_ (nb - 1)).reverse) na at_ g ac (nb - 1 - at_)
   else sv a b (out.push x) na (nb - 1) g ac (nb - 1 - at_)
  | _=>pure (.done (some (a.extract 0 na++b.extract 0 (nb - 1)++(out.push x).reverse),na,nb - 1,out.push x,g,ac,bc))
def hiG(a b out:Array Keyed)(na nb g ac bc:Nat):SM (ForInStep lK):=do
 lC g
 let x ← elem' b (nb - 1)
 let r ← cG false x a 0 na (na - 1)
 match r with
 | some at_ =>
  if na - at_ > 0 then
   if (at_ == 0)=true then pure (.done (some (a.extract 0 at_++b.extract 0 nb++(out++(a.extract at_ na).reverse).reverse),at_,nb,out++(a.extract at_ na).reverse,g,na - at_,bc))
   else sW a b (out++(a.extract at_ na).reverse) at_ nb g (na - at_) bc
  else sW a b out na nb g (na - at_) bc
 | _=>pure (.done (some (a.extract 0 na++b.extract 0 nb++out.reverse),na,nb,out,g,ac,bc))
section
variable {prog:Program}{w:World}{A:Around}{E:Value→Shared→Prop}{s:Shared}{κ:SortKind}{it:Nat→Keyed}{n:Nat}{la lb:List Nat}{p:Array Nat}{pd:Array (Nat×Nat×Nat)}
def O(it:Nat→Keyed)(r:List Nat):Array Keyed:=(r.reverse.map it).toArray
theorem jG(r:List Nat)(x:Nat):(O it r).push (it x)=O it (x::r):=by simp[O]
theorem u6(l r:List Nat)(i j:Nat):O it r++((l.toArray.map it).extract i j).reverse=O it ((l.take j).drop i++r):=by
 rw[da,drop_take]
 simp[O]
theorem gm(r:List Nat):(O it r).reverse=(r.map it).toArray:=by simp[O]
theorem ex0(l:List Nat)(j:Nat):(l.toArray.map it).extract 0 j=((l.take j).map it).toArray:=by rw[da]; rfl
theorem hI{l:List Nat}{P:Nat→Prop}:∀ y∈l.take 0,P y:=fun y hy=>by rw[take_zero]at hy; cases hy
theorem fw(hf:∀ x∈la,e lb.toArray 0<x){i:Nat}:∀ x∈lb.take 1,∀ y∈la.take i,x<y:=fun x hx y hy=>by
 obtain ⟨k,k1,k2,rfl⟩:=i4 hx
 rw[show k=0 by lia]
 exact hf y (mem_of_mem_take hy)
theorem nQ(T:Two n la lb){r:List Nat}{na nb g g0 ac bc:Nat}{Q:ForInStep lK→SortSt→Prop}(m:MH la lb r na nb)(h1:1≤na)(h1':na≤la.length)(h2:2≤nb)(h2':nb≤lb.length)(hc:e lb.toArray (nb - 1)<e la.toArray (na - 1))
  (hd:∀ c st,Told κ it p pd la lb st c.1→Q (.done c) st)
  (hn:∀ r' na',MH la lb r' na' nb→1≤na'→na'<na→Q (.done (none,na',nb,O it r',g,ac,bc)) (S κ it p pd g0)∧Q (.yield (none,na',nb,O it r',g,ac,bc)) (S κ it p pd g0)) :
  wpS (model prog w) A E s (sv (la.toArray.map it) (lb.toArray.map it) (O it r) na nb g ac bc) Q (S κ it p pd g0):=by
 unfold sv
 obtain ⟨na,rfl⟩:∃ k,na=k+1:=⟨na - 1,by lia⟩
 obtain ⟨nb,rfl⟩:∃ k,nb=k+1:=⟨nb - 1,by lia⟩
 rw[Nat.add_sub_cancel]at hc ⊢
 rw[Nat.add_sub_cancel]at hc
 have m':=m.addA T.sa (k:=na) (by lia) h1' (by rw[cb (by lia)]; intro x hx y hy; rw[mem_singleton.mp hy]; exact dj T.sb (by lia) hc x hx)
 rw[cb (by lia),singleton_append]at m'
 refine wpS_bind (aP (by simp; lia) ?_)
 rw[jG,gm,ex0,ex0,ay,ay]
 by_cases c:na=0
 ·rw[if_pos (by simpa using c)]
  subst c
  exact wpS_pure (hd _ _ ⟨g0,rfl,_,rfl,m'.endA T.sa T.sb hI⟩)
 ·rw[if_neg (by simpa using c)]
  split
  ·exact wpS_pure (hn _ _ m' (by lia) (by lia)).1
  ·exact wpS_pure (hn _ _ m' (by lia) (by lia)).2
theorem wE{m:List Nat}{k:Nat}(hk:k ∉ m)(hm:∀ x∈m,x<n){i:Nat}(hi:i≤m.length):∀ j,j<i→e m.toArray (0+j)<n∧e m.toArray (0+j)≠k:=fun j hj=>me (i:=0) hk hm j (by lia)
theorem mW(ha:eA prog w A s κ it n)(T:Two n la lb)(hf:∀ x∈la,e lb.toArray 0<x){r:List Nat}{na nb g g0 ac bc:Nat}{Q:ForInStep lK→SortSt→Prop}(m:MH la lb r na nb)(h1:1≤na)(h1':na≤la.length)(h2:2≤nb)(h2':nb≤lb.length)(hc:e la.toArray (na - 1)<e lb.toArray (nb - 1))
  (hd:∀ c st,Told κ it p pd la lb st c.1→Q (.done c) st)
  (hn:∀ r' na' nb' bc',MH la lb r' na' nb'→1≤na'→na'≤la.length→2≤nb'→nb'≤lb.length→na'+nb'<na+nb→Q (.done (none,na',nb',O it r',g,ac,bc')) (S κ it p pd g0)∧Q (.yield (none,na',nb',O it r',g,ac,bc')) (S κ it p pd g0)) :
  wpS (model prog w) A E s (sW (la.toArray.map it) (lb.toArray.map it) (O it r) na nb g ac bc) Q (S κ it p pd g0):=by
 unfold sW
 obtain ⟨nb,rfl⟩:∃ k,nb=k+1:=⟨nb - 1,by lia⟩
 rw[Nat.add_sub_cancel]at hc ⊢
 have m':=m.addB T.sb (k:=nb) (by lia) h2' (by
  rw[cb (by lia)]; intro x hx y hy; rw[mem_singleton.mp hy]
  refine dj (j:=na - 1) T.sa (by lia) hc x ?_
  rw[show na - 1+1=na by lia]; exact hx)
 rw[cb (by lia),singleton_append]at m'
 refine wpS_bind (aP (by simp; lia) ?_)
 rw[jG,gm,ex0,ex0,ay,ay]
 by_cases c:nb=1
 ·rw[if_pos (by simpa using c)]
  subst c
  exact wpS_pure (hd _ _ ⟨g0,rfl,_,rfl,m'.endB T.sa T.sb (fw hf)⟩)
 rw[if_neg (by simpa using c)]
 refine wpS_bind (aP (by simp; lia) ?_)
 have hm:e la.toArray (na - 1)∈la:=eJ (by lia)
 refine wpS_bind (dk ha rfl (T.na _ hm) (by simp; lia) (wE (fun z=>T.ne _ hm _ z rfl) T.nb (by lia)) (gG T.sb (by lia)) (by lia) fun k k1 k2 k3=>?_)
 dsimp only
 by_cases ck:nb - k > 0
 ·rw[if_pos ck,u6,gm,ex0,ay,ay]
  have m2:=m'.addB T.sb (k:=k) k1 (by lia) (fun x hx y hy=>by
   obtain ⟨j,j1,j2,j3,rfl⟩:=i5 hy
   have:=k3 j j1 j2
   rw[Nat.zero_add]at this
   refine dj (j:=na - 1) T.sa (by lia) this x ?_
   rw[show na - 1+1=na by lia]; exact hx)
  by_cases c2:k=1
  ·rw[if_pos (by simpa using c2)]
   subst c2
   exact wpS_pure (hd _ _ ⟨g0,rfl,_,rfl,m2.endB T.sa T.sb (fw hf)⟩)
  rw[if_neg (by simpa using c2)]
  by_cases c3:k=0
  ·rw[if_pos (by simpa using c3),ay,ay]
   subst c3
   exact wpS_pure (hd _ _ ⟨g0,rfl,_,rfl,m2.endA T.sa T.sb fun x hx=>hI⟩)
  rw[if_neg (by simpa using c3)]
  have k2:=k2 (k - 1) (by lia)
  rw[Nat.zero_add]at k2
  exact nQ T m2 h1 h1' (by lia) (by lia) k2 hd fun r' na' a1 a2 a3=>hn r' na' _ _ a1 a2 (by lia) (by lia) (by lia) (by lia)
 ·rw[if_neg ck]
  have k2:=k2 (nb - 1) (by lia)
  rw[Nat.zero_add]at k2
  exact nQ T m' h1 h1' (by lia) (by lia) k2 hd fun r' na' a1 a2 a3=>hn r' na' _ _ a1 a2 (by lia) (by lia) (by lia) (by lia)
theorem vm(ha:eA prog w A s κ it n)(T:Two n la lb)(hf:∀ x∈la,e lb.toArray 0<x){r:List Nat}{na nb g g0 ac bc:Nat}{Q:ForInStep lK→SortSt→Prop}(m:MH la lb r na nb)(h1:1≤na)(h1':na≤la.length)(h2:2≤nb)(h2':nb≤lb.length)
  (hd:∀ c st,Told κ it p pd la lb st c.1→Q (.done c) st)
  (hn:∀ r' na' nb' ac' bc',MH la lb r' na' nb'→1≤na'→na'≤la.length→2≤nb'→nb'≤lb.length→na'+nb'<na+nb→Q (.done (none,na',nb',O it r',g,ac',bc')) (S κ it p pd g)∧Q (.yield (none,na',nb',O it r',g,ac',bc')) (S κ it p pd g)) :
  wpS (model prog w) A E s (hiG (la.toArray.map it) (lb.toArray.map it) (O it r) na nb g ac bc) Q (S κ it p pd g0):=by
 unfold hiG
 refine wpS_bind (gI ?_)
 refine wpS_bind (aP (by simp; lia) ?_)
 have hm:e lb.toArray (nb - 1)∈lb:=eJ (by lia)
 refine wpS_bind (dk ha rfl (T.nb _ hm) (by simp; lia) (wE (fun z=>T.ne _ z _ hm rfl) T.na (by lia)) (gG T.sa (by lia)) (by lia) fun k k1 k2 k3=>?_)
 dsimp only
 by_cases ck:na - k > 0
 ·rw[if_pos ck,u6,gm,ex0,ex0,ay,ay]
  have m2:=m.addA T.sa (k:=k) k1 h1' (fun x hx y hy=>by
   obtain ⟨j,j1,j2,j3,rfl⟩:=i5 hy
   have:=k3 j j1 j2
   rw[Nat.zero_add]at this
   refine dj (j:=nb - 1) T.sb (by lia) this x ?_
   rw[show nb - 1+1=nb by lia]; exact hx)
  by_cases c2:k=0
  ·rw[if_pos (by simpa using c2)]
   subst c2
   exact wpS_pure (hd _ _ ⟨g,rfl,_,rfl,m2.endA T.sa T.sb hI⟩)
  rw[if_neg (by simpa using c2)]
  have k2:=k2 (k - 1) (by lia)
  rw[Nat.zero_add]at k2
  exact mW ha T hf m2 (by lia) (by lia) h2 h2' k2 hd fun q' ia' ib' bc' a1 a2 a3 a4 a5 a6=>hn q' ia' ib' _ _ a1 a2 a3 a4 a5 (by lia)
 ·rw[if_neg ck]
  have k2:=k2 (na - 1) (by lia)
  rw[Nat.zero_add]at k2
  exact mW ha T hf m h1 h1' h2 h2' k2 hd fun q' ia' ib' bc' a1 a2 a3 a4 a5 a6=>hn q' ia' ib' _ _ a1 a2 a3 a4 a5 (by lia)
def sE(κ:SortKind)(it:Nat→Keyed)(p:Array Nat)(pd:Array (Nat×Nat×Nat))(la lb:List Nat)(m:Nat)(c:lK)(st':SortSt):Prop:=∃ r na nb g2 g3 ac bc,c=(none,na,nb,O it r,g2,ac,bc)∧st'=S κ it p pd g3∧MH la lb r na nb∧1≤na∧na≤la.length∧2≤nb∧nb≤lb.length∧na+nb<m
theorem lM(ha:eA prog w A s κ it n)(T:Two n la lb)(hl:∀ y∈lb,y<e la.toArray (la.length - 1))(hf:∀ x∈la,e lb.toArray 0<x)(h1:0<la.length)(h2:0<lb.length){g:Nat}{Q:Array Keyed→SortSt→Prop}
  (h:∀ q g',Fine la lb q→Q ((q.map it).toArray) (S κ it p pd g')):wpS (model prog w) A E s (iw (la.toArray.map it) (lb.toArray.map it)) Q (S κ it p pd g):=by
 rw[kP]
 refine wpS_bind (wpS_lift (wpAny_rule ⟨rfl,?_⟩))
 dsimp only
 have za:(la.toArray.map it).size=la.length:=dG la
 have zb:(lb.toArray.map it).size=lb.length:=dG lb
 refine wpS_bind (aP (by simp; lia) ?_)
 have m0:MH la lb [] la.length lb.length:=⟨by simp,.nil,fun x _ y hy=>(not_mem_nil hy).elim,fun x _ y hy=>(not_mem_nil hy).elim⟩
 have hs1:(la.take la.length).drop (la.length - 1)=[e la.toArray (la.length - 1)]:=by
  have:=cb (l:=la) (i:=la.length - 1) (by lia)
  rw[show la.length - 1+1=la.length by lia]at this
  exact this
 have m:=m0.addA T.sa (k:=la.length - 1) (by lia) (Nat.le_refl _) (by rw[hs1]; intro x hx y hy; rw[mem_singleton.mp hy]; exact hl x (mem_of_mem_take hx))
 rw[hs1,append_nil]at m
 rw[za]
 have e0:(#[it (e la.toArray (la.length - 1))]:Array Keyed)=O it [e la.toArray (la.length - 1)]:=rfl
 rw[e0,zb]
 by_cases c:la.length - 1=0
 ·rw[if_pos (by simpa using c)]
  rw[c,gm,ex0,ex0,ay,ay]
  rw[c]at m
  exact wpS_pure (h _ _ (m.endA T.sa T.sb hI))
 rw[if_neg (by simpa using c)]
 by_cases c2:lb.length=1
 ·rw[if_pos (by simpa using c2)]
  rw[c2,gm,ex0,ex0,ay,ay]
  rw[c2]at m
  exact wpS_pure (h _ _ (m.endB T.sa T.sb (fw hf)))
 rw[if_neg (by simpa using c2)]
 refine wpS_bind (wpS_get ?_)
 refine wpS_bind (wpS_mono (wpS_forRange (I:=fun x c st'=>∃ r na nb g0 g1,c=(none,na,nb,O it r,g0)∧st'=S κ it p pd g1∧MH la lb r na nb∧1≤na∧na≤la.length∧2≤nb∧nb≤lb.length∧x+na+nb<la.length+lb.length) (Q:=fun c st'=>Told κ it p pd la lb st' c.1) ?step ?fin ⟨_,_,_,_,g,rfl,rfl,m,by lia,by lia,by lia,by lia,by lia⟩) ?post)
 case post =>
  rintro ⟨o,c⟩ st' ⟨g',rfl,q,e1,hq⟩
  dsimp only at e1 ⊢
  rw[e1]
  exact wpS_pure (h q g' hq)
 case fin =>
  rintro c st' ⟨q,na,nb,g0,g1,rfl,rfl,m,a1,a1',a2,a2',a3⟩
  lia
 case step =>
  rintro x c st' _ hx ⟨q,na,nb,g0,g1,rfl,rfl,m,a1,a1',a2,a2',a3⟩
  dsimp only
  refine wpS_bind (wpS_mono (wpS_forRange (I:=fun y c st'=>∃ r na' nb' ac bc,c=(none,na',nb',O it r,ac,bc)∧st'=S κ it p pd g1∧MH la lb r na' nb'∧1≤na'∧na'≤la.length∧2≤nb'∧nb'≤lb.length∧na'+nb'+y≤na+nb)
   (Q:=fun c st'=>Told κ it p pd la lb st' c.1∨∃ r na' nb' ac bc,c=(none,na',nb',O it r,ac,bc)∧st'=S κ it p pd g1∧MH la lb r na' nb'∧1≤na'∧na'≤la.length∧2≤nb'∧nb'≤lb.length∧na'+nb'<na+nb) ?s1 ?f1 ⟨q,na,nb,0,0,rfl,rfl,m,a1,a1',a2,a2',Nat.le_refl _⟩) ?p1)
  case f1 =>
   rintro c st' ⟨q',na',nb',ac,bc,rfl,rfl,m',b1,b1',b2,b2',b3⟩
   exact .inr ⟨q',na',nb',ac,bc,rfl,rfl,m',b1,b1',b2,b2',by lia⟩
  case s1 =>
   rintro y c st' _ hy ⟨q',na',nb',ac,bc,rfl,rfl,m',b1,b1',b2,b2',b3⟩
   dsimp only
   obtain ⟨na',rfl⟩:∃ k,na'=k+1:=⟨na' - 1,by lia⟩
   obtain ⟨nb',rfl⟩:∃ k,nb'=k+1:=⟨nb' - 1,by lia⟩
   rw[Nat.add_sub_cancel,Nat.add_sub_cancel]
   have ma:e la.toArray na'∈la:=eJ (by lia)
   have mb:e lb.toArray nb'∈lb:=eJ (by lia)
   refine wpS_bind (aP (by simp; lia) (wpS_bind (aP (by simp; lia) (wpS_bind (kY ha rfl (T.nb _ mb) (T.na _ ma) (fun z=>T.ne _ ma _ mb z.symm) ?_)))))
   dsimp only
   by_cases c:e lb.toArray nb'<e la.toArray na'
   ·rw[decide_eq_true c,if_pos rfl]
    refine wpS_bind (aP (by simp; lia) ?_)
    have m2:=m'.addA T.sa (k:=na') (by lia) b1' (by rw[cb (by lia)]; intro x hx y hy; rw[mem_singleton.mp hy]; exact dj T.sb (by lia) c x hx)
    rw[cb (by lia),singleton_append]at m2
    rw[jG,gm,ex0,ex0,ay,ay]
    by_cases c2:na'=0
    ·rw[if_pos (by simpa using c2)]
     subst c2
     exact wpS_pure (.inl ⟨g1,rfl,_,rfl,m2.endA T.sa T.sb hI⟩)
    rw[if_neg (by simpa using c2)]
    split
    ·exact wpS_pure (.inr ⟨_,_,_,_,_,rfl,rfl,m2,by lia,by lia,b2,b2',by lia⟩)
    ·exact wpS_pure ⟨_,_,_,_,_,rfl,rfl,m2,by lia,by lia,b2,b2',by lia⟩
   ·rw[decide_eq_false c,if_neg (by simp)]
    refine wpS_bind (aP (by simp; lia) ?_)
    have ne:=T.ne _ ma _ mb
    have m2:=m'.addB T.sb (k:=nb') (by lia) b2' (by rw[cb (by lia)]; intro x hx y hy; rw[mem_singleton.mp hy]; exact dj T.sa (by lia) (by lia) x hx)
    rw[cb (by lia),singleton_append]at m2
    rw[jG,gm,ex0,ex0,ay,ay]
    by_cases c2:nb'=1
    ·rw[if_pos (by simpa using c2)]
     subst c2
     exact wpS_pure (.inl ⟨g1,rfl,_,rfl,m2.endB T.sa T.sb (fw hf)⟩)
    rw[if_neg (by simpa using c2)]
    split
    ·exact wpS_pure (.inr ⟨_,_,_,_,_,rfl,rfl,m2,b1,b1',by lia,by lia,by lia⟩)
    ·exact wpS_pure ⟨_,_,_,_,_,rfl,rfl,m2,b1,b1',by lia,by lia,by lia⟩
  case p1 =>
   rintro c st' (⟨g',rfl,q',e1,hq⟩ | ⟨q',na',nb',ac,bc,rfl,rfl,m',b1,b1',b2,b2',b3⟩)
   ·obtain ⟨o,c⟩:=c
    dsimp only at e1 ⊢
    rw[e1]
    exact wpS_pure ⟨g',rfl,q',rfl,hq⟩
   dsimp only
   refine wpS_bind (wpS_lift (wpAny_rule ⟨rfl,?_⟩))
   refine wpS_bind (wpS_mono (wpS_forRange (I:=fun y c st'=>sE κ it p pd la lb (na+nb) c st') (Q:=fun c st'=>Told κ it p pd la lb st' c.1∨sE κ it p pd la lb (na+nb) c st') ?s2 ?f2 ⟨q',na',nb',_,g1,ac,bc,rfl,rfl,m',b1,b1',b2,b2',b3⟩) ?p2)
   case f2=>exact fun c st' z=>.inr z
   case s2 =>
    rintro y c st' _ hy ⟨q2,na2,nb2,g2,g3,ac,bc,rfl,rfl,m2,d1,d1',d2,d2',d3⟩
    dsimp only
    have go:∀ g,wpS (model prog w) A E s (hiG (la.toArray.map it) (lb.toArray.map it) (O it q2) na2 nb2 g ac bc) (fun r st'=>match r with | .done c'=>(Told κ it p pd la lb st' c'.1∨sE κ it p pd la lb (na+nb) c' st') | .yield c'=>sE κ it p pd la lb (na+nb) c' st') (S κ it p pd g3):=fun g =>
     vm ha T hf m2 d1 d1' d2 d2' (fun c st z=>.inl z) fun q3 ia3 ib3 ac3 bc3 f1 f2 f2' f3 f3' f4=>⟨.inr ⟨q3,ia3,ib3,g,g,ac3,bc3,rfl,rfl,f1,f2,f2',f3,f3',by lia⟩,q3,ia3,ib3,g,g,ac3,bc3,rfl,rfl,f1,f2,f2',f3,f3',by lia⟩
    by_cases cg:g2 > 1
    ·rw[if_pos cg]; exact wpS_mono (go (g2 - 1)) fun r st' z=>by cases r <;> exact z
    ·rw[if_neg cg]; exact wpS_mono (go g2) fun r st' z=>by cases r <;> exact z
   case p2 =>
    rintro c st' (⟨g',rfl,q',e1,hq⟩ | ⟨q2,na2,nb2,g2,g3,ac,bc,rfl,rfl,m2,d1,d1',d2,d2',d3⟩)
    ·obtain ⟨o,c⟩:=c
     dsimp only at e1 ⊢
     rw[e1]
     exact wpS_pure ⟨g',rfl,q',rfl,hq⟩
    dsimp only
    exact wpS_bind (gI (wpS_pure ⟨q2,na2,nb2,_,_,rfl,rfl,m2,d1,d1',d2,d2',by lia⟩))
end
def Runs(p:Array Nat):Nat→List (Nat×Nat×Nat)→Nat→Prop
 | lo,[],hi=>lo=hi
 | lo,x::r,hi=>x.1=lo∧1≤x.2.1∧Up p lo (lo+x.2.1)∧Runs p (lo+x.2.1) r hi
theorem Runs.le{p:Array Nat}:∀{l:List (Nat×Nat×Nat)}{lo hi:Nat},Runs p lo l hi→lo+l.length≤hi
 | [],lo,hi,h=>Nat.le_of_eq h
 | x::r,lo,hi,⟨h1,h2,h3,h4⟩=>by have:=Runs.le h4; rw[length_cons]; lia
theorem Runs.app{p:Array Nat}:∀{l m:List (Nat×Nat×Nat)}{lo hi:Nat},Runs p lo (l++m) hi↔∃ k,Runs p lo l k∧Runs p k m hi
 | [],m,lo,hi=>⟨fun h=>⟨lo,rfl,h⟩,fun ⟨k,e,h⟩=>by cases e; exact h⟩
 | x::r,m,lo,hi=>⟨fun ⟨h1,h2,h3,h4⟩=>by obtain ⟨k,a,b⟩:=Runs.app.mp h4; exact ⟨k,⟨h1,h2,h3,a⟩,b⟩,fun ⟨k,⟨h1,h2,h3,a⟩,b⟩=>⟨h1,h2,h3,Runs.app.mpr ⟨k,a,b⟩⟩⟩
theorem Up.congr{p p':Array Nat}{lo hi:Nat}(h:Up p lo hi)(e1:∀ k,lo≤k→k<hi→e p' k=e p k):Up p' lo hi:=fun i j hi' hij hj=>by
 rw[e1 i hi' (by lia),e1 j (by lia) hj]; exact h i j hi' hij hj
theorem Runs.congr{p p':Array Nat}:∀{l:List (Nat×Nat×Nat)}{lo hi:Nat},Runs p lo l hi→(∀ k,lo≤k→k<hi→e p' k=e p k)→Runs p' lo l hi
 | [],lo,hi,h,_=>h
 | x::r,lo,hi,⟨h1,h2,h3,h4⟩,e1=>⟨h1,h2,h3.congr fun k a b=>e1 k a (by have:=h4.le; lia),h4.congr fun k a b=>e1 k (by lia) b⟩
theorem kj{p:Array Nat}{i j x:Nat}(hj:j≤p.size)(hx:x<j - i):e ((p.toList.drop i).take (j - i)).toArray x=e p (i+x):=by
 unfold e
 simp[List.getElem?_take,hx]
theorem dY{p:Array Nat}{i j:Nat}(hj:j≤p.size):((p.toList.drop i).take (j - i)).length=j - i:=by
 rw[length_take,length_drop,Array.length_toList]; lia
theorem mj{p:Array Nat}{i j:Nat}(hj:j≤p.size)(h:Up p i j):((p.toList.drop i).take (j - i)).Pairwise (· < ·):=by
 rw[pairwise_iff_getElem]
 intro x y hx hy hxy
 rw[dY hj]at hx hy
 have:=h (i+x) (i+y) (by lia) (by lia) (by lia)
 rw[← kj hj hx,← kj hj hy]at this
 unfold e at this
 simpa[hx,hy,dY hj,show x<p.size - i by lia,show y<p.size - i by lia] using this
theorem dz{p:Array Nat}{i j y:Nat}(hj:j≤p.size)(h:y∈(p.toList.drop i).take (j - i)):∃ t,i≤t∧t<j∧y=e p t:=by
 obtain ⟨x,hx,rfl⟩:=List.mem_iff_getElem.mp h
 rw[dY hj]at hx
 refine ⟨i+x,by lia,by lia,?_⟩
 rw[← kj hj hx]
 unfold e
 simp[hx,show x<p.size - i by lia]
theorem pU{it:Nat→Keyed}(p:Array Nat)(i j:Nat):(p.map it).extract i j=((p.toList.drop i).take (j - i)).toArray.map it:=by
 apply Array.toList_inj.mp
 simp[map_take,map_drop]
theorem j5{α:Type}(s0:Nat):∀(C:List α) (o:Nat) (a:Array α),s0+o+C.length≤a.size→((C.zipIdx o).foldl (fun a (x:α×Nat)=>a.setIfInBounds (s0+x.2) x.1) a).toList=a.toList.take (s0+o)++C++a.toList.drop (s0+o+C.length)
 | [],o,a,h=>by simp
 | v::C,o,a,h=>by
  rw[length_cons]at h
  rw[List.zipIdx_cons,foldl_cons,j5 s0 C (o+1) _ (by simp; lia)]
  have hl:s0+o<a.toList.length:=by rw[Array.length_toList]; lia
  have e1:(a.setIfInBounds (s0+o) v).toList=a.toList.set (s0+o) v:=by simp
  rw[e1,show s0+(o+1)=s0+o+1 by lia,take_add_one,List.take_set_of_le (Nat.le_refl _)]
  rw[List.getElem?_set_self hl]
  rw[List.drop_set_of_lt (by lia)]
  simp only[Option.toList_some,append_assoc,singleton_append,length_cons]
  congr 3
  lia
def put(p:Array Nat)(i:Nat)(C:List Nat):Array Nat:=(p.toList.take i++C++p.toList.drop (i+C.length)).toArray
theorem xA{p:Array Nat}{i:Nat}{C:List Nat}(h:i+C.length≤p.size)(x:Nat):e (put p i C) x=if i≤x∧x<i+C.length then e C.toArray (x - i) else e p x:=by
 unfold e put
 have hi:(p.toList.take i).length=i:=by rw[length_take,Array.length_toList]; lia
 rw[List.getElem?_toArray,append_assoc]
 by_cases c1:x<i
 ·rw[if_neg (by lia),List.getElem?_append_left (by lia),List.getElem?_take,if_pos c1]
  simp
 ·rw[List.getElem?_append_right (by lia),hi]
  by_cases c2:x<i+C.length
  ·rw[if_pos (by lia),List.getElem?_append_left (by lia),List.getElem?_toArray]
  ·rw[if_neg (by lia),List.getElem?_append_right (by lia),List.getElem?_drop,show i+C.length+(x - i - C.length)=x by lia]
   simp
theorem sL{it:Nat→Keyed}{p:Array Nat}{i:Nat}{C:List Nat}(h:i+C.length≤p.size):(C.map it).toArray.toList.zipIdx.foldl (fun a (x:Keyed×Nat)=>a.setIfInBounds (i+x.2) x.1) (p.map it)=(put p i C).map it:=by
 apply Array.toList_inj.mp
 rw[toList_toArray,j5 i (C.map it) 0 (p.map it) (by simpa using h)]
 unfold put
 simp[map_take,map_drop]
theorem rA{n:Nat}{p:Array Nat}(hp:PV n p){i j k:Nat}{C:List Nat}(hij:i≤j)(hjk:j≤k)(hk:k≤p.size)(hC:C.Perm ((p.toList.drop i).take (j - i)++(p.toList.drop j).take (k - j))):PV n (put p i C)∧i+C.length=k:=by
 have hl:C.length=k - i:=by rw[hC.length_eq,length_append,dY (by lia),dY hk]; lia
 have e1:p.toList=p.toList.take i++((p.toList.drop i).take (j - i)++(p.toList.drop j).take (k - j))++p.toList.drop (i+C.length):=by
  have a1:(p.toList.drop j)=(p.toList.drop i).drop (j - i):=by rw[drop_drop,show i+(j - i)=j by lia]
  have a2:(p.toList.drop i).take (j - i)++(p.toList.drop j).take (k - j)=(p.toList.drop i).take (k - i):=by
   rw[a1,← take_add,show j - i+(k - j)=k - i by lia]
  rw[a2,hl]
  have a3:p.toList.drop (i+(k - i))=(p.toList.drop i).drop (k - i):=by rw[drop_drop]
  rw[a3,append_assoc,take_append_drop,take_append_drop]
 have pm:(put p i C).toList.Perm p.toList:=by
  refine List.Perm.trans ?_ (.of_eq e1.symm)
  exact (hC.append_left _).append_right _
 refine ⟨⟨?_,pm.trans hp.pm⟩,by lia⟩
 rw[← hp.sz,← Array.length_toList,pm.length_eq,Array.length_toList]
theorem jX(i:Nat):mergeAt' i=(do
 let s ← get
 let (some (sa,na,power),some (sb,nb,_)):=((pendingOf s)[i]?,(pendingOf s)[i+1]?) | unsupported "internal:list.sort.pending"
 set (SortSt.mk' (kindOf s) (arrOf s) (((pendingOf s).setIfInBounds i (sa,na+nb,power)).eraseIdxIfInBounds (i+1)) (gallopOf s) (failedOf s))
 let some k ← cG false (← elem' (arrOf s) sb) (arrOf s) sa na 0 | return false
 let (sa,na):=(sa+k,na - k)
 if na == 0 then return true
 let some nb ← cG true (← elem' (arrOf s) (sa+na - 1)) (arrOf s) sb nb (nb - 1) | return false
 if nb == 0 then return true
 let x:=(arrOf s).extract sa sb
 let y:=(arrOf s).extract sb (sb+nb)
 let merged ← if na≤nb then gQ x y else iw x y
 modify fun s=>setArr s (merged.toList.zipIdx.foldl (fun a (p,j)=>a.setIfInBounds (sa+j) p) (arrOf s))
 return (failedOf (← get)).isNone):=rfl
theorem uA{σ:Type}{M:Model}{A:Around}{E:Value→Shared→Prop}{s:Shared}{st st':σ}{Q:PUnit→σ→Prop}(h:Q ⟨⟩ st'):wpS M A E s (set st':StateT σ Sem PUnit) Q st:=by
 unfold wpS; rw[StateT.run_set]; exact wpAny_pure ⟨rfl,h⟩
section
variable {prog:Program}{w:World}{A:Around}{E:Value→Shared→Prop}{s:Shared}{κ:SortKind}{it:Nat→Keyed}{n:Nat}{p:Array Nat}
theorem oH{α:Type}(l1:List α)(x y z:α)(l2:List α):(((l1++x::y::l2).toArray.setIfInBounds l1.length z).eraseIdxIfInBounds (l1.length+1))=(l1++z::l2).toArray:=by
 apply Array.toList_inj.mp
 have h1:((l1++x::y::l2).toArray.setIfInBounds l1.length z)=(l1++z::y::l2).toArray:=by
  apply Array.toList_inj.mp
  simp
 rw[h1]
 unfold Array.eraseIdxIfInBounds
 rw[dif_pos (by simp)]
 simp[List.eraseIdx_append_of_length_le]
theorem lH(hc:eA prog w A s κ it n)(hp:PV n p){l1 l2:List (Nat×Nat×Nat)}{sa na sb nb pa pb g hi:Nat}{Q:Bool→SortSt→Prop}(hr:Runs p 0 (l1++(sa,na,pa)::(sb,nb,pb)::l2) hi)(hn:hi≤n)
  (h:∀ p' g',PV n p'→Runs p' 0 (l1++(sa,na+nb,pa)::l2) hi→(∀ k,hi≤k→e p' k=e p k)→Q true (S κ it p' (l1++(sa,na+nb,pa)::l2).toArray g')) :
  wpS (model prog w) A E s (mergeAt' l1.length) Q (S κ it p (l1++(sa,na,pa)::(sb,nb,pb)::l2).toArray g):=by
 obtain ⟨k0,hr1,e1,q1,u1,e2,q2,u2,hr2⟩:=Runs.app.mp hr
 dsimp only at e1 q1 u1 e2 q2 u2 hr2
 subst e1
 subst e2
 have hle:=hr2.le
 have hz:=hp.sz
 -- what is left to show of the new array
 have fin:∀ p' g',PV n p'→(∀ k,k<sa→e p' k=e p k)→(∀ k,sa+na+nb≤k→e p' k=e p k)→Up p' sa (sa+na+nb)→Q true (S κ it p' (l1++(sa,na+nb,pa)::l2).toArray g'):=fun p' g' hp' o1 o2 hu=>by
  refine h p' g' hp' (Runs.app.mpr ⟨sa,hr1.congr fun k _ hk=>o1 k hk,rfl,by show 1≤na+nb; lia,?_,?_⟩) fun k hk=>o2 k (by lia)
  ·show Up p' sa (sa+(na+nb)); rw[← Nat.add_assoc]; exact hu
  ·show Runs p' (sa+(na+nb)) l2 hi; rw[← Nat.add_assoc]; exact hr2.congr fun k hk _=>o2 k hk
 rw[jX]
 refine wpS_bind (wpS_get ?_)
 have g1:(pendingOf (S κ it p (l1++(sa,na,pa)::(sa+na,nb,pb)::l2).toArray g))[l1.length]? = some (sa,na,pa):=by
  show (l1++(sa,na,pa)::(sa+na,nb,pb)::l2).toArray[l1.length]? = _
  simp
 have g2:(pendingOf (S κ it p (l1++(sa,na,pa)::(sa+na,nb,pb)::l2).toArray g))[l1.length+1]? = some (sa+na,nb,pb):=by
  show (l1++(sa,na,pa)::(sa+na,nb,pb)::l2).toArray[l1.length+1]? = _
  simp[List.getElem?_append_right]
 rw[g1,g2]
 dsimp only
 refine wpS_bind (uA ?_)
 show wpS _ _ _ _ _ Q (SortSt.mk' κ (p.map it) (((l1++(sa,na,pa)::(sa+na,nb,pb)::l2).toArray.setIfInBounds l1.length (sa,na+nb,pa)).eraseIdxIfInBounds (l1.length+1)) g none)
 rw[oH]
 show wpS _ _ _ _ _ Q (S κ it p (l1++(sa,na+nb,pa)::l2).toArray g)
 have ea:arrOf (S κ it p (l1++(sa,na,pa)::(sa+na,nb,pb)::l2).toArray g)=p.map it:=rfl
 rw[ea]
 have bd:∀ k,k<n→e p k<n:=fun k hk=>hp.bd n hk
 have ne:∀ i j,i<n→j<n→i≠j→e p i≠e p j:=fun i j hi hj hij=>hp.ne n hi hj hij
 refine wpS_bind (aP (by lia) ?_)
 refine wpS_bind (dk hc rfl (bd _ (by lia)) (by lia) (fun i hi=>⟨bd _ (by lia),ne _ _ (by lia) (by lia) (by lia)⟩) u1 (by lia) fun k k1 k2 k3=>?_)
 dsimp only
 have low:∀ t,sa≤t→t<sa+k→e p t<e p (sa+na):=fun t a b=>by have:=k2 (t - sa) (by lia); rw[show sa+(t - sa)=t by lia]at this; exact this
 have high:∀ t,sa+k≤t→t<sa+na→e p (sa+na)<e p t:=fun t a b=>by have:=k3 (t - sa) (by lia) (by lia); rw[show sa+(t - sa)=t by lia]at this; exact this
 have from2:∀ t,sa+na≤t→t<sa+na+nb→e p (sa+na)≤e p t:=fun t a b=>by
  by_cases z:t=sa+na
  ·rw[z]; exact Nat.le_refl _
  ·exact Nat.le_of_lt (u2 _ _ (by lia) (by lia) b)
 by_cases c0:na - k=0
 ·rw[if_pos (by simpa using c0)]
  refine wpS_pure (fin p g hp (fun _ _=>rfl) (fun _ _=>rfl) fun i j hi hij hj=>?_)
  by_cases c1:j<sa+na
  ·exact u1 i j hi hij c1
  ·by_cases c2:i<sa+na
   ·exact Nat.lt_of_lt_of_le (low i hi (by lia)) (from2 j (by lia) (by lia))
   ·exact u2 i j (by lia) hij hj
 rw[if_neg (by simpa using c0)]
 have ek:sa+k+(na - k) - 1=sa+na - 1:=by lia
 refine wpS_bind (aP (by lia) ?_)
 rw[ek]
 refine wpS_bind (dk hc rfl (bd _ (by lia)) (by lia) (fun i hi=>⟨bd _ (by lia),ne _ _ (by lia) (by lia) (by lia)⟩) u2 (by lia) fun m m1 m2 m3=>?_)
 dsimp only
 have low2:∀ t,sa+na≤t→t<sa+na+m→e p t<e p (sa+na - 1):=fun t a b=>by have:=m2 (t - (sa+na)) (by lia); rw[show sa+na+(t - (sa+na))=t by lia]at this; exact this
 have high2:∀ t,sa+na+m≤t→t<sa+na+nb→e p (sa+na - 1)<e p t:=fun t a b=>by have:=m3 (t - (sa+na)) (by lia) (by lia); rw[show sa+na+(t - (sa+na))=t by lia]at this; exact this
 have upto:∀ t,sa≤t→t<sa+na→e p t≤e p (sa+na - 1):=fun t a b=>by
  by_cases z:t=sa+na - 1
  ·rw[z]; exact Nat.le_refl _
  ·exact Nat.le_of_lt (u1 _ _ a (by lia) (by lia))
 by_cases c1:m=0
 ·rw[if_pos (by simpa using c1)]
  refine wpS_pure (fin p g hp (fun _ _=>rfl) (fun _ _=>rfl) fun i j hi hij hj=>?_)
  by_cases c2:j<sa+na
  ·exact u1 i j hi hij c2
  ·by_cases c3:i<sa+na
   ·exact Nat.lt_of_le_of_lt (upto i hi c3) (high2 j (by lia) (by lia))
   ·exact u2 i j (by lia) hij hj
 rw[if_neg (by simpa using c1)]
 have s1:sa+na≤p.size:=by lia
 have s2:sa+na+m≤p.size:=by lia
 have la_len:=dY (p:=p) (i:=sa+k) s1
 have lb_len:=dY (p:=p) (i:=sa+na) s2
 have T:Two n ((p.toList.drop (sa+k)).take (sa+na - (sa+k))) ((p.toList.drop (sa+na)).take (sa+na+m - (sa+na))):=by
  refine ⟨mj s1 fun i j a b c=>u1 i j (by lia) b c,mj s2 fun i j a b c=>u2 i j a b (by lia),fun x hx=>?_,fun x hx=>?_,fun x hx y hy=>?_⟩
  ·obtain ⟨t,t1,t2,rfl⟩:=dz s1 hx; exact bd _ (by lia)
  ·obtain ⟨t,t1,t2,rfl⟩:=dz s2 hx; exact bd _ (by lia)
  ·obtain ⟨t,t1,t2,rfl⟩:=dz s1 hx
   obtain ⟨u,v1,v2,rfl⟩:=dz s2 hy
   exact ne _ _ (by lia) (by lia) (by lia)
 have hl:∀ y∈(p.toList.drop (sa+na)).take (sa+na+m - (sa+na)),y<e ((p.toList.drop (sa+k)).take (sa+na - (sa+k))).toArray (((p.toList.drop (sa+k)).take (sa+na - (sa+k))).length - 1):=fun y hy=>by
  obtain ⟨t,t1,t2,rfl⟩:=dz s2 hy
  rw[la_len,kj s1 (by lia),show sa+k+(sa+na - (sa+k) - 1)=sa+na - 1 by lia]
  exact low2 t t1 t2
 have hf:∀ x∈(p.toList.drop (sa+k)).take (sa+na - (sa+k)),e ((p.toList.drop (sa+na)).take (sa+na+m - (sa+na))).toArray 0<x:=fun x hx=>by
  obtain ⟨t,t1,t2,rfl⟩:=dz s1 hx
  rw[kj s2 (by lia)]
  exact high t t1 t2
 have hend:∀ C g',Fine ((p.toList.drop (sa+k)).take (sa+na - (sa+k))) ((p.toList.drop (sa+na)).take (sa+na+m - (sa+na))) C→Q true (S κ it (put p (sa+k) C) (l1++(sa,na+nb,pa)::l2).toArray g'):=fun C g' hC=>by
  obtain ⟨hp',hlen⟩:=rA hp (by lia) (by lia) s2 hC.1
  have ep:=xA (p:=p) (i:=sa+k) (C:=C) (by lia)
  have inC:∀ x,x<C.length→(∃ t,sa+k≤t∧t<sa+na∧e C.toArray x=e p t)∨∃ t,sa+na≤t∧t<sa+na+m∧e C.toArray x=e p t:=fun x hx=>by
   have:=hC.1.mem_iff.mp (eJ hx)
   rcases mem_append.mp this with z | z
   ·exact .inl (dz s1 z)
   ·exact .inr (dz s2 z)
  have uC:=mL hC.2
  refine fin _ g' hp' (fun t ht=>by rw[ep,if_neg (by lia)]) (fun t ht=>by rw[ep,if_neg (by lia)]) fun i j hi hij hj=>?_
  rw[ep,ep]
  by_cases i1:i<sa+k
  ·rw[if_neg (show ¬(sa+k≤i∧i<sa+k+C.length) by lia)]
   by_cases j1:j<sa+k
   ·rw[if_neg (by lia)]; exact u1 i j hi hij (by lia)
   ·by_cases j2:j<sa+k+C.length
    ·rw[if_pos (by lia)]
     rcases inC (j - (sa+k)) (by lia) with ⟨t,t1,t2,et⟩ | ⟨t,t1,t2,et⟩
     ·rw[et]; exact u1 i t hi (by lia) t2
     ·rw[et]; exact Nat.lt_of_lt_of_le (low i hi i1) (from2 t t1 (by lia))
    ·rw[if_neg (by lia)]
     exact Nat.lt_of_lt_of_le (low i hi i1) (from2 j (by lia) hj)
  ·by_cases i2:i<sa+k+C.length
   ·rw[if_pos (show sa+k≤i∧i<sa+k+C.length by lia)]
    by_cases j2:j<sa+k+C.length
    ·rw[if_pos (by lia)]
     exact uC _ _ (Nat.zero_le _) (by lia) (by lia)
    ·rw[if_neg (by lia)]
     rcases inC (i - (sa+k)) (by lia) with ⟨t,t1,t2,et⟩ | ⟨t,t1,t2,et⟩
     ·rw[et]; exact Nat.lt_of_le_of_lt (upto t (by lia) t2) (high2 j (by lia) hj)
     ·rw[et]; exact u2 t j t1 (by lia) hj
   ·rw[if_neg (show ¬(sa+k≤i∧i<sa+k+C.length) by lia),if_neg (by lia)]
    exact u2 i j (by lia) hij hj
 have back:∀ C g',Fine ((p.toList.drop (sa+k)).take (sa+na - (sa+k))) ((p.toList.drop (sa+na)).take (sa+na+m - (sa+na))) C →
   wpS (model prog w) A E s (do
    modify fun s=>setArr s ((C.map it).toArray.toList.zipIdx.foldl (fun a (x:Keyed×Nat)=>a.setIfInBounds (sa+k+x.2) x.1) (arrOf s))
    let s ← get
    pure (failedOf s).isNone) Q (S κ it p (l1++(sa,na+nb,pa)::l2).toArray g'):=fun C g' hC=>by
  obtain ⟨hp',hlen⟩:=rA hp (by lia) (by lia) s2 hC.1
  refine wpS_bind (wpS_modify (wpS_bind (wpS_get (wpS_pure ?_))))
  show Q true (SortSt.mk' κ ((C.map it).toArray.toList.zipIdx.foldl (fun a (x:Keyed×Nat)=>a.setIfInBounds (sa+k+x.2) x.1) (p.map it)) (l1++(sa,na+nb,pa)::l2).toArray g' none)
  rw[sL (by lia)]
  exact hend C g' hC
 rw[pU,pU]
 by_cases cm:na - k≤m
 ·rw[if_pos cm]
  refine wpS_bind (lW hc T hl (by lia) (by lia) (hf _ (eJ (by lia))) fun C g' hC=>back C g' hC)
 ·rw[if_neg cm]
  refine wpS_bind (lM hc T hl hf (by lia) (by lia) fun C g' hC=>back C g' hC)
end
section
variable {prog:Program}{w:World}{A:Around}{E:Value→Shared→Prop}{s:Shared}{κ:SortKind}{it:Nat→Keyed}{n:Nat}{p:Array Nat}
theorem wn{c:Prop}[Decidable c]{a b m:Nat}(h1:a≤m)(h2:b≤m):(if c then a else b)≤m:=by split <;> assumption
theorem vn{α:Type}{l:List α}{i:Nat}(h:i+1<l.length):∃ x y,l=l.take i++x::y::l.drop (i+2)∧(l.take i).length=i:=by
 refine ⟨l[i],l[i+1],?_,by rw[length_take]; lia⟩
 have h1:l.drop i=l[i]::l[i+1]::l.drop (i+2):=by rw[List.drop_eq_getElem_cons (by lia),List.drop_eq_getElem_cons h]
 rw[← h1,take_append_drop]
theorem ji(hc:eA prog w A s κ it n)(hp:PV n p){l:List (Nat×Nat×Nat)}{i g hi:Nat}{Q:Bool→SortSt→Prop}(hr:Runs p 0 l hi)(hn:hi≤n)(hil:i+1<l.length)
  (h:∀ p' l' g',PV n p'→Runs p' 0 l' hi→(∀ k,hi≤k→e p' k=e p k)→l'.length+1=l.length→Q true (S κ it p' l'.toArray g')) :
  wpS (model prog w) A E s (mergeAt' i) Q (S κ it p l.toArray g):=by
 obtain ⟨⟨sa,na,pa⟩,⟨sb,nb,pb⟩,e1,e2⟩:=vn hil
 have hlen:=congrArg List.length e1
 rw[length_append,length_cons,length_cons]at hlen
 generalize l.take i=l1 at e1 e2 hlen
 generalize l.drop (i+2)=l2 at e1 hlen
 subst e2
 subst e1
 refine lH hc hp hr hn fun p' g' a b c=>h p' _ g' a b c ?_
 rw[length_append,length_append,length_cons,length_cons,length_cons]
 lia
theorem Runs.like{p:Array Nat}:∀{l l':List (Nat×Nat×Nat)}{lo hi:Nat},Runs p lo l hi→l'.map (fun x=>(x.1,x.2.1))=l.map (fun x=>(x.1,x.2.1))→Runs p lo l' hi
 | [],[],lo,hi,h,_=>h
 | [],y::r,lo,hi,h,q=>by simp at q
 | x::r,[],lo,hi,h,q=>by simp at q
 | x::r,y::r',lo,hi,⟨h1,h2,h3,h4⟩,q=>by
  rw[map_cons,map_cons,List.cons.injEq,Prod.mk.injEq]at q
  obtain ⟨⟨q1,q2⟩,q3⟩:=q
  refine ⟨q1.trans h1,by rw[q2]; exact h2,by rw[q2]; exact h3,by rw[q2]; exact h4.like q3⟩
theorem kc(l:List (Nat×Nat×Nat))(i pw:Nat):(l.modify i fun (x:Nat×Nat×Nat)=>(x.1,x.2.1,pw)).map (fun x=>(x.1,x.2.1))=l.map (fun x=>(x.1,x.2.1)):=by
 apply List.ext_getElem?
 intro k
 rw[List.getElem?_map,List.getElem?_map,List.getElem?_modify]
 cases l[k]? with
 | none=>rfl
 | some x=>by_cases c:i=k <;> simp[c]
def fo(κ:SortKind)(it:Nat→Keyed)(n lo:Nat)(st:SortSt)(p:Array Nat)(l:List (Nat×Nat×Nat)):Prop:=∃ g,st=S κ it p l.toArray g∧PV n p∧Runs p 0 l lo
theorem ky(hc:eA prog w A s κ it n)(hp:PV n p)(hn:1≤n){g:Nat}{Q:Unit→SortSt→Prop}(h:∀ p' pd g',PV n p'→Up p' 0 n→Q () (S κ it p' pd g')) :
  wpS (model prog w) A E s sortRuns' Q (S κ it p #[] g):=by
 rw[sortRuns'_eq]
 refine wpS_bind (wpS_get ?_)
 have esz:(arrOf (S κ it p #[] g)).size=n:=by show (p.map it).size=n; rw[Array.size_map]; exact hp.sz
 dsimp only
 rw[esz]
 generalize minRun' n n 0=mr
 refine wpS_bind (wpS_mono (wpS_forRange (I:=fun x c st'=>∃ lo p' l,c=(none,lo)∧fo κ it n lo st' p' l∧lo≤n∧(x≤lo∨lo=n)) (Q:=fun c st'=>∃ p' l,c=(none,n)∧fo κ it n n st' p' l) ?step ?fin ⟨0,p,[],rfl,⟨g,rfl,hp,rfl⟩,Nat.zero_le _,.inl (Nat.le_refl _)⟩) ?post)
 case fin =>
  rintro c st' ⟨lo,p',l,rfl,hs,h1,h2⟩
  obtain rfl:lo=n:=by lia
  exact ⟨p',l,rfl,hs⟩
 case step =>
  rintro x c st' _ hx ⟨lo,p',l,rfl,⟨g',rfl,hp',hr⟩,h1,h2⟩
  dsimp only
  by_cases c:lo ≥ n
  ·rw[if_pos c]
   obtain rfl:lo=n:=by lia
   exact wpS_pure ⟨p',l,rfl,g',rfl,hp',hr⟩
  rw[if_neg c]
  refine wpS_bind (se hc hp' (by lia) (by lia) fun m p2 hp2 m1 m2 hu hk=>?_)
  dsimp only
  have hr2:Runs p2 0 l lo:=hr.congr fun k _ hk'=>hk k hk'
  have add:∀{m} {p4 l4 g4},1≤m→m≤n - lo→PV n p4→Runs p4 0 l4 lo→Up p4 lo (lo+m)→∃ lo' p' l,((none,lo+m):Option Unit×Nat)=(none,lo')∧fo κ it n lo' (setPending (S κ it p4 l4.toArray g4) ((pendingOf (S κ it p4 l4.toArray g4)).push (lo,m,0))) p' l∧lo'≤n∧(x+1≤lo'∨lo'=n):=fun {m p4 l4 g4} m1 m2 a b c =>
   ⟨_,p4,l4++[(lo,m,0)],rfl,⟨g4,by show SortSt.mk' κ (p4.map it) (l4.toArray.push (lo,m,0)) g4 none=SortSt.mk' κ (p4.map it) (l4++[(lo,m,0)]).toArray g4 none; simp,a,Runs.app.mpr ⟨lo,b,rfl,m1,c,rfl⟩⟩,by lia,by lia⟩
  by_cases cm:m<mr
  case' pos =>
   rw[if_pos cm]
   refine wpS_bind (wpS_lift (wpAny_rule ⟨rfl,?_⟩))
   refine wpS_bind (pA hc hp2 (by lia) (by lia) m1 hu fun p3 hp3 hu3 hk3=>?_)
   simp only[Bool.not_true,Bool.false_eq_true,if_false]
   have hr3:Runs p3 0 l lo:=hr2.congr fun k _ hk'=>hk3 k hk'
   have m3:1≤min (n - lo) mr:=by lia
   have m4:min (n - lo) mr≤n - lo:=by lia
   obtain ⟨m',hm'⟩:∃ m',m'=min (n - lo) mr:=⟨_,rfl⟩
   rw[← hm']at hu3 m3 m4 ⊢
  case' neg =>
   rw[if_neg cm]
   have hp3:=hp2
   have hr3:=hr2
   have hu3:=hu
   have m3:=m1
   have m4:=m2
   obtain ⟨m',hm'⟩:∃ m',m'=m:=⟨_,rfl⟩
   rw[← hm']at hu3 m3 m4 ⊢
  all_goals
   refine wpS_bind (wpS_get ?_)
   cases hb:(pendingOf (S κ it _ l.toArray g')).back? with
   | none=>exact wpS_bind (wpS_modify (wpS_pure (add m3 m4 hp3 hr3 hu3)))
   | some y =>
    obtain ⟨s1,n1,z⟩:=y
    dsimp only
    generalize power' n (2*s1+n1) (2*s1+n1+n1+m') n=pw
    refine wpS_bind (wpS_mono (wpS_forRange (I:=fun _ c st'=>c=(none,())∧∃ p' l',fo κ it n lo st' p' l'∧Up p' lo (lo+m')) (Q:=fun c st'=>c=(none,())∧∃ p' l',fo κ it n lo st' p' l'∧Up p' lo (lo+m')) ?s1 ?f1 ⟨rfl,_,l,⟨g',rfl,hp3,hr3⟩,hu3⟩) ?p1)
    case f1=>exact fun c st' z=>z
    case s1 =>
     rintro x c st' _ hx ⟨rfl,p4,l4,⟨g4,rfl,hp4,hr4⟩,hu4⟩
     refine wpS_bind (wpS_get ?_)
     have es:(pendingOf (S κ it p4 l4.toArray g4)).size=l4.length:=by show l4.toArray.size=_; simp
     rw[es]
     by_cases cs:l4.length > 1
     ·rw[if_pos cs]
      have eg:(pendingOf (S κ it p4 l4.toArray g4))[l4.length - 2]? = some (l4[l4.length - 2]'(by lia)):=by show l4.toArray[l4.length - 2]? = _; simp
      rw[eg]
      obtain ⟨a1,a2,older⟩:=l4[l4.length - 2]'(by lia)
      dsimp only
      by_cases co:older≤pw
      ·rw[if_pos co]
       exact wpS_pure ⟨rfl,p4,l4,⟨g4,rfl,hp4,hr4⟩,hu4⟩
      rw[if_neg co]
      refine wpS_bind (ji hc hp4 hr4 h1 (by lia) fun p5 l5 g5 b1 b2 b3 b4=>?_)
      exact wpS_pure ⟨rfl,p5,l5,⟨g5,rfl,b1,b2⟩,hu4.congr fun k hk _=>b3 k hk⟩
     ·rw[if_neg cs]
      exact wpS_pure ⟨rfl,p4,l4,⟨g4,rfl,hp4,hr4⟩,hu4⟩
    case p1 =>
     rintro c st' ⟨rfl,p4,l4,⟨g4,rfl,hp4,hr4⟩,hu4⟩
     dsimp only
     refine wpS_bind (wpS_modify ?_)
     have em:setPending (S κ it p4 l4.toArray g4) ((pendingOf (S κ it p4 l4.toArray g4)).modify ((pendingOf (S κ it p4 l4.toArray g4)).size - 1) fun (x:Nat×Nat×Nat)=>(x.1,x.2.1,pw))=S κ it p4 (l4.modify (l4.length - 1) fun (x:Nat×Nat×Nat)=>(x.1,x.2.1,pw)).toArray g4:=by
      show SortSt.mk' κ (p4.map it) (l4.toArray.modify (l4.toArray.size - 1) _) g4 none=SortSt.mk' κ (p4.map it) _ g4 none
      congr 1
      simp
     show wpS _ _ _ _ _ _ (setPending (S κ it p4 l4.toArray g4) ((pendingOf (S κ it p4 l4.toArray g4)).modify ((pendingOf (S κ it p4 l4.toArray g4)).size - 1) fun (x:Nat×Nat×Nat)=>(x.1,x.2.1,pw)))
     rw[em]
     exact wpS_bind (wpS_modify (wpS_pure (add m3 m4 hp4 (hr4.like (kc _ _ _)) hu4)))
 case post =>
  rintro c st' ⟨p',l,rfl,g',rfl,hp',hr⟩
  dsimp only
  refine wpS_bind (wpS_mono (wpS_forRange (I:=fun x c st'=>c=(none,())∧∃ p' l,fo κ it n n st' p' l∧(l.length+x≤n∨l.length≤1)) (Q:=fun c st'=>c=(none,())∧∃ p' l,fo κ it n n st' p' l∧l.length≤1) ?s1 ?f1 ⟨rfl,p',l,⟨g',rfl,hp',hr⟩,.inl (by have:=hr.le; lia)⟩) ?p1)
  case f1 =>
   rintro c st' ⟨rfl,p',l,hs,hl⟩
   exact ⟨rfl,p',l,hs,by lia⟩
  case s1 =>
   rintro x c st' _ hx ⟨rfl,p4,l4,⟨g4,rfl,hp4,hr4⟩,hl⟩
   refine wpS_bind (wpS_get ?_)
   have es:(pendingOf (S κ it p4 l4.toArray g4)).size=l4.length:=by show l4.toArray.size=_; simp
   rw[es]
   by_cases cs:l4.length≤1
   ·rw[if_pos cs]
    exact wpS_pure ⟨rfl,p4,l4,⟨g4,rfl,hp4,hr4⟩,cs⟩
   rw[if_neg cs]
   have go:∀ i,i+1<l4.length→wpS (model prog w) A E s (do
     let __x ← mergeAt' i
     if (!__x)=true then pure (ForInStep.done (some (),())) else pure (ForInStep.yield (none,()))) (fun r st'=>match r with | .done c'=>(c'=((none,()):Option Unit×Unit)∧∃ p' l,fo κ it n n st' p' l∧l.length≤1) | .yield c'=>(c'=(none,())∧∃ p' l,fo κ it n n st' p' l∧(l.length+(x+1)≤n∨l.length≤1))) (S κ it p4 l4.toArray g4):=fun i hi=>by
    refine wpS_bind (ji hc hp4 hr4 (Nat.le_refl _) hi fun p5 l5 g5 b1 b2 b3 b4=>?_)
    exact wpS_pure ⟨rfl,p5,l5,⟨g5,rfl,b1,b2⟩,by lia⟩
   refine wpS_mono (go _ ?_) fun r st' z=>by cases r <;> exact z
   exact Nat.lt_of_le_of_lt (Nat.succ_le_succ (wn (m:=l4.length - 2) (by lia) (Nat.le_refl _))) (by lia)
  case p1 =>
   rintro c st' ⟨rfl,p4,l4,⟨g4,rfl,hp4,hr4⟩,hl⟩
   refine wpS_pure (h p4 _ g4 hp4 ?_)
   match l4,hr4,hl with
   | [],hr4,_=>exact absurd (show 0=n from hr4) (by lia)
   | [y],⟨a1,a2,a3,a4⟩,_ =>
    have a4:0+y.2.1=n:=a4
    rw[a4]at a3
    exact a3
   | _::_::_,_,hl=>exact absurd hl (by simp)
end
structure Tot(lt:Nat→Nat→Bool)(n:Nat):Prop where
 asy:∀ i j,i<n→j<n→lt i j=true→lt j i=false
 tr:∀ i j k,i<n→j<n→k<n→lt i j=true→lt j k=true→lt i k=true
 tot:∀ i j,i<n→j<n→i≠j→lt i j=false→lt j i=true
def ins(lt:Nat→Nat→Bool)(x:Nat):List Nat→List Nat
 | []=>[x]
 | y::r=>if lt x y=true then x::y::r else y::ins lt x r
def ordT(lt:Nat→Nat→Bool)(l:List Nat):List Nat:=l.foldr (ins lt) []
theorem iD{lt:Nat→Nat→Bool}{x:Nat}:∀ l:List Nat,(ins lt x l).Perm (x::l)
 | []=>.refl _
 | y::r=>by
  unfold ins
  split
  ·exact .refl _
  ·exact ((iD r).cons y).trans (.swap x y r)
theorem ordT_perm{lt:Nat→Nat→Bool}:∀ l:List Nat,(ordT lt l).Perm l
 | []=>.refl _
 | x::r=>(iD _).trans ((ordT_perm r).cons x)
theorem rX{lt:Nat→Nat→Bool}{n x:Nat}(T:Tot lt n)(hx:x<n):∀ l:List Nat,(∀ y∈l,y<n)→x ∉ l→l.Pairwise (fun i j=>lt i j=true)→(ins lt x l).Pairwise (fun i j=>lt i j=true)
 | [],_,_,_=>pairwise_singleton _ _
 | y::r,hl,hn,hp=>by
  have hy:=hl y (mem_cons_self ..)
  obtain ⟨h1,h2⟩:=pairwise_cons.mp hp
  unfold ins
  split
  ·rename_i c
   refine pairwise_cons.mpr ⟨fun z hz=>?_,hp⟩
   rcases mem_cons.mp hz with rfl | hz
   ·exact c
   ·exact T.tr _ _ _ hx hy (hl z (mem_cons_of_mem _ hz)) c (h1 z hz)
  ·rename_i c
   refine pairwise_cons.mpr ⟨fun z hz=>?_,rX T hx r (fun z hz=>hl z (mem_cons_of_mem _ hz)) (fun z=>hn (mem_cons_of_mem _ z)) h2⟩
   rcases mem_cons.mp ((iD r).mem_iff.mp hz) with rfl | hz
   ·exact T.tot _ _ hx hy (fun e=>hn (e ▸ mem_cons_self ..)) (by simpa using c)
   ·exact h1 z hz
theorem ordT_pw{lt:Nat→Nat→Bool}{n:Nat}(T:Tot lt n):∀ l:List Nat,(∀ y∈l,y<n)→l.Nodup→(ordT lt l).Pairwise (fun i j=>lt i j=true)
 | [],_,_=>.nil
 | x::r,hl,hn=>by
  obtain ⟨h1,h2⟩:=nodup_cons.mp hn
  refine rX T (hl x (mem_cons_self ..)) _ (fun y hy=>hl y (mem_cons_of_mem _ ((ordT_perm r).mem_iff.mp hy))) (fun z=>h1 ((ordT_perm r).mem_iff.mp z)) (ordT_pw T r (fun y hy=>hl y (mem_cons_of_mem _ hy)) h2)
theorem wj{l:List Nat}(h:l.Nodup){k:Nat}(hk:k<l.length):l.idxOf l[k]=k:=by
 have h1:l.idxOf l[k]<l.length:=List.idxOf_lt_length_iff.mpr (getElem_mem _)
 have h2:l[l.idxOf l[k]]=l[k]:=List.getElem_idxOf h1
 have pw:=pairwise_iff_getElem.mp h
 rcases Nat.lt_trichotomy (l.idxOf l[k]) k with c | c | c
 ·exact absurd h2 (pw _ _ h1 hk c)
 ·exact c
 ·exact absurd h2.symm (pw _ _ hk h1 c)
section
variable {prog:Program}{w:World}{A:Around}{E:Value→Shared→Prop}{s:Shared}{κ:SortKind}{lt:Nat→Nat→Bool}{n:Nat}
theorem wp_many{item:Nat→Keyed}(T:Tot lt n)(hn:1≤n)(ha:∀ i j,i<n→j<n→i≠j→∀ Q:Bool→Shared→Prop,Q (lt i j) s→wpAny (model prog w) A (keyLt' κ (item i).1 (item j).1) Q (fun _ _=>False) s){Q:Unit→SortSt→Prop}
  (h:∀ st,arrOf st=((ordT lt (List.range n)).map item).toArray→failedOf st=none→Q () st) :
  wpS (model prog w) A E s sortRuns' Q (SortSt.mk' κ ((List.range n).map item).toArray #[] 7 none):=by
 have op:=ordT_perm (lt:=lt) (List.range n)
 have ol:(ordT lt (List.range n)).length=n:=by rw[op.length_eq,length_range]
 have ond:(ordT lt (List.range n)).Nodup:=op.nodup_iff.mpr nodup_range
 have opw:=ordT_pw T (List.range n) (fun y hy=>mem_range.mp hy) nodup_range
 have hlt:∀ y∈ordT lt (List.range n),y<n:=fun y hy=>mem_range.mp (op.mem_iff.mp hy)
 generalize ordT lt (List.range n)=o at op ol ond opw hlt h
 have og:∀ k,k<n→∃ hk:k<o.length,o.getD k 0=o[k]:=fun k hk=>⟨by omega,by simp[List.getD,show k<o.length by omega]⟩
 have hc:eA prog w A s κ (fun k=>item (o.getD k 0)) n:=fun i j hi hj hne Q hq=>by
  obtain ⟨hi',ei⟩:=og i hi
  obtain ⟨hj',ej⟩:=og j hj
  refine ha _ _ ?_ ?_ ?_ Q ?_
  ·rw[ei]; exact hlt _ (getElem_mem _)
  ·rw[ej]; exact hlt _ (getElem_mem _)
  ·rw[ei,ej]
   intro z
   rcases Nat.lt_or_gt_of_ne hne with c | c
   ·exact pairwise_iff_getElem.mp ond _ _ hi' hj' c z
   ·exact pairwise_iff_getElem.mp ond _ _ hj' hi' c z.symm
  ·rw[ei,ej]
   rcases Nat.lt_or_gt_of_ne hne with c | c
   ·rw[pairwise_iff_getElem.mp opw _ _ hi' hj' c]
    rw[decide_eq_true c]at hq
    exact hq
   ·rw[T.asy _ _ (hlt _ (getElem_mem _)) (hlt _ (getElem_mem _)) (pairwise_iff_getElem.mp opw _ _ hj' hi' c)]
    rw[decide_eq_false (by omega)]at hq
    exact hq
 have eo:o.map (fun i=>o.idxOf i)=List.range n:=by
  refine ext_getElem (by rw[length_map,length_range,ol]) fun k h1 h2=>?_
  rw[getElem_map,getElem_range]
  exact wj ond (by rw[length_map]at h1; exact h1)
 have hp:PV n ((List.range n).map fun i=>o.idxOf i).toArray:=by
  refine ⟨by simp,?_⟩
  rw[toList_toArray]
  exact (op.symm.map fun i=>o.idxOf i).trans (.of_eq eo)
 have em:((List.range n).map item).toArray=((List.range n).map fun i=>o.idxOf i).toArray.map (fun k=>item (o.getD k 0)):=by
  apply Array.toList_inj.mp
  rw[Array.toList_map,toList_toArray,toList_toArray,map_map]
  refine map_congr_left fun i hi=>?_
  have hm:i∈o:=op.mem_iff.mpr hi
  have h1:o.idxOf i<o.length:=List.idxOf_lt_length_iff.mpr hm
  show item i=item (o.getD (o.idxOf i) 0)
  rw[List.getD,List.getElem?_eq_getElem h1,Option.getD_some,List.getElem_idxOf h1]
 rw[em]
 refine ky hc hp hn fun p' pd g' hp' hu=>h _ ?_ rfl
 show p'.map (fun k=>item (o.getD k 0))=(o.map item).toArray
 have ep:p'.toList=List.range n:=by
  have pw:p'.toList.Pairwise (· < ·):=by
   have:=mj (p:=p') (i:=0) (j:=n) (by rw[hp'.sz]; exact Nat.le_refl _) hu
   rw[Nat.sub_zero,List.drop_zero,take_of_length_le (by rw[Array.length_toList,hp'.sz]; exact Nat.le_refl _)]at this
   exact this
  exact hp'.pm.eq_of_pairwise (le:=(· < ·)) (fun a b _ _ h1 h2=>absurd (Nat.lt_trans h1 h2) (Nat.lt_irrefl _)) pw List.pairwise_lt_range
 apply Array.toList_inj.mp
 rw[Array.toList_map,ep,toList_toArray]
 refine ext_getElem (by rw[length_map,length_range,length_map,ol]) fun k h1 h2=>?_
 rw[getElem_map,getElem_range,getElem_map]
 rw[length_map]at h2
 simp[List.getD,h2]
end
end TS
namespace L2
open PySem PySem.Spec PyProof.Rows PySem.W
def ee(lt:Nat→Nat→Bool)(n:Nat):List Nat:=if n<64 then ord lt n else TS.ordT lt (List.range n)
theorem fT{lt:Nat→Nat→Bool}{n:Nat}(T:WSrt.Wk lt n):(ee lt n).Perm (List.range n):=by
 unfold ee
 split
 ·exact qz T
 ·exact TS.ordT_perm _
theorem jW{lt:Nat→Nat→Bool}{n:Nat}(T:WSrt.Wk lt n)(h64:n<64∨TS.Tot lt n):(ee lt n).Pairwise fun i j=>lt j i=false:=by
 unfold ee
 split
 ·exact tP T
 ·rename_i c
  have U:=h64.resolve_left c
  have h:=TS.ordT_pw U (List.range n) (fun y hy=>mem_range.mp hy) nodup_range
  have hm:∀ y∈TS.ordT lt (List.range n),y<n:=fun y hy=>mem_range.mp ((TS.ordT_perm _).mem_iff.mp hy)
  exact h.imp_of_mem fun {a b} ha hb q=>U.asy _ _ (hm _ ha) (hm _ hb) q
section
variable {prog:Program}{w:World}{A:Around}{E:Value→Shared→Prop}{s:Shared}{κ:SortKind}{lt:Nat→Nat→Bool}
theorem wd{ks vs:List Value}(hl:ks.length=vs.length)(h2:2≤vs.length)(T:WSrt.Wk lt vs.length)(h64:vs.length<64∨TS.Tot lt vs.length)
  (ha:∀ i j,i<vs.length→j<vs.length→i≠j→∀ C,C (lt i j) s→kas_ask prog w A κ ks i j C s){Q:Unit×SortSt→Shared→Prop}
  (h:∀ st,(arrOf st).map (·.2)=List.toArray ((ee lt vs.length).map fun i=>vs.getD i Value.none)→failedOf st=none→Q ((),st) s) :
  wpAny (model prog w) A ((sortRuns').run (SortSt.mk' κ (ks.toArray.zip vs.toArray) #[] 7 none)) Q E s:=by
 by_cases c:vs.length<64
 ·obtain ⟨p,hp1,hp2,hp3⟩:=WSrt.run_sort lt vs.length T h2
  refine wpAny_mono (kat_run (ks:=ks) (vs:=vs) (Q:=fun st' s3=>s3=s∧arrOf st'=p.map (kas_item (ks.toArray.zip vs.toArray))∧failedOf st'=none) (G:=fun p' s3=>p'=p∧s3=s)
   hl h2 c (fun p' st' s3 z1 z2 z3 z4=>⟨z4.2,by rw[z2,z4.1],z3⟩) (WSrt.wp_run lt vs.length (fun i j hi hj hn C hC=>ha i j hi hj hn C hC) _ (WSrt.In_sort lt vs.length T h2) ⟨hp1,rfl⟩)) ?_ fun _ _ z=>z
  rintro ⟨⟨⟩,st'⟩ s3 ⟨rfl,har,hf⟩
  refine h st' ?_ hf
  rw[kat_snds hl har]
  unfold ee ord
  rw[if_pos c,if_pos h2,hp1]
 ·have hz:(ks.toArray.zip vs.toArray).size=vs.length:=by simp[hl]
  have est:SortSt.mk' κ (ks.toArray.zip vs.toArray) #[] 7 none=SortSt.mk' κ ((List.range vs.length).map (kas_item (ks.toArray.zip vs.toArray))).toArray #[] 7 none:=by
   have e:=kas_range (ks.toArray.zip vs.toArray)
   rw[hz]at e
   rw[← List.map_toArray,e]
  rw[est]
  refine wpAny_mono (TS.wp_many (E:=E) (Q:=fun _ st=>Q ((),st) s) (item:=kas_item (ks.toArray.zip vs.toArray)) (h64.resolve_left c) (by lia) (fun i j hi hj hn Q' hq=>?_) fun st har hf=>h st ?_ hf) ?_ fun _ _ z=>z
  ·rw[kat_item hl,kat_item hl]
   exact ha i j hi hj hn Q' hq
  ·have:=kat_snds hl (st:=st) (p:=(TS.ordT lt (List.range vs.length)).toArray) (by rw[har,List.map_toArray])
   rw[this]
   unfold ee
   rw[if_neg c]
  ·rintro ⟨⟨⟩,st'⟩ s3 ⟨rfl,hq⟩
   exact hq
theorem ny{a:Addr}{vs:List Value}{m:Nat}{κ:SortKind}{lt:Nat→Nat→Bool}{P:PySem.Fin→Shared→Prop}(ho:s.heap.get? a=some (seqObj "list" vs.toArray m))(T:WSrt.Wk lt vs.length)(hz:vs.length<16000000)(h64:vs.length<64∨TS.Tot lt vs.length)
  (hk:2≤vs.length→∀ g,(∀ b o,b≠a→s.heap.get? b=some o→g.get? b=some o)→∀ Q:SortKind→Shared→Prop,Q κ { s with heap:=g }→wpAny (model prog w) A (keyKind' vs.toArray) Q (fun _ _=>False) { s with heap:=g })
  (ha:∀ g,(∀ b o,b≠a→s.heap.get? b=some o→g.get? b=some o)→∀ i j,i<vs.length→j<vs.length→i≠j→∀ C,C (lt i j) { s with heap:=g }→kas_ask prog w A κ vs i j C { s with heap:=g })
  (h:P (.done (.ret .none)) { s with heap:=sortedHeap s.heap a vs (List.toArray ((ee lt vs.length).map fun i=>vs.getD i Value.none)) }) :
  wpAny (model prog w) A (Builtin.«list.sort» ⟨[.ref a],[]⟩) P E s:=by
 rw[list_sort_plain]
 have hlt:a<s.heap.objs.size:=Heap.lt_size ho
 refine wpAny_bind (listItems_at ho rfl (wpAny_bind (listUpdate_at ho rfl ?_)))
 obtain ⟨c1,ho1⟩:∃ c1,(s.heap.update a (Obj.mapSeq fun _=>(#[]:Array Value))).get? a=some (seqObj "list" #[] c1):=⟨_,get?_update_seq ho fun _=>#[]⟩
 refine wpAny_bind (seqEpoch_at ho1 rfl (wpAny_bind (wpAny_newTuple (wpAny_bind (wpAny_newList (wpAny_holding ?_))))))
 have ho6:(((s.heap.update a (Obj.mapSeq fun _=>(#[]:Array Value))).push (seqObj "tuple" vs.toArray 0)).push (seqObj "list" #[] 0)).get? a=some (seqObj "list" #[] c1):=Heap.get?_push_of_some _ (Heap.get?_push_of_some _ ho1)
 have keep:∀ b o,b≠a→s.heap.get? b=some o→(((s.heap.update a (Obj.mapSeq fun _=>(#[]:Array Value))).push (seqObj "tuple" vs.toArray 0)).push (seqObj "list" #[] 0)).get? b=some o:=fun b o hb e=>Heap.get?_push_of_some _ (Heap.get?_push_of_some _ (by rw[Heap.get?_update_ne _ _ _ _ hb]; exact e))
 show wpAny (model prog w) A _ P E { s with heap:=((s.heap.update a (Obj.mapSeq fun _=>(#[]:Array Value))).push (seqObj "tuple" vs.toArray 0)).push (seqObj "list" #[] 0) }
 dsimp only
 by_cases h2:vs.toArray.size<2
 ·rw[if_pos h2,if_pos h2]
  refine wpAny_bind (wpAny_pure ?_); rw[StateT.run_pure]; refine wpAny_bind (wpAny_pure ?_); dsimp only
  refine wpAny_bind (seqEpoch_at ho6 rfl (wpAny_bind (listUpdate_at ho6 rfl ?_ (hsz2:=by rw[Array.size_map]; show (pairsOf vs).size≤_; rw[pairsOf_size,sizeLine_eq]; lia))))
  simp only[bne_self_eq_false,Bool.false_eq_true,if_false]
  have hv:vs.length<2:=by simpa using h2
  have eb:ee lt vs.length=List.range vs.length:=by unfold ee ord; rw[if_pos (by lia),if_neg (by lia)]
  rw[eb]at h
  have est:=kas_range (vs.toArray.zip vs.toArray)
  rw[show (vs.toArray.zip vs.toArray).size=vs.length by simp]at est
  have har:arrOf (SortSt.mk' general' (vs.toArray.zip vs.toArray) #[] 7 none)=(List.toArray (List.range vs.length)).map (kas_item (vs.toArray.zip vs.toArray)):=est.symm
  have eo:=(kat_snds (ks:=vs) rfl har).symm
  rw[show (List.range vs.length).map (fun i=>vs.getD i Value.none)=(List.toArray (List.range vs.length)).toList.map (fun i=>vs.getD i Value.none) from rfl,eo]at h
  exact wpAny_pure h
 ·rw[if_neg h2,if_neg h2]
  have hv:2≤vs.length:=by simpa using h2
  refine wpAny_bind (wpAny_mono (hk hv _ keep (fun κ' s'=>κ'=κ∧s'={ s with heap:=((s.heap.update a (Obj.mapSeq fun _=>(#[]:Array Value))).push (seqObj "tuple" vs.toArray 0)).push (seqObj "list" #[] 0) }) ⟨rfl,rfl⟩) (fun κ' s0 hs=>?_) fun _ _ z=>z.elim)
  obtain ⟨rfl,rfl⟩:=hs
  refine wpAny_bind (wd rfl hv T h64 (fun i j hi hj hn C hC=>ha _ keep i j hi hj hn C hC) fun st' hout hf=>?_)
  dsimp only
  have hsz:(List.toArray ((ee lt vs.length).map fun i=>vs.getD i Value.none)).size=vs.length:=by rw[size_toArray,length_map,(fT T).length_eq,length_range]
  rw[hout]
  refine wpAny_bind (seqEpoch_at ho6 rfl (wpAny_bind (listUpdate_at ho6 rfl ?_ (hsz2:=Nat.le_trans (Nat.le_of_eq hsz) (by rw[sizeLine_eq]; lia)))))
  rw[hf]
  simp only[bne_self_eq_false,Bool.false_eq_true,if_false]
  exact wpAny_pure h
end
section
variable {X:Cx}{pins:List (Addr×Obj)}{σ:St}{H:Hp}{s:Shared}{κ:SortKind}{lt:Nat→Nat→Bool}{KO:Nat→V→Hp→Prop}{xs:List V}{q:Addr}
end
section
variable {X:Cx}{tabs:kn}{d:LamD}{clos:List (Str×Addr)}{fv ps:List Str}{k:Nat}{sp:List V→Sp}{α:Type}{p pos lp kp:Pos}{e:Expr}{te:TE}{x:Str}
end
end L2
namespace L2
open PySem PySem.Spec PyProof.Rows PySem.W LexM
def Ti(h:Heap)(x:List Int)(a:Addr):Prop:=∃ o its n,h.get? a=some o∧o.cls=.type "tuple" ∧ o.data=.seq its n∧IntsAre its.toList x
section
variable {prog:Program}{w:World}{A:Around}{E:Value→Shared→Prop}{s:Shared}
theorem Ti.ty{x:List Int}{a:Addr}(h:Ti s.heap x a):s.TypeIs (.ref a) "tuple" := by
 obtain ⟨o,its,n,ho,hc,_⟩:=h
 exact ⟨o,ho,hc⟩
theorem jB{x y:List Int}{a b:Addr}{P:PySem.Fin→Shared→Prop}(hx:Ti s.heap x a)(hy:Ti s.heap y b)(h:P (.done (.ret (.bool (aG x y)))) s) :
  wpAny (model prog w) A (Builtin.«tuple.__lt__» ⟨[.ref a,.ref b],[]⟩) P E s:=by
 have hTb:=hy.ty
 obtain ⟨oa,xs,na,hoa,_,hda,hia⟩:=hx
 obtain ⟨ob,ys,nb,hob,_,hdb,hib⟩:=hy
 show wpAny _ _ (isInstance (.ref b) (.type "tuple") >>= _) _ _ s
 refine wpAny_bind (wpAny_isInstance hTb isSubtype_tuple_tuple ?_)
 simp only[Bool.not_true,Bool.false_eq_true,if_false]
 refine wpAny_bind (wpAny_tupleItemsOf hoa hda ?_)
 refine wpAny_bind (wpAny_tupleItemsOf hob hdb ?_)
 refine wpAny_bind ?_
 refine wpAny_forIn_list _
  (fun rest r s'=>r.1=none∧s'=s∧∃ x' y' xs' ys',rest=List.zip xs' ys'∧IntsAre xs' x'∧IntsAre ys' y'∧aG x' y'=aG x y∧decide (xs'.length<ys'.length)=decide (xs.size<ys.size))
  _ ?_ ?_ _ _ ⟨rfl,rfl,x,y,xs.toList,ys.toList,rfl,hia,hib,rfl,by simp⟩
 ·rintro ⟨u,v⟩ rest r s' ⟨hr,rfl,x',y',xs',ys',hz,hx',hy',hdec,hlen⟩
  cases hx' with
  | nil=>simp at hz
  | @cons k1 t1 xs'' x'' hx'' =>
   cases hy' with
   | nil=>simp at hz
   | @cons k2 t2 ys'' y'' hy'' =>
    simp only[List.zip_cons_cons,List.cons.injEq,Prod.mk.injEq]at hz
    obtain ⟨⟨rfl,rfl⟩,rfl⟩:=hz
    refine wpAny_bind (wpAny_eqBool_int ?_)
    by_cases hk:k1=k2
    ·subst hk
     rw[show (k1 == k1)=true by simp]
     simp only[Bool.not_true,Bool.false_eq_true,if_false]
     refine wpAny_pure ⟨rfl,rfl,x'',y'',xs'',ys'',rfl,hx'',hy'',?_,by simpa using hlen⟩
     rw[← hdec,aG,if_pos rfl]
    ·rw[show (k1 == k2)=false by simpa using hk]
     simp only[Bool.not_false,if_true]
     have hf:decide (k1<k2)=aG x y:=by rw[← hdec,aG,if_neg hk]
     rw[← hf]at h
     refine wpAny_bind (wpAny_rule ?_)
     refine wpAny_bind ?_
     refine wpAny_mono (show wpAny (model prog w) A (richCompare .Lt (.int k1 t1) (.int k2 t2)) (fun v s1=>v=.bool (decide (k1<k2))∧s1=s') E s' from lt_int ⟨rfl,rfl⟩) (fun v s1 hv=>?_) fun _ _ z=>z
     obtain ⟨rfl,rfl⟩:=hv
     exact wpAny_pure (wpAny_pure h)
 ·rintro ⟨r1,r2⟩ s' ⟨hr,rfl,x',y',xs',ys',hz,hx',hy',hdec,hlen⟩
  simp only at hr
  subst hr
  refine wpAny_pure ?_
  have hfin:decide (xs.size<ys.size)=aG x y:=by
   rw[← hdec,← hlen]
   cases hx' with
   | nil =>
    cases hy' with
    | nil=>rfl
    | cons _ _ _=>simp[aG]
   | cons _ _ _ =>
    cases hy' with
    | nil=>simp[aG]
    | cons _ _ _=>simp at hz
  show P (.done (.ret (.bool (decide (xs.size<ys.size))))) s'
  rw[hfin]; exact h
theorem kg{fin:Bool}{C:Bool→Shared→Prop}:∀{xs ys:List Value}{x y:List Int}(i:Nat),IntsAre xs x→IntsAre ys y→decide (xs.length<ys.length)=fin→C (aG x y) s→KatLex prog w A true fin C (xs.zip ys) i s
 | _,_,_,_,i,.nil,.nil,hf,h=>kat_nil (by rw[← hf]; exact h)
 | _,_,_,_,i,.nil,.cons _ _ _,hf,h=>kat_nil (by rw[← hf,decide_eq_true (by simp)]; exact h)
 | _,_,_,_,i,.cons _ _ _,.nil,hf,h=>kat_nil (by rw[← hf,decide_eq_false (by simp)]; exact h)
 | _,_,_,_,i,.cons p t hx,.cons q t' hy,hf,h=>by
  rw[List.zip_cons_cons]
  refine kat_cons (wpAny_eqBool_int ?_)
  rw[aG]at h
  by_cases e:p=q
  ·rw[show (p == q)=true by simpa using e]
   rw[if_pos e]at h
   exact kat_yes (kg (i+1) hx hy (by rw[← hf]; simp) h)
  ·rw[show (p == q)=false by simpa using e]
   rw[if_neg e]at h
   cases i with
   | zero=>exact kat_no (oneLt_int h)
   | succ i=>exact kat_no (kat_one _ _ (lt_int h))
theorem sj{x y:List Int}{a b:Addr}{C:Bool→Shared→Prop}(hx:Ti s.heap x a)(hy:Ti s.heap y b)(h:C (aG x y) s):wpAny (model prog w) A (keyLt' (tuples' true) (.ref a) (.ref b)) C E s:=by
 obtain ⟨oa,xs,na,hoa,_,hda,hia⟩:=hx
 obtain ⟨ob,ys,nb,hob,_,hdb,hib⟩:=hy
 exact kat_lt hoa hda hob hdb (kg 0 hia hib (by simp) h)
theorem rW{x y:List Int}{a b:Addr}{C:Bool→Shared→Prop}(hu:A.units<cLine)(hx:Ti s.heap x a)(hy:Ti s.heap y b)(h:C (aG x y) s):wpAny (model prog w) A (keyLt' oneType' (.ref a) (.ref b)) C E s:=by
 rw[keyLt'_oneType,oneLt'_eq]
 simp only[if_true]
 refine wpAny_bind (wpAny_cRoomFor_or (.inr hu) ?_)
 refine wpAny_bind (wpAny_callSpecialIfBound?_slot hx.ty F.slot_tuple_lt (wpAny_call_entry F.slot_tuple_lt hx.ty F.entry_tuple_lt (jB hx hy ⟨_,rfl,?_⟩) (F.args_tuple_lt_2 _ _)))
 exact wpAny_truthy_bool h
theorem qj{x y:List Int}{a b:Addr}{C:Bool→Shared→Prop}(hu:A.units<cLine)(hx:Ti s.heap x a)(hy:Ti s.heap y b)(h:C (aG x y) s):wpAny (model prog w) A (keyLt' general' (.ref a) (.ref b)) C E s:=by
 show wpAny _ _ (oneLt' false (.ref a) (.ref b)) _ _ s
 refine kat_one _ _ ?_
 refine wpAny_richCompare_same_room (op:=.Lt) hx.ty hy.ty F.slot_tuple_lt (wpAny_call_entry F.slot_tuple_lt hx.ty F.entry_tuple_lt (jB hx hy ⟨_,rfl,(fun e=>nomatch e),h⟩) (F.args_tuple_lt_2 _ _)) hu
inductive Tis(h:Heap):List Value→List (List Int)→Prop
 | nil:Tis h [] []
 | cons {a:Addr}{x:List Int}{vs:List Value}{gs:List (List Int)}(hx:Ti h x a) (t:Tis h vs gs):Tis h (.ref a::vs) (x::gs)
theorem Tis.len{h:Heap}:∀{vs:List Value}{gs:List (List Int)},Tis h vs gs→vs.length=gs.length
 | _,_,.nil=>rfl
 | _,_,.cons _ t=>by rw[length_cons,length_cons,t.len]
theorem Tis.mem{h:Heap}:∀{vs:List Value}{gs:List (List Int)},Tis h vs gs→∀ v∈vs,∃ a x,v=.ref a∧Ti h x a
 | _,_,.nil,v,hv=>by cases hv
 | _,_,.cons hx t,v,hv=>by
  rcases mem_cons.mp hv with rfl | hv
  ·exact ⟨_,_,rfl,hx⟩
  ·exact t.mem v hv
theorem gU{M:Model}:∀{vs:List Value}{gs:List (List Int)}{Q:List (Option Value)→Shared→Prop},Tis s.heap vs gs→(∀ fs:List (Option Value),fs.length=gs.length→(∀(i:Nat) (x:List Int),gs[i]? = some x→(fs[i]? = some none∧x=[])∨∃(n:Int) (t:Tok) (r:List Int),fs[i]? = some (some (Value.int n t))∧x=n::r)→Q fs s)→wpAny M A (vs.mapM firstOfTuple') Q E s
 | _,_,Q,.nil,h=>by rw[List.mapM_nil]; exact wpAny_pure (h [] rfl fun i x e=>by cases e)
 | _,_,Q,.cons (a:=a) (x:=x) hx t,h=>by
  obtain ⟨o,xs,n,ho,hc,hd,hi⟩:=hx
  rw[List.mapM_cons]
  refine wpAny_bind ?_
  rw[kas_first_eq]
  refine wpAny_bind (Looks.here (show Looks M s.heap (typeOf (.ref a)) o.cls from (Looks.ld ho).andThen .now) ?_)
  rw[hc,if_neg (by first | decide | simp)]
  refine wpAny_bind (listItems_at ho hd (wpAny_pure ?_))
  refine wpAny_bind (gU (Q:=fun bs s'=>wpAny M A (pure (xs[0]? :: bs)) Q E s') t fun fs hl hf=>wpAny_pure (h _ (by rw[length_cons,length_cons,hl]) fun i y hy=>?_))
  cases i with
  | succ i=>exact hf i y hy
  | zero =>
   cases hy
   have e0:xs[0]? = xs.toList[0]?:=by simp
   rw[List.getElem?_cons_zero,e0]
   generalize xs.toList=l at hi
   cases hi with
   | nil=>exact .inl ⟨rfl,rfl⟩
   | cons n t _=>exact .inr ⟨n,t,_,rfl,rfl⟩
def i3(gs:List (List Int)):SortKind:=if gs.all (fun x=>!x.isEmpty) then tuples' true else if (gs.headD []).isEmpty then oneType' else general'
theorem pD{M:Model}{vs:List Value}{gs:List (List Int)}{Q:SortKind→Shared→Prop}(t:Tis s.heap vs gs)(h2:2≤vs.length)(h:Q (i3 gs) s):wpAny M A (keyKind' vs.toArray) Q E s:=by
 have hl:=t.len
 rw[kat_kind_eq,mapM_toArray,map_eq_pure_bind]
 refine wpAny_bind (wpAny_bind (gU t fun fs fl hf=>wpAny_pure ?_))
 by_cases ha:gs.all (fun x=>!x.isEmpty)=true
 ·have hs:∀ f∈fs,∃(n:Int) (t:Tok),f=some (Value.int n t):=fun f hfm=>by
   obtain ⟨i,hi⟩:=List.getElem?_of_mem hfm
   have il:i<gs.length:=by rw[← fl]; exact (List.getElem?_eq_some_iff.mp hi).1
   have hg:=List.getElem?_eq_getElem il
   rcases hf i _ hg with ⟨e1,e2⟩ | ⟨n,t,r,e1,e2⟩
   ·have:=all_eq_true.mp ha _ (getElem_mem il)
    rw[e2]at this
    cases this
   ·rw[hi]at e1
    exact ⟨n,t,Option.some.inj e1⟩
  rw[i3,if_pos ha]at h
  obtain ⟨ws,rfl,hw⟩:∃ ws:List Value,fs=ws.map some∧∀ v∈ws,∃(n:Int) (t:Tok),v=Value.int n t:=by
   clear hf fl
   induction fs with
   | nil=>exact ⟨[],rfl,fun v hv=>by cases hv⟩
   | cons f fs ih =>
    obtain ⟨ws,e,hw⟩:=ih fun g hg=>hs g (mem_cons_of_mem _ hg)
    obtain ⟨n,t,rfl⟩:=hs f (mem_cons_self ..)
    refine ⟨Value.int n t::ws,by rw[e]; rfl,fun v hv=>?_⟩
    rcases mem_cons.mp hv with rfl | hv
    ·exact ⟨n,t,rfl⟩
    ·exact hw v hv
  rw[length_map]at fl
  obtain ⟨w1,wr,rfl⟩:∃ w1 wr,ws=w1::wr:=by
   match ws,(show 0<ws.length by lia) with
   | w1::wr,_=>exact ⟨w1,wr,rfl⟩
  have hall:(((w1::wr).map some).toArray.all fun x=>x.isSome)=true:=by simp
  rw[if_pos hall]
  refine wpAny_bind (wpAny_rule ?_)
  have hfm:(((w1::wr).map some).toArray.filterMap id)=(w1::wr).toArray:=by simp
  rw[hfm,oneTypeOnly'_eq,mapM_toArray,map_eq_pure_bind]
  refine wpAny_bind (wpAny_bind (wpAny_bind (kas_mapM (r:=Value.type "int") _ (fun v hv Q' hq=>?_) (wpAny_pure ?_))))
  ·obtain ⟨n,t,rfl⟩:=hw v hv
   exact (Looks.of_pure rfl).here hq
  ·have hall2:((List.map (fun _=>Value.type "int") (w1::wr)).toArray.all fun x=>x == Value.type "int")=true:=by
    simp only[all_toArray,all_map,all_eq_true]
    intro _ _
    exact (by decide:(Value.type "int" == Value.type "int")=true)
   have h0:(List.map (fun _=>Value.type "int") (w1::wr)).toArray[0]? = some (Value.type "int"):=by simp
   rw[h0]
   simp only[hall2,if_true]
   exact wpAny_pure (wpAny_pure h)
 ·have hne:(fs.toArray.all fun x=>x.isSome)=false:=by
   rw[all_toArray]
   cases hb:fs.all fun x=>x.isSome with
   | false=>rfl
   | true =>
    refine absurd (all_eq_true.mpr fun x hx=>?_) ha
    obtain ⟨i,hi⟩:=List.getElem?_of_mem hx
    rcases hf i x hi with ⟨e1,_⟩ | ⟨n,t,r,_,e2⟩
    ·have:=all_eq_true.mp hb _ (List.mem_of_getElem? e1)
     cases this
    ·rw[e2]; rfl
  rw[hne]
  simp only[Bool.false_eq_true,if_false]
  rw[i3,if_neg ha]at h
  obtain ⟨g0,gr,rfl⟩:∃ g0 gr,gs=g0::gr:=by
   match gs,(show 0<gs.length by lia) with
   | g0::gr,_=>exact ⟨g0,gr,rfl⟩
  have h0:fs.toArray[0]? = fs[0]?:=by simp
  rw[h0]
  rcases hf 0 g0 rfl with ⟨e1,e2⟩ | ⟨n,t',r,e1,e2⟩
  ·rw[e1]
   simp only[Option.bind_some,id_eq,Option.isSome_none,Bool.false_eq_true,if_false]
   rw[show ((g0::gr).headD []).isEmpty=true by rw[e2]; rfl,if_pos rfl]at h
   rw[oneTypeOnly'_eq,mapM_toArray,map_eq_pure_bind]
   obtain ⟨v1,vr,rfl⟩:∃ v1 vr,vs=v1::vr:=by
    match vs,(show 0<vs.length by lia) with
    | v1::vr,_=>exact ⟨v1,vr,rfl⟩
   refine wpAny_bind (wpAny_bind (wpAny_bind (kas_mapM (r:=Value.type "tuple") _ (fun v hv Q' hq=>?_) (wpAny_pure ?_))))
   ·obtain ⟨a,x,rfl,o,its,n,ho,hc,_⟩:=t.mem v hv
    refine Looks.here (show Looks M s.heap (typeOf (.ref a)) o.cls from (Looks.ld ho).andThen .now) ?_
    rw[hc]; exact hq
   ·have hall2:((List.map (fun _=>Value.type "tuple") (v1::vr)).toArray.all fun x=>x == Value.type "tuple")=true:=by
     simp only[all_toArray,all_map,all_eq_true]
     intro _ _
     exact (by decide:(Value.type "tuple" == Value.type "tuple")=true)
    have h0:(List.map (fun _=>Value.type "tuple") (v1::vr)).toArray[0]? = some (Value.type "tuple"):=by simp
    rw[h0]
    simp only[hall2,if_true]
    exact wpAny_pure (wpAny_pure h)
  ·rw[e1]
   simp only[Option.bind_some,id_eq,Option.isSome_some,if_true]
   rw[show ((g0::gr).headD []).isEmpty=false by rw[e2]; rfl]at h
   exact wpAny_pure h
theorem tH{x y:List Int}{a b:Addr}{gs:List (List Int)}{C:Bool→Shared→Prop}(hu:A.units<cLine)(hx:Ti s.heap x a)(hy:Ti s.heap y b)(h:C (aG x y) s):wpAny (model prog w) A (keyLt' (i3 gs) (.ref a) (.ref b)) C E s:=by
 unfold i3
 split
 ·exact sj hx hy h
 ·split
  ·exact rW hu hx hy h
  ·exact qj hu hx hy h
end
section
variable {X:Cx}
def Row(H:Hp)(a:Addr)(x:List Int):Prop:=H a=some (.tup (x.map V.int))
theorem kM:∀{x:List Int}{us:List Value},Vals (x.map V.int) us→IntsAre us x
 | [],us,r=>by cases r; exact .nil
 | n::x,us,r=>by
  cases r with
  | cons r1 r =>
   obtain ⟨t,rfl⟩:=r1
   exact .cons n t (kM r)
theorem jH{P:Program}{w:World}{H:Hp}{h:Heap}(ok:HOk P w H h){a:Addr}{x:List Int}(hr:Row H a x):Ti h x a:=by
 obtain ⟨_,its,rv,o,ho,hc,n,hd⟩:=(show ObjOk P w H h a (.tup _) from ok a _ hr)
 exact ⟨o,its.toArray,n,ho,hc,hd,by simpa using kM rv⟩
end
section
variable {prog:Program}{w:World}{A:Around}{E:Value→Shared→Prop}{s:Shared}{d I:Addr}{es:Array DictEntry}{ep i:Nat}
theorem lR{κ:SortKind}{lt:Nat→Nat→Bool}{Q:Value→Shared→Prop}{vs:List Value}(hh:A.handled=none)(nm:(d == sysModules)=false)(x:DE s.heap d es ep)(hvs:im es=vs)(T:WSrt.Wk lt vs.length)(hz:vs.length<16000000)(h64:vs.length<64∨TS.Tot lt vs.length)
  (hk:2≤vs.length→∀ g tk,(∀ b o,s.heap.get? b=some o→g.get? b=some o)→∀ Q:SortKind→Shared→Prop,Q κ { s with heap:=g,toks:=tk }→wpAny (model prog w) A.in1.in1 (keyKind' vs.toArray) Q (fun _ _=>False) { s with heap:=g,toks:=tk })
  (ha:∀ g tk,(∀ b o,s.heap.get? b=some o→g.get? b=some o)→∀ i j,i<vs.length→j<vs.length→i≠j→∀ C,C (lt i j) { s with heap:=g,toks:=tk }→kas_ask prog w A.in1.in1 κ vs i j C { s with heap:=g,toks:=tk })
  (h:∀(r:Addr) g tk m,(∀ b o,s.heap.get? b=some o→g.get? b=some o)→s.heap.objs.size≤r→g.get? r=some (seqObj "list" (List.toArray ((ee lt vs.length).map fun i=>vs.getD i Value.none)) m)→Q (.ref r) { s with heap:=g,toks:=tk }) :
  wpAny (model prog w) A (call (.builtin "sorted") [.ref d]) Q E s:=by
 have hl:vs.length=es.size:=by rw[← hvs]; unfold im; rw[length_map,Array.length_toList]
 have sl:sizeLine=16777216:=sizeLine_eq
 refine Calls.call_function_entry kind_sorted plain_sorted entry_sorted (args_sorted1 _) ?_
 unfold Builtin.«sorted»
 refine wpAny_bind (m:=checkCount "sorted" 1 1 _) (wpAny_pure (wpAny_bind (mh hh nm x (by lia) fun g1 tk big k1=>wpAny_bind (wpAny_newList ?_ (by rw[hvs]; lia)))))
 rw[hvs]
 have at1:(g1.push (seqObj "list" vs.toArray 0)).get? g1.objs.size=some (seqObj "list" vs.toArray 0):=Heap.get?_push_size _ rfl
 have k2:∀ b o,s.heap.get? b=some o→(g1.push (seqObj "list" vs.toArray 0)).get? b=some o∧b≠g1.objs.size:=fun b o e=>⟨Heap.get?_push_of_some _ (k1 b o e),Nat.ne_of_lt (Heap.lt_size (k1 b o e))⟩
 refine wpAny_bind (wpAny_holding (wpAny_call_entry slot_list_sort ⟨_,at1,rfl⟩ entry_list_sort (ny (s:={ s with heap:=g1.push (seqObj "list" vs.toArray 0),toks:=tk }) (lt:=lt) (κ:=κ) at1 T hz h64 (fun h2 g kp Q' q'=>hk h2 g tk (fun b o e=>kp b o (k2 b o e).2 (k2 b o e).1) Q' q') (fun g kp=>ha g tk fun b o e=>kp b o (k2 b o e).2 (k2 b o e).1) ⟨_,rfl,?_⟩) (args_list_sort _)))
 obtain ⟨m,hm⟩:=sortedHeap_at (out:=List.toArray ((ee lt vs.length).map fun i=>vs.getD i Value.none)) at1
 refine wpAny_pure ⟨_,rfl,h g1.objs.size _ tk m (fun b o e=>?_) (Nat.le_of_lt big) hm⟩
 rw[sortedHeap_old (k2 b o e).2 (Heap.lt_size (k2 b o e).1)]
 exact (k2 b o e).1
end
section
variable {X:Cx}
theorem fG(x:List Int):(x.map (Sum.inl:Int→Key)).map kV=x.map V.int:=by rw[map_map]; rfl
theorem j4{gs:List (List Int)}(gd:gs.Nodup){n:Nat}(hn:n=gs.length):TS.Tot (fun i j=>aG (gs.getD i []) (gs.getD j [])) n:=by
 subst hn
 refine ⟨fun i j _ _ h=>iI _ _ h,fun i j k _ _ _ h1 h2=>fU _ _ _ h1 h2,fun i j h1 h2 hn h=>?_⟩
 have hne:gs.getD i []≠gs.getD j []:=fun e=>by
  have e1:gs.getD i []=gs[i]:=by simp[List.getD,h1]
  have e2:gs.getD j []=gs[j]:=by simp[List.getD,h2]
  rw[e1,e2]at e
  rcases Nat.lt_or_gt_of_ne hn with z | z
  ·exact (pairwise_iff_getElem.mp gd i j h1 h2 z) e
  ·exact (pairwise_iff_getElem.mp gd j i h2 h1 z) e.symm
 rcases jy _ _ hne with z | z
 ·have h:aG (gs.getD i []) (gs.getD j [])=false:=h
  rw[h]at z; cases z
 ·exact z
theorem nV{gs:List (List Int)}{n:Nat}(U:TS.Tot (fun i j=>aG (gs.getD i []) (gs.getD j [])) n):WSrt.Wk (fun i j=>aG (gs.getD i []) (gs.getD j [])) n :=
 ⟨U.asy,fun i j k hi hj hk h1 h2=>by
  cases e:aG (gs.getD k []) (gs.getD i []) with
  | false=>rfl
  | true =>
   exfalso
   have h1:aG (gs.getD j []) (gs.getD i [])=false:=h1
   have h2:aG (gs.getD k []) (gs.getD j [])=false:=h2
   by_cases e1:i=j
   ·subst e1; rw[e]at h2; cases h2
   ·have z1:=U.tot j i hj hi (fun z=>e1 z.symm) h1
    have z2:=fU _ _ _ e z1
    rw[h2]at z2; cases z2⟩
theorem iN(hc:X.calm=true)(hu:X.A.units+64<cLine):CallR X (.builtin "sorted") (fun xs H Q=>∃(p:Addr) (kvs:List (List Key×V)) (gs:List (List Int)),xs=[.ref p]∧H p=some (.dT kvs)∧kvs.length<16000000∧kvs.map (·.1)=gs.map (fun x=>x.map Sum.inl)∧gs.Nodup ∧
  ∀ q (o:List Nat) (f:Nat→V),H q=none→o.Perm (List.range gs.length)→(o.Pairwise fun i j=>aG (gs.getD j []) (gs.getD i [])=false)→(∀ i,i<gs.length→∃ b,f i=.ref b∧Row H b (gs.getD i []))→Q (.ref q) (upd H q (.lst (o.map f)))):=by
 intro pins s σ H xs us Q I r h
 obtain ⟨p,kvs,gs,rfl,hp,hz,hkey,gd,q⟩:=h
 obtain ⟨u,rfl,rx⟩:=eI r
 cases rx
 obtain ⟨z,nm,xs,rel,ob,es,ep,g1,g2,g3,g4,g5,g6⟩:=rq I.hok hp
 have lx:kvs.length=xs.length:=Paired.length rel
 have lg:kvs.length=gs.length:=by have:=congrArg List.length hkey; rwa [length_map,length_map]at this
 obtain ⟨vs,hvs⟩:∃ vs,vs=xs.map fun x=>Value.ref x.2.1:=⟨_,rfl⟩
 have ek:im es=vs:=by unfold im; rw[g4,map_map,hvs]; rfl
 have lv:vs.length=kvs.length:=by rw[hvs,length_map,lx]
 have row:∀ i,i<vs.length→∃ a,vs.getD i Value.none=.ref a∧Row H a (gs.getD i []):=fun i hi=>by
  obtain ⟨kv,hkv⟩:∃ x,kvs[i]? = some x:=⟨_,List.getElem?_eq_getElem (by lia)⟩
  obtain ⟨x,hx,hH⟩:=rel.at hkv
  refine ⟨x.2.1,?_,?_⟩
  ·rw[hvs,List.getD,List.getElem?_map,hx]; rfl
  ·have e:=congrArg (fun l=>l[i]?) hkey
   simp only[List.getElem?_map,hkv]at e
   have ig:i<gs.length:=by lia
   rw[List.getElem?_eq_getElem ig]at e
   have e:kv.1=gs[i].map Sum.inl:=Option.some.inj e
   show H x.2.1=_
   rw[hH,e,fG,show gs.getD i []=gs[i] by simp[List.getD,ig]]
 have kp:∀{g':Heap}{tk:Nat},(∀ b o,s.heap.get? b=some o→g'.get? b=some o)→Inv X pins σ H { s with heap:=g',toks:=tk }:=fun k=>I.kept k
 have U:=j4 gd (n:=vs.length) (by lia)
 have T:=nV U
 have tis:∀{g':Heap},HOk X.prog X.w H g'→Tis g' vs gs:=fun {g'} ok=>by
  have key:∀(vs:List Value) (gs:List (List Int)),vs.length=gs.length→(∀ i,i<vs.length→∃ a,vs.getD i Value.none=.ref a∧Row H a (gs.getD i []))→Tis g' vs gs:=by
   intro vs
   induction vs with
   | nil=>intro gs e _; cases gs with | nil=>exact .nil | cons _ _=>cases e
   | cons v vs ih =>
    intro gs e hr
    cases gs with
    | nil=>cases e
    | cons x gs =>
     obtain ⟨a,e1,h1⟩:=hr 0 (by simp)
     obtain rfl:v=Value.ref a:=e1
     exact .cons (jH ok h1) (ih gs (by simpa using e) fun i hi=>hr (i+1) (by simpa using hi))
  exact key vs gs (by lia) row
 refine lR (vs:=vs) (κ:=i3 gs) (lt:=fun i j=>aG (gs.getD i []) (gs.getD j [])) (I.ok.hd hc) nm ⟨ob,g1,g2,g3⟩ ek T (by lia) (.inr U) (fun h2 g' tk k Q' q'=>?_) (fun g' tk k i j hi hj hn C hC=>?_) fun rr g' tk m k big at'=>?_
 ·exact pD (tis (kp (tk:=tk) k).hok) h2 q'
 ·have J:=kp (tk:=tk) k
  obtain ⟨a,ea,oa⟩:=row i hi
  obtain ⟨b,eb,ob'⟩:=row j hj
  unfold kas_ask
  rw[ea,eb]
  exact tH (by show X.A.units+1+1<cLine; lia) (jH J.hok oa) (jH J.hok ob') hC
 ·have hn:H rr=none:=I.hok.fresh big
  have pm:=fT T
  have pa:=jW T (.inr U)
  generalize ee (fun i j=>aG (gs.getD i []) (gs.getD j [])) vs.length=o at pm pa at'
  have small:sizeLine=16777216:=sizeLine_eq
  have mem:∀ i∈o,i<vs.length:=fun i hi=>mem_range.mp (pm.mem_iff.mp hi)
  let f:Nat→V:=fun i=>match vs.getD i Value.none with | .ref a=>.ref a | _=>.non
  have hf:∀ i,i<vs.length→∃ a,f i=.ref a∧vs.getD i Value.none=.ref a∧Row H a (gs.getD i []):=fun i hi=>by
   obtain ⟨a,e1,e3⟩:=row i hi
   exact ⟨a,by show (match vs.getD i Value.none with | .ref a=>V.ref a | _=>.non)=_; rw[e1],e1,e3⟩
  refine ⟨.ref rr,_,I.laid (a:=rr) (o:=.lst (o.map f)) (t':=tk) k big ⟨?_,_,m,fW (vs:=vs) f fun i hi=>?_,at'⟩,rfl,q rr o f hn (by rw[← lg,← lv]; exact pm) pa fun i hi=>?_⟩
  ·rw[length_map,pm.length_eq,length_range]; lia
  ·obtain ⟨a,e1,e2,_⟩:=hf i (mem i hi)
   rw[e1,e2]; rfl
  ·obtain ⟨a,e1,_,e3⟩:=hf i (by lia)
   exact ⟨a,e1,e3⟩
end
end L2
namespace L2
open PySem PySem.Spec PyProof.Rows PySem.W
section
variable {X:Cx}{pins:List (Addr×Obj)}{σ:St}{H H':Hp}{s:Shared}{h':Heap}
theorem Inv.more{t':Nat}(I:Inv X pins σ H s)(k:∀ b u,s.heap.get? b=some u→h'.get? b=some u)(low:∀ b,b<s.heap.objs.size→H' b=H b)(new:∀ b o,s.heap.objs.size≤b→H' b=some o→ObjOk X.prog X.w H' h' b o) :
  Inv X pins σ H' { s with heap:=h',toks:=t' }:=by
 have up:∀ b o,H b=some o→H' b=some o:=fun b o e=>by
  have hb:b<s.heap.objs.size:=by
   rcases Nat.lt_or_ge b s.heap.objs.size with z | z
   ·exact z
   ·rw[I.hok.fresh z]at e; cases e
  rw[low b hb]; exact e
 refine I.un ⟨fun b u q _ _ _=>k b u q,fun b u q _ _ _=>⟨u.slots,k b u q⟩,fun b u q n _=>by rw[low b (Heap.lt_size q)]; exact n,fun b u q _=>⟨u,k b u q⟩,fun b xs q=>up _ _ q,fun b u xs q=>up _ _ q,fun b ps q=>⟨#[],by rw[up _ _ q]; simp⟩⟩ fun b o e=>?_
 rcases Nat.lt_or_ge b s.heap.objs.size with z | z
 ·rw[low b z]at e
  exact (I.hok b o e).stay (fun c v _ q=>k c v q) (fun c q=>up _ _ q) fun c xs q=>up _ _ q
 ·exact new b o z e
end
section
variable {prog:Program}{w:World}{A:Around}{E:Value→Shared→Prop}{s:Shared}{d I v:Addr}{es:Array DictEntry}{ep i:Nat}{k0 v0:Value}
theorem vD{Q:Option Value→Shared→Prop}{e:DictEntry}{a:Addr}{fl:Bool}{oa:Obj}(ki:KdxIt s.heap I d i es.size ep k0 v0 a fl)(ha:s.heap.get? a=some oa)(hai:a≠I)(x:DE s.heap d es ep)(hx:es[i]? = some e)
  (q:∀ h',KdxIt h' I d (i+1) es.size ep k0 v0 a true→h'.get? s.heap.objs.size=some { cls:=.type "tuple",data:=.seq #[e.key,e.val] }→h'.objs.size=s.heap.objs.size+1 →
   (∀ b o,b≠I→s.heap.get? b=some o→h'.get? b=some o)→Q (some (.ref s.heap.objs.size)) { s with heap:=h' }):wpAny (model prog w) A (pyNext (.ref I)) Q E s:=by
 obtain ⟨hp,g,dr,tk,os⟩:=s; obtain ⟨ob,g1,g2,g3⟩:=id x
 have ty:Shared.TypeIs ⟨hp,g,dr,tk,os⟩ (.ref I) "dict_itemiterator" := ⟨_,ki,rfl⟩
 unfold pyNext; refine wpAny_bind (wpAny_attempt (wpAny_callSpecial?_slot (name:=Str.ofString "__next__") ty F.slot_dict_itemiterator_next (wpAny_call_entry F.slot_dict_itemiterator_next ty F.entry_dict_itemiterator_next ?_ (F.args_dict_itemiterator_next_1 _))))
 refine wpAny_bind (wpAny_pure (wpAny_bind (wpAny_bind ?_)))
 first | refine wpAny_bind (wpAny_typeNameOfWhole_itemiter ty (wpAny_pure ?_)) | refine wpAny_bind (wpAny_typeNameOf_itemiter ty (wpAny_pure ?_))
 refine wpAny_bind (wpAny_fieldsOf ki rfl ?_); have own:Builtin.Dict_items.ownsTuple "dict_itemiterator" = true:=by decide
 simp only[own,if_true]; show wpAny _ _ (if (Value.ref d == Value.none)=true then _ else _) _ _ _
 rw[if_neg (fun z:(Value.ref d == Value.none)=true=>Bool.false_ne_true z)]; refine wpAny_bind (wpAny_pure (wpAny_bind (wpAny_dictEntries g1 g3 ?_)))
 rw[if_neg (by simp)]; refine wpAny_bind (wpAny_pure (wpAny_bind (wpAny_dictEpoch g1 g3 ?_)))
 rw[if_neg (by simp)]; refine wpAny_pure ?_
 obtain ⟨hlt,rfl⟩:=Array.getElem?_eq_some_iff.mp hx
 simp only[show ¬((i:Int)<0) from by lia,if_false,Int.toNat_natCast,Array.getElem?_eq_getElem hlt]; refine wpAny_bind ?_
 first | refine wpAny_bind (wpAny_typeNameOfWhole_itemiter ty (wpAny_pure ?_)) | refine wpAny_bind (wpAny_typeNameOf_itemiter ty (wpAny_pure ?_))
 refine wpAny_bind (wpAny_isOneOf_itemiter ty ?_); show wpAny _ _ (setField (.ref I) 3 (rawInt ((i:Int)+1)) >>= _) _ _ ⟨hp,g,dr,tk,os⟩
 refine wpAny_bind (wpAny_setField_rec ki (by simp) fun h1 e1 b1=>?_); replace b1:Heap.SameBut I hp h1:=b1
 replace e1:KdxIt h1 I d (i+1) es.size ep k0 v0 a fl:=by
  have z:((i+1:Nat):Int)=(i:Int)+1:=by lia
  unfold KdxIt; rw[z]; simpa[rawInt] using e1
 have ty1:Shared.TypeIs ⟨h1,g,dr,tk,os⟩ (.ref I) "dict_itemiterator" := ⟨_,e1,rfl⟩
 refine wpAny_bind (wpAny_holding (wpAny_bind (wpAny_isOneOf_itemiter ty1 (wpAny_bind (wpAny_isOneOf_itemiter ty1 ?_)))))
 show wpAny _ _ (Builtin.Dict_items.pairFromOwner (.ref I) 6 es[i].key es[i].val) _ _ ⟨h1,g,dr,tk,os⟩; unfold Builtin.Dict_items.pairFromOwner
 refine wpAny_bind (wpAny_newTuple ?_)
 have e2:KdxIt (h1.push { cls:=.type "tuple",data:=.seq #[es[i].key,es[i].val] }) I d (i+1) es.size ep k0 v0 a fl:=Heap.get?_push_of_some _ e1
 generalize hh:h1.push { cls:=.type "tuple",data:=.seq #[es[i].key,es[i].val] }=h2 at e2
 have z1:h1.objs.size=hp.objs.size:=b1.1
 have lt:I<hp.objs.size:=Heap.lt_size ki
 have t2:h2.get? hp.objs.size=some { cls:=.type "tuple",data:=.seq #[es[i].key,es[i].val] }:=by rw[← hh,← z1]; exact Heap.get?_push_size _ rfl
 have z2:h2.objs.size=hp.objs.size+1:=by rw[← hh,Heap.size_push,z1]
 have k2:∀ b o,b≠I→hp.get? b=some o→h2.get? b=some o:=fun b o hb e=>by rw[← hh]; exact Heap.get?_push_of_some _ (b1.extBut b o hb e)
 show wpAny _ _ (Builtin.Dict_items.ownedTupleIsFree (.ref I) >>= _) _ _ ⟨h2,g,dr,tk,os⟩; rw[z1]
 clear hh e1 b1 ty1 z1 h1
 refine wpAny_bind ?_; unfold Builtin.Dict_items.ownedTupleIsFree
 refine wpAny_bind (wpAny_field e2 rfl (x:=rawInt a) rfl ?_); show wpAny _ _ (loadIfAlive ((a:Int).toNat) >>= _) _ _ _
 rw[Int.toNat_natCast]; refine wpAny_bind (kdx_alive (k2 a oa hai ha) ?_)
 simp only[Option.isNone_some,Bool.false_eq_true,if_false]; refine wpAny_bind (wpAny_field e2 rfl (x:=.bool fl) rfl ?_)
 have fin:∀ h3:Heap,KdxIt h3 I d (i+1) es.size ep k0 v0 a true→Heap.SameBut I h2 h3→Q (some (.ref hp.objs.size)) ⟨h3,g,dr,tk,os⟩:=fun h3 e3 b3=>q h3 e3 (b3.extBut _ _ (Nat.ne_of_gt lt) t2) (by show h3.objs.size=hp.objs.size+1; rw[b3.1,z2]) fun b o hb e=>b3.extBut b o hb (k2 b o hb e)
 cases fl with
 | true =>
  rw[if_neg (fun z:(Value.bool true != Value.bool true)=true=>Bool.false_ne_true z)]; refine wpAny_pure ?_
  simp only[Bool.false_eq_true,if_false]; exact wpAny_pure (wpAny_pure ⟨_,rfl,wpAny_pure (fin h2 e2 (Heap.SameBut.refl _ _))⟩)
 | false =>
  rw[if_pos (show (Value.bool false != Value.bool true)=true by rfl)]; refine wpAny_bind (wpAny_setField_rec e2 (by simp) fun h3 e3 b3=>?_)
  refine wpAny_pure ?_; simp only[Bool.false_eq_true,if_false]; exact wpAny_pure (wpAny_pure ⟨_,rfl,wpAny_pure (fin h3 e3 b3)⟩)
theorem tY{Q:Option Value→Shared→Prop}(hh:A.handled=none){a:Addr}{fl:Bool}(ki:KdxIt s.heap I d i es.size ep k0 v0 a fl)(x:DE s.heap d es ep)(hx:es.size≤i)
  (q:∀ h',Heap.ExtBut I s.heap h'→Q none { s with heap:=h' }):wpAny (model prog w) A (pyNext (.ref I)) Q E s:=by
 obtain ⟨ob,g1,g2,g3⟩:=id x
 have ty:s.TypeIs (.ref I) "dict_itemiterator" := ⟨_,ki,rfl⟩
 unfold pyNext; refine wpAny_bind (wpAny_attempt (wpAny_callSpecial?_slot (name:=Str.ofString "__next__") ty F.slot_dict_itemiterator_next (wpAny_call_entry F.slot_dict_itemiterator_next ty F.entry_dict_itemiterator_next ?_ (F.args_dict_itemiterator_next_1 _))))
 refine wpAny_bind (wpAny_pure (wpAny_bind (wpAny_bind ?_)))
 first | refine wpAny_bind (wpAny_typeNameOfWhole_itemiter ty (wpAny_pure ?_)) | refine wpAny_bind (wpAny_typeNameOf_itemiter ty (wpAny_pure ?_))
 refine wpAny_bind (wpAny_fieldsOf ki rfl ?_); have own:Builtin.Dict_items.ownsTuple "dict_itemiterator" = true:=by decide
 simp only[own,if_true]; show wpAny _ _ (if (Value.ref d == Value.none)=true then _ else _) _ _ _
 rw[if_neg (fun z:(Value.ref d == Value.none)=true=>Bool.false_ne_true z)]; refine wpAny_bind (wpAny_pure (wpAny_bind (wpAny_dictEntries g1 g3 ?_)))
 rw[if_neg (by simp)]; refine wpAny_bind (wpAny_pure (wpAny_bind (wpAny_dictEpoch g1 g3 ?_)))
 rw[if_neg (by simp)]; refine wpAny_pure ?_
 simp only[show ¬((i:Int)<0) from by lia,if_false,Int.toNat_natCast,Array.getElem?_eq_none hx]; refine wpAny_bind ?_
 first | refine wpAny_bind (wpAny_typeNameOfWhole_itemiter ty (wpAny_pure ?_)) | refine wpAny_bind (wpAny_typeNameOf_itemiter ty (wpAny_pure ?_))
 show wpAny _ _ (setField (.ref I) 2 .none >>= _) _ _ s; refine wpAny_bind (wpAny_setField ki rfl (by simp) ?_)
 show wpAny _ _ (newExc (.type "StopIteration") [] >>= _) _ _ _; refine wpAny_bind ?_
 simp only[newExc,newTuple]; refine wpAny_bind (wpAny_newObj_type ?_ (by size_fits))
 refine wpAny_bind (m:=firstArgMember _ _) (wpAny_of_eq (a:=Value.none) (by first | rfl | (simp only[firstArgMember]; rfl)) (wpAny_newObj_type ?_ (by size_fits)))
 simp only[raiseNew]; refine wpAny_bind (wpAny_handled ?_)
 rw[show A.in1.handled=none from hh]; refine wpAny_bind (wpAny_pure (wpAny_throw ?_))
 exact wpAny_bind (wpAny_isInstance (T := "StopIteration") (b:=true) ⟨_,Heap.get?_push_size _ rfl,rfl⟩ isSubtype_stop (wpAny_pure (q _ (((Heap.SameBut.update ..).extBut.push _).push _))))
end
section
variable {prog:Program}{w:World}{A:Around}{E:Value→Shared→Prop}{s:Shared}{d I v S:Addr}{es:Array DictEntry}{ep i:Nat}
theorem tN{Q:Option Value→Shared→Prop}{e:DictEntry}(st:KdxSt s.heap I d S i es.size ep)(hS:S<s.heap.objs.size)(x:DE s.heap d es ep)(hx:es[i]? = some e)
  (q:∀ h',KdxSt h' I d S (i+1) es.size ep→h'.get? s.heap.objs.size=some { cls:=.type "tuple",data:=.seq #[e.key,e.val] }→h'.objs.size=s.heap.objs.size+1→(∀ b o,b≠I→s.heap.get? b=some o→h'.get? b=some o)→Q (some (.ref s.heap.objs.size)) { s with heap:=h' }) :
  wpAny (model prog w) A (pyNext (.ref I)) Q E s:=by
 rcases st with ⟨rfl,k0,v0,ki⟩ | ⟨k0,v0,a,f,oa,ki,ha,hai,haS⟩
 ·exact ul ki x hx fun h' e1 e2 e3 e4=>q h' (.inr ⟨_,_,_,false,_,e1,e2,Nat.ne_of_gt (Heap.lt_size ki),Nat.ne_of_gt hS⟩) e2 e3 e4
 ·exact vD ki ha hai x hx fun h' e1 e2 e3 e4=>q h' (.inr ⟨k0,v0,a,true,oa,e1,e4 a oa hai ha,hai,haS⟩) e2 e3 e4
theorem vc{Q:Option Value→Shared→Prop}(hh:A.handled=none)(st:KdxSt s.heap I d S i es.size ep)(x:DE s.heap d es ep)(hx:es.size≤i)(q:∀ h',Heap.ExtBut I s.heap h'→Q none { s with heap:=h' }):wpAny (model prog w) A (pyNext (.ref I)) Q E s:=by
 rcases st with ⟨rfl,k0,v0,ki⟩ | ⟨k0,v0,a,f,oa,ki,_⟩
 ·exact vk hh ki x hx q
 ·exact tY hh ki x hx q
structure DxG(es:Array DictEntry)(lo:Addr)(h:Heap)(ps:List Addr):Prop where
 up:ps.Pairwise (· < ·)
 hi:∀ a∈ps,lo<a
 at_:∀(j:Nat) (a:Addr),ps[j]? = some a→∃ e,es[j]? = some e∧h.get? a=some { cls:=.type "tuple",data:=.seq #[e.key,e.val] }
theorem DxG.lt{lo:Addr}{h:Heap}{ps:List Addr}(g:DxG es lo h ps){a:Addr}(m:a∈ps):a<h.objs.size:=by
 obtain ⟨j,hj⟩:=List.mem_iff_getElem?.mp m
 obtain ⟨_,_,z⟩:=g.at_ j a hj
 exact Heap.lt_size z
theorem t9{R:Result→Shared→Prop}(hh:A.handled=none)(lSI:S<I)(nS:d≠S)(nI:d≠I)(small:es.size≤sizeLine)(res:Value){h0:Heap}
  (fin:∀ h' tk acc c ps,(∀ b o,b≠S→b≠I→h0.get? b=some o→h'.get? b=some o)→h'.get? S=some { cls:=.type "list",dict:=none,data:=.seq acc c,slots:=#[] }→ps.length=es.size→DxG es I h' ps→acc.toList=ps.map Value.ref→R (.ok (.ret res)) { s with heap:=h',toks:=tk }) :
  ∀(m i:Nat) (h:Heap) (tk c:Nat) (acc:Array Value) (ps:List Addr),es.size - i=m→i≤es.size→KdxSt h I d S i es.size ep→DE h d es ep→(∀ b o,b≠S→b≠I→h0.get? b=some o→h.get? b=some o) →
   h.get? S=some { cls:=.type "list",dict:=none,data:=.seq acc c,slots:=#[] }→acc.toList=ps.map Value.ref→ps.length=i→DxG es I h ps→I<h.objs.size→codeAny (model prog w) A (.builtin "list.extend.loop" ⟨[.ref S,.ref I,res],[]⟩) R { s with heap:=h,toks:=tk }:=by
 have ne:S≠I:=Nat.ne_of_lt lSI
 intro m
 induction m with
 | zero =>
  intro i h tk c acc ps em le st x kp oS ea el g lI
  refine codeAny_builtin PySem.F.entry_extend_loop ?_; rw[Around.under_plainId PySem.F.plain_extend_loop _]
  show wpAny _ A.in1 (pyNext (.ref I) >>= _) _ _ _; refine wpAny_bind (vc (s:={ s with heap:=h,toks:=tk }) (A:=A.in1) hh st x (by lia) fun h' ex=>?_)
  refine wpAny_pure (fin h' tk acc c ps (fun b o h1 h2 z=>ex b o h2 (kp b o h1 h2 z)) (ex S _ ne oS) (by lia) ⟨g.up,g.hi,fun j a hj=>?_⟩ ea)
  obtain ⟨e,z1,z2⟩:=g.at_ j a hj
  exact ⟨e,z1,ex a _ (Nat.ne_of_gt (g.hi a (List.mem_of_getElem? hj))) z2⟩
 | succ m ih =>
  intro i h tk c acc ps em le st x kp oS ea el g lI
  have lt:i<es.size:=by lia
  obtain ⟨e,he⟩:∃ e,es[i]? = some e:=⟨es[i],Array.getElem?_eq_getElem lt⟩
  have az:acc.size=i:=by rw[← Array.length_toList,ea,length_map,el]
  refine codeAny_builtin PySem.F.entry_extend_loop ?_; rw[Around.under_plainId PySem.F.plain_extend_loop _]
  show wpAny _ A.in1 (pyNext (.ref I) >>= _) _ _ _; refine wpAny_bind (tN (s:={ s with heap:=h,toks:=tk }) (S:=S) st (Heap.lt_size oS) x he fun h' st' ot oz k'=>?_)
  dsimp only at ot oz k' ⊢
  have oS':=k' S _ ne oS
  have lS:S<h.objs.size:=Heap.lt_size oS
  have nx:∀ b o,b≠S→h'.get? b=some o→(h'.update S (Obj.mapSeq (·.push (Value.ref h.objs.size)))).get? b=some o:=fun b o hb z=>(Heap.get?_update_other _ _ (Ne.symm hb)).trans z
  show wpAny _ A.in1 (updateSeq S (·.push (Value.ref h.objs.size)) >>= _) _ _ _; refine wpAny_bind (wpAny_updateSeq oS' rfl (wpAny_pure ⟨plainId_quiet PySem.F.plain_extend_loop _,ih (i+1) _ tk _ (acc.push (Value.ref h.objs.size)) (ps++[h.objs.size]) (by lia) lt (st'.keep nx (Ne.symm ne)) (x.on fun o z=>nx d o nS (k' d o nI z)) (fun b o h1 h2 z=>nx b o h1 (k' b o h2 (kp b o h1 h2 z))) (Heap.get?_update_self _ oS' rfl) (by rw[Array.toList_push,ea,map_append]; rfl) (by rw[length_append,el]; rfl) ⟨?_,?_,?_⟩ ?_⟩) (by rw[az]; lia) (by show (acc.push (Value.ref h.objs.size)).size≤sizeLine+1; rw[Array.size_push,az]; lia))
  ·exact pairwise_append.mpr ⟨g.up,pairwise_singleton _ _,fun a ha b hb=>by rw[mem_singleton.mp hb]; exact g.lt ha⟩
  ·intro a ha
   rcases mem_append.mp ha with z | z
   ·exact g.hi a z
   ·rw[mem_singleton.mp z]; exact lI
  ·intro j b hj
   rcases Nat.lt_trichotomy j ps.length with z | z | z
   ·rw[List.getElem?_append_left z]at hj
    obtain ⟨e',y1,y2⟩:=g.at_ j b hj
    have hb:=g.hi b (List.mem_of_getElem? hj)
    exact ⟨e',y1,nx b _ (Nat.ne_of_gt (Nat.lt_trans lSI hb)) (k' b _ (Nat.ne_of_gt hb) y2)⟩
   ·subst z
    obtain rfl:h.objs.size=b:=by simpa using hj
    exact ⟨e,by rw[el]; exact he,nx _ _ (Nat.ne_of_gt lS) ot⟩
   ·rw[List.getElem?_eq_none (by rw[length_append,length_singleton]; lia)]at hj; cases hj
  ·exact Nat.lt_trans lI (Heap.lt_size (nx _ _ (Nat.ne_of_gt lS) ot))
end
end L2
namespace L2
open PySem PySem.Calls PySem.Spec PyProof.Rows PySem.W
section
variable {prog:Program}{w:World}{A:Around}{E:Value→Shared→Prop}{s:Shared}{d r:Addr}{es:Array DictEntry}{ep:Nat}
theorem pp{R:Result→Shared→Prop}(hh:A.handled=none)(hv:s.heap.IsItemsView r d)(x:DE s.heap d es ep)(S:Addr)(nr:S≠r)(nS:d≠S)(res:Value)(c0:Nat)(oS:s.heap.get? S=some { cls:=.type "list",data:=.seq #[] c0 })
  (fin:∀ h' tk acc c ps,(∀ b o,b≠S→s.heap.get? b=some o→h'.get? b=some o)→h'.get? S=some { cls:=.type "list",dict:=none,data:=.seq acc c,slots:=#[] }→ps.length=es.size→DxG es s.heap.objs.size h' ps→acc.toList=ps.map Value.ref→R (.ok (.ret res)) { s with heap:=h',toks:=tk }) (small:es.size≤sizeLine) :
  wpAny (model prog w) A.in1 (Builtin.List.listExtendWith (.ref S) (.ref r) res) (fun f s'=>match f with | .done f=>R (.ok f) s' | .again c'=>c'.quiet=true∧codeAny (model prog w) A c' R s') (fun e s'=>R (.error e) s') s:=by
 have lS:S<s.heap.objs.size:=Heap.lt_size oS
 have ld:d<s.heap.objs.size:=x.lt
 have key:∀(h:Heap) (c1 tk:Nat),(∀ b o,b≠S→(s.heap.push { cls:=.type "dict_itemiterator",data:=.fields #[.none,.bool false,.ref d,.int 0 0,.int es.size 0,.int ep 0,.none,.none] }).get? b=some o→h.get? b=some o) →
   h.get? S=some { cls:=.type "list",data:=.seq #[] c1 }→codeAny (model prog w) A (.builtin "list.extend.loop" ⟨[.ref S,.ref s.heap.objs.size,res],[]⟩) R { s with heap:=h,toks:=tk }:=by
  intro h c1 tk k o1
  have oI:=k s.heap.objs.size _ (Nat.ne_of_gt lS) (Heap.get?_push_size _ rfl)
  refine t9 (s:=s) (h0:=s.heap) hh lS nS (Nat.ne_of_lt ld) small res (fun h' tk' acc c ps k' o' l' g' a'=>fin h' tk' acc c ps (fun b o hb z=>k' b o hb (Nat.ne_of_lt (Heap.lt_size z)) z) o' l' g' a') es.size 0 h tk c1 #[] [] (Nat.sub_zero _) (Nat.zero_le _) (.inl ⟨rfl,.none,.none,oI⟩) (x.on fun o z=>k d o nS (Heap.get?_push_of_some _ z)) (fun b o hb _ z=>k b o hb (Heap.get?_push_of_some _ z)) o1 rfl rfl ⟨List.Pairwise.nil,(fun _ m=>nomatch m),(fun j a hj=>by simp at hj)⟩ (Heap.lt_size oI)
 unfold Builtin.List.listExtendWith; refine wpAny_bind (wpAny_typeOf (T := "dict_items") hv.typeIs ?_)
 have q1:Builtin.List.listSameRef (.ref S) (.ref r)=false:=by simp[Builtin.List.listSameRef,nr]
 have q2:(Value.type "dict_items" == Value.type "list")=false:=by decide
 have q3:(Value.type "dict_items" == Value.type "tuple")=false:=by decide
 simp only[q1,q2,q3,Bool.or_false,Bool.false_eq_true,if_false]; refine wpAny_bind (sh hv x ?_)
 have o1:=Heap.get?_push_of_some { cls:=.type "dict_itemiterator",data:=.fields #[.none,.bool false,.ref d,.int 0 0,.int es.size 0,.int ep 0,.none,.none] } oS
 refine wpAny_bind (wpAny_holding (kdx_hint (let ⟨o,ho,hc,_⟩:=hv; ⟨o,Heap.get?_push_of_some _ ho,hc⟩) (wpAny_ite_split (fun _=>?_) (fun _=>wpAny_pure ⟨plainId_quiet PySem.F.plain_extend_loop _,key _ c0 _ (fun b o _ z=>z) o1⟩))))
 refine wpAny_bind (wpAny_rule (wpAny_bind ?_)); show wpAny _ _ (updateSeq S (·.push .none) >>= fun _=>updateSeq S (·.pop)) _ _ _
 refine wpAny_bind (wpAny_updateSeq o1 rfl ?_); have o2:=Heap.get?_update_self (Obj.mapSeq (·.push Value.none)) o1 rfl
 refine wpAny_updateSeq (hz:=by seq_fits) o2 rfl ?_; have o3:=Heap.get?_update_self (Obj.mapSeq (·.pop)) o2 rfl
 exact wpAny_pure ⟨plainId_quiet PySem.F.plain_extend_loop _,key _ _ _ (fun b o hb z=>(Heap.get?_update_other _ _ (Ne.symm hb)).trans ((Heap.get?_update_other _ _ (Ne.symm hb)).trans z)) o3⟩
theorem DxG.low{lo lo':Addr}{h:Heap}{ps:List Addr}(g:DxG es lo h ps)(l:lo'≤lo):DxG es lo' h ps:=⟨g.up,fun a m=>Nat.lt_of_le_of_lt l (g.hi a m),g.at_⟩
theorem ln{R:List Value→Shared→Prop}(hh:A.handled=none)(hv:s.heap.IsItemsView r d)(x:DE s.heap d es ep)(small:es.size≤sizeLine)
  (fin:∀(h':Heap) (tk:Nat) (ps:List Addr),s.heap.objs.size<h'.objs.size→(∀ b o,s.heap.get? b=some o→h'.get? b=some o)→ps.length=es.size→DxG es s.heap.objs.size h' ps→R (ps.map Value.ref) { s with heap:=h',toks:=tk }):wpAny (model prog w) A (collect (.ref r)) R E s:=by
 have lr:r<s.heap.objs.size:=let ⟨_,ho,_⟩:=hv; Heap.lt_size ho
 have ld:d<s.heap.objs.size:=x.lt
 unfold collect; refine wpAny_bind (wpAny_runValue (codeAny_builtin entry_proto_collect' ?_)); rw[Around.under_plainId PySem.F.plain_proto_collect _]
 show wpAny _ A.in1 (newList [] >>= fun l=>again (.builtin "list.__iadd__" ⟨[l,.ref r],[]⟩)) _ _ s; refine wpAny_bind (wpAny_newObj_type (wpAny_pure ⟨plainId_quiet PySem.F.plain_list_iadd _,codeAny_builtin entry_list_iadd' ?_⟩))
 rw[Around.under_plainId PySem.F.plain_list_iadd _]
 have o1:(s.heap.push { cls:=.type "list",data:=.seq ([]:List Value).toArray }).get? s.heap.objs.size=some { cls:=.type "list",data:=.seq #[] }:=Heap.get?_push_size _ rfl
 show wpAny _ A.in1 (Builtin.List.listExtendWith (.ref s.heap.objs.size) (.ref r) (.ref s.heap.objs.size)) _ _ _
 have key:=pp (prog:=prog) (w:=w) (A:=A) (s:={ s with heap:=s.heap.push { cls:=.type "list",data:=.seq ([]:List Value).toArray } }) (es:=es) (ep:=ep)
  (R:=fun (q:Result) (s':Shared)=>∃(h':Heap) (tk:Nat) (acc:Array Value) (c:Nat) (ps:List Addr),q=.ok (.ret (.ref s.heap.objs.size))∧s'={ s with heap:=h',toks:=tk }∧(∀ b o,s.heap.get? b=some o→h'.get? b=some o)∧h'.get? s.heap.objs.size=some { cls:=.type "list",dict:=none,data:=.seq acc c,slots:=#[] }∧ps.length=es.size∧DxG es s.heap.objs.size h' ps∧acc.toList=ps.map Value.ref)
  hh (let ⟨o,ho,z⟩:=hv; ⟨o,Heap.get?_push_of_some _ ho,z⟩) (x.on fun o z=>Heap.get?_push_of_some _ z) s.heap.objs.size (Nat.ne_of_gt lr) (Nat.ne_of_lt ld) (.ref s.heap.objs.size) 0 o1
  (fun h' tk acc c ps k' o' l' g' a'=>⟨h',tk,acc,c,ps,rfl,rfl,fun b o z=>k' b o (Nat.ne_of_lt (Heap.lt_size z)) (Heap.get?_push_of_some _ z),o',l',g'.low (by show s.heap.objs.size≤(s.heap.push _).objs.size; rw[Heap.size_push]; exact Nat.le_succ _),a'⟩) small
 refine wpAny_mono key (fun f s' z=>?_) fun e s' z=>?_
 ·cases f with
  | done f =>
   obtain ⟨h',tk,acc,c,ps,e,rfl,k',o',l',g',a'⟩:=z
   cases e
   show wpAny _ A (load s.heap.objs.size >>= _) _ _ _; refine wpAny_bind (wpAny_load o' (wpAny_pure ?_)); rw[a']
   exact fin h' tk ps (Heap.lt_size o') k' l' g'
  | again c' =>
   obtain ⟨q1,q2⟩:=z
   refine ⟨q1,codeAny_mono q2 fun f s' z=>?_⟩
   obtain ⟨h',tk,acc,c,ps,rfl,rfl,k',o',l',g',a'⟩:=z
   show wpAny _ A (load s.heap.objs.size >>= _) _ _ _; refine wpAny_bind (wpAny_load o' (wpAny_pure ?_)); rw[a']
   exact fin h' tk ps (Heap.lt_size o') k' l' g'
 ·obtain ⟨_,_,_,_,_,e',_⟩:=z
  cases e'
end
end L2
namespace L2
open PySem PySem.Spec PyProof.Rows PySem.W LexM
section
variable {prog:Program}{w:World}{A:Around}{E:Value→Shared→Prop}{s:Shared}
theorem qP{h:Heap}{x:List Int}{a:Addr}(t:Ti h x a):IsTupleKey (aZ prog w) h (x.map Sum.inl) a:=by
 obtain ⟨o,its,n,ho,hc,hd,hi⟩:=t
 have key:∀{vs:List Value}{x:List Int},IntsAre vs x→ItemsAre (aZ prog w) (x.map (Sum.inl:Int→Key)) vs:=by
  intro vs x h
  induction h with
  | nil=>exact .nil
  | cons n t _ ih=>exact .cons (by show Value.isInt n (.int n t)=true; simp[Value.isInt]) ih
 exact ⟨o,its,n,ho,hc,hd,key hi⟩
theorem dh:∀{x y:List Int},x.map (Sum.inl:Int→Key)=y.map Sum.inl→x=y
 | [],[],_=>rfl
 | [],_::_,h=>by cases h
 | _::_,[],h=>by cases h
 | a::x,b::y,h=>by
  rw[map_cons,map_cons]at h
  injection h with h1 h2
  rw[Sum.inl.inj h1,dh h2]
def Pr(h:Heap)(x:List Int)(a:Addr):Prop:=∃ o its n k u,h.get? a=some o∧o.cls=.type "tuple" ∧ o.data=.seq its n∧its.toList=[.ref k,u]∧Ti h x k
theorem qI{x y:List Int}{a b:Addr}{C:Bool→Shared→Prop}(hu:A.units<cLine)(ne:x≠y)(hx:Pr s.heap x a)(hy:Pr s.heap y b)(h:C (aG x y) s):wpAny (model prog w) A (keyLt' (tuples' false) (.ref a) (.ref b)) C E s:=by
 obtain ⟨oa,xs,na,ka,ua,a1,_,a3,a4,tx⟩:=hx
 obtain ⟨ob,ys,nb,kb,ub,b1,_,b3,b4,ty⟩:=hy
 refine kat_lt a1 a3 b1 b3 ?_
 rw[a4,b4]
 refine kat_cons (wpAny_eqBool_tuple (knd:=aZ prog w) hu (qP tx) (qP ty) ?_)
 rw[decide_eq_false (fun z=>ne (dh z))]
 refine kat_no (kat_one _ _ ?_)
 exact wpAny_richCompare_same_room (op:=.Lt) tx.ty ty.ty F.slot_tuple_lt (wpAny_call_entry F.slot_tuple_lt tx.ty F.entry_tuple_lt (jB tx ty ⟨_,rfl,(fun e=>nomatch e),h⟩) (F.args_tuple_lt_2 _ _)) hu
theorem mE{M:Model}{ps:List Addr}{gs:List (List Int)}{Q:SortKind→Shared→Prop}(hl:ps.length=gs.length)(hp:∀ i a,ps[i]? = some a→Pr s.heap (gs.getD i []) a)(h0:0<ps.length)(h:Q (tuples' false) s):wpAny M A (keyKind' (ps.map Value.ref).toArray) Q E s:=by
 have key:∀(ps:List Addr),(∀ a∈ps,∃ x,Pr s.heap x a)→∃ fs:List Value,KatTups s.heap (ps.map Value.ref) fs∧fs.length=ps.length∧∀ v∈fs,∃ k x,v=.ref k∧Ti s.heap x k:=by
  intro ps
  induction ps with
  | nil=>intro _; exact ⟨[],trivial,rfl,fun v hv=>by cases hv⟩
  | cons a ps ih =>
   intro hr
   obtain ⟨fs,g1,g2,g3⟩:=ih fun b hb=>hr b (mem_cons_of_mem _ hb)
   obtain ⟨x,o,its,n,k,u,e1,e2,e3,e4,t⟩:=hr a (mem_cons_self ..)
   refine ⟨.ref k::fs,KatTups.cons e1 e2 e3 (by rw[← Array.getElem?_toList,e4]; rfl) g1,by rw[length_cons,length_cons,g2],fun v hv=>?_⟩
   rcases mem_cons.mp hv with rfl | hv
   ·exact ⟨k,x,rfl,t⟩
   ·exact g3 v hv
 obtain ⟨fs,g1,g2,g3⟩:=key ps fun a ha=>by
  obtain ⟨i,hi⟩:=List.getElem?_of_mem ha
  exact ⟨_,hp i a hi⟩
 refine kat_kind (T:=.type "tuple") g1 (by lia) (fun v hv=>?_) (by decide) h
 obtain ⟨k,x,rfl,o,its,n,ho,hc,_⟩:=g3 v hv
 rw[← hc]
 exact (Looks.ld ho).andThen .now
end
section
variable {prog:Program}{w:World}{A:Around}{E:Value→Shared→Prop}{s:Shared}{d r:Addr}{es:Array DictEntry}{ep:Nat}
theorem DxG.on{lo:Addr}{h h':Heap}{ps:List Addr}(g:DxG es lo h ps)(k:∀ b o,b∈ps→h.get? b=some o→h'.get? b=some o):DxG es lo h' ps:=⟨g.up,g.hi,fun j a hj=>let ⟨e,e1,e2⟩:=g.at_ j a hj; ⟨e,e1,k a _ (List.mem_of_getElem? hj) e2⟩⟩
theorem oR{κ:SortKind}{lt:Nat→Nat→Bool}{Q:Value→Shared→Prop}(hh:A.handled=none)(hv:s.heap.IsItemsView r d)(x:DE s.heap d es ep)(hz:es.size<16000000)(T:WSrt.Wk lt es.size)(U:TS.Tot lt es.size)
  (hk:2≤es.size→∀ g tk (ps:List Addr),(∀ b o,s.heap.get? b=some o→g.get? b=some o)→ps.length=es.size→DxG es s.heap.objs.size g ps→∀ Q:SortKind→Shared→Prop,Q κ { s with heap:=g,toks:=tk }→wpAny (model prog w) A.in1.in1 (keyKind' (ps.map Value.ref).toArray) Q (fun _ _=>False) { s with heap:=g,toks:=tk })
  (ha:∀ g tk (ps:List Addr),(∀ b o,s.heap.get? b=some o→g.get? b=some o)→ps.length=es.size→DxG es s.heap.objs.size g ps→∀ i j,i<es.size→j<es.size→i≠j→∀ C,C (lt i j) { s with heap:=g,toks:=tk }→kas_ask prog w A.in1.in1 κ (ps.map Value.ref) i j C { s with heap:=g,toks:=tk })
  (h:∀(q:Addr) g tk m (ps:List Addr),(∀ b o,s.heap.get? b=some o→g.get? b=some o)→s.heap.objs.size≤q→q ∉ ps→ps.length=es.size→DxG es s.heap.objs.size g ps→g.get? q=some (seqObj "list" (List.toArray ((ee lt es.size).map fun i=>(ps.map Value.ref).getD i Value.none)) m)→Q (.ref q) { s with heap:=g,toks:=tk }) :
  wpAny (model prog w) A (call (.builtin "sorted") [.ref r]) Q E s:=by
 have sl:sizeLine=16777216:=sizeLine_eq
 refine Calls.call_function_entry kind_sorted plain_sorted entry_sorted (args_sorted1 _) ?_
 unfold Builtin.«sorted»
 refine wpAny_bind (m:=checkCount "sorted" 1 1 _) (wpAny_pure (wpAny_bind (ln hh hv x (by lia) fun g1 tk ps big0 k1 pl pg=>wpAny_bind (wpAny_newList ?_ (by rw[length_map]; lia)))))
 obtain ⟨vs,hvs⟩:∃ vs,vs=ps.map Value.ref:=⟨_,rfl⟩
 rw[← hvs]
 have lv:vs.length=es.size:=by rw[hvs,length_map,pl]
 have at1:(g1.push (seqObj "list" vs.toArray 0)).get? g1.objs.size=some (seqObj "list" vs.toArray 0):=Heap.get?_push_size _ rfl
 have k2:∀ b o,s.heap.get? b=some o→(g1.push (seqObj "list" vs.toArray 0)).get? b=some o∧b≠g1.objs.size:=fun b o e=>⟨Heap.get?_push_of_some _ (k1 b o e),Nat.ne_of_lt (Heap.lt_size (k1 b o e))⟩
 have pn:g1.objs.size ∉ ps:=fun z=>Nat.lt_irrefl _ (pg.lt z)
 have pg2:DxG es s.heap.objs.size (g1.push (seqObj "list" vs.toArray 0)) ps:=pg.on fun b o _ e=>Heap.get?_push_of_some _ e
 have big:s.heap.objs.size≤g1.objs.size:=Nat.le_of_lt big0
 refine wpAny_bind (wpAny_holding (wpAny_call_entry slot_list_sort ⟨_,at1,rfl⟩ entry_list_sort (ny (s:={ s with heap:=g1.push (seqObj "list" vs.toArray 0),toks:=tk }) (lt:=lt) (κ:=κ) at1 (by rw[lv]; exact T) (by lia) (.inr (by rw[lv]; exact U)) (fun h2 g kp Q' q'=>?_) (fun g kp i j hi hj hn C hC=>?_) ⟨_,rfl,?_⟩) (args_list_sort _)))
 ·rw[hvs]
  exact hk (by lia) g tk ps (fun b o e=>kp b o (k2 b o e).2 (k2 b o e).1) pl (pg2.on fun b o m e=>kp b o (fun z=>pn (z ▸ m)) e) Q' q'
 ·rw[hvs]
  exact ha g tk ps (fun b o e=>kp b o (k2 b o e).2 (k2 b o e).1) pl (pg2.on fun b o m e=>kp b o (fun z=>pn (z ▸ m)) e) i j (by lia) (by lia) hn C hC
 ·obtain ⟨m,hm⟩:=sortedHeap_at (out:=List.toArray ((ee lt vs.length).map fun i=>vs.getD i Value.none)) at1
  refine wpAny_pure ⟨_,rfl,h g1.objs.size _ tk m ps (fun b o e=>?_) big pn pl (pg2.on fun b o mm e=>?_) (by rw[← hvs,← lv]; exact hm)⟩
  ·rw[sortedHeap_old (k2 b o e).2 (Heap.lt_size (k2 b o e).1)]
   exact (k2 b o e).1
  ·rw[sortedHeap_old (fun z:b=g1.objs.size=>pn (z ▸ mm)) (Heap.lt_size e)]
   exact e
end
section
variable {X:Cx}
theorem iP(hc:X.calm=true)(hu:X.A.units+64<cLine):CallR X (.builtin "sorted") (fun xs H Q=>∃(v d:Addr) (kvs:List (List Key×V)) (gs:List (List Int)),xs=[.ref v]∧H v=some (.ext (IV v d))∧Rd H d (.dT kvs)∧kvs.length<16000000∧kvs.map (·.1)=gs.map (fun x=>x.map Sum.inl)∧gs.Nodup ∧
  ∀(q:Addr) (o:List Nat) (f k:Nat→Addr) (H':Hp),Same H H'→H q=none→o.Perm (List.range gs.length)→(o.Pairwise fun i j=>aG (gs.getD j []) (gs.getD i [])=false)→(∀(i:Nat) (kv:List Key×V),kvs[i]? = some kv→H' (f i)=some (.tup [.ref (k i),kv.2])∧Row H (k i) (gs.getD i [])∧H (f i)=none) →
   H' q=some (.lst (o.map fun i=>V.ref (f i)))→Q (.ref q) H'):=by
 intro pins s σ H xs us Q I r h
 obtain ⟨v,d,kvs,gs,rfl,hv,hd,hz,hkey,gd,q⟩:=h
 obtain ⟨u,rfl,rx⟩:=eI r
 cases rx
 obtain ⟨z,nm,xs,rel,ob,es,ep,g1,g2,g3,g4,g5,g6⟩:=iZ I.hok hd
 have iv:s.heap.IsItemsView v d:=(show ObjOk X.prog X.w H s.heap v (.ext (IV v d)) from I.hok v _ hv).1
 have lx:kvs.length=xs.length:=Paired.length rel
 have lg:kvs.length=gs.length:=by have:=congrArg List.length hkey; rwa [length_map,length_map]at this
 have le:es.size=kvs.length:=by rw[lx,← Array.length_toList,g4,length_map]
 have row:∀ i kv,kvs[i]? = some kv→∃ x,xs[i]? = some x∧Row H x.2.1 (gs.getD i [])∧RelV kv.2 x.2.2:=fun i kv hkv=>by
  obtain ⟨x,hx,hH,rv⟩:=rel.at2 hkv
  refine ⟨x,hx,?_,rv⟩
  have e:=congrArg (fun l=>l[i]?) hkey
  simp only[List.getElem?_map,hkv]at e
  have ig:i<gs.length:=by rw[← lg]; exact (List.getElem?_eq_some_iff.mp hkv).1
  rw[List.getElem?_eq_getElem ig]at e
  have e:kv.1=gs[i].map Sum.inl:=Option.some.inj e
  show H x.2.1=_
  rw[hH,e,fG,show gs.getD i []=gs[i] by simp[List.getD,ig]]
 have ent:∀ i e,es[i]? = some e→∃ kv x,kvs[i]? = some kv∧xs[i]? = some x∧e.key=.ref x.2.1∧e.val=x.2.2∧Row H x.2.1 (gs.getD i [])∧RelV kv.2 x.2.2:=fun i e he=>by
  have il:i<kvs.length:=by rw[← le]; exact (Array.getElem?_eq_some_iff.mp he).1
  obtain ⟨kv,hkv⟩:∃ kv,kvs[i]? = some kv:=⟨_,List.getElem?_eq_getElem il⟩
  obtain ⟨x,hx,hr,rv⟩:=row i kv hkv
  rw[← Array.getElem?_toList,g4,List.getElem?_map,hx]at he
  cases he
  exact ⟨kv,x,hkv,hx,rfl,rfl,hr,rv⟩
 have kp:∀{g':Heap}{tk:Nat},(∀ b o,s.heap.get? b=some o→g'.get? b=some o)→Inv X pins σ H { s with heap:=g',toks:=tk }:=fun k=>I.kept k
 have U:=j4 gd (n:=es.size) (by lia)
 have T:=nV U
 have pr:∀{g':Heap}{ps:List Addr},HOk X.prog X.w H g'→DxG es s.heap.objs.size g' ps→∀ i a,ps[i]? = some a→Pr g' (gs.getD i []) a:=fun {g' ps} ok pg i a hi=>by
  obtain ⟨e,he,ho⟩:=pg.at_ i a hi
  obtain ⟨kv,x,_,_,e1,e2,hr,_⟩:=ent i e he
  exact ⟨_,_,_,x.2.1,e.val,ho,rfl,rfl,by rw[e1],jH ok hr⟩
 refine oR (κ:=tuples' false) (lt:=fun i j=>aG (gs.getD i []) (gs.getD j [])) (I.ok.hd hc) iv ⟨ob,g1,g2,g3⟩ (by lia) T U (fun h2 g' tk ps k pl pg Q' q'=>?_) (fun g' tk ps k pl pg i j hi hj hn C hC=>?_) fun q0 g' tk m ps k big pn pl pg at'=>?_
 ·exact mE (gs:=gs) (by lia) (fun i a hi=>pr (kp (tk:=tk) k).hok pg i a hi) (by lia) q'
 ·have J:=kp (tk:=tk) k
  obtain ⟨a,ea⟩:∃ a,ps[i]? = some a:=⟨_,List.getElem?_eq_getElem (by lia)⟩
  obtain ⟨b,eb⟩:∃ b,ps[j]? = some b:=⟨_,List.getElem?_eq_getElem (by lia)⟩
  unfold kas_ask
  rw[show (ps.map Value.ref).getD i Value.none=.ref a by rw[List.getD,List.getElem?_map,ea]; rfl,show (ps.map Value.ref).getD j Value.none=.ref b by rw[List.getD,List.getElem?_map,eb]; rfl]
  refine qI (by show X.A.units+1+1<cLine; lia) ?_ (pr J.hok pg i a ea) (pr J.hok pg j b eb) hC
  intro e
  have i1:i<gs.length:=by lia
  have j1:j<gs.length:=by lia
  rw[show gs.getD i []=gs[i] by simp[List.getD,i1],show gs.getD j []=gs[j] by simp[List.getD,j1]]at e
  rcases Nat.lt_or_gt_of_ne hn with y | y
  ·exact (pairwise_iff_getElem.mp gd i j i1 j1 y) e
  ·exact (pairwise_iff_getElem.mp gd j i j1 i1 y) e.symm
 ·classical
  have pm:=fT T
  have pa:=jW T (.inr U)
  generalize ee (fun i j=>aG (gs.getD i []) (gs.getD j [])) es.size=o at pm pa at'
  have small:sizeLine=16777216:=sizeLine_eq
  have uq:∀ i j a,ps[i]? = some a→ps[j]? = some a→i=j:=fun i j a hi hj=>by
   obtain ⟨i1,e1⟩:=List.getElem?_eq_some_iff.mp hi
   obtain ⟨j1,e2⟩:=List.getElem?_eq_some_iff.mp hj
   rcases Nat.lt_trichotomy i j with y | y | y
   ·have:=pairwise_iff_getElem.mp pg.up i j i1 j1 y
    rw[e1,e2]at this; exact absurd this (Nat.lt_irrefl _)
   ·exact y
   ·have:=pairwise_iff_getElem.mp pg.up j i j1 i1 y
    rw[e1,e2]at this; exact absurd this (Nat.lt_irrefl _)
  obtain ⟨f,hf⟩:∃ f:Nat→Addr,∀ i a,ps[i]? = some a→f i=a:=⟨fun i=>ps.getD i 0,fun i a hi=>by simp[List.getD,hi]⟩
  obtain ⟨kk,hkk⟩:∃ kk:Nat→Addr,∀ i x,xs[i]? = some x→kk i=x.2.1:=⟨fun i=>match xs[i]? with | some x=>x.2.1 | none=>0,fun i x hx=>by simp only[hx]⟩
  let P:Addr→HO→Prop:=fun b o'=>∃ i kv,ps[i]? = some b∧kvs[i]? = some kv∧o'=.tup [.ref (kk i),kv.2]
  let H':Hp:=fun b=>if b=q0 then some (.lst (o.map fun i=>V.ref (f i))) else if hb:∃ o',P b o' then some (Classical.choose hb) else H b
  have hq:H' q0=some (.lst (o.map fun i=>V.ref (f i))):=if_pos rfl
  have hp:∀ i kv a,ps[i]? = some a→kvs[i]? = some kv→H' a=some (.tup [.ref (kk i),kv.2]):=fun i kv a hi hkv=>by
   have na:a≠q0:=fun z=>pn (z ▸ List.mem_of_getElem? hi)
   have hb:∃ o',P a o':=⟨_,i,kv,hi,hkv,rfl⟩
   show (if a=q0 then _ else if hb:∃ o',P a o' then some (Classical.choose hb) else H a)=_
   rw[if_neg na,dif_pos hb]
   obtain ⟨j,kv',hj,hkv',e⟩:=Classical.choose_spec hb
   rw[e]
   obtain rfl:=uq i j a hi hj
   rw[hkv]at hkv'; cases hkv'; rfl
  have lo:∀ b,b≠q0→b ∉ ps→H' b=H b:=fun b nb np=>by
   show (if b=q0 then _ else if hb:∃ o',P b o' then some (Classical.choose hb) else H b)=_
   rw[if_neg nb,dif_neg fun ⟨o',i,kv,hi,_⟩=>np (List.mem_of_getElem? hi)]
  have low:∀ b,b<s.heap.objs.size→H' b=H b:=fun b hb=>lo b (Nat.ne_of_lt (Nat.lt_of_lt_of_le hb big)) fun m=>absurd (pg.hi b m) (Nat.lt_asymm hb)
  have same:Same H H':=fun b o' e=>by
   rcases Nat.lt_or_ge b s.heap.objs.size with y | y
   ·rw[low b y]; exact e
   ·rw[I.hok.fresh y]at e; cases e
  have J:Inv X pins σ H' { s with heap:=g',toks:=tk }:=I.more (t':=tk) k low fun b o' hb e=>by
   by_cases nb:b=q0
   ·subst nb
    rw[hq]at e
    cases e
    refine ⟨by rw[length_map,pm.length_eq,length_range]; lia,_,m,?_,at'⟩
    refine fW (vs:=ps.map Value.ref) (fun i=>V.ref (f i)) fun i hi=>?_
    have il:i<ps.length:=by rw[pl]; exact mem_range.mp (pm.mem_iff.mp hi)
    rw[hf i ps[i] (List.getElem?_eq_getElem il),List.getD,List.getElem?_map,List.getElem?_eq_getElem il]
    rfl
   ·by_cases mb:b∈ps
    ·obtain ⟨i,hi⟩:=List.getElem?_of_mem mb
     obtain ⟨en,he,ho⟩:=pg.at_ i b hi
     obtain ⟨kv,x,hkv,hx,e1,e2,hr,rv⟩:=ent i en he
     rw[hp i kv b hi hkv]at e
     cases e
     refine ⟨by rw[small]; show 2≤16777216; decide,[.ref x.2.1,x.2.2],.cons (by show Value.ref x.2.1=Value.ref (kk i); rw[hkk i x hx]) (.cons rv .nil),_,ho,rfl,0,?_⟩
     rw[e1,e2]
    ·rw[lo b nb mb,I.hok.fresh hb]at e
     cases e
  refine ⟨.ref q0,H',J,rfl,q q0 o f kk H' same (I.hok.fresh big) (by rw[← lg,← le]; exact pm) pa (fun i kv hkv=>?_) hq⟩
  have il:i<ps.length:=by rw[pl,le]; exact (List.getElem?_eq_some_iff.mp hkv).1
  have hi:=List.getElem?_eq_getElem il
  obtain ⟨x,hx,hr,_⟩:=row i kv hkv
  rw[hf i _ hi,hkk i x hx]
  exact ⟨by rw[hp i kv _ hi hkv,hkk i x hx],hr,I.hok.fresh (Nat.le_of_lt (pg.hi _ (getElem_mem il)))⟩
end
end L2
namespace My
open PySem L2 FrM
def qJ(K:Frag)(D C:Addr):Bool:=mroIn K D (.ref C) == some true
def top(i:Nat):Stmt:=PySem.Challenge.pw_fewspeak_k14_tables.main.body.getD i (.Pass ⟨0,0,0,0⟩)
abbrev aT:Stmt:=cO (top 3) 0
abbrev aE:Stmt:=top 6
abbrev aF:Stmt:=top 7
abbrev cW:Stmt:=top 8
abbrev cV:Stmt:=top 9
abbrev aH:Stmt:=cO (top 15) 0
abbrev aK:Stmt:=cO (top 15) 1
abbrev bj:Stmt:=cO (top 15) 2
abbrev aW:Stmt:=cO (top 15) 3
abbrev aU:Stmt:=cO (top 15) 4
abbrev aJ:Stmt:=cO (top 16) 0
abbrev aN:Stmt:=cO (top 16) 1
abbrev bC:Stmt:=cO (top 16) 2
abbrev bi:Stmt:=cO (top 16) 3
abbrev be:Stmt:=cO (top 16) 4
abbrev bR:Stmt:=top 18
abbrev cS:Stmt:=top 19
abbrev bu:Stmt:=top 20
abbrev aV:Stmt:=top 21
abbrev cu:Stmt:=top 23
abbrev cU:Stmt:=top 24
abbrev bG:Stmt:=top 25
abbrev cA:Stmt:=top 26
abbrev bQ:Stmt:=top 27
abbrev cD:Stmt:=top 28
abbrev cB:Stmt:=top 29
abbrev bY:Stmt:=top 30
abbrev cv:Stmt:=top 31
abbrev bh:Stmt:=top 32
abbrev bD:Stmt:=top 33
abbrev cR:Stmt:=top 34
abbrev bf:Stmt:=top 35
abbrev cq:Stmt:=top 36
abbrev bE:Stmt:=top 37
abbrev aO:Stmt:=top 38
abbrev bH:Stmt:=top 39
abbrev cF:Stmt:=top 40
abbrev fm:Stmt:=top 41
theorem fS{N P:List Str}{sc:Scope}(a:sc.kind=.function)(b:sc.isCoroutine=false)(c:sc.isGenerator=false)(d:N.take P.length=P)(h:N.Nodup∧(∀ x∈P,sc.names.lookup x = some .local ∨ sc.names.lookup x = some .cell)∧∀ y∈sc.names,y.2≠.free):FnScope N P sc:=⟨a,b,c,h.1,d,h.2.1,h.2.2⟩
theorem sc_d:FnScope ["one","other"] ["one","other"] (ae aE):=fS rfl rfl rfl rfl (by decide +kernel)
theorem sc_e:FnScope ["numbers","found","number"] ["numbers"] (ae aF):=fS rfl rfl rfl rfl (by decide +kernel)
theorem sc_H:FnScope ["top","bottom","divisor"] ["top","bottom"] (ae cW):=fS rfl rfl rfl rfl (by decide +kernel)
theorem sc_P:FnScope ["fractions","bottom"] ["fractions"] (ae cV):=fS rfl rfl rfl rfl (by decide +kernel)
theorem fM:FnScope ["self","kept"] ["self","kept"] (ae aH):=fS rfl rfl rfl rfl (by decide +kernel)
theorem gz:FnScope ["self"] ["self"] (ae aK):=fS rfl rfl rfl rfl (by decide +kernel)
theorem js:FnScope ["self"] ["self"] (ae bj):=fS rfl rfl rfl rfl (by decide +kernel)
theorem iQ:FnScope ["self"] ["self"] (ae aW):=fS rfl rfl rfl rfl (by decide +kernel)
theorem iO:FnScope ["self"] ["self"] (ae aU):=fS rfl rfl rfl rfl (by decide +kernel)
theorem gB:FnScope ["self","parts"] ["self","parts"] (ae aJ):=fS rfl rfl rfl rfl (by decide +kernel)
theorem gW:FnScope ["self"] ["self"] (ae aN):=fS rfl rfl rfl rfl (by decide +kernel)
theorem km:FnScope ["self"] ["self"] (ae bC):=fS rfl rfl rfl rfl (by decide +kernel)
theorem jF:FnScope ["self"] ["self"] (ae bi):=fS rfl rfl rfl rfl (by decide +kernel)
theorem jO:FnScope ["self"] ["self"] (ae be):=fS rfl rfl rfl rfl (by decide +kernel)
theorem sc_D:FnScope ["node","ways","ahead","here","top","bottom","sides"] ["node"] (ae bR):=fS rfl rfl rfl rfl (by decide +kernel)
theorem sc_I:FnScope ["node","found","kept","chance"] ["node"] (ae cS):=fS rfl rfl rfl rfl (by decide +kernel)
theorem sc_i:FnScope ["node","places","rows","bottom","tops","kept","chance","top","asked","one","other"] ["node","places"] (ae bu):=fS rfl rfl rfl rfl (by decide +kernel)
theorem iT:FnScope ["one","places","tops","bottom"] ["one","places","tops","bottom"] (ae aV):=fS rfl rfl rfl rfl (by decide +kernel)
theorem oX:FnScope ["_law_script","_law_k"] ["_law_script","_law_k"] (ae cu):=fS rfl rfl rfl rfl (by decide +kernel)
theorem sc_O:FnScope ["_law_cell_here","_law_k","_law_number"] ["_law_cell_here","_law_k"] (ae cU):=fS rfl rfl rfl rfl (by decide +kernel)
theorem sc_t:FnScope ["_law_cell_here","_law_number","_law_k"] ["_law_cell_here"] (ae bG):=fS rfl rfl rfl rfl (by decide +kernel)
theorem sc_g:FnScope ["_law_state","_law_many","_law_digit"] ["_law_state","_law_many"] (ae cA):=fS rfl rfl rfl rfl (by decide +kernel)
theorem lu:FnScope ["_law_found"] ["_law_found"] (ae bQ):=fS rfl rfl rfl rfl (by decide +kernel)
theorem sc_L:FnScope ["_law_state","_law_first","_law_step","_law_places_here","_law_bits"] ["_law_state"] (ae cD):=fS rfl rfl rfl rfl (by decide +kernel)
theorem sc_B:FnScope ["_law_state","_law_deep","_law_parts","_law_k","_law_many"] ["_law_state","_law_deep"] (ae cB):=fS rfl rfl rfl rfl (by decide +kernel)
abbrev gw:Expr:=(yq (yh bY 0))
def bP:LamD:=ww ((("_law_make" : Str) ++ ".<locals>.") ++ "<lambda>") gw
theorem pi:FnScope ["_law_tree_here"] ["_law_tree_here"] (ae bY):=fS rfl rfl rfl rfl (by decide +kernel)
theorem sc_F:FnScope ["_law_tree_here","_law_handed","_law_node_here"] ["_law_tree_here"] (ae cv):=fS rfl rfl rfl rfl (by decide +kernel)
theorem sc_y:FnScope ["_law_one","_law_other"] ["_law_one","_law_other"] (ae bh):=fS rfl rfl rfl rfl (by decide +kernel)
theorem sc_q:FnScope ["_law_top","_law_bottom","_law_many"] ["_law_top","_law_bottom"] (ae bD):=fS rfl rfl rfl rfl (by decide +kernel)
theorem rC:FnScope ["_law_one","_law_other"] ["_law_one","_law_other"] (ae cR):=fS rfl rfl rfl rfl (by decide +kernel)
theorem ju:FnScope ["_law_one","_law_other"] ["_law_one","_law_other"] (ae bf):=fS rfl rfl rfl rfl (by decide +kernel)
theorem sc_z:FnScope ["_law_tree_here","_law_much","_law_found","_law_kept_here","_law_sides","_law_many","_law_part"] ["_law_tree_here","_law_much","_law_found"] (ae cq):=fS rfl rfl rfl rfl (by decide +kernel)
theorem sc_p:FnScope ["_law_rows","_law_places_here","_law_due","_law_one","_law_row","_law_other","_law_total","_law_kept_here","_law_much"] ["_law_rows","_law_places_here"] (ae bE):=fS rfl rfl rfl rfl (by decide +kernel)
theorem sc_m:FnScope ["_law_rows","_law_much"] ["_law_rows"] (ae aO):=fS rfl rfl rfl rfl (by decide +kernel)
theorem sc_x:FnScope ["_law_tree_here","_law_state","_law_found","_law_others","_law_place"] ["_law_tree_here","_law_state"] (ae bH):=fS rfl rfl rfl rfl (by decide +kernel)
theorem sc_G:FnScope ["_law_many","_law_sides","_law_node_here","_law_found","_law_way","_law_told"] ["_law_many","_law_sides"] (ae cF):=fS rfl rfl rfl rfl (by decide +kernel)
theorem sc_Q:FnScope ["_law_script","_law_tree_here","_law_due","_law_node_here","_law_places_here","_law_handed","_law_lap","_law_found","_law_matrix_here","_law_row","_law_more","_law_total","_law_kept_here","_law_much","_law_cell_here"] ["_law_script"] (ae fm):=fS rfl rfl rfl rfl (by decide +kernel)
set_option genInjectivity false in
set_option genSizeOf false in
structure Ad where
 f_d:Addr
 d_d:FuncData
 f_e:Addr
 d_e:FuncData
 f_H:Addr
 d_H:FuncData
 f_P:Addr
 d_P:FuncData
 f_D:Addr
 d_D:FuncData
 f_I:Addr
 d_I:FuncData
 f_i:Addr
 d_i:FuncData
 f_A:Addr
 d_A:FuncData
 f_K:Addr
 d_K:FuncData
 f_O:Addr
 d_O:FuncData
 f_t:Addr
 d_t:FuncData
 f_g:Addr
 d_g:FuncData
 f_J:Addr
 d_J:FuncData
 f_L:Addr
 d_L:FuncData
 f_B:Addr
 d_B:FuncData
 f_h:Addr
 d_h:FuncData
 f_F:Addr
 d_F:FuncData
 f_y:Addr
 d_y:FuncData
 f_q:Addr
 d_q:FuncData
 f_M:Addr
 d_M:FuncData
 f_E:Addr
 d_E:FuncData
 f_z:Addr
 d_z:FuncData
 f_p:Addr
 d_p:FuncData
 f_m:Addr
 d_m:FuncData
 f_x:Addr
 d_x:FuncData
 f_G:Addr
 d_G:FuncData
 f_Q:Addr
 d_Q:FuncData
 c_n:Addr
 c_j:Addr
 i_j:Addr
 e_j:FuncData
 c_k:Addr
 c_N:Addr
 c_c:Addr
 i_c:Addr
 e_c:FuncData
 c_f:Addr
 i_f:Addr
 e_f:FuncData
 x_l:Addr
 y_l:FuncData
 x_o:Addr
 y_o:FuncData
 x_u:Addr
 y_u:FuncData
 x_C:Addr
 y_C:FuncData
 x_r:Addr
 y_r:FuncData
 x_v:Addr
 y_v:FuncData
 x_s:Addr
 y_s:FuncData
 x_w:Addr
 y_w:FuncData
 lc_h:Addr
 lp_h:Addr
abbrev gg:List (Pos×Str):=[(ya gw,((("_law_make" : Str) ++ ".<locals>.") ++ "<lambda>"))]
theorem pk:(gg).Pairwise fun x y=>¬(x.1.line=y.1.line∧x.1.col=y.1.col):=by decide +kernel
def tabs(a:Ad):kn:=[(a.lp_h,gg)]
theorem pF(a:Ad):(a.lp_h,gg)∈tabs a:=(.head _)
structure Txt(K:Frag)(mg:Str→Option Value)(a:Ad):Prop where
 lcd_h:a.d_h.code=.ref a.lc_h
 lch_h:codeHdIn K a.lc_h a.lp_h=true
 tnd:((tabs a).map (·.1)).Nodup
 F_d:Fun K "greatest_divisor" "greatest_divisor" aE a.f_d a.d_d
 B_d:Binds K a.d_d ["one","other"] []
 m_d:mg "greatest_divisor" = some (.ref a.f_d)
 F_e:Fun K "least_multiple" "least_multiple" aF a.f_e a.d_e
 B_e:Binds K a.d_e ["numbers"] []
 m_e:mg "least_multiple" = some (.ref a.f_e)
 F_H:Fun K "share" "share" cW a.f_H a.d_H
 B_H:Binds K a.d_H ["top","bottom"] []
 m_H:mg "share" = some (.ref a.f_H)
 F_P:Fun K "total" "total" cV a.f_P a.d_P
 B_P:Binds K a.d_P ["fractions"] []
 m_P:mg "total" = some (.ref a.f_P)
 F_D:Fun K "ways_of" "ways_of" bR a.f_D a.d_D
 B_D:Binds K a.d_D ["node"] []
 m_D:mg "ways_of" = some (.ref a.f_D)
 F_I:Fun K "table" "table" cS a.f_I a.d_I
 B_I:Binds K a.d_I ["node"] []
 m_I:mg "table" = some (.ref a.f_I)
 F_i:Fun K "matrix_of" "matrix_of" bu a.f_i a.d_i
 B_i:Binds K a.d_i ["node","places"] []
 m_i:mg "matrix_of" = some (.ref a.f_i)
 F_A:Fun K "matrix_row" "matrix_row" aV a.f_A a.d_A
 B_A:Binds K a.d_A ["one","places","tops","bottom"] []
 m_A:mg "matrix_row" = some (.ref a.f_A)
 F_K:Fun K "_law_cell" "_law_cell" cu a.f_K a.d_K
 B_K:Binds K a.d_K ["_law_script","_law_k"] []
 m_K:mg "_law_cell" = some (.ref a.f_K)
 F_O:Fun K "_law_mix" "_law_mix" cU a.f_O a.d_O
 B_O:Binds K a.d_O ["_law_cell_here","_law_k"] []
 m_O:mg "_law_mix" = some (.ref a.f_O)
 F_t:Fun K "_law_digits" "_law_digits" bG a.f_t a.d_t
 B_t:Binds K a.d_t ["_law_cell_here"] []
 m_t:mg "_law_digits" = some (.ref a.f_t)
 F_g:Fun K "_law_take" "_law_take" cA a.f_g a.d_g
 B_g:Binds K a.d_g ["_law_state","_law_many"] []
 m_g:mg "_law_take" = some (.ref a.f_g)
 F_J:Fun K "_law_whole" "_law_whole" bQ a.f_J a.d_J
 B_J:Binds K a.d_J ["_law_found"] []
 m_J:mg "_law_whole" = some (.ref a.f_J)
 F_L:Fun K "_law_kept" "_law_kept" cD a.f_L a.d_L
 B_L:Binds K a.d_L ["_law_state"] []
 m_L:mg "_law_kept" = some (.ref a.f_L)
 F_B:Fun K "_law_tree" "_law_tree" cB a.f_B a.d_B
 B_B:Binds K a.d_B ["_law_state","_law_deep"] []
 m_B:mg "_law_tree" = some (.ref a.f_B)
 F_h:Fun K "_law_make" "_law_make" bY a.f_h a.d_h
 B_h:Binds K a.d_h ["_law_tree_here"] []
 m_h:mg "_law_make" = some (.ref a.f_h)
 F_F:Fun K "_law_node" "_law_node" cv a.f_F a.d_F
 B_F:Binds K a.d_F ["_law_tree_here"] []
 m_F:mg "_law_node" = some (.ref a.f_F)
 F_y:Fun K "_law_divisor" "_law_divisor" bh a.f_y a.d_y
 B_y:Binds K a.d_y ["_law_one","_law_other"] []
 m_y:mg "_law_divisor" = some (.ref a.f_y)
 F_q:Fun K "_law_lowest" "_law_lowest" bD a.f_q a.d_q
 B_q:Binds K a.d_q ["_law_top","_law_bottom"] []
 m_q:mg "_law_lowest" = some (.ref a.f_q)
 F_M:Fun K "_law_sum" "_law_sum" cR a.f_M a.d_M
 B_M:Binds K a.d_M ["_law_one","_law_other"] []
 m_M:mg "_law_sum" = some (.ref a.f_M)
 F_E:Fun K "_law_product" "_law_product" bf a.f_E a.d_E
 B_E:Binds K a.d_E ["_law_one","_law_other"] []
 m_E:mg "_law_product" = some (.ref a.f_E)
 F_z:Fun K "_law_walk" "_law_walk" cq a.f_z a.d_z
 B_z:Binds K a.d_z ["_law_tree_here","_law_much","_law_found"] []
 m_z:mg "_law_walk" = some (.ref a.f_z)
 F_p:Fun K "_law_matrix" "_law_matrix" bE a.f_p a.d_p
 B_p:Binds K a.d_p ["_law_rows","_law_places_here"] []
 m_p:mg "_law_matrix" = some (.ref a.f_p)
 F_m:Fun K "_law_fractions" "_law_fractions" aO a.f_m a.d_m
 B_m:Binds K a.d_m ["_law_rows"] []
 m_m:mg "_law_fractions" = some (.ref a.f_m)
 F_x:Fun K "_law_places" "_law_places" bH a.f_x a.d_x
 B_x:Binds K a.d_x ["_law_tree_here","_law_state"] []
 m_x:mg "_law_places" = some (.ref a.f_x)
 F_G:Fun K "_law_wide" "_law_wide" cF a.f_G a.d_G
 B_G:Binds K a.d_G ["_law_many","_law_sides"] []
 m_G:mg "_law_wide" = some (.ref a.f_G)
 F_Q:Fun K "law" "law" fm a.f_Q a.d_Q
 m_Q:mg "law" = some (.ref a.f_Q)
 g_MOST_WAYS:∃ u,mg "MOST_WAYS" = some u∧RelV (.int 4096) u
 mc_n:mg "SpeakError" = some (.ref a.c_n)
 xh_n:XHd K a.c_n
 mc_k:mg "TooMany" = some (.ref a.c_k)
 kc_TooMany:keepIn K (.ref a.c_k)=true
 xc_k:XCls K a.c_k
 xh_k:XHd K a.c_k
 xi_TooMany:xIn K a.c_k none=true
 mc_c:mg "Told" = some (.ref a.c_c)
 cl_c:Cls K a.c_c
 mk_c:Mk K a.c_c a.i_c
 Fi_c:Fun K "__init__" "Told.__init__" aH a.i_c a.e_c
 Bi_c:Binds K a.e_c ["self","kept"] []
 na_Told_rising:NoAttr K a.c_c "rising"
 mt_l:Meth K a.c_c "is_told" a.x_l
 mt_u:Meth K a.c_c "kept" a.x_u
 mt_r:Meth K a.c_c "sides" a.x_r
 mt_s:Meth K a.c_c "parts" a.x_s
 mc_f:mg "Die" = some (.ref a.c_f)
 cl_f:Cls K a.c_f
 mk_f:Mk K a.c_f a.i_f
 Fi_f:Fun K "__init__" "Die.__init__" aJ a.i_f a.e_f
 Bi_f:Binds K a.e_f ["self","parts"] []
 na_Die_makes:NoAttr K a.c_f "makes"
 mt_o:Meth K a.c_f "is_told" a.x_o
 mt_C:Meth K a.c_f "kept" a.x_C
 mt_v:Meth K a.c_f "sides" a.x_v
 mt_w:Meth K a.c_f "parts" a.x_w
 F_l:Fun K "is_told" "Told.is_told" aK a.x_l a.y_l
 B_l:Binds K a.y_l ["self"] []
 F_o:Fun K "is_told" "Die.is_told" aN a.x_o a.y_o
 B_o:Binds K a.y_o ["self"] []
 F_u:Fun K "kept" "Told.kept" bj a.x_u a.y_u
 B_u:Binds K a.y_u ["self"] []
 F_C:Fun K "kept" "Die.kept" bC a.x_C a.y_C
 B_C:Binds K a.y_C ["self"] []
 F_r:Fun K "sides" "Told.sides" aW a.x_r a.y_r
 B_r:Binds K a.y_r ["self"] []
 F_v:Fun K "sides" "Die.sides" bi a.x_v a.y_v
 B_v:Binds K a.y_v ["self"] []
 F_s:Fun K "parts" "Told.parts" aU a.x_s a.y_s
 B_s:Binds K a.y_s ["self"] []
 F_w:Fun K "parts" "Die.parts" be a.x_w a.y_w
 B_w:Binds K a.y_w ["self"] []
 tm:qJ K a.c_k a.c_k=true
 z_abs:mg "abs" = none
 z_bool:mg "bool" = none
 z_int:mg "int" = none
 z_isinstance:mg "isinstance" = none
 z_len:mg "len" = none
 z_list:mg "list" = none
 z_range:mg "range" = none
 z_sorted:mg "sorted" = none
 z_sum:mg "sum" = none
 z_tuple:mg "tuple" = none
 z_zip:mg "zip" = none
 bl:∀(s:Shared) (u:Value),BindsTo s a.d_Q ⟨[u],[]⟩ [("_law_script",u)]
inductive spLaw(K:Frag)(ts:List Addr)(vs:List V)(H:Hp)(Q:VK)(_E:XK):Prop
 | mk(p:Addr)(ns:List Int)(h0:vs=[.ref p])(h1:SqL K H p (ns.map V.int))(h2:ns.length≤63)(h3:(∀ P∈ts,H P=some (.tbl #[])))(h4:∀ H',Q (.bl true) H'):spLaw K ts vs H Q _E
theorem law_start{K:Frag}{ts:List Addr}{H:Hp}{a:Addr}{ns:List Int}(hl:ns.length≤63)(hT:∀ P∈ts,H P=some (.tbl #[]))(hS:SqL K H a (ns.map V.int)):spLaw K ts [.ref a] H (fun v _=>v=.bl true) fun _ _ _=>False:=⟨a,ns,rfl,hS,hl,hT,fun _=>rfl⟩
def qN(ns:List Int)(k:Int):Int:=if k<(ns.length:Int) then ns.getD k.toNat 0 else 7919*k+13
inductive spCell(K:Frag)(vs:List V)(H:Hp)(Q:VK)(_E:XK):Prop
 | mk(p:Addr)(ns:List Int)(k:Int)(h0:vs=[.ref p,.int k])(h1:SqL K H p (ns.map V.int))(h2:ns.length≤63)(h3:0≤k)(h4:k≤1000)(h5:Q (.int (qN ns k)) H):spCell K vs H Q _E
inductive spMix(vs:List V)(H:Hp)(Q:VK)(_E:XK):Prop
 | mk(c k:Int)(h0:vs=[.int c,.int k])(h1:0≤k)(h2:k≤1000)(h3:∀ r:Int,0≤r→Q (.int r) H):spMix vs H Q _E
def xj:Sp:=fun _ _ _ _=>False
inductive spDigits(vs:List V)(H:Hp)(Q:VK)(_E:XK):Prop
 | mk(c:Int)(h0:vs=[.int c])(h1:∀ p (n:Int),H p=none→Q (.ref p) (upd H p (.lst [.int n]))):spDigits vs H Q _E
inductive spTake(vs:List V)(H:Hp)(Q:VK)(_E:XK):Prop
 | mk(p:Addr)(n m:Int)(h0:vs=[.ref p,.int m])(h1:H p=some (.lst [.int n]))(h2:0<m)(h3:m≤1000000000000)(h4:∀(r n':Int),0≤r→r<m→Q (.int r) (upd H p (.lst [.int n']))):spTake vs H Q _E
def SameP(p:Addr)(H H':Hp):Prop:=∀ b o,b≠p→H b=some o→H' b=some o
theorem SameP.refl{p:Addr}{H:Hp}:SameP p H H:=fun _ _ _ e=>e
theorem SameP.trans{p:Addr}{H H' H2:Hp}(s:SameP p H H')(t:SameP p H' H2):SameP p H H2:=fun b o n e=>t b o n (s b o n e)
theorem SameP.of{p:Addr}{H H':Hp}(s:Same H H'):SameP p H H':=fun b o _ e=>s b o e
theorem SameP.put{p:Addr}{H:Hp}{o:HO}:SameP p H (upd H p o):=fun b o' n e=>by rw[ag n]; exact e
inductive spKept(vs:List V)(H:Hp)(Q:VK)(_E:XK):Prop
 | mk(p:Addr)(n:Int)(h0:vs=[.ref p])(h1:H p=some (.lst [.int n]))(h2:∀ H' q (n':Int) (ns:List Int),SameP p H H'→H' p=some (.lst [.int n'])→H q=none→H' q=some (.lst (ns.map V.int))→ns.length≤6∧ns.Nodup→Q (.ref q) H'):spKept vs H Q _E
section
variable {P:Program}{w:World}{K:Frag}{mg:Str→Option Value}{base:Heap}{a:Ad}
theorem wF{k:Nat}{f:Addr}{fd:FuncData}{ps:List Str}:FnOk P w K mg base CX0 k f fd ps xj:=⟨fun _ _ _ _ h=>h.elim,fun _ _ _ _ _ _ _ _ _ _ _ _ _ h=>h.elim⟩
theorem uw(T:Txt K mg a):FnOk P w K mg base CX0 1 a.f_K a.d_K ["_law_script","_law_k"] (spCell K):=by
 refine T.F_K.ok oX (fun vs H Q E h=>?_) (fun cdv A outer s H vs Q E hr h=>?_)
 ·obtain ⟨p,ns,k,rfl,_⟩:=h; rfl
 ·obtain ⟨p,ns,k,rfl,hS,hl,h0,h1,q⟩:=h
  refine ⟨_,(ah (db (cJ xb (vr 1) (aI eU rfl T.z_len jw (aa (vr 0) af)) (bM _)) (ao (aC (bN bv (vr 0) (vr 1) (fun _ _=>rfl)))) bU) (ao (aC (aB dD (aB bT ai (vr 1)) ai)))),iA ?_⟩
  intro zt2
  refine ⟨ns.map V.int,.inl hS,?_⟩
  rw[length_map]
  unfold qN at q
  refine yc (fun c=>?_) (fun c=>?_)
  ·have c':k<(ns.length:Int):=of_decide_eq_true c
   rw[if_pos c']at q
   refine .inl ⟨p,_,k,.int (ns.getD k.toNat 0),rfl,rfl,hS,?_,q⟩
   have e:((k.toNat:Nat):Int)=k:=by omega
   rw[← e]
   refine cN ?_
   have hk:k.toNat<ns.length:=by omega
   rw[e]
   simp[List.getElem?_map,List.getD,hk]
  ·have c':¬k<(ns.length:Int):=fun z=>c (decide_eq_true z)
   rw[if_neg c']at q
   exact ⟨clB,q⟩
theorem wm(T:Txt K mg a):FnOk P w K mg base CX0 1 a.f_O a.d_O ["_law_cell_here","_law_k"] spMix:=by
 refine T.F_O.ok sc_O (fun vs H Q E h=>?_) (fun cdv A outer s H vs Q E hr h=>?_)
 ·obtain ⟨c,k,rfl,_⟩:=h; rfl
 ·obtain ⟨c,k,rfl,h0,h1,q⟩:=h
  refine ⟨_,(ah (ax (i:=2) sc_O.nd rfl (Or.inl rfl) (aB dM (aB bT (aB dD (vr 0) (aB bT ai (vr 1))) ai) ai)) (ah (ax (i:=2) sc_O.nd rfl (Or.inl rfl) (aB dM (aB bT (vr 2) (vr 2)) ai)) (ao (aC (aB dM (aB dD (aB dD (aB bT (vr 2) (vr 2)) (aB bT ai (vr 2))) (vr 1)) ai))))),jd ?_⟩
  intro zt3 zt2
  exact ⟨clB,crB,cp,clB (by omega) (by omega),cp,clB (by omega) (by omega),clB,cp,q _ (by omega)⟩
theorem pJ(T:Txt K mg a):FnOk P w K mg base CX0 2 a.f_t a.d_t ["_law_cell_here"] spDigits:=by
 have G_O:FnOk P w K mg base CX0 1 _ _ _ spMix:=wm T
 refine T.F_t.ok sc_t (fun vs H Q E h=>?_) (fun cdv A outer s H vs Q E hr h=>?_)
 ·obtain ⟨c,rfl,_⟩:=h; rfl
 ·obtain ⟨c,rfl,q⟩:=h
  refine ⟨_,(ah (db (PW.pt (lE (cJ oK (aB dM (vr 0) ai) ai (bM _)) (jK (cJ ut (aI iu rfl T.z_abs mG (aa (vr 0) af)) (aB uF ai ai) (bM _))))) (ao (aC (cI (aa (aB cK (vr 0) ai) af)))) bU) (ah (ax (i:=1) sc_t.nd rfl (Or.inl rfl) ai) (ah (b7 PassesOwn.never rfl (b9 rfl T.z_range (aa ai af)) (ar (i:=2) sc_t.nd rfl (Or.inl rfl)) (ao (ax (i:=1) sc_t.nd rfl (Or.inl rfl) (aB dD (aB bT (vr 1) ai) (aq G_O hr rfl T.m_O T.F_O.kp T.B_O .nil aA (aa (vr 0) (aa (vr 2) af))))))) (ao (aC (cI (aa (vr 1) af))))))),mR ?_⟩
  intro zt4 zt3 zt2
  have small:sizeLine=16777216:=sizeLine_eq
  have fin:∀ n:Int,([V.int n]:List V).length≤sizeLine:=fun n=>(by decide:1≤sizeLine)
  refine ⟨cp,ifC (fun _=>?_) fun _=>?_⟩
  ·refine ⟨c,rfl,cw,ifC (fun _=>?_) fun _=>?_⟩
   ·exact ⟨cdB (by decide) (show Bt 40 2 by unfold Bt; decide),fin _,fun p hp=>q p _ hp⟩
   ·refine ⟨24,rfl,by omega,by omega,?_⟩
    let Pw1:PvS:=fun i σ H'=>H'=H∧∃(n:Int) (x:Option V),σ=[some (.int c),some (.int n),x]
    refine dP Pw1 ⟨rfl,0,none,rfl⟩ ?_ ?_
    ·rintro i σ H' hi ⟨rfl,n,x,rfl⟩
     exact ⟨crB,c,_,rfl,by omega,by omega,fun r r0=>⟨rfl,_,_,rfl⟩⟩
    ·rintro σ H' ⟨rfl,n,x,rfl⟩
     exact ⟨fin _,fun p hp=>q p _ hp⟩
  ·refine ⟨24,rfl,by omega,by omega,?_⟩
   let Pw2:PvS:=fun i σ H'=>H'=H∧∃(n:Int) (x:Option V),σ=[some (.int c),some (.int n),x]
   refine dP Pw2 ⟨rfl,0,none,rfl⟩ ?_ ?_
   ·rintro i σ H' hi ⟨rfl,n,x,rfl⟩
    exact ⟨crB,c,_,rfl,by omega,by omega,fun r r0=>⟨rfl,_,_,rfl⟩⟩
   ·rintro σ H' ⟨rfl,n,x,rfl⟩
    exact ⟨fin _,fun p hp=>q p _ hp⟩
theorem jN(T:Txt K mg a):FnOk P w K mg base CX0 1 a.f_g a.d_g ["_law_state","_law_many"] spTake:=by
 refine T.F_g.ok sc_g (fun vs H Q E h=>?_) (fun cdv A outer s H vs Q E hr h=>?_)
 ·obtain ⟨p,n,m,rfl,_⟩:=h; rfl
 ·obtain ⟨p,n,m,rfl,hp,m0,m1,q⟩:=h
  refine ⟨_,(ah (ax (i:=2) sc_g.nd rfl (Or.inl rfl) (aB dM (bN bv (vr 0) ai (fun _ _=>rfl)) (vr 1))) (ah (qg (aB cK (bN bv (vr 0) ai (fun _ _=>rfl)) (vr 1)) (vU (vr 0) ai rE)) (ao (aC (vr 2))))),jd ?_⟩
  intro zt3 zt2
  refine .inl ⟨p,_,_,_,rfl,rfl,SqL.of hp,kr 0 rfl rfl,cp (by omega),?_⟩
  refine .inl ⟨p,_,_,_,rfl,rfl,SqL.of hp,kr 0 rfl rfl,cdB (by omega) (show Bt 40 m by unfold Bt; omega),?_⟩
  refine ⟨p,_,_,0,rfl,rfl,hp,rfl,?_⟩
  exact q _ _ (Int.emod_nonneg _ (by omega)) (Int.emod_lt_of_pos _ m0)
theorem sQ{r st:Int}(hst:st∈([1,3,7,9,11,13,17,19,33,77]:List Int)){i j:Nat}(hij:i<j)(hj:j<6):(r+st*(i:Int)) % 100≠(r+st*(j:Int)) % 100:=by
 have all:∀ st∈([1,3,7,9,11,13,17,19,33,77]:List Int),∀ k<6,0<k→(st*((k:Nat):Int)) % 100≠0:=by decide
 intro e
 have h1:=all st hst (j - i) (by omega) (by omega)
 have h2:st*((j - i:Nat):Int)=st*(j:Int) - st*(i:Int):=by rw[show ((j - i:Nat):Int)=(j:Int) - (i:Int) by omega,Int.mul_sub]
 rw[h2]at h1
 generalize st*(j:Int)=y at *
 generalize st*(i:Int)=x at *
 omega
theorem sA(T:Txt K mg a):FnOk P w K mg base CX0 2 a.f_L a.d_L ["_law_state"] spKept:=by
 have G_g:FnOk P w K mg base CX0 1 _ _ _ spTake:=jN T
 refine T.F_L.ok sc_L (fun vs H Q E h=>?_) (fun cdv A outer s H vs Q E hr h=>?_)
 ·obtain ⟨p,n,rfl,_⟩:=h; rfl
 ·obtain ⟨p,n,rfl,hp,q⟩:=h
  refine ⟨_,(tj (fi (ik (ax (i:=1) sc_L.nd rfl (Or.inr rfl) (aq G_g hr rfl T.m_g T.F_g.kp T.B_g .nil aA (aa (vr 0) (aa ai af))))) (fi (sM (i:=2) sc_L.nd rfl (Or.inr rfl) (vA bv (sH (cz ai (cz ai (cz ai (cz ai (cz ai (cz ai (cz ai (cz ai (cz ai (cz ai uj))))))))))) (aq G_g hr rfl T.m_g T.F_g.kp T.B_g .nil aA (aa (vr 0) (aa ai af))) (fun _ _=>rfl))) (fi (ik (ax (i:=3) sc_L.nd rfl (Or.inr rfl) (bJ rfl (N:=["_law_k","_law_first","_law_step"]) (ix:=[none,some 1,some 2]) ⟨rfl,rfl,rfl,rfl,⟨rfl,rfl,rfl,⟨rfl,rfl,rfl,trivial⟩⟩⟩ (b9 rfl T.z_range (aa ai af)) ⟨fun C s H fp=>ar (i:=0) (show List.Nodup (["_law_k","_law_first","_law_step"]:List Str) by decide +kernel) rfl (Or.inl rfl),fun C s H fp=>bz,fun C s H fp=>(aB dM (aB dD (vr 1) (aB bT (vr 2) (vr 0))) ai)⟩))) (fi (ik (ax (i:=4) sc_L.nd rfl (Or.inr rfl) (aq G_g hr rfl T.m_g T.F_g.kp T.B_g .nil aA (aa (vr 0) (aa ai af))))) (tZ (ik (aC (bJ rfl (N:=["_law_k","_law_places_here","_law_bits"]) (ix:=[none,some 3,some 4]) ⟨rfl,rfl,rfl,rfl,⟨rfl,rfl,rfl,⟨rfl,rfl,rfl,trivial⟩⟩⟩ (b9 rfl T.z_range (aa ai af)) ⟨fun C s H fp=>ar (i:=0) (show List.Nodup (["_law_k","_law_places_here","_law_bits"]:List Str) by decide +kernel) rfl (Or.inl rfl),fun C s H fp=>nU (cJ oK (aB wH (aB wJ (vr 2) (vr 0)) ai) ai (bM _)),fun C s H fp=>(bN (fH (K:=K) rfl) (vr 1) (vr 0) (fun _ _=>rfl))⟩))))))))),nC ?_⟩
  intro zt5 zt4 zt3 zt2
  have small:sizeLine=16777216:=sizeLine_eq
  refine ⟨p,n,100,rfl,hp,by omega,by omega,fun r1 n1 r10 r11=>?_⟩
  refine ⟨by show 10≤sizeLine; decide,fun l1 f1=>?_⟩
  have n1':l1≠p:=fun z=>by rw[z,ad]at f1; cases f1
  have z1:SameP p H (upd (upd H p (.lst [.int n1])) l1 (.lst [.int 1,.int 3,.int 7,.int 9,.int 11,.int 13,.int 17,.int 19,.int 33,.int 77])):=SameP.put.trans (SameP.of (Same.new f1))
  have e1:(upd (upd H p (.lst [.int n1])) l1 (.lst [.int 1,.int 3,.int 7,.int 9,.int 11,.int 13,.int 17,.int 19,.int 33,.int 77])) p=some (.lst [.int n1]):=by rw[ag (Ne.symm n1')]; exact ad
  have g1:(upd (upd H p (.lst [.int n1])) l1 (.lst [.int 1,.int 3,.int 7,.int 9,.int 11,.int 13,.int 17,.int 19,.int 33,.int 77])) l1=some (.lst [.int 1,.int 3,.int 7,.int 9,.int 11,.int 13,.int 17,.int 19,.int 33,.int 77]):=ad
  refine ⟨p,n1,10,rfl,e1,by omega,by omega,fun r2 n2 r20 r21=>?_⟩
  obtain ⟨v,hv,ev⟩:=qD (xs:=([1,3,7,9,11,13,17,19,33,77]:List Int).map V.int) r20 r21
  obtain ⟨st,hst,rfl⟩:=mem_map.mp hv
  have hst':0≤st∧st≤77:=by
   simp only[mem_cons,not_mem_nil,or_false]at hst
   omega
  have z2:=z1.trans (SameP.put (o:=.lst [.int n2]))
  have e2:(upd (upd (upd H p (.lst [.int n1])) l1 (.lst [.int 1,.int 3,.int 7,.int 9,.int 11,.int 13,.int 17,.int 19,.int 33,.int 77])) p (.lst [.int n2])) p=some (.lst [.int n2]):=ad
  have g2:(upd (upd (upd H p (.lst [.int n1])) l1 (.lst [.int 1,.int 3,.int 7,.int 9,.int 11,.int 13,.int 17,.int 19,.int 33,.int 77])) p (.lst [.int n2])) l1=some (.lst [.int 1,.int 3,.int 7,.int 9,.int 11,.int 13,.int 17,.int 19,.int 33,.int 77]):=by rw[ag n1']; exact ad
  refine .inl ⟨l1,([1,3,7,9,11,13,17,19,33,77]:List Int).map V.int,r2,.int st,rfl,rfl,SqL.of g2,ev,?_⟩
  generalize upd (upd (upd H p (.lst [.int n1])) l1 (.lst [.int 1,.int 3,.int 7,.int 9,.int 11,.int 13,.int 17,.int 19,.int 33,.int 77])) p (.lst [.int n2])=H2 at z2 e2
  refine ⟨6,rfl,by omega,by omega,fun D hD=>?_⟩
  let Pw3:PvL:=fun j ys H'=>Same H2 H'∧H' D=some (.lst ys)∧∃ ns:List Int,ys=ns.map V.int∧ns.length=j∧∀(i:Nat) (x:Int),ns[i]? = some x→x=(r1+st*(i:Int)) % 100
  refine eC (lo:=0) (n:=6) Pw3 ⟨Same.new hD,ad,[],rfl,rfl,(fun i x h=>by simp at h)⟩ (fun j ys H' h=>h.2.1) ?_ ?_
  ·rintro j ys H' P' hj ⟨s1,hD1,ns,rfl,hl,hv9⟩ hP
   refine ⟨⟨rfl,rfl,trivial⟩,clB (by omega) (by omega),cp,hD1,by rw[length_map]; omega,hP _ _ ⟨s1.put hD,ad,ns++[_],by rw[map_append]; rfl,by rw[length_append,hl]; rfl,fun i x hx=>?_⟩⟩
   rw[List.getElem?_append]at hx
   split at hx
   ·exact hv9 i x hx
   ·rename_i ge
    have i0:i=j:=by
     have:=(List.getElem?_eq_some_iff.mp hx).1
     simp at this; omega
    subst i0
    rw[hl,Nat.sub_self]at hx
    rw[← Option.some.inj hx,Int.zero_add]
  rintro ys H3 ⟨s3,hD3,ns,rfl,hl,hv9⟩
  have e3:=s3 _ _ e2
  have nD:D≠p:=fun z=>by rw[z,e2]at hD; cases hD
  refine ⟨p,n2,64,rfl,e3,by omega,by omega,fun r4 n4 r40 r41=>?_⟩
  have z4:=(z2.trans (SameP.of s3)).trans (SameP.put (o:=.lst [.int n4]))
  have e4:(upd H3 p (.lst [.int n4])) p=some (.lst [.int n4]):=ad
  have g4:(upd H3 p (.lst [.int n4])) D=some (.lst (ns.map V.int)):=by rw[ag nD]; exact hD3
  generalize upd H3 p (.lst [.int n4])=H4 at z4 e4 g4
  refine ⟨6,rfl,by omega,by omega,fun D2 hD2=>?_⟩
  have nD2:D2≠D:=fun z=>by rw[z,g4]at hD2; cases hD2
  let Pw4:PvL:=fun j ys H'=>Same H4 H'∧H' D2=some (.lst ys)∧∃ ms:List Int,ys=ms.map V.int∧ms.length≤j∧ms.Nodup∧∀ x∈ms,∃ i,i<j∧ns[i]? = some x
  refine eC (lo:=0) (n:=6) Pw4 ⟨Same.new hD2,ad,[],rfl,Nat.le_refl _,nodup_nil,(fun x hx=>by cases hx)⟩ (fun j ys H' h=>h.2.1) ?_ ?_
  ·rintro j ys H' P' hj ⟨s1,hD1,ms,rfl,hl2,nd2,in2⟩ hP
   refine ⟨⟨rfl,rfl,trivial⟩,cn (by omega),ifC (fun _=>?_) fun _=>?_⟩
   ·have hj':j<(ns.map V.int).length:=by rw[length_map]; omega
    refine .inl ⟨D,_,_,.int (ns.getD j 0),rfl,rfl,SqL.of (s1 _ _ g4),?_,hD1,by rw[length_map]; omega,hP _ _ ⟨s1.put hD2,ad,ms++[_],by rw[map_append]; rfl,by rw[length_append]; show ms.length+1≤j+1; omega,?_,fun x hx=>?_⟩⟩
    ·rw[Int.zero_add]
     exact cN (by rw[List.getElem?_map,List.getD]; rw[length_map]at hj'; simp[hj'])
    ·have ej:ns[j]? = some (ns.getD j 0):=by rw[length_map]at hj'; simp[List.getD,hj']
     refine nodup_append.mpr ⟨nd2,by simp,fun x hx y hy e=>?_⟩
     obtain ⟨i,hi,hix⟩:=in2 x hx
     rw[mem_singleton]at hy
     rw[e,hy]at hix
     exact sQ hst hi (by omega) ((hv9 i _ hix).symm.trans (hv9 j _ ej))
    ·have ej:ns[j]? = some (ns.getD j 0):=by rw[length_map]at hj'; simp[List.getD,hj']
     rcases mem_append.mp hx with hx | hx
     ·obtain ⟨i,hi,hix⟩:=in2 x hx
      exact ⟨i,by omega,hix⟩
     ·rw[mem_singleton.mp hx]; exact ⟨j,by omega,ej⟩
   ·exact hP _ _ ⟨s1,hD1,ms,rfl,by omega,nd2,fun x hx=>let ⟨i,hi,e⟩:=in2 x hx; ⟨i,by omega,e⟩⟩
  ·rintro ys H' ⟨s1,hD1,ms,rfl,hl2,nd2,in2⟩
   have nP:D2≠p:=fun z=>by rw[z,e4]at hD2; cases hD2
   refine q _ D2 n4 ms (z4.trans (SameP.of s1)) (s1 _ _ e4) ?_ hD1 ⟨hl2,nd2⟩
   cases hh:H D2 with
   | none=>rfl
   | some o=>rw[z4 _ _ nP hh]at hD2; cases hD2
end
open Tb (Tr)
def vp(H:Hp)(v:V)(ns:List Int):Prop:=∃ p,v=.ref p∧H p=some (.lst (ns.map V.int))∧ns.length≤6∧ns.Nodup
def PairR(H:Hp)(r:V→Tr→Prop)(pt:Int×Tr)(x:V):Prop:=∃ q w,x=.ref q∧H q=some (.tup [.int pt.1,w])∧1≤pt.1∧pt.1≤1000000000∧r w pt.2
def wN(H:Hp)(r:V→Tr→Prop)(v:V)(ps:List (Int×Tr)):Prop:=∃ p vs,v=.ref p∧H p=some (.tup vs)∧Paired (PairR H r) ps vs∧1≤ps.length∧ps.length≤4
def IsTree(H:Hp):Nat→V→Tr→Prop
 | 0=>fun v t=>match t with | .leaf ns=>vp H v ns | .die _=>False
 | d+1=>fun v t=>match t with | .leaf ns=>vp H v ns | .die ps=>wN H (IsTree H d) v ps
theorem aS{H:Hp}{v:V}{ns:List Int}:∀ d,IsTree H d v (.leaf ns)↔vp H v ns
 | 0=>Iff.rfl
 | _+1=>Iff.rfl
theorem dU{H:Hp}{v:V}{ps:List (Int×Tr)}:∀{d},IsTree H d v (.die ps)→∃ d',d=d'+1∧wN H (IsTree H d') v ps
 | 0,h=>False.elim h
 | d+1,h=>⟨d,rfl,h⟩
theorem ak{α β:Type}{r r':α→β→Prop}(h:∀ a b,r a b→r' a b):∀{as:List α}{bs:List β},Paired r as bs→Paired r' as bs
 | _,_,.nil=>.nil
 | _,_,.cons x t=>.cons (h _ _ x) (ak h t)
theorem dA{α β:Type}{r:α→β→Prop}{a:α}{b:β}(h:r a b):∀{as:List α}{bs:List β},Paired r as bs→Paired r (as++[a]) (bs++[b])
 | _,_,.nil=>.cons h .nil
 | _,_,.cons x t=>.cons x (dA h t)
theorem aw{α β:Type}{r:α→β→Prop}:∀{as:List α}{bs:List β}{i:Nat}{y:β},Paired r as bs→bs[i]? = some y→∃ x,as[i]? = some x∧r x y
 | _,_,_,_,.nil,h=>by cases h
 | _,_,0,_,.cons r _,h=>⟨_,rfl,by cases h; exact r⟩
 | _,_,i+1,_,.cons _ t,h=>aw (i:=i) t h
theorem PairR.t{H H':Hp}{r r':V→Tr→Prop}(s:SameT H H')(hr:∀ v t,r v t→r' v t)(pt:Int×Tr)(x:V)(h:PairR H r pt x):PairR H' r' pt x:=by
 obtain ⟨q,w,h1,h2,h3,h4,h5⟩:=h
 exact ⟨q,w,h1,s.at h2,h3,h4,hr _ _ h5⟩
theorem IsTree.t{H H':Hp}(s:SameT H H'):∀ d v t,IsTree H d v t→IsTree H' d v t
 | d,v,.leaf ns,h=>by
  obtain ⟨p,h1,h2,h3⟩:=(aS d).mp h
  exact (aS d).mpr ⟨p,h1,s.at h2,h3⟩
 | 0,v,.die ps,h=>False.elim h
 | d+1,v,.die ps,h=>by
  obtain ⟨p,vs,h1,h2,h3,h4,h5⟩:=h
  exact ⟨p,vs,h1,s.at h2,ak (PairR.t s (IsTree.t s d)) h3,h4,h5⟩
def nw(H:Hp)(P:Option Addr)(H':Hp):Hp:=fun b=>if (H b).isNone && (some b != P) then H' b else none
theorem iC{H H':Hp}{P:Option Addr}{b:Addr}(h:H b=none)(n:some b≠P):nw H P H' b=H' b:=by
 unfold nw; rw[h]; simp[n]
theorem gJ{H H':Hp}{P:Option Addr}{b:Addr}{o:HO}(h:nw H P H' b=some o):H b=none∧some b≠P∧H' b=some o:=by
 unfold nw at h
 split at h
 ·rename_i c
  simp at c
  exact ⟨c.1,c.2,h⟩
 ·cases h
def jr(D:Nat):Sp:=fun vs H Q _=>∃(p:Addr) (n:Int) (d:Nat),vs=[.ref p,.int (d:Nat)]∧d<D∧d≤4∧H p=some (.lst [.int n])∧∀ H' v (n':Int) t,SameP p H H'→H' p=some (.lst [.int n'])→IsTree (nw H none H') d v t→Q v H'
section
variable {P:Program}{w:World}{K:Frag}{mg:Str→Option Value}{base:Heap}{a:Ad}
theorem SameP.free{p:Addr}{H H':Hp}{n:Int}{b:Addr}(s:SameP p H H')(e:H' p=some (.lst [.int n]))(h:H' b=none):H b=none:=by
 cases hh:H b with
 | none=>rfl
 | some o=>rw[s b o (fun z=>by rw[z,e]at h; cases h) hh]at h; cases h
theorem pv(T:Txt K mg a)(D:Nat)(G_B:FnOk P w K mg base CX0 (D+2) a.f_B a.d_B ["_law_state","_law_deep"] (jr D)):FnOk P w K mg base CX0 (D+1+2) a.f_B a.d_B ["_law_state","_law_deep"] (jr (D+1)):=by
 have G_g:FnOk P w K mg base CX0 (D+2) _ _ _ spTake:=(jN T).mono (by lia)
 have G_L:FnOk P w K mg base CX0 (D+2) _ _ _ spKept:=(sA T).mono (by lia)
 refine T.F_B.ok sc_B (fun vs H Q E h=>?_) (fun cdv A outer s H vs Q E hr h=>?_)
 ·obtain ⟨p,n,d,rfl,_⟩:=h; rfl
 ·obtain ⟨p,n,d,rfl,hd,hd4,hp,q⟩:=h
  refine ⟨_,(ah (db (PW.pt (gY (cJ oK (vr 1) ai (bM _)) (iF (cJ oK (aq G_g hr rfl T.m_g T.F_g.kp T.B_g .nil aA (aa (vr 0) (aa ai af))) ai (bM _))))) (ao (aC (aq G_L hr rfl T.m_L T.F_L.kp T.B_L .nil aA (aa (vr 0) af)))) bU) (ah (ax (i:=2) sc_B.nd rfl (Or.inl rfl) (cI af)) (ah (b7 PassesOwn.never rfl (b9 rfl T.z_range (aa (aB dD ai (aq G_g hr rfl T.m_g T.F_g.kp T.B_g .nil aA (aa (vr 0) (aa ai af)))) af)) (ar (i:=3) sc_B.nd rfl (Or.inl rfl)) (ah (ax (i:=4) sc_B.nd rfl (Or.inl rfl) (aB dD ai (aq G_g hr rfl T.m_g T.F_g.kp T.B_g .nil aA (aa (vr 0) (aa (bN bv (cI (aa ai (aa ai (aa ai (aa (aB uF ai ai) af))))) (aq G_g hr rfl T.m_g T.F_g.kp T.B_g .nil aA (aa (vr 0) (aa ai af))) (fun _ _=>rfl)) af))))) (ao (cH (pe_m.append (vr 2) (aa (bO (aa (vr 4) (aa (aq G_B hr rfl T.m_B T.F_B.kp T.B_B .nil aA (aa (vr 0) (aa (aB xg (vr 1) ai) af))) af))) af)))))) (ao (aC (b8 dH rfl T.z_tuple fA (aa (vr 2) af))))))),mR ?_⟩
  intro zt4 zt3 zt2
  have small:sizeLine=16777216:=sizeLine_eq
  refine ifC (fun c=>?_) fun c=>?_
  ·refine ⟨p,n,rfl,hp,fun H' q' n' ns s1 e1 f1 e2 hl=>?_⟩
   exact q _ _ _ (.leaf ns) s1 e1 ((aS d).mpr ⟨q',rfl,by rw[iC f1 (by simp)]; exact e2,hl⟩)
  have d0:d≠0:=fun z=>c (by rw[z]; rfl)
  refine ⟨p,n,4,rfl,hp,by lia,by lia,fun r1 n1 r10 r11=>?_⟩
  have s1:SameP p H (upd H p (.lst [.int n1])):=SameP.put
  have e1:(upd H p (.lst [.int n1])) p=some (.lst [.int n1]):=ad
  generalize upd H p (.lst [.int n1])=H1 at s1 e1
  refine ifC (fun c=>?_) fun c=>?_
  ·refine ⟨p,n1,rfl,e1,fun H' q' n' ns s2 e2 f2 e3 hl=>?_⟩
   exact q _ _ _ (.leaf ns) (s1.trans s2) e2 ((aS d).mpr ⟨q',rfl,by rw[iC (s1.free e1 f2) (by simp)]; exact e3,hl⟩)
  refine ⟨Nat.zero_le _,fun Pp hPp=>?_⟩
  have nP:Pp≠p:=fun z=>by rw[z,e1]at hPp; cases hPp
  have fP:H Pp=none:=s1.free e1 hPp
  have s2:=s1.trans (SameP.of (Same.new (o:=.lst []) hPp))
  have e2:(upd H1 Pp (.lst [])) p=some (.lst [.int n1]):=by rw[ag (Ne.symm nP)]; exact e1
  have g2:(upd H1 Pp (.lst [])) Pp=some (.lst []):=ad
  generalize upd H1 Pp (.lst [])=H2 at s2 e2 g2
  refine ⟨p,n1,4,rfl,e2,by lia,by lia,fun r3 n3 r30 r31=>?_⟩
  refine ⟨1+r3,rfl,by lia,by lia,?_⟩
  have s3:=s2.trans (SameP.put (o:=.lst [.int n3]))
  have e3:(upd H2 p (.lst [.int n3])) p=some (.lst [.int n3]):=ad
  have g3:(upd H2 p (.lst [.int n3])) Pp=some (.lst []):=by rw[ag nP]; exact g2
  generalize upd H2 p (.lst [.int n3])=H3 at s3 e3 g3
  obtain ⟨d',rfl⟩:∃ d',d=d'+1:=⟨d - 1,by lia⟩
  let Pw1:PvS:=fun i σ H'=>∃(m:Int) (ps:List (Int×Tr)) (vs:List V) (x3 x4:Option V),SameP p H H'∧H' p=some (.lst [.int m])∧H' Pp=some (.lst vs)∧Paired (PairR (nw H (some Pp) H') (IsTree (nw H (some Pp) H') d')) ps vs∧ps.length=i∧σ=[some (.ref p),some (.int ((d'+1:Nat):Int)),some (.ref Pp),x3,x4]
  refine dP (lo:=0) (n:=(1+r3).toNat) Pw1 ⟨n3,[],[],none,none,s3,e3,g3,.nil,rfl,rfl⟩ ?_ ?_
  ·rintro i σ H' hi ⟨m,ps,vs,x3,x4,s4,e4,g4,hP,hl,rfl⟩
   refine ⟨cw,by show 4≤sizeLine; decide,fun l4 f4=>?_⟩
   have nl4:l4≠p:=fun z=>by rw[z,e4]at f4; cases f4
   have s5:Same H' (upd H' l4 (.lst [.int 3,.int 3,.int 12,.int ((10:Int) ^ (9:Int).toNat)])):=Same.new f4
   refine ⟨p,m,4,rfl,s5 _ _ e4,by lia,by lia,fun r5 n5 r50 r51=>?_⟩
   obtain ⟨v,hv,ev⟩:=qD (xs:=([3,3,12,(10:Int) ^ (9:Int).toNat]:List Int).map V.int) r50 r51
   obtain ⟨st,hst,rfl⟩:=mem_map.mp hv
   have hst':1≤st∧st≤1000000000:=by
    have e9:(10:Int) ^ (9:Int).toNat=1000000000:=by decide
    rw[e9]at hst
    simp only[mem_cons,not_mem_nil,or_false]at hst
    lia
   refine .inl ⟨l4,([3,3,12,(10:Int) ^ (9:Int).toNat]:List Int).map V.int,r5,.int st,rfl,rfl,SqL.of ((ag nl4).trans ad),ev,?_⟩
   refine ⟨p,n5,st,rfl,ad,by lia,by lia,fun r6 n6 r60 r61=>?_⟩
   have s6:SameP p H' (upd (upd (upd H' l4 (.lst [.int 3,.int 3,.int 12,.int ((10:Int) ^ (9:Int).toNat)])) p (.lst [.int n5])) p (.lst [.int n6])):=((SameP.of s5).trans SameP.put).trans SameP.put
   have g6:=s6 _ _ nP g4
   have e6:(upd (upd (upd H' l4 (.lst [.int 3,.int 3,.int 12,.int ((10:Int) ^ (9:Int).toNat)])) p (.lst [.int n5])) p (.lst [.int n6])) p=some (.lst [.int n6]):=ad
   refine ⟨.inl ⟨rfl,_,SqL.of g6⟩,⟨p,n6,d',?_,by lia,by lia,e6,fun H7 v n7 t s7 e7 it=>?_⟩⟩
   ·show [V.ref p,V.int (((d'+1:Nat):Int) - 1)]=[V.ref p,V.int (d':Int)]
    rw[show (((d'+1:Nat):Int) - 1)=(d':Int) by lia]
   have g7:=s7 _ _ nP g6
   have s47:=s6.trans s7
   refine ⟨by show 2≤sizeLine; decide,fun pt hpt=>?_⟩
   have nt:pt≠p:=fun z=>by rw[z,e7]at hpt; cases hpt
   have nt2:pt≠Pp:=fun z=>by rw[z,g7]at hpt; cases hpt
   have ft:H pt=none:=(s4.trans s47).free e7 hpt
   have s8:=Same.new (o:=.tup [.int (1+r6),v]) hpt
   have vl:vs.length=i:=by rw[← hl]; exact hP.length.symm
   refine ⟨Pp,vs,_,rfl,rfl,s8 _ _ g7,by lia,?_⟩
   have old:SameT (nw H (some Pp) H') (nw H (some Pp) (upd (upd H7 pt (.tup [.int (1+r6),v])) Pp (.lst (vs++[.ref pt])))):=Same.t fun b o h=>by
    obtain ⟨h1,h2,h3⟩:=gJ h
    have b1:b≠Pp:=fun z=>h2 (by rw[z])
    have b2:b≠p:=fun z=>by rw[z,hp]at h1; cases h1
    rw[iC h1 h2,ag b1]
    exact s8 _ _ (s47 _ _ b2 h3)
   have new:SameT (nw (upd (upd (upd H' l4 (.lst [.int 3,.int 3,.int 12,.int ((10:Int) ^ (9:Int).toNat)])) p (.lst [.int n5])) p (.lst [.int n6])) none H7) (nw H (some Pp) (upd (upd H7 pt (.tup [.int (1+r6),v])) Pp (.lst (vs++[.ref pt])))):=Same.t fun b o h=>by
    obtain ⟨h1,h2,h3⟩:=gJ h
    have b1:b≠Pp:=fun z=>by rw[z,g6]at h1; cases h1
    rw[iC ((s4.trans s6).free e6 h1) (fun z=>b1 (by cases z; rfl)),ag b1]
    exact s8 _ _ h3
   refine ⟨n7,ps++[(1+r6,t)],_,_,_,?_,?_,ad,dA ⟨pt,v,rfl,?_,by lia,by show 1+r6≤_; lia,IsTree.t new _ _ _ it⟩ (ak (PairR.t old (IsTree.t old _)) hP),by rw[length_append,hl]; rfl,rfl⟩
   ·intro b o n h
    have b1:b≠Pp:=fun z=>by rw[z,fP]at h; cases h
    rw[ag b1]
    exact s8 _ _ (s47 _ _ n (s4 _ _ n h))
   ·rw[ag (Ne.symm nP)]
    exact s8 _ _ e7
   ·rw[iC ft (fun z=>nt2 (by cases z; rfl)),ag nt2]
    exact ad
  ·rintro σ H' ⟨m,ps,vs,x3,x4,s4,e4,g4,hP,hl,rfl⟩
   refine ⟨Pp,vs,rfl,.inl ⟨SqL.of g4,fun l hl'=>?_⟩⟩
   have nl:l≠p:=fun z=>by rw[z,e4]at hl'; cases hl'
   have fl:H l=none:=s4.free e4 hl'
   refine q _ _ m (.die ps) (s4.trans (SameP.of (Same.new hl'))) (by rw[ag (Ne.symm nl)]; exact e4) ⟨l,vs,rfl,by rw[iC fl (by simp)]; exact ad,ak (PairR.t ?_ (IsTree.t ?_ _)) hP,by lia,by lia⟩
   all_goals
    refine Same.t fun b o h=>?_
    obtain ⟨h1,h2,h3⟩:=gJ h
    rw[iC h1 (by simp),ag (au h3 hl')]
    exact h3
theorem oq(T:Txt K mg a):∀ D,FnOk P w K mg base CX0 (D+2) a.f_B a.d_B ["_law_state","_law_deep"] (jr D)
 | 0=>⟨fun _ _ _ _ ⟨_,_,_,_,h,_⟩=>absurd h (Nat.not_lt_zero _),fun _ _ _ _ _ _ _ _ _ _ _ _ _ ⟨_,_,_,_,h,_⟩=>absurd h (Nat.not_lt_zero _)⟩
 | D+1=>pv T D (oq T D)
end
open Tb (Tr)
def Srt(ns kept:List Int):Prop:=ns.Perm kept∧ns.Pairwise (·≤·)
def IsTold(a:Ad)(H:Hp)(v:V)(kept:List Int):Prop:=∃ x dx t ns,v=.ref x∧H x=some (.ins a.c_c dx [("rising",.ref t)])∧H t=some (.tup (ns.map V.int))∧Srt ns kept
def IsLam(H:Hp)(d:LamD)(fv:List Str)(v:V)(vals:List V):Prop:=∃ f c clos,v=.ref f∧H f=some (.ext (iS f d clos c))∧H c=some (.ext (ez c d.qual))∧clos.map (·.1)=fv∧(clos.map (·.2)).Nodup∧CellsAt H clos vals
theorem nF{H H':Hp}(s:SameT H H'):∀{clos:List (Str×Addr)}{vals:List V},CellsAt H clos vals→CellsAt H' clos vals
 | _,_,.nil=>.nil
 | _,_,.cons r t=>.cons (s.at r) (nF s t)
theorem IsLam.t{H H':Hp}{d:LamD}{fv:List Str}{v:V}{vals:List V}(s:SameT H H')(h:IsLam H d fv v vals):IsLam H' d fv v vals:=by
 obtain ⟨f,c,clos,h1,h2,h3,h4,h5,h6⟩:=h
 exact ⟨f,c,clos,h1,s.at h2,s.at h3,h4,h5,nF s h6⟩
theorem IsTold.t{a:Ad}{H H':Hp}{v:V}{kept:List Int}(s:SameT H H')(h:IsTold a H v kept):IsTold a H' v kept:=by
 obtain ⟨x,dx,t,ns,h1,h2,h3,h4⟩:=h
 exact ⟨x,dx,t,ns,h1,s.at h2,s.at h3,h4⟩
abbrev fvT:List Str:=["_law_tree_here"]
def NodeR(H0 H:Hp)(d:Nat)(pt:Int×Tr)(y:V):Prop:=∃ q f w,y=.ref q∧H q=some (.tup [.int pt.1,f])∧IsLam H bP fvT f [w]∧1≤pt.1∧pt.1≤1000000000∧IsTree H0 d w pt.2
theorem NodeR.t{H0 H H':Hp}{d:Nat}(s:SameT H H')(pt:Int×Tr)(y:V)(h:NodeR H0 H d pt y):NodeR H0 H' d pt y:=by
 obtain ⟨q,f,w,h1,h2,h3,h4,h5,h6⟩:=h
 exact ⟨q,f,w,h1,s.at h2,h3.t s,h4,h5,h6⟩
def IsDie(a:Ad)(H0 H:Hp)(d:Nat)(v:V)(ps:List (Int×Tr)):Prop:=∃ x dx l ys,v=.ref x∧H x=some (.ins a.c_f dx [("makes",.ref l)])∧H l=some (.lst ys)∧Paired (NodeR H0 H d) ps ys∧1≤ps.length∧ps.length≤5000
theorem IsDie.t{a:Ad}{H0 H H':Hp}{d:Nat}{v:V}{ps:List (Int×Tr)}(s:SameT H H')(h:IsDie a H0 H d v ps):IsDie a H0 H' d v ps:=by
 obtain ⟨x,dx,l,ys,h1,h2,h3,h4,h5,h6⟩:=h
 exact ⟨x,dx,l,ys,h1,s.at h2,s.at h3,ak (NodeR.t s) h4,h5,h6⟩
def IsNode(a:Ad)(H0 H:Hp)(d:Nat)(v:V):Tr→Prop
 | .leaf ns=>IsTold a H v ns
 | .die ps=>∃ d',d=d'+1∧IsDie a H0 H d' v ps
theorem IsNode.t{a:Ad}{H0 H H':Hp}{d:Nat}{v:V}(s:SameT H H'):∀{t:Tr},IsNode a H0 H d v t→IsNode a H0 H' d v t
 | .leaf _,h=>IsTold.t s h
 | .die _,⟨d',e,h⟩=>⟨d',e,h.t s⟩
inductive spToldI(a:Ad)(vs:List V)(H:Hp)(Q:VK)(_E:XK):Prop
 | mk(x dx l:Addr)(ns:List Int)(h0:vs=[.ref x,.ref l])(h1:H x=some (.ins a.c_c dx []))(h2:H l=some (.lst (ns.map V.int)))(h3:ns.length<64)(h4:∀ H' t ns',(∀ b o,b≠x→H b=some o→H' b=some o)→H' x=some (.ins a.c_c dx [("rising",.ref t)])→H' t=some (.tup (ns'.map V.int))→Srt ns' ns→Q .non H'):spToldI a vs H Q _E
inductive spDieI(a:Ad)(vs:List V)(H:Hp)(Q:VK)(_E:XK):Prop
 | mk(x dx l:Addr)(xs:List V)(h0:vs=[.ref x,.ref l])(h1:H x=some (.ins a.c_f dx []))(h2:H l=some (.lst xs))(h3:∀ H' t,H t=none→(∀ b o,b≠x→H b=some o→H' b=some o)→H' x=some (.ins a.c_f dx [("makes",.ref t)])→H' t=some (.lst xs)→Q .non H'):spDieI a vs H Q _E
def md(a:Ad):Sp:=fun vs H Q _=>∃ v,vs=[v]∧TabsOk (tabs a) H∧∀ H' f,SameT H H'→TabsOk (tabs a) H'→IsLam H' bP fvT f [v]→Q f H'
def sy(a:Ad)(H H':Hp)(u:V):Prop:=∀ x dx l,u=.ref x→H' x=some (.ins a.c_f dx [("makes",.ref l)])→H l=none
def ly(a:Ad):Sp:=fun vs H Q _=>∃ v d t H0,vs=[v]∧IsTree H0 d v t∧SameT H0 H∧TabsOk (tabs a) H∧∀ H' u,SameT H H'→TabsOk (tabs a) H'→IsNode a H0 H' d u t→sy a H H' u→Q u H'
section
variable {P:Program}{w:World}{K:Frag}{mg:Str→Option Value}{base:Heap}{a:Ad}
theorem tO(T:Txt K mg a):FnOk P w K mg base CX0 1 a.i_c a.e_c ["self","kept"] (spToldI a):=by
 refine T.Fi_c.ok fM (fun vs H Q E h=>?_) (fun cdv A outer s H vs Q E hr h=>?_)
 ·obtain ⟨x,dx,l,ns,rfl,_⟩:=h; rfl
 ·obtain ⟨x,dx,l,ns,rfl,hx,hl,hn,q⟩:=h
  refine ⟨_,(ao (pZ (vr 0) (b8 dH rfl T.z_tuple fA (aa (aI fj rfl T.z_sorted eL (aa (vr 1) af)) af)) rfl)),?_⟩
  refine ⟨l,ns,rfl,SqL.of hl,hn,fun p ns' hp hs fp=>?_⟩
  have s1:=Same.new (o:=.lst (ns'.map V.int)) fp
  refine ⟨p,_,rfl,.inl ⟨SqL.of ad,fun t ft=>?_⟩⟩
  have s2:=Same.new (o:=.tup (ns'.map V.int)) ft
  have s12:=s1.trans s2
  have nt:t≠x:=fun z=>by rw[z,s1 _ _ hx]at ft; cases ft
  refine ⟨x,a.c_c,dx,[],rfl,s12 _ _ hx,T.cl_c,T.na_Told_rising,(by decide),?_⟩
  exact q _ t ns' (fun b o n e=>by rw[ag n]; exact s12 _ _ e) ad (by rw[ag nt]; exact ad) ⟨hp,hs⟩
theorem qo(T:Txt K mg a):FnOk P w K mg base CX0 1 a.i_f a.e_f ["self","parts"] (spDieI a):=by
 refine T.Fi_f.ok gB (fun vs H Q E h=>?_) (fun cdv A outer s H vs Q E hr h=>?_)
 ·obtain ⟨x,dx,l,xs,rfl,_⟩:=h; rfl
 ·obtain ⟨x,dx,l,xs,rfl,hx,hl,q⟩:=h
  refine ⟨_,(ao (pZ (vr 0) (b8 cM rfl T.z_list dg (aa (vr 1) af)) rfl)),?_⟩
  refine ⟨l,xs,rfl,.inl (SqL.of hl),fun t ft=>?_⟩
  have s1:=Same.new (o:=.lst xs) ft
  have nt:t≠x:=fun z=>by rw[z,hx]at ft; cases ft
  refine ⟨x,a.c_f,dx,[],rfl,s1 _ _ hx,T.cl_f,T.na_Die_makes,(by decide),?_⟩
  exact q _ t ft (fun b o n e=>by rw[ag n]; exact s1 _ _ e) ad (by rw[ag nt]; exact ad)
theorem made{H1 H':Hp}{x dx:Addr}{o1 o2:HO}(hx:H1 x=none)(hd:H1 dx=none)(k:∀ b o,b≠x→(upd (upd H1 dx o1) x o2) b=some o→H' b=some o):Same H1 H':=fun b o e=>by
 refine k b o (au e hx) ?_
 rw[ag (au e hx),ag (au e hd)]
 exact e
theorem ni(T:Txt K mg a)(hB:Bm mg base):FnOk P w K mg base CX0 1 a.f_h a.d_h ["_law_tree_here"] (md a):=by
 refine T.F_h.okL T.lcd_h pi (by decide +kernel) (fun vs H Q E h=>?_) (fun A outer s H vs Q E hr h=>?_)
 ·obtain ⟨v,rfl,_⟩:=h; rfl
 ·obtain ⟨v,rfl,hT,q⟩:=h
  refine ⟨_,(v9 (vP (d:=bP) rfl T.lch_h hB rfl (by with_unfolding_all rfl) rfl (pF a) (.head _) T.tnd pk)),?_⟩
  refine ⟨hT,fun f1 c1 H2 t2 hT2 n1 ef1 ec1=>?_⟩
  exact fun H3 s3 hc=>q _ _ (t2.trans s3.t) (hT2.same s3) ⟨f1,c1,_,rfl,s3 _ _ ef1,s3 _ _ ec1,rfl,by simp,.cons (hc 0 _ _ _ rfl rfl (by with_unfolding_all rfl)) .nil⟩
theorem ou{H H':Hp}{D:Addr}(s:SameT H H')(h:H D=none):SameT H (untr H' D):=fun b o e=>by
 rw[av (au e h)]
 exact s b o e
theorem cL{H H':Hp}{D:Addr}(s:SameT H H'):SameT (untr H D) (untr H' D):=fun b o e=>by
 by_cases hb:b=D
 ·rw[hb,aQ]at e; cases e
 ·rw[av hb]at e ⊢
  exact s b o e
theorem dc{H:Hp}{D:Addr}{o:HO}:SameT (untr H D) (untr (upd H D o) D):=fun b o' e=>by
 by_cases hb:b=D
 ·rw[hb,aQ]at e; cases e
 ·rw[av hb]at e
  rw[av hb,ag hb]
  exact SameT.refl b o' e
theorem vY{H:Hp}{D:Addr}{o:HO}:SameT (untr H D) (upd H D o):=fun b o' e=>by
 by_cases hb:b=D
 ·rw[hb,aQ]at e; cases e
 ·rw[av hb]at e
  rw[ag hb]
  exact SameT.refl b o' e
theorem aX{α β:Type}{r:α→β→Prop}{as:List α}{x:α}{i:Nat}{ys:List β}{y:β}(h:Paired r (as.take i) ys)(e:as[i]? = some x)(q:r x y):Paired r (as.take (i+1)) (ys++[y]):=by
 rw[take_add_one,e]
 exact dA q h
theorem m5(T:Txt K mg a)(hB:Bm mg base):FnOk P w K mg base CX0 3 a.f_F a.d_F ["_law_tree_here"] (ly a):=by
 have G_c:FnOk P w K mg base CX0 1 _ _ _ (spToldI a):=tO T
 have G_f:FnOk P w K mg base CX0 1 _ _ _ (spDieI a):=qo T
 have G_h:FnOk P w K mg base CX0 2 _ _ _ _:=(ni T hB).mono (by decide)
 refine T.F_F.ok sc_F (fun vs H Q E h=>?_) (fun cdv A outer s H vs Q E hr h=>?_)
 ·obtain ⟨v,d,t,H0,rfl,_⟩:=h; rfl
 ·obtain ⟨v,d,t,H0,rfl,ht,s0,hT,q⟩:=h
  refine ⟨_,(ah (db (eF (aI dO rfl T.z_isinstance bB (aa (vr 0) (aa (dX (v:=.ty "list") rfl T.z_list dg rfl) af)))) (ao (aC (jT T.mk_c G_c hr rfl T.mc_c T.Bi_c .nil aA (aa (b8 cM rfl T.z_list dg (aa (vr 0) af)) af)))) bU) (ah (jI rfl (i:=1) sc_F.nd rfl rfl (by with_unfolding_all rfl) (N:=["_law_many","_law_part"]) (ix:=[none,none]) ⟨rfl,rfl,rfl,rfl,trivial⟩ (aY (vr 0)) ⟨fun C s H fp=>(dZ (K:=K) (n:=2) rfl rfl (aD (ar (i:=0) (show List.Nodup (["_law_many","_law_part"]:List Str) by decide +kernel) rfl (Or.inl rfl)) (aD (ar (i:=1) (show List.Nodup (["_law_many","_law_part"]:List Str) by decide +kernel) rfl (Or.inl rfl)) bV))),fun C s H fp=>bz,fun C s H fp=>(bO (aa (vr 0) (aa (aq G_h hr rfl T.m_h T.F_h.kp T.B_h .nil aA (aa (vr 1) af)) af)))⟩) (ah (ax (i:=2) sc_F.nd rfl (Or.inl rfl) (jT T.mk_f G_f hr rfl T.mc_f T.Bi_f .nil aA (aa (vr 1) af))) (ah (cH (pe_m.clear (vr 1))) (ao (aC (vr 2))))))),nC ?_⟩
  intro zt5 zt4 zt3 zt2
  have small:sizeLine=16777216:=sizeLine_eq
  cases t with
  | leaf ns =>
   obtain ⟨p,rfl,hp,hl⟩:=(aS d).mp ht
   have hp:=s0.at hp
   refine ⟨_,_,_,true,rfl,rfl,.lst hp,rfl,?_⟩
   refine ⟨p,_,rfl,.inl (SqL.of hp),fun l fl=>?_⟩
   have s1:=Same.new (o:=.lst (ns.map V.int)) fl
   have hr1:(upd H l (.lst (ns.map V.int))) l=some (.lst (ns.map V.int)):=ad
   generalize upd H l (.lst (ns.map V.int))=H1 at s1 hr1
   intro x dx hx hdx hne
   have s9:Same H1 (upd (upd H1 dx (.own x)) x (.ins a.c_c dx [])):=fun b o e=>by rw[ag (au e hx),ag (au e hdx)]; exact e
   refine ⟨x,dx,l,ns,rfl,ad,s9 _ _ hr1,by have:=hl.1; lia,fun H' t ns' k g1 g2 g3=>⟨rfl,?_⟩⟩
   have sm:=s1.trans (made hx hdx k)
   refine q _ _ sm.t (hT.same sm) ⟨x,dx,t,ns',rfl,g1,g2,g3⟩ fun x2 dx2 l2 e2 e3=>?_
   cases e2
   rw[g1]at e3
   injection e3 with e3
   injection e3 with _ _ e4
   injection e4 with e4 _
   injection e4 with e5 _
   exact absurd e5 (by decide)
  | die ps =>
   obtain ⟨d',rfl,p,vs,rfl,hp,hP,hl1,hl2⟩:=dU ht
   have hp:=s0.at hp
   refine ⟨_,_,_,false,rfl,rfl,.tup hp,rfl,?_⟩
   refine .inr ⟨⟨_,SqT.of hp⟩,fun D hD=>?_⟩
   have hTD:TabsOk (tabs a) (upd H D (.lst [])):=hT.same (Same.new hD)
   have ext:∀{H':Hp},TabsOk (tabs a) H'→∀{ys:List V}{ys':List V},H' D=some (.lst ys)→TabsOk (tabs a) (upd H' D (.lst ys')):=fun hT' ys ys' e=>hT'.put (fun ps z=>by rw[e]at z; cases z) fun φ z=>by rw[e]at z; cases z
   let Pw1:PvL:=fun i ys H'=>SameT H H'∧TabsOk (tabs a) H'∧H' D=some (.lst ys)∧i≤vs.length∧Paired (NodeR H0 (untr H' D) d') (ps.take i) ys
   refine ip (K:=K) (a:=p) (xs:=vs) Pw1
    ⟨(Same.new hD).t,hTD,ad,Nat.zero_le _,.nil⟩ (fun i ys H' h=>SqT.of (h.1.at hp)) (fun i ys H' h=>h.2.2.1) ?_ ?_
   ·rintro i y ys H' P' hy ⟨t1,hT1,hD1,hi,hc⟩ hP'
    obtain ⟨⟨many,t⟩,hpt,q1,w',rfl,hq1,m0,m1,hw⟩:=aw hP hy
    refine ⟨q1,_,rfl,SqT.of (t1.at (s0.at hq1)),rfl,_,_,rfl,_,_,rfl,rfl,trivial,?_⟩
    refine ⟨w',rfl,hT1,fun H2 f t2 hT2 hf=>?_⟩
    have hD2:=t2.at hD1
    refine ⟨by show 2≤sizeLine; decide,fun q2 hq2=>?_⟩
    have nq:q2≠D:=fun z=>by rw[z,hD2]at hq2; cases hq2
    have s3:=Same.new (o:=.tup [.int many,f]) hq2
    have hD3:=s3 _ _ hD2
    have ilt:i<vs.length:=(List.getElem?_eq_some_iff.mp hy).1
    have yl:ys.length≤4:=by rw[← hc.length,length_take]; lia
    have t13:=(t1.trans t2).trans s3.t
    refine ⟨hD3,by lia,hP' _ _ ⟨t13.put hD,ext (hT2.same s3) hD3,ad,ilt,aX (ak (NodeR.t ?_) hc) hpt ⟨q2,f,w',rfl,?_,?_,m0,m1,?_⟩⟩⟩
    ·exact (cL (t2.trans s3.t)).trans dc
    ·rw[av nq,ag nq]; exact ad
    ·have hf':IsLam (untr H2 D) bP fvT f [w']:=by
      obtain ⟨f',c,clos,g1,g2,g3,g4,g5,g6⟩:=hf
      have ne:∀ b φ,H2 b=some (.ext φ)→b≠D:=fun b φ e z=>by rw[z,hD2]at e; cases e
      refine ⟨f',c,clos,g1,by rw[av (ne _ _ g2)]; exact g2,by rw[av (ne _ _ g3)]; exact g3,g4,g5,?_⟩
      revert g6
      clear g2 g3 g4 g5
      generalize [w']=ws
      intro g6
      induction g6 with
      | nil=>exact .nil
      | cons r _ ih=>exact .cons (by rw[av (ne _ _ r)]; exact r) ih
     exact hf'.t ((cL s3.t).trans dc)
    ·exact hw
   ·rintro ys H' ⟨t1,hT1,hD1,hi,hc⟩
    rw[show vs.length=ps.length from hP.length.symm,take_length]at hc
    intro x dx hx hdx hne
    have s9:Same H' (upd (upd H' dx (.own x)) x (.ins a.c_f dx [])):=fun b o e=>by rw[ag (au e hx),ag (au e hdx)]; exact e
    refine ⟨x,dx,D,ys,rfl,ad,s9 _ _ hD1,fun H2 l fl k g1 g2=>⟨rfl,?_⟩⟩
    have s2:=made hx hdx k
    have hD2:=s2 _ _ hD1
    have nl:l≠D:=fun z=>by rw[z,s9 _ _ hD1]at fl; cases fl
    have nx:x≠D:=fun z=>by rw[z,hD1]at hx; cases hx
    refine ⟨.inl ⟨rfl,_,SqL.of hD2⟩,D,_,rfl,rfl,hD2,?_⟩
    refine q _ _ ((t1.trans s2.t).put hD) (ext (hT1.same s2) hD2) ⟨d',rfl,x,dx,l,ys,rfl,by rw[ag nx]; exact g1,by rw[ag nl]; exact g2,ak (NodeR.t ((cL s2.t).trans vY)) hc,hl1,by lia⟩ fun x2 dx2 l2 e2 e3=>?_
    cases e2
    rw[ag nx,g1]at e3
    cases e3
    exact (t1.trans s9.t).free fl
end
open Tb (Tr)
theorem TabsOk.untrs{tabs:kn}{H:Hp}{clos:List (Str×Addr)}{vals:List V}(hT:TabsOk tabs H)(ca:CellsAt H clos vals):TabsOk tabs (untrs H (clos.map (·.2))):=fun q hq=>by
 obtain ⟨ps,e1,e2,e3⟩:=hT q hq
 exact ⟨ps,du ca e1 (fun v z=>nomatch z),e2,fun l hl=>(e3 l hl).imp id fun ⟨c,x,y⟩=>⟨c,x,du ca y fun v=>jP⟩⟩
theorem back{H H' H3:Hp}{clos:List (Str×Addr)}(s:SameT (untrs H (clos.map (·.2))) H')(s3:Same H' H3)(hc:∀ p∈clos,H3 p.2=H p.2):SameT H H3:=fun b o e=>by
 by_cases hb:b∈clos.map (·.2)
 ·obtain ⟨p,hp,rfl⟩:=mem_map.mp hb
  rw[hc p hp,e]
  exact ⟨fun _=>rfl,o,rfl⟩
 ·exact (s.trans s3.t) b o (by rw[dN hb]; exact e)
def sqO:HO→Bool
 | .lst _=>true
 | .tup _=>true
 | _=>false
def SqH(H:Hp):Prop:=∀ b o,H b=some o→sqO o=true
def sqH(H:Hp):Hp:=fun b=>match H b with
 | some o=>if sqO o=true then some o else none
 | none=>none
theorem iG{H:Hp}{b:Addr}{o:HO}(e:sqH H b=some o):H b=some o∧sqO o=true:=by
 unfold sqH at e
 cases h:H b with
 | none=>rw[h]at e; cases e
 | some o' =>
  rw[h]at e
  dsimp only at e
  by_cases c:sqO o'=true
  ·rw[if_pos c]at e; cases e; exact ⟨rfl,c⟩
  ·rw[if_neg c]at e; cases e
theorem rS{H:Hp}{b:Addr}{o:HO}(c:sqO o=true)(e:H b=some o):sqH H b=some o:=by
 unfold sqH
 rw[e]
 exact if_pos c
theorem q5{H:Hp}:SqH (sqH H):=fun b o e=>(iG e).2
theorem IsTree.m{H H':Hp}(s:∀ b o,sqO o=true→H b=some o→H' b=some o):∀ d v t,IsTree H d v t→IsTree H' d v t
 | d,v,.leaf ns,h=>by
  obtain ⟨p,h1,h2,h3⟩:=(aS d).mp h
  exact (aS d).mpr ⟨p,h1,s _ _ rfl h2,h3⟩
 | 0,v,.die ps,h=>False.elim h
 | d+1,v,.die ps,h=>by
  obtain ⟨p,vs,h1,h2,h3,h4,h5⟩:=h
  exact ⟨p,vs,h1,s _ _ rfl h2,ak (fun pt x ⟨q,w,g1,g2,g3,g4,g5⟩=>⟨q,w,g1,s _ _ rfl g2,g3,g4,IsTree.m s d _ _ g5⟩) h3,h4,h5⟩
def spL(a:Ad):List V→Sp:=fun vals vs H Q _=>∃ w d t H0,vals=[w]∧vs=[]∧IsTree H0 d w t∧SameT H0 H∧TabsOk (tabs a) H∧SqH H0∧∀ H' u,SameT H H'→TabsOk (tabs a) H'→IsNode a H0 H' d u t→sy a H H' u→Q u H'
theorem lsT:LamScope bP fvT []:=⟨rfl,rfl,rfl,by decide +kernel,by decide +kernel,by decide +kernel,by decide +kernel,by decide +kernel⟩
def spV(u:V):Sp:=fun vs H Q _=>∃ v,vs=[v]∧Q u H
def xC(a:Ad):Sp:=fun vs H Q _=>∃ x dx t,vs=[.ref x]∧H x=some (.ins a.c_c dx [("rising",.ref t)])∧Q (.ref t) H
def xo:Sp:=fun vs H Q _=>∃ v,vs=[v]∧∀ l,H l=none→Q (.ref l) (upd H l (.lst []))
def wR(a:Ad):Sp:=fun vs H Q _=>∃ v H0 d ps,vs=[v]∧IsDie a H0 H d v ps∧∀ H',Same H H'→Q (.int (Tb.tot ps)) H'
def PartN(a:Ad)(Hs H0 H:Hp)(d:Nat)(pt:Int×Tr)(z:V):Prop:=∃ q u,z=.ref q∧H q=some (.tup [.int pt.1,u])∧IsNode a H0 H d u pt.2∧sy a Hs H u
section
variable {P:Program}{w:World}{K:Frag}{mg:Str→Option Value}{base:Heap}{a:Ad}
theorem w5(T:Txt K mg a):FnOk P w K mg base CX0 1 a.x_l a.y_l ["self"] (spV (.bl true)):=by
 refine T.F_l.ok gz (fun vs H Q E h=>?_) (fun cdv A outer s H vs Q E hr h=>?_)
 ·obtain ⟨v,rfl,_⟩:=h; rfl
 ·obtain ⟨v,rfl,q⟩:=h
  exact ⟨_,(ao (aC fu)),q⟩
theorem xB(T:Txt K mg a):FnOk P w K mg base CX0 1 a.x_r a.y_r ["self"] (spV (.int 0)):=by
 refine T.F_r.ok iQ (fun vs H Q E h=>?_) (fun cdv A outer s H vs Q E hr h=>?_)
 ·obtain ⟨v,rfl,_⟩:=h; rfl
 ·obtain ⟨v,rfl,q⟩:=h
  exact ⟨_,(ao (aC ai)),q⟩
theorem xr(T:Txt K mg a):FnOk P w K mg base CX0 1 a.x_u a.y_u ["self"] (xC a):=by
 refine T.F_u.ok js (fun vs H Q E h=>?_) (fun cdv A outer s H vs Q E hr h=>?_)
 ·obtain ⟨x,dx,t,rfl,_⟩:=h; rfl
 ·obtain ⟨x,dx,t,rfl,hx,q⟩:=h
  exact ⟨_,(ao (aC (lN (vr 0) rfl))),x,_,dx,_,_,rfl,hx,T.cl_c,T.na_Told_rising,rfl,q⟩
theorem xk(T:Txt K mg a):FnOk P w K mg base CX0 1 a.x_o a.y_o ["self"] (spV (.bl false)):=by
 refine T.F_o.ok gW (fun vs H Q E h=>?_) (fun cdv A outer s H vs Q E hr h=>?_)
 ·obtain ⟨v,rfl,_⟩:=h; rfl
 ·obtain ⟨v,rfl,q⟩:=h
  exact ⟨_,(ao (aC fu)),q⟩
theorem wu(T:Txt K mg a):FnOk P w K mg base CX0 1 a.x_C a.y_C ["self"] (spV .non):=by
 refine T.F_C.ok km (fun vs H Q E h=>?_) (fun cdv A outer s H vs Q E hr h=>?_)
 ·obtain ⟨v,rfl,_⟩:=h; rfl
 ·obtain ⟨v,rfl,q⟩:=h
  exact ⟨_,(ao (aC vv)),q⟩
theorem yj(T:Txt K mg a)(hB:Bm mg base):kD P w K mg base 4 bP fvT [] (spL a):=by
 have G_F:FnOk P w K mg base CX0 3 _ _ _ (ly a):=m5 T hB
 refine vw lsT (fun pm ctv clos c us hl=>match us,hl with | [],_=>rfl) (fun vals vs H Q E h=>?_) (fun A outer s H f c clos vals vs Q E hr hfv ca h=>?_)
 ·obtain ⟨w',d,t,H0,rfl,rfl,_⟩:=h; rfl
 ·obtain ⟨w',d,t,H0,rfl,rfl,ht,s0,hT,hcl,q⟩:=h
  refine ⟨_,(aq G_F hr rfl T.m_F T.F_F.kp T.B_F .nil aA (aa (vr 0) af)),?_⟩
  have s0':SameT H0 (untrs H (clos.map (·.2))):=fun b o e=>by
   have nb:b ∉ clos.map (·.2):=fun z=>by
    obtain ⟨v,e'⟩:=ca.at z
    have c:=hcl b o e
    have e2:=s0.at e (by cases o <;> first | rfl | cases c)
    rw[e']at e2
    cases e2
    cases c
   rw[dN nb]
   exact s0 b o e
  refine ⟨w',d,t,H0,rfl,ht,s0',TabsOk.untrs hT ca,fun H' v t' hT3 few nl=>fun H3 s3 hc=>?_⟩
  refine q _ _ (back t' s3 hc) (hT3.same s3) (few.t s3.t) fun x dx l e1 e2=>?_
  cases hh:H l with
  | none=>rfl
  | some o =>
   exfalso
   subst e1
   cases t with
   | leaf ns =>
    obtain ⟨x',dx',t2,ns2,e3,g1,_⟩:=few
    cases e3
    rw[s3 _ _ g1]at e2
    injection e2 with e2
    injection e2 with _ _ e4
    injection e4 with e4 _
    injection e4 with e5 _
    exact absurd e5 (by decide)
   | die ps =>
    obtain ⟨d',_,x',dx',l',ys,e3,g1,g2,_⟩:=few
    cases e3
    rw[s3 _ _ g1]at e2
    cases e2
    have nl':=nl x dx l rfl g1
    by_cases hb:l∈clos.map (·.2)
    ·obtain ⟨p,hp,e7⟩:=mem_map.mp hb
     obtain ⟨v',e8⟩:=ca.at hb
     have e9:=hc p hp
     rw[e7]at e9
     rw[s3 _ _ g2,e8]at e9
     cases e9
    ·rw[dN hb,hh]at nl'
     cases nl'
end
open Tb (Tr)
theorem PartN.t{a:Ad}{Hs H0 H H':Hp}{d:Nat}(s:SameT H H')(pt:Int×Tr)(z:V)(h:PartN a Hs H0 H d pt z):PartN a Hs H0 H' d pt z:=by
 obtain ⟨q,u,h1,h2,h3,h4⟩:=h
 refine ⟨q,u,h1,s.at h2,h3.t s,fun x dx l e1 e2=>?_⟩
 cases hx:pt.2 with
 | leaf ns =>
  rw[hx]at h3
  obtain ⟨x',dx',t',ns',g1,g2,g3,g4⟩:=h3
  rw[e1]at g1
  cases g1
  rw[s.at g2]at e2
  injection e2 with e2
  injection e2 with _ _ e4
  injection e4 with e4 _
  injection e4 with e5 _
  exact absurd e5 (by decide)
 | die ps =>
  rw[hx]at h3
  obtain ⟨d',_,x',dx',l',ys,g1,g2,_⟩:=h3
  rw[e1]at g1
  cases g1
  rw[s.at g2]at e2
  injection e2 with e2
  injection e2 with _ e3 e4
  injection e4 with e4 _
  injection e4 with _ e5
  injection e5 with e5
  rw[← e5]
  exact h4 x dx' l' e1 g2
def wX(a:Ad):Sp:=fun vs H Q _=>∃ v H0 d ps,vs=[v]∧IsDie a H0 H d v ps∧SqH H0∧SameT H0 H∧TabsOk (tabs a) H∧∀ H' D zs,SameT H H'→TabsOk (tabs a) H'→H D=none→H' D=some (.lst zs)→Paired (PartN a H H0 H' d) ps zs→Q (.ref D) H'
section
variable {P:Program}{w:World}{K:Frag}{mg:Str→Option Value}{base:Heap}{a:Ad}
theorem wV(T:Txt K mg a):FnOk P w K mg base CX0 1 a.x_s a.y_s ["self"] xo:=by
 refine T.F_s.ok iO (fun vs H Q E h=>?_) (fun cdv A outer s H vs Q E hr h=>?_)
 ·obtain ⟨v,rfl,_⟩:=h; rfl
 ·obtain ⟨v,rfl,q⟩:=h
  exact ⟨_,(ao (aC (cI af))),Nat.zero_le _,fun l hl=>q l hl⟩
theorem wU(T:Txt K mg a):FnOk P w K mg base CX0 1 a.x_v a.y_v ["self"] (wR a):=by
 refine T.F_v.ok jF (fun vs H Q E h=>?_) (fun cdv A outer s H vs Q E hr h=>?_)
 ·obtain ⟨v,H0,d,ps,rfl,_⟩:=h; rfl
 ·obtain ⟨v,H0,d,ps,rfl,⟨x,dx,l,ys,rfl,hx,hl,hP,hl1,hl2⟩,q⟩:=h
  have small:sizeLine=16777216:=sizeLine_eq
  refine ⟨_,(ao (aC (aI (fZ rfl) rfl T.z_sum mn (aa (bJ rfl (N:=["many","make"]) (ix:=[none,none]) ⟨rfl,rfl,rfl,rfl,trivial⟩ (aY (lN (vr 0) rfl)) ⟨fun C s H fp=>(dZ (K:=K) (n:=2) rfl rfl (aD (ar (i:=0) (show List.Nodup (["many","make"]:List Str) by decide +kernel) rfl (Or.inl rfl)) (aD (ar (i:=1) (show List.Nodup (["many","make"]:List Str) by decide +kernel) rfl (Or.inl rfl)) bV))),fun C s H fp=>bz,fun C s H fp=>(vr 0)⟩) af)))),?_⟩
  refine ⟨x,_,dx,_,_,rfl,hx,T.cl_f,T.na_Die_makes,rfl,.inl ⟨⟨_,SqL.of hl⟩,fun D hD=>?_⟩⟩
  let Pw1:PvL:=fun i zs H'=>Same H H'∧H' D=some (.lst zs)∧i≤ps.length∧zs=((ps.take i).map (·.1)).map V.int
  refine bK (K:=K) (a:=l) (xs:=ys) Pw1 ⟨Same.new hD,ad,Nat.zero_le _,rfl⟩ (fun i ys H' h=>SqL.of (h.1 _ _ hl)) (fun i ys H' h=>h.2.1) ?_ ?_
  ·rintro i y zs H' P' hy ⟨s1,hD1,hi,rfl⟩ hP'
   obtain ⟨⟨many,t⟩,hpt,q1,f,w2,rfl,hq1,_⟩:=aw hP hy
   have ilt:i<ps.length:=(List.getElem?_eq_some_iff.mp hpt).1
   refine ⟨q1,_,rfl,SqT.of (s1 _ _ hq1),rfl,_,_,rfl,_,_,rfl,rfl,trivial,hD1,by rw[length_map,length_map,length_take]; lia,hP' _ _ ⟨s1.put hD,ad,ilt,?_⟩⟩
   rw[take_add_one,hpt]
   simp
  ·rintro zs H' ⟨s1,hD1,_,rfl⟩
   rw[show ys.length=ps.length from hP.length.symm,take_length]at hD1
   exact ⟨D,_,rfl,SqL.of hD1,q _ s1⟩
theorem iB{H0 H:Hp}{D:Addr}{zs:List V}(hD:H D=some (.lst zs)){d:Nat}{u:V}:∀{t:Tr},IsNode a H0 H d u t→(∀ x dx l,u=.ref x→H x=some (.ins a.c_f dx [("makes",.ref l)])→l≠D)→IsNode a H0 (untr H D) d u t
 | .leaf ns,h,_=>by
  obtain ⟨x,dx,t,ns',h1,h2,h3,h4⟩:=h
  exact ⟨x,dx,t,ns',h1,by rw[av (fun z=>by rw[z,hD]at h2; cases h2)]; exact h2,by rw[av (fun z=>by rw[z,hD]at h3; cases h3)]; exact h3,h4⟩
 | .die ps,h,nl=>by
  obtain ⟨d',e,x,dx,l,ys,rfl,h2,h3,h4,h5,h6⟩:=h
  have ne:∀ b φ,H b=some (.ext φ)→b≠D:=fun b φ e z=>by rw[z,hD]at e; cases e
  refine ⟨d',e,x,dx,l,ys,rfl,by rw[av (fun z=>by rw[z,hD]at h2; cases h2)]; exact h2,by rw[av (nl x dx l rfl h2)]; exact h3,ak (fun pt y g=>?_) h4,h5,h6⟩
  obtain ⟨q,f,w',g1,g2,g3,g4,g5,g6⟩:=g
  refine ⟨q,f,w',g1,by rw[av (fun z=>by rw[z,hD]at g2; cases g2)]; exact g2,?_,g4,g5,g6⟩
  obtain ⟨f',c,clos,k1,k2,k3,k4,k5,k6⟩:=g3
  refine ⟨f',c,clos,k1,by rw[av (ne _ _ k2)]; exact k2,by rw[av (ne _ _ k3)]; exact k3,k4,k5,?_⟩
  revert k6
  clear k2 k3 k4 k5
  generalize [w']=ws
  intro k6
  induction k6 with
  | nil=>exact .nil
  | cons r _ ih=>exact .cons (by rw[av (ne _ _ r)]; exact r) ih
theorem xF(T:Txt K mg a)(hB:Bm mg base):FnOk P w K mg base CX0 5 a.x_w a.y_w ["self"] (wX a):=by
 have L_make:kD P w K mg base 4 bP fvT [] (spL a):=yj T hB
 refine T.F_w.ok jO (fun vs H Q E h=>?_) (fun cdv A outer s H vs Q E hr h=>?_)
 ·obtain ⟨v,H0,d,ps,rfl,_⟩:=h; rfl
 ·obtain ⟨v,H0,d,ps,rfl,⟨x,dx,l,ys,rfl,hx,hl,hP,hl1,hl2⟩,hsq,s0,hT,q⟩:=h
  have small:sizeLine=16777216:=sizeLine_eq
  refine ⟨_,(ao (aC (bJ rfl (N:=["many","make"]) (ix:=[none,none]) ⟨rfl,rfl,rfl,rfl,trivial⟩ (aY (lN (vr 0) rfl)) ⟨fun C s H fp=>(dZ (K:=K) (n:=2) rfl rfl (aD (ar (i:=0) (show List.Nodup (["many","make"]:List Str) by decide +kernel) rfl (Or.inl rfl)) (aD (ar (i:=1) (show List.Nodup (["many","make"]:List Str) by decide +kernel) rfl (Or.inl rfl)) bV))),fun C s H fp=>bz,fun C s H fp=>(bO (aa (vr 0) (aa (pH (vr 1) L_make hr) af)))⟩))),?_⟩
  refine ⟨x,_,dx,_,_,rfl,hx,T.cl_f,T.na_Die_makes,rfl,.inl ⟨⟨_,SqL.of hl⟩,fun D hD=>?_⟩⟩
  have ext:∀{H':Hp},TabsOk (tabs a) H'→∀{ys:List V}{ys':List V},H' D=some (.lst ys)→TabsOk (tabs a) (upd H' D (.lst ys')):=fun hT' ys ys' e=>hT'.put (fun ps z=>by rw[e]at z; cases z) fun φ z=>by rw[e]at z; cases z
  let Pw2:PvL:=fun i zs H'=>SameT H H'∧TabsOk (tabs a) H'∧H' D=some (.lst zs)∧i≤ps.length∧Paired (PartN a H H0 (untr H' D) d) (ps.take i) zs
  refine bK (K:=K) (a:=l) (xs:=ys) Pw2
   ⟨(Same.new hD).t,hT.same (Same.new hD),ad,Nat.zero_le _,.nil⟩ (fun i ys H' h=>SqL.of (h.1.at hl)) (fun i ys H' h=>h.2.2.1) ?_ ?_
  ·rintro i y zs H' P' hy ⟨t1,hT1,hD1,hi,hc⟩ hP'
   obtain ⟨⟨many,t⟩,hpt,q1,f,w',rfl,hq1,hf,m0,m1,hw⟩:=aw hP hy
   have ilt:i<ps.length:=(List.getElem?_eq_some_iff.mp hpt).1
   refine ⟨q1,_,rfl,SqT.of (t1.at hq1),rfl,_,_,rfl,_,_,rfl,rfl,trivial,?_⟩
   obtain ⟨f',c,clos,rfl,k2,k3,k4,k5,k6⟩:=hf.t t1
   refine ⟨f',c,clos,_,rfl,k2,k3,k4,k5,k6,w',d,t,H0,rfl,rfl,hw,s0.trans t1,hT1,hsq,fun H2 u t2 hT2 hu nl=>?_⟩
   have hD2:=t2.at hD1
   refine ⟨by show 2≤sizeLine; decide,fun q2 hq2=>?_⟩
   have nq:q2≠D:=fun z=>by rw[z,hD2]at hq2; cases hq2
   have s3:=Same.new (o:=.tup [.int many,u]) hq2
   have hD3:=s3 _ _ hD2
   have yl:zs.length≤5000:=by rw[← hc.length,length_take]; lia
   have t13:=(t1.trans t2).trans s3.t
   refine ⟨hD3,by lia,hP' _ _ ⟨t13.put hD,ext (hT2.same s3) hD3,ad,ilt,aX (ak (PartN.t ?_) hc) hpt ⟨q2,u,rfl,?_,?_,fun x2 dx2 l2 e1 e2=>?_⟩⟩⟩
   ·exact (cL (t2.trans s3.t)).trans dc
   ·rw[av nq,ag nq]; exact ad
   ·refine (iB hD2 hu fun x2 dx2 l2 e1 e2 z=>?_).t ((cL s3.t).trans dc)
    have:=nl x2 dx2 l2 e1 e2
    rw[z,hD1]at this
    cases this
   ·refine t1.free (nl x2 dx2 l2 e1 ?_)
    have nx:x2≠D:=fun z=>by rw[z,aQ]at e2; cases e2
    rw[av nx,ag nx]at e2
    by_cases nq2:x2=q2
    ·rw[nq2,ad]at e2; cases e2
    ·rw[ag nq2]at e2; exact e2
  ·rintro zs H' ⟨t1,hT1,hD1,hi,hc⟩
   rw[show ys.length=ps.length from hP.length.symm,take_length]at hc
   refine q H' D zs t1 hT1 hD hD1 (ak (PartN.t fun b o e=>?_) hc)
   by_cases hb:b=D
   ·rw[hb,aQ]at e; cases e
   ·rw[av hb]at e; exact SameT.refl b o e
end
end My
namespace L2
open PySem PySem.Spec PyProof.Rows
section
variable {X:Cx}{a b c d:Expr}{ta tb tc td:TE}{pos:Pos}
end
section
variable {X:Cx}{o e:Expr}{es:List Expr}{to:TE}{t:TA}{apos cpos:Pos}
theorem pe_m.extend(ho:PE X o to)(ha:PA X (e::es) t)(hbase:attributeBase o "extend" X.env (eval o X.env)=eval o X.env:=by rfl)
  (hfew:((backTo cpos (starEach (e::es) X.env)).all (fun x=>!x.1) && (backToKw cpos (keywordEach [] X.env)).all (fun x=>x.1.isSome) && decide ((e::es).length+([]:List Keyword).length+(if ([]:List Keyword).isEmpty then 0 else 1)<30))=true:=by rfl)
  (hline:(apos.endLine == cpos.line)=true:=by rfl) (hs:starEach (e::es) X.env=(false,eval e X.env)::starEach es X.env:=by rfl) (hplain:(backTo cpos (starEach es X.env)).any (·.1)=false:=by rfl) :
  PE X (.Call (.Attribute o "extend" apos) (e::es) [] cpos) (tBM X.K "list" oe to t):=uG F.plainAttrs_list F.slot_list_extend F.type_list_extend pO ho ha hbase hfew hline hs hplain
end
end L2
namespace My
open PySem L2 FrM
open Tb (Tr Ent Way)
def bd(d:Nat):Nat:=60*(4 - d)+2
def EntR(a:Ad)(H0 H:Hp)(e:Ent)(y:V):Prop:=∃ q v d,y=.ref q∧H q=some (.tup [v,.int e.2.1,.int e.2.2])∧IsNode a H0 H d v e.1∧d≤4∧Bt (bd d) e.2.1∧Bt (bd d) e.2.2∧0<e.2.2
theorem EntR.t{a:Ad}{H0 H H':Hp}(s:SameT H H')(e:Ent)(y:V)(h:EntR a H0 H e y):EntR a H0 H' e y:=by
 obtain ⟨q,v,d,h1,h2,h3,h4⟩:=h
 exact ⟨q,v,d,h1,s.at h2,h3.t s,h4⟩
def WayR(H:Hp)(w:Way)(y:V):Prop:=∃ q kt ct ns,y=.ref q∧H q=some (.tup [.ref kt,.ref ct])∧H kt=some (.tup (ns.map V.int))∧Srt ns w.1∧H ct=some (.tup [.int w.2.1,.int w.2.2])∧Bt 300 w.2.1∧Bt 300 w.2.2∧0<w.2.2
theorem WayR.t{H H':Hp}(s:SameT H H')(w:Way)(y:V)(h:WayR H w y):WayR H' w y:=by
 obtain ⟨q,kt,ct,ns,h1,h2,h3,h4,h5,h6⟩:=h
 exact ⟨q,kt,ct,ns,h1,s.at h2,s.at h3,h4,s.at h5,h6⟩
def RefM(a:Ad)(H:Hp)(E:XK):Prop:=∀ H',SameT H H'→TabsOk (tabs a) H'→E (.ref a.c_k) none H'
def rN(a:Ad):Sp:=fun vs H Q E=>∃ v H0 d t,vs=[v]∧IsNode a H0 H d v t∧d≤4∧Tb.Ok t∧SqH H0∧SameT H0 H∧TabsOk (tabs a) H∧(Tb.lv t≤4096→∀ H' l zs,SameT H H'→TabsOk (tabs a) H'→H l=none→H' l=some (.lst zs)→Paired (WayR H') (Tb.wl t 1 1) zs→Q (.ref l) H')∧(4096<Tb.lv t→RefM a H E)
theorem vz{a:Ad}{H H1:Hp}{E:XK}{c:Addr}(t:SameT H H1)(hT:TabsOk (tabs a) H1)(q:∀ H',SameT H H'→TabsOk (tabs a) H'→E (.ref c) none H'):∀ z,H1 z=none→∃ x dct φ,V.ref z=.ref x∧(upd H1 z (.ext (XD0 z c))) x=some (.ext φ)∧(∀ h,φ h→XU x c dct h)∧H x=none∧E (.ref c) dct (untr (upd H1 z (.ext (XD0 z c))) x):=fun z hz=>by
 have s1:Same H1 (untr (upd H1 z (.ext (XD0 z c))) z):=fun b o e=>by
  have nb:b≠z:=fun y=>by rw[y,hz]at e; cases e
  rw[av nb,ag nb]
  exact e
 exact ⟨z,none,_,rfl,ad,fun h y=>y,t.free hz,q _ (t.trans s1.t) (hT.same s1)⟩
def cut2(H:Hp)(l m:Addr):Hp:=untr (untr H l) m
theorem dW{H:Hp}{l m b:Addr}{o:HO}(h:cut2 H l m b=some o):b≠l∧b≠m∧H b=some o:=by
 have n1:b≠m:=fun z=>by unfold cut2 at h; rw[z,aQ]at h; cases h
 unfold cut2 at h
 rw[av n1]at h
 have n2:b≠l:=fun z=>by rw[z,aQ]at h; cases h
 rw[av n2]at h
 exact ⟨n2,n1,h⟩
theorem eO{H:Hp}{l m b:Addr}{o:HO}(n1:b≠l)(n2:b≠m)(h:H b=some o):cut2 H l m b=some o:=by
 unfold cut2; rw[av n2,av n1]; exact h
theorem SameT.cut2{H H':Hp}{l m:Addr}(s:SameT H H'):SameT (cut2 H l m) (My.cut2 H' l m):=cL (cL s)
theorem lX{H:Hp}{l m:Addr}{o:HO}:SameT (cut2 H l m) (cut2 (upd H l o) l m):=cL dc
theorem vK{H:Hp}{l m:Addr}{o:HO}:SameT (cut2 H l m) (cut2 (upd H m o) l m):=fun b o' e=>by
 obtain ⟨n1,n2,h⟩:=dW e
 have:cut2 (upd H m o) l m b=some o':=eO n1 n2 (by rw[ag n2]; exact h)
 exact ⟨fun _=>this,o',this⟩
theorem kL{H:Hp}{l m:Addr}:SameT (cut2 H l m) H:=fun b o' e=>by
 obtain ⟨_,_,h⟩:=dW e
 exact ⟨fun _=>h,o',h⟩
theorem gq{α β:Type}{r:α→β→Prop}:∀{as:List α}{bs:List β},Paired r as bs→bs≠[]→∃ as' a bs' b,as=as'++[a]∧bs=bs'++[b]∧Paired r as' bs'∧r a b
 | _,_,.nil,h=>absurd rfl h
 | _,_,.cons (a:=a) (b:=b) x (.nil),_=>⟨[],_,[],_,rfl,rfl,.nil,x⟩
 | _,_,.cons x (.cons y t),_=>by
  obtain ⟨as',a,bs',b,e1,e2,h1,h2⟩:=gq (.cons y t) (by simp)
  exact ⟨_::as',a,_::bs',b,by rw[e1]; rfl,by rw[e2]; rfl,.cons x h1,h2⟩
theorem cut_sub{H:Hp}{D:Addr}:SameT (untr H D) H:=fun b o' e=>by
 by_cases hb:b=D
 ·rw[hb,aQ]at e; cases e
 ·rw[av hb]at e
  exact SameT.refl b o' e
theorem pG{H:Hp}{l m b:Addr}(h:H b=none):cut2 H l m b=none:=by
 cases e:cut2 H l m b with
 | none=>rfl
 | some o=>rw[(dW e).2.2]at h; cases h
theorem p6{H:Hp}{l m D:Addr}{o:HO}:SameT (untr (cut2 H l m) D) (untr (cut2 (upd H D o) l m) D):=fun b o' e=>by
 by_cases hb:b=D
 ·rw[hb,aQ]at e; cases e
 ·rw[av hb]at e
  obtain ⟨n1,n2,h⟩:=dW e
  have:untr (cut2 (upd H D o) l m) D b=some o':=by rw[av hb]; exact eO n1 n2 (by rw[ag hb]; exact h)
  exact ⟨fun _=>this,o',this⟩
theorem i8{α β:Type}{r:α→β→Prop}{cs:List α}{ds:List β}(h2:Paired r cs ds):∀{as:List α}{bs:List β},Paired r as bs→Paired r (as++cs) (bs++ds)
 | _,_,.nil=>h2
 | _,_,.cons x t=>.cons x (i8 h2 t)
theorem sV{a:Ad}{H0 H:Hp}{d:Nat}{v:V}{ps:List (Int×Tr)}(h:IsDie a H0 H d v ps):(∀ p∈ps,1≤p.1∧p.1≤1000000000)∧ps.length≤5000:=by
 obtain ⟨x,dx,l,ys,-,-,-,hP,-,h5⟩:=h
 refine ⟨?_,h5⟩
 clear h5
 induction hP with
 | nil=>intro p hp; cases hp
 | cons r _ ih =>
  intro p hp
  rcases mem_cons.mp hp with rfl | hp
  ·obtain ⟨_,_,_,_,_,_,g1,g2,_⟩:=r; exact ⟨g1,g2⟩
  ·exact ih p hp
theorem qB:∀{ps:List (Int×Tr)},(∀ p∈ps,1≤p.1∧p.1≤1000000000)→(ps.length:Int)≤Tb.tot ps∧Tb.tot ps≤(ps.length:Int)*1000000000
 | [],_=>by simp[Tb.tot]
 | (m,u)::r,h=>by
  have ih:=qB (ps:=r) fun p hp=>h p (mem_cons_of_mem _ hp)
  have h1:=h _ mem_cons_self
  unfold Tb.tot at *
  rw[map_cons,sum_cons,length_cons]
  have e:((r.length+1:Nat):Int)*1000000000=(r.length:Int)*1000000000+1000000000:=by rw[Int.natCast_add,Int.add_mul]; simp
  rw[e]
  have h1':1≤m∧m≤1000000000:=h1
  show ((r.length+1:Nat):Int)≤m+_∧m+_≤_
  lia
open Tb (Tr Ent Way)
section
variable {P:Program}{w:World}{K:Frag}{mg:Str→Option Value}{base:Heap}{a:Ad}
theorem ur(T:Txt K mg a)(hB:Bm mg base):FnOk P w K mg base (CXG P w) 7 a.f_D a.d_D ["node"] (rN a):=by
 have G_l:FnOk P w K mg base CX0 6 _ _ _ _:=(w5 T).mono (by decide)
 have G_o:FnOk P w K mg base CX0 6 _ _ _ _:=(xk T).mono (by decide)
 have G_u:FnOk P w K mg base CX0 6 _ _ _ _:=(xr T).mono (by decide)
 have G_C:FnOk P w K mg base CX0 6 _ _ _ _:=(wu T).mono (by decide)
 have G_r:FnOk P w K mg base CX0 6 _ _ _ _:=(xB T).mono (by decide)
 have G_v:FnOk P w K mg base CX0 6 _ _ _ _:=(wU T).mono (by decide)
 have G_s:FnOk P w K mg base CX0 6 _ _ _ _:=(wV T).mono (by decide)
 have G_w:FnOk P w K mg base CX0 6 _ _ _ _:=(xF T hB).mono (by decide)
 refine T.F_D.okG sc_D (fun vs H Q E h=>?_) (fun cdv A outer s H vs Q E hr h=>?_)
 ·obtain ⟨v,H0,d,t,rfl,_⟩:=h; rfl
 ·obtain ⟨v,H0,d,t,rfl,hn,hd,hok,hsq,s0,hT,q1,q2⟩:=h
  have small:sizeLine=16777216:=sizeLine_eq
  refine ⟨_,(ah (ax (i:=1) sc_D.nd rfl (Or.inl rfl) (cI af)) (ah (ax (i:=2) sc_D.nd rfl (Or.inl rfl) (cI (aa (bO (aa (vr 0) (aa ai (aa ai af)))) af))) (ah (fg qF (kE (vr 2) (fun _=>rfl)) (ah (qg (pe_m.pop (vr 2)) (eB rfl (aD (ar (i:=3) sc_D.nd rfl (Or.inl rfl)) (aD (ar (i:=4) sc_D.nd rfl (Or.inr rfl)) (aD (ar (i:=5) sc_D.nd rfl (Or.inr rfl)) bV))))) (ah (db (eF (PE.or (cX (vr 3) T.cl_c T.mt_l G_l hr T.B_l .nil aA) (cX (vr 3) T.cl_f T.mt_o G_o hr T.B_o .nil aA))) (ao (cH (pe_m.append (vr 1) (aa (bO (aa (PE.or (cX (vr 3) T.cl_c T.mt_u G_u hr T.B_u .nil aA) (cX (vr 3) T.cl_f T.mt_C G_C hr T.B_C .nil aA)) (aa (bO (aa (vr 4) (aa (vr 5) af))) af))) af)))) (ah (ax (i:=6) sc_D.nd rfl (Or.inr rfl) (PE.or (cX (vr 3) T.cl_c T.mt_r G_r hr T.B_r .nil aA) (cX (vr 3) T.cl_f T.mt_v G_v hr T.B_v .nil aA))) (ao (cH (pe_m.extend (vr 2) (aa (bJ rfl (N:=["many","after","top","bottom","sides"]) (ix:=[none,none,some 4,some 5,some 6]) ⟨rfl,rfl,rfl,rfl,⟨rfl,rfl,rfl,⟨rfl,rfl,rfl,⟨rfl,rfl,rfl,trivial⟩⟩⟩⟩ (aY (PE.or (cX (vr 3) T.cl_c T.mt_s G_s hr T.B_s .nil aA) (cX (vr 3) T.cl_f T.mt_w G_w hr T.B_w .nil aA))) ⟨fun C s H fp=>(dZ (K:=K) (n:=2) rfl rfl (aD (ar (i:=0) (show List.Nodup (["many","after","top","bottom","sides"]:List Str) by decide +kernel) rfl (Or.inl rfl)) (aD (ar (i:=1) (show List.Nodup (["many","after","top","bottom","sides"]:List Str) by decide +kernel) rfl (Or.inl rfl)) bV))),fun C s H fp=>bz,fun C s H fp=>(bO (aa (vr 1) (aa (aB bT (vr 2) (vr 0)) (aa (aB bT (vr 3) (vr 4)) af))))⟩) af)))))) (ao (db (cJ ut (aB dD (aI eU rfl T.z_len jw (aa (vr 1) af)) (aI eU rfl T.z_len jw (aa (vr 2) af))) (xf rfl T.g_MOST_WAYS) (bM _)) (ao (oB T.xc_k T.xh_k (sO T.xi_TooMany T.kc_TooMany rfl T.mc_k))) bU))))) (ao (aC (vr 1)))))),mR ?_⟩
  intro zt4 zt3 zt2
  refine ⟨Nat.zero_le _,fun lw flw=>?_⟩
  have u1:=Same.new (o:=.lst []) flw
  refine ⟨by show 3≤sizeLine; decide,fun q0 fq0=>?_⟩
  have u2:=Same.new (o:=.tup [v,.int 1,.int 1]) fq0
  refine ⟨by show 1≤sizeLine; decide,fun la fla=>?_⟩
  have u3:=Same.new (o:=.lst [.ref q0]) fla
  have u13:=(u1.trans u2).trans u3
  have hlw3:=(u2.trans u3) _ _ (ad (H:=H) (a:=lw) (o:=.lst []))
  have hq3:=u3 _ _ (ad (H:=upd H lw (.lst [])) (a:=q0) (o:=.tup [v,.int 1,.int 1]))
  have hla3:=ad (H:=upd (upd H lw (.lst [])) q0 (.tup [v,.int 1,.int 1])) (a:=la) (o:=.lst [.ref q0])
  have fla0:H la=none:=(u1.trans u2).free fla
  have nqa:q0≠la:=fun z=>by rw[← z,ad]at fla; cases fla
  have nqw:q0≠lw:=fun z=>by rw[z,ad]at fq0; cases fq0
  have nwa:lw≠la:=fun z=>by rw[← z,u2 _ _ (ad (H:=H) (a:=lw) (o:=.lst []))]at fla; cases fla
  have bt1:Bt (bd d) 1:=(show Bt 2 1 by unfold Bt; decide).mono (by unfold bd; lia)
  let Pw2:PvS:=fun c σ H'=>∃(s:List Ent) (ways:List Way) (ys zs:List V) (x3 x4 x5 x6:Option V),c=Tb.stS s∧SameT H H'∧TabsOk (tabs a) H'∧H' la=some (.lst ys)∧H' lw=some (.lst zs)∧Paired (EntR a H0 (cut2 H' la lw)) s ys∧Paired (WayR (cut2 H' la lw)) ways zs∧Tb.Wk t ways s∧ways.length+s.length≤4096∧σ=[some v,some (.ref lw),some (.ref la),x3,x4,x5,x6]
  refine ⟨Pw2,
   ⟨_,[(t,(1,1))],[],[.ref q0],[],none,none,none,none,rfl,u13.t,hT.same u13,hla3,hlw3,.cons ⟨q0,v,d,rfl,eO nqa nqw hq3,hn.t (ou (ou u13.t fla0) flw),hd,bt1,bt1,Int.zero_lt_one⟩ .nil,.nil,Tb.Wk.start hok,(show 0+1≤4096 by decide),rfl⟩,?_⟩
  clear hlw3 hq3 hla3
  rintro c σ H' ⟨s,ways,ys,zs,x3,x4,x5,x6,rfl,t1,hT1,hla,hlw,hE,hWy,hW,hfew,rfl⟩
  refine ⟨_,.inl ⟨_,SqL.of hla,rfl⟩,?_⟩
  refine ifB (fun hc=>?_) (fun hc=>?_)
  ·refine ⟨_,fun _ _ h=>h,?_⟩
   have ne:ys≠[]:=fun z=>by rw[z]at hc; cases hc
   obtain ⟨s',e,ys',y,rfl,rfl,hE',q,v1,d1,rfl,hq,hn1,hd1,b1,b2,b0⟩:=gq hE ne
   obtain ⟨u,tp,bt⟩:=e
   obtain ⟨nq1,nq2,hqH⟩:=dW hq
   refine ⟨.inl ⟨rfl,_,SqL.of hla⟩,⟨la,_,_,rfl,rfl,hla,by simp; rfl,?_⟩⟩
   have ed:(ys'++[V.ref q]).dropLast=ys':=List.dropLast_concat
   have t2:SameT H (upd H' la (.lst (ys'++[V.ref q]).dropLast)):=t1.put fla0
   have hT2:TabsOk (tabs a) (upd H' la (.lst (ys'++[V.ref q]).dropLast)):=hT1.put (fun ps z=>by rw[hla]at z; cases z) fun φ z=>by rw[hla]at z; cases z
   have hla2:(upd H' la (.lst (ys'++[V.ref q]).dropLast)) la=some (.lst ys'):=by rw[ad,ed]
   have hlw2:(upd H' la (.lst (ys'++[V.ref q]).dropLast)) lw=some (.lst zs):=by rw[ag nwa]; exact hlw
   have hq2:(upd H' la (.lst (ys'++[V.ref q]).dropLast)) q=some (.tup [v1,.int tp,.int bt]):=by rw[ag nq1]; exact hqH
   have c2:SameT (cut2 H' la lw) (cut2 (upd H' la (.lst (ys'++[V.ref q]).dropLast)) la lw):=lX
   refine ⟨q,_,rfl,SqT.of hq2,rfl,_,_,rfl,_,_,rfl,_,_,rfl,rfl,?_⟩
   generalize upd H' la (.lst (ys'++[V.ref q]).dropLast)=H2 at t2 hT2 hla2 hlw2 hq2 c2
   have hE2:=ak (EntR.t c2) hE'
   have hWy2:=ak (WayR.t c2) hWy
   have hn2:=hn1.t c2
   cases u with
   | leaf ns =>
    obtain ⟨x,dx,kt,ns',rfl,hx,hkt,hs⟩:=hn2
    have hx2:=(dW hx).2.2
    have hkt2:=(dW hkt).2.2
    refine .inl ⟨x,dx,_,rfl,hx2,rfl,_,rfl,?_⟩
    refine ⟨.inl ⟨rfl,_,SqL.of hlw2⟩,.inl ⟨x,dx,_,rfl,hx2,rfl,x,dx,kt,rfl,hx2,?_⟩⟩
    have d300:bd d1≤300:=by unfold bd; lia
    have zl:zs.length=ways.length:=hWy.length.symm
    have yl:ys'.length=s'.length:=hE'.length.symm
    have few':ways.length+(s'.length+1)≤4096:=by rw[length_append]at hfew; exact hfew
    refine ⟨by show 2≤sizeLine; decide,fun ct fct=>?_⟩
    have n1:=Same.new (o:=.tup [.int tp,.int bt]) fct
    refine ⟨by show 2≤sizeLine; decide,fun p fp=>?_⟩
    have n2:=Same.new (o:=.tup [.ref kt,.ref ct]) fp
    have n12:=n1.trans n2
    have hct4:=n2 _ _ (ad (H:=H2) (a:=ct) (o:=.tup [.int tp,.int bt]))
    have hp4:=ad (H:=upd H2 ct (.tup [.int tp,.int bt])) (a:=p) (o:=.tup [.ref kt,.ref ct])
    have ncl:ct≠la:=fun z=>by rw[z,hla2]at fct; cases fct
    have ncw:ct≠lw:=fun z=>by rw[z,hlw2]at fct; cases fct
    have npl:p≠la:=fun z=>by rw[z,n1 _ _ hla2]at fp; cases fp
    have npw:p≠lw:=fun z=>by rw[z,n1 _ _ hlw2]at fp; cases fp
    generalize upd (upd H2 ct (.tup [.int tp,.int bt])) p (.tup [.ref kt,.ref ct])=H4 at n12 hct4 hp4
    have hlw4:=n12 _ _ hlw2
    have hla5:(upd H4 lw (.lst (zs++[.ref p]))) la=some (.lst ys'):=by rw[ag (Ne.symm nwa)]; exact n12 _ _ hla2
    have c4:SameT (cut2 H2 la lw) (cut2 (upd H4 lw (.lst (zs++[.ref p]))) la lw):=(SameT.cut2 n12.t).trans vK
    have hT5:TabsOk (tabs a) (upd H4 lw (.lst (zs++[.ref p]))):=(hT2.same n12).put (fun ps z=>by rw[hlw4]at z; cases z) fun φ z=>by rw[hlw4]at z; cases z
    have t5:SameT H (upd H4 lw (.lst (zs++[.ref p]))):=(t2.trans n12.t).put flw
    have hkt5:=c4.at hkt
    have hct5:cut2 (upd H4 lw (.lst (zs++[.ref p]))) la lw ct=some (.tup [.int tp,.int bt]):=eO ncl ncw (by rw[ag ncw]; exact hct4)
    have hp5:cut2 (upd H4 lw (.lst (zs++[.ref p]))) la lw p=some (.tup [.ref kt,.ref ct]):=eO npl npw (by rw[ag npw]; exact hp4)
    refine ⟨lw,zs,_,rfl,rfl,hlw4,by lia,?_⟩
    have hlw5:=ad (H:=H4) (a:=lw) (o:=.lst (zs++[.ref p]))
    generalize upd H4 lw (.lst (zs++[.ref p]))=H5 at hla5 c4 hT5 t5 hkt5 hct5 hp5 hlw5
    refine ⟨_,.inl (SqL.of hlw5),⟨_,.inl (SqL.of hla5),?_⟩⟩
    have ll:((zs++[V.ref p]).length:Int)+(ys'.length:Int)≤4096:=by rw[length_append,length_singleton]; lia
    refine ifC (fun z=>absurd (show (4096:Int)<((zs++[V.ref p]).length:Int)+(ys'.length:Int) from z) (by lia)) fun _=>?_
    refine ⟨Tb.stS s',?_,s',ways++[(ns,(tp,bt))],ys',zs++[.ref p],_,_,_,_,rfl,t5,hT5,hla5,hlw5,ak (EntR.t c4) hE2,dA ⟨p,kt,ct,ns',rfl,hp5,hkt5,hs,hct5,b1.mono d300,b2.mono d300,b0⟩ (ak (WayR.t c4) hWy2),hW.leaf,?_,rfl⟩
    ·rw[Tb.stS_app,Tb.stS,Tb.stS,Tb.sz]; lia
    ·rw[length_append,length_singleton]; lia
   | die ps =>
    obtain ⟨d',rfl,hdie⟩:=hn2
    have hdie2:=hdie.t kL
    obtain ⟨x,dx,l,mk,rfl,hx2,hl2,_⟩:=id hdie2
    refine .inr ⟨x,dx,_,rfl,hx2,rfl,_,rfl,?_⟩
    have hok':Tb.Ok (.die ps):=hW.ok _ (mem_append_right _ mem_cons_self)
    rw[Tb.Ok]at hok'
    refine .inr ⟨x,dx,_,rfl,hx2,rfl,.ref x,H0,d',ps,rfl,hdie2,fun H3 n3=>?_⟩
    have hla3:=n3 _ _ hla2
    have hlw3:=n3 _ _ hlw2
    refine ⟨.inl ⟨rfl,_,SqL.of hla3⟩,?_⟩
    have hx3:=n3 _ _ hx2
    have hdie3:=hdie2.t n3.t
    obtain ⟨pos,plen⟩:=sV hdie2
    obtain ⟨tb1,tb2⟩:=qB pos
    have t3:=t2.trans n3.t
    refine .inr ⟨x,dx,_,rfl,hx3,rfl,.ref x,H0,d',ps,rfl,hdie3,hsq,s0.trans t3,hT2.same n3,fun H4 D zz t4 hT4 fD hD hP=>?_⟩
    have hla4:=t4.at hla3
    have hlw4:=t4.at hlw3
    have zzl:zz.length=ps.length:=hP.length.symm
    have bS:Bt 43 (Tb.tot ps):=by unfold Bt; lia
    have bd1:bd (d'+1)+43≤bd d':=by unfold bd; lia
    have cutN:∀{un:V}{u:Tr},IsNode a H0 H4 d' un u→sy a H3 H4 un→IsNode a H0 (cut2 H4 la lw) d' un u:=fun {un u} h1 h2=>by
     have g1:=iB hla4 h1 fun x9 dx9 l9 e1 e2 z=>by have:=h2 x9 dx9 l9 e1 e2; rw[z,hla3]at this; cases this
     refine iB (zs:=zs) (by rw[av nwa]; exact hlw4) g1 fun x9 dx9 l9 e1 e2 z=>?_
     have nx:x9≠la:=fun z=>by rw[z,aQ]at e2; cases e2
     rw[av nx]at e2
     have:=h2 x9 dx9 l9 e1 e2
     rw[z,hlw3]at this
     cases this
    refine .inl ⟨⟨_,SqL.of hD⟩,fun D2 hD2=>?_⟩
    let Pw1:PvL:=fun i ws H5=>i≤ps.length∧Same H4 H5∧H5 D2=some (.lst ws)∧Paired (EntR a H0 (untr (cut2 H5 la lw) D2)) ((Tb.kids ps tp bt (Tb.tot ps)).take i) ws
    refine bK (K:=K) (a:=D) (xs:=zz) Pw1 ⟨Nat.zero_le _,Same.new hD2,ad,.nil⟩ (fun i ys H' h=>SqL.of (h.2.1 _ _ hD)) (fun i ys H' h=>h.2.2.1) ?_ ?_
    ·rintro i y ws H5 P' hy ⟨hi,n5,hD5,hc5⟩ hP'
     obtain ⟨⟨m,u⟩,hpt,qq,un,rfl,hqq,hnu,hnew⟩:=aw hP hy
     have ilt:i<ps.length:=(List.getElem?_eq_some_iff.mp hpt).1
     have mp:=pos _ (List.mem_of_getElem? hpt)
     have bm:Bt 43 m:=by have h1:1≤m:=mp.1; have h2:m≤1000000000:=mp.2; unfold Bt; lia
     have wl5:ws.length≤5000:=by rw[← hc5.length,length_take]; unfold Tb.kids; rw[length_map]; lia
     refine ⟨qq,_,rfl,SqT.of (n5 _ _ hqq),rfl,_,_,rfl,_,_,rfl,rfl,⟨rfl,rfl,rfl,trivial⟩,?_⟩
     have bl:bd (d'+1)≤300:=by unfold bd; lia
     refine ⟨cmB (b1.mono bl) bm,cmB (b2.mono bl) bS,by show 3≤sizeLine; decide,fun q3 f3=>?_⟩
     have n6:=Same.new (o:=.tup [un,.int (tp*m),.int (bt*Tb.tot ps)]) f3
     have hD6:=n6 _ _ hD5
     have nq3:q3≠D2:=fun z=>by rw[z,hD5]at f3; cases f3
     have nq3a:q3≠la:=fun z=>by rw[z,n5 _ _ hla4]at f3; cases f3
     have nq3w:q3≠lw:=fun z=>by rw[z,n5 _ _ hlw4]at f3; cases f3
     refine ⟨hD6,by lia,hP' _ _ ⟨ilt,(n5.trans n6).put hD2,ad,?_⟩⟩
     have cc:SameT (untr (cut2 H5 la lw) D2) (untr (cut2 (upd (upd H5 q3 (.tup [un,.int (tp*m),.int (bt*Tb.tot ps)])) D2 (.lst (ws++[.ref q3]))) la lw) D2):=(cL (SameT.cut2 n6.t)).trans p6
     have cn:SameT (cut2 H4 la lw) (untr (cut2 (upd (upd H5 q3 (.tup [un,.int (tp*m),.int (bt*Tb.tot ps)])) D2 (.lst (ws++[.ref q3]))) la lw) D2):=ou (SameT.cut2 ((n5.trans n6).put hD2).t) (pG hD2)
     have hk:(Tb.kids ps tp bt (Tb.tot ps))[i]? = some (u,(tp*m,bt*Tb.tot ps)):=by unfold Tb.kids; rw[List.getElem?_map,hpt]; rfl
     refine aX (ak (EntR.t cc) hc5) hk ⟨q3,un,d',rfl,?_,(cutN hnu hnew).t cn,by lia,(b1.mul bm).mono bd1,(b2.mul bS).mono bd1,Int.mul_pos b0 (by lia)⟩
     rw[av nq3]
     exact eO nq3a nq3w (by rw[ag nq3]; exact ad)
    ·rintro ws H5 ⟨_,n5,hD5,hc5⟩
     have kl:(Tb.kids ps tp bt (Tb.tot ps)).length=zz.length:=by unfold Tb.kids; rw[length_map,zzl]
     rw[← kl,take_length]at hc5
     have wl5:ws.length=ps.length:=by rw[← hc5.length,kl,zzl]
     have yl:ys'.length=s'.length:=hE'.length.symm
     have zl:zs.length=ways.length:=hWy.length.symm
     have few':ways.length+(s'.length+1)≤4096:=by rw[length_append]at hfew; exact hfew
     have hla5:=n5 _ _ hla4
     have hlw5:=n5 _ _ hlw4
     refine ⟨la,D2,ys',ws,rfl,rfl,hla5,hD5,by lia,?_⟩
     have t6:SameT H (upd H5 la (.lst (ys'++ws))):=((t3.trans t4).trans n5.t).put fla0
     have hT6:TabsOk (tabs a) (upd H5 la (.lst (ys'++ws))):=(hT4.same n5).put (fun ps z=>by rw[hla5]at z; cases z) fun φ z=>by rw[hla5]at z; cases z
     have hla6:=ad (H:=H5) (a:=la) (o:=.lst (ys'++ws))
     have hlw6:(upd H5 la (.lst (ys'++ws))) lw=some (.lst zs):=by rw[ag nwa]; exact hlw5
     have c6:SameT (cut2 H2 la lw) (cut2 (upd H5 la (.lst (ys'++ws))) la lw):=(SameT.cut2 ((n3.t.trans t4).trans n5.t)).trans lX
     have k6:SameT (untr (cut2 H5 la lw) D2) (cut2 (upd H5 la (.lst (ys'++ws))) la lw):=cut_sub.trans lX
     generalize upd H5 la (.lst (ys'++ws))=H6 at t6 hT6 hla6 hlw6 c6 k6
     have hW6:=hW.die
     refine ⟨_,.inl (SqL.of hlw6),⟨_,.inl (SqL.of hla6),?_⟩⟩
     have kl2:(Tb.kids ps tp bt (Tb.tot ps)).length=ws.length:=by rw[kl,zzl,wl5]
     refine ifC (fun z=>?_) fun z=>?_
     ·have z:(4096:Int)<(zs.length:Int)+((ys'++ws).length:Int):=z
      have:=hW6.few
      rw[length_append]at this z
      exact vz t6 hT6 (q2 (by lia))
     ·have z:¬(4096:Int)<(zs.length:Int)+((ys'++ws).length:Int):=z
      rw[length_append]at z
      refine ⟨_,?_,s'++Tb.kids ps tp bt (Tb.tot ps),ways,ys'++ws,zs,_,_,_,_,rfl,t6,hT6,hla6,hlw6,i8 (ak (EntR.t k6) hc5) (ak (EntR.t c6) hE2),ak (WayR.t c6) hWy2,hW6,?_,rfl⟩
      ·rw[Tb.stS_app,Tb.stS_app,Tb.stS_kids,Tb.stS,Tb.stS,Tb.sz]; lia
      ·rw[length_append]; lia
  ·have e0:ys=[]:=List.isEmpty_iff.mp (by simpa using hc)
   subst e0
   cases hE
   have ew:=hW.done
   have el:Tb.lv t≤4096:=by rw[← Tb.wl_len t 1 1,← ew]; simpa using hfew
   refine q1 el _ lw zs t1 hT1 flw hlw ?_
   rw[← ew]
   exact ak (WayR.t kL) hWy
end
end My
namespace My
open PySem L2 FrM Du
open Tb (Tr Ent Way Rws Ch Lm2)
inductive spGcd(vs:List V)(H:Hp)(Q:VK)(_E:XK):Prop
 | mk(x y:Int)(h0:vs=[.int x,.int y])(h1:0≤x)(h2:0≤y)(h3:Q (.int (Int.gcd x y)) H):spGcd vs H Q _E
def xa(H:Hp)(Q:VK)(T B:Int):Prop:=∀ H' p,Same H H'→H' p=some (.tup [.int (eW T B).1,.int (eW T B).2])→Q (.ref p) H'
inductive spLow(vs:List V)(H:Hp)(Q:VK)(_E:XK):Prop
 | mk(T B:Int)(h0:vs=[.int T,.int B])(h1:0<B)(h2:Bt 6000 T)(h3:Bt 6000 B)(h4:xa H Q T B):spLow vs H Q _E
def PT(K:Frag)(H:Hp)(p:Addr)(f:Int×Int):Prop:=H p=some (.tup [.int f.1,.int f.2])∨rR K p [.int f.1,.int f.2]=true
theorem PT.sq{K:Frag}{H:Hp}{p:Addr}{f:Int×Int}(h:PT K H p f):SqT K H p [.int f.1,.int f.2]:=h.elim SqT.of vE
def IsF(K:Frag)(H:Hp)(f:Int×Int)(x:V):Prop:=∃ p,x=.ref p∧PT K H p f
theorem IsF.tk{K:Frag}{H H':Hp}{f:Int×Int}{x:V}(k:TK H H')(h:IsF K H f x):IsF K H' f x:=let ⟨p,e,q⟩:=h; ⟨p,e,q.imp (fun z=>k _ _ z) id⟩
abbrev AllF(K:Frag)(H:Hp):List (Int×Int)→List V→Prop:=PySem.Paired (IsF K H)
theorem IsF.same{K:Frag}{H H':Hp}{f:Int×Int}{x:V}(s:Same H H')(h:IsF K H f x):IsF K H' f x:=h.tk s.tk
theorem AllF.tk{K:Frag}{H H':Hp}(k:TK H H'):∀{fs:List (Int×Int)}{xs:List V},AllF K H fs xs→AllF K H' fs xs
 | _,_,.nil=>.nil
 | _,_,.cons r t=>.cons (r.tk k) (AllF.tk k t)
theorem AllF.get{K:Frag}{H:Hp}:∀{fs:List (Int×Int)}{xs:List V}{i:Nat}{x:V},AllF K H fs xs→xs[i]? = some x→∃ f,fs[i]? = some f∧IsF K H f x
 | _,_,_,_,.nil,h=>by cases h
 | _,_,0,_,.cons r _,h=>⟨_,rfl,by cases h; exact r⟩
 | _,_,i+1,_,.cons _ t,h=>AllF.get (i:=i) t h
theorem AllF.snoc{K:Frag}{H:Hp}{f:Int×Int}{x:V}(r:IsF K H f x):∀{fs:List (Int×Int)}{xs:List V},AllF K H fs xs→AllF K H (fs++[f]) (xs++[x])
 | _,_,.nil=>.cons r .nil
 | _,_,.cons q t=>.cons q (AllF.snoc r t)
theorem AllF.len{K:Frag}{H:Hp}{fs:List (Int×Int)}{xs:List V}(h:AllF K H fs xs):fs.length=xs.length:=Paired.length h
theorem tG(T B:Int):Int.gcd (if T<0 then -T else T) B=Int.gcd T B:=by
 split
 ·exact Int.neg_gcd
 ·rfl
theorem px0{K:Frag}{H:Hp}{p:Addr}{x y:V}{Q:VK}(h:SqT K H p [x,y])(q:Q x H):rIx K (.ref p) (.int 0) H Q:=.inr (.inl ⟨p,_,_,x,rfl,rfl,h,cN (j:=0) rfl,q⟩)
theorem px1{K:Frag}{H:Hp}{p:Addr}{x y:V}{Q:VK}(h:SqT K H p [x,y])(q:Q y H):rIx K (.ref p) (.int 1) H Q:=.inr (.inl ⟨p,_,_,y,rfl,rfl,h,cN (j:=1) rfl,q⟩)
theorem dl(x y:V):[x,y].length≤sizeLine:=by show 2≤sizeLine; decide
abbrev IsQ(K:Frag)(H:Hp)(q:Rat)(x:V):Prop:=IsF K H (fr q) x
structure Bc(q:Rat):Prop where
 t0:0≤q.num
 bn:Bt 2800 q.num
 bd:Bt 2800 (q.den:Int)
theorem gj{D:Nat}{q:Rat}(hD:0<D)(hl:D≤Lm2)(h:Bq D q):Bc q:=by
 obtain ⟨b1,b2⟩:=Tb.bq_bb hD hl h
 exact ⟨(Tb.bq_bt hD h).1,b1.mono (by decide),b2.mono (by decide)⟩
inductive spLowN(vs:List V)(H:Hp)(Q:VK)(_E:XK):Prop
 | mk(T B:Int)(h0:vs=[.int T,.int B])(h1:0≤T)(h2:0<B)(h3:Bt 6000 T)(h4:Bt 6000 B)(h5:xa H Q T B):spLowN vs H Q _E
inductive spAr(op:Rat→Rat→Rat)(K:Frag)(vs:List V)(H:Hp)(Q:VK)(_E:XK):Prop
 | mk(x y:V)(p q:Rat)(h0:vs=[x,y])(h1:IsQ K H p x)(h2:IsQ K H q y)(h3:Bc p)(h4:Bc q)(h5:∀ H' z,Same H H'→IsQ K H' (op p q) z→Q z H'):spAr op K vs H Q _E
inductive spLcm(K:Frag)(vs:List V)(H:Hp)(Q:VK)(_E:XK):Prop
 | mk(l:Addr)(ns:List Int)(D:Nat)(h0:vs=[.ref l])(h1:SqL K H l (ns.map V.int))(h2:0<D)(h3:D≤Lm2)(h4:(∀ n∈ns,0<n∧n ∣ (D:Int)))(h5:∀ r,0<r→r ∣ (D:Int)→(∀ n∈ns,n ∣ r)→Q (.int r) H):spLcm K vs H Q _E
inductive spTotal(K:Frag)(vs:List V)(H:Hp)(Q:VK)(_E:XK):Prop
 | mk(l:Addr)(fs:List (Int×Int))(xs:List V)(D:Nat)(h0:vs=[.ref l])(h1:H l=some (.lst xs))(h2:AllF K H fs xs)(h3:xs.length≤5000)(h4:0<D)(h5:D≤Lm2)(h6:(∀ f∈fs,Ch (D:Int) f))(h7:∀ H' z,Same H H'→IsQ K H' (Tb.sumQ fs) z→Q z H'):spTotal K vs H Q _E
theorem qS{L:Int}:∀{xs:List Int},(∀ x∈xs,0≤x∧x≤L)→0≤xs.sum∧xs.sum≤(xs.length:Int)*L
 | [],_=>by simp
 | x::xs,h=>by
  have ih:=qS fun y hy=>h y (mem_cons_of_mem _ hy)
  have hx:=h x mem_cons_self
  rw[sum_cons,length_cons]
  have e:((xs.length+1:Nat):Int)*L=(xs.length:Int)*L+L:=by rw[Int.natCast_add,Int.add_mul]; simp
  rw[e]
  lia
theorem vV{L t b:Int}(hL:0<L)(t0:0≤t)(h:t≤b)(hb:0<b)(d:b ∣ L):0≤t*(L/b)∧t*(L/b)≤L:=by
 obtain ⟨c,rfl⟩:=d
 rw[Int.mul_ediv_cancel_left c (by lia)]
 have c0:0≤c:=by
  rcases Int.lt_or_le c 0 with z | z
  ·have:=Int.mul_neg_of_pos_of_neg hb z; lia
  ·exact z
 exact ⟨Int.mul_nonneg t0 c0,Int.mul_le_mul_of_nonneg_right h c0⟩
theorem yp{D n:Nat}{i:Int}(hl:D≤Lm2)(hn:n≤5000)(h0:0≤i)(h:i≤(n:Int)*(D:Int)):Bt 2800 i:=by
 unfold Bt
 have h1:(n:Int)*(D:Int)≤5000*(Lm2:Nat):=Int.mul_le_mul (by lia) (by lia) (by lia) (by lia)
 have h2:i.natAbs≤5000*Lm2:=by lia
 have h3:5000*Lm2<2 ^ 13*Lm2:=Nat.mul_lt_mul_of_pos_right (by decide) (by unfold Lm2; exact Nat.pow_pos (by decide))
 have h4:2 ^ 13*Lm2≤2 ^ 2800:=by unfold Lm2; rw[← Nat.pow_add]; exact Nat.pow_le_pow_right (by decide) (by decide)
 exact Nat.lt_of_le_of_lt h2 (Nat.lt_of_lt_of_le h3 h4)
section
variable {P:Program}{w:World}{K:Frag}{mg:Str→Option Value}{base:Heap}{a:Ad}
theorem qw(T:Txt K mg a):FnOk P w K mg base CX0 1 a.f_d a.d_d ["one","other"] spGcd:=by
 refine T.F_d.ok sc_d (fun vs H Q E h=>?_) (fun cdv A outer s H vs Q E hr h=>?_)
 ·obtain ⟨x,y,rfl,_⟩:=h; rfl
 ·obtain ⟨x0,y0,rfl,h0,h1,q⟩:=h
  refine ⟨_,(ah (fg PassesOwn.never (kE (vr 1) (fun _=>rfl)) (ao (ql rfl sc_d.nd (i:=0) (j:=1) rfl rfl (by decide) rfl rfl (aa (vr 1) (aa (aB dM (vr 0) (vr 1)) af)) rfl))) (ao (aC (vr 0)))),iA ?_⟩
  intro zt2
  refine ⟨fun m σ H'=>H'=H∧∃ x y:Int,0≤x∧0≤y∧m=y.toNat∧Int.gcd x y=Int.gcd x0 y0∧σ=[some (.int x),some (.int y)],⟨_,rfl,x0,y0,h0,h1,rfl,rfl,rfl⟩,?_⟩
  rintro m σ H' ⟨rfl,x,y,hx,hy,rfl,hg,rfl⟩
  refine ⟨_,rfl,?_⟩
  refine ifB (fun c=>?_) (fun c=>?_)
  ·have c':y≠0:=by simpa using c
   let Pw4:St→Hp→Prop:=fun σ' H''=>H''=H'∧σ'=[some (.int y),some (.int (x % y))]
   refine ⟨Pw4,?_,?_⟩
   ·rintro σ' H'' ⟨rfl,rfl⟩
    exact ⟨(x % y).toNat,by have:=Int.emod_lt_of_pos x (show 0<y by lia); have:=Int.emod_nonneg x c'; lia,rfl,y,x % y,hy,Int.emod_nonneg x c',rfl,by rw[kB,hg],rfl⟩
   ·exact ⟨cp (by lia),_,_,rfl,rfl,rfl⟩
  ·have c':y=0:=by simpa using c
   subst c'
   rw[Int.gcd_zero_right]at hg
   have:x=(Int.gcd x0 y0:Int):=by lia
   rw[← this]at q
   exact q
theorem jZ(T:Txt K mg a):FnOk P w K mg base CX0 2 a.f_H a.d_H ["top","bottom"] spLow:=by
 have G_H:FnOk P w K mg base CX0 1 a.f_H a.d_H ["top","bottom"] xj:=wF
 have G_d:FnOk P w K mg base CX0 1 _ _ _ spGcd:=qw T
 refine T.F_H.ok sc_H (fun vs H Q E h=>?_) (fun cdv A outer s H vs Q E hr h=>?_)
 ·obtain ⟨x,y,rfl,_⟩:=h; rfl
 ·obtain ⟨t,b,rfl,hb,b1,b2,q⟩:=h
  refine ⟨_,(ah (db (cJ xb (vr 1) ai (bM _)) (ao (aC (aq G_H hr rfl T.m_H T.F_H.kp T.B_H .nil aA (aa (uO uI (vr 0)) (aa (uO uI (vr 1)) af))))) bU) (ah (ax (i:=2) sc_H.nd rfl (Or.inl rfl) (aq G_d hr rfl T.m_d T.F_d.kp T.B_d .nil aA (aa (aI iu rfl T.z_abs mG (aa (vr 0) af)) (aa (vr 1) af)))) (ao (aC (bO (aa (aB cK (vr 0) (vr 2)) (aa (aB cK (vr 1) (vr 2)) af))))))),jd ?_⟩
  intro zt3 zt2
  obtain ⟨l1,l2,l3,l4,l5⟩:=low t b hb
  refine ifC (fun c=>absurd c (by lia)) (fun _=>?_)
  refine ⟨t,rfl,⟨_,_,rfl,by split <;> lia,by lia,?_⟩⟩
  rw[tG]
  have hd:Bt 6000 (Int.gcd t b:Int):=b2.le (by lia)
  refine ⟨cdB l1 hd,cdB l1 hd,dl _ _,fun p hp=>?_⟩
  exact q _ p (Same.new hp) ad
theorem lc(T:Txt K mg a):FnOk P w K mg base CX0 1 a.f_y a.d_y ["_law_one","_law_other"] spGcd:=by
 refine T.F_y.ok sc_y (fun vs H Q E h=>?_) (fun cdv A outer s H vs Q E hr h=>?_)
 ·obtain ⟨x,y,rfl,_⟩:=h; rfl
 ·obtain ⟨x0,y0,rfl,h0,h1,q⟩:=h
  refine ⟨_,(ah (fg PassesOwn.never (cJ wA (vr 1) ai (bM _)) (ao (ql rfl sc_y.nd (i:=0) (j:=1) rfl rfl (by decide) rfl rfl (aa (vr 1) (aa (aB dM (vr 0) (vr 1)) af)) rfl))) (ao (aC (aI iu rfl T.z_abs mG (aa (vr 0) af))))),iA ?_⟩
  intro zt2
  refine ⟨fun m σ H'=>H'=H∧∃ x y:Int,0≤x∧0≤y∧m=y.toNat∧Int.gcd x y=Int.gcd x0 y0∧σ=[some (.int x),some (.int y)],⟨_,rfl,x0,y0,h0,h1,rfl,rfl,rfl⟩,?_⟩
  rintro m σ H' ⟨rfl,x,y,hx,hy,rfl,hg,rfl⟩
  refine ifB (fun c=>?_) (fun c=>?_)
  ·have c':y≠0:=by simpa using c
   let Pw5:St→Hp→Prop:=fun σ' H''=>H''=H'∧σ'=[some (.int y),some (.int (x % y))]
   refine ⟨Pw5,?_,?_⟩
   ·rintro σ' H'' ⟨rfl,rfl⟩
    exact ⟨(x % y).toNat,by have:=Int.emod_lt_of_pos x (show 0<y by lia); have:=Int.emod_nonneg x c'; lia,rfl,y,x % y,hy,Int.emod_nonneg x c',rfl,by rw[kB,hg],rfl⟩
   ·exact ⟨cp (by lia),_,_,rfl,rfl,rfl⟩
  ·have c':y=0:=by simpa using c
   subst c'
   rw[Int.gcd_zero_right]at hg
   have e:x=(Int.gcd x0 y0:Int):=by lia
   refine ⟨x,rfl,?_⟩
   rw[if_neg (by lia),e]
   exact q
theorem fY(T:Txt K mg a):FnOk P w K mg base CX0 2 a.f_q a.d_q ["_law_top","_law_bottom"] spLowN:=by
 have G_y:FnOk P w K mg base CX0 1 _ _ _ spGcd:=lc T
 refine T.F_q.ok sc_q (fun vs H Q E h=>?_) (fun cdv A outer s H vs Q E hr h=>?_)
 ·obtain ⟨x,y,rfl,_⟩:=h; rfl
 ·obtain ⟨t,b,rfl,ht,hb,b1,b2,q⟩:=h
  refine ⟨_,(ah (ax (i:=2) sc_q.nd rfl (Or.inl rfl) (aq G_y hr rfl T.m_y T.F_y.kp T.B_y .nil aA (aa (vr 0) (aa (vr 1) af)))) (ao (aC (bO (aa (aB cK (vr 0) (vr 2)) (aa (aB cK (vr 1) (vr 2)) af)))))),iA ?_⟩
  intro zt2
  obtain ⟨l1,l2,l3,l4,l5⟩:=low t b hb
  refine ⟨_,_,rfl,ht,by lia,?_⟩
  have hd:Bt 6000 (Int.gcd t b:Int):=b2.le (by lia)
  refine ⟨cdB l1 hd,cdB l1 hd,dl _ _,fun p hp=>?_⟩
  exact q _ p (Same.new hp) ad
theorem lF(T:Txt K mg a):FnOk P w K mg base CX0 3 a.f_M a.d_M ["_law_one","_law_other"] (spAr (· + ·) K):=by
 have G_q:FnOk P w K mg base CX0 2 _ _ _ spLowN:=fY T
 refine T.F_M.ok rC (fun vs H Q E h=>?_) (fun cdv A outer s H vs Q E hr h=>?_)
 ·obtain ⟨x,y,p,q,rfl,_⟩:=h; rfl
 ·obtain ⟨x,y,p,q,rfl,⟨x,rfl,hx⟩,⟨y,rfl,hy⟩,bp,bq,k⟩:=h
  refine ⟨_,(ao (aC (aq G_q hr rfl T.m_q T.F_q.kp T.B_q .nil aA (aa (aB dD (aB bT (bN bv (vr 0) ai (fun _ _=>rfl)) (bN bv (vr 1) ai (fun _ _=>rfl))) (aB bT (bN bv (vr 1) ai (fun _ _=>rfl)) (bN bv (vr 0) ai (fun _ _=>rfl)))) (aa (aB bT (bN bv (vr 0) ai (fun _ _=>rfl)) (bN bv (vr 1) ai (fun _ _=>rfl))) af))))),?_⟩
  have dp:(0:Int)<p.den:=by have:=p.den_pos; lia
  have dq:(0:Int)<q.den:=by have:=q.den_pos; lia
  have m1:Bt 5600 (p.num*(q.den:Int)):=bp.bn.mul bq.bd
  have m2:Bt 5600 (q.num*(p.den:Int)):=bq.bn.mul bp.bd
  have m3:Bt 5600 ((p.den:Int)*(q.den:Int)):=bp.bd.mul bq.bd
  refine px0 hx.sq (px1 hy.sq ⟨cmB bp.bn bq.bd,px0 hy.sq (px1 hx.sq ⟨cmB bq.bn bp.bd,px1 hx.sq (px1 hy.sq ⟨cmB bp.bd bq.bd,?_⟩)⟩)⟩)
  refine ⟨_,_,rfl,Int.add_nonneg (Int.mul_nonneg bp.t0 (Int.le_of_lt dq)) (Int.mul_nonneg bq.t0 (Int.le_of_lt dp)),Int.mul_pos dp dq,(m1.add m2).mono (by decide),m3.mono (by decide),fun H' r s hr2=>k _ _ s ⟨r,rfl,.inl ?_⟩⟩
  rw[hr2]
  show some (HO.tup [.int (eW (p.num*(q.den:Int)+q.num*(p.den:Int)) ((p.den:Int)*(q.den:Int))).1,.int (eW (p.num*(q.den:Int)+q.num*(p.den:Int)) ((p.den:Int)*(q.den:Int))).2])=_
  rw[uf]
theorem lz(T:Txt K mg a):FnOk P w K mg base CX0 3 a.f_E a.d_E ["_law_one","_law_other"] (spAr (· * ·) K):=by
 have G_q:FnOk P w K mg base CX0 2 _ _ _ spLowN:=fY T
 refine T.F_E.ok ju (fun vs H Q E h=>?_) (fun cdv A outer s H vs Q E hr h=>?_)
 ·obtain ⟨x,y,p,q,rfl,_⟩:=h; rfl
 ·obtain ⟨x,y,p,q,rfl,⟨x,rfl,hx⟩,⟨y,rfl,hy⟩,bp,bq,k⟩:=h
  refine ⟨_,(ao (aC (aq G_q hr rfl T.m_q T.F_q.kp T.B_q .nil aA (aa (aB bT (bN bv (vr 0) ai (fun _ _=>rfl)) (bN bv (vr 1) ai (fun _ _=>rfl))) (aa (aB bT (bN bv (vr 0) ai (fun _ _=>rfl)) (bN bv (vr 1) ai (fun _ _=>rfl))) af))))),?_⟩
  have dp:(0:Int)<p.den:=by have:=p.den_pos; lia
  have dq:(0:Int)<q.den:=by have:=q.den_pos; lia
  have m1:Bt 5600 (p.num*q.num):=bp.bn.mul bq.bn
  have m3:Bt 5600 ((p.den:Int)*(q.den:Int)):=bp.bd.mul bq.bd
  refine px0 hx.sq (px0 hy.sq ⟨cmB bp.bn bq.bn,px1 hx.sq (px1 hy.sq ⟨cmB bp.bd bq.bd,?_⟩)⟩)
  refine ⟨_,_,rfl,Int.mul_nonneg bp.t0 bq.t0,Int.mul_pos dp dq,m1.mono (by decide),m3.mono (by decide),fun H' r s hr2=>k _ _ s ⟨r,rfl,.inl ?_⟩⟩
  rw[hr2]
  show some (HO.tup [.int (eW (p.num*q.num) ((p.den:Int)*(q.den:Int))).1,.int (eW (p.num*q.num) ((p.den:Int)*(q.den:Int))).2])=_
  rw[uz]
theorem qR(T:Txt K mg a):FnOk P w K mg base CX0 2 a.f_e a.d_e ["numbers"] (spLcm K):=by
 have G_d:FnOk P w K mg base CX0 1 _ _ _ spGcd:=qw T
 refine T.F_e.ok sc_e (fun vs H Q E h=>?_) (fun cdv A outer s H vs Q E hr h=>?_)
 ·obtain ⟨l,ns,D,rfl,_⟩:=h; rfl
 ·obtain ⟨l,ns,D,rfl,hl,hD,hDl,hns,q⟩:=h
  refine ⟨_,(ah (ax (i:=1) sc_e.nd rfl (Or.inl rfl) ai) (ah (b7 PassesOwn.never rfl (aY (vr 0)) (ar (i:=2) sc_e.nd rfl (Or.inl rfl)) (ao (ax (i:=1) sc_e.nd rfl (Or.inl rfl) (aB bT (aB cK (vr 1) (aq G_d hr rfl T.m_d T.F_d.kp T.B_d .nil aA (aa (vr 1) (aa (vr 2) af)))) (vr 2))))) (ao (aC (vr 1))))),jd ?_⟩
  intro zt3 zt2
  let Pw1:PvS:=fun i σ H'=>H'=H∧∃(r:Int) (x:Option V),σ=[some (.ref l),some (.int r),x]∧0<r∧r ∣ (D:Int)∧∀ n∈ns.take i,n ∣ r
  refine .inl ⟨⟨_,hl⟩,bX (K:=K) (a:=l) (xs:=ns.map V.int) Pw1 ⟨rfl,1,none,rfl,by lia,Int.one_dvd _,(fun n hn=>by cases hn)⟩ (fun i σ H' _ h=>by rw[h.1]; exact hl) ?_ ?_⟩
  ·rintro i x σ H' hx ⟨rfl,r,x2,rfl,r1,hr9,hi⟩
   rw[List.getElem?_map]at hx
   obtain ⟨n,hn,rfl⟩:∃ n,ns[i]? = some n∧V.int n=x:=by
    cases e:ns[i]? with
    | none=>rw[e]at hx; cases hx
    | some n=>rw[e]at hx; cases hx; exact ⟨n,rfl,rfl⟩
   obtain ⟨n1,n2⟩:=hns n (List.mem_of_getElem? hn)
   obtain ⟨s1,s2,s3,s4⟩:=Tb.lcm_step r1 n1 hr9 n2
   have g0:0<Int.gcd r n:=Int.gcd_pos_of_ne_zero_right _ (by lia)
   have hg2:(Int.gcd r n:Int)≤n:=Int.le_of_dvd n1 (Int.gcd_dvd_right (a:=r) (b:=n))
   have nD:=Int.le_of_dvd (by lia) n2
   have rD:=Int.le_of_dvd (by lia) hr9
   have bg:=Tb.bt_of (i:=(Int.gcd r n:Int)) hD hDl (by lia) (by lia)
   have bn:=Tb.bt_of (i:=n) hD hDl (by lia) nD
   have br:=Tb.bt_of (i:=r/(Int.gcd r n:Int)) hD hDl (Int.ediv_nonneg (by lia) (by lia)) (Int.le_trans (Int.ediv_le_self _ (by lia)) rD)
   refine ⟨r,n,rfl,by lia,by lia,?_⟩
   refine ⟨cdB (by lia) bg,?_⟩
   refine ⟨cmB br bn,rfl,_,_,rfl,s1,s4,fun m hm=>?_⟩
   rw[take_add_one,hn]at hm
   rcases mem_append.mp hm with hm | hm
   ·exact Int.dvd_trans (hi m hm) s2
   ·have:m=n:=by simpa using hm
    rw[this]; exact s3
  ·rintro σ H' ⟨rfl,r,x2,rfl,r1,hr9,hi⟩
   refine q r r1 hr9 ?_
   rw[length_map,take_length]at hi
   exact hi
theorem qi(T:Txt K mg a):FnOk P w K mg base CX0 3 a.f_P a.d_P ["fractions"] (spTotal K):=by
 have G_e:FnOk P w K mg base CX0 2 _ _ _ (spLcm K):=qR T
 have G_H:FnOk P w K mg base CX0 2 _ _ _ spLow:=jZ T
 refine T.F_P.ok sc_P (fun vs H Q E h=>?_) (fun cdv A outer s H vs Q E hr h=>?_)
 ·obtain ⟨l,fs,xs,D,rfl,_⟩:=h; rfl
 ·obtain ⟨l,fs,xs,D,rfl,hl,hF,hlen,hD,hDl,hch,q⟩:=h
  have small:sizeLine=16777216:=sizeLine_eq
  have fl:fs.length=xs.length:=hF.len
  refine ⟨_,(ah (ax (i:=1) sc_P.nd rfl (Or.inr rfl) (aq G_e hr rfl T.m_e T.F_e.kp T.B_e .nil aA (aa (bJ rfl (N:=["fraction"]) (ix:=[none]) ⟨rfl,rfl,rfl,rfl,trivial⟩ (aY (vr 0)) ⟨fun C s H fp=>ar (i:=0) (show List.Nodup (["fraction"]:List Str) by decide +kernel) rfl (Or.inl rfl),fun C s H fp=>bz,fun C s H fp=>(bN (fH (K:=K) rfl) (vr 0) ai (fun _ _=>rfl))⟩) af))) (ao (aC (aq G_H hr rfl T.m_H T.F_H.kp T.B_H .nil aA (aa (aI (fZ rfl) rfl T.z_sum mn (aa (bJ rfl (N:=["top","own","bottom"]) (ix:=[none,none,some 1]) ⟨rfl,rfl,rfl,rfl,⟨rfl,rfl,rfl,trivial⟩⟩ (aY (vr 0)) ⟨fun C s H fp=>(dZ (K:=K) (n:=2) rfl rfl (aD (ar (i:=0) (show List.Nodup (["top","own","bottom"]:List Str) by decide +kernel) rfl (Or.inl rfl)) (aD (ar (i:=1) (show List.Nodup (["top","own","bottom"]:List Str) by decide +kernel) rfl (Or.inl rfl)) bV))),fun C s H fp=>bz,fun C s H fp=>(aB bT (vr 0) (aB cK (vr 2) (vr 1)))⟩) af)) (aa (vr 1) af)))))),iA ?_⟩
  intro zt2
  refine .inl ⟨⟨_,SqL.of hl⟩,fun D1 hD1=>?_⟩
  let Pw2:PvL:=fun i zs H'=>Same H H'∧H' D1=some (.lst zs)∧i≤fs.length∧zs=((fs.take i).map (·.2)).map V.int
  refine bK (K:=K) (a:=l) (xs:=xs) Pw2 ⟨Same.new hD1,ad,Nat.zero_le _,rfl⟩ (fun i ys H' h=>SqL.of (h.1 _ _ hl)) (fun i ys H' h=>h.2.1) ?_ ?_
  ·rintro i y zs H' P' hy ⟨s1,hD2,hi,rfl⟩ hP'
   obtain ⟨⟨t,b⟩,hf,p,rfl,hp⟩:=hF.get hy
   have ilt:i<fs.length:=(List.getElem?_eq_some_iff.mp hf).1
   refine ⟨trivial,px1 (IsF.same s1 ⟨p,rfl,hp⟩ |> fun ⟨_,e,z⟩=>by cases e; exact z.sq) ⟨hD2,by rw[length_map,length_map,length_take]; lia,hP' _ _ ⟨s1.put hD1,ad,ilt,?_⟩⟩⟩
   rw[take_add_one,hf]
   simp
  rintro zs H1 ⟨s1,hD2,_,rfl⟩
  rw[← fl,take_length]at hD2
  refine ⟨D1,fs.map (·.2),D,rfl,SqL.of hD2,hD,hDl,fun n hn=>?_,fun r r1 hr9 hrn=>?_⟩
  ·obtain ⟨f,hf,rfl⟩:=mem_map.mp hn
   exact ⟨(hch f hf).b0,(hch f hf).dv⟩
  have rD:=Int.le_of_dvd (show (0:Int)<(D:Int) by lia) hr9
  have dr:∀ f∈fs,f.2 ∣ r:=fun f hf=>hrn _ (mem_map.mpr ⟨f,hf,rfl⟩)
  refine .inl ⟨⟨_,SqL.of (s1 _ _ hl)⟩,fun D3 hD3=>?_⟩
  let Pw3:PvL:=fun i zs H'=>Same H1 H'∧H' D3=some (.lst zs)∧i≤fs.length∧zs=((fs.take i).map fun f=>f.1*(r/f.2)).map V.int
  refine bK (K:=K) (a:=l) (xs:=xs) Pw3 ⟨Same.new hD3,ad,Nat.zero_le _,rfl⟩ (fun i ys H' h=>SqL.of (h.1 _ _ (s1 _ _ hl))) (fun i ys H' h=>h.2.1) ?_ ?_
  ·rintro i y zs H' P' hy ⟨s2,hD4,hi,rfl⟩ hP'
   obtain ⟨⟨t,b⟩,hf,p,rfl,hp⟩:=hF.get hy
   have ilt:i<fs.length:=(List.getElem?_eq_some_iff.mp hf).1
   have hc:=hch _ (List.mem_of_getElem? hf)
   obtain ⟨b1,b2⟩:=Tb.ch_bt hD hDl hc
   have b0:0<b:=hc.b0
   have hp':SqT K H' p [.int t,.int b]:=by
    obtain ⟨_,e,z⟩:=IsF.same (s1.trans s2) (x:=.ref p) ⟨p,rfl,hp⟩
    cases e
    exact z.sq
   have br:=Tb.bt_of (i:=r/b) hD hDl (Int.ediv_nonneg (by lia) (by lia)) (Int.le_trans (Int.ediv_le_self _ (by lia)) rD)
   refine ⟨p,_,rfl,hp',rfl,_,_,rfl,_,_,rfl,rfl,⟨rfl,trivial⟩,cdB b0 b2,cmB b1 br,hD4,by rw[length_map,length_map,length_take]; lia,hP' _ _ ⟨s2.put hD3,ad,ilt,?_⟩⟩
   rw[take_add_one,hf]
   simp
  rintro zs H2 ⟨s2,hD4,_,rfl⟩
  rw[← fl,take_length]at hD4
  refine ⟨D3,_,rfl,SqL.of hD4,?_⟩
  have sb:0≤(fs.map fun f=>f.1*(r/f.2)).sum∧(fs.map fun f=>f.1*(r/f.2)).sum≤((fs.map fun f=>f.1*(r/f.2)).length:Int)*r:=qS fun x hx=>by
   obtain ⟨f,hf,rfl⟩:=mem_map.mp hx
   exact vV r1 (hch f hf).t0 (hch f hf).le (hch f hf).b0 (dr f hf)
  rw[length_map]at sb
  have sD:(fs.map fun f=>f.1*(r/f.2)).sum≤(fs.length:Int)*(D:Int):=Int.le_trans sb.2 (Int.mul_le_mul_of_nonneg_left rD (by lia))
  refine ⟨_,_,rfl,r1,(yp hDl (by lia) sb.1 sD).mono (by decide),(Tb.bt_of hD hDl (by lia) rD).mono (by decide),fun H3 p s3 hp3=>q _ _ ((s1.trans s2).trans s3) ⟨p,rfl,.inl ?_⟩⟩
  rw[hp3,Tb.low_tops r1 (Tb.top_sum r1 fun f hf=>⟨(hch f hf).b0,dr f hf⟩)]
end
end My
namespace Tb
open FrM Du LexM
theorem kK{k:List Int}{c:Int×Int}:∀ g:Grp,(pushG k c g).length≤g.length+1
 | []=>by rw[pushG]; simp
 | y::r=>by
  rw[pushG]
  split
  ·simp
  ·rw[length_cons,length_cons]; have:=kK (k:=k) (c:=c) r; lia
def Gk(W:List Way)(n:Nat)(g:Grp):Prop:=g.length≤n∧∀ x∈g,x.2.length≤n∧∀ c∈x.2,∃ w∈W,w.2=c
theorem Gk.push{W:List Way}{n:Nat}{g:Grp}(h:Gk W n g){w:Way}(hw:w∈W):Gk W (n+1) (pushG w.1 w.2 g):=by
 refine ⟨Nat.le_trans (kK g) (by have:=h.1; lia),fun x hx=>?_⟩
 have go:∀ g:Grp,(∀ x∈g,x.2.length≤n∧∀ c∈x.2,∃ w∈W,w.2=c)→∀ x∈pushG w.1 w.2 g,x.2.length≤n+1∧∀ c∈x.2,∃ w∈W,w.2=c:=by
  intro g
  induction g with
  | nil=>intro _ x hx; rw[pushG]at hx; rw[mem_singleton.mp hx]; exact ⟨by simp,fun c hc=>⟨w,hw,(mem_singleton.mp hc).symm⟩⟩
  | cons y r ih =>
   intro h x hx
   rw[pushG]at hx
   have hy:=h y mem_cons_self
   split at hx
   ·rcases mem_cons.mp hx with rfl | hx
    ·refine ⟨by rw[length_append]; have:=hy.1; simp; lia,fun c hc=>?_⟩
     rcases mem_append.mp hc with hc | hc
     ·exact hy.2 c hc
     ·exact ⟨w,hw,(mem_singleton.mp hc).symm⟩
    ·have:=h x (mem_cons_of_mem _ hx); exact ⟨by lia,this.2⟩
   ·rcases mem_cons.mp hx with rfl | hx
    ·exact ⟨by have:=hy.1; lia,hy.2⟩
    ·exact ih (fun z hz=>h z (mem_cons_of_mem _ hz)) x hx
 exact go g h.2 x hx
theorem grp_gk(W:List Way):∀ i,i≤W.length→Gk W i (grp (W.take i))
 | 0,_=>⟨Nat.le_refl _,fun x hx=>by cases hx⟩
 | i+1,h=>by
  obtain ⟨w,hw⟩:∃ w,W[i]? = some w:=⟨_,List.getElem?_eq_getElem (by lia)⟩
  rw[grp_snoc hw]
  exact (grp_gk W i (by lia)).push (List.mem_of_getElem? hw)
theorem rat_keys(g:Grp):(rat g).map (·.1)=g.map (·.1):=by unfold rat; rw[map_map]; rfl
theorem grp_nd(W:List Way):NdR (rat (grp W)):=by rw[rat_grp]; exact adds_nd _
theorem kW_ch{t:Tr}(h:Ok t):∀ w∈kW (wl t 1 1),Ch ((dn t:Nat):Int) w.2:=fun w hw=>by
 obtain ⟨y,hy,rfl⟩:=mem_map.mp hw
 have:=uH t 1 1 1 h (by decide) (by decide) (by decide) (Int.dvd_refl 1) y hy
 rwa [Int.one_mul]at this
theorem kW_len(t:Tr):(kW (wl t 1 1)).length=lv t:=by unfold kW; rw[length_map,wl_len]
theorem kW_get{W:List Way}{i:Nat}{w:Way}(h:W[i]? = some w):(kW W)[i]? = some (so w.1,w.2):=by unfold kW; rw[List.getElem?_map,h]; rfl
end Tb
namespace My
open PySem L2 FrM Du LexM
open Tb (Tr Ent Way Rws Ch Lm2 Grp)
theorem dh{x y:List Int}(h:x.map (Sum.inl:Int→Key)=y.map Sum.inl):x=y:=by
 have:=congrArg (List.map fun k:Key=>match k with | .inl i=>i | .inr _=>0) h
 rw[map_map,map_map]at this
 have e:∀ l:List Int,l.map ((fun k:Key=>match k with | .inl i=>i | .inr _=>0) ∘ Sum.inl)=l:=fun l=>by
  induction l with
  | nil=>rfl
  | cons a l ih=>rw[map_cons,ih]; rfl
 rw[e,e]at this
 exact this
def GrR(K:Frag)(H1 H:Hp)(x:List Int×List (Int×Int))(kv:List Key×V):Prop:=kv.1=x.1.map Sum.inl∧∃ l ys,kv.2=.ref l∧H1 l=none∧H l=some (.lst ys)∧AllF K H1 x.2 ys
theorem GrR.m{K:Frag}{H1 H H':Hp}(h:∀ l ys,H l=some (.lst ys)→H' l=some (.lst ys))(x:List Int×List (Int×Int))(kv:List Key×V)(g:GrR K H1 H x kv):GrR K H1 H' x kv:=by
 obtain ⟨e,l,ys,h1,h2,h3,h4⟩:=g
 exact ⟨e,l,ys,h1,h2,h _ _ h3,h4⟩
theorem wT{K:Frag}{H1 H:Hp}{l:Addr}{ys:List V}{g:Grp}{kvs:List (List Key×V)}(h:Paired (GrR K H1 H) g kvs)(n:V.ref l ∉ kvs.map (·.2)):Paired (GrR K H1 (upd H l (.lst ys))) g kvs:=by
 induction h with
 | nil=>exact .nil
 | @cons x kv g kvs r t ih =>
  rw[map_cons,mem_cons,not_or]at n
  obtain ⟨e,l',ys',h1,h2,h3,h4⟩:=r
  refine .cons ⟨e,l',ys',h1,h2,?_,h4⟩ (ih n.2)
  rw[ag (fun z=>n.1 (by rw[h1,z]))]
  exact h3
theorem vd{K:Frag}{H1 H:Hp}{k:List Int}{c:Int×Int}{v:V}{g:Grp}{kvs:List (List Key×V)}(h:Paired (GrR K H1 H) g kvs)(nd:(kvs.map (·.2)).Nodup)(hv:cf kvs (k.map Sum.inl)=some v) :
  ∃ x l ys,x∈g∧v=.ref l∧H1 l=none∧H l=some (.lst ys)∧ys.length=x.2.length∧∀ ct,IsF K H1 c ct→Paired (GrR K H1 (upd H l (.lst (ys++[ct])))) (Tb.pushG k c g) kvs:=by
 induction h with
 | nil=>cases hv
 | @cons x kv g kvs r t ih =>
  obtain ⟨e,l,ys,h1,h2,h3,h4⟩:=r
  rw[map_cons,nodup_cons]at nd
  by_cases z:x.1=k
  ·rw[bw (by rw[e,z])]at hv
   have hv:kv.2=v:=Option.some.inj hv
   refine ⟨x,l,ys,mem_cons_self,by rw[← hv,h1],h2,h3,h4.len.symm,fun ct hct=>?_⟩
   rw[Tb.pushG,if_pos z]
   rw[h1]at nd
   exact .cons ⟨by show kv.1=k.map Sum.inl; rw[e,z],l,ys++[ct],h1,h2,ad,h4.snoc hct⟩ (wT t nd.1)
  ·rw[bx (fun y=>z (dh (e.symm.trans y)))]at hv
   obtain ⟨x',l',ys',g1,g2,g3,g4,g5,g6⟩:=ih nd.2 hv
   refine ⟨x',l',ys',mem_cons_of_mem _ g1,g2,g3,g4,g5,fun ct hct=>?_⟩
   rw[Tb.pushG,if_neg z]
   refine .cons ⟨e,l,ys,h1,h2,?_,h4⟩ (g6 ct hct)
   have hm:v∈kvs.map (·.2):=by
    unfold cf at hv
    cases hf:kvs.find? (fun kv=>decide (kv.1=k.map Sum.inl)) with
    | none=>rw[hf]at hv; cases hv
    | some y =>
     rw[hf]at hv
     have:y.2=v:=Option.some.inj hv
     exact mem_map.mpr ⟨y,List.mem_of_find?_eq_some hf,this⟩
   rw[ag (fun y=>nd.1 (by rw[h1,y,← g2]; exact hm))]
   exact h3
theorem vo{K:Frag}{H1 H:Hp}{k:List Int}{c:Int×Int}{D:Addr}{ct:V}{g:Grp}{kvs:List (List Key×V)}(h:Paired (GrR K H1 H) g kvs)(hn:cf kvs (k.map Sum.inl)=none)(f1:H1 D=none)(hD:H D=some (.lst [ct]))(hct:IsF K H1 c ct):Paired (GrR K H1 H) (Tb.pushG k c g) (kvs++[(k.map Sum.inl,.ref D)]):=by
 induction h with
 | nil=>exact .cons ⟨rfl,D,[ct],rfl,f1,hD,.cons hct .nil⟩ .nil
 | @cons x kv g kvs r t ih =>
  have z:¬x.1=k:=fun z=>by rw[bw (by rw[r.1,z])]at hn; cases hn
  rw[bx (fun y=>z (dh (r.1.symm.trans y)))]at hn
  rw[Tb.pushG,if_neg z]
  exact .cons r (ih hn)
theorem si{K:Frag}{H1 H:Hp}{g:Grp}{kvs:List (List Key×V)}(h:Paired (GrR K H1 H) g kvs):kvs.map (·.1)=(g.map (·.1)).map fun x=>x.map Sum.inl:=by
 induction h with
 | nil=>rfl
 | cons r _ ih=>rw[map_cons,map_cons,map_cons,ih,r.1]
theorem w6{K:Frag}{H1 H:Hp}{g:Grp}{kvs:List (List Key×V)}(h:Paired (GrR K H1 H) g kvs)(nd:(g.map (·.1)).Nodup){i:Nat}{x:List Int×List (Int×Int)}(hx:g[i]? = some x):∃ l ys,cf kvs (x.1.map Sum.inl)=some (.ref l)∧H l=some (.lst ys)∧AllF K H1 x.2 ys:=by
 induction h generalizing i with
 | nil=>cases hx
 | @cons x' kv g kvs r t ih =>
  rw[map_cons,nodup_cons]at nd
  obtain ⟨e,l,ys,h1,h2,h3,h4⟩:=r
  cases i with
  | zero =>
   cases hx
   exact ⟨l,ys,by rw[bw e,h1],h3,h4⟩
  | succ i =>
   obtain ⟨l',ys',g1,g2,g3⟩:=ih nd.2 (i:=i) hx
   refine ⟨l',ys',?_,g2,g3⟩
   rw[bx,g1]
   intro y
   have:=dh (e.symm.trans y)
   exact nd.1 (by rw[this]; exact mem_map.mpr ⟨x,List.mem_of_getElem? hx,rfl⟩)
def RowR(K:Frag)(H:Hp)(x:List Int×Rat)(y:V):Prop:=∃ p kt z,y=.ref p∧H p=some (.tup [.ref kt,z])∧H kt=some (.tup (x.1.map V.int))∧IsQ K H x.2 z
theorem RowR.tk{K:Frag}{H H':Hp}(s:TK H H')(x:List Int×Rat)(y:V)(h:RowR K H x y):RowR K H' x y:=by
 obtain ⟨p,kt,z,h1,h2,h3,h4⟩:=h
 exact ⟨p,kt,z,h1,s _ _ h2,s _ _ h3,h4.tk s⟩
def gF(a:Ad)(K:Frag):Sp:=fun vs H Q E=>∃ v H0 d t,vs=[v]∧IsNode a H0 H d v t∧d≤4∧Tb.Ok t∧Tb.dn t≤Lm2∧SqH H0∧SameT H0 H∧TabsOk (tabs a) H∧(Tb.lv t≤4096→∀ H' l R ys,SameT H H'→TabsOk (tabs a) H'→H l=none→H' l=some (.lst ys)→Paired (RowR K H') R ys→Tb.IsTab (Tb.toR (Tb.kW (Tb.wl t 1 1))) R→ys.length≤4096→Q (.ref l) H')∧(4096<Tb.lv t→RefM a H E)
theorem RefM.t{a:Ad}{H H':Hp}{E:XK}(s:SameT H H')(h:RefM a H E):RefM a H' E:=fun H2 t=>h H2 (s.trans t)
section
variable {P:Program}{w:World}{K:Frag}{mg:Str→Option Value}{base:Heap}{a:Ad}
theorem iq(T:Txt K mg a)(hB:Bm mg base):FnOk P w K mg base (CXG P w) 8 a.f_I a.d_I ["node"] (gF a K):=by
 have G_D:FnOk P w K mg base (CXG P w) 7 _ _ _ (rN a):=ur T hB
 have G_P:FnOk P w K mg base CX0 7 _ _ _ _:=(qi T).mono (by decide)
 refine T.F_I.okG sc_I (fun vs H Q E h=>?_) (fun cdv A outer s H vs Q E hr h=>?_)
 ·obtain ⟨v,H0,d,t,rfl,_⟩:=h; rfl
 ·obtain ⟨v,H0,d,t,rfl,hn,hd,hok,hdn,hsq,s0,hT,q1,q2⟩:=h
  have small:sizeLine=16777216:=sizeLine_eq
  refine ⟨_,(ah (ax (i:=1) sc_I.nd rfl (Or.inr rfl) hJ) (ah (b7 qF rfl (aY (aq G_D hr rfl T.m_D T.F_D.kp T.B_D .nil uQ (aa (vr 0) af))) (eB rfl (aD (ar (i:=2) sc_I.nd rfl (Or.inl rfl)) (aD (ar (i:=3) sc_I.nd rfl (Or.inl rfl)) bV))) (ao (cH (pe_m.append (v6 (iy hr) (vr 1) (vr 2) (cI af) ⟨rfl,rfl,rfl,rfl⟩) (aa (vr 3) af))))) (ao (aC (bJ rfl (N:=["kept","found"]) (ix:=[none,some 1]) ⟨rfl,rfl,rfl,rfl,⟨rfl,rfl,rfl,trivial⟩⟩ (aY (aI (iN rfl hr.units) rfl T.z_sorted eL (aa (vr 1) af))) ⟨fun C s H fp=>ar (i:=0) (show List.Nodup (["kept","found"]:List Str) by decide +kernel) rfl (Or.inl rfl),fun C s H fp=>bz,fun C s H fp=>(bO (aa (vr 0) (aa (aq G_P hr rfl T.m_P T.F_P.kp T.B_P .nil aA (aa (sJ (iy hr) (vr 1) (vr 0) (fun _ _=>rfl)) af)) af)))⟩))))),jd ?_⟩
  intro zt3 zt2
  intro df fdf
  have u1:=Same.new (o:=.dT []) fdf
  have hdf0:=ad (H:=H) (a:=df) (o:=.dT [])
  generalize upd H df (.dT [])=Ha at u1 hdf0
  refine ⟨v,H0,d,t,rfl,hn.t u1.t,hd,hok,hsq,s0.trans u1.t,hT.same u1,fun hlv H1 lw zs t1 hT1 flw hlw hW=>?_,fun h=>(q2 h).t u1.t⟩
  have hdf1:=t1.at hdf0
  have Dp:=Tb.dn_pos t hok
  have zl:zs.length=Tb.lv t:=by rw[← hW.length,Tb.wl_len]
  have chs:=Tb.kW_ch hok
  have kwl:=Tb.kW_len t
  have t01:SameT H H1:=u1.t.trans t1
  generalize hWW:Tb.wl t 1 1=W at hW chs kwl q1
  have wl1:W.length=zs.length:=hW.length
  have fdf1:∀ b,H1 b=none→b≠df:=fun b hb z=>by rw[z,hdf1]at hb; cases hb
  let Pw1:PvS:=fun i σ H'=>∃(kvs:List (List Key×V)) (x2 x3:Option V),(∀ b o,b≠df→H1 b=some o→H' b=some o)∧TabsOk (tabs a) H'∧H' df=some (.dT kvs)∧Paired (GrR K H1 H') (Tb.grp ((Tb.kW W).take i)) kvs∧(kvs.map (·.2)).Nodup∧i≤zs.length∧σ=[some v,some (.ref df),x2,x3]
  refine .inl ⟨⟨_,SqL.of hlw⟩,bX (K:=K) (a:=lw) (xs:=zs) Pw1 ⟨[],none,none,(fun b o _ e=>e),hT1,hdf1,.nil,nodup_nil,Nat.zero_le _,rfl⟩ (fun i σ H' _ h=>by
   obtain ⟨kvs,x2,x3,k,_⟩:=h
   exact SqL.of (k _ _ (ce hlw hdf1 (fun z=>nomatch z)) hlw)) ?_ ?_⟩
  ·rintro i y σ H' hy ⟨kvs,x2,x3,kp,hT2,hdf,hG,nd,hi,rfl⟩
   obtain ⟨⟨key0,tp,bt⟩,hw,q,kt,ct,ns,rfl,hq,hkt,hsrt,hct,bt1,bt2,b0⟩:=aw hW hy
   have ilt:i<zs.length:=(List.getElem?_eq_some_iff.mp hy).1
   have ek:ns=Tb.so key0:=Tb.so_uniq hsrt.1 hsrt.2
   have hkw:=Tb.kW_get hw
   have gk:=Tb.grp_gk (Tb.kW W) i (by lia)
   have gl:kvs.length≤i:=by rw[← hG.length]; exact gk.1
   have nq:q≠df:=ce hq hdf1 (fun z=>nomatch z)
   have nkt:kt≠df:=ce hkt hdf1 (fun z=>nomatch z)
   have eg:=Tb.grp_snoc hkw
   have hF:IsF K H1 (tp,bt) (.ref ct):=⟨ct,rfl,.inl hct⟩
   rw[ek]at hkt
   refine ⟨q,_,rfl,SqT.of (kp _ _ nq hq),rfl,_,_,rfl,_,_,rfl,rfl,?_⟩
   refine ⟨df,rfl,.inr ⟨kvs,.inl hdf⟩,Nat.zero_le _,fun D fD=>?_⟩
   have n2:=Same.new (o:=.lst []) fD
   have nD:D≠df:=fun z=>by rw[z,hdf]at fD; cases fD
   have f1D:H1 D=none:=by
    cases hh:H1 D with
    | none=>rfl
    | some o=>rw[kp _ _ nD hh]at fD; cases fD
   have hkt2:(upd H' D (.lst [])) kt=some (.tup (((Tb.so key0).map Sum.inl).map kV)):=by rw[fG]; exact n2 _ _ (kp _ _ nkt hkt)
   have hT3:TabsOk (tabs a) (upd H' D (.lst [])):=hT2.same n2
   have hdf2:=n2 _ _ hdf
   have hD2:=ad (H:=H') (a:=D) (o:=.lst [])
   have kp2:∀ b o,b≠df→H1 b=some o→(upd H' D (.lst [])) b=some o:=fun b o n e=>n2 _ _ (kp _ _ n e)
   have hG2:=ak (GrR.m fun l ys e=>n2 _ _ e) hG
   have fr9:∀ l ys,H' l=some (.lst ys)→l≠D:=fun l ys e z=>by rw[z,fD]at e; cases e
   refine ⟨kvs,_,kt,rfl,hkt2,hdf2,by lia,fun v' hv'=>?_,fun hn'=>?_⟩
   ·obtain ⟨x,l,ys,hxm,rfl,fl,hl,hlen,push⟩:=vd (c:=(tp,bt)) hG2 nd hv'
    generalize upd H' D (.lst [])=H2 at *
    have yl:=(gk.2 x hxm).1
    refine ⟨.inl ⟨rfl,_,SqL.of hl⟩,⟨l,ys,_,rfl,rfl,hl,by lia,?_⟩⟩
    have nl:l≠df:=ce hl hdf2 (fun z=>nomatch z)
    refine ⟨kvs,_,_,fun b o n e=>?_,hT3.put (fun ps z=>by rw[hl]at z; cases z) (fun φ z=>by rw[hl]at z; cases z),by rw[ag (Ne.symm nl)]; exact hdf2,by rw[eg]; exact push _ hF,nd,ilt,rfl⟩
    rw[ag (fun z=>by rw[z,fl]at e; cases e)]
    exact kp2 _ _ n e
   ·generalize eH2:upd H' D (.lst [])=H2 at *
    have hD3:(upd H2 df (.dT (kvs++[((Tb.so key0).map Sum.inl,.ref D)]))) D=some (.lst []):=by rw[ag nD]; exact hD2
    refine ⟨.inl ⟨rfl,_,SqL.of hD3⟩,⟨D,[],_,rfl,rfl,hD3,by show 0<_; lia,?_⟩⟩
    have hT4:TabsOk (tabs a) (upd H2 df (.dT (kvs++[((Tb.so key0).map Sum.inl,.ref D)]))):=hT3.put (fun ps z=>by rw[hdf2]at z; cases z) fun φ z=>by rw[hdf2]at z; cases z
    have GN:Paired (GrR K H1 (upd (upd H2 df (.dT (kvs++[((Tb.so key0).map Sum.inl,.ref D)]))) D (.lst ([]++[.ref ct])))) (Tb.pushG (Tb.so key0) (tp,bt) (Tb.grp ((Tb.kW W).take i))) (kvs++[((Tb.so key0).map Sum.inl,.ref D)]):=vo (ak (GrR.m fun l ys e=>by rw[ag (fr9 _ _ e),ag (ce e hdf (fun z=>nomatch z))]; exact n2 _ _ e) hG) hn' f1D ad hF
    refine ⟨kvs++[((Tb.so key0).map Sum.inl,.ref D)],_,_,fun b o n e=>?_,hT4.put (fun ps z=>by rw[hD3]at z; cases z) (fun φ z=>by rw[hD3]at z; cases z),by rw[ag (Ne.symm nD)]; exact ad,by rw[eg]; exact GN,?_,ilt,rfl⟩
    ·rw[ag (fun z=>by rw[z,f1D]at e; cases e),ag n]
     exact kp2 _ _ n e
    ·rw[map_append]
     refine nodup_append.mpr ⟨nd,by simp,fun u hu u' hu' e=>?_⟩
     have e':u'=V.ref D:=by simpa using hu'
     rw[e,e']at hu
     obtain ⟨kv,hkv,e9⟩:=mem_map.mp hu
     obtain ⟨j,hj⟩:=List.getElem?_of_mem hkv
     obtain ⟨x,_,r⟩:=aw hG hj
     obtain ⟨_,l,ys,h1,_,h3,_⟩:=r
     rw[e9]at h1
     cases h1
     exact fr9 _ _ h3 rfl
  rintro σ H2 ⟨kvs,x2,x3,kp,hT2,hdf,hG,nd,hi,rfl⟩
  have gk:=Tb.grp_gk (Tb.kW W) zs.length (by lia)
  have et:(Tb.kW W).take zs.length=Tb.kW W:=take_of_length_le (by rw[kwl]; lia)
  rw[et]at hG gk
  have gnd:=Tb.grp_nd (Tb.kW W)
  have etab:=Tb.rat_grp (Tb.kW W)
  generalize hg:Tb.grp (Tb.kW W)=g at hG gk gnd etab
  have nd2:(g.map (·.1)).Nodup:=by have:=gnd; unfold Tb.NdR at this; rwa [Tb.rat_keys]at this
  have t2:SameT H H2:=fun b o e=>by
   have nb:b≠df:=fun z=>by rw[z,fdf]at e; cases e
   obtain ⟨e1,o1,e2⟩:=t01 b o e
   have:=kp _ _ nb e2
   exact ⟨fun np=>kp _ _ nb (e1 np),o1,this⟩
  have kl:kvs.length=g.length:=hG.length.symm
  have gl:g.length≤4096:=by have:=gk.1; lia
  refine ⟨df,kvs,g.map (·.1),rfl,hdf,by lia,si hG,nd2,fun q o f fq op osr of'=>?_⟩
  rw[length_map]at op of'
  have u3:=Same.new (o:=.lst (o.map f)) fq
  have hq3:=ad (H:=H2) (a:=q) (o:=.lst (o.map f))
  have hT3:=hT2.same u3
  generalize upd H2 q (.lst (o.map f))=H3 at u3 hq3 hT3
  have t3:=t2.trans u3.t
  have fq0:H q=none:=t2.free fq
  have hr3:(Tb.rat g).length=g.length:=by unfold Tb.rat; rw[length_map]
  obtain ⟨rp,rs⟩:=Tb.tab_of gnd (o:=o) (by rw[hr3]; exact op) (by rw[Tb.rat_keys]; exact osr)
  have ol:o.length=g.length:=by rw[op.length_eq,length_range]
  generalize hR:(o.map fun i=>(Tb.rat g).getD i ([],0))=R at rp rs
  have Rl:R.length=o.length:=by rw[← hR,length_map]
  refine .inl ⟨⟨_,SqL.of hq3⟩,fun D3 hD3=>?_⟩
  let Pw2:PvL:=fun i ws H'=>i≤o.length∧Same H3 H'∧H' D3=some (.lst ws)∧Paired (RowR K H') (R.take i) ws
  refine bK (K:=K) (a:=q) (xs:=o.map f) Pw2 ⟨Nat.zero_le _,Same.new hD3,ad,.nil⟩ (fun i ys H' h=>SqL.of (h.2.1 _ _ hq3)) (fun i ys H' h=>h.2.2.1) ?_ ?_
  ·rintro i y ws H' P' hy ⟨hi',n5,hD5,hc5⟩ hP'
   rw[List.getElem?_map]at hy
   obtain ⟨j,hj,rfl⟩:∃ j,o[i]? = some j∧f j=y:=by
    cases e:o[i]? with
    | none=>rw[e]at hy; cases hy
    | some j=>rw[e]at hy; cases hy; exact ⟨j,rfl,rfl⟩
   have ilt:i<o.length:=(List.getElem?_eq_some_iff.mp hj).1
   have jlt:j<g.length:=mem_range.mp (op.mem_iff.mp (List.mem_of_getElem? hj))
   obtain ⟨b,eb,hb⟩:=of' j jlt
   obtain ⟨x,hx⟩:∃ x,g[j]? = some x:=⟨_,List.getElem?_eq_getElem jlt⟩
   have ekey:(g.map (·.1)).getD j []=x.1:=by rw[List.getD,List.getElem?_map,hx]; rfl
   rw[ekey]at hb
   have hb:H2 b=some (.tup (x.1.map V.int)):=hb
   have hb5:=(u3.trans n5) _ _ hb
   obtain ⟨l,ys,hv,hl,hF⟩:=w6 hG nd2 hx
   have hxm:=List.mem_of_getElem? hx
   obtain ⟨xl,xc⟩:=gk.2 x hxm
   have tk1:TK H1 H':=fun b us e=>(u3.trans n5) _ _ (kp _ _ (ce e hdf1 (fun z=>nomatch z)) e)
   have wl5:ws.length≤4096:=by rw[← hc5.length,length_take]; lia
   rw[eb]
   refine ⟨⟨rfl,trivial⟩,?_⟩
   refine ⟨df,_,rfl,.inr ⟨kvs,x.1.map Sum.inl,b,.inl ((u3.trans n5) _ _ hdf),rfl,by rw[fG]; exact hb5,hv.symm⟩,?_⟩
   refine ⟨l,x.2,ys,Tb.dn t,rfl,(u3.trans n5) _ _ hl,hF.tk tk1,by rw[← hF.len]; lia,Dp,hdn,fun c hc=>?_,fun H6 z s6 hz=>?_⟩
   ·obtain ⟨w9,hw9,e9⟩:=xc c hc
    rw[← e9]; exact chs w9 hw9
   refine ⟨by show 2≤sizeLine; decide,fun p fp=>?_⟩
   have s7:=Same.new (o:=.tup [.ref b,z]) fp
   have hD7:=(s6.trans s7) _ _ hD5
   have s67:=(n5.trans s6).trans s7
   refine ⟨hD7,by lia,hP' _ _ ⟨ilt,s67.put hD3,ad,?_⟩⟩
   have eR:R[i]? = some (x.1,Tb.sumQ x.2):=by
    rw[← hR,List.getElem?_map,hj]
    show some ((Tb.rat g).getD j ([],0))=_
    unfold Tb.rat
    rw[List.getD,List.getElem?_map,hx]
    rfl
   have tk7:TK (upd H6 p (.tup [.ref b,z])) (upd (upd H6 p (.tup [.ref b,z])) D3 (.lst (ws++[.ref p]))):=fun b us e=>by rw[ag (ce e hD7 (fun z=>nomatch z))]; exact e
   refine aX (ak (RowR.tk ((s6.trans s7).tk.trans tk7)) hc5) eR ⟨p,b,z,rfl,tk7 _ _ ad,tk7 _ _ ((s6.trans s7) _ _ hb5),(hz.same s7).tk tk7⟩
  ·rintro ws H5 ⟨_,n5,hD5,hc5⟩
   have fD3:H D3=none:=t3.free hD3
   rw[length_map,← Rl,take_length]at hc5
   refine q1 hlv _ D3 R ws (t3.trans n5.t) (hT3.same n5) fD3 hD5 hc5 ⟨?_,rs⟩ (by rw[← hc5.length]; lia)
   rw[← etab]
   exact rp
end
end My
namespace Tb
open FrM Du LexM
def askd(ps k:List Int):List Int:=k.filter fun x=>decide (x∈ps)
theorem mem_askd{ps k:List Int}{x:Int}:x∈askd ps k↔x∈k∧x∈ps:=by unfold askd; rw[mem_filter]; simp
def tp(L:Int)(r:List Int×Rat):Int:=r.2.num*(L/(r.2.den:Int))
def both(l:List Int)(x y:Int):Prop:=x∈l∧y∈l
instance (l:List Int) (x y:Int):Decidable (both l x y):=inferInstanceAs (Decidable (_∧_))
def tF(ps:List Int)(L:Int)(R:Rws)(x y:Int):Int:=(R.map fun r=>if both (askd ps r.1) x y then tp L r else 0).sum
def mm(R:Rws)(x y:Int):Rat:=pm (fun k=>decide (both k x y)) R
theorem tF_snoc{ps:List Int}{L:Int}{R:Rws}{i:Nat}{r:List Int×Rat}(h:R[i]? = some r)(x y:Int):tF ps L (R.take (i+1)) x y=tF ps L (R.take i) x y+if both (askd ps r.1) x y then tp L r else 0:=by
 unfold tF
 rw[take_add_one,h,map_append,sum_append]
 simp
theorem mm_snoc{R:Rws}{i:Nat}{r:List Int×Rat}(h:R[i]? = some r)(x y:Int):mm (R.take (i+1)) x y=mm (R.take i) x y+if both r.1 x y then r.2 else 0:=by
 unfold mm pm
 rw[take_add_one,h,map_append,sum_append]
 show _+((if decide (both r.1 x y)=true then r.2 else 0)+0)=_
 by_cases c:both r.1 x y
 ·rw[if_pos (decide_eq_true c),if_pos c]; grind
 ·rw[if_neg (by simp[c]),if_neg c]; grind
theorem tF_rat{ps:List Int}{L:Int}(hL:0<L){x y:Int}(hx:x∈ps)(hy:y∈ps):∀{R:Rws},(∀ r∈R,(r.2.den:Int) ∣ L)→((tF ps L R x y:Int):Rat)=mm R x y*(L:Rat)
 | [],_=>by show ((0:Int):Rat)=0*_; grind
 | r::R,h=>by
  have ih:=tF_rat hL hx hy fun z hz=>h z (mem_cons_of_mem _ hz)
  have e1:tF ps L (r::R) x y=(if both (askd ps r.1) x y then tp L r else 0)+tF ps L R x y:=by unfold tF; rw[map_cons,sum_cons]
  have e2:mm (r::R) x y=(if decide (both r.1 x y)=true then r.2 else 0)+mm R x y:=by unfold mm pm; rw[map_cons,sum_cons]
  rw[e1,e2,Rat.intCast_add,ih]
  have d0:(0:Int)<(r.2.den:Int):=by have:=r.2.den_pos; lia
  by_cases c:both r.1 x y
  ·have c':both (askd ps r.1) x y:=⟨mem_askd.mpr ⟨c.1,hx⟩,mem_askd.mpr ⟨c.2,hy⟩⟩
   rw[if_pos c',if_pos (decide_eq_true c)]
   unfold tp
   rw[nM hL d0 (h r mem_cons_self)]
   have:qv (r.2.num,(r.2.den:Int))=r.2:=wt r.2
   rw[this]; grind
  ·have c':¬both (askd ps r.1) x y:=fun z=>c ⟨(mem_askd.mp z.1).1,(mem_askd.mp z.2).1⟩
   rw[if_neg c',if_neg (by simp[c])]
   grind
abbrev F2t:=Int→Int→Int
def F1(F:F2t)(l:List Int)(n:Nat)(t:Int):F2t:=fun x y=>F x y+if x∈l.take n∧y∈l then t else 0
def F2(F:F2t)(l:List Int)(n m:Nat)(t:Int):F2t:=fun x y=>F1 F l n t x y+if l[n]? = some x∧y∈l.take m then t else 0
theorem F1_zero(F:F2t)(l:List Int)(t:Int):F1 F l 0 t=F:=by funext x y; unfold F1; simp
theorem F2_zero(F:F2t)(l:List Int)(n:Nat)(t:Int):F2 F l n 0 t=F1 F l n t:=by funext x y; unfold F2; simp
theorem F1_end(F:F2t)(l:List Int)(t:Int)(x y:Int):F1 F l l.length t x y=F x y+if both l x y then t else 0:=by
 unfold F1
 rw[take_length]
 by_cases c:both l x y
 ·rw[if_pos c,if_pos (show x∈l∧y∈l from c)]
 ·rw[if_neg c,if_neg (show ¬(x∈l∧y∈l) from c)]
theorem gu{l:List Int}(nd:l.Nodup){n:Nat}{z:Int}(h:l[n]? = some z):z ∉ l.take n:=fun hm=>by
 obtain ⟨i,hi⟩:=List.getElem?_of_mem hm
 rw[List.getElem?_take]at hi
 split at hi
 ·rename_i lt
  obtain ⟨l1,e1⟩:=List.getElem?_eq_some_iff.mp hi
  obtain ⟨l2,e2⟩:=List.getElem?_eq_some_iff.mp h
  exact (pairwise_iff_getElem.mp nd i n l1 l2 lt) (e1.trans e2.symm)
 ·cases hi
theorem eX{l:List Int}{n:Nat}{z x:Int}(h:l[n]? = some z):x∈l.take (n+1)↔x∈l.take n∨x=z:=by
 rw[take_add_one,h,mem_append]; simp
theorem F2_end{F:F2t}{l:List Int}(nd:l.Nodup){n:Nat}{z t:Int}(h:l[n]? = some z):F2 F l n l.length t=F1 F l (n+1) t:=by
 funext x y
 unfold F2 F1
 rw[take_length]
 have e:=eX (x:=x) h
 have nm:=gu nd h
 rw[h]
 by_cases c:x=z
 ·subst c
  rw[if_neg (fun w=>nm w.1)]
  by_cases d:y∈l
  ·rw[if_pos ⟨rfl,d⟩,if_pos ⟨e.mpr (.inr rfl),d⟩]; lia
  ·rw[if_neg (fun w=>d w.2),if_neg (fun w=>d w.2)]; lia
 ·rw[if_neg (fun (w:some z=some x∧y∈l)=>c (Option.some.inj w.1).symm)]
  have:(x∈l.take (n+1)∧y∈l)↔(x∈l.take n∧y∈l):=by rw[e]; simp[c]
  by_cases d:x∈l.take n∧y∈l
  ·rw[if_pos d,if_pos (this.mpr d)]; lia
  ·rw[if_neg d,if_neg (fun w=>d (this.mp w))]; lia
theorem F2_step{F:F2t}{l:List Int}(nd:l.Nodup){n m:Nat}{a b t:Int}(h1:l[n]? = some a)(h2:l[m]? = some b):F2 F l n (m+1) t=fun x y=>if x=a∧y=b then F2 F l n m t a b+t else F2 F l n m t x y:=by
 funext x y
 have e:=eX (x:=y) h2
 have nm:=gu nd h2
 unfold F2
 rw[h1]
 by_cases c:x=a∧y=b
 ·rw[if_pos c]
  obtain ⟨rfl,rfl⟩:=c
  rw[if_pos ⟨rfl,e.mpr (.inr rfl)⟩,if_neg (fun w=>nm w.2)]; lia
 ·rw[if_neg c]
  have:(some a=some x∧y∈l.take (m+1))↔(some a=some x∧y∈l.take m):=by
   rw[e]
   constructor
   ·rintro ⟨w,w' | w'⟩
    ·exact ⟨w,w'⟩
    ·exact absurd ⟨(Option.some.inj w).symm,w'⟩ c
   ·rintro ⟨w,w'⟩; exact ⟨w,.inl w'⟩
  by_cases d:some a=some x∧y∈l.take m
  ·rw[if_pos d,if_pos (this.mpr d)]
  ·rw[if_neg d,if_neg (fun w=>d (this.mp w))]
theorem askd_nd{ps k:List Int}(h:k.Nodup):(askd ps k).Nodup:=h.filter _
theorem askd_len(ps k:List Int):(askd ps k).length≤k.length:=List.length_filter_le _ _
theorem askd_snoc{ps k:List Int}{i:Nat}{x:Int}(h:k[i]? = some x):askd ps (k.take (i+1))=askd ps (k.take i)++if x∈ps then [x] else []:=by
 unfold askd
 rw[take_add_one,h,List.filter_append]
 simp[List.filter_cons]
theorem mm_bq{D:Nat}{R:Rws}(g:Gd D R)(x y:Int)(i:Nat):Bq D (mm (R.take i) x y):=g.pm _ i
theorem vQ{D:Nat}{R:Rws}(g:Gd D R)(x y:Int):Bq D (mm R x y):=g.pmA _
theorem tF_le{ps:List Int}{L:Int}{D:Nat}{R:Rws}(hL:0<L)(g:Gd D R){x y:Int}(hx:x∈ps)(hy:y∈ps)(h:∀ r∈R,(r.2.den:Int) ∣ L):0≤tF ps L R x y∧tF ps L R x y≤L:=by
 have e:=tF_rat hL hx hy h
 obtain ⟨b0,b1,_⟩:=vQ g x y
 have l0:(0:Rat)<(L:Rat):=by exact_mod_cast hL
 have p0:=fN b0 (show (0:Rat)≤(L:Rat) by grind)
 have p1:=fN (show 0≤1 - mm R x y by grind) (show (0:Rat)≤(L:Rat) by grind)
 constructor
 ·have:(0:Rat)≤((tF ps L R x y:Int):Rat):=by rw[e]; exact p0
  exact_mod_cast this
 ·have:((tF ps L R x y:Int):Rat)≤(L:Rat):=by rw[e]; grind
  exact_mod_cast this
theorem tab_key{t:Tr}(h:Ok t){R:Rws}(hR:IsTab (toR (kW (wl t 1 1))) R):∀ r∈R,r.1.Nodup∧r.1.length≤12:=fun r hr=>by
 have:=(hR.keys r.1).mp (mem_map.mpr ⟨r,hr,rfl⟩)
 unfold toR kW at this
 rw[map_map,map_map]at this
 obtain ⟨w,hw,e⟩:=mem_map.mp this
 have e:so w.1=r.1:=e
 obtain ⟨k1,k2⟩:=qU t 1 1 h w hw
 rw[← e]
 exact ⟨(jx w.1).nodup_iff.mpr k1,by rw[(jx w.1).length_eq]; exact k2⟩
theorem tab_gd{t:Tr}(h:Ok t){R:Rws}(hR:IsTab (toR (kW (wl t 1 1))) R):Gd (dn t) R:=by
 have g:=(kt_gd h).1
 have p:=kt_perm h
 have:Gd (dn t) (toR (kW (wl t 1 1))):=⟨fun x hx=>g.nn x (p.mem_iff.mp hx),by rw[ow p]; exact g.le⟩
 exact hR.gd this
end Tb
namespace My
open PySem L2 FrM Du LexM
open Tb (Tr Ent Way Rws Ch Lm2 Grp)
theorem iM(i:Int)(ns:List Int):inV (.int i) (ns.map V.int)=decide (i∈ns):=by
 unfold inV
 rw[List.any_map]
 induction ns with
 | nil=>rfl
 | cons x r ih =>
  rw[any_cons,ih]
  simp only[mem_cons,Function.comp]
  by_cases e:i=x
  ·subst e; simp[eqV]
  ·have e':¬x=i:=fun z=>e z.symm
   simp[eqV,e,e']
theorem eQ(ns:List Int):(ns.map V.int).all fk=true:=by
 rw[all_map]
 exact all_eq_true.mpr fun x _=>rfl
def TF(kvs:List (List Key×V))(F:Tb.F2t):Prop:=∀ x y:Int,(cf kvs [.inl x,.inl y]).getD (.int 0)=.int (F x y)
theorem TF.nil:TF [] (fun _ _=>0):=fun _ _=>rfl
theorem TF.put{kvs:List (List Key×V)}{F:Tb.F2t}(h:TF kvs F)(x y n:Int):TF (dI kvs [.inl x,.inl y] (.int n)) (fun x' y'=>if x'=x∧y'=y then n else F x' y'):=fun x' y'=>by
 show _=V.int (if x'=x∧y'=y then n else F x' y')
 rw[qm]
 by_cases c:x'=x∧y'=y
 ·rw[if_pos (by rw[c.1,c.2]),if_pos c]; rfl
 ·rw[if_neg,if_neg c]
  ·exact h x' y'
  ·intro z
   injection z with z1 z2
   injection z1 with z1
   injection z2 with z2
   injection z2 with z2
   exact c ⟨z1,z2⟩
theorem iL{α β:Type}{r r':α→β→Prop}:∀{as:List α}{bs:List β},(∀ a∈as,∀ b,r a b→r' a b)→Paired r as bs→Paired r' as bs
 | _,_,_,.nil=>.nil
 | _,_,h,.cons x t=>.cons (h _ mem_cons_self _ x) (iL (fun a ha b hb=>h a (mem_cons_of_mem _ ha) b hb) t)
inductive spMR(K:Frag)(vs:List V)(H:Hp)(Q:VK)(_E:XK):Prop
 | mk(i L:Int)(lp dt:Addr)(ps:List Int)(kvs:List (List Key×V))(F:Tb.F2t)(h0:vs=[.int i,.ref lp,.ref dt,.int L])(h1:H lp=some (.lst (ps.map V.int)))(h2:ps.length≤100)(h3:H dt=some (.dT kvs))(h4:TF kvs F)(h5:0<L)(h6:Bt 6000 L)(h7:(∀ j∈ps,Bt 6000 (F i j)))(h8:∀ H' D zs,Same H H'→H D=none→H' D=some (.lst zs)→Paired (fun j z=>IsF K H' (eW (F i j) L) z) ps zs→Q (.ref D) H'):spMR K vs H Q _E
def kF(K:Frag)(H H':Hp)(M:Int→Int→Rat)(ps:List Int)(i:Int)(y:V):Prop:=∃ D zs,y=.ref D∧H D=none∧H' D=some (.lst zs)∧Paired (fun j z=>IsQ K H' (M i j) z) ps zs
def qO(a:Ad)(K:Frag):Sp:=fun vs H Q E=>∃ v H0 d t lp ps,vs=[v,.ref lp]∧IsNode a H0 H d v t∧d≤4∧Tb.Ok t∧Tb.dn t≤Lm2∧SqH H0∧SameT H0 H∧TabsOk (tabs a) H∧H lp=some (.lst (ps.map V.int))∧ps.length≤100∧(Tb.lv t≤4096→∀ H' l R ys,SameT H H'→TabsOk (tabs a) H'→H l=none→H' l=some (.lst ys)→V.ref l ∉ ys→Tb.IsTab (Tb.toR (Tb.kW (Tb.wl t 1 1))) R→Paired (kF K H H' (Tb.mm R) ps) ps ys→ys.Nodup→Q (.ref l) H')∧(4096<Tb.lv t→RefM a H E)
theorem cY{ns:List Int}{i:Nat}{x:V}(h:(ns.map V.int)[i]? = some x):∃ n,ns[i]? = some n∧V.int n=x:=by
 rw[List.getElem?_map]at h
 cases e:ns[i]? with
 | none=>rw[e]at h; cases h
 | some n=>rw[e]at h; cases h; exact ⟨n,rfl,rfl⟩
section
variable {P:Program}{w:World}{K:Frag}{mg:Str→Option Value}{base:Heap}{a:Ad}
theorem tX(T:Txt K mg a):FnOk P w K mg base CX0 3 a.f_A a.d_A ["one","places","tops","bottom"] (spMR K):=by
 have G_H:FnOk P w K mg base CX0 2 _ _ _ spLow:=jZ T
 refine T.F_A.ok iT (fun vs H Q E h=>?_) (fun cdv A outer s H vs Q E hr h=>?_)
 ·obtain ⟨i,L,lp,dt,ps,kvs,F,rfl,_⟩:=h; rfl
 ·obtain ⟨i,L,lp,dt,ps,kvs,F,rfl,hlp,hlen,hdt,hF,hL,bL,bF,q⟩:=h
  have small:sizeLine=16777216:=sizeLine_eq
  refine ⟨_,(ao (aC (bJ rfl (N:=["other","bottom","tops","one"]) (ix:=[none,some 3,some 2,some 0]) ⟨rfl,rfl,rfl,rfl,⟨rfl,rfl,rfl,⟨rfl,rfl,rfl,⟨rfl,rfl,rfl,trivial⟩⟩⟩⟩ (aY (vr 1)) ⟨fun C s H fp=>ar (i:=0) (show List.Nodup (["other","bottom","tops","one"]:List Str) by decide +kernel) rfl (Or.inl rfl),fun C s H fp=>bz,fun C s H fp=>(aq G_H hr rfl T.m_H T.F_H.kp T.B_H .nil aA (aa (iK (iy hr) (vr 2) (bO (aa (vr 3) (aa (vr 0) af))) ai ⟨rfl,rfl,rfl,rfl⟩) (aa (vr 1) af)))⟩))),?_⟩
  refine .inl ⟨⟨_,SqL.of hlp⟩,fun D hD=>?_⟩
  let Pw1:PvL:=fun n zs H'=>n≤ps.length∧Same H H'∧H' D=some (.lst zs)∧Paired (fun j z=>IsF K H' (eW (F i j) L) z) (ps.take n) zs
  refine bK (K:=K) (a:=lp) (xs:=ps.map V.int) Pw1 ⟨Nat.zero_le _,Same.new hD,ad,.nil⟩ (fun n ys H' h=>SqL.of (h.2.1 _ _ hlp)) (fun n ys H' h=>h.2.2.1) ?_ ?_
  ·rintro n y zs H' P' hy ⟨hn,s1,hD1,hc⟩ hP'
   obtain ⟨j,hj,rfl⟩:=cY hy
   have nlt:n<ps.length:=(List.getElem?_eq_some_iff.mp hj).1
   refine ⟨⟨rfl,rfl,rfl,trivial⟩,?_⟩
   refine ⟨dt,rfl,.inr ⟨kvs,.inl (s1 _ _ hdt)⟩,dl _ _,fun t ft=>?_⟩
   have s2:=Same.new (o:=.tup [.int i,.int j]) ft
   refine ⟨_,.inr ⟨kvs,[.inl i,.inl j],t,.inl ((s1.trans s2) _ _ hdt),rfl,ad,rfl⟩,?_⟩
   refine ⟨F i j,L,by rw[hF i j]; rfl,hL,bF j (List.mem_of_getElem? hj),bL,fun H3 p s3 hp3=>?_⟩
   have hD3:=(s2.trans s3) _ _ hD1
   have tk3:TK H3 (upd H3 D (.lst (zs++[.ref p]))):=fun b us e=>by rw[ag (ce e hD3 (fun z=>nomatch z))]; exact e
   refine ⟨hD3,by rw[← hc.length,length_take]; lia,hP' _ _ ⟨nlt,((s1.trans s2).trans s3).put hD,ad,?_⟩⟩
   refine aX (ak (fun j z (h:IsF K H' (eW (F i j) L) z)=>(h.same (s2.trans s3)).tk tk3) hc) hj ⟨p,rfl,.inl (tk3 _ _ hp3)⟩
  ·rintro zs H' ⟨_,s1,hD1,hc⟩
   rw[length_map,take_length]at hc
   exact q _ D zs s1 hD hD1 hc
theorem jf(T:Txt K mg a)(hB:Bm mg base):FnOk P w K mg base (CXG P w) 9 a.f_i a.d_i ["node","places"] (qO a K):=by
 have G_I:FnOk P w K mg base (CXG P w) 8 _ _ _ (gF a K):=iq T hB
 have G_e:FnOk P w K mg base CX0 8 _ _ _ _:=(qR T).mono (by decide)
 have G_A:FnOk P w K mg base CX0 8 _ _ _ _:=(tX T).mono (by decide)
 refine T.F_i.okG sc_i (fun vs H Q E h=>?_) (fun cdv A outer s H vs Q E hr h=>?_)
 ·obtain ⟨v,H0,d,t,lp,ps,rfl,_⟩:=h; rfl
 ·obtain ⟨v,H0,d,t,lp,ps,rfl,hn,hd,hok,hdn,hsq,s0,hT,hlp,hpl,q1,q2⟩:=h
  have small:sizeLine=16777216:=sizeLine_eq
  refine ⟨_,(ah (ax (i:=2) sc_i.nd rfl (Or.inl rfl) (aq G_I hr rfl T.m_I T.F_I.kp T.B_I .nil uQ (aa (vr 0) af))) (ah (ax (i:=3) sc_i.nd rfl (Or.inr rfl) (aq G_e hr rfl T.m_e T.F_e.kp T.B_e .nil aA (aa (bJ rfl (N:=["kept","chance"]) (ix:=[none,none]) ⟨rfl,rfl,rfl,rfl,trivial⟩ (aY (vr 2)) ⟨fun C s H fp=>(dZ (K:=K) (n:=2) rfl rfl (aD (ar (i:=0) (show List.Nodup (["kept","chance"]:List Str) by decide +kernel) rfl (Or.inl rfl)) (aD (ar (i:=1) (show List.Nodup (["kept","chance"]:List Str) by decide +kernel) rfl (Or.inl rfl)) bV))),fun C s H fp=>bz,fun C s H fp=>(bN (fH (K:=K) rfl) (vr 1) ai (fun _ _=>rfl))⟩) af))) (ah (ax (i:=4) sc_i.nd rfl (Or.inr rfl) hJ) (ah (b7 qF rfl (aY (vr 2)) (eB rfl (aD (ar (i:=5) sc_i.nd rfl (Or.inl rfl)) (aD (ar (i:=6) sc_i.nd rfl (Or.inl rfl)) bV))) (ah (ax (i:=7) sc_i.nd rfl (Or.inl rfl) (aB bT (bN bv (vr 6) ai (fun _ _=>rfl)) (aB cK (vr 3) (bN bv (vr 6) ai (fun _ _=>rfl))))) (ah (jI rfl (i:=8) sc_i.nd rfl rfl (by with_unfolding_all rfl) (N:=["place","places"]) (ix:=[none,some 1]) ⟨rfl,rfl,rfl,rfl,⟨rfl,rfl,rfl,trivial⟩⟩ (aY (vr 5)) ⟨fun C s H fp=>ar (i:=0) (show List.Nodup (["place","places"]:List Str) by decide +kernel) rfl (Or.inl rfl),fun C s H fp=>nU (cJ (mf (K:=K) rfl) (vr 0) (vr 1) (by with_unfolding_all rfl)),fun C s H fp=>(vr 0)⟩) (ao (b7 qF rfl (aY (vr 8)) (ar (i:=9) sc_i.nd rfl (Or.inl rfl)) (ao (b7 qF rfl (aY (vr 8)) (ar (i:=10) sc_i.nd rfl (Or.inl rfl)) (ao (nO (iy hr) (vr 4) (bO (aa (vr 9) (aa (vr 10) af))) (aB dD (iK (iy hr) (vr 4) (bO (aa (vr 9) (aa (vr 10) af))) ai ⟨rfl,rfl,rfl,rfl⟩) (vr 7)) rfl))))))))) (ao (aC (bJ rfl (N:=["one","places","tops","bottom"]) (ix:=[none,some 1,some 4,some 3]) ⟨rfl,rfl,rfl,rfl,⟨rfl,rfl,rfl,⟨rfl,rfl,rfl,⟨rfl,rfl,rfl,trivial⟩⟩⟩⟩ (aY (vr 1)) ⟨fun C s H fp=>ar (i:=0) (show List.Nodup (["one","places","tops","bottom"]:List Str) by decide +kernel) rfl (Or.inl rfl),fun C s H fp=>bz,fun C s H fp=>(aq G_A hr rfl T.m_A T.F_A.kp T.B_A .nil aA (aa (vr 0) (aa (vr 1) (aa (vr 2) (aa (vr 3) af)))))⟩))))))),nC ?_⟩
  intro zt5 zt4 zt3 zt2
  refine ⟨v,H0,d,t,rfl,hn,hd,hok,hdn,hsq,s0,hT,fun hlv H1 lr R ys t1 hT1 flr hlr hR htab hyl=>?_,q2⟩
  have Dp:=Tb.dn_pos t hok
  have gd:=Tb.tab_gd hok htab
  have hkey:=Tb.tab_key hok htab
  have Rl:R.length=ys.length:=hR.length
  have hlp1:=t1.at hlp
  have one:∀ r∈R,Bt 2721 r.2.num∧Bt 2721 (r.2.den:Int):=fun r hr=>Tb.bq_bb Dp hdn (gd.one hr)
  have dvs:∀ r∈R,(0:Int)<(r.2.den:Int)∧(r.2.den:Int) ∣ ((Tb.dn t:Nat):Int):=fun r hr=>let z:=Tb.bq_bt Dp (gd.one hr); ⟨z.2.2.1,z.2.2.2⟩
  refine .inl ⟨⟨_,SqL.of hlr⟩,fun D1 hD1=>?_⟩
  let Pw2:PvL:=fun i zs H'=>Same H1 H'∧H' D1=some (.lst zs)∧i≤R.length∧zs=((R.take i).map fun r=>(r.2.den:Int)).map V.int
  refine bK (K:=K) (a:=lr) (xs:=ys) Pw2 ⟨Same.new hD1,ad,Nat.zero_le _,rfl⟩ (fun i ys H' h=>SqL.of (h.1 _ _ hlr)) (fun i ys H' h=>h.2.1) ?_ ?_
  ·rintro i y zs H' P' hy ⟨s1,hD2,hi,rfl⟩ hP'
   obtain ⟨r,hr9,hrow⟩:=aw hR hy
   obtain ⟨p,kt,z,rfl,hp,hkt,z9,rfl,hz⟩:=RowR.tk s1.tk r _ hrow
   have ilt:i<R.length:=(List.getElem?_eq_some_iff.mp hr9).1
   refine ⟨p,_,rfl,SqT.of hp,rfl,_,_,rfl,_,_,rfl,rfl,trivial,px1 hz.sq ⟨hD2,by rw[length_map,length_map,length_take]; lia,hP' _ _ ⟨s1.put hD1,ad,ilt,?_⟩⟩⟩
   rw[take_add_one,hr9]
   simp
   rfl
  rintro zs Ha ⟨s1,hD2,_,rfl⟩
  rw[← Rl,take_length]at hD2
  refine ⟨D1,_,Tb.dn t,rfl,SqL.of hD2,Dp,hdn,fun n hn'=>?_,fun L hL0 hLD hLn=>?_⟩
  ·obtain ⟨r,hr9,rfl⟩:=mem_map.mp hn'
   exact dvs r hr9
  have dL:∀ r∈R,(r.2.den:Int) ∣ L:=fun r hr=>hLn _ (mem_map.mpr ⟨r,hr,rfl⟩)
  have LD:=Int.le_of_dvd (show (0:Int)<((Tb.dn t:Nat):Int) by lia) hLD
  have bL:=Tb.bt_of (i:=L) Dp hdn (by lia) LD
  intro dt fdt
  have u2:=Same.new (o:=.dT []) fdt
  have hdt0:=ad (H:=Ha) (a:=dt) (o:=.dT [])
  have hT2:=hT1.same (s1.trans u2)
  have t2:=t1.trans (s1.trans u2).t
  have s12:=s1.trans u2
  have hR2:=ak (RowR.tk s12.tk) hR
  generalize upd Ha dt (.dT [])=H2 at u2 hdt0 hT2 t2 s12 hR2
  have hlr2:=s12 _ _ hlr
  have hlp2:=s12 _ _ hlp1
  have nlr:lr≠dt:=ce hlr2 hdt0 (fun z=>nomatch z)
  have nlp:lp≠dt:=ce hlp2 hdt0 (fun z=>nomatch z)
  have fdt0:H dt=none:=(t1.trans s1.t).free fdt
  let Pw3:PvS:=fun i σ H'=>∃(kvs:List (List Key×V)) (x5 x6 x7 x8 x9 x10:Option V),(∀ b o,b≠dt→H2 b=some o→H' b=some o)∧TabsOk (tabs a) H'∧H' dt=some (.dT kvs)∧TF kvs (Tb.tF ps L (R.take i))∧kvs.length≤144*i∧i≤R.length∧σ=[some v,some (.ref lp),some (.ref lr),some (.int L),some (.ref dt),x5,x6,x7,x8,x9,x10]
  refine .inl ⟨⟨_,SqL.of hlr2⟩,bX (K:=K) (a:=lr) (xs:=ys) Pw3 ⟨[],none,none,none,none,none,none,(fun b o _ e=>e),hT2,hdt0,TF.nil,Nat.zero_le _,Nat.zero_le _,rfl⟩ (fun i σ H' _ h=>by
   obtain ⟨kvs,x5,x6,x7,x8,x9,x10,k,_⟩:=h
   exact SqL.of (k _ _ nlr hlr2)) ?_ ?_⟩
  ·rintro i y σ H' hy ⟨kvs,x5,x6,x7,x8,x9,x10,kp,hT3,hdt,hF,hkl,hi,rfl⟩
   obtain ⟨r,hr9,hrow⟩:=aw hR2 hy
   have ilt:i<R.length:=(List.getElem?_eq_some_iff.mp hr9).1
   have rm:=List.mem_of_getElem? hr9
   obtain ⟨p,kt,z,rfl,hp,hkt,z9,rfl,hz⟩:=RowR.tk (H':=H') (fun b us e=>kp _ _ (ce e hdt0 (fun z=>nomatch z)) e) r _ hrow
   obtain ⟨b1,b2⟩:=one r rm
   obtain ⟨d0,dd⟩:=dvs r rm
   obtain ⟨knd,klen⟩:=hkey r rm
   have bq:=Tb.bt_of (i:=L/(r.2.den:Int)) Dp hdn (Int.ediv_nonneg (by lia) (by lia)) (Int.le_trans (Int.ediv_le_self _ (by lia)) LD)
   refine ⟨p,_,rfl,SqT.of hp,rfl,_,_,rfl,_,_,rfl,rfl,?_⟩
   refine px0 hz.sq (px1 hz.sq ⟨cdB d0 b2,cmB b1 bq,?_⟩)
   refine .inr ⟨⟨_,SqT.of hkt⟩,fun D3 hD3=>?_⟩
   have hlp':=kp _ _ nlp hlp2
   let Pw4:PvL:=fun n zs H5=>Same H' H5∧H5 D3=some (.lst zs)∧n≤r.1.length∧zs=(Tb.askd ps (r.1.take n)).map V.int
   refine ip (K:=K) (a:=kt) (xs:=r.1.map V.int) Pw4 ⟨Same.new hD3,ad,Nat.zero_le _,rfl⟩ (fun n ys H5 h=>SqT.of (h.1 _ _ hkt)) (fun n ys H5 h=>h.2.1) ?_ ?_
   ·rintro n y zs H5 P' hy ⟨s5,hD5,hn5,rfl⟩ hP'
    obtain ⟨x,hx,rfl⟩:=cY hy
    have nlt:n<r.1.length:=(List.getElem?_eq_some_iff.mp hx).1
    refine ⟨⟨rfl,trivial⟩,lp,_,rfl,.inl (SqL.of (s5 _ _ hlp')),rfl,eQ _,?_⟩
    have ea:=Tb.askd_snoc (ps:=ps) hx
    rw[iM]
    refine ifC (fun c=>?_) (fun c=>?_)
    ·rw[if_pos c]at ea
     have:=Tb.askd_len ps (r.1.take n)
     rw[length_take]at this
     exact ⟨hD5,by rw[length_map]; lia,hP' _ _ ⟨s5.put hD3,ad,nlt,by rw[ea,map_append]; rfl⟩⟩
    ·rw[if_neg c,append_nil]at ea
     exact hP' _ _ ⟨s5,hD5,nlt,by rw[ea]⟩
   rintro zs H5 ⟨s5,hD5,_,rfl⟩
   rw[length_map,take_length]at hD5
   have knd:=Tb.askd_nd (ps:=ps) knd
   have klen:=Nat.le_trans (Tb.askd_len ps r.1) klen
   have hF':=Tb.tF_snoc (ps:=ps) (L:=L) hr9
   generalize hal:Tb.askd ps r.1=al at hD5 knd klen hF'
   have hdt5:=s5 _ _ hdt
   have nD3:D3≠dt:=ce hD5 hdt5 (fun z=>nomatch z)
   have kp5:∀ b o,b≠dt→H2 b=some o→H5 b=some o:=fun b o n e=>s5 _ _ (kp _ _ n e)
   have hT5:=hT3.same s5
   have etp:r.2.num*(L/(r.2.den:Int))=Tb.tp L r:=rfl
   generalize hG:Tb.tF ps L (R.take i)=G at hF hF'
   let Pw5:PvS:=fun n σ H6=>∃(kv6:List (List Key×V)) (x9 x10:Option V),(∀ b o,b≠dt→H5 b=some o→H6 b=some o)∧TabsOk (tabs a) H6∧H6 dt=some (.dT kv6)∧TF kv6 (Tb.F1 G al n (Tb.tp L r))∧kv6.length≤144*i+12*n∧n≤al.length∧σ=[some v,some (.ref lp),some (.ref lr),some (.int L),some (.ref dt),some (.ref kt),some (.ref z9),some (.int (Tb.tp L r)),some (.ref D3),x9,x10]
   refine .inl ⟨⟨_,SqL.of hD5⟩,bX (K:=K) (a:=D3) (xs:=al.map V.int) Pw5 ⟨kvs,_,_,(fun b o _ e=>e),hT5,hdt5,by rw[Tb.F1_zero]; exact hF,by lia,Nat.zero_le _,rfl⟩ (fun n σ H6 _ h=>by
    obtain ⟨kv6,x9,x10,k,_⟩:=h
    exact SqL.of (k _ _ nD3 hD5)) ?_ ?_⟩
   ·rintro n y σ H6 hy ⟨kv6,x9,x10,kp6,hT6,hdt6,hF6,hkl6,hn6,rfl⟩
    obtain ⟨x0,hx0,rfl⟩:=cY hy
    have nlt:n<al.length:=(List.getElem?_eq_some_iff.mp hx0).1
    let Pw6:PvS:=fun m σ H7=>∃(kv7:List (List Key×V)) (x10:Option V),(∀ b o,b≠dt→H5 b=some o→H7 b=some o)∧TabsOk (tabs a) H7∧H7 dt=some (.dT kv7)∧TF kv7 (Tb.F2 G al n m (Tb.tp L r))∧kv7.length≤144*i+12*n+m∧m≤al.length∧σ=[some v,some (.ref lp),some (.ref lr),some (.int L),some (.ref dt),some (.ref kt),some (.ref z9),some (.int (Tb.tp L r)),some (.ref D3),some (.int x0),x10]
    refine .inl ⟨⟨_,SqL.of (kp6 _ _ nD3 hD5)⟩,bX (K:=K) (a:=D3) (xs:=al.map V.int) Pw6 ⟨kv6,_,kp6,hT6,hdt6,by rw[Tb.F2_zero]; exact hF6,by lia,Nat.zero_le _,rfl⟩ (fun m σ H7 _ h=>by
     obtain ⟨kv7,x10,k,_⟩:=h
     exact SqL.of (k _ _ nD3 hD5)) ?_ ?_⟩
    ·rintro m y σ H7 hy ⟨kv7,x10,kp7,hT7,hdt7,hF7,hkl7,hm7,rfl⟩
     obtain ⟨y0,hy0,rfl⟩:=cY hy
     have mlt:m<al.length:=(List.getElem?_eq_some_iff.mp hy0).1
     have est:=Tb.F2_step (F:=G) (t:=Tb.tp L r) knd hx0 hy0
     refine ⟨dt,rfl,.inr ⟨kv7,.inl hdt7⟩,dl _ _,fun tt ft=>?_⟩
     have s8:=Same.new (o:=.tup [.int x0,.int y0]) ft
     have hdt8:=s8 _ _ hdt7
     refine ⟨_,.inr ⟨kv7,[.inl x0,.inl y0],tt,.inl hdt8,rfl,ad,rfl⟩,?_⟩
     rw[hF7 x0 y0]
     refine ⟨dl _ _,fun t2 ft2=>?_⟩
     have s9:=Same.new (o:=.tup [.int x0,.int y0]) ft2
     have hdt9:=s9 _ _ hdt8
     refine ⟨dt,_,rfl,.inr ⟨kv7,[.inl x0,.inl y0],t2,hdt9,rfl,ad,by lia,rfl⟩,?_⟩
     have s89:=s8.trans s9
     generalize upd (upd H7 tt (.tup [.int x0,.int y0])) t2 (.tup [.int x0,.int y0])=H9 at hdt9 s89
     have lp9:=eE kv7 [.inl x0,.inl y0] (.int (Tb.F2 G al n m (Tb.tp L r) x0 y0+Tb.tp L r))
     refine ⟨_,_,fun b o nb e=>by rw[ag nb]; exact s89 _ _ (kp7 _ _ nb e),(hT7.same s89).put (fun ps z=>by rw[hdt9]at z; cases z) (fun φ z=>by rw[hdt9]at z; cases z),ad,by rw[est]; exact hF7.put x0 y0 _,by lia,mlt,rfl⟩
    ·rintro σ H7 ⟨kv7,x10,kp7,hT7,hdt7,hF7,hkl7,hm7,rfl⟩
     rw[length_map]at hF7 hkl7
     exact ⟨kv7,_,_,kp7,hT7,hdt7,by rw[← Tb.F2_end knd hx0]; exact hF7,by lia,nlt,rfl⟩
   ·rintro σ H6 ⟨kv6,x9,x10,kp6,hT6,hdt6,hF6,hkl6,hn6,rfl⟩
    rw[length_map]at hF6 hkl6
    refine ⟨kv6,_,_,_,_,_,_,fun b o nb e=>kp6 _ _ nb (kp5 _ _ nb e),hT6,hdt6,fun x y=>?_,by lia,ilt,rfl⟩
    rw[hF6 x y,Tb.F1_end,hF' x y]
  rintro σ H3 ⟨kvs,x5,x6,x7,x8,x9,x10,kp,hT3,hdt,hF,hkl,hi,rfl⟩
  rw[← Rl,take_length]at hF
  have hlp3:=kp _ _ nlp hlp2
  have t3:SameT H H3:=fun b o e=>by
   have nb:b≠dt:=fun z=>by rw[z,fdt0]at e; cases e
   obtain ⟨e1,o1,e2⟩:=t2 b o e
   exact ⟨fun np=>kp _ _ nb (e1 np),o1,kp _ _ nb e2⟩
  refine .inl ⟨⟨_,SqL.of hlp3⟩,fun D5 hD5=>?_⟩
  let Pw7:PvL:=fun n ws H'=>n≤ps.length∧Same H3 H'∧H' D5=some (.lst ws)∧ws.Nodup∧Paired (kF K H3 (untr H' D5) (Tb.mm R) ps) (ps.take n) ws
  refine bK (K:=K) (a:=lp) (xs:=ps.map V.int) Pw7 ⟨Nat.zero_le _,Same.new hD5,ad,nodup_nil,.nil⟩ (fun n ys H' h=>SqL.of (h.2.1 _ _ hlp3)) (fun n ys H' h=>h.2.2.1) ?_ ?_
  ·rintro n y ws H' P' hy ⟨hn5,s5,hD6,nd5,hc5⟩ hP'
   obtain ⟨x,hx,rfl⟩:=cY hy
   have nlt:n<ps.length:=(List.getElem?_eq_some_iff.mp hx).1
   have wl:ws.length≤100:=by rw[← hc5.length,length_take]; lia
   refine ⟨⟨rfl,rfl,rfl,trivial⟩,?_⟩
   refine ⟨x,L,lp,dt,ps,kvs,Tb.tF ps L R,rfl,s5 _ _ hlp3,hpl,s5 _ _ hdt,hF,hL0,bL.mono (by decide),fun j hj=>?_,fun H7 D7 zs s7 fD7 hD7 hz7=>?_⟩
   ·obtain ⟨g1,g2⟩:=Tb.tF_le hL0 gd (List.mem_of_getElem? hx) hj dL
    exact (bL.mono (show 2721≤6000 by decide)).le (by lia)
   have hD8:=s7 _ _ hD6
   have n75:D7≠D5:=fun z=>by rw[z,hD6]at fD7; cases fD7
   have c1:∀{b:Addr}{us:List V},H7 b=some (.tup us)→(untr (upd H7 D5 (.lst (ws++[.ref D7]))) D5) b=some (.tup us):=fun {b us} e=>by
    have nb:b≠D5:=ce e hD8 (fun z=>nomatch z)
    rw[av nb,ag nb]; exact e
   have c2:SameT (untr H' D5) (untr (upd H7 D5 (.lst (ws++[.ref D7]))) D5):=(cL s7.t).trans dc
   refine ⟨hD8,by lia,hP' _ _ ⟨nlt,(s5.trans s7).put hD5,ad,?_,?_⟩⟩
   ·refine nodup_append.mpr ⟨nd5,by simp,fun u hu u' hu' e=>?_⟩
    have e':u'=V.ref D7:=by simpa using hu'
    rw[e,e']at hu
    obtain ⟨j,hj⟩:=List.getElem?_of_mem hu
    obtain ⟨i9,_,D9,zs9,e9,_,h9,_⟩:=aw hc5 hj
    cases e9
    rw[av n75,fD7]at h9
    cases h9
   ·refine aX (ak (fun i y ⟨D9,zs9,e9,f9,h9,p9⟩=>⟨D9,zs9,e9,f9,c2.at h9,ak (fun j z h=>h.tk (fun b us e=>c2.at e)) p9⟩) hc5) hx ⟨D7,zs,rfl,s5.free fD7,?_,?_⟩
    ·rw[av n75,ag n75]; exact hD7
    ·refine iL (fun j hj z h=>?_) hz7
     rw[Tb.low_tops hL0 (Tb.tF_rat hL0 (List.mem_of_getElem? hx) hj dL)]at h
     exact h.tk fun b us e=>c1 e
  ·rintro ws H' ⟨_,s5,hD6,nd5,hc5⟩
   rw[length_map,take_length]at hc5
   refine q1 hlv _ D5 R ws (t3.trans s5.t) (hT3.same s5) (t3.free hD5) hD6 (fun hm=>?_) htab (ak (fun i y ⟨D9,zs9,e9,f9,h9,p9⟩=>⟨D9,zs9,e9,t3.free f9,cut_sub.at h9,ak (fun j z h=>h.tk (fun b us e=>cut_sub.at e)) p9⟩) hc5) nd5
   obtain ⟨j,hj⟩:=List.getElem?_of_mem hm
   obtain ⟨i9,_,D9,zs9,e9,_,h9,_⟩:=aw hc5 hj
   cases e9
   rw[aQ]at h9
   cases h9
end
end My
namespace Tb
open FrM Du LexM
mutual
theorem wf_sm:∀(t:Tr) (q:Rat),Ok t→sm (wf t q)=q
 | .leaf ns,q,_=>by rw[wf]; show q+0=q; grind
 | .die ps,q,h=>by
  rw[Ok]at h
  have h1:=oks_tot h.2
  have h2:0<ps.length:=length_pos_iff.mpr h.1
  rw[wf,sf ps q (tot ps) h.2 (by lia)]
  have hS':((tot ps:Int):Rat)≠0:=by have:tot ps≠0:=(by lia); exact_mod_cast this
  grind
theorem sf:∀(ps:List (Int×Tr)) (q:Rat) (S:Int),Oks ps→0<S→sm (wfs ps q S)=q*((tot ps:Rat)/(S:Rat))
 | [],q,S,_,hS=>by
  rw[wfs]
  show (0:Rat)=q*(((0:Int):Rat)/(S:Rat))
  grind
 | (m,u)::r,q,S,h,hS=>by
  rw[Oks]at h
  rw[wfs,sm_app,wf_sm u _ h.2.1,sf r q S h.2.2 hS]
  have et:tot ((m,u)::r)=m+tot r:=by unfold tot; rw[map_cons,sum_cons]
  rw[et]
  push_cast
  grind
end
theorem jV(q:Rat)(S:Int):∀(a b:List (Int×Tr)),wfs (a++b) q S=wfs a q S++wfs b q S
 | [],b=>by rw[nil_append,wfs,nil_append]
 | (m,u)::a,b=>by rw[cons_append,wfs,wfs,jV q S a b,append_assoc]
theorem wfs_snoc{ps:List (Int×Tr)}{i:Nat}{m:Int}{u:Tr}(q:Rat)(S:Int)(h:ps[i]? = some (m,u)):wfs (ps.take (i+1)) q S=wfs (ps.take i) q S++wf u (q*((m:Rat)/(S:Rat))):=by
 rw[take_add_one,h,jV]
 congr 1
 show wfs [(m,u)] q S=_
 rw[wfs,wfs,append_nil]
theorem kR_app(A B:Rws):kR (A++B)=kR A++kR B:=by unfold kR; rw[map_append]
mutual
theorem wf_len:∀(t:Tr) (q:Rat),(wf t q).length=lv t
 | .leaf _,_=>rfl
 | .die ps,q=>by rw[wf,lv]; exact wfs_len ps q _
theorem wfs_len:∀(ps:List (Int×Tr)) (q:Rat) (S:Int),(wfs ps q S).length=lvs ps
 | [],_,_=>rfl
 | (m,u)::r,q,S=>by rw[wfs,lvs,length_append,wf_len u,wfs_len r]
end
theorem kR_len(W:Rws):(kR W).length=W.length:=by unfold kR; rw[length_map]
theorem kO(k:List Int)(m:Rat):∀ st:Rws,(addR k m st).length≤st.length+1
 | []=>by rw[addR]; simp
 | x::r=>by
  rw[addR]
  split
  ·simp
  ·rw[length_cons,length_cons]; have:=kO k m r; lia
theorem pf(st:Rws):∀ W:Rws,(W.foldl (fun st w=>addR w.1 w.2 st) st).length≤st.length+W.length:=by
 intro W
 induction W generalizing st with
 | nil=>simp
 | cons w W ih=>rw[foldl_cons,length_cons]; have:=ih (addR w.1 w.2 st); have:=kO w.1 w.2 st; lia
theorem adds_len(W:Rws):(adds W).length≤W.length:=by have:=pf [] W; unfold adds; simpa using this
theorem getR_bq{D:Nat}{W:Rws}(h:Gd D W)(k:List Int):Bq D (getR (adds W) k):=by
 rw[o6 (adds_nd W),iV,nu]
 exact h.pmA _
theorem share_bq{m S:Int}(h0:1≤m)(h1:m≤S):Bq S.toNat ((m:Rat)/(S:Rat)):=by
 have hS:(0:Rat)<(S:Rat):=by have:(0:Int)<S:=(by lia); exact_mod_cast this
 have hm:(0:Rat)≤(m:Rat):=by have:(0:Int)≤m:=(by lia); exact_mod_cast this
 have hl:(m:Rat)≤(S:Rat):=by exact_mod_cast h1
 have i0:=Rat.inv_pos.mpr hS
 have e1:(S:Rat)*(S:Rat)⁻¹=1:=by grind
 rw[Rat.div_def]
 refine ⟨fN hm (by grind),?_,m.toNat,?_⟩
 ·have:=fN (show (0:Rat)≤(S:Rat) - (m:Rat) by grind) (show (0:Rat)≤(S:Rat)⁻¹ by grind)
  grind
 ·have e2:((S.toNat:Nat):Rat)=(S:Rat):=by
   have:((S.toNat:Nat):Int)=S:=by lia
   exact_mod_cast this
  have e3:((m.toNat:Nat):Rat)=(m:Rat):=by
   have:((m.toNat:Nat):Int)=m:=by lia
   exact_mod_cast this
  rw[e2,e3]
  grind
theorem dp_part{d:Nat}{ps:List (Int×Tr)}(h:Dps d ps):∀{p:Int×Tr},p∈ps→1≤p.1∧p.1≤1000000000∧Dp d p.2:=by
 induction ps with
 | nil=>intro p hp; cases hp
 | cons x r ih =>
  intro p hp
  obtain ⟨m,u⟩:=x
  rw[Dps]at h
  rcases mem_cons.mp hp with rfl | hp
  ·exact ⟨h.1,h.2.1,h.2.2.1⟩
  ·exact ih h.2.2.2 hp
theorem lvs_part{ps:List (Int×Tr)}{i:Nat}{m:Int}{u:Tr}(h:ps[i]? = some (m,u)):lvs (ps.take i)+lv u≤lvs ps:=by
 induction ps generalizing i with
 | nil=>cases h
 | cons x r ih =>
  obtain ⟨m',u'⟩:=x
  cases i with
  | zero=>cases h; show 0+lv u≤lv u+lvs r; lia
  | succ i =>
   have:=ih (i:=i) h
   rw[List.take_succ_cons,lvs,lvs]; lia
theorem gd_pre{D:Nat}{W:Rws}{ps:List (Int×Tr)}{q:Rat}{S:Int}(i:Nat)(g:Gd D (W++kR (wfs ps q S))):Gd D (W++kR (wfs (ps.take i) q S)):=by
 have e:ps=ps.take i++ps.drop i:=(take_append_drop i ps).symm
 rw[e,jV,kR_app,← append_assoc]at g
 exact g.left
end Tb
namespace My
open PySem L2 FrM Du LexM
open Tb (Tr Ent Way Rws Ch Lm2 Grp)
theorem sk{p:List Key×V}{r:List (List Key×V)}{k:List Key}{v:V}(h:¬p.1=k):dI (p::r) k v=p::dI r k v:=by
 unfold dI
 rw[any_cons,decide_eq_false h,Bool.false_or]
 split
 ·rw[map_cons,if_neg h]
 ·rfl
theorem tQ{p:List Key×V}{r:List (List Key×V)}{k:List Key}{v:V}(h:p.1=k)(n:∀ q∈r,¬q.1=k):dI (p::r) k v=(p.1,v)::r:=by
 unfold dI
 rw[any_cons,decide_eq_true h,Bool.true_or,if_pos rfl,map_cons,if_pos h]
 congr 1
 have:∀ q∈r,(if q.1=k then (q.1,v) else q)=q:=fun q hq=>if_neg (n q hq)
 rw[map_congr_left this,List.map_id']
def WrR(K:Frag)(H:Hp)(x:List Int×Rat)(kv:List Key×V):Prop:=kv.1=x.1.map Sum.inl∧IsQ K H x.2 kv.2
abbrev WR(K:Frag)(H:Hp):Rws→List (List Key×V)→Prop:=Paired (WrR K H)
theorem WR.tk{K:Frag}{H H':Hp}(k:TK H H'){st:Rws}{kvs:List (List Key×V)}(h:WR K H st kvs):WR K H' st kvs:=ak (fun x kv (r:WrR K H x kv)=>⟨r.1,r.2.tk k⟩) h
theorem WR.get{K:Frag}{H:Hp}{k:List Int}{st:Rws}{kvs:List (List Key×V)}(h:WR K H st kvs):(cf kvs (k.map Sum.inl)=none∧Tb.getR st k=0)∨∃ z,cf kvs (k.map Sum.inl)=some z∧IsQ K H (Tb.getR st k) z:=by
 induction h with
 | nil=>exact .inl ⟨rfl,rfl⟩
 | @cons x kv st kvs r t ih =>
  rw[Tb.getR]
  by_cases c:x.1=k
  ·rw[if_pos c,bw (by rw[r.1,c])]
   exact .inr ⟨_,rfl,r.2⟩
  ·rw[if_neg c,bx (fun z=>c (dh (r.1.symm.trans z)))]
   exact ih
theorem WR.keys{K:Frag}{H:Hp}{st:Rws}{kvs:List (List Key×V)}(h:WR K H st kvs):kvs.map (·.1)=(st.map (·.1)).map fun x=>x.map Sum.inl:=by
 induction h with
 | nil=>rfl
 | cons r _ ih=>rw[map_cons,map_cons,map_cons,ih,r.1]
theorem WR.put{K:Frag}{H:Hp}{k:List Int}{m:Rat}{z:V}{st:Rws}{kvs:List (List Key×V)}(h:WR K H st kvs)(nd:Tb.NdR st)(hz:IsQ K H (Tb.getR st k+m) z):WR K H (Tb.addR k m st) (dI kvs (k.map Sum.inl) z):=by
 induction h with
 | nil =>
  rw[Tb.getR]at hz
  have:(0:Rat)+m=m:=by grind
  rw[this]at hz
  exact .cons ⟨rfl,hz⟩ .nil
 | @cons x kv st kvs r t ih =>
  rw[Tb.addR]
  rw[Tb.getR]at hz
  unfold Tb.NdR at nd
  rw[map_cons,nodup_cons]at nd
  by_cases c:x.1=k
  ·rw[if_pos c]at hz ⊢
   rw[tQ (by rw[r.1,c]) (fun q hq e=>by
    have hm:q.1∈kvs.map (·.1):=mem_map.mpr ⟨q,hq,rfl⟩
    rw[WR.keys t]at hm
    obtain ⟨y,hy,e'⟩:=mem_map.mp hm
    have:=dh (e'.trans e)
    exact nd.1 (by rw[c,← this]; exact hy))]
   exact .cons ⟨by show kv.1=k.map Sum.inl; rw[r.1,c],hz⟩ t
  ·rw[if_neg c]at hz ⊢
   rw[sk (fun e=>c (dh (r.1.symm.trans e)))]
   exact .cons r (ih nd.2 hz)
inductive spWalk(K:Frag)(N:Nat)(vs:List V)(H:Hp)(Q:VK)(_E:XK):Prop
 | mk(v z:V)(df:Addr)(d:Nat)(t:Tr)(q:Rat)(W:Rws)(kvs:List (List Key×V))(D:Nat)(h0:vs=[v,z,.ref df])(h1:d<N)(h2:IsTree H d v t)(h3:Tb.Dp d t)(h4:IsQ K H q z)(h5:H df=some (.dT kvs))(h6:WR K H (Tb.adds W) kvs)(h7:0<D)(h8:D≤Lm2)(h9:Tb.Gd D (W++Tb.kR (Tb.wf t q)))(h10:W.length+Tb.lv t≤1000)(h11:∀ H' kvs',(∀ b o,b≠df→H b=some o→H' b=some o)→H' df=some (.dT kvs')→WR K H' (Tb.adds (W++Tb.kR (Tb.wf t q))) kvs'→Q (.ref df) H'):spWalk K N vs H Q _E
theorem v8:4000000000≤Lm2:=by
 unfold Lm2
 exact Nat.le_trans (show 4000000000≤2 ^ 32 by decide) (Nat.pow_le_pow_right (by decide) (by decide))
section
variable {P:Program}{w:World}{K:Frag}{mg:Str→Option Value}{base:Heap}{a:Ad}
theorem oJ(T:Txt K mg a)(N:Nat)(G_z:FnOk P w K mg base CX0 (N+4) a.f_z a.d_z ["_law_tree_here","_law_much","_law_found"] (spWalk K N)):FnOk P w K mg base CX0 (N+1+4) a.f_z a.d_z ["_law_tree_here","_law_much","_law_found"] (spWalk K (N+1)):=by
 have G_M:FnOk P w K mg base CX0 (N+4) _ _ _ (spAr (· + ·) K):=(lF T).mono (by lia)
 have G_E:FnOk P w K mg base CX0 (N+4) _ _ _ (spAr (· * ·) K):=(lz T).mono (by lia)
 have G_q:FnOk P w K mg base CX0 (N+4) _ _ _ spLowN:=(fY T).mono (by lia)
 refine T.F_z.ok sc_z (fun vs H Q E h=>?_) (fun cdv A outer s H vs Q E hr h=>?_)
 ·obtain ⟨v,z,df,d,t,q,W,kvs,D,rfl,_⟩:=h; rfl
 ·obtain ⟨v,z,df,d,t,q,W,kvs,D,rfl,hdN,ht,hdp,hq,hdf,hW,hD,hDl,hG,hlen,k⟩:=h
  have small:sizeLine=16777216:=sizeLine_eq
  refine ⟨_,(ah (db (eF (aI dO rfl T.z_isinstance bB (aa (vr 0) (aa (dX (v:=.ty "list") rfl T.z_list dg rfl) af)))) (ah (ax (i:=3) sc_z.nd rfl (Or.inl rfl) (b8 dH rfl T.z_tuple fA (aa (aI fj rfl T.z_sorted eL (aa (vr 0) af)) af))) (ao (nO (iy hr) (vr 2) (vr 3) (aq G_M hr rfl T.m_M T.F_M.kp T.B_M .nil aA (aa (iK (iy hr) (vr 2) (vr 3) (bO (aa ai (aa ai af))) ⟨rfl,rfl,rfl,rfl⟩) (aa (vr 1) af))) rfl))) (ah (ax (i:=4) sc_z.nd rfl (Or.inl rfl) (aI (fZ rfl) rfl T.z_sum mn (aa (bJ rfl (N:=["_law_many","_law_part"]) (ix:=[none,none]) ⟨rfl,rfl,rfl,rfl,trivial⟩ (aY (vr 0)) ⟨fun C s H fp=>(dZ (K:=K) (n:=2) rfl rfl (aD (ar (i:=0) (show List.Nodup (["_law_many","_law_part"]:List Str) by decide +kernel) rfl (Or.inl rfl)) (aD (ar (i:=1) (show List.Nodup (["_law_many","_law_part"]:List Str) by decide +kernel) rfl (Or.inl rfl)) bV))),fun C s H fp=>bz,fun C s H fp=>(vr 0)⟩) af))) (ao (b7 PassesOwn.never rfl (aY (vr 0)) (eB rfl (aD (ar (i:=5) sc_z.nd rfl (Or.inl rfl)) (aD (ar (i:=6) sc_z.nd rfl (Or.inl rfl)) bV))) (ao (cH (aq G_z hr rfl T.m_z T.F_z.kp T.B_z .nil aA (aa (vr 6) (aa (aq G_E hr rfl T.m_E T.F_E.kp T.B_E .nil aA (aa (vr 1) (aa (aq G_q hr rfl T.m_q T.F_q.kp T.B_q .nil aA (aa (vr 5) (aa (vr 4) af))) af))) (aa (vr 2) af)))))))))) (ao (aC (vr 2)))),iA ?_⟩
  intro zt2
  have kl:kvs.length≤W.length:=by rw[← hW.length]; exact Tb.adds_len W
  cases t with
  | leaf ns =>
   obtain ⟨l,rfl,hl,hn6,hnd⟩:=(aS d).mp ht
   rw[Tb.wf]at hG k
   have ek:Tb.kR [(ns,q)]=[(Tb.so ns,q)]:=rfl
   rw[ek]at hG k
   refine ⟨_,_,_,true,rfl,rfl,.lst hl,rfl,?_⟩
   refine ⟨l,ns,rfl,SqL.of hl,by lia,fun p ns' hp hs fp=>?_⟩
   have s1:=Same.new (o:=.lst (ns'.map V.int)) fp
   refine ⟨p,_,rfl,.inl ⟨SqL.of ad,fun kt ft=>?_⟩⟩
   have s2:=Same.new (o:=.tup (ns'.map V.int)) ft
   have s12:=s1.trans s2
   have hkt:=ad (H:=upd H p (.lst (ns'.map V.int))) (a:=kt) (o:=.tup (ns'.map V.int))
   have en:ns'=Tb.so ns:=Tb.so_uniq hp hs
   generalize upd (upd H p (.lst (ns'.map V.int))) kt (.tup (ns'.map V.int))=H2 at s12 hkt
   rw[en]at hkt
   refine ⟨df,rfl,.inr ⟨kvs,.inl (s12 _ _ hdf)⟩,dl _ _,fun t0 ft0=>?_⟩
   have s3:=Same.new (o:=.tup [.int 0,.int 1]) ft0
   have ht0:=ad (H:=H2) (a:=t0) (o:=.tup [.int 0,.int 1])
   generalize upd H2 t0 (.tup [.int 0,.int 1])=H3 at s3 ht0
   have s13:=s12.trans s3
   have hkt3:H3 kt=some (.tup (((Tb.so ns).map Sum.inl).map kV)):=by rw[fG]; exact s3 _ _ hkt
   refine ⟨_,.inr ⟨kvs,(Tb.so ns).map Sum.inl,kt,.inl (s13 _ _ hdf),rfl,hkt3,rfl⟩,?_⟩
   have old:IsQ K H3 (Tb.getR (Tb.adds W) (Tb.so ns)) ((cf kvs ((Tb.so ns).map Sum.inl)).getD (.ref t0)):=by
    rcases hW.get (k:=Tb.so ns) with ⟨e1,e2⟩ | ⟨z,e1,e2⟩
    ·rw[e1,e2]; exact ⟨t0,rfl,.inl ht0⟩
    ·rw[e1]; exact e2.same s13
   refine ⟨_,_,_,_,rfl,old,hq.same s13,gj hD hDl (Tb.getR_bq hG.left _),gj hD hDl (hG.right.one mem_cons_self),fun H4 z4 s4 q4=>?_⟩
   have s14:=s13.trans s4
   have hdf4:=s14 _ _ hdf
   refine ⟨df,_,rfl,.inr ⟨kvs,(Tb.so ns).map Sum.inl,kt,hdf4,rfl,s4 _ _ hkt3,by lia,rfl⟩,?_⟩
   refine k _ _ (fun b o n e=>by rw[ag n]; exact s14 _ _ e) ad ?_
   rw[Tb.adds_app]
   exact ((hW.tk s14.tk).put (Tb.adds_nd W) q4).tk (fun b us e=>by rw[ag (ce e hdf4 (fun z=>nomatch z))]; exact e)
  | die ps =>
   obtain ⟨d',rfl,p,vs,rfl,hp,hP,hl1,hl2⟩:=dU ht
   have hok:=Tb.dp_ok _ _ hdp
   rw[Tb.Dp]at hdp
   rw[Tb.Ok]at hok
   rw[Tb.wf]at hG k
   rw[Tb.lv]at hlen
   have g1:=Tb.oks_tot hok.2
   have g2:=Tb.dps_tot _ _ hdp.2.2
   have pl:ps.length=vs.length:=hP.length
   refine ⟨_,_,_,false,rfl,rfl,.tup hp,rfl,?_⟩
   refine .inr ⟨⟨_,SqT.of hp⟩,fun D1 hD1=>?_⟩
   let Pw1:PvL:=fun i zs H'=>Same H H'∧H' D1=some (.lst zs)∧i≤ps.length∧zs=((ps.take i).map (·.1)).map V.int
   refine ip (K:=K) (a:=p) (xs:=vs) Pw1 ⟨Same.new hD1,ad,Nat.zero_le _,rfl⟩ (fun i ys H' h=>SqT.of (h.1 _ _ hp)) (fun i ys H' h=>h.2.1) ?_ ?_
   ·rintro i y zs H' P' hy ⟨s1,hD2,hi,rfl⟩ hP'
    obtain ⟨⟨m,u⟩,hpt,q1,w1,rfl,hq1,_⟩:=aw hP hy
    have ilt:i<ps.length:=(List.getElem?_eq_some_iff.mp hpt).1
    refine ⟨q1,_,rfl,SqT.of (s1 _ _ hq1),rfl,_,_,rfl,_,_,rfl,rfl,trivial,hD2,by rw[length_map,length_map,length_take]; lia,hP' _ _ ⟨s1.put hD1,ad,ilt,?_⟩⟩
    rw[take_add_one,hpt]
    simp
   rintro zs H1 ⟨s1,hD2,_,rfl⟩
   rw[← pl,take_length]at hD2
   refine ⟨D1,_,rfl,SqL.of hD2,?_⟩
   have hp1:=s1 _ _ hp
   have tdf:∀{H':Hp},(∀ b o,b≠df→H1 b=some o→H' b=some o)→TK H1 H':=fun kp b us e=>kp _ _ (ce e (s1 _ _ hdf) (fun z=>nomatch z)) e
   have ndf:p≠df:=ce hp hdf (fun z=>nomatch z)
   let Pw2:PvS:=fun i σ H'=>∃(kv2:List (List Key×V)) (x3 x5 x6:Option V),(∀ b o,b≠df→H1 b=some o→H' b=some o)∧H' df=some (.dT kv2)∧WR K H' (Tb.adds (W++Tb.kR (Tb.wfs (ps.take i) q (Tb.tot ps)))) kv2∧i≤ps.length∧σ=[some (.ref p),some z,some (.ref df),x3,some (.int (Tb.tot ps)),x5,x6]
   refine .inr ⟨⟨_,SqT.of hp1⟩,ss (K:=K) (a:=p) (xs:=vs) Pw2 ⟨kvs,none,none,none,(fun b o _ e=>e),s1 _ _ hdf,by rw[take_zero,Tb.wfs]; show WR K H1 (Tb.adds (W++[])) kvs; rw[append_nil]; exact hW.tk s1.tk,Nat.zero_le _,rfl⟩ (fun i σ H' _ h=>by
    obtain ⟨kv2,x3,x5,x6,kp,_⟩:=h
    exact SqT.of (kp _ _ ndf hp1)) ?_ ?_⟩
   ·rintro i y σ H' hy ⟨kv2,x3,x5,x6,kp,hdf2,hW2,hi,rfl⟩
    obtain ⟨⟨m,u⟩,hpt,q1,w1,rfl,hq1,m1,m2,hu⟩:=aw hP hy
    have m1:1≤m:=m1
    have m2:m≤1000000000:=m2
    have ilt:i<ps.length:=(List.getElem?_eq_some_iff.mp hpt).1
    have pm:=List.mem_of_getElem? hpt
    have mS:=Tb.mem_tot hok.2 pm
    have mS:m≤Tb.tot ps:=mS
    have udp:=(Tb.dp_part hdp.2.2 pm).2.2
    have bms:=Tb.share_bq m1 mS
    have tS:(Tb.tot ps).toNat≤Lm2:=Nat.le_trans (by have:=hdp.2.1; lia) v8
    have bms':=gj (show 0<(Tb.tot ps).toNat by lia) tS bms
    have hq2:IsQ K H' q z:=(hq.tk s1.tk).tk (tdf kp)
    have qb:Bq D q:=by
     have:=hG.right.sm
     rw[Tb.kR_sm]at this
     have e:=Tb.wf_sm (.die ps) q (by rw[Tb.Ok]; exact hok)
     rw[Tb.wf]at e
     rw[e]at this
     exact this
    have ews:=Tb.wfs_snoc q (Tb.tot ps) hpt
    have gi:=Tb.gd_pre (i+1) hG
    rw[ews,Tb.kR_app,← append_assoc]at gi
    have lvp:=Tb.lvs_part hpt
    refine ⟨q1,_,rfl,SqT.of (kp _ _ (ce (s1 _ _ hq1) (s1 _ _ hdf) (fun z=>nomatch z)) (s1 _ _ hq1)),rfl,_,_,rfl,_,_,rfl,rfl,?_⟩
    refine ⟨m,Tb.tot ps,rfl,by lia,by lia,(show Bt 64 m by unfold Bt; lia).mono (by decide),(show Bt 64 (Tb.tot ps) by unfold Bt; have:=hdp.2.1; lia).mono (by decide),fun H3 r3 s3 hr3=>?_⟩
    rw[m9 m (by lia)]at hr3
    refine ⟨_,_,q,_,rfl,hq2.same s3,⟨r3,rfl,.inl hr3⟩,gj hD hDl qb,bms',fun H4 z4 s4 q4=>?_⟩
    have s34:=s3.trans s4
    have ndf3:∀ b o,sqO o=true→H b=some o→H4 b=some o:=fun b o c e=>s34 _ _ (kp _ _ (fun y=>by rw[y,hdf]at e; cases e; cases c) (s1 _ _ e))
    refine ⟨w1,z4,df,d',u,q*((m:Rat)/(Tb.tot ps:Rat)),W++Tb.kR (Tb.wfs (ps.take i) q (Tb.tot ps)),kv2,D,rfl,by lia,IsTree.m ndf3 _ _ _ hu,udp,q4,s34 _ _ hdf2,hW2.tk s34.tk,hD,hDl,gi,?_,fun H5 kv5 k5 hdf5 hW5=>?_⟩
    ·rw[length_append,Tb.kR_len,Tb.wfs_len]; lia
    refine ⟨kv5,_,_,_,fun b o n e=>k5 _ _ n (s34 _ _ (kp _ _ n e)),hdf5,?_,ilt,rfl⟩
    rw[ews,Tb.kR_app,← append_assoc]
    exact hW5
   ·rintro σ H' ⟨kv2,x3,x5,x6,kp,hdf2,hW2,hi,rfl⟩
    rw[← pl,take_length]at hW2
    exact k _ kv2 (fun b o n e=>kp _ _ n (s1 _ _ e)) hdf2 hW2
theorem m7(T:Txt K mg a):∀ N,FnOk P w K mg base CX0 (N+4) a.f_z a.d_z ["_law_tree_here","_law_much","_law_found"] (spWalk K N)
 | 0=>⟨fun vs H Q E h=>by obtain ⟨v,z,df,d,t,q,W,kvs,D,rfl,h0,_⟩:=h; exact absurd h0 (by lia),fun _ _ _ _ _ _ _ _ _ _ _ _ _ h=>by obtain ⟨v,z,df,d,t,q,W,kvs,D,rfl,h0,_⟩:=h; exact absurd h0 (by lia)⟩
 | N+1=>oJ T N (m7 T N)
end
open Tb (Tr Ent Way Rws Ch Lm2 Grp)
inductive spWhole(vs:List V)(H:Hp)(Q:VK)(_E:XK):Prop
 | mk(x:Int)(h0:vs=[.int x])(h1:Q (.bl true) H):spWhole vs H Q _E
inductive spFrs(K:Frag)(vs:List V)(H:Hp)(Q:VK)(_E:XK):Prop
 | mk(l:Addr)(zs:List V)(h0:vs=[.ref l])(h1:H l=some (.lst zs))(h2:(∀ z∈zs,∃ q,IsQ K H q z))(h3:Q (.bl true) H):spFrs K vs H Q _E
inductive spLM(K:Frag)(vs:List V)(H:Hp)(Q:VK)(_E:XK):Prop
 | mk(lr lp:Addr)(R:Rws)(ys:List V)(ps:List Int)(D:Nat)(h0:vs=[.ref lr,.ref lp])(h1:H lr=some (.lst ys))(h2:Paired (RowR K H) R ys)(h3:H lp=some (.lst (ps.map V.int)))(h4:ps.length≤100)(h5:0<D)(h6:D≤Lm2)(h7:Tb.Gd D R)(h8:∀ H' l ws,Same H H'→H l=none→H' l=some (.lst ws)→Paired (kF K H H' (Tb.mm R) ps) ps ws→Q (.ref l) H'):spLM K vs H Q _E
inductive spPl(vs:List V)(H:Hp)(Q:VK)(_E:XK):Prop
 | mk(v:V)(st:Addr)(d:Nat)(t:Tr)(n:Int)(h0:vs=[v,.ref st])(h1:IsTree (untr H st) d v t)(h2:H st=some (.lst [.int n]))(h3:∀ H' l (ps:List Int),SameP st H H'→H l=none→H' l=some (.lst (ps.map V.int))→ps.length≤9→Q (.ref l) H'):spPl vs H Q _E
theorem jj{K:Frag}{Ht H':Hp}{d:Nat}{v:V}{t:Tr}{Q:VK}(at':∀ b o,Ht b=some o→H' b=some o)(h:IsTree Ht d v t)(q:∀ l xs,H' l=none→(∀ ns,t=.leaf ns→ns.length≤6∧xs=ns.map V.int)→Q (.ref l) (upd H' l (.lst xs))):rListOf K [v] H' Q:=by
 cases t with
 | leaf ns =>
  obtain ⟨p,rfl,hp,hl,_⟩:=(aS d).mp h
  exact ⟨p,_,rfl,.inl (SqL.of (at' _ _ hp)),fun l fl=>q l _ fl fun ns' e=>by cases e; exact ⟨hl,rfl⟩⟩
 | die ps =>
  obtain ⟨d',rfl,p,vs,rfl,hp,hP,hl1,hl2⟩:=dU h
  exact ⟨p,_,rfl,.inr (SqT.of (at' _ _ hp)),fun l fl=>q l _ fl fun ns' e=>by cases e⟩
section
variable {P:Program}{w:World}{K:Frag}{mg:Str→Option Value}{base:Heap}{a:Ad}
theorem qQ(T:Txt K mg a):FnOk P w K mg base CX0 1 a.f_J a.d_J ["_law_found"] spWhole:=by
 refine T.F_J.ok lu (fun vs H Q E h=>?_) (fun cdv A outer s H vs Q E hr h=>?_)
 ·obtain ⟨x,rfl,_⟩:=h; rfl
 ·obtain ⟨x,rfl,q⟩:=h
  refine ⟨_,(ao (aC (wG (aI dO rfl T.z_isinstance bB (aa (vr 0) (aa (dX (v:=.ty "int") rfl T.z_int rJ rfl) af))) (pX (xi (aI dO rfl T.z_isinstance bB (aa (vr 0) (aa (dX (v:=.ty "bool") rfl T.z_bool ud rfl) af)))))))),?_⟩
  exact ⟨_,_,_,true,rfl,rfl,.int x,rfl,⟨_,_,_,false,rfl,rfl,.int x,rfl,q⟩⟩
theorem jv(T:Txt K mg a):FnOk P w K mg base CX0 2 a.f_m a.d_m ["_law_rows"] (spFrs K):=by
 have G_J:FnOk P w K mg base CX0 1 _ _ _ spWhole:=qQ T
 refine T.F_m.ok sc_m (fun vs H Q E h=>?_) (fun cdv A outer s H vs Q E hr h=>?_)
 ·obtain ⟨l,zs,rfl,_⟩:=h; rfl
 ·obtain ⟨l,zs,rfl,hl,hz,q⟩:=h
  refine ⟨_,(ah (b7 PassesOwn.never rfl (aY (vr 0)) (ar (i:=1) sc_m.nd rfl (Or.inl rfl)) (ao (db (PW.pt (gY (eu (eF (aI rO rfl T.z_isinstance bB (aa (vr 1) (aa (dX (v:=.ty "tuple") rfl T.z_tuple fA rfl) af))))) (gY (eu (eF (aq G_J hr rfl T.m_J T.F_J.kp T.B_J .nil aA (aa (bN bv (vr 1) ai (fun _ _=>rfl)) af)))) (iF (eu (eF (aq G_J hr rfl T.m_J T.F_J.kp T.B_J .nil aA (aa (bN bv (vr 1) ai (fun _ _=>rfl)) af)))))))) (ao (aC fu)) bU))) (ao (aC fu))),iA ?_⟩
  intro zt2
  let Pw1:PvS:=fun i σ H'=>H'=H∧∃ x,σ=[some (.ref l),x]
  refine .inl ⟨⟨_,SqL.of hl⟩,bX (K:=K) (a:=l) (xs:=zs) Pw1 ⟨rfl,none,rfl⟩ (fun i σ H' _ h=>by rw[h.1]; exact SqL.of hl) ?_ ?_⟩
  ·rintro i y σ H' hy ⟨rfl,x,rfl⟩
   obtain ⟨f,p,rfl,hp⟩:=hz y (List.mem_of_getElem? hy)
   refine ⟨_,_,_,true,rfl,rfl,.inr ⟨p,_,rfl,rfl,hp.sq⟩,rfl,?_⟩
   refine px0 hp.sq ⟨_,rfl,px1 hp.sq ⟨_,rfl,?_⟩⟩
   exact ⟨rfl,_,rfl⟩
  ·rintro σ H' ⟨rfl,x,rfl⟩
   exact q
theorem lL(T:Txt K mg a):FnOk P w K mg base CX0 4 a.f_p a.d_p ["_law_rows","_law_places_here"] (spLM K):=by
 have G_M:FnOk P w K mg base CX0 3 _ _ _ (spAr (· + ·) K):=lF T
 refine T.F_p.ok sc_p (fun vs H Q E h=>?_) (fun cdv A outer s H vs Q E hr h=>?_)
 ·obtain ⟨lr,lp,R,ys,ps,D,rfl,_⟩:=h; rfl
 ·obtain ⟨lr,lp,R,ys,ps,D,rfl,hlr,hR,hlp,hpl,hD,hDl,hG,q⟩:=h
  have small:sizeLine=16777216:=sizeLine_eq
  refine ⟨_,(ah (ax (i:=2) sc_p.nd rfl (Or.inl rfl) (cI af)) (ah (b7 PassesOwn.never rfl (aY (vr 1)) (ar (i:=3) sc_p.nd rfl (Or.inl rfl)) (ah (ax (i:=4) sc_p.nd rfl (Or.inl rfl) (cI af)) (ah (b7 PassesOwn.never rfl (aY (vr 1)) (ar (i:=5) sc_p.nd rfl (Or.inl rfl)) (ah (ax (i:=6) sc_p.nd rfl (Or.inl rfl) (bO (aa ai (aa ai af)))) (ah (b7 PassesOwn.never rfl (aY (vr 0)) (eB rfl (aD (ar (i:=7) sc_p.nd rfl (Or.inl rfl)) (aD (ar (i:=8) sc_p.nd rfl (Or.inl rfl)) bV))) (ao (db (PW.pt (lE (cJ fO (vr 3) (vr 7) (by with_unfolding_all rfl)) (jK (cJ fO (vr 5) (vr 7) (by with_unfolding_all rfl))))) (ao (ax (i:=6) sc_p.nd rfl (Or.inl rfl) (aq G_M hr rfl T.m_M T.F_M.kp T.B_M .nil aA (aa (vr 6) (aa (vr 8) af))))) bU))) (ao (cH (pe_m.append (vr 4) (aa (vr 6) af))))))) (ao (cH (pe_m.append (vr 2) (aa (vr 4) af))))))) (ao (aC (vr 2))))),jd ?_⟩
  intro zt3 zt2
  refine ⟨Nat.zero_le _,fun Dd fDd=>?_⟩
  have u1:=Same.new (o:=.lst []) fDd
  have hDd1:=ad (H:=H) (a:=Dd) (o:=.lst [])
  generalize upd H Dd (.lst [])=H1 at u1 hDd1
  let Pw2:PvS:=fun i σ H'=>∃(ws:List V) (x3 x4 x5 x6 x7 x8:Option V),Same H H'∧H' Dd=some (.lst ws)∧Paired (kF K H (untr H' Dd) (Tb.mm R) ps) (ps.take i) ws∧i≤ps.length∧σ=[some (.ref lr),some (.ref lp),some (.ref Dd),x3,x4,x5,x6,x7,x8]
  refine .inl ⟨⟨_,SqL.of (u1 _ _ hlp)⟩,bX (K:=K) (a:=lp) (xs:=ps.map V.int) Pw2 ⟨[],none,none,none,none,none,none,u1,hDd1,.nil,Nat.zero_le _,rfl⟩ (fun i σ H' _ h=>by
   obtain ⟨ws,x3,x4,x5,x6,x7,x8,k,_⟩:=h
   exact SqL.of (k _ _ hlp)) ?_ ?_⟩
  ·rintro i y σ H' hy ⟨ws,x3,x4,x5,x6,x7,x8,s1,hDd,hws,hi,rfl⟩
   obtain ⟨o,ho,rfl⟩:=cY hy
   have ilt:i<ps.length:=(List.getElem?_eq_some_iff.mp ho).1
   refine ⟨Nat.zero_le _,fun Dr fDr=>?_⟩
   have u2:=Same.new (o:=.lst []) fDr
   have hDr1:=ad (H:=H') (a:=Dr) (o:=.lst [])
   generalize upd H' Dr (.lst [])=H2 at u2 hDr1
   let Pw3:PvS:=fun j σ H3=>∃(zs:List V) (x5 x6 x7 x8:Option V),Same H' H3∧H3 Dr=some (.lst zs)∧Paired (fun j z=>IsQ K H3 (Tb.mm R o j) z) (ps.take j) zs∧j≤ps.length∧σ=[some (.ref lr),some (.ref lp),some (.ref Dd),some (.int o),some (.ref Dr),x5,x6,x7,x8]
   refine .inl ⟨⟨_,SqL.of ((s1.trans u2) _ _ hlp)⟩,bX (K:=K) (a:=lp) (xs:=ps.map V.int) Pw3 ⟨[],_,_,_,_,u2,hDr1,.nil,Nat.zero_le _,rfl⟩ (fun j σ H3 _ h=>by
    obtain ⟨zs,x5,x6,x7,x8,k,_⟩:=h
    exact SqL.of ((s1.trans k) _ _ hlp)) ?_ ?_⟩
   ·rintro j y σ H3 hy ⟨zs,x5,x6,x7,x8,s3,hDr,hzs,hj,rfl⟩
    obtain ⟨o2,ho2,rfl⟩:=cY hy
    have jlt:j<ps.length:=(List.getElem?_eq_some_iff.mp ho2).1
    refine ⟨dl _ _,fun t0 ft0=>?_⟩
    have u4:=Same.new (o:=.tup [.int 0,.int 1]) ft0
    have ht0:=ad (H:=H3) (a:=t0) (o:=.tup [.int 0,.int 1])
    generalize upd H3 t0 (.tup [.int 0,.int 1])=H4 at u4 ht0
    have s14:=(s1.trans s3).trans u4
    have q0:IsQ K H4 (Tb.mm (R.take 0) o o2) (.ref t0):=⟨t0,rfl,.inl ht0⟩
    let Pw4:PvS:=fun k σ H5=>∃(z:V) (x7 x8:Option V),Same H4 H5∧IsQ K H5 (Tb.mm (R.take k) o o2) z∧k≤ys.length∧σ=[some (.ref lr),some (.ref lp),some (.ref Dd),some (.int o),some (.ref Dr),some (.int o2),some z,x7,x8]
    refine .inl ⟨⟨_,SqL.of (s14 _ _ hlr)⟩,bX (K:=K) (a:=lr) (xs:=ys) Pw4 ⟨_,_,_,Same.refl _,q0,Nat.zero_le _,rfl⟩ (fun k σ H5 _ h=>by
     obtain ⟨z,x7,x8,k,_⟩:=h
     exact SqL.of ((s14.trans k) _ _ hlr)) ?_ ?_⟩
    ·rintro k y σ H5 hy ⟨z,x7,x8,s5,hz,hk,rfl⟩
     obtain ⟨r,hr9,hrow⟩:=aw hR hy
     obtain ⟨p,kt,z9,rfl,hp,hkt,hq9⟩:=RowR.tk (s14.trans s5).tk r _ hrow
     have klt:k<ys.length:=(List.getElem?_eq_some_iff.mp hy).1
     have es:=Tb.mm_snoc hr9 o o2
     have rm:=List.mem_of_getElem? hr9
     refine ⟨p,_,rfl,SqT.of hp,rfl,_,_,rfl,_,_,rfl,rfl,?_⟩
     have out:¬Tb.both r.1 o o2→IsQ K H5 (Tb.mm (R.take (k+1)) o o2) z:=fun h=>by
      rw[es,if_neg h,show Tb.mm (R.take k) o o2+0=Tb.mm (R.take k) o o2 by grind]; exact hz
     refine ⟨kt,_,rfl,.inr (SqT.of hkt),rfl,eQ _,?_⟩
     rw[iM]
     refine ifC (fun c1=>?_) (fun c1=>?_)
     ·refine ⟨kt,_,rfl,.inr (SqT.of hkt),rfl,eQ _,?_⟩
      rw[iM]
      refine ifC (fun c2=>?_) (fun c2=>?_)
      ·refine ⟨_,_,_,_,rfl,hz,hq9,gj hD hDl (Tb.mm_bq hG o o2 k),gj hD hDl (hG.one rm),fun H6 z6 s6 q6=>?_⟩
       refine ⟨z6,_,_,s5.trans s6,?_,klt,rfl⟩
       rw[es,if_pos ⟨c1,c2⟩]
       exact q6
      ·exact ⟨z,_,_,s5,out fun h=>c2 h.2,klt,rfl⟩
     ·exact ⟨z,_,_,s5,out fun h=>c1 h.1,klt,rfl⟩
    ·rintro σ H5 ⟨z,x7,x8,s5,hz,hk,rfl⟩
     rw[← hR.length,take_length]at hz
     have s35:=u4.trans s5
     have hDr5:=s35 _ _ hDr
     have tk6:TK H5 (upd H5 Dr (.lst (zs++[z]))):=fun b us e=>by rw[ag (ce e hDr5 (fun z=>nomatch z))]; exact e
     refine ⟨.inl ⟨rfl,_,SqL.of hDr5⟩,⟨Dr,zs,_,rfl,rfl,hDr5,by rw[← hzs.length,length_take]; lia,?_⟩⟩
     refine ⟨zs++[z],_,_,_,_,(s3.trans s35).put fDr,ad,?_,jlt,rfl⟩
     exact aX (ak (fun j z h=>h.tk (s35.tk.trans tk6)) hzs) ho2 (hz.tk tk6)
   ·rintro σ H3 ⟨zs,x5,x6,x7,x8,s3,hDr,hzs,hj,rfl⟩
    rw[length_map,take_length]at hzs
    have hDd3:=s3 _ _ hDd
    have nDr:Dr≠Dd:=fun z=>by rw[z,hDd]at fDr; cases fDr
    have c2:SameT (untr H' Dd) (untr (upd H3 Dd (.lst (ws++[.ref Dr]))) Dd):=(cL s3.t).trans dc
    refine ⟨.inl ⟨rfl,_,SqL.of hDd3⟩,⟨Dd,ws,_,rfl,rfl,hDd3,by rw[← hws.length,length_take]; lia,?_⟩⟩
    refine ⟨ws++[.ref Dr],_,_,_,_,_,_,(s1.trans s3).put fDd,ad,?_,ilt,rfl⟩
    refine aX (ak (fun i y ⟨D9,zs9,e9,f9,h9,p9⟩=>⟨D9,zs9,e9,f9,c2.at h9,ak (fun j z h=>h.tk (fun b us e=>c2.at e)) p9⟩) hws) ho ⟨Dr,zs,rfl,s1.free fDr,?_,?_⟩
    ·rw[av nDr,ag nDr]; exact hDr
    ·refine ak (fun j z h=>h.tk fun b us e=>?_) hzs
     have nb:b≠Dd:=ce e hDd3 (fun z=>nomatch z)
     rw[av nb,ag nb]; exact e
  ·rintro σ H' ⟨ws,x3,x4,x5,x6,x7,x8,s1,hDd,hws,hi,rfl⟩
   rw[length_map,take_length]at hws
   exact q _ Dd ws s1 fDd hDd (ak (fun i y ⟨D9,zs9,e9,f9,h9,p9⟩=>⟨D9,zs9,e9,f9,cut_sub.at h9,ak (fun j z h=>h.tk (fun b us e=>cut_sub.at e)) p9⟩) hws)
theorem pI(T:Txt K mg a):FnOk P w K mg base CX0 2 a.f_x a.d_x ["_law_tree_here","_law_state"] spPl:=by
 have G_g:FnOk P w K mg base CX0 1 _ _ _ spTake:=jN T
 refine T.F_x.ok sc_x (fun vs H Q E h=>?_) (fun cdv A outer s H vs Q E hr h=>?_)
 ·obtain ⟨v,st,d,t,n,rfl,_⟩:=h; rfl
 ·obtain ⟨v,st,d,t,n,rfl,ht,hst,q⟩:=h
  have small:sizeLine=16777216:=sizeLine_eq
  refine ⟨_,(ah (ax (i:=2) sc_x.nd rfl (Or.inl rfl) (b8 cM rfl T.z_list dg (aa (vr 0) af))) (ah (fg PassesOwn.never (eu (eF (aI dO rfl T.z_isinstance bB (aa (vr 0) (aa (dX (v:=.ty "list") rfl T.z_list dg rfl) af))))) (ah (ax (i:=0) sc_x.nd rfl (Or.inl rfl) (bN bv (bN bv (vr 0) (aq G_g hr rfl T.m_g T.F_g.kp T.B_g .nil aA (aa (vr 1) (aa (aI eU rfl T.z_len jw (aa (vr 0) af)) af))) (fun _ _=>rfl)) ai (fun _ _=>rfl))) (ao (ax (i:=2) sc_x.nd rfl (Or.inl rfl) (b8 cM rfl T.z_list dg (aa (vr 0) af)))))) (ah (jI rfl (i:=3) sc_x.nd rfl rfl (by with_unfolding_all rfl) (N:=["_law_k","_law_state"]) (ix:=[none,some 1]) ⟨rfl,rfl,rfl,rfl,⟨rfl,rfl,rfl,trivial⟩⟩ (b9 rfl T.z_range (aa ai af)) ⟨fun C s H fp=>ar (i:=0) (show List.Nodup (["_law_k","_law_state"]:List Str) by decide +kernel) rfl (Or.inl rfl),fun C s H fp=>bz,fun C s H fp=>(aq G_g hr rfl T.m_g T.F_g.kp T.B_g .nil aA (aa (vr 1) (aa ai af)))⟩) (ah (b7 PassesOwn.never rfl (aY (vr 3)) (ar (i:=4) sc_x.nd rfl (Or.inl rfl)) (ao (db (cJ jU (vr 4) (vr 2) (by with_unfolding_all rfl)) (ao (cH (pe_m.append (vr 2) (aa (vr 4) af)))) bU))) (ao (aC (vr 2))))))),nC ?_⟩
  intro zt5 zt4 zt3 zt2
  generalize hHt:untr H st=Ht at ht
  have at':∀{H':Hp},SameP st H H'→∀ b o,Ht b=some o→H' b=some o:=fun {H'} s b o e=>by
   rw[← hHt]at e
   have nb:b≠st:=fun z=>by rw[z,aQ]at e; cases e
   rw[av nb]at e
   exact s _ _ nb e
  refine jj (at' SameP.refl) ht fun l0 xs0 fl0 hx0=>?_
  have nl0:l0≠st:=fun z=>by rw[z,hst]at fl0; cases fl0
  let Pw7:PvS:=fun c σ H'=>∃(v:V) (d:Nat) (t:Tr) (n:Int) (l:Addr) (xs:List V) (x3 x4:Option V),c=d∧SameP st H H'∧H' st=some (.lst [.int n])∧IsTree Ht d v t∧H l=none∧H' l=some (.lst xs)∧(∀ ns,t=.leaf ns→ns.length≤6∧xs=ns.map V.int)∧σ=[some v,some (.ref st),some (.ref l),x3,x4]
  refine ⟨Pw7,
   ⟨_,v,d,t,n,l0,xs0,none,none,rfl,SameP.of (Same.new fl0),by rw[ag (Ne.symm nl0)]; exact hst,ht,fl0,ad,hx0,rfl⟩,?_⟩
  clear hx0
  rintro c σ H1 ⟨v,d,t,n,l,xs,x3,x4,rfl,s1,hst1,ht,fl,hl,hx,rfl⟩
  have nl:l≠st:=fun z=>by rw[z,hst]at fl; cases fl
  cases t with
  | die ps =>
   obtain ⟨d',rfl,p,vs,rfl,hp,hP,hl1,hl2⟩:=dU ht
   have hp1:=at' s1 _ _ hp
   have np:p≠st:=fun z=>by rw[z,hst1]at hp1; cases hp1
   refine ⟨_,_,_,false,rfl,rfl,.tup hp1,rfl,?_⟩
   refine ⟨_,fun _ _ h=>h,?_⟩
   have vl:vs.length=ps.length:=hP.length.symm
   refine ⟨vs,.inr (SqT.of hp1),?_⟩
   refine ⟨st,n,(vs.length:Int),rfl,hst1,by lia,by lia,fun r n2 r0 r1=>?_⟩
   have s2:=s1.trans (SameP.put (o:=.lst [.int n2]))
   have hst2:=ad (H:=H1) (a:=st) (o:=.lst [.int n2])
   generalize upd H1 st (.lst [.int n2])=H2 at s2 hst2
   have er:((r.toNat:Nat):Int)=r:=by lia
   obtain ⟨y,hy⟩:∃ y,vs[r.toNat]? = some y:=⟨_,List.getElem?_eq_getElem (by lia)⟩
   obtain ⟨⟨m,u⟩,hpt,q1,w1,rfl,hq1,_,_,hu⟩:=aw hP hy
   have ey:atI vs r=some (.ref q1):=by rw[← er]; exact cN hy
   refine .inr (.inl ⟨p,_,_,_,rfl,rfl,SqT.of (at' s2 _ _ hp),ey,?_⟩)
   refine px1 (SqT.of (at' s2 _ _ hq1)) ?_
   refine jj (at' s2) hu fun l2 xs2 fl2 hx2=>?_
   have nl2:l2≠st:=fun z=>by rw[z,hst2]at fl2; cases fl2
   refine ⟨d',by lia,w1,d',u,n2,l2,xs2,_,_,rfl,s2.trans (SameP.of (Same.new fl2)),by rw[ag (Ne.symm nl2)]; exact hst2,hu,?_,ad,hx2,rfl⟩
   exact s2.free hst2 fl2
  | leaf ns =>
   obtain ⟨p,rfl,hp,hn6,_⟩:=(aS _).mp ht
   obtain ⟨_,rfl⟩:=hx ns rfl
   refine ⟨_,_,_,true,rfl,rfl,.lst (at' s1 _ _ hp),rfl,?_⟩
   refine ⟨3,rfl,by lia,by lia,fun D hD=>?_⟩
   have nD:D≠st:=fun z=>by rw[z,hst1]at hD; cases hD
   have nDl:D≠l:=fun z=>by rw[z,hl]at hD; cases hD
   let Pw5:PvL:=fun j ys H'=>SameP st H1 H'∧H' D=some (.lst ys)∧∃(m:Int) (ms:List Int),H' st=some (.lst [.int m])∧ys=ms.map V.int∧ms.length=j
   refine eC (lo:=0) (n:=3) Pw5 ⟨SameP.of (Same.new hD),ad,n,[],by rw[ag (Ne.symm nD)]; exact hst1,rfl,rfl⟩ (fun j ys H' h=>h.2.1) ?_ ?_
   ·rintro j ys H' P' hj ⟨s3,hD3,m,ms,hst3,rfl,hml⟩ hP
    refine ⟨⟨rfl,trivial⟩,st,m,100,rfl,hst3,by lia,by lia,fun r m2 r0 r1=>?_⟩
    have hD4:(upd H' st (.lst [.int m2])) D=some (.lst (ms.map V.int)):=by rw[ag nD]; exact hD3
    refine ⟨hD4,by rw[length_map]; lia,hP _ _ ⟨fun b o n e=>?_,ad,m2,ms++[r],by rw[ag (Ne.symm nD)]; exact ad,by rw[map_append]; rfl,by rw[length_append,hml]; rfl⟩⟩
    have nb:b≠D:=fun z=>by rw[z,hD]at e; cases e
    rw[ag nb,ag n]
    exact s3 _ _ n e
   rintro ys H3 ⟨s3,hD3,m,ms,hst3,rfl,hml⟩
   have hl3:=s3 _ _ nl hl
   let Pw6:PvS:=fun i σ H'=>∃(ps:List Int) (x4:Option V),(∀ b o,b≠l→H3 b=some o→H' b=some o)∧H' l=some (.lst (ps.map V.int))∧ps.length≤6+i∧i≤3∧σ=[some (.ref p),some (.ref st),some (.ref l),some (.ref D),x4]
   refine .inl ⟨⟨_,SqL.of hD3⟩,bX (K:=K) (a:=D) (xs:=ms.map V.int) Pw6 ⟨ns,_,(fun b o _ e=>e),hl3,hn6,by lia,rfl⟩ (fun i σ H' _ h=>by
    obtain ⟨ps,x4,k,_⟩:=h
    exact SqL.of (k _ _ nDl hD3)) ?_ ?_⟩
   ·rintro i y σ H' hy ⟨ps,x4,kp,hl4,hpl,hi,rfl⟩
    obtain ⟨x,hx,rfl⟩:=cY hy
    have ilt:i<ms.length:=(List.getElem?_eq_some_iff.mp hx).1
    refine ⟨l,_,rfl,.inl (SqL.of hl4),rfl,eQ _,?_⟩
    refine ifB (fun _=>?_) (fun _=>?_)
    ·refine ⟨.inl ⟨rfl,_,SqL.of hl4⟩,⟨l,_,_,rfl,rfl,hl4,by rw[length_map]; lia,?_⟩⟩
     exact ⟨ps++[x],_,fun b o n e=>by rw[ag n]; exact kp _ _ n e,by rw[ad,map_append]; rfl,by rw[length_append,length_singleton]; lia,by lia,rfl⟩
    ·exact ⟨ps,_,kp,hl4,by lia,by lia,rfl⟩
   ·rintro σ H' ⟨ps,x4,kp,hl4,hpl,hi,rfl⟩
    rw[length_map]at hpl
    refine q _ l ps (fun b o n e=>?_) fl hl4 (by lia)
    exact kp _ _ (fun z=>by rw[z,fl]at e; cases e) (s3 _ _ n (s1 _ _ n e))
end
end My
namespace Tb
open FrM Du LexM
def wdP(n:Nat)(s:Int):List (Int×Tr):=(List.range n).map fun k=>(1+((k:Nat):Int) % s,.leaf [((k:Nat):Int) % 100])
def Lf(ps:List (Int×Tr)):Prop:=∀ p∈ps,∃ x,p.2=.leaf [x]
theorem qE:∀{ps:List (Int×Tr)},Lf ps→(∀ p∈ps,1≤p.1)→Oks ps
 | [],_,_=>by rw[Oks]; trivial
 | (m,u)::r,h,h1=>by
  rw[Oks]
  obtain ⟨x,e⟩:=h _ mem_cons_self
  have e:u=.leaf [x]:=e
  refine ⟨h1 _ mem_cons_self,?_,qE (fun p hp=>h p (mem_cons_of_mem _ hp)) fun p hp=>h1 p (mem_cons_of_mem _ hp)⟩
  rw[e,Ok]; simp
theorem qp:∀{ps:List (Int×Tr)},Lf ps→lvs ps=ps.length
 | [],_=>by rw[lvs]; rfl
 | (m,u)::r,h=>by
  obtain ⟨x,e⟩:=h _ mem_cons_self
  have e:u=.leaf [x]:=e
  rw[lvs,e,lv,qp fun p hp=>h p (mem_cons_of_mem _ hp),length_cons]; lia
theorem qk:∀{ps:List (Int×Tr)},Lf ps→dns ps=1
 | [],_=>by rw[dns]
 | (m,u)::r,h=>by
  obtain ⟨x,e⟩:=h _ mem_cons_self
  have e:u=.leaf [x]:=e
  rw[dns,e,dn,qk fun p hp=>h p (mem_cons_of_mem _ hp)]
theorem jC{a b S:Int}{k:List Int}:∀{ps:List (Int×Tr)},Lf ps→(k∈(wls ps a b S).map (·.1)↔∃ p∈ps,p.2=.leaf k)
 | [],_=>by rw[wls]; simp
 | (m,u)::r,h=>by
  obtain ⟨x,e⟩:=h _ mem_cons_self
  have e:u=.leaf [x]:=e
  have ih:=jC (a:=a) (b:=b) (S:=S) (k:=k) (ps:=r) fun p hp=>h p (mem_cons_of_mem _ hp)
  rw[wls,e,wl,map_append,mem_append,ih]
  constructor
  ·rintro (⟨p,hp,e2⟩ | h2)
   ·exact ⟨p,mem_cons_of_mem _ hp,e2⟩
   ·have:k=[x]:=by simpa using h2
    exact ⟨_,mem_cons_self,by rw[this]⟩
  ·rintro ⟨p,hp,e2⟩
   rcases mem_cons.mp hp with rfl | hp
   ·right
    have e2:Tr.leaf [x]=.leaf k:=e2
    injection e2 with e2
    rw[← e2]; simp
   ·exact .inl ⟨p,hp,e2⟩
theorem kZ(n:Nat)(s:Int):Lf (wdP n s):=fun p hp=>by
 obtain ⟨k,_,rfl⟩:=mem_map.mp hp
 exact ⟨_,rfl⟩
theorem uJ{n:Nat}{s:Int}(h1:1≤s)(h9:s≤9):∀ p∈wdP n s,1≤p.1∧p.1≤9:=fun p hp=>by
 obtain ⟨k,_,rfl⟩:=mem_map.mp hp
 have:=Int.emod_nonneg ((k:Nat):Int) (show s≠0 by lia)
 have:=Int.emod_lt_of_pos ((k:Nat):Int) (show 0<s by lia)
 show 1≤1+((k:Nat):Int) % s∧1+((k:Nat):Int) % s≤9
 lia
theorem mP:∀{ps:List (Int×Tr)},(∀ p∈ps,1≤p.1∧p.1≤9)→tot ps≤9*(ps.length:Int)
 | [],_=>by simp[tot]
 | (m,u)::r,h=>by
  have ih:=mP (ps:=r) fun p hp=>h p (mem_cons_of_mem _ hp)
  have h1:=(h _ mem_cons_self).2
  have h1:m≤9:=h1
  have et:tot ((m,u)::r)=m+tot r:=by unfold tot; rw[map_cons,sum_cons]
  rw[et,length_cons]
  push_cast
  lia
theorem wd_len(n:Nat)(s:Int):(wdP n s).length=n:=by unfold wdP; rw[length_map,length_range]
theorem wd_ok{n:Nat}{s:Int}(hn:1≤n)(h1:1≤s)(h9:s≤9):Ok (.die (wdP n s)):=by
 rw[Ok]
 exact ⟨fun e=>by have:=wd_len n s; rw[e]at this; simp at this; lia,qE (kZ n s) fun p hp=>(uJ h1 h9 p hp).1⟩
theorem wd_lv(n:Nat)(s:Int):lv (.die (wdP n s))=n:=by rw[lv,qp (kZ n s),wd_len]
theorem wd_dn{n:Nat}{s:Int}(hn:n≤5000)(h1:1≤s)(h9:s≤9):dn (.die (wdP n s))≤Lm2:=by
 rw[dn,qk (kZ n s)]
 have:=mP (uJ (n:=n) h1 h9)
 rw[wd_len]at this
 have h2:4000000000≤Lm2:=by
  unfold Lm2
  exact Nat.le_trans (show 4000000000≤2 ^ 32 by decide) (Nat.pow_le_pow_right (by decide) (by decide))
 lia
theorem qV(x:Int):so [x]=[x]:=(so_uniq (List.Perm.refl _) (pairwise_singleton _ _)).symm
theorem wd_keys{n:Nat}{s:Int}(hn:100≤n){R:Rws}(h:IsTab (toR (kW (wl (.die (wdP n s)) 1 1))) R):R.map (·.1)=(List.range 100).map fun k=>[((k:Nat):Int)]:=by
 refine jR h.up ?_ fun k=>?_
 ·rw[List.pairwise_map]
  refine List.pairwise_lt_range.imp fun {a b} hab=>?_
  show (if ((a:Nat):Int)=((b:Nat):Int) then aG [] [] else decide (((a:Nat):Int)<((b:Nat):Int)))=true
  rw[if_neg (by lia)]
  exact decide_eq_true (by lia)
 ·rw[h.keys]
  have e:(toR (kW (wl (.die (wdP n s)) 1 1))).map (·.1)=((wl (.die (wdP n s)) 1 1).map (·.1)).map so:=by unfold toR kW; rw[map_map,map_map,map_map]; rfl
  rw[e,wl]
  constructor
  ·intro hk
   obtain ⟨k',hk',rfl⟩:=mem_map.mp hk
   obtain ⟨p,hp,e2⟩:=(jC (kZ n s)).mp hk'
   obtain ⟨j,_,rfl⟩:=mem_map.mp hp
   have e2:Tr.leaf [((j:Nat):Int) % 100]=.leaf k':=e2
   injection e2 with e2
   rw[← e2,qV]
   refine mem_map.mpr ⟨j % 100,mem_range.mpr (Nat.mod_lt _ (by decide)),?_⟩
   show [((j % 100:Nat):Int)]=_
   congr 1
  ·intro hk
   obtain ⟨j,hj,rfl⟩:=mem_map.mp hk
   have hj:=mem_range.mp hj
   refine mem_map.mpr ⟨[((j:Nat):Int)],(jC (kZ n s)).mpr ⟨_,mem_map.mpr ⟨j,mem_range.mpr (by lia),rfl⟩,?_⟩,qV _⟩
   show Tr.leaf [((j:Nat):Int) % 100]=_
   rw[Int.emod_eq_of_lt (by lia) (by lia)]
end Tb
namespace My
open PySem L2 FrM Du LexM
open Tb (Tr Ent Way Rws Ch Lm2 Grp)
theorem NodeR.t2{H H':Hp}{d:Nat}(s:SameT H H')(pt:Int×Tr)(y:V)(h:NodeR H H d pt y):NodeR H' H' d pt y:=by
 obtain ⟨q,f,w,h1,h2,h3,h4,h5,h6⟩:=h
 exact ⟨q,f,w,h1,s.at h2,h3.t s,h4,h5,IsTree.t s _ _ _ h6⟩
inductive spWide(a:Ad)(vs:List V)(H:Hp)(Q:VK)(_E:XK):Prop
 | mk(n:Nat)(s:Int)(h0:vs=[.int (n:Nat),.int s])(h1:4090≤n)(h2:n≤4102)(h3:1≤s)(h4:s≤9)(h5:TabsOk (tabs a) H)(h6:∀ H',SameT H H'→Q (.bl true) H'):spWide a vs H Q _E
def pP(x:List Int):PyData:=.tuple (x.map PyData.int)
theorem g9{K:Frag}{H:Hp}:∀ x:List Int,DVs K H (x.map PyData.int) (x.map V.int)
 | []=>by simp[DVs]
 | i::x=>by
  rw[map_cons,map_cons,DVs]
  exact ⟨_,_,rfl,by simp[DV],g9 x⟩
theorem qe{K:Frag}{H:Hp}{p:Addr}{x:List Int}(h:H p=some (.tup (x.map V.int))):DV K H (pP x) (.ref p):=by
 unfold pP
 rw[DV]
 exact ⟨p,_,rfl,SqT.of h,g9 x⟩
theorem kA{K:Frag}{H:Hp}{gs:List (List Int)}{ys:List V}(h:Paired (fun x y=>∃ p,y=.ref p∧H p=some (.tup (x.map V.int))) gs ys):DVs K H (gs.map pP) ys:=by
 induction h with
 | nil=>simp[DVs]
 | cons r _ ih =>
  obtain ⟨p,rfl,hp⟩:=r
  rw[map_cons,DVs]
  exact ⟨_,_,rfl,qe hp,ih⟩
section
variable {P:Program}{w:World}{K:Frag}{mg:Str→Option Value}{base:Heap}{a:Ad}
theorem sT(T:Txt K mg a)(hB:Bm mg base):FnOk P w K mg base CX0 10 a.f_G a.d_G ["_law_many","_law_sides"] (spWide a):=by
 have G_I:FnOk P w K mg base (CXG P w) 9 _ _ _ (gF a K):=(iq T hB).mono (by decide)
 have G_i:FnOk P w K mg base (CXG P w) 9 _ _ _ (qO a K):=jf T hB
 have G_h:FnOk P w K mg base CX0 9 _ _ _ _:=(ni T hB).mono (by decide)
 have G_f:FnOk P w K mg base CX0 8 _ _ _ _:=(qo T).mono (by decide)
 refine T.F_G.ok sc_G (fun vs H Q E h=>?_) (fun cdv A outer s H vs Q E hr h=>?_)
 ·obtain ⟨n,s,rfl,_⟩:=h; rfl
 ·obtain ⟨n,sd,rfl,n0,n1,s0,s9,hT,q⟩:=h
  have small:sizeLine=16777216:=sizeLine_eq
  refine ⟨_,(ah (ax (i:=2) sc_G.nd rfl (Or.inl rfl) (jT T.mk_f G_f hr rfl T.mc_f T.Bi_f .nil aA (aa (bJ rfl (N:=["_law_k","_law_sides"]) (ix:=[none,some 1]) ⟨rfl,rfl,rfl,rfl,⟨rfl,rfl,rfl,trivial⟩⟩ (b9 rfl T.z_range (aa (vr 0) af)) ⟨fun C s H fp=>ar (i:=0) (show List.Nodup (["_law_k","_law_sides"]:List Str) by decide +kernel) rfl (Or.inl rfl),fun C s H fp=>bz,fun C s H fp=>(bO (aa (aB dD ai (aB dM (vr 0) (vr 1))) (aa (aq G_h hr rfl T.m_h T.F_h.kp T.B_h .nil aA (aa (cI (aa (aB dM (vr 0) ai) af)) af)) af)))⟩) af))) (ah (ax (i:=3) sc_G.nd rfl (Or.inl rfl) (cI af)) (ah (b7 PassesOwn.never rfl (b9 rfl T.z_range (aa ai af)) (ar (i:=4) sc_G.nd rfl (Or.inl rfl)) (ah (ax (i:=5) sc_G.nd rfl (Or.inl rfl) hV) (ah (uc ⟨rfl,rfl⟩ (lB (wa (cJ oK (vr 4) ai (bM _)) (lB (sG (i:=3) sc_G.nd rfl rfl (ng G_I hr rfl T.m_I T.F_I.kp T.B_I .nil (aa (vr 2) af)))) (lB (pR (ng G_i hr rfl T.m_i T.F_i.kp T.B_i .nil (aa (vr 2) (aa (cI (aa ai af)) af))))))) (nz ⟨rfl,rfl⟩ rfl T.mc_k T.xh_k (fun x=>(ao (ax (i:=5) sc_G.nd rfl (Or.inl rfl) hV))) (nz ⟨rfl,rfl⟩ rfl T.mc_n T.xh_n (fun x=>(ao (ax (i:=5) sc_G.nd rfl (Or.inl rfl) hV))) vS))) (ao (db (cJ wA (vr 5) (bN bv (cI (aa hV (aa hV af))) (b8 ph rfl T.z_int rJ (aa (gL ut (vr 0) ai (bM _)) af)) (fun _ _=>rfl)) (bM _)) (ao (aC fu)) bU))))) (ao (aC (xU (gL ut (vr 0) ai (bM _)) (pX (gL (uM hr.units) (bJ rfl (N:=["_law_row"]) (ix:=[none]) ⟨rfl,rfl,rfl,rfl,trivial⟩ (aY (vr 3)) ⟨fun C s H fp=>ar (i:=0) (show List.Nodup (["_law_row"]:List Str) by decide +kernel) rfl (Or.inl rfl),fun C s H fp=>bz,fun C s H fp=>(bN (fH (K:=K) rfl) (vr 0) ai (fun _ _=>rfl))⟩) (bJ rfl (N:=["_law_k"]) (ix:=[none]) ⟨rfl,rfl,rfl,rfl,trivial⟩ (b9 rfl T.z_range (aa ai af)) ⟨fun C s H fp=>ar (i:=0) (show List.Nodup (["_law_k"]:List Str) by decide +kernel) rfl (Or.inl rfl),fun C s H fp=>bz,fun C s H fp=>(bO (aa (vr 0) af))⟩) (bM _))))))))),mR ?_⟩
  intro zt4 zt3 zt2
  refine ⟨(n:Int),rfl,by lia,by lia,fun D hD=>?_⟩
  have ext:∀{H':Hp},TabsOk (tabs a) H'→∀{ys:List V}{ys':List V},H' D=some (.lst ys)→TabsOk (tabs a) (upd H' D (.lst ys')):=fun hT' ys ys' e=>hT'.put (fun ps z=>by rw[e]at z; cases z) fun φ z=>by rw[e]at z; cases z
  have pl:=Tb.wd_len n sd
  let Pw1:PvL:=fun i ys H'=>SameT H H'∧TabsOk (tabs a) H'∧H' D=some (.lst ys)∧i≤n∧Paired (NodeR (untr H' D) (untr H' D) 0) ((Tb.wdP n sd).take i) ys
  refine eC (lo:=0) (n:=(n:Int).toNat) Pw1 ⟨(Same.new hD).t,hT.same (Same.new hD),ad,Nat.zero_le _,.nil⟩ (fun i ys H' h=>h.2.2.1) ?_ ?_
  ·rintro i ys H' P' hi ⟨t1,hT1,hD1,hi',hc⟩ hP'
   have ilt:i<n:=by lia
   have hpt:(Tb.wdP n sd)[i]? = some (1+((i:Nat):Int) % sd,.leaf [((i:Nat):Int) % 100]):=by
    unfold Tb.wdP; rw[List.getElem?_map,List.getElem?_range ilt]; rfl
   have e0:(0:Int)+(i:Int)=(i:Int):=Int.zero_add _
   have m0:=Int.emod_nonneg ((i:Nat):Int) (show sd≠0 by lia)
   have m1:=Int.emod_lt_of_pos ((i:Nat):Int) (show 0<sd by lia)
   have yl:ys.length≤5000:=by rw[← hc.length,length_take]; lia
   rw[e0]
   refine ⟨⟨rfl,trivial⟩,cp (by lia),cp,by show 1≤sizeLine; decide,fun lk flk=>?_⟩
   have u2:=Same.new (o:=.lst [.int (((i:Nat):Int) % 100)]) flk
   have hlk:=ad (H:=H') (a:=lk) (o:=.lst [.int (((i:Nat):Int) % 100)])
   generalize upd H' lk (.lst [.int (((i:Nat):Int) % 100)])=H1 at u2 hlk
   have nlk:lk≠D:=fun z=>by rw[z,hD1]at flk; cases flk
   refine ⟨.ref lk,rfl,hT1.same u2,fun H2 f t2 hT2 hf=>?_⟩
   have hD2:=t2.at (u2 _ _ hD1)
   have hlk2:=t2.at hlk
   refine ⟨by show 2≤sizeLine; decide,fun q2 hq2=>?_⟩
   have nq:q2≠D:=fun z=>by rw[z,hD2]at hq2; cases hq2
   have s3:=Same.new (o:=.tup [.int (1+((i:Nat):Int) % sd),f]) hq2
   have hD3:=s3 _ _ hD2
   have t13:=((t1.trans u2.t).trans t2).trans s3.t
   have c3:SameT (untr H2 D) (untr (upd (upd H2 q2 (.tup [.int (1+((i:Nat):Int) % sd),f])) D (.lst (ys++[.ref q2]))) D):=(cL s3.t).trans dc
   refine ⟨hD3,by lia,hP' _ _ ⟨t13.put hD,ext (hT2.same s3) hD3,ad,ilt,aX (ak (NodeR.t2 ?_) hc) hpt ⟨q2,f,.ref lk,rfl,?_,?_,by show 1≤1+((i:Nat):Int) % sd; lia,by show 1+((i:Nat):Int) % sd≤_; lia,?_⟩⟩⟩
   ·exact ((cL (u2.t.trans t2)).trans (cL s3.t)).trans dc
   ·rw[av nq,ag nq]; exact ad
   ·have hf':IsLam (untr H2 D) bP fvT f [.ref lk]:=by
     obtain ⟨f',c,clos,g1,g2,g3,g4,g5,g6⟩:=hf
     have ne:∀ b φ,H2 b=some (.ext φ)→b≠D:=fun b φ e z=>by rw[z,hD2]at e; cases e
     refine ⟨f',c,clos,g1,by rw[av (ne _ _ g2)]; exact g2,by rw[av (ne _ _ g3)]; exact g3,g4,g5,?_⟩
     revert g6
     clear g2 g3 g4 g5
     generalize [V.ref lk]=ws
     intro g6
     induction g6 with
     | nil=>exact .nil
     | cons r _ ih=>exact .cons (by rw[av (ne _ _ r)]; exact r) ih
    exact hf'.t c3
   ·exact (aS 0).mpr ⟨lk,rfl,c3.at (by rw[av nlk]; exact hlk2),by simp,by simp⟩
  rintro ys H1 ⟨t1,hT1,hD1,hi,hc⟩
  have en:(n:Int).toNat=n:=by lia
  rw[en,take_of_length_le (by lia)]at hc
  intro x dx hx hdx hne
  have s9':Same H1 (upd (upd H1 dx (.own x)) x (.ins a.c_f dx [])):=fun b o e=>by rw[ag (au e hx),ag (au e hdx)]; exact e
  refine ⟨x,dx,D,ys,rfl,ad,s9' _ _ hD1,fun H2 l fl k g1 g2=>⟨rfl,?_⟩⟩
  have s2:=made hx hdx k
  have t2:=t1.trans s2.t
  have hT2:=hT1.same s2
  generalize hH0:sqH (untr H1 D)=H0
  have hsq:SqH H0:=by rw[← hH0]; exact q5
  have s02:SameT H0 H2:=by
   rw[← hH0]
   intro b o e
   have e1:=(iG e).1
   have nb:b≠D:=fun z=>by rw[z,aQ]at e1; cases e1
   rw[av nb]at e1
   exact ⟨fun _=>s2 _ _ e1,o,s2 _ _ e1⟩
  have hnode:IsNode a H0 H2 1 (.ref x) (.die (Tb.wdP n sd)):=by
   refine ⟨0,rfl,x,dx,l,ys,rfl,g1,g2,?_,by lia,by lia⟩
   refine ak (fun pt y h=>?_) hc
   obtain ⟨q,f,w,h1,h2,h3,h4,h5,h6⟩:=h
   exact ⟨q,f,w,h1,s2.t.at (cut_sub.at h2),(h3.t cut_sub).t s2.t,h4,h5,by rw[← hH0]; exact IsTree.m (fun b o c e=>rS c e) _ _ _ h6⟩
  have hok:=Tb.wd_ok (n:=n) (s:=sd) (by lia) s0 s9
  have hdn:=Tb.wd_dn (n:=n) (s:=sd) (by lia) s0 s9
  have hlv:=Tb.wd_lv n sd
  have hkeys:=fun (hn:100≤n) R (h:Tb.IsTab (Tb.toR (Tb.kW (Tb.wl (.die (Tb.wdP n sd)) 1 1))) R)=>Tb.wd_keys hn h
  generalize htr:Tr.die (Tb.wdP n sd)=tr at hnode hok hdn hlv hkeys
  refine ⟨Nat.zero_le _,fun lf flf=>?_⟩
  have u3:=Same.new (o:=.lst []) flf
  have t3:=t2.trans u3.t
  have hT3:=hT2.same u3
  have s03:=s02.trans u3.t
  have hn3:=hnode.t u3.t
  generalize upd H2 lf (.lst [])=H3 at u3 t3 hT3 s03 hn3
  refine ⟨2,rfl,by lia,by lia,?_⟩
  let Pw2:PvS:=fun i σ H'=>∃(x3:V) (x4 x5:Option V),SameT H3 H'∧TabsOk (tabs a) H'∧(1≤i→n≤4096→∃ l R zs,x3=.ref l∧H' l=some (.lst zs)∧Paired (RowR K H') R zs∧Tb.IsTab (Tb.toR (Tb.kW (Tb.wl tr 1 1))) R)∧σ=[some (.int (n:Nat)),some (.int sd),some (.ref x),some x3,x4,x5]
  refine dP (lo:=0) (n:=2) Pw2 ⟨.ref lf,none,none,SameT.refl,hT3,(fun h=>absurd h (by lia)),rfl⟩ ?_ ?_
  ·rintro i σ H' hi ⟨x3,x4,x5,t4,hT4,hfd,rfl⟩
   have hn4:=hn3.t t4
   have s04:=s03.trans t4
   refine ifC (fun c=>?_) (fun c=>?_)
   ·refine ⟨.ref x,H0,1,tr,rfl,hn4,by decide,hok,hdn,hsq,s04,hT4,fun h H5 l R zs t5 hT5 fl hl hR htab _=>?_,fun h H5 t5 hT5=>?_⟩
    ·rw[hlv]at h
     refine ⟨by show 2≤sizeLine; decide,fun p fp=>?_⟩
     have s6:=Same.new (o:=.lst [.str "told",.str "many"]) fp
     refine .inr ⟨_,rfl,.inl ⟨p,_,_,.str "told",rfl,rfl,SqL.of ad,?_,?_⟩⟩
     ·rw[if_neg (by simp; lia)]; exact cN (j:=0) rfl
     exact ⟨.ref l,_,_,(t4.trans t5).trans s6.t,hT5.same s6,fun _ _=>⟨l,R,zs,rfl,s6 _ _ hl,ak (RowR.tk s6.tk) hR,htab⟩,rfl⟩
    ·rw[hlv]at h
     refine ⟨_,rfl,fun xx hxx=>.inl ⟨beq_iff_eq.mp T.tm,?_⟩⟩
     have sx:Same H5 (upd H5 xx (.ext (XCt xx a.c_k none))):=Same.new hxx
     refine ⟨by show 2≤sizeLine; decide,fun p fp=>?_⟩
     have s6:=Same.new (o:=.lst [.str "told",.str "many"]) fp
     refine .inr ⟨_,rfl,.inl ⟨p,_,_,.str "many",rfl,rfl,SqL.of ad,?_,?_⟩⟩
     ·rw[if_pos (by simp; lia)]; exact cN (j:=1) rfl
     exact ⟨x3,_,_,(t4.trans t5).trans (sx.trans s6).t,hT5.same (sx.trans s6),fun _ z=>absurd z (by lia),rfl⟩
   ·have i1:1≤i:=by
     rcases Nat.eq_zero_or_pos i with z | z
     ·exact absurd (show (0:Int)+((i:Nat):Int)=0 by rw[z]; rfl) c
     ·exact z
    refine ⟨by show 1≤sizeLine; decide,fun lp flp=>?_⟩
    have u5:=Same.new (o:=.lst [.int 1]) flp
    have hlp:=ad (H:=H') (a:=lp) (o:=.lst [.int 1])
    generalize upd H' lp (.lst [.int 1])=H4 at u5 hlp
    have t45:=t4.trans u5.t
    refine ⟨.ref x,H0,1,tr,lp,[1],rfl,hn4.t u5.t,by decide,hok,hdn,hsq,s04.trans u5.t,hT4.same u5,hlp,by simp,fun h H5 l R zs t5 hT5 fl hl _ _ _ _=>?_,fun h H5 t5 hT5=>?_⟩
    ·rw[hlv]at h
     refine ⟨by show 2≤sizeLine; decide,fun p fp=>?_⟩
     have s6:=Same.new (o:=.lst [.str "told",.str "many"]) fp
     refine .inr ⟨_,rfl,.inl ⟨p,_,_,.str "told",rfl,rfl,SqL.of ad,?_,?_⟩⟩
     ·rw[if_neg (by simp; lia)]; exact cN (j:=0) rfl
     refine ⟨x3,_,_,(t45.trans t5).trans s6.t,hT5.same s6,fun _ z=>?_,rfl⟩
     obtain ⟨l9,R9,zs9,e9,h9,p9,tb9⟩:=hfd i1 z
     have tt:=(u5.t.trans t5).trans s6.t
     exact ⟨l9,R9,zs9,e9,tt.at h9,ak (RowR.tk (fun b us e=>tt.at e)) p9,tb9⟩
    ·rw[hlv]at h
     refine ⟨_,rfl,fun xx hxx=>.inl ⟨beq_iff_eq.mp T.tm,?_⟩⟩
     have sx:Same H5 (upd H5 xx (.ext (XCt xx a.c_k none))):=Same.new hxx
     refine ⟨by show 2≤sizeLine; decide,fun p fp=>?_⟩
     have s6:=Same.new (o:=.lst [.str "told",.str "many"]) fp
     refine .inr ⟨_,rfl,.inl ⟨p,_,_,.str "many",rfl,rfl,SqL.of ad,?_,?_⟩⟩
     ·rw[if_pos (by simp; lia)]; exact cN (j:=1) rfl
     exact ⟨x3,_,_,(t45.trans t5).trans (sx.trans s6).t,hT5.same (sx.trans s6),fun _ z=>absurd z (by lia),rfl⟩
  ·rintro σ H' ⟨x3,x4,x5,t4,hT4,hfd,rfl⟩
   have t04:=t3.trans t4
   refine ifC (fun c=>?_) (fun c=>?_)
   ·exact q _ t04
   have c:¬(4096:Int)<(n:Int):=c
   obtain ⟨l,R,zs,rfl,hl,hR,htab⟩:=hfd (by lia) (by lia)
   have hk:=hkeys (by lia) R htab
   have zl:zs.length=100:=by rw[← hR.length,← length_map (f:=fun x:List Int×Rat=>x.1),hk,length_map,length_range]
   refine .inl ⟨⟨_,SqL.of hl⟩,fun D2 hD2=>?_⟩
   let Pw3:PvL:=fun i ws H5=>i≤zs.length∧Same H' H5∧H5 D2=some (.lst ws)∧Paired (fun x y=>∃ p,y=.ref p∧H' p=some (.tup (x.map V.int))) ((R.map (·.1)).take i) ws
   refine bK (K:=K) (a:=l) (xs:=zs) Pw3 ⟨Nat.zero_le _,Same.new hD2,ad,.nil⟩ (fun i ys H5 h=>SqL.of (h.2.1 _ _ hl)) (fun i ys H5 h=>h.2.2.1) ?_ ?_
   ·rintro i y ws H5 P' hy ⟨hi,s5,hD5,hc5⟩ hP'
    obtain ⟨r,hr9,p,kt,z,rfl,hp,hkt,hz⟩:=aw hR hy
    have ilt:i<zs.length:=(List.getElem?_eq_some_iff.mp hy).1
    refine ⟨trivial,px0 (SqT.of (s5 _ _ hp)) ⟨hD5,by rw[← hc5.length,length_take]; lia,hP' _ _ ⟨ilt,s5.put hD2,ad,?_⟩⟩⟩
    exact aX hc5 (by rw[List.getElem?_map,hr9]; rfl) ⟨kt,rfl,hkt⟩
   rintro ws H5 ⟨_,s5,hD5,hc5⟩
   rw[show zs.length=(R.map (·.1)).length by rw[length_map,hR.length],take_length,hk]at hc5
   refine ⟨100,rfl,by lia,by lia,fun D3 hD3=>?_⟩
   let Pw4:PvL:=fun i vs H6=>i≤100∧Same H5 H6∧H6 D3=some (.lst vs)∧Paired (fun x y=>∃ p,y=.ref p∧H6 p=some (.tup (x.map V.int))) (((List.range 100).map fun k=>[((k:Nat):Int)]).take i) vs
   refine eC (lo:=0) (n:=100) Pw4 ⟨Nat.zero_le _,Same.new hD3,ad,.nil⟩ (fun i ys H6 h=>h.2.2.1) ?_ ?_
   ·rintro i vs H6 P' hi ⟨hi',s6,hD6,hc6⟩ hP'
    refine ⟨trivial,by show 1≤sizeLine; decide,fun p fp=>?_⟩
    have s7:=Same.new (o:=.tup [.int (0+((i:Nat):Int))]) fp
    have hD7:=s7 _ _ hD6
    have tk7:TK (upd H6 p (.tup [.int (0+((i:Nat):Int))])) (upd (upd H6 p (.tup [.int (0+((i:Nat):Int))])) D3 (.lst (vs++[.ref p]))):=fun b us e=>by rw[ag (ce e hD7 (fun z=>nomatch z))]; exact e
    refine ⟨hD7,by rw[← hc6.length,length_take]; lia,hP' _ _ ⟨hi,(s6.trans s7).put hD3,ad,?_⟩⟩
    refine aX (ak (fun x y ⟨p,e,h⟩=>⟨p,e,tk7 _ _ (s7 _ _ h)⟩) hc6) (by rw[List.getElem?_map,List.getElem?_range hi]; rfl) ⟨p,rfl,?_⟩
    rw[tk7 _ _ ad,Int.zero_add]
    rfl
   rintro vs H6 ⟨_,s6,hD6,hc6⟩
   rw[take_of_length_le (by rw[length_map,length_range]; lia)]at hc6
   refine ⟨.list (((List.range 100).map fun k=>[((k:Nat):Int)]).map pP),.list (((List.range 100).map fun k=>[((k:Nat):Int)]).map pP),?_,?_,by decide +kernel,by decide +kernel,?_⟩
   ·rw[DV]; exact ⟨D2,_,rfl,SqL.of (s6 _ _ hD5),kA (ak (fun x y ⟨p,e,h⟩=>⟨p,e,(s5.trans s6) _ _ h⟩) hc5)⟩
   ·rw[DV]; exact ⟨D3,_,rfl,SqL.of hD6,kA hc6⟩
   rw[SeqAt.eqv_refl _ (SeqAt.canLay_of_shaped (by decide +kernel))]
   exact q _ (t04.trans (s5.trans s6).t)
end
open Tb (Tr Ent Way Rws Ch Lm2 Grp)
theorem qG{a:Ad}{ts:List Addr}{H:Hp}(hts:∀ q∈tabs a,q.1∈ts)(h:∀ P∈ts,H P=some (.tbl #[])):TabsOk (tabs a) H:=fun q hq=>⟨#[],h _ (hts q hq),trivial,fun _ _=>.inl rfl⟩
theorem xn{K:Frag}{H H':Hp}{p:Addr}{xs:List V}(e:SameT H H')(h:SqL K H p xs):SqL K H' p xs:=by
 rcases h with (h | ⟨o,h⟩) | h
 ·exact .inl (.inl (e.at h))
 ·exact .inl (.inr ⟨o,e.at h⟩)
 ·exact .inr h
theorem kU{i:Nat}{v:V}{σ σ':St}{H:Hp}{Q:St→Hp→Prop}(e:σ.set i (some v)=σ')(h:Q σ' H):ke i v σ H Q:=by
 subst e; exact h
theorem jS{K:Frag}{H:Hp}{p:Addr}{t b:Int}(h:SqT K H p [.int t,.int b]):DV K H (.tuple [.int t,.int b]) (.ref p):=by
 rw[DV]
 refine ⟨p,_,rfl,h,?_⟩
 rw[DVs]
 refine ⟨_,_,rfl,by simp[DV],?_⟩
 rw[DVs]
 exact ⟨_,_,rfl,by simp[DV],by simp[DVs]⟩
theorem nX{H:Hp}:∀{d:Nat}{v:V}{t:Tr},IsTree H d v t→Tb.Dp d t
 | d,v,.leaf ns,h=>by
  obtain ⟨p,_,_,h3,h4⟩:=(aS d).mp h
  rw[Tb.Dp]; exact ⟨h4,h3⟩
 | 0,v,.die ps,h=>False.elim h
 | d+1,v,.die ps,h=>by
  obtain ⟨p,vs,-,-,hP,h4,h5⟩:=h
  rw[Tb.Dp]
  refine ⟨h4,h5,Tb.dps_of ?_⟩
  clear h4 h5
  induction hP with
  | nil=>intro p hp; cases hp
  | cons r _ ih =>
   intro p hp
   rcases mem_cons.mp hp with rfl | hp
   ·obtain ⟨_,_,_,_,m1,m2,hu⟩:=r
    exact ⟨m1,m2,nX hu⟩
   ·exact ih p hp
def frD(q:Rat):PyData:=.tuple [.int q.num,.int q.den]
def tq(x:List Int×Rat):PyData:=.tuple [pP x.1,frD x.2]
theorem jc{K:Frag}{H:Hp}{q:Rat}{z:V}(h:IsQ K H q z):DV K H (frD q) z:=by
 obtain ⟨p,rfl,hp⟩:=h
 exact jS hp.sq
theorem qK{K:Frag}{H:Hp}{x:List Int×Rat}{y:V}(h:RowR K H x y):DV K H (tq x) y:=by
 obtain ⟨p,kt,z,rfl,hp,hkt,hz⟩:=h
 unfold tq
 rw[DV]
 refine ⟨p,_,rfl,SqT.of hp,?_⟩
 rw[DVs]
 refine ⟨_,_,rfl,qe hkt,?_⟩
 rw[DVs]
 exact ⟨_,_,rfl,jc hz,by simp[DVs]⟩
theorem fK{K:Frag}{H:Hp}{α:Type}{r:α→V→Prop}{f:α→PyData}(h:∀ a y,r a y→DV K H (f a) y){as:List α}{ys:List V}(p:Paired r as ys):DVs K H (as.map f) ys:=by
 induction p with
 | nil=>simp[DVs]
 | cons x _ ih=>rw[map_cons,DVs]; exact ⟨_,_,rfl,h _ _ x,ih⟩
theorem dQ{K:Frag}{H:Hp}{l:Addr}{ds:List PyData}{ys:List V}(h:H l=some (.lst ys))(d:DVs K H ds ys):DV K H (.list ds) (.ref l):=by
 rw[DV]; exact ⟨l,_,rfl,SqL.of h,d⟩
def Ly(n:Nat)(d:PyData):Prop:=PyData.canLay0 d=true∧PyData.depth d≤n
theorem mI{n:Nat}:∀{ds:List PyData},(∀ d∈ds,Ly n d)→PyData.canLayAll0 ds=true∧PyData.depthAll ds≤n
 | [],_=>by simp[PyData.canLayAll0,PyData.depthAll]
 | d::ds,h=>by
  obtain ⟨h1,h2⟩:=mI fun x hx=>h x (mem_cons_of_mem _ hx)
  obtain ⟨h3,h4⟩:=h d mem_cons_self
  rw[PyData.canLayAll0,PyData.depthAll,h1,h3]
  exact ⟨rfl,by lia⟩
theorem lY{n:Nat}{ds:List PyData}(h:∀ d∈ds,Ly n d):Ly (n+1) (.tuple ds):=by
 obtain ⟨k1,k2⟩:=mI h
 refine ⟨by rw[PyData.canLay0,k1],?_⟩
 simp only[PyData.depth]
 lia
theorem gK{n:Nat}{ds:List PyData}(h:∀ d∈ds,Ly n d):Ly (n+1) (.list ds):=by
 obtain ⟨k1,k2⟩:=mI h
 refine ⟨by rw[PyData.canLay0,k1],?_⟩
 simp only[PyData.depth]
 lia
theorem lZ(i:Int):Ly 1 (.int i):=⟨by simp[PyData.canLay0],by simp[PyData.depth]⟩
theorem di{n:Nat}{d:PyData}(h:Ly n d)(hn:n≤5):SeqAt.shaped d=true:=by
 unfold SeqAt.shaped
 rw[h.1,Bool.true_and]
 exact decide_eq_true (by have:=h.2; lia)
theorem nK(x:List Int):∀ d∈x.map PyData.int,Ly 1 d:=fun d hd=>by
 obtain ⟨i,_,rfl⟩:=mem_map.mp hd; exact lZ i
theorem nG(q:Rat):Ly 2 (frD q):=lY (n:=1) fun d hd=>by
 rcases mem_cons.mp hd with rfl | hd
 ·exact lZ _
 ·rw[mem_singleton.mp hd]; exact lZ _
theorem vI(x:List Int×Rat):Ly 3 (tq x):=lY (n:=2) fun d hd=>by
 rcases mem_cons.mp hd with rfl | hd
 ·exact lY (nK x.1)
 ·rw[mem_singleton.mp hd]; exact nG _
def uV(R:Rws):PyData:=.list (R.map tq)
theorem uB(R:Rws):Ly 4 (uV R):=gK fun d hd=>by
 obtain ⟨x,_,rfl⟩:=mem_map.mp hd; exact vI x
def mrD(M:Int→Int→Rat)(ps:List Int)(i:Int):PyData:=.list (ps.map fun j=>frD (M i j))
def mtD(M:Int→Int→Rat)(ps:List Int):PyData:=.list (ps.map (mrD M ps))
theorem uR(M:Int→Int→Rat)(ps:List Int)(i:Int):Ly 3 (mrD M ps i):=gK fun d hd=>by
 obtain ⟨x,_,rfl⟩:=mem_map.mp hd; exact nG _
theorem wZ(M:Int→Int→Rat)(ps:List Int):Ly 4 (mtD M ps):=gK fun d hd=>by
 obtain ⟨x,_,rfl⟩:=mem_map.mp hd; exact uR M ps x
theorem gD{K:Frag}{H:Hp}{x y:V}{d:PyData}{n:Nat}{Q:VK}(h1:DV K H d x)(h2:DV K H d y)(h:Ly n d)(hn:n≤5)(q:Q (.bl false) H):rEqD K true x y H Q:=by
 refine ⟨d,d,h1,h2,di h hn,di h hn,?_⟩
 rw[SeqAt.eqv_refl _ (SeqAt.canLay_of_shaped (di h hn))]
 exact q
theorem oj{K:Frag}{H:Hp}{x y:V}{d:PyData}{n:Nat}{Q:VK}(h1:DV K H d x)(h2:DV K H d y)(h:Ly n d)(hn:n≤5)(q:Q (.bl true) H):rEqD K false x y H Q:=by
 refine ⟨d,d,h1,h2,di h hn,di h hn,?_⟩
 rw[SeqAt.eqv_refl _ (SeqAt.canLay_of_shaped (di h hn))]
 exact q
theorem sP{K:Frag}{H H':Hp}{M:Int→Int→Rat}{ps:List Int}{i:Int}{y:V}(h:kF K H H' M ps i y):DV K H' (mrD M ps i) y:=by
 obtain ⟨D,zs,rfl,_,hD,hp⟩:=h
 exact dQ hD (fK (fun j z hz=>jc hz) hp)
theorem qH{K:Frag}{H H':Hp}{M:Int→Int→Rat}{ps:List Int}{l:Addr}{ys:List V}(h:H' l=some (.lst ys))(p:Paired (kF K H H' M ps) ps ys):DV K H' (mtD M ps) (.ref l):=dQ h (fK (fun i y hy=>sP hy) p)
theorem om{K:Frag}{H:Hp}{l:Addr}{ns:List Int}(h:H l=some (.lst (ns.map V.int))):DV K H (.list (ns.map PyData.int)) (.ref l):=dQ h (g9 ns)
theorem qa{K:Frag}{H H':Hp}{W:Rws}{kvs:List (List Key×V)}{o:List Nat}{f k:Nat→Addr}(hW:WR K H (Tb.adds W) kvs)(sm:Same H H')(op:o.Perm (List.range ((Tb.adds W).map (·.1)).length))(os:o.Pairwise fun i j=>aG (((Tb.adds W).map (·.1)).getD j []) (((Tb.adds W).map (·.1)).getD i [])=false)
  (at':∀(i:Nat) (kv:List Key×V),kvs[i]? = some kv→H' (f i)=some (.tup [.ref (k i),kv.2])∧Row H (k i) (((Tb.adds W).map (·.1)).getD i [])∧H (f i)=none) :
  ∃ R,Tb.IsTab W R∧Paired (RowR K H') R (o.map fun i=>V.ref (f i)):=by
 rw[length_map]at op
 obtain ⟨rp,rs⟩:=Tb.tab_of (Tb.adds_nd W) op os
 refine ⟨_,⟨rp,rs⟩,?_⟩
 have mem:∀ i∈o,i<(Tb.adds W).length:=fun i hi=>mem_range.mp (op.mem_iff.mp hi)
 clear op os rp rs
 induction o with
 | nil=>exact .nil
 | cons i o ih =>
  rw[map_cons,map_cons]
  refine .cons ?_ (ih fun j hj=>mem j (mem_cons_of_mem _ hj))
  have il:=mem i mem_cons_self
  obtain ⟨kv,hkv⟩:∃ kv,kvs[i]? = some kv:=⟨_,List.getElem?_eq_getElem (by rw[← hW.length]; exact il)⟩
  obtain ⟨x,hx,e1,e2⟩:=aw hW hkv
  obtain ⟨h1,h2,_⟩:=at' i kv hkv
  have ex:(Tb.adds W).getD i ([],0)=x:=by rw[List.getD,hx]; rfl
  have ek:((Tb.adds W).map (·.1)).getD i []=x.1:=by rw[List.getD,List.getElem?_map,hx]; rfl
  rw[ek]at h2
  rw[ex]
  exact ⟨f i,k i,kv.2,rfl,h1,sm _ _ h2,e2.same sm⟩
abbrev lawK:Nat:=12
section
variable {P:Program}{w:World}{K:Frag}{mg:Str→Option Value}{base:Heap}{a:Ad}
theorem uP{k:Nat}{f:Addr}{fd:FuncData}{ps:List Str}{sp:Sp}(F:FnOk P w K mg base (CXG P w) k f fd ps sp):FnOk P w K mg base CX0 k f fd ps (fun vs H Q _=>sp vs H Q fun _ _ _=>False) :=
 ⟨fun vs H Q E h=>F.len vs H Q _ h,fun A outer s H args us vs Q E hr e0 hb hv hs=>codeAny_mono (F.run A outer s H args us vs Q _ hr e0 hb hv hs) fun r s' hq=>by
  cases r with
  | error e=>obtain ⟨_,_,_,_,_,_,_,z⟩:=hq; exact z
  | ok fl=>cases fl <;> exact hq⟩
end
end My
namespace L2
open PySem PySem.Spec PyProof.Rows PySem.W
section
variable {X:Cx}{o e:Expr}{to:TE}{apos cpos:Pos}
theorem pe_m.itemsR(ho:PE X o to)(hbase:attributeBase o "items" X.env (eval o X.env)=eval o X.env:=by rfl)(hline:(apos.endLine == cpos.line)=true:=by rfl) :
  PE X (.Call (.Attribute o "items" apos) [] [] cpos) (fun σ H Q=>to σ H fun x H1=>oy x [] H1 Q):=by
 intro pins s σ H Q I h
 refine wpAny_Call_method0_late hbase hline (thn (ho pins s σ H _ I h) fun v s1 ⟨x,H1,I1,r1,q1⟩=>?_)
 obtain ⟨d,kvs,rfl,hv,hd,q⟩:=id q1
 obtain ⟨ob,e1,ex⟩:∃ ob,s1.heap.get? d=some ob∧ob.ExactDict:=by
  obtain ⟨_,_,_,_,o,_,_,e,ex,_⟩:=(show ObjOk X.prog X.w H1 s1.heap d (.dT kvs) from hd.ok I1.hok)
  exact ⟨o,e,ex⟩
 cases (show v=Value.ref d from r1)
 exact ⟨"dict","dict.items",F.plainAttrs_dict,F.slot_dict_items,F.type_dict_items,⟨ob,e1,ex.1⟩,fun a e2=>by cases e2; exact ⟨ob,e1,ex.2.1⟩,Calls.callWith_builtin rfl (PySem.evalArgs_none (pE pins s1 σ H1 _ [] _ [] Q I1 r1 .nil q1))⟩
end
end L2
namespace My
open PySem L2 FrM Du LexM
open Tb (Tr Ent Way Rws Ch Lm2 Grp)
section
variable {P:Program}{w:World}{K:Frag}{mg:Str→Option Value}{base:Heap}{a:Ad}
theorem ok_law{ts:List Addr}(T:Txt K mg a)(hB:Bm mg base)(hts:∀ q∈tabs a,q.1∈ts):FnOk P w K mg base CX0 lawK a.f_Q a.d_Q ["_law_script"] (spLaw K ts):=by
 have G_K:FnOk P w K mg base CX0 11 _ _ _ _:=(uw T).mono (by decide)
 have G_t:FnOk P w K mg base CX0 11 _ _ _ _:=(pJ T).mono (by decide)
 have G_B:FnOk P w K mg base CX0 11 _ _ _ _:=(oq T 5).mono (by decide)
 have G_F:FnOk P w K mg base CX0 11 _ _ _ _:=(m5 T hB).mono (by decide)
 have G_z:FnOk P w K mg base CX0 11 _ _ _ _:=(m7 T 5).mono (by decide)
 have G_x:FnOk P w K mg base CX0 11 _ _ _ _:=(pI T).mono (by decide)
 have G_m:FnOk P w K mg base CX0 11 _ _ _ _:=(jv T).mono (by decide)
 have G_p:FnOk P w K mg base CX0 11 _ _ _ _:=(lL T).mono (by decide)
 have G_M:FnOk P w K mg base CX0 11 _ _ _ _:=(lF T).mono (by decide)
 have G_G:FnOk P w K mg base CX0 11 _ _ _ _:=(sT T hB).mono (by decide)
 have G_I:FnOk P w K mg base CX0 11 _ _ _ _:=(uP (iq T hB)).mono (by decide)
 have G_i:FnOk P w K mg base CX0 11 _ _ _ _:=(uP (jf T hB)).mono (by decide)
 refine T.F_Q.ok sc_Q (fun vs H Q E h=>?_) (fun cdv A outer s H vs Q E hr h=>?_)
 ·obtain ⟨p,ns,rfl,_⟩:=h; rfl
 ·obtain ⟨p,ns,rfl,hS,hlen,hT0,q⟩:=h
  have small:sizeLine=16777216:=sizeLine_eq
  have hT:=qG hts hT0
  refine ⟨_,(ah (ax (i:=1) sc_Q.nd rfl (Or.inl rfl) (aq G_B hr rfl T.m_B T.F_B.kp T.B_B .nil aA (aa (aq G_t hr rfl T.m_t T.F_t.kp T.B_t .nil aA (aa (aq G_K hr rfl T.m_K T.F_K.kp T.B_K .nil aA (aa (vr 0) (aa ai af))) af)) (aa ai af)))) (ah (ax (i:=2) sc_Q.nd rfl (Or.inl rfl) (aI (iP rfl hr.units) rfl T.z_sorted eL (aa (pe_m.itemsR (aq G_z hr rfl T.m_z T.F_z.kp T.B_z .nil aA (aa (vr 1) (aa (bO (aa ai (aa ai af))) (aa hJ af))))) af))) (ah (ax (i:=3) sc_Q.nd rfl (Or.inl rfl) (aq G_F hr rfl T.m_F T.F_F.kp T.B_F .nil aA (aa (vr 1) af))) (ah (ax (i:=4) sc_Q.nd rfl (Or.inl rfl) (aq G_x hr rfl T.m_x T.F_x.kp T.B_x .nil aA (aa (vr 1) (aa (aq G_t hr rfl T.m_t T.F_t.kp T.B_t .nil aA (aa (aq G_K hr rfl T.m_K T.F_K.kp T.B_K .nil aA (aa (vr 0) (aa ai af))) af)) af)))) (ah (ax (i:=5) sc_Q.nd rfl (Or.inl rfl) (b8 cM rfl T.z_list dg (aa (vr 4) af))) (ah (b7 PassesOwn.never rfl (b9 rfl T.z_range (aa ai af)) (ar (i:=6) sc_Q.nd rfl (Or.inl rfl)) (ah (ax (i:=7) sc_Q.nd rfl (Or.inl rfl) (aq G_I hr rfl T.m_I T.F_I.kp T.B_I .nil aA (aa (vr 3) af))) (ah (db (PW.pt (gY (eu (eF (aI dO rfl T.z_isinstance bB (aa (vr 7) (aa (dX (v:=.ty "list") rfl T.z_list dg rfl) af))))) (gY (cJ (nk hr.units) (vr 7) (vr 2) (bM _)) (iF (eu (eF (aq G_m hr rfl T.m_m T.F_m.kp T.B_m .nil aA (aa (bJ rfl (N:=["_law_row"]) (ix:=[none]) ⟨rfl,rfl,rfl,rfl,trivial⟩ (aY (vr 7)) ⟨fun C s H fp=>ar (i:=0) (show List.Nodup (["_law_row"]:List Str) by decide +kernel) rfl (Or.inl rfl),fun C s H fp=>bz,fun C s H fp=>(bN (fH (K:=K) rfl) (vr 0) ai (fun _ _=>rfl))⟩) af)))))))) (ao (aC fu)) bU) (ah (cH (pe_m.clear (vr 7))) (ah (ax (i:=8) sc_Q.nd rfl (Or.inl rfl) (aq G_i hr rfl T.m_i T.F_i.kp T.B_i .nil aA (aa (vr 3) (aa (vr 5) af)))) (ah (db (PW.pt (gY (cJ (nk hr.units) (vr 8) (aq G_p hr rfl T.m_p T.F_p.kp T.B_p .nil aA (aa (vr 2) (aa (vr 4) af))) (bM _)) (iF (cJ (nk hr.units) (vr 5) (vr 4) (bM _))))) (ao (aC fu)) bU) (ah (b7 PassesOwn.never rfl (we rfl T.z_zip (aa (vr 8) (aa (aq G_p hr rfl T.m_p T.F_p.kp T.B_p .nil aA (aa (vr 2) (aa (vr 4) af))) af))) (eB rfl (aD (ar (i:=9) sc_Q.nd rfl (Or.inl rfl)) (aD (ar (i:=10) sc_Q.nd rfl (Or.inl rfl)) bV))) (ah (db (PW.pt (gY (eu (eF (aq G_m hr rfl T.m_m T.F_m.kp T.B_m .nil aA (aa (vr 9) af)))) (iF (cJ (nk hr.units) (vr 9) (vr 10) (bM _))))) (ao (aC fu)) bU) (ao (cH (pe_m.clear (vr 9)))))) (ao (cH (pe_m.clear (vr 8))))))))))) (ah (ax (i:=11) sc_Q.nd rfl (Or.inl rfl) (bO (aa ai (aa ai af)))) (ah (b7 PassesOwn.never rfl (aY (vr 2)) (eB rfl (aD (ar (i:=12) sc_Q.nd rfl (Or.inl rfl)) (aD (ar (i:=13) sc_Q.nd rfl (Or.inl rfl)) bV))) (ao (ax (i:=11) sc_Q.nd rfl (Or.inl rfl) (aq G_M hr rfl T.m_M T.F_M.kp T.B_M .nil aA (aa (vr 11) (aa (vr 13) af)))))) (ah (ax (i:=14) sc_Q.nd rfl (Or.inl rfl) (aq G_K hr rfl T.m_K T.F_K.kp T.B_K .nil aA (aa (vr 0) (aa ai af)))) (ah (db (PW.pt (lE (cJ oK (aB dM (vr 14) ai) ai (bM _)) (jK (eu (eF (aq G_G hr rfl T.m_G T.F_G.kp T.B_G .nil aA (aa (aB dD ai (aB dM (aB cK (vr 14) ai) ai)) (aa (aB dD ai (aB dM (aB cK (vr 14) ai) ai)) af)))))))) (ao (aC fu)) bU) (ao (aC (gL (uM hr.units) (vr 11) (bO (aa ai (aa ai af))) (bM _)))))))))))))),v4 ?_⟩
  intro zt11 zt10 zt9 zt8 zt7 zt6 zt5 zt4 zt3 zt2
  refine ⟨p,ns,0,rfl,hS,hlen,by decide,by decide,⟨_,rfl,fun st n0 fst=>?_⟩⟩
  have s1:=Same.new (o:=.lst [.int n0]) fst
  have e1:(upd H st (.lst [.int n0])) st=some (.lst [.int n0]):=ad
  generalize upd H st (.lst [.int n0])=Hs at s1 e1
  refine ⟨st,n0,4,rfl,by decide,by decide,e1,fun H2 v n2 t s2 e2 it=>?_⟩
  have s12:Same H H2:=fun b o e=>s2 _ _ (au e fst) (s1 _ _ e)
  have hT2:=hT.same s12
  obtain ⟨H0,hH0⟩:∃ H0,H0=sqH (nw Hs none H2):=⟨_,rfl⟩
  have hsq:SqH H0:=by rw[hH0]; exact q5
  have it0:IsTree H0 4 v t:=by rw[hH0]; exact IsTree.m (fun b o c e=>rS c e) _ _ _ it
  have s0:Same H0 H2:=fun b o e=>by
   rw[hH0]at e
   exact (gJ (iG e).1).2.2
  clear hH0 it
  have hdp:=nX it0
  have hok:=Tb.dp_ok _ _ hdp
  have hlv:=Tb.lv_256 (Nat.le_refl 4) hdp
  have hdn:=Tb.dn_lm (Nat.le_refl 4) hdp
  have Dp:=Tb.dn_pos t hok
  obtain ⟨gkt,skt⟩:=Tb.kt_gd hok
  refine kU (σ':=[some (.ref p),some v,none,none,none,none,none,none,none,none,none,none,none,none,none]) rfl ?_
  refine ⟨dl _ _,fun z1 fz1=>?_⟩
  have s3:=Same.new (o:=.tup [.int 1,.int 1]) fz1
  have hz1:=ad (H:=H2) (a:=z1) (o:=.tup [.int 1,.int 1])
  generalize upd H2 z1 (.tup [.int 1,.int 1])=H3 at s3 hz1
  intro df fdf
  have s4:=Same.new (o:=.dT []) fdf
  have hdf4:=ad (H:=H3) (a:=df) (o:=.dT [])
  have q1:IsQ K (upd H3 df (.dT [])) 1 (.ref z1):=⟨z1,rfl,.inl (s4 _ _ hz1)⟩
  generalize upd H3 df (.dT [])=H4 at s4 hdf4 q1
  have s34:=s3.trans s4
  have it4:=IsTree.t (s0.trans s34).t _ _ _ it0
  refine ⟨v,.ref z1,df,4,t,1,[],[],Tb.dn t,rfl,by decide,it4,hdp,q1,hdf4,.nil,Dp,hdn,gkt,by show 0+Tb.lv t≤1000; lia,fun H5 kvs k5 hdf5 hW5=>?_⟩
  have hW5:WR K H5 (Tb.adds (Tb.kt t)) kvs:=hW5
  have s25:Same H2 H5:=fun b o e=>k5 _ _ (fun z=>by rw[z,s3.free fdf]at e; cases e) (s34 _ _ e)
  refine ⟨df,kvs,rfl,rfl,.inl hdf5,fun iv fiv=>?_⟩
  have s6:=Same.new (o:=.ext (IV iv df)) fiv
  have hiv:=ad (H:=H5) (a:=iv) (o:=.ext (IV iv df))
  have hW6:=hW5.tk s6.tk
  generalize upd H5 iv (.ext (IV iv df))=H6 at s6 hiv hW6
  have kl:kvs.length≤256:=by
   rw[← hW5.length]
   refine Nat.le_trans (Tb.adds_len _) ?_
   unfold Tb.kt
   rw[Tb.kR_len,Tb.wf_len]; exact hlv
  refine ⟨iv,df,kvs,_,rfl,hiv,.inl (s6 _ _ hdf5),by lia,hW6.keys,Tb.adds_nd _,fun ld o f k H7 s7 fld op osr at7 hld=>?_⟩
  obtain ⟨R,htab,hR⟩:=qa hW6 s7 op osr at7
  clear at7 osr op
  have uniq:∀{R':Rws},Tb.IsTab (Tb.toR (Tb.kW (Tb.wl t 1 1))) R'→R'=R:=fun h=>Tb.IsTab.uniq (Tb.kt_perm hok) h htab
  have gR:=htab.gd gkt
  have smR:Tb.sm R=1:=by rw[htab.sm]; exact skt
  have s27:=(s25.trans s6).trans s7
  have hT7:=hT2.same s27
  have rl:R.length=(o.map fun i=>V.ref (f i)).length:=hR.length
  have rl256:R.length≤256:=by
   rw[htab.pm.length_eq]
   refine Nat.le_trans (Tb.adds_len _) ?_
   unfold Tb.kt
   rw[Tb.kR_len,Tb.wf_len]; exact hlv
  generalize (o.map fun i=>V.ref (f i))=yd at hld hR rl
  have z07:=s0.trans s27
  have t07:=s12.trans s27
  clear hW5 hW6 k5 hiv fiv hdf5
  refine kU (σ':=[some (.ref p),some v,some (.ref ld),none,none,none,none,none,none,none,none,none,none,none,none]) rfl ?_
  refine ⟨v,4,t,H0,rfl,it0,z07.t,hT7,fun H8 u t8 hT8 hn8 _=>?_⟩
  refine kU (σ':=[some (.ref p),some v,some (.ref ld),some u,none,none,none,none,none,none,none,none,none,none,none]) rfl ?_
  have t08:=t07.t.trans t8
  refine ⟨p,ns,1,rfl,xn t08 hS,hlen,by decide,by decide,⟨_,rfl,fun st2 n3 fst2=>?_⟩⟩
  have s9:=Same.new (o:=.lst [.int n3]) fst2
  have e9:=ad (H:=H8) (a:=st2) (o:=.lst [.int n3])
  have it9:IsTree (untr (upd H8 st2 (.lst [.int n3])) st2) 4 v t:=IsTree.t (ou s9.t fst2) _ _ _ (IsTree.t (z07.t.trans t8) _ _ _ it0)
  generalize upd H8 st2 (.lst [.int n3])=H9 at s9 e9 it9
  refine ⟨v,st2,4,t,n3,rfl,it9,e9,fun H10 lp ps k10 flp hlp hpl=>?_⟩
  have s810:Same H8 H10:=fun b o e=>k10 _ _ (au e fst2) (s9 _ _ e)
  refine kU (σ':=[some (.ref p),some v,some (.ref ld),some u,some (.ref lp),none,none,none,none,none,none,none,none,none,none]) rfl ?_
  refine ⟨lp,_,rfl,.inl (SqL.of hlp),fun lh flh=>?_⟩
  have s11:=Same.new (o:=.lst (ps.map V.int)) flh
  have hlh:=ad (H:=H10) (a:=lh) (o:=.lst (ps.map V.int))
  generalize upd H10 lh (.lst (ps.map V.int))=H11 at s11 hlh
  have hlp11:=s11 _ _ hlp
  have s811:=s810.trans s11
  have t711:=t8.trans s811.t
  have hld11:=t711.at hld
  have hR11:Paired (RowR K H11) R yd:=ak (RowR.tk (fun b us e=>t711.at e)) hR
  have hn11:=hn8.t s811.t
  have z011:=z07.t.trans t711
  have hT11:=hT8.same s811
  have t011:=t08.trans s811.t
  clear hR hld
  refine kU (σ':=[some (.ref p),some v,some (.ref ld),some u,some (.ref lp),some (.ref lh),none,none,none,none,none,none,none,none,none]) rfl ?_
  refine ⟨2,rfl,by lia,by lia,?_⟩
  let Pw1:PvS:=fun i σ H'=>∃(x6 x7 x8 x9 x10:Option V),SameT H11 H'∧TabsOk (tabs a) H'∧σ=[some (.ref p),some v,some (.ref ld),some u,some (.ref lp),some (.ref lh),x6,x7,x8,x9,x10,none,none,none,none]
  refine dP (lo:=0) (n:=2) Pw1 ⟨none,none,none,none,none,SameT.refl,hT11,rfl⟩ ?_ ?_
  ·rintro i σ H' hi ⟨x6,x7,x8,x9,x10,tA,hTA,rfl⟩
   have ext:∀{H9:Hp}{l:Addr}{ys ys':List V},TabsOk (tabs a) H9→H9 l=some (.lst ys)→TabsOk (tabs a) (upd H9 l (.lst ys')):=fun hT' e=>hT'.put (fun ps z=>by rw[e]at z; cases z) fun φ z=>by rw[e]at z; cases z
   refine ⟨u,H0,4,t,rfl,hn11.t tA,by decide,hok,hdn,hsq,z011.trans tA,hTA,fun _ HB lf R1 yf tB hTB flf hlf hR1 htab1 _=>?_,fun h=>absurd h (by lia)⟩
   obtain rfl:=uniq htab1
   refine kU (σ':=[some (.ref p),some v,some (.ref ld),some u,some (.ref lp),some (.ref lh),some (.int (0+((i:Nat):Int))),some (.ref lf),x8,x9,x10,none,none,none,none]) rfl ?_
   have tAB:=tA.trans tB
   have hldB:=tAB.at hld11
   have hRB:Paired (RowR K HB) R1 yd:=ak (RowR.tk (fun b us e=>tAB.at e)) hR11
   refine ⟨_,_,_,true,rfl,rfl,.lst hlf,rfl,?_⟩
   refine gD (d:=uV R1) (dQ hlf (fK (fun x y h=>qK h) hR1)) (dQ hldB (fK (fun x y h=>qK h) hRB)) (uB R1) (by decide) ?_
   refine .inl ⟨⟨_,SqL.of hlf⟩,fun D1 hD1=>?_⟩
   let Pw2:PvL:=fun i ws H5=>i≤yf.length∧Same HB H5∧H5 D1=some (.lst ws)∧ws.length≤i∧∀ z∈ws,∃ q,IsQ K HB q z
   refine bK (K:=K) (a:=lf) (xs:=yf) Pw2 ⟨Nat.zero_le _,Same.new hD1,ad,Nat.le_refl _,(fun z hz=>by cases hz)⟩ (fun i ys H5 h=>SqL.of (h.2.1 _ _ hlf)) (fun i ys H5 h=>h.2.2.1) ?_ ?_
   ·rintro j y ws H5 P' hy ⟨hj,s5,hD5,hwl,hq5⟩ hP'
    obtain ⟨r,hr9,pr,kt,z,rfl,hpr,hkt,hz⟩:=aw hR1 hy
    have jlt:j<yf.length:=(List.getElem?_eq_some_iff.mp hy).1
    have yfl:yf.length=R1.length:=hR1.length.symm
    refine ⟨trivial,px1 (SqT.of (s5 _ _ hpr)) ⟨hD5,by lia,hP' _ _ ⟨jlt,s5.put hD1,ad,by rw[length_append,length_singleton]; lia,fun z' hz'=>?_⟩⟩⟩
    rcases mem_append.mp hz' with h | h
    ·exact hq5 z' h
    ·rw[mem_singleton.mp h]; exact ⟨_,hz⟩
   rintro ws HC ⟨_,sC,hDC,_,hqC⟩
   refine ⟨D1,ws,rfl,hDC,fun z hz=>let ⟨q,h⟩:=hqC z hz; ⟨q,h.same sC⟩,?_⟩
   have hlfC:=sC _ _ hlf
   refine ⟨.inl ⟨rfl,_,SqL.of hlfC⟩,lf,_,rfl,rfl,hlfC,?_⟩
   have tD:SameT H' (upd HC lf (.lst [])):=(tB.trans sC.t).put flf
   have hTD:TabsOk (tabs a) (upd HC lf (.lst [])):=ext (hTB.same sC) hlfC
   generalize upd HC lf (.lst [])=HD at tD hTD
   have tAD:=tA.trans tD
   refine ⟨u,H0,4,t,lh,ps,rfl,hn11.t tAD,by decide,hok,hdn,hsq,z011.trans tAD,hTD,tAD.at hlh,by lia,fun _ HE lm R2 ms tE hTE flm hlm nlm htab2 hM nd=>?_,fun h=>absurd h (by lia)⟩
   obtain rfl:=uniq htab2
   refine kU (σ':=[some (.ref p),some v,some (.ref ld),some u,some (.ref lp),some (.ref lh),some (.int (0+((i:Nat):Int))),some (.ref lf),some (.ref lm),x9,x10,none,none,none,none]) rfl ?_
   have tAE:=tAD.trans tE
   have hRE:Paired (RowR K HE) R2 yd:=ak (RowR.tk (fun b us e=>tAE.at e)) hR11
   refine ⟨ld,lp,R2,yd,ps,Tb.dn t,rfl,tAE.at hld11,hRE,tAE.at hlp11,by lia,Dp,hdn,gR,fun HF l3 w3 s3F f3 h3 hM3=>?_⟩
   have hMF:Paired (kF K HD HF (Tb.mm R2) ps) ps ms:=ak (fun i y ⟨D9,zs9,e9,f9,h9,p9⟩=>⟨D9,zs9,e9,f9,s3F _ _ h9,ak (fun j z h=>h.same s3F) p9⟩) hM
   refine gD (d:=mtD (Tb.mm R2) ps) (qH (s3F _ _ hlm) hMF) (qH h3 hM3) (wZ _ _) (by decide) ?_
   have tAF:=tAE.trans s3F.t
   refine gD (d:=.list (ps.map PyData.int)) (om (tAF.at hlh)) (om (tAF.at hlp11)) (gK (nK ps)) (by decide) ?_
   have hRF:Paired (RowR K HF) R2 yd:=ak (RowR.tk (fun b us e=>tAF.at e)) hR11
   refine ⟨ld,lp,R2,yd,ps,Tb.dn t,rfl,tAF.at hld11,hRF,tAF.at hlp11,by lia,Dp,hdn,gR,fun HG l4 w4 s4G f4 h4 hM4=>?_⟩
   have hMG:Paired (kF K HD HG (Tb.mm R2) ps) ps ms:=ak (fun i y ⟨D9,zs9,e9,f9,h9,p9⟩=>⟨D9,zs9,e9,f9,s4G _ _ h9,ak (fun j z h=>h.same s4G) p9⟩) hMF
   have tAG:=tAF.trans s4G.t
   have hlmG:=s4G _ _ (s3F _ _ hlm)
   have hTG:=(hTE.same s3F).same s4G
   have ml:ms.length=w4.length:=by rw[← hMG.length,← hM4.length]
   have f4':V.ref l4 ∉ ms:=fun hm=>by
    obtain ⟨j,hj⟩:=List.getElem?_of_mem hm
    obtain ⟨i9,_,D9,zs9,e9,_,h9,_⟩:=aw hMF hj
    cases e9
    rw[f4]at h9; cases h9
   let Pw3:PvS:=fun i2 σ H5=>∃(x9 x10:Option V),(∀ b o,V.ref b ∉ ms.take i2→HG b=some o→H5 b=some o)∧TabsOk (tabs a) H5∧i2≤ms.length∧σ=[some (.ref p),some v,some (.ref ld),some u,some (.ref lp),some (.ref lh),some (.int (0+((i:Nat):Int))),some (.ref lf),some (.ref lm),x9,x10,none,none,none,none]
   refine ⟨lm,l4,ms,w4,rfl,hlmG,h4,sY (a:=lm) (b:=l4) (xs:=ms) (ys:=w4) ml Pw3 ⟨_,_,(fun b o _ e=>e),hTG,Nat.zero_le _,rfl⟩ (fun i2 σ H5 h=>by
    obtain ⟨x9,x10,k,_⟩:=h
    exact ⟨k _ _ (fun z=>nlm (mem_of_mem_take z)) hlmG,k _ _ (fun z=>f4' (mem_of_mem_take z)) h4⟩) ?_ ?_⟩
   ·rintro i2 x y σ H5 pz hx hy ⟨x9,x10,kp,hT5,hi2,rfl⟩ fpz
    have ilt:i2<ms.length:=(List.getElem?_eq_some_iff.mp hx).1
    obtain ⟨a1,ha1,D9,zs9,rfl,f9,h9,p9⟩:=aw hMG hx
    obtain ⟨a2,ha2,D8,zs8,rfl,f8,h8,p8⟩:=aw hM4 hy
    rw[ha1]at ha2
    cases ha2
    have s6:=Same.new (o:=.tup [.ref D9,.ref D8]) fpz
    have hpz:=ad (H:=H5) (a:=pz) (o:=.tup [.ref D9,.ref D8])
    have hT6:=hT5.same s6
    generalize upd H5 pz (.tup [.ref D9,.ref D8])=H6 at s6 hpz hT6
    have n9:V.ref D9 ∉ ms.take i2:=fun hm=>by
     obtain ⟨j,hj⟩:=List.getElem?_of_mem hm
     rw[List.getElem?_take]at hj
     split at hj
     ·rename_i lt
      obtain ⟨l1,g1⟩:=List.getElem?_eq_some_iff.mp hj
      obtain ⟨l2,g2⟩:=List.getElem?_eq_some_iff.mp hx
      exact (pairwise_iff_getElem.mp nd j i2 l1 l2 lt) (g1.trans g2.symm)
     ·cases hj
    have n8:V.ref D8 ∉ ms:=fun hm=>by
     obtain ⟨j,hj⟩:=List.getElem?_of_mem hm
     obtain ⟨i9,_,D7,zs7,e7,_,h7,_⟩:=aw hMF hj
     cases e7
     rw[f8]at h7; cases h7
    have kt6:TK HG H6:=fun b us e=>s6 _ _ (kp _ _ (fun hm=>by
     obtain ⟨j,hj⟩:=List.getElem?_of_mem (mem_of_mem_take hm)
     obtain ⟨i9,_,D7,zs7,e7,_,h7,_⟩:=aw hMG hj
     cases e7
     rw[e]at h7; cases h7) e)
    have h96:=s6 _ _ (kp _ _ n9 h9)
    have h86:=s6 _ _ (kp _ _ (fun hm=>n8 (mem_of_mem_take hm)) h8)
    refine ⟨pz,_,rfl,SqT.of hpz,rfl,_,_,rfl,_,_,rfl,rfl,?_⟩
    refine ⟨D9,zs9,rfl,h96,fun z hz=>?_,?_⟩
    ·obtain ⟨j,hj⟩:=List.getElem?_of_mem hz
     obtain ⟨j9,_,hq9⟩:=aw p9 hj
     exact ⟨_,hq9.tk kt6⟩
    refine gD (d:=mrD (Tb.mm R2) ps a1) (dQ h96 (fK (fun j z hz=>jc hz) (ak (fun j z h=>h.tk kt6) p9))) (dQ h86 (fK (fun j z hz=>jc hz) (ak (fun j z h=>h.tk kt6) p8))) (uR _ _ _) (by decide) ?_
    refine ⟨.inl ⟨rfl,_,SqL.of h96⟩,D9,_,rfl,rfl,h96,?_⟩
    refine ⟨_,_,fun b o n e=>?_,ext hT6 h96,ilt,rfl⟩
    ·have em:ms.take (i2+1)=ms.take i2++[.ref D9]:=by rw[take_add_one,hx]; rfl
     rw[em,mem_append,not_or]at n
     have nb:b≠D9:=fun z=>n.2 (by rw[z]; exact mem_singleton.mpr rfl)
     rw[ag nb]
     exact s6 _ _ (kp _ _ n.1 e)
   ·rintro σ H5 ⟨x9,x10,kp,hT5,hi2,rfl⟩
    rw[take_length]at kp
    have hlm5:=kp _ _ nlm hlmG
    refine ⟨.inl ⟨rfl,_,SqL.of hlm5⟩,lm,_,rfl,rfl,hlm5,?_⟩
    have flm0:H11 lm=none:=tAD.free flm
    refine ⟨_,_,_,_,_,SameT.put (fun b o e=>?_) flm0,ext hT5 hlm5,rfl⟩
    have nb:V.ref b ∉ ms:=fun hm=>by
     obtain ⟨j,hj⟩:=List.getElem?_of_mem hm
     obtain ⟨i9,_,D7,zs7,e7,f7,h7,_⟩:=aw hMG hj
     cases e7
     have:=tAD.free f7
     rw[e]at this; cases this
    obtain ⟨g1,o1,g2⟩:=tAG b o e
    exact ⟨fun np=>kp _ _ nb (g1 np),o1,kp _ _ nb g2⟩
  ·rintro σ H' ⟨x6,x7,x8,x9,x10,tA,hTA,rfl⟩
   refine ⟨dl _ _,fun z0 fz0=>?_⟩
   have sB:=Same.new (o:=.tup [.int 0,.int 1]) fz0
   have hz0:=ad (H:=H') (a:=z0) (o:=.tup [.int 0,.int 1])
   have hTB:=hTA.same sB
   generalize upd H' z0 (.tup [.int 0,.int 1])=HB at sB hz0 hTB
   have tB:=tA.trans sB.t
   have hldB:=tB.at hld11
   let Pw4:PvS:=fun i σ H5=>∃(z:V) (x12 x13:Option V),Same HB H5∧IsQ K H5 (Tb.sm (R.take i)) z∧i≤yd.length∧σ=[some (.ref p),some v,some (.ref ld),some u,some (.ref lp),some (.ref lh),x6,x7,x8,x9,x10,some z,x12,x13,none]
   refine .inl ⟨⟨_,SqL.of hldB⟩,bX (K:=K) (a:=ld) (xs:=yd) Pw4 ⟨.ref z0,none,none,Same.refl _,⟨z0,rfl,.inl hz0⟩,Nat.zero_le _,rfl⟩ (fun i σ H5 _ h=>by
    obtain ⟨z,x12,x13,k,_⟩:=h
    exact SqL.of (k _ _ hldB)) ?_ ?_⟩
   ·rintro i y σ H5 hy ⟨z,x12,x13,s5,hz,hi,rfl⟩
    obtain ⟨r,hr9,hrow⟩:=aw hR11 hy
    have t5:=tB.trans s5.t
    obtain ⟨pr,kt,z9,rfl,hpr,hkt,hq9⟩:=RowR.tk (fun b us e=>t5.at e) r _ hrow
    have ilt:i<yd.length:=(List.getElem?_eq_some_iff.mp hy).1
    have gt:Tb.Gd (Tb.dn t) (R.take i):=by
     have:=gR
     rw[← take_append_drop i R]at this
     exact this.left
    refine ⟨pr,_,rfl,SqT.of hpr,rfl,_,_,rfl,_,_,rfl,rfl,?_⟩
    refine ⟨_,_,_,_,rfl,hz,hq9,gj Dp hdn gt.sm,gj Dp hdn (gR.one (List.mem_of_getElem? hr9)),fun H6 z6 s6 q6=>?_⟩
    refine ⟨z6,_,_,s5.trans s6,?_,ilt,rfl⟩
    rw[take_add_one,hr9,Tb.sm_app]
    have e:Tb.sm [r]=r.2:=by show r.2+0=r.2; grind
    show IsQ K H6 (Tb.sm (R.take i)+Tb.sm [r]) z6
    rw[e]
    exact q6
   rintro σ H5 ⟨z,x12,x13,s5,hz,hi,rfl⟩
   rw[← rl,take_length,smR]at hz
   have t5:=tB.trans s5.t
   have hT5:=hTB.same s5
   refine ⟨p,ns,2,rfl,xn (t011.trans t5) hS,hlen,by decide,by decide,?_⟩
   generalize qN ns 2=c
   refine kU (σ':=[some (.ref p),some v,some (.ref ld),some u,some (.ref lp),some (.ref lh),x6,x7,x8,x9,x10,some z,x12,x13,some (.int c)]) rfl ?_
   refine ⟨cp,ifC (fun e=>?_) (fun e=>?_)⟩
   ·refine ⟨cdB (n:=10) (by decide) (by unfold Bt; decide),cp,cdB (n:=10) (by decide) (by unfold Bt; decide),cp,?_⟩
    have m0:=Int.emod_nonneg (c/32) (show (13:Int)≠0 by decide)
    have m1:=Int.emod_lt_of_pos (c/32) (show (0:Int)<13 by decide)
    have m2:=Int.emod_nonneg (c/416) (show (9:Int)≠0 by decide)
    have m3:=Int.emod_lt_of_pos (c/416) (show (0:Int)<9 by decide)
    refine ⟨(4090+c/32 % 13).toNat,1+c/416 % 9,by rw[Int.toNat_of_nonneg (by lia)]; rfl,by lia,by lia,by lia,by lia,hT5,fun H6 t6=>?_⟩
    refine ⟨dl _ _,fun t1 ft1=>?_⟩
    refine oj (d:=frD 1) (jc ((hz.tk (fun b us e=>t6.at e)).same (Same.new ft1))) (jS (SqT.of ad)) (nG 1) (by decide) (q _)
   ·refine ⟨dl _ _,fun t1 ft1=>?_⟩
    refine oj (d:=frD 1) (jc (hz.same (Same.new ft1))) (jS (SqT.of ad)) (nG 1) (by decide) (q _)
end
end My
namespace My
open PySem L2
theorem us0{α:Type}:∀{us:List α},us.length=0→us=[]
 | [],_=>rfl
theorem us1{α:Type}{us:List α}(h:us.length=1):∃ a0,us=[a0]:=by
 cases us with
 | nil=>cases h
 | cons a0 t=>obtain rfl:=us0 (Nat.succ.inj h); exact ⟨a0,rfl⟩
theorem us2{α:Type}{us:List α}(h:us.length=2):∃ a0 a1,us=[a0,a1]:=by
 cases us with
 | nil=>cases h
 | cons a0 t=>obtain ⟨a1,rfl⟩:=us1 (Nat.succ.inj h); exact ⟨a0,a1,rfl⟩
theorem us3{α:Type}{us:List α}(h:us.length=3):∃ a0 a1 a2,us=[a0,a1,a2]:=by
 cases us with
 | nil=>cases h
 | cons a0 t=>obtain ⟨a1,a2,rfl⟩:=us2 (Nat.succ.inj h); exact ⟨a0,a1,a2,rfl⟩
theorem us4{α:Type}{us:List α}(h:us.length=4):∃ a0 a1 a2 a3,us=[a0,a1,a2,a3]:=by
 cases us with
 | nil=>cases h
 | cons a0 t=>obtain ⟨a1,a2,a3,rfl⟩:=us3 (Nat.succ.inj h); exact ⟨a0,a1,a2,a3,rfl⟩
theorem txt_mk{K:Frag}{h:Heap}{mg:Str→Option Value}{f0 f1 f2 f3 f4 f5 f6 f7 f8 f9 f10 f11 f12 f13 f14 f15 f16 f17 f18 f19 f20 f21 f22 f23 f24 f25 f26 c_n c_j i_j c_k c_N c_c i_c c_f i_f x_l x_o x_u x_C x_r x_v x_s x_w lc_h lp_h:Addr}{od0 an0 od1 an1 od2 an2 od3 an3 od4 an4 od5 an5 od6 an6 od7 an7 od8 an8 od9 an9 od10 an10 od11 an11 od12 an12 od13 an13 od14 an14 od15 an15 od16 an16 od17 an17 od18 an18 od19 an19 od20 an20 od21 an21 od22 an22 od23 an23 od24 an24 od25 an25 od26 an26 od_6 an_6 od_7 an_7 od_0 an_0 od_8 an_8 od_1 an_1 od_9 an_9 od_2 an_2 od_b an_b od_4 an_4 od_a an_a od_3 an_3 lod_5:Option Addr}{sl0 sl1 sl2 sl3 sl4 sl5 sl6 sl7 sl8 sl9 sl10 sl11 sl12 sl13 sl14 sl15 sl16 sl17 sl18 sl19 sl20 sl21 sl22 sl23 sl24 sl25 sl26 sl_6 sl_7 sl_0 sl_8 sl_1 sl_9 sl_2 sl_b sl_4 sl_a sl_3 lsl_5:Array (Option Value)}{oc0 kV0 dc0 pm0 cd0 ct0 oc1 kV1 dc1 pm1 cd1 ct1 oc2 kV2 dc2 pm2 cd2 ct2 oc3 kV3 dc3 pm3 cd3 ct3 oc4 kV4 dc4 pm4 cd4 ct4 oc5 kV5 dc5 pm5 cd5 ct5 oc6 kV6 dc6 pm6 cd6 ct6 oc7 kV7 dc7 pm7 cd7 ct7 oc8 kV8 dc8 pm8 cd8 ct8 oc9 kV9 dc9 pm9 cd9 ct9 oc10 kV10 dc10 pm10 cd10 ct10 oc11 kV11 dc11 pm11 cd11 ct11 oc12 kV12 dc12 pm12 cd12 ct12 oc13 kV13 dc13 pm13 cd13 ct13 oc14 kV14 dc14 pm14 cd14 ct14 oc15 kV15 dc15 pm15 cd15 ct15 oc16 kV16 dc16 pm16 cd16 ct16 oc17 kV17 dc17 pm17 cd17 ct17 oc18 kV18 dc18 pm18 cd18 ct18 oc19 kV19 dc19 pm19 cd19 ct19 oc20 kV20 dc20 pm20 cd20 ct20 oc21 kV21 dc21 pm21 cd21 ct21 oc22 kV22 dc22 pm22 cd22 ct22 oc23 kV23 dc23 pm23 cd23 ct23 oc24 kV24 dc24 pm24 cd24 ct24 oc25 kV25 dc25 pm25 cd25 ct25 oc26 kV26 dc26 pm26 cd26 ct26 u0 oc_6 kV_6 dc_6 pm_6 cd_6 ct_6 oc_7 kV_7 dc_7 pm_7 cd_7 ct_7 oc_0 kV_0 dc_0 pm_0 cd_0 ct_0 oc_8 kV_8 dc_8 pm_8 cd_8 ct_8 oc_1 kV_1 dc_1 pm_1 cd_1 ct_1 oc_9 kV_9 dc_9 pm_9 cd_9 ct_9 oc_2 kV_2 dc_2 pm_2 cd_2 ct_2 oc_b kV_b dc_b pm_b cd_b ct_b oc_4 kV_4 dc_4 pm_4 cd_4 ct_4 oc_a kV_a dc_a pm_a cd_a ct_a oc_3 kV_3 dc_3 pm_3 cd_3 ct_3 lo_5:Value}{lvs_5:Array Value}(X:K.In h) (G:h.Ns mainGlobals mg)
  (a0:nsIn K mainGlobals "greatest_divisor" = some (some (.ref f0))) (l0:K.lookup f0=some ⟨oc0,od0,.func (fnOf "greatest_divisor" "greatest_divisor" (am aE) (aj aE) (ae aE) .none kV0 dc0 pm0 an0 cd0 ct0),sl0⟩) (c0:codeIn K cd0 "greatest_divisor" = true) (k0:keepIn K (.ref f0)=true)
  (a1:nsIn K mainGlobals "least_multiple" = some (some (.ref f1))) (l1:K.lookup f1=some ⟨oc1,od1,.func (fnOf "least_multiple" "least_multiple" (am aF) (aj aF) (ae aF) .none kV1 dc1 pm1 an1 cd1 ct1),sl1⟩) (c1:codeIn K cd1 "least_multiple" = true) (k1:keepIn K (.ref f1)=true)
  (a2:nsIn K mainGlobals "share" = some (some (.ref f2))) (l2:K.lookup f2=some ⟨oc2,od2,.func (fnOf "share" "share" (am cW) (aj cW) (ae cW) .none kV2 dc2 pm2 an2 cd2 ct2),sl2⟩) (c2:codeIn K cd2 "share" = true) (k2:keepIn K (.ref f2)=true)
  (a3:nsIn K mainGlobals "total" = some (some (.ref f3))) (l3:K.lookup f3=some ⟨oc3,od3,.func (fnOf "total" "total" (am cV) (aj cV) (ae cV) .none kV3 dc3 pm3 an3 cd3 ct3),sl3⟩) (c3:codeIn K cd3 "total" = true) (k3:keepIn K (.ref f3)=true)
  (a4:nsIn K mainGlobals "ways_of" = some (some (.ref f4))) (l4:K.lookup f4=some ⟨oc4,od4,.func (fnOf "ways_of" "ways_of" (am bR) (aj bR) (ae bR) .none kV4 dc4 pm4 an4 cd4 ct4),sl4⟩) (c4:codeIn K cd4 "ways_of" = true) (k4:keepIn K (.ref f4)=true)
  (a5:nsIn K mainGlobals "table" = some (some (.ref f5))) (l5:K.lookup f5=some ⟨oc5,od5,.func (fnOf "table" "table" (am cS) (aj cS) (ae cS) .none kV5 dc5 pm5 an5 cd5 ct5),sl5⟩) (c5:codeIn K cd5 "table" = true) (k5:keepIn K (.ref f5)=true)
  (a6:nsIn K mainGlobals "matrix_of" = some (some (.ref f6))) (l6:K.lookup f6=some ⟨oc6,od6,.func (fnOf "matrix_of" "matrix_of" (am bu) (aj bu) (ae bu) .none kV6 dc6 pm6 an6 cd6 ct6),sl6⟩) (c6:codeIn K cd6 "matrix_of" = true) (k6:keepIn K (.ref f6)=true)
  (a7:nsIn K mainGlobals "matrix_row" = some (some (.ref f7))) (l7:K.lookup f7=some ⟨oc7,od7,.func (fnOf "matrix_row" "matrix_row" (am aV) (aj aV) (ae aV) .none kV7 dc7 pm7 an7 cd7 ct7),sl7⟩) (c7:codeIn K cd7 "matrix_row" = true) (k7:keepIn K (.ref f7)=true)
  (a8:nsIn K mainGlobals "_law_cell" = some (some (.ref f8))) (l8:K.lookup f8=some ⟨oc8,od8,.func (fnOf "_law_cell" "_law_cell" (am cu) (aj cu) (ae cu) .none kV8 dc8 pm8 an8 cd8 ct8),sl8⟩) (c8:codeIn K cd8 "_law_cell" = true) (k8:keepIn K (.ref f8)=true)
  (a9:nsIn K mainGlobals "_law_mix" = some (some (.ref f9))) (l9:K.lookup f9=some ⟨oc9,od9,.func (fnOf "_law_mix" "_law_mix" (am cU) (aj cU) (ae cU) .none kV9 dc9 pm9 an9 cd9 ct9),sl9⟩) (c9:codeIn K cd9 "_law_mix" = true) (k9:keepIn K (.ref f9)=true)
  (a10:nsIn K mainGlobals "_law_digits" = some (some (.ref f10))) (l10:K.lookup f10=some ⟨oc10,od10,.func (fnOf "_law_digits" "_law_digits" (am bG) (aj bG) (ae bG) .none kV10 dc10 pm10 an10 cd10 ct10),sl10⟩) (c10:codeIn K cd10 "_law_digits" = true) (k10:keepIn K (.ref f10)=true)
  (a11:nsIn K mainGlobals "_law_take" = some (some (.ref f11))) (l11:K.lookup f11=some ⟨oc11,od11,.func (fnOf "_law_take" "_law_take" (am cA) (aj cA) (ae cA) .none kV11 dc11 pm11 an11 cd11 ct11),sl11⟩) (c11:codeIn K cd11 "_law_take" = true) (k11:keepIn K (.ref f11)=true)
  (a12:nsIn K mainGlobals "_law_whole" = some (some (.ref f12))) (l12:K.lookup f12=some ⟨oc12,od12,.func (fnOf "_law_whole" "_law_whole" (am bQ) (aj bQ) (ae bQ) .none kV12 dc12 pm12 an12 cd12 ct12),sl12⟩) (c12:codeIn K cd12 "_law_whole" = true) (k12:keepIn K (.ref f12)=true)
  (a13:nsIn K mainGlobals "_law_kept" = some (some (.ref f13))) (l13:K.lookup f13=some ⟨oc13,od13,.func (fnOf "_law_kept" "_law_kept" (am cD) (aj cD) (ae cD) .none kV13 dc13 pm13 an13 cd13 ct13),sl13⟩) (c13:codeIn K cd13 "_law_kept" = true) (k13:keepIn K (.ref f13)=true)
  (a14:nsIn K mainGlobals "_law_tree" = some (some (.ref f14))) (l14:K.lookup f14=some ⟨oc14,od14,.func (fnOf "_law_tree" "_law_tree" (am cB) (aj cB) (ae cB) .none kV14 dc14 pm14 an14 cd14 ct14),sl14⟩) (c14:codeIn K cd14 "_law_tree" = true) (k14:keepIn K (.ref f14)=true)
  (a15:nsIn K mainGlobals "_law_make" = some (some (.ref f15))) (l15:K.lookup f15=some ⟨oc15,od15,.func (fnOf "_law_make" "_law_make" (am bY) (aj bY) (ae bY) .none kV15 dc15 pm15 an15 cd15 ct15),sl15⟩) (c15:codeIn K cd15 "_law_make" = true) (k15:keepIn K (.ref f15)=true)
  (a16:nsIn K mainGlobals "_law_node" = some (some (.ref f16))) (l16:K.lookup f16=some ⟨oc16,od16,.func (fnOf "_law_node" "_law_node" (am cv) (aj cv) (ae cv) .none kV16 dc16 pm16 an16 cd16 ct16),sl16⟩) (c16:codeIn K cd16 "_law_node" = true) (k16:keepIn K (.ref f16)=true)
  (a17:nsIn K mainGlobals "_law_divisor" = some (some (.ref f17))) (l17:K.lookup f17=some ⟨oc17,od17,.func (fnOf "_law_divisor" "_law_divisor" (am bh) (aj bh) (ae bh) .none kV17 dc17 pm17 an17 cd17 ct17),sl17⟩) (c17:codeIn K cd17 "_law_divisor" = true) (k17:keepIn K (.ref f17)=true)
  (a18:nsIn K mainGlobals "_law_lowest" = some (some (.ref f18))) (l18:K.lookup f18=some ⟨oc18,od18,.func (fnOf "_law_lowest" "_law_lowest" (am bD) (aj bD) (ae bD) .none kV18 dc18 pm18 an18 cd18 ct18),sl18⟩) (c18:codeIn K cd18 "_law_lowest" = true) (k18:keepIn K (.ref f18)=true)
  (a19:nsIn K mainGlobals "_law_sum" = some (some (.ref f19))) (l19:K.lookup f19=some ⟨oc19,od19,.func (fnOf "_law_sum" "_law_sum" (am cR) (aj cR) (ae cR) .none kV19 dc19 pm19 an19 cd19 ct19),sl19⟩) (c19:codeIn K cd19 "_law_sum" = true) (k19:keepIn K (.ref f19)=true)
  (a20:nsIn K mainGlobals "_law_product" = some (some (.ref f20))) (l20:K.lookup f20=some ⟨oc20,od20,.func (fnOf "_law_product" "_law_product" (am bf) (aj bf) (ae bf) .none kV20 dc20 pm20 an20 cd20 ct20),sl20⟩) (c20:codeIn K cd20 "_law_product" = true) (k20:keepIn K (.ref f20)=true)
  (a21:nsIn K mainGlobals "_law_walk" = some (some (.ref f21))) (l21:K.lookup f21=some ⟨oc21,od21,.func (fnOf "_law_walk" "_law_walk" (am cq) (aj cq) (ae cq) .none kV21 dc21 pm21 an21 cd21 ct21),sl21⟩) (c21:codeIn K cd21 "_law_walk" = true) (k21:keepIn K (.ref f21)=true)
  (a22:nsIn K mainGlobals "_law_matrix" = some (some (.ref f22))) (l22:K.lookup f22=some ⟨oc22,od22,.func (fnOf "_law_matrix" "_law_matrix" (am bE) (aj bE) (ae bE) .none kV22 dc22 pm22 an22 cd22 ct22),sl22⟩) (c22:codeIn K cd22 "_law_matrix" = true) (k22:keepIn K (.ref f22)=true)
  (a23:nsIn K mainGlobals "_law_fractions" = some (some (.ref f23))) (l23:K.lookup f23=some ⟨oc23,od23,.func (fnOf "_law_fractions" "_law_fractions" (am aO) (aj aO) (ae aO) .none kV23 dc23 pm23 an23 cd23 ct23),sl23⟩) (c23:codeIn K cd23 "_law_fractions" = true) (k23:keepIn K (.ref f23)=true)
  (a24:nsIn K mainGlobals "_law_places" = some (some (.ref f24))) (l24:K.lookup f24=some ⟨oc24,od24,.func (fnOf "_law_places" "_law_places" (am bH) (aj bH) (ae bH) .none kV24 dc24 pm24 an24 cd24 ct24),sl24⟩) (c24:codeIn K cd24 "_law_places" = true) (k24:keepIn K (.ref f24)=true)
  (a25:nsIn K mainGlobals "_law_wide" = some (some (.ref f25))) (l25:K.lookup f25=some ⟨oc25,od25,.func (fnOf "_law_wide" "_law_wide" (am cF) (aj cF) (ae cF) .none kV25 dc25 pm25 an25 cd25 ct25),sl25⟩) (c25:codeIn K cd25 "_law_wide" = true) (k25:keepIn K (.ref f25)=true)
  (a26:nsIn K mainGlobals "law" = some (some (.ref f26))) (l26:K.lookup f26=some ⟨oc26,od26,.func (fnOf "law" "law" (am fm) (aj fm) (ae fm) .none kV26 dc26 pm26 an26 cd26 ct26),sl26⟩) (c26:codeIn K cd26 "law" = true) (k26:keepIn K (.ref f26)=true)
  (b0:nsIn K mainGlobals "MOST_WAYS" = some (some u0))
  (ca_n:nsIn K mainGlobals "SpeakError" = some (some (.ref c_n))) (cb_n:keepIn K (.ref c_n)=true) (cc_n:lV K c_n=true)
  (cx_n:xIn K c_n none=true)
  (ca_j:nsIn K mainGlobals "NoThrow" = some (some (.ref c_j))) (cb_j:keepIn K (.ref c_j)=true) (cc_j:lV K c_j=true)
  (cf_j:findIn K (.ref c_j) "__init__" = some (some (.ref i_j))) (cx_j:xIn K c_j (some (.ref i_j))=true) (cg_j:isFn K (.ref i_j)=true)
  (cl_j:K.lookup i_j=some ⟨oc_6,od_6,.func (fnOf "__init__" "NoThrow.__init__" (am aT) (aj aT) (ae aT) .none kV_6 dc_6 pm_6 an_6 cd_6 ct_6),sl_6⟩) (co_j:codeIn K cd_6 "NoThrow.__init__" = true) (ck_j:keepIn K (.ref i_j)=true)
  (cs_NoThrow_place:vC K c_j "place" = true)
  (ca_k:nsIn K mainGlobals "TooMany" = some (some (.ref c_k))) (cb_k:keepIn K (.ref c_k)=true) (cc_k:lV K c_k=true)
  (cx_k:xIn K c_k none=true)
  (ca_N:nsIn K mainGlobals "Node" = some (some (.ref c_N))) (pa_N:plainGet K c_N Str.empty=true) (pb_N:hasDictIn K c_N=true) (pc_N:plainOver K c_N=true)
  (pd_N:findIn K (.ref c_N) "__setattr__" = some (some (.builtin "object.__setattr__"))) (pe_N:findIn K (.ref c_N) "__class__" = some (some (.builtin "object.__class__"))) (pf_N:specialIn K (.builtin "object.__class__") "__get__" = some (some (.builtin "getset_descriptor.__get__"))) (pg_N:takesIn K (.builtin "object.__class__")=some true) (ph_N:mroIn K c_N (.type "object")=some true)
  (ca_c:nsIn K mainGlobals "Told" = some (some (.ref c_c))) (pa_c:plainGet K c_c Str.empty=true) (pb_c:hasDictIn K c_c=true) (pc_c:plainOver K c_c=true)
  (pd_c:findIn K (.ref c_c) "__setattr__" = some (some (.builtin "object.__setattr__"))) (pe_c:findIn K (.ref c_c) "__class__" = some (some (.builtin "object.__class__"))) (pf_c:specialIn K (.builtin "object.__class__") "__get__" = some (some (.builtin "getset_descriptor.__get__"))) (pg_c:takesIn K (.builtin "object.__class__")=some true) (ph_c:mroIn K c_c (.type "object")=some true)
  (qa_c:makesIn K c_c=true) (qb_c:findIn K (.ref c_c) "__init__" = some (some (.ref i_c))) (qc_c:isFn K (.ref i_c)=true) (qd_c:keepIn K (.ref c_c)=true)
  (qn_Told_rising:findIn K (.ref c_c) "rising" = some none)
  (cl_c:K.lookup i_c=some ⟨oc_7,od_7,.func (fnOf "__init__" "Told.__init__" (am aH) (aj aH) (ae aH) .none kV_7 dc_7 pm_7 an_7 cd_7 ct_7),sl_7⟩) (co_c:codeIn K cd_7 "Told.__init__" = true) (ck_c:keepIn K (.ref i_c)=true)
  (ca_f:nsIn K mainGlobals "Die" = some (some (.ref c_f))) (pa_f:plainGet K c_f Str.empty=true) (pb_f:hasDictIn K c_f=true) (pc_f:plainOver K c_f=true)
  (pd_f:findIn K (.ref c_f) "__setattr__" = some (some (.builtin "object.__setattr__"))) (pe_f:findIn K (.ref c_f) "__class__" = some (some (.builtin "object.__class__"))) (pf_f:specialIn K (.builtin "object.__class__") "__get__" = some (some (.builtin "getset_descriptor.__get__"))) (pg_f:takesIn K (.builtin "object.__class__")=some true) (ph_f:mroIn K c_f (.type "object")=some true)
  (qa_f:makesIn K c_f=true) (qb_f:findIn K (.ref c_f) "__init__" = some (some (.ref i_f))) (qc_f:isFn K (.ref i_f)=true) (qd_f:keepIn K (.ref c_f)=true)
  (qn_Die_makes:findIn K (.ref c_f) "makes" = some none)
  (cl_f:K.lookup i_f=some ⟨oc_0,od_0,.func (fnOf "__init__" "Die.__init__" (am aJ) (aj aJ) (ae aJ) .none kV_0 dc_0 pm_0 an_0 cd_0 ct_0),sl_0⟩) (co_f:codeIn K cd_0 "Die.__init__" = true) (ck_f:keepIn K (.ref i_f)=true)
  (mf_8:findIn K (.ref c_c) "is_told" = some (some (.ref x_l)))
  (ml_8:K.lookup x_l=some ⟨oc_8,od_8,.func (fnOf "is_told" "Told.is_told" (am aK) (aj aK) (ae aK) .none kV_8 dc_8 pm_8 an_8 cd_8 ct_8),sl_8⟩) (mo_8:codeIn K cd_8 "Told.is_told" = true) (mk_8:keepIn K (.ref x_l)=true) (mi_8:isFn K (.ref x_l)=true)
  (mf_1:findIn K (.ref c_f) "is_told" = some (some (.ref x_o)))
  (ml_1:K.lookup x_o=some ⟨oc_1,od_1,.func (fnOf "is_told" "Die.is_told" (am aN) (aj aN) (ae aN) .none kV_1 dc_1 pm_1 an_1 cd_1 ct_1),sl_1⟩) (mo_1:codeIn K cd_1 "Die.is_told" = true) (mk_1:keepIn K (.ref x_o)=true) (mi_1:isFn K (.ref x_o)=true)
  (mf_9:findIn K (.ref c_c) "kept" = some (some (.ref x_u)))
  (ml_9:K.lookup x_u=some ⟨oc_9,od_9,.func (fnOf "kept" "Told.kept" (am bj) (aj bj) (ae bj) .none kV_9 dc_9 pm_9 an_9 cd_9 ct_9),sl_9⟩) (mo_9:codeIn K cd_9 "Told.kept" = true) (mk_9:keepIn K (.ref x_u)=true) (mi_9:isFn K (.ref x_u)=true)
  (mf_2:findIn K (.ref c_f) "kept" = some (some (.ref x_C)))
  (ml_2:K.lookup x_C=some ⟨oc_2,od_2,.func (fnOf "kept" "Die.kept" (am bC) (aj bC) (ae bC) .none kV_2 dc_2 pm_2 an_2 cd_2 ct_2),sl_2⟩) (mo_2:codeIn K cd_2 "Die.kept" = true) (mk_2:keepIn K (.ref x_C)=true) (mi_2:isFn K (.ref x_C)=true)
  (mf_b:findIn K (.ref c_c) "sides" = some (some (.ref x_r)))
  (ml_b:K.lookup x_r=some ⟨oc_b,od_b,.func (fnOf "sides" "Told.sides" (am aW) (aj aW) (ae aW) .none kV_b dc_b pm_b an_b cd_b ct_b),sl_b⟩) (mo_b:codeIn K cd_b "Told.sides" = true) (mk_b:keepIn K (.ref x_r)=true) (mi_b:isFn K (.ref x_r)=true)
  (mf_4:findIn K (.ref c_f) "sides" = some (some (.ref x_v)))
  (ml_4:K.lookup x_v=some ⟨oc_4,od_4,.func (fnOf "sides" "Die.sides" (am bi) (aj bi) (ae bi) .none kV_4 dc_4 pm_4 an_4 cd_4 ct_4),sl_4⟩) (mo_4:codeIn K cd_4 "Die.sides" = true) (mk_4:keepIn K (.ref x_v)=true) (mi_4:isFn K (.ref x_v)=true)
  (mf_a:findIn K (.ref c_c) "parts" = some (some (.ref x_s)))
  (ml_a:K.lookup x_s=some ⟨oc_a,od_a,.func (fnOf "parts" "Told.parts" (am aU) (aj aU) (ae aU) .none kV_a dc_a pm_a an_a cd_a ct_a),sl_a⟩) (mo_a:codeIn K cd_a "Told.parts" = true) (mk_a:keepIn K (.ref x_s)=true) (mi_a:isFn K (.ref x_s)=true)
  (mf_3:findIn K (.ref c_f) "parts" = some (some (.ref x_w)))
  (ml_3:K.lookup x_w=some ⟨oc_3,od_3,.func (fnOf "parts" "Die.parts" (am be) (aj be) (ae be) .none kV_3 dc_3 pm_3 an_3 cd_3 ct_3),sl_3⟩) (mo_3:codeIn K cd_3 "Die.parts" = true) (mk_3:keepIn K (.ref x_w)=true) (mi_3:isFn K (.ref x_w)=true)
  (lca_5:cd15=.ref lc_h) (lct_5:K.lookup lc_h=some ⟨lo_5,lod_5,.fields lvs_5,lsl_5⟩) (lcq_5:lvs_5[11]? = some (.ref lp_h)) (lch_h:codeHdIn K lc_h lp_h=true)
  (ltnd:([lp_h]:List Addr).Nodup)
  (fact_tm:qJ K c_k c_k=true)
  (z0:nsIn K mainGlobals "abs" = some none)
  (z1:nsIn K mainGlobals "bool" = some none)
  (z2:nsIn K mainGlobals "int" = some none)
  (z3:nsIn K mainGlobals "isinstance" = some none)
  (z4:nsIn K mainGlobals "len" = some none)
  (z5:nsIn K mainGlobals "list" = some none)
  (z6:nsIn K mainGlobals "range" = some none)
  (z7:nsIn K mainGlobals "sorted" = some none)
  (z8:nsIn K mainGlobals "sum" = some none)
  (z9:nsIn K mainGlobals "tuple" = some none)
  (z10:nsIn K mainGlobals "zip" = some none) (r0:RelV (.int 4096) u0):∃ a:Ad,Txt K mg a∧(tabs a).map (·.1)=[lp_h]:=by
 refine ⟨{ f_d:=f0,d_d:=fnOf "greatest_divisor" "greatest_divisor" (am aE) (aj aE) (ae aE) .none kV0 dc0 pm0 an0 cd0 ct0,f_e:=f1,d_e:=fnOf "least_multiple" "least_multiple" (am aF) (aj aF) (ae aF) .none kV1 dc1 pm1 an1 cd1 ct1,f_H:=f2,d_H:=fnOf "share" "share" (am cW) (aj cW) (ae cW) .none kV2 dc2 pm2 an2 cd2 ct2,f_P:=f3,d_P:=fnOf "total" "total" (am cV) (aj cV) (ae cV) .none kV3 dc3 pm3 an3 cd3 ct3,f_D:=f4,d_D:=fnOf "ways_of" "ways_of" (am bR) (aj bR) (ae bR) .none kV4 dc4 pm4 an4 cd4 ct4,f_I:=f5,d_I:=fnOf "table" "table" (am cS) (aj cS) (ae cS) .none kV5 dc5 pm5 an5 cd5 ct5,f_i:=f6,d_i:=fnOf "matrix_of" "matrix_of" (am bu) (aj bu) (ae bu) .none kV6 dc6 pm6 an6 cd6 ct6,f_A:=f7,d_A:=fnOf "matrix_row" "matrix_row" (am aV) (aj aV) (ae aV) .none kV7 dc7 pm7 an7 cd7 ct7,f_K:=f8,d_K:=fnOf "_law_cell" "_law_cell" (am cu) (aj cu) (ae cu) .none kV8 dc8 pm8 an8 cd8 ct8,f_O:=f9,d_O:=fnOf "_law_mix" "_law_mix" (am cU) (aj cU) (ae cU) .none kV9 dc9 pm9 an9 cd9 ct9,f_t:=f10,d_t:=fnOf "_law_digits" "_law_digits" (am bG) (aj bG) (ae bG) .none kV10 dc10 pm10 an10 cd10 ct10,f_g:=f11,d_g:=fnOf "_law_take" "_law_take" (am cA) (aj cA) (ae cA) .none kV11 dc11 pm11 an11 cd11 ct11,f_J:=f12,d_J:=fnOf "_law_whole" "_law_whole" (am bQ) (aj bQ) (ae bQ) .none kV12 dc12 pm12 an12 cd12 ct12,f_L:=f13,d_L:=fnOf "_law_kept" "_law_kept" (am cD) (aj cD) (ae cD) .none kV13 dc13 pm13 an13 cd13 ct13,f_B:=f14,d_B:=fnOf "_law_tree" "_law_tree" (am cB) (aj cB) (ae cB) .none kV14 dc14 pm14 an14 cd14 ct14,f_h:=f15,d_h:=fnOf "_law_make" "_law_make" (am bY) (aj bY) (ae bY) .none kV15 dc15 pm15 an15 cd15 ct15,f_F:=f16,d_F:=fnOf "_law_node" "_law_node" (am cv) (aj cv) (ae cv) .none kV16 dc16 pm16 an16 cd16 ct16,f_y:=f17,d_y:=fnOf "_law_divisor" "_law_divisor" (am bh) (aj bh) (ae bh) .none kV17 dc17 pm17 an17 cd17 ct17,f_q:=f18,d_q:=fnOf "_law_lowest" "_law_lowest" (am bD) (aj bD) (ae bD) .none kV18 dc18 pm18 an18 cd18 ct18,f_M:=f19,d_M:=fnOf "_law_sum" "_law_sum" (am cR) (aj cR) (ae cR) .none kV19 dc19 pm19 an19 cd19 ct19,f_E:=f20,d_E:=fnOf "_law_product" "_law_product" (am bf) (aj bf) (ae bf) .none kV20 dc20 pm20 an20 cd20 ct20,f_z:=f21,d_z:=fnOf "_law_walk" "_law_walk" (am cq) (aj cq) (ae cq) .none kV21 dc21 pm21 an21 cd21 ct21,f_p:=f22,d_p:=fnOf "_law_matrix" "_law_matrix" (am bE) (aj bE) (ae bE) .none kV22 dc22 pm22 an22 cd22 ct22,f_m:=f23,d_m:=fnOf "_law_fractions" "_law_fractions" (am aO) (aj aO) (ae aO) .none kV23 dc23 pm23 an23 cd23 ct23,f_x:=f24,d_x:=fnOf "_law_places" "_law_places" (am bH) (aj bH) (ae bH) .none kV24 dc24 pm24 an24 cd24 ct24,f_G:=f25,d_G:=fnOf "_law_wide" "_law_wide" (am cF) (aj cF) (ae cF) .none kV25 dc25 pm25 an25 cd25 ct25,f_Q:=f26,d_Q:=fnOf "law" "law" (am fm) (aj fm) (ae fm) .none kV26 dc26 pm26 an26 cd26 ct26,c_n:=c_n,c_j:=c_j,i_j:=i_j,e_j:=fnOf "__init__" "NoThrow.__init__" (am aT) (aj aT) (ae aT) .none kV_6 dc_6 pm_6 an_6 cd_6 ct_6,c_k:=c_k,c_N:=c_N,c_c:=c_c,i_c:=i_c,e_c:=fnOf "__init__" "Told.__init__" (am aH) (aj aH) (ae aH) .none kV_7 dc_7 pm_7 an_7 cd_7 ct_7,c_f:=c_f,i_f:=i_f,e_f:=fnOf "__init__" "Die.__init__" (am aJ) (aj aJ) (ae aJ) .none kV_0 dc_0 pm_0 an_0 cd_0 ct_0,x_l:=x_l,y_l:=fnOf "is_told" "Told.is_told" (am aK) (aj aK) (ae aK) .none kV_8 dc_8 pm_8 an_8 cd_8 ct_8,x_o:=x_o,y_o:=fnOf "is_told" "Die.is_told" (am aN) (aj aN) (ae aN) .none kV_1 dc_1 pm_1 an_1 cd_1 ct_1,x_u:=x_u,y_u:=fnOf "kept" "Told.kept" (am bj) (aj bj) (ae bj) .none kV_9 dc_9 pm_9 an_9 cd_9 ct_9,x_C:=x_C,y_C:=fnOf "kept" "Die.kept" (am bC) (aj bC) (ae bC) .none kV_2 dc_2 pm_2 an_2 cd_2 ct_2,x_r:=x_r,y_r:=fnOf "sides" "Told.sides" (am aW) (aj aW) (ae aW) .none kV_b dc_b pm_b an_b cd_b ct_b,x_v:=x_v,y_v:=fnOf "sides" "Die.sides" (am bi) (aj bi) (ae bi) .none kV_4 dc_4 pm_4 an_4 cd_4 ct_4,x_s:=x_s,y_s:=fnOf "parts" "Told.parts" (am aU) (aj aU) (ae aU) .none kV_a dc_a pm_a an_a cd_a ct_a,x_w:=x_w,y_w:=fnOf "parts" "Die.parts" (am be) (aj be) (ae be) .none kV_3 dc_3 pm_3 an_3 cd_3 ct_3,lc_h:=lc_h,lp_h:=lp_h },?_,rfl⟩
 exact {
  lcd_h:=lca_5
  lch_h:=lch_h
  tnd:=ltnd
  F_d:=ap l0 c0 k0
  B_d:=(ap l0 c0 k0).binds (ps:=["one","other"]) fun _ _ _ _ _ _ us hl=>(by obtain ⟨_,_,rfl⟩:=us2 hl; rfl)
  m_d:=mg_of X G a0
  F_e:=ap l1 c1 k1
  B_e:=(ap l1 c1 k1).binds (ps:=["numbers"]) fun _ _ _ _ _ _ us hl=>(by obtain ⟨_,rfl⟩:=us1 hl; rfl)
  m_e:=mg_of X G a1
  F_H:=ap l2 c2 k2
  B_H:=(ap l2 c2 k2).binds (ps:=["top","bottom"]) fun _ _ _ _ _ _ us hl=>(by obtain ⟨_,_,rfl⟩:=us2 hl; rfl)
  m_H:=mg_of X G a2
  F_P:=ap l3 c3 k3
  B_P:=(ap l3 c3 k3).binds (ps:=["fractions"]) fun _ _ _ _ _ _ us hl=>(by obtain ⟨_,rfl⟩:=us1 hl; rfl)
  m_P:=mg_of X G a3
  F_D:=ap l4 c4 k4
  B_D:=(ap l4 c4 k4).binds (ps:=["node"]) fun _ _ _ _ _ _ us hl=>(by obtain ⟨_,rfl⟩:=us1 hl; rfl)
  m_D:=mg_of X G a4
  F_I:=ap l5 c5 k5
  B_I:=(ap l5 c5 k5).binds (ps:=["node"]) fun _ _ _ _ _ _ us hl=>(by obtain ⟨_,rfl⟩:=us1 hl; rfl)
  m_I:=mg_of X G a5
  F_i:=ap l6 c6 k6
  B_i:=(ap l6 c6 k6).binds (ps:=["node","places"]) fun _ _ _ _ _ _ us hl=>(by obtain ⟨_,_,rfl⟩:=us2 hl; rfl)
  m_i:=mg_of X G a6
  F_A:=ap l7 c7 k7
  B_A:=(ap l7 c7 k7).binds (ps:=["one","places","tops","bottom"]) fun _ _ _ _ _ _ us hl=>(by obtain ⟨_,_,_,_,rfl⟩:=us4 hl; rfl)
  m_A:=mg_of X G a7
  F_K:=ap l8 c8 k8
  B_K:=(ap l8 c8 k8).binds (ps:=["_law_script","_law_k"]) fun _ _ _ _ _ _ us hl=>(by obtain ⟨_,_,rfl⟩:=us2 hl; rfl)
  m_K:=mg_of X G a8
  F_O:=ap l9 c9 k9
  B_O:=(ap l9 c9 k9).binds (ps:=["_law_cell_here","_law_k"]) fun _ _ _ _ _ _ us hl=>(by obtain ⟨_,_,rfl⟩:=us2 hl; rfl)
  m_O:=mg_of X G a9
  F_t:=ap l10 c10 k10
  B_t:=(ap l10 c10 k10).binds (ps:=["_law_cell_here"]) fun _ _ _ _ _ _ us hl=>(by obtain ⟨_,rfl⟩:=us1 hl; rfl)
  m_t:=mg_of X G a10
  F_g:=ap l11 c11 k11
  B_g:=(ap l11 c11 k11).binds (ps:=["_law_state","_law_many"]) fun _ _ _ _ _ _ us hl=>(by obtain ⟨_,_,rfl⟩:=us2 hl; rfl)
  m_g:=mg_of X G a11
  F_J:=ap l12 c12 k12
  B_J:=(ap l12 c12 k12).binds (ps:=["_law_found"]) fun _ _ _ _ _ _ us hl=>(by obtain ⟨_,rfl⟩:=us1 hl; rfl)
  m_J:=mg_of X G a12
  F_L:=ap l13 c13 k13
  B_L:=(ap l13 c13 k13).binds (ps:=["_law_state"]) fun _ _ _ _ _ _ us hl=>(by obtain ⟨_,rfl⟩:=us1 hl; rfl)
  m_L:=mg_of X G a13
  F_B:=ap l14 c14 k14
  B_B:=(ap l14 c14 k14).binds (ps:=["_law_state","_law_deep"]) fun _ _ _ _ _ _ us hl=>(by obtain ⟨_,_,rfl⟩:=us2 hl; rfl)
  m_B:=mg_of X G a14
  F_h:=ap l15 c15 k15
  B_h:=(ap l15 c15 k15).binds (ps:=["_law_tree_here"]) fun _ _ _ _ _ _ us hl=>(by obtain ⟨_,rfl⟩:=us1 hl; rfl)
  m_h:=mg_of X G a15
  F_F:=ap l16 c16 k16
  B_F:=(ap l16 c16 k16).binds (ps:=["_law_tree_here"]) fun _ _ _ _ _ _ us hl=>(by obtain ⟨_,rfl⟩:=us1 hl; rfl)
  m_F:=mg_of X G a16
  F_y:=ap l17 c17 k17
  B_y:=(ap l17 c17 k17).binds (ps:=["_law_one","_law_other"]) fun _ _ _ _ _ _ us hl=>(by obtain ⟨_,_,rfl⟩:=us2 hl; rfl)
  m_y:=mg_of X G a17
  F_q:=ap l18 c18 k18
  B_q:=(ap l18 c18 k18).binds (ps:=["_law_top","_law_bottom"]) fun _ _ _ _ _ _ us hl=>(by obtain ⟨_,_,rfl⟩:=us2 hl; rfl)
  m_q:=mg_of X G a18
  F_M:=ap l19 c19 k19
  B_M:=(ap l19 c19 k19).binds (ps:=["_law_one","_law_other"]) fun _ _ _ _ _ _ us hl=>(by obtain ⟨_,_,rfl⟩:=us2 hl; rfl)
  m_M:=mg_of X G a19
  F_E:=ap l20 c20 k20
  B_E:=(ap l20 c20 k20).binds (ps:=["_law_one","_law_other"]) fun _ _ _ _ _ _ us hl=>(by obtain ⟨_,_,rfl⟩:=us2 hl; rfl)
  m_E:=mg_of X G a20
  F_z:=ap l21 c21 k21
  B_z:=(ap l21 c21 k21).binds (ps:=["_law_tree_here","_law_much","_law_found"]) fun _ _ _ _ _ _ us hl=>(by obtain ⟨_,_,_,rfl⟩:=us3 hl; rfl)
  m_z:=mg_of X G a21
  F_p:=ap l22 c22 k22
  B_p:=(ap l22 c22 k22).binds (ps:=["_law_rows","_law_places_here"]) fun _ _ _ _ _ _ us hl=>(by obtain ⟨_,_,rfl⟩:=us2 hl; rfl)
  m_p:=mg_of X G a22
  F_m:=ap l23 c23 k23
  B_m:=(ap l23 c23 k23).binds (ps:=["_law_rows"]) fun _ _ _ _ _ _ us hl=>(by obtain ⟨_,rfl⟩:=us1 hl; rfl)
  m_m:=mg_of X G a23
  F_x:=ap l24 c24 k24
  B_x:=(ap l24 c24 k24).binds (ps:=["_law_tree_here","_law_state"]) fun _ _ _ _ _ _ us hl=>(by obtain ⟨_,_,rfl⟩:=us2 hl; rfl)
  m_x:=mg_of X G a24
  F_G:=ap l25 c25 k25
  B_G:=(ap l25 c25 k25).binds (ps:=["_law_many","_law_sides"]) fun _ _ _ _ _ _ us hl=>(by obtain ⟨_,_,rfl⟩:=us2 hl; rfl)
  m_G:=mg_of X G a25
  F_Q:=ap l26 c26 k26
  m_Q:=mg_of X G a26
  F_l:=ap ml_8 mo_8 mk_8
  B_l:=(ap ml_8 mo_8 mk_8).binds (ps:=["self"]) fun _ _ _ _ _ _ us hl=>(by obtain ⟨_,rfl⟩:=us1 hl; rfl)
  F_o:=ap ml_1 mo_1 mk_1
  B_o:=(ap ml_1 mo_1 mk_1).binds (ps:=["self"]) fun _ _ _ _ _ _ us hl=>(by obtain ⟨_,rfl⟩:=us1 hl; rfl)
  F_u:=ap ml_9 mo_9 mk_9
  B_u:=(ap ml_9 mo_9 mk_9).binds (ps:=["self"]) fun _ _ _ _ _ _ us hl=>(by obtain ⟨_,rfl⟩:=us1 hl; rfl)
  F_C:=ap ml_2 mo_2 mk_2
  B_C:=(ap ml_2 mo_2 mk_2).binds (ps:=["self"]) fun _ _ _ _ _ _ us hl=>(by obtain ⟨_,rfl⟩:=us1 hl; rfl)
  F_r:=ap ml_b mo_b mk_b
  B_r:=(ap ml_b mo_b mk_b).binds (ps:=["self"]) fun _ _ _ _ _ _ us hl=>(by obtain ⟨_,rfl⟩:=us1 hl; rfl)
  F_v:=ap ml_4 mo_4 mk_4
  B_v:=(ap ml_4 mo_4 mk_4).binds (ps:=["self"]) fun _ _ _ _ _ _ us hl=>(by obtain ⟨_,rfl⟩:=us1 hl; rfl)
  F_s:=ap ml_a mo_a mk_a
  B_s:=(ap ml_a mo_a mk_a).binds (ps:=["self"]) fun _ _ _ _ _ _ us hl=>(by obtain ⟨_,rfl⟩:=us1 hl; rfl)
  F_w:=ap ml_3 mo_3 mk_3
  B_w:=(ap ml_3 mo_3 mk_3).binds (ps:=["self"]) fun _ _ _ _ _ _ us hl=>(by obtain ⟨_,rfl⟩:=us1 hl; rfl)
  mt_l:=⟨mf_8,mi_8,mk_8⟩
  mt_o:=⟨mf_1,mi_1,mk_1⟩
  mt_u:=⟨mf_9,mi_9,mk_9⟩
  mt_C:=⟨mf_2,mi_2,mk_2⟩
  mt_r:=⟨mf_b,mi_b,mk_b⟩
  mt_v:=⟨mf_4,mi_4,mk_4⟩
  mt_s:=⟨mf_a,mi_a,mk_a⟩
  mt_w:=⟨mf_3,mi_3,mk_3⟩
  mc_c:=mg_of X G ca_c
  cl_c:=⟨pa_c,pb_c,pc_c,pd_c⟩
  mk_c:=⟨qa_c,qb_c,qc_c,qd_c⟩
  na_Told_rising:=qn_Told_rising
  Fi_c:=ap cl_c co_c ck_c
  Bi_c:=(ap cl_c co_c ck_c).binds (ps:=["self","kept"]) fun _ _ _ _ _ _ us hl=>(by obtain ⟨_,_,rfl⟩:=us2 hl; rfl)
  mc_f:=mg_of X G ca_f
  cl_f:=⟨pa_f,pb_f,pc_f,pd_f⟩
  mk_f:=⟨qa_f,qb_f,qc_f,qd_f⟩
  na_Die_makes:=qn_Die_makes
  Fi_f:=ap cl_f co_f ck_f
  Bi_f:=(ap cl_f co_f ck_f).binds (ps:=["self","parts"]) fun _ _ _ _ _ _ us hl=>(by obtain ⟨_,_,rfl⟩:=us2 hl; rfl)
  g_MOST_WAYS:=⟨u0,mg_of X G b0,r0⟩
  mc_n:=mg_of X G ca_n
  xh_n:=uZ cc_n
  mc_k:=mg_of X G ca_k
  kc_TooMany:=cb_k
  xc_k:=xD cc_k
  xh_k:=uZ cc_k
  xi_TooMany:=cx_k
  tm:=fact_tm
  z_abs:=mg_none_of X G z0
  z_bool:=mg_none_of X G z1
  z_int:=mg_none_of X G z2
  z_isinstance:=mg_none_of X G z3
  z_len:=mg_none_of X G z4
  z_list:=mg_none_of X G z5
  z_range:=mg_none_of X G z6
  z_sorted:=mg_none_of X G z7
  z_sum:=mg_none_of X G z8
  z_tuple:=mg_none_of X G z9
  z_zip:=mg_none_of X G z10
  bl:=fun s u=>.of_eq rfl }
end My
open PySem PySem.W PyProof.Rows
namespace PySem.W.Fast
def tw13394256045776930819:=0
def tw11841775236084780199:=0
def tw9466502734419025897:=0
def tw2081950089428012587:=0
def tw5393793068365203950:=0
def tw11469386487416644720:=0
def tw11907179714801754641:=0
def tw5104729679248397491:=0
def tw5984262976539272539:=0
def tw14561375806092631707:=0
def tw3085117619322074941:=0
def tw9899206279596932991:=0
def tw10032150080615952951:=0
def tw10058010556722957208:=0
def tw10140785264274726042:=0
def tw10167038161653027419:=0
def tw10192727304165989766:=0
def tw10240167582187888046:=0
def tw10249298365912647719:=0
def tw10251927871775339227:=0
def tw10253135627401196132:=0
def tw10276520691978557625:=0
def tw1031128871063933407:=0
def tw10314005833543477790:=0
def tw10371964859876602429:=0
def tw10392966631124412268:=0
def tw1041485056464607300:=0
def tw10546005845113558934:=0
def tw10571579721061440210:=0
def tw10605246679318700175:=0
def tw10639105908549026320:=0
def tw10785594816665872045:=0
def tw10809143205372451662:=0
def tw10834873728594022647:=0
def tw10851456621172362078:=0
def tw10857393540814913580:=0
def tw10879973520819185236:=0
def tw11014145915126178384:=0
def tw11021283604967637147:=0
def tw11032479832176727649:=0
def tw1111019001274816847:=0
def tw1113450074722665695:=0
def tw11141491974286690393:=0
def tw11234259026987121542:=0
def tw11358130711855355844:=0
def tw11410450118521013716:=0
def tw11478753773890771005:=0
def tw1150323013367498617:=0
def tw1151688734137311872:=0
def tw11552298009637976166:=0
def tw1162293995021264605:=0
def tw11630228654712706535:=0
def tw11724183578075219705:=0
def tw1181838842599822913:=0
def tw11828739322579408998:=0
def tw1185505527429637121:=0
def tw11879693547808675068:=0
def tw11907622026973394546:=0
def tw11913515506325750832:=0
def tw11933638069656940739:=0
def tw11968597286504668568:=0
def tw12005393241871072831:=0
def tw12022182807426812695:=0
def tw12034915633954692823:=0
def tw12100070495388884538:=0
def tw12108402938058415768:=0
def tw12176807610193052730:=0
def tw12306969328404217961:=0
def tw12319631410191546951:=0
def tw12332223608378199600:=0
def tw1234929473243339519:=0
def tw12477412665373869011:=0
def tw12554519803858057265:=0
def tw12559377248639413555:=0
def tw12592074907438336385:=0
def tw12786066365769084094:=0
def tw12880629990843318416:=0
def tw12972330091098002514:=0
def tw13015534371326966135:=0
def tw13065208301012743733:=0
def tw1321418768575582069:=0
def tw13230274251300422619:=0
def tw1325596584296710337:=0
def tw13307247848926471715:=0
def tw13354822523216258081:=0
def tw13424432221654847822:=0
def tw1342583804627681949:=0
def tw13446852759987680997:=0
def tw13501253263199516400:=0
def tw13518064692389252384:=0
def tw13635834679616535725:=0
def tw13646638888017005620:=0
def tw13676851929836574259:=0
def tw13724421568660958856:=0
def tw13736989256448384699:=0
def tw13779413069684340085:=0
def tw13937221990550447849:=0
def tw14088487740363973453:=0
def tw14100865284368655747:=0
def tw14122298387421842847:=0
def tw1415347896757124485:=0
def tw14186546275568588582:=0
def tw14202536807321783829:=0
def tw14239051345521830214:=0
def tw14250764944122226863:=0
def tw14311648480178156786:=0
def tw14313677936714464854:=0
def tw14434929898955180286:=0
def tw14467767058864887087:=0
def tw14530942718184172978:=0
def tw14580674103856373993:=0
def tw14733308048653308350:=0
def tw1474139655246412527:=0
def tw14744619679092846115:=0
def tw14982667781834246843:=0
def tw15040421176471660070:=0
def tw15085666937185912723:=0
def tw15197040574288361878:=0
def tw15229595969888315054:=0
def tw15273984748802281240:=0
def tw15367120812389597926:=0
def tw15392973702650700311:=0
def tw15506881893245180467:=0
def tw15550619448097505902:=0
def tw15554692848130255352:=0
def tw15595845594135083970:=0
def tw15670784899901333185:=0
def tw15671954126910761744:=0
def tw15731492858767889312:=0
def tw15740441211077523428:=0
def tw15777158708743767827:=0
def tw15833116240173613682:=0
def tw15975173566338072287:=0
def tw16054421074122009824:=0
def tw16058860175904983108:=0
def tw16066161704782783238:=0
def tw16101184299696707396:=0
def tw16444809103366045931:=0
def tw16507989800155782668:=0
def tw16528912826690616969:=0
def tw16628592722410245735:=0
def tw16656846296986787243:=0
def tw16812572004913834654:=0
def tw16861290383232895207:=0
def tw16878167979289159143:=0
def tw16879956299784867294:=0
def tw16917268480818200468:=0
def tw17067522402042792454:=0
def tw17152079133124315808:=0
def tw17206400601653188729:=0
def tw17248891971838722827:=0
def tw17369034945913203528:=0
def tw17395229783794924445:=0
def tw17400237374602903527:=0
def tw17510509311405849209:=0
def tw17522314507805341970:=0
def tw17525358679883063845:=0
def tw17556869478497557381:=0
def tw17557967565997727623:=0
def tw17575019458049116636:=0
def tw17642136464205062223:=0
def tw17670190253188050328:=0
def tw17696430815080447028:=0
def tw17736845826128012957:=0
def tw17798351659450175962:=0
def tw17856449868335721191:=0
def tw1785685041798503070:=0
def tw17967023595804334926:=0
def tw17974980913852247478:=0
def tw18014861564865965900:=0
def tw18092720450892936139:=0
def tw18153014571255163779:=0
def tw18275884127560004277:=0
def tw18304345296591270408:=0
def tw18370228773351304543:=0
def tw18428026159432662920:=0
def tw18442358310929314980:=0
def tw1890747869795104715:=0
def tw2021160746411262724:=0
def tw2036654225508804149:=0
def tw2119660585778158021:=0
def tw2182012958668546573:=0
def tw2231524104683139761:=0
def tw2243910440225139539:=0
def tw2293271415657495530:=0
def tw2296957471268699996:=0
def tw2414542442570398546:=0
def tw2500623509559994246:=0
def tw2755163887358742016:=0
def tw2816370065485160110:=0
def tw282306814806567158:=0
def tw2831050916637263460:=0
def tw2947117226748147997:=0
def tw2960670448559023443:=0
def tw2991864630639164724:=0
def tw3000022921366847519:=0
def tw3011650698258101514:=0
def tw3109730394374327502:=0
def tw3182401563599021516:=0
def tw330473732516145392:=0
def tw3322525162666532677:=0
def tw3372922716787184676:=0
def tw3421508571617982116:=0
def tw3512964881990347444:=0
def tw3574057145523931500:=0
def tw3609329321737327197:=0
def tw3709569918007567837:=0
def tw3760210857013066845:=0
def tw3823248100424596401:=0
def tw393906728903257714:=0
def tw4053568549934211586:=0
def tw410081823049516207:=0
def tw4390773849770936161:=0
def tw4445080492775053450:=0
def tw4445094203736349295:=0
def tw4671736657454482753:=0
def tw4773711050279531536:=0
def tw4844572177679670398:=0
def tw4894901482424206266:=0
def tw4963923741681447942:=0
def tw4981027637816091343:=0
def tw5020232340938558192:=0
def tw5025127791074632043:=0
def tw5058633201192136699:=0
def tw5061233923051013571:=0
def tw5071189951766628319:=0
def tw5077490554239169309:=0
def tw512202664470840809:=0
def tw5138345502367490084:=0
def tw5171850761338400386:=0
def tw5193147238049444912:=0
def tw5223011639427779711:=0
def tw5308888432141227543:=0
def tw5353742540403097798:=0
def tw5358567315195077991:=0
def tw5373718128942331674:=0
def tw5380391530846409935:=0
def tw538287469400159851:=0
def tw5432818063452292347:=0
def tw5534565900278153159:=0
def tw5608484863317981885:=0
def tw5650362612376083454:=0
def tw5725858451793775398:=0
def tw5735754249739641970:=0
def tw5756111377550172854:=0
def tw5801340268056118219:=0
def tw5974255804815436290:=0
def tw6044795375888279708:=0
def tw6215107859694921998:=0
def tw6237834908147768015:=0
def tw6323079352238933208:=0
def tw6377951493575621716:=0
def tw6378720648727459142:=0
def tw6433658432017385842:=0
def tw6435928314932407931:=0
def tw6452572073310551899:=0
def tw6490714042367283396:=0
def tw6518232847195032263:=0
def tw6540816502140147383:=0
def tw6546308038443284332:=0
def tw6631460038778544304:=0
def tw6636636273739296280:=0
def tw6671773312715570313:=0
def tw6672060593832940888:=0
def tw6675101305783456441:=0
def tw6713442656424345000:=0
def tw6728278609343353001:=0
def tw6757424226883724120:=0
def tw6856340903188145863:=0
def tw6872746272637684696:=0
def tw6914578832419818754:=0
def tw6917975070286058326:=0
def tw6946642353889241078:=0
def tw6960469890763773794:=0
def tw6972277030812039933:=0
def tw7044885928343370033:=0
def tw7072475443649171148:=0
def tw7104620336465786907:=0
def tw7205666510413331527:=0
def tw7210078894413340914:=0
def tw7290734825846288941:=0
def tw7353263885776866079:=0
def tw7400889845010855317:=0
def tw7403366785551199982:=0
def tw7408716336589506318:=0
def tw7412200341187583527:=0
def tw7503518221961219939:=0
def tw7556928136173621902:=0
def tw75577561565408438:=0
def tw7609141577196542982:=0
def tw7668792958580045288:=0
def tw7753599543179886027:=0
def tw7889092372888647869:=0
def tw7928521411044685911:=0
def tw8030403646598638866:=0
def tw8048440974269658930:=0
def tw8117812035945900029:=0
def tw8122686989516098719:=0
def tw8145433145143269312:=0
def tw8189498935764010226:=0
def tw8236507142602729342:=0
def tw8236980238202198411:=0
def tw8370990481141869848:=0
def tw850022909022307064:=0
def tw8566529234288639161:=0
def tw8604320276073009075:=0
def tw8632625656328430256:=0
def tw8667404670596653473:=0
def tw8750308138005480319:=0
def tw8763369750991403317:=0
def tw8784961640212725171:=0
def tw887485983250553081:=0
def tw8896046043869185363:=0
def tw890100482569230086:=0
def tw9037901115574109479:=0
def tw9069145740026217626:=0
def tw9080551303023830863:=0
def tw9134710969978159890:=0
def tw914206065429290030:=0
def tw9166644755905996634:=0
def tw9269950612799716317:=0
def tw927544472211307608:=0
def tw9381090706355594712:=0
def tw9421465109000946918:=0
def tw9469627341772047453:=0
def tw9509770480790877965:=0
def tw9571266764709134088:=0
def tw9596070789967960686:=0
def tw9607254698418421493:=0
def tw9669973889483595861:=0
def tw9731429164417297438:=0
def tw9772012233167515257:=0
def tw9788534410177006348:=0
def tw9968794087291335851:=0
end PySem.W.Fast
set_option maxRecDepth 100000 in
set_option maxHeartbeats 0 in
theorem PySem.Challenge.cw_fewspeak_k14_tables_holds : PySem.Challenge.rw_fewspeak_k14_tables.Holds := by
 w_on; o_law; k_head; (case hw=>w_witness2)
 k_fill
 refine L2.walk_ofT (l:=PySem.Challenge.rw_fewspeak_k14_tables) (n:=63) (k:=My.lawK) (x := "_law_script") (CX:=L2.CX0) (sp:=My.spLaw) rfl (by decide) rfl ⟨rfl,by decide,by decide⟩ (fun w h Y=>⟨PySem.W.km_in_of Y,PySem.W.km_tabs_of Y⟩) ?F ?S ?C
 case F =>
  intro ts' hts w mg fa h KX G hmg
  have T:∃ a,My.Txt (L2.KOf KX) mg a∧(My.tabs a).map (·.1)=ts':=by
   rw[hts]
   dsimp only[L2.KOf]
   refine' My.txt_mk KX G ?a0 ?l0 ?c0 ?k0 ?a1 ?l1 ?c1 ?k1 ?a2 ?l2 ?c2 ?k2 ?a3 ?l3 ?c3 ?k3 ?a4 ?l4 ?c4 ?k4 ?a5 ?l5 ?c5 ?k5 ?a6 ?l6 ?c6 ?k6 ?a7 ?l7 ?c7 ?k7 ?a8 ?l8 ?c8 ?k8 ?a9 ?l9 ?c9 ?k9 ?a10 ?l10 ?c10 ?k10 ?a11 ?l11 ?c11 ?k11 ?a12 ?l12 ?c12 ?k12 ?a13 ?l13 ?c13 ?k13 ?a14 ?l14 ?c14 ?k14 ?a15 ?l15 ?c15 ?k15 ?a16 ?l16 ?c16 ?k16 ?a17 ?l17 ?c17 ?k17 ?a18 ?l18 ?c18 ?k18 ?a19 ?l19 ?c19 ?k19 ?a20 ?l20 ?c20 ?k20 ?a21 ?l21 ?c21 ?k21 ?a22 ?l22 ?c22 ?k22 ?a23 ?l23 ?c23 ?k23 ?a24 ?l24 ?c24 ?k24 ?a25 ?l25 ?c25 ?k25 ?a26 ?l26 ?c26 ?k26 ?b0 ?ca_n ?cb_n ?cc_n ?cx_n ?ca_j ?cb_j ?cc_j ?cf_j ?cx_j ?cg_j ?cl_j ?co_j ?ck_j ?cs_NoThrow_place ?ca_k ?cb_k ?cc_k ?cx_k ?ca_N ?pa_N ?pb_N ?pc_N ?pd_N ?pe_N ?pf_N ?pg_N ?ph_N ?ca_c ?pa_c ?pb_c ?pc_c ?pd_c ?pe_c ?pf_c ?pg_c ?ph_c ?qa_c ?qb_c ?qc_c ?qd_c ?qn_Told_rising ?cl_c ?co_c ?ck_c ?ca_f ?pa_f ?pb_f ?pc_f ?pd_f ?pe_f ?pf_f ?pg_f ?ph_f ?qa_f ?qb_f ?qc_f ?qd_f ?qn_Die_makes ?cl_f ?co_f ?ck_f ?mf_8 ?ml_8 ?mo_8 ?mk_8 ?mi_8 ?mf_1 ?ml_1 ?mo_1 ?mk_1 ?mi_1 ?mf_9 ?ml_9 ?mo_9 ?mk_9 ?mi_9 ?mf_2 ?ml_2 ?mo_2 ?mk_2 ?mi_2 ?mf_b ?ml_b ?mo_b ?mk_b ?mi_b ?mf_4 ?ml_4 ?mo_4 ?mk_4 ?mi_4 ?mf_a ?ml_a ?mo_a ?mk_a ?mi_a ?mf_3 ?ml_3 ?mo_3 ?mk_3 ?mi_3 ?lca_5 ?lct_5 ?lcq_5 ?lch_h ?ltnd ?fact_tm ?z0 ?z1 ?z2 ?z3 ?z4 ?z5 ?z6 ?z7 ?z8 ?z9 ?z10 ?r0
   case a0|l0|c0|k0|a1|l1|c1|k1|a2|l2|c2|k2|a3|l3|c3|k3|a4|l4|c4|k4|a5|l5|c5|k5|a6|l6|c6|k6|a7|l7|c7|k7|a8|l8|c8|k8|a9|l9|c9|k9|a10|l10|c10|k10|a11|l11|c11|k11|a12|l12|c12|k12|a13|l13|c13|k13|a14|l14|c14|k14|a15|l15|c15|k15|a16|l16|c16|k16|a17|l17|c17|k17|a18|l18|c18|k18|a19|l19|c19|k19|a20|l20|c20|k20|a21|l21|c21|k21|a22|l22|c22|k22|a23|l23|c23|k23|a24|l24|c24|k24|a25|l25|c25|k25|a26|l26|c26|k26|b0|ca_n|cb_n =>k_is
   case cc_n|cx_n =>kernel_rfl
   case ca_j|cb_j =>k_is
   case cc_j =>kernel_rfl
   case cf_j =>k_is
   case cx_j =>kernel_rfl
   case cg_j|cl_j|co_j|ck_j =>k_is
   case cs_NoThrow_place =>kernel_rfl
   case ca_k|cb_k =>k_is
   case cc_k|cx_k =>kernel_rfl
   case ca_N =>k_is
   case pa_N|pb_N|pc_N|pd_N|pe_N|pf_N|pg_N|ph_N =>(first | k_is | kernel_rfl)
   case ca_c =>k_is
   case pa_c|pb_c|pc_c|pd_c|pe_c|pf_c|pg_c|ph_c|qa_c|qb_c|qc_c|qd_c|qn_Told_rising =>(first | k_is | kernel_rfl)
   case cl_c|co_c|ck_c|ca_f =>k_is
   case pa_f|pb_f|pc_f|pd_f|pe_f|pf_f|pg_f|ph_f|qa_f|qb_f|qc_f|qd_f|qn_Die_makes =>(first | k_is | kernel_rfl)
   case cl_f|co_f|ck_f =>k_is
   case mf_8 =>(first | k_is | kernel_rfl)
   case ml_8|mo_8|mk_8 =>k_is
   case mi_8|mf_1 =>(first | k_is | kernel_rfl)
   case ml_1|mo_1|mk_1 =>k_is
   case mi_1|mf_9 =>(first | k_is | kernel_rfl)
   case ml_9|mo_9|mk_9 =>k_is
   case mi_9|mf_2 =>(first | k_is | kernel_rfl)
   case ml_2|mo_2|mk_2 =>k_is
   case mi_2|mf_b =>(first | k_is | kernel_rfl)
   case ml_b|mo_b|mk_b =>k_is
   case mi_b|mf_4 =>(first | k_is | kernel_rfl)
   case ml_4|mo_4|mk_4 =>k_is
   case mi_4|mf_a =>(first | k_is | kernel_rfl)
   case ml_a|mo_a|mk_a =>k_is
   case mi_a|mf_3 =>(first | k_is | kernel_rfl)
   case ml_3|mo_3|mk_3 =>k_is
   case mi_3 =>(first | k_is | kernel_rfl)
   case lca_5 =>exact rfl
   case lct_5 =>k_is
   case lcq_5 =>exact rfl
   case lch_h =>kernel_rfl
   case ltnd =>decide
   case fact_tm =>kernel_rfl
   case z0|z1|z2|z3|z4|z5|z6|z7|z8|z9|z10 =>k_is
   case r0 =>first | exact rfl | exact ⟨_,rfl⟩
  obtain ⟨a,T,e1⟩:=T
  have e1:=e1.trans hts
  have e0:=hmg.symm.trans T.m_Q
  cases e0
  refine' ⟨a.d_Q,?b,?t,?u,fun base kb nb hB=>My.ok_law T hB ?v⟩
  case b=>exact T.bl
  case t =>
   intro P hP
   have hP:=e1.symm ▸ hP
   simp only[My.tabs,map_cons,map_nil,mem_cons,not_mem_nil,or_false]at hP
   rcases hP with rfl
   ·exact ⟨_,T.lch_h⟩
  case u =>
   intro P hP
   simp only[mem_cons,not_mem_nil,or_false]at hP
   rcases hP with rfl <;> kernel_rfl
  case v =>
   intro q hq
   rw[← e1]
   exact List.mem_map_of_mem hq
 case S=>exact fun K H a ns hl hO hS=>My.law_start hl hO hS
 case C=>exact fun H s e s' z=>z
