import PyProof.Rows.All
import Wide.All
import OpenK.AllK
import Wide.FinOn
import Lean
import PyProof.EqAt
import PyProof.EqKinds
import PyProof.TupleCall
import PySem.Challenge.RW_fewspeak_k67_whole_each_set_with_one_sha
open PySem.W(CodeHd FnAt Frag InstAt any_some callWith_K callWith_K0 cellsFrom_some clsIn codeHdIn codeHd_of_K codeIn codeRec_of emptyDict findIn fnOf handedIn hasDictIn instObj isFn keepIn kitOne kitx_dict kitx_list kitx_tuple kla_fn kla_obj lookIn looks_clsIn looks_findIn looks_mroIn looks_typeIn makesIn methodCall_KW methodObj mg_none_of mg_of mroIn nsIn nsOkIn osa_eq plainGet plainGet_of plainOver specialIn tabObj tailIn takerIn takesIn typeIn)
open List(all_cons all_eq_true all_map all_toArray any_cons append_assoc append_nil cons_append drop_drop drop_sublist drop_take drop_zero ext_getElem filter_append filter_cons filter_eq_nil_iff flatten_cons foldl_cons forIn_cons getElem_map getElem_mem getElem_range getElem_set length_append length_cons length_drop length_filter_le length_map length_pos_of_mem length_range length_set length_singleton length_take lookup_cons mapM_toArray map_append map_congr_left map_cons map_const' map_drop map_id map_map map_nil map_take mem_append mem_append_left mem_append_right mem_cons mem_cons_of_mem mem_cons_self mem_filter mem_iff_getElem mem_map mem_of_mem_drop mem_of_mem_take mem_range mem_singleton nil_append nodup_append nodup_cons nodup_nil nodup_range not_mem_nil of_mem_zip pairwise_append pairwise_cons pairwise_iff_getElem pairwise_map perm_append_comm replicate_succ singleton_append size_toArray sum_append sum_cons sum_nil take_add take_add_one take_append_drop take_length take_of_length_le take_sublist take_zero toList_toArray)
noncomputable section
set_option Elab.async false
set_option linter.all false
set_option maxRecDepth 100000
namespace L2
open PySem PySem.Spec PyProof.Rows
abbrev Key:=Sum Int Str
def kx:Key->Value->Bool
 | .inl k,v=>Value.isInt k v
 | .inr x,v=>Value.isStrOf x v
def BD(w:World):Key->Int
 | .inl k=>hashInt k
 | .inr x=>hashStr w x
theorem bK:∀{k:Key}{v:Value},kx k v=true->(∃ i t,k=Sum.inl i/\v=Value.int i t)\/(∃ x t,k=Sum.inr x/\v=Value.str x t)
 | .inl i,v,h=>by
  obtain⟨t,e⟩:=Value.isInt_shape (k:=i) (v:=v) h;exact .inl ⟨i,t,rfl,e⟩
 | .inr x,v,h=>by
  obtain⟨t,e⟩:=Value.isStrOf_shape (x:=x) (v:=v) h;exact .inr ⟨x,t,rfl,e⟩
theorem rj(i:Int)(t:Tok):kx (.inl i) (.int i t)=true:=by simp[kx,Value.isInt]
theorem sE(x:Str)(t:Tok):kx (.inr x) (.str x t)=true:=by simp[kx,Value.isStrOf]
theorem yr(a b:Int):decide ((Sum.inl a:Key)=Sum.inl b)=(a == b):=by
 by_cases e:a=b
 .subst e;simp
 .have h:¬(Sum.inl a:Key)=Sum.inl b:=λq=>e (Sum.inl.inj q)
  rw[decide_eq_false h];exact(beq_eq_false_iff_ne.mpr e).symm
theorem yV(a b:Str):decide ((Sum.inr a:Key)=Sum.inr b)=decide (a=b):=by
 by_cases e:a=b
 .subst e;simp
 .have h:¬(Sum.inr a:Key)=Sum.inr b:=λq=>e (Sum.inr.inj q)
  rw[decide_eq_false h,decide_eq_false e]
theorem yL(a:Int)(b:Str):decide ((Sum.inl a:Key)=Sum.inr b)=false:=decide_eq_false (λq=>nomatch q)
theorem yT(a:Str)(b:Int):decide ((Sum.inr a:Key)=Sum.inl b)=false:=decide_eq_false (λq=>nomatch q)
def bN(prog:Program)(w:World):PySem.KeyKind prog w Key where
 is:=kx
 hash:=BD w
 inj:=λv a b ha hb=>by
  rcases bK ha with⟨i,t,rfl,rfl⟩ | ⟨x,t,rfl,rfl⟩
  .rcases bK hb with⟨j,u,rfl,e⟩ | ⟨y,u,rfl,e⟩
   .injection e with e1 _;rw[e1]
   .exact nomatch e
  .rcases bK hb with⟨j,u,rfl,e⟩ | ⟨y,u,rfl,e⟩
   .exact nomatch e
   .injection e with e1 _;rw[e1]
 byValue:=λk v h=>by
  rcases bK h with⟨i,t,rfl,rfl⟩ | ⟨x,t,rfl,rfl⟩ <;> rfl
 pyHash:=λhv h=>by
  rcases bK hv with⟨i,t,rfl,rfl⟩ | ⟨x,t,rfl,rfl⟩
  .exact wpAny_pyHash_int h
  .exact wpAny_pyHash_str h
 eqBool:=λhu hv h=>by
  rcases bK hu with⟨i,t,rfl,rfl⟩ | ⟨x,t,rfl,rfl⟩
  .rcases bK hv with⟨j,u,rfl,rfl⟩ | ⟨y,u,rfl,rfl⟩
   .rw[yr]at h;exact wpAny_eqBool_int h
   .rw[yL]at h;exact SeqAt.EqAt.int_str i t y u _ _ _ _ h
  .rcases bK hv with⟨j,u,rfl,rfl⟩ | ⟨y,u,rfl,rfl⟩
   .rw[yT]at h;exact SeqAt.EqAt.str_int x t j u _ _ _ _ h
   .rw[yV]at h;exact wpAny_eqBool_str h
 «strs»:=λk x t v h=>by
  rcases bK h with⟨i,u,rfl,e⟩ | ⟨y,u,rfl,e⟩
  .exact nomatch e
  .injection e with e1 _
   subst e1
   cases v <;> rfl
theorem nr(prog:Program)(w:World)(i:Int)(t:Tok):(bN prog w).is (.inl i) (.int i t)=true:=rj i t
theorem mE(prog:Program)(w:World)(x:Str)(t:Tok):(bN prog w).is (.inr x) (.str x t)=true:=sE x t
inductive V where
 | non | bl (b:Bool) | int (i:Int) | str (x:Str) | byt (b:Array UInt8) | flt (b:UInt64) | ref (a:Addr) | ty (n:String)
 deriving DecidableEq
def RelV:V->Value->Prop
 | .non,u=>u=Value.none
 | .bl b,u=>u=Value.bool b
 | .int i,u=>∃ t,u=Value.int i t
 | .str x,u=>∃ t,u=Value.str x t
 | .byt b,u=>∃ t,u=Value.bytes b t
 | .flt b,u=>∃ t,u=Value.float b t
 | .ref a,u=>u=Value.ref a
 | .ty n,u=>u=Value.type n
abbrev Vals:List V->List Value->Prop:=Paired RelV
theorem Vals.length{xs:List V}{us:List Value}(r:Vals xs us):xs.length=us.length:=Paired.length r
theorem Vals.get:∀{xs:List V}{us:List Value}{i:Nat}{x:V},Vals xs us->xs[i]? = some x->∃ u,us[i]? = some u/\RelV x u
 | _,_,_,_,.nil,e=>by simp at e
 | _,_,0,_,.cons r _,e=>by simp at e;subst e;exact⟨_,rfl,r⟩
 | _,_,i+1,x,.cons _ t,e=>by
  obtain⟨u,a,b⟩:=Vals.get (i:=i) (x:=x) t (by simpa using e);exact⟨u,by simpa using a,b⟩
theorem Vals.append:∀{xs ys:List V}{us ws:List Value},Vals xs us->Vals ys ws->Vals (xs++ys) (us++ws)
 | _,_,_,_,.nil,s=>s
 | _,_,_,_,.cons r t,s=>.cons r (Vals.append t s)
theorem Vals.take:∀{xs:List V}{us:List Value}(n:Nat),Vals xs us->Vals (xs.take n) (us.take n)
 | _,_,0,_=>.nil
 | _,_,_+1,.nil=>.nil
 | _,_,n+1,.cons r t=>.cons r (Vals.take n t)
theorem Vals.drop:∀{xs:List V}{us:List Value}(n:Nat),Vals xs us->Vals (xs.drop n) (us.drop n)
 | _,_,0,r=>r
 | _,_,_+1,.nil=>.nil
 | _,_,n+1,.cons _ t=>Vals.drop n t
def RelO:Option V->Option Value->Prop
 | some v,some u=>RelV v u
 | none,none=>True
 | _,_=>False
def KV{κ:Type}:List (κ×V)->List (κ×Value)->Prop:=Paired λ(p:κ×V) (q:κ×Value)=>p.1=q.1/\RelV p.2 q.2
def kV:Key->V
 | .inl i=>.int i
 | .inr x=>.str x
inductive HO where
 | lst (xs:List V)
 | tup (xs:List V)
 | dK (kvs:List (Key×V)) | dT (kvs:List (List Key×V))
 | set (S:Int->Bool) (n:Nat)
 | ins (C dx:Addr) (fs:List (Str×V))
 | own (x:Addr)
 | xd (fs:List (Str×V))
 | met (f x:Addr)
 | rng (lo hi:Int)
 | frz (o:Obj) (u:HO)
 | tbl (ps:Array Value)
 | ext (φ:Heap->Prop)
abbrev Hp:=Addr->Option HO
def upd(H:Hp)(a:Addr)(o:HO):Hp:=λb=>if b=a then some o else H b
theorem ae{H:Hp}{a:Addr}{o:HO}:upd H a o a=some o:=by unfold upd;rw[if_pos rfl]
theorem ag{H:Hp}{a b:Addr}{o:HO}(h:b≠a):upd H a o b=H b:=by unfold upd;rw[if_neg h]
theorem wg{H:Hp}{a:Addr}{o u:HO}:upd (upd H a o) a u=upd H a u:=by
 funext b;unfold upd;split <;> rfl
theorem dD{H:Hp}{a b:Addr}{o u:HO}(h:H a=some o)(h':H b=some u)(d:o≠u):a≠b:=by
 intro e;subst e;rw[h]at h';exact d (Option.some.inj h')
theorem aE{H:Hp}{a b:Addr}{o:HO}(h:H a=some o)(h':H b=none):a≠b:=by
 intro e;subst e;rw[h]at h';cases h'
section
variable (P:Program) (w:World)
def ObjOk(H:Hp)(h:Heap)(a:Addr):HO->Prop
 | .lst xs=>xs.length<=sizeLine/\∃(its:List Value) (n:Nat),Vals xs its/\h.get? a=some { cls:=.type "list",data:=.seq its.toArray n }
 | .tup xs=>xs.length<=sizeLine/\∃ its:List Value,Vals xs its/\IsTup h a its.toArray
 | .dK kvs=>kvs.length<=sizeLine/\(a == sysModules)=false/\∃ vs,KV kvs vs/\h.DictOf (bN P w) a vs
 | .dT kvs=>kvs.length<=sizeLine/\(a == sysModules)=false/\∃ xs:List (List Key×Addr×Value),
   Paired (λ(p:List Key×V) (q:List Key×Addr×Value)=>p.1=q.1/\H q.2.1=some (.tup (p.1.map kV))/\RelV p.2 q.2.2) kvs xs /\
   ∃ o es ep,h.get? a=some o/\o.ExactDict/\o.data=.dict es ep/\es.toList=xs.map (entryOfKey (tupleKind (bN P w)))/\(xs.map (·.1)).Nodup
 | .set S n=>h.SetOf (intKind P w) a S n
 | .ins C dx fs=>H dx=some (.own a)/\fs.length<=1000/\dx≠a/\h.get? a=some (instObj C dx) /\
   ∃ mA,h.Ns1 dx mA/\(∀ f,RelO (fs.lookup f) (mA f))/\PySem.Within mA (fs.map (·.1))
 | .own _=>∃ o,h.get? a=some o
 | .xd fs=>∃ mA,h.Ns1 a mA/\∀ f,RelO (fs.lookup f) (mA f)
 | .rng lo hi=>∃ t u v,h.get? a=some { cls:=.type "range",data:=.fields #[.int lo t,.int hi u,.int 1 v] }
 | .frz o u=>h.get? a=some o/\ObjOk H h a u
 | .tbl ps=>h.get? a=some { cls:=.none,data:=.fields ps }
 | .met f x=>h.get? a=some (methodObj (.ref f) (.ref x))
 | .ext φ=>φ h/\(∃ o,h.get? a=some o)/\∀ h1 h2:Heap,φ h1->(∀ o,h1.get? a=some o->h2.get? a=some o)->φ h2
def HOk(H:Hp)(h:Heap):Prop:=∀ a o,H a=some o->ObjOk P w H h a o
end
section
variable {P:Program}{w:World}{H H':Hp}{h h':Heap}{a:Addr}{o:HO}
theorem ObjOk.lt(x:ObjOk P w H h a o):a<h.objs.size:=by
 cases o with
 | lst xs=>obtain⟨_,_,_,_,e⟩:=x;exact Heap.lt_size e
 | tup xs=>obtain⟨_,_,_,p⟩:=x;exact p.lt
 | dK kvs=>obtain⟨_,_,_,_,o,_,_,e,_⟩:=x;exact Heap.lt_size e
 | dT kvs=>obtain⟨_,_,_,_,o,_,_,e,_⟩:=x;exact Heap.lt_size e
 | set S n=>obtain⟨o,_,_,_,e,_⟩:=x;exact Heap.lt_size e
 | ins C dx fs=>obtain⟨_,_,_,e,_⟩:=x;exact Heap.lt_size e
 | own y=>obtain⟨_,e⟩:=x;exact Heap.lt_size e
 | xd fs=>obtain⟨_,⟨_,_,_,e,_⟩,_⟩:=x;exact Heap.lt_size e
 | rng lo hi=>obtain⟨_,_,_,e⟩:=x;exact Heap.lt_size e
 | frz ob u=>obtain⟨e,_⟩:=x;exact Heap.lt_size e
 | tbl ps=>exact Heap.lt_size (show h.get? a=some _ from x)
 | met f y=>exact Heap.lt_size (show h.get? a=some _ from x)
 | ext φ=>obtain⟨_,⟨_,e⟩,_⟩:=x;exact Heap.lt_size e
theorem Paired.mapP{d c:Type}{F G:d->c->Prop}:∀{l₁:List d}{l₂:List c},Paired F l₁ l₂->(∀ a b,F a b->G a b)->Paired G l₁ l₂
 | _,_,.nil,_=>.nil
 | _,_,.cons r t,f=>.cons (f _ _ r) (Paired.mapP t f)
theorem ObjOk.stay(x:ObjOk P w H h a o)(k:∀ b u,(b=a\/H b=some (.own a))->h.get? b=some u->h'.get? b=some u)
  (D:∀ b,H b=some (.own a)->H' b=some (.own a)) (E:∀ b xs,H b=some (.tup xs)->H' b=some (.tup xs)):ObjOk P w H' h' a o:=by
 induction o with
 | lst xs=>obtain⟨z,l,n,r,e⟩:=x;exact⟨z,l,n,r,k _ _ (.inl rfl) e⟩
 | tup xs=>obtain⟨z,l,r,g,e,c⟩:=x;exact⟨z,l,r,g,k _ _ (.inl rfl) e,c⟩
 | dK kvs=>obtain⟨z,y,G,r,g,i,j,e,c⟩:=x;exact⟨z,y,G,r,g,i,j,k _ _ (.inl rfl) e,c⟩
 | dT kvs =>
  obtain⟨z,y,xs,r,g,i,j,e,c⟩:=x;exact⟨z,y,xs,Paired.mapP r λp q z=>⟨z.1,E _ _ z.2.1,z.2.2⟩,g,i,j,k _ _ (.inl rfl) e,c⟩
 | set S n=>obtain⟨g,i,j,t,e,c⟩:=x;exact⟨g,i,j,t,k _ _ (.inl rfl) e,c⟩
 | ins C dx fs =>
  obtain⟨d,z,F,e,A,⟨s,i,j,I,c⟩,r⟩:=x;exact⟨D _ d,z,F,k _ _ (.inl rfl) e,A,⟨s,i,j,k _ _ (.inr d) I,c⟩,r⟩
 | own y=>obtain⟨g,e⟩:=x;exact⟨g,k _ _ (.inl rfl) e⟩
 | xd fs=>obtain⟨A,⟨s,i,j,e,c⟩,r⟩:=x;exact⟨A,⟨s,i,j,k _ _ (.inl rfl) e,c⟩,r⟩
 | rng lo hi=>obtain⟨t,u,v,e⟩:=x;exact⟨t,u,v,k _ _ (.inl rfl) e⟩
 | frz g u ih=>obtain⟨e,q⟩:=x;exact⟨k _ _ (.inl rfl) e,ih q⟩
 | tbl ps =>
  have e:h.get? a=some { cls:=.none,data:=.fields ps }:=x;show h'.get? a=some { cls:=.none,data:=.fields ps };exact k a _ (.inl rfl) e
 | met f y =>
  have e:h.get? a=some (methodObj (.ref f) (.ref y)):=x;show h'.get? a=some (methodObj (.ref f) (.ref y));exact k a _ (.inl rfl) e
 | ext φ=>obtain⟨p,⟨o,e⟩,B⟩:=x;exact⟨B _ _ p λo q=>k _ _ (.inl rfl) q,⟨o,k _ _ (.inl rfl) e⟩,B⟩
theorem HOk.lt(x:HOk P w H h)(e:H a=some o):a<h.objs.size:=(x a o e).lt
theorem HOk.fresh(x:HOk P w H h)(e:h.objs.size<=a):H a=none:=by
 cases q:H a with
 | none=>rfl
 | some u=>exact absurd (Nat.lt_of_lt_of_le (x.lt q) e) (Nat.lt_irrefl _)
theorem HOk.kept(x:HOk P w H h)(k:∀ b u,h.get? b=some u->h'.get? b=some u):HOk P w H h':=λa o e =>
 (x a o e).stay (λb u _ q=>k b u q) (λ_ q=>q) λ_ _ q=>q
theorem HOk.laid(x:HOk P w H h)(k:∀ b u,h.get? b=some u->h'.get? b=some u)(g:h.objs.size<=a)(d:ObjOk P w (upd H a o) h' a o):HOk P w (upd H a o) h':=λb u e=>by
 have f:=x.fresh g
 by_cases hb:b=a
 .subst hb;rw[ae]at e;cases e;exact d
 .rw[ag hb]at e
  exact(x b u e).stay (λc v _ q=>k c v q) (λc q=>by rw[ag (aE q f)];exact q) λc xs q=>by rw[ag (aE q f)];exact q
end
def Rd(H:Hp)(a:Addr)(u:HO):Prop:=H a=some u\/∃ o,H a=some (.frz o u)
theorem Rd.ok{P:Program}{w:World}{H:Hp}{h:Heap}{a:Addr}{u:HO}(r:Rd H a u)(x:HOk P w H h):ObjOk P w H h a u:=by
 rcases r with r | ⟨o,r⟩
 .exact x a u r
 .obtain⟨_,q⟩:=x a _ r
  exact q
def Mut:Option HO->Prop
 | some (.lst _)=>True
 | some (.dK _)=>True
 | some (.dT _)=>True
 | some (.set _ _)=>True
 | some (.ins _ _ _)=>True
 | some (.ext _)=>True
 | _=>False
section
variable {P:Program}{w:World}{H:Hp}{h h':Heap}{x e:Addr}{o':HO}
theorem HOk.write(o:HOk P w H h)(g:Mut (H x))(l:e=x\/H e=some (.own x))(k:∀ b u,b≠e->h.get? b=some u->h'.get? b=some u)(j:∃ u,h'.get? e=some u)
  (i:ObjOk P w (upd H x o') h' x o'):HOk P w (upd H x o') h':=λb u q=>by
 have a:∀ c y,H c=some (.own y)->c≠x:=λc y r z=>by subst z;rw[r]at g;exact g
 have d:∀ c f,H c=some (.tup f)->c≠x:=λc f r z=>by subst z;rw[r]at g;exact g
 by_cases hb:b=x
 .subst hb;rw[ae]at q;cases q;exact i
 .rw[ag hb]at q
  by_cases hbe:b=e
  .have n:H b=some (.own x):=by
    rcases l with z | z
    .exact absurd (hbe.trans z) hb
    .rw[hbe];exact z
   rw[q]at n;cases n;obtain⟨v,p⟩:=j;exact⟨v,by rw[hbe];exact p⟩
  .refine(o b u q).stay (λc v hc r=>k c v ?_ r) (λc r=>by rw[ag (a c b r)];exact r) λc f r=>by rw[ag (d c f r)];exact r
   rcases hc with rfl | hc
   .exact hbe
   .rintro rfl
    rcases l with z | z
    .exact a c b hc z
    .rw[hc]at z;cases z;exact hb rfl
end
structure Un(fs ex:List Addr)(H H':Hp)(h h':Heap):Prop where
 keep:∀ b o,h.get? b=some o->H b=none->b ∉ fs->b ∉ ex->h'.get? b=some o
 slot:∀ b o,h.get? b=some o->H b=none->b∈fs->b ∉ ex->∃ sl,h'.get? b=some { o with slots:=sl }
 free:∀ b o,h.get? b=some o->H b=none->b ∉ ex->H' b=none
 there:∀ b o,h.get? b=some o->b ∉ ex->∃ o',h'.get? b=some o'
 tups:∀ b xs,H b=some (.tup xs)->H' b=some (.tup xs)
 frzs:∀ b o u,H b=some (.frz o u)->H' b=some (.frz o u)
 tbls:∀ b ps,H b=some (.tbl ps)->∃ more,H' b=some (.tbl (ps++more))
section
variable {fs fs' ex ex':List Addr}{H H1 H2:Hp}{h h1 h2 h':Heap}{a x e:Addr}{o:HO}
theorem Un.any(u:Un fs ex H H1 h h1){b:Addr}{ob:Obj}(q:h.get? b=some ob)(n:H b=none)(a:b ∉ ex):∃ sl,h1.get? b=some { ob with slots:=sl }:=by
 by_cases hb:b∈fs
 .exact u.slot b ob q n hb a
 .exact⟨ob.slots,u.keep b ob q n hb a⟩
theorem Un.kept(k:∀ b u,h.get? b=some u->h'.get? b=some u):Un fs ex H H h h' :=
 ⟨λb a q _ _ _=>k b a q,λb a q _ _ _=>⟨a.slots,k b a q⟩,λ_ _ _ n _=>n,λb a q _=>⟨a,k b a q⟩,λ_ _ q=>q,λ_ _ _ q=>q,λ_ ps q=>⟨#[],by rw[q];simp⟩⟩
theorem Un.refl:Un fs ex H H h h:=Un.kept λ_ _ q=>q
theorem Un.laid(k:∀ b u,h.get? b=some u->h'.get? b=some u)(d:h.objs.size<=a)(c:H a=none):Un fs ex H (upd H a o) h h' where
 keep:=λb u q _ _ _=>k b u q
 slot:=λb u q _ _ _=>⟨u.slots,k b u q⟩
 free:=λb u q n _=>by rw[ag (Nat.ne_of_lt (Nat.lt_of_lt_of_le (Heap.lt_size q) d))];exact n
 there:=λb u q _=>⟨u,k b u q⟩
 tups:=λb f q=>by rw[ag (aE q c)];exact q
 frzs:=λb u f q=>by rw[ag (aE q c)];exact q
 tbls:=λb g q=>⟨#[],by rw[ag (aE q c),q];simp⟩
theorem Un.write(a:Mut (H x))(l:e=x\/H e=some (.own x))(k:∀ b u,b≠e->h.get? b=some u->h'.get? b=some u)(c:∃ u,h'.get? e=some u):Un fs ex H (upd H x o) h h':=by
 have g:∀ b,H b=none->b≠x:=λb n z=>by subst z;rw[n]at a;exact a
 have f:∀ b,H b=none->b≠e:=λb n z=>by
  subst z
  rcases l with r | r
  .exact g b n r
  .rw[n]at r;cases r
 have d:∀ b u,H b=some u->¬Mut (some u)->b≠x:=λb u q i z=>by subst z;rw[q]at a;exact i a
 refine⟨λb u q n _ _=>k b u (f b n) q,λb u q n _ _=>⟨u.slots,k b u (f b n) q⟩,λb u q n _=>by rw[ag (g b n)];exact n,λb u q _=>?_,
  λb j q=>by rw[ag (d b _ q λz=>z)];exact q,λb u j q=>by rw[ag (d b _ q λz=>z)];exact q,λb ps q=>⟨#[],by rw[ag (d b _ q λz=>z),q];simp⟩⟩
 by_cases hbe:b=e
 .subst hbe;exact c
 .exact⟨u,k b u hbe q⟩
end
def trk(h:Heap)(H:Hp):List Addr:=(List.range h.objs.size).filter λa=>(H a).isSome
def jI(h:Heap)(H:Hp):Heap:=PySem.W.hideAll h (trk h H)
theorem rh(h:Heap)(H:Hp):(jI h H).objs.size=h.objs.size:=PySem.W.hideAll_size _ _
theorem uV{h:Heap}{H:Hp}{b:Addr}{o:Obj}(e:h.get? b=some o)(n:H b=none):(jI h H).get? b=some o :=
 PySem.W.hideAll_get _ e λa=>by
  have q:(H b).isSome=true:=(mem_filter.mp a).2;rw[n]at q;simp at q
theorem vT{h:Heap}{H:Hp}{b:Addr}{o:Obj}(e:(jI h H).get? b=some o):h.get? b=some o/\H b=none:=by
 have a:h.get? b=some o:=PySem.W.of_hideAll (trk h H) e;refine⟨a,?_⟩;cases q:H b with
 | none=>rfl
 | some x =>
  have c:b∈trk h H:=mem_filter.mpr ⟨mem_range.mpr (Heap.lt_size a),by simp[q]⟩;have z:(jI h H).get? b=none:=PySem.W.hideAll_none (trk h H) c;rw[z]at e;cases e
def wa(g h:Heap)(L:Addr):List (Addr×Obj):=(List.range h.objs.size).filterMap λa=>if a=L\/(g.get? a).isSome=true then none else (h.get? a).map λo=>(a,o)
def rest(g h:Heap)(L d:Addr):List (Addr×Obj):=(wa g h L).filter λp=>decide (p.1≠d)
structure Mod(K:Frag)(mg:Str->Option Value)(base:Heap):Prop where
 kin:K.In base
 glob:base.Ns mainGlobals mg
 blt:∃ mb,base.Ns builtinsNs mb/\∀ x:Str,x ≠ "__name__" -> mb x=bootBuiltins x
 nolimit:base.NoLimit
structure Cx where
 prog:Program
 w:World
 K:Frag
 mg:Str->Option Value
 base:Heap
 A:Around
 N:List Str
 s₀:Shared
 H₀:Hp
 env:Env
 outer:List Env
 stack:List Env
 ex:List Addr
 fn:Str->Bool
 calm:Bool
 pn:List (Addr×Obj)
 xe:Value->Shared->Prop
def frs(l:List Env):List Addr:=l.filterMap (·.frame)
abbrev Cx.fs(X:Cx):List Addr:=frs X.outer
def Vis(sc:Scope)(x:Str):Prop:=sc.names.lookup x = some .local\/sc.names.lookup x = some .cell\/sc.names.lookup x = some .free
def Loc(sc:Scope)(x:Str):Prop:=sc.names.lookup x = some .local\/sc.names.lookup x = some .cell
def Ak(env:Env)(h:Heap)(m:Str->Option Value)(x:Str)(u:Value):Prop :=
 (env.kindOf x = some .local/\m x = some u)\/((env.kindOf x = some .cell\/env.kindOf x = some .free)/\∃ c,env.cells.lookup x = some c/\h.IsCell c (some u))
structure Cx.Ok(X:Cx):Prop where
 mod:Mod X.K X.mg X.base
 kind:X.env.scope.kind=.function
 glob:X.env.globals=mainGlobals
 blt:X.env.builtins=builtinsNs
 above:X.s₀.heap.objs.size<=X.env.locals
 inj:∀ x y c,X.env.cells.lookup x=some c->X.env.cells.lookup y=some c->x=y
 has:∀ x,(X.env.kindOf x=some .cell\/X.env.kindOf x=some .free)->∃ c,X.env.cells.lookup x=some c
 cab:∀ x c,X.fn x=true->X.env.cells.lookup x=some c->X.s₀.heap.objs.size<=c
 hd:X.calm=true->X.A.handled=none
 frames:X.A.frames=some X.stack
 stk:X.stack = X.outer\/(X.stack = X.env :: X.outer/\X.env.frame = some X.env.locals)
 exf:∀ b ∈ X.ex,b≠X.env.locals/\∀ x c,X.env.cells.lookup x = some c->c≠b
 bs:∀ b o,X.base.get? b=some o->X.s₀.heap.get? b=some o/\X.H₀ b=none
 bsz:X.base.objs.size<=X.s₀.heap.objs.size
 noex:∀ b o,X.base.get? b=some o->b ∉ X.ex
 exfs:∀ b∈X.ex,b ∉ X.fs
 funs:X.s₀.heap.FunFrames X.base X.outer
 frf:∀ b∈X.fs,X.H₀ b=none
structure Inv(X:Cx)(pins:List (Addr×Obj))(σ:List (Option V))(H:Hp)(s:Shared):Prop where
 ok:X.Ok
 os:s.os=X.s₀.os
 bare:AllBare s.gens
 base:Un X.fs X.ex X.H₀ H X.s₀.heap s.heap
 loc:∃ m,s.heap.Ns X.env.locals m/\∀(i:Nat) (x:Str) (v:V),X.N[i]? = some x->σ[i]? = some (some v)->Vis X.env.scope x->∃ u,RelV v u/\Ak X.env s.heap m x u
 cell:∀ x c,X.env.cells.lookup x=some c->∃ v,s.heap.IsCell c v
 free:H X.env.locals = none
 freeC:∀ x c,X.env.cells.lookup x=some c->H c=none
 pin:∀ p ∈ X.pn ++ pins,s.heap.get? p.1 = some p.2/\H p.1 = none/\p.1≠X.env.locals/\p.1 ∉ X.fs/\∀ v,p.2.data≠.cell v
 hok:HOk X.prog X.w H s.heap
 len:σ.length=X.N.length
section
variable {X:Cx}{pins:List (Addr×Obj)}{σ:List (Option V)}{H H':Hp}{s:Shared}{h':Heap}
theorem Cx.Ok.nofr(c:X.Ok){b:Addr}{o:Obj}(e:X.base.get? b=some o):b ∉ X.fs:=λa=>by
 have:=(c.funs.mem a).1;rw[e]at this;cases this
theorem Inv.bs(I:Inv X pins σ H s):∀ b o,X.base.get? b=some o->s.heap.get? b=some o/\H b=none:=λb o e =>
 ⟨I.base.keep b o (I.ok.bs b o e).1 (I.ok.bs b o e).2 (I.ok.nofr e) (I.ok.noex b o e),I.base.free b o (I.ok.bs b o e).1 (I.ok.bs b o e).2 (I.ok.noex b o e)⟩
theorem Inv.bk(I:Inv X pins σ H s):∀ b o,X.base.get? b=some o->s.heap.get? b=some o:=λb o e=>(I.bs b o e).1
theorem Inv.mod(I:Inv X pins σ H s):Mod X.K X.mg X.base:=I.ok.mod
theorem Inv.kIn(I:Inv X pins σ H s):X.K.In s.heap:=I.ok.mod.kin.keeps I.bk
theorem Inv.lt(I:Inv X pins σ H s):X.env.locals < s.heap.objs.size:=let ⟨_,hn,_⟩:=I.loc;hn.lt
theorem Inv.sz(I:Inv X pins σ H s):X.s₀.heap.objs.size<=s.heap.objs.size:=Nat.le_trans I.ok.above (Nat.le_of_lt I.lt)
theorem Inv.nofs(I:Inv X pins σ H s){a:Addr}(h:s.heap.objs.size<=a):a ∉ X.fs:=λc=>by
 obtain⟨_,o,b,_⟩:=I.ok.funs.mem c;exact absurd (Nat.lt_of_lt_of_le (Heap.lt_size b) (Nat.le_trans I.sz h)) (Nat.lt_irrefl _)
theorem Inv.cne(I:Inv X pins σ H s):∀ x c,X.env.cells.lookup x = some c->c≠X.env.locals:=λx c e z=>by
 obtain⟨v,o,d,f⟩:=I.cell x c e;obtain⟨m,⟨i,h,g,a,b,_⟩,_⟩:=I.loc;rw[z,a]at d;cases d;rw[b]at f;cases f
theorem Inv.funs(I:Inv X pins σ H s):s.heap.FunFrames X.base X.outer:=by
 have d:∀(l:List Env),(∀ b∈frs l,b∈X.fs)->X.s₀.heap.FunFrames X.base l->s.heap.FunFrames X.base l:=by
  intro l
  induction l with
  | nil=>intro _ _;trivial
  | cons env r ih =>
   intro g p;obtain⟨k,⟨L,o,f,n,h,j⟩,i⟩:=p;have c:L∈X.fs:=g L (by unfold frs;rw[List.filterMap_cons,f];exact mem_cons_self);obtain⟨q,e⟩:=I.base.slot L o h (I.ok.frf L c) c λz=>I.ok.exfs L z c
   exact⟨k,⟨L,_,f,n,e,j⟩,ih (λb a=>g b (by unfold frs;rw[List.filterMap_cons,f];exact mem_cons_of_mem _ a)) i⟩
 exact d X.outer (λ_ a=>a) I.ok.funs
theorem Inv.stack(I:Inv X pins σ H s):s.heap.FunFrames X.base X.stack:=by
 rcases I.ok.stk with e | ⟨e,b⟩
 .rw[e];exact I.funs
 .rw[e]
  obtain⟨m,a,_⟩:=I.loc;refine .cons (by rw[I.ok.kind];decide) b a ?_ I.funs;exact Heap.get?_none_of_le (Nat.le_trans I.ok.bsz I.ok.above)
theorem Inv.stkSub(I:Inv X pins σ H s):∀ b ∈ frs X.stack,b ∈ X.env.locals :: X.fs:=λb a=>by
 rcases I.ok.stk with e | ⟨e,c⟩
 .rw[e]at a;exact mem_cons_of_mem _ a
 .rw[e]at a
  unfold frs at a;rw[List.filterMap_cons,c]at a;exact a
theorem Inv.stkFree(I:Inv X pins σ H s):∀ b∈frs X.stack,H b=none:=λb hb=>by
 rcases mem_cons.mp (I.stkSub b hb) with e | hb
 .rw[e];exact I.free
 .obtain⟨_,o,a,_⟩:=I.ok.funs.mem hb
  exact I.base.free b o a (I.ok.frf b hb) λz=>I.ok.exfs b z hb
theorem Inv.step{g':Array GenState}{t':Nat}{d':Drawn}{ch:List Addr}(I:Inv X pins σ H s)
  (g:∀ b ∈ ch,(b ∈ X.ex\/X.s₀.heap.objs.size<=b)/\b≠X.env.locals/\(∀ x c,X.env.cells.lookup x = some c->c≠b)/\∀ p ∈ X.pn ++ pins,p.1≠b)
  (j:∀ b o,b≠X.env.locals->b ∉ X.fs->b ∉ ch->s.heap.get? b = some o->H b = none->h'.get? b = some o)
  (B:∀ b o,b≠X.env.locals->b ∈ X.fs->b ∉ ch->s.heap.get? b = some o->H b = none->∃ sl,h'.get? b = some { o with slots:=sl }) (f:∀ b o,b ∉ ch->s.heap.get? b = some o->H b = none->H' b = none)
  (D:∀ b o,b ∉ ch->s.heap.get? b=some o->∃ o',h'.get? b=some o')
  (L:∀ b xs,H b=some (.tup xs)->H' b=some (.tup xs)) (F:∀ b o u,H b=some (.frz o u)->H' b=some (.frz o u)) (G:∀ b ps,H b=some (.tbl ps)->∃ more,H' b=some (.tbl (ps++more)))
  (ns:∀ m,s.heap.Ns X.env.locals m->h'.Ns X.env.locals m) (P:HOk X.prog X.w H' h') (W:AllBare g') :
  Inv X pins σ H' { s with heap:=h',gens:=g',drawn:=d',toks:=t' }:=by
 have M:∀ b o,X.s₀.heap.get? b = some o->b≠X.env.locals:=λb o e=>Nat.ne_of_lt (Nat.lt_of_lt_of_le (Heap.lt_size e) I.ok.above)
 have y:∀ b o,X.s₀.heap.get? b=some o->b ∉ X.ex->b ∉ ch:=λb o e a C=>by
  rcases(g b C).1 with z | z
  .exact a z
  .exact absurd (Nat.lt_of_lt_of_le (Heap.lt_size e) z) (Nat.lt_irrefl _)
 have h:∀ x c,X.env.cells.lookup x=some c->∀ v,s.heap.IsCell c v->h'.IsCell c v:=λx c e v ⟨o,E,N⟩=>by
  have w:c ∉ ch:=λz=>(g c z).2.2.1 x c e rfl
  by_cases hc:c∈X.fs
  .obtain⟨sl,q⟩:=B c o (I.cne x c e) hc w E (I.freeC x c e)
   exact⟨_,q,N⟩
  .exact⟨o,j c o (I.cne x c e) hc w E (I.freeC x c e),N⟩
 refine⟨I.ok,I.os,W,⟨λb o e n C a=>?_,λb o e n C a=>?_,λb o e n a=>?_,λb o e a=>?_,λb xs e=>L b xs (I.base.tups b xs e),λb o xs e=>F b o xs (I.base.frzs b o xs e),λb ps e=>?_⟩,?_,λx c e=>?_,?_,λx c e=>?_,λp hp=>?_,P,I.len⟩
 .exact j b o (M b o e) C (y b o e a) (I.base.keep b o e n C a) (I.base.free b o e n a)
 .obtain⟨sl,A⟩:=I.base.slot b o e n C a
  obtain⟨Q,K⟩:=B b _ (M b o e) C (y b o e a) A (I.base.free b o e n a);exact⟨Q,K⟩
 .obtain⟨o',A⟩:=I.base.there b o e a
  exact f b o' (y b o e a) A (I.base.free b o e n a)
 .obtain⟨o',A⟩:=I.base.there b o e a
  exact D b o' (y b o e a) A
 .obtain⟨Z,A⟩:=I.base.tbls b ps e
  obtain⟨m2,K⟩:=G b _ A;exact⟨Z++m2,by rw[K,Array.append_assoc]⟩
 .obtain⟨m,hn,hl⟩:=I.loc
  refine⟨m,ns m hn,λi x v A K Y=>?_⟩;obtain⟨u,r,l⟩:=hl i x v A K Y;refine⟨u,r,?_⟩
  rcases l with l | ⟨k,c,e,z⟩
  .exact .inl l
  .exact .inr ⟨k,c,e,h x c e _ z⟩
 .obtain⟨v,z⟩:=I.cell x c e
  exact⟨v,h x c e v z⟩
 .obtain⟨m,⟨o,_,_,E,_⟩,_⟩:=I.loc
  exact f _ o (λz=>(g _ z).2.1 rfl) E I.free
 .obtain⟨v,o,E,N⟩:=I.cell x c e
  exact f c o (λz=>(g c z).2.2.1 x c e rfl) E (I.freeC x c e)
 .obtain⟨e,n,R,T,d⟩:=I.pin p hp
  have w:p.1 ∉ ch:=λz=>(g p.1 z).2.2.2 p hp rfl
  exact⟨j p.1 p.2 R T w e n,f p.1 p.2 w e n,R,T,d⟩
theorem Inv.un{t':Nat}(I:Inv X pins σ H s)(u:Un X.fs [] H H' s.heap h')(d:HOk X.prog X.w H' h'):Inv X pins σ H' { s with heap:=h',toks:=t' }:=by
 obtain⟨m,⟨o,j,k,g,r⟩,_⟩:=id I.loc;obtain⟨l,i⟩:=u.any g I.free (by simp)
 exact I.step (g':=s.gens) (d':=s.drawn) (ch:=[]) (λ_ z=>nomatch z) (λb o _ hb _ e n=>u.keep b o e n hb (by simp)) (λb o _ hb _ e n=>u.slot b o e n hb (by simp)) (λb o _ e n=>u.free b o e n (by simp)) (λb o _ e=>u.there b o e (by simp)) u.tups u.frzs u.tbls (λm' hm=>by
  obtain⟨p,c,f,a,h⟩:=hm;rw[g]at a;cases a
  exact⟨_,c,f,i,h⟩) d I.bare
theorem Inv.call{g':Array GenState}{t':Nat}{d':Drawn}{ch:List Addr}(I:Inv X pins σ H s)(u:Un (frs X.stack) ch H H' s.heap h')(i:HOk X.prog X.w H' h')(v:AllBare g')
  (f:∀ b ∈ ch,(b ∈ X.ex\/X.s₀.heap.objs.size<=b)/\b≠X.env.locals/\(∀ x c,X.env.cells.lookup x = some c->c≠b)/\∀ p ∈ X.pn ++ pins,p.1≠b) :
  Inv X pins σ H' { s with heap:=h',gens:=g',drawn:=d',toks:=t' }:=by
 obtain⟨m,⟨o,w,y,k,r⟩,_⟩:=id I.loc;obtain⟨A,h⟩:=u.any k I.free λz=>(f _ z).2.1 rfl
 exact I.step (ch:=ch) f (λb o h q a e n=>u.keep b o e n (λz=>(mem_cons.mp (I.stkSub b z)).elim h q) a) (λb o _ _ a e n=>u.any e n a) (λb o a e n=>u.free b o e n a) (λb o a e=>u.there b o e a) u.tups u.frzs u.tbls (λm' hm=>by
  obtain⟨B,g,j,d,l⟩:=hm;rw[k]at d;cases d
  exact⟨_,g,j,h,l⟩) i v
theorem Inv.turned{t':Nat}{a:Addr}(I:Inv X pins σ H s)(k:∀ b o,b≠a->s.heap.get? b = some o->h'.get? b = some o)(y:H a = none)(g:a≠X.env.locals)
  (A:a∈X.ex\/X.s₀.heap.objs.size<=a) (h2:∀ x c,X.env.cells.lookup x=some c->c≠a) (w:∀ p∈X.pn++pins,p.1≠a):Inv X pins σ H { s with heap:=h',toks:=t' }:=by
 have f:∀ b u,H b=some u->b≠a:=λb u e z=>by rw[z,y]at e;cases e
 refine I.step (g':=s.gens) (d':=s.drawn) (ch:=[a]) (λb l=>?_) (λb o _ _ d e _=>k b o (λz=>d (by simp[z])) e) (λb o _ _ d e _=>⟨o.slots,k b o (λz=>d (by simp[z])) e⟩) (λ_ _ _ _ n=>n)
  (λb o d e=>⟨o,k b o (λz=>d (by simp[z])) e⟩) (λ_ _ e=>e) (λ_ _ _ e=>e) (λb ps e=>⟨#[],by rw[e];simp⟩) (λm hm=>?_) (λb u e=>?_) I.bare
 .have e:b=a:=by simpa using l
  subst e;exact⟨A,g,h2,w⟩
 .obtain⟨o,i,j,h,r⟩:=hm
  exact⟨o,i,j,k _ o (Ne.symm g) h,r⟩
 .refine(I.hok b u e).stay (λc v d q=>k c v ?_ q) (λ_ q=>q) λ_ _ q=>q
  rcases d with z | z
  .rw[z];exact f b u e
  .exact f c _ z
theorem Inv.tok(I:Inv X pins σ H s)(t:Nat):Inv X pins σ H { s with toks:=t }:=I.un (h':=s.heap) (t':=t) Un.refl I.hok
theorem Inv.kept{t':Nat}(I:Inv X pins σ H s)(k:∀ b u,s.heap.get? b=some u->h'.get? b=some u):Inv X pins σ H { s with heap:=h',toks:=t' }:=I.un (Un.kept k) (I.hok.kept k)
theorem Inv.laid{a:Addr}{o:HO}{t':Nat}(I:Inv X pins σ H s)(k:∀ b u,s.heap.get? b=some u->h'.get? b=some u)(c:s.heap.objs.size<=a)(d:ObjOk X.prog X.w (upd H a o) h' a o) :
  Inv X pins σ (upd H a o) { s with heap:=h',toks:=t' }:=I.un (Un.laid k c (I.hok.fresh c)) (I.hok.laid k c d)
theorem Inv.write{x e:Addr}{o:HO}{t':Nat}(I:Inv X pins σ H s)(d:Mut (H x))(f:e=x\/H e=some (.own x))(k:∀ b u,b≠e->s.heap.get? b=some u->h'.get? b=some u)(a:∃ u,h'.get? e=some u)
  (c:ObjOk X.prog X.w (upd H x o) h' x o):Inv X pins σ (upd H x o) { s with heap:=h',toks:=t' }:=I.un (Un.write d f k a) (I.hok.write d f k a c)
theorem Inv.weak{σ':List (Option V)}(I:Inv X pins σ H s)(c:σ'.length=σ.length)(w:∀(i:Nat) v,σ'[i]? = some (some v)->σ[i]? = some (some v)):Inv X pins σ' H s :=
 ⟨I.ok,I.os,I.bare,I.base,let ⟨m,hn,hl'⟩:=I.loc;⟨m,hn,λi x v b a d=>hl' i x v b (w i v a) d⟩,I.cell,I.free,I.freeC,I.pin,I.hok,c.trans I.len⟩
theorem Inv.pins_of{a:List (Addr×Obj)}(I:Inv X pins σ H s)(h:∀ p ∈ a,s.heap.get? p.1 = some p.2/\H p.1 = none/\p.1≠X.env.locals/\p.1 ∉ X.fs/\∀ v,p.2.data≠.cell v):Inv X a σ H s :=
 ⟨I.ok,I.os,I.bare,I.base,I.loc,I.cell,I.free,I.freeC,λp b=>(mem_append.mp b).elim (λz=>I.pin p (mem_append_left _ z)) (h p),I.hok,I.len⟩
theorem iV{N:List Str}(d:N.Nodup){i j:Nat}{x:Str}(a:N[i]? = some x)(b:N[j]? = some x):i=j:=by
 obtain⟨g,c⟩:=List.getElem?_eq_some_iff.mp a;obtain⟨h,f⟩:=List.getElem?_eq_some_iff.mp b;exact(List.getElem_inj d).mp (c.trans f.symm)
theorem jT{M:Model}{A:Around}{E:Value->Shared->Prop}{i:Nat}{x:Str}{v:V}{u:Value}{Q:Unit->Shared->Prop}(I:Inv X pins σ H s)(hN:X.N.Nodup)(R:X.N[i]? = some x)(w:Loc X.env.scope x)(r:RelV v u)
  (h:∀ s',Inv X pins (σ.set i (some v)) H s'->(∃ a,Heap.SameBut a s.heap s'.heap/\(a = X.env.locals\/X.env.cells.lookup x = some a))->Q () s') (hf:X.fn x = true\/X.env.scope.names.lookup x = some .local:=by first | exact .inl rfl | exact .inr rfl | assumption):wpAny M A (storeName X.env x u) Q E s:=by
 obtain⟨m,hn,hl⟩:=id I.loc;have P:(X.env.scope.kind == .class || (X.env.scope.kind == .module && X.env.locals != X.env.globals)) = false:=by rw[I.ok.kind];rfl
 have C:i<σ.length:=by rw[I.len];exact(List.getElem?_eq_some_iff.mp R).1
 have D:=I.cne
 have g:∀{a:Addr}{K:Heap},(∃ o,s.heap.get? a=some o/\H a=none)->Heap.SameBut a s.heap K->HOk X.prog X.w H K:=λ{a K} ha f b ob e=>by
  obtain⟨_,_,B⟩:=ha;refine(I.hok b ob e).stay (λc Z hc q=>(f.2 c ?_).trans q) (λ_ q=>q) λ_ _ q=>q
  rintro rfl
  rcases hc with rfl | hc
  .rw[B]at e;cases e
  .rw[B]at hc;cases hc
 rcases w with hk | hk
 .refine wpAny_storeName_local hk hn (λK ac f=>?_) P
  obtain⟨oL,_,_,ab,_⟩:=id hn;refine h _ ⟨I.ok,I.os,I.bare,⟨λb o e n F w=>?_,λb o e n F w=>?_,I.base.free,λb o e w=>?_,I.base.tups,I.base.frzs,I.base.tbls⟩,⟨_,ac,λj y v' l e2 e3=>?_⟩,λy c e=>?_,I.free,I.freeC,λp hp=>?_,g ⟨oL,ab,I.free⟩ f,by simpa using I.len⟩ ⟨_,f,.inl rfl⟩
  .exact(f.2 b (Nat.ne_of_lt (Nat.lt_of_lt_of_le (Heap.lt_size e) I.ok.above))).trans (I.base.keep b o e n F w)
  .obtain⟨sl,l⟩:=I.base.slot b o e n F w
   exact⟨sl,(f.2 b (Nat.ne_of_lt (Nat.lt_of_lt_of_le (Heap.lt_size e) I.ok.above))).trans l⟩
  .obtain⟨o',l⟩:=I.base.there b o e w
   exact⟨o',(f.2 b (Nat.ne_of_lt (Nat.lt_of_lt_of_le (Heap.lt_size e) I.ok.above))).trans l⟩
  .by_cases hj:j=i
   .subst hj
    rw[R]at l;cases l;rw[List.getElem?_set_self C]at e2;cases e2;exact⟨u,r,.inl ⟨hk,by simp⟩⟩
   .rw[List.getElem?_set_ne (Ne.symm hj)]at e2
    obtain⟨u',r',q⟩:=hl j y v' l e2 e3;refine⟨u',r',?_⟩
    rcases q with⟨k,e⟩ | ⟨k,c,e,z⟩
    .refine .inl ⟨k,?_⟩
     have:y≠x:=λe=>hj (iV hN l (e ▸ R))
     simp[this,e]
    .exact .inr ⟨k,c,e,z.sameBut f (D y c e)⟩
  .obtain⟨Z,z⟩:=I.cell y c e
   exact⟨Z,z.sameBut f (D y c e)⟩
  .obtain⟨e,n,W,nf,d⟩:=I.pin p hp
   exact⟨(f.2 p.1 W).trans e,n,W,nf,d⟩
 .have G:X.fn x=true:=by
   rcases hf with z | z
   .exact z
   .rw[z]at hk;cases hk
  obtain⟨c,hc⟩:=I.ok.has x (.inl hk);obtain⟨Z,z⟩:=I.cell x c hc;refine wpAny_storeName_cell I.ok.kind hk hc z (λK N f=>?_);obtain⟨oc,T,L⟩:=id z;refine h { s with heap:=K } ⟨I.ok,I.os,I.bare,⟨λb o e n F w=>?_,λb o e n F w=>?_,I.base.free,λb o e w=>?_,I.base.tups,I.base.frzs,I.base.tbls⟩,⟨m,hn.sameBut f (Ne.symm (D x c hc)),λj y v' l e2 e3=>?_⟩,λy Y e=>?_,I.free,I.freeC,λp hp=>?_,g ⟨oc,T,I.freeC x c hc⟩ f,by simpa using I.len⟩ ⟨c,f,.inr hc⟩
  .exact(f.2 b (Nat.ne_of_lt (Nat.lt_of_lt_of_le (Heap.lt_size e) (I.ok.cab x c G hc)))).trans (I.base.keep b o e n F w)
  .obtain⟨sl,l⟩:=I.base.slot b o e n F w
   exact⟨sl,(f.2 b (Nat.ne_of_lt (Nat.lt_of_lt_of_le (Heap.lt_size e) (I.ok.cab x c G hc)))).trans l⟩
  .obtain⟨o',l⟩:=I.base.there b o e w
   exact⟨o',(f.2 b (Nat.ne_of_lt (Nat.lt_of_lt_of_le (Heap.lt_size e) (I.ok.cab x c G hc)))).trans l⟩
  .by_cases hj:j=i
   .subst hj
    rw[R]at l;cases l;rw[List.getElem?_set_self C]at e2;cases e2;exact⟨u,r,.inr ⟨.inl hk,c,hc,N⟩⟩
   .rw[List.getElem?_set_ne (Ne.symm hj)]at e2
    obtain⟨u',r',q⟩:=hl j y v' l e2 e3;refine⟨u',r',?_⟩
    rcases q with q | ⟨k,Y,e,z'⟩
    .exact .inl q
    .refine .inr ⟨k,Y,e,z'.sameBut f ?_⟩
     rintro rfl;exact hj (iV hN l (I.ok.inj _ _ _ e hc ▸ R))
  .by_cases hcc:Y=c
   .subst hcc;exact⟨_,N⟩
   .obtain⟨w2,z2⟩:=I.cell y Y e
    exact⟨w2,z2.sameBut f hcc⟩
  .obtain⟨e,n,W,nf,d⟩:=I.pin p hp
   refine⟨(f.2 p.1 ?_).trans e,n,W,nf,d⟩;intro q;rw[q,T]at e;have q':oc=p.2:=Option.some.inj e;exact d Z (by rw[<- q'];exact L)
theorem eh{M:Model}{A:Around}{E:Value->Shared->Prop}{i:Nat}{x:Str}{v:V}{u:Value}{Q:Unit->Shared->Prop}(I:Inv X pins σ H s)(d:X.N.Nodup)(b:X.N[i]? = some x)(c:Loc X.env.scope x)(r:RelV v u)
  (h:∀ s',Inv X pins (σ.set i (some v)) H s'->Q () s') (f:X.fn x = true\/X.env.scope.names.lookup x = some .local:=by first | exact .inl rfl | exact .inr rfl | assumption):wpAny M A (storeName X.env x u) Q E s :=
 jT I d b c r (λs' a _=>h s' a) f
theorem Inv.call'{s':Shared}{ch:List Addr}(I:Inv X pins σ H s)(f:s'.os=s.os)(u:Un (frs X.stack) ch H H' s.heap s'.heap)(a:HOk X.prog X.w H' s'.heap)(g:AllBare s'.gens)
  (d:∀ b ∈ ch,(b ∈ X.ex\/X.s₀.heap.objs.size<=b)/\b≠X.env.locals/\(∀ x c,X.env.cells.lookup x = some c->c≠b)/\∀ p ∈ X.pn ++ pins,p.1≠b):Inv X pins σ H' s':=by
 obtain⟨i,g',d',t',h⟩:=s';have e:h=s.os:=f;subst e;exact I.call (g':=g') (t':=t') (d':=d') u a g d
end
abbrev XK:=Value->Option Addr->Hp->Prop
abbrev St:=List (Option V)
abbrev VK:=V->Hp->Prop
abbrev TE:=St->Hp->VK->Prop
abbrev TT:=St->Hp->(Bool->Hp->Prop)->Prop
abbrev TA:=St->Hp->(List V->Hp->Prop)->Prop
structure Ends where
 nx:St->Hp->Prop
 rt:VK
 bk:St->Hp->Prop:=λ_ _=>False
 ct:St->Hp->Prop:=λ_ _=>False
abbrev TS:=Ends->St->Hp->Prop
def EP(X:Cx)(pins:List (Addr×Obj))(σ:St)(Q:VK)(u:Value)(s':Shared):Prop:=∃ v H',Inv X pins σ H' s'/\RelV v u/\Q v H'
def TP(X:Cx)(pins:List (Addr×Obj))(σ:St)(Q:Bool->Hp->Prop)(b:Bool)(s':Shared):Prop:=∃ H',Inv X pins σ H' s'/\Q b H'
def AP(X:Cx)(pins:List (Addr×Obj))(σ:St)(Q:List V->Hp->Prop)(us:List Value)(s':Shared):Prop:=∃ vs H',Inv X pins σ H' s'/\Vals vs us/\Q vs H'
def SP(X:Cx)(pins:List (Addr×Obj))(D:Ends)(f:Flow)(s':Shared):Prop :=
 match f with
 | .next=>∃ σ' H',Inv X pins σ' H' s'/\D.nx σ' H'
 | .brk=>∃ σ' H',Inv X pins σ' H' s'/\D.bk σ' H'
 | .cont=>∃ σ' H',Inv X pins σ' H' s'/\D.ct σ' H'
 | .ret u=>∃ v σ' H',Inv X pins σ' H' s'/\RelV v u/\D.rt v H'
def PE(X:Cx)(e:Expr)(t:TE):Prop :=
 ∀(pins:List (Addr×Obj)) (s:Shared) (σ:St) (H:Hp) (Q:VK),Inv X pins σ H s->t σ H Q->wpAny (model X.prog X.w) X.A (eval e X.env) (EP X pins σ Q) X.xe s
def PT(X:Cx)(e:Expr)(t:TT):Prop :=
 ∀(pins:List (Addr×Obj)) (s:Shared) (σ:St) (H:Hp) (Q:Bool->Hp->Prop),Inv X pins σ H s->t σ H Q->wpAny (model X.prog X.w) X.A (isTrue e X.env (eval e X.env)) (TP X pins σ Q) X.xe s
def PW(X:Cx)(e:Expr)(t:TT):Prop :=
 ∀(whole:Sem Value) (pins:List (Addr×Obj)) (s:Shared) (σ:St) (H:Hp) (Q:Bool->Hp->Prop),Inv X pins σ H s->t σ H Q->wpAny (model X.prog X.w) X.A (isTrue e X.env whole) (TP X pins σ Q) X.xe s
theorem PW.pt{X:Cx}{e:Expr}{t:TT}(h:PW X e t):PT X e t:=h _
def PA(X:Cx)(es:List Expr)(t:TA):Prop :=
 ∀(pos:Pos) (pins:List (Addr×Obj)) (s:Shared) (σ:St) (H:Hp) (Q:List V->Hp->Prop),Inv X pins σ H s->t σ H Q->wpAny (model X.prog X.w) X.A (spliced (backTo pos (starEach es X.env))) (AP X pins σ Q) X.xe s
def PS(X:Cx)(st:Stmt)(t:TS):Prop :=
 ∀(pins:List (Addr×Obj)) (s:Shared) (σ:St) (H:Hp) (D:Ends),Inv X pins σ H s->t D σ H->wpAny (model X.prog X.w) X.A (exec st X.env) (SP X pins D) X.xe s
def PSs(X:Cx)(st:List Stmt)(t:TS):Prop :=
 ∀(pins:List (Addr×Obj)) (s:Shared) (σ:St) (H:Hp) (D:Ends),Inv X pins σ H s->t D σ H->wpAny (model X.prog X.w) X.A (execs st X.env) (SP X pins D) X.xe s
theorem thn{c:Type}{t:Sem c}{Q b:c->Shared->Prop}{M:Model}{A:Around}{E:Value->Shared->Prop}{s:Shared}(h:wpAny M A t Q E s)(d:∀ a s,Q a s->b a s):wpAny M A t b E s:=wpAny_mono h d λ_ _ x=>x
section
variable {X:Cx}
def Bf(i:Nat):TE:=λσ H Q=>∃ v,σ[i]? = some (some v)/\Q v H
def tC(v:V):TE:=λ_ H Q=>Q v H
theorem zq{i:Nat}{x:Str}{g:Pos}(q:X.N[i]? = some x)(y:Vis X.env.scope x)(f:(x == ("__debug__" : Str))=false:=by decide)(j:(x == ("__classdict__" : Str))=false:=by decide):PE X (.Name x g) (Bf i):=by
 intro d s n H Q I h;obtain⟨v,e,h⟩:=h;obtain⟨m,o,w⟩:=I.loc;obtain⟨u,r,l⟩:=w i x v q e y
 have b:EP X d n Q u s:=⟨v,H,I,r,h⟩
 rcases l with⟨hk,p⟩ | ⟨hk,c,k,a⟩
 .exact wpAny_Name (wpAny_loadName_local I.ok.kind hk o p b) f
 .rcases hk with hk | hk
  .exact wpAny_Name (wpAny_loadName_cell I.ok.kind hk k a b) f
  .exact wpAny_Name (wpAny_loadName_free I.ok.kind hk k a b j) f
theorem am{i j pos}:PE X (.Constant (.int i) j pos) (tC (.int i)):=λ_ _ _ H _ I h=>wpAny_Constant_int ⟨.int i,H,I.tok _,⟨_,rfl⟩,h⟩
theorem dq{b j pos}:PE X (.Constant (.bool b) j pos) (tC (.bl b)):=λ_ _ _ H _ I h=>Constant_bool ⟨.bl b,H,I,rfl,h⟩
theorem kZ{j pos}:PE X (.Constant .none j pos) (tC .non):=λ_ _ _ H _ I h=>Constant_none ⟨.non,H,I,rfl,h⟩
theorem o7{x j pos}:PE X (.Constant (.str x) j pos) (tC (.str x)):=λ_ _ _ H _ I h=>Calls.Constant_str ⟨.str x,H,I.tok _,⟨_,rfl⟩,h⟩
def Gl(X:Cx)(x:Str):Prop:=X.env.kindOf x=some .globalImplicit
theorem dU{E:Value->Shared->Prop}{a:List (Addr×Obj)}{s:Shared}{σ:St}{H:Hp}{x:Str}{u:Value}{b:Pos}{Q:Value->Shared->Prop}(I:Inv X a σ H s)(d:Gl X x)(f:X.mg x=some u)(h:Q u s)
  (c:(x == ("__debug__" : Str))=false:=by decide):wpAny (model X.prog X.w) X.A (eval (.Name x b) X.env) Q E s :=
 Calls.Name_function_global I.ok.kind d (Calls.loadGlobal_global (by rw[I.ok.glob];exact I.mod.glob.keeps I.bk) f h) c
theorem gJ{E:Value->Shared->Prop}{a:List (Addr×Obj)}{s:Shared}{σ:St}{H:Hp}{x:Str}{u:Value}{b:Pos}{Q:Value->Shared->Prop}(I:Inv X a σ H s)(f:Gl X x)(g:X.mg x=none)(j:bootBuiltins x=some u)(h:Q u s)
  (d:x ≠ "__name__" := by decide) (c:(x == ("__debug__" : Str))=false:=by decide):wpAny (model X.prog X.w) X.A (eval (.Name x b) X.env) Q E s:=by
 obtain⟨l,i,k⟩:=I.mod.blt;exact Calls.Name_function_global I.ok.kind f (Calls.loadGlobal_builtin (by rw[I.ok.glob];exact I.mod.glob.keeps I.bk) g (by rw[I.ok.blt];exact i.keeps I.bk) ((k x d).trans j) h) c
theorem wH{x:Str}{v:V}{u:Value}{a:Pos}(b:Gl X x)(d:X.mg x=some u)(r:RelV v u)(c:(x == ("__debug__" : Str))=false:=by decide):PE X (.Name x a) (tC v) :=
 λ_ _ _ H _ I h=>dU I b d ⟨v,H,I,r,h⟩ c
theorem kY{x:Str}{v:V}{u:Value}{a:Pos}(d:Gl X x)(f:X.mg x=none)(g:bootBuiltins x=some u)(r:RelV v u)(c:x ≠ "__name__" := by decide)(b:(x == ("__debug__" : Str))=false:=by decide):PE X (.Name x a) (tC v) :=
 λ_ _ _ H _ I h=>gJ I d f g ⟨v,H,I,r,h⟩ c b
variable {a b:Expr}{ta tb:TE}{pos:Pos}
def tB(t:TE):TT:=λσ H Q=>t σ H λx H1=>∃ c,x=.bl c/\Q c H1
variable {tA tB':TT}{rest:List Expr}
def tOr(t u:TT):TT:=λσ H Q=>t σ H λc H1=>if c=true then Q true H1 else u σ H1 Q
def Bv(t:TT):TT:=λσ H Q=>t σ H λc H1=>Q (!c) H1
theorem lM(f:PT X a tA):PW X (.BoolOp .Or [a] pos) tA:=by
 intro g b s d H Q I h;refine isTrue_or (thn (f b s d H Q I h) λc i e=>?_);cases c with
 | false=>exact isTrue_or_nil e
 | true=>exact e
theorem qN(o:PT X a tA)(n:PW X (.BoolOp .Or (b::rest) pos) tB'):PW X (.BoolOp .Or (a::b::rest) pos) (tOr tA tB'):=by
 intro k d s f H Q I h;refine isTrue_or (thn (o d s f H _ I h) λc l ⟨g,i,j⟩=>?_);cases c with
 | true=>exact⟨g,i,j⟩
 | false=>exact n k d l f g Q i j
theorem cU(g:PT X a tA):PT X (.UnaryOp .Not a pos) (Bv tA):=by
 intro b s d H Q I h;exact isTrue_not (g b s d H (λc f=>Q (!c) f) I h)
theorem gX{op}{t:TE}(h:PE X a t):PE X (.BoolOp op [a] pos) t:=λb s d H Q I c=>BoolOp_one (h b s d H Q I c)
def tIf(t:TT)(ta tb:TE):TE:=λσ H Q=>t σ H λc H1=>if c=true then ta σ H1 Q else tb σ H1 Q
theorem uk{c:Expr}(n:PT X c tA)(p:PE X a ta)(o:PE X b tb):PE X (.IfExp c a b pos) (tIf tA ta tb):=by
 intro f s g H Q I h;refine wpAny_IfExp (thn (n f s g H _ I h) λd i ⟨j,k,l⟩=>?_);cases d with
 | true=>exact p f i g j Q k l
 | false=>exact o f i g j Q k l
end
def SqL(K:Frag)(H:Hp)(a:Addr)(xs:List V):Prop :=
 Rd H a (.lst xs) \/
  ∃(o:Obj) (its:Array Value) (n:Nat),K.lookup a=some o/\o.cls=.type "list" /\ o.dict=none/\o.data=.seq its n/\its.size<=sizeLine/\Vals xs its.toList
def SqT(K:Frag)(H:Hp)(a:Addr)(xs:List V):Prop :=
 Rd H a (.tup xs) \/
  ∃(o:Obj) (its:Array Value) (n:Nat),K.lookup a=some o/\o.cls=.type "tuple" /\ o.data=.seq its n/\its.size<=sizeLine/\Vals xs its.toList
def BL:Value->Option V
 | .none=>some .non
 | .bool b=>some (.bl b)
 | .int i _=>some (.int i)
 | .str x _=>some (.str x)
 | .bytes b _=>some (.byt b)
 | .float b _=>some (.flt b)
 | .ref a=>some (.ref a)
 | .type n=>some (.ty n)
 | _=>none
theorem RelV.abs{x:V}{u:Value}(r:RelV x u):BL u=some x:=by
 cases x with
 | non=>cases r;rfl
 | bl _=>cases r;rfl
 | int _=>obtain⟨t,rfl⟩:=r;rfl
 | str _=>obtain⟨t,rfl⟩:=r;rfl
 | byt _=>obtain⟨t,rfl⟩:=r;rfl
 | flt _=>obtain⟨t,rfl⟩:=r;rfl
 | ref _=>cases r;rfl
 | ty _=>cases r;rfl
theorem RelV.inj{x y:V}{u:Value}(r:RelV x u)(q:RelV y u):x=y:=Option.some.inj (r.abs.symm.trans q.abs)
theorem Vals.inj:∀{xs ys:List V}{us:List Value},Vals xs us->Vals ys us->xs=ys
 | _,_,_,.nil,.nil=>rfl
 | _,_,_,.cons r t,.cons r' t'=>by rw[r.inj r',Vals.inj t t']
section
variable {X:Cx}{pins:List (Addr×Obj)}{σ:St}{H:Hp}{s:Shared}{a:Addr}{xs ys:List V}
theorem SqL.of{K:Frag}(h:H a=some (.lst xs)):SqL K H a xs:=.inl (.inl h)
theorem SqT.of{K:Frag}(h:H a=some (.tup xs)):SqT K H a xs:=.inl (.inl h)
theorem Inv.list(I:Inv X pins σ H s)(h:SqL X.K H a xs):∃ its:List Value,Vals xs its/\PlainL s.heap a its.toArray/\xs.length<=sizeLine:=by
 rcases h with h | ⟨o,its,n,d,c,b,f,g,r⟩
 .obtain⟨z,its,n,r,e⟩:=h.ok I.hok
  exact⟨its,r,⟨_,n,e,rfl,rfl,rfl⟩,z⟩
 .refine⟨its.toList,r,⟨o,n,I.kIn a o d,c,b,by simpa using f⟩,?_⟩
  have e:=r.length;simp only[Array.length_toList]at e;lia
theorem Inv.tuple(I:Inv X pins σ H s)(h:SqT X.K H a xs):∃ its:List Value,Vals xs its/\IsTup s.heap a its.toArray/\xs.length<=sizeLine:=by
 rcases h with h | ⟨o,its,n,d,b,c,f,r⟩
 .obtain⟨z,its,r,p⟩:=h.ok I.hok
  exact⟨its,r,p,z⟩
 .refine⟨its.toList,r,⟨o,I.kIn a o d,b,n,by simpa using c⟩,?_⟩
  have e:=r.length;simp only[Array.length_toList]at e;lia
theorem Inv.list_inj(I:Inv X pins σ H s)(h:SqL X.K H a xs)(h':SqL X.K H a ys):xs=ys:=by
 obtain⟨c,r,⟨o,n,e,_,_,d⟩,_⟩:=I.list h;obtain⟨b,i,⟨k,j,f,_,_,g⟩,_⟩:=I.list h';rw[e]at f;cases f;rw[d]at g;injection g with d1 _
 have:c=b:=by simpa using congrArg Array.toList d1
 subst this;exact r.inj i
theorem Inv.tuple_inj(I:Inv X pins σ H s)(h:SqT X.K H a xs)(h':SqT X.K H a ys):xs=ys:=by
 obtain⟨c,r,⟨o,e,_,n,d⟩,_⟩:=I.tuple h;obtain⟨b,i,⟨k,f,_,j,g⟩,_⟩:=I.tuple h';rw[e]at f;cases f;rw[d]at g;injection g with d1 _
 have:c=b:=by simpa using congrArg Array.toList d1
 subst this;exact r.inj i
end
abbrev Cx.wish(X:Cx)(E:Value->Shared->Prop):Cx:={ X with xe:=E }
abbrev Cx.nox(X:Cx):Cx:=X.wish λ_ _=>False
theorem Cx.Ok.wish{X:Cx}(a:X.Ok)(E:Value->Shared->Prop):(X.wish E).Ok :=
 ⟨a.mod,a.kind,a.glob,a.blt,a.above,a.inj,a.has,a.cab,a.hd,a.frames,a.stk,a.exf,a.bs,a.bsz,a.noex,a.exfs,a.funs,a.frf⟩
theorem Cx.Ok.unwish{X:Cx}{E:Value->Shared->Prop}(a:(X.wish E).Ok):X.Ok :=
 ⟨a.mod,a.kind,a.glob,a.blt,a.above,a.inj,a.has,a.cab,a.hd,a.frames,a.stk,a.exf,a.bs,a.bsz,a.noex,a.exfs,a.funs,a.frf⟩
section
variable {X:Cx}{pins:List (Addr×Obj)}{σ:St}{H:Hp}{s:Shared}{E:Value->Shared->Prop}
theorem Inv.wish(I:Inv X pins σ H s)(E:Value->Shared->Prop):Inv (X.wish E) pins σ H s:=⟨I.ok.wish E,I.os,I.bare,I.base,I.loc,I.cell,I.free,I.freeC,I.pin,I.hok,I.len⟩
theorem Inv.unwish(I:Inv (X.wish E) pins σ H s):Inv X pins σ H s:=⟨I.ok.unwish,I.os,I.bare,I.base,I.loc,I.cell,I.free,I.freeC,I.pin,I.hok,I.len⟩
theorem SP.unwish{D:Ends}{f:Flow}{s':Shared}(h:SP (X.wish E) pins D f s'):SP X pins D f s':=by
 cases f with
 | next=>obtain⟨a,b,I,q⟩:=h;exact⟨a,b,I.unwish,q⟩
 | brk=>obtain⟨a,b,I,q⟩:=h;exact⟨a,b,I.unwish,q⟩
 | cont=>obtain⟨a,b,I,q⟩:=h;exact⟨a,b,I.unwish,q⟩
 | ret u=>obtain⟨v,a,b,I,r,q⟩:=h;exact⟨v,a,b,I.unwish,r,q⟩
theorem PSs.nox{st:List Stmt}{t:TS}(h:PSs X.nox st t):PSs X st t:=λa s c H D I b =>
 wpAny_mono (h a s c H D (I.wish _) b) (λ_ _ q=>q.unwish) λ_ _ z=>False.elim z
end
section
variable {X:Cx}{st:Stmt}{rest:List Stmt}{t u:TS}{e:Expr}{te:TE}{pos:Pos}
def zQ:TS:=λD σ H=>D.nx σ H
def bO(t u:TS):TS:=λD σ H=>t { D with nx:=u D } σ H
theorem aU:PSs X [] zQ:=λ_ _ a H _ I h=>wpAny_execs_nil ⟨a,H,I,h⟩
theorem ai(j:PS X st t)(h2:PSs X rest u):PSs X (st::rest) (bO t u):=by
 intro a s g H D I h;refine wpAny_execs_cons (thn (j a s g H { D with nx:=u D } I h) λf d q=>?_);cases f with
 | next =>
  obtain⟨b,i,c,q⟩:=q;exact h2 a d b i D c q
 | ret v=>exact q
 | brk=>exact q
 | cont=>exact q
theorem ak(c:PS X st t):PSs X [st] t:=by
 intro a s b H D I h;refine wpAny_execs_cons (thn (c a s b H D I h) λf d q=>?_);cases f with
 | next=>exact wpAny_execs_nil q
 | ret v=>exact q
 | brk=>exact q
 | cont=>exact q
theorem Inv.quiet{a:List (Addr×Obj)}{σ:St}{H:Hp}{s:Shared}(I:Inv X a σ H s):interactive X.env=false:=by simp[interactive,I.ok.kind]
def AQ(te:TE):TS:=λD σ H=>te σ H λ_ H1=>D.nx σ H1
theorem eO(f:PE X e te)(i:swapsWith e none pos.line X.env=pure false:=by rfl):PS X (.Expr e pos) (AQ te):=by
 intro a s b H D I h;exact wpAny_Expr_any (thn (f a s b H _ I h) λv j ⟨x,d,g,k,c⟩=>⟨b,d,g,c⟩) I.quiet i
def Bg(te:TE):TS:=λD σ H=>te σ H D.rt
theorem aw(c:PE X e te):PS X (.Return (some e) pos) (Bg te):=by
 intro a s b H D I h;exact wpAny_Return_some (thn (c a s b H _ I h) λv j ⟨x,d,g,f,i⟩=>⟨x,b,d,g,f,i⟩)
def Bz(c:TT)(t u:TS):TS:=λD σ H=>c σ H λb H1=>if b=true then t D σ H1 else u D σ H1
theorem bY{c:Expr}{a b:List Stmt}{i:TT}(o:PT X c i)(q:PSs X a t)(p:PSs X b u):PS X (.If c a b pos) (Bz i t u):=by
 intro f s g H D I h;refine wpAny_If (thn (o f s g H _ I h) λd j ⟨k,l,n⟩=>?_);cases d with
 | true=>exact q f j g k D l n
 | false=>exact p f j g k D l n
def xW:TS:=λ_ _ _=>False
theorem uy:PS X st xW:=λ_ _ _ _ _ _ h=>h.elim
end
abbrev TG:=V->St->Hp->(St->Hp->Prop)->Prop
abbrev TGs:=List V->St->Hp->(St->Hp->Prop)->Prop
def PG(X:Cx)(target:Expr)(t:TG):Prop :=
 ∀(pins:List (Addr×Obj)) (s:Shared) (σ:St) (H:Hp) (v:V) (u:Value) (Q:St->Hp->Prop),Inv X pins σ H s->RelV v u->t v σ H Q ->
  wpAny (model X.prog X.w) X.A (assign target X.env u) (λ_ s'=>∃ σ' H',Inv X pins σ' H' s'/\Q σ' H') X.xe s
def PGs(X:Cx)(ts:List Expr)(t:TGs):Prop :=
 ∀(pins:List (Addr×Obj)) (s:Shared) (σ:St) (H:Hp) (vs:List V) (us:List Value) (Q:St->Hp->Prop),Inv X pins σ H s->Vals vs us->t vs σ H Q ->
  wpAny (model X.prog X.w) X.A (assignInOrder ((assignEach ts X.env).map (·.2)) us) (λ_ s'=>∃ σ' H',Inv X pins σ' H' s'/\Q σ' H') X.xe s
abbrev TIp:=V->V->Hp->VK->Prop
def PIp(X:Cx)(op:Operator)(t:TIp):Prop :=
 ∀(pins:List (Addr×Obj)) (s:Shared) (σ:St) (H:Hp) (x y:V) (v u:Value) (Q:VK),Inv X pins σ H s->RelV x v->RelV y u->t x y H Q ->
  wpAny (model X.prog X.w) X.A (inplaceOp op v u) (EP X pins σ Q) X.xe s
section
variable {X:Cx}{pos:Pos}
def qd(i:Nat):TG:=λv σ H Q=>Q (σ.set i (some v)) H
theorem au{i:Nat}{x:Str}(f:X.N.Nodup)(c:X.N[i]? = some x)(d:Loc X.env.scope x)(g:X.fn x = true\/X.env.scope.names.lookup x = some .local:=by first | exact .inl rfl | exact .inr rfl | assumption):PG X (.Name x pos) (qd i):=by
 intro a s j H v u Q I r h;exact wpAny_assign_Name (eh I f c d r (λk b=>⟨_,H,b,h⟩) g)
def BG:TGs:=λvs σ H Q=>vs=[]/\Q σ H
inductive gCons(t:TG)(u:TGs)(vs:List V)(σ:St)(H:Hp)(Q:St->Hp->Prop):Prop
 | mk(v:V)(r:List V)(h0:vs=v::r)(h1:t v σ H λσ' H'=>u r σ' H' Q):gCons t u vs σ H Q
theorem cu:PGs X [] BG:=by
 intro a s b H c d Q I r h;obtain⟨e,h⟩:=h;subst e;cases r;exact assignInOrder_nil ⟨b,H,I,h⟩
theorem az{e:Expr}{b:List Expr}{t:TG}{u:TGs}(l:PG X e t)(h2:PGs X b u)
  (d:(assignEach (e::b) X.env).map (·.2)=assign e X.env::(assignEach b X.env).map (·.2):=by rfl):PGs X (e::b) (gCons t u):=by
 intro a s g H p o Q I r h;obtain⟨v,q,i,h⟩:=h;subst i;cases r with
 | cons r rr =>
  rw[d];refine assignInOrder_cons (thn (l a s g H _ _ _ I r h) λ_ f ⟨c,j,k,n⟩=>?_);exact h2 a f c j _ _ Q k rr n
inductive gTup(K:Frag)(n:Nat)(t:TGs)(v:V)(σ:St)(H:Hp)(Q:St->Hp->Prop):Prop
 | mk(a:Addr)(xs:List V)(h0:v=.ref a)(h1:SqT K H a xs)(h2:xs.length=n)(h3:t xs σ H Q):gTup K n t v σ H Q
theorem eV{d:List Expr}{k:Nat}{t:TGs}{n:Nat}(w:X.calm=true)(h:PGs X d t)
  (y:(assignEach d X.env).length=n:=by rfl) (g:(assignEach d X.env).findIdx? (·.1)=none:=by rfl):PG X (.Tuple d k pos) (gTup X.K n t):=by
 intro c s j H v u Q I r f;obtain⟨a,x,z,p,D,f⟩:=f;subst z;cases r;obtain⟨l,i,B,E⟩:=I.tuple p;refine assign_Tuple_tuple (I.ok.hd w) B (by simp[y,<- D,i.length]) g λq A=>?_
 have C:Inv X c j H { s with heap:=q }:=I.kept (t':=s.toks) λb o e=>A b o (Nat.ne_of_lt (Heap.lt_size e)) e
 exact h c _ j H x _ Q C (by simpa using i) f
def ye(te:TE)(g:TG):TS:=λD σ H=>te σ H λx H1=>g x σ H1 D.nx
theorem oh{tg e:Expr}{b:TE}{g:TG}(k:PE X e b)(j:PG X tg g)(f:swapsWithSole [tg] e pos.line X.env=pure false:=by rfl)(d:swappedStores [tg] e X.env=pure none:=by rfl)
  (p:(assignEach [tg] X.env).map (·.2)=[assign tg X.env]:=by rfl):PS X (.Assign [tg] e pos) (ye b g):=by
 intro a s c H D I h;refine wpAny_Assign_stores (thn (k a s c H _ I h) λv i ⟨x,l,o,n,r⟩=>?_) f d;rw[p];exact thn (j a i c l x v _ o n r) λ_ u q=>q
theorem ay{i:Nat}{x:Str}{e:Expr}{c:TE}{a:Pos}(p:X.N.Nodup)(f:X.N[i]? = some x)(j:Loc X.env.scope x)(k:PE X e c)(d:swapsWith e (some (.Name x a)) pos.line X.env = pure false:=by rfl)(q:X.fn x = true\/X.env.scope.names.lookup x = some .local:=by first | exact .inl rfl | exact .inr rfl | assumption) :
  PS X (.Assign [.Name x a] e pos) (ye c (qd i)):=by
 intro b s g H D I h;refine wpAny_Assign_Name (thn (k b s g H _ I h) λv w ⟨y,l,o,n,r⟩=>?_) d;exact eh o p f j n (λz u=>⟨_,l,u,r⟩) q
def AZ(i j:Nat)(ta:TA):TS:=λD σ H=>ta σ H λvs H1=>∃ v w,vs=[v,w]/\D.nx ((σ.set i (some v)).set j (some w)) H1
theorem yv{i j:Nat}{x y:Str}{a b:Expr}{C:TA}{f l k:Pos}{kt k2 pt2}(Q:X.calm=true)(z:X.N.Nodup)(N:X.N[i]? = some x)(R:X.N[j]? = some y)(r:i≠j)
  (F:X.env.scope.names.lookup x = some .local) (u:X.env.scope.names.lookup y = some .local) (Y:PA X [a,b] C)
  (G:swappedStores [.Tuple [.Name x f,.Name y l] kt k] (.Tuple [a,b] k2 pt2) X.env=pure (some [x,y]))
  (W:swapsWithSole [.Tuple [.Name x f,.Name y l] kt k] (.Tuple [a,b] k2 pt2) pos.line X.env=pure false:=by rfl) :
  PS X (.Assign [.Tuple [.Name x f,.Name y l] kt k] (.Tuple [a,b] k2 pt2) pos) (AZ i j C):=by
 intro c s B H D I h;rw[exec_Assign_arm];refine wpAny_bind (wpAny_standAt ?_);rw[W];refine wpAny_bind (wpAny_pure ?_);rw[if_neg (by decide)];refine wpAny_bind (Tuple_ (thn (Y _ c s B H _ I h) λT d ⟨vs,E,L,K,n⟩=>?_));obtain⟨v,w,Z,n⟩:=n;subst Z
 obtain⟨u1,u2,rfl,rv,rw'⟩:∃ u1 u2,T=[u1,u2]/\RelV v u1/\RelV w u2:=by
  cases K with
  | cons p q =>
   cases q with
   | cons p' q' =>
    cases q';exact⟨_,_,rfl,p,p'⟩
 refine wpAny_newObj_type ?_ (by show 2<=sizeLine;decide);have P:Inv X c B E { d with heap:=d.heap.push { cls:=.type "tuple",data:=.seq [u1,u2].toArray } }:=L.kept (t':=d.toks) λb o e=>Heap.get?_push_of_some _ e
 rw[G];refine wpAny_bind (wpAny_pure ?_);show wpAny (model X.prog X.w) X.A (do rule "assign.swapped-stores";let items <- unpackItems (.ref d.heap.objs.size) 2 none;assignInOrder [λv=>bindName X.env y v,λv=>bindName X.env x v] items.reverse;pure Flow.next) _ _ _;refine wpAny_bind (wpAny_rule (wpAny_bind (unpackItems_tuple (items:=#[u1,u2]) (I.ok.hd Q) (IsTup.new d.heap _) λh' g=>?_)));have I3:=P.kept (h':=h') (t':=d.toks) λb o e=>g b o (Nat.ne_of_lt (Heap.lt_size e)) e
 show wpAny _ _ (assignInOrder [λv=>bindName X.env y v,λv=>bindName X.env x v] [u2,u1] >>= λ_=>pure Flow.next) _ _ _;refine wpAny_bind (assignInOrder_cons (wpAny_bindName (eh I3 z R (.inl u) rw' (λs2 M=>?_) (.inr u))));refine assignInOrder_cons (wpAny_bindName (eh M z N (.inl F) rv (λs3 A=>assignInOrder_nil (wpAny_pure ?_)) (.inr F)));rw[List.set_comm _ _ (Ne.symm r)]at A;exact⟨_,E,A,n⟩
def Br(i:Nat)(te:TE)(ti:TIp):TS:=λD σ H=>∃ x,σ[i]? = some (some x)/\te σ H λy H1=>ti x y H1 λz H2=>D.nx (σ.set i (some z)) H2
theorem vm{i:Nat}{x:Str}{e:Expr}{p:TE}{op:Operator}{n:TIp}{d:Pos}(E:X.N.Nodup)(o:X.N[i]? = some x)(g:Loc X.env.scope x)(M:PE X e p)(K:PIp X op n)(N:X.fn x = true\/X.env.scope.names.lookup x = some .local:=by first | exact .inl rfl | exact .inr rfl | assumption) :
  PS X (.AugAssign (.Name x d) op e pos) (Br i p n):=by
 intro a s A H D I h;obtain⟨v,W,h⟩:=h;obtain⟨m,T,hl⟩:=I.loc;have j:Vis X.env.scope x:=by rcases g with k | k;exact .inl k;exact .inr (.inl k)
 obtain⟨u,r,l⟩:=hl i x v o W j;refine wpAny_AugAssign_Name ?_
 have q:wpAny (model X.prog X.w) X.A (eval e X.env) (λw f=>wpAny (model X.prog X.w) X.A (inplaceOp op u w) (λr s₃=>wpAny (model X.prog X.w) X.A (storeName X.env x r) (λ_=>SP X a D .next) X.xe s₃) X.xe f) X.xe s:=by
  refine thn (M a s A H _ I h) λw R ⟨y,Y,C,B,P⟩=>?_
  refine thn (K a R A Y v y u w _ C r B P) λz s2 ⟨zv,Q,G,r2,q2⟩=>?_
  exact eh G E o g r2 (λs3 Z=>⟨_,Q,Z,q2⟩) N
 rcases l with⟨hk,F⟩ | ⟨hk,c,L,b⟩
 .exact wpAny_loadName_local I.ok.kind hk T F q
 .rcases hk with hk | hk
  .exact wpAny_loadName_cell I.ok.kind hk L b q
  .rcases g with k | k
   .have:X.env.scope.names.lookup x=some .free:=hk
    rw[k]at this;cases this
   .have:X.env.scope.names.lookup x=some .free:=hk
    rw[k]at this;cases this
def ipI(f:Int->Int->Int):TIp:=λx y H Q=>∃ i j,x=.int i/\y=.int j/\Q (.int (f i j)) H
theorem ul:PIp X .Add (ipI λi j=>i+j):=by
 intro a s k H x y v u Q I c f h;obtain⟨i,j,b,d,q⟩:=h;subst b;subst d;obtain⟨t,rfl⟩:=c;obtain⟨g,rfl⟩:=f;exact iadd_int ⟨.int _,H,I.tok _,⟨_,rfl⟩,q⟩
end
section
variable {X:Cx}{pos:Pos}
def yI(c:TT)(tb:TS):TS:=λD σ H=>∃ W:Nat->St->Hp->Prop,(∃ m,W m σ H)/\∀ m σ H,W m σ H ->
 c σ H λb H1=>if b=true then ∃ N:St->Hp->Prop,(∀ σ' H',N σ' H'->∃ m',m'<m/\W m' σ' H')/\tb { D with nx:=N,ct:=N,bk:=D.nx } σ H1 else D.nx σ H1
theorem iU{c:Expr}{body:List Stmt}{z:TT}{w:TS}(C:PassesOwn (model X.prog X.w) X.A X.env X.xe)(Q:PT X c z)(G:PSs X body w):PS X (.While c body [] pos) (yI z w):=by
 intro a s T H D I h;obtain⟨W,⟨P,M⟩,j⟩:=h;refine wpAny_While (codeAny_whileLoop (λn F=>∃ σ' H',Inv X a σ' H' F/\W n σ' H') ?_ P ⟨T,H,I,M⟩);rintro n R ⟨g,B,E,L⟩;refine wpAny_passesOwn C (thn (Q a R g B _ E (j n g B L)) λb K ⟨A,y,l⟩=>?_);cases b with
 | true =>
  obtain⟨N,x,l⟩:=l;rw[if_pos rfl];refine wpAny_passesOwn C (thn (G a K g A _ y l) λf Y k=>?_);cases f with
  | next =>
   obtain⟨d,i,u,q⟩:=k;obtain⟨o,p,r⟩:=x d i q;exact⟨o,p,d,i,u,r⟩
  | cont =>
   obtain⟨d,i,u,q⟩:=k;obtain⟨o,p,r⟩:=x d i q;exact⟨o,p,d,i,u,r⟩
  | brk=>exact k
  | ret v=>exact k
 | false =>
  rw[if_neg Bool.false_ne_true];exact wpAny_execs_nil ⟨g,A,y,l⟩
end
structure It where
 go:Nat->Hp->Prop
 yld:Nat->Hp->V->Hp->Prop
 stop:Nat->Hp->Prop
def fR(X:Cx)(pins:List (Addr×Obj))(H:Hp)(b:Addr):Prop :=
 H b = none/\b≠X.env.locals/\b ∉ X.fs/\(b ∈ X.ex\/X.s₀.heap.objs.size<=b)/\(∀ x c,X.env.cells.lookup x = some c->c≠b)/\∀ p ∈ X.pn ++ pins,p.1≠b
theorem Inv.fpOk{X:Cx}{a:List (Addr×Obj)}{σ:St}{H H':Hp}{s:Shared}{b:Addr}(I:Inv X a σ H s)(d:s.heap.objs.size<=b)(f:H' b=none):fR X a H' b:=by
 refine⟨f,Nat.ne_of_gt (Nat.lt_of_lt_of_le I.lt d),I.nofs d,.inr (Nat.le_trans I.sz d),λx c e z=>?_,λp hp z=>?_⟩
 .obtain⟨v,q⟩:=I.cell x c e
  exact absurd (Nat.lt_of_lt_of_le q.lt (by rw[z];exact d)) (Nat.lt_irrefl _)
 .exact absurd (Nat.lt_of_lt_of_le (Heap.lt_size (I.pin p hp).1) (by rw[z];exact d)) (Nat.lt_irrefl _)
structure Turn(P:Program)(w:World)(K:Frag)(tg:Expr)(J:It)(fp:List Addr)(it:Addr)(tn:Nat->Heap->Prop):Prop where
 mem:it∈fp
 obj:∀ i h,tn i h->∀ b∈fp,∃ o,h.get? b=some o/\∀ v,o.data≠.cell v
 keep:∀ i h h',tn i h->(∀ b∈fp,∀ o,h.get? b=some o->h'.get? b=some o)->tn i h'
 item:∀(X:Cx),X.prog=P->X.w=w->X.K=K->X.calm=true->∀(i:Nat) (pins:List (Addr×Obj)) (s:Shared) (σ:St) (H:Hp) (E:Value->Shared->Prop),Inv X pins σ H s->(∀ b∈fp,fR X pins H b)->tn i s.heap->J.go i H ->
  wpAny (model P w) X.A (pyNext (.ref it)) (λr s1=>∃ u,r=some u /\
   wpAny (model P w) X.A (letOwnedTupleGo tg (.ref it) u) (λ_ s2=>∃ x H',Inv X pins σ H' s2/\RelV x u/\J.yld i H x H'/\tn (i+1) s2.heap/\∀ b∈fp,H' b=none) E s1) E s
 done:∀(X:Cx),X.prog=P->X.w=w->X.K=K->X.calm=true->∀(i:Nat) (pins:List (Addr×Obj)) (s:Shared) (σ:St) (H:Hp) (E:Value->Shared->Prop),Inv X pins σ H s->(∀ b∈fp,fR X pins H b)->tn i s.heap->J.stop i H ->
  wpAny (model P w) X.A (pyNext (.ref it)) (λr s1=>r=none/\Inv X pins σ H s1) E s
 self:∀(A:Around) (i:Nat) (s:Shared) (Q:Value->Shared->Prop) (E:Value->Shared->Prop),tn i s.heap->Q (.ref it) s->wpAny (model P w) A (pyIter (.ref it)) Q E s
abbrev TI:=St->Hp->(It->Hp->Prop)->Prop
def PIE(X:Cx)(pins:List (Addr×Obj))(σ:St)(tg:Expr)(R:It->Hp->Prop)(itv:Value)(s2:Shared):Prop :=
 ∃(it:Addr) (fp:List Addr) (tn:Nat->Heap->Prop) (J:It) (H':Hp),itv=.ref it/\Inv X pins σ H' s2/\Turn X.prog X.w X.K tg J fp it tn/\tn 0 s2.heap/\(∀ b∈fp,fR X pins H' b)/\R J H'
def PI(X:Cx)(tg iter:Expr)(wi:TI):Prop :=
 ∀(pins:List (Addr×Obj)) (s:Shared) (σ:St) (H:Hp) (R:It->Hp->Prop),Inv X pins σ H s->wi σ H R ->
  wpAny (model X.prog X.w) X.A (eval iter X.env) (λv s1=>wpAny (model X.prog X.w) X.A (pyIter v) (PIE X pins σ tg R) X.xe s1) X.xe s
theorem mW{M:Model}{A:Around}{E:Value->Shared->Prop}{s:Shared}{tg:Expr}{b:Addr}{u:Value}{o:Obj}{n:String}{vs:Array Value}{Q:Unit->Shared->Prop}(c:s.heap.get? b=some o)(f:o.cls=.type n)(d:o.data=.fields vs)
  (g:["enumerate","zip","dict_itemiterator","dict_reverseitemiterator","odict_iterator","itertools.zip_longest","itertools.pairwise"].contains n=false) (a:Q () s):wpAny M A (letOwnedTupleGo tg (.ref b) u) Q E s:=by
 unfold letOwnedTupleGo
 cases tg <;> first
  | exact wpAny_pure a
  | (cases u <;> first
    | exact wpAny_pure a
    | (refine wpAny_bind (wpAny_load c ?_)
       rw[f,d];show wpAny M A (if (["enumerate","zip","dict_itemiterator","dict_reverseitemiterator","odict_iterator","itertools.zip_longest","itertools.pairwise"].contains n && vs[0]? == some (rawInt _))=true then _ else _) Q E s;rw[if_neg (by intro h;rw[g,Bool.false_and]at h;cases h)]
       exact wpAny_pure a))
def Itl(K:Frag)(a:Addr):It :=
 ⟨λi H=>∃ xs x,SqL K H a xs/\xs[i]? = some x,λi H x H'=>H'=H/\∀ xs,SqL K H a xs->xs[i]? = some x,λi H=>∃ xs,SqL K H a xs/\xs.length<=i⟩
def Itt(K:Frag)(a:Addr):It :=
 ⟨λi H=>∃ xs x,SqT K H a xs/\xs[i]? = some x,λi H x H'=>H'=H/\∀ xs,SqT K H a xs->xs[i]? = some x,λi H=>∃ xs,SqT K H a xs/\xs.length<=i⟩
def Itr(lo:Int)(n:Nat):It:=⟨λi _=>i<n,λi H x H'=>H'=H/\x=.int (lo+i),λi _=>n<=i⟩
theorem sv{P:Program}{w:World}{K:Frag}{tg:Expr}(a l:Addr):Turn P w K tg (Itl K a) [l] l (λi h=>h.IsListIter l a i) where
 mem:=by simp
 obj:=λi h f b j=>by
  have e:b=l:=by simpa using j
  subst e;obtain⟨o,e,c,d⟩:=f;exact⟨o,e,λv z=>by rw[d]at z;cases z⟩
 keep:=λi h r f k=>f.at λo e=>k l (by simp) o e
 item:=by
  intro X L A T W i g s Y H E I y f B;subst L A T;obtain⟨xs,x,q,Q⟩:=B;obtain⟨M,N,p,hz⟩:=I.list q;obtain⟨u,hu,ru⟩:=N.get Q;obtain⟨D,F,f2,R,C,G⟩:=y l (by simp);refine wpAny_pyNext_list_item f p.isList (x:=u) (by simpa using hu) λr n sb=>?_
  have I1:Inv X g Y H { s with heap:=r }:=I.turned (t':=s.toks) (λb o j e=>(sb.2 b j).trans e) D F R C G;obtain⟨o,e,c,d⟩:=id n;exact⟨u,rfl,mW (s:={ s with heap:=r }) e c d (by decide) ⟨x,H,I1,ru,⟨rfl,λys Z=>by rw[I.list_inj Z q];exact Q⟩,n,λb j=>(y b j).1⟩⟩
 done:=by
  intro X L A T W i g s Y H E I y f B;subst L A T;obtain⟨xs,q,Q⟩:=B;obtain⟨M,N,p,hz⟩:=I.list q;obtain⟨D,F,f2,R,C,G⟩:=y l (by simp);have hl:=N.length
  exact wpAny_pyNext_list_end (I.ok.hd W) f p.isList (by simp;lia) λr eb=>⟨rfl,I.turned (t':=s.toks) (λb o j e=>eb b o j e) D F R C G⟩
 self:=λ_ _ _ _ _ f h=>wpAny_pyIter_listiter f h
theorem oK{P:Program}{w:World}{K:Frag}{tg:Expr}(a n:Addr):Turn P w K tg (Itt K a) [n] n (λi h=>h.IsTupleIter n a i) where
 mem:=by simp
 obj:=λi h f b j=>by
  have e:b=n:=by simpa using j
  subst e;obtain⟨o,e,c,d⟩:=f;exact⟨o,e,λv z=>by rw[d]at z;cases z⟩
 keep:=λi h y f k=>f.at λo e=>k n (by simp) o e
 item:=by
  intro X M B T W i g s Y H E I A f C;subst M B T;obtain⟨xs,x,r,Q⟩:=C;obtain⟨l,N,p,hz⟩:=I.tuple r;obtain⟨u,hu,ru⟩:=N.get Q;obtain⟨F,G,f2,R,D,L⟩:=A n (by simp);refine wpAny_pyNext_tuple_item f (show s.heap.IsTuple a l.toArray from p) (x:=u) (by simpa using hu) λy q sb=>?_
  have I1:Inv X g Y H { s with heap:=y }:=I.turned (t':=s.toks) (λb o j e=>(sb.2 b j).trans e) F G R D L;obtain⟨o,e,c,d⟩:=id q;exact⟨u,rfl,mW (s:={ s with heap:=y }) e c d (by decide) ⟨x,H,I1,ru,⟨rfl,λys Z=>by rw[I.tuple_inj Z r];exact Q⟩,q,λb j=>(A b j).1⟩⟩
 done:=by
  intro X M B T W i g s Y H E I A f C;subst M B T;obtain⟨xs,r,Q⟩:=C;obtain⟨l,N,p,hz⟩:=I.tuple r;obtain⟨F,G,f2,R,D,L⟩:=A n (by simp);have hl:=N.length
  exact wpAny_pyNext_tuple_end (I.ok.hd W) f (show s.heap.IsTuple a l.toArray from p) (by simp;lia) λy eb=>⟨rfl,I.turned (t':=s.toks) (λb o j e=>eb b o j e) F G R D L⟩
 self:=λ_ _ _ _ _ f h=>wpAny_pyIter_tupleiter f h
theorem oW{P:Program}{w:World}{K:Frag}{tg:Expr}(d:Addr)(lo:Int)(n:Nat):Turn P w K tg (Itr lo n) [d] d (λi h=>IsRangeIter h d (lo+(i:Nat)*1) ((n:Int) - (i:Nat)) 1) where
 mem:=by simp
 obj:=λi h a b f=>by
  have e:b=d:=by simpa using f
  subst e
  exact⟨_,a,λv z=>by
   have R:Data.fields _=Data.cell v:=z
   cases R⟩
 keep:=λi h j a k=>k d (by simp) _ a
 item:=by
  intro X B p D A i c s F H E I l a q;subst B p D;obtain⟨u,x,M,C,r,y⟩:=l d (by simp);have W:=Walks.range (prog:=X.prog) (w:=X.w) (I.ok.hd A) d lo 1 n;refine W.item i s _ _ q a λv j G T g N=>?_
  obtain⟨t,rfl⟩:=T;have L:Inv X c F H { s with heap:=j,toks:=G }:=I.turned (λb o f e=>N b o (by simpa using f) e) u x C r y;refine⟨_,rfl,mW (s:={ s with heap:=j,toks:=G }) (n := "range_iterator") g rfl rfl (by decide) ⟨.int (lo+i),H,L,⟨t,?_⟩,⟨rfl,rfl⟩,g,λb f=>(l b f).1⟩⟩;rw[Int.mul_one]
 done:=by
  intro X B p D A i c s F H E I l a q;subst B p D;obtain⟨u,x,M,C,r,y⟩:=l d (by simp)
  exact wpAny_pyNext_range_end (I.ok.hd A) a (by have:n<=i:=q;lia) λj Q=>⟨rfl,I.turned (t':=s.toks) (λb o f e=>Q b o f e) u x C r y⟩
 self:=λ_ _ _ _ _ a h=>wpAny_pyIter_rangeiter a h
section
variable {X:Cx}{tg:Expr}
theorem nP{c:List (Addr×Obj)}{σ:St}{H:Hp}{s:Shared}{R:It->Hp->Prop}{E:Value->Shared->Prop}{lo a:Int}{t u v:Tok}{tk:Nat}(I:Inv X c σ H s)(j:-(2 ^ 62)<=lo)(h2:lo<2 ^ 62)(g:-(2 ^ 62)<=a)(f:a<2 ^ 62)
  (q:R (Itr lo (a - lo).toNat) H):wpAny (model X.prog X.w) X.A (pyIter (.ref s.heap.objs.size)) (PIE X c σ tg R) E { s with heap:=s.heap.push { cls:=.type "range",data:=.fields #[.int lo t,.int a u,.int 1 v] },toks:=tk }:=by
 refine wpAny_pyIter_range (IsRange.new ..) (small_one j h2 g f) ?_;have d:Inv X c σ H { s with heap:=s.heap.push { cls:=.type "range",data:=.fields #[.int lo t,.int a u,.int 1 v] },toks:=tk }:=I.kept λb o e=>Heap.get?_push_of_some _ e
 refine⟨(s.heap.push { cls:=.type "range",data:=.fields #[.int lo t,.int a u,.int 1 v] }).objs.size,[(s.heap.push { cls:=.type "range",data:=.fields #[.int lo t,.int a u,.int 1 v] }).objs.size],_,_,H,rfl,
  d.kept (t':=tk) λb o e=>Heap.get?_push_of_some _ e,oW _ lo (a - lo).toNat,?_,λb hb=>?_,q⟩
 .have i:lo+((0:Nat):Int)*1=lo:=by simp
  have h:(((a - lo).toNat:Nat):Int) - ((0:Nat):Int)=Builtin.Range.rangeSize lo a 1:=by rw[rangeSize_one];split <;> lia
  show IsRangeIter _ _ (lo+((0:Nat):Int)*1) ((((a - lo).toNat:Nat):Int) - ((0:Nat):Int)) 1;rw[i,h];exact Heap.get?_push_size _ rfl
 .have e:b=(s.heap.push { cls:=.type "range",data:=.fields #[.int lo t,.int a u,.int 1 v] }).objs.size:=by simpa using hb
  subst e;exact d.fpOk (Nat.le_refl _) (d.hok.fresh (Nat.le_refl _))
def zU(ta:TA):TI:=λσ H R=>ta σ H λvs H1=>∃ j:Int,vs=[.int j]/\-(2 ^ 62)<=j/\j<2 ^ 62/\R (Itr 0 j.toNat) H1
def Aq(ta:TA):TI:=λσ H R=>ta σ H λvs H1=>∃ i j:Int,vs=[.int i,.int j]/\(-(2 ^ 62)<=i/\i<2 ^ 62/\-(2 ^ 62)<=j/\j<2 ^ 62)/\R (Itr i (j - i).toNat) H1
theorem d5{a:Expr}{f:TA}{p c:Pos}(k:Gl X "range")(u:X.mg "range" = none)(v:PA X [a] f)(g:starEach [a] X.env=[(false,eval a X.env)]:=by rfl):PI X tg (.Call (.Name "range" p) [a] [] c) (zU f):=by
 intro b s i H R I h;refine Call_ (gJ I k u boot_range (PyProof.Rows.callWith_type1 (thn (v c b s i H _ I h) λy w ⟨z,x,o,l,d⟩=>?_) g rfl));obtain⟨j,e,d,n,q⟩:=d;subst e;cases l with
 | cons r rr =>
  cases rr;obtain⟨t,rfl⟩:=r;exact call_range_1 (nP o (by lia) (by lia) d n (by simpa using q))
theorem sj{a b:Expr}{k:TA}{p d:Pos}(l:Gl X "range")(v:X.mg "range" = none)(y:PA X [a,b] k)(x:starEach [a,b] X.env=[(false,eval a X.env),(false,eval b X.env)]:=by rfl)(f:starEach [b] X.env=[(false,eval b X.env)]:=by rfl) :
  PI X tg (.Call (.Name "range" p) [a,b] [] d) (Aq k):=by
 intro c s z H R I h;refine Call_ (gJ I l v boot_range (PyProof.Rows.callWith_type1 (thn (y d c s z H _ I h) λD E ⟨C,F,u,o,g⟩=>?_) (by rw[x,f]) (by rw[f];rfl)));obtain⟨i,j,e,⟨g,A,w,n⟩,q⟩:=g;subst e;cases o with
 | cons r rr =>
  cases rr with
  | cons r' rr =>
   cases rr;obtain⟨t,rfl⟩:=r;obtain⟨B,rfl⟩:=r';exact call_range_2 (nP u g A w n q)
def Bj(wi:TI)(g:TG)(tb:TS):TS:=λD σ H=>wi σ H λJ H1=>∃ W:Nat->Nat->St->Hp->Prop,(∃ m,W 0 m σ H1)/\∀ i m σ H,W i m σ H ->
 (J.stop i H/\D.nx σ H)\/(J.go i H/\∃ N:St->Hp->Prop,(∀ σ' H',N σ' H'->∃ m',m'<m/\W (i+1) m' σ' H')/\∀ x H',J.yld i H x H'->g x σ H' λσ2 H2=>tb { D with nx:=N,ct:=N,bk:=D.nx } σ2 H2)
def jF(fp:List Addr)(h:Heap):List (Addr×Obj):=fp.filterMap λb=>(h.get? b).map λo=>(b,o)
theorem eI{a:List Addr}{h:Heap}{b:Addr}{o:Obj}(c:b∈a)(e:h.get? b=some o):(b,o)∈jF a h:=List.mem_filterMap.mpr ⟨b,c,by rw[e];rfl⟩
theorem rq{a:List Addr}{h:Heap}{p:Addr×Obj}(d:p∈jF a h):p.1∈a/\h.get? p.1=some p.2:=by
 obtain⟨b,f,e⟩:=List.mem_filterMap.mp d;cases q:h.get? b with
 | none=>rw[q]at e;cases e
 | some o =>
  rw[q]at e;have c:(b,o)=p:=Option.some.inj e;subst c;exact⟨f,q⟩
theorem Inv.pinned{a:List (Addr×Obj)}{σ:St}{H:Hp}{s:Shared}{c:List Addr}(I:Inv X a σ H s)(n:∀ b∈c,fR X a H b)(h:∀ b∈c,∃ o,s.heap.get? b=some o/\∀ v,o.data≠.cell v):Inv X (a++jF c s.heap) σ H s :=
 I.pins_of λp l=>(mem_append.mp l).elim (λz=>I.pin p (mem_append_right _ z)) λz=>by
  obtain⟨g,e⟩:=rq z;obtain⟨j,k,i,_⟩:=n p.1 g;obtain⟨o,f,d⟩:=h p.1 g;rw[e]at f;cases f;exact⟨e,j,k,i,d⟩
theorem Inv.unpinned{a pl:List (Addr×Obj)}{σ:St}{H:Hp}{s:Shared}(I:Inv X (a++pl) σ H s):Inv X a σ H s:=I.pins_of λp b=>I.pin p (mem_append_right _ (mem_append_left _ b))
theorem cY{y:Expr}{body:List Stmt}{wi:TI}{g:TG}{tb:TS}{ab:Pos}(M:PassesOwn (model X.prog X.w) X.A X.env X.xe)(hc:X.calm=true)(hi:PI X tg y wi)(hg:PG X tg g)(l:PSs X body tb)
  (hs:∀ x,foldedSetIterable y X.env x=pure x:=by intro _;rfl):PS X (.For tg y body [] ab) (Bj wi g tb):=by
 intro a s σ H D I h;refine wpAny_For (thn (hi a s σ H _ I h) λv s1 h1=>thn h1 λitv s2 h2=>?_) hs;obtain⟨it,F,tn,J,H2,e,I2,T,Y,f2,W,⟨m0,w0⟩,C⟩:=h2;subst e
 have k:∀{H':Hp},(∀ b∈F,H' b=none)->∀ b∈F,fR X a H' b:=λhn b l=>⟨hn b l,(f2 b l).2⟩
 refine codeAny_forLoop_any (λn s'=>∃ i σ' H',Inv X a σ' H' s'/\tn i s'.heap/\(∀ b∈F,H' b=none)/\W i n σ' H') ?_ m0 ⟨0,σ,H2,I2,Y,λb l=>(f2 b l).1,w0⟩;rintro n s3 ⟨i,q,P,I3,B,L,w3⟩
 rcases C i n q P w3 with⟨K,qn⟩ | ⟨go,N,hN,G⟩
 .refine wpAny_passesOwn M (thn (T.done X rfl rfl rfl hc i a s3 q P X.xe I3 (k L) B K) λr s4 ⟨Z,I4⟩=>?_)
  subst Z;exact wpAny_execs_nil ⟨q,P,I4,qn⟩
 .refine wpAny_passesOwn M (thn (T.item X rfl rfl rfl hc i a s3 q P X.xe I3 (k L) B go) λr s4 ⟨u,Z,h4⟩=>?_)
  subst Z;refine wpAny_passesOwn M (thn h4 λ_ s5 ⟨x,H5,I5,r5,y5,A,R⟩=>?_);have ac:=I5.pinned (k R) (T.obj _ _ A);refine wpAny_passesOwn M (thn (hg _ s5 q H5 x u _ ac r5 (G x H5 y5)) λ_ s6 ⟨Q,H6,I6,q6⟩=>?_);refine wpAny_passesOwn M (thn (l _ s6 Q H6 _ I6 q6) λf s7 z=>?_)
  have p:∀{c:St}{j:Hp},Inv X (a++jF F s5.heap) c j s7->N c j->∃ m,m<n/\∃ i σ' H',Inv X a σ' H' s7/\tn i s7.heap/\(∀ b∈F,H' b=none)/\W i m σ' H':=λ{c j} w E=>by
   obtain⟨m',hm,w7⟩:=hN c j E;refine⟨m',hm,i+1,c,j,w.unpinned,T.keep _ _ _ A λb l o e=>(w.pin (b,o) (mem_append_right _ (mem_append_right _ (eI l e)))).1,λb l=>?_,w7⟩;obtain⟨o,e,d⟩:=T.obj _ _ A b l;exact(w.pin (b,o) (mem_append_right _ (mem_append_right _ (eI l e)))).2.1
  cases f with
  | next=>obtain⟨c,j,w,E⟩:=z;exact p w E
  | cont=>obtain⟨c,j,w,E⟩:=z;exact p w E
  | brk=>obtain⟨c,j,w,z⟩:=z;exact⟨c,j,w.unpinned,z⟩
  | ret v=>obtain⟨x7,c,j,w,r7,z⟩:=z;exact⟨x7,c,j,w.unpinned,r7,z⟩
end
theorem d8{K:Frag}{a:Addr}{xs:List V}{g:TG}{c:TS}{D:Ends}{σ:St}{H:Hp}(b:Nat->St->Hp->Prop)(j:b 0 σ H)(h:∀ i σ H,i<=xs.length->b i σ H->SqL K H a xs)
  (k:∀ i x σ H,xs[i]? = some x->b i σ H->g x σ H λσ2 H2=>c { D with nx:=b (i+1),ct:=b (i+1),bk:=D.nx } σ2 H2) (d:∀ σ H,b xs.length σ H->D.nx σ H) :
  ∃ W:Nat->Nat->St->Hp->Prop,(∃ m,W 0 m σ H)/\∀ i m σ H,W i m σ H ->
   ((Itl K a).stop i H/\D.nx σ H)\/((Itl K a).go i H/\∃ N:St->Hp->Prop,(∀ σ' H',N σ' H'->∃ m',m'<m/\W (i+1) m' σ' H')/\∀ x H',(Itl K a).yld i H x H'->g x σ H' λσ2 H2=>c { D with nx:=N,ct:=N,bk:=D.nx } σ2 H2):=by
 refine⟨λi m σ H=>m=xs.length - i/\i<=xs.length/\b i σ H,⟨xs.length,by simp,Nat.zero_le _,j⟩,?_⟩;rintro i m σ H ⟨rfl,f,p⟩;have q:=h i σ H f p
 by_cases hlt:i<xs.length
 .refine .inr ⟨⟨xs,xs[i],q,by simp[hlt]⟩,b (i+1),λσ' H' l=>⟨xs.length - (i+1),by lia,rfl,hlt,l⟩,λx H' y=>?_⟩
  obtain⟨e,y⟩:=y;subst e;exact k i x σ _ (y xs q) p
 .have e:i=xs.length:=by lia
  subst e;exact .inl ⟨⟨xs,q,Nat.le_refl _⟩,d σ H p⟩
theorem fw{lo:Int}{n:Nat}{g:TG}{b:TS}{D:Ends}{σ:St}{H:Hp}(a:Nat->St->Hp->Prop)(d:a 0 σ H)
  (f:∀ i σ H,i<n->a i σ H->g (.int (lo+i)) σ H λσ2 H2=>b { D with nx:=a (i+1),ct:=a (i+1),bk:=D.nx } σ2 H2) (c:∀ σ H,a n σ H->D.nx σ H) :
  ∃ W:Nat->Nat->St->Hp->Prop,(∃ m,W 0 m σ H)/\∀ i m σ H,W i m σ H ->
   ((Itr lo n).stop i H/\D.nx σ H)\/((Itr lo n).go i H/\∃ N:St->Hp->Prop,(∀ σ' H',N σ' H'->∃ m',m'<m/\W (i+1) m' σ' H')/\∀ x H',(Itr lo n).yld i H x H'->g x σ H' λσ2 H2=>b { D with nx:=N,ct:=N,bk:=D.nx } σ2 H2):=by
 refine⟨λi m σ H=>m=n - i/\i<=n/\a i σ H,⟨n,by simp,Nat.zero_le _,d⟩,?_⟩;rintro i m σ H ⟨rfl,j,p⟩
 by_cases hlt:i<n
 .refine .inr ⟨hlt,a (i+1),λσ' H' h=>⟨n - (i+1),by lia,rfl,hlt,h⟩,λx H' y=>?_⟩
  obtain⟨e,y⟩:=y;subst e y;exact f i σ _ hlt p
 .have e:i=n:=by lia
  subst e;exact .inl ⟨Nat.le_refl _,c σ H p⟩
abbrev R2:=V->V->Hp->VK->Prop
def OpR(X:Cx)(f:Value->Value->Sem Value)(r:R2):Prop :=
 ∀(pins:List (Addr×Obj)) (s:Shared) (σ:St) (H:Hp) (x y:V) (v u:Value) (Q:VK),Inv X pins σ H s->RelV x v->RelV y u->r x y H Q ->
  wpAny (model X.prog X.w) X.A (f v u) (EP X pins σ Q) X.xe s
def UnR(X:Cx)(f:Value->Sem Value)(r:V->Hp->VK->Prop):Prop :=
 ∀(pins:List (Addr×Obj)) (s:Shared) (σ:St) (H:Hp) (x:V) (v:Value) (Q:VK),Inv X pins σ H s->RelV x v->r x H Q ->
  wpAny (model X.prog X.w) X.A (f v) (EP X pins σ Q) X.xe s
def CallR(X:Cx)(f:Value)(r:List V->Hp->VK->Prop):Prop :=
 ∀(pins:List (Addr×Obj)) (s:Shared) (σ:St) (H:Hp) (xs:List V) (us:List Value) (Q:VK),Inv X pins σ H s->Vals xs us->r xs H Q ->
  wpAny (model X.prog X.w) X.A (call f us) (EP X pins σ Q) X.xe s
def Bk(X:Cx)(r:V->Hp->(Bool->Hp->Prop)->Prop):Prop :=
 ∀(pins:List (Addr×Obj)) (s:Shared) (σ:St) (H:Hp) (x:V) (v:Value) (Q:Bool->Hp->Prop),Inv X pins σ H s->RelV x v->r x H Q ->
  wpAny (model X.prog X.w) X.A (truthy v) (TP X pins σ Q) X.xe s
def tOp(r:R2)(ta tb:TE):TE:=λσ H Q=>ta σ H λx H1=>tb σ H1 λy H2=>r x y H2 Q
def tUn(r:V->Hp->VK->Prop)(ta:TE):TE:=λσ H Q=>ta σ H λx H1=>r x H1 Q
def rI(C:Int->Int->Prop)(g:Int->Int->V):R2:=λx y H Q=>∃ i j,x=.int i/\y=.int j/\C i j/\Q (g i j) H
def rI0(g:Int->Int->V):R2:=λx y H Q=>∃ i j,x=.int i/\y=.int j/\Q (g i j) H
def rU(g:Int->V):V->Hp->VK->Prop:=λx H Q=>∃ i,x=.int i/\Q (g i) H
section
variable {X:Cx}{a b c:Expr}{ta tb tc:TE}{pos:Pos}
theorem yq(q:PE X a ta)(j:PE X b tb){c:List (Addr×Obj)}{s:Shared}{σ:St}{H:Hp}{R:V->V->Hp->Prop}(I:Inv X c σ H s)
  (h:ta σ H λx H1=>tb σ H1 λy H2=>R x y H2){Q:Value->Shared->Prop}{f:Value->Value->Sem Value}
  (n:∀ v u s2 x y H2,Inv X c σ H2 s2->RelV x v->RelV y u->R x y H2->wpAny (model X.prog X.w) X.A (f v u) Q X.xe s2) :
  wpAny (model X.prog X.w) X.A (eval a X.env) (λv s₁=>wpAny (model X.prog X.w) X.A (eval b X.env) (λu s₂=>wpAny (model X.prog X.w) X.A (f v u) Q X.xe s₂) X.xe s₁) X.xe s:=by
 refine thn (q c s σ H _ I h) λv i ⟨x,H1,l,k,g⟩=>?_
 refine thn (j c i σ H1 _ l g) λu s2 ⟨y,H2,d,o,p⟩=>?_
 exact n v u s2 x y H2 d k o p
theorem av{op:Operator}{r:R2}(f:OpR X (binaryOp op) r)(k:PE X a ta)(g:PE X b tb):PE X (.BinOp a op b pos) (tOp r ta tb):=by
 intro c s i H Q I h;exact wpAny_BinOp (yq k g I h λv u j x y n o d l q=>f c j i n x y v u Q o d l q)
theorem me{op:UnaryOp}{r:V->Hp->VK->Prop}(d:UnR X (unaryOp op) r)(l:PE X a ta):PE X (.UnaryOp op a pos) (tUn r ta):=by
 intro b s c H Q I h;exact UnaryOp_ (thn (l b s c H _ I h) λv f ⟨x,g,j,i,k⟩=>d b f c g x v Q j i k)
theorem opI{f:Value->Value->Sem Value}{C:Int->Int->Prop}{g:Int->Int->Int}
  (a:∀(i j:Int) (t u:Tok) (s:Shared) (Q:Value->Shared->Prop) (E:Value->Shared->Prop),C i j->Q (.int (g i j) s.toks) { s with toks:=s.toks+1 }->wpAny (model X.prog X.w) X.A (f (.int i t) (.int j u)) Q E s) :
  OpR X f (rI C λi j=>.int (g i j)):=by
 intro b s n H x y v u Q I c l h;obtain⟨i,j,rfl,rfl,d,q⟩:=h;obtain⟨t,rfl⟩:=c;obtain⟨k,rfl⟩:=l;exact a i j t k s _ _ d ⟨.int (g i j),H,I.tok _,⟨_,rfl⟩,q⟩
theorem zT{f:Value->Value->Sem Value}{g:Int->Int->Int}
  (a:∀(i j:Int) (t u:Tok) (s:Shared) (Q:Value->Shared->Prop) (E:Value->Shared->Prop),Q (.int (g i j) s.toks) { s with toks:=s.toks+1 }->wpAny (model X.prog X.w) X.A (f (.int i t) (.int j u)) Q E s) :
  OpR X f (rI0 λi j=>.int (g i j)):=by
 intro b s l H x y v u Q I c k h;obtain⟨i,j,rfl,rfl,q⟩:=h;obtain⟨t,rfl⟩:=c;obtain⟨d,rfl⟩:=k;exact a i j t d s _ _ ⟨.int (g i j),H,I.tok _,⟨_,rfl⟩,q⟩
theorem wy{f:Value->Value->Sem Value}{g:Int->Int->Bool}
  (a:∀(i j:Int) (t u:Tok) (s:Shared) (Q:Value->Shared->Prop) (E:Value->Shared->Prop),Q (.bool (g i j)) s->wpAny (model X.prog X.w) X.A (f (.int i t) (.int j u)) Q E s) :
  OpR X f (rI0 λi j=>.bl (g i j)):=by
 intro b s l H x y v u Q I c k h;obtain⟨i,j,rfl,rfl,q⟩:=h;obtain⟨t,rfl⟩:=c;obtain⟨d,rfl⟩:=k;exact a i j t d s _ _ ⟨.bl (g i j),H,I,rfl,q⟩
def BE(i j:Int):Prop:=0<j/\j<1073741824
def AF(i j:Int):Prop:=0<=j/\j<=1000000/\i.natAbs<2 ^ 64
def CMul(i j:Int):Prop:=(-(2 ^ 64)<i/\i<2 ^ 64)\/(-(2 ^ 64)<j/\j<2 ^ 64)
theorem CMul.ok{i j:Int}(h:CMul i j):IntMulOk i j:=by
 rcases h with⟨a,b⟩ | ⟨a,b⟩
 .exact .of_left (intBits_le_64 a b)
 .exact .of_right (intBits_le_64 a b)
theorem op_add:OpR X (binaryOp .Add) (rI0 λi j=>.int (i+j)):=zT λ_ _ _ _ _ _ _ q=>add_int q
theorem op_sub:OpR X (binaryOp .Sub) (rI0 λi j=>.int (i - j)):=zT λ_ _ _ _ _ _ _ q=>sub_int q
theorem op_mod:OpR X (binaryOp .Mod) (rI (λ_ j=>0<j) λi j=>.int (i % j)):=opI λi j _ _ _ _ _ a q=>by
 have b:(0:Int)<j:=a;exact mod_int' (by lia) (by rw[Int.fmod_eq_emod_of_nonneg i (by lia)];exact q)
theorem op_pow:OpR X (binaryOp .Pow) (rI AF λi j=>.int (i ^ j.toNat)):=opI λ_ _ _ _ _ _ _ a q=>pow_int_small a.1 a.2.1 a.2.2 q
theorem unI{f:Value->Sem Value}{g:Int->Int}
  (a:∀(i:Int) (t:Tok) (s:Shared) (Q:Value->Shared->Prop) (E:Value->Shared->Prop),Q (.int (g i) s.toks) { s with toks:=s.toks+1 }->wpAny (model X.prog X.w) X.A (f (.int i t)) Q E s) :
  UnR X f (rU λi=>.int (g i)):=by
 intro b s d H x v Q I c h;obtain⟨i,rfl,q⟩:=h;obtain⟨t,rfl⟩:=c;exact a i t s _ _ ⟨.int (g i),H,I.tok _,⟨_,rfl⟩,q⟩
theorem y8:UnR X (unaryOp .USub) (rU λi=>.int (-i)):=unI λ_ _ _ _ _ q=>neg_int q
end
def zI:V->V->Bool
 | .non,.non=>true | .non,.int _=>true | .int _,.non=>true | .non,.bl _=>true | .bl _,.non=>true | .non,.str _=>true | .str _,.non=>true
 | .int _,.int _=>true | .bl _,.bl _=>true | .str _,.str _=>true | .byt _,.byt _=>true
 | .int _,.str _=>true | .str _,.int _=>true | .bl _,.str _=>true | .str _,.bl _=>true
 | _,_=>false
def rEq:R2:=λx y H Q=>zI x y=true/\Q (.bl (decide (x=y))) H
def rNe:R2:=λx y H Q=>zI x y=true/\Q (.bl (!decide (x=y))) H
theorem iJ{i j:Int}:decide (V.int i=V.int j)=(i == j):=by
 rw[Bool.eq_iff_iff];simp
theorem lK{i j:Bool}:decide (V.bl i=V.bl j)=(i == j):=by
 rw[Bool.eq_iff_iff];simp
theorem iI{i j:Str}:decide (V.str i=V.str j)=(i == j):=by
 rw[Bool.eq_iff_iff];simp
theorem qQ{i j:Array UInt8}:decide (V.byt i=V.byt j)=(i.toList == j.toList):=by
 rw[Bool.eq_iff_iff];cases i;cases j;simp
section
variable {X:Cx}{a b c:Expr}{ta tb tc:TE}{pos:Pos}
theorem aN{a:List (Addr×Obj)}{σ:St}{H:Hp}{s:Shared}{Q:VK}{k b:Bool}(I:Inv X a σ H s)(q:Q (.bl k) H)(e:k=b):EP X a σ Q (.bool b) s:=by
 subst e;exact⟨.bl k,H,I,rfl,q⟩
theorem op_eq:OpR X (compareOp .Eq) rEq:=by
 intro f s g H x y v u Q I d a h;obtain⟨c,q⟩:=h;cases x with
 | non =>
  cases d;cases y with
  | non=>cases a;exact PySem.EqNone.eq_none_none (aN I q (by simp))
  | bl j=>cases a;exact PySem.EqNone.eq_none_bool (aN I q (by simp))
  | int j=>obtain⟨b,rfl⟩:=a;exact PySem.EqNone.eq_none_int (aN I q (by simp))
  | str j=>obtain⟨b,rfl⟩:=a;exact PySem.EqNone.eq_none_str (aN I q (by simp))
  | _=>exact absurd (show false=true from c) Bool.false_ne_true
 | bl i =>
  cases d;cases y with
  | non=>cases a;exact PySem.EqNone.eq_bool_none (aN I q (by simp))
  | bl j=>cases a;exact eq_bool (aN I q lK)
  | str j=>obtain⟨b,rfl⟩:=a;exact PySem.EqMixed.eq_bool_str (aN I q (by simp))
  | _=>exact absurd (show false=true from c) Bool.false_ne_true
 | int i =>
  obtain⟨t,rfl⟩:=d;cases y with
  | non=>cases a;exact PySem.EqNone.eq_int_none (aN I q (by simp))
  | int j=>obtain⟨b,rfl⟩:=a;exact eq_int (aN I q iJ)
  | str j=>obtain⟨b,rfl⟩:=a;exact PySem.EqMixed.eq_int_str (aN I q (by simp))
  | _=>exact absurd (show false=true from c) Bool.false_ne_true
 | str i =>
  obtain⟨t,rfl⟩:=d;cases y with
  | non=>cases a;exact PySem.EqNone.eq_str_none (aN I q (by simp))
  | bl j=>cases a;exact PySem.EqMixed.eq_str_bool (aN I q (by simp))
  | int j=>obtain⟨b,rfl⟩:=a;exact PySem.EqMixed.eq_str_int (aN I q (by simp))
  | str j=>obtain⟨b,rfl⟩:=a;exact eq_str (aN I q iI)
  | _=>exact absurd (show false=true from c) Bool.false_ne_true
 | byt i =>
  obtain⟨t,rfl⟩:=d;cases y with
  | byt j=>obtain⟨b,rfl⟩:=a;exact PySem.W.eq_bytes (aN I q qQ)
  | _=>exact absurd (show false=true from c) Bool.false_ne_true
 | _=>cases y <;> exact absurd (show false=true from c) Bool.false_ne_true
theorem op_ne:OpR X (compareOp .NotEq) rNe:=by
 intro f s g H x y v u Q I d a h;obtain⟨c,q⟩:=h;cases x with
 | non =>
  cases d;cases y with
  | non=>cases a;exact PySem.EqNone.ne_none_none (aN I q (by simp))
  | bl j=>cases a;exact PySem.EqNone.ne_none_bool (aN I q (by simp))
  | int j=>obtain⟨b,rfl⟩:=a;exact PySem.EqNone.ne_none_int (aN I q (by simp))
  | str j=>obtain⟨b,rfl⟩:=a;exact PySem.EqNone.ne_none_str (aN I q (by simp))
  | _=>exact absurd (show false=true from c) Bool.false_ne_true
 | bl i =>
  cases d;cases y with
  | non=>cases a;exact PySem.EqNone.ne_bool_none (aN I q (by simp))
  | bl j=>cases a;exact ne_bool (aN I q (congrArg not lK))
  | str j=>obtain⟨b,rfl⟩:=a;exact PySem.EqMixed.ne_bool_str (aN I q (by simp))
  | _=>exact absurd (show false=true from c) Bool.false_ne_true
 | int i =>
  obtain⟨t,rfl⟩:=d;cases y with
  | non=>cases a;exact PySem.EqNone.ne_int_none (aN I q (by simp))
  | int j=>obtain⟨b,rfl⟩:=a;exact ne_int (aN I q (congrArg not iJ))
  | str j=>obtain⟨b,rfl⟩:=a;exact PySem.EqMixed.ne_int_str (aN I q (by simp))
  | _=>exact absurd (show false=true from c) Bool.false_ne_true
 | str i =>
  obtain⟨t,rfl⟩:=d;cases y with
  | non=>cases a;exact PySem.EqNone.ne_str_none (aN I q (by simp))
  | bl j=>cases a;exact PySem.EqMixed.ne_str_bool (aN I q (by simp))
  | int j=>obtain⟨b,rfl⟩:=a;exact PySem.EqMixed.ne_str_int (aN I q (by simp))
  | str j=>obtain⟨b,rfl⟩:=a;exact ne_str (aN I q (congrArg not iI))
  | _=>exact absurd (show false=true from c) Bool.false_ne_true
 | byt i =>
  obtain⟨t,rfl⟩:=d;cases y with
  | byt j=>obtain⟨b,rfl⟩:=a;exact PySem.W.ne_bytes (aN I q (congrArg not qQ))
  | _=>exact absurd (show false=true from c) Bool.false_ne_true
 | _=>cases y <;> exact absurd (show false=true from c) Bool.false_ne_true
theorem op_lt:OpR X (compareOp .Lt) (rI0 λi j=>.bl (decide (i<j))):=wy λ_ _ _ _ _ _ _ q=>lt_int q
theorem op_le:OpR X (compareOp .LtE) (rI0 λi j=>.bl (decide (i<=j))):=wy λ_ _ _ _ _ _ _ q=>le_int q
theorem op_gt:OpR X (compareOp .Gt) (rI0 λi j=>.bl (decide (j<i))):=wy λ_ _ _ _ _ _ _ q=>gt_int q
theorem op_ge:OpR X (compareOp .GtE) (rI0 λi j=>.bl (decide (j<=i))):=wy λ_ _ _ _ _ _ _ q=>ge_int q
theorem rk:OpR X (compareOp .Lt) (λx y H Q=>∃ i j,x=.str i/\y=.str j/\Q (.bl (decide (i.cps.toList<j.cps.toList))) H):=by
 intro a s f H x y v u Q I b c h;obtain⟨i,j,rfl,rfl,q⟩:=h;obtain⟨t,rfl⟩:=b;obtain⟨d,rfl⟩:=c;exact lt_str (aN I q rfl)
theorem op_in_str:OpR X (compareOp .In) (λx y H Q=>∃ i j,x=.str i/\y=.str j/\Q (.bl (!(Builtin.Str.occurrences j i 0 j.length 1).isEmpty)) H):=by
 intro a s f H x y v u Q I b c h;obtain⟨i,j,rfl,rfl,q⟩:=h;obtain⟨t,rfl⟩:=b;obtain⟨d,rfl⟩:=c;exact in_str (aN I q rfl)
theorem OpR.or{f:Value->Value->Sem Value}{r c:R2}(h:OpR X f r)(h':OpR X f c):OpR X f (λx y H Q=>r x y H Q\/c x y H Q):=by
 intro a s d H x y v u Q I b g q
 rcases q with q | q
 .exact h a s d H x y v u Q I b g q
 .exact h' a s d H x y v u Q I b g q
theorem bv(b:Expr){op:CmpOp}(h:op≠.In:=by decide)(h2:op≠.NotIn:=by decide):behindInMarks op b=false:=by
 have c:(op == CmpOp.In)=false:=by cases op <;> first | rfl | exact absurd rfl h
 have a:(op == CmpOp.NotIn)=false:=by cases op <;> first | rfl | exact absurd rfl h2
 cases b <;> simp[behindInMarks,c,a]
theorem fu{op:CmpOp}{r:R2}(f:OpR X (compareOp op) r)(k:PE X a ta)(g:PE X b tb)(l:behindInMarks op b=false):PE X (.Compare a [op] [b] pos) (tOp r ta tb):=by
 intro c s i H Q I h;exact wpAny_Compare1 (yq k g I h λv u j x y o p d n q=>f c j i o x y v u Q p d n q) l
def zM(K:Frag)(x:V)(H:Hp)(k:Bool):Prop :=
 match x with
 | .non=>k=false
 | .bl b=>k=b
 | .int i=>k=(i != 0)
 | .str y=>y.length<=sizeLine/\k=((y.length:Int) != 0)
 | .byt y=>y.size<=sizeLine/\k=((y.size:Int) != 0)
 | .ref p=>(∃ xs,SqL K H p xs/\k = !xs.isEmpty)\/(∃ xs,SqT K H p xs/\k = !xs.isEmpty)\/∃ kvs,H p=some (.dK kvs)/\k = !kvs.isEmpty
 | _=>False
theorem pq{κ:Type}{a:List (κ×V)}{vs:List (κ×Value)}(r:KV a vs):(!vs.isEmpty) = !a.isEmpty:=by
 cases r <;> rfl
theorem jd{xs:List V}{its:List Value}(r:Vals xs its):(!its.toArray.isEmpty) = !xs.isEmpty:=by
 cases r <;> simp
theorem gH:(sizeLine:Nat)<2 ^ 63:=by rw[sizeLine_eq];decide
theorem xZ:Bk X (λx H Q=>∃ k,zM X.K x H k/\Q k H):=by
 intro o s w H x v Q I g h;obtain⟨k,e,q⟩:=h;have z:=gH;have A:sizeLine=16777216:=sizeLine_eq;cases x with
 | non =>
  cases g;have a:k=false:=e;subst a;exact truthy_none ⟨H,I,q⟩
 | bl b =>
  cases g;have a:k=b:=e;subst a;exact wpAny_truthy_bool ⟨H,I,q⟩
 | int i =>
  obtain⟨t,rfl⟩:=g;have a:k=(i != 0):=e;subst a;exact PySem.P.truthy_int ⟨H,I,q⟩
 | str y =>
  obtain⟨t,rfl⟩:=g;obtain⟨hy,a⟩:y.length<=sizeLine/\k=((y.length:Int) != 0):=e;subst a;exact PySem.P.truthy_str (by lia) ⟨H,I.tok _,q⟩
 | byt y =>
  obtain⟨t,rfl⟩:=g;obtain⟨hy,a⟩:y.size<=sizeLine/\k=((y.size:Int) != 0):=e;subst a;exact PySem.W.truthy_bytes (by lia) ⟨H,I.tok _,q⟩
 | ref p =>
  cases g;have a:(∃ f,SqL X.K H p f/\k = !f.isEmpty)\/(∃ f,SqT X.K H p f/\k = !f.isEmpty)\/∃ c,H p=some (.dK c)/\k = !c.isEmpty:=e
  rcases a with⟨f,j,a⟩ | ⟨f,j,a⟩ | ⟨c,j,a⟩
  .subst a
   obtain⟨l,r,n,u⟩:=I.list j;have d:=r.length;exact wpAny_truthy_list n.isList (by simp only[size_toArray];lia) ⟨H,I.tok _,by rw[jd r];exact q⟩
  .subst a
   obtain⟨l,r,n,u⟩:=I.tuple j;have d:=r.length;exact truthy_tuple n (by simp only[size_toArray];lia) ⟨H,I.tok _,by rw[jd r];exact q⟩
  .subst a
   obtain⟨u,hS,vs,r,m⟩:c.length<=sizeLine/\(p == sysModules)=false/\∃ vs,KV c vs/\s.heap.DictOf (bN X.prog X.w) p vs:=I.hok p _ j;have d:c.length=vs.length:=Paired.length r;exact wpAny_truthy_dict hS m (by lia) ⟨H,I.tok _,by rw[pq r];exact q⟩
 | _=>exact(show False from e).elim
theorem nS(l:PE X a ta)(d:∀ whole,isTrue a X.env whole=(do let v <- whole;standAt a.pos;holding [v] (truthy v))) :
  PT X a (λσ H Q=>ta σ H λx H'=>∃ k,zM X.K x H' k/\Q k H'):=by
 intro b s σ H Q I h;exact isTrue_plain (thn (l b s σ H _ I h) λv c ⟨x,f,i,g,j⟩=>xZ b c σ f x v Q i g j) (d _)
theorem pv:OpR X (binaryOp .Add) (λx y H Q=>∃ i j,x=.str i/\y=.str j/\i.length+j.length<=sizeLine/\Q (.str (i++j)) H):=by
 intro a s g H x y v u Q I b d h;obtain⟨i,j,rfl,rfl,f,q⟩:=h;obtain⟨t,rfl⟩:=b;obtain⟨c,rfl⟩:=d;exact add_str (λc k=>⟨.str (i++j),H,I.tok _,⟨_,rfl⟩,q⟩) f
theorem dM{x:V}{us:List Value}(r:Vals [x] us):∃ u,us=[u]/\RelV x u:=by
 cases r with
 | cons r1 r2=>cases r2;exact⟨_,rfl,r1⟩
theorem vj{x y:V}{us:List Value}(r:Vals [x,y] us):∃ u w',us=[u,w']/\RelV x u/\RelV y w':=by
 cases r with
 | cons r1 r2 =>
  cases r2 with
  | cons r3 r4=>cases r4;exact⟨_,_,rfl,r1,r3⟩
theorem sV:CallR X (.builtin "abs") (λxs H Q=>∃ i,xs=[.int i]/\Q (.int (if i<0 then -i else i)) H):=by
 intro a s b H xs d Q I r h;obtain⟨i,rfl,q⟩:=h;obtain⟨u,rfl,t,rfl⟩:=dM r
 exact call_abs_int λu c=>⟨.int (if i<0 then -i else i),H,I.tok _,⟨_,rfl⟩,q⟩
inductive rTwo(f:Int->Int->Int)(xs:List V)(H:Hp)(Q:VK):Prop
 | mk(i j:Int)(h0:xs=[.int i,.int j])(h1:Q (.int (f i j)) H):rTwo f xs H Q
theorem sf(b:X.calm=true):CallR X (.builtin "max") (rTwo λi j=>if j > i then j else i):=by
 intro a s g H d l Q I r h;obtain⟨i,j,rfl,q⟩:=h;obtain⟨u,o,rfl,⟨t,rfl⟩,⟨f,rfl⟩⟩:=vj r
 refine max_two_ints (I.ok.hd b) λc n k=>⟨_,H,I.kept k,?_,q⟩
 by_cases hj:j > i
 .rw[if_pos hj,if_pos hj];exact⟨_,rfl⟩
 .rw[if_neg hj,if_neg hj];exact⟨_,rfl⟩
theorem eA(b:X.calm=true):CallR X (.builtin "min") (rTwo λi j=>if j<i then j else i):=by
 intro a s g H d l Q I r h;obtain⟨i,j,rfl,q⟩:=h;obtain⟨u,o,rfl,⟨t,rfl⟩,⟨f,rfl⟩⟩:=vj r
 refine min_two_ints (I.ok.hd b) λc n k=>⟨_,H,I.kept k,?_,q⟩
 by_cases hj:j<i
 .rw[if_pos hj,if_pos hj];exact⟨_,rfl⟩
 .rw[if_neg hj,if_neg hj];exact⟨_,rfl⟩
end
structure ObjM(h:Heap)(x dx C:Addr)(mA:Str->Option Value):Prop where
 obj:h.get? x=some (instObj C dx)
 ns:h.Ns1 dx mA
 ne:dx≠x
theorem sy{h:Heap}{dx:Addr}{d:Str->Option Value}(n:h.Ns1 dx d):∃ od,h.get? dx=some od/\∀ name,lookIn name od=some (d name):=by
 obtain⟨o,c,p,f,g,i,_,l⟩:=n;refine⟨o,f,λname=>?_⟩;have e:=l name;unfold nsFind findBy at e;rw[<- Array.find?_toList]at e;unfold lookIn;rw[g];dsimp only
 split
 .rename_i y q
  rw[q]at e;exact congrArg some e
 .rename_i q
  rw[q]at e
  have a:c.toList.any (·.refKey)=false:=by
   rw[List.any_eq_false];intro y j;obtain⟨z,t,b⟩:=i y (Array.mem_toList_iff.mp j);simp[DictEntry.refKey,b]
  have k:¬c.toList.any (·.refKey)=true:=by rw[a];exact Bool.false_ne_true
  rw[if_neg k];exact congrArg some e
theorem ObjM.look{h:Heap}{x dx C:Addr}{a:Str->Option Value}(I:ObjM h x dx C a):∃ od,InstAt h x (instObj C dx) C (some od)/\∀ name,lookIn name od=some (a name) :=
 let ⟨od,ho,hl⟩:=sy I.ns
 ⟨od,⟨I.obj,rfl,rfl,ho⟩,hl⟩
section
variable {prog:Program}{w:World}{A:Around}{E:Value->Shared->Prop}{s:Shared}{K:Frag}{x dx C f:Addr}{mA:Str->Option Value}{name:Str}{v:Value}
theorem lY{a:Bool}{Q:Value->Shared->Prop}(X:K.In s.heap)(I:ObjM s.heap x dx C mA)(c:plainGet K C name=true)(d:hasDictIn K C=true)
  (i:findIn K (.ref C) name=some none) (g:mA name=some v) (b:handedIn v=true) (h:Q v { s with toks:=s.toks+1 }) :
  wpAny (model prog w) A (getAttr (.ref x) name a) Q E s:=by
 obtain⟨j,J,f⟩:=I.look;exact PySem.W.get_value X J (plainGet_of c).1 (PySem.W.findObj_own d i rfl (by rw[f,g])) b h
theorem ud{pl:Sem Bool}{Q:Value×List Value->Shared->Prop}(X:K.In s.heap)(I:ObjM s.heap x dx C mA)(a:plainGet K C name=true)
  (g:findIn K (.ref C) name=some (some (.ref f))) (c:isFn K (.ref f)=true) (i:mA name=none) (h:Q (.ref f,[.ref x]) s) :
  wpAny (model prog w) A (getMethod (.ref x) name pl) Q E s:=by
 obtain⟨b,J,d⟩:=I.look;exact PySem.W.method_fn X J (plainGet_of a).1 (plainGet_of a).2 g (beq_iff_eq.mp c) (by show(lookIn name b).map (·.isSome)=some false;rw[d,i];rfl) h
theorem xi{k:List Str}{Q:Unit->Shared->Prop}(X:K.In s.heap)(I:ObjM s.heap x dx C mA)
  (u:findIn K (.ref C) "__setattr__" = some (some (.builtin "object.__setattr__"))) (B:plainOver K C=true) (p:takerIn K C name=some none) (o:hasDictIn K C=true)
  (l:PySem.Within mA k) (hsz:k.length<=sizeLine)
  (h:∀ h',ObjM h' x dx C (λy=>if y=name then some v else mA y)->Heap.SameBut dx s.heap h'->Q () { s with heap:=h',toks:=s.toks+2 }) :
  wpAny (model prog w) A (setAttr (.ref x) name v) Q E s:=by
 obtain⟨G,J,L⟩:=I.look;refine PySem.W.set_plain X J u (PySem.W.osa_open (s:={ s with toks:=s.toks+1 }) (r:=none) X J B p λb=>?_);obtain⟨F,q,i⟩:=any_some o;have z:s.heap.get? x=some ⟨.ref C,some dx,.plain,#[]⟩:=I.obj;refine wpAny_bind (wpAny_pure (wpAny_bind (wpAny_bind (wpAny_loadPart z (wpAny_bind (PySem.W.Looks.here (s:={ s with toks:=s.toks+1 }) (looks_clsIn X q) ?_))))));rw[i];refine wpAny_pure (a:=some dx) (wpAny_bind (wpAny_pure (wpAny_bind ?_)));refine wpAny_nsSet1 (s:={ s with toks:=s.toks+1 }) I.ns λh' d c=>?_
 obtain⟨H,n,D,g,j,f⟩:=d.count (PySem.Within.cons name v l);refine wpAny_bind (wpAny_lookBehind g (by rw[j];exact pastItsLine_dict (Nat.le_trans f (by rw[length_cons];lia))) ?_);exact wpAny_pure (h _ ⟨(c.2 _ (Ne.symm I.ne)).trans I.obj,d,I.ne⟩ c)
theorem vC{R:Result->Shared->Prop}{vs:List Value}{b:List (Str×Value)}(X:K.In s.heap)(i:makesIn K C=true)
  (c:findIn K (.ref C) "__init__" = some (some (.ref f))) (j:typeIn K (.ref f)=some (.type "function"))
  (h:codeAny (model prog w) (A.under (.builtin "type.__call__" ⟨.ref C::vs,b⟩)) (.call (.ref f) ⟨.ref (s.heap.objs.size+1)::vs,b⟩) (PySem.W.InitBack (s.heap.objs.size+1) R)
   { s with heap:=(s.heap.push emptyDict).push (instObj C s.heap.objs.size) }) :
  codeAny (model prog w) A (.call (.ref C) ⟨vs,b⟩) R s:=by
 obtain⟨k,g,d,t,l⟩:=s;exact PySem.W.make_core (PySem.W.makes_of X i) (looks_findIn X c) (λa=>PySem.W.bind_fn X a j) (.inl rfl) h
end
def eW(f:Str)(v:V):List (Str×V)->List (Str×V)
 | []=>[(f,v)]
 | (g,x)::r=>if g=f then (g,v)::r else (g,x)::eW f v r
theorem hV(f g:Str)(v:V):∀ fs:List (Str×V),(eW f v fs).lookup g=if g=f then some v else fs.lookup g
 | []=>by
  show List.lookup g [(f,v)]=_
  by_cases h:g=f
  .have a:(g == f)=true:=beq_iff_eq.mpr h
   simp only[List.lookup,a,if_pos h]
  .have a:(g == f)=false:=beq_eq_false_iff_ne.mpr h
   simp only[List.lookup,a,if_neg h]
 | (k,x)::r=>by
  have b:=hV f g v r;rw[show eW f v ((k,x)::r)=(if k=f then (k,v)::r else (k,x)::eW f v r) from rfl]
  by_cases hk:k=f
  .rw[if_pos hk]
   by_cases h:g=k
   .have a:(g == k)=true:=beq_iff_eq.mpr h
    simp only[List.lookup,a,if_pos (h.trans hk)]
   .have a:(g == k)=false:=beq_eq_false_iff_ne.mpr h
    simp only[List.lookup,a,if_neg (λe:g=f=>h (e.trans hk.symm))]
  .rw[if_neg hk]
   by_cases h:g=k
   .have a:(g == k)=true:=beq_iff_eq.mpr h
    simp only[List.lookup,a,if_neg (λe:g=f=>hk (h.symm.trans e))]
   .have a:(g == k)=false:=beq_eq_false_iff_ne.mpr h
    simp only[List.lookup,a];exact b
theorem gI(f:Str)(v:V):∀ fs:List (Str×V),f∈(eW f v fs).map (·.1)/\∀ g,g∈fs.map (·.1)->g∈(eW f v fs).map (·.1)
 | []=>⟨by simp[eW],λg h=>by simp at h⟩
 | (k,x)::r=>by
  obtain⟨a,b⟩:=gI f v r;rw[show eW f v ((k,x)::r)=(if k=f then (k,v)::r else (k,x)::eW f v r) from rfl]
  by_cases hk:k=f
  .rw[if_pos hk]
   subst hk;exact⟨by simp,λg h=>by simpa using h⟩
  .rw[if_neg hk]
   refine⟨?_,λg h=>?_⟩
   .rw[map_cons]
    exact mem_cons_of_mem _ a
   .rw[map_cons]at h ⊢
    rcases mem_cons.mp h with e | e
    .exact mem_cons.mpr (.inl e)
    .exact mem_cons_of_mem _ (b g e)
theorem g8(f:Str)(v:V):∀ fs:List (Str×V),(eW f v fs).length<=fs.length+1
 | []=>by simp[eW]
 | (k,x)::r=>by
  have a:=g8 f v r;rw[show eW f v ((k,x)::r)=(if k=f then (k,v)::r else (k,x)::eW f v r) from rfl]
  by_cases hk:k=f
  .rw[if_pos hk,length_cons,length_cons];lia
  .rw[if_neg hk,length_cons,length_cons];lia
theorem RelO.some_of{v:V}{o:Option Value}(r:RelO (some v) o):∃ u,o=some u/\RelV v u:=by
 cases o with
 | none=>exact(show False from r).elim
 | some u=>exact⟨u,rfl,r⟩
theorem RelO.none_of{o:Option Value}(r:RelO none o):o=none:=by
 cases o with
 | none=>rfl
 | some u=>exact(show False from r).elim
theorem rT{v:V}{u:Value}(r:RelV v u):handedIn u=true:=by
 cases v with
 | non=>cases(show u=Value.none from r);rfl
 | bl b=>cases(show u=Value.bool b from r);rfl
 | int i=>obtain⟨t,e⟩:=(show ∃ t,u=Value.int i t from r);cases e;rfl
 | str x=>obtain⟨t,e⟩:=(show ∃ t,u=Value.str x t from r);cases e;rfl
 | byt b=>obtain⟨t,e⟩:=(show ∃ t,u=Value.bytes b t from r);cases e;rfl
 | flt b=>obtain⟨t,e⟩:=(show ∃ t,u=Value.float b t from r);cases e;rfl
 | ref a=>cases(show u=Value.ref a from r);rfl
 | ty n=>cases(show u=Value.type n from r);rfl
section
variable {P:Program}{w:World}{H H':Hp}{h h':Heap}{a C dx:Addr}{fs fs':List (Str×V)}
theorem iQ(b:HOk P w H h)(e:H a=some (.ins C dx fs)):∃ mA,ObjM h a dx C mA/\(∀ f,RelO (fs.lookup f) (mA f))/\PySem.Within mA (fs.map (·.1))/\fs.length<=1000/\H dx=some (.own a):=by
 obtain⟨d,z,c,g,mA,n,r,q⟩:=(show ObjOk P w H h a (.ins C dx fs) from b a _ e)
 exact⟨mA,⟨g,n,c⟩,r,q,z,d⟩
end
structure Cls(K:Frag)(C:Addr):Prop where
 pg:plainGet K C Str.empty=true
 hd:hasDictIn K C=true
 po:plainOver K C=true
 sa:findIn K (.ref C) "__setattr__" = some (some (.builtin "object.__setattr__"))
theorem Cls.get{K:Frag}{C:Addr}(c:Cls K C)(f:Str):plainGet K C f=true:=c.pg
def NoAttr(K:Frag)(C:Addr)(f:Str):Prop:=findIn K (.ref C) f=some none
theorem NoAttr.taker{K:Frag}{C:Addr}{f:Str}(n:NoAttr K C f):takerIn K C f=some none:=by
 unfold takerIn;rw[show findIn K (.ref C) f=some none from n];rfl
structure Meth(K:Frag)(C:Addr)(m:Str)(f:Addr):Prop where
 at_:findIn K (.ref C) m=some (some (.ref f))
 fn:isFn K (.ref f)=true
 kp:keepIn K (.ref f)=true
section
variable {X:Cx}{pins:List (Addr×Obj)}{σ:St}{H:Hp}{s:Shared}{a C dx:Addr}{fs:List (Str×V)}{f:Str}{v:V}{A:Around}{E:Value->Shared->Prop}
theorem jr{b:Bool}{Q:Value->Shared->Prop}(I:Inv X pins σ H s)(e:H a=some (.ins C dx fs))(c:Cls X.K C)(n:NoAttr X.K C f)(l:fs.lookup f=some v)
  (h:∀ u s',Inv X pins σ H s'->RelV v u->Q u s'):wpAny (model X.prog X.w) A (getAttr (.ref a) f b) Q E s:=by
 obtain⟨i,O,r,_,_,_⟩:=iQ I.hok e;obtain⟨u,g,d⟩:=RelO.some_of (v:=v) (o:=i f) (by rw[<- l];exact r f);exact lY I.kIn O (c.get f) c.hd n g (rT d) (h u _ (I.tok _) d)
theorem jE{m:Str}{g:Addr}{pl:Sem Bool}{Q:Value×List Value->Shared->Prop}(I:Inv X pins σ H s)(e:H a=some (.ins C dx fs))(c:Cls X.K C)(k:Meth X.K C m g)(l:fs.lookup m=none)
  (h:Q (.ref g,[.ref a]) s):wpAny (model X.prog X.w) A (getMethod (.ref a) m pl) Q E s:=by
 obtain⟨d,O,r,_,_,_⟩:=iQ I.hok e;have b:d m=none:=RelO.none_of (by rw[<- l];exact r m);exact ud I.kIn O (c.get m) k.at_ k.fn b h
theorem jp{y:V}{u:Value}{Q:Unit->Shared->Prop}(I:Inv X pins σ H s)(e:H a=some (.ins C dx fs))(c:Cls X.K C)(n:NoAttr X.K C f)(D:fs.length<1000)(w:RelV y u)
  (h:∀ s',Inv X pins σ (upd H a (.ins C dx (eW f y fs))) s'->Q () s'):wpAny (model X.prog X.w) A (setAttr (.ref a) f u) Q E s:=by
 obtain⟨k,O,r,j,_,i⟩:=iQ I.hok e;have B:(fs.map (·.1)).length<=sizeLine:=by rw[length_map,sizeLine_eq];lia
 refine xi I.kIn O c.sa c.po n.taker c.hd j B λl d v=>h _ ?_
 have p:∃ o,l.get? dx=some o:=let ⟨o,_,_,e',_⟩:=d.ns;⟨o,e'⟩;refine I.write (x:=a) (e:=dx) (by rw[e];exact True.intro) (.inr i) (λb q hb z=>(v.2 b hb).trans z) p ?_;refine⟨by rw[ag O.ne];exact i,?_,O.ne,d.obj,_,d.ns,λg=>?_,λg hg=>?_⟩
 .have:=g8 f y fs;lia
 .show RelO ((eW f y fs).lookup g) (if g=f then some u else k g)
  rw[hV]
  by_cases q:g=f
  .rw[if_pos q,if_pos q];exact w
  .rw[if_neg q,if_neg q];exact r g
 .by_cases q:g=f
  .rw[q];exact(gI f y fs).1
  .refine(gI f y fs).2 g (j g λz=>hg ?_)
   show(if g=f then some u else k g)=none;rw[if_neg q];exact z
theorem Inv.made(I:Inv X pins σ H s):Inv X pins σ (upd (upd H s.heap.objs.size (.own (s.heap.objs.size+1))) (s.heap.objs.size+1) (.ins C s.heap.objs.size []))
  { s with heap:=(s.heap.push emptyDict).push (instObj C s.heap.objs.size) }:=by
 have c:(s.heap.push emptyDict).get? s.heap.objs.size=some emptyDict:=Heap.get?_push_size s.heap rfl
 have g:((s.heap.push emptyDict).push (instObj C s.heap.objs.size)).get? (s.heap.objs.size+1)=some (instObj C s.heap.objs.size):=by
  have:=Heap.get?_push_size (s.heap.push emptyDict) (o:=instObj C s.heap.objs.size) rfl;rwa [Heap.size_push]at this
 have h:(s.heap.push emptyDict).Ns s.heap.objs.size (λ_=>none):=⟨emptyDict,#[],_,c,rfl,(λe he=>absurd he (by simp)),λ_=>rfl⟩
 have f:=I.laid (a:=s.heap.objs.size) (o:=.own (s.heap.objs.size+1)) (h':=s.heap.push emptyDict) (t':=s.toks) (λb u q=>Heap.get?_push_of_some _ q) (Nat.le_refl _) ⟨_,c⟩;refine f.laid (a:=s.heap.objs.size+1) (o:=.ins C s.heap.objs.size []) (t':=s.toks) (λb u q=>Heap.get?_push_of_some _ q) (Nat.le_of_eq (Heap.size_push _ _)) ?_;have d:s.heap.objs.size≠s.heap.objs.size+1:=Nat.ne_of_lt (Nat.lt_succ_self _);refine⟨by rw[ag d,ae],Nat.zero_le _,d,g,λ_=>none,(Heap.Ns1.of_empty h).at λo q=>Heap.get?_push_of_some _ q,λ_=>True.intro,λy hy=>absurd rfl hy⟩
theorem qX{prog:Program}{w:World}{env:Env}{e:Expr}{f:Str}{a:Pos}{s:Shared}{Q:Value->Shared->Prop}(b:attributeBase e f env (eval e env)=eval e env)
  (h:wpAny (model prog w) A (eval e env) (λo s₁=>wpAny (model prog w) A (getAttr o f true) Q E s₁) E s):wpAny (model prog w) A (eval (.Attribute e f a) env) Q E s :=
 Attribute_any_ h (by rw[arm_eval_Attribute,b])
end
def A9(K:Frag)(ta:TE)(f:Str):TE:=λσ H Q=>ta σ H λx H1=>∃ a C dx fs v,x=.ref a/\H1 a=some (.ins C dx fs)/\Cls K C/\NoAttr K C f/\fs.lookup f=some v/\Q v H1
def BC(K:Frag)(ta tv:TE)(f:Str):TS:=λD σ H=>tv σ H λy H1=>ta σ H1 λx H2=>∃ a C dx fs,x=.ref a/\H2 a=some (.ins C dx fs)/\Cls K C/\NoAttr K C f/\fs.length<1000 /\
 D.nx σ (upd H2 a (.ins C dx (eW f y fs)))
def zK(X:Cx)(op:Operator)(rd:V->V->Hp->VK->Prop):Prop :=
 ∀(pins:List (Addr×Obj)) (s:Shared) (σ:St) (H:Hp) (x y:V) (u v:Value) (Q:VK),Inv X pins σ H s->RelV x u->RelV y v->rd x y H Q->wpAny (model X.prog X.w) X.A (inplaceOp op u v) (EP X pins σ Q) X.xe s
def xn(K:Frag)(ta tv:TE)(rd:V->V->Hp->VK->Prop)(f:Str):TS:=λD σ H=>ta σ H λx H1=>∃ a C dx fs v,x=.ref a/\H1 a=some (.ins C dx fs)/\Cls K C/\NoAttr K C f/\fs.lookup f=some v /\
 tv σ H1 λy H2=>rd v y H2 λz H3=>∃ dx' fs',H3 a=some (.ins C dx' fs')/\fs'.length<1000/\D.nx σ (upd H3 a (.ins C dx' (eW f z fs')))
section
variable {X:Cx}{o e value:Expr}{f:Str}{pos pos' tpos:Pos}{ta tv:TE}
theorem cZ(o:PE X e ta)(i:attributeBase e f X.env (eval e X.env)=eval e X.env):PE X (.Attribute e f pos) (A9 X.K ta f):=by
 intro b s j H Q I h;refine qX i (thn (o b s j H _ I h) λu z ⟨x,p,r,d,a,C,B,D,v,g,k,c,n,l,q⟩=>?_);subst g;obtain rfl:u=Value.ref a:=d
 exact jr r k c n l λE A y w=>⟨v,p,y,w,q⟩
theorem gG(w:PE X o ta)(p:PE X value tv)(v:swapsWith value (some (.Attribute o f pos')) pos.line X.env=pure false):PS X (.Assign [.Attribute o f pos'] value pos) (BC X.K ta tv f):=by
 intro b s d H D I h;refine plainObj_wpAny_Assign_Attribute (thn (p b s d H _ I h) λu g ⟨y,i,k,r,q⟩=>thn (w b g d i _ k q) λov s2 ⟨x,H2,I2,rx,a,C,dx,fs,ex,ea,c,n,l,q2⟩=>?_) v;subst ex;obtain rfl:ov=Value.ref a:=rx
 exact jp I2 ea c n l r λz j=>⟨d,_,j,q2⟩
theorem sF{op:Operator}{i:V->V->Hp->VK->Prop}(E:PE X o ta)(L:PE X value tv)(g:zK X op i):PS X (.AugAssign (.Attribute o f tpos) op value pos) (xn X.K ta tv i f):=by
 intro b s d H D I h;refine wpAny_AugAssign_AttributeAny (thn (E b s d H _ I h) λB Q ⟨x,K,p,F,a,C,N,P,v,j,k,c,n,l,q⟩=>?_);subst j;obtain rfl:B=Value.ref a:=F;refine jr p k c n l λu w A r=>thn (L b w d K _ A q) λw3 s3 ⟨y,H2,I3,ry,q3⟩=>thn (g b s3 d H2 v y u w3 _ I3 r ry q3) λw4 s4 ⟨z,H3,I4,rz,dx',fs',ea',l',q4⟩=>?_
 exact jp I4 ea' c n l' rz λM G=>⟨d,_,G,q4⟩
def Bi:V->V->Hp->VK->Prop:=λx y H Q=>∃ i j,x=.int i/\y=.int j/\Q (.int (i+j)) H
theorem zt:zK X .Add Bi:=by
 rintro a s f H x y u v Q I c d ⟨i,j,rfl,rfl,q⟩
 obtain⟨t,rfl⟩:=(show ∃ t,u=Value.int i t from c)
 obtain⟨b,rfl⟩:=(show ∃ b,v=Value.int j b from d)
 exact PyProof.Rows.iadd_int ⟨.int (i+j),H,I.tok _,⟨_,rfl⟩,q⟩
end
section
variable {X:Cx}{pins:List (Addr×Obj)}{σ:St}{H:Hp}{s:Shared}{A:Around}{E:Value->Shared->Prop}{Q:Value->Shared->Prop}{c:Value}{b:Bool}
inductive TyOf(K:Frag)(H:Hp):V->Value->Prop where
 | non:TyOf K H .non (.type "NoneType")
 | bl (x:Bool):TyOf K H (.bl x) (.type "bool")
 | int (i:Int):TyOf K H (.int i) (.type "int")
 | str (x:Str):TyOf K H (.str x) (.type "str")
 | flt (x:UInt64):TyOf K H (.flt x) (.type "float")
 | lst {a:Addr}{xs:List V}(e:H a=some (.lst xs)):TyOf K H (.ref a) (.type "list")
 | frz {a:Addr}{o:Obj}{xs:List V}(e:H a=some (.frz o (.lst xs))):TyOf K H (.ref a) (.type "list")
 | tup {a:Addr}{xs:List V}(e:H a=some (.tup xs)):TyOf K H (.ref a) (.type "tuple")
 | dK {a:Addr}{kvs:List (Key×V)}(e:H a=some (.dK kvs)):TyOf K H (.ref a) (.type "dict")
 | dT {a:Addr}{kvs:List (List Key×V)}(e:H a=some (.dT kvs)):TyOf K H (.ref a) (.type "dict")
 | ins {a C dx:Addr}{fs:List (Str×V)}(e:H a=some (.ins C dx fs)) (cl:Cls K C) (ha:findIn K (.ref C) "__class__" = some (some (.builtin "object.__class__")))
   (hn:specialIn K (.builtin "object.__class__") "__get__" = some (some (.builtin "getset_descriptor.__get__"))) (htk:takesIn K (.builtin "object.__class__")=some true)
   (hm:mroIn K C (.type "object")=some true):TyOf K H (.ref a) (.ref C)
end
structure Room(k:Nat)(A:Around):Prop where
 hd:A.handled=none
 dp:A.depth+3*k+5<recursionLimit
 un:A.units+16*k+200<cLine
theorem Room.mono{j k:Nat}{A:Around}(r:Room k A)(h:j<=k):Room j A:=⟨r.hd,by have:=r.dp;lia,by have:=r.un;lia⟩
theorem Room.deeper{k:Nat}{A:Around}(r:Room (k+1) A)(env:Env):Room k (A.deeper env) :=
 ⟨r.hd,by have:=r.dp;show A.depth+1+3*k+5<_;lia,by have:=r.un;show A.units+3+16*k+200<_;lia⟩
theorem ou{A:Around}{C:Addr}{us:List Value}{a:List (Str×Value)}:(A.under (.builtin "type.__call__" ⟨.ref C::us,a⟩)).depth=A.depth+1:=by
 first | rfl | simp[Around.under,Code.weight,Code.isCreation,Code.isGuard,Code.isCaller,Code.frames,Code.isFrame,guardIds]
theorem oy{A:Around}{C:Addr}{us:List Value}{a:List (Str×Value)}:(A.under (.builtin "type.__call__" ⟨.ref C::us,a⟩)).units=A.units+1:=by
 first | rfl | simp[Around.under,Code.cUnits,Code.frames,Code.isFrame]
theorem Room.make{k:Nat}{A:Around}(r:Room (k+1) A)(C:Addr)(us:List Value)(a:List (Str×Value)):Room k (A.under (.builtin "type.__call__" ⟨.ref C::us,a⟩)) :=
 ⟨r.hd,by have:=r.dp;rw[ou];lia,by have:=r.un;rw[oy];lia⟩
theorem Room.depth{k:Nat}{A:Around}(r:Room k A):A.depth<recursionLimit:=by have:=r.dp;lia
theorem Room.units{k:Nat}{A:Around}(r:Room k A):A.units+64<cLine:=by have:=r.un;lia
def yH:TA:=λ_ H Q=>Q [] H
def uE(ta:TE)(tr:TA):TA:=λσ H Q=>ta σ H λx H1=>tr σ H1 λxs H2=>Q (x::xs) H2
section
variable {X:Cx}{e:Expr}{es:List Expr}{te:TE}{t:TA}{pos:Pos}
theorem af:PA X [] yH:=λ_ _ _ _ H Q I h=>Calls.spliced_nil ⟨[],H,I,.nil,h⟩
theorem aa(o:PE X e te)(d:PA X es t)(g:starEach (e::es) X.env=(false,eval e X.env)::starEach es X.env:=by rfl):PA X (e::es) (uE te t):=by
 intro b a s c H Q I h;rw[g];show wpAny _ _ (spliced ((false,eval e X.env)::backTo b (starEach es X.env))) _ _ s;refine Calls.spliced_cons (thn (o a s c H _ I h) λu i ⟨x,j,n,k,q⟩=>?_)
 exact thn (d b a i c j _ n q) λy w ⟨f,r,v,p,l⟩=>⟨x::f,r,v,.cons k p,l⟩
def Bl(t:TA):TE:=λσ H Q=>t σ H λxs H1=>xs.length<=sizeLine/\∀ p,H1 p=none->Q (.ref p) (upd H1 p (.tup xs))
def Aj(t:TA):TE:=λσ H Q=>t σ H λxs H1=>xs.length<=sizeLine/\∀ p,H1 p=none->Q (.ref p) (upd H1 p (.lst xs))
theorem cB{x1}(h:PA X es t):PE X (.Tuple es x1 pos) (Bl t):=by
 intro a s j H Q I g;refine wpAny_Tuple_spliced (thn (h pos a s j H _ I g) λk c ⟨i,d,f,r,z,q⟩=>⟨by rw[<- r.length];exact z,?_⟩);have l:d c.heap.objs.size=none:=f.hok.fresh (Nat.le_refl _);refine⟨.ref c.heap.objs.size,upd d c.heap.objs.size (.tup i),f.laid (t':=c.toks) (λb u e=>Heap.get?_push_of_some _ e) (Nat.le_refl _) ?_,rfl,q _ l⟩;exact⟨z,k,r,⟨_,Heap.get?_push_size _ rfl,rfl,_,rfl⟩⟩
theorem bI(h:PA X es t):PE X (.List es pos) (Aj t):=by
 intro a s j H Q I g;refine wpAny_List_spliced (thn (h pos a s j H _ I g) λk c ⟨i,d,f,r,z,q⟩=>⟨by rw[<- r.length];exact z,?_⟩);have l:d c.heap.objs.size=none:=f.hok.fresh (Nat.le_refl _);refine⟨.ref c.heap.objs.size,upd d c.heap.objs.size (.lst i),f.laid (t':=c.toks) (λb u e=>Heap.get?_push_of_some _ e) (Nat.le_refl _) ?_,rfl,q _ l⟩;exact⟨z,k,0,r,Heap.get?_push_size _ rfl⟩
end
abbrev Sp:=List V->Hp->VK->XK->Prop
abbrev CXT:=List Env->Hp->Shared->XK->Value->Shared->Prop
structure Env0(P:Program)(w:World)(K:Frag)(mg:Str->Option Value)(base:Heap)(A:Around)(outer:List Env)(s:Shared)(H:Hp):Prop where
 frames:A.frames=some outer
 mod:Mod K mg base
 bs:∀ b o,base.get? b=some o->s.heap.get? b=some o/\H b=none
 bsz:base.objs.size<=s.heap.objs.size
 funs:s.heap.FunFrames base outer
 frf:∀ b∈frs outer,H b=none
 hok:HOk P w H s.heap
 bare:AllBare s.gens
def CE(outer:List Env)(P:Program)(w:World)(H:Hp)(s:Shared)(Q:VK)(u:Value)(s':Shared):Prop :=
 ∃ v H',s'.os=s.os/\AllBare s'.gens/\Un (frs outer) [] H H' s.heap s'.heap/\HOk P w H' s'.heap/\RelV v u/\Q v H'
def CR(CX:CXT)(outer:List Env)(P:Program)(w:World)(H:Hp)(s:Shared)(Q:VK)(E:XK)(r:Result)(s':Shared):Prop :=
 match r with
 | .ok (.ret u)=>CE outer P w H s Q u s'
 | .ok _=>False
 | .error e=>CX outer H s E e s'
structure FnOk(P:Program)(w:World)(K:Frag)(mg:Str->Option Value)(base:Heap)(CX:CXT)(k:Nat)(f:Addr)(fd:FuncData)(ps:List Str)(sp:Sp):Prop where
 len:∀ vs H Q E,sp vs H Q E->vs.length=ps.length
 run:∀(A:Around) (outer:List Env) (s:Shared) (H:Hp) (args:Args) (us:List Value) (vs:List V) (Q:VK) (E:XK),Room k A->Env0 P w K mg base A outer s H->BindsTo s fd args (ps.zip us)->Vals vs us->sp vs H Q E ->
  codeAny (model P w) A (.call (.ref f) args) (CR CX outer P w H s Q E) s
theorem FnOk.mono{P:Program}{w:World}{K:Frag}{mg:Str->Option Value}{a:Heap}{CX:CXT}{j k:Nat}{f:Addr}{d:FuncData}{ps:List Str}{sp:Sp}(F:FnOk P w K mg a CX j f d ps sp)(h:j<=k) :
  FnOk P w K mg a CX k f d ps sp:=⟨F.len,λA b s H c i l Q E g=>F.run A b s H c i l Q E (g.mono h)⟩
theorem Env0.make{P:Program}{w:World}{K:Frag}{mg:Str->Option Value}{b:Heap}{A:Around}{a:List Env}{s:Shared}{H:Hp}(e:Env0 P w K mg b A a s H)(C:Addr)(us:List Value)(c:List (Str×Value)) :
  Env0 P w K mg b (A.under (.builtin "type.__call__" ⟨.ref C::us,c⟩)) a s H:=⟨by first | exact e.frames | (simpa[Around.under,Code.envs,Code.isFrame,pushEnvs] using e.frames),e.mod,e.bs,e.bsz,e.funs,e.frf,e.hok,e.bare⟩
section
variable {X:Cx}{pins:List (Addr×Obj)}{σ:St}{H:Hp}{s s':Shared}
theorem Inv.env0(I:Inv X pins σ H s):Env0 X.prog X.w X.K X.mg X.base X.A X.stack s H :=
 ⟨I.ok.frames,I.ok.mod,I.bs,Nat.le_trans I.ok.bsz I.sz,I.stack,I.stkFree,I.hok,I.bare⟩
theorem Inv.after{Q:VK}{u:Value}(I:Inv X pins σ H s)(h:CE X.stack X.prog X.w H s Q u s'):EP X pins σ Q u s':=by
 obtain⟨v,j,k,a,l,f,r,q⟩:=h;obtain⟨i,g,d,t,c⟩:=s';obtain rfl:c=s.os:=k;exact⟨v,j,I.call (h':=i) (g':=g) (d':=d) (t':=t) (ch:=[]) l f a (λb z=>absurd z (by simp)),r,q⟩
end
def zG(sp:Sp)(dvs:List V)(E:XK)(t:TA):TE:=λσ H Q=>t σ H λvs H1=>sp (vs++dvs) H1 Q E
def xA(C:Addr)(m:Str)(sp:Sp)(dvs:List V)(E:XK)(ta:TE)(t:TA):TE:=λσ H Q=>ta σ H λx H1=>∃ a dx fs,x=.ref a/\H1 a=some (.ins C dx fs)/\fs.lookup m=none /\
 t σ H1 λvs H2=>sp (x::(vs++dvs)) H2 Q E
def As(C:Addr)(sp:Sp)(dvs:List V)(E:XK)(t:TA):TE:=λσ H Q=>t σ H λvs H1=>∀ x dx,H1 x=none->H1 dx=none->dx≠x ->
 sp (.ref x::(vs++dvs)) (upd (upd H1 dx (.own x)) x (.ins C dx [])) (λv H2=>v=.non/\Q (.ref x) H2) E
def Binds(K:Frag)(fd:FuncData)(ps:List Str)(ds:List Value):Prop :=
 ∀(s:Shared) (us:List Value),K.In s.heap->(us++ds).length=ps.length->BindsTo s fd ⟨us,[]⟩ (ps.zip (us++ds))
theorem Binds.all{K:Frag}{b:FuncData}{ps:List Str}(h:∀ us:List Value,us.length=ps.length->bindArgs b ⟨us,[]⟩=pure (ps.zip us)):Binds K b ps []:=λs us _ a=>by
 rw[append_nil]at a ⊢;exact .of_eq (h us a)
def fk(CX:CXT)(X:Cx)(E:XK):Prop:=∀(pins:List (Addr×Obj)) (σ:St) (H:Hp) (s:Shared) (e:Value) (s':Shared),Inv X pins σ H s->CX X.stack H s E e s'->X.xe e s'
section
variable {X:Cx}{CX:CXT}{k:Nat}{f C:Addr}{fd:FuncData}{ps:List Str}{sp:Sp}{dvs:List V}{ds:List Value}{E:XK}{x m:Str}{p pos apos:Pos}{e o:Expr}{es:List Expr}{ta:TE}{t:TA}
theorem oA{a:List (Addr×Obj)}{σ:St}{H:Hp}{s:Shared}{Q:VK}{us:List Value}{vs:List V}(F:FnOk X.prog X.w X.K X.mg X.base CX k f fd ps sp)(d:Room k X.A)(i:Binds X.K fd ps ds)(g:Vals dvs ds)(j:fk CX X E)
  (I:Inv X a σ H s) (r:Vals vs us) (h:sp (vs++dvs) H Q E):wpAny (model X.prog X.w) X.A (call (.ref f) us) (EP X a σ Q) X.xe s:=by
 have c:Vals (vs++dvs) (us++ds):=r.append g;have l:(us++ds).length=ps.length:=by rw[<- c.length];exact F.len _ _ _ _ h
 refine wpAny_call (codeAny_mono (F.run X.A X.stack s H ⟨us,[]⟩ (us++ds) (vs++dvs) Q E d I.env0 (i s us I.kIn l) c h) λr n b=>?_);cases r with
 | error e=>exact j a σ H s e n I b
 | ok fl =>
  cases fl with
  | ret u=>exact I.after b
  | next=>exact False.elim b
  | brk=>exact False.elim b
  | cont=>exact False.elim b
theorem ap(F:FnOk X.prog X.w X.K X.mg X.base CX k f fd ps sp)(g:Room k X.A)(o:Gl X x)(w:X.mg x=some (.ref f))(j:keepIn X.K (.ref f)=true)(l:Binds X.K fd ps ds)(i:Vals dvs ds)(u:fk CX X E)
  (y:PA X (e::es) t) (c:(x == ("__debug__" : Str))=false:=by decide) (v:starEach (e::es) X.env=(false,eval e X.env)::starEach es X.env:=by rfl) (b:(backTo pos (starEach es X.env)).any (·.1)=false:=by rfl) :
  PE X (.Call (.Name x p) (e::es) [] pos) (zG sp dvs E t):=by
 intro a s n H Q I h;refine wpAny_Call_Name_kw (dU I o w ?_ c);refine callWith_K (h₀:=X.base) I.ok.mod.kin j (thn (y pos a s n H _ I h) λB z ⟨C,A,d,r,q⟩=>⟨d.kIn,?_⟩) v b;exact oA F g l i u d r q
theorem iM{pl:Sem Bool}(D:PE X o ta)(c:Cls X.K C)(j:Meth X.K C m f)(F:FnOk X.prog X.w X.K X.mg X.base CX k f fd ps sp)(z:Room k X.A)(A:Binds X.K fd ps ds)(w:Vals dvs ds)(M:fk CX X E)(G:PA X (e::es) t)
  (g:starEach (e::es) X.env=(false,eval e X.env)::starEach es X.env:=by rfl) (d:(backTo pos (starEach es X.env)).any (·.1)=false:=by rfl)
  (B:eval (.Call (.Attribute o m apos) (e::es) [] pos) X.env=(do
   let ov <- eval o X.env
   standAt apos.atName
   let (f,first) <- holding [ov] (getMethod ov m pl)
   callWith pos f first (backTo pos (starEach (e::es) X.env)) (backToKw pos (keywordEach [] X.env))):=by rfl) :
  PE X (.Call (.Attribute o m apos) (e::es) [] pos) (xA C m sp dvs E ta t):=by
 intro b s p H Q I h;refine methodCall_KW (pl:=pl) (thn (D b s p H _ I h) λu L ⟨x,N,i,K,a,T,W,v,y,l,q⟩=>?_) B;subst v;obtain rfl:u=Value.ref a:=K;refine jE i y c j l ?_;refine callWith_K (first:=[.ref a]) (h₀:=X.base) I.ok.mod.kin j.kp (thn (G pos b L p N _ i q) λus R ⟨vs,Y,n,r,P⟩=>⟨n.kIn,?_⟩) g d;exact oA (us:=.ref a::us) (vs:=.ref a::vs) F z A w M n (.cons rfl r) P
theorem aF{pl:Sem Bool}(z:PE X o ta)(c:Cls X.K C)(g:Meth X.K C m f)(F:FnOk X.prog X.w X.K X.mg X.base CX k f fd ps sp)(n:Room k X.A)(r:Binds X.K fd ps ds)(p:Vals dvs ds)(w:fk CX X E)
  (A:eval (.Call (.Attribute o m apos) [] [] pos) X.env=(do
   let ov <- eval o X.env
   standAt apos.atName
   let (f,first) <- holding [ov] (getMethod ov m pl)
   callWith pos f first (backTo pos (starEach [] X.env)) (backToKw pos (keywordEach [] X.env))):=by rfl) :
  PE X (.Call (.Attribute o m apos) [] [] pos) (xA C m sp dvs E ta yH):=by
 intro b s v H Q I h;refine methodCall_KW (pl:=pl) (thn (z b s v H _ I h) λu B ⟨x,K,d,i,a,D,G,j,y,l,q⟩=>?_) A;subst j;obtain rfl:u=Value.ref a:=i;refine jE d y c g l ?_;exact callWith_K0 (first:=[.ref a]) d.kIn g.kp (oA (us:=[.ref a]) (vs:=[.ref a]) F n r p w d (.cons rfl .nil) q)
structure Mk(K:Frag)(C f:Addr):Prop where
 makes:makesIn K C=true
 init:findIn K (.ref C) "__init__" = some (some (.ref f))
 fn:isFn K (.ref f)=true
 kp:keepIn K (.ref C)=true
theorem uM{a:List (Addr×Obj)}{σ:St}{H:Hp}{s:Shared}{Q:VK}{us:List Value}{vs:List V}(M:Mk X.K C f)(F:FnOk X.prog X.w X.K X.mg X.base CX k f fd ps sp)(i:Room (k+1) X.A)(n:Binds X.K fd ps ds)(j:Vals dvs ds)
  (o:fk CX X E) (I:Inv X a σ H s) (r:Vals vs us)
  (h:∀ x dx,H x=none->H dx=none->dx≠x->sp (.ref x::(vs++dvs)) (upd (upd H dx (.own x)) x (.ins C dx [])) (λv H2=>v=.non/\Q (.ref x) H2) E) :
  wpAny (model X.prog X.w) X.A (call (.ref C) us) (EP X a σ Q) X.xe s:=by
 have d:=h (s.heap.objs.size+1) s.heap.objs.size (I.hok.fresh (Nat.le_succ _)) (I.hok.fresh (Nat.le_refl _)) (Nat.ne_of_lt (Nat.lt_succ_self _));have c:=Inv.made (C:=C) I;have g:Vals (V.ref (s.heap.objs.size+1)::(vs++dvs)) (Value.ref (s.heap.objs.size+1)::(us++ds)):=.cons rfl (r.append j)
 have y:(Value.ref (s.heap.objs.size+1)::us++ds).length=ps.length:=by
  have e:=g.length;rw[F.len _ _ _ _ d]at e;exact e.symm
 refine wpAny_call (vC (f:=f) I.kIn M.makes M.init (beq_iff_eq.mp M.fn) (codeAny_mono (F.run _ X.stack _ _ ⟨Value.ref (s.heap.objs.size+1)::us,[]⟩ (Value.ref (s.heap.objs.size+1)::(us++ds)) _ _ E (i.make C us [])
  (c.env0.make C us []) (n _ (Value.ref (s.heap.objs.size+1)::us) c.kIn y) g d) λr z b=>?_))
 cases r with
 | error e=>exact o a σ _ _ e z c b
 | ok fl =>
  cases fl with
  | ret u =>
   obtain⟨v,q,p,l,A,w⟩:=c.after b;subst A;exact⟨l,⟨V.ref (s.heap.objs.size+1),q,p,rfl,w⟩⟩
  | next=>exact False.elim b
  | brk=>exact False.elim b
  | cont=>exact False.elim b
theorem lC(M:Mk X.K C f)(F:FnOk X.prog X.w X.K X.mg X.base CX k f fd ps sp)(g:Room (k+1) X.A)(n:Gl X x)(v:X.mg x=some (.ref C))(j:Binds X.K fd ps ds)(i:Vals dvs ds)(o:fk CX X E)
  (w:PA X (e::es) t) (c:(x == ("__debug__" : Str))=false:=by decide) (u:starEach (e::es) X.env=(false,eval e X.env)::starEach es X.env:=by rfl) (b:(backTo pos (starEach es X.env)).any (·.1)=false:=by rfl) :
  PE X (.Call (.Name x p) (e::es) [] pos) (As C sp dvs E t):=by
 intro a s l H Q I h;refine wpAny_Call_Name_kw (dU I n v ?_ c);refine callWith_K (h₀:=X.base) I.ok.mod.kin M.kp (thn (w pos a s l H _ I h) λA y ⟨B,z,d,r,q⟩=>⟨d.kIn,?_⟩) u b;exact uM M F g j i o d r q
end
section
variable {X:Cx}{CX:CXT}{k:Nat}{f C:Addr}{fd:FuncData}{ps ks:List Str}{sp:Sp}{E:XK}{x m:Str}{p pos apos kpos:Pos}{e o:Expr}{es:List Expr}{kws:List Keyword}{te ta:TE}{t tk:TA}{nm:Option Str}
variable {g:List Value->List Value->List Value}{gV:List V->List V->List V}
end
structure FnScope(N P:List Str)(sc:Scope):Prop where
 kind:sc.kind=.function
 co:sc.isCoroutine=false
 gen:sc.isGenerator=false
 nd:N.Nodup
 pre:N.take P.length=P
 par:∀ x ∈ P,sc.names.lookup x = some .local\/sc.names.lookup x = some .cell
 nofree:∀ y∈sc.names,y.2≠.free
theorem j0{a:Str->Option NameKind}{x:Str}:∀{binds:List (Str×Value)}{m:Str->Option Value},(∀ v,(x,v) ∉ binds)->bindL a binds m x=m x
 | [],_,_=>rfl
 | (n,v)::r,m,h=>by
  unfold bindL;rw[j0 λw b=>h w (mem_cons_of_mem _ b)]
  split
  .have:x≠n:=by rintro rfl;exact h v mem_cons_self
   simp[this]
  .rfl
theorem j7{a:Str->Option NameKind}{x:Str}:∀{binds:List (Str×Value)}{m:Str->Option Value},(∀ v,(x,v) ∉ binds)->bindC a binds m x=m x
 | [],_,_=>rfl
 | (n,v)::r,m,h=>by
  unfold bindC;rw[j7 λw b=>h w (mem_cons_of_mem _ b)]
  split
  .rfl
  .have:x≠n:=by rintro rfl;exact h v mem_cons_self
   simp[this]
theorem j4{a:Str->Option NameKind}{x:Str}{v:Value}:∀{P:List Str}{vs:List Value}{i:Nat}{m:Str->Option Value},P.Nodup->P[i]? = some x->vs[i]? = some v->a x = some .local ->
  bindL a (P.zip vs) m x=some v
 | [],_,_,_,_,h,_,_=>by simp at h
 | _::_,[],_,_,_,_,h,_=>by simp at h
 | p::P,w::vs,0,m,nd,h1,h2,hk=>by
  simp at h1 h2;subst h1;subst h2;show bindL a ((p,w)::P.zip vs) m p=_;unfold bindL;rw[j0 λv b=>(nodup_cons.mp nd).1 (of_mem_zip b).1,if_pos hk];simp
 | p::P,w::vs,i+1,m,nd,h1,h2,hk=>by
  show bindL a ((p,w)::P.zip vs) m x=_;unfold bindL;exact j4 (i:=i) (nodup_cons.mp nd).2 (by simpa using h1) (by simpa using h2) hk
theorem kc{a:Str->Option NameKind}{x:Str}{v:Value}:∀{P:List Str}{vs:List Value}{i:Nat}{m:Str->Option Value},P.Nodup->P[i]? = some x->vs[i]? = some v->a x≠some .local ->
  bindC a (P.zip vs) m x=some v
 | [],_,_,_,_,h,_,_=>by simp at h
 | _::_,[],_,_,_,_,h,_=>by simp at h
 | p::P,w::vs,0,m,nd,h1,h2,hk=>by
  simp at h1 h2;subst h1;subst h2;show bindC a ((p,w)::P.zip vs) m p=_;unfold bindC;rw[j7 λv b=>(nodup_cons.mp nd).1 (of_mem_zip b).1,if_neg hk];simp
 | p::P,w::vs,i+1,m,nd,h1,h2,hk=>by
  show bindC a ((p,w)::P.zip vs) m x=_;unfold bindC;exact kc (i:=i) (nodup_cons.mp nd).2 (by simpa using h1) (by simpa using h2) hk
def start(N:List Str)(vs:List V):St:=vs.map some++List.replicate (N.length - vs.length) none
def iY(CX:CXT)(P:Program)(w:World)(K:Frag)(mg:Str->Option Value)(base:Heap)(N:List Str)(qual:Str)(scope:Scope)(f:Addr)(cd:Value)(A:Around)(outer:List Env)(s:Shared)(H:Hp)(E:XK):Cx where
 prog:=P
 w:=w
 K:=K
 mg:=mg
 base:=base
 A:=A.deeper (envOfC qual scope s.heap.objs.size f cd)
 N:=N
 s₀:=s
 H₀:=H
 env:=envOfC qual scope s.heap.objs.size f cd
 outer:=outer
 stack:=envOfC qual scope s.heap.objs.size f cd::outer
 ex:=[]
 calm:=true
 fn:=λ_=>true
 pn:=[]
 xe:=λe s'=>wpAny (model P w) (A.deeper (envOfC qual scope s.heap.objs.size f cd)) (leaving (envOfC qual scope s.heap.objs.size f cd) e) (λ_ s''=>CX outer H s E e s'') (λe' s''=>CX outer H s E e' s'') s'
theorem mf{a:Scope}{n:Nat}{x:Str}(h:a.names.lookup x=some .cell):∃ c,(cellsFrom n a.names []).lookup x=some c:=by
 have q:=cellsFrom_some a.names n [] (.inl h);exact Option.isSome_iff_exists.mp q
theorem kj{CX:CXT}{P:Program}{w:World}{K:Frag}{mg:Str->Option Value}{l:Heap}{N ps:List Str}{g:Str}{scope:Scope}{f:Addr}{F:Value}{A:Around}{d:List Env}{s Q:Shared}{H:Hp}{E:XK}{us:List Value}{vs:List V}
  (S:FnScope N ps scope) (T:A.handled=none) (o:Env0 P w K mg l A d s H) (hl:vs.length=ps.length) (r:Vals vs us)
  (x:InCallC s s.heap.objs.size (bindL (envOfC g scope s.heap.objs.size f F).kindOf (ps.zip us) λ_=>none) (cellsFrom (s.heap.objs.size+1) scope.names []) (bindC (envOfC g scope s.heap.objs.size f F).kindOf (ps.zip us) λ_=>none) Q) :
  Inv (iY CX P w K mg l N g scope f F A d s H E) [] (start N vs) H Q:=by
 have R:ps.length<=N.length:=by have:=congrArg List.length S.pre;rw[length_take]at this;lia
 obtain⟨I,Z,rfl,M⟩:=x.done;have B:∀ b:Addr,b ∉ (iY CX P w K mg l N g scope f F A d s H E).ex:=λb z=>absurd (show b∈([]:List Addr) from z) (by simp)
 refine⟨⟨o.mod,S.kind,rfl,rfl,Nat.le_refl _,λy z c I j=>?_,λy hy=>?_,λy c _ h=>?_,λ_=>T,Around.frames_deeper o.frames,.inr ⟨rfl,rfl⟩,λb z=>absurd z (B b),o.bs,o.bsz,λb _ _=>B b,λb z=>absurd z (B b),o.funs,o.frf⟩,
  rfl,o.bare,Un.kept M,⟨_,x.toInCall.ns,λi y v I j Y=>?_⟩,λy c h=>⟨_,x.cell y c h⟩,o.hok.fresh (Nat.le_refl _),λy c h=>?_,λp D=>absurd (show p∈([]:List (Addr×Obj)) from D) (by simp),o.hok.kept M,?_⟩
 .exact name_of_addr x.apart (PySem.mem_of_lookup I) (PySem.mem_of_lookup j)
 .have hy:scope.names.lookup y=some .cell\/scope.names.lookup y=some .free:=hy
  rcases hy with hy | hy
  .exact mf hy
  .exact absurd rfl (S.nofree _ (PySem.mem_of_lookup hy))
 .exact Nat.le_of_lt (x.above y c (PySem.mem_of_lookup h))
 .have G:i<vs.length:=by
   unfold start at j
   by_cases G:i<vs.length
   .exact G
   .rw[List.getElem?_append_right (by simpa using G)]at j
    rw[List.getElem?_replicate]at j
    split at j <;> cases j
  have W:vs[i]? = some v:=by
   unfold start at j;rw[List.getElem?_append_left (by simpa using G),List.getElem?_map]at j;cases e:vs[i]? with
   | none=>rw[e]at j;cases j
   | some a=>rw[e]at j;cases j;rfl
  obtain⟨u,L,X⟩:=r.get W
  have D:ps[i]? = some y:=by
   rw[<- S.pre,List.getElem?_take_of_lt (by lia)];exact I
  have C:ps.Nodup:=by rw[<- S.pre];exact S.nd.sublist (take_sublist _ _)
  refine⟨u,X,?_⟩
  rcases S.par y (List.mem_of_getElem? D) with k | k
  .exact .inl ⟨k,j4 C D L k⟩
  .obtain⟨c,e⟩:=mf (n:=s.heap.objs.size+1) k
   refine .inr ⟨.inl k,c,e,?_⟩;have q:=x.cell y c e;rw[kc C D L (by show scope.names.lookup y≠_;rw[k];decide)]at q;exact q
 .exact o.hok.fresh (Nat.le_of_lt (x.above y c (PySem.mem_of_lookup h)))
 .unfold start
  show _=N.length;rw[length_append,length_map,List.length_replicate];lia
theorem tK{CX:CXT}{P:Program}{w:World}{K:Frag}{mg:Str->Option Value}{d:Heap}{k:Nat}{f:Addr}{name a:Str}{g:Arguments}{body:List Stmt}{scope:Scope}{X kV D Y c ct oc:Value}{W od:Option Addr}
  {T:Array (Option Value)}{N ps:List Str}{sp:Sp}(lk:K.lookup f=some ⟨oc,od,.func (fnOf name a g body scope X kV D Y W c ct),T⟩) (M:codeIn K c a=true) (S:FnScope N ps scope)
  (C:∀ vs H Q E,sp vs H Q E->vs.length=ps.length)
  (i:∀(A:Around) (outer:List Env) (s:Shared) (H:Hp) (vs:List V) (Q:VK) (E:XK),Room k (A.deeper (envOfC a scope s.heap.objs.size f c))->sp vs H Q E ->
   ∃ t,PSs (iY CX P w K mg d N a scope f c A outer s H E) body t/\t { nx:=λ_ H'=>Q .non H',rt:=Q } (start N vs) H) :
  FnOk P w K mg d CX (k+1) f (fnOf name a g body scope X kV D Y W c ct) ps sp:=by
 refine⟨C,λA outer s H ab us vs Q E L p hb r z=>?_⟩;have hl:=C _ _ _ _ z;have Z:K.In s.heap:=p.mod.kin.keeps λb o e=>(p.bs b o e).1
 have F:s.heap.NoLimit:=p.mod.nolimit.keeps λb o e=>(p.bs b o e).1
 have j:∀ y ∈ ps.zip us,scope.names.lookup y.1 = some .local\/(scope.names.lookup y.1 = some .cell/\((cellsFrom (s.heap.objs.size + 1) scope.names []).lookup y.1).isSome = true):=λ⟨n,v⟩ hy=>by
  rcases S.par n (of_mem_zip hy).1 with q | q
  .exact .inl q
  .exact .inr ⟨q,cellsFrom_some _ _ _ (.inl q)⟩
 refine codeAny_call_function L.depth (Z _ _ lk) rfl S.co S.gen rfl (codeRec_of Z M) (hb _ _ _ _ ?_);refine wpAny_newFunctionEnv_cells S.kind j λac he s1 x=>?_
 subst he;refine⟨F.keeps x.toInCall.keep,codeAny_func ?_⟩;obtain⟨t,ht,hq⟩:=i A outer s H vs Q E (L.deeper _) z;have I:Inv (iY CX P w K mg d N a scope f c A outer s H E) [] (start N vs) H s1:=kj S L.hd p hl r x;refine wpAny_mono (ht [] s1 (start N vs) H _ I hq) (λfl G l=>?_) λe G l=>l
 have B:∀{h:St}{H':Hp}{v:V}{u:Value},Inv (iY CX P w K mg d N a scope f c A outer s H E) [] h H' G->RelV v u->Q v H'->CE outer P w H s Q u G :=
  λ{h H' v u} J R q=>⟨v,H',J.os,J.bare,J.base,J.hok,R,q⟩
 cases fl with
 | ret u =>
  obtain⟨v,h,H',J,R,q⟩:=l;exact B J R q
 | next =>
  obtain⟨h,H',J,q⟩:=l;exact B (v:=V.non) (u:=Value.none) J rfl q
 | brk =>
  obtain⟨_,_,_,q⟩:=l;exact False.elim q
 | cont =>
  obtain⟨_,_,_,q⟩:=l;exact False.elim q
section
variable {X:Cx}{x:Str}{p pos:Pos}{e:Expr}{es:List Expr}{t:TA}{id T:String}{r:List V->Hp->VK->Prop}
def tCB(r:List V->Hp->VK->Prop)(t:TA):TE:=λσ H Q=>t σ H λvs H1=>r vs H1 Q
theorem aC(f:CallR X (.builtin id) r)(j:Gl X x)(u:X.mg x=none)(w:bootBuiltins x=some (.builtin id))(z:PA X (e::es) t)(i:x ≠ "__name__" := by decide)(c:(x == ("__debug__" : Str))=false:=by decide)
  (k:starEach (e::es) X.env=(false,eval e X.env)::starEach es X.env:=by rfl) (b:(backTo pos (starEach es X.env)).any (·.1)=false:=by rfl):PE X (.Call (.Name x p) (e::es) [] pos) (tCB r t):=by
 intro a s d H Q I h;refine wpAny_Call_Name_kw (gJ I j u w ?_ i c);exact PyProof.Rows.callWith_builtin1 (thn (z pos a s d H _ I h) λo g ⟨v,l,q,n,y⟩=>f a g d l v o Q q n y) k b
theorem dH(f:CallR X (.type T) r)(j:Gl X x)(u:X.mg x=none)(w:bootBuiltins x=some (.type T))(z:PA X (e::es) t)(i:x ≠ "__name__" := by decide)(c:(x == ("__debug__" : Str))=false:=by decide)
  (k:starEach (e::es) X.env=(false,eval e X.env)::starEach es X.env:=by rfl) (b:(backTo pos (starEach es X.env)).any (·.1)=false:=by rfl):PE X (.Call (.Name x p) (e::es) [] pos) (tCB r t):=by
 intro a s d H Q I h;refine wpAny_Call_Name_kw (gJ I j u w ?_ i c);exact PyProof.Rows.callWith_type1 (thn (z pos a s d H _ I h) λo g ⟨v,l,q,n,y⟩=>f a g d l v o Q q n y) k b
end
end L2
namespace HT
open PySem PyProof.Rows
section
open PySem.SeqAt
open PySem.AutoSeq1 (wpAny_loadPart')
open PySem.MeetsSeq PySem.MeetsSeq2 PySem.MeetsSeq3
end
section
variable {prog:Program}{w:World}{A:Around}{E:Value->Shared->Prop}{s:Shared}
theorem cat_tup{t b:Addr}{vs a:List Value}{Q:Value->Shared->Prop}(y:IsTup s.heap t vs.toArray)(v:IsTup s.heap b a.toArray)(r:vs≠[])
  (x:a=[]->Q (.ref t) s) (h2:a≠[]->Q (.ref s.heap.objs.size) { s with heap:=s.heap.push { cls:=.type "tuple",data:=.seq (vs++a).toArray } })
  (hsz:vs.length+a.length<=sizeLine):wpAny (model prog w) A (binaryOp .Add (.ref t) (.ref b)) Q E s:=by
 obtain⟨⟨cls,q,data,u⟩,i,l,n,k⟩:=id y;obtain⟨⟨o,h,j,d⟩,c,f,p,g⟩:=id v;simp only at l k f g;subst l k f g;have e:vs.toArray++a.toArray=(vs++a).toArray:=by simp
 by_cases hw:a=[]
 .exact concat_meets ⟨_,i,rfl⟩ ⟨_,c,rfl⟩ noFill_tuple_add seq_tuple_add PySem.F.slot_tuple_add PySem.F.entry_tuple_add (PySem.F.args_tuple_add_2 _ _)
   (tuple_addW1 t b vs.toArray a.toArray n p q h u d (by simpa using r) (by simp[hw])) ⟨i,c,x hw⟩
 .refine concat_meets ⟨_,i,rfl⟩ ⟨_,c,rfl⟩ noFill_tuple_add seq_tuple_add PySem.F.slot_tuple_add PySem.F.entry_tuple_add (PySem.F.args_tuple_add_2 _ _)
   (tuple_addW2 t b vs.toArray a.toArray n p q h u d (by simpa using r) (by simpa using hw) (by rw[size_toArray,size_toArray];exact hsz)) ⟨i,c,?_⟩
  rw[e];exact h2 hw
def sIx(n d:Nat):Option Int->Nat
 | none=>d
 | some v=>if v<0 then (v+(n:Int)).toNat else min v.toNat n
theorem sIx_none(n d:Nat):sIx n d none=d:=rfl
theorem sIx_nat(n d k:Nat):sIx n d (some (k:Int))=min k n:=by
 show(if (k:Int)<0 then ((k:Int)+(n:Int)).toNat else min (k:Int).toNat n)=min k n;rw[if_neg (by lia),Int.toNat_natCast]
end
end HT
namespace L2
open PySem PySem.Spec PyProof.Rows
abbrev TO:=St->Hp->(Option Int->Hp->Prop)->Prop
def PO(X:Cx)(e:Option Expr)(t:TO):Prop :=
 ∀(pins:List (Addr×Obj)) (s:Shared) (σ:St) (H:Hp) (Q:Option Int->Hp->Prop),Inv X pins σ H s->t σ H Q ->
  wpAny (model X.prog X.w) X.A (evalPart e X.env) (λu s'=>∃ o H',Inv X pins σ H' s'/\IsPart u o/\Q o H') X.xe s
def wU:TO:=λ_ H Q=>Q none H
def AC(t:TE):TO:=λσ H Q=>t σ H λx H1=>∃ i,x=.int i/\Q (some i) H1
section
variable {X:Cx}{e:Expr}{te:TE}{lo hi:Option Expr}{tl th:TO}{pos p2:Pos}
theorem kF:PO X none wU:=by
 intro a s b H Q I h;rw[evalPart_none];exact wpAny_pure ⟨none,H,I,.none,h⟩
theorem gt(h:PE X e te):PO X (some e) (AC te):=by
 intro a s c H Q I b;rw[evalPart_some];refine thn (h a s c H _ I b) λu k ⟨x,d,g,f,j⟩=>?_
 obtain⟨i,rfl,q⟩:=j;obtain⟨t,rfl⟩:=f;exact⟨some i,d,g,.int i t,q⟩
def SlR(X:Cx)(r:V->Option Int->Option Int->Hp->VK->Prop):Prop :=
 ∀(pins:List (Addr×Obj)) (s:Shared) (σ:St) (H:Hp) (x:V) (v vl vu:Value) (lo hi:Option Int) (sl:Addr) (Q:VK),Inv X pins σ H s->RelV x v->s.heap.IsSliceOf sl vl vu .none->IsPart vl lo->IsPart vu hi->r x lo hi H Q ->
  ∃ T id,typeLookup (.type T) "__getitem__" = pure (some (.builtin id))/\s.TypeIs v T/\wpAny (model X.prog X.w) X.A (getItem v (.ref sl)) (EP X pins σ Q) X.xe s
def tSl(r:V->Option Int->Option Int->Hp->VK->Prop)(te:TE)(tl th:TO):TE:=λσ H Q=>te σ H λx H1=>tl σ H1 λl H2=>th σ H2 λu H3=>r x l u H3 Q
theorem gg{r:V->Option Int->Option Int->Hp->VK->Prop}(n:SlR X r)(A:PE X e te)(F:PO X lo tl)(y:PO X hi th):PE X (.Subscript e (.Slice lo hi none p2) pos) (tSl r te tl th):=by
 intro a s c H Q I h;refine Subscript_ (thn (A a s c H _ I h) λv D ⟨x,E,i,g,B⟩=>?_);refine wpAny_Slice (thn (F a D c E _ i B) λd p ⟨l,C,z,j,G⟩=>thn (y a p c C _ z G) λvu s3 ⟨u,H3,I3,pu,q3⟩=>?_);rw[evalPart_none];refine wpAny_pure ?_;have k:Inv X a c H3 { s3 with heap:=s3.heap.push { cls:=.type "slice",data:=.fields #[d,vu,.none] } }:=I3.kept (t':=s3.toks) λb L q=>Heap.get?_push_of_some _ q
 obtain⟨T,K,o,w,f⟩:=n a { s3 with heap:=s3.heap.push { cls:=.type "slice",data:=.fields #[d,vu,.none] } } c H3 x v d vu l u s3.heap.objs.size Q k g (Heap.IsSliceOf.new ..) j pu q3;show wpAny (model X.prog X.w) X.A (subscriptTail e (.Slice lo hi none p2) v (.ref s3.heap.objs.size)) (EP X a c Q) X.xe { s3 with heap:=s3.heap.push { cls:=.type "slice",data:=.fields #[d,vu,.none] } };exact tail_any (ops:=[.ref s3.heap.objs.size,v]) w o f (by with_unfolding_all rfl)
def dJ(xs:List V)(lo hi:Option Int):List V:=(xs.drop (HT.sIx xs.length 0 lo)).take (HT.sIx xs.length xs.length hi - HT.sIx xs.length 0 lo)
theorem hX(xs:List V)(lo a:Option Int):(dJ xs lo a).length<=xs.length:=by
 unfold dJ;rw[length_take,length_drop];lia
def pK(K:Frag):R2:=λx y H Q=>∃ a b xs ys,x=.ref a/\y=.ref b/\SqT K H a xs/\SqT K H b ys/\xs≠[]/\xs.length+ys.length<=sizeLine /\
 (ys=[]->Q (.ref a) H)/\(ys≠[]->∀ p,H p=none->Q (.ref p) (upd H p (.tup (xs++ys))))
theorem Vals.nil_iff{xs:List V}{us:List Value}(r:Vals xs us):us=[]↔xs=[]:=by
 cases r with
 | nil=>simp
 | cons _ _=>simp
theorem vR:OpR X (binaryOp .Add) (pK X.K):=by
 intro f s G H x y v u Q I B p h;obtain⟨a,b,j,l,rfl,rfl,A,k,D,g,r,F⟩:=h;cases B;cases p;obtain⟨C,d,n,_⟩:=I.tuple A;obtain⟨i,c,E,_⟩:=I.tuple k;refine HT.cat_tup n E (λz=>D (d.nil_iff.mp z)) (λz=>⟨.ref a,H,I,rfl,r (c.nil_iff.mp z)⟩) (λz=>?_) (by rw[<- d.length,<- c.length];exact g);refine⟨.ref s.heap.objs.size,_,I.laid (t':=s.toks) (o:=.tup (j++l)) (λb K q=>Heap.get?_push_of_some _ q) (Nat.le_refl _) ?_,rfl,F (λw=>z (c.nil_iff.mpr w)) _ (I.hok.fresh (Nat.le_refl _))⟩;exact⟨by rw[length_append];exact g,_,d.append c,IsTup.new _ _⟩
end
def ixN(n:Nat)(i:Int):Option Nat:=if 0<=i then (if i<n then some i.toNat else none) else if -(n:Int)<=i then some (i+n).toNat else none
def atI{α:Type}(xs:List α)(i:Int):Option α:=(ixN xs.length i).bind λj=>xs[j]?
theorem wt{n:Nat}{i:Int}{j:Nat}(h:ixN n i=some j):seqIndex? i n=some j/\j<n/\-(n:Int)<=i/\i<n:=by
 unfold ixN at h
 by_cases h0:0<=i
 .rw[if_pos h0]at h
  by_cases h1:i<n
  .rw[if_pos h1]at h
   have e:i.toNat=j:=Option.some.inj h;exact⟨by rw[seqIndex_of h0 h1,e],by lia,by lia,h1⟩
  .rw[if_neg h1]at h;cases h
 .rw[if_neg h0]at h
  by_cases h1:-(n:Int)<=i
  .rw[if_pos h1]at h
   have e:(i+n).toNat=j:=Option.some.inj h;exact⟨by rw[seqIndex_neg (by lia) h1,e],by lia,h1,by lia⟩
  .rw[if_neg h1]at h;cases h
theorem lI{a:Type}{xs:List a}{i:Int}{v:a}(h:atI xs i=some v):∃ j,seqIndex? i xs.length=some j/\xs[j]? = some v/\j<xs.length/\-(xs.length:Int)<=i/\i<xs.length:=by
 unfold atI at h;cases e:ixN xs.length i with
 | none=>rw[e]at h;cases h
 | some j =>
  rw[e]at h;obtain⟨d,f,c,b⟩:=wt e;exact⟨j,d,h,f,c,b⟩
theorem aT{a:Type}{xs:List a}{j:Nat}{v:a}(h:xs[j]? = some v):atI xs (j:Int)=some v:=by
 have b:j<xs.length:=(List.getElem?_eq_some_iff.mp h).1
 have e:ixN xs.length (j:Int)=some j:=by
  unfold ixN;rw[if_pos (by lia),if_pos (by lia)];simp
 unfold atI;rw[e];exact h
def wu(b:Expr):Prop:=∀ o i,subscripted b false o i=operate [o,i] (getItem o i)
def IxR(X:Cx)(r:R2):Prop :=
 ∀(value slice:Expr) (pins:List (Addr×Obj)) (s:Shared) (σ:St) (H:Hp) (x y:V) (v u:Value) (Q:VK),Inv X pins σ H s->RelV x v->RelV y u->r x y H Q ->
  subscripted slice false v u=operate [v,u] (getItem v u)->wpAny (model X.prog X.w) X.A (subscriptTail value slice v u) (EP X pins σ Q) X.xe s
def MtR(X:Cx)(id:String)(r:V->List V->Hp->VK->Prop):Prop :=
 ∀(pins:List (Addr×Obj)) (s:Shared) (σ:St) (H:Hp) (x:V) (xs:List V) (v:Value) (us:List Value) (Q:VK),Inv X pins σ H s->RelV x v->Vals xs us->r x xs H Q ->
  wpAny (model X.prog X.w) X.A (call (.builtin id) (v::us)) (EP X pins σ Q) X.xe s
section
variable {X:Cx}{a b:Expr}{ta tb:TE}{pos:Pos}
theorem IxR.or{r f:R2}(h:IxR X r)(h':IxR X f):IxR X (λx y H Q=>r x y H Q\/f x y H Q):=by
 intro b a c s g H x y v u Q I d i q j
 rcases q with q | q
 .exact h b a c s g H x y v u Q I d i q j
 .exact h' b a c s g H x y v u Q I d i q j
theorem dA{r:R2}(f:IxR X r)(k:PE X a ta)(g:PE X b tb)(n:wu b):PE X (.Subscript a b pos) (tOp r ta tb):=by
 intro c s i H Q I h;exact Subscript_ (yq k g I h λv u j x y o p d l q=>f a b c j i o x y v u Q p d l q (n _ _))
inductive rIxL(K:Frag)(x y:V)(H:Hp)(Q:VK):Prop
 | mk(p:Addr)(xs:List V)(i:Int)(v:V)(h0:x=.ref p)(h1:y=.int i)(h2:SqL K H p xs)(h3:atI xs i=some v)(h4:Q v H):rIxL K x y H Q
inductive rIxT(K:Frag)(x y:V)(H:Hp)(Q:VK):Prop
 | mk(p:Addr)(xs:List V)(i:Int)(v:V)(h0:x=.ref p)(h1:y=.int i)(h2:SqT K H p xs)(h3:atI xs i=some v)(h4:Q v H):rIxT K x y H Q
def Af:R2:=λx y H Q=>∃ z i c,x=.str z/\y=.int i/\z.length<=sizeLine/\atI z.cps.toList i=some c/\Q (.str ⟨#[c]⟩) H
theorem ix_list:IxR X (rIxL X.K):=by
 intro g d a s A H x y v u Q I L G h o;obtain⟨p,P,i,z,rfl,rfl,F,K,q⟩:=h;cases L;obtain⟨t,rfl⟩:=G;obtain⟨n,r,f,R⟩:=I.list F;obtain⟨j,c,E,T,C,M⟩:=lI K;obtain⟨w,B,l⟩:=r.get E;have N:=r.length;have W:=gH
 have b:EP X a A Q w s:=⟨z,H,I,l,q⟩
 by_cases h0:0<=i
 .have k:i.toNat=j:=by
   rw[seqIndex_of h0 M]at c;exact Option.some.inj c
  exact item_listR f.isList h0 (by lia) (by rw[k];simpa using B) b o
 .have k:(i+(n.toArray.size:Int)).toNat=j:=by
   rw[seqIndex_neg (by lia) C]at c;rw[size_toArray,<- N];exact Option.some.inj c
  exact subscriptTail_builtinR (x:=w) f.isList.typeIs slot_list_getitem.lookup
   (wpAny_getItem_list_neg (Q:=λr D=>r=w/\EP X a A Q r D) f.isList (by lia) (by rw[size_toArray] <;> lia) (by lia) (by rw[k];simpa using B) ⟨rfl,b⟩) o
theorem ix_tup:IxR X (rIxT X.K):=by
 intro c b a s k H x y v u Q I E B h D;obtain⟨p,M,i,z,rfl,rfl,o,C,q⟩:=h;cases E;obtain⟨t,rfl⟩:=B;obtain⟨F,r,g,N⟩:=I.tuple o;obtain⟨j,A,n,P,L,R⟩:=lI C;obtain⟨w,G,f⟩:=r.get n;have K:=r.length;have T:=gH
 have d:EP X a k Q w s:=⟨z,H,I,f,q⟩
 exact subscriptTail_builtinR (x:=w) g.typeIs slot_tuple_getitem.lookup
  (getItem_tuple (j:=j) (Q:=λr l=>r=w/\EP X a k Q r l) g (by lia) (by lia) (by rw[size_toArray,<- K];exact A) (by simpa using G) ⟨rfl,d⟩) D
theorem ym:IxR X Af:=by
 intro b a d s F H x y v u Q I r n h p;obtain⟨z,i,c,rfl,rfl,D,o,q⟩:=h;obtain⟨t,rfl⟩:=r;obtain⟨C,rfl⟩:=n;obtain⟨j,f,k,E,g,w⟩:=lI o;have B:z.cps.toList.length=z.length:=by simp[Str.length]
 rw[B]at f g w;have G:=gH
 exact tail_any (typeIs_str s z t) slot_str_getitem.lookup (getItem_str (c:=c) (by
  have A:decide (i < -(2 ^ 63:Int))=false:=decide_eq_false (by lia);have l:decide (i >= 2 ^ 63)=false:=decide_eq_false (by lia)
  rw[A,l,Bool.or_false]) (by rw[f];simpa using k) ⟨.str ⟨#[c]⟩,H,I.tok _,⟨_,rfl⟩,q⟩) p
def rIx(K:Frag):R2:=λx y H Q=>rIxL K x y H Q\/rIxT K x y H Q\/Af x y H Q
theorem cI:IxR X (rIx X.K):=ix_list.or (ix_tup.or ym)
theorem kT(lo a:Option Int)(n:Nat):(sliceBounds lo a none n).1=((HT.sIx n 0 lo:Nat):Int)/\(sliceBounds lo a none n).2.1=((HT.sIx n n a:Nat):Int)/\(sliceBounds lo a none n).2.2=1:=by
 refine⟨?_,?_,rfl⟩
 .cases lo with
  | none=>simp[sliceBounds,HT.sIx]
  | some i =>
   simp only[sliceBounds,HT.sIx,Option.getD_none,show(1:Int) > 0 by decide,if_true]
   by_cases h:i<0
   .simp only[h,if_true] <;> lia
   .simp only[h,if_false] <;> lia
 .cases a with
  | none=>simp[sliceBounds,HT.sIx]
  | some i =>
   simp only[sliceBounds,HT.sIx,Option.getD_none,show(1:Int) > 0 by decide,if_true]
   by_cases h:i<0
   .simp only[h,if_true] <;> lia
   .simp only[h,if_false] <;> lia
theorem jJ(its:List Value)(lo a:Option Int):slicePick its.toArray lo a none=((its.drop (HT.sIx its.length 0 lo)).take (HT.sIx its.length its.length a - HT.sIx its.length 0 lo)).toArray:=by
 obtain⟨c,d,b⟩:=kT lo a its.toArray.size;unfold slicePick;rw[c,d,b]
 simp only[sliceRange_one,pick_run,size_toArray] <;> rfl
def BF(K:Frag):V->Option Int->Option Int->Hp->VK->Prop:=λx lo hi H Q=>∃ a xs,x=.ref a/\SqL K H a xs/\∀ p,H p=none->Q (.ref p) (upd H p (.lst (dJ xs lo hi)))
theorem iE:SlR X (BF X.K):=by
 intro i s A H x v B z f g D Q I k y p u h;obtain⟨a,c,rfl,n,q⟩:=h;cases k;obtain⟨l,r,j,w⟩:=I.list n;have d:=r.length;refine⟨"list",_,slot_list_getitem.lookup,j.isList.typeIs,?_⟩;refine wpAny_getItem_list_slice j.isList y p u .none (by simp) ?_ (by rw[size_toArray] <;> lia);rw[jJ,<- d];refine⟨.ref s.heap.objs.size,_,I.laid (t':=s.toks) (o:=.lst (dJ c f g)) (λb C q=>Heap.get?_push_of_some _ q) (Nat.le_refl _) ?_,rfl,q _ (I.hok.fresh (Nat.le_refl _))⟩;exact⟨Nat.le_trans (hX c f g) w,_,0,(r.drop (HT.sIx c.length 0 f)).take (HT.sIx c.length c.length g - HT.sIx c.length 0 f),Heap.get?_push_size _ rfl⟩
def gz:V->Bool
 | .non=>true
 | .bl _=>true
 | .int _=>true
 | .str _=>true
 | _=>false
def eqV:V->V->Bool
 | .non,.non=>true
 | .bl a,.bl b=>a == b
 | .bl a,.int b=>(if a then 1 else 0) == b
 | .int a,.bl b=>a == (if b then 1 else 0)
 | .int a,.int b=>a == b
 | .str a,.str b=>a == b
 | _,_=>false
theorem zm{A:Around}{s:Shared}{y x:V}{u v:Value}(f:RelV y u)(c:RelV x v)(h:gz y=true)(g:gz x=true):SeqAt.EqAt A s u v (eqV y x):=by
 cases y with
 | non =>
  cases f;cases x with
  | non=>cases c;exact SeqAt.EqAt.same _
  | bl b=>cases c;exact SeqAt.EqAt.none_bool b
  | int b=>obtain⟨t,rfl⟩:=c;exact SeqAt.EqAt.none_int b t
  | str b=>obtain⟨t,rfl⟩:=c;exact SeqAt.EqAt.none_str b t
  | _=>exact absurd (show false=true from g) Bool.false_ne_true
 | bl a =>
  cases f;cases x with
  | non=>cases c;exact SeqAt.EqAt.bool_none a
  | bl b=>cases c;exact SeqAt.EqAt.bool_bool a b
  | int b=>obtain⟨t,rfl⟩:=c;exact SeqAt.EqAt.bool_int a b t
  | str b=>obtain⟨t,rfl⟩:=c;exact SeqAt.EqAt.bool_str a b t
  | _=>exact absurd (show false=true from g) Bool.false_ne_true
 | int a =>
  obtain⟨d,rfl⟩:=f;cases x with
  | non=>cases c;exact SeqAt.EqAt.int_none a d
  | bl b=>cases c;exact SeqAt.EqAt.int_bool a d b
  | int b=>obtain⟨t,rfl⟩:=c;exact SeqAt.EqAt.int_int a d b t
  | str b=>obtain⟨t,rfl⟩:=c;exact SeqAt.EqAt.int_str a d b t
  | _=>exact absurd (show false=true from g) Bool.false_ne_true
 | str a =>
  obtain⟨d,rfl⟩:=f;cases x with
  | non=>cases c;exact SeqAt.EqAt.str_none a d
  | bl b=>cases c;exact SeqAt.EqAt.str_bool a d b
  | int b=>obtain⟨t,rfl⟩:=c;exact SeqAt.EqAt.str_int a d b t
  | str b=>obtain⟨t,rfl⟩:=c;exact SeqAt.EqAt.str_str a d b t
  | _=>exact absurd (show false=true from g) Bool.false_ne_true
 | _=>exact absurd (show false=true from h) Bool.false_ne_true
def eqU(x:V)(u:Value):Bool:=match u with
 | .none=>eqV .non x
 | .bool b=>eqV (.bl b) x
 | .int i _=>eqV (.int i) x
 | .str z _=>eqV (.str z) x
 | _=>false
theorem uX{x y:V}{u:Value}(r:RelV y u)(f:gz y=true):eqU x u=eqV y x:=by
 cases y with
 | non=>cases r;rfl
 | bl b=>cases r;rfl
 | int i=>obtain⟨t,rfl⟩:=r;rfl
 | str z=>obtain⟨t,rfl⟩:=r;rfl
 | _=>exact absurd (show false=true from f) Bool.false_ne_true
theorem lS{x:V}:∀{xs:List V}{us:List Value},Vals xs us->xs.all gz=true->us.any (eqU x)=xs.any λy=>eqV y x
 | _,_,.nil,_=>rfl
 | y::xs,u::us,.cons r t,f=>by
  rw[all_cons,Bool.and_eq_true]at f;rw[any_cons,any_cons,uX r f.1,lS t f.2]
theorem jk{A:Around}{s:Shared}{x:V}{v:Value}(a:RelV x v)(b:gz x=true):∀{xs:List V}{us:List Value},Vals xs us->xs.all gz=true->∀ u∈us,SeqAt.EqAt A s u v (eqU x u)
 | _,_,.nil,_=>λu hu=>by cases hu
 | y::xs,u::us,.cons r t,f=>λc hu=>by
  rw[all_cons,Bool.and_eq_true]at f
  rcases mem_cons.mp hu with rfl | hu
  .rw[uX r f.1];exact zm r a f.1 b
  .exact jk a b t f.2 c hu
def inV(x:V)(xs:List V):Bool:=xs.any λy=>eqV y x
inductive rIn(K:Frag)(neg:Bool)(x y:V)(H:Hp)(Q:VK):Prop
 | mk(p:Addr)(xs:List V)(h0:y=.ref p)(h1:SqL K H p xs\/SqT K H p xs)(h2:gz x=true)(h3:xs.all gz=true)(h4:Q (.bl (if neg then !inV x xs else inV x xs)) H):rIn K neg x y H Q
theorem qZ:OpR X (compareOp .In) (rIn X.K false):=by
 intro g s n H x y v u Q I f j h;obtain⟨p,l,rfl,hq,i,b,q⟩:=h;cases j
 rcases hq with hq | hq
 .obtain⟨a,r,d,k⟩:=I.list hq
  refine SeqAt.in_listAt (eqU x) d.isList (λw c=>jk f i r b w (by simpa using c)) ⟨.bl _,H,I,rfl,?_⟩;rw[show a.toArray.any (eqU x)=a.any (eqU x) by simp,lS r b];exact q
 .obtain⟨a,r,d,k⟩:=I.tuple hq
  refine SeqAt.in_tupleAt (eqU x) d (λw c=>jk f i r b w (by simpa using c)) ⟨.bl _,H,I,rfl,?_⟩;rw[show a.toArray.any (eqU x)=a.any (eqU x) by simp,lS r b];exact q
theorem lf:CallR X (.builtin "len") (λxs H Q=>∃ p ys,xs=[.ref p]/\(SqL X.K H p ys\/SqT X.K H p ys)/\Q (.int ys.length) H):=by
 intro f s j H xs l Q I r h;obtain⟨p,ys,rfl,hq,q⟩:=h;obtain⟨u,rfl,g⟩:=dM r;cases g;have k:=gH
 rcases hq with hq | hq
 .obtain⟨b,c,d,i⟩:=I.list hq
  have a:=c.length;exact Calls.call_len_list d.isList (by simp only[size_toArray] <;> lia) ⟨.int ys.length,H,I.tok _,⟨s.toks+1,by rw[size_toArray,a]⟩,q⟩
 .obtain⟨b,c,d,i⟩:=I.tuple hq
  have a:=c.length;exact len_tuple d (by simp only[size_toArray] <;> lia) ⟨.int ys.length,H,I.tok _,⟨s.toks+1,by rw[size_toArray,a]⟩,q⟩
theorem call_len_str:CallR X (.builtin "len") (λxs H Q=>∃ z,xs=[.str z]/\z.length<=sizeLine/\Q (.int z.length) H):=by
 intro a s b H xs d Q I r h;obtain⟨z,rfl,f,q⟩:=h;obtain⟨u,rfl,t,rfl⟩:=dM r;have c:=gH;exact len_str (by lia) ⟨.int z.length,H,I.tok _,⟨_,rfl⟩,q⟩
theorem CallR.or{f:Value}{r b:List V->Hp->VK->Prop}(h:CallR X f r)(h':CallR X f b):CallR X f (λxs H Q=>r xs H Q\/b xs H Q):=by
 intro a s d H xs g Q I c q
 rcases q with q | q
 .exact h a s d H xs g Q I c q
 .exact h' a s d H xs g Q I c q
inductive rListOf(K:Frag)(xs:List V)(H:Hp)(Q:VK):Prop
 | mk(p:Addr)(ys:List V)(h0:xs=[.ref p])(h1:SqL K H p ys\/SqT K H p ys)(h2:∀ l,H l=none->Q (.ref l) (upd H l (.lst ys))):rListOf K xs H Q
theorem fZ:CallR X (.type "list") (rListOf X.K):=by
 intro g s B H C D Q I r h;obtain⟨p,y,rfl,hq,q⟩:=h;obtain⟨u,rfl,A⟩:=dM r;cases A
 have j:∀(a:List Value),Vals y a->y.length<=sizeLine->∀(c:Heap) (f:Nat),(∀ b o',s.heap.get? b=some o'->c.get? b=some o') ->
   c.get? s.heap.objs.size=some { cls:=.type "list",dict:=none,data:=.seq a.toArray f,slots:=#[] }->EP X g B Q (.ref s.heap.objs.size) { s with heap:=c }:=λa d l c f k e =>
  ⟨.ref s.heap.objs.size,_,I.laid (t':=s.toks) k (Nat.le_refl _) (show ObjOk X.prog X.w _ c _ (.lst y) from⟨l,a,f,d,e⟩),rfl,q _ (I.hok.fresh (Nat.le_refl _))⟩
 rcases hq with hq | hq
 .obtain⟨a,d,z,l⟩:=I.list hq
  have i:=d.length;obtain⟨o,v,x,n,w⟩:=z.isList;exact call_list_seq p (.inl rfl) v x w (λc f k e=>j a d l c f k e) (by simp only[size_toArray] <;> lia)
 .obtain⟨a,d,z,l⟩:=I.tuple hq
  have i:=d.length;obtain⟨o,v,x,n,w⟩:=z;exact call_list_seq p (.inr rfl) v x w (λc f k e=>j a d l c f k e) (by simp only[size_toArray] <;> lia)
theorem fK:CallR X (.type "tuple") (λxs H Q=>∃ p ys,xs=[.ref p]/\((SqL X.K H p ys/\∀ l,H l=none->Q (.ref l) (upd H l (.tup ys)))\/(SqT X.K H p ys/\Q (.ref p) H))):=by
 intro a s k H xs z Q I r h;obtain⟨p,ys,rfl,h⟩:=h;obtain⟨u,rfl,w⟩:=dM r;cases w
 rcases h with⟨f,q⟩ | ⟨f,q⟩
 .obtain⟨c,g,i,v⟩:=I.list f
  have j:=g.length;refine call_tuple_list i.isList (λd x=>?_) (by simp only[size_toArray] <;> lia);have n:Inv X a k H { s with heap:=d }:=I.kept (t':=s.toks) x
  have y:Inv X a k (upd H d.objs.size (.tup ys)) { s with heap:=d.push { cls:=.type "tuple",data:=.seq c.toArray } } :=
   n.laid (t':=s.toks) (λb o e=>Heap.get?_push_of_some _ e) (Nat.le_refl _) (show ObjOk X.prog X.w _ _ _ (.tup ys) from⟨v,c,g,IsTup.new _ _⟩)
  exact⟨.ref d.objs.size,_,y,rfl,q _ (n.hok.fresh (Nat.le_refl _))⟩
 .obtain⟨c,g,i,v⟩:=I.tuple f
  exact call_tuple_same i ⟨.ref p,H,I,rfl,q⟩
def tyV(K:Frag)(T:String)(x:V)(H:Hp):Prop:=match x with
 | .str _=>T = "str"
 | .int _=>T = "int"
 | .ref p=>(T = "list" /\ ∃ xs,SqL K H p xs)\/(T = "tuple" /\ ∃ o,K.lookup p=some o/\o.cls=.type "tuple" /\ o.dict=none) \/
   (T = "dict" /\ ((∃ kvs,H p=some (.dK kvs))\/∃ kvs,H p=some (.dT kvs)))\/(T = "set" /\ ∃ S n,H p=some (.set S n))
 | _=>False
theorem sX{f:List (Addr×Obj)}{σ:St}{H:Hp}{s:Shared}{T:String}{x:V}{v:Value}(I:Inv X f σ H s)(r:RelV x v)(ty:tyV X.K T x H) :
  s.TypeIs v T/\∀ a,v=.ref a->∃ ob,s.heap.get? a=some ob/\ob.dict=none:=by
 cases x with
 | str z =>
  obtain⟨t,rfl⟩:=r;cases(show T = "str" from ty);exact⟨typeIs_str s z t,λ_ e=>nomatch e⟩
 | int i =>
  obtain⟨t,rfl⟩:=r;cases(show T = "int" from ty);exact⟨typeIs_int s i t,λ_ e=>nomatch e⟩
 | ref p =>
  cases r
  rcases ty with⟨rfl,w,q⟩ | ⟨rfl,o,b,u,g⟩ | ⟨rfl,b⟩ | ⟨rfl,S,n,b⟩
  .obtain⟨l,_,k,_⟩:=I.list q
   refine⟨k.isList.typeIs,λa e=>?_⟩;cases e;obtain⟨o,n,e,c,g,_⟩:=k;exact⟨o,e,g⟩
  .refine⟨⟨o,I.kIn p o b,u⟩,λa e=>?_⟩
   cases e;exact⟨o,I.kIn _ o b,g⟩
  .have z:∃ o,s.heap.get? p=some o/\o.ExactDict:=by
    rcases b with⟨h,b⟩ | ⟨h,b⟩
    .obtain⟨_,_,_,_,o,_,_,e,d,_⟩:=I.hok p _ b
     exact⟨o,e,d⟩
    .obtain⟨_,_,_,_,o,_,_,e,d,_⟩:=I.hok p _ b
     exact⟨o,e,d⟩
   obtain⟨o,e,d⟩:=z;refine⟨⟨o,e,d.1⟩,λa j=>?_⟩;cases j;exact⟨o,e,d.2.1⟩
  .obtain⟨o,_,_,_,e,d,_⟩:=I.hok p _ b
   refine⟨⟨o,e,d.1⟩,λa j=>?_⟩;cases j;exact⟨o,e,d.2.1⟩
 | _=>exact False.elim ty
def Ai(K:Frag)(T:String)(r:V->List V->Hp->VK->Prop)(to:TE):TE:=λσ H Q=>to σ H λx H1=>tyV K T x H1/\r x [] H1 Q
def tBM(K:Frag)(T:String)(r:V->List V->Hp->VK->Prop)(to:TE)(t:TA):TE:=λσ H Q=>to σ H λx H1=>tyV K T x H1/\t σ H1 λxs H2=>r x xs H2 Q
variable {o e:Expr}{es:List Expr}{to:TE}{t:TA}{name:Str}{apos cpos:Pos}{T id:String}{r:V->List V->Hp->VK->Prop}
theorem yx(n:PlainAttrs T)(d:Slot T name id)(f:typeOf (.builtin id)=pure (.type "method_descriptor"))(q:MtR X id r)(k:PE X o to)
  (c:attributeBase o name X.env (eval o X.env)=eval o X.env:=by rfl) (b:(apos.endLine == cpos.line)=true:=by rfl):PE X (.Call (.Attribute o name apos) [] [] cpos) (Ai X.K T r to):=by
 intro a s g H Q I h;refine wpAny_Call_method0_late c b (thn (k a s g H _ I h) λv l ⟨x,p,j,i,u,y⟩=>?_);obtain⟨w,z⟩:=sX j i u;exact⟨T,id,n,d,f,w,z,Calls.callWith_builtin rfl (PySem.evalArgs_none (q a l g p x [] v [] Q j i .nil y))⟩
theorem vD(u:PlainAttrs T)(f:Slot T name id)(i:typeOf (.builtin id)=pure (.type "method_descriptor"))(w:MtR X id r)(B:PE X o to)(K:PA X (e::es) t)
  (c:attributeBase o name X.env (eval o X.env)=eval o X.env:=by rfl)
  (g:((backTo cpos (starEach (e::es) X.env)).all (λx=>!x.1) && (backToKw cpos (keywordEach [] X.env)).all (λx=>x.1.isSome)
   && decide ((e::es).length+([]:List Keyword).length+(if ([]:List Keyword).isEmpty then 0 else 1)<30))=true:=by rfl)
  (d:(apos.endLine == cpos.line)=true:=by rfl) (G:starEach (e::es) X.env=(false,eval e X.env)::starEach es X.env:=by rfl) (b:(backTo cpos (starEach es X.env)).any (·.1)=false:=by rfl) :
  PE X (.Call (.Attribute o name apos) (e::es) [] cpos) (tBM X.K T r to t):=by
 intro a s j H Q I h;refine wpAny_Call_method_late c g d rfl (thn (B a s j H _ I h) λv L ⟨x,M,l,k,D,E⟩=>?_);obtain⟨z,p⟩:=sX l k D;refine⟨T,id,u,f,i,z,p,?_⟩;have n:=K cpos a L j M _ l E;rw[G]at n ⊢;refine Calls.callWith_builtin (by show(false || (backTo cpos (starEach es X.env)).any (·.1))=false;rw[b] <;> rfl) (Calls.evalArgs_plain ?_);exact thn n λC q ⟨y,F,A,P,N⟩=>w a q j F x y v C Q A k P N
end
def MtM(X:Cx)(id:String)(r:V->List V->Hp->VK->Prop):Prop :=
 ∀(pins:List (Addr×Obj)) (s:Shared) (σ:St) (H:Hp) (x:V) (xs:List V) (v:Value) (us:List Value) (Q:VK),Inv X pins σ H s->RelV x v->Vals xs us->r x xs H Q ->
  wpAny (model X.prog X.w) X.A (call (.builtin id) (v::us)) (EP X pins σ Q) X.xe s
theorem Vals.one:∀{x:V}{us:List Value},Vals [x] us->∃ u,us=[u]/\RelV x u
 | _,_,.cons r .nil=>⟨_,rfl,r⟩
theorem Vals.zero:∀{us:List Value},Vals [] us->us=[]
 | _,.nil=>rfl
theorem Vals.dropLast{xs:List V}{us:List Value}(h:Vals xs us):Vals xs.dropLast us.dropLast:=by
 induction h with
 | nil=>exact .nil
 | cons r t ih =>
  cases t with
  | nil=>exact .nil
  | cons q t'=>exact .cons r ih
theorem Vals.rep{xs:List V}{us:List Value}(h:Vals xs us):∀ k:Nat,Vals (List.replicate k xs).flatten (List.replicate k us).flatten
 | 0=>.nil
 | k+1=>by
  rw[replicate_succ,replicate_succ,flatten_cons,flatten_cons];exact Vals.append h (Vals.rep h k)
theorem oZ{c:Type}(l:List c):l.eraseIdx (l.length - 1)=l.dropLast:=by
 induction l with
 | nil=>rfl
 | cons a r ih =>
  cases r with
  | nil=>rfl
  | cons b r =>
   have e:(a::b::r).length - 1=((b::r).length - 1)+1:=by
    have d:(a::b::r).length=r.length+2:=rfl;have f:(b::r).length=r.length+1:=rfl;lia
   rw[e,List.eraseIdx_cons_succ,ih]
   all_goals rfl
theorem jW(its:List Value):∀(k:Nat) (acc:List Value),
  List.foldl (λx1 x2=>x1++x2) acc.toArray (List.replicate k its.toArray)=(acc++(List.replicate k its).flatten).toArray
 | 0,acc=>by simp
 | k+1,acc=>by
  have e:acc.toArray++its.toArray=(acc++its).toArray:=by simp
  have a:(acc++its)++(List.replicate k its).flatten=acc++(List.replicate (k+1) its).flatten:=by
   rw[replicate_succ,flatten_cons,append_assoc]
  rw[<- a,<- jW its k (acc++its),<- e,replicate_succ,foldl_cons]
section
variable {X:Cx}{pins:List (Addr×Obj)}{σ:St}{H:Hp}{s:Shared}{l b:Addr}{xs ys zs:List V}
theorem Inv.lset{its its':List Value}{n:Nat}{f:Array Value->Array Value}{t':Nat}(I:Inv X pins σ H s)(b:H l=some (.lst xs))
  (e:s.heap.get? l=some { cls:=.type "list",data:=.seq its.toArray n }) (c:f its.toArray=its'.toArray) (g:Vals ys its') (hz:ys.length<=sizeLine) :
  Inv X pins σ (upd H l (.lst ys)) { s with heap:=s.heap.update l (Obj.mapSeq f),toks:=t' }:=by
 have q:=PySem.IsL.update e f;rw[c]at q;refine I.write (x:=l) (e:=l) (by rw[b];exact trivial) (.inl rfl) (λh u a d=>(Heap.get?_update_other s.heap (Obj.mapSeq f) (Ne.symm a)).trans d) ⟨_,q⟩ ?_;exact⟨hz,its',_,g,q⟩
theorem Inv.lnew{its:List Value}{t':Nat}(I:Inv X pins σ H s)(a:Vals ys its)(hz:ys.length<=sizeLine) :
  Inv X pins σ (upd H s.heap.objs.size (.lst ys)) { s with heap:=s.heap.push { cls:=.type "list",data:=.seq its.toArray },toks:=t' } :=
 I.laid (λ_ _ q=>Heap.get?_push_of_some _ q) (Nat.le_refl _) ⟨hz,its,0,a,Heap.get?_push_size _ rfl⟩
theorem Inv.fresh(I:Inv X pins σ H s):H s.heap.objs.size=none:=I.hok.fresh (Nat.le_refl _)
theorem Inv.lstM(I:Inv X pins σ H s)(a:H l=some (.lst xs)):xs.length<=sizeLine/\∃(its:List Value) (n:Nat),Vals xs its/\xs.length=its.length/\s.heap.get? l=some { cls:=.type "list",data:=.seq its.toArray n }:=by
 obtain⟨z,its,n,r,e⟩:=I.hok l _ a;exact⟨z,its,n,r,r.length,e⟩
theorem mM{n:Nat}(h:n<=sizeLine):Builtin.List.listTooLong n=false:=by
 unfold Builtin.List.listTooLong;exact decide_eq_false (by lia)
end
section
variable {X:Cx}
inductive rAppend(x:V)(vs:List V)(H:Hp)(Q:VK):Prop
 | mk(l:Addr)(xs:List V)(y:V)(h0:x=.ref l)(h1:vs=[y])(h2:H l=some (.lst xs))(h3:xs.length<sizeLine)(h4:Q .non (upd H l (.lst (xs++[y])))):rAppend x vs H Q
theorem km:MtM X "list.append" rAppend:=by
 intro b s j H x o v k Q I d f h;obtain⟨l,i,y,rfl,rfl,c,w,q⟩:=h;cases d;obtain⟨u,rfl,g⟩:=f.one;obtain⟨z,a,n,r,p,e⟩:=I.lstM c;refine call_meets F.slot_list_append ⟨_,e,rfl⟩ F.entry_list_append (F.args_list_append_2 _ _) (PySem.list_append l a.toArray n u (by rw[size_toArray];lia)) ⟨e,?_⟩;refine⟨.non,_,I.lset (its':=a++[u]) c e (by simp) (r.append (.cons g .nil)) ?_,rfl,q⟩;rw[length_append,length_singleton];lia
def qh:V->List V->Hp->VK->Prop:=λx vs H Q=>∃ l b xs zs,x=.ref l/\vs=[.ref b]/\H l=some (.lst xs)/\H b=some (.lst zs)/\xs.length+zs.length<=sizeLine/\Q .non (upd H l (.lst (xs++zs)))
theorem rZ:MtM X "list.extend" qh:=by
 intro g s L H x E v K Q I p w h;obtain⟨l,b,D,M,rfl,rfl,i,y,G,q⟩:=h;cases p;obtain⟨u,rfl,k⟩:=w.one;cases k;obtain⟨z,c,n,r,N,e⟩:=I.lstM i;obtain⟨C,a,A,B,j,o⟩:=I.lstM y;have f:c.toArray.size+a.toArray.size<=sizeLine:=by rw[size_toArray,size_toArray];lia
 have d:¬(!c.toArray.isEmpty && Builtin.List.listTooLong (c.toArray.size+a.toArray.size))=true:=by
  rw[mM f,Bool.and_false];exact Bool.false_ne_true
 refine call_meets F.slot_list_extend ⟨_,e,rfl⟩ F.entry_list_extend (F.args_list_extend_2 _ _)
  (AutoSeq1.list_extend_list_list_0 l c.toArray n b a.toArray A d (by rw[size_toArray];lia) (by lia)) ⟨e,o,?_⟩
 refine⟨.non,_,I.lset (its':=c++a) i e (by simp) (r.append B) ?_,rfl,q⟩;rw[length_append];lia
def At:V->List V->Hp->VK->Prop:=λx vs H Q=>∃ l xs y,x=.ref l/\vs=[]/\H l=some (.lst xs)/\xs[xs.length - 1]? = some y/\Q y (upd H l (.lst xs.dropLast))
theorem yP:MtM X "list.pop" At:=by
 intro d s A H x C v B Q I g i h;obtain⟨l,w,y,rfl,rfl,f,k,q⟩:=h;cases g;have b:=i.zero;subst b;obtain⟨z,a,n,r,o,e⟩:=I.lstM f;obtain⟨u,j,p⟩:=r.get k
 have c:a.toArray[a.toArray.size - 1]? = some u:=by
  show a.toArray[a.length - 1]? = some u;rw[<- Array.getElem?_toList,<- o];exact j
 refine call_meets F.slot_list_pop ⟨_,e,rfl⟩ F.entry_list_pop (F.args_list_pop_1 _) (MeetsSeq.list_pop_last l a.toArray n u c (by rw[size_toArray];lia)) ⟨e,?_⟩;refine⟨y,_,I.lset (its':=a.dropLast) f e ?_ r.dropLast ?_,p,q⟩
 .show a.toArray.eraseIdxIfInBounds (a.toArray.size - 1)=a.dropLast.toArray
  rw[size_toArray,List.eraseIdxIfInBounds_toArray,oZ]
 .rw[List.length_dropLast]
  lia
inductive rCat(x y:V)(H:Hp)(Q:VK):Prop
 | mk(l b:Addr)(xs zs:List V)(h0:x=.ref l)(h1:y=.ref b)(h2:H l=some (.lst xs))(h3:H b=some (.lst zs))(h4:xs.length+zs.length<=sizeLine)(h5:∀ p,H p=none->Q (.ref p) (upd H p (.lst (xs++zs)))):rCat x y H Q
theorem fe:OpR X (binaryOp .Add) rCat:=by
 intro d s B H x y v u Q I f p h;obtain⟨l,b,A,C,rfl,rfl,j,o,G,q⟩:=h;cases f;cases p;obtain⟨z,c,n,r,D,e⟩:=I.lstM j;obtain⟨E,a,F,w,g,i⟩:=I.lstM o;refine PySem.P.add_list e i ?_ (by rw[size_toArray,size_toArray];lia);have k:c.toArray++a.toArray=(c++a).toArray:=by simp
 rw[k];exact⟨.ref _,_,I.lnew (t':=s.toks) (r.append w) (by rw[length_append];lia),rfl,q _ I.fresh⟩
def Bh:R2:=λx y H Q=>∃ l k xs,x=.ref l/\y=.int k/\H l=some (.lst xs)/\-(2 ^ 63)<=k/\k<2 ^ 63/\xs.length*k.toNat<=sizeLine /\
 ∀ p,H p=none->Q (.ref p) (upd H p (.lst (List.replicate k.toNat xs).flatten))
theorem vW{a:Type}(xs:List a)(k:Nat):(List.replicate k xs).flatten.length=k*xs.length:=by
 induction k with
 | zero=>simp
 | succ k ih=>rw[replicate_succ,flatten_cons,length_append,ih,Nat.succ_mul,Nat.add_comm]
theorem zi:OpR X (binaryOp .Mult) Bh:=by
 intro p s N H x y v u Q I K E h;obtain⟨l,k,M,rfl,rfl,G,D,B,w,q⟩:=h;cases K;obtain⟨t,rfl⟩:=E;obtain⟨z,b,n,r,L,e⟩:=I.lstM G;have f:b.toArray.size*k.toNat<=sizeLine:=by rw[size_toArray,<- L];exact w
 have d:¬b.toArray.size*k.toNat > (2 ^ 63 - 1)/8:=by
  have:(sizeLine:Nat)<=(2 ^ 63 - 1)/8:=by decide
  lia
 have i:¬(!Builtin.List.listFitsIndex k)=true:=by
  rw[fitsIndex_both D B];exact Bool.false_ne_true
 have c:¬Builtin.List.listTooLong (b.toArray.size*k.toNat)=true:=by
  rw[mM f];exact Bool.false_ne_true
 have g:List.foldl (λj o=>j++o) #[] (List.replicate (if b.toArray.isEmpty=true then 0 else k.toNat) b.toArray)=(List.replicate k.toNat b).flatten.toArray:=by
  have C:∀ m:Nat,List.foldl (λj o=>j++o) #[] (List.replicate m b.toArray)=(List.replicate m b).flatten.toArray:=λm=>by
   have:=jW b m [];rw[nil_append]at this;exact this
  rw[C];cases b with
  | nil=>simp
  | cons a r'=>rw[if_neg (by simp)]
 refine wpAny_binaryOp_repeat_ref (T := "list") (U := "int") (by decide) ⟨_,e,rfl⟩ (λA=>typeIs_int A k t) noFill_list_mul F.fills_int_mul F.slot_int_rmul repeat_list F.slot_int_index.lookup
  (call_meets F.slot_int_rmul (typeIs_int s k t) F.entry_int_rmul (F.args_int_rmul_2 _ _) (int___rmul___int_list k t l b.toArray n)
   ⟨e,rfl,⟨_,e,rfl⟩,call_meets F.slot_list_mul ⟨_,e,rfl⟩ F.entry_list_mul (F.args_list_mul_2 _ _) (AutoListH.list___mul___list_int_3 l b.toArray n k t i d c) ⟨e,?_⟩⟩)
 rw[g];exact⟨.ref _,_,I.lnew (t':=s.toks) (r.rep k.toNat) (by rw[vW,Nat.mul_comm];exact w),rfl,q _ I.fresh⟩
end
section
variable {prog:Program}{w:World}{A:Around}{E:Value->Shared->Prop}{s:Shared}
set_option maxRecDepth 100000 in
end
section
variable {X:Cx}
end
end L2
namespace Att
open PySem PySem.W PySem.Calls PyProof.Rows
theorem iq{P:Params}{h:Heap}:∀(ns:List Int) (vs:List Value),WellAll P h vs (ns.map WData.int)->IntsAre vs ns:=by
 intro ns
 induction ns with
 | nil =>
  intro vs w;rw[map_nil]at w;cases w;exact .nil
 | cons n ns ih =>
  intro vs w;rw[map_cons]at w;cases w with
  | cons a b =>
   cases a;exact .cons _ _ (ih _ b)
theorem rW{l:OpenLaw}{n:Nat}(s:l.most=some n){P:Params}{h:Heap}{args:List WData}{c:List Value}
  (b:l.row.toRowW.claim.pre args=true) (j:WellAll P h c args) :
  ∃ a vs ns,c=[Value.ref a]/\args=[WData.list (ns.map WData.int)]/\h.get? a=some { cls:=.type "list",data:=.seq vs.toArray }/\IntsAre vs ns/\ns.length<=n:=by
 have k:WShape.hasAll [] args [.list .int]=true:=(pre_splitW b).1;have o:l.pre.holds [] { args:=args }=true:=(pre_splitW b).2;obtain⟨d,r,rfl,v,w⟩:=hasAllW_cons k;obtain rfl:=hasAllW_nil w;obtain⟨x,rfl,p⟩:=hasW_list v;obtain⟨ns,rfl⟩:=items_int p
 have f:ns.length<=n:=by
  unfold OpenLaw.pre at o
  have i:(WTm.not (.lt (.lit (.int (n:Int))) (.len (.arg 0)))).holds [] { args:=[.list (ns.map .int)] }=true:=by
   have i:=(holds_andW o).1;rw[s]at i;exact i
  have g:=condW_of i (w_not (w_lt w_lit (w_len_list (w_arg rfl))));rw[length_map]at g;refine Nat.le_of_not_lt λq=>?_
  have u:(n:Int)<((ns.length:Nat):Int):=by lia
  first
   | (rw[decide_eq_true u]at g;exact absurd g (by decide))
   | (simp at g;lia)
 cases j with
 | cons w1 w2 =>
  cases w2;cases w1 with
  | list ho hall=>exact⟨_,_,ns,rfl,rfl,ho,iq ns _ hall,f⟩
theorem sH(l:OpenLaw)(args:List WData):l.row.toRowW.claim.post args (.bool true) args=true :=
 postW_of (r:=l.row.toRowW) (X:=(true == true))
  (show WShape.has [] (.bool true) .bool=true by first | rfl | decide | simp[WShape.has,WShape.arms,WShape.armsAll])
  (show(WTm.eq .res (.lit (.bool true))).value [] { args:=args,res:=some (.bool true),after:=args }=some (.bool (true == true)) from w_eq_bool (w_res rfl) w_lit) rfl
theorem attach_call{l:OpenLaw}{n:Nat}{q:Program}{b:List Str}{v:(Str->Option Value)->Heap->Prop}{x:World->Heap->Prop}{d:DefRec}
  (P:l.most=some n) (s:d.params.defaults=[])
  (j:∀(w:World) (s₀ s₁:Shared) (mg mb:Str->Option Value) (fa:Addr) (o:Obj) (pm cd doc:Value) (a:Addr) (vs:List Value) (ns:List Int),
   Ground q b [] v w s₀ mg mb s₁.heap->x w s₁.heap ->
   s₁.heap.get? fa=some o->o.data=.func (docDef d.name d.params d.body d.scope pm cd doc)->s₁.heap.CodeRec cd d.name->mg d.name=some (.ref fa) ->
   s₁.heap.get? a=some { cls:=.type "list",data:=.seq vs.toArray }->IntsAre vs ns->ns.length<=n->s₁.gens = #[] ->
   codeAny (model l.prog w) callerA (.call (.ref fa) ⟨[.ref a],[]⟩) (λr s'=>r=.ok (.ret (.bool true))/\OldK s₁.heap s'.heap/\s'.os=s₁.os/\AllBare s'.gens) s₁) :
  WalkO q b v x l.row.toRowW d [] (λf vs=>PySem.call f vs):=by
 intro w s₀ s₁ mg mb G Y fa o pm cd doc D Q K C u y p F A B R i z M k N;obtain rfl:D=.none:=Dflts.none y s;obtain rfl:Q=.none:=Dflts.noKw y;obtain⟨a,vs,ns,rfl,rfl,g,c,h⟩:=rW P i k;refine enter_call (codeAny_mono (j w s₀ s₁ mg mb fa o pm cd doc a vs ns G Y K (fd_plain C) u p g c h F) λr s' I=>?_);obtain⟨rfl,H,L,E⟩:=I;exact⟨.inl ⟨.bool true,.bool true,[],rfl,λ_=>rfl,.bool true,sH l _,λ_=>⟨List.Pairwise.nil,λ_ hm=>(nomatch hm)⟩⟩,H,L,E⟩
section
variable {prog:Program}{w:World}{A:Around}{E:Value->Shared->Prop}{s:Shared}{K:Frag}
end
end Att
namespace L2
open PySem PySem.Spec PyProof.Rows
theorem j9:∀{vs:List Value}{ns:List Int},IntsAre vs ns->Vals (ns.map V.int) vs
 | _,_,.nil=>.nil
 | _,_,.cons n t h=>.cons ⟨t,rfl⟩ (j9 h)
abbrev KOf{K:Frag}{h:Heap}(_:K.In h):Frag:=K
def bX(s:Stmt)(j:Nat):Stmt:=match s with
 | .ClassDef _ _ _ body _ _ _ _ _ _ _=>body.getD j (.Pass ⟨0,0,0,0⟩)
 | _=>.Pass ⟨0,0,0,0⟩
def aj(s:Stmt):Arguments:=match s with
 | .FunctionDef _ a _ _ _ _ _ _ _ _=>a
 | _=>{ posonlyargs:=[],args:=[],vararg:=none,kwonlyargs:=[],kw_defaults:=[],kwarg:=none,defaults:=[] }
def ah(s:Stmt):List Stmt:=match s with
 | .FunctionDef _ _ b _ _ _ _ _ _ _=>b
 | _=>[]
def ad(s:Stmt):Scope:=match s with
 | .FunctionDef _ _ _ _ _ _ sc _ _ _=>sc
 | _=>{ kind:=.function,names:=[],isGenerator:=false,isCoroutine:=false }
abbrev CX0:CXT:=λ_ _ _ _ _ _=>False
abbrev E0:XK:=λ_ _ _=>False
theorem ar{X:Cx}:fk CX0 X E0:=λ_ _ _ _ _ _ _ h=>h.elim
structure Fun(K:Frag)(x qual:Str)(st:Stmt)(f:Addr)(fd:FuncData):Prop where
 ex:∃(oc:Value) (od:Option Addr) (kV doc pm:Value) (an:Option Addr) (cdv ct:Value) (osl:Array (Option Value)),
  fd=fnOf x qual (aj st) (ah st) (ad st) .none kV doc pm an cdv ct/\K.lookup f=some ⟨oc,od,.func fd,osl⟩/\codeIn K cdv qual=true
 kp:keepIn K (.ref f)=true
section
variable {P:Program}{w:World}{K:Frag}{mg:Str->Option Value}{base:Heap}
theorem Fun.ok{x a:Str}{st:Stmt}{f:Addr}{i:FuncData}{N ps:List Str}{k:Nat}{sp:Sp}(F:Fun K x a st f i)(S:FnScope N ps (ad st))(c:∀ vs H Q E,sp vs H Q E->vs.length=ps.length)
  (b:∀(cdv:Value) (A:Around) (outer:List Env) (s:Shared) (H:Hp) (vs:List V) (Q:VK) (E:XK),Room k (A.deeper (envOfC a (ad st) s.heap.objs.size f cdv))->sp vs H Q E ->
   ∃ t,PSs (iY CX0 P w K mg base N a (ad st) f cdv A outer s H E).nox (ah st) t/\t { nx:=λ_ H'=>Q .non H',rt:=Q } (start N vs) H):FnOk P w K mg base CX0 (k+1) f i ps sp:=by
 obtain⟨r,u,y,o,z,p,cdv,v,l,rfl,n,g⟩:=F.ex;refine tK n g S c λA outer s H vs Q E j d=>?_
 obtain⟨t,h,q⟩:=b cdv A outer s H vs Q E j d;exact⟨t,h.nox,q⟩
theorem Fun.binds{x a:Str}{st:Stmt}{f:Addr}{b:FuncData}{ps:List Str}(F:Fun K x a st f b)
  (h:∀(kV doc pm:Value) (an:Option Addr) (cdv ct:Value) (us:List Value),us.length=ps.length->bindArgs (fnOf x a (aj st) (ah st) (ad st) .none kV doc pm an cdv ct) ⟨us,[]⟩=pure (ps.zip us)):Binds K b ps []:=by
 obtain⟨g,i,kV,doc,pm,an,cdv,ct,c,rfl,j,d⟩:=F.ex;exact .all (h kV doc pm an cdv ct)
theorem ao{x a:Str}{st:Stmt}{f:Addr}{o:Value}{od h:Option Addr}{g:Array (Option Value)}{j d n b i:Value}(l:K.lookup f=some ⟨o,od,.func (fnOf x a (aj st) (ah st) (ad st) .none j d n h b i),g⟩)
  (c:codeIn K b a=true) (k:keepIn K (.ref f)=true):Fun K x a st f (fnOf x a (aj st) (ah st) (ad st) .none j d n h b i):=⟨⟨o,od,j,d,n,h,b,i,g,rfl,l,c⟩,k⟩
end
theorem n8{A:Around}{k:Nat}(a:Room k A):A.units+1<cLine:=Nat.lt_of_le_of_lt (Nat.add_le_add_left (by decide:1<=64) _) a.units
section
variable {X:Cx}
end
theorem Bp{c A B:Prop}[Decidable c](a:c->A)(h2:¬c->B):if c then A else B:=by
 by_cases h:c
 .rw[if_pos h]
  exact a h
 .rw[if_neg h]
  exact h2 h
def Same(H H':Hp):Prop:=∀ b o,H b=some o->H' b=some o
theorem Same.refl(H:Hp):Same H H:=λ_ _ h=>h
theorem Same.trans{H f d:Hp}(a:Same H f)(b:Same f d):Same H d:=λc o h=>b c o (a c o h)
theorem Same.free{H H':Hp}(e:Same H H'){l:Addr}(h:H' l=Option.none):H l=Option.none:=by
 cases q:H l with
 | none=>rfl
 | some o =>
  rw[e l o q]at h;cases h
end L2
set_option maxHeartbeats 4000000
namespace L2
open PySem PySem.Spec PyProof.Rows
def Its(x:Str):It:=⟨λi _=>i<x.cps.size,λi H y H'=>H'=H/\∃ c,x.cps[i]? = some c/\y=.str ⟨#[c]⟩,λi _=>x.cps.size<=i⟩
theorem mP{P:Program}{w:World}{K:Frag}{tg:Expr}(x:Str)(q:Addr){ty:String}{t:Tok}(n:ty = "str_ascii_iterator" \/ ty = "str_iterator") :
  Turn P w K tg (Its x) [q] q (λi h=>h.IsStrIter q ty x t i) where
 mem:=by simp
 obj:=λi h f b a=>by
  have e:b=q:=by simpa using a
  subst e;obtain⟨o,e,c,d⟩:=f;exact⟨o,e,λv z=>by rw[d]at z;cases z⟩
 keep:=λi h l f k=>by
  obtain⟨o,e,r⟩:=f;exact⟨o,k q (by simp) o e,r⟩
 item:=by
  intro X N F W M i j s T H E I C f G;subst N F W;have p:i<x.cps.size:=G;obtain⟨y,A,Y,D,u,B⟩:=C q (by simp)
  rcases n with rfl | rfl
  .refine wpAny_pyNext_ascii_item f (c:=x.cps[i]) (by simp[p]) λl g Q=>?_
   have L:Inv X j T H { s with heap:=l,toks:=s.toks+1 }:=I.turned (λb o a e=>(Q.2 b a).trans e) y A D u B;obtain⟨o,e,c,d⟩:=id g;exact⟨_,rfl,mW (s:={ s with heap:=l,toks:=s.toks+1 }) e c d (by decide) ⟨.str ⟨#[x.cps[i]]⟩,H,L,⟨_,rfl⟩,⟨rfl,x.cps[i],by simp[p],rfl⟩,g,λb a=>(C b a).1⟩⟩
  .refine wpAny_pyNext_wide_item f (c:=x.cps[i]) (by simp[p]) λl g Q=>?_
   have L:Inv X j T H { s with heap:=l,toks:=s.toks+1 }:=I.turned (λb o a e=>(Q.2 b a).trans e) y A D u B;obtain⟨o,e,c,d⟩:=id g;exact⟨_,rfl,mW (s:={ s with heap:=l,toks:=s.toks+1 }) e c d (by decide) ⟨.str ⟨#[x.cps[i]]⟩,H,L,⟨_,rfl⟩,⟨rfl,x.cps[i],by simp[p],rfl⟩,g,λb a=>(C b a).1⟩⟩
 done:=by
  intro X N F W M i j s T H E I C f G;subst N F W;have p:x.cps.size<=i:=G;obtain⟨y,A,Y,D,u,B⟩:=C q (by simp)
  rcases n with rfl | rfl
  .exact wpAny_pyNext_ascii_end (I.ok.hd M) f (by simp[p]) λl R=>⟨rfl,I.turned (t':=s.toks) (λb o a e=>R b o a e) y A D u B⟩
  .exact wpAny_pyNext_wide_end (I.ok.hd M) f (by simp[p]) λl R=>⟨rfl,I.turned (t':=s.toks) (λb o a e=>R b o a e) y A D u B⟩
 self:=λ_ _ _ _ _ f h=>by
  rcases n with rfl | rfl
  .exact wpAny_pyIter_striter_ascii f h
  .exact wpAny_pyIter_striter_wide f h
def By(tl:TE):TI:=λσ H R=>tl σ H λx H1=>∃ z,x=.str z/\R (Its z) H1
theorem y2{X:Cx}{tg l:Expr}{tl:TE}(j:PE X l tl):PI X tg l (By tl):=by
 intro a s f H R I h;refine thn (j a s f H _ I h) λv c ⟨x,g,d,i,k⟩=>?_
 obtain⟨z,e,q⟩:=k;subst e;obtain⟨t,rfl⟩:=i;refine wpAny_pyIter_strU ?_;refine⟨c.heap.objs.size,[c.heap.objs.size],_,_,g,rfl,d.kept (t':=c.toks) λb o e=>Heap.get?_push_of_some _ e,mP (ty:=strIterType z) (t:=t) z _ ?_,⟨_,Heap.get?_push_size _ rfl,rfl,rfl⟩,λb hb=>?_,q⟩
 .unfold strIterType
  split
  .exact .inl rfl
  .exact .inr rfl
 .have e:b=c.heap.objs.size:=by simpa using hb
  subst e;exact d.fpOk (Nat.le_refl _) (d.hok.fresh (Nat.le_refl _))
def Wk:St->St->Prop
 | [],[]=>True
 | Option.none::r,_::q=>Wk r q
 | some a::r,b::q=>b=some a/\Wk r q
 | _,_=>False
theorem Wk.len:∀{a b:St},Wk a b->a.length=b.length
 | [],[],_=>rfl
 | Option.none::r,_::q,h=>congrArg (· + 1) (Wk.len (a:=r) (b:=q) h)
 | some _::r,_::q,h=>congrArg (· + 1) (Wk.len (a:=r) (b:=q) h.2)
 | [],_::_,h=>h.elim
 | Option.none::_,[],h=>h.elim
 | some _::_,[],h=>h.elim
theorem Wk.get:∀{a b:St},Wk a b->∀(i:Nat) v,a[i]? = some (some v)->b[i]? = some (some v)
 | [],[],_,i,v,e=>by simp at e
 | Option.none::r,y::q,h,0,v,e=>by simp at e
 | Option.none::r,y::q,h,i+1,v,e=>by simpa using Wk.get (a:=r) (b:=q) h i v (by simpa using e)
 | some x::r,y::q,h,0,v,e=>by
  have c:x=v:=by simpa using e
  rw[h.1,c] <;> simp
 | some x::r,y::q,h,i+1,v,e=>by simpa using Wk.get (a:=r) (b:=q) h.2 i v (by simpa using e)
 | [],_::_,h,_,_,_=>h.elim
 | Option.none::_,[],h,_,_,_=>h.elim
 | some _::_,[],h,_,_,_=>h.elim
def dQ(cells:List (Str×Addr)):List (Str×NameKind)->List (Str×Addr)->List (Str×Addr)
 | [],acc=>acc
 | (n,k)::r,acc=>if k == .free then dQ cells r ((n,(cells.lookup n).getD 0)::acc) else dQ cells r acc
theorem eP{d:Scope}{env:Env}(h:∀ y∈d.names,y.2=.free->∃ c,env.cells.lookup y.1=some c):closureFor d env=pure (dQ env.cells d.names []):=by
 unfold closureFor
 have f:∀(l:List (Str×NameKind)) (b:List (Str×Addr)),(∀ y∈l,y.2=.free->∃ c,env.cells.lookup y.1=some c) ->
   (forIn l b λx r=>match x with | (name,kind)=>if (kind == .free)=true then do let a <- cellOf env name;pure (ForInStep.yield ((name,a)::r)) else pure (ForInStep.yield r):Sem (List (Str×Addr)))=pure (dQ env.cells l b):=by
  intro l
  induction l with
  | nil=>intro b _;rfl
  | cons y r ih =>
   intro b p;obtain⟨n,k⟩:=y;have i:∀ y∈r,y.2=.free->∃ c,env.cells.lookup y.1=some c:=λy s=>p y (mem_cons_of_mem _ s)
   rw[forIn_cons]
   by_cases hk:k=.free
   .subst hk
    obtain⟨c,j⟩:=p (n,.free) mem_cons_self rfl;have q:cellOf env n=pure c:=by unfold cellOf;rw[j]
    have g:dQ env.cells ((n,.free)::r) b=dQ env.cells r ((n,c)::b):=by
     show(if (NameKind.free == NameKind.free)=true then dQ env.cells r ((n,(env.cells.lookup n).getD 0)::b) else dQ env.cells r b)=_;rw[if_pos (by decide),j];rfl
    rw[g,<- ih ((n,c)::b) i];show(do let x <- (if (NameKind.free == NameKind.free)=true then do let a <- cellOf env n;pure (ForInStep.yield ((n,a)::b)) else pure (ForInStep.yield b):Sem _);_)=_;rw[if_pos (by decide),q];rfl
   .have o:(k == NameKind.free)=false:=by simpa using hk
    have g:dQ env.cells ((n,k)::r) b=dQ env.cells r b:=by
     show(if (k == NameKind.free)=true then dQ env.cells r ((n,(env.cells.lookup n).getD 0)::b) else dQ env.cells r b)=_;rw[o];rfl
    rw[g,<- ih b i];show(do let x <- (if (k == NameKind.free)=true then do let a <- cellOf env n;pure (ForInStep.yield ((n,a)::b)) else pure (ForInStep.yield b):Sem _);_)=_;rw[o];rfl
 have:=f d.names [] h
 first | exact this | (rw[this];rfl) | simpa using this
theorem dY{a:List (Str×Addr)}:∀{l:List (Str×NameKind)}{acc:List (Str×Addr)}{n:Str}{c:Addr},(∀ y∈l,y.2=.free->∃ c,a.lookup y.1=some c)->(∀ n c,acc.lookup n=some c->a.lookup n=some c) ->
  (dQ a l acc).lookup n=some c->a.lookup n=some c
 | [],acc,n,c,_,ha,e=>ha n c e
 | (m,k)::r,acc,n,c,hl,ha,e=>by
  have h:∀ y∈r,y.2=.free->∃ c,a.lookup y.1=some c:=λy j=>hl y (mem_cons_of_mem _ j)
  have b:(if (k == NameKind.free)=true then dQ a r ((m,(a.lookup m).getD 0)::acc) else dQ a r acc).lookup n=some c:=e
  by_cases hk:(k == NameKind.free)=true
  .rw[if_pos hk]at b
   refine dY h (λn c z=>?_) b;obtain⟨d,i⟩:=hl (m,k) mem_cons_self (by simpa using hk);rw[lookup_cons]at z
   by_cases hn:(n == m)=true
   .rw[hn]at z
    have:n=m:=by simpa using hn
    subst this;have g:a.lookup n=some d:=i;rw[g]at z ⊢;simpa using z
   .have f:(n == m)=false:=by simpa using hn
    rw[f]at z;exact ha n c z
  .rw[if_neg hk]at b
   exact dY h ha b
theorem fA{b:List (Str×Addr)}:∀{l:List (Str×NameKind)}{acc:List (Str×Addr)}{n:Str},((n,NameKind.free)∈l\/∃ c,acc.lookup n=some c)->∃ c,(dQ b l acc).lookup n=some c
 | [],acc,n,h=>by
  rcases h with h | h
  .cases h
  .exact h
 | (m,k)::r,acc,n,h=>by
  show ∃ c,(if (k == NameKind.free)=true then dQ b r ((m,(b.lookup m).getD 0)::acc) else dQ b r acc).lookup n=some c
  have d:∀ a,n=m\/(∃ c,acc.lookup n=some c)->∃ c,((m,a)::acc).lookup n=some c:=λa z=>by
   rw[lookup_cons]
   by_cases hn:(n == m)=true
   .rw[hn];exact⟨_,rfl⟩
   .have f:(n == m)=false:=by simpa using hn
    rw[f]
    rcases z with z | z
    .exact absurd (by simpa using z) hn
    .exact z
  by_cases hk:(k == NameKind.free)=true
  .rw[if_pos hk]
   refine fA ?_
   rcases h with h | h
   .rcases mem_cons.mp h with e | h
    .exact .inr (d _ (.inl (congrArg Prod.fst e)))
    .exact .inl h
   .exact .inr (d _ (.inr h))
  .rw[if_neg hk]
   refine fA ?_
   rcases h with h | h
   .rcases mem_cons.mp h with e | h
    .have:k=.free:=(congrArg Prod.snd e).symm
     rw[this]at hk;exact absurd (by decide) hk
    .exact .inl h
   .exact .inr h
def rlb(env:Env)(p:Str×NameKind):Str×NameKind:=if (p.2 == NameKind.free && env.scope.kind == ScopeKind.function && env.kindOf p.1 == some NameKind.cell)=true then (p.1,NameKind.cell) else p
theorem jR(a:Scope)(env:Env):(relabel a env).names=a.names.map (rlb env):=rfl
theorem xo(env:Env)(p:Str×NameKind):(rlb env p).1=p.1:=by
 unfold rlb
 split <;> rfl
theorem ut{env:Env}{p:Str×NameKind}(h:p.2≠.cell)(h2:(rlb env p).2=.cell\/(rlb env p).2=.free):p.2=.free:=by
 unfold rlb at h2
 split at h2
 .rename_i q
  rw[Bool.and_eq_true,Bool.and_eq_true]at q;simpa using q.1.1
 .rcases h2 with h2 | h2
  .exact absurd h2 h
  .exact h2
theorem fM{env:Env}:∀{names:List (Str×NameKind)}{x:Str}{k:NameKind},(∀ y∈names,y.2≠.cell)->(k=.cell\/k=.free)->(names.map (rlb env)).lookup x=some k->(x,NameKind.free)∈names
 | [],x,k,_,_,e=>by simp at e
 | p::r,x,k,hc,hk,e=>by
  have b:∀ y∈r,y.2≠.cell:=λy f=>hc y (mem_cons_of_mem _ f)
  have c:rlb env p=(p.1,(rlb env p).2):=by rw[<- xo env p]
  rw[map_cons,c,lookup_cons]at e
  by_cases hx:x=p.1
  .have a:(x == p.1)=true:=by simpa using hx
   rw[a]at e;have g:(rlb env p).2=k:=Option.some.inj e;have d:=ut (env:=env) (hc p mem_cons_self) (by rw[g];exact hk);have:(x,NameKind.free)=p:=by rw[hx,<- d]
   rw[this];exact mem_cons_self
  .have a:(x == p.1)=false:=by simpa using hx
   rw[a]at e;exact mem_cons_of_mem _ (fM b hk e)
theorem eN{env:Env}{a:Scope}{x:Str}{k:NameKind}(b:∀ y∈a.names,y.2≠.cell)(c:k=.cell\/k=.free)(e:(relabel a env).names.lookup x=some k):(x,NameKind.free)∈a.names :=
 fM (env:=env) b c (by rw[<- jR];exact e)
def rg(ix:List (Option Nat))(σ:St):St:=ix.map λo=>o.bind λi=>(σ[i]?).join
def FreeOk(XN:List Str)(env:Env)(sc:Scope):List Str->List (Option Nat)->Prop
 | [],[]=>True
 | _::N,Option.none::ix=>FreeOk XN env sc N ix
 | y::N,some i::ix=>XN[i]? = some y/\env.kindOf y=some .cell/\(relabel sc env).names.lookup y=some .cell/\FreeOk XN env sc N ix
 | _,_=>False
theorem FreeOk.len{a:List Str}{env:Env}{b:Scope}:∀{N:List Str}{ix:List (Option Nat)},FreeOk a env b N ix->ix.length=N.length
 | [],[],_=>rfl
 | _::N,Option.none::ix,h=>congrArg (· + 1) (FreeOk.len (N:=N) (ix:=ix) h)
 | _::N,some _::ix,h=>congrArg (· + 1) (FreeOk.len (N:=N) (ix:=ix) h.2.2.2)
 | [],_::_,h=>h.elim
 | _::_,[],h=>h.elim
theorem FreeOk.get{b:List Str}{env:Env}{c:Scope}:∀{N:List Str}{ix:List (Option Nat)},FreeOk b env c N ix->∀(j:Nat) (y:Str) (i:Nat),N[j]? = some y->ix[j]? = some (some i) ->
  b[i]? = some y/\env.kindOf y=some .cell/\(relabel c env).names.lookup y=some .cell
 | [],[],_,j,y,i,e,_=>by simp at e
 | _::N,Option.none::ix,h,0,y,i,e,e2=>by simp at e2
 | _::N,Option.none::ix,h,j+1,y,i,e,e2=>FreeOk.get (N:=N) (ix:=ix) h j y i (by simpa using e) (by simpa using e2)
 | z::N,some k::ix,h,0,y,i,e,e2=>by
  have d:z=y:=by simpa using e
  have a:k=i:=by simpa using e2
  subst d;subst a;exact⟨h.1,h.2.1,h.2.2.1⟩
 | _::N,some _::ix,h,j+1,y,i,e,e2=>FreeOk.get (N:=N) (ix:=ix) h.2.2.2 j y i (by simpa using e) (by simpa using e2)
 | [],_::_,h,_,_,_,_,_=>h.elim
 | _::_,[],h,_,_,_,_,_=>h.elim
def cxB(X:Cx)(sc:Scope)(C:Addr)(N:List Str)(s₀:Shared)(H₀:Hp)(fp:List Addr):Cx :=
 { X with N:=N,s₀:=s₀,H₀:=H₀,env:=compEnvC sc (dQ X.env.cells sc.names []) C X.env,outer:=X.stack,ex:=fp,fn:=λ_=>false,pn:=[],xe:=λ_ _=>False }
structure CompOk(X:Cx)(sc:Scope)(N:List Str)(ix:List (Option Nat)):Prop where
 kind:sc.kind=.function
 nocell:(sc.names.all λy=>y.2 != .cell)=true
 names:(sc.names.all λy=>y.2 != .local || sc.names.lookup y.1 == some .local) = true
 free:(sc.names.all λy=>y.2 != .free || X.env.scope.names.lookup y.1 == some .cell)=true
 fr:FreeOk X.N X.env sc N ix
section
variable {X:Cx}{sc:Scope}{N:List Str}{ix:List (Option Nat)}{pins:List (Addr×Obj)}{σ:St}{H:Hp}{s:Shared}
theorem CompOk.cells(c:CompOk X sc N ix)(d:X.Ok):∀ y∈sc.names,y.2=.free->∃ c,X.env.cells.lookup y.1=some c:=λy b e=>by
 have h:=all_eq_true.mp c.free y b;rw[e]at h;have a:X.env.scope.names.lookup y.1=some .cell:=by simpa using h
 exact d.has y.1 (.inl a)
theorem CompOk.nc(c:CompOk X sc N ix):∀ y∈sc.names,y.2≠.cell:=λy a=>by simpa using all_eq_true.mp c.nocell y a
theorem CompOk.nm(c:CompOk X sc N ix):∀ y ∈ sc.names,y.2 = .local->sc.names.lookup y.1 = some .local:=λy a e=>by
 have h:=all_eq_true.mp c.names y a;rw[e]at h;simpa using h
theorem ri{C:Addr}{F:List Addr}{h₁:Heap}{t':Nat}(c:CompOk X sc N ix)(I:Inv X pins σ H s)(B:∀ b∈F,fR X pins H b)(D:∀ b∈F,b<s.heap.objs.size)(E:s.heap.objs.size<=C)
  (W:h₁.Ns C (λ_=>none)) (f:∀ b o,s.heap.get? b=some o->h₁.get? b=some o):Inv (cxB X sc C N s H F) [] (rg ix σ) H { s with heap:=h₁,toks:=t' }:=by
 have g:=c.cells I.ok;have a:∀ n c,(dQ X.env.cells sc.names []).lookup n=some c->X.env.cells.lookup n=some c:=λn c e=>dY g (λn c z=>by simp at z) e
 refine⟨⟨I.ok.mod,c.kind,I.ok.glob,I.ok.blt,E,λx y d Q M=>I.ok.inj x y d (a x d Q) (a y d M),λx hx=>?_,λx d z=>absurd z (by simp[cxB]),I.ok.hd,I.ok.frames,.inl rfl,λb hb=>⟨?_,λx d e=>?_⟩,I.bs,Nat.le_trans I.ok.bsz I.sz,λb o e hb=>?_,λb hb hs=>?_,I.stack,I.stkFree⟩,
  rfl,I.bare,Un.kept f,⟨_,W,λj y v Y A e3=>?_⟩,λx d e=>?_,I.hok.fresh E,λx d e=>I.freeC x d (a x d e),λp hp=>absurd (show p∈([]:List (Addr×Obj)) from hp) (by simp),I.hok.kept f,?_⟩
 .refine fA (.inl ?_)
  rcases hx with hx | hx
  .exact eN c.nc (.inl rfl) (show(relabel sc X.env).names.lookup x=some .cell from hx)
  .exact eN c.nc (.inr rfl) (show(relabel sc X.env).names.lookup x=some .free from hx)
 .exact Nat.ne_of_lt (Nat.lt_of_lt_of_le (D b hb) E)
 .exact(B b hb).2.2.2.2.1 x d (a x d e)
 .rcases(B b hb).2.2.2.1 with z | z
  .exact I.ok.noex b o e z
  .exact absurd (Nat.lt_of_lt_of_le (Heap.lt_size e) (Nat.le_trans I.ok.bsz z)) (Nat.lt_irrefl _)
 .rcases mem_cons.mp (I.stkSub b hs) with z | z
  .exact(B b hb).2.1 z
  .exact(B b hb).2.2.1 z
 .have R:∃ i,ix[j]? = some (some i)/\σ[i]? = some (some v):=by
   unfold rg at A;rw[List.getElem?_map]at A;cases q:ix[j]? with
   | none=>rw[q]at A;cases A
   | some o =>
    rw[q]at A;cases o with
    | none=>cases A
    | some i =>
     refine⟨i,rfl,?_⟩;have h:(σ[i]?).join=some v:=Option.some.inj A;cases q2:σ[i]? with
     | none=>rw[q2]at h;cases h
     | some w=>rw[q2]at h;exact congrArg some h
  obtain⟨i,P,hv⟩:=R;obtain⟨T,G,K⟩:=c.fr.get j y i Y P;obtain⟨m,hm,Z⟩:=I.loc;obtain⟨u,r,l⟩:=Z i y v T hv (.inr (.inl G));refine⟨u,r,?_⟩
  rcases l with⟨z,_⟩ | ⟨_,d,L,k⟩
  .rw[G]at z;cases z
  .obtain⟨d',hd'⟩:∃ d',(dQ X.env.cells sc.names []).lookup y=some d':=fA (.inl (eN c.nc (.inl rfl) K))
   have:=a y d' hd';rw[L]at this;cases this;exact .inr ⟨.inl K,d,hd',k.keeps f⟩
 .obtain⟨v,z⟩:=I.cell x d (a x d e)
  exact⟨v,z.keeps f⟩
 .show(rg ix σ).length=N.length
  unfold rg;rw[length_map,c.fr.len]
theorem mn{C:Addr}{c:List Addr}{a:List (Addr×Obj)}{σ':St}{H':Hp}{s':Shared}(I:Inv X pins σ H s)(i:∀ b∈c,fR X pins H b)(J:Inv (cxB X sc C N s H c) a σ' H' s'):Inv X pins σ H' s':=by
 refine I.call' (ch:=c) J.os J.base J.hok J.bare λb f=>?_
 obtain⟨l,g,k,j,h,d⟩:=i b f;exact⟨j,g,h,d⟩
end
def PTs(X:Cx)(ifs:List Expr)(t:TT):Prop :=
 ∀(pins:List (Addr×Obj)) (s:Shared) (σ:St) (H:Hp) (Q:Bool->Hp->Prop),Inv X pins σ H s->t σ H Q ->
  wpAny (model X.prog X.w) X.A (forIn ifs true λc r=>if r=true then do let ok <- isTrue c X.env (eval c X.env);pure (ForInStep.yield ok) else pure (ForInStep.yield r)) (TP X pins σ Q) X.xe s
def Bs:TT:=λ_ H Q=>Q true H
theorem b7{X:Cx}:PTs X [] Bs:=λ_ _ _ H _ I h=>wpAny_tests_nil ⟨H,I,h⟩
theorem kO{X:Cx}{c:Expr}{t:TT}(h:PT X c t):PTs X [c] t:=λa s d H Q I b=>wpAny_tests_one (h a s d H Q I b)
def iX(J:It)(D:Addr)(σb:St)(g:TG)(tt:TT)(te:TE)(Q:Hp->List V->Prop)(W:Nat->Nat->List V->Hp->Prop):Prop :=
 ∀ i m ys H,W i m ys H->H D=some (.lst ys)/\((J.stop i H/\Q H ys)\/(J.go i H/\∀ x H3,J.yld i H x H3->g x σb H3 λσ4 H4=>Wk σb σ4/\tt σ4 H4 λb H5 =>
  if b=true then te σ4 H5 λy H6=>H6 D=some (.lst ys)/\ys.length<sizeLine/\∃ m',m'<m/\W (i+1) m' (ys++[y]) (upd H6 D (.lst (ys++[y]))) else ∃ m',m'<m/\W (i+1) m' ys H5))
def xE(ix:List (Option Nat))(wi:TI)(g:TG)(tt:TT)(te:TE):TE:=λσ H Q=>wi σ H λJ H1=>∀ D,H1 D=none->∃ W,(∃ m,W 0 m [] (upd H1 D (.lst [])))/\iX J D (rg ix σ) g tt te (λH _=>Q (.ref D) H) W
section
variable {X:Cx}{sc:Scope}{N:List Str}{ix:List (Option Nat)}{elt tg iter:Expr}{ifs:List Expr}{pos:Pos}{wi:TI}{g:TG}{tt:TT}{te:TE}
structure Blk(X:Cx)(sc:Scope)(N:List Str)(tg elt:Expr)(ifs:List Expr)(g:TG)(tt:TT)(te:TE):Prop where
 tg:∀ C s H fp,PG (cxB X sc C N s H fp) tg g
 tests:∀ C s H fp,PTs (cxB X sc C N s H fp) ifs tt
 elt:∀ C s H fp,PE (cxB X sc C N s H fp) elt te
theorem rJ{J:It}{l:List Addr}{it D:Addr}{H:Nat->Heap->Prop}{a:St}{Q:Hp->List V->Prop}{R:Result->Shared->Prop}{W:Nat->Nat->List V->Hp->Prop}
  (hc:X.calm=true) (a1:X.xe=λ_ _=>False) (T:Turn X.prog X.w X.K tg J l it H) (hg:PG X tg g) (ht:PTs X ifs tt) (he:PE X elt te) (B:iX J D a g tt te Q W)
  (c:∀{H':Hp},(∀ b∈l,H' b=none)->∀ b∈l,fR X [] H' b)
  (ac:∀{σ':St}{H':Hp}{s':Shared}{ys:List V},Inv X [] σ' H' s'->Q H' ys->R (.ok .next) s')
  {m0 i0:Nat}{s:List V}{I:Hp}{s0:Shared}(I0:Inv X [] a I s0) (a0:H i0 s0.heap) (ab:∀ b∈l,I b=none) (w0:W i0 m0 s I) :
  codeAny (model X.prog X.w) X.A (.compLoop (.ListComp elt [⟨tg,iter,ifs,0⟩] sc pos) 0 (.ref it) (.ref D) X.env) R s0:=by
 have f:∀{E':Value->Shared->Prop}(e:Value) (s':Shared),X.xe e s'->E' e s':=λ{E'} e s' z=>by rw[a1]at z;exact z.elim
 refine codeAny_loop rfl (λn s'=>∃ i ys H',Inv X [] a H' s'/\H i s'.heap/\(∀ b∈l,H' b=none)/\W i n ys H') ?_ m0 ⟨i0,s,I,I0,a0,ab,w0⟩;rintro n s3 ⟨i,ys,K,I3,A,F,w3⟩;show wpAny _ X.A ((compTurn (.ListComp elt [⟨tg,iter,ifs,0⟩] sc pos) 0 (.ref it) (.ref D) X.env).onRaise (λx=>do noteFrame x X.env;theTreesLotGoes x)) _ _ s3;refine wpAny_noted ?_;rw[compTurn_list];refine wpAny_bind (wpAny_standAt (wpAny_bind ?_));obtain⟨a2,next⟩:=B i n ys K w3
 rcases next with⟨E,q⟩ | ⟨go,C⟩
 .refine thn (T.done X rfl rfl rfl hc i [] s3 a K _ I3 (c F) A E) λr s4 ⟨M,I4⟩=>?_
  subst M;exact wpAny_pure (ac I4 q)
 .refine thn (T.item X rfl rfl rfl hc i [] s3 a K _ I3 (c F) A go) λr s4 ⟨u,M,h4⟩=>?_
  subst M;refine wpAny_bind (thn h4 λ_ s5 ⟨x,H5,I5,r5,y5,k,L⟩=>?_);have as:=I5.pinned (c L) (T.obj _ _ k)
  have h:∀{σ':St}{H':Hp}{s':Shared},Inv X ([]++jF l s5.heap) σ' H' s'->Wk a σ'->Inv X [] a H' s'/\H (i+1) s'.heap/\∀ b∈l,H' b=none:=λ{σ' H' s'} p w=>by
   refine⟨(p.unpinned).weak w.len w.get,T.keep _ _ _ k λb G o e=>(p.pin (b,o) (mem_append_right _ (mem_append_right _ (eI G e)))).1,λb G=>?_⟩;obtain⟨o,e,d⟩:=T.obj _ _ k b G;exact(p.pin (b,o) (mem_append_right _ (mem_append_right _ (eI G e)))).2.1
  refine wpAny_bind (wpAny_mono (hg _ s5 a H5 x u _ as r5 (C x H5 y5)) (λ_ s6 ⟨j,H6,I6,w,q6⟩=>?_) f);refine wpAny_bind (wpAny_mono (ht _ s6 j H6 _ I6 q6) (λok s7 ⟨H7,p,q7⟩=>?_) f);cases ok with
  | false =>
   obtain⟨Y,Z,w7⟩:=q7;obtain⟨b1,N,P⟩:=h p w;exact wpAny_pure ⟨rfl,Y,Z,i+1,ys,H7,b1,N,P,w7⟩
  | true =>
   refine wpAny_bind (wpAny_bind (wpAny_mono (he _ s7 j H7 _ p q7) (λv s8 ⟨y,H8,I8,r8,al,an,Y,Z,w8⟩=>?_) f));refine wpAny_bind (wpAny_mono (km _ s8 j H8 (.ref D) [y] (.ref D) [v] (λ_ H9=>H9=upd H8 D (.lst (ys++[y]))) I8 rfl (.cons r8 .nil) ⟨D,ys,y,rfl,rfl,al,an,rfl⟩) (λ_ s9 ⟨z,H9,I9,_,e9⟩=>?_) f);subst e9;obtain⟨b1,N,P⟩:=h I9 w;exact wpAny_pure (wpAny_pure ⟨rfl,Y,Z,i+1,ys++[y],_,b1,N,P,w8⟩)
theorem kq{a:List (Addr×Obj)}{σ:St}{H:Hp}{s:Shared}{E:Value->Shared->Prop}{RR:Value->Addr->Result->Shared->Prop}{Z:Addr}{i:List Addr}{F:Nat->Heap->Prop}{J:It}{Q:Addr->Hp->List V->Prop}
  (hc:X.calm=true) (c:CompOk X sc N ix) (B:Blk X sc N tg elt ifs g tt te) (I:Inv X a σ H s) (T:Turn X.prog X.w X.K tg J i Z F) (st:F 0 s.heap) (hf:∀ b∈i,fR X a H b)
  (h:∀ D,H D=none->∃ W,(∃ m,W 0 m [] (upd H D (.lst [])))/\iX J D (rg ix σ) g tt te (Q D) W)
  (hR:∀ D C H' s' ys,Inv X a σ H' s'->fR X a H' C->(∃ m,s'.heap.Ns C m)->Q D H' ys->RR (.ref D) C (.ok .next) s') :
  wpAny (model X.prog X.w) X.A (newList []) (λacc s₃=>wpAny (model X.prog X.w) X.A (newFunctionEnv sc X.env.globals (dQ X.env.cells sc.names []) [] X.env.qual none .none (some X.env)) (λcenv s₄ =>
   codeAny (model X.prog X.w) X.A (.compStart (.ListComp elt [⟨tg,iter,ifs,0⟩] sc pos) 0 (.ref Z) acc { cenv with scope:=relabel sc X.env }) (RR acc cenv.locals) s₄) E s₃) E s:=by
 have R:∀ b∈i,b<s.heap.objs.size:=λb f=>let ⟨o,e,_⟩:=T.obj _ _ st b f;Heap.lt_size e
 refine wpAny_newObj_type ?_ (by show 0<=sizeLine;exact Nat.zero_le _);have hD:H s.heap.objs.size=none:=I.hok.fresh (Nat.le_refl _);obtain⟨W,⟨m0,w0⟩,v⟩:=h s.heap.objs.size hD;have u:Inv X a σ (upd H s.heap.objs.size (.lst [])) { s with heap:=s.heap.push { cls:=.type "list",data:=.seq ([]:List Value).toArray } }:=I.lnew (t':=s.toks) (its:=[]) .nil (Nat.zero_le _);have k1:∀ b o,s.heap.get? b=some o->(s.heap.push { cls:=.type "list",data:=.seq ([]:List Value).toArray }).get? b=some o:=λb o e=>Heap.get?_push_of_some _ e
 have P:∀ b∈i,b≠s.heap.objs.size:=λb f=>Nat.ne_of_lt (R b f)
 have j:∀ b∈i,fR X a (upd H s.heap.objs.size (.lst [])) b:=λb f=>⟨by rw[ag (P b f)];exact(hf b f).1,(hf b f).2⟩
 have A:F 0 (s.heap.push { cls:=.type "list",data:=.seq ([]:List Value).toArray }):=T.keep _ _ _ st λb _ o e=>k1 b o e
 generalize hs1:({ s with heap:=s.heap.push { cls:=.type "list",data:=.seq ([]:List Value).toArray } }:Shared)=s1 at u;have l:s1.heap=s.heap.push { cls:=.type "list",data:=.seq ([]:List Value).toArray }:=by rw[<- hs1]
 generalize hDe:s.heap.objs.size=D at *;show wpAny _ _ _ _ _ s1;refine wpAny_newFunctionEnv c.nc (by intro y hy;simp at hy) (λh₁ hns₁ hsb₁=>?_) c.kind;have G:∀ b o,s1.heap.get? b=some o->h₁.get? b=some o:=λb o e=>(hsb₁.2 b (Nat.ne_of_lt (Heap.lt_size e))).trans (Heap.get?_push_of_some _ e)
 have r:∀ b∈i,b<s1.heap.objs.size:=λb f=>by
  obtain⟨o,e,_⟩:=T.obj _ _ A b f;rw[l];exact Heap.lt_size e
 have J0:=ri (h₁:=h₁) (t':=s1.toks+([]:List (Str×Value)).length) c u j r (Nat.le_refl _) (by simpa using hns₁) G;have w:F 0 h₁:=T.keep _ _ _ (by rw[l];exact A:F 0 s1.heap) λb _ o e=>G b o e
 have L:∀{H':Hp},(∀ b∈i,H' b=none)->∀ b∈i,fR (cxB X sc s1.heap.objs.size N s1 (upd H D (.lst [])) i) [] H' b:=λ{H'} Y b f=>by
  obtain⟨f0,f1,f2,f3,f4,f5⟩:=j b f;refine⟨Y b f,Nat.ne_of_lt (r b f),?_,.inl f,λx d e=>f4 x d (dY (c.cells I.ok) (λn c z=>by simp at z) e),λp hp=>absurd (show p∈([]:List (Addr×Obj)) from hp) (by simp)⟩;intro z
  rcases mem_cons.mp (u.stkSub b z) with q | q
  .exact f1 q
  .exact f2 q
 have M:∀{K:St}{H':Hp}{s':Shared}{ys:List V},Inv (cxB X sc s1.heap.objs.size N s1 (upd H D (.lst [])) i) [] K H' s'->Q D H' ys->RR (.ref D) s1.heap.objs.size (.ok .next) s':=λ{K H' s' ys} J q =>
  hR D _ H' s' ys (mn u j J) (u.fpOk (Nat.le_refl _) J.free) (let ⟨m,Y,_⟩:=J.loc;⟨m,Y⟩) q
 have k:codeAny (model X.prog X.w) X.A (.compLoop (.ListComp elt [⟨tg,iter,ifs,0⟩] sc pos) 0 (.ref Z) (.ref D) (cxB X sc s1.heap.objs.size N s1 (upd H D (.lst [])) i).env) (RR (.ref D) s1.heap.objs.size) { s1 with heap:=h₁,toks:=s1.toks+([]:List (Str×Value)).length } :=
  rJ (X:=cxB X sc s1.heap.objs.size N s1 (upd H D (.lst [])) i) hc rfl T (B.tg _ _ _ _) (B.tests _ _ _ _) (B.elt _ _ _ _) v L M J0 w (λb f=>(j b f).1) w0
 exact codeAny_compStart_list k (T.self _ 0 _ _ _ w k)
theorem cz(E:X.calm=true)(c:CompOk X sc N ix)(v:PI X tg iter wi)(B:Blk X sc N tg elt ifs g tt te)(L:∀ x,foldedSetIterable iter X.env x=pure x:=by intro _;rfl):PE X (.ListComp elt [⟨tg,iter,ifs,0⟩] sc pos) (xE ix wi g tt te):=by
 intro a s l H Q I h;rw[eval_ListComp];refine wpAny_comprehension_free (use:=none) rfl L (eP (c.cells I.ok)) c.kind c.nm (thn (v a s l H _ I h) λxv j d=>thn d λitv s₂ h₂=>?_);obtain⟨it,fp,tn,J,Z,e,y,T,f,k,R⟩:=h₂;subst e;refine kq (RR:=λi C=>compPost (model X.prog X.w) X.A X.xe none (EP X a l Q) i C) (Q:=λD H _=>Q (.ref D) H) E c B y T f k R ?_;intro D C F p W M z K q;refine⟨_,K.choose_spec,λY G=>⟨.ref D,F,?_,rfl,q⟩⟩;obtain⟨r,w,k,P,n,A⟩:=z;exact M.turned (t':=p.toks) (λb o u e=>(G.2 b u).trans e) r w P n A
theorem iA{i:Nat}{y:Str}{j f:Pos}(hc:X.calm = true)(W:X.N.Nodup)(P:X.N[i]? = some y)(M:X.env.scope.names.lookup y = some .local)
  (u:swapsWith (.ListComp elt [⟨tg,iter,ifs,0⟩] sc pos) (some (.Name y j)) f.line X.env=pure true)
  (c:CompOk X sc N ix) (hi:PI X tg iter wi) (B:Blk X sc N tg elt ifs g tt te) (hs:∀ x,foldedSetIterable iter X.env x=pure x:=by intro _;rfl) :
  PS X (.Assign [.Name y j] (.ListComp elt [⟨tg,iter,ifs,0⟩] sc pos) f) (ye (xE ix wi g tt te) (qd i)):=by
 intro d s L H w I h;rw[exec_Assign_Name_used _ _ _ _ u];refine wpAny_bind (wpAny_standAt (wpAny_bind ?_));show wpAny _ X.A (do let _ <- comprehension (.ListComp elt [⟨tg,iter,ifs,0⟩] sc pos) sc X.env _ (newList []) false (eval iter X.env) (some (assign (.Name y j) X.env))) _ _ s
 refine wpAny_bind (wpAny_mono (wpAny_comprehension_free (use:=some (assign (.Name y j) X.env)) (Q:=λ_ k=>SP X d w .next k) rfl hs (eP (c.cells I.ok)) c.kind c.nm
  (thn (hi d s L H _ I h) λxv F l=>thn l λitv s₂ h₂=>?_)) (λ_ k hq=>wpAny_pure (wpAny_pure hq)) λ_ _ e=>e)
 obtain⟨it,fp,tn,J,H2,e,I2,T,p,K,q2⟩:=h₂;subst e;refine kq (RR:=λA C=>compPost (model X.prog X.w) X.A X.xe (some (assign (.Name y j) X.env)) (λ_ k=>SP X d w .next k) A C) (Q:=λD H _=>w.nx (L.set i (some (.ref D))) H) hc c B I2 T p K q2 ?_;intro D C H' k ys I' fC ns q;show wpAny _ X.A (assign (.Name y j) X.env (.ref D)) _ _ _;obtain⟨Y,G,K,f3,E,f5⟩:=fC;refine wpAny_assign_Name (jT I' W P (.inl M) (v:=.ref D) rfl (λs2 R ⟨a,sb,ha⟩=>?_) (.inr M));obtain⟨m,hn⟩:=ns
 have r:C≠a:=by
  rcases ha with z | z
  .rw[z];exact G
  .exact λe=>E y a z e.symm
 refine⟨m,hn.sameBut sb r,λh3 n=>⟨_,H',?_,q⟩⟩;exact R.turned (t':=s2.toks) (λb o Z e=>(n.2 b Z).trans e) Y G f3 E f5
end
section
variable {κ:Type} [DecidableEq κ]
def cS(kvs:List (κ×V))(k:κ):Option V:=(kvs.find? λkv=>decide (kv.1=k)).map (·.2)
def fQ(kvs:List (κ×V))(k:κ)(v:V):List (κ×V) :=
 if (kvs.any λkv=>decide (kv.1=k))=true then kvs.map (λkv=>if kv.1=k then (kv.1,v) else kv) else kvs++[(k,v)]
theorem bP{p:κ×V}{r:List (κ×V)}{k:κ}(e:p.1=k):cS (p::r) k=some p.2:=by simp[cS,List.find?_cons,e]
theorem bM{p:κ×V}{r:List (κ×V)}{k:κ}(e:¬p.1=k):cS (p::r) k=cS r k:=by simp[cS,List.find?_cons,e]
theorem eY(k:κ):∀ kvs:List (κ×V),(kvs.any λkv=>decide (kv.1=k))=(cS kvs k).isSome
 | []=>rfl
 | p::r=>by
  rw[any_cons]
  by_cases e:p.1=k
  .simp only[bP e,decide_eq_true e,Bool.true_or,Option.isSome_some]
  .rw[bM e,decide_eq_false e,Bool.false_or];exact eY k r
theorem nX(k j:κ)(y:V):∀ kvs:List (κ×V),cS (kvs.map λkv=>if kv.1=k then (kv.1,y) else kv) j=(cS kvs j).map λx=>if j=k then y else x
 | []=>rfl
 | p::r=>by
  have a:=nX k j y r;rw[map_cons]
  by_cases h:p.1=k
  .rw[if_pos h]
   by_cases e:p.1=j
   .rw[bP (p:=(p.1,y)) e,bP e,Option.map_some,if_pos (e.symm.trans h)]
   .rw[bM (p:=(p.1,y)) e,bM e,a]
  .rw[if_neg h]
   by_cases e:p.1=j
   .rw[bP (p:=p) e,bP e,Option.map_some,if_neg (λz=>h (e.trans z))]
   .rw[bM (p:=p) e,bM e,a]
theorem j8(k j:κ)(y:V):∀ kvs:List (κ×V),cS kvs k=none->cS (kvs++[(k,y)]) j=if j=k then some y else cS kvs j
 | [],_=>by
  by_cases e:k=j
  .rw[if_pos e.symm];exact bP (p:=(k,y)) e
  .rw[if_neg (λz=>e z.symm)];exact bM (p:=(k,y)) e
 | p::r,hn=>by
  rw[cons_append];have a:¬p.1=k:=λz=>by rw[bP z]at hn;cases hn
  rw[bM a]at hn;have b:=j8 k j y r hn
  by_cases e:p.1=j
  .rw[bP e,bP e,if_neg (λz=>a (e.trans z))]
  .rw[bM e,bM e,b]
theorem vd(b:List (κ×V))(k j:κ)(y:V):cS (fQ b k y) j=if j=k then some y else cS b j:=by
 unfold fQ
 by_cases a:(b.any λc=>decide (c.1=k))=true
 .rw[if_pos a,nX]
  rw[eY]at a
  by_cases e:j=k
  .obtain⟨x,d⟩:=Option.isSome_iff_exists.mp a
   rw[if_pos e,e,d,Option.map_some,if_pos rfl]
  .rw[if_neg e]
   cases cS b j with
   | none=>rfl
   | some x=>rw[Option.map_some,if_neg e]
 .rw[if_neg a]
  refine j8 k j y b ?_;rw[eY]at a;cases q:cS b k with
  | none=>rfl
  | some x=>rw[q]at a;exact(a rfl).elim
theorem eS(a:List (κ×V))(k:κ)(v:V):(fQ a k v).length<=a.length+1:=by
 unfold fQ
 split
 .rw[length_map];lia
 .rw[length_append,length_cons,List.length_nil];lia
theorem vE{a:List (κ×V)}{k:κ}(v:V)(h:cS a k=none):fQ a k v=a++[(k,v)]:=by
 unfold fQ;rw[eY,h];exact if_neg (by decide)
theorem RelO.isSome_eq{o:Option V}{u:Option Value}(r:RelO o u):o.isSome=u.isSome:=by
 cases o with
 | none=>cases u with
  | none=>rfl
  | some _=>exact(show False from r).elim
 | some _=>cases u with
  | none=>exact(show False from r).elim
  | some _=>rfl
theorem RelO.getD{o:Option V}{u:Option Value}{d:V}{d':Value}(r:RelO o u)(a:RelV d d'):RelV (o.getD d) (u.getD d'):=by
 cases o with
 | none=>cases u with
  | none=>exact a
  | some _=>exact(show False from r).elim
 | some _=>cases u with
  | none=>exact(show False from r).elim
  | some _=>exact r
theorem KV.val{a:List (κ×V)}{vs:List (κ×Value)}(r:KV a vs)(k:κ):RelO (cS a k) (valueAt vs k):=by
 unfold KV at r
 induction r with
 | nil=>exact True.intro
 | @cons p q ps qs h t ih =>
  obtain⟨d,f⟩:=h
  by_cases e:p.1=k
  .have c:q.1=k:=d.symm.trans e
   have b:valueAt (q::qs) k=some q.2:=by simp[valueAt,List.find?_cons,c]
   rw[bP e,b];exact f
  .have c:¬q.1=k:=λz=>e (d.trans z)
   have b:valueAt (q::qs) k=valueAt qs k:=by simp[valueAt,List.find?_cons,c]
   rw[bM e,b];exact ih
theorem KV.any{a:List (κ×V)}{vs:List (κ×Value)}(r:KV a vs)(k:κ):(a.any λkv=>decide (kv.1=k))=vs.any λkv=>decide (kv.1=k):=by
 unfold KV at r
 induction r with
 | nil=>rfl
 | cons h t ih=>rw[any_cons,any_cons,ih,h.1]
theorem KV.repl{a:List (κ×V)}{vs:List (κ×Value)}(r:KV a vs)(k:κ){y:V}{u:Value}(d:RelV y u) :
  KV (a.map λkv=>if kv.1=k then (kv.1,y) else kv) (vs.map λkv=>if kv.1=k then (kv.1,u) else kv):=by
 unfold KV at r ⊢
 induction r with
 | nil=>exact .nil
 | @cons p q ps qs h t ih =>
  rw[map_cons,map_cons];refine .cons ?_ ih;obtain⟨b,c⟩:=h
  by_cases e:p.1=k
  .rw[if_pos e,if_pos (b.symm.trans e)];exact⟨b,d⟩
  .rw[if_neg e,if_neg (λz=>e (b.trans z))];exact⟨b,c⟩
theorem KV.put{a:List (κ×V)}{vs:List (κ×Value)}(r:KV a vs)(k:κ){y:V}{u:Value}(b:RelV y u):KV (fQ a k y) (stored vs k u):=by
 unfold fQ stored;rw[r.any k]
 by_cases e:(vs.any λc=>decide (c.1=k))=true
 .rw[if_pos e,if_pos e];exact r.repl k b
 .rw[if_neg e,if_neg e];exact Paired.snoc r ⟨rfl,b⟩
theorem KV.length{a:List (κ×V)}{vs:List (κ×Value)}(r:KV a vs):a.length=vs.length:=Paired.length r
end
theorem qu{P:Program}{w:World}{k:Key}{u:Value}(r:RelV (kV k) u):(bN P w).is k u=true:=by
 cases k with
 | inl i=>obtain⟨t,e⟩:=(show ∃ t,u=Value.int i t from r);subst e;exact nr P w i t
 | inr x=>obtain⟨t,e⟩:=(show ∃ t,u=Value.str x t from r);subst e;exact mE P w x t
theorem kz{P:Program}{w:World}:∀{ks:List Key}{us:List Value},Vals (ks.map kV) us->ItemsAre (bN P w) ks us
 | [],_,r=>by rw[map_nil]at r;cases r;exact .nil
 | k::ks,_,r=>by
  rw[map_cons]at r;cases r with
  | cons h t=>exact .cons (qu h) (kz t)
abbrev KT(H:Hp):List (List Key×V)->List (List Key×Addr×Value)->Prop:=Paired λp q=>p.1=q.1/\H q.2.1=some (.tup (p.1.map kV))/\RelV p.2 q.2.2
theorem KT.val{H:Hp}{a:List (List Key×V)}{xs:List (List Key×Addr×Value)}(r:KT H a xs)(k:List Key):RelO (cS a k) ((atKey xs k).map (·.2)):=by
 induction r with
 | nil=>exact True.intro
 | @cons p q ps qs h t ih =>
  obtain⟨d,_,f⟩:=h
  by_cases e:p.1=k
  .have c:q.1=k:=d.symm.trans e
   have b:atKey (q::qs) k=some q.2:=by simp[atKey,List.find?_cons,c]
   rw[bP e,b];exact f
  .have c:¬q.1=k:=λz=>e (d.trans z)
   have b:atKey (q::qs) k=atKey qs k:=by simp[atKey,List.find?_cons,c]
   rw[bM e,b];exact ih
theorem KT.repl{H:Hp}{a:List (List Key×V)}{xs:List (List Key×Addr×Value)}(r:KT H a xs)(k:List Key){y:V}{u:Value}(f:RelV y u) :
  KT H (a.map λkv=>if kv.1=k then (kv.1,y) else kv) (xs.map (putAt k u)):=by
 induction r with
 | nil=>exact .nil
 | @cons p q ps qs h t ih =>
  rw[map_cons,map_cons];refine .cons ?_ ih;obtain⟨b,c,d⟩:=h;unfold putAt
  by_cases e:p.1=k
  .rw[if_pos e,if_pos (b.symm.trans e)];exact⟨b,c,f⟩
  .rw[if_neg e,if_neg (λz=>e (b.trans z))];exact⟨b,c,d⟩
theorem KT.put{H:Hp}{a:List (List Key×V)}{xs:List (List Key×Addr×Value)}(r:KT H a xs)(k:List Key){b:Addr}{y:V}{u:Value}(d:H b=some (.tup (k.map kV)))(c:RelV y u) :
  KT H (fQ a k y) (storedH xs k b u):=by
 have e:(a.any λf=>decide (f.1=k))=(atKey xs k).isSome:=by
  rw[eY,(r.val k).isSome_eq,Option.isSome_map]
 unfold fQ storedH;rw[e]
 by_cases q:(atKey xs k).isSome=true
 .rw[if_pos q,if_pos q];exact r.repl k c
 .rw[if_neg q,if_neg q];exact Paired.snoc r ⟨rfl,d,c⟩
theorem KT.keeps{H H':Hp}{a:List (List Key×V)}{xs:List (List Key×Addr×Value)}(r:KT H a xs)(c:∀ b ys,H b=some (.tup ys)->H' b=some (.tup ys)):KT H' a xs :=
 Paired.mapP r λ_ _ z=>⟨z.1,c _ _ z.2.1,z.2.2⟩
section
variable {P:Program}{w:World}{H:Hp}{h:Heap}{a:Addr}
theorem xK{u:HO}(b:HOk P w H h)(e:Rd H a u):ObjOk P w H h a u:=e.ok b
theorem mQ{b:List (Key×V)}(c:HOk P w H h)(e:Rd H a (.dK b)):b.length<=sizeLine/\(a == sysModules)=false/\∃ vs,KV b vs/\h.DictOf (bN P w) a vs :=
 show ObjOk P w H h a (.dK b) from xK c e
theorem zS{b:List (Key×V)}(c:HOk P w H h)(e:H a=some (.dK b)):b.length<=sizeLine/\(a == sysModules)=false/\∃ vs,KV b vs/\h.DictOf (bN P w) a vs:=mQ c (.inl e)
theorem ju{ks:List Key}(d:HOk P w H h)(e:H a=some (.tup (ks.map kV))):(tupleKind (bN P w)).is h ks a:=by
 obtain⟨_,b,r,o,f,g,n,c⟩:=(show ObjOk P w H h a (.tup (ks.map kV)) from d a _ e)
 exact⟨o,b.toArray,n,f,g,c,by simpa using kz r⟩
theorem nQ{b:List (List Key×V)}(d:HOk P w H h)(e:Rd H a (.dT b)):b.length<=sizeLine/\(a == sysModules)=false /\
  ∃ xs,KT H b xs/\h.DictOfH (tupleKind (bN P w)) a xs:=by
 obtain⟨z,y,xs,r,o,i,j,n,s,k,g,f⟩:=(show ObjOk P w H h a (.dT b) from xK d e)
 refine⟨z,y,xs,r,o,i,j,n,s,k,g,λx hx=>?_,f⟩
 have c:∀{l:List (List Key×V)}{m:List (List Key×Addr×Value)},KT H l m->∀ x∈m,(tupleKind (bN P w)).is h x.1 x.2.1:=by
  intro l m q
  induction q with
  | nil=>intro x hx;exact nomatch hx
  | @cons p q ps qs hq t ih =>
   intro x hx
   rcases mem_cons.mp hx with e | hx
   .subst e
    exact ju d (by rw[<- hq.1];exact hq.2.1)
   .exact ih x hx
 exact c r x hx
theorem tZ{b:List (List Key×V)}(c:HOk P w H h)(e:H a=some (.dT b)):b.length<=sizeLine/\(a == sysModules)=false /\
  ∃ xs,KT H b xs/\h.DictOfH (tupleKind (bN P w)) a xs:=nQ c (.inl e)
end
def vB(H:Hp)(a:Addr)(y:V)(r:Option V):Prop :=
 (∃ kvs k,Rd H a (.dK kvs)/\y=kV k/\r=cS kvs k)\/∃ kvs k b,Rd H a (.dT kvs)/\y=.ref b/\H b=some (.tup (k.map kV))/\r=cS kvs k
def Ap(H:Hp)(a:Addr)(y v:V)(H':Hp):Prop :=
 (∃ kvs k,H a=some (.dK kvs)/\y=kV k/\kvs.length<sizeLine/\H'=upd H a (.dK (fQ kvs k v))) \/
 ∃ kvs k b,H a=some (.dT kvs)/\y=.ref b/\H b=some (.tup (k.map kV))/\kvs.length<sizeLine/\H'=upd H a (.dT (fQ kvs k v))
section
variable {X:Cx}{pins:List (Addr×Obj)}{σ:St}{H:Hp}{s:Shared}{a:Addr}{y v:V}{u r:Value}{o:Option V}{A:Around}{E:Value->Shared->Prop}
theorem Inv.big(I:Inv X pins σ H s):sysModules<s.heap.objs.size:=by
 have h:mainGlobals<s.heap.objs.size:=(I.mod.glob.keeps I.bk).lt;exact Nat.lt_trans (by decide) h
theorem rf{Q:Value->Shared->Prop}(D:A.units+1<cLine)(I:Inv X pins σ H s)(g:vB H a y (some v))(r:RelV y u)(h:∀ w' s',Inv X pins σ H s'->RelV v w'->Q w' s') :
  wpAny (model X.prog X.w) A (getItem (.ref a) u) Q E s:=by
 rcases g with⟨j,k,e,q,l⟩ | ⟨j,k,b,e,q,F,l⟩
 .subst q
  obtain⟨z,w,C,c,n⟩:=mQ I.hok e;obtain⟨w',f,d⟩:=RelO.some_of (v:=v) (o:=valueAt C k) (by rw[l];exact c.val k);exact wpAny_getItem_of (qu r) n.mapOf f (h w' _ (I.tok _) d)
 .subst q
  cases(show u=Value.ref b from r);obtain⟨z,w,x,c,n⟩:=nQ I.hok e;obtain⟨w',f,d⟩:=RelO.some_of (v:=v) (o:=(atKey x k).map (·.2)) (by rw[l];exact c.val k);obtain⟨p,B,i⟩:=Option.map_eq_some_iff.mp f;refine wpAny_getItem_heap (tupleKind_room_in1 D) (ju I.hok F) n B ?_;rw[i];exact h w' _ (I.tok _) d
theorem lU{h':Heap}{t':Nat}{ob:HO}(I:Inv X pins σ H s)(h:Mut (H a))(g:Heap.SameBut a s.heap h')(f:∃ q,h'.get? a=some q)(c:ObjOk X.prog X.w (upd H a ob) h' a ob) :
  Inv X pins σ (upd H a ob) { s with heap:=h',toks:=t' } :=
 I.write (x:=a) (e:=a) h (.inl rfl) (λb q d z=>(g.2 b d).trans z) f c
theorem zd{P:Program}{w:World}{H':Hp}{h':Heap}{b:List (Key×V)}{vs:List (Key×Value)}(z:b.length<=sizeLine)(f:(a == sysModules)=false)(c:KV b vs)(d:h'.DictOf (bN P w) a vs) :
  ObjOk P w H' h' a (.dK b):=⟨z,f,vs,c,d⟩
theorem rQ{H':Hp}{Q:Unit->Shared->Prop}(W:A.units+1<cLine)(I:Inv X pins σ H s)(g:Ap H a y v H')(D:RelV y u)(K:RelV v r)(h:∀ s',Inv X pins σ H' s'->Q () s') :
  wpAny (model X.prog X.w) A (setItem (.ref a) u r) Q E s:=by
 rcases g with⟨d,k,e,C,l,p⟩ | ⟨d,k,b,e,C,G,l,p⟩
 .subst C p
  obtain⟨z,n,T,f,o⟩:=zS I.hok e;have w:T.length<=sizeLine:=by rw[<- f.length];exact z
  have B:(fQ d k v).length<=sizeLine:=by have:=eS d k v;lia
  refine wpAny_setItem_pairs (hsz:=w) (qu D) o λF i x=>h _ ?_
  have Z:∃ q,F.get? a=some q:=let ⟨q,_,_,j,_⟩:=i;⟨q,j⟩;exact lU I (by rw[e];exact True.intro) x Z (zd B n (f.put k K) i)
 .subst C p
  cases(show u=Value.ref b from D);obtain⟨z,n,R,f,o⟩:=tZ I.hok e;have w:R.length<=sizeLine:=by rw[<- Paired.length f];exact z
  have B:(fQ d k v).length<=sizeLine:=by have:=eS d k v;lia
  refine wpAny_setItem_heap (hsz:=w) (tupleKind_room_in1 W) (ju I.hok G) o λF i x=>h _ ?_
  obtain⟨q,M,N,j,P,Y,L,_,h5⟩:=i;refine lU I (by rw[e];exact True.intro) x ⟨q,j⟩ ⟨B,n,_,(f.put k G K).keeps λc ys ec=>?_,q,M,N,j,P,Y,L,h5⟩;rw[ag (dD ec e (λz=>nomatch z))];exact ec
end
section
variable {X:Cx}{pins:List (Addr×Obj)}{σ:St}{H:Hp}{s:Shared}{a:Addr}{kvs:List (Key×V)}{k:Key}{u:Value}{A:Around}{E:Value->Shared->Prop}
end
def AL(i:Expr):Prop:=∀ ov iv,subscripted i false ov iv=operate [ov,iv] (getItem ov iv)
theorem vQ{prog:Program}{w:World}{A:Around}{E:Value->Shared->Prop}{s:Shared}{env:Env}{b a:Expr}{k:Pos}{T n:String}{Q:Value->Shared->Prop}
  (p:typeLookup (.type T) "__getitem__" = pure (some (.builtin n))) (q:AL a)
  (h:wpAny (model prog w) A (eval b env) (λo s₁=>wpAny (model prog w) A (eval a env) (λi s₂=>s₂.TypeIs o T/\wpAny (model prog w) A (getItem o i) Q E s₂) E s₁) E s) :
  wpAny (model prog w) A (eval (.Subscript b a k) env) Q E s:=by
 refine Subscript_ (wpAny_mono h (λo s₁ j=>wpAny_mono j (λi s₂ c=>?_) λ_ _ x=>x) λ_ _ x=>x);obtain⟨l,c⟩:=c;unfold subscriptTail;refine wpAny_bind ?_;rw[getitemInPython_of_ne l.not_modules];refine wpAny_bind (wpAny_specialOf l p ?_)
 have f:wpAny (model prog w) A (subscripted a false o i) (λr d=>wpAny (model prog w) A (letTemporaryGo b o r >>= λ_=>pure r) Q E d) E s₂:=by
  rw[q o i];exact wpAny_operating (wpAny_mono c (λr d g=>wpAny_bind (wpAny_letTemporaryGo (wpAny_pure g))) λ_ _ x=>x)
 first
  | exact wpAny_pure (wpAny_bind f)
  | exact wpAny_bind (wpAny_pure (wpAny_bind f))
  | exact wpAny_bind f
theorem nI{X:Cx}{c:List (Addr×Obj)}{σ:St}{H:Hp}{s:Shared}{a:Addr}{y:V}{o:Option V}(I:Inv X c σ H s)(g:vB H a y o):s.TypeIs (.ref a) "dict" := by
 rcases g with⟨d,k,e,_,_⟩ | ⟨d,k,b,e,_,_,_⟩
 .obtain⟨_,_,i,_,f⟩:=mQ I.hok e
  exact f.typeIs
 .obtain⟨_,_,h,_,f⟩:=nQ I.hok e
  exact f.typeIs
inductive rDGet(x y:V)(H:Hp)(Q:VK):Prop
 | mk(a:Addr)(v:V)(h0:x=.ref a)(h1:vB H a y (some v))(h2:Q v H):rDGet x y H Q
def AN(td ty:TE):TE:=λσ H Q=>td σ H λx H1=>ty σ H1 λy H2=>rDGet x y H2 Q
def Ax(td ty tv:TE):TS:=λD σ H=>tv σ H λv H1=>td σ H1 λx H2=>ty σ H2 λy H3=>∃ a H4,x=.ref a/\Ap H3 a y v H4/\D.nx σ H4
section
variable {X:Cx}{o i e value:Expr}{pos pos' tpos:Pos}{td ty tv:TE}
theorem vI(w:X.A.units+1<cLine)(j:PE X o td)(l:PE X i ty)(k:AL i):PE X (.Subscript o i pos) (AN td ty):=by
 intro b s d H Q I h;refine vQ PySem.F.slot_dict_getitem.lookup k (thn (j b s d H _ I h) λu n ⟨x,p,r,f,z⟩=>thn (l b n d p _ r z) λiv s2 ⟨y,H2,I2,ry,a,v,ex,g,q2⟩=>?_);subst ex;obtain rfl:u=Value.ref a:=f;exact⟨nI I2 g,rf w I2 g ry λB A q c=>⟨v,H2,q,c,q2⟩⟩
theorem v7(z:X.A.units+1<cLine)(d:PE X o td)(k:PE X i ty)(q:PE X value tv)(f:swapsWith value (some (.Subscript o i pos')) pos.line X.env=pure false) :
  PS X (.Assign [.Subscript o i pos'] value pos) (Ax td ty tv):=by
 intro b s c H D I h;refine wpAny_Assign_Subscript (thn (q b s c H _ I h) λr l ⟨v,n,p,j,A⟩=>thn (d b l c n _ p A) λu s2 ⟨x,H2,I2,rx,q2⟩=>thn (k b s2 c H2 _ I2 q2) λiv s3 ⟨y,H3,I3,ry,a,H4,ex,g,q3⟩=>?_) f;subst ex;obtain rfl:u=Value.ref a:=rx
 exact rQ z I3 g ry j λB w=>⟨c,H4,w,q3⟩
end
theorem tX{P:Program}{w:World}{H:Hp}(h:Heap)(a:sysModules<h.objs.size):ObjOk P w H (h.push { cls:=.type "dict",data:=.dict #[] }) h.objs.size (.dK []) :=
 ⟨Nat.zero_le _,beq_eq_false_iff_ne.mpr (Ne.symm (Nat.ne_of_lt a)),[],.nil,Heap.DictOf.new h⟩
theorem tq{P:Program}{w:World}{H:Hp}(h:Heap)(a:sysModules<h.objs.size):ObjOk P w H (h.push { cls:=.type "dict",data:=.dict #[] }) h.objs.size (.dT []) :=
 ⟨Nat.zero_le _,beq_eq_false_iff_ne.mpr (Ne.symm (Nat.ne_of_lt a)),[],.nil,_,#[],0,Heap.get?_push_size _ rfl,⟨rfl,rfl,rfl⟩,rfl,rfl,nodup_nil⟩
def yJ:TE:=λ_ H Q=>∀ p,H p=none->Q (.ref p) (upd H p (.dK []))
def xS:TE:=λ_ H Q=>∀ p,H p=none->Q (.ref p) (upd H p (.dT []))
section
variable {X:Cx}{pos:Pos}
theorem ua:PE X (.Dict [] [] pos) yJ:=λb s c H Q I h =>
 wpAny_Dict_empty ⟨.ref s.heap.objs.size,_,I.laid (a:=s.heap.objs.size) (o:=.dK []) (t':=s.toks) (λ_ _ q=>Heap.get?_push_of_some _ q) (Nat.le_refl _) (tX s.heap I.big),rfl,h _ (I.hok.fresh (Nat.le_refl _))⟩
theorem ni:PE X (.Dict [] [] pos) xS:=λb s c H Q I h =>
 wpAny_Dict_empty ⟨.ref s.heap.objs.size,_,I.laid (a:=s.heap.objs.size) (o:=.dT []) (t':=s.toks) (λ_ _ q=>Heap.get?_push_of_some _ q) (Nat.le_refl _) (tq s.heap I.big),rfl,h _ (I.hok.fresh (Nat.le_refl _))⟩
end
structure M2(X:Cx)(o:Expr)(m:Str)(apos:Pos)(e f:Expr)(cpos:Pos):Prop where
 base:attributeBase o m X.env (eval o X.env)=eval o X.env
 few:((backTo cpos (starEach [e,f] X.env)).all (λx=>!x.1) && (backToKw cpos (keywordEach [] X.env)).all (λx=>x.1.isSome)
  && decide (([e,f]:List Expr).length+([]:List Keyword).length+(if ([]:List Keyword).isEmpty then 0 else 1)<30))=true
 line:(apos.endLine == cpos.line)=true
 trees:backTo cpos (starEach [e,f] X.env)=[(false,eval e X.env),(false,eval f X.env)]
def IsD(H:Hp)(a:Addr):Prop:=(∃ kvs,Rd H a (.dK kvs))\/∃ kvs,Rd H a (.dT kvs)
theorem sL{X:Cx}{c:List (Addr×Obj)}{σ:St}{H:Hp}{s:Shared}{a:Addr}(I:Inv X c σ H s)(d:IsD H a) :
  s.TypeIs (.ref a) "dict" /\ (∀ b,Value.ref a=.ref b->∃ ob,s.heap.get? b=some ob/\ob.dict=none)/\(a == sysModules)=false:=by
 rcases d with⟨h,e⟩ | ⟨h,e⟩
 .obtain⟨_,g,l,_,f⟩:=mQ I.hok e
  refine⟨f.typeIs,λb q=>?_,g⟩;cases q;obtain⟨ob,_,_,i,j,_⟩:=f;exact⟨ob,i,j.2.1⟩
 .obtain⟨_,g,k,_,f⟩:=nQ I.hok e
  refine⟨f.typeIs,λb q=>?_,g⟩;cases q;obtain⟨ob,_,_,i,j,_⟩:=f;exact⟨ob,i,j.2.1⟩
section
variable {X:Cx}{pins:List (Addr×Obj)}{σ:St}{H:Hp}{s:Shared}{a:Addr}{y d:V}{u r:Value}{o:Option V}{A:Around}{E:Value->Shared->Prop}
theorem yk{Q:Value->Shared->Prop}(w:A.units+1<cLine)(I:Inv X pins σ H s)(g:vB H a y o)(p:RelV y u)(q:RelV d r)(h:∀ w' s',Inv X pins σ H s'->RelV (o.getD d) w'->Q w' s') :
  wpAny (model X.prog X.w) A (call (.builtin "dict.get") [.ref a,u,r]) Q E s:=by
 rcases g with⟨j,k,e,n,l⟩ | ⟨j,k,b,e,n,x,l⟩
 .subst n
  obtain⟨z,i,B,c,f⟩:=mQ I.hok e;refine call_meetsIn PySem.F.slot_dict_get f.typeIs PySem.F.entry_dict_get (PySem.F.args_dict_get_3 _ _ _) (meets_dict_get_default (bN X.prog X.w) a (qu p) i r) ⟨_,f.mapOf,h _ _ (I.tok _) ?_⟩;rw[l];exact(c.val k).getD q
 .subst n
  cases(show u=Value.ref b from p);obtain⟨z,i,v,c,f⟩:=nQ I.hok e;refine call_meetsIn PySem.F.slot_dict_get f.typeIs PySem.F.entry_dict_get (PySem.F.args_dict_get_3 _ _ _) (meetsH_dict_get_default (tupleKind (bN X.prog X.w)) a b i r) ⟨tupleKind_room_in1 w,k,v,ju I.hok x,f,h _ _ (I.tok _) ?_⟩;rw[l];exact(c.val k).getD q
end
def yo(td ty tx:TE):TE:=λσ H Q=>td σ H λx H1=>∃ a,x=.ref a/\IsD H1 a/\ty σ H1 λy H2=>tx σ H2 λz H3=>∃ o,vB H3 a y o/\Q (o.getD z) H3
section
variable {X:Cx}{o e f:Expr}{apos cpos:Pos}{td ty tx:TE}
theorem m6(q:X.A.units+1<cLine)(A:PE X o td)(B:PE X e ty)(D:PE X f tx)(m:M2 X o "get" apos e f cpos):PE X (.Call (.Attribute o "get" apos) [e,f] [] cpos) (yo td ty tx):=by
 intro b s i H Q I h;refine wpAny_Call_method m.base m.few m.line PySem.F.plainAttrs_dict PySem.F.slot_dict_get PySem.F.type_dict_get (thn (A b s i H _ I h) λu K ⟨x,N,j,G,a,k,d,E⟩=>?_);subst k;obtain rfl:u=Value.ref a:=G;obtain⟨L,M,_⟩:=sL j d;refine⟨L,M,?_⟩;rw[m.trees]
 refine Calls.callWith_builtin rfl (Calls.evalArgs_plain (Calls.spliced_cons (thn (B b K i N _ j E) λT p ⟨y,F,w,r,R⟩ =>
  Calls.spliced_cons (thn (D b p i F _ w R) λW Z ⟨z,l,P,v,ov,g,C⟩=>Calls.spliced_nil ?_))))
 exact yk q P g r v λw' Y n c=>⟨_,l,n,c,C⟩
end
section
variable {X:Cx}{pins:List (Addr×Obj)}{σ:St}{H:Hp}{s:Shared}{a:Addr}{kvs:List (Key×V)}{A:Around}{E:Value->Shared->Prop}
end
section
variable {X:Cx}{pins:List (Addr×Obj)}{σ:St}{H:Hp}{s:Shared}{a:Addr}{y:V}{u:Value}{A:Around}{E:Value->Shared->Prop}
end
theorem OpR.imp{X:Cx}{f:Value->Value->Sem Value}{r b:R2}(h:OpR X f r)(i:∀ x y H Q,b x y H Q->r x y H Q):OpR X f b :=
 λa s d H x y v u Q I c g q=>h a s d H x y v u Q I c g (i x y H Q q)
theorem CallR.imp{X:Cx}{f:Value}{r b:List V->Hp->VK->Prop}(h:CallR X f r)(i:∀ xs H Q,b xs H Q->r xs H Q):CallR X f b :=
 λa s d H xs g Q I c q=>h a s d H xs g Q I c (i xs H Q q)
def tV(i:Nat):TE:=λσ H Q=>match σ[i]? with
 | some (some v)=>Q v H
 | _=>False
theorem vr{X:Cx}(i:Nat){x:Str}{b:Pos}(g:X.N[i]? = some x:=by rfl)(j:Vis X.env.scope x:=by first | exact Or.inl rfl | exact Or.inr (Or.inl rfl) | exact Or.inr (Or.inr rfl))(d:(x == ("__debug__" : Str))=false:=by decide)
  (c:(x == ("__classdict__" : Str))=false:=by decide):PE X (.Name x b) (tV i):=λa s f H Q I h=>by
 refine zq g j d c a s f H Q I ?_;unfold tV at h
 split at h
 .rename_i v e
  exact⟨v,e,h⟩
 .exact h.elim
def rI2(g:Int->Int->V):R2:=λx y H Q=>match x,y with
 | .int i,.int j=>Q (g i j) H
 | _,_=>False
def rIC(C:Int->Int->Prop)(g:Int->Int->V):R2:=λx y H Q=>match x,y with
 | .int i,.int j=>C i j/\Q (g i j) H
 | _,_=>False
theorem OpR.i2{X:Cx}{f:Value->Value->Sem Value}{g:Int->Int->V}(h:OpR X f (rI0 g)):OpR X f (rI2 g):=h.imp λx y H Q q=>by
 cases x <;> cases y <;> first | exact⟨_,_,rfl,rfl,q⟩ | exact(show False from q).elim
theorem OpR.ic{X:Cx}{f:Value->Value->Sem Value}{C:Int->Int->Prop}{g:Int->Int->V}(h:OpR X f (rI C g)):OpR X f (rIC C g):=h.imp λx y H Q q=>by
 cases x <;> cases y <;> first | exact⟨_,_,rfl,rfl,q.1,q.2⟩ | exact(show False from q).elim
section
variable {X:Cx}
def Ar:R2:=λx y H Q=>match x,y with
 | .int i,.int j=>Q (.int (i+j)) H
 | .str i,.str j=>i.length+j.length<=sizeLine/\Q (.str (i++j)) H
 | _,_=>False
theorem cH:OpR X (binaryOp .Add) Ar:=(op_add.or pv).imp λx y H Q q=>by
 cases x <;> cases y <;> first | exact .inl ⟨_,_,rfl,rfl,q⟩ | exact .inr ⟨_,_,rfl,rfl,q.1,q.2⟩ | exact(show False from q).elim
theorem fJ:OpR X (binaryOp .Sub) (rI2 λi j=>.int (i - j)):=op_sub.i2
def zD(i j:Int):Prop:=0<j
def CNn(i j:Int):Prop:=0<=j
theorem cp{i j:Int}(h:0<j:=by decide):zD i j:=h
theorem cn{i j:Int}(h:0<=j:=by decide):CNn i j:=h
theorem cd{i j:Int}(h:0<j:=by decide)(h2:j<1073741824:=by decide):BE i j:=⟨h,h2⟩
theorem cl{i j:Int}(h:-(2 ^ 64)<i:=by decide)(h2:i<2 ^ 64:=by decide):CMul i j:=.inl ⟨h,h2⟩
theorem cr{i j:Int}(h:-(2 ^ 64)<j:=by decide)(h2:j<2 ^ 64:=by decide):CMul i j:=.inr ⟨h,h2⟩
theorem dR:OpR X (binaryOp .Mod) (rIC zD λi j=>.int (i % j)):=op_mod.ic
theorem zR:OpR X (binaryOp .Pow) (rIC AF λi j=>.int (i ^ j.toNat)):=op_pow.ic
theorem qY:OpR X (compareOp .LtE) (λx y H Q=>∃ i j,x=.str i/\y=.str j/\Q (.bl (!decide (j.cps.toList<i.cps.toList))) H):=by
 intro a s f H x y v u Q I b c h;obtain⟨i,j,rfl,rfl,q⟩:=h;obtain⟨t,rfl⟩:=b;obtain⟨d,rfl⟩:=c;exact PySem.P.le_str (aN I q rfl)
def xI(f:Int->Int->Bool)(g:Str->Str->Bool):R2:=λx y H Q=>match x,y with
 | .int i,.int j=>Q (.bl (f i j)) H
 | .str i,.str j=>Q (.bl (g i j)) H
 | _,_=>False
theorem nR:OpR X (compareOp .Lt) (xI (λi j=>decide (i<j)) λi j=>decide (i.cps.toList<j.cps.toList)):=(op_lt.or rk).imp λx y H Q q=>by
 cases x <;> cases y <;> first | exact .inl ⟨_,_,rfl,rfl,q⟩ | exact .inr ⟨_,_,rfl,rfl,q⟩ | exact(show False from q).elim
theorem vF:OpR X (compareOp .LtE) (xI (λi j=>decide (i<=j)) λi j=>!decide (j.cps.toList<i.cps.toList)):=(op_le.or qY).imp λx y H Q q=>by
 cases x <;> cases y <;> first | exact .inl ⟨_,_,rfl,rfl,q⟩ | exact .inr ⟨_,_,rfl,rfl,q⟩ | exact(show False from q).elim
theorem zZ:OpR X (compareOp .Gt) (rI2 λi j=>.bl (decide (j<i))):=op_gt.i2
theorem yd:OpR X (compareOp .GtE) (rI2 λi j=>.bl (decide (j<=i))):=op_ge.i2
def tU(neg:Bool):R2:=λx y H Q=>match x,y with
 | .int i,.int j=>Q (.bl (if neg then !decide (i=j) else decide (i=j))) H
 | .str i,.str j=>Q (.bl (if neg then !decide (i=j) else decide (i=j))) H
 | .bl i,.bl j=>Q (.bl (if neg then !decide (i=j) else decide (i=j))) H
 | .non,.non=>Q (.bl (!neg)) H
 | .non,.int _=>Q (.bl neg) H
 | .non,.str _=>Q (.bl neg) H
 | .non,.bl _=>Q (.bl neg) H
 | .int _,.non=>Q (.bl neg) H
 | .str _,.non=>Q (.bl neg) H
 | .bl _,.non=>Q (.bl neg) H
 | .int _,.str _=>Q (.bl neg) H
 | .str _,.int _=>Q (.bl neg) H
 | _,_=>False
theorem y7:OpR X (compareOp .Eq) (tU false):=op_eq.imp λx y H Q q=>by
 cases x <;> cases y <;> first | exact(show False from q).elim | exact⟨rfl,q⟩ | exact⟨rfl,by rw[iJ];exact q⟩ | exact⟨rfl,by rw[lK];exact q⟩ | exact⟨rfl,by rw[iI];exact q⟩
theorem zP:OpR X (compareOp .NotEq) (tU true):=op_ne.imp λx y H Q q=>by
 cases x <;> cases y <;> first | exact(show False from q).elim | exact⟨rfl,q⟩ | exact⟨rfl,by rw[iJ];exact q⟩ | exact⟨rfl,by rw[lK];exact q⟩ | exact⟨rfl,by rw[iI];exact q⟩
def rU1(g:Int->V):V->Hp->VK->Prop:=λx H Q=>match x with
 | .int i=>Q (g i) H
 | _=>False
theorem ng:UnR X (unaryOp .USub) (rU1 λi=>.int (-i)):=λa s b H x v Q I r q=>y8 a s b H x v Q I r (by
 cases x <;> first | exact⟨_,rfl,q⟩ | exact(show False from q).elim)
def BH(neg:Bool):R2:=λx y H Q=>match x,y with
 | .str i,.str j=>Q (.bl (if neg then (Builtin.Str.occurrences j i 0 j.length 1).isEmpty else !(Builtin.Str.occurrences j i 0 j.length 1).isEmpty)) H
 | _,_=>False
theorem Ag:OpR X (compareOp .In) (BH false):=op_in_str.imp λx y H Q q=>by
 cases x <;> cases y <;> first | exact⟨_,_,rfl,rfl,q⟩ | exact(show False from q).elim
def mB(Q:Bool->Hp->Prop):VK:=λx H=>match x with
 | .bl c=>Q c H
 | _=>False
variable {a b c:Expr}{ta tb tc:TE}{pos:Pos}{rest:List Expr}
def Bo(ta tb:TE):TE:=λσ H Q=>ta σ H (mB λc H1=>if c=true then tb σ H1 Q else Q (.bl false) H1)
def mOr(ta tb:TE):TE:=λσ H Q=>ta σ H (mB λc H1=>if c=true then Q (.bl true) H1 else tb σ H1 Q)
def Bc(ta:TE):TE:=λσ H Q=>ta σ H (mB λc H1=>Q (.bl (!c)) H1)
theorem gW{Q:Bool->Hp->Prop}{x:V}{H:Hp}(h:mB Q x H):∃ c,x=.bl c/\Q c H:=by
 cases x <;> first | exact⟨_,rfl,h⟩ | exact(show False from h).elim
theorem mI(o:PE X a ta)(l:PE X (.BoolOp .And (b::rest) pos) tb):PE X (.BoolOp .And (a::b::rest) pos) (Bo ta tb):=by
 intro d s g H Q I h;refine BoolOp_and (thn (o d s g H _ I h) λv k ⟨x,i,j,n,f⟩=>?_);obtain⟨c,rfl,f⟩:=gW f;cases n;refine wpAny_truthy_bool ?_;cases c with
 | true=>exact l d k g i Q j f
 | false=>exact⟨.bl false,i,j,rfl,f⟩
theorem Al(o:PE X a ta)(l:PE X (.BoolOp .Or (b::rest) pos) tb):PE X (.BoolOp .Or (a::b::rest) pos) (mOr ta tb):=by
 intro d s g H Q I h;refine BoolOp_or (thn (o d s g H _ I h) λv k ⟨x,i,j,n,f⟩=>?_);obtain⟨c,rfl,f⟩:=gW f;cases n;refine wpAny_truthy_bool ?_;cases c with
 | false=>exact l d k g i Q j f
 | true=>exact⟨.bl true,i,j,rfl,f⟩
theorem AS(k:PE X a ta):PE X (.UnaryOp .Not a pos) (Bc ta):=by
 intro b s f H Q I h;refine UnaryOp_ (thn (k b s f H _ I h) λv l ⟨x,g,j,i,d⟩=>?_);obtain⟨c,rfl,d⟩:=gW d;cases i;exact not_of (wpAny_truthy_bool ⟨.bl (!c),g,j,rfl,d⟩)
def mT(t:TE):TT:=λσ H Q=>t σ H (mB Q)
theorem dC(h:PE X a ta)(g:∀ whole,isTrue a X.env whole=(do let v <- whole;standAt a.pos;holding [v] (truthy v)):=by intro _;rfl):PT X a (mT ta):=by
 intro b s f H Q I c;refine isTrue_plain (thn (h b s f H _ I c) λv n ⟨x,i,k,j,l⟩=>?_) (g _);obtain⟨d,rfl,q⟩:=gW l;cases j;exact wpAny_truthy_bool ⟨i,k,q⟩
theorem cJ{op:CmpOp}{r:R2}(i:OpR X (compareOp op) r)(D:PE X a ta)(l:PE X b tb)(A:behindInMarks op b=false):PT X (.Compare a [op] [b] pos) (mT (tOp r ta tb)):=by
 intro d s f H Q I h
 refine wpAny_isTrue_Compare1 (thn (D d s f H _ I h) λv n ⟨x,o,w,q,C⟩=>thn (l d n f o _ w C) λu s2 ⟨y,H2,I2,r2,q2⟩ =>
  thn (i d s2 f H2 x y v u _ I2 q r2 q2) λc E ⟨z,j,p,B,g⟩=>?_) A
 obtain⟨k,rfl,g⟩:=gW g;cases B;exact wpAny_truthy_bool ⟨j,p,g⟩
def yD(r r':R2)(ta tb tc:TE):TE:=λσ H Q=>ta σ H λx H1=>tb σ H1 λy H2=>r x y H2 (mB λk H3=>if k=true then tc σ H3 λw' H4=>r' y w' H4 Q else Q (.bl false) H3)
theorem qP{op g:CmpOp}{r n:R2}(G:OpR X (compareOp op) r)(l:OpR X (compareOp g) n)(N:PE X a ta)(D:PE X b tb)(L:PE X c tc)
  (E:lastMarks [op,g] [b,c]=false:=by with_unfolding_all rfl):PE X (.Compare a [op,g] [b,c] pos) (yD r n ta tb tc):=by
 intro f s i H Q I h
 refine Compare_chain (thn (N f s i H _ I h) λv P ⟨x,R,A,w,M⟩=>chain_link (thn (D f P i R _ A M) λu s2 ⟨y,H2,I2,r2,q2⟩ =>
  thn (G f s2 i H2 x y v u _ I2 w r2 q2) λd K ⟨z,o,p,W,j⟩=>?_)) E
 obtain⟨k,rfl,j⟩:=gW j;cases W;refine wpAny_truthy_bool ?_;cases k with
 | false=>exact ite_ff ⟨.bl false,o,p,rfl,j⟩
 | true=>exact ite_tt (chain_last (thn (L f K i o _ p j) λY C ⟨T,Z,B,F,q⟩=>l f C i Z y T u Y Q B r2 F q))
open PySem.W in
theorem oJ{f:List (Addr×Obj)}{σ:St}{H:Hp}{s:Shared}{x:V}{u t:Value}(I:Inv X f σ H s)(b:RelV x u)(ty:TyOf X.K H x t) :
  ∃ Hh:Heap->Prop,KitX X.K u t Hh/\Hh s.heap/\u≠.builtin "__main__.__loader__#opaque" := by
 cases ty with
 | non=>cases(show u=Value.none from b);exact⟨_,PySem.W.kitx_none,True.intro,λz=>nomatch z⟩
 | bl y=>cases(show u=Value.bool y from b);exact⟨_,PySem.W.kitx_bool,True.intro,λz=>nomatch z⟩
 | int i=>obtain⟨t,q⟩:=(show ∃ t,u=Value.int i t from b);cases q;exact⟨_,PySem.W.kitx_int,True.intro,λz=>nomatch z⟩
 | str y=>obtain⟨t,q⟩:=(show ∃ t,u=Value.str y t from b);cases q;exact⟨_,PySem.W.kitx_str,True.intro,λz=>nomatch z⟩
 | flt y=>obtain⟨t,q⟩:=(show ∃ t,u=Value.float y t from b);cases q;exact⟨_,PySem.W.kitx_float,True.intro,λz=>nomatch z⟩
 | @lst a d ea =>
  cases(show u=Value.ref a from b)
  obtain⟨_,_,n,_,c⟩:=(show ObjOk X.prog X.w H s.heap a (.lst d) from I.hok a _ ea)
  exact⟨_,kitx_list,⟨_,c,rfl⟩,λz=>nomatch z⟩
 | @frz a ob d ea =>
  cases(show u=Value.ref a from b)
  obtain⟨_,_,_,n,_,c⟩:=(show ObjOk X.prog X.w H s.heap a (.frz ob (.lst d)) from I.hok a _ ea)
  exact⟨_,kitx_list,⟨_,c,rfl⟩,λz=>nomatch z⟩
 | @tup a d ea =>
  cases(show u=Value.ref a from b)
  obtain⟨_,_,_,p⟩:=(show ObjOk X.prog X.w H s.heap a (.tup d) from I.hok a _ ea)
  obtain⟨o,c,g,_⟩:=p;exact⟨_,kitx_tuple,⟨o,c,g⟩,λz=>nomatch z⟩
 | @dK a kvs ea =>
  cases(show u=Value.ref a from b)
  obtain⟨_,_,l,_,p⟩:=(show ObjOk X.prog X.w H s.heap a (.dK kvs) from I.hok a _ ea)
  obtain⟨o,h,j,c,g,_⟩:=p;exact⟨_,kitx_dict,⟨o,c,g.1⟩,λz=>nomatch z⟩
 | @dT a kvs ea =>
  cases(show u=Value.ref a from b)
  obtain⟨_,_,d,_,o,h,j,c,g,_⟩:=(show ObjOk X.prog X.w H s.heap a (.dT kvs) from I.hok a _ ea)
  exact⟨_,kitx_dict,⟨o,c,g.1⟩,λz=>nomatch z⟩
 | @ins a C dx fs ea cl ha hn htk hm =>
  cases(show u=Value.ref a from b);obtain⟨r,O,_⟩:=iQ I.hok ea;obtain⟨k,J,_⟩:=O.look;exact⟨_,PySem.W.kitx_own (cl.get _) cl.hd ha hn htk hm,J,λz=>nomatch z⟩
def AD:V->Value
 | .ty n=>.type n
 | .ref a=>.ref a
 | _=>.none
def xQ:V->Bool
 | .ty _=>true
 | .ref _=>true
 | _=>false
theorem xj{c:V}{u:Value}(h:xQ c=true)(r:RelV c u):u=AD c:=by
 cases c <;> first | exact r | exact absurd (show false=true from h) Bool.false_ne_true
inductive rIsi(K:Frag)(xs:List V)(H:Hp)(Q:VK):Prop
 | mk(x c:V)(t:_)(b:Bool)(h0:xs=[x,c])(h1:xQ c=true)(h2:TyOf K H x t)(h3:kitOne K t (AD c)=some b)(h4:Q (.bl b) H):rIsi K xs H Q
theorem jz:CallR X (.builtin "isinstance") (rIsi X.K):=by
 intro a s n H l o Q I r h;obtain⟨x,c,t,b,rfl,f,j,e,q⟩:=h;obtain⟨u,w,rfl,d,g⟩:=vj r;cases xj f g;obtain⟨v,Z,p,i⟩:=oJ I d j
 exact PySem.W.kia_one Z I.kIn p e i λk=>⟨.bl b,H,I.tok k,rfl,q⟩
theorem rO(y:X.calm=true):CallR X (.builtin "all") (λxs H Q=>∃(p:Addr) (ys:List V) (bs:List Bool),xs=[.ref p]/\SqL X.K H p ys/\ys=bs.map V.bl/\Q (.bl (bs.all id)) H):=by
 intro j s G H xs E Q I r h;obtain⟨p,ys,bs,rfl,w,rfl,q⟩:=h;obtain⟨u,rfl,B⟩:=dM r;cases B;obtain⟨a,f,c,D⟩:=I.list w;have g:p<s.heap.objs.size:=by obtain⟨_,_,e,_⟩:=c;exact Heap.lt_size e
 refine call_all_walk (wpAny_pyIter_list c.isList ?_)
 refine⟨s.heap.objs.size,[s.heap.objs.size,p],[s.heap.objs.size],a.toArray.size,_,_,λi=>(bs[i]?).getD true,rfl,Walks.list (A:=X.A.in1) (I.ok.hd y) _ p (Nat.ne_of_lt g) a.toArray,
  ⟨⟨_,Heap.get?_push_size _ rfl,rfl,rfl⟩,c.isList.push _⟩,λi v C K F z n=>?_,λh' tk hk=>?_⟩
 .have l:a[i]? = some v:=by simpa using z
  have d:i<(bs.map V.bl).length:=by rw[f.length];exact(List.getElem?_eq_some_iff.mp l).1
  obtain⟨b,hb⟩:∃ b,bs[i]? = some b:=⟨bs[i]'(by simpa using d),by simp at d;simp[d]⟩
  obtain⟨u,k,o⟩:=f.get (i:=i) (x:=V.bl b) (by rw[List.getElem?_map,hb];rfl);rw[l]at k;cases k;cases o;simp only[hb,Option.getD_some]at n;exact wpAny_truthy_bool n
 .have e:((List.range a.toArray.size).all λi=>(bs[i]?).getD true)=bs.all id:=by
   rw[size_toArray,<- f.length,length_map];exact LSm.range_all bs
  rw[e];exact⟨.bl _,H,I.kept (LSm.kept_iter hk),rfl,q⟩
end
theorem zp{Q:V->Prop}{p r:Prop}[Decidable p][Decidable r](q:Q (.bl (decide (p/\r)))):if decide p=true then Q (.bl (decide r)) else Q (.bl false):=by
 by_cases h:p
 .rw[if_pos (decide_eq_true h)]
  have e:decide (p/\r)=decide r:=by by_cases z:r <;> simp[h,z]
  rw[<- e];exact q
 .rw[if_neg (λz=>h (of_decide_eq_true z))]
  have e:decide (p/\r)=false:=decide_eq_false λz=>h z.1
  rw[<- e];exact q
theorem ifP{c:Prop}[Decidable c]{A B:Prop}(a:c)(h:A):if decide c=true then A else B:=by rw[if_pos (decide_eq_true a)];exact h
theorem ifN{c:Prop}[Decidable c]{A B:Prop}(a:¬c)(h:B):if decide c=true then A else B:=by rw[if_neg (λz=>a (of_decide_eq_true z))];exact h
theorem ifC{c:Prop}[Decidable c]{A B:Prop}(a:c->A)(h2:¬c->B):if decide c=true then A else B:=by
 by_cases h:c
 .exact ifP h (a h)
 .exact ifN h (h2 h)
theorem ifB{b:Bool}{A B:Prop}(a:b=true->A)(h2:b=false->B):if b=true then A else B:=by
 cases b with
 | true=>rw[if_pos rfl];exact a rfl
 | false=>rw[if_neg Bool.false_ne_true];exact h2 rfl
theorem dN:bootBuiltins "len" = some (.builtin "len"):=by decide +kernel
theorem dZ:bootBuiltins "isinstance" = some (.builtin "isinstance"):=by decide +kernel
theorem yw:bootBuiltins "all" = some (.builtin "all"):=by decide +kernel
theorem jy:bootBuiltins "min" = some (.builtin "min"):=by decide +kernel
theorem yt:bootBuiltins "max" = some (.builtin "max"):=by decide +kernel
theorem lW:bootBuiltins "enumerate" = some (.type "enumerate"):=by decide +kernel
theorem u6:bootBuiltins "range" = some (.type "range"):=by decide +kernel
theorem yO:bootBuiltins "str" = some (.type "str"):=by decide +kernel
theorem xV:bootBuiltins "int" = some (.type "int"):=by decide +kernel
theorem wo:bootBuiltins "bool" = some (.type "bool"):=by decide +kernel
theorem ly:bootBuiltins "list" = some (.type "list"):=by decide +kernel
theorem mR:bootBuiltins "tuple" = some (.type "tuple"):=by decide +kernel
theorem js{X:Cx}{x:Str}{v:V}{a:Pos}(b:Gl X x)(h:∃ u,X.mg x=some u/\RelV v u)(c:(x == ("__debug__" : Str))=false:=by decide):PE X (.Name x a) (tC v) :=
 let ⟨_,e,r⟩:=h
 wH b e r c
def Bw(K:Frag)(tl:TE):TI:=λσ H R=>tl σ H λx H1=>match x with
 | .str z=>R (Its z) H1
 | .ref a=>((∃ xs,SqL K H1 a xs)/\R (Itl K a) H1)\/((∃ xs,SqT K H1 a xs)/\R (Itt K a) H1)
 | _=>False
theorem bJ{X:Cx}{tg l:Expr}{tl:TE}(r:PE X l tl):PI X tg l (Bw X.K tl):=by
 intro g s y H R I h;have B:PE X l tl:=r;refine thn (r g s y H _ I h) λv c ⟨x,j,d,n,k⟩=>?_
 cases x with
 | str z =>
  have:=y2 (X:=X) (tg:=tg) (l:=l) (tl:=tC (.str z));obtain⟨t,rfl⟩:=n;refine wpAny_pyIter_strU ?_;refine⟨c.heap.objs.size,[c.heap.objs.size],_,_,j,rfl,d.kept (t':=c.toks) λb o e=>Heap.get?_push_of_some _ e,mP (ty:=strIterType z) (t:=t) z _ ?_,⟨_,Heap.get?_push_size _ rfl,rfl,rfl⟩,λb hb=>?_,k⟩
  .unfold strIterType
   split
   .exact .inl rfl
   .exact .inr rfl
  .have e:b=c.heap.objs.size:=by simpa using hb
   subst e;exact d.fpOk (Nat.le_refl _) (d.hok.fresh (Nat.le_refl _))
 | ref a =>
  cases n
  rcases k with⟨⟨u,i⟩,q⟩ | ⟨⟨u,i⟩,q⟩
  .obtain⟨f,w,p,A⟩:=d.list i
   refine wpAny_pyIter_list p.isList ?_;refine⟨c.heap.objs.size,[c.heap.objs.size],_,_,j,rfl,d.kept (t':=c.toks) λb o e=>Heap.get?_push_of_some _ e,sv a _,⟨_,Heap.get?_push_size _ rfl,rfl,rfl⟩,λb hb=>?_,q⟩;have e:b=c.heap.objs.size:=by simpa using hb
   subst e;exact d.fpOk (Nat.le_refl _) (d.hok.fresh (Nat.le_refl _))
  .obtain⟨f,w,p,A⟩:=d.tuple i
   refine wpAny_pyIter_tuple (show c.heap.IsTuple a f.toArray from p) ?_;refine⟨c.heap.objs.size,[c.heap.objs.size],_,_,j,rfl,d.kept (t':=c.toks) λb o e=>Heap.get?_push_of_some _ e,oK a _,⟨_,Heap.get?_push_size _ rfl,rfl,rfl⟩,λb hb=>?_,q⟩;have e:b=c.heap.objs.size:=by simpa using hb
   subst e;exact d.fpOk (Nat.le_refl _) (d.hok.fresh (Nat.le_refl _))
 | _=>exact(show False from k).elim
inductive rLenSq(K:Frag)(p:Addr)(H:Hp)(Q:VK):Prop
 | mk(ys:List V)(h0:SqL K H p ys\/SqT K H p ys)(h1:Q (.int ys.length) H):rLenSq K p H Q
theorem ce{X:Cx}:CallR X (.builtin "len") (λxs H Q=>match xs with
  | [.str z]=>z.length<=sizeLine/\Q (.int z.length) H
  | [.ref p]=>rLenSq X.K p H Q
  | _=>False):=(call_len_str.or lf).imp λxs H Q q=>by
 match xs,q with
 | [.str z],q=>exact .inl ⟨z,rfl,q.1,q.2⟩
 | [.ref p],q=>obtain⟨a,h,q⟩:=q;exact .inr ⟨p,a,rfl,h,q⟩
section
variable {D:Addr}{σb:St}{g:TG}{tt:TT}{te:TE}{Q:Hp->List V->Prop}{H:Hp}{K:Frag}
def qc(D:Addr)(σb:St)(g:TG)(tt:TT)(te:TE)(x:V)(ys:List V)(H:Hp)(P:List V->Hp->Prop):Prop :=
 g x σb H λσ4 H4=>Wk σb σ4/\tt σ4 H4 λb H5=>if b=true then te σ4 H5 λy H6=>H6 D=some (.lst ys)/\ys.length<sizeLine/\P (ys++[y]) (upd H6 D (.lst (ys++[y]))) else P ys H5
theorem tQ{z:Str}(d:Nat->List V->Hp->Prop)(k:d 0 [] H)(j:∀ i ys H,d i ys H->H D=some (.lst ys))
  (l:∀(i c:Nat) ys H P,z.cps[i]? = some c->d i ys H->(∀ a b,d (i+1) a b->P a b)->qc D σb g tt te (.str ⟨#[c]⟩) ys H P) (f:∀ ys H,d z.cps.size ys H->Q H ys):∃ W,(∃ m,W 0 m [] H)/\iX (Its z) D σb g tt te Q W:=by
 refine⟨λi m ys H=>m=z.cps.size - i/\i<=z.cps.size/\d i ys H,⟨_,rfl,Nat.zero_le _,k⟩,?_⟩;rintro i m ys H ⟨rfl,n,p⟩;refine⟨j i ys H p,?_⟩
 by_cases hlt:i<z.cps.size
 .refine .inr ⟨hlt,λx o y=>?_⟩
  obtain⟨rfl,c,h,rfl⟩:=y;exact l i c ys _ (λa b=>∃ m',m'<z.cps.size - i/\m'=z.cps.size - (i+1)/\i+1<=z.cps.size/\d (i+1) a b) h p (λa b q=>⟨z.cps.size - (i+1),by lia,rfl,hlt,q⟩)
 .have e:i=z.cps.size:=by lia
  subst e;exact .inl ⟨Nat.le_refl _,f ys H p⟩
theorem bu{a:Addr}{xs:List V}(c:Nat->List V->Hp->Prop)(j:c 0 [] H)(d:∀ i ys H,c i ys H->SqL K H a xs)(h:∀ i ys H,c i ys H->H D=some (.lst ys))
  (k:∀(i:Nat) x ys H P,xs[i]? = some x->c i ys H->(∀ a b,c (i+1) a b->P a b)->qc D σb g tt te x ys H P) (f:∀ ys H,c xs.length ys H->Q H ys):∃ W,(∃ m,W 0 m [] H)/\iX (Itl K a) D σb g tt te Q W:=by
 refine⟨λi m ys H=>m=xs.length - i/\i<=xs.length/\c i ys H,⟨_,rfl,Nat.zero_le _,j⟩,?_⟩;rintro i m ys H ⟨rfl,l,p⟩;refine⟨h i ys H p,?_⟩;have q:=d i ys H p
 by_cases hlt:i<xs.length
 .refine .inr ⟨⟨xs,xs[i],q,by simp[hlt]⟩,λx n y=>?_⟩
  obtain⟨rfl,y⟩:=y;exact k i x ys _ (λa b=>∃ m',m'<xs.length - i/\m'=xs.length - (i+1)/\i+1<=xs.length/\c (i+1) a b) (y xs q) p (λa b q=>⟨xs.length - (i+1),by lia,rfl,hlt,q⟩)
 .have e:i=xs.length:=by lia
  subst e;exact .inl ⟨⟨xs,q,Nat.le_refl _⟩,f ys H p⟩
theorem ui{a:Addr}{xs:List V}(c:Nat->List V->Hp->Prop)(j:c 0 [] H)(d:∀ i ys H,c i ys H->SqT K H a xs)(h:∀ i ys H,c i ys H->H D=some (.lst ys))
  (k:∀(i:Nat) x ys H P,xs[i]? = some x->c i ys H->(∀ a b,c (i+1) a b->P a b)->qc D σb g tt te x ys H P) (f:∀ ys H,c xs.length ys H->Q H ys):∃ W,(∃ m,W 0 m [] H)/\iX (Itt K a) D σb g tt te Q W:=by
 refine⟨λi m ys H=>m=xs.length - i/\i<=xs.length/\c i ys H,⟨_,rfl,Nat.zero_le _,j⟩,?_⟩;rintro i m ys H ⟨rfl,l,p⟩;refine⟨h i ys H p,?_⟩;have q:=d i ys H p
 by_cases hlt:i<xs.length
 .refine .inr ⟨⟨xs,xs[i],q,by simp[hlt]⟩,λx n y=>?_⟩
  obtain⟨rfl,y⟩:=y;exact k i x ys _ (λa b=>∃ m',m'<xs.length - i/\m'=xs.length - (i+1)/\i+1<=xs.length/\c (i+1) a b) (y xs q) p (λa b q=>⟨xs.length - (i+1),by lia,rfl,hlt,q⟩)
 .have e:i=xs.length:=by lia
  subst e;exact .inl ⟨⟨xs,q,Nat.le_refl _⟩,f ys H p⟩
theorem nM{lo:Int}{n:Nat}(c:Nat->List V->Hp->Prop)(h:c 0 [] H)(f:∀ i ys H,c i ys H->H D=some (.lst ys))
  (j:∀(i:Nat) ys H P,i<n->c i ys H->(∀ a b,c (i+1) a b->P a b)->qc D σb g tt te (.int (lo+i)) ys H P) (d:∀ ys H,c n ys H->Q H ys):∃ W,(∃ m,W 0 m [] H)/\iX (Itr lo n) D σb g tt te Q W:=by
 refine⟨λi m ys H=>m=n - i/\i<=n/\c i ys H,⟨_,rfl,Nat.zero_le _,h⟩,?_⟩;rintro i m ys H ⟨rfl,k,p⟩;refine⟨f i ys H p,?_⟩
 by_cases hlt:i<n
 .refine .inr ⟨hlt,λx l y=>?_⟩
  obtain⟨rfl,rfl⟩:=y;exact j i ys _ (λa b=>∃ m',m'<n - i/\m'=n - (i+1)/\i+1<=n/\c (i+1) a b) hlt p (λa b q=>⟨n - (i+1),by lia,rfl,hlt,q⟩)
 .have e:i=n:=by lia
  subst e;exact .inl ⟨Nat.le_refl _,d ys H p⟩
end
theorem Same.new{H:Hp}{p:Addr}{o:HO}(h:H p=none):Same H (upd H p o):=λb u e=>by rw[ag (aE e h)];exact e
mutual
def DV(K:Frag)(H:Hp):PyData->V->Prop
 | .none,x=>x=.non
 | .bool b,x=>x=.bl b
 | .int i,x=>x=.int i
 | .str z,x=>x=.str z
 | .list ds,x=>∃ a xs,x=.ref a/\SqL K H a xs/\DVs K H ds xs
 | .tuple ds,x=>∃ a xs,x=.ref a/\SqT K H a xs/\DVs K H ds xs
 | .dict _,_=>False
def DVs(K:Frag)(H:Hp):List PyData->List V->Prop
 | [],xs=>xs=[]
 | d::ds,xs=>∃ y ys,xs=y::ys/\DV K H d y/\DVs K H ds ys
end
section
variable {X:Cx}{pins:List (Addr×Obj)}{σ:St}{H:Hp}{s:Shared}
mutual
theorem DV.reads(I:Inv X pins σ H s):∀{d:PyData}{x:V}{u:Value},DV X.K H d x->RelV x u->∃ as,Reads s.heap u d as
 | .none,x,u,h,r=>by
  rw[DV]at h;subst h;cases r;exact⟨_,.none⟩
 | .bool b,x,u,h,r=>by
  rw[DV]at h;subst h;cases r;exact⟨_,.bool b⟩
 | .int i,x,u,h,r=>by
  rw[DV]at h;subst h;obtain⟨t,rfl⟩:=r;exact⟨_,.int i t⟩
 | .str z,x,u,h,r=>by
  rw[DV]at h;subst h;obtain⟨t,rfl⟩:=r;exact⟨_,.str z t⟩
 | .list ds,x,u,h,r=>by
  rw[DV]at h;obtain⟨a,l,rfl,k,j⟩:=h;cases r;obtain⟨f,g,⟨o,n,e,c,_,d⟩,_⟩:=I.list k;obtain⟨as,q⟩:=DVs.reads I j g;exact⟨_,.list e c d (by simpa using q)⟩
 | .tuple ds,x,u,h,r=>by
  rw[DV]at h;obtain⟨a,l,rfl,k,j⟩:=h;cases r;obtain⟨f,g,⟨o,e,c,n,d⟩,_⟩:=I.tuple k;obtain⟨as,q⟩:=DVs.reads I j g;exact⟨_,.tuple e c d (by simpa using q)⟩
 | .dict _,x,u,h,r=>by rw[DV]at h;exact h.elim
theorem DVs.reads(I:Inv X pins σ H s):∀{ds:List PyData}{xs:List V}{us:List Value},DVs X.K H ds xs->Vals xs us->∃ as,ReadsAll s.heap us ds as
 | [],xs,us,h,r=>by
  rw[DVs]at h;subst h;cases r;exact⟨_,.nil⟩
 | d::ds,xs,us,h,r=>by
  rw[DVs]at h;obtain⟨y,f,rfl,b,a⟩:=h;cases r with
  | cons r rs =>
   obtain⟨as,q⟩:=DV.reads I b r;obtain⟨c,p⟩:=DVs.reads I a rs;exact⟨_,.cons q p⟩
end
end
inductive rEqD(K:Frag)(neg:Bool)(x y:V)(H:Hp)(Q:VK):Prop
 | mk(d e:PyData)(h0:DV K H d x)(h1:DV K H e y)(h2:SeqAt.shaped d=true)(h3:SeqAt.shaped e=true)(h4:Q (.bl (if neg then !PyData.eqv d e else PyData.eqv d e)) H):rEqD K neg x y H Q
theorem xL{X:Cx}(k:X.A.units+64<cLine):OpR X (compareOp .Eq) (rEqD X.K false):=by
 intro a s p H x y v u Q I b j h;obtain⟨d,e,l,n,c,f,q⟩:=h;obtain⟨r,g⟩:=l.reads I b;obtain⟨o,i⟩:=n.reads I j;exact eq_dataH g i c f k ⟨.bl _,H,I,rfl,q⟩
theorem qe{X:Cx}(k:X.A.units+64<cLine):OpR X (compareOp .NotEq) (rEqD X.K true):=by
 intro a s p H x y v u Q I b j h;obtain⟨d,e,l,n,c,f,q⟩:=h;obtain⟨r,g⟩:=l.reads I b;obtain⟨o,i⟩:=n.reads I j;exact ne_dataH g i c f k ⟨.bl _,H,I,rfl,q⟩
section
variable {X:Cx}
def lh:V->List V->Hp->VK->Prop:=λx xs H Q=>match x,xs with
 | .str z,[.str y]=>∃ i rest,Builtin.Str.occurrences z y 0 z.length 1=i::rest/\Q (.int (i:Nat)) H
 | _,_=>False
theorem sk:MtR X "str.index" lh:=by
 intro a s h H x d v j Q I c f q
 match x,d,q with
 | .str z,[.str y],q =>
  obtain⟨i,b,e,q⟩:=q;obtain⟨t,rfl⟩:=c;obtain⟨u,rfl,g,rfl⟩:=dM f;exact SC.index e ⟨.int _,H,I.tok _,⟨_,rfl⟩,q⟩
variable {o e:Expr}{es:List Expr}{to:TE}{t:TA}{apos cpos:Pos}
theorem pe_m.indexS(f:PE X o to)(h:PA X (e::es) t)
  (c:attributeBase o "index" X.env (eval o X.env)=eval o X.env:=by rfl)
  (d:((backTo cpos (starEach (e::es) X.env)).all (λx=>!x.1) && (backToKw cpos (keywordEach [] X.env)).all (λx=>x.1.isSome)
   && decide ((e::es).length+([]:List Keyword).length+(if ([]:List Keyword).isEmpty then 0 else 1)<30))=true:=by rfl)
  (b:(apos.endLine == cpos.line)=true:=by rfl) (g:starEach (e::es) X.env=(false,eval e X.env)::starEach es X.env:=by rfl) (a:(backTo cpos (starEach es X.env)).any (·.1)=false:=by rfl) :
  PE X (.Call (.Attribute o "index" apos) (e::es) [] cpos) (tBM X.K "str" lh to t):=vD F.plainAttrs_str F.slot_str_index F.type_str_index sk f h c d b g a
end
section
variable {X:Cx}{st:Stmt}{rest:List Stmt}{t u:TS}{e:Expr}{te:TE}{tt:TT}
def zV(t u:TS):TS:=λD σ H=>∃ M:St->Hp->Prop,t { D with nx:=M } σ H/\∀ σ' H',M σ' H'->u D σ' H'
theorem rE(k:PS X st t)(h2:PSs X rest u):PSs X (st::rest) (zV t u):=by
 intro a s g H D I h;obtain⟨M,h,j⟩:=h;refine wpAny_execs_cons (thn (k a s g H { D with nx:=M } I h) λf d q=>?_);cases f with
 | next =>
  obtain⟨b,i,c,q⟩:=q;exact h2 a d b i D c (j _ _ q)
 | ret v=>exact q
 | brk=>exact q
 | cont=>exact q
end
end L2
namespace L2
abbrev PvS:=Nat->St->Hp->Prop
abbrev PvL:=Nat->List V->Hp->Prop
theorem qr{b a:TS}{D:Ends}{σ:St}{H:Hp}:(let B2:TS:=a;bO b B2 D σ H)->bO b a D σ H:=λh=>h
theorem d9{c a b:TS}{D:Ends}{σ:St}{H:Hp}:(let B3:TS:=b;let B2:TS:=bO a B3;bO c B2 D σ H)->bO c (bO a b) D σ H:=λh=>h
theorem pL{d a c b:TS}{D:Ends}{σ:St}{H:Hp}:(let B4:TS:=b;let B3:TS:=bO c B4;let B2:TS:=bO a B3;bO d B2 D σ H)->bO d (bO a (bO c b)) D σ H:=λh=>h
theorem pH{b c f d a:TS}{D:Ends}{σ:St}{H:Hp}:(let B5:TS:=a;let B4:TS:=bO d B5;let B3:TS:=bO f B4;let B2:TS:=bO c B3;bO b B2 D σ H)->bO b (bO c (bO f (bO d a))) D σ H:=λh=>h
theorem zH{b c g f a d:TS}{D:Ends}{σ:St}{H:Hp}:(let B6:TS:=d;let B5:TS:=bO a B6;let B4:TS:=bO f B5;let B3:TS:=bO g B4;let B2:TS:=bO c B3;bO b B2 D σ H)->bO b (bO c (bO g (bO f (bO a d)))) D σ H:=λh=>h
theorem Ac{c d i g b f a:TS}{D:Ends}{σ:St}{H:Hp}:(let B7:TS:=a;let B6:TS:=bO f B7;let B5:TS:=bO b B6;let B4:TS:=bO g B5;let B3:TS:=bO i B4;let B2:TS:=bO d B3;bO c B2 D σ H)->bO c (bO d (bO i (bO g (bO b (bO f a))))) D σ H:=λh=>h
end L2
namespace L2
open PySem PySem.Spec PyProof.Rows
section
variable {X:Cx}{pins:List (Addr×Obj)}{σ:St}{H:Hp}{s:Shared}{h':Heap}
theorem Inv.turnedNew{t':Nat}{ch:List Addr}{a:Addr}{o:HO}(I:Inv X pins σ H s)(k:∀ b u,b ∉ ch->s.heap.get? b=some u->h'.get? b=some u)(j:∀ b∈ch,fR X pins H b)
  (x:s.heap.objs.size<=a) (p:ObjOk X.prog X.w (upd H a o) h' a o):Inv X pins σ (upd H a o) { s with heap:=h',toks:=t' }:=by
 have l:H a=none:=I.hok.fresh x
 have g:∀ b u,H b=some u->b ∉ ch:=λb u e z=>by
  rw[(j b z).1]at e;cases e
 have d:∀ b u,H b=some u->b≠a:=λb u e z=>by
  rw[z,l]at e;cases e
 have i:∀ b u,s.heap.get? b=some u->b≠a:=λb u e=>Nat.ne_of_lt (Nat.lt_of_lt_of_le (Heap.lt_size e) x)
 refine I.step (g':=s.gens) (d':=s.drawn) (ch:=ch) (λb h=>?_) (λb u _ _ f e _=>k b u f e) (λb u _ _ f e _=>⟨u.slots,k b u f e⟩) (λb u _ e n=>?_) (λb u f e=>⟨u,k b u f e⟩)
  (λb B e=>?_) (λb u v e=>?_) (λb ps e=>⟨#[],?_⟩) (λm hm=>?_) (λb u e=>?_) I.bare
 .obtain⟨_,F,_,E,G,A⟩:=j b h
  exact⟨E,F,G,A⟩
 .rw[ag (i b u e)];exact n
 .rw[ag (d b _ e)];exact e
 .rw[ag (d b _ e)];exact e
 .rw[ag (d b _ e),e];simp
 .obtain⟨w,C,D,y,r⟩:=hm
  exact⟨w,C,D,k _ w (λz=>(j _ z).2.1 rfl) y,r⟩
 .by_cases h:b=a
  .subst h
   rw[ae]at e;cases e;exact p
  .rw[ag h]at e
   refine(I.hok b u e).stay (λc v f q=>k c v ?_ q) (λc q=>?_) λc B q=>?_
   .rcases f with z | z
    .rw[z];exact g b u e
    .exact g c _ z
   .rw[ag (d c _ q)];exact q
   .rw[ag (d c _ q)];exact q
theorem Inv.turnedN{t':Nat}{ch:List Addr}(I:Inv X pins σ H s)(k:∀ b u,b ∉ ch->s.heap.get? b=some u->h'.get? b=some u)(f:∀ b∈ch,fR X pins H b):Inv X pins σ H { s with heap:=h',toks:=t' }:=by
 have d:∀ b u,H b=some u->b ∉ ch:=λb u e z=>by
  rw[(f b z).1]at e;cases e
 refine I.step (g':=s.gens) (d':=s.drawn) (ch:=ch) (λb p=>?_) (λb u _ _ a e _=>k b u a e) (λb u _ _ a e _=>⟨u.slots,k b u a e⟩) (λb u _ e n=>n) (λb u a e=>⟨u,k b u a e⟩)
  (λb j e=>e) (λb u v e=>e) (λb ps e=>⟨#[],by rw[e];simp⟩) (λm hm=>?_) (λb u e=>?_) I.bare
 .obtain⟨_,w,_,y,x,i⟩:=f b p
  exact⟨y,w,x,i⟩
 .obtain⟨g,l,o,h,r⟩:=hm
  exact⟨g,l,o,k _ g (λz=>(f _ z).2.1 rfl) h,r⟩
 .refine(I.hok b u e).stay (λc v a q=>k c v ?_ q) (λc q=>q) λc j q=>q
  rcases a with z | z
  .rw[z];exact d b u e
  .exact d c _ z
end
def Ite(a:Addr):It:=⟨λi H=>∃ xs x,H a=some (.lst xs)/\xs[i]? = some x,
 λi H x H'=>∃ p y,H p=none/\x=.ref p/\(∀ xs,H a=some (.lst xs)->xs[i]? = some y)/\H'=upd H p (.tup [.int (i:Nat),y]),λi H=>∃ xs,H a=some (.lst xs)/\xs.length<=i⟩
theorem sA{P:Program}{w:World}{K:Frag}{es:List Expr}{k:Nat}{Q:Pos}(a e c:Addr)(B:e≠c) :
  Turn P w K (.Tuple es k Q) (Ite a) [e,c] e (λi h=>(∃ old,IsEnum h e c i old)/\h.IsListIter c a i) where
 mem:=by simp
 obj:=λi h g b hb=>by
  obtain⟨⟨old,d⟩,o,A,D,h3⟩:=g
  rcases mem_cons.mp hb with rfl | hb
  .exact⟨_,d,λv z=>by cases z⟩
  .rw[mem_singleton.mp hb]
   exact⟨o,A,λv z=>by rw[h3]at z;cases z⟩
 keep:=λi h h' g kp=>by
  obtain⟨⟨old,d⟩,o,A,r⟩:=g;exact⟨⟨old,kp e (by simp) _ d⟩,o,kp c (by simp) o A,r⟩
 item:=by
  intro X Z L hK hc i j s σ H E I F g M;subst Z L hK;obtain⟨⟨old,d⟩,f⟩:=g;obtain⟨xs,x,G,hx⟩:=M;obtain⟨z,l,n,r,y,R⟩:=I.lstM G;obtain⟨u,hu,ru⟩:=Vals.get r hx
  have p:s.heap.IsList a l.toArray:=⟨_,R,rfl,_,rfl⟩
  refine wpAny_pyNext_enum_item d f p (x:=u) (by simpa using hu) B λA e1 e2 e3 e4 e5=>?_
  refine⟨_,rfl,wpAny_letOwnedTupleGo_enum e1 λD e6 sb=>?_⟩;have C:s.heap.objs.size≠e:=λq=>absurd (Heap.lt_size d) (by rw[<- q];exact Nat.lt_irrefl _)
  have Y:s.heap.objs.size≠c:=λq=>by
   obtain⟨o,T,_⟩:=f;exact absurd (Heap.lt_size T) (by rw[<- q];exact Nat.lt_irrefl _)
  have hn:H s.heap.objs.size=none:=I.hok.fresh (Nat.le_refl _);have N:D.get? s.heap.objs.size=some { cls:=.type "tuple",data:=.seq #[.int i s.toks,u] }:=(sb.2 _ C).trans e3
  have J:Inv X j σ (upd H s.heap.objs.size (.tup [.int (i:Nat),x])) { s with heap:=D,toks:=s.toks+1 }:=by
   refine I.turnedNew (ch:=[e,c]) (λb o hb q=>?_) F (Nat.le_refl _) ⟨by rw[sizeLine_eq];show 2<=16777216;decide,[.int i s.toks,u],.cons ⟨_,rfl⟩ (.cons ru .nil),_,N,rfl,0,rfl⟩;have b1:b≠e:=λz=>hb (by simp[z])
   have b2:b≠c:=λz=>hb (by simp[z])
   exact(sb.2 b b1).trans (e5 b o b1 b2 q)
  refine⟨.ref s.heap.objs.size,_,J,rfl,⟨s.heap.objs.size,x,hn,rfl,λys hy=>?_,rfl⟩,⟨⟨u,?_⟩,?_⟩,λb hb=>?_⟩
  .rw[G]at hy
   cases hy;exact hx
  .have W:IsEnum D e c ((i:Int)+1) u:=e6
   have e7:((i+1:Nat):Int)=(i:Int)+1:=by lia
   rw[e7];exact W
  .obtain⟨o,T,r⟩:=e2
   exact⟨o,(sb.2 c (Ne.symm B)).trans T,r⟩
  .have ab:b≠s.heap.objs.size:=by
    rcases mem_cons.mp hb with rfl | hb
    .exact C.symm
    .rw[mem_singleton.mp hb];exact Y.symm
   rw[ag ab];exact(F b hb).1
 done:=by
  intro X Z L hK hc i j s σ H E I F g M;subst Z L hK;obtain⟨⟨old,d⟩,f⟩:=g;obtain⟨xs,G,hx⟩:=M;obtain⟨z,l,n,r,y,R⟩:=I.lstM G
  have p:s.heap.IsList a l.toArray:=⟨_,R,rfl,_,rfl⟩
  refine wpAny_pyNext_enum_end (I.ok.hd hc) d f p (by simp;lia) λA eb=>⟨rfl,I.turnedN (ch:=[e,c]) (t':=s.toks) (λb o hb q=>eb b o (λz=>hb (by simp[z])) q) F⟩
 self:=λ_ _ _ _ _ g h=>by
  obtain⟨⟨old,d⟩,_⟩:=g;exact wpAny_pyIter_enum d h
def AR(ta:TA):TI:=λσ H R=>ta σ H λvs H1=>∃ a xs,vs=[.ref a]/\H1 a=some (.lst xs)/\R (Ite a) H1
theorem lZ{X:Cx}{A:List Expr}{k:Nat}{g:Pos}{e:Expr}{y:TA}{p f:Pos}(B:Gl X "enumerate")(G:X.mg "enumerate" = none)(N:PA X [e] y)(M:starEach [e] X.env=[(false,eval e X.env)]:=by rfl) :
  PI X (.Tuple A k g) (.Call (.Name "enumerate" p) [e] [] f) (AR y):=by
 intro c s w H R I h;refine wpAny_Call_Name_kw (gJ I B G lW ?_ (by decide) (by decide));refine PyProof.Rows.callWith_type1 (thn (N f c s w H _ I h) λus d ⟨Z,x,j,C,a,Y,l,T,q⟩=>?_) M rfl;subst l;obtain⟨u,rfl,D⟩:=dM C;cases D;obtain⟨z,P,n,r,v,F⟩:=j.lstM T;refine call_enumerate_1 (n:=n) F λE l K W Q=>?_
 have L:Inv X c w x { d with heap:=E }:=j.kept (t':=d.toks) Q;have o:d.heap.objs.size+1≠d.heap.objs.size:=Nat.succ_ne_self _;refine wpAny_pyIter_enum l ?_;refine⟨d.heap.objs.size+1,[d.heap.objs.size+1,d.heap.objs.size],_,_,x,rfl,L,sA a _ _ o,⟨⟨_,l⟩,K⟩,λb hb=>?_,q⟩
 have i:d.heap.objs.size<=b:=by
  rcases mem_cons.mp hb with rfl | hb
  .lia
  .rw[mem_singleton.mp hb]
   exact Nat.le_refl _
 exact j.fpOk i (j.hok.fresh i)
theorem i7{a:Addr}{xs:List V}{g:TG}{d:TS}{D:Ends}{σ:St}{H:Hp}(c:Nat->St->Hp->Prop)(l:c 0 σ H)(k:∀ i σ H,c i σ H->H a=some (.lst xs))
  (n:∀(i:Nat) x σ H p,xs[i]? = some x->c i σ H->H p=none->g (.ref p) σ (upd H p (.tup [.int (i:Nat),x])) λσ2 H2=>d { D with nx:=c (i+1),ct:=c (i+1),bk:=D.nx } σ2 H2) (f:∀ σ H,c xs.length σ H->D.nx σ H) :
  ∃ W:Nat->Nat->St->Hp->Prop,(∃ m,W 0 m σ H)/\∀ i m σ H,W i m σ H ->
   ((Ite a).stop i H/\D.nx σ H)\/((Ite a).go i H/\∃ N:St->Hp->Prop,(∀ σ' H',N σ' H'->∃ m',m'<m/\W (i+1) m' σ' H')/\∀ x H',(Ite a).yld i H x H'->g x σ H' λσ2 H2=>d { D with nx:=N,ct:=N,bk:=D.nx } σ2 H2):=by
 refine⟨λi m σ H=>m=xs.length - i/\i<=xs.length/\c i σ H,⟨_,rfl,Nat.zero_le _,l⟩,?_⟩;rintro i m σ H ⟨rfl,r,p⟩;have q:=k i σ H p
 by_cases hlt:i<xs.length
 .refine .inr ⟨⟨xs,xs[i],q,by simp[hlt]⟩,c (i+1),λσ' H' o=>⟨_,by lia,rfl,hlt,o⟩,λx H' y=>?_⟩
  obtain⟨b,v,h,rfl,j,rfl⟩:=y;exact n i v σ H b (j xs q) p h
 .have e:i=xs.length:=by lia
  subst e;exact .inl ⟨⟨xs,q,Nat.le_refl _⟩,f σ H p⟩
end L2
namespace NumM
open PySem PySem.NumText
end NumM
namespace L2
open PySem PySem.Spec PyProof.Rows
def yB(lo hi:Int):Option Int->Option Int
 | some n=>if lo<=n/\n<=hi then some n else none
 | none=>none
theorem jO(c:Nat):c∈("abcdefghijklmnopqrstuvwxyz" : Str).cps.toList↔97<=c/\c<=122:=by
 have e:("abcdefghijklmnopqrstuvwxyz" : Str).cps.toList=List.range' 97 26:=by decide +kernel
 rw[e,List.mem_range'_1];omega
end L2
namespace SplM
open PySem
end SplM
namespace L2
open PySem PySem.Spec PyProof.Rows
section
variable {X:Cx}
open Builtin.Str in
theorem zw{P:Program}{w:World}{A:Around}{E:Value->Shared->Prop}{s:Shared}{x y:Str}{t u:Tok}{Q:Value->Shared->Prop}(c:(y.length == 0)=false)(d:x.length<=sizeLine)
  (f:(partsBetween x (occurrences x y 0 x.length (x.length+1)) y.length).length<=sizeLine)
  (h:∀(l:List (Str×Tok)) (k:Nat),l.map (·.1)=Txt.split x y->Q (.ref s.heap.objs.size) { s with heap:=s.heap.push { cls:=.type "list",data:=.seq (strValues l).toArray },toks:=k }) :
  wpAny (model P w) A (call (.builtin "str.split") [.str x t,.str y u]) Q E s:=by
 by_cases h1:(decide (x.length<y.length) || decide (strKind x<strKind y))=true
 .refine call_meets F.slot_str_split (typeIs_str s x t) F.entry_str_split (F.args_str_split_2 _ _) (meets_str_split_cannot_occur x y t u h1) ?_
  exact h [(x,t)] s.toks (by unfold Txt.split;rw[if_pos h1];rfl)
 .have a:=eq_false_of_ne_true h1
  by_cases h2:(occurrences x y 0 x.length (x.length+1)).isEmpty=true
  .refine call_meets F.slot_str_split (typeIs_str s x t) F.entry_str_split (F.args_str_split_2 _ _) (meets_str_split_not_found x y t u a c h2) ?_
   exact h [(x,t)] s.toks (by unfold Txt.split;rw[if_neg h1,if_pos h2];rfl)
  .have b:=eq_false_of_ne_true h2
   refine call_meets F.slot_str_split (typeIs_str s x t) F.entry_str_split (F.args_str_split_2 _ _) (meets_str_split_sep x y t u a c b d f) ?_
   have:=h (numbered s.toks (partsBetween x (occurrences x y 0 x.length (x.length+1)) y.length)) (s.toks+(partsBetween x (occurrences x y 0 x.length (x.length+1)) y.length).length)
    ((numbered_texts _ _).trans (by unfold Txt.split;rw[if_neg h1,if_neg h2]))
   rw[<- strsFrom_eq]at this;exact this
variable {o e:Expr}{es:List Expr}{to:TE}{t:TA}{apos cpos:Pos}
theorem pe_m.append(f:PE X o to)(h:PA X (e::es) t)(c:attributeBase o "append" X.env (eval o X.env)=eval o X.env:=by rfl)
  (d:((backTo cpos (starEach (e::es) X.env)).all (λx=>!x.1) && (backToKw cpos (keywordEach [] X.env)).all (λx=>x.1.isSome) && decide ((e::es).length+([]:List Keyword).length+(if ([]:List Keyword).isEmpty then 0 else 1)<30))=true:=by rfl)
  (b:(apos.endLine == cpos.line)=true:=by rfl) (g:starEach (e::es) X.env=(false,eval e X.env)::starEach es X.env:=by rfl) (a:(backTo cpos (starEach es X.env)).any (·.1)=false:=by rfl) :
  PE X (.Call (.Attribute o "append" apos) (e::es) [] cpos) (tBM X.K "list" rAppend to t):=vD F.plainAttrs_list F.slot_list_append F.type_list_append km f h c d b g a
theorem pe_m.pop(c:PE X o to)(b:attributeBase o "pop" X.env (eval o X.env)=eval o X.env:=by rfl)(a:(apos.endLine == cpos.line)=true:=by rfl) :
  PE X (.Call (.Attribute o "pop" apos) [] [] cpos) (Ai X.K "list" At to):=yx F.plainAttrs_list F.slot_list_pop F.type_list_pop yP c b a
end
def TK(H H':Hp):Prop:=∀ b xs,H b=some (.tup xs)->H' b=some (.tup xs)
theorem TK.trans{H f d:Hp}(a:TK H f)(b:TK f d):TK H d:=λc o h=>b c o (a c o h)
theorem Same.tk{H H':Hp}(e:Same H H'):TK H H':=λb a h=>e b _ h
theorem TK.lst{H:Hp}{l:Addr}{xs a:List V}(h:H l=some (.lst xs)):TK H (upd H l (.lst a)):=λb c e=>by
 rw[ag (dD e h (by intro z;cases z))];exact e
theorem Same.put{H H':Hp}{D:Addr}{o:HO}(e:Same H H')(h:H D=none):Same H (upd H' D o):=λb u q=>by
 rw[ag (aE q h)];exact e b u q
theorem eX{a:Type}{xs:List a}{i:Int}{v:a}(k:Nat)(b:(k:Int)=i)(h:xs[k]? = some v):atI xs i=some v:=by rw[<- b];exact aT h
theorem sd(xs:List V)(k:Nat)(h:k<=xs.length):dJ xs none (some (k:Int))=xs.take k:=by
 unfold dJ;rw[HT.sIx_nat,HT.sIx_none,drop_zero,Nat.sub_zero,Nat.min_eq_left h]
theorem rY(xs:List V)(k:Nat):dJ xs (some (k:Int)) none=xs.drop k:=by
 unfold dJ;rw[HT.sIx_nat,HT.sIx_none]
 by_cases h:k<=xs.length
 .rw[Nat.min_eq_left h,take_of_length_le (by simp)]
 .rw[Nat.min_eq_right (by lia),Nat.sub_self,take_zero,List.drop_of_length_le (by lia)]
structure U where
 name:Str
 value:Int
 size:Int
 path:List Str
section
variable {X:Cx}{K:Frag}
theorem qO(h:X.K=K):IxR X (rIx K):=h ▸ cI
theorem jC(h:X.K=K):CallR X (.builtin "len") (λxs H Q=>match xs with
  | [.str z]=>z.length<=sizeLine/\Q (.int z.length) H
  | [.ref p]=>rLenSq K p H Q
  | _=>False):=h ▸ ce
theorem pc(h:X.K=K):OpR X (compareOp .In) (rIn K false):=h ▸ qZ
theorem fm(h:X.K=K){a:List Expr}{k:Nat}{t:TGs}{n:Nat}{b:Pos}(d:X.calm=true)(g:PGs X a t)(f:(assignEach a X.env).length=n:=by rfl)(c:(assignEach a X.env).findIdx? (·.1)=none:=by rfl) :
  PG X (.Tuple a k b) (gTup K n t):=h ▸ eV d g f c
end
structure XCls(K:Frag)(D:Addr):Prop where
 ga:findIn K (.ref D) "__getattribute__" = some (some (.builtin "BaseException.__getattribute__"))
 gn:findIn K (.ref D) "__getattr__" = some none
 cl:findIn K (.ref D) "__class__" = some (some (.builtin "object.__class__"))
 mb:mroIn K D (.type "BaseException")=some true
 mo:mroIn K D (.type "object")=some true
 isc:(clsIn K D).isSome=true
section
variable {prog:Program}{w:World}{A:Around}{E:Value->Shared->Prop}{h:Heap}{g:Array GenState}{d:Drawn}{t:Nat}{os:OsState}{a D:Addr}{o:Obj}{K:Frag}
theorem mO{M:Model}{b:Value}{Q:Unit->Shared->Prop}(c:XCls K D)(X:K.In h)(l:h.get? a=some o)(j:o.cls=.ref D)(i:Q () ⟨h,g,d,t,os⟩) :
  wpAny M A (checkBuiltinCall "BaseException.__getattribute__" ⟨[.ref a,b],[]⟩) Q E ⟨h,g,d,t,os⟩:=by
 have k:builtinKind "BaseException.__getattribute__" = some .slot:=by decide +kernel
 have f:splitId "BaseException.__getattribute__" = some ("BaseException","__getattribute__"):=by decide +kernel
 have n:=F.args_bexc_ga (.ref a) b;simp only[checkBuiltinCall,k,f];refine wpAny_bind ?_;unfold isInstance
 repeat (first | (with_reducible refine wpAny_loadPart_at l ?_;rw[j]) | with_reducible refine(looks_mroIn X c.mb).at ?_ | wp_step)
 exact i
theorem yc{R:Result->Shared->Prop}(c:XCls K D)(X:K.In h)(i:h.get? a=some o)(f:o.cls=.ref D)(k:R (.ok (.ret (.ref D))) ⟨h,g,d,t,os⟩) :
  codeAny (model prog w) A (.call (.builtin "getset_descriptor.__get__") ⟨[.builtin "object.__class__",.ref a,.ref D],[]⟩) R ⟨h,g,d,t,os⟩:=by
 have b:(⟨h,g,d,t,os⟩:Shared).TypeIs (.builtin "object.__class__") "getset_descriptor" := F.typeOf_object_class
 have j:PySem.W.Looks (model prog w) h (isSubtype (.ref D) (.type (".".intercalate ("object.__class__".cutAt '.').dropLast))) true:=by
  rw[F.owner_object_class];exact looks_mroIn X c.mo
 refine codeAny_call_builtin F.slot_gs_get.plain F.entry_gs_get (F.slot_gs_get.check _ _ _ _ _ _ _ _ b (F.args_gs_get _ _ _) ?_)
 repeat (any_goals (first | assumption | (with_reducible refine wpAny_loadPart_at i ?_;rw[f]) | with_reducible refine j.at ?_ | wp_step))
 refine⟨Code.quiet_builtin _ (by decide +kernel),codeAny_builtin F.entry_object_class ?_⟩
 repeat (any_goals (first | assumption | (with_reducible refine wpAny_loadPart_at i ?_;rw[f]) | wp_step))
theorem u7{tk:Tok}{Q:Fin->Shared->Prop}(c:XCls K D)(X:K.In h)(f:h.get? a=some o)(b:o.cls=.ref D)(j:Q (.done (.ret (.ref D))) ⟨h,g,d,t,os⟩) :
  wpAny (model prog w) A (Builtin.«object.__getattribute__» ⟨[.ref a,.str "__class__" tk],[]⟩) Q E ⟨h,g,d,t,os⟩:=by
 have i:(⟨h,g,d,t,os⟩:Shared).TypeIs (.builtin "object.__class__") "getset_descriptor" := F.typeOf_object_class;have l:=F.typeOf_object_class;have k:=F.slot_gs_get.lookup;have n:=F.slot_gs_set.lookup
 repeat (any_goals (first | assumption | (with_reducible refine wpAny_loadPart_at f ?_;rw[b]) | with_reducible refine(looks_findIn X c.cl).at ?_ | wp_step))
 refine yc c X f b ?_
 repeat (any_goals (first | assumption | wp_step))
theorem zO{tk:Tok}{f b:Bool}{Q:Value->Shared->Prop}(c:XCls K D)(X:K.In h)(k:h.get? a=some o)(j:o.cls=.ref D)(p:Q (.ref D) ⟨h,g,d,t,os⟩) :
  wpAny (model prog w) A (getAttrBy (.ref a) (.str "__class__" tk) f b) Q E ⟨h,g,d,t,os⟩:=by
 have q:=PySem.F.attrBase_ValueError.ga.bind (.ref a)
 have l:(b && onTheHeap (Value.builtin "BaseException.__getattribute__"))=false:=by cases b <;> rfl
 have i:(Value.builtin "BaseException.__getattribute__" == Value.builtin "object.__getattribute__")=false:=by decide +kernel
 have n:(onTheHeap (Value.ref D) && Value.builtin "BaseException.__getattribute__" == Value.builtin "object.__getattribute__")=false:=by rw[i];rfl
 repeat (any_goals (first | assumption | (with_reducible refine wpAny_loadPart_at k ?_;rw[j]) | with_reducible refine(looks_findIn X c.ga).at ?_ | with_reducible refine(looks_findIn X c.gn).at ?_ | wp_step))
 refine codeAny_call_builtin PySem.F.attrBase_ValueError.ga.plain F.entry_bexc_ga (mO c X k j (u7 c X k j ?_))
 repeat (any_goals (first | assumption | wp_step))
theorem wp{Q:Option Value->Shared->Prop}(c:XCls K D)(X:K.In h)(b:h.get? a=some o)(f:o.cls=.ref D)(i:Q (some (.ref D)) ⟨h,g,d,t+1,os⟩) :
  wpAny (model prog w) A (getAttr? (.ref a) "__class__") Q E ⟨h,g,d,t,os⟩:=by
 unfold getAttr? getAttrBy?
 repeat (any_goals (first | assumption | with_reducible apply zO c X b f | wp_step))
end
def XAt(a D:Addr)(h:Heap):Prop:=∃ o,h.get? a=some o/\o.cls=.ref D
theorem uO{K:Frag}{a D:Addr}(c:XCls K D):PySem.W.KitX K (.ref a) (.ref D) (XAt a D) where
 ty:=λM h _ p=>by
  obtain⟨o,j,l⟩:=p;exact l ▸ (PySem.W.Looks.ld j).andThen .now
 it:=λ_ _ X _=>by
  obtain⟨f,b⟩:=Option.isSome_iff_exists.mp c.isc;unfold clsIn at b
  split at b
  .rename_i c' d' cd' sl' ho
   intro v w x B k q;unfold isType loadHead;exact wpAny_bind (wpAny_loadPart (k _ _ (X _ _ ho)) (wpAny_pure q))
  .cases b
 ne:=λh u A r n C X i=>by
  obtain⟨f,b⟩:=Option.isSome_iff_exists.mp c.isc;refine Bool.eq_false_iff.mpr λq=>?_
  have e:D=u:=Value.ref.inj (beq_iff_eq.mp q);subst e;unfold clsIn at b
  split at b
  .rename_i c' d' cd' sl' ho
   have z:=(X _ _ ho).symm.trans i;cases z
  .cases b
 ca:=λ{_ _ _ _ _ s} X p k=>by
  obtain⟨h,g,d,t,y⟩:=s;obtain⟨o,j,l⟩:=p;exact wp c X j l k
theorem qC{d:List Addr}{j H:Hp}{g h h2:Heap}(u:Un d [] j H g h)(k:∀ b o,(∃ o',g.get? b=some o')->b ∉ d->h.get? b=some o->h2.get? b=some o)
  (i:∀ b o,b∈d->h.get? b=some o->∃ l,h2.get? b=some { o with slots:=l }):Un d [] j H g h2 where
 keep:=λb o q n a c=>k b o ⟨o,q⟩ a (u.keep b o q n a c)
 slot:=λb o q n a c=>by
  obtain⟨l,e⟩:=u.slot b o q n a c;obtain⟨p,f⟩:=i b _ a e;exact⟨p,f⟩
 free:=u.free
 there:=λb o q c=>by
  obtain⟨o',e⟩:=u.there b o q c
  by_cases a:b∈d
  .obtain⟨l,f⟩:=i b o' a e
   exact⟨_,f⟩
  .exact⟨o',k b o' ⟨o,q⟩ a e⟩
 tups:=u.tups
 frzs:=u.frzs
 tbls:=u.tbls
theorem i4{P:Program}{w:World}{H:Hp}{h h2:Heap}(x:HOk P w H h)(k:∀ b o u,H b=some u->h.get? b=some o->h2.get? b=some o):HOk P w H h2:=λa o e =>
 (x a o e).stay (λb u c q=>by
  rcases c with z | z
  .rw[z]at q ⊢
   exact k a u o e q
  .exact k b u _ z q) (λ_ q=>q) λ_ _ q=>q
theorem ObjOk.isObj{P:Program}{w:World}{H:Hp}{h:Heap}{a:Addr}{o:HO}(x:ObjOk P w H h a o):∃ u,h.get? a=some u:=by
 cases o with
 | lst xs=>obtain⟨_,_,_,_,e⟩:=x;exact⟨_,e⟩
 | tup xs=>obtain⟨_,_,_,_,e,_⟩:=x;exact⟨_,e⟩
 | dK kvs=>obtain⟨_,_,_,_,o,_,_,e,_⟩:=x;exact⟨_,e⟩
 | dT kvs=>obtain⟨_,_,_,_,o,_,_,e,_⟩:=x;exact⟨_,e⟩
 | set S n=>obtain⟨o,_,_,_,e,_⟩:=x;exact⟨_,e⟩
 | ins C dx fs=>obtain⟨_,_,_,e,_⟩:=x;exact⟨_,e⟩
 | own y=>exact x
 | xd fs=>obtain⟨_,⟨_,_,_,e,_⟩,_⟩:=x;exact⟨_,e⟩
 | rng lo hi=>obtain⟨_,_,_,e⟩:=x;exact⟨_,e⟩
 | frz ob u=>exact⟨_,x.1⟩
 | tbl ps=>exact⟨_,x⟩
 | met f y=>exact⟨_,x⟩
 | ext φ=>exact x.2.1
section
variable {P:Program}{w:World}{outer:List Env}{H H':Hp}{s s':Shared}{x D:Addr}{a0:Value}{B:Heap}
end
section
variable {X:Cx}{pins:List (Addr×Obj)}{σ:St}{H H':Hp}{s s':Shared}{x D:Addr}{a0:Value}{B h2:Heap}
theorem wj(J:Inv X pins σ H' s'){b:Addr}(h:∃ o',X.s₀.heap.get? b=some o')(d:b ∉ frs X.outer):b ∉ frs X.stack:=λc=>by
 obtain⟨o',e⟩:=h
 rcases mem_cons.mp (J.stkSub b c) with z | z
 .have a:=Heap.lt_size e
  have f:=J.ok.above;rw[z]at a;exact absurd (Nat.lt_of_lt_of_le a f) (Nat.lt_irrefl _)
 .exact d z
theorem we(J:Inv X pins σ H' s'){b:Addr}{u:HO}(e:H' b=some u):b ∉ frs X.stack:=λa=>by
 rw[J.stkFree b a]at e;cases e
end
section
variable {P:Program}{w:World}{K:Frag}{mg:Str->Option Value}{base:Heap}{N:List Str}{qual:Str}{scope:Scope}{f:Addr}{cdv:Value}{A:Around}{outer:List Env}{s0:Shared}{H0:Hp}{E:XK}
end
section
variable {P:Program}{w:World}{K:Frag}{mg:Str->Option Value}{base:Heap}
end
structure XHd(K:Frag)(C:Addr):Prop where
 isc:(clsIn K C).isSome=true
 ty:typeIn K (.ref C)=some (.type "type")
 mb:mroIn K C (.type "BaseException")=some true
theorem nO{K:Frag}{M:Model}{h:Heap}{C:Addr}(X:K.In h)(e:(clsIn K C).isSome=true):PySem.W.Looks M h (isType (.ref C)) true:=by
 obtain⟨b,a⟩:=Option.isSome_iff_exists.mp e;unfold clsIn at a
 split at a
 .rename_i c' d' cd' sl' ho
  intro c g d f k q;unfold isType loadHead;exact wpAny_bind (wpAny_loadPart (k _ _ (X _ _ ho)) (wpAny_pure q))
 .cases a
theorem jV{K:Frag}{M:Model}{h:Heap}{C D x:Addr}{ob:Obj}(X:K.In h)(c:XHd K C)(f:h.get? x=some ob)(b:ob.cls=.ref D)(i:mroIn K D (.ref C)=some true) :
  PySem.W.Looks M h (excMatches (.ref x) (.ref C)) true:=by
 have l:PySem.W.Looks M h (typeOf (.ref C)) (.type "type"):=looks_typeIn X c.ty;have a:PySem.W.Looks M h (isSubtype (.type "type") (.type "tuple")) false:=PySem.W.Looks.of_pure tc_notTuple;have d:PySem.W.Looks M h (isInstance (.ref C) (.type "tuple")) false:=l.andThen a
 have g:PySem.W.Looks M h (isExcClass (.ref C)) true:=by
  unfold isExcClass;exact(nO X c.isc).andThen (looks_mroIn X c.mb)
 have j:PySem.W.Looks M h (typeOf (.ref x)) (.ref D):=b ▸ (PySem.W.Looks.ld f).andThen .now;have n:PySem.W.Looks M h (isSubtype (.ref D) (.ref C)) true:=looks_mroIn X i;intro A Q E s k q;unfold excMatches;refine wpAny_bind (d A _ E s k ?_);rw[if_neg Bool.false_ne_true];refine wpAny_bind (wpAny_pure ?_);simp only[forIn_cons,List.forIn_nil,bind_assoc,pure_bind];refine wpAny_bind (g A _ E s k ?_);simp only[Bool.not_true,Bool.false_eq_true,if_false,pure_bind];refine wpAny_bind (j A _ E s k ?_);refine wpAny_bind (n A _ E s k ?_);simp only[if_true,pure_bind];exact wpAny_pure q
def Cx.inX(X:Cx)(x:Addr):Cx:={ X with A:=X.A.mark (some (.ref x)),calm:=false,xe:=λ_ _=>False }
section
variable {X:Cx}{pins:List (Addr×Obj)}{σ:St}{H H' H1:Hp}{s s' s1:Shared}{x D C:Addr}{a0:Value}{B h2:Heap}
theorem Inv.inX(I:Inv X pins σ H s)(x:Addr):Inv (X.inX x) pins σ H s :=
 ⟨⟨I.ok.mod,I.ok.kind,I.ok.glob,I.ok.blt,I.ok.above,I.ok.inj,I.ok.has,I.ok.cab,λz=>absurd (show false=true from z) Bool.false_ne_true,I.ok.frames,I.ok.stk,I.ok.exf,I.ok.bs,I.ok.bsz,I.ok.noex,I.ok.exfs,I.ok.funs,I.ok.frf⟩,
  I.os,I.bare,I.base,I.loc,I.cell,I.free,I.freeC,I.pin,I.hok,I.len⟩
theorem Inv.outX(a:X.calm=true->X.A.handled=none)(I:Inv (X.inX x) pins σ H s):Inv X pins σ H s :=
 ⟨⟨I.ok.mod,I.ok.kind,I.ok.glob,I.ok.blt,I.ok.above,I.ok.inj,I.ok.has,I.ok.cab,a,I.ok.frames,I.ok.stk,I.ok.exf,I.ok.bs,I.ok.bsz,I.ok.noex,I.ok.exfs,I.ok.funs,I.ok.frf⟩,
  I.os,I.bare,I.base,I.loc,I.cell,I.free,I.freeC,I.pin,I.hok,I.len⟩
theorem Inv.gone{i:Nat}{n:Str}{m:Str->Option Value}{v:Option Value}{h':Heap}{t':Nat}(I:Inv X pins σ H s)(G:X.N.Nodup)(B:X.N[i]? = some n)(hl:X.env.kindOf n = some .local)
  (N:∀(j:Nat) (y:Str) (w:V),X.N[j]? = some y->σ[j]? = some (some w)->Vis X.env.scope y->∃ u,RelV w u/\Ak X.env s.heap m y u)
  (R:h'.Ns X.env.locals (λy=>if y = n then v else m y)) (a:Heap.SameBut X.env.locals s.heap h'):Inv X pins (σ.set i none) H { s with heap:=h',toks:=t' }:=by
 have Q:i<σ.length:=by rw[I.len];exact(List.getElem?_eq_some_iff.mp B).1
 have d:∀ b o,X.s₀.heap.get? b = some o->b≠X.env.locals:=λb o e=>Nat.ne_of_lt (Nat.lt_of_lt_of_le (Heap.lt_size e) I.ok.above)
 have u:=I.base;refine⟨I.ok,I.os,I.bare,⟨λb o e n C f=>(a.2 b (d b o e)).trans (u.keep b o e n C f),λb o e n C f=>?_,u.free,λb o e f=>?_,u.tups,u.frzs,u.tbls⟩,⟨_,R,λj y w e1 e2 e3=>?_⟩,λx c e=>?_,I.free,I.freeC,λp hp=>?_,?_,by rw[length_set];exact I.len⟩
 .obtain⟨K,k⟩:=u.slot b o e n C f
  exact⟨K,(a.2 b (d b o e)).trans k⟩
 .obtain⟨P,k⟩:=u.there b o e f
  exact⟨P,(a.2 b (d b o e)).trans k⟩
 .have g:i≠j:=λz=>by
   subst z;rw[List.getElem?_set_self Q]at e2;cases e2
  rw[List.getElem?_set_ne g]at e2
  have F:y≠n:=λz=>by
   subst z;exact g ((List.getElem?_inj (List.getElem?_eq_some_iff.mp B).1 G).mp (B.trans e1.symm))
  obtain⟨E,r,l⟩:=N j y w e1 e2 e3;refine⟨E,r,?_⟩
  rcases l with⟨A,h⟩ | ⟨A,c,h,T⟩
  .exact .inl ⟨A,by simp only[if_neg F];exact h⟩
  .exact .inr ⟨A,c,h,T.sameBut a (I.cne y c h)⟩
 .obtain⟨Z,z⟩:=I.cell x c e
  exact⟨Z,z.sameBut a (I.cne x c e)⟩
 .obtain⟨M,W,D,Y,L⟩:=I.pin p hp
  exact⟨(a.2 _ D).trans M,W,D,Y,L⟩
 .exact i4 I.hok λb o E e q=>(a.2 b λz=>by rw[z,I.free]at e;cases e).trans q
end
section
variable {X:Cx}{pins:List (Addr×Obj)}{σ:St}{H H' H1:Hp}{s s' s1:Shared}{x D C:Addr}{a0:Value}{B h2:Heap}{cn en:Str}{ie:Nat}{b₀:Stmt}{suite:List Stmt}{cp hp:Pos}{ts:TS}{DE:Ends}
def Ends.asG(DE:Ends)(ie:Nat):Ends:={ nx:=λσ' H'=>DE.nx (σ'.set ie none) H',rt:=λ_ _=>False }
end
section
variable {X:Cx}{k ie:Nat}{f C:Addr}{fd:FuncData}{ps:List Str}{sp:Sp}{dvs:List V}{ds:List Value}{fx cn en:Str}{p pos p2 cp hp tp:Pos}{e:Expr}{es:List Expr}{t:TA}{b₀:Stmt}{suite:List Stmt}{ts:TS}
end
def TyX(K:Frag)(H:Hp)(x:V)(t:Value):Prop:=TyOf K H x t\/∃ a D φ,x=.ref a/\t=.ref D/\XCls K D/\H a=some (.ext φ)/\∀ h,φ h->XAt a D h
section
variable {X:Cx}
open PySem.W in
theorem AV{b:List (Addr×Obj)}{σ:St}{H:Hp}{s:Shared}{x:V}{u t:Value}(I:Inv X b σ H s)(f:RelV x u)(ty:TyX X.K H x t) :
  ∃ Hh:Heap->Prop,KitX X.K u t Hh/\Hh s.heap/\u≠.builtin "__main__.__loader__#opaque" := by
 rcases ty with ty | ⟨a,D,g,rfl,rfl,c,e,d⟩
 .exact oJ I f ty
 .cases(show u=Value.ref a from f)
  exact⟨_,uO c,d _ (I.hok a _ e).1,λz=>nomatch z⟩
end
section
variable {prog:Program}{w:World}{A:Around}{E:Value->Shared->Prop}{h:Heap}{g:Array GenState}{d:Drawn}{t:Nat}{os:OsState}{a D dx:Addr}{o:Obj}{vs:Array Value}{cd:ClassData}{K:Frag}{name:Str}{mA:Str->Option Value}{v:Value}
theorem tL{tk:Tok}{Q:Fin->Shared->Prop}(X:K.In h)(p:findIn K (.ref D) name=some none)(l:clsIn K D=some cd)(b:cd.hasDict=true)(i:h.get? a=some o)(f:o.cls=.ref D)(c:o.data=.fields vs)(k:o.dict=some dx)
  (n:h.Ns dx mA) (q:mA name=some v) (j:Q (.done (.ret v)) ⟨h,g,d,t,os⟩):wpAny (model prog w) A (Builtin.«object.__getattribute__» ⟨[.ref a,.str name tk],[]⟩) Q E ⟨h,g,d,t,os⟩:=by
 unfold Builtin.«object.__getattribute__»
 repeat (any_goals (first | assumption | (with_reducible refine wpAny_loadPart_at i ?_;rw[f]) | with_reducible refine(looks_findIn X p).at ?_ | wp_step))
 rw[c];show wpAny _ _ (instanceDict a false) _ _ _;unfold instanceDict;refine wpAny_bind (wpAny_loadPart_at i ?_);rw[f];refine wpAny_bind ((looks_clsIn X l).at ?_);rw[b,k];simp only[Bool.not_true,Bool.false_eq_true,if_false];refine wpAny_pure ?_;unfold Builtin.ObjectAttr.inDict;refine wpAny_nsGet n ?_;rw[q];refine wpAny_bind (wpAny_rule (wpAny_pure ?_));exact wpAny_pure j
theorem AI{tk:Tok}{f b:Bool}{Q:Value->Shared->Prop}(c:XCls K D)(X:K.In h)(z:findIn K (.ref D) name=some none)(q:clsIn K D=some cd)(i:cd.hasDict=true)(l:h.get? a=some o)(k:o.cls=.ref D)
  (n:o.data=.fields vs) (r:o.dict=some dx) (x:h.Ns dx mA) (B:mA name=some v) (u:∀ id,v≠.builtin id) (p:Q v ⟨h,g,d,t,os⟩) :
  wpAny (model prog w) A (getAttrBy (.ref a) (.str name tk) f b) Q E ⟨h,g,d,t,os⟩:=by
 have C:=PySem.F.attrBase_ValueError.ga.bind (.ref a)
 have y:(b && onTheHeap (Value.builtin "BaseException.__getattribute__"))=false:=by cases b <;> rfl
 have j:(Value.builtin "BaseException.__getattribute__" == Value.builtin "object.__getattribute__")=false:=by decide +kernel
 have s:(onTheHeap (Value.ref D) && Value.builtin "BaseException.__getattribute__" == Value.builtin "object.__getattribute__")=false:=by rw[j];rfl
 repeat (any_goals (first | assumption | (with_reducible refine wpAny_loadPart_at l ?_;rw[k]) | with_reducible refine(looks_findIn X c.ga).at ?_ | with_reducible refine(looks_findIn X c.gn).at ?_ | wp_step))
 refine codeAny_call_builtin PySem.F.attrBase_ValueError.ga.plain F.entry_bexc_ga (mO c X l k (tL X z q i l k n r x B ?_))
 repeat (any_goals (first | assumption | wp_step))
 cases v with
 | builtin id=>exact absurd rfl (u id)
 | _=>exact wpAny_pure p
theorem wb{b:Bool}{Q:Value->Shared->Prop}(c:XCls K D)(X:K.In h)(r:findIn K (.ref D) name=some none)(l:clsIn K D=some cd)(f:cd.hasDict=true)(q:h.get? a=some o)(k:o.cls=.ref D)
  (i:o.data=.fields vs) (j:o.dict=some dx) (p:h.Ns dx mA) (s:mA name=some v) (n:∀ id,v≠.builtin id) (u:Q v ⟨h,g,d,t+1,os⟩) :
  wpAny (model prog w) A (getAttr (.ref a) name b) Q E ⟨h,g,d,t,os⟩:=by
 unfold getAttr
 repeat (any_goals (first | assumption | with_reducible apply AI c X r l f q k i j p s n | wp_step))
abbrev bmV:List Value:=[.type "ValueError",.type "Exception",.type "BaseException",.type "object"]
def zF:Value->Bool
 | .ref _=>true
 | _=>false
def ka(l:List Value):Bool:=l.dropWhile zF == bmV
theorem nL(a:Value):∀{l:List Value},ka l=true->refuseLoop a "__setattr__" l=pure ()
 | [],e=>by cases e
 | x::r,e=>by
  by_cases hx:zF x=true
  .have b:ka r=true:=by
    unfold ka at e ⊢;rw[List.dropWhile_cons_of_pos hx]at e;exact e
   cases x <;> first | exact absurd hx Bool.false_ne_true | (rw[refuseLoop_ref];exact nL a b)
  .unfold ka at e
   rw[List.dropWhile_cons_of_neg hx]at e;rw[beq_iff_eq.mp e];exact PySem.F.store_ValueError.passes a
structure XSet(K:Frag)(D:Addr)(name:Str)(cd:ClassData):Prop where
 k:clsIn K D=some cd
 dct:cd.hasDict=true
 mro:ka cd.mro=true
 mo:mroIn K D (.type "object")=some true
 sa:findIn K (.ref D) "__setattr__" = some (some (.builtin "object.__setattr__"))
 na:findIn K (.ref D) name=some none
theorem pZ{tk:Tok}{Q:Fin->Shared->Prop}(c:XSet K D name cd)(X:K.In h)(k:h.get? a=some o)(i:o.cls=.ref D)
  (f:wpAny (model prog w) A (instanceDict a true) (λr s'=>wpAny (model prog w) A (match r with | some d'=>Builtin.ObjectAttr.storeInDict d' (.str name tk) name v | none=>Builtin.ObjectAttr.noDictFor (.ref a) (.ref D) name false) Q E s') E ⟨h,g,d,t,os⟩) :
  wpAny (model prog w) A (Builtin.«object.__setattr__» ⟨[.ref a,.str name tk,v],[]⟩) Q E ⟨h,g,d,t,os⟩:=by
 have b:PySem.W.Looks (model prog w) h (typeOf (.ref a)) (.ref D):=i ▸ (PySem.W.Looks.ld k).andThen .now;have j:PySem.W.Looks (model prog w) h (mroOf (.ref D)) cd.mro:=(looks_clsIn X c.k).andThen .now;rw[osa_eq,refuse_eq];refine wpAny_bind (wpAny_bind (b.at (wpAny_bind (j.at ?_))));rw[nL _ c.mro];refine wpAny_pure (wpAny_bind (b.at (wpAny_bind ((looks_findIn X c.na).at ?_))));refine wpAny_bind (wpAny_pure ?_);show wpAny _ _ (Builtin.ObjectAttr.storeInOwnDict (.ref a) (.ref D) (.str name tk) name v false) _ _ _;unfold Builtin.ObjectAttr.storeInOwnDict;refine wpAny_bind (wpAny_pure ?_);rw[if_neg (show ¬((Value.ref D == Value.type "module")=true) from λz=>by cases eq_of_beq z)];exact wpAny_bind f
theorem nG{tk:Tok}{Q:Fin->Shared->Prop}{a:Addr}{f:List Str}(n:h.Ns1 a mA)(j:PySem.Within mA f)(hz:f.length<=1000)
  (i:∀ h',h'.Ns1 a (λy=>if y=name then some v else mA y)->Heap.SameBut a h h'->Q (.done (.ret .none)) ⟨h',g,d,t+1,os⟩) :
  wpAny (model prog w) A (Builtin.ObjectAttr.storeInDict a (.str name tk) name v) Q E ⟨h,g,d,t,os⟩:=by
 unfold Builtin.ObjectAttr.storeInDict Builtin.ObjectAttr.newKeyGuard;refine wpAny_bind (wpAny_pure (wpAny_bind (wpAny_nsSet1 n λq c l=>?_)));obtain⟨u,b,k,s,p,r⟩:=c.count (PySem.Within.cons name v j);have o:b.size<=sizeLine:=Nat.le_trans r (by rw[length_cons,sizeLine_eq];lia);refine wpAny_bind (wpAny_lookBehind s (by rw[p];exact pastItsLine_dict (Nat.le_succ_of_le o)) ?_);exact wpAny_pure (i q c l)
theorem uU{tk:Tok}{Q:Fin->Shared->Prop}(c:XSet K D name cd)(X:K.In h)(k:h.get? a=some o)(l:o.cls=.ref D)(f:o.data=.fields vs)(p:o.dict=none)
  (n:∀ h',h'.Ns1 h.objs.size (λy=>if y=name then some v else none)->h'.get? a=some { o with dict:=some h.objs.size }->(∀ b u,b≠a->h.get? b=some u->h'.get? b=some u)->Q (.done (.ret .none)) ⟨h',g,d,t+1,os⟩) :
  wpAny (model prog w) A (Builtin.«object.__setattr__» ⟨[.ref a,.str name tk,v],[]⟩) Q E ⟨h,g,d,t,os⟩:=by
 refine pZ c X k l ?_;have i:(h.push { cls:=.type "dict",data:=.dict #[] }).get? a=some o:=Heap.get?_push_of_some _ k;have j:a≠h.objs.size:=Nat.ne_of_lt (Heap.lt_size k);unfold instanceDict;refine wpAny_bind (wpAny_loadPart_at k ?_);rw[l];refine wpAny_bind ((looks_clsIn X c.k).at ?_);rw[c.dct,p,f];simp only[Bool.not_true,Bool.false_eq_true,if_false];rw[if_neg (by simp[typeHasDict])];refine wpAny_bind (wpAny_alloc' (wpAny_bind (wpAny_update' i (wpAny_pure ?_))))
 have q:((h.push { cls:=.type "dict",data:=.dict #[] }).update a λu=>{ u with dict:=some h.objs.size }).get? h.objs.size=some { cls:=.type "dict",data:=.dict #[] } :=
  (Heap.get?_update_ne _ _ _ _ j.symm).trans (Heap.get?_push_at rfl rfl)
 refine nG (Heap.Ns1.of_empty ⟨_,#[],_,q,rfl,λu r=>absurd r (by simp),λ_=>rfl⟩) PySem.Within.nil (by simp) λh2 n2 s2=>n h2 n2 ?_ λb u hb e=>?_
 .refine(s2.2 a j).trans (Heap.get?_update_self _ i ?_)
  rw[Obj.isFreed_of_fields (vs:=vs)];exact f
 .exact(s2.2 b (Nat.ne_of_lt (Heap.lt_size e))).trans ((Heap.get?_update_ne _ _ _ _ hb).trans (Heap.get?_push_of_some _ e))
theorem vO{tk:Tok}{Q:Fin->Shared->Prop}{i:List Str}(c:XSet K D name cd)(X:K.In h)(f:h.get? a=some o)(b:o.cls=.ref D)(l:o.dict=some dx)(n:h.Ns1 dx mA)(k:PySem.Within mA i)(hz:i.length<=1000)
  (j:∀ h',h'.Ns1 dx (λy=>if y=name then some v else mA y)->Heap.SameBut dx h h'->Q (.done (.ret .none)) ⟨h',g,d,t+1,os⟩) :
  wpAny (model prog w) A (Builtin.«object.__setattr__» ⟨[.ref a,.str name tk,v],[]⟩) Q E ⟨h,g,d,t,os⟩:=by
 refine pZ c X f b ?_;unfold instanceDict;refine wpAny_bind (wpAny_loadPart_at f ?_);rw[b];refine wpAny_bind ((looks_clsIn X c.k).at ?_);rw[c.dct,l];simp only[Bool.not_true,Bool.false_eq_true,if_false];exact wpAny_pure (nG n k hz j)
theorem qJ{Q:Unit->Shared->Prop}(c:XSet K D name cd)(X:K.In h)(i:h.get? a=some o)(f:o.cls=.ref D)
  (j:∀(B:Around) (tk:Tok) (Q':Fin->Shared->Prop) (E':Value->Shared->Prop),(∀ s',Q () s'->Q' (.done (.ret .none)) s')->wpAny (model prog w) B (Builtin.«object.__setattr__» ⟨[.ref a,.str name tk,v],[]⟩) Q' E' ⟨h,g,d,t+1,os⟩) :
  wpAny (model prog w) A (setAttr (.ref a) name v) Q E ⟨h,g,d,t,os⟩:=by
 have n:=PySem.F.store_ValueError.slot.bind (.ref a);have b:=PySem.F.store_ValueError;have k:PySem.W.Looks (model prog w) h (typeOf (.ref a)) (.ref D):=f ▸ (PySem.W.Looks.ld i).andThen .now;have l:PySem.W.Looks (model prog w) h (isInstance (.ref a) (.type "object")) true:=k.andThen (looks_mroIn X c.mo);unfold setAttr callSpecial? specialOf
 repeat (any_goals (first | assumption | (with_reducible refine wpAny_loadPart_at i ?_;rw[f]) | with_reducible refine(looks_findIn X c.sa).at ?_ | wp_step))
 refine codeAny_call_builtin b.slot.plain b.entry (@PySem.W.check_slot (model prog w) _ _ ⟨h,g,d,t+1,os⟩ "object.__setattr__" "object" "__setattr__" (.ref a) [.str name t,v] [] _ b.kind b.split l (b.args (.ref a) (.str name t) v) ?_);exact j _ t _ _ λs' q=>wpAny_pure (wpAny_pure q)
end
section
variable {prog:Program}{w:World}{A:Around}{E:Value->Shared->Prop}{h:Heap}{g:Array GenState}{d:Drawn}{t:Nat}{os:OsState}
variable {nm q:Str}{C N fI:Addr}{bs bm bmB:List Value}{hdct:Bool}{sn:List Str}{sub:List Value}{ab:Bool}{col:Option Bool}{dd:Option Addr}{k0 k1 k2 k3 k5:Option Value}{B newId initId:String}{mN:Str->Option Value}{rest:List Value}{oI:Obj}
abbrev eT(h:Heap)(C:Addr)(rest:List Value):Heap:=(h.push { cls:=.type "tuple",data:=.seq rest.toArray }).push { cls:=.ref C,data:=.fields #[.ref h.objs.size,.none,.none,.none,.bool false,.none] }
theorem xa{Q:Fin->Shared->Prop}(F:ExcBaseFacts B newId initId bmB)(T:OwnTail h bmB bm)(a:h.get? C=some (excClassObj nm q C N bs bm hdct sn sub ab col dd k0 k1 k2 k3 k5 newId))(s:h.Ns N mN)(p:mN "__init__" = some (.ref fI))
  (y:h.get? fI=some oI) (i:oI.cls=.type "function") (hz:rest.length<=sizeLine)
  (k:wpAny (model prog w) A (call (.ref fI) (.ref (h.objs.size+1)::rest)) (λr s'=>r=.none/\Q (.done (.ret (.ref (h.objs.size+1)))) s') E ⟨eT h C rest,g,d,t,os⟩) :
  wpAny (model prog w) A (Builtin.«type.__call__» ⟨.ref C::rest,[]⟩) Q E ⟨h,g,d,t,os⟩:=by
 have f:∀ b o,h.get? b=some o->(eT h C rest).get? b=some o:=λb o e=>Heap.get?_push_of_some _ (Heap.get?_push_of_some _ e)
 have j:=f C _ a;have v:(eT h C rest).Ns N mN:=s.keeps f;have x:OwnTail (eT h C rest) bmB bm:=T.keeps f;have u:(eT h C rest).get? (h.objs.size+1)=some { cls:=.ref C,data:=.fields #[.ref h.objs.size,.none,.none,.none,.bool false,.none] }:=by heap_get
 have c:(Value.ref C::bm).contains (.ref C)=true:=by simp
 repeat (first | with_reducible refine wpAny_loadPart_at a ?_ | with_reducible refine wpAny_madeBy_exc a ?_ | wp_step)
 refine codeAny_call_builtin_code (Code.quiet_builtin _ F.quiet) (wpAny_check_new_subT F T a (codeAny_exc_new_subT F T a ?_ hz));show wpAny _ _ _ _ _ ⟨eT h C rest,g,d,t,os⟩;unfold isInstance
 repeat (first | with_reducible refine wpAny_loadPart_at u ?_ | (with_reducible refine wpAny_isSubtype_exc j ?_;rw[c]) | wp_step)
 show wpAny _ _ (typeLookup (.ref C) _) _ _ _;refine wpAny_typeLookup_tail j v x F.mroIs F.init.lookup ?_;rw[p];refine wpAny_holding (wpAny_bind ?_);unfold bindSpecial;refine wpAny_bind (wpAny_typeOf (T := "function") ⟨oI,f fI _ y,i⟩ ?_);rw[if_pos (by decide)];refine wpAny_pure (wpAny_bind (wpAny_mono k (λr s' l=>?_) λ_ _ z=>z));obtain⟨rfl,n⟩:=l
 wp_walk
 exact n
theorem xp{Q:Value->Shared->Prop}(F:ExcBaseFacts B newId initId bmB)(T:OwnTail h bmB bm)(a:h.get? C=some (excClassObj nm q C N bs bm hdct sn sub ab col dd k0 k1 k2 k3 k5 newId))(i:h.Ns N mN)(f:mN "__init__" = some (.ref fI))
  (j:h.get? fI=some oI) (b:oI.cls=.type "function") (hz:rest.length<=sizeLine)
  (c:wpAny (model prog w) (A.under (.builtin "type.__call__" ⟨.ref C::rest,[]⟩)) (call (.ref fI) (.ref (h.objs.size+1)::rest)) (λr s'=>r=.none/\Q (.ref (h.objs.size+1)) s') E ⟨eT h C rest,g,d,t,os⟩) :
  wpAny (model prog w) A (call (.ref C) rest) Q E ⟨h,g,d,t,os⟩:=by
 have l:=tc_lookup;have n:=tc_bind (.ref C);have k:(⟨h,g,d,t,os⟩:Shared).TypeIs (.ref C) "type" := ⟨_,a,rfl⟩;refine wpAny_call (codeAny_of_tree ?_);show wpAny _ _ (callAny (.ref C) _) _ _ _
 repeat (any_goals (first | assumption | with_reducible refine wpAny_loadPart_at a ?_ | wp_step))
 exact⟨rfl,codeAny_call_builtin_at (Code.quiet_builtin _ (by decide +kernel)) entry_typeCall (wpAny_check_type_call_sub a (xa F T a i f j b hz c))⟩
end
def XD0(a D:Addr):Heap->Prop:=λh=>∃ o vs,h.get? a=some o/\o.cls=.ref D/\o.data=.fields vs/\o.dict=none/\vs[1]? = some .none/\vs[2]? = some .none
def XD1(a D dx:Addr):Heap->Prop:=λh=>∃ o vs,h.get? a=some o/\o.cls=.ref D/\o.data=.fields vs/\o.dict=some dx/\vs[1]? = some .none/\vs[2]? = some .none
def XDct(dx:Addr)(fs:List (Str×V)):Heap->Prop:=λh=>∃ mA,h.Ns1 dx mA/\∀ f,RelO (fs.lookup f) (mA f)
section
variable {P:Program}{w:World}{H:Hp}{h:Heap}{a D dx:Addr}{fs:List (Str×V)}
theorem XD0.ok(x:XD0 a D h):ObjOk P w H h a (.ext (XD0 a D)):=⟨x,let ⟨o,_,e,_⟩:=x;⟨o,e⟩,λ_ _ ⟨o,b,e,r⟩ k=>⟨o,b,k o e,r⟩⟩
theorem XD1.ok(x:XD1 a D dx h):ObjOk P w H h a (.ext (XD1 a D dx)):=⟨x,let ⟨o,_,e,_⟩:=x;⟨o,e⟩,λ_ _ ⟨o,b,e,r⟩ k=>⟨o,b,k o e,r⟩⟩
theorem XDct.ok(x:XDct dx fs h):ObjOk P w H h dx (.ext (XDct dx fs)):=⟨x,let ⟨_,⟨o,_,_,e,_⟩,_⟩:=x;⟨o,e⟩,λ_ _ ⟨a,n,r⟩ k=>⟨a,n.at k,r⟩⟩
end
section
variable {X:Cx}{pins:List (Addr×Obj)}{σ:St}{H:Hp}{s:Shared}{h':Heap}{x dx D:Addr}{φ:Heap->Prop}{ox od:HO}
theorem Inv.tracked{t':Nat}(I:Inv X pins σ H s)(k:∀ b u,s.heap.get? b=some u->h'.get? b=some u)(f:s.heap.get? x=none)(d:ObjOk X.prog X.w (upd H x ox) h' x ox):Inv X pins σ (upd H x ox) { s with heap:=h',toks:=t' }:=by
 have g:H x=none:=by
  cases q:H x with
  | none=>rfl
  | some u =>
   obtain⟨o,e⟩:=(I.hok x u q).isObj;rw[f]at e;cases e
 have h:∀ b o,s.heap.get? b=some o->b≠x:=λb o e z=>by rw[z,f]at e;cases e
 have a:∀ b u,H b=some u->b≠x:=λb u e z=>by rw[z,g]at e;cases e
 refine I.un ⟨λb o e _ _ _=>k b o e,λb o e _ _ _=>⟨o.slots,k b o e⟩,λb o e n _=>?_,λb o e _=>⟨o,k b o e⟩,λb xs e=>?_,λb o u e=>?_,λb ps e=>⟨#[],?_⟩⟩ λb u e=>?_
 .rw[ag (h b o e)];exact n
 .rw[ag (a b _ e)];exact e
 .rw[ag (a b _ e)];exact e
 .rw[ag (a b _ e),e];simp
 .by_cases hb:b=x
  .subst hb
   rw[ae]at e;cases e;exact d
  .rw[ag hb]at e
   exact(I.hok b u e).stay (λc v _ q=>k c v q) (λc q=>by rw[ag (a c _ q)];exact q) λc xs q=>by rw[ag (a c _ q)];exact q
theorem Inv.put2{t':Nat}(I:Inv X pins σ H s)(d:H x=some (.ext φ))(j:s.heap.objs.size<=dx)(k:∀ b u,b≠x->s.heap.get? b=some u->h'.get? b=some u)(l:ObjOk X.prog X.w (upd (upd H dx od) x ox) h' x ox)
  (A:ObjOk X.prog X.w (upd (upd H dx od) x ox) h' dx od):Inv X pins σ (upd (upd H dx od) x ox) { s with heap:=h',toks:=t' }:=by
 have a:H dx=none:=I.hok.fresh j;have r:x≠dx:=λz=>by rw[z,a]at d;cases d
 have w:∀ b o,s.heap.get? b=some o->b≠dx:=λb o e=>Nat.ne_of_lt (Nat.lt_of_lt_of_le (Heap.lt_size e) j)
 have f:∀ b u,H b=some u->b≠dx:=λb u e z=>by rw[z,a]at e;cases e
 have h:∀ b,H b=none->b≠x:=λb e z=>by rw[z,d]at e;cases e
 have g:∀ b u,H b=some u->(∀ ψ,u≠.ext ψ)->b≠x:=λb u e n z=>by
  rw[z,d]at e;cases e;exact n φ rfl
 obtain⟨y,i⟩:=l.isObj;refine I.un ⟨λb o e n _ _=>k b o (h b n) e,λb o e n _ _=>⟨o.slots,k b o (h b n) e⟩,λb o e n _=>?_,λb o e _=>?_,λb xs e=>?_,λb o u e=>?_,λb ps e=>⟨#[],?_⟩⟩ λb u e=>?_
 .rw[ag (h b n),ag (w b o e)];exact n
 .by_cases hb:b=x
  .subst hb;exact⟨y,i⟩
  .exact⟨o,k b o hb e⟩
 .rw[ag (g b _ e λ_ z=>nomatch z),ag (f b _ e)];exact e
 .rw[ag (g b _ e λ_ z=>nomatch z),ag (f b _ e)];exact e
 .rw[ag (g b _ e λ_ z=>nomatch z),ag (f b _ e),e];simp
 .by_cases hb:b=x
  .subst hb
   rw[ae]at e;cases e;exact l
  .by_cases hb2:b=dx
   .subst hb2
    rw[ag hb,ae]at e;cases e;exact A
   .rw[ag hb,ag hb2]at e
    refine(I.hok b u e).stay (λc v p q=>k c v ?_ q) (λc q=>?_) λc xs q=>?_
    .rintro rfl
     rcases p with z | z
     .exact hb z.symm
     .rw[d]at z;cases z
    .rw[ag (g c _ q λ_ z=>nomatch z),ag (f c _ q)];exact q
    .rw[ag (g c _ q λ_ z=>nomatch z),ag (f c _ q)];exact q
end
def Au(K:Frag)(ta tv:TE)(f:Str):TS:=λD σ H=>tv σ H λy H1=>ta σ H1 λx H2=>∃ a C cd,x=.ref a/\XSet K C f cd /\
 ((H2 a=some (.ext (XD0 a C))/\∀ dx,H2 dx=none->dx≠a->D.nx σ (upd (upd H2 dx (.ext (XDct dx [(f,y)]))) a (.ext (XD1 a C dx)))) \/
  ∃ dx fs,H2 a=some (.ext (XD1 a C dx))/\H2 dx=some (.ext (XDct dx fs))/\fs.length<=900/\D.nx σ (upd H2 dx (.ext (XDct dx ((f,y)::fs)))))
theorem wJ{v:V}{u:Value}(r:RelV v u):∀ id,u≠.builtin id:=λid z=>by
 subst z;cases v with
 | non=>cases r
 | bl b=>cases r
 | int i=>obtain⟨_,z⟩:=r;cases z
 | str x=>obtain⟨_,z⟩:=r;cases z
 | byt b=>obtain⟨_,z⟩:=r;cases z
 | flt b=>obtain⟨_,z⟩:=r;cases z
 | ref a=>cases r
 | ty n=>cases r
theorem fb{f g:Str}{y:V}{a:List (Str×V)}:List.lookup g ((f,y)::a)=if g=f then some y else a.lookup g:=by
 rw[lookup_cons]
 by_cases z:g=f
 .rw[if_pos z,show(g == f)=true by simpa using z]
 .rw[if_neg z,show(g == f)=false by simpa using z]
section
variable {X:Cx}{o e value:Expr}{f:Str}{pos pos' tpos:Pos}{ta tv:TE}
theorem wZ(ha:PE X o ta)(hv:PE X value tv)(hs:swapsWith value (some (.Attribute o f pos')) pos.line X.env=pure false):PS X (.Assign [.Attribute o f pos'] value pos) (Au X.K ta tv f):=by
 intro d s p H D I h;refine plainObj_wpAny_Assign_Attribute (thn (hv d s p H _ I h) λu s1 ⟨y,H1,T,M,q⟩=>thn (ha d s1 p H1 _ T q) λov s2 ⟨x,H2,I2,rx,a,C,cd,ex,c,l⟩=>?_) hs;subst ex;obtain rfl:ov=Value.ref a:=rx;obtain⟨k,g2,d2,N,Q⟩:=s2
 rcases l with⟨n,l⟩ | ⟨dx,A,n,P,hl,l⟩
 .obtain⟨⟨ob,L,j,i,w,F,G⟩,_⟩:=I2.hok a _ n
  refine qJ c I2.kIn j i λB tk Q' E' r=>uU c I2.kIn j i w F λh' n' o' k'=>r _ ?_
  have Z:H2 k.objs.size=none:=I2.hok.fresh (Nat.le_refl _);have E:k.objs.size≠a:=Nat.ne_of_gt (Heap.lt_size j);refine⟨p,_,I2.put2 (t':=N+1+1) (h':=h') (x:=a) (dx:=k.objs.size) (od:=.ext (XDct k.objs.size [(f,y)])) (ox:=.ext (XD1 a C k.objs.size)) n (Nat.le_refl _) k' (XD1.ok ⟨_,L,o',i,w,rfl,G⟩) (XDct.ok ⟨_,n',λg=>?_⟩),l _ Z E⟩;rw[fb]
  by_cases z:g=f
  .rw[if_pos z,if_pos z];exact M
  .rw[if_neg z,if_neg z];exact True.intro
 .obtain⟨⟨ob,L,j,i,w,F,G⟩,_⟩:=I2.hok a _ n
  obtain⟨⟨mA,Y,K⟩,_⟩:=I2.hok dx _ P
  have W:PySem.Within mA (A.map (·.1)):=λg R=>by
   cases q:A.lookup g with
   | none =>
    have:=K g;rw[q]at this;exact absurd (RelO.none_of this) R
   | some v=>exact mem_map.mpr ⟨(g,v),PySem.mem_of_lookup q,rfl⟩
  refine qJ c I2.kIn j i λB tk Q' E' r=>vO c I2.kIn j i F Y W (by rw[length_map];lia) λh' n' sb=>r _ ?_
  refine⟨p,_,I2.write (t':=N+1+1) (h':=h') (x:=dx) (e:=dx) (o:=.ext (XDct dx ((f,y)::A))) (by rw[P];exact True.intro) (.inl rfl) (λb u hb e=>(sb.2 b hb).trans e) (let ⟨o',_,_,e',_⟩:=n';⟨o',e'⟩) (XDct.ok ⟨_,n',λg=>?_⟩),l⟩;rw[fb]
  by_cases z:g=f
  .rw[if_pos z,if_pos z];exact M
  .rw[if_neg z,if_neg z];exact K g
end
theorem oF{K:Frag}{h:Heap}{N:Addr}{m:Str->Option Value}{n:Str}{v:Value}(X:K.In h)(G:h.Ns N m)(q:nsIn K N n=some (some v)):m n=some v:=by
 obtain⟨g,i,f,c,d,_,b⟩:=G;unfold nsIn at q
 split at q
 .rename_i c0 d0 en0 k0 sl0 lk
  have a:=X _ _ lk;rw[c]at a;cases a;cases d
  split at q
  .rename_i entry found
   cases q;rw[<- b];unfold nsFind findBy;rw[<- Array.find?_toList,found];rfl
  .split at q <;> cases q
 .cases q
def xIn(K:Frag)(C:Addr)(fI:Option Value):Bool:=match K.lookup C with
 | some ⟨.type "type",_,.cls cd,sl⟩=>(match cd.mro,sl.toList with
  | .ref C'::bm,[_,_,_,_,some (.builtin n),_]=>C' == C && n == "ValueError.__new__" && !cd.hasDel && tailIn K bmV bm && nsOkIn K cd.ns && nsIn K cd.ns "__init__" == some fI
  | _,_=>false)
 | _=>false
structure XObj(h:Heap)(C:Addr)(fI:Option Value):Prop where
 obj:∃ bm N nm q bs hdct sn sub ab col dd k0 k1 k2 k3 k5 mN,h.get? C=some (excClassObj nm q C N bs bm hdct sn sub ab col dd k0 k1 k2 k3 k5 "ValueError.__new__")/\h.Ns N mN/\mN "__init__" = fI/\OwnTail h bmV bm
theorem qp{K:Frag}{h:Heap}{C:Addr}{g:Option Value}(X:K.In h)(z:xIn K C g=true):XObj h C g:=by
 unfold xIn at z
 split at z
 .rename_i dct cld slt lk
  split at z
  .rename_i C' tl a0 a1 a2 a3 nid a5 hmro hsl
   simp only[Bool.and_eq_true,beq_iff_eq,Bool.not_eq_true']at z;obtain⟨⟨⟨⟨⟨rfl,rfl⟩,a⟩,s⟩,c⟩,b⟩:=z;obtain⟨o,w,r,j,k,n,u,d,x,f,q⟩:=cld;dsimp only at hmro a c b;subst hmro a
   have p:slt = #[a0,a1,a2,a3,some (.builtin "ValueError.__new__"),a5]:=by
    obtain⟨l⟩:=slt;simp only at hsl;rw[hsl]
   subst p;have i:h.Ns j (h.nsMap j):=.of_isNs (PySem.W.isNs_of_in X c);refine⟨tl,j,o,k,w,n,u,d,x,f,dct,a0,a1,a2,a3,a5,_,X _ _ lk,i,?_,PySem.W.tail_of_in X s⟩;cases g with
   | none=>exact PySem.W.ns_none_of X i b
   | some v=>exact oF X i b
  .cases z
 .cases z
def mS(K:Frag)(D:Addr):Bool:=findIn K (.ref D) "__getattribute__" == some (some (.builtin "BaseException.__getattribute__")) && findIn K (.ref D) "__getattr__" == some none &&
 findIn K (.ref D) "__class__" == some (some (.builtin "object.__class__")) && mroIn K D (.type "BaseException") == some true && mroIn K D (.type "object") == some true && (clsIn K D).isSome && typeIn K (.ref D) == some (.type "type")
theorem uI{K:Frag}{D:Addr}(h:mS K D=true):XCls K D:=by
 unfold mS at h;simp only[Bool.and_eq_true,beq_iff_eq]at h;obtain⟨⟨⟨⟨⟨⟨f,b⟩,d⟩,c⟩,a⟩,g⟩,i⟩:=h;exact⟨f,b,d,c,a,g⟩
theorem tm{K:Frag}{D:Addr}(h:mS K D=true):XHd K D:=by
 unfold mS at h;simp only[Bool.and_eq_true,beq_iff_eq]at h;obtain⟨⟨⟨⟨⟨⟨i,f⟩,g⟩,b⟩,d⟩,c⟩,a⟩:=h;exact⟨c,a,b⟩
def zr(K:Frag)(D:Addr)(name:Str):Bool:=((clsIn K D).any λcd=>cd.hasDict && ka cd.mro) && mroIn K D (.type "object") == some true &&
 findIn K (.ref D) "__setattr__" == some (some (.builtin "object.__setattr__")) && findIn K (.ref D) name == some none
theorem An{K:Frag}{D:Addr}{name:Str}(h:zr K D name=true):∃ cd,XSet K D name cd:=by
 unfold zr at h;simp only[Bool.and_eq_true,beq_iff_eq]at h;obtain⟨⟨⟨d,f⟩,c⟩,b⟩:=h;obtain⟨cd,e,a⟩:=any_some d;rw[Bool.and_eq_true]at a;exact⟨cd,e,a.1,a.2,f,c,b⟩
section
variable {P:Program}{w:World}{K:Frag}{mg:Str->Option Value}{base:Heap}{N:List Str}{qual:Str}{scope:Scope}{f:Addr}{cdv:Value}{A:Around}{outer:List Env}{s0:Shared}{H0:Hp}{E:XK}
end
def Ay(C:Addr):TE:=λ_ H Q=>∀ a,H a=none->Q (.ref a) (upd H a (.ext (XD0 a C)))
def Bb(C:Addr)(sp:Sp)(t:TA):TE:=λσ H Q=>t σ H λvs H1=>∀ a,H1 a=none->sp (.ref a::vs) (upd H1 a (.ext (XD0 a C))) (λv H2=>v=.non/\Q (.ref a) H2) E0
section
variable {X:Cx}{k:Nat}{f C:Addr}{fd:FuncData}{ps:List Str}{sp:Sp}{x:Str}{p pos:Pos}{e:Expr}{es:List Expr}{t:TA}
theorem iN(z:xIn X.K C none=true)(y:keepIn X.K (.ref C)=true)(j:Gl X x)(v:X.mg x=some (.ref C))(d:(x == ("__debug__" : Str))=false:=by decide):PE X (.Call (.Name x p) [] [] pos) (Ay C):=by
 intro f s σ H Q I h;refine wpAny_Call_Name_kw (dU I j v ?_ d);refine callWith_K0 I.kIn y ?_;obtain⟨M,N,E,q,bs,g,P,i,ab,n,L,K,Z,F,k3,W,R,w,k,c,T⟩:=(qp I.kIn z).obj;obtain⟨l,G,d0,D,A⟩:=s;refine wpAny_call_exc_subT (rest:=[]) PySem.F.excBase_ValueError T w k c (λY a b=>?_) (Nat.zero_le _);obtain⟨t1,r,_,_⟩:=b.there
 have B:H a=none:=by
  cases q:H a with
  | none=>rfl
  | some u =>
   obtain⟨o,e⟩:=(I.hok a u q).isObj;have:=b.new;rw[show l.get? a=some o from e]at this;cases this
 exact⟨.ref a,_,I.tracked (t':=D) b.keeps b.new (XD0.ok ⟨_,_,r,rfl,rfl,rfl,rfl,rfl⟩),rfl,h a B⟩
theorem kE(z:xIn X.K C (some (.ref f))=true)(kp:keepIn X.K (.ref C)=true)(fn:isFn X.K (.ref f)=true)(F:FnOk X.prog X.w X.K X.mg X.base CX0 k f fd ps sp)(hr:Room (k+1) X.A)(hg:Gl X x)(hm:X.mg x=some (.ref C))
  (hb:Binds X.K fd ps []) (ha:PA X (e::es) t) (hz:∀ vs H Q E,sp vs H Q E->vs.length<=100) (L:(x == ("__debug__" : Str))=false:=by decide) (he:starEach (e::es) X.env=(false,eval e X.env)::starEach es X.env:=by rfl)
  (w:(backTo pos (starEach es X.env)).any (·.1)=false:=by rfl):PE X (.Call (.Name x p) (e::es) [] pos) (Bb C sp t):=by
 intro g s W H Q I h;refine wpAny_Call_Name_kw (dU I hg hm ?_ L);refine callWith_K (h₀:=X.base) I.ok.mod.kin kp (thn (ha pos g s W H _ I h) λd c ⟨vs,H1,i,r,q⟩=>⟨i.kIn,?_⟩) he w;obtain⟨bm,N,nm,qn,bs,P,sn,Y,ab,ac,dd,k0,k1,k2,k3,k5,mN,hC,hN,A,T⟩:=(qp i.kIn z).obj;have K:=q (c.heap.objs.size+1) (i.hok.fresh (Nat.le_succ _))
 have l:d.length<=sizeLine:=by
  have:=hz _ _ _ _ K;rw[length_cons]at this;rw[<- r.length];exact Nat.le_trans (Nat.le_of_succ_le this) (by decide)
 have Z:∀ b o,c.heap.get? b=some o->(eT c.heap C d).get? b=some o:=λb o e=>Heap.get?_push_of_some _ (Heap.get?_push_of_some _ e)
 have e2:(eT c.heap C d).get? (c.heap.objs.size+1)=some { cls:=.ref C,data:=.fields #[.ref c.heap.objs.size,.none,.none,.none,.bool false,.none] }:=by heap_get
 have G:=i.laid (t':=c.toks) (h':=eT c.heap C d) (a:=c.heap.objs.size+1) (o:=.ext (XD0 (c.heap.objs.size+1) C)) Z (Nat.le_succ _) (XD0.ok ⟨_,_,e2,rfl,rfl,rfl,rfl,rfl⟩)
 obtain⟨oI,hfI,hfc⟩:∃ oI,c.heap.get? f=some oI/\oI.cls=.type "function" := by
  have:=beq_iff_eq.mp fn;unfold typeIn at this;obtain⟨ob,lk,B⟩:=Option.map_eq_some_iff.mp this;exact⟨ob,i.kIn _ _ lk,B⟩
 have R:Vals (V.ref (c.heap.objs.size+1)::vs) (Value.ref (c.heap.objs.size+1)::d):=.cons rfl r;have y:(Value.ref (c.heap.objs.size+1)::d).length=ps.length:=by rw[<- R.length];exact F.len _ _ _ _ K
 have M:=hb { c with heap:=eT c.heap C d,toks:=c.toks } (Value.ref (c.heap.objs.size+1)::d) G.kIn (by rw[append_nil];exact y);rw[append_nil]at M
 have n:wpAny (model X.prog X.w) X.A (call (.ref C) d) (EP X g W Q) X.xe c:=by
  obtain⟨D,g1,d1,t1,al⟩:=c;refine xp PySem.F.excBase_ValueError T hC hN A hfI hfc l ?_;refine wpAny_call (codeAny_mono (F.run _ X.stack _ _ ⟨Value.ref (D.objs.size+1)::d,[]⟩ (Value.ref (D.objs.size+1)::d) _ _ E0 (hr.make C d []) (G.env0.make C d []) M R K) λr s' j=>?_);cases r with
  | error e=>exact False.elim j
  | ok fl =>
   cases fl with
   | ret u =>
    obtain⟨v,H',I3,rv,ev,q3⟩:=G.after j;subst ev;exact⟨rv,⟨V.ref (D.objs.size+1),H',I3,rfl,q3⟩⟩
   | next=>exact False.elim j
   | brk=>exact False.elim j
   | cont=>exact False.elim j
 exact n
end
theorem pJ:∀{xs:List V}{us:List Value},xs.length=us.length->(∀(i:Nat) x u,xs[i]? = some x->us[i]? = some u->RelV x u)->Vals xs us
 | [],[],_,_=>.nil
 | x::xs,u::us,h,r=>.cons (r 0 x u rfl rfl) (pJ (by simpa using h) λi y w a b=>r (i+1) y w (by simpa using a) (by simpa using b))
 | [],_::_,h,_=>by cases h
 | _::_,[],h,_=>by cases h
section
variable {X:Cx}
theorem sC:CallR X (.type "range") (λxs H Q=>∃ b,xs=[.int b]/\∀ p,H p=none->Q (.ref p) (upd H p (.rng 0 b))):=by
 intro a s d H xs c Q I r h;obtain⟨b,rfl,q⟩:=h;obtain⟨u,rfl,⟨t,rfl⟩⟩:=dM r;refine call_range_1 ?_;exact⟨.ref s.heap.objs.size,_,I.laid (o:=.rng 0 b) (λb o e=>Heap.get?_push_of_some _ e) (Nat.le_refl _) ⟨_,_,_,Heap.get?_push_size _ rfl⟩,rfl,q _ (I.hok.fresh (Nat.le_refl _))⟩
end
section
variable {M:Model}{A:Around}{E:Value->Shared->Prop}{s:Shared}{env:Env}{K:Frag}{D:Addr}
theorem vJ{x:Sem Value}{Q:Flow->Shared->Prop}(c:XCls K D)(i:XHd K D)(k:A.handled=none)
  (h:wpAny M A x (λv s₁=>∃ e ob vs,v=.ref e/\K.In s₁.heap/\s₁.heap.get? e=some ob/\ob.cls=.ref D/\ob.data=.fields vs/\vs[1]? = some .none/\E (.ref e) s₁) E s):wpAny M A (raiseStmt env (some x) none) Q E s:=by
 unfold raiseStmt;refine wpAny_bind (wpAny_mono h (λv s₁ a=>?_) λ_ _ z=>z);obtain⟨e,ob,vs,rfl,X,b,l,f,n,j⟩:=a;obtain⟨p,g,d,q,o⟩:=s₁
 repeat (first | with_reducible refine(looks_typeIn X i.ty).at ?_ | (with_reducible refine wpAny_loadPart_at b ?_;first | rw[l] | rw[f]) | with_reducible refine(looks_mroIn X c.mb).at ?_ | with_reducible refine wpAny_field b f n ?_ | wp_step)
 exact wpAny_raiseNew_none k j
end
def Fx(h:Heap)(e:Addr)(cls:Value)(dct:Option Addr)(fl:Value)(T:Addr):Prop :=
 ∃ ob fs oT ts,h.get? e=some ob/\ob.cls=cls/\ob.dict=dct/\ob.data=.fields fs/\fs[1]? = some (.ref T)/\T≠e/\h.get? T=some oT/\oT.data=.fields ts/\ts[3]? = some fl
theorem jc(f:Array Value->Array Value)(o:Obj):(Obj.mapFields f o).dict=o.dict:=by
 obtain⟨c,d,a,b⟩:=o
 cases a <;> rfl
theorem tR(f:Array Value->Array Value)(o:Obj):(Obj.mapFields f o).cls=o.cls:=Obj.cls_mapFields _ _
section
variable {M:Model}{A:Around}{E:Value->Shared->Prop}{s:Shared}{base:Heap}{env:Env}{outer:List Env}{L e:Addr}{ob:Obj}{fs:Array Value}{head:Value}{more:Bool}
theorem mV{Q:Unit->Shared->Prop}(fr:A.frames=some (env::outer))(w:s.heap.FunFrames base (env::outer))(z:env.frame=some L)(q:s.heap.get? e=some ob)(n:ob.data=.fields fs)(r:1<fs.size)
  (h:∀ h' T,Fx h' e ob.cls ob.dict (rawInt L) T->s.heap.get? T=none->(∀ b o,b≠e->b ∉ frs (env::outer)->s.heap.get? b=some o->h'.get? b=some o) ->
   (∀ b o,b≠e->s.heap.get? b=some o->∃ sl,h'.get? b=some { o with slots:=sl })->Q () { s with heap:=h' }) :
  wpAny M A (do let a <- frameOf env;let pl <- entryPlaceOf L more;let b <- EntryCells.newEntry head a .none (rawInt L) .none pl;setField (.ref e) 1 b) Q E s:=by
 have l:e ∉ frs (env::outer):=λC=>by
  obtain⟨_,o,v,k⟩:=w.mem C;rw[q]at v;cases v;exact k fs n
 refine wpAny_bind (wpAny_frameOf_fun fr w z λc i=>?_);refine wpAny_bind (wpAny_entryPlaceOf λpl j=>?_);unfold EntryCells.newEntry newFields;refine wpAny_bind (wpAny_newObj_type ?_ (j.sizeOk5 _ _ _ _ _));have x:c.get? e=some ob:=(i.2.1 e l).trans q;have u:=Heap.get?_push_of_some (h:=c) { cls:=.type "traceback",dict:=none,data:=.fields ([head,.ref L,.none,rawInt L,.none]++(if pl.isEmpty then List.replicate 6 Value.none else pl)).toArray } x;have p:c.objs.size≠e:=Nat.ne_of_gt (Heap.lt_size x);have y:=Obj.data_mapFields n (·.setIfInBounds 1 (Value.ref c.objs.size));have B:=Heap.get?_update_self (Obj.mapFields (·.setIfInBounds 1 (Value.ref c.objs.size))) u (Obj.isFreed_of_fields y)
 have f:∀ b o,b≠e->c.get? b=some o->((c.push { cls:=.type "traceback",dict:=none,data:=.fields ([head,.ref L,.none,rawInt L,.none]++(if pl.isEmpty then List.replicate 6 Value.none else pl)).toArray }).update e (Obj.mapFields (·.setIfInBounds 1 (Value.ref c.objs.size)))).get? b=some o :=
  λb o g d=>(Heap.get?_update_other _ _ (Ne.symm g)).trans (Heap.get?_push_of_some _ d)
 refine wpAny_setField u n r (h _ c.objs.size ⟨_,_,_,_,B,tR _ _,jc _ _,y,by simp[r],p,(Heap.get?_update_other _ _ (Ne.symm p)).trans (Heap.get?_push_size _ rfl),rfl,?_⟩ ?_ (λb o g k d=>f b o g ((i.2.1 b k).trans d)) λb o g d=>?_)
 .simp
 .have:s.heap.objs.size=c.objs.size:=i.1.symm
  rw[<- this];exact Heap.get?_none_of_le (Nat.le_refl _)
 .obtain⟨sl,D⟩:=i.2.2 b o d
  exact⟨sl,f b _ g D⟩
end
section
variable {M:Model}{A:Around}{E:Value->Shared->Prop}{s:Shared}{base:Heap}{env:Env}{outer:List Env}{L e T:Addr}{ob:Obj}{fs:Array Value}{cls fl:Value}{dct:Option Addr}
def KeptBut(xs fr:List Addr)(h h':Heap):Prop :=
 (∀ b o,b ∉ xs->b ∉ fr->h.get? b=some o->h'.get? b=some o)/\∀ b o,b ∉ xs->h.get? b=some o->∃ sl,h'.get? b=some { o with slots:=sl }
theorem KeptBut.trans{xs d fr:List Addr}{h i h2:Heap}(a:KeptBut xs fr h i)(b:KeptBut d fr i h2):KeptBut (xs++d) fr h h2 :=
 ⟨λc o n f g=>b.1 c o (λz=>n (mem_append_right _ z)) f (a.1 c o (λz=>n (mem_append_left _ z)) f g),λc o n g=>by
  obtain⟨p,l⟩:=a.2 c o (λz=>n (mem_append_left _ z)) g;obtain⟨j,k⟩:=b.2 c _ (λz=>n (mem_append_right _ z)) l
  exact⟨j,k⟩⟩
theorem sU{Q:Unit->Shared->Prop}(fr:A.frames=some (env::outer))(p:s.heap.FunFrames base (env::outer))(i:env.frame=some L)(a:s.heap.get? e=some ob)(d:ob.data=.fields fs)(c:fs[1]? = some .none)
  (h:∀ h' T,Fx h' e ob.cls ob.dict (rawInt L) T->s.heap.get? T=none->KeptBut [e] (frs (env::outer)) s.heap h'->Q () { s with heap:=h' }):wpAny M A (noteFrame (.ref e) env) Q E s:=by
 unfold noteFrame;simp only[i];refine wpAny_bind (wpAny_field a d c ?_);rw[if_neg (by decide)];exact mV fr p i a d (Array.getElem?_eq_some_iff.mp c).1 λh' T x j k l=>h h' T x j ⟨λb o n f g=>k b o (by simpa using n) f g,λb o n g=>l b o (by simpa using n) g⟩
theorem qy{Q:Unit->Shared->Prop}(fr:A.frames=some (env::outer))(F:s.heap.FunFrames base (env::outer))(C:env.frame=some L)(x:Fx s.heap e cls dct .none T)
  (h:∀ h' T',Fx h' e cls dct (rawInt L) T'->s.heap.get? T'=none->KeptBut [T,e] (frs (env::outer)) s.heap h'->Q () { s with heap:=h' }):wpAny M A (noteFrame (.ref e) env) Q E s:=by
 obtain⟨N,I,K,G,v,rfl,rfl,y,w,D,j,k,B⟩:=x;unfold noteFrame;simp only[C];refine wpAny_bind (wpAny_field v y w ?_);rw[if_pos (show(Value.ref T != Value.none)=true from by simp)];refine wpAny_bind (wpAny_field j k B ?_);rw[if_neg (show ¬((Value.none == rawInt L)=true) from by simp[rawInt])];refine wpAny_bind (wpAny_setField j k (Array.getElem?_eq_some_iff.mp B).1 ?_);have a:∀ b,b≠T->(s.heap.update T (Obj.mapFields (·.setIfInBounds 3 Value.none))).get? b=s.heap.get? b:=λb H=>Heap.get?_update_other _ _ (Ne.symm H)
 have i:∀ b o,s.heap.get? b=some o->(∀ vs,o.data≠.fields vs)->b≠T:=λb o d p z=>by
  rw[z,j]at d;cases d;exact p G k
 have r:=Heap.get?_update_self (Obj.mapFields (·.setIfInBounds 3 Value.none)) j (Obj.isFreed_of_fields (Obj.data_mapFields k _));refine mV fr (F.of_keeps λb o d p=>⟨o,(a b (i b o d p)).trans d,rfl⟩) C ((a e D.symm).trans v) y (Array.getElem?_eq_some_iff.mp w).1 λh' T' x' nT' k1 k2=>h h' T' x' ?_ ⟨λb o n f g=>?_,λb o n g=>?_⟩
 .cases q:s.heap.get? T' with
  | none=>rfl
  | some o =>
   by_cases z:T'=T
   .rw[z,r]at nT'
    cases nT'
   .have c:=nT'
    rw[a T' z,q]at c;cases c
 .have l:b≠T:=λz=>n (by rw[z];exact mem_cons_self)
  have u:b≠e:=λz=>n (by rw[z];simp)
  exact k1 b o u f ((a b l).trans g)
 .have l:b≠T:=λz=>n (by rw[z];exact mem_cons_self)
  have u:b≠e:=λz=>n (by rw[z];simp)
  exact k2 b o u ((a b l).trans g)
theorem d7{Q:Unit->Shared->Prop}{fr:List Addr}(x:Fx s.heap e cls dct fl T)(h:∀ h',Fx h' e cls dct .none T->KeptBut [T] fr s.heap h'->Q () { s with heap:=h' }):wpAny M A (setFlight (.ref e) none) Q E s:=by
 obtain⟨v,r,w,u,j,rfl,rfl,p,k,i,d,c,q⟩:=x;have l:3<u.size:=(Array.getElem?_eq_some_iff.mp q).1;have a:∀ b,b≠T->(s.heap.update T (Obj.mapFields (·.setIfInBounds 3 ((none:Option Addr).elim Value.none λf=>rawInt f)))).get? b=s.heap.get? b:=λb nb=>Heap.get?_update_other _ _ (Ne.symm nb)
 unfold setFlight;refine wpAny_bind (wpAny_field j p k ?_);rw[if_pos (show(Value.ref T != Value.none)=true from by simp)];refine wpAny_setField d c l (h _ ⟨v,r,_,_,(a e i.symm).trans j,rfl,rfl,p,k,i,Heap.get?_update_self _ d (Obj.isFreed_of_fields (Obj.data_mapFields c _)),Obj.data_mapFields c _,by simp[l]⟩ ⟨λb o n _ g=>?_,λb o n g=>?_⟩)
 .exact(a b (by simpa using n)).trans g
 .exact⟨o.slots,(a b (by simpa using n)).trans g⟩
theorem tT{Q:Unit->Shared->Prop}(fr:A.frames=some (env::outer))(c:s.heap.FunFrames base (env::outer))(i:env.frame=some L)(x:Fx s.heap e cls dct .none T)
  (h:∀ h' T',Fx h' e cls dct .none T'->s.heap.get? T'=none->KeptBut [T,e,T'] (frs (env::outer)) s.heap h'->Q () { s with heap:=h' }):wpAny M A (leaving env (.ref e)) Q E s:=by
 unfold leaving;refine wpAny_bind (qy fr c i x λg d f b a=>d7 (s:={ s with heap:=g }) f λh2 x2 k2=>h h2 d x2 b (a.trans k2))
theorem rP{Q:Unit->Shared->Prop}(fr:A.frames=some (env::outer))(i:s.heap.FunFrames base (env::outer))(l:env.frame=some L)(b:s.heap.get? e=some ob)(k:ob.data=.fields fs)(d:fs[1]? = some .none)
  (h:∀ h' T',Fx h' e ob.cls ob.dict .none T'->s.heap.get? T'=none->KeptBut [e,T'] (frs (env::outer)) s.heap h'->Q () { s with heap:=h' }):wpAny M A (leaving env (.ref e)) Q E s:=by
 unfold leaving;refine wpAny_bind (sU fr i l b k d λj f g c a=>d7 (s:={ s with heap:=j }) g λh2 x2 k2=>h h2 f x2 c (a.trans k2))
end
structure XG(P:Program)(w:World)(outer:List Env)(H:Hp)(s:Shared)(x D:Addr)(dct:Option Addr)(T:Addr)(H':Hp)(s':Shared):Prop where
 os:s'.os=s.os
 bare:AllBare s'.gens
 un:Un (frs outer) [] H H' s.heap s'.heap
 hok:HOk P w H' s'.heap
 fx:Fx s'.heap x (.ref D) dct .none T
 nx:s.heap.get? x=none
 nT:s.heap.get? T=none
 ux:H' x=none
 uT:H' T=none
def CXG(P:Program)(w:World):CXT:=λouter H s E e s'=>∃ x D dct T H',e=.ref x/\XG P w outer H s x D dct T H' s'/\E (.ref D) dct H'
theorem cL{a:List Addr}{H H':Hp}{h h':Heap}{b:Addr}(u:Un a [] H H' h h')(n:h'.get? b=none):h.get? b=none:=by
 cases q:h.get? b with
 | none=>rfl
 | some o =>
  obtain⟨c,e⟩:=u.there b o q (by simp);rw[n]at e;cases e
section
variable {P:Program}{w:World}{K:Frag}{mg:Str->Option Value}{base:Heap}{N:List Str}{qual:Str}{scope:Scope}{f:Addr}{cdv:Value}{A:Around}{outer:List Env}{s0:Shared}{H0:Hp}{E:XK}
abbrev cxG(P:Program)(w:World)(K:Frag)(mg:Str->Option Value)(base:Heap)(N:List Str)(qual:Str)(scope:Scope)(f:Addr)(cdv:Value)(A:Around)(outer:List Env)(s0:Shared)(H0:Hp)(E:XK):Cx :=
 iY (CXG P w) P w K mg base N qual scope f cdv A outer s0 H0 E
theorem pE{X:Cx}{c:List (Addr×Obj)}{σ:St}{H':Hp}{s':Shared}{h2:Heap}{x D T:Addr}{d:Option Addr}{xs:List Addr}(J:Inv X c σ H' s')(f:X.ex=[])
  (k:KeptBut xs (frs X.stack) s'.heap h2) (a:∀ b∈xs,X.s₀.heap.get? b=none/\H' b=none/\b ∉ frs X.outer) (p:Fx h2 x (.ref D) d .none T) (j:x∈xs) (i:T∈xs) :
  XG X.prog X.w X.outer X.H₀ X.s₀ x D d T H' { s' with heap:=h2 }:=by
 have n:Un (frs X.outer) [] X.H₀ H' X.s₀.heap s'.heap:=by
  have:=J.base;rw[f]at this;exact this
 refine⟨J.os,J.bare,qC n (λb o l g e=>k.1 b o (λz=>?_) (wj J l g) e) (λb o g e=>k.2 b o (λz=>(a b z).2.2 g) e),i4 J.hok (λb o u hu e=>k.1 b o (λz=>?_) (we J hu) e),p,(a x j).1,(a T i).1,(a x j).2.1,(a T i).2.1⟩
 .obtain⟨q,h⟩:=l
  rw[(a b z).1]at h;cases h
 .rw[(a b z).2.1]at hu
  cases hu
theorem iD{X:Cx}{a:List (Addr×Obj)}{σ:St}{H:Hp}{s:Shared}(I:Inv X a σ H s){b:Addr}(h:s.heap.get? b=none):b ∉ frs X.outer:=λz=>by
 obtain⟨_,o,e,_⟩:=I.funs.mem z;rw[h]at e;cases e
theorem uc:fk (CXG P w) (cxG P w K mg base N qual scope f cdv A outer s0 H0 E) E:=by
 intro a p H s e h I v;obtain⟨x,D,d,T,c,rfl,G,q⟩:=v;have J:Inv (cxG P w K mg base N qual scope f cdv A outer s0 H0 E) a p c h:=I.call' (ch:=[]) G.os G.un G.hok G.bare (by simp);have j:Un (frs outer) [] H0 H s0.heap s.heap:=I.base;have r:Un (frs outer) [] H0 c s0.heap h.heap:=J.base;show wpAny _ _ (leaving _ (.ref x)) _ _ h;refine tT I.ok.frames J.stack rfl G.fx λB l y i k=>?_
 refine⟨x,D,d,l,c,rfl,pE J rfl k (λb n=>?_) y (by simp) (by simp),q⟩;have g:b=T\/b=x\/b=l:=by simpa using n
 rcases g with rfl | rfl | rfl
 .exact⟨cL j G.nT,G.uT,iD I G.nT⟩
 .exact⟨cL j G.nx,G.ux,iD I G.nx⟩
 .refine⟨cL r i,?_,iD J i⟩
  cases z:c b with
  | none=>rfl
  | some u =>
   obtain⟨o,e⟩:=(J.hok b u z).isObj;rw[i]at e;cases e
theorem oY:PassesOwn (model P w) (cxG P w K mg base N qual scope f cdv A outer s0 H0 E).A (cxG P w K mg base N qual scope f cdv A outer s0 H0 E).env (cxG P w K mg base N qual scope f cdv A outer s0 H0 E).xe:=PassesOwn.leaving
end
section
variable {P:Program}{w:World}{K:Frag}{mg:Str->Option Value}{base:Heap}
theorem Fun.okG{x a:Str}{st:Stmt}{f:Addr}{h:FuncData}{N ps:List Str}{k:Nat}{sp:Sp}(F:Fun K x a st f h)(S:FnScope N ps (ad st))(c:∀ vs H Q E,sp vs H Q E->vs.length=ps.length)
  (b:∀(cdv:Value) (A:Around) (outer:List Env) (s:Shared) (H:Hp) (vs:List V) (Q:VK) (E:XK),Room k (A.deeper (envOfC a (ad st) s.heap.objs.size f cdv))->sp vs H Q E ->
   ∃ t,PSs (cxG P w K mg base N a (ad st) f cdv A outer s H E) (ah st) t/\t { nx:=λ_ H'=>Q .non H',rt:=Q } (start N vs) H):FnOk P w K mg base (CXG P w) (k+1) f h ps sp:=by
 obtain⟨p,q,u,n,v,o,cdv,r,j,rfl,l,g⟩:=F.ex;exact tK l g S c λA outer s H vs Q E i d=>b cdv A outer s H vs Q E i d
end
def untr(H:Hp)(x:Addr):Hp:=λb=>if b=x then none else H b
theorem aS{H:Hp}{x b:Addr}(h:b≠x):untr H x b=H b:=by unfold untr;rw[if_neg h]
theorem cR{H:Hp}{x:Addr}:untr H x x=none:=by unfold untr;rw[if_pos rfl]
def XU(a D:Addr)(dct:Option Addr):Heap->Prop:=λh=>∃ o vs,h.get? a=some o/\o.cls=.ref D/\o.data=.fields vs/\o.dict=dct/\vs[1]? = some .none/\vs[2]? = some .none
theorem Inv.untr{X:Cx}{a:List (Addr×Obj)}{σ:St}{H:Hp}{s:Shared}{x:Addr}{φ:Heap->Prop}(I:Inv X a σ H s)(h:H x=some (.ext φ)):Inv X a σ (untr H x) s:=by
 have d:∀ b u,H b=some u->(∀ ψ,u≠.ext ψ)->b≠x:=λb u e n z=>by
  rw[z,h]at e;cases e;exact n φ rfl
 have g:∀ b,H b=none->L2.untr H x b=none:=λb e=>by
  by_cases z:b=x
  .rw[z];exact cR
  .rw[aS z];exact e
 have f:HOk X.prog X.w (L2.untr H x) s.heap:=λb u e=>by
  by_cases z:b=x
  .rw[z,cR]at e
   cases e
  .rw[aS z]at e
   refine(I.hok b u e).stay (λ_ _ _ q=>q) (λc q=>?_) λc xs q=>?_
   .rw[aS (d c _ q λ_ z=>nomatch z)];exact q
   .rw[aS (d c _ q λ_ z=>nomatch z)];exact q
 exact I.un (t':=s.toks) (h':=s.heap) ⟨λb o e _ _ _=>e,λb o e _ _ _=>⟨o.slots,e⟩,λb o e n _=>g b n,λb o e _=>⟨o,e⟩,λb xs e=>by rw[aS (d b _ e λ_ z=>nomatch z)];exact e,
  λb o u e=>by rw[aS (d b _ e λ_ z=>nomatch z)];exact e,λb ps e=>⟨#[],by rw[aS (d b _ e λ_ z=>nomatch z),e];simp⟩⟩ f
section
variable {P:Program}{w:World}{K:Frag}{mg:Str->Option Value}{base:Heap}{N:List Str}{qual:Str}{scope:Scope}{f:Addr}{cdv:Value}{A:Around}{outer:List Env}{s0:Shared}{H0:Hp}{E:XK}
def xg(K:Frag)(H0:Hp)(E:XK)(D:Addr)(te:TE):TS:=λ_ σ H=>te σ H λv H1=>∃ x dct φ,v=.ref x/\H1 x=some (.ext φ)/\(∀ h,φ h->XU x D dct h)/\H0 x=none/\E (.ref D) dct (untr H1 x)
theorem cQ{l:Expr}{R:TE}{D:Addr}{g:Pos}(c:XCls K D)(X:XHd K D)(he:PE (cxG P w K mg base N qual scope f cdv A outer s0 H0 E) l R) :
  PS (cxG P w K mg base N qual scope f cdv A outer s0 H0 E) (.Raise (some l) none g) (xg K H0 E D R):=by
 intro d s σ H DE I h;rw[arm_exec_Raise];refine wpAny_bind (wpAny_standAt ?_);show wpAny _ _ (raiseStmt _ (some (do let v <- eval l (cxG P w K mg base N qual scope f cdv A outer s0 H0 E).env;standAt g;pure v)) none) _ _ s;refine vJ (K:=K) (D:=D) c X (I.ok.hd rfl) (wpAny_bind (thn (he d s σ H _ I h) λv r ⟨y,i,a,ry,x,n,φ,ey,B,p,Z,q⟩=>wpAny_bind (wpAny_standAt (wpAny_pure ?_))));subst ey;obtain rfl:v=Value.ref x:=ry;obtain⟨ob,Q,G,W,F,g4,M⟩:=p _ (a.hok x _ B).1;refine⟨x,ob,Q,rfl,a.kIn,G,W,F,M.1,?_⟩;show wpAny _ _ (leaving _ (.ref x)) _ _ r;have J:=a.untr B;have Y:Un (frs outer) [] H0 (untr i x) s0.heap r.heap:=J.base;have ib:Un (frs outer) [] H0 i s0.heap r.heap:=a.base
 have nx:s0.heap.get? x=none:=by
  cases z:s0.heap.get? x with
  | none=>rfl
  | some o =>
   have:=ib.free x o z Z (by simp);rw[B]at this;cases this
 refine rP a.ok.frames J.stack rfl G F M.1 λh2 T L j k=>?_
 rw[W,g4]at L;refine⟨x,D,n,T,untr i x,rfl,pE J rfl k (λb hb=>?_) L (by simp) (by simp),q⟩;have C:b=x\/b=T:=by simpa using hb
 rcases C with rfl | rfl
 .refine⟨nx,cR,λz=>?_⟩
  obtain⟨_,o,e,nf⟩:=J.funs.mem z;rw[G]at e;cases e;exact nf Q F
 .refine⟨cL Y j,?_,iD J j⟩
  cases z:untr i x b with
  | none=>rfl
  | some u =>
   obtain⟨o,e⟩:=(J.hok b u z).isObj;rw[j]at e;cases e
end
def XCt(a D:Addr)(dct:Option Addr):Heap->Prop:=λh=>∃ o vs,h.get? a=some o/\o.cls=.ref D/\o.data=.fields vs/\o.dict=dct
section
variable {X:Cx}{pins:List (Addr×Obj)}{σ:St}{H H':Hp}{s s':Shared}{x D C T T2:Addr}{dct:Option Addr}{fl:Value}{h2:Heap}{xs:List Addr}
theorem t9(I:Inv X pins σ H s)(G:XG X.prog X.w X.stack H s x D dct T H' s')(k:KeptBut xs (frs X.stack) s'.heap h2)(g:∀ b∈xs,s.heap.get? b=none/\H' b=none/\b ∉ frs X.stack)(E:Fx h2 x (.ref D) dct fl T2) :
  Inv X pins σ (upd H' x (.ext (XCt x D dct))) { s' with heap:=h2 }:=by
 have c:∀ b u,H' b=some u->b≠x:=λb u e z=>by rw[z,G.ux]at e;cases e
 have l:∀ b u,H' b=some u->b ∉ frs X.stack:=λb u e y=>by
  obtain⟨_,o,L,_⟩:=I.stack.mem y;rw[G.un.free b o L (I.stkFree b y) (by simp)]at e;cases e
 have f:Un (frs X.stack) [] H H' s.heap h2:=qC G.un (λb o C p e=>k.1 b o (λz=>by obtain⟨o0,e0⟩:=C;rw[(g b z).1]at e0;cases e0) p e) (λb o p e=>k.2 b o (λz=>(g b z).2.2 p) e);have v:HOk X.prog X.w H' h2:=i4 G.hok (λb o u j e=>k.1 b o (λz=>by rw[(g b z).2.1]at j;cases j) (l b u j) e);obtain⟨A,M,_,_,w,K,B,Q,_⟩:=E;refine I.call' (ch:=[]) (s':={ s' with heap:=h2 }) G.os ⟨f.keep,f.slot,λb o e n i=>?_,f.there,λb xs e=>?_,λb o u e=>?_,λb ps e=>?_⟩ (λa o e=>?_) G.bare (by simp)
 .have:b≠x:=λz=>by rw[z,G.nx]at e;cases e
  rw[ag this];exact f.free b o e n i
 .have d:=f.tups b xs e
  rw[ag (c b _ d)];exact d
 .have d:=f.frzs b o u e
  rw[ag (c b _ d)];exact d
 .obtain⟨h,d⟩:=f.tbls b ps e
  exact⟨h,by rw[ag (c b _ d)];exact d⟩
 .by_cases ha:a=x
  .subst ha
   rw[ae]at e;cases e;exact⟨⟨A,M,w,K,Q,B⟩,⟨A,w⟩,λR W ⟨o,F,P,r⟩ N=>⟨o,F,N o P,r⟩⟩
  .rw[ag ha]at e
   exact(v a o e).stay (λ_ _ _ q=>q) (λb q=>by rw[ag (c b _ q)];exact q) λb xs q=>by rw[ag (c b _ q)];exact q
end
section
variable {X:Cx}{pins:List (Addr×Obj)}{σ:St}{H H':Hp}{s s':Shared}{x D C T:Addr}{dct:Option Addr}{cn en:Str}{ie:Nat}{b₀:Stmt}{suite:List Stmt}{cp hp:Pos}{ts:TS}{DE:Ends}
end
section
variable {X:Cx}{k ie:Nat}{f C:Addr}{fd:FuncData}{ps:List Str}{sp:Sp}{dvs:List V}{ds:List Value}{fx cn en:Str}{p pos p2 cp hp tp:Pos}{e:Expr}{es:List Expr}{t:TA}{b₀:Stmt}{suite:List Stmt}{ts:TS}
end
def xP(K:Frag)(ta:TE)(f:Str):TE:=λσ H Q=>ta σ H λx H1=>∃ a C cd dx fs v φ,x=.ref a/\XSet K C f cd/\XCls K C/\H1 a=some (.ext φ)/\(∀ h,φ h->XCt a C (some dx) h)/\H1 dx=some (.ext (XDct dx fs))/\fs.lookup f=some v/\Q v H1
theorem wV{X:Cx}{e:Expr}{f:Str}{g:Pos}{k:TE}(E:PE X e k)(y:attributeBase e f X.env (eval e X.env)=eval e X.env:=by rfl):PE X (.Attribute e f g) (xP X.K k f):=by
 intro b s M H Q I h;refine qX y (thn (E b s M H _ I h) λu L ⟨x,P,d,G,a,C,W,D,fs,v,Y,n,c,o,p,i,R,l,q⟩=>?_);subst n;obtain rfl:u=Value.ref a:=G;obtain⟨h1,T,d1,t1,F⟩:=L;obtain⟨ob,Z,N,B,w,K⟩:=i _ (d.hok a _ p).1;obtain⟨⟨mA,z,r⟩,_⟩:=d.hok D _ R;have:=r f;rw[l]at this;obtain⟨u',A,j⟩:=RelO.some_of this;exact wb o d.kIn c.na c.k c.dct N B w K z.ns A (wJ j) ⟨v,P,d.tok _,j,q⟩
end L2
namespace FrM
theorem tJ(x y:Int):Int.gcd y (x % y)=Int.gcd x y:=by
 have e:x=x % y+y*(x/y):=(Int.emod_add_mul_ediv x y).symm;rw[Int.gcd_comm x y]
 conv=>rhs;rw[e]
 rw[Int.gcd_add_mul_left_right]
def Bt(n:Nat)(i:Int):Prop:=i.natAbs<2 ^ n
theorem Bt.mono{m n:Nat}{i:Int}(h:Bt m i)(l:m<=n):Bt n i:=Nat.lt_of_lt_of_le h (Nat.pow_le_pow_right (by decide) l)
theorem Bt.le{n:Nat}{i j:Int}(h:Bt n i)(l:j.natAbs<=i.natAbs):Bt n j:=Nat.lt_of_le_of_lt l h
theorem Bt.mul{m n:Nat}{i j:Int}(h:Bt m i)(h':Bt n j):Bt (m+n) (i*j):=by
 unfold Bt at *;rw[Int.natAbs_mul,Nat.pow_add];exact Nat.mul_lt_mul_of_le_of_lt (Nat.le_of_lt h) h' (Nat.lt_of_le_of_lt (Nat.zero_le _) h)
structure Low(T B t b:Int):Prop where
 pos:1<=b
 cop:Int.gcd t b=1
 eq:t*B=T*b
theorem low(t b:Int)(g:0<b):0<(Int.gcd t b:Int)/\(Int.gcd t b:Int)<=b/\Low t b (t/(Int.gcd t b:Int)) (b/(Int.gcd t b:Int))/\(t/(Int.gcd t b:Int)).natAbs<=t.natAbs/\(b/(Int.gcd t b:Int)).natAbs<=b.natAbs:=by
 have d:0<Int.gcd t b:=Int.gcd_pos_iff.mpr (.inr (by omega));have f:0<(Int.gcd t b:Int):=by omega
 have h:=Int.gcd_dvd_left t b;have a:=Int.gcd_dvd_right t b;have i:=Int.ediv_mul_cancel h;have j:=Int.ediv_mul_cancel a;have c:(Int.gcd t b:Int)<=b:=Int.le_of_dvd g a;refine⟨f,c,⟨?_,Int.gcd_ediv_gcd_ediv_gcd d,?_⟩,?_,?_⟩
 .have:=Int.ediv_pos_of_pos_of_dvd g (by omega) a
  omega
 .rw[<- Int.mul_ediv_assoc _ a,Int.mul_comm,<- Int.mul_ediv_assoc _ h,Int.mul_comm]
 .have:=congrArg Int.natAbs i
  rw[Int.natAbs_mul]at this;rw[<- this];exact Nat.le_mul_of_pos_right _ (by simpa using d)
 .have:=congrArg Int.natAbs j
  rw[Int.natAbs_mul]at this;rw[<- this];exact Nat.le_mul_of_pos_right _ (by simpa using d)
end FrM
namespace L2
open PySem PySem.Spec PyProof.Rows FrM
section
variable {X:Cx}
def CMulB(i j:Int):Prop:=(Bt 8000 i/\Bt 8000 j)\/CMul i j
theorem CMulB.ok{i j:Int}(h:CMulB i j):IntMulOk i j:=by
 rcases h with⟨a,b⟩ | h
 .exact IntMulOk.of_le (m:=8000) (n:=8000) (intBits_le_iff.mpr a) (intBits_le_iff.mpr b) (by decide)
 .exact h.ok
def CDivB(i j:Int):Prop:=0<j/\Bt 8000 j
theorem CDivB.no{i j:Int}(h:CDivB i j):Builtin.divisionGoesByPylong i j=false:=by
 refine PyProof.noPylong_of_log2 ?_;have a:j.natAbs<2 ^ 8000:=h.2
 by_cases h0:j.natAbs=0
 .rw[h0];decide +kernel
 .have:j.natAbs.log2<8000:=(Nat.log2_lt h0).mpr a
  lia
theorem op_mulB:OpR X (binaryOp .Mult) (rI CMulB λi j=>.int (i*j)):=opI λ_ _ _ _ _ _ _ a q=>mul_int q a.ok
theorem op_fdivB:OpR X (binaryOp .FloorDiv) (rI CDivB λi j=>.int (i/j)):=opI λi j _ _ _ _ _ a q=>by
 have b:(0:Int)<j:=a.1;exact floordiv_int (by lia) (by rw[Int.fdiv_eq_ediv_of_nonneg i (by lia)];exact q) (.inl a.no)
theorem dP:OpR X (binaryOp .Mult) (rIC CMulB λi j=>.int (i*j)):=op_mulB.ic
theorem eM:OpR X (binaryOp .FloorDiv) (rIC CDivB λi j=>.int (i/j)):=op_fdivB.ic
theorem cmB{i j:Int}{m n:Nat}(h:Bt m i)(h':Bt n j)(b:m<=8000:=by decide)(a:n<=8000:=by decide):CMulB i j:=.inl ⟨h.mono b,h'.mono a⟩
theorem clB{i j:Int}(h:-(2 ^ 64)<i:=by decide)(h2:i<2 ^ 64:=by decide):CMulB i j:=.inr (cl h h2)
theorem crB{i j:Int}(h:-(2 ^ 64)<j:=by decide)(h2:j<2 ^ 64:=by decide):CMulB i j:=.inr (cr h h2)
theorem cdB{i j:Int}{n:Nat}(h:0<j)(h':Bt n j)(a:n<=8000:=by decide):CDivB i j:=⟨h,h'.mono a⟩
theorem yA:bootBuiltins "abs" = some (.builtin "abs"):=by decide +kernel
end
end L2
namespace L2
open PySem PySem.Spec PyProof.Rows
def yQ:Expr->Bool
 | .Starred ..=>true
 | _=>false
theorem rH{e:Expr}{a:List Expr}{env:Env}(h:yQ e=false):starEach (e::a) env=(false,eval e env)::starEach a env:=by
 cases e <;> first | rfl | cases h
theorem sT{X:Cx}{e:Expr}{b:List Expr}{a:TE}{t:TA}(d:PE X e a)(c:PA X b t)(h:yQ e=false:=by rfl):PA X (e::b) (uE a t):=aa d c (rH h)
@[irreducible] def PSq(X:Cx)(sts:List Stmt)(t:TS):Prop:=PSs X sts t
theorem zx{X:Cx}{st:Stmt}{a:List Stmt}{t u:TS}(b:PS X st t)(h2:PSq X a u):PSs X (st::a) (bO t u):=by
 unfold PSq at h2;exact ai b h2
theorem vk{X:Cx}{K:Frag}{e:Expr}{f:Str}{a:Pos}{b:TE}(h:X.K=K)(d:PE X e b)(c:attributeBase e f X.env (eval e X.env)=eval e X.env:=by rfl):PE X (.Attribute e f a) (xP K b f):=h ▸ wV d c
section
variable {X:Cx}{k ie ir:Nat}{f C:Addr}{fd:FuncData}{ps:List Str}{sp:Sp}{dvs:List V}{ds:List Value}{fx cn en rn:Str}{p pos p2 p3 cp hp tp:Pos}{e:Expr}{es:List Expr}{t:TA}{b₀:Stmt}{suite:List Stmt}{ts:TS}
end
end L2
namespace HT
open PySem PySem.Spec PyProof.Rows
section
variable {prog:Program}{w:World}{A:Around}{E:Value->Shared->Prop}{s:Shared}
end
end HT
namespace L2
open PySem PySem.Spec PyProof.Rows
section
variable {X:Cx}
def lB(K:Frag):R2:=λx y H Q=>∃ a b ys,x=.ref a/\y=.ref b/\SqT K H a []/\SqT K H b ys/\Q (.ref b) H
theorem op_catT0:OpR X (binaryOp .Add) (lB X.K):=by
 intro p s W H x y v u Q I M K h;obtain⟨a,b,T,rfl,rfl,L,F,q⟩:=h;cases M;cases K;obtain⟨l,C,G,_⟩:=I.tuple L;obtain⟨g,Y,P,_⟩:=I.tuple F;have B:l=[]:=C.nil_iff.mpr rfl;subst B;obtain⟨⟨N,D,A,E⟩,w,z,n,o⟩:=id G;obtain⟨⟨r,k,j,i⟩,d,c,R,f⟩:=id P;simp only at z o c f;subst z o c f
 exact concat_meets ⟨_,w,rfl⟩ ⟨_,d,rfl⟩ noFill_tuple_add seq_tuple_add PySem.F.slot_tuple_add PySem.F.entry_tuple_add (PySem.F.args_tuple_add_2 _ _)
   (tuple_addW0 a b _ g.toArray n R D k E i rfl) ⟨w,d,⟨.ref b,H,I,rfl,q⟩⟩
theorem ve:OpR X (binaryOp .Add) (λx y H Q=>lB X.K x y H Q\/pK X.K x y H Q):=op_catT0.or vR
@[irreducible] def PAq(X:Cx)(es:List Expr)(t:TA):Prop:=PA X es t
theorem kM:PAq X [] yH:=by unfold PAq;exact af
theorem aI{e:Expr}{c:List Expr}{b:TE}{t:TA}(d:PE X e b)(a:PAq X c t)(h:yQ e=false:=by rfl):PAq X (e::c) (uE b t):=by
 unfold PAq at a ⊢;exact sT d a h
theorem kC{b:List Expr}{t:TA}{a:Pos}(h:PAq X b t):PE X (.List b a) (Aj t):=by
 unfold PAq at h;exact bI h
end
structure LamD where
 qual:Str
 params:Arguments
 body:Expr
 scope:Scope
def jK(f:Addr)(d:LamD)(clos:List (Str×Addr))(c:Addr):Heap->Prop:=λh=>∃ pm ctv,h.get? f=some (kla_obj "<lambda>" d.qual d.params d.body d.scope clos pm c ctv)
def dw(c:Addr)(v:V):Heap->Prop:=λh=>∃ o u,h.get? c=some o/\o.data=.cell (some u)/\RelV v u
def fc(c:Addr)(q:Str):Heap->Prop:=λh=>∃ o vs t,h.get? c=some o/\o.data=.fields vs/\vs[1]? = some (.str q t)
section
variable {P:Program}{w:World}{H:Hp}{h:Heap}
theorem qx{f:Addr}{d:LamD}{b:List (Str×Addr)}{c:Addr}{g a:Value}(e:h.get? f=some (kla_obj "<lambda>" d.qual d.params d.body d.scope b g c a)):ObjOk P w H h f (.ext (jK f d b c)) :=
 ⟨⟨g,a,e⟩,⟨_,e⟩,λj l ⟨g,a,i⟩ k=>⟨g,a,k _ i⟩⟩
theorem nZ{c:Addr}{v:V}(x:dw c v h):ObjOk P w H h c (.ext (dw c v)) :=
 ⟨x,let ⟨o,_,e,_⟩:=x;⟨o,e⟩,λb d ⟨o,u,a,r⟩ k=>⟨o,u,k _ a,r⟩⟩
theorem uw{c:Addr}{q:Str}(x:fc c q h):ObjOk P w H h c (.ext (fc c q)) :=
 ⟨x,let ⟨o,_,_,e,_⟩:=x;⟨o,e⟩,λd f ⟨o,b,t,a,r⟩ k=>⟨o,b,t,k _ a,r⟩⟩
end
theorem xb(a:Addr)(o:Obj)(b:o.data≠.freed):∃ h:Heap,h.get? a=some o:=by
 refine⟨{ objs:=Array.replicate (a+1) o },?_⟩;obtain⟨c,d,f,g⟩:=o
 cases f <;> first | exact absurd rfl b | simp[Heap.get?]
theorem kJ{c:Addr}{q:Str}{v:V}:HO.ext (fc c q)≠HO.ext (dw c v):=λe=>by
 injection e with e
 obtain⟨h,a⟩:=xb c { cls:=.none,data:=.fields #[.none,.str q 0] } (by intro z;cases z);have y:dw c v h:=by rw[<- e];exact⟨_,_,_,a,rfl,rfl⟩
 obtain⟨o,u,b,d,_⟩:=y;rw[a]at b;cases b;cases d
def zy:HO->Bool
 | .tbl _=>false
 | _=>true
def SameT(H H':Hp):Prop:=∀ b o,H b=some o->(zy o=true->H' b=some o)/\∃ o',H' b=some o'
theorem SameT.refl{H:Hp}:SameT H H:=λb o e=>⟨λ_=>e,o,e⟩
theorem SameT.trans{H d h:Hp}(a:SameT H d)(b:SameT d h):SameT H h:=λc o e=>by
 obtain⟨f,l,i⟩:=a c o e;obtain⟨g,j,k⟩:=b c l i;exact⟨λn=>(b c o (f n)).1 n,j,k⟩
theorem Same.t{H H':Hp}(s:Same H H'):SameT H H':=λb o e=>⟨λ_=>s b o e,o,s b o e⟩
theorem SameT.at{H H':Hp}(s:SameT H H'){a:Addr}{o:HO}(e:H a=some o)(n:zy o=true:=by rfl):H' a=some o:=(s a o e).1 n
theorem SameT.free{H H':Hp}(s:SameT H H'){a:Addr}(e:H' a=none):H a=none:=by
 cases q:H a with
 | none=>rfl
 | some o=>obtain⟨_,c,b⟩:=s a o q;rw[e]at b;cases b
theorem SameT.put{H H':Hp}(s:SameT H H'){a:Addr}{o:HO}(e:H a=none):SameT H (upd H' a o):=λb u q=>by
 have n:b≠a:=λz=>by rw[z,e]at q;cases q
 rw[ag n];exact s b u q
def zY(H:Hp)(P:Addr)(ls:List (Pos×Str)):Prop:=∃ ps,H P=some (.tbl ps)/\TriplesOk ps.toList/\∀ l∈ls,codeAmong l.1 ps.toList=none\/∃ c,codeAmong l.1 ps.toList=some (.ref c)/\H c=some (.ext (fc c l.2))
abbrev nu:=List (Addr×List (Pos×Str))
def TabsOk(tabs:nu)(H:Hp):Prop:=∀ q∈tabs,zY H q.1 q.2
theorem TabsOk.same{d:nu}{H H':Hp}(t:TabsOk d H)(s:Same H H'):TabsOk d H':=λq f=>by
 obtain⟨h,g,j,k⟩:=t q f;exact⟨h,s _ _ g,j,λl i=>(k l i).imp id λ⟨c,a,b⟩=>⟨c,a,s _ _ b⟩⟩
theorem TabsOk.put{d:nu}{H:Hp}{r:Addr}{o:HO}(t:TabsOk d H)(j:∀ ps,H r≠some (.tbl ps))(h2:∀ φ,H r≠some (.ext φ)):TabsOk d (upd H r o):=λq g=>by
 obtain⟨ps,f,h,k⟩:=t q g;refine⟨ps,?_,h,λl i=>(k l i).imp id λ⟨c,a,b⟩=>⟨c,a,?_⟩⟩
 .rw[ag λz=>j ps (by rw[<- z];exact f)];exact f
 .rw[ag λz=>h2 _ (by rw[<- z];exact b)];exact b
theorem mq{p d:Pos}{c:Value}(l:List Value)(h:TriplesOk l)(f:¬(p.line=d.line/\p.col=d.col)):codeAmong d (l++[rawInt p.line,rawInt p.col,c])=codeAmong d l:=by
 fun_induction TriplesOk l with
 | case1 =>
  simp only[nil_append,codeAmong,rawInt];rw[if_neg];intro z;rw[Bool.and_eq_true,beq_iff_eq,beq_iff_eq]at z;exact f ⟨by lia,by lia⟩
 | case2 a t b u x rest ih =>
  simp only[cons_append,codeAmong];rw[ih h]
 | case3=>exact h.elim
theorem lE{p:Pos}{c:Value}(l:List Value)(h:TriplesOk l):TriplesOk (l++[rawInt p.line,rawInt p.col,c]):=by
 fun_induction TriplesOk l with
 | case1=>simp[TriplesOk,rawInt]
 | case2 a t b u x rest ih=>exact ih h
 | case3=>exact h.elim
def Bm(mg:Str->Option Value)(base:Heap):Prop:=∃ bm ob,mg "__builtins__" = some (.ref bm)/\base.get? bm=some ob/\ob.cls=.type "module" /\ ob.dict=some builtinsNs/\ob.data=.plain
def BK(tabs:nu)(d:LamD)(clos:List (Str×Addr)):TE:=λσ H Q=>TabsOk tabs H/\∀ f c H1,SameT H H1->TabsOk tabs H1->H f=none->H1 f=some (.ext (jK f d clos c))->H1 c=some (.ext (fc c d.qual))->Q (.ref f) H1
theorem lQ{c b:Type}:∀{l:List (c×b)},(l.map (·.1)).Nodup->∀ x∈l,∀ y∈l,x.1=y.1->x=y
 | [],_,x,hx,_,_,_=>by cases hx
 | a::r,nd,x,hx,y,hy,e=>by
  rw[map_cons,nodup_cons]at nd
  rcases mem_cons.mp hx with rfl | hx' <;> rcases mem_cons.mp hy with rfl | hy'
  .rfl
  .exact absurd (mem_map.mpr ⟨y,hy',e.symm⟩) nd.1
  .exact absurd (mem_map.mpr ⟨x,hx',e⟩) nd.1
  .exact lQ nd.2 x hx' y hy' e
theorem qK:∀{l:List (Pos×Str)},(l.Pairwise λx y=>¬(x.1.line=y.1.line/\x.1.col=y.1.col))->∀ x∈l,∀ y∈l,(x.1.line=y.1.line/\x.1.col=y.1.col)->x=y
 | [],_,x,hx,_,_,_=>by cases hx
 | a::r,nd,x,hx,y,hy,e=>by
  rw[pairwise_cons]at nd
  rcases mem_cons.mp hx with rfl | hx' <;> rcases mem_cons.mp hy with rfl | hy'
  .rfl
  .exact absurd e (nd.1 y hy')
  .exact absurd ⟨e.1.symm,e.2.symm⟩ (nd.1 x hx')
  .exact qK nd.2 x hx' y hy' e
section
variable {X:Cx}{tabs:nu}{P c:Addr}{ls:List (Pos×Str)}{d:LamD}{clos:List (Str×Addr)}{pos:Pos}
theorem zc(al:X.env.code=.ref c)(hC:codeHdIn X.K c P=true)(hB:Bm X.mg X.base)(hq:X.env.qual ++ "<lambda>" = d.qual)(N:closureFor d.scope X.env=pure clos)(R:defaultsOf d.params X.env=([],[]))
  (hm:(P,ls)∈tabs) (hl:(pos,d.qual)∈ls) (bb:(tabs.map (·.1)).Nodup) (bc:ls.Pairwise λx y=>¬(x.1.line=y.1.line/\x.1.col=y.1.col)):PE X (.Lambda d.params d.body d.scope pos) (BK tabs d clos):=by
 intro bl s σ H Q I h;obtain⟨hT,hQ⟩:=h;refine PySem.W.kla_eval R ?_;rw[hq];obtain⟨G,w,l,as⟩:=hT _ hm;have r:s.heap.Ns mainGlobals X.mg:=I.mod.glob.keeps I.bk;have C:CodeHd s.heap c P:=codeHd_of_K I.kIn hC;have A:s.heap.get? P=some (tabObj G):=I.hok P _ w
 have a4:mainGlobals≠P:=λq=>by
  obtain⟨o,es,ep,e,M,_⟩:=r;rw[q,A]at e;cases e;cases M
 obtain⟨bm,ob,b1,b2,b3,b4,b5⟩:=hB;have W:=I.bk _ _ b2
 have a2:bm≠P:=λq=>by
  rw[q,A]at W;cases W;cases b3
 have a0:bm≠mainGlobals:=λq=>by
  obtain⟨o,es,ep,e,M,_⟩:=r;rw[q,e]at W;cases W;rw[M]at b5;cases b5
 have bg:bm≠builtinsNs:=λq=>by
  obtain⟨mb,⟨o,es,ep,e,M,_⟩,_⟩:=I.mod.blt;rw[q,e]at b2;cases b2;rw[M]at b5;cases b5
 have BA:s.heap.BuiltinsAt X.mg P:=⟨bm,ob,b1,bg,a0,a2,W,b3,b4,b5⟩
 rcases as _ hl with hn | ⟨i,hc,a1⟩
 .refine PySem.W.kla_makeFunction (mg:=X.mg) N I.ok.glob r al C A l hn a4 BA λi an h' tk hx p F ab a8=>?_
  have ac:H i=none:=I.hok.fresh p;have j:H h'.objs.size=none:=I.hok.fresh (Nat.le_trans p (Nat.le_of_lt F));have L:i≠h'.objs.size:=Nat.ne_of_lt F;have a5:P≠i:=aE w ac;have Y:P≠h'.objs.size:=aE w j
  obtain⟨f,hf⟩:∃ f,f=h'.objs.size:=⟨_,rfl⟩
  obtain⟨ob',hob⟩:∃ o,o=kla_obj "<lambda>" d.qual d.params d.body d.scope clos ((X.mg "__name__").getD .none) i an:=⟨_,rfl⟩
  have a6:(h'.push ob').get? f=some ob':=by rw[hf,hob];exact Heap.get?_push_size _ rfl
  have k:∀ b o,b≠P->s.heap.get? b=some o->(h'.push ob').get? b=some o:=λb o n e=>Heap.get?_push_of_some _ (hx b o n e)
  have B:(h'.push ob').get? P=some (tabObj (G ++ #[rawInt pos.line,rawInt pos.col,.ref i])):=Heap.get?_push_of_some _ a8
  have a':fc i d.qual (h'.push ob'):=by
   obtain⟨D,oc,vs,t,e2,a9,a7,hv⟩:=ab;cases e2;exact⟨oc,vs,t,Heap.get?_push_of_some _ a9,a7,hv⟩
  rw[<- hf]at j L Y ⊢;rw[<- hob]
  obtain⟨H1,hH1⟩:∃ H1,H1=upd (upd (upd H P (.tbl (G ++ #[rawInt pos.line,rawInt pos.col,.ref i]))) i (.ext (fc i d.qual))) f (.ext (jK f d clos i)):=⟨_,rfl⟩
  have gf:H1 f=some (.ext (jK f d clos i)):=by rw[hH1];exact ae
  have gc:H1 i=some (.ext (fc i d.qual)):=by rw[hH1,ag L];exact ae
  have gP:H1 P=some (.tbl (G ++ #[rawInt pos.line,rawInt pos.col,.ref i])):=by rw[hH1,ag Y,ag a5];exact ae
  have go:∀ b,b≠P->b≠i->b≠f->H1 b=H b:=λb h1 h2 T=>by rw[hH1,ag T,ag h2,ag h1]
  have g:∀ b o,b≠P->H b=some o->H1 b=some o:=λb o n e=>by rw[go b n (aE e ac) (aE e j)];exact e
  have E:∀ b o,H b=some o->(∀ qs,o≠.tbl qs)->b≠P:=λb o e n z=>by rw[z,w]at e;cases e;exact n G rfl
  have un:Un X.fs [] H H1 s.heap (h'.push ob'):=by
   refine⟨λb o e n _ _=>k b o (λz=>by rw[z,w]at n;cases n) e,λb o e n _ _=>⟨o.slots,k b o (λz=>by rw[z,w]at n;cases n) e⟩,λb o e n _=>?_,λb o e _=>?_,λb xs e=>g b _ (E b _ e λ_ z=>nomatch z) e,λb o u e=>g b _ (E b _ e λ_ z=>nomatch z) e,λb qs e=>?_⟩
   .have hb:b<s.heap.objs.size:=Heap.lt_size e
    rw[go b (λz=>by rw[z,w]at n;cases n) (Nat.ne_of_lt (Nat.lt_of_lt_of_le hb p)) (by rw[hf];exact Nat.ne_of_lt (Nat.lt_of_lt_of_le hb (Nat.le_trans p (Nat.le_of_lt F))))];exact n
   .by_cases hb:b=P
    .rw[hb];exact⟨_,B⟩
    .exact⟨o,k b o hb e⟩
   .by_cases hb:b=P
    .rw[hb,w]at e
     cases e;rw[hb];exact⟨_,gP⟩
    .exact⟨#[],by rw[g b _ hb e];simp⟩
  have ba:HOk X.prog X.w H1 (h'.push ob'):=λa o e=>by
   by_cases h1:a=f
   .subst h1;rw[gf]at e;cases e;exact qx (by rw[a6,hob])
   by_cases h2:a=i
   .subst h2;rw[gc]at e;cases e;exact uw a'
   by_cases T:a=P
   .subst T;rw[gP]at e;cases e;exact B
   rw[go a T h2 h1]at e;refine(I.hok a o e).stay (λb u hb q=>k b u ?_ q) (λb q=>g b _ (E b _ q λ_ z=>nomatch z) q) λb xs q=>g b _ (E b _ q λ_ z=>nomatch z) q
   rcases hb with rfl | hb
   .exact T
   .exact E b _ hb λ_ z=>nomatch z
  refine⟨.ref f,H1,I.un (h':=h'.push ob') (t':=tk) un ba,rfl,hQ f i H1 (λb o e=>?_) (λq hq'=>?_) j gf gc⟩
  .by_cases hb:b=P
   .subst hb
    rw[w]at e;cases e;exact⟨λz=>(Bool.false_ne_true z).elim,_,gP⟩
   .exact⟨λ_=>g b o hb e,o,g b o hb e⟩
  .by_cases hqP:q.1=P
   .have a3:q=(P,ls):=lQ bb q hq' (P,ls) hm hqP
    subst a3;refine⟨_,gP,by rw[Array.toList_append];exact lE _ l,λK v=>?_⟩;rw[Array.toList_append]
    by_cases hp:pos.line=K.1.line/\pos.col=K.1.col
    .have:=qK bc (pos,d.qual) hl K v hp
     subst this;exact .inr ⟨i,codeAmong_snoc _ l hn,gc⟩
    .have eo:=mq (c:=.ref i) G.toList l hp
     rcases as K v with z | ⟨D,z1,z2⟩
     .exact .inl (eo.trans z)
     .exact .inr ⟨D,eo.trans z1,g D _ (E D _ z2 λ_ z=>nomatch z) z2⟩
   .obtain⟨qs,e1,e2,e3⟩:=hT q hq'
    exact⟨qs,g _ _ hqP e1,e2,λK v=>(e3 K v).imp id λ⟨D,z1,z2⟩=>⟨D,z1,g D _ (E D _ z2 λ_ z=>nomatch z) z2⟩⟩
 .refine PySem.W.kla_makeFunctionHit (mg:=X.mg) N I.ok.glob r al C A l hc BA λan h' tk hk Z=>?_
  have j:H h'.objs.size=none:=I.hok.fresh Z;have sm:Same H (upd H h'.objs.size (.ext (jK h'.objs.size d clos i))):=Same.new j;refine⟨.ref h'.objs.size,_,I.laid (a:=h'.objs.size) (o:=.ext (jK h'.objs.size d clos i)) (t':=tk) (λb u e=>Heap.get?_push_of_some _ (hk b u e)) Z (qx (Heap.get?_push_size _ rfl)),rfl,hQ _ i _ sm.t (hT.same sm) j ae (sm _ _ a1)⟩
end
def untrs(H:Hp)(cs:List Addr):Hp:=λb=>if b∈cs then none else H b
theorem eC{H:Hp}{a:List Addr}{b:Addr}(h:b∈a):untrs H a b=none:=by unfold untrs;rw[if_pos h]
theorem bH{H:Hp}{a:List Addr}{b:Addr}(h:b ∉ a):untrs H a b=H b:=by unfold untrs;rw[if_neg h]
theorem cW{H:Hp}{a:List Addr}{b:Addr}(h:H b=none):untrs H a b=none:=by unfold untrs;split <;> first | rfl | exact h
abbrev CellsAt(H:Hp):List (Str×Addr)->List V->Prop:=Paired λ(p:Str×Addr) (v:V)=>H p.2=some (.ext (dw p.2 v))
theorem CellsAt.mem{H:Hp}:∀{clos:List (Str×Addr)}{vals:List V},CellsAt H clos vals->∀ p∈clos,∃ v,H p.2=some (.ext (dw p.2 v))
 | _,_,.nil,p,h=>by cases h
 | _,_,.cons r t,p,h=>by
  rcases mem_cons.mp h with rfl | h
  .exact⟨_,r⟩
  .exact CellsAt.mem t p h
theorem CellsAt.get{H:Hp}:∀{clos:List (Str×Addr)}{vals:List V}{i:Nat}{v:V},CellsAt H clos vals->vals[i]? = some v->∃ p,clos[i]? = some p/\H p.2=some (.ext (dw p.2 v))
 | _,_,_,_,.nil,h=>by cases h
 | _,_,0,_,.cons r t,h=>by cases h;exact⟨_,rfl,r⟩
 | _,_,i+1,_,.cons r t,h=>CellsAt.get (i:=i) t h
theorem CellsAt.at{H:Hp}{a:List (Str×Addr)}{c:List V}(g:CellsAt H a c){b:Addr}(d:b∈a.map (·.2)):∃ v,H b=some (.ext (dw b v)):=by
 obtain⟨p,f,rfl⟩:=mem_map.mp d;exact g.mem p f
theorem cT{H:Hp}{a:List (Str×Addr)}{c:List V}{b:Addr}{o:HO}(d:CellsAt H a c)(h:H b=some o)(n:∀ v,o≠.ext (dw b v)):untrs H (a.map (·.2)) b=some o:=by
 rw[bH λz=>?_]
 .exact h
 .obtain⟨v,e⟩:=d.at z
  rw[h]at e;exact n v (Option.some.inj e)
theorem dg{a:Type}:∀{l:List (Str×a)}{x:Str}{u:a},(l.map (·.1)).Nodup->(x,u)∈l->l.lookup x=some u
 | [],_,_,_,h=>by cases h
 | (y,w)::r,x,u,nd,h=>by
  rw[map_cons,nodup_cons]at nd
  rcases mem_cons.mp h with e | h
  .cases e;simp[List.lookup]
  .have:x≠y:=λz=>nd.1 (mem_map.mpr ⟨(x,u),h,z⟩)
   rw[lookup_cons,beq_eq_false_iff_ne.mpr this];exact dg nd.2 h
theorem rV{a:Type}{l:List a}(h:l.Nodup):l.reverse.Nodup:=by
 unfold List.Nodup at h ⊢;rw[List.pairwise_reverse];exact h.imp λn z=>n z.symm
def i6(d:LamD)(L f c:Addr)(clos:List (Str×Addr)):Env:={ scope:=d.scope,locals:=L,globals:=mainGlobals,cells:=clos,qual:=d.qual ++ ".<locals>.",func:=some f,code:=.ref c,frame:=some L,builtins:=builtinsNs }
def cxL(P:Program)(w:World)(K:Frag)(mg:Str->Option Value)(base:Heap)(N:List Str)(d:LamD)(clos:List (Str×Addr))(f c:Addr)(A:Around)(outer:List Env)(s:Shared)(H:Hp):Cx where
 prog:=P
 w:=w
 K:=K
 mg:=mg
 base:=base
 A:=A.deeper (i6 d s.heap.objs.size f c clos)
 N:=N
 s₀:=s
 H₀:=untrs H (clos.map (·.2))
 env:=i6 d s.heap.objs.size f c clos
 outer:=outer
 stack:=i6 d s.heap.objs.size f c clos::outer
 ex:=[]
 calm:=true
 fn:=λ_=>false
 pn:=[]
 xe:=λ_ _=>False
def LamOk(P:Program)(w:World)(K:Frag)(mg:Str->Option Value)(base:Heap)(k:Nat)(d:LamD)(fv ps:List Str)(sp:List V->Sp):Prop :=
 ∀(A:Around) (outer:List Env) (s:Shared) (H:Hp) (f c:Addr) (clos:List (Str×Addr)) (us:List Value) (vs vals:List V) (Q:VK) (E:XK),Room k A->Env0 P w K mg base A outer s H->H f=some (.ext (jK f d clos c))->H c=some (.ext (fc c d.qual)) ->
  clos.map (·.1)=fv->(clos.map (·.2)).Nodup->CellsAt H clos vals->Vals vs us->sp vals vs H Q E->codeAny (model P w) A (.call (.ref f) ⟨us,[]⟩) (CR CX0 outer P w H s Q E) s
structure LamScope(d:LamD)(fv ps:List Str):Prop where
 kind:d.scope.kind=.function
 co:d.scope.isCoroutine=false
 gen:d.scope.isGenerator=false
 nocell:∀ x∈d.scope.names,x.2≠.cell
 par:∀ x ∈ ps,d.scope.names.lookup x = some .local
 free:∀ x∈d.scope.names,x.2=.free->x.1∈fv
 fr:∀ x∈fv,d.scope.names.lookup x=some .free
 nd:(ps++fv).Nodup
theorem cE{a b:Type}[BEq a][LawfulBEq a]:∀{l:List (a×b)}{x:a}{u:b},l.lookup x=some u->(x,u)∈l
 | [],_,_,h=>by cases h
 | (y,w)::r,x,u,h=>by
  rw[lookup_cons]at h;cases e:x == y with
  | true=>rw[e]at h;cases h;rw[eq_of_beq e];exact mem_cons_self ..
  | false=>rw[e]at h;exact mem_cons_of_mem _ (cE h)
theorem oH{P:Program}{w:World}{K:Frag}{mg:Str->Option Value}{C:Heap}{d:LamD}{I ps:List Str}{a:List (Str×Addr)}{f c:Addr}{A:Around}{j:List Env}{s:Shared}{H:Hp}{us:List Value}{vs g:List V}{F:Heap}{tk:Nat}
  (S:LamScope d I ps) (hd:A.handled=none) (B:Env0 P w K mg C A j s H) (hl:vs.length=ps.length) (r:Vals vs us) (D:a.map (·.1)=I) (ac:(a.map (·.2)).Nodup) (T:CellsAt H a g)
  (X:F.Ns s.heap.objs.size (λx=>(ps.zip us).reverse.lookup x)) (hk:∀ b o,s.heap.get? b=some o->F.get? b=some o) :
  Inv (cxL P w K mg C (ps++I) d a f c A j s H) [] ((vs++g).map some) (untrs H (a.map (·.2))) { s with heap:=F,toks:=tk }:=by
 have Q:(a.map (·.1)).Nodup:=by rw[D];exact(nodup_append.mp S.nd).2.1
 have al:ps.Nodup:=(nodup_append.mp S.nd).1;have an:us.length=ps.length:=by rw[<- r.length];exact hl
 have R:∀ x l,a.lookup x=some l->l∈a.map (·.2):=λx l e=>mem_map.mpr ⟨(x,l),cE e,rfl⟩
 have k:∀ b v,H b=some (.ext (dw b v))->∃ u,RelV v u/\F.IsCell b (some u):=λb v e=>by
  obtain⟨⟨o,u,E,n,g3⟩,_⟩:=B.hok b _ e;exact⟨u,g3,o,hk _ _ E,n⟩
 have M:∀ b:Addr,b ∉ (cxL P w K mg C (ps++I) d a f c A j s H).ex:=λb z=>absurd (show b∈([]:List Addr) from z) (by simp)
 have as:a.length=I.length:=by rw[<- D,length_map]
 have a0:g.length=a.length:=(Paired.length T).symm
 refine⟨⟨B.mod,S.kind,rfl,rfl,Nat.le_refl _,λy z l F Y=>?_,λy hy=>?_,λy l h=>(Bool.false_ne_true h).elim,λ_=>hd,Around.frames_deeper B.frames,.inr ⟨rfl,rfl⟩,λb z=>absurd z (M b),λb o e=>⟨(B.bs b o e).1,cW (B.bs b o e).2⟩,B.bsz,λb _ _=>M b,λb z=>absurd z (M b),B.funs,λb hb=>cW (B.frf b hb)⟩,
  rfl,B.bare,Un.kept hk,⟨_,X,λi y v E n g3=>?_⟩,λy l h=>?_,cW (B.hok.fresh (Nat.le_refl _)),λy l h=>eC (R y l h),λp N=>absurd (show p∈([]:List (Addr×Obj)) from N) (by simp),λb u e=>?_,?_⟩
 .have F:a.lookup y=some l:=F
  have Y:a.lookup z=some l:=Y;have e1:=cE F;have e2:=cE Y;have W:((a.map λp=>(p.2,p.1)).map (·.1)).Nodup:=by rw[map_map];exact ac
  have:=lQ W (l,y) (mem_map.mpr ⟨_,e1,rfl⟩) (l,z) (mem_map.mpr ⟨_,e2,rfl⟩) rfl;exact congrArg Prod.snd this
 .have hy:d.scope.names.lookup y=some .cell\/d.scope.names.lookup y=some .free:=hy
  rcases hy with hy | hy
  .exact absurd rfl (S.nocell _ (cE hy))
  .have:=S.free _ (cE hy) rfl
   rw[<- D]at this;obtain⟨p,N,e⟩:=mem_map.mp this;have e':p.1=y:=e;exact⟨p.2,dg Q (by show(y,p.2)∈a;rw[<- e'];exact N)⟩
 .have E:(ps++I)[i]? = some y:=E
  by_cases hi:i<ps.length
  .rw[List.getElem?_append_left hi]at E
   rw[List.getElem?_map,List.getElem?_append_left (by lia)]at n
   have L:vs[i]? = some v:=by
    cases q:vs[i]? with
    | none=>rw[q]at n;cases n
    | some x=>rw[q]at n;cases n;rfl
   obtain⟨u,hu,rv⟩:=r.get L;refine⟨u,rv,.inl ⟨S.par y (List.mem_of_getElem? E),?_⟩⟩;have ab:(y,u)∈ps.zip us:=List.mem_of_getElem? (i:=i) (by rw[List.getElem?_zip_eq_some];exact⟨E,hu⟩);refine dg ?_ (List.mem_reverse.mpr ab);rw[List.map_reverse];refine rV ?_;have:(ps.zip us).map (·.1)=ps:=by rw[List.map_fst_zip];lia
   rw[this];exact al
  .rw[List.getElem?_append_right (by lia)]at E
   rw[List.getElem?_map,List.getElem?_append_right (by lia)]at n
   have L:g[i - ps.length]? = some v:=by
    rw[hl]at n;cases q:g[i - ps.length]? with
    | none=>rw[q]at n;cases n
    | some x=>rw[q]at n;cases n;rfl
   obtain⟨p,N,e⟩:=T.get L;rw[<- D,List.getElem?_map,N]at E;cases E;obtain⟨u,rv,Z⟩:=k _ _ e;have G:=List.mem_of_getElem? N;refine⟨u,rv,.inr ⟨.inr (S.fr p.1 ?_),p.2,dg Q G,Z⟩⟩;rw[<- D];exact mem_map.mpr ⟨p,G,rfl⟩
 .obtain⟨v,e⟩:=T.at (R y l h)
  obtain⟨u,_,Z⟩:=k _ _ e;exact⟨_,Z⟩
 .by_cases hb:b∈a.map (·.2)
  .rw[eC hb]at e;cases e
  .rw[bH hb]at e
   refine(B.hok b u e).stay (λb' u' _ q=>hk b' u' q) (λb' q=>?_) λb' xs q=>?_
   .exact cT T q λv z=>nomatch z
   .exact cT T q λv z=>nomatch z
 .show((vs++g).map some).length=(ps++I).length
  rw[length_map,length_append,length_append];lia
section
variable {P:Program}{w:World}{K:Frag}{mg:Str->Option Value}{base:Heap}
theorem yK{d:LamD}{N ps:List Str}{k:Nat}{sp:List V->Sp}(S:LamScope d N ps)
  (C:∀(pm ctv:Value) (clos:List (Str×Addr)) (c:Addr) (us:List Value),us.length=ps.length->bindArgs (kla_fn "<lambda>" d.qual d.params d.body d.scope clos pm (.ref c) ctv) ⟨us,[]⟩=pure (ps.zip us))
  (ab:∀ vals vs H Q E,sp vals vs H Q E->vs.length=ps.length)
  (l:∀(A:Around) (outer:List Env) (s:Shared) (H:Hp) (f c:Addr) (clos:List (Str×Addr)) (vals vs:List V) (Q:VK) (E:XK),Room k (A.deeper (i6 d s.heap.objs.size f c clos))->clos.map (·.1)=N->CellsAt H clos vals->sp vals vs H Q E ->
   ∃ t,PE (cxL P w K mg base (ps++N) d clos f c A outer s H) d.body t/\t ((vs++vals).map some) (untrs H (clos.map (·.2))) (λv H'=>∀ H3,Same H' H3->(∀ p∈clos,H3 p.2=H p.2)->Q v H3)) :
  LamOk P w K mg base (k+1) d N ps sp:=by
 intro A outer s H f c clos us vs vals Q E W j hf hc L Z B r G;have hl:=ab _ _ _ _ _ G;have R:us.length=ps.length:=by rw[<- r.length];exact hl
 obtain⟨⟨pm,ctv,ef⟩,_,_⟩:=j.hok f _ hf;obtain⟨⟨oc,X,ct,ec,ed,ev⟩,_,_⟩:=j.hok c _ hc;have T:s.heap.NoLimit:=j.mod.nolimit.keeps λb o e=>(j.bs b o e).1
 obtain⟨t,ht,hq⟩:=l A outer s H f c clos vals vs Q E (W.deeper _) L B G;refine PySem.W.kla_callFunE (body:=d.body) W.depth ef rfl S.co S.gen rfl ⟨c,oc,X,ct,rfl,ec,ed,ev⟩ ?_;rw[C pm ctv clos c us R];refine wpAny_pure (wpAny_newFunctionEnv S.nocell (λy hy=>S.par y.1 (of_mem_zip hy).1) (λh1 hns hsb=>?_) S.kind);have hk:∀ b o,s.heap.get? b=some o->h1.get? b=some o:=λb o e=>hsb.extBut b o (Nat.ne_of_lt (Heap.lt_size e)) (Heap.get?_push_of_some _ e)
 refine⟨T.fresh _ hsb,?_⟩;show codeAny _ _ (.expr d.body (i6 d s.heap.objs.size f c clos)) _ _;have I:=oH (f:=f) (c:=c) (tk:=s.toks+(ps.zip us).length) S W.hd j hl r L Z B hns hk;refine PySem.W.kla_codeExpr (wpAny_mono (ht [] _ _ _ _ I hq) (λu s' hs=>?_) λe s' z=>False.elim z);obtain⟨v,H',J,rv,q⟩:=hs
 obtain⟨cs,hcs⟩:∃ cs,cs=clos.map (·.2):=⟨_,rfl⟩
 have h:Un (frs outer) [] (untrs H (clos.map (·.2))) H' s.heap s'.heap:=J.base
 have x:∀ b,b∈clos.map (·.2)->∃ o v,s.heap.get? b=some o/\H b=some (.ext (dw b v)):=λb a=>by
  obtain⟨v,e⟩:=B.at a;obtain⟨⟨o,_,g,_⟩,_⟩:=j.hok b _ e;exact⟨o,v,g,e⟩
 have Y:∀ b∈clos.map (·.2),H' b=none:=λb a=>by
  obtain⟨o,v,g,_⟩:=x b a;exact h.free b o g (eC a) (by simp)
 let H3:Hp:=λb=>if b∈clos.map (·.2) then H b else H' b
 have g1:∀ b,b∈clos.map (·.2)->H3 b=H b:=λb a=>if_pos a
 have g2:∀ b,b ∉ clos.map (·.2)->H3 b=H' b:=λb a=>if_neg a
 have D:Same H' H3:=λb o e=>by
  rw[g2 b λz=>by rw[Y b z]at e;cases e];exact e
 have up:∀ b o,H b=some o->(∀ v,o≠.ext (dw b v))->b ∉ clos.map (·.2):=λb o e n z=>by
  obtain⟨v,i⟩:=B.at z;rw[e]at i;exact n v (Option.some.inj i)
 refine⟨v,H3,J.os,J.bare,⟨λb o e n a M=>h.keep b o e (cW n) a M,λb o e n a M=>h.slot b o e (cW n) a M,λb o e n M=>?_,h.there,λb xs e=>?_,λb o u e=>?_,λb ps' e=>?_⟩,λb o e=>?_,rv,q H3 D λp hp=>g1 p.2 (mem_map.mpr ⟨p,hp,rfl⟩)⟩
 .rw[g2 b λz=>by obtain⟨_,v,_,i⟩:=x b z;rw[n]at i;cases i]
  exact h.free b o e (cW n) M
 .exact D _ _ (h.tups b xs (cT B e λv z=>nomatch z))
 .exact D _ _ (h.frzs b o u (cT B e λv z=>nomatch z))
 .obtain⟨F,z⟩:=h.tbls b ps' (cT B e λv z=>nomatch z)
  exact⟨F,D _ _ z⟩
 .by_cases a:b∈clos.map (·.2)
  .rw[g1 b a]at e
   obtain⟨o',v',g,i⟩:=x b a;rw[e]at i;cases i;obtain⟨⟨o2,u2,k1,k2,k3⟩,_⟩:=j.hok b _ e;refine nZ ⟨o2,u2,h.keep b o2 k1 (eC a) (λz=>?_) (by simp),k2,k3⟩;rw[j.frf b z]at e;cases e
  .rw[g2 b a]at e
   refine(J.hok b o e).stay (λb' u' _ q=>q) (λb' q=>D _ _ q) λb' xs q=>D _ _ q
end
theorem PE.or{X:Cx}{e:Expr}{t t':TE}(h:PE X e t)(h':PE X e t'):PE X e (λσ H Q=>t σ H Q\/t' σ H Q):=λa s σ H Q I q=>q.elim (h a s σ H Q I) (h' a s σ H Q I)
def vS(d:LamD)(fv:List Str)(sp:List V->Sp):V->List V->Hp->VK->Prop:=λv vs H Q=>∃ f c clos vals,v=.ref f/\H f=some (.ext (jK f d clos c))/\H c=some (.ext (fc c d.qual))/\clos.map (·.1)=fv/\(clos.map (·.2)).Nodup/\CellsAt H clos vals/\sp vals vs H Q λ_ _ _=>False
section
variable {X:Cx}{d:LamD}{fv ps:List Str}{k:Nat}{sp:List V->Sp}{x:Str}{p pos:Pos}{tf:TE}{t:TA}{e:Expr}{es:List Expr}
theorem wM{a:List (Addr×Obj)}{σ:St}{H:Hp}{s:Shared}{Q:VK}{us:List Value}{vs:List V}{v:V}{u:Value}(L:LamOk X.prog X.w X.K X.mg X.base k d fv ps sp)(j:Room k X.A)(I:Inv X a σ H s)(o:RelV v u)(r:Vals vs us)(h:vS d fv sp v vs H Q) :
  wpAny (model X.prog X.w) X.A (call u us) (EP X a σ Q) X.xe s:=by
 obtain⟨f,c,g,i,rfl,q,l,w,x,p,n⟩:=h;obtain rfl:u=Value.ref f:=o;refine wpAny_call (codeAny_mono (L X.A X.stack s H f c g us vs i Q _ j I.env0 q l w x p r n) λr y b=>?_);cases r with
 | error e=>exact False.elim b
 | ok fl =>
  cases fl with
  | ret u=>exact I.after b
  | next=>exact False.elim b
  | brk=>exact False.elim b
  | cont=>exact False.elim b
theorem ww{H:Hp}{s:Shared}{P:Program}{w:World}{f c:Addr}{d:LamD}{a:List (Str×Addr)}(g:HOk P w H s.heap)(i:H f=some (.ext (jK f d a c))):FnAt f s.heap:=by
 obtain⟨⟨j,b,h⟩,_,_⟩:=g f _ i;exact⟨_,_,_,_,h⟩
theorem kd(n:PE X (.Name x p) tf)(L:LamOk X.prog X.w X.K X.mg X.base k d fv ps sp)(j:Room k X.A):PE X (.Call (.Name x p) [] [] pos) (λσ H Q=>tf σ H λv H1=>vS d fv sp v [] H1 Q):=by
 intro a s σ H Q I h;refine wpAny_Call_Name_kw (thn (n a s σ H _ I h) λu w ⟨v,H1,i,l,q⟩=>?_);obtain⟨f,c,b,g,o,r,_⟩:=id q;subst o;obtain rfl:u=Value.ref f:=l;exact PySem.W.callWith_F0 (ww i.hok r) (wM (us:=[]) L j i (v:=.ref f) rfl .nil q)
end
abbrev TR:=VK->(V->St->Hp->Prop)->St->Hp->Prop
def PR(X:Cx)(sts:List Stmt)(t:TR):Prop :=
 ∀(pins:List (Addr×Obj)) (s:Shared) (σ:St) (H:Hp) (R:VK) (Z:V->St->Hp->Prop),Inv X pins σ H s->t R Z σ H ->
  wpAny (model X.prog X.w) X.A (execs sts X.env) (λf s'=>∃ u,f=.ret u/\((∃ v σ' H',Inv X pins σ' H' s'/\RelV v u/\(R v H'\/Z v σ' H'))\/∃ v H',s'.os=X.s₀.os/\AllBare s'.gens/\Un X.fs X.ex X.H₀ H' X.s₀.heap s'.heap/\HOk X.prog X.w H' s'.heap/\RelV v u/\R v H')) X.xe s
section
variable {X:Cx}{e:Expr}{te:TE}{pos:Pos}{st:Stmt}{rest:List Stmt}{t:TS}{u:TR}
theorem yb(b:PE X e te):PR X [.Return (some e) pos] (λ_ Z σ H=>te σ H λv H'=>Z v σ H'):=by
 intro a s σ H R Z I h;refine wpAny_execs_cons (wpAny_Return_some (thn (b a s σ H _ I h) λv i ⟨x,c,f,d,g⟩=>?_));exact⟨v,rfl,.inl ⟨x,σ,c,f,d,.inr g⟩⟩
end
def pS(cells:List (Str×Addr))(N:List Str)(σ:St)(H3:Hp):Prop:=∀(i:Nat) (y:Str) (v:V) (c:Addr),N[i]? = some y->σ[i]? = some (some v)->cells.lookup y=some c->H3 c=some (.ext (dw c v))
theorem gY{y:Str}{c:Addr}:∀(names:List (Str×NameKind)) (n:Nat) (acc:List (Str×Addr)),(y,c)∈cellsFrom n names acc->(y,c)∈acc\/(y,NameKind.cell)∈names
 | [],n,acc,h=>.inl h
 | (x,k)::r,n,acc,h=>by
  unfold cellsFrom at h
  split at h
  .rename_i hk
   rcases gY r (n+1) ((x,n)::acc) h with z | z
   .rcases mem_cons.mp z with e | z
    .cases e
     rw[eq_of_beq hk];exact .inr (mem_cons_self ..)
    .exact .inl z
   .exact .inr (mem_cons_of_mem _ z)
  .rcases gY r n acc h with z | z
   .exact .inl z
   .exact .inr (mem_cons_of_mem _ z)
section
variable {P:Program}{w:World}{K:Frag}{mg:Str->Option Value}{base:Heap}
theorem AE{CX:CXT}{N:List Str}{B:Str}{scope:Scope}{f:Addr}{Y:Value}{A:Around}{a:List Env}{s s':Shared}{H H':Hp}{E:XK}{σ:St}(hN:N.Nodup)(T:∀ p∈scope.names,p.2=.cell->scope.names.lookup p.1=some .cell)
  {I:List (Addr×Obj)}(J:Inv (iY CX P w K mg base N B scope f Y A a s H E) I σ H' s') :
  ∃ H3,Same H' H3/\pS (cellsFrom (s.heap.objs.size+1) scope.names []) N σ H3/\(∀ b,H' b=none->H3 b≠none->∃ y,(cellsFrom (s.heap.objs.size+1) scope.names []).lookup y=some b)/\Un (frs a) [] H H3 s.heap s'.heap/\HOk P w H3 s'.heap:=by
 have x:∀ y c,(cellsFrom (s.heap.objs.size+1) scope.names []).lookup y=some c->scope.names.lookup y=some .cell:=λy c e=>by
  rcases gY _ _ _ (cE e) with z | z
  .cases z
  .exact T _ z rfl
 obtain⟨cells,hcells⟩:∃ l,l=cellsFrom (s.heap.objs.size+1) scope.names []:=⟨_,rfl⟩
 rw[<- hcells]at x ⊢;have d:(iY CX P w K mg base N B scope f Y A a s H E).env.cells=cells:=hcells.symm
 let G:Addr->V->Prop:=λb v=>∃(i:Nat) (y:Str),N[i]? = some y/\σ[i]? = some (some v)/\cells.lookup y=some b
 have G1:∀ b v X,G b v->G b X->v=X:=by
  rintro b v X ⟨i,y,M,L,g⟩ ⟨j,z,b1,Z,b3⟩;have:y=z:=J.ok.inj y z b (by rw[d];exact g) (by rw[d];exact b3);subst this;have:i=j:=iV hN M b1;subst this;rw[L]at Z;cases Z;rfl
 have W:∀ b v,G b v->H' b=none/\s.heap.objs.size<=b/\dw b v s'.heap:=by
  rintro b v ⟨i,y,M,L,g⟩;refine⟨J.freeC y b (by rw[d];exact g),J.ok.cab y b rfl (by rw[d];exact g),?_⟩;obtain⟨m,hn,hl⟩:=J.loc;obtain⟨u,r,l⟩:=hl i y v M L (.inr (.inl (x y b g)))
  rcases l with⟨k,_⟩ | ⟨k,c,e,o,ho,hd⟩
  .exfalso
   have k:scope.names.lookup y = some .local:=k;rw[x y b g]at k;cases k
  .have e:cells.lookup y=some c:=by rw[<- d];exact e
   rw[g]at e;cases e;exact⟨o,u,ho,hd,r⟩
 classical
 let H3:Hp:=λb=>if h:∃ v,G b v then some (.ext (dw b (Classical.choose h))) else H' b
 have g1:∀ b v,G b v->H3 b=some (.ext (dw b v)):=λb v h=>by
  have Q:∃ v,G b v:=⟨v,h⟩
  show(if h:∃ v,G b v then some (.ext (dw b (Classical.choose h))) else H' b)=_;rw[dif_pos Q,G1 b _ v (Classical.choose_spec Q) h]
 have R:∀ b,(¬∃ v,G b v)->H3 b=H' b:=λb h=>dif_neg h
 have D:Same H' H3:=λb o e=>by
  rw[R b λ⟨v,z⟩=>by rw[(W b v z).1]at e;cases e];exact e
 have C:Un (frs a) [] H H' s.heap s'.heap:=J.base;refine⟨H3,D,λi y v c M L g=>g1 c v ⟨i,y,M,L,g⟩,(λb n1 n2=>?_),⟨C.keep,C.slot,λb o e n Q=>?_,C.there,λb xs e=>D _ _ (C.tups b xs e),λb o u e=>D _ _ (C.frzs b o u e),λb ps e=>?_⟩,λb o e=>?_⟩
 .by_cases h:∃ v,G b v
  .obtain⟨v,i,y,_,_,g⟩:=h
   exact⟨y,g⟩
  .rw[R b h]at n2
   exact absurd n1 n2
 .rw[R b λ⟨v,z⟩=>absurd (Nat.lt_of_lt_of_le (Heap.lt_size e) (W b v z).2.1) (Nat.lt_irrefl _)]
  exact C.free b o e n Q
 .obtain⟨F,z⟩:=C.tbls b ps e
  exact⟨F,D _ _ z⟩
 .by_cases h:∃ v,G b v
  .obtain⟨v,h⟩:=h
   rw[g1 b v h]at e;cases e;exact nZ (W b v h).2.2
  .rw[R b h]at e
   exact(J.hok b o e).stay (λb' u' _ q=>q) (λb' q=>D _ _ q) λb' xs q=>D _ _ q
theorem Fun.okL{x a:Str}{st:Stmt}{f c:Addr}{G:FuncData}{N ps:List Str}{k:Nat}{sp:Sp}(F:Fun K x a st f G)(hc:G.code=.ref c)(S:FnScope N ps (ad st))(z:∀ p∈(ad st).names,p.2=.cell->(ad st).names.lookup p.1=some .cell)
  (j:∀ vs H Q E,sp vs H Q E->vs.length=ps.length)
  (d:∀(A:Around) (outer:List Env) (s:Shared) (H:Hp) (vs:List V) (Q:VK) (E:XK),Room k (A.deeper (envOfC a (ad st) s.heap.objs.size f (.ref c)))->sp vs H Q E ->
   ∃ t,PR (iY CX0 P w K mg base N a (ad st) f (.ref c) A outer s H E).nox (ah st) t/\t Q (λv σ H'=>∀ H3,Same H' H3->pS (cellsFrom (s.heap.objs.size+1) (ad st).names []) N σ H3->Q v H3) (start N vs) H):FnOk P w K mg base CX0 (k+1) f G ps sp:=by
 obtain⟨oc,od,kV,ac,pm,an,L,ct,ab,rfl,lk,D⟩:=F.ex;obtain rfl:L=.ref c:=hc;refine⟨j,λA outer s H T us vs Q E C h hb r i=>?_⟩;have hl:=j _ _ _ _ i;have R:K.In s.heap:=h.mod.kin.keeps λb o e=>(h.bs b o e).1
 have B:s.heap.NoLimit:=h.mod.nolimit.keeps λb o e=>(h.bs b o e).1
 have g:∀ y ∈ ps.zip us,(ad st).names.lookup y.1 = some .local\/((ad st).names.lookup y.1 = some .cell/\((cellsFrom (s.heap.objs.size + 1) (ad st).names []).lookup y.1).isSome = true):=λ⟨n,v⟩ Y=>by
  rcases S.par n (of_mem_zip Y).1 with q | q
  .exact .inl q
  .exact .inr ⟨q,cellsFrom_some _ _ _ (.inl q)⟩
 refine codeAny_call_function C.depth (R _ _ lk) rfl S.co S.gen rfl (codeRec_of R D) (hb _ _ _ _ ?_);refine wpAny_newFunctionEnv_cells S.kind g λal he W x=>?_
 subst he;refine⟨B.keeps x.toInCall.keep,codeAny_func ?_⟩;obtain⟨t,ht,hq⟩:=d A outer s H vs Q E (C.deeper _) i;have I:Inv (iY CX0 P w K mg base N a (ad st) f (.ref c) A outer s H E) [] (start N vs) H W:=kj S C.hd h hl r x;refine wpAny_mono (ht [] W (start N vs) H Q _ (I.wish _) hq) (λfl s' M=>?_) λe s' M=>False.elim M
 obtain⟨u,rfl,⟨v,Z,H',J,l,q⟩ | ⟨v,H',g1,g2,g3,g4,l,q⟩⟩:=M
 .have J:=J.unwish
  rcases q with q | q
  .exact⟨v,H',J.os,J.bare,J.base,J.hok,l,q⟩
  .obtain⟨H3,h1,h2,_,h3,X⟩:=AE S.nd z J
   exact⟨v,H3,J.os,J.bare,h3,X,l,q H3 h1 h2⟩
 .exact⟨v,H',g1,g2,g3,g4,l,q⟩
end
theorem rN{P:Program}{w:World}{K:Frag}{mg mb:Str->Option Value}{CX:CXT}{k:Nat}{fa a:Addr}{fd:FuncData}{x:Str}{sp:Sp}{f:Shared}{vs:List Value}{X:List Int}{p:List Addr}
  (KX:K.In f.heap) (Q:f.heap.Ns mainGlobals mg) (g:f.heap.Ns builtinsNs mb) (a4:∀ x:Str,x ≠ "__name__" -> mb x=bootBuiltins x) (R:f.heap.NoLimit) (hg:f.gens = #[])
  (G:f.heap.get? a=some { cls:=.type "list",data:=.seq vs.toArray }) (hi:IntsAre vs X) (hl:X.length<=sizeLine) (hr:Room k callerA) (a2:Bm mg f.heap)
  (l:∀ P∈p,f.heap.get? P=some (tabObj #[])) (an:∀ P∈p,∃ c,codeHdIn K c P=true) (al:∀ P∈p,K.lookup P=none)
  (F:∀ base:Heap,K.In base->base.Ns mainGlobals mg->Bm mg base->FnOk P w K mg base CX k fa fd [x] sp) (E:∀(s:Shared) (u:Value),BindsTo s fd ⟨[u],[]⟩ [(x,u)])
  (as:∀ H:Hp,(∀ P∈p,H P=some (.tbl #[]))->SqL K H a (X.map V.int)->sp [.ref a] H (λv _=>v=.bl true) λ_ _ _=>False)
  (ac:∀ H e s',CX [] H f (λ_ _ _=>False) e s'->False) :
  codeAny (model P w) callerA (.call (.ref fa) ⟨[.ref a],[]⟩) (λr s'=>r=.ok (.ret (.bool true))/\OldK f.heap s'.heap/\s'.os=f.os/\AllBare s'.gens) f:=by
 have rv:=j9 hi;have Z:=hi.length;have M:a ∉ p:=λz=>by have:=l a z;rw[G]at this;cases this
 have A:∀ H:Hp,(∀ P∈p,H P=some (.tbl #[]))->SqL K H a (X.map V.int)->HOk P w H f.heap->(∀ b u,H b=some u->(b=a/\∃ o xs,u=.frz o (.lst xs))\/(b∈p/\u=.tbl #[]))->(H a≠none->K.lookup a=none) ->
   codeAny (model P w) callerA (.call (.ref fa) ⟨[.ref a],[]⟩) (λr s'=>r=.ok (.ret (.bool true))/\OldK f.heap s'.heap/\s'.os=f.os/\AllBare s'.gens) f:=by
  intro H hT hS N hA hK;have j:∀{b:Addr}{o:Obj},f.heap.get? b=some o->H b=none->(jI f.heap H).get? b=some o:=λe n=>uV e n
  have a1:∀{b:Addr}{o:Obj},f.heap.get? b=some o->o.cls≠.none->(∀ Y n,o.data≠.seq Y n)->H b=none:=λ{b o} e d1 d2=>by
   cases q:H b with
   | none=>rfl
   | some u =>
    rcases hA b u q with⟨rfl,_⟩ | ⟨g,_⟩
    .rw[G]at e;cases e;exact(d2 _ _ rfl).elim
    .rw[l b g]at e;cases e;exact(d1 rfl).elim
  have a0:∀{b:Addr}{o:Obj}{L:Array DictEntry}{I:Nat},f.heap.get? b=some o->o.data=.dict L I->H b=none:=λ{b o L I} e d=>by
   cases q:H b with
   | none=>rfl
   | some u =>
    rcases hA b u q with⟨rfl,_⟩ | ⟨g,_⟩
    .rw[G]at e;cases e
     have d':Data.seq vs.toArray _=Data.dict L I:=d;cases d'
    .rw[l b g]at e;cases e;cases d
  have y:∀{b:Addr}{m:Str->Option Value},f.heap.Ns b m->(jI f.heap H).Ns b m:=λ{b m} ⟨o,L,I,e,d,r⟩=>⟨o,L,I,j e (a0 e d),d,r⟩
  have W:K.In (jI f.heap H):=λb o e=>j (KX b o e) (by
   cases q:H b with
   | none=>rfl
   | some u =>
    rcases hA b u q with⟨rfl,_⟩ | ⟨g,_⟩
    .rw[hK (by rw[q];simp)]at e;cases e
    .rw[al b g]at e;cases e)
  have hM:Mod K mg (jI f.heap H):=⟨W,y Q,⟨mb,y g,a4⟩,let ⟨mc,h1,h2⟩:=R;⟨mc,y h1,h2⟩⟩
  have hB:Bm mg (jI f.heap H):=by
   obtain⟨bm,ob,b1,b2,b3,b4,b5⟩:=a2;exact⟨bm,ob,b1,j b2 (a1 b2 (by rw[b3];simp) (λY n=>by rw[b5];intro z;cases z)),b3,b4,b5⟩
  have e0:Env0 P w K mg (jI f.heap H) callerA [] f H:=⟨rfl,hM,λb o e=>vT e,Nat.le_of_eq (rh _ _),trivial,λb g=>absurd (show b∈([]:List Addr) from g) (by simp),N,.of_eq hg⟩
  refine codeAny_mono ((F _ W (y Q) hB).run callerA [] f H ⟨[.ref a],[]⟩ [.ref a] [.ref a] _ _ hr e0 (E f (.ref a)) (.cons rfl .nil) (as H hT hS)) λr s' h=>?_
  cases r with
  | error e=>exact(ac H e s' h).elim
  | ok fl =>
   cases fl with
   | next=>exact False.elim h
   | brk=>exact False.elim h
   | cont=>exact False.elim h
   | ret u =>
    obtain⟨v,H',os,ab,un,D,r',q⟩:=h;have q':v=.bl true:=q;subst q';obtain rfl:u=Value.bool true:=r';refine⟨rfl,⟨λb o e=>?_,λb o e=>un.there b o e (by simp)⟩,os,ab⟩;cases q:H b with
    | none=>exact .inl (un.keep b o e q (by intro z;exact absurd (show b∈([]:List Addr) from z) (by simp)) (by simp))
    | some u =>
     rcases hA b u q with⟨_,ob,xs,rfl⟩ | ⟨g,rfl⟩
     .have z2:=un.frzs b ob _ q
      obtain⟨e1,_⟩:=N b _ q;obtain⟨e2,_⟩:=D b _ z2;rw[e]at e1;cases e1;exact .inl e2
     .obtain⟨c,hc⟩:=an b g
      have C:=codeHd_of_K KX hc;obtain⟨B,z⟩:=un.tbls b _ q;have z2:s'.heap.get? b=some (tabObj (#[]++B)):=D b _ z;rw[l b g]at e;cases e;exact .inr (.inl ⟨(C.tab (l b g)).isCodeTable,rfl,#[],B,rfl,z2⟩)
 let T:Hp:=λb=>if b∈p then some (.tbl #[]) else none
 cases hk:K.lookup a with
 | some o =>
  have e:=KX a o hk;rw[G]at e;cases e;refine A T (λP hP=>if_pos hP) (.inr ⟨_,vs.toArray,_,hk,rfl,rfl,rfl,by rw[size_toArray,Z];exact hl,by simpa using rv⟩) (λb u z=>?_) (λb u z=>?_) λz=>absurd (if_neg M) z
  .by_cases g:b∈p
   .have i:=(if_pos g).symm.trans z
    cases i;exact l b g
   .have i:=(if_neg g).symm.trans z
    cases i
  .by_cases g:b∈p
   .have i:=(if_pos g).symm.trans z
    cases i;exact .inr ⟨g,rfl⟩
   .have i:=(if_neg g).symm.trans z
    cases i
 | none =>
  refine A (λb=>if b=a then some (.frz { cls:=.type "list",data:=.seq vs.toArray } (.lst (X.map V.int))) else T b) (λP hP=>?_) (.inl (.inr ⟨{ cls:=.type "list",data:=.seq vs.toArray },if_pos rfl⟩)) (λb u z=>?_) (λb u z=>?_) λ_=>hk
  .have a3:P≠a:=λz=>M (by rw[<- z];exact hP)
   exact(if_neg a3).trans (if_pos hP)
  .by_cases g:b=a
   .have i:=(if_pos g).symm.trans z
    cases i;subst g;exact⟨G,by rw[length_map];exact hl,vs,_,rv,G⟩
   .have i:=(if_neg g).symm.trans z
    by_cases g:b∈p
    .have i:=(if_pos g).symm.trans i
     cases i;exact l b g
    .have i:=(if_neg g).symm.trans i
     cases i
  .by_cases g:b=a
   .have i:=(if_pos g).symm.trans z
    cases i;exact .inl ⟨g,_,_,rfl⟩
   .have i:=(if_neg g).symm.trans z
    by_cases g:b∈p
    .have i:=(if_pos g).symm.trans i
     cases i;exact .inr ⟨g,rfl⟩
    .have i:=(if_neg g).symm.trans i
     cases i
theorem walk_ofT{l:PySem.W.OpenLaw}{n k:Nat}{q:Program}{j:List Str}{T:(Str->Option Value)->Heap->Prop}{L:World->Heap->Prop}{d:DefRec}{K:Params->Frag}{CX:CXT}{sp:Frag->List Addr->Sp}{x:Str}{i:List Addr}
  (hn:l.most=some n) (I:n<=sizeLine) (D:d.params.defaults=[]) (X:Room k callerA)
  (R:∀(w:World) (h:Heap),L w h->(K w.params).In h/\∀ P∈i,h.get? P=some (tabObj #[]))
  (F:∀(ts':List Addr),ts'=i->∀(w:World) (mg:Str->Option Value) (fa:Addr) (h:Heap),(K w.params).In h->h.Ns mainGlobals mg->mg d.name=some (.ref fa) ->
   ∃ fd:FuncData,(∀(s:Shared) (u:Value),BindsTo s fd ⟨[u],[]⟩ [(x,u)])/\(∀ P∈i,∃ c,codeHdIn (K w.params) c P=true)/\(∀ P∈i,(K w.params).lookup P=none) /\
    ∀ base:Heap,(K w.params).In base->base.Ns mainGlobals mg->Bm mg base->FnOk l.prog w (K w.params) mg base CX k fa fd [x] (sp (K w.params) i))
  (B:∀(K:Frag) (H:Hp) (a:Addr) (ns:List Int),ns.length<=n->(∀ P∈i,H P=some (.tbl #[]))->SqL K H a (ns.map V.int)->sp K i [.ref a] H (λv _=>v=.bl true) λ_ _ _=>False)
  (y:∀(H:Hp) (s:Shared) (e:Value) (s':Shared),CX [] H s (λ_ _ _=>False) e s'->False) :
  PySem.W.WalkO q j T L l.row.toRowW d [] (λf vs=>PySem.call f vs):=by
 refine Att.attach_call hn D λw N g mg mb fa o pm cd ac a vs ns G Y ho hd ab C r p b W=>?_
 obtain⟨M,Z⟩:=R w _ Y;obtain⟨fd,hb,A,z,hF⟩:=F i rfl w mg fa _ M G.T.g C;have E:Bm mg g.heap:=let ⟨bm,ob,b1,_,b3,b4,b5,b6⟩:=G.T.bmain;⟨bm,ob,b1,b3,b4,b5,b6⟩;exact rN M G.T.g G.T.b G.T.builtins G.T.nolimit W r p (Nat.le_trans b I) X E Z A z hF hb (λH Q hS=>B (K w.params) H a ns b Q hS) λH e s'=>y H g e s'
end L2
namespace FrM
def ij(t b:Int):Int×Int:=(t/(Int.gcd t b:Int),b/(Int.gcd t b:Int))
end FrM
namespace L2
open PySem PySem.Spec PyProof.Rows
def kX:List V->List Value->Bool
 | [],[]=>true
 | .int i::xs,.int j _::us=>decide (i=j) && kX xs us
 | _,_=>false
theorem gZ:∀{xs:List V}{us:List Value},kX xs us=true->Vals xs us
 | [],[],_=>.nil
 | .int i::xs,.int j t::us,h=>by
  have h:(decide (i=j) && kX xs us)=true:=h;rw[Bool.and_eq_true]at h;have e:=of_decide_eq_true h.1;exact .cons ⟨t,by rw[e]⟩ (gZ h.2)
def vt(K:Frag)(a:Addr)(xs:List V):Bool :=
 match K.lookup a with
 | some o =>
  (match o.cls with
  | .type t=>t == "tuple"
  | _=>false) &&
  (match o.data with
  | .seq its _=>decide (its.size<=1000) && kX xs its.toList
  | _=>false)
 | none=>false
theorem zu{K:Frag}{H:Hp}{a:Addr}{xs:List V}(h:vt K a xs=true):SqT K H a xs:=by
 unfold vt at h
 split at h
 .rename_i o e
  rw[Bool.and_eq_true]at h;obtain⟨c,b⟩:=h
  split at c
  .rename_i t ec
   split at b
   .rename_i its n ed
    rw[Bool.and_eq_true]at b;refine .inr ⟨o,its,n,e,by rw[ec,beq_iff_eq.mp c],ed,?_,gZ b.2⟩;have:=of_decide_eq_true b.1;have:sizeLine=16777216:=sizeLine_eq;lia
   .cases b
  .cases c
 .cases h
def TyS(K:Frag)(H:Hp)(x:V)(t:Value):Prop:=TyOf K H x t\/∃ a xs,x=.ref a/\t=.type "tuple" /\ SqT K H a xs
section
variable {X:Cx}
open PySem.W in
theorem AX{b:List (Addr×Obj)}{σ:St}{H:Hp}{s:Shared}{x:V}{u t:Value}(I:Inv X b σ H s)(d:RelV x u)(ty:TyS X.K H x t) :
  ∃ Hh:Heap->Prop,KitX X.K u t Hh/\Hh s.heap/\u≠.builtin "__main__.__loader__#opaque" := by
 rcases ty with ty | ⟨a,h,rfl,rfl,g⟩
 .exact oJ I d ty
 .cases(show u=Value.ref a from d)
  obtain⟨f,i,p,j⟩:=I.tuple g;exact⟨_,kitx_tuple,let ⟨o,e,c,_⟩:=p;⟨o,e,c⟩,λz=>nomatch z⟩
theorem tw:bootBuiltins "sum" = some (.builtin "sum"):=by decide +kernel
theorem gh:∀{ns:List Int}{us:List Value},Vals (ns.map V.int) us->IntsAre us ns
 | [],_,.nil=>.nil
 | n::ns,_,.cons r t=>by
  obtain⟨a,rfl⟩:=r;exact .cons _ _ (gh t)
inductive rSumI(K:Frag)(xs:List V)(H:Hp)(Q:VK):Prop
 | mk(p:Addr)(ns:List Int)(h0:xs=[.ref p])(h1:SqL K H p (ns.map V.int))(h2:Q (.int ns.sum) H):rSumI K xs H Q
theorem jY(l:X.calm=true):CallR X (.builtin "sum") (rSumI X.K):=by
 intro d s A H xs z Q I r h;obtain⟨p,a,rfl,j,q⟩:=h;obtain⟨u,rfl,n⟩:=dM r;cases n;obtain⟨b,v,g,x⟩:=I.list j;have f:=gh v;obtain⟨xs,c⟩:=f.allInts.items;have k:(numsOf b)=a:=f.numsOf;refine sum_intListG (I.ok.hd l) (xs:=xs) (by rw[<- c];exact g.isList) λy B w o=>?_
 have i:preSum (numAt xs) xs.size=a.sum:=by
  rw[preSum_eq,take_of_length_le (by simp),<- k,<- nums_intItems,<- c]
 rw[i];exact⟨.int a.sum,H,I.kept o,⟨_,rfl⟩,q⟩
theorem kQ(B:X.calm=true):CallR X (.type "list") (λxs H Q=>∃(p:Addr) (n:Nat),xs=[.ref p]/\n<=1000/\H p=some (.rng 0 (n:Int))/\∀ l,H l=none->Q (.ref l) (upd H l (.lst ((List.range n).map λ(i:Nat)=>V.int (i:Int))))):=by
 intro f s L H xs K Q I r h;obtain⟨p,n,rfl,M,e,q⟩:=h;obtain⟨u,rfl,k⟩:=dM r;cases k
 obtain⟨t,N,G,A⟩:=(show ObjOk X.prog X.w H s.heap p (.rng 0 (n:Int)) from I.hok p _ e)
 refine call_list_range (n:=n) (I.ok.hd B) A (small_one (by decide) (by decide) (by lia) (by lia)) (by rw[rangeSize_one];split <;> lia) (by lia) λF D d c C z v=>?_
 refine⟨.ref s.heap.objs.size,_,I.laid (t':=D) (o:=.lst ((List.range n).map λ(i:Nat)=>V.int (i:Int))) C (Nat.le_refl _) ?_,rfl,q _ (I.hok.fresh (Nat.le_refl _))⟩;obtain⟨w,j⟩:=v;refine⟨by rw[length_map,length_range,sizeLine_eq];lia,d.toList,c,pJ (by rw[length_map,length_range];simpa using w.symm) λi x u a y=>?_,z⟩;rw[List.getElem?_map]at a
 have b:i<n:=by
  by_cases b:i<n
  .exact b
  .rw[List.getElem?_eq_none (by rw[length_range];lia)]at a
   cases a
 rw[List.getElem?_range b]at a;cases a;obtain⟨g,E⟩:=j i u (by simpa using y);refine(show ∃ t',u=Value.int (i:Int) t' from⟨g,?_⟩);rw[E]
 congr 1
 lia
end
def dE:Expr:=.Name "" ⟨0,0,0,0⟩
def AY(st:Stmt)(i:Nat):Stmt:=(ah st).getD i (.Pass ⟨0,0,0,0⟩)
def Be:Stmt->Expr
 | .Return (some e) _=>e
 | _=>dE
def Aa(q:Str):Expr->LamD
 | .Lambda p b s _=>⟨q,p,b,s⟩
 | _=>⟨q,default,dE,default⟩
def Bu:Expr->Pos
 | .Lambda _ _ _ p=>p
 | _=>⟨0,0,0,0⟩
theorem fB:bootBuiltins "sorted" = some (.builtin "sorted"):=by decide +kernel
theorem eJ:∀{us:List Value}{ns:List Int},IntsAre us ns->Vals (ns.map V.int) us
 | _,_,.nil=>.nil
 | _,_,.cons n t h=>.cons ⟨_,rfl⟩ (eJ h)
theorem kD{X:Cx}:CallR X (.builtin "sorted") (λxs H Q=>∃(p:Addr) (ns:List Int),xs=[.ref p]/\SqL X.K H p (ns.map V.int)/\ns.length<64/\∀ q (ns':List Int),ns'.Perm ns->ns'.Pairwise (·<=·)->H q=none->Q (.ref q) (upd H q (.lst (ns'.map V.int)))):=by
 intro g s E H xs D Q I r h;obtain⟨p,ns,rfl,v,F,q⟩:=h;obtain⟨u,rfl,A⟩:=dM r;cases A;obtain⟨c,k,n,C⟩:=I.list v;have w:=gh k;have i:c.length=ns.length:=by have:=k.length;rw[length_map]at this;exact this.symm
 refine sorted_ints n.isList w (by lia) λd ns' x j l=>?_
 obtain⟨e,y⟩:=sortedAll_at s.heap c d;have B:H (s.heap.objs.size+1)=none:=I.hok.fresh (Nat.le_succ _);have f:sizeLine=16777216:=sizeLine_eq;refine⟨.ref (s.heap.objs.size+1),_,I.laid (a:=s.heap.objs.size+1) (o:=.lst (ns'.map V.int)) (t':=s.toks) (λb u z=>sortedAll_old z) (Nat.le_succ _) ⟨?_,d.toList,e,eJ x,?_⟩,rfl,q _ ns' j l B⟩
 .rw[length_map,j.length_eq];lia
 .rw[y,Array.toArray_toList]
theorem ke{K:Frag}{M:Model}{h:Heap}{C D x:Addr}{ob:Obj}(X:K.In h)(c:XHd K C)(f:h.get? x=some ob)(b:ob.cls=.ref D)(i:mroIn K D (.ref C)=some false) :
  PySem.W.Looks M h (excMatches (.ref x) (.ref C)) false:=by
 have l:PySem.W.Looks M h (typeOf (.ref C)) (.type "type"):=looks_typeIn X c.ty;have a:PySem.W.Looks M h (isSubtype (.type "type") (.type "tuple")) false:=PySem.W.Looks.of_pure tc_notTuple;have d:PySem.W.Looks M h (isInstance (.ref C) (.type "tuple")) false:=l.andThen a
 have g:PySem.W.Looks M h (isExcClass (.ref C)) true:=by
  unfold isExcClass;exact(nO X c.isc).andThen (looks_mroIn X c.mb)
 have j:PySem.W.Looks M h (typeOf (.ref x)) (.ref D):=b ▸ (PySem.W.Looks.ld f).andThen .now;have n:PySem.W.Looks M h (isSubtype (.ref D) (.ref C)) false:=looks_mroIn X i;intro A Q E s k q;unfold excMatches;refine wpAny_bind (d A _ E s k ?_);rw[if_neg Bool.false_ne_true];refine wpAny_bind (wpAny_pure ?_);simp only[forIn_cons,List.forIn_nil,bind_assoc,pure_bind];refine wpAny_bind (g A _ E s k ?_);simp only[Bool.not_true,Bool.false_eq_true,if_false,pure_bind];refine wpAny_bind (j A _ E s k ?_);refine wpAny_bind (n A _ E s k ?_);simp only[Bool.false_eq_true,if_false,pure_bind];exact wpAny_pure q
structure Lnd(X:Cx)(pins:List (Addr×Obj))(σ:St)(H:Hp)(s:Shared)(x D:Addr)(dct:Option Addr)(T:Addr)(H':Hp)(s':Shared)(T4:Addr)(h5:Heap):Prop where
 I:Inv X pins σ H s
 G:XG X.prog X.w X.stack H s x D dct T H' s'
 k:KeptBut ([T,x]++[T4]) (frs X.stack) s'.heap h5
 hxs:∀ b,b=T\/b=x\/b=T4->s.heap.get? b=none/\H' b=none/\b ∉ frs X.stack
 fx:Fx h5 x (.ref D) dct .none T4
abbrev TH:=Addr->Option Addr->Addr->Ends->St->Hp->Prop
def PH(X:Cx)(hs:List ExceptHandler)(th:TH):Prop :=
 ∀(pins:List (Addr×Obj)) (σ:St) (H:Hp) (s:Shared) (x D:Addr) (dct:Option Addr) (T:Addr) (H':Hp) (s':Shared) (T4:Addr) (h5:Heap) (DE:Ends),Lnd X pins σ H s x D dct T H' s' T4 h5->th D dct x DE σ (upd H' x (.ext (XCt x D dct))) ->
  wpAny (model X.prog X.w) X.A (handleBy (.ref x) X.env hs) (SP X pins DE) X.xe { s' with heap:=h5 }
theorem oq{X:Cx}:PH X [] (λ_ _ _ _ _ _=>False):=λ_ _ _ _ _ _ _ _ _ _ _ _ _ _ q=>False.elim q
section
variable {X:Cx}{C:Addr}{cn en:Str}{ie:Nat}{b₀:Stmt}{suite:List Stmt}{cp hp:Pos}{ts:TS}{rest:List ExceptHandler}{tr:TH}
theorem Lnd.J{a:List (Addr×Obj)}{σ:St}{H:Hp}{s:Shared}{x D:Addr}{c:Option Addr}{T:Addr}{H':Hp}{s':Shared}{f:Addr}{d:Heap}(L:Lnd X a σ H s x D c T H' s' f d):Inv X a σ (upd H' x (.ext (XCt x D c))) { s' with heap:=d } :=
 t9 (h2:=d) L.I L.G L.k (λb g=>L.hxs b (by simpa using g)) L.fx
theorem Aw(p:X.stack = X.env :: X.outer/\X.env.frame = some X.env.locals)(N:Gl X cn)(M:X.mg cn = some (.ref C))(B:XHd X.K C)(A:X.N.Nodup)(E:X.N[ie]? = some en)(g:X.env.kindOf en = some .local)
  (hs:∀ x,PSs (X.inX x) (b₀::suite) ts) (R:PH X rest tr) (w:(cn == ("__debug__" : Str))=false:=by decide) :
  PH X (.ExceptHandler (some (.Name cn cp)) (some en) (b₀::suite) hp::rest) (λD dct x DE σ H1=>(mroIn X.K D (.ref C)=some true/\ts (DE.asG ie) (σ.set ie (some (.ref x))) H1)\/(mroIn X.K D (.ref C)=some false/\tr D dct x DE σ H1)):=by
 intro a σ H s x D dct T H' i d l DE L q;have h:=L.J;obtain⟨o5,ho5,hc5⟩:∃ o,l.get? x=some o/\o.cls=.ref D:=let ⟨o,_,_,_,e,c,_⟩:=L.fx;⟨o,e,c⟩;refine wpAny_handleBy_cons (codeAny_handlers_test (dU (X:=X.inX x) (h.inX x) N M ?_ w)) (by intro z;cases z)
 rcases q with⟨j,q⟩ | ⟨j,q⟩
 .refine(jV h.kIn B ho5 hc5 j).at ?_
  refine codeAny_handlers_suite_as ?_;refine d7 (s:={ i with heap:=l }) (fr:=frs (X.env::X.outer)) L.fx λG x6 k6=>?_
  have r:KeptBut ([T,x]++[d]++[d]) (frs X.stack) i.heap G:=by
   have:=L.k;rw[p.1]at this ⊢;exact this.trans k6
  have K:=t9 (h2:=G) L.I L.G r (λb Y=>L.hxs b (by
   have:b=T\/b=x\/b=d\/b=d:=by simpa using Y
   rcases this with z | z | z | z
   .exact .inl z
   .exact .inr (.inl z)
   .exact .inr (.inr z)
   .exact .inr (.inr z))) x6
  refine eh K A E (.inl g) (v:=.ref x) rfl (λs7 I7=>?_) (.inr g);refine wpAny_mono (hs x a s7 _ _ _ (I7.inX x) q) (λZ W f=>?_) (λ_ _ z=>False.elim z);cases Z with
  | next =>
   obtain⟨k,I,Q,P⟩:=f;have F:Inv X a k I W:=Q.outX L.I.ok.hd;obtain⟨m,hn,y⟩:=id F.loc;refine wpAny_nameGoes_keeps g hn (by rw[L.I.ok.kind];rfl) λh9 v n sb=>?_
   exact⟨_,I,F.gone A E g y n sb,P⟩
  | ret u=>obtain⟨_,_,_,_,_,z⟩:=f;exact False.elim z
  | brk=>obtain⟨_,_,_,z⟩:=f;exact False.elim z
  | cont=>obtain⟨_,_,_,z⟩:=f;exact False.elim z
 .refine(ke h.kIn B ho5 hc5 j).at ?_
  exact R a σ H s x D dct T H' i d l DE L q
theorem qR(p:X.stack = X.env :: X.outer/\X.env.frame = some X.env.locals)(G:Gl X cn)(F:X.mg cn = some (.ref C))(A:XHd X.K C)
  (Q:∀ x,PSs (X.inX x) (b₀::suite) ts) (I:PH X rest tr) (y:(cn == ("__debug__" : Str))=false:=by decide) :
  PH X (.ExceptHandler (some (.Name cn cp)) none (b₀::suite) hp::rest) (λD dct x DE σ H1=>(mroIn X.K D (.ref C)=some true/\ts { nx:=DE.nx,rt:=DE.rt } σ H1)\/(mroIn X.K D (.ref C)=some false/\tr D dct x DE σ H1)):=by
 intro a σ H s x D dct T P i f n DE L q;have h:=L.J;obtain⟨o5,ho5,hc5⟩:∃ o,n.get? x=some o/\o.cls=.ref D:=let ⟨o,_,_,_,e,c,_⟩:=L.fx;⟨o,e,c⟩;refine wpAny_handleBy_cons (codeAny_handlers_test (dU (X:=X.inX x) (h.inX x) G F ?_ y)) (by intro z;cases z)
 rcases q with⟨l,q⟩ | ⟨l,q⟩
 .refine(jV h.kIn A ho5 hc5 l).at ?_
  refine codeAny_handlers_suite ?_;refine d7 (s:={ i with heap:=n }) (fr:=frs (X.env::X.outer)) L.fx λB W N=>?_
  have r:KeptBut ([T,x]++[f]++[f]) (frs X.stack) i.heap B:=by
   have:=L.k;rw[p.1]at this ⊢;exact this.trans N
  have E:=t9 (h2:=B) L.I L.G r (λb K=>L.hxs b (by
   have:b=T\/b=x\/b=f\/b=f:=by simpa using K
   rcases this with z | z | z | z
   .exact .inl z
   .exact .inr (.inl z)
   .exact .inr (.inr z)
   .exact .inr (.inr z))) W
  refine wpAny_mono (Q x a _ _ _ _ (E.inX x) q) (λM Y g=>?_) (λ_ _ z=>False.elim z);cases M with
  | next =>
   obtain⟨d,w,k,j⟩:=g;exact⟨d,w,k.outX L.I.ok.hd,j⟩
  | ret u =>
   obtain⟨v,d,w,k,R,j⟩:=g;exact⟨v,d,w,k.outX L.I.ok.hd,R,j⟩
  | brk=>obtain⟨_,_,_,z⟩:=g;exact False.elim z
  | cont=>obtain⟨_,_,_,z⟩:=g;exact False.elim z
 .refine(ke h.kIn A ho5 hc5 l).at ?_
  exact I a σ H s x D dct T P i f n DE L q
end
def HX(X:Cx)(pins:List (Addr×Obj))(hr:Value->Option Addr->St->Hp->Prop)(e:Value)(s':Shared):Prop:=∃ σ H s,Inv X pins σ H s/\CXG X.prog X.w X.stack H s (λc d H'=>hr c d σ H') e s'
abbrev TB:=(St->Hp->Prop)->VK->(Value->Option Addr->St->Hp->Prop)->St->Hp->Prop
def PB1(X:Cx)(st:Stmt)(t:TB):Prop :=
 ∀(pins:List (Addr×Obj)) (s:Shared) (σ:St) (H:Hp) (nx:St->Hp->Prop) (rt:VK) (hr:Value->Option Addr->St->Hp->Prop),Inv X pins σ H s->t nx rt hr σ H->wpAny (model X.prog X.w) X.A (exec st X.env) (SP X pins { nx:=nx,rt:=rt }) (HX X pins hr) s
def PB(X:Cx)(sts:List Stmt)(t:TB):Prop :=
 ∀(pins:List (Addr×Obj)) (s:Shared) (σ:St) (H:Hp) (nx:St->Hp->Prop) (rt:VK) (hr:Value->Option Addr->St->Hp->Prop),Inv X pins σ H s->t nx rt hr σ H->wpAny (model X.prog X.w) X.A (execs sts X.env) (SP X pins { nx:=nx,rt:=rt }) (HX X pins hr) s
section
variable {X:Cx}
theorem iS{st:Stmt}{t:TB}(i:PB1 X st t):PB X [st] t:=by
 intro a s d H b g c I h;refine wpAny_execs_cons (thn (i a s d H b g c I h) λf j q=>?_);cases f with
 | next=>exact wpAny_execs_nil q
 | ret v=>exact q
 | brk=>exact q
 | cont=>exact q
theorem yj{c:Expr}{a b:List Stmt}{i:TT}{t u:TB}{g:Pos}(n:PT X.nox c i)(p:PB X a t)(o:PB X b u):PB1 X (.If c a b g) (λnx rt hr σ H=>i σ H λd H1=>if d=true then t nx rt hr σ H1 else u nx rt hr σ H1):=by
 intro f s σ H nx rt hr I h;refine wpAny_If (wpAny_mono (n f s σ H _ (I.wish _) h) (λd j ⟨H1,k,l⟩=>?_) λ_ _ z=>False.elim z);cases d with
 | true=>exact p f j σ H1 nx rt hr k.unwish l
 | false=>exact o f j σ H1 nx rt hr k.unwish l
def PX(X:Cx)(e:Expr)(t:VK->XK->St->Hp->Prop):Prop :=
 ∀(pins:List (Addr×Obj)) (s:Shared) (σ:St) (H:Hp) (Q:VK) (E:XK),Inv X pins σ H s->t Q E σ H ->
  wpAny (model X.prog X.w) X.A (eval e X.env) (EP X pins σ Q) (λe s'=>∃ H1 s1,Inv X pins σ H1 s1/\CXG X.prog X.w X.stack H1 s1 E e s') s
theorem gq{e:Expr}{t:VK->XK->St->Hp->Prop}{b:Pos}(h:PX X e t)(f:swapsWith e none b.line X.env=pure false:=by rfl):PB1 X (.Expr e b) (λnx _ hr σ H=>t (λ_ H1=>nx σ H1) (λc d H'=>hr c d σ H') σ H):=by
 intro a s σ H nx k hr I q;refine wpAny_Expr_any (wpAny_mono (h a s σ H _ _ I q) (λu i ⟨v,H1,g,r,j⟩=>?_) λe s' ⟨H1,i,g,c⟩=>⟨σ,H1,i,g,c⟩) I.quiet f;exact⟨σ,H1,g,j⟩
end
section
variable {X:Cx}{k:Nat}{f C:Addr}{fd:FuncData}{ps:List Str}{sp:Sp}{dvs:List V}{ds:List Value}{x m:Str}{p pos apos:Pos}{e o:Expr}{es:List Expr}{ta:TE}{t:TA}
theorem yn{a:List (Addr×Obj)}{σ:St}{H:Hp}{s:Shared}{Q:VK}{E:XK}{us:List Value}{vs:List V}(F:FnOk X.prog X.w X.K X.mg X.base (CXG X.prog X.w) k f fd ps sp)(d:Room k X.A)(i:Binds X.K fd ps ds)(g:Vals dvs ds)
  (I:Inv X a σ H s) (r:Vals vs us) (h:sp (vs++dvs) H Q E):wpAny (model X.prog X.w) X.A (call (.ref f) us) (EP X a σ Q) (λe s'=>∃ H1 s1,Inv X a σ H1 s1/\CXG X.prog X.w X.stack H1 s1 E e s') s:=by
 have c:Vals (vs++dvs) (us++ds):=r.append g;have j:(us++ds).length=ps.length:=by rw[<- c.length];exact F.len _ _ _ _ h
 refine wpAny_call (codeAny_mono (F.run X.A X.stack s H ⟨us,[]⟩ (us++ds) (vs++dvs) Q E d I.env0 (i s us I.kIn j) c h) λr s' b=>?_);cases r with
 | error e=>exact⟨H,s,I,b⟩
 | ok fl =>
  cases fl with
  | ret u=>exact I.after b
  | next=>exact False.elim b
  | brk=>exact False.elim b
  | cont=>exact False.elim b
theorem iC(F:FnOk X.prog X.w X.K X.mg X.base (CXG X.prog X.w) k f fd ps sp)(g:Room k X.A)(n:Gl X x)(u:X.mg x=some (.ref f))(j:keepIn X.K (.ref f)=true)(l:Binds X.K fd ps ds)(i:Vals dvs ds)
  (v:PA X.nox (e::es) t) (c:(x == ("__debug__" : Str))=false:=by decide) (o:starEach (e::es) X.env=(false,eval e X.env)::starEach es X.env:=by rfl) (b:(backTo pos (starEach es X.env)).any (·.1)=false:=by rfl) :
  PX X (.Call (.Name x p) (e::es) [] pos) (λQ E σ H=>t σ H λvs H1=>sp (vs++dvs) H1 Q E):=by
 intro a s σ H Q E I h;refine wpAny_Call_Name_kw (dU I n u ?_ c);refine callWith_K (h₀:=X.base) I.ok.mod.kin j (wpAny_mono (v pos a s σ H _ (I.wish _) h) (λy w ⟨vs,H1,d,r,q⟩=>⟨d.unwish.kIn,?_⟩) λ_ _ z=>False.elim z) o b;exact yn F g l i d.unwish r q
theorem kL{body:List Stmt}{h₀:ExceptHandler}{B:List ExceptHandler}{w:TB}{y:TH}{Q:Pos}(d:X.stack = X.env :: X.outer/\X.env.frame = some X.env.locals)(r:PB X body w)(K:PH X (h₀ :: B) y) :
  PS X (.Try body (h₀::B) [] [] Q) (λDE σ H=>w DE.nx DE.rt (λc dct σ' H'=>∃ D,c=.ref D/\∀ x,H' x=none->y D dct x DE σ' (upd H' x (.ext (XCt x D dct)))) σ H):=by
 intro a s σ H DE I h;refine wpAny_Try_except ?_;refine wpAny_mono (r a s σ H DE.nx DE.rt _ I h) (λf l q=>?_) λe s' z=>?_
 .cases f with
  | next=>exact wpAny_execs_nil q
  | ret u=>exact q
  | brk=>obtain⟨_,_,_,z⟩:=q;exact False.elim z
  | cont=>obtain⟨_,_,_,z⟩:=q;exact False.elim z
 .obtain⟨i,Y,l,k,x,D,dct,T,H',rfl,G,D',Z,F⟩:=z
  cases Z;have J:Inv X a i H' s':=k.call' (ch:=[]) G.os G.un G.hok G.bare (by simp);have R:s'.heap.FunFrames X.base (X.env::X.outer):=d.1 ▸ J.stack;refine qy (by rw[k.ok.frames,d.1]) R d.2 G.fx λE g W A N=>?_
  refine d7 (s:={ s' with heap:=E }) (fr:=frs (X.env::X.outer)) W λC L M=>?_
  have v:KeptBut ([T,x]++[g]) (frs X.stack) s'.heap C:=by rw[d.1];exact N.trans M
  have p:∀ b,l.heap.get? b=none->b ∉ frs X.stack:=λb n z=>by
   obtain⟨_,o,e,_⟩:=k.stack.mem z;rw[n]at e;cases e
  have j:l.heap.get? g=none:=cL G.un A
  have P:H' g=none:=by
   cases z:H' g with
   | none=>rfl
   | some u =>
    obtain⟨o,e⟩:=(J.hok g u z).isObj;rw[A]at e;cases e
  refine K a i Y l x D dct T H' s' g C DE ⟨k,G,v,λb r=>?_,L⟩ (F x G.ux)
  rcases r with rfl | rfl | rfl
  .exact⟨G.nT,G.uT,p _ G.nT⟩
  .exact⟨G.nx,G.ux,p _ G.nx⟩
  .exact⟨j,P,p _ j⟩
end
theorem m9{prog:Program}{w:World}{A:Around}{E:Value->Shared->Prop}{a l:Addr}{items:Array Value}(f:l≠a):∀(n i:Nat) (s:Shared) (Q:List Value->Shared->Prop),
  s.heap.IsListIter a l i->s.heap.IsList l items->i+n<=items.size ->
  (∀ h':Heap,h'.IsListIter a l (i+n)->Heap.SameBut a s.heap h'->Q ((items.toList.drop i).take n) { s with heap:=h' }) ->
  wpAny (model prog w) A (draw (.ref a) n) Q E s
 | 0,i,s,Q,hi,hl,hle,q=>by
  have k:=q s.heap hi (by constructor <;> intros <;> first | rfl | assumption);rw[take_zero]at k;exact wpAny_pure k
 | n+1,i,s,Q,hi,hl,hle,q=>by
  have c:i<items.size:=by lia
  have r:items[i]? = some items[i]:=by simp[c]
  refine wpAny_bind (wpAny_pyNext_list_item hi hl r λu g d=>?_);refine wpAny_bind (wpAny_holding (m9 f n (i+1) _ _ g (hl.extBut d.extBut f) (by lia) λp h j=>?_));refine wpAny_pure ?_;have b:p.IsListIter a l (i+(n+1)):=by rw[show i+(n+1)=i+1+n by lia];exact h
  have o:=q p b (d.trans j)
  have e:(items.toList.drop i).take (n+1)=items[i]::(items.toList.drop (i+1)).take n:=by
   rw[List.drop_eq_getElem_cons (by simpa using c),List.take_succ_cons];simp
  rw[e]at o;exact o
theorem im{prog:Program}{w:World}{A:Around}{E:Value->Shared->Prop}{s:Shared}{l:Addr}{items:Array Value}{Q:List Value->Shared->Prop}(p:A.handled=none)(f:s.heap.IsList l items)
  (q:∀ h':Heap,Heap.ExtBut s.heap.objs.size s.heap h'->Q items.toList { s with heap:=h' }):wpAny (model prog w) A (unpackItems (.ref l) items.size none) Q E s:=by
 have a:l≠s.heap.objs.size:=by
  obtain⟨o,k,_⟩:=f;exact Nat.ne_of_lt (Heap.lt_size k)
 unfold unpackItems;refine wpAny_bind ?_;unfold notIterableAtAll;refine wpAny_bind (wpAny_specialOf (Heap.IsList.typeIs f) F.slot_list_iter.lookup (wpAny_pure ?_));simp only[Bool.false_eq_true,if_false];refine wpAny_bind (wpAny_holding (wpAny_pyIter_list f ?_));have d:=f.push { cls:=Value.type "list_iterator",data:=Data.fields #[Value.ref l,Value.int 0 0] }
 have h:(s.heap.push { cls:=Value.type "list_iterator",data:=Data.fields #[Value.ref l,Value.int 0 0] }).IsListIter s.heap.objs.size l 0:=⟨_,Heap.get?_push_size _ rfl,rfl,rfl⟩
 refine wpAny_bind (wpAny_holding (m9 a items.size 0 _ _ h d (by lia) λr i c=>?_));have e:(items.toList.drop 0).take items.size=items.toList:=by rw[drop_zero];exact take_of_length_le (by simp)
 rw[e,if_neg (by simp)];refine wpAny_bind (wpAny_holding (wpAny_pyNext_list_end p i (d.extBut c.extBut a) (by simp) λn g=>?_));exact wpAny_pure (q n λb o j e=>g b o j (c.extBut b o j (Heap.get?_push_of_some _ e)))
section
variable {X:Cx}{pos:Pos}
def Bx(K:Frag)(n:Nat)(t:TGs):TG:=λv σ H Q=>∃ a xs,v=.ref a/\SqL K H a xs/\xs.length=n/\t xs σ H Q
theorem ze{f:List Expr}{k:Nat}{t:TGs}{n:Nat}(B:X.calm=true)(h:PGs X f t)
  (D:(assignEach f X.env).length=n:=by rfl) (j:(assignEach f X.env).findIdx? (·.1)=none:=by rfl):PG X (.Tuple f k pos) (Bx X.K n t):=by
 intro c s p H v u Q I r i;obtain⟨a,x,E,w,G,i⟩:=i;subst E;cases r;obtain⟨g,l,⟨o,K,e,z,L,d⟩,M⟩:=I.list w
 have C:s.heap.IsList a g.toArray:=⟨o,e,z,K,d⟩
 rw[arm_assign_Tuple];refine wpAny_bind (wpAny_standAt ?_);unfold unpack;refine wpAny_bind (wpAny_holding ?_);rw[j];have y:(assignEach f X.env).length=g.toArray.size:=by simp[D,<- G,l.length]
 rw[y];refine im (I.ok.hd B) C λA F=>?_
 have q:Inv X c p H { s with heap:=A }:=I.kept (t':=s.toks) λb o e=>F b o (Nat.ne_of_lt (Heap.lt_size e)) e
 exact h c _ p H x _ Q q (by simpa using l) i
end
structure FunD(K:Frag)(x qual:Str)(st:Stmt)(f:Addr)(fd:FuncData):Prop where
 ex:∃(oc:Value) (od:Option Addr) (dV kV doc pm:Value) (an:Option Addr) (cdv ct:Value) (osl:Array (Option Value)),
  fd=fnOf x qual (aj st) (ah st) (ad st) dV kV doc pm an cdv ct/\K.lookup f=some ⟨oc,od,.func fd,osl⟩/\codeIn K cdv qual=true
 kp:keepIn K (.ref f)=true
section
variable {P:Program}{w:World}{K:Frag}{mg:Str->Option Value}{base:Heap}
theorem FunD.okG{x a:Str}{st:Stmt}{f:Addr}{h:FuncData}{N ps:List Str}{k:Nat}{sp:Sp}(F:FunD K x a st f h)(S:FnScope N ps (ad st))(c:∀ vs H Q E,sp vs H Q E->vs.length=ps.length)
  (b:∀(cdv:Value) (A:Around) (outer:List Env) (s:Shared) (H:Hp) (vs:List V) (Q:VK) (E:XK),Room k (A.deeper (envOfC a (ad st) s.heap.objs.size f cdv))->sp vs H Q E ->
   ∃ t,PSs (cxG P w K mg base N a (ad st) f cdv A outer s H E) (ah st) t/\t { nx:=λ_ H'=>Q .non H',rt:=Q } (start N vs) H):FnOk P w K mg base (CXG P w) (k+1) f h ps sp:=by
 obtain⟨q,r,p,v,n,y,o,cdv,u,j,rfl,l,g⟩:=F.ex;exact tK l g S c λA outer s H vs Q E i d=>b cdv A outer s H vs Q E i d
theorem vN{x a:Str}{st:Stmt}{f:Addr}{p:Value}{od h:Option Addr}{g:Array (Option Value)}{i n d o b j:Value}(l:K.lookup f=some ⟨p,od,.func (fnOf x a (aj st) (ah st) (ad st) i n d o h b j),g⟩)
  (c:codeIn K b a=true) (k:keepIn K (.ref f)=true):FunD K x a st f (fnOf x a (aj st) (ah st) (ad st) i n d o h b j):=⟨⟨p,od,i,n,d,o,h,b,j,g,rfl,l,c⟩,k⟩
theorem jf{a:FuncData}{D:Addr}{o:Obj}{items:Array Value}{n:Nat}{ps:List Str}{ds:List Value}(f:a.defaults=.ref D)(g:K.lookup D=some o)(b:o.data=.seq items n)
  (h:∀ us:List Value,(us++ds).length=ps.length->∃ k,bindArgs a ⟨us,[]⟩=seqItems? a.defaults >>= k/\k (some items)=pure (ps.zip (us++ds))):Binds K a ps ds:=λs us X d=>by
 obtain⟨k,c,i⟩:=h us d;exact .of_defaults f (X _ _ g) b c i
theorem yM{us:List Value}{v:Value}(h:(us++[v]).length=3):∃ x y,us=[x,y]:=by
 rw[length_append]at h
 match us,h with
 | [x,y],_=>exact⟨x,y,rfl⟩
 | [],h=>cases h
 | [_],h=>cases h
 | _::_::_::tl,h=>simp at h
end
end L2
namespace L2
open PySem PySem.Calls PySem.Spec PyProof.Rows PySem.W
section
variable {prog:Program}{w:World}{s:Shared}{A:Around}{E:Value->Shared->Prop}
theorem va{t:Addr}{us:List Value}{h:List Int}{R:Value->Shared->Prop}(v:IsTup s.heap t us.toArray)(p:IntsAre us h)(a:us.length<64)
  (c:∀(out:Array Value) (ns':List Int),IntsAre out.toList ns'->ns'.Perm h->ns'.Pairwise (·<=·)->R (.ref (s.heap.objs.size+1)) { s with heap:=sortedAll s.heap us out }) :
  wpAny (model prog w) A (call (.builtin "sorted") [.ref t]) R E s:=by
 obtain⟨o,i,k,n,j⟩:=id v;have r:us.length<=sizeLine:=by rw[sizeLine_eq];lia
 refine call_function_entry kind_sorted plain_sorted entry_sorted (args_sorted1 _) ?_;unfold Builtin.«sorted»;refine wpAny_bind (m:=checkCount "sorted" 1 1 _) (wpAny_pure (wpAny_bind ?_));unfold collect;refine wpAny_bind (wpAny_runValue (codeAny_builtin entry_proto_collect' ?_));show wpAny _ _ (do again (.builtin "list.__iadd__" ⟨[<- newList [],.ref t],[]⟩)) _ _ s;refine wpAny_bind (wpAny_newList (wpAny_pure ⟨Code.quiet_builtin _ (by decide +kernel),codeAny_builtin entry_list_iadd' ?_⟩));show wpAny _ _ (Builtin.List.listExtendWith (.ref s.heap.objs.size) (.ref t) (.ref s.heap.objs.size)) _ _ { s with heap:=s.heap.push (seqObj "list" #[] 0) };unfold Builtin.List.listExtendWith;have b:(s.heap.push (seqObj "list" #[] 0)).get? t=some o:=Heap.get?_push_of_some _ i;have d:(s.heap.push (seqObj "list" #[] 0)).get? s.heap.objs.size=some (seqObj "list" #[] 0):=Heap.get?_push_size _ rfl;refine wpAny_bind (wpAny_typeOf (T := "tuple") ⟨o,b,k⟩ ?_);have e:(Value.type "tuple" == Value.type "tuple")=true:=rfl;rw[if_pos (by rw[e];simp)];refine wpAny_bind (listItems_at b j (wpAny_bind (listItems_at (xs:=#[]) (n:=0) d rfl ?_)));rw[if_neg (by simp)];refine wpAny_bind (listUpdate_at (xs:=#[]) (n:=0) d rfl (wpAny_pure ?_) (Nat.zero_le _) (by show(#[]++us.toArray).size<=sizeLine+1;simp only[Array.size_append,size_toArray,List.length_nil];lia));show wpAny (model prog w) _ (do let o <- load s.heap.objs.size;match o.data with | .seq xs _=>pure xs.toList | _=>unsupported "internal:collect") _ E { s with heap:=(s.heap.push (seqObj "list" #[] 0)).update s.heap.objs.size (Obj.mapSeq (· ++ us.toArray)) };refine wpAny_bind (wpAny_load (get?_update_seq d _) ?_);show wpAny _ _ (pure ((#[]:Array Value)++us.toArray).toList) _ E _;have x:((#[]:Array Value)++us.toArray).toList=us:=by simp
 rw[x];refine wpAny_pure (wpAny_bind (wpAny_newList ?_));have f:((s.heap.push (seqObj "list" #[] 0)).update s.heap.objs.size (Obj.mapSeq (· ++ us.toArray))).objs.size=s.heap.objs.size+1:=by rw[Heap.size_update,size_push']
 have g:(((s.heap.push (seqObj "list" #[] 0)).update s.heap.objs.size (Obj.mapSeq (· ++ us.toArray))).push (seqObj "list" us.toArray 0)).get? (s.heap.objs.size+1)=some (seqObj "list" us.toArray 0):=by rw[<- f];exact Heap.get?_push_size _ rfl
 show wpAny _ _ _ _ _ { s with heap:=((s.heap.push (seqObj "list" #[] 0)).update s.heap.objs.size (Obj.mapSeq (· ++ us.toArray))).push (seqObj "list" us.toArray 0) };rw[f];exact wpAny_bind (wpAny_holding (wpAny_call_entry slot_list_sort ⟨_,g,rfl⟩ entry_list_sort (list_sort_tree g p a λout ns' u l q=>⟨_,rfl,wpAny_pure ⟨_,rfl,c out ns' u l q⟩⟩) (args_list_sort _)))
end
theorem fN{X:Cx}:CallR X (.builtin "sorted") (λxs H Q=>∃(p:Addr) (ns:List Int),xs=[.ref p]/\(SqL X.K H p (ns.map V.int)\/SqT X.K H p (ns.map V.int))/\ns.length<64/\∀ q (ns':List Int),ns'.Perm ns->ns'.Pairwise (·<=·)->H q=none->Q (.ref q) (upd H q (.lst (ns'.map V.int)))):=by
 intro c s v H xs B Q I r h;obtain⟨p,ns,rfl,hq,D,q⟩:=h
 rcases hq with hq | hq
 .exact kD c s v H _ B Q I r ⟨p,ns,rfl,hq,D,q⟩
 obtain⟨u,rfl,l⟩:=dM r;cases l;obtain⟨d,j,C,E⟩:=I.tuple hq;have n:=gh j;have i:d.length=ns.length:=by have:=j.length;rw[length_map]at this;exact this.symm
 refine va C n (by lia) λf ns' y k x=>?_
 obtain⟨e,A⟩:=sortedAll_at s.heap d f;have w:H (s.heap.objs.size+1)=none:=I.hok.fresh (Nat.le_succ _);have g:sizeLine=16777216:=sizeLine_eq;refine⟨.ref (s.heap.objs.size+1),_,I.laid (a:=s.heap.objs.size+1) (o:=.lst (ns'.map V.int)) (t':=s.toks) (λb u z=>sortedAll_old z) (Nat.le_succ _) ⟨?_,f.toList,e,eJ y,?_⟩,rfl,q _ ns' k x w⟩
 .rw[length_map,k.length_eq];lia
 .rw[A,Array.toArray_toList]
end L2
namespace WSrt
open PySem PySem.W PyProof.Rows
def run{α:Type}(lt:Nat->Nat->Bool):KasT α->α
 | .ret x=>x
 | .ask i j k=>run lt (k (lt i j))
theorem eB{a b:Type}(lt:Nat->Nat->Bool)(f:a->KasT b):∀ t:KasT a,run lt (t.bind f)=run lt (f (run lt t))
 | .ret _=>rfl
 | .ask i j k=>eB lt f (k (lt i j))
def e(p:Array Nat)(i:Nat):Nat:=(p[i]?).getD 0
theorem aV(p:Array Nat)(i:Nat):p.getD i 0=e p i:=by unfold e;simp[Array.getD_eq_getD_getElem?]
variable (lt:Nat->Nat->Bool) (n:Nat)
structure Wk:Prop where
 asy:∀ i j,i<n->j<n->lt i j=true->lt j i=false
 tr:∀ i j k,i<n->j<n->k<n->lt j i=false->lt k j=false->lt k i=false
structure PV(p:Array Nat):Prop where
 sz:p.size=n
 pm:p.toList.Perm (List.range n)
theorem e_list{p:Array Nat}{i:Nat}(h:i<p.size):p.toList[i]? = some (e p i):=by
 unfold e;rw[Array.getElem?_toList];simp[h]
theorem PV.bd{p:Array Nat}(h:PV n p){i:Nat}(a:i<n):e p i<n:=by
 have:=e_list (p:=p) (i:=i) (by rw[h.sz];exact a);have b:=h.pm.mem_iff.mp (List.mem_of_getElem? this);exact mem_range.mp b
theorem PV.ne{p:Array Nat}(h:PV n p){i j:Nat}(r:i<n)(s:j<n)(a:i≠j):e p i≠e p j:=by
 have u:p.toList.Nodup:=h.pm.nodup_iff.mpr nodup_range;have l:=e_list (p:=p) (i:=i) (by rw[h.sz];exact r);have v:=e_list (p:=p) (i:=j) (by rw[h.sz];exact s);intro z;rw[z]at l
 have o:=(List.getElem?_eq_some_iff.mp l)
 have q:=(List.getElem?_eq_some_iff.mp v)
 obtain⟨g,d⟩:=o;obtain⟨f,k⟩:=q;have b:=pairwise_iff_getElem.mp u
 rcases Nat.lt_trichotomy i j with c | c | c
 .exact b i j g f c (d.trans k.symm)
 .exact a c
 .exact b j i f g c (k.trans d.symm)
def Asc(p:Array Nat)(m:Nat):Prop:=∀ i j,i<j->j<m->lt (e p j) (e p i)=false
def Dsc(p:Array Nat)(m:Nat):Prop:=∀ i j,i<j->j<m->lt (e p i) (e p j)=false
def Blk(p:Array Nat)(i j:Nat):Prop:=∀ x y,i<=x->x<j->i<=y->y<j->lt (e p x) (e p y)=false
variable (T:Wk lt n)
include T
theorem sR{p:Array Nat}{m:Nat}(h:PV n p)(f:1<=m)(d:m<n)(a:Asc lt p m)(c:lt (e p m) (e p (m - 1))=false):Asc lt p (m+1):=by
 intro i j b g
 by_cases c1:j<m
 .exact a i j b c1
 .have:j=m:=by omega
  subst this
  by_cases c2:i=j - 1
  .rw[c2];exact c
  .exact T.tr _ (e p (j - 1)) _ (h.bd n (by omega)) (h.bd n (by omega)) (h.bd n (by omega)) (a i (j - 1) (by omega) (by omega)) c
theorem iT{p:Array Nat}{m:Nat}(h:PV n p)(f:1<=m)(d:m<n)(a:Dsc lt p m)(c:lt (e p (m - 1)) (e p m)=false):Dsc lt p (m+1):=by
 intro i j b g
 by_cases c1:j<m
 .exact a i j b c1
 .have:j=m:=by omega
  subst this
  by_cases c2:i=j - 1
  .rw[c2];exact c
  .exact T.tr _ (e p (j - 1)) _ (h.bd n (by omega)) (h.bd n (by omega)) (h.bd n (by omega)) c (a i (j - 1) (by omega) (by omega))
theorem iy{p:Array Nat}(h:PV n p):∀(f m:Nat),1<=m->m+f<=n->Asc lt p m->m<=run lt (kas_asc p f m)/\run lt (kas_asc p f m)<=m+f/\Asc lt p (run lt (kas_asc p f m))/\(run lt (kas_asc p f m)<m+f->lt (e p (run lt (kas_asc p f m))) (e p (run lt (kas_asc p f m) - 1))=true)
 | 0,m,_,_,a=>⟨Nat.le_refl _,Nat.le_refl _,a,λz=>absurd z (Nat.lt_irrefl _)⟩
 | f+1,m,h1,h2,a=>by
  have b:run lt (kas_asc p (f+1) m)=run lt (if lt (e p m) (e p (m - 1))=true then .ret m else kas_asc p f (m+1)):=by
   show run lt (if lt (p.getD m 0) (p.getD (m - 1) 0)=true then .ret m else kas_asc p f (m+1))=_;rw[aV,aV]
  rw[b];cases c:lt (e p m) (e p (m - 1)) with
  | true =>
   rw[if_pos rfl];exact⟨Nat.le_refl _,by show m<=_;omega,a,λ_=>c⟩
  | false =>
   rw[if_neg (by decide)];obtain⟨i,j,g,d⟩:=iy h f (m+1) (by omega) (by omega) (sR lt n T h h1 (by omega) a c);exact⟨by omega,by omega,g,λz=>d (by omega)⟩
omit T in
theorem fj{p:Array Nat}{i m k:Nat}(a:m<=p.size):e (kas_rev p i m) k=if i<=k/\k<m then e p (i+m - 1 - k) else e p k:=by
 unfold e kas_rev;rw[getElem?_mirror_all a]
 split <;> rfl
omit T in
theorem PV.rev{p:Array Nat}(h:PV n p)(i m:Nat):PV n (kas_rev p i m):=⟨by unfold kas_rev;rw[mirror_size];exact h.sz,(Array.perm_iff_toList_perm.mp (mirror_perm p i m ((m - i)/2))).trans h.pm⟩
theorem mH{p:Array Nat}{i m:Nat}(h:PV n p)(g:m<=n)(a:Dsc lt p m)(b:Blk lt p i m):Dsc lt (kas_rev p i m) m:=by
 intro x y c f;have d:m<=p.size:=by rw[h.sz];exact g
 rw[fj d,fj d]
 by_cases cy:i<=y/\y<m
 .rw[if_pos cy]
  by_cases cx:i<=x/\x<m
  .rw[if_pos cx]
   exact b _ _ (by omega) (by omega) (by omega) (by omega)
  .rw[if_neg cx]
   exact a _ _ (by omega) (by omega)
 .rw[if_neg cy,if_neg (by omega)]
  exact a _ _ c f
theorem eU:∀(f:Nat) (p:Array Nat) (m q:Nat),PV n p->q+1<=m->m+f<=n->Dsc lt p m->Blk lt p (m - (q+1)) m->∃ p' m' q',run lt (kas_desc f p m q)=(p',m',q')/\PV n p'/\m<=m'/\m'<=m+f/\q'+1<=m'/\Dsc lt p' m'/\Blk lt p' (m' - (q'+1)) m'
 | 0,p,m,q,h,hq,_,a,b=>⟨p,m,q,rfl,h,Nat.le_refl _,Nat.le_refl _,hq,a,b⟩
 | f+1,p,m,q,h,hq,hf,a,b=>by
  have G:run lt (kas_desc (f+1) p m q)=run lt (if lt (e p m) (e p (m - 1))=true then (if q > 0 then kas_desc f (kas_rev p (m - (q+1)) m) (m+1) 0 else kas_desc f p (m+1) 0) else (if lt (e p (m - 1)) (e p m)=true then .ret (p,m,q) else kas_desc f p (m+1) (q+1))):=by
   show run lt (if lt (p.getD m 0) (p.getD (m - 1) 0)=true then (if q > 0 then kas_desc f (kas_rev p (m - (q+1)) m) (m+1) 0 else kas_desc f p (m+1) 0) else .ask (p.getD (m - 1) 0) (p.getD m 0) λd=>if d=true then .ret (p,m,q) else kas_desc f p (m+1) (q+1))=_;rw[aV,aV]
   split <;> rfl
  rw[G]
  have i:∀ p':Array Nat,PV n p'->Blk lt p' (m+1 - (0+1)) (m+1):=λp' k x y j w g v=>by
   have:x=m:=by omega
   have:y=m:=by omega
   subst x y;cases c:lt (e p' m) (e p' m) with
   | false=>rfl
   | true=>rw[T.asy _ _ (k.bd n (by omega)) (k.bd n (by omega)) c]at c;exact absurd c (by decide)
  have D:m<=p.size:=by rw[h.sz];omega
  cases c:lt (e p m) (e p (m - 1)) with
  | true =>
   have B:=T.asy _ _ (h.bd n (by omega)) (h.bd n (by omega)) c;rw[if_pos rfl]
   by_cases hq0:q > 0
   .rw[if_pos hq0]
    have k:=h.rev n (m - (q+1)) m;have I:=mH lt n T h (by omega) a b
    have H:lt (e (kas_rev p (m - (q+1)) m) (m - 1)) (e (kas_rev p (m - (q+1)) m) m)=false:=by
     rw[fj D,fj D,if_pos ⟨by omega,by omega⟩,if_neg (by omega)];have M:m - (q+1)+m - 1 - (m - 1)=m - (q+1):=by omega
     rw[M];exact T.tr _ (e p (m - 1)) _ (h.bd n (by omega)) (h.bd n (by omega)) (h.bd n (by omega)) B (b _ _ (by omega) (by omega) (by omega) (by omega))
    obtain⟨p',m',q',o,u,F,E,s,l,r⟩:=eU f _ (m+1) 0 k (by omega) (by omega) (iT lt n T k (by omega) (by omega) I H) (i _ k);exact⟨p',m',q',o,u,by omega,by omega,s,l,r⟩
   .rw[if_neg hq0]
    obtain⟨p',m',q',o,u,F,E,s,l,r⟩:=eU f p (m+1) 0 h (by omega) (by omega) (iT lt n T h (by omega) (by omega) a B) (i _ h);exact⟨p',m',q',o,u,by omega,by omega,s,l,r⟩
  | false =>
   rw[if_neg (by decide)];cases d:lt (e p (m - 1)) (e p m) with
   | true =>
    rw[if_pos rfl];exact⟨p,m,q,rfl,h,Nat.le_refl _,by omega,hq,a,b⟩
   | false =>
    rw[if_neg (by decide)]
    have K:Blk lt p (m+1 - (q+1+1)) (m+1):=by
     have L:m+1 - (q+1+1)=m - (q+1):=by omega
     rw[L]
     have z:∀ x,m - (q+1)<=x->x<m->lt (e p x) (e p m)=false/\lt (e p m) (e p x)=false:=λx C A =>
      ⟨T.tr _ (e p (m - 1)) _ (h.bd n (by omega)) (h.bd n (by omega)) (h.bd n (by omega)) d (b _ _ C A (by omega) (by omega)),T.tr _ (e p (m - 1)) _ (h.bd n (by omega)) (h.bd n (by omega)) (h.bd n (by omega)) (b _ _ (by omega) (by omega) C A) c⟩
     intro x y j w g v
     by_cases cx:x=m
     .by_cases cy:y=m
      .rw[cx,cy]
       exact i p h m m (by omega) (by omega) (by omega) (by omega)
      .rw[cx];exact(z y g (by omega)).2
     .by_cases cy:y=m
      .rw[cy];exact(z x j (by omega)).1
      .exact b x y j (by omega) g (by omega)
    obtain⟨p',m',q',o,u,F,E,s,l,r⟩:=eU f p (m+1) (q+1) h (by omega) (by omega) (iT lt n T h (by omega) (by omega) a d) K;exact⟨p',m',q',o,u,by omega,by omega,s,l,r⟩
omit T in
theorem wF{p:Array Nat}{m:Nat}(h:PV n p)(d:m<=n)(a:Dsc lt p m):Asc lt (kas_rev p 0 m) m:=by
 intro i j c f;have b:m<=p.size:=by rw[h.sz];exact d
 rw[fj b,fj b,if_pos ⟨by omega,by omega⟩,if_pos ⟨by omega,by omega⟩];exact a _ _ (by omega) (by omega)
theorem nW{p:Array Nat}{m:Nat}(h:PV n p)(f:1<=m)(d:m<=n)(a:Dsc lt p m):∃ m' p',run lt (kas_tail3 m n p)=(m',p')/\PV n p'/\Asc lt p' m'/\1<=m'/\m'<=n:=by
 unfold kas_tail3;rw[eB];have b:=h.rev n 0 m;obtain⟨i,g,c,_⟩:=iy lt n T b (n - m) m f (by omega) (wF lt n h d a);exact⟨_,_,rfl,b,c,by omega,by omega⟩
theorem kg{p:Array Nat}{m:Nat}(h:PV n p)(u:1<=m)(i:m<n)(a:Dsc lt p (m+1)):∃ m' p',run lt (kas_descPart m n p)=(m',p')/\PV n p'/\Asc lt p' m'/\1<=m'/\m'<=n:=by
 unfold kas_descPart;rw[eB]
 have b:Blk lt p (m+1 - (0+1)) (m+1):=λx y j k o r=>by
  have:x=m:=by omega
  have:y=m:=by omega
  subst x y;cases c:lt (e p m) (e p m) with
  | false=>rfl
  | true=>rw[T.asy _ _ (h.bd n i) (h.bd n i) c]at c;exact absurd c (by decide)
 obtain⟨p',m',f,l,d,v,w,s,g,q⟩:=eU lt n T (n - (m+1)) p (m+1) 0 h (by omega) (by omega) a b;rw[l];show ∃ m'' p'',run lt (if f > 0 then kas_tail3 m' n (kas_rev p' (m' - (f+1)) m') else kas_tail3 m' n p')=_/\_
 by_cases c:f > 0
 .rw[if_pos c]
  exact nW lt n T (d.rev n _ _) (by omega) (by omega) (mH lt n T d (by omega) g q)
 .rw[if_neg c]
  exact nW lt n T d (by omega) (by omega) g
theorem mZ{p:Array Nat}{m:Nat}(h:PV n p)(u:1<=m)(s:m<n)(l:Asc lt p m)(g:lt (e p 0) (e p (m - 1))=false)(f:lt (e p (m - 1)) (e p m)=false):Dsc lt (kas_rev p 0 m) (m+1):=by
 have d:m<=p.size:=by rw[h.sz];omega
 have c:∀ x y,x<=y->y<m->lt (e p y) (e p x)=false:=λx y o b=>by
  by_cases z:x=y
  .subst z
   cases c4:lt (e p x) (e p x) with
   | false=>rfl
   | true=>rw[T.asy _ _ (h.bd n (by omega)) (h.bd n (by omega)) c4]at c4;exact absurd c4 (by decide)
  .exact l x y (by omega) b
 have a:∀ x y,x<m->y<m->lt (e p x) (e p y)=false:=λx y k b =>
  T.tr _ (e p 0) _ (h.bd n (by omega)) (h.bd n (by omega)) (h.bd n (by omega)) (T.tr _ (e p (m - 1)) _ (h.bd n (by omega)) (h.bd n (by omega)) (h.bd n (by omega)) (c y (m - 1) (by omega) (by omega)) g) (c 0 x (by omega) k)
 intro i j q r;rw[fj d,fj d,if_pos ⟨by omega,by omega⟩]
 by_cases cj:j<m
 .rw[if_pos ⟨by omega,cj⟩]
  exact a _ _ (by omega) (by omega)
 .rw[if_neg (by omega)]
  have:j=m:=by omega
  subst this;exact T.tr _ (e p (j - 1)) _ (h.bd n (by omega)) (h.bd n (by omega)) (h.bd n (by omega)) f (a _ _ (by omega) (by omega))
theorem kA{p:Array Nat}(h:PV n p)(r:2<=n):∃ m' p',run lt (kas_count n p)=(m',p')/\PV n p'/\Asc lt p' m'/\1<=m'/\m'<=n:=by
 unfold kas_count;rw[eB];have k:Asc lt p 1:=λi j d l=>by omega
 obtain⟨a,o,b,g⟩:=iy lt n T h (n - 1) 1 (Nat.le_refl _) (by omega) k;generalize run lt (kas_asc p (n - 1) 1)=m at a o b g
 by_cases c:m=n
 .have:(m == n)=true:=by simpa using c
  rw[if_pos this];exact⟨m,p,rfl,h,b,a,by omega⟩
 .have:¬(m == n)=true:=by simpa using c
  rw[if_neg this];have f:=T.asy _ _ (h.bd n (by omega)) (h.bd n (by omega)) (g (by omega))
  by_cases c2:m > 1
  .rw[if_pos c2]
   show ∃ m' p',run lt (if lt (p.getD 0 0) (p.getD (m - 1) 0)=true then .ret (m,p) else kas_descPart m n (kas_rev p 0 m))=_/\_;rw[aV,aV];cases c3:lt (e p 0) (e p (m - 1)) with
   | true =>
    rw[if_pos rfl];exact⟨m,p,rfl,h,b,a,by omega⟩
   | false =>
    rw[if_neg (by decide)];exact kg lt n T (h.rev n 0 m) (by omega) (by omega) (mZ lt n T h a (by omega) b c3 f)
  .rw[if_neg c2]
   have q:m=1:=by omega
   subst q;refine kg lt n T h (by omega) (by omega) ?_;intro i j d l;have:i=0:=by omega
   have:j=1:=by omega
   subst i j;exact f
theorem gL{p:Array Nat}{k:Nat}(h:PV n p)(g:k<n)(a:Asc lt p k):∀(f l r:Nat),l<=r->r<=k->r - l<=f->(∀ i,i<l->lt (e p k) (e p i)=false)->(∀ i,r<=i->i<k->lt (e p i) (e p k)=false) ->
  run lt (kas_place p k f l r)<=k/\(∀ i,i<run lt (kas_place p k f l r)->lt (e p k) (e p i)=false)/\(∀ i,run lt (kas_place p k f l r)<=i->i<k->lt (e p i) (e p k)=false)
 | 0,l,r,h1,h2,h3,lo,hi=>⟨by show l<=k;omega,lo,λi d b=>hi i (by have z:l<=i:=d;omega) b⟩
 | f+1,l,r,h1,h2,h3,lo,hi=>by
  by_cases c:l >= r
  .have q:run lt (kas_place p k (f+1) l r)=l:=by
    show run lt (if l >= r then .ret l else _)=l;rw[if_pos c];rfl
   rw[q];exact⟨by omega,lo,λi d b=>hi i (by omega) b⟩
  .have q:run lt (kas_place p k (f+1) l r)=run lt (if lt (e p k) (e p ((l+r)/2))=true then kas_place p k f l ((l+r)/2) else kas_place p k f ((l+r)/2+1) r):=by
    show run lt (if l >= r then .ret l else .ask (p.getD k 0) (p.getD ((l+r)/2) 0) λc=>if c=true then kas_place p k f l ((l+r)/2) else kas_place p k f ((l+r)/2+1) r)=_;rw[if_neg c,aV,aV];rfl
   rw[q];have o:l<=(l+r)/2:=by omega
   have s:(l+r)/2<r:=by omega
   generalize (l+r)/2=m at o s;cases cc:lt (e p k) (e p m) with
   | true =>
    have j:=T.asy _ _ (h.bd n g) (h.bd n (by omega)) cc;rw[if_pos rfl];refine gL h g a f l m o (by omega) (by omega) lo λi d b=>?_
    by_cases c3:i=m
    .rw[c3];exact j
    .exact T.tr _ (e p m) _ (h.bd n g) (h.bd n (by omega)) (h.bd n (by omega)) j (a m i (by omega) b)
   | false =>
    rw[if_neg (by decide)];refine gL h g a f (m+1) r (by omega) h2 (by omega) (λi d=>?_) hi
    by_cases c3:i=m
    .rw[c3];exact cc
    .exact T.tr _ (e p m) _ (h.bd n (by omega)) (h.bd n (by omega)) (h.bd n g) (a i m (by omega) (by omega)) cc
omit T in
theorem gm{p:Array Nat}{k l i:Nat}(b:k<p.size)(c:l<=k):e (bubble p k (k - l)) i=if i=l then e p k else if l<i/\i<=k then e p (i - 1) else e p i:=by
 unfold e;rw[getElem?_bubble b (k - l) (by omega)];have a:k - (k - l)=l:=by omega
 rw[a]
 split
 .rfl
 .split <;> rfl
theorem pR:∀(f:Nat) (p:Array Nat) (k:Nat),PV n p->k+f<=n->Asc lt p k->∃ p',run lt (kas_bin f p k)=p'/\PV n p'/\Asc lt p' (k+f)
 | 0,p,k,h,_,a=>⟨p,rfl,h,a⟩
 | f+1,p,k,h,hk,a=>by
  obtain⟨b,r,s⟩:=gL lt n T h (by omega) a k 0 k (by omega) (Nat.le_refl _) (by omega) (λi hi=>by omega) (λi h1 h2=>by omega)
  have v:run lt (kas_bin (f+1) p k)=run lt (kas_bin f (bubble p k (k - run lt (kas_place p k k 0 k))) (k+1)):=by
   show run lt ((kas_place p k k 0 k).bind λl=>kas_bin f (bubble p k (k - l)) (k+1))=_;rw[eB]
  rw[v];generalize run lt (kas_place p k k 0 k)=l at b r s;have d:k<p.size:=by rw[h.sz];omega
  have u:PV n (bubble p k (k - l)):=⟨by rw[bubble_size];exact h.sz,(Array.perm_iff_toList_perm.mp (bubble_perm p k (k - l))).trans h.pm⟩
  have x:Asc lt (bubble p k (k - l)) (k+1):=by
   intro i j q B
   by_cases c1:i=l
   .have g:e (bubble p k (k - l)) i=e p k:=by rw[gm d b,if_pos c1]
    have o:e (bubble p k (k - l)) j=e p (j - 1):=by rw[gm d b,if_neg (by omega),if_pos ⟨by omega,by omega⟩]
    rw[g,o];exact s (j - 1) (by omega) (by omega)
   .by_cases c2:j=l
    .have g:e (bubble p k (k - l)) i=e p i:=by rw[gm d b,if_neg c1,if_neg (by omega)]
     have o:e (bubble p k (k - l)) j=e p k:=by rw[gm d b,if_pos c2]
     rw[g,o];exact r i (by omega)
    .have g:e (bubble p k (k - l)) i=if l<i then e p (i - 1) else e p i:=by
      rw[gm d b,if_neg c1]
      by_cases c:l<i
      .rw[if_pos ⟨c,by omega⟩,if_pos c]
      .rw[if_neg (λz=>c z.1),if_neg c]
     have o:e (bubble p k (k - l)) j=if l<j then e p (j - 1) else e p j:=by
      rw[gm d b,if_neg c2]
      by_cases c:l<j
      .rw[if_pos ⟨c,by omega⟩,if_pos c]
      .rw[if_neg (λz=>c z.1),if_neg c]
     rw[g,o]
     split
     .split
      .exact a _ _ (by omega) (by omega)
      .exact a _ _ (by omega) (by omega)
     .split
      .omega
      .exact a _ _ q (by omega)
  obtain⟨p',w,A,y⟩:=pR f _ (k+1) u (by omega) x;exact⟨p',w,A,by rw[show k+(f+1)=k+1+f by omega];exact y⟩
theorem run_sort(h:2<=n):∃ p,run lt (kas_sort n)=p/\PV n p/\Asc lt p n:=by
 unfold kas_sort;rw[eB]
 have l:PV n (List.toArray (List.range n)):=⟨by simp,by simp⟩
 obtain⟨m,p,i,d,b,o,q⟩:=kA lt n T l h;rw[i];show ∃ a,run lt (if m<n then kas_bin (n - max m 1) p (max m 1) else .ret p)=a/\_;have g:max m 1=m:=by omega
 by_cases c:m<n
 .rw[if_pos c,g]
  obtain⟨a,j,k,f⟩:=pR lt n T (n - m) p m d (by omega) b;exact⟨a,j,k,by rw[show m+(n - m)=n by omega]at f;exact f⟩
 .rw[if_neg c]
  have:m=n:=by omega
  subst this;exact⟨p,rfl,d,b⟩
omit T in
def In{α:Type}:KasT α->Prop
 | .ret _=>True
 | .ask i j k=>i<n/\j<n/\i≠j/\In (k (lt i j))
omit T in
theorem fo{a b:Type}{f:a->KasT b}:∀{t:KasT a},In lt n t->In lt n (f (run lt t))->In lt n (t.bind f)
 | .ret _,_,h=>h
 | .ask i j k,h,h'=>⟨h.1,h.2.1,h.2.2.1,fo h.2.2.2 h'⟩
omit T in
theorem oX{p:Array Nat}(h:PV n p):∀(f m:Nat),1<=m->m+f<=n->In lt n (kas_asc p f m)
 | 0,_,_,_=>trivial
 | f+1,m,h1,h2=>by
  refine⟨by rw[aV];exact h.bd n (by omega),by rw[aV];exact h.bd n (by omega),by rw[aV,aV];exact h.ne n (by omega) (by omega) (by omega),?_⟩;dsimp only
  split
  .exact trivial
  .exact oX h f (m+1) (by omega) (by omega)
omit T in
theorem iP:∀(f:Nat) (p:Array Nat) (m q:Nat),PV n p->1<=m->m+f<=n->In lt n (kas_desc f p m q)
 | 0,_,_,_,_,_,_=>trivial
 | f+1,p,m,q,h,h1,h2=>by
  refine⟨by rw[aV];exact h.bd n (by omega),by rw[aV];exact h.bd n (by omega),by rw[aV,aV];exact h.ne n (by omega) (by omega) (by omega),?_⟩;dsimp only
  split
  .split
   .exact iP f _ _ _ (h.rev n _ _) (by omega) (by omega)
   .exact iP f _ _ _ h (by omega) (by omega)
  .refine⟨by rw[aV];exact h.bd n (by omega),by rw[aV];exact h.bd n (by omega),by rw[aV,aV];exact h.ne n (by omega) (by omega) (by omega),?_⟩
   dsimp only
   split
   .exact trivial
   .exact iP f _ _ _ h (by omega) (by omega)
omit T in
theorem pY{p:Array Nat}{m:Nat}(h:PV n p)(a:1<=m)(b:m<=n):In lt n (kas_tail3 m n p):=fo lt n (oX lt n (h.rev n 0 m) (n - m) m a (by omega)) trivial
theorem nB{p:Array Nat}{m:Nat}(h:PV n p)(w:1<=m)(i:m<n)(a:Dsc lt p (m+1)):In lt n (kas_descPart m n p):=by
 have d:Blk lt p (m+1 - (0+1)) (m+1):=λx y k l q r=>by
  have:x=m:=by omega
  have:y=m:=by omega
  subst x y;cases c:lt (e p m) (e p m) with
  | false=>rfl
  | true=>rw[T.asy _ _ (h.bd n i) (h.bd n i) c]at c;exact absurd c (by decide)
 obtain⟨f,b,j,o,g,z,A,u,s,v⟩:=eU lt n T (n - (m+1)) p (m+1) 0 h (by omega) (by omega) a d;refine fo lt n (iP lt n _ _ _ _ h (by omega) (by omega)) ?_;rw[o];show In lt n (if j > 0 then kas_tail3 b n (kas_rev f (b - (j+1)) b) else kas_tail3 b n f)
 split
 .exact pY lt n (g.rev n _ _) (by omega) (by omega)
 .exact pY lt n g (by omega) (by omega)
theorem uZ{p:Array Nat}(h:PV n p)(r:2<=n):In lt n (kas_count n p):=by
 refine fo lt n (oX lt n h (n - 1) 1 (by omega) (by omega)) ?_;have k:Asc lt p 1:=λi j a l=>by omega
 obtain⟨d,o,g,f⟩:=iy lt n T h (n - 1) 1 (Nat.le_refl _) (by omega) k;generalize run lt (kas_asc p (n - 1) 1)=m at d o g f
 by_cases c:m=n
 .have:(m == n)=true:=by simpa using c
  rw[if_pos this];exact trivial
 .have:¬(m == n)=true:=by simpa using c
  rw[if_neg this];have b:=T.asy _ _ (h.bd n (by omega)) (h.bd n (by omega)) (f (by omega))
  by_cases c2:m > 1
  .rw[if_pos c2]
   refine⟨by rw[aV];exact h.bd n (by omega),by rw[aV];exact h.bd n (by omega),by rw[aV,aV];exact h.ne n (by omega) (by omega) (by omega),?_⟩;rw[aV,aV];cases c3:lt (e p 0) (e p (m - 1)) with
   | true=>exact trivial
   | false =>
    show In lt n (if false=true then _ else kas_descPart m n (kas_rev p 0 m));rw[if_neg (by decide)];exact nB lt n T (h.rev n 0 m) (by omega) (by omega) (mZ lt n T h d (by omega) g c3 b)
  .rw[if_neg c2]
   have q:m=1:=by omega
   subst q;refine nB lt n T h (by omega) (by omega) ?_;intro i j a l;have:i=0:=by omega
   have:j=1:=by omega
   subst i j;exact b
omit T in
theorem jw{p:Array Nat}{k:Nat}(h:PV n p)(a:k<n):∀(f l r:Nat),r<=k->In lt n (kas_place p k f l r)
 | 0,_,_,_=>trivial
 | f+1,l,r,h2=>by
  show In lt n (if l >= r then .ret l else .ask (p.getD k 0) (p.getD ((l+r)/2) 0) λc=>if c=true then kas_place p k f l ((l+r)/2) else kas_place p k f ((l+r)/2+1) r)
  split
  .exact trivial
  .refine⟨by rw[aV];exact h.bd n a,by rw[aV];exact h.bd n (by omega),by rw[aV,aV];exact h.ne n a (by omega) (by omega),?_⟩
   dsimp only
   split
   .exact jw h a f l _ (by omega)
   .exact jw h a f _ r h2
omit T in
theorem uu:∀(f:Nat) (p:Array Nat) (k:Nat),PV n p->k+f<=n->In lt n (kas_bin f p k)
 | 0,_,_,_,_=>trivial
 | f+1,p,k,h,hk=>by
  refine fo lt n (jw lt n h (by omega) k 0 k (Nat.le_refl _)) ?_;exact uu f _ (k+1) ⟨by rw[bubble_size];exact h.sz,(Array.perm_iff_toList_perm.mp (bubble_perm p k _)).trans h.pm⟩ (by omega)
theorem In_sort(a:2<=n):In lt n (kas_sort n):=by
 have b:PV n (List.toArray (List.range n)):=⟨by simp,by simp⟩
 refine fo lt n (uZ lt n T b a) ?_;obtain⟨m,p,c,d,h,f,g⟩:=kA lt n T b a;rw[c];show In lt n (if m<n then kas_bin (n - max m 1) p (max m 1) else .ret p)
 split
 .exact uu lt n _ _ _ d (by omega)
 .exact trivial
omit T in
theorem wp_run{b:Type}{a:Nat->Nat->(Bool->Shared->Prop)->Shared->Prop}{s:Shared}(c:∀ i j,i<n->j<n->i≠j->∀ C,C (lt i j) s->a i j C s){Q:b->Shared->Prop}:∀ t:KasT b,In lt n t->Q (run lt t) s->t.kasWp a Q s
 | .ret _,_,h=>h
 | .ask i j k,hi,h=>c i j hi.1 hi.2.1 hi.2.2.1 _ (wp_run c (k (lt i j)) hi.2.2.2 h)
end WSrt
namespace L2
open PySem PySem.Spec PyProof.Rows PySem.W
def ord(lt:Nat->Nat->Bool)(n:Nat):List Nat:=if 2<=n then (WSrt.run lt (kas_sort n)).toList else List.range n
theorem uY{lt:Nat->Nat->Bool}{n:Nat}(T:WSrt.Wk lt n):(ord lt n).Perm (List.range n):=by
 unfold ord
 split
 .rename_i h
  obtain⟨p,e,a,b⟩:=WSrt.run_sort lt n T h;rw[e];exact a.pm
 .exact .refl _
theorem wn{lt:Nat->Nat->Bool}{n:Nat}(T:WSrt.Wk lt n):(ord lt n).Pairwise λi j=>lt j i=false:=by
 unfold ord
 split
 .rename_i h
  obtain⟨p,e,c,k⟩:=WSrt.run_sort lt n T h;rw[e,pairwise_iff_getElem];intro i j l d b;have a:j<n:=by rw[Array.length_toList,c.sz]at d;exact d
  have g:=(List.getElem?_eq_some_iff.mp (WSrt.e_list (p:=p) (i:=i) (by rw[c.sz];lia))).2;have f:=(List.getElem?_eq_some_iff.mp (WSrt.e_list (p:=p) (i:=j) (by rw[c.sz];lia))).2;rw[g,f];exact k i j b a
 .match n with
  | 0=>exact List.Pairwise.nil
  | 1=>exact List.pairwise_singleton _ _
  | n+2=>exact absurd (show 2<=n+2 by lia) (by assumption)
section
variable {X:Cx}{pins:List (Addr×Obj)}{σ:St}{H:Hp}{s:Shared}{κ:SortKind}{lt:Nat->Nat->Bool}{KO:Nat->V->Hp->Prop}{xs:List V}{q:Addr}
theorem rG{xs:List V}{vs:List Value}(h:Vals xs vs)(p:List Nat)(b:∀ i∈p,i<xs.length):Vals (p.map λi=>xs.getD i .non) (p.map λi=>vs.getD i Value.none):=by
 induction p with
 | nil=>exact .nil
 | cons i p ih =>
  rw[map_cons,map_cons];refine .cons ?_ (ih λj d=>b j (mem_cons_of_mem _ d));have a:=b i (mem_cons_self ..);obtain⟨u,c,r⟩:=h.get (List.getElem?_eq_getElem a);rw[List.getD,List.getD,List.getElem?_eq_getElem a,c];exact r
end
def DE(h:Heap)(d:Addr)(es:Array DictEntry)(ep:Nat):Prop:=∃ o,h.get? d=some o/\o.ExactDict/\o.data=.dict es ep
theorem DE.on{h h':Heap}{d:Addr}{a:Array DictEntry}{b:Nat}(x:DE h d a b)(k:∀ o,h.get? d=some o->h'.get? d=some o):DE h' d a b:=let ⟨o,e,r⟩:=x;⟨o,k o e,r⟩
theorem DE.lt{h:Heap}{d:Addr}{a:Array DictEntry}{b:Nat}(x:DE h d a b):d<h.objs.size:=let ⟨_,e,_⟩:=x;Heap.lt_size e
theorem DE.ty{s:Shared}{d:Addr}{a:Array DictEntry}{b:Nat}(x:DE s.heap d a b):s.TypeIs (.ref d) "dict" := let ⟨o,e,c,_⟩:=x;⟨o,e,c.1⟩
section
variable {prog:Program}{w:World}{A:Around}{E:Value->Shared->Prop}{s:Shared}{d I:Addr}{es:Array DictEntry}{ep i:Nat}
theorem wI{Q:Value->Shared->Prop}(f:(d == sysModules)=false)(x:DE s.heap d es ep)
  (q:Q (.ref s.heap.objs.size) { s with heap:=s.heap.push { cls:=.type "dict_keyiterator",data:=.fields #[.ref d,.int 0 0,.int es.size 0,.int ep 0] } }):wpAny (model prog w) A (pyIter (.ref d)) Q E s:=by
 have a:=x.ty;obtain⟨h,c,g,b⟩:=id x;refine wpAny_pyIter_slot a F.slot_dict_iter (wpAny_call_entry F.slot_dict_iter a F.entry_dict_iter ?_ (F.args_dict_iter_1 _));unfold Builtin.«dict.__iter__»;refine wpAny_bind ?_;unfold Builtin.Dict.dictSlotNone;refine wpAny_bind (wpAny_notOrdered_dict a (wpAny_pure ?_));show wpAny _ _ (Builtin.Dict.showsAll d >>= _) _ _ _;unfold Builtin.Dict.showsAll;rw[if_neg (λz=>by rw[f]at z;cases z)];refine wpAny_bind (wpAny_pure (wpAny_bind (wpAny_dictEntries c b (wpAny_bind (wpAny_dictEpoch c b ?_)))));refine wpAny_bind (wpAny_newObj_type (wpAny_pure ⟨_,rfl, "dict_keyiterator",_,⟨_,Heap.get?_push_size _ rfl,rfl⟩,F.slot_dict_keyiterator_next.lookup,?_⟩));simpa[rawInt] using q
theorem wL{Q:Option Value->Shared->Prop}{e:DictEntry}(a:s.heap.IsKeyIter I d i es.size ep)(x:DE s.heap d es ep)(l:es[i]? = some e)
  (q:∀ h',h'.IsKeyIter I d (i+1) es.size ep->Heap.SameBut I s.heap h'->Q (some e.key) { s with heap:=h' }):wpAny (model prog w) A (pyNext (.ref I)) Q E s:=by
 obtain⟨r,f,n,c⟩:=id a;obtain⟨p,j,o,k⟩:=id x;unfold pyNext;refine wpAny_bind (wpAny_attempt (wpAny_callSpecial?_slot (name:=Str.ofString "__next__") a.typeIs F.slot_dict_keyiterator_next (wpAny_call_entry F.slot_dict_keyiterator_next a.typeIs F.entry_dict_keyiterator_next ?_ (F.args_dict_keyiterator_next_1 _))));refine wpAny_bind (wpAny_pure (wpAny_bind (wpAny_bind ?_)))
 first | refine wpAny_bind (wpAny_typeNameOfWhole_keyiter a.typeIs (wpAny_pure ?_)) | refine wpAny_bind (wpAny_typeNameOf_keyiter a.typeIs (wpAny_pure ?_))
 refine wpAny_bind (wpAny_fieldsOf f c ?_);have h:Builtin.Dict_items.ownsTuple "dict_keyiterator" = false:=by decide
 simp only[h,Bool.false_eq_true,if_false];show wpAny _ _ (if (Value.ref d == Value.none)=true then _ else _) _ _ _;rw[if_neg (λz:(Value.ref d == Value.none)=true=>Bool.false_ne_true z)];refine wpAny_bind (wpAny_pure (wpAny_bind (wpAny_dictEntries j k ?_)));rw[if_neg (by simp)];refine wpAny_bind (wpAny_pure (wpAny_bind (wpAny_dictEpoch j k ?_)));rw[if_neg (by simp)];refine wpAny_pure ?_;obtain⟨g,rfl⟩:=Array.getElem?_eq_some_iff.mp l;simp only[show ¬((i:Int)<0) from by lia,if_false,Int.toNat_natCast,Array.getElem?_eq_getElem g];refine wpAny_bind ?_
 first | refine wpAny_bind (wpAny_typeNameOfWhole_keyiter a.typeIs (wpAny_pure ?_)) | refine wpAny_bind (wpAny_typeNameOf_keyiter a.typeIs (wpAny_pure ?_))
 refine wpAny_bind (wpAny_isOneOf_keyiter a.typeIs ?_);show wpAny _ _ (setField (.ref I) 1 (rawInt ((i:Int)+1)) >>= _) _ _ _;refine wpAny_bind (wpAny_setField f c (by simp) ?_)
 have b:(s.heap.update I (Obj.mapFields (·.setIfInBounds 1 (rawInt ((i:Int)+1))))).IsKeyIter I d (i+1) es.size ep:=⟨_,Heap.get?_update_self _ f (Obj.isFreed_of_fields (Obj.data_mapFields c _)),(Obj.cls_mapFields ..).trans n,by rw[Obj.data_mapFields c];simp[rawInt]⟩
 refine wpAny_bind (wpAny_holding (wpAny_bind (wpAny_isOneOf_keyiter (s:={ s with heap:=s.heap.update I (Obj.mapFields (·.setIfInBounds 1 (rawInt ((i:Int)+1)))) }) b.typeIs ?_)));show wpAny _ _ (pure es[i].key) _ _ _;exact wpAny_pure (wpAny_pure ⟨_,rfl,wpAny_pure (q _ b (Heap.SameBut.update ..))⟩)
theorem yS{Q:Option Value->Shared->Prop}(l:A.handled=none)(c:s.heap.IsKeyIter I d i es.size ep)(x:DE s.heap d es ep)(n:es.size<=i)
  (q:∀ h',Heap.ExtBut I s.heap h'->Q none { s with heap:=h' }):wpAny (model prog w) A (pyNext (.ref I)) Q E s:=by
 obtain⟨u,g,o,j⟩:=id c;obtain⟨r,h,p,k⟩:=id x;unfold pyNext;refine wpAny_bind (wpAny_attempt (wpAny_callSpecial?_slot (name:=Str.ofString "__next__") c.typeIs F.slot_dict_keyiterator_next (wpAny_call_entry F.slot_dict_keyiterator_next c.typeIs F.entry_dict_keyiterator_next ?_ (F.args_dict_keyiterator_next_1 _))));refine wpAny_bind (wpAny_pure (wpAny_bind (wpAny_bind ?_)))
 first | refine wpAny_bind (wpAny_typeNameOfWhole_keyiter c.typeIs (wpAny_pure ?_)) | refine wpAny_bind (wpAny_typeNameOf_keyiter c.typeIs (wpAny_pure ?_))
 refine wpAny_bind (wpAny_fieldsOf g j ?_);have f:Builtin.Dict_items.ownsTuple "dict_keyiterator" = false:=by decide
 simp only[f,Bool.false_eq_true,if_false];show wpAny _ _ (if (Value.ref d == Value.none)=true then _ else _) _ _ _;rw[if_neg (λz:(Value.ref d == Value.none)=true=>Bool.false_ne_true z)];refine wpAny_bind (wpAny_pure (wpAny_bind (wpAny_dictEntries h k ?_)));rw[if_neg (by simp)];refine wpAny_bind (wpAny_pure (wpAny_bind (wpAny_dictEpoch h k ?_)));rw[if_neg (by simp)];refine wpAny_pure ?_;simp only[show ¬((i:Int)<0) from by lia,if_false,Int.toNat_natCast,Array.getElem?_eq_none n];refine wpAny_bind ?_
 first | refine wpAny_bind (wpAny_typeNameOfWhole_keyiter c.typeIs (wpAny_pure ?_)) | refine wpAny_bind (wpAny_typeNameOf_keyiter c.typeIs (wpAny_pure ?_))
 show wpAny _ _ (setField (.ref I) 0 .none >>= _) _ _ _;refine wpAny_bind (wpAny_setField g j (by simp) ?_);show wpAny _ _ (newExc (.type "StopIteration") [] >>= _) _ _ _;refine wpAny_bind ?_;simp only[newExc,newTuple];refine wpAny_bind (wpAny_newObj_type (wpAny_bind (m:=firstArgMember _ _) (wpAny_of_eq (a:=Value.none) (by first | rfl | (simp only[firstArgMember];rfl)) (wpAny_newObj_type ?_ (by size_fits)))) (by size_fits));simp only[raiseNew];refine wpAny_bind (wpAny_handled ?_);rw[show A.in1.handled=none from l];refine wpAny_bind (wpAny_pure (wpAny_throw ?_));refine wpAny_bind (wpAny_isInstance (T := "StopIteration") (b:=true) ⟨_,Heap.get?_push_size _ rfl,rfl⟩ isSubtype_stop ?_);exact wpAny_pure (q _ (((Heap.SameBut.update ..).extBut.push _).push _))
theorem vc(p:A.handled=none)(k:d≠I):Walks prog w A I [I,d] [I] es.size (λi v=>∃ e,es[i]? = some e/\v=e.key) (λi h=>h.IsKeyIter I d i es.size ep/\DE h d es ep) where
 sub:=λb c=>by rw[mem_singleton.mp c];exact mem_cons_self ..
 frame:=λ_ _ _ a l=>⟨a.1.at λo e=>l I (mem_cons_self ..) o e,a.2.on λo e=>l d (by simp) o e⟩
 item:=λi s Q E n a f=>by
  refine wL a.1 a.2 (Array.getElem?_eq_getElem n) λj q g=>?_
  exact f _ j s.toks ⟨_,Array.getElem?_eq_getElem n,rfl⟩ ⟨q,a.2.on λo e=>g.extBut d o k e⟩ λb o c e=>g.extBut b o (λz=>c (by rw[z];exact mem_cons_self ..)) e
 done:=λs Q E a f=>yS p a.1 a.2 (Nat.le_refl _) λj g=>f j s.toks λb o c e=>g b o (λz=>c (by rw[z];exact mem_cons_self ..)) e
 self:=λ_ _ _ _ a f=>wpAny_pyIter_keyiter a.1 f
theorem yX(a:(d == sysModules)=false):KdlSrc prog w "dict" d d es.size (λi v=>∃ e,es[i]? = some e/\v=e.key) (λh=>DE h d es ep) where
 type:=λ_ x=>x.ty
 there:=λ_ x=>⟨x.lt,x.lt⟩
 keep:=λ_ _ x c=>x.on λo e=>c d (.inl rfl) o e
 notList:=by decide
 notTuple:=by decide
 hint:=λ_ _ _ _ x q=>kdl_hint_dict x.ty q
 iter:=λ_ _ b x=>⟨_,_,(λ_ _ q=>wI a x q),vc b (Nat.ne_of_lt x.lt),⟨⟨_,Heap.get?_push_size _ rfl,rfl,rfl⟩,x.on λo e=>Heap.get?_push_of_some _ e⟩⟩
def i5(es:Array DictEntry):List Value:=es.toList.map (·.key)
theorem pj{a:Array Value}(h:ItemsOf (λi v=>∃ e,es[i]? = some e/\v=e.key) a es.size):a.toList=i5 es:=by
 obtain⟨g,f⟩:=h;refine List.ext_getElem? λj=>?_
 unfold i5;rw[List.getElem?_map,Array.getElem?_toList,Array.getElem?_toList]
 by_cases c:j<a.size
 .obtain⟨e,b,d⟩:=f j _ (Array.getElem?_eq_getElem c)
  rw[Array.getElem?_eq_getElem c,b,d];rfl
 .rw[Array.getElem?_eq_none (by lia),Array.getElem?_eq_none (by lia)];rfl
theorem om{Q:List Value->Shared->Prop}(h:A.handled=none)(g:(d == sysModules)=false)(x:DE s.heap d es ep)(i:es.size<=sizeLine)
  (q:∀ h' tk,s.heap.objs.size<h'.objs.size->(∀ b o,s.heap.get? b=some o->h'.get? b=some o)->Q (i5 es) { s with heap:=h',toks:=tk }):wpAny (model prog w) A (collect (.ref d)) Q E s:=by
 unfold collect;refine wpAny_bind (wpAny_runValue (codeAny_builtin entry_proto_collect' ?_));show wpAny _ _ (do again (.builtin "list.__iadd__" ⟨[<- newList [],.ref d],[]⟩)) _ _ _;refine wpAny_bind (wpAny_newList (wpAny_pure ⟨Code.quiet_builtin _ (by decide +kernel),codeAny_builtin entry_list_iadd' ?_⟩));have c:=x.lt;refine kdl_extend (R:=λr f=>match r with | Except.ok (Flow.ret v)=>wpAny (model prog w) A (match v with | Value.ref a=>(do let o <- load a;match o.data with | Data.seq xs _=>pure xs.toList | _=>unsupported "internal:collect") | _=>unsupported "internal:collect") Q E f | Except.ok _=>False | Except.error e=>E e f) (s:={ s with heap:=s.heap.push { cls:=.type "list",data:=.seq #[] } }) (yX g) h (x.on λo e=>Heap.get?_push_of_some _ e) s.heap.objs.size (Nat.ne_of_gt c) (Nat.ne_of_gt c) _ 0 (Heap.get?_push_size _ rfl) (λh' tk acc c' hk hS ha=>?_) i
 show wpAny (model prog w) A (do
   let o <- load s.heap.objs.size
   match o.data with
   | .seq xs _=>pure xs.toList
   | _=>unsupported "internal:collect") Q E _
 refine wpAny_bind (wpAny_load hS (wpAny_pure ?_));rw[pj ha];exact q h' tk (Heap.lt_size hS) λb o e=>hk b o (Nat.ne_of_lt (Heap.lt_size e)) (Heap.get?_push_of_some _ e)
end
section
variable {X:Cx}
theorem KT.at{H:Hp}:∀{kvs:List (List Key×V)}{xs:List (List Key×Addr×Value)}{i:Nat}{kv:List Key×V},KT H kvs xs->kvs[i]? = some kv->∃ x,xs[i]? = some x/\H x.2.1=some (.tup (kv.1.map kV))
 | _,_,_,_,.nil,h=>by cases h
 | _,_,0,_,.cons r t,h=>by cases h;exact⟨_,rfl,r.2.1⟩
 | _,_,i+1,_,.cons r t,h=>KT.at (i:=i) t h
theorem kn{vs:List Value}(f:Nat->V):∀{o:List Nat},(∀ i∈o,RelV (f i) (vs.getD i Value.none))->Vals (o.map f) (o.map λi=>vs.getD i Value.none)
 | [],_=>.nil
 | i::o,h=>.cons (h i (mem_cons_self ..)) (kn f λj a=>h j (mem_cons_of_mem _ a))
end
end L2
namespace L2
open PySem PySem.Spec PyProof.Rows
section
variable {prog:Program}{w:World}{KT:Type} [DecidableEq KT] {knd:HeapKind prog w KT}{A:Around}{E:Value->Shared->Prop}{s:Shared}{d a:Addr}{xs:List (KT×Addr×Value)}{k:KT}{dflt:Value}
theorem sdH{Q:Value->Shared->Prop}(v:knd.room A)(b:knd.is s.heap k a)(C:s.heap.DictOfH knd d xs)(hsz:xs.length<=sizeLine)
  (D:∀ p,atKey xs k=some p->Q p.2 { s with toks:=s.toks+knd.draws k })
  (h2:atKey xs k=none->∀ h',h'.DictOfH knd d (storedH xs k a dflt)->Heap.SameBut d s.heap h'->Q dflt { s with heap:=h',toks:=s.toks+knd.draws k }):wpAny (model prog w) A (dictSetDefault d (.ref a) dflt) Q E s:=by
 obtain⟨o,F,B,f,z,c,n,i,q⟩:=C;unfold dictSetDefault;refine wpAny_holding (wpAny_bind (knd.pyHash v b (wpAny_bind (wpAny_dictFind_heap (s:={ s with toks:=s.toks+knd.draws k }) v b f c n i q ?_ ?_))))
 .intro l
  have h:k ∉ xs.map (·.1):=not_mem_keys_of_get l;have g:=atKey_none_of_get l
  refine wpAny_bind (wpAny_rule (wpAny_bind (wpAny_updateDictKeys (hz:=by have e:=size_of_entries n;lia) (s:={ s with toks:=s.toks+knd.draws k }) f c (wpAny_pure (h2 g _ ⟨_,_,B+1,Heap.get?_update_self _ f (Obj.isFreed_of_dict (Obj.data_mapDictKeys c _)),
   z.mapDictKeys _,Obj.data_mapDictKeys c _,?_,?_,?_⟩ (Heap.SameBut.update ..))))))
  .rw[storedH_new g]
   simp[n,entryOfKey]
  .rw[storedH_new g]
   intro x hx
   rcases mem_append.mp hx with hx | hx
   .exact knd.keeps (i x hx) f c (Heap.SameBut.update ..)
   .simp only[mem_singleton]at hx
    subst hx;exact knd.keeps b f c (Heap.SameBut.update ..)
  .rw[storedH_new g]
   rw[map_append,nodup_append];refine⟨q,by simp,?_⟩;intro x hx y r;simp only[map_cons,map_nil,mem_singleton]at r;subst r;exact λe=>h (e ▸ hx)
 .intro j p u
  have g:=atKey_of_get q u;refine wpAny_bind (wpAny_dictEntries (s:={ s with toks:=s.toks+knd.draws k }) f c ?_);rw[entry_at n j,u];exact wpAny_bind (wpAny_rule (wpAny_pure (D p g)))
theorem rK(g:(d == sysModules)=false)(b:Value):MeetsIn prog w (Builtin.«dict.setdefault» ⟨[.ref d,.ref a,b],[]⟩) (λA R s=>knd.room A.in1/\∃ k xs,knd.is s.heap k a/\s.heap.DictOfH knd d xs/\xs.length<=sizeLine /\
  (∀ p,atKey xs k=some p->R (.ok (.ret p.2)) { s with toks:=s.toks+knd.draws k })/\(atKey xs k=none->∀ h',h'.DictOfH knd d (storedH xs k a b)->Heap.SameBut d s.heap h'->R (.ok (.ret b)) { s with heap:=h',toks:=s.toks+knd.draws k })) :=
 .of_wp λA R s ⟨i,k,xs,c,f,l,j,n⟩=>by
  unfold Builtin.«dict.setdefault»;refine wpAny_bind ?_;unfold Builtin.Dict.keyAndDefault;refine wpAny_bind (wpAny_notOrdered_dict f.typeIs (show wpAny _ _ (pure (d,Value.ref a,some b)) _ _ s from wpAny_pure ?_));show wpAny _ _ (if (d == sysModules)=true then _ else (dictSetDefault d (.ref a) b >>= _)) _ _ s;rw[if_neg (by rw[g];exact Bool.false_ne_true)];exact wpAny_bind (sdH i c f l (λp h=>wpAny_pure ⟨_,rfl,j p h⟩) λhn h' m' s'=>wpAny_pure ⟨_,rfl,n hn h' m' s'⟩)
end
def BI(td ty tx:TE):TE:=λσ H Q=>td σ H λx H1=>∃ a,x=.ref a/\IsD H1 a/\ty σ H1 λy H2=>tx σ H2 λz H3=>∃ kvs k b,y=.ref b/\H3 b=some (.tup (k.map kV))/\H3 a=some (.dT kvs)/\kvs.length<sizeLine /\
 (∀ v,cS kvs k=some v->Q v H3)/\(cS kvs k=none->Q z (upd H3 a (.dT (kvs++[(k,z)]))))
section
variable {X:Cx}{o e f:Expr}{apos cpos:Pos}{td ty tx:TE}
theorem zn(hu:X.A.units+1<cLine)(ho:PE X o td)(he:PE X e ty)(hf:PE X f tx)(m:M2 X o "setdefault" apos e f cpos):PE X (.Call (.Attribute o "setdefault" apos) [e,f] [] cpos) (BI td ty tx):=by
 intro i s v H Q I h;refine wpAny_Call_method m.base m.few m.line PySem.F.plainAttrs_dict PySem.F.slot_dict_setdefault PySem.F.type_dict_setdefault (thn (ho i s v H _ I h) λu s1 ⟨x,H1,B,rx,a,L,d,q1⟩=>?_);subst L;obtain rfl:u=Value.ref a:=rx;obtain⟨t1,t2,_⟩:=sL B d;refine⟨t1,t2,?_⟩;rw[m.trees]
 refine Calls.callWith_builtin rfl (Calls.evalArgs_plain (Calls.spliced_cons (thn (he i s1 v H1 _ B q1) λM Z ⟨y,H2,I2,ry,q2⟩ =>
  Calls.spliced_cons (thn (hf i Z v H2 _ I2 q2) λfv s3 ⟨z,T,r,F,g,k,b,ey,K,w,l,q3,W⟩=>Calls.spliced_nil ?_))))
 subst ey;cases(show M=Value.ref b from ry);obtain⟨zz,A,E,j,C⟩:=tZ r.hok w;have hz:E.length<=sizeLine:=by rw[<- Paired.length j];exact zz
 refine call_meetsIn PySem.F.slot_dict_setdefault C.typeIs PySem.F.entry_dict_setdefault (PySem.F.args_dict_setdefault_3 _ _ _) (rK (knd:=tupleKind (bN X.prog X.w)) A fv) ⟨tupleKind_room_in1 hu,k,E,ju r.hok K,C,hz,λp hp=>?_,λhn h' m' s'=>?_⟩
 .have n:=j.val k
  rw[hp]at n;cases q:cS g k with
  | none=>rw[q]at n;exact False.elim n
  | some y'=>rw[q]at n;exact⟨y',T,r.tok _,n,q3 y' q⟩
 .have n:=j.val k
  rw[hn]at n
  have q:cS g k=none:=by
   cases q:cS g k with
   | none=>rfl
   | some y'=>rw[q]at n;exact False.elim n
  have hl:(g++[(k,z)]).length<=sizeLine:=by rw[length_append];exact l
  have G:=j.put k K F;rw[vE z q]at G;obtain⟨ob,N,P,D,Y,h3,R,_,h5⟩:=m';refine⟨z,_,lU (ob:=.dT (g++[(k,z)])) r (by rw[w];exact True.intro) s' ⟨ob,D⟩ ⟨hl,A,_,G.keeps λc ys ec=>?_,ob,N,P,D,Y,h3,R,h5⟩,F,W q⟩;rw[ag (dD ec w (λz=>nomatch z))];exact ec
end
end L2
namespace TS
open PySem PySem.W PyProof.Rows WSrt
abbrev SM:=StateT SortSt Sem
def S(κ:SortKind)(it:Nat->Keyed)(p:Array Nat)(pd:Array (Nat×Nat×Nat))(g:Nat):SortSt:=SortSt.mk' κ (p.map it) pd g none
def fg(prog:Program)(w:World)(A:Around)(s:Shared)(κ:SortKind)(it:Nat->Keyed)(n:Nat):Prop :=
 ∀ i j,i<n->j<n->i≠j->∀ Q:Bool->Shared->Prop,Q (decide (i<j)) s->wpAny (model prog w) A (keyLt' κ (it i).1 (it j).1) Q (λ_ _=>False) s
def Up(p:Array Nat)(lo hi:Nat):Prop:=∀ i j,lo<=i->i<j->j<hi->e p i<e p j
section
variable {prog:Program}{w:World}{A:Around}{E:Value->Shared->Prop}{s:Shared}{κ:SortKind}{it:Nat->Keyed}{n:Nat}
theorem ml(d:fg prog w A s κ it n){st:SortSt}{i j:Nat}{Q:Option Bool->SortSt->Prop}(f:kindOf st=κ)(g:i<n)(k:j<n)(a:i≠j)(h:Q (some (decide (i<j))) st):wpS (model prog w) A E s (lt' (it i) (it j)) Q st:=by
 rw[lt'_eq];refine wpS_bind (wpS_get ?_);rw[f];refine wpS_bind (wpS_lift (wpAny_attempt (wpAny_mono (d i j g k a (λb c=>c=s/\b=decide (i<j)) ⟨rfl,rfl⟩) (λb c hb=>?_) λ_ _ z=>z.elim)));obtain⟨rfl,rfl⟩:=hb;exact⟨rfl,wpS_pure h⟩
theorem lY{p:Array Nat}{i:Nat}(h:i<p.size):(p.map it)[i]? = some (it (e p i)):=by
 unfold e;rw[Array.getElem?_map,getElem?_pos p i h];rfl
theorem aY{p:Array Nat}{i:Nat}{st:SortSt}{Q:Keyed->SortSt->Prop}(a:i<p.size)(h:Q (it (e p i)) st):wpS (model prog w) A E s (elem' (p.map it) i) Q st:=by
 rw[elem'_eq,lY a];exact wpS_pure h
theorem fW(k:fg prog w A s κ it n){p:Array Nat}{f:Array (Nat×Nat×Nat)}{g i j:Nat}{Q:Option Bool->SortSt->Prop}(a:PV n p)(b:i<n)(c:j<n)(d:i≠j)(h:Q (some (decide (e p i<e p j))) (S κ it p f g)) :
  wpS (model prog w) A E s (ltAt' i j) Q (S κ it p f g):=by
 rw[ltAt'_eq];refine wpS_bind (wpS_get ?_);show wpS _ _ _ _ (do let x <- elem' (p.map it) i;let y <- elem' (p.map it) j;lt' x y) Q _;refine wpS_bind (aY (by rw[a.sz];exact b) (wpS_bind (aY (by rw[a.sz];exact c) ?_)));exact ml k rfl (a.bd n b) (a.bd n c) (a.ne n b c d) h
theorem yg{p:Array Nat}{a:Array (Nat×Nat×Nat)}{g i j:Nat}{Q:Unit->SortSt->Prop}(h:Q () (S κ it (kas_rev p i j) a g)):wpS (model prog w) A E s (reverseSlice' i j) Q (S κ it p a g):=by
 rw[reverseSlice'_eq];refine wpS_modify ?_;have b:mirror (p.map it) i j ((j - i)/2)=(mirror p i j ((j - i)/2)).map it:=kas_swaps_map it (λk=>i+k) (λk=>j - 1 - k) _ p;show Q () (SortSt.mk' κ (mirror (p.map it) i j ((j - i)/2)) a g none);rw[b];exact h
theorem wc{p:Array Nat}{a:Array (Nat×Nat×Nat)}{g k l:Nat}{Q:Unit->SortSt->Prop}(h:Q () (S κ it (bubble p k (k - l)) a g)):wpS (model prog w) A E s (moveDown' k l) Q (S κ it p a g):=by
 rw[moveDown'_eq];refine wpS_modify ?_;have b:bubble (p.map it) k (k - l)=(bubble p k (k - l)).map it:=kas_swaps_map it (λi=>k - i) (λi=>k - i - 1) _ p;show Q () (SortSt.mk' κ (bubble (p.map it) k (k - l)) a g none);rw[b];exact h
theorem v3{p:Array Nat}{lo m:Nat}(h:Up p lo m)(d:lo+1<=m)(c:e p (m - 1)<e p m):Up p lo (m+1):=by
 intro i j b a f
 by_cases c1:j<m
 .exact h i j b a c1
 .have:j=m:=by lia
  subst this
  by_cases c2:i=j - 1
  .rw[c2];exact c
  .exact Nat.lt_trans (h i (j - 1) b (by lia) (by lia)) c
theorem y3{p:Array Nat}{lo:Nat}:Up p lo (lo+1):=λi j b a c=>by lia
theorem sQ(q:fg prog w A s κ it n){p:Array Nat}{k:Array (Nat×Nat×Nat)}{g lo a b:Nat}{Q:Option (Option Nat)×Nat->SortSt->Prop}(o:PV n p)(y:lo+b<=n)(C:1<=a)(v:a<=b)(u:Up p lo (lo+a))
  (h:∀ m,a<=m->m<=b->Up p lo (lo+m)->(m<b->e p (lo+m)<e p (lo+m - 1))->Q (none,m) (S κ it p k g)) :
  wpS (model prog w) A E s (forIn [a:b] ((none,a):Option (Option Nat)×Nat) λ_ __s=>do
   let __x <- ltAt' (lo+__s.snd) (lo+__s.snd - 1)
   match __x with
   | some smaller=>if smaller=true then pure (ForInStep.done (none,__s.snd)) else pure (ForInStep.yield (none,__s.snd+1))
   | _=>pure (ForInStep.done (some none,__s.snd))) Q (S κ it p k g):=by
 refine wpS_forRange (I:=λx c f=>f=S κ it p k g/\c=(none,x)/\Up p lo (lo+x)) ?step ?fin ⟨rfl,rfl,u⟩
 case fin =>
  rintro c f ⟨rfl,rfl,d⟩;rw[show max a b=b by lia]at d ⊢;exact h b v (Nat.le_refl _) d (λz=>absurd z (Nat.lt_irrefl _))
 case step =>
  rintro x c f l r ⟨rfl,rfl,d⟩;dsimp only;refine wpS_bind (fW q o (by lia) (by lia) (by lia) ?_)
  by_cases c:e p (lo+x)<e p (lo+x - 1)
  .rw[decide_eq_true c]
   exact wpS_pure (h x l (by lia) d (λ_=>c))
  .rw[decide_eq_false c]
   have B:=o.ne n (i:=lo+x) (j:=lo+x - 1) (by lia) (by lia) (by lia);exact wpS_pure ⟨rfl,rfl,v3 (m:=lo+x) d (by lia) (by lia)⟩
def Dn(p:Array Nat)(lo hi:Nat):Prop:=∀ i j,lo<=i->i<j->j<hi->e p j<e p i
theorem qA{p:Array Nat}{lo m:Nat}(h:Dn p lo m)(d:lo+1<=m)(c:e p m<e p (m - 1)):Dn p lo (m+1):=by
 intro i j b a f
 by_cases c1:j<m
 .exact h i j b a c1
 .have:j=m:=by lia
  subst this
  by_cases c2:i=j - 1
  .rw[c2];exact c
  .exact Nat.lt_trans c (h i (j - 1) b (by lia) (by lia))
theorem ya{p:Array Nat}{lo m:Nat}(a:m<=p.size)(h:Dn p lo m):Up (kas_rev p lo m) lo m:=by
 intro i j c b d;rw[fj a,fj a,if_pos (by lia),if_pos (by lia)];exact h _ _ (by lia) (by lia) (by lia)
theorem uW(l:fg prog w A s κ it n){p:Array Nat}{o:Array (Nat×Nat×Nat)}{g lo a:Nat}{Q:Option Nat->SortSt->Prop}(d:PV n p)(B:lo+a<=n)(G:1<=a)
  (h:∀ m p',PV n p'->1<=m->m<=a->Up p' lo (lo+m)->(∀ k,k<lo->e p' k=e p k)->Q (some m) (S κ it p' o g)) :
  wpS (model prog w) A E s (countRun' lo a) Q (S κ it p o g):=by
 rw[countRun'_eq];refine wpS_bind (sQ l d B (Nat.le_refl 1) G y3 λm z q u v=>?_);dsimp only
 by_cases c0:m=a
 .rw[if_pos (by simpa using c0)]
  exact wpS_pure (h m p d z q u λ_ _=>rfl)
 rw[if_neg (by simpa using c0)]
 by_cases c1:m > 1
 .rw[if_pos c1]
  refine wpS_bind (fW l d (by lia) (by lia) (by lia) ?_);rw[decide_eq_true (u lo (lo+m - 1) (by lia) (by lia) (by lia))];exact wpS_pure (h m p d z q u λ_ _=>rfl)
 rw[if_neg c1];obtain rfl:m=1:=by lia
 have v:=v (by lia);refine wpS_bind (wpS_lift (wpAny_rule ⟨rfl,?_⟩));refine wpS_bind (wpS_mono (wpS_forRange (I:=λx c b=>b=S κ it p o g/\c=(none,x,0)/\Dn p lo (lo+x)) (Q:=λc b=>b=S κ it p o g/\∃ x,c=(none,x,0)/\1<=x/\x<=a/\Dn p lo (lo+x)) ?step ?fin ⟨rfl,rfl,?ini⟩) ?post)
 case ini=>exact qA (m:=lo+1) (λi j N L R=>by lia) (by lia) v
 case fin =>
  rintro c b ⟨rfl,rfl,f⟩;rw[show max (1+1) a=a by lia]at f ⊢;exact⟨rfl,a,rfl,by lia,Nat.le_refl _,f⟩
 case step =>
  rintro x c b H F ⟨rfl,rfl,f⟩;dsimp only;refine wpS_bind (fW l d (by lia) (by lia) (by lia) ?_)
  by_cases c:e p (lo+x)<e p (lo+x - 1)
  .rw[decide_eq_true c]
   exact wpS_pure ⟨rfl,rfl,qA (m:=lo+x) f (by lia) c⟩
  .rw[decide_eq_false c]
   have M:=d.ne n (i:=lo+x) (j:=lo+x - 1) (by lia) (by lia) (by lia);refine wpS_bind (fW l d (by lia) (by lia) (by lia) ?_);rw[decide_eq_true (show e p (lo+x - 1)<e p (lo+x) by lia)];exact wpS_pure ⟨rfl,x,rfl,by lia,by lia,f⟩
 case post =>
  rintro c b ⟨rfl,x,rfl,C,K,f⟩;dsimp only;rw[if_neg (by lia)];have y:lo+x<=p.size:=by rw[d.sz];lia
  refine wpS_bind (yg ?_);refine wpS_bind (sQ l (d.rev n _ _) B C K (ya y f) λq P D r _=>?_);refine wpS_pure (h q _ (d.rev n _ _) (by lia) D r λk T=>?_);rw[fj y,if_neg (by lia)]
theorem PV.bub{p:Array Nat}(h:PV n p)(k d:Nat):PV n (bubble p k d):=⟨by rw[bubble_size];exact h.sz,(Array.perm_iff_toList_perm.mp (bubble_perm p k d)).trans h.pm⟩
theorem su(R:fg prog w A s κ it n){p:Array Nat}{B:Array (Nat×Nat×Nat)}{g lo m y:Nat}{Q:Bool->SortSt->Prop}(W:PV n p)(hn:lo+m<=n)(K:y<=m)(F:1<=y)(N:Up p lo (lo+y))
  (h:∀ p',PV n p'->Up p' lo (lo+m)->(∀ k,k<lo->e p' k=e p k)->Q true (S κ it p' B g)):wpS (model prog w) A E s (binarySort' lo m y) Q (S κ it p B g):=by
 rw[binarySort'_eq]
 refine wpS_bind (wpS_mono (wpS_forRange (I:=λk c o=>c=(none,())/\∃ p',o=S κ it p' B g/\PV n p'/\Up p' lo (lo+min k m)/\∀ k,k<lo->e p' k=e p k)
  (Q:=λc o=>c=(none,())/\∃ p',o=S κ it p' B g/\PV n p'/\Up p' lo (lo+m)/\∀ k,k<lo->e p' k=e p k) ?step ?fin ?init) ?post)
 case post =>
  rintro c o ⟨rfl,p',rfl,d,b,u⟩;exact wpS_pure (h p' d b u)
 case init=>exact⟨rfl,p,rfl,W,by rw[show min (max y 1) m=y by lia];exact N,λ_ _=>rfl⟩
 case fin =>
  rintro c o ⟨C,p',T,d,b,u⟩;rw[show min (max (max y 1) m) m=m by lia]at b;exact⟨C,p',T,d,b,u⟩
 case step =>
  rintro k c o P H ⟨rfl,p',rfl,d,b,u⟩;rw[show min k m=k by lia]at b
  refine wpS_bind (wpS_mono (wpS_forRange (I:=λx c a=>a=S κ it p' B g/\∃ l r,c=(none,l,r)/\l<=r/\r<=k/\r - l<=k - x/\(∀ i,i<l->e p' (lo+i)<e p' (lo+k))/\(∀ i,r<=i->i<k->e p' (lo+k)<e p' (lo+i)))
   (Q:=λc a=>a=S κ it p' B g/\∃ l r,c=(none,l,r)/\l<=k/\(∀ i,i<l->e p' (lo+i)<e p' (lo+k))/\(∀ i,l<=i->i<k->e p' (lo+k)<e p' (lo+i))) ?istep ?ifin ?iinit) ?ipost)
  case iinit=>exact⟨rfl,0,k,rfl,by lia,by lia,by lia,λi D=>by lia,λi F L=>by lia⟩
  case ifin =>
   rintro c a ⟨rfl,l,r,rfl,G,z,M,q,f⟩;obtain rfl:l=r:=by lia
   exact⟨rfl,l,l,rfl,z,q,f⟩
  case istep =>
   rintro x c a _ Y ⟨rfl,l,r,rfl,G,z,M,q,f⟩;dsimp only
   by_cases hge:l >= r
   .rw[if_pos hge]
    obtain rfl:l=r:=by lia
    exact wpS_pure ⟨rfl,l,l,rfl,z,q,f⟩
   .rw[if_neg hge]
    refine wpS_bind (fW R d (by lia) (by lia) (by lia) ?_)
    by_cases c:e p' (lo+k)<e p' (lo+(l+r)/2)
    .rw[decide_eq_true c]
     refine wpS_pure ⟨rfl,l,(l+r)/2,rfl,by lia,by lia,by lia,q,λi F L=>?_⟩
     by_cases ci:i=(l+r)/2
     .rw[ci];exact c
     .exact Nat.lt_trans c (b _ _ (by lia) (by lia) (by lia))
    .rw[decide_eq_false c]
     have ne:=d.ne n (i:=lo+k) (j:=lo+(l+r)/2) (by lia) (by lia) (by lia);refine wpS_pure ⟨rfl,(l+r)/2+1,r,rfl,by lia,by lia,by lia,λi F=>?_,f⟩
     by_cases ci:i=(l+r)/2
     .rw[ci];lia
     .have:=b (lo+i) (lo+(l+r)/2) (by lia) (by lia) (by lia)
      lia
  case ipost =>
   rintro c a ⟨rfl,l,r,rfl,Z,q,f⟩;dsimp only;have v:lo+k<p'.size:=by rw[d.sz];lia
   refine wpS_bind (wc (wpS_pure ⟨rfl,_,rfl,PV.bub d _ _,?_,λi D=>?_⟩))
   .rw[show min (k+1) m=k+1 by lia]
    intro i j D X hj;rw[gm v (by lia),gm v (by lia)]
    repeat' split
    all_goals first
     | (exfalso;lia)
     | (have:=q (i - lo) (by lia);rw[show lo+(i - lo)=i by lia]at this;exact this)
     | (have:=f (j - 1 - lo) (by lia) (by lia);rw[show lo+(j - 1 - lo)=j - 1 by lia]at this;exact this)
     | exact b _ _ (by lia) (by lia) (by lia)
   .rw[gm v (by lia),if_neg (by lia),if_neg (by lia)]
    exact u i D
end
def cN:Bool->Keyed->Array Keyed->Nat->Nat->Nat->SM (Option Nat):=sortPriv% PySem.Builtin.gallop
def dS(left:Bool)(key:Keyed)(arr:Array Keyed)(base:Nat)(i:Nat):SM (Option Bool):=do
 let x <- elem' arr (base+i)
 if left then lt' x key else return (<- lt' key x).map (!·)
theorem n9(left:Bool)(c:Keyed)(d:Array Keyed)(b n a:Nat):cN left c d b n a=(do
 let mut lastofs:=0
 let mut ofs:=1
 let mut lo:=0
 let mut hi:=0
 let some right <- dS left c d b a | return none
 if right then
  let maxofs:=n - a
  for _ in [0:n] do
   if ofs >= maxofs then break
   let some more <- dS left c d b (a+ofs) | return none
   if !more then break
   lastofs:=ofs
   ofs:=2*ofs+1
  lo:=a+lastofs+1
  hi:=a+min ofs maxofs
 else
  let maxofs:=a+1
  for _ in [0:n] do
   if ofs >= maxofs then break
   let some found <- dS left c d b (a - ofs) | return none
   if found then break
   lastofs:=ofs
   ofs:=2*ofs+1
  lo:=a+1 - min ofs maxofs
  hi:=a - lastofs
 for _ in [0:n] do
  if lo >= hi then break
  let m:=lo+(hi - lo)/2
  let some more <- dS left c d b m | return none
  if more then lo:=m+1 else hi:=m
 return some hi):=rfl
section
variable {prog:Program}{w:World}{A:Around}{E:Value->Shared->Prop}{s:Shared}{κ:SortKind}{it:Nat->Keyed}{n:Nat}
theorem rX(f:fg prog w A s κ it n){left:Bool}{k:Nat}{p:Array Nat}{a i:Nat}{st:SortSt}{Q:Option Bool->SortSt->Prop}(b:kindOf st=κ)(g:k<n)(l:a+i<p.size)(j:e p (a+i)<n)(d:e p (a+i)≠k)
  (h:Q (some (decide (e p (a+i)<k))) st):wpS (model prog w) A E s (dS left (it k) (p.map it) a i) Q st:=by
 unfold dS;refine wpS_bind (aY l ?_);cases left with
 | true=>exact ml f b j g d h
 | false =>
  refine wpS_bind (ml f b g j d.symm (wpS_pure ?_))
  have:(!decide (k<e p (a+i)))=decide (e p (a+i)<k):=by
   by_cases c:k<e p (a+i)
   .rw[decide_eq_true c,decide_eq_false (by lia)];rfl
   .rw[decide_eq_false c,decide_eq_true (by lia)];rfl
  show Q (some (!decide (k<e p (a+i)))) st;rw[this];exact h
theorem dI(hc:fg prog w A s κ it n){left:Bool}{k:Nat}{p:Array Nat}{a m b:Nat}{st:SortSt}{Q:Option Nat->SortSt->Prop}(X:kindOf st=κ)(hk:k<n)(hsz:a+m<=p.size)(N:∀ i,i<m->e p (a+i)<n/\e p (a+i)≠k)(hu:Up p a (a+m))(hh:b<m)
  (h:∀ r,r<=m->(∀ i,i<r->e p (a+i)<k)->(∀ i,r<=i->i<m->k<e p (a+i))->Q (some r) st):wpS (model prog w) A E s (cN left (it k) (p.map it) a m b) Q st:=by
 have C:∀{i:Nat}{Q:Option Bool->SortSt->Prop},i<m->Q (some (decide (e p (a+i)<k))) st->wpS (model prog w) A E s (dS left (it k) (p.map it) a i) Q st:=λu hq=>rX hc X hk (by lia) (N _ u).1 (N _ u).2 hq
 have D:∀ i j,i<=j->j<m->e p (a+j)<k->e p (a+i)<k:=λi j L W c=>by
  by_cases z:i=j
  .rw[z];exact c
  .exact Nat.lt_trans (hu _ _ (by lia) (by lia) (by lia)) c
 have B:∀ i j,i<=j->j<m->¬e p (a+i)<k->k<e p (a+j):=λi j L W c=>by
  by_cases z:e p (a+j)<k
  .exact absurd (D i j L W z) c
  .have:=(N j W).2;lia
 have F:∀ g u,g<=u->u<=m->(∀ i,i<g->e p (a+i)<k)->(∀ i,u<=i->i<m->k<e p (a+i)) ->
   wpS (model prog w) A E s (forIn [0:m] ((none,g,u):Option (Option Nat)×Nat×Nat) λ_ o=>if o.snd.fst >= o.snd.snd then pure (ForInStep.done (none,o.snd.fst,o.snd.snd)) else do
    let __x <- dS left (it k) (p.map it) a (o.snd.fst+(o.snd.snd - o.snd.fst)/2)
    match __x with
    | some more=>if more=true then pure (ForInStep.yield (none,o.snd.fst+(o.snd.snd - o.snd.fst)/2+1,o.snd.snd)) else pure (ForInStep.yield (none,o.snd.fst,o.snd.fst+(o.snd.snd - o.snd.fst)/2))
    | _=>pure (ForInStep.done (some none,o.snd.fst,o.snd.snd))) (λc f=>f=st/\∃ l r,c=(none,l,r)/\r<=m/\(∀ i,i<r->e p (a+i)<k)/\(∀ i,r<=i->i<m->k<e p (a+i))) st:=by
  intro g u h1 h2 h3 Z;refine wpS_forRange (I:=λx c f=>f=st/\∃ l r,c=(none,l,r)/\l<=r/\r<=m/\r - l<=m - x/\(∀ i,i<l->e p (a+i)<k)/\(∀ i,r<=i->i<m->k<e p (a+i))) ?_ ?_ ⟨rfl,g,u,rfl,h1,h2,by lia,h3,Z⟩
  .rintro x c f _ Y ⟨rfl,l,r,rfl,y,H,v,q,G⟩
   dsimp only
   by_cases c:l >= r
   .rw[if_pos c]
    obtain rfl:l=r:=by lia
    exact wpS_pure ⟨rfl,l,l,rfl,H,q,G⟩
   rw[if_neg c];refine wpS_bind (C (by lia) ?_)
   by_cases c:e p (a+(l+(r - l)/2))<k
   .rw[decide_eq_true c]
    exact wpS_pure ⟨rfl,_,_,rfl,by lia,by lia,by lia,λi u=>D i _ (by lia) (by lia) c,G⟩
   .rw[decide_eq_false c]
    exact wpS_pure ⟨rfl,_,_,rfl,by lia,by lia,by lia,q,λi u K=>B _ i u K c⟩
  .rintro c f ⟨rfl,l,r,rfl,y,H,v,q,G⟩
   rw[show max 0 m=m by lia]at v;obtain rfl:l=r:=by lia
   exact⟨rfl,l,l,rfl,H,q,G⟩
 rw[n9];refine wpS_bind (C hh ?_)
 by_cases c0:e p (a+b)<k
 .rw[decide_eq_true c0]
  dsimp only;rw[if_pos rfl]
  refine wpS_bind (wpS_mono (wpS_forRange (I:=λx c f=>f=st/\∃ g d,c=(none,g,d)/\g<d/\x<d/\b+g<m/\e p (a+(b+g))<k)
   (Q:=λc f=>f=st/\∃ g d,c=(none,g,d)/\g<d/\b+g<m/\e p (a+(b+g))<k/\(m - b<=d\/(b+d<m/\¬e p (a+(b+d))<k))) ?step ?fin ⟨rfl,0,1,rfl,by lia,by lia,by lia,c0⟩) ?post)
  case fin =>
   rintro c f ⟨rfl,g,d,rfl,y,H,v,q⟩;exact⟨rfl,g,d,rfl,y,v,q,.inl (by lia)⟩
  case step =>
   rintro x c f _ Y ⟨rfl,g,d,rfl,y,H,v,q⟩;dsimp only
   by_cases c:d >= m - b
   .rw[if_pos c]
    exact wpS_pure ⟨rfl,g,d,rfl,y,v,q,.inl c⟩
   rw[if_neg c];refine wpS_bind (C (by lia) ?_)
   by_cases c2:e p (a+(b+d))<k
   .rw[decide_eq_true c2]
    exact wpS_pure ⟨rfl,d,2*d+1,rfl,by lia,by lia,by lia,c2⟩
   .rw[decide_eq_false c2]
    exact wpS_pure ⟨rfl,g,d,rfl,y,v,q,.inr ⟨by lia,c2⟩⟩
  case post =>
   rintro c f ⟨rfl,g,d,rfl,y,v,q,G⟩;dsimp only;refine wpS_bind (wpS_mono (F (b+g+1) (b+min d (m - b)) (by lia) (by lia) (λi u=>D i _ (by lia) v q) (λi u K=>?_)) ?_)
   .rcases G with z | ⟨z1,M⟩
    .lia
    .exact B _ i (by lia) K M
   .rintro c f ⟨rfl,l,r,rfl,T,P,R⟩
    exact wpS_pure (h r T P R)
 .rw[decide_eq_false c0]
  dsimp only;rw[if_neg (by simp)]
  refine wpS_bind (wpS_mono (wpS_forRange (I:=λx c f=>f=st/\∃ g d,c=(none,g,d)/\g<d/\x<d/\g<=b/\¬e p (a+(b - g))<k)
   (Q:=λc f=>f=st/\∃ g d,c=(none,g,d)/\g<d/\g<=b/\¬e p (a+(b - g))<k/\(b+1<=d\/(d<=b/\e p (a+(b - d))<k))) ?step ?fin ⟨rfl,0,1,rfl,by lia,by lia,by lia,c0⟩) ?post)
  case fin =>
   rintro c f ⟨rfl,g,d,rfl,y,H,v,q⟩;exact⟨rfl,g,d,rfl,y,v,q,.inl (by lia)⟩
  case step =>
   rintro x c f _ Y ⟨rfl,g,d,rfl,y,H,v,q⟩;dsimp only
   by_cases c:d >= b+1
   .rw[if_pos c]
    exact wpS_pure ⟨rfl,g,d,rfl,y,v,q,.inl c⟩
   rw[if_neg c];refine wpS_bind (C (by lia) ?_)
   by_cases c2:e p (a+(b - d))<k
   .rw[decide_eq_true c2]
    exact wpS_pure ⟨rfl,g,d,rfl,y,v,q,.inr ⟨by lia,c2⟩⟩
   .rw[decide_eq_false c2]
    exact wpS_pure ⟨rfl,d,2*d+1,rfl,by lia,by lia,by lia,c2⟩
  case post =>
   rintro c f ⟨rfl,g,d,rfl,y,v,q,G⟩;dsimp only;refine wpS_bind (wpS_mono (F (b+1 - min d (b+1)) (b - g) (by lia) (by lia) (λi u=>?_) (λi u K=>B _ i (by lia) K q)) ?_)
   .rcases G with z | ⟨z1,M⟩
    .lia
    .exact D i _ (by lia) (by lia) M
   .rintro c f ⟨rfl,l,r,rfl,T,P,R⟩
    exact wpS_pure (h r T P R)
end
structure MI(la lb q:List Nat)(ia ib:Nat):Prop where
 perm:q.Perm (la.take ia++lb.take ib)
 srt:q.Pairwise (· < ·)
 ba:∀ x∈q,∀ y∈la.drop ia,x<y
 bb:∀ x∈q,∀ y∈lb.drop ib,x<y
def Fine(la lb q:List Nat):Prop:=q.Perm (la++lb)/\q.Pairwise (· < ·)
section
variable {la lb q:List Nat}{ia ib:Nat}
theorem rL(l:List Nat)(i k:Nat):l.take (i+k)=l.take i++(l.drop i).take k:=take_add
theorem MI.swap(m:MI la lb q ia ib):MI lb la q ib ia:=⟨m.perm.trans perm_append_comm,m.srt,m.bb,m.ba⟩
theorem MI.addB(m:MI la lb q ia ib)(f:lb.Pairwise (· < ·))(k:Nat)(h:∀ x∈(lb.drop ib).take k,∀ y∈la.drop ia,x<y):MI la lb (q++(lb.drop ib).take k) ia (ib+k):=by
 refine⟨?_,?_,?_,?_⟩
 .rw[rL,<- append_assoc]
  exact m.perm.append_right _
 .rw[pairwise_append]
  exact⟨m.srt,(f.sublist ((take_sublist _ _).trans (drop_sublist _ _))),λx b y a=>m.bb x b y (mem_of_mem_take a)⟩
 .intro x b y a
  rcases mem_append.mp b with z | z
  .exact m.ba x z y a
  .exact h x z y a
 .intro x b y a
  have c:y∈(lb.drop ib).drop k:=by rw[drop_drop];exact a
  rcases mem_append.mp b with z | z
  .exact m.bb x z y (mem_of_mem_drop c)
  .have d:(lb.drop ib).Pairwise (· < ·):=f.sublist (drop_sublist _ _)
   rw[<- take_append_drop k (lb.drop ib),pairwise_append]at d;exact d.2.2 x z y c
theorem MI.addA(m:MI la lb q ia ib)(a:la.Pairwise (· < ·))(k:Nat)(h:∀ x∈(la.drop ia).take k,∀ y∈lb.drop ib,x<y):MI la lb (q++(la.drop ia).take k) (ia+k) ib:=(m.swap.addB a k h).swap
theorem MI.endB(m:MI la lb q ia ib)(f:la.Pairwise (· < ·))(b:lb.Pairwise (· < ·))(h:∀ x∈lb.drop ib,∀ y∈la.drop ia,x<y):Fine la lb (q++lb.drop ib++la.drop ia):=by
 refine⟨?_,?_⟩
 .have d:(la.take ia++lb.take ib++lb.drop ib++la.drop ia).Perm (la++lb):=by
   rw[append_assoc (la.take ia),take_append_drop];refine(perm_append_comm (l₁:=la.take ia++lb) (l₂:=la.drop ia)).trans ?_;rw[<- append_assoc];refine List.Perm.append_right _ (perm_append_comm.trans ?_);rw[take_append_drop]
  exact((m.perm.append_right _).append_right _).trans d
 .rw[pairwise_append,pairwise_append]
  refine⟨⟨m.srt,b.sublist (drop_sublist _ _),m.bb⟩,f.sublist (drop_sublist _ _),λx c y a=>?_⟩
  rcases mem_append.mp c with z | z
  .exact m.ba x z y a
  .exact h x z y a
theorem Fine.swap(h:Fine lb la q):Fine la lb q:=⟨h.1.trans perm_append_comm,h.2⟩
theorem MI.endA(m:MI la lb q ia ib)(b:la.Pairwise (· < ·))(a:lb.Pairwise (· < ·))(h:∀ x∈la.drop ia,∀ y∈lb.drop ib,x<y):Fine la lb (q++la.drop ia++lb.drop ib):=(m.swap.endB a b h).swap
theorem hU{l:List Nat}{i y:Nat}(h:y∈l.drop i):∃ j,i<=j/\j<l.length/\y=e l.toArray j:=by
 obtain⟨j,a,rfl⟩:=mem_iff_getElem.mp h;rw[length_drop]at a;refine⟨i+j,by lia,by lia,?_⟩;unfold e;simp[show i+j<l.length by lia]
theorem dW{l:List Nat}{i k y:Nat}(h:y∈(l.drop i).take k):∃ j,i<=j/\j<i+k/\j<l.length/\y=e l.toArray j:=by
 obtain⟨j,a,rfl⟩:=mem_iff_getElem.mp h;rw[length_take,length_drop]at a;refine⟨i+j,by lia,by lia,by lia,?_⟩;unfold e;simp[show i+j<l.length by lia]
theorem ql{l:List Nat}(h:l.Pairwise (· < ·)):Up l.toArray 0 l.length:=by
 intro i j _ a b;have:=pairwise_iff_getElem.mp h i j (by lia) b a;unfold e;simpa[show i<l.length by lia,b] using this
theorem fi{l:List Nat}{i:Nat}(h:i<l.length):e l.toArray i∈l:=by
 unfold e;simp[h]
theorem cA{l:List Nat}{i:Nat}(h:i<l.length):(l.drop i).take 1=[e l.toArray i]:=by
 rw[List.drop_eq_getElem_cons h];unfold e;simp only[List.getElem?_toArray,List.getElem?_eq_getElem h,Option.getD_some,List.take_succ_cons,take_zero]
end
def jB:Array Keyed->Array Keyed->SM (Array Keyed):=sortPriv% PySem.Builtin.mergeLo
def jj:Array Keyed->Array Keyed->SM (Array Keyed):=sortPriv% PySem.Builtin.mergeHi
def oM(g:Nat):SM Unit:=modify λst=>SortSt.mk' (kindOf st) (arrOf st) (pendingOf st) g (failedOf st)
theorem mJ(a b:Array Keyed):jB a b=(do
 rule "list.sort.merge-lo"
 let total:=a.size+b.size
 let done (out:Array Keyed) (ia ib:Nat):=out++a.extract ia a.size++b.extract ib b.size
 let lastOfA (out:Array Keyed) (ia ib:Nat):=out++b.extract ib b.size++a.extract ia a.size
 let mut out:Array Keyed:=#[<- elem' b 0]
 let mut ia:=0
 let mut ib:=1
 if ib == b.size then return done out ia ib
 if ia+1 == a.size then return lastOfA out ia ib
 let mut minGallop:=gallopOf (<- get)
 for _ in [0:total] do
  let mut acount:=0
  let mut bcount:=0
  for _ in [0:total] do
   let some bWins <- lt' (<- elem' b ib) (<- elem' a ia) | return done out ia ib
   if bWins then
    out:=out.push (<- elem' b ib);ib:=ib+1;bcount:=bcount+1;acount:=0
    if ib == b.size then return done out ia ib
    if bcount >= minGallop then break
   else
    out:=out.push (<- elem' a ia);ia:=ia+1;acount:=acount+1;bcount:=0
    if ia+1 == a.size then return lastOfA out ia ib
    if acount >= minGallop then break
  rule "list.sort.gallop"
  minGallop:=minGallop+1
  for _ in [0:total] do
   if minGallop > 1 then minGallop:=minGallop - 1
   oM minGallop
   let some k <- cN false (<- elem' b ib) a ia (a.size - ia) 0 | return done out ia ib
   acount:=k
   if k > 0 then
    out:=out++a.extract ia (ia+k);ia:=ia+k
    if ia+1 == a.size then return lastOfA out ia ib
    if ia == a.size then return done out ia ib
   out:=out.push (<- elem' b ib);ib:=ib+1
   if ib == b.size then return done out ia ib
   let some k <- cN true (<- elem' a ia) b ib (b.size - ib) 0 | return done out ia ib
   bcount:=k
   if k > 0 then
    out:=out++b.extract ib (ib+k);ib:=ib+k
    if ib == b.size then return done out ia ib
   out:=out.push (<- elem' a ia);ia:=ia+1
   if ia+1 == a.size then return lastOfA out ia ib
   if acount<7 && bcount<7 then break
  minGallop:=minGallop+1
  oM minGallop
 unsupported "internal:list.sort.merge-bound"):=rfl
abbrev oj:=Option (Array Keyed)×Array Keyed×Nat×Nat×Nat×Nat×Nat
def wO(a b out:Array Keyed)(ia ib g ac bc:Nat):SM (ForInStep oj):=do
 let x <- elem' a ia
 if (ia+1+1 == a.size)=true then pure (.done (some (out.push x++b.extract ib b.size++a.extract (ia+1) a.size),out.push x,ia+1,ib,g,ac,bc))
 else if (decide (ac<7) && decide (bc<7))=true then pure (.done (none,out.push x,ia+1,ib,g,ac,bc)) else pure (.yield (none,out.push x,ia+1,ib,g,ac,bc))
def vM(a b out:Array Keyed)(ia ib g ac bc:Nat):SM (ForInStep oj):=do
 let x <- elem' b ib
 if (ib+1 == b.size)=true then pure (.done (some (out.push x++a.extract ia a.size++b.extract (ib+1) b.size),out.push x,ia,ib+1,g,ac,bc)) else do
  let y <- elem' a ia
  let r <- cN true y b (ib+1) (b.size - (ib+1)) 0
  match r with
  | some k =>
   if k > 0 then
    if (ib+1+k == b.size)=true then pure (.done (some (out.push x++b.extract (ib+1) (ib+1+k)++a.extract ia a.size++b.extract (ib+1+k) b.size),out.push x++b.extract (ib+1) (ib+1+k),ia,ib+1+k,g,ac,k))
    else wO a b (out.push x++b.extract (ib+1) (ib+1+k)) ia (ib+1+k) g ac k
   else wO a b (out.push x) ia (ib+1) g ac k
  | _=>pure (.done (some (out.push x++a.extract ia a.size++b.extract (ib+1) b.size),out.push x,ia,ib+1,g,ac,bc))
def loG(a b out:Array Keyed)(ia ib g ac bc:Nat):SM (ForInStep oj):=do
 oM g
 let x <- elem' b ib
 let r <- cN false x a ia (a.size - ia) 0
 match r with
 | some k =>
  if k > 0 then
   if (ia+k+1 == a.size)=true then pure (.done (some (out++a.extract ia (ia+k)++b.extract ib b.size++a.extract (ia+k) a.size),out++a.extract ia (ia+k),ia+k,ib,g,k,bc))
   else if (ia+k == a.size)=true then pure (.done (some (out++a.extract ia (ia+k)++a.extract (ia+k) a.size++b.extract ib b.size),out++a.extract ia (ia+k),ia+k,ib,g,k,bc))
   else vM a b (out++a.extract ia (ia+k)) (ia+k) ib g k bc
  else vM a b out ia ib g k bc
 | _=>pure (.done (some (out++a.extract ia a.size++b.extract ib b.size),out,ia,ib,g,ac,bc))
section
variable {prog:Program}{w:World}{A:Around}{E:Value->Shared->Prop}{s:Shared}{κ:SortKind}{it:Nat->Keyed}{n:Nat}{la lb:List Nat}{p:Array Nat}{pd:Array (Nat×Nat×Nat)}
theorem dB(l:List Nat)(i j:Nat):(l.toArray.map it).extract i j=(((l.drop i).take (j - i)).map it).toArray:=by simp[map_take,map_drop]
theorem fU(q:List Nat)(x:Nat):(q.map it).toArray.push (it x)=((q++[x]).map it).toArray:=by simp
theorem ax(q r:List Nat):(q.map it).toArray++(r.map it).toArray=((q++r).map it).toArray:=by simp
theorem d4(l:List Nat):(l.toArray.map it).size=l.length:=by simp
structure Two(n:Nat)(la lb:List Nat):Prop where
 sa:la.Pairwise (· < ·)
 sb:lb.Pairwise (· < ·)
 na:∀ x∈la,x<n
 nb:∀ x∈lb,x<n
 ne:∀ x∈la,∀ y∈lb,x≠y
def Told(κ:SortKind)(it:Nat->Keyed)(p:Array Nat)(pd:Array (Nat×Nat×Nat))(la lb:List Nat)(st:SortSt)(o:Option (Array Keyed)):Prop:=∃ g,st=S κ it p pd g/\∃ q,o=some ((q.map it).toArray)/\Fine la lb q
theorem iH{g g':Nat}{Q:Unit->SortSt->Prop}(h:Q () (S κ it p pd g')):wpS (model prog w) A E s (oM g') Q (S κ it p pd g):=wpS_modify h
theorem iF{lo:Nat}(T:Two n la lb)(c:∀ y∈lb,y<e la.toArray (la.length - 1)){i j:Nat}(f:i+1=la.length):∀ x∈lb.drop j,∀ y∈la.drop i,x<y:=λx a y b=>by
 obtain⟨k,d,g,rfl⟩:=hU b;rw[show k=la.length - 1 by lia];exact c x (mem_of_mem_drop a)
theorem cV{l m:List Nat}{i j:Nat}(d:m.Pairwise (· < ·))(g:j<m.length){x:Nat}(c:x<e m.toArray j):∀ y∈m.drop j,x<y:=λy a=>by
 obtain⟨k,f,b,rfl⟩:=hU a
 by_cases z:k=j
 .rw[z];exact c
 .exact Nat.lt_trans c (ql d j k (Nat.zero_le _) (by lia) b)
theorem pX(T:Two n la lb)(z:∀ y∈lb,y<e la.toArray (la.length - 1)){q:List Nat}{b a g d j h:Nat}{Q:ForInStep oj->SortSt->Prop}(m:MI la lb q b a)(B:b+1<la.length)(h2:a<lb.length)(r:e la.toArray b<e lb.toArray a)
  (o:∀ c st,Told κ it p pd la lb st c.1->Q (.done c) st)
  (k:∀ q' ia',MI la lb q' ia' a->ia'+1<la.length->b<ia'->Q (.done (none,(q'.map it).toArray,ia',a,g,j,h)) (S κ it p pd d)/\Q (.yield (none,(q'.map it).toArray,ia',a,g,j,h)) (S κ it p pd d)) :
  wpS (model prog w) A E s (wO (la.toArray.map it) (lb.toArray.map it) ((q.map it).toArray) b a g j h) Q (S κ it p pd d):=by
 unfold wO;have f:=m.addA T.sa 1 (by rw[cA (by lia)];intro x u y v;rw[mem_singleton.mp u];exact cV (l:=la) (i:=0) T.sb h2 r y v);rw[cA (by lia)]at f;refine wpS_bind (aY (by simp;lia) ?_);rw[fU,d4,dB,dB,d4,take_of_length_le (by simp),take_of_length_le (by simp)]
 by_cases c:b+1+1=la.length
 .rw[if_pos (by simpa using c)]
  refine wpS_pure (o _ _ ⟨d,rfl,_,by rw[ax,ax],f.endB T.sa T.sb (iF (lo:=0) T z c)⟩)
 .rw[if_neg (by simpa using c)]
  split
  .exact wpS_pure (k _ _ f (by lia) (by lia)).1
  .exact wpS_pure (k _ _ f (by lia) (by lia)).2
theorem jD{l:List Nat}{i:Nat}(h:l.length<=i){P:Nat->Prop}:∀ y∈l.drop i,P y:=λy a=>by rw[List.drop_of_length_le h]at a;cases a
theorem ow{m:List Nat}{k:Nat}(b:k ∉ m)(a:∀ x∈m,x<n){i:Nat}:∀ j,j<m.length - i->e m.toArray (i+j)<n/\e m.toArray (i+j)≠k:=λj c=>by
 have:=fi (l:=m) (i:=i+j) (by lia);exact⟨a _ this,λz=>b (z ▸ this)⟩
theorem iz{m:List Nat}(b:m.Pairwise (· < ·)){i j:Nat}(f:j<=m.length):Up m.toArray i j:=λx y c a d=>ql b x y (Nat.zero_le _) a (by lia)
theorem qS(P:fg prog w A s κ it n)(T:Two n la lb)(L:∀ y∈lb,y<e la.toArray (la.length - 1)){q:List Nat}{b a g f B R:Nat}{Q:ForInStep oj->SortSt->Prop}(m:MI la lb q b a)(G:b+1<la.length)(h2:a<lb.length)(N:e lb.toArray a<e la.toArray b)
  (o:∀ c st,Told κ it p pd la lb st c.1->Q (.done c) st)
  (K:∀ q' ia' ib' bc',MI la lb q' ia' ib'->ia'+1<la.length->ib'<lb.length->b+a<ia'+ib'->Q (.done (none,(q'.map it).toArray,ia',ib',g,B,bc')) (S κ it p pd f)/\Q (.yield (none,(q'.map it).toArray,ia',ib',g,B,bc')) (S κ it p pd f)) :
  wpS (model prog w) A E s (vM (la.toArray.map it) (lb.toArray.map it) ((q.map it).toArray) b a g B R) Q (S κ it p pd f):=by
 unfold vM;have r:=m.addB T.sb 1 (by rw[cA (by lia)];intro x h y u;rw[mem_singleton.mp h];exact cV (l:=la) (i:=0) T.sa (by lia) N y u);rw[cA (by lia)]at r;refine wpS_bind (aY (by simpa using h2) ?_);rw[fU,d4,d4];have D:(la.toArray.map it).extract b la.length=((la.drop b).map it).toArray:=by rw[dB,take_of_length_le (by simp)]
 have H:∀ j,(lb.toArray.map it).extract j lb.length=((lb.drop j).map it).toArray:=λj=>by rw[dB,take_of_length_le (by simp)]
 by_cases c:a+1=lb.length
 .rw[if_pos (by simpa using c)]
  refine wpS_pure (o _ _ ⟨f,rfl,_,by rw[D,H,ax,ax],r.endA T.sa T.sb (λx h=>jD (by lia))⟩)
 rw[if_neg (by simpa using c)];refine wpS_bind (aY (by simp;lia) ?_);have F:e la.toArray b∈la:=fi (by lia);refine wpS_bind (dI P rfl (T.na _ F) (by simp;lia) (ow (λz=>T.ne _ F _ z rfl) T.nb) (iz T.sb (by lia)) (by lia) λk k1 k2 d=>?_);dsimp only
 by_cases ck:k > 0
 .rw[if_pos ck,dB,ax,show a+1+k - (a+1)=k by lia]
  have I:=r.addB T.sb k (λx h y u=>by
   obtain⟨j,X,Y,W,rfl⟩:=dW h;have:=k2 (j - (a+1)) (by lia);rw[show a+1+(j - (a+1))=j by lia]at this
   exact cV (l:=la) (i:=0) T.sa (by lia) this y u)
  by_cases c2:a+1+k=lb.length
  .rw[if_pos (by simpa using c2)]
   refine wpS_pure (o _ _ ⟨f,rfl,_,by rw[D,H,ax,ax],I.endA T.sa T.sb (λx h=>jD (by lia))⟩)
  .rw[if_neg (by simpa using c2)]
   have d:=d k (Nat.le_refl _) (by lia);exact pX T L I G (by lia) d o λq' ia' C v M=>K q' ia' _ _ C v (by lia) (by lia)
 .rw[if_neg ck]
  have d:=d 0 (by lia) (by lia);exact pX T L r G (by lia) d o λq' ia' C v M=>K q' ia' _ _ C v (by lia) (by lia)
theorem y6(u:fg prog w A s κ it n)(T:Two n la lb)(B:∀ y∈lb,y<e la.toArray (la.length - 1)){q:List Nat}{a d g I M P:Nat}{Q:ForInStep oj->SortSt->Prop}(m:MI la lb q a d)(L:a+1<la.length)(h2:d<lb.length)
  (f:∀ c st,Told κ it p pd la lb st c.1->Q (.done c) st)
  (G:∀ q' ia' ib' ac' bc',MI la lb q' ia' ib'->ia'+1<la.length->ib'<lb.length->a+d<ia'+ib'->Q (.done (none,(q'.map it).toArray,ia',ib',g,ac',bc')) (S κ it p pd g)/\Q (.yield (none,(q'.map it).toArray,ia',ib',g,ac',bc')) (S κ it p pd g)) :
  wpS (model prog w) A E s (loG (la.toArray.map it) (lb.toArray.map it) ((q.map it).toArray) a d g M P) Q (S κ it p pd I):=by
 unfold loG;refine wpS_bind (iH ?_);refine wpS_bind (aY (by simpa using h2) ?_);rw[d4,d4];have C:∀ j,(la.toArray.map it).extract j la.length=((la.drop j).map it).toArray:=λj=>by rw[dB,take_of_length_le (by simp)]
 have F:∀ j,(lb.toArray.map it).extract j lb.length=((lb.drop j).map it).toArray:=λj=>by rw[dB,take_of_length_le (by simp)]
 have D:e lb.toArray d∈lb:=fi h2;refine wpS_bind (dI u rfl (T.nb _ D) (by simp;lia) (ow (λz=>T.ne _ z _ D rfl) T.na) (iz T.sa (by lia)) (by lia) λk k1 k2 b=>?_);dsimp only
 by_cases ck:k > 0
 .rw[if_pos ck,dB,ax,show a+k - a=k by lia]
  have v:=m.addA T.sa k (λx N y H=>by
   obtain⟨j,W,X,R,rfl⟩:=dW N;have:=k2 (j - a) (by lia);rw[show a+(j - a)=j by lia]at this
   exact cV (l:=la) (i:=0) T.sb h2 this y H)
  by_cases c2:a+k+1=la.length
  .rw[if_pos (by simpa using c2)]
   refine wpS_pure (f _ _ ⟨g,rfl,_,by rw[C,F,ax,ax],v.endB T.sa T.sb (iF (lo:=0) T B c2)⟩)
  rw[if_neg (by simpa using c2)]
  by_cases c3:a+k=la.length
  .rw[if_pos (by simpa using c3)]
   refine wpS_pure (f _ _ ⟨g,rfl,_,by rw[C,F,ax,ax],v.endA T.sa T.sb (jD (by lia))⟩)
  rw[if_neg (by simpa using c3)];have b:=b k (Nat.le_refl _) (by lia);exact qS u T B v (by lia) h2 b f λq' ia' ib' bc' r o h K=>G q' ia' ib' _ _ r o h (by lia)
 .rw[if_neg ck]
  have b:=b 0 (by lia) (by lia);exact qS u T B m L h2 b f λq' ia' ib' bc' r o h K=>G q' ia' ib' _ _ r o h (by lia)
end
section
variable {prog:Program}{w:World}{A:Around}{E:Value->Shared->Prop}{s:Shared}{κ:SortKind}{it:Nat->Keyed}{n:Nat}{la lb:List Nat}{p:Array Nat}{pd:Array (Nat×Nat×Nat)}
def wN(κ:SortKind)(it:Nat->Keyed)(p:Array Nat)(pd:Array (Nat×Nat×Nat))(la lb:List Nat)(m:Nat)(c:oj)(st':SortSt):Prop:=∃ q ia2 ib2 g2 g3 ac bc,c=(none,(q.map it).toArray,ia2,ib2,g2,ac,bc)/\st'=S κ it p pd g3/\MI la lb q ia2 ib2/\ia2+1<la.length/\ib2<lb.length/\m<ia2+ib2
theorem oB(ha:fg prog w A s κ it n)(T:Two n la lb)(hl:∀ y∈lb,y<e la.toArray (la.length - 1))(h1:0<la.length)(h2:0<lb.length)(hf:e lb.toArray 0<e la.toArray 0){g:Nat}{Q:Array Keyed->SortSt->Prop}
  (h:∀ q g',Fine la lb q->Q ((q.map it).toArray) (S κ it p pd g')):wpS (model prog w) A E s (jB (la.toArray.map it) (lb.toArray.map it)) Q (S κ it p pd g):=by
 rw[mJ];refine wpS_bind (wpS_lift (wpAny_rule ⟨rfl,?_⟩));dsimp only;refine wpS_bind (aY (by simpa using h2) ?_);have za:(la.toArray.map it).size=la.length:=d4 la;have zb:(lb.toArray.map it).size=lb.length:=d4 lb;have W:∀ j,(la.toArray.map it).extract j (la.toArray.map it).size=((la.drop j).map it).toArray:=λj=>by rw[za,dB,take_of_length_le (by simp)]
 have X:∀ j,(lb.toArray.map it).extract j (lb.toArray.map it).size=((lb.drop j).map it).toArray:=λj=>by rw[zb,dB,take_of_length_le (by simp)]
 have m0:MI la lb [] 0 0:=⟨.refl _,.nil,λx v=>(not_mem_nil v).elim,λx v=>(not_mem_nil v).elim⟩
 have m:=m0.addB T.sb 1 (by rw[cA h2];intro x v y K;rw[mem_singleton.mp v];exact cV (l:=la) (i:=0) T.sa h1 hf y K);rw[cA h2,nil_append,Nat.zero_add]at m;have e0:(#[it (e lb.toArray 0)]:Array Keyed)=([e lb.toArray 0].map it).toArray:=rfl;rw[e0]
 by_cases c:1=lb.length
 .rw[if_pos (by simpa using c)]
  rw[W,X,ax,ax];exact wpS_pure (h _ _ (m.endA T.sa T.sb λx v=>jD (by lia)))
 rw[if_neg (by simpa using c)]
 by_cases c2:0+1=la.length
 .rw[if_pos (by simpa using c2)]
  rw[W,X,ax,ax];exact wpS_pure (h _ _ (m.endB T.sa T.sb (iF (lo:=0) T hl c2)))
 rw[if_neg (by simpa using c2)];refine wpS_bind (wpS_get ?_);refine wpS_bind (wpS_mono (wpS_forRange (I:=λx c a=>∃ q k f g0 G,c=(none,(q.map it).toArray,k,f,g0)/\a=S κ it p pd G/\MI la lb q k f/\k+1<la.length/\f<lb.length/\1+x<=k+f) (Q:=λc a=>Told κ it p pd la lb a c.1) ?step ?fin ⟨_,0,1,_,g,rfl,rfl,m,by lia,by lia,by lia⟩) ?post)
 case post =>
  rintro⟨o,c⟩ a ⟨g',rfl,q,F,R⟩;dsimp only at F ⊢;rw[F];exact wpS_pure (h q g' R)
 case fin =>
  rintro c a ⟨q,k,f,g0,G,rfl,rfl,m,a1,a2,a3⟩;lia
 case step =>
  rintro x c a _ v ⟨q,k,f,g0,G,rfl,rfl,m,a1,a2,a3⟩;dsimp only
  refine wpS_bind (wpS_mono (wpS_forRange (I:=λy c a=>∃ q b d B C,c=(none,(q.map it).toArray,b,d,B,C)/\a=S κ it p pd G/\MI la lb q b d/\b+1<la.length/\d<lb.length/\k+f+y<=b+d)
   (Q:=λc a=>Told κ it p pd la lb a c.1\/∃ q b d B C,c=(none,(q.map it).toArray,b,d,B,C)/\a=S κ it p pd G/\MI la lb q b d/\b+1<la.length/\d<lb.length/\k+f<b+d) ?s1 ?f1 ⟨q,k,f,0,0,rfl,rfl,m,a1,a2,Nat.le_refl _⟩) ?p1)
  case f1 =>
   rintro c a ⟨D,b,d,B,C,rfl,rfl,N,P,L,b3⟩;exact .inr ⟨D,b,d,B,C,rfl,rfl,N,P,L,by lia⟩
  case s1 =>
   rintro y c a _ K ⟨D,b,d,B,C,rfl,rfl,N,P,L,b3⟩;dsimp only;have Z:e la.toArray b∈la:=fi (by lia);have mb:e lb.toArray d∈lb:=fi (by lia);refine wpS_bind (aY (by simpa using L) (wpS_bind (aY (by simp;lia) (wpS_bind (ml ha rfl (T.nb _ mb) (T.na _ Z) (λz=>T.ne _ Z _ mb z.symm) ?_)))));dsimp only
   by_cases c:e lb.toArray d<e la.toArray b
   .rw[decide_eq_true c,if_pos rfl]
    refine wpS_bind (aY (by simpa using L) ?_);have u:=N.addB T.sb 1 (by rw[cA (by lia)];intro x v y K;rw[mem_singleton.mp v];exact cV (l:=la) (i:=0) T.sa (by lia) c y K);rw[cA (by lia)]at u;rw[fU,W,X,ax,ax]
    by_cases c2:d+1=lb.length
    .rw[if_pos (by simpa using c2)]
     exact wpS_pure (.inl ⟨G,rfl,_,rfl,u.endA T.sa T.sb λx v=>jD (by lia)⟩)
    rw[if_neg (by simpa using c2)]
    split
    .exact wpS_pure (.inr ⟨_,_,_,_,_,rfl,rfl,u,P,by lia,by lia⟩)
    .exact wpS_pure ⟨_,_,_,_,_,rfl,rfl,u,P,by lia,by lia⟩
   .rw[decide_eq_false c,if_neg (by simp)]
    refine wpS_bind (aY (by simp;lia) ?_);have ne:=T.ne _ Z _ mb;have u:=N.addA T.sa 1 (by rw[cA (by lia)];intro x v y K;rw[mem_singleton.mp v];exact cV (l:=la) (i:=0) T.sb L (by lia) y K);rw[cA (by lia)]at u;rw[fU,W,X,ax,ax]
    by_cases c2:b+1+1=la.length
    .rw[if_pos (by simpa using c2)]
     exact wpS_pure (.inl ⟨G,rfl,_,rfl,u.endB T.sa T.sb (iF (lo:=0) T hl c2)⟩)
    rw[if_neg (by simpa using c2)]
    split
    .exact wpS_pure (.inr ⟨_,_,_,_,_,rfl,rfl,u,by lia,by lia,by lia⟩)
    .exact wpS_pure ⟨_,_,_,_,_,rfl,rfl,u,by lia,by lia,by lia⟩
  case p1 =>
   rintro c a (⟨g',rfl,D,F,R⟩ | ⟨D,b,d,B,C,rfl,rfl,N,P,L,b3⟩)
   .obtain⟨o,c⟩:=c
    dsimp only at F ⊢;rw[F];exact wpS_pure ⟨g',rfl,D,rfl,R⟩
   dsimp only;refine wpS_bind (wpS_lift (wpAny_rule ⟨rfl,?_⟩))
   refine wpS_bind (wpS_mono (wpS_forRange (I:=λy c a=>wN κ it p pd la lb (k+f) c a)
    (Q:=λc a=>Told κ it p pd la lb a c.1\/wN κ it p pd la lb (k+f) c a) ?s2 ?f2 ⟨D,b,d,_,G,B,C,rfl,rfl,N,P,L,b3⟩) ?p2)
   case f2=>exact λc a z=>.inr z
   case s2 =>
    rintro y c a _ K ⟨q2,H,M,Y,g3,B,C,rfl,rfl,u,d1,d2,d3⟩;dsimp only
    have go:∀ g,wpS (model prog w) A E s (loG (la.toArray.map it) (lb.toArray.map it) ((q2.map it).toArray) H M g B C) (λr a=>match r with | .done c'=>(Told κ it p pd la lb a c'.1\/wN κ it p pd la lb (k+f) c' a) | .yield c'=>wN κ it p pd la lb (k+f) c' a) (S κ it p pd g3):=λg =>
     y6 ha T hl u d1 d2 (λc st z=>.inl z) λq3 ia3 ib3 ac3 bc3 f1 f2 f3 f4=>⟨.inr ⟨q3,ia3,ib3,g,g,ac3,bc3,rfl,rfl,f1,f2,f3,by lia⟩,q3,ia3,ib3,g,g,ac3,bc3,rfl,rfl,f1,f2,f3,by lia⟩
    by_cases cg:Y > 1
    .rw[if_pos cg];exact wpS_mono (go (Y - 1)) λr a z=>by cases r <;> exact z
    .rw[if_neg cg];exact wpS_mono (go Y) λr a z=>by cases r <;> exact z
   case p2 =>
    rintro c a (⟨g',rfl,D,F,R⟩ | ⟨q2,H,M,Y,g3,B,C,rfl,rfl,u,d1,d2,d3⟩)
    .obtain⟨o,c⟩:=c
     dsimp only at F ⊢;rw[F];exact wpS_pure ⟨g',rfl,D,rfl,R⟩
    dsimp only;refine wpS_bind (iH (wpS_pure ⟨q2,H,M,_,_,rfl,rfl,u,d1,d2,by lia⟩))
end
structure MH(la lb r:List Nat)(na nb:Nat):Prop where
 perm:r.Perm (la.drop na++lb.drop nb)
 srt:r.Pairwise (· < ·)
 ba:∀ x∈la.take na,∀ y∈r,x<y
 bb:∀ x∈lb.take nb,∀ y∈r,x<y
section
variable {la lb r:List Nat}{na nb:Nat}
theorem MH.swap(m:MH la lb r na nb):MH lb la r nb na:=⟨m.perm.trans perm_append_comm,m.srt,m.bb,m.ba⟩
theorem sh(l:List Nat){i j:Nat}(h:i<=j)(a:j<=l.length):l.drop i=(l.take j).drop i++l.drop j:=by
 rw[<- List.drop_append_of_le_length (by rw[length_take];lia),take_append_drop]
theorem MH.addA(m:MH la lb r na nb)(g:la.Pairwise (· < ·)){k:Nat}(d:k<=na)(i:na<=la.length)(h:∀ x∈lb.take nb,∀ y∈(la.take na).drop k,x<y):MH la lb ((la.take na).drop k++r) k nb:=by
 refine⟨?_,?_,?_,?_⟩
 .rw[sh la d i,append_assoc]
  exact m.perm.append_left _
 .rw[pairwise_append]
  exact⟨g.sublist ((drop_sublist _ _).trans (take_sublist _ _)),m.srt,λx a y c=>m.ba x (mem_of_mem_drop a) y c⟩
 .intro x a y c
  have b:x∈(la.take na).take k:=by rw[List.take_take,Nat.min_eq_left d];exact a
  rcases mem_append.mp c with z | z
  .have f:(la.take na).Pairwise (· < ·):=g.sublist (take_sublist _ _)
   rw[<- take_append_drop k (la.take na),pairwise_append]at f;exact f.2.2 x b y z
  .exact m.ba x (mem_of_mem_take b) y z
 .intro x a y c
  rcases mem_append.mp c with z | z
  .exact h x a y z
  .exact m.bb x a y z
theorem MH.addB(m:MH la lb r na nb)(a:lb.Pairwise (· < ·)){k:Nat}(b:k<=nb)(c:nb<=lb.length)(h:∀ x∈la.take na,∀ y∈(lb.take nb).drop k,x<y):MH la lb ((lb.take nb).drop k++r) na k:=(m.swap.addA a b c h).swap
theorem MH.endA(m:MH la lb r na nb)(f:la.Pairwise (· < ·))(c:lb.Pairwise (· < ·))(h:∀ x∈la.take na,∀ y∈lb.take nb,x<y):Fine la lb (la.take na++lb.take nb++r):=by
 refine⟨?_,?_⟩
 .refine(m.perm.append_left _).trans ?_
  have b:(la.take na++lb.take nb++(la.drop na++lb.drop nb)).Perm (la.take na++la.drop na++(lb.take nb++lb.drop nb)):=by
   rw[append_assoc,append_assoc];refine List.Perm.append_left _ ?_;rw[<- append_assoc,<- append_assoc];exact List.Perm.append_right _ perm_append_comm
  rw[take_append_drop,take_append_drop]at b;exact b
 .rw[pairwise_append,pairwise_append]
  refine⟨⟨f.sublist (take_sublist _ _),c.sublist (take_sublist _ _),h⟩,m.srt,λx d y a=>?_⟩
  rcases mem_append.mp d with z | z
  .exact m.ba x z y a
  .exact m.bb x z y a
theorem MH.endB(m:MH la lb r na nb)(b:la.Pairwise (· < ·))(a:lb.Pairwise (· < ·))(h:∀ x∈lb.take nb,∀ y∈la.take na,x<y):Fine la lb (lb.take nb++la.take na++r):=(m.swap.endA a b h).swap
theorem jS{l:List Nat}{i y:Nat}(h:y∈l.take i):∃ j,j<i/\j<l.length/\y=e l.toArray j:=by
 obtain⟨j,d,c,b,a⟩:=dW (i:=0) (k:=i) (by rw[drop_zero];exact h);exact⟨j,by lia,b,a⟩
theorem kf{l:List Nat}{i k y:Nat}(h:y∈(l.take i).drop k):∃ j,k<=j/\j<i/\j<l.length/\y=e l.toArray j:=by
 rw[drop_take]at h;obtain⟨j,c,d,b,a⟩:=dW h;exact⟨j,c,by lia,b,a⟩
theorem cG{l:List Nat}{i:Nat}(h:i<l.length):(l.take (i+1)).drop i=[e l.toArray i]:=by
 rw[drop_take,show i+1 - i=1 by lia];exact cA h
theorem dG{m:List Nat}{j:Nat}(d:m.Pairwise (· < ·))(b:j<m.length){x:Nat}(c:e m.toArray j<x):∀ y∈m.take (j+1),y<x:=λy a=>by
 obtain⟨k,f,g,rfl⟩:=jS a
 by_cases z:k=j
 .rw[z];exact c
 .exact Nat.lt_trans (ql d k j (Nat.zero_le _) (by lia) b) c
end
theorem mF(a b:Array Keyed):jj a b=(do
 rule "list.sort.merge-hi"
 let total:=a.size+b.size
 let done (out:Array Keyed) (na nb:Nat):=a.extract 0 na++b.extract 0 nb++out.reverse
 let firstOfB (out:Array Keyed) (na nb:Nat):=b.extract 0 nb++a.extract 0 na++out.reverse
 let mut na:=a.size - 1
 let mut nb:=b.size
 let mut out:Array Keyed:=#[<- elem' a na]
 if na == 0 then return done out na nb
 if nb == 1 then return firstOfB out na nb
 let mut minGallop:=gallopOf (<- get)
 for _ in [0:total] do
  let mut acount:=0
  let mut bcount:=0
  for _ in [0:total] do
   let some aWins <- lt' (<- elem' b (nb - 1)) (<- elem' a (na - 1)) | return done out na nb
   if aWins then
    na:=na - 1;out:=out.push (<- elem' a na);acount:=acount+1;bcount:=0
    if na == 0 then return done out na nb
    if acount >= minGallop then break
   else
    nb:=nb - 1;out:=out.push (<- elem' b nb);bcount:=bcount+1;acount:=0
    if nb == 1 then return firstOfB out na nb
    if bcount >= minGallop then break
  rule "list.sort.gallop"
  minGallop:=minGallop+1
  for _ in [0:total] do
   if minGallop > 1 then minGallop:=minGallop - 1
   oM minGallop
   let some at_ <- cN false (<- elem' b (nb - 1)) a 0 na (na - 1) | return done out na nb
   let k:=na - at_
   acount:=k
   if k > 0 then
    out:=out++(a.extract at_ na).reverse;na:=at_
    if na == 0 then return done out na nb
   nb:=nb - 1;out:=out.push (<- elem' b nb)
   if nb == 1 then return firstOfB out na nb
   let some at_ <- cN true (<- elem' a (na - 1)) b 0 nb (nb - 1) | return done out na nb
   let k:=nb - at_
   bcount:=k
   if k > 0 then
    out:=out++(b.extract at_ nb).reverse;nb:=at_
    if nb == 1 then return firstOfB out na nb
    if nb == 0 then return done out na nb
   na:=na - 1;out:=out.push (<- elem' a na)
   if na == 0 then return done out na nb
   if acount<7 && bcount<7 then break
  minGallop:=minGallop+1
  oM minGallop
 unsupported "internal:list.sort.merge-bound"):=rfl
abbrev oE:=Option (Array Keyed)×Nat×Nat×Array Keyed×Nat×Nat×Nat
def vV(a b out:Array Keyed)(na nb g ac bc:Nat):SM (ForInStep oE):=do
 let x <- elem' a (na - 1)
 if (na - 1 == 0)=true then pure (.done (some (a.extract 0 (na - 1)++b.extract 0 nb++(out.push x).reverse),na - 1,nb,out.push x,g,ac,bc))
 else if (decide (ac<7) && decide (bc<7))=true then pure (.done (none,na - 1,nb,out.push x,g,ac,bc)) else pure (.yield (none,na - 1,nb,out.push x,g,ac,bc))
def wK(a b out:Array Keyed)(na nb g ac bc:Nat):SM (ForInStep oE):=do
 let x <- elem' b (nb - 1)
 if (nb - 1 == 1)=true then pure (.done (some (b.extract 0 (nb - 1)++a.extract 0 na++(out.push x).reverse),na,nb - 1,out.push x,g,ac,bc)) else do
  let y <- elem' a (na - 1)
  let r <- cN true y b 0 (nb - 1) (nb - 1 - 1)
  match r with
  | some at_ =>
   if nb - 1 - at_ > 0 then
    if (at_ == 1)=true then pure (.done (some (b.extract 0 at_++a.extract 0 na++(out.push x++(b.extract at_ (nb - 1)).reverse).reverse),na,at_,out.push x++(b.extract at_ (nb - 1)).reverse,g,ac,nb - 1 - at_))
    else if (at_ == 0)=true then pure (.done (some (a.extract 0 na++b.extract 0 at_++(out.push x++(b.extract at_ (nb - 1)).reverse).reverse),na,at_,out.push x++(b.extract at_ (nb - 1)).reverse,g,ac,nb - 1 - at_))
    else vV a b (out.push x++(b.extract at_ (nb - 1)).reverse) na at_ g ac (nb - 1 - at_)
   else vV a b (out.push x) na (nb - 1) g ac (nb - 1 - at_)
  | _=>pure (.done (some (a.extract 0 na++b.extract 0 (nb - 1)++(out.push x).reverse),na,nb - 1,out.push x,g,ac,bc))
def hiG(a b out:Array Keyed)(na nb g ac bc:Nat):SM (ForInStep oE):=do
 oM g
 let x <- elem' b (nb - 1)
 let r <- cN false x a 0 na (na - 1)
 match r with
 | some at_ =>
  if na - at_ > 0 then
   if (at_ == 0)=true then pure (.done (some (a.extract 0 at_++b.extract 0 nb++(out++(a.extract at_ na).reverse).reverse),at_,nb,out++(a.extract at_ na).reverse,g,na - at_,bc))
   else wK a b (out++(a.extract at_ na).reverse) at_ nb g (na - at_) bc
  else wK a b out na nb g (na - at_) bc
 | _=>pure (.done (some (a.extract 0 na++b.extract 0 nb++out.reverse),na,nb,out,g,ac,bc))
section
variable {prog:Program}{w:World}{A:Around}{E:Value->Shared->Prop}{s:Shared}{κ:SortKind}{it:Nat->Keyed}{n:Nat}{la lb:List Nat}{p:Array Nat}{pd:Array (Nat×Nat×Nat)}
def O(it:Nat->Keyed)(r:List Nat):Array Keyed:=(r.reverse.map it).toArray
theorem lA(r:List Nat)(x:Nat):(O it r).push (it x)=O it (x::r):=by simp[O]
theorem xC(l r:List Nat)(i j:Nat):O it r++((l.toArray.map it).extract i j).reverse=O it ((l.take j).drop i++r):=by
 rw[dB,drop_take];simp[O]
theorem g9(r:List Nat):(O it r).reverse=(r.map it).toArray:=by simp[O]
theorem ex0(l:List Nat)(j:Nat):(l.toArray.map it).extract 0 j=((l.take j).map it).toArray:=by rw[dB];rfl
theorem jh{l:List Nat}{P:Nat->Prop}:∀ y∈l.take 0,P y:=λy a=>by rw[take_zero]at a;cases a
theorem gu(c:∀ x∈la,e lb.toArray 0<x){i:Nat}:∀ x∈lb.take 1,∀ y∈la.take i,x<y:=λx a y b=>by
 obtain⟨k,d,f,rfl⟩:=jS a;rw[show k=0 by lia];exact c y (mem_of_mem_take b)
theorem qj(T:Two n la lb){r:List Nat}{a b g d l j:Nat}{Q:ForInStep oE->SortSt->Prop}(m:MH la lb r a b)(B:1<=a)(h:a<=la.length)(h2:2<=b)(z:b<=lb.length)(i:e lb.toArray (b - 1)<e la.toArray (a - 1))
  (q:∀ c st,Told κ it p pd la lb st c.1->Q (.done c) st)
  (o:∀ r' na',MH la lb r' na' b->1<=na'->na'<a->Q (.done (none,na',b,O it r',g,l,j)) (S κ it p pd d)/\Q (.yield (none,na',b,O it r',g,l,j)) (S κ it p pd d)) :
  wpS (model prog w) A E s (vV (la.toArray.map it) (lb.toArray.map it) (O it r) a b g l j) Q (S κ it p pd d):=by
 unfold vV
 obtain⟨a,rfl⟩:∃ k,a=k+1:=⟨a - 1,by lia⟩
 obtain⟨b,rfl⟩:∃ k,b=k+1:=⟨b - 1,by lia⟩
 rw[Nat.add_sub_cancel]at i ⊢;rw[Nat.add_sub_cancel]at i;have f:=m.addA T.sa (k:=a) (by lia) h (by rw[cG (by lia)];intro x u y v;rw[mem_singleton.mp v];exact dG T.sb (by lia) i x u);rw[cG (by lia),singleton_append]at f;refine wpS_bind (aY (by simp;lia) ?_);rw[lA,g9,ex0,ex0,ax,ax]
 by_cases c:a=0
 .rw[if_pos (by simpa using c)]
  subst c;exact wpS_pure (q _ _ ⟨d,rfl,_,rfl,f.endA T.sa T.sb jh⟩)
 .rw[if_neg (by simpa using c)]
  split
  .exact wpS_pure (o _ _ f (by lia) (by lia)).1
  .exact wpS_pure (o _ _ f (by lia) (by lia)).2
theorem AM{m:List Nat}{k:Nat}(b:k ∉ m)(a:∀ x∈m,x<n){i:Nat}(c:i<=m.length):∀ j,j<i->e m.toArray (0+j)<n/\e m.toArray (0+j)≠k:=λj d=>ow (i:=0) b a j (by lia)
theorem pM(P:fg prog w A s κ it n)(T:Two n la lb)(I:∀ x∈la,e lb.toArray 0<x){r:List Nat}{a b g f B R:Nat}{Q:ForInStep oE->SortSt->Prop}(m:MH la lb r a b)(G:1<=a)(h:a<=la.length)(h2:2<=b)(v:b<=lb.length)(H:e la.toArray (a - 1)<e lb.toArray (b - 1))
  (i:∀ c st,Told κ it p pd la lb st c.1->Q (.done c) st)
  (K:∀ r' na' nb' bc',MH la lb r' na' nb'->1<=na'->na'<=la.length->2<=nb'->nb'<=lb.length->na'+nb'<a+b->Q (.done (none,na',nb',O it r',g,B,bc')) (S κ it p pd f)/\Q (.yield (none,na',nb',O it r',g,B,bc')) (S κ it p pd f)) :
  wpS (model prog w) A E s (wK (la.toArray.map it) (lb.toArray.map it) (O it r) a b g B R) Q (S κ it p pd f):=by
 unfold wK
 obtain⟨b,rfl⟩:∃ k,b=k+1:=⟨b - 1,by lia⟩
 rw[Nat.add_sub_cancel]at H ⊢
 have l:=m.addB T.sb (k:=b) (by lia) v (by
  rw[cG (by lia)];intro x o y q;rw[mem_singleton.mp q];refine dG (j:=a - 1) T.sa (by lia) H x ?_
  rw[show a - 1+1=a by lia];exact o)
 rw[cG (by lia),singleton_append]at l;refine wpS_bind (aY (by simp;lia) ?_);rw[lA,g9,ex0,ex0,ax,ax]
 by_cases c:b=1
 .rw[if_pos (by simpa using c)]
  subst c;exact wpS_pure (i _ _ ⟨f,rfl,_,rfl,l.endB T.sa T.sb (gu I)⟩)
 rw[if_neg (by simpa using c)];refine wpS_bind (aY (by simp;lia) ?_);have F:e la.toArray (a - 1)∈la:=fi (by lia);refine wpS_bind (dI P rfl (T.na _ F) (by simp;lia) (AM (λz=>T.ne _ F _ z rfl) T.nb (by lia)) (iz T.sb (by lia)) (by lia) λk k1 d k3=>?_);dsimp only
 by_cases ck:b - k > 0
 .rw[if_pos ck,xC,g9,ex0,ax,ax]
  have D:=l.addB T.sb (k:=k) k1 (by lia) (λx o y q=>by
   obtain⟨j,L,N,W,rfl⟩:=kf q;have:=k3 j L N;rw[Nat.zero_add]at this;refine dG (j:=a - 1) T.sa (by lia) this x ?_
   rw[show a - 1+1=a by lia];exact o)
  by_cases c2:k=1
  .rw[if_pos (by simpa using c2)]
   subst c2;exact wpS_pure (i _ _ ⟨f,rfl,_,rfl,D.endB T.sa T.sb (gu I)⟩)
  rw[if_neg (by simpa using c2)]
  by_cases c3:k=0
  .rw[if_pos (by simpa using c3),ax,ax]
   subst c3;exact wpS_pure (i _ _ ⟨f,rfl,_,rfl,D.endA T.sa T.sb λx o=>jh⟩)
  rw[if_neg (by simpa using c3)];have d:=d (k - 1) (by lia);rw[Nat.zero_add]at d;exact qj T D G h (by lia) (by lia) d i λr' na' C u M=>K r' na' _ _ C u (by lia) (by lia) (by lia) (by lia)
 .rw[if_neg ck]
  have d:=d (b - 1) (by lia);rw[Nat.zero_add]at d;exact qj T l G h (by lia) (by lia) d i λr' na' C u M=>K r' na' _ _ C u (by lia) (by lia) (by lia) (by lia)
theorem yG(F:fg prog w A s κ it n)(T:Two n la lb)(H:∀ x∈la,e lb.toArray 0<x){r:List Nat}{h a g N X Z:Nat}{Q:ForInStep oE->SortSt->Prop}(m:MH la lb r h a)(W:1<=h)(i:h<=la.length)(h2:2<=a)(l:a<=lb.length)
  (o:∀ c st,Told κ it p pd la lb st c.1->Q (.done c) st)
  (K:∀ r' na' nb' ac' bc',MH la lb r' na' nb'->1<=na'->na'<=la.length->2<=nb'->nb'<=lb.length->na'+nb'<h+a->Q (.done (none,na',nb',O it r',g,ac',bc')) (S κ it p pd g)/\Q (.yield (none,na',nb',O it r',g,ac',bc')) (S κ it p pd g)) :
  wpS (model prog w) A E s (hiG (la.toArray.map it) (lb.toArray.map it) (O it r) h a g X Z) Q (S κ it p pd N):=by
 unfold hiG;refine wpS_bind (iH ?_);refine wpS_bind (aY (by simp;lia) ?_);have G:e lb.toArray (a - 1)∈lb:=fi (by lia);refine wpS_bind (dI F rfl (T.nb _ G) (by simp;lia) (AM (λz=>T.ne _ z _ G rfl) T.na (by lia)) (iz T.sa (by lia)) (by lia) λk k1 b k3=>?_);dsimp only
 by_cases ck:h - k > 0
 .rw[if_pos ck,xC,g9,ex0,ex0,ax,ax]
  have I:=m.addA T.sa (k:=k) k1 i (λx Y y M=>by
   obtain⟨j,L,P,j3,rfl⟩:=kf M;have:=k3 j L P;rw[Nat.zero_add]at this;refine dG (j:=a - 1) T.sb (by lia) this x ?_
   rw[show a - 1+1=a by lia];exact Y)
  by_cases c2:k=0
  .rw[if_pos (by simpa using c2)]
   subst c2;exact wpS_pure (o _ _ ⟨g,rfl,_,rfl,I.endA T.sa T.sb jh⟩)
  rw[if_neg (by simpa using c2)];have b:=b (k - 1) (by lia);rw[Nat.zero_add]at b;exact pM F T H I (by lia) (by lia) h2 l b o λD d f bc' C v q u B R=>K D d f _ _ C v q u B (by lia)
 .rw[if_neg ck]
  have b:=b (h - 1) (by lia);rw[Nat.zero_add]at b;exact pM F T H m W i h2 l b o λD d f bc' C v q u B R=>K D d f _ _ C v q u B (by lia)
def wm(κ:SortKind)(it:Nat->Keyed)(p:Array Nat)(pd:Array (Nat×Nat×Nat))(la lb:List Nat)(m:Nat)(c:oE)(st':SortSt):Prop:=∃ r na nb g2 g3 ac bc,c=(none,na,nb,O it r,g2,ac,bc)/\st'=S κ it p pd g3/\MH la lb r na nb/\1<=na/\na<=la.length/\2<=nb/\nb<=lb.length/\na+nb<m
theorem oG(ha:fg prog w A s κ it n)(T:Two n la lb)(hl:∀ y∈lb,y<e la.toArray (la.length - 1))(hf:∀ x∈la,e lb.toArray 0<x)(h1:0<la.length)(h2:0<lb.length){g:Nat}{Q:Array Keyed->SortSt->Prop}
  (h:∀ q g',Fine la lb q->Q ((q.map it).toArray) (S κ it p pd g')):wpS (model prog w) A E s (jj (la.toArray.map it) (lb.toArray.map it)) Q (S κ it p pd g):=by
 rw[mF];refine wpS_bind (wpS_lift (wpAny_rule ⟨rfl,?_⟩));dsimp only;have za:(la.toArray.map it).size=la.length:=d4 la;have zb:(lb.toArray.map it).size=lb.length:=d4 lb;refine wpS_bind (aY (by simp;lia) ?_)
 have m0:MH la lb [] la.length lb.length:=⟨by simp,.nil,λx _ y C=>(not_mem_nil C).elim,λx _ y C=>(not_mem_nil C).elim⟩
 have al:(la.take la.length).drop (la.length - 1)=[e la.toArray (la.length - 1)]:=by
  have:=cG (l:=la) (i:=la.length - 1) (by lia);rw[show la.length - 1+1=la.length by lia]at this;exact this
 have m:=m0.addA T.sa (k:=la.length - 1) (by lia) (Nat.le_refl _) (by rw[al];intro x Y y C;rw[mem_singleton.mp C];exact hl x (mem_of_mem_take Y));rw[al,append_nil]at m;rw[za];have e0:(#[it (e la.toArray (la.length - 1))]:Array Keyed)=O it [e la.toArray (la.length - 1)]:=rfl;rw[e0,zb]
 by_cases c:la.length - 1=0
 .rw[if_pos (by simpa using c)]
  rw[c,g9,ex0,ex0,ax,ax];rw[c]at m;exact wpS_pure (h _ _ (m.endA T.sa T.sb jh))
 rw[if_neg (by simpa using c)]
 by_cases c2:lb.length=1
 .rw[if_pos (by simpa using c2)]
  rw[c2,g9,ex0,ex0,ax,ax];rw[c2]at m;exact wpS_pure (h _ _ (m.endB T.sa T.sb (gu hf)))
 rw[if_neg (by simpa using c2)];refine wpS_bind (wpS_get ?_);refine wpS_bind (wpS_mono (wpS_forRange (I:=λx c a=>∃ r u v g0 G,c=(none,u,v,O it r,g0)/\a=S κ it p pd G/\MH la lb r u v/\1<=u/\u<=la.length/\2<=v/\v<=lb.length/\x+u+v<la.length+lb.length) (Q:=λc a=>Told κ it p pd la lb a c.1) ?step ?fin ⟨_,_,_,_,g,rfl,rfl,m,by lia,by lia,by lia,by lia,by lia⟩) ?post)
 case post =>
  rintro⟨o,c⟩ a ⟨g',rfl,q,K,Z⟩;dsimp only at K ⊢;rw[K];exact wpS_pure (h q g' Z)
 case fin =>
  rintro c a ⟨q,u,v,g0,G,rfl,rfl,m,a1,an,a2,ab,a3⟩;lia
 case step =>
  rintro x c a _ Y ⟨q,u,v,g0,G,rfl,rfl,m,a1,an,a2,ab,a3⟩;dsimp only
  refine wpS_bind (wpS_mono (wpS_forRange (I:=λy c a=>∃ r b d D F,c=(none,b,d,O it r,D,F)/\a=S κ it p pd G/\MH la lb r b d/\1<=b/\b<=la.length/\2<=d/\d<=lb.length/\b+d+y<=u+v)
   (Q:=λc a=>Told κ it p pd la lb a c.1\/∃ r b d D F,c=(none,b,d,O it r,D,F)/\a=S κ it p pd G/\MH la lb r b d/\1<=b/\b<=la.length/\2<=d/\d<=lb.length/\b+d<u+v) ?s1 ?f1 ⟨q,u,v,0,0,rfl,rfl,m,a1,an,a2,ab,Nat.le_refl _⟩) ?p1)
  case f1 =>
   rintro c a ⟨H,b,d,D,F,rfl,rfl,W,X,j,R,f,b3⟩;exact .inr ⟨H,b,d,D,F,rfl,rfl,W,X,j,R,f,by lia⟩
  case s1 =>
   rintro y c a _ C ⟨H,b,d,D,F,rfl,rfl,W,X,j,R,f,b3⟩;dsimp only
   obtain⟨b,rfl⟩:∃ k,b=k+1:=⟨b - 1,by lia⟩
   obtain⟨d,rfl⟩:∃ k,d=k+1:=⟨d - 1,by lia⟩
   rw[Nat.add_sub_cancel,Nat.add_sub_cancel];have ma:e la.toArray b∈la:=fi (by lia);have mb:e lb.toArray d∈lb:=fi (by lia);refine wpS_bind (aY (by simp;lia) (wpS_bind (aY (by simp;lia) (wpS_bind (ml ha rfl (T.nb _ mb) (T.na _ ma) (λz=>T.ne _ ma _ mb z.symm) ?_)))));dsimp only
   by_cases c:e lb.toArray d<e la.toArray b
   .rw[decide_eq_true c,if_pos rfl]
    refine wpS_bind (aY (by simp;lia) ?_);have B:=W.addA T.sa (k:=b) (by lia) j (by rw[cG (by lia)];intro x Y y C;rw[mem_singleton.mp C];exact dG T.sb (by lia) c x Y);rw[cG (by lia),singleton_append]at B;rw[lA,g9,ex0,ex0,ax,ax]
    by_cases c2:b=0
    .rw[if_pos (by simpa using c2)]
     subst c2;exact wpS_pure (.inl ⟨G,rfl,_,rfl,B.endA T.sa T.sb jh⟩)
    rw[if_neg (by simpa using c2)]
    split
    .exact wpS_pure (.inr ⟨_,_,_,_,_,rfl,rfl,B,by lia,by lia,R,f,by lia⟩)
    .exact wpS_pure ⟨_,_,_,_,_,rfl,rfl,B,by lia,by lia,R,f,by lia⟩
   .rw[decide_eq_false c,if_neg (by simp)]
    refine wpS_bind (aY (by simp;lia) ?_);have ne:=T.ne _ ma _ mb;have B:=W.addB T.sb (k:=d) (by lia) f (by rw[cG (by lia)];intro x Y y C;rw[mem_singleton.mp C];exact dG T.sa (by lia) (by lia) x Y);rw[cG (by lia),singleton_append]at B;rw[lA,g9,ex0,ex0,ax,ax]
    by_cases c2:d=1
    .rw[if_pos (by simpa using c2)]
     subst c2;exact wpS_pure (.inl ⟨G,rfl,_,rfl,B.endB T.sa T.sb (gu hf)⟩)
    rw[if_neg (by simpa using c2)]
    split
    .exact wpS_pure (.inr ⟨_,_,_,_,_,rfl,rfl,B,X,j,by lia,by lia,by lia⟩)
    .exact wpS_pure ⟨_,_,_,_,_,rfl,rfl,B,X,j,by lia,by lia,by lia⟩
  case p1 =>
   rintro c a (⟨g',rfl,H,K,Z⟩ | ⟨H,b,d,D,F,rfl,rfl,W,X,j,R,f,b3⟩)
   .obtain⟨o,c⟩:=c
    dsimp only at K ⊢;rw[K];exact wpS_pure ⟨g',rfl,H,rfl,Z⟩
   dsimp only;refine wpS_bind (wpS_lift (wpAny_rule ⟨rfl,?_⟩));refine wpS_bind (wpS_mono (wpS_forRange (I:=λy c a=>wm κ it p pd la lb (u+v) c a) (Q:=λc a=>Told κ it p pd la lb a c.1\/wm κ it p pd la lb (u+v) c a) ?s2 ?f2 ⟨H,b,d,_,G,D,F,rfl,rfl,W,X,j,R,f,b3⟩) ?p2)
   case f2=>exact λc a z=>.inr z
   case s2 =>
    rintro y c a _ C ⟨q2,L,N,g2,g3,D,F,rfl,rfl,B,d1,M,d2,P,d3⟩;dsimp only
    have go:∀ g,wpS (model prog w) A E s (hiG (la.toArray.map it) (lb.toArray.map it) (O it q2) L N g D F) (λr a=>match r with | .done c'=>(Told κ it p pd la lb a c'.1\/wm κ it p pd la lb (u+v) c' a) | .yield c'=>wm κ it p pd la lb (u+v) c' a) (S κ it p pd g3):=λg =>
     yG ha T hf B d1 M d2 P (λc st z=>.inl z) λq3 ia3 ib3 ac3 bc3 f1 f2 f2' f3 f3' f4=>⟨.inr ⟨q3,ia3,ib3,g,g,ac3,bc3,rfl,rfl,f1,f2,f2',f3,f3',by lia⟩,q3,ia3,ib3,g,g,ac3,bc3,rfl,rfl,f1,f2,f2',f3,f3',by lia⟩
    by_cases cg:g2 > 1
    .rw[if_pos cg];exact wpS_mono (go (g2 - 1)) λr a z=>by cases r <;> exact z
    .rw[if_neg cg];exact wpS_mono (go g2) λr a z=>by cases r <;> exact z
   case p2 =>
    rintro c a (⟨g',rfl,H,K,Z⟩ | ⟨q2,L,N,g2,g3,D,F,rfl,rfl,B,d1,M,d2,P,d3⟩)
    .obtain⟨o,c⟩:=c
     dsimp only at K ⊢;rw[K];exact wpS_pure ⟨g',rfl,H,rfl,Z⟩
    dsimp only;exact wpS_bind (iH (wpS_pure ⟨q2,L,N,_,_,rfl,rfl,B,d1,M,d2,P,by lia⟩))
end
def Runs(p:Array Nat):Nat->List (Nat×Nat×Nat)->Nat->Prop
 | lo,[],hi=>lo=hi
 | lo,x::r,hi=>x.1=lo/\1<=x.2.1/\Up p lo (lo+x.2.1)/\Runs p (lo+x.2.1) r hi
theorem Runs.le{p:Array Nat}:∀{l:List (Nat×Nat×Nat)}{lo hi:Nat},Runs p lo l hi->lo+l.length<=hi
 | [],lo,hi,h=>Nat.le_of_eq h
 | x::r,lo,hi,⟨h1,h2,h3,h4⟩=>by have:=Runs.le h4;rw[length_cons];lia
theorem Runs.app{p:Array Nat}:∀{l m:List (Nat×Nat×Nat)}{lo hi:Nat},Runs p lo (l++m) hi↔∃ k,Runs p lo l k/\Runs p k m hi
 | [],m,lo,hi=>⟨λh=>⟨lo,rfl,h⟩,λ⟨k,e,h⟩=>by cases e;exact h⟩
 | x::r,m,lo,hi=>⟨λ⟨c,f,d,g⟩=>by obtain⟨k,a,b⟩:=Runs.app.mp g;exact⟨k,⟨c,f,d,a⟩,b⟩,λ⟨k,⟨c,f,d,a⟩,b⟩=>⟨c,f,d,Runs.app.mpr ⟨k,a,b⟩⟩⟩
theorem Up.congr{p g:Array Nat}{lo b:Nat}(h:Up p lo b)(d:∀ k,lo<=k->k<b->e g k=e p k):Up g lo b:=λi j a c f=>by
 rw[d i a (by lia),d j (by lia) f];exact h i j a c f
theorem Runs.congr{p c:Array Nat}:∀{l:List (Nat×Nat×Nat)}{lo hi:Nat},Runs p lo l hi->(∀ k,lo<=k->k<hi->e c k=e p k)->Runs c lo l hi
 | [],lo,hi,h,_=>h
 | x::r,lo,hi,⟨h1,h2,h3,h4⟩,e1=>⟨h1,h2,h3.congr λk a b=>e1 k a (by have:=h4.le;lia),h4.congr λk a b=>e1 k (by lia) b⟩
theorem mY{p:Array Nat}{i j x:Nat}(b:j<=p.size)(a:x<j - i):e ((p.toList.drop i).take (j - i)).toArray x=e p (i+x):=by
 unfold e;simp[List.getElem?_take,a]
theorem eG{p:Array Nat}{i j:Nat}(a:j<=p.size):((p.toList.drop i).take (j - i)).length=j - i:=by
 rw[length_take,length_drop,Array.length_toList];lia
theorem ph{p:Array Nat}{i j:Nat}(a:j<=p.size)(h:Up p i j):((p.toList.drop i).take (j - i)).Pairwise (· < ·):=by
 rw[pairwise_iff_getElem];intro x y b c d;rw[eG a]at b c;have:=h (i+x) (i+y) (by lia) (by lia) (by lia);rw[<- mY a b,<- mY a c]at this;unfold e at this;simpa[b,c,eG a,show x<p.size - i by lia,show y<p.size - i by lia] using this
theorem dX{p:Array Nat}{i j y:Nat}(b:j<=p.size)(h:y∈(p.toList.drop i).take (j - i)):∃ t,i<=t/\t<j/\y=e p t:=by
 obtain⟨x,a,rfl⟩:=mem_iff_getElem.mp h;rw[eG b]at a;refine⟨i+x,by lia,by lia,?_⟩;rw[<- mY b a];unfold e;simp[a,show x<p.size - i by lia]
theorem uH{a:Nat->Keyed}(p:Array Nat)(i j:Nat):(p.map a).extract i j=((p.toList.drop i).take (j - i)).toArray.map a:=by
 apply Array.toList_inj.mp;simp[map_take,map_drop]
theorem nk{c:Type}(b:Nat):∀(C:List c) (o:Nat) (a:Array c),b+o+C.length<=a.size->((C.zipIdx o).foldl (λa (x:c×Nat)=>a.setIfInBounds (b+x.2) x.1) a).toList=a.toList.take (b+o)++C++a.toList.drop (b+o+C.length)
 | [],o,a,h=>by simp
 | v::C,o,a,h=>by
  rw[length_cons]at h;rw[List.zipIdx_cons,foldl_cons,nk b C (o+1) _ (by simp;lia)];have f:b+o<a.toList.length:=by rw[Array.length_toList];lia
  have d:(a.setIfInBounds (b+o) v).toList=a.toList.set (b+o) v:=by simp
  rw[d,show b+(o+1)=b+o+1 by lia,take_add_one,List.take_set_of_le (Nat.le_refl _)];rw[List.getElem?_set_self f];rw[List.drop_set_of_lt (by lia)];simp only[Option.toList_some,append_assoc,singleton_append,length_cons]
  congr 3
  lia
def put(p:Array Nat)(i:Nat)(C:List Nat):Array Nat:=(p.toList.take i++C++p.toList.drop (i+C.length)).toArray
theorem AT{p:Array Nat}{i:Nat}{C:List Nat}(h:i+C.length<=p.size)(x:Nat):e (put p i C) x=if i<=x/\x<i+C.length then e C.toArray (x - i) else e p x:=by
 unfold e put;have a:(p.toList.take i).length=i:=by rw[length_take,Array.length_toList];lia
 rw[List.getElem?_toArray,append_assoc]
 by_cases c1:x<i
 .rw[if_neg (by lia),List.getElem?_append_left (by lia),List.getElem?_take,if_pos c1]
  simp
 .rw[List.getElem?_append_right (by lia),a]
  by_cases c2:x<i+C.length
  .rw[if_pos (by lia),List.getElem?_append_left (by lia),List.getElem?_toArray]
  .rw[if_neg (by lia),List.getElem?_append_right (by lia),List.getElem?_drop,show i+C.length+(x - i - C.length)=x by lia]
   simp
theorem wB{b:Nat->Keyed}{p:Array Nat}{i:Nat}{C:List Nat}(h:i+C.length<=p.size):(C.map b).toArray.toList.zipIdx.foldl (λa (x:Keyed×Nat)=>a.setIfInBounds (i+x.2) x.1) (p.map b)=(put p i C).map b:=by
 apply Array.toList_inj.mp;rw[toList_toArray,nk i (C.map b) 0 (p.map b) (by simpa using h)];unfold put;simp[map_take,map_drop]
theorem vg{n:Nat}{p:Array Nat}(b:PV n p){i j k:Nat}{C:List Nat}(r:i<=j)(o:j<=k)(d:k<=p.size)(a:C.Perm ((p.toList.drop i).take (j - i)++(p.toList.drop j).take (k - j))):PV n (put p i C)/\i+C.length=k:=by
 have q:C.length=k - i:=by rw[a.length_eq,length_append,eG (by lia),eG d];lia
 have g:p.toList=p.toList.take i++((p.toList.drop i).take (j - i)++(p.toList.drop j).take (k - j))++p.toList.drop (i+C.length):=by
  have l:(p.toList.drop j)=(p.toList.drop i).drop (j - i):=by rw[drop_drop,show i+(j - i)=j by lia]
  have f:(p.toList.drop i).take (j - i)++(p.toList.drop j).take (k - j)=(p.toList.drop i).take (k - i):=by
   rw[l,<- take_add,show j - i+(k - j)=k - i by lia]
  rw[f,q];have h:p.toList.drop (i+(k - i))=(p.toList.drop i).drop (k - i):=by rw[drop_drop]
  rw[h,append_assoc,take_append_drop,take_append_drop]
 have c:(put p i C).toList.Perm p.toList:=by
  refine List.Perm.trans ?_ (.of_eq g.symm);exact(a.append_left _).append_right _
 refine⟨⟨?_,c.trans b.pm⟩,by lia⟩;rw[<- b.sz,<- Array.length_toList,c.length_eq,Array.length_toList]
theorem nE(i:Nat):mergeAt' i=(do
 let s <- get
 let (some (sa,na,power),some (sb,nb,_)):=((pendingOf s)[i]?,(pendingOf s)[i+1]?) | unsupported "internal:list.sort.pending"
 set (SortSt.mk' (kindOf s) (arrOf s) (((pendingOf s).setIfInBounds i (sa,na+nb,power)).eraseIdxIfInBounds (i+1)) (gallopOf s) (failedOf s))
 let some k <- cN false (<- elem' (arrOf s) sb) (arrOf s) sa na 0 | return false
 let (sa,na):=(sa+k,na - k)
 if na == 0 then return true
 let some nb <- cN true (<- elem' (arrOf s) (sa+na - 1)) (arrOf s) sb nb (nb - 1) | return false
 if nb == 0 then return true
 let x:=(arrOf s).extract sa sb
 let y:=(arrOf s).extract sb (sb+nb)
 let merged <- if na<=nb then jB x y else jj x y
 modify λs=>setArr s (merged.toList.zipIdx.foldl (λa (p,j)=>a.setIfInBounds (sa+j) p) (arrOf s))
 return (failedOf (<- get)).isNone):=rfl
theorem wq{σ:Type}{M:Model}{A:Around}{E:Value->Shared->Prop}{s:Shared}{st a:σ}{Q:PUnit->σ->Prop}(h:Q ⟨⟩ a):wpS M A E s (set a:StateT σ Sem PUnit) Q st:=by
 unfold wpS;rw[StateT.run_set];exact wpAny_pure ⟨rfl,h⟩
section
variable {prog:Program}{w:World}{A:Around}{E:Value->Shared->Prop}{s:Shared}{κ:SortKind}{it:Nat->Keyed}{n:Nat}{p:Array Nat}
theorem se{c:Type}(a:List c)(x y z:c)(b:List c):(((a++x::y::b).toArray.setIfInBounds a.length z).eraseIdxIfInBounds (a.length+1))=(a++z::b).toArray:=by
 apply Array.toList_inj.mp
 have d:((a++x::y::b).toArray.setIfInBounds a.length z)=(a++z::y::b).toArray:=by
  apply Array.toList_inj.mp;simp
 rw[d];unfold Array.eraseIdxIfInBounds;rw[dif_pos (by simp)];simp[List.eraseIdx_append_of_length_le]
theorem o6(hc:fg prog w A s κ it n)(hp:PV n p){o B:List (Nat×Nat×Nat)}{d f sb l v L g r:Nat}{Q:Bool->SortSt->Prop}(hr:Runs p 0 (o++(d,f,v)::(sb,l,L)::B) r)(hn:r<=n)
  (h:∀ p' g',PV n p'->Runs p' 0 (o++(d,f+l,v)::B) r->(∀ k,r<=k->e p' k=e p k)->Q true (S κ it p' (o++(d,f+l,v)::B).toArray g')) :
  wpS (model prog w) A E s (mergeAt' o.length) Q (S κ it p (o++(d,f,v)::(sb,l,L)::B).toArray g):=by
 obtain⟨k0,a4,e1,q1,Z,e2,q2,X,ac⟩:=Runs.app.mp hr;dsimp only at e1 q1 Z e2 q2 X ac;subst e1;subst e2;have a5:=ac.le;have hz:=hp.sz
 have al:∀ p' g',PV n p'->(∀ k,k<d->e p' k=e p k)->(∀ k,d+f+l<=k->e p' k=e p k)->Up p' d (d+f+l)->Q true (S κ it p' (o++(d,f+l,v)::B).toArray g'):=λp' g' M o1 o2 hu=>by
  refine h p' g' M (Runs.app.mpr ⟨d,a4.congr λk _ hk=>o1 k hk,rfl,by show 1<=f+l;lia,?_,?_⟩) λk hk=>o2 k (by lia)
  .show Up p' d (d+(f+l));rw[<- Nat.add_assoc];exact hu
  .show Runs p' (d+(f+l)) B r;rw[<- Nat.add_assoc];exact ac.congr λk hk _=>o2 k hk
 rw[nE];refine wpS_bind (wpS_get ?_)
 have g1:(pendingOf (S κ it p (o++(d,f,v)::(d+f,l,L)::B).toArray g))[o.length]? = some (d,f,v):=by
  show(o++(d,f,v)::(d+f,l,L)::B).toArray[o.length]? = _;simp
 have g2:(pendingOf (S κ it p (o++(d,f,v)::(d+f,l,L)::B).toArray g))[o.length+1]? = some (d+f,l,L):=by
  show(o++(d,f,v)::(d+f,l,L)::B).toArray[o.length+1]? = _;simp[List.getElem?_append_right]
 rw[g1,g2];dsimp only;refine wpS_bind (wq ?_);show wpS _ _ _ _ _ Q (SortSt.mk' κ (p.map it) (((o++(d,f,v)::(d+f,l,L)::B).toArray.setIfInBounds o.length (d,f+l,v)).eraseIdxIfInBounds (o.length+1)) g none);rw[se];show wpS _ _ _ _ _ Q (S κ it p (o++(d,f+l,v)::B).toArray g);have ea:arrOf (S κ it p (o++(d,f,v)::(d+f,l,L)::B).toArray g)=p.map it:=rfl;rw[ea];have bd:∀ k,k<n->e p k<n:=λk hk=>hp.bd n hk
 have ne:∀ i j,i<n->j<n->i≠j->e p i≠e p j:=λi j r K q=>hp.ne n r K q
 refine wpS_bind (aY (by lia) ?_);refine wpS_bind (dI hc rfl (bd _ (by lia)) (by lia) (λi r=>⟨bd _ (by lia),ne _ _ (by lia) (by lia) (by lia)⟩) Z (by lia) λk k1 k2 k3=>?_);dsimp only;have ab:∀ t,d<=t->t<d+k->e p t<e p (d+f):=λt a b=>by have:=k2 (t - d) (by lia);rw[show d+(t - d)=t by lia]at this;exact this
 have a1:∀ t,d+k<=t->t<d+f->e p (d+f)<e p t:=λt a b=>by have:=k3 (t - d) (by lia) (by lia);rw[show d+(t - d)=t by lia]at this;exact this
 have D:∀ t,d+f<=t->t<d+f+l->e p (d+f)<=e p t:=λt a b=>by
  by_cases z:t=d+f
  .rw[z];exact Nat.le_refl _
  .exact Nat.le_of_lt (X _ _ (by lia) (by lia) b)
 by_cases c0:f - k=0
 .rw[if_pos (by simpa using c0)]
  refine wpS_pure (al p g hp (λ_ _=>rfl) (λ_ _=>rfl) λi j r q K=>?_)
  by_cases c1:j<d+f
  .exact Z i j r q c1
  .by_cases c2:i<d+f
   .exact Nat.lt_of_lt_of_le (ab i r (by lia)) (D j (by lia) (by lia))
   .exact X i j (by lia) q K
 rw[if_neg (by simpa using c0)];have ek:d+k+(f - k) - 1=d+f - 1:=by lia
 refine wpS_bind (aY (by lia) ?_);rw[ek];refine wpS_bind (dI hc rfl (bd _ (by lia)) (by lia) (λi r=>⟨bd _ (by lia),ne _ _ (by lia) (by lia) (by lia)⟩) X (by lia) λm m1 m2 m3=>?_);dsimp only;have as:∀ t,d+f<=t->t<d+f+m->e p t<e p (d+f - 1):=λt a b=>by have:=m2 (t - (d+f)) (by lia);rw[show d+f+(t - (d+f))=t by lia]at this;exact this
 have H:∀ t,d+f+m<=t->t<d+f+l->e p (d+f - 1)<e p t:=λt a b=>by have:=m3 (t - (d+f)) (by lia) (by lia);rw[show d+f+(t - (d+f))=t by lia]at this;exact this
 have Y:∀ t,d<=t->t<d+f->e p t<=e p (d+f - 1):=λt a b=>by
  by_cases z:t=d+f - 1
  .rw[z];exact Nat.le_refl _
  .exact Nat.le_of_lt (Z _ _ a (by lia) (by lia))
 by_cases c1:m=0
 .rw[if_pos (by simpa using c1)]
  refine wpS_pure (al p g hp (λ_ _=>rfl) (λ_ _=>rfl) λi j r q K=>?_)
  by_cases c2:j<d+f
  .exact Z i j r q c2
  .by_cases c3:i<d+f
   .exact Nat.lt_of_le_of_lt (Y i r c3) (H j (by lia) (by lia))
   .exact X i j (by lia) q K
 rw[if_neg (by simpa using c1)];have s1:d+f<=p.size:=by lia
 have N:d+f+m<=p.size:=by lia
 have P:=eG (p:=p) (i:=d+k) s1;have a3:=eG (p:=p) (i:=d+f) N
 have T:Two n ((p.toList.drop (d+k)).take (d+f - (d+k))) ((p.toList.drop (d+f)).take (d+f+m - (d+f))):=by
  refine⟨ph s1 λi j a b c=>Z i j (by lia) b c,ph N λi j a b c=>X i j a b (by lia),λx R=>?_,λx R=>?_,λx R y hy=>?_⟩
  .obtain⟨t,G,F,rfl⟩:=dX s1 R;exact bd _ (by lia)
  .obtain⟨t,G,F,rfl⟩:=dX N R;exact bd _ (by lia)
  .obtain⟨t,G,F,rfl⟩:=dX s1 R
   obtain⟨u,v1,v2,rfl⟩:=dX N hy;exact ne _ _ (by lia) (by lia) (by lia)
 have hl:∀ y∈(p.toList.drop (d+f)).take (d+f+m - (d+f)),y<e ((p.toList.drop (d+k)).take (d+f - (d+k))).toArray (((p.toList.drop (d+k)).take (d+f - (d+k))).length - 1):=λy hy=>by
  obtain⟨t,G,F,rfl⟩:=dX N hy;rw[P,mY s1 (by lia),show d+k+(d+f - (d+k) - 1)=d+f - 1 by lia];exact as t G F
 have hf:∀ x∈(p.toList.drop (d+k)).take (d+f - (d+k)),e ((p.toList.drop (d+f)).take (d+f+m - (d+f))).toArray 0<x:=λx R=>by
  obtain⟨t,G,F,rfl⟩:=dX s1 R;rw[mY N (by lia)];exact a1 t G F
 have a0:∀ C g',Fine ((p.toList.drop (d+k)).take (d+f - (d+k))) ((p.toList.drop (d+f)).take (d+f+m - (d+f))) C->Q true (S κ it (put p (d+k) C) (o++(d,f+l,v)::B).toArray g'):=λC g' I=>by
  obtain⟨M,an⟩:=vg hp (by lia) (by lia) N I.1;have ep:=AT (p:=p) (i:=d+k) (C:=C) (by lia)
  have a2:∀ x,x<C.length->(∃ t,d+k<=t/\t<d+f/\e C.toArray x=e p t)\/∃ t,d+f<=t/\t<d+f+m/\e C.toArray x=e p t:=λx R=>by
   have:=I.1.mem_iff.mp (fi R)
   rcases mem_append.mp this with z | z
   .exact .inl (dX s1 z)
   .exact .inr (dX N z)
  have uC:=ql I.2;refine al _ g' M (λt ht=>by rw[ep,if_neg (by lia)]) (λt ht=>by rw[ep,if_neg (by lia)]) λi j r q K=>?_
  rw[ep,ep]
  by_cases i1:i<d+k
  .rw[if_neg (show ¬(d+k<=i/\i<d+k+C.length) by lia)]
   by_cases j1:j<d+k
   .rw[if_neg (by lia)];exact Z i j r q (by lia)
   .by_cases j2:j<d+k+C.length
    .rw[if_pos (by lia)]
     rcases a2 (j - (d+k)) (by lia) with⟨t,G,F,et⟩ | ⟨t,G,F,et⟩
     .rw[et];exact Z i t r (by lia) F
     .rw[et];exact Nat.lt_of_lt_of_le (ab i r i1) (D t G (by lia))
    .rw[if_neg (by lia)]
     exact Nat.lt_of_lt_of_le (ab i r i1) (D j (by lia) K)
  .by_cases i2:i<d+k+C.length
   .rw[if_pos (show d+k<=i/\i<d+k+C.length by lia)]
    by_cases j2:j<d+k+C.length
    .rw[if_pos (by lia)]
     exact uC _ _ (Nat.zero_le _) (by lia) (by lia)
    .rw[if_neg (by lia)]
     rcases a2 (i - (d+k)) (by lia) with⟨t,G,F,et⟩ | ⟨t,G,F,et⟩
     .rw[et];exact Nat.lt_of_le_of_lt (Y t (by lia) F) (H j (by lia) K)
     .rw[et];exact X t j G (by lia) K
   .rw[if_neg (show ¬(d+k<=i/\i<d+k+C.length) by lia),if_neg (by lia)]
    exact X i j (by lia) q K
 have W:∀ C g',Fine ((p.toList.drop (d+k)).take (d+f - (d+k))) ((p.toList.drop (d+f)).take (d+f+m - (d+f))) C ->
   wpS (model prog w) A E s (do
    modify λs=>setArr s ((C.map it).toArray.toList.zipIdx.foldl (λa (x:Keyed×Nat)=>a.setIfInBounds (d+k+x.2) x.1) (arrOf s))
    let s <- get
    pure (failedOf s).isNone) Q (S κ it p (o++(d,f+l,v)::B).toArray g'):=λC g' I=>by
  obtain⟨M,an⟩:=vg hp (by lia) (by lia) N I.1;refine wpS_bind (wpS_modify (wpS_bind (wpS_get (wpS_pure ?_))));show Q true (SortSt.mk' κ ((C.map it).toArray.toList.zipIdx.foldl (λa (x:Keyed×Nat)=>a.setIfInBounds (d+k+x.2) x.1) (p.map it)) (o++(d,f+l,v)::B).toArray g' none);rw[wB (by lia)];exact a0 C g' I
 rw[uH,uH]
 by_cases cm:f - k<=m
 .rw[if_pos cm]
  refine wpS_bind (oB hc T hl (by lia) (by lia) (hf _ (fi (by lia))) λC g' I=>W C g' I)
 .rw[if_neg cm]
  refine wpS_bind (oG hc T hl hf (by lia) (by lia) λC g' I=>W C g' I)
end
section
variable {prog:Program}{w:World}{A:Around}{E:Value->Shared->Prop}{s:Shared}{κ:SortKind}{it:Nat->Keyed}{n:Nat}{p:Array Nat}
theorem yf{c:Prop}[Decidable c]{a b m:Nat}(d:a<=m)(h2:b<=m):(if c then a else b)<=m:=by split <;> assumption
theorem yC{b:Type}{l:List b}{i:Nat}(h:i+1<l.length):∃ x y,l=l.take i++x::y::l.drop (i+2)/\(l.take i).length=i:=by
 refine⟨l[i],l[i+1],?_,by rw[length_take];lia⟩;have a:l.drop i=l[i]::l[i+1]::l.drop (i+2):=by rw[List.drop_eq_getElem_cons (by lia),List.drop_eq_getElem_cons h]
 rw[<- a,take_append_drop]
theorem ku(u:fg prog w A s κ it n)(x:PV n p){l:List (Nat×Nat×Nat)}{i g f:Nat}{Q:Bool->SortSt->Prop}(r:Runs p 0 l f)(v:f<=n)(o:i+1<l.length)
  (h:∀ p' l' g',PV n p'->Runs p' 0 l' f->(∀ k,f<=k->e p' k=e p k)->l'.length+1=l.length->Q true (S κ it p' l'.toArray g')) :
  wpS (model prog w) A E s (mergeAt' i) Q (S κ it p l.toArray g):=by
 obtain⟨⟨F,y,z⟩,⟨C,D,B⟩,j,q⟩:=yC o;have d:=congrArg List.length j;rw[length_append,length_cons,length_cons]at d;generalize l.take i=l1 at j q d;generalize l.drop (i+2)=l2 at j d;subst q;subst j;refine o6 u x r v λp' g' a b c=>h p' _ g' a b c ?_
 rw[length_append,length_append,length_cons,length_cons,length_cons];lia
theorem Runs.like{p:Array Nat}:∀{l l':List (Nat×Nat×Nat)}{lo hi:Nat},Runs p lo l hi->l'.map (λx=>(x.1,x.2.1))=l.map (λx=>(x.1,x.2.1))->Runs p lo l' hi
 | [],[],lo,hi,h,_=>h
 | [],y::r,lo,hi,h,q=>by simp at q
 | x::r,[],lo,hi,h,q=>by simp at q
 | x::r,y::r',lo,hi,⟨h1,h2,h3,h4⟩,q=>by
  rw[map_cons,map_cons,List.cons.injEq,Prod.mk.injEq]at q;obtain⟨⟨c,a⟩,b⟩:=q;refine⟨c.trans h1,by rw[a];exact h2,by rw[a];exact h3,by rw[a];exact h4.like b⟩
theorem ny(l:List (Nat×Nat×Nat))(i a:Nat):(l.modify i λ(x:Nat×Nat×Nat)=>(x.1,x.2.1,a)).map (λx=>(x.1,x.2.1))=l.map (λx=>(x.1,x.2.1)):=by
 apply List.ext_getElem?;intro k;rw[List.getElem?_map,List.getElem?_map,List.getElem?_modify];cases l[k]? with
 | none=>rfl
 | some x=>by_cases c:i=k <;> simp[c]
def gi(κ:SortKind)(it:Nat->Keyed)(n lo:Nat)(st:SortSt)(p:Array Nat)(l:List (Nat×Nat×Nat)):Prop:=∃ g,st=S κ it p l.toArray g/\PV n p/\Runs p 0 l lo
theorem md(Y:fg prog w A s κ it n)(hp:PV n p)(hn:1<=n){g:Nat}{Q:Unit->SortSt->Prop}(h:∀ p' pd g',PV n p'->Up p' 0 n->Q () (S κ it p' pd g')) :
  wpS (model prog w) A E s sortRuns' Q (S κ it p #[] g):=by
 rw[sortRuns'_eq];refine wpS_bind (wpS_get ?_);have ab:(arrOf (S κ it p #[] g)).size=n:=by show(p.map it).size=n;rw[Array.size_map];exact hp.sz
 dsimp only;rw[ab];generalize minRun' n n 0=mr;refine wpS_bind (wpS_mono (wpS_forRange (I:=λx c d=>∃ j p' l,c=(none,j)/\gi κ it n j d p' l/\j<=n/\(x<=j\/j=n)) (Q:=λc d=>∃ p' l,c=(none,n)/\gi κ it n n d p' l) ?step ?fin ⟨0,p,[],rfl,⟨g,rfl,hp,rfl⟩,Nat.zero_le _,.inl (Nat.le_refl _)⟩) ?post)
 case fin =>
  rintro c d ⟨j,p',l,rfl,hs,h1,h2⟩;obtain rfl:j=n:=by lia
  exact⟨p',l,rfl,hs⟩
 case step =>
  rintro x c d _ hx ⟨j,p',l,rfl,⟨g',rfl,D,M⟩,h1,h2⟩;dsimp only
  by_cases c:j >= n
  .rw[if_pos c]
   obtain rfl:j=n:=by lia
   exact wpS_pure ⟨p',l,rfl,g',rfl,D,M⟩
  rw[if_neg c];refine wpS_bind (uW Y D (by lia) (by lia) λm p2 N X m2 hu hk=>?_);dsimp only;have R:Runs p2 0 l j:=M.congr λk _ K=>hk k K
  have L:∀{m} {o f q},1<=m->m<=n - j->PV n o->Runs o 0 f j->Up o j (j+m)->∃ lo' p' l,((none,j+m):Option Unit×Nat)=(none,lo')/\gi κ it n lo' (setPending (S κ it o f.toArray q) ((pendingOf (S κ it o f.toArray q)).push (j,m,0))) p' l/\lo'<=n/\(x+1<=lo'\/lo'=n):=λ{m o f q} X m2 a b c =>
   ⟨_,o,f++[(j,m,0)],rfl,⟨q,by show SortSt.mk' κ (o.map it) (f.toArray.push (j,m,0)) q none=SortSt.mk' κ (o.map it) (f++[(j,m,0)]).toArray q none;simp,a,Runs.app.mpr ⟨j,b,rfl,X,c,rfl⟩⟩,by lia,by lia⟩
  by_cases cm:m<mr
  case' pos =>
   rw[if_pos cm];refine wpS_bind (wpS_lift (wpAny_rule ⟨rfl,?_⟩));refine wpS_bind (su Y N (by lia) (by lia) X hu λp3 F C ac=>?_);simp only[Bool.not_true,Bool.false_eq_true,if_false];have G:Runs p3 0 l j:=R.congr λk _ K=>ac k K
   have P:1<=min (n - j) mr:=by lia
   have T:min (n - j) mr<=n - j:=by lia
   obtain⟨m',hm'⟩:∃ m',m'=min (n - j) mr:=⟨_,rfl⟩
   rw[<- hm']at C P T ⊢
  case' neg =>
   rw[if_neg cm];have F:=N;have G:=R;have C:=hu;have P:=X;have T:=m2
   obtain⟨m',hm'⟩:∃ m',m'=m:=⟨_,rfl⟩
   rw[<- hm']at C P T ⊢
  all_goals
   refine wpS_bind (wpS_get ?_);cases hb:(pendingOf (S κ it _ l.toArray g')).back? with
   | none=>exact wpS_bind (wpS_modify (wpS_pure (L P T F G C)))
   | some y =>
    obtain⟨s1,n1,z⟩:=y;dsimp only;generalize power' n (2*s1+n1) (2*s1+n1+n1+m') n=pw;refine wpS_bind (wpS_mono (wpS_forRange (I:=λ_ c d=>c=(none,())/\∃ p' l',gi κ it n j d p' l'/\Up p' j (j+m')) (Q:=λc d=>c=(none,())/\∃ p' l',gi κ it n j d p' l'/\Up p' j (j+m')) ?s1 ?f1 ⟨rfl,_,l,⟨g',rfl,F,G⟩,C⟩) ?p1)
    case f1=>exact λc d z=>z
    case s1 =>
     rintro x c d _ hx ⟨rfl,o,f,⟨q,rfl,v,u⟩,B⟩;refine wpS_bind (wpS_get ?_);have Z:(pendingOf (S κ it o f.toArray q)).size=f.length:=by show f.toArray.size=_;simp
     rw[Z]
     by_cases cs:f.length > 1
     .rw[if_pos cs]
      have eg:(pendingOf (S κ it o f.toArray q))[f.length - 2]? = some (f[f.length - 2]'(by lia)):=by show f.toArray[f.length - 2]? = _;simp
      rw[eg];obtain⟨a1,a2,H⟩:=f[f.length - 2]'(by lia);dsimp only
      by_cases co:H<=pw
      .rw[if_pos co]
       exact wpS_pure ⟨rfl,o,f,⟨q,rfl,v,u⟩,B⟩
      rw[if_neg co];refine wpS_bind (ku Y v u h1 (by lia) λp5 l5 g5 b1 b2 b3 b4=>?_);exact wpS_pure ⟨rfl,p5,l5,⟨g5,rfl,b1,b2⟩,B.congr λk hk _=>b3 k hk⟩
     .rw[if_neg cs]
      exact wpS_pure ⟨rfl,o,f,⟨q,rfl,v,u⟩,B⟩
    case p1 =>
     rintro c d ⟨rfl,o,f,⟨q,rfl,v,u⟩,B⟩;dsimp only;refine wpS_bind (wpS_modify ?_)
     have em:setPending (S κ it o f.toArray q) ((pendingOf (S κ it o f.toArray q)).modify ((pendingOf (S κ it o f.toArray q)).size - 1) λ(x:Nat×Nat×Nat)=>(x.1,x.2.1,pw))=S κ it o (f.modify (f.length - 1) λ(x:Nat×Nat×Nat)=>(x.1,x.2.1,pw)).toArray q:=by
      show SortSt.mk' κ (o.map it) (f.toArray.modify (f.toArray.size - 1) _) q none=SortSt.mk' κ (o.map it) _ q none
      congr 1
      simp
     show wpS _ _ _ _ _ _ (setPending (S κ it o f.toArray q) ((pendingOf (S κ it o f.toArray q)).modify ((pendingOf (S κ it o f.toArray q)).size - 1) λ(x:Nat×Nat×Nat)=>(x.1,x.2.1,pw)));rw[em];exact wpS_bind (wpS_modify (wpS_pure (L P T v (u.like (ny _ _ _)) B)))
 case post =>
  rintro c d ⟨p',l,rfl,g',rfl,D,M⟩;dsimp only;refine wpS_bind (wpS_mono (wpS_forRange (I:=λx c d=>c=(none,())/\∃ p' l,gi κ it n n d p' l/\(l.length+x<=n\/l.length<=1)) (Q:=λc d=>c=(none,())/\∃ p' l,gi κ it n n d p' l/\l.length<=1) ?s1 ?f1 ⟨rfl,p',l,⟨g',rfl,D,M⟩,.inl (by have:=M.le;lia)⟩) ?p1)
  case f1 =>
   rintro c d ⟨rfl,p',l,hs,W⟩;exact⟨rfl,p',l,hs,by lia⟩
  case s1 =>
   rintro x c d _ hx ⟨rfl,o,f,⟨q,rfl,v,u⟩,W⟩;refine wpS_bind (wpS_get ?_);have Z:(pendingOf (S κ it o f.toArray q)).size=f.length:=by show f.toArray.size=_;simp
   rw[Z]
   by_cases cs:f.length<=1
   .rw[if_pos cs]
    exact wpS_pure ⟨rfl,o,f,⟨q,rfl,v,u⟩,cs⟩
   rw[if_neg cs]
   have go:∀ i,i+1<f.length->wpS (model prog w) A E s (do
     let __x <- mergeAt' i
     if (!__x)=true then pure (ForInStep.done (some (),())) else pure (ForInStep.yield (none,()))) (λr d=>match r with | .done c'=>(c'=((none,()):Option Unit×Unit)/\∃ p' l,gi κ it n n d p' l/\l.length<=1) | .yield c'=>(c'=(none,())/\∃ p' l,gi κ it n n d p' l/\(l.length+(x+1)<=n\/l.length<=1))) (S κ it o f.toArray q):=λi hi=>by
    refine wpS_bind (ku Y v u (Nat.le_refl _) hi λp5 l5 g5 b1 b2 b3 b4=>?_);exact wpS_pure ⟨rfl,p5,l5,⟨g5,rfl,b1,b2⟩,by lia⟩
   refine wpS_mono (go _ ?_) λr d z=>by cases r <;> exact z
   exact Nat.lt_of_le_of_lt (Nat.succ_le_succ (yf (m:=f.length - 2) (by lia) (Nat.le_refl _))) (by lia)
  case p1 =>
   rintro c d ⟨rfl,o,f,⟨q,rfl,v,u⟩,W⟩;refine wpS_pure (h o _ q v ?_)
   match f,u,W with
   | [],u,_=>exact absurd (show 0=n from u) (by lia)
   | [y],⟨a1,a2,a3,a4⟩,_ =>
    have a4:0+y.2.1=n:=a4;rw[a4]at a3;exact a3
   | _::_::_,_,W=>exact absurd W (by simp)
end
structure Tot(lt:Nat->Nat->Bool)(n:Nat):Prop where
 asy:∀ i j,i<n->j<n->lt i j=true->lt j i=false
 tr:∀ i j k,i<n->j<n->k<n->lt i j=true->lt j k=true->lt i k=true
 tot:∀ i j,i<n->j<n->i≠j->lt i j=false->lt j i=true
def ins(lt:Nat->Nat->Bool)(x:Nat):List Nat->List Nat
 | []=>[x]
 | y::r=>if lt x y=true then x::y::r else y::ins lt x r
def ordT(lt:Nat->Nat->Bool)(l:List Nat):List Nat:=l.foldr (ins lt) []
theorem jv{lt:Nat->Nat->Bool}{x:Nat}:∀ l:List Nat,(ins lt x l).Perm (x::l)
 | []=>.refl _
 | y::r=>by
  unfold ins
  split
  .exact .refl _
  .exact((jv r).cons y).trans (.swap x y r)
theorem ordT_perm{lt:Nat->Nat->Bool}:∀ l:List Nat,(ordT lt l).Perm l
 | []=>.refl _
 | x::r=>(jv _).trans ((ordT_perm r).cons x)
theorem vw{lt:Nat->Nat->Bool}{n x:Nat}(T:Tot lt n)(a:x<n):∀ l:List Nat,(∀ y∈l,y<n)->x ∉ l->l.Pairwise (λi j=>lt i j=true)->(ins lt x l).Pairwise (λi j=>lt i j=true)
 | [],_,_,_=>List.pairwise_singleton _ _
 | y::r,hl,hn,hp=>by
  have d:=hl y (mem_cons_self ..);obtain⟨b,f⟩:=pairwise_cons.mp hp;unfold ins
  split
  .rename_i c
   refine pairwise_cons.mpr ⟨λz hz=>?_,hp⟩
   rcases mem_cons.mp hz with rfl | hz
   .exact c
   .exact T.tr _ _ _ a d (hl z (mem_cons_of_mem _ hz)) c (b z hz)
  .rename_i c
   refine pairwise_cons.mpr ⟨λz hz=>?_,vw T a r (λz hz=>hl z (mem_cons_of_mem _ hz)) (λz=>hn (mem_cons_of_mem _ z)) f⟩
   rcases mem_cons.mp ((jv r).mem_iff.mp hz) with rfl | hz
   .exact T.tot _ _ a d (λe=>hn (e ▸ mem_cons_self ..)) (by simpa using c)
   .exact b z hz
theorem ordT_pw{lt:Nat->Nat->Bool}{n:Nat}(T:Tot lt n):∀ l:List Nat,(∀ y∈l,y<n)->l.Nodup->(ordT lt l).Pairwise (λi j=>lt i j=true)
 | [],_,_=>.nil
 | x::r,hl,hn=>by
  obtain⟨b,c⟩:=nodup_cons.mp hn;refine vw T (hl x (mem_cons_self ..)) _ (λy a=>hl y (mem_cons_of_mem _ ((ordT_perm r).mem_iff.mp a))) (λz=>b ((ordT_perm r).mem_iff.mp z)) (ordT_pw T r (λy a=>hl y (mem_cons_of_mem _ a)) c)
theorem xU{l:List Nat}(h:l.Nodup){k:Nat}(d:k<l.length):l.idxOf l[k]=k:=by
 have a:l.idxOf l[k]<l.length:=List.idxOf_lt_length_iff.mpr (getElem_mem _);have f:l[l.idxOf l[k]]=l[k]:=List.getElem_idxOf a;have b:=pairwise_iff_getElem.mp h
 rcases Nat.lt_trichotomy (l.idxOf l[k]) k with c | c | c
 .exact absurd f (b _ _ a d c)
 .exact c
 .exact absurd f.symm (b _ _ d a c)
section
variable {prog:Program}{w:World}{A:Around}{E:Value->Shared->Prop}{s:Shared}{κ:SortKind}{lt:Nat->Nat->Bool}{n:Nat}
theorem wp_many{item:Nat->Keyed}(T:Tot lt n)(Z:1<=n)(W:∀ i j,i<n->j<n->i≠j->∀ Q:Bool->Shared->Prop,Q (lt i j) s->wpAny (model prog w) A (keyLt' κ (item i).1 (item j).1) Q (λ_ _=>False) s){Q:Unit->SortSt->Prop}
  (h:∀ st,arrOf st=((ordT lt (List.range n)).map item).toArray->failedOf st=none->Q () st) :
  wpS (model prog w) A E s sortRuns' Q (SortSt.mk' κ ((List.range n).map item).toArray #[] 7 none):=by
 have v:=ordT_perm (lt:=lt) (List.range n);have H:(ordT lt (List.range n)).length=n:=by rw[v.length_eq,length_range]
 have g:(ordT lt (List.range n)).Nodup:=v.nodup_iff.mpr nodup_range;have u:=ordT_pw T (List.range n) (λy D=>mem_range.mp D) nodup_range;have d:∀ y∈ordT lt (List.range n),y<n:=λy D=>mem_range.mp (v.mem_iff.mp D)
 generalize ordT lt (List.range n)=o at v H g u d h
 have I:∀ k,k<n->∃ X:k<o.length,o.getD k 0=o[k]:=λk X=>⟨by omega,by simp[List.getD,show k<o.length by omega]⟩
 have R:fg prog w A s κ (λk=>item (o.getD k 0)) n:=λi j G hj hne Q hq=>by
  obtain⟨l,C⟩:=I i G;obtain⟨f,F⟩:=I j hj;refine W _ _ ?_ ?_ ?_ Q ?_
  .rw[C];exact d _ (getElem_mem _)
  .rw[F];exact d _ (getElem_mem _)
  .rw[C,F]
   intro z
   rcases Nat.lt_or_gt_of_ne hne with c | c
   .exact pairwise_iff_getElem.mp g _ _ l f c z
   .exact pairwise_iff_getElem.mp g _ _ f l c z.symm
  .rw[C,F]
   rcases Nat.lt_or_gt_of_ne hne with c | c
   .rw[pairwise_iff_getElem.mp u _ _ l f c]
    rw[decide_eq_true c]at hq;exact hq
   .rw[T.asy _ _ (d _ (getElem_mem _)) (d _ (getElem_mem _)) (pairwise_iff_getElem.mp u _ _ f l c)]
    rw[decide_eq_false (by omega)]at hq;exact hq
 have M:o.map (λi=>o.idxOf i)=List.range n:=by
  refine ext_getElem (by rw[length_map,length_range,H]) λk q x=>?_
  rw[getElem_map,getElem_range];exact xU g (by rw[length_map]at q;exact q)
 have hp:PV n ((List.range n).map λi=>o.idxOf i).toArray:=by
  refine⟨by simp,?_⟩;rw[toList_toArray];exact(v.symm.map λi=>o.idxOf i).trans (.of_eq M)
 have Y:((List.range n).map item).toArray=((List.range n).map λi=>o.idxOf i).toArray.map (λk=>item (o.getD k 0)):=by
  apply Array.toList_inj.mp;rw[Array.toList_map,toList_toArray,toList_toArray,map_map];refine map_congr_left λi G=>?_
  have N:i∈o:=v.mem_iff.mpr G;have q:o.idxOf i<o.length:=List.idxOf_lt_length_iff.mpr N;show item i=item (o.getD (o.idxOf i) 0);rw[List.getD,List.getElem?_eq_getElem q,Option.getD_some,List.getElem_idxOf q]
 rw[Y];refine md R hp Z λB pd g' r P=>h _ ?_ rfl
 show B.map (λk=>item (o.getD k 0))=(o.map item).toArray
 have L:B.toList=List.range n:=by
  have K:B.toList.Pairwise (· < ·):=by
   have:=ph (p:=B) (i:=0) (j:=n) (by rw[r.sz];exact Nat.le_refl _) P;rw[Nat.sub_zero,drop_zero,take_of_length_le (by rw[Array.length_toList,r.sz];exact Nat.le_refl _)]at this;exact this
  exact r.pm.eq_of_pairwise (le:=(· < ·)) (λa b _ _ q x=>absurd (Nat.lt_trans q x) (Nat.lt_irrefl _)) K List.pairwise_lt_range
 apply Array.toList_inj.mp;rw[Array.toList_map,L,toList_toArray];refine ext_getElem (by rw[length_map,length_range,length_map,H]) λk q x=>?_
 rw[getElem_map,getElem_range,getElem_map];rw[length_map]at x;simp[List.getD,x]
end
end TS
namespace L2
open PySem PySem.Spec PyProof.Rows PySem.W
def fF(lt:Nat->Nat->Bool)(n:Nat):List Nat:=if n<64 then ord lt n else TS.ordT lt (List.range n)
theorem gN{lt:Nat->Nat->Bool}{n:Nat}(T:WSrt.Wk lt n):(fF lt n).Perm (List.range n):=by
 unfold fF
 split
 .exact uY T
 .exact TS.ordT_perm _
theorem m5{lt:Nat->Nat->Bool}{n:Nat}(T:WSrt.Wk lt n)(f:n<64\/TS.Tot lt n):(fF lt n).Pairwise λi j=>lt j i=false:=by
 unfold fF
 split
 .exact wn T
 .rename_i c
  have U:=f.resolve_left c;have h:=TS.ordT_pw U (List.range n) (λy d=>mem_range.mp d) nodup_range;have g:∀ y∈TS.ordT lt (List.range n),y<n:=λy d=>mem_range.mp ((TS.ordT_perm _).mem_iff.mp d)
  exact h.imp_of_mem λ{a b} l k q=>U.asy _ _ (g _ l) (g _ k) q
section
variable {prog:Program}{w:World}{A:Around}{E:Value->Shared->Prop}{s:Shared}{κ:SortKind}{lt:Nat->Nat->Bool}
theorem yY{ks vs:List Value}(f:ks.length=vs.length)(h2:2<=vs.length)(T:WSrt.Wk lt vs.length)(n:vs.length<64\/TS.Tot lt vs.length)
  (r:∀ i j,i<vs.length->j<vs.length->i≠j->∀ C,C (lt i j) s->kas_ask prog w A κ ks i j C s){Q:Unit×SortSt->Shared->Prop}
  (h:∀ st,(arrOf st).map (·.2)=List.toArray ((fF lt vs.length).map λi=>vs.getD i Value.none)->failedOf st=none->Q ((),st) s) :
  wpAny (model prog w) A ((sortRuns').run (SortSt.mk' κ (ks.toArray.zip vs.toArray) #[] 7 none)) Q E s:=by
 by_cases c:vs.length<64
 .obtain⟨p,g,x,v⟩:=WSrt.run_sort lt vs.length T h2
  refine wpAny_mono (kat_run (ks:=ks) (vs:=vs) (Q:=λa d=>d=s/\arrOf a=p.map (kas_item (ks.toArray.zip vs.toArray))/\failedOf a=none) (G:=λq d=>q=p/\d=s)
   f h2 c (λq a d F B y u=>⟨u.2,by rw[B,u.1],y⟩) (WSrt.wp_run lt vs.length (λi j hi hj hn C hC=>r i j hi hj hn C hC) _ (WSrt.In_sort lt vs.length T h2) ⟨g,rfl⟩)) ?_ λ_ _ z=>z
  rintro⟨⟨⟩,a⟩ d ⟨rfl,b,o⟩;refine h a ?_ o;rw[kat_snds f b];unfold fF ord;rw[if_pos c,if_pos h2,g]
 .have D:(ks.toArray.zip vs.toArray).size=vs.length:=by simp[f]
  have l:SortSt.mk' κ (ks.toArray.zip vs.toArray) #[] 7 none=SortSt.mk' κ ((List.range vs.length).map (kas_item (ks.toArray.zip vs.toArray))).toArray #[] 7 none:=by
   have e:=kas_range (ks.toArray.zip vs.toArray);rw[D]at e;rw[<- List.map_toArray,e]
  rw[l];refine wpAny_mono (TS.wp_many (E:=E) (Q:=λ_ st=>Q ((),st) s) (item:=kas_item (ks.toArray.zip vs.toArray)) (n.resolve_left c) (by lia) (λi j hi hj hn Q' k=>?_) λst b o=>h st ?_ o) ?_ λ_ _ z=>z
  .rw[kat_item f,kat_item f]
   exact r i j hi hj hn Q' k
  .have:=kat_snds f (st:=st) (p:=(TS.ordT lt (List.range vs.length)).toArray) (by rw[b,List.map_toArray])
   rw[this];unfold fF;rw[if_neg c]
  .rintro⟨⟨⟩,a⟩ d ⟨rfl,k⟩
   exact k
theorem qG{a:Addr}{vs:List Value}{m:Nat}{κ:SortKind}{lt:Nat->Nat->Bool}{P:PySem.Fin->Shared->Prop}(l:s.heap.get? a=some (seqObj "list" vs.toArray m))(T:WSrt.Wk lt vs.length)(hz:vs.length<16000000)(q:vs.length<64\/TS.Tot lt vs.length)
  (G:2<=vs.length->∀ g,(∀ b o,b≠a->s.heap.get? b=some o->g.get? b=some o)->∀ Q:SortKind->Shared->Prop,Q κ { s with heap:=g }->wpAny (model prog w) A (keyKind' vs.toArray) Q (λ_ _=>False) { s with heap:=g })
  (F:∀ g,(∀ b o,b≠a->s.heap.get? b=some o->g.get? b=some o)->∀ i j,i<vs.length->j<vs.length->i≠j->∀ C,C (lt i j) { s with heap:=g }->kas_ask prog w A κ vs i j C { s with heap:=g })
  (h:P (.done (.ret .none)) { s with heap:=sortedHeap s.heap a vs (List.toArray ((fF lt vs.length).map λi=>vs.getD i Value.none)) }) :
  wpAny (model prog w) A (Builtin.«list.sort» ⟨[.ref a],[]⟩) P E s:=by
 rw[list_sort_plain];have H:a<s.heap.objs.size:=Heap.lt_size l;refine wpAny_bind (listItems_at l rfl (wpAny_bind (listUpdate_at l rfl ?_)))
 obtain⟨c1,ho1⟩:∃ c1,(s.heap.update a (Obj.mapSeq λ_=>(#[]:Array Value))).get? a=some (seqObj "list" #[] c1):=⟨_,get?_update_seq l λ_=>#[]⟩
 refine wpAny_bind (seqEpoch_at ho1 rfl (wpAny_bind (wpAny_newTuple (wpAny_bind (wpAny_newList (wpAny_holding ?_))))));have c:(((s.heap.update a (Obj.mapSeq λ_=>(#[]:Array Value))).push (seqObj "tuple" vs.toArray 0)).push (seqObj "list" #[] 0)).get? a=some (seqObj "list" #[] c1):=Heap.get?_push_of_some _ (Heap.get?_push_of_some _ ho1);have d:∀ b o,b≠a->s.heap.get? b=some o->(((s.heap.update a (Obj.mapSeq λ_=>(#[]:Array Value))).push (seqObj "tuple" vs.toArray 0)).push (seqObj "list" #[] 0)).get? b=some o:=λb o hb e=>Heap.get?_push_of_some _ (Heap.get?_push_of_some _ (by rw[Heap.get?_update_ne _ _ _ _ hb];exact e))
 show wpAny (model prog w) A _ P E { s with heap:=((s.heap.update a (Obj.mapSeq λ_=>(#[]:Array Value))).push (seqObj "tuple" vs.toArray 0)).push (seqObj "list" #[] 0) };dsimp only
 by_cases h2:vs.toArray.size<2
 .rw[if_pos h2,if_pos h2]
  refine wpAny_bind (wpAny_pure ?_);rw[StateT.run_pure];refine wpAny_bind (wpAny_pure ?_);dsimp only;refine wpAny_bind (seqEpoch_at c rfl (wpAny_bind (listUpdate_at c rfl ?_ (hsz2:=by rw[Array.size_map];show(pairsOf vs).size<=_;rw[pairsOf_size,sizeLine_eq];lia))));simp only[bne_self_eq_false,Bool.false_eq_true,if_false];have r:vs.length<2:=by simpa using h2
  have D:fF lt vs.length=List.range vs.length:=by unfold fF ord;rw[if_pos (by lia),if_neg (by lia)]
  rw[D]at h;have k:=kas_range (vs.toArray.zip vs.toArray);rw[show(vs.toArray.zip vs.toArray).size=vs.length by simp]at k;have p:arrOf (SortSt.mk' general' (vs.toArray.zip vs.toArray) #[] 7 none)=(List.toArray (List.range vs.length)).map (kas_item (vs.toArray.zip vs.toArray)):=k.symm;have x:=(kat_snds (ks:=vs) rfl p).symm;rw[show(List.range vs.length).map (λi=>vs.getD i Value.none)=(List.toArray (List.range vs.length)).toList.map (λi=>vs.getD i Value.none) from rfl,x]at h;exact wpAny_pure h
 .rw[if_neg h2,if_neg h2]
  have r:2<=vs.length:=by simpa using h2
  refine wpAny_bind (wpAny_mono (G r _ d (λf u=>f=κ/\u={ s with heap:=((s.heap.update a (Obj.mapSeq λ_=>(#[]:Array Value))).push (seqObj "tuple" vs.toArray 0)).push (seqObj "list" #[] 0) }) ⟨rfl,rfl⟩) (λf s0 hs=>?_) λ_ _ z=>z.elim);obtain⟨rfl,rfl⟩:=hs;refine wpAny_bind (yY rfl r T q (λi j v B I C y=>F _ d i j v B I C y) λst' hout hf=>?_);dsimp only;have n:(List.toArray ((fF lt vs.length).map λi=>vs.getD i Value.none)).size=vs.length:=by rw[size_toArray,length_map,(gN T).length_eq,length_range]
  rw[hout];refine wpAny_bind (seqEpoch_at c rfl (wpAny_bind (listUpdate_at c rfl ?_ (hsz2:=Nat.le_trans (Nat.le_of_eq n) (by rw[sizeLine_eq];lia)))));rw[hf];simp only[bne_self_eq_false,Bool.false_eq_true,if_false];exact wpAny_pure h
theorem vv{l:Addr}{vs:List Value}{κ:SortKind}{lt:Nat->Nat->Bool}{Q:Value->Shared->Prop}(r:s.heap.IsList l vs.toArray)(T:WSrt.Wk lt vs.length)(hz:vs.length<16000000)(f:vs.length<64\/TS.Tot lt vs.length)
  (p:2<=vs.length->∀ g,(∀ b o,s.heap.get? b=some o->g.get? b=some o)->∀ Q:SortKind->Shared->Prop,Q κ { s with heap:=g }->wpAny (model prog w) A.in1.in1 (keyKind' vs.toArray) Q (λ_ _=>False) { s with heap:=g })
  (x:∀ g,(∀ b o,s.heap.get? b=some o->g.get? b=some o)->∀ i j,i<vs.length->j<vs.length->i≠j->∀ C,C (lt i j) { s with heap:=g }->kas_ask prog w A.in1.in1 κ vs i j C { s with heap:=g })
  (h:Q (.ref (s.heap.objs.size+1)) { s with heap:=sortedAll s.heap vs (List.toArray ((fF lt vs.length).map λi=>vs.getD i Value.none)) }) :
  wpAny (model prog w) A (call (.builtin "sorted") [.ref l]) Q E s:=by
 refine Calls.call_function_entry kind_sorted plain_sorted entry_sorted (args_sorted1 _) ?_;unfold Builtin.«sorted»;refine wpAny_bind (m:=checkCount "sorted" 1 1 _) (wpAny_pure (wpAny_bind (collect_list r (wpAny_bind (wpAny_newList ?_)))));have c:((s.heap.push (seqObj "list" #[] 0)).update s.heap.objs.size (Obj.mapSeq (· ++ vs.toArray))).objs.size=s.heap.objs.size+1:=by rw[Heap.size_update,size_push']
 have d:(((s.heap.push (seqObj "list" #[] 0)).update s.heap.objs.size (Obj.mapSeq (· ++ vs.toArray))).push (seqObj "list" vs.toArray 0)).get? (s.heap.objs.size+1)=some (seqObj "list" vs.toArray 0):=by rw[<- c];exact Heap.get?_push_size _ rfl
 have a:∀ b o,s.heap.get? b=some o->(((s.heap.push (seqObj "list" #[] 0)).update s.heap.objs.size (Obj.mapSeq (· ++ vs.toArray))).push (seqObj "list" vs.toArray 0)).get? b=some o:=λb o z=>by
  have q:b<s.heap.objs.size:=Heap.lt_size z;refine Heap.get?_push_of_some _ ?_;rw[Heap.get?_update_ne _ _ _ _ (Nat.ne_of_lt q)];exact Heap.get?_push_of_some _ z
 show wpAny _ _ _ _ _ { s with heap:=((s.heap.push (seqObj "list" #[] 0)).update s.heap.objs.size (Obj.mapSeq (· ++ vs.toArray))).push (seqObj "list" vs.toArray 0) };rw[c];refine wpAny_bind (wpAny_holding (wpAny_call_entry slot_list_sort ⟨_,d,rfl⟩ entry_list_sort (qG (lt:=lt) (κ:=κ) d T hz f (λn g k v u=>p n g (λb o z=>k b o (Nat.ne_of_lt (Nat.lt_succ_of_lt (Heap.lt_size z))) (a b o z)) v u) (λg k=>x g λb o z=>k b o (Nat.ne_of_lt (Nat.lt_succ_of_lt (Heap.lt_size z))) (a b o z)) ⟨_,rfl,?_⟩) (args_list_sort _)));exact wpAny_pure ⟨_,rfl,h⟩
end
section
variable {X:Cx}{pins:List (Addr×Obj)}{σ:St}{H:Hp}{s:Shared}{κ:SortKind}{lt:Nat->Nat->Bool}{KO:Nat->V->Hp->Prop}{xs:List V}{q:Addr}
end
section
variable {X:Cx}{tabs:nu}{d:LamD}{clos:List (Str×Addr)}{fv ps:List Str}{k:Nat}{sp:List V->Sp}{α:Type}{p pos lp kp:Pos}{e:Expr}{te:TE}{x:Str}
end
end L2
namespace LexM
def aD:List Int->List Int->Bool
 | [],[]=>false
 | [],_::_=>true
 | _::_,[]=>false
 | x::xs,y::ys=>if x=y then aD xs ys else decide (x<y)
theorem kI:∀ a,aD a a=false
 | []=>rfl
 | x::xs=>by rw[aD,if_pos rfl];exact kI xs
theorem gw:∀ a b,aD a b=true->aD b a=false
 | [],[],h=>by cases h
 | [],_::_,_=>rfl
 | _::_,[],h=>by cases h
 | x::xs,y::ys,h=>by
  rw[aD]at h ⊢
  by_cases e:x=y
  .rw[if_pos e]at h;rw[if_pos e.symm];exact gw xs ys h
  .rw[if_neg e]at h;rw[if_neg (λz=>e z.symm)]
   have:=of_decide_eq_true h;exact decide_eq_false (by omega)
theorem iw:∀ a b,a≠b->aD a b=true\/aD b a=true
 | [],[],h=>absurd rfl h
 | [],_::_,_=>.inl rfl
 | _::_,[],_=>.inr rfl
 | x::xs,y::ys,h=>by
  rw[aD,aD]
  by_cases e:x=y
  .rw[if_pos e,if_pos e.symm]
   exact iw xs ys λz=>h (by rw[e,z])
  .rw[if_neg e,if_neg (λz=>e z.symm)]
   rcases Int.lt_or_gt_of_ne e with z | z
   .exact .inl (decide_eq_true z)
   .exact .inr (decide_eq_true z)
theorem er:∀ a b c,aD a b=true->aD b c=true->aD a c=true
 | [],[],_,h,_=>by cases h
 | [],_::_,[],_,h=>by cases h
 | [],_::_,_::_,_,_=>rfl
 | _::_,[],_,h,_=>by cases h
 | _::_,_::_,[],_,h=>by cases h
 | x::xs,y::ys,z::zs,h,k=>by
  rw[aD]at h k ⊢
  by_cases e:x=y
  .rw[if_pos e]at h
   by_cases e2:y=z
   .rw[if_pos e2]at k;rw[if_pos (e.trans e2)];exact er xs ys zs h k
   .rw[if_neg e2]at k;rw[if_neg (λq=>e2 (by omega))]
    have:=of_decide_eq_true k;exact decide_eq_true (by omega)
  .rw[if_neg e]at h
   have h:=of_decide_eq_true h
   by_cases e2:y=z
   .rw[if_neg (by omega)];exact decide_eq_true (by omega)
   .rw[if_neg e2]at k
    have k:=of_decide_eq_true k;rw[if_neg (by omega)];exact decide_eq_true (by omega)
end LexM
namespace L2
open PySem PySem.Spec PyProof.Rows PySem.W LexM
def Ti(h:Heap)(x:List Int)(a:Addr):Prop:=∃ o its n,h.get? a=some o/\o.cls=.type "tuple" /\ o.data=.seq its n/\IntsAre its.toList x
section
variable {prog:Program}{w:World}{A:Around}{E:Value->Shared->Prop}{s:Shared}
theorem Ti.ty{x:List Int}{a:Addr}(h:Ti s.heap x a):s.TypeIs (.ref a) "tuple" := by
 obtain⟨o,b,n,c,d,_⟩:=h;exact⟨o,c,d⟩
theorem qt{x y:List Int}{a b:Addr}{P:PySem.Fin->Shared->Prop}(T:Ti s.heap x a)(N:Ti s.heap y b)(h:P (.done (.ret (.bool (aD x y)))) s) :
  wpAny (model prog w) A (Builtin.«tuple.__lt__» ⟨[.ref a,.ref b],[]⟩) P E s:=by
 have L:=N.ty;obtain⟨X,p,Y,H,_,K,I⟩:=T;obtain⟨Z,q,nb,D,_,M,F⟩:=N;show wpAny _ _ (isInstance (.ref b) (.type "tuple") >>= _) _ _ s;refine wpAny_bind (wpAny_isInstance L isSubtype_tuple_tuple ?_);simp only[Bool.not_true,Bool.false_eq_true,if_false];refine wpAny_bind (wpAny_tupleItemsOf H K ?_);refine wpAny_bind (wpAny_tupleItemsOf D M ?_);refine wpAny_bind ?_
 refine wpAny_forIn_list _
  (λj r l=>r.1=none/\l=s/\∃ B C f g,j=List.zip f g/\IntsAre f B/\IntsAre g C/\aD B C=aD x y/\decide (f.length<g.length)=decide (p.size<q.size))
  _ ?_ ?_ _ _ ⟨rfl,rfl,x,y,p.toList,q.toList,rfl,I,F,rfl,by simp⟩
 .rintro⟨u,v⟩ j r l ⟨G,rfl,B,C,f,g,n,k,i,c,d⟩
  cases k with
  | nil=>simp at n
  | @cons k1 t1 xs'' x'' hx'' =>
   cases i with
   | nil=>simp at n
   | @cons k2 t2 ys'' y'' hy'' =>
    simp only[List.zip_cons_cons,List.cons.injEq,Prod.mk.injEq]at n;obtain⟨⟨rfl,rfl⟩,rfl⟩:=n;refine wpAny_bind (wpAny_eqBool_int ?_)
    by_cases hk:k1=k2
    .subst hk
     rw[show(k1 == k1)=true by simp];simp only[Bool.not_true,Bool.false_eq_true,if_false];refine wpAny_pure ⟨rfl,rfl,x'',y'',xs'',ys'',rfl,hx'',hy'',?_,by simpa using d⟩;rw[<- c,aD,if_pos rfl]
    .rw[show(k1 == k2)=false by simpa using hk]
     simp only[Bool.not_false,if_true];have R:decide (k1<k2)=aD x y:=by rw[<- c,aD,if_neg hk]
     rw[<- R]at h;refine wpAny_bind (wpAny_rule ?_);refine wpAny_bind ?_;refine wpAny_mono (show wpAny (model prog w) A (richCompare .Lt (.int k1 t1) (.int k2 t2)) (λv Q=>v=.bool (decide (k1<k2))/\Q=l) E l from lt_int ⟨rfl,rfl⟩) (λv Q hv=>?_) λ_ _ z=>z
     obtain⟨rfl,rfl⟩:=hv;exact wpAny_pure (wpAny_pure h)
 .rintro⟨W,r2⟩ l ⟨G,rfl,B,C,f,g,n,k,i,c,d⟩
  simp only at G;subst G;refine wpAny_pure ?_
  have o:decide (p.size<q.size)=aD x y:=by
   rw[<- c,<- d];cases k with
   | nil =>
    cases i with
    | nil=>rfl
    | cons _ _ _=>simp[aD]
   | cons _ _ _ =>
    cases i with
    | nil=>simp[aD]
    | cons _ _ _=>simp at n
  show P (.done (.ret (.bool (decide (p.size<q.size))))) l;rw[o];exact h
theorem nU{a:Bool}{C:Bool->Shared->Prop}:∀{xs ys:List Value}{x y:List Int}(i:Nat),IntsAre xs x->IntsAre ys y->decide (xs.length<ys.length)=a->C (aD x y) s->KatLex prog w A true a C (xs.zip ys) i s
 | _,_,_,_,i,.nil,.nil,hf,h=>kat_nil (by rw[<- hf];exact h)
 | _,_,_,_,i,.nil,.cons _ _ _,hf,h=>kat_nil (by rw[<- hf,decide_eq_true (by simp)];exact h)
 | _,_,_,_,i,.cons _ _ _,.nil,hf,h=>kat_nil (by rw[<- hf,decide_eq_false (by simp)];exact h)
 | _,_,_,_,i,.cons p t hx,.cons q t' hy,hf,h=>by
  rw[List.zip_cons_cons];refine kat_cons (wpAny_eqBool_int ?_);rw[aD]at h
  by_cases e:p=q
  .rw[show(p == q)=true by simpa using e]
   rw[if_pos e]at h;exact kat_yes (nU (i+1) hx hy (by rw[<- hf];simp) h)
  .rw[show(p == q)=false by simpa using e]
   rw[if_neg e]at h;cases i with
   | zero=>exact kat_no (oneLt_int h)
   | succ i=>exact kat_no (kat_one _ _ (lt_int h))
theorem wC{x y:List Int}{a b:Addr}{C:Bool->Shared->Prop}(k:Ti s.heap x a)(l:Ti s.heap y b)(h:C (aD x y) s):wpAny (model prog w) A (keyLt' (tuples' true) (.ref a) (.ref b)) C E s:=by
 obtain⟨u,o,n,d,_,f,g⟩:=k;obtain⟨q,p,r,c,_,i,j⟩:=l;exact kat_lt d f c i (nU 0 g j (by simp) h)
theorem uf{x y:List Int}{a b:Addr}{C:Bool->Shared->Prop}(d:A.units<cLine)(c:Ti s.heap x a)(f:Ti s.heap y b)(h:C (aD x y) s):wpAny (model prog w) A (keyLt' oneType' (.ref a) (.ref b)) C E s:=by
 rw[keyLt'_oneType,oneLt'_eq];simp only[if_true];refine wpAny_bind (wpAny_cRoomFor_or (.inr d) ?_);refine wpAny_bind (wpAny_callSpecialIfBound?_slot c.ty F.slot_tuple_lt (wpAny_call_entry F.slot_tuple_lt c.ty F.entry_tuple_lt (qt c f ⟨_,rfl,?_⟩) (F.args_tuple_lt_2 _ _)));exact wpAny_truthy_bool h
theorem vi{x y:List Int}{a b:Addr}{C:Bool->Shared->Prop}(f:A.units<cLine)(c:Ti s.heap x a)(d:Ti s.heap y b)(h:C (aD x y) s):wpAny (model prog w) A (keyLt' general' (.ref a) (.ref b)) C E s:=by
 show wpAny _ _ (oneLt' false (.ref a) (.ref b)) _ _ s;refine kat_one _ _ ?_;refine wpAny_richCompare_same_room (op:=.Lt) c.ty d.ty F.slot_tuple_lt (wpAny_call_entry F.slot_tuple_lt c.ty F.entry_tuple_lt (qt c d ⟨_,rfl,(λe=>nomatch e),h⟩) (F.args_tuple_lt_2 _ _)) f
inductive Tis(h:Heap):List Value->List (List Int)->Prop
 | nil:Tis h [] []
 | cons {a:Addr}{x:List Int}{vs:List Value}{gs:List (List Int)}(hx:Ti h x a) (t:Tis h vs gs):Tis h (.ref a::vs) (x::gs)
theorem Tis.len{h:Heap}:∀{vs:List Value}{gs:List (List Int)},Tis h vs gs->vs.length=gs.length
 | _,_,.nil=>rfl
 | _,_,.cons _ t=>by rw[length_cons,length_cons,t.len]
theorem Tis.mem{h:Heap}:∀{vs:List Value}{gs:List (List Int)},Tis h vs gs->∀ v∈vs,∃ a x,v=.ref a/\Ti h x a
 | _,_,.nil,v,hv=>by cases hv
 | _,_,.cons hx t,v,hv=>by
  rcases mem_cons.mp hv with rfl | hv
  .exact⟨_,_,rfl,hx⟩
  .exact t.mem v hv
theorem ja{M:Model}:∀{vs:List Value}{gs:List (List Int)}{Q:List (Option Value)->Shared->Prop},Tis s.heap vs gs->(∀ fs:List (Option Value),fs.length=gs.length->(∀(i:Nat) (x:List Int),gs[i]? = some x->(fs[i]? = some none/\x=[])\/∃(n:Int) (t:Tok) (r:List Int),fs[i]? = some (some (Value.int n t))/\x=n::r)->Q fs s)->wpAny M A (vs.mapM firstOfTuple') Q E s
 | _,_,Q,.nil,h=>by rw[List.mapM_nil];exact wpAny_pure (h [] rfl λi x e=>by cases e)
 | _,_,Q,.cons (a:=a) (x:=x) hx t,h=>by
  obtain⟨o,b,n,c,j,f,d⟩:=hx;rw[List.mapM_cons];refine wpAny_bind ?_;rw[kas_first_eq];refine wpAny_bind (Looks.here (show Looks M s.heap (typeOf (.ref a)) o.cls from(Looks.ld c).andThen .now) ?_);rw[j,if_neg (by first | decide | simp)];refine wpAny_bind (listItems_at c f (wpAny_pure ?_));refine wpAny_bind (ja (Q:=λk p=>wpAny M A (pure (b[0]? :: k)) Q E p) t λfs hl hf=>wpAny_pure (h _ (by rw[length_cons,length_cons,hl]) λi y hy=>?_));cases i with
  | succ i=>exact hf i y hy
  | zero =>
   cases hy;have g:b[0]? = b.toList[0]?:=by simp
   rw[List.getElem?_cons_zero,g];generalize b.toList=l at d;cases d with
   | nil=>exact .inl ⟨rfl,rfl⟩
   | cons n t _=>exact .inr ⟨n,t,_,rfl,rfl⟩
def jl(gs:List (List Int)):SortKind:=if gs.all (λx=>!x.isEmpty) then tuples' true else if (gs.headD []).isEmpty then oneType' else general'
theorem jX{M:Model}{vs:List Value}{l:List (List Int)}{Q:SortKind->Shared->Prop}(t:Tis s.heap vs l)(h2:2<=vs.length)(h:Q (jl l) s):wpAny M A (keyKind' vs.toArray) Q E s:=by
 have T:=t.len;rw[kat_kind_eq,mapM_toArray,map_eq_pure_bind];refine wpAny_bind (wpAny_bind (ja t λj D y=>wpAny_pure ?_))
 by_cases ha:l.all (λx=>!x.isEmpty)=true
 .have G:∀ f∈j,∃(n:Int) (t:Tok),f=some (Value.int n t):=λf p=>by
   obtain⟨i,w⟩:=List.getElem?_of_mem p;have H:i<l.length:=by rw[<- D];exact(List.getElem?_eq_some_iff.mp w).1
   have B:=List.getElem?_eq_getElem H
   rcases y i _ B with⟨c,d⟩ | ⟨n,t,r,c,d⟩
   .have:=all_eq_true.mp ha _ (getElem_mem H)
    rw[d]at this;cases this
   .rw[w]at c
    exact⟨n,t,Option.some.inj c⟩
  rw[jl,if_pos ha]at h
  obtain⟨k,rfl,z⟩:∃ k:List Value,j=k.map some/\∀ v∈k,∃(n:Int) (t:Tok),v=Value.int n t:=by
   clear y D
   induction j with
   | nil=>exact⟨[],rfl,λv hv=>by cases hv⟩
   | cons f j ih =>
    obtain⟨k,e,z⟩:=ih λg B=>G g (mem_cons_of_mem _ B)
    obtain⟨n,t,rfl⟩:=G f (mem_cons_self ..);refine⟨Value.int n t::k,by rw[e];rfl,λv hv=>?_⟩
    rcases mem_cons.mp hv with rfl | hv
    .exact⟨n,t,rfl⟩
    .exact z v hv
  rw[length_map]at D
  obtain⟨w1,wr,rfl⟩:∃ w1 wr,k=w1::wr:=by
   match k,(show 0<k.length by lia) with
   | w1::wr,_=>exact⟨w1,wr,rfl⟩
  have u:(((w1::wr).map some).toArray.all λx=>x.isSome)=true:=by simp
  rw[if_pos u];refine wpAny_bind (wpAny_rule ?_);have p:(((w1::wr).map some).toArray.filterMap id)=(w1::wr).toArray:=by simp
  rw[p,oneTypeOnly'_eq,mapM_toArray,map_eq_pure_bind];refine wpAny_bind (wpAny_bind (wpAny_bind (kas_mapM (r:=Value.type "int") _ (λv hv P C=>?_) (wpAny_pure ?_))))
  .obtain⟨n,t,rfl⟩:=z v hv
   exact(Looks.of_pure rfl).here C
  .have b:((List.map (λ_=>Value.type "int") (w1::wr)).toArray.all λx=>x == Value.type "int")=true:=by
    simp only[all_toArray,all_map,all_eq_true];intro _ _;exact(by decide:(Value.type "int" == Value.type "int")=true)
   have q:(List.map (λ_=>Value.type "int") (w1::wr)).toArray[0]? = some (Value.type "int"):=by simp
   rw[q];simp only[b,if_true];exact wpAny_pure (wpAny_pure h)
 .have F:(j.toArray.all λx=>x.isSome)=false:=by
   rw[all_toArray];cases hb:j.all λx=>x.isSome with
   | false=>rfl
   | true =>
    refine absurd (all_eq_true.mpr λx N=>?_) ha;obtain⟨i,w⟩:=List.getElem?_of_mem N
    rcases y i x w with⟨c,_⟩ | ⟨n,t,r,_,d⟩
    .have:=all_eq_true.mp hb _ (List.mem_of_getElem? c)
     cases this
    .rw[d];rfl
  rw[F];simp only[Bool.false_eq_true,if_false];rw[jl,if_neg ha]at h
  obtain⟨g0,gr,rfl⟩:∃ g0 gr,l=g0::gr:=by
   match l,(show 0<l.length by lia) with
   | g0::gr,_=>exact⟨g0,gr,rfl⟩
  have q:j.toArray[0]? = j[0]?:=by simp
  rw[q]
  rcases y 0 g0 rfl with⟨c,d⟩ | ⟨n,R,r,c,d⟩
  .rw[c]
   simp only[Option.bind_some,id_eq,Option.isSome_none,Bool.false_eq_true,if_false];rw[show((g0::gr).headD []).isEmpty=true by rw[d];rfl,if_pos rfl]at h;rw[oneTypeOnly'_eq,mapM_toArray,map_eq_pure_bind]
   obtain⟨v1,vr,rfl⟩:∃ v1 vr,vs=v1::vr:=by
    match vs,(show 0<vs.length by lia) with
    | v1::vr,_=>exact⟨v1,vr,rfl⟩
   refine wpAny_bind (wpAny_bind (wpAny_bind (kas_mapM (r:=Value.type "tuple") _ (λv hv P C=>?_) (wpAny_pure ?_))))
   .obtain⟨a,x,rfl,o,L,n,I,K,_⟩:=t.mem v hv
    refine Looks.here (show Looks M s.heap (typeOf (.ref a)) o.cls from(Looks.ld I).andThen .now) ?_;rw[K];exact C
   .have b:((List.map (λ_=>Value.type "tuple") (v1::vr)).toArray.all λx=>x == Value.type "tuple")=true:=by
     simp only[all_toArray,all_map,all_eq_true];intro _ _;exact(by decide:(Value.type "tuple" == Value.type "tuple")=true)
    have q:(List.map (λ_=>Value.type "tuple") (v1::vr)).toArray[0]? = some (Value.type "tuple"):=by simp
    rw[q];simp only[b,if_true];exact wpAny_pure (wpAny_pure h)
  .rw[c]
   simp only[Option.bind_some,id_eq,Option.isSome_some,if_true];rw[show((g0::gr).headD []).isEmpty=false by rw[d];rfl]at h;exact wpAny_pure h
theorem qE{x y:List Int}{a b:Addr}{g:List (List Int)}{C:Bool->Shared->Prop}(f:A.units<cLine)(c:Ti s.heap x a)(d:Ti s.heap y b)(h:C (aD x y) s):wpAny (model prog w) A (keyLt' (jl g) (.ref a) (.ref b)) C E s:=by
 unfold jl
 split
 .exact wC c d h
 .split
  .exact uf f c d h
  .exact vi f c d h
end
section
variable {X:Cx}
def Row(H:Hp)(a:Addr)(x:List Int):Prop:=H a=some (.tup (x.map V.int))
theorem mi:∀{x:List Int}{us:List Value},Vals (x.map V.int) us->IntsAre us x
 | [],us,r=>by cases r;exact .nil
 | n::x,us,r=>by
  cases r with
  | cons r1 r =>
   obtain⟨t,rfl⟩:=r1;exact .cons n t (mi r)
theorem gM{P:Program}{w:World}{H:Hp}{h:Heap}(j:HOk P w H h){a:Addr}{x:List Int}(d:Row H a x):Ti h x a:=by
 obtain⟨_,b,i,o,c,g,n,f⟩:=(show ObjOk P w H h a (.tup _) from j a _ d)
 exact⟨o,b.toArray,n,c,g,f,by simpa using mi i⟩
theorem n0{P:Program}{w:World}{H:Hp}{h:Heap}(b:HOk P w H h):∀{ys:List V}{vs:List Value}{gs:List (List Int)},Vals ys vs->PySem.Paired (λy x=>∃ a,y=V.ref a/\Row H a x) ys gs->Tis h vs gs
 | _,_,_,.nil,.nil=>.nil
 | _,_,_,.cons r t,.cons ⟨a,e,hr⟩ p=>by
  subst e
  obtain rfl:=(show _=Value.ref a from r)
  exact .cons (gM b hr) (n0 b t p)
theorem lG(hu:X.A.units+64<cLine):CallR X (.builtin "sorted") (λxs H Q=>∃(p:Addr) (ys:List V) (gs:List (List Int)),xs=[.ref p]/\SqL X.K H p ys/\ys.length<16000000/\PySem.Paired (λy x=>∃ a,y=V.ref a/\Row H a x) ys gs/\gs.Nodup /\
  ∀(q:Addr) (o:List Nat),o.Perm (List.range ys.length)->o.Pairwise (λi j=>aD (gs.getD j []) (gs.getD i [])=false)->H q=none->Q (.ref q) (upd H q (.lst (o.map λi=>ys.getD i .non)))):=by
 intro l s W H xs us Q I r h;obtain⟨p,ys,gs,rfl,hq,hz,G,N,q⟩:=h;obtain⟨u,rfl,rx⟩:=dM r;cases rx;obtain⟨d,E,pl,Z⟩:=I.list hq;have n:d.length=ys.length:=E.length.symm;have ab:ys.length=gs.length:=Paired.length G
 have K:∀ i j,i<d.length->j<d.length->i≠j->gs.getD i []≠gs.getD j []:=λi j f w A e=>by
  have g:i<gs.length:=by lia
  have c:j<gs.length:=by lia
  have F:gs.getD i []=gs[i]:=by simp[List.getD,g]
  have e2:gs.getD j []=gs[j]:=by simp[List.getD,c]
  rw[F,e2]at e
  rcases Nat.lt_or_gt_of_ne A with z | z
  .exact(pairwise_iff_getElem.mp N i j g c z) e
  .exact(pairwise_iff_getElem.mp N j i c g z) e.symm
 have U:TS.Tot (λi j=>aD (gs.getD i []) (gs.getD j [])) d.length:=⟨λi j _ _ h=>gw _ _ h,λi j k _ _ _ g c=>er _ _ _ g c,λi j f w A h=>by
  rcases iw _ _ (K i j f w A) with z | z
  .have h:aD (gs.getD i []) (gs.getD j [])=false:=h
   rw[h]at z;cases z
  .exact z⟩
 have T:WSrt.Wk (λi j=>aD (gs.getD i []) (gs.getD j [])) d.length:=⟨U.asy,λi j k f w hk g c=>by
  cases e:aD (gs.getD k []) (gs.getD i []) with
  | false=>rfl
  | true =>
   exfalso;have g:aD (gs.getD j []) (gs.getD i [])=false:=g;have c:aD (gs.getD k []) (gs.getD j [])=false:=c
   by_cases F:i=j
   .subst F;rw[e]at c;cases c
   .have z1:=U.tot j i w f (λz=>F z.symm) g
    have P:=er _ _ _ e z1
    rw[c]at P;cases P⟩
 have at_:∀ i,i<d.length->∃ a,d.getD i Value.none=.ref a/\Row H a (gs.getD i []):=λi f=>by
  obtain⟨y,hy'⟩:∃ x,ys[i]? = some x:=⟨_,List.getElem?_eq_getElem (by lia)⟩
  obtain⟨v,hv,Y⟩:=E.get hy'
  have M:∀{ys:List V}{gs:List (List Int)}{i:Nat}{y:V},PySem.Paired (λy x=>∃ a,y=V.ref a/\Row H a x) ys gs->ys[i]? = some y->∃ a,y=V.ref a/\Row H a (gs.getD i []):=by
   intro ys gs i y hp
   induction hp generalizing i with
   | nil=>intro e;cases e
   | cons r t ih =>
    intro e;cases i with
    | zero=>cases e;exact r
    | succ i=>exact ih e
  obtain⟨a,rfl,ho⟩:=M G hy';obtain rfl:v=Value.ref a:=Y;exact⟨a,by rw[List.getD,hv];rfl,ho⟩
 refine vv (lt:=λi j=>aD (gs.getD i []) (gs.getD j [])) (κ:=jl gs) pl.isList T (by lia) (.inr U) (λc g' kp Q' q'=>?_) (λg' kp i j f w A C hC=>?_) ?_
 .have J:Inv X l W H { s with heap:=g' }:=I.kept (t':=s.toks) kp
  exact jX (n0 J.hok E G) c q'
 .have J:Inv X l W H { s with heap:=g' }:=I.kept (t':=s.toks) kp
  obtain⟨a,ea,oa⟩:=at_ i f;obtain⟨b,eb,ob⟩:=at_ j w;unfold kas_ask;rw[ea,eb];exact qE (by show X.A.units+1+1<cLine;lia) (gM J.hok oa) (gM J.hok ob) hC
 .have D:=gN T
  have R:=m5 T (.inr U);generalize fF (λi j=>aD (gs.getD i []) (gs.getD j [])) d.length=o at D R ⊢;obtain⟨e,he⟩:=sortedAll_at s.heap d (List.toArray (o.map λi=>d.getD i Value.none));have A:H (s.heap.objs.size+1)=none:=I.hok.fresh (Nat.le_succ _);have L:sizeLine=16777216:=sizeLine_eq;have B:=rG E o λi f=>by rw[<- n];exact mem_range.mp (D.mem_iff.mp f)
  rw[n]at D;refine⟨.ref (s.heap.objs.size+1),_,I.laid (a:=s.heap.objs.size+1) (o:=.lst (o.map λi=>ys.getD i .non)) (t':=s.toks) (λb u z=>sortedAll_old z) (Nat.le_succ _) ⟨?_,_,e,B,?_⟩,rfl,q _ _ D R A⟩
  .rw[length_map,D.length_eq,length_range];lia
  .rw[he]
end
section
variable {prog:Program}{w:World}{A:Around}{E:Value->Shared->Prop}{s:Shared}{d I:Addr}{es:Array DictEntry}{ep i:Nat}
theorem pD{κ:SortKind}{lt:Nat->Nat->Bool}{Q:Value->Shared->Prop}{vs:List Value}(z:A.handled=none)(u:(d == sysModules)=false)(x:DE s.heap d es ep)(a:i5 es=vs)(T:WSrt.Wk lt vs.length)(hz:vs.length<16000000)(l:vs.length<64\/TS.Tot lt vs.length)
  (v:2<=vs.length->∀ g tk,(∀ b o,s.heap.get? b=some o->g.get? b=some o)->∀ Q:SortKind->Shared->Prop,Q κ { s with heap:=g,toks:=tk }->wpAny (model prog w) A.in1.in1 (keyKind' vs.toArray) Q (λ_ _=>False) { s with heap:=g,toks:=tk })
  (B:∀ g tk,(∀ b o,s.heap.get? b=some o->g.get? b=some o)->∀ i j,i<vs.length->j<vs.length->i≠j->∀ C,C (lt i j) { s with heap:=g,toks:=tk }->kas_ask prog w A.in1.in1 κ vs i j C { s with heap:=g,toks:=tk })
  (h:∀(r:Addr) g tk m,(∀ b o,s.heap.get? b=some o->g.get? b=some o)->s.heap.objs.size<=r->g.get? r=some (seqObj "list" (List.toArray ((fF lt vs.length).map λi=>vs.getD i Value.none)) m)->Q (.ref r) { s with heap:=g,toks:=tk }) :
  wpAny (model prog w) A (call (.builtin "sorted") [.ref d]) Q E s:=by
 have H:vs.length=es.size:=by rw[<- a];unfold i5;rw[length_map,Array.length_toList]
 have I:sizeLine=16777216:=sizeLine_eq;refine Calls.call_function_entry kind_sorted plain_sorted entry_sorted (args_sorted1 _) ?_;unfold Builtin.«sorted»;refine wpAny_bind (m:=checkCount "sorted" 1 1 _) (wpAny_pure (wpAny_bind (om z u x (by lia) λk tk p q=>wpAny_bind (wpAny_newList ?_ (by rw[a];lia)))));rw[a];have c:(k.push (seqObj "list" vs.toArray 0)).get? k.objs.size=some (seqObj "list" vs.toArray 0):=Heap.get?_push_size _ rfl
 have f:∀ b o,s.heap.get? b=some o->(k.push (seqObj "list" vs.toArray 0)).get? b=some o/\b≠k.objs.size:=λb o e=>⟨Heap.get?_push_of_some _ (q b o e),Nat.ne_of_lt (Heap.lt_size (q b o e))⟩
 refine wpAny_bind (wpAny_holding (wpAny_call_entry slot_list_sort ⟨_,c,rfl⟩ entry_list_sort (qG (s:={ s with heap:=k.push (seqObj "list" vs.toArray 0),toks:=tk }) (lt:=lt) (κ:=κ) c T hz l (λG g n y F=>v G g tk (λb o e=>n b o (f b o e).2 (f b o e).1) y F) (λg n=>B g tk λb o e=>n b o (f b o e).2 (f b o e).1) ⟨_,rfl,?_⟩) (args_list_sort _)));obtain⟨m,D⟩:=sortedHeap_at (out:=List.toArray ((fF lt vs.length).map λi=>vs.getD i Value.none)) c;refine wpAny_pure ⟨_,rfl,h k.objs.size _ tk m (λb o e=>?_) (Nat.le_of_lt p) D⟩;rw[sortedHeap_old (f b o e).2 (Heap.lt_size (f b o e).1)];exact(f b o e).1
end
section
variable {X:Cx}
theorem lL(x:List Int):(x.map (Sum.inl:Int->Key)).map kV=x.map V.int:=by rw[map_map];rfl
theorem tj{a:List (List Int)}(d:a.Nodup){n:Nat}(b:n=a.length):TS.Tot (λi j=>aD (a.getD i []) (a.getD j [])) n:=by
 subst b;refine⟨λi j _ _ h=>gw _ _ h,λi j k _ _ _ h1 h2=>er _ _ _ h1 h2,λi j h1 h2 b h=>?_⟩
 have c:a.getD i []≠a.getD j []:=λe=>by
  have f:a.getD i []=a[i]:=by simp[List.getD,h1]
  have g:a.getD j []=a[j]:=by simp[List.getD,h2]
  rw[f,g]at e
  rcases Nat.lt_or_gt_of_ne b with z | z
  .exact(pairwise_iff_getElem.mp d i j h1 h2 z) e
  .exact(pairwise_iff_getElem.mp d j i h2 h1 z) e.symm
 rcases iw _ _ c with z | z
 .have h:aD (a.getD i []) (a.getD j [])=false:=h
  rw[h]at z;cases z
 .exact z
theorem vL{a:List (List Int)}{n:Nat}(U:TS.Tot (λi j=>aD (a.getD i []) (a.getD j [])) n):WSrt.Wk (λi j=>aD (a.getD i []) (a.getD j [])) n :=
 ⟨U.asy,λi j k f h l c b=>by
  cases e:aD (a.getD k []) (a.getD i []) with
  | false=>rfl
  | true =>
   exfalso;have c:aD (a.getD j []) (a.getD i [])=false:=c;have b:aD (a.getD k []) (a.getD j [])=false:=b
   by_cases e1:i=j
   .subst e1;rw[e]at b;cases b
   .have g:=U.tot j i h f (λz=>e1 z.symm) c
    have d:=er _ _ _ e g
    rw[b]at d;cases d⟩
theorem jP(hc:X.calm=true)(hu:X.A.units+64<cLine):CallR X (.builtin "sorted") (λxs H Q=>∃(p:Addr) (kvs:List (List Key×V)) (gs:List (List Int)),xs=[.ref p]/\H p=some (.dT kvs)/\kvs.length<16000000/\kvs.map (·.1)=gs.map (λx=>x.map Sum.inl)/\gs.Nodup /\
  ∀ q (o:List Nat) (f:Nat->V),H q=none->o.Perm (List.range gs.length)->(o.Pairwise λi j=>aD (gs.getD j []) (gs.getD i [])=false)->(∀ i,i<gs.length->∃ b,f i=.ref b/\Row H b (gs.getD i []))->Q (.ref q) (upd H q (.lst (o.map f)))):=by
 intro A s σ H xs us Q I r h;obtain⟨p,kvs,gs,rfl,hp,hz,y,gd,q⟩:=h;obtain⟨u,rfl,rx⟩:=dM r;cases rx;obtain⟨z,nm,xs,B,ob,es,ep,g1,g2,g3,g4,g5,g6⟩:=tZ I.hok hp;have lx:kvs.length=xs.length:=Paired.length B;have lg:kvs.length=gs.length:=by have:=congrArg List.length y;rwa [length_map,length_map]at this
 obtain⟨vs,hvs⟩:∃ vs,vs=xs.map λx=>Value.ref x.2.1:=⟨_,rfl⟩
 have ek:i5 es=vs:=by unfold i5;rw[g4,map_map,hvs];rfl
 have lv:vs.length=kvs.length:=by rw[hvs,length_map,lx]
 have g:∀ i,i<vs.length->∃ a,vs.getD i Value.none=.ref a/\Row H a (gs.getD i []):=λi c=>by
  obtain⟨kv,hkv⟩:∃ x,kvs[i]? = some x:=⟨_,List.getElem?_eq_getElem (by lia)⟩
  obtain⟨x,hx,hH⟩:=B.at hkv;refine⟨x.2.1,?_,?_⟩
  .rw[hvs,List.getD,List.getElem?_map,hx];rfl
  .have e:=congrArg (λl=>l[i]?) y
   simp only[List.getElem?_map,hkv]at e;have Z:i<gs.length:=by lia
   rw[List.getElem?_eq_getElem Z]at e;have e:kv.1=gs[i].map Sum.inl:=Option.some.inj e;show H x.2.1=_;rw[hH,e,lL,show gs.getD i []=gs[i] by simp[List.getD,Z]]
 have W:∀{d:Heap}{tk:Nat},(∀ b o,s.heap.get? b=some o->d.get? b=some o)->Inv X A σ H { s with heap:=d,toks:=tk }:=λk=>I.kept k
 have U:=tj gd (n:=vs.length) (by lia);have T:=vL U
 have E:∀{d:Heap},HOk X.prog X.w H d->Tis d vs gs:=λ{d} ok=>by
  have L:∀(vs:List Value) (gs:List (List Int)),vs.length=gs.length->(∀ i,i<vs.length->∃ a,vs.getD i Value.none=.ref a/\Row H a (gs.getD i []))->Tis d vs gs:=by
   intro vs
   induction vs with
   | nil=>intro gs e _;cases gs with | nil=>exact .nil | cons _ _=>cases e
   | cons v vs ih =>
    intro gs e N;cases gs with
    | nil=>cases e
    | cons x gs =>
     obtain⟨a,w,h1⟩:=N 0 (by simp);obtain rfl:v=Value.ref a:=w;exact .cons (gM ok h1) (ih gs (by simpa using e) λi c=>N (i+1) (by simpa using c))
  exact L vs gs (by lia) g
 refine pD (vs:=vs) (κ:=jl gs) (lt:=λi j=>aD (gs.getD i []) (gs.getD j [])) (I.ok.hd hc) nm ⟨ob,g1,g2,g3⟩ ek T (by lia) (.inr U) (λh2 d tk k Q' q'=>?_) (λd tk k i j c hj Y C hC=>?_) λrr d tk m k big at'=>?_
 .exact jX (E (W (tk:=tk) k).hok) h2 q'
 .have J:=W (tk:=tk) k
  obtain⟨a,ea,oa⟩:=g i c;obtain⟨b,eb,M⟩:=g j hj;unfold kas_ask;rw[ea,eb];exact qE (by show X.A.units+1+1<cLine;lia) (gM J.hok oa) (gM J.hok M) hC
 .have Y:H rr=none:=I.hok.fresh big
  have D:=gN T;have P:=m5 T (.inr U);generalize fF (λi j=>aD (gs.getD i []) (gs.getD j [])) vs.length=o at D P at';have K:sizeLine=16777216:=sizeLine_eq;have G:∀ i∈o,i<vs.length:=λi c=>mem_range.mp (D.mem_iff.mp c)
  let f:Nat->V:=λi=>match vs.getD i Value.none with | .ref a=>.ref a | _=>.non
  have R:∀ i,i<vs.length->∃ a,f i=.ref a/\vs.getD i Value.none=.ref a/\Row H a (gs.getD i []):=λi c=>by
   obtain⟨a,w,F⟩:=g i c;exact⟨a,by show(match vs.getD i Value.none with | .ref a=>V.ref a | _=>.non)=_;rw[w],w,F⟩
  refine⟨.ref rr,_,I.laid (a:=rr) (o:=.lst (o.map f)) (t':=tk) k big ⟨?_,_,m,kn (vs:=vs) f λi c=>?_,at'⟩,rfl,q rr o f Y (by rw[<- lg,<- lv];exact D) P λi c=>?_⟩
  .rw[length_map,D.length_eq,length_range];lia
  .obtain⟨a,w,e2,_⟩:=R i (G i c)
   rw[w,e2];rfl
  .obtain⟨a,w,_,F⟩:=R i (by lia)
   exact⟨a,w,F⟩
end
end L2
namespace L2
open PySem PySem.Spec PyProof.Rows
section
variable {X:Cx}{a b c d:Expr}{ta tb tc td:TE}{pos:Pos}
end
section
variable {X:Cx}{o e:Expr}{es:List Expr}{to:TE}{t:TA}{apos cpos:Pos}
theorem pe_m.extend(f:PE X o to)(h:PA X (e::es) t)(c:attributeBase o "extend" X.env (eval o X.env)=eval o X.env:=by rfl)
  (d:((backTo cpos (starEach (e::es) X.env)).all (λx=>!x.1) && (backToKw cpos (keywordEach [] X.env)).all (λx=>x.1.isSome) && decide ((e::es).length+([]:List Keyword).length+(if ([]:List Keyword).isEmpty then 0 else 1)<30))=true:=by rfl)
  (b:(apos.endLine == cpos.line)=true:=by rfl) (g:starEach (e::es) X.env=(false,eval e X.env)::starEach es X.env:=by rfl) (a:(backTo cpos (starEach es X.env)).any (·.1)=false:=by rfl) :
  PE X (.Call (.Attribute o "extend" apos) (e::es) [] cpos) (tBM X.K "list" qh to t):=vD F.plainAttrs_list F.slot_list_extend F.type_list_extend rZ f h c d b g a
end
end L2
namespace Du
open FrM
def fr(q:Rat):Int×Int:=(q.num,(q.den:Int))
theorem j5(n:Int){d:Nat}(a:d≠0):ij n (d:Int)=fr (mkRat n d):=by
 unfold ij fr;rw[Rat.num_mkRat,Rat.den_mkRat,if_neg a,if_neg a];have e:Int.gcd n (d:Int)=d.gcd n.natAbs:=by rw[Int.gcd,Nat.gcd_comm];rfl
 rw[e];rfl
theorem vU(t:Int){b:Int}(a:0<b):ij t b=fr ((t:Rat)/(b:Rat)):=by
 obtain⟨d,rfl⟩:=Int.eq_ofNat_of_zero_le (Int.le_of_lt a);rw[j5 t (by omega),<- Rat.divInt_eq_div,<- Rat.divInt_ofNat]
def Bq(D:Nat)(q:Rat):Prop:=0<=q/\q<=1/\∃ n:Nat,q*(D:Rat)=(n:Rat)
theorem vG{D:Nat}(h:0<D):(0:Rat)<(D:Rat):=by exact_mod_cast h
theorem AH{D:Nat}{q:Rat}{n:Int}(a:0<D)(e:q*(D:Rat)=(n:Rat)):q=mkRat n D:=by
 have b:=vG a;have:q=(n:Rat)/(D:Rat):=by grind
 rw[this,<- Rat.divInt_ofNat,Rat.divInt_eq_div];rfl
theorem pB{a b:Rat}(d:0<=a)(c:0<=b):0<=a*b:=Rat.mul_nonneg d c
section
variable {B:Nat}{h c:Rat}
end
end Du
namespace Tb
open FrM Du
inductive Tr where
 | leaf (ns:List Int)
 | die (ps:List (Int×Tr))
def tot(ps:List (Int×Tr)):Int:=(ps.map (·.1)).sum
mutual
def lv:Tr->Nat
 | .leaf _=>1
 | .die ps=>lvs ps
def lvs:List (Int×Tr)->Nat
 | []=>0
 | (_,u)::r=>lv u+lvs r
end
mutual
def sz:Tr->Nat
 | .leaf _=>1
 | .die ps=>szs ps+1
def szs:List (Int×Tr)->Nat
 | []=>0
 | (_,u)::r=>sz u+szs r
end
mutual
def Ok:Tr->Prop
 | .leaf ns=>ns.Nodup/\ns.length<=24
 | .die ps=>ps≠[]/\Oks ps
def Oks:List (Int×Tr)->Prop
 | []=>True
 | (m,u)::r=>1<=m/\Ok u/\Oks r
end
abbrev Way:=List Int×(Int×Int)
mutual
def wl:Tr->Int->Int->List Way
 | .leaf ns,t,b=>[(ns,(t,b))]
 | .die ps,t,b=>wls ps t b (tot ps)
def wls:List (Int×Tr)->Int->Int->Int->List Way
 | [],_,_,_=>[]
 | (m,u)::r,t,b,S=>wls r t b S++wl u (t*m) (b*S)
end
abbrev Ent:=Tr×(Int×Int)
def st:List Ent->List Way
 | []=>[]
 | (u,(t,b))::r=>st r++wl u t b
def stL:List Ent->Nat
 | []=>0
 | (u,_)::r=>stL r+lv u
def stS:List Ent->Nat
 | []=>0
 | (u,_)::r=>stS r+sz u
theorem kG:∀(a b:List Ent),st (a++b)=st b++st a
 | [],b=>by simp[st]
 | (u,(t,c))::a,b=>by rw[cons_append,st,kG a b,st,append_assoc]
theorem stS_app:∀(a b:List Ent),stS (a++b)=stS a+stS b
 | [],b=>by simp[stS]
 | (u,c)::a,b=>by rw[cons_append,stS,stS_app a b,stS];lia
def kids(ps:List (Int×Tr))(t b S:Int):List Ent:=ps.map λp=>(p.2,(t*p.1,b*S))
theorem qU(t b S:Int):∀ ps:List (Int×Tr),st (kids ps t b S)=wls ps t b S
 | []=>rfl
 | (m,u)::r=>by
  have a:=qU t b S r;unfold kids at *;rw[map_cons,st,a,wls]
theorem stS_kids(t b S:Int):∀ ps:List (Int×Tr),stS (kids ps t b S)=szs ps
 | []=>rfl
 | (m,u)::r=>by
  have a:=stS_kids t b S r;unfold kids at *;rw[map_cons,stS,a,szs];lia
mutual
theorem vx:∀ t:Tr,Ok t->1<=lv t
 | .leaf _,_=>by simp[lv]
 | .die ps,h=>by rw[lv];rw[Ok]at h;exact wx ps h.2 h.1
theorem wx:∀ ps:List (Int×Tr),Oks ps->ps≠[]->1<=lvs ps
 | [],_,h=>absurd rfl h
 | (m,u)::r,h,_=>by rw[Oks]at h;rw[lvs];have:=vx u h.2.1;lia
end
def StOk(s:List Ent):Prop:=∀ e∈s,Ok e.1
theorem pO:∀ s:List Ent,StOk s->s.length<=stL s
 | [],_=>Nat.le_refl _
 | (u,c)::r,h=>by
  have:=pO r λe a=>h e (mem_cons_of_mem _ a)
  have:=vx u (h _ mem_cons_self);rw[stL,length_cons];lia
theorem pW:∀{ps:List (Int×Tr)},Oks ps->∀ p∈ps,1<=p.1/\Ok p.2
 | (m,u)::r,h,p,hp=>by
  rw[Oks]at h
  rcases mem_cons.mp hp with rfl | hp
  .exact⟨h.1,h.2.1⟩
  .exact pW h.2.2 p hp
theorem StOk.kids{ps:List (Int×Tr)}{t b S:Int}(h:Oks ps):StOk (kids ps t b S):=λe c=>by
 obtain⟨p,a,rfl⟩:=mem_map.mp c;exact(pW h p a).2
mutual
theorem wl_len:∀(t:Tr) (a b:Int),(wl t a b).length=lv t
 | .leaf _,_,_=>rfl
 | .die ps,a,b=>by rw[wl,lv];exact qH ps a b _
theorem qH:∀(ps:List (Int×Tr)) (a b S:Int),(wls ps a b S).length=lvs ps
 | [],_,_,_=>rfl
 | (m,u)::r,a,b,S=>by rw[wls,lvs,length_append,qH r,wl_len u];lia
end
structure Wk(t:Tr)(ways:List Way)(s:List Ent):Prop where
 all:ways++st s=wl t 1 1
 ok:StOk s
theorem Wk.start{t:Tr}(h:Ok t):Wk t [] [(t,(1,1))]:=⟨by simp[st],λe a=>by cases mem_singleton.mp a;exact h⟩
theorem Wk.leaf{t:Tr}{c:List Way}{s:List Ent}{d:List Int}{a b:Int}(h:Wk t c (s++[(.leaf d,(a,b))])):Wk t (c++[(d,(a,b))]) s:=by
 refine⟨?_,λe f=>h.ok e (mem_append_left _ f)⟩;have:=h.all;rw[kG]at this;rw[append_assoc];exact this
theorem Wk.die{t:Tr}{c:List Way}{s:List Ent}{ps:List (Int×Tr)}{a b:Int}(h:Wk t c (s++[(.die ps,(a,b))])):Wk t c (s++kids ps a b (tot ps)):=by
 have o:=h.ok _ (mem_append_right _ mem_cons_self);rw[Ok]at o;refine⟨?_,λe he=>?_⟩
 .rw[kG,qU]
  have:=h.all;rw[kG]at this;simpa[st,wl] using this
 .rcases mem_append.mp he with he | he
  .exact h.ok e (mem_append_left _ he)
  .exact StOk.kids o.2 e he
theorem uB:∀ s:List Ent,(st s).length=stL s
 | []=>rfl
 | (u,(a,b))::r=>by rw[st,stL,length_append,uB r,wl_len]
theorem Wk.few{t:Tr}{a:List Way}{s:List Ent}(h:Wk t a s):a.length+s.length<=lv t:=by
 have e:=congrArg List.length h.all;rw[length_append,uB,wl_len]at e;have:=pO s h.ok;lia
theorem Wk.done{t:Tr}{a:List Way}(h:Wk t a []):a=wl t 1 1:=by have:=h.all;simpa[st] using this
abbrev Rws:=List (List Int×Rat)
def cX(W:Rws)(k:List Int):Rat:=((W.filter λw=>decide (w.1=k)).map (·.2)).sum
theorem iR{k:List Int}:cX [] k=0:=rfl
theorem aZ{w:List Int×Rat}{W:Rws}{k:List Int}:cX (w::W) k=(if w.1=k then w.2 else 0)+cX W k:=by
 unfold cX;rw[filter_cons]
 by_cases h:w.1=k
 .rw[if_pos (decide_eq_true h),if_pos h,map_cons,sum_cons]
 .rw[if_neg (by simp[h]),if_neg h];grind
theorem r9{A B:Rws}{k:List Int}(h:A.Perm B):cX A k=cX B k:=by
 induction h with
 | nil=>rfl
 | cons x _ ih=>rw[aZ,aZ,ih]
 | swap x y l=>rw[aZ,aZ,aZ,aZ];grind
 | trans _ _ a b=>rw[a,b]
theorem nz{W:Rws}{k:List Int}(h:k ∉ W.map (·.1)):cX W k=0:=by
 induction W with
 | nil=>rfl
 | cons w W ih =>
  rw[map_cons,mem_cons,not_or]at h;rw[aZ,if_neg (λe=>h.1 e.symm),ih h.2];grind
def du(k:List Int)(m:Rat):Rws->Rws
 | []=>[(k,m)]
 | x::r=>if x.1=k then (k,x.2+m)::r else x::du k m r
def NdR(st:Rws):Prop:=(st.map (·.1)).Nodup
theorem gR(k:List Int)(m:Rat):∀ st:Rws,(du k m st).map (·.1)=if k∈st.map (·.1) then st.map (·.1) else st.map (·.1)++[k]
 | []=>by simp[du]
 | x::r=>by
  rw[du]
  by_cases c:x.1=k
  .rw[if_pos c];simp[c]
  .rw[if_neg c,map_cons,gR k m r,map_cons]
   have a:¬k=x.1:=λe=>c e.symm
   by_cases d:k∈r.map (·.1)
   .rw[if_pos d,if_pos (mem_cons_of_mem _ d)]
   .rw[if_neg d,if_neg (by simp only[mem_cons,not_or];exact⟨a,d⟩)];rfl
theorem NdR.add{k:List Int}{m:Rat}{st:Rws}(h:NdR st):NdR (du k m st):=by
 unfold NdR at *;rw[gR]
 split
 .exact h
 .rename_i n
  exact nodup_append.mpr ⟨h,by simp,λa d b c e=>n (by rw[mem_singleton]at c;rw[<- c,<- e];exact d)⟩
theorem mD{k a:List Int}{m:Rat}:∀{st:Rws},cX (du k m st) a=cX st a+if k=a then m else 0
 | []=>by rw[du,aZ,iR];grind
 | x::r=>by
  rw[du]
  by_cases c:x.1=k
  .rw[if_pos c,aZ,aZ]
   show(if k=a then x.2+m else 0)+cX r a=_
   rw[c];split <;> grind
  .rw[if_neg c,aZ,aZ,mD];grind
def jM(W:Rws):Rws:=W.foldl (λst w=>du w.1 w.2 st) []
theorem rS(st:Rws):∀(W:Rws) (k:List Int),cX (W.foldl (λst w=>du w.1 w.2 st) st) k=cX st k+cX W k:=by
 intro W
 induction W generalizing st with
 | nil=>intro k;rw[List.foldl_nil,iR];grind
 | cons w W ih=>intro k;rw[foldl_cons,ih,mD,aZ];grind
theorem re(W:Rws)(k:List Int):cX (jM W) k=cX W k:=by
 unfold jM;rw[rS,iR];grind
theorem tM(st:Rws)(h:NdR st):∀ W:Rws,NdR (W.foldl (λst w=>du w.1 w.2 st) st):=by
 intro W
 induction W generalizing st with
 | nil=>exact h
 | cons w W ih=>exact ih _ h.add
theorem qD(W:Rws):NdR (jM W):=tM [] nodup_nil W
theorem oU(st:Rws):∀(W:Rws) (k:List Int),k∈(W.foldl (λst w=>du w.1 w.2 st) st).map (·.1)↔k∈st.map (·.1)\/k∈W.map (·.1):=by
 intro W
 induction W generalizing st with
 | nil=>intro k;simp
 | cons w W ih =>
  intro k;rw[foldl_cons,ih,gR,map_cons,mem_cons]
  split
  .rename_i h
   constructor
   .rintro(a | a)
    .exact .inl a
    .exact .inr (.inr a)
   .rintro(a | a | a)
    .exact .inl a
    .exact .inl (by rw[a];exact h)
    .exact .inr a
  .rw[mem_append,mem_singleton]
   constructor
   .rintro((a | a) | a)
    .exact .inl a
    .exact .inr (.inl a)
    .exact .inr (.inr a)
   .rintro(a | a | a)
    .exact .inl (.inl a)
    .exact .inl (.inr a)
    .exact .inr a
theorem rR(W:Rws)(k:List Int):k∈(jM W).map (·.1)↔k∈W.map (·.1):=by
 unfold jM;rw[oU];simp
theorem tD{st:Rws}(a:NdR st):∀ x∈st,cX st x.1=x.2:=by
 induction st with
 | nil=>intro x hx;cases hx
 | cons y r ih =>
  intro x hx;unfold NdR at a;rw[map_cons,nodup_cons]at a;rw[aZ]
  rcases mem_cons.mp hx with rfl | hx
  .rw[if_pos rfl,nz a.1];grind
  .have e:=ih a.2 x hx
   rw[if_neg (λz=>a.1 (by rw[z];exact mem_map.mpr ⟨x,hx,rfl⟩)),e];grind
abbrev Grp:=List (List Int×List (Int×Int))
def pushG(k:List Int)(c:Int×Int):Grp->Grp
 | []=>[(k,[c])]
 | x::r=>if x.1=k then (k,x.2++[c])::r else x::pushG k c r
def grp(W:List Way):Grp:=W.foldl (λg w=>pushG w.1 w.2 g) []
def qv(c:Int×Int):Rat:=(c.1:Rat)/(c.2:Rat)
def sumQ(l:List (Int×Int)):Rat:=(l.map qv).sum
def rat(g:Grp):Rws:=g.map λx=>(x.1,sumQ x.2)
def toR(W:List Way):Rws:=W.map λw=>(w.1,qv w.2)
theorem nv(k:List Int)(c:Int×Int):∀ g:Grp,rat (pushG k c g)=du k (qv c) (rat g)
 | []=>by
  show [(k,sumQ [c])]=[(k,qv c)];unfold sumQ;simp only[map_cons,map_nil,sum_cons,sum_nil];have:qv c+0=qv c:=by grind
  rw[this]
 | x::r=>by
  rw[pushG]
  by_cases h:x.1=k
  .rw[if_pos h]
   show(k,sumQ (x.2++[c]))::rat r=du k (qv c) ((x.1,sumQ x.2)::rat r);rw[du,if_pos h];have:sumQ (x.2++[c])=sumQ x.2+qv c:=by unfold sumQ;rw[map_append,sum_append];simp only[map_cons,map_nil,sum_cons,sum_nil];grind
   rw[this]
  .rw[if_neg h]
   show(x.1,sumQ x.2)::rat (pushG k c r)=du k (qv c) ((x.1,sumQ x.2)::rat r);rw[du,if_neg h,nv k c r]
theorem vA(g:Grp):∀ W:List Way,rat (W.foldl (λg w=>pushG w.1 w.2 g) g)=(toR W).foldl (λst w=>du w.1 w.2 st) (rat g):=by
 intro W
 induction W generalizing g with
 | nil=>rfl
 | cons w W ih =>
  rw[foldl_cons,ih,nv];rfl
theorem rat_grp(W:List Way):rat (grp W)=jM (toR W):=vA [] W
theorem grp_snoc{W:List Way}{i:Nat}{w:Way}(h:W[i]? = some w):grp (W.take (i+1))=pushG w.1 w.2 (grp (W.take i)):=by
 unfold grp;rw[take_add_one,h,List.foldl_append];rfl
mutual
def wf:Tr->Rat->Rws
 | .leaf ns,q=>[(ns,q)]
 | .die ps,q=>wfs ps q (tot ps)
def wfs:List (Int×Tr)->Rat->Int->Rws
 | [],_,_=>[]
 | (m,u)::r,q,S=>wf u (q*((m:Rat)/(S:Rat)))++wfs r q S
end
theorem y1{a b m S:Int}(c:b≠0)(f:S≠0):qv (a*m,b*S)=qv (a,b)*((m:Rat)/(S:Rat)):=by
 unfold qv;have d:(b:Rat)≠0:=by exact_mod_cast c
 have g:(S:Rat)≠0:=by exact_mod_cast f
 simp only[Rat.intCast_mul]
 grind
theorem kB:∀{ps:List (Int×Tr)},Oks ps->(ps.length:Int)<=tot ps
 | [],_=>by simp[tot]
 | (m,u)::r,h=>by
  rw[Oks]at h;have:=kB h.2.2;unfold tot at *;rw[map_cons,sum_cons,length_cons];have:=h.1;show((r.length+1:Nat):Int)<=m+_;lia
mutual
theorem xu:∀(t:Tr) (a b:Int),Ok t->0<b->(toR (wl t a b)).Perm (wf t (qv (a,b)))
 | .leaf ns,a,b,_,_=>by rw[wl,wf];exact .refl _
 | .die ps,a,b,h,hb=>by
  rw[Ok]at h;rw[wl,wf];have:=kB h.2;have:0<ps.length:=List.length_pos_iff.mpr h.1;exact uv ps a b (tot ps) h.2 hb (by lia)
theorem uv:∀(ps:List (Int×Tr)) (a b S:Int),Oks ps->0<b->0<S->(toR (wls ps a b S)).Perm (wfs ps (qv (a,b)) S)
 | [],_,_,_,_,_,_=>by rw[wls,wfs];exact .refl _
 | (m,u)::r,a,b,S,h,hb,hS=>by
  rw[Oks]at h;rw[wls,wfs];have e:toR (wls r a b S++wl u (a*m) (b*S))=toR (wls r a b S)++toR (wl u (a*m) (b*S)):=by unfold toR;rw[map_append]
  rw[e,<- y1 (by lia) (by lia)];exact(perm_append_comm).trans ((xu u _ _ h.2.1 (Int.mul_pos hb hS)).append (uv r a b S h.2.2 hb hS))
end
end Tb
namespace Tb
open FrM Du LexM
def so(l:List Int):List Int:=l.mergeSort (λa b=>decide (a<=b))
theorem dF(l:List Int):(so l).Perm l:=List.mergeSort_perm l _
theorem vo(l:List Int):(so l).Pairwise (·<=·):=by
 have h:=List.pairwise_mergeSort (le:=λ(a b:Int)=>decide (a<=b)) (by intro a b c h1 h2;simp at *;lia) (by intro a b;simp;lia) l;exact h.imp λh=>by simpa using h
theorem pU:∀{a b:List Int},a.Perm b->a.Pairwise (·<=·)->b.Pairwise (·<=·)->a=b
 | [],b,p,_,_=>(List.nil_perm.mp p).symm ▸ rfl
 | x::a,[],p,_,_=>absurd p.length_eq (by simp)
 | x::a,y::b,p,h1,h2=>by
  rw[pairwise_cons]at h1 h2
  have e:x=y:=by
   have c:x∈y::b:=p.mem_iff.mp mem_cons_self;have d:y∈x::a:=p.mem_iff.mpr mem_cons_self
   rcases mem_cons.mp c with z | z
   .exact z
   .rcases mem_cons.mp d with z' | z'
    .exact z'.symm
    .have:=h2.1 x z
     have:=h1.1 y z';lia
  subst e;rw[pU (List.perm_cons x |>.mp p) h1.2 h2.2]
theorem so_uniq{a l:List Int}(h:a.Perm l)(s:a.Pairwise (·<=·)):a=so l:=pU (h.trans (dF l).symm) s (vo l)
def kW(W:List Way):List Way:=W.map λw=>(so w.1,w.2)
def kR(W:Rws):Rws:=W.map λw=>(so w.1,w.2)
theorem zf(W:List Way):toR (kW W)=kR (toR W):=by unfold toR kW kR;rw[map_map,map_map];rfl
def kt(t:Tr):Rws:=kR (wf t 1)
theorem lH{t:Tr}(h:Ok t):(toR (kW (wl t 1 1))).Perm (kt t):=by
 rw[zf];have:=xu t 1 1 h (by decide);have e:qv (1,1)=1:=by unfold qv;grind
 rw[e]at this;exact this.map _
structure IsTab(W R:Rws):Prop where
 pm:R.Perm (jM W)
 up:(R.map (·.1)).Pairwise λa b=>aD a b=true
theorem pF:∀{a b:List (List Int)},(a.Pairwise λx y=>aD x y=true)->(b.Pairwise λx y=>aD x y=true)->(∀ x,x∈a↔x∈b)->a=b
 | [],[],_,_,_=>rfl
 | [],y::b,_,_,h=>absurd ((h y).mpr mem_cons_self) (by simp)
 | x::a,[],_,_,h=>absurd ((h x).mp mem_cons_self) (by simp)
 | x::a,y::b,h1,h2,h=>by
  rw[pairwise_cons]at h1 h2
  have e:x=y:=by
   rcases mem_cons.mp ((h x).mp mem_cons_self) with z | z
   .exact z
   .rcases mem_cons.mp ((h y).mpr mem_cons_self) with z' | z'
    .exact z'.symm
    .have d:=gw _ _ (h2.1 x z)
     rw[h1.1 y z']at d;cases d
  subst e
  have:a=b:=pF h1.2 h2.2 λz=>by
   have c:=h z;rw[mem_cons,mem_cons]at c
   constructor
   .intro m
    rcases c.mp (.inr m) with e | e
    .have:=h1.1 z m;rw[e,kI]at this;cases this
    .exact e
   .intro m
    rcases c.mpr (.inr m) with e | e
    .have:=h2.1 z m;rw[e,kI]at this;cases this
    .exact e
  rw[this]
theorem IsTab.keys{W R:Rws}(h:IsTab W R)(k:List Int):k∈R.map (·.1)↔k∈W.map (·.1):=by
 rw[<- rR W k];exact(h.pm.map _).mem_iff
theorem IsTab.val{W R:Rws}(h:IsTab W R){x:List Int×Rat}(a:x∈R):x.2=cX W x.1:=by
 rw[<- re,tD (qD W) x (h.pm.mem_iff.mp a)]
theorem IsTab.eqv{W R:Rws}(h:IsTab W R):R=(R.map (·.1)).map λk=>(k,cX W k):=by
 rw[map_map]
 have:∀ x∈R,x=((λk=>(k,cX W k)) ∘ λx=>x.1) x:=λx hx=>by
  show x=(x.1,cX W x.1);rw[<- h.val hx]
 conv=>lhs;rw[<- map_id R]
 exact map_congr_left this
theorem tab_of{g:Rws}{o:List Nat}(w:NdR g)(k:o.Perm (List.range g.length))(x:o.Pairwise λi j=>aD ((g.map (·.1)).getD j []) ((g.map (·.1)).getD i [])=false) :
  (o.map λi=>g.getD i ([],0)).Perm g/\((o.map λi=>g.getD i ([],0)).map (·.1)).Pairwise λa b=>aD a b=true:=by
 constructor
 .have e:(List.range g.length).map (λi=>g.getD i ([],0))=g:=by
   apply ext_getElem
   .simp
   .intro i l B
    rw[getElem_map,getElem_range,List.getD,List.getElem?_eq_getElem B];rfl
  have:=k.map λi=>g.getD i ([],0)
  rw[e]at this;exact this
 .have A:o.Nodup:=k.nodup_iff.mpr nodup_range
  rw[map_map,pairwise_map];have p:=x.and A;refine List.Pairwise.imp_of_mem (λ{i j} s u h=>?_) p;have f:i<g.length:=mem_range.mp (k.mem_iff.mp s);have d:j<g.length:=mem_range.mp (k.mem_iff.mp u);have r:(g.map (·.1)).getD i []=(g.getD i ([],0)).1:=by simp[List.getD,f]
  have q:(g.map (·.1)).getD j []=(g.getD j ([],0)).1:=by simp[List.getD,d]
  rw[r,q]at h
  have v:(g.getD i ([],0)).1≠(g.getD j ([],0)).1:=λe=>by
   have n:(g.map (·.1))[i]'(by simpa using f)=(g.map (·.1))[j]'(by simpa using d):=by
    simp[List.getD,f,d]at e;simpa using e
   have c:∀ i j (f:i<(g.map (·.1)).length) (d:j<(g.map (·.1)).length),i<j->(g.map (·.1))[i]≠(g.map (·.1))[j]:=pairwise_iff_getElem.mp w
   rcases Nat.lt_trichotomy i j with y | y | y
   .exact c i j _ _ y n
   .exact h.2 y
   .exact c j i _ _ y n.symm
  rcases iw _ _ v with z | z
  .exact z
  .have l:=h.1
   rw[z]at l;cases l
abbrev sm(W:Rws):Rat:=(W.map (·.2)).sum
def pm(p:List Int->Bool)(W:Rws):Rat:=(W.map λx=>if p x.1=true then x.2 else 0).sum
def Nn(D:Nat)(x:Rat):Prop:=0<=x/\∃ n:Nat,x*(D:Rat)=(n:Rat)
theorem Nn.add{D:Nat}{x y:Rat}(h:Nn D x)(h':Nn D y):Nn D (x+y):=by
 obtain⟨a,n,e⟩:=h;obtain⟨b,m,f⟩:=h';refine⟨by grind,n+m,?_⟩
 push_cast
 grind
theorem Nn.zero{D:Nat}:Nn D 0:=⟨by grind,0,by grind⟩
structure Gd(D:Nat)(W:Rws):Prop where
 nn:∀ x∈W,Nn D x.2
 le:sm W<=1
theorem ko{D:Nat}:∀{W:Rws},(∀ x∈W,Nn D x.2)->Nn D (sm W)
 | [],_=>by show Nn D 0;exact Nn.zero
 | x::W,h=>by
  show Nn D (x.2+sm W);exact(h x mem_cons_self).add (ko λy a=>h y (mem_cons_of_mem _ a))
theorem pA(A B:Rws):sm (A++B)=sm A+sm B:=by unfold sm;rw[map_append,sum_append]
theorem qF{D:Nat}{p:List Int->Bool}:∀{W:Rws}{i:Nat},(∀ x∈W,Nn D x.2)->Nn D (pm p (W.take i))/\pm p (W.take i)<=sm W
 | [],i,_=>by
  rw[List.take_nil];exact⟨(show Nn D 0 from Nn.zero),(show(0:Rat)<=0 by grind)⟩
 | x::W,0,h=>by
  have:=(ko h).1;exact⟨(show Nn D 0 from Nn.zero),(show(0:Rat)<=sm (x::W) from this)⟩
 | x::W,i+1,h=>by
  have c:=h x mem_cons_self;obtain⟨a,b⟩:=qF (p:=p) (i:=i) λy hy=>h y (mem_cons_of_mem _ hy)
  rw[List.take_succ_cons];have e:pm p (x::W.take i)=(if p x.1=true then x.2 else 0)+pm p (W.take i):=by unfold pm;rw[map_cons,sum_cons]
  have d:sm (x::W)=x.2+sm W:=by unfold sm;rw[map_cons,sum_cons]
  rw[e,d];have:=c.1
  split
  .exact⟨c.add a,by grind⟩
  .exact⟨Nn.zero.add a,by grind⟩
theorem Gd.pm{D:Nat}{W:Rws}(h:Gd D W)(p:List Int->Bool)(i:Nat):Bq D (Tb.pm p (W.take i)):=by
 obtain⟨⟨a,n⟩,b⟩:=qF (p:=p) (i:=i) h.nn;have:=h.le;exact⟨a,by grind,n⟩
theorem Gd.pmA{D:Nat}{W:Rws}(h:Gd D W)(p:List Int->Bool):Bq D (Tb.pm p W):=by
 have:=h.pm p W.length;rwa [take_length]at this
theorem Gd.left{D:Nat}{A B:Rws}(h:Gd D (A++B)):Gd D A:=by
 refine⟨λx a=>h.nn x (mem_append_left _ a),?_⟩;have b:=h.le;rw[pA]at b;have:=(ko (D:=D) (W:=B) λx a=>h.nn x (mem_append_right _ a)).1
 grind
theorem Gd.right{D:Nat}{A B:Rws}(h:Gd D (A++B)):Gd D B:=by
 refine⟨λx a=>h.nn x (mem_append_right _ a),?_⟩;have b:=h.le;rw[pA]at b;have:=(ko (D:=D) (W:=A) λx a=>h.nn x (mem_append_left _ a)).1
 grind
theorem Gd.sm{D:Nat}{W:Rws}(h:Gd D W):Bq D (Tb.sm W):=⟨(ko h.nn).1,h.le,(ko h.nn).2⟩
theorem Gd.one{D:Nat}{W:Rws}(h:Gd D W){x:List Int×Rat}(b:x∈W):Bq D x.2:=by
 obtain⟨A,B,rfl⟩:=List.append_of_mem b;have c:=h.right;have a:Gd D ([x]++B):=c;have:=a.left.sm;have e:Tb.sm [x]=x.2:=by show x.2+0=x.2;grind
 rw[e]at this;exact this
theorem pN{W:Rws}{k:List Int}:cX W k=pm (λy=>decide (y=k)) W:=by
 induction W with
 | nil=>rfl
 | cons w W ih =>
  rw[aZ,ih];have e:pm (λy=>decide (y=k)) (w::W)=(if decide (w.1=k)=true then w.2 else 0)+pm (λy=>decide (y=k)) W:=by unfold pm;rw[map_cons,sum_cons]
  rw[e]
  by_cases h:w.1=k
  .rw[if_pos h,if_pos (decide_eq_true h)]
  .rw[if_neg h,if_neg (by simp[h])]
theorem qi{A B:Rws}(h:A.Perm B):sm A=sm B:=by
 induction h with
 | nil=>rfl
 | @cons x l1 l2 _ ih=>show x.2+sm l1=x.2+sm l2;rw[ih]
 | swap x y l=>show y.2+(x.2+sm l)=x.2+(y.2+sm l);grind
 | trans _ _ a b=>rw[a,b]
theorem pQ(k:List Int)(m:Rat):∀ st:Rws,sm (du k m st)=sm st+m
 | []=>by show m+0=0+m;grind
 | x::r=>by
  rw[du]
  split
  .show(x.2+m)+sm r=x.2+sm r+m;grind
  .show x.2+sm (du k m r)=x.2+sm r+m;rw[pQ k m r];grind
theorem wE(st:Rws):∀ W:Rws,sm (W.foldl (λst w=>du w.1 w.2 st) st)=sm st+sm W:=by
 intro W
 induction W generalizing st with
 | nil=>show _=sm st+0;rw[List.foldl_nil];grind
 | cons w W ih=>rw[foldl_cons,ih,pQ];show _=sm st+(w.2+sm W);grind
theorem xf(W:Rws):sm (jM W)=sm W:=by unfold jM;rw[wE];show(0:Rat)+_=_;grind
theorem IsTab.sm{W R:Rws}(h:IsTab W R):Tb.sm R=Tb.sm W:=by rw[qi h.pm,xf]
theorem IsTab.gd{D:Nat}{W R:Rws}(h:IsTab W R)(g:Gd D W):Gd D R:=by
 refine⟨λx a=>?_,by rw[h.sm];exact g.le⟩;rw[h.val a,pN];have:=g.pmA λy=>decide (y=x.1)
 exact⟨this.1,this.2.2⟩
theorem AK(W:Rws):sm (kR W)=sm W:=by unfold sm kR;rw[map_map];rfl
mutual
def dn:Tr->Nat
 | .leaf _=>1
 | .die ps=>(tot ps).toNat*dns ps
def dns:List (Int×Tr)->Nat
 | []=>1
 | (_,u)::r=>dn u*dns r
end
structure Ch(D:Int)(c:Int×Int):Prop where
 t0:0<=c.1
 le:c.1<=c.2
 b0:0<c.2
 dv:c.2 ∣ D
theorem lcm_step{r n D:Int}(j:0<r)(f:0<n)(s:r ∣ D)(h2:n ∣ D):0<r/(Int.gcd r n:Int)*n/\r ∣ r/(Int.gcd r n:Int)*n/\n ∣ r/(Int.gcd r n:Int)*n/\r/(Int.gcd r n:Int)*n ∣ D:=by
 have w:0<Int.gcd r n:=Int.gcd_pos_of_ne_zero_right _ (by lia);have v:(0:Int)<(Int.gcd r n:Int):=by lia
 obtain⟨c,d⟩:=Int.gcd_dvd_left (a:=r) (b:=n);obtain⟨e,p⟩:=Int.gcd_dvd_right (a:=r) (b:=n)
 have u:r/(Int.gcd r n:Int)=c:=by
  have:=Int.mul_ediv_cancel_left c (show(Int.gcd r n:Int)≠0 by lia);rw[<- d]at this;exact this
 have q:0<c:=by
  rcases Int.lt_or_le 0 c with h | h
  .exact h
  .have:=Int.mul_nonpos_of_nonneg_of_nonpos (Int.le_of_lt v) h;lia
 rw[u];refine⟨Int.mul_pos q f,⟨e,?_⟩,⟨c,Int.mul_comm _ _⟩,?_⟩
 .rw[d]
  conv=>lhs;rw[p]
  generalize (Int.gcd r n:Int)=g;rw[<- Int.mul_assoc,Int.mul_comm c g]
 .have l:(Int.lcm r n:Int) ∣ D:=by
   have:=Nat.lcm_dvd (Int.natAbs_dvd_natAbs.mpr s) (Int.natAbs_dvd_natAbs.mpr h2);exact Int.natAbs_dvd_natAbs.mp (by rw[Int.natAbs_natCast];exact this)
  have i:(Int.lcm r n:Int)=c*n:=by
   have:=Int.gcd_mul_lcm r n
   have k:(Int.gcd r n:Int)*(Int.lcm r n:Int)=r*n:=by
    have h:((Int.gcd r n*Int.lcm r n:Nat):Int)=((r*n).natAbs:Int):=by rw[this,Int.natAbs_mul]
    rw[Int.natCast_mul]at h;have:=Int.mul_pos j f;lia
   have o:(Int.gcd r n:Int)*(Int.lcm r n:Int)=(Int.gcd r n:Int)*(c*n):=by
    rw[k,<- Int.mul_assoc,<- d]
   exact Int.eq_of_mul_eq_mul_left (by lia) o
  rw[<- i];exact l
theorem qo{L t b:Int}(f:0<L)(d:0<b)(h:b ∣ L):((t*(L/b):Int):Rat)=qv (t,b)*(L:Rat):=by
 obtain⟨c,rfl⟩:=h;rw[Int.mul_ediv_cancel_left c (by lia)];have a:(b:Rat)≠0:=by have:b≠0:=(by lia);exact_mod_cast this
 unfold qv
 push_cast
 grind
theorem top_sum{L:Int}(a:0<L):∀{fs:List (Int×Int)},(∀ f∈fs,0<f.2/\f.2 ∣ L)->(((fs.map λf=>f.1*(L/f.2)).sum:Int):Rat)=sumQ fs*(L:Rat)
 | [],_=>by show((0:Int):Rat)=0*_;grind
 | f::fs,h=>by
  have b:=qo (t:=f.1) a (h f mem_cons_self).1 (h f mem_cons_self).2;have d:=top_sum a λx c=>h x (mem_cons_of_mem _ c)
  rw[map_cons,sum_cons,Rat.intCast_add,b,d];have e:sumQ (f::fs)=qv (f.1,f.2)+sumQ fs:=by unfold sumQ;rw[map_cons,sum_cons]
  rw[e]
  grind
theorem low_tops{L T:Int}{q:Rat}(a:0<L)(e:(T:Rat)=q*(L:Rat)):ij T L=fr q:=by
 rw[vU T a,e];have b:(L:Rat)≠0:=by have:L≠0:=(by lia);exact_mod_cast this
 congr 1
 grind
theorem AA(q:Rat):qv (fr q)=q:=by
 unfold qv fr;have:=Rat.num_divInt_den q;rw[Rat.divInt_eq_div]at this;exact this
theorem bq_bt{D:Nat}{q:Rat}(k:0<D)(h:Bq D q):0<=q.num/\q.num<=(q.den:Int)/\(0:Int)<q.den/\(q.den:Int) ∣ (D:Int):=by
 obtain⟨i,j,n,e⟩:=h;have d:q*(D:Rat)=((n:Int):Rat):=by rw[e];rfl
 have g:=AH k d;have l:=j5 (n:Int) (show D≠0 by lia);rw[<- g]at l;have f:(ij (n:Int) (D:Int)).2=(q.den:Int):=by rw[l];rfl
 have c:(D:Int)/(Int.gcd (n:Int) (D:Int):Int)=(q.den:Int):=f;refine⟨Rat.num_nonneg.mpr i,?_,by have:=q.den_pos;lia,?_⟩
 .have:q<=1:=j
  rw[Rat.le_iff]at this;simpa using this
 .rw[<- c]
  exact Int.ediv_dvd_of_dvd (Int.gcd_dvd_right (a:=(n:Int)) (b:=(D:Int)))
def Lm2:Nat:=2 ^ 2720
theorem bt_of{D:Nat}{i:Int}(a:0<D)(b:D<=Lm2)(c:0<=i)(h:i<=(D:Int)):Bt 2721 i:=by
 unfold Bt;have e:(2:Nat) ^ 2721=Lm2*2:=by unfold Lm2;exact Nat.pow_succ 2 2720
 rw[e];have:0<Lm2:=by unfold Lm2;exact Nat.pow_pos (by decide)
 lia
theorem bq_bb{D:Nat}{q:Rat}(f:0<D)(g:D<=Lm2)(h:Bq D q):Bt 2721 q.num/\Bt 2721 (q.den:Int):=by
 obtain⟨a,b,c,d⟩:=bq_bt f h;have:=Int.le_of_dvd (by lia) d;exact⟨bt_of f g a (by lia),bt_of f g (by lia) this⟩
theorem ch_bt{D:Nat}{c:Int×Int}(b:0<D)(a:D<=Lm2)(h:Ch (D:Int) c):Bt 2721 c.1/\Bt 2721 c.2:=by
 have:=Int.le_of_dvd (by lia) h.dv;have:=h.le;have:=h.b0;exact⟨bt_of b a h.t0 (by lia),bt_of b a (by lia) (by lia)⟩
mutual
def Dp:Nat->Tr->Prop
 | _,.leaf ns=>ns.Nodup/\ns.length<=6
 | 0,.die _=>False
 | d+1,.die ps=>1<=ps.length/\ps.length<=4/\Dps d ps
def Dps:Nat->List (Int×Tr)->Prop
 | _,[]=>True
 | d,(m,u)::r=>1<=m/\m<=1000000000/\Dp d u/\Dps d r
end
mutual
theorem uA:∀(t:Tr) (a b:Int),Ok t->∀ w∈wl t a b,w.1.Nodup/\w.1.length<=24
 | .leaf ns,a,b,h,w,hw=>by rw[wl]at hw;rw[Ok]at h;rw[mem_singleton.mp hw];exact h
 | .die ps,a,b,h,w,hw=>by rw[wl]at hw;rw[Ok]at h;exact qw ps a b _ h.2 w hw
theorem qw:∀(ps:List (Int×Tr)) (a b S:Int),Oks ps->∀ w∈wls ps a b S,w.1.Nodup/\w.1.length<=24
 | [],_,_,_,_,w,hw=>by rw[wls]at hw;cases hw
 | (m,u)::r,a,b,S,h,w,hw=>by
  rw[Oks]at h;rw[wls]at hw
  rcases mem_append.mp hw with hw | hw
  .exact qw r a b S h.2.2 w hw
  .exact uA u _ _ h.2.1 w hw
end
theorem nF{k:List Int}{c:Int×Int}:∀ g:Grp,(pushG k c g).length<=g.length+1
 | []=>by rw[pushG];simp
 | y::r=>by
  rw[pushG]
  split
  .simp
  .rw[length_cons,length_cons];have:=nF (k:=k) (c:=c) r;lia
def Gk(W:List Way)(n:Nat)(g:Grp):Prop:=g.length<=n/\∀ x∈g,x.2.length<=n/\∀ c∈x.2,∃ w∈W,w.2=c
theorem Gk.push{W:List Way}{n:Nat}{g:Grp}(h:Gk W n g){w:Way}(b:w∈W):Gk W (n+1) (pushG w.1 w.2 g):=by
 refine⟨Nat.le_trans (nF g) (by have:=h.1;lia),λx hx=>?_⟩
 have f:∀ g:Grp,(∀ x∈g,x.2.length<=n/\∀ c∈x.2,∃ w∈W,w.2=c)->∀ x∈pushG w.1 w.2 g,x.2.length<=n+1/\∀ c∈x.2,∃ w∈W,w.2=c:=by
  intro g
  induction g with
  | nil=>intro _ x hx;rw[pushG]at hx;rw[mem_singleton.mp hx];exact⟨by simp,λc hc=>⟨w,b,(mem_singleton.mp hc).symm⟩⟩
  | cons y r ih =>
   intro h x hx;rw[pushG]at hx;have a:=h y mem_cons_self
   split at hx
   .rcases mem_cons.mp hx with rfl | hx
    .refine⟨by rw[length_append];have:=a.1;simp;lia,λc hc=>?_⟩
     rcases mem_append.mp hc with hc | hc
     .exact a.2 c hc
     .exact⟨w,b,(mem_singleton.mp hc).symm⟩
    .have:=h x (mem_cons_of_mem _ hx);exact⟨by lia,this.2⟩
   .rcases mem_cons.mp hx with rfl | hx
    .exact⟨by have:=a.1;lia,a.2⟩
    .exact ih (λz d=>h z (mem_cons_of_mem _ d)) x hx
 exact f g h.2 x hx
theorem grp_gk(W:List Way):∀ i,i<=W.length->Gk W i (grp (W.take i))
 | 0,_=>⟨Nat.le_refl _,λx a=>by cases a⟩
 | i+1,h=>by
  obtain⟨w,hw⟩:∃ w,W[i]? = some w:=⟨_,List.getElem?_eq_getElem (by lia)⟩
  rw[grp_snoc hw];exact(grp_gk W i (by lia)).push (List.mem_of_getElem? hw)
theorem rat_keys(g:Grp):(rat g).map (·.1)=g.map (·.1):=by unfold rat;rw[map_map];rfl
theorem grp_nd(W:List Way):NdR (rat (grp W)):=by rw[rat_grp];exact qD _
theorem kW_len(t:Tr):(kW (wl t 1 1)).length=lv t:=by unfold kW;rw[length_map,wl_len]
theorem kW_get{W:List Way}{i:Nat}{w:Way}(h:W[i]? = some w):(kW W)[i]? = some (so w.1,w.2):=by unfold kW;rw[List.getElem?_map,h];rfl
def askd(ps k:List Int):List Int:=k.filter λx=>decide (x∈ps)
theorem mem_askd{ps k:List Int}{x:Int}:x∈askd ps k↔x∈k/\x∈ps:=by unfold askd;rw[mem_filter];simp
def tp(L:Int)(r:List Int×Rat):Int:=r.2.num*(L/(r.2.den:Int))
def fV(l:List Int)(x y:Int):Prop:=x∈l/\y∈l
instance (l:List Int) (x y:Int):Decidable (fV l x y):=inferInstanceAs (Decidable (_/\_))
def tF(ps:List Int)(L:Int)(R:Rws)(x y:Int):Int:=(R.map λr=>if fV (askd ps r.1) x y then tp L r else 0).sum
def mm(R:Rws)(x y:Int):Rat:=pm (λk=>decide (fV k x y)) R
theorem tF_snoc{ps:List Int}{L:Int}{R:Rws}{i:Nat}{r:List Int×Rat}(h:R[i]? = some r)(x y:Int):tF ps L (R.take (i+1)) x y=tF ps L (R.take i) x y+if fV (askd ps r.1) x y then tp L r else 0:=by
 unfold tF;rw[take_add_one,h,map_append,sum_append];simp
theorem tF_rat{ps:List Int}{L:Int}(b:0<L){x y:Int}(d:x∈ps)(f:y∈ps):∀{R:Rws},(∀ r∈R,(r.2.den:Int) ∣ L)->((tF ps L R x y:Int):Rat)=mm R x y*(L:Rat)
 | [],_=>by show((0:Int):Rat)=0*_;grind
 | r::R,h=>by
  have g:=tF_rat b d f λz l=>h z (mem_cons_of_mem _ l)
  have i:tF ps L (r::R) x y=(if fV (askd ps r.1) x y then tp L r else 0)+tF ps L R x y:=by unfold tF;rw[map_cons,sum_cons]
  have k:mm (r::R) x y=(if decide (fV r.1 x y)=true then r.2 else 0)+mm R x y:=by unfold mm pm;rw[map_cons,sum_cons]
  rw[i,k,Rat.intCast_add,g];have j:(0:Int)<(r.2.den:Int):=by have:=r.2.den_pos;lia
  by_cases c:fV r.1 x y
  .have a:fV (askd ps r.1) x y:=⟨mem_askd.mpr ⟨c.1,d⟩,mem_askd.mpr ⟨c.2,f⟩⟩
   rw[if_pos a,if_pos (decide_eq_true c)];unfold tp;rw[qo b j (h r mem_cons_self)];have:qv (r.2.num,(r.2.den:Int))=r.2:=AA r.2;rw[this];grind
  .have a:¬fV (askd ps r.1) x y:=λz=>c ⟨(mem_askd.mp z.1).1,(mem_askd.mp z.2).1⟩
   rw[if_neg a,if_neg (by simp[c])]
   grind
abbrev F2t:=Int->Int->Int
def F1(F:F2t)(l:List Int)(n:Nat)(t:Int):F2t:=λx y=>F x y+if x∈l.take n/\y∈l then t else 0
def F2(F:F2t)(l:List Int)(n m:Nat)(t:Int):F2t:=λx y=>F1 F l n t x y+if l[n]? = some x/\y∈l.take m then t else 0
theorem F1_zero(F:F2t)(l:List Int)(t:Int):F1 F l 0 t=F:=by funext x y;unfold F1;simp
theorem F2_zero(F:F2t)(l:List Int)(n:Nat)(t:Int):F2 F l n 0 t=F1 F l n t:=by funext x y;unfold F2;simp
theorem F1_end(F:F2t)(l:List Int)(t:Int)(x y:Int):F1 F l l.length t x y=F x y+if fV l x y then t else 0:=by
 unfold F1;rw[take_length]
 by_cases c:fV l x y
 .rw[if_pos c,if_pos (show x∈l/\y∈l from c)]
 .rw[if_neg c,if_neg (show ¬(x∈l/\y∈l) from c)]
theorem hZ{l:List Int}(g:l.Nodup){n:Nat}{z:Int}(h:l[n]? = some z):z ∉ l.take n:=λf=>by
 obtain⟨i,a⟩:=List.getElem?_of_mem f;rw[List.getElem?_take]at a
 split at a
 .rename_i lt
  obtain⟨b,d⟩:=List.getElem?_eq_some_iff.mp a;obtain⟨c,j⟩:=List.getElem?_eq_some_iff.mp h;exact(pairwise_iff_getElem.mp g i n b c lt) (d.trans j.symm)
 .cases a
theorem fH{l:List Int}{n:Nat}{z x:Int}(h:l[n]? = some z):x∈l.take (n+1)↔x∈l.take n\/x=z:=by
 rw[take_add_one,h,mem_append];simp
theorem F2_end{F:F2t}{l:List Int}(b:l.Nodup){n:Nat}{z t:Int}(h:l[n]? = some z):F2 F l n l.length t=F1 F l (n+1) t:=by
 funext x y
 unfold F2 F1;rw[take_length];have e:=fH (x:=x) h;have a:=hZ b h;rw[h]
 by_cases c:x=z
 .subst c
  rw[if_neg (λw=>a w.1)]
  by_cases d:y∈l
  .rw[if_pos ⟨rfl,d⟩,if_pos ⟨e.mpr (.inr rfl),d⟩];lia
  .rw[if_neg (λw=>d w.2),if_neg (λw=>d w.2)];lia
 .rw[if_neg (λ(w:some z=some x/\y∈l)=>c (Option.some.inj w.1).symm)]
  have:(x∈l.take (n+1)/\y∈l)↔(x∈l.take n/\y∈l):=by rw[e];simp[c]
  by_cases d:x∈l.take n/\y∈l
  .rw[if_pos d,if_pos (this.mpr d)];lia
  .rw[if_neg d,if_neg (λw=>d (this.mp w))];lia
theorem F2_step{F:F2t}{l:List Int}(h:l.Nodup){n m:Nat}{a b t:Int}(f:l[n]? = some a)(h2:l[m]? = some b):F2 F l n (m+1) t=λx y=>if x=a/\y=b then F2 F l n m t a b+t else F2 F l n m t x y:=by
 funext x y
 have e:=fH (x:=y) h2;have g:=hZ h h2;unfold F2;rw[f]
 by_cases c:x=a/\y=b
 .rw[if_pos c]
  obtain⟨rfl,rfl⟩:=c;rw[if_pos ⟨rfl,e.mpr (.inr rfl)⟩,if_neg (λw=>g w.2)];lia
 .rw[if_neg c]
  have:(some a=some x/\y∈l.take (m+1))↔(some a=some x/\y∈l.take m):=by
   rw[e]
   constructor
   .rintro⟨w,w' | w'⟩
    .exact⟨w,w'⟩
    .exact absurd ⟨(Option.some.inj w).symm,w'⟩ c
   .rintro⟨w,w'⟩;exact⟨w,.inl w'⟩
  by_cases d:some a=some x/\y∈l.take m
  .rw[if_pos d,if_pos (this.mpr d)]
  .rw[if_neg d,if_neg (λw=>d (this.mp w))]
theorem askd_nd{ps k:List Int}(h:k.Nodup):(askd ps k).Nodup:=h.filter _
theorem askd_len(ps k:List Int):(askd ps k).length<=k.length:=length_filter_le _ _
theorem askd_snoc{ps k:List Int}{i:Nat}{x:Int}(h:k[i]? = some x):askd ps (k.take (i+1))=askd ps (k.take i)++if x∈ps then [x] else []:=by
 unfold askd;rw[take_add_one,h,filter_append];simp[filter_cons]
theorem zo{D:Nat}{R:Rws}(g:Gd D R)(x y:Int):Bq D (mm R x y):=g.pmA _
theorem tF_le{ps:List Int}{L:Int}{D:Nat}{R:Rws}(a:0<L)(g:Gd D R){x y:Int}(b:x∈ps)(c:y∈ps)(h:∀ r∈R,(r.2.den:Int) ∣ L):0<=tF ps L R x y/\tF ps L R x y<=L:=by
 have e:=tF_rat a b c h;obtain⟨f,j,_⟩:=zo g x y;have i:(0:Rat)<(L:Rat):=by exact_mod_cast a
 have d:=pB f (show(0:Rat)<=(L:Rat) by grind);have k:=pB (show 0<=1 - mm R x y by grind) (show(0:Rat)<=(L:Rat) by grind)
 constructor
 .have:(0:Rat)<=((tF ps L R x y:Int):Rat):=by rw[e];exact d
  exact_mod_cast this
 .have:((tF ps L R x y:Int):Rat)<=(L:Rat):=by rw[e];grind
  exact_mod_cast this
theorem tab_key{t:Tr}(h:Ok t){R:Rws}(f:IsTab (toR (kW (wl t 1 1))) R):∀ r∈R,r.1.Nodup/\r.1.length<=24:=λr b=>by
 have:=(f.keys r.1).mp (mem_map.mpr ⟨r,b,rfl⟩);unfold toR kW at this;rw[map_map,map_map]at this;obtain⟨w,a,e⟩:=mem_map.mp this;have e:so w.1=r.1:=e;obtain⟨c,d⟩:=uA t 1 1 h w a;rw[<- e];exact⟨(dF w.1).nodup_iff.mpr c,by rw[(dF w.1).length_eq];exact d⟩
mutual
theorem xJ:∀(t:Tr) (q:Rat),Ok t->sm (wf t q)=q
 | .leaf ns,q,_=>by rw[wf];show q+0=q;grind
 | .die ps,q,h=>by
  rw[Ok]at h;have b:=kB h.2;have c:0<ps.length:=List.length_pos_iff.mpr h.1;rw[wf,vy ps q (tot ps) h.2 (by lia)];have a:((tot ps:Int):Rat)≠0:=by have:tot ps≠0:=(by lia);exact_mod_cast this
  grind
theorem vy:∀(ps:List (Int×Tr)) (q:Rat) (S:Int),Oks ps->0<S->sm (wfs ps q S)=q*((tot ps:Rat)/(S:Rat))
 | [],q,S,_,hS=>by
  rw[wfs];show(0:Rat)=q*(((0:Int):Rat)/(S:Rat))
  grind
 | (m,u)::r,q,S,h,hS=>by
  rw[Oks]at h;rw[wfs,pA,xJ u _ h.2.1,vy r q S h.2.2 hS];have a:tot ((m,u)::r)=m+tot r:=by unfold tot;rw[map_cons,sum_cons]
  rw[a]
  push_cast
  grind
end
theorem yp(A B:Rws):kR (A++B)=kR A++kR B:=by unfold kR;rw[map_append]
mutual
def bnd:Tr->(List Int->Tr)->Tr
 | .leaf ns,g=>g (so ns)
 | .die ps,g=>.die (vq ps g)
def vq:List (Int×Tr)->(List Int->Tr)->List (Int×Tr)
 | [],_=>[]
 | (m,u)::r,g=>(m,bnd u g)::vq r g
end
mutual
def Dq:Nat->Tr->Prop
 | _,.leaf ns=>ns.Nodup/\ns.length<=12
 | 0,.die _=>False
 | d+1,.die ps=>1<=ps.length/\ps.length<=4/\Dqs d ps
def Dqs:Nat->List (Int×Tr)->Prop
 | _,[]=>True
 | d,(m,u)::r=>1<=m/\m<=1000000000/\Dq d u/\Dqs d r
end
mutual
def Lb:Tr->Prop
 | .leaf ns=>ns.length<=12
 | .die ps=>Lbs ps
def Lbs:List (Int×Tr)->Prop
 | []=>True
 | (_,u)::r=>Lb u/\Lbs r
end
mutual
def Par(o:Int):Tr->Prop
 | .leaf ns=>(∀ x∈ns,x % 2=o)/\ns.length<=6/\ns.Nodup
 | .die ps=>AU o ps
def AU(o:Int):List (Int×Tr)->Prop
 | []=>True
 | (_,u)::r=>Par o u/\AU o r
end
mutual
def Lq:Tr->Prop
 | .leaf ns=>ns.length<=6
 | .die ps=>Lqs ps
def Lqs:List (Int×Tr)->Prop
 | []=>True
 | (_,u)::r=>Lq u/\Lqs r
end
theorem zB{a:List Int}(h:a.Nodup):(so a).Nodup:=(dF a).nodup_iff.mpr h
mutual
theorem nK:∀(t:Tr) (c q:Rat),wf t (c*q)=(wf t q).map λx=>(x.1,c*x.2)
 | .leaf ns,c,q=>by rw[wf,wf];rfl
 | .die ps,c,q=>by rw[wf,wf];exact jU ps c q _
theorem jU:∀(ps:List (Int×Tr)) (c q:Rat) (S:Int),wfs ps (c*q) S=(wfs ps q S).map λx=>(x.1,c*x.2)
 | [],c,q,S=>by rw[wfs,wfs];rfl
 | (m,u)::r,c,q,S=>by
  rw[wfs,wfs,map_append,<- nK u,<- jU r];have e:c*q*((m:Rat)/(S:Rat))=c*(q*((m:Rat)/(S:Rat))):=by grind
  rw[e]
end
theorem zj{W R c:Rws}(h:IsTab W R)(f:(c.map (·.1)).Pairwise λa b=>aD a b=true)(d:∀ k,k∈c.map (·.1)↔k∈W.map (·.1))(i:∀ x∈c,x.2=cX W x.1):c=R:=by
 have e:c.map (·.1)=R.map (·.1):=pF f h.up λk=>by rw[d,h.keys]
 have g:c=(c.map (·.1)).map λk=>(k,cX W k):=by
  rw[map_map]
  have:∀ x∈c,x=((λk=>(k,cX W k)) ∘ λx=>x.1) x:=λx hx=>by
   show x=(x.1,cX W x.1);rw[<- i x hx]
  conv=>lhs;rw[<- map_id c]
  exact map_congr_left this
 rw[g,h.eqv,e]
end Tb
namespace Tu
end Tu
namespace Tb
open FrM Du LexM Tu
def fl(qs:List (Int×List Int)):Tr:=.die (qs.map λz=>(z.1,.leaf z.2))
mutual
def Dk:Nat->Tr->Prop
 | _,.leaf ns=>ns.Nodup/\ns.length<=24
 | 0,.die _=>False
 | d+1,.die ps=>1<=ps.length/\ps.length<=1000/\Dks d ps
def Dks:Nat->List (Int×Tr)->Prop
 | _,[]=>True
 | d,(m,u)::r=>1<=m/\m<=1000000000/\Dk d u/\Dks d r
end
theorem dk_part{d:Nat}{ps:List (Int×Tr)}(h:Dks d ps):∀{p:Int×Tr},p∈ps->1<=p.1/\p.1<=1000000000/\Dk d p.2:=by
 induction ps with
 | nil=>intro p hp;cases hp
 | cons x r ih =>
  intro p hp;obtain⟨m,u⟩:=x;rw[Dks]at h
  rcases mem_cons.mp hp with rfl | hp
  .exact⟨h.1,h.2.1,h.2.2.1⟩
  .exact ih h.2.2.2 hp
theorem cv(p:List Int->Bool)(x:List Int×Rat)(W:Rws):pm p (x::W)=(if p x.1=true then x.2 else 0)+pm p W:=by unfold pm;rw[map_cons,sum_cons]
theorem qI(p:List Int->Bool)(k:List Int)(m:Rat):∀ st:Rws,pm p (du k m st)=pm p st+if p k=true then m else 0
 | []=>by rw[du,cv];show _+0=0+_;grind
 | x::r=>by
  rw[du]
  by_cases c:x.1=k
  .rw[if_pos c,cv,cv,c]
   show(if p k=true then x.2+m else 0)+_=_
   split <;> grind
  .rw[if_neg c,cv,cv,qI p k m r];grind
theorem wP(p:List Int->Bool)(st:Rws):∀ W:Rws,pm p (W.foldl (λst w=>du w.1 w.2 st) st)=pm p st+pm p W:=by
 intro W
 induction W generalizing st with
 | nil=>show _=_+0;grind
 | cons x W ih=>rw[foldl_cons,ih,qI,cv];grind
theorem pP(p:List Int->Bool){A B:Rws}(h:A.Perm B):pm p A=pm p B:=by
 induction h with
 | nil=>rfl
 | cons x _ ih=>rw[cv,cv,ih]
 | swap x y l=>rw[cv,cv,cv,cv];grind
 | trans _ _ ih1 ih2=>rw[ih1,ih2]
theorem IsTab.pms{W R:Rws}(h:IsTab W R)(p:List Int->Bool):Tb.pm p R=Tb.pm p W:=by
 rw[pP p h.pm];unfold jM;rw[wP];show 0+_=_
 grind
theorem uQ{t:Tr}{W R c:Rws}(h:Ok t)(e:kt t=W)(g:IsTab (toR (kW (wl t 1 1))) R)(f:(c.map (·.1)).Pairwise λa b=>aD a b=true)(d:∀ k,k∈c.map (·.1)↔k∈W.map (·.1))(i:∀ x∈c,x.2=cX W x.1):c=R:=by
 have p:=e ▸ lH h;exact zj g f (λk=>(d k).trans (p.map _).mem_iff.symm) λx hx=>by rw[i x hx,r9 p]
end Tb
namespace Tb
open FrM Du LexM
def stm:Nat->List Int->Nat->Tr
 | 0,held,_=>.leaf held
 | s+1,held,n=>.die ((List.range held.length).map (λpl=>(1,stm s (held.set pl (n:Int)) (n+1)))++[((n:Int)+1 - (held.length:Int),stm s held (n+1))])
def stP(s:Nat)(held:List Int)(n:Nat):List (Int×Tr):=(List.range held.length).map (λpl=>((1:Int),stm s (held.set pl (n:Int)) (n+1)))++[((n:Int)+1 - (held.length:Int),stm s held (n+1))]
theorem eE(s:Nat)(held:List Int)(n:Nat):stm (s+1) held n=.die (stP s held n):=rfl
theorem stP_tot(s:Nat)(held:List Int)(n:Nat):tot (stP s held n)=(n:Int)+1:=by
 unfold tot stP;rw[map_append,sum_append,map_map];have:((λx:Int×Tr=>x.1) ∘ λpl=>((1:Int),stm s (held.set pl (n:Int)) (n+1)))=λ_=>(1:Int):=rfl
 rw[this,map_const',length_range,List.sum_replicate_int];simp;lia
structure Hd(held:List Int)(n:Nat):Prop where
 nd:held.Nodup
 lt:∀ x∈held,0<=x/\x<(n:Int)
 len:held.length<=n
theorem ji{l:List Int}{i:Nat}{x y:Int}(h:y∈l.set i x):y∈l\/y=x:=List.mem_or_eq_of_mem_set h
theorem Hd.stay{held:List Int}{n:Nat}(h:Hd held n):Hd held (n+1):=⟨h.nd,λx a=>by have:=h.lt x a;push_cast;lia,by have:=h.len;lia⟩
theorem Hd.put{held:List Int}{n:Nat}(h:Hd held n)(pl:Nat):Hd (held.set pl (n:Int)) (n+1):=by
 refine⟨?_,λx d=>?_,by rw[length_set];have:=h.len;lia⟩
 .rw[List.nodup_iff_pairwise_ne,pairwise_iff_getElem]
  intro i j a b c;rw[getElem_set,getElem_set];rw[length_set]at a b;have f:=pairwise_iff_getElem.mp h.nd i j a b c
  split
  .split
   .lia
   .intro e
    have:=(h.lt _ (getElem_mem b)).2;rw[<- e]at this;lia
  .split
   .intro e
    have:=(h.lt _ (getElem_mem a)).2;rw[e]at this;lia
   .exact f
 .rcases ji d with h1 | h1
  .have:=h.lt x h1;push_cast;lia
  .rw[h1];push_cast;lia
theorem gj{s:Nat}{held:List Int}{n:Nat}{p:Int×Tr}(h:p∈stP s held n):(∃ pl,pl<held.length/\p=(1,stm s (held.set pl (n:Int)) (n+1)))\/p=((n:Int)+1 - (held.length:Int),stm s held (n+1)):=by
 rcases mem_append.mp h with h | h
 .obtain⟨pl,a,rfl⟩:=mem_map.mp h
  exact .inl ⟨pl,mem_range.mp a,rfl⟩
 .exact .inr (mem_singleton.mp h)
theorem vH:∀{ps:List (Int×Tr)},(∀ p∈ps,1<=p.1/\Ok p.2)->Oks ps
 | [],_=>by rw[Oks];trivial
 | (m,u)::r,h=>by
  have:=h _ mem_cons_self;rw[Oks];exact⟨this.1,this.2,vH λp a=>h p (mem_cons_of_mem _ a)⟩
theorem stm_ok:∀(s:Nat){held:List Int}{n:Nat},Hd held n->held.length<=24->Ok (stm s held n)
 | 0,held,n,h,hl=>by rw[stm,Ok];exact⟨h.nd,hl⟩
 | s+1,held,n,h,hl=>by
  rw[eE,Ok];refine⟨by unfold stP;simp,vH λp b=>?_⟩;have:=h.len
  rcases gj b with⟨c,a,rfl⟩ | rfl
  .exact⟨Int.le_refl 1,stm_ok s (h.put c) (by rw[length_set];exact hl)⟩
  .exact⟨by show 1<=_+1 - _;lia,stm_ok s h.stay hl⟩
def Ex(p:List Int->Bool)(t:Tr):Rat:=pm p (kt t)
theorem yu(p:List Int->Bool)(A B:Rws):pm p (A++B)=pm p A+pm p B:=by unfold pm;rw[map_append,sum_append]
theorem mK(p:List Int->Bool)(c:Rat):∀ W:Rws,pm p (kR (W.map λx=>(x.1,c*x.2)))=c*pm p (kR W)
 | []=>by show(0:Rat)=c*0;grind
 | x::W=>by
  have b:kR ((x::W).map λx=>(x.1,c*x.2))=(so x.1,c*x.2)::kR (W.map λx=>(x.1,c*x.2)):=rfl;have a:kR (x::W)=(so x.1,x.2)::kR W:=rfl;rw[b,a,cv,cv,mK p c W];show(if p (so x.1)=true then c*x.2 else 0)+_=c*((if p (so x.1)=true then x.2 else 0)+_)
  split <;> grind
theorem Ab(p:List Int->Bool)(t:Tr)(q:Rat):pm p (kR (wf t q))=q*Ex p t:=by
 have e:wf t q=wf t (q*1):=by rw[Rat.mul_one]
 rw[e,nK,mK];rfl
def wD(p:List Int->Bool)(S:Int)(ps:List (Int×Tr)):Rat:=(ps.map λx=>(x.1:Rat)/(S:Rat)*Ex p x.2).sum
theorem um(p:List Int->Bool)(S:Int):∀ ps:List (Int×Tr),pm p (kR (wfs ps 1 S))=wD p S ps
 | []=>by rw[wfs];rfl
 | (m,u)::r=>by
  rw[wfs,yp,yu,Ab,um p S r];unfold wD;rw[map_cons,sum_cons,Rat.one_mul]
theorem lX(p:List Int->Bool)(a:List Int):Ex p (.leaf a)=if p (so a)=true then 1 else 0:=by
 unfold Ex kt;rw[wf];show(if p (so a)=true then (1:Rat) else 0)+0=_
 grind
theorem oS(p:List Int->Bool)(s:Nat)(held:List Int)(n:Nat):Ex p (stm (s+1) held n)=(((List.range held.length).map λpl=>Ex p (stm s (held.set pl (n:Int)) (n+1))).sum+(((n:Int)+1 - (held.length:Int):Int):Rat)*Ex p (stm s held (n+1)))/(((n:Int)+1:Int):Rat):=by
 have e:Ex p (stm (s+1) held n)=wD p ((n:Int)+1) (stP s held n):=by
  unfold Ex kt;rw[eE,wf,stP_tot,um]
 rw[e];unfold wD stP;rw[map_append,sum_append,map_map]
 have a:∀ l:List Nat,(l.map ((λx:Int×Tr=>(x.1:Rat)/(((n:Int)+1:Int):Rat)*Ex p x.2) ∘ λpl=>((1:Int),stm s (held.set pl (n:Int)) (n+1)))).sum=(l.map λpl=>Ex p (stm s (held.set pl (n:Int)) (n+1))).sum/(((n:Int)+1:Int):Rat):=λl=>by
  induction l with
  | nil=>show(0:Rat)=0/_;grind
  | cons x l ih =>
   rw[map_cons,sum_cons,ih,map_cons,sum_cons];show((1:Int):Rat)/_*_+_=_
   grind
 rw[a];show _+((((n:Int)+1 - (held.length:Int):Int):Rat)/_*_+0)=_
 grind
theorem eK{F:Nat->Rat}{φ:Int->Rat}:∀{held:List Int},(∀ pl x,held[pl]? = some x->F pl=φ x)->((List.range held.length).map F).sum=(held.map φ).sum:=by
 intro held h
 congr 1
 apply ext_getElem
 .simp
 .intro i b a
  rw[getElem_map,getElem_range,getElem_map];exact h i _ (List.getElem?_eq_getElem (by simpa using a))
theorem iZ(c:Rat)(f:Int->Bool):∀ held:List Int,(held.map λx=>if f x=true then 0 else c).sum=(((held.filter λx=>!f x).length:Nat):Rat)*c
 | []=>by show(0:Rat)=((0:Nat):Rat)*c;grind
 | x::r=>by
  rw[map_cons,sum_cons,iZ c f r,filter_cons]
  by_cases h:f x=true
  .rw[if_pos h,if_neg (by simp[h])];grind
  .rw[if_neg h,if_pos (by simpa using h),length_cons]
   push_cast
   grind
theorem kS{held:List Int}{pl:Nat}{x y z:Int}(j:held.Nodup)(h:held[pl]? = some x)(g:y≠z):y∈held.set pl z↔y∈held/\y≠x:=by
 obtain⟨k,d⟩:=List.getElem?_eq_some_iff.mp h
 constructor
 .intro c
  obtain⟨i,a,e⟩:=mem_iff_getElem.mp c;rw[getElem_set]at e;rw[length_set]at a
  split at e
  .exact absurd e.symm g
  .rename_i b
   refine⟨e ▸ getElem_mem a,λw=>b ?_⟩;have f:held[i]=held[pl]:=by rw[e,w,d]
   exact((List.getElem_inj j).mp f).symm
 .rintro⟨c,b⟩
  obtain⟨i,a,e⟩:=mem_iff_getElem.mp c;refine mem_iff_getElem.mpr ⟨i,by rw[length_set];exact a,?_⟩;rw[getElem_set,if_neg,e];intro w;subst w;exact b (by rw[<- e,d])
theorem ug{held:List Int}{pl:Nat}{z:Int}(h:pl<held.length):z∈held.set pl z:=mem_iff_getElem.mpr ⟨pl,by rw[length_set];exact h,by rw[getElem_set,if_pos rfl]⟩
theorem iL:∀(s:Nat){held:List Int}{n:Nat},Hd held n->1<=n->Ex (λk=>decide ((0:Int)∈k)) (stm s held n)=if (0:Int)∈held then ((n:Nat):Rat)/(((n+s:Nat)):Rat) else 0
 | 0,held,n,h,h1=>by
  rw[stm,lX];have e:((0:Int)∈so held)↔(0:Int)∈held:=(dF held).mem_iff;have q:((n:Nat):Rat)≠0:=by have:n≠0:=(by lia);exact_mod_cast this
  by_cases c:(0:Int)∈held
  .rw[if_pos c,if_pos (decide_eq_true (e.mpr c))]
   show(1:Rat)=((n:Nat):Rat)/((n:Nat):Rat)
   grind
  .rw[if_neg c,if_neg (by simp only[decide_eq_true_eq];exact λw=>c (e.mp w))]
 | s+1,held,n,h,h1=>by
  rw[oS,iL s h.stay (by lia)];have q:(((n:Int)+1:Int):Rat)≠0:=by have:(n:Int)+1≠0:=(by lia);exact_mod_cast this
  have l:(((n+1+s:Nat)):Rat)≠0:=by have:n+1+s≠0:=(by lia);exact_mod_cast this
  have i:(((n+(s+1):Nat)):Rat)=(((n+1+s:Nat)):Rat):=by congr 1;lia
  rw[i]
  by_cases c:(0:Int)∈held
  .rw[if_pos c,if_pos c]
   have d:=eK (held:=held) (F:=λa=>Ex (λk=>decide ((0:Int)∈k)) (stm s (held.set a (n:Int)) (n+1))) (φ:=λx=>if decide (x=0)=true then 0 else (((n+1:Nat)):Rat)/(((n+1+s:Nat)):Rat)) λa x hx=>by
    show Ex _ _=_;rw[iL s (h.put a) (by lia)];have f:=kS (y:=0) (z:=(n:Int)) h.nd hx (by lia)
    by_cases z:x=0
    .rw[if_neg (λw=>(f.mp w).2 z.symm),if_pos (decide_eq_true z)]
    .rw[if_pos (f.mpr ⟨c,λw=>z w.symm⟩),if_neg (by simpa using z)]
   rw[d,iZ _ λx=>decide (x=0)]
   have o:((held.filter λx=>!decide (x=0)).length:Int)=(held.length:Int) - 1:=by
    have j:(held.filter λx=>!decide (x=0))=held.erase 0:=by
     rw[List.Nodup.erase_eq_filter h.nd]
     exact List.filter_congr λx _=>by by_cases z:x=0 <;> simp[z]
    rw[j,List.length_erase_of_mem c];have:=length_pos_of_mem c;lia
   have b:(((held.filter λx=>!decide (x=0)).length:Nat):Rat)=((((held.length:Int) - 1:Int)):Rat):=by rw[<- o];rfl
   rw[b]
   push_cast at q l ⊢
   grind
  .rw[if_neg c,if_neg c]
   have d:=eK (held:=held) (F:=λa=>Ex (λk=>decide ((0:Int)∈k)) (stm s (held.set a (n:Int)) (n+1))) (φ:=λx=>if decide (x=x)=true then 0 else (1:Rat)) λa x hx=>by
    show Ex _ _=_;rw[iL s (h.put a) (by lia),if_neg,if_pos (by simp)];intro w
    rcases ji w with w | w
    .exact c w
    .lia
   rw[d,iZ _ λx=>decide (x=x)];have g:(held.filter λx=>!decide (x=x))=[]:=filter_eq_nil_iff.mpr λx _=>by simp
   rw[g];show(((0:Nat):Rat)*1+_*0)/_=0
   grind
def fac:Nat->Nat
 | 0=>1
 | n+1=>(n+1)*fac n
theorem gB:∀ n,0<fac n
 | 0=>by decide
 | n+1=>by rw[fac];exact Nat.mul_pos (by lia) (gB n)
def fq(n:Nat):Rat:=((fac n:Nat):Rat)
theorem hJ(n:Nat):fq n≠0:=by
 unfold fq;have:=gB n;have:fac n≠0:=by lia
 exact_mod_cast this
theorem iG(n:Nat):fq (n+1)=(((n+1:Nat)):Rat)*fq n:=by
 unfold fq;rw[fac]
 push_cast
 rfl
def Qs(s m d r:Nat):Rat:=fq (m+d)*fq r*fq (d+s)/(fq (m+d+s)*fq (d+r))
theorem yZ(m d:Nat):Qs 0 m d 0=1:=by
 unfold Qs;have a:=hJ (m+d);have b:=hJ d;have e:fq 0=1:=rfl;rw[e,Nat.add_zero,Nat.add_zero]
 grind
theorem zE(s m d r:Nat):Qs (s+1) m d (r+1)=(((r+1:Nat)):Rat)/(((m+d+1:Nat)):Rat)*Qs s m (d+1) r:=by
 unfold Qs;have f:m+(d+1)=m+d+1:=by lia
 have c:d+1+s=d+(s+1):=by lia
 have a:m+d+1+s=m+d+(s+1):=by lia
 have b:d+1+r=d+(r+1):=by lia
 rw[f,c,a,b,iG (m+d),iG r];have h:=hJ (m+d+(s+1));have i:=hJ (d+(r+1));have g:(((m+d+1:Nat)):Rat)≠0:=by have:m+d+1≠0:=(by lia);exact_mod_cast this
 grind
theorem zh(s m d r:Nat):Qs (s+1) m d r=(((d+1+r:Nat)):Rat)/(((m+d+1:Nat)):Rat)*Qs s m (d+1) r:=by
 unfold Qs;have f:m+(d+1)=m+d+1:=by lia
 have c:d+1+s=d+(s+1):=by lia
 have a:m+d+1+s=m+d+(s+1):=by lia
 have b:d+1+r=d+r+1:=by lia
 rw[f,c,a,b,iG (m+d),iG (d+r)];have i:=hJ (m+d+(s+1));have j:=hJ (d+r);have h:(((m+d+1:Nat)):Rat)≠0:=by have:m+d+1≠0:=(by lia);exact_mod_cast this
 have g:(((d+r+1:Nat)):Rat)≠0:=by have:d+r+1≠0:=(by lia);exact_mod_cast this
 grind
structure Sb(S:List Int)(m N:Nat):Prop where
 up:S.Pairwise (· < ·)
 lt:∀ x∈S,0<=x/\x<(N:Int)
 len:S.length=m
theorem Sb.nd{S:List Int}{m N:Nat}(h:Sb S m N):S.Nodup:=h.up.imp λ{a b} w e=>by rw[e]at w;lia
theorem pe:∀{l m:List Int},l.Nodup->(∀ x∈l,x∈m)->l.length<=m.length
 | [],_,_,_=>Nat.zero_le _
 | x::l,m,nd,h=>by
  obtain⟨d,f⟩:=nodup_cons.mp nd;have a:=h x mem_cons_self
  have:=pe (m:=m.erase x) f λy b=>by
   have c:y≠x:=λe=>d (by rw[<- e];exact b)
   exact(List.mem_erase_of_ne c).mpr (h y (mem_cons_of_mem _ b))
  rw[List.length_erase_of_mem a]at this;have:=length_pos_of_mem a;rw[length_cons];lia
theorem lF{l m:List Int}(a:l.Nodup)(h2:m.Nodup)(h:∀ x,x∈l↔x∈m):l.Perm m:=(List.perm_ext_iff_of_nodup a h2).mpr h
def gO(S:List Int)(n:Nat):Nat:=(S.filter λx=>decide ((n:Int)<=x)).length
def pT(S:List Int)(n:Nat):List Int:=S.filter λx=>decide (x<(n:Int))
theorem ot(S:List Int)(n:Nat):(pT S n).length+gO S n=S.length:=by
 unfold pT gO
 induction S with
 | nil=>rfl
 | cons x r ih =>
  rw[filter_cons,filter_cons]
  by_cases c:x<(n:Int)
  .rw[if_pos (decide_eq_true c),if_neg (by simp only[decide_eq_true_eq];lia),length_cons,length_cons];lia
  .rw[if_neg (by simpa using c),if_pos (decide_eq_true (by lia)),length_cons,length_cons];lia
theorem wA{S:List Int}{n:Nat}(d:S.Nodup)(h:(n:Int)∈S):gO S n=gO S (n+1)+1:=by
 unfold gO
 have e:(S.filter λx=>decide ((n:Int)<=x)).Perm ((n:Int)::S.filter λx=>decide (((n+1:Nat):Int)<=x)):=by
  refine lF (d.filter _) (nodup_cons.mpr ⟨λw=>?_,d.filter _⟩) λx=>?_
  .have:=(mem_filter.mp w).2
   simp only[decide_eq_true_eq]at this
   push_cast at this
   lia
  .rw[mem_cons,mem_filter,mem_filter,decide_eq_true_eq,decide_eq_true_eq]
   constructor
   .rintro⟨a,b⟩
    by_cases c:x=(n:Int)
    .exact .inl c
    .exact .inr ⟨a,by push_cast;lia⟩
   .rintro(rfl | ⟨a,b⟩)
    .exact⟨h,by lia⟩
    .exact⟨a,by push_cast at b;lia⟩
 rw[e.length_eq,length_cons]
theorem uo{S:List Int}{n:Nat}(h:(n:Int) ∉ S):gO S n=gO S (n+1):=by
 unfold gO
 congr 1
 refine List.filter_congr λx a=>?_
 have:x≠(n:Int):=λe=>h (e ▸ a)
 rw[decide_eq_decide]
 push_cast
 lia
theorem sP{S:List Int}{m N:Nat}(h:Sb S m N):gO S N=0:=by
 unfold gO;rw[List.length_eq_zero_iff,filter_eq_nil_iff];intro x a;have:=(h.lt x a).2;simp only[decide_eq_true_eq];lia
theorem uh{S held:List Int}{m N n:Nat}(g:Sb S m N)(d:Hd held n)(h:held.length=m)(c:∀ x∈S,x<(n:Int)->x∈held):(held.filter λx=>!decide (x∈S)).length=gO S n:=by
 have f:(held.filter λx=>decide (x∈S)).Perm (pT S n):=by
  refine lF (d.nd.filter _) (g.nd.filter _) λx=>?_
  unfold pT;rw[mem_filter,mem_filter,decide_eq_true_eq,decide_eq_true_eq];exact⟨λ⟨a,b⟩=>⟨b,(d.lt x a).2⟩,λ⟨a,b⟩=>⟨c x a b,a⟩⟩
 have i:=ot S n
 have j:(held.filter λx=>decide (x∈S)).length+(held.filter λx=>!decide (x∈S)).length=held.length:=by
  induction held with
  | nil=>rfl
  | cons x r ih =>
   clear f ih c d h
   induction (x::r) with
   | nil=>rfl
   | cons y q ih =>
    rw[filter_cons,filter_cons]
    by_cases w:y∈S
    .rw[if_pos (decide_eq_true w),if_neg (by simp[w]),length_cons,length_cons];lia
    .rw[if_neg (by simpa using w),if_pos (by simp[w]),length_cons,length_cons];lia
 have:=g.len;have:=f.length_eq;lia
theorem oQ{S:List Int}{m:Nat}:∀(s:Nat){held:List Int}{d:Nat},Hd held (m+d)->held.length=m->Sb S m (m+d+s)->Ex (λk=>decide (k=S)) (stm s held (m+d))=if ∀ x∈S,x<((m+d:Nat):Int)->x∈held then Qs s m d (gO S (m+d)) else 0
 | 0,held,d,hd,hl,i=>by
  have i:Sb S m (m+d):=i;rw[stm,lX,sP i,yZ]
  have e:so held=S↔∀ x∈S,x<((m+d:Nat):Int)->x∈held:=by
   constructor
   .intro e x f _
    rw[<- e]at f;exact(dF held).mem_iff.mp f
   .intro h
    have n:∀ x∈S,x∈held:=λx f=>h x f (i.lt x f).2
    have p:S.Perm held:=lF i.nd hd.nd λx=>⟨n x,λf=>Classical.byContradiction λI=>by
     have:=pe (m:=held.erase x) i.nd λy l=>by
      have M:y≠x:=λe=>I (by rw[<- e];exact l)
      exact(List.mem_erase_of_ne M).mpr (n y l)
     rw[List.length_erase_of_mem f,i.len,hl]at this;have:=length_pos_of_mem f
     lia⟩
    exact(so_uniq p (i.up.imp λ{a b} w=>by lia)).symm
  by_cases c:so held=S
  .rw[if_pos (decide_eq_true c),if_pos (e.mp c)]
  .rw[if_neg (by simpa using c),if_neg (λw=>c (e.mpr w))]
 | s+1,held,d,hd,hl,i=>by
  have o:Sb S m (m+(d+1)+s):=by rw[show m+(d+1)+s=m+d+(s+1) by lia];exact i
  have v:m+d+1=m+(d+1):=by lia
  have q:((((m+d:Nat):Int)+1:Int):Rat)≠0:=by have:((m+d:Nat):Int)+1≠0:=(by lia);exact_mod_cast this
  rw[oS];have A:=oQ s (held:=held) (d:=d+1) (by rw[<- v];exact hd.stay) hl o;have B:∀ g,Ex (λk=>decide (k=S)) (stm s (held.set g ((m+d:Nat):Int)) (m+(d+1)))=_:=λg=>oQ s (held:=held.set g ((m+d:Nat):Int)) (d:=d+1) (by rw[<- v];exact hd.put g) (by rw[length_set];exact hl) o
  rw[v,A]
  by_cases c:∀ x∈S,x<((m+d:Nat):Int)->x∈held
  .rw[if_pos c]
   have H:=eK (held:=held) (F:=λg=>Ex (λk=>decide (k=S)) (stm s (held.set g ((m+d:Nat):Int)) (m+(d+1)))) (φ:=λx=>if decide (x∈S)=true then 0 else Qs s m (d+1) (gO S (m+(d+1)))) λg x f=>by
    show Ex _ _=_;rw[B g];have E:=(List.getElem?_eq_some_iff.mp f).1;have P:x∈held:=List.mem_of_getElem? f
    have r:(∀ y∈S,y<((m+(d+1):Nat):Int)->y∈held.set g ((m+d:Nat):Int))↔x ∉ S:=by
     constructor
     .intro w G
      have K:=(hd.lt x P).2;have:=w x G (by push_cast at K ⊢;lia);exact((kS hd.nd f (by lia)).mp this).2 rfl
     .intro w y l C
      by_cases z:y=((m+d:Nat):Int)
      .rw[z];exact ug E
      .exact(kS hd.nd f z).mpr ⟨c y l (by push_cast at C z ⊢;lia),λe=>w (e ▸ l)⟩
    by_cases w:x∈S
    .rw[if_neg (λu=>r.mp u w),if_pos (decide_eq_true w)]
    .rw[if_pos (r.mpr w),if_neg (by simpa using w)]
   rw[H,iZ _ λx=>decide (x∈S),uh i hd hl c]
   by_cases z:((m+d:Nat):Int)∈S
   .have j:¬∀ x∈S,x<((m+(d+1):Nat):Int)->x∈held:=λw=>by
     have:=(hd.lt _ (w _ z (by push_cast;lia))).2;lia
    rw[if_neg j,wA i.nd z,v,zE]
    push_cast at q ⊢
    grind
   .have D:∀ x∈S,x<((m+(d+1):Nat):Int)->x∈held:=λx f w=>c x f (by
     have:x≠((m+d:Nat):Int):=λe=>z (e ▸ f)
     push_cast at w this ⊢
     lia)
    rw[if_pos D,uo z,v,zh,hl]
    push_cast at q ⊢
    grind
  .rw[if_neg c]
   obtain⟨x,f,hxn,hxh⟩:∃ x,x∈S/\x<((m+d:Nat):Int)/\x ∉ held:=by
    apply Classical.byContradiction;intro I;exact c λx f w=>Classical.byContradiction λu=>I ⟨x,f,w,u⟩
   have N:¬∀ x∈S,x<((m+(d+1):Nat):Int)->x∈held:=λw=>hxh (w x f (by push_cast at hxn ⊢;lia))
   have H:=eK (held:=held) (F:=λg=>Ex (λk=>decide (k=S)) (stm s (held.set g ((m+d:Nat):Int)) (m+(d+1)))) (φ:=λx=>if decide (x=x)=true then 0 else (1:Rat)) λg y l=>by
    show Ex _ _=_;rw[B g,if_neg,if_pos (by simp)];intro w
    rcases ji (w x f (by push_cast at hxn ⊢;lia)) with u | u
    .exact hxh u
    .rw[u]at hxn;lia
   rw[H,iZ _ λx=>decide (x=x)];have L:(held.filter λx=>!decide (x=x))=[]:=filter_eq_nil_iff.mpr λx _=>by simp
   rw[L,if_neg N];show(((0:Nat):Rat)*1+_*0)/_=0
   grind
def ch:Nat->Nat->Nat
 | _,0=>1
 | 0,_+1=>0
 | n+1,k+1=>ch n k+ch n (k+1)
theorem ch_zero(n:Nat):ch n 0=1:=by cases n <;> rfl
theorem pf:∀ n k:Nat,ch n (n+k+1)=0
 | 0,k=>by rw[Nat.zero_add];rfl
 | n+1,k=>by
  have e:n+1+k+1=(n+k+1)+1:=by lia
  rw[e,ch,pf n k,show n+k+1+1=n+(k+1)+1 by lia,pf n (k+1)]
theorem fO:∀ k s:Nat,ch (k+s) k*(fac k*fac s)=fac (k+s)
 | 0,s=>by rw[ch_zero,Nat.zero_add];show 1*(1*fac s)=fac s;lia
 | k+1,0=>by
  have e:ch (k+1) (k+1)=ch k k+ch k (k+1):=rfl;have c:=pf k 0;rw[Nat.add_zero]at c;have a:=fO k 0;rw[Nat.add_zero]at a ⊢;have b:fac 0=1:=rfl;rw[b,Nat.mul_one]at a;rw[e,c,Nat.add_zero,b,Nat.mul_one,show fac (k+1)=(k+1)*fac k from rfl,Nat.mul_left_comm,a]
 | k+1,s+1=>by
  have e:k+1+(s+1)=(k+(s+1))+1:=by lia
  have a:=fO k (s+1);have d:=fO (k+1) s;rw[e,ch,show fac (k+(s+1)+1)=(k+(s+1)+1)*fac (k+(s+1)) from rfl,Nat.add_mul];have h:k+1+s=k+(s+1):=by lia
  rw[h]at d
  have g:ch (k+(s+1)) k*(fac (k+1)*fac (s+1))=(k+1)*fac (k+(s+1)):=by
   rw[<- a,fac];rw[Nat.mul_assoc,Nat.mul_left_comm]
  have f:ch (k+(s+1)) (k+1)*(fac (k+1)*fac (s+1))=(s+1)*fac (k+(s+1)):=by
   rw[<- d,show fac (s+1)=(s+1)*fac s from rfl];rw[Nat.mul_left_comm (fac (k+1)),Nat.mul_left_comm]
  rw[g,f,<- Nat.add_mul,show k+1+(s+1)=k+(s+1)+1 by lia]
theorem ch_pos(k s:Nat):0<ch (k+s) k:=by
 have h:=fO k s;have:=gB (k+s)
 rcases Nat.eq_zero_or_pos (ch (k+s) k) with z | z
 .rw[z,Nat.zero_mul]at h;lia
 .exact z
theorem ch_step(k s:Nat):ch (k+1+s) k*(s+1)=ch (k+1+s) (k+1)*(k+1):=by
 have a:=fO k (s+1);have d:=fO (k+1) s;have e:k+(s+1)=k+1+s:=by lia
 rw[e]at a;have p:0<fac k*fac s:=Nat.mul_pos (gB k) (gB s);refine Nat.eq_of_mul_eq_mul_right p ?_
 have c:ch (k+1+s) k*(s+1)*(fac k*fac s)=fac (k+1+s):=by
  rw[<- a,show fac (s+1)=(s+1)*fac s from rfl,Nat.mul_assoc,Nat.mul_left_comm (fac k)]
 have b:ch (k+1+s) (k+1)*(k+1)*(fac k*fac s)=fac (k+1+s):=by
  rw[<- d,show fac (k+1)=(k+1)*fac k from rfl,Nat.mul_assoc,Nat.mul_assoc]
 rw[c,b]
theorem ch_le(n:Nat):∀ k,ch n k<=2 ^ n:=by
 induction n with
 | zero =>
  intro k;cases k with
  | zero=>decide
  | succ k=>exact Nat.zero_le _
 | succ n ih =>
  intro k;cases k with
  | zero=>rw[ch_zero];exact Nat.one_le_two_pow
  | succ k=>rw[ch,Nat.pow_succ];have:=ih k;have:=ih (k+1);lia
theorem AJ(s m r:Nat):Qs s m 0 r=1/((ch (m+s) m:Nat):Rat):=by
 unfold Qs;have h:=fO m s
 have b:((ch (m+s) m:Nat):Rat)*(fq m*fq s)=fq (m+s):=by
  unfold fq;rw[<- h]
  push_cast
  rfl
 have p:((ch (m+s) m:Nat):Rat)≠0:=by have:=ch_pos m s;have:ch (m+s) m≠0:=(by lia);exact_mod_cast this
 have a:=hJ (m+s);have c:=hJ r;rw[Nat.add_zero,Nat.zero_add,Nat.zero_add]
 grind
def SL(many few:Nat):Nat->List (List Int)
 | 0=>[[]]
 | k+1=>((SL many few k).filter λx=>decide (x.length<few)).map (· ++ [(k:Int)])++(SL many few k).filter λx=>decide (few<=x.length+(many - k - 1))
structure Su(x:List Int)(many few k:Nat):Prop where
 up:x.Pairwise (· < ·)
 lt:∀ y∈x,0<=y/\y<(k:Int)
 le:x.length<=few
 en:few<=x.length+(many - k)
theorem su_iff{many g:Nat}:∀{k:Nat},k<=many->g<=many->∀ x,x∈SL many g k↔Su x many g k
 | 0,_,hf,x=>by
  rw[SL,mem_singleton]
  constructor
  .rintro rfl;exact⟨.nil,λy f=>(nomatch f),Nat.zero_le _,by show g<=0+(many - 0);lia⟩
  .intro h
   cases x with
   | nil=>rfl
   | cons y r=>have:=h.lt y mem_cons_self;lia
 | k+1,hk,hf,x=>by
  have p:=λy=>su_iff (k:=k) (by lia) hf y
  rw[SL,mem_append,mem_map,mem_filter,decide_eq_true_eq,p]
  constructor
  .rintro(⟨y,f,rfl⟩ | ⟨h,A⟩)
   .rw[mem_filter,decide_eq_true_eq,p]at f
    obtain⟨⟨a,b,c,d⟩,e⟩:=f;refine⟨pairwise_append.mpr ⟨a,by simp,λu j v s=>?_⟩,λu j=>?_,?_,?_⟩
    .rw[mem_singleton.mp s];exact(b u j).2
    .rcases mem_append.mp j with h | h
     .have:=b u h;push_cast;lia
     .rw[mem_singleton.mp h];push_cast;lia
    .rw[length_append,length_singleton];lia
    .rw[length_append,length_singleton];lia
   .exact⟨h.up,λu j=>by have:=h.lt u j;push_cast;lia,h.le,by lia⟩
  .intro h
   by_cases c:(k:Int)∈x
   .left
    have o:x≠[]:=List.ne_nil_of_mem c;have e:=List.dropLast_concat_getLast o;have l:=h.up;rw[<- e,pairwise_append]at l
    have i:x.getLast o=(k:Int):=by
     have q:=(h.lt _ (List.getLast_mem o)).2;rw[<- e]at c
     rcases mem_append.mp c with w | w
     .have:=l.2.2 _ w _ mem_cons_self
      push_cast at q;lia
     .exact(mem_singleton.mp w).symm
    have z:x.length=x.dropLast.length+1:=by rw[List.length_dropLast];have:=length_pos_of_mem (List.getLast_mem o);lia
    refine⟨x.dropLast,?_,by rw[i]at e;exact e⟩;rw[mem_filter,decide_eq_true_eq,p];refine⟨⟨l.1,λy f=>?_,by have:=h.le;lia,by have:=h.en;lia⟩,by have:=h.le;lia⟩;have a:=l.2.2 y f _ mem_cons_self;rw[i]at a;exact⟨(h.lt y (List.dropLast_subset _ f)).1,a⟩
   .right
    refine⟨⟨h.up,λy f=>?_,h.le,by have:=h.en;lia⟩,by have:=h.en;lia⟩;have:=h.lt y f;have n:y≠(k:Int):=λw=>c (w ▸ f)
    push_cast at this
    lia
theorem SL_nd{many c:Nat}(f:c<=many):∀{k:Nat},k<=many->(SL many c k).Nodup
 | 0,_=>by rw[SL];simp
 | k+1,hk=>by
  have d:=SL_nd f (k:=k) (by lia);rw[SL];refine nodup_append.mpr ⟨?_,d.filter _,λa h b g e=>?_⟩
  .exact pairwise_map.mpr ((d.filter _).imp λ{x y} n e=>n (List.append_cancel_right e))
  .obtain⟨y,_,rfl⟩:=mem_map.mp h
   have:=((su_iff (k:=k) (by lia) f b).mp (mem_filter.mp g).1).lt (k:Int) (by rw[<- e];simp);lia
theorem SL_two(many c:Nat):∀ k:Nat,(SL many c k).length<=2 ^ k
 | 0=>by rw[SL];decide
 | k+1=>by
  have d:=SL_two many c k;rw[SL,length_append,length_map,Nat.pow_succ];have a:=length_filter_le (λx=>decide (x.length<c)) (SL many c k);have b:=length_filter_le (λx=>decide (c<=x.length+(many - k - 1))) (SL many c k);lia
theorem SL_one{many c:Nat}(g:c<=many)(o:many<=c+1):∀{k:Nat},k<=many->(SL many c k).length<=k+1/\((SL many c k).filter λx=>decide (k<=x.length)).length<=1
 | 0,_=>by rw[SL];exact⟨by decide,by decide⟩
 | k+1,hk=>by
  obtain⟨r,i⟩:=SL_one g o (k:=k) (by lia)
  have f:∀ x∈SL many c k,x.length<=k:=λx d=>by
   have h:=(su_iff (k:=k) (by lia) g x).mp d;have n:x.Nodup:=h.up.imp λ{a b} w e=>by rw[e]at w;lia
   have:=pe (m:=(List.range k).map λ(j:Nat)=>(j:Int)) n λy hy=>by
    obtain⟨a,b⟩:=h.lt y hy;exact mem_map.mpr ⟨y.toNat,mem_range.mpr (by lia),by show((y.toNat:Nat):Int)=y;lia⟩
   rwa [length_map,length_range]at this
  have p:((SL many c k).filter λx=>decide (c<=x.length+(many - k - 1))).length<=1:=by
   refine Nat.le_trans ?_ i;rw[<- List.countP_eq_length_filter,<- List.countP_eq_length_filter];refine List.countP_mono_left λx d w=>?_
   simp only[decide_eq_true_eq]at w ⊢;lia
  have q:=length_filter_le (λx=>decide (x.length<c)) (SL many c k);rw[SL]
  constructor
  .rw[length_append,length_map];lia
  .rw[filter_append,length_append]
   have l:(((SL many c k).filter λx=>decide (c<=x.length+(many - k - 1))).filter λx=>decide (k+1<=x.length)).length=0:=by
    rw[List.length_eq_zero_iff,filter_eq_nil_iff];intro x d;have:=f x (mem_filter.mp d).1;simp only[decide_eq_true_eq];lia
   rw[l,Nat.add_zero];refine Nat.le_trans ?_ i;rw[<- List.countP_eq_length_filter,<- List.countP_eq_length_filter,List.countP_map];refine Nat.le_trans (List.Sublist.countP_le List.filter_sublist) ?_;refine List.countP_mono_left λx d w=>?_
   simp only[Function.comp,decide_eq_true_eq,length_append,length_singleton]at w ⊢;lia
def Pn:Nat->Nat->Nat
 | _,0=>1
 | n,s+1=>(n+1)*Pn (n+1) s
theorem Pn_pos:∀(s n:Nat),0<Pn n s
 | 0,_=>Nat.zero_lt_one
 | s+1,n=>Nat.mul_pos (Nat.succ_pos n) (Pn_pos s (n+1))
theorem xF:∀(s n:Nat),n+s<=24->Pn n s<=2 ^ (5*s)
 | 0,_,_=>Nat.le_refl 1
 | s+1,n,h=>by
  have a:=xF s (n+1) (by lia);rw[Pn,show 5*(s+1)=5+5*s by lia,Nat.pow_add];exact Nat.mul_le_mul (by show n+1<=32;lia) a
theorem Pn_lm{s n:Nat}(h:n+s<=24):Pn n s<=Lm2:=by
 unfold Lm2;exact Nat.le_trans (xF s n h) (Nat.pow_le_pow_right (by decide) (by lia))
theorem qT{w:Way}:∀{ps:List (Int×Tr)}{a b S:Int},w∈wls ps a b S->∃ p∈ps,w∈wl p.2 (a*p.1) (b*S)
 | [],a,b,S,h=>by rw[wls]at h;cases h
 | (m,u)::r,a,b,S,h=>by
  rw[wls]at h
  rcases mem_append.mp h with h | h
  .obtain⟨p,d,c⟩:=qT h
   exact⟨p,mem_cons_of_mem _ d,c⟩
  .exact⟨_,mem_cons_self,h⟩
theorem mh:∀(s:Nat){held:List Int}{n:Nat}{a b:Int},held.length<=n->0<=a->∀ w∈wl (stm s held n) a b,w.2.2=b*(Pn n s:Nat)/\0<=w.2.1/\w.2.1<=a*(Pn n s:Nat)
 | 0,held,n,a,b,hl,h0,w,d=>by
  rw[stm,wl]at d;rw[mem_singleton.mp d];show b=b*1/\0<=a/\a<=a*1;lia
 | s+1,held,n,a,b,hl,h0,w,d=>by
  rw[eE,wl,stP_tot]at d;obtain⟨p,l,d⟩:=qT d
  have f:∀{c:Int}{g:List Int},0<=c->c<=(n:Int)+1->g.length<=n+1->w∈wl (stm s g (n+1)) (a*c) (b*((n:Int)+1))->w.2.2=b*(Pn n (s+1):Nat)/\0<=w.2.1/\w.2.1<=a*(Pn n (s+1):Nat):=λ{c g} o r h i=>by
   obtain⟨k,q,u⟩:=mh s h (Int.mul_nonneg h0 o) w i;have j:((Pn n (s+1):Nat):Int)=((n:Int)+1)*(Pn (n+1) s:Nat):=by rw[Pn];push_cast;rfl
   rw[j];refine⟨by rw[k,Int.mul_assoc],q,Int.le_trans u ?_⟩;rw[Int.mul_assoc];exact Int.mul_le_mul_of_nonneg_left (Int.mul_le_mul_of_nonneg_right r (by lia)) h0
  rcases gj l with⟨v,_,rfl⟩ | rfl
  .exact f (c:=1) (by decide) (by lia) (by rw[length_set];lia) d
  .exact f (by lia) (by lia) (by lia) d
theorem stm_ch{s:Nat}{held:List Int}{n:Nat}(d:held.length<=n):∀ w∈wl (stm s held n) 1 1,Ch ((Pn n s:Nat):Int) w.2:=λw c=>by
 obtain⟨a,f,b⟩:=mh s d (by decide) w c;rw[Int.one_mul]at a b;have:=Pn_pos s n;exact⟨f,by rw[a];exact b,by rw[a];lia,by rw[a];exact Int.dvd_refl _⟩
theorem gd_ch{D:Nat}{t:Tr}{R:Rws}(a:Ok t)(r:0<D)(h:∀ w∈wl t 1 1,Ch (D:Int) w.2)(o:IsTab (toR (kW (wl t 1 1))) R):Gd D R:=by
 refine o.gd ⟨λx b=>?_,?_⟩
 .unfold toR at b
  obtain⟨w,f,rfl⟩:=mem_map.mp b;obtain⟨y,j,rfl⟩:=mem_map.mp f;have c:=h y j;obtain⟨e,k⟩:=c.dv;show Nn D (qv y.2);have d:=c.b0
  have g:0<=e:=by
   rcases Int.lt_or_le e 0 with z | z
   .have:=Int.mul_neg_of_pos_of_neg d z;lia
   .exact z
  have q:((y.2.2:Int):Rat)≠0:=by have:y.2.2≠0:=(by lia);exact_mod_cast this
  have l:(0:Rat)<=(y.2.1:Rat):=by exact_mod_cast c.t0
  have n:(0:Rat)<(y.2.2:Rat):=by exact_mod_cast d
  unfold qv;refine⟨?_,(y.2.1*e).toNat,?_⟩
  .rw[Rat.div_def]
   exact pB l (by have:=Rat.inv_pos.mpr n;grind)
  .have i:((D:Nat):Rat)=((y.2.2*e:Int):Rat):=by rw[<- k];rfl
   have p:(((y.2.1*e).toNat:Nat):Rat)=((y.2.1*e:Int):Rat):=by
    have:(((y.2.1*e).toNat:Nat):Int)=y.2.1*e:=Int.toNat_of_nonneg (Int.mul_nonneg c.t0 g);rw[<- this];rfl
   rw[i,p]
   push_cast
   grind
 .rw[qi (lH a)]
  unfold kt;rw[AK,xJ t 1 a]
  grind
theorem qW(s:Nat):∀{ps:List (Int×Tr)}{c:Nat},(∀ p∈ps,lv p.2=c)->lvs ps=ps.length*c
 | [],c,_=>by rw[lvs];simp
 | (m,u)::r,c,h=>by
  rw[lvs,qW s λp a=>h p (mem_cons_of_mem _ a),h _ mem_cons_self,length_cons,Nat.add_mul];lia
theorem stP_len(s:Nat)(held:List Int)(n:Nat):(stP s held n).length=held.length+1:=by unfold stP;simp
theorem stm_lv:∀(s:Nat) (held:List Int) (n:Nat),lv (stm s held n)=(held.length+1) ^ s
 | 0,held,n=>by rw[stm,lv];rfl
 | s+1,held,n=>by
  rw[eE,lv,qW s (c:=(held.length+1) ^ s) λp a=>?_,stP_len,Nat.pow_succ,Nat.mul_comm]
  rcases gj a with⟨b,_,rfl⟩ | rfl
  .show lv (stm s _ _)=_
   rw[stm_lv s,length_set]
  .exact stm_lv s _ _
theorem tO{d:Nat}:∀{ps:List (Int×Tr)},(∀ p∈ps,1<=p.1/\p.1<=1000000000/\Dk d p.2)->Dks d ps
 | [],_=>by rw[Dks];trivial
 | (m,u)::r,h=>by
  have:=h _ mem_cons_self;rw[Dks];exact⟨this.1,this.2.1,this.2.2,tO λp a=>h p (mem_cons_of_mem _ a)⟩
theorem stm_dk:∀(s:Nat){held:List Int}{n:Nat},Hd held n->held.length<=24->n+s<=24->Dk s (stm s held n)
 | 0,held,n,h,hl,_=>by rw[stm,Dk];exact⟨h.nd,hl⟩
 | s+1,held,n,h,hl,hn=>by
  rw[eE,Dk,stP_len];refine⟨by lia,by lia,tO λp a=>?_⟩;have:=h.len
  rcases gj a with⟨b,_,rfl⟩ | rfl
  .exact⟨Int.le_refl 1,by show(1:Int)<=_;decide,stm_dk s (h.put b) (by rw[length_set];exact hl) (by lia)⟩
  .exact⟨by show 1<=_+1 - _;lia,by show _+1 - _<=(1000000000:Int);lia,stm_dk s h.stay hl (by lia)⟩
theorem qB{w:List Int×Rat}:∀{ps:List (Int×Tr)}{q:Rat}{S:Int},w∈wfs ps q S->∃ p∈ps,∃ q',w∈wf p.2 q'
 | [],q,S,h=>by rw[wfs]at h;cases h
 | (m,u)::r,q,S,h=>by
  rw[wfs]at h
  rcases mem_append.mp h with h | h
  .exact⟨_,mem_cons_self,_,h⟩
  .obtain⟨p,b,q',a⟩:=qB h
   exact⟨p,mem_cons_of_mem _ b,q',a⟩
theorem oV:∀(s:Nat){held:List Int}{n:Nat}{q:Rat},Hd held n->∀ w∈wf (stm s held n) q,Hd w.1 (n+s)/\w.1.length=held.length
 | 0,held,n,q,h,w,a=>by
  rw[stm,wf]at a;rw[mem_singleton.mp a];exact⟨h,rfl⟩
 | s+1,held,n,q,h,w,a=>by
  rw[eE,wf]at a;obtain⟨p,b,d,a⟩:=qB a
  rcases gj b with⟨c,_,rfl⟩ | rfl
  .have:=oV s (h.put c) w a
   rw[length_set]at this;exact⟨by rw[show n+(s+1)=n+1+s by lia];exact this.1,this.2⟩
  .have:=oV s h.stay w a
   exact⟨by rw[show n+(s+1)=n+1+s by lia];exact this.1,this.2⟩
theorem zL{l:List Int}(c:l.Nodup)(d:l.Pairwise (·<=·)):l.Pairwise (· < ·):=(d.and c).imp λ{a b} ⟨x,y⟩=>by lia
theorem tH{s:Nat}{held:List Int}{n:Nat}(h:Hd held n){k:List Int}(a:k∈(kt (stm s held n)).map (·.1)):Sb k held.length (n+s):=by
 unfold kt kR at a;rw[map_map]at a;obtain⟨w,c,rfl⟩:=mem_map.mp a;obtain⟨b,f⟩:=oV s h w c;refine⟨zL (zB b.nd) (vo w.1),λx d=>b.lt x ((dF w.1).mem_iff.mp d),?_⟩;show(so w.1).length=_;rw[(dF w.1).length_eq,f]
def rng(m:Nat):List Int:=(List.range m).map λ(k:Nat)=>(k:Int)
theorem rng_hd(m:Nat):Hd (rng m) m:=⟨pairwise_map.mpr (nodup_range.imp λ{a b} n e=>n (by lia)),λx hx=>by obtain⟨k,hk,rfl⟩:=mem_map.mp hx;have:=mem_range.mp hk;show 0<=(k:Int)/\(k:Int)<_;lia,by unfold rng;simp⟩
theorem rng_len(m:Nat):(rng m).length=m:=by unfold rng;simp
theorem mem_rng{m:Nat}{x:Int}:x∈rng m↔0<=x/\x<(m:Int):=by
 unfold rng;rw[mem_map]
 constructor
 .rintro⟨k,c,rfl⟩;have:=mem_range.mp c;lia
 .rintro⟨a,b⟩;exact⟨x.toNat,mem_range.mpr (by lia),by lia⟩
def tS(m s:Nat):Tr:=stm s (rng m) m
theorem qm{m s:Nat}{S:List Int}(h:Sb S m (m+s)):cX (kt (tS m s)) S=1/((ch (m+s) m:Nat):Rat):=by
 have e:=oQ (S:=S) (m:=m) s (held:=rng m) (d:=0) (rng_hd m) (rng_len m) h;rw[pN];show Ex _ (stm s (rng m) m)=_;rw[Nat.add_zero]at e;rw[e,if_pos (λx a w=>mem_rng.mpr ⟨(h.lt x a).1,w⟩),AJ]
theorem tS_tab{m s:Nat}{R c:Rws}(d:m<=24)(l:IsTab (toR (kW (wl (tS m s) 1 1))) R)(i:(c.map (·.1)).Pairwise λa b=>aD a b=true)(g:∀ k,k∈c.map (·.1)↔Sb k m (m+s))(n:∀ x∈c,x.2=1/((ch (m+s) m:Nat):Rat)):c=R:=by
 refine uQ (stm_ok s (rng_hd m) (by rw[rng_len];exact d)) rfl l i (λk=>?_) λx hx=>?_
 .rw[g k]
  constructor
  .intro f
   apply Classical.byContradiction;intro j;have z:=nz j;rw[show stm s (rng m) m=tS m s from rfl,qm f]at z;have p:((ch (m+s) m:Nat):Rat)≠0:=by have:=ch_pos m s;have:ch (m+s) m≠0:=(by lia);exact_mod_cast this
   have:(1:Rat)/((ch (m+s) m:Nat):Rat)*((ch (m+s) m:Nat):Rat)=1:=by grind
   rw[z]at this;have:(0:Rat)=1:=by grind
   exact absurd this (by decide)
  .intro h
   have:=tH (rng_hd m) h;rwa [rng_len]at this
 .have f:=(g x.1).mp (mem_map.mpr ⟨x,hx,rfl⟩)
  rw[n x hx];exact(qm f).symm
theorem tS_mm{m s:Nat}{R:Rws}(b:m<=24)(c:IsTab (toR (kW (wl (tS m s) 1 1))) R):mm R 0 0=((m:Nat):Rat)/(((max 1 (m+s):Nat)):Rat):=by
 unfold mm;have d:Ok (tS m s):=stm_ok s (rng_hd m) (by rw[rng_len];exact b);rw[c.pms,pP _ (lH d)]
 have e:(λk=>decide (fV k 0 0))=λk:List Int=>decide ((0:Int)∈k):=by
  funext k
  rw[decide_eq_decide];exact⟨λh=>h.1,λh=>⟨h,h⟩⟩
 rw[e];show Ex _ (stm s (rng m) m)=_;cases m with
 | zero =>
  have z:∀(s n:Nat),Ex (λk:List Int=>decide ((0:Int)∈k)) (stm s (rng 0) n)=0:=by
   intro s
   induction s with
   | zero=>intro n;rw[stm,lX,if_neg];have:=(dF (rng 0)).mem_iff (a:=0);simp only[decide_eq_true_eq];exact λw=>(nomatch this.mp w)
   | succ s ih =>
    intro n;rw[oS,ih (n+1)];show((0:Rat)+_*0)/_=0
    grind
  rw[z];show(0:Rat)=((0:Nat):Rat)/_
  grind
 | succ m =>
  rw[iL s (rng_hd (m+1)) (by lia),if_pos (mem_rng.mpr (by lia)),show max 1 (m+1+s)=m+1+s by lia]
end Tb
namespace My
open PySem L2 FrM
def top(i:Nat):Stmt:=PySem.Challenge.pw_fewspeak_k67_whole_each_set_with_one_sha.main.body.getD i (.Pass ⟨0,0,0,0⟩)
abbrev aA:Stmt:=bX (top 3) 0
abbrev aB:Stmt:=top 7
abbrev aH:Stmt:=top 8
abbrev dc:Stmt:=top 9
abbrev db:Stmt:=top 10
abbrev bR:Stmt:=top 14
abbrev bi:Stmt:=top 15
abbrev b8:Stmt:=top 16
abbrev aK:Stmt:=bX (top 20) 0
abbrev aO:Stmt:=bX (top 20) 1
abbrev bz:Stmt:=bX (top 20) 2
abbrev bj:Stmt:=bX (top 20) 3
abbrev bp:Stmt:=bX (top 20) 4
abbrev aQ:Stmt:=bX (top 21) 0
abbrev aX:Stmt:=bX (top 21) 1
abbrev bU:Stmt:=bX (top 21) 2
abbrev bA:Stmt:=bX (top 21) 3
abbrev bE:Stmt:=bX (top 21) 4
abbrev bx:Stmt:=bX (top 21) 5
abbrev aL:Stmt:=top 22
abbrev da:Stmt:=top 23
abbrev cq:Stmt:=top 24
abbrev dj:Stmt:=top 25
abbrev bB:Stmt:=top 26
abbrev be:Stmt:=top 27
abbrev aP:Stmt:=bX (top 32) 0
abbrev bZ:Stmt:=bX (top 32) 1
abbrev aG:Stmt:=bX (top 32) 2
abbrev bh:Stmt:=bX (top 32) 4
abbrev bD:Stmt:=top 33
abbrev bQ:Stmt:=top 34
abbrev aW:Stmt:=top 35
abbrev aR:Stmt:=top 36
abbrev bw:Stmt:=top 38
abbrev dh:Stmt:=top 39
abbrev bC:Stmt:=top 40
abbrev bV:Stmt:=top 41
abbrev cK:Stmt:=top 42
abbrev cM:Stmt:=top 43
abbrev bW:Stmt:=top 44
abbrev bT:Stmt:=top 45
abbrev cf:Stmt:=top 46
abbrev cb:Stmt:=top 47
abbrev b9:Stmt:=top 48
abbrev bG:Stmt:=top 49
abbrev bf:Stmt:=top 50
abbrev gD:Stmt:=top 51
theorem fS{N P:List Str}{f:Scope}(a:f.kind=.function)(b:f.isCoroutine=false)(c:f.isGenerator=false)(d:N.take P.length=P)(h:N.Nodup/\(∀ x∈P,f.names.lookup x = some .local \/ f.names.lookup x = some .cell)/\∀ y∈f.names,y.2≠.free):FnScope N P f:=⟨a,b,c,h.1,d,h.2.1,h.2.2⟩
theorem fG:FnScope ["self","place"] ["self","place"] (ad aA):=fS rfl rfl rfl rfl (by decide +kernel)
theorem sc_h:FnScope ["one","other"] ["one","other"] (ad aB):=fS rfl rfl rfl rfl (by decide +kernel)
theorem sc_k:FnScope ["numbers","found","number"] ["numbers"] (ad aH):=fS rfl rfl rfl rfl (by decide +kernel)
theorem sc_K:FnScope ["top","bottom","divisor"] ["top","bottom"] (ad dc):=fS rfl rfl rfl rfl (by decide +kernel)
theorem sc_ab:FnScope ["fractions","bottom"] ["fractions"] (ad db):=fS rfl rfl rfl rfl (by decide +kernel)
theorem m7:FnScope ["thing","low","high"] ["thing","low","high"] (ad bR):=fS rfl rfl rfl rfl (by decide +kernel)
theorem jH:FnScope ["text","signs","most"] ["text","signs","most"] (ad bi):=fS rfl rfl rfl rfl (by decide +kernel)
theorem oP:FnScope ["thing"] ["thing"] (ad b8):=fS rfl rfl rfl rfl (by decide +kernel)
theorem gS:FnScope ["self","kept"] ["self","kept"] (ad aK):=fS rfl rfl rfl rfl (by decide +kernel)
theorem ii:FnScope ["self"] ["self"] (ad aO):=fS rfl rfl rfl rfl (by decide +kernel)
theorem lT:FnScope ["self"] ["self"] (ad bz):=fS rfl rfl rfl rfl (by decide +kernel)
theorem jL:FnScope ["self"] ["self"] (ad bj):=fS rfl rfl rfl rfl (by decide +kernel)
theorem jG:FnScope ["self"] ["self"] (ad bp):=fS rfl rfl rfl rfl (by decide +kernel)
theorem io:FnScope ["self","parts"] ["self","parts"] (ad aQ):=fS rfl rfl rfl rfl (by decide +kernel)
theorem jx:FnScope ["self"] ["self"] (ad aX):=fS rfl rfl rfl rfl (by decide +kernel)
theorem m8:FnScope ["self"] ["self"] (ad bU):=fS rfl rfl rfl rfl (by decide +kernel)
theorem lR:FnScope ["self"] ["self"] (ad bA):=fS rfl rfl rfl rfl (by decide +kernel)
theorem lN:FnScope ["self"] ["self"] (ad bE):=fS rfl rfl rfl rfl (by decide +kernel)
theorem sc_r:FnScope ["self","throw","number","last","many","make"] ["self","throw"] (ad bx):=fS rfl rfl rfl rfl (by decide +kernel)
theorem gF:FnScope ["node","throw"] ["node","throw"] (ad aL):=fS rfl rfl rfl rfl (by decide +kernel)
theorem sc_W:FnScope ["node","throws","here","place","throw"] ["node","throws"] (ad da):=fS rfl rfl rfl rfl (by decide +kernel)
theorem sc_R:FnScope ["node","ways","ahead","here","top","bottom","sides"] ["node"] (ad cq):=fS rfl rfl rfl rfl (by decide +kernel)
theorem sc_U:FnScope ["node","found","kept","chance"] ["node"] (ad dj):=fS rfl rfl rfl rfl (by decide +kernel)
theorem sc_A:FnScope ["node","places","rows","bottom","tops","kept","chance","top","asked","one","other"] ["node","places"] (ad bB):=fS rfl rfl rfl rfl (by decide +kernel)
theorem jQ:FnScope ["one","places","tops","bottom"] ["one","places","tops","bottom"] (ad be):=fS rfl rfl rfl rfl (by decide +kernel)
theorem ip:FnScope ["self","most"] ["self","most"] (ad aP):=fS rfl rfl rfl rfl (by decide +kernel)
theorem mw:FnScope ["self","thing","throw"] ["self","thing","throw"] (ad bZ):=fS rfl rfl rfl rfl (by decide +kernel)
theorem fX:FnScope ["self"] ["self"] (ad aG):=fS rfl rfl rfl rfl (by decide +kernel)
theorem jN:FnScope ["self"] ["self"] (ad bh):=fS rfl rfl rfl rfl (by decide +kernel)
theorem lO:FnScope ["held","most","thing","throw"] ["held","most","thing","throw"] (ad bD):=fS rfl rfl rfl rfl (by decide +kernel)
theorem nN:FnScope ["many","most"] ["many","most"] (ad bQ):=fS rfl rfl rfl rfl (by decide +kernel)
theorem sc_v:FnScope ["held","number","many","most","parts"] ["held","number","many"] (ad aW):=fS rfl rfl rfl rfl (by decide +kernel)
abbrev ee:Expr:=(Be (AY aR 0))
def aM:LamD:=Aa ((("stream_make" : Str) ++ ".<locals>.") ++ "<lambda>") ee
theorem jA:FnScope ["held","number","many"] ["held","number","many"] (ad aR):=fS rfl rfl rfl rfl (by decide +kernel)
theorem lP:FnScope ["_law_script","_law_k"] ["_law_script","_law_k"] (ad bw):=fS rfl rfl rfl rfl (by decide +kernel)
theorem sc_Y:FnScope ["_law_cell","_law_k","_law_number"] ["_law_cell","_law_k"] (ad dh):=fS rfl rfl rfl rfl (by decide +kernel)
theorem sc_B:FnScope ["_law_cell","_law_digits","_law_bases","_law_numbers_here","_law_k","_law_base"] ["_law_cell","_law_digits","_law_bases"] (ad bC):=fS rfl rfl rfl rfl (by decide +kernel)
theorem sc_P:FnScope ["_law_many","_law_few","_law_found","_law_k"] ["_law_many","_law_few"] (ad bV):=fS rfl rfl rfl rfl (by decide +kernel)
theorem sc_V:FnScope ["_law_many","_law_few","_law_found","_law_k","_law_more"] ["_law_many","_law_few"] (ad cK):=fS rfl rfl rfl rfl (by decide +kernel)
theorem sc_X:FnScope ["_law_many","_law_few","_law_most","_law_ways_here","_law_k"] ["_law_many","_law_few","_law_most"] (ad cM):=fS rfl rfl rfl rfl (by decide +kernel)
theorem sc_J:FnScope ["_law_many","_law_most","_law_throws_here","_law_pot","_law_signs","_law_at","_law_k"] ["_law_many","_law_most","_law_throws_here"] (ad bW):=fS rfl rfl rfl rfl (by decide +kernel)
theorem nw:FnScope ["_law_cell","_law_digits","_law_many","_law_most"] ["_law_cell","_law_digits","_law_many","_law_most"] (ad bT):=fS rfl rfl rfl rfl (by decide +kernel)
theorem sc_N:FnScope ["_law_node","_law_throws_here","_law_place_here","e"] ["_law_node","_law_throws_here"] (ad cf):=fS rfl rfl rfl rfl (by decide +kernel)
theorem sc_O:FnScope ["_law_cell","_law_digits","_law_many","_law_most","_law_node","_law_throws_here","_law_due"] ["_law_cell","_law_digits","_law_many","_law_most"] (ad cb):=fS rfl rfl rfl rfl (by decide +kernel)
theorem sc_T:FnScope ["_law_throws_here","_law_many","_law_most","_law_node","_law_k","_law_throw"] ["_law_throws_here","_law_many","_law_most"] (ad b9):=fS rfl rfl rfl rfl (by decide +kernel)
theorem sc_D:FnScope ["_law_way","_law_thing","_law_refused_here"] ["_law_way","_law_thing"] (ad bG):=fS rfl rfl rfl rfl (by decide +kernel)
theorem sc_F:FnScope ["_law_most","_law_refused_here"] ["_law_most"] (ad bf):=fS rfl rfl rfl rfl (by decide +kernel)
theorem sc_ac:FnScope ["_law_script","_law_digits","_law_most","_law_more","_law_bad","_law_many","_law_few","_law_node","_law_due","_law_cell"] ["_law_script"] (ad gD):=fS rfl rfl rfl rfl (by decide +kernel)
def eL(K:Frag)(D C:Addr):Option Bool:=mroIn K D (.ref C)
set_option genInjectivity false in
set_option genSizeOf false in
structure Ad where
 f_h:Addr
 d_h:FuncData
 f_k:Addr
 d_k:FuncData
 f_K:Addr
 d_K:FuncData
 f_ab:Addr
 d_ab:FuncData
 f_x:Addr
 d_x:FuncData
 f_L:Addr
 d_L:FuncData
 f_Z:Addr
 d_Z:FuncData
 f_s:Addr
 d_s:FuncData
 f_W:Addr
 d_W:FuncData
 f_R:Addr
 d_R:FuncData
 f_U:Addr
 d_U:FuncData
 f_A:Addr
 d_A:FuncData
 f_M:Addr
 d_M:FuncData
 f_H:Addr
 d_H:FuncData
 f_p:Addr
 d_p:FuncData
 f_v:Addr
 d_v:FuncData
 f_b:Addr
 d_b:FuncData
 f_u:Addr
 d_u:FuncData
 f_Y:Addr
 d_Y:FuncData
 f_B:Addr
 d_B:FuncData
 f_P:Addr
 d_P:FuncData
 f_V:Addr
 d_V:FuncData
 f_X:Addr
 d_X:FuncData
 f_J:Addr
 d_J:FuncData
 f_Q:Addr
 d_Q:FuncData
 f_N:Addr
 d_N:FuncData
 f_O:Addr
 d_O:FuncData
 f_T:Addr
 d_T:FuncData
 f_D:Addr
 d_D:FuncData
 f_F:Addr
 d_F:FuncData
 f_ac:Addr
 d_ac:FuncData
 c_S:Addr
 c_a:Addr
 i_a:Addr
 e_a:FuncData
 c_q:Addr
 c_n:Addr
 c_aa:Addr
 c_g:Addr
 i_g:Addr
 e_g:FuncData
 c_j:Addr
 i_j:Addr
 e_j:FuncData
 c_l:Addr
 i_l:Addr
 e_l:FuncData
 x_I:Addr
 y_I:FuncData
 v_Pot_come:Value
 x_o:Addr
 y_o:FuncData
 x_E:Addr
 y_E:FuncData
 x_i:Addr
 y_i:FuncData
 x_m:Addr
 y_m:FuncData
 x_C:Addr
 y_C:FuncData
 x_G:Addr
 y_G:FuncData
 x_t:Addr
 y_t:FuncData
 x_y:Addr
 y_y:FuncData
 x_w:Addr
 y_w:FuncData
 x_z:Addr
 y_z:FuncData
 x_r:Addr
 y_r:FuncData
 lc_b:Addr
 lp_b:Addr
abbrev dO:List (Pos×Str):=[(Bu ee,((("stream_make" : Str) ++ ".<locals>.") ++ "<lambda>"))]
theorem jt:(dO).Pairwise λx y=>¬(x.1.line=y.1.line/\x.1.col=y.1.col):=by decide +kernel
def tabs(a:Ad):nu:=[(a.lp_b,dO)]
theorem iW(a:Ad):(a.lp_b,dO)∈tabs a:=(.head _)
structure Txt(K:Frag)(mg:Str->Option Value)(a:Ad):Prop where
 lcd_b:a.d_b.code=.ref a.lc_b
 lch_b:codeHdIn K a.lc_b a.lp_b=true
 tnd:((tabs a).map (·.1)).Nodup
 F_h:Fun K "greatest_divisor" "greatest_divisor" aB a.f_h a.d_h
 B_h:Binds K a.d_h ["one","other"] []
 m_h:mg "greatest_divisor" = some (.ref a.f_h)
 F_k:Fun K "least_multiple" "least_multiple" aH a.f_k a.d_k
 B_k:Binds K a.d_k ["numbers"] []
 m_k:mg "least_multiple" = some (.ref a.f_k)
 F_K:Fun K "share" "share" dc a.f_K a.d_K
 B_K:Binds K a.d_K ["top","bottom"] []
 m_K:mg "share" = some (.ref a.f_K)
 F_ab:Fun K "total" "total" db a.f_ab a.d_ab
 B_ab:Binds K a.d_ab ["fractions"] []
 m_ab:mg "total" = some (.ref a.f_ab)
 F_x:Fun K "is_whole" "is_whole" bR a.f_x a.d_x
 B_x:Binds K a.d_x ["thing","low","high"] []
 m_x:mg "is_whole" = some (.ref a.f_x)
 F_L:Fun K "is_made_of" "is_made_of" bi a.f_L a.d_L
 B_L:Binds K a.d_L ["text","signs","most"] []
 m_L:mg "is_made_of" = some (.ref a.f_L)
 F_Z:Fun K "is_name" "is_name" b8 a.f_Z a.d_Z
 B_Z:Binds K a.d_Z ["thing"] []
 m_Z:mg "is_name" = some (.ref a.f_Z)
 F_s:Fun K "can_be_thrown" "can_be_thrown" aL a.f_s a.d_s
 B_s:Binds K a.d_s ["node","throw"] []
 m_s:mg "can_be_thrown" = some (.ref a.f_s)
 F_W:Fun K "drawn" "drawn" da a.f_W a.d_W
 B_W:Binds K a.d_W ["node","throws"] []
 m_W:mg "drawn" = some (.ref a.f_W)
 F_R:Fun K "ways_of" "ways_of" cq a.f_R a.d_R
 B_R:Binds K a.d_R ["node"] []
 m_R:mg "ways_of" = some (.ref a.f_R)
 F_U:Fun K "table" "table" dj a.f_U a.d_U
 B_U:Binds K a.d_U ["node"] []
 m_U:mg "table" = some (.ref a.f_U)
 F_A:Fun K "matrix_of" "matrix_of" bB a.f_A a.d_A
 B_A:Binds K a.d_A ["node","places"] []
 m_A:mg "matrix_of" = some (.ref a.f_A)
 F_M:Fun K "matrix_row" "matrix_row" be a.f_M a.d_M
 B_M:Binds K a.d_M ["one","places","tops","bottom"] []
 m_M:mg "matrix_row" = some (.ref a.f_M)
 F_H:Fun K "held_with" "held_with" bD a.f_H a.d_H
 B_H:Binds K a.d_H ["held","most","thing","throw"] []
 m_H:mg "held_with" = some (.ref a.f_H)
 F_p:Fun K "streamed" "streamed" bQ a.f_p a.d_p
 B_p:Binds K a.d_p ["many","most"] []
 m_p:mg "streamed" = some (.ref a.f_p)
 F_v:Fun K "stream_node" "stream_node" aW a.f_v a.d_v
 B_v:Binds K a.d_v ["held","number","many"] []
 m_v:mg "stream_node" = some (.ref a.f_v)
 F_b:Fun K "stream_make" "stream_make" aR a.f_b a.d_b
 B_b:Binds K a.d_b ["held","number","many"] []
 m_b:mg "stream_make" = some (.ref a.f_b)
 F_u:Fun K "_law_cell_at" "_law_cell_at" bw a.f_u a.d_u
 B_u:Binds K a.d_u ["_law_script","_law_k"] []
 m_u:mg "_law_cell_at" = some (.ref a.f_u)
 F_Y:Fun K "_law_mix" "_law_mix" dh a.f_Y a.d_Y
 B_Y:Binds K a.d_Y ["_law_cell","_law_k"] []
 m_Y:mg "_law_mix" = some (.ref a.f_Y)
 F_B:Fun K "_law_numbers" "_law_numbers" bC a.f_B a.d_B
 B_B:Binds K a.d_B ["_law_cell","_law_digits","_law_bases"] []
 m_B:mg "_law_numbers" = some (.ref a.f_B)
 F_P:Fun K "_law_choose" "_law_choose" bV a.f_P a.d_P
 B_P:Binds K a.d_P ["_law_many","_law_few"] []
 m_P:mg "_law_choose" = some (.ref a.f_P)
 F_V:Fun K "_law_sets" "_law_sets" cK a.f_V a.d_V
 B_V:Binds K a.d_V ["_law_many","_law_few"] []
 m_V:mg "_law_sets" = some (.ref a.f_V)
 F_X:Fun K "_law_ways" "_law_ways" cM a.f_X a.d_X
 B_X:Binds K a.d_X ["_law_many","_law_few","_law_most"] []
 m_X:mg "_law_ways" = some (.ref a.f_X)
 F_J:Fun K "_law_by_pot" "_law_by_pot" bW a.f_J a.d_J
 B_J:Binds K a.d_J ["_law_many","_law_most","_law_throws_here"] []
 m_J:mg "_law_by_pot" = some (.ref a.f_J)
 F_Q:Fun K "_law_throws" "_law_throws" bT a.f_Q a.d_Q
 B_Q:Binds K a.d_Q ["_law_cell","_law_digits","_law_many","_law_most"] []
 m_Q:mg "_law_throws" = some (.ref a.f_Q)
 F_N:Fun K "_law_place" "_law_place" cf a.f_N a.d_N
 B_N:Binds K a.d_N ["_law_node","_law_throws_here"] []
 m_N:mg "_law_place" = some (.ref a.f_N)
 F_O:Fun K "_law_drawn" "_law_drawn" cb a.f_O a.d_O
 B_O:Binds K a.d_O ["_law_cell","_law_digits","_law_many","_law_most"] []
 m_O:mg "_law_drawn" = some (.ref a.f_O)
 F_T:Fun K "_law_parts" "_law_parts" b9 a.f_T a.d_T
 B_T:Binds K a.d_T ["_law_throws_here","_law_many","_law_most"] []
 m_T:mg "_law_parts" = some (.ref a.f_T)
 F_D:Fun K "_law_refused" "_law_refused" bG a.f_D a.d_D
 B_D:Binds K a.d_D ["_law_way","_law_thing"] []
 m_D:mg "_law_refused" = some (.ref a.f_D)
 F_F:Fun K "_law_too_many" "_law_too_many" bf a.f_F a.d_F
 B_F:Binds K a.d_F ["_law_most"] []
 m_F:mg "_law_too_many" = some (.ref a.f_F)
 F_ac:Fun K "law" "law" gD a.f_ac a.d_ac
 m_ac:mg "law" = some (.ref a.f_ac)
 g_LETTERS:∃ u,mg "LETTERS" = some u/\RelV (.str "abcdefghijklmnopqrstuvwxyz") u
 g_MOST_LETTERS:∃ u,mg "MOST_LETTERS" = some u/\RelV (.int 8) u
 g_MOST_WAYS:∃ u,mg "MOST_WAYS" = some u/\RelV (.int 4096) u
 g_MOST_KEPT:∃ u,mg "MOST_KEPT" = some u/\RelV (.int 24) u
 g_MOST_STREAMED:∃ u,mg "MOST_STREAMED" = some u/\RelV (.int 24) u
 g_MOST_COME:∃ u,mg "MOST_COME" = some u/\RelV (.int 300) u
 mc_a:mg "NoThrow" = some (.ref a.c_a)
 kc_NoThrow:keepIn K (.ref a.c_a)=true
 xc_a:XCls K a.c_a
 xh_a:XHd K a.c_a
 xi_NoThrow:xIn K a.c_a (some (.ref a.i_a))=true
 fn_NoThrow:isFn K (.ref a.i_a)=true
 Fi_a:Fun K "__init__" "NoThrow.__init__" aA a.i_a a.e_a
 Bi_a:Binds K a.e_a ["self","place"] []
 sx_NoThrow_place:∃ cd,XSet K a.c_a "place" cd
 mc_q:mg "TooMany" = some (.ref a.c_q)
 kc_TooMany:keepIn K (.ref a.c_q)=true
 xc_q:XCls K a.c_q
 xh_q:XHd K a.c_q
 xi_TooMany:xIn K a.c_q none=true
 mc_n:mg "NoThing" = some (.ref a.c_n)
 kc_NoThing:keepIn K (.ref a.c_n)=true
 xc_n:XCls K a.c_n
 xh_n:XHd K a.c_n
 xi_NoThing:xIn K a.c_n none=true
 mc_g:mg "Told" = some (.ref a.c_g)
 cl_g:Cls K a.c_g
 mk_g:Mk K a.c_g a.i_g
 Fi_g:Fun K "__init__" "Told.__init__" aK a.i_g a.e_g
 Bi_g:Binds K a.e_g ["self","kept"] []
 na_Told_rising:NoAttr K a.c_g "rising"
 mt_i:Meth K a.c_g "is_told" a.x_i
 mt_C:Meth K a.c_g "kept" a.x_C
 mt_t:Meth K a.c_g "sides" a.x_t
 mt_w:Meth K a.c_g "parts" a.x_w
 mc_j:mg "Die" = some (.ref a.c_j)
 cl_j:Cls K a.c_j
 mk_j:Mk K a.c_j a.i_j
 Fi_j:Fun K "__init__" "Die.__init__" aQ a.i_j a.e_j
 Bi_j:Binds K a.e_j ["self","parts"] []
 na_Die_makes:NoAttr K a.c_j "makes"
 mt_m:Meth K a.c_j "is_told" a.x_m
 mt_G:Meth K a.c_j "kept" a.x_G
 mt_y:Meth K a.c_j "sides" a.x_y
 mt_z:Meth K a.c_j "parts" a.x_z
 mt_r:Meth K a.c_j "after" a.x_r
 mc_l:mg "Pot" = some (.ref a.c_l)
 cl_l:Cls K a.c_l
 mk_l:Mk K a.c_l a.i_l
 Fi_l:Fun K "__init__" "Pot.__init__" aP a.i_l a.e_l
 Bi_l:Binds K a.e_l ["self","most"] []
 na_Pot_most:NoAttr K a.c_l "most"
 na_Pot_seen:NoAttr K a.c_l "seen"
 na_Pot_held:NoAttr K a.c_l "held"
 mt_I:Meth K a.c_l "come" a.x_I
 mt_o:Meth K a.c_l "next_sides" a.x_o
 mt_E:Meth K a.c_l "things" a.x_E
 F_I:FunD K "come" "Pot.come" bZ a.x_I a.y_I
 Bd_Pot_come:Binds K a.y_I ["self","thing","throw"] [a.v_Pot_come]
 Rv_Pot_come:RelV (.int 0) a.v_Pot_come
 B_I:Binds K a.y_I ["self","thing","throw"] []
 F_o:Fun K "next_sides" "Pot.next_sides" aG a.x_o a.y_o
 B_o:Binds K a.y_o ["self"] []
 F_E:Fun K "things" "Pot.things" bh a.x_E a.y_E
 B_E:Binds K a.y_E ["self"] []
 F_i:Fun K "is_told" "Told.is_told" aO a.x_i a.y_i
 B_i:Binds K a.y_i ["self"] []
 F_m:Fun K "is_told" "Die.is_told" aX a.x_m a.y_m
 B_m:Binds K a.y_m ["self"] []
 F_C:Fun K "kept" "Told.kept" bz a.x_C a.y_C
 B_C:Binds K a.y_C ["self"] []
 F_G:Fun K "kept" "Die.kept" bU a.x_G a.y_G
 B_G:Binds K a.y_G ["self"] []
 F_t:Fun K "sides" "Told.sides" bj a.x_t a.y_t
 B_t:Binds K a.y_t ["self"] []
 F_y:Fun K "sides" "Die.sides" bA a.x_y a.y_y
 B_y:Binds K a.y_y ["self"] []
 F_w:Fun K "parts" "Told.parts" bp a.x_w a.y_w
 B_w:Binds K a.y_w ["self"] []
 F_z:Fun K "parts" "Die.parts" bE a.x_z a.y_z
 B_z:Binds K a.y_z ["self"] []
 F_r:Fun K "after" "Die.after" bx a.x_r a.y_r
 B_r:Binds K a.y_r ["self","throw"] []
 tt:eL K a.c_n a.c_n=some true
 tm2:eL K a.c_q a.c_q=some true
 tw3:eL K a.c_a a.c_a=some true
 z_abs:mg "abs" = none
 z_all:mg "all" = none
 z_bool:mg "bool" = none
 z_enumerate:mg "enumerate" = none
 z_int:mg "int" = none
 z_isinstance:mg "isinstance" = none
 z_len:mg "len" = none
 z_list:mg "list" = none
 z_max:mg "max" = none
 z_min:mg "min" = none
 z_range:mg "range" = none
 z_sorted:mg "sorted" = none
 z_str:mg "str" = none
 z_sum:mg "sum" = none
 z_tuple:mg "tuple" = none
 bl:∀(s:Shared) (u:Value),BindsTo s a.d_ac ⟨[u],[]⟩ [("_law_script",u)]
def qa(ns:List Int)(k:Int):Int:=if k<(ns.length:Int) then ns.getD k.toNat 0 else 0
inductive spCell(K:Frag)(vs:List V)(H:Hp)(Q:VK)(_E:XK):Prop
 | mk(p:Addr)(ns:List Int)(k:Int)(h0:vs=[.ref p,.int k])(h1:SqL K H p (ns.map V.int))(h2:ns.length<=63)(h3:0<=k)(h4:k<=1000)(h5:Q (.int (qa ns k)) H):spCell K vs H Q _E
inductive spMix(vs:List V)(H:Hp)(Q:VK)(_E:XK):Prop
 | mk(c k:Int)(h0:vs=[.int c,.int k])(h1:0<=k)(h2:k<=1000)(h3:∀ r:Int,0<=r->Q (.int r) H):spMix vs H Q _E
inductive spLaw(K:Frag)(ts:List Addr)(vs:List V)(H:Hp)(Q:VK)(_E:XK):Prop
 | mk(p:Addr)(ns:List Int)(h0:vs=[.ref p])(h1:SqL K H p (ns.map V.int))(h2:ns.length<=63)(h3:(∀ P∈ts,H P=some (.tbl #[])))(h4:∀ H',Q (.bl true) H'):spLaw K ts vs H Q _E
theorem law_start{K:Frag}{c:List Addr}{H:Hp}{a:Addr}{b:List Int}(f:b.length<=63)(d:∀ P∈c,H P=some (.tbl #[]))(g:SqL K H a (b.map V.int)):spLaw K c [.ref a] H (λv _=>v=.bl true) λ_ _ _=>False:=⟨a,b,rfl,g,f,d,λ_=>rfl⟩
abbrev Below:List Int->List Int->Prop:=PySem.Paired (λb v=>0<=v/\v<b)
theorem Below.snoc{b v:Int}(r:0<=v/\v<b):∀{bs ns:List Int},Below bs ns->Below (bs++[b]) (ns++[v])
 | _,_,.nil=>.cons r .nil
 | _,_,.cons q t=>.cons q (Below.snoc r t)
inductive spNumbers(K:Frag)(vs:List V)(H:Hp)(Q:VK)(_E:XK):Prop
 | mk(c:Int)(d:Bool)(p:Addr)(bs:List Int)(h0:vs=[.int c,.bl d,.ref p])(h1:H p=some (.lst (bs.map V.int)))(h2:bs.length<=100)(h3:(∀ b∈bs,1<=b/\b<=1000000))(h4:∀ H' l ns,Same H H'->H l=none->H' l=some (.lst (ns.map V.int))->Below bs ns->Q (.ref l) H'):spNumbers K vs H Q _E
theorem gQ(x y:V):[x,y].length<=sizeLine:=by show 2<=sizeLine;decide
def mU(t:Str):Bool:=decide (1<=t.cps.size/\t.cps.size<=8) && t.cps.toList.all λc=>decide (97<=c/\c<=122)
inductive spMade(vs:List V)(H:Hp)(Q:VK)(_E:XK):Prop
 | mk(t:Str)(h0:vs=[.str t,.str "abcdefghijklmnopqrstuvwxyz",.int 8])(h1:t.length<=sizeLine)(h2:∀ H',Same H H'->Q (.bl (mU t)) H'):spMade vs H Q _E
inductive Kd | i (n:Int) | s (t:Str) | o
inductive Thg(H:Hp):V->Kd->Prop
 | int (i:Int):Thg H (.int i) (.i i)
 | str (t:Str) (h:t.length<=100) (h2:∀ c∈t.cps.toList,c<128):Thg H (.str t) (.s t)
 | bl (b:Bool):Thg H (.bl b) .o
 | non:Thg H .non .o
 | lst (p:Addr) (xs:List V) (e:H p=some (.lst xs)):Thg H (.ref p) .o
 | tup (p:Addr) (xs:List V) (e:H p=some (.tup xs)):Thg H (.ref p) .o
 | dK (p:Addr) (e:H p=some (.dK [])):Thg H (.ref p) .o
theorem Thg.same{H H':Hp}{x:V}{o:Kd}(s:Same H H')(h:Thg H x o):Thg H' x o:=by
 cases h with
 | int i=>exact .int i
 | str t h h2=>exact .str t h h2
 | bl b=>exact .bl b
 | non=>exact .non
 | lst p xs e=>exact .lst p xs (s _ _ e)
 | tup p xs e=>exact .tup p xs (s _ _ e)
 | dK p e=>exact .dK p (s _ _ e)
def inK(lo hi:Int):Kd->Bool
 | .i n=>decide (lo<=n/\n<=hi)
 | _=>false
def nmK:Kd->Bool
 | .s t=>mU t
 | _=>false
inductive spWhole(vs:List V)(H:Hp)(Q:VK)(_E:XK):Prop
 | mk(x:V)(lo hi:Int)(k:Kd)(h0:vs=[x,.int lo,.int hi])(h1:Thg H x k)(h2:Q (.bl (inK lo hi k)) H):spWhole vs H Q _E
inductive spName(vs:List V)(H:Hp)(Q:VK)(_E:XK):Prop
 | mk(x:V)(k:Kd)(h0:vs=[x])(h1:Thg H x k)(h2:∀ H',Same H H'->Q (.bl (nmK k)) H'):spName vs H Q _E
structure PotAt(a:Ad)(H:Hp)(x h:Addr)(m n:Int)(ts:List Str):Prop where
 at_:∃ dx,H x=some (.ins a.c_l dx [("most",.int m),("seen",.int n),("held",.ref h)])
 held:H h=some (.lst (ts.map V.str))
theorem PotAt.same{a:Ad}{H H':Hp}{x h:Addr}{m n:Int}{b:List Str}(s:Same H H')(p:PotAt a H x h m n b):PotAt a H' x h m n b:=⟨let ⟨dx,e⟩:=p.at_;⟨dx,s _ _ e⟩,s _ _ p.held⟩
def SB(x:Addr)(H H':Hp):Prop:=∀ b o,b≠x->H b=some o->H' b=some o
def Okp(m n:Int)(ts:List Str):Prop:=1<=m/\m<=24/\0<=n/\n<=300/\(ts.length:Int)=(if n<m then n else m)
def sides(m n:Int):Int:=if n<m then 1 else n+1
def gK{α:Type}(m:Int)(xs:List α)(t:α)(th:Int):List α:=if (xs.length:Int)<m then xs++[t] else if th<m then xs.set th.toNat t else xs
def nxt(m:Int)(ts:List Str)(t:Str)(th:Int):List Str:=gK m ts t th
theorem iK{a c:Type}(f:a->c)(m:Int)(xs:List a)(t:a)(b:Int):gK m (xs.map f) (f t) b=(gK m xs t b).map f:=by
 unfold gK;rw[length_map]
 split
 .rw[map_append];rfl
 .split
  .rw[List.map_set]
  .rfl
inductive spHeld(vs:List V)(H:Hp)(Q:VK)(_E:XK):Prop
 | mk(h:Addr)(m th:Int)(t:V)(xs:List V)(h0:vs=[.ref h,.int m,t,.int th])(h1:H h=some (.lst xs))(h2:xs.length<=24)(h3:m<=24)(h4:0<=th)(h5:((xs.length:Int)<m\/(xs.length:Int)=m))(h6:∀ H' h',Same H H'->H' h'=some (.lst (gK m xs t th))->(h'=h\/H h'=none)->Q (.ref h') H'):spHeld vs H Q _E
inductive spSides(a:Ad)(vs:List V)(H:Hp)(Q:VK)(_E:XK):Prop
 | mk(x h:Addr)(m n:Int)(ts:List Str)(h0:vs=[.ref x])(h1:PotAt a H x h m n ts)(h2:Q (.int (sides m n)) H):spSides a vs H Q _E
inductive spThings(a:Ad)(vs:List V)(H:Hp)(Q:VK)(_E:XK):Prop
 | mk(x h:Addr)(m n:Int)(ts:List Str)(h0:vs=[.ref x])(h1:PotAt a H x h m n ts)(h2:∀ H' r,Same H H'->H r=none->H' r=some (.lst (ts.map V.str))->Q (.ref r) H'):spThings a vs H Q _E
inductive spI1(c:Addr)(f1:Str)(vs:List V)(H:Hp)(Q:VK)(_E:XK):Prop
 | mk(x:Addr)(m:Int)(h0:vs=[.ref x,.int m])(h1:H x=some (.ext (XD0 x c)))(h2:∀ dx,H dx=none->dx≠x->Q .non (upd (upd H dx (.ext (XDct dx [(f1,.int m)]))) x (.ext (XD1 x c dx)))):spI1 c f1 vs H Q _E
theorem wR{c:Addr}{a:Str}:∀ vs H Q E,spI1 c a vs H Q E->vs.length<=100:=by
 rintro _ _ _ _ ⟨_,_,rfl,_⟩;exact(by decide:2<=100)
section
variable {P:Program}{w:World}{K:Frag}{mg:Str->Option Value}{base:Heap}{a:Ad}
theorem vZ(T:Txt K mg a):FnOk P w K mg base CX0 1 a.f_u a.d_u ["_law_script","_law_k"] (spCell K):=by
 refine T.F_u.ok lP (λi H Q E h=>?_) (λcdv A outer s H i Q E hr h=>?_)
 .obtain⟨p,b,k,rfl,_⟩:=h;rfl
 .obtain⟨p,b,k,rfl,f,l,n,o,q⟩:=h
  refine⟨_,(ai (bY (cJ nR (vr 1) (aC ce rfl T.z_len dN (aa (vr 0) af)) (bv _)) (ak (aw (dA cI (vr 0) (vr 1) (λ_ _=>rfl)))) aU) (ak (aw am))),qr ?_⟩;intro j;refine⟨b.map V.int,.inl f,?_⟩;rw[length_map];unfold qa at q;refine Bp (λc=>?_) (λc=>?_)
  .have d:k<(b.length:Int):=of_decide_eq_true c
   rw[if_pos d]at q;refine .inl ⟨p,_,k,.int (b.getD k.toNat 0),rfl,rfl,f,?_,q⟩;have e:((k.toNat:Nat):Int)=k:=by omega
   rw[<- e];refine aT ?_;have g:k.toNat<b.length:=by omega
   rw[e];simp[List.getElem?_map,List.getD,g]
  .have d:¬k<(b.length:Int):=λz=>c (decide_eq_true z)
   rw[if_neg d]at q;exact q
theorem tN(T:Txt K mg a):FnOk P w K mg base CX0 1 a.f_Y a.d_Y ["_law_cell","_law_k"] spMix:=by
 refine T.F_Y.ok sc_Y (λb H Q E h=>?_) (λcdv A outer s H b Q E hr h=>?_)
 .obtain⟨c,k,rfl,_⟩:=h;rfl
 .obtain⟨c,k,rfl,g,j,q⟩:=h
  refine⟨_,(ai (ay (i:=2) sc_Y.nd rfl (Or.inl rfl) (av dR (av dP (av cH (av cH (av dR (vr 0) am) (av dP am (vr 1))) am) am) am)) (ai (ay (i:=2) sc_Y.nd rfl (Or.inl rfl) (av dR (av dP (vr 2) (vr 2)) am)) (ak (aw (av dR (av dP (vr 2) (av cH (vr 2) am)) am))))),d9 ?_⟩;intro d f;exact⟨cp,clB,crB,cp,clB (by omega) (by omega),cp,clB (by omega) (by omega),cp,q _ (by omega)⟩
theorem jq(T:Txt K mg a):FnOk P w K mg base CX0 2 a.f_B a.d_B ["_law_cell","_law_digits","_law_bases"] (spNumbers K):=by
 have N:FnOk P w K mg base CX0 1 _ _ _ spMix:=tN T;refine T.F_B.ok sc_B (λvs H Q E h=>?_) (λcdv A outer s H vs Q E hr h=>?_)
 .obtain⟨c,d,p,j,rfl,_⟩:=h;rfl
 .obtain⟨c,d,l,j,rfl,I,ac,X,q⟩:=h
  refine⟨_,(ai (ay (i:=3) sc_B.nd rfl (Or.inl rfl) (bI af)) (ai (cY PassesOwn.never rfl (lZ rfl T.z_enumerate (aa (vr 2) af)) (eV rfl (az (au (i:=4) sc_B.nd rfl (Or.inl rfl)) (az (au (i:=5) sc_B.nd rfl (Or.inl rfl)) cu))) (ak (bY (dC (vr 1)) (ai (eO (pe_m.append (vr 3) (aa (av dR (vr 0) (vr 5)) af))) (ak (ay (i:=0) sc_B.nd rfl (Or.inl rfl) (av eM (vr 0) (vr 5))))) (ak (eO (pe_m.append (vr 3) (aa (av dR (ap N hr rfl T.m_Y T.F_Y.kp T.B_Y .nil ar (aa (vr 0) (aa (av cH am (vr 4)) af))) (vr 5)) af))))))) (ak (aw (vr 3))))),d9 ?_⟩;intro al ab;have sl:sizeLine=16777216:=sizeLine_eq;refine⟨Nat.zero_le _,λp F=>?_⟩;have R:l≠p:=aE I F
  let Pw1:PvS:=λi D k=>i<=j.length/\∃(n:Int) (f:List Int) (B o:Option V),Same H k/\k p=some (.lst (f.map V.int))/\Below (j.take i) f/\D=[some (.int n),some (.bl d),some (.ref l),some (.ref p),B,o]
  refine⟨l,_,rfl,by rw[ag R];exact I,i7 (a:=l) (xs:=j.map V.int) Pw1 ⟨Nat.zero_le _,c,[],none,none,Same.new F,ae,by rw[take_zero];exact .nil,rfl⟩ (λi D k h=>by obtain⟨_,_,_,_,_,z,_⟩:=h;exact z _ _ I) ?_ ?_⟩
  .rintro i x D k M Y ⟨hi,n,f,B,o,z,Z,C,rfl⟩ W
   have y:i<j.length:=by have:=(List.getElem?_eq_some_iff.mp Y).1;rw[length_map]at this;exact this
   obtain⟨b,hbi⟩:∃ b,j[i]? = some b:=⟨_,List.getElem?_eq_getElem y⟩
   have ex:x=.int b:=by rw[List.getElem?_map,hbi]at Y;cases Y;rfl
   subst ex;obtain⟨b0,b1⟩:=X b (List.mem_of_getElem? hbi);have et:j.take (i+1)=j.take i++[b]:=by rw[take_add_one,hbi];rfl
   have nl:f.length=i:=by rw[<- Paired.length C,length_take];omega
   have lz:(f.map V.int).length<sizeLine:=by rw[length_map];omega
   have L:Same k (upd k M (.tup [.int (i:Nat),.int b])):=Same.new W;have g:=L _ _ Z;have em:∀ v:Int,(f.map V.int)++[V.int v]=(f++[v]).map V.int:=λv=>by rw[map_append];rfl
   refine⟨M,_,rfl,SqT.of ae,rfl,_,_,rfl,_,_,rfl,rfl,?_⟩;generalize upd k M (.tup [.int (i:Nat),.int b])=H2 at L g
   obtain⟨ns0,hns0⟩:∃ ns0,ns0=f.map V.int:=⟨_,rfl⟩
   have u:∀(G v:Int),0<=v->v<b->i+1<=j.length/\∃(n:Int) (f:List Int) (B o:Option V),Same H (upd H2 p (.lst (ns0++[V.int v])))/\(upd H2 p (.lst (ns0++[V.int v]))) p=some (.lst (f.map V.int))/\Below (j.take (i+1)) f/\[some (V.int G),some (.bl d),some (.ref l),some (.ref p),some (.int (i:Nat)),some (.int b)]=[some (.int n),some (.bl d),some (.ref l),some (.ref p),B,o]:=λG v v0 v1 =>
    ⟨y,G,f++[v],_,_,(z.trans L).put F,by rw[<- em,<- hns0];exact ae,by rw[et];exact C.snoc ⟨v0,v1⟩,rfl⟩
   cases d with
   | true =>
    refine⟨.inl ⟨rfl,_,SqL.of g⟩,⟨cp (by omega),⟨p,_,_,rfl,rfl,g,lz,⟨cdB (by omega) (show Bt 30 b by unfold Bt;omega),?_⟩⟩⟩⟩;rw[<- hns0];exact u _ _ (Int.emod_nonneg _ (by omega)) (Int.emod_lt_of_pos _ (by omega))
   | false =>
    refine⟨.inl ⟨rfl,_,SqL.of g⟩,⟨n,_,rfl,by omega,by omega,λr r0=>⟨cp (by omega),⟨p,_,_,rfl,rfl,g,lz,?_⟩⟩⟩⟩;rw[<- hns0];exact u _ _ (Int.emod_nonneg _ (by omega)) (Int.emod_lt_of_pos _ (by omega))
  .rintro D k ⟨_,n,f,B,o,z,Z,C,rfl⟩
   rw[length_map,take_of_length_le (Nat.le_refl _)]at C;exact q _ p f z F Z C
theorem wG(T:Txt K mg a):FnOk P w K mg base CX0 1 a.f_L a.d_L ["text","signs","most"] spMade:=by
 refine T.F_L.ok jH (λo H Q E h=>?_) (λcdv A outer s H o Q E hr h=>?_)
 .obtain⟨t,rfl,_⟩:=h;rfl
 .obtain⟨t,rfl,v,q⟩:=h
  refine⟨_,(ak (aw (mI (qP vF vF am (aC ce rfl T.z_len dN (aa (vr 0) af)) (vr 2)) (gX (aC (rO rfl) rfl T.z_all yw (aa (cz rfl (N:=["sign","signs"]) (ix:=[none,some 1]) ⟨rfl,rfl,rfl,rfl,⟨rfl,rfl,rfl,trivial⟩⟩ (bJ (vr 0)) ⟨λC s H j=>au (i:=0) (show List.Nodup (["sign","signs"]:List Str) by decide +kernel) rfl (Or.inl rfl),λC s H j=>b7,λC s H j=>(fu Ag (vr 0) (vr 1) (by with_unfolding_all rfl))⟩) af)))))),?_⟩
  have k:∀ b,Same H b->¬(1<=t.cps.size/\t.cps.size<=8)->Q (.bl false) b:=λb e c=>by
   have:=q b e;unfold mU at this;rw[decide_eq_false c]at this;exact this
  refine⟨v,?_⟩;refine ifC (λg=>?_) (λg=>(k H (Same.refl H) λz=>g (by show(1:Int)<=((t.cps.size:Nat):Int);omega)));refine ifC (λf=>?_) (λf=>k H (Same.refl H) λz=>f (by show((t.cps.size:Nat):Int)<=8;omega))
  have c:1<=t.cps.size/\t.cps.size<=8:=⟨by have:(1:Int)<=((t.cps.size:Nat):Int):=g;omega,by have:((t.cps.size:Nat):Int)<=8:=f;omega⟩
  intro D u;refine tQ (λi d b=>b=upd H D (.lst d)/\d=(t.cps.toList.take i).map λc=>V.bl (decide (97<=c/\c<=122))) ⟨rfl,rfl⟩ (λi d b ⟨e,_⟩=>by rw[e];exact ae) ?_ ?_
  .rintro i c d b P l ⟨rfl,rfl⟩ n
   refine⟨⟨rfl,trivial⟩,?_⟩;have p:t.cps.toList[i]? = some c:=by simpa using l
   refine⟨ae,?_,n _ _ ⟨wg,?_⟩⟩
   .rw[length_map,length_take]
    have:sizeLine=16777216:=sizeLine_eq;have:t.cps.toList.length=t.cps.size:=by simp
    omega
   .rw[take_add_one,p,map_append]
    show _=_++[V.bl (decide (97<=c/\c<=122))]
    congr 2
    show V.bl (!(Builtin.Str.occurrences _ _ 0 _ 1).isEmpty)=_;rw[PySem.StrLaws.found_one]
    congr 1
    rw[Bool.eq_iff_iff,decide_eq_true_eq,decide_eq_true_eq];exact jO c
  .rintro d b ⟨rfl,rfl⟩
   refine⟨D,_,t.cps.toList.map λc=>decide (97<=c/\c<=122),rfl,SqL.of ae,?_,?_⟩
   .rw[map_map,take_of_length_le (by simp)]
    rfl
   .have r:(t.cps.toList.map λc=>decide (97<=c/\c<=122)).all id=mU t:=by
     unfold mU;rw[decide_eq_true c,Bool.true_and,all_map];rfl
    rw[r];exact q _ (Same.new u)
theorem gv(T:Txt K mg a):FnOk P w K mg base CX0 1 a.f_x a.d_x ["thing","low","high"] spWhole:=by
 refine T.F_x.ok m7 (λf H Q E h=>?_) (λcdv A outer s H f Q E hr h=>?_)
 .obtain⟨x,d,c,o,rfl,_⟩:=h;rfl
 .obtain⟨x,d,c,o,rfl,g,q⟩:=h
  refine⟨_,(ak (aw (mI (aC jz rfl T.z_isinstance dZ (aa (vr 0) (aa (kY (v:=.ty "int") rfl T.z_int xV rfl) af))) (mI (AS (aC jz rfl T.z_isinstance dZ (aa (vr 0) (aa (kY (v:=.ty "bool") rfl T.z_bool wo rfl) af)))) (gX (qP vF vF (vr 1) (vr 0) (vr 2))))))),?_⟩;cases g with
  | int i =>
   refine⟨_,_,_,true,rfl,rfl,.int i,rfl,?_⟩;refine⟨_,_,_,false,rfl,rfl,.int i,rfl,?_⟩;exact zp (Q:=λv=>Q v H) q
  | bl b=>exact⟨_,_,_,true,rfl,rfl,.bl b,rfl,⟨_,_,_,true,rfl,rfl,.bl b,rfl,q⟩⟩
  | non=>exact⟨_,_,_,false,rfl,rfl,.non,rfl,q⟩
  | str t h h2=>exact⟨_,_,_,false,rfl,rfl,.str t,rfl,q⟩
  | lst p xs e=>exact⟨_,_,_,false,rfl,rfl,.lst e,rfl,q⟩
  | tup p xs e=>exact⟨_,_,_,false,rfl,rfl,.tup e,rfl,q⟩
  | dK p e=>exact⟨_,_,_,false,rfl,rfl,.dK e,rfl,q⟩
theorem wv(T:Txt K mg a):FnOk P w K mg base CX0 2 a.f_Z a.d_Z ["thing"] spName:=by
 have c:FnOk P w K mg base CX0 1 _ _ _ spMade:=wG T;refine T.F_Z.ok oP (λd H Q E h=>?_) (λcdv A outer s H d Q E hr h=>?_)
 .obtain⟨x,k,rfl,_⟩:=h;rfl
 .obtain⟨x,k,rfl,f,q⟩:=h
  refine⟨_,(ak (aw (mI (aC jz rfl T.z_isinstance dZ (aa (vr 0) (aa (kY (v:=.ty "str") rfl T.z_str yO rfl) af))) (gX (ap c hr rfl T.m_L T.F_L.kp T.B_L .nil ar (aa (vr 0) (aa (js rfl T.g_LETTERS) (aa (js rfl T.g_MOST_LETTERS) af)))))))),?_⟩;have g:sizeLine=16777216:=sizeLine_eq;cases f with
  | int i=>exact⟨_,_,_,false,rfl,rfl,.int i,rfl,q _ (Same.refl H)⟩
  | bl b=>exact⟨_,_,_,false,rfl,rfl,.bl b,rfl,q _ (Same.refl H)⟩
  | non=>exact⟨_,_,_,false,rfl,rfl,.non,rfl,q _ (Same.refl H)⟩
  | str t h h2=>exact⟨_,_,_,true,rfl,rfl,.str t,rfl,⟨t,rfl,by omega,q⟩⟩
  | lst p xs e=>exact⟨_,_,_,false,rfl,rfl,.lst e,rfl,q _ (Same.refl H)⟩
  | tup p xs e=>exact⟨_,_,_,false,rfl,rfl,.tup e,rfl,q _ (Same.refl H)⟩
  | dK p e=>exact⟨_,_,_,false,rfl,rfl,.dK e,rfl,q _ (Same.refl H)⟩
theorem uG(T:Txt K mg a):FnOk P w K mg base CX0 1 a.x_o a.y_o ["self"] (spSides a):=by
 refine T.F_o.ok fX (λg H Q E h=>?_) (λcdv A outer s H g Q E hr h=>?_)
 .obtain⟨x,h,m,n,f,rfl,_⟩:=h;rfl
 .obtain⟨x,h,m,n,f,rfl,⟨⟨d,b⟩,i⟩,q⟩:=h
  refine⟨_,(ak (aw (uk (cJ nR (cZ (vr 0) rfl) (cZ (vr 0) rfl) (bv _)) am (av cH (cZ (vr 0) rfl) am)))),?_⟩;refine⟨x,_,d,_,_,rfl,b,T.cl_l,T.na_Pot_seen,rfl,?_⟩;refine⟨x,_,d,_,_,rfl,b,T.cl_l,T.na_Pot_most,rfl,?_⟩;unfold sides at q;refine ifC (λc=>?_) (λc=>?_)
  .rw[if_pos c]at q;exact q
  .rw[if_neg c]at q
   exact⟨x,_,d,_,_,rfl,b,T.cl_l,T.na_Pot_seen,rfl,q⟩
theorem sI(T:Txt K mg a):FnOk P w K mg base CX0 1 a.x_E a.y_E ["self"] (spThings a):=by
 refine T.F_E.ok jN (λi H Q E h=>?_) (λcdv A outer s H i Q E b h=>?_)
 .obtain⟨x,h,m,n,g,rfl,_⟩:=h;rfl
 .obtain⟨x,h,m,n,g,rfl,⟨⟨f,d⟩,c⟩,q⟩:=h
  refine⟨_,(ak (aw (dH fZ rfl T.z_list ly (aa (cZ (vr 0) rfl) af)))),?_⟩;refine⟨x,_,f,_,_,rfl,d,T.cl_l,T.na_Pot_held,rfl,?_⟩;exact⟨h,_,rfl,.inl (SqL.of c),λr b=>q _ r (Same.new b) b ae⟩
theorem fP(T:Txt K mg a):FnOk P w K mg base CX0 1 a.i_a a.e_a ["self","place"] (spI1 a.c_a "place"):=by
 refine T.Fi_a.ok fG (λj H Q E h=>?_) (λcdv A outer s H j Q E hr h=>?_)
 .obtain⟨x,m,rfl,_⟩:=h;rfl
 .obtain⟨x,m,rfl,g,q⟩:=h
  obtain⟨b,f⟩:=T.sx_NoThrow_place;refine⟨_,(ak (wZ (vr 0) (vr 1) rfl)),?_⟩;exact⟨x,a.c_a,b,rfl,f,.inl ⟨g,λi d c=>q i d c⟩⟩
theorem qf(T:Txt K mg a):FnOk P w K mg base CX0 1 a.f_H a.d_H ["held","most","thing","throw"] spHeld:=by
 refine T.F_H.ok lO (λG H Q E h=>?_) (λcdv A outer s H G Q E hr h=>?_)
 .obtain⟨h,m,j,t,b,rfl,_⟩:=h;rfl
 .obtain⟨h,m,j,t,b,rfl,l,F,N,t0,M,q⟩:=h
  refine⟨_,(ai (bY (cJ nR (aC ce rfl T.z_len dN (aa (vr 0) af)) (vr 1) (bv _)) (ak (aw (av fe (vr 0) (bI (aa (vr 2) af))))) aU) (ai (bY (cJ nR (vr 3) (vr 1) (bv _)) (ak (aw (av fe (av fe (gg iE (vr 0) kF (gt (vr 3))) (bI (aa (vr 2) af))) (gg iE (vr 0) (gt (av cH (vr 3) am)) kF)))) aU) (ak (aw (vr 0))))),d9 ?_⟩;intro ab B;have sl:sizeLine=16777216:=sizeLine_eq;unfold gK at q;refine⟨_,.inl (SqL.of l),?_⟩;refine ifC (λc=>?_) (λc=>?_)
  .rw[if_pos c]at q
   refine⟨(by decide:1<=sizeLine),λv g=>?_⟩;have n:=Same.new (o:=.lst [t]) g;refine⟨h,v,_,_,rfl,rfl,n _ _ l,ae,by show _+1<=_;omega,λy d=>?_⟩;refine q _ y (n.trans (Same.new d)) ?_ (.inr (n.free d));rw[ae]
  .rw[if_neg c]at q
   refine ifC (λp=>?_) (λp=>?_)
   .rw[if_pos p]at q
    have X:j.toNat<b.length:=by have z1:j<m:=p;have z2:¬((b.length:Int)<m):=c;omega
    obtain⟨k,rfl⟩:∃ k:Nat,j=(k:Int):=⟨j.toNat,by omega⟩
    have W:k<b.length:=by omega
    refine⟨_,rfl,h,_,rfl,SqL.of l,λv g=>?_⟩;have Y:dJ b none (some (k:Int))=b.take k:=sd _ k (by omega);rw[Y];have n:=Same.new (o:=.lst (b.take k)) g;refine⟨(by decide:1<=sizeLine),λy d=>?_⟩;have z:=Same.new (o:=.lst [t]) d;refine⟨v,y,_,_,rfl,rfl,z _ _ ae,ae,by rw[length_take];show _+1<=_;omega,λR r=>?_⟩;have L:=Same.new (o:=.lst (b.take k++[t])) r;have f:=(n.trans z).trans L;refine⟨_,rfl,h,_,rfl,SqL.of (f _ _ l),λZ x=>?_⟩;have I:dJ b (some ((k:Int)+1)) none=b.drop (k+1):=rY b (k+1);rw[I];have u:=Same.new (o:=.lst (b.drop (k+1))) x;refine⟨R,Z,_,_,rfl,rfl,u _ _ ae,ae,by rw[length_append,length_take,length_drop];show _+1+_<=_;omega,λD i=>?_⟩;refine q _ D ((f.trans u).trans (Same.new i)) ?_ (.inr ((f.trans u).free i));have C:b.set k t=b.take k++[t]++b.drop (k+1):=by rw[List.set_eq_take_append_cons_drop,if_pos W,append_assoc];rfl
    rw[ae,show((k:Int)).toNat=k from rfl,C]
   .rw[if_neg p]at q
    exact q _ h (Same.refl H) l (.inl rfl)
end
def A0(a:Ad)(H:Hp)(E:XK):Prop:=∀ H',Same H H'->E (.ref a.c_n) none H'
def Ba(a:Ad)(H:Hp)(E:XK):Prop:=∀ H',Same H H'->E (.ref a.c_q) none H'
def Bn(a:Ad)(H:Hp)(E:XK):Prop:=∀ H' dx,Same H H'->H' dx=some (.ext (XDct dx [("place",.int 0)]))->E (.ref a.c_a) (some dx) H'
def txK:Kd->Str
 | .s t=>t
 | _ => ""
def inI:Kd->Int
 | .i n=>n
 | _=>0
def yN(a:Ad):Sp:=λvs H Q E=>∃(x h:Addr) (m n:Int) (ts:List Str) (v u:V) (k j:Kd),vs=[.ref x,v,u]/\PotAt a H x h m n ts/\Okp m n ts/\Thg H v k/\Thg H u j/\(nmK k=false->A0 a H E)/\(nmK k=true->n=300->Ba a H E)/\(nmK k=true->n<300->inK 0 (sides m n - 1) j=false->Bn a H E)/\(nmK k=true->n<300->inK 0 (sides m n - 1) j=true->∀ H' h',SB x H H'->PotAt a H' x h' m (n+1) (nxt m ts (txK k) (inI j))->(h'=h\/H h'=none)->Q .non H')
def xM(a:Ad):Sp:=λvs H Q _=>∃(x dx:Addr) (m:Int),vs=[.ref x,.int m]/\H x=some (.ins a.c_l dx [])/\1<=m/\m<=24/\∀ H' h,(∀ b o,b≠x->H b=some o->H' b=some o)->H h=none->PotAt a H' x h m 0 []->Q .non H'
section
variable {P:Program}{w:World}{K:Frag}{mg:Str->Option Value}{base:Heap}{a:Ad}
theorem wQ(T:Txt K mg a):FnOk P w K mg base (CXG P w) 4 a.x_I a.y_I ["self","thing","throw"] (yN a):=by
 have X:FnOk P w K mg base CX0 3 _ _ _ _:=(wv T).mono (by decide);have L:FnOk P w K mg base CX0 3 _ _ _ _:=(gv T).mono (by decide);have N:FnOk P w K mg base CX0 3 _ _ _ _:=(qf T).mono (by decide);have M:FnOk P w K mg base CX0 3 _ _ _ _:=(uG T).mono (by decide);have I:FnOk P w K mg base CX0 2 _ _ _ _:=(fP T).mono (by decide);refine T.F_I.okG mw (λvs H Q E h=>?_) (λcdv A outer s H vs Q E hr h=>?_)
 .obtain⟨x,h,m,n,Y,v,u,k,j,rfl,_⟩:=h;rfl
 .obtain⟨x,h,m,n,Y,v,u,k,j,rfl,hp,ok,tv,tu,q1,q2,q3,q4⟩:=h
  refine⟨_,(ai (bY (cU (dC (ap X hr rfl T.m_Z T.F_Z.kp T.B_Z .nil ar (aa (vr 1) af)))) (ak (cQ T.xc_n T.xh_n (iN T.xi_NoThing T.kc_NoThing rfl T.mc_n))) aU) (ai (bY (cJ yd (cZ (vr 0) rfl) (js rfl T.g_MOST_COME) (bv _)) (ak (cQ T.xc_q T.xh_q (iN T.xi_TooMany T.kc_TooMany rfl T.mc_q))) aU) (ai (bY (cU (dC (ap L hr rfl T.m_x T.F_x.kp T.B_x .nil ar (aa (vr 2) (aa am (aa (av fJ (aF (vr 0) T.cl_l T.mt_o M hr T.B_o .nil ar) am) af)))))) (ak (cQ T.xc_a T.xh_a (kE T.xi_NoThrow T.kc_NoThrow T.fn_NoThrow I hr rfl T.mc_a T.Bi_a (aa am af) wR))) aU) (ai (gG (vr 0) (ap N hr rfl T.m_H T.F_H.kp T.B_H .nil ar (aa (cZ (vr 0) rfl) (aa (cZ (vr 0) rfl) (aa (vr 1) (aa (vr 2) af))))) rfl) (ak (sF (vr 0) am zt)))))),pH ?_⟩;intro al ac an ab;refine⟨v,k,rfl,tv,λH1 d=>?_⟩;have D:=hp.same d;obtain⟨⟨q,f⟩,W⟩:=id D;obtain⟨o1,o2,o3,o4,o5⟩:=id ok;cases e1:nmK k with
  | false =>
   intro y p;refine⟨y,none,_,rfl,ae,λh z=>z,d.free p,q1 e1 _ λb o e=>?_⟩;have l:b≠y:=λz=>by have:=d _ _ e;rw[z,p]at this;cases this
   rw[aS l,ag l];exact d _ _ e
  | true =>
   refine⟨x,_,q,_,_,rfl,f,T.cl_l,T.na_Pot_seen,rfl,?_⟩;refine ifC (λc=>?_) (λc=>?_)
   .have F:n=300:=by have z:n >= 300:=c;lia
    intro y p;refine⟨y,none,_,rfl,ae,λh z=>z,d.free p,q2 e1 F _ λb o e=>?_⟩;have l:b≠y:=λz=>by have:=d _ _ e;rw[z,p]at this;cases this
    rw[aS l,ag l];exact d _ _ e
   .have F:n<300:=by have z:¬n >= 300:=c;lia
    refine⟨x,q,_,rfl,f,rfl,⟨x,h,m,n,Y,rfl,D,?_⟩⟩;refine⟨u,0,_,j,rfl,tu.same d,?_⟩;cases e2:inK 0 (sides m n - 1) j with
    | false =>
     intro y p;refine⟨y,0,rfl,ae,λG Z r=>⟨rfl,y,some G,_,rfl,ae,λh z=>z,d.free p,?_⟩⟩;have R:H1 G=none:=by rw[ag r]at Z;exact Z
     refine q3 e1 F e2 _ G (λb o e=>?_) ?_
     .have B:=d _ _ e
      have l:b≠y:=λz=>by rw[z,p]at B;cases B
      have b2:b≠G:=λz=>by rw[z,R]at B;cases B
      rw[aS l,ag l,ag b2,ag l];exact B
     .rw[aS r,ag r]
      exact ae
    | true =>
     obtain⟨i,rfl⟩:∃ i,j=.i i:=by cases j with | i n=>exact⟨n,rfl⟩ | s t=>cases e2 | o=>cases e2
     obtain⟨t,rfl⟩:∃ t,k=.s t:=by cases k with | s t=>exact⟨t,rfl⟩ | i n=>cases e1 | o=>cases e1
     cases tu;cases tv;have hi:0<=i/\i<=sides m n - 1:=of_decide_eq_true e2;refine⟨x,_,q,_,_,rfl,f,T.cl_l,T.na_Pot_held,rfl,?_⟩;refine⟨x,_,q,_,_,rfl,f,T.cl_l,T.na_Pot_most,rfl,?_⟩;refine⟨h,m,i,.str t,Y.map V.str,rfl,W,by rw[length_map];split at o5 <;> lia,o2,hi.1,by rw[length_map];split at o5 <;> lia,λH2 h' s2 g hf=>?_⟩;rw[iK]at g;have C:=s2 _ _ f;have nx:h'≠x:=λz=>by rw[z,C]at g;cases g
     refine⟨x,_,q,_,rfl,C,T.cl_l,T.na_Pot_held,by show 3<1000;decide,?_⟩;refine⟨x,_,q,_,_,rfl,ae,T.cl_l,T.na_Pot_seen,rfl,?_⟩;refine⟨_,_,rfl,rfl,⟨q,_,ae,by show 3<1000;decide,?_⟩⟩;refine q4 e1 F e2 _ h' (λb o hb e=>?_) ⟨⟨q,ae⟩,?_⟩ ?_
     .rw[ag hb,ag hb];exact s2 _ _ (d _ _ e)
     .rw[ag nx,ag nx];exact g
     .rcases hf with hf | hf
      .exact .inl hf
      .exact .inr (d.free hf)
theorem yU(T:Txt K mg a):FnOk P w K mg base CX0 3 a.i_l a.e_l ["self","most"] (xM a):=by
 have j:FnOk P w K mg base CX0 2 _ _ _ _:=(gv T).mono (by decide);refine T.Fi_l.ok ip (λu H Q E h=>?_) (λcdv A outer s H u Q E hr h=>?_)
 .obtain⟨x,c,m,rfl,_⟩:=h;rfl
 .obtain⟨x,c,m,rfl,n,r,i,q⟩:=h
  refine⟨_,(ai (bY (cU (dC (ap j hr rfl T.m_x T.F_x.kp T.B_x .nil ar (aa (vr 1) (aa am (aa (js rfl T.g_MOST_KEPT) af)))))) (ak uy) aU) (ai (gG (vr 0) (vr 1) rfl) (ai (gG (vr 0) am rfl) (ak (gG (vr 0) (bI af) rfl))))),pL ?_⟩;intro l v y;refine⟨_,1,24,_,rfl,.int m,?_⟩;have e:inK 1 24 (.i m)=true:=decide_eq_true ⟨r,i⟩;rw[e];refine⟨x,_,c,_,rfl,n,T.cl_l,T.na_Pot_most,by decide,?_⟩;refine⟨x,_,c,_,rfl,ae,T.cl_l,T.na_Pot_seen,by show 1<1000;decide,?_⟩;refine⟨Nat.zero_le _,λh f=>?_⟩;have d:x≠h:=λz=>by rw[<- z,ae]at f;cases f
  refine⟨x,_,c,_,rfl,by rw[ag d];exact ae,T.cl_l,T.na_Pot_held,by show 2<1000;decide,?_⟩;have k:H h=none:=by rw[ag (Ne.symm d),ag (Ne.symm d)]at f;exact f
  refine q _ h (λb o g e=>?_) k ⟨⟨c,ae⟩,by rw[ag (Ne.symm d)];exact ae⟩;have p:b≠h:=λz=>by rw[z,k]at e;cases e
  rw[ag g,ag p,ag g,ag g];exact e
end
open Tb (Tr stm stP Hd)
theorem aq{d c:Type}{r f:d->c->Prop}(h:∀ a b,r a b->f a b):∀{as:List d}{bs:List c},Paired r as bs->Paired f as bs
 | _,_,.nil=>.nil
 | _,_,.cons x t=>.cons (h _ _ x) (aq h t)
theorem cD{d c:Type}{r:d->c->Prop}{a:d}{b:c}(h:r a b):∀{as:List d}{bs:List c},Paired r as bs->Paired r (as++[a]) (bs++[b])
 | _,_,.nil=>.cons h .nil
 | _,_,.cons x t=>.cons x (cD h t)
theorem aJ{b a:Type}{r:b->a->Prop}:∀{as:List b}{bs:List a}{i:Nat}{y:a},Paired r as bs->bs[i]? = some y->∃ x,as[i]? = some x/\r x y
 | _,_,_,_,.nil,h=>by cases h
 | _,_,0,_,.cons r _,h=>⟨_,rfl,by cases h;exact r⟩
 | _,_,i+1,_,.cons _ t,h=>aJ (i:=i) t h
def Srt(ns kept:List Int):Prop:=ns.Perm kept/\ns.Pairwise (·<=·)
def IsTold(a:Ad)(H:Hp)(v:V)(kept:List Int):Prop:=∃ x dx t ns,v=.ref x/\H x=some (.ins a.c_g dx [("rising",.ref t)])/\H t=some (.tup (ns.map V.int))/\Srt ns kept
def IsLam(H:Hp)(d:LamD)(fv:List Str)(v:V)(vals:List V):Prop:=∃ f c clos,v=.ref f/\H f=some (.ext (jK f d clos c))/\H c=some (.ext (fc c d.qual))/\clos.map (·.1)=fv/\(clos.map (·.2)).Nodup/\CellsAt H clos vals
theorem kK{H H':Hp}(s:SameT H H'):∀{clos:List (Str×Addr)}{vals:List V},CellsAt H clos vals->CellsAt H' clos vals
 | _,_,.nil=>.nil
 | _,_,.cons r t=>.cons (s.at r) (kK s t)
theorem IsLam.t{H H':Hp}{d:LamD}{g:List Str}{v:V}{a:List V}(s:SameT H H')(h:IsLam H d g v a):IsLam H' d g v a:=by
 obtain⟨f,c,b,n,j,l,k,i,o⟩:=h;exact⟨f,c,b,n,s.at j,s.at l,k,i,kK s o⟩
theorem IsTold.t{a:Ad}{H H':Hp}{v:V}{b:List Int}(s:SameT H H')(h:IsTold a H v b):IsTold a H' v b:=by
 obtain⟨x,f,t,i,g,j,d,c⟩:=h;exact⟨x,f,t,i,g,s.at j,s.at d,c⟩
inductive spToldI(a:Ad)(vs:List V)(H:Hp)(Q:VK)(_E:XK):Prop
 | mk(x dx l:Addr)(ns:List Int)(h0:vs=[.ref x,.ref l])(h1:H x=some (.ins a.c_g dx []))(h2:(H l=some (.lst (ns.map V.int))\/H l=some (.tup (ns.map V.int))))(h3:ns.length<64)(h4:∀ H' t ns',(∀ b o,b≠x->H b=some o->H' b=some o)->H' x=some (.ins a.c_g dx [("rising",.ref t)])->H' t=some (.tup (ns'.map V.int))->Srt ns' ns->Q .non H'):spToldI a vs H Q _E
inductive spDieI(a:Ad)(vs:List V)(H:Hp)(Q:VK)(_E:XK):Prop
 | mk(x dx l:Addr)(xs:List V)(h0:vs=[.ref x,.ref l])(h1:H x=some (.ins a.c_j dx []))(h2:H l=some (.lst xs))(h3:∀ H' t,H t=none->(∀ b o,b≠x->H b=some o->H' b=some o)->H' x=some (.ins a.c_j dx [("makes",.ref t)])->H' t=some (.lst xs)->Q .non H'):spDieI a vs H Q _E
theorem cP{c b:Type}{r:c->b->Prop}{a:List c}{x:c}{i:Nat}{d:List b}{y:b}(h:Paired r (a.take i) d)(e:a[i]? = some x)(q:r x y):Paired r (a.take (i+1)) (d++[y]):=by
 rw[take_add_one,e];exact cD q h
def Bad(H:Hp)(Bd:List Addr):Prop:=∀ b∈Bd,∃ ys,H b=some (.lst ys)
theorem Bad.t{H H':Hp}{a:List Addr}(s:SameT H H')(h:Bad H a):Bad H' a:=λb c=>let ⟨ys,e⟩:=h b c;⟨ys,s.at e⟩
theorem cF{H H':Hp}{a:List Addr}(s:SameT H H'):SameT (untrs H a) (untrs H' a):=λb o e=>by
 by_cases hb:b∈a
 .rw[eC hb]at e;cases e
 .rw[bH hb]at e ⊢;exact s b o e
theorem cw{H:Hp}{a:List Addr}{b:Addr}{o:HO}(e:untrs H a b=some o):b ∉ a/\H b=some o:=by
 by_cases hb:b∈a
 .rw[eC hb]at e;cases e
 .rw[bH hb]at e;exact⟨hb,e⟩
theorem nj{H:Hp}{a:List Addr}:SameT (untrs H a) H:=λb o e=>⟨λ_=>(cw e).2,o,(cw e).2⟩
theorem di{H:Hp}{d:List Addr}{b:Addr}{o:HO}(a:Bad H d)(e:H b=some o)(n:∀ ys,o≠.lst ys):untrs H d b=some o:=by
 rw[bH λz=>?_]
 .exact e
 .obtain⟨ys,c⟩:=a b z
  rw[e]at c;exact n ys (Option.some.inj c)
theorem mL{H:Hp}{l:List Addr}(a:Bad H l){d:LamD}{o:List Str}{f:V}{i:List V}(h:IsLam H d o f i):IsLam (untrs H l) d o f i:=by
 obtain⟨s,c,b,p,k,j,g,n,q⟩:=h;refine⟨s,c,b,p,di a k (λ_ z=>nomatch z),di a j (λ_ z=>nomatch z),g,n,?_⟩;clear k j g n
 induction q with
 | nil=>exact .nil
 | cons r _ ih=>exact .cons (di a r (λ_ z=>nomatch z)) ih
theorem rB{a:Ad}{H:Hp}{d:List Addr}(b:Bad H d){u:V}{f:List Int}(h:IsTold a H u f):IsTold a (untrs H d) u f:=by
 obtain⟨x,j,t,c,k,l,i,g⟩:=h;exact⟨x,j,t,c,k,di b l (λ_ z=>nomatch z),di b i (λ_ z=>nomatch z),g⟩
theorem oz{H:Hp}{d:List Addr}(c:Bad H d){b:List (Str×Addr)}{a:List V}(h:CellsAt H b a):CellsAt (untrs H d) b a:=by
 induction h with
 | nil=>exact .nil
 | cons r _ ih=>exact .cons (di c r (λ_ z=>nomatch z)) ih
theorem oO(H:Hp)(c a:List Addr):untrs (untrs H c) a=untrs (untrs H a) c:=by
 funext b
 unfold untrs
 split <;> split <;> rfl
theorem cO(H:Hp):untrs H []=H:=by funext b;exact bH (by simp)
theorem yF{H:Hp}{f:List Addr}{a:List (Str×Addr)}{c:List V}(h:CellsAt H a c)(d:Bad H f):Bad (untrs H (a.map (·.2))) f:=λb g=>let ⟨ys,e⟩:=d b g;⟨ys,cT h e λv z=>nomatch z⟩
theorem d6{H:Hp}{a:List Addr}{b:Addr}{o:HO}(d:b∈a):SameT (untrs H a) (untrs (upd H b o) a):=λc u e=>by
 obtain⟨n,f⟩:=cw e;have:untrs (upd H b o) a c=some u:=by rw[bH n,ag (λz=>n (by rw[z];exact d))];exact f
 exact⟨λ_=>this,u,this⟩
theorem kr{H H':Hp}{b:List Addr}{D:Addr}(s:SameT H H')(h:H D=none):SameT (untrs H b) (untrs H' (D::b)):=λc u e=>by
 obtain⟨n,a⟩:=cw e
 have d:c ∉ D::b:=λz=>by
  rcases mem_cons.mp z with z | z
  .rw[z,h]at a;cases a
  .exact n z
 rw[bH d];exact s c u a
theorem ky{H:Hp}{a:List Addr}{D:Addr}:SameT (untrs H (D::a)) (untrs H a):=λc u e=>by
 obtain⟨n,b⟩:=cw e;have:untrs H a c=some u:=by rw[bH (λz=>n (mem_cons_of_mem _ z))];exact b
 exact⟨λ_=>this,u,this⟩
theorem LamOk.mono{P:Program}{w:World}{K:Frag}{mg:Str->Option Value}{a:Heap}{j k:Nat}{d:LamD}{l ps:List Str}{sp:List V->Sp}(L:LamOk P w K mg a j d l ps sp)(h:j<=k):LamOk P w K mg a k d l ps sp:=λA b s H f c g o p i Q E n=>L A b s H f c g o p i Q E (n.mono h)
theorem TabsOk.untrs{a:nu}{H:Hp}{b:List (Str×Addr)}{d:List V}(h:TabsOk a H)(f:CellsAt H b d):TabsOk a (untrs H (b.map (·.2))):=λq g=>by
 obtain⟨j,i,k,n⟩:=h q g;exact⟨j,cT f i (λv z=>nomatch z),k,λl hl=>(n l hl).imp id λ⟨c,x,y⟩=>⟨c,x,cT f y λv=>kJ⟩⟩
theorem back{H H' c:Hp}{a:List (Str×Addr)}(s:SameT (untrs H (a.map (·.2))) H')(f:Same H' c)(d:∀ p∈a,c p.2=H p.2):SameT H c:=λb o e=>by
 by_cases hb:b∈a.map (·.2)
 .obtain⟨p,g,rfl⟩:=mem_map.mp hb
  rw[d p g,e];exact⟨λ_=>rfl,o,rfl⟩
 .exact(s.trans f.t) b o (by rw[bH hb];exact e)
abbrev fvH:List Str:=["number","many","held"]
def IsMk(H:Hp)(f:V)(t:Tr):Prop:=∃(l:Addr) (held:List Int) (n many s:Nat),IsLam H aM fvH f [.int (n:Nat),.int (many:Nat),.ref l]/\H l=some (.lst (held.map V.int))/\t=stm s held (n+1)/\n+1+s=many/\many<=24/\Hd held (n+1)
theorem IsMk.t{H H':Hp}{f:V}{t:Tr}(s:SameT H H')(h:IsMk H f t):IsMk H' f t:=by
 obtain⟨l,a,n,b,k,d,g,c⟩:=h;exact⟨l,a,n,b,k,d.t s,s.at g,c⟩
def NdR(H:Hp)(pt:Int×Tr)(y:V):Prop:=∃ q f,y=.ref q/\H q=some (.tup [.int pt.1,f])/\1<=pt.1/\IsMk H f pt.2
theorem NdR.t{H H':Hp}(s:SameT H H')(a:Int×Tr)(y:V)(h:NdR H a y):NdR H' a y:=by
 obtain⟨q,f,d,g,c,b⟩:=h;exact⟨q,f,d,s.at g,c,b.t s⟩
def IsNd(a:Ad)(H:Hp)(v:V):Tr->Prop
 | .leaf ns=>IsTold a H v ns
 | .die ps=>∃ x dx l ys,v=.ref x/\H x=some (.ins a.c_j dx [("makes",.ref l)])/\H l=some (.lst ys)/\Paired (NdR H) ps ys/\1<=ps.length/\ps.length<=5000
theorem IsNd.t{a:Ad}{H H':Hp}{v:V}(s:SameT H H'):∀{t:Tr},IsNd a H v t->IsNd a H' v t
 | .leaf _,h=>IsTold.t s h
 | .die _,h=>by
  obtain⟨x,f,l,g,i,j,d,c,b⟩:=h;exact⟨x,f,l,g,i,s.at j,s.at d,aq (NdR.t s) c,b⟩
def Res(a:Ad)(H:Hp)(Bd:List Addr)(t:Tr)(Q:VK):Prop:=∀ H' u,SameT H H'->TabsOk (tabs a) H'->IsNd a (untrs H' Bd) u t->Q u H'
def xH(a:Ad):Sp:=λvs H Q _=>∃ v,∃ n m:Int,vs=[v,.int n,.int m]/\TabsOk (tabs a) H/\∀ H' f,SameT H H'->TabsOk (tabs a) H'->IsLam H' aM fvH f [.int n,.int m,v]->Q f H'
inductive spSN(a:Ad)(vs:List V)(H:Hp)(Q:VK)(_E:XK):Prop
 | mk(l:Addr)(held:List Int)(n many s:Nat)(Bd:List Addr)(h0:vs=[.ref l,.int (n:Nat),.int (many:Nat)])(h1:Bad H Bd)(h2:untrs H Bd l=some (.lst (held.map V.int)))(h3:(n+s=many\/(s=0/\many<=n)))(h4:many<=24)(h5:held.length<=24)(h6:Hd held n)(h7:TabsOk (tabs a) H)(h8:Res a H Bd (stm s held n) Q):spSN a vs H Q _E
theorem lsH:LamScope aM fvH []:=⟨rfl,rfl,rfl,by decide +kernel,by decide +kernel,by decide +kernel,by decide +kernel,by decide +kernel⟩
def mj(a:Ad):List V->Sp:=λvals vs H Q _=>∃(l:Addr) (held:List Int) (n many s:Nat) (Bd:List Addr),vals=[.int (n:Nat),.int (many:Nat),.ref l]/\vs=[]/\Bad H Bd/\untrs H Bd l=some (.lst (held.map V.int))/\n+1+s=many/\many<=24/\Hd held (n+1)/\TabsOk (tabs a) H/\Res a H Bd (stm s held (n+1)) Q
section
variable {P:Program}{w:World}{K:Frag}{mg:Str->Option Value}{base:Heap}{a:Ad}
theorem wS(T:Txt K mg a):FnOk P w K mg base CX0 1 a.i_g a.e_g ["self","kept"] (spToldI a):=by
 refine T.Fi_g.ok gS (λB H Q E h=>?_) (λcdv A outer s H B Q E hr h=>?_)
 .obtain⟨x,j,l,k,rfl,_⟩:=h;rfl
 .obtain⟨x,j,l,k,rfl,i,C,u,q⟩:=h
  refine⟨_,(ak (gG (vr 0) (dH fK rfl T.z_tuple mR (aa (aC fN rfl T.z_sorted fB (aa (vr 1) af)) af)) rfl)),?_⟩;refine⟨l,k,rfl,C.imp SqL.of SqT.of,u,λp c y F r=>?_⟩;have g:=Same.new (o:=.lst (c.map V.int)) r;refine⟨p,_,rfl,.inl ⟨SqL.of ae,λt f=>?_⟩⟩;have v:=Same.new (o:=.tup (c.map V.int)) f;have d:=g.trans v;have D:t≠x:=λz=>by rw[z,g _ _ i]at f;cases f
  refine⟨x,a.c_g,j,[],rfl,d _ _ i,T.cl_g,T.na_Told_rising,(by decide),?_⟩;exact q _ t c (λb o n e=>by rw[ag n];exact d _ _ e) ae (by rw[ag D];exact ae) ⟨y,F⟩
theorem y9(T:Txt K mg a):FnOk P w K mg base CX0 1 a.i_j a.e_j ["self","parts"] (spDieI a):=by
 refine T.Fi_j.ok io (λj H Q E h=>?_) (λcdv A outer s H j Q E hr h=>?_)
 .obtain⟨x,i,l,d,rfl,_⟩:=h;rfl
 .obtain⟨x,i,l,d,rfl,g,k,q⟩:=h
  refine⟨_,(ak (gG (vr 0) (dH fZ rfl T.z_list ly (aa (vr 1) af)) rfl)),?_⟩;refine⟨l,d,rfl,.inl (SqL.of k),λt c=>?_⟩;have f:=Same.new (o:=.lst d) c;have p:t≠x:=λz=>by rw[z,g]at c;cases c
  refine⟨x,a.c_j,i,[],rfl,f _ _ g,T.cl_j,T.na_Die_makes,(by decide),?_⟩;exact q _ t c (λb o n e=>by rw[ag n];exact f _ _ e) ae (by rw[ag p];exact ae)
theorem made{a H':Hp}{x dx:Addr}{f g:HO}(c:a x=none)(d:a dx=none)(k:∀ b o,b≠x->(upd (upd a dx f) x g) b=some o->H' b=some o):Same a H':=λb o e=>by
 refine k b o (aE e c) ?_;rw[ag (aE e c),ag (aE e d)];exact e
theorem sS(T:Txt K mg a)(o:Bm mg base):FnOk P w K mg base CX0 1 a.f_b a.d_b ["held","number","many"] (xH a):=by
 refine T.F_b.okL T.lcd_b jA (by decide +kernel) (λp H Q E h=>?_) (λA outer s H p Q E hr h=>?_)
 .obtain⟨v,n,m,rfl,_⟩:=h;rfl
 .obtain⟨v,n,m,rfl,j,q⟩:=h
  refine⟨_,(yb (zc (d:=aM) rfl T.lch_b o rfl (by with_unfolding_all rfl) rfl (iW a) (.head _) T.tnd jt)),?_⟩;refine⟨j,λl r y k c x i g=>?_⟩;exact λu b f=>q _ _ (k.trans b.t) (c.same b) ⟨l,r,_,rfl,b _ _ i,b _ _ g,rfl,by simp;lia,.cons (f 1 _ _ _ rfl rfl (by with_unfolding_all rfl)) (.cons (f 2 _ _ _ rfl rfl (by with_unfolding_all rfl)) (.cons (f 0 _ _ _ rfl rfl (by with_unfolding_all rfl)) .nil))⟩
theorem pI{H:Hp}{c:List Addr}{b:Addr}{o:HO}(a:Bad H c)(f:H b=none){H':Hp}(h:H' b=some o):untrs H' c b=some o:=by
 rw[bH λz=>?_]
 .exact h
 .obtain⟨d,e⟩:=a b z
  rw[f]at e;cases e
theorem mX(T:Txt K mg a)(hB:Bm mg base):FnOk P w K mg base CX0 3 a.f_v a.d_v ["held","number","many"] (spSN a):=by
 have bn:FnOk P w K mg base CX0 1 _ _ _ (spToldI a):=wS T;have b6:FnOk P w K mg base CX0 1 _ _ _ (spDieI a):=y9 T;have a6:FnOk P w K mg base CX0 2 _ _ _ _:=(sS T hB).mono (by decide);have b2:FnOk P w K mg base CX0 2 _ _ _ _:=(qf T).mono (by decide);refine T.F_v.ok sc_v (λvs H Q E h=>?_) (λcdv A outer s H vs Q E hr h=>?_)
 .obtain⟨l,d,n,f,s,r,rfl,_⟩:=h;rfl
 .obtain⟨l,d,n,f,s,r,rfl,al,hl,hs,a9,bg,hd,hT,q⟩:=h
  have bo:sizeLine=16777216:=sizeLine_eq;have an:=(cw hl).2;refine⟨_,(ai (bY (cJ yd (vr 1) (vr 2) (bv _)) (ak (aw (lC T.mk_g bn hr rfl T.mc_g T.Bi_g .nil ar (aa (vr 0) af)))) aU) (ai (ay (i:=3) sc_v.nd rfl (Or.inr rfl) (aC ce rfl T.z_len dN (aa (vr 0) af))) (ai (iA rfl (i:=4) sc_v.nd rfl rfl (by with_unfolding_all rfl) (N:=["place","number","many","held","most"]) (ix:=[none,some 1,some 2,some 0,some 3]) ⟨rfl,rfl,rfl,rfl,⟨rfl,rfl,rfl,⟨rfl,rfl,rfl,⟨rfl,rfl,rfl,⟨rfl,rfl,rfl,trivial⟩⟩⟩⟩⟩ (d5 rfl T.z_range (aa (vr 3) af)) ⟨λC s H fp=>au (i:=0) (show List.Nodup (["place","number","many","held","most"]:List Str) by decide +kernel) rfl (Or.inl rfl),λC s H fp=>b7,λC s H fp=>(cB (aa am (aa (ap a6 hr rfl T.m_b T.F_b.kp T.B_b .nil ar (aa (ap b2 hr rfl T.m_H T.F_H.kp T.B_H .nil ar (aa (vr 3) (aa (vr 4) (aa (vr 1) (aa (vr 0) af))))) (aa (vr 1) (aa (vr 2) af)))) af)))⟩) (ak (aw (lC T.mk_j b6 hr rfl T.mc_j T.Bi_j .nil ar (aa (av fe (vr 4) (bI (aa (cB (aa (av fJ (av cH (vr 1) am) (vr 3)) (aa (ap a6 hr rfl T.m_b T.F_b.kp T.B_b .nil ar (aa (vr 0) (aa (vr 1) (aa (vr 2) af)))) af))) af))) af))))))),pL ?_⟩;intro ci cm ck;refine ifC (λc=>?_) (λc=>?_)
  .have c:(n:Int) >= (f:Int):=c
   obtain rfl:s=0:=by lia
   intro x dx hx a1 b5;have s9:Same H (upd (upd H dx (.own x)) x (.ins a.c_g dx [])):=λb o e=>by rw[ag (aE e hx),ag (aE e a1)];exact e
   refine⟨x,dx,l,d,rfl,ae,.inl (s9 _ _ an),by lia,λj t bS k g1 g2 g3=>⟨rfl,?_⟩⟩;have sm:=made hx a1 k;exact q _ _ sm.t (hT.same sm) (rB (al.t sm.t) ⟨x,dx,t,bS,rfl,g1,g2,g3⟩)
  have c:¬(n:Int) >= (f:Int):=c
  obtain⟨s',rfl⟩:∃ s',s=s'+1:=⟨s - 1,by lia⟩
  have e0:n+1+s'=f:=by lia
  refine⟨_,.inl (SqL.of an),?_⟩;rw[length_map];refine⟨_,rfl,by lia,by lia,λD hD=>?_⟩;have ext:∀{j:Hp},TabsOk (tabs a) j->∀{ys:List V}{a8:List V},j D=some (.lst ys)->TabsOk (tabs a) (upd j D (.lst a8)):=λca ys a8 e=>ca.put (λps z=>by rw[e]at z;cases z) λφ z=>by rw[e]at z;cases z
  let pts:List (Int×Tr):=(List.range d.length).map λpl=>((1:Int),stm s' (d.set pl (n:Int)) (n+1))
  have a5:pts.length=d.length:=by show(List.map _ _).length=_;rw[length_map,length_range]
  let Pw1:PvL:=λi p j=>SameT H j/\TabsOk (tabs a) j/\j D=some (.lst p)/\i<=d.length/\Paired (NdR (untrs j (D::r))) (pts.take i) p
  refine nM (lo:=0) (n:=(d.length:Int).toNat) Pw1
   ⟨(Same.new hD).t,hT.same (Same.new hD),ae,Nat.zero_le _,.nil⟩ (λi ys j h=>h.2.2.1) ?_ ?_
  .rintro i p j P' hi ⟨X,Z,G,cg,hc⟩ b4
   have a':i<d.length:=by lia
   have Y:Bad j (D::r):=λb hb=>by
    rcases mem_cons.mp hb with rfl | hb
    .exact⟨_,G⟩
    .exact al.t X b hb
   have ac:=X.at an;have bc:untrs j (D::r) l=some (.lst (d.map V.int)):=(kr X hD).at hl;refine⟨⟨rfl,rfl,rfl,rfl,trivial⟩,?_⟩;refine⟨l,d.length,_,.int (n:Nat),d.map V.int,rfl,ac,by rw[length_map];exact bg,by lia,by lia,.inr (by rw[length_map]),λH2 h' s2 y hor=>?_⟩
   have bL:gK (d.length:Int) (d.map V.int) (.int (n:Nat)) (0+(i:Int))=(d.set i (n:Int)).map V.int:=by
    rw[iK V.int];unfold gK;rw[if_neg (by lia),if_pos (by lia),Int.zero_add];rfl
   rw[bL]at y;have b3:=s2 _ _ G
   have b0:untrs H2 (D::r) h'=some (.lst ((d.set i (n:Int)).map V.int)):=by
    rcases hor with rfl | hor
    .have:=(cF s2.t).at bc
     rw[(cw this).2]at y;rw[this,y]
    .exact pI Y hor y
   refine⟨.ref h',_,_,rfl,Z.same s2,λH3 f3 t3 b1 br=>?_⟩;have bt:=t3.at b3;refine⟨gQ _ _,λg ab=>?_⟩;have M:=Same.new (o:=.tup [.int 1,f3]) ab;have v:=M _ _ bt;have zl:p.length<=i:=by rw[<- hc.length,length_take];lia
   have bl:=(s2.t.trans t3).trans M.t;have I:Bad H3 (D::r):=(Y.t s2.t).t t3;have c4:SameT (untrs H3 (D::r)) (untrs (upd (upd H3 g (.tup [.int 1,f3])) D (.lst (p++[.ref g]))) (D::r)):=(cF M.t).trans (d6 mem_cons_self);have bm:pts[i]? = some ((1:Int),stm s' (d.set i (n:Int)) (n+1)):=by show(List.map _ _)[i]? = _;rw[List.getElem?_map,List.getElem?_range a'];rfl
   refine⟨v,by lia,b4 _ _ ⟨(X.trans bl).put hD,ext (b1.same M) v,ae,a',cP (aq (NdR.t (((cF s2.t).trans (cF t3)).trans c4)) hc) bm ⟨g,f3,rfl,?_,Int.le_refl 1,h',d.set i (n:Int),n,f,s',(mL I br).t c4,((cF t3).trans c4).at b0,rfl,e0,a9,hd.put i⟩⟩⟩;exact(d6 (o:=.lst (p++[.ref g])) mem_cons_self).at (di (I.t M.t) ae (λ_ z=>nomatch z))
  rintro p H1 ⟨X,Z,G,hi,hc⟩;rw[Int.toNat_natCast,<- a5,take_length]at hc;have zl:p.length=d.length:=by rw[<- hc.length,a5]
  have bq:=aq (NdR.t ky) hc;have u:=al.t X;have ac:=(cF X).at hl;refine⟨.ref l,_,_,rfl,Z,λH2 f2 t2 ba cc=>?_⟩;refine⟨gQ _ _,λg ab=>?_⟩;have s3:=Same.new (o:=.tup [.int ((n:Int)+1 - (d.length:Int)),f2]) ab;refine⟨(by decide:1<=sizeLine),λp3 b'=>?_⟩;have M:=Same.new (o:=.lst [.ref g]) b';have a4:=M _ _ (ae (H:=H2) (a:=g) (o:=.tup [.int ((n:Int)+1 - (d.length:Int)),f2]));have a7:=ae (H:=upd H2 g (.tup [.int ((n:Int)+1 - (d.length:Int)),f2])) (a:=p3) (o:=.lst [.ref g]);have B:=s3.trans M;generalize upd (upd H2 g (.tup [.int ((n:Int)+1 - (d.length:Int)),f2])) p3 (.lst [.ref g])=H4 at a4 a7 B;have v:=B _ _ (t2.at G);refine⟨D,p3,p,_,rfl,rfl,v,a7,by show p.length+1<=_;lia,λp5 bb=>?_⟩;have s5:=Same.new (o:=.lst (p++[.ref g])) bb;have L:=ae (H:=H4) (a:=p5) (o:=.lst (p++[.ref g]));generalize upd H4 p5 (.lst (p++[.ref g]))=H5 at s5 L;have a2:=B.t.trans s5.t;intro x2 F as W b5;have s9:Same H5 (upd (upd H5 F (.own x2)) x2 (.ins a.c_j F [])):=λb o e=>by rw[ag (aE e as),ag (aE e W)];exact e
  refine⟨x2,F,p5,_,rfl,ae,s9 _ _ L,λH6 l6 fl k g1 g2=>⟨rfl,?_⟩⟩;have s6:=made as W k;have a0:=a2.trans s6.t;have a3:=t2.trans a0;have bF:H5 l6=none:=s9.free fl;have R:=u.t a3;have c6:SameT (untrs H2 r) (untrs H6 r):=cF a0;have cj:=hd.len;refine q _ _ (X.trans a3) (ba.same ((B.trans s5).trans s6)) ?_;show IsNd a (untrs H6 r) (.ref x2) (.die (stP s' d n));refine⟨x2,F,l6,_,rfl,di R g1 (λ_ z=>nomatch z),pI ((u.t t2).t a2) bF g2,cD ⟨g,f2,rfl,di R ((s5.trans s6) _ _ a4) (λ_ z=>nomatch z),by show 1<=(n:Int)+1 - (d.length:Int);lia,l,d,n,f,s',(mL (u.t t2) cc).t c6,((cF t2).trans c6).at ac,rfl,e0,a9,hd.stay⟩ (aq (NdR.t ((cF t2).trans c6)) bq),by rw[Tb.stP_len];lia,by rw[Tb.stP_len];lia⟩
theorem sM(T:Txt K mg a)(M:Bm mg base):LamOk P w K mg base 4 aM fvH [] (mj a):=by
 have r:FnOk P w K mg base CX0 3 _ _ _ (spSN a):=mX T M;refine yK lsH (λN I i c L u=>match L,u with | [],_=>rfl) (λvals vs H Q E h=>?_) (λA outer s H f c i vals vs Q E hr hfv ca h=>?_)
 .obtain⟨l,d,n,b,s,y,rfl,rfl,_⟩:=h;rfl
 .obtain⟨l,d,n,b,k,y,rfl,rfl,j,u,B,p,x,G,q⟩:=h
  refine⟨_,(ap r hr rfl T.m_v T.F_v.kp T.B_v .nil ar (aa (vr 2) (aa (av cH (vr 0) am) (aa (vr 1) af)))),?_⟩;have g:=cT (oz j ca) u (λv z=>nomatch z);rw[oO]at g;have D:=x.len;refine⟨l,d,n+1,b,k,y,by show [V.ref l,.int ((n:Int)+1),.int (b:Int)]=_;push_cast;rfl,yF ca j,g,.inl B,p,by lia,x,TabsOk.untrs G ca,λR W C o F=>λH3 s3 hc=>?_⟩;exact q _ _ (back C s3 hc) (o.same s3) (F.t (cF s3.t))
end
open Tb (Tr stm stP Hd)
def spV(u:V):Sp:=λvs H Q _=>∃ v,vs=[v]/\Q u H
def xT(a:Ad):Sp:=λvs H Q _=>∃ x dx t,vs=[.ref x]/\H x=some (.ins a.c_g dx [("rising",.ref t)])/\Q (.ref t) H
def RawR(H:Hp)(pt:Int×V)(y:V):Prop:=∃ q,y=.ref q/\H q=some (.tup [.int pt.1,pt.2])/\1<=pt.1
theorem RawR.t{H H':Hp}(s:SameT H H')(a:Int×V)(y:V)(h:RawR H a y):RawR H' a y:=by
 obtain⟨q,b,d,c⟩:=h;exact⟨q,b,s.at d,c⟩
def IsRaw(a:Ad)(H:Hp)(v:V)(rs:List (Int×V)):Prop:=∃ x dx l ys,v=.ref x/\H x=some (.ins a.c_j dx [("makes",.ref l)])/\H l=some (.lst ys)/\Paired (RawR H) rs ys/\1<=rs.length/\rs.length<=5000
theorem IsRaw.t{a:Ad}{H H':Hp}{v:V}{b:List (Int×V)}(s:SameT H H')(h:IsRaw a H v b):IsRaw a H' v b:=by
 obtain⟨x,i,l,j,k,d,g,f,c,n⟩:=h;exact⟨x,i,l,j,k,s.at d,s.at g,aq (RawR.t s) f,c,n⟩
def yy:Sp:=λvs H Q _=>∃ v,vs=[v]/\∀ l,H l=none->Q (.ref l) (upd H l (.lst []))
def oR(rs:List (Int×V)):Int:=(rs.map (·.1)).sum
def wz(a:Ad):Sp:=λvs H Q _=>∃ v rs,vs=[v]/\IsRaw a H v rs/\∀ H',Same H H'->Q (.int (oR rs)) H'
def PrR(H:Hp)(p:Int×Tr)(r:Int×V):Prop:=p.1=r.1/\1<=p.1/\IsMk H r.2 p.2
theorem kN{a:Ad}{H:Hp}{v:V}{b:List Int}(h:IsNd a H v (.leaf b)):IsTold a H v b:=h
theorem kP{a:Ad}{H:Hp}{v:V}{ps:List (Int×Tr)}(h:IsNd a H v (.die ps)):∃ rs,IsRaw a H v rs/\Paired (PrR H) ps rs:=by
 obtain⟨x,n,l,b,rfl,k,s,u,B,i⟩:=h
 have c:∀{ps:List (Int×Tr)}{b:List V},Paired (NdR H) ps b->∃ rs:List (Int×V),Paired (RawR H) rs b/\Paired (PrR H) ps rs:=by
  intro ps b h
  induction h with
  | nil=>exact⟨[],.nil,.nil⟩
  | @cons pt y ps b r _ ih =>
   obtain⟨rs,w,A⟩:=ih;obtain⟨j,f,p,q,d,o⟩:=r;exact⟨(pt.1,f)::rs,.cons ⟨j,p,q,d⟩ w,.cons ⟨rfl,d,o⟩ A⟩
 obtain⟨rs,z,g⟩:=c u;have:rs.length=ps.length:=g.length.symm;exact⟨rs,⟨x,n,l,b,rfl,k,s,z,by lia,by lia⟩,g⟩
theorem kH{H:Hp}{ps:List (Int×Tr)}{a:List (Int×V)}(h:Paired (PrR H) ps a):oR a=Tb.tot ps:=by
 induction h with
 | nil=>rfl
 | cons r _ ih =>
  unfold oR Tb.tot at *;rw[map_cons,map_cons,sum_cons,sum_cons,ih,r.1]
theorem lD{a:Ad}{H:Hp}{g:List Addr}{f:V}{t:Tr}{Q:VK}(h:IsMk (untrs H g) f t)(i:Bad H g)(p:TabsOk (tabs a) H)(q:Res a H g t Q):vS aM fvH (mj a) f [] H Q:=by
 obtain⟨l,b,n,d,s,⟨u,c,r,rfl,x,w,A,z,v⟩,y,rfl,k,j,o⟩:=h;exact⟨u,c,r,_,rfl,(cw x).2,(cw w).2,A,z,kK nj v,l,b,n,d,s,g,rfl,rfl,i,y,k,j,o,p,q⟩
def PartN(a:Ad)(H:Hp)(pt:Int×Tr)(z:V):Prop:=∃ q u,z=.ref q/\H q=some (.tup [.int pt.1,u])/\IsNd a H u pt.2
theorem PartN.t{a:Ad}{H H':Hp}(s:SameT H H')(b:Int×Tr)(z:V)(h:PartN a H b z):PartN a H' b z:=by
 obtain⟨q,u,c,f,d⟩:=h;exact⟨q,u,c,s.at f,d.t s⟩
def y4(a:Ad):Sp:=λvs H Q _=>∃ v ps Bd,vs=[v]/\Bad H Bd/\IsNd a (untrs H Bd) v (.die ps)/\TabsOk (tabs a) H/\∀ H' D zs,SameT H H'->TabsOk (tabs a) H'->H D=none->H' D=some (.lst zs)->Paired (PartN a (untrs H' Bd)) ps zs->Q (.ref D) H'
section
variable {P:Program}{w:World}{K:Frag}{mg:Str->Option Value}{base:Heap}{a:Ad}
theorem sZ(T:Txt K mg a):FnOk P w K mg base CX0 1 a.x_i a.y_i ["self"] (spV (.bl true)):=by
 refine T.F_i.ok ii (λb H Q E h=>?_) (λcdv A outer s H b Q E hr h=>?_)
 .obtain⟨v,rfl,_⟩:=h;rfl
 .obtain⟨v,rfl,q⟩:=h
  exact⟨_,(ak (aw dq)),q⟩
theorem uR(T:Txt K mg a):FnOk P w K mg base CX0 1 a.x_t a.y_t ["self"] (spV (.int 0)):=by
 refine T.F_t.ok jL (λb H Q E h=>?_) (λcdv A outer s H b Q E hr h=>?_)
 .obtain⟨v,rfl,_⟩:=h;rfl
 .obtain⟨v,rfl,q⟩:=h
  exact⟨_,(ak (aw am)),q⟩
theorem xN(T:Txt K mg a):FnOk P w K mg base CX0 1 a.x_C a.y_C ["self"] (xT a):=by
 refine T.F_C.ok lT (λd H Q E h=>?_) (λcdv A outer s H d Q E hr h=>?_)
 .obtain⟨x,b,t,rfl,_⟩:=h;rfl
 .obtain⟨x,b,t,rfl,c,q⟩:=h
  exact⟨_,(ak (aw (cZ (vr 0) rfl))),x,_,b,_,_,rfl,c,T.cl_g,T.na_Told_rising,rfl,q⟩
theorem uF(T:Txt K mg a):FnOk P w K mg base CX0 1 a.x_m a.y_m ["self"] (spV (.bl false)):=by
 refine T.F_m.ok jx (λb H Q E h=>?_) (λcdv A outer s H b Q E hr h=>?_)
 .obtain⟨v,rfl,_⟩:=h;rfl
 .obtain⟨v,rfl,q⟩:=h
  exact⟨_,(ak (aw dq)),q⟩
theorem xG(T:Txt K mg a):FnOk P w K mg base CX0 1 a.x_G a.y_G ["self"] (spV .non):=by
 refine T.F_G.ok m8 (λb H Q E h=>?_) (λcdv A outer s H b Q E hr h=>?_)
 .obtain⟨v,rfl,_⟩:=h;rfl
 .obtain⟨v,rfl,q⟩:=h
  exact⟨_,(ak (aw kZ)),q⟩
theorem xq(T:Txt K mg a):FnOk P w K mg base CX0 1 a.x_w a.y_w ["self"] yy:=by
 refine T.F_w.ok jG (λb H Q E h=>?_) (λcdv A outer s H b Q E hr h=>?_)
 .obtain⟨v,rfl,_⟩:=h;rfl
 .obtain⟨v,rfl,q⟩:=h
  exact⟨_,(ak (aw (bI af))),Nat.zero_le _,λl c=>q l c⟩
theorem sJ(T:Txt K mg a):FnOk P w K mg base CX0 1 a.x_y a.y_y ["self"] (wz a):=by
 refine T.F_y.ok lR (λW H Q E h=>?_) (λcdv A outer s H W Q E hr h=>?_)
 .obtain⟨v,d,rfl,_⟩:=h;rfl
 .obtain⟨v,d,rfl,⟨x,X,l,g,rfl,Z,G,B,R,L⟩,q⟩:=h
  have u:sizeLine=16777216:=sizeLine_eq;refine⟨_,(ak (aw (aC (jY rfl) rfl T.z_sum tw (aa (cz rfl (N:=["many","make"]) (ix:=[none,none]) ⟨rfl,rfl,rfl,rfl,trivial⟩ (bJ (cZ (vr 0) rfl)) ⟨λC s H F=>(fm (K:=K) (n:=2) rfl rfl (az (au (i:=0) (show List.Nodup (["many","make"]:List Str) by decide +kernel) rfl (Or.inl rfl)) (az (au (i:=1) (show List.Nodup (["many","make"]:List Str) by decide +kernel) rfl (Or.inl rfl)) cu))),λC s H F=>b7,λC s H F=>(vr 0)⟩) af)))),?_⟩;refine⟨x,_,X,_,_,rfl,Z,T.cl_j,T.na_Die_makes,rfl,.inl ⟨⟨_,SqL.of G⟩,λD I=>?_⟩⟩
  let Pw1:PvL:=λi k c=>Same H c/\c D=some (.lst k)/\i<=d.length/\k=((d.take i).map (·.1)).map V.int
  refine bu (K:=K) (a:=l) (xs:=g) Pw1 ⟨Same.new I,ae,Nat.zero_le _,rfl⟩ (λi g c h=>SqL.of (h.1 _ _ G)) (λi g c h=>h.2.1) ?_ ?_
  .rintro i y k c P' M ⟨j,b,hi,rfl⟩ p
   obtain⟨⟨z,t⟩,f,Y,rfl,o,_⟩:=aJ B M;have r:i<d.length:=(List.getElem?_eq_some_iff.mp f).1;refine⟨Y,_,rfl,SqT.of (j _ _ o),rfl,_,_,rfl,_,_,rfl,rfl,trivial,b,by rw[length_map,length_map,length_take];lia,p _ _ ⟨j.put I,ae,r,?_⟩⟩;rw[take_add_one,f];simp
  .rintro k c ⟨j,b,_,rfl⟩
   rw[show g.length=d.length from B.length.symm,take_length]at b;exact⟨D,_,rfl,SqL.of b,q _ j⟩
theorem xD(T:Txt K mg a)(hB:Bm mg base):FnOk P w K mg base CX0 12 a.x_z a.y_z ["self"] (y4 a):=by
 have r:LamOk P w K mg base 11 aM fvH [] (mj a):=LamOk.mono (sM T hB) (by decide);refine T.F_z.ok lN (λvs H Q E h=>?_) (λcdv A outer s H vs Q E hr h=>?_)
 .obtain⟨v,I,X,rfl,_⟩:=h;rfl
 .obtain⟨v,I,X,rfl,a7,a6,hT,q⟩:=h
  have a8:sizeLine=16777216:=sizeLine_eq;obtain⟨rs,⟨x,dx,l,B,rfl,hx,hl,j,bb,ba⟩,M⟩:=kP a6;have rl:rs.length=I.length:=M.length.symm;have a1:B.length=rs.length:=j.length.symm;have hx:=(cw hx).2;have hl:=(cw hl).2;refine⟨_,(ak (aw (cz rfl (N:=["many","make"]) (ix:=[none,none]) ⟨rfl,rfl,rfl,rfl,trivial⟩ (bJ (cZ (vr 0) rfl)) ⟨λC s H fp=>(fm (K:=K) (n:=2) rfl rfl (az (au (i:=0) (show List.Nodup (["many","make"]:List Str) by decide +kernel) rfl (Or.inl rfl)) (az (au (i:=1) (show List.Nodup (["many","make"]:List Str) by decide +kernel) rfl (Or.inl rfl)) cu))),λC s H fp=>b7,λC s H fp=>(cB (aa (vr 0) (aa (kd (vr 1) r hr) af)))⟩))),?_⟩;refine⟨x,_,dx,_,_,rfl,hx,T.cl_j,T.na_Die_makes,rfl,.inl ⟨⟨_,SqL.of hl⟩,λD hD=>?_⟩⟩;have ext:∀{d:Hp},TabsOk (tabs a) d->∀{B:List V}{al:List V},d D=some (.lst B)->TabsOk (tabs a) (upd d D (.lst al)):=λas B al e=>as.put (λI z=>by rw[e]at z;cases z) λφ z=>by rw[e]at z;cases z
  let Pw2:PvL:=λi k d=>SameT H d/\TabsOk (tabs a) d/\d D=some (.lst k)/\i<=I.length/\Paired (PartN a (untrs d (D::X))) (I.take i) k
  refine bu (K:=K) (a:=l) (xs:=B) Pw2
   ⟨(Same.new hD).t,hT.same (Same.new hD),ae,Nat.zero_le _,.nil⟩ (λi B d h=>SqL.of (h.1.at hl)) (λi B d h=>h.2.2.1) ?_ ?_
  .rintro i y k d P' hy ⟨L,G,g,hi,Z⟩ a4
   obtain⟨⟨R,f⟩,a0,q1,rfl,F,m0⟩:=aJ j hy;obtain⟨⟨c,t⟩,ac,e9,_,a9⟩:=aJ M a0;have e9:c=R:=e9;subst e9;have F:=(cw F).2;have a5:i<I.length:=(List.getElem?_eq_some_iff.mp ac).1
   have p:Bad d (D::X):=λb hb=>by
    rcases mem_cons.mp hb with rfl | hb
    .exact⟨_,g⟩
    .exact a7.t L b hb
   refine⟨q1,_,rfl,SqT.of (L.at F),rfl,_,_,rfl,_,_,rfl,rfl,trivial,?_⟩;refine lD (a9.t (kr L hD)) p G λH2 u t2 an hu=>?_
   have a2:=t2.at g;refine⟨by show 2<=sizeLine;decide,λq2 a'=>?_⟩;have Y:=Same.new (o:=.tup [.int c,u]) a';have ab:=Y _ _ a2;have yl:k.length<=5000:=by rw[<- Z.length,length_take];lia
   have a3:=(L.trans t2).trans Y.t;have W:=(p.t t2).t Y.t;have c3:SameT (untrs H2 (D::X)) (untrs (upd (upd H2 q2 (.tup [.int c,u])) D (.lst (k++[.ref q2]))) (D::X)):=(cF Y.t).trans (d6 mem_cons_self);refine⟨ab,by lia,a4 _ _ ⟨a3.put hD,ext (an.same Y) ab,ae,a5,cP (aq (PartN.t ((cF t2).trans c3)) Z) ac ⟨q2,u,rfl,?_,hu.t c3⟩⟩⟩;exact(d6 (o:=.lst (k++[.ref q2])) mem_cons_self).at (di W ae (λ_ z=>nomatch z))
  .rintro k d ⟨L,G,g,hi,Z⟩
   rw[a1,rl,take_length]at Z;exact q d D k L G hD g (aq (PartN.t ky) Z)
end
open Tb (Tr Ent Way bnd vq Dk Dks)
theorem AB{H H':Hp}{D:Addr}(s:SameT H H')(h:H D=none):SameT H (untr H' D):=λb o e=>by
 rw[aS (aE e h)];exact s b o e
theorem vn{H H':Hp}{D:Addr}(s:SameT H H'):SameT (untr H D) (untr H' D):=λb o e=>by
 by_cases hb:b=D
 .rw[hb,cR]at e;cases e
 .rw[aS hb]at e ⊢
  exact s b o e
theorem vY{H:Hp}{D:Addr}{o:HO}:SameT (untr H D) (untr (upd H D o) D):=λb a e=>by
 by_cases hb:b=D
 .rw[hb,cR]at e;cases e
 .rw[aS hb]at e
  rw[aS hb,ag hb];exact SameT.refl b a e
def bd(d:Nat):Nat:=43*(24 - d)+2
def EntR(a:Ad)(H:Hp)(e:Ent)(y:V):Prop:=∃ q v d,y=.ref q/\H q=some (.tup [v,.int e.2.1,.int e.2.2])/\IsNd a H v e.1/\Dk d e.1/\d<=24/\Bt (bd d) e.2.1/\Bt (bd d) e.2.2/\0<e.2.2
theorem EntR.t{a:Ad}{H H':Hp}(s:SameT H H')(e:Ent)(y:V)(h:EntR a H e y):EntR a H' e y:=by
 obtain⟨q,v,d,b,g,c,f⟩:=h;exact⟨q,v,d,b,s.at g,c.t s,f⟩
def WayR(H:Hp)(w:Way)(y:V):Prop:=∃ q kt ct ns,y=.ref q/\H q=some (.tup [.ref kt,.ref ct])/\H kt=some (.tup (ns.map V.int))/\Srt ns w.1/\H ct=some (.tup [.int w.2.1,.int w.2.2])/\Bt 1100 w.2.1/\Bt 1100 w.2.2/\0<w.2.2
theorem WayR.t{H H':Hp}(s:SameT H H')(w:Way)(y:V)(h:WayR H w y):WayR H' w y:=by
 obtain⟨q,f,g,j,i,b,d,c,a,k⟩:=h;exact⟨q,f,g,j,i,s.at b,s.at d,c,s.at a,k⟩
def RefMT(a:Ad)(H:Hp)(E:XK):Prop:=∀ H',SameT H H'->TabsOk (tabs a) H'->E (.ref a.c_q) none H'
def tI(a:Ad):Sp:=λvs H Q E=>∃ v d t,vs=[v]/\IsNd a H v t/\Dk d t/\d<=24/\Tb.Ok t/\TabsOk (tabs a) H/\(Tb.lv t<=4096->∀ H' l zs,SameT H H'->TabsOk (tabs a) H'->H l=none->H' l=some (.lst zs)->Paired (WayR H') (Tb.wl t 1 1) zs->Q (.ref l) H')/\(4096<Tb.lv t->RefMT a H E)
theorem uz{a:Ad}{H d:Hp}{E:XK}{c:Addr}(t:SameT H d)(j:TabsOk (tabs a) d)(q:∀ H',SameT H H'->TabsOk (tabs a) H'->E (.ref c) none H'):∀ z,d z=none->∃ x dct φ,V.ref z=.ref x/\(upd d z (.ext (XD0 z c))) x=some (.ext φ)/\(∀ h,φ h->XU x c dct h)/\H x=none/\E (.ref c) dct (untr (upd d z (.ext (XD0 z c))) x):=λz i=>by
 have f:Same d (untr (upd d z (.ext (XD0 z c))) z):=λb o e=>by
  have g:b≠z:=λy=>by rw[y,i]at e;cases e
  rw[aS g,ag g];exact e
 exact⟨z,none,_,rfl,ae,λh y=>y,t.free i,q _ (t.trans f.t) (j.same f)⟩
def cut2(H:Hp)(l m:Addr):Hp:=untrs H [l,m]
theorem gp{H:Hp}{l m b:Addr}{o:HO}(h:cut2 H l m b=some o):b≠l/\b≠m/\H b=some o:=by
 obtain⟨n,e⟩:=cw h;exact⟨λz=>n (by rw[z];simp),λz=>n (by rw[z];simp),e⟩
theorem gA{H:Hp}{l m b:Addr}{o:HO}(a:b≠l)(c:b≠m)(h:H b=some o):cut2 H l m b=some o:=by
 unfold cut2;rw[bH (by simp[a,c])];exact h
theorem SameT.cut2{H H':Hp}{l m:Addr}(s:SameT H H'):SameT (cut2 H l m) (My.cut2 H' l m):=cF s
theorem pp{H:Hp}{l m:Addr}{o:HO}:SameT (cut2 H l m) (cut2 (upd H l o) l m):=d6 (by simp)
theorem zg{H:Hp}{l m:Addr}{o:HO}:SameT (cut2 H l m) (cut2 (upd H m o) l m):=d6 (by simp)
theorem nV{H:Hp}{l m:Addr}:SameT (cut2 H l m) H:=nj
theorem xX{H H':Hp}{l m:Addr}(s:SameT H H')(a:H l=none)(h2:H m=none):SameT H (cut2 H' l m):=λb o e=>by
 have c:b ∉ [l,m]:=λz=>by
  rcases mem_cons.mp z with z | z
  .rw[z,a]at e;cases e
  .rw[mem_singleton.mp z,h2]at e;cases e
 unfold cut2;rw[bH c];exact s b o e
theorem g7{d c:Type}{r:d->c->Prop}:∀{as:List d}{bs:List c},Paired r as bs->bs≠[]->∃ as' a bs' b,as=as'++[a]/\bs=bs'++[b]/\Paired r as' bs'/\r a b
 | _,_,.nil,h=>absurd rfl h
 | _,_,.cons (a:=a) (b:=b) x (.nil),_=>⟨[],_,[],_,rfl,rfl,.nil,x⟩
 | _,_,.cons x (.cons y t),_=>by
  obtain⟨as',a,bs',b,g,f,i,j⟩:=g7 (.cons y t) (by simp);exact⟨_::as',a,_::bs',b,by rw[g];rfl,by rw[f];rfl,.cons x i,j⟩
theorem cut_sub{H:Hp}{D:Addr}:SameT (untr H D) H:=λb a e=>by
 by_cases hb:b=D
 .rw[hb,cR]at e;cases e
 .rw[aS hb]at e
  exact SameT.refl b a e
theorem sG{H:Hp}{l m b:Addr}(h:H b=none):cut2 H l m b=none:=by
 cases e:cut2 H l m b with
 | none=>rfl
 | some o=>rw[(gp e).2.2]at h;cases h
theorem vb{H:Hp}{l m D:Addr}{o:HO}:SameT (untr (cut2 H l m) D) (untr (cut2 (upd H D o) l m) D):=λb a e=>by
 by_cases hb:b=D
 .rw[hb,cR]at e;cases e
 .rw[aS hb]at e
  obtain⟨c,d,h⟩:=gp e;have:untr (cut2 (upd H D o) l m) D b=some a:=by rw[aS hb];exact gA c d (by rw[ag hb];exact h)
  exact⟨λ_=>this,a,this⟩
theorem gU{b a:Type}{r:b->a->Prop}{c:List b}{ds:List a}(h2:Paired r c ds):∀{as:List b}{bs:List a},Paired r as bs->Paired r (as++c) (bs++ds)
 | _,_,.nil=>h2
 | _,_,.cons x t=>.cons x (gU h2 t)
theorem ur:∀{d:Nat}{ps:List (Int×Tr)},Dks d ps->(ps.length:Int)<=Tb.tot ps/\Tb.tot ps<=(ps.length:Int)*1000000000
 | _,[],_=>by simp[Tb.tot]
 | d,(m,u)::r,h=>by
  rw[Tb.Dks]at h;have b:=ur h.2.2.2;have c:=h.1;have f:=h.2.1;have a:Tb.tot ((m,u)::r)=m+Tb.tot r:=by unfold Tb.tot;rw[map_cons,sum_cons]
  rw[a,length_cons];have e:((r.length+1:Nat):Int)*1000000000=(r.length:Int)*1000000000+1000000000:=by rw[Int.natCast_add,Int.add_mul];simp
  rw[e];show((r.length+1:Nat):Int)<=m+_/\m+_<=_;lia
section
variable {P:Program}{w:World}{K:Frag}{mg:Str->Option Value}{base:Heap}{a:Ad}
theorem v6(T:Txt K mg a)(hB:Bm mg base):FnOk P w K mg base (CXG P w) 14 a.f_R a.d_R ["node"] (tI a):=by
 have dr:FnOk P w K mg base CX0 13 _ _ _ _:=(sZ T).mono (by decide);have dv:FnOk P w K mg base CX0 13 _ _ _ _:=(uF T).mono (by decide);have eg:FnOk P w K mg base CX0 13 _ _ _ _:=(xN T).mono (by decide);have eb:FnOk P w K mg base CX0 13 _ _ _ _:=(xG T).mono (by decide);have dp:FnOk P w K mg base CX0 13 _ _ _ _:=(uR T).mono (by decide);have ek:FnOk P w K mg base CX0 13 _ _ _ _:=(sJ T).mono (by decide);have dt:FnOk P w K mg base CX0 13 _ _ _ _:=(xq T).mono (by decide);have d2:FnOk P w K mg base CX0 13 _ _ _ _:=(xD T hB).mono (by decide);refine T.F_R.okG sc_R (λvs H Q E h=>?_) (λcdv A outer s H vs Q E hr h=>?_)
 .obtain⟨v,d,t,rfl,_⟩:=h;rfl
 .obtain⟨v,d,t,rfl,hn,d3,hd,ej,hT,q1,q2⟩:=h
  have dy:sizeLine=16777216:=sizeLine_eq;refine⟨_,(ai (ay (i:=1) sc_R.nd rfl (Or.inl rfl) (bI af)) (ai (ay (i:=2) sc_R.nd rfl (Or.inl rfl) (bI (aa (cB (aa (vr 0) (aa am (aa am af)))) af))) (ai (iU oY (nS (vr 2) (λ_=>rfl)) (ai (oh (pe_m.pop (vr 2)) (eV rfl (az (au (i:=3) sc_R.nd rfl (Or.inl rfl)) (az (au (i:=4) sc_R.nd rfl (Or.inr rfl)) (az (au (i:=5) sc_R.nd rfl (Or.inr rfl)) cu))))) (ai (bY (dC (PE.or (aF (vr 3) T.cl_g T.mt_i dr hr T.B_i .nil ar) (aF (vr 3) T.cl_j T.mt_m dv hr T.B_m .nil ar))) (ak (eO (pe_m.append (vr 1) (aa (cB (aa (PE.or (aF (vr 3) T.cl_g T.mt_C eg hr T.B_C .nil ar) (aF (vr 3) T.cl_j T.mt_G eb hr T.B_G .nil ar)) (aa (cB (aa (vr 4) (aa (vr 5) af))) af))) af)))) (ai (ay (i:=6) sc_R.nd rfl (Or.inr rfl) (PE.or (aF (vr 3) T.cl_g T.mt_t dp hr T.B_t .nil ar) (aF (vr 3) T.cl_j T.mt_y ek hr T.B_y .nil ar))) (ak (eO (pe_m.extend (vr 2) (aa (cz rfl (N:=["many","after","top","bottom","sides"]) (ix:=[none,none,some 4,some 5,some 6]) ⟨rfl,rfl,rfl,rfl,⟨rfl,rfl,rfl,⟨rfl,rfl,rfl,⟨rfl,rfl,rfl,trivial⟩⟩⟩⟩ (bJ (PE.or (aF (vr 3) T.cl_g T.mt_w dt hr T.B_w .nil ar) (aF (vr 3) T.cl_j T.mt_z d2 hr T.B_z .nil ar))) ⟨λC s H fp=>(fm (K:=K) (n:=2) rfl rfl (az (au (i:=0) (show List.Nodup (["many","after","top","bottom","sides"]:List Str) by decide +kernel) rfl (Or.inl rfl)) (az (au (i:=1) (show List.Nodup (["many","after","top","bottom","sides"]:List Str) by decide +kernel) rfl (Or.inl rfl)) cu))),λC s H fp=>b7,λC s H fp=>(cB (aa (vr 1) (aa (av dP (vr 2) (vr 0)) (aa (av dP (vr 3) (vr 4)) af))))⟩) af)))))) (ak (bY (cJ zZ (av cH (aC ce rfl T.z_len dN (aa (vr 1) af)) (aC ce rfl T.z_len dN (aa (vr 2) af))) (js rfl T.g_MOST_WAYS) (bv _)) (ak (cQ T.xc_q T.xh_q (iN T.xi_TooMany T.kc_TooMany rfl T.mc_q))) aU))))) (ak (aw (vr 1)))))),pL ?_⟩;intro et eR eH;refine⟨Nat.zero_le _,λj a9=>?_⟩;have u1:=Same.new (o:=.lst []) a9;refine⟨by show 3<=sizeLine;decide,λq0 b3=>?_⟩;have u2:=Same.new (o:=.tup [v,.int 1,.int 1]) b3;refine⟨by show 1<=sizeLine;decide,λg as=>?_⟩
  have u3:=Same.new (o:=.lst [.ref q0]) as;have b5:=(u1.trans u2).trans u3;have Z:=(u2.trans u3) _ _ (ae (H:=H) (a:=j) (o:=.lst []));have c5:=u3 _ _ (ae (H:=upd H j (.lst [])) (a:=q0) (o:=.tup [v,.int 1,.int 1]));have L:=ae (H:=upd (upd H j (.lst [])) q0 (.tup [v,.int 1,.int 1])) (a:=g) (o:=.lst [.ref q0]);have a0:H g=none:=(u1.trans u2).free as;have ea:q0≠g:=λz=>by rw[<- z,ae]at as;cases as
  have dm:q0≠j:=λz=>by rw[z,ae]at b3;cases b3
  have bL:j≠g:=λz=>by rw[<- z,u2 _ _ (ae (H:=H) (a:=j) (o:=.lst []))]at as;cases as
  have dk:Bt (bd d) 1:=(show Bt 2 1 by unfold Bt;decide).mono (by unfold bd;lia)
  let Pw2:PvS:=λc σ X=>∃(s:List Ent) (k:List Way) (ys F:List V) (x3 x4 x5 x6:Option V),c=Tb.stS s/\SameT H X/\TabsOk (tabs a) X/\X g=some (.lst ys)/\X j=some (.lst F)/\Paired (EntR a (cut2 X g j)) s ys/\Paired (WayR (cut2 X g j)) k F/\Tb.Wk t k s/\k.length+s.length<=4096/\σ=[some v,some (.ref j),some (.ref g),x3,x4,x5,x6]
  refine⟨Pw2,
   ⟨_,[(t,(1,1))],[],[.ref q0],[],none,none,none,none,rfl,b5.t,hT.same b5,L,Z,.cons ⟨q0,v,d,rfl,gA ea dm c5,hn.t (xX b5.t a0 a9),d3,hd,dk,dk,Int.zero_lt_one⟩ .nil,.nil,Tb.Wk.start ej,(show 0+1<=4096 by decide),rfl⟩,?_⟩
  clear Z c5 L;rintro c σ X ⟨s,k,ys,F,x3,x4,x5,x6,rfl,t1,c9,a4,dd,hE,a7,hW,W,rfl⟩;refine⟨_,.inl ⟨_,SqL.of a4,rfl⟩,?_⟩;refine ifB (λhc=>?_) (λhc=>?_)
  .refine⟨_,λ_ _ h=>h,?_⟩
   have ne:ys≠[]:=λz=>by rw[z]at hc;cases hc
   obtain⟨s',e,f,y,rfl,rfl,b',q,v1,d1,rfl,hq,ds,G,ex,b1,b2,b0⟩:=g7 hE ne;obtain⟨u,tp,bt⟩:=e;obtain⟨ep,ez,dT⟩:=gp hq;refine⟨.inl ⟨rfl,_,SqL.of a4⟩,⟨g,_,_,rfl,rfl,a4,by simp;rfl,?_⟩⟩;have ed:(f++[V.ref q]).dropLast=f:=List.dropLast_concat;have t2:SameT H (upd X g (.lst (f++[V.ref q]).dropLast)):=t1.put a0;have bq:TabsOk (tabs a) (upd X g (.lst (f++[V.ref q]).dropLast)):=c9.put (λr z=>by rw[a4]at z;cases z) λφ z=>by rw[a4]at z;cases z
   have ab:(upd X g (.lst (f++[V.ref q]).dropLast)) g=some (.lst f):=by rw[ae,ed]
   have R:(upd X g (.lst (f++[V.ref q]).dropLast)) j=some (.lst F):=by rw[ag bL];exact dd
   have c':(upd X g (.lst (f++[V.ref q]).dropLast)) q=some (.tup [v1,.int tp,.int bt]):=by rw[ag ep];exact dT
   have c2:SameT (cut2 X g j) (cut2 (upd X g (.lst (f++[V.ref q]).dropLast)) g j):=pp;refine⟨q,_,rfl,SqT.of c',rfl,_,_,rfl,_,_,rfl,_,_,rfl,rfl,?_⟩;generalize upd X g (.lst (f++[V.ref q]).dropLast)=H2 at t2 bq ab R c' c2;have c7:=aq (EntR.t c2) b';have bc:=aq (WayR.t c2) a7;have ca:=ds.t c2;cases u with
   | leaf ns =>
    obtain⟨x,dx,kt,dV,rfl,hx,cs,hs⟩:=kN ca;have ac:=(gp hx).2.2;have es:=(gp cs).2.2;refine .inl ⟨x,dx,_,rfl,ac,rfl,_,rfl,?_⟩;refine⟨.inl ⟨rfl,_,SqL.of R⟩,.inl ⟨x,dx,_,rfl,ac,rfl,x,dx,kt,rfl,ac,?_⟩⟩;have bn:bd d1<=1100:=by unfold bd;lia
    have zl:F.length=k.length:=a7.length.symm;have yl:f.length=s'.length:=b'.length.symm;have de:k.length+(s'.length+1)<=4096:=by rw[length_append]at W;exact W
    refine⟨by show 2<=sizeLine;decide,λct a2=>?_⟩;have n1:=Same.new (o:=.tup [.int tp,.int bt]) a2;refine⟨by show 2<=sizeLine;decide,λp fp=>?_⟩;have n2:=Same.new (o:=.tup [.ref kt,.ref ct]) fp;have an:=n1.trans n2;have ba:=n2 _ _ (ae (H:=H2) (a:=ct) (o:=.tup [.int tp,.int bt]));have c3:=ae (H:=upd H2 ct (.tup [.int tp,.int bt])) (a:=p) (o:=.tup [.ref kt,.ref ct]);have dL:ct≠g:=λz=>by rw[z,ab]at a2;cases a2
    have c8:ct≠j:=λz=>by rw[z,R]at a2;cases a2
    have ef:p≠g:=λz=>by rw[z,n1 _ _ ab]at fp;cases fp
    have co:p≠j:=λz=>by rw[z,n1 _ _ R]at fp;cases fp
    generalize upd (upd H2 ct (.tup [.int tp,.int bt])) p (.tup [.ref kt,.ref ct])=H4 at an ba c3;have M:=an _ _ R;have B:(upd H4 j (.lst (F++[.ref p]))) g=some (.lst f):=by rw[ag (Ne.symm bL)];exact an _ _ ab
    have c4:SameT (cut2 H2 g j) (cut2 (upd H4 j (.lst (F++[.ref p]))) g j):=(SameT.cut2 an.t).trans zg;have cx:TabsOk (tabs a) (upd H4 j (.lst (F++[.ref p]))):=(bq.same an).put (λr z=>by rw[M]at z;cases z) λφ z=>by rw[M]at z;cases z
    have t5:SameT H (upd H4 j (.lst (F++[.ref p]))):=(t2.trans an.t).put a9;have bg:=c4.at cs;have bb:cut2 (upd H4 j (.lst (F++[.ref p]))) g j ct=some (.tup [.int tp,.int bt]):=gA dL c8 (by rw[ag c8];exact ba);have cg:cut2 (upd H4 j (.lst (F++[.ref p]))) g j p=some (.tup [.ref kt,.ref ct]):=gA ef co (by rw[ag co];exact c3);refine⟨j,F,_,rfl,rfl,M,by lia,?_⟩;have Y:=ae (H:=H4) (a:=j) (o:=.lst (F++[.ref p]));generalize upd H4 j (.lst (F++[.ref p]))=H5 at B c4 cx t5 bg bb cg Y;refine⟨_,.inl (SqL.of Y),⟨_,.inl (SqL.of B),?_⟩⟩;have ll:((F++[V.ref p]).length:Int)+(f.length:Int)<=4096:=by rw[length_append,length_singleton];lia
    refine ifC (λz=>absurd (show(4096:Int)<((F++[V.ref p]).length:Int)+(f.length:Int) from z) (by lia)) λ_=>?_
    refine⟨Tb.stS s',?_,s',k++[(ns,(tp,bt))],f,F++[.ref p],_,_,_,_,rfl,t5,cx,B,Y,aq (EntR.t c4) c7,cD ⟨p,kt,ct,dV,rfl,cg,bg,hs,bb,b1.mono bn,b2.mono bn,b0⟩ (aq (WayR.t c4) bc),hW.leaf,?_,rfl⟩
    .rw[Tb.stS_app,Tb.stS,Tb.stS,Tb.sz];lia
    .rw[length_append,length_singleton];lia
   | die r =>
    obtain⟨rs,b6,d0⟩:=kP ca;have a1:=b6.t nV;obtain⟨x,dx,l,mk,rfl,ac,eD,_⟩:=id a1
    obtain⟨d',rfl⟩:∃ d',d1=d'+1:=by
     cases d1 with
     | zero=>rw[Tb.Dk]at G;exact G.elim
     | succ d'=>exact⟨d',rfl⟩
    rw[Tb.Dk]at G;refine .inr ⟨x,dx,_,rfl,ac,rfl,_,rfl,?_⟩;have c0:Tb.Ok (.die r):=hW.ok _ (mem_append_right _ mem_cons_self);rw[Tb.Ok]at c0;refine .inr ⟨x,dx,_,rfl,ac,rfl,.ref x,rs,rfl,a1,λH3 n3=>?_⟩;rw[kH d0];have L:=n3 _ _ ab;have Z:=n3 _ _ R;refine⟨.inl ⟨rfl,_,SqL.of L⟩,?_⟩;have en:=n3 _ _ ac;have eq:r.length<=1000:=G.2.1;have dK:∀ p∈r,1<=p.1/\p.1<=1000000000:=λp hp=>let z:=Tb.dk_part G.2.2 hp;⟨z.1,z.2.1⟩
    obtain⟨ey,eu⟩:=ur G.2.2;have t3:=t2.trans n3.t
    have ck:Bad H3 [g,j]:=λb hb=>by
     rcases mem_cons.mp hb with z | z
     .rw[z];exact⟨_,L⟩
     .rw[mem_singleton.mp z];exact⟨_,Z⟩
    refine .inr ⟨x,dx,_,rfl,en,rfl,.ref x,r,[g,j],rfl,ck,ca.t (SameT.cut2 n3.t),bq.same n3,λH4 D zz t4 ei fD hD hP=>?_⟩;have bo:=t4.at L;have M:=t4.at Z;have bF:zz.length=r.length:=hP.length.symm;have bS:Bt 43 (Tb.tot r):=by unfold Bt;lia
    have ci:bd (d'+1)+43<=bd d':=by unfold bd;lia
    refine .inl ⟨⟨_,SqL.of hD⟩,λD2 a8=>?_⟩
    let Pw1:PvL:=λi I H5=>i<=r.length/\Same H4 H5/\H5 D2=some (.lst I)/\Paired (EntR a (untr (cut2 H5 g j) D2)) ((Tb.kids r tp bt (Tb.tot r)).take i) I
    refine bu (K:=K) (a:=D) (xs:=zz) Pw1 ⟨Nat.zero_le _,Same.new a8,ae,.nil⟩ (λi ys X h=>SqL.of (h.2.1 _ _ hD)) (λi ys X h=>h.2.2.1) ?_ ?_
    .rintro i y I H5 P' hy ⟨hi,n5,a',al⟩ ec
     obtain⟨⟨m,u⟩,a6,qq,un,rfl,br,dz⟩:=aJ hP hy;have br:=(cw br).2;have c1:=(Tb.dk_part G.2.2 (List.mem_of_getElem? a6)).2.2;have em:i<r.length:=(List.getElem?_eq_some_iff.mp a6).1;have mp:=dK _ (List.mem_of_getElem? a6);have bm:Bt 43 m:=by have h1:1<=m:=mp.1;have h2:m<=1000000000:=mp.2;unfold Bt;lia
     have df:I.length<=5000:=by rw[<- al.length,length_take];unfold Tb.kids;rw[length_map];lia
     refine⟨qq,_,rfl,SqT.of (n5 _ _ br),rfl,_,_,rfl,_,_,rfl,rfl,⟨rfl,rfl,rfl,trivial⟩,?_⟩;have bl:bd (d'+1)<=1100:=by unfold bd;lia
     refine⟨cmB (b1.mono bl) bm,cmB (b2.mono bl) bS,by show 3<=sizeLine;decide,λq3 f3=>?_⟩;have n6:=Same.new (o:=.tup [un,.int (tp*m),.int (bt*Tb.tot r)]) f3;have eo:=n6 _ _ a';have cC:q3≠D2:=λz=>by rw[z,a']at f3;cases f3
     have cy:q3≠g:=λz=>by rw[z,n5 _ _ bo]at f3;cases f3
     have cm:q3≠j:=λz=>by rw[z,n5 _ _ M]at f3;cases f3
     refine⟨eo,by lia,ec _ _ ⟨em,(n5.trans n6).put a8,ae,?_⟩⟩;have cc:SameT (untr (cut2 H5 g j) D2) (untr (cut2 (upd (upd H5 q3 (.tup [un,.int (tp*m),.int (bt*Tb.tot r)])) D2 (.lst (I++[.ref q3]))) g j) D2):=(vn (SameT.cut2 n6.t)).trans vb;have cn:SameT (cut2 H4 g j) (untr (cut2 (upd (upd H5 q3 (.tup [un,.int (tp*m),.int (bt*Tb.tot r)])) D2 (.lst (I++[.ref q3]))) g j) D2):=AB (SameT.cut2 ((n5.trans n6).put a8).t) (sG a8);have hk:(Tb.kids r tp bt (Tb.tot r))[i]? = some (u,(tp*m,bt*Tb.tot r)):=by unfold Tb.kids;rw[List.getElem?_map,a6];rfl
     refine cP (aq (EntR.t cc) al) hk ⟨q3,un,d',rfl,?_,dz.t cn,c1,by lia,(b1.mul bm).mono ci,(b2.mul bS).mono ci,Int.mul_pos b0 (by lia)⟩;rw[aS cC];exact gA cy cm (by rw[ag cC];exact ae)
    .rintro I H5 ⟨_,n5,a',al⟩
     have kl:(Tb.kids r tp bt (Tb.tot r)).length=zz.length:=by unfold Tb.kids;rw[length_map,bF]
     rw[<- kl,take_length]at al;have df:I.length=r.length:=by rw[<- al.length,kl,bF]
     have yl:f.length=s'.length:=b'.length.symm;have zl:F.length=k.length:=a7.length.symm;have de:k.length+(s'.length+1)<=4096:=by rw[length_append]at W;exact W
     have B:=n5 _ _ bo;have Y:=n5 _ _ M;refine⟨g,D2,f,I,rfl,rfl,B,a',by lia,?_⟩;have t6:SameT H (upd H5 g (.lst (f++I))):=((t3.trans t4).trans n5.t).put a0;have b4:TabsOk (tabs a) (upd H5 g (.lst (f++I))):=(ei.same n5).put (λr z=>by rw[B]at z;cases z) λφ z=>by rw[B]at z;cases z
     have a5:=ae (H:=H5) (a:=g) (o:=.lst (f++I));have a3:(upd H5 g (.lst (f++I))) j=some (.lst F):=by rw[ag bL];exact Y
     have c6:SameT (cut2 H2 g j) (cut2 (upd H5 g (.lst (f++I))) g j):=(SameT.cut2 ((n3.t.trans t4).trans n5.t)).trans pp;have k6:SameT (untr (cut2 H5 g j) D2) (cut2 (upd H5 g (.lst (f++I))) g j):=cut_sub.trans pp;generalize upd H5 g (.lst (f++I))=H6 at t6 b4 a5 a3 c6 k6;have cj:=hW.die;refine⟨_,.inl (SqL.of a3),⟨_,.inl (SqL.of a5),?_⟩⟩;have ev:(Tb.kids r tp bt (Tb.tot r)).length=I.length:=by rw[kl,bF,df]
     refine ifC (λz=>?_) λz=>?_
     .have z:(4096:Int)<(F.length:Int)+((f++I).length:Int):=z
      have:=cj.few;rw[length_append]at this z;exact uz t6 b4 (q2 (by lia))
     .have z:¬(4096:Int)<(F.length:Int)+((f++I).length:Int):=z
      rw[length_append]at z;refine⟨_,?_,s'++Tb.kids r tp bt (Tb.tot r),k,f++I,F,_,_,_,_,rfl,t6,b4,a5,a3,gU (aq (EntR.t k6) al) (aq (EntR.t c6) c7),aq (WayR.t c6) bc,cj,?_,rfl⟩
      .rw[Tb.stS_app,Tb.stS_app,Tb.stS_kids,Tb.stS,Tb.stS,Tb.sz];lia
      .rw[length_append];lia
  .have e0:ys=[]:=List.isEmpty_iff.mp (by simpa using hc)
   subst e0;cases hE;have ew:=hW.done;have el:Tb.lv t<=4096:=by rw[<- Tb.wl_len t 1 1,<- ew];simpa using W
   refine q1 el _ j F t1 c9 a9 dd ?_;rw[<- ew];exact aq (WayR.t nV) a7
end
end My
namespace My
open PySem L2 FrM Du
open Tb (Tr Ent Way Rws Ch Lm2)
def zN:Sp:=λ_ _ _ _=>False
inductive spGcd(vs:List V)(H:Hp)(Q:VK)(_E:XK):Prop
 | mk(x y:Int)(h0:vs=[.int x,.int y])(h1:0<=x)(h2:0<=y)(h3:Q (.int (Int.gcd x y)) H):spGcd vs H Q _E
def BJ(H:Hp)(Q:VK)(T B:Int):Prop:=∀ H' p,Same H H'->H' p=some (.tup [.int (ij T B).1,.int (ij T B).2])->Q (.ref p) H'
inductive spLow(vs:List V)(H:Hp)(Q:VK)(_E:XK):Prop
 | mk(T B:Int)(h0:vs=[.int T,.int B])(h1:0<B)(h2:Bt 6000 T)(h3:Bt 6000 B)(h4:BJ H Q T B):spLow vs H Q _E
def PT(K:Frag)(H:Hp)(p:Addr)(f:Int×Int):Prop:=H p=some (.tup [.int f.1,.int f.2])\/vt K p [.int f.1,.int f.2]=true
theorem PT.sq{K:Frag}{H:Hp}{p:Addr}{f:Int×Int}(h:PT K H p f):SqT K H p [.int f.1,.int f.2]:=h.elim SqT.of zu
def IsF(K:Frag)(H:Hp)(f:Int×Int)(x:V):Prop:=∃ p,x=.ref p/\PT K H p f
theorem IsF.tk{K:Frag}{H H':Hp}{f:Int×Int}{x:V}(k:TK H H')(h:IsF K H f x):IsF K H' f x:=let ⟨p,e,q⟩:=h;⟨p,e,q.imp (λz=>k _ _ z) id⟩
abbrev AllF(K:Frag)(H:Hp):List (Int×Int)->List V->Prop:=PySem.Paired (IsF K H)
theorem IsF.same{K:Frag}{H H':Hp}{f:Int×Int}{x:V}(s:Same H H')(h:IsF K H f x):IsF K H' f x:=h.tk s.tk
theorem AllF.tk{K:Frag}{H H':Hp}(k:TK H H'):∀{fs:List (Int×Int)}{xs:List V},AllF K H fs xs->AllF K H' fs xs
 | _,_,.nil=>.nil
 | _,_,.cons r t=>.cons (r.tk k) (AllF.tk k t)
theorem AllF.get{K:Frag}{H:Hp}:∀{fs:List (Int×Int)}{xs:List V}{i:Nat}{x:V},AllF K H fs xs->xs[i]? = some x->∃ f,fs[i]? = some f/\IsF K H f x
 | _,_,_,_,.nil,h=>by cases h
 | _,_,0,_,.cons r _,h=>⟨_,rfl,by cases h;exact r⟩
 | _,_,i+1,_,.cons _ t,h=>AllF.get (i:=i) t h
theorem AllF.snoc{K:Frag}{H:Hp}{f:Int×Int}{x:V}(r:IsF K H f x):∀{fs:List (Int×Int)}{xs:List V},AllF K H fs xs->AllF K H (fs++[f]) (xs++[x])
 | _,_,.nil=>.cons r .nil
 | _,_,.cons q t=>.cons q (AllF.snoc r t)
theorem AllF.len{K:Frag}{H:Hp}{a:List (Int×Int)}{xs:List V}(h:AllF K H a xs):a.length=xs.length:=Paired.length h
theorem xk(T B:Int):Int.gcd (if T<0 then -T else T) B=Int.gcd T B:=by
 split
 .exact Int.neg_gcd
 .rfl
theorem px0{K:Frag}{H:Hp}{p:Addr}{x y:V}{Q:VK}(h:SqT K H p [x,y])(q:Q x H):rIx K (.ref p) (.int 0) H Q:=.inr (.inl ⟨p,_,_,x,rfl,rfl,h,aT (j:=0) rfl,q⟩)
theorem px1{K:Frag}{H:Hp}{p:Addr}{x y:V}{Q:VK}(h:SqT K H p [x,y])(q:Q y H):rIx K (.ref p) (.int 1) H Q:=.inr (.inl ⟨p,_,_,y,rfl,rfl,h,aT (j:=1) rfl,q⟩)
abbrev IsQ(K:Frag)(H:Hp)(q:Rat)(x:V):Prop:=IsF K H (fr q) x
inductive spLcm(K:Frag)(vs:List V)(H:Hp)(Q:VK)(_E:XK):Prop
 | mk(l:Addr)(ns:List Int)(D:Nat)(h0:vs=[.ref l])(h1:SqL K H l (ns.map V.int))(h2:0<D)(h3:D<=Lm2)(h4:(∀ n∈ns,0<n/\n ∣ (D:Int)))(h5:∀ r,0<r->r ∣ (D:Int)->(∀ n∈ns,n ∣ r)->Q (.int r) H):spLcm K vs H Q _E
inductive spTotal(K:Frag)(vs:List V)(H:Hp)(Q:VK)(_E:XK):Prop
 | mk(l:Addr)(fs:List (Int×Int))(xs:List V)(D:Nat)(h0:vs=[.ref l])(h1:H l=some (.lst xs))(h2:AllF K H fs xs)(h3:xs.length<=5000)(h4:0<D)(h5:D<=Lm2)(h6:(∀ f∈fs,Ch (D:Int) f))(h7:∀ H' z,Same H H'->IsQ K H' (Tb.sumQ fs) z->Q z H'):spTotal K vs H Q _E
theorem vf{L:Int}:∀{xs:List Int},(∀ x∈xs,0<=x/\x<=L)->0<=xs.sum/\xs.sum<=(xs.length:Int)*L
 | [],_=>by simp
 | x::xs,h=>by
  have b:=vf λy a=>h y (mem_cons_of_mem _ a)
  have c:=h x mem_cons_self;rw[sum_cons,length_cons];have e:((xs.length+1:Nat):Int)*L=(xs.length:Int)*L+L:=by rw[Int.natCast_add,Int.add_mul];simp
  rw[e];lia
theorem yW{L t b:Int}(i:0<L)(g:0<=t)(h:t<=b)(f:0<b)(d:b ∣ L):0<=t*(L/b)/\t*(L/b)<=L:=by
 obtain⟨c,rfl⟩:=d;rw[Int.mul_ediv_cancel_left c (by lia)]
 have a:0<=c:=by
  rcases Int.lt_or_le c 0 with z | z
  .have:=Int.mul_neg_of_pos_of_neg f z;lia
  .exact z
 exact⟨Int.mul_nonneg g a,Int.mul_le_mul_of_nonneg_right h a⟩
theorem A8{D n:Nat}{i:Int}(f:D<=Lm2)(d:n<=5000)(g:0<=i)(h:i<=(n:Int)*(D:Int)):Bt 2800 i:=by
 unfold Bt;have j:(n:Int)*(D:Int)<=5000*(Lm2:Nat):=Int.mul_le_mul (by lia) (by lia) (by lia) (by lia);have c:i.natAbs<=5000*Lm2:=by lia
 have b:5000*Lm2<2 ^ 13*Lm2:=Nat.mul_lt_mul_of_pos_right (by decide) (by unfold Lm2;exact Nat.pow_pos (by decide));have a:2 ^ 13*Lm2<=2 ^ 2800:=by unfold Lm2;rw[<- Nat.pow_add];exact Nat.pow_le_pow_right (by decide) (by decide)
 exact Nat.lt_of_le_of_lt c (Nat.lt_of_lt_of_le b a)
section
variable {P:Program}{w:World}{K:Frag}{mg:Str->Option Value}{base:Heap}{a:Ad}
theorem Ae{k:Nat}{f:Addr}{a:FuncData}{ps:List Str}:FnOk P w K mg base CX0 k f a ps zN:=⟨λ_ _ _ _ h=>h.elim,λ_ _ _ _ _ _ _ _ _ _ _ _ _ h=>h.elim⟩
theorem uL(T:Txt K mg a):FnOk P w K mg base CX0 1 a.f_h a.d_h ["one","other"] spGcd:=by
 refine T.F_h.ok sc_h (λr H Q E h=>?_) (λcdv A outer s H r Q E hr h=>?_)
 .obtain⟨x,y,rfl,_⟩:=h;rfl
 .obtain⟨l,k,rfl,u,v,q⟩:=h
  refine⟨_,(ai (iU PassesOwn.never (nS (vr 1) (λ_=>rfl)) (ak (yv rfl sc_h.nd (i:=0) (j:=1) rfl rfl (by decide) rfl rfl (aa (vr 1) (aa (av dR (vr 0) (vr 1)) af)) rfl))) (ak (aw (vr 0)))),qr ?_⟩;intro z;refine⟨λm n g=>g=H/\∃ x y:Int,0<=x/\0<=y/\m=y.toNat/\Int.gcd x y=Int.gcd l k/\n=[some (.int x),some (.int y)],⟨_,rfl,l,k,u,v,rfl,rfl,rfl⟩,?_⟩;rintro m n g ⟨rfl,x,y,B,p,rfl,o,rfl⟩;refine⟨_,rfl,?_⟩;refine ifB (λc=>?_) (λc=>?_)
  .have f:y≠0:=by simpa using c
   let Pw4:St->Hp->Prop:=λd b=>b=g/\d=[some (.int y),some (.int (x % y))]
   refine⟨Pw4,?_,?_⟩
   .rintro d b ⟨rfl,rfl⟩
    exact⟨(x % y).toNat,by have:=Int.emod_lt_of_pos x (show 0<y by lia);have:=Int.emod_nonneg x f;lia,rfl,y,x % y,p,Int.emod_nonneg x f,rfl,by rw[tJ,o],rfl⟩
   .exact⟨cp (by lia),_,_,rfl,rfl,rfl⟩
  .have f:y=0:=by simpa using c
   subst f;rw[Int.gcd_zero_right]at o;have:x=(Int.gcd l k:Int):=by lia
   rw[<- this]at q;exact q
theorem jg(T:Txt K mg a):FnOk P w K mg base CX0 2 a.f_K a.d_K ["top","bottom"] spLow:=by
 have f:FnOk P w K mg base CX0 1 a.f_K a.d_K ["top","bottom"] zN:=Ae;have d:FnOk P w K mg base CX0 1 _ _ _ spGcd:=uL T;refine T.F_K.ok sc_K (λo H Q E h=>?_) (λcdv A outer s H o Q E hr h=>?_)
 .obtain⟨x,y,rfl,_⟩:=h;rfl
 .obtain⟨t,b,rfl,k,v,l,q⟩:=h
  refine⟨_,(ai (bY (cJ nR (vr 1) am (bv _)) (ak (aw (ap f hr rfl T.m_K T.F_K.kp T.B_K .nil ar (aa (me ng (vr 0)) (aa (me ng (vr 1)) af))))) aU) (ai (ay (i:=2) sc_K.nd rfl (Or.inl rfl) (ap d hr rfl T.m_h T.F_h.kp T.B_h .nil ar (aa (aC sV rfl T.z_abs yA (aa (vr 0) af)) (aa (vr 1) af)))) (ak (aw (cB (aa (av eM (vr 0) (vr 2)) (aa (av eM (vr 1) (vr 2)) af))))))),d9 ?_⟩;intro r u;obtain⟨g,z,D,C,B⟩:=low t b k;refine ifC (λc=>absurd c (by lia)) (λ_=>?_);refine⟨t,rfl,⟨_,_,rfl,by split <;> lia,by lia,?_⟩⟩;rw[xk];have j:Bt 6000 (Int.gcd t b:Int):=l.le (by lia);refine⟨cdB g j,cdB g j,gQ _ _,λp n=>?_⟩;exact q _ p (Same.new n) ae
theorem uj(T:Txt K mg a):FnOk P w K mg base CX0 2 a.f_k a.d_k ["numbers"] (spLcm K):=by
 have u:FnOk P w K mg base CX0 1 _ _ _ spGcd:=uL T;refine T.F_k.ok sc_k (λX H Q E h=>?_) (λcdv A outer s H X Q E hr h=>?_)
 .obtain⟨l,f,D,rfl,_⟩:=h;rfl
 .obtain⟨l,f,D,rfl,C,z,d,y,q⟩:=h
  refine⟨_,(ai (ay (i:=1) sc_k.nd rfl (Or.inl rfl) am) (ai (cY PassesOwn.never rfl (bJ (vr 0)) (au (i:=2) sc_k.nd rfl (Or.inl rfl)) (ak (ay (i:=1) sc_k.nd rfl (Or.inl rfl) (av dP (av eM (vr 1) (ap u hr rfl T.m_h T.F_h.kp T.B_h .nil ar (aa (vr 1) (aa (vr 2) af)))) (vr 2))))) (ak (aw (vr 1))))),d9 ?_⟩;intro ab L
  let Pw1:PvS:=λi o k=>k=H/\∃(r:Int) (x:Option V),o=[some (.ref l),some (.int r),x]/\0<r/\r ∣ (D:Int)/\∀ n∈f.take i,n ∣ r
  refine .inl ⟨⟨_,C⟩,d8 (K:=K) (a:=l) (xs:=f.map V.int) Pw1 ⟨rfl,1,none,rfl,by lia,Int.one_dvd _,(λn p=>by cases p)⟩ (λi o k _ h=>by rw[h.1];exact C) ?_ ?_⟩
  .rintro i x o k g ⟨rfl,r,Z,rfl,v,c,j⟩
   rw[List.getElem?_map]at g
   obtain⟨n,p,rfl⟩:∃ n,f[i]? = some n/\V.int n=x:=by
    cases e:f[i]? with
    | none=>rw[e]at g;cases g
    | some n=>rw[e]at g;cases g;exact⟨n,rfl,rfl⟩
   obtain⟨B,F⟩:=y n (List.mem_of_getElem? p);obtain⟨s1,R,Y,M⟩:=Tb.lcm_step v B c F;have g0:0<Int.gcd r n:=Int.gcd_pos_of_ne_zero_right _ (by lia);have W:(Int.gcd r n:Int)<=n:=Int.le_of_dvd B (Int.gcd_dvd_right (a:=r) (b:=n));have N:=Int.le_of_dvd (by lia) F;have G:=Int.le_of_dvd (by lia) c;have I:=Tb.bt_of (i:=(Int.gcd r n:Int)) z d (by lia) (by lia);have bn:=Tb.bt_of (i:=n) z d (by lia) N;have br:=Tb.bt_of (i:=r/(Int.gcd r n:Int)) z d (Int.ediv_nonneg (by lia) (by lia)) (Int.le_trans (Int.ediv_le_self _ (by lia)) G);refine⟨r,n,rfl,by lia,by lia,?_⟩;refine⟨cdB (by lia) I,?_⟩;refine⟨cmB br bn,rfl,_,_,rfl,s1,M,λm hm=>?_⟩;rw[take_add_one,p]at hm
   rcases mem_append.mp hm with hm | hm
   .exact Int.dvd_trans (j m hm) R
   .have:m=n:=by simpa using hm
    rw[this];exact Y
  .rintro o k ⟨rfl,r,Z,rfl,v,c,j⟩
   refine q r v c ?_;rw[length_map,take_length]at j;exact j
theorem uK(T:Txt K mg a):FnOk P w K mg base CX0 3 a.f_ab a.d_ab ["fractions"] (spTotal K):=by
 have al:FnOk P w K mg base CX0 2 _ _ _ (spLcm K):=uj T;have ac:FnOk P w K mg base CX0 2 _ _ _ spLow:=jg T;refine T.F_ab.ok sc_ab (λvs H Q E h=>?_) (λcdv A outer s H vs Q E hr h=>?_)
 .obtain⟨l,g,xs,D,rfl,_⟩:=h;rfl
 .obtain⟨l,g,xs,D,rfl,W,hF,as,X,k,d,q⟩:=h
  have an:sizeLine=16777216:=sizeLine_eq;have fl:g.length=xs.length:=hF.len;refine⟨_,(ai (ay (i:=1) sc_ab.nd rfl (Or.inr rfl) (ap al hr rfl T.m_k T.F_k.kp T.B_k .nil ar (aa (cz rfl (N:=["fraction"]) (ix:=[none]) ⟨rfl,rfl,rfl,rfl,trivial⟩ (bJ (vr 0)) ⟨λC s H M=>au (i:=0) (show List.Nodup (["fraction"]:List Str) by decide +kernel) rfl (Or.inl rfl),λC s H M=>b7,λC s H M=>(dA (qO (K:=K) rfl) (vr 0) am (λ_ _=>rfl))⟩) af))) (ak (aw (ap ac hr rfl T.m_K T.F_K.kp T.B_K .nil ar (aa (aC (jY rfl) rfl T.z_sum tw (aa (cz rfl (N:=["top","own","bottom"]) (ix:=[none,none,some 1]) ⟨rfl,rfl,rfl,rfl,⟨rfl,rfl,rfl,trivial⟩⟩ (bJ (vr 0)) ⟨λC s H M=>(fm (K:=K) (n:=2) rfl rfl (az (au (i:=0) (show List.Nodup (["top","own","bottom"]:List Str) by decide +kernel) rfl (Or.inl rfl)) (az (au (i:=1) (show List.Nodup (["top","own","bottom"]:List Str) by decide +kernel) rfl (Or.inl rfl)) cu))),λC s H M=>b7,λC s H M=>(av dP (vr 0) (av eM (vr 2) (vr 1)))⟩) af)) (aa (vr 1) af)))))),qr ?_⟩;intro a0;refine .inl ⟨⟨_,SqL.of W⟩,λD1 I=>?_⟩
  let Pw2:PvL:=λi v j=>Same H j/\j D1=some (.lst v)/\i<=g.length/\v=((g.take i).map (·.2)).map V.int
  refine bu (K:=K) (a:=l) (xs:=xs) Pw2 ⟨Same.new I,ae,Nat.zero_le _,rfl⟩ (λi ys j h=>SqL.of (h.1 _ _ W)) (λi ys j h=>h.2.1) ?_ ?_
  .rintro i y v j P' hy ⟨G,o,hi,rfl⟩ B
   obtain⟨⟨t,b⟩,c,p,rfl,hp⟩:=hF.get hy;have F:i<g.length:=(List.getElem?_eq_some_iff.mp c).1;refine⟨trivial,px1 (IsF.same G ⟨p,rfl,hp⟩ |> λ⟨_,e,z⟩=>by cases e;exact z.sq) ⟨o,by rw[length_map,length_map,length_take];lia,B _ _ ⟨G.put I,ae,F,?_⟩⟩⟩;rw[take_add_one,c];simp
  rintro v H1 ⟨G,o,_,rfl⟩;rw[<- fl,take_length]at o;refine⟨D1,g.map (·.2),D,rfl,SqL.of o,X,k,λn hn=>?_,λr r1 hr9 hrn=>?_⟩
  .obtain⟨f,c,rfl⟩:=mem_map.mp hn
   exact⟨(d f c).b0,(d f c).dv⟩
  have Z:=Int.le_of_dvd (show(0:Int)<(D:Int) by lia) hr9;have dr:∀ f∈g,f.2 ∣ r:=λf c=>hrn _ (mem_map.mpr ⟨f,c,rfl⟩)
  refine .inl ⟨⟨_,SqL.of (G _ _ W)⟩,λD3 L=>?_⟩
  let Pw3:PvL:=λi v j=>Same H1 j/\j D3=some (.lst v)/\i<=g.length/\v=((g.take i).map λf=>f.1*(r/f.2)).map V.int
  refine bu (K:=K) (a:=l) (xs:=xs) Pw3 ⟨Same.new L,ae,Nat.zero_le _,rfl⟩ (λi ys j h=>SqL.of (h.1 _ _ (G _ _ W))) (λi ys j h=>h.2.1) ?_ ?_
  .rintro i y v j P' hy ⟨R,u,hi,rfl⟩ B
   obtain⟨⟨t,b⟩,c,p,rfl,hp⟩:=hF.get hy;have F:i<g.length:=(List.getElem?_eq_some_iff.mp c).1;have hc:=d _ (List.mem_of_getElem? c);obtain⟨b1,b2⟩:=Tb.ch_bt X k hc;have b0:0<b:=hc.b0
   have ab:SqT K j p [.int t,.int b]:=by
    obtain⟨_,e,z⟩:=IsF.same (G.trans R) (x:=.ref p) ⟨p,rfl,hp⟩;cases e;exact z.sq
   have br:=Tb.bt_of (i:=r/b) X k (Int.ediv_nonneg (by lia) (by lia)) (Int.le_trans (Int.ediv_le_self _ (by lia)) Z);refine⟨p,_,rfl,ab,rfl,_,_,rfl,_,_,rfl,rfl,⟨rfl,trivial⟩,cdB b0 b2,cmB b1 br,u,by rw[length_map,length_map,length_take];lia,B _ _ ⟨R.put L,ae,F,?_⟩⟩;rw[take_add_one,c];simp
  rintro v H2 ⟨R,u,_,rfl⟩;rw[<- fl,take_length]at u;refine⟨D3,_,rfl,SqL.of u,?_⟩
  have sb:0<=(g.map λf=>f.1*(r/f.2)).sum/\(g.map λf=>f.1*(r/f.2)).sum<=((g.map λf=>f.1*(r/f.2)).length:Int)*r:=vf λx hx=>by
   obtain⟨f,c,rfl⟩:=mem_map.mp hx;exact yW r1 (d f c).t0 (d f c).le (d f c).b0 (dr f c)
  rw[length_map]at sb;have sD:(g.map λf=>f.1*(r/f.2)).sum<=(g.length:Int)*(D:Int):=Int.le_trans sb.2 (Int.mul_le_mul_of_nonneg_left Z (by lia));refine⟨_,_,rfl,r1,(A8 k (by lia) sb.1 sD).mono (by decide),(Tb.bt_of X k (by lia) Z).mono (by decide),λH3 p s3 Y=>q _ _ ((G.trans R).trans s3) ⟨p,rfl,.inl ?_⟩⟩;rw[Y,Tb.low_tops r1 (Tb.top_sum r1 λf c=>⟨(d f c).b0,dr f c⟩)]
end
end My
namespace My
open PySem L2 FrM Du LexM
open Tb (Tr Ent Way Rws Ch Lm2 Grp bnd vq Dk Dks)
theorem lu{x y:List Int}(h:x.map (Sum.inl:Int->Key)=y.map Sum.inl):x=y:=by
 have:=congrArg (List.map λk:Key=>match k with | .inl i=>i | .inr _=>0) h;rw[map_map,map_map]at this
 have e:∀ l:List Int,l.map ((λk:Key=>match k with | .inl i=>i | .inr _=>0) ∘ Sum.inl)=l:=λl=>by
  induction l with
  | nil=>rfl
  | cons a l ih=>rw[map_cons,ih];rfl
 rw[e,e]at this;exact this
def GrR(K:Frag)(H1 H:Hp)(x:List Int×List (Int×Int))(kv:List Key×V):Prop:=kv.1=x.1.map Sum.inl/\∃ l ys,kv.2=.ref l/\H1 l=none/\H l=some (.lst ys)/\AllF K H1 x.2 ys
theorem GrR.m{K:Frag}{b H H':Hp}(h:∀ l ys,H l=some (.lst ys)->H' l=some (.lst ys))(x:List Int×List (Int×Int))(a:List Key×V)(g:GrR K b H x a):GrR K b H' x a:=by
 obtain⟨e,l,ys,f,i,d,c⟩:=g;exact⟨e,l,ys,f,i,h _ _ d,c⟩
theorem zA{K:Frag}{c H:Hp}{l:Addr}{o:List V}{g:Grp}{a:List (List Key×V)}(h:Paired (GrR K c H) g a)(n:V.ref l ∉ a.map (·.2)):Paired (GrR K c (upd H l (.lst o))) g a:=by
 induction h with
 | nil=>exact .nil
 | @cons x kv g a r t ih =>
  rw[map_cons,mem_cons,not_or]at n;obtain⟨e,j,b,d,f,k,i⟩:=r;refine .cons ⟨e,j,b,d,f,?_,i⟩ (ih n.2);rw[ag (λz=>n.1 (by rw[d,z]))];exact k
theorem yE{K:Frag}{n H:Hp}{k:List Int}{c:Int×Int}{v:V}{g:Grp}{a:List (List Key×V)}(h:Paired (GrR K n H) g a)(f:(a.map (·.2)).Nodup)(b:cS a (k.map Sum.inl)=some v) :
  ∃ x l ys,x∈g/\v=.ref l/\n l=none/\H l=some (.lst ys)/\ys.length=x.2.length/\∀ ct,IsF K n c ct->Paired (GrR K n (upd H l (.lst (ys++[ct])))) (Tb.pushG k c g) a:=by
 induction h with
 | nil=>cases b
 | @cons x j g a r t ih =>
  obtain⟨e,l,ys,i,p,s,o⟩:=r;rw[map_cons,nodup_cons]at f
  by_cases z:x.1=k
  .rw[bP (by rw[e,z])]at b
   have b:j.2=v:=Option.some.inj b;refine⟨x,l,ys,mem_cons_self,by rw[<- b,i],p,s,o.len.symm,λct d=>?_⟩;rw[Tb.pushG,if_pos z];rw[i]at f;exact .cons ⟨by show j.1=k.map Sum.inl;rw[e,z],l,ys++[ct],i,p,ae,o.snoc d⟩ (zA t f.1)
  .rw[bM (λy=>z (lu (e.symm.trans y)))]at b
   obtain⟨A,E,q,w,u,F,D,B,G⟩:=ih f.2 b;refine⟨A,E,q,mem_cons_of_mem _ w,u,F,D,B,λct d=>?_⟩;rw[Tb.pushG,if_neg z];refine .cons ⟨e,l,ys,i,p,?_,o⟩ (G ct d)
   have C:v∈a.map (·.2):=by
    unfold cS at b;cases hf:a.find? (λj=>decide (j.1=k.map Sum.inl)) with
    | none=>rw[hf]at b;cases b
    | some y =>
     rw[hf]at b;have:y.2=v:=Option.some.inj b;exact mem_map.mpr ⟨y,List.mem_of_find?_eq_some hf,this⟩
   rw[ag (λy=>f.1 (by rw[i,y,<- u];exact C))];exact s
theorem xR{K:Frag}{d H:Hp}{k:List Int}{c:Int×Int}{D:Addr}{i:V}{g:Grp}{a:List (List Key×V)}(h:Paired (GrR K d H) g a)(b:cS a (k.map Sum.inl)=none)(j:d D=none)(l:H D=some (.lst [i]))(f:IsF K d c i):Paired (GrR K d H) (Tb.pushG k c g) (a++[(k.map Sum.inl,.ref D)]):=by
 induction h with
 | nil=>exact .cons ⟨rfl,D,[i],rfl,j,l,.cons f .nil⟩ .nil
 | @cons x kv g a r t ih =>
  have z:¬x.1=k:=λz=>by rw[bP (by rw[r.1,z])]at b;cases b
  rw[bM (λy=>z (lu (r.1.symm.trans y)))]at b;rw[Tb.pushG,if_neg z];exact .cons r (ih b)
theorem v5{K:Frag}{b H:Hp}{g:Grp}{a:List (List Key×V)}(h:Paired (GrR K b H) g a):a.map (·.1)=(g.map (·.1)).map λx=>x.map Sum.inl:=by
 induction h with
 | nil=>rfl
 | cons r _ ih=>rw[map_cons,map_cons,map_cons,ih,r.1]
theorem Ao{K:Frag}{f H:Hp}{g:Grp}{a:List (List Key×V)}(h:Paired (GrR K f H) g a)(d:(g.map (·.1)).Nodup){i:Nat}{x:List Int×List (Int×Int)}(b:g[i]? = some x):∃ l ys,cS a (x.1.map Sum.inl)=some (.ref l)/\H l=some (.lst ys)/\AllF K f x.2 ys:=by
 induction h generalizing i with
 | nil=>cases b
 | @cons x' kv g a r t ih =>
  rw[map_cons,nodup_cons]at d;obtain⟨e,l,ys,q,u,n,j⟩:=r;cases i with
  | zero =>
   cases b;exact⟨l,ys,by rw[bP e,q],n,j⟩
  | succ i =>
   obtain⟨k,c,s,o,p⟩:=ih d.2 (i:=i) b;refine⟨k,c,?_,o,p⟩;rw[bM,s];intro y;have:=lu (e.symm.trans y);exact d.1 (by rw[this];exact mem_map.mpr ⟨x,List.mem_of_getElem? b,rfl⟩)
def RowR(K:Frag)(H:Hp)(x:List Int×Rat)(y:V):Prop:=∃ p kt z,y=.ref p/\H p=some (.tup [.ref kt,z])/\H kt=some (.tup (x.1.map V.int))/\IsQ K H x.2 z
theorem RowR.tk{K:Frag}{H H':Hp}(s:TK H H')(x:List Int×Rat)(y:V)(h:RowR K H x y):RowR K H' x y:=by
 obtain⟨p,c,z,d,f,b,a⟩:=h;exact⟨p,c,z,d,s _ _ f,s _ _ b,a.tk s⟩
def iO(a:Ad)(K:Frag):Sp:=λvs H Q E=>∃ v d t,∃ D:Nat,vs=[v]/\IsNd a H v t/\Dk d t/\d<=24/\Tb.Ok t/\0<D/\D<=Lm2/\(∀ w∈Tb.wl t 1 1,Ch (D:Int) w.2)/\TabsOk (tabs a) H/\(Tb.lv t<=4096->∀ H' l R ys,SameT H H'->TabsOk (tabs a) H'->H l=none->H' l=some (.lst ys)->Paired (RowR K H') R ys->Tb.IsTab (Tb.toR (Tb.kW (Tb.wl t 1 1))) R->ys.length<=4096->Q (.ref l) H')/\(4096<Tb.lv t->RefMT a H E)
theorem RefMT.t{a:Ad}{H H':Hp}{E:XK}(s:SameT H H')(h:RefMT a H E):RefMT a H' E:=λb t=>h b (s.trans t)
section
variable {P:Program}{w:World}{K:Frag}{mg:Str->Option Value}{base:Heap}{a:Ad}
theorem jm(T:Txt K mg a)(hB:Bm mg base):FnOk P w K mg base (CXG P w) 15 a.f_U a.d_U ["node"] (iO a K):=by
 have c4:FnOk P w K mg base (CXG P w) 14 _ _ _ (tI a):=v6 T hB;have bS:FnOk P w K mg base CX0 14 _ _ _ _:=(uK T).mono (by decide);refine T.F_U.okG sc_U (λvs H Q E h=>?_) (λcdv A outer s H vs Q E hr h=>?_)
 .obtain⟨v,d,t,D9,rfl,_⟩:=h;rfl
 .obtain⟨v,d,t,D9,rfl,hn,cm,hd,c1,Dp,b1,a1,hT,q1,q2⟩:=h
  have b5:sizeLine=16777216:=sizeLine_eq;refine⟨_,(ai (ay (i:=1) sc_U.nd rfl (Or.inr rfl) ni) (ai (cY oY rfl (bJ (ap c4 hr rfl T.m_R T.F_R.kp T.B_R .nil uc (aa (vr 0) af))) (eV rfl (az (au (i:=2) sc_U.nd rfl (Or.inl rfl)) (az (au (i:=3) sc_U.nd rfl (Or.inl rfl)) cu))) (ak (eO (pe_m.append (zn (n8 hr) (vr 1) (vr 2) (bI af) ⟨rfl,rfl,rfl,rfl⟩) (aa (vr 3) af))))) (ak (aw (cz rfl (N:=["kept","found"]) (ix:=[none,some 1]) ⟨rfl,rfl,rfl,rfl,⟨rfl,rfl,rfl,trivial⟩⟩ (bJ (aC (jP rfl hr.units) rfl T.z_sorted fB (aa (vr 1) af))) ⟨λC s H fp=>au (i:=0) (show List.Nodup (["kept","found"]:List Str) by decide +kernel) rfl (Or.inl rfl),λC s H fp=>b7,λC s H fp=>(cB (aa (vr 0) (aa (ap bS hr rfl T.m_ab T.F_ab.kp T.B_ab .nil ar (aa (vI (n8 hr) (vr 1) (vr 0) (λ_ _=>rfl)) af)) af)))⟩))))),d9 ?_⟩;intro dp dd;intro L bL;have u1:=Same.new (o:=.dT []) bL;have a0:=ae (H:=H) (a:=L) (o:=.dT []);generalize upd H L (.dT [])=Ha at u1 a0;refine⟨v,d,t,rfl,hn.t u1.t,cm,hd,c1,hT.same u1,λcc H1 lw zs t1 cx c' a6 hW=>?_,λh=>(q2 h).t u1.t⟩;have I:=t1.at a0;have zl:zs.length=Tb.lv t:=by rw[<- hW.length,Tb.wl_len]
  have bl:∀ w∈Tb.kW (Tb.wl t 1 1),Ch (D9:Int) w.2:=λw hw=>by
   obtain⟨y,hy,rfl⟩:=mem_map.mp hw;exact a1 y hy
  clear a1;have ba:=Tb.kW_len t;have b3:SameT H H1:=u1.t.trans t1;generalize hWW:Tb.wl t 1 1=W at hW bl ba q1;have dm:W.length=zs.length:=hW.length;have c6:∀ b,H1 b=none->b≠L:=λb hb z=>by rw[z,I]at hb;cases hb
  let Pw1:PvS:=λi σ G=>∃(B:List (List Key×V)) (x2 x3:Option V),(∀ b o,b≠L->H1 b=some o->G b=some o)/\TabsOk (tabs a) G/\G L=some (.dT B)/\Paired (GrR K H1 G) (Tb.grp ((Tb.kW W).take i)) B/\(B.map (·.2)).Nodup/\i<=zs.length/\σ=[some v,some (.ref L),x2,x3]
  refine .inl ⟨⟨_,SqL.of a6⟩,d8 (K:=K) (a:=lw) (xs:=zs) Pw1 ⟨[],none,none,(λb o _ e=>e),cx,I,.nil,nodup_nil,Nat.zero_le _,rfl⟩ (λi σ G _ h=>by
   obtain⟨B,x2,x3,k,_⟩:=h
   exact SqL.of (k _ _ (dD a6 I (λz=>nomatch z)) a6)) ?_ ?_⟩
  .rintro i y σ G hy ⟨B,x2,x3,kp,a2,Y,hG,nd,hi,rfl⟩
   obtain⟨⟨F,tp,bt⟩,hw,q,kt,ct,ns,rfl,hq,a4,an,ck,dk,c7,b0⟩:=aJ hW hy;have al:i<zs.length:=(List.getElem?_eq_some_iff.mp hy).1;have ek:ns=Tb.so F:=Tb.so_uniq an.1 an.2;have b2:=Tb.kW_get hw;have gk:=Tb.grp_gk (Tb.kW W) i (by lia);have gl:B.length<=i:=by rw[<- hG.length];exact gk.1
   have nq:q≠L:=dD hq I (λz=>nomatch z);have ca:kt≠L:=dD a4 I (λz=>nomatch z);have eg:=Tb.grp_snoc b2
   have hF:IsF K H1 (tp,bt) (.ref ct):=⟨ct,rfl,.inl ck⟩
   rw[ek]at a4;refine⟨q,_,rfl,SqT.of (kp _ _ nq hq),rfl,_,_,rfl,_,_,rfl,rfl,?_⟩;refine⟨L,rfl,.inr ⟨B,.inl Y⟩,Nat.zero_le _,λD fD=>?_⟩;have n2:=Same.new (o:=.lst []) fD;have nD:D≠L:=λz=>by rw[z,Y]at fD;cases fD
   have bo:H1 D=none:=by
    cases hh:H1 D with
    | none=>rfl
    | some o=>rw[kp _ _ nD hh]at fD;cases fD
   have bF:(upd G D (.lst [])) kt=some (.tup (((Tb.so F).map Sum.inl).map kV)):=by rw[lL];exact n2 _ _ (kp _ _ ca a4)
   have ab:TabsOk (tabs a) (upd G D (.lst [])):=a2.same n2;have X:=n2 _ _ Y;have ci:=ae (H:=G) (a:=D) (o:=.lst []);have bn:∀ b o,b≠L->H1 b=some o->(upd G D (.lst [])) b=some o:=λb o n e=>n2 _ _ (kp _ _ n e)
   have cy:=aq (GrR.m λl ys e=>n2 _ _ e) hG;have bg:∀ l ys,G l=some (.lst ys)->l≠D:=λl ys e z=>by rw[z,fD]at e;cases e
   refine⟨B,_,kt,rfl,bF,X,by lia,λv' c2=>?_,λhn'=>?_⟩
   .obtain⟨x,l,ys,a3,rfl,fl,hl,c5,br⟩:=yE (c:=(tp,bt)) cy nd c2
    generalize upd G D (.lst [])=H2 at *;have yl:=(gk.2 x a3).1;refine⟨.inl ⟨rfl,_,SqL.of hl⟩,⟨l,ys,_,rfl,rfl,hl,by lia,?_⟩⟩;have nl:l≠L:=dD hl X (λz=>nomatch z);refine⟨B,_,_,λb o n e=>?_,ab.put (λps z=>by rw[hl]at z;cases z) (λφ z=>by rw[hl]at z;cases z),by rw[ag (Ne.symm nl)];exact X,by rw[eg];exact br _ hF,nd,al,rfl⟩;rw[ag (λz=>by rw[z,fl]at e;cases e)];exact bn _ _ n e
   .generalize eH2:upd G D (.lst [])=H2 at *
    have M:(upd H2 L (.dT (B++[((Tb.so F).map Sum.inl,.ref D)]))) D=some (.lst []):=by rw[ag nD];exact ci
    refine⟨.inl ⟨rfl,_,SqL.of M⟩,⟨D,[],_,rfl,rfl,M,by show 0<_;lia,?_⟩⟩;have c0:TabsOk (tabs a) (upd H2 L (.dT (B++[((Tb.so F).map Sum.inl,.ref D)]))):=ab.put (λps z=>by rw[X]at z;cases z) λφ z=>by rw[X]at z;cases z
    have GN:Paired (GrR K H1 (upd (upd H2 L (.dT (B++[((Tb.so F).map Sum.inl,.ref D)]))) D (.lst ([]++[.ref ct])))) (Tb.pushG (Tb.so F) (tp,bt) (Tb.grp ((Tb.kW W).take i))) (B++[((Tb.so F).map Sum.inl,.ref D)]):=xR (aq (GrR.m λl ys e=>by rw[ag (bg _ _ e),ag (dD e Y (λz=>nomatch z))];exact n2 _ _ e) hG) hn' bo ae hF;refine⟨B++[((Tb.so F).map Sum.inl,.ref D)],_,_,λb o n e=>?_,c0.put (λps z=>by rw[M]at z;cases z) (λφ z=>by rw[M]at z;cases z),by rw[ag (Ne.symm nD)];exact ae,by rw[eg];exact GN,?_,al,rfl⟩
    .rw[ag (λz=>by rw[z,bo]at e;cases e),ag n]
     exact bn _ _ n e
    .rw[map_append]
     refine nodup_append.mpr ⟨nd,by simp,λu hu u' cg e=>?_⟩;have e':u'=V.ref D:=by simpa using cg
     rw[e,e']at hu;obtain⟨kv,b4,e9⟩:=mem_map.mp hu;obtain⟨j,hj⟩:=List.getElem?_of_mem b4;obtain⟨x,_,r⟩:=aJ hG hj;obtain⟨_,l,ys,h1,_,h3,_⟩:=r;rw[e9]at h1;cases h1;exact bg _ _ h3 rfl
  rintro σ H2 ⟨B,x2,x3,kp,a2,Y,hG,nd,hi,rfl⟩;have gk:=Tb.grp_gk (Tb.kW W) zs.length (by lia);have et:(Tb.kW W).take zs.length=Tb.kW W:=take_of_length_le (by rw[ba];lia);rw[et]at hG gk;have a7:=Tb.grp_nd (Tb.kW W);have as:=Tb.rat_grp (Tb.kW W);generalize hg:Tb.grp (Tb.kW W)=g at hG gk a7 as;have bb:(g.map (·.1)).Nodup:=by have:=a7;unfold Tb.NdR at this;rwa [Tb.rat_keys]at this
  have t2:SameT H H2:=λb o e=>by
   have nb:b≠L:=λz=>by rw[z,bL]at e;cases e
   obtain⟨e1,o1,e2⟩:=b3 b o e;have:=kp _ _ nb e2;exact⟨λnp=>kp _ _ nb (e1 np),o1,this⟩
  have kl:B.length=g.length:=hG.length.symm;have gl:g.length<=4096:=by have:=gk.1;lia
  refine⟨L,B,g.map (·.1),rfl,Y,by have:=gk.1;lia,v5 hG,bb,λq o f fq op cj bc=>?_⟩;rw[length_map]at op bc;have u3:=Same.new (o:=.lst (o.map f)) fq;have a5:=ae (H:=H2) (a:=q) (o:=.lst (o.map f));have ab:=a2.same u3;generalize upd H2 q (.lst (o.map f))=H3 at u3 a5 ab;have t3:=t2.trans u3.t;have c8:H q=none:=t2.free fq;have b6:(Tb.rat g).length=g.length:=by unfold Tb.rat;rw[length_map]
  obtain⟨rp,rs⟩:=Tb.tab_of a7 (o:=o) (by rw[b6];exact op) (by rw[Tb.rat_keys];exact cj);have ol:o.length=g.length:=by rw[op.length_eq,length_range]
  generalize hR:(o.map λi=>(Tb.rat g).getD i ([],0))=R at rp rs;have Rl:R.length=o.length:=by rw[<- hR,length_map]
  refine .inl ⟨⟨_,SqL.of a5⟩,λD3 M=>?_⟩
  let Pw2:PvL:=λi ws G=>i<=o.length/\Same H3 G/\G D3=some (.lst ws)/\Paired (RowR K G) (R.take i) ws
  refine bu (K:=K) (a:=q) (xs:=o.map f) Pw2 ⟨Nat.zero_le _,Same.new M,ae,.nil⟩ (λi ys G h=>SqL.of (h.2.1 _ _ a5)) (λi ys G h=>h.2.2.1) ?_ ?_
  .rintro i y ws G P' hy ⟨c9,n5,a8,Z⟩ cs
   rw[List.getElem?_map]at hy
   obtain⟨j,hj,rfl⟩:∃ j,o[i]? = some j/\f j=y:=by
    cases e:o[i]? with
    | none=>rw[e]at hy;cases hy
    | some j=>rw[e]at hy;cases hy;exact⟨j,rfl,rfl⟩
   have al:i<o.length:=(List.getElem?_eq_some_iff.mp hj).1;have bq:j<g.length:=mem_range.mp (op.mem_iff.mp (List.mem_of_getElem? hj));obtain⟨b,eb,hb⟩:=bc j bq
   obtain⟨x,hx⟩:∃ x,g[j]? = some x:=⟨_,List.getElem?_eq_getElem bq⟩
   have a9:(g.map (·.1)).getD j []=x.1:=by rw[List.getD,List.getElem?_map,hx];rfl
   rw[a9]at hb;have hb:H2 b=some (.tup (x.1.map V.int)):=hb;have a':=(u3.trans n5) _ _ hb;obtain⟨l,ys,hv,hl,hF⟩:=Ao hG bb hx;have a3:=List.mem_of_getElem? hx;obtain⟨xl,xc⟩:=gk.2 x a3;have cC:TK H1 G:=λb us e=>(u3.trans n5) _ _ (kp _ _ (dD e I (λz=>nomatch z)) e)
   have de:ws.length<=4096:=by rw[<- Z.length,length_take];lia
   rw[eb];refine⟨⟨rfl,trivial⟩,?_⟩;refine⟨L,_,rfl,.inr ⟨B,x.1.map Sum.inl,b,.inl ((u3.trans n5) _ _ Y),rfl,by rw[lL];exact a',hv.symm⟩,?_⟩;refine⟨l,x.2,ys,D9,rfl,(u3.trans n5) _ _ hl,hF.tk cC,by rw[<- hF.len];lia,Dp,b1,λc hc=>?_,λH6 z s6 hz=>?_⟩
   .obtain⟨w9,c3,e9⟩:=xc c hc
    rw[<- e9];exact bl w9 c3
   refine⟨by show 2<=sizeLine;decide,λp fp=>?_⟩;have s7:=Same.new (o:=.tup [.ref b,z]) fp;have bm:=(s6.trans s7) _ _ a8;have b':=(n5.trans s6).trans s7;refine⟨bm,by lia,cs _ _ ⟨al,b'.put M,ae,?_⟩⟩
   have eR:R[i]? = some (x.1,Tb.sumQ x.2):=by
    rw[<- hR,List.getElem?_map,hj];show some ((Tb.rat g).getD j ([],0))=_;unfold Tb.rat;rw[List.getD,List.getElem?_map,hx];rfl
   have ac:TK (upd H6 p (.tup [.ref b,z])) (upd (upd H6 p (.tup [.ref b,z])) D3 (.lst (ws++[.ref p]))):=λb us e=>by rw[ag (dD e bm (λz=>nomatch z))];exact e
   refine cP (aq (RowR.tk ((s6.trans s7).tk.trans ac)) Z) eR ⟨p,b,z,rfl,ac _ _ ae,ac _ _ ((s6.trans s7) _ _ a'),(hz.same s7).tk ac⟩
  .rintro ws H5 ⟨_,n5,a8,Z⟩
   have co:H D3=none:=t3.free M;rw[length_map,<- Rl,take_length]at Z;refine q1 cc _ D3 R ws (t3.trans n5.t) (ab.same n5) co a8 Z ⟨?_,rs⟩ (by rw[<- Z.length];lia);rw[<- as];exact rp
end
open Tb (Tr Ent Way Rws Ch Lm2 Grp bnd vq Dk Dks)
theorem uN(i:Int)(a:List Int):inV (.int i) (a.map V.int)=decide (i∈a):=by
 unfold inV;rw[List.any_map]
 induction a with
 | nil=>rfl
 | cons x r ih =>
  rw[any_cons,ih];simp only[mem_cons,Function.comp]
  by_cases e:i=x
  .subst e;simp[eqV]
  .have b:¬x=i:=λz=>e z.symm
   simp[eqV,e,b]
theorem sw(a:List Int):(a.map V.int).all gz=true:=by
 rw[all_map];exact all_eq_true.mpr λx _=>rfl
def TF(kvs:List (List Key×V))(F:Tb.F2t):Prop:=∀ x y:Int,(cS kvs [.inl x,.inl y]).getD (.int 0)=.int (F x y)
theorem TF.nil:TF [] (λ_ _=>0):=λ_ _=>rfl
theorem TF.put{a:List (List Key×V)}{F:Tb.F2t}(h:TF a F)(x y n:Int):TF (fQ a [.inl x,.inl y] (.int n)) (λx' y'=>if x'=x/\y'=y then n else F x' y'):=λx' y'=>by
 show _=V.int (if x'=x/\y'=y then n else F x' y');rw[vd]
 by_cases c:x'=x/\y'=y
 .rw[if_pos (by rw[c.1,c.2]),if_pos c];rfl
 .rw[if_neg,if_neg c]
  .exact h x' y'
  .intro z
   injection z with z1 z2
   injection z1 with z1
   injection z2 with z2
   injection z2 with z2
   exact c ⟨z1,z2⟩
theorem je{f c:Type}{r d:f->c->Prop}:∀{as:List f}{bs:List c},(∀ a∈as,∀ b,r a b->d a b)->Paired r as bs->Paired d as bs
 | _,_,_,.nil=>.nil
 | _,_,h,.cons x t=>.cons (h _ mem_cons_self _ x) (je (λa i b g=>h a (mem_cons_of_mem _ i) b g) t)
inductive spMR(K:Frag)(vs:List V)(H:Hp)(Q:VK)(_E:XK):Prop
 | mk(i L:Int)(lp dt:Addr)(ps:List Int)(kvs:List (List Key×V))(F:Tb.F2t)(h0:vs=[.int i,.ref lp,.ref dt,.int L])(h1:H lp=some (.lst (ps.map V.int)))(h2:ps.length<=100)(h3:H dt=some (.dT kvs))(h4:TF kvs F)(h5:0<L)(h6:Bt 6000 L)(h7:(∀ j∈ps,Bt 6000 (F i j)))(h8:∀ H' D zs,Same H H'->H D=none->H' D=some (.lst zs)->Paired (λj z=>IsF K H' (ij (F i j) L) z) ps zs->Q (.ref D) H'):spMR K vs H Q _E
def vK(K:Frag)(H H':Hp)(M:Int->Int->Rat)(ps:List Int)(i:Int)(y:V):Prop:=∃ D zs,y=.ref D/\H D=none/\H' D=some (.lst zs)/\Paired (λj z=>IsQ K H' (M i j) z) ps zs
def xz(a:Ad)(K:Frag):Sp:=λvs H Q E=>∃ v d t lp ps,∃ D:Nat,vs=[v,.ref lp]/\IsNd a H v t/\Dk d t/\d<=24/\Tb.Ok t/\0<D/\D<=Lm2/\(∀ w∈Tb.wl t 1 1,Ch (D:Int) w.2)/\TabsOk (tabs a) H/\H lp=some (.lst (ps.map V.int))/\ps.length<=100/\(Tb.lv t<=4096->∀ H' l R ys,SameT H H'->TabsOk (tabs a) H'->H l=none->H' l=some (.lst ys)->V.ref l ∉ ys->Tb.IsTab (Tb.toR (Tb.kW (Tb.wl t 1 1))) R->Paired (vK K H H' (Tb.mm R) ps) ps ys->ys.Nodup->Q (.ref l) H')/\(4096<Tb.lv t->RefMT a H E)
theorem eZ{a:List Int}{i:Nat}{x:V}(h:(a.map V.int)[i]? = some x):∃ n,a[i]? = some n/\V.int n=x:=by
 rw[List.getElem?_map]at h;cases e:a[i]? with
 | none=>rw[e]at h;cases h
 | some n=>rw[e]at h;cases h;exact⟨n,rfl,rfl⟩
section
variable {P:Program}{w:World}{K:Frag}{mg:Str->Option Value}{base:Heap}{a:Ad}
theorem wY(T:Txt K mg a):FnOk P w K mg base CX0 3 a.f_M a.d_M ["one","places","tops","bottom"] (spMR K):=by
 have M:FnOk P w K mg base CX0 2 _ _ _ spLow:=jg T;refine T.F_M.ok jQ (λvs H Q E h=>?_) (λcdv A outer s H vs Q E hr h=>?_)
 .obtain⟨i,L,lp,dt,k,d,F,rfl,_⟩:=h;rfl
 .obtain⟨i,L,lp,dt,k,d,F,rfl,v,ab,r,hF,hL,bL,bF,q⟩:=h
  have Z:sizeLine=16777216:=sizeLine_eq;refine⟨_,(ak (aw (cz rfl (N:=["other","bottom","tops","one"]) (ix:=[none,some 3,some 2,some 0]) ⟨rfl,rfl,rfl,rfl,⟨rfl,rfl,rfl,⟨rfl,rfl,rfl,⟨rfl,rfl,rfl,trivial⟩⟩⟩⟩ (bJ (vr 1)) ⟨λC s H fp=>au (i:=0) (show List.Nodup (["other","bottom","tops","one"]:List Str) by decide +kernel) rfl (Or.inl rfl),λC s H fp=>b7,λC s H fp=>(ap M hr rfl T.m_K T.F_K.kp T.B_K .nil ar (aa (m6 (n8 hr) (vr 2) (cB (aa (vr 3) (aa (vr 0) af))) am ⟨rfl,rfl,rfl,rfl⟩) (aa (vr 1) af)))⟩))),?_⟩;refine .inl ⟨⟨_,SqL.of v⟩,λD hD=>?_⟩
  let Pw1:PvL:=λn g c=>n<=k.length/\Same H c/\c D=some (.lst g)/\Paired (λj z=>IsF K c (ij (F i j) L) z) (k.take n) g
  refine bu (K:=K) (a:=lp) (xs:=k.map V.int) Pw1 ⟨Nat.zero_le _,Same.new hD,ae,.nil⟩ (λn ys c h=>SqL.of (h.2.1 _ _ v)) (λn ys c h=>h.2.2.1) ?_ ?_
  .rintro n y g c P' hy ⟨hn,B,f,l⟩ Y
   obtain⟨j,X,rfl⟩:=eZ hy;have W:n<k.length:=(List.getElem?_eq_some_iff.mp X).1;refine⟨⟨rfl,rfl,rfl,trivial⟩,?_⟩;refine⟨dt,rfl,.inr ⟨d,.inl (B _ _ r)⟩,gQ _ _,λt ft=>?_⟩;have G:=Same.new (o:=.tup [.int i,.int j]) ft;refine⟨_,.inr ⟨d,[.inl i,.inl j],t,.inl ((B.trans G) _ _ r),rfl,ae,rfl⟩,?_⟩;refine⟨F i j,L,by rw[hF i j];rfl,hL,bF j (List.mem_of_getElem? X),bL,λH3 p R I=>?_⟩;have u:=(G.trans R) _ _ f;have x:TK H3 (upd H3 D (.lst (g++[.ref p]))):=λb us e=>by rw[ag (dD e u (λz=>nomatch z))];exact e
   refine⟨u,by rw[<- l.length,length_take];lia,Y _ _ ⟨W,((B.trans G).trans R).put hD,ae,?_⟩⟩;refine cP (aq (λj z (h:IsF K c (ij (F i j) L) z)=>(h.same (G.trans R)).tk x) l) X ⟨p,rfl,.inl (x _ _ I)⟩
  .rintro g c ⟨_,B,f,l⟩
   rw[length_map,take_length]at l;exact q _ D g B hD f l
theorem rM(T:Txt K mg a)(hB:Bm mg base):FnOk P w K mg base (CXG P w) 16 a.f_A a.d_A ["node","places"] (xz a K):=by
 have c9:FnOk P w K mg base (CXG P w) 15 _ _ _ (iO a K):=jm T hB;have dr:FnOk P w K mg base CX0 15 _ _ _ _:=(uj T).mono (by decide);have d':FnOk P w K mg base CX0 15 _ _ _ _:=(wY T).mono (by decide);refine T.F_A.okG sc_A (λvs H Q E h=>?_) (λcdv A outer s H vs Q E hr h=>?_)
 .obtain⟨v,d,t,lp,ps,D,rfl,_⟩:=h;rfl
 .obtain⟨v,d,t,lp,ps,D9,rfl,hn,c',hd,cc,Dp,a0,a7,hT,df,dy,q1,q2⟩:=h
  have dm:sizeLine=16777216:=sizeLine_eq
  refine⟨_,(ai (ay (i:=2) sc_A.nd rfl (Or.inl rfl) (ap c9 hr rfl T.m_U T.F_U.kp T.B_U .nil uc (aa (vr 0) af))) (ai (ay (i:=3) sc_A.nd rfl (Or.inr rfl) (ap dr hr rfl T.m_k T.F_k.kp T.B_k .nil ar (aa (cz rfl (N:=["kept","chance"]) (ix:=[none,none]) ⟨rfl,rfl,rfl,rfl,trivial⟩ (bJ (vr 2)) ⟨λC s H fp=>(fm (K:=K) (n:=2) rfl rfl (az (au (i:=0) (show List.Nodup (["kept","chance"]:List Str) by decide +kernel) rfl (Or.inl rfl)) (az (au (i:=1) (show List.Nodup (["kept","chance"]:List Str) by decide +kernel) rfl (Or.inl rfl)) cu))),λC s H fp=>b7,λC s H fp=>(dA (qO (K:=K) rfl) (vr 1) am (λ_ _=>rfl))⟩) af))) (ai (ay (i:=4) sc_A.nd rfl (Or.inr rfl) ni) (ai (cY oY rfl (bJ (vr 2)) (eV rfl (az (au (i:=5) sc_A.nd rfl (Or.inl rfl)) (az (au (i:=6) sc_A.nd rfl (Or.inl rfl)) cu))) (ai (ay (i:=7) sc_A.nd rfl (Or.inl rfl) (av dP (dA cI (vr 6) am (λ_ _=>rfl)) (av eM (vr 3) (dA cI (vr 6) am (λ_ _=>rfl))))) (ai (iA rfl (i:=8) sc_A.nd rfl rfl (by with_unfolding_all rfl) (N:=["place","places"]) (ix:=[none,some 1]) ⟨rfl,rfl,rfl,rfl,⟨rfl,rfl,rfl,trivial⟩⟩ (bJ (vr 5)) ⟨λC s H fp=>au (i:=0) (show List.Nodup (["place","places"]:List Str) by decide +kernel) rfl (Or.inl rfl),λC s H fp=>kO (cJ (pc (K:=K) rfl) (vr 0) (vr 1) (by with_unfolding_all rfl)),λC s H fp=>(vr 0)⟩) (ak (cY oY rfl (bJ (vr 8)) (au (i:=9) sc_A.nd rfl (Or.inl rfl)) (ak (cY oY rfl (bJ (vr 8)) (au (i:=10) sc_A.nd rfl (Or.inl rfl)) (ak (v7 (n8 hr) (vr 4) (cB (aa (vr 9) (aa (vr 10) af))) (av cH (m6 (n8 hr) (vr 4) (cB (aa (vr 9) (aa (vr 10) af))) am ⟨rfl,rfl,rfl,rfl⟩) (vr 7)) rfl))))))))) (ak (aw (cz rfl (N:=["one","places","tops","bottom"]) (ix:=[none,some 1,some 4,some 3]) ⟨rfl,rfl,rfl,rfl,⟨rfl,rfl,rfl,⟨rfl,rfl,rfl,⟨rfl,rfl,rfl,trivial⟩⟩⟩⟩ (bJ (vr 1)) ⟨λC s H fp=>au (i:=0) (show List.Nodup (["one","places","tops","bottom"]:List Str) by decide +kernel) rfl (Or.inl rfl),λC s H fp=>b7,λC s H fp=>(ap d' hr rfl T.m_M T.F_M.kp T.B_M .nil ar (aa (vr 0) (aa (vr 1) (aa (vr 2) (aa (vr 3) af)))))⟩))))))),pH ?_⟩
  intro eg ed em ek;refine⟨v,d,t,D9,rfl,hn,c',hd,cc,Dp,a0,a7,hT,λdx H1 lr R ys t1 d2 el cj hR a5 ei=>?_,q2⟩;have gd:=Tb.gd_ch cc Dp a7 a5;clear a7;have c4:=Tb.tab_key cc a5;have Rl:R.length=ys.length:=hR.length;have c6:=t1.at df;have dV:∀ r∈R,Bt 2721 r.2.num/\Bt 2721 (r.2.den:Int):=λr hr=>Tb.bq_bb Dp a0 (gd.one hr)
  have c8:∀ r∈R,(0:Int)<(r.2.den:Int)/\(r.2.den:Int) ∣ (D9:Int):=λr hr=>let z:=Tb.bq_bt Dp (gd.one hr);⟨z.2.2.1,z.2.2.2⟩
  refine .inl ⟨⟨_,SqL.of cj⟩,λD1 c5=>?_⟩
  let Pw2:PvL:=λi zs H'=>Same H1 H'/\H' D1=some (.lst zs)/\i<=R.length/\zs=((R.take i).map λr=>(r.2.den:Int)).map V.int
  refine bu (K:=K) (a:=lr) (xs:=ys) Pw2 ⟨Same.new c5,ae,Nat.zero_le _,rfl⟩ (λi ys H' h=>SqL.of (h.1 _ _ cj)) (λi ys H' h=>h.2.1) ?_ ?_
  .rintro i y zs H' P' hy ⟨s1,bc,hi,rfl⟩ as
   obtain⟨r,B,a1⟩:=aJ hR hy;obtain⟨p,kt,z,rfl,hp,bF,z9,rfl,hz⟩:=RowR.tk s1.tk r _ a1;have ck:i<R.length:=(List.getElem?_eq_some_iff.mp B).1;refine⟨p,_,rfl,SqT.of hp,rfl,_,_,rfl,_,_,rfl,rfl,trivial,px1 hz.sq ⟨bc,by rw[length_map,length_map,length_take];lia,as _ _ ⟨s1.put c5,ae,ck,?_⟩⟩⟩;rw[take_add_one,B];simp;rfl
  rintro zs Ha ⟨s1,bc,_,rfl⟩;rw[<- Rl,take_length]at bc;refine⟨D1,_,D9,rfl,SqL.of bc,Dp,a0,λn eb=>?_,λL hL0 hLD hLn=>?_⟩
  .obtain⟨r,B,rfl⟩:=mem_map.mp eb
   exact c8 r B
  have dL:∀ r∈R,(r.2.den:Int) ∣ L:=λr hr=>hLn _ (mem_map.mpr ⟨r,hr,rfl⟩)
  have LD:=Int.le_of_dvd (show(0:Int)<(D9:Int) by lia) hLD;have bL:=Tb.bt_of (i:=L) Dp a0 (by lia) LD;intro q ct;have u2:=Same.new (o:=.dT []) ct;have M:=ae (H:=Ha) (a:=q) (o:=.dT []);have co:=d2.same (s1.trans u2);have t2:=t1.trans (s1.trans u2).t;have bg:=s1.trans u2;have cC:=aq (RowR.tk bg.tk) hR;generalize upd Ha q (.dT [])=H2 at u2 M co t2 bg cC;have a6:=bg _ _ cj;have a':=bg _ _ c6;have d1:lr≠q:=dD a6 M (λz=>nomatch z);have cs:lp≠q:=dD a' M (λz=>nomatch z);have cx:H q=none:=(t1.trans s1.t).free ct
  let Pw3:PvS:=λi Z H'=>∃(W:List (List Key×V)) (x5 x6 x7 x8 x9 f:Option V),(∀ b o,b≠q->H2 b=some o->H' b=some o)/\TabsOk (tabs a) H'/\H' q=some (.dT W)/\TF W (Tb.tF ps L (R.take i))/\W.length<=576*i/\i<=R.length/\Z=[some v,some (.ref lp),some (.ref lr),some (.int L),some (.ref q),x5,x6,x7,x8,x9,f]
  refine .inl ⟨⟨_,SqL.of a6⟩,d8 (K:=K) (a:=lr) (xs:=ys) Pw3 ⟨[],none,none,none,none,none,none,(λb o _ e=>e),co,M,TF.nil,Nat.zero_le _,Nat.zero_le _,rfl⟩ (λi Z H' _ h=>by
   obtain⟨W,x5,x6,x7,x8,x9,f,k,_⟩:=h
   exact SqL.of (k _ _ d1 a6)) ?_ ?_⟩
  .rintro i y Z H' hy ⟨W,x5,x6,x7,x8,x9,f,kp,b6,b4,hF,dv,hi,rfl⟩
   obtain⟨r,B,a1⟩:=aJ cC hy;have ck:i<R.length:=(List.getElem?_eq_some_iff.mp B).1;have rm:=List.mem_of_getElem? B;obtain⟨p,kt,z,rfl,hp,bF,z9,rfl,hz⟩:=RowR.tk (H':=H') (λb us e=>kp _ _ (dD e M (λz=>nomatch z)) e) r _ a1;obtain⟨b1,b2⟩:=dV r rm;obtain⟨d0,dd⟩:=c8 r rm;obtain⟨ba,a4⟩:=c4 r rm;have bq:=Tb.bt_of (i:=L/(r.2.den:Int)) Dp a0 (Int.ediv_nonneg (by lia) (by lia)) (Int.le_trans (Int.ediv_le_self _ (by lia)) LD);refine⟨p,_,rfl,SqT.of hp,rfl,_,_,rfl,_,_,rfl,rfl,?_⟩;refine px0 hz.sq (px1 hz.sq ⟨cdB d0 b2,cmB b1 bq,?_⟩);refine .inr ⟨⟨_,SqT.of bF⟩,λD3 cy=>?_⟩;have c0:=kp _ _ cs a'
   let Pw4:PvL:=λn zs H5=>Same H' H5/\H5 D3=some (.lst zs)/\n<=r.1.length/\zs=(Tb.askd ps (r.1.take n)).map V.int
   refine ui (K:=K) (a:=kt) (xs:=r.1.map V.int) Pw4 ⟨Same.new cy,ae,Nat.zero_le _,rfl⟩ (λn ys H5 h=>SqT.of (h.1 _ _ bF)) (λn ys H5 h=>h.2.1) ?_ ?_
   .rintro n y zs H5 P' hy ⟨Y,g,d3,rfl⟩ as
    obtain⟨x,hx,rfl⟩:=eZ hy;have an:n<r.1.length:=(List.getElem?_eq_some_iff.mp hx).1;refine⟨⟨rfl,trivial⟩,lp,_,rfl,.inl (SqL.of (Y _ _ c0)),rfl,sw _,?_⟩;have ea:=Tb.askd_snoc (ps:=ps) hx;rw[uN];refine ifC (λc=>?_) (λc=>?_)
    .rw[if_pos c]at ea
     have:=Tb.askd_len ps (r.1.take n);rw[length_take]at this;exact⟨g,by rw[length_map];lia,as _ _ ⟨Y.put cy,ae,an,by rw[ea,map_append];rfl⟩⟩
    .rw[if_neg c,append_nil]at ea
     exact as _ _ ⟨Y,g,an,by rw[ea]⟩
   rintro zs H5 ⟨Y,g,_,rfl⟩;rw[length_map,take_length]at g;have ba:=Tb.askd_nd (ps:=ps) ba;have a4:=Nat.le_trans (Tb.askd_len ps r.1) a4;have ca:=Tb.tF_snoc (ps:=ps) (L:=L) B;generalize hal:Tb.askd ps r.1=al at g ba a4 ca;have br:=Y _ _ b4;have b3:D3≠q:=dD g br (λz=>nomatch z);have ec:∀ b o,b≠q->H2 b=some o->H5 b=some o:=λb o n e=>Y _ _ (kp _ _ n e)
   have dk:=b6.same Y;have ej:r.2.num*(L/(r.2.den:Int))=Tb.tp L r:=rfl;generalize hG:Tb.tF ps L (R.take i)=G at hF ca
   let Pw5:PvS:=λn Z H6=>∃(I:List (List Key×V)) (x9 f:Option V),(∀ b o,b≠q->H5 b=some o->H6 b=some o)/\TabsOk (tabs a) H6/\H6 q=some (.dT I)/\TF I (Tb.F1 G al n (Tb.tp L r))/\I.length<=576*i+24*n/\n<=al.length/\Z=[some v,some (.ref lp),some (.ref lr),some (.int L),some (.ref q),some (.ref kt),some (.ref z9),some (.int (Tb.tp L r)),some (.ref D3),x9,f]
   refine .inl ⟨⟨_,SqL.of g⟩,d8 (K:=K) (a:=D3) (xs:=al.map V.int) Pw5 ⟨W,_,_,(λb o _ e=>e),dk,br,by rw[Tb.F1_zero];exact hF,by lia,Nat.zero_le _,rfl⟩ (λn Z H6 _ h=>by
    obtain⟨I,x9,f,k,_⟩:=h
    exact SqL.of (k _ _ b3 g)) ?_ ?_⟩
   .rintro n y Z H6 hy ⟨I,x9,f,bb,b5,a3,bl,bo,de,rfl⟩
    obtain⟨x0,ci,rfl⟩:=eZ hy;have an:n<al.length:=(List.getElem?_eq_some_iff.mp ci).1
    let Pw6:PvS:=λm Z H7=>∃(l:List (List Key×V)) (f:Option V),(∀ b o,b≠q->H5 b=some o->H7 b=some o)/\TabsOk (tabs a) H7/\H7 q=some (.dT l)/\TF l (Tb.F2 G al n m (Tb.tp L r))/\l.length<=576*i+24*n+m/\m<=al.length/\Z=[some v,some (.ref lp),some (.ref lr),some (.int L),some (.ref q),some (.ref kt),some (.ref z9),some (.int (Tb.tp L r)),some (.ref D3),some (.int x0),f]
    refine .inl ⟨⟨_,SqL.of (bb _ _ b3 g)⟩,d8 (K:=K) (a:=D3) (xs:=al.map V.int) Pw6 ⟨I,_,bb,b5,a3,by rw[Tb.F2_zero];exact bl,by lia,Nat.zero_le _,rfl⟩ (λm Z H7 _ h=>by
     obtain⟨l,f,k,_⟩:=h
     exact SqL.of (k _ _ b3 g)) ?_ ?_⟩
    .rintro m y Z H7 hy ⟨l,f,cg,cm,ab,a8,bt,dK,rfl⟩
     obtain⟨y0,c7,rfl⟩:=eZ hy;have dz:m<al.length:=(List.getElem?_eq_some_iff.mp c7).1;have dp:=Tb.F2_step (F:=G) (t:=Tb.tp L r) ba ci c7;refine⟨q,rfl,.inr ⟨l,.inl ab⟩,gQ _ _,λtt ft=>?_⟩;have s8:=Same.new (o:=.tup [.int x0,.int y0]) ft;have bn:=s8 _ _ ab;refine⟨_,.inr ⟨l,[.inl x0,.inl y0],tt,.inl bn,rfl,ae,rfl⟩,?_⟩;rw[a8 x0 y0];refine⟨gQ _ _,λt2 ds=>?_⟩;have s9:=Same.new (o:=.tup [.int x0,.int y0]) ds;have ac:=s9 _ _ bn;refine⟨q,_,rfl,.inr ⟨l,[.inl x0,.inl y0],t2,ac,rfl,ae,by lia,rfl⟩,?_⟩;have bS:=s8.trans s9;generalize upd (upd H7 tt (.tup [.int x0,.int y0])) t2 (.tup [.int x0,.int y0])=H9 at ac bS;have ef:=eS l [.inl x0,.inl y0] (.int (Tb.F2 G al n m (Tb.tp L r) x0 y0+Tb.tp L r));refine⟨_,_,λb o nb e=>by rw[ag nb];exact bS _ _ (cg _ _ nb e),(cm.same bS).put (λps z=>by rw[ac]at z;cases z) (λφ z=>by rw[ac]at z;cases z),ae,by rw[dp];exact a8.put x0 y0 _,by lia,dz,rfl⟩
    .rintro Z H7 ⟨l,f,cg,cm,ab,a8,bt,dK,rfl⟩
     rw[length_map]at a8 bt;exact⟨l,_,_,cg,cm,ab,by rw[<- Tb.F2_end ba ci];exact a8,by lia,an,rfl⟩
   .rintro Z H6 ⟨I,x9,f,bb,b5,a3,bl,bo,de,rfl⟩
    rw[length_map]at bl bo;refine⟨I,_,_,_,_,_,_,λb o nb e=>bb _ _ nb (ec _ _ nb e),b5,a3,λx y=>?_,by lia,ck,rfl⟩;rw[bl x y,Tb.F1_end,ca x y]
  rintro Z H3 ⟨W,x5,x6,x7,x8,x9,f,kp,b6,b4,hF,dv,hi,rfl⟩;rw[<- Rl,take_length]at hF;have a2:=kp _ _ cs a'
  have t3:SameT H H3:=λb o e=>by
   have nb:b≠q:=λz=>by rw[z,cx]at e;cases e
   obtain⟨e1,o1,e2⟩:=t2 b o e;exact⟨λnp=>kp _ _ nb (e1 np),o1,kp _ _ nb e2⟩
  refine .inl ⟨⟨_,SqL.of a2⟩,λD5 g=>?_⟩
  let Pw7:PvL:=λn ws H'=>n<=ps.length/\Same H3 H'/\H' D5=some (.lst ws)/\ws.Nodup/\Paired (vK K H3 (untr H' D5) (Tb.mm R) ps) (ps.take n) ws
  refine bu (K:=K) (a:=lp) (xs:=ps.map V.int) Pw7 ⟨Nat.zero_le _,Same.new g,ae,nodup_nil,.nil⟩ (λn ys H' h=>SqL.of (h.2.1 _ _ a2)) (λn ys H' h=>h.2.2.1) ?_ ?_
  .rintro n y ws H' P' hy ⟨d3,Y,bm,b0,X⟩ as
   obtain⟨x,hx,rfl⟩:=eZ hy;have an:n<ps.length:=(List.getElem?_eq_some_iff.mp hx).1;have wl:ws.length<=100:=by rw[<- X.length,length_take];lia
   refine⟨⟨rfl,rfl,rfl,trivial⟩,?_⟩;refine⟨x,L,lp,q,ps,W,Tb.tF ps L R,rfl,Y _ _ a2,dy,Y _ _ b4,hF,hL0,bL.mono (by decide),λj hj=>?_,λH7 D7 zs s7 fD7 hD7 hz7=>?_⟩
   .obtain⟨g1,g2⟩:=Tb.tF_le hL0 gd (List.mem_of_getElem? hx) hj dL
    exact(bL.mono (show 2721<=6000 by decide)).le (by lia)
   have c3:=s7 _ _ bm;have b':D7≠D5:=λz=>by rw[z,bm]at fD7;cases fD7
   have c1:∀{b:Addr}{us:List V},H7 b=some (.tup us)->(untr (upd H7 D5 (.lst (ws++[.ref D7]))) D5) b=some (.tup us):=λ{b us} e=>by
    have nb:b≠D5:=dD e c3 (λz=>nomatch z);rw[aS nb,ag nb];exact e
   have c2:SameT (untr H' D5) (untr (upd H7 D5 (.lst (ws++[.ref D7]))) D5):=(vn s7.t).trans vY;refine⟨c3,by lia,as _ _ ⟨an,(Y.trans s7).put g,ae,?_,?_⟩⟩
   .refine nodup_append.mpr ⟨b0,by simp,λu hu u' dT e=>?_⟩
    have e':u'=V.ref D7:=by simpa using dT
    rw[e,e']at hu;obtain⟨j,hj⟩:=List.getElem?_of_mem hu;obtain⟨i9,_,D9,a9,e9,_,h9,_⟩:=aJ X hj;cases e9;rw[aS b',fD7]at h9;cases h9
   .refine cP (aq (λi y ⟨D9,a9,e9,f9,h9,p9⟩=>⟨D9,a9,e9,f9,c2.at h9,aq (λj z h=>h.tk (λb us e=>c2.at e)) p9⟩) X) hx ⟨D7,zs,rfl,Y.free fD7,?_,?_⟩
    .rw[aS b',ag b'];exact hD7
    .refine je (λj hj z h=>?_) hz7
     rw[Tb.low_tops hL0 (Tb.tF_rat hL0 (List.mem_of_getElem? hx) hj dL)]at h;exact h.tk λb us e=>c1 e
  .rintro ws H' ⟨_,Y,bm,b0,X⟩
   rw[length_map,take_length]at X;refine q1 dx _ D5 R ws (t3.trans Y.t) (b6.same Y) (t3.free g) bm (λhm=>?_) a5 (aq (λi y ⟨D9,a9,e9,f9,h9,p9⟩=>⟨D9,a9,e9,t3.free f9,cut_sub.at h9,aq (λj z h=>h.tk (λb us e=>cut_sub.at e)) p9⟩) X) b0;obtain⟨j,hj⟩:=List.getElem?_of_mem hm;obtain⟨i9,_,D9,a9,e9,_,h9,_⟩:=aJ X hj;cases e9;rw[cR]at h9;cases h9
end
end My
namespace My
open PySem L2 FrM
open Tb (Tr stm stP Hd)
def tot{α:Type}(ps:List (Int×α)):Int:=(ps.map (·.1)).sum
def eQ{α:Type}:List (Int×α)->Int->Option α
 | [],_=>none
 | (m,t)::r,k=>if k<m then some t else eQ r (k - m)
theorem nJ{a:Type}{m:Int}{u:a}{r:List (Int×a)}:tot ((m,u)::r)=m+tot r:=by simp[tot]
theorem oo{d:Type}:∀(l:List (Int×d)),(∀ p∈l,0<=p.1)->0<=tot l
 | [],_=>by simp[tot]
 | (m,u)::r,h=>by
  have a:=h (m,u) (mem_cons_self ..);have b:=oo r λp c=>h p (mem_cons_of_mem _ c)
  rw[nJ];simp at a;lia
theorem pV{a:Type}:∀(ps:List (Int×a)) (k:Nat) (t m:Int) (u:a),(∀ p∈ps,0<=p.1)->ps[k]? = some (m,u)->tot (ps.take k)<=t->t<tot (ps.take (k+1))->eQ ps t=some u
 | [],k,t,m,u,_,h,_,_=>by simp at h
 | (m0,u0)::r,0,t,m,u,hp,h,h0,h1=>by
  simp at h;obtain⟨rfl,rfl⟩:=h;unfold eQ;rw[if_pos (by simpa[tot] using h1)]
 | (m0,u0)::r,k+1,t,m,u,hp,h,h0,h1=>by
  have d:tot (((m0,u0)::r).take (k+1))=m0+tot (r.take k):=by simp[tot]
  have c:tot (((m0,u0)::r).take (k+1+1))=m0+tot (r.take (k+1)):=by simp[tot]
  have b:=oo (r.take k) λp h=>hp p (mem_cons_of_mem _ (mem_of_mem_take h))
  unfold eQ;rw[if_neg (by lia)];exact pV r k (t - m0) m u (λp h=>hp p (mem_cons_of_mem _ h)) (by simpa using h) (by lia) (by lia)
theorem nC{a:Type}{ps:List (Int×a)}{k:Nat}{m:Int}{u:a}(h:ps[k]? = some (m,u)):tot (ps.take (k+1))=tot (ps.take k)+m:=by
 rw[take_add_one,h];simp[tot]
theorem vP{a:Ad}{H:Hp}{v:V}{b:List (Int×V)}(h:IsRaw a H v b):∀ p∈b,1<=p.1:=by
 obtain⟨x,k,l,n,o,j,f,d,c,g⟩:=h;clear c g f
 induction d with
 | nil=>intro p hp;cases hp
 | cons r _ ih =>
  intro p hp
  rcases mem_cons.mp hp with rfl | hp
  .obtain⟨_,_,_,i⟩:=r
   exact i
  .exact ih p hp
theorem nH{b:Type}(a:List (Int×b)):∀(xs:List (Int×b)) (t:Int),0<=t->(∀ p∈xs,0<=p.1)->eQ (xs++a) t=if t<tot xs then eQ xs t else eQ a (t - tot xs)
 | [],t,h0,_=>by
  have e:tot ([]:List (Int×b))=0:=rfl;rw[e,Int.sub_zero,if_neg (by lia),nil_append]
 | (m,u)::r,t,h0,h=>by
  have f:∀ p∈r,0<=p.1:=λp g=>h p (mem_cons_of_mem _ g)
  have n:=oo r f;rw[nJ];show(if t<m then some u else eQ (r++a) (t - m))=if t<m+tot r then (if t<m then some u else eQ r (t - m)) else _
  by_cases c:t<m
  .rw[if_pos c,if_pos (by lia),if_pos c]
  .rw[if_neg c,if_neg c,nH a r (t - m) (by lia) f]
   by_cases d:t<m+tot r
   .rw[if_pos d,if_pos (by lia)]
   .rw[if_neg d,if_neg (by lia),show t - m - tot r=t - (m+tot r) by lia]
theorem sW{a:Type}(m:Int)(u:a)(t:Int):eQ [(m,u)] t=if t<m then some u else none:=rfl
theorem jZ{a:Type}:∀(l:List a) (t:Int),0<=t->eQ (l.map λx=>((1:Int),x)) t=l[t.toNat]?
 | [],t,_=>rfl
 | x::l,t,h0=>by
  rw[map_cons];show(if t<1 then some x else eQ (l.map λx=>((1:Int),x)) (t - 1))=_
  by_cases c:t<1
  .rw[if_pos c,show t.toNat=0 by lia];rfl
  .rw[if_neg c,jZ l (t - 1) (by lia),show t.toNat=(t - 1).toNat+1 by lia];rfl
def hx(held:List Int)(n:Nat)(t:Int):List Int:=gK (held.length:Int) held (n:Int) t
theorem tY(held:List Int)(n:Nat)(t:Int):hx held n t=if t<(held.length:Int) then held.set t.toNat (n:Int) else held:=by
 unfold hx gK;rw[if_neg (by lia)]
theorem zk(held:List Int)(n:Nat)(t:Int):(hx held n t).length=held.length:=by rw[tY];split <;> simp
theorem zJ{held:List Int}{n:Nat}(h:Hd held n)(t:Int):Hd (hx held n t) (n+1):=by
 rw[tY]
 split
 .exact h.put _
 .exact h.stay
theorem qk{s:Nat}{held:List Int}{n:Nat}{t:Int}(g:held.length<=n)(b:0<=t)(h:t<(n:Int)+1):eQ (stP s held n) t=some (stm s (hx held n t) (n+1)):=by
 have e:stP s held n=(((List.range held.length).map λa=>stm s (held.set a (n:Int)) (n+1)).map λx=>((1:Int),x))++[((n:Int)+1 - (held.length:Int),stm s held (n+1))]:=by unfold stP;rw[map_map];rfl
 have f:tot (((List.range held.length).map λa=>stm s (held.set a (n:Int)) (n+1)).map λx=>((1:Int),x))=(held.length:Int):=by
  unfold tot;rw[map_map,show((λx:Int×Tr=>x.1) ∘ λx=>((1:Int),x))=λ_=>(1:Int) from rfl,map_const',length_map,length_range,List.sum_replicate_int];simp
 rw[e,nH _ _ t b (λp d=>by obtain⟨x,_,rfl⟩:=mem_map.mp d;exact(by decide:(0:Int)<=1)),f,tY]
 by_cases c:t<(held.length:Int)
 .rw[if_pos c,if_pos c,jZ _ t b,List.getElem?_map,List.getElem?_range (by lia)];rfl
 .rw[if_neg c,if_neg c,sW,if_pos (by lia)]
theorem jo{H:Hp}:∀{ps:List (Int×Tr)}{rs:List (Int×V)}{t:Int}{u:Tr},Paired (PrR H) ps rs->eQ ps t=some u->∃ f,eQ rs t=some f/\IsMk H f u
 | _,_,_,_,.nil,h=>by cases h
 | (m,u0)::ps,(m',f)::rs,t,u,.cons r hr,h=>by
  have e:m=m':=r.1;subst e;have h:(if t<m then some u0 else eQ ps (t - m))=some u:=h;show ∃ f',(if t<m then some f else eQ rs (t - m))=some f'/\_
  by_cases c:t<m
  .rw[if_pos c]at h ⊢
   cases h;exact⟨f,rfl,r.2.2⟩
  .rw[if_neg c]at h ⊢
   exact jo hr h
def uP(a:Ad):Sp:=λvs H Q _=>∃ v,∃ t S:Int,vs=[v,.int t]/\((S=0/\∃ ns,IsTold a H v ns)\/∃ rs,S=tot rs/\IsRaw a H v rs)/\∀ H',Same H H'->Q (.bl (inK 0 (S - 1) (.i t))) H'
def zX(a:Ad):Sp:=λvs H Q E=>∃ v rs f,∃ t:Int,vs=[v,.int t]/\IsRaw a H v rs/\0<=t/\t<tot rs/\eQ rs t=some f/\∀ H1,Same H H1->vS aM fvH (mj a) f [] H1 Q
def yi(a:Ad)(H:Hp)(E:XK)(p:Int):Prop:=∀ H' dx,SameT H H'->TabsOk (tabs a) H'->H' dx=some (.ext (XDct dx [("place",.int p)]))->E (.ref a.c_a) (some dx) H'
def fin(held:List Int)(n:Nat):List Int->List Int
 | []=>held
 | t::r=>fin (hx held n t) (n+1) r
theorem gE:∀(ths:List Int) (held:List Int) (n:Nat) (t:Int),fin held n (ths++[t])=hx (fin held n ths) (n+ths.length) t
 | [],held,n,t=>rfl
 | x::r,held,n,t=>by
  rw[cons_append,fin,gE r,fin,length_cons,show n+1+r.length=n+(r.length+1) by lia]
theorem lJ:∀(ths:List Int) (held:List Int) (n:Nat),(fin held n ths).length=held.length
 | [],held,n=>rfl
 | x::r,held,n=>by rw[fin,lJ r,zk]
theorem lc:∀(ths:List Int){held:List Int}{n:Nat},Hd held n->Hd (fin held n ths) (n+ths.length)
 | [],held,n,h=>h
 | x::r,held,n,h=>by
  rw[fin,length_cons,show n+(r.length+1)=n+1+r.length by lia];exact lc r (zJ h x)
def Ah(a:Ad):Sp:=λvs H Q E=>∃ v l held n s ths,vs=[v,.ref l]/\IsNd a H v (stm s held n)/\H l=some (.lst (ths.map V.int))/\Hd held n/\(∀(i:Nat) t,ths[i]? = some t->i<s->0<=t/\t<(n:Int)+i+1)/\(∀ t∈ths,0<=t)/\ths.length<=100/\TabsOk (tabs a) H/\(ths.length=s->∀ H' kt,SameT H H'->TabsOk (tabs a) H'->H' kt=some (.tup ((Tb.so (fin held n ths)).map V.int))->Q (.ref kt) H')/\(ths.length<s->yi a H E ths.length)/\(s<ths.length->yi a H E s)
section
variable {P:Program}{w:World}{K:Frag}{mg:Str->Option Value}{base:Heap}{a:Ad}
theorem u8(T:Txt K mg a):FnOk P w K mg base CX0 2 a.f_s a.d_s ["node","throw"] (uP a):=by
 have i:FnOk P w K mg base CX0 1 _ _ _ spWhole:=gv T;have f:FnOk P w K mg base CX0 1 _ _ _ (spV (.int 0)):=uR T;have g:FnOk P w K mg base CX0 1 _ _ _ (wz a):=sJ T;refine T.F_s.ok gF (λn H Q E h=>?_) (λcdv A outer s H n Q E hr h=>?_)
 .obtain⟨v,t,S,rfl,_⟩:=h;rfl
 .obtain⟨v,t,S,rfl,b,q⟩:=h
  refine⟨_,(ak (aw (ap i hr rfl T.m_x T.F_x.kp T.B_x .nil ar (aa (vr 1) (aa am (aa (av fJ (PE.or (aF (vr 0) T.cl_g T.mt_t f hr T.B_t .nil ar) (aF (vr 0) T.cl_j T.mt_y g hr T.B_y .nil ar)) am) af)))))),?_⟩
  rcases b with⟨rfl,y,x,c,o,u,rfl,d,_⟩ | ⟨j,rfl,b⟩
  .exact .inl ⟨x,c,_,rfl,d,rfl,_,rfl,_,0,_,_,rfl,.int t,q _ (Same.refl H)⟩
  .obtain⟨x,c,l,p,rfl,d,_⟩:=id b
   exact .inr ⟨x,c,_,rfl,d,rfl,_,j,rfl,b,λr k=>⟨_,0,_,_,rfl,.int t,q _ k⟩⟩
theorem xt(T:Txt K mg a)(hB:Bm mg base):FnOk P w K mg base (CXG P w) 12 a.x_r a.y_r ["self","throw"] (zX a):=by
 have r:LamOk P w K mg base 11 aM fvH [] (mj a):=LamOk.mono (sM T hB) (by decide);have N:FnOk P w K mg base CX0 11 _ _ _ _:=(u8 T).mono (by decide);have L:FnOk P w K mg base CX0 10 _ _ _ _:=(fP T).mono (by decide);refine T.F_r.okG sc_r (λvs H Q E h=>?_) (λcdv A outer s H vs Q E hr h=>?_)
 .obtain⟨v,rs,f,t,rfl,_⟩:=h;rfl
 .obtain⟨v,j,f0,t,rfl,M,t0,t1,Y,B⟩:=h
  refine⟨_,(ai (bY (cU (dC (ap N hr rfl T.m_s T.F_s.kp T.B_s .nil ar (aa (vr 0) (aa (vr 1) af))))) (ak (cQ T.xc_a T.xh_a (kE T.xi_NoThrow T.kc_NoThrow T.fn_NoThrow L hr rfl T.mc_a T.Bi_a (aa am af) wR))) aU) (ai (ay (i:=2) sc_r.nd rfl (Or.inl rfl) am) (ai (ay (i:=3) sc_r.nd rfl (Or.inl rfl) (av fJ (dA cI (dA cI (cZ (vr 0) rfl) am (λ_ _=>rfl)) am (λ_ _=>rfl)) am)) (ai (iU oY (cJ nR (vr 3) (vr 1) (bv _)) (ai (vm (i:=2) sc_r.nd rfl (Or.inl rfl) am ul) (ak (vm (i:=3) sc_r.nd rfl (Or.inl rfl) (dA cI (dA cI (cZ (vr 0) rfl) (vr 2) (λ_ _=>rfl)) am (λ_ _=>rfl)) ul)))) (ai (oh (dA cI (cZ (vr 0) rfl) (vr 2) (λ_ _=>rfl)) (eV rfl (az (au (i:=4) sc_r.nd rfl (Or.inl rfl)) (az (au (i:=5) sc_r.nd rfl (Or.inl rfl)) cu)))) (ak (aw (kd (vr 5) r hr)))))))),zH ?_⟩;intro a0 a1 as a2 al;refine⟨v,t,_,rfl,.inr ⟨j,rfl,M⟩,λH1 s1=>?_⟩;have hc:inK 0 (tot j - 1) (.i t)=true:=decide_eq_true ⟨t0,by lia⟩;cases hc':inK 0 (tot j - 1) (.i t) with
  | false=>rw[hc]at hc';cases hc'
  | true =>
   have W:=M.t s1.t;have z:=vP M;obtain⟨x,dx,l,C,rfl,hx,hl,hP,an,ac⟩:=id W;have yl:C.length=j.length:=hP.length.symm
   have y:∀ k:Nat,k<j.length->∃ o d f,C[k]? = some (.ref o)/\j[k]? = some (d,f)/\H1 o=some (.tup [.int d,f]):=λk hk=>by
    have ab:k<C.length:=by lia
    have e:C[k]? = some C[k]:=List.getElem?_eq_getElem ab;obtain⟨⟨d,u⟩,n,o,e2,Z,_⟩:=aJ hP e;exact⟨o,d,u,by rw[e,e2],n,Z⟩
   obtain⟨qz,mz,fz,yz,pz,hz⟩:=y 0 (by lia);refine⟨x,_,dx,_,_,rfl,hx,T.cl_j,T.na_Die_makes,rfl,.inl ⟨l,_,_,_,rfl,rfl,SqL.of hl,eX 0 rfl yz,.inr (.inl ⟨qz,_,_,_,rfl,rfl,SqT.of hz,eX 0 rfl rfl,?_⟩)⟩⟩;have tz:tot (j.take 1)=mz:=by rw[nC pz];simp[tot]
   refine⟨λk σ H'=>H'=H1/\∃(b:Nat) (g:Int) (x4 x5:Option V),σ=[some (.ref x),some (.int t),some (.int (b:Nat)),some (.int g),x4,x5]/\b<j.length/\g=tot (j.take (b+1)) - 1/\tot (j.take b)<=t/\k=j.length - b,⟨_,rfl,0,_,_,_,rfl,by lia,by rw[tz],by simpa[tot] using t0,rfl⟩,?_⟩;rintro k σ H' ⟨rfl,b,g,x4,x5,rfl,hn,q,F,rfl⟩;refine ifC (λc=>?_) λc=>?_
   .have c:g<t:=c
    have D:b+1<j.length:=by
     rcases Nat.lt_or_ge (b+1) j.length with h | h
     .exact h
     .rw[take_of_length_le h]at q;lia
    obtain⟨o,d,f,R,n,X⟩:=y (b+1) D
    let Pw2:St->Hp->Prop:=λI G=>G=H'/\I=[some (.ref x),some (.int t),some (.int ((b+1:Nat):Int)),some (.int (g+d)),x4,x5]
    refine⟨Pw2,?_,?_⟩
    .rintro I G ⟨rfl,rfl⟩
     exact⟨_,by lia,rfl,b+1,_,_,_,rfl,D,by rw[nC n];lia,by lia,rfl⟩
    .refine⟨_,rfl,_,_,rfl,rfl,_,rfl,?_⟩
     exact⟨x,_,dx,_,_,rfl,hx,T.cl_j,T.na_Die_makes,rfl,.inl ⟨l,_,_,_,rfl,rfl,SqL.of hl,eX (b+1) (by show(b:Int)+1=((b+1:Nat):Int);lia) R,.inr (.inl ⟨o,_,_,_,rfl,rfl,SqT.of X,eX 0 rfl rfl,_,_,rfl,rfl,rfl,by rw[show((b+1:Nat):Int)=(b:Int)+1 by lia];rfl⟩)⟩⟩
   .have c:¬g<t:=c
    obtain⟨o,d,f,R,n,X⟩:=y b hn;have eu:=pV j b t d f (λp hp=>by have:=z p hp;lia) n F (by lia);rw[Y]at eu;cases eu;exact⟨x,_,dx,_,_,rfl,hx,T.cl_j,T.na_Die_makes,rfl,.inl ⟨l,_,_,_,rfl,rfl,SqL.of hl,eX b (by lia) R,o,_,rfl,SqT.of X,rfl,_,_,rfl,_,_,rfl,rfl,B _ s1⟩⟩
theorem tP{a:Ad}{H d:Hp}{E:XK}{p:Int}(t:SameT H d)(k:TabsOk (tabs a) d)(q:yi a H E p){y c:Addr}(l:d y=none)(i:(upd d y (.ext (XD0 y a.c_a))) c=none)(f:c≠y):E (.ref a.c_a) (some c) (untr (upd (upd (upd d y (.ext (XD0 y a.c_a))) c (.ext (XDct c [("place",.int p)]))) y (.ext (XD1 y a.c_a c))) y):=by
 have h:d c=none:=by rw[ag f]at i;exact i
 have j:Same d (untr (upd (upd (upd d y (.ext (XD0 y a.c_a))) c (.ext (XDct c [("place",.int p)]))) y (.ext (XD1 y a.c_a c))) y):=λb o e=>by
  have g:b≠y:=λz=>by rw[z,l]at e;cases e
  have n:b≠c:=λz=>by rw[z,h]at e;cases e
  rw[aS g,ag g,ag n,ag g];exact e
 refine q _ c (t.trans j.t) (k.same j) ?_;rw[aS f,ag f];exact ae
theorem mv(T:Txt K mg a)(hB:Bm mg base):FnOk P w K mg base (CXG P w) 13 a.f_W a.d_W ["node","throws"] (Ah a):=by
 have an:FnOk P w K mg base CX0 12 _ _ _ _:=(u8 T).mono (by decide);have R:FnOk P w K mg base CX0 11 _ _ _ _:=(fP T).mono (by decide);have a3:FnOk P w K mg base (CXG P w) 12 _ _ _ (zX a):=xt T hB;have a0:FnOk P w K mg base CX0 12 _ _ _ _:=(sZ T).mono (by decide);have a4:FnOk P w K mg base CX0 12 _ _ _ _:=(uF T).mono (by decide);have a7:FnOk P w K mg base CX0 12 _ _ _ _:=(xN T).mono (by decide);have a1:FnOk P w K mg base CX0 12 _ _ _ _:=(xG T).mono (by decide);refine T.F_W.okG sc_W (λvs H Q E h=>?_) (λcdv A outer s H vs Q E hr h=>?_)
 .obtain⟨v,l,g,n,s,d,rfl,_⟩:=h;rfl
 .obtain⟨v,l,g,n,k,d,rfl,hn,hl,W,hv,h0,a8,hT,q1,q2,q3⟩:=h
  have a5:sizeLine=16777216:=sizeLine_eq;refine⟨_,(ai (ay (i:=2) sc_W.nd rfl (Or.inl rfl) (vr 0)) (ai (cY oY rfl (lZ rfl T.z_enumerate (aa (vr 1) af)) (eV rfl (az (au (i:=3) sc_W.nd rfl (Or.inl rfl)) (az (au (i:=4) sc_W.nd rfl (Or.inl rfl)) cu))) (ai (bY (cU (dC (ap an hr rfl T.m_s T.F_s.kp T.B_s .nil ar (aa (vr 2) (aa (vr 4) af))))) (ak (cQ T.xc_a T.xh_a (kE T.xi_NoThrow T.kc_NoThrow T.fn_NoThrow R hr rfl T.mc_a T.Bi_a (aa (vr 3) af) wR))) aU) (ak (ay (i:=2) sc_W.nd rfl (Or.inl rfl) (iM (vr 2) T.cl_j T.mt_r a3 hr T.B_r .nil uc (aa (vr 4) af)))))) (ai (bY (cU (dC (PE.or (aF (vr 2) T.cl_g T.mt_i a0 hr T.B_i .nil ar) (aF (vr 2) T.cl_j T.mt_m a4 hr T.B_m .nil ar)))) (ak (cQ T.xc_a T.xh_a (kE T.xi_NoThrow T.kc_NoThrow T.fn_NoThrow R hr rfl T.mc_a T.Bi_a (aa (aC ce rfl T.z_len dN (aa (vr 1) af)) af) wR))) aU) (ak (aw (PE.or (aF (vr 2) T.cl_g T.mt_C a7 hr T.B_C .nil ar) (aF (vr 2) T.cl_j T.mt_G a1 hr T.B_G .nil ar))))))),pL ?_⟩;intro a' ba a9
  let Pw1:PvS:=λi σ B=>SameT H B/\TabsOk (tabs a) B/\∃(o:V) (x3 x4:Option V),σ=[some v,some (.ref l),some o,x3,x4]/\i<=k/\i<=d.length/\IsNd a B o (stm (k - i) (fin g n (d.take i)) (n+i))
  refine⟨l,_,rfl,hl,i7 (a:=l) (xs:=d.map V.int) Pw1 ⟨SameT.refl,hT,v,none,none,rfl,Nat.zero_le _,Nat.zero_le _,hn⟩ (λi σ B h=>h.1.at hl) ?_ ?_⟩
  .rintro i x σ B p j ⟨N,D,o,x3,x4,rfl,ik,il,q⟩ hp
   rw[List.getElem?_map]at j
   obtain⟨th,hth,rfl⟩:∃ n,d[i]? = some n/\V.int n=x:=by
    cases e:d[i]? with
    | none=>rw[e]at j;cases j
    | some n=>rw[e]at j;cases j;exact⟨n,rfl,rfl⟩
   have ab:i<d.length:=(List.getElem?_eq_some_iff.mp hth).1;have tl:(d.take i).length=i:=by rw[length_take];lia
   have Z:=lc (d.take i) W;rw[tl]at Z;have al:fin g n (d.take (i+1))=hx (fin g n (d.take i)) (n+i) th:=by rw[take_add_one,hth];show fin g n (d.take i++[th])=_;rw[gE,tl]
   have s2:Same B (upd B p (.tup [.int (i:Nat),.int th])):=Same.new hp;refine⟨p,_,rfl,SqT.of ae,rfl,_,_,rfl,_,_,rfl,rfl,?_⟩;have u:=q.t s2.t;have I:=D.same s2;have C:=N.trans s2.t;generalize upd B p (.tup [.int (i:Nat),.int th])=H2 at s2 u I C
   by_cases c:i=k
   .subst c
    rw[Nat.sub_self]at u;have hc:inK 0 (0 - 1) (.i th)=false:=decide_eq_false (by have:=h0 th (List.mem_of_getElem? hth);lia);refine⟨o,th,0,rfl,.inl ⟨rfl,_,u⟩,λH3 F=>?_⟩;rw[hc];intro y Y;exact⟨y,_,rfl,ae,λdz W M=>⟨rfl,y,some dz,_,rfl,ae,λh z=>z,(C.trans F.t).free Y,tP (C.trans F.t) (I.same F) (q3 ab) Y W M⟩⟩
   .obtain⟨k',hk'⟩:∃ k',k - i=k'+1:=⟨k - i - 1,by lia⟩
    rw[hk']at u;obtain⟨rs,G,X⟩:=kP u;have et:tot rs=((n+i:Nat):Int)+1:=(kH X).trans (Tb.stP_tot _ _ _);obtain⟨v0,v1⟩:=hv i th hth (by lia);refine⟨o,th,_,rfl,.inr ⟨rs,rfl,G⟩,λH3 F=>?_⟩;have hc:inK 0 (tot rs - 1) (.i th)=true:=decide_eq_true ⟨v0,by lia⟩;rw[hc];obtain⟨f,hf,a6⟩:=jo X (qk Z.len v0 (by push_cast;lia));have r:=G.t F.t;obtain⟨x0,L,l',ys,rfl,a2,_⟩:=id r;refine⟨x0,L,_,rfl,a2,rfl,_,rs,f,th,rfl,r,v0,by lia,hf,λH4 s4=>?_⟩;have ac:IsMk (untrs H4 []) f (stm k' (hx (fin g n (d.take i)) (n+i) th) (n+i+1)):=by rw[cO];exact a6.t (F.trans s4).t
    refine lD ac (λb hb=>by cases hb) (I.same (F.trans s4)) λH5 u5 t5 hT5 hu=>?_
    rw[cO]at hu;refine⟨(C.trans (F.trans s4).t).trans t5,hT5,u5,_,_,rfl,by lia,ab,?_⟩;rw[al,show k - (i+1)=k' by lia];exact hu
  .rintro σ B ⟨N,D,o,x3,x4,rfl,ik,_,q⟩
   rw[length_map]at ik q;rw[take_length]at q
   by_cases c:d.length=k
   .rw[c,Nat.sub_self]at q
    obtain⟨x,L,tt,ms,rfl,j,as,hs⟩:=kN q;have e:ms=Tb.so (fin g n d):=Tb.so_uniq hs.1 hs.2;subst e;refine .inl ⟨x,L,_,rfl,j,rfl,_,rfl,?_⟩;exact .inl ⟨x,L,_,rfl,j,rfl,x,L,tt,rfl,j,q1 c _ tt N D as⟩
   .obtain⟨k',hk'⟩:∃ k',k - d.length=k'+1:=⟨k - d.length - 1,by lia⟩
    rw[hk']at q
    obtain⟨x,L,l',ys,rfl,j,_⟩:=(show IsNd a B o (.die (stP k' (fin g n d) (n+d.length))) from q)
    refine .inr ⟨x,L,_,rfl,j,rfl,_,rfl,?_⟩;refine⟨_,.inl (SqL.of (N.at hl)),?_⟩;rw[length_map];intro y Y;exact⟨y,_,rfl,ae,λdz W M=>⟨rfl,y,some dz,_,rfl,ae,λh z=>z,N.free Y,tP N D (q2 (by lia)) Y W M⟩⟩
end
end My
namespace L2
open PySem PySem.Spec PyProof.Rows
theorem ro{X:Cx}{K:Frag}(h:X.K=K):OpR X (binaryOp .Add) (λx y H Q=>lB K x y H Q\/pK K x y H Q):=h ▸ ve
section
variable {P:Program}{w:World}{K:Frag}{mg:Str->Option Value}{base:Heap}
end
section
variable {X:Cx}{o e:Expr}{es:List Expr}{to:TE}{t:TA}{apos cpos:Pos}
theorem pe_m.indexSK{K:Frag}(i:X.K=K)(f:PE X o to)(g:PA X (e::es) t)
  (c:attributeBase o "index" X.env (eval o X.env)=eval o X.env:=by rfl)
  (d:((backTo cpos (starEach (e::es) X.env)).all (λx=>!x.1) && (backToKw cpos (keywordEach [] X.env)).all (λx=>x.1.isSome)
   && decide ((e::es).length+([]:List Keyword).length+(if ([]:List Keyword).isEmpty then 0 else 1)<30))=true:=by rfl)
  (b:(apos.endLine == cpos.line)=true:=by rfl) (h:starEach (e::es) X.env=(false,eval e X.env)::starEach es X.env:=by rfl) (a:(backTo cpos (starEach es X.env)).any (·.1)=false:=by rfl) :
  PE X (.Call (.Attribute o "index" apos) (e::es) [] cpos) (tBM K "str" lh to t):=i ▸ pe_m.indexS f g c d b h a
end
end L2
namespace My
open PySem L2 FrM LexM
open Tb (Tr stm stP Hd SL ch rng tS)
theorem BB{K:Frag}{H:Hp}{x y:Addr}{xs b:List V}{Q:VK}(c:H x=some (.tup xs))(d:H y=some (.tup b))(f:xs.length+b.length<=sizeLine)(q:∀ H' p,Same H H'->H' p=some (.tup (xs++b))->Q (.ref p) H'):lB K (.ref x) (.ref y) H Q\/pK K (.ref x) (.ref y) H Q:=by
 cases xs with
 | nil=>exact .inl ⟨x,y,b,rfl,rfl,SqT.of c,SqT.of d,q H y (Same.refl H) d⟩
 | cons a xs =>
  refine .inr ⟨x,y,_,b,rfl,rfl,SqT.of c,SqT.of d,by simp,f,λe=>?_,λ_ p hp=>q _ p (Same.new hp) ae⟩;subst e;exact q H x (Same.refl H) (by rw[c,append_nil])
inductive spStd(a:Ad)(vs:List V)(H:Hp)(Q:VK)(E:XK):Prop
 | mk(v u:V)(k j:Kd)(h0:vs=[v,u])(h1:Thg H v k)(h2:Thg H u j)(h3:TabsOk (tabs a) H)(h4:(∀ many most:Nat,k=.i many->j=.i most->many<=24->1<=most->most<=24->∀ H' x,SameT H H'->TabsOk (tabs a) H'->IsNd a H' x (tS (min many most) (many - min many most))->Q x H'))(h5:(inK 0 24 k=false\/inK 1 24 j=false->∀ H',SameT H H'->TabsOk (tabs a) H'->E (.ref a.c_n) none H')):spStd a vs H Q E
inductive spChoose(vs:List V)(H:Hp)(Q:VK)(_E:XK):Prop
 | mk(many few:Nat)(h0:vs=[.int (many:Nat),.int (few:Nat)])(h1:few<=many)(h2:many<=24)(h3:Q (.int (ch many few:Nat)) H):spChoose vs H Q _E
def RwR(H:Hp)(x:List Int)(y:V):Prop:=∃ p,y=.ref p/\H p=some (.tup (x.map V.int))
inductive spSets(vs:List V)(H:Hp)(Q:VK)(_E:XK):Prop
 | mk(many few:Nat)(h0:vs=[.int (many:Nat),.int (few:Nat)])(h1:few<=many)(h2:many<=24)(h3:(many<=23\/many<=few+1))(h4:∀ H' q L ys,Same H H'->H' q=some (.lst ys)->Paired (RwR H') L ys->L.Pairwise (λx y=>aD x y=true)->(∀ x,x∈L↔Tb.Sb x few many)->ys.length<16000000->Q (.ref q) H'):spSets vs H Q _E
inductive spLWays(vs:List V)(H:Hp)(Q:VK)(_E:XK):Prop
 | mk(many few most:Nat)(h0:vs=[.int (many:Nat),.int (few:Nat),.int (most:Nat)])(h1:few<=many)(h2:many<=24)(h3:1<=most)(h4:most<=24)(h5:∀ w:Int,(w<=260->w=(((most+1) ^ (many - few):Nat):Int))->Q (.int w) H):spLWays vs H Q _E
def Thw(most many:Nat)(ths:List Int):Prop:=ths.length=many - most/\∀(i:Nat) t,ths[i]? = some t->0<=t/\t<(most:Int)+i+1
inductive spThr(K:Frag)(vs:List V)(H:Hp)(Q:VK)(_E:XK):Prop
 | mk(c:Int)(d:Bool)(many most:Nat)(h0:vs=[.int c,.bl d,.int (many:Nat),.int (most:Nat)])(h1:many<=24)(h2:most<=24)(h3:∀ H' l ths,Same H H'->H l=none->H' l=some (.lst (ths.map V.int))->Thw most many ths->Q (.ref l) H'):spThr K vs H Q _E
theorem kh:∀{bs ns:List Int}{i:Nat}{t:Int},Below bs ns->ns[i]? = some t->∃ b,bs[i]? = some b/\0<=t/\t<b
 | _,_,_,_,.nil,h=>by cases h
 | _,_,0,_,.cons r _,h=>by cases h;exact⟨_,rfl,r⟩
 | _,_,i+1,_,.cons _ t,h=>kh (i:=i) t h
theorem o9{many a k:Nat}(c:a<=many)(b:k<=many)(h:many<=23\/many<=a+1)(d:many<=24):(SL many a k).length<16000000:=by
 rcases h with h | h
 .exact Nat.lt_of_le_of_lt (Tb.SL_two many a k) (Nat.lt_of_le_of_lt (Nat.pow_le_pow_right (by decide) (show k<=23 by lia)) (by decide))
 .have:=(Tb.SL_one c h b).1;lia
section
variable {P:Program}{w:World}{K:Frag}{mg:Str->Option Value}{base:Heap}{a:Ad}
theorem dl(T:Txt K mg a)(hB:Bm mg base):FnOk P w K mg base (CXG P w) 4 a.f_p a.d_p ["many","most"] (spStd a):=by
 have d:FnOk P w K mg base CX0 3 _ _ _ _:=(gv T).mono (by decide);have r:FnOk P w K mg base CX0 3 _ _ _ (spSN a):=mX T hB;refine T.F_p.okG nN (λR H Q E h=>?_) (λcdv A outer s H R Q E hr h=>?_)
 .obtain⟨v,u,k,j,rfl,_⟩:=h;rfl
 .obtain⟨v,u,k,j,rfl,G,F,D,X,Z⟩:=h
  have C:sizeLine=16777216:=sizeLine_eq;refine⟨_,(ai (bY (PW.pt (qN (cU (dC (ap d hr rfl T.m_x T.F_x.kp T.B_x .nil ar (aa (vr 0) (aa am (aa (js rfl T.g_MOST_STREAMED) af)))))) (lM (cU (dC (ap d hr rfl T.m_x T.F_x.kp T.B_x .nil ar (aa (vr 1) (aa am (aa (js rfl T.g_MOST_KEPT) af))))))))) (ak (cQ T.xc_n T.xh_n (iN T.xi_NoThing T.kc_NoThing rfl T.mc_n))) aU) (ak (aw (ap r hr rfl T.m_v T.F_v.kp T.B_v .nil ar (aa (dH (kQ rfl) rfl T.z_list ly (aa (dH sC rfl T.z_range u6 (aa (aC (eA rfl) rfl T.z_min jy (aa (vr 0) (aa (vr 1) af))) af)) af)) (aa (vr 1) (aa (vr 0) af))))))),qr ?_⟩;intro M;have f:inK 0 24 k=false\/inK 1 24 j=false->∀ y,H y=none->∃ x dct φ,V.ref y=.ref x/\(upd H y (.ext (XD0 y a.c_n))) x=some (.ext φ)/\(∀ h,φ h->XU x a.c_n dct h)/\H x=none/\E (.ref a.c_n) dct (untr (upd H y (.ext (XD0 y a.c_n))) x):=λw=>uz SameT.refl D (Z w)
  refine⟨v,0,24,k,rfl,G,?_⟩;cases e1:inK 0 24 k with
  | false=>exact f (.inl e1)
  | true =>
   refine⟨u,1,24,j,rfl,F,?_⟩;cases e2:inK 1 24 j with
   | false=>exact f (.inr e2)
   | true =>
    obtain⟨i,rfl⟩:∃ i,k=.i i:=by cases k with | i n=>exact⟨n,rfl⟩ | s t=>cases e1 | o=>cases e1
    obtain⟨i2,rfl⟩:∃ i,j=.i i:=by cases j with | i n=>exact⟨n,rfl⟩ | s t=>cases e2 | o=>cases e2
    have h1:0<=i/\i<=24:=of_decide_eq_true e1;have h2:1<=i2/\i2<=24:=of_decide_eq_true e2;cases G;cases F
    obtain⟨many,rfl⟩:∃ n:Nat,i=(n:Int):=⟨i.toNat,by lia⟩
    obtain⟨most,rfl⟩:∃ n:Nat,i2=(n:Int):=⟨i2.toNat,by lia⟩
    refine⟨_,_,rfl,?_⟩;rw[show(if (most:Int)<(many:Int) then (most:Int) else (many:Int))=((min many most:Nat):Int) by split <;> lia];refine⟨_,rfl,λp z=>?_⟩;have L:=Same.new (o:=.rng 0 ((min many most:Nat):Int)) z;refine⟨p,min many most,rfl,by lia,ae,λl B=>?_⟩;have q:=L.trans (Same.new (o:=.lst ((List.range (min many most)).map λ(i:Nat)=>V.int (i:Int))) B);have g:(upd (upd H p (.rng 0 ((min many most:Nat):Int))) l (.lst ((List.range (min many most)).map λ(i:Nat)=>V.int (i:Int)))) l=some (.lst ((rng (min many most)).map V.int)):=by rw[ae];unfold rng;rw[map_map];rfl
    generalize upd (upd H p (.rng 0 ((min many most:Nat):Int))) l (.lst ((List.range (min many most)).map λ(i:Nat)=>V.int (i:Int)))=H1 at q g
    have I:Hd (rng (min many most)) most:=by
     have h:=Tb.rng_hd (min many most);exact⟨h.nd,λx Y=>by have:=h.lt x Y;lia,by rw[Tb.rng_len];lia⟩
    have W:stm (many - min many most) (rng (min many most)) most=tS (min many most) (many - min many most):=by
     unfold tS
     by_cases c:many<=most
     .rw[show many - min many most=0 by lia];rfl
     .rw[show min many most=most by lia]
    refine⟨l,rng (min many most),most,many,many - min many most,[],rfl,(λb N=>by cases N),by rw[cO];exact g,by lia,by lia,by rw[Tb.rng_len];lia,I,D.same q,λH2 x t2 hT2 hN=>?_⟩;rw[cO,W]at hN;exact X many most rfl rfl (by lia) (by lia) (by lia) _ _ (q.t.trans t2) hT2 hN
theorem q5(T:Txt K mg a):FnOk P w K mg base CX0 1 a.f_P a.d_P ["_law_many","_law_few"] spChoose:=by
 refine T.F_P.ok sc_P (λr H Q E h=>?_) (λcdv A outer s H r Q E hr h=>?_)
 .obtain⟨c,d,rfl,_⟩:=h;rfl
 .obtain⟨c,d,rfl,C,f,q⟩:=h
  have l:sizeLine=16777216:=sizeLine_eq;refine⟨_,(ai (ay (i:=2) sc_P.nd rfl (Or.inl rfl) am) (ai (cY PassesOwn.never rfl (d5 rfl T.z_range (aa (vr 1) af)) (au (i:=3) sc_P.nd rfl (Or.inl rfl)) (ak (ay (i:=2) sc_P.nd rfl (Or.inl rfl) (av eM (av dP (vr 2) (av fJ (vr 0) (vr 3))) (av cH (vr 3) am))))) (ak (aw (vr 2))))),d9 ?_⟩;intro u y;refine⟨_,rfl,by lia,by lia,?_⟩
  let Pw1:PvS:=λi g j=>j=H/\i<=d/\∃ x,g=[some (.int (c:Nat)),some (.int (d:Nat)),some (.int (ch c i:Nat)),x]
  refine fw (lo:=0) (n:=(d:Int).toNat) Pw1 ⟨rfl,Nat.zero_le _,none,by rw[Tb.ch_zero];rfl⟩ ?_ ?_
  .rintro i g j z ⟨rfl,v,x,rfl⟩
   have b:=Tb.ch_le c i;have B:(2:Nat) ^ c<=2 ^ 24:=Nat.pow_le_pow_right (by decide) f
   obtain⟨k,rfl⟩:∃ k,c=i+1+k:=⟨c - i - 1,by lia⟩
   have o:=Tb.ch_step i k;refine⟨cmB (show Bt 30 _ by unfold Bt;lia) (show Bt 30 _ by unfold Bt;lia),cdB (by lia) (show Bt 30 _ by unfold Bt;lia),?_⟩;refine⟨rfl,by lia,some (.int (0+(i:Int))),?_⟩
   have e:((ch (i+1+k) i:Nat):Int)*(((i+1+k:Nat):Int) - (0+(i:Int)))/(0+(i:Int)+1)=((ch (i+1+k) (i+1):Nat):Int):=by
    have p:((ch (i+1+k) i:Nat):Int)*(((i+1+k:Nat):Int) - (0+(i:Int)))=((ch (i+1+k) (i+1):Nat):Int)*(0+(i:Int)+1):=by
     have:((ch (i+1+k) i*(k+1):Nat):Int)=((ch (i+1+k) (i+1)*(i+1):Nat):Int):=by rw[o]
     push_cast at this ⊢
     rw[show((i:Int)+1+(k:Int) - (0+(i:Int)))=(k:Int)+1 by lia,show(0+(i:Int)+1)=(i:Int)+1 by lia];exact this
    rw[p];exact Int.mul_ediv_cancel _ (by lia)
   rw[<- e];rfl
  .rintro g j ⟨rfl,_,x,rfl⟩
   rw[Int.toNat_natCast];exact q
theorem vz(T:Txt K mg a):FnOk P w K mg base CX0 1 a.f_X a.d_X ["_law_many","_law_few","_law_most"] spLWays:=by
 refine T.F_X.ok sc_X (λr H Q E h=>?_) (λcdv A outer s H r Q E hr h=>?_)
 .obtain⟨d,f,b,rfl,_⟩:=h;rfl
 .obtain⟨d,f,b,rfl,F,o,D,p,q⟩:=h
  have l:sizeLine=16777216:=sizeLine_eq;refine⟨_,(ai (ay (i:=3) sc_X.nd rfl (Or.inl rfl) am) (ai (cY PassesOwn.never rfl (d5 rfl T.z_range (aa (av fJ (vr 0) (vr 1)) af)) (au (i:=4) sc_X.nd rfl (Or.inl rfl)) (ak (ay (i:=3) sc_X.nd rfl (Or.inl rfl) (aC (eA rfl) rfl T.z_min jy (aa (av dP (vr 3) (av cH (vr 2) am)) (aa am af)))))) (ak (aw (vr 3))))),d9 ?_⟩;intro v y;refine⟨_,rfl,by lia,by lia,?_⟩
  let Pw2:PvS:=λi j k=>k=H/\∃(w:Int) (x:Option V),1<=w/\w<=5000/\(w<=260->w=(((b+1) ^ i:Nat):Int))/\j=[some (.int (d:Nat)),some (.int (f:Nat)),some (.int (b:Nat)),some (.int w),x]
  refine fw (lo:=0) (n:=((d:Int) - (f:Int)).toNat) Pw2 ⟨rfl,1,none,by decide,by decide,(λ_=>rfl),rfl⟩ ?_ ?_
  .rintro i j k C ⟨rfl,w,x,u,z,g,rfl⟩
   refine⟨cmB (show Bt 30 _ by unfold Bt;lia) (show Bt 30 _ by unfold Bt;lia),?_⟩;refine⟨_,_,rfl,?_⟩
   have B:w<=w*((b:Int)+1):=by
    have:=Int.mul_le_mul_of_nonneg_left (show(1:Int)<=(b:Int)+1 by lia) (show 0<=w by lia);lia
   refine⟨rfl,_,_,?_,?_,λh=>?_,rfl⟩
   .show 1<=if (5000:Int)<w*((b:Int)+1) then (5000:Int) else w*((b:Int)+1)
    split <;> lia
   .show(if (5000:Int)<w*((b:Int)+1) then (5000:Int) else w*((b:Int)+1))<=5000
    split <;> lia
   .have h:(if (5000:Int)<w*((b:Int)+1) then (5000:Int) else w*((b:Int)+1))<=260:=h
    show(if (5000:Int)<w*((b:Int)+1) then (5000:Int) else w*((b:Int)+1))=_
    split at h
    .lia
    .rename_i c
     rw[if_neg c,g (by lia),Nat.pow_succ]
     push_cast
     rfl
  .rintro j k ⟨rfl,w,x,u,z,g,rfl⟩
   rw[show((d:Int) - (f:Int)).toNat=d - f by lia]at g;exact q w g
end
open Tb (Tr stm stP Hd SL ch rng tS)
theorem RwR.put{H:Hp}{D:Addr}{b c:List V}(h:H D=some (.lst b))(x:List Int)(y:V)(r:RwR H x y):RwR (upd H D (.lst c)) x y:=by
 obtain⟨p,e,a⟩:=r;exact⟨p,e,by rw[ag (λz=>by rw[z,h]at a;cases a)];exact a⟩
theorem RwR.same{H H':Hp}(s:Same H H')(x:List Int)(y:V)(r:RwR H x y):RwR H' x y:=let ⟨p,e,h⟩:=r;⟨p,e,s _ _ h⟩
theorem tkF{a:Type}{p:a->Bool}{L:List a}{i:Nat}{x:a}(h:L[i]? = some x):(L.take (i+1)).filter p=(L.take i).filter p++if p x=true then [x] else []:=by
 rw[take_add_one,h,filter_append];simp[filter_cons]
theorem uq{H:Hp}{L:List (List Int)}{b:List V}(h:Paired (RwR H) L b):Paired (λy x=>∃ a,y=V.ref a/\Row H a x) b L:=by
 induction h with
 | nil=>exact .nil
 | cons r _ ih =>
  obtain⟨p,e,c⟩:=r;exact .cons ⟨p,e,c⟩ ih
theorem mG{f c:Type}{r:f->c->Prop}{b:List f}{a:List c}(h:Paired r b a)(d:f)(g:c):∀{o:List Nat},(∀ i∈o,i<b.length)->Paired r (o.map λi=>b.getD i d) (o.map λi=>a.getD i g)
 | [],_=>.nil
 | i::o,ho=>by
  have l:i<a.length:=by rw[<- h.length];exact ho i mem_cons_self
  have e:a[i]? = some a[i]:=List.getElem?_eq_getElem l;obtain⟨x,n,k⟩:=aJ h e;refine .cons ?_ (mG h d g λj p=>ho j (mem_cons_of_mem _ p));show r (b.getD i d) (a.getD i g);rw[List.getD,List.getD,n,e];exact k
section
variable {P:Program}{w:World}{K:Frag}{mg:Str->Option Value}{base:Heap}{a:Ad}
theorem j6(T:Txt K mg a):FnOk P w K mg base CX0 3 a.f_Q a.d_Q ["_law_cell","_law_digits","_law_many","_law_most"] (spThr K):=by
 have x:FnOk P w K mg base CX0 2 _ _ _ (spNumbers K):=jq T;refine T.F_Q.ok nw (λR H Q E h=>?_) (λcdv A outer s H R Q E hr h=>?_)
 .obtain⟨c,d,g,f,rfl,_⟩:=h;rfl
 .obtain⟨c,d,g,f,rfl,L,X,q⟩:=h
  have y:sizeLine=16777216:=sizeLine_eq;refine⟨_,(ak (aw (ap x hr rfl T.m_B T.F_B.kp T.B_B .nil ar (aa (vr 0) (aa (vr 1) (aa (cz rfl (N:=["_law_k"]) (ix:=[none]) ⟨rfl,rfl,rfl,rfl,trivial⟩ (sj rfl T.z_range (aa (vr 3) (aa (vr 2) af))) ⟨λC s H F=>au (i:=0) (show List.Nodup (["_law_k"]:List Str) by decide +kernel) rfl (Or.inl rfl),λC s H F=>b7,λC s H F=>(av cH (vr 0) am)⟩) af)))))),?_⟩;refine⟨_,_,rfl,⟨by lia,by lia,by lia,by lia⟩,λD G=>?_⟩
  let Pw1:PvL:=λi r u=>Same H u/\u D=some (.lst r)/\r=((List.range i).map λ(j:Nat)=>(f:Int)+(j:Int)+1).map V.int
  refine nM (lo:=(f:Int)) (n:=((g:Int) - (f:Int)).toNat) Pw1 ⟨Same.new G,ae,rfl⟩ (λi r u h=>h.2.1) ?_ ?_
  .rintro i r u P' Z ⟨v,k,rfl⟩ Y
   refine⟨trivial,k,by rw[length_map,length_map,length_range];lia,Y _ _ ⟨v.put G,ae,?_⟩⟩;rw[List.range_succ,map_append,map_append];rfl
  .rintro r u ⟨v,k,rfl⟩
   refine⟨_,_,_,_,rfl,k,by rw[length_map,length_range];lia,λb o=>?_,λH2 l ns s2 fl hl hB=>?_⟩
   .obtain⟨j,W,rfl⟩:=mem_map.mp o
    have:=mem_range.mp W;lia
   .have p:=Paired.length hB
    rw[length_map,length_range]at p;refine q H2 l ns (v.trans s2) (v.free fl) hl ⟨by lia,λi t M=>?_⟩;obtain⟨b,o,I,B⟩:=kh hB M;rw[List.getElem?_map]at o;cases hr':(List.range (((g:Int) - (f:Int)).toNat))[i]? with
    | none=>rw[hr']at o;cases o
    | some j =>
     rw[hr']at o;cases o
     have:j=i:=by
      rw[List.getElem?_eq_some_iff]at hr';obtain⟨B,z⟩:=hr';rw[getElem_range]at z;exact z.symm
     subst this;exact⟨I,B⟩
theorem w6(T:Txt K mg a):FnOk P w K mg base CX0 1 a.f_V a.d_V ["_law_many","_law_few"] spSets:=by
 refine T.F_V.ok sc_V (λvs H Q E h=>?_) (λcdv A outer s H vs Q E hr h=>?_)
 .obtain⟨b,d,rfl,_⟩:=h;rfl
 .obtain⟨b,d,rfl,hf,ac,hm,q⟩:=h
  have W:sizeLine=16777216:=sizeLine_eq;refine⟨_,(ai (ay (i:=2) sc_V.nd rfl (Or.inl rfl) (bI (aa (cB af) af))) (ai (cY PassesOwn.never rfl (d5 rfl T.z_range (aa (vr 0) af)) (au (i:=3) sc_V.nd rfl (Or.inr rfl)) (ai (iA rfl (i:=4) sc_V.nd rfl rfl (by with_unfolding_all rfl) (N:=["_law_some","_law_k","_law_few"]) (ix:=[none,some 3,some 1]) ⟨rfl,rfl,rfl,rfl,⟨rfl,rfl,rfl,⟨rfl,rfl,rfl,trivial⟩⟩⟩ (bJ (vr 2)) ⟨λC s H fp=>au (i:=0) (show List.Nodup (["_law_some","_law_k","_law_few"]:List Str) by decide +kernel) rfl (Or.inl rfl),λC s H fp=>kO (cJ nR (aC (jC (K:=K) rfl) rfl T.z_len dN (aa (vr 0) af)) (vr 2) (bv _)),λC s H fp=>(av (ro (K:=K) rfl) (vr 0) (cB (aa (vr 1) af)))⟩) (ak (ay (i:=2) sc_V.nd rfl (Or.inl rfl) (av fe (vr 4) (cz rfl (N:=["_law_some","_law_few","_law_k","_law_many"]) (ix:=[none,some 1,some 3,some 0]) ⟨rfl,rfl,rfl,rfl,⟨rfl,rfl,rfl,⟨rfl,rfl,rfl,⟨rfl,rfl,rfl,trivial⟩⟩⟩⟩ (bJ (vr 2)) ⟨λC s H fp=>au (i:=0) (show List.Nodup (["_law_some","_law_few","_law_k","_law_many"]:List Str) by decide +kernel) rfl (Or.inl rfl),λC s H fp=>kO (cJ yd (av fJ (av fJ (av cH (aC (jC (K:=K) rfl) rfl T.z_len dN (aa (vr 0) af)) (vr 3)) (vr 2)) am) (vr 1) (bv _)),λC s H fp=>(vr 0)⟩)))))) (ak (aw (aC (lG hr.units) rfl T.z_sorted fB (aa (vr 2) af)))))),d9 ?_⟩;intro bc bb;refine⟨Nat.zero_le _,λp0 a9=>⟨by rw[W];exact show(1:Nat)<=_ by decide,λq0 fq0=>?_⟩⟩;have a3:=(Same.new (o:=.tup []) a9).trans (Same.new (o:=.lst [.ref p0]) fq0);have a2:(upd (upd H p0 (.tup [])) q0 (.lst [.ref p0])) p0=some (.tup []):=by rw[ag (λz=>by rw[<- z,ae]at fq0;cases fq0)];exact ae
  generalize e0:upd (upd H p0 (.tup [])) q0 (.lst [.ref p0])=H0 at a3 a2;have a':H0 q0=some (.lst [.ref p0]):=by rw[<- e0];exact ae
  refine⟨_,rfl,by lia,by lia,?_⟩
  let Pw2:PvS:=λk σ f=>(k<=b)/\∃(l:Addr) (F:List V) (x3 x4:Option V),Same H f/\f l=some (.lst F)/\Paired (RwR f) (SL b d k) F/\σ=[some (.int (b:Nat)),some (.int (d:Nat)),some (.ref l),x3,x4]
  refine fw (lo:=0) (n:=(b:Int).toNat) Pw2 ⟨Nat.zero_le _,q0,_,none,none,a3,a',.cons ⟨p0,rfl,a2⟩ .nil,rfl⟩ ?_ ?_
  .rintro k σ H1 hk ⟨a5,l,F,x3,x4,s1,hl,hy,rfl⟩
   have Y:(SL b d k).length=F.length:=Paired.length hy;have a8:=o9 hf a5 hm ac;have ba:=o9 hf (show k+1<=b by lia) hm ac;refine .inl ⟨⟨_,SqL.of hl⟩,λD hD=>?_⟩;have nD:∀ x∈SL b d k,x.length<=24:=λx R=>by have:=(Tb.su_iff a5 hf x).mp R;have:=this.le;lia
   let Pw3:PvL:=λi zs f=>(i<=(SL b d k).length)/\Same H1 f/\f D=some (.lst zs)/\Paired (RwR f) ((((SL b d k).take i).filter λx=>decide (x.length<d)).map (· ++ [(k:Int)])) zs
   refine bu (K:=K) (a:=l) (xs:=F) Pw3 ⟨Nat.zero_le _,Same.new hD,ae,.nil⟩ (λi F f h=>SqL.of (h.2.1 _ _ hl)) (λi F f h=>h.2.2.1) ?_ ?_
   .rintro i y zs f P' an ⟨hi,X,j,hz⟩ hP
    obtain⟨x,R,p,rfl,Z⟩:=aJ hy an;have M:i<(SL b d k).length:=(List.getElem?_eq_some_iff.mp R).1;have a6:=nD x (List.mem_of_getElem? R);refine⟨⟨rfl,rfl,trivial⟩,⟨_,.inr (SqT.of (X _ _ Z)),?_⟩⟩
    have ab:zs.length<sizeLine:=by
     have e1:=Paired.length hz;rw[length_map]at e1;have e2:=length_filter_le (λx=>decide (x.length<d)) ((SL b d k).take i);rw[length_take]at e2;lia
    refine ifC (λc=>?_) λc=>?_
    .have c':x.length<d:=by have z:((x.map V.int).length:Int)<(d:Int):=c;rw[length_map]at z;lia
     refine⟨by rw[W];exact show(1:Nat)<=_ by decide,λp1 al=>?_⟩;have B:=Same.new (o:=.tup [V.int (0+(k:Int))]) al;have n1:D≠p1:=λz=>by rw[<- z,j]at al;cases al
     refine BB (B _ _ (X _ _ Z)) ae (by rw[length_map];show x.length+1<=_;lia) λH4 p4 s4 as=>⟨s4 _ _ (B _ _ j),ab,hP _ _ ⟨M,(X.trans (B.trans s4)).put hD,ae,?_⟩⟩
     rw[tkF R,if_pos (decide_eq_true c'),map_append];refine cD ⟨p4,rfl,?_⟩ (aq (λu v r=>RwR.put (s4 _ _ (B _ _ j)) u v (RwR.same (B.trans s4) u v r)) hz);rw[ag (λz=>by rw[z,s4 _ _ (B _ _ j)]at as;cases as),as,map_append,Int.zero_add];rfl
    .have c':¬x.length<d:=by have z:¬((x.map V.int).length:Int)<(d:Int):=c;rw[length_map]at z;lia
     refine hP _ _ ⟨M,X,j,?_⟩;rw[tkF R,if_neg (by rw[decide_eq_true_eq];exact c'),append_nil];exact hz
   .rintro zs H2 ⟨_,X,j,hz⟩
    rw[<- Y,take_length]at hz;have a0:=X _ _ hl;refine .inl ⟨⟨_,SqL.of a0⟩,λD2 a1=>?_⟩
    let Pw4:PvL:=λi ws f=>(i<=(SL b d k).length)/\Same H2 f/\f D2=some (.lst ws)/\Paired (RwR f) (((SL b d k).take i).filter λx=>decide (d<=x.length+(b - k - 1))) ws
    refine bu (K:=K) (a:=l) (xs:=F) Pw4 ⟨Nat.zero_le _,Same.new a1,ae,.nil⟩ (λi F f h=>SqL.of (h.2.1 _ _ a0)) (λi F f h=>h.2.2.1) ?_ ?_
    .rintro i y ws f P' an ⟨hi,B,G,I⟩ hP
     obtain⟨x,R,p,rfl,Z⟩:=aJ hy an;have M:i<(SL b d k).length:=(List.getElem?_eq_some_iff.mp R).1;have a6:=nD x (List.mem_of_getElem? R);refine⟨⟨rfl,rfl,rfl,trivial⟩,⟨_,.inr (SqT.of (B _ _ (X _ _ Z))),?_⟩⟩
     have ab:ws.length<sizeLine:=by
      have e1:=Paired.length I;have e2:=length_filter_le (λx=>decide (d<=x.length+(b - k - 1))) ((SL b d k).take i);rw[length_take]at e2;lia
     refine ifC (λc=>?_) λc=>?_
     .have c':d<=x.length+(b - k - 1):=by have z:(d:Int)<=((x.map V.int).length:Int)+(b:Int) - (0+(k:Int)) - 1:=c;rw[length_map]at z;lia
      refine⟨G,ab,hP _ _ ⟨M,B.put a1,ae,?_⟩⟩;rw[tkF R,if_pos (decide_eq_true c')];exact cD (RwR.put G _ _ ⟨p,rfl,B _ _ (X _ _ Z)⟩) (aq (λu v r=>RwR.put G u v r) I)
     .have c':¬d<=x.length+(b - k - 1):=by have z:¬(d:Int)<=((x.map V.int).length:Int)+(b:Int) - (0+(k:Int)) - 1:=c;rw[length_map]at z;lia
      refine hP _ _ ⟨M,B,G,?_⟩;rw[tkF R,if_neg (by rw[decide_eq_true_eq];exact c'),append_nil];exact I
    .rintro ws H3 ⟨_,B,G,I⟩
     rw[<- Y,take_length]at I;have a7:=gU I (aq (λu v r=>RwR.same B u v r) hz);have ez:Paired (RwR H3) (SL b d (k+1)) (zs++ws):=by rw[SL];exact a7
     refine⟨D,D2,zs,ws,rfl,rfl,B _ _ j,G,?_,λq2 L=>⟨by lia,q2,_,_,_,((s1.trans X).trans B).trans (Same.new L),ae,aq (λu v r=>RwR.same (Same.new L) u v r) ez,rfl⟩⟩;have:=Paired.length ez;rw[length_append]at this;lia
  .rintro σ H1 ⟨_,l,F,x3,x4,s1,hl,hy,rfl⟩
   rw[Int.toNat_natCast]at hy;have a8:=o9 hf (Nat.le_refl b) hm ac;have Y:(SL b d b).length=F.length:=Paired.length hy;have nd:=Tb.SL_nd hf (Nat.le_refl b);refine⟨l,F,SL b d b,rfl,SqL.of hl,by lia,uq hy,nd,λq2 o Z hs L=>?_⟩;have a4:∀ i∈o,i<(SL b d b).length:=λi hi=>by have:=mem_range.mp (Z.mem_iff.mp hi);lia
   have eg:((SL b d b).map λx=>((x,(0:Rat)):List Int×Rat)).map (·.1)=SL b d b:=by rw[map_map];exact map_id _
   have tb:=Tb.tab_of (g:=(SL b d b).map λx=>(x,0)) (o:=o) (by unfold Tb.NdR;rw[eg];exact nd) (by rw[length_map,Y];exact Z) (by rw[eg];exact hs)
   have eo:(o.map λi=>((SL b d b).map λx=>((x,(0:Rat)):List Int×Rat)).getD i ([],0)).map (·.1)=o.map λi=>(SL b d b).getD i []:=by
    rw[map_map];refine map_congr_left λi hi=>?_
    have:=a4 i hi;simp[List.getD,this]
   have pm:=tb.1.map (·.1);rw[eo,eg]at pm;have up:=tb.2;rw[eo]at up;refine q _ q2 (o.map λi=>(SL b d b).getD i []) _ (s1.trans (Same.new L)) ae (aq (λu v r=>RwR.same (Same.new L) u v r) (mG hy [] .non a4)) up (λx=>?_) ?_
   .rw[pm.mem_iff,Tb.su_iff (Nat.le_refl b) hf x]
    exact⟨λh=>⟨h.up,h.lt,by have:=h.le;have:=h.en;lia⟩,λh=>⟨h.up,h.lt,by have:=h.len;lia,by have:=h.len;lia⟩⟩
   .rw[length_map]
    have:=Z.length_eq;rw[length_range]at this;lia
end
open Tb (Tr stm stP Hd SL ch rng tS)
def abc:Str := "abcdefghijklmnopqrstuvwxyz"
def sg(i:Int):Str:=⟨#[97+i.toNat]⟩
theorem xB:∀ k:Nat,k<24->atI abc.cps.toList (0+(k:Int))=some (97+k):=by decide +kernel
theorem zC:∀ k:Nat,k<24->nmK (.s (sg (k:Int)))=true:=by decide +kernel
theorem zW:∀ k:Nat,k<24->(match Builtin.Str.occurrences abc (sg (k:Int)) 0 abc.length 1 with | i::_=>decide (i=k) | []=>false)=true:=by decide +kernel
def Wp(most:Nat)(ths:List Int)(k:Nat):List Int:=fin (rng (min k most)) most (ths.take (k - most))
inductive spBy(K:Frag)(vs:List V)(H:Hp)(Q:VK)(_E:XK):Prop
 | mk(l:Addr)(ths:List Int)(many most:Nat)(h0:vs=[.int (many:Nat),.int (most:Nat),.ref l])(h1:many<=24)(h2:1<=most)(h3:most<=24)(h4:H l=some (.lst (ths.map V.int)))(h5:Thw most many ths)(h6:∀ H' p,Same H H'->H' p=some (.tup ((Tb.so (fin (rng (min many most)) most ths)).map V.int))->Q (.ref p) H'):spBy K vs H Q _E
theorem wW(most:Nat)(a:List Int):Wp most a 0=[]:=by
 unfold Wp;rw[show 0 - most=0 by lia,Nat.zero_min];rfl
theorem AO{most:Nat}{a:List Int}{k:Nat}(h:k<most):Wp most a (k+1)=Wp most a k++[(k:Int)]:=by
 unfold Wp;rw[show k - most=0 by lia,show k+1 - most=0 by lia,show min k most=k by lia,show min (k+1) most=k+1 by lia,take_zero,fin,fin];unfold rng;rw[List.range_succ,map_append];rfl
theorem Av{most:Nat}{a:List Int}{k:Nat}{t:Int}(h:most<=k)(b:a[k - most]? = some t):Wp most a (k+1)=hx (Wp most a k) k t:=by
 unfold Wp;have c:=(List.getElem?_eq_some_iff.mp b).1;rw[show k+1 - most=k - most+1 by lia,show min k most=most by lia,show min (k+1) most=most by lia,take_add_one,b];show fin (rng most) most (a.take (k - most)++[t])=_;rw[gE,length_take,show most+min (k - most) a.length=k by lia]
theorem jn{most:Nat}{a:List Int}{k:Nat}:(Wp most a k).length=min k most:=by
 unfold Wp;rw[lJ,Tb.rng_len]
theorem ue{most many:Nat}{a:List Int}(h:a.length=many - most):Wp most a many=fin (rng (min many most)) most a:=by
 unfold Wp;rw[<- h,take_length]
theorem yR{most many:Nat}{a:List Int}(h:a.length=many - most){x:Int}(b:x∈Wp most a many):0<=x/\x<(many:Int):=by
 rw[ue h]at b
 by_cases c:many<=most
 .have e:a=[]:=List.eq_nil_of_length_eq_zero (by lia)
  subst e;rw[fin,show min many most=many by lia]at b;exact(Tb.rng_hd many).lt x b
 .rw[show min many most=most by lia]at b
  have:=(lc a (Tb.rng_hd most)).lt x b;lia
theorem si{H:Hp}{x dx:Addr}{C:Addr}(a:H x=none)(d:H dx=none):Same H (upd (upd H dx (.own x)) x (.ins C dx [])):=λb o e=>by
 have c:b≠x:=λz=>by rw[z,a]at e;cases e
 have f:b≠dx:=λz=>by rw[z,d]at e;cases e
 rw[ag c,ag f];exact e
section
variable {P:Program}{w:World}{K:Frag}{mg:Str->Option Value}{base:Heap}{a:Ad}
theorem fY{k:Nat}{f:Addr}{a:FuncData}{ps:List Str}{sp:Sp}(F:FnOk P w K mg base (CXG P w) k f a ps sp):FnOk P w K mg base CX0 k f a ps (λvs H Q _=>sp vs H Q λ_ _ _=>False) :=
 ⟨λvs H Q E h=>F.len vs H Q _ h,λA outer s H args us vs Q E hr e0 hb hv hs=>codeAny_mono (F.run A outer s H args us vs Q _ hr e0 hb hv hs) λr s' hq=>by
  cases r with
  | error e=>obtain⟨_,_,_,_,_,_,_,z⟩:=hq;exact z
  | ok fl=>cases fl <;> exact hq⟩
theorem Am(T:Txt K mg a):FnOk P w K mg base CX0 6 a.f_J a.d_J ["_law_many","_law_most","_law_throws_here"] (spBy K):=by
 have as:FnOk P w K mg base CX0 4 _ _ _ _:=(yU T).mono (by decide);have W:FnOk P w K mg base CX0 5 _ _ _ _:=(fY (wQ T)).mono (by decide);have an:FnOk P w K mg base CX0 5 _ _ _ _:=(sI T).mono (by decide);refine T.F_J.ok sc_J (λvs H Q E h=>?_) (λcdv A outer s H vs Q E hr h=>?_)
 .obtain⟨l,f,g,d,rfl,_⟩:=h;rfl
 .obtain⟨l,f,g,d,rfl,a6,m1,a8,hl,G,q⟩:=h
  have B:sizeLine=16777216:=sizeLine_eq;refine⟨_,(ai (ay (i:=3) sc_J.nd rfl (Or.inl rfl) (lC T.mk_l as hr rfl T.mc_l T.Bi_l .nil ar (aa (vr 1) af))) (ai (ay (i:=4) sc_J.nd rfl (Or.inr rfl) o7) (ai (ay (i:=5) sc_J.nd rfl (Or.inl rfl) am) (ai (cY PassesOwn.never rfl (d5 rfl T.z_range (aa (vr 0) af)) (au (i:=6) sc_J.nd rfl (Or.inl rfl)) (ak (bY (cJ nR (vr 6) (vr 1) (bv _)) (ak (eO (iM (vr 3) T.cl_l T.mt_I W hr T.Bd_Pot_come (.cons T.Rv_Pot_come .nil) ar (aa (dA cI (vr 4) (vr 6) (λ_ _=>rfl)) af)))) (ai (eO (iM (vr 3) T.cl_l T.mt_I W hr T.B_I .nil ar (aa (dA cI (vr 4) (vr 6) (λ_ _=>rfl)) (aa (dA cI (vr 2) (vr 5) (λ_ _=>rfl)) af)))) (ak (ay (i:=5) sc_J.nd rfl (Or.inl rfl) (av cH (vr 5) am))))))) (ak (aw (dH fK rfl T.z_tuple mR (aa (aC fN rfl T.z_sorted fB (aa (cz rfl (N:=["_law_thing","_law_signs"]) (ix:=[none,some 4]) ⟨rfl,rfl,rfl,rfl,⟨rfl,rfl,rfl,trivial⟩⟩ (bJ (aF (vr 3) T.cl_l T.mt_E an hr T.B_E .nil ar)) ⟨λC s H fp=>au (i:=0) (show List.Nodup (["_law_thing","_law_signs"]:List Str) by decide +kernel) rfl (Or.inl rfl),λC s H fp=>b7,λC s H fp=>(pe_m.indexSK (K:=K) rfl (vr 1) (aa (vr 0) af))⟩) af)) af)))))))),pH ?_⟩;intro a9 a5 bg a4;intro x dx fx al ba;have s3:=si (C:=a.c_l) fx al;refine⟨x,dx,d,rfl,ae,by lia,by lia,λH3 h a2 fh X=>⟨rfl,?_⟩⟩;have s4:Same H H3:=λb o e=>a2 b o (λz=>by rw[z,fx]at e;cases e) (s3 b o e)
  refine⟨_,rfl,by lia,by lia,?_⟩
  let Pw1:PvS:=λk σ L=>(k<=g)/\Same H L/\∃(h:Addr) (x6:Option V),PotAt a L x h (d:Nat) (k:Nat) ((Wp d f k).map sg)/\σ=[some (.int (g:Nat)),some (.int (d:Nat)),some (.ref l),some (.ref x),some (.str abc),some (.int ((k - d:Nat):Int)),x6]
  refine fw (lo:=0) (n:=(g:Int).toNat) Pw1 ⟨Nat.zero_le _,s4,h,none,by rw[wW];exact X,by rw[Nat.zero_sub];rfl⟩ ?_ ?_
  .rintro k σ H1 hk ⟨bb,s1,h1,x6,p,rfl⟩
   have bc:k<g:=by lia
   have M:k<24:=by lia
   have ab:Okp (d:Nat) (k:Nat) ((Wp d f k).map sg):=⟨by lia,by lia,by lia,by lia,by rw[length_map,jn];split <;> lia⟩
   obtain⟨dy,I⟩:=p.at_;have nm:=zC k M;refine ifC (λc=>?_) λc=>?_
   .have c':k<d:=by have z:(0+(k:Int))<(d:Int):=c;lia
    refine⟨x,dy,_,rfl,I,rfl,.inr (.inr ⟨abc,_,_,rfl,rfl,by rw[B];decide +kernel,xB k M,?_⟩)⟩;refine⟨x,h1,_,_,_,_,_,.s (sg k),.i 0,rfl,p,ab,.str (sg k) (show(1:Nat)<=100 by decide) (λc hc=>by obtain rfl:c=97+k:=(mem_singleton.mp hc);lia),.int 0,(λe=>by rw[nm]at e;cases e),(λ_ e=>by lia),λ_ _ e=>?_,λ_ _ _ H2 h2 sb pot2 _=>?_⟩
    .have:inK 0 (sides (d:Nat) (k:Nat) - 1) (.i 0)=true:=by unfold sides;rw[if_pos (by lia)];rfl
     rw[this]at e;cases e
    .refine⟨by lia,λb o e=>sb b o (λz=>by rw[z,fx]at e;cases e) (s1 b o e),h2,_,?_,by rw[show k+1 - d=k - d by lia];rfl⟩
     have e:nxt (d:Nat) ((Wp d f k).map sg) (txK (.s (sg k))) (inI (.i 0))=(Wp d f (k+1)).map sg:=by
      show gK (d:Int) ((Wp d f k).map sg) (sg (k:Int)) 0=_;rw[iK,AO c'];unfold gK;rw[if_pos (by rw[jn];lia)]
     rw[e]at pot2;exact pot2
   .have c':d<=k:=by have z:¬(0+(k:Int))<(d:Int):=c;lia
    have a0:k - d<f.length:=by rw[G.1];lia
    have ht:f[k - d]? = some f[k - d]:=List.getElem?_eq_getElem a0;generalize f[k - d]=t at ht;obtain⟨t0,t1⟩:=G.2 _ _ ht;refine⟨x,dy,_,rfl,I,rfl,.inr (.inr ⟨abc,_,_,rfl,rfl,by rw[B];decide +kernel,xB k M,?_⟩)⟩;refine .inl ⟨l,_,_,.int t,rfl,rfl,SqL.of (s1 _ _ hl),aT (by rw[List.getElem?_map,ht];rfl),?_⟩;refine⟨x,h1,_,_,_,_,_,.s (sg k),.i t,rfl,p,ab,.str (sg k) (show(1:Nat)<=100 by decide) (λc hc=>by obtain rfl:c=97+k:=(mem_singleton.mp hc);lia),.int t,(λe=>by rw[nm]at e;cases e),(λ_ e=>by lia),λ_ _ e=>?_,λ_ _ _ H2 h2 sb pot2 _=>?_⟩
    .have:inK 0 (sides (d:Nat) (k:Nat) - 1) (.i t)=true:=by unfold sides;rw[if_neg (by lia)];exact decide_eq_true ⟨t0,by lia⟩
     rw[this]at e;cases e
    .refine⟨by lia,λb o e=>sb b o (λz=>by rw[z,fx]at e;cases e) (s1 b o e),h2,some (.int (0+(k:Int))),?_,?_⟩
     .have e:nxt (d:Nat) ((Wp d f k).map sg) (txK (.s (sg k))) (inI (.i t))=(Wp d f (k+1)).map sg:=by
       show gK (d:Int) ((Wp d f k).map sg) (sg (k:Int)) t=_;rw[iK,Av c' ht];unfold hx;rw[jn,show min k d=d by lia]
      rw[e]at pot2;exact pot2
     .rw[show((k+1 - d:Nat):Int)=((k - d:Nat):Int)+1 by lia]
      rfl
  .rintro σ H1 ⟨_,s1,h1,x6,p,rfl⟩
   rw[Int.toNat_natCast]at p;obtain⟨dy,I⟩:=p.at_;refine⟨x,dy,_,rfl,I,rfl,⟨x,h1,_,_,_,rfl,p,λH2 r s2 fr Z=>?_⟩⟩;refine .inl ⟨⟨_,SqL.of Z⟩,λD hD=>?_⟩
   let Pw2:PvL:=λi zs L=>(i<=(Wp d f g).length)/\Same H2 L/\L D=some (.lst zs)/\zs=((Wp d f g).take i).map V.int
   refine bu (K:=K) (a:=r) (xs:=((Wp d f g).map sg).map V.str) Pw2 ⟨Nat.zero_le _,Same.new hD,ae,rfl⟩ (λi ys L h=>SqL.of (h.2.1 _ _ Z)) (λi ys L h=>h.2.2.1) ?_ ?_
   .rintro i y zs L P' u ⟨hi,R,F,rfl⟩ hP
    rw[List.getElem?_map,List.getElem?_map]at u;cases hw:(Wp d f g)[i]? with
    | none=>rw[hw]at u;cases u
    | some v =>
     rw[hw]at u;cases u;obtain⟨v0,v1⟩:=yR G.1 (List.mem_of_getElem? hw)
     obtain⟨n,rfl⟩:∃ n:Nat,v=(n:Int):=⟨v.toNat,by lia⟩
     have ix:=zW n (by lia);have a1:i<(Wp d f g).length:=(List.getElem?_eq_some_iff.mp hw).1;refine⟨⟨rfl,trivial⟩,?_⟩;cases eo:Builtin.Str.occurrences abc (sg (n:Int)) 0 abc.length 1 with
     | nil=>rw[eo]at ix;cases ix
     | cons j rest =>
      rw[eo]at ix;obtain rfl:j=n:=of_decide_eq_true ix;have wl:(Wp d f g).length<=24:=by rw[jn];lia
      refine⟨rfl,_,rest,eo,F,by rw[length_map,length_take];lia,hP _ _ ⟨a1,R.put hD,ae,?_⟩⟩;rw[take_add_one,hw];simp
   .rintro zs a7 ⟨_,R,F,rfl⟩
    rw[length_map,length_map,take_length]at F;refine⟨D,_,rfl,.inl (SqL.of F),?_,λq2 a' hp hs ac=>?_⟩
    .rw[jn];lia
    .refine⟨q2,_,rfl,.inl ⟨SqL.of ae,λp2 a3=>?_⟩⟩
     have Y:=Tb.so_uniq hp hs;rw[ue G.1]at Y;refine q _ p2 (((s1.trans s2).trans R).trans ((Same.new ac).trans (Same.new a3))) ?_;rw[ae,Y]
end
open Tb (Tr stm stP Hd SL ch rng tS Rws)
theorem wX{K:Frag}{H:Hp}{p:Addr}{t b:Int}(h:SqT K H p [.int t,.int b]):DV K H (.tuple [.int t,.int b]) (.ref p):=by
 rw[DV];refine⟨p,_,rfl,h,?_⟩;rw[DVs];refine⟨_,_,rfl,by simp[DV],?_⟩;rw[DVs];exact⟨_,_,rfl,by simp[DV],by simp[DVs]⟩
def wT(x:List Int):PyData:=.tuple (x.map PyData.int)
theorem i3{K:Frag}{H:Hp}:∀ x:List Int,DVs K H (x.map PyData.int) (x.map V.int)
 | []=>by simp[DVs]
 | i::x=>by
  rw[map_cons,map_cons,DVs];exact⟨_,_,rfl,by simp[DV],i3 x⟩
theorem oe{K:Frag}{H:Hp}{p:Addr}{x:List Int}(h:H p=some (.tup (x.map V.int))):DV K H (wT x) (.ref p):=by
 unfold wT;rw[DV];exact⟨p,_,rfl,SqT.of h,i3 x⟩
def frD(q:Rat):PyData:=.tuple [.int q.num,.int q.den]
def xh(x:List Int×Rat):PyData:=.tuple [wT x.1,frD x.2]
theorem xw{K:Frag}{H:Hp}{q:Rat}{z:V}(h:IsQ K H q z):DV K H (frD q) z:=by
 obtain⟨p,rfl,a⟩:=h;exact wX a.sq
theorem sO{K:Frag}{H:Hp}{x:List Int×Rat}{y:V}(h:RowR K H x y):DV K H (xh x) y:=by
 obtain⟨p,d,z,rfl,b,a,c⟩:=h;unfold xh;rw[DV];refine⟨p,_,rfl,SqT.of b,?_⟩;rw[DVs];refine⟨_,_,rfl,oe a,?_⟩;rw[DVs];exact⟨_,_,rfl,xw c,by simp[DVs]⟩
theorem lV{K:Frag}{H:Hp}{b:Type}{r:b->V->Prop}{f:b->PyData}(h:∀ a y,r a y->DV K H (f a) y){c:List b}{d:List V}(p:Paired r c d):DVs K H (c.map f) d:=by
 induction p with
 | nil=>simp[DVs]
 | cons x _ ih=>rw[map_cons,DVs];exact⟨_,_,rfl,h _ _ x,ih⟩
theorem gy{K:Frag}{H:Hp}{l:Addr}{ds:List PyData}{a:List V}(h:H l=some (.lst a))(d:DVs K H ds a):DV K H (.list ds) (.ref l):=by
 rw[DV];exact⟨l,_,rfl,SqL.of h,d⟩
def Ly(n:Nat)(d:PyData):Prop:=PyData.canLay0 d=true/\PyData.depth d<=n
theorem oC{n:Nat}:∀{ds:List PyData},(∀ d∈ds,Ly n d)->PyData.canLayAll0 ds=true/\PyData.depthAll ds<=n
 | [],_=>by simp[PyData.canLayAll0,PyData.depthAll]
 | d::ds,h=>by
  obtain⟨a,f⟩:=oC λx hx=>h x (mem_cons_of_mem _ hx)
  obtain⟨b,c⟩:=h d mem_cons_self;rw[PyData.canLayAll0,PyData.depthAll,a,b];exact⟨rfl,by lia⟩
theorem kU{n:Nat}{ds:List PyData}(h:∀ d∈ds,Ly n d):Ly (n+1) (.tuple ds):=by
 obtain⟨a,b⟩:=oC h;refine⟨by rw[PyData.canLay0,a],?_⟩;simp only[PyData.depth];lia
theorem fE{n:Nat}{ds:List PyData}(h:∀ d∈ds,Ly n d):Ly (n+1) (.list ds):=by
 obtain⟨a,b⟩:=oC h;refine⟨by rw[PyData.canLay0,a],?_⟩;simp only[PyData.depth];lia
theorem pi(i:Int):Ly 1 (.int i):=⟨by simp[PyData.canLay0],by simp[PyData.depth]⟩
theorem eF{n:Nat}{d:PyData}(h:Ly n d)(a:n<=5):SeqAt.shaped d=true:=by
 unfold SeqAt.shaped;rw[h.1,Bool.true_and];exact decide_eq_true (by have:=h.2;lia)
theorem fT(x:List Int):∀ d∈x.map PyData.int,Ly 1 d:=λd a=>by
 obtain⟨i,_,rfl⟩:=mem_map.mp a;exact pi i
theorem xy(q:Rat):Ly 2 (frD q):=kU (n:=1) λd hd=>by
 rcases mem_cons.mp hd with rfl | hd
 .exact pi _
 .rw[mem_singleton.mp hd];exact pi _
theorem yh(x:List Int×Rat):Ly 3 (xh x):=kU (n:=2) λd hd=>by
 rcases mem_cons.mp hd with rfl | hd
 .exact kU (fT x.1)
 .rw[mem_singleton.mp hd];exact xy _
def xx(R:Rws):PyData:=.list (R.map xh)
theorem v9(R:Rws):Ly 4 (xx R):=fE λd a=>by
 obtain⟨x,_,rfl⟩:=mem_map.mp a;exact yh x
theorem iu{K:Frag}{H:Hp}{x y:V}{d:PyData}{n:Nat}{Q:VK}(b:DV K H d x)(h2:DV K H d y)(h:Ly n d)(a:n<=5)(q:Q (.bl false) H):rEqD K true x y H Q:=by
 refine⟨d,d,b,h2,eF h a,eF h a,?_⟩;rw[SeqAt.eqv_refl _ (SeqAt.canLay_of_shaped (eF h a))];exact q
theorem nY:∀ l m:List Int,PyData.eqvAll (l.map PyData.int) (m.map PyData.int)=decide (l=m)
 | [],[]=>rfl
 | [],_::_=>rfl
 | _::_,[]=>rfl
 | x::l,y::m=>by
  rw[map_cons,map_cons,PyData.eqvAll,nY l m,Bool.eq_iff_iff];simp[PyData.eqv]
theorem xY(x:List Int):Ly 2 (wT x):=kU (fT x)
theorem sB(l m:List Int):PyData.eqv (.list (l.map PyData.int)) (.list (m.map PyData.int))=decide (l=m):=by rw[PyData.eqv,nY]
theorem qV{K:Frag}{H:Hp}{p:Addr}{x:List Int}(h:H p=some (.lst (x.map V.int))):DV K H (.list (x.map PyData.int)) (.ref p):=gy h (i3 x)
theorem xO{K:Frag}{H:Hp}{p q:Addr}{l m:List Int}{Q:VK}(a:H p=some (.lst (l.map V.int)))(h2:H q=some (.lst (m.map V.int)))(c:∀ b:Bool,b=decide (l=m)->Q (.bl b) H):rEqD K false (.ref p) (.ref q) H Q:=by
 refine⟨_,_,qV a,qV h2,eF (fE (fT l)) (by decide),eF (fE (fT m)) (by decide),c _ ?_⟩;simp only[Bool.false_eq_true,if_false];exact sB l m
theorem qM{many most:Nat}:stm (many - min many most) (rng (min many most)) most=tS (min many most) (many - min many most):=by
 unfold tS
 by_cases c:many<=most
 .rw[show many - min many most=0 by lia];rfl
 .rw[show min many most=most by lia]
theorem iB{many most:Nat}:Hd (rng (min many most)) most:=by
 have h:=Tb.rng_hd (min many most);exact⟨h.nd,λx a=>by have:=h.lt x a;lia,by rw[Tb.rng_len];lia⟩
theorem vh(xs:List V):dJ xs none (some (-1))=xs.take (xs.length - 1):=by
 unfold dJ;rw[HT.sIx_none,drop_zero,Nat.sub_zero];show xs.take (if (-1:Int)<0 then (-1+(xs.length:Int)).toNat else min (-1:Int).toNat xs.length)=_;rw[if_pos (by decide),show(-1+(xs.length:Int)).toNat=xs.length - 1 by lia]
theorem neE{x y:Int}{H:Hp}{Q:VK}(e:x=y)(q:Q (.bl false) H):tU true (.int x) (.int y) H Q:=by
 subst e;show Q (.bl (!decide (x=x))) H;rw[decide_eq_true rfl];exact q
theorem eqE{x y:Int}{H:Hp}{Q:VK}(e:x=y)(q:Q (.bl true) H):tU false (.int x) (.int y) H Q:=by
 subst e;show Q (.bl (decide (x=x))) H;rw[decide_eq_true rfl];exact q
inductive spPlc(a:Ad)(vs:List V)(H:Hp)(Q:VK)(_E:XK):Prop
 | mk(v:V)(l:Addr)(held:List Int)(n s:Nat)(ths:List Int)(h0:vs=[v,.ref l])(h1:IsNd a H v (stm s held n))(h2:H l=some (.lst (ths.map V.int)))(h3:Hd held n)(h4:(∀(i:Nat) t,ths[i]? = some t->i<s->0<=t/\t<(n:Int)+i+1))(h5:(∀ t∈ths,0<=t))(h6:ths.length<=100)(h7:TabsOk (tabs a) H)(h8:ths.length≠s)(h9:∀ H',SameT H H'->TabsOk (tabs a) H'->Q (.int (min ths.length s:Nat)) H'):spPlc a vs H Q _E
inductive spDrw(a:Ad)(vs:List V)(H:Hp)(Q:VK)(_E:XK):Prop
 | mk(c:Int)(d:Bool)(many most:Nat)(h0:vs=[.int c,.bl d,.int (many:Nat),.int (most:Nat)])(h1:many<=24)(h2:1<=most)(h3:most<=24)(h4:TabsOk (tabs a) H)(h5:∀ H',SameT H H'->TabsOk (tabs a) H'->Q (.bl true) H'):spDrw a vs H Q _E
section
variable {P:Program}{w:World}{K:Frag}{mg:Str->Option Value}{base:Heap}{a:Ad}
theorem vp(T:Txt K mg a)(N:Bm mg base):FnOk P w K mg base CX0 14 a.f_N a.d_N ["_law_node","_law_throws_here"] (spPlc a):=by
 have k:FnOk P w K mg base (CXG P w) 13 _ _ _ (Ah a):=mv T N;refine T.F_N.ok sc_N (λM H Q E h=>?_) (λcdv A outer s H M Q E hr h=>?_)
 .obtain⟨v,l,d,n,s,b,rfl,_⟩:=h;rfl
 .obtain⟨v,l,d,n,g,b,rfl,C,R,B,L,D,f,I,r,q⟩:=h
  have u:sizeLine=16777216:=sizeLine_eq;refine⟨_,(ai (ay (i:=2) sc_N.nd rfl (Or.inl rfl) kZ) (ai (kL ⟨rfl,rfl⟩ (iS (gq (iC k hr rfl T.m_W T.F_W.kp T.B_W .nil (aa (vr 0) (aa (vr 1) af))))) (Aw ⟨rfl,rfl⟩ rfl T.mc_a T.xh_a sc_N.nd (ie:=3) rfl rfl (λx=>(ak (ay (i:=2) sc_N.nd rfl (Or.inl rfl) (vk (K:=K) rfl (vr 3))))) oq)) (ak (aw (vr 2))))),d9 ?_⟩;intro W G;refine⟨v,l,d,n,g,b,rfl,C,R,B,L,D,f,I,(λe=>absurd e r),λc H' dx t1 hT1 hdx=>?_,λc H' dx t1 hT1 hdx=>?_⟩
  all_goals
   refine⟨_,rfl,λx F=>.inl ⟨T.tw3,?_⟩⟩;have y:Same H' (upd H' x (.ext (XCt x a.c_a (some dx)))):=Same.new F;obtain⟨p,o⟩:=T.sx_NoThrow_place;refine⟨x,_,p,dx,_,_,_,rfl,o,T.xc_a,ae,λ_ z=>z,y _ _ hdx,rfl,?_⟩;have j:=q _ (t1.trans y.t) (hT1.same y)
  .rw[show min b.length g=b.length by lia]at j
   exact j
  .rw[show min b.length g=g by lia]at j
   exact j
theorem ss(T:Txt K mg a)(hB:Bm mg base):FnOk P w K mg base CX0 15 a.f_O a.d_O ["_law_cell","_law_digits","_law_many","_law_most"] (spDrw a):=by
 have L:FnOk P w K mg base CX0 14 _ _ _ _:=(fY (mv T hB)).mono (by decide);have ab:FnOk P w K mg base CX0 14 _ _ _ _:=(fY (dl T hB)).mono (by decide);have Y:FnOk P w K mg base CX0 14 _ _ _ _:=(j6 T).mono (by decide);have ac:FnOk P w K mg base CX0 14 _ _ _ _:=(Am T).mono (by decide);have C:FnOk P w K mg base CX0 14 _ _ _ (spPlc a):=vp T hB;refine T.F_O.ok sc_O (λvs H Q E h=>?_) (λcdv A outer s H vs Q E hr h=>?_)
 .obtain⟨c,d,f,g,rfl,_⟩:=h;rfl
 .obtain⟨c,d,f,g,rfl,D,m1,F,hT,q⟩:=h
  have v:sizeLine=16777216:=sizeLine_eq;refine⟨_,(ai (ay (i:=4) sc_O.nd rfl (Or.inl rfl) (ap ab hr rfl T.m_p T.F_p.kp T.B_p .nil ar (aa (vr 2) (aa (vr 3) af)))) (ai (ay (i:=5) sc_O.nd rfl (Or.inl rfl) (ap Y hr rfl T.m_Q T.F_Q.kp T.B_Q .nil ar (aa (vr 0) (aa (vr 1) (aa (vr 2) (aa (vr 3) af)))))) (ai (ay (i:=6) sc_O.nd rfl (Or.inl rfl) (ap ac hr rfl T.m_J T.F_J.kp T.B_J .nil ar (aa (vr 2) (aa (vr 3) (aa (vr 5) af))))) (ai (bY (PW.pt (qN (cJ (qe hr.units) (ap L hr rfl T.m_W T.F_W.kp T.B_W .nil ar (aa (vr 4) (aa (vr 5) af))) (vr 6) (bv _)) (lM (cJ zP (ap C hr rfl T.m_N T.F_N.kp T.B_N .nil ar (aa (vr 4) (aa (av fe (vr 5) (bI (aa am af))) af))) (aC ce rfl T.z_len dN (aa (vr 5) af)) (bv _))))) (ak (aw dq)) aU) (ak (aw (Al (fu (xL hr.units) (vr 5) (bI af) (bv _)) (gX (fu y7 (ap C hr rfl T.m_N T.F_N.kp T.B_N .nil ar (aa (vr 4) (aa (gg iE (vr 5) kF (gt (me ng am))) af))) (av fJ (aC ce rfl T.z_len dN (aa (vr 5) af)) am) (bv _)))))))))),pH ?_⟩;intro ba a9 bb a8;refine⟨_,_,.i f,.i g,rfl,.int _,.int _,hT,λm' a0 e1 e2 a5 a' a6 H1 x t1 a3 hN=>?_,λz=>?_⟩
  .obtain rfl:f=m':=by have:=Kd.i.inj e1;lia
   obtain rfl:g=a0:=by have:=Kd.i.inj e2;lia
   refine⟨c,d,f,g,rfl,D,F,λH2 l j Z fl hl k=>?_⟩;refine⟨l,j,f,g,rfl,D,m1,F,hl,k,λH3 p I hp=>?_⟩;have a7:j.length=f - min f g:=by have:=k.1;lia
   have y:IsNd a H3 x (stm (f - min f g) (rng (min f g)) g):=by rw[qM];exact hN.t (Z.t.trans I.t)
   have n:=I _ _ hl;have N:=a3.same (Z.trans I);have R:∀ t∈j,0<=t:=λt ht=>by obtain⟨i,X⟩:=List.getElem?_of_mem ht;exact(k.2 i t X).1
   have t3:=t1.trans (Z.t.trans I.t);refine⟨x,l,rng (min f g),g,f - min f g,j,rfl,y,n,iB,(λi t ht _=>k.2 i t ht),R,by lia,N,λ_ H4 kt t4 hT4 hkt=>?_,(λz=>by lia),λz=>by lia⟩;refine iu (oe hkt) (oe (t4.at hp)) (xY _) (by decide) ?_;refine⟨by rw[v];exact show(1:Nat)<=_ by decide,λr5 M=>?_⟩;have s5:=Same.new (o:=.lst [V.int 0]) M;refine⟨l,r5,_,_,rfl,rfl,s5 _ _ (t4.at n),ae,by rw[length_map];show j.length+1<=_;lia,λp6 an=>?_⟩;have s6:=s5.trans (Same.new (o:=.lst (j.map V.int++[V.int 0])) an);have t6:=t4.trans s6.t;refine⟨x,p6,rng (min f g),g,f - min f g,j++[0],rfl,y.t t6,by rw[ae,map_append];rfl,iB,(λi t ht X=>?_),(λt ht=>?_),by rw[length_append];show j.length+1<=_;lia,hT4.same s6,by rw[length_append];show j.length+1≠_;lia,λH7 t7 hT7=>?_⟩
   .rw[List.getElem?_append_left (by lia)]at ht
    exact k.2 i t ht
   .rcases mem_append.mp ht with ht | ht
    .exact R t ht
    .rw[mem_singleton.mp ht];exact Int.le_refl 0
   refine⟨_,.inl (SqL.of ((t6.trans t7).at n)),?_⟩;refine neE (by rw[length_append,length_map];show((min (j.length+1) (f - min f g):Nat):Int)=_;lia) ?_;refine⟨Nat.zero_le _,λr8 as=>?_⟩;have W:=Same.new (o:=.lst []) as;have B:=t6.trans (t7.trans W.t);have r:=hT7.same W;have u:=B.at n;refine xO (l:=j) (m:=[]) u ae λb eb=>?_
   generalize upd H7 r8 (.lst [])=H8 at W B r u
   by_cases c0:j=[]
   .obtain rfl:b=true:=by rw[eb];exact decide_eq_true c0
    exact q _ (t3.trans B) r
   .obtain rfl:b=false:=by rw[eb];exact decide_eq_false c0
    have a4:0<j.length:=List.length_pos_iff.mpr c0;refine⟨_,rfl,l,_,rfl,SqL.of u,λp9 al=>?_⟩;have G:=Same.new (o:=.lst (dJ (j.map V.int) none (some (-1)))) al;refine⟨x,p9,rng (min f g),g,f - min f g,j.take (j.length - 1),rfl,y.t (B.trans G.t),?_,iB,(λi t ht X=>?_),(λt ht=>R t (mem_of_mem_take ht)),by rw[length_take];lia,r.same G,by rw[length_take];lia,λH10 t10 hT10=>?_⟩
    .rw[ae]
     show some (HO.lst (dJ (j.map V.int) none (some (-1))))=_;rw[vh,length_map,map_take]
    .rw[List.getElem?_take]at ht
     split at ht
     .exact k.2 i t ht
     .cases ht
    refine⟨_,.inl (SqL.of ((B.trans (G.t.trans t10)).at n)),?_⟩;refine eqE (by rw[length_take,length_map];lia) ?_;exact q _ (t3.trans (B.trans (G.t.trans t10))) hT10
  .have a1:inK 0 24 (.i (f:Nat))=true:=decide_eq_true ⟨by lia,by lia⟩
   have a2:inK 1 24 (.i (g:Nat))=true:=decide_eq_true ⟨by lia,by lia⟩;rw[a1,a2]at z
   rcases z with z | z <;> cases z
end
open Tb (Tr stm stP Hd SL ch rng tS Rws)
theorem qg(s:Nat)(held:List Int)(n:Nat):(stP s held n).map (·.1)=List.replicate held.length 1++[(n:Int)+1 - (held.length:Int)]:=by
 unfold stP;rw[map_append,map_map,show((λx:Int×Tr=>x.1) ∘ λpl=>((1:Int),stm s (held.set pl (n:Int)) (n+1)))=λ_=>(1:Int) from rfl,map_const',length_range];rfl
theorem i8{a:Type}(x:a):∀ n:Nat,(List.replicate n [x]).flatten=List.replicate n x
 | 0=>rfl
 | n+1=>by rw[replicate_succ,flatten_cons,i8 x n,replicate_succ];rfl
structure TsOk(m s:Nat):Prop where
 dk:Tb.Dk s (tS m s)
 ok:Tb.Ok (tS m s)
 pos:0<Tb.Pn m s
 lm:Tb.Pn m s<=Tb.Lm2
 ch:∀ w∈Tb.wl (tS m s) 1 1,Tb.Ch ((Tb.Pn m s:Nat):Int) w.2
 lv:Tb.lv (tS m s)=(m+1) ^ s
theorem sK{m s:Nat}(h:m+s<=24):TsOk m s :=
 ⟨Tb.stm_dk s (Tb.rng_hd m) (by rw[Tb.rng_len];lia) h,Tb.stm_ok s (Tb.rng_hd m) (by rw[Tb.rng_len];lia),Tb.Pn_pos s m,Tb.Pn_lm h,Tb.stm_ch (by rw[Tb.rng_len];exact Nat.le_refl m),by unfold tS;rw[Tb.stm_lv,Tb.rng_len]⟩
theorem rF:∀ m:Nat,m<13->1<=m->4096<(m+1) ^ (24 - m):=by decide +kernel
inductive spPrt(a:Ad)(vs:List V)(H:Hp)(Q:VK)(_E:XK):Prop
 | mk(l:Addr)(ths:List Int)(many most:Nat)(h0:vs=[.ref l,.int (many:Nat),.int (most:Nat)])(h1:H l=some (.lst (ths.map V.int)))(h2:Thw most many ths)(h3:many<=24)(h4:1<=most)(h5:most<=24)(h6:TabsOk (tabs a) H)(h7:∀ H',SameT H H'->TabsOk (tabs a) H'->Q (.bl true) H'):spPrt a vs H Q _E
inductive spRfd(a:Ad)(vs:List V)(H:Hp)(Q:VK)(_E:XK):Prop
 | mk(i:Int)(v:V)(k:Kd)(h0:vs=[.int i,v])(h1:Thg H v k)(h2:(i=0->inK 0 24 k=false))(h3:(i≠0->inK 1 24 k=false))(h4:TabsOk (tabs a) H)(h5:∀ H',SameT H H'->TabsOk (tabs a) H'->Q (.bl true) H'):spRfd a vs H Q _E
inductive spTMy(a:Ad)(vs:List V)(H:Hp)(Q:VK)(_E:XK):Prop
 | mk(most:Nat)(h0:vs=[.int (most:Nat)])(h1:1<=most)(h2:most<=12)(h3:TabsOk (tabs a) H)(h4:∀ H',SameT H H'->TabsOk (tabs a) H'->Q (.bl true) H'):spTMy a vs H Q _E
section
variable {P:Program}{w:World}{K:Frag}{mg:Str->Option Value}{base:Heap}{a:Ad}
theorem uD(T:Txt K mg a)(hB:Bm mg base):FnOk P w K mg base CX0 14 a.f_T a.d_T ["_law_throws_here","_law_many","_law_most"] (spPrt a):=by
 have b3:FnOk P w K mg base CX0 13 _ _ _ _:=(fY (dl T hB)).mono (by decide);have bo:FnOk P w K mg base CX0 13 _ _ _ _:=(fY (xt T hB)).mono (by decide);have ab:FnOk P w K mg base CX0 13 _ _ _ _:=(sZ T).mono (by decide);have an:FnOk P w K mg base CX0 13 _ _ _ _:=(uF T).mono (by decide);have bm:FnOk P w K mg base CX0 13 _ _ _ _:=(uR T).mono (by decide);have b':FnOk P w K mg base CX0 13 _ _ _ _:=(sJ T).mono (by decide);have ac:FnOk P w K mg base CX0 13 _ _ _ _:=(xq T).mono (by decide);have a4:FnOk P w K mg base CX0 13 _ _ _ _:=(xD T hB).mono (by decide);refine T.F_T.ok sc_T (λvs H Q E h=>?_) (λcdv A outer s H vs Q E hr h=>?_)
 .obtain⟨l,c,many,most,rfl,_⟩:=h;rfl
 .obtain⟨l,c,many,most,rfl,hl,a9,ck,m1,cC,hT,q⟩:=h
  have v:sizeLine=16777216:=sizeLine_eq;refine⟨_,(ai (ay (i:=3) sc_T.nd rfl (Or.inl rfl) (ap b3 hr rfl T.m_p T.F_p.kp T.B_p .nil ar (aa (vr 1) (aa (vr 2) af)))) (ai (cY PassesOwn.never rfl (lZ rfl T.z_enumerate (aa (vr 0) af)) (eV rfl (az (au (i:=4) sc_T.nd rfl (Or.inl rfl)) (az (au (i:=5) sc_T.nd rfl (Or.inl rfl)) cu))) (ai (bY (cJ (qe hr.units) (cz rfl (N:=["_law_sides","_law_there"]) (ix:=[none,none]) ⟨rfl,rfl,rfl,rfl,trivial⟩ (bJ (PE.or (aF (vr 3) T.cl_g T.mt_w ac hr T.B_w .nil ar) (aF (vr 3) T.cl_j T.mt_z a4 hr T.B_z .nil ar))) ⟨λC s H fp=>(fm (K:=K) (n:=2) rfl rfl (az (au (i:=0) (show List.Nodup (["_law_sides","_law_there"]:List Str) by decide +kernel) rfl (Or.inl rfl)) (az (au (i:=1) (show List.Nodup (["_law_sides","_law_there"]:List Str) by decide +kernel) rfl (Or.inl rfl)) cu))),λC s H fp=>b7,λC s H fp=>(vr 0)⟩) (av fe (av zi (bI (aa am af)) (vr 2)) (bI (aa (av cH (vr 4) am) af))) (bv _)) (ak (aw dq)) aU) (ai (bY (PW.pt (qN (cJ zP (PE.or (aF (vr 3) T.cl_g T.mt_t bm hr T.B_t .nil ar) (aF (vr 3) T.cl_j T.mt_y b' hr T.B_y .nil ar)) (av cH (av cH (vr 2) (vr 4)) am) (bv _)) (lM (dC (PE.or (aF (vr 3) T.cl_g T.mt_i ab hr T.B_i .nil ar) (aF (vr 3) T.cl_j T.mt_m an hr T.B_m .nil ar)))))) (ak (aw dq)) aU) (ak (ay (i:=3) sc_T.nd rfl (Or.inl rfl) (iM (vr 3) T.cl_j T.mt_r bo hr T.B_r .nil ar (aa (vr 5) af))))))) (ak (aw (mI (PE.or (aF (vr 3) T.cl_g T.mt_i ab hr T.B_i .nil ar) (aF (vr 3) T.cl_j T.mt_m an hr T.B_m .nil ar)) (gX (fu (xL hr.units) (PE.or (aF (vr 3) T.cl_g T.mt_w ac hr T.B_w .nil ar) (aF (vr 3) T.cl_j T.mt_z a4 hr T.B_z .nil ar)) (bI af) (bv _)))))))),d9 ?_⟩;intro c0 cx;refine⟨_,_,.i many,.i most,rfl,.int _,.int _,hT,λm' b5 e1 e2 cc cy cg H1 x t1 b0 hN=>?_,λz=>?_⟩
  .obtain rfl:many=m':=by have:=Kd.i.inj e1;lia
   obtain rfl:most=b5:=by have:=Kd.i.inj e2;lia
   have a':c.length=many - min many most:=by have:=a9.1;lia
   rw[<- qM]at hN;have ba:=t1.at hl
   let Pw1:PvS:=λi σ k=>SameT H1 k/\TabsOk (tabs a) k/\∃(g:V) (x4 x5:Option V),σ=[some (.ref l),some (.int (many:Nat)),some (.int (most:Nat)),some g,x4,x5]/\i<=c.length/\IsNd a k g (stm (many - min many most - i) (fin (rng (min many most)) most (c.take i)) (most+i))
   refine⟨l,_,rfl,ba,i7 (a:=l) (xs:=c.map V.int) Pw1 ⟨SameT.refl,b0,x,none,none,rfl,Nat.zero_le _,hN⟩ (λi σ k h=>h.1.at ba) ?_ ?_⟩
   .rintro i y σ k p d ⟨t2,G,g,x4,x5,rfl,il,u⟩ hp
    rw[List.getElem?_map]at d
    obtain⟨th,hti,rfl⟩:∃ n,c[i]? = some n/\V.int n=y:=by
     cases e:c[i]? with
     | none=>rw[e]at d;cases d
     | some n=>rw[e]at d;cases d;exact⟨n,rfl,rfl⟩
    have ca:i<c.length:=(List.getElem?_eq_some_iff.mp hti).1;have tl:(c.take i).length=i:=by rw[length_take];lia
    have a8:=lc (c.take i) (iB (many:=many) (most:=most));rw[tl]at a8;have bl:fin (rng (min many most)) most (c.take (i+1))=hx (fin (rng (min many most)) most (c.take i)) (most+i) th:=by rw[take_add_one,hti];show fin (rng (min many most)) most (c.take i++[th])=_;rw[gE,tl]
    have a7:(fin (rng (min many most)) most (c.take i)).length=most:=by rw[lJ,Tb.rng_len];lia
    have s2:Same k (upd k p (.tup [.int (i:Nat),.int th])):=Same.new hp;refine⟨p,_,rfl,SqT.of ae,rfl,_,_,rfl,_,_,rfl,rfl,?_⟩;have R:=u.t s2.t;have a5:=G.same s2;have bg:=t2.trans s2.t;generalize upd k p (.tup [.int (i:Nat),.int th])=H2 at s2 R a5 bg
    obtain⟨k',hk'⟩:∃ k',many - min many most - i=k'+1:=⟨many - min many most - i - 1,by lia⟩
    rw[hk']at R;have B:IsNd a H2 g (.die (stP k' (fin (rng (min many most)) most (c.take i)) (most+i))):=R;obtain⟨x0,dx,l',ct,rfl,b6,_⟩:=id B;refine .inr ⟨x0,dx,_,rfl,b6,rfl,⟨_,_,[],rfl,(λb hb=>by cases hb),by rw[cO];exact B,a5,λH3 D zs t3 hT4 fD hD hPz=>?_⟩⟩;rw[cO]at hPz;refine .inl ⟨⟨_,SqL.of hD⟩,λD2 a6=>?_⟩;have Y:(stP k' (fin (rng (min many most)) most (c.take i)) (most+i)).length=zs.length:=Paired.length hPz
    have ci:zs.length<=25:=by
     rw[<- Y];have:=congrArg List.length (qg k' (fin (rng (min many most)) most (c.take i)) (most+i));rw[length_map,length_append,List.length_replicate,a7]at this;rw[this];show most+1<=25;lia
    let Pw2:PvL:=λj ws k=>Same H3 k/\k D2=some (.lst ws)/\(j<=zs.length)/\ws=(((stP k' (fin (rng (min many most)) most (c.take i)) (most+i)).take j).map (·.1)).map V.int
    refine bu (K:=K) (a:=D) (xs:=zs) Pw2 ⟨Same.new a6,ae,Nat.zero_le _,rfl⟩ (λj ys k h=>SqL.of (h.1 _ _ hD)) (λj ys k h=>h.2.1) ?_ ?_
    .rintro j y co cs P' hy ⟨s1,b1,hj,rfl⟩ bL
     obtain⟨⟨mm,tr⟩,bn,q1,u1,rfl,b4,_⟩:=aJ hPz hy;have b2:j<zs.length:=(List.getElem?_eq_some_iff.mp hy).1;refine⟨q1,_,rfl,SqT.of (s1 _ _ b4),rfl,_,_,rfl,_,_,rfl,rfl,trivial,b1,by rw[length_map,length_map,length_take];lia,bL _ _ ⟨s1.put a6,ae,b2,?_⟩⟩;rw[take_add_one,bn];simp
    .rintro ws H4 ⟨s4,a0,_,rfl⟩
     rw[<- Y,take_length,qg,a7]at a0;refine⟨by rw[v];exact show(1:Nat)<=_ by decide,λr5 bq=>?_⟩;have s5:=Same.new (o:=.lst [V.int 1]) bq;refine⟨r5,_,_,rfl,rfl,ae,by lia,by lia,by show 1*((most:Int)).toNat<=_;lia,λr6 bS=>?_⟩;have s6:=s5.trans (Same.new (o:=.lst (List.replicate ((most:Int)).toNat [V.int 1]).flatten) bS);refine⟨by rw[v];exact show(1:Nat)<=_ by decide,λr7 bc=>?_⟩;have s7:=s6.trans (Same.new (o:=.lst [V.int ((i:Int)+1)]) bc);refine⟨r6,r7,_,_,rfl,rfl,Same.new bc _ _ ae,ae,?_,λr8 bF=>?_⟩
     .rw[i8,List.length_replicate]
      show(most:Int).toNat+1<=_;lia
     have s8:=s7.trans (Same.new (o:=.lst ((List.replicate ((most:Int)).toNat [V.int 1]).flatten++[V.int ((i:Int)+1)])) bF)
     have e8:((List.replicate ((most:Int)).toNat [V.int 1]).flatten++[V.int ((i:Int)+1)])=(List.replicate most 1++[((most+i:Nat):Int)+1 - (most:Int)]).map V.int:=by
      rw[i8,Int.toNat_natCast,map_append,List.map_replicate,show((most+i:Nat):Int)+1 - (most:Int)=(i:Int)+1 by lia];rfl
     refine iu (qV (s8 _ _ a0)) (qV (by rw[ae,<- e8])) (fE (fT _)) (by decide) ?_;have t8:=t3.trans (s4.trans s8).t;have bb:=hT4.same (s4.trans s8);have Z:=B.t t8;generalize upd _ r8 _=H8 at s8 t8 bb Z;obtain⟨W,F,a3⟩:=kP Z;have et:oR W=((most+i:Nat):Int)+1:=(kH a3).trans (Tb.stP_tot _ _ _);obtain⟨_,L,l8,cj,ex,M,_⟩:=id F;cases ex;refine .inr ⟨x0,L,_,rfl,M,rfl,⟨_,W,rfl,F,λH9 X=>?_⟩⟩;refine ifB (λz=>?_) λ_=>?_
     .have z:(!decide (oR W=(most:Int)+(i:Int)+1))=true:=z
      rw[decide_eq_true (show oR W=(most:Int)+(i:Int)+1 by rw[et];lia)]at z;cases z
     refine .inr ⟨x0,L,_,rfl,X _ _ M,rfl,⟨_,rfl,?_⟩⟩;obtain⟨v0,v1⟩:=a9.2 i th hti;obtain⟨f,hf,br⟩:=jo a3 (qk a8.len v0 (by push_cast;lia));refine⟨x0,L,_,rfl,X _ _ M,rfl,_,W,f,th,rfl,F.t X.t,v0,by show th<oR W;lia,hf,λbt I=>?_⟩;have al:IsMk (untrs bt []) f (stm k' (hx (fin (rng (min many most)) most (c.take i)) (most+i) th) (most+i+1)):=by rw[cO];exact br.t (X.trans I).t
     refine lD al (λb hb=>by cases hb) (bb.same (X.trans I)) λH5 u5 t5 hT5 hu=>?_
     rw[cO]at hu;refine⟨((bg.trans t8).trans (X.trans I).t).trans t5,hT5,u5,_,_,rfl,ca,?_⟩;rw[bl,show many - min many most - (i+1)=k' by lia];exact hu
   .rintro σ k ⟨t2,G,g,x4,x5,rfl,_,u⟩
    rw[length_map]at u;rw[take_length,a',Nat.sub_self]at u;obtain⟨x,dx,tt,ms,rfl,d,cm,hs⟩:=kN u;refine .inl ⟨x,dx,_,rfl,d,rfl,_,rfl,?_⟩;refine .inl ⟨x,dx,_,rfl,d,rfl,_,rfl,λr fr=>?_⟩;refine⟨Nat.zero_le _,λr2 as=>?_⟩;have s3:=(Same.new (o:=.lst []) fr).trans (Same.new (o:=.lst []) as);refine xO (l:=[]) (m:=[]) (Same.new as _ _ ae) ae λb eb=>?_
    obtain rfl:b=true:=by rw[eb];rfl
    exact q _ (t1.trans (t2.trans s3.t)) (G.same s3)
  .have a1:inK 0 24 (.i (many:Nat))=true:=decide_eq_true ⟨by lia,by lia⟩
   have a2:inK 1 24 (.i (most:Nat))=true:=decide_eq_true ⟨by lia,by lia⟩;rw[a1,a2]at z
   rcases z with z | z <;> cases z
theorem pC(T:Txt K mg a)(R:Bm mg base):FnOk P w K mg base CX0 5 a.f_D a.d_D ["_law_way","_law_thing"] (spRfd a):=by
 have f:FnOk P w K mg base (CXG P w) 4 _ _ _ (spStd a):=dl T R;refine T.F_D.ok sc_D (λM H Q E h=>?_) (λcdv A outer s H M Q E hr h=>?_)
 .obtain⟨i,v,k,rfl,_⟩:=h;rfl
 .obtain⟨i,v,k,rfl,G,u,C,y,q⟩:=h
  have r:sizeLine=16777216:=sizeLine_eq;refine⟨_,(ai (ay (i:=2) sc_D.nd rfl (Or.inl rfl) dq) (ai (kL ⟨rfl,rfl⟩ (iS (yj (cJ y7 (vr 0) am (bv _)) (iS (gq (iC f hr rfl T.m_p T.F_p.kp T.B_p .nil (aa (vr 1) (aa am af))))) (iS (gq (iC f hr rfl T.m_p T.F_p.kp T.B_p .nil (aa am (aa (vr 1) af))))))) (qR ⟨rfl,rfl⟩ rfl T.mc_n T.xh_n (λx=>(ak (ay (i:=2) sc_D.nd rfl (Or.inl rfl) dq))) oq)) (ak (aw (vr 2))))),d9 ?_⟩;intro W L;have Y:inK 0 24 (.i 3)=true:=rfl;have X:inK 1 24 (.i 3)=true:=rfl;refine ifC (λc=>?_) λc=>?_
  .have o:i=0:=c
   refine⟨_,_,k,.i 3,rfl,G,.int 3,y,(λB j F D g p l N x n b I=>?_),λz H' n b=>?_⟩
   .rw[F]at u
    have:=u o;rw[show inK 0 24 (.i (B:Nat))=true from decide_eq_true ⟨by lia,by lia⟩]at this;cases this
   .refine⟨_,rfl,λx d=>.inl ⟨T.tt,?_⟩⟩
    exact q _ (n.trans (Same.new d).t) (b.same (Same.new d))
  .have o:i≠0:=c
   refine⟨_,_,.i 3,k,rfl,.int 3,G,y,(λB j F D g p l N x n b I=>?_),λz H' n b=>?_⟩
   .rw[D]at C
    have:=C o;rw[show inK 1 24 (.i (j:Nat))=true from decide_eq_true ⟨by lia,by lia⟩]at this;cases this
   .refine⟨_,rfl,λx d=>.inl ⟨T.tt,?_⟩⟩
    exact q _ (n.trans (Same.new d).t) (b.same (Same.new d))
theorem o8(T:Txt K mg a)(r:Bm mg base):FnOk P w K mg base CX0 16 a.f_F a.d_F ["_law_most"] (spTMy a):=by
 have d:FnOk P w K mg base CX0 15 _ _ _ _:=(fY (dl T r)).mono (by decide);have c:FnOk P w K mg base (CXG P w) 15 _ _ _ (iO a K):=jm T r;refine T.F_F.ok sc_F (λC H Q E h=>?_) (λcdv A outer s H C Q E hr h=>?_)
 .obtain⟨b,rfl,_⟩:=h;rfl
 .obtain⟨b,rfl,G,F,v,q⟩:=h
  have k:sizeLine=16777216:=sizeLine_eq;refine⟨_,(ai (ay (i:=1) sc_F.nd rfl (Or.inl rfl) dq) (ai (kL ⟨rfl,rfl⟩ (iS (gq (iC c hr rfl T.m_U T.F_U.kp T.B_U .nil (aa (ap d hr rfl T.m_p T.F_p.kp T.B_p .nil ar (aa am (aa (vr 0) af))) af)))) (qR ⟨rfl,rfl⟩ rfl T.mc_q T.xh_q (λx=>(ak (ay (i:=1) sc_F.nd rfl (Or.inl rfl) dq))) oq)) (ak (aw (vr 1))))),d9 ?_⟩;intro W u;refine⟨_,_,.i ((24:Nat):Int),.i b,rfl,.int _,.int _,v,λB f R D o I p X x N j l=>?_,λz=>?_⟩
  .obtain rfl:24=B:=by have:=Kd.i.inj R;lia
   obtain rfl:b=f:=by have:=Kd.i.inj D;lia
   have M:min 24 b=b:=by lia
   rw[M]at l;have g:=sK (m:=b) (s:=24 - b) (by lia);refine⟨x,_,_,Tb.Pn b (24 - b),rfl,l,g.dk,by lia,g.ok,g.pos,g.lm,g.ch,j,(λz=>?_),λz H2 t2 hT2=>?_⟩
   .rw[g.lv]at z
    have:=rF b (by lia) G;lia
   .refine⟨_,rfl,λx n=>.inl ⟨T.tm2,?_⟩⟩
    exact q _ ((N.trans t2).trans (Same.new n).t) (hT2.same (Same.new n))
  .have L:inK 0 24 (.i ((24:Nat):Int))=true:=rfl
   have y:inK 1 24 (.i (b:Nat))=true:=decide_eq_true ⟨by lia,by lia⟩;rw[L,y]at z
   rcases z with z | z <;> cases z
end
open Tb (Tr stm stP Hd SL ch rng tS Rws)
theorem uJ{a:Ad}{c:List Addr}{H:Hp}(b:∀ q∈tabs a,q.1∈c)(h:∀ P∈c,H P=some (.tbl #[])):TabsOk (tabs a) H:=λq d=>⟨#[],h _ (b q d),trivial,λ_ _=>.inl rfl⟩
theorem vX{K:Frag}{H H':Hp}{p:Addr}{xs:List V}(e:SameT H H')(h:SqL K H p xs):SqL K H' p xs:=by
 rcases h with(h | ⟨o,h⟩) | h
 .exact .inl (.inl (e.at h))
 .exact .inl (.inr ⟨o,e.at h⟩)
 .exact .inr h
theorem rC{i:Nat}{v:V}{σ σ':St}{H:Hp}{Q:St->Hp->Prop}(e:σ.set i (some v)=σ')(h:Q σ' H):qd i v σ H Q:=by
 subst e;exact h
theorem wd{xs:List V}{lo a:Option Int}{x:V}(h:x∈dJ xs lo a):x∈xs:=mem_of_mem_drop (mem_of_mem_take h)
def mrD(M:Int->Int->Rat)(ps:List Int)(i:Int):PyData:=.list (ps.map λj=>frD (M i j))
def mtD(M:Int->Int->Rat)(ps:List Int):PyData:=.list (ps.map (mrD M ps))
theorem Az(M:Int->Int->Rat)(ps:List Int)(i:Int):Ly 3 (mrD M ps i):=fE λd a=>by
 obtain⟨x,_,rfl⟩:=mem_map.mp a;exact xy _
theorem AG(M:Int->Int->Rat)(ps:List Int):Ly 4 (mtD M ps):=fE λd a=>by
 obtain⟨x,_,rfl⟩:=mem_map.mp a;exact Az M ps x
theorem v4{K:Frag}{H H':Hp}{M:Int->Int->Rat}{ps:List Int}{i:Int}{y:V}(h:vK K H H' M ps i y):DV K H' (mrD M ps i) y:=by
 obtain⟨D,d,rfl,_,c,a⟩:=h;exact gy c (lV (λj z b=>xw b) a)
theorem u9{K:Frag}{H H':Hp}{M:Int->Int->Rat}{ps:List Int}{l:Addr}{a:List V}(h:H' l=some (.lst a))(p:Paired (vK K H H' M ps) ps a):DV K H' (mtD M ps) (.ref l):=gy h (lV (λi y b=>v4 b) p)
abbrev lawK:Nat:=18
theorem pG{t b:Nat}(d:0<b):ij (t:Int) (b:Int)=Du.fr ((t:Rat)/(b:Rat)):=by
 refine Tb.low_tops (by lia) ?_;have h:((b:Nat):Rat)≠0:=by have:b≠0:=(by lia);exact_mod_cast this
 have c:(((t:Nat):Int):Rat)=(t:Rat):=rfl;have a:(((b:Nat):Int):Rat)=(b:Rat):=rfl;rw[c,a]
 grind
theorem sY:∀ m:Nat,m<23->1<=m->260<(m+1) ^ (24 - m):=by decide +kernel
theorem at8{most:Nat}(b:1<=most):∃ v:Int,atI [V.int 10,.int 7,.int 6,.int 5,.int 4,.int 4,.int 4,.int 4] ((if (8:Int)<(most:Int) then (8:Int) else (most:Int)) - 1)=some (.int v)/\1<=v:=by
 have h:(if (8:Int)<(most:Int) then (8:Int) else (most:Int)) - 1=((min 8 most - 1:Nat):Int):=by split <;> lia
 rw[h];have a:min 8 most - 1<8:=by lia
 generalize min 8 most - 1=k at a;have:k=0\/k=1\/k=2\/k=3\/k=4\/k=5\/k=6\/k=7:=by lia
 rcases this with rfl | rfl | rfl | rfl | rfl | rfl | rfl | rfl <;> exact⟨_,aT rfl,by decide⟩
theorem at3{a b c r:Int}(h:0<=a)(d:0<=b)(g:0<=c):∃ v:Int,atI [V.int a,.int b,.int c] (r % 3)=some (.int v)/\0<=v:=by
 have f:r % 3=((0:Nat):Int)\/r % 3=((1:Nat):Int)\/r % 3=((2:Nat):Int):=by lia
 rcases f with e | e | e <;> rw[e]
 .exact⟨_,aT rfl,h⟩
 .exact⟨_,aT rfl,d⟩
 .exact⟨_,aT rfl,g⟩
section
variable {P:Program}{w:World}{K:Frag}{mg:Str->Option Value}{base:Heap}{a:Ad}
theorem ok_law{ts:List Addr}(T:Txt K mg a)(hB:Bm mg base)(dT:∀ q∈tabs a,q.1∈ts):FnOk P w K mg base CX0 lawK a.f_ac a.d_ac ["_law_script"] (spLaw K ts):=by
 have I:FnOk P w K mg base CX0 17 _ _ _ _:=(vZ T).mono (by decide);have eb:FnOk P w K mg base CX0 17 _ _ _ _:=(tN T).mono (by decide);have cx:FnOk P w K mg base CX0 17 _ _ _ _:=(jq T).mono (by decide);have dy:FnOk P w K mg base CX0 17 _ _ _ _:=(q5 T).mono (by decide);have c8:FnOk P w K mg base CX0 17 _ _ _ _:=(w6 T).mono (by decide);have c9:FnOk P w K mg base CX0 17 _ _ _ _:=(vz T).mono (by decide);have dr:FnOk P w K mg base CX0 17 _ _ _ _:=(j6 T).mono (by decide);have cc:FnOk P w K mg base CX0 17 _ _ _ _:=(ss T hB).mono (by decide);have c0:FnOk P w K mg base CX0 17 _ _ _ _:=(uD T hB).mono (by decide);have ca:FnOk P w K mg base CX0 17 _ _ _ _:=(pC T hB).mono (by decide);have c1:FnOk P w K mg base CX0 17 _ _ _ _:=(o8 T hB).mono (by decide);have bF:FnOk P w K mg base CX0 17 _ _ _ _:=(jg T).mono (by decide);have d1:FnOk P w K mg base CX0 17 _ _ _ _:=(fY (dl T hB)).mono (by decide);have ci:FnOk P w K mg base CX0 17 _ _ _ _:=(fY (jm T hB)).mono (by decide);have dd:FnOk P w K mg base CX0 17 _ _ _ _:=(fY (rM T hB)).mono (by decide);refine T.F_ac.ok sc_ac (λvs H Q E h=>?_) (λcdv A outer s H vs Q E hr h=>?_)
 .obtain⟨p,B,rfl,_⟩:=h;rfl
 .obtain⟨p,B,rfl,hS,n,c5,q⟩:=h
  have f:sizeLine=16777216:=sizeLine_eq;have hT:=uJ dT c5
  refine⟨_,(ai (ay (i:=1) sc_ac.nd rfl (Or.inl rfl) (fu y7 (av dR (ap I hr rfl T.m_u T.F_u.kp T.B_u .nil ar (aa (vr 0) (aa am af))) am) am (bv _))) (ai (oh (ap cx hr rfl T.m_B T.F_B.kp T.B_B .nil ar (aa (ap I hr rfl T.m_u T.F_u.kp T.B_u .nil ar (aa (vr 0) (aa am af))) (aa (vr 1) (aa (bI (aa am (aa am (aa am af)))) af)))) (ze rfl (az (au (i:=2) sc_ac.nd rfl (Or.inl rfl)) (az (au (i:=3) sc_ac.nd rfl (Or.inl rfl)) (az (au (i:=4) sc_ac.nd rfl (Or.inl rfl)) cu))))) (ai (ay (i:=2) sc_ac.nd rfl (Or.inl rfl) (av cH (vr 2) am)) (ai (ay (i:=5) sc_ac.nd rfl (Or.inr rfl) (aC (eA rfl) rfl T.z_min jy (aa am (aa (dA cI (bI (aa (av dR (vr 3) (vr 2)) (aa (av cH (vr 2) (av dR (vr 3) (dA cI (kC (aI am (aI am (aI am (aI am (aI am (aI am (aI am (aI am kM))))))))) (av fJ (aC (eA rfl) rfl T.z_min jy (aa (vr 2) (aa am af))) am) (λ_ _=>rfl)))) (aa (av cH (vr 2) (av dR (vr 3) am)) af)))) (av dR (vr 3) am) (λ_ _=>rfl)) af)))) (ai (ay (i:=6) sc_ac.nd rfl (Or.inr rfl) (aC (eA rfl) rfl T.z_min jy (aa (vr 5) (aa (vr 2) af)))) (ai (ay (i:=7) sc_ac.nd rfl (Or.inl rfl) (ap d1 hr rfl T.m_p T.F_p.kp T.B_p .nil ar (aa (vr 5) (aa (vr 2) af)))) (rE (bY (cJ vF (ap c9 hr rfl T.m_X T.F_X.kp T.B_X .nil ar (aa (vr 5) (aa (vr 6) (aa (vr 2) af)))) am (bv _)) (ai (iA rfl (i:=8) sc_ac.nd rfl rfl (by with_unfolding_all rfl) (N:=["_law_some","_law_many","_law_few"]) (ix:=[none,some 5,some 6]) ⟨rfl,rfl,rfl,rfl,⟨rfl,rfl,rfl,⟨rfl,rfl,rfl,trivial⟩⟩⟩ (bJ (ap c8 hr rfl T.m_V T.F_V.kp T.B_V .nil ar (aa (vr 5) (aa (vr 6) af)))) ⟨λC s H fp=>au (i:=0) (show List.Nodup (["_law_some","_law_many","_law_few"]:List Str) by decide +kernel) rfl (Or.inl rfl),λC s H fp=>b7,λC s H fp=>(cB (aa (vr 0) (aa (ap bF hr rfl T.m_K T.F_K.kp T.B_K .nil ar (aa am (aa (ap dy hr rfl T.m_P T.F_P.kp T.B_P .nil ar (aa (vr 1) (aa (vr 2) af))) af))) af)))⟩) (ak (bY (PW.pt (qN (cJ (qe hr.units) (ap ci hr rfl T.m_U T.F_U.kp T.B_U .nil ar (aa (vr 7) af)) (vr 8) (bv _)) (lM (cJ (qe hr.units) (ap dd hr rfl T.m_A T.F_A.kp T.B_A .nil ar (aa (vr 7) (aa (bI (aa am af)) af))) (bI (aa (bI (aa (ap bF hr rfl T.m_K T.F_K.kp T.B_K .nil ar (aa (vr 6) (aa (aC (sf rfl) rfl T.z_max yt (aa am (aa (vr 5) af))) af))) af)) af)) (bv _))))) (ak (aw dq)) aU))) aU) (ai (cY PassesOwn.never rfl (bJ (av fe (gg iE (vr 0) (gt am) (gt am)) (bI (aa am af)))) (au (i:=9) sc_ac.nd rfl (Or.inl rfl)) (ak (bY (cU (dC (ap cc hr rfl T.m_O T.F_O.kp T.B_O .nil ar (aa (vr 9) (aa (vr 1) (aa (vr 5) (aa (vr 2) af))))))) (ak (aw dq)) aU))) (ai (bY (cU (dC (ap cc hr rfl T.m_O T.F_O.kp T.B_O .nil ar (aa (ap I hr rfl T.m_u T.F_u.kp T.B_u .nil ar (aa (vr 0) (aa am af))) (aa (vr 1) (aa am (aa (vr 2) af))))))) (ak (aw dq)) aU) (ai (bY (cU (dC (ap c0 hr rfl T.m_T T.F_T.kp T.B_T .nil ar (aa (ap dr hr rfl T.m_Q T.F_Q.kp T.B_Q .nil ar (aa (ap I hr rfl T.m_u T.F_u.kp T.B_u .nil ar (aa (vr 0) (aa am af))) (aa (vr 1) (aa (vr 5) (aa (vr 2) af))))) (aa (vr 5) (aa (vr 2) af)))))) (ak (aw dq)) aU) (ai (bY (cU (dC (ap ca hr rfl T.m_D T.F_D.kp T.B_D .nil ar (aa am (aa (dA cI (kC (aI kZ (aI (me ng am) (aI am (aI dq (aI o7 (aI (bI (aa am af)) (aI (av zR am am) (aI (cB af) kM))))))))) (vr 4) (λ_ _=>rfl)) af))))) (ak (aw dq)) aU) (ai (bY (cU (dC (ap ca hr rfl T.m_D T.F_D.kp T.B_D .nil ar (aa am (aa (dA cI (kC (aI am (aI am (aI kZ (aI (me ng am) (aI dq (aI o7 (aI (cB (aa am af)) (aI ua kM))))))))) (vr 4) (λ_ _=>rfl)) af))))) (ak (aw dq)) aU) (ak (aw (Al (fu zZ (av dR (ap eb hr rfl T.m_Y T.F_Y.kp T.B_Y .nil ar (aa (ap I hr rfl T.m_u T.F_u.kp T.B_u .nil ar (aa (vr 0) (aa am af))) (aa am af))) am) am (bv _)) (gX (ap c1 hr rfl T.m_F T.F_F.kp T.B_F .nil ar (aa (av cH am (av dR (vr 2) am)) af)))))))))))))))))),Ac ?_⟩
  intro ep ej eq em eD ex;refine⟨p,B,0,rfl,hS,n,by decide,by decide,⟨cp,?_⟩⟩;dsimp only[tC,tU];generalize (if false=true then !decide (qa B 0 % 2=1) else decide (qa B 0 % 2=1))=d;refine rC (σ':=[some (.ref p),some (.bl d),none,none,none,none,none,none,none,none]) rfl ?_;refine⟨p,B,1,rfl,hS,n,by decide,by decide,⟨by rw[f];exact show(3:Nat)<=_ by decide,λpb a6=>⟨_,d,pb,[24,25,8],rfl,ae,by decide,by decide,λH1 l1 ns1 s1 f1 hl1 hB'=>?_⟩⟩⟩;have bl:=(Same.new (o:=.lst [.int 24,.int 25,.int 8]) a6).trans s1
  rcases hB' with _ | ⟨h1,_ | ⟨h2,_ | ⟨h3,hn⟩⟩⟩
  cases hn;rename_i mo mr bd;refine⟨l1,_,rfl,SqL.of hl1,rfl,_,_,rfl,_,_,rfl,_,_,rfl,rfl,?_⟩
  obtain⟨most,hmost⟩:∃ most:Nat,mo+1=(most:Int):=⟨(mo+1).toNat,by have:=h1.1;lia⟩
  have m1:1<=most:=by have:=h1.1;lia
  have W:most<=24:=by have:=h1.2;lia
  refine rC (σ':=[some (.ref p),some (.bl d),some (.int mo),some (.int mr),some (.int bd),none,none,none,none,none]) rfl ?_;obtain⟨v8,a8,ez⟩:=at8 m1;have r0:0<=mr:=h2.1;obtain⟨my,a3,es⟩:=at3 (r:=mr) (a:=mr % (most:Int)) (b:=(most:Int)+mr % v8) (c:=(most:Int)+mr % 4) (Int.emod_nonneg _ (by lia)) (by have:=Int.emod_nonneg mr (show v8≠0 by lia);lia) (by lia);rw[<- hmost]at a8 a3;refine⟨cp (by lia),⟨by rw[f];exact show(8:Nat)<=_ by decide,λp8 bo=>⟨_,_,rfl,.inl ⟨p8,_,_,_,rfl,rfl,SqL.of ae,a8,⟨cp (by lia),⟨cp,⟨by rw[f];exact show(3:Nat)<=_ by decide,λp3 fp3=>⟨cp,.inl ⟨p3,_,_,_,rfl,rfl,SqL.of ae,a3,⟨_,_,rfl,?_⟩⟩⟩⟩⟩⟩⟩⟩⟩⟩
  obtain⟨many,hmany⟩:∃ many:Nat,(if my<24 then my else (24:Int))=(many:Int):=⟨(if my<24 then my else (24:Int)).toNat,by split <;> lia⟩
  have F:many<=24:=by split at hmany <;> lia
  refine rC (i:=5) (σ':=[some (.ref p),some (.bl d),some (.int (most:Nat)),some (.int mr),some (.int bd),some (.int (many:Nat)),none,none,none,none]) ?_ ?_
  .rw[<- hmost,<- hmany];rfl
  have ba:(if (most:Int)<(many:Int) then (most:Int) else (many:Int))=((min many most:Nat):Int):=by split <;> lia
  refine⟨_,_,rfl,?_⟩;refine rC (i:=6) (σ':=[some (.ref p),some (.bl d),some (.int (most:Nat)),some (.int mr),some (.int bd),some (.int (many:Nat)),some (.int (min many most:Nat)),none,none,none]) ?_ ?_
  .rw[<- ba];rfl
  have s2:=bl.trans ((Same.new (o:=.lst [.int 10,.int 7,.int 6,.int 5,.int 4,.int 4,.int 4,.int 4]) bo).trans (Same.new (o:=.lst [.int (mr % (mo+1)),.int (mo+1+mr % v8),.int (mo+1+mr % 4)]) fp3));generalize upd (upd H1 p8 (.lst [.int 10,.int 7,.int 6,.int 5,.int 4,.int 4,.int 4,.int 4])) p3 (.lst [.int (mr % (mo+1)),.int (mo+1+mr % v8),.int (mo+1+mr % 4)])=H2 at s2;clear a3 a8 fp3 bo s1 bl hl1 f1 a6;refine⟨_,_,.i many,.i most,rfl,.int _,.int _,hT.same s2,λm' ea e1 e2 _ _ _ H3 x t3 bq hN=>?_,λz=>?_⟩
  .obtain rfl:many=m':=by have:=Kd.i.inj e1;lia
   obtain rfl:most=ea:=by have:=Kd.i.inj e2;lia
   refine rC (i:=7) (v:=x) (σ:=[some (.ref p),some (.bl d),some (.int (most:Nat)),some (.int mr),some (.int bd),some (.int (many:Nat)),some (.int (min many most:Nat)),none,none,none]) (σ':=[some (.ref p),some (.bl d),some (.int (most:Nat)),some (.int mr),some (.int bd),some (.int (many:Nat)),some (.int (min many most:Nat)),some x,none,none]) rfl ?_;have cm:=s2.t.trans t3;refine⟨(λσ' b4=>SameT H3 b4/\TabsOk (tabs a) b4/\∃ x8:Option V,σ'=[some (.ref p),some (.bl d),some (.int (most:Nat)),some (.int mr),some (.int bd),some (.int (many:Nat)),some (.int (min many most:Nat)),some x,x8,none]),?_,?_⟩
   .refine⟨many,min many most,most,rfl,by lia,F,m1,W,λw hw=>ifC (λc=>?_) (λ_=>⟨SameT.refl,bq,none,rfl⟩)⟩
    have c':w<=260:=c;have bg:(most+1) ^ (many - min many most)<=260:=by rw[hw c']at c';exact_mod_cast c'
    have b5:many<=23\/many<=min many most+1:=by
     by_cases c23:many<=23
     .exact .inl c23
     .obtain rfl:many=24:=by lia
      by_cases c22:most<23
      .have:=sY most c22 m1
       rw[show min 24 most=most by lia]at bg;lia
      .exact .inr (by lia)
    have et:(min many most+1) ^ (many - min many most)<=260:=Nat.le_trans (Nat.pow_le_pow_left (by lia) _) bg;have g:=sK (m:=min many most) (s:=many - min many most) (by lia);have ac:min many most+(many - min many most)=many:=by lia
    have co:0<ch many (min many most):=by have:=Tb.ch_pos (min many most) (many - min many most);rw[ac]at this;exact this
    have eu:ch many (min many most)<=2 ^ 24:=Nat.le_trans (Tb.ch_le many (min many most)) (Nat.pow_le_pow_right (by decide) F);have ds:ij 1 ((ch many (min many most):Nat):Int)=Du.fr (1/((ch many (min many most):Nat):Rat)):=pG (t:=1) co;refine⟨many,min many most,rfl,by lia,F,b5,λH4 qL L ys s4 hq hL up dK ek=>?_⟩;refine .inl ⟨⟨_,SqL.of hq⟩,λD hD=>?_⟩;have cC:L.length=ys.length:=Paired.length hL
    let Pw1:PvL:=λi zs M=>(i<=L.length)/\Same H4 M/\M D=some (.lst zs)/\Paired (RowR K M) ((L.take i).map λx=>(x,1/((ch many (min many most):Nat):Rat))) zs
    refine bu (K:=K) (a:=qL) (xs:=ys) Pw1 ⟨Nat.zero_le _,Same.new hD,ae,.nil⟩ (λi ys M h=>SqL.of (h.2.1 _ _ hq)) (λi ys M h=>h.2.2.1) ?_ ?_
    .rintro i y zs M P' hy ⟨hi,s5,a5,hc⟩ hP
     obtain⟨xr,bt,pk,rfl,dp⟩:=aJ hL hy;have ec:i<L.length:=(List.getElem?_eq_some_iff.mp bt).1;have ck:zs.length<sizeLine:=by have:=Paired.length hc;rw[length_map,length_take]at this;lia
     refine⟨⟨rfl,rfl,trivial⟩,⟨many,min many most,rfl,by lia,F,⟨1,_,rfl,by lia,(show Bt 30 1 by unfold Bt;lia).mono (by decide),(show Bt 30 _ by unfold Bt;lia).mono (by decide),λH6 p6 s6 bb=>⟨by rw[f];exact show(2:Nat)<=_ by decide,λp7 fp7=>?_⟩⟩⟩⟩;rw[ds]at bb;have s7:=Same.new (o:=.tup [V.ref pk,V.ref p6]) fp7;have as:=s7 _ _ (s6 _ _ a5);refine⟨as,ck,hP _ _ ⟨ec,(s5.trans (s6.trans s7)).put hD,ae,?_⟩⟩;rw[take_add_one,bt,map_append];exact cD (RowR.tk (TK.lst as) _ _ ⟨p7,pk,.ref p6,rfl,ae,s7 _ _ (s6 _ _ (s5 _ _ dp)),p6,rfl,.inl (s7 _ _ bb)⟩) (aq (RowR.tk ((s6.trans s7).tk.trans (TK.lst as))) hc)
    .rintro zs H5 ⟨_,s5,a5,hc⟩
     rw[<- cC,take_length]at hc;refine rC (i:=8) (v:=.ref D) (σ:=[some (.ref p),some (.bl d),some (.int (most:Nat)),some (.int mr),some (.int bd),some (.int (many:Nat)),some (.int (min many most:Nat)),some x,none,none]) (σ':=[some (.ref p),some (.bl d),some (.int (most:Nat)),some (.int mr),some (.int bd),some (.int (many:Nat)),some (.int (min many most:Nat)),some x,some (.ref D),none]) rfl ?_;have an:=s4.trans s5;refine⟨x,_,_,Tb.Pn (min many most) (many - min many most),rfl,hN.t an.t,g.dk,by lia,g.ok,g.pos,g.lm,g.ch,bq.same an,λ_ H6 l6 R el t6 df eg ed d3 bL ev=>?_,λz=>by rw[g.lv]at z;lia⟩;have eR:(L.map λx=>((x,1/((ch many (min many most):Nat):Rat)):List Int×Rat))=R:=Tb.tS_tab (by lia) bL (by rw[map_map];exact pairwise_map.mpr up) (λk=>by rw[map_map,ac,<- dK k];exact⟨λh=>by obtain⟨y,hy,rfl⟩:=mem_map.mp h;exact hy,λh=>mem_map.mpr ⟨k,h,rfl⟩⟩) (λy hy=>by obtain⟨z,_,rfl⟩:=mem_map.mp hy;rw[ac]);rw[eR]at hc;refine iu (d:=xx R) (gy ed (lV (λx y h=>sO h) d3)) (gy (t6.at a5) (lV (λx y h=>sO h) (aq (RowR.tk λb xs e=>t6.at e) hc))) (v9 R) (by decide) ?_;refine⟨by rw[f];exact show(1:Nat)<=_ by decide,λr7 d2=>?_⟩;have s7:=Same.new (o:=.lst [V.int 0]) d2;have a':=an.t.trans (t6.trans s7.t);refine⟨x,_,_,r7,[0],Tb.Pn (min many most) (many - min many most),rfl,hN.t a',g.dk,by lia,g.ok,g.pos,g.lm,g.ch,df.same s7,ae,by decide,λ_ H8 l8 R2 en t8 d0 eo c2 ey al dv ew=>?_,λz=>by rw[g.lv]at z;lia⟩;have bS:=Tb.tS_mm (by lia) al;rw[ac]at bS
     have br:(if (many:Int) > 1 then (many:Int) else 1)=((max 1 many:Nat):Int):=by split <;> lia
     refine⟨_,_,rfl,?_⟩;refine⟨((min many most:Nat):Int),((max 1 many:Nat):Int),by rw[<- br];rfl,by lia,(show Bt 30 _ by unfold Bt;lia).mono (by decide),(show Bt 30 _ by unfold Bt;lia).mono (by decide),λH9 p9 s9 b'=>?_⟩;rw[pG (by lia),<- bS]at b';refine⟨by rw[f];exact show(1:Nat)<=_ by decide,λa9 bm=>⟨by rw[f];exact show(1:Nat)<=_ by decide,λr11 fr11=>?_⟩⟩;have bn:=Same.new (o:=.lst [V.ref p9]) bm;have a4:=Same.new (o:=.lst [V.ref a9]) fr11;have u:=s9.trans (bn.trans a4);refine iu (d:=mtD (Tb.mm R2) [0]) (u9 (u _ _ c2) (aq (λi y ⟨D9,dV,e9,f9,h9,cj⟩=>⟨D9,dV,e9,f9,u _ _ h9,aq (λj z h=>h.same u) cj⟩) dv)) (u9 (H:=λ_=>none) ae (.cons ⟨a9,[V.ref p9],rfl,rfl,a4 _ _ ae,.cons ⟨p9,rfl,.inl ((bn.trans a4) _ _ b')⟩ .nil⟩ .nil)) (AG _ _) (by decide) ?_;exact⟨a'.trans (t8.trans u.t),d0.same u,_,rfl⟩
   .rintro σ' H4 ⟨t4,dL,x8,rfl⟩
    have cg:=cm.trans t4;refine⟨_,rfl,_,rfl,_,_,rfl,vX cg hS,λr1 dm=>?_⟩;refine⟨by rw[f];exact show(1:Nat)<=_ by decide,λr2 de=>?_⟩;have b1:=Same.new (o:=.lst (dJ (B.map V.int) (some 2) (some 43))) dm;have b2:=Same.new (o:=.lst [.int 0]) de;have cl:=hX (B.map V.int) (some 2) (some 43);rw[length_map]at cl;refine⟨r1,r2,_,_,rfl,rfl,b2 _ _ ae,ae,by show _+1<=sizeLine;lia,λr3 c4=>?_⟩;have b3:=(b1.trans b2).trans (Same.new (o:=.lst (dJ (B.map V.int) (some 2) (some 43)++[.int 0])) c4);have ab:(upd (upd (upd H4 r1 (.lst (dJ (B.map V.int) (some 2) (some 43)))) r2 (.lst [.int 0])) r3 (.lst (dJ (B.map V.int) (some 2) (some 43)++[.int 0]))) r3=some (.lst (dJ (B.map V.int) (some 2) (some 43)++[.int 0])):=ae
    have b0:∀ x∈dJ (B.map V.int) (some 2) (some 43)++[.int 0],∃ c:Int,x=.int c:=λx hx=>by
     rcases mem_append.mp hx with h | h
     .obtain⟨c,_,rfl⟩:=mem_map.mp (wd h);exact⟨c,rfl⟩
     .exact⟨0,mem_singleton.mp h⟩
    generalize dJ (B.map V.int) (some 2) (some 43)++[.int 0]=cs at b3 ab b0;generalize upd (upd (upd H4 r1 (.lst (dJ (B.map V.int) (some 2) (some 43)))) r2 (.lst [.int 0])) r3 (.lst cs)=HA at b3 ab;have dt:=dL.same b3;have ef:=cg.trans b3.t;refine .inl ⟨⟨_,SqL.of ab⟩,?_⟩
    let Pw2:PvS:=λi σ M=>SameT HA M/\TabsOk (tabs a) M/\∃(x9:Option V),σ=[some (.ref p),some (.bl d),some (.int (most:Nat)),some (.int mr),some (.int bd),some (.int (many:Nat)),some (.int (min many most:Nat)),some x,x8,x9]
    refine d8 (K:=K) (a:=r3) (xs:=cs) Pw2 ⟨SameT.refl,dt,none,rfl⟩ (λi σ M _ h=>SqL.of (h.1.at ab)) ?_ ?_
    .rintro i y σ M hy ⟨ct,c7,x9,rfl⟩
     obtain⟨c,rfl⟩:=b0 y (List.mem_of_getElem? hy);exact⟨c,d,many,most,rfl,F,m1,W,c7,λHB tB a0=>⟨ct.trans tB,a0,_,rfl⟩⟩
    rintro σ HB ⟨tB,a0,x9,rfl⟩;have a7:=ef.trans tB;refine⟨p,B,1,rfl,vX a7 hS,n,by decide,by decide,⟨_,d,24,most,rfl,by lia,m1,W,a0,λHC tC dx=>?_⟩⟩;have b6:=a7.trans tC;refine⟨p,B,1,rfl,vX b6 hS,n,by decide,by decide,⟨_,d,many,most,rfl,F,W,λHD l c6 sD fl hl dz=>⟨l,c6,many,most,rfl,hl,dz,F,m1,W,dx.same sD,λHE tE hTE=>?_⟩⟩⟩;have dk:=(b6.trans sD.t).trans tE
    refine⟨by rw[f];exact show(1:Nat)<=_ by decide,λX Z=>⟨⟨by decide,by decide,by decide⟩,⟨Nat.zero_le _,λq2 fq2=>⟨by rw[f];exact show(8:Nat)<=_ by decide,λq3 fq3=>?_⟩⟩⟩⟩;have u1:=Same.new (o:=.lst [V.int 1]) Z;have u2:=Same.new (o:=.tup []) fq2;have u3:=Same.new (o:=.lst [V.non,.int (-1),.int 25,.bl true,.str "1",.ref X,.int (10 ^ (20:Int).toNat),.ref q2]) fq3;have G:=u1.trans (u2.trans u3)
    have cy:∃ k:Nat,bd=(k:Int)/\k<8:=⟨bd.toNat,by have:=h3.1;lia,by have:=h3.2;lia⟩
    obtain⟨Y,rfl,eH⟩:=cy;have bc:Y=0\/Y=1\/Y=2\/Y=3\/Y=4\/Y=5\/Y=6\/Y=7:=by lia
    obtain⟨v1,k1,av1,tv1,ik1⟩:∃ v k,atI [V.non,.int (-1),.int 25,.bl true,.str "1",.ref X,.int (10 ^ (20:Int).toNat),.ref q2] (Y:Int)=some v/\Thg (upd (upd (upd HE X (.lst [V.int 1])) q2 (.tup [])) q3 (.lst [V.non,.int (-1),.int 25,.bl true,.str "1",.ref X,.int (10 ^ (20:Int).toNat),.ref q2])) v k/\inK 0 24 k=false:=by
     rcases bc with rfl | rfl | rfl | rfl | rfl | rfl | rfl | rfl
     .exact⟨_,_,aT rfl,.non,rfl⟩
     .exact⟨_,_,aT rfl,.int _,rfl⟩
     .exact⟨_,_,aT rfl,.int _,rfl⟩
     .exact⟨_,_,aT rfl,.bl _,rfl⟩
     .exact⟨_,_,aT rfl,.str _ (by decide +kernel) (by decide +kernel),rfl⟩
     .exact⟨_,_,aT rfl,.lst X _ ((u2.trans u3) _ _ ae),rfl⟩
     .exact⟨_,_,aT rfl,.int _,by decide +kernel⟩
     .exact⟨_,_,aT rfl,.tup q2 _ (u3 _ _ ae),rfl⟩
    refine .inl ⟨q3,_,_,v1,rfl,rfl,SqL.of ae,av1,⟨0,v1,k1,rfl,tv1,(λ_=>ik1),(λz=>absurd rfl z),hTE.same G,λHF tF hTF=>?_⟩⟩;have d':=(dk.trans G.t).trans tF;clear u1 u2 u3 G tv1 av1 Z fq2 fq3
    refine⟨by rw[f];exact show(1:Nat)<=_ by decide,λX Z=>λq2 fq2=>⟨by rw[f];exact show(8:Nat)<=_ by decide,λq3 fq3=>?_⟩⟩;have u1:=Same.new (o:=.tup [V.int 2]) Z;have u2:=Same.new (o:=.dK []) fq2;have u3:=Same.new (o:=.lst [V.int 0,.int 25,.non,.int (-3),.bl false,.str "2",.ref X,.ref q2]) fq3;have G:=u1.trans (u2.trans u3)
    obtain⟨v2,k2,av2,tv2,ik2⟩:∃ v k,atI [V.int 0,.int 25,.non,.int (-3),.bl false,.str "2",.ref X,.ref q2] (Y:Int)=some v/\Thg (upd (upd (upd HF X (.tup [V.int 2])) q2 (.dK [])) q3 (.lst [V.int 0,.int 25,.non,.int (-3),.bl false,.str "2",.ref X,.ref q2])) v k/\inK 1 24 k=false:=by
     rcases bc with rfl | rfl | rfl | rfl | rfl | rfl | rfl | rfl
     .exact⟨_,_,aT rfl,.int _,rfl⟩
     .exact⟨_,_,aT rfl,.int _,rfl⟩
     .exact⟨_,_,aT rfl,.non,rfl⟩
     .exact⟨_,_,aT rfl,.int _,rfl⟩
     .exact⟨_,_,aT rfl,.bl _,rfl⟩
     .exact⟨_,_,aT rfl,.str _ (by decide +kernel) (by decide +kernel),rfl⟩
     .exact⟨_,_,aT rfl,.tup X _ ((u2.trans u3) _ _ ae),rfl⟩
     .exact⟨_,_,aT rfl,.dK q2 (u3 _ _ ae),rfl⟩
    refine .inl ⟨q3,_,_,v2,rfl,rfl,SqL.of ae,av2,⟨1,v2,k2,rfl,tv2,(λz=>by cases z),(λ_=>ik2),hTF.same G,λHG tG hTG=>?_⟩⟩;have c3:=(d'.trans G.t).trans tG;refine⟨p,B,1,rfl,vX c3 hS,n,by decide,by decide,⟨_,_,rfl,by decide,by decide,λr ei=>⟨cp,?_⟩⟩⟩;refine ifC (λ_=>q _) λ_=>?_
    obtain⟨mt,hmt⟩:∃ mt:Nat,1+(most:Int) % 12=(mt:Int):=⟨(1+(most:Int) % 12).toNat,by lia⟩
    exact⟨cp,⟨mt,by rw[<- hmt];rfl,by lia,by lia,hTG,λHI _ _=>q HI⟩⟩
  .have a1:inK 0 24 (.i (many:Nat))=true:=decide_eq_true ⟨by lia,by lia⟩
   have a2:inK 1 24 (.i (most:Nat))=true:=decide_eq_true ⟨by lia,by lia⟩;rw[a1,a2]at z
   rcases z with z | z <;> cases z
end
end My
namespace My
open PySem L2
theorem us0{a:Type}:∀{us:List a},us.length=0->us=[]
 | [],_=>rfl
theorem us1{a:Type}{us:List a}(h:us.length=1):∃ a0,us=[a0]:=by
 cases us with
 | nil=>cases h
 | cons a0 t=>obtain rfl:=us0 (Nat.succ.inj h);exact⟨a0,rfl⟩
theorem us2{a:Type}{us:List a}(h:us.length=2):∃ a0 a1,us=[a0,a1]:=by
 cases us with
 | nil=>cases h
 | cons a0 t=>obtain⟨a1,rfl⟩:=us1 (Nat.succ.inj h);exact⟨a0,a1,rfl⟩
theorem us3{a:Type}{us:List a}(h:us.length=3):∃ a0 a1 a2,us=[a0,a1,a2]:=by
 cases us with
 | nil=>cases h
 | cons a0 t=>obtain⟨a1,a2,rfl⟩:=us2 (Nat.succ.inj h);exact⟨a0,a1,a2,rfl⟩
theorem us4{a:Type}{us:List a}(h:us.length=4):∃ a0 a1 a2 a3,us=[a0,a1,a2,a3]:=by
 cases us with
 | nil=>cases h
 | cons a0 t=>obtain⟨a1,a2,a3,rfl⟩:=us3 (Nat.succ.inj h);exact⟨a0,a1,a2,a3,rfl⟩
theorem txt_mk{K:Frag}{h:Heap}{mg:Str->Option Value}{f0 f1 f2 f3 f4 f5 f6 f7 f8 f9 f10 f11 f12 f13 f14 f15 f16 f17 f18 f19 f20 f21 f22 f23 f24 f25 f26 f27 f28 f29 f30 c_S c_a i_a c_q c_n c_aa c_g i_g c_j i_j c_l i_l x_I dd_Pot_come x_o x_E x_i x_m x_C x_G x_t x_y x_w x_z x_r lc_b lp_b:Addr}{od0 an0 od1 an1 od2 an2 od3 an3 od4 an4 od5 an5 od6 an6 od7 an7 od8 an8 od9 an9 od10 an10 od11 an11 od12 an12 od13 an13 od14 an14 od15 an15 od16 an16 od17 an17 od18 an18 od19 an19 od20 an20 od21 an21 od22 an22 od23 an23 od24 an24 od25 an25 od26 an26 od27 an27 od28 an28 od29 an29 od30 an30 od_6 an_6 od_b an_b od_0 an_0 od_7 an_7 od_8 an_8 oo_Pot_come od_9 an_9 od_a an_a od_c an_c od_2 an_2 od_d an_d od_3 an_3 od_f an_f od_5 an_5 od_e an_e od_4 an_4 od_1 an_1 lod_10:Option Addr}{sl0 sl1 sl2 sl3 sl4 sl5 sl6 sl7 sl8 sl9 sl10 sl11 sl12 sl13 sl14 sl15 sl16 sl17 sl18 sl19 sl20 sl21 sl22 sl23 sl24 sl25 sl26 sl27 sl28 sl29 sl30 sl_6 sl_b sl_0 sl_7 sl_8 se_Pot_come sl_9 sl_a sl_c sl_2 sl_d sl_3 sl_f sl_5 sl_e sl_4 sl_1 lsl_10:Array (Option Value)}{oc0 kV0 dc0 pm0 cd0 ct0 oc1 kV1 dc1 pm1 cd1 ct1 oc2 kV2 dc2 pm2 cd2 ct2 oc3 kV3 dc3 pm3 cd3 ct3 oc4 kV4 dc4 pm4 cd4 ct4 oc5 kV5 dc5 pm5 cd5 ct5 oc6 kV6 dc6 pm6 cd6 ct6 oc7 kV7 dc7 pm7 cd7 ct7 oc8 kV8 dc8 pm8 cd8 ct8 oc9 kV9 dc9 pm9 cd9 ct9 oc10 kV10 dc10 pm10 cd10 ct10 oc11 kV11 dc11 pm11 cd11 ct11 oc12 kV12 dc12 pm12 cd12 ct12 oc13 kV13 dc13 pm13 cd13 ct13 oc14 kV14 dc14 pm14 cd14 ct14 oc15 kV15 dc15 pm15 cd15 ct15 oc16 kV16 dc16 pm16 cd16 ct16 oc17 kV17 dc17 pm17 cd17 ct17 oc18 kV18 dc18 pm18 cd18 ct18 oc19 kV19 dc19 pm19 cd19 ct19 oc20 kV20 dc20 pm20 cd20 ct20 oc21 kV21 dc21 pm21 cd21 ct21 oc22 kV22 dc22 pm22 cd22 ct22 oc23 kV23 dc23 pm23 cd23 ct23 oc24 kV24 dc24 pm24 cd24 ct24 oc25 kV25 dc25 pm25 cd25 ct25 oc26 kV26 dc26 pm26 cd26 ct26 oc27 kV27 dc27 pm27 cd27 ct27 oc28 kV28 dc28 pm28 cd28 ct28 oc29 kV29 dc29 pm29 cd29 ct29 oc30 kV30 dc30 pm30 cd30 ct30 u0 u1 u2 u3 u4 u5 oc_6 kV_6 dc_6 pm_6 cd_6 ct_6 oc_b kV_b dc_b pm_b cd_b ct_b oc_0 kV_0 dc_0 pm_0 cd_0 ct_0 oc_7 kV_7 dc_7 pm_7 cd_7 ct_7 oc_8 kV_8 dc_8 pm_8 cd_8 ct_8 oe_Pot_come ve_Pot_come oc_9 kV_9 dc_9 pm_9 cd_9 ct_9 oc_a kV_a dc_a pm_a cd_a ct_a oc_c kV_c dc_c pm_c cd_c ct_c oc_2 kV_2 dc_2 pm_2 cd_2 ct_2 oc_d kV_d dc_d pm_d cd_d ct_d oc_3 kV_3 dc_3 pm_3 cd_3 ct_3 oc_f kV_f dc_f pm_f cd_f ct_f oc_5 kV_5 dc_5 pm_5 cd_5 ct_5 oc_e kV_e dc_e pm_e cd_e ct_e oc_4 kV_4 dc_4 pm_4 cd_4 ct_4 oc_1 kV_1 dc_1 pm_1 cd_1 ct_1 lo_10:Value}{ne_Pot_come:Nat}{lvs_10:Array Value}(X:K.In h) (G:h.Ns mainGlobals mg)
  (a0:nsIn K mainGlobals "greatest_divisor" = some (some (.ref f0))) (l0:K.lookup f0=some ⟨oc0,od0,.func (fnOf "greatest_divisor" "greatest_divisor" (aj aB) (ah aB) (ad aB) .none kV0 dc0 pm0 an0 cd0 ct0),sl0⟩) (c0:codeIn K cd0 "greatest_divisor" = true) (k0:keepIn K (.ref f0)=true)
  (a1:nsIn K mainGlobals "least_multiple" = some (some (.ref f1))) (l1:K.lookup f1=some ⟨oc1,od1,.func (fnOf "least_multiple" "least_multiple" (aj aH) (ah aH) (ad aH) .none kV1 dc1 pm1 an1 cd1 ct1),sl1⟩) (c1:codeIn K cd1 "least_multiple" = true) (k1:keepIn K (.ref f1)=true)
  (a2:nsIn K mainGlobals "share" = some (some (.ref f2))) (l2:K.lookup f2=some ⟨oc2,od2,.func (fnOf "share" "share" (aj dc) (ah dc) (ad dc) .none kV2 dc2 pm2 an2 cd2 ct2),sl2⟩) (c2:codeIn K cd2 "share" = true) (k2:keepIn K (.ref f2)=true)
  (a3:nsIn K mainGlobals "total" = some (some (.ref f3))) (l3:K.lookup f3=some ⟨oc3,od3,.func (fnOf "total" "total" (aj db) (ah db) (ad db) .none kV3 dc3 pm3 an3 cd3 ct3),sl3⟩) (c3:codeIn K cd3 "total" = true) (k3:keepIn K (.ref f3)=true)
  (a4:nsIn K mainGlobals "is_whole" = some (some (.ref f4))) (l4:K.lookup f4=some ⟨oc4,od4,.func (fnOf "is_whole" "is_whole" (aj bR) (ah bR) (ad bR) .none kV4 dc4 pm4 an4 cd4 ct4),sl4⟩) (c4:codeIn K cd4 "is_whole" = true) (k4:keepIn K (.ref f4)=true)
  (a5:nsIn K mainGlobals "is_made_of" = some (some (.ref f5))) (l5:K.lookup f5=some ⟨oc5,od5,.func (fnOf "is_made_of" "is_made_of" (aj bi) (ah bi) (ad bi) .none kV5 dc5 pm5 an5 cd5 ct5),sl5⟩) (c5:codeIn K cd5 "is_made_of" = true) (k5:keepIn K (.ref f5)=true)
  (a6:nsIn K mainGlobals "is_name" = some (some (.ref f6))) (l6:K.lookup f6=some ⟨oc6,od6,.func (fnOf "is_name" "is_name" (aj b8) (ah b8) (ad b8) .none kV6 dc6 pm6 an6 cd6 ct6),sl6⟩) (c6:codeIn K cd6 "is_name" = true) (k6:keepIn K (.ref f6)=true)
  (a7:nsIn K mainGlobals "can_be_thrown" = some (some (.ref f7))) (l7:K.lookup f7=some ⟨oc7,od7,.func (fnOf "can_be_thrown" "can_be_thrown" (aj aL) (ah aL) (ad aL) .none kV7 dc7 pm7 an7 cd7 ct7),sl7⟩) (c7:codeIn K cd7 "can_be_thrown" = true) (k7:keepIn K (.ref f7)=true)
  (a8:nsIn K mainGlobals "drawn" = some (some (.ref f8))) (l8:K.lookup f8=some ⟨oc8,od8,.func (fnOf "drawn" "drawn" (aj da) (ah da) (ad da) .none kV8 dc8 pm8 an8 cd8 ct8),sl8⟩) (c8:codeIn K cd8 "drawn" = true) (k8:keepIn K (.ref f8)=true)
  (a9:nsIn K mainGlobals "ways_of" = some (some (.ref f9))) (l9:K.lookup f9=some ⟨oc9,od9,.func (fnOf "ways_of" "ways_of" (aj cq) (ah cq) (ad cq) .none kV9 dc9 pm9 an9 cd9 ct9),sl9⟩) (c9:codeIn K cd9 "ways_of" = true) (k9:keepIn K (.ref f9)=true)
  (a10:nsIn K mainGlobals "table" = some (some (.ref f10))) (l10:K.lookup f10=some ⟨oc10,od10,.func (fnOf "table" "table" (aj dj) (ah dj) (ad dj) .none kV10 dc10 pm10 an10 cd10 ct10),sl10⟩) (c10:codeIn K cd10 "table" = true) (k10:keepIn K (.ref f10)=true)
  (a11:nsIn K mainGlobals "matrix_of" = some (some (.ref f11))) (l11:K.lookup f11=some ⟨oc11,od11,.func (fnOf "matrix_of" "matrix_of" (aj bB) (ah bB) (ad bB) .none kV11 dc11 pm11 an11 cd11 ct11),sl11⟩) (c11:codeIn K cd11 "matrix_of" = true) (k11:keepIn K (.ref f11)=true)
  (a12:nsIn K mainGlobals "matrix_row" = some (some (.ref f12))) (l12:K.lookup f12=some ⟨oc12,od12,.func (fnOf "matrix_row" "matrix_row" (aj be) (ah be) (ad be) .none kV12 dc12 pm12 an12 cd12 ct12),sl12⟩) (c12:codeIn K cd12 "matrix_row" = true) (k12:keepIn K (.ref f12)=true)
  (a13:nsIn K mainGlobals "held_with" = some (some (.ref f13))) (l13:K.lookup f13=some ⟨oc13,od13,.func (fnOf "held_with" "held_with" (aj bD) (ah bD) (ad bD) .none kV13 dc13 pm13 an13 cd13 ct13),sl13⟩) (c13:codeIn K cd13 "held_with" = true) (k13:keepIn K (.ref f13)=true)
  (a14:nsIn K mainGlobals "streamed" = some (some (.ref f14))) (l14:K.lookup f14=some ⟨oc14,od14,.func (fnOf "streamed" "streamed" (aj bQ) (ah bQ) (ad bQ) .none kV14 dc14 pm14 an14 cd14 ct14),sl14⟩) (c14:codeIn K cd14 "streamed" = true) (k14:keepIn K (.ref f14)=true)
  (a15:nsIn K mainGlobals "stream_node" = some (some (.ref f15))) (l15:K.lookup f15=some ⟨oc15,od15,.func (fnOf "stream_node" "stream_node" (aj aW) (ah aW) (ad aW) .none kV15 dc15 pm15 an15 cd15 ct15),sl15⟩) (c15:codeIn K cd15 "stream_node" = true) (k15:keepIn K (.ref f15)=true)
  (a16:nsIn K mainGlobals "stream_make" = some (some (.ref f16))) (l16:K.lookup f16=some ⟨oc16,od16,.func (fnOf "stream_make" "stream_make" (aj aR) (ah aR) (ad aR) .none kV16 dc16 pm16 an16 cd16 ct16),sl16⟩) (c16:codeIn K cd16 "stream_make" = true) (k16:keepIn K (.ref f16)=true)
  (a17:nsIn K mainGlobals "_law_cell_at" = some (some (.ref f17))) (l17:K.lookup f17=some ⟨oc17,od17,.func (fnOf "_law_cell_at" "_law_cell_at" (aj bw) (ah bw) (ad bw) .none kV17 dc17 pm17 an17 cd17 ct17),sl17⟩) (c17:codeIn K cd17 "_law_cell_at" = true) (k17:keepIn K (.ref f17)=true)
  (a18:nsIn K mainGlobals "_law_mix" = some (some (.ref f18))) (l18:K.lookup f18=some ⟨oc18,od18,.func (fnOf "_law_mix" "_law_mix" (aj dh) (ah dh) (ad dh) .none kV18 dc18 pm18 an18 cd18 ct18),sl18⟩) (c18:codeIn K cd18 "_law_mix" = true) (k18:keepIn K (.ref f18)=true)
  (a19:nsIn K mainGlobals "_law_numbers" = some (some (.ref f19))) (l19:K.lookup f19=some ⟨oc19,od19,.func (fnOf "_law_numbers" "_law_numbers" (aj bC) (ah bC) (ad bC) .none kV19 dc19 pm19 an19 cd19 ct19),sl19⟩) (c19:codeIn K cd19 "_law_numbers" = true) (k19:keepIn K (.ref f19)=true)
  (a20:nsIn K mainGlobals "_law_choose" = some (some (.ref f20))) (l20:K.lookup f20=some ⟨oc20,od20,.func (fnOf "_law_choose" "_law_choose" (aj bV) (ah bV) (ad bV) .none kV20 dc20 pm20 an20 cd20 ct20),sl20⟩) (c20:codeIn K cd20 "_law_choose" = true) (k20:keepIn K (.ref f20)=true)
  (a21:nsIn K mainGlobals "_law_sets" = some (some (.ref f21))) (l21:K.lookup f21=some ⟨oc21,od21,.func (fnOf "_law_sets" "_law_sets" (aj cK) (ah cK) (ad cK) .none kV21 dc21 pm21 an21 cd21 ct21),sl21⟩) (c21:codeIn K cd21 "_law_sets" = true) (k21:keepIn K (.ref f21)=true)
  (a22:nsIn K mainGlobals "_law_ways" = some (some (.ref f22))) (l22:K.lookup f22=some ⟨oc22,od22,.func (fnOf "_law_ways" "_law_ways" (aj cM) (ah cM) (ad cM) .none kV22 dc22 pm22 an22 cd22 ct22),sl22⟩) (c22:codeIn K cd22 "_law_ways" = true) (k22:keepIn K (.ref f22)=true)
  (a23:nsIn K mainGlobals "_law_by_pot" = some (some (.ref f23))) (l23:K.lookup f23=some ⟨oc23,od23,.func (fnOf "_law_by_pot" "_law_by_pot" (aj bW) (ah bW) (ad bW) .none kV23 dc23 pm23 an23 cd23 ct23),sl23⟩) (c23:codeIn K cd23 "_law_by_pot" = true) (k23:keepIn K (.ref f23)=true)
  (a24:nsIn K mainGlobals "_law_throws" = some (some (.ref f24))) (l24:K.lookup f24=some ⟨oc24,od24,.func (fnOf "_law_throws" "_law_throws" (aj bT) (ah bT) (ad bT) .none kV24 dc24 pm24 an24 cd24 ct24),sl24⟩) (c24:codeIn K cd24 "_law_throws" = true) (k24:keepIn K (.ref f24)=true)
  (a25:nsIn K mainGlobals "_law_place" = some (some (.ref f25))) (l25:K.lookup f25=some ⟨oc25,od25,.func (fnOf "_law_place" "_law_place" (aj cf) (ah cf) (ad cf) .none kV25 dc25 pm25 an25 cd25 ct25),sl25⟩) (c25:codeIn K cd25 "_law_place" = true) (k25:keepIn K (.ref f25)=true)
  (a26:nsIn K mainGlobals "_law_drawn" = some (some (.ref f26))) (l26:K.lookup f26=some ⟨oc26,od26,.func (fnOf "_law_drawn" "_law_drawn" (aj cb) (ah cb) (ad cb) .none kV26 dc26 pm26 an26 cd26 ct26),sl26⟩) (c26:codeIn K cd26 "_law_drawn" = true) (k26:keepIn K (.ref f26)=true)
  (a27:nsIn K mainGlobals "_law_parts" = some (some (.ref f27))) (l27:K.lookup f27=some ⟨oc27,od27,.func (fnOf "_law_parts" "_law_parts" (aj b9) (ah b9) (ad b9) .none kV27 dc27 pm27 an27 cd27 ct27),sl27⟩) (c27:codeIn K cd27 "_law_parts" = true) (k27:keepIn K (.ref f27)=true)
  (a28:nsIn K mainGlobals "_law_refused" = some (some (.ref f28))) (l28:K.lookup f28=some ⟨oc28,od28,.func (fnOf "_law_refused" "_law_refused" (aj bG) (ah bG) (ad bG) .none kV28 dc28 pm28 an28 cd28 ct28),sl28⟩) (c28:codeIn K cd28 "_law_refused" = true) (k28:keepIn K (.ref f28)=true)
  (a29:nsIn K mainGlobals "_law_too_many" = some (some (.ref f29))) (l29:K.lookup f29=some ⟨oc29,od29,.func (fnOf "_law_too_many" "_law_too_many" (aj bf) (ah bf) (ad bf) .none kV29 dc29 pm29 an29 cd29 ct29),sl29⟩) (c29:codeIn K cd29 "_law_too_many" = true) (k29:keepIn K (.ref f29)=true)
  (a30:nsIn K mainGlobals "law" = some (some (.ref f30))) (l30:K.lookup f30=some ⟨oc30,od30,.func (fnOf "law" "law" (aj gD) (ah gD) (ad gD) .none kV30 dc30 pm30 an30 cd30 ct30),sl30⟩) (c30:codeIn K cd30 "law" = true) (k30:keepIn K (.ref f30)=true)
  (b0:nsIn K mainGlobals "LETTERS" = some (some u0))
  (b1:nsIn K mainGlobals "MOST_LETTERS" = some (some u1))
  (b2:nsIn K mainGlobals "MOST_WAYS" = some (some u2))
  (b3:nsIn K mainGlobals "MOST_KEPT" = some (some u3))
  (b4:nsIn K mainGlobals "MOST_STREAMED" = some (some u4))
  (b5:nsIn K mainGlobals "MOST_COME" = some (some u5))
  (ca_S:nsIn K mainGlobals "SpeakError" = some (some (.ref c_S))) (cb_S:keepIn K (.ref c_S)=true) (cc_S:mS K c_S=true)
  (cx_S:xIn K c_S none=true)
  (ca_a:nsIn K mainGlobals "NoThrow" = some (some (.ref c_a))) (cb_a:keepIn K (.ref c_a)=true) (cc_a:mS K c_a=true)
  (cf_a:findIn K (.ref c_a) "__init__" = some (some (.ref i_a))) (cx_a:xIn K c_a (some (.ref i_a))=true) (cg_a:isFn K (.ref i_a)=true)
  (cl_a:K.lookup i_a=some ⟨oc_6,od_6,.func (fnOf "__init__" "NoThrow.__init__" (aj aA) (ah aA) (ad aA) .none kV_6 dc_6 pm_6 an_6 cd_6 ct_6),sl_6⟩) (co_a:codeIn K cd_6 "NoThrow.__init__" = true) (ck_a:keepIn K (.ref i_a)=true)
  (cs_NoThrow_place:zr K c_a "place" = true)
  (ca_q:nsIn K mainGlobals "TooMany" = some (some (.ref c_q))) (cb_q:keepIn K (.ref c_q)=true) (cc_q:mS K c_q=true)
  (cx_q:xIn K c_q none=true)
  (ca_n:nsIn K mainGlobals "NoThing" = some (some (.ref c_n))) (cb_n:keepIn K (.ref c_n)=true) (cc_n:mS K c_n=true)
  (cx_n:xIn K c_n none=true)
  (ca_aa:nsIn K mainGlobals "Node" = some (some (.ref c_aa))) (pa_aa:plainGet K c_aa Str.empty=true) (pb_aa:hasDictIn K c_aa=true) (pc_aa:plainOver K c_aa=true)
  (pd_aa:findIn K (.ref c_aa) "__setattr__" = some (some (.builtin "object.__setattr__"))) (pe_aa:findIn K (.ref c_aa) "__class__" = some (some (.builtin "object.__class__"))) (pf_aa:specialIn K (.builtin "object.__class__") "__get__" = some (some (.builtin "getset_descriptor.__get__"))) (pg_aa:takesIn K (.builtin "object.__class__")=some true) (ph_aa:mroIn K c_aa (.type "object")=some true)
  (ca_g:nsIn K mainGlobals "Told" = some (some (.ref c_g))) (pa_g:plainGet K c_g Str.empty=true) (pb_g:hasDictIn K c_g=true) (pc_g:plainOver K c_g=true)
  (pd_g:findIn K (.ref c_g) "__setattr__" = some (some (.builtin "object.__setattr__"))) (pe_g:findIn K (.ref c_g) "__class__" = some (some (.builtin "object.__class__"))) (pf_g:specialIn K (.builtin "object.__class__") "__get__" = some (some (.builtin "getset_descriptor.__get__"))) (pg_g:takesIn K (.builtin "object.__class__")=some true) (ph_g:mroIn K c_g (.type "object")=some true)
  (qa_g:makesIn K c_g=true) (qb_g:findIn K (.ref c_g) "__init__" = some (some (.ref i_g))) (qc_g:isFn K (.ref i_g)=true) (qd_g:keepIn K (.ref c_g)=true)
  (qn_Told_rising:findIn K (.ref c_g) "rising" = some none)
  (cl_g:K.lookup i_g=some ⟨oc_b,od_b,.func (fnOf "__init__" "Told.__init__" (aj aK) (ah aK) (ad aK) .none kV_b dc_b pm_b an_b cd_b ct_b),sl_b⟩) (co_g:codeIn K cd_b "Told.__init__" = true) (ck_g:keepIn K (.ref i_g)=true)
  (ca_j:nsIn K mainGlobals "Die" = some (some (.ref c_j))) (pa_j:plainGet K c_j Str.empty=true) (pb_j:hasDictIn K c_j=true) (pc_j:plainOver K c_j=true)
  (pd_j:findIn K (.ref c_j) "__setattr__" = some (some (.builtin "object.__setattr__"))) (pe_j:findIn K (.ref c_j) "__class__" = some (some (.builtin "object.__class__"))) (pf_j:specialIn K (.builtin "object.__class__") "__get__" = some (some (.builtin "getset_descriptor.__get__"))) (pg_j:takesIn K (.builtin "object.__class__")=some true) (ph_j:mroIn K c_j (.type "object")=some true)
  (qa_j:makesIn K c_j=true) (qb_j:findIn K (.ref c_j) "__init__" = some (some (.ref i_j))) (qc_j:isFn K (.ref i_j)=true) (qd_j:keepIn K (.ref c_j)=true)
  (qn_Die_makes:findIn K (.ref c_j) "makes" = some none)
  (cl_j:K.lookup i_j=some ⟨oc_0,od_0,.func (fnOf "__init__" "Die.__init__" (aj aQ) (ah aQ) (ad aQ) .none kV_0 dc_0 pm_0 an_0 cd_0 ct_0),sl_0⟩) (co_j:codeIn K cd_0 "Die.__init__" = true) (ck_j:keepIn K (.ref i_j)=true)
  (ca_l:nsIn K mainGlobals "Pot" = some (some (.ref c_l))) (pa_l:plainGet K c_l Str.empty=true) (pb_l:hasDictIn K c_l=true) (pc_l:plainOver K c_l=true)
  (pd_l:findIn K (.ref c_l) "__setattr__" = some (some (.builtin "object.__setattr__"))) (pe_l:findIn K (.ref c_l) "__class__" = some (some (.builtin "object.__class__"))) (pf_l:specialIn K (.builtin "object.__class__") "__get__" = some (some (.builtin "getset_descriptor.__get__"))) (pg_l:takesIn K (.builtin "object.__class__")=some true) (ph_l:mroIn K c_l (.type "object")=some true)
  (qa_l:makesIn K c_l=true) (qb_l:findIn K (.ref c_l) "__init__" = some (some (.ref i_l))) (qc_l:isFn K (.ref i_l)=true) (qd_l:keepIn K (.ref c_l)=true)
  (qn_Pot_most:findIn K (.ref c_l) "most" = some none)
  (qn_Pot_seen:findIn K (.ref c_l) "seen" = some none)
  (qn_Pot_held:findIn K (.ref c_l) "held" = some none)
  (cl_l:K.lookup i_l=some ⟨oc_7,od_7,.func (fnOf "__init__" "Pot.__init__" (aj aP) (ah aP) (ad aP) .none kV_7 dc_7 pm_7 an_7 cd_7 ct_7),sl_7⟩) (co_l:codeIn K cd_7 "Pot.__init__" = true) (ck_l:keepIn K (.ref i_l)=true)
  (mf_8:findIn K (.ref c_l) "come" = some (some (.ref x_I)))
  (ml_8:K.lookup x_I=some ⟨oc_8,od_8,.func (fnOf "come" "Pot.come" (aj bZ) (ah bZ) (ad bZ) (.ref dd_Pot_come) kV_8 dc_8 pm_8 an_8 cd_8 ct_8),sl_8⟩) (mo_8:codeIn K cd_8 "Pot.come" = true) (mk_8:keepIn K (.ref x_I)=true) (mi_8:isFn K (.ref x_I)=true)
  (md_Pot_come:K.lookup dd_Pot_come=some ⟨oe_Pot_come,oo_Pot_come,.seq #[ve_Pot_come] ne_Pot_come,se_Pot_come⟩) (mv_Pot_come:RelV (.int 0) ve_Pot_come)
  (mf_9:findIn K (.ref c_l) "next_sides" = some (some (.ref x_o)))
  (ml_9:K.lookup x_o=some ⟨oc_9,od_9,.func (fnOf "next_sides" "Pot.next_sides" (aj aG) (ah aG) (ad aG) .none kV_9 dc_9 pm_9 an_9 cd_9 ct_9),sl_9⟩) (mo_9:codeIn K cd_9 "Pot.next_sides" = true) (mk_9:keepIn K (.ref x_o)=true) (mi_9:isFn K (.ref x_o)=true)
  (mf_a:findIn K (.ref c_l) "things" = some (some (.ref x_E)))
  (ml_a:K.lookup x_E=some ⟨oc_a,od_a,.func (fnOf "things" "Pot.things" (aj bh) (ah bh) (ad bh) .none kV_a dc_a pm_a an_a cd_a ct_a),sl_a⟩) (mo_a:codeIn K cd_a "Pot.things" = true) (mk_a:keepIn K (.ref x_E)=true) (mi_a:isFn K (.ref x_E)=true)
  (mf_c:findIn K (.ref c_g) "is_told" = some (some (.ref x_i)))
  (ml_c:K.lookup x_i=some ⟨oc_c,od_c,.func (fnOf "is_told" "Told.is_told" (aj aO) (ah aO) (ad aO) .none kV_c dc_c pm_c an_c cd_c ct_c),sl_c⟩) (mo_c:codeIn K cd_c "Told.is_told" = true) (mk_c:keepIn K (.ref x_i)=true) (mi_c:isFn K (.ref x_i)=true)
  (mf_2:findIn K (.ref c_j) "is_told" = some (some (.ref x_m)))
  (ml_2:K.lookup x_m=some ⟨oc_2,od_2,.func (fnOf "is_told" "Die.is_told" (aj aX) (ah aX) (ad aX) .none kV_2 dc_2 pm_2 an_2 cd_2 ct_2),sl_2⟩) (mo_2:codeIn K cd_2 "Die.is_told" = true) (mk_2:keepIn K (.ref x_m)=true) (mi_2:isFn K (.ref x_m)=true)
  (mf_d:findIn K (.ref c_g) "kept" = some (some (.ref x_C)))
  (ml_d:K.lookup x_C=some ⟨oc_d,od_d,.func (fnOf "kept" "Told.kept" (aj bz) (ah bz) (ad bz) .none kV_d dc_d pm_d an_d cd_d ct_d),sl_d⟩) (mo_d:codeIn K cd_d "Told.kept" = true) (mk_d:keepIn K (.ref x_C)=true) (mi_d:isFn K (.ref x_C)=true)
  (mf_3:findIn K (.ref c_j) "kept" = some (some (.ref x_G)))
  (ml_3:K.lookup x_G=some ⟨oc_3,od_3,.func (fnOf "kept" "Die.kept" (aj bU) (ah bU) (ad bU) .none kV_3 dc_3 pm_3 an_3 cd_3 ct_3),sl_3⟩) (mo_3:codeIn K cd_3 "Die.kept" = true) (mk_3:keepIn K (.ref x_G)=true) (mi_3:isFn K (.ref x_G)=true)
  (mf_f:findIn K (.ref c_g) "sides" = some (some (.ref x_t)))
  (ml_f:K.lookup x_t=some ⟨oc_f,od_f,.func (fnOf "sides" "Told.sides" (aj bj) (ah bj) (ad bj) .none kV_f dc_f pm_f an_f cd_f ct_f),sl_f⟩) (mo_f:codeIn K cd_f "Told.sides" = true) (mk_f:keepIn K (.ref x_t)=true) (mi_f:isFn K (.ref x_t)=true)
  (mf_5:findIn K (.ref c_j) "sides" = some (some (.ref x_y)))
  (ml_5:K.lookup x_y=some ⟨oc_5,od_5,.func (fnOf "sides" "Die.sides" (aj bA) (ah bA) (ad bA) .none kV_5 dc_5 pm_5 an_5 cd_5 ct_5),sl_5⟩) (mo_5:codeIn K cd_5 "Die.sides" = true) (mk_5:keepIn K (.ref x_y)=true) (mi_5:isFn K (.ref x_y)=true)
  (mf_e:findIn K (.ref c_g) "parts" = some (some (.ref x_w)))
  (ml_e:K.lookup x_w=some ⟨oc_e,od_e,.func (fnOf "parts" "Told.parts" (aj bp) (ah bp) (ad bp) .none kV_e dc_e pm_e an_e cd_e ct_e),sl_e⟩) (mo_e:codeIn K cd_e "Told.parts" = true) (mk_e:keepIn K (.ref x_w)=true) (mi_e:isFn K (.ref x_w)=true)
  (mf_4:findIn K (.ref c_j) "parts" = some (some (.ref x_z)))
  (ml_4:K.lookup x_z=some ⟨oc_4,od_4,.func (fnOf "parts" "Die.parts" (aj bE) (ah bE) (ad bE) .none kV_4 dc_4 pm_4 an_4 cd_4 ct_4),sl_4⟩) (mo_4:codeIn K cd_4 "Die.parts" = true) (mk_4:keepIn K (.ref x_z)=true) (mi_4:isFn K (.ref x_z)=true)
  (mf_1:findIn K (.ref c_j) "after" = some (some (.ref x_r)))
  (ml_1:K.lookup x_r=some ⟨oc_1,od_1,.func (fnOf "after" "Die.after" (aj bx) (ah bx) (ad bx) .none kV_1 dc_1 pm_1 an_1 cd_1 ct_1),sl_1⟩) (mo_1:codeIn K cd_1 "Die.after" = true) (mk_1:keepIn K (.ref x_r)=true) (mi_1:isFn K (.ref x_r)=true)
  (lca_10:cd16=.ref lc_b) (lct_10:K.lookup lc_b=some ⟨lo_10,lod_10,.fields lvs_10,lsl_10⟩) (lcq_10:lvs_10[11]? = some (.ref lp_b)) (lch_b:codeHdIn K lc_b lp_b=true)
  (ltnd:([lp_b]:List Addr).Nodup)
  (fact_tt:eL K c_n c_n=some true)
  (fact_tm:eL K c_q c_n=some false)
  (fact_tm2:eL K c_q c_q=some true)
  (fact_tw:eL K c_a c_n=some false)
  (fact_tw2:eL K c_a c_q=some false)
  (fact_tw3:eL K c_a c_a=some true)
  (z0:nsIn K mainGlobals "abs" = some none)
  (z1:nsIn K mainGlobals "all" = some none)
  (z2:nsIn K mainGlobals "bool" = some none)
  (z3:nsIn K mainGlobals "enumerate" = some none)
  (z4:nsIn K mainGlobals "int" = some none)
  (z5:nsIn K mainGlobals "isinstance" = some none)
  (z6:nsIn K mainGlobals "len" = some none)
  (z7:nsIn K mainGlobals "list" = some none)
  (z8:nsIn K mainGlobals "max" = some none)
  (z9:nsIn K mainGlobals "min" = some none)
  (z10:nsIn K mainGlobals "range" = some none)
  (z11:nsIn K mainGlobals "sorted" = some none)
  (z12:nsIn K mainGlobals "str" = some none)
  (z13:nsIn K mainGlobals "sum" = some none)
  (z14:nsIn K mainGlobals "tuple" = some none) (r0:RelV (.str "abcdefghijklmnopqrstuvwxyz") u0) (r1:RelV (.int 8) u1) (r2:RelV (.int 4096) u2) (r3:RelV (.int 24) u3) (r4:RelV (.int 24) u4) (r5:RelV (.int 300) u5):∃ a:Ad,Txt K mg a/\(tabs a).map (·.1)=[lp_b]:=by
 refine⟨{ f_h:=f0,d_h:=fnOf "greatest_divisor" "greatest_divisor" (aj aB) (ah aB) (ad aB) .none kV0 dc0 pm0 an0 cd0 ct0,f_k:=f1,d_k:=fnOf "least_multiple" "least_multiple" (aj aH) (ah aH) (ad aH) .none kV1 dc1 pm1 an1 cd1 ct1,f_K:=f2,d_K:=fnOf "share" "share" (aj dc) (ah dc) (ad dc) .none kV2 dc2 pm2 an2 cd2 ct2,f_ab:=f3,d_ab:=fnOf "total" "total" (aj db) (ah db) (ad db) .none kV3 dc3 pm3 an3 cd3 ct3,f_x:=f4,d_x:=fnOf "is_whole" "is_whole" (aj bR) (ah bR) (ad bR) .none kV4 dc4 pm4 an4 cd4 ct4,f_L:=f5,d_L:=fnOf "is_made_of" "is_made_of" (aj bi) (ah bi) (ad bi) .none kV5 dc5 pm5 an5 cd5 ct5,f_Z:=f6,d_Z:=fnOf "is_name" "is_name" (aj b8) (ah b8) (ad b8) .none kV6 dc6 pm6 an6 cd6 ct6,f_s:=f7,d_s:=fnOf "can_be_thrown" "can_be_thrown" (aj aL) (ah aL) (ad aL) .none kV7 dc7 pm7 an7 cd7 ct7,f_W:=f8,d_W:=fnOf "drawn" "drawn" (aj da) (ah da) (ad da) .none kV8 dc8 pm8 an8 cd8 ct8,f_R:=f9,d_R:=fnOf "ways_of" "ways_of" (aj cq) (ah cq) (ad cq) .none kV9 dc9 pm9 an9 cd9 ct9,f_U:=f10,d_U:=fnOf "table" "table" (aj dj) (ah dj) (ad dj) .none kV10 dc10 pm10 an10 cd10 ct10,f_A:=f11,d_A:=fnOf "matrix_of" "matrix_of" (aj bB) (ah bB) (ad bB) .none kV11 dc11 pm11 an11 cd11 ct11,f_M:=f12,d_M:=fnOf "matrix_row" "matrix_row" (aj be) (ah be) (ad be) .none kV12 dc12 pm12 an12 cd12 ct12,f_H:=f13,d_H:=fnOf "held_with" "held_with" (aj bD) (ah bD) (ad bD) .none kV13 dc13 pm13 an13 cd13 ct13,f_p:=f14,d_p:=fnOf "streamed" "streamed" (aj bQ) (ah bQ) (ad bQ) .none kV14 dc14 pm14 an14 cd14 ct14,f_v:=f15,d_v:=fnOf "stream_node" "stream_node" (aj aW) (ah aW) (ad aW) .none kV15 dc15 pm15 an15 cd15 ct15,f_b:=f16,d_b:=fnOf "stream_make" "stream_make" (aj aR) (ah aR) (ad aR) .none kV16 dc16 pm16 an16 cd16 ct16,f_u:=f17,d_u:=fnOf "_law_cell_at" "_law_cell_at" (aj bw) (ah bw) (ad bw) .none kV17 dc17 pm17 an17 cd17 ct17,f_Y:=f18,d_Y:=fnOf "_law_mix" "_law_mix" (aj dh) (ah dh) (ad dh) .none kV18 dc18 pm18 an18 cd18 ct18,f_B:=f19,d_B:=fnOf "_law_numbers" "_law_numbers" (aj bC) (ah bC) (ad bC) .none kV19 dc19 pm19 an19 cd19 ct19,f_P:=f20,d_P:=fnOf "_law_choose" "_law_choose" (aj bV) (ah bV) (ad bV) .none kV20 dc20 pm20 an20 cd20 ct20,f_V:=f21,d_V:=fnOf "_law_sets" "_law_sets" (aj cK) (ah cK) (ad cK) .none kV21 dc21 pm21 an21 cd21 ct21,f_X:=f22,d_X:=fnOf "_law_ways" "_law_ways" (aj cM) (ah cM) (ad cM) .none kV22 dc22 pm22 an22 cd22 ct22,f_J:=f23,d_J:=fnOf "_law_by_pot" "_law_by_pot" (aj bW) (ah bW) (ad bW) .none kV23 dc23 pm23 an23 cd23 ct23,f_Q:=f24,d_Q:=fnOf "_law_throws" "_law_throws" (aj bT) (ah bT) (ad bT) .none kV24 dc24 pm24 an24 cd24 ct24,f_N:=f25,d_N:=fnOf "_law_place" "_law_place" (aj cf) (ah cf) (ad cf) .none kV25 dc25 pm25 an25 cd25 ct25,f_O:=f26,d_O:=fnOf "_law_drawn" "_law_drawn" (aj cb) (ah cb) (ad cb) .none kV26 dc26 pm26 an26 cd26 ct26,f_T:=f27,d_T:=fnOf "_law_parts" "_law_parts" (aj b9) (ah b9) (ad b9) .none kV27 dc27 pm27 an27 cd27 ct27,f_D:=f28,d_D:=fnOf "_law_refused" "_law_refused" (aj bG) (ah bG) (ad bG) .none kV28 dc28 pm28 an28 cd28 ct28,f_F:=f29,d_F:=fnOf "_law_too_many" "_law_too_many" (aj bf) (ah bf) (ad bf) .none kV29 dc29 pm29 an29 cd29 ct29,f_ac:=f30,d_ac:=fnOf "law" "law" (aj gD) (ah gD) (ad gD) .none kV30 dc30 pm30 an30 cd30 ct30,c_S:=c_S,c_a:=c_a,i_a:=i_a,e_a:=fnOf "__init__" "NoThrow.__init__" (aj aA) (ah aA) (ad aA) .none kV_6 dc_6 pm_6 an_6 cd_6 ct_6,c_q:=c_q,c_n:=c_n,c_aa:=c_aa,c_g:=c_g,i_g:=i_g,e_g:=fnOf "__init__" "Told.__init__" (aj aK) (ah aK) (ad aK) .none kV_b dc_b pm_b an_b cd_b ct_b,c_j:=c_j,i_j:=i_j,e_j:=fnOf "__init__" "Die.__init__" (aj aQ) (ah aQ) (ad aQ) .none kV_0 dc_0 pm_0 an_0 cd_0 ct_0,c_l:=c_l,i_l:=i_l,e_l:=fnOf "__init__" "Pot.__init__" (aj aP) (ah aP) (ad aP) .none kV_7 dc_7 pm_7 an_7 cd_7 ct_7,x_I:=x_I,y_I:=fnOf "come" "Pot.come" (aj bZ) (ah bZ) (ad bZ) (.ref dd_Pot_come) kV_8 dc_8 pm_8 an_8 cd_8 ct_8,v_Pot_come:=ve_Pot_come,x_o:=x_o,y_o:=fnOf "next_sides" "Pot.next_sides" (aj aG) (ah aG) (ad aG) .none kV_9 dc_9 pm_9 an_9 cd_9 ct_9,x_E:=x_E,y_E:=fnOf "things" "Pot.things" (aj bh) (ah bh) (ad bh) .none kV_a dc_a pm_a an_a cd_a ct_a,x_i:=x_i,y_i:=fnOf "is_told" "Told.is_told" (aj aO) (ah aO) (ad aO) .none kV_c dc_c pm_c an_c cd_c ct_c,x_m:=x_m,y_m:=fnOf "is_told" "Die.is_told" (aj aX) (ah aX) (ad aX) .none kV_2 dc_2 pm_2 an_2 cd_2 ct_2,x_C:=x_C,y_C:=fnOf "kept" "Told.kept" (aj bz) (ah bz) (ad bz) .none kV_d dc_d pm_d an_d cd_d ct_d,x_G:=x_G,y_G:=fnOf "kept" "Die.kept" (aj bU) (ah bU) (ad bU) .none kV_3 dc_3 pm_3 an_3 cd_3 ct_3,x_t:=x_t,y_t:=fnOf "sides" "Told.sides" (aj bj) (ah bj) (ad bj) .none kV_f dc_f pm_f an_f cd_f ct_f,x_y:=x_y,y_y:=fnOf "sides" "Die.sides" (aj bA) (ah bA) (ad bA) .none kV_5 dc_5 pm_5 an_5 cd_5 ct_5,x_w:=x_w,y_w:=fnOf "parts" "Told.parts" (aj bp) (ah bp) (ad bp) .none kV_e dc_e pm_e an_e cd_e ct_e,x_z:=x_z,y_z:=fnOf "parts" "Die.parts" (aj bE) (ah bE) (ad bE) .none kV_4 dc_4 pm_4 an_4 cd_4 ct_4,x_r:=x_r,y_r:=fnOf "after" "Die.after" (aj bx) (ah bx) (ad bx) .none kV_1 dc_1 pm_1 an_1 cd_1 ct_1,lc_b:=lc_b,lp_b:=lp_b },?_,rfl⟩
 exact {
  lcd_b:=lca_10
  lch_b:=lch_b
  tnd:=ltnd
  F_h:=ao l0 c0 k0
  B_h:=(ao l0 c0 k0).binds (ps:=["one","other"]) λ_ _ _ _ _ _ us hl=>(by obtain⟨_,_,rfl⟩:=us2 hl;rfl)
  m_h:=mg_of X G a0
  F_k:=ao l1 c1 k1
  B_k:=(ao l1 c1 k1).binds (ps:=["numbers"]) λ_ _ _ _ _ _ us hl=>(by obtain⟨_,rfl⟩:=us1 hl;rfl)
  m_k:=mg_of X G a1
  F_K:=ao l2 c2 k2
  B_K:=(ao l2 c2 k2).binds (ps:=["top","bottom"]) λ_ _ _ _ _ _ us hl=>(by obtain⟨_,_,rfl⟩:=us2 hl;rfl)
  m_K:=mg_of X G a2
  F_ab:=ao l3 c3 k3
  B_ab:=(ao l3 c3 k3).binds (ps:=["fractions"]) λ_ _ _ _ _ _ us hl=>(by obtain⟨_,rfl⟩:=us1 hl;rfl)
  m_ab:=mg_of X G a3
  F_x:=ao l4 c4 k4
  B_x:=(ao l4 c4 k4).binds (ps:=["thing","low","high"]) λ_ _ _ _ _ _ us hl=>(by obtain⟨_,_,_,rfl⟩:=us3 hl;rfl)
  m_x:=mg_of X G a4
  F_L:=ao l5 c5 k5
  B_L:=(ao l5 c5 k5).binds (ps:=["text","signs","most"]) λ_ _ _ _ _ _ us hl=>(by obtain⟨_,_,_,rfl⟩:=us3 hl;rfl)
  m_L:=mg_of X G a5
  F_Z:=ao l6 c6 k6
  B_Z:=(ao l6 c6 k6).binds (ps:=["thing"]) λ_ _ _ _ _ _ us hl=>(by obtain⟨_,rfl⟩:=us1 hl;rfl)
  m_Z:=mg_of X G a6
  F_s:=ao l7 c7 k7
  B_s:=(ao l7 c7 k7).binds (ps:=["node","throw"]) λ_ _ _ _ _ _ us hl=>(by obtain⟨_,_,rfl⟩:=us2 hl;rfl)
  m_s:=mg_of X G a7
  F_W:=ao l8 c8 k8
  B_W:=(ao l8 c8 k8).binds (ps:=["node","throws"]) λ_ _ _ _ _ _ us hl=>(by obtain⟨_,_,rfl⟩:=us2 hl;rfl)
  m_W:=mg_of X G a8
  F_R:=ao l9 c9 k9
  B_R:=(ao l9 c9 k9).binds (ps:=["node"]) λ_ _ _ _ _ _ us hl=>(by obtain⟨_,rfl⟩:=us1 hl;rfl)
  m_R:=mg_of X G a9
  F_U:=ao l10 c10 k10
  B_U:=(ao l10 c10 k10).binds (ps:=["node"]) λ_ _ _ _ _ _ us hl=>(by obtain⟨_,rfl⟩:=us1 hl;rfl)
  m_U:=mg_of X G a10
  F_A:=ao l11 c11 k11
  B_A:=(ao l11 c11 k11).binds (ps:=["node","places"]) λ_ _ _ _ _ _ us hl=>(by obtain⟨_,_,rfl⟩:=us2 hl;rfl)
  m_A:=mg_of X G a11
  F_M:=ao l12 c12 k12
  B_M:=(ao l12 c12 k12).binds (ps:=["one","places","tops","bottom"]) λ_ _ _ _ _ _ us hl=>(by obtain⟨_,_,_,_,rfl⟩:=us4 hl;rfl)
  m_M:=mg_of X G a12
  F_H:=ao l13 c13 k13
  B_H:=(ao l13 c13 k13).binds (ps:=["held","most","thing","throw"]) λ_ _ _ _ _ _ us hl=>(by obtain⟨_,_,_,_,rfl⟩:=us4 hl;rfl)
  m_H:=mg_of X G a13
  F_p:=ao l14 c14 k14
  B_p:=(ao l14 c14 k14).binds (ps:=["many","most"]) λ_ _ _ _ _ _ us hl=>(by obtain⟨_,_,rfl⟩:=us2 hl;rfl)
  m_p:=mg_of X G a14
  F_v:=ao l15 c15 k15
  B_v:=(ao l15 c15 k15).binds (ps:=["held","number","many"]) λ_ _ _ _ _ _ us hl=>(by obtain⟨_,_,_,rfl⟩:=us3 hl;rfl)
  m_v:=mg_of X G a15
  F_b:=ao l16 c16 k16
  B_b:=(ao l16 c16 k16).binds (ps:=["held","number","many"]) λ_ _ _ _ _ _ us hl=>(by obtain⟨_,_,_,rfl⟩:=us3 hl;rfl)
  m_b:=mg_of X G a16
  F_u:=ao l17 c17 k17
  B_u:=(ao l17 c17 k17).binds (ps:=["_law_script","_law_k"]) λ_ _ _ _ _ _ us hl=>(by obtain⟨_,_,rfl⟩:=us2 hl;rfl)
  m_u:=mg_of X G a17
  F_Y:=ao l18 c18 k18
  B_Y:=(ao l18 c18 k18).binds (ps:=["_law_cell","_law_k"]) λ_ _ _ _ _ _ us hl=>(by obtain⟨_,_,rfl⟩:=us2 hl;rfl)
  m_Y:=mg_of X G a18
  F_B:=ao l19 c19 k19
  B_B:=(ao l19 c19 k19).binds (ps:=["_law_cell","_law_digits","_law_bases"]) λ_ _ _ _ _ _ us hl=>(by obtain⟨_,_,_,rfl⟩:=us3 hl;rfl)
  m_B:=mg_of X G a19
  F_P:=ao l20 c20 k20
  B_P:=(ao l20 c20 k20).binds (ps:=["_law_many","_law_few"]) λ_ _ _ _ _ _ us hl=>(by obtain⟨_,_,rfl⟩:=us2 hl;rfl)
  m_P:=mg_of X G a20
  F_V:=ao l21 c21 k21
  B_V:=(ao l21 c21 k21).binds (ps:=["_law_many","_law_few"]) λ_ _ _ _ _ _ us hl=>(by obtain⟨_,_,rfl⟩:=us2 hl;rfl)
  m_V:=mg_of X G a21
  F_X:=ao l22 c22 k22
  B_X:=(ao l22 c22 k22).binds (ps:=["_law_many","_law_few","_law_most"]) λ_ _ _ _ _ _ us hl=>(by obtain⟨_,_,_,rfl⟩:=us3 hl;rfl)
  m_X:=mg_of X G a22
  F_J:=ao l23 c23 k23
  B_J:=(ao l23 c23 k23).binds (ps:=["_law_many","_law_most","_law_throws_here"]) λ_ _ _ _ _ _ us hl=>(by obtain⟨_,_,_,rfl⟩:=us3 hl;rfl)
  m_J:=mg_of X G a23
  F_Q:=ao l24 c24 k24
  B_Q:=(ao l24 c24 k24).binds (ps:=["_law_cell","_law_digits","_law_many","_law_most"]) λ_ _ _ _ _ _ us hl=>(by obtain⟨_,_,_,_,rfl⟩:=us4 hl;rfl)
  m_Q:=mg_of X G a24
  F_N:=ao l25 c25 k25
  B_N:=(ao l25 c25 k25).binds (ps:=["_law_node","_law_throws_here"]) λ_ _ _ _ _ _ us hl=>(by obtain⟨_,_,rfl⟩:=us2 hl;rfl)
  m_N:=mg_of X G a25
  F_O:=ao l26 c26 k26
  B_O:=(ao l26 c26 k26).binds (ps:=["_law_cell","_law_digits","_law_many","_law_most"]) λ_ _ _ _ _ _ us hl=>(by obtain⟨_,_,_,_,rfl⟩:=us4 hl;rfl)
  m_O:=mg_of X G a26
  F_T:=ao l27 c27 k27
  B_T:=(ao l27 c27 k27).binds (ps:=["_law_throws_here","_law_many","_law_most"]) λ_ _ _ _ _ _ us hl=>(by obtain⟨_,_,_,rfl⟩:=us3 hl;rfl)
  m_T:=mg_of X G a27
  F_D:=ao l28 c28 k28
  B_D:=(ao l28 c28 k28).binds (ps:=["_law_way","_law_thing"]) λ_ _ _ _ _ _ us hl=>(by obtain⟨_,_,rfl⟩:=us2 hl;rfl)
  m_D:=mg_of X G a28
  F_F:=ao l29 c29 k29
  B_F:=(ao l29 c29 k29).binds (ps:=["_law_most"]) λ_ _ _ _ _ _ us hl=>(by obtain⟨_,rfl⟩:=us1 hl;rfl)
  m_F:=mg_of X G a29
  F_ac:=ao l30 c30 k30
  m_ac:=mg_of X G a30
  F_I:=vN ml_8 mo_8 mk_8
  B_I:=jf (ds:=[]) rfl md_Pot_come rfl λus hl=>match us,hl with | [_,_,_],_=>⟨_,rfl,rfl⟩
  Bd_Pot_come:=jf (ds:=[ve_Pot_come]) rfl md_Pot_come rfl λus hl=>let ⟨_,_,e⟩:=yM hl;e ▸ ⟨_,rfl,rfl⟩
  Rv_Pot_come:=mv_Pot_come
  F_o:=ao ml_9 mo_9 mk_9
  B_o:=(ao ml_9 mo_9 mk_9).binds (ps:=["self"]) λ_ _ _ _ _ _ us hl=>(by obtain⟨_,rfl⟩:=us1 hl;rfl)
  F_E:=ao ml_a mo_a mk_a
  B_E:=(ao ml_a mo_a mk_a).binds (ps:=["self"]) λ_ _ _ _ _ _ us hl=>(by obtain⟨_,rfl⟩:=us1 hl;rfl)
  F_i:=ao ml_c mo_c mk_c
  B_i:=(ao ml_c mo_c mk_c).binds (ps:=["self"]) λ_ _ _ _ _ _ us hl=>(by obtain⟨_,rfl⟩:=us1 hl;rfl)
  F_m:=ao ml_2 mo_2 mk_2
  B_m:=(ao ml_2 mo_2 mk_2).binds (ps:=["self"]) λ_ _ _ _ _ _ us hl=>(by obtain⟨_,rfl⟩:=us1 hl;rfl)
  F_C:=ao ml_d mo_d mk_d
  B_C:=(ao ml_d mo_d mk_d).binds (ps:=["self"]) λ_ _ _ _ _ _ us hl=>(by obtain⟨_,rfl⟩:=us1 hl;rfl)
  F_G:=ao ml_3 mo_3 mk_3
  B_G:=(ao ml_3 mo_3 mk_3).binds (ps:=["self"]) λ_ _ _ _ _ _ us hl=>(by obtain⟨_,rfl⟩:=us1 hl;rfl)
  F_t:=ao ml_f mo_f mk_f
  B_t:=(ao ml_f mo_f mk_f).binds (ps:=["self"]) λ_ _ _ _ _ _ us hl=>(by obtain⟨_,rfl⟩:=us1 hl;rfl)
  F_y:=ao ml_5 mo_5 mk_5
  B_y:=(ao ml_5 mo_5 mk_5).binds (ps:=["self"]) λ_ _ _ _ _ _ us hl=>(by obtain⟨_,rfl⟩:=us1 hl;rfl)
  F_w:=ao ml_e mo_e mk_e
  B_w:=(ao ml_e mo_e mk_e).binds (ps:=["self"]) λ_ _ _ _ _ _ us hl=>(by obtain⟨_,rfl⟩:=us1 hl;rfl)
  F_z:=ao ml_4 mo_4 mk_4
  B_z:=(ao ml_4 mo_4 mk_4).binds (ps:=["self"]) λ_ _ _ _ _ _ us hl=>(by obtain⟨_,rfl⟩:=us1 hl;rfl)
  F_r:=ao ml_1 mo_1 mk_1
  B_r:=(ao ml_1 mo_1 mk_1).binds (ps:=["self","throw"]) λ_ _ _ _ _ _ us hl=>(by obtain⟨_,_,rfl⟩:=us2 hl;rfl)
  mt_I:=⟨mf_8,mi_8,mk_8⟩
  mt_o:=⟨mf_9,mi_9,mk_9⟩
  mt_E:=⟨mf_a,mi_a,mk_a⟩
  mt_i:=⟨mf_c,mi_c,mk_c⟩
  mt_m:=⟨mf_2,mi_2,mk_2⟩
  mt_C:=⟨mf_d,mi_d,mk_d⟩
  mt_G:=⟨mf_3,mi_3,mk_3⟩
  mt_t:=⟨mf_f,mi_f,mk_f⟩
  mt_y:=⟨mf_5,mi_5,mk_5⟩
  mt_w:=⟨mf_e,mi_e,mk_e⟩
  mt_z:=⟨mf_4,mi_4,mk_4⟩
  mt_r:=⟨mf_1,mi_1,mk_1⟩
  mc_g:=mg_of X G ca_g
  cl_g:=⟨pa_g,pb_g,pc_g,pd_g⟩
  mk_g:=⟨qa_g,qb_g,qc_g,qd_g⟩
  na_Told_rising:=qn_Told_rising
  Fi_g:=ao cl_g co_g ck_g
  Bi_g:=(ao cl_g co_g ck_g).binds (ps:=["self","kept"]) λ_ _ _ _ _ _ us hl=>(by obtain⟨_,_,rfl⟩:=us2 hl;rfl)
  mc_j:=mg_of X G ca_j
  cl_j:=⟨pa_j,pb_j,pc_j,pd_j⟩
  mk_j:=⟨qa_j,qb_j,qc_j,qd_j⟩
  na_Die_makes:=qn_Die_makes
  Fi_j:=ao cl_j co_j ck_j
  Bi_j:=(ao cl_j co_j ck_j).binds (ps:=["self","parts"]) λ_ _ _ _ _ _ us hl=>(by obtain⟨_,_,rfl⟩:=us2 hl;rfl)
  mc_l:=mg_of X G ca_l
  cl_l:=⟨pa_l,pb_l,pc_l,pd_l⟩
  mk_l:=⟨qa_l,qb_l,qc_l,qd_l⟩
  na_Pot_most:=qn_Pot_most
  na_Pot_seen:=qn_Pot_seen
  na_Pot_held:=qn_Pot_held
  Fi_l:=ao cl_l co_l ck_l
  Bi_l:=(ao cl_l co_l ck_l).binds (ps:=["self","most"]) λ_ _ _ _ _ _ us hl=>(by obtain⟨_,_,rfl⟩:=us2 hl;rfl)
  g_LETTERS:=⟨u0,mg_of X G b0,r0⟩
  g_MOST_LETTERS:=⟨u1,mg_of X G b1,r1⟩
  g_MOST_WAYS:=⟨u2,mg_of X G b2,r2⟩
  g_MOST_KEPT:=⟨u3,mg_of X G b3,r3⟩
  g_MOST_STREAMED:=⟨u4,mg_of X G b4,r4⟩
  g_MOST_COME:=⟨u5,mg_of X G b5,r5⟩
  mc_a:=mg_of X G ca_a
  kc_NoThrow:=cb_a
  xc_a:=uI cc_a
  xh_a:=tm cc_a
  xi_NoThrow:=cx_a
  fn_NoThrow:=cg_a
  Fi_a:=ao cl_a co_a ck_a
  Bi_a:=(ao cl_a co_a ck_a).binds (ps:=["self","place"]) λ_ _ _ _ _ _ us hl=>(by obtain⟨_,_,rfl⟩:=us2 hl;rfl)
  sx_NoThrow_place:=An cs_NoThrow_place
  mc_q:=mg_of X G ca_q
  kc_TooMany:=cb_q
  xc_q:=uI cc_q
  xh_q:=tm cc_q
  xi_TooMany:=cx_q
  mc_n:=mg_of X G ca_n
  kc_NoThing:=cb_n
  xc_n:=uI cc_n
  xh_n:=tm cc_n
  xi_NoThing:=cx_n
  tt:=fact_tt
  tm2:=fact_tm2
  tw3:=fact_tw3
  z_abs:=mg_none_of X G z0
  z_all:=mg_none_of X G z1
  z_bool:=mg_none_of X G z2
  z_enumerate:=mg_none_of X G z3
  z_int:=mg_none_of X G z4
  z_isinstance:=mg_none_of X G z5
  z_len:=mg_none_of X G z6
  z_list:=mg_none_of X G z7
  z_max:=mg_none_of X G z8
  z_min:=mg_none_of X G z9
  z_range:=mg_none_of X G z10
  z_sorted:=mg_none_of X G z11
  z_str:=mg_none_of X G z12
  z_sum:=mg_none_of X G z13
  z_tuple:=mg_none_of X G z14
  bl:=λs u=>.of_eq rfl }
end My
open PySem PySem.W PyProof.Rows
namespace PySem.W.Fast
def tw14443477715528210554:=0
def tw12337803435615658844:=0
def tw16822542164360014497:=0
def tw1767600416366713731:=0
def tw16455687629603328453:=0
def tw6209555681474882533:=0
def tw12808166415205416711:=0
def tw1596786083708388713:=0
def tw17395018966600328363:=0
def tw14045058780611601804:=0
def tw15818595524984354700:=0
def tw3786549573015883245:=0
def tw7107825651962101105:=0
def tw15202668057684711699:=0
def tw16387612465391858197:=0
def tw5645664424670495834:=0
def tw9852283698732836702:=0
def tw1010001135922048252:=0
def tw10186445480424226808:=0
def tw1019312871617323676:=0
def tw10193726522365109824:=0
def tw10247324671031060370:=0
def tw10253221777746914526:=0
def tw10256262345071431528:=0
def tw10279018266639457732:=0
def tw10285449102385999001:=0
def tw10445508103803420271:=0
def tw10553157099429758740:=0
def tw10580737976660353132:=0
def tw10596486906312681589:=0
def tw10641554340242160355:=0
def tw10685067593120885815:=0
def tw10832091096270792847:=0
def tw10885771374012501060:=0
def tw10894401905586895724:=0
def tw10917151684860406863:=0
def tw10917575992490656003:=0
def tw10928070141181650308:=0
def tw1096967150922740770:=0
def tw11018258346032300776:=0
def tw11020580787676651637:=0
def tw11048098654495013686:=0
def tw11058143055769244663:=0
def tw11129296019242452990:=0
def tw11175153926814141569:=0
def tw11195184766315671621:=0
def tw11237862080318684208:=0
def tw11564867947637300652:=0
def tw11666740574844920358:=0
def tw11669936197077072593:=0
def tw11742238808397029821:=0
def tw11748010760940386824:=0
def tw11749510190378686975:=0
def tw11758916932281396566:=0
def tw11926669577244295180:=0
def tw11937723963679048288:=0
def tw12110158260953390241:=0
def tw12111103294185621581:=0
def tw12176657133294804834:=0
def tw12231290675870416253:=0
def tw12344581806703823461:=0
def tw1236935674158979070:=0
def tw12416612098339125009:=0
def tw1241706007904429928:=0
def tw12424875369572055693:=0
def tw12440183268767464876:=0
def tw12444930363271959066:=0
def tw12478649014295741959:=0
def tw12518399273066305803:=0
def tw12519254866367479900:=0
def tw12547601353071266457:=0
def tw12650037393207696825:=0
def tw12687466811924668620:=0
def tw12705803571253166232:=0
def tw12731974006252266566:=0
def tw1275025490173370775:=0
def tw12774118287348523499:=0
def tw12845567810155569267:=0
def tw12855586106575649269:=0
def tw12915185120057380183:=0
def tw12937343153362813485:=0
def tw13021867158053916481:=0
def tw13094840659880358067:=0
def tw13150677532679688653:=0
def tw13167926690532675699:=0
def tw13187497837862361972:=0
def tw13230723438145394860:=0
def tw13307038710540229458:=0
def tw13314894252122449024:=0
def tw1332737549644911198:=0
def tw13332314871753613257:=0
def tw13394808117957921989:=0
def tw13403248755815101860:=0
def tw13446940800272731602:=0
def tw13494273030037973766:=0
def tw13634258176187470960:=0
def tw13653837002084867423:=0
def tw1366878103007398988:=0
def tw13683367803129589737:=0
def tw13689811008595916073:=0
def tw13694486364582807148:=0
def tw13767725028048719210:=0
def tw13794290343717509895:=0
def tw13805237765440426373:=0
def tw13830380918835036882:=0
def tw13845041267749293958:=0
def tw13864947678404131813:=0
def tw13905163488001290797:=0
def tw13980992090753359442:=0
def tw14061212652402970747:=0
def tw14203737130102070085:=0
def tw14252788364794621444:=0
def tw14338443561984533022:=0
def tw14359759665998310965:=0
def tw14493116020230399811:=0
def tw14600830056416805516:=0
def tw14632184501697950044:=0
def tw14635460761593595660:=0
def tw14667320484541734509:=0
def tw14720112825182695143:=0
def tw14795440244258107810:=0
def tw14795598433292645889:=0
def tw14843751950252244034:=0
def tw14853054078881656979:=0
def tw14892656842597693736:=0
def tw15014930090731348667:=0
def tw1502085949556375281:=0
def tw15026987534833509936:=0
def tw15030599347131074884:=0
def tw15032631156839614047:=0
def tw15150332679262193678:=0
def tw15157123038307993975:=0
def tw15161873066660692156:=0
def tw15170603488982297463:=0
def tw15176485785982547585:=0
def tw15191723354820670252:=0
def tw15251497849054845759:=0
def tw15332614244173718922:=0
def tw15339464090854663771:=0
def tw15369223406431532141:=0
def tw15378695755503606820:=0
def tw1550190811817287568:=0
def tw15588643173789840906:=0
def tw15620533434420837368:=0
def tw15622444783959995425:=0
def tw15675611548609159316:=0
def tw15744570616045255434:=0
def tw15745231241019505454:=0
def tw15790404341811086790:=0
def tw1579210410059098271:=0
def tw15836132897064196673:=0
def tw16047888936241340737:=0
def tw16223555451537555292:=0
def tw16231449269825716110:=0
def tw16249909612730400183:=0
def tw16329261122197872510:=0
def tw16341923251392873450:=0
def tw16366199983729214554:=0
def tw16377568344290507101:=0
def tw16431343781361809465:=0
def tw16502606092142247692:=0
def tw16512837843960778004:=0
def tw1651765248832872524:=0
def tw16517693164963221755:=0
def tw16530386091433630413:=0
def tw16588344593013148623:=0
def tw1660781002904828139:=0
def tw16654453241465689108:=0
def tw16662889915600735973:=0
def tw16671103566717672637:=0
def tw1668408020349210232:=0
def tw16690285733864871377:=0
def tw16703747430237037838:=0
def tw16715736745757018898:=0
def tw16717616341983507142:=0
def tw16745774430825018476:=0
def tw16839937253086673283:=0
def tw16856616942384050658:=0
def tw16861641788119503356:=0
def tw16880663714974933506:=0
def tw1695905412615995838:=0
def tw16959967982503171714:=0
def tw16970099191919985492:=0
def tw16994424775614946300:=0
def tw17057478856493182235:=0
def tw17144378705166620131:=0
def tw1715092196928815442:=0
def tw1715992514052544550:=0
def tw17161598214747467806:=0
def tw17257157009131000146:=0
def tw17303643001108099192:=0
def tw17307527458200931459:=0
def tw17312802576858204965:=0
def tw1737327821790174437:=0
def tw17392800293319247075:=0
def tw1749961438072225698:=0
def tw17546533150861737871:=0
def tw1757768993798671414:=0
def tw17603065594939113459:=0
def tw17672904669687131738:=0
def tw17721344367943525853:=0
def tw17751934108610970080:=0
def tw17767922567346380780:=0
def tw17831816771043001432:=0
def tw17870060980241626995:=0
def tw17893175509690372615:=0
def tw17918017046138271131:=0
def tw17957981440065718573:=0
def tw17959200192434623244:=0
def tw17997008798866893973:=0
def tw18067514486104763574:=0
def tw18109250131085175884:=0
def tw18157908971866338034:=0
def tw18259826904396051064:=0
def tw18337313234836001237:=0
def tw1835124071613201822:=0
def tw18408896401178125229:=0
def tw18409820155735686145:=0
def tw1849548404238544673:=0
def tw1910091662418717357:=0
def tw1934128655944206408:=0
def tw1980917975295661432:=0
def tw2022879488511071250:=0
def tw203577809518041594:=0
def tw2095662336552652669:=0
def tw2109302851577982826:=0
def tw2138542805564657291:=0
def tw218122210267827829:=0
def tw2192910474140668096:=0
def tw2209185099932522428:=0
def tw2223621363863178097:=0
def tw2254236634506109679:=0
def tw2255343126342361553:=0
def tw229350117926042794:=0
def tw2333318540582683876:=0
def tw2396877935216947729:=0
def tw2402388191826934497:=0
def tw2465177780535835531:=0
def tw2531163765627170429:=0
def tw2583308208989142828:=0
def tw2590126491155777801:=0
def tw2626159025895764797:=0
def tw2712191545037086011:=0
def tw2728274000848351993:=0
def tw2752749712437308345:=0
def tw2792439655590068322:=0
def tw2863961143831980354:=0
def tw3005273308056828670:=0
def tw3146154943256391255:=0
def tw3149946414283400824:=0
def tw3178885373963562967:=0
def tw3185913377725250546:=0
def tw3284138665727898951:=0
def tw3334015473973125295:=0
def tw3338999797007477214:=0
def tw3440913149166806481:=0
def tw3458577534559610965:=0
def tw3567213346872308072:=0
def tw3663158201267689247:=0
def tw3698010727034837377:=0
def tw3746408965058018707:=0
def tw375944126724127997:=0
def tw377243996729455981:=0
def tw3854773892027850249:=0
def tw3917285422783401815:=0
def tw3925803208469293250:=0
def tw3944303289028512000:=0
def tw4005357705616376842:=0
def tw4013449654580690911:=0
def tw4018808888648332147:=0
def tw4060590469621059704:=0
def tw4063200676943058759:=0
def tw4138886466773583913:=0
def tw4166907786138974490:=0
def tw416897271480735269:=0
def tw4344705581399653865:=0
def tw4349549805107259081:=0
def tw4464251154101136549:=0
def tw4491886256182884121:=0
def tw4530420650777972208:=0
def tw4533853195570050730:=0
def tw4671612411582142299:=0
def tw4875046001451533114:=0
def tw4895526795544563804:=0
def tw4900929875404357467:=0
def tw490947217957452392:=0
def tw4972445978306368948:=0
def tw5007076475105871733:=0
def tw5137323803430094113:=0
def tw5151570884130504273:=0
def tw5162702093688933689:=0
def tw523923494666825684:=0
def tw5241528068239018341:=0
def tw5376958918576976128:=0
def tw5433603407682782628:=0
def tw5469331727195779458:=0
def tw5518156109265446866:=0
def tw5635241991805683879:=0
def tw5793687400498630975:=0
def tw5794399520254511975:=0
def tw5843974631523759065:=0
def tw5877692248705942826:=0
def tw5883734311255102438:=0
def tw5888442327923291166:=0
def tw5936954382099618446:=0
def tw5973624292178962628:=0
def tw5975842615978928609:=0
def tw6004700417080444896:=0
def tw600621490743881719:=0
def tw6006346840182605297:=0
def tw6006405434561674875:=0
def tw602587590475448005:=0
def tw6178581546563643935:=0
def tw6182543129688941034:=0
def tw6253508037764371700:=0
def tw6302076540711221398:=0
def tw6305964514785794832:=0
def tw6308520657015358459:=0
def tw6319995959134005237:=0
def tw6351371932351803618:=0
def tw6367001422616119891:=0
def tw6560356003368092669:=0
def tw6637543255082473417:=0
def tw66450084462391829:=0
def tw6645364077929283214:=0
def tw6675261734414174761:=0
def tw6690398734454144421:=0
def tw6719014283345690064:=0
def tw675633314885205396:=0
def tw6757583408703400772:=0
def tw6786991323723372369:=0
def tw6835243777986534685:=0
def tw6925695623834318234:=0
def tw6934341314682463745:=0
def tw6950334272560079151:=0
def tw6991106596868181646:=0
def tw7027401648693078679:=0
def tw7120537555471324766:=0
def tw7159474418244328919:=0
def tw7195398550087317079:=0
def tw7224153673410832908:=0
def tw7226492200815252228:=0
def tw7247111821544991309:=0
def tw7336774962846992530:=0
def tw7368431913255826099:=0
def tw7395466082992254065:=0
def tw744499498742222195:=0
def tw7457967009886009484:=0
def tw747680916882764405:=0
def tw7559280761154336183:=0
def tw7801204543999144536:=0
def tw7830091725299514202:=0
def tw7833159140851252867:=0
def tw7854316779198624882:=0
def tw7865992498762264748:=0
def tw7900101849338731609:=0
def tw7901170830552920364:=0
def tw7934450552660692147:=0
def tw7978697356470462697:=0
def tw7990574401569020309:=0
def tw8042552489377930245:=0
def tw8155514278979820005:=0
def tw8179978613339516433:=0
def tw818622911843570232:=0
def tw8241831907043970715:=0
def tw826287402856668621:=0
def tw8421657130245242807:=0
def tw8429448760901428757:=0
def tw8466219346775709652:=0
def tw846873085606736797:=0
def tw8482185460561439385:=0
def tw8508950196319487387:=0
def tw8574201627953664433:=0
def tw8682075218078219831:=0
def tw8701095501425937938:=0
def tw8701636156238180513:=0
def tw8720951418325917397:=0
def tw8745623452800022968:=0
def tw8808465430181478115:=0
def tw8848740379869438311:=0
def tw8873130787782943033:=0
def tw890219125983780705:=0
def tw8943602510758674268:=0
def tw8949764463273843393:=0
def tw8952459079114508077:=0
def tw8968646413150429236:=0
def tw9032852250206494661:=0
def tw9145411293972131468:=0
def tw9191805097642483075:=0
def tw9323845828303852526:=0
def tw9352897082941281358:=0
def tw9420147807258483614:=0
def tw9512026444601720178:=0
def tw9539634233406973673:=0
def tw9552457374354047168:=0
def tw955954929811432463:=0
def tw9581578255302038506:=0
def tw9650327691581296250:=0
def tw9728021007932240921:=0
def tw9732632371925986414:=0
def tw9755897095455720594:=0
def tw9793406185549111708:=0
def tw9810180040787635018:=0
def tw9812660388217458938:=0
def tw9852704948918617636:=0
def tw9927533413525449462:=0
def tw9960281014216036815:=0
def tw9969245323742671635:=0
end PySem.W.Fast
set_option maxRecDepth 100000 in
set_option maxHeartbeats 0 in
theorem PySem.Challenge.cw_fewspeak_k67_whole_each_set_with_one_sha_holds : PySem.Challenge.rw_fewspeak_k67_whole_each_set_with_one_sha.Holds := by
 w_on;o_law;k_head;(case hw=>w_witness2)
 k_fill
 refine L2.walk_ofT (l:=PySem.Challenge.rw_fewspeak_k67_whole_each_set_with_one_sha) (n:=63) (k:=My.lawK) (x := "_law_script") (CX:=L2.CX0) (sp:=My.spLaw) rfl (by decide) rfl ⟨rfl,by decide,by decide⟩ (λw h Y=>⟨PySem.W.km_in_of Y,PySem.W.km_tabs_of Y⟩) ?F ?S ?C
 case F =>
  intro ts' hts w mg fa h KX G hmg
  have T:∃ a,My.Txt (L2.KOf KX) mg a/\(My.tabs a).map (·.1)=ts':=by
   rw[hts];dsimp only[L2.KOf];refine' My.txt_mk KX G ?a0 ?l0 ?c0 ?k0 ?a1 ?l1 ?c1 ?k1 ?a2 ?l2 ?c2 ?k2 ?a3 ?l3 ?c3 ?k3 ?a4 ?l4 ?c4 ?k4 ?a5 ?l5 ?c5 ?k5 ?a6 ?l6 ?c6 ?k6 ?a7 ?l7 ?c7 ?k7 ?a8 ?l8 ?c8 ?k8 ?a9 ?l9 ?c9 ?k9 ?a10 ?l10 ?c10 ?k10 ?a11 ?l11 ?c11 ?k11 ?a12 ?l12 ?c12 ?k12 ?a13 ?l13 ?c13 ?k13 ?a14 ?l14 ?c14 ?k14 ?a15 ?l15 ?c15 ?k15 ?a16 ?l16 ?c16 ?k16 ?a17 ?l17 ?c17 ?k17 ?a18 ?l18 ?c18 ?k18 ?a19 ?l19 ?c19 ?k19 ?a20 ?l20 ?c20 ?k20 ?a21 ?l21 ?c21 ?k21 ?a22 ?l22 ?c22 ?k22 ?a23 ?l23 ?c23 ?k23 ?a24 ?l24 ?c24 ?k24 ?a25 ?l25 ?c25 ?k25 ?a26 ?l26 ?c26 ?k26 ?a27 ?l27 ?c27 ?k27 ?a28 ?l28 ?c28 ?k28 ?a29 ?l29 ?c29 ?k29 ?a30 ?l30 ?c30 ?k30 ?b0 ?b1 ?b2 ?b3 ?b4 ?b5 ?ca_S ?cb_S ?cc_S ?cx_S ?ca_a ?cb_a ?cc_a ?cf_a ?cx_a ?cg_a ?cl_a ?co_a ?ck_a ?cs_NoThrow_place ?ca_q ?cb_q ?cc_q ?cx_q ?ca_n ?cb_n ?cc_n ?cx_n ?ca_aa ?pa_aa ?pb_aa ?pc_aa ?pd_aa ?pe_aa ?pf_aa ?pg_aa ?ph_aa ?ca_g ?pa_g ?pb_g ?pc_g ?pd_g ?pe_g ?pf_g ?pg_g ?ph_g ?qa_g ?qb_g ?qc_g ?qd_g ?qn_Told_rising ?cl_g ?co_g ?ck_g ?ca_j ?pa_j ?pb_j ?pc_j ?pd_j ?pe_j ?pf_j ?pg_j ?ph_j ?qa_j ?qb_j ?qc_j ?qd_j ?qn_Die_makes ?cl_j ?co_j ?ck_j ?ca_l ?pa_l ?pb_l ?pc_l ?pd_l ?pe_l ?pf_l ?pg_l ?ph_l ?qa_l ?qb_l ?qc_l ?qd_l ?qn_Pot_most ?qn_Pot_seen ?qn_Pot_held ?cl_l ?co_l ?ck_l ?mf_8 ?ml_8 ?mo_8 ?mk_8 ?mi_8 ?md_Pot_come ?mv_Pot_come ?mf_9 ?ml_9 ?mo_9 ?mk_9 ?mi_9 ?mf_a ?ml_a ?mo_a ?mk_a ?mi_a ?mf_c ?ml_c ?mo_c ?mk_c ?mi_c ?mf_2 ?ml_2 ?mo_2 ?mk_2 ?mi_2 ?mf_d ?ml_d ?mo_d ?mk_d ?mi_d ?mf_3 ?ml_3 ?mo_3 ?mk_3 ?mi_3 ?mf_f ?ml_f ?mo_f ?mk_f ?mi_f ?mf_5 ?ml_5 ?mo_5 ?mk_5 ?mi_5 ?mf_e ?ml_e ?mo_e ?mk_e ?mi_e ?mf_4 ?ml_4 ?mo_4 ?mk_4 ?mi_4 ?mf_1 ?ml_1 ?mo_1 ?mk_1 ?mi_1 ?lca_10 ?lct_10 ?lcq_10 ?lch_b ?ltnd ?fact_tt ?fact_tm ?fact_tm2 ?fact_tw ?fact_tw2 ?fact_tw3 ?z0 ?z1 ?z2 ?z3 ?z4 ?z5 ?z6 ?z7 ?z8 ?z9 ?z10 ?z11 ?z12 ?z13 ?z14 ?r0 ?r1 ?r2 ?r3 ?r4 ?r5
   case a0|l0|c0|k0|a1|l1|c1|k1|a2|l2|c2|k2|a3|l3|c3|k3|a4|l4|c4|k4|a5|l5|c5|k5|a6|l6|c6|k6|a7|l7|c7|k7|a8|l8|c8|k8|a9|l9|c9|k9|a10|l10|c10|k10|a11|l11|c11|k11|a12|l12|c12|k12|a13|l13|c13|k13|a14|l14|c14|k14|a15|l15|c15|k15|a16|l16|c16|k16|a17|l17|c17|k17|a18|l18|c18|k18|a19|l19|c19|k19|a20|l20|c20|k20|a21|l21|c21|k21|a22|l22|c22|k22|a23|l23|c23|k23|a24|l24|c24|k24|a25|l25|c25|k25|a26|l26|c26|k26|a27|l27|c27|k27|a28|l28|c28|k28|a29|l29|c29|k29|a30|l30|c30|k30|b0|b1|b2|b3|b4|b5|ca_S|cb_S =>k_is
   case cc_S|cx_S =>kernel_rfl
   case ca_a|cb_a =>k_is
   case cc_a =>kernel_rfl
   case cf_a =>k_is
   case cx_a =>kernel_rfl
   case cg_a|cl_a|co_a|ck_a =>k_is
   case cs_NoThrow_place =>kernel_rfl
   case ca_q|cb_q =>k_is
   case cc_q|cx_q =>kernel_rfl
   case ca_n|cb_n =>k_is
   case cc_n|cx_n =>kernel_rfl
   case ca_aa =>k_is
   case pa_aa|pb_aa|pc_aa|pd_aa|pe_aa|pf_aa|pg_aa|ph_aa =>(first | k_is | kernel_rfl)
   case ca_g =>k_is
   case pa_g|pb_g|pc_g|pd_g|pe_g|pf_g|pg_g|ph_g|qa_g|qb_g|qc_g|qd_g|qn_Told_rising =>(first | k_is | kernel_rfl)
   case cl_g|co_g|ck_g|ca_j =>k_is
   case pa_j|pb_j|pc_j|pd_j|pe_j|pf_j|pg_j|ph_j|qa_j|qb_j|qc_j|qd_j|qn_Die_makes =>(first | k_is | kernel_rfl)
   case cl_j|co_j|ck_j|ca_l =>k_is
   case pa_l|pb_l|pc_l|pd_l|pe_l|pf_l|pg_l|ph_l|qa_l|qb_l|qc_l|qd_l|qn_Pot_most|qn_Pot_seen|qn_Pot_held =>(first | k_is | kernel_rfl)
   case cl_l|co_l|ck_l =>k_is
   case mf_8 =>(first | k_is | kernel_rfl)
   case ml_8|mo_8|mk_8 =>k_is
   case mi_8 =>(first | k_is | kernel_rfl)
   case md_Pot_come =>k_is
   case mv_Pot_come =>first | exact rfl | exact⟨_,rfl⟩
   case mf_9 =>(first | k_is | kernel_rfl)
   case ml_9|mo_9|mk_9 =>k_is
   case mi_9|mf_a =>(first | k_is | kernel_rfl)
   case ml_a|mo_a|mk_a =>k_is
   case mi_a|mf_c =>(first | k_is | kernel_rfl)
   case ml_c|mo_c|mk_c =>k_is
   case mi_c|mf_2 =>(first | k_is | kernel_rfl)
   case ml_2|mo_2|mk_2 =>k_is
   case mi_2|mf_d =>(first | k_is | kernel_rfl)
   case ml_d|mo_d|mk_d =>k_is
   case mi_d|mf_3 =>(first | k_is | kernel_rfl)
   case ml_3|mo_3|mk_3 =>k_is
   case mi_3|mf_f =>(first | k_is | kernel_rfl)
   case ml_f|mo_f|mk_f =>k_is
   case mi_f|mf_5 =>(first | k_is | kernel_rfl)
   case ml_5|mo_5|mk_5 =>k_is
   case mi_5|mf_e =>(first | k_is | kernel_rfl)
   case ml_e|mo_e|mk_e =>k_is
   case mi_e|mf_4 =>(first | k_is | kernel_rfl)
   case ml_4|mo_4|mk_4 =>k_is
   case mi_4|mf_1 =>(first | k_is | kernel_rfl)
   case ml_1|mo_1|mk_1 =>k_is
   case mi_1 =>(first | k_is | kernel_rfl)
   case lca_10 =>exact rfl
   case lct_10 =>k_is
   case lcq_10 =>exact rfl
   case lch_b =>kernel_rfl
   case ltnd =>decide
   case fact_tt|fact_tm|fact_tm2|fact_tw|fact_tw2|fact_tw3 =>kernel_rfl
   case z0|z1|z2|z3|z4|z5|z6|z7|z8|z9|z10|z11|z12|z13|z14 =>k_is
   case r0|r1|r2|r3|r4|r5 =>first | exact rfl | exact⟨_,rfl⟩
  obtain⟨a,T,e1⟩:=T;have e1:=e1.trans hts;have e0:=hmg.symm.trans T.m_ac;cases e0;refine' ⟨a.d_ac,?b,?t,?u,λbase kb nb hB=>My.ok_law T hB ?v⟩
  case b=>exact T.bl
  case t =>
   intro P hP;have hP:=e1.symm ▸ hP;simp only[My.tabs,map_cons,map_nil,mem_cons,not_mem_nil,or_false]at hP
   rcases hP with rfl
   .exact⟨_,T.lch_b⟩
  case u =>
   intro P hP;simp only[mem_cons,not_mem_nil,or_false]at hP
   rcases hP with rfl <;> kernel_rfl
  case v =>
   intro q hq;rw[<- e1];exact List.mem_map_of_mem hq
 case S=>exact λK H a ns hl hO hS=>My.law_start hl hO hS
 case C=>exact λH s e s' z=>z
