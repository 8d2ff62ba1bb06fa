import PyProof.Rows.All
import Wide.All
import OpenK.AllK
import Wide.FinOn
import Lean
import PyProof.EqAt
import PyProof.EqKinds
import PyProof.TupleCall
import PySem.Challenge.RW_fewspeak_k94_whole_spread_never_below
open PySem.W(CodeHd FnAt Frag InstAt Looks any_some callWith_K cellsFrom_some clsIn codeHdIn codeHd_of_K codeIn codeRec_of emptyDict findIn fnOf handedIn hasDictIn instObj isFn keepIn kia_one kitOne kitx_dict kitx_list kitx_tuple kla_fn kla_obj lookIn makesIn methodObj mg_of mroIn nsIn nsOkIn plainGet plainGet_of plainOver tabObj tailIn takerIn typeIn)
open List(all_cons all_eq_true any_cons any_eq_true append_assoc append_nil append_of_mem cons_append countP_map drop_zero ext_getElem filter_append filter_cons filter_cons_of_neg filter_cons_of_pos filter_sublist flatten_cons foldl_append foldl_cons getElem_inj getElem_map getElem_mem getElem_range length_append length_cons length_eq_zero_iff length_filter_le length_map length_nil length_pos_iff length_range length_take lookup_cons map_append map_congr_left map_cons map_map map_nil map_take mem_append mem_append_left mem_append_right mem_cons mem_cons_of_mem mem_cons_self mem_filter mem_filterMap mem_flatten mem_map mem_of_mem_take mem_range mem_reverse mem_singleton nil_append nodup_append nodup_cons nodup_iff_pairwise_ne nodup_nil nodup_range not_mem_nil of_mem_zip pairwise_cons pairwise_map range_succ range_zero size_toArray sum_append sum_cons sum_nil take_add_one take_length take_of_length_le take_zero zip_cons_cons)
noncomputable section
set_option Elab.async false
set_option linter.all false
set_option maxRecDepth 100000
namespace L2
open PySem PySem.Spec PyProof.Rows
abbrev Key:=Sum Int Str
def ii:Key->Value->Bool
 | .inl k,v=>Value.isInt k v
 | .inr x,v=>Value.isStrOf x v
def E9(w:World):Key->Int
 | .inl k=>hashInt k
 | .inr x=>hashStr w x
theorem bu:∀{k:Key}{v:Value},ii k v=true->(∃ i t,k=Sum.inl i/\v=Value.int i t)\/(∃ x t,k=Sum.inr x/\v=Value.str x t)
 | .inl i,v,h=>by
  obtain⟨t,e⟩:=Value.isInt_shape (k:=i) (v:=v) h;exact .inl ⟨i,t,rfl,e⟩
 | .inr x,v,h=>by
  obtain⟨t,e⟩:=Value.isStrOf_shape (x:=x) (v:=v) h;exact .inr ⟨x,t,rfl,e⟩
theorem v8(i:Int)(t:Tok):ii (.inl i) (.int i t)=true:=by simp[ii,Value.isInt]
theorem vZ(x:Str)(t:Tok):ii (.inr x) (.str x t)=true:=by simp[ii,Value.isStrOf]
theorem Cj(a b:Int):decide ((Sum.inl a:Key)=Sum.inl b)=(a == b):=by
 by_cases e:a=b
 .subst e;simp
 .have h:¬(Sum.inl a:Key)=Sum.inl b:=λq=>e (Sum.inl.inj q)
  rw[decide_eq_false h];exact(beq_eq_false_iff_ne.mpr e).symm
theorem CY(a b:Str):decide ((Sum.inr a:Key)=Sum.inr b)=decide (a=b):=by
 by_cases e:a=b
 .subst e;simp
 .have h:¬(Sum.inr a:Key)=Sum.inr b:=λq=>e (Sum.inr.inj q)
  rw[decide_eq_false h,decide_eq_false e]
theorem BV(a:Int)(b:Str):decide ((Sum.inl a:Key)=Sum.inr b)=false:=decide_eq_false (λq=>nomatch q)
theorem CK(a:Str)(b:Int):decide ((Sum.inr a:Key)=Sum.inl b)=false:=decide_eq_false (λq=>nomatch q)
def aY(prog:Program)(w:World):PySem.KeyKind prog w Key where
 is:=ii
 hash:=E9 w
 inj:=λv a b ha hb=>by
  rcases bu ha with⟨i,t,rfl,rfl⟩ | ⟨x,t,rfl,rfl⟩
  .rcases bu hb with⟨j,u,rfl,e⟩ | ⟨y,u,rfl,e⟩
   .injection e with e1 _;rw[e1]
   .exact nomatch e
  .rcases bu hb with⟨j,u,rfl,e⟩ | ⟨y,u,rfl,e⟩
   .exact nomatch e
   .injection e with e1 _;rw[e1]
 byValue:=λk v h=>by
  rcases bu h with⟨i,t,rfl,rfl⟩ | ⟨x,t,rfl,rfl⟩ <;> rfl
 pyHash:=λhv h=>by
  rcases bu hv with⟨i,t,rfl,rfl⟩ | ⟨x,t,rfl,rfl⟩
  .exact wpAny_pyHash_int h
  .exact wpAny_pyHash_str h
 eqBool:=λhu hv h=>by
  rcases bu hu with⟨i,t,rfl,rfl⟩ | ⟨x,t,rfl,rfl⟩
  .rcases bu hv with⟨j,u,rfl,rfl⟩ | ⟨y,u,rfl,rfl⟩
   .rw[Cj]at h;exact wpAny_eqBool_int h
   .rw[BV]at h;exact SeqAt.EqAt.int_str i t y u _ _ _ _ h
  .rcases bu hv with⟨j,u,rfl,rfl⟩ | ⟨y,u,rfl,rfl⟩
   .rw[CK]at h;exact SeqAt.EqAt.str_int x t j u _ _ _ _ h
   .rw[CY]at h;exact wpAny_eqBool_str h
 «strs»:=λk x t v h=>by
  rcases bu h with⟨i,u,rfl,e⟩ | ⟨y,u,rfl,e⟩
  .exact nomatch e
  .injection e with e1 _
   subst e1
   cases v <;> rfl
theorem qv(prog:Program)(w:World)(i:Int)(t:Tok):(aY prog w).is (.inl i) (.int i t)=true:=v8 i t
theorem pY(prog:Program)(w:World)(x:Str)(t:Tok):(aY prog w).is (.inr x) (.str x t)=true:=vZ x t
inductive V where
 | non | bl (b:Bool) | int (i:Int) | str (x:Str) | byt (b:Array UInt8) | flt (b:UInt64) | ref (a:Addr) | ty (n:String)
 deriving DecidableEq
def RelV:V->Value->Prop
 | .non,u=>u=Value.none
 | .bl b,u=>u=Value.bool b
 | .int i,u=>∃ t,u=Value.int i t
 | .str x,u=>∃ t,u=Value.str x t
 | .byt b,u=>∃ t,u=Value.bytes b t
 | .flt b,u=>∃ t,u=Value.float b t
 | .ref a,u=>u=Value.ref a
 | .ty n,u=>u=Value.type n
abbrev Vals:List V->List Value->Prop:=Paired RelV
theorem Vals.length{xs:List V}{us:List Value}(r:Vals xs us):xs.length=us.length:=Paired.length r
theorem Vals.get:∀{xs:List V}{us:List Value}{i:Nat}{x:V},Vals xs us->xs[i]? = some x->∃ u,us[i]? = some u/\RelV x u
 | _,_,_,_,.nil,e=>by simp at e
 | _,_,0,_,.cons r _,e=>by simp at e;subst e;exact⟨_,rfl,r⟩
 | _,_,i+1,x,.cons _ t,e=>by
  obtain⟨u,a,b⟩:=Vals.get (i:=i) (x:=x) t (by simpa using e);exact⟨u,by simpa using a,b⟩
theorem Vals.set{x:V}{u:Value}(r:RelV x u):∀{xs:List V}{us:List Value}(i:Nat),Vals xs us->Vals (xs.set i x) (us.set i u)
 | _,_,_,.nil=>.nil
 | _,_,0,.cons _ t=>.cons r t
 | _,_,i+1,.cons q t=>.cons q (Vals.set r i t)
theorem Vals.append:∀{xs ys:List V}{us ws:List Value},Vals xs us->Vals ys ws->Vals (xs++ys) (us++ws)
 | _,_,_,_,.nil,s=>s
 | _,_,_,_,.cons r t,s=>.cons r (Vals.append t s)
theorem Vals.take:∀{xs:List V}{us:List Value}(n:Nat),Vals xs us->Vals (xs.take n) (us.take n)
 | _,_,0,_=>.nil
 | _,_,_+1,.nil=>.nil
 | _,_,n+1,.cons r t=>.cons r (Vals.take n t)
theorem Vals.drop:∀{xs:List V}{us:List Value}(n:Nat),Vals xs us->Vals (xs.drop n) (us.drop n)
 | _,_,0,r=>r
 | _,_,_+1,.nil=>.nil
 | _,_,n+1,.cons _ t=>Vals.drop n t
def RelO:Option V->Option Value->Prop
 | some v,some u=>RelV v u
 | none,none=>True
 | _,_=>False
def KV{κ:Type}:List (κ×V)->List (κ×Value)->Prop:=Paired λ(p:κ×V) (q:κ×Value)=>p.1=q.1/\RelV p.2 q.2
def kV:Key->V
 | .inl i=>.int i
 | .inr x=>.str x
inductive HO where
 | lst (xs:List V)
 | tup (xs:List V)
 | dK (kvs:List (Key×V)) | dT (kvs:List (List Key×V))
 | set (S:Int->Bool) (n:Nat)
 | ins (C dx:Addr) (fs:List (Str×V))
 | own (x:Addr)
 | xd (fs:List (Str×V))
 | met (f x:Addr)
 | rng (lo hi:Int)
 | frz (o:Obj) (u:HO)
 | tbl (ps:Array Value)
 | ext (φ:Heap->Prop)
abbrev Hp:=Addr->Option HO
def upd(H:Hp)(a:Addr)(o:HO):Hp:=λb=>if b=a then some o else H b
theorem ae{H:Hp}{a:Addr}{o:HO}:upd H a o a=some o:=by unfold upd;rw[if_pos rfl]
theorem ar{H:Hp}{a b:Addr}{o:HO}(h:b≠a):upd H a o b=H b:=by unfold upd;rw[if_neg h]
theorem fb{H:Hp}{a:Addr}{o u:HO}:upd (upd H a o) a u=upd H a u:=by
 funext b;unfold upd;split <;> rfl
theorem vd{H:Hp}{a b:Addr}{o u:HO}(h:H a=some o)(h':H b=some u)(d:o≠u):a≠b:=by
 intro e;subst e;rw[h]at h';exact d (Option.some.inj h')
theorem ay{H:Hp}{a b:Addr}{o:HO}(h:H a=some o)(h':H b=none):a≠b:=by
 intro e;subst e;rw[h]at h';cases h'
section
variable (P:Program) (w:World)
def ObjOk(H:Hp)(h:Heap)(a:Addr):HO->Prop
 | .lst xs=>xs.length<=sizeLine/\∃(its:List Value) (n:Nat),Vals xs its/\h.get? a=some { cls:=.type "list",data:=.seq its.toArray n }
 | .tup xs=>xs.length<=sizeLine/\∃ its:List Value,Vals xs its/\IsTup h a its.toArray
 | .dK kvs=>kvs.length<=sizeLine/\(a == sysModules)=false/\∃ vs,KV kvs vs/\h.DictOf (aY P w) a vs
 | .dT kvs=>kvs.length<=sizeLine/\(a == sysModules)=false/\∃ xs:List (List Key×Addr×Value),
   Paired (λ(p:List Key×V) (q:List Key×Addr×Value)=>p.1=q.1/\H q.2.1=some (.tup (p.1.map kV))/\RelV p.2 q.2.2) kvs xs /\
   ∃ o es ep,h.get? a=some o/\o.ExactDict/\o.data=.dict es ep/\es.toList=xs.map (entryOfKey (tupleKind (aY P w)))/\(xs.map (·.1)).Nodup
 | .set S n=>h.SetOf (intKind P w) a S n
 | .ins C dx fs=>H dx=some (.own a)/\fs.length<=1000/\dx≠a/\h.get? a=some (instObj C dx) /\
   ∃ mA,h.Ns1 dx mA/\(∀ f,RelO (fs.lookup f) (mA f))/\PySem.Within mA (fs.map (·.1))
 | .own _=>∃ o,h.get? a=some o
 | .xd fs=>∃ mA,h.Ns1 a mA/\∀ f,RelO (fs.lookup f) (mA f)
 | .rng lo hi=>∃ t u v,h.get? a=some { cls:=.type "range",data:=.fields #[.int lo t,.int hi u,.int 1 v] }
 | .frz o u=>h.get? a=some o/\ObjOk H h a u
 | .tbl ps=>h.get? a=some { cls:=.none,data:=.fields ps }
 | .met f x=>h.get? a=some (methodObj (.ref f) (.ref x))
 | .ext φ=>φ h/\(∃ o,h.get? a=some o)/\∀ h1 h2:Heap,φ h1->(∀ o,h1.get? a=some o->h2.get? a=some o)->φ h2
def HOk(H:Hp)(h:Heap):Prop:=∀ a o,H a=some o->ObjOk P w H h a o
end
section
variable {P:Program}{w:World}{H H':Hp}{h h':Heap}{a:Addr}{o:HO}
theorem ObjOk.lt(x:ObjOk P w H h a o):a<h.objs.size:=by
 cases o with
 | lst xs=>obtain⟨_,_,_,_,e⟩:=x;exact Heap.lt_size e
 | tup xs=>obtain⟨_,_,_,p⟩:=x;exact p.lt
 | dK kvs=>obtain⟨_,_,_,_,o,_,_,e,_⟩:=x;exact Heap.lt_size e
 | dT kvs=>obtain⟨_,_,_,_,o,_,_,e,_⟩:=x;exact Heap.lt_size e
 | set S n=>obtain⟨o,_,_,_,e,_⟩:=x;exact Heap.lt_size e
 | ins C dx fs=>obtain⟨_,_,_,e,_⟩:=x;exact Heap.lt_size e
 | own y=>obtain⟨_,e⟩:=x;exact Heap.lt_size e
 | xd fs=>obtain⟨_,⟨_,_,_,e,_⟩,_⟩:=x;exact Heap.lt_size e
 | rng lo hi=>obtain⟨_,_,_,e⟩:=x;exact Heap.lt_size e
 | frz ob u=>obtain⟨e,_⟩:=x;exact Heap.lt_size e
 | tbl ps=>exact Heap.lt_size (show h.get? a=some _ from x)
 | met f y=>exact Heap.lt_size (show h.get? a=some _ from x)
 | ext φ=>obtain⟨_,⟨_,e⟩,_⟩:=x;exact Heap.lt_size e
theorem Paired.mapP{d c:Type}{F G:d->c->Prop}:∀{l₁:List d}{l₂:List c},Paired F l₁ l₂->(∀ a b,F a b->G a b)->Paired G l₁ l₂
 | _,_,.nil,_=>.nil
 | _,_,.cons r t,f=>.cons (f _ _ r) (Paired.mapP t f)
theorem ObjOk.stay(x:ObjOk P w H h a o)(k:∀ b u,(b=a\/H b=some (.own a))->h.get? b=some u->h'.get? b=some u)
  (B:∀ b,H b=some (.own a)->H' b=some (.own a)) (G:∀ b xs,H b=some (.tup xs)->H' b=some (.tup xs)):ObjOk P w H' h' a o:=by
 induction o with
 | lst xs=>obtain⟨z,l,n,r,e⟩:=x;exact⟨z,l,n,r,k _ _ (.inl rfl) e⟩
 | tup xs=>obtain⟨z,l,r,g,e,c⟩:=x;exact⟨z,l,r,g,k _ _ (.inl rfl) e,c⟩
 | dK kvs=>obtain⟨z,y,F,r,g,i,j,e,c⟩:=x;exact⟨z,y,F,r,g,i,j,k _ _ (.inl rfl) e,c⟩
 | dT kvs =>
  obtain⟨z,y,xs,r,g,i,j,e,c⟩:=x;exact⟨z,y,xs,Paired.mapP r λp q z=>⟨z.1,G _ _ z.2.1,z.2.2⟩,g,i,j,k _ _ (.inl rfl) e,c⟩
 | set S n=>obtain⟨g,i,j,t,e,c⟩:=x;exact⟨g,i,j,t,k _ _ (.inl rfl) e,c⟩
 | ins C dx fs =>
  obtain⟨d,z,D,e,m,⟨s,i,j,E,c⟩,r⟩:=x;exact⟨B _ d,z,D,k _ _ (.inl rfl) e,m,⟨s,i,j,k _ _ (.inr d) E,c⟩,r⟩
 | own y=>obtain⟨g,e⟩:=x;exact⟨g,k _ _ (.inl rfl) e⟩
 | xd fs=>obtain⟨m,⟨s,i,j,e,c⟩,r⟩:=x;exact⟨m,⟨s,i,j,k _ _ (.inl rfl) e,c⟩,r⟩
 | rng lo hi=>obtain⟨t,u,v,e⟩:=x;exact⟨t,u,v,k _ _ (.inl rfl) e⟩
 | frz g u ih=>obtain⟨e,q⟩:=x;exact⟨k _ _ (.inl rfl) e,ih q⟩
 | tbl ps =>
  have e:h.get? a=some { cls:=.none,data:=.fields ps }:=x;show h'.get? a=some { cls:=.none,data:=.fields ps };exact k a _ (.inl rfl) e
 | met f y =>
  have e:h.get? a=some (methodObj (.ref f) (.ref y)):=x;show h'.get? a=some (methodObj (.ref f) (.ref y));exact k a _ (.inl rfl) e
 | ext φ=>obtain⟨p,⟨o,e⟩,A⟩:=x;exact⟨A _ _ p λo q=>k _ _ (.inl rfl) q,⟨o,k _ _ (.inl rfl) e⟩,A⟩
theorem HOk.lt(x:HOk P w H h)(e:H a=some o):a<h.objs.size:=(x a o e).lt
theorem HOk.fresh(x:HOk P w H h)(e:h.objs.size<=a):H a=none:=by
 cases q:H a with
 | none=>rfl
 | some u=>exact absurd (Nat.lt_of_lt_of_le (x.lt q) e) (Nat.lt_irrefl _)
theorem HOk.kept(x:HOk P w H h)(k:∀ b u,h.get? b=some u->h'.get? b=some u):HOk P w H h':=λa o e =>
 (x a o e).stay (λb u _ q=>k b u q) (λ_ q=>q) λ_ _ q=>q
theorem HOk.laid(x:HOk P w H h)(k:∀ b u,h.get? b=some u->h'.get? b=some u)(g:h.objs.size<=a)(d:ObjOk P w (upd H a o) h' a o):HOk P w (upd H a o) h':=λb u e=>by
 have f:=x.fresh g
 by_cases hb:b=a
 .subst hb;rw[ae]at e;cases e;exact d
 .rw[ar hb]at e
  exact(x b u e).stay (λc v _ q=>k c v q) (λc q=>by rw[ar (ay q f)];exact q) λc xs q=>by rw[ar (ay q f)];exact q
end
def Rd(H:Hp)(a:Addr)(u:HO):Prop:=H a=some u\/∃ o,H a=some (.frz o u)
theorem Rd.ok{P:Program}{w:World}{H:Hp}{h:Heap}{a:Addr}{u:HO}(r:Rd H a u)(x:HOk P w H h):ObjOk P w H h a u:=by
 rcases r with r | ⟨o,r⟩
 .exact x a u r
 .obtain⟨_,q⟩:=x a _ r
  exact q
def Mut:Option HO->Prop
 | some (.lst _)=>True
 | some (.dK _)=>True
 | some (.dT _)=>True
 | some (.set _ _)=>True
 | some (.ins _ _ _)=>True
 | some (.ext _)=>True
 | _=>False
section
variable {P:Program}{w:World}{H:Hp}{h h':Heap}{x e:Addr}{o':HO}
theorem HOk.write(p:HOk P w H h)(f:Mut (H x))(m:e=x\/H e=some (.own x))(k:∀ b u,b≠e->h.get? b=some u->h'.get? b=some u)(j:∃ u,h'.get? e=some u)
  (i:ObjOk P w (upd H x o') h' x o'):HOk P w (upd H x o') h':=λb u q=>by
 have a:∀ c y,H c=some (.own y)->c≠x:=λc y r z=>by subst z;rw[r]at f;exact f
 have d:∀ c g,H c=some (.tup g)->c≠x:=λc g r z=>by subst z;rw[r]at f;exact f
 by_cases hb:b=x
 .subst hb;rw[ae]at q;cases q;exact i
 .rw[ar hb]at q
  by_cases hbe:b=e
  .have l:H b=some (.own x):=by
    rcases m with z | z
    .exact absurd (hbe.trans z) hb
    .rw[hbe];exact z
   rw[q]at l;cases l;obtain⟨v,o⟩:=j;exact⟨v,by rw[hbe];exact o⟩
  .refine(p b u q).stay (λc v hc r=>k c v ?_ r) (λc r=>by rw[ar (a c b r)];exact r) λc g r=>by rw[ar (d c g r)];exact r
   rcases hc with rfl | hc
   .exact hbe
   .rintro rfl
    rcases m with z | z
    .exact a c b hc z
    .rw[hc]at z;cases z;exact hb rfl
end
structure Un(fs ex:List Addr)(H H':Hp)(h h':Heap):Prop where
 keep:∀ b o,h.get? b=some o->H b=none->b ∉ fs->b ∉ ex->h'.get? b=some o
 slot:∀ b o,h.get? b=some o->H b=none->b∈fs->b ∉ ex->∃ sl,h'.get? b=some { o with slots:=sl }
 free:∀ b o,h.get? b=some o->H b=none->b ∉ ex->H' b=none
 there:∀ b o,h.get? b=some o->b ∉ ex->∃ o',h'.get? b=some o'
 tups:∀ b xs,H b=some (.tup xs)->H' b=some (.tup xs)
 frzs:∀ b o u,H b=some (.frz o u)->H' b=some (.frz o u)
 tbls:∀ b ps,H b=some (.tbl ps)->∃ more,H' b=some (.tbl (ps++more))
section
variable {fs fs' ex ex':List Addr}{H H1 H2:Hp}{h h1 h2 h':Heap}{a x e:Addr}{o:HO}
theorem Un.any(u:Un fs ex H H1 h h1){b:Addr}{a:Obj}(q:h.get? b=some a)(n:H b=none)(c:b ∉ ex):∃ sl,h1.get? b=some { a with slots:=sl }:=by
 by_cases hb:b∈fs
 .exact u.slot b a q n hb c
 .exact⟨a.slots,u.keep b a q n hb c⟩
theorem Un.kept(k:∀ b u,h.get? b=some u->h'.get? b=some u):Un fs ex H H h h' :=
 ⟨λb a q _ _ _=>k b a q,λb a q _ _ _=>⟨a.slots,k b a q⟩,λ_ _ _ n _=>n,λb a q _=>⟨a,k b a q⟩,λ_ _ q=>q,λ_ _ _ q=>q,λ_ ps q=>⟨#[],by rw[q];simp⟩⟩
theorem Un.refl:Un fs ex H H h h:=Un.kept λ_ _ q=>q
theorem Un.laid(k:∀ b u,h.get? b=some u->h'.get? b=some u)(e:h.objs.size<=a)(c:H a=none):Un fs ex H (upd H a o) h h' where
 keep:=λb u q _ _ _=>k b u q
 slot:=λb u q _ _ _=>⟨u.slots,k b u q⟩
 free:=λb u q n _=>by rw[ar (Nat.ne_of_lt (Nat.lt_of_lt_of_le (Heap.lt_size q) e))];exact n
 there:=λb u q _=>⟨u,k b u q⟩
 tups:=λb d q=>by rw[ar (ay q c)];exact q
 frzs:=λb u d q=>by rw[ar (ay q c)];exact q
 tbls:=λb f q=>⟨#[],by rw[ar (ay q c),q];simp⟩
theorem Un.write(a:Mut (H x))(l:e=x\/H e=some (.own x))(k:∀ b u,b≠e->h.get? b=some u->h'.get? b=some u)(d:∃ u,h'.get? e=some u):Un fs ex H (upd H x o) h h':=by
 have g:∀ b,H b=none->b≠x:=λb n z=>by subst z;rw[n]at a;exact a
 have f:∀ b,H b=none->b≠e:=λb n z=>by
  subst z
  rcases l with r | r
  .exact g b n r
  .rw[n]at r;cases r
 have c:∀ b u,H b=some u->¬Mut (some u)->b≠x:=λb u q i z=>by subst z;rw[q]at a;exact i a
 refine⟨λb u q n _ _=>k b u (f b n) q,λb u q n _ _=>⟨u.slots,k b u (f b n) q⟩,λb u q n _=>by rw[ar (g b n)];exact n,λb u q _=>?_,
  λb j q=>by rw[ar (c b _ q λz=>z)];exact q,λb u j q=>by rw[ar (c b _ q λz=>z)];exact q,λb ps q=>⟨#[],by rw[ar (c b _ q λz=>z),q];simp⟩⟩
 by_cases hbe:b=e
 .subst hbe;exact d
 .exact⟨u,k b u hbe q⟩
end
def trk(h:Heap)(H:Hp):List Addr:=(List.range h.objs.size).filter λa=>(H a).isSome
def mw(h:Heap)(H:Hp):Heap:=PySem.W.hideAll h (trk h H)
theorem v7(h:Heap)(H:Hp):(mw h H).objs.size=h.objs.size:=PySem.W.hideAll_size _ _
theorem yS{h:Heap}{H:Hp}{b:Addr}{o:Obj}(e:h.get? b=some o)(n:H b=none):(mw h H).get? b=some o :=
 PySem.W.hideAll_get _ e λa=>by
  have q:(H b).isSome=true:=(mem_filter.mp a).2;rw[n]at q;simp at q
theorem Aa{h:Heap}{H:Hp}{b:Addr}{o:Obj}(e:(mw h H).get? b=some o):h.get? b=some o/\H b=none:=by
 have a:h.get? b=some o:=PySem.W.of_hideAll (trk h H) e;refine⟨a,?_⟩;cases q:H b with
 | none=>rfl
 | some x =>
  have c:b∈trk h H:=mem_filter.mpr ⟨mem_range.mpr (Heap.lt_size a),by simp[q]⟩;have z:(mw h H).get? b=none:=PySem.W.hideAll_none (trk h H) c;rw[z]at e;cases e
def Aq(g h:Heap)(L:Addr):List (Addr×Obj):=(List.range h.objs.size).filterMap λa=>if a=L\/(g.get? a).isSome=true then none else (h.get? a).map λo=>(a,o)
def fj(g h:Heap)(L d:Addr):List (Addr×Obj):=(Aq g h L).filter λp=>decide (p.1≠d)
structure Mod(K:Frag)(mg:Str->Option Value)(base:Heap):Prop where
 kin:K.In base
 glob:base.Ns mainGlobals mg
 blt:∃ mb,base.Ns builtinsNs mb/\∀ x:Str,x ≠ "__name__" -> mb x=bootBuiltins x
 nolimit:base.NoLimit
structure Cx where
 prog:Program
 w:World
 K:Frag
 mg:Str->Option Value
 base:Heap
 A:Around
 N:List Str
 s₀:Shared
 H₀:Hp
 env:Env
 outer:List Env
 stack:List Env
 ex:List Addr
 fn:Str->Bool
 calm:Bool
 pn:List (Addr×Obj)
 xe:Value->Shared->Prop
def frs(l:List Env):List Addr:=l.filterMap (·.frame)
abbrev Cx.fs(X:Cx):List Addr:=frs X.outer
def Vis(sc:Scope)(x:Str):Prop:=sc.names.lookup x = some .local\/sc.names.lookup x = some .cell\/sc.names.lookup x = some .free
def Loc(sc:Scope)(x:Str):Prop:=sc.names.lookup x = some .local\/sc.names.lookup x = some .cell
def ET(env:Env)(h:Heap)(m:Str->Option Value)(x:Str)(u:Value):Prop :=
 (env.kindOf x = some .local/\m x = some u)\/((env.kindOf x = some .cell\/env.kindOf x = some .free)/\∃ c,env.cells.lookup x = some c/\h.IsCell c (some u))
structure Cx.Ok(X:Cx):Prop where
 mod:Mod X.K X.mg X.base
 kind:X.env.scope.kind=.function
 glob:X.env.globals=mainGlobals
 blt:X.env.builtins=builtinsNs
 above:X.s₀.heap.objs.size<=X.env.locals
 inj:∀ x y c,X.env.cells.lookup x=some c->X.env.cells.lookup y=some c->x=y
 has:∀ x,(X.env.kindOf x=some .cell\/X.env.kindOf x=some .free)->∃ c,X.env.cells.lookup x=some c
 cab:∀ x c,X.fn x=true->X.env.cells.lookup x=some c->X.s₀.heap.objs.size<=c
 hd:X.calm=true->X.A.handled=none
 frames:X.A.frames=some X.stack
 stk:X.stack = X.outer\/(X.stack = X.env :: X.outer/\X.env.frame = some X.env.locals)
 exf:∀ b ∈ X.ex,b≠X.env.locals/\∀ x c,X.env.cells.lookup x = some c->c≠b
 bs:∀ b o,X.base.get? b=some o->X.s₀.heap.get? b=some o/\X.H₀ b=none
 bsz:X.base.objs.size<=X.s₀.heap.objs.size
 noex:∀ b o,X.base.get? b=some o->b ∉ X.ex
 exfs:∀ b∈X.ex,b ∉ X.fs
 funs:X.s₀.heap.FunFrames X.base X.outer
 frf:∀ b∈X.fs,X.H₀ b=none
structure Inv(X:Cx)(pins:List (Addr×Obj))(σ:List (Option V))(H:Hp)(s:Shared):Prop where
 ok:X.Ok
 os:s.os=X.s₀.os
 bare:AllBare s.gens
 base:Un X.fs X.ex X.H₀ H X.s₀.heap s.heap
 loc:∃ m,s.heap.Ns X.env.locals m/\∀(i:Nat) (x:Str) (v:V),X.N[i]? = some x->σ[i]? = some (some v)->Vis X.env.scope x->∃ u,RelV v u/\ET X.env s.heap m x u
 cell:∀ x c,X.env.cells.lookup x=some c->∃ v,s.heap.IsCell c v
 free:H X.env.locals = none
 freeC:∀ x c,X.env.cells.lookup x=some c->H c=none
 pin:∀ p ∈ X.pn ++ pins,s.heap.get? p.1 = some p.2/\H p.1 = none/\p.1≠X.env.locals/\p.1 ∉ X.fs/\∀ v,p.2.data≠.cell v
 hok:HOk X.prog X.w H s.heap
 len:σ.length=X.N.length
section
variable {X:Cx}{pins:List (Addr×Obj)}{σ:List (Option V)}{H H':Hp}{s:Shared}{h':Heap}
theorem Cx.Ok.nofr(c:X.Ok){b:Addr}{o:Obj}(e:X.base.get? b=some o):b ∉ X.fs:=λa=>by
 have:=(c.funs.mem a).1;rw[e]at this;cases this
theorem Inv.bs(I:Inv X pins σ H s):∀ b o,X.base.get? b=some o->s.heap.get? b=some o/\H b=none:=λb o e =>
 ⟨I.base.keep b o (I.ok.bs b o e).1 (I.ok.bs b o e).2 (I.ok.nofr e) (I.ok.noex b o e),I.base.free b o (I.ok.bs b o e).1 (I.ok.bs b o e).2 (I.ok.noex b o e)⟩
theorem Inv.bk(I:Inv X pins σ H s):∀ b o,X.base.get? b=some o->s.heap.get? b=some o:=λb o e=>(I.bs b o e).1
theorem Inv.mod(I:Inv X pins σ H s):Mod X.K X.mg X.base:=I.ok.mod
theorem Inv.kIn(I:Inv X pins σ H s):X.K.In s.heap:=I.ok.mod.kin.keeps I.bk
theorem Inv.lt(I:Inv X pins σ H s):X.env.locals < s.heap.objs.size:=let ⟨_,hn,_⟩:=I.loc;hn.lt
theorem Inv.sz(I:Inv X pins σ H s):X.s₀.heap.objs.size<=s.heap.objs.size:=Nat.le_trans I.ok.above (Nat.le_of_lt I.lt)
theorem Inv.nofs(I:Inv X pins σ H s){a:Addr}(h:s.heap.objs.size<=a):a ∉ X.fs:=λc=>by
 obtain⟨_,o,b,_⟩:=I.ok.funs.mem c;exact absurd (Nat.lt_of_lt_of_le (Heap.lt_size b) (Nat.le_trans I.sz h)) (Nat.lt_irrefl _)
theorem Inv.cne(I:Inv X pins σ H s):∀ x c,X.env.cells.lookup x = some c->c≠X.env.locals:=λx c e z=>by
 obtain⟨v,o,d,f⟩:=I.cell x c e;obtain⟨m,⟨i,g,h,b,a,_⟩,_⟩:=I.loc;rw[z,b]at d;cases d;rw[a]at f;cases f
theorem Inv.funs(I:Inv X pins σ H s):s.heap.FunFrames X.base X.outer:=by
 have d:∀(l:List Env),(∀ b∈frs l,b∈X.fs)->X.s₀.heap.FunFrames X.base l->s.heap.FunFrames X.base l:=by
  intro l
  induction l with
  | nil=>intro _ _;trivial
  | cons env r ih =>
   intro g m;obtain⟨p,⟨L,o,f,u,h,j⟩,i⟩:=m;have c:L∈X.fs:=g L (by unfold frs;rw[List.filterMap_cons,f];exact mem_cons_self);obtain⟨v,e⟩:=I.base.slot L o h (I.ok.frf L c) c λz=>I.ok.exfs L z c
   exact⟨p,⟨L,_,f,u,e,j⟩,ih (λb a=>g b (by unfold frs;rw[List.filterMap_cons,f];exact mem_cons_of_mem _ a)) i⟩
 exact d X.outer (λ_ a=>a) I.ok.funs
theorem Inv.stack(I:Inv X pins σ H s):s.heap.FunFrames X.base X.stack:=by
 rcases I.ok.stk with e | ⟨e,a⟩
 .rw[e];exact I.funs
 .rw[e]
  obtain⟨m,b,_⟩:=I.loc;refine .cons (by rw[I.ok.kind];decide) a b ?_ I.funs;exact Heap.get?_none_of_le (Nat.le_trans I.ok.bsz I.ok.above)
theorem Inv.stkSub(I:Inv X pins σ H s):∀ b ∈ frs X.stack,b ∈ X.env.locals :: X.fs:=λb a=>by
 rcases I.ok.stk with e | ⟨e,c⟩
 .rw[e]at a;exact mem_cons_of_mem _ a
 .rw[e]at a
  unfold frs at a;rw[List.filterMap_cons,c]at a;exact a
theorem Inv.stkFree(I:Inv X pins σ H s):∀ b∈frs X.stack,H b=none:=λb hb=>by
 rcases mem_cons.mp (I.stkSub b hb) with e | hb
 .rw[e];exact I.free
 .obtain⟨_,o,a,_⟩:=I.ok.funs.mem hb
  exact I.base.free b o a (I.ok.frf b hb) λz=>I.ok.exfs b z hb
theorem Inv.step{g':Array GenState}{t':Nat}{d':Drawn}{ch:List Addr}(I:Inv X pins σ H s)
  (g:∀ b ∈ ch,(b ∈ X.ex\/X.s₀.heap.objs.size<=b)/\b≠X.env.locals/\(∀ x c,X.env.cells.lookup x = some c->c≠b)/\∀ p ∈ X.pn ++ pins,p.1≠b)
  (j:∀ b o,b≠X.env.locals->b ∉ X.fs->b ∉ ch->s.heap.get? b = some o->H b = none->h'.get? b = some o)
  (B:∀ b o,b≠X.env.locals->b ∈ X.fs->b ∉ ch->s.heap.get? b = some o->H b = none->∃ sl,h'.get? b = some { o with slots:=sl }) (f:∀ b o,b ∉ ch->s.heap.get? b = some o->H b = none->H' b = none)
  (D:∀ b o,b ∉ ch->s.heap.get? b=some o->∃ o',h'.get? b=some o')
  (J:∀ b xs,H b=some (.tup xs)->H' b=some (.tup xs)) (K:∀ b o u,H b=some (.frz o u)->H' b=some (.frz o u)) (F:∀ b ps,H b=some (.tbl ps)->∃ more,H' b=some (.tbl (ps++more)))
  (Z:∀ m,s.heap.Ns X.env.locals m->h'.Ns X.env.locals m) (M:HOk X.prog X.w H' h') (R:AllBare g') :
  Inv X pins σ H' { s with heap:=h',gens:=g',drawn:=d',toks:=t' }:=by
 have G:∀ b o,X.s₀.heap.get? b = some o->b≠X.env.locals:=λb o e=>Nat.ne_of_lt (Nat.lt_of_lt_of_le (Heap.lt_size e) I.ok.above)
 have A:∀ b o,X.s₀.heap.get? b=some o->b ∉ X.ex->b ∉ ch:=λb o e a C=>by
  rcases(g b C).1 with z | z
  .exact a z
  .exact absurd (Nat.lt_of_lt_of_le (Heap.lt_size e) z) (Nat.lt_irrefl _)
 have w:∀ x c,X.env.cells.lookup x=some c->∀ v,s.heap.IsCell c v->h'.IsCell c v:=λx c e v ⟨o,E,N⟩=>by
  have h:c ∉ ch:=λz=>(g c z).2.2.1 x c e rfl
  by_cases hc:c∈X.fs
  .obtain⟨sl,q⟩:=B c o (I.cne x c e) hc h E (I.freeC x c e)
   exact⟨_,q,N⟩
  .exact⟨o,j c o (I.cne x c e) hc h E (I.freeC x c e),N⟩
 refine⟨I.ok,I.os,R,⟨λb o e n C a=>?_,λb o e n C a=>?_,λb o e n a=>?_,λb o e a=>?_,λb xs e=>J b xs (I.base.tups b xs e),λb o xs e=>K b o xs (I.base.frzs b o xs e),λb ps e=>?_⟩,?_,λx c e=>?_,?_,λx c e=>?_,λp hp=>?_,M,I.len⟩
 .exact j b o (G b o e) C (A b o e a) (I.base.keep b o e n C a) (I.base.free b o e n a)
 .obtain⟨sl,y⟩:=I.base.slot b o e n C a
  obtain⟨O,L⟩:=B b _ (G b o e) C (A b o e a) y (I.base.free b o e n a);exact⟨O,L⟩
 .obtain⟨o',y⟩:=I.base.there b o e a
  exact f b o' (A b o e a) y (I.base.free b o e n a)
 .obtain⟨o',y⟩:=I.base.there b o e a
  exact D b o' (A b o e a) y
 .obtain⟨T,y⟩:=I.base.tbls b ps e
  obtain⟨W,L⟩:=F b _ y;exact⟨T++W,by rw[L,Array.append_assoc]⟩
 .obtain⟨m,S,hl⟩:=I.loc
  refine⟨m,Z m S,λi x v y L Y=>?_⟩;obtain⟨u,r,l⟩:=hl i x v y L Y;refine⟨u,r,?_⟩
  rcases l with l | ⟨k,c,e,z⟩
  .exact .inl l
  .exact .inr ⟨k,c,e,w x c e _ z⟩
 .obtain⟨v,z⟩:=I.cell x c e
  exact⟨v,w x c e v z⟩
 .obtain⟨m,⟨o,_,_,E,_⟩,_⟩:=I.loc
  exact f _ o (λz=>(g _ z).2.1 rfl) E I.free
 .obtain⟨v,o,E,N⟩:=I.cell x c e
  exact f c o (λz=>(g c z).2.2.1 x c e rfl) E (I.freeC x c e)
 .obtain⟨e,n,Q,P,d⟩:=I.pin p hp
  have h:p.1 ∉ ch:=λz=>(g p.1 z).2.2.2 p hp rfl
  exact⟨j p.1 p.2 Q P h e n,f p.1 p.2 h e n,Q,P,d⟩
theorem Inv.un{t':Nat}(I:Inv X pins σ H s)(u:Un X.fs [] H H' s.heap h')(c:HOk X.prog X.w H' h'):Inv X pins σ H' { s with heap:=h',toks:=t' }:=by
 obtain⟨m,⟨o,l,p,g,r⟩,_⟩:=id I.loc;obtain⟨j,h⟩:=u.any g I.free (by simp)
 exact I.step (g':=s.gens) (d':=s.drawn) (ch:=[]) (λ_ z=>nomatch z) (λb o _ hb _ e n=>u.keep b o e n hb (by simp)) (λb o _ hb _ e n=>u.slot b o e n hb (by simp)) (λb o _ e n=>u.free b o e n (by simp)) (λb o _ e=>u.there b o e (by simp)) u.tups u.frzs u.tbls (λm' hm=>by
  obtain⟨v,f,d,a,i⟩:=hm;rw[g]at a;cases a
  exact⟨_,f,d,h,i⟩) c I.bare
theorem Inv.call{g':Array GenState}{t':Nat}{d':Drawn}{ch:List Addr}(I:Inv X pins σ H s)(u:Un (frs X.stack) ch H H' s.heap h')(h:HOk X.prog X.w H' h')(w:AllBare g')
  (f:∀ b ∈ ch,(b ∈ X.ex\/X.s₀.heap.objs.size<=b)/\b≠X.env.locals/\(∀ x c,X.env.cells.lookup x = some c->c≠b)/\∀ p ∈ X.pn ++ pins,p.1≠b) :
  Inv X pins σ H' { s with heap:=h',gens:=g',drawn:=d',toks:=t' }:=by
 obtain⟨m,⟨o,B,C,l,r⟩,_⟩:=id I.loc;obtain⟨A,g⟩:=u.any l I.free λz=>(f _ z).2.1 rfl
 exact I.step (ch:=ch) f (λb o g v a e n=>u.keep b o e n (λz=>(mem_cons.mp (I.stkSub b z)).elim g v) a) (λb o _ _ a e n=>u.any e n a) (λb o a e n=>u.free b o e n a) (λb o a e=>u.there b o e a) u.tups u.frzs u.tbls (λm' hm=>by
  obtain⟨D,j,i,d,y⟩:=hm;rw[l]at d;cases d
  exact⟨_,j,i,g,y⟩) h w
theorem Inv.turned{t':Nat}{a:Addr}(I:Inv X pins σ H s)(k:∀ b o,b≠a->s.heap.get? b = some o->h'.get? b = some o)(B:H a = none)(g:a≠X.env.locals)
  (w:a∈X.ex\/X.s₀.heap.objs.size<=a) (j:∀ x c,X.env.cells.lookup x=some c->c≠a) (l:∀ p∈X.pn++pins,p.1≠a):Inv X pins σ H { s with heap:=h',toks:=t' }:=by
 have f:∀ b u,H b=some u->b≠a:=λb u e z=>by rw[z,B]at e;cases e
 refine I.step (g':=s.gens) (d':=s.drawn) (ch:=[a]) (λb i=>?_) (λb o _ _ d e _=>k b o (λz=>d (by simp[z])) e) (λb o _ _ d e _=>⟨o.slots,k b o (λz=>d (by simp[z])) e⟩) (λ_ _ _ _ n=>n)
  (λb o d e=>⟨o,k b o (λz=>d (by simp[z])) e⟩) (λ_ _ e=>e) (λ_ _ _ e=>e) (λb ps e=>⟨#[],by rw[e];simp⟩) (λm hm=>?_) (λb u e=>?_) I.bare
 .have e:b=a:=by simpa using i
  subst e;exact⟨w,g,j,l⟩
 .obtain⟨o,y,A,h,r⟩:=hm
  exact⟨o,y,A,k _ o (Ne.symm g) h,r⟩
 .refine(I.hok b u e).stay (λc v d q=>k c v ?_ q) (λ_ q=>q) λ_ _ q=>q
  rcases d with z | z
  .rw[z];exact f b u e
  .exact f c _ z
theorem Inv.tok(I:Inv X pins σ H s)(t:Nat):Inv X pins σ H { s with toks:=t }:=I.un (h':=s.heap) (t':=t) Un.refl I.hok
theorem Inv.kept{t':Nat}(I:Inv X pins σ H s)(k:∀ b u,s.heap.get? b=some u->h'.get? b=some u):Inv X pins σ H { s with heap:=h',toks:=t' }:=I.un (Un.kept k) (I.hok.kept k)
theorem Inv.laid{a:Addr}{o:HO}{t':Nat}(I:Inv X pins σ H s)(k:∀ b u,s.heap.get? b=some u->h'.get? b=some u)(d:s.heap.objs.size<=a)(c:ObjOk X.prog X.w (upd H a o) h' a o) :
  Inv X pins σ (upd H a o) { s with heap:=h',toks:=t' }:=I.un (Un.laid k d (I.hok.fresh d)) (I.hok.laid k d c)
theorem Inv.write{x e:Addr}{o:HO}{t':Nat}(I:Inv X pins σ H s)(d:Mut (H x))(f:e=x\/H e=some (.own x))(k:∀ b u,b≠e->s.heap.get? b=some u->h'.get? b=some u)(a:∃ u,h'.get? e=some u)
  (c:ObjOk X.prog X.w (upd H x o) h' x o):Inv X pins σ (upd H x o) { s with heap:=h',toks:=t' }:=I.un (Un.write d f k a) (I.hok.write d f k a c)
theorem Inv.weak{a:List (Option V)}(I:Inv X pins σ H s)(c:a.length=σ.length)(w:∀(i:Nat) v,a[i]? = some (some v)->σ[i]? = some (some v)):Inv X pins a H s :=
 ⟨I.ok,I.os,I.bare,I.base,let ⟨m,hn,hl'⟩:=I.loc;⟨m,hn,λi x v e d b=>hl' i x v e (w i v d) b⟩,I.cell,I.free,I.freeC,I.pin,I.hok,c.trans I.len⟩
theorem Inv.pins_of{a:List (Addr×Obj)}(I:Inv X pins σ H s)(h:∀ p ∈ a,s.heap.get? p.1 = some p.2/\H p.1 = none/\p.1≠X.env.locals/\p.1 ∉ X.fs/\∀ v,p.2.data≠.cell v):Inv X a σ H s :=
 ⟨I.ok,I.os,I.bare,I.base,I.loc,I.cell,I.free,I.freeC,λp b=>(mem_append.mp b).elim (λz=>I.pin p (mem_append_left _ z)) (h p),I.hok,I.len⟩
theorem lK{N:List Str}(e:N.Nodup){i j:Nat}{x:Str}(a:N[i]? = some x)(b:N[j]? = some x):i=j:=by
 obtain⟨g,d⟩:=List.getElem?_eq_some_iff.mp a;obtain⟨f,c⟩:=List.getElem?_eq_some_iff.mp b;exact(getElem_inj e).mp (d.trans c.symm)
theorem mZ{M:Model}{A:Around}{E:Value->Shared->Prop}{i:Nat}{x:Str}{v:V}{u:Value}{Q:Unit->Shared->Prop}(I:Inv X pins σ H s)(hN:X.N.Nodup)(hi:X.N[i]? = some x)(w:Loc X.env.scope x)(r:RelV v u)
  (h:∀ s',Inv X pins (σ.set i (some v)) H s'->(∃ a,Heap.SameBut a s.heap s'.heap/\(a = X.env.locals\/X.env.cells.lookup x = some a))->Q () s') (hf:X.fn x = true\/X.env.scope.names.lookup x = some .local:=by first | exact .inl rfl | exact .inr rfl | assumption):wpAny M A (storeName X.env x u) Q E s:=by
 obtain⟨m,W,hl⟩:=id I.loc;have N:(X.env.scope.kind == .class || (X.env.scope.kind == .module && X.env.locals != X.env.globals)) = false:=by rw[I.ok.kind];rfl
 have C:i<σ.length:=by rw[I.len];exact(List.getElem?_eq_some_iff.mp hi).1
 have G:=I.cne
 have l:∀{a:Addr}{J:Heap},(∃ o,s.heap.get? a=some o/\H a=none)->Heap.SameBut a s.heap J->HOk X.prog X.w H J:=λ{a J} ha f b ob e=>by
  obtain⟨_,_,B⟩:=ha;refine(I.hok b ob e).stay (λc S hc q=>(f.2 c ?_).trans q) (λ_ q=>q) λ_ _ q=>q
  rintro rfl
  rcases hc with rfl | hc
  .rw[B]at e;cases e
  .rw[B]at hc;cases hc
 rcases w with hk | hk
 .refine wpAny_storeName_local hk W (λJ ad f=>?_) N
  obtain⟨oL,_,_,ab,_⟩:=id W;refine h _ ⟨I.ok,I.os,I.bare,⟨λb o e n D w=>?_,λb o e n D w=>?_,I.base.free,λb o e w=>?_,I.base.tups,I.base.frzs,I.base.tbls⟩,⟨_,ad,λj y v' g e2 e3=>?_⟩,λy c e=>?_,I.free,I.freeC,λp hp=>?_,l ⟨oL,ab,I.free⟩ f,by simpa using I.len⟩ ⟨_,f,.inl rfl⟩
  .exact(f.2 b (Nat.ne_of_lt (Nat.lt_of_lt_of_le (Heap.lt_size e) I.ok.above))).trans (I.base.keep b o e n D w)
  .obtain⟨sl,g⟩:=I.base.slot b o e n D w
   exact⟨sl,(f.2 b (Nat.ne_of_lt (Nat.lt_of_lt_of_le (Heap.lt_size e) I.ok.above))).trans g⟩
  .obtain⟨Z,g⟩:=I.base.there b o e w
   exact⟨Z,(f.2 b (Nat.ne_of_lt (Nat.lt_of_lt_of_le (Heap.lt_size e) I.ok.above))).trans g⟩
  .by_cases hj:j=i
   .subst hj
    rw[hi]at g;cases g;rw[List.getElem?_set_self C]at e2;cases e2;exact⟨u,r,.inl ⟨hk,by simp⟩⟩
   .rw[List.getElem?_set_ne (Ne.symm hj)]at e2
    obtain⟨T,r',q⟩:=hl j y v' g e2 e3;refine⟨T,r',?_⟩
    rcases q with⟨k,e⟩ | ⟨k,c,e,z⟩
    .refine .inl ⟨k,?_⟩
     have:y≠x:=λe=>hj (lK hN g (e ▸ hi))
     simp[this,e]
    .exact .inr ⟨k,c,e,z.sameBut f (G y c e)⟩
  .obtain⟨S,z⟩:=I.cell y c e
   exact⟨S,z.sameBut f (G y c e)⟩
  .obtain⟨e,n,P,Y,d⟩:=I.pin p hp
   exact⟨(f.2 p.1 P).trans e,n,P,Y,d⟩
 .have F:X.fn x=true:=by
   rcases hf with z | z
   .exact z
   .rw[z]at hk;cases hk
  obtain⟨c,hc⟩:=I.ok.has x (.inl hk);obtain⟨S,z⟩:=I.cell x c hc;refine wpAny_storeName_cell I.ok.kind hk hc z (λJ O f=>?_);obtain⟨oc,L,K⟩:=id z;refine h { s with heap:=J } ⟨I.ok,I.os,I.bare,⟨λb o e n D w=>?_,λb o e n D w=>?_,I.base.free,λb o e w=>?_,I.base.tups,I.base.frzs,I.base.tbls⟩,⟨m,W.sameBut f (Ne.symm (G x c hc)),λj y v' g e2 e3=>?_⟩,λy R e=>?_,I.free,I.freeC,λp hp=>?_,l ⟨oc,L,I.freeC x c hc⟩ f,by simpa using I.len⟩ ⟨c,f,.inr hc⟩
  .exact(f.2 b (Nat.ne_of_lt (Nat.lt_of_lt_of_le (Heap.lt_size e) (I.ok.cab x c F hc)))).trans (I.base.keep b o e n D w)
  .obtain⟨sl,g⟩:=I.base.slot b o e n D w
   exact⟨sl,(f.2 b (Nat.ne_of_lt (Nat.lt_of_lt_of_le (Heap.lt_size e) (I.ok.cab x c F hc)))).trans g⟩
  .obtain⟨Z,g⟩:=I.base.there b o e w
   exact⟨Z,(f.2 b (Nat.ne_of_lt (Nat.lt_of_lt_of_le (Heap.lt_size e) (I.ok.cab x c F hc)))).trans g⟩
  .by_cases hj:j=i
   .subst hj
    rw[hi]at g;cases g;rw[List.getElem?_set_self C]at e2;cases e2;exact⟨u,r,.inr ⟨.inl hk,c,hc,O⟩⟩
   .rw[List.getElem?_set_ne (Ne.symm hj)]at e2
    obtain⟨T,r',q⟩:=hl j y v' g e2 e3;refine⟨T,r',?_⟩
    rcases q with q | ⟨k,R,e,z'⟩
    .exact .inl q
    .refine .inr ⟨k,R,e,z'.sameBut f ?_⟩
     rintro rfl;exact hj (lK hN g (I.ok.inj _ _ _ e hc ▸ hi))
  .by_cases hcc:R=c
   .subst hcc;exact⟨_,O⟩
   .obtain⟨w2,z2⟩:=I.cell y R e
    exact⟨w2,z2.sameBut f hcc⟩
  .obtain⟨e,n,P,Y,d⟩:=I.pin p hp
   refine⟨(f.2 p.1 ?_).trans e,n,P,Y,d⟩;intro q;rw[q,L]at e;have q':oc=p.2:=Option.some.inj e;exact d S (by rw[<- q'];exact K)
theorem f6{M:Model}{A:Around}{E:Value->Shared->Prop}{i:Nat}{x:Str}{v:V}{u:Value}{Q:Unit->Shared->Prop}(I:Inv X pins σ H s)(d:X.N.Nodup)(hi:X.N[i]? = some x)(a:Loc X.env.scope x)(r:RelV v u)
  (h:∀ s',Inv X pins (σ.set i (some v)) H s'->Q () s') (b:X.fn x = true\/X.env.scope.names.lookup x = some .local:=by first | exact .inl rfl | exact .inr rfl | assumption):wpAny M A (storeName X.env x u) Q E s :=
 mZ I d hi a r (λs' c _=>h s' c) b
theorem Inv.call'{a:Shared}{ch:List Addr}(I:Inv X pins σ H s)(g:a.os=s.os)(u:Un (frs X.stack) ch H H' s.heap a.heap)(d:HOk X.prog X.w H' a.heap)(h:AllBare a.gens)
  (f:∀ b ∈ ch,(b ∈ X.ex\/X.s₀.heap.objs.size<=b)/\b≠X.env.locals/\(∀ x c,X.env.cells.lookup x = some c->c≠b)/\∀ p ∈ X.pn ++ pins,p.1≠b):Inv X pins σ H' a:=by
 obtain⟨j,g',d',t',i⟩:=a;have e:i=s.os:=g;subst e;exact I.call (g':=g') (t':=t') (d':=d') u d h f
end
abbrev XK:=Value->Option Addr->Hp->Prop
abbrev St:=List (Option V)
abbrev VK:=V->Hp->Prop
abbrev TE:=St->Hp->VK->Prop
abbrev TT:=St->Hp->(Bool->Hp->Prop)->Prop
abbrev TA:=St->Hp->(List V->Hp->Prop)->Prop
structure Ends where
 nx:St->Hp->Prop
 rt:VK
 bk:St->Hp->Prop:=λ_ _=>False
 ct:St->Hp->Prop:=λ_ _=>False
abbrev TS:=Ends->St->Hp->Prop
def EP(X:Cx)(pins:List (Addr×Obj))(σ:St)(Q:VK)(u:Value)(s':Shared):Prop:=∃ v H',Inv X pins σ H' s'/\RelV v u/\Q v H'
def TP(X:Cx)(pins:List (Addr×Obj))(σ:St)(Q:Bool->Hp->Prop)(b:Bool)(s':Shared):Prop:=∃ H',Inv X pins σ H' s'/\Q b H'
def AP(X:Cx)(pins:List (Addr×Obj))(σ:St)(Q:List V->Hp->Prop)(us:List Value)(s':Shared):Prop:=∃ vs H',Inv X pins σ H' s'/\Vals vs us/\Q vs H'
def SP(X:Cx)(pins:List (Addr×Obj))(D:Ends)(f:Flow)(s':Shared):Prop :=
 match f with
 | .next=>∃ σ' H',Inv X pins σ' H' s'/\D.nx σ' H'
 | .brk=>∃ σ' H',Inv X pins σ' H' s'/\D.bk σ' H'
 | .cont=>∃ σ' H',Inv X pins σ' H' s'/\D.ct σ' H'
 | .ret u=>∃ v σ' H',Inv X pins σ' H' s'/\RelV v u/\D.rt v H'
def PE(X:Cx)(e:Expr)(t:TE):Prop :=
 ∀(pins:List (Addr×Obj)) (s:Shared) (σ:St) (H:Hp) (Q:VK),Inv X pins σ H s->t σ H Q->wpAny (model X.prog X.w) X.A (eval e X.env) (EP X pins σ Q) X.xe s
def PT(X:Cx)(e:Expr)(t:TT):Prop :=
 ∀(pins:List (Addr×Obj)) (s:Shared) (σ:St) (H:Hp) (Q:Bool->Hp->Prop),Inv X pins σ H s->t σ H Q->wpAny (model X.prog X.w) X.A (isTrue e X.env (eval e X.env)) (TP X pins σ Q) X.xe s
def PW(X:Cx)(e:Expr)(t:TT):Prop :=
 ∀(whole:Sem Value) (pins:List (Addr×Obj)) (s:Shared) (σ:St) (H:Hp) (Q:Bool->Hp->Prop),Inv X pins σ H s->t σ H Q->wpAny (model X.prog X.w) X.A (isTrue e X.env whole) (TP X pins σ Q) X.xe s
theorem PW.pt{X:Cx}{e:Expr}{t:TT}(h:PW X e t):PT X e t:=h _
def PA(X:Cx)(es:List Expr)(t:TA):Prop :=
 ∀(pos:Pos) (pins:List (Addr×Obj)) (s:Shared) (σ:St) (H:Hp) (Q:List V->Hp->Prop),Inv X pins σ H s->t σ H Q->wpAny (model X.prog X.w) X.A (spliced (backTo pos (starEach es X.env))) (AP X pins σ Q) X.xe s
def PS(X:Cx)(st:Stmt)(t:TS):Prop :=
 ∀(pins:List (Addr×Obj)) (s:Shared) (σ:St) (H:Hp) (D:Ends),Inv X pins σ H s->t D σ H->wpAny (model X.prog X.w) X.A (exec st X.env) (SP X pins D) X.xe s
def PSs(X:Cx)(st:List Stmt)(t:TS):Prop :=
 ∀(pins:List (Addr×Obj)) (s:Shared) (σ:St) (H:Hp) (D:Ends),Inv X pins σ H s->t D σ H->wpAny (model X.prog X.w) X.A (execs st X.env) (SP X pins D) X.xe s
theorem thn{c:Type}{t:Sem c}{Q b:c->Shared->Prop}{M:Model}{A:Around}{E:Value->Shared->Prop}{s:Shared}(h:wpAny M A t Q E s)(d:∀ a s,Q a s->b a s):wpAny M A t b E s:=wpAny_mono h d λ_ _ x=>x
section
variable {X:Cx}
def ED(i:Nat):TE:=λσ H Q=>∃ v,σ[i]? = some (some v)/\Q v H
def tC(v:V):TE:=λ_ H Q=>Q v H
theorem Cg{i:Nat}{x:Str}{g:Pos}(A:X.N[i]? = some x)(y:Vis X.env.scope x)(f:(x == ("__debug__" : Str))=false:=by decide)(j:(x == ("__classdict__" : Str))=false:=by decide):PE X (.Name x g) (ED i):=by
 intro d s B H Q I h;obtain⟨v,e,h⟩:=h;obtain⟨m,C,w⟩:=I.loc;obtain⟨u,r,l⟩:=w i x v A e y
 have b:EP X d B Q u s:=⟨v,H,I,r,h⟩
 rcases l with⟨hk,p⟩ | ⟨hk,c,o,a⟩
 .exact wpAny_Name (wpAny_loadName_local I.ok.kind hk C p b) f
 .rcases hk with hk | hk
  .exact wpAny_Name (wpAny_loadName_cell I.ok.kind hk o a b) f
  .exact wpAny_Name (wpAny_loadName_free I.ok.kind hk o a b j) f
theorem af{i j pos}:PE X (.Constant (.int i) j pos) (tC (.int i)):=λ_ _ _ H _ I h=>wpAny_Constant_int ⟨.int i,H,I.tok _,⟨_,rfl⟩,h⟩
theorem fz{b j pos}:PE X (.Constant (.bool b) j pos) (tC (.bl b)):=λ_ _ _ H _ I h=>Constant_bool ⟨.bl b,H,I,rfl,h⟩
theorem bV{x j pos}:PE X (.Constant (.str x) j pos) (tC (.str x)):=λ_ _ _ H _ I h=>Calls.Constant_str ⟨.str x,H,I.tok _,⟨_,rfl⟩,h⟩
def Gl(X:Cx)(x:Str):Prop:=X.env.kindOf x=some .globalImplicit
theorem kM{E:Value->Shared->Prop}{a:List (Addr×Obj)}{s:Shared}{f:St}{H:Hp}{x:Str}{u:Value}{b:Pos}{Q:Value->Shared->Prop}(I:Inv X a f H s)(e:Gl X x)(c:X.mg x=some u)(h:Q u s)
  (d:(x == ("__debug__" : Str))=false:=by decide):wpAny (model X.prog X.w) X.A (eval (.Name x b) X.env) Q E s :=
 Calls.Name_function_global I.ok.kind e (Calls.loadGlobal_global (by rw[I.ok.glob];exact I.mod.glob.keeps I.bk) c h) d
theorem jp{E:Value->Shared->Prop}{a:List (Addr×Obj)}{s:Shared}{j:St}{H:Hp}{x:Str}{u:Value}{b:Pos}{Q:Value->Shared->Prop}(I:Inv X a j H s)(f:Gl X x)(d:X.mg x=none)(i:bootBuiltins x=some u)(h:Q u s)
  (l:x ≠ "__name__" := by decide) (e:(x == ("__debug__" : Str))=false:=by decide):wpAny (model X.prog X.w) X.A (eval (.Name x b) X.env) Q E s:=by
 obtain⟨m,g,c⟩:=I.mod.blt;exact Calls.Name_function_global I.ok.kind f (Calls.loadGlobal_builtin (by rw[I.ok.glob];exact I.mod.glob.keeps I.bk) d (by rw[I.ok.blt];exact g.keeps I.bk) ((c x l).trans i) h) e
theorem zq{x:Str}{v:V}{u:Value}{a:Pos}(c:Gl X x)(b:X.mg x=some u)(r:RelV v u)(d:(x == ("__debug__" : Str))=false:=by decide):PE X (.Name x a) (tC v) :=
 λ_ _ _ H _ I h=>kM I c b ⟨v,H,I,r,h⟩ d
theorem cX{x:Str}{v:V}{u:Value}{a:Pos}(d:Gl X x)(b:X.mg x=none)(e:bootBuiltins x=some u)(r:RelV v u)(f:x ≠ "__name__" := by decide)(c:(x == ("__debug__" : Str))=false:=by decide):PE X (.Name x a) (tC v) :=
 λ_ _ _ H _ I h=>jp I d b e ⟨v,H,I,r,h⟩ f c
variable {a b:Expr}{ta tb:TE}{pos:Pos}
variable {tA tB':TT}{fj:List Expr}
def EU(t u:TT):TT:=λσ H Q=>t σ H λc H1=>if c=true then u σ H1 Q else Q false H1
def tOr(t u:TT):TT:=λσ H Q=>t σ H λc H1=>if c=true then Q true H1 else u σ H1 Q
def Fa(t:TT):TT:=λσ H Q=>t σ H λc H1=>Q (!c) H1
theorem oK(d:PT X a tA):PW X (.BoolOp .And [a] pos) tA:=by
 intro g b s f H Q I h;refine isTrue_and (thn (d b s f H Q I h) λc i e=>?_);cases c with
 | true=>exact isTrue_and_nil e
 | false=>exact e
theorem fM(d:PT X a tA):PW X (.BoolOp .Or [a] pos) tA:=by
 intro g b s f H Q I h;refine isTrue_or (thn (d b s f H Q I h) λc i e=>?_);cases c with
 | false=>exact isTrue_or_nil e
 | true=>exact e
theorem sW(o:PT X a tA)(j:PW X (.BoolOp .And (b::fj) pos) tB'):PW X (.BoolOp .And (a::b::fj) pos) (EU tA tB'):=by
 intro l d s f H Q I h;refine isTrue_and (thn (o d s f H _ I h) λc m ⟨i,g,e⟩=>?_);cases c with
 | true=>exact j l d m f i Q g e
 | false=>exact⟨i,g,e⟩
theorem gq(o:PT X a tA)(j:PW X (.BoolOp .Or (b::fj) pos) tB'):PW X (.BoolOp .Or (a::b::fj) pos) (tOr tA tB'):=by
 intro l d s f H Q I h;refine isTrue_or (thn (o d s f H _ I h) λc m ⟨i,g,e⟩=>?_);cases c with
 | true=>exact⟨i,g,e⟩
 | false=>exact j l d m f i Q g e
theorem cf(e:PT X a tA):PT X (.UnaryOp .Not a pos) (Fa tA):=by
 intro b s d H Q I h;exact isTrue_not (e b s d H (λc f=>Q (!c) f) I h)
theorem dQ{op}{t:TE}(h:PE X a t):PE X (.BoolOp op [a] pos) t:=λb s c H Q I d=>BoolOp_one (h b s c H Q I d)
def tIf(t:TT)(ta tb:TE):TE:=λσ H Q=>t σ H λc H1=>if c=true then ta σ H1 Q else tb σ H1 Q
theorem fR{c:Expr}(o:PT X c tA)(p:PE X a ta)(m:PE X b tb):PE X (.IfExp c a b pos) (tIf tA ta tb):=by
 intro e s f H Q I h;refine wpAny_IfExp (thn (o e s f H _ I h) λd i ⟨l,j,g⟩=>?_);cases d with
 | true=>exact p e i f l Q j g
 | false=>exact m e i f l Q j g
end
def SqL(K:Frag)(H:Hp)(a:Addr)(xs:List V):Prop :=
 Rd H a (.lst xs) \/
  ∃(o:Obj) (its:Array Value) (n:Nat),K.lookup a=some o/\o.cls=.type "list" /\ o.dict=none/\o.data=.seq its n/\its.size<=sizeLine/\Vals xs its.toList
def SqT(K:Frag)(H:Hp)(a:Addr)(xs:List V):Prop :=
 Rd H a (.tup xs) \/
  ∃(o:Obj) (its:Array Value) (n:Nat),K.lookup a=some o/\o.cls=.type "tuple" /\ o.data=.seq its n/\its.size<=sizeLine/\Vals xs its.toList
def Fh:Value->Option V
 | .none=>some .non
 | .bool b=>some (.bl b)
 | .int i _=>some (.int i)
 | .str x _=>some (.str x)
 | .bytes b _=>some (.byt b)
 | .float b _=>some (.flt b)
 | .ref a=>some (.ref a)
 | .type n=>some (.ty n)
 | _=>none
theorem RelV.abs{x:V}{u:Value}(r:RelV x u):Fh u=some x:=by
 cases x with
 | non=>cases r;rfl
 | bl _=>cases r;rfl
 | int _=>obtain⟨t,rfl⟩:=r;rfl
 | str _=>obtain⟨t,rfl⟩:=r;rfl
 | byt _=>obtain⟨t,rfl⟩:=r;rfl
 | flt _=>obtain⟨t,rfl⟩:=r;rfl
 | ref _=>cases r;rfl
 | ty _=>cases r;rfl
theorem RelV.inj{x y:V}{u:Value}(r:RelV x u)(q:RelV y u):x=y:=Option.some.inj (r.abs.symm.trans q.abs)
theorem Vals.inj:∀{xs ys:List V}{us:List Value},Vals xs us->Vals ys us->xs=ys
 | _,_,_,.nil,.nil=>rfl
 | _,_,_,.cons r t,.cons r' t'=>by rw[r.inj r',Vals.inj t t']
section
variable {X:Cx}{pins:List (Addr×Obj)}{σ:St}{H:Hp}{s:Shared}{a:Addr}{xs ys:List V}
theorem SqL.of{K:Frag}(h:H a=some (.lst xs)):SqL K H a xs:=.inl (.inl h)
theorem SqT.of{K:Frag}(h:H a=some (.tup xs)):SqT K H a xs:=.inl (.inl h)
theorem Inv.list(I:Inv X pins σ H s)(h:SqL X.K H a xs):∃ its:List Value,Vals xs its/\PlainL s.heap a its.toArray/\xs.length<=sizeLine:=by
 rcases h with h | ⟨o,its,n,f,c,d,b,g,r⟩
 .obtain⟨z,its,n,r,e⟩:=h.ok I.hok
  exact⟨its,r,⟨_,n,e,rfl,rfl,rfl⟩,z⟩
 .refine⟨its.toList,r,⟨o,n,I.kIn a o f,c,d,by simpa using b⟩,?_⟩
  have e:=r.length;simp only[Array.length_toList]at e;lia
theorem Inv.tuple(I:Inv X pins σ H s)(h:SqT X.K H a xs):∃ its:List Value,Vals xs its/\IsTup s.heap a its.toArray/\xs.length<=sizeLine:=by
 rcases h with h | ⟨o,its,n,c,b,d,f,r⟩
 .obtain⟨z,its,r,p⟩:=h.ok I.hok
  exact⟨its,r,p,z⟩
 .refine⟨its.toList,r,⟨o,I.kIn a o c,b,n,by simpa using d⟩,?_⟩
  have e:=r.length;simp only[Array.length_toList]at e;lia
theorem Inv.list_inj(I:Inv X pins σ H s)(h:SqL X.K H a xs)(h':SqL X.K H a ys):xs=ys:=by
 obtain⟨c,r,⟨o,n,e,_,_,d⟩,_⟩:=I.list h;obtain⟨b,i,⟨l,j,f,_,_,g⟩,_⟩:=I.list h';rw[e]at f;cases f;rw[d]at g;injection g with d1 _
 have:c=b:=by simpa using congrArg Array.toList d1
 subst this;exact r.inj i
theorem Inv.tuple_inj(I:Inv X pins σ H s)(h:SqT X.K H a xs)(h':SqT X.K H a ys):xs=ys:=by
 obtain⟨c,r,⟨o,e,_,n,d⟩,_⟩:=I.tuple h;obtain⟨b,i,⟨l,f,_,j,g⟩,_⟩:=I.tuple h';rw[e]at f;cases f;rw[d]at g;injection g with d1 _
 have:c=b:=by simpa using congrArg Array.toList d1
 subst this;exact r.inj i
end
abbrev Cx.wish(X:Cx)(E:Value->Shared->Prop):Cx:={ X with xe:=E }
abbrev Cx.nox(X:Cx):Cx:=X.wish λ_ _=>False
theorem Cx.Ok.wish{X:Cx}(a:X.Ok)(E:Value->Shared->Prop):(X.wish E).Ok :=
 ⟨a.mod,a.kind,a.glob,a.blt,a.above,a.inj,a.has,a.cab,a.hd,a.frames,a.stk,a.exf,a.bs,a.bsz,a.noex,a.exfs,a.funs,a.frf⟩
theorem Cx.Ok.unwish{X:Cx}{E:Value->Shared->Prop}(a:(X.wish E).Ok):X.Ok :=
 ⟨a.mod,a.kind,a.glob,a.blt,a.above,a.inj,a.has,a.cab,a.hd,a.frames,a.stk,a.exf,a.bs,a.bsz,a.noex,a.exfs,a.funs,a.frf⟩
section
variable {X:Cx}{pins:List (Addr×Obj)}{σ:St}{H:Hp}{s:Shared}{E:Value->Shared->Prop}
theorem Inv.wish(I:Inv X pins σ H s)(E:Value->Shared->Prop):Inv (X.wish E) pins σ H s:=⟨I.ok.wish E,I.os,I.bare,I.base,I.loc,I.cell,I.free,I.freeC,I.pin,I.hok,I.len⟩
theorem Inv.unwish(I:Inv (X.wish E) pins σ H s):Inv X pins σ H s:=⟨I.ok.unwish,I.os,I.bare,I.base,I.loc,I.cell,I.free,I.freeC,I.pin,I.hok,I.len⟩
theorem SP.unwish{D:Ends}{f:Flow}{c:Shared}(h:SP (X.wish E) pins D f c):SP X pins D f c:=by
 cases f with
 | next=>obtain⟨a,b,I,q⟩:=h;exact⟨a,b,I.unwish,q⟩
 | brk=>obtain⟨a,b,I,q⟩:=h;exact⟨a,b,I.unwish,q⟩
 | cont=>obtain⟨a,b,I,q⟩:=h;exact⟨a,b,I.unwish,q⟩
 | ret u=>obtain⟨v,a,b,I,r,q⟩:=h;exact⟨v,a,b,I.unwish,r,q⟩
theorem PSs.nox{st:List Stmt}{t:TS}(h:PSs X.nox st t):PSs X st t:=λa s b H D I c =>
 wpAny_mono (h a s b H D (I.wish _) c) (λ_ _ q=>q.unwish) λ_ _ z=>False.elim z
end
section
variable {X:Cx}{st:Stmt}{fj:List Stmt}{t u:TS}{e:Expr}{te:TE}{pos:Pos}
def Bp:TS:=λD σ H=>D.nx σ H
def bi(t u:TS):TS:=λD σ H=>t { D with nx:=u D } σ H
theorem aE:PSs X [] Bp:=λ_ _ a H _ I h=>wpAny_execs_nil ⟨a,H,I,h⟩
theorem ag(i:PS X st t)(c:PSs X fj u):PSs X (st::fj) (bi t u):=by
 intro a s j H D I h;refine wpAny_execs_cons (thn (i a s j H { D with nx:=u D } I h) λf d q=>?_);cases f with
 | next =>
  obtain⟨b,g,e,q⟩:=q;exact c a d b g D e q
 | ret v=>exact q
 | brk=>exact q
 | cont=>exact q
theorem ai(b:PS X st t):PSs X [st] t:=by
 intro a s c H D I h;refine wpAny_execs_cons (thn (b a s c H D I h) λf d q=>?_);cases f with
 | next=>exact wpAny_execs_nil q
 | ret v=>exact q
 | brk=>exact q
 | cont=>exact q
def Ch:TS:=λD σ H=>D.bk σ H
theorem AA:PS X (.Pass pos) Bp:=λ_ _ a H _ I h=>wpAny_Pass ⟨a,H,I,h⟩
theorem yI:PS X (.Break pos) Ch:=λ_ _ a H _ I h=>wpAny_Break ⟨a,H,I,h⟩
theorem Inv.quiet{a:List (Addr×Obj)}{b:St}{H:Hp}{s:Shared}(I:Inv X a b H s):interactive X.env=false:=by simp[interactive,I.ok.kind]
def C8(te:TE):TS:=λD σ H=>te σ H λ_ H1=>D.nx σ H1
theorem bO(g:PE X e te)(c:swapsWith e none pos.line X.env=pure false:=by rfl):PS X (.Expr e pos) (C8 te):=by
 intro a s b H D I h;exact wpAny_Expr_any (thn (g a s b H _ I h) λv j ⟨x,i,f,l,d⟩=>⟨b,i,f,d⟩) I.quiet c
def DM(te:TE):TS:=λD σ H=>te σ H D.rt
theorem aq(g:PE X e te):PS X (.Return (some e) pos) (DM te):=by
 intro a s b H D I h;exact wpAny_Return_some (thn (g a s b H _ I h) λv j ⟨x,i,f,d,c⟩=>⟨x,b,i,f,d,c⟩)
def Ff(c:TT)(t u:TS):TS:=λD σ H=>c σ H λb H1=>if b=true then t D σ H1 else u D σ H1
theorem a8{c:Expr}{a b:List Stmt}{i:TT}(p:PT X c i)(r:PSs X a t)(o:PSs X b u):PS X (.If c a b pos) (Ff i t u):=by
 intro e s f H D I h;refine wpAny_If (thn (p e s f H _ I h) λd j ⟨m,l,g⟩=>?_);cases d with
 | true=>exact r e j f m D l g
 | false=>exact o e j f m D l g
def CL:TS:=λ_ _ _=>False
theorem d7:PS X st CL:=λ_ _ _ _ _ _ h=>h.elim
end
abbrev TG:=V->St->Hp->(St->Hp->Prop)->Prop
abbrev TGs:=List V->St->Hp->(St->Hp->Prop)->Prop
def PG(X:Cx)(target:Expr)(t:TG):Prop :=
 ∀(pins:List (Addr×Obj)) (s:Shared) (σ:St) (H:Hp) (v:V) (u:Value) (Q:St->Hp->Prop),Inv X pins σ H s->RelV v u->t v σ H Q ->
  wpAny (model X.prog X.w) X.A (assign target X.env u) (λ_ s'=>∃ σ' H',Inv X pins σ' H' s'/\Q σ' H') X.xe s
def PGs(X:Cx)(ts:List Expr)(t:TGs):Prop :=
 ∀(pins:List (Addr×Obj)) (s:Shared) (σ:St) (H:Hp) (vs:List V) (us:List Value) (Q:St->Hp->Prop),Inv X pins σ H s->Vals vs us->t vs σ H Q ->
  wpAny (model X.prog X.w) X.A (assignInOrder ((assignEach ts X.env).map (·.2)) us) (λ_ s'=>∃ σ' H',Inv X pins σ' H' s'/\Q σ' H') X.xe s
abbrev BT:=V->V->V->Hp->(Hp->Prop)->Prop
def Dc(X:Cx)(t:BT):Prop :=
 ∀(pins:List (Addr×Obj)) (s:Shared) (σ:St) (H:Hp) (o i v:V) (ov iv u:Value) (Q:Hp->Prop),Inv X pins σ H s->RelV o ov->RelV i iv->RelV v u->t o i v H Q ->
  wpAny (model X.prog X.w) X.A (setItem ov iv u) (λ_ s'=>∃ H',Inv X pins σ H' s'/\Q H') X.xe s
abbrev TIp:=V->V->Hp->VK->Prop
def PIp(X:Cx)(op:Operator)(t:TIp):Prop :=
 ∀(pins:List (Addr×Obj)) (s:Shared) (σ:St) (H:Hp) (x y:V) (v u:Value) (Q:VK),Inv X pins σ H s->RelV x v->RelV y u->t x y H Q ->
  wpAny (model X.prog X.w) X.A (inplaceOp op v u) (EP X pins σ Q) X.xe s
section
variable {X:Cx}{pos:Pos}
def mL(i:Nat):TG:=λv σ H Q=>Q (σ.set i (some v)) H
theorem am{i:Nat}{x:Str}(d:X.N.Nodup)(hi:X.N[i]? = some x)(b:Loc X.env.scope x)(e:X.fn x = true\/X.env.scope.names.lookup x = some .local:=by first | exact .inl rfl | exact .inr rfl | assumption):PG X (.Name x pos) (mL i):=by
 intro a s g H v u Q I r h;exact wpAny_assign_Name (f6 I d hi b r (λf c=>⟨_,H,c,h⟩) e)
def Fb:TGs:=λvs σ H Q=>vs=[]/\Q σ H
inductive gCons(t:TG)(u:TGs)(vs:List V)(σ:St)(H:Hp)(Q:St->Hp->Prop):Prop
 | mk(v:V)(r:List V)(h0:vs=v::r)(h1:t v σ H λσ' H'=>u r σ' H' Q):gCons t u vs σ H Q
theorem aZ:PGs X [] Fb:=by
 intro a s b H c d Q I r h;obtain⟨e,h⟩:=h;subst e;cases r;exact assignInOrder_nil ⟨b,H,I,h⟩
theorem aw{e:Expr}{b:List Expr}{t:TG}{u:TGs}(j:PG X e t)(d:PGs X b u)
  (f:(assignEach (e::b) X.env).map (·.2)=assign e X.env::(assignEach b X.env).map (·.2):=by rfl):PGs X (e::b) (gCons t u):=by
 intro a s m H y x Q I r h;obtain⟨v,w,l,h⟩:=h;subst l;cases r with
 | cons r rr =>
  rw[f];refine assignInOrder_cons (thn (j a s m H _ _ _ I r h) λ_ i ⟨c,p,o,g⟩=>?_);exact d a i c p _ _ Q o rr g
inductive gTup(K:Frag)(n:Nat)(t:TGs)(v:V)(σ:St)(H:Hp)(Q:St->Hp->Prop):Prop
 | mk(a:Addr)(xs:List V)(h0:v=.ref a)(h1:SqT K H a xs)(h2:xs.length=n)(h3:t xs σ H Q):gTup K n t v σ H Q
theorem dS{d:List Expr}{k:Nat}{t:TGs}{n:Nat}(l:X.calm=true)(h:PGs X d t)
  (C:(assignEach d X.env).length=n:=by rfl) (g:(assignEach d X.env).findIdx? (·.1)=none:=by rfl):PG X (.Tuple d k pos) (gTup X.K n t):=by
 intro c s j H v u Q I r f;obtain⟨a,y,x,B,p,f⟩:=f;subst x;cases r;obtain⟨A,i,E,F⟩:=I.tuple B;refine assign_Tuple_tuple (I.ok.hd l) E (by simp[C,<- p,i.length]) g λw m=>?_
 have D:Inv X c j H { s with heap:=w }:=I.kept (t':=s.toks) λb o e=>m b o (Nat.ne_of_lt (Heap.lt_size e)) e
 exact h c _ j H y _ Q D (by simpa using i) f
def EH(to ti:TE)(t:BT):TG:=λv σ H Q=>to σ H λo H1=>ti σ H1 λi H2=>t o i v H2 λH3=>Q σ H3
theorem C0{o i:Expr}{c d:TE}{t:BT}(A:PE X o c)(hi:PE X i d)(D:Dc X t)
  (l:∀ v,assign (.Subscript o i pos) X.env v=(do
   let ov <- holding [v] (eval o X.env)
   let iv <- holding [v,ov] (eval i X.env)
   standAt pos
   holding [v,ov,iv] (setItem ov iv v)
   release [v,ov,iv] []):=by intro _;rfl):PG X (.Subscript o i pos) (EH c d t):=by
 intro a s b H v u Q I r h;rw[l];refine wpAny_bind (wpAny_holding (thn (A a s b H _ I h) λov f ⟨x,J,w,F,p⟩=>?_));refine wpAny_bind (wpAny_holding (thn (hi a f b J _ w p) λiv j ⟨y,g,G,B,e⟩=>?_));refine wpAny_bind (wpAny_standAt (wpAny_bind (wpAny_holding (thn (D a j b g x y v ov iv u _ G F B r e) λ_ K ⟨m,E,C⟩=>?_))));exact wpAny_release ⟨b,m,E,C⟩
def wd(te:TE)(g:TG):TS:=λD σ H=>te σ H λx H1=>g x σ H1 D.nx
theorem o8{tg e:Expr}{b:TE}{g:TG}(r:PE X e b)(l:PG X tg g)(d:swapsWithSole [tg] e pos.line X.env=pure false:=by rfl)(i:swappedStores [tg] e X.env=pure none:=by rfl)
  (m:(assignEach [tg] X.env).map (·.2)=[assign tg X.env]:=by rfl):PS X (.Assign [tg] e pos) (wd b g):=by
 intro a s c H D I h;refine wpAny_Assign_stores (thn (r a s c H _ I h) λv j ⟨x,u,p,o,f⟩=>?_) d i;rw[m];exact thn (l a j c u x v _ p o f) λ_ w q=>q
theorem rY{i:Nat}{x:Str}{e:Expr}{c:TE}{a:Pos}(l:X.N.Nodup)(hi:X.N[i]? = some x)(f:Loc X.env.scope x)(r:PE X e c)(d:swapsWith e (some (.Name x a)) pos.line X.env = pure false:=by rfl)(o:X.fn x = true\/X.env.scope.names.lookup x = some .local:=by first | exact .inl rfl | exact .inr rfl | assumption) :
  PS X (.Assign [.Name x a] e pos) (wd c (mL i)):=by
 intro b s m H D I h;refine wpAny_Assign_Name (thn (r b s m H _ I h) λv A ⟨y,w,p,j,g⟩=>?_) d;exact f6 p l hi f j (λB u=>⟨_,w,u,g⟩) o
def ER(i j:Nat)(ta:TA):TS:=λD σ H=>ta σ H λvs H1=>∃ v w,vs=[v,w]/\D.nx ((σ.set i (some v)).set j (some w)) H1
theorem zm{i j:Nat}{x y:Str}{a b:Expr}{G:TA}{r l u:Pos}{kt k2 pt2}(R:X.calm=true)(C:X.N.Nodup)(hi:X.N[i]? = some x)(N:X.N[j]? = some y)(m:i≠j)
  (F:X.env.scope.names.lookup x = some .local) (E:X.env.scope.names.lookup y = some .local) (L:PA X [a,b] G)
  (M:swappedStores [.Tuple [.Name x r,.Name y l] kt u] (.Tuple [a,b] k2 pt2) X.env=pure (some [x,y]))
  (S:swapsWithSole [.Tuple [.Name x r,.Name y l] kt u] (.Tuple [a,b] k2 pt2) pos.line X.env=pure false:=by rfl) :
  PS X (.Assign [.Tuple [.Name x r,.Name y l] kt u] (.Tuple [a,b] k2 pt2) pos) (ER i j G):=by
 intro c s A H D I h;rw[exec_Assign_arm];refine wpAny_bind (wpAny_standAt ?_);rw[S];refine wpAny_bind (wpAny_pure ?_);rw[if_neg (by decide)];refine wpAny_bind (Tuple_ (thn (L _ c s A H _ I h) λP d ⟨vs,J,O,W,f⟩=>?_));obtain⟨v,w,K,f⟩:=f;subst K
 obtain⟨u1,u2,rfl,rv,rw'⟩:∃ u1 u2,P=[u1,u2]/\RelV v u1/\RelV w u2:=by
  cases W with
  | cons p q =>
   cases q with
   | cons p' q' =>
    cases q';exact⟨_,_,rfl,p,p'⟩
 refine wpAny_newObj_type ?_ (by show 2<=sizeLine;decide);have Y:Inv X c A J { d with heap:=d.heap.push { cls:=.type "tuple",data:=.seq [u1,u2].toArray } }:=O.kept (t':=d.toks) λb o e=>Heap.get?_push_of_some _ e
 rw[M];refine wpAny_bind (wpAny_pure ?_);show wpAny (model X.prog X.w) X.A (do rule "assign.swapped-stores";let items <- unpackItems (.ref d.heap.objs.size) 2 none;assignInOrder [λv=>bindName X.env y v,λv=>bindName X.env x v] items.reverse;pure Flow.next) _ _ _;refine wpAny_bind (wpAny_rule (wpAny_bind (unpackItems_tuple (items:=#[u1,u2]) (I.ok.hd R) (IsTup.new d.heap _) λh' g=>?_)));have T:=Y.kept (h':=h') (t':=d.toks) λb o e=>g b o (Nat.ne_of_lt (Heap.lt_size e)) e
 show wpAny _ _ (assignInOrder [λv=>bindName X.env y v,λv=>bindName X.env x v] [u2,u1] >>= λ_=>pure Flow.next) _ _ _;refine wpAny_bind (assignInOrder_cons (wpAny_bindName (f6 T C N (.inl E) rw' (λZ Q=>?_) (.inr E))));refine assignInOrder_cons (wpAny_bindName (f6 Q C hi (.inl F) rv (λs3 B=>assignInOrder_nil (wpAny_pure ?_)) (.inr F)));rw[List.set_comm _ _ (Ne.symm m)]at B;exact⟨_,J,B,f⟩
def Fj(i:Nat)(te:TE)(ti:TIp):TS:=λD σ H=>∃ x,σ[i]? = some (some x)/\te σ H λy H1=>ti x y H1 λz H2=>D.nx (σ.set i (some z)) H2
theorem CT{i:Nat}{x:Str}{e:Expr}{A:TE}{j:Operator}{B:TIp}{f:Pos}(N:X.N.Nodup)(hi:X.N[i]? = some x)(o:Loc X.env.scope x)(L:PE X e A)(P:PIp X j B)(Z:X.fn x = true\/X.env.scope.names.lookup x = some .local:=by first | exact .inl rfl | exact .inr rfl | assumption) :
  PS X (.AugAssign (.Name x f) j e pos) (Fj i A B):=by
 intro a s p H D I h;obtain⟨v,J,h⟩:=h;obtain⟨m,K,T⟩:=I.loc;have g:Vis X.env.scope x:=by rcases o with k | k;exact .inl k;exact .inr (.inl k)
 obtain⟨u,r,l⟩:=T i x v hi J g;refine wpAny_AugAssign_Name ?_
 have C:wpAny (model X.prog X.w) X.A (eval e X.env) (λw d=>wpAny (model X.prog X.w) X.A (inplaceOp j u w) (λr s₃=>wpAny (model X.prog X.w) X.A (storeName X.env x r) (λ_=>SP X a D .next) X.xe s₃) X.xe d) X.xe s:=by
  refine thn (L a s p H _ I h) λw F ⟨y,H1,O,Y,M⟩=>?_
  refine thn (P a F p H1 v y u w _ O r Y M) λz s2 ⟨zv,G,I2,S,E⟩=>?_
  exact f6 I2 N hi o S (λs3 W=>⟨_,G,W,E⟩) Z
 rcases l with⟨hk,Q⟩ | ⟨hk,c,R,b⟩
 .exact wpAny_loadName_local I.ok.kind hk K Q C
 .rcases hk with hk | hk
  .exact wpAny_loadName_cell I.ok.kind hk R b C
  .rcases o with k | k
   .have:X.env.scope.names.lookup x=some .free:=hk
    rw[k]at this;cases this
   .have:X.env.scope.names.lookup x=some .free:=hk
    rw[k]at this;cases this
def ipI(f:Int->Int->Int):TIp:=λx y H Q=>∃ i j,x=.int i/\y=.int j/\Q (.int (f i j)) H
theorem BM:PIp X .Sub (ipI λi j=>i - j):=by
 intro a s f H x y v u Q I c d h;obtain⟨i,j,e,b,q⟩:=h;subst e;subst b;obtain⟨t,rfl⟩:=c;obtain⟨g,rfl⟩:=d;exact isub_int ⟨.int _,H,I.tok _,⟨_,rfl⟩,q⟩
end
section
variable {X:Cx}{pos:Pos}
def Cw(c:TT)(tb:TS):TS:=λD σ H=>∃ W:Nat->St->Hp->Prop,(∃ m,W m σ H)/\∀ m σ H,W m σ H ->
 c σ H λb H1=>if b=true then ∃ N:St->Hp->Prop,(∀ σ' H',N σ' H'->∃ m',m'<m/\W m' σ' H')/\tb { D with nx:=N,ct:=N,bk:=D.nx } σ H1 else D.nx σ H1
theorem lP{c:Expr}{body:List Stmt}{A:TT}{B:TS}(y:PassesOwn (model X.prog X.w) X.A X.env X.xe)(P:PT X c A)(G:PSs X body B):PS X (.While c body [] pos) (Cw A B):=by
 intro a s L H D I h;obtain⟨W,⟨F,M⟩,i⟩:=h;refine wpAny_While (codeAny_whileLoop (λn Q=>∃ σ' H',Inv X a σ' H' Q/\W n σ' H') ?_ F ⟨L,H,I,M⟩);rintro n J ⟨e,E,O,R⟩;refine wpAny_passesOwn y (thn (P a J e E _ O (i n e E R)) λb K ⟨w,C,j⟩=>?_);cases b with
 | true =>
  obtain⟨N,x,j⟩:=j;rw[if_pos rfl];refine wpAny_passesOwn y (thn (G a K e w _ C j) λf S l=>?_);cases f with
  | next =>
   obtain⟨d,g,u,p⟩:=l;obtain⟨o,m,r⟩:=x d g p;exact⟨o,m,d,g,u,r⟩
  | cont =>
   obtain⟨d,g,u,p⟩:=l;obtain⟨o,m,r⟩:=x d g p;exact⟨o,m,d,g,u,r⟩
  | brk=>exact l
  | ret v=>exact l
 | false =>
  rw[if_neg Bool.false_ne_true];exact wpAny_execs_nil ⟨e,w,C,j⟩
end
structure It where
 go:Nat->Hp->Prop
 yld:Nat->Hp->V->Hp->Prop
 stop:Nat->Hp->Prop
def iP(X:Cx)(pins:List (Addr×Obj))(H:Hp)(b:Addr):Prop :=
 H b = none/\b≠X.env.locals/\b ∉ X.fs/\(b ∈ X.ex\/X.s₀.heap.objs.size<=b)/\(∀ x c,X.env.cells.lookup x = some c->c≠b)/\∀ p ∈ X.pn ++ pins,p.1≠b
theorem Inv.fpOk{X:Cx}{a:List (Addr×Obj)}{g:St}{H f:Hp}{s:Shared}{b:Addr}(I:Inv X a g H s)(d:s.heap.objs.size<=b)(h:f b=none):iP X a f b:=by
 refine⟨h,Nat.ne_of_gt (Nat.lt_of_lt_of_le I.lt d),I.nofs d,.inr (Nat.le_trans I.sz d),λx c e z=>?_,λp hp z=>?_⟩
 .obtain⟨v,q⟩:=I.cell x c e
  exact absurd (Nat.lt_of_lt_of_le q.lt (by rw[z];exact d)) (Nat.lt_irrefl _)
 .exact absurd (Nat.lt_of_lt_of_le (Heap.lt_size (I.pin p hp).1) (by rw[z];exact d)) (Nat.lt_irrefl _)
structure Turn(P:Program)(w:World)(K:Frag)(tg:Expr)(J:It)(fp:List Addr)(it:Addr)(tn:Nat->Heap->Prop):Prop where
 mem:it∈fp
 obj:∀ i h,tn i h->∀ b∈fp,∃ o,h.get? b=some o/\∀ v,o.data≠.cell v
 keep:∀ i h h',tn i h->(∀ b∈fp,∀ o,h.get? b=some o->h'.get? b=some o)->tn i h'
 item:∀(X:Cx),X.prog=P->X.w=w->X.K=K->X.calm=true->∀(i:Nat) (pins:List (Addr×Obj)) (s:Shared) (σ:St) (H:Hp) (E:Value->Shared->Prop),Inv X pins σ H s->(∀ b∈fp,iP X pins H b)->tn i s.heap->J.go i H ->
  wpAny (model P w) X.A (pyNext (.ref it)) (λr s1=>∃ u,r=some u /\
   wpAny (model P w) X.A (letOwnedTupleGo tg (.ref it) u) (λ_ s2=>∃ x H',Inv X pins σ H' s2/\RelV x u/\J.yld i H x H'/\tn (i+1) s2.heap/\∀ b∈fp,H' b=none) E s1) E s
 done:∀(X:Cx),X.prog=P->X.w=w->X.K=K->X.calm=true->∀(i:Nat) (pins:List (Addr×Obj)) (s:Shared) (σ:St) (H:Hp) (E:Value->Shared->Prop),Inv X pins σ H s->(∀ b∈fp,iP X pins H b)->tn i s.heap->J.stop i H ->
  wpAny (model P w) X.A (pyNext (.ref it)) (λr s1=>r=none/\Inv X pins σ H s1) E s
 self:∀(A:Around) (i:Nat) (s:Shared) (Q:Value->Shared->Prop) (E:Value->Shared->Prop),tn i s.heap->Q (.ref it) s->wpAny (model P w) A (pyIter (.ref it)) Q E s
abbrev TI:=St->Hp->(It->Hp->Prop)->Prop
def PIE(X:Cx)(pins:List (Addr×Obj))(σ:St)(tg:Expr)(R:It->Hp->Prop)(itv:Value)(s2:Shared):Prop :=
 ∃(it:Addr) (fp:List Addr) (tn:Nat->Heap->Prop) (J:It) (H':Hp),itv=.ref it/\Inv X pins σ H' s2/\Turn X.prog X.w X.K tg J fp it tn/\tn 0 s2.heap/\(∀ b∈fp,iP X pins H' b)/\R J H'
def PI(X:Cx)(tg iter:Expr)(wi:TI):Prop :=
 ∀(pins:List (Addr×Obj)) (s:Shared) (σ:St) (H:Hp) (R:It->Hp->Prop),Inv X pins σ H s->wi σ H R ->
  wpAny (model X.prog X.w) X.A (eval iter X.env) (λv s1=>wpAny (model X.prog X.w) X.A (pyIter v) (PIE X pins σ tg R) X.xe s1) X.xe s
theorem rj{M:Model}{A:Around}{E:Value->Shared->Prop}{s:Shared}{tg:Expr}{b:Addr}{u:Value}{o:Obj}{n:String}{vs:Array Value}{Q:Unit->Shared->Prop}(c:s.heap.get? b=some o)(d:o.cls=.type n)(e:o.data=.fields vs)
  (f:["enumerate","zip","dict_itemiterator","dict_reverseitemiterator","odict_iterator","itertools.zip_longest","itertools.pairwise"].contains n=false) (a:Q () s):wpAny M A (letOwnedTupleGo tg (.ref b) u) Q E s:=by
 unfold letOwnedTupleGo
 cases tg <;> first
  | exact wpAny_pure a
  | (cases u <;> first
    | exact wpAny_pure a
    | (refine wpAny_bind (wpAny_load c ?_)
       rw[d,e];show wpAny M A (if (["enumerate","zip","dict_itemiterator","dict_reverseitemiterator","odict_iterator","itertools.zip_longest","itertools.pairwise"].contains n && vs[0]? == some (rawInt _))=true then _ else _) Q E s;rw[if_neg (by intro h;rw[f,Bool.false_and]at h;cases h)]
       exact wpAny_pure a))
def Itl(K:Frag)(a:Addr):It :=
 ⟨λi H=>∃ xs x,SqL K H a xs/\xs[i]? = some x,λi H x H'=>H'=H/\∀ xs,SqL K H a xs->xs[i]? = some x,λi H=>∃ xs,SqL K H a xs/\xs.length<=i⟩
def Itt(K:Frag)(a:Addr):It :=
 ⟨λi H=>∃ xs x,SqT K H a xs/\xs[i]? = some x,λi H x H'=>H'=H/\∀ xs,SqT K H a xs->xs[i]? = some x,λi H=>∃ xs,SqT K H a xs/\xs.length<=i⟩
def Itr(lo:Int)(n:Nat):It:=⟨λi _=>i<n,λi H x H'=>H'=H/\x=.int (lo+i),λi _=>n<=i⟩
theorem vB{P:Program}{w:World}{K:Frag}{tg:Expr}(a l:Addr):Turn P w K tg (Itl K a) [l] l (λi h=>h.IsListIter l a i) where
 mem:=by simp
 obj:=λi h f b j=>by
  have e:b=l:=by simpa using j
  subst e;obtain⟨o,e,c,d⟩:=f;exact⟨o,e,λv z=>by rw[d]at z;cases z⟩
 keep:=λi h y f k=>f.at λo e=>k l (by simp) o e
 item:=by
  intro X R G B T i g s S H E I A f D;subst R G B;obtain⟨xs,x,r,Q⟩:=D;obtain⟨M,C,p,W⟩:=I.list r;obtain⟨u,Y,ru⟩:=C.get Q;obtain⟨J,O,f2,F,L,N⟩:=A l (by simp);refine wpAny_pyNext_list_item f p.isList (x:=u) (by simpa using Y) λy m sb=>?_
  have Z:Inv X g S H { s with heap:=y }:=I.turned (t':=s.toks) (λb o j e=>(sb.2 b j).trans e) J O F L N;obtain⟨o,e,c,d⟩:=id m;exact⟨u,rfl,rj (s:={ s with heap:=y }) e c d (by decide) ⟨x,H,Z,ru,⟨rfl,λys hy=>by rw[I.list_inj hy r];exact Q⟩,m,λb j=>(A b j).1⟩⟩
 done:=by
  intro X R G B T i g s S H E I A f D;subst R G B;obtain⟨xs,r,Q⟩:=D;obtain⟨M,C,p,W⟩:=I.list r;obtain⟨J,O,f2,F,L,N⟩:=A l (by simp);have hl:=C.length
  exact wpAny_pyNext_list_end (I.ok.hd T) f p.isList (by simp;lia) λy eb=>⟨rfl,I.turned (t':=s.toks) (λb o j e=>eb b o j e) J O F L N⟩
 self:=λ_ _ _ _ _ f h=>wpAny_pyIter_listiter f h
theorem rW{P:Program}{w:World}{K:Frag}{tg:Expr}(a m:Addr):Turn P w K tg (Itt K a) [m] m (λi h=>h.IsTupleIter m a i) where
 mem:=by simp
 obj:=λi h f b j=>by
  have e:b=m:=by simpa using j
  subst e;obtain⟨o,e,c,d⟩:=f;exact⟨o,e,λv z=>by rw[d]at z;cases z⟩
 keep:=λi h A f k=>f.at λo e=>k m (by simp) o e
 item:=by
  intro X R J C T i g s S H E I B f F;subst R J C;obtain⟨xs,x,y,Q⟩:=F;obtain⟨l,D,p,W⟩:=I.tuple y;obtain⟨u,Y,ru⟩:=D.get Q;obtain⟨L,O,f2,G,M,N⟩:=B m (by simp);refine wpAny_pyNext_tuple_item f (show s.heap.IsTuple a l.toArray from p) (x:=u) (by simpa using Y) λA r sb=>?_
  have Z:Inv X g S H { s with heap:=A }:=I.turned (t':=s.toks) (λb o j e=>(sb.2 b j).trans e) L O G M N;obtain⟨o,e,c,d⟩:=id r;exact⟨u,rfl,rj (s:={ s with heap:=A }) e c d (by decide) ⟨x,H,Z,ru,⟨rfl,λys hy=>by rw[I.tuple_inj hy y];exact Q⟩,r,λb j=>(B b j).1⟩⟩
 done:=by
  intro X R J C T i g s S H E I B f F;subst R J C;obtain⟨xs,y,Q⟩:=F;obtain⟨l,D,p,W⟩:=I.tuple y;obtain⟨L,O,f2,G,M,N⟩:=B m (by simp);have hl:=D.length
  exact wpAny_pyNext_tuple_end (I.ok.hd T) f (show s.heap.IsTuple a l.toArray from p) (by simp;lia) λA eb=>⟨rfl,I.turned (t':=s.toks) (λb o j e=>eb b o j e) L O G M N⟩
 self:=λ_ _ _ _ _ f h=>wpAny_pyIter_tupleiter f h
theorem r6{P:Program}{w:World}{K:Frag}{tg:Expr}(d:Addr)(lo:Int)(n:Nat):Turn P w K tg (Itr lo n) [d] d (λi h=>IsRangeIter h d (lo+(i:Nat)*1) ((n:Int) - (i:Nat)) 1) where
 mem:=by simp
 obj:=λi h a b f=>by
  have e:b=d:=by simpa using f
  subst e
  exact⟨_,a,λv z=>by
   have J:Data.fields _=Data.cell v:=z
   cases J⟩
 keep:=λi h j a k=>k d (by simp) _ a
 item:=by
  intro X D u m A i c s F H E I l a p;subst D u m;obtain⟨x,C,Q,r,y,B⟩:=l d (by simp);have W:=Walks.range (prog:=X.prog) (w:=X.w) (I.ok.hd A) d lo 1 n;refine W.item i s _ _ p a λv j G O g L=>?_
  obtain⟨t,rfl⟩:=O;have M:Inv X c F H { s with heap:=j,toks:=G }:=I.turned (λb o f e=>L b o (by simpa using f) e) x C r y B;refine⟨_,rfl,rj (s:={ s with heap:=j,toks:=G }) (n := "range_iterator") g rfl rfl (by decide) ⟨.int (lo+i),H,M,⟨t,?_⟩,⟨rfl,rfl⟩,g,λb f=>(l b f).1⟩⟩;rw[Int.mul_one]
 done:=by
  intro X D u m A i c s F H E I l a p;subst D u m;obtain⟨x,C,Q,r,y,B⟩:=l d (by simp)
  exact wpAny_pyNext_range_end (I.ok.hd A) a (by have:n<=i:=p;lia) λj N=>⟨rfl,I.turned (t':=s.toks) (λb o f e=>N b o f e) x C r y B⟩
 self:=λ_ _ _ _ _ a h=>wpAny_pyIter_rangeiter a h
section
variable {X:Cx}{tg:Expr}
theorem xD{a:List (Addr×Obj)}{c:St}{H:Hp}{s:Shared}{R:It->Hp->Prop}{E:Value->Shared->Prop}{lo hi:Int}{t u v:Tok}{tk:Nat}(I:Inv X a c H s)(j:-(2 ^ 62)<=lo)(f:lo<2 ^ 62)(i:-(2 ^ 62)<=hi)(h:hi<2 ^ 62)
  (q:R (Itr lo (hi - lo).toNat) H):wpAny (model X.prog X.w) X.A (pyIter (.ref s.heap.objs.size)) (PIE X a c tg R) E { s with heap:=s.heap.push { cls:=.type "range",data:=.fields #[.int lo t,.int hi u,.int 1 v] },toks:=tk }:=by
 refine wpAny_pyIter_range (IsRange.new ..) (small_one j f i h) ?_;have d:Inv X a c H { s with heap:=s.heap.push { cls:=.type "range",data:=.fields #[.int lo t,.int hi u,.int 1 v] },toks:=tk }:=I.kept λb o e=>Heap.get?_push_of_some _ e
 refine⟨(s.heap.push { cls:=.type "range",data:=.fields #[.int lo t,.int hi u,.int 1 v] }).objs.size,[(s.heap.push { cls:=.type "range",data:=.fields #[.int lo t,.int hi u,.int 1 v] }).objs.size],_,_,H,rfl,
  d.kept (t':=tk) λb o e=>Heap.get?_push_of_some _ e,r6 _ lo (hi - lo).toNat,?_,λb hb=>?_,q⟩
 .have l:lo+((0:Nat):Int)*1=lo:=by simp
  have g:(((hi - lo).toNat:Nat):Int) - ((0:Nat):Int)=Builtin.Range.rangeSize lo hi 1:=by rw[rangeSize_one];split <;> lia
  show IsRangeIter _ _ (lo+((0:Nat):Int)*1) ((((hi - lo).toNat:Nat):Int) - ((0:Nat):Int)) 1;rw[l,g];exact Heap.get?_push_size _ rfl
 .have e:b=(s.heap.push { cls:=.type "range",data:=.fields #[.int lo t,.int hi u,.int 1 v] }).objs.size:=by simpa using hb
  subst e;exact d.fpOk (Nat.le_refl _) (d.hok.fresh (Nat.le_refl _))
def Eu(ta:TA):TI:=λσ H R=>ta σ H λvs H1=>∃ j:Int,vs=[.int j]/\-(2 ^ 62)<=j/\j<2 ^ 62/\R (Itr 0 j.toNat) H1
theorem bR{a:Expr}{f:TA}{p b:Pos}(m:Gl X "range")(l:X.mg "range" = none)(u:PA X [a] f)(i:starEach [a] X.env=[(false,eval a X.env)]:=by rfl):PI X tg (.Call (.Name "range" p) [a] [] b) (Eu f):=by
 intro c s v H R I h;refine Call_ (jp I m l boot_range (PyProof.Rows.callWith_type1 (thn (u b c s v H _ I h) λx A ⟨B,y,w,o,d⟩=>?_) i rfl));obtain⟨j,e,d,g,q⟩:=d;subst e;cases o with
 | cons r rr =>
  cases rr;obtain⟨t,rfl⟩:=r;exact call_range_1 (xD w (by lia) (by lia) d g (by simpa using q))
def EC(wi:TI)(g:TG)(tb:TS):TS:=λD σ H=>wi σ H λJ H1=>∃ W:Nat->Nat->St->Hp->Prop,(∃ m,W 0 m σ H1)/\∀ i m σ H,W i m σ H ->
 (J.stop i H/\D.nx σ H)\/(J.go i H/\∃ N:St->Hp->Prop,(∀ σ' H',N σ' H'->∃ m',m'<m/\W (i+1) m' σ' H')/\∀ x H',J.yld i H x H'->g x σ H' λσ2 H2=>tb { D with nx:=N,ct:=N,bk:=D.nx } σ2 H2)
def lJ(fp:List Addr)(h:Heap):List (Addr×Obj):=fp.filterMap λb=>(h.get? b).map λo=>(b,o)
theorem eR{a:List Addr}{h:Heap}{b:Addr}{o:Obj}(c:b∈a)(e:h.get? b=some o):(b,o)∈lJ a h:=mem_filterMap.mpr ⟨b,c,by rw[e];rfl⟩
theorem vG{a:List Addr}{h:Heap}{p:Addr×Obj}(f:p∈lJ a h):p.1∈a/\h.get? p.1=some p.2:=by
 obtain⟨b,d,e⟩:=mem_filterMap.mp f;cases q:h.get? b with
 | none=>rw[q]at e;cases e
 | some o =>
  rw[q]at e;have c:(b,o)=p:=Option.some.inj e;subst c;exact⟨d,q⟩
theorem Inv.pinned{a:List (Addr×Obj)}{h:St}{H:Hp}{s:Shared}{c:List Addr}(I:Inv X a h H s)(u:∀ b∈c,iP X a H b)(j:∀ b∈c,∃ o,s.heap.get? b=some o/\∀ v,o.data≠.cell v):Inv X (a++lJ c s.heap) h H s :=
 I.pins_of λp l=>(mem_append.mp l).elim (λz=>I.pin p (mem_append_right _ z)) λz=>by
  obtain⟨g,e⟩:=vG z;obtain⟨r,m,i,_⟩:=u p.1 g;obtain⟨o,f,d⟩:=j p.1 g;rw[e]at f;cases f;exact⟨e,r,m,i,d⟩
theorem Inv.unpinned{a pl:List (Addr×Obj)}{b:St}{H:Hp}{s:Shared}(I:Inv X (a++pl) b H s):Inv X a b H s:=I.pins_of λp c=>I.pin p (mem_append_right _ (mem_append_left _ c))
theorem cc{A:Expr}{body:List Stmt}{wi:TI}{g:TG}{tb:TS}{ab:Pos}(K:PassesOwn (model X.prog X.w) X.A X.env X.xe)(hc:X.calm=true)(hi:PI X tg A wi)(hg:PG X tg g)(j:PSs X body tb)
  (hs:∀ x,foldedSetIterable A X.env x=pure x:=by intro _;rfl):PS X (.For tg A body [] ab) (EC wi g tb):=by
 intro c s σ H D I h;refine wpAny_For (thn (hi c s σ H _ I h) λv s1 h1=>thn h1 λitv s2 h2=>?_) hs;obtain⟨it,G,tn,J,H2,e,I2,T,Z,f2,W,⟨m0,w0⟩,L⟩:=h2;subst e
 have p:∀{H':Hp},(∀ b∈G,H' b=none)->∀ b∈G,iP X c H' b:=λhn b j=>⟨hn b j,(f2 b j).2⟩
 refine codeAny_forLoop_any (λn s'=>∃ i σ' H',Inv X c σ' H' s'/\tn i s'.heap/\(∀ b∈G,H' b=none)/\W i n σ' H') ?_ m0 ⟨0,σ,H2,I2,Z,λb j=>(f2 b j).1,w0⟩;rintro n s3 ⟨i,B,R,I3,O,P,w3⟩
 rcases L i n B R w3 with⟨M,qn⟩ | ⟨go,N,hN,Q⟩
 .refine wpAny_passesOwn K (thn (T.done X rfl rfl rfl hc i c s3 B R X.xe I3 (p P) O M) λr s4 ⟨hr,I4⟩=>?_)
  subst hr;exact wpAny_execs_nil ⟨B,R,I4,qn⟩
 .refine wpAny_passesOwn K (thn (T.item X rfl rfl rfl hc i c s3 B R X.xe I3 (p P) O go) λr s4 ⟨u,hr,h4⟩=>?_)
  subst hr;refine wpAny_passesOwn K (thn h4 λ_ s5 ⟨x,H5,I5,r5,y5,E,S⟩=>?_);have Y:=I5.pinned (p S) (T.obj _ _ E);refine wpAny_passesOwn K (thn (hg _ s5 B H5 x u _ Y r5 (Q x H5 y5)) λ_ s6 ⟨ad,H6,I6,q6⟩=>?_);refine wpAny_passesOwn K (thn (j _ s6 ad H6 _ I6 q6) λf s7 C=>?_)
  have y:∀{a:St}{w:Hp},Inv X (c++lJ G s5.heap) a w s7->N a w->∃ m,m<n/\∃ i σ' H',Inv X c σ' H' s7/\tn i s7.heap/\(∀ b∈G,H' b=none)/\W i m σ' H':=λ{a w} l F=>by
   obtain⟨m',hm,w7⟩:=hN a w F;refine⟨m',hm,i+1,a,w,l.unpinned,T.keep _ _ _ E λb j o e=>(l.pin (b,o) (mem_append_right _ (mem_append_right _ (eR j e)))).1,λb j=>?_,w7⟩;obtain⟨o,e,d⟩:=T.obj _ _ E b j;exact(l.pin (b,o) (mem_append_right _ (mem_append_right _ (eR j e)))).2.1
  cases f with
  | next=>obtain⟨a,w,l,F⟩:=C;exact y l F
  | cont=>obtain⟨a,w,l,F⟩:=C;exact y l F
  | brk=>obtain⟨a,w,l,C⟩:=C;exact⟨a,w,l.unpinned,C⟩
  | ret v=>obtain⟨x7,a,w,l,r7,C⟩:=C;exact⟨x7,a,w,l.unpinned,r7,C⟩
end
theorem df{K:Frag}{a:Addr}{xs:List V}{g:TG}{d:TS}{D:Ends}{b:St}{H:Hp}(c:Nat->St->Hp->Prop)(r:c 0 b H)(l:∀ i b H,i<=xs.length->c i b H->SqL K H a xs)
  (j:∀ i x b H,xs[i]? = some x->c i b H->g x b H λσ2 H2=>d { D with nx:=c (i+1),ct:=c (i+1),bk:=D.nx } σ2 H2) (o:∀ b H,c xs.length b H->D.nx b H) :
  ∃ W:Nat->Nat->St->Hp->Prop,(∃ m,W 0 m b H)/\∀ i m b H,W i m b H ->
   ((Itl K a).stop i H/\D.nx b H)\/((Itl K a).go i H/\∃ N:St->Hp->Prop,(∀ σ' H',N σ' H'->∃ m',m'<m/\W (i+1) m' σ' H')/\∀ x H',(Itl K a).yld i H x H'->g x b H' λσ2 H2=>d { D with nx:=N,ct:=N,bk:=D.nx } σ2 H2):=by
 refine⟨λi m b H=>m=xs.length - i/\i<=xs.length/\c i b H,⟨xs.length,by simp,Nat.zero_le _,r⟩,?_⟩;rintro i m b H ⟨rfl,h,p⟩;have q:=l i b H h p
 by_cases hlt:i<xs.length
 .refine .inr ⟨⟨xs,xs[i],q,by simp[hlt]⟩,c (i+1),λσ' H' f=>⟨xs.length - (i+1),by lia,rfl,hlt,f⟩,λx H' y=>?_⟩
  obtain⟨e,y⟩:=y;subst e;exact j i x b _ (y xs q) p
 .have e:i=xs.length:=by lia
  subst e;exact .inl ⟨⟨xs,q,Nat.le_refl _⟩,o b H p⟩
theorem cY{lo:Int}{n:Nat}{g:TG}{c:TS}{D:Ends}{a:St}{H:Hp}(b:Nat->St->Hp->Prop)(j:b 0 a H)
  (f:∀ i a H,i<n->b i a H->g (.int (lo+i)) a H λσ2 H2=>c { D with nx:=b (i+1),ct:=b (i+1),bk:=D.nx } σ2 H2) (h:∀ a H,b n a H->D.nx a H) :
  ∃ W:Nat->Nat->St->Hp->Prop,(∃ m,W 0 m a H)/\∀ i m a H,W i m a H ->
   ((Itr lo n).stop i H/\D.nx a H)\/((Itr lo n).go i H/\∃ N:St->Hp->Prop,(∀ σ' H',N σ' H'->∃ m',m'<m/\W (i+1) m' σ' H')/\∀ x H',(Itr lo n).yld i H x H'->g x a H' λσ2 H2=>c { D with nx:=N,ct:=N,bk:=D.nx } σ2 H2):=by
 refine⟨λi m a H=>m=n - i/\i<=n/\b i a H,⟨n,by simp,Nat.zero_le _,j⟩,?_⟩;rintro i m a H ⟨rfl,l,p⟩
 by_cases hlt:i<n
 .refine .inr ⟨hlt,b (i+1),λσ' H' d=>⟨n - (i+1),by lia,rfl,hlt,d⟩,λx H' y=>?_⟩
  obtain⟨e,y⟩:=y;subst e y;exact f i a _ hlt p
 .have e:i=n:=by lia
  subst e;exact .inl ⟨Nat.le_refl _,h a H p⟩
abbrev R2:=V->V->Hp->VK->Prop
def OpR(X:Cx)(f:Value->Value->Sem Value)(r:R2):Prop :=
 ∀(pins:List (Addr×Obj)) (s:Shared) (σ:St) (H:Hp) (x y:V) (v u:Value) (Q:VK),Inv X pins σ H s->RelV x v->RelV y u->r x y H Q ->
  wpAny (model X.prog X.w) X.A (f v u) (EP X pins σ Q) X.xe s
def UnR(X:Cx)(f:Value->Sem Value)(r:V->Hp->VK->Prop):Prop :=
 ∀(pins:List (Addr×Obj)) (s:Shared) (σ:St) (H:Hp) (x:V) (v:Value) (Q:VK),Inv X pins σ H s->RelV x v->r x H Q ->
  wpAny (model X.prog X.w) X.A (f v) (EP X pins σ Q) X.xe s
def CallR(X:Cx)(f:Value)(r:List V->Hp->VK->Prop):Prop :=
 ∀(pins:List (Addr×Obj)) (s:Shared) (σ:St) (H:Hp) (xs:List V) (us:List Value) (Q:VK),Inv X pins σ H s->Vals xs us->r xs H Q ->
  wpAny (model X.prog X.w) X.A (call f us) (EP X pins σ Q) X.xe s
def EX(X:Cx)(r:V->Hp->(Bool->Hp->Prop)->Prop):Prop :=
 ∀(pins:List (Addr×Obj)) (s:Shared) (σ:St) (H:Hp) (x:V) (v:Value) (Q:Bool->Hp->Prop),Inv X pins σ H s->RelV x v->r x H Q ->
  wpAny (model X.prog X.w) X.A (truthy v) (TP X pins σ Q) X.xe s
def tOp(r:R2)(ta tb:TE):TE:=λσ H Q=>ta σ H λx H1=>tb σ H1 λy H2=>r x y H2 Q
def tUn(r:V->Hp->VK->Prop)(ta:TE):TE:=λσ H Q=>ta σ H λx H1=>r x H1 Q
def rI(C:Int->Int->Prop)(g:Int->Int->V):R2:=λx y H Q=>∃ i j,x=.int i/\y=.int j/\C i j/\Q (g i j) H
def rI0(g:Int->Int->V):R2:=λx y H Q=>∃ i j,x=.int i/\y=.int j/\Q (g i j) H
def rU(g:Int->V):V->Hp->VK->Prop:=λx H Q=>∃ i,x=.int i/\Q (g i) H
section
variable {X:Cx}{a b c:Expr}{ta tb tc:TE}{pos:Pos}
theorem Cf(o:PE X a ta)(g:PE X b tb){c:List (Addr×Obj)}{s:Shared}{d:St}{H:Hp}{R:V->V->Hp->Prop}(I:Inv X c d H s)
  (h:ta d H λx H1=>tb d H1 λy H2=>R x y H2){Q:Value->Shared->Prop}{f:Value->Value->Sem Value}
  (p:∀ v u s2 x y H2,Inv X c d H2 s2->RelV x v->RelV y u->R x y H2->wpAny (model X.prog X.w) X.A (f v u) Q X.xe s2) :
  wpAny (model X.prog X.w) X.A (eval a X.env) (λv s₁=>wpAny (model X.prog X.w) X.A (eval b X.env) (λu s₂=>wpAny (model X.prog X.w) X.A (f v u) Q X.xe s₂) X.xe s₁) X.xe s:=by
 refine thn (o c s d H _ I h) λv j ⟨x,H1,r,l,i⟩=>?_
 refine thn (g c j d H1 _ r i) λu s2 ⟨y,H2,w,m,e⟩=>?_
 exact p v u s2 x y H2 w l m e
theorem av{d:Operator}{r:R2}(e:OpR X (binaryOp d) r)(l:PE X a ta)(f:PE X b tb):PE X (.BinOp a d b pos) (tOp r ta tb):=by
 intro c s m H Q I h;exact wpAny_BinOp (Cf l f I h λv u j x y i p g o q=>e c j m i x y v u Q p g o q)
theorem yr{c:UnaryOp}{r:V->Hp->VK->Prop}(e:UnR X (unaryOp c) r)(j:PE X a ta):PE X (.UnaryOp c a pos) (tUn r ta):=by
 intro b s d H Q I h;exact UnaryOp_ (thn (j b s d H _ I h) λv g ⟨x,m,l,i,f⟩=>e b g d m x v Q l i f)
theorem opI{f:Value->Value->Sem Value}{C:Int->Int->Prop}{g:Int->Int->Int}
  (a:∀(i j:Int) (t u:Tok) (s:Shared) (Q:Value->Shared->Prop) (E:Value->Shared->Prop),C i j->Q (.int (g i j) s.toks) { s with toks:=s.toks+1 }->wpAny (model X.prog X.w) X.A (f (.int i t) (.int j u)) Q E s) :
  OpR X f (rI C λi j=>.int (g i j)):=by
 intro b s m H x y v u Q I c e h;obtain⟨i,j,rfl,rfl,d,q⟩:=h;obtain⟨t,rfl⟩:=c;obtain⟨l,rfl⟩:=e;exact a i j t l s _ _ d ⟨.int (g i j),H,I.tok _,⟨_,rfl⟩,q⟩
theorem Dr{f:Value->Value->Sem Value}{g:Int->Int->Int}
  (a:∀(i j:Int) (t u:Tok) (s:Shared) (Q:Value->Shared->Prop) (E:Value->Shared->Prop),Q (.int (g i j) s.toks) { s with toks:=s.toks+1 }->wpAny (model X.prog X.w) X.A (f (.int i t) (.int j u)) Q E s) :
  OpR X f (rI0 λi j=>.int (g i j)):=by
 intro b s l H x y v u Q I c d h;obtain⟨i,j,rfl,rfl,q⟩:=h;obtain⟨t,rfl⟩:=c;obtain⟨e,rfl⟩:=d;exact a i j t e s _ _ ⟨.int (g i j),H,I.tok _,⟨_,rfl⟩,q⟩
theorem Cp{f:Value->Value->Sem Value}{g:Int->Int->Bool}
  (a:∀(i j:Int) (t u:Tok) (s:Shared) (Q:Value->Shared->Prop) (E:Value->Shared->Prop),Q (.bool (g i j)) s->wpAny (model X.prog X.w) X.A (f (.int i t) (.int j u)) Q E s) :
  OpR X f (rI0 λi j=>.bl (g i j)):=by
 intro b s l H x y v u Q I c d h;obtain⟨i,j,rfl,rfl,q⟩:=h;obtain⟨t,rfl⟩:=c;obtain⟨e,rfl⟩:=d;exact a i j t e s _ _ ⟨.bl (g i j),H,I,rfl,q⟩
def EY(i j:Int):Prop:=0<j/\j<1073741824
def CM(i j:Int):Prop:=0<=j/\j<=1000000/\i.natAbs<2 ^ 64
def CMul(i j:Int):Prop:=(-(2 ^ 64)<i/\i<2 ^ 64)\/(-(2 ^ 64)<j/\j<2 ^ 64)
theorem CMul.ok{i j:Int}(h:CMul i j):IntMulOk i j:=by
 rcases h with⟨a,b⟩ | ⟨a,b⟩
 .exact .of_left (intBits_le_64 a b)
 .exact .of_right (intBits_le_64 a b)
theorem op_add:OpR X (binaryOp .Add) (rI0 λi j=>.int (i+j)):=Dr λ_ _ _ _ _ _ _ q=>add_int q
theorem op_sub:OpR X (binaryOp .Sub) (rI0 λi j=>.int (i - j)):=Dr λ_ _ _ _ _ _ _ q=>sub_int q
theorem op_mod:OpR X (binaryOp .Mod) (rI (λ_ j=>0<j) λi j=>.int (i % j)):=opI λi j _ _ _ _ _ a q=>by
 have b:(0:Int)<j:=a;exact mod_int' (by lia) (by rw[Int.fmod_eq_emod_of_nonneg i (by lia)];exact q)
theorem op_pow:OpR X (binaryOp .Pow) (rI CM λi j=>.int (i ^ j.toNat)):=opI λ_ _ _ _ _ _ _ a q=>pow_int_small a.1 a.2.1 a.2.2 q
theorem unI{f:Value->Sem Value}{g:Int->Int}
  (a:∀(i:Int) (t:Tok) (s:Shared) (Q:Value->Shared->Prop) (E:Value->Shared->Prop),Q (.int (g i) s.toks) { s with toks:=s.toks+1 }->wpAny (model X.prog X.w) X.A (f (.int i t)) Q E s) :
  UnR X f (rU λi=>.int (g i)):=by
 intro b s d H x v Q I c h;obtain⟨i,rfl,q⟩:=h;obtain⟨t,rfl⟩:=c;exact a i t s _ _ ⟨.int (g i),H,I.tok _,⟨_,rfl⟩,q⟩
theorem CN:UnR X (unaryOp .USub) (rU λi=>.int (-i)):=unI λ_ _ _ _ _ q=>neg_int q
end
def C9:V->V->Bool
 | .non,.non=>true | .non,.int _=>true | .int _,.non=>true | .non,.bl _=>true | .bl _,.non=>true | .non,.str _=>true | .str _,.non=>true
 | .int _,.int _=>true | .bl _,.bl _=>true | .str _,.str _=>true | .byt _,.byt _=>true
 | .int _,.str _=>true | .str _,.int _=>true | .bl _,.str _=>true | .str _,.bl _=>true
 | _,_=>false
def rEq:R2:=λx y H Q=>C9 x y=true/\Q (.bl (decide (x=y))) H
def rNe:R2:=λx y H Q=>C9 x y=true/\Q (.bl (!decide (x=y))) H
theorem kF{i j:Int}:decide (V.int i=V.int j)=(i == j):=by
 rw[Bool.eq_iff_iff];simp
theorem oX{i j:Bool}:decide (V.bl i=V.bl j)=(i == j):=by
 rw[Bool.eq_iff_iff];simp
theorem kI{i j:Str}:decide (V.str i=V.str j)=(i == j):=by
 rw[Bool.eq_iff_iff];simp
theorem vq{i j:Array UInt8}:decide (V.byt i=V.byt j)=(i.toList == j.toList):=by
 rw[Bool.eq_iff_iff];cases i;cases j;simp
section
variable {X:Cx}{a b c:Expr}{ta tb tc:TE}{pos:Pos}
theorem aO{a:List (Addr×Obj)}{b:St}{H:Hp}{s:Shared}{Q:VK}{k c:Bool}(I:Inv X a b H s)(q:Q (.bl k) H)(e:k=c):EP X a b Q (.bool c) s:=by
 subst e;exact⟨.bl k,H,I,rfl,q⟩
theorem op_eq:OpR X (compareOp .Eq) rEq:=by
 intro e s f H x y v u Q I d a h;obtain⟨c,q⟩:=h;cases x with
 | non =>
  cases d;cases y with
  | non=>cases a;exact PySem.EqNone.eq_none_none (aO I q (by simp))
  | bl j=>cases a;exact PySem.EqNone.eq_none_bool (aO I q (by simp))
  | int j=>obtain⟨b,rfl⟩:=a;exact PySem.EqNone.eq_none_int (aO I q (by simp))
  | str j=>obtain⟨b,rfl⟩:=a;exact PySem.EqNone.eq_none_str (aO I q (by simp))
  | _=>exact absurd (show false=true from c) Bool.false_ne_true
 | bl i =>
  cases d;cases y with
  | non=>cases a;exact PySem.EqNone.eq_bool_none (aO I q (by simp))
  | bl j=>cases a;exact eq_bool (aO I q oX)
  | str j=>obtain⟨b,rfl⟩:=a;exact PySem.EqMixed.eq_bool_str (aO I q (by simp))
  | _=>exact absurd (show false=true from c) Bool.false_ne_true
 | int i =>
  obtain⟨t,rfl⟩:=d;cases y with
  | non=>cases a;exact PySem.EqNone.eq_int_none (aO I q (by simp))
  | int j=>obtain⟨b,rfl⟩:=a;exact eq_int (aO I q kF)
  | str j=>obtain⟨b,rfl⟩:=a;exact PySem.EqMixed.eq_int_str (aO I q (by simp))
  | _=>exact absurd (show false=true from c) Bool.false_ne_true
 | str i =>
  obtain⟨t,rfl⟩:=d;cases y with
  | non=>cases a;exact PySem.EqNone.eq_str_none (aO I q (by simp))
  | bl j=>cases a;exact PySem.EqMixed.eq_str_bool (aO I q (by simp))
  | int j=>obtain⟨b,rfl⟩:=a;exact PySem.EqMixed.eq_str_int (aO I q (by simp))
  | str j=>obtain⟨b,rfl⟩:=a;exact eq_str (aO I q kI)
  | _=>exact absurd (show false=true from c) Bool.false_ne_true
 | byt i =>
  obtain⟨t,rfl⟩:=d;cases y with
  | byt j=>obtain⟨b,rfl⟩:=a;exact PySem.W.eq_bytes (aO I q vq)
  | _=>exact absurd (show false=true from c) Bool.false_ne_true
 | _=>cases y <;> exact absurd (show false=true from c) Bool.false_ne_true
theorem op_ne:OpR X (compareOp .NotEq) rNe:=by
 intro e s f H x y v u Q I d a h;obtain⟨c,q⟩:=h;cases x with
 | non =>
  cases d;cases y with
  | non=>cases a;exact PySem.EqNone.ne_none_none (aO I q (by simp))
  | bl j=>cases a;exact PySem.EqNone.ne_none_bool (aO I q (by simp))
  | int j=>obtain⟨b,rfl⟩:=a;exact PySem.EqNone.ne_none_int (aO I q (by simp))
  | str j=>obtain⟨b,rfl⟩:=a;exact PySem.EqNone.ne_none_str (aO I q (by simp))
  | _=>exact absurd (show false=true from c) Bool.false_ne_true
 | bl i =>
  cases d;cases y with
  | non=>cases a;exact PySem.EqNone.ne_bool_none (aO I q (by simp))
  | bl j=>cases a;exact ne_bool (aO I q (congrArg not oX))
  | str j=>obtain⟨b,rfl⟩:=a;exact PySem.EqMixed.ne_bool_str (aO I q (by simp))
  | _=>exact absurd (show false=true from c) Bool.false_ne_true
 | int i =>
  obtain⟨t,rfl⟩:=d;cases y with
  | non=>cases a;exact PySem.EqNone.ne_int_none (aO I q (by simp))
  | int j=>obtain⟨b,rfl⟩:=a;exact ne_int (aO I q (congrArg not kF))
  | str j=>obtain⟨b,rfl⟩:=a;exact PySem.EqMixed.ne_int_str (aO I q (by simp))
  | _=>exact absurd (show false=true from c) Bool.false_ne_true
 | str i =>
  obtain⟨t,rfl⟩:=d;cases y with
  | non=>cases a;exact PySem.EqNone.ne_str_none (aO I q (by simp))
  | bl j=>cases a;exact PySem.EqMixed.ne_str_bool (aO I q (by simp))
  | int j=>obtain⟨b,rfl⟩:=a;exact PySem.EqMixed.ne_str_int (aO I q (by simp))
  | str j=>obtain⟨b,rfl⟩:=a;exact ne_str (aO I q (congrArg not kI))
  | _=>exact absurd (show false=true from c) Bool.false_ne_true
 | byt i =>
  obtain⟨t,rfl⟩:=d;cases y with
  | byt j=>obtain⟨b,rfl⟩:=a;exact PySem.W.ne_bytes (aO I q (congrArg not vq))
  | _=>exact absurd (show false=true from c) Bool.false_ne_true
 | _=>cases y <;> exact absurd (show false=true from c) Bool.false_ne_true
theorem op_lt:OpR X (compareOp .Lt) (rI0 λi j=>.bl (decide (i<j))):=Cp λ_ _ _ _ _ _ _ q=>lt_int q
theorem op_le:OpR X (compareOp .LtE) (rI0 λi j=>.bl (decide (i<=j))):=Cp λ_ _ _ _ _ _ _ q=>le_int q
theorem op_gt:OpR X (compareOp .Gt) (rI0 λi j=>.bl (decide (j<i))):=Cp λ_ _ _ _ _ _ _ q=>gt_int q
theorem vI:OpR X (compareOp .Lt) (λx y H Q=>∃ i j,x=.str i/\y=.str j/\Q (.bl (decide (i.cps.toList<j.cps.toList))) H):=by
 intro a s d H x y v u Q I b c h;obtain⟨i,j,rfl,rfl,q⟩:=h;obtain⟨t,rfl⟩:=b;obtain⟨e,rfl⟩:=c;exact lt_str (aO I q rfl)
theorem op_in_str:OpR X (compareOp .In) (λx y H Q=>∃ i j,x=.str i/\y=.str j/\Q (.bl (!(Builtin.Str.occurrences j i 0 j.length 1).isEmpty)) H):=by
 intro a s d H x y v u Q I b c h;obtain⟨i,j,rfl,rfl,q⟩:=h;obtain⟨t,rfl⟩:=b;obtain⟨e,rfl⟩:=c;exact in_str (aO I q rfl)
theorem OpR.or{f:Value->Value->Sem Value}{r c:R2}(h:OpR X f r)(h':OpR X f c):OpR X f (λx y H Q=>r x y H Q\/c x y H Q):=by
 intro a s d H x y v u Q I b e q
 rcases q with q | q
 .exact h a s d H x y v u Q I b e q
 .exact h' a s d H x y v u Q I b e q
theorem aB(b:Expr){a:CmpOp}(h:a≠.In:=by decide)(e:a≠.NotIn:=by decide):behindInMarks a b=false:=by
 have d:(a == CmpOp.In)=false:=by cases a <;> first | rfl | exact absurd rfl h
 have c:(a == CmpOp.NotIn)=false:=by cases a <;> first | rfl | exact absurd rfl e
 cases b <;> simp[behindInMarks,d,c]
theorem b7{d:CmpOp}{r:R2}(e:OpR X (compareOp d) r)(m:PE X a ta)(f:PE X b tb)(i:behindInMarks d b=false):PE X (.Compare a [d] [b] pos) (tOp r ta tb):=by
 intro c s o H Q I h;exact wpAny_Compare1 (Cf m f I h λv u l x y j w g p q=>e c l o j x y v u Q w g p q) i
def Cd(K:Frag)(x:V)(H:Hp)(k:Bool):Prop :=
 match x with
 | .non=>k=false
 | .bl b=>k=b
 | .int i=>k=(i != 0)
 | .str y=>y.length<=sizeLine/\k=((y.length:Int) != 0)
 | .byt y=>y.size<=sizeLine/\k=((y.size:Int) != 0)
 | .ref p=>(∃ xs,SqL K H p xs/\k = !xs.isEmpty)\/(∃ xs,SqT K H p xs/\k = !xs.isEmpty)\/∃ kvs,H p=some (.dK kvs)/\k = !kvs.isEmpty
 | _=>False
theorem se{b:Type}{a:List (b×V)}{vs:List (b×Value)}(r:KV a vs):(!vs.isEmpty) = !a.isEmpty:=by
 cases r <;> rfl
theorem kW{xs:List V}{its:List Value}(r:Vals xs its):(!its.toArray.isEmpty) = !xs.isEmpty:=by
 cases r <;> simp
theorem iA:(sizeLine:Nat)<2 ^ 63:=by rw[sizeLine_eq];decide
theorem wE:EX X (λx H Q=>∃ k,Cd X.K x H k/\Q k H):=by
 intro w s C H x v Q I g h;obtain⟨k,e,q⟩:=h;have B:=iA;have A:sizeLine=16777216:=sizeLine_eq;cases x with
 | non =>
  cases g;have a:k=false:=e;subst a;exact truthy_none ⟨H,I,q⟩
 | bl b =>
  cases g;have a:k=b:=e;subst a;exact wpAny_truthy_bool ⟨H,I,q⟩
 | int i =>
  obtain⟨t,rfl⟩:=g;have a:k=(i != 0):=e;subst a;exact PySem.P.truthy_int ⟨H,I,q⟩
 | str y =>
  obtain⟨t,rfl⟩:=g;obtain⟨hy,a⟩:y.length<=sizeLine/\k=((y.length:Int) != 0):=e;subst a;exact PySem.P.truthy_str (by lia) ⟨H,I.tok _,q⟩
 | byt y =>
  obtain⟨t,rfl⟩:=g;obtain⟨hy,a⟩:y.size<=sizeLine/\k=((y.size:Int) != 0):=e;subst a;exact PySem.W.truthy_bytes (by lia) ⟨H,I.tok _,q⟩
 | ref p =>
  cases g;have a:(∃ f,SqL X.K H p f/\k = !f.isEmpty)\/(∃ f,SqT X.K H p f/\k = !f.isEmpty)\/∃ c,H p=some (.dK c)/\k = !c.isEmpty:=e
  rcases a with⟨f,j,a⟩ | ⟨f,j,a⟩ | ⟨c,j,a⟩
  .subst a
   obtain⟨o,r,l,u⟩:=I.list j;have d:=r.length;exact wpAny_truthy_list l.isList (by simp only[size_toArray];lia) ⟨H,I.tok _,by rw[kW r];exact q⟩
  .subst a
   obtain⟨o,r,l,u⟩:=I.tuple j;have d:=r.length;exact truthy_tuple l (by simp only[size_toArray];lia) ⟨H,I.tok _,by rw[kW r];exact q⟩
  .subst a
   obtain⟨u,hS,vs,r,m⟩:c.length<=sizeLine/\(p == sysModules)=false/\∃ vs,KV c vs/\s.heap.DictOf (aY X.prog X.w) p vs:=I.hok p _ j;have d:c.length=vs.length:=Paired.length r;exact wpAny_truthy_dict hS m (by lia) ⟨H,I.tok _,by rw[se r];exact q⟩
 | _=>exact(show False from e).elim
theorem qL(f:PE X a ta)(i:∀ whole,isTrue a X.env whole=(do let v <- whole;standAt a.pos;holding [v] (truthy v))) :
  PT X a (λσ H Q=>ta σ H λx H'=>∃ k,Cd X.K x H' k/\Q k H'):=by
 intro b s σ H Q I h;exact isTrue_plain (thn (f b s σ H _ I h) λv d ⟨x,j,g,e,c⟩=>wE b d σ j x v Q g e c) (i _)
theorem sV:OpR X (binaryOp .Add) (λx y H Q=>∃ i j,x=.str i/\y=.str j/\i.length+j.length<=sizeLine/\Q (.str (i++j)) H):=by
 intro a s g H x y v u Q I c d h;obtain⟨i,j,rfl,rfl,b,q⟩:=h;obtain⟨t,rfl⟩:=c;obtain⟨e,rfl⟩:=d;exact add_str (λe f=>⟨.str (i++j),H,I.tok _,⟨_,rfl⟩,q⟩) b
theorem dL{x:V}{us:List Value}(r:Vals [x] us):∃ u,us=[u]/\RelV x u:=by
 cases r with
 | cons r1 r2=>cases r2;exact⟨_,rfl,r1⟩
theorem tT{x y:V}{us:List Value}(r:Vals [x,y] us):∃ u w',us=[u,w']/\RelV x u/\RelV y w':=by
 cases r with
 | cons r1 r2 =>
  cases r2 with
  | cons r3 r4=>cases r4;exact⟨_,_,rfl,r1,r3⟩
theorem mi:CallR X (.builtin "abs") (λxs H Q=>∃ i,xs=[.int i]/\Q (.int (if i<0 then -i else i)) H):=by
 intro a s b H xs d Q I r h;obtain⟨i,rfl,q⟩:=h;obtain⟨u,rfl,t,rfl⟩:=dL r
 exact call_abs_int λu c=>⟨.int (if i<0 then -i else i),H,I.tok _,⟨_,rfl⟩,q⟩
inductive rTwo(f:Int->Int->Int)(xs:List V)(H:Hp)(Q:VK):Prop
 | mk(i j:Int)(h0:xs=[.int i,.int j])(h1:Q (.int (f i j)) H):rTwo f xs H Q
theorem jQ(b:X.calm=true):CallR X (.builtin "min") (rTwo λi j=>if j<i then j else i):=by
 intro a s g H f d Q I r h;obtain⟨i,j,rfl,q⟩:=h;obtain⟨u,e,rfl,⟨t,rfl⟩,⟨m,rfl⟩⟩:=tT r
 refine min_two_ints (I.ok.hd b) λl c k=>⟨_,H,I.kept k,?_,q⟩
 by_cases hj:j<i
 .rw[if_pos hj,if_pos hj];exact⟨_,rfl⟩
 .rw[if_neg hj,if_neg hj];exact⟨_,rfl⟩
theorem mQ:CallR X (.type "int") (λxs H Q=>(∃ i,xs=[.int i]/\Q (.int i) H)\/∃ k,xs=[.bl k]/\Q (.int (if k then 1 else 0)) H):=by
 intro a s c H xs d Q I r h
 rcases h with⟨i,rfl,q⟩ | ⟨k,rfl,q⟩
 .obtain⟨u,rfl,t,rfl⟩:=dL r
  exact call_int_int ⟨.int i,H,I,⟨_,rfl⟩,q⟩
 .obtain⟨u,rfl,b⟩:=dL r
  cases b;exact call_int_bool ⟨.int (if k then 1 else 0),H,I.tok _,⟨_,rfl⟩,q⟩
end
structure ObjM(h:Heap)(x dx C:Addr)(mA:Str->Option Value):Prop where
 obj:h.get? x=some (instObj C dx)
 ns:h.Ns1 dx mA
 ne:dx≠x
theorem vN{h:Heap}{d:Addr}{c:Str->Option Value}(n:h.Ns1 d c):∃ od,h.get? d=some od/\∀ name,lookIn name od=some (c name):=by
 obtain⟨o,f,r,i,m,p,_,l⟩:=n;refine⟨o,i,λname=>?_⟩;have e:=l name;unfold nsFind findBy at e;rw[<- Array.find?_toList]at e;unfold lookIn;rw[m];dsimp only
 split
 .rename_i y q
  rw[q]at e;exact congrArg some e
 .rename_i q
  rw[q]at e
  have a:f.toList.any (·.refKey)=false:=by
   rw[List.any_eq_false];intro y j;obtain⟨z,t,b⟩:=p y (Array.mem_toList_iff.mp j);simp[DictEntry.refKey,b]
  have g:¬f.toList.any (·.refKey)=true:=by rw[a];exact Bool.false_ne_true
  rw[if_neg g];exact congrArg some e
theorem ObjM.look{h:Heap}{x b C:Addr}{a:Str->Option Value}(I:ObjM h x b C a):∃ od,InstAt h x (instObj C b) C (some od)/\∀ name,lookIn name od=some (a name) :=
 let ⟨od,ho,hl⟩:=vN I.ns
 ⟨od,⟨I.obj,rfl,rfl,ho⟩,hl⟩
section
variable {prog:Program}{w:World}{A:Around}{E:Value->Shared->Prop}{s:Shared}{K:Frag}{x dx C f:Addr}{mA:Str->Option Value}{name:Str}{v:Value}
theorem zY{a:Bool}{Q:Value->Shared->Prop}(X:K.In s.heap)(I:ObjM s.heap x dx C mA)(e:plainGet K C name=true)(c:hasDictIn K C=true)
  (g:findIn K (.ref C) name=some none) (f:mA name=some v) (b:handedIn v=true) (h:Q v { s with toks:=s.toks+1 }) :
  wpAny (model prog w) A (getAttr (.ref x) name a) Q E s:=by
 obtain⟨i,J,d⟩:=I.look;exact PySem.W.get_value X J (plainGet_of e).1 (PySem.W.findObj_own c g rfl (by rw[d,f])) b h
theorem yL{pl:Sem Bool}{Q:Value×List Value->Shared->Prop}(X:K.In s.heap)(I:ObjM s.heap x dx C mA)(a:plainGet K C name=true)
  (e:findIn K (.ref C) name=some (some (.ref f))) (g:isFn K (.ref f)=true) (d:mA name=none) (h:Q (.ref f,[.ref x]) s) :
  wpAny (model prog w) A (getMethod (.ref x) name pl) Q E s:=by
 obtain⟨c,J,b⟩:=I.look;exact PySem.W.method_fn X J (plainGet_of a).1 (plainGet_of a).2 e (beq_iff_eq.mp g) (by show(lookIn name c).map (·.isSome)=some false;rw[b,d];rfl) h
theorem Ax{j:List Str}{Q:Unit->Shared->Prop}(X:K.In s.heap)(I:ObjM s.heap x dx C mA)
  (B:findIn K (.ref C) "__setattr__" = some (some (.builtin "object.__setattr__"))) (o:plainOver K C=true) (G:takerIn K C name=some none) (l:hasDictIn K C=true)
  (m:PySem.Within mA j) (hsz:j.length<=sizeLine)
  (h:∀ h',ObjM h' x dx C (λy=>if y=name then some v else mA y)->Heap.SameBut dx s.heap h'->Q () { s with heap:=h',toks:=s.toks+2 }) :
  wpAny (model prog w) A (setAttr (.ref x) name v) Q E s:=by
 obtain⟨N,J,L⟩:=I.look;refine PySem.W.set_plain X J B (PySem.W.osa_open (s:={ s with toks:=s.toks+1 }) (r:=none) X J o G λb=>?_);obtain⟨H,p,f⟩:=any_some l;have D:s.heap.get? x=some ⟨.ref C,some dx,.plain,#[]⟩:=I.obj;refine wpAny_bind (wpAny_pure (wpAny_bind (wpAny_bind (wpAny_loadPart D (wpAny_bind (Looks.here (s:={ s with toks:=s.toks+1 }) (PySem.W.looks_clsIn X p) ?_))))));rw[f];refine wpAny_pure (a:=some dx) (wpAny_bind (wpAny_pure (wpAny_bind ?_)));refine wpAny_nsSet1 (s:={ s with toks:=s.toks+1 }) I.ns λh' c d=>?_
 obtain⟨M,u,F,i,e,g⟩:=c.count (PySem.Within.cons name v m);refine wpAny_bind (wpAny_lookBehind i (by rw[e];exact pastItsLine_dict (Nat.le_trans g (by rw[length_cons];lia))) ?_);exact wpAny_pure (h _ ⟨(d.2 _ (Ne.symm I.ne)).trans I.obj,c,I.ne⟩ d)
theorem yP{R:Result->Shared->Prop}{vs:List Value}{b:List (Str×Value)}(X:K.In s.heap)(c:makesIn K C=true)
  (hi:findIn K (.ref C) "__init__" = some (some (.ref f))) (e:typeIn K (.ref f)=some (.type "function"))
  (h:codeAny (model prog w) (A.under (.builtin "type.__call__" ⟨.ref C::vs,b⟩)) (.call (.ref f) ⟨.ref (s.heap.objs.size+1)::vs,b⟩) (PySem.W.InitBack (s.heap.objs.size+1) R)
   { s with heap:=(s.heap.push emptyDict).push (instObj C s.heap.objs.size) }) :
  codeAny (model prog w) A (.call (.ref C) ⟨vs,b⟩) R s:=by
 obtain⟨i,g,d,t,j⟩:=s;exact PySem.W.make_core (PySem.W.makes_of X c) (PySem.W.looks_findIn X hi) (λa=>PySem.W.bind_fn X a e) (.inl rfl) h
end
def g9(f:Str)(v:V):List (Str×V)->List (Str×V)
 | []=>[(f,v)]
 | (g,x)::r=>if g=f then (g,v)::r else (g,x)::g9 f v r
theorem kg(f g:Str)(v:V):∀ fs:List (Str×V),(g9 f v fs).lookup g=if g=f then some v else fs.lookup g
 | []=>by
  show List.lookup g [(f,v)]=_
  by_cases h:g=f
  .have a:(g == f)=true:=beq_iff_eq.mpr h
   simp only[List.lookup,a,if_pos h]
  .have a:(g == f)=false:=beq_eq_false_iff_ne.mpr h
   simp only[List.lookup,a,if_neg h]
 | (k,x)::r=>by
  have b:=kg f g v r;rw[show g9 f v ((k,x)::r)=(if k=f then (k,v)::r else (k,x)::g9 f v r) from rfl]
  by_cases hk:k=f
  .rw[if_pos hk]
   by_cases h:g=k
   .have a:(g == k)=true:=beq_iff_eq.mpr h
    simp only[List.lookup,a,if_pos (h.trans hk)]
   .have a:(g == k)=false:=beq_eq_false_iff_ne.mpr h
    simp only[List.lookup,a,if_neg (λe:g=f=>h (e.trans hk.symm))]
  .rw[if_neg hk]
   by_cases h:g=k
   .have a:(g == k)=true:=beq_iff_eq.mpr h
    simp only[List.lookup,a,if_neg (λe:g=f=>hk (h.symm.trans e))]
   .have a:(g == k)=false:=beq_eq_false_iff_ne.mpr h
    simp only[List.lookup,a];exact b
theorem jX(f:Str)(v:V):∀ fs:List (Str×V),f∈(g9 f v fs).map (·.1)/\∀ g,g∈fs.map (·.1)->g∈(g9 f v fs).map (·.1)
 | []=>⟨by simp[g9],λg h=>by simp at h⟩
 | (k,x)::r=>by
  obtain⟨b,a⟩:=jX f v r;rw[show g9 f v ((k,x)::r)=(if k=f then (k,v)::r else (k,x)::g9 f v r) from rfl]
  by_cases hk:k=f
  .rw[if_pos hk]
   subst hk;exact⟨by simp,λg h=>by simpa using h⟩
  .rw[if_neg hk]
   refine⟨?_,λg h=>?_⟩
   .rw[map_cons]
    exact mem_cons_of_mem _ b
   .rw[map_cons]at h ⊢
    rcases mem_cons.mp h with e | e
    .exact mem_cons.mpr (.inl e)
    .exact mem_cons_of_mem _ (a g e)
theorem ki(f:Str)(v:V):∀ fs:List (Str×V),(g9 f v fs).length<=fs.length+1
 | []=>by simp[g9]
 | (k,x)::r=>by
  have a:=ki f v r;rw[show g9 f v ((k,x)::r)=(if k=f then (k,v)::r else (k,x)::g9 f v r) from rfl]
  by_cases hk:k=f
  .rw[if_pos hk,length_cons,length_cons];lia
  .rw[if_neg hk,length_cons,length_cons];lia
theorem RelO.some_of{v:V}{o:Option Value}(r:RelO (some v) o):∃ u,o=some u/\RelV v u:=by
 cases o with
 | none=>exact(show False from r).elim
 | some u=>exact⟨u,rfl,r⟩
theorem RelO.none_of{o:Option Value}(r:RelO none o):o=none:=by
 cases o with
 | none=>rfl
 | some u=>exact(show False from r).elim
theorem wo{v:V}{u:Value}(r:RelV v u):handedIn u=true:=by
 cases v with
 | non=>cases(show u=Value.none from r);rfl
 | bl b=>cases(show u=Value.bool b from r);rfl
 | int i=>obtain⟨t,e⟩:=(show ∃ t,u=Value.int i t from r);cases e;rfl
 | str x=>obtain⟨t,e⟩:=(show ∃ t,u=Value.str x t from r);cases e;rfl
 | byt b=>obtain⟨t,e⟩:=(show ∃ t,u=Value.bytes b t from r);cases e;rfl
 | flt b=>obtain⟨t,e⟩:=(show ∃ t,u=Value.float b t from r);cases e;rfl
 | ref a=>cases(show u=Value.ref a from r);rfl
 | ty n=>cases(show u=Value.type n from r);rfl
section
variable {P:Program}{w:World}{H H':Hp}{h h':Heap}{a C dx:Addr}{fs fs':List (Str×V)}
theorem kD(b:HOk P w H h)(e:H a=some (.ins C dx fs)):∃ mA,ObjM h a dx C mA/\(∀ f,RelO (fs.lookup f) (mA f))/\PySem.Within mA (fs.map (·.1))/\fs.length<=1000/\H dx=some (.own a):=by
 obtain⟨d,z,g,c,mA,n,r,q⟩:=(show ObjOk P w H h a (.ins C dx fs) from b a _ e)
 exact⟨mA,⟨c,n,g⟩,r,q,z,d⟩
end
structure Cls(K:Frag)(C:Addr):Prop where
 pg:plainGet K C Str.empty=true
 hd:hasDictIn K C=true
 po:plainOver K C=true
 sa:findIn K (.ref C) "__setattr__" = some (some (.builtin "object.__setattr__"))
theorem Cls.get{K:Frag}{C:Addr}(c:Cls K C)(f:Str):plainGet K C f=true:=c.pg
def NoAttr(K:Frag)(C:Addr)(f:Str):Prop:=findIn K (.ref C) f=some none
theorem NoAttr.taker{K:Frag}{C:Addr}{f:Str}(n:NoAttr K C f):takerIn K C f=some none:=by
 unfold takerIn;rw[show findIn K (.ref C) f=some none from n];rfl
structure Meth(K:Frag)(C:Addr)(m:Str)(f:Addr):Prop where
 at_:findIn K (.ref C) m=some (some (.ref f))
 fn:isFn K (.ref f)=true
 kp:keepIn K (.ref f)=true
section
variable {X:Cx}{pins:List (Addr×Obj)}{σ:St}{H:Hp}{s:Shared}{a C dx:Addr}{fs:List (Str×V)}{f:Str}{v:V}{A:Around}{E:Value->Shared->Prop}
theorem sO{b:Bool}{Q:Value->Shared->Prop}(I:Inv X pins σ H s)(e:H a=some (.ins C dx fs))(c:Cls X.K C)(n:NoAttr X.K C f)(l:fs.lookup f=some v)
  (h:∀ u s',Inv X pins σ H s'->RelV v u->Q u s'):wpAny (model X.prog X.w) A (getAttr (.ref a) f b) Q E s:=by
 obtain⟨i,O,r,_,_,_⟩:=kD I.hok e;obtain⟨u,g,d⟩:=RelO.some_of (v:=v) (o:=i f) (by rw[<- l];exact r f);exact zY I.kIn O (c.get f) c.hd n g (wo d) (h u _ (I.tok _) d)
theorem rZ{m:Str}{g:Addr}{pl:Sem Bool}{Q:Value×List Value->Shared->Prop}(I:Inv X pins σ H s)(e:H a=some (.ins C dx fs))(c:Cls X.K C)(k:Meth X.K C m g)(l:fs.lookup m=none)
  (h:Q (.ref g,[.ref a]) s):wpAny (model X.prog X.w) A (getMethod (.ref a) m pl) Q E s:=by
 obtain⟨d,O,r,_,_,_⟩:=kD I.hok e;have b:d m=none:=RelO.none_of (by rw[<- l];exact r m);exact yL I.kIn O (c.get m) k.at_ k.fn b h
theorem rR{y:V}{u:Value}{Q:Unit->Shared->Prop}(I:Inv X pins σ H s)(e:H a=some (.ins C dx fs))(c:Cls X.K C)(n:NoAttr X.K C f)(D:fs.length<1000)(B:RelV y u)
  (h:∀ s',Inv X pins σ (upd H a (.ins C dx (g9 f y fs))) s'->Q () s'):wpAny (model X.prog X.w) A (setAttr (.ref a) f u) Q E s:=by
 obtain⟨j,O,r,l,_,i⟩:=kD I.hok e;have m:(fs.map (·.1)).length<=sizeLine:=by rw[length_map,sizeLine_eq];lia
 refine Ax I.kIn O c.sa c.po n.taker c.hd l m λw d v=>h _ ?_
 have p:∃ o,w.get? dx=some o:=let ⟨o,_,_,e',_⟩:=d.ns;⟨o,e'⟩;refine I.write (x:=a) (e:=dx) (by rw[e];exact True.intro) (.inr i) (λb q hb z=>(v.2 b hb).trans z) p ?_;refine⟨by rw[ar O.ne];exact i,?_,O.ne,d.obj,_,d.ns,λg=>?_,λg hg=>?_⟩
 .have:=ki f y fs;lia
 .show RelO ((g9 f y fs).lookup g) (if g=f then some u else j g)
  rw[kg]
  by_cases q:g=f
  .rw[if_pos q,if_pos q];exact B
  .rw[if_neg q,if_neg q];exact r g
 .by_cases q:g=f
  .rw[q];exact(jX f y fs).1
  .refine(jX f y fs).2 g (l g λz=>hg ?_)
   show(if g=f then some u else j g)=none;rw[if_neg q];exact z
theorem Inv.made(I:Inv X pins σ H s):Inv X pins σ (upd (upd H s.heap.objs.size (.own (s.heap.objs.size+1))) (s.heap.objs.size+1) (.ins C s.heap.objs.size []))
  { s with heap:=(s.heap.push emptyDict).push (instObj C s.heap.objs.size) }:=by
 have d:(s.heap.push emptyDict).get? s.heap.objs.size=some emptyDict:=Heap.get?_push_size s.heap rfl
 have g:((s.heap.push emptyDict).push (instObj C s.heap.objs.size)).get? (s.heap.objs.size+1)=some (instObj C s.heap.objs.size):=by
  have:=Heap.get?_push_size (s.heap.push emptyDict) (o:=instObj C s.heap.objs.size) rfl;rwa [Heap.size_push]at this
 have f:(s.heap.push emptyDict).Ns s.heap.objs.size (λ_=>none):=⟨emptyDict,#[],_,d,rfl,(λe he=>absurd he (by simp)),λ_=>rfl⟩
 have h:=I.laid (a:=s.heap.objs.size) (o:=.own (s.heap.objs.size+1)) (h':=s.heap.push emptyDict) (t':=s.toks) (λb u q=>Heap.get?_push_of_some _ q) (Nat.le_refl _) ⟨_,d⟩;refine h.laid (a:=s.heap.objs.size+1) (o:=.ins C s.heap.objs.size []) (t':=s.toks) (λb u q=>Heap.get?_push_of_some _ q) (Nat.le_of_eq (Heap.size_push _ _)) ?_;have c:s.heap.objs.size≠s.heap.objs.size+1:=Nat.ne_of_lt (Nat.lt_succ_self _);refine⟨by rw[ar c,ae],Nat.zero_le _,c,g,λ_=>none,(Heap.Ns1.of_empty f).at λo q=>Heap.get?_push_of_some _ q,λ_=>True.intro,λy hy=>absurd rfl hy⟩
theorem Aw{prog:Program}{w:World}{env:Env}{e:Expr}{f:Str}{a:Pos}{s:Shared}{Q:Value->Shared->Prop}(b:attributeBase e f env (eval e env)=eval e env)
  (h:wpAny (model prog w) A (eval e env) (λo s₁=>wpAny (model prog w) A (getAttr o f true) Q E s₁) E s):wpAny (model prog w) A (eval (.Attribute e f a) env) Q E s :=
 Attribute_any_ h (by rw[arm_eval_Attribute,b])
end
def Ek(K:Frag)(ta:TE)(f:Str):TE:=λσ H Q=>ta σ H λx H1=>∃ a C dx fs v,x=.ref a/\H1 a=some (.ins C dx fs)/\Cls K C/\NoAttr K C f/\fs.lookup f=some v/\Q v H1
def EW(K:Frag)(ta tv:TE)(f:Str):TS:=λD σ H=>tv σ H λy H1=>ta σ H1 λx H2=>∃ a C dx fs,x=.ref a/\H2 a=some (.ins C dx fs)/\Cls K C/\NoAttr K C f/\fs.length<1000 /\
 D.nx σ (upd H2 a (.ins C dx (g9 f y fs)))
section
variable {X:Cx}{o e value:Expr}{f:Str}{pos pos' tpos:Pos}{ta tv:TE}
theorem aC(r:PE X e ta)(d:attributeBase e f X.env (eval e X.env)=eval e X.env):PE X (.Attribute e f pos) (Ek X.K ta f):=by
 intro b s g H Q I h;refine Aw d (thn (r b s g H _ I h) λu B ⟨x,y,p,i,a,C,A,F,v,o,m,c,n,l,q⟩=>?_);subst o;obtain rfl:u=Value.ref a:=i
 exact sO p m c n l λD E w j=>⟨v,y,w,j,q⟩
theorem iB(m:PE X o ta)(j:PE X value tv)(e:swapsWith value (some (.Attribute o f pos')) pos.line X.env=pure false):PS X (.Assign [.Attribute o f pos'] value pos) (EW X.K ta tv f):=by
 intro b s d H D I h;refine plainObj_wpAny_Assign_Attribute (thn (j b s d H _ I h) λu g ⟨y,v,p,r,q⟩=>thn (m b g d v _ p q) λov s2 ⟨x,H2,I2,rx,a,C,dx,fs,ex,ea,c,n,l,q2⟩=>?_) e;subst ex;obtain rfl:ov=Value.ref a:=rx
 exact rR I2 ea c n l r λw i=>⟨d,_,i,q2⟩
end
section
variable {X:Cx}{pins:List (Addr×Obj)}{σ:St}{H:Hp}{s:Shared}{A:Around}{E:Value->Shared->Prop}{Q:Value->Shared->Prop}{c:Value}{b:Bool}
inductive TyOf(K:Frag)(H:Hp):V->Value->Prop where
 | non:TyOf K H .non (.type "NoneType")
 | bl (x:Bool):TyOf K H (.bl x) (.type "bool")
 | int (i:Int):TyOf K H (.int i) (.type "int")
 | str (x:Str):TyOf K H (.str x) (.type "str")
 | flt (x:UInt64):TyOf K H (.flt x) (.type "float")
 | lst {a:Addr}{xs:List V}(e:H a=some (.lst xs)):TyOf K H (.ref a) (.type "list")
 | frz {a:Addr}{o:Obj}{xs:List V}(e:H a=some (.frz o (.lst xs))):TyOf K H (.ref a) (.type "list")
 | tup {a:Addr}{xs:List V}(e:H a=some (.tup xs)):TyOf K H (.ref a) (.type "tuple")
 | dK {a:Addr}{kvs:List (Key×V)}(e:H a=some (.dK kvs)):TyOf K H (.ref a) (.type "dict")
 | dT {a:Addr}{kvs:List (List Key×V)}(e:H a=some (.dT kvs)):TyOf K H (.ref a) (.type "dict")
 | ins {a C dx:Addr}{fs:List (Str×V)}(e:H a=some (.ins C dx fs)) (cl:Cls K C) (ha:findIn K (.ref C) "__class__" = some (some (.builtin "object.__class__")))
   (hn:PySem.W.specialIn K (.builtin "object.__class__") "__get__" = some (some (.builtin "getset_descriptor.__get__"))) (htk:PySem.W.takesIn K (.builtin "object.__class__")=some true)
   (hm:mroIn K C (.type "object")=some true):TyOf K H (.ref a) (.ref C)
end
structure Room(k:Nat)(A:Around):Prop where
 hd:A.handled=none
 dp:A.depth+3*k+5<recursionLimit
 un:A.units+16*k+200<cLine
theorem Room.mono{j k:Nat}{A:Around}(r:Room k A)(h:j<=k):Room j A:=⟨r.hd,by have:=r.dp;lia,by have:=r.un;lia⟩
theorem Room.deeper{k:Nat}{A:Around}(r:Room (k+1) A)(env:Env):Room k (A.deeper env) :=
 ⟨r.hd,by have:=r.dp;show A.depth+1+3*k+5<_;lia,by have:=r.un;show A.units+3+16*k+200<_;lia⟩
theorem sM{A:Around}{C:Addr}{us:List Value}{a:List (Str×Value)}:(A.under (.builtin "type.__call__" ⟨.ref C::us,a⟩)).depth=A.depth+1:=by
 first | rfl | simp[Around.under,Code.weight,Code.isCreation,Code.isGuard,Code.isCaller,Code.frames,Code.isFrame,guardIds]
theorem rL{A:Around}{C:Addr}{us:List Value}{a:List (Str×Value)}:(A.under (.builtin "type.__call__" ⟨.ref C::us,a⟩)).units=A.units+1:=by
 first | rfl | simp[Around.under,Code.cUnits,Code.frames,Code.isFrame]
theorem Room.make{k:Nat}{A:Around}(r:Room (k+1) A)(C:Addr)(us:List Value)(a:List (Str×Value)):Room k (A.under (.builtin "type.__call__" ⟨.ref C::us,a⟩)) :=
 ⟨r.hd,by have:=r.dp;rw[sM];lia,by have:=r.un;rw[rL];lia⟩
theorem Room.depth{k:Nat}{A:Around}(r:Room k A):A.depth<recursionLimit:=by have:=r.dp;lia
theorem Room.units{k:Nat}{A:Around}(r:Room k A):A.units+64<cLine:=by have:=r.un;lia
def DL:TA:=λ_ H Q=>Q [] H
def t6(ta:TE)(tr:TA):TA:=λσ H Q=>ta σ H λx H1=>tr σ H1 λxs H2=>Q (x::xs) H2
section
variable {X:Cx}{e:Expr}{es:List Expr}{te:TE}{t:TA}{pos:Pos}
theorem ac:PA X [] DL:=λ_ _ _ _ H Q I h=>Calls.spliced_nil ⟨[],H,I,.nil,h⟩
theorem aa(o:PE X e te)(i:PA X es t)(f:starEach (e::es) X.env=(false,eval e X.env)::starEach es X.env:=by rfl):PA X (e::es) (t6 te t):=by
 intro b a s c H Q I h;rw[f];show wpAny _ _ (spliced ((false,eval e X.env)::backTo b (starEach es X.env))) _ _ s;refine Calls.spliced_cons (thn (o a s c H _ I h) λu j ⟨x,y,v,r,g⟩=>?_)
 exact thn (i b a j c y _ v g) λA B ⟨p,l,w,m,d⟩=>⟨x::p,l,w,.cons r m,d⟩
def EI(t:TA):TE:=λσ H Q=>t σ H λxs H1=>xs.length<=sizeLine/\∀ p,H1 p=none->Q (.ref p) (upd H1 p (.tup xs))
def Cz(t:TA):TE:=λσ H Q=>t σ H λxs H1=>xs.length<=sizeLine/\∀ p,H1 p=none->Q (.ref p) (upd H1 p (.lst xs))
theorem aJ{x1}(h:PA X es t):PE X (.Tuple es x1 pos) (EI t):=by
 intro a s i H Q I l;refine wpAny_Tuple_spliced (thn (h pos a s i H _ I l) λg c ⟨j,f,d,r,z,q⟩=>⟨by rw[<- r.length];exact z,?_⟩);have m:f c.heap.objs.size=none:=d.hok.fresh (Nat.le_refl _);refine⟨.ref c.heap.objs.size,upd f c.heap.objs.size (.tup j),d.laid (t':=c.toks) (λb u e=>Heap.get?_push_of_some _ e) (Nat.le_refl _) ?_,rfl,q _ m⟩;exact⟨z,g,r,⟨_,Heap.get?_push_size _ rfl,rfl,_,rfl⟩⟩
theorem bL(h:PA X es t):PE X (.List es pos) (Cz t):=by
 intro a s i H Q I l;refine wpAny_List_spliced (thn (h pos a s i H _ I l) λg c ⟨j,f,d,r,z,q⟩=>⟨by rw[<- r.length];exact z,?_⟩);have m:f c.heap.objs.size=none:=d.hok.fresh (Nat.le_refl _);refine⟨.ref c.heap.objs.size,upd f c.heap.objs.size (.lst j),d.laid (t':=c.toks) (λb u e=>Heap.get?_push_of_some _ e) (Nat.le_refl _) ?_,rfl,q _ m⟩;exact⟨z,g,0,r,Heap.get?_push_size _ rfl⟩
end
abbrev Sp:=List V->Hp->VK->XK->Prop
abbrev CXT:=List Env->Hp->Shared->XK->Value->Shared->Prop
structure Env0(P:Program)(w:World)(K:Frag)(mg:Str->Option Value)(base:Heap)(A:Around)(outer:List Env)(s:Shared)(H:Hp):Prop where
 frames:A.frames=some outer
 mod:Mod K mg base
 bs:∀ b o,base.get? b=some o->s.heap.get? b=some o/\H b=none
 bsz:base.objs.size<=s.heap.objs.size
 funs:s.heap.FunFrames base outer
 frf:∀ b∈frs outer,H b=none
 hok:HOk P w H s.heap
 bare:AllBare s.gens
def CE(outer:List Env)(P:Program)(w:World)(H:Hp)(s:Shared)(Q:VK)(u:Value)(s':Shared):Prop :=
 ∃ v H',s'.os=s.os/\AllBare s'.gens/\Un (frs outer) [] H H' s.heap s'.heap/\HOk P w H' s'.heap/\RelV v u/\Q v H'
def CR(CX:CXT)(outer:List Env)(P:Program)(w:World)(H:Hp)(s:Shared)(Q:VK)(E:XK)(r:Result)(s':Shared):Prop :=
 match r with
 | .ok (.ret u)=>CE outer P w H s Q u s'
 | .ok _=>False
 | .error e=>CX outer H s E e s'
structure FnOk(P:Program)(w:World)(K:Frag)(mg:Str->Option Value)(base:Heap)(CX:CXT)(k:Nat)(f:Addr)(fd:FuncData)(ps:List Str)(sp:Sp):Prop where
 len:∀ vs H Q E,sp vs H Q E->vs.length=ps.length
 run:∀(A:Around) (outer:List Env) (s:Shared) (H:Hp) (args:Args) (us:List Value) (vs:List V) (Q:VK) (E:XK),Room k A->Env0 P w K mg base A outer s H->BindsTo s fd args (ps.zip us)->Vals vs us->sp vs H Q E ->
  codeAny (model P w) A (.call (.ref f) args) (CR CX outer P w H s Q E) s
theorem FnOk.mono{P:Program}{w:World}{K:Frag}{mg:Str->Option Value}{a:Heap}{CX:CXT}{j k:Nat}{f:Addr}{e:FuncData}{d:List Str}{sp:Sp}(F:FnOk P w K mg a CX j f e d sp)(h:j<=k) :
  FnOk P w K mg a CX k f e d sp:=⟨F.len,λA b s H c g l Q E i=>F.run A b s H c g l Q E (i.mono h)⟩
theorem Env0.make{P:Program}{w:World}{K:Frag}{mg:Str->Option Value}{b:Heap}{A:Around}{a:List Env}{s:Shared}{H:Hp}(e:Env0 P w K mg b A a s H)(C:Addr)(us:List Value)(c:List (Str×Value)) :
  Env0 P w K mg b (A.under (.builtin "type.__call__" ⟨.ref C::us,c⟩)) a s H:=⟨by first | exact e.frames | (simpa[Around.under,Code.envs,Code.isFrame,pushEnvs] using e.frames),e.mod,e.bs,e.bsz,e.funs,e.frf,e.hok,e.bare⟩
section
variable {X:Cx}{pins:List (Addr×Obj)}{σ:St}{H:Hp}{s s':Shared}
theorem Inv.env0(I:Inv X pins σ H s):Env0 X.prog X.w X.K X.mg X.base X.A X.stack s H :=
 ⟨I.ok.frames,I.ok.mod,I.bs,Nat.le_trans I.ok.bsz I.sz,I.stack,I.stkFree,I.hok,I.bare⟩
theorem Inv.after{Q:VK}{u:Value}(I:Inv X pins σ H s)(h:CE X.stack X.prog X.w H s Q u s'):EP X pins σ Q u s':=by
 obtain⟨v,j,i,a,l,c,r,q⟩:=h;obtain⟨f,g,d,t,e⟩:=s';obtain rfl:e=s.os:=i;exact⟨v,j,I.call (h':=f) (g':=g) (d':=d) (t':=t) (ch:=[]) l c a (λb z=>absurd z (by simp)),r,q⟩
end
def AV(sp:Sp)(dvs:List V)(E:XK)(t:TA):TE:=λσ H Q=>t σ H λvs H1=>sp (vs++dvs) H1 Q E
def DJ(C:Addr)(m:Str)(sp:Sp)(dvs:List V)(E:XK)(ta:TE)(t:TA):TE:=λσ H Q=>ta σ H λx H1=>∃ a dx fs,x=.ref a/\H1 a=some (.ins C dx fs)/\fs.lookup m=none /\
 t σ H1 λvs H2=>sp (x::(vs++dvs)) H2 Q E
def DW(C:Addr)(sp:Sp)(dvs:List V)(E:XK)(t:TA):TE:=λσ H Q=>t σ H λvs H1=>∀ x dx,H1 x=none->H1 dx=none->dx≠x ->
 sp (.ref x::(vs++dvs)) (upd (upd H1 dx (.own x)) x (.ins C dx [])) (λv H2=>v=.non/\Q (.ref x) H2) E
def Binds(K:Frag)(fd:FuncData)(ps:List Str)(ds:List Value):Prop :=
 ∀(s:Shared) (us:List Value),K.In s.heap->(us++ds).length=ps.length->BindsTo s fd ⟨us,[]⟩ (ps.zip (us++ds))
theorem Binds.all{K:Frag}{c:FuncData}{a:List Str}(h:∀ us:List Value,us.length=a.length->bindArgs c ⟨us,[]⟩=pure (a.zip us)):Binds K c a []:=λs us _ b=>by
 rw[append_nil]at b ⊢;exact .of_eq (h us b)
def jR(CX:CXT)(X:Cx)(E:XK):Prop:=∀(pins:List (Addr×Obj)) (σ:St) (H:Hp) (s:Shared) (e:Value) (s':Shared),Inv X pins σ H s->CX X.stack H s E e s'->X.xe e s'
section
variable {X:Cx}{CX:CXT}{k:Nat}{f C:Addr}{fd:FuncData}{ps:List Str}{sp:Sp}{dvs:List V}{ds:List Value}{E:XK}{x m:Str}{p pos apos:Pos}{e o:Expr}{es:List Expr}{ta:TE}{t:TA}
theorem yy{a:List (Addr×Obj)}{c:St}{H:Hp}{s:Shared}{Q:VK}{us:List Value}{vs:List V}(F:FnOk X.prog X.w X.K X.mg X.base CX k f fd ps sp)(l:Room k X.A)(g:Binds X.K fd ps ds)(o:Vals dvs ds)(j:jR CX X E)
  (I:Inv X a c H s) (r:Vals vs us) (h:sp (vs++dvs) H Q E):wpAny (model X.prog X.w) X.A (call (.ref f) us) (EP X a c Q) X.xe s:=by
 have d:Vals (vs++dvs) (us++ds):=r.append o;have m:(us++ds).length=ps.length:=by rw[<- d.length];exact F.len _ _ _ _ h
 refine wpAny_call (codeAny_mono (F.run X.A X.stack s H ⟨us,[]⟩ (us++ds) (vs++dvs) Q E l I.env0 (g s us I.kIn m) d h) λr i b=>?_);cases r with
 | error e=>exact j a c H s e i I b
 | ok fl =>
  cases fl with
  | ret u=>exact I.after b
  | next=>exact False.elim b
  | brk=>exact False.elim b
  | cont=>exact False.elim b
theorem zF(F:FnOk X.prog X.w X.K X.mg X.base CX k f fd ps sp)(j:Room k X.A)(o:Gl X x)(i:X.mg x=some (.ref f))(u:keepIn X.K (.ref f)=true)(g:Binds X.K fd ps ds)(l:Vals dvs ds)(m:jR CX X E)
  (v:PA X (e::es) t) (b:(x == ("__debug__" : Str))=false:=by decide) (y:starEach (e::es) X.env=(false,eval e X.env)::starEach es X.env:=by rfl) (c:(backTo pos (starEach es X.env)).any (·.1)=false:=by rfl) :
  PE X (.Call (.Name x p) (e::es) [] pos) (AV sp dvs E t):=by
 intro a s w H Q I h;refine wpAny_Call_Name_kw (kM I o i ?_ b);refine callWith_K (h₀:=X.base) I.ok.mod.kin u (thn (v pos a s w H _ I h) λA B ⟨C,D,d,r,q⟩=>⟨d.kIn,?_⟩) y c;exact yy F j g l m d r q
theorem au{pl:Sem Bool}(D:PE X o ta)(c:Cls X.K C)(v:Meth X.K C m f)(F:FnOk X.prog X.w X.K X.mg X.base CX k f fd ps sp)(M:Room k X.A)(y:Binds X.K fd ps ds)(G:Vals dvs ds)(L:jR CX X E)(B:PA X (e::es) t)
  (d:starEach (e::es) X.env=(false,eval e X.env)::starEach es X.env:=by rfl) (g:(backTo pos (starEach es X.env)).any (·.1)=false:=by rfl)
  (O:eval (.Call (.Attribute o m apos) (e::es) [] pos) X.env=(do
   let ov <- eval o X.env
   standAt apos.atName
   let (f,first) <- holding [ov] (getMethod ov m pl)
   callWith pos f first (backTo pos (starEach (e::es) X.env)) (backToKw pos (keywordEach [] X.env))):=by rfl) :
  PE X (.Call (.Attribute o m apos) (e::es) [] pos) (DJ C m sp dvs E ta t):=by
 intro b s i H Q I h;refine PySem.W.methodCall_KW (pl:=pl) (thn (D b s i H _ I h) λu A ⟨x,P,p,J,a,W,T,K,N,l,q⟩=>?_) O;subst K;obtain rfl:u=Value.ref a:=J;refine rZ p N c v l ?_;refine callWith_K (first:=[.ref a]) (h₀:=X.base) I.ok.mod.kin v.kp (thn (B pos b A i P _ p q) λus S ⟨vs,R,j,r,w⟩=>⟨j.kIn,?_⟩) d g;exact yy (us:=.ref a::us) (vs:=.ref a::vs) F M y G L j (.cons rfl r) w
structure Mk(K:Frag)(C f:Addr):Prop where
 makes:makesIn K C=true
 init:findIn K (.ref C) "__init__" = some (some (.ref f))
 fn:isFn K (.ref f)=true
 kp:keepIn K (.ref C)=true
theorem yx{b:List (Addr×Obj)}{d:St}{H:Hp}{s:Shared}{Q:VK}{us:List Value}{vs:List V}(M:Mk X.K C f)(F:FnOk X.prog X.w X.K X.mg X.base CX k f fd ps sp)(o:Room (k+1) X.A)(j:Binds X.K fd ps ds)(y:Vals dvs ds)
  (p:jR CX X E) (I:Inv X b d H s) (r:Vals vs us)
  (h:∀ x dx,H x=none->H dx=none->dx≠x->sp (.ref x::(vs++dvs)) (upd (upd H dx (.own x)) x (.ins C dx [])) (λv H2=>v=.non/\Q (.ref x) H2) E) :
  wpAny (model X.prog X.w) X.A (call (.ref C) us) (EP X b d Q) X.xe s:=by
 have i:=h (s.heap.objs.size+1) s.heap.objs.size (I.hok.fresh (Nat.le_succ _)) (I.hok.fresh (Nat.le_refl _)) (Nat.ne_of_lt (Nat.lt_succ_self _));have c:=Inv.made (C:=C) I;have g:Vals (V.ref (s.heap.objs.size+1)::(vs++dvs)) (Value.ref (s.heap.objs.size+1)::(us++ds)):=.cons rfl (r.append y)
 have w:(Value.ref (s.heap.objs.size+1)::us++ds).length=ps.length:=by
  have e:=g.length;rw[F.len _ _ _ _ i]at e;exact e.symm
 refine wpAny_call (yP (f:=f) I.kIn M.makes M.init (beq_iff_eq.mp M.fn) (codeAny_mono (F.run _ X.stack _ _ ⟨Value.ref (s.heap.objs.size+1)::us,[]⟩ (Value.ref (s.heap.objs.size+1)::(us++ds)) _ _ E (o.make C us [])
  (c.env0.make C us []) (j _ (Value.ref (s.heap.objs.size+1)::us) c.kIn w) g i) λr m a=>?_))
 cases r with
 | error e=>exact p b d _ _ e m c a
 | ok fl =>
  cases fl with
  | ret u =>
   obtain⟨v,D,A,B,l,G⟩:=c.after a;subst l;exact⟨B,⟨V.ref (s.heap.objs.size+1),D,A,rfl,G⟩⟩
  | next=>exact False.elim a
  | brk=>exact False.elim a
  | cont=>exact False.elim a
theorem gO(M:Mk X.K C f)(F:FnOk X.prog X.w X.K X.mg X.base CX k f fd ps sp)(j:Room (k+1) X.A)(o:Gl X x)(i:X.mg x=some (.ref C))(g:Binds X.K fd ps ds)(l:Vals dvs ds)(m:jR CX X E)
  (u:PA X (e::es) t) (b:(x == ("__debug__" : Str))=false:=by decide) (w:starEach (e::es) X.env=(false,eval e X.env)::starEach es X.env:=by rfl) (c:(backTo pos (starEach es X.env)).any (·.1)=false:=by rfl) :
  PE X (.Call (.Name x p) (e::es) [] pos) (DW C sp dvs E t):=by
 intro a s v H Q I h;refine wpAny_Call_Name_kw (kM I o i ?_ b);refine callWith_K (h₀:=X.base) I.ok.mod.kin M.kp (thn (u pos a s v H _ I h) λy A ⟨B,D,d,r,q⟩=>⟨d.kIn,?_⟩) w c;exact yx M F j g l m d r q
end
section
variable {X:Cx}{CX:CXT}{k:Nat}{f C:Addr}{fd:FuncData}{ps ks:List Str}{sp:Sp}{E:XK}{x m:Str}{p pos apos kpos:Pos}{e o:Expr}{es:List Expr}{kws:List Keyword}{te ta:TE}{t tk:TA}{nm:Option Str}
variable {g:List Value->List Value->List Value}{gV:List V->List V->List V}
end
structure FnScope(N P:List Str)(sc:Scope):Prop where
 kind:sc.kind=.function
 co:sc.isCoroutine=false
 gen:sc.isGenerator=false
 nd:N.Nodup
 pre:N.take P.length=P
 par:∀ x ∈ P,sc.names.lookup x = some .local\/sc.names.lookup x = some .cell
 nofree:∀ y∈sc.names,y.2≠.free
theorem nG{a:Str->Option NameKind}{x:Str}:∀{binds:List (Str×Value)}{m:Str->Option Value},(∀ v,(x,v) ∉ binds)->bindL a binds m x=m x
 | [],_,_=>rfl
 | (n,v)::r,m,h=>by
  unfold bindL;rw[nG λw b=>h w (mem_cons_of_mem _ b)]
  split
  .have:x≠n:=by rintro rfl;exact h v mem_cons_self
   simp[this]
  .rfl
theorem nN{a:Str->Option NameKind}{x:Str}:∀{binds:List (Str×Value)}{m:Str->Option Value},(∀ v,(x,v) ∉ binds)->bindC a binds m x=m x
 | [],_,_=>rfl
 | (n,v)::r,m,h=>by
  unfold bindC;rw[nN λw b=>h w (mem_cons_of_mem _ b)]
  split
  .rfl
  .have:x≠n:=by rintro rfl;exact h v mem_cons_self
   simp[this]
theorem mY{a:Str->Option NameKind}{x:Str}{v:Value}:∀{P:List Str}{vs:List Value}{i:Nat}{m:Str->Option Value},P.Nodup->P[i]? = some x->vs[i]? = some v->a x = some .local ->
  bindL a (P.zip vs) m x=some v
 | [],_,_,_,_,h,_,_=>by simp at h
 | _::_,[],_,_,_,_,h,_=>by simp at h
 | p::P,w::vs,0,m,nd,h1,h2,hk=>by
  simp at h1 h2;subst h1;subst h2;show bindL a ((p,w)::P.zip vs) m p=_;unfold bindL;rw[nG λv b=>(nodup_cons.mp nd).1 (of_mem_zip b).1,if_pos hk];simp
 | p::P,w::vs,i+1,m,nd,h1,h2,hk=>by
  show bindL a ((p,w)::P.zip vs) m x=_;unfold bindL;exact mY (i:=i) (nodup_cons.mp nd).2 (by simpa using h1) (by simpa using h2) hk
theorem m4{a:Str->Option NameKind}{x:Str}{v:Value}:∀{P:List Str}{vs:List Value}{i:Nat}{m:Str->Option Value},P.Nodup->P[i]? = some x->vs[i]? = some v->a x≠some .local ->
  bindC a (P.zip vs) m x=some v
 | [],_,_,_,_,h,_,_=>by simp at h
 | _::_,[],_,_,_,_,h,_=>by simp at h
 | p::P,w::vs,0,m,nd,h1,h2,hk=>by
  simp at h1 h2;subst h1;subst h2;show bindC a ((p,w)::P.zip vs) m p=_;unfold bindC;rw[nN λv b=>(nodup_cons.mp nd).1 (of_mem_zip b).1,if_neg hk];simp
 | p::P,w::vs,i+1,m,nd,h1,h2,hk=>by
  show bindC a ((p,w)::P.zip vs) m x=_;unfold bindC;exact m4 (i:=i) (nodup_cons.mp nd).2 (by simpa using h1) (by simpa using h2) hk
def start(N:List Str)(vs:List V):St:=vs.map some++List.replicate (N.length - vs.length) none
def dw(CX:CXT)(P:Program)(w:World)(K:Frag)(mg:Str->Option Value)(base:Heap)(N:List Str)(qual:Str)(scope:Scope)(f:Addr)(cd:Value)(A:Around)(outer:List Env)(s:Shared)(H:Hp)(E:XK):Cx where
 prog:=P
 w:=w
 K:=K
 mg:=mg
 base:=base
 A:=A.deeper (envOfC qual scope s.heap.objs.size f cd)
 N:=N
 s₀:=s
 H₀:=H
 env:=envOfC qual scope s.heap.objs.size f cd
 outer:=outer
 stack:=envOfC qual scope s.heap.objs.size f cd::outer
 ex:=[]
 calm:=true
 fn:=λ_=>true
 pn:=[]
 xe:=λe s'=>wpAny (model P w) (A.deeper (envOfC qual scope s.heap.objs.size f cd)) (leaving (envOfC qual scope s.heap.objs.size f cd) e) (λ_ s''=>CX outer H s E e s'') (λe' s''=>CX outer H s E e' s'') s'
theorem qR{a:Scope}{n:Nat}{x:Str}(h:a.names.lookup x=some .cell):∃ c,(cellsFrom n a.names []).lookup x=some c:=by
 have q:=cellsFrom_some a.names n [] (.inl h);exact Option.isSome_iff_exists.mp q
theorem nM{CX:CXT}{P:Program}{w:World}{K:Frag}{mg:Str->Option Value}{l:Heap}{N o:List Str}{g:Str}{scope:Scope}{f:Addr}{I:Value}{A:Around}{d:List Env}{s J:Shared}{H:Hp}{E:XK}{us:List Value}{vs:List V}
  (S:FnScope N o scope) (R:A.handled=none) (m:Env0 P w K mg l A d s H) (Y:vs.length=o.length) (r:Vals vs us)
  (x:InCallC s s.heap.objs.size (bindL (envOfC g scope s.heap.objs.size f I).kindOf (o.zip us) λ_=>none) (cellsFrom (s.heap.objs.size+1) scope.names []) (bindC (envOfC g scope s.heap.objs.size f I).kindOf (o.zip us) λ_=>none) J) :
  Inv (dw CX P w K mg l N g scope f I A d s H E) [] (start N vs) H J:=by
 have T:o.length<=N.length:=by have:=congrArg List.length S.pre;rw[length_take]at this;lia
 obtain⟨G,X,rfl,M⟩:=x.done;have B:∀ b:Addr,b ∉ (dw CX P w K mg l N g scope f I A d s H E).ex:=λb z=>absurd (show b∈([]:List Addr) from z) (by simp)
 refine⟨⟨m.mod,S.kind,rfl,rfl,Nat.le_refl _,λy z c G j=>?_,λy hy=>?_,λy c _ h=>?_,λ_=>R,Around.frames_deeper m.frames,.inr ⟨rfl,rfl⟩,λb z=>absurd z (B b),m.bs,m.bsz,λb _ _=>B b,λb z=>absurd z (B b),m.funs,m.frf⟩,
  rfl,m.bare,Un.kept M,⟨_,x.toInCall.ns,λi y v G j W=>?_⟩,λy c h=>⟨_,x.cell y c h⟩,m.hok.fresh (Nat.le_refl _),λy c h=>?_,λp D=>absurd (show p∈([]:List (Addr×Obj)) from D) (by simp),m.hok.kept M,?_⟩
 .exact name_of_addr x.apart (PySem.mem_of_lookup G) (PySem.mem_of_lookup j)
 .have hy:scope.names.lookup y=some .cell\/scope.names.lookup y=some .free:=hy
  rcases hy with hy | hy
  .exact qR hy
  .exact absurd rfl (S.nofree _ (PySem.mem_of_lookup hy))
 .exact Nat.le_of_lt (x.above y c (PySem.mem_of_lookup h))
 .have F:i<vs.length:=by
   unfold start at j
   by_cases F:i<vs.length
   .exact F
   .rw[List.getElem?_append_right (by simpa using F)]at j
    rw[List.getElem?_replicate]at j
    split at j <;> cases j
  have Q:vs[i]? = some v:=by
   unfold start at j;rw[List.getElem?_append_left (by simpa using F),List.getElem?_map]at j;cases e:vs[i]? with
   | none=>rw[e]at j;cases j
   | some a=>rw[e]at j;cases j;rfl
  obtain⟨u,L,O⟩:=r.get Q
  have D:o[i]? = some y:=by
   rw[<- S.pre,List.getElem?_take_of_lt (by lia)];exact G
  have C:o.Nodup:=by rw[<- S.pre];exact S.nd.sublist (List.take_sublist _ _)
  refine⟨u,O,?_⟩
  rcases S.par y (List.mem_of_getElem? D) with k | k
  .exact .inl ⟨k,mY C D L k⟩
  .obtain⟨c,e⟩:=qR (n:=s.heap.objs.size+1) k
   refine .inr ⟨.inl k,c,e,?_⟩;have q:=x.cell y c e;rw[m4 C D L (by show scope.names.lookup y≠_;rw[k];decide)]at q;exact q
 .exact m.hok.fresh (Nat.le_of_lt (x.above y c (PySem.mem_of_lookup h)))
 .unfold start
  show _=N.length;rw[length_append,length_map,List.length_replicate];lia
theorem Df{CX:CXT}{P:Program}{w:World}{K:Frag}{mg:Str->Option Value}{g:Heap}{k:Nat}{f:Addr}{name a:Str}{d:Arguments}{body:List Stmt}{scope:Scope}{dV W m pm c Z oc:Value}{X od:Option Addr}
  {O:Array (Option Value)}{N F:List Str}{sp:Sp}(lk:K.lookup f=some ⟨oc,od,.func (fnOf name a d body scope dV W m pm X c Z),O⟩) (M:codeIn K c a=true) (S:FnScope N F scope)
  (p:∀ vs H Q E,sp vs H Q E->vs.length=F.length)
  (i:∀(A:Around) (outer:List Env) (s:Shared) (H:Hp) (vs:List V) (Q:VK) (E:XK),Room k (A.deeper (envOfC a scope s.heap.objs.size f c))->sp vs H Q E ->
   ∃ t,PSs (dw CX P w K mg g N a scope f c A outer s H E) body t/\t { nx:=λ_ H'=>Q .non H',rt:=Q } (start N vs) H) :
  FnOk P w K mg g CX (k+1) f (fnOf name a d body scope dV W m pm X c Z) F sp:=by
 refine⟨p,λA outer s H ab us vs Q E T D hb r B=>?_⟩;have hl:=p _ _ _ _ B;have KX:K.In s.heap:=D.mod.kin.keeps λb o e=>(D.bs b o e).1
 have L:s.heap.NoLimit:=D.mod.nolimit.keeps λb o e=>(D.bs b o e).1
 have j:∀ y ∈ F.zip us,scope.names.lookup y.1 = some .local\/(scope.names.lookup y.1 = some .cell/\((cellsFrom (s.heap.objs.size + 1) scope.names []).lookup y.1).isSome = true):=λ⟨n,v⟩ hy=>by
  rcases S.par n (of_mem_zip hy).1 with q | q
  .exact .inl q
  .exact .inr ⟨q,cellsFrom_some _ _ _ (.inl q)⟩
 refine codeAny_call_function T.depth (KX _ _ lk) rfl S.co S.gen rfl (codeRec_of KX M) (hb _ _ _ _ ?_);refine wpAny_newFunctionEnv_cells S.kind j λad he Y x=>?_
 subst he;refine⟨L.keeps x.toInCall.keep,codeAny_func ?_⟩;obtain⟨t,ht,hq⟩:=i A outer s H vs Q E (T.deeper _) B;have I:Inv (dw CX P w K mg g N a scope f c A outer s H E) [] (start N vs) H Y:=nM S T.hd D hl r x;refine wpAny_mono (ht [] Y (start N vs) H _ I hq) (λfl R l=>?_) λe R l=>l
 have C:∀{h:St}{H':Hp}{v:V}{u:Value},Inv (dw CX P w K mg g N a scope f c A outer s H E) [] h H' R->RelV v u->Q v H'->CE outer P w H s Q u R :=
  λ{h H' v u} J G q=>⟨v,H',J.os,J.bare,J.base,J.hok,G,q⟩
 cases fl with
 | ret u =>
  obtain⟨v,h,H',J,G,q⟩:=l;exact C J G q
 | next =>
  obtain⟨h,H',J,q⟩:=l;exact C (v:=V.non) (u:=Value.none) J rfl q
 | brk =>
  obtain⟨_,_,_,q⟩:=l;exact False.elim q
 | cont =>
  obtain⟨_,_,_,q⟩:=l;exact False.elim q
section
variable {X:Cx}{x:Str}{p pos:Pos}{e:Expr}{es:List Expr}{t:TA}{id T:String}{r:List V->Hp->VK->Prop}
def tCB(r:List V->Hp->VK->Prop)(t:TA):TE:=λσ H Q=>t σ H λvs H1=>r vs H1 Q
theorem ao(j:CallR X (.builtin id) r)(m:Gl X x)(g:X.mg x=none)(o:bootBuiltins x=some (.builtin id))(w:PA X (e::es) t)(y:x ≠ "__name__" := by decide)(b:(x == ("__debug__" : Str))=false:=by decide)
  (B:starEach (e::es) X.env=(false,eval e X.env)::starEach es X.env:=by rfl) (c:(backTo pos (starEach es X.env)).any (·.1)=false:=by rfl):PE X (.Call (.Name x p) (e::es) [] pos) (tCB r t):=by
 intro a s d H Q I h;refine wpAny_Call_Name_kw (jp I m g o ?_ y b);exact PyProof.Rows.callWith_builtin1 (thn (w pos a s d H _ I h) λf l ⟨v,C,A,u,i⟩=>j a l d C v f Q A u i) B c
theorem bS(j:CallR X (.type T) r)(m:Gl X x)(g:X.mg x=none)(o:bootBuiltins x=some (.type T))(w:PA X (e::es) t)(y:x ≠ "__name__" := by decide)(b:(x == ("__debug__" : Str))=false:=by decide)
  (B:starEach (e::es) X.env=(false,eval e X.env)::starEach es X.env:=by rfl) (c:(backTo pos (starEach es X.env)).any (·.1)=false:=by rfl):PE X (.Call (.Name x p) (e::es) [] pos) (tCB r t):=by
 intro a s d H Q I h;refine wpAny_Call_Name_kw (jp I m g o ?_ y b);exact PyProof.Rows.callWith_type1 (thn (w pos a s d H _ I h) λf l ⟨v,C,A,u,i⟩=>j a l d C v f Q A u i) B c
end
end L2
namespace HT
open PySem PyProof.Rows
section
open PySem.SeqAt
open PySem.AutoSeq1 (wpAny_loadPart')
open PySem.MeetsSeq PySem.MeetsSeq2 PySem.MeetsSeq3
end
section
variable {prog:Program}{w:World}{A:Around}{E:Value->Shared->Prop}{s:Shared}
def sIx(n d:Nat):Option Int->Nat
 | none=>d
 | some v=>if v<0 then (v+(n:Int)).toNat else min v.toNat n
theorem sIx_none(n d:Nat):sIx n d none=d:=rfl
theorem sIx_nat(n d k:Nat):sIx n d (some (k:Int))=min k n:=by
 show(if (k:Int)<0 then ((k:Int)+(n:Int)).toNat else min (k:Int).toNat n)=min k n;rw[if_neg (by lia),Int.toNat_natCast]
theorem sIx_le(n d:Nat)(a:d<=n)(o:Option Int):sIx n d o<=n:=by
 cases o with
 | none=>exact a
 | some v =>
  show(if v<0 then (v+(n:Int)).toNat else min v.toNat n)<=n
  by_cases hv:v<0
  .rw[if_pos hv];lia
  .rw[if_neg hv];exact Nat.min_le_right _ _
theorem u4(v:Int)(n d:Nat):(if v<0 then max (v+(n:Int)) 0 else min v (n:Int))=((sIx n d (some v):Nat):Int):=by
 show(if v<0 then max (v+(n:Int)) 0 else min v (n:Int))=(((if v<0 then (v+(n:Int)).toNat else min v.toNat n):Nat):Int)
 by_cases hv:v<0
 .simp only[if_pos hv];lia
 .simp only[if_neg hv];lia
theorem tL(lo hi:Option Int)(n:Nat):Builtin.Slice.sliceAdjust lo hi 1 (n:Int)=(((sIx n 0 lo:Nat):Int),((sIx n n hi:Nat):Int)):=by
 have a:¬((1:Int)<0):=by lia
 unfold Builtin.Slice.sliceAdjust;simp only[a,if_false];refine Prod.ext ?_ ?_
 .cases lo with
  | none=>rfl
  | some v=>exact u4 v n 0
 .cases hi with
  | none=>rfl
  | some v=>exact u4 v n n
theorem sS(i j:Nat):Builtin.Slice.slicePlaces (i:Int) (j:Int) 1=j - i:=by
 unfold Builtin.Slice.slicePlaces;have a:(1:Int) > 0:=by lia
 simp only[a,if_true,Int.ediv_one]
 split <;> lia
theorem mq{v:Value}{o:Option Int}{Q:Option Int->Shared->Prop}(p:IsPart v o)(h:Q o s):wpAny (model prog w) A (Builtin.Slice.slicePartIndex v) Q E s:=by
 cases p with
 | none=>exact slicePart_none h
 | int i t=>exact slicePart_int h
theorem jr{e:Addr}{d c:Value}{lo hi:Option Int}{n:Nat}{Q:Int×Int×Nat->Shared->Prop}(g:s.heap.IsSliceOf e d c .none)(pl:IsPart d lo)(f:IsPart c hi)
  (h:Q (((sIx n 0 lo:Nat):Int),1,sIx n n hi - sIx n 0 lo) s):wpAny (model prog w) A (Builtin.Slice.sliceApplied (.ref e) (pure (n:Int))) Q E s:=by
 obtain⟨j,b,i,a⟩:=id g;unfold Builtin.Slice.sliceApplied Builtin.Slice.sliceFields;refine wpAny_bind (wpAny_bind (wpAny_field b a (x:=d) rfl (wpAny_bind (wpAny_field b a (x:=c) rfl (wpAny_bind (wpAny_field b a (x:=.none) rfl (wpAny_pure ?_)))))));refine wpAny_bind (slicePart_none ?_);show wpAny _ _ (if ((1:Int) == 0)=true then _ else _) _ _ s;rw[if_neg (by decide)];refine wpAny_bind (mq pl (wpAny_bind (mq f (wpAny_bind (wpAny_pure ?_)))));show wpAny _ _ (match Builtin.Slice.sliceAdjust lo hi 1 (n:Int) with | (lo,hi)=>pure (lo,(1:Int),Builtin.Slice.slicePlaces lo hi 1)) _ _ s;rw[tL lo hi n];show wpAny _ _ (pure (((sIx n 0 lo:Nat):Int),(1:Int),Builtin.Slice.slicePlaces ((sIx n 0 lo:Nat):Int) ((sIx n n hi:Nat):Int) 1)) _ _ s;rw[sS];exact wpAny_pure h
theorem xV(xs:Array Value)(i k:Nat):((List.range k).filterMap λ(m:Nat)=>xs[((i:Int)+(m:Int)*1).toNat]?).toArray=((xs.toList.drop i).take k).toArray:=by
 have e:(λ(m:Nat)=>xs[((i:Int)+(m:Int)*1).toNat]?)=λm=>xs[i+m]?:=by
  funext m
  have:((i:Int)+(m:Int)*1).toNat=i+m:=by lia
  rw[this]
 rw[e];have:=pick_run xs i k;rw[List.filterMap_map]at this;have a:((λx=>xs[x]?) ∘ λx=>i+x)=λm=>xs[i+m]?:=rfl
 rw[a]at this;rw[this]
theorem getItem_tuple_cut{t d:Addr}{items:Array Value}{l j:Value}{lo hi:Option Int}{Q:Value->Shared->Prop}(b:IsTup s.heap t items)(i:s.heap.IsSliceOf d l j .none)(pl:IsPart l lo)(p:IsPart j hi)
  (r:¬(sIx items.size 0 lo=0/\sIx items.size items.size hi=items.size))
  (h:Q (.ref s.heap.objs.size) { s with heap:=s.heap.push { cls:=.type "tuple",data:=.seq ((items.toList.drop (sIx items.size 0 lo)).take (sIx items.size items.size hi - sIx items.size 0 lo)).toArray } })
  (hsz:items.size<=sizeLine):wpAny (model prog w) A (getItem (.ref t) (.ref d)) Q E s:=by
 have a:sizeOk (.seq ((items.toList.drop (sIx items.size 0 lo)).take (sIx items.size items.size hi - sIx items.size 0 lo)).toArray):=by
  show((items.toList.drop (sIx items.size 0 lo)).take (sIx items.size items.size hi - sIx items.size 0 lo)).toArray.size<=sizeLine;rw[size_toArray,length_take,List.length_drop,Array.length_toList];lia
 have y:sIx items.size items.size hi<=items.size:=sIx_le _ _ (Nat.le_refl _) hi;obtain⟨u,f,c,o⟩:=id i;have e:s.TypeIs (.ref d) "slice" := ⟨u,f,c⟩;unfold getItem
 try with_reducible refine wpAny_holding ?_
 first | refine wpAny_bind (wpAny_pure ?_) | skip
 refine wpAny_bind (wpAny_sequenceKey b.typeIs (by decide) ?_)
 refine wpAny_bind (wpAny_callSpecial?_slot (name:=Str.ofString "__getitem__") b.typeIs PyProof.Rows.slot_tuple_getitem
  (wpAny_call_entry PyProof.Rows.slot_tuple_getitem b.typeIs entry_tuple_getitem ?_ (args_tuple_getitem _ _)))
 show wpAny _ _ (Builtin.Tuple.tupleItemsOf (.ref t) >>= _) _ _ s;refine wpAny_bind (tupleItemsOf_ b ?_);refine wpAny_bind (wpAny_typeOf e ?_);rw[if_pos (by decide)];refine wpAny_bind (jr i pl p ?_)
 have g:¬((((sIx items.size 0 lo:Nat):Int) == 0 && (1:Int) == 1 && (sIx items.size items.size hi - sIx items.size 0 lo) == items.size)=true):=by
  intro q;rw[Bool.and_eq_true,Bool.and_eq_true]at q;have x:((sIx items.size 0 lo:Nat):Int)=0:=eq_of_beq q.1.1;have v:sIx items.size items.size hi - sIx items.size 0 lo=items.size:=eq_of_beq q.2;exact r ⟨by lia,by lia⟩
 show wpAny _ _ (if (((sIx items.size 0 lo:Nat):Int) == 0 && (1:Int) == 1 && (sIx items.size items.size hi - sIx items.size 0 lo) == items.size)=true then _ else _) _ _ s;rw[if_neg g,xV]
 first
  | exact wpAny_bind (m:=Builtin.Tuple.tupleExact _) (wpAny_newObj_type (wpAny_pure ⟨_,rfl,wpAny_pure h⟩) a)
  | exact wpAny_bind (m:=Builtin.Tuple.tupleExact _) (wpAny_newObj_type (wpAny_bind (wpAny_pure (wpAny_pure ⟨_,rfl,wpAny_pure h⟩))) a)
  | exact wpAny_bind (wpAny_bind (m:=Builtin.Tuple.tupleExact _) (wpAny_newObj_type (wpAny_pure (wpAny_pure ⟨_,rfl,wpAny_pure h⟩)) a))
  | exact wpAny_bind (wpAny_bind (m:=Builtin.Tuple.tupleExact _) (wpAny_newObj_type (wpAny_pure ⟨_,rfl,wpAny_pure h⟩) a))
end
end HT
namespace L2
open PySem PySem.Spec PyProof.Rows
abbrev TO:=St->Hp->(Option Int->Hp->Prop)->Prop
def PO(X:Cx)(e:Option Expr)(t:TO):Prop :=
 ∀(pins:List (Addr×Obj)) (s:Shared) (σ:St) (H:Hp) (Q:Option Int->Hp->Prop),Inv X pins σ H s->t σ H Q ->
  wpAny (model X.prog X.w) X.A (evalPart e X.env) (λu s'=>∃ o H',Inv X pins σ H' s'/\IsPart u o/\Q o H') X.xe s
def Ab:TO:=λ_ H Q=>Q none H
def DG(t:TE):TO:=λσ H Q=>t σ H λx H1=>∃ i,x=.int i/\Q (some i) H1
section
variable {X:Cx}{e:Expr}{te:TE}{lo hi:Option Expr}{tl th:TO}{pos p2:Pos}
theorem jh:PO X none Ab:=by
 intro a s b H Q I h;rw[evalPart_none];exact wpAny_pure ⟨none,H,I,.none,h⟩
theorem eZ(h:PE X e te):PO X (some e) (DG te):=by
 intro a s f H Q I c;rw[evalPart_some];refine thn (h a s f H _ I c) λu l ⟨x,j,g,d,b⟩=>?_
 obtain⟨i,rfl,q⟩:=b;obtain⟨t,rfl⟩:=d;exact⟨some i,j,g,.int i t,q⟩
def SlR(X:Cx)(r:V->Option Int->Option Int->Hp->VK->Prop):Prop :=
 ∀(pins:List (Addr×Obj)) (s:Shared) (σ:St) (H:Hp) (x:V) (v vl vu:Value) (lo hi:Option Int) (sl:Addr) (Q:VK),Inv X pins σ H s->RelV x v->s.heap.IsSliceOf sl vl vu .none->IsPart vl lo->IsPart vu hi->r x lo hi H Q ->
  ∃ T id,typeLookup (.type T) "__getitem__" = pure (some (.builtin id))/\s.TypeIs v T/\wpAny (model X.prog X.w) X.A (getItem v (.ref sl)) (EP X pins σ Q) X.xe s
theorem SlR.or{r l:V->Option Int->Option Int->Hp->VK->Prop}(h:SlR X r)(h':SlR X l):SlR X (λx lo hi H Q=>r x lo hi H Q\/l x lo hi H Q):=by
 intro a s j H x v g f lo hi e Q I d c i b q
 rcases q with q | q
 .exact h a s j H x v g f lo hi e Q I d c i b q
 .exact h' a s j H x v g f lo hi e Q I d c i b q
def tSl(r:V->Option Int->Option Int->Hp->VK->Prop)(te:TE)(tl th:TO):TE:=λσ H Q=>te σ H λx H1=>tl σ H1 λl H2=>th σ H2 λu H3=>r x l u H3 Q
theorem d9{r:V->Option Int->Option Int->Hp->VK->Prop}(D:SlR X r)(o:PE X e te)(E:PO X lo tl)(w:PO X hi th):PE X (.Subscript e (.Slice lo hi none p2) pos) (tSl r te tl th):=by
 intro a s c H Q I h;refine Subscript_ (thn (o a s c H _ I h) λv g ⟨x,K,B,F,p⟩=>?_);refine wpAny_Slice (thn (E a g c K _ B p) λd m ⟨l,i,A,y,f⟩=>thn (w a m c i _ A f) λvu s3 ⟨u,H3,I3,pu,q3⟩=>?_);rw[evalPart_none];refine wpAny_pure ?_;have C:Inv X a c H3 { s3 with heap:=s3.heap.push { cls:=.type "slice",data:=.fields #[d,vu,.none] } }:=I3.kept (t':=s3.toks) λb M q=>Heap.get?_push_of_some _ q
 obtain⟨T,L,G,J,j⟩:=D a { s3 with heap:=s3.heap.push { cls:=.type "slice",data:=.fields #[d,vu,.none] } } c H3 x v d vu l u s3.heap.objs.size Q C F (Heap.IsSliceOf.new ..) y pu q3;show wpAny (model X.prog X.w) X.A (subscriptTail e (.Slice lo hi none p2) v (.ref s3.heap.objs.size)) (EP X a c Q) X.xe { s3 with heap:=s3.heap.push { cls:=.type "slice",data:=.fields #[d,vu,.none] } };exact tail_any (ops:=[.ref s3.heap.objs.size,v]) J G j (by with_unfolding_all rfl)
def ce(xs:List V)(lo hi:Option Int):List V:=(xs.drop (HT.sIx xs.length 0 lo)).take (HT.sIx xs.length xs.length hi - HT.sIx xs.length 0 lo)
theorem fV(xs:List V)(lo hi:Option Int):(ce xs lo hi).length<=xs.length:=by
 unfold ce;rw[length_take,List.length_drop];lia
def EV(K:Frag):V->Option Int->Option Int->Hp->VK->Prop:=λx lo hi H Q=>∃ a xs,x=.ref a/\SqT K H a xs /\
 ¬(HT.sIx xs.length 0 lo=0/\HT.sIx xs.length xs.length hi=xs.length)/\∀ p,H p=none->Q (.ref p) (upd H p (.tup (ce xs lo hi)))
theorem sl_tup:SlR X (EV X.K):=by
 intro j s B H x v F C e f E Q I w y u m h;obtain⟨a,d,rfl,A,p,q⟩:=h;cases w;obtain⟨g,r,l,i⟩:=I.tuple A;have c:g.toArray.size=d.length:=by rw[size_toArray];exact r.length.symm
 refine⟨"tuple",_,PyProof.Rows.slot_tuple_getitem.lookup,l.typeIs,?_⟩;refine HT.getItem_tuple_cut l y u m (by rw[c];exact p) ?_ (by rw[c];exact i);rw[c];refine⟨.ref s.heap.objs.size,_,I.laid (t':=s.toks) (o:=.tup (ce d e f)) (λb D q=>Heap.get?_push_of_some _ q) (Nat.le_refl _) ?_,rfl,q _ (I.hok.fresh (Nat.le_refl _))⟩;exact⟨Nat.le_trans (fV d e f) i,_,(r.drop (HT.sIx d.length 0 e)).take (HT.sIx d.length d.length f - HT.sIx d.length 0 e),IsTup.new _ _⟩
end
def ixN(n:Nat)(i:Int):Option Nat:=if 0<=i then (if i<n then some i.toNat else none) else if -(n:Int)<=i then some (i+n).toNat else none
def atI{α:Type}(xs:List α)(i:Int):Option α:=(ixN xs.length i).bind λj=>xs[j]?
theorem uW{n:Nat}{i:Int}{j:Nat}(h:ixN n i=some j):seqIndex? i n=some j/\j<n/\-(n:Int)<=i/\i<n:=by
 unfold ixN at h
 by_cases h0:0<=i
 .rw[if_pos h0]at h
  by_cases h1:i<n
  .rw[if_pos h1]at h
   have e:i.toNat=j:=Option.some.inj h;exact⟨by rw[seqIndex_of h0 h1,e],by lia,by lia,h1⟩
  .rw[if_neg h1]at h;cases h
 .rw[if_neg h0]at h
  by_cases h1:-(n:Int)<=i
  .rw[if_pos h1]at h
   have e:(i+n).toNat=j:=Option.some.inj h;exact⟨by rw[seqIndex_neg (by lia) h1,e],by lia,h1,by lia⟩
  .rw[if_neg h1]at h;cases h
theorem pf{a:Type}{xs:List a}{i:Int}{v:a}(h:atI xs i=some v):∃ j,seqIndex? i xs.length=some j/\xs[j]? = some v/\j<xs.length/\-(xs.length:Int)<=i/\i<xs.length:=by
 unfold atI at h;cases e:ixN xs.length i with
 | none=>rw[e]at h;cases h
 | some j =>
  rw[e]at h;obtain⟨f,b,d,c⟩:=uW e;exact⟨j,f,h,b,d,c⟩
theorem aQ{a:Type}{xs:List a}{j:Nat}{v:a}(h:xs[j]? = some v):atI xs (j:Int)=some v:=by
 have b:j<xs.length:=(List.getElem?_eq_some_iff.mp h).1
 have e:ixN xs.length (j:Int)=some j:=by
  unfold ixN;rw[if_pos (by lia),if_pos (by lia)];simp
 unfold atI;rw[e];exact h
def tY(b:Expr):Prop:=∀ o i,subscripted b false o i=operate [o,i] (getItem o i)
def IxR(X:Cx)(r:R2):Prop :=
 ∀(value slice:Expr) (pins:List (Addr×Obj)) (s:Shared) (σ:St) (H:Hp) (x y:V) (v u:Value) (Q:VK),Inv X pins σ H s->RelV x v->RelV y u->r x y H Q ->
  subscripted slice false v u=operate [v,u] (getItem v u)->wpAny (model X.prog X.w) X.A (subscriptTail value slice v u) (EP X pins σ Q) X.xe s
def MtR(X:Cx)(id:String)(r:V->List V->Hp->VK->Prop):Prop :=
 ∀(pins:List (Addr×Obj)) (s:Shared) (σ:St) (H:Hp) (x:V) (xs:List V) (v:Value) (us:List Value) (Q:VK),Inv X pins σ H s->RelV x v->Vals xs us->r x xs H Q ->
  wpAny (model X.prog X.w) X.A (call (.builtin id) (v::us)) (EP X pins σ Q) X.xe s
section
variable {X:Cx}{a b:Expr}{ta tb:TE}{pos:Pos}
theorem IxR.or{r i:R2}(h:IxR X r)(h':IxR X i):IxR X (λx y H Q=>r x y H Q\/i x y H Q):=by
 intro a b c s g H x y v u Q I e f q d
 rcases q with q | q
 .exact h a b c s g H x y v u Q I e f q d
 .exact h' a b c s g H x y v u Q I e f q d
theorem ak{r:R2}(g:IxR X r)(l:PE X a ta)(d:PE X b tb)(e:tY b):PE X (.Subscript a b pos) (tOp r ta tb):=by
 intro c s m H Q I h;exact Subscript_ (Cf l d I h λv u j x y i p f o q=>g a b c j m i x y v u Q p f o q (e _ _))
inductive rIxL(K:Frag)(x y:V)(H:Hp)(Q:VK):Prop
 | mk(p:Addr)(xs:List V)(i:Int)(v:V)(h0:x=.ref p)(h1:y=.int i)(h2:SqL K H p xs)(h3:atI xs i=some v)(h4:Q v H):rIxL K x y H Q
inductive rIxT(K:Frag)(x y:V)(H:Hp)(Q:VK):Prop
 | mk(p:Addr)(xs:List V)(i:Int)(v:V)(h0:x=.ref p)(h1:y=.int i)(h2:SqT K H p xs)(h3:atI xs i=some v)(h4:Q v H):rIxT K x y H Q
def DU:R2:=λx y H Q=>∃ z i c,x=.str z/\y=.int i/\z.length<=sizeLine/\atI z.cps.toList i=some c/\Q (.str ⟨#[c]⟩) H
theorem ix_list:IxR X (rIxL X.K):=by
 intro d m a s o H x y v u Q I G E h B;obtain⟨p,R,i,z,rfl,rfl,C,D,q⟩:=h;cases G;obtain⟨t,rfl⟩:=E;obtain⟨l,r,f,O⟩:=I.list C;obtain⟨j,c,K,P,J,F⟩:=pf D;obtain⟨w,A,g⟩:=r.get K;have M:=r.length;have N:=iA
 have b:EP X a o Q w s:=⟨z,H,I,g,q⟩
 by_cases h0:0<=i
 .have e:i.toNat=j:=by
   rw[seqIndex_of h0 F]at c;exact Option.some.inj c
  exact item_listR f.isList h0 (by lia) (by rw[e];simpa using A) b B
 .have e:(i+(l.toArray.size:Int)).toNat=j:=by
   rw[seqIndex_neg (by lia) J]at c;rw[size_toArray,<- M];exact Option.some.inj c
  exact subscriptTail_builtinR (x:=w) f.isList.typeIs slot_list_getitem.lookup
   (wpAny_getItem_list_neg (Q:=λr L=>r=w/\EP X a o Q r L) f.isList (by lia) (by rw[size_toArray] <;> lia) (by lia) (by rw[e];simpa using A) ⟨rfl,b⟩) B
theorem ix_tup:IxR X (rIxT X.K):=by
 intro b e a s f H x y v u Q I C o h F;obtain⟨p,P,i,z,rfl,rfl,l,m,q⟩:=h;cases C;obtain⟨t,rfl⟩:=o;obtain⟨D,r,g,L⟩:=I.tuple l;obtain⟨j,B,E,N,O,M⟩:=pf m;obtain⟨w,A,c⟩:=r.get E;have J:=r.length;have K:=iA
 have d:EP X a f Q w s:=⟨z,H,I,c,q⟩
 exact subscriptTail_builtinR (x:=w) g.typeIs slot_tuple_getitem.lookup
  (getItem_tuple (j:=j) (Q:=λr G=>r=w/\EP X a f Q r G) g (by lia) (by lia) (by rw[size_toArray,<- J];exact B) (by simpa using A) ⟨rfl,d⟩) F
theorem BR:IxR X DU:=by
 intro a b e s C H x y v u Q I o l h w;obtain⟨z,i,c,rfl,rfl,E,g,q⟩:=h;obtain⟨t,rfl⟩:=o;obtain⟨G,rfl⟩:=l;obtain⟨j,d,r,F,p,m⟩:=pf g;have A:z.cps.toList.length=z.length:=by simp[Str.length]
 rw[A]at d p m;have D:=iA
 exact tail_any (typeIs_str s z t) slot_str_getitem.lookup (getItem_str (c:=c) (by
  have f:decide (i < -(2 ^ 63:Int))=false:=decide_eq_false (by lia);have B:decide (i >= 2 ^ 63)=false:=decide_eq_false (by lia)
  rw[f,B,Bool.or_false]) (by rw[d];simpa using r) ⟨.str ⟨#[c]⟩,H,I.tok _,⟨_,rfl⟩,q⟩) w
def rIx(K:Frag):R2:=λx y H Q=>rIxL K x y H Q\/rIxT K x y H Q\/DU x y H Q
theorem aj:IxR X (rIx X.K):=ix_list.or (ix_tup.or BR)
theorem sU(its:List Value)(n j:Nat)(u:Value):Obj.mapSeq (·.setIfInBounds j u) { cls:=.type "list",data:=.seq its.toArray n }={ cls:=.type "list",data:=.seq (its.set j u).toArray n }:=by
 simp[Obj.mapSeq]
theorem Inv.lst{a:List (Addr×Obj)}{b:St}{H:Hp}{s:Shared}{p:Addr}{xs:List V}(I:Inv X a b H s)(h:H p=some (.lst xs)) :
  ∃(its:List Value) (n:Nat),Vals xs its/\s.heap.get? p=some { cls:=.type "list",data:=.seq its.toArray n }/\xs.length<=sizeLine:=by
 obtain⟨z,its,n,r,e⟩:=I.hok p _ h;exact⟨its,n,r,e,z⟩
theorem Inv.lstUpd{a:List (Addr×Obj)}{g:St}{H:Hp}{s:Shared}{p:Addr}{xs d:List V}{its its':List Value}{n c:Nat}{f:Obj->Obj}(I:Inv X a g H s)(h:H p=some (.lst xs))
  (j:s.heap.get? p=some { cls:=.type "list",data:=.seq its.toArray n }) (i:f { cls:=.type "list",data:=.seq its.toArray n }={ cls:=.type "list",data:=.seq its'.toArray c }) (r:Vals d its') (hz:d.length<=sizeLine) (t:Nat) :
  Inv X a g (upd H p (.lst d)) { s with heap:=s.heap.update p f,toks:=t }:=by
 have e:(s.heap.update p f).get? p=some { cls:=.type "list",data:=.seq its'.toArray c }:=by
  rw[Heap.get?_update_self f j (by rw[i] <;> rfl),i]
 refine I.write (x:=p) (e:=p) (by rw[h];trivial) (.inl rfl) (λb u l q=>(Heap.get?_update_other _ _ (Ne.symm l)).trans q) ⟨_,e⟩ ?_;exact⟨hz,its',c,r,e⟩
def Di:V->V->V->Hp->(Hp->Prop)->Prop:=λo i v H Q=>∃ p xs k j,o=.ref p/\i=.int k/\H p=some (.lst xs)/\ixN xs.length k=some j/\Q (upd H p (.lst (xs.set j v)))
theorem wL:Dc X Di:=by
 intro b s y H o i v G J u Q I C D x h;obtain⟨p,E,k,j,rfl,rfl,l,B,q⟩:=h;cases C;obtain⟨t,rfl⟩:=D;obtain⟨a,n,r,d,A⟩:=I.lst l;obtain⟨c,K,g,w⟩:=uW B;have e:=r.length;have F:=iA
 have m:Inv X b y (upd H p (.lst (E.set j v))) { s with heap:=s.heap.update p (Obj.mapSeq (·.setIfInBounds j u)) } :=
  I.lstUpd l d (sU a n j u) (r.set x j) (by rw[List.length_set];exact A) s.toks
 by_cases h0:0<=k
 .have f:k.toNat=j:=by
   rw[seqIndex_of h0 w]at c;exact Option.some.inj c
  exact PySem.W.ki_setAt d h0 (by lia) (by rw[size_toArray,<- e];exact w) (by rw[f];exact⟨_,m,q⟩)
 .have f:(k+(a.toArray.size:Int)).toNat=j:=by
   rw[seqIndex_neg (by lia) g]at c;rw[size_toArray,<- e];exact Option.some.inj c
  exact PySem.W.ki_setBack d (by lia) (by rw[size_toArray,<- e];exact g) (by lia) (by rw[f];exact⟨_,m,q⟩)
theorem o9(lo hi:Option Int)(n:Nat):(sliceBounds lo hi none n).1=((HT.sIx n 0 lo:Nat):Int)/\(sliceBounds lo hi none n).2.1=((HT.sIx n n hi:Nat):Int)/\(sliceBounds lo hi none n).2.2=1:=by
 refine⟨?_,?_,rfl⟩
 .cases lo with
  | none=>simp[sliceBounds,HT.sIx]
  | some i =>
   simp only[sliceBounds,HT.sIx,Option.getD_none,show(1:Int) > 0 by decide,if_true]
   by_cases h:i<0
   .simp only[h,if_true] <;> lia
   .simp only[h,if_false] <;> lia
 .cases hi with
  | none=>simp[sliceBounds,HT.sIx]
  | some i =>
   simp only[sliceBounds,HT.sIx,Option.getD_none,show(1:Int) > 0 by decide,if_true]
   by_cases h:i<0
   .simp only[h,if_true] <;> lia
   .simp only[h,if_false] <;> lia
theorem mJ(its:List Value)(lo hi:Option Int):slicePick its.toArray lo hi none=((its.drop (HT.sIx its.length 0 lo)).take (HT.sIx its.length its.length hi - HT.sIx its.length 0 lo)).toArray:=by
 obtain⟨b,c,a⟩:=o9 lo hi its.toArray.size;unfold slicePick;rw[b,c,a]
 simp only[sliceRange_one,pick_run,size_toArray] <;> rfl
def Fk(K:Frag):V->Option Int->Option Int->Hp->VK->Prop:=λx lo hi H Q=>∃ a xs,x=.ref a/\SqL K H a xs/\∀ p,H p=none->Q (.ref p) (upd H p (.lst (ce xs lo hi)))
theorem sl_list:SlR X (Fk X.K):=by
 intro g s E H x v D B e f C Q I p l w j h;obtain⟨a,c,rfl,u,q⟩:=h;cases p;obtain⟨y,r,i,m⟩:=I.list u;have d:=r.length;refine⟨"list",_,slot_list_getitem.lookup,i.isList.typeIs,?_⟩;refine wpAny_getItem_list_slice i.isList l w j .none (by simp) ?_ (by rw[size_toArray] <;> lia);rw[mJ,<- d];refine⟨.ref s.heap.objs.size,_,I.laid (t':=s.toks) (o:=.lst (ce c e f)) (λb A q=>Heap.get?_push_of_some _ q) (Nat.le_refl _) ?_,rfl,q _ (I.hok.fresh (Nat.le_refl _))⟩;exact⟨Nat.le_trans (fV c e f) m,_,0,(r.drop (HT.sIx c.length 0 e)).take (HT.sIx c.length c.length f - HT.sIx c.length 0 e),Heap.get?_push_size _ rfl⟩
def ip:V->Bool
 | .non=>true
 | .bl _=>true
 | .int _=>true
 | .str _=>true
 | _=>false
def eqV:V->V->Bool
 | .non,.non=>true
 | .bl a,.bl b=>a == b
 | .bl a,.int b=>(if a then 1 else 0) == b
 | .int a,.bl b=>a == (if b then 1 else 0)
 | .int a,.int b=>a == b
 | .str a,.str b=>a == b
 | _,_=>false
theorem CG{A:Around}{s:Shared}{y x:V}{u v:Value}(f:RelV y u)(c:RelV x v)(g:ip y=true)(e:ip x=true):SeqAt.EqAt A s u v (eqV y x):=by
 cases y with
 | non =>
  cases f;cases x with
  | non=>cases c;exact SeqAt.EqAt.same _
  | bl b=>cases c;exact SeqAt.EqAt.none_bool b
  | int b=>obtain⟨t,rfl⟩:=c;exact SeqAt.EqAt.none_int b t
  | str b=>obtain⟨t,rfl⟩:=c;exact SeqAt.EqAt.none_str b t
  | _=>exact absurd (show false=true from e) Bool.false_ne_true
 | bl a =>
  cases f;cases x with
  | non=>cases c;exact SeqAt.EqAt.bool_none a
  | bl b=>cases c;exact SeqAt.EqAt.bool_bool a b
  | int b=>obtain⟨t,rfl⟩:=c;exact SeqAt.EqAt.bool_int a b t
  | str b=>obtain⟨t,rfl⟩:=c;exact SeqAt.EqAt.bool_str a b t
  | _=>exact absurd (show false=true from e) Bool.false_ne_true
 | int a =>
  obtain⟨d,rfl⟩:=f;cases x with
  | non=>cases c;exact SeqAt.EqAt.int_none a d
  | bl b=>cases c;exact SeqAt.EqAt.int_bool a d b
  | int b=>obtain⟨t,rfl⟩:=c;exact SeqAt.EqAt.int_int a d b t
  | str b=>obtain⟨t,rfl⟩:=c;exact SeqAt.EqAt.int_str a d b t
  | _=>exact absurd (show false=true from e) Bool.false_ne_true
 | str a =>
  obtain⟨d,rfl⟩:=f;cases x with
  | non=>cases c;exact SeqAt.EqAt.str_none a d
  | bl b=>cases c;exact SeqAt.EqAt.str_bool a d b
  | int b=>obtain⟨t,rfl⟩:=c;exact SeqAt.EqAt.str_int a d b t
  | str b=>obtain⟨t,rfl⟩:=c;exact SeqAt.EqAt.str_str a d b t
  | _=>exact absurd (show false=true from e) Bool.false_ne_true
 | _=>exact absurd (show false=true from g) Bool.false_ne_true
def eqU(x:V)(u:Value):Bool:=match u with
 | .none=>eqV .non x
 | .bool b=>eqV (.bl b) x
 | .int i _=>eqV (.int i) x
 | .str z _=>eqV (.str z) x
 | _=>false
theorem xT{x y:V}{u:Value}(r:RelV y u)(f:ip y=true):eqU x u=eqV y x:=by
 cases y with
 | non=>cases r;rfl
 | bl b=>cases r;rfl
 | int i=>obtain⟨t,rfl⟩:=r;rfl
 | str z=>obtain⟨t,rfl⟩:=r;rfl
 | _=>exact absurd (show false=true from f) Bool.false_ne_true
theorem iU{x:V}:∀{xs:List V}{us:List Value},Vals xs us->xs.all ip=true->us.any (eqU x)=xs.any λy=>eqV y x
 | _,_,.nil,_=>rfl
 | y::xs,u::us,.cons r t,f=>by
  rw[all_cons,Bool.and_eq_true]at f;rw[any_cons,any_cons,xT r f.1,iU t f.2]
theorem fT{A:Around}{s:Shared}{x:V}{v:Value}(a:RelV x v)(b:ip x=true):∀{xs:List V}{us:List Value},Vals xs us->xs.all ip=true->∀ u∈us,SeqAt.EqAt A s u v (eqU x u)
 | _,_,.nil,_=>λu hu=>by cases hu
 | y::xs,u::us,.cons r t,f=>λc hu=>by
  rw[all_cons,Bool.and_eq_true]at f
  rcases mem_cons.mp hu with rfl | hu
  .rw[xT r f.1];exact CG r a f.1 b
  .exact fT a b t f.2 c hu
def inV(x:V)(xs:List V):Bool:=xs.any λy=>eqV y x
inductive rIn(K:Frag)(neg:Bool)(x y:V)(H:Hp)(Q:VK):Prop
 | mk(p:Addr)(xs:List V)(h0:y=.ref p)(h1:SqL K H p xs\/SqT K H p xs)(h2:ip x=true)(h3:xs.all ip=true)(h4:Q (.bl (if neg then !inV x xs else inV x xs)) H):rIn K neg x y H Q
theorem vw:OpR X (compareOp .In) (rIn X.K false):=by
 intro g s l H x y v u Q I f j h;obtain⟨p,m,rfl,hq,e,b,q⟩:=h;cases j
 rcases hq with hq | hq
 .obtain⟨a,r,d,i⟩:=I.list hq
  refine SeqAt.in_listAt (eqU x) d.isList (λw c=>fT f e r b w (by simpa using c)) ⟨.bl _,H,I,rfl,?_⟩;rw[show a.toArray.any (eqU x)=a.any (eqU x) by simp,iU r b];exact q
 .obtain⟨a,r,d,i⟩:=I.tuple hq
  refine SeqAt.in_tupleAt (eqU x) d (λw c=>fT f e r b w (by simpa using c)) ⟨.bl _,H,I,rfl,?_⟩;rw[show a.toArray.any (eqU x)=a.any (eqU x) by simp,iU r b];exact q
theorem oF:OpR X (compareOp .NotIn) (rIn X.K true):=by
 intro g s l H x y v u Q I f j h;obtain⟨p,m,rfl,hq,e,b,q⟩:=h;cases j
 rcases hq with hq | hq
 .obtain⟨a,r,d,i⟩:=I.list hq
  refine SeqAt.notIn_listAt (eqU x) d.isList (λw c=>fT f e r b w (by simpa using c)) ⟨.bl _,H,I,rfl,?_⟩;rw[show a.toArray.any (eqU x)=a.any (eqU x) by simp,iU r b];exact q
 .obtain⟨a,r,d,i⟩:=I.tuple hq
  refine SeqAt.notIn_tupleAt (eqU x) d (λw c=>fT f e r b w (by simpa using c)) ⟨.bl _,H,I,rfl,?_⟩;rw[show a.toArray.any (eqU x)=a.any (eqU x) by simp,iU r b];exact q
theorem oB:CallR X (.builtin "len") (λxs H Q=>∃ p ys,xs=[.ref p]/\(SqL X.K H p ys\/SqT X.K H p ys)/\Q (.int ys.length) H):=by
 intro e s j H xs i Q I r h;obtain⟨p,ys,rfl,hq,q⟩:=h;obtain⟨u,rfl,g⟩:=dL r;cases g;have l:=iA
 rcases hq with hq | hq
 .obtain⟨c,d,b,f⟩:=I.list hq
  have a:=d.length;exact Calls.call_len_list b.isList (by simp only[size_toArray] <;> lia) ⟨.int ys.length,H,I.tok _,⟨s.toks+1,by rw[size_toArray,a]⟩,q⟩
 .obtain⟨c,d,b,f⟩:=I.tuple hq
  have a:=d.length;exact len_tuple b (by simp only[size_toArray] <;> lia) ⟨.int ys.length,H,I.tok _,⟨s.toks+1,by rw[size_toArray,a]⟩,q⟩
theorem call_len_str:CallR X (.builtin "len") (λxs H Q=>∃ z,xs=[.str z]/\z.length<=sizeLine/\Q (.int z.length) H):=by
 intro a s d H xs b Q I r h;obtain⟨z,rfl,c,q⟩:=h;obtain⟨u,rfl,t,rfl⟩:=dL r;have e:=iA;exact len_str (by lia) ⟨.int z.length,H,I.tok _,⟨_,rfl⟩,q⟩
theorem CallR.or{f:Value}{r e:List V->Hp->VK->Prop}(h:CallR X f r)(h':CallR X f e):CallR X f (λxs H Q=>r xs H Q\/e xs H Q):=by
 intro a s d H xs c Q I b q
 rcases q with q | q
 .exact h a s d H xs c Q I b q
 .exact h' a s d H xs c Q I b q
inductive rListOf(K:Frag)(xs:List V)(H:Hp)(Q:VK):Prop
 | mk(p:Addr)(ys:List V)(h0:xs=[.ref p])(h1:SqL K H p ys\/SqT K H p ys)(h2:∀ l,H l=none->Q (.ref l) (upd H l (.lst ys))):rListOf K xs H Q
theorem pi:CallR X (.type "list") (rListOf X.K):=by
 intro m s C H E D Q I r h;obtain⟨p,y,rfl,hq,q⟩:=h;obtain⟨u,rfl,B⟩:=dL r;cases B
 have l:∀(a:List Value),Vals y a->y.length<=sizeLine->∀(c:Heap) (d:Nat),(∀ b o',s.heap.get? b=some o'->c.get? b=some o') ->
   c.get? s.heap.objs.size=some { cls:=.type "list",dict:=none,data:=.seq a.toArray d,slots:=#[] }->EP X m C Q (.ref s.heap.objs.size) { s with heap:=c }:=λa f i c d j e =>
  ⟨.ref s.heap.objs.size,_,I.laid (t':=s.toks) j (Nat.le_refl _) (show ObjOk X.prog X.w _ c _ (.lst y) from⟨i,a,d,f,e⟩),rfl,q _ (I.hok.fresh (Nat.le_refl _))⟩
 rcases hq with hq | hq
 .obtain⟨a,f,A,i⟩:=I.list hq
  have g:=f.length;obtain⟨o,v,w,n,x⟩:=A.isList;exact call_list_seq p (.inl rfl) v w x (λc d j e=>l a f i c d j e) (by simp only[size_toArray] <;> lia)
 .obtain⟨a,f,A,i⟩:=I.tuple hq
  have g:=f.length;obtain⟨o,v,w,n,x⟩:=A;exact call_list_seq p (.inr rfl) v w x (λc d j e=>l a f i c d j e) (by simp only[size_toArray] <;> lia)
theorem mF:CallR X (.type "tuple") (λxs H Q=>∃ p ys,xs=[.ref p]/\((SqL X.K H p ys/\∀ l,H l=none->Q (.ref l) (upd H l (.tup ys)))\/(SqT X.K H p ys/\Q (.ref p) H))):=by
 intro a s v H xs B Q I r h;obtain⟨p,ys,rfl,h⟩:=h;obtain⟨u,rfl,x⟩:=dL r;cases x
 rcases h with⟨g,q⟩ | ⟨g,q⟩
 .obtain⟨c,i,f,m⟩:=I.list g
  have j:=i.length;refine call_tuple_list f.isList (λd y=>?_) (by simp only[size_toArray] <;> lia);have w:Inv X a v H { s with heap:=d }:=I.kept (t':=s.toks) y
  have A:Inv X a v (upd H d.objs.size (.tup ys)) { s with heap:=d.push { cls:=.type "tuple",data:=.seq c.toArray } } :=
   w.laid (t':=s.toks) (λb o e=>Heap.get?_push_of_some _ e) (Nat.le_refl _) (show ObjOk X.prog X.w _ _ _ (.tup ys) from⟨m,c,i,IsTup.new _ _⟩)
  exact⟨.ref d.objs.size,_,A,rfl,q _ (w.hok.fresh (Nat.le_refl _))⟩
 .obtain⟨c,i,f,m⟩:=I.tuple g
  exact call_tuple_same f ⟨.ref p,H,I,rfl,q⟩
def tyV(K:Frag)(T:String)(x:V)(H:Hp):Prop:=match x with
 | .str _=>T = "str"
 | .int _=>T = "int"
 | .ref p=>(T = "list" /\ ∃ xs,SqL K H p xs)\/(T = "tuple" /\ ∃ o,K.lookup p=some o/\o.cls=.type "tuple" /\ o.dict=none) \/
   (T = "dict" /\ ((∃ kvs,H p=some (.dK kvs))\/∃ kvs,H p=some (.dT kvs)))\/(T = "set" /\ ∃ S n,H p=some (.set S n))
 | _=>False
theorem xX{f:List (Addr×Obj)}{m:St}{H:Hp}{s:Shared}{T:String}{x:V}{v:Value}(I:Inv X f m H s)(r:RelV x v)(ty:tyV X.K T x H) :
  s.TypeIs v T/\∀ a,v=.ref a->∃ ob,s.heap.get? a=some ob/\ob.dict=none:=by
 cases x with
 | str z =>
  obtain⟨t,rfl⟩:=r;cases(show T = "str" from ty);exact⟨typeIs_str s z t,λ_ e=>nomatch e⟩
 | int i =>
  obtain⟨t,rfl⟩:=r;cases(show T = "int" from ty);exact⟨typeIs_int s i t,λ_ e=>nomatch e⟩
 | ref p =>
  cases r
  rcases ty with⟨rfl,A,y⟩ | ⟨rfl,o,b,u,g⟩ | ⟨rfl,b⟩ | ⟨rfl,S,n,b⟩
  .obtain⟨w,_,l,_⟩:=I.list y
   refine⟨l.isList.typeIs,λa e=>?_⟩;cases e;obtain⟨o,n,e,c,g,_⟩:=l;exact⟨o,e,g⟩
  .refine⟨⟨o,I.kIn p o b,u⟩,λa e=>?_⟩
   cases e;exact⟨o,I.kIn _ o b,g⟩
  .have z:∃ o,s.heap.get? p=some o/\o.ExactDict:=by
    rcases b with⟨j,b⟩ | ⟨j,b⟩
    .obtain⟨_,_,_,_,o,_,_,e,d,_⟩:=I.hok p _ b
     exact⟨o,e,d⟩
    .obtain⟨_,_,_,_,o,_,_,e,d,_⟩:=I.hok p _ b
     exact⟨o,e,d⟩
   obtain⟨o,e,d⟩:=z;refine⟨⟨o,e,d.1⟩,λa h=>?_⟩;cases h;exact⟨o,e,d.2.1⟩
  .obtain⟨o,_,_,_,e,d,_⟩:=I.hok p _ b
   refine⟨⟨o,e,d.1⟩,λa h=>?_⟩;cases h;exact⟨o,e,d.2.1⟩
 | _=>exact False.elim ty
def Dk(K:Frag)(T:String)(r:V->List V->Hp->VK->Prop)(to:TE):TE:=λσ H Q=>to σ H λx H1=>tyV K T x H1/\r x [] H1 Q
def tBM(K:Frag)(T:String)(r:V->List V->Hp->VK->Prop)(to:TE)(t:TA):TE:=λσ H Q=>to σ H λx H1=>tyV K T x H1/\t σ H1 λxs H2=>r x xs H2 Q
variable {o e:Expr}{es:List Expr}{to:TE}{t:TA}{name:Str}{apos cpos:Pos}{T id:String}{r:V->List V->Hp->VK->Prop}
theorem B9(p:PlainAttrs T)(d:Slot T name id)(e:typeOf (.builtin id)=pure (.type "method_descriptor"))(u:MtR X id r)(l:PE X o to)
  (c:attributeBase o name X.env (eval o X.env)=eval o X.env:=by rfl) (b:(apos.endLine == cpos.line)=true:=by rfl):PE X (.Call (.Attribute o name apos) [] [] cpos) (Dk X.K T r to):=by
 intro a s g H Q I h;refine wpAny_Call_method0_late c b (thn (l a s g H _ I h) λv y ⟨x,B,i,f,j,w⟩=>?_);obtain⟨A,m⟩:=xX i f j;exact⟨T,id,p,d,e,A,m,Calls.callWith_builtin rfl (PySem.evalArgs_none (u a y g B x [] v [] Q i f .nil w))⟩
theorem uM(N:PlainAttrs T)(g:Slot T name id)(j:typeOf (.builtin id)=pure (.type "method_descriptor"))(J:MtR X id r)(F:PE X o to)(C:PA X (e::es) t)
  (c:attributeBase o name X.env (eval o X.env)=eval o X.env:=by rfl)
  (f:((backTo cpos (starEach (e::es) X.env)).all (λx=>!x.1) && (backToKw cpos (keywordEach [] X.env)).all (λx=>x.1.isSome)
   && decide ((e::es).length+([]:List Keyword).length+(if ([]:List Keyword).isEmpty then 0 else 1)<30))=true:=by rfl)
  (d:(apos.endLine == cpos.line)=true:=by rfl) (M:starEach (e::es) X.env=(false,eval e X.env)::starEach es X.env:=by rfl) (b:(backTo cpos (starEach es X.env)).any (·.1)=false:=by rfl) :
  PE X (.Call (.Attribute o name apos) (e::es) [] cpos) (tBM X.K T r to t):=by
 intro a s i H Q I h;refine wpAny_Call_method_late c f d rfl (thn (F a s i H _ I h) λv y ⟨x,R,l,p,u,D⟩=>?_);obtain⟨E,L⟩:=xX l p u;refine⟨T,id,N,g,j,E,L,?_⟩;have m:=C cpos a y i R _ l D;rw[M]at m ⊢;refine Calls.callWith_builtin (by show(false || (backTo cpos (starEach es X.env)).any (·.1))=false;rw[b] <;> rfl) (Calls.evalArgs_plain ?_);exact thn m λG B ⟨O,A,P,K,w⟩=>J a B i A x O v G Q P p K w
end
def MtM(X:Cx)(id:String)(r:V->List V->Hp->VK->Prop):Prop :=
 ∀(pins:List (Addr×Obj)) (s:Shared) (σ:St) (H:Hp) (x:V) (xs:List V) (v:Value) (us:List Value) (Q:VK),Inv X pins σ H s->RelV x v->Vals xs us->r x xs H Q ->
  wpAny (model X.prog X.w) X.A (call (.builtin id) (v::us)) (EP X pins σ Q) X.xe s
theorem Vals.one:∀{x:V}{us:List Value},Vals [x] us->∃ u,us=[u]/\RelV x u
 | _,_,.cons r .nil=>⟨_,rfl,r⟩
section
variable {X:Cx}{pins:List (Addr×Obj)}{σ:St}{H:Hp}{s:Shared}{l b:Addr}{xs ys zs:List V}
theorem Inv.lset{its its':List Value}{n:Nat}{f:Array Value->Array Value}{t':Nat}(I:Inv X pins σ H s)(c:H l=some (.lst xs))
  (e:s.heap.get? l=some { cls:=.type "list",data:=.seq its.toArray n }) (g:f its.toArray=its'.toArray) (d:Vals ys its') (hz:ys.length<=sizeLine) :
  Inv X pins σ (upd H l (.lst ys)) { s with heap:=s.heap.update l (Obj.mapSeq f),toks:=t' }:=by
 have q:=PySem.IsL.update e f;rw[g]at q;refine I.write (x:=l) (e:=l) (by rw[c];exact trivial) (.inl rfl) (λh u a b=>(Heap.get?_update_other s.heap (Obj.mapSeq f) (Ne.symm a)).trans b) ⟨_,q⟩ ?_;exact⟨hz,its',_,d,q⟩
theorem Inv.lnew{its:List Value}{t':Nat}(I:Inv X pins σ H s)(a:Vals ys its)(hz:ys.length<=sizeLine) :
  Inv X pins σ (upd H s.heap.objs.size (.lst ys)) { s with heap:=s.heap.push { cls:=.type "list",data:=.seq its.toArray },toks:=t' } :=
 I.laid (λ_ _ q=>Heap.get?_push_of_some _ q) (Nat.le_refl _) ⟨hz,its,0,a,Heap.get?_push_size _ rfl⟩
theorem Inv.fresh(I:Inv X pins σ H s):H s.heap.objs.size=none:=I.hok.fresh (Nat.le_refl _)
theorem Inv.lstM(I:Inv X pins σ H s)(a:H l=some (.lst xs)):xs.length<=sizeLine/\∃(its:List Value) (n:Nat),Vals xs its/\xs.length=its.length/\s.heap.get? l=some { cls:=.type "list",data:=.seq its.toArray n }:=by
 obtain⟨z,its,n,r,e⟩:=I.hok l _ a;exact⟨z,its,n,r,r.length,e⟩
theorem w5{n:Nat}(h:n<=sizeLine):Builtin.List.listTooLong n=false:=by
 unfold Builtin.List.listTooLong;exact decide_eq_false (by lia)
end
section
variable {X:Cx}
inductive rAppend(x:V)(vs:List V)(H:Hp)(Q:VK):Prop
 | mk(l:Addr)(xs:List V)(y:V)(h0:x=.ref l)(h1:vs=[y])(h2:H l=some (.lst xs))(h3:xs.length<sizeLine)(h4:Q .non (upd H l (.lst (xs++[y])))):rAppend x vs H Q
theorem nW:MtM X "list.append" rAppend:=by
 intro c s w H x o v i Q I d f h;obtain⟨l,p,y,rfl,rfl,b,j,q⟩:=h;cases d;obtain⟨u,rfl,g⟩:=f.one;obtain⟨z,a,n,r,m,e⟩:=I.lstM b;refine call_meets F.slot_list_append ⟨_,e,rfl⟩ F.entry_list_append (F.args_list_append_2 _ _) (PySem.list_append l a.toArray n u (by rw[size_toArray];lia)) ⟨e,?_⟩;refine⟨.non,_,I.lset (its':=a++[u]) b e (by simp) (r.append (.cons g .nil)) ?_,rfl,q⟩;rw[length_append,List.length_singleton];lia
def uq:V->List V->Hp->VK->Prop:=λx vs H Q=>∃ l b xs zs,x=.ref l/\vs=[.ref b]/\H l=some (.lst xs)/\H b=some (.lst zs)/\xs.length+zs.length<=sizeLine/\Q .non (upd H l (.lst (xs++zs)))
theorem vR:MtM X "list.extend" uq:=by
 intro i s C H x M v G Q I o m h;obtain⟨l,b,J,D,rfl,rfl,g,B,E,q⟩:=h;cases o;obtain⟨u,rfl,w⟩:=m.one;cases w;obtain⟨z,c,n,r,L,e⟩:=I.lstM g;obtain⟨K,a,y,p,j,A⟩:=I.lstM B;have f:c.toArray.size+a.toArray.size<=sizeLine:=by rw[size_toArray,size_toArray];lia
 have d:¬(!c.toArray.isEmpty && Builtin.List.listTooLong (c.toArray.size+a.toArray.size))=true:=by
  rw[w5 f,Bool.and_false];exact Bool.false_ne_true
 refine call_meets F.slot_list_extend ⟨_,e,rfl⟩ F.entry_list_extend (F.args_list_extend_2 _ _)
  (AutoSeq1.list_extend_list_list_0 l c.toArray n b a.toArray y d (by rw[size_toArray];lia) (by lia)) ⟨e,A,?_⟩
 refine⟨.non,_,I.lset (its':=c++a) g e (by simp) (r.append p) ?_,rfl,q⟩;rw[length_append];lia
inductive rCat(x y:V)(H:Hp)(Q:VK):Prop
 | mk(l b:Addr)(xs zs:List V)(h0:x=.ref l)(h1:y=.ref b)(h2:H l=some (.lst xs))(h3:H b=some (.lst zs))(h4:xs.length+zs.length<=sizeLine)(h5:∀ p,H p=none->Q (.ref p) (upd H p (.lst (xs++zs)))):rCat x y H Q
theorem rM:OpR X (binaryOp .Add) rCat:=by
 intro d s F H x y v u Q I g w h;obtain⟨l,b,D,A,rfl,rfl,m,j,B,q⟩:=h;cases g;cases w;obtain⟨z,c,n,r,C,e⟩:=I.lstM m;obtain⟨G,a,E,o,f,i⟩:=I.lstM j;refine PySem.P.add_list e i ?_ (by rw[size_toArray,size_toArray];lia);have p:c.toArray++a.toArray=(c++a).toArray:=by simp
 rw[p];exact⟨.ref _,_,I.lnew (t':=s.toks) (r.append o) (by rw[length_append];lia),rfl,q _ I.fresh⟩
end
section
variable {prog:Program}{w:World}{A:Around}{E:Value->Shared->Prop}{s:Shared}
set_option maxRecDepth 100000 in
end
section
variable {X:Cx}
end
end L2
namespace Att
open PySem PySem.W PySem.Calls PyProof.Rows
theorem ko{P:Params}{h:Heap}:∀(ns:List Int) (vs:List Value),WellAll P h vs (ns.map WData.int)->IntsAre vs ns:=by
 intro ns
 induction ns with
 | nil =>
  intro vs w;rw[map_nil]at w;cases w;exact .nil
 | cons n ns ih =>
  intro vs w;rw[map_cons]at w;cases w with
  | cons a b =>
   cases a;exact .cons _ _ (ih _ b)
theorem vC{l:OpenLaw}{n:Nat}(v:l.most=some n){P:Params}{h:Heap}{args:List WData}{c:List Value}
  (b:l.row.toRowW.claim.pre args=true) (i:WellAll P h c args) :
  ∃ a vs ns,c=[Value.ref a]/\args=[WData.list (ns.map WData.int)]/\h.get? a=some { cls:=.type "list",data:=.seq vs.toArray }/\IntsAre vs ns/\ns.length<=n:=by
 have j:WShape.hasAll [] args [.list .int]=true:=(pre_splitW b).1;have m:l.pre.holds [] { args:=args }=true:=(pre_splitW b).2;obtain⟨d,r,rfl,u,p⟩:=hasAllW_cons j;obtain rfl:=hasAllW_nil p;obtain⟨w,rfl,s⟩:=hasW_list u;obtain⟨ns,rfl⟩:=items_int s
 have e:ns.length<=n:=by
  unfold OpenLaw.pre at m
  have g:(WTm.not (.lt (.lit (.int (n:Int))) (.len (.arg 0)))).holds [] { args:=[.list (ns.map .int)] }=true:=by
   have g:=(holds_andW m).1;rw[v]at g;exact g
  have f:=condW_of g (w_not (w_lt w_lit (w_len_list (w_arg rfl))));rw[length_map]at f;refine Nat.le_of_not_lt λq=>?_
  have o:(n:Int)<((ns.length:Nat):Int):=by lia
  first
   | (rw[decide_eq_true o]at f;exact absurd f (by decide))
   | (simp at f;lia)
 cases i with
 | cons w1 w2 =>
  cases w2;cases w1 with
  | list ho hall=>exact⟨_,_,ns,rfl,rfl,ho,ko ns _ hall,e⟩
theorem vP(l:OpenLaw)(args:List WData):l.row.toRowW.claim.post args (.bool true) args=true :=
 postW_of (r:=l.row.toRowW) (X:=(true == true))
  (show WShape.has [] (.bool true) .bool=true by first | rfl | decide | simp[WShape.has,WShape.arms,WShape.armsAll])
  (show(WTm.eq .res (.lit (.bool true))).value [] { args:=args,res:=some (.bool true),after:=args }=some (.bool (true == true)) from w_eq_bool (w_res rfl) w_lit) rfl
theorem attach_call{l:OpenLaw}{n:Nat}{q:Program}{b:List Str}{A:(Str->Option Value)->Heap->Prop}{v:World->Heap->Prop}{d:DefRec}
  (F:l.most=some n) (s:d.params.defaults=[])
  (e:∀(w:World) (s₀ s₁:Shared) (mg mb:Str->Option Value) (fa:Addr) (o:Obj) (pm cd doc:Value) (a:Addr) (vs:List Value) (ns:List Int),
   Ground q b [] A w s₀ mg mb s₁.heap->v w s₁.heap ->
   s₁.heap.get? fa=some o->o.data=.func (docDef d.name d.params d.body d.scope pm cd doc)->s₁.heap.CodeRec cd d.name->mg d.name=some (.ref fa) ->
   s₁.heap.get? a=some { cls:=.type "list",data:=.seq vs.toArray }->IntsAre vs ns->ns.length<=n->s₁.gens = #[] ->
   codeAny (model l.prog w) callerA (.call (.ref fa) ⟨[.ref a],[]⟩) (λr s'=>r=.ok (.ret (.bool true))/\OldK s₁.heap s'.heap/\s'.os=s₁.os/\AllBare s'.gens) s₁) :
  WalkO q b A v l.row.toRowW d [] (λf vs=>PySem.call f vs):=by
 intro w s₀ s₁ mg mb G Y fa o pm cd doc O C K I j x p D B y P h u M m H;obtain rfl:O=.none:=Dflts.none x s;obtain rfl:C=.none:=Dflts.noKw x;obtain⟨a,vs,ns,rfl,rfl,i,c,g⟩:=vC F h m;refine enter_call (codeAny_mono (e w s₀ s₁ mg mb fa o pm cd doc a vs ns G Y K (fd_plain I) j p i c g D) λr s' E=>?_);obtain⟨rfl,N,J,L⟩:=E;exact⟨.inl ⟨.bool true,.bool true,[],rfl,λ_=>rfl,.bool true,vP l _,λ_=>⟨List.Pairwise.nil,λ_ hm=>(nomatch hm)⟩⟩,N,J,L⟩
section
variable {prog:Program}{w:World}{A:Around}{E:Value->Shared->Prop}{s:Shared}{K:Frag}
end
end Att
namespace L2
open PySem PySem.Spec PyProof.Rows
theorem nq:∀{vs:List Value}{ns:List Int},IntsAre vs ns->Vals (ns.map V.int) vs
 | _,_,.nil=>.nil
 | _,_,.cons n t h=>.cons ⟨t,rfl⟩ (nq h)
abbrev KOf{K:Frag}{h:Heap}(_:K.In h):Frag:=K
def aV(s:Stmt)(j:Nat):Stmt:=match s with
 | .ClassDef _ _ _ body _ _ _ _ _ _ _=>body.getD j (.Pass ⟨0,0,0,0⟩)
 | _=>.Pass ⟨0,0,0,0⟩
def i3(s:Stmt):Arguments:=match s with
 | .FunctionDef _ a _ _ _ _ _ _ _ _=>a
 | _=>{ posonlyargs:=[],args:=[],vararg:=none,kwonlyargs:=[],kw_defaults:=[],kwarg:=none,defaults:=[] }
def cG(s:Stmt):List Stmt:=match s with
 | .FunctionDef _ _ b _ _ _ _ _ _ _=>b
 | _=>[]
def ah(s:Stmt):Scope:=match s with
 | .FunctionDef _ _ _ _ _ _ sc _ _ _=>sc
 | _=>{ kind:=.function,names:=[],isGenerator:=false,isCoroutine:=false }
abbrev CX0:CXT:=λ_ _ _ _ _ _=>False
abbrev E0:XK:=λ_ _ _=>False
theorem aA{X:Cx}:jR CX0 X E0:=λ_ _ _ _ _ _ _ h=>h.elim
structure Fun(K:Frag)(x qual:Str)(st:Stmt)(f:Addr)(fd:FuncData):Prop where
 ex:∃(oc:Value) (od:Option Addr) (kV doc pm:Value) (an:Option Addr) (cdv ct:Value) (osl:Array (Option Value)),
  fd=fnOf x qual (i3 st) (cG st) (ah st) .none kV doc pm an cdv ct/\K.lookup f=some ⟨oc,od,.func fd,osl⟩/\codeIn K cdv qual=true
 kp:keepIn K (.ref f)=true
section
variable {P:Program}{w:World}{K:Frag}{mg:Str->Option Value}{base:Heap}
theorem Fun.ok{x a:Str}{st:Stmt}{f:Addr}{i:FuncData}{N c:List Str}{k:Nat}{sp:Sp}(F:Fun K x a st f i)(S:FnScope N c (ah st))(d:∀ vs H Q E,sp vs H Q E->vs.length=c.length)
  (b:∀(cdv:Value) (A:Around) (outer:List Env) (s:Shared) (H:Hp) (vs:List V) (Q:VK) (E:XK),Room k (A.deeper (envOfC a (ah st) s.heap.objs.size f cdv))->sp vs H Q E ->
   ∃ t,PSs (dw CX0 P w K mg base N a (ah st) f cdv A outer s H E).nox (cG st) t/\t { nx:=λ_ H'=>Q .non H',rt:=Q } (start N vs) H):FnOk P w K mg base CX0 (k+1) f i c sp:=by
 obtain⟨v,B,p,j,u,y,cdv,r,l,rfl,o,e⟩:=F.ex;refine Df o e S d λA outer s H vs Q E m g=>?_
 obtain⟨t,h,q⟩:=b cdv A outer s H vs Q E m g;exact⟨t,h.nox,q⟩
theorem Fun.binds{x a:Str}{st:Stmt}{f:Addr}{c:FuncData}{b:List Str}(F:Fun K x a st f c)
  (h:∀(kV doc pm:Value) (an:Option Addr) (cdv ct:Value) (us:List Value),us.length=b.length->bindArgs (fnOf x a (i3 st) (cG st) (ah st) .none kV doc pm an cdv ct) ⟨us,[]⟩=pure (b.zip us)):Binds K c b []:=by
 obtain⟨i,g,kV,doc,pm,an,cdv,ct,d,rfl,j,e⟩:=F.ex;exact .all (h kV doc pm an cdv ct)
theorem oP{x a:Str}{st:Stmt}{f:Addr}{o:Value}{m j:Option Addr}{e:Array (Option Value)}{g d i b h:Value}(l:K.lookup f=some ⟨o,m,.func (fnOf x a (i3 st) (cG st) (ah st) .none g d i j b h),e⟩)
  (c:codeIn K b a=true) (k:keepIn K (.ref f)=true):Fun K x a st f (fnOf x a (i3 st) (cG st) (ah st) .none g d i j b h):=⟨⟨o,m,g,d,i,j,b,h,e,rfl,l,c⟩,k⟩
end
theorem nR{A:Around}{k:Nat}(a:Room k A):A.units+1<cLine:=Nat.lt_of_le_of_lt (Nat.add_le_add_left (by decide:1<=64) _) a.units
section
variable {X:Cx}
end
theorem Fg{c A B:Prop}[Decidable c](a:c->A)(b:¬c->B):if c then A else B:=by
 by_cases h:c
 .rw[if_pos h]
  exact a h
 .rw[if_neg h]
  exact b h
def Same(H H':Hp):Prop:=∀ b o,H b=some o->H' b=some o
theorem Same.refl(H:Hp):Same H H:=λ_ _ h=>h
theorem Same.trans{H e d:Hp}(a:Same H e)(b:Same e d):Same H d:=λc o h=>b c o (a c o h)
theorem Same.free{H a:Hp}(e:Same H a){l:Addr}(h:a l=Option.none):H l=Option.none:=by
 cases q:H l with
 | none=>rfl
 | some o =>
  rw[e l o q]at h;cases h
theorem Same.seq{K:Frag}{H b:Hp}{a:Addr}{xs:List V}(e:Same H b)(h:SqL K H a xs):SqL K b a xs:=by
 rcases h with(h | ⟨o,h⟩) | h
 .exact .inl (.inl (e _ _ h))
 .exact .inl (.inr ⟨o,e _ _ h⟩)
 .exact .inr h
end L2
set_option maxHeartbeats 4000000
namespace L2
open PySem PySem.Spec PyProof.Rows
def Its(x:Str):It:=⟨λi _=>i<x.cps.size,λi H y H'=>H'=H/\∃ c,x.cps[i]? = some c/\y=.str ⟨#[c]⟩,λi _=>x.cps.size<=i⟩
theorem pV{P:Program}{w:World}{K:Frag}{tg:Expr}(x:Str)(u:Addr){ty:String}{t:Tok}(p:ty = "str_ascii_iterator" \/ ty = "str_iterator") :
  Turn P w K tg (Its x) [u] u (λi h=>h.IsStrIter u ty x t i) where
 mem:=by simp
 obj:=λi h f b a=>by
  have e:b=u:=by simpa using a
  subst e;obtain⟨o,e,c,d⟩:=f;exact⟨o,e,λv z=>by rw[d]at z;cases z⟩
 keep:=λi h l f k=>by
  obtain⟨o,e,r⟩:=f;exact⟨o,k u (by simp) o e,r⟩
 item:=by
  intro X S M G Q i g s L H E I F f J;subst S M G;have m:i<x.cps.size:=J;obtain⟨A,D,T,y,B,C⟩:=F u (by simp)
  rcases p with rfl | rfl
  .refine wpAny_pyNext_ascii_item f (c:=x.cps[i]) (by simp[m]) λl j R=>?_
   have N:Inv X g L H { s with heap:=l,toks:=s.toks+1 }:=I.turned (λb o a e=>(R.2 b a).trans e) A D y B C;obtain⟨o,e,c,d⟩:=id j;exact⟨_,rfl,rj (s:={ s with heap:=l,toks:=s.toks+1 }) e c d (by decide) ⟨.str ⟨#[x.cps[i]]⟩,H,N,⟨_,rfl⟩,⟨rfl,x.cps[i],by simp[m],rfl⟩,j,λb a=>(F b a).1⟩⟩
  .refine wpAny_pyNext_wide_item f (c:=x.cps[i]) (by simp[m]) λl j R=>?_
   have N:Inv X g L H { s with heap:=l,toks:=s.toks+1 }:=I.turned (λb o a e=>(R.2 b a).trans e) A D y B C;obtain⟨o,e,c,d⟩:=id j;exact⟨_,rfl,rj (s:={ s with heap:=l,toks:=s.toks+1 }) e c d (by decide) ⟨.str ⟨#[x.cps[i]]⟩,H,N,⟨_,rfl⟩,⟨rfl,x.cps[i],by simp[m],rfl⟩,j,λb a=>(F b a).1⟩⟩
 done:=by
  intro X S M G Q i g s L H E I F f J;subst S M G;have m:x.cps.size<=i:=J;obtain⟨A,D,T,y,B,C⟩:=F u (by simp)
  rcases p with rfl | rfl
  .exact wpAny_pyNext_ascii_end (I.ok.hd Q) f (by simp[m]) λl O=>⟨rfl,I.turned (t':=s.toks) (λb o a e=>O b o a e) A D y B C⟩
  .exact wpAny_pyNext_wide_end (I.ok.hd Q) f (by simp[m]) λl O=>⟨rfl,I.turned (t':=s.toks) (λb o a e=>O b o a e) A D y B C⟩
 self:=λ_ _ _ _ _ f h=>by
  rcases p with rfl | rfl
  .exact wpAny_pyIter_striter_ascii f h
  .exact wpAny_pyIter_striter_wide f h
def EG(tl:TE):TI:=λσ H R=>tl σ H λx H1=>∃ z,x=.str z/\R (Its z) H1
theorem BE{X:Cx}{tg l:Expr}{tl:TE}(g:PE X l tl):PI X tg l (EG tl):=by
 intro a s j H R I h;refine thn (g a s j H _ I h) λv c ⟨x,m,d,i,f⟩=>?_
 obtain⟨z,e,q⟩:=f;subst e;obtain⟨t,rfl⟩:=i;refine wpAny_pyIter_strU ?_;refine⟨c.heap.objs.size,[c.heap.objs.size],_,_,m,rfl,d.kept (t':=c.toks) λb o e=>Heap.get?_push_of_some _ e,pV (ty:=strIterType z) (t:=t) z _ ?_,⟨_,Heap.get?_push_size _ rfl,rfl,rfl⟩,λb hb=>?_,q⟩
 .unfold strIterType
  split
  .exact .inl rfl
  .exact .inr rfl
 .have e:b=c.heap.objs.size:=by simpa using hb
  subst e;exact d.fpOk (Nat.le_refl _) (d.hok.fresh (Nat.le_refl _))
def Wk:St->St->Prop
 | [],[]=>True
 | Option.none::r,_::q=>Wk r q
 | some a::r,b::q=>b=some a/\Wk r q
 | _,_=>False
theorem Wk.len:∀{a b:St},Wk a b->a.length=b.length
 | [],[],_=>rfl
 | Option.none::r,_::q,h=>congrArg (· + 1) (Wk.len (a:=r) (b:=q) h)
 | some _::r,_::q,h=>congrArg (· + 1) (Wk.len (a:=r) (b:=q) h.2)
 | [],_::_,h=>h.elim
 | Option.none::_,[],h=>h.elim
 | some _::_,[],h=>h.elim
theorem Wk.get:∀{a b:St},Wk a b->∀(i:Nat) v,a[i]? = some (some v)->b[i]? = some (some v)
 | [],[],_,i,v,e=>by simp at e
 | Option.none::r,y::q,h,0,v,e=>by simp at e
 | Option.none::r,y::q,h,i+1,v,e=>by simpa using Wk.get (a:=r) (b:=q) h i v (by simpa using e)
 | some x::r,y::q,h,0,v,e=>by
  have c:x=v:=by simpa using e
  rw[h.1,c] <;> simp
 | some x::r,y::q,h,i+1,v,e=>by simpa using Wk.get (a:=r) (b:=q) h.2 i v (by simpa using e)
 | [],_::_,h,_,_,_=>h.elim
 | Option.none::_,[],h,_,_,_=>h.elim
 | some _::_,[],h,_,_,_=>h.elim
def du(cells:List (Str×Addr)):List (Str×NameKind)->List (Str×Addr)->List (Str×Addr)
 | [],acc=>acc
 | (n,k)::r,acc=>if k == .free then du cells r ((n,(cells.lookup n).getD 0)::acc) else du cells r acc
theorem ft{d:Scope}{env:Env}(h:∀ y∈d.names,y.2=.free->∃ c,env.cells.lookup y.1=some c):closureFor d env=pure (du env.cells d.names []):=by
 unfold closureFor
 have f:∀(l:List (Str×NameKind)) (b:List (Str×Addr)),(∀ y∈l,y.2=.free->∃ c,env.cells.lookup y.1=some c) ->
   (forIn l b λx r=>match x with | (name,kind)=>if (kind == .free)=true then do let a <- cellOf env name;pure (ForInStep.yield ((name,a)::r)) else pure (ForInStep.yield r):Sem (List (Str×Addr)))=pure (du env.cells l b):=by
  intro l
  induction l with
  | nil=>intro b _;rfl
  | cons y r ih =>
   intro b i;obtain⟨n,k⟩:=y;have j:∀ y∈r,y.2=.free->∃ c,env.cells.lookup y.1=some c:=λy o=>i y (mem_cons_of_mem _ o)
   rw[List.forIn_cons]
   by_cases hk:k=.free
   .subst hk
    obtain⟨c,m⟩:=i (n,.free) mem_cons_self rfl;have p:cellOf env n=pure c:=by unfold cellOf;rw[m]
    have e:du env.cells ((n,.free)::r) b=du env.cells r ((n,c)::b):=by
     show(if (NameKind.free == NameKind.free)=true then du env.cells r ((n,(env.cells.lookup n).getD 0)::b) else du env.cells r b)=_;rw[if_pos (by decide),m];rfl
    rw[e,<- ih ((n,c)::b) j];show(do let x <- (if (NameKind.free == NameKind.free)=true then do let a <- cellOf env n;pure (ForInStep.yield ((n,a)::b)) else pure (ForInStep.yield b):Sem _);_)=_;rw[if_pos (by decide),p];rfl
   .have g:(k == NameKind.free)=false:=by simpa using hk
    have e:du env.cells ((n,k)::r) b=du env.cells r b:=by
     show(if (k == NameKind.free)=true then du env.cells r ((n,(env.cells.lookup n).getD 0)::b) else du env.cells r b)=_;rw[g];rfl
    rw[e,<- ih b j];show(do let x <- (if (k == NameKind.free)=true then do let a <- cellOf env n;pure (ForInStep.yield ((n,a)::b)) else pure (ForInStep.yield b):Sem _);_)=_;rw[g];rfl
 have:=f d.names [] h
 first | exact this | (rw[this];rfl) | simpa using this
theorem dF{a:List (Str×Addr)}:∀{l:List (Str×NameKind)}{acc:List (Str×Addr)}{n:Str}{c:Addr},(∀ y∈l,y.2=.free->∃ c,a.lookup y.1=some c)->(∀ n c,acc.lookup n=some c->a.lookup n=some c) ->
  (du a l acc).lookup n=some c->a.lookup n=some c
 | [],acc,n,c,_,ha,e=>ha n c e
 | (m,k)::r,acc,n,c,hl,ha,e=>by
  have h:∀ y∈r,y.2=.free->∃ c,a.lookup y.1=some c:=λy i=>hl y (mem_cons_of_mem _ i)
  have b:(if (k == NameKind.free)=true then du a r ((m,(a.lookup m).getD 0)::acc) else du a r acc).lookup n=some c:=e
  by_cases hk:(k == NameKind.free)=true
  .rw[if_pos hk]at b
   refine dF h (λn c z=>?_) b;obtain⟨d,j⟩:=hl (m,k) mem_cons_self (by simpa using hk);rw[lookup_cons]at z
   by_cases hn:(n == m)=true
   .rw[hn]at z
    have:n=m:=by simpa using hn
    subst this;have g:a.lookup n=some d:=j;rw[g]at z ⊢;simpa using z
   .have f:(n == m)=false:=by simpa using hn
    rw[f]at z;exact ha n c z
  .rw[if_neg hk]at b
   exact dF h ha b
theorem gU{b:List (Str×Addr)}:∀{l:List (Str×NameKind)}{acc:List (Str×Addr)}{n:Str},((n,NameKind.free)∈l\/∃ c,acc.lookup n=some c)->∃ c,(du b l acc).lookup n=some c
 | [],acc,n,h=>by
  rcases h with h | h
  .cases h
  .exact h
 | (m,k)::r,acc,n,h=>by
  show ∃ c,(if (k == NameKind.free)=true then du b r ((m,(b.lookup m).getD 0)::acc) else du b r acc).lookup n=some c
  have d:∀ a,n=m\/(∃ c,acc.lookup n=some c)->∃ c,((m,a)::acc).lookup n=some c:=λa z=>by
   rw[lookup_cons]
   by_cases hn:(n == m)=true
   .rw[hn];exact⟨_,rfl⟩
   .have f:(n == m)=false:=by simpa using hn
    rw[f]
    rcases z with z | z
    .exact absurd (by simpa using z) hn
    .exact z
  by_cases hk:(k == NameKind.free)=true
  .rw[if_pos hk]
   refine gU ?_
   rcases h with h | h
   .rcases mem_cons.mp h with e | h
    .exact .inr (d _ (.inl (congrArg Prod.fst e)))
    .exact .inl h
   .exact .inr (d _ (.inr h))
  .rw[if_neg hk]
   refine gU ?_
   rcases h with h | h
   .rcases mem_cons.mp h with e | h
    .have:k=.free:=(congrArg Prod.snd e).symm
     rw[this]at hk;exact absurd (by decide) hk
    .exact .inl h
   .exact .inr h
def rlb(env:Env)(p:Str×NameKind):Str×NameKind:=if (p.2 == NameKind.free && env.scope.kind == ScopeKind.function && env.kindOf p.1 == some NameKind.cell)=true then (p.1,NameKind.cell) else p
theorem mC(a:Scope)(env:Env):(relabel a env).names=a.names.map (rlb env):=rfl
theorem zC(env:Env)(p:Str×NameKind):(rlb env p).1=p.1:=by
 unfold rlb
 split <;> rfl
theorem yV{env:Env}{p:Str×NameKind}(h:p.2≠.cell)(h2:(rlb env p).2=.cell\/(rlb env p).2=.free):p.2=.free:=by
 unfold rlb at h2
 split at h2
 .rename_i q
  rw[Bool.and_eq_true,Bool.and_eq_true]at q;simpa using q.1.1
 .rcases h2 with h2 | h2
  .exact absurd h2 h
  .exact h2
theorem iq{env:Env}:∀{names:List (Str×NameKind)}{x:Str}{k:NameKind},(∀ y∈names,y.2≠.cell)->(k=.cell\/k=.free)->(names.map (rlb env)).lookup x=some k->(x,NameKind.free)∈names
 | [],x,k,_,_,e=>by simp at e
 | p::r,x,k,hc,hk,e=>by
  have d:∀ y∈r,y.2≠.cell:=λy c=>hc y (mem_cons_of_mem _ c)
  have b:rlb env p=(p.1,(rlb env p).2):=by rw[<- zC env p]
  rw[map_cons,b,lookup_cons]at e
  by_cases hx:x=p.1
  .have a:(x == p.1)=true:=by simpa using hx
   rw[a]at e;have f:(rlb env p).2=k:=Option.some.inj e;have g:=yV (env:=env) (hc p mem_cons_self) (by rw[f];exact hk);have:(x,NameKind.free)=p:=by rw[hx,<- g]
   rw[this];exact mem_cons_self
  .have a:(x == p.1)=false:=by simpa using hx
   rw[a]at e;exact mem_cons_of_mem _ (iq d hk e)
theorem eY{env:Env}{a:Scope}{x:Str}{k:NameKind}(b:∀ y∈a.names,y.2≠.cell)(c:k=.cell\/k=.free)(e:(relabel a env).names.lookup x=some k):(x,NameKind.free)∈a.names :=
 iq (env:=env) b c (by rw[<- mC];exact e)
def vU(ix:List (Option Nat))(σ:St):St:=ix.map λo=>o.bind λi=>(σ[i]?).join
def fk(env:Env)(y:Str):NameKind:=if env.kindOf y == some NameKind.free then .free else .cell
theorem Dm(env:Env)(y:Str):fk env y=.cell\/fk env y=.free:=by unfold fk;split <;> simp
def FreeOkF(XN:List Str)(env:Env)(sc:Scope):List Str->List (Option Nat)->Prop
 | [],[]=>True
 | _::N,Option.none::ix=>FreeOkF XN env sc N ix
 | y::N,some i::ix=>XN[i]? = some y/\env.kindOf y=some (fk env y)/\(relabel sc env).names.lookup y=some (fk env y)/\FreeOkF XN env sc N ix
 | _,_=>False
theorem FreeOkF.len{a:List Str}{env:Env}{b:Scope}:∀{N:List Str}{ix:List (Option Nat)},FreeOkF a env b N ix->ix.length=N.length
 | [],[],_=>rfl
 | _::N,Option.none::ix,h=>congrArg (· + 1) (FreeOkF.len (N:=N) (ix:=ix) h)
 | _::N,some _::ix,h=>congrArg (· + 1) (FreeOkF.len (N:=N) (ix:=ix) h.2.2.2)
 | [],_::_,h=>h.elim
 | _::_,[],h=>h.elim
theorem FreeOkF.get{b:List Str}{env:Env}{c:Scope}:∀{N:List Str}{ix:List (Option Nat)},FreeOkF b env c N ix->∀(j:Nat) (y:Str) (i:Nat),N[j]? = some y->ix[j]? = some (some i) ->
  b[i]? = some y/\env.kindOf y=some (fk env y)/\(relabel c env).names.lookup y=some (fk env y)
 | [],[],_,j,y,i,e,_=>by simp at e
 | _::N,Option.none::ix,h,0,y,i,e,e2=>by simp at e2
 | _::N,Option.none::ix,h,j+1,y,i,e,e2=>FreeOkF.get (N:=N) (ix:=ix) h j y i (by simpa using e) (by simpa using e2)
 | z::N,some k::ix,h,0,y,i,e,e2=>by
  have d:z=y:=by simpa using e
  have a:k=i:=by simpa using e2
  subst d;subst a;exact⟨h.1,h.2.1,h.2.2.1⟩
 | _::N,some _::ix,h,j+1,y,i,e,e2=>FreeOkF.get (N:=N) (ix:=ix) h.2.2.2 j y i (by simpa using e) (by simpa using e2)
 | [],_::_,h,_,_,_,_,_=>h.elim
 | _::_,[],h,_,_,_,_,_=>h.elim
def cxB(X:Cx)(sc:Scope)(C:Addr)(N:List Str)(s₀:Shared)(H₀:Hp)(fp:List Addr):Cx :=
 { X with N:=N,s₀:=s₀,H₀:=H₀,env:=compEnvC sc (du X.env.cells sc.names []) C X.env,outer:=X.stack,ex:=fp,fn:=λ_=>false,pn:=[],xe:=λ_ _=>False }
structure CompOk(X:Cx)(sc:Scope)(N:List Str)(ix:List (Option Nat)):Prop where
 kind:sc.kind=.function
 nocell:(sc.names.all λy=>y.2 != .cell)=true
 names:(sc.names.all λy=>y.2 != .local || sc.names.lookup y.1 == some .local) = true
 free:(sc.names.all λy=>y.2 != .free || (X.env.scope.names.lookup y.1 == some .cell || X.env.scope.names.lookup y.1 == some .free))=true
 fr:FreeOkF X.N X.env sc N ix
section
variable {X:Cx}{sc:Scope}{N:List Str}{ix:List (Option Nat)}{pins:List (Addr×Obj)}{σ:St}{H:Hp}{s:Shared}
theorem CompOk.cells(c:CompOk X sc N ix)(d:X.Ok):∀ y∈sc.names,y.2=.free->∃ c,X.env.cells.lookup y.1=some c:=λy b e=>by
 have h:=all_eq_true.mp c.free y b;rw[e]at h;have a:X.env.scope.names.lookup y.1=some .cell\/X.env.scope.names.lookup y.1=some .free:=by simpa using h
 exact d.has y.1 a
theorem CompOk.nc(c:CompOk X sc N ix):∀ y∈sc.names,y.2≠.cell:=λy a=>by simpa using all_eq_true.mp c.nocell y a
theorem CompOk.nm(c:CompOk X sc N ix):∀ y ∈ sc.names,y.2 = .local->sc.names.lookup y.1 = some .local:=λy a e=>by
 have h:=all_eq_true.mp c.names y a;rw[e]at h;simpa using h
theorem wm{C:Addr}{J:List Addr}{h₁:Heap}{t':Nat}(c:CompOk X sc N ix)(I:Inv X pins σ H s)(E:∀ b∈J,iP X pins H b)(F:∀ b∈J,b<s.heap.objs.size)(G:s.heap.objs.size<=C)
  (P:h₁.Ns C (λ_=>none)) (f:∀ b o,s.heap.get? b=some o->h₁.get? b=some o):Inv (cxB X sc C N s H J) [] (vU ix σ) H { s with heap:=h₁,toks:=t' }:=by
 have h:=c.cells I.ok;have a:∀ n c,(du X.env.cells sc.names []).lookup n=some c->X.env.cells.lookup n=some c:=λn c e=>dF h (λn c z=>by simp at z) e
 refine⟨⟨I.ok.mod,c.kind,I.ok.glob,I.ok.blt,G,λx y d S Y=>I.ok.inj x y d (a x d S) (a y d Y),λx hx=>?_,λx d z=>absurd z (by simp[cxB]),I.ok.hd,I.ok.frames,.inl rfl,λb hb=>⟨?_,λx d e=>?_⟩,I.bs,Nat.le_trans I.ok.bsz I.sz,λb o e hb=>?_,λb hb hs=>?_,I.stack,I.stkFree⟩,
  rfl,I.bare,Un.kept f,⟨_,P,λj y v O B e3=>?_⟩,λx d e=>?_,I.hok.fresh G,λx d e=>I.freeC x d (a x d e),λp hp=>absurd (show p∈([]:List (Addr×Obj)) from hp) (by simp),I.hok.kept f,?_⟩
 .refine gU (.inl ?_)
  rcases hx with hx | hx
  .exact eY c.nc (.inl rfl) (show(relabel sc X.env).names.lookup x=some .cell from hx)
  .exact eY c.nc (.inr rfl) (show(relabel sc X.env).names.lookup x=some .free from hx)
 .exact Nat.ne_of_lt (Nat.lt_of_lt_of_le (F b hb) G)
 .exact(E b hb).2.2.2.2.1 x d (a x d e)
 .rcases(E b hb).2.2.2.1 with z | z
  .exact I.ok.noex b o e z
  .exact absurd (Nat.lt_of_lt_of_le (Heap.lt_size e) (Nat.le_trans I.ok.bsz z)) (Nat.lt_irrefl _)
 .rcases mem_cons.mp (I.stkSub b hs) with z | z
  .exact(E b hb).2.1 z
  .exact(E b hb).2.2.1 z
 .have T:∃ i,ix[j]? = some (some i)/\σ[i]? = some (some v):=by
   unfold vU at B;rw[List.getElem?_map]at B;cases q:ix[j]? with
   | none=>rw[q]at B;cases B
   | some o =>
    rw[q]at B;cases o with
    | none=>cases B
    | some i =>
     refine⟨i,rfl,?_⟩;have g:(σ[i]?).join=some v:=Option.some.inj B;cases q2:σ[i]? with
     | none=>rw[q2]at g;cases g
     | some w=>rw[q2]at g;exact congrArg some g
  obtain⟨i,M,W⟩:=T;obtain⟨Q,L,D⟩:=c.fr.get j y i O M;obtain⟨m,hm,Z⟩:=I.loc;have K:=Dm X.env y;have k9:X.env.kindOf y=some .cell\/X.env.kindOf y=some .free:=K.imp (λz=>by rw[<- z];exact L) λz=>by rw[<- z];exact L
  obtain⟨u,r,l⟩:=Z i y v Q W (.inr k9);refine⟨u,r,?_⟩
  rcases l with⟨z,_⟩ | ⟨_,d,R,A⟩
  .rcases k9 with k9 | k9 <;> (rw[k9]at z;cases z)
  .obtain⟨d',hd'⟩:∃ d',(du X.env.cells sc.names []).lookup y=some d':=gU (.inl (eY c.nc K D))
   have:=a y d' hd';rw[R]at this;cases this;exact .inr ⟨K.imp (λz=>(by rw[z]at D;exact D)) (λz=>(by rw[z]at D;exact D)),d,hd',A.keeps f⟩
 .obtain⟨v,z⟩:=I.cell x d (a x d e)
  exact⟨v,z.keeps f⟩
 .show(vU ix σ).length=N.length
  unfold vU;rw[length_map,c.fr.len]
theorem qm{C:Addr}{d:List Addr}{a:List (Addr×Obj)}{c:St}{f:Hp}{e:Shared}(I:Inv X pins σ H s)(i:∀ b∈d,iP X pins H b)(J:Inv (cxB X sc C N s H d) a c f e):Inv X pins σ f e:=by
 refine I.call' (ch:=d) J.os J.base J.hok J.bare λb g=>?_
 obtain⟨p,h,o,m,l,j⟩:=i b g;exact⟨m,h,l,j⟩
end
def PTs(X:Cx)(ifs:List Expr)(t:TT):Prop :=
 ∀(pins:List (Addr×Obj)) (s:Shared) (σ:St) (H:Hp) (Q:Bool->Hp->Prop),Inv X pins σ H s->t σ H Q ->
  wpAny (model X.prog X.w) X.A (forIn ifs true λc r=>if r=true then do let ok <- isTrue c X.env (eval c X.env);pure (ForInStep.yield ok) else pure (ForInStep.yield r)) (TP X pins σ Q) X.xe s
def Ew:TT:=λ_ H Q=>Q true H
theorem aG{X:Cx}:PTs X [] Ew:=λ_ _ _ H _ I h=>wpAny_tests_nil ⟨H,I,h⟩
theorem kH{X:Cx}{c:Expr}{t:TT}(h:PT X c t):PTs X [c] t:=λa s b H Q I d=>wpAny_tests_one (h a s b H Q I d)
def j9(J:It)(D:Addr)(σb:St)(g:TG)(tt:TT)(te:TE)(Q:Hp->List V->Prop)(W:Nat->Nat->List V->Hp->Prop):Prop :=
 ∀ i m ys H,W i m ys H->H D=some (.lst ys)/\((J.stop i H/\Q H ys)\/(J.go i H/\∀ x H3,J.yld i H x H3->g x σb H3 λσ4 H4=>Wk σb σ4/\tt σ4 H4 λb H5 =>
  if b=true then te σ4 H5 λy H6=>H6 D=some (.lst ys)/\ys.length<sizeLine/\∃ m',m'<m/\W (i+1) m' (ys++[y]) (upd H6 D (.lst (ys++[y]))) else ∃ m',m'<m/\W (i+1) m' ys H5))
def By(ix:List (Option Nat))(wi:TI)(g:TG)(tt:TT)(te:TE):TE:=λσ H Q=>wi σ H λJ H1=>∀ D,H1 D=none->∃ W,(∃ m,W 0 m [] (upd H1 D (.lst [])))/\j9 J D (vU ix σ) g tt te (λH _=>Q (.ref D) H) W
section
variable {X:Cx}{sc:Scope}{N:List Str}{ix:List (Option Nat)}{elt tg iter:Expr}{ifs:List Expr}{pos:Pos}{wi:TI}{g:TG}{tt:TT}{te:TE}
structure Blk(X:Cx)(sc:Scope)(N:List Str)(tg elt:Expr)(ifs:List Expr)(g:TG)(tt:TT)(te:TE):Prop where
 tg:∀ C s H fp,PG (cxB X sc C N s H fp) tg g
 tests:∀ C s H fp,PTs (cxB X sc C N s H fp) ifs tt
 elt:∀ C s H fp,PE (cxB X sc C N s H fp) elt te
theorem wc{J:It}{l:List Addr}{it D:Addr}{I:Nat->Heap->Prop}{a:St}{Q:Hp->List V->Prop}{R:Result->Shared->Prop}{W:Nat->Nat->List V->Hp->Prop}
  (hc:X.calm=true) (ab:X.xe=λ_ _=>False) (T:Turn X.prog X.w X.K tg J l it I) (hg:PG X tg g) (ht:PTs X ifs tt) (he:PE X elt te) (A:j9 J D a g tt te Q W)
  (c:∀{H':Hp},(∀ b∈l,H' b=none)->∀ b∈l,iP X [] H' b)
  (ad:∀{σ':St}{H':Hp}{s':Shared}{ys:List V},Inv X [] σ' H' s'->Q H' ys->R (.ok .next) s')
  {m0 i0:Nat}{s:List V}{H:Hp}{Y:Shared}(I0:Inv X [] a H Y) (al:I i0 Y.heap) (K:∀ b∈l,H b=none) (w0:W i0 m0 s H) :
  codeAny (model X.prog X.w) X.A (.compLoop (.ListComp elt [⟨tg,iter,ifs,0⟩] sc pos) 0 (.ref it) (.ref D) X.env) R Y:=by
 have f:∀{E':Value->Shared->Prop}(e:Value) (s':Shared),X.xe e s'->E' e s':=λ{E'} e s' z=>by rw[ab]at z;exact z.elim
 refine codeAny_loop rfl (λn s'=>∃ i ys H',Inv X [] a H' s'/\I i s'.heap/\(∀ b∈l,H' b=none)/\W i n ys H') ?_ m0 ⟨i0,s,H,I0,al,K,w0⟩;rintro n s3 ⟨i,ys,N,I3,C,E,w3⟩;show wpAny _ X.A ((compTurn (.ListComp elt [⟨tg,iter,ifs,0⟩] sc pos) 0 (.ref it) (.ref D) X.env).onRaise (λx=>do noteFrame x X.env;theTreesLotGoes x)) _ _ s3;refine wpAny_noted ?_;rw[compTurn_list];refine wpAny_bind (wpAny_standAt (wpAny_bind ?_));obtain⟨ap,next⟩:=A i n ys N w3
 rcases next with⟨B,q⟩ | ⟨go,F⟩
 .refine thn (T.done X rfl rfl rfl hc i [] s3 a N _ I3 (c E) C B) λr s4 ⟨hr,I4⟩=>?_
  subst hr;exact wpAny_pure (ad I4 q)
 .refine thn (T.item X rfl rfl rfl hc i [] s3 a N _ I3 (c E) C go) λr s4 ⟨u,hr,h4⟩=>?_
  subst hr;refine wpAny_bind (thn h4 λ_ s5 ⟨x,H5,I5,r5,y5,j,M⟩=>?_);have O:=I5.pinned (c M) (T.obj _ _ j)
  have h:∀{σ':St}{H':Hp}{s':Shared},Inv X ([]++lJ l s5.heap) σ' H' s'->Wk a σ'->Inv X [] a H' s'/\I (i+1) s'.heap/\∀ b∈l,H' b=none:=λ{σ' H' s'} p w=>by
   refine⟨(p.unpinned).weak w.len w.get,T.keep _ _ _ j λb G o e=>(p.pin (b,o) (mem_append_right _ (mem_append_right _ (eR G e)))).1,λb G=>?_⟩;obtain⟨o,e,d⟩:=T.obj _ _ j b G;exact(p.pin (b,o) (mem_append_right _ (mem_append_right _ (eR G e)))).2.1
  refine wpAny_bind (wpAny_mono (hg _ s5 a H5 x u _ O r5 (F x H5 y5)) (λ_ s6 ⟨m,H6,I6,w,q6⟩=>?_) f);refine wpAny_bind (wpAny_mono (ht _ s6 m H6 _ I6 q6) (λok s7 ⟨H7,p,q7⟩=>?_) f);cases ok with
  | false =>
   obtain⟨m',Z,w7⟩:=q7;obtain⟨b1,P,L⟩:=h p w;exact wpAny_pure ⟨rfl,m',Z,i+1,ys,H7,b1,P,L,w7⟩
  | true =>
   refine wpAny_bind (wpAny_bind (wpAny_mono (he _ s7 m H7 _ p q7) (λv s8 ⟨y,H8,I8,r8,an,S,m',Z,w8⟩=>?_) f));refine wpAny_bind (wpAny_mono (nW _ s8 m H8 (.ref D) [y] (.ref D) [v] (λ_ H9=>H9=upd H8 D (.lst (ys++[y]))) I8 rfl (.cons r8 .nil) ⟨D,ys,y,rfl,rfl,an,S,rfl⟩) (λ_ s9 ⟨z,H9,I9,_,e9⟩=>?_) f);subst e9;obtain⟨b1,P,L⟩:=h I9 w;exact wpAny_pure (wpAny_pure ⟨rfl,m',Z,i+1,ys++[y],_,b1,P,L,w8⟩)
theorem mX{a:List (Addr×Obj)}{M:St}{H:Hp}{s:Shared}{E:Value->Shared->Prop}{RR:Value->Addr->Result->Shared->Prop}{Z:Addr}{i:List Addr}{v:Nat->Heap->Prop}{J:It}{Q:Addr->Hp->List V->Prop}
  (hc:X.calm=true) (c:CompOk X sc N ix) (B:Blk X sc N tg elt ifs g tt te) (I:Inv X a M H s) (T:Turn X.prog X.w X.K tg J i Z v) (st:v 0 s.heap) (hf:∀ b∈i,iP X a H b)
  (h:∀ D,H D=none->∃ W,(∃ m,W 0 m [] (upd H D (.lst [])))/\j9 J D (vU ix M) g tt te (Q D) W)
  (hR:∀ D C H' s' ys,Inv X a M H' s'->iP X a H' C->(∃ m,s'.heap.Ns C m)->Q D H' ys->RR (.ref D) C (.ok .next) s') :
  wpAny (model X.prog X.w) X.A (newList []) (λacc s₃=>wpAny (model X.prog X.w) X.A (newFunctionEnv sc X.env.globals (du X.env.cells sc.names []) [] X.env.qual none .none (some X.env)) (λcenv s₄ =>
   codeAny (model X.prog X.w) X.A (.compStart (.ListComp elt [⟨tg,iter,ifs,0⟩] sc pos) 0 (.ref Z) acc { cenv with scope:=relabel sc X.env }) (RR acc cenv.locals) s₄) E s₃) E s:=by
 have R:∀ b∈i,b<s.heap.objs.size:=λb f=>let ⟨o,e,_⟩:=T.obj _ _ st b f;Heap.lt_size e
 refine wpAny_newObj_type ?_ (by show 0<=sizeLine;exact Nat.zero_le _);have hD:H s.heap.objs.size=none:=I.hok.fresh (Nat.le_refl _);obtain⟨W,⟨m0,w0⟩,K⟩:=h s.heap.objs.size hD;have F:Inv X a M (upd H s.heap.objs.size (.lst [])) { s with heap:=s.heap.push { cls:=.type "list",data:=.seq ([]:List Value).toArray } }:=I.lnew (t':=s.toks) (its:=[]) .nil (Nat.zero_le _);have k1:∀ b o,s.heap.get? b=some o->(s.heap.push { cls:=.type "list",data:=.seq ([]:List Value).toArray }).get? b=some o:=λb o e=>Heap.get?_push_of_some _ e
 have P:∀ b∈i,b≠s.heap.objs.size:=λb f=>Nat.ne_of_lt (R b f)
 have j:∀ b∈i,iP X a (upd H s.heap.objs.size (.lst [])) b:=λb f=>⟨by rw[ar (P b f)];exact(hf b f).1,(hf b f).2⟩
 have G:v 0 (s.heap.push { cls:=.type "list",data:=.seq ([]:List Value).toArray }):=T.keep _ _ _ st λb _ o e=>k1 b o e
 generalize hs1:({ s with heap:=s.heap.push { cls:=.type "list",data:=.seq ([]:List Value).toArray } }:Shared)=s1 at F;have u:s1.heap=s.heap.push { cls:=.type "list",data:=.seq ([]:List Value).toArray }:=by rw[<- hs1]
 generalize hDe:s.heap.objs.size=D at *;show wpAny _ _ _ _ _ s1;refine wpAny_newFunctionEnv c.nc (by intro y hy;simp at hy) (λh₁ hns₁ hsb₁=>?_) c.kind;have w:∀ b o,s1.heap.get? b=some o->h₁.get? b=some o:=λb o e=>(hsb₁.2 b (Nat.ne_of_lt (Heap.lt_size e))).trans (Heap.get?_push_of_some _ e)
 have l:∀ b∈i,b<s1.heap.objs.size:=λb f=>by
  obtain⟨o,e,_⟩:=T.obj _ _ G b f;rw[u];exact Heap.lt_size e
 have J0:=wm (h₁:=h₁) (t':=s1.toks+([]:List (Str×Value)).length) c F j l (Nat.le_refl _) (by simpa using hns₁) w;have L:v 0 h₁:=T.keep _ _ _ (by rw[u];exact G:v 0 s1.heap) λb _ o e=>w b o e
 have S:∀{H':Hp},(∀ b∈i,H' b=none)->∀ b∈i,iP (cxB X sc s1.heap.objs.size N s1 (upd H D (.lst [])) i) [] H' b:=λ{H'} O b f=>by
  obtain⟨f0,f1,f2,f3,f4,f5⟩:=j b f;refine⟨O b f,Nat.ne_of_lt (l b f),?_,.inl f,λx d e=>f4 x d (dF (c.cells I.ok) (λn c z=>by simp at z) e),λp hp=>absurd (show p∈([]:List (Addr×Obj)) from hp) (by simp)⟩;intro z
  rcases mem_cons.mp (F.stkSub b z) with q | q
  .exact f1 q
  .exact f2 q
 have Y:∀{A:St}{H':Hp}{s':Shared}{ys:List V},Inv (cxB X sc s1.heap.objs.size N s1 (upd H D (.lst [])) i) [] A H' s'->Q D H' ys->RR (.ref D) s1.heap.objs.size (.ok .next) s':=λ{A H' s' ys} J q =>
  hR D _ H' s' ys (qm F j J) (F.fpOk (Nat.le_refl _) J.free) (let ⟨m,O,_⟩:=J.loc;⟨m,O⟩) q
 have r:codeAny (model X.prog X.w) X.A (.compLoop (.ListComp elt [⟨tg,iter,ifs,0⟩] sc pos) 0 (.ref Z) (.ref D) (cxB X sc s1.heap.objs.size N s1 (upd H D (.lst [])) i).env) (RR (.ref D) s1.heap.objs.size) { s1 with heap:=h₁,toks:=s1.toks+([]:List (Str×Value)).length } :=
  wc (X:=cxB X sc s1.heap.objs.size N s1 (upd H D (.lst [])) i) hc rfl T (B.tg _ _ _ _) (B.tests _ _ _ _) (B.elt _ _ _ _) K S Y J0 L (λb f=>(j b f).1) w0
 exact codeAny_compStart_list r (T.self _ 0 _ _ _ L r)
theorem aL(E:X.calm=true)(c:CompOk X sc N ix)(hi:PI X tg iter wi)(B:Blk X sc N tg elt ifs g tt te)(M:∀ x,foldedSetIterable iter X.env x=pure x:=by intro _;rfl):PE X (.ListComp elt [⟨tg,iter,ifs,0⟩] sc pos) (By ix wi g tt te):=by
 intro a s l H Q I h;rw[eval_ListComp];refine wpAny_comprehension_free (use:=none) rfl M (ft (c.cells I.ok)) c.kind c.nm (thn (hi a s l H _ I h) λxv j d=>thn d λitv s₂ h₂=>?_);obtain⟨it,Z,W,J,Y,e,R,T,f,m,p⟩:=h₂;subst e;refine mX (RR:=λi C=>compPost (model X.prog X.w) X.A X.xe none (EP X a l Q) i C) (Q:=λD H _=>Q (.ref D) H) E c B R T f m p ?_;intro D C y P S F u L q;refine⟨_,L.choose_spec,λh' G=>⟨.ref D,y,?_,rfl,q⟩⟩;obtain⟨w,O,m,v,A,K⟩:=u;exact F.turned (t':=P.toks) (λb o r e=>(G.2 b r).trans e) w O v A K
theorem gI{i:Nat}{y:Str}{j f:Pos}(hc:X.calm = true)(hN:X.N.Nodup)(hy:X.N[i]? = some y)(P:X.env.scope.names.lookup y = some .local)
  (w:swapsWith (.ListComp elt [⟨tg,iter,ifs,0⟩] sc pos) (some (.Name y j)) f.line X.env=pure true)
  (c:CompOk X sc N ix) (hi:PI X tg iter wi) (B:Blk X sc N tg elt ifs g tt te) (hs:∀ x,foldedSetIterable iter X.env x=pure x:=by intro _;rfl) :
  PS X (.Assign [.Name y j] (.ListComp elt [⟨tg,iter,ifs,0⟩] sc pos) f) (wd (By ix wi g tt te) (mL i)):=by
 intro d s K H r I h;rw[exec_Assign_Name_used _ _ _ _ w];refine wpAny_bind (wpAny_standAt (wpAny_bind ?_));show wpAny _ X.A (do let _ <- comprehension (.ListComp elt [⟨tg,iter,ifs,0⟩] sc pos) sc X.env _ (newList []) false (eval iter X.env) (some (assign (.Name y j) X.env))) _ _ s
 refine wpAny_bind (wpAny_mono (wpAny_comprehension_free (use:=some (assign (.Name y j) X.env)) (Q:=λ_ p=>SP X d r .next p) rfl hs (ft (c.cells I.ok)) c.kind c.nm
  (thn (hi d s K H _ I h) λxv G l=>thn l λitv s₂ h₂=>?_)) (λ_ p hq=>wpAny_pure (wpAny_pure hq)) λ_ _ e=>e)
 obtain⟨it,fp,tn,J,H2,e,I2,T,u,M,R⟩:=h₂;subst e;refine mX (RR:=λE C=>compPost (model X.prog X.w) X.A X.xe (some (assign (.Name y j) X.env)) (λ_ p=>SP X d r .next p) E C) (Q:=λD H _=>r.nx (K.set i (some (.ref D))) H) hc c B I2 T u M R ?_;intro D C H' p ys I' W ns q;show wpAny _ X.A (assign (.Name y j) X.env (.ref D)) _ _ _;obtain⟨f0,O,M,f3,L,f5⟩:=W;refine wpAny_assign_Name (mZ I' hN hy (.inl P) (v:=.ref D) rfl (λY J2 ⟨a,sb,Z⟩=>?_) (.inr P));obtain⟨m,hn⟩:=ns
 have F:C≠a:=by
  rcases Z with z | z
  .rw[z];exact O
  .exact λe=>L y a z e.symm
 refine⟨m,hn.sameBut sb F,λh3 A=>⟨_,H',?_,q⟩⟩;exact J2.turned (t':=Y.toks) (λb o S e=>(A.2 b S).trans e) f0 O f3 L f5
end
section
variable {κ:Type} [DecidableEq κ]
def bI(kvs:List (κ×V))(k:κ):Option V:=(kvs.find? λkv=>decide (kv.1=k)).map (·.2)
def cv(kvs:List (κ×V))(k:κ)(v:V):List (κ×V) :=
 if (kvs.any λkv=>decide (kv.1=k))=true then kvs.map (λkv=>if kv.1=k then (kv.1,v) else kv) else kvs++[(k,v)]
theorem bx{p:κ×V}{r:List (κ×V)}{k:κ}(e:p.1=k):bI (p::r) k=some p.2:=by simp[bI,List.find?_cons,e]
theorem bB{p:κ×V}{r:List (κ×V)}{k:κ}(e:¬p.1=k):bI (p::r) k=bI r k:=by simp[bI,List.find?_cons,e]
theorem eA(k:κ):∀ kvs:List (κ×V),(kvs.any λkv=>decide (kv.1=k))=(bI kvs k).isSome
 | []=>rfl
 | p::r=>by
  rw[any_cons]
  by_cases e:p.1=k
  .simp only[bx e,decide_eq_true e,Bool.true_or,Option.isSome_some]
  .rw[bB e,decide_eq_false e,Bool.false_or];exact eA k r
theorem qG(k j:κ)(y:V):∀ kvs:List (κ×V),bI (kvs.map λkv=>if kv.1=k then (kv.1,y) else kv) j=(bI kvs j).map λx=>if j=k then y else x
 | []=>rfl
 | p::r=>by
  have a:=qG k j y r;rw[map_cons]
  by_cases h:p.1=k
  .rw[if_pos h]
   by_cases e:p.1=j
   .rw[bx (p:=(p.1,y)) e,bx e,Option.map_some,if_pos (e.symm.trans h)]
   .rw[bB (p:=(p.1,y)) e,bB e,a]
  .rw[if_neg h]
   by_cases e:p.1=j
   .rw[bx (p:=p) e,bx e,Option.map_some,if_neg (λz=>h (e.trans z))]
   .rw[bB (p:=p) e,bB e,a]
theorem m3(k j:κ)(y:V):∀ kvs:List (κ×V),bI kvs k=none->bI (kvs++[(k,y)]) j=if j=k then some y else bI kvs j
 | [],_=>by
  by_cases e:k=j
  .rw[if_pos e.symm];exact bx (p:=(k,y)) e
  .rw[if_neg (λz=>e z.symm)];exact bB (p:=(k,y)) e
 | p::r,hn=>by
  rw[cons_append];have a:¬p.1=k:=λz=>by rw[bx z]at hn;cases hn
  rw[bB a]at hn;have b:=m3 k j y r hn
  by_cases e:p.1=j
  .rw[bx e,bx e,if_neg (λz=>a (e.trans z))]
  .rw[bB e,bB e,b]
theorem gg(b:List (κ×V))(k j:κ)(y:V):bI (cv b k y) j=if j=k then some y else bI b j:=by
 unfold cv
 by_cases a:(b.any λd=>decide (d.1=k))=true
 .rw[if_pos a,qG]
  rw[eA]at a
  by_cases e:j=k
  .obtain⟨x,c⟩:=Option.isSome_iff_exists.mp a
   rw[if_pos e,e,c,Option.map_some,if_pos rfl]
  .rw[if_neg e]
   cases bI b j with
   | none=>rfl
   | some x=>rw[Option.map_some,if_neg e]
 .rw[if_neg a]
  refine m3 k j y b ?_;rw[eA]at a;cases q:bI b k with
  | none=>rfl
  | some x=>rw[q]at a;exact(a rfl).elim
theorem dC(a:List (κ×V))(k:κ)(v:V):(cv a k v).length<=a.length+1:=by
 unfold cv
 split
 .rw[length_map];lia
 .rw[length_append,length_cons,length_nil];lia
theorem xf{a:List (κ×V)}{k:κ}(v:V)(h:bI a k=none):cv a k v=a++[(k,v)]:=by
 unfold cv;rw[eA,h];exact if_neg (by decide)
theorem RelO.isSome_eq{o:Option V}{u:Option Value}(r:RelO o u):o.isSome=u.isSome:=by
 cases o with
 | none=>cases u with
  | none=>rfl
  | some _=>exact(show False from r).elim
 | some _=>cases u with
  | none=>exact(show False from r).elim
  | some _=>rfl
theorem RelO.getD{o:Option V}{u:Option Value}{d:V}{d':Value}(r:RelO o u)(a:RelV d d'):RelV (o.getD d) (u.getD d'):=by
 cases o with
 | none=>cases u with
  | none=>exact a
  | some _=>exact(show False from r).elim
 | some _=>cases u with
  | none=>exact(show False from r).elim
  | some _=>exact r
theorem KV.val{a:List (κ×V)}{vs:List (κ×Value)}(r:KV a vs)(k:κ):RelO (bI a k) (valueAt vs k):=by
 unfold KV at r
 induction r with
 | nil=>exact True.intro
 | @cons p q ps qs h t ih =>
  obtain⟨d,f⟩:=h
  by_cases e:p.1=k
  .have c:q.1=k:=d.symm.trans e
   have b:valueAt (q::qs) k=some q.2:=by simp[valueAt,List.find?_cons,c]
   rw[bx e,b];exact f
  .have c:¬q.1=k:=λz=>e (d.trans z)
   have b:valueAt (q::qs) k=valueAt qs k:=by simp[valueAt,List.find?_cons,c]
   rw[bB e,b];exact ih
theorem KV.any{a:List (κ×V)}{vs:List (κ×Value)}(r:KV a vs)(k:κ):(a.any λkv=>decide (kv.1=k))=vs.any λkv=>decide (kv.1=k):=by
 unfold KV at r
 induction r with
 | nil=>rfl
 | cons h t ih=>rw[any_cons,any_cons,ih,h.1]
theorem KV.repl{a:List (κ×V)}{vs:List (κ×Value)}(r:KV a vs)(k:κ){y:V}{u:Value}(c:RelV y u) :
  KV (a.map λkv=>if kv.1=k then (kv.1,y) else kv) (vs.map λkv=>if kv.1=k then (kv.1,u) else kv):=by
 unfold KV at r ⊢
 induction r with
 | nil=>exact .nil
 | @cons p q ps qs h t ih =>
  rw[map_cons,map_cons];refine .cons ?_ ih;obtain⟨b,d⟩:=h
  by_cases e:p.1=k
  .rw[if_pos e,if_pos (b.symm.trans e)];exact⟨b,c⟩
  .rw[if_neg e,if_neg (λz=>e (b.trans z))];exact⟨b,d⟩
theorem KV.put{a:List (κ×V)}{vs:List (κ×Value)}(r:KV a vs)(k:κ){y:V}{u:Value}(b:RelV y u):KV (cv a k y) (stored vs k u):=by
 unfold cv stored;rw[r.any k]
 by_cases e:(vs.any λc=>decide (c.1=k))=true
 .rw[if_pos e,if_pos e];exact r.repl k b
 .rw[if_neg e,if_neg e];exact Paired.snoc r ⟨rfl,b⟩
theorem KV.length{a:List (κ×V)}{vs:List (κ×Value)}(r:KV a vs):a.length=vs.length:=Paired.length r
end
theorem pM{P:Program}{w:World}{k:Key}{u:Value}(r:RelV (kV k) u):(aY P w).is k u=true:=by
 cases k with
 | inl i=>obtain⟨t,e⟩:=(show ∃ t,u=Value.int i t from r);subst e;exact qv P w i t
 | inr x=>obtain⟨t,e⟩:=(show ∃ t,u=Value.str x t from r);subst e;exact pY P w x t
theorem m9{P:Program}{w:World}:∀{ks:List Key}{us:List Value},Vals (ks.map kV) us->ItemsAre (aY P w) ks us
 | [],_,r=>by rw[map_nil]at r;cases r;exact .nil
 | k::ks,_,r=>by
  rw[map_cons]at r;cases r with
  | cons h t=>exact .cons (pM h) (m9 t)
abbrev KT(H:Hp):List (List Key×V)->List (List Key×Addr×Value)->Prop:=Paired λp q=>p.1=q.1/\H q.2.1=some (.tup (p.1.map kV))/\RelV p.2 q.2.2
theorem KT.val{H:Hp}{a:List (List Key×V)}{xs:List (List Key×Addr×Value)}(r:KT H a xs)(k:List Key):RelO (bI a k) ((atKey xs k).map (·.2)):=by
 induction r with
 | nil=>exact True.intro
 | @cons p q ps qs h t ih =>
  obtain⟨d,_,f⟩:=h
  by_cases e:p.1=k
  .have c:q.1=k:=d.symm.trans e
   have b:atKey (q::qs) k=some q.2:=by simp[atKey,List.find?_cons,c]
   rw[bx e,b];exact f
  .have c:¬q.1=k:=λz=>e (d.trans z)
   have b:atKey (q::qs) k=atKey qs k:=by simp[atKey,List.find?_cons,c]
   rw[bB e,b];exact ih
theorem KT.repl{H:Hp}{a:List (List Key×V)}{xs:List (List Key×Addr×Value)}(r:KT H a xs)(k:List Key){y:V}{u:Value}(f:RelV y u) :
  KT H (a.map λkv=>if kv.1=k then (kv.1,y) else kv) (xs.map (putAt k u)):=by
 induction r with
 | nil=>exact .nil
 | @cons p q ps qs h t ih =>
  rw[map_cons,map_cons];refine .cons ?_ ih;obtain⟨b,c,d⟩:=h;unfold putAt
  by_cases e:p.1=k
  .rw[if_pos e,if_pos (b.symm.trans e)];exact⟨b,c,f⟩
  .rw[if_neg e,if_neg (λz=>e (b.trans z))];exact⟨b,c,d⟩
theorem KT.put{H:Hp}{a:List (List Key×V)}{xs:List (List Key×Addr×Value)}(r:KT H a xs)(k:List Key){b:Addr}{y:V}{u:Value}(f:H b=some (.tup (k.map kV)))(c:RelV y u) :
  KT H (cv a k y) (storedH xs k b u):=by
 have e:(a.any λd=>decide (d.1=k))=(atKey xs k).isSome:=by
  rw[eA,(r.val k).isSome_eq,Option.isSome_map]
 unfold cv storedH;rw[e]
 by_cases q:(atKey xs k).isSome=true
 .rw[if_pos q,if_pos q];exact r.repl k c
 .rw[if_neg q,if_neg q];exact Paired.snoc r ⟨rfl,f,c⟩
theorem KT.keeps{H c:Hp}{a:List (List Key×V)}{xs:List (List Key×Addr×Value)}(r:KT H a xs)(d:∀ b ys,H b=some (.tup ys)->c b=some (.tup ys)):KT c a xs :=
 Paired.mapP r λ_ _ z=>⟨z.1,d _ _ z.2.1,z.2.2⟩
section
variable {P:Program}{w:World}{H:Hp}{h:Heap}{a:Addr}
theorem Br{u:HO}(b:HOk P w H h)(e:Rd H a u):ObjOk P w H h a u:=e.ok b
theorem qf{b:List (Key×V)}(c:HOk P w H h)(e:Rd H a (.dK b)):b.length<=sizeLine/\(a == sysModules)=false/\∃ vs,KV b vs/\h.DictOf (aY P w) a vs :=
 show ObjOk P w H h a (.dK b) from Br c e
theorem ve{b:List (Key×V)}(c:HOk P w H h)(e:H a=some (.dK b)):b.length<=sizeLine/\(a == sysModules)=false/\∃ vs,KV b vs/\h.DictOf (aY P w) a vs:=qf c (.inl e)
theorem pH{b:List Key}(i:HOk P w H h)(e:H a=some (.tup (b.map kV))):(tupleKind (aY P w)).is h b a:=by
 obtain⟨_,c,r,o,g,d,n,f⟩:=(show ObjOk P w H h a (.tup (b.map kV)) from i a _ e)
 exact⟨o,c.toArray,n,g,d,f,by simpa using m9 r⟩
theorem qt{b:List (List Key×V)}(d:HOk P w H h)(e:Rd H a (.dT b)):b.length<=sizeLine/\(a == sysModules)=false /\
  ∃ xs,KT H b xs/\h.DictOfH (tupleKind (aY P w)) a xs:=by
 obtain⟨z,y,xs,r,o,u,v,j,f,i,s,g⟩:=(show ObjOk P w H h a (.dT b) from Br d e)
 refine⟨z,y,xs,r,o,u,v,j,f,i,s,λx hx=>?_,g⟩
 have c:∀{l:List (List Key×V)}{m:List (List Key×Addr×Value)},KT H l m->∀ x∈m,(tupleKind (aY P w)).is h x.1 x.2.1:=by
  intro l m q
  induction q with
  | nil=>intro x hx;exact nomatch hx
  | @cons p q ps qs hq t ih =>
   intro x hx
   rcases mem_cons.mp hx with e | hx
   .subst e
    exact pH d (by rw[<- hq.1];exact hq.2.1)
   .exact ih x hx
 exact c r x hx
theorem DI{b:List (List Key×V)}(c:HOk P w H h)(e:H a=some (.dT b)):b.length<=sizeLine/\(a == sysModules)=false /\
  ∃ xs,KT H b xs/\h.DictOfH (tupleKind (aY P w)) a xs:=qt c (.inl e)
end
def DGet(H:Hp)(a:Addr)(y:V)(r:Option V):Prop :=
 (∃ kvs k,Rd H a (.dK kvs)/\y=kV k/\r=bI kvs k)\/∃ kvs k b,Rd H a (.dT kvs)/\y=.ref b/\H b=some (.tup (k.map kV))/\r=bI kvs k
def DPut(H:Hp)(a:Addr)(y v:V)(H':Hp):Prop :=
 (∃ kvs k,H a=some (.dK kvs)/\y=kV k/\kvs.length<sizeLine/\H'=upd H a (.dK (cv kvs k v))) \/
 ∃ kvs k b,H a=some (.dT kvs)/\y=.ref b/\H b=some (.tup (k.map kV))/\kvs.length<sizeLine/\H'=upd H a (.dT (cv kvs k v))
theorem DGet.k{H:Hp}{a:Addr}{b:List (Key×V)}{k:Key}(e:H a=some (.dK b)):DGet H a (kV k) (bI b k):=.inl ⟨b,k,.inl e,rfl,rfl⟩
theorem DPut.k{H:Hp}{a:Addr}{b:List (Key×V)}{k:Key}{v:V}(e:H a=some (.dK b))(c:b.length<sizeLine):DPut H a (kV k) v (upd H a (.dK (cv b k v))):=.inl ⟨b,k,e,rfl,c,rfl⟩
section
variable {X:Cx}{pins:List (Addr×Obj)}{σ:St}{H:Hp}{s:Shared}{a:Addr}{y v:V}{u r:Value}{o:Option V}{A:Around}{E:Value->Shared->Prop}
theorem Inv.big(I:Inv X pins σ H s):sysModules<s.heap.objs.size:=by
 have h:mainGlobals<s.heap.objs.size:=(I.mod.glob.keeps I.bk).lt;exact Nat.lt_trans (by decide) h
theorem vY{Q:Value->Shared->Prop}(B:A.units+1<cLine)(I:Inv X pins σ H s)(g:DGet H a y (some v))(w:RelV y u)(h:∀ w' s',Inv X pins σ H s'->RelV v w'->Q w' s') :
  wpAny (model X.prog X.w) A (getItem (.ref a) u) Q E s:=by
 rcases g with⟨r,k,e,m,l⟩ | ⟨r,k,b,e,m,D,l⟩
 .subst m
  obtain⟨z,C,F,c,f⟩:=qf I.hok e;obtain⟨w',i,d⟩:=RelO.some_of (v:=v) (o:=valueAt F k) (by rw[l];exact c.val k);exact wpAny_getItem_of (pM w) f.mapOf i (h w' _ (I.tok _) d)
 .subst m
  cases(show u=Value.ref b from w);obtain⟨z,C,G,c,f⟩:=qt I.hok e;obtain⟨w',i,d⟩:=RelO.some_of (v:=v) (o:=(atKey G k).map (·.2)) (by rw[l];exact c.val k);obtain⟨p,x,j⟩:=Option.map_eq_some_iff.mp i;refine wpAny_getItem_heap (tupleKind_room_in1 B) (pH I.hok D) f x ?_;rw[j];exact h w' _ (I.tok _) d
theorem oi{h':Heap}{t':Nat}{d:HO}(I:Inv X pins σ H s)(h:Mut (H a))(g:Heap.SameBut a s.heap h')(i:∃ q,h'.get? a=some q)(c:ObjOk X.prog X.w (upd H a d) h' a d) :
  Inv X pins σ (upd H a d) { s with heap:=h',toks:=t' } :=
 I.write (x:=a) (e:=a) h (.inl rfl) (λb q f z=>(g.2 b f).trans z) i c
theorem zc{P:Program}{w:World}{f:Hp}{h':Heap}{b:List (Key×V)}{vs:List (Key×Value)}(z:b.length<=sizeLine)(e:(a == sysModules)=false)(c:KV b vs)(d:h'.DictOf (aY P w) a vs) :
  ObjOk P w f h' a (.dK b):=⟨z,e,vs,c,d⟩
theorem vE{G:Hp}{Q:Unit->Shared->Prop}(N:A.units+1<cLine)(I:Inv X pins σ H s)(g:DPut H a y v G)(F:RelV y u)(D:RelV v r)(h:∀ s',Inv X pins σ G s'->Q () s') :
  wpAny (model X.prog X.w) A (setItem (.ref a) u r) Q E s:=by
 rcases g with⟨f,k,e,C,l,B⟩ | ⟨f,k,b,e,C,J,l,B⟩
 .subst C B
  obtain⟨z,o,Y,d,p⟩:=ve I.hok e;have m:Y.length<=sizeLine:=by rw[<- d.length];exact z
  have x:(cv f k v).length<=sizeLine:=by have:=dC f k v;lia
  refine wpAny_setItem_pairs (hsz:=m) (pM F) p λK i w=>h _ ?_
  have M:∃ q,K.get? a=some q:=let ⟨q,_,_,j,_⟩:=i;⟨q,j⟩;exact oi I (by rw[e];exact True.intro) w M (zc x o (d.put k D) i)
 .subst C B
  cases(show u=Value.ref b from F);obtain⟨z,o,S,d,p⟩:=DI I.hok e;have m:S.length<=sizeLine:=by rw[<- Paired.length d];exact z
  have x:(cv f k v).length<=sizeLine:=by have:=dC f k v;lia
  refine wpAny_setItem_heap (hsz:=m) (tupleKind_room_in1 N) (pH I.hok J) p λK i w=>h _ ?_
  obtain⟨q,W,L,j,T,P,R,_,O⟩:=i;refine oi I (by rw[e];exact True.intro) w ⟨q,j⟩ ⟨x,o,_,(d.put k J D).keeps λc ys ec=>?_,q,W,L,j,T,P,R,O⟩;rw[ar (vd ec e (λz=>nomatch z))];exact ec
end
section
variable {X:Cx}{pins:List (Addr×Obj)}{σ:St}{H:Hp}{s:Shared}{a:Addr}{kvs:List (Key×V)}{k:Key}{u:Value}{A:Around}{E:Value->Shared->Prop}
end
def Ev(i:Expr):Prop:=∀ ov iv,subscripted i false ov iv=operate [ov,iv] (getItem ov iv)
theorem zo{prog:Program}{w:World}{A:Around}{E:Value->Shared->Prop}{s:Shared}{env:Env}{b a:Expr}{j:Pos}{T m:String}{Q:Value->Shared->Prop}
  (u:typeLookup (.type T) "__getitem__" = pure (some (.builtin m))) (p:Ev a)
  (h:wpAny (model prog w) A (eval b env) (λo s₁=>wpAny (model prog w) A (eval a env) (λi s₂=>s₂.TypeIs o T/\wpAny (model prog w) A (getItem o i) Q E s₂) E s₁) E s) :
  wpAny (model prog w) A (eval (.Subscript b a j) env) Q E s:=by
 refine Subscript_ (wpAny_mono h (λo s₁ f=>wpAny_mono f (λi s₂ c=>?_) λ_ _ x=>x) λ_ _ x=>x);obtain⟨l,c⟩:=c;unfold subscriptTail;refine wpAny_bind ?_;rw[getitemInPython_of_ne l.not_modules];refine wpAny_bind (wpAny_specialOf l u ?_)
 have e:wpAny (model prog w) A (subscripted a false o i) (λr d=>wpAny (model prog w) A (letTemporaryGo b o r >>= λ_=>pure r) Q E d) E s₂:=by
  rw[p o i];exact wpAny_operating (wpAny_mono c (λr d g=>wpAny_bind (wpAny_letTemporaryGo (wpAny_pure g))) λ_ _ x=>x)
 first
  | exact wpAny_pure (wpAny_bind e)
  | exact wpAny_bind (wpAny_pure (wpAny_bind e))
  | exact wpAny_bind e
theorem rF{X:Cx}{c:List (Addr×Obj)}{h:St}{H:Hp}{s:Shared}{a:Addr}{y:V}{o:Option V}(I:Inv X c h H s)(g:DGet H a y o):s.TypeIs (.ref a) "dict" := by
 rcases g with⟨f,k,e,_,_⟩ | ⟨f,k,b,e,_,_,_⟩
 .obtain⟨_,_,i,_,d⟩:=qf I.hok e
  exact d.typeIs
 .obtain⟨_,_,j,_,d⟩:=qt I.hok e
  exact d.typeIs
inductive rDGet(x y:V)(H:Hp)(Q:VK):Prop
 | mk(a:Addr)(v:V)(h0:x=.ref a)(h1:DGet H a y (some v))(h2:Q v H):rDGet x y H Q
def Ef(td ty:TE):TE:=λσ H Q=>td σ H λx H1=>ty σ H1 λy H2=>rDGet x y H2 Q
def Dx(td ty tv:TE):TS:=λD σ H=>tv σ H λv H1=>td σ H1 λx H2=>ty σ H2 λy H3=>∃ a H4,x=.ref a/\DPut H3 a y v H4/\D.nx σ H4
section
variable {X:Cx}{o i e value:Expr}{pos pos' tpos:Pos}{td ty tv:TE}
theorem t8(m:X.A.units+1<cLine)(e:PE X o td)(hi:PE X i ty)(f:Ev i):PE X (.Subscript o i pos) (Ef td ty):=by
 intro b s d H Q I h;refine zo PySem.F.slot_dict_getitem.lookup f (thn (e b s d H _ I h) λu p ⟨x,A,w,j,l⟩=>thn (hi b p d A _ w l) λiv s2 ⟨y,H2,I2,ry,a,v,ex,g,q2⟩=>?_);subst ex;obtain rfl:u=Value.ref a:=j;exact⟨rF I2 g,vY m I2 g ry λB C r c=>⟨v,H2,r,c,q2⟩⟩
theorem oq(j:X.A.units+1<cLine)(d:PE X o td)(hi:PE X i ty)(w:PE X value tv)(e:swapsWith value (some (.Subscript o i pos')) pos.line X.env=pure false) :
  PS X (.Assign [.Subscript o i pos'] value pos) (Dx td ty tv):=by
 intro b s c H D I h;refine wpAny_Assign_Subscript (thn (w b s c H _ I h) λr m ⟨v,B,A,p,f⟩=>thn (d b m c B _ A f) λu s2 ⟨x,H2,I2,rx,q2⟩=>thn (hi b s2 c H2 _ I2 q2) λiv s3 ⟨y,H3,I3,ry,a,H4,ex,g,q3⟩=>?_) e;subst ex;obtain rfl:u=Value.ref a:=rx
 exact vE j I3 g ry p λC l=>⟨c,H4,l,q3⟩
end
theorem yn{P:Program}{w:World}{H:Hp}(h:Heap)(a:sysModules<h.objs.size):ObjOk P w H (h.push { cls:=.type "dict",data:=.dict #[] }) h.objs.size (.dK []) :=
 ⟨Nat.zero_le _,beq_eq_false_iff_ne.mpr (Ne.symm (Nat.ne_of_lt a)),[],.nil,Heap.DictOf.new h⟩
theorem zf{P:Program}{w:World}{H:Hp}(h:Heap)(a:sysModules<h.objs.size):ObjOk P w H (h.push { cls:=.type "dict",data:=.dict #[] }) h.objs.size (.dT []) :=
 ⟨Nat.zero_le _,beq_eq_false_iff_ne.mpr (Ne.symm (Nat.ne_of_lt a)),[],.nil,_,#[],0,Heap.get?_push_size _ rfl,⟨rfl,rfl,rfl⟩,rfl,rfl,nodup_nil⟩
def Cq:TE:=λ_ H Q=>∀ p,H p=none->Q (.ref p) (upd H p (.dK []))
def Ca:TE:=λ_ H Q=>∀ p,H p=none->Q (.ref p) (upd H p (.dT []))
section
variable {X:Cx}{pos:Pos}
theorem rm:PE X (.Dict [] [] pos) Cq:=λb s c H Q I h =>
 wpAny_Dict_empty ⟨.ref s.heap.objs.size,_,I.laid (a:=s.heap.objs.size) (o:=.dK []) (t':=s.toks) (λ_ _ q=>Heap.get?_push_of_some _ q) (Nat.le_refl _) (yn s.heap I.big),rfl,h _ (I.hok.fresh (Nat.le_refl _))⟩
theorem wR:PE X (.Dict [] [] pos) Ca:=λb s c H Q I h =>
 wpAny_Dict_empty ⟨.ref s.heap.objs.size,_,I.laid (a:=s.heap.objs.size) (o:=.dT []) (t':=s.toks) (λ_ _ q=>Heap.get?_push_of_some _ q) (Nat.le_refl _) (zf s.heap I.big),rfl,h _ (I.hok.fresh (Nat.le_refl _))⟩
end
structure M2(X:Cx)(o:Expr)(m:Str)(apos:Pos)(e f:Expr)(cpos:Pos):Prop where
 base:attributeBase o m X.env (eval o X.env)=eval o X.env
 few:((backTo cpos (starEach [e,f] X.env)).all (λx=>!x.1) && (backToKw cpos (keywordEach [] X.env)).all (λx=>x.1.isSome)
  && decide (([e,f]:List Expr).length+([]:List Keyword).length+(if ([]:List Keyword).isEmpty then 0 else 1)<30))=true
 line:(apos.endLine == cpos.line)=true
 trees:backTo cpos (starEach [e,f] X.env)=[(false,eval e X.env),(false,eval f X.env)]
def IsD(H:Hp)(a:Addr):Prop:=(∃ kvs,Rd H a (.dK kvs))\/∃ kvs,Rd H a (.dT kvs)
theorem CW{X:Cx}{f:List (Addr×Obj)}{l:St}{H:Hp}{s:Shared}{a:Addr}(I:Inv X f l H s)(d:IsD H a) :
  s.TypeIs (.ref a) "dict" /\ (∀ b,Value.ref a=.ref b->∃ ob,s.heap.get? b=some ob/\ob.dict=none)/\(a == sysModules)=false:=by
 rcases d with⟨i,e⟩ | ⟨i,e⟩
 .obtain⟨_,h,m,_,c⟩:=qf I.hok e
  refine⟨c.typeIs,λb q=>?_,h⟩;cases q;obtain⟨ob,_,_,j,g,_⟩:=c;exact⟨ob,j,g.2.1⟩
 .obtain⟨_,h,o,_,c⟩:=qt I.hok e
  refine⟨c.typeIs,λb q=>?_,h⟩;cases q;obtain⟨ob,_,_,j,g,_⟩:=c;exact⟨ob,j,g.2.1⟩
section
variable {X:Cx}{pins:List (Addr×Obj)}{σ:St}{H:Hp}{s:Shared}{a:Addr}{y d:V}{u r:Value}{o:Option V}{A:Around}{E:Value->Shared->Prop}
theorem Ce{Q:Value->Shared->Prop}(w:A.units+1<cLine)(I:Inv X pins σ H s)(g:DGet H a y o)(v:RelV y u)(p:RelV d r)(h:∀ w' s',Inv X pins σ H s'->RelV (o.getD d) w'->Q w' s') :
  wpAny (model X.prog X.w) A (call (.builtin "dict.get") [.ref a,u,r]) Q E s:=by
 rcases g with⟨m,k,e,j,l⟩ | ⟨m,k,b,e,j,x,l⟩
 .subst j
  obtain⟨z,i,C,c,f⟩:=qf I.hok e;refine call_meetsIn PySem.F.slot_dict_get f.typeIs PySem.F.entry_dict_get (PySem.F.args_dict_get_3 _ _ _) (meets_dict_get_default (aY X.prog X.w) a (pM v) i r) ⟨_,f.mapOf,h _ _ (I.tok _) ?_⟩;rw[l];exact(c.val k).getD p
 .subst j
  cases(show u=Value.ref b from v);obtain⟨z,i,B,c,f⟩:=qt I.hok e;refine call_meetsIn PySem.F.slot_dict_get f.typeIs PySem.F.entry_dict_get (PySem.F.args_dict_get_3 _ _ _) (meetsH_dict_get_default (tupleKind (aY X.prog X.w)) a b i r) ⟨tupleKind_room_in1 w,k,B,pH I.hok x,f,h _ _ (I.tok _) ?_⟩;rw[l];exact(c.val k).getD p
end
def B8(td ty tx:TE):TE:=λσ H Q=>td σ H λx H1=>∃ a,x=.ref a/\IsD H1 a/\ty σ H1 λy H2=>tx σ H2 λz H3=>∃ o,DGet H3 a y o/\Q (o.getD z) H3
section
variable {X:Cx}{o e f:Expr}{apos cpos:Pos}{td ty tx:TE}
theorem yM(F:X.A.units+1<cLine)(G:PE X o td)(C:PE X e ty)(P:PE X f tx)(m:M2 X o "get" apos e f cpos):PE X (.Call (.Attribute o "get" apos) [e,f] [] cpos) (B8 td ty tx):=by
 intro b s c H Q I h;refine wpAny_Call_method m.base m.few m.line PySem.F.plainAttrs_dict PySem.F.slot_dict_get PySem.F.type_dict_get (thn (G b s c H _ I h) λu v ⟨x,S,j,J,a,L,d,E⟩=>?_);subst L;obtain rfl:u=Value.ref a:=J;obtain⟨r,N,_⟩:=CW j d;refine⟨r,N,?_⟩;rw[m.trees]
 refine Calls.callWith_builtin rfl (Calls.evalArgs_plain (Calls.spliced_cons (thn (C b v c S _ j E) λY A ⟨y,w,R,D,l⟩ =>
  Calls.spliced_cons (thn (P b A c w _ R l) λfv s3 ⟨z,B,O,p,W,g,M⟩=>Calls.spliced_nil ?_))))
 exact Ce F O g D p λZ T K i=>⟨_,B,K,i,M⟩
end
section
variable {X:Cx}{pins:List (Addr×Obj)}{σ:St}{H:Hp}{s:Shared}{a:Addr}{kvs:List (Key×V)}{A:Around}{E:Value->Shared->Prop}
end
section
variable {X:Cx}{pins:List (Addr×Obj)}{σ:St}{H:Hp}{s:Shared}{a:Addr}{y:V}{u:Value}{A:Around}{E:Value->Shared->Prop}
end
theorem OpR.imp{X:Cx}{f:Value->Value->Sem Value}{r b:R2}(h:OpR X f r)(i:∀ x y H Q,b x y H Q->r x y H Q):OpR X f b :=
 λa s d H x y v u Q I c e q=>h a s d H x y v u Q I c e (i x y H Q q)
theorem CallR.imp{X:Cx}{f:Value}{r b:List V->Hp->VK->Prop}(h:CallR X f r)(i:∀ xs H Q,b xs H Q->r xs H Q):CallR X f b :=
 λa s e H xs d Q I c q=>h a s e H xs d Q I c (i xs H Q q)
def tV(i:Nat):TE:=λσ H Q=>match σ[i]? with
 | some (some v)=>Q v H
 | _=>False
theorem vr{X:Cx}(i:Nat){x:Str}{b:Pos}(g:X.N[i]? = some x:=by rfl)(f:Vis X.env.scope x:=by first | exact Or.inl rfl | exact Or.inr (Or.inl rfl) | exact Or.inr (Or.inr rfl))(d:(x == ("__debug__" : Str))=false:=by decide)
  (c:(x == ("__classdict__" : Str))=false:=by decide):PE X (.Name x b) (tV i):=λa s j H Q I h=>by
 refine Cg g f d c a s j H Q I ?_;unfold tV at h
 split at h
 .rename_i v e
  exact⟨v,e,h⟩
 .exact h.elim
def rI2(g:Int->Int->V):R2:=λx y H Q=>match x,y with
 | .int i,.int j=>Q (g i j) H
 | _,_=>False
def rIC(C:Int->Int->Prop)(g:Int->Int->V):R2:=λx y H Q=>match x,y with
 | .int i,.int j=>C i j/\Q (g i j) H
 | _,_=>False
theorem OpR.i2{X:Cx}{f:Value->Value->Sem Value}{g:Int->Int->V}(h:OpR X f (rI0 g)):OpR X f (rI2 g):=h.imp λx y H Q q=>by
 cases x <;> cases y <;> first | exact⟨_,_,rfl,rfl,q⟩ | exact(show False from q).elim
theorem OpR.ic{X:Cx}{f:Value->Value->Sem Value}{C:Int->Int->Prop}{g:Int->Int->V}(h:OpR X f (rI C g)):OpR X f (rIC C g):=h.imp λx y H Q q=>by
 cases x <;> cases y <;> first | exact⟨_,_,rfl,rfl,q.1,q.2⟩ | exact(show False from q).elim
section
variable {X:Cx}
def Dj:R2:=λx y H Q=>match x,y with
 | .int i,.int j=>Q (.int (i+j)) H
 | .str i,.str j=>i.length+j.length<=sizeLine/\Q (.str (i++j)) H
 | _,_=>False
theorem c8:OpR X (binaryOp .Add) Dj:=(op_add.or sV).imp λx y H Q q=>by
 cases x <;> cases y <;> first | exact .inl ⟨_,_,rfl,rfl,q⟩ | exact .inr ⟨_,_,rfl,rfl,q.1,q.2⟩ | exact(show False from q).elim
theorem bE:OpR X (binaryOp .Sub) (rI2 λi j=>.int (i - j)):=op_sub.i2
def D5(i j:Int):Prop:=0<j
def CNn(i j:Int):Prop:=0<=j
theorem cp{i j:Int}(h:0<j:=by decide):D5 i j:=h
theorem cn{i j:Int}(h:0<=j:=by decide):CNn i j:=h
theorem cd{i j:Int}(h:0<j:=by decide)(a:j<1073741824:=by decide):EY i j:=⟨h,a⟩
theorem cw{i j:Int}(h:0<=j:=by decide)(b:j<=1000000:=by decide)(a:i.natAbs<2 ^ 64:=by decide):CM i j:=⟨h,b,a⟩
theorem cl{i j:Int}(h:-(2 ^ 64)<i:=by decide)(a:i<2 ^ 64:=by decide):CMul i j:=.inl ⟨h,a⟩
theorem cr{i j:Int}(h:-(2 ^ 64)<j:=by decide)(a:j<2 ^ 64:=by decide):CMul i j:=.inr ⟨h,a⟩
theorem fQ:OpR X (binaryOp .Mod) (rIC D5 λi j=>.int (i % j)):=op_mod.ic
theorem rE:OpR X (binaryOp .Pow) (rIC CM λi j=>.int (i ^ j.toNat)):=op_pow.ic
theorem vz:OpR X (compareOp .LtE) (λx y H Q=>∃ i j,x=.str i/\y=.str j/\Q (.bl (!decide (j.cps.toList<i.cps.toList))) H):=by
 intro a s d H x y v u Q I b c h;obtain⟨i,j,rfl,rfl,q⟩:=h;obtain⟨t,rfl⟩:=b;obtain⟨e,rfl⟩:=c;exact PySem.P.le_str (aO I q rfl)
def AZ(f:Int->Int->Bool)(g:Str->Str->Bool):R2:=λx y H Q=>match x,y with
 | .int i,.int j=>Q (.bl (f i j)) H
 | .str i,.str j=>Q (.bl (g i j)) H
 | _,_=>False
theorem mG:OpR X (compareOp .Lt) (AZ (λi j=>decide (i<j)) λi j=>decide (i.cps.toList<j.cps.toList)):=(op_lt.or vI).imp λx y H Q q=>by
 cases x <;> cases y <;> first | exact .inl ⟨_,_,rfl,rfl,q⟩ | exact .inr ⟨_,_,rfl,rfl,q⟩ | exact(show False from q).elim
theorem qF:OpR X (compareOp .LtE) (AZ (λi j=>decide (i<=j)) λi j=>!decide (j.cps.toList<i.cps.toList)):=(op_le.or vz).imp λx y H Q q=>by
 cases x <;> cases y <;> first | exact .inl ⟨_,_,rfl,rfl,q⟩ | exact .inr ⟨_,_,rfl,rfl,q⟩ | exact(show False from q).elim
theorem zI:OpR X (compareOp .Gt) (rI2 λi j=>.bl (decide (j<i))):=op_gt.i2
def DR(neg:Bool):R2:=λx y H Q=>match x,y with
 | .int i,.int j=>Q (.bl (if neg then !decide (i=j) else decide (i=j))) H
 | .str i,.str j=>Q (.bl (if neg then !decide (i=j) else decide (i=j))) H
 | .bl i,.bl j=>Q (.bl (if neg then !decide (i=j) else decide (i=j))) H
 | .non,.non=>Q (.bl (!neg)) H
 | .non,.int _=>Q (.bl neg) H
 | .non,.str _=>Q (.bl neg) H
 | .non,.bl _=>Q (.bl neg) H
 | .int _,.non=>Q (.bl neg) H
 | .str _,.non=>Q (.bl neg) H
 | .bl _,.non=>Q (.bl neg) H
 | .int _,.str _=>Q (.bl neg) H
 | .str _,.int _=>Q (.bl neg) H
 | _,_=>False
theorem dM:OpR X (compareOp .Eq) (DR false):=op_eq.imp λx y H Q q=>by
 cases x <;> cases y <;> first | exact(show False from q).elim | exact⟨rfl,q⟩ | exact⟨rfl,by rw[kF];exact q⟩ | exact⟨rfl,by rw[oX];exact q⟩ | exact⟨rfl,by rw[kI];exact q⟩
theorem ya:OpR X (compareOp .NotEq) (DR true):=op_ne.imp λx y H Q q=>by
 cases x <;> cases y <;> first | exact(show False from q).elim | exact⟨rfl,q⟩ | exact⟨rfl,by rw[kF];exact q⟩ | exact⟨rfl,by rw[oX];exact q⟩ | exact⟨rfl,by rw[kI];exact q⟩
def rU1(g:Int->V):V->Hp->VK->Prop:=λx H Q=>match x with
 | .int i=>Q (g i) H
 | _=>False
theorem xz:UnR X (unaryOp .USub) (rU1 λi=>.int (-i)):=λa s b H x v Q I r q=>CN a s b H x v Q I r (by
 cases x <;> first | exact⟨_,rfl,q⟩ | exact(show False from q).elim)
def Fi(neg:Bool):R2:=λx y H Q=>match x,y with
 | .str i,.str j=>Q (.bl (if neg then (Builtin.Str.occurrences j i 0 j.length 1).isEmpty else !(Builtin.Str.occurrences j i 0 j.length 1).isEmpty)) H
 | _,_=>False
theorem DO:OpR X (compareOp .In) (Fi false):=op_in_str.imp λx y H Q q=>by
 cases x <;> cases y <;> first | exact⟨_,_,rfl,rfl,q⟩ | exact(show False from q).elim
def mB(Q:Bool->Hp->Prop):VK:=λx H=>match x with
 | .bl c=>Q c H
 | _=>False
variable {a b c:Expr}{ta tb tc:TE}{pos:Pos}{fj:List Expr}
def EO(ta tb:TE):TE:=λσ H Q=>ta σ H (mB λc H1=>if c=true then tb σ H1 Q else Q (.bl false) H1)
def mOr(ta tb:TE):TE:=λσ H Q=>ta σ H (mB λc H1=>if c=true then Q (.bl true) H1 else tb σ H1 Q)
def Ez(ta:TE):TE:=λσ H Q=>ta σ H (mB λc H1=>Q (.bl (!c)) H1)
theorem jJ{Q:Bool->Hp->Prop}{x:V}{H:Hp}(h:mB Q x H):∃ c,x=.bl c/\Q c H:=by
 cases x <;> first | exact⟨_,rfl,h⟩ | exact(show False from h).elim
theorem di(o:PE X a ta)(j:PE X (.BoolOp .And (b::fj) pos) tb):PE X (.BoolOp .And (a::b::fj) pos) (EO ta tb):=by
 intro d s f H Q I h;refine BoolOp_and (thn (o d s f H _ I h) λv l ⟨x,i,g,m,e⟩=>?_);obtain⟨c,rfl,e⟩:=jJ e;cases m;refine wpAny_truthy_bool ?_;cases c with
 | true=>exact j d l f i Q g e
 | false=>exact⟨.bl false,i,g,rfl,e⟩
theorem Fd(o:PE X a ta)(j:PE X (.BoolOp .Or (b::fj) pos) tb):PE X (.BoolOp .Or (a::b::fj) pos) (mOr ta tb):=by
 intro d s f H Q I h;refine BoolOp_or (thn (o d s f H _ I h) λv l ⟨x,i,g,m,e⟩=>?_);obtain⟨c,rfl,e⟩:=jJ e;cases m;refine wpAny_truthy_bool ?_;cases c with
 | false=>exact j d l f i Q g e
 | true=>exact⟨.bl true,i,g,rfl,e⟩
theorem ud(f:PE X a ta):PE X (.UnaryOp .Not a pos) (Ez ta):=by
 intro b s g H Q I h;refine UnaryOp_ (thn (f b s g H _ I h) λv l ⟨x,j,i,e,d⟩=>?_);obtain⟨c,rfl,d⟩:=jJ d;cases e;exact not_of (wpAny_truthy_bool ⟨.bl (!c),j,i,rfl,d⟩)
def mT(t:TE):TT:=λσ H Q=>t σ H (mB Q)
theorem bT(h:PE X a ta)(j:∀ whole,isTrue a X.env whole=(do let v <- whole;standAt a.pos;holding [v] (truthy v)):=by intro _;rfl):PT X a (mT ta):=by
 intro b s g H Q I e;refine isTrue_plain (thn (h b s g H _ I e) λv m ⟨x,l,i,f,c⟩=>?_) (j _);obtain⟨d,rfl,q⟩:=jJ c;cases f;exact wpAny_truthy_bool ⟨l,i,q⟩
theorem a5{e:CmpOp}{r:R2}(i:OpR X (compareOp e) r)(B:PE X a ta)(j:PE X b tb)(l:behindInMarks e b=false):PT X (.Compare a [e] [b] pos) (mT (tOp r ta tb)):=by
 intro d s f H Q I h
 refine wpAny_isTrue_Compare1 (thn (B d s f H _ I h) λv p ⟨x,o,E,A,m⟩=>thn (j d p f o _ E m) λu s2 ⟨y,H2,I2,r2,q2⟩ =>
  thn (i d s2 f H2 x y v u _ I2 A r2 q2) λc F ⟨z,D,w,C,g⟩=>?_) l
 obtain⟨k,rfl,g⟩:=jJ g;cases C;exact wpAny_truthy_bool ⟨D,w,g⟩
def CF(r r':R2)(ta tb tc:TE):TE:=λσ H Q=>ta σ H λx H1=>tb σ H1 λy H2=>r x y H2 (mB λk H3=>if k=true then tc σ H3 λw' H4=>r' y w' H4 Q else Q (.bl false) H3)
theorem kK{j f:CmpOp}{r o:R2}(L:OpR X (compareOp j) r)(l:OpR X (compareOp f) o)(D:PE X a ta)(w:PE X b tb)(P:PE X c tc)
  (N:lastMarks [j,f] [b,c]=false:=by with_unfolding_all rfl):PE X (.Compare a [j,f] [b,c] pos) (CF r o ta tb tc):=by
 intro e s g H Q I h
 refine Compare_chain (thn (D e s g H _ I h) λv B ⟨x,W,K,T,G⟩=>chain_link (thn (w e B g W _ K G) λu s2 ⟨y,H2,I2,r2,q2⟩ =>
  thn (L e s2 g H2 x y v u _ I2 T r2 q2) λd S ⟨z,m,p,J,i⟩=>?_)) N
 obtain⟨k,rfl,i⟩:=jJ i;cases J;refine wpAny_truthy_bool ?_;cases k with
 | false=>exact ite_ff ⟨.bl false,m,p,rfl,i⟩
 | true=>exact ite_tt (chain_last (thn (P e S g m _ p i) λM C ⟨E,R,O,F,A⟩=>l e C g R y E u M Q O r2 F A))
open PySem.W in
theorem xa{f:List (Addr×Obj)}{g:St}{H:Hp}{s:Shared}{x:V}{u t:Value}(I:Inv X f g H s)(b:RelV x u)(ty:TyOf X.K H x t) :
  ∃ Hh:Heap->Prop,KitX X.K u t Hh/\Hh s.heap/\u≠.builtin "__main__.__loader__#opaque" := by
 cases ty with
 | non=>cases(show u=Value.none from b);exact⟨_,PySem.W.kitx_none,True.intro,λz=>nomatch z⟩
 | bl y=>cases(show u=Value.bool y from b);exact⟨_,PySem.W.kitx_bool,True.intro,λz=>nomatch z⟩
 | int i=>obtain⟨t,q⟩:=(show ∃ t,u=Value.int i t from b);cases q;exact⟨_,PySem.W.kitx_int,True.intro,λz=>nomatch z⟩
 | str y=>obtain⟨t,q⟩:=(show ∃ t,u=Value.str y t from b);cases q;exact⟨_,PySem.W.kitx_str,True.intro,λz=>nomatch z⟩
 | flt y=>obtain⟨t,q⟩:=(show ∃ t,u=Value.float y t from b);cases q;exact⟨_,PySem.W.kitx_float,True.intro,λz=>nomatch z⟩
 | @lst a d ea =>
  cases(show u=Value.ref a from b)
  obtain⟨_,_,n,_,c⟩:=(show ObjOk X.prog X.w H s.heap a (.lst d) from I.hok a _ ea)
  exact⟨_,kitx_list,⟨_,c,rfl⟩,λz=>nomatch z⟩
 | @frz a ob d ea =>
  cases(show u=Value.ref a from b)
  obtain⟨_,_,_,n,_,c⟩:=(show ObjOk X.prog X.w H s.heap a (.frz ob (.lst d)) from I.hok a _ ea)
  exact⟨_,kitx_list,⟨_,c,rfl⟩,λz=>nomatch z⟩
 | @tup a d ea =>
  cases(show u=Value.ref a from b)
  obtain⟨_,_,_,p⟩:=(show ObjOk X.prog X.w H s.heap a (.tup d) from I.hok a _ ea)
  obtain⟨o,c,e,_⟩:=p;exact⟨_,kitx_tuple,⟨o,c,e⟩,λz=>nomatch z⟩
 | @dK a kvs ea =>
  cases(show u=Value.ref a from b)
  obtain⟨_,_,r,_,p⟩:=(show ObjOk X.prog X.w H s.heap a (.dK kvs) from I.hok a _ ea)
  obtain⟨o,h,j,c,e,_⟩:=p;exact⟨_,kitx_dict,⟨o,c,e.1⟩,λz=>nomatch z⟩
 | @dT a kvs ea =>
  cases(show u=Value.ref a from b)
  obtain⟨_,_,d,_,o,h,j,c,e,_⟩:=(show ObjOk X.prog X.w H s.heap a (.dT kvs) from I.hok a _ ea)
  exact⟨_,kitx_dict,⟨o,c,e.1⟩,λz=>nomatch z⟩
 | @ins a C dx fs ea cl ha hn htk hm =>
  cases(show u=Value.ref a from b);obtain⟨l,O,_⟩:=kD I.hok ea;obtain⟨m,J,_⟩:=O.look;exact⟨_,PySem.W.kitx_own (cl.get _) cl.hd ha hn htk hm,J,λz=>nomatch z⟩
def CV:V->Value
 | .ty n=>.type n
 | .ref a=>.ref a
 | _=>.none
def xx:V->Bool
 | .ty _=>true
 | .ref _=>true
 | _=>false
theorem ux{c:V}{u:Value}(h:xx c=true)(r:RelV c u):u=CV c:=by
 cases c <;> first | exact r | exact absurd (show false=true from h) Bool.false_ne_true
inductive rIsi(K:Frag)(xs:List V)(H:Hp)(Q:VK):Prop
 | mk(x c:V)(t:_)(b:Bool)(h0:xs=[x,c])(h1:xx c=true)(h2:TyOf K H x t)(h3:kitOne K t (CV c)=some b)(h4:Q (.bl b) H):rIsi K xs H Q
theorem cJ:CallR X (.builtin "isinstance") (rIsi X.K):=by
 intro a s w H v m Q I r h;obtain⟨x,c,t,b,rfl,j,d,e,q⟩:=h;obtain⟨u,o,rfl,g,l⟩:=tT r;cases ux j l;obtain⟨y,Z,p,i⟩:=xa I g d
 exact kia_one Z I.kIn p e i λf=>⟨.bl b,H,I.tok f,rfl,q⟩
theorem nO(B:X.calm=true):CallR X (.builtin "all") (λxs H Q=>∃(p:Addr) (ys:List V) (bs:List Bool),xs=[.ref p]/\SqL X.K H p ys/\ys=bs.map V.bl/\Q (.bl (bs.all id)) H):=by
 intro o s F H xs J Q I r h;obtain⟨p,ys,bs,rfl,w,rfl,q⟩:=h;obtain⟨u,rfl,y⟩:=dL r;cases y;obtain⟨a,d,f,G⟩:=I.list w;have g:p<s.heap.objs.size:=by obtain⟨_,_,e,_⟩:=f;exact Heap.lt_size e
 refine call_all_walk (wpAny_pyIter_list f.isList ?_)
 refine⟨s.heap.objs.size,[s.heap.objs.size,p],[s.heap.objs.size],a.toArray.size,_,_,λi=>(bs[i]?).getD true,rfl,Walks.list (A:=X.A.in1) (I.ok.hd B) _ p (Nat.ne_of_lt g) a.toArray,
  ⟨⟨_,Heap.get?_push_size _ rfl,rfl,rfl⟩,f.isList.push _⟩,λi v L E K D j=>?_,λh' tk hk=>?_⟩
 .have m:a[i]? = some v:=by simpa using D
  have c:i<(bs.map V.bl).length:=by rw[d.length];exact(List.getElem?_eq_some_iff.mp m).1
  obtain⟨b,hb⟩:∃ b,bs[i]? = some b:=⟨bs[i]'(by simpa using c),by simp at c;simp[c]⟩
  obtain⟨u,l,C⟩:=d.get (i:=i) (x:=V.bl b) (by rw[List.getElem?_map,hb];rfl);rw[m]at l;cases l;cases C;simp only[hb,Option.getD_some]at j;exact wpAny_truthy_bool j
 .have e:((List.range a.toArray.size).all λi=>(bs[i]?).getD true)=bs.all id:=by
   rw[size_toArray,<- d.length,length_map];exact LSm.range_all bs
  rw[e];exact⟨.bl _,H,I.kept (LSm.kept_iter hk),rfl,q⟩
end
theorem xr{Q:V->Prop}{p r:Prop}[Decidable p][Decidable r](q:Q (.bl (decide (p/\r)))):if decide p=true then Q (.bl (decide r)) else Q (.bl false):=by
 by_cases h:p
 .rw[if_pos (decide_eq_true h)]
  have e:decide (p/\r)=decide r:=by by_cases z:r <;> simp[h,z]
  rw[<- e];exact q
 .rw[if_neg (λz=>h (of_decide_eq_true z))]
  have e:decide (p/\r)=false:=decide_eq_false λz=>h z.1
  rw[<- e];exact q
theorem ifP{c:Prop}[Decidable c]{A B:Prop}(a:c)(h:A):if decide c=true then A else B:=by rw[if_pos (decide_eq_true a)];exact h
theorem ifN{c:Prop}[Decidable c]{A B:Prop}(a:¬c)(h:B):if decide c=true then A else B:=by rw[if_neg (λz=>a (of_decide_eq_true z))];exact h
theorem ifC{c:Prop}[Decidable c]{A B:Prop}(a:c->A)(b:¬c->B):if decide c=true then A else B:=by
 by_cases h:c
 .exact ifP h (a h)
 .exact ifN h (b h)
theorem ifB{b:Bool}{A B:Prop}(a:b=true->A)(c:b=false->B):if b=true then A else B:=by
 cases b with
 | true=>rw[if_pos rfl];exact a rfl
 | false=>rw[if_neg Bool.false_ne_true];exact c rfl
theorem lR{b:Type}{xs:List b}{i:Int}(d:0<=i)(f:i<xs.length):∃ c,c∈xs/\atI xs i=some c:=by
 have a:i.toNat<xs.length:=by lia
 refine⟨xs[i.toNat],getElem_mem a,?_⟩;have e:((i.toNat:Nat):Int)=i:=by lia
 have:=aQ (xs:=xs) (j:=i.toNat) (v:=xs[i.toNat]) (by simp[a]);rwa [e]at this
theorem aF:bootBuiltins "len" = some (.builtin "len"):=by decide +kernel
theorem aX:bootBuiltins "isinstance" = some (.builtin "isinstance"):=by decide +kernel
theorem xb:bootBuiltins "all" = some (.builtin "all"):=by decide +kernel
theorem si:bootBuiltins "min" = some (.builtin "min"):=by decide +kernel
theorem oV:bootBuiltins "enumerate" = some (.type "enumerate"):=by decide +kernel
theorem rC:bootBuiltins "range" = some (.type "range"):=by decide +kernel
theorem CD:bootBuiltins "str" = some (.type "str"):=by decide +kernel
theorem oU:bootBuiltins "int" = some (.type "int"):=by decide +kernel
theorem uw:bootBuiltins "bool" = some (.type "bool"):=by decide +kernel
theorem i6:bootBuiltins "list" = some (.type "list"):=by decide +kernel
theorem i7:bootBuiltins "tuple" = some (.type "tuple"):=by decide +kernel
theorem be{X:Cx}{x:Str}{v:V}{a:Pos}(b:Gl X x)(h:∃ u,X.mg x=some u/\RelV v u)(c:(x == ("__debug__" : Str))=false:=by decide):PE X (.Name x a) (tC v) :=
 let ⟨_,e,r⟩:=h
 zq b e r c
def D9(K:Frag)(tl:TE):TI:=λσ H R=>tl σ H λx H1=>match x with
 | .str z=>R (Its z) H1
 | .ref a=>((∃ xs,SqL K H1 a xs)/\R (Itl K a) H1)\/((∃ xs,SqT K H1 a xs)/\R (Itt K a) H1)
 | _=>False
theorem aN{X:Cx}{tg l:Expr}{tl:TE}(r:PE X l tl):PI X tg l (D9 X.K tl):=by
 intro g s C H R I h;have B:PE X l tl:=r;refine thn (r g s C H _ I h) λv c ⟨x,m,d,u,i⟩=>?_
 cases x with
 | str z =>
  have:=BE (X:=X) (tg:=tg) (l:=l) (tl:=tC (.str z));obtain⟨t,rfl⟩:=u;refine wpAny_pyIter_strU ?_;refine⟨c.heap.objs.size,[c.heap.objs.size],_,_,m,rfl,d.kept (t':=c.toks) λb o e=>Heap.get?_push_of_some _ e,pV (ty:=strIterType z) (t:=t) z _ ?_,⟨_,Heap.get?_push_size _ rfl,rfl,rfl⟩,λb hb=>?_,i⟩
  .unfold strIterType
   split
   .exact .inl rfl
   .exact .inr rfl
  .have e:b=c.heap.objs.size:=by simpa using hb
   subst e;exact d.fpOk (Nat.le_refl _) (d.hok.fresh (Nat.le_refl _))
 | ref a =>
  cases u
  rcases i with⟨⟨A,j⟩,q⟩ | ⟨⟨A,j⟩,q⟩
  .obtain⟨f,y,p,w⟩:=d.list j
   refine wpAny_pyIter_list p.isList ?_;refine⟨c.heap.objs.size,[c.heap.objs.size],_,_,m,rfl,d.kept (t':=c.toks) λb o e=>Heap.get?_push_of_some _ e,vB a _,⟨_,Heap.get?_push_size _ rfl,rfl,rfl⟩,λb hb=>?_,q⟩;have e:b=c.heap.objs.size:=by simpa using hb
   subst e;exact d.fpOk (Nat.le_refl _) (d.hok.fresh (Nat.le_refl _))
  .obtain⟨f,y,p,w⟩:=d.tuple j
   refine wpAny_pyIter_tuple (show c.heap.IsTuple a f.toArray from p) ?_;refine⟨c.heap.objs.size,[c.heap.objs.size],_,_,m,rfl,d.kept (t':=c.toks) λb o e=>Heap.get?_push_of_some _ e,rW a _,⟨_,Heap.get?_push_size _ rfl,rfl,rfl⟩,λb hb=>?_,q⟩;have e:b=c.heap.objs.size:=by simpa using hb
   subst e;exact d.fpOk (Nat.le_refl _) (d.hok.fresh (Nat.le_refl _))
 | _=>exact(show False from i).elim
inductive rLenSq(K:Frag)(p:Addr)(H:Hp)(Q:VK):Prop
 | mk(ys:List V)(h0:SqL K H p ys\/SqT K H p ys)(h1:Q (.int ys.length) H):rLenSq K p H Q
theorem ax{X:Cx}:CallR X (.builtin "len") (λxs H Q=>match xs with
  | [.str z]=>z.length<=sizeLine/\Q (.int z.length) H
  | [.ref p]=>rLenSq X.K p H Q
  | _=>False):=(call_len_str.or oB).imp λxs H Q q=>by
 match xs,q with
 | [.str z],q=>exact .inl ⟨z,rfl,q.1,q.2⟩
 | [.ref p],q=>obtain⟨a,h,q⟩:=q;exact .inr ⟨p,a,rfl,h,q⟩
section
variable {D:Addr}{σb:St}{g:TG}{tt:TT}{te:TE}{Q:Hp->List V->Prop}{H:Hp}{K:Frag}
def rH(D:Addr)(σb:St)(g:TG)(tt:TT)(te:TE)(x:V)(ys:List V)(H:Hp)(P:List V->Hp->Prop):Prop :=
 g x σb H λσ4 H4=>Wk σb σ4/\tt σ4 H4 λb H5=>if b=true then te σ4 H5 λy H6=>H6 D=some (.lst ys)/\ys.length<sizeLine/\P (ys++[y]) (upd H6 D (.lst (ys++[y]))) else P ys H5
theorem wX{z:Str}(d:Nat->List V->Hp->Prop)(o:d 0 [] H)(l:∀ i ys H,d i ys H->H D=some (.lst ys))
  (f:∀(i c:Nat) ys H P,z.cps[i]? = some c->d i ys H->(∀ a b,d (i+1) a b->P a b)->rH D σb g tt te (.str ⟨#[c]⟩) ys H P) (j:∀ ys H,d z.cps.size ys H->Q H ys):∃ W,(∃ m,W 0 m [] H)/\j9 (Its z) D σb g tt te Q W:=by
 refine⟨λi m ys H=>m=z.cps.size - i/\i<=z.cps.size/\d i ys H,⟨_,rfl,Nat.zero_le _,o⟩,?_⟩;rintro i m ys H ⟨rfl,r,p⟩;refine⟨l i ys H p,?_⟩
 by_cases hlt:i<z.cps.size
 .refine .inr ⟨hlt,λx s y=>?_⟩
  obtain⟨rfl,c,h,rfl⟩:=y;exact f i c ys _ (λa b=>∃ m',m'<z.cps.size - i/\m'=z.cps.size - (i+1)/\i+1<=z.cps.size/\d (i+1) a b) h p (λa b q=>⟨z.cps.size - (i+1),by lia,rfl,hlt,q⟩)
 .have e:i=z.cps.size:=by lia
  subst e;exact .inl ⟨Nat.le_refl _,j ys H p⟩
theorem aD{a:Addr}{xs:List V}(c:Nat->List V->Hp->Prop)(j:c 0 [] H)(l:∀ i ys H,c i ys H->SqL K H a xs)(f:∀ i ys H,c i ys H->H D=some (.lst ys))
  (d:∀(i:Nat) x ys H P,xs[i]? = some x->c i ys H->(∀ a b,c (i+1) a b->P a b)->rH D σb g tt te x ys H P) (h:∀ ys H,c xs.length ys H->Q H ys):∃ W,(∃ m,W 0 m [] H)/\j9 (Itl K a) D σb g tt te Q W:=by
 refine⟨λi m ys H=>m=xs.length - i/\i<=xs.length/\c i ys H,⟨_,rfl,Nat.zero_le _,j⟩,?_⟩;rintro i m ys H ⟨rfl,o,p⟩;refine⟨f i ys H p,?_⟩;have q:=l i ys H p
 by_cases hlt:i<xs.length
 .refine .inr ⟨⟨xs,xs[i],q,by simp[hlt]⟩,λx r y=>?_⟩
  obtain⟨rfl,y⟩:=y;exact d i x ys _ (λa b=>∃ m',m'<xs.length - i/\m'=xs.length - (i+1)/\i+1<=xs.length/\c (i+1) a b) (y xs q) p (λa b q=>⟨xs.length - (i+1),by lia,rfl,hlt,q⟩)
 .have e:i=xs.length:=by lia
  subst e;exact .inl ⟨⟨xs,q,Nat.le_refl _⟩,h ys H p⟩
theorem yN{a:Addr}{xs:List V}(c:Nat->List V->Hp->Prop)(j:c 0 [] H)(l:∀ i ys H,c i ys H->SqT K H a xs)(f:∀ i ys H,c i ys H->H D=some (.lst ys))
  (d:∀(i:Nat) x ys H P,xs[i]? = some x->c i ys H->(∀ a b,c (i+1) a b->P a b)->rH D σb g tt te x ys H P) (h:∀ ys H,c xs.length ys H->Q H ys):∃ W,(∃ m,W 0 m [] H)/\j9 (Itt K a) D σb g tt te Q W:=by
 refine⟨λi m ys H=>m=xs.length - i/\i<=xs.length/\c i ys H,⟨_,rfl,Nat.zero_le _,j⟩,?_⟩;rintro i m ys H ⟨rfl,o,p⟩;refine⟨f i ys H p,?_⟩;have q:=l i ys H p
 by_cases hlt:i<xs.length
 .refine .inr ⟨⟨xs,xs[i],q,by simp[hlt]⟩,λx r y=>?_⟩
  obtain⟨rfl,y⟩:=y;exact d i x ys _ (λa b=>∃ m',m'<xs.length - i/\m'=xs.length - (i+1)/\i+1<=xs.length/\c (i+1) a b) (y xs q) p (λa b q=>⟨xs.length - (i+1),by lia,rfl,hlt,q⟩)
 .have e:i=xs.length:=by lia
  subst e;exact .inl ⟨⟨xs,q,Nat.le_refl _⟩,h ys H p⟩
theorem ji{lo:Int}{n:Nat}(c:Nat->List V->Hp->Prop)(j:c 0 [] H)(f:∀ i ys H,c i ys H->H D=some (.lst ys))
  (d:∀(i:Nat) ys H P,i<n->c i ys H->(∀ a b,c (i+1) a b->P a b)->rH D σb g tt te (.int (lo+i)) ys H P) (h:∀ ys H,c n ys H->Q H ys):∃ W,(∃ m,W 0 m [] H)/\j9 (Itr lo n) D σb g tt te Q W:=by
 refine⟨λi m ys H=>m=n - i/\i<=n/\c i ys H,⟨_,rfl,Nat.zero_le _,j⟩,?_⟩;rintro i m ys H ⟨rfl,l,p⟩;refine⟨f i ys H p,?_⟩
 by_cases hlt:i<n
 .refine .inr ⟨hlt,λx o y=>?_⟩
  obtain⟨rfl,rfl⟩:=y;exact d i ys _ (λa b=>∃ m',m'<n - i/\m'=n - (i+1)/\i+1<=n/\c (i+1) a b) hlt p (λa b q=>⟨n - (i+1),by lia,rfl,hlt,q⟩)
 .have e:i=n:=by lia
  subst e;exact .inl ⟨Nat.le_refl _,h ys H p⟩
end
theorem Same.new{H:Hp}{p:Addr}{o:HO}(h:H p=none):Same H (upd H p o):=λb u e=>by rw[ar (ay e h)];exact e
mutual
def DV(K:Frag)(H:Hp):PyData->V->Prop
 | .none,x=>x=.non
 | .bool b,x=>x=.bl b
 | .int i,x=>x=.int i
 | .str z,x=>x=.str z
 | .list ds,x=>∃ a xs,x=.ref a/\SqL K H a xs/\DVs K H ds xs
 | .tuple ds,x=>∃ a xs,x=.ref a/\SqT K H a xs/\DVs K H ds xs
 | .dict _,_=>False
def DVs(K:Frag)(H:Hp):List PyData->List V->Prop
 | [],xs=>xs=[]
 | d::ds,xs=>∃ y ys,xs=y::ys/\DV K H d y/\DVs K H ds ys
end
section
variable {X:Cx}{pins:List (Addr×Obj)}{σ:St}{H:Hp}{s:Shared}
mutual
theorem DV.reads(I:Inv X pins σ H s):∀{d:PyData}{x:V}{u:Value},DV X.K H d x->RelV x u->∃ as,Reads s.heap u d as
 | .none,x,u,h,r=>by
  rw[DV]at h;subst h;cases r;exact⟨_,.none⟩
 | .bool b,x,u,h,r=>by
  rw[DV]at h;subst h;cases r;exact⟨_,.bool b⟩
 | .int i,x,u,h,r=>by
  rw[DV]at h;subst h;obtain⟨t,rfl⟩:=r;exact⟨_,.int i t⟩
 | .str z,x,u,h,r=>by
  rw[DV]at h;subst h;obtain⟨t,rfl⟩:=r;exact⟨_,.str z t⟩
 | .list ds,x,u,h,r=>by
  rw[DV]at h;obtain⟨a,m,rfl,f,j⟩:=h;cases r;obtain⟨l,g,⟨o,n,e,c,_,d⟩,_⟩:=I.list f;obtain⟨as,q⟩:=DVs.reads I j g;exact⟨_,.list e c d (by simpa using q)⟩
 | .tuple ds,x,u,h,r=>by
  rw[DV]at h;obtain⟨a,m,rfl,f,j⟩:=h;cases r;obtain⟨l,g,⟨o,e,c,n,d⟩,_⟩:=I.tuple f;obtain⟨as,q⟩:=DVs.reads I j g;exact⟨_,.tuple e c d (by simpa using q)⟩
 | .dict _,x,u,h,r=>by rw[DV]at h;exact h.elim
theorem DVs.reads(I:Inv X pins σ H s):∀{ds:List PyData}{xs:List V}{us:List Value},DVs X.K H ds xs->Vals xs us->∃ as,ReadsAll s.heap us ds as
 | [],xs,us,h,r=>by
  rw[DVs]at h;subst h;cases r;exact⟨_,.nil⟩
 | d::ds,xs,us,h,r=>by
  rw[DVs]at h;obtain⟨y,c,rfl,b,a⟩:=h;cases r with
  | cons r rs =>
   obtain⟨as,q⟩:=DV.reads I b r;obtain⟨e,p⟩:=DVs.reads I a rs;exact⟨_,.cons q p⟩
end
end
inductive rEqD(K:Frag)(neg:Bool)(x y:V)(H:Hp)(Q:VK):Prop
 | mk(d e:PyData)(h0:DV K H d x)(h1:DV K H e y)(h2:SeqAt.shaped d=true)(h3:SeqAt.shaped e=true)(h4:Q (.bl (if neg then !PyData.eqv d e else PyData.eqv d e)) H):rEqD K neg x y H Q
theorem Bd{X:Cx}(f:X.A.units+64<cLine):OpR X (compareOp .NotEq) (rEqD X.K true):=by
 intro a s w H x y v u Q I c o h;obtain⟨d,e,l,b,i,j,q⟩:=h;obtain⟨p,m⟩:=l.reads I c;obtain⟨r,g⟩:=b.reads I o;exact ne_dataH m g i j f ⟨.bl _,H,I,rfl,q⟩
def zK(z:Str)(lo hi:Option Int):Str:=⟨((z.cps.toList.drop (HT.sIx z.cps.size 0 lo)).take (HT.sIx z.cps.size z.cps.size hi - HT.sIx z.cps.size 0 lo)).toArray⟩
theorem Bf(n d:Nat)(v:Option Int):(match v with | none=>(d:Int) | some i=>max 0 (min (if i<0 then i+(n:Int) else i) (n:Int)))=((HT.sIx n d v:Nat):Int):=by
 cases v with
 | none=>rfl
 | some i =>
  show max 0 (min (if i<0 then i+(n:Int) else i) (n:Int))=(((if i<0 then (i+(n:Int)).toNat else min i.toNat n):Nat):Int)
  split <;> lia
theorem xJ(lo hi:Option Int)(n:Nat):Builtin.Str.strSliceIndices lo hi 1 n=(List.range (HT.sIx n n hi - HT.sIx n 0 lo)).map (HT.sIx n 0 lo + ·):=by
 have e:Builtin.Str.strSliceIndices lo hi 1 n=sliceRange ((HT.sIx n 0 lo:Nat):Int) ((HT.sIx n n hi:Nat):Int) 1:=by
  rw[<- Bf n 0 lo,<- Bf n n hi];unfold Builtin.Str.strSliceIndices;simp only[show(1:Int) > 0 by decide,if_true]
  cases lo <;> cases hi <;> rfl
 rw[e,sliceRange_one]
theorem vW(z:Str)(lo hi:Option Int):Txt.slice z lo hi=zK z lo hi:=by
 have e:((Builtin.Str.strSliceIndices lo hi 1 z.length).filterMap (z.cps[·]?))=(z.cps.toList.drop (HT.sIx z.cps.size 0 lo)).take (HT.sIx z.cps.size z.cps.size hi - HT.sIx z.cps.size 0 lo):=by
  rw[xJ];exact pick_run z.cps _ _
 unfold Txt.slice
 split
 .rename_i h
  have b:(Builtin.Str.strSliceIndices lo hi 1 z.length).length=z.cps.size:=by
   rw[Bool.and_eq_true]at h;exact eq_of_beq h.2
  rw[xJ,length_map,length_range]at b;have f:=HT.sIx_le z.cps.size z.cps.size (Nat.le_refl _) hi;have a:HT.sIx z.cps.size z.cps.size hi - HT.sIx z.cps.size 0 lo=z.cps.size:=b;unfold zK
  by_cases h0:z.cps.size=0
  .refine ext_toList ?_
   have d:z.cps.toList=[]:=length_eq_zero_iff.mp (by simpa using h0);show z.cps.toList=_;rw[d];simp
  .have c:HT.sIx z.cps.size 0 lo=0:=by lia
   rw[a,c,drop_zero,take_of_length_le (by simp)]
 .rw[e]
  rfl
section
variable {X:Cx}
def EK:V->Option Int->Option Int->Hp->VK->Prop:=λx lo hi H Q=>∃ z,x=.str z/\z.length<=sizeLine/\Q (.str (zK z lo hi)) H
theorem Cl:SlR X EK:=by
 intro b s r H x v A y o g w Q I m c p e h;obtain⟨z,rfl,d,q⟩:=h;obtain⟨t,rfl⟩:=m;refine⟨"str",_,F.slot_str_getitem.lookup,typeIs_str _ _ _,?_⟩;rw[<- vW]at q
 have a:∀ f k,EP X b r Q (.str (Txt.slice z o g) f) { s with toks:=k }:=λf k=>⟨.str _,H,I.tok _,⟨_,rfl⟩,q⟩
 cases p with
 | none =>
  cases e with
  | none=>exact wpAny_getItem_str_slice (l:=none) (u:=none) (st:=none) c rfl (post_val_or_str ⟨Nat.le_trans (Txt.slice_le z _ _) d,a⟩)
  | int j uj=>exact wpAny_getItem_str_slice (l:=none) (u:=some (j,uj)) (st:=none) c rfl (post_val_or_str ⟨Nat.le_trans (Txt.slice_le z _ _) d,a⟩)
 | int i ui =>
  cases e with
  | none=>exact wpAny_getItem_str_slice (l:=some (i,ui)) (u:=none) (st:=none) c rfl (post_val_or_str ⟨Nat.le_trans (Txt.slice_le z _ _) d,a⟩)
  | int j uj=>exact wpAny_getItem_str_slice (l:=some (i,ui)) (u:=some (j,uj)) (st:=none) c rfl (post_val_or_str ⟨Nat.le_trans (Txt.slice_le z _ _) d,a⟩)
theorem SlR.imp{r b:V->Option Int->Option Int->Hp->VK->Prop}(h:SlR X r)(i:∀ x lo hi H Q,b x lo hi H Q->r x lo hi H Q):SlR X b :=
 λa s m H x v j g lo hi f Q I e d l c q=>h a s m H x v j g lo hi f Q I e d l c (i x lo hi H Q q)
theorem jF:SlR X (λx lo hi H Q=>match x with
  | .str z=>z.length<=sizeLine/\Q (.str (zK z lo hi)) H
  | .ref a=>(∃ xs,SqL X.K H a xs/\∀ p,H p=none->Q (.ref p) (upd H p (.lst (ce xs lo hi)))) \/
    ∃ xs,SqT X.K H a xs/\¬(HT.sIx xs.length 0 lo=0/\HT.sIx xs.length xs.length hi=xs.length)/\∀ p,H p=none->Q (.ref p) (upd H p (.tup (ce xs lo hi)))
  | _=>False):=(sl_list.or (sl_tup.or Cl)).imp λx lo hi H Q q=>by
 cases x with
 | str z=>exact .inr (.inr ⟨z,rfl,q.1,q.2⟩)
 | ref a =>
  rcases q with⟨xs,b,c⟩ | ⟨xs,b,c,d⟩
  .exact .inl ⟨a,xs,rfl,b,c⟩
  .exact .inr (.inl ⟨a,xs,rfl,b,c,d⟩)
 | _=>exact(show False from q).elim
variable {o e:Expr}{es:List Expr}{to:TE}{t:TA}{apos cpos:Pos}
end
end L2
namespace L2
abbrev PvS:=Nat->St->Hp->Prop
abbrev PvL:=Nat->List V->Hp->Prop
theorem bU{b c:TS}{D:Ends}{a:St}{H:Hp}:(let B2:TS:=c;bi b B2 D a H)->bi b c D a H:=λh=>h
theorem eh{b d c:TS}{D:Ends}{a:St}{H:Hp}:(let B3:TS:=c;let B2:TS:=bi d B3;bi b B2 D a H)->bi b (bi d c) D a H:=λh=>h
theorem ww{b c d a:TS}{D:Ends}{e:St}{H:Hp}:(let B4:TS:=a;let B3:TS:=bi d B4;let B2:TS:=bi c B3;bi b B2 D e H)->bi b (bi c (bi d a)) D e H:=λh=>h
theorem DS{b c d a f:TS}{D:Ends}{e:St}{H:Hp}:(let B5:TS:=f;let B4:TS:=bi a B5;let B3:TS:=bi d B4;let B2:TS:=bi c B3;bi b B2 D e H)->bi b (bi c (bi d (bi a f))) D e H:=λh=>h
theorem wM{c d e b g a:TS}{D:Ends}{f:St}{H:Hp}:(let B6:TS:=a;let B5:TS:=bi g B6;let B4:TS:=bi b B5;let B3:TS:=bi e B4;let B2:TS:=bi d B3;bi c B2 D f H)->bi c (bi d (bi e (bi b (bi g a)))) D f H:=λh=>h
theorem Dz{e d f c i b a:TS}{D:Ends}{g:St}{H:Hp}:(let B7:TS:=a;let B6:TS:=bi b B7;let B5:TS:=bi i B6;let B4:TS:=bi c B5;let B3:TS:=bi f B4;let B2:TS:=bi d B3;bi e B2 D g H)->bi e (bi d (bi f (bi c (bi i (bi b a))))) D g H:=λh=>h
end L2
namespace L2
open PySem PySem.Spec PyProof.Rows
section
variable {X:Cx}{pins:List (Addr×Obj)}{σ:St}{H:Hp}{s:Shared}{h':Heap}
theorem Inv.turnedNew{t':Nat}{ch:List Addr}{a:Addr}{o:HO}(I:Inv X pins σ H s)(k:∀ b u,b ∉ ch->s.heap.get? b=some u->h'.get? b=some u)(p:∀ b∈ch,iP X pins H b)
  (x:s.heap.objs.size<=a) (j:ObjOk X.prog X.w (upd H a o) h' a o):Inv X pins σ (upd H a o) { s with heap:=h',toks:=t' }:=by
 have i:H a=none:=I.hok.fresh x
 have g:∀ b u,H b=some u->b ∉ ch:=λb u e z=>by
  rw[(p b z).1]at e;cases e
 have d:∀ b u,H b=some u->b≠a:=λb u e z=>by
  rw[z,i]at e;cases e
 have l:∀ b u,s.heap.get? b=some u->b≠a:=λb u e=>Nat.ne_of_lt (Nat.lt_of_lt_of_le (Heap.lt_size e) x)
 refine I.step (g':=s.gens) (d':=s.drawn) (ch:=ch) (λb h=>?_) (λb u _ _ f e _=>k b u f e) (λb u _ _ f e _=>⟨u.slots,k b u f e⟩) (λb u _ e n=>?_) (λb u f e=>⟨u,k b u f e⟩)
  (λb B e=>?_) (λb u v e=>?_) (λb ps e=>⟨#[],?_⟩) (λm hm=>?_) (λb u e=>?_) I.bare
 .obtain⟨_,A,_,G,F,E⟩:=p b h
  exact⟨G,A,F,E⟩
 .rw[ar (l b u e)];exact n
 .rw[ar (d b _ e)];exact e
 .rw[ar (d b _ e)];exact e
 .rw[ar (d b _ e),e];simp
 .obtain⟨w,C,D,y,r⟩:=hm
  exact⟨w,C,D,k _ w (λz=>(p _ z).2.1 rfl) y,r⟩
 .by_cases h:b=a
  .subst h
   rw[ae]at e;cases e;exact j
  .rw[ar h]at e
   refine(I.hok b u e).stay (λc v f q=>k c v ?_ q) (λc q=>?_) λc B q=>?_
   .rcases f with z | z
    .rw[z];exact g b u e
    .exact g c _ z
   .rw[ar (d c _ q)];exact q
   .rw[ar (d c _ q)];exact q
theorem Inv.turnedN{t':Nat}{ch:List Addr}(I:Inv X pins σ H s)(k:∀ b u,b ∉ ch->s.heap.get? b=some u->h'.get? b=some u)(f:∀ b∈ch,iP X pins H b):Inv X pins σ H { s with heap:=h',toks:=t' }:=by
 have d:∀ b u,H b=some u->b ∉ ch:=λb u e z=>by
  rw[(f b z).1]at e;cases e
 refine I.step (g':=s.gens) (d':=s.drawn) (ch:=ch) (λb i=>?_) (λb u _ _ a e _=>k b u a e) (λb u _ _ a e _=>⟨u.slots,k b u a e⟩) (λb u _ e n=>n) (λb u a e=>⟨u,k b u a e⟩)
  (λb l e=>e) (λb u v e=>e) (λb ps e=>⟨#[],by rw[e];simp⟩) (λm hm=>?_) (λb u e=>?_) I.bare
 .obtain⟨_,j,_,y,x,w⟩:=f b i
  exact⟨y,j,x,w⟩
 .obtain⟨g,o,p,h,r⟩:=hm
  exact⟨g,o,p,k _ g (λz=>(f _ z).2.1 rfl) h,r⟩
 .refine(I.hok b u e).stay (λc v a q=>k c v ?_ q) (λc q=>q) λc l q=>q
  rcases a with z | z
  .rw[z];exact d b u e
  .exact d c _ z
end
def Ite(a:Addr):It:=⟨λi H=>∃ xs x,H a=some (.lst xs)/\xs[i]? = some x,
 λi H x H'=>∃ p y,H p=none/\x=.ref p/\(∀ xs,H a=some (.lst xs)->xs[i]? = some y)/\H'=upd H p (.tup [.int (i:Nat),y]),λi H=>∃ xs,H a=some (.lst xs)/\xs.length<=i⟩
theorem v6{P:Program}{w:World}{K:Frag}{es:List Expr}{k:Nat}{R:Pos}(a e c:Addr)(B:e≠c) :
  Turn P w K (.Tuple es k R) (Ite a) [e,c] e (λi h=>(∃ old,IsEnum h e c i old)/\h.IsListIter c a i) where
 mem:=by simp
 obj:=λi h g b hb=>by
  obtain⟨⟨old,d⟩,o,A,C,h3⟩:=g
  rcases mem_cons.mp hb with rfl | hb
  .exact⟨_,d,λv z=>by cases z⟩
  .rw[mem_singleton.mp hb]
   exact⟨o,A,λv z=>by rw[h3]at z;cases z⟩
 keep:=λi h h' g kp=>by
  obtain⟨⟨old,d⟩,o,A,r⟩:=g;exact⟨⟨old,kp e (by simp) _ d⟩,o,kp c (by simp) o A,r⟩
 item:=by
  intro X hP Q L hc i j s σ H E I F g M;subst hP Q L;obtain⟨⟨old,d⟩,f⟩:=g;obtain⟨xs,x,D,Y⟩:=M;obtain⟨z,m,n,r,p,Z⟩:=I.lstM D;obtain⟨u,hu,ru⟩:=Vals.get r Y
  have l:s.heap.IsList a m.toArray:=⟨_,Z,rfl,_,rfl⟩
  refine wpAny_pyNext_enum_item d f l (x:=u) (by simpa using hu) B λA e1 e2 e3 e4 e5=>?_
  refine⟨_,rfl,wpAny_letOwnedTupleGo_enum e1 λC e6 T=>?_⟩;have y:s.heap.objs.size≠e:=λq=>absurd (Heap.lt_size d) (by rw[<- q];exact Nat.lt_irrefl _)
  have N:s.heap.objs.size≠c:=λq=>by
   obtain⟨o,S,_⟩:=f;exact absurd (Heap.lt_size S) (by rw[<- q];exact Nat.lt_irrefl _)
  have hn:H s.heap.objs.size=none:=I.hok.fresh (Nat.le_refl _);have G:C.get? s.heap.objs.size=some { cls:=.type "tuple",data:=.seq #[.int i s.toks,u] }:=(T.2 _ y).trans e3
  have J:Inv X j σ (upd H s.heap.objs.size (.tup [.int (i:Nat),x])) { s with heap:=C,toks:=s.toks+1 }:=by
   refine I.turnedNew (ch:=[e,c]) (λb o hb q=>?_) F (Nat.le_refl _) ⟨by rw[sizeLine_eq];show 2<=16777216;decide,[.int i s.toks,u],.cons ⟨_,rfl⟩ (.cons ru .nil),_,G,rfl,0,rfl⟩;have b1:b≠e:=λz=>hb (by simp[z])
   have b2:b≠c:=λz=>hb (by simp[z])
   exact(T.2 b b1).trans (e5 b o b1 b2 q)
  refine⟨.ref s.heap.objs.size,_,J,rfl,⟨s.heap.objs.size,x,hn,rfl,λys hy=>?_,rfl⟩,⟨⟨u,?_⟩,?_⟩,λb hb=>?_⟩
  .rw[D]at hy
   cases hy;exact Y
  .have W:IsEnum C e c ((i:Int)+1) u:=e6
   have e7:((i+1:Nat):Int)=(i:Int)+1:=by lia
   rw[e7];exact W
  .obtain⟨o,S,r⟩:=e2
   exact⟨o,(T.2 c (Ne.symm B)).trans S,r⟩
  .have O:b≠s.heap.objs.size:=by
    rcases mem_cons.mp hb with rfl | hb
    .exact y.symm
    .rw[mem_singleton.mp hb];exact N.symm
   rw[ar O];exact(F b hb).1
 done:=by
  intro X hP Q L hc i j s σ H E I F g M;subst hP Q L;obtain⟨⟨old,d⟩,f⟩:=g;obtain⟨xs,D,Y⟩:=M;obtain⟨z,m,n,r,p,Z⟩:=I.lstM D
  have l:s.heap.IsList a m.toArray:=⟨_,Z,rfl,_,rfl⟩
  refine wpAny_pyNext_enum_end (I.ok.hd hc) d f l (by simp;lia) λA eb=>⟨rfl,I.turnedN (ch:=[e,c]) (t':=s.toks) (λb o hb q=>eb b o (λz=>hb (by simp[z])) q) F⟩
 self:=λ_ _ _ _ _ g h=>by
  obtain⟨⟨old,d⟩,_⟩:=g;exact wpAny_pyIter_enum d h
def Eb(ta:TA):TI:=λσ H R=>ta σ H λvs H1=>∃ a xs,vs=[.ref a]/\H1 a=some (.lst xs)/\R (Ite a) H1
theorem fh{X:Cx}{N:List Expr}{k:Nat}{i:Pos}{e:Expr}{w:TA}{p g:Pos}(y:Gl X "enumerate")(B:X.mg "enumerate" = none)(A:PA X [e] w)(F:starEach [e] X.env=[(false,eval e X.env)]:=by rfl) :
  PI X (.Tuple N k i) (.Call (.Name "enumerate" p) [e] [] g) (Eb w):=by
 intro d s o H R I h;refine wpAny_Call_Name_kw (jp I y B oV ?_ (by decide) (by decide));refine PyProof.Rows.callWith_type1 (thn (A g d s o H _ I h) λQ c ⟨T,x,l,L,a,S,j,G,q⟩=>?_) F rfl;subst j;obtain⟨u,rfl,C⟩:=dL L;cases C;obtain⟨z,D,n,r,v,J⟩:=l.lstM G;refine call_enumerate_1 (n:=n) J λE j K P M=>?_
 have O:Inv X d o x { c with heap:=E }:=l.kept (t':=c.toks) M;have m:c.heap.objs.size+1≠c.heap.objs.size:=Nat.succ_ne_self _;refine wpAny_pyIter_enum j ?_;refine⟨c.heap.objs.size+1,[c.heap.objs.size+1,c.heap.objs.size],_,_,x,rfl,O,v6 a _ _ m,⟨⟨_,j⟩,K⟩,λb hb=>?_,q⟩
 have f:c.heap.objs.size<=b:=by
  rcases mem_cons.mp hb with rfl | hb
  .lia
  .rw[mem_singleton.mp hb]
   exact Nat.le_refl _
 exact l.fpOk f (l.hok.fresh f)
theorem kS{a:Addr}{xs:List V}{g:TG}{f:TS}{D:Ends}{c:St}{H:Hp}(d:Nat->St->Hp->Prop)(s:d 0 c H)(o:∀ i c H,d i c H->H a=some (.lst xs))
  (l:∀(i:Nat) x c H p,xs[i]? = some x->d i c H->H p=none->g (.ref p) c (upd H p (.tup [.int (i:Nat),x])) λσ2 H2=>f { D with nx:=d (i+1),ct:=d (i+1),bk:=D.nx } σ2 H2) (r:∀ c H,d xs.length c H->D.nx c H) :
  ∃ W:Nat->Nat->St->Hp->Prop,(∃ m,W 0 m c H)/\∀ i m c H,W i m c H ->
   ((Ite a).stop i H/\D.nx c H)\/((Ite a).go i H/\∃ N:St->Hp->Prop,(∀ σ' H',N σ' H'->∃ m',m'<m/\W (i+1) m' σ' H')/\∀ x H',(Ite a).yld i H x H'->g x c H' λσ2 H2=>f { D with nx:=N,ct:=N,bk:=D.nx } σ2 H2):=by
 refine⟨λi m c H=>m=xs.length - i/\i<=xs.length/\d i c H,⟨_,rfl,Nat.zero_le _,s⟩,?_⟩;rintro i m c H ⟨rfl,w,p⟩;have q:=o i c H p
 by_cases hlt:i<xs.length
 .refine .inr ⟨⟨xs,xs[i],q,by simp[hlt]⟩,d (i+1),λσ' H' h=>⟨_,by lia,rfl,hlt,h⟩,λx H' y=>?_⟩
  obtain⟨b,v,j,rfl,u,rfl⟩:=y;exact l i v c H b (u xs q) p j
 .have e:i=xs.length:=by lia
  subst e;exact .inl ⟨⟨xs,q,Nat.le_refl _⟩,r c H p⟩
theorem gG{D:Addr}{d:St}{g:TG}{f:TT}{h:TE}{Q:Hp->List V->Prop}{H:Hp}{a:Addr}{xs:List V}(c:Nat->List V->Hp->Prop)(u:c 0 [] H)(A:∀ i ys H,c i ys H->H a=some (.lst xs))(o:∀ i ys H,c i ys H->H D=some (.lst ys))
  (l:∀(i:Nat) x ys H p P,xs[i]? = some x->c i ys H->H p=none->(∀ a b,c (i+1) a b->P a b)->rH D d g f h (.ref p) ys (upd H p (.tup [.int (i:Nat),x])) P) (s:∀ ys H,c xs.length ys H->Q H ys):∃ W,(∃ m,W 0 m [] H)/\j9 (Ite a) D d g f h Q W:=by
 refine⟨λi m ys H=>m=xs.length - i/\i<=xs.length/\c i ys H,⟨_,rfl,Nat.zero_le _,u⟩,?_⟩;rintro i m ys H ⟨rfl,B,p⟩;refine⟨o i ys H p,?_⟩;have q:=A i ys H p
 by_cases hlt:i<xs.length
 .refine .inr ⟨⟨xs,xs[i],q,by simp[hlt]⟩,λx C y=>?_⟩
  obtain⟨b,v,j,rfl,w,rfl⟩:=y
  exact l i v ys H b (λa b=>∃ m',m'<xs.length - i/\m'=xs.length - (i+1)/\i+1<=xs.length/\c (i+1) a b) (w xs q) p j λa b r=>⟨_,by lia,rfl,hlt,r⟩
 .have e:i=xs.length:=by lia
  subst e;exact .inl ⟨⟨xs,q,Nat.le_refl _⟩,s ys H p⟩
end L2
namespace NumM
open PySem PySem.NumText
theorem qX{c:Nat}(h:c<128):(Char.ofNat c).toNat=c:=by
 have:c.isValidChar:=Or.inl (by omega);simp[Char.ofNat,this,Char.toNat,Char.ofNatAux]
theorem back{a:List Nat}(h:AllDigits a):(a.map Char.ofNat).map Char.toNat=a:=by
 rw[map_map]
 induction a with
 | nil=>rfl
 | cons c a ih =>
  rw[map_cons,ih h.tail];have:=h.head;show(Char.ofNat c).toNat::a=_;rw[qX (by omega)]
end NumM
namespace L2
open PySem PySem.Spec PyProof.Rows
def within(lo hi:Int):Option Int->Option Int
 | some n=>if lo<=n/\n<=hi then some n else none
 | none=>none
def kd(t S:Str)(m:Int):Bool:=decide (1<=(t.cps.size:Int)/\(t.cps.size:Int)<=m) && t.cps.toList.all λc=>decide (c∈S.cps.toList)
theorem ib(c:Nat):c∈("abcdefghijklmnopqrstuvwxyz" : Str).cps.toList↔97<=c/\c<=122:=by
 have e:("abcdefghijklmnopqrstuvwxyz" : Str).cps.toList=List.range' 97 26:=by decide +kernel
 rw[e,List.mem_range'_1];omega
end L2
namespace SplM
open PySem
end SplM
namespace L2
open PySem PySem.Spec PyProof.Rows
section
variable {X:Cx}
open Builtin.Str in
theorem C5{P:Program}{w:World}{A:Around}{E:Value->Shared->Prop}{s:Shared}{x y:Str}{t u:Tok}{Q:Value->Shared->Prop}(c:(y.length == 0)=false)(e:x.length<=sizeLine)
  (d:(partsBetween x (occurrences x y 0 x.length (x.length+1)) y.length).length<=sizeLine)
  (h:∀(l:List (Str×Tok)) (k:Nat),l.map (·.1)=Txt.split x y->Q (.ref s.heap.objs.size) { s with heap:=s.heap.push { cls:=.type "list",data:=.seq (strValues l).toArray },toks:=k }) :
  wpAny (model P w) A (call (.builtin "str.split") [.str x t,.str y u]) Q E s:=by
 by_cases h1:(decide (x.length<y.length) || decide (strKind x<strKind y))=true
 .refine call_meets F.slot_str_split (typeIs_str s x t) F.entry_str_split (F.args_str_split_2 _ _) (meets_str_split_cannot_occur x y t u h1) ?_
  exact h [(x,t)] s.toks (by unfold Txt.split;rw[if_pos h1];rfl)
 .have a:=eq_false_of_ne_true h1
  by_cases h2:(occurrences x y 0 x.length (x.length+1)).isEmpty=true
  .refine call_meets F.slot_str_split (typeIs_str s x t) F.entry_str_split (F.args_str_split_2 _ _) (meets_str_split_not_found x y t u a c h2) ?_
   exact h [(x,t)] s.toks (by unfold Txt.split;rw[if_neg h1,if_pos h2];rfl)
  .have b:=eq_false_of_ne_true h2
   refine call_meets F.slot_str_split (typeIs_str s x t) F.entry_str_split (F.args_str_split_2 _ _) (meets_str_split_sep x y t u a c b e d) ?_
   have:=h (numbered s.toks (partsBetween x (occurrences x y 0 x.length (x.length+1)) y.length)) (s.toks+(partsBetween x (occurrences x y 0 x.length (x.length+1)) y.length).length)
    ((numbered_texts _ _).trans (by unfold Txt.split;rw[if_neg h1,if_neg h2]))
   rw[<- strsFrom_eq]at this;exact this
theorem zt{a:Expr}{f:TE}{e:Pos}(l:PE X a f):PE X (.UnaryOp .Not a e) (λσ H Q=>f σ H λx H1=>∃ k,Cd X.K x H1 k/\Q (.bl (!k)) H1):=by
 intro c s σ H Q I h;refine UnaryOp_ (thn (l c s σ H _ I h) λv i ⟨x,H1,m,j,k,g,q⟩=>?_);exact not_of (thn (wE c i σ H1 x v (λb d=>Q (.bl (!b)) d) m j ⟨k,g,q⟩) λb s2 ⟨d,I2,q2⟩=>⟨.bl (!b),d,I2,rfl,q2⟩)
variable {o e:Expr}{es:List Expr}{to:TE}{t:TA}{apos cpos:Pos}
theorem pe_m.append(f:PE X o to)(h:PA X (e::es) t)(c:attributeBase o "append" X.env (eval o X.env)=eval o X.env:=by rfl)
  (d:((backTo cpos (starEach (e::es) X.env)).all (λx=>!x.1) && (backToKw cpos (keywordEach [] X.env)).all (λx=>x.1.isSome) && decide ((e::es).length+([]:List Keyword).length+(if ([]:List Keyword).isEmpty then 0 else 1)<30))=true:=by rfl)
  (b:(apos.endLine == cpos.line)=true:=by rfl) (g:starEach (e::es) X.env=(false,eval e X.env)::starEach es X.env:=by rfl) (a:(backTo cpos (starEach es X.env)).any (·.1)=false:=by rfl) :
  PE X (.Call (.Attribute o "append" apos) (e::es) [] cpos) (tBM X.K "list" rAppend to t):=uM F.plainAttrs_list F.slot_list_append F.type_list_append nW f h c d b g a
end
def TK(H H':Hp):Prop:=∀ b xs,H b=some (.tup xs)->H' b=some (.tup xs)
theorem TK.trans{H e d:Hp}(a:TK H e)(b:TK e d):TK H d:=λc o h=>b c o (a c o h)
theorem Same.tk{H a:Hp}(e:Same H a):TK H a:=λb c h=>e b _ h
theorem TK.lst{H:Hp}{l:Addr}{xs a:List V}(h:H l=some (.lst xs)):TK H (upd H l (.lst a)):=λb c e=>by
 rw[ar (vd e h (by intro z;cases z))];exact e
theorem Same.put{H a:Hp}{D:Addr}{o:HO}(e:Same H a)(h:H D=none):Same H (upd a D o):=λb u q=>by
 rw[ar (ay q h)];exact e b u q
theorem aP{a:Type}{xs:List a}{i:Int}{v:a}(k:Nat)(b:(k:Int)=i)(h:xs[k]? = some v):atI xs i=some v:=by rw[<- b];exact aQ h
theorem vx(xs:List V)(k:Nat)(h:k<=xs.length):ce xs none (some (k:Int))=xs.take k:=by
 unfold ce;rw[HT.sIx_nat,HT.sIx_none,drop_zero,Nat.sub_zero,Nat.min_eq_left h]
theorem v9(xs:List V)(k:Nat):ce xs (some (k:Int)) none=xs.drop k:=by
 unfold ce;rw[HT.sIx_nat,HT.sIx_none]
 by_cases h:k<=xs.length
 .rw[Nat.min_eq_left h,take_of_length_le (by simp)]
 .rw[Nat.min_eq_right (by lia),Nat.sub_self,take_zero,List.drop_of_length_le (by lia)]
theorem qZ(n:Str):∀ ts:List Str,inV (.str n) (ts.map V.str)=decide (n∈ts)
 | []=>rfl
 | t::ts=>by
  have a:=qZ n ts;unfold inV at a ⊢;rw[map_cons,any_cons,a]
  by_cases h:t=n
  .have e:eqV (V.str t) (V.str n)=true:=by rw[h];simp only[eqV,beq_self_eq_true]
   rw[e,Bool.true_or,decide_eq_true (by rw[h];exact mem_cons_self)]
  .have e:eqV (V.str t) (V.str n)=false:=by simp only[eqV];exact beq_false_of_ne h
   rw[e,Bool.false_or,Bool.eq_iff_iff,decide_eq_true_eq,decide_eq_true_eq,mem_cons];exact⟨.inr,λz=>z.elim (λq=>absurd q.symm h) id⟩
theorem nh:∀ ts:List Str,(ts.map V.str).all ip=true
 | []=>rfl
 | t::ts=>by rw[map_cons,all_cons,nh ts];rfl
def fH(t:Str):Bool:=kd t "abcdefghijklmnopqrstuvwxyz" 8
structure U where
 name:Str
 value:Int
 size:Int
 path:List Str
def uV(p:Addr)(u:U):List V:=[.str u.name,.int u.value,.int u.size,.ref p]
def IsU(H:Hp)(u:U)(x:V):Prop:=∃ a p,x=.ref a/\H a=some (.tup (uV p u))/\H p=some (.tup (u.path.map V.str))
theorem IsU.tk{H b:Hp}{u:U}{x:V}(k:TK H b)(h:IsU H u x):IsU b u x:=let ⟨a,p,h1,h2,h3⟩:=h;⟨a,p,h1,k a _ h2,k p _ h3⟩
abbrev AllU(H:Hp):List U->List V->Prop:=Paired (IsU H)
theorem AllU.tk{H a:Hp}(k:TK H a):∀{us:List U}{xs:List V},AllU H us xs->AllU a us xs
 | _,_,.nil=>.nil
 | _,_,.cons r t=>.cons (r.tk k) (AllU.tk k t)
theorem AllU.len{H:Hp}{us:List U}{xs:List V}(h:AllU H us xs):us.length=xs.length:=Paired.length h
theorem AllU.get{H:Hp}:∀{us:List U}{xs:List V}{i:Nat}{x:V},AllU H us xs->xs[i]? = some x->∃ u,us[i]? = some u/\IsU H u x
 | _,_,_,_,.nil,h=>by cases h
 | _,_,0,_,.cons r _,h=>⟨_,rfl,by cases h;exact r⟩
 | _,_,i+1,_,.cons _ t,h=>AllU.get (i:=i) t h
theorem AllU.take{H:Hp}:∀{us:List U}{xs:List V}(k:Nat),AllU H us xs->AllU H (us.take k) (xs.take k)
 | _,_,0,_=>by rw[take_zero,take_zero];exact .nil
 | _,_,_+1,.nil=>.nil
 | _,_,k+1,.cons r t=>.cons r (AllU.take k t)
theorem AllU.snoc{H:Hp}{u:U}{x:V}(r:IsU H u x):∀{us:List U}{xs:List V},AllU H us xs->AllU H (us++[u]) (xs++[x])
 | _,_,.nil=>.cons r .nil
 | _,_,.cons q t=>.cons q (AllU.snoc r t)
structure GoodU(u:U):Prop where
 nm:fH u.name=true
 v0:-1000000000<=u.value
 v1:u.value<=1000000000
 s0:1<=u.size
 s1:u.size<=1000000
 pl:u.path.length<=3
 pn:∀ n∈u.path,fH n=true
structure GoodL(us:List U):Prop where
 l1:1<=us.length
 l2:us.length<=24
 each:∀ u∈us,GoodU u
 nd:(us.map U.name).Nodup
 pth:∀ u∈us,∀ v∈us,u.path.length=v.path.length
theorem qc{t:Str}(h:fH t=true):1<=t.cps.size/\t.cps.size<=8/\∀ c∈t.cps.toList,97<=c/\c<=122:=by
 unfold fH kd at h;rw[Bool.and_eq_true,decide_eq_true_eq,all_eq_true]at h;refine⟨by lia,by lia,λc a=>?_⟩;exact(ib c).mp (of_decide_eq_true (h.2 c a))
theorem wA{t:Str}(d:1<=t.cps.size)(e:t.cps.size<=8)(a:∀ c∈t.cps.toList,97<=c/\c<=122):fH t=true:=by
 unfold fH kd;rw[Bool.and_eq_true,decide_eq_true_eq,all_eq_true];exact⟨by lia,λc b=>decide_eq_true ((ib c).mpr (a c b))⟩
theorem tw{t:Str}(h:fH t=true):t.length<=sizeLine:=by
 have:=(qc h).2.1;have e:sizeLine=16777216:=sizeLine_eq;show t.cps.size<=sizeLine;lia
section
variable {X:Cx}{K:Frag}
theorem bG(h:X.K=K):IxR X (rIx K):=h ▸ aj
theorem lN(h:X.K=K):CallR X (.builtin "len") (λxs H Q=>match xs with
  | [.str z]=>z.length<=sizeLine/\Q (.int z.length) H
  | [.ref p]=>rLenSq K p H Q
  | _=>False):=h ▸ ax
theorem tj(h:X.K=K):OpR X (compareOp .In) (rIn K false):=h ▸ vw
theorem cb(h:X.K=K){a:List Expr}{k:Nat}{t:TGs}{n:Nat}{b:Pos}(e:X.calm=true)(d:PGs X a t)(f:(assignEach a X.env).length=n:=by rfl)(c:(assignEach a X.env).findIdx? (·.1)=none:=by rfl) :
  PG X (.Tuple a k b) (gTup K n t):=h ▸ dS e d f c
end
structure XCls(K:Frag)(D:Addr):Prop where
 ga:findIn K (.ref D) "__getattribute__" = some (some (.builtin "BaseException.__getattribute__"))
 gn:findIn K (.ref D) "__getattr__" = some none
 cl:findIn K (.ref D) "__class__" = some (some (.builtin "object.__class__"))
 mb:mroIn K D (.type "BaseException")=some true
 mo:mroIn K D (.type "object")=some true
 isc:(clsIn K D).isSome=true
section
variable {prog:Program}{w:World}{A:Around}{E:Value->Shared->Prop}{h:Heap}{g:Array GenState}{d:Drawn}{t:Nat}{os:OsState}{a D:Addr}{o:Obj}{K:Frag}
end
structure XHd(K:Frag)(C:Addr):Prop where
 isc:(clsIn K C).isSome=true
 ty:typeIn K (.ref C)=some (.type "type")
 mb:mroIn K C (.type "BaseException")=some true
section
variable {X:Cx}{pins:List (Addr×Obj)}{σ:St}{H H' H1:Hp}{s s' s1:Shared}{x D C:Addr}{a0:Value}{B h2:Heap}
end
section
variable {prog:Program}{w:World}{A:Around}{E:Value->Shared->Prop}{h:Heap}{g:Array GenState}{d:Drawn}{t:Nat}{os:OsState}{a D dx:Addr}{o:Obj}{vs:Array Value}{cd:ClassData}{K:Frag}{name:Str}{mA:Str->Option Value}{v:Value}
abbrev bmV:List Value:=[.type "ValueError",.type "Exception",.type "BaseException",.type "object"]
def EB:Value->Bool
 | .ref _=>true
 | _=>false
def Bk(l:List Value):Bool:=l.dropWhile EB == bmV
structure XSet(K:Frag)(D:Addr)(name:Str)(cd:ClassData):Prop where
 k:clsIn K D=some cd
 dct:cd.hasDict=true
 mro:Bk cd.mro=true
 mo:mroIn K D (.type "object")=some true
 sa:findIn K (.ref D) "__setattr__" = some (some (.builtin "object.__setattr__"))
 na:findIn K (.ref D) name=some none
end
section
variable {prog:Program}{w:World}{A:Around}{E:Value->Shared->Prop}{h:Heap}{g:Array GenState}{d:Drawn}{t:Nat}{os:OsState}
variable {nm q:Str}{C N fI:Addr}{bs bm bmB:List Value}{hdct:Bool}{sn:List Str}{sub:List Value}{ab:Bool}{col:Option Bool}{dd:Option Addr}{k0 k1 k2 k3 k5:Option Value}{B newId initId:String}{mN:Str->Option Value}{fj:List Value}{oI:Obj}
end
def xIn(K:Frag)(C:Addr)(fI:Option Value):Bool:=match K.lookup C with
 | some ⟨.type "type",_,.cls cd,sl⟩=>(match cd.mro,sl.toList with
  | .ref C'::bm,[_,_,_,_,some (.builtin n),_]=>C' == C && n == "ValueError.__new__" && !cd.hasDel && tailIn K bmV bm && nsOkIn K cd.ns && nsIn K cd.ns "__init__" == some fI
  | _,_=>false)
 | _=>false
def As(K:Frag)(D:Addr):Bool:=findIn K (.ref D) "__getattribute__" == some (some (.builtin "BaseException.__getattribute__")) && findIn K (.ref D) "__getattr__" == some none &&
 findIn K (.ref D) "__class__" == some (some (.builtin "object.__class__")) && mroIn K D (.type "BaseException") == some true && mroIn K D (.type "object") == some true && (clsIn K D).isSome && typeIn K (.ref D) == some (.type "type")
theorem Fp{K:Frag}{D:Addr}(h:As K D=true):XCls K D:=by
 unfold As at h;simp only[Bool.and_eq_true,beq_iff_eq]at h;obtain⟨⟨⟨⟨⟨⟨d,a⟩,c⟩,b⟩,e⟩,f⟩,g⟩:=h;exact⟨d,a,c,b,e,f⟩
theorem Fo{K:Frag}{D:Addr}(h:As K D=true):XHd K D:=by
 unfold As at h;simp only[Bool.and_eq_true,beq_iff_eq]at h;obtain⟨⟨⟨⟨⟨⟨f,d⟩,e⟩,b⟩,g⟩,c⟩,a⟩:=h;exact⟨c,a,b⟩
def DT(K:Frag)(D:Addr)(name:Str):Bool:=((clsIn K D).any λcd=>cd.hasDict && Bk cd.mro) && mroIn K D (.type "object") == some true &&
 findIn K (.ref D) "__setattr__" == some (some (.builtin "object.__setattr__")) && findIn K (.ref D) name == some none
theorem Fm{K:Frag}{D:Addr}{name:Str}(h:DT K D name=true):∃ cd,XSet K D name cd:=by
 unfold DT at h;simp only[Bool.and_eq_true,beq_iff_eq]at h;obtain⟨⟨⟨f,b⟩,d⟩,c⟩:=h;obtain⟨cd,e,a⟩:=any_some f;rw[Bool.and_eq_true]at a;exact⟨cd,e,a.1,a.2,b,d,c⟩
section
variable {P:Program}{w:World}{K:Frag}{mg:Str->Option Value}{base:Heap}{N:List Str}{qual:Str}{scope:Scope}{f:Addr}{cdv:Value}{A:Around}{outer:List Env}{s0:Shared}{H0:Hp}{E:XK}
end
section
variable {X:Cx}{k:Nat}{f C:Addr}{fd:FuncData}{ps:List Str}{sp:Sp}{x:Str}{p pos:Pos}{e:Expr}{es:List Expr}{t:TA}
end
section
variable {prog:Program}{w:World}{KT:Type} [DecidableEq KT] {knd:KeyKind prog w KT}{A:Around}{E:Value->Shared->Prop}{s:Shared}{d:Addr}{kvs:List (KT×Value)}{k:KT}{key dflt:Value}
theorem BO{Q:Value->Shared->Prop}(c:knd.is k key=true)(I:s.heap.DictOf knd d kvs)(hz:kvs.length<=sizeLine)(m:valueAt kvs k=none)
  (h:∀ h',h'.DictOf knd d (kvs++[(k,dflt)])->Heap.SameBut d s.heap h'->Q dflt { s with heap:=h',toks:=s.toks+1 }):wpAny (model prog w) A (dictSetDefault d key dflt) Q E s:=by
 obtain⟨L,j,H,o,x,f,r,i,y⟩:=I
 have F:j.size<=sizeLine:=by
  have M:=i.length;have K:j.toList.length=j.size:=by simp
  lia
 have g:∀ q∈kvs,q.1≠k:=λq p v=>by
  unfold valueAt at m;rw[Option.map_eq_none_iff,List.find?_eq_none]at m;exact m q p (by simpa using v)
 have B:(j.findIdx? λe=>knd.is k e.key)=none:=by
  have D:(j.findIdx? λe=>knd.is k e.key)=kvs.findIdx? λq=>decide (q.1=k):=by
   rw[<- i.findIdx k];obtain⟨l⟩:=j;simp
  rw[D,List.findIdx?_eq_none_iff];intro q p;simpa using g q p
 unfold dictSetDefault;refine wpAny_holding (wpAny_bind (knd.pyHash c (wpAny_bind (wpAny_dictFind_of (s:={ s with toks:=s.toks+1 }) c o f r ?_))));rw[B]
 refine wpAny_bind (wpAny_rule (wpAny_bind (wpAny_updateDictKeys (hz:=F) (s:={ s with toks:=s.toks+1 }) o f (wpAny_pure (h _ ⟨_,_,H+1,Heap.get?_update_self _ o (Obj.isFreed_of_dict (Obj.data_mapDictKeys f _)),
  x.mapDictKeys _,Obj.data_mapDictKeys f _,r.push c _,?_,?_⟩ (Heap.SameBut.update ..))))))
 .have J:=i.append c (knd.hash k) dflt
  obtain⟨l⟩:=j;simpa using J
 .rw[map_append,nodup_append]
  refine⟨y,by simp,λa G b C=>?_⟩;obtain⟨q,p,rfl⟩:=mem_map.mp G;have u:b=k:=by simpa using C
  rw[u];exact g q p
theorem yA(b:knd.is k key=true)(o:(d == sysModules)=false)(a:Value):MeetsIn prog w (Builtin.«dict.setdefault» ⟨[.ref d,key,a],[]⟩) (λ_ R s=>∃ kvs,s.heap.DictOf knd d kvs/\kvs.length<=sizeLine /\
  (∀ v,valueAt kvs k=some v->R (.ok (.ret v)) { s with toks:=s.toks+1 })/\(valueAt kvs k=none->∀ h',h'.DictOf knd d (kvs++[(k,a)])->Heap.SameBut d s.heap h'->R (.ok (.ret a)) { s with heap:=h',toks:=s.toks+1 })) :=
 .of_wp λA R s ⟨kvs,c,hz,r,C⟩=>by
  have y:s.heap.DictLe d sizeLine:=by
   obtain⟨I,l,H,g,p,h,u,e,x⟩:=id c;intro E J G m i;rw[g]at m;cases m;rw[h]at i;cases i;have K:=e.length;have F:l.toList.length=l.size:=by simp
   lia
  unfold Builtin.«dict.setdefault»;refine wpAny_bind ?_;unfold Builtin.Dict.keyAndDefault;refine wpAny_bind (wpAny_notOrdered_dict c.typeIs (show wpAny _ _ (pure (d,key,some a)) _ _ s from wpAny_pure ?_));show wpAny _ _ (if (d == sysModules)=true then _ else (dictSetDefault d key a >>= _)) _ _ s;rw[if_neg (by rw[o];exact Bool.false_ne_true)];cases hv:valueAt kvs k with
  | some v=>exact wpAny_bind (wpAny_dictSetDefault_of (hz:=y) b c.mapOf (λj f=>wpAny_pure ⟨j,rfl,r j f⟩) λhn=>absurd hn (by rw[hv];exact λz=>nomatch z))
  | none=>exact wpAny_bind (BO b c hz hv λh' B D=>wpAny_pure ⟨a,rfl,C hv h' B D⟩)
end
def Bg:V->List V->Hp->VK->Prop:=λx vs H Q=>∃(a:Addr) (kvs:List (Key×V)) (k:Key) (v:V),x=.ref a/\vs=[kV k,v]/\H a=some (.dK kvs)/\kvs.length<sizeLine /\
 (∀ y,bI kvs k=some y->Q y H)/\(bI kvs k=none->Q v (upd H a (.dK (kvs++[(k,v)]))))
section
variable {X:Cx}
theorem AM:MtR X "dict.setdefault" Bg:=by
 intro r s L H x d v O Q I E A h;obtain⟨a,c,k,y,rfl,rfl,e,l,D,F⟩:=h;cases E;obtain⟨M,f,rfl,K,o⟩:=tT A;obtain⟨z,i,d,b,m⟩:=ve I.hok e;have C:d.length<=sizeLine:=by rw[<- b.length];exact z
 refine call_meetsIn PySem.F.slot_dict_setdefault m.typeIs PySem.F.entry_dict_setdefault (PySem.F.args_dict_setdefault_3 _ _ _) (yA (knd:=aY X.prog X.w) (pM K) i f) ⟨d,m,C,λN g=>?_,λhn h' m' s'=>?_⟩
 .have:=b.val k
  rw[g]at this;cases q:bI c k with
  | none=>rw[q]at this;exact False.elim this
  | some y' =>
   rw[q]at this;exact⟨y',H,I.tok _,this,D y' q⟩
 .have:=b.val k
  rw[hn]at this
  have q:bI c k=none:=by
   cases q:bI c k with
   | none=>rfl
   | some y'=>rw[q]at this;exact False.elim this
  have J:KV (c++[(k,y)]) (d++[(k,f)]):=by
   have p:=b.put k o
   have u:stored d k f=d++[(k,f)]:=by
    unfold stored;rw[if_neg];intro w;have j:=(b.any k).trans w;rw[eA,q]at j;cases j
   rw[xf y q,u]at p;exact p
  have G:(c++[(k,y)]).length<=sizeLine:=by rw[length_append];exact l
  have B:∃ ob,h'.get? a=some ob:=let ⟨ob,_,_,hq,_⟩:=m';⟨ob,hq⟩;exact⟨y,_,oi I (by rw[e];exact True.intro) s' B (zc G i J m'),o,F q⟩
end
theorem rJ{b:Addr}{o:HO}:∀{l:List (Addr×HO)},l.lookup b=some o->(b,o)∈l
 | [],e=>by simp at e
 | (c,u)::r,e=>by
  rw[lookup_cons]at e
  by_cases h:b=c
  .rw[show(b == c)=true by simpa using h]at e
   cases e;rw[h];exact mem_cons_self
  .rw[show(b == c)=false by simpa using h]at e
   exact mem_cons_of_mem _ (rJ e)
def IV(v d:Addr):Heap->Prop:=λh=>h.IsItemsView v d
def wZ:V->List V->Hp->VK->Prop:=λx vs H Q=>∃(d:Addr) (kvs:List (Key×V)),x=.ref d/\vs=[]/\H d=some (.dK kvs)/\∀ v,H v=none->Q (.ref v) (upd H v (.ext (IV v d)))
section
variable {X:Cx}{o e:Expr}{es:List Expr}{to:TE}{t:TA}{apos cpos:Pos}
theorem wK:MtR X "dict.items" wZ:=by
 intro i s F H x D v B Q I j w h;obtain⟨d,p,rfl,rfl,e,q⟩:=h;cases j;cases w;obtain⟨z,m,l,y,c⟩:=ve I.hok e;refine call_meetsIn PySem.F.slot_dict_items c.typeIs PySem.F.entry_dict_items (PySem.F.args_dict_items_1 _) (meets_dict_items (aY X.prog X.w) d m) ⟨⟨l,c⟩,?_⟩;refine⟨.ref s.heap.objs.size,_,I.laid (t':=s.toks) (a:=s.heap.objs.size) (o:=.ext (IV s.heap.objs.size d)) (λb u e=>Heap.get?_push_of_some _ e) (Nat.le_refl _) ?_,rfl,q _ (I.hok.fresh (Nat.le_refl _))⟩;have g:(s.heap.push { cls:=.type "dict_items",data:=.fields #[.ref d] }).get? s.heap.objs.size=some { cls:=.type "dict_items",data:=.fields #[.ref d] }:=Heap.get?_push_size _ rfl;exact⟨⟨_,g,rfl,rfl⟩,⟨_,g⟩,λE C ⟨f,A,r⟩ k=>⟨f,k f A,r⟩⟩
def BN:List V->Hp->VK->Prop:=λxs H Q=>∃(v d:Addr) (kvs:List (Key×V)),xs=[.ref v]/\H v=some (.ext (IV v d))/\H d=some (.dK kvs) /\
 ∀(l:Addr) (as:List Addr) (H':Hp),Same H H'->H l=none->H' l=some (.lst (as.map V.ref))->as.length=kvs.length ->
  (∀(j:Nat) (a:Addr) (k:Key) (y:V),as[j]? = some a->kvs[j]? = some (k,y)->H a=none/\H' a=some (.tup [kV k,y]))->Q (.ref l) H'
theorem xF{P:Program}{w:World}{k:Key}{u:Value}(h:(aY P w).is k u=true):RelV (kV k) u:=by
 cases k with
 | inl i =>
  cases u <;> first | exact absurd h Bool.false_ne_true | (rename_i j t;have a:ii (Sum.inl i) (Value.int j t)=true:=h;have:j=i:=(by simpa[ii,Value.isInt] using a);exact(show ∃ t',Value.int j t=Value.int i t' from⟨t,by rw[this]⟩))
 | inr x =>
  cases u <;> first | exact absurd h Bool.false_ne_true | (rename_i j t;have a:ii (Sum.inr x) (Value.str j t)=true:=h;have:j=x:=(by simpa[ii,Value.isStrOf] using a);exact(show ∃ t',Value.str j t=Value.str x t' from⟨t,by rw[this]⟩))
theorem rX(hc:X.calm=true):CallR X (.type "list") BN:=by
 intro ap s σ H xs us Q I r h;obtain⟨v,d,A,rfl,ev,ed,q⟩:=h;obtain⟨u,rfl,ru⟩:=dL r;cases ru;obtain⟨z,hd,ws,F,dd⟩:=ve I.hok ed;obtain⟨ob,en,ep,ad⟩:=id dd;have hz:ws.length<=sizeLine:=by rw[<- F.length];exact z
 have hv:s.heap.IsItemsView v d:=(I.hok v _ ev).1
 have P:s.heap.DictAt (aY X.prog X.w) d ws ep:=⟨ob,en,ad⟩
 refine PySem.W.kdx_call (knd:=aY X.prog X.w) (I.ok.hd hc) hv P hz λh' tk R c f Z hS hl hG S=>?_
 have i:f.length=A.length:=by rw[hl,F.length]
 have g:∀ b,s.heap.objs.size<=b->H b=none:=λb C=>I.hok.fresh C
 have aS:∀ a∈f,s.heap.objs.size<a:=hG.above;have W:f.Nodup:=hG.rise.imp (λh=>Nat.ne_of_lt h)
 let tb:List (Addr×HO):=f.zip (A.map λp=>HO.tup [kV p.1,p.2])
 have a1:tb.length=f.length:=by simp[tb,i]
 let H':Hp:=λb=>if b=s.heap.objs.size then some (.lst (f.map V.ref)) else (tb.lookup b).or (H b)
 have an:∀ b o,tb.lookup b=some o->b∈f:=λb o e=>by
  have m:=rJ e;exact(of_mem_zip (show(b,o)∈f.zip (A.map λp=>HO.tup [kV p.1,p.2]) from m)).1
 have M:∀ b,b<s.heap.objs.size->H' b=H b:=λb C=>by
  show(if b=s.heap.objs.size then _ else _)=_;rw[if_neg (Nat.ne_of_lt C)];cases q:tb.lookup b with
  | none=>rfl
  | some o=>exact absurd (aS b (an b o q)) (Nat.not_lt.mpr (Nat.le_of_lt C))
 have J:Same H H':=λb o e=>by
  have C:b<s.heap.objs.size:=Nat.lt_of_not_le λw=>by rw[g b w]at e;cases e
  rw[M b C];exact e
 have at_:∀(j:Nat) (a:Addr) (k:Key) (y:V),f[j]? = some a->A[j]? = some (k,y)->H' a=some (.tup [kV k,y]):=λj a k y E Y=>by
  have P:a∈f:=List.mem_of_getElem? E;show(if a=s.heap.objs.size then _ else _)=_;rw[if_neg (Nat.ne_of_gt (aS a P))]
  have e1:tb[j]? = some (a,.tup [kV k,y]):=by
   simp only[tb];rw[List.getElem?_zip_eq_some];refine⟨E,?_⟩;rw[List.getElem?_map,Y];rfl
  have T:tb.lookup a=some (.tup [kV k,y]):=by
   have D:∀(f:List Addr) (G:List HO) (j:Nat) (a:Addr) (o:HO),f.Nodup->f[j]? = some a->G[j]? = some o->(f.zip G).lookup a=some o:=by
    intro f
    induction f with
    | nil=>intro G j a o _ h;simp at h
    | cons x r ih =>
     intro G j a o W h1 h2;cases G with
     | nil=>simp at h2
     | cons o0 G =>
      rw[zip_cons_cons,lookup_cons];cases j with
      | zero =>
       have e1:x=a:=by simpa using h1
       have T:o0=o:=by simpa using h2
       subst e1 T;simp
      | succ j =>
       have m:a∈r:=List.mem_of_getElem? (show r[j]? = some a by simpa using h1);have ne:a≠x:=λw=>(nodup_cons.mp W).1 (w ▸ m)
       rw[show(a == x)=false by simpa using ne];exact ih G j a o (nodup_cons.mp W).2 (by simpa using h1) (by simpa using h2)
   exact D f _ j a _ W E (by rw[List.getElem?_map,Y];rfl)
  rw[T];rfl
 have ab:HOk X.prog X.w H' h':=λb o e=>by
  by_cases C:b=s.heap.objs.size
  .subst C
   have K:some (HO.lst (f.map V.ref))=some o:=by
    rw[<- e];show _=if s.heap.objs.size=s.heap.objs.size then _ else _
    rw[if_pos rfl]
   cases K
   have N:Vals (f.map V.ref) R.toList:=by
    rw[S]
    have:∀(l:List Addr),Vals (l.map V.ref) (l.map Value.ref):=by
     intro l
     induction l with
     | nil=>exact .nil
     | cons a l ih=>exact .cons rfl ih
    exact this f
   refine⟨by rw[length_map,i];exact z,R.toList,c,N,?_⟩;rw[hS]
  .have K:(tb.lookup b).or (H b)=some o:=by
    have:=e;simp only[H',if_neg C]at this;exact this
   cases qb:tb.lookup b with
   | some o' =>
    rw[qb]at K;cases K;have P:=rJ qb;obtain⟨j,hj⟩:=List.mem_iff_getElem?.mp P;simp only[tb]at hj;rw[List.getElem?_zip_eq_some]at hj;obtain⟨E,O⟩:=hj;rw[List.getElem?_map]at O;cases hkv:A[j]? with
    | none=>rw[hkv]at O;cases O
    | some p =>
     rw[hkv]at O;cases O;obtain⟨D,k,x,hx,al,hg⟩:=hG.pairs j b E
     obtain⟨B,hq',e3,r3⟩:∃ B,ws[j]? = some B/\p.1=B.1/\RelV p.2 B.2:=by
      have:∀{a:List (Key×V)}{b:List (Key×Value)},KV a b->∀(j:Nat) (p:Key×V),a[j]? = some p->∃ B,b[j]? = some B/\p.1=B.1/\RelV p.2 B.2:=by
       intro a b r
       induction r with
       | nil=>intro j p h;simp at h
       | @cons a0 b0 l1 l2 h0 _ ih =>
        intro j p h;cases j with
        | zero =>
         have e0:a0=p:=by simpa using h
         subst e0;exact⟨b0,by simp,h0⟩
        | succ j=>exact ih j p (by simpa using h) |>.imp λB hq=>⟨by simpa using hq.1,hq.2⟩
      exact this F j p hkv
     rw[hx]at hq';cases hq'
     have rk:RelV (kV p.1) D:=by
      have:p.1=k:=e3;rw[this];exact xF al
     exact⟨(by decide:2<=sizeLine),[D,x],.cons rk (.cons r3 .nil),⟨_,hg,rfl,_,rfl⟩⟩
   | none =>
    rw[qb]at K;have T:H b=some o:=K;refine(I.hok b o T).stay (λb2 u _ L=>Z b2 u L) (λb2 L=>J _ _ L) λb2 xs L=>J _ _ L
 refine⟨.ref s.heap.objs.size,H',I.un (t':=tk) ⟨λb o e _ _ _=>Z b o e,λb o e _ _ _=>⟨o.slots,Z b o e⟩,λb o e n _=>?_,λb o e _=>⟨o,Z b o e⟩,λb xs e=>J _ _ e,λb o u e=>J _ _ e,λb ps e=>⟨#[],by rw[J _ _ e];simp⟩⟩ ab,rfl,?_⟩
 .rw[M b (Heap.lt_size e)]
  exact n
 .refine q _ f H' J (g _ (Nat.le_refl _)) ?_ i λj a k y E Y=>⟨g a (Nat.le_of_lt (aS a (List.mem_of_getElem? E))),at_ j a k y E Y⟩
  show(if _ then _ else _)=_;rw[if_pos rfl]
end
section
variable {X:Cx}{o e:Expr}{es:List Expr}{to:TE}{t:TA}{apos cpos:Pos}
theorem pe_m.setdefault(f:PE X o to)(h:PA X (e::es) t)(c:attributeBase o "setdefault" X.env (eval o X.env)=eval o X.env:=by rfl)
  (d:((backTo cpos (starEach (e::es) X.env)).all (λx=>!x.1) && (backToKw cpos (keywordEach [] X.env)).all (λx=>x.1.isSome) && decide ((e::es).length+([]:List Keyword).length+(if ([]:List Keyword).isEmpty then 0 else 1)<30))=true:=by rfl)
  (b:(apos.endLine == cpos.line)=true:=by rfl) (g:starEach (e::es) X.env=(false,eval e X.env)::starEach es X.env:=by rfl) (a:(backTo cpos (starEach es X.env)).any (·.1)=false:=by rfl) :
  PE X (.Call (.Attribute o "setdefault" apos) (e::es) [] cpos) (tBM X.K "dict" Bg to t):=uM F.plainAttrs_dict F.slot_dict_setdefault F.type_dict_setdefault AM f h c d b g a
theorem pe_m.items(c:PE X o to)(b:attributeBase o "items" X.env (eval o X.env)=eval o X.env:=by rfl)(a:(apos.endLine == cpos.line)=true:=by rfl) :
  PE X (.Call (.Attribute o "items" apos) [] [] cpos) (Dk X.K "dict" wZ to):=B9 F.plainAttrs_dict F.slot_dict_items F.type_dict_items wK c b a
end
theorem uI:∀{xs:List V}{us:List Value},xs.length=us.length->(∀(i:Nat) x u,xs[i]? = some x->us[i]? = some u->RelV x u)->Vals xs us
 | [],[],_,_=>.nil
 | x::xs,u::us,h,r=>.cons (r 0 x u rfl rfl) (uI (by simpa using h) λi y w a b=>r (i+1) y w (by simpa using a) (by simpa using b))
 | [],_::_,h,_=>by cases h
 | _::_,[],h,_=>by cases h
section
variable {X:Cx}
theorem mO:CallR X (.type "range") (λxs H Q=>∃ b,xs=[.int b]/\∀ p,H p=none->Q (.ref p) (upd H p (.rng 0 b))):=by
 intro a s c H xs d Q I r h;obtain⟨b,rfl,q⟩:=h;obtain⟨u,rfl,⟨t,rfl⟩⟩:=dL r;refine call_range_1 ?_;exact⟨.ref s.heap.objs.size,_,I.laid (o:=.rng 0 b) (λb o e=>Heap.get?_push_of_some _ e) (Nat.le_refl _) ⟨_,_,_,Heap.get?_push_size _ rfl⟩,rfl,q _ (I.hok.fresh (Nat.le_refl _))⟩
end
def js(H:Hp)(x:Addr):Hp:=λb=>if b=x then none else H b
theorem fm{H:Hp}{x b:Addr}(h:b≠x):js H x b=H b:=by unfold js;rw[if_neg h]
theorem gS{H:Hp}{x:Addr}:js H x x=none:=by unfold js;rw[if_pos rfl]
section
variable {P:Program}{w:World}{K:Frag}{mg:Str->Option Value}{base:Heap}{N:List Str}{qual:Str}{scope:Scope}{f:Addr}{cdv:Value}{A:Around}{outer:List Env}{s0:Shared}{H0:Hp}{E:XK}
end
end L2
namespace FrM
theorem rq(x y:Int):Int.gcd y (x % y)=Int.gcd x y:=by
 have e:x=x % y+y*(x/y):=(Int.emod_add_mul_ediv x y).symm;rw[Int.gcd_comm x y]
 conv=>rhs;rw[e]
 rw[Int.gcd_add_mul_left_right]
def Bt(n:Nat)(i:Int):Prop:=i.natAbs<2 ^ n
theorem Bt.mono{m n:Nat}{i:Int}(h:Bt m i)(l:m<=n):Bt n i:=Nat.lt_of_lt_of_le h (Nat.pow_le_pow_right (by decide) l)
theorem Bt.le{n:Nat}{i j:Int}(h:Bt n i)(l:j.natAbs<=i.natAbs):Bt n j:=Nat.lt_of_le_of_lt l h
theorem Bt.mul{m n:Nat}{i j:Int}(h:Bt m i)(h':Bt n j):Bt (m+n) (i*j):=by
 unfold Bt at *;rw[Int.natAbs_mul,Nat.pow_add];exact Nat.mul_lt_mul_of_le_of_lt (Nat.le_of_lt h) h' (Nat.lt_of_le_of_lt (Nat.zero_le _) h)
theorem Bt.add{n:Nat}{i j:Int}(h:Bt n i)(h':Bt n j):Bt (n+1) (i+j):=by
 unfold Bt at *;rw[Nat.pow_succ];omega
theorem Bt.sub{n:Nat}{i j:Int}(h:Bt n i)(h':Bt n j):Bt (n+1) (i - j):=by
 unfold Bt at *;rw[Nat.pow_succ];omega
structure Low(T B t b:Int):Prop where
 pos:1<=b
 cop:Int.gcd t b=1
 eq:t*B=T*b
theorem low(t b:Int)(f:0<b):0<(Int.gcd t b:Int)/\(Int.gcd t b:Int)<=b/\Low t b (t/(Int.gcd t b:Int)) (b/(Int.gcd t b:Int))/\(t/(Int.gcd t b:Int)).natAbs<=t.natAbs/\(b/(Int.gcd t b:Int)).natAbs<=b.natAbs:=by
 have c:0<Int.gcd t b:=Int.gcd_pos_iff.mpr (.inr (by omega));have e:0<(Int.gcd t b:Int):=by omega
 have g:=Int.gcd_dvd_left t b;have a:=Int.gcd_dvd_right t b;have i:=Int.ediv_mul_cancel g;have h:=Int.ediv_mul_cancel a;have d:(Int.gcd t b:Int)<=b:=Int.le_of_dvd f a;refine⟨e,d,⟨?_,Int.gcd_ediv_gcd_ediv_gcd c,?_⟩,?_,?_⟩
 .have:=Int.ediv_pos_of_pos_of_dvd f (by omega) a
  omega
 .rw[<- Int.mul_ediv_assoc _ a,Int.mul_comm,<- Int.mul_ediv_assoc _ g,Int.mul_comm]
 .have:=congrArg Int.natAbs i
  rw[Int.natAbs_mul]at this;rw[<- this];exact Nat.le_mul_of_pos_right _ (by simpa using c)
 .have:=congrArg Int.natAbs h
  rw[Int.natAbs_mul]at this;rw[<- this];exact Nat.le_mul_of_pos_right _ (by simpa using c)
theorem kB{b t a:Int}(c:Int.gcd t b=1)(h:b ∣ t*a):b ∣ a:=by
 rw[<- Int.natAbs_dvd_natAbs]at *;rw[Int.natAbs_mul]at h;exact Nat.Coprime.dvd_of_dvd_mul_left (by rw[Nat.coprime_comm];exact c) h
theorem Low.uniq{T B t b t' a:Int}(d:B≠0)(h:Low T B t b)(h':Low T B t' a):t=t'/\b=a:=by
 have e:t*a=t'*b:=by
  have:(t*a)*B=(t'*b)*B:=by
   rw[Int.mul_assoc,Int.mul_comm a B,<- Int.mul_assoc,h.eq,Int.mul_assoc t' b B,Int.mul_comm b B,<- Int.mul_assoc,h'.eq,Int.mul_assoc,Int.mul_assoc,Int.mul_comm b a]
  exact Int.eq_of_mul_eq_mul_right d this
 have g:b ∣ a:=by
  have:b ∣ t*a:=⟨t',by rw[e,Int.mul_comm]⟩
  exact kB h.cop this
 have f:a ∣ b:=by
  have:a ∣ t'*b:=⟨t,by rw[<- e,Int.mul_comm]⟩
  exact kB h'.cop this
 have c:b=a:=Int.dvd_antisymm (by have:=h.pos;omega) (by have:=h'.pos;omega) g f;refine⟨?_,c⟩;rw[c]at e;exact Int.eq_of_mul_eq_mul_right (by have:=h'.pos;omega) e
end FrM
namespace L2
open PySem PySem.Spec PyProof.Rows FrM
section
variable {X:Cx}
def CMulB(i j:Int):Prop:=(Bt 8000 i/\Bt 8000 j)\/CMul i j
theorem CMulB.ok{i j:Int}(h:CMulB i j):IntMulOk i j:=by
 rcases h with⟨a,b⟩ | h
 .exact IntMulOk.of_le (m:=8000) (n:=8000) (intBits_le_iff.mpr a) (intBits_le_iff.mpr b) (by decide)
 .exact h.ok
def CDivB(i j:Int):Prop:=0<j/\Bt 8000 j
theorem CDivB.no{i j:Int}(h:CDivB i j):Builtin.divisionGoesByPylong i j=false:=by
 refine PyProof.noPylong_of_log2 ?_;have a:j.natAbs<2 ^ 8000:=h.2
 by_cases h0:j.natAbs=0
 .rw[h0];decide +kernel
 .have:j.natAbs.log2<8000:=(Nat.log2_lt h0).mpr a
  lia
theorem op_mulB:OpR X (binaryOp .Mult) (rI CMulB λi j=>.int (i*j)):=opI λ_ _ _ _ _ _ _ a q=>mul_int q a.ok
theorem op_fdivB:OpR X (binaryOp .FloorDiv) (rI CDivB λi j=>.int (i/j)):=opI λi j _ _ _ _ _ a q=>by
 have b:(0:Int)<j:=a.1;exact floordiv_int (by lia) (by rw[Int.fdiv_eq_ediv_of_nonneg i (by lia)];exact q) (.inl a.no)
theorem aH:OpR X (binaryOp .Mult) (rIC CMulB λi j=>.int (i*j)):=op_mulB.ic
theorem cE:OpR X (binaryOp .FloorDiv) (rIC CDivB λi j=>.int (i/j)):=op_fdivB.ic
theorem cmB{i j:Int}{m n:Nat}(h:Bt m i)(h':Bt n j)(a:m<=8000:=by decide)(b:n<=8000:=by decide):CMulB i j:=.inl ⟨h.mono a,h'.mono b⟩
theorem clB{i j:Int}(h:-(2 ^ 64)<i:=by decide)(a:i<2 ^ 64:=by decide):CMulB i j:=.inr (cl h a)
theorem crB{i j:Int}(h:-(2 ^ 64)<j:=by decide)(a:j<2 ^ 64:=by decide):CMulB i j:=.inr (cr h a)
theorem cdB{i j:Int}{n:Nat}(h:0<j)(h':Bt n j)(a:n<=8000:=by decide):CDivB i j:=⟨h,h'.mono a⟩
theorem sw:bootBuiltins "abs" = some (.builtin "abs"):=by decide +kernel
end
end L2
namespace L2
open PySem PySem.Spec PyProof.Rows
def Ak:Expr->Bool
 | .Starred ..=>true
 | _=>false
theorem wa{e:Expr}{a:List Expr}{env:Env}(h:Ak e=false):starEach (e::a) env=(false,eval e env)::starEach a env:=by
 cases e <;> first | rfl | cases h
theorem xU{X:Cx}{e:Expr}{a:List Expr}{b:TE}{t:TA}(d:PE X e b)(c:PA X a t)(h:Ak e=false:=by rfl):PA X (e::a) (t6 b t):=aa d c (wa h)
@[irreducible] def PSq(X:Cx)(sts:List Stmt)(t:TS):Prop:=PSs X sts t
theorem C4{X:Cx}{st:Stmt}{a:List Stmt}{t u:TS}(c:PS X st t)(b:PSq X a u):PSs X (st::a) (bi t u):=by
 unfold PSq at b;exact ag c b
section
variable {X:Cx}{k ie ir:Nat}{f C:Addr}{fd:FuncData}{ps:List Str}{sp:Sp}{dvs:List V}{ds:List Value}{fx cn en rn:Str}{p pos p2 p3 cp hp tp:Pos}{e:Expr}{es:List Expr}{t:TA}{b₀:Stmt}{suite:List Stmt}{ts:TS}
end
end L2
namespace HT
open PySem PySem.Spec PyProof.Rows
section
variable {prog:Program}{w:World}{A:Around}{E:Value->Shared->Prop}{s:Shared}
end
end HT
namespace L2
open PySem PySem.Spec PyProof.Rows
section
variable {X:Cx}
@[irreducible] def PAq(X:Cx)(es:List Expr)(t:TA):Prop:=PA X es t
theorem vn:PAq X [] DL:=by unfold PAq;exact ac
theorem w6{e:Expr}{b:List Expr}{c:TE}{t:TA}(d:PE X e c)(a:PAq X b t)(h:Ak e=false:=by rfl):PAq X (e::b) (t6 c t):=by
 unfold PAq at a ⊢;exact xU d a h
theorem Ag{b:List Expr}{t:TA}{a:Pos}(h:PAq X b t):PE X (.List b a) (Cz t):=by
 unfold PAq at h;exact bL h
end
section
variable {X:Cx}
@[irreducible] def PEq(X:Cx)(e:Expr)(t:TE):Prop:=PE X e t
@[irreducible] def PSt(X:Cx)(st:Stmt)(t:TS):Prop:=PS X st t
theorem bK{e:Expr}{t:TE}(h:PE X e t):PEq X e t:=by unfold PEq;exact h
theorem kG{e:Expr}{t:TE}(h:PEq X e t):PE X e t:=by unfold PEq at h;exact h
theorem tF{st:Stmt}{t:TS}(h:PS X st t):PSt X st t:=by unfold PSt;exact h
theorem uX{st:Stmt}{t:TS}(h:PSt X st t):PS X st t:=by unfold PSt at h;exact h
theorem uE{b:List Expr}{t:TA}{a:Pos}(h:PAq X b t):PEq X (.List b a) (Cz t):=bK (Ag h)
theorem bj{e:Expr}{a:List Expr}{b:TE}{t:TA}(d:PEq X e b)(c:PAq X a t)(h:Ak e=false:=by rfl):PAq X (e::a) (t6 b t):=w6 (kG d) c h
theorem AC{st:Stmt}{t:TS}(h:PSt X st t):PSq X [st] t:=by unfold PSq;exact ai (uX h)
theorem dZ{st:Stmt}{a:List Stmt}{t u:TS}(h:PSt X st t)(b:PSq X a u):PSq X (st::a) (bi t u):=by
 unfold PSq at b ⊢;exact ag (uX h) b
theorem zM{a:List Stmt}{t:TS}(h:PSq X a t):PSs X a t:=by unfold PSq at h;exact h
theorem iY{i:Nat}{x:Str}{e:Expr}{c:TE}{b a:Pos}(g:X.N.Nodup)(hi:X.N[i]? = some x)(f:Loc X.env.scope x)(j:PEq X e c)(d:swapsWith e (some (.Name x a)) b.line X.env = pure false:=by rfl)(h:X.fn x = true\/X.env.scope.names.lookup x = some .local:=by first | exact .inl rfl | exact .inr rfl | assumption) :
  PSt X (.Assign [.Name x a] e b) (wd c (mL i)):=tF (rY g hi f (kG j) d h)
end
structure LamD where
 qual:Str
 params:Arguments
 body:Expr
 scope:Scope
def jH(f:Addr)(d:LamD)(clos:List (Str×Addr))(c:Addr):Heap->Prop:=λh=>∃ pm ctv,h.get? f=some (kla_obj "<lambda>" d.qual d.params d.body d.scope clos pm c ctv)
def c9(c:Addr)(v:V):Heap->Prop:=λh=>∃ o u,h.get? c=some o/\o.data=.cell (some u)/\RelV v u
def ia(c:Addr)(q:Str):Heap->Prop:=λh=>∃ o vs t,h.get? c=some o/\o.data=.fields vs/\vs[1]? = some (.str q t)
section
variable {P:Program}{w:World}{H:Hp}{h:Heap}
theorem tU{f:Addr}{d:LamD}{b:List (Str×Addr)}{c:Addr}{g a:Value}(e:h.get? f=some (kla_obj "<lambda>" d.qual d.params d.body d.scope b g c a)):ObjOk P w H h f (.ext (jH f d b c)) :=
 ⟨⟨g,a,e⟩,⟨_,e⟩,λl j ⟨g,a,i⟩ k=>⟨g,a,k _ i⟩⟩
theorem pZ{c:Addr}{v:V}(x:c9 c v h):ObjOk P w H h c (.ext (c9 c v)) :=
 ⟨x,let ⟨o,_,e,_⟩:=x;⟨o,e⟩,λb d ⟨o,u,a,r⟩ k=>⟨o,u,k _ a,r⟩⟩
theorem xp{c:Addr}{q:Str}(x:ia c q h):ObjOk P w H h c (.ext (ia c q)) :=
 ⟨x,let ⟨o,_,_,e,_⟩:=x;⟨o,e⟩,λd f ⟨o,a,t,b,r⟩ k=>⟨o,a,t,k _ b,r⟩⟩
end
def DK:HO->Bool
 | .tbl _=>false
 | _=>true
def SameT(H H':Hp):Prop:=∀ b o,H b=some o->(DK o=true->H' b=some o)/\∃ o',H' b=some o'
theorem SameT.trans{H h d:Hp}(a:SameT H h)(b:SameT h d):SameT H d:=λc o e=>by
 obtain⟨f,m,i⟩:=a c o e;obtain⟨g,j,l⟩:=b c m i;exact⟨λn=>(b c o (f n)).1 n,j,l⟩
theorem Same.t{H a:Hp}(s:Same H a):SameT H a:=λb o e=>⟨λ_=>s b o e,o,s b o e⟩
theorem SameT.at{H b:Hp}(s:SameT H b){a:Addr}{o:HO}(e:H a=some o)(n:DK o=true:=by rfl):b a=some o:=(s a o e).1 n
theorem SameT.free{H c:Hp}(s:SameT H c){a:Addr}(e:c a=none):H a=none:=by
 cases q:H a with
 | none=>rfl
 | some o=>obtain⟨_,d,b⟩:=s a o q;rw[e]at b;cases b
theorem SameT.put{H c:Hp}(s:SameT H c){a:Addr}{o:HO}(e:H a=none):SameT H (upd c a o):=λb u q=>by
 have n:b≠a:=λz=>by rw[z,e]at q;cases q
 rw[ar n];exact s b u q
def Ej(H:Hp)(P:Addr)(ls:List (Pos×Str)):Prop:=∃ ps,H P=some (.tbl ps)/\TriplesOk ps.toList/\∀ l∈ls,codeAmong l.1 ps.toList=none\/∃ c,codeAmong l.1 ps.toList=some (.ref c)/\H c=some (.ext (ia c l.2))
abbrev wj:=List (Addr×List (Pos×Str))
def TabsOk(tabs:wj)(H:Hp):Prop:=∀ q∈tabs,Ej H q.1 q.2
theorem TabsOk.same{d:wj}{H e:Hp}(t:TabsOk d H)(s:Same H e):TabsOk d e:=λq m=>by
 obtain⟨g,j,i,f⟩:=t q m;exact⟨g,s _ _ j,i,λl h=>(f l h).imp id λ⟨c,a,b⟩=>⟨c,a,s _ _ b⟩⟩
theorem TabsOk.put{d:wj}{H:Hp}{r:Addr}{o:HO}(t:TabsOk d H)(j:∀ ps,H r≠some (.tbl ps))(f:∀ φ,H r≠some (.ext φ)):TabsOk d (upd H r o):=λq m=>by
 obtain⟨ps,e,i,g⟩:=t q m;refine⟨ps,?_,i,λl h=>(g l h).imp id λ⟨c,a,b⟩=>⟨c,a,?_⟩⟩
 .rw[ar λz=>j ps (by rw[<- z];exact e)];exact e
 .rw[ar λz=>f _ (by rw[<- z];exact b)];exact b
theorem qD{p d:Pos}{c:Value}(l:List Value)(h:TriplesOk l)(e:¬(p.line=d.line/\p.col=d.col)):codeAmong d (l++[rawInt p.line,rawInt p.col,c])=codeAmong d l:=by
 fun_induction TriplesOk l with
 | case1 =>
  simp only[nil_append,codeAmong,rawInt];rw[if_neg];intro z;rw[Bool.and_eq_true,beq_iff_eq,beq_iff_eq]at z;exact e ⟨by lia,by lia⟩
 | case2 a t b u x fj ih =>
  simp only[cons_append,codeAmong];rw[ih h]
 | case3=>exact h.elim
theorem oM{p:Pos}{c:Value}(l:List Value)(h:TriplesOk l):TriplesOk (l++[rawInt p.line,rawInt p.col,c]):=by
 fun_induction TriplesOk l with
 | case1=>simp[TriplesOk,rawInt]
 | case2 a t b u x fj ih=>exact ih h
 | case3=>exact h.elim
def Bm(mg:Str->Option Value)(base:Heap):Prop:=∃ bm ob,mg "__builtins__" = some (.ref bm)/\base.get? bm=some ob/\ob.cls=.type "module" /\ ob.dict=some builtinsNs/\ob.data=.plain
def ES(tabs:wj)(d:LamD)(clos:List (Str×Addr)):TE:=λσ H Q=>TabsOk tabs H/\∀ f c H1,SameT H H1->TabsOk tabs H1->H f=none->H1 f=some (.ext (jH f d clos c))->H1 c=some (.ext (ia c d.qual))->Q (.ref f) H1
theorem oA{c b:Type}:∀{l:List (c×b)},(l.map (·.1)).Nodup->∀ x∈l,∀ y∈l,x.1=y.1->x=y
 | [],_,x,hx,_,_,_=>by cases hx
 | a::r,nd,x,hx,y,hy,e=>by
  rw[map_cons,nodup_cons]at nd
  rcases mem_cons.mp hx with rfl | hx' <;> rcases mem_cons.mp hy with rfl | hy'
  .rfl
  .exact absurd (mem_map.mpr ⟨y,hy',e.symm⟩) nd.1
  .exact absurd (mem_map.mpr ⟨x,hx',e⟩) nd.1
  .exact oA nd.2 x hx' y hy' e
theorem uG:∀{l:List (Pos×Str)},(l.Pairwise λx y=>¬(x.1.line=y.1.line/\x.1.col=y.1.col))->∀ x∈l,∀ y∈l,(x.1.line=y.1.line/\x.1.col=y.1.col)->x=y
 | [],_,x,hx,_,_,_=>by cases hx
 | a::r,nd,x,hx,y,hy,e=>by
  rw[pairwise_cons]at nd
  rcases mem_cons.mp hx with rfl | hx' <;> rcases mem_cons.mp hy with rfl | hy'
  .rfl
  .exact absurd e (nd.1 y hy')
  .exact absurd ⟨e.1.symm,e.2.symm⟩ (nd.1 x hx')
  .exact uG nd.2 x hx' y hy' e
section
variable {X:Cx}{tabs:wj}{P c:Addr}{ls:List (Pos×Str)}{d:LamD}{clos:List (Str×Addr)}{pos:Pos}
theorem iN(al:X.env.code=.ref c)(hC:codeHdIn X.K c P=true)(hB:Bm X.mg X.base)(hq:X.env.qual ++ "<lambda>" = d.qual)(L:closureFor d.scope X.env=pure clos)(N:defaultsOf d.params X.env=([],[]))
  (hm:(P,ls)∈tabs) (hl:(pos,d.qual)∈ls) (as:(tabs.map (·.1)).Nodup) (bp:ls.Pairwise λx y=>¬(x.1.line=y.1.line/\x.1.col=y.1.col)):PE X (.Lambda d.params d.body d.scope pos) (ES tabs d clos):=by
 intro bD s σ H Q I h;obtain⟨hT,hQ⟩:=h;refine PySem.W.kla_eval N ?_;rw[hq];obtain⟨G,r,m,ad⟩:=hT _ hm;have v:s.heap.Ns mainGlobals X.mg:=I.mod.glob.keeps I.bk;have C:CodeHd s.heap c P:=codeHd_of_K I.kIn hC;have A:s.heap.get? P=some (tabObj G):=I.hok P _ r
 have bq:mainGlobals≠P:=λq=>by
  obtain⟨o,es,ep,e,Z,_⟩:=v;rw[q,A]at e;cases e;cases Z
 obtain⟨bm,ob,b1,b2,b3,b4,T⟩:=hB;have R:=I.bk _ _ b2
 have a3:bm≠P:=λq=>by
  rw[q,A]at R;cases R;cases b3
 have aS:bm≠mainGlobals:=λq=>by
  obtain⟨o,es,ep,e,Z,_⟩:=v;rw[q,e]at R;cases R;rw[Z]at T;cases T
 have bl:bm≠builtinsNs:=λq=>by
  obtain⟨mb,⟨o,es,ep,e,Z,_⟩,_⟩:=I.mod.blt;rw[q,e]at b2;cases b2;rw[Z]at T;cases T
 have BA:s.heap.BuiltinsAt X.mg P:=⟨bm,ob,b1,bl,aS,a3,R,b3,b4,T⟩
 rcases ad _ hl with hn | ⟨i,hc,br⟩
 .refine PySem.W.kla_makeFunction (mg:=X.mg) L I.ok.glob v al C A m hn bq BA λi an h' tk hx w F Y a'=>?_
  have S:H i=none:=I.hok.fresh w;have j:H h'.objs.size=none:=I.hok.fresh (Nat.le_trans w (Nat.le_of_lt F));have ab:i≠h'.objs.size:=Nat.ne_of_lt F;have a0:P≠i:=ay r S;have W:P≠h'.objs.size:=ay r j
  obtain⟨f,hf⟩:∃ f,f=h'.objs.size:=⟨_,rfl⟩
  obtain⟨ob',hob⟩:∃ o,o=kla_obj "<lambda>" d.qual d.params d.body d.scope clos ((X.mg "__name__").getD .none) i an:=⟨_,rfl⟩
  have a4:(h'.push ob').get? f=some ob':=by rw[hf,hob];exact Heap.get?_push_size _ rfl
  have l:∀ b o,b≠P->s.heap.get? b=some o->(h'.push ob').get? b=some o:=λb o n e=>Heap.get?_push_of_some _ (hx b o n e)
  have D:(h'.push ob').get? P=some (tabObj (G ++ #[rawInt pos.line,rawInt pos.col,.ref i])):=Heap.get?_push_of_some _ a'
  have a1:ia i d.qual (h'.push ob'):=by
   obtain⟨B,oc,vs,t,e2,a2,bd,hv⟩:=Y;cases e2;exact⟨oc,vs,t,Heap.get?_push_of_some _ a2,bd,hv⟩
  rw[<- hf]at j ab W ⊢;rw[<- hob]
  obtain⟨H1,hH1⟩:∃ H1,H1=upd (upd (upd H P (.tbl (G ++ #[rawInt pos.line,rawInt pos.col,.ref i]))) i (.ext (ia i d.qual))) f (.ext (jH f d clos i)):=⟨_,rfl⟩
  have gf:H1 f=some (.ext (jH f d clos i)):=by rw[hH1];exact ae
  have gc:H1 i=some (.ext (ia i d.qual)):=by rw[hH1,ar ab];exact ae
  have gP:H1 P=some (.tbl (G ++ #[rawInt pos.line,rawInt pos.col,.ref i])):=by rw[hH1,ar W,ar a0];exact ae
  have go:∀ b,b≠P->b≠i->b≠f->H1 b=H b:=λb h1 h2 O=>by rw[hH1,ar O,ar h2,ar h1]
  have g:∀ b o,b≠P->H b=some o->H1 b=some o:=λb o n e=>by rw[go b n (ay e S) (ay e j)];exact e
  have E:∀ b o,H b=some o->(∀ qs,o≠.tbl qs)->b≠P:=λb o e n z=>by rw[z,r]at e;cases e;exact n G rfl
  have un:Un X.fs [] H H1 s.heap (h'.push ob'):=by
   refine⟨λb o e n _ _=>l b o (λz=>by rw[z,r]at n;cases n) e,λb o e n _ _=>⟨o.slots,l b o (λz=>by rw[z,r]at n;cases n) e⟩,λb o e n _=>?_,λb o e _=>?_,λb xs e=>g b _ (E b _ e λ_ z=>nomatch z) e,λb o u e=>g b _ (E b _ e λ_ z=>nomatch z) e,λb qs e=>?_⟩
   .have hb:b<s.heap.objs.size:=Heap.lt_size e
    rw[go b (λz=>by rw[z,r]at n;cases n) (Nat.ne_of_lt (Nat.lt_of_lt_of_le hb w)) (by rw[hf];exact Nat.ne_of_lt (Nat.lt_of_lt_of_le hb (Nat.le_trans w (Nat.le_of_lt F))))];exact n
   .by_cases hb:b=P
    .rw[hb];exact⟨_,D⟩
    .exact⟨o,l b o hb e⟩
   .by_cases hb:b=P
    .rw[hb,r]at e
     cases e;rw[hb];exact⟨_,gP⟩
    .exact⟨#[],by rw[g b _ hb e];simp⟩
  have ap:HOk X.prog X.w H1 (h'.push ob'):=λa o e=>by
   by_cases h1:a=f
   .subst h1;rw[gf]at e;cases e;exact tU (by rw[a4,hob])
   by_cases h2:a=i
   .subst h2;rw[gc]at e;cases e;exact xp a1
   by_cases O:a=P
   .subst O;rw[gP]at e;cases e;exact D
   rw[go a O h2 h1]at e;refine(I.hok a o e).stay (λb u hb q=>l b u ?_ q) (λb q=>g b _ (E b _ q λ_ z=>nomatch z) q) λb xs q=>g b _ (E b _ q λ_ z=>nomatch z) q
   rcases hb with rfl | hb
   .exact O
   .exact E b _ hb λ_ z=>nomatch z
  refine⟨.ref f,H1,I.un (h':=h'.push ob') (t':=tk) un ap,rfl,hQ f i H1 (λb o e=>?_) (λq hq'=>?_) j gf gc⟩
  .by_cases hb:b=P
   .subst hb
    rw[r]at e;cases e;exact⟨λz=>(Bool.false_ne_true z).elim,_,gP⟩
   .exact⟨λ_=>g b o hb e,o,g b o hb e⟩
  .by_cases hqP:q.1=P
   .have bn:q=(P,ls):=oA as q hq' (P,ls) hm hqP
    subst bn;refine⟨_,gP,by rw[Array.toList_append];exact oM _ m,λJ p=>?_⟩;rw[Array.toList_append]
    by_cases hp:pos.line=J.1.line/\pos.col=J.1.col
    .have:=uG bp (pos,d.qual) hl J p hp
     subst this;exact .inr ⟨i,codeAmong_snoc _ m hn,gc⟩
    .have eo:=qD (c:=.ref i) G.toList m hp
     rcases ad J p with z | ⟨B,z1,M⟩
     .exact .inl (eo.trans z)
     .exact .inr ⟨B,eo.trans z1,g B _ (E B _ M λ_ z=>nomatch z) M⟩
   .obtain⟨qs,e1,e2,e3⟩:=hT q hq'
    exact⟨qs,g _ _ hqP e1,e2,λJ p=>(e3 J p).imp id λ⟨B,z1,M⟩=>⟨B,z1,g B _ (E B _ M λ_ z=>nomatch z) M⟩⟩
 .refine PySem.W.kla_makeFunctionHit (mg:=X.mg) L I.ok.glob v al C A m hc BA λan h' tk hk K=>?_
  have j:H h'.objs.size=none:=I.hok.fresh K;have sm:Same H (upd H h'.objs.size (.ext (jH h'.objs.size d clos i))):=Same.new j;refine⟨.ref h'.objs.size,_,I.laid (a:=h'.objs.size) (o:=.ext (jH h'.objs.size d clos i)) (t':=tk) (λb u e=>Heap.get?_push_of_some _ (hk b u e)) K (tU (Heap.get?_push_size _ rfl)),rfl,hQ _ i _ sm.t (hT.same sm) j ae (sm _ _ br)⟩
end
def dr(H:Hp)(cs:List Addr):Hp:=λb=>if b∈cs then none else H b
theorem i8{H:Hp}{a:List Addr}{b:Addr}(h:b∈a):dr H a b=none:=by unfold dr;rw[if_pos h]
theorem jG{H:Hp}{a:List Addr}{b:Addr}(h:b ∉ a):dr H a b=H b:=by unfold dr;rw[if_neg h]
theorem cm{H:Hp}{a:List Addr}{b:Addr}(h:H b=none):dr H a b=none:=by unfold dr;split <;> first | rfl | exact h
abbrev CellsAt(H:Hp):List (Str×Addr)->List V->Prop:=Paired λ(p:Str×Addr) (v:V)=>H p.2=some (.ext (c9 p.2 v))
theorem CellsAt.mem{H:Hp}:∀{clos:List (Str×Addr)}{vals:List V},CellsAt H clos vals->∀ p∈clos,∃ v,H p.2=some (.ext (c9 p.2 v))
 | _,_,.nil,p,h=>by cases h
 | _,_,.cons r t,p,h=>by
  rcases mem_cons.mp h with rfl | h
  .exact⟨_,r⟩
  .exact CellsAt.mem t p h
theorem CellsAt.get{H:Hp}:∀{clos:List (Str×Addr)}{vals:List V}{i:Nat}{v:V},CellsAt H clos vals->vals[i]? = some v->∃ p,clos[i]? = some p/\H p.2=some (.ext (c9 p.2 v))
 | _,_,_,_,.nil,h=>by cases h
 | _,_,0,_,.cons r t,h=>by cases h;exact⟨_,rfl,r⟩
 | _,_,i+1,_,.cons r t,h=>CellsAt.get (i:=i) t h
theorem CellsAt.at{H:Hp}{a:List (Str×Addr)}{c:List V}(f:CellsAt H a c){b:Addr}(d:b∈a.map (·.2)):∃ v,H b=some (.ext (c9 b v)):=by
 obtain⟨p,e,rfl⟩:=mem_map.mp d;exact f.mem p e
theorem cg{H:Hp}{a:List (Str×Addr)}{c:List V}{b:Addr}{o:HO}(d:CellsAt H a c)(h:H b=some o)(n:∀ v,o≠.ext (c9 b v)):dr H (a.map (·.2)) b=some o:=by
 rw[jG λz=>?_]
 .exact h
 .obtain⟨v,e⟩:=d.at z
  rw[h]at e;exact n v (Option.some.inj e)
theorem cD{a:Type}:∀{l:List (Str×a)}{x:Str}{u:a},(l.map (·.1)).Nodup->(x,u)∈l->l.lookup x=some u
 | [],_,_,_,h=>by cases h
 | (y,w)::r,x,u,nd,h=>by
  rw[map_cons,nodup_cons]at nd
  rcases mem_cons.mp h with e | h
  .cases e;simp[List.lookup]
  .have:x≠y:=λz=>nd.1 (mem_map.mpr ⟨(x,u),h,z⟩)
   rw[lookup_cons,beq_eq_false_iff_ne.mpr this];exact cD nd.2 h
theorem wn{a:Type}{l:List a}(h:l.Nodup):l.reverse.Nodup:=by
 unfold List.Nodup at h ⊢;rw[List.pairwise_reverse];exact h.imp λn z=>n z.symm
def jw(d:LamD)(L f c:Addr)(clos:List (Str×Addr)):Env:={ scope:=d.scope,locals:=L,globals:=mainGlobals,cells:=clos,qual:=d.qual ++ ".<locals>.",func:=some f,code:=.ref c,frame:=some L,builtins:=builtinsNs }
def cxL(P:Program)(w:World)(K:Frag)(mg:Str->Option Value)(base:Heap)(N:List Str)(d:LamD)(clos:List (Str×Addr))(f c:Addr)(A:Around)(outer:List Env)(s:Shared)(H:Hp):Cx where
 prog:=P
 w:=w
 K:=K
 mg:=mg
 base:=base
 A:=A.deeper (jw d s.heap.objs.size f c clos)
 N:=N
 s₀:=s
 H₀:=dr H (clos.map (·.2))
 env:=jw d s.heap.objs.size f c clos
 outer:=outer
 stack:=jw d s.heap.objs.size f c clos::outer
 ex:=[]
 calm:=true
 fn:=λ_=>false
 pn:=[]
 xe:=λ_ _=>False
def tI(P:Program)(w:World)(K:Frag)(mg:Str->Option Value)(base:Heap)(k:Nat)(d:LamD)(fv ps:List Str)(sp:List (Str×Addr)->List V->Sp):Prop :=
 ∀(A:Around) (outer:List Env) (s:Shared) (H:Hp) (f c:Addr) (clos:List (Str×Addr)) (us:List Value) (vs vals:List V) (Q:VK) (E:XK),Room k A->Env0 P w K mg base A outer s H->H f=some (.ext (jH f d clos c))->H c=some (.ext (ia c d.qual)) ->
  clos.map (·.1)=fv->(clos.map (·.2)).Nodup->CellsAt H clos vals->Vals vs us->sp clos vals vs H Q E->codeAny (model P w) A (.call (.ref f) ⟨us,[]⟩) (CR CX0 outer P w H s Q E) s
def cU(P:Program)(w:World)(K:Frag)(mg:Str->Option Value)(base:Heap)(k:Nat)(d:LamD)(fv ps:List Str)(sp:List V->Sp):Prop:=tI P w K mg base k d fv ps λ_=>sp
structure LamScope(d:LamD)(fv ps:List Str):Prop where
 kind:d.scope.kind=.function
 co:d.scope.isCoroutine=false
 gen:d.scope.isGenerator=false
 nocell:∀ x∈d.scope.names,x.2≠.cell
 par:∀ x ∈ ps,d.scope.names.lookup x = some .local
 free:∀ x∈d.scope.names,x.2=.free->x.1∈fv
 fr:∀ x∈fv,d.scope.names.lookup x=some .free
 nd:(ps++fv).Nodup
theorem bQ{a b:Type}[BEq a][LawfulBEq a]:∀{l:List (a×b)}{x:a}{u:b},l.lookup x=some u->(x,u)∈l
 | [],_,_,h=>by cases h
 | (y,w)::r,x,u,h=>by
  rw[lookup_cons]at h;cases e:x == y with
  | true=>rw[e]at h;cases h;rw[eq_of_beq e];exact mem_cons_self ..
  | false=>rw[e]at h;exact mem_cons_of_mem _ (bQ h)
theorem sk{P:Program}{w:World}{K:Frag}{mg:Str->Option Value}{E:Heap}{d:LamD}{N j:List Str}{a:List (Str×Addr)}{f c:Addr}{A:Around}{l:List Env}{s:Shared}{H:Hp}{us:List Value}{vs g:List V}{J:Heap}{tk:Nat}
  (S:LamScope d N j) (hd:A.handled=none) (F:Env0 P w K mg E A l s H) (hl:vs.length=j.length) (r:Vals vs us) (D:a.map (·.1)=N) (Z:(a.map (·.2)).Nodup) (T:CellsAt H a g)
  (ab:J.Ns s.heap.objs.size (λx=>(j.zip us).reverse.lookup x)) (hk:∀ b o,s.heap.get? b=some o->J.get? b=some o) :
  Inv (cxL P w K mg E (j++N) d a f c A l s H) [] ((vs++g).map some) (dr H (a.map (·.2))) { s with heap:=J,toks:=tk }:=by
 have Q:(a.map (·.1)).Nodup:=by rw[D];exact(nodup_append.mp S.nd).2.1
 have W:j.Nodup:=(nodup_append.mp S.nd).1;have ap:us.length=j.length:=by rw[<- r.length];exact hl
 have R:∀ x B,a.lookup x=some B->B∈a.map (·.2):=λx B e=>mem_map.mpr ⟨(x,B),bQ e,rfl⟩
 have m:∀ b v,H b=some (.ext (c9 b v))->∃ u,RelV v u/\J.IsCell b (some u):=λb v e=>by
  obtain⟨⟨o,u,G,C,g3⟩,_⟩:=F.hok b _ e;exact⟨u,g3,o,hk _ _ G,C⟩
 have M:∀ b:Addr,b ∉ (cxL P w K mg E (j++N) d a f c A l s H).ex:=λb z=>absurd (show b∈([]:List Addr) from z) (by simp)
 have an:a.length=N.length:=by rw[<- D,length_map]
 have al:g.length=a.length:=(Paired.length T).symm
 refine⟨⟨F.mod,S.kind,rfl,rfl,Nat.le_refl _,λy z B J h2=>?_,λy hy=>?_,λy B h=>(Bool.false_ne_true h).elim,λ_=>hd,Around.frames_deeper F.frames,.inr ⟨rfl,rfl⟩,λb z=>absurd z (M b),λb o e=>⟨(F.bs b o e).1,cm (F.bs b o e).2⟩,F.bsz,λb _ _=>M b,λb z=>absurd z (M b),F.funs,λb hb=>cm (F.frf b hb)⟩,
  rfl,F.bare,Un.kept hk,⟨_,ab,λi y v G C g3=>?_⟩,λy B h=>?_,cm (F.hok.fresh (Nat.le_refl _)),λy B h=>i8 (R y B h),λp O=>absurd (show p∈([]:List (Addr×Obj)) from O) (by simp),λb u e=>?_,?_⟩
 .have J:a.lookup y=some B:=J
  have h2:a.lookup z=some B:=h2;have e1:=bQ J;have e2:=bQ h2;have Y:((a.map λp=>(p.2,p.1)).map (·.1)).Nodup:=by rw[map_map];exact Z
  have:=oA Y (B,y) (mem_map.mpr ⟨_,e1,rfl⟩) (B,z) (mem_map.mpr ⟨_,e2,rfl⟩) rfl;exact congrArg Prod.snd this
 .have hy:d.scope.names.lookup y=some .cell\/d.scope.names.lookup y=some .free:=hy
  rcases hy with hy | hy
  .exact absurd rfl (S.nocell _ (bQ hy))
  .have:=S.free _ (bQ hy) rfl
   rw[<- D]at this;obtain⟨p,O,e⟩:=mem_map.mp this;have e':p.1=y:=e;exact⟨p.2,cD Q (by show(y,p.2)∈a;rw[<- e'];exact O)⟩
 .have G:(j++N)[i]? = some y:=G
  by_cases hi:i<j.length
  .rw[List.getElem?_append_left hi]at G
   rw[List.getElem?_map,List.getElem?_append_left (by lia)]at C
   have L:vs[i]? = some v:=by
    cases q:vs[i]? with
    | none=>rw[q]at C;cases C
    | some x=>rw[q]at C;cases C;rfl
   obtain⟨u,hu,X⟩:=r.get L;refine⟨u,X,.inl ⟨S.par y (List.mem_of_getElem? G),?_⟩⟩;have ad:(y,u)∈j.zip us:=List.mem_of_getElem? (i:=i) (by rw[List.getElem?_zip_eq_some];exact⟨G,hu⟩);refine cD ?_ (mem_reverse.mpr ad);rw[List.map_reverse];refine wn ?_;have:(j.zip us).map (·.1)=j:=by rw[List.map_fst_zip];lia
   rw[this];exact W
  .rw[List.getElem?_append_right (by lia)]at G
   rw[List.getElem?_map,List.getElem?_append_right (by lia)]at C
   have L:g[i - j.length]? = some v:=by
    rw[hl]at C;cases q:g[i - j.length]? with
    | none=>rw[q]at C;cases C
    | some x=>rw[q]at C;cases C;rfl
   obtain⟨p,O,e⟩:=T.get L;rw[<- D,List.getElem?_map,O]at G;cases G;obtain⟨u,X,ic⟩:=m _ _ e;have I:=List.mem_of_getElem? O;refine⟨u,X,.inr ⟨.inr (S.fr p.1 ?_),p.2,cD Q I,ic⟩⟩;rw[<- D];exact mem_map.mpr ⟨p,I,rfl⟩
 .obtain⟨v,e⟩:=T.at (R y B h)
  obtain⟨u,_,ic⟩:=m _ _ e;exact⟨_,ic⟩
 .by_cases hb:b∈a.map (·.2)
  .rw[i8 hb]at e;cases e
  .rw[jG hb]at e
   refine(F.hok b u e).stay (λb' u' _ q=>hk b' u' q) (λb' q=>?_) λb' xs q=>?_
   .exact cg T q λv z=>nomatch z
   .exact cg T q λv z=>nomatch z
 .show((vs++g).map some).length=(j++N).length
  rw[length_map,length_append,length_append];lia
section
variable {P:Program}{w:World}{K:Frag}{mg:Str->Option Value}{base:Heap}
theorem Az{d:LamD}{N i:List Str}{k:Nat}{sp:List (Str×Addr)->List V->Sp}(S:LamScope d N i)
  (x:∀(pm ctv:Value) (clos:List (Str×Addr)) (c:Addr) (us:List Value),us.length=i.length->bindArgs (kla_fn "<lambda>" d.qual d.params d.body d.scope clos pm (.ref c) ctv) ⟨us,[]⟩=pure (i.zip us))
  (W:∀ clos vals vs H Q E,sp clos vals vs H Q E->vs.length=i.length)
  (m:∀(A:Around) (outer:List Env) (s:Shared) (H:Hp) (f c:Addr) (clos:List (Str×Addr)) (vals vs:List V) (Q:VK) (E:XK),Room k (A.deeper (jw d s.heap.objs.size f c clos))->clos.map (·.1)=N->CellsAt H clos vals->sp clos vals vs H Q E ->
   ∃ t,PE (cxL P w K mg base (i++N) d clos f c A outer s H) d.body t/\t ((vs++vals).map some) (dr H (clos.map (·.2))) (λv H'=>∀ H3,Same H' H3->(∀ p∈clos,H3 p.2=H p.2)->Q v H3)) :
  tI P w K mg base (k+1) d N i sp:=by
 intro A outer s H f c clos us vs vals Q E Z j hf hc F T C r G;have hl:=W _ _ _ _ _ _ G;have R:us.length=i.length:=by rw[<- r.length];exact hl
 obtain⟨⟨pm,ctv,ef⟩,_,_⟩:=j.hok f _ hf;obtain⟨⟨oc,O,ct,ec,ed,ev⟩,_,_⟩:=j.hok c _ hc;have ab:s.heap.NoLimit:=j.mod.nolimit.keeps λb o e=>(j.bs b o e).1
 obtain⟨t,ht,hq⟩:=m A outer s H f c clos vals vs Q E (Z.deeper _) F C G;refine PySem.W.kla_callFunE (body:=d.body) Z.depth ef rfl S.co S.gen rfl ⟨c,oc,O,ct,rfl,ec,ed,ev⟩ ?_;rw[x pm ctv clos c us R];refine wpAny_pure (wpAny_newFunctionEnv S.nocell (λy hy=>S.par y.1 (of_mem_zip hy).1) (λh1 hns hsb=>?_) S.kind);have hk:∀ b o,s.heap.get? b=some o->h1.get? b=some o:=λb o e=>hsb.extBut b o (Nat.ne_of_lt (Heap.lt_size e)) (Heap.get?_push_of_some _ e)
 refine⟨ab.fresh _ hsb,?_⟩;show codeAny _ _ (.expr d.body (jw d s.heap.objs.size f c clos)) _ _;have I:=sk (f:=f) (c:=c) (tk:=s.toks+(i.zip us).length) S Z.hd j hl r F T C hns hk;refine PySem.W.kla_codeExpr (wpAny_mono (ht [] _ _ _ _ I hq) (λu s' hs=>?_) λe s' z=>False.elim z);obtain⟨v,H',J,rv,q⟩:=hs
 obtain⟨cs,hcs⟩:∃ cs,cs=clos.map (·.2):=⟨_,rfl⟩
 have h:Un (frs outer) [] (dr H (clos.map (·.2))) H' s.heap s'.heap:=J.base
 have B:∀ b,b∈clos.map (·.2)->∃ o v,s.heap.get? b=some o/\H b=some (.ext (c9 b v)):=λb a=>by
  obtain⟨v,e⟩:=C.at a;obtain⟨⟨o,_,g,_⟩,_⟩:=j.hok b _ e;exact⟨o,v,g,e⟩
 have X:∀ b∈clos.map (·.2),H' b=none:=λb a=>by
  obtain⟨o,v,g,_⟩:=B b a;exact h.free b o g (i8 a) (by simp)
 let H3:Hp:=λb=>if b∈clos.map (·.2) then H b else H' b
 have g1:∀ b,b∈clos.map (·.2)->H3 b=H b:=λb a=>if_pos a
 have Y:∀ b,b ∉ clos.map (·.2)->H3 b=H' b:=λb a=>if_neg a
 have D:Same H' H3:=λb o e=>by
  rw[Y b λz=>by rw[X b z]at e;cases e];exact e
 have up:∀ b o,H b=some o->(∀ v,o≠.ext (c9 b v))->b ∉ clos.map (·.2):=λb o e n z=>by
  obtain⟨v,l⟩:=C.at z;rw[e]at l;exact n v (Option.some.inj l)
 refine⟨v,H3,J.os,J.bare,⟨λb o e n a M=>h.keep b o e (cm n) a M,λb o e n a M=>h.slot b o e (cm n) a M,λb o e n M=>?_,h.there,λb xs e=>?_,λb o u e=>?_,λb ps' e=>?_⟩,λb o e=>?_,rv,q H3 D λp hp=>g1 p.2 (mem_map.mpr ⟨p,hp,rfl⟩)⟩
 .rw[Y b λz=>by obtain⟨_,v,_,l⟩:=B b z;rw[n]at l;cases l]
  exact h.free b o e (cm n) M
 .exact D _ _ (h.tups b xs (cg C e λv z=>nomatch z))
 .exact D _ _ (h.frzs b o u (cg C e λv z=>nomatch z))
 .obtain⟨L,z⟩:=h.tbls b ps' (cg C e λv z=>nomatch z)
  exact⟨L,D _ _ z⟩
 .by_cases a:b∈clos.map (·.2)
  .rw[g1 b a]at e
   obtain⟨o',v',g,l⟩:=B b a;rw[e]at l;cases l;obtain⟨⟨o2,u2,k1,k2,k3⟩,_⟩:=j.hok b _ e;refine pZ ⟨o2,u2,h.keep b o2 k1 (i8 a) (λz=>?_) (by simp),k2,k3⟩;rw[j.frf b z]at e;cases e
  .rw[Y b a]at e
   refine(J.hok b o e).stay (λb' u' _ q=>q) (λb' q=>D _ _ q) λb' xs q=>D _ _ q
theorem iM{d:LamD}{g e:List Str}{k:Nat}{sp:List V->Sp}(S:LamScope d g e)
  (b:∀(pm ctv:Value) (clos:List (Str×Addr)) (c:Addr) (us:List Value),us.length=e.length->bindArgs (kla_fn "<lambda>" d.qual d.params d.body d.scope clos pm (.ref c) ctv) ⟨us,[]⟩=pure (e.zip us))
  (h:∀ vals vs H Q E,sp vals vs H Q E->vs.length=e.length)
  (a:∀(A:Around) (outer:List Env) (s:Shared) (H:Hp) (f c:Addr) (clos:List (Str×Addr)) (vals vs:List V) (Q:VK) (E:XK),Room k (A.deeper (jw d s.heap.objs.size f c clos))->clos.map (·.1)=g->CellsAt H clos vals->sp vals vs H Q E ->
   ∃ t,PE (cxL P w K mg base (e++g) d clos f c A outer s H) d.body t/\t ((vs++vals).map some) (dr H (clos.map (·.2))) (λv H'=>∀ H3,Same H' H3->(∀ p∈clos,H3 p.2=H p.2)->Q v H3)) :
  cU P w K mg base (k+1) d g e sp:=Az (sp:=λ_=>sp) S b (λ_=>h) a
end
theorem PE.or{X:Cx}{e:Expr}{t t':TE}(h:PE X e t)(h':PE X e t'):PE X e (λσ H Q=>t σ H Q\/t' σ H Q):=λa s σ H Q I q=>q.elim (h a s σ H Q I) (h' a s σ H Q I)
def Bv(d:LamD)(fv:List Str)(sp:List (Str×Addr)->List V->Sp):V->List V->Hp->VK->Prop:=λv vs H Q=>∃ f c clos vals,v=.ref f/\H f=some (.ext (jH f d clos c))/\H c=some (.ext (ia c d.qual))/\clos.map (·.1)=fv/\(clos.map (·.2)).Nodup/\CellsAt H clos vals/\sp clos vals vs H Q λ_ _ _=>False
def E7(d:LamD)(fv:List Str)(sp:List V->Sp):V->List V->Hp->VK->Prop:=Bv d fv λ_=>sp
def BY(d:LamD)(fv:List Str)(sp:List V->Sp)(tf:TE)(t:TA):TE:=λσ H Q=>tf σ H λv H1=>(∃ f d' clos c,v=.ref f/\H1 f=some (.ext (jH f d' clos c)))/\t σ H1 λvs H2=>(∀ f d' clos c,v=.ref f->H1 f=some (.ext (jH f d' clos c))->H2 f=some (.ext (jH f d' clos c)))/\E7 d fv sp v vs H2 Q
section
variable {X:Cx}{d:LamD}{fv ps:List Str}{k:Nat}{sp:List V->Sp}{x:Str}{p pos:Pos}{tf:TE}{t:TA}{e:Expr}{es:List Expr}
theorem zD{sp:List (Str×Addr)->List V->Sp}{a:List (Addr×Obj)}{j:St}{H:Hp}{s:Shared}{Q:VK}{us:List Value}{vs:List V}{v:V}{u:Value}(L:tI X.prog X.w X.K X.mg X.base k d fv ps sp)(o:Room k X.A)(I:Inv X a j H s)(w:RelV v u)(r:Vals vs us)(h:Bv d fv sp v vs H Q) :
  wpAny (model X.prog X.w) X.A (call u us) (EP X a j Q) X.xe s:=by
 obtain⟨f,c,b,i,rfl,l,p,y,m,x,A⟩:=h;obtain rfl:u=Value.ref f:=w;refine wpAny_call (codeAny_mono (L X.A X.stack s H f c b us vs i Q _ o I.env0 l p y m x r A) λr B g=>?_);cases r with
 | error e=>exact False.elim g
 | ok fl =>
  cases fl with
  | ret u=>exact I.after g
  | next=>exact False.elim g
  | brk=>exact False.elim g
  | cont=>exact False.elim g
theorem ug{H:Hp}{s:Shared}{P:Program}{w:World}{f c:Addr}{d:LamD}{a:List (Str×Addr)}(h:HOk P w H s.heap)(e:H f=some (.ext (jH f d a c))):FnAt f s.heap:=by
 obtain⟨⟨i,b,g⟩,_,_⟩:=h f _ e;exact⟨_,_,_,_,g⟩
theorem c7(B:PE X (.Name x p) tf)(L:cU X.prog X.w X.K X.mg X.base k d fv ps sp)(D:Room k X.A)(A:PA X (e::es) t)
  (C:starEach (e::es) X.env=(false,eval e X.env)::starEach es X.env:=by rfl) (b:(backTo pos (starEach es X.env)).any (·.1)=false:=by rfl):PE X (.Call (.Name x p) (e::es) [] pos) (BY d fv sp tf t):=by
 intro a s i H Q I h;refine wpAny_Call_Name_kw (thn (B a s i H _ I h) λu w ⟨v,F,l,y,⟨f,K,m,c,E,j⟩,q⟩=>?_);subst E;obtain rfl:u=Value.ref f:=y;refine PySem.W.callWith_F (ug l.hok j) (thn (A pos a w i F _ l q) λM J ⟨N,G,o,r,g⟩=>⟨ug o.hok (g.1 _ _ _ _ rfl j),?_⟩) C b;exact zD L D o (v:=.ref f) rfl r g.2
end
abbrev TR:=VK->(V->St->Hp->Prop)->St->Hp->Prop
def PR(X:Cx)(sts:List Stmt)(t:TR):Prop :=
 ∀(pins:List (Addr×Obj)) (s:Shared) (σ:St) (H:Hp) (R:VK) (Z:V->St->Hp->Prop),Inv X pins σ H s->t R Z σ H ->
  wpAny (model X.prog X.w) X.A (execs sts X.env) (λf s'=>∃ u,f=.ret u/\((∃ v σ' H',Inv X pins σ' H' s'/\RelV v u/\(R v H'\/Z v σ' H'))\/∃ v H',s'.os=X.s₀.os/\AllBare s'.gens/\Un X.fs X.ex X.H₀ H' X.s₀.heap s'.heap/\HOk X.prog X.w H' s'.heap/\RelV v u/\R v H')) X.xe s
section
variable {X:Cx}{e:Expr}{te:TE}{pos:Pos}{st:Stmt}{fj:List Stmt}{t:TS}{u:TR}
theorem BH(f:PE X e te):PR X [.Return (some e) pos] (λ_ Z σ H=>te σ H λv H'=>Z v σ H'):=by
 intro a s σ H R Z I h;refine wpAny_execs_cons (wpAny_Return_some (thn (f a s σ H _ I h) λv i ⟨x,g,d,c,b⟩=>?_));exact⟨v,rfl,.inl ⟨x,σ,g,d,c,.inr b⟩⟩
theorem cA(i:PS X st t)(e:PR X fj u):PR X (st::fj) (λR Z σ H=>t { nx:=u R Z,rt:=R } σ H):=by
 intro a s σ H R Z I h;refine wpAny_execs_cons (thn (i a s σ H { nx:=u R Z,rt:=R } I h) λf g q=>?_);cases f with
 | next =>
  obtain⟨b,d,c,q⟩:=q;exact e a g b d R Z c q
 | ret v =>
  obtain⟨j,b,d,c,r,q⟩:=q;exact⟨v,rfl,.inl ⟨j,b,d,c,r,.inl q⟩⟩
 | brk=>obtain⟨_,_,_,q⟩:=q;exact False.elim q
 | cont=>obtain⟨_,_,_,q⟩:=q;exact False.elim q
end
def oY(cells:List (Str×Addr))(N:List Str)(σ:St)(H3:Hp):Prop:=∀(i:Nat) (y:Str) (v:V) (c:Addr),N[i]? = some y->σ[i]? = some (some v)->cells.lookup y=some c->H3 c=some (.ext (c9 c v))
theorem jv{y:Str}{c:Addr}:∀(names:List (Str×NameKind)) (n:Nat) (acc:List (Str×Addr)),(y,c)∈cellsFrom n names acc->(y,c)∈acc\/(y,NameKind.cell)∈names
 | [],n,acc,h=>.inl h
 | (x,k)::r,n,acc,h=>by
  unfold cellsFrom at h
  split at h
  .rename_i hk
   rcases jv r (n+1) ((x,n)::acc) h with z | z
   .rcases mem_cons.mp z with e | z
    .cases e
     rw[eq_of_beq hk];exact .inr (mem_cons_self ..)
    .exact .inl z
   .exact .inr (mem_cons_of_mem _ z)
  .rcases jv r n acc h with z | z
   .exact .inl z
   .exact .inr (mem_cons_of_mem _ z)
section
variable {P:Program}{w:World}{K:Frag}{mg:Str->Option Value}{base:Heap}
theorem Bj{CX:CXT}{N:List Str}{C:Str}{scope:Scope}{f:Addr}{cd:Value}{A:Around}{a:List Env}{s Q:Shared}{H B:Hp}{E:XK}{T:St}(hN:N.Nodup)(Y:∀ p∈scope.names,p.2=.cell->scope.names.lookup p.1=some .cell)
  {O:List (Addr×Obj)}(J:Inv (dw CX P w K mg base N C scope f cd A a s H E) O T B Q) :
  ∃ H3,Same B H3/\oY (cellsFrom (s.heap.objs.size+1) scope.names []) N T H3/\(∀ b,B b=none->H3 b≠none->∃ y,(cellsFrom (s.heap.objs.size+1) scope.names []).lookup y=some b)/\Un (frs a) [] H H3 s.heap Q.heap/\HOk P w H3 Q.heap:=by
 have x:∀ y c,(cellsFrom (s.heap.objs.size+1) scope.names []).lookup y=some c->scope.names.lookup y=some .cell:=λy c e=>by
  rcases jv _ _ _ (bQ e) with z | z
  .cases z
  .exact Y _ z rfl
 obtain⟨cells,hcells⟩:∃ l,l=cellsFrom (s.heap.objs.size+1) scope.names []:=⟨_,rfl⟩
 rw[<- hcells]at x ⊢;have d:(dw CX P w K mg base N C scope f cd A a s H E).env.cells=cells:=hcells.symm
 let G:Addr->V->Prop:=λb v=>∃(i:Nat) (y:Str),N[i]? = some y/\T[i]? = some (some v)/\cells.lookup y=some b
 have G1:∀ b v X,G b v->G b X->v=X:=by
  rintro b v X ⟨i,y,I,L,g⟩ ⟨j,z,b1,b2,b3⟩;have:y=z:=J.ok.inj y z b (by rw[d];exact g) (by rw[d];exact b3);subst this;have:i=j:=lK hN I b1;subst this;rw[L]at b2;cases b2;rfl
 have W:∀ b v,G b v->B b=none/\s.heap.objs.size<=b/\c9 b v Q.heap:=by
  rintro b v ⟨i,y,I,L,g⟩;refine⟨J.freeC y b (by rw[d];exact g),J.ok.cab y b rfl (by rw[d];exact g),?_⟩;obtain⟨m,hn,hl⟩:=J.loc;obtain⟨u,r,l⟩:=hl i y v I L (.inr (.inl (x y b g)))
  rcases l with⟨k,_⟩ | ⟨k,c,e,o,ho,hd⟩
  .exfalso
   have k:scope.names.lookup y = some .local:=k;rw[x y b g]at k;cases k
  .have e:cells.lookup y=some c:=by rw[<- d];exact e
   rw[g]at e;cases e;exact⟨o,u,ho,hd,r⟩
 classical
 let H3:Hp:=λb=>if h:∃ v,G b v then some (.ext (c9 b (Classical.choose h))) else B b
 have Z:∀ b v,G b v->H3 b=some (.ext (c9 b v)):=λb v h=>by
  have S:∃ v,G b v:=⟨v,h⟩
  show(if h:∃ v,G b v then some (.ext (c9 b (Classical.choose h))) else B b)=_;rw[dif_pos S,G1 b _ v (Classical.choose_spec S) h]
 have R:∀ b,(¬∃ v,G b v)->H3 b=B b:=λb h=>dif_neg h
 have F:Same B H3:=λb o e=>by
  rw[R b λ⟨v,z⟩=>by rw[(W b v z).1]at e;cases e];exact e
 have D:Un (frs a) [] H B s.heap Q.heap:=J.base;refine⟨H3,F,λi y v c I L g=>Z c v ⟨i,y,I,L,g⟩,(λb n1 n2=>?_),⟨D.keep,D.slot,λb o e n S=>?_,D.there,λb xs e=>F _ _ (D.tups b xs e),λb o u e=>F _ _ (D.frzs b o u e),λb ps e=>?_⟩,λb o e=>?_⟩
 .by_cases h:∃ v,G b v
  .obtain⟨v,i,y,_,_,g⟩:=h
   exact⟨y,g⟩
  .rw[R b h]at n2
   exact absurd n1 n2
 .rw[R b λ⟨v,z⟩=>absurd (Nat.lt_of_lt_of_le (Heap.lt_size e) (W b v z).2.1) (Nat.lt_irrefl _)]
  exact D.free b o e n S
 .obtain⟨M,z⟩:=D.tbls b ps e
  exact⟨M,F _ _ z⟩
 .by_cases h:∃ v,G b v
  .obtain⟨v,h⟩:=h
   rw[Z b v h]at e;cases e;exact pZ (W b v h).2.2
  .rw[R b h]at e
   exact(J.hok b o e).stay (λb' u' _ q=>q) (λb' q=>F _ _ q) λb' xs q=>F _ _ q
theorem gM{N:List Str}{c:Str}{scope:Scope}{f:Addr}{i:Value}{A:Around}{a:List Env}{s:Shared}{H:Hp}{E:XK}{k:Nat}{g:Addr}{fd:FuncData}{ps:List Str}{sp:Sp}{T:List Value}{B:List V}{x:Str}{p G rp:Pos}{e:Expr}{X:List Expr}{t:TA}
  (hN:N.Nodup) (aS:∀ p∈scope.names,p.2=.cell->scope.names.lookup p.1=some .cell)
  (F:FnOk P w K mg base CX0 k g fd ps sp) (hr:Room k (dw CX0 P w K mg base N c scope f i A a s H E).nox.A) (hg:Gl (dw CX0 P w K mg base N c scope f i A a s H E).nox x) (hm:mg x=some (.ref g)) (hk:keepIn K (.ref g)=true) (l:Binds K fd ps T) (hd:Vals B T)
  (ha:PA (dw CX0 P w K mg base N c scope f i A a s H E).nox (e::X) t) (ap:(x == ("__debug__" : Str))=false:=by decide)
  (he:starEach (e::X) (dw CX0 P w K mg base N c scope f i A a s H E).nox.env=(false,eval e (dw CX0 P w K mg base N c scope f i A a s H E).nox.env)::starEach X (dw CX0 P w K mg base N c scope f i A a s H E).nox.env:=by rfl)
  (al:(backTo G (starEach X (dw CX0 P w K mg base N c scope f i A a s H E).nox.env)).any (·.1)=false:=by rfl) :
  PR (dw CX0 P w K mg base N c scope f i A a s H E).nox [.Return (some (.Call (.Name x p) (e::X) [] G)) rp]
   (λR _ σ H'=>t σ H' λvs H1=>∀ H3,Same H1 H3->oY (cellsFrom (s.heap.objs.size+1) scope.names []) N σ H3->sp (vs++B) H3 R λ_ _ _=>False):=by
 intro C s1 σ H1 R Z I h;refine wpAny_execs_cons (wpAny_Return_some ?_);refine wpAny_Call_Name_kw (kM I hg hm ?_ ap);refine callWith_K (h₀:=base) I.ok.mod.kin hk (thn (ha G C s1 σ H1 _ I h) λQ Y ⟨vs,H2,I2,r,q⟩=>⟨I2.kIn,?_⟩) he al;have J:Inv (dw CX0 P w K mg base N c scope f i A a s H E) C σ H2 Y:=I2.unwish;obtain⟨H3,sm,hc,M,m,ab⟩:=Bj hN aS J;have r2:Vals (vs++B) (Q++T):=r.append hd;have q':=q H3 sm hc;have hl:(Q++T).length=ps.length:=by rw[<- r2.length];exact F.len _ _ _ _ q'
 have hL:∀ b∈frs (envOfC c scope s.heap.objs.size f i::a),b=s.heap.objs.size\/b∈frs a:=λb l=>by
  have:b∈s.heap.objs.size::frs a:=l;exact mem_cons.mp this
 have e0:Env0 P w K mg base (dw CX0 P w K mg base N c scope f i A a s H E).A (envOfC c scope s.heap.objs.size f i::a) Y H3:=by
  have z:=J.env0;refine⟨z.frames,z.mod,λb o e=>⟨(z.bs b o e).1,m.free b o (J.ok.bs b o e).1 (J.ok.bs b o e).2 (by simp)⟩,z.bsz,z.funs,λb l=>?_,ab,z.bare⟩;cases q3:H3 b with
  | none=>rfl
  | some o =>
   obtain⟨y,hy⟩:=M b (z.frf b l) (by rw[q3];simp)
   rcases hL b l with rfl | hb'
   .exact absurd rfl (J.cne y _ hy)
   .obtain⟨_,o',as,_⟩:=J.ok.funs.mem hb'
    have:=J.ok.cab y b rfl hy;exact absurd (Nat.lt_of_lt_of_le (Heap.lt_size as) this) (Nat.lt_irrefl _)
 refine wpAny_call (codeAny_mono (F.run _ _ Y H3 ⟨Q,[]⟩ (Q++T) (vs++B) R _ hr e0 (l Y Q J.kIn hl) r2 q') λrr s' L=>?_);cases rr with
 | error e=>exact False.elim L
 | ok fl =>
  cases fl with
  | ret u =>
   obtain⟨v,H4,os,W,d,S,rv,qq⟩:=L
   have O:∀ b o,s.heap.get? b=some o->b ∉ frs a->b ∉ frs (envOfC c scope s.heap.objs.size f i::a):=λb o e n z=>by
    rcases hL b z with rfl | z
    .exact absurd (Heap.lt_size e) (Nat.lt_irrefl _)
    .exact n z
   have ad:∀ b,b∈frs a->b∈frs (envOfC c scope s.heap.objs.size f i::a):=λb z=>by
    show b∈s.heap.objs.size::frs a;exact mem_cons_of_mem _ z
   refine⟨u,rfl,.inr ⟨v,H4,os.trans J.os,W,⟨λb o e n l j=>d.keep b o (m.keep b o e n l j) (m.free b o e n j) (O b o e l) j,λb o e n l j=>?_,λb o e n j=>?_,λb o e j=>?_,λb xs e=>d.tups b xs (m.tups b xs e),λb o u e=>d.frzs b o u (m.frzs b o u e),λb qs e=>?_⟩,S,rv,qq⟩⟩
   .obtain⟨sl,D⟩:=m.slot b o e n l j
    obtain⟨an,e2⟩:=d.slot b _ D (m.free b o e n j) (ad b l) j;exact⟨an,e2⟩
   .obtain⟨o',D⟩:=m.there b o e j
    exact d.free b o' D (m.free b o e n j) j
   .obtain⟨o',D⟩:=m.there b o e j
    exact d.there b o' D j
   .obtain⟨m1,D⟩:=m.tbls b qs e
    obtain⟨m2,e2⟩:=d.tbls b _ D;exact⟨m1++m2,by rw[e2,Array.append_assoc]⟩
  | next=>exact False.elim L
  | brk=>exact False.elim L
  | cont=>exact False.elim L
theorem Fun.okL{x a:Str}{st:Stmt}{f c:Addr}{C:FuncData}{N l:List Str}{k:Nat}{sp:Sp}(F:Fun K x a st f C)(hc:C.code=.ref c)(S:FnScope N l (ah st))(G:∀ p∈(ah st).names,p.2=.cell->(ah st).names.lookup p.1=some .cell)
  (i:∀ vs H Q E,sp vs H Q E->vs.length=l.length)
  (d:∀(A:Around) (outer:List Env) (s:Shared) (H:Hp) (vs:List V) (Q:VK) (E:XK),Room k (A.deeper (envOfC a (ah st) s.heap.objs.size f (.ref c)))->sp vs H Q E ->
   ∃ t,PR (dw CX0 P w K mg base N a (ah st) f (.ref c) A outer s H E).nox (cG st) t/\t Q (λv σ H'=>∀ H3,Same H' H3->oY (cellsFrom (s.heap.objs.size+1) (ah st).names []) N σ H3->Q v H3) (start N vs) H):FnOk P w K mg base CX0 (k+1) f C l sp:=by
 obtain⟨oc,od,kV,ab,pm,an,L,ct,al,rfl,lk,D⟩:=F.ex;obtain rfl:L=.ref c:=hc;refine⟨i,λA outer s H W us vs Q E O j X r h=>?_⟩;have hl:=i _ _ _ _ h;have T:K.In s.heap:=j.mod.kin.keeps λb o e=>(j.bs b o e).1
 have B:s.heap.NoLimit:=j.mod.nolimit.keeps λb o e=>(j.bs b o e).1
 have g:∀ y ∈ l.zip us,(ah st).names.lookup y.1 = some .local\/((ah st).names.lookup y.1 = some .cell/\((cellsFrom (s.heap.objs.size + 1) (ah st).names []).lookup y.1).isSome = true):=λ⟨n,v⟩ hy=>by
  rcases S.par n (of_mem_zip hy).1 with q | q
  .exact .inl q
  .exact .inr ⟨q,cellsFrom_some _ _ _ (.inl q)⟩
 refine codeAny_call_function O.depth (T _ _ lk) rfl S.co S.gen rfl (codeRec_of T D) (X _ _ _ _ ?_);refine wpAny_newFunctionEnv_cells S.kind g λap he R x=>?_
 subst he;refine⟨B.keeps x.toInCall.keep,codeAny_func ?_⟩;obtain⟨t,ht,Y⟩:=d A outer s H vs Q E (O.deeper _) h;have I:Inv (dw CX0 P w K mg base N a (ah st) f (.ref c) A outer s H E) [] (start N vs) H R:=nM S O.hd j hl r x;refine wpAny_mono (ht [] R (start N vs) H Q _ (I.wish _) Y) (λfl s' M=>?_) λe s' M=>False.elim M
 obtain⟨u,rfl,⟨v,ad,H',J,m,q⟩ | ⟨v,H',Z,g2,g3,g4,m,q⟩⟩:=M
 .have J:=J.unwish
  rcases q with q | q
  .exact⟨v,H',J.os,J.bare,J.base,J.hok,m,q⟩
  .obtain⟨H3,h1,h2,_,h3,h4⟩:=Bj S.nd G J
   exact⟨v,H3,J.os,J.bare,h3,h4,m,q H3 h1 h2⟩
 .exact⟨v,H',Z,g2,g3,g4,m,q⟩
end
theorem vD{P:Program}{w:World}{K:Frag}{mg mb:Str->Option Value}{CX:CXT}{k:Nat}{fa a:Addr}{fd:FuncData}{x:Str}{sp:Sp}{f:Shared}{vs:List Value}{R:List Int}{p:List Addr}
  (KX:K.In f.heap) (O:f.heap.Ns mainGlobals mg) (g:f.heap.Ns builtinsNs mb) (ab:∀ x:Str,x ≠ "__name__" -> mb x=bootBuiltins x) (N:f.heap.NoLimit) (hg:f.gens = #[])
  (G:f.heap.get? a=some { cls:=.type "list",data:=.seq vs.toArray }) (hi:IntsAre vs R) (hl:R.length<=sizeLine) (hr:Room k callerA) (ap:Bm mg f.heap)
  (j:∀ P∈p,f.heap.get? P=some (tabObj #[])) (ad:∀ P∈p,∃ c,codeHdIn K c P=true) (aS:∀ P∈p,K.lookup P=none)
  (F:∀ base:Heap,K.In base->base.Ns mainGlobals mg->Bm mg base->FnOk P w K mg base CX k fa fd [x] sp) (E:∀(s:Shared) (u:Value),BindsTo s fd ⟨[u],[]⟩ [(x,u)])
  (an:∀ H:Hp,(∀ P∈p,H P=some (.tbl #[]))->SqL K H a (R.map V.int)->sp [.ref a] H (λv _=>v=.bl true) λ_ _ _=>False)
  (a1:∀ H e s',CX [] H f (λ_ _ _=>False) e s'->False) :
  codeAny (model P w) callerA (.call (.ref fa) ⟨[.ref a],[]⟩) (λr s'=>r=.ok (.ret (.bool true))/\OldK f.heap s'.heap/\s'.os=f.os/\AllBare s'.gens) f:=by
 have rv:=nq hi;have J:=hi.length;have M:a ∉ p:=λz=>by have:=j a z;rw[G]at this;cases this
 have D:∀ H:Hp,(∀ P∈p,H P=some (.tbl #[]))->SqL K H a (R.map V.int)->HOk P w H f.heap->(∀ b u,H b=some u->(b=a/\∃ o xs,u=.frz o (.lst xs))\/(b∈p/\u=.tbl #[]))->(H a≠none->K.lookup a=none) ->
   codeAny (model P w) callerA (.call (.ref fa) ⟨[.ref a],[]⟩) (λr s'=>r=.ok (.ret (.bool true))/\OldK f.heap s'.heap/\s'.os=f.os/\AllBare s'.gens) f:=by
  intro H hT hS I Z hK;have l:∀{b:Addr}{o:Obj},f.heap.get? b=some o->H b=none->(mw f.heap H).get? b=some o:=λe n=>yS e n
  have as:∀{b:Addr}{o:Obj},f.heap.get? b=some o->o.cls≠.none->(∀ Q n,o.data≠.seq Q n)->H b=none:=λ{b o} e d1 d2=>by
   cases q:H b with
   | none=>rfl
   | some u =>
    rcases Z b u q with⟨rfl,_⟩ | ⟨g,_⟩
    .rw[G]at e;cases e;exact(d2 _ _ rfl).elim
    .rw[j b g]at e;cases e;exact(d1 rfl).elim
  have a0:∀{b:Addr}{o:Obj}{X:Array DictEntry}{L:Nat},f.heap.get? b=some o->o.data=.dict X L->H b=none:=λ{b o X L} e d=>by
   cases q:H b with
   | none=>rfl
   | some u =>
    rcases Z b u q with⟨rfl,_⟩ | ⟨g,_⟩
    .rw[G]at e;cases e
     have d':Data.seq vs.toArray _=Data.dict X L:=d;cases d'
    .rw[j b g]at e;cases e;cases d
  have y:∀{b:Addr}{m:Str->Option Value},f.heap.Ns b m->(mw f.heap H).Ns b m:=λ{b m} ⟨o,X,L,e,d,r⟩=>⟨o,X,L,l e (a0 e d),d,r⟩
  have W:K.In (mw f.heap H):=λb o e=>l (KX b o e) (by
   cases q:H b with
   | none=>rfl
   | some u =>
    rcases Z b u q with⟨rfl,_⟩ | ⟨g,_⟩
    .rw[hK (by rw[q];simp)]at e;cases e
    .rw[aS b g]at e;cases e)
  have hM:Mod K mg (mw f.heap H):=⟨W,y O,⟨mb,y g,ab⟩,let ⟨mc,h1,h2⟩:=N;⟨mc,y h1,h2⟩⟩
  have hB:Bm mg (mw f.heap H):=by
   obtain⟨bm,ob,b1,b2,b3,b4,b5⟩:=ap;exact⟨bm,ob,b1,l b2 (as b2 (by rw[b3];simp) (λQ n=>by rw[b5];intro z;cases z)),b3,b4,b5⟩
  have e0:Env0 P w K mg (mw f.heap H) callerA [] f H:=⟨rfl,hM,λb o e=>Aa e,Nat.le_of_eq (v7 _ _),trivial,λb g=>absurd (show b∈([]:List Addr) from g) (by simp),I,.of_eq hg⟩
  refine codeAny_mono ((F _ W (y O) hB).run callerA [] f H ⟨[.ref a],[]⟩ [.ref a] [.ref a] _ _ hr e0 (E f (.ref a)) (.cons rfl .nil) (an H hT hS)) λr s' h=>?_
  cases r with
  | error e=>exact(a1 H e s' h).elim
  | ok fl =>
   cases fl with
   | next=>exact False.elim h
   | brk=>exact False.elim h
   | cont=>exact False.elim h
   | ret u =>
    obtain⟨v,H',os,S,Y,A,r',q⟩:=h;have q':v=.bl true:=q;subst q';obtain rfl:u=Value.bool true:=r';refine⟨rfl,⟨λb o e=>?_,λb o e=>Y.there b o e (by simp)⟩,os,S⟩;cases q:H b with
    | none=>exact .inl (Y.keep b o e q (by intro z;exact absurd (show b∈([]:List Addr) from z) (by simp)) (by simp))
    | some u =>
     rcases Z b u q with⟨_,ob,xs,rfl⟩ | ⟨g,rfl⟩
     .have z2:=Y.frzs b ob _ q
      obtain⟨e1,_⟩:=I b _ q;obtain⟨e2,_⟩:=A b _ z2;rw[e]at e1;cases e1;exact .inl e2
     .obtain⟨c,hc⟩:=ad b g
      have C:=codeHd_of_K KX hc;obtain⟨B,z⟩:=Y.tbls b _ q;have z2:s'.heap.get? b=some (tabObj (#[]++B)):=A b _ z;rw[j b g]at e;cases e;exact .inr (.inl ⟨(C.tab (j b g)).isCodeTable,rfl,#[],B,rfl,z2⟩)
 let T:Hp:=λb=>if b∈p then some (.tbl #[]) else none
 cases hk:K.lookup a with
 | some o =>
  have e:=KX a o hk;rw[G]at e;cases e;refine D T (λP hP=>if_pos hP) (.inr ⟨_,vs.toArray,_,hk,rfl,rfl,rfl,by rw[size_toArray,J];exact hl,by simpa using rv⟩) (λb u z=>?_) (λb u z=>?_) λz=>absurd (if_neg M) z
  .by_cases g:b∈p
   .have i:=(if_pos g).symm.trans z
    cases i;exact j b g
   .have i:=(if_neg g).symm.trans z
    cases i
  .by_cases g:b∈p
   .have i:=(if_pos g).symm.trans z
    cases i;exact .inr ⟨g,rfl⟩
   .have i:=(if_neg g).symm.trans z
    cases i
 | none =>
  refine D (λb=>if b=a then some (.frz { cls:=.type "list",data:=.seq vs.toArray } (.lst (R.map V.int))) else T b) (λP hP=>?_) (.inl (.inr ⟨{ cls:=.type "list",data:=.seq vs.toArray },if_pos rfl⟩)) (λb u z=>?_) (λb u z=>?_) λ_=>hk
  .have al:P≠a:=λz=>M (by rw[<- z];exact hP)
   exact(if_neg al).trans (if_pos hP)
  .by_cases g:b=a
   .have i:=(if_pos g).symm.trans z
    cases i;subst g;exact⟨G,by rw[length_map];exact hl,vs,_,rv,G⟩
   .have i:=(if_neg g).symm.trans z
    by_cases g:b∈p
    .have i:=(if_pos g).symm.trans i
     cases i;exact j b g
    .have i:=(if_neg g).symm.trans i
     cases i
  .by_cases g:b=a
   .have i:=(if_pos g).symm.trans z
    cases i;exact .inl ⟨g,_,_,rfl⟩
   .have i:=(if_neg g).symm.trans z
    by_cases g:b∈p
    .have i:=(if_pos g).symm.trans i
     cases i;exact .inr ⟨g,rfl⟩
    .have i:=(if_neg g).symm.trans i
     cases i
theorem walk_ofT{l:PySem.W.OpenLaw}{n k:Nat}{q:Program}{m:List Str}{W:(Str->Option Value)->Heap->Prop}{L:World->Heap->Prop}{d:DefRec}{K:Params->Frag}{CX:CXT}{sp:Frag->List Addr->Sp}{x:Str}{i:List Addr}
  (Q:l.most=some n) (A:n<=sizeLine) (E:d.params.defaults=[]) (hr:Room k callerA)
  (hY:∀(w:World) (h:Heap),L w h->(K w.params).In h/\∀ P∈i,h.get? P=some (tabObj #[]))
  (F:∀(ts':List Addr),ts'=i->∀(w:World) (mg:Str->Option Value) (fa:Addr) (h:Heap),(K w.params).In h->h.Ns mainGlobals mg->mg d.name=some (.ref fa) ->
   ∃ fd:FuncData,(∀(s:Shared) (u:Value),BindsTo s fd ⟨[u],[]⟩ [(x,u)])/\(∀ P∈i,∃ c,codeHdIn (K w.params) c P=true)/\(∀ P∈i,(K w.params).lookup P=none) /\
    ∀ base:Heap,(K w.params).In base->base.Ns mainGlobals mg->Bm mg base->FnOk l.prog w (K w.params) mg base CX k fa fd [x] (sp (K w.params) i))
  (y:∀(K:Frag) (H:Hp) (a:Addr) (ns:List Int),ns.length<=n->(∀ P∈i,H P=some (.tbl #[]))->SqL K H a (ns.map V.int)->sp K i [.ref a] H (λv _=>v=.bl true) λ_ _ _=>False)
  (I:∀(H:Hp) (s:Shared) (e:Value) (s':Shared),CX [] H s (λ_ _ _=>False) e s'->False) :
  PySem.W.WalkO q m W L l.row.toRowW d [] (λf vs=>PySem.call f vs):=by
 refine Att.attach_call Q E λw J b mg mb fa o pm cd R a vs ns G Y ho hd S D p j g O=>?_
 obtain⟨M,hT⟩:=hY w _ Y;obtain⟨fd,N,r,C,Z⟩:=F i rfl w mg fa _ M G.T.g D;have B:Bm mg b.heap:=let ⟨bm,ob,b1,_,b3,b4,b5,b6⟩:=G.T.bmain;⟨bm,ob,b1,b3,b4,b5,b6⟩;exact vD M G.T.g G.T.b G.T.builtins G.T.nolimit O p j (Nat.le_trans g A) hr B hT r C Z N (λH T X=>y (K w.params) H a ns g T X) λH e s'=>I H b e s'
end L2
namespace FrM
def cK(t b:Int):Int×Int:=(t/(Int.gcd t b:Int),b/(Int.gcd t b:Int))
theorem ll{t b:Int}(a:0<b):Low t b (cK t b).1 (cK t b).2:=(low t b a).2.2.1
theorem C3{T B t b:Int}(d:0<B)(h:Low T B t b):(t,b)=cK T B:=by
 obtain⟨a,c⟩:=h.uniq (by lia) (ll d);rw[a,c]
def sz(z:List Int)(k:Nat):Int:=z.getD k 0
def aU(z:List Int)(l:List Nat):Int:=(l.map (sz z)).sum
def stay(z:List Int)(l:List Nat)(w:Int):List Nat:=l.filter λk=>decide (sz z k*w<aU z l)
theorem kN(z:List Int)(l:List Nat)(w:Int):(stay z l w).length<=l.length:=length_filter_le _ _
def fin(z:List Int)(l:List Nat)(w:Int):List Nat×Int :=
 if (stay z l w).length=l.length then (l,w) else fin z (stay z l w) (w - ((l.length:Int) - ((stay z l w).length:Int)))
termination_by l.length
decreasing_by
 have:=kN z l w;lia
theorem lF{z:List Int}{l:List Nat}{w:Int}(h:(stay z l w).length=l.length):fin z l w=(l,w):=by
 rw[fin,if_pos h]
theorem tm{z:List Int}{l:List Nat}{w:Int}(h:(stay z l w).length≠l.length):fin z l w=fin z (stay z l w) (w - ((l.length:Int) - ((stay z l w).length:Int))):=by
 rw[fin,if_neg h]
theorem fc(z:List Int):∀(l:List Nat),(∀ k∈l,1<=sz z k)->(l.length:Int)<=aU z l
 | [],_=>by simp[aU]
 | a::l,h=>by
  have:=fc z l (λk b=>h k (mem_cons_of_mem _ b));have c:=h a mem_cons_self;unfold aU at *;rw[map_cons,sum_cons,length_cons];lia
theorem nZ(z:List Int)(M:Int):∀(l:List Nat),(∀ k∈l,sz z k<=M)->aU z l<=(l.length:Int)*M
 | [],_=>by simp[aU]
 | a::l,h=>by
  have:=nZ z M l (λk b=>h k (mem_cons_of_mem _ b));have c:=h a mem_cons_self;unfold aU at *;rw[map_cons,sum_cons,length_cons];have e:((l.length+1:Nat):Int)*M=(l.length:Int)*M+M:=by rw[Int.natCast_add,Int.add_mul];simp
  rw[e];lia
theorem iI(z:List Int)(w S:Int):∀(l:List Nat),(∀ k∈l,S<=sz z k*w)->(l.length:Int)*S<=aU z l*w
 | [],_=>by simp[aU]
 | a::l,h=>by
  have:=iI z w S l (λk b=>h k (mem_cons_of_mem _ b));have c:=h a mem_cons_self;unfold aU at *;rw[map_cons,sum_cons,length_cons,Int.add_mul];have e:((l.length+1:Nat):Int)*S=(l.length:Int)*S+S:=by rw[Int.natCast_add,Int.add_mul];simp
  rw[e];lia
theorem qI{z:List Int}{l:List Nat}{w:Int}(hz:∀ k∈l,1<=sz z k)(g:w<l.length)(i:0<l.length):0<(stay z l w).length:=by
 by_cases h:0<(stay z l w).length
 .exact h
 .exfalso
  have e:stay z l w=[]:=length_eq_zero_iff.mp (by lia)
  have a:∀ k∈l,aU z l<=sz z k*w:=λk d=>by
   have:=(List.filter_eq_nil_iff.mp e) k d;simp at this;exact this
  have b:=iI z w (aU z l) l a;have f:=fc z l hz;have c:0<aU z l:=by lia
  rw[Int.mul_comm (aU z l) w]at b;have:=Int.le_of_mul_le_mul_right b c;lia
structure Rnd(z:List Int)(n:Nat)(m:Int)(l:List Nat)(w:Int):Prop where
 pos:0<l.length
 sub:∀ k∈l,k<n
 lt:w<l.length
 dif:w - l.length=m - n
 fil:l=(List.range n).filter λk=>decide (k∈l)
theorem Rnd.len{z:List Int}{n:Nat}{m:Int}{l:List Nat}{w:Int}(h:Rnd z n m l w):l.length<=n:=by
 have e:=congrArg List.length h.fil;have:=length_filter_le (λk=>decide (k∈l)) (List.range n);rw[length_range]at this;lia
theorem Rnd.start{z:List Int}{n:Nat}{m:Int}(c:0<n)(b:m<n):Rnd z n m (List.range n) m:=by
 refine⟨by rw[length_range];exact c,λk a=>mem_range.mp a,by rw[length_range];exact b,by rw[length_range],?_⟩;rw[List.filter_eq_self.mpr];intro k a;exact decide_eq_true a
theorem Rnd.step{z:List Int}{n:Nat}{m:Int}{l:List Nat}{w:Int}(hz:∀ k,k<n->1<=sz z k)(h:Rnd z n m l w):Rnd z n m (stay z l w) (w - ((l.length:Int) - ((stay z l w).length:Int))):=by
 have b:=qI (λk a=>hz k (h.sub k a)) h.lt h.pos;refine⟨b,λk a=>h.sub k (mem_filter.mp a).1,by have:=h.lt;lia,by have:=h.dif;lia,?_⟩
 have e:(List.range n).filter (λk=>decide (k∈stay z l w))=((List.range n).filter λk=>decide (k∈l)).filter λk=>decide (sz z k*w<aU z l):=by
  rw[List.filter_filter];refine List.filter_congr λk _=>?_
  rw[Bool.eq_iff_iff];simp[stay];exact And.comm
 rw[e,<- h.fil];rfl
theorem Rnd.fin{z:List Int}{n:Nat}{m:Int}(hz:∀ k,k<n->1<=sz z k):∀(c:Nat) (l:List Nat) (w:Int),l.length<=c->Rnd z n m l w->Rnd z n m (fin z l w).1 (fin z l w).2
 | 0,l,w,hc,h=>absurd h.pos (by lia)
 | c+1,l,w,hc,h=>by
  by_cases e:(stay z l w).length=l.length
  .rw[lF e];exact h
  .rw[tm e]
   have:=kN z l w;exact Rnd.fin hz c _ _ (by lia) (h.step hz)
theorem ul(q:Nat->Bool)(f:Nat->Int)(c:Int):∀ r:List Nat,(r.map λk=>if q k=true then f k else c).sum=((r.filter q).map f).sum+((r.length:Int) - ((r.filter q).length:Int))*c
 | []=>by simp
 | a::r=>by
  have b:=ul q f c r;rw[map_cons,sum_cons,b]
  by_cases h:q a=true
  .rw[if_pos h,filter_cons_of_pos h,map_cons,sum_cons,length_cons,length_cons]
   have:((r.length+1:Nat):Int) - (((r.filter q).length+1:Nat):Int)=(r.length:Int) - ((r.filter q).length:Int):=by lia
   rw[this];lia
  .rw[if_neg h,filter_cons_of_neg h,length_cons]
   have e:((r.length+1:Nat):Int) - ((r.filter q).length:Int)=(r.length:Int) - ((r.filter q).length:Int)+1:=by lia
   rw[e,Int.add_mul];lia
theorem qC(f:Nat->Int)(w:Int):∀ r:List Nat,(r.map λk=>f k*w).sum=(r.map f).sum*w
 | []=>by simp
 | a::r=>by
  rw[map_cons,sum_cons,qC f w r,map_cons,sum_cons,Int.add_mul]
structure Top(m:Int)(n:Nat)(S:Int)(N:Nat->Int):Prop where
 pos:0<S
 all:((List.range n).map N).sum=m*S
theorem Top.of_rnd{z:List Int}{n:Nat}{m:Int}{l:List Nat}{w:Int}(hz:∀ k,k<n->1<=sz z k)(h:Rnd z n m l w):Top m n (aU z l) λk=>if decide (k∈l)=true then sz z k*w else aU z l:=by
 have b:=fc z l λk a=>hz k (h.sub k a)
 refine⟨by have:=h.pos;lia,?_⟩;rw[ul,<- h.fil,qC,length_range];show aU z l*w+((n:Int) - (l.length:Int))*aU z l=m*aU z l;have e:m=w+((n:Int) - (l.length:Int)):=by have:=h.dif;lia
 rw[e,Int.add_mul,Int.mul_comm (aU z l) w]
theorem jI(c:Int):∀ r:List Nat,(r.map λ_=>c).sum=(r.length:Int)*c
 | []=>by simp
 | a::r=>by
  rw[map_cons,sum_cons,jI c r,length_cons];have:((r.length+1:Nat):Int)*c=(r.length:Int)*c+c:=by rw[Int.natCast_add,Int.add_mul];simp
  rw[this];lia
theorem CU{N S t b:Int}(i:0<S)(h:Low N S t b):b<=S/\t.natAbs<=N.natAbs:=by
 have j:=h.pos;have d:b ∣ S:=kB h.cop ⟨N,by rw[h.eq,Int.mul_comm]⟩;have a:=Int.le_of_dvd i d;refine⟨a,?_⟩;have e:=congrArg Int.natAbs h.eq;rw[Int.natAbs_mul,Int.natAbs_mul]at e;have g:b.natAbs<=S.natAbs:=by lia
 have f:0<S.natAbs:=by lia
 have c:N.natAbs*b.natAbs<=N.natAbs*S.natAbs:=Nat.mul_le_mul_left _ g;rw[<- e]at c;exact Nat.le_of_mul_le_mul_right c f
def due(z:List Int)(m:Int):List (Int×Int) :=
 if (z.length:Int)<=m then z.map λ_=>(1,1) else if m=0 then z.map λ_=>(0,1)
 else (List.range z.length).map λk=>if decide (k∈(fin z (List.range z.length) m).1)=true then cK (sz z k*(fin z (List.range z.length) m).2) (aU z (fin z (List.range z.length) m).1) else (1,1)
theorem due_len(z:List Int)(m:Int):(due z m).length=z.length:=by
 unfold due
 split
 .simp
 .split <;> simp
end FrM
namespace L2
open PySem PySem.Spec PyProof.Rows
def pA:List V->List Value->Bool
 | [],[]=>true
 | .int i::xs,.int j _::us=>decide (i=j) && pA xs us
 | _,_=>false
theorem kh:∀{xs:List V}{us:List Value},pA xs us=true->Vals xs us
 | [],[],_=>.nil
 | .int i::xs,.int j t::us,h=>by
  have h:(decide (i=j) && pA xs us)=true:=h;rw[Bool.and_eq_true]at h;have e:=of_decide_eq_true h.1;exact .cons ⟨t,by rw[e]⟩ (kh h.2)
def nF(K:Frag)(a:Addr)(xs:List V):Bool :=
 match K.lookup a with
 | some o =>
  (match o.cls with
  | .type t=>t == "tuple"
  | _=>false) &&
  (match o.data with
  | .seq its _=>decide (its.size<=1000) && pA xs its.toList
  | _=>false)
 | none=>false
theorem tK{K:Frag}{H:Hp}{a:Addr}{xs:List V}(h:nF K a xs=true):SqT K H a xs:=by
 unfold nF at h
 split at h
 .rename_i o e
  rw[Bool.and_eq_true]at h;obtain⟨c,b⟩:=h
  split at c
  .rename_i t ec
   split at b
   .rename_i its n ed
    rw[Bool.and_eq_true]at b;refine .inr ⟨o,its,n,e,by rw[ec,beq_iff_eq.mp c],ed,?_,kh b.2⟩;have:=of_decide_eq_true b.1;have:sizeLine=16777216:=sizeLine_eq;lia
   .cases b
  .cases c
 .cases h
def TyS(K:Frag)(H:Hp)(x:V)(t:Value):Prop:=TyOf K H x t\/∃ a xs,x=.ref a/\t=.type "tuple" /\ SqT K H a xs
section
variable {X:Cx}
open PySem.W in
theorem AG{b:List (Addr×Obj)}{g:St}{H:Hp}{s:Shared}{x:V}{u t:Value}(I:Inv X b g H s)(d:RelV x u)(ty:TyS X.K H x t) :
  ∃ Hh:Heap->Prop,KitX X.K u t Hh/\Hh s.heap/\u≠.builtin "__main__.__loader__#opaque" := by
 rcases ty with ty | ⟨a,l,rfl,rfl,h⟩
 .exact xa I d ty
 .cases(show u=Value.ref a from d)
  obtain⟨f,j,p,i⟩:=I.tuple h;exact⟨_,kitx_tuple,let ⟨o,e,c,_⟩:=p;⟨o,e,c⟩,λz=>nomatch z⟩
def EZ(K:Frag):List V->Hp->VK->Prop:=λxs H Q=>∃ x c t b,xs=[x,c]/\xx c=true/\TyS K H x t/\kitOne K t (CV c)=some b/\Q (.bl b) H
theorem wP:CallR X (.builtin "isinstance") (EZ X.K):=by
 intro a s w H v m Q I r h;obtain⟨x,c,t,b,rfl,j,d,e,q⟩:=h;obtain⟨u,o,rfl,g,l⟩:=tT r;cases ux j l;obtain⟨y,Z,p,i⟩:=AG I g d
 exact kia_one Z I.kIn p e i λf=>⟨.bl b,H,I.tok f,rfl,q⟩
theorem dY:bootBuiltins "sum" = some (.builtin "sum"):=by decide +kernel
theorem jk:∀{ns:List Int}{us:List Value},Vals (ns.map V.int) us->IntsAre us ns
 | [],_,.nil=>.nil
 | n::ns,_,.cons r t=>by
  obtain⟨a,rfl⟩:=r;exact .cons _ _ (jk t)
inductive rSumI(K:Frag)(xs:List V)(H:Hp)(Q:VK):Prop
 | mk(p:Addr)(ns:List Int)(h0:xs=[.ref p])(h1:SqL K H p (ns.map V.int))(h2:Q (.int ns.sum) H):rSumI K xs H Q
theorem cx(m:X.calm=true):CallR X (.builtin "sum") (rSumI X.K):=by
 intro e s w H xs y Q I r h;obtain⟨p,b,rfl,g,q⟩:=h;obtain⟨u,rfl,l⟩:=dL r;cases l;obtain⟨a,f,j,x⟩:=I.list g;have c:=jk f;obtain⟨xs,d⟩:=c.allInts.items;have o:(numsOf a)=b:=c.numsOf;refine sum_intListG (I.ok.hd m) (xs:=xs) (by rw[<- d];exact j.isList) λA B C v=>?_
 have i:preSum (numAt xs) xs.size=b.sum:=by
  rw[preSum_eq,take_of_length_le (by simp),<- o,<- nums_intItems,<- d]
 rw[i];exact⟨.int b.sum,H,I.kept v,⟨_,rfl⟩,q⟩
theorem jc(w:X.calm=true):CallR X (.type "list") (λxs H Q=>∃(p:Addr) (n:Nat),xs=[.ref p]/\n<=1000/\H p=some (.rng 0 (n:Int))/\∀ l,H l=none->Q (.ref l) (upd H l (.lst ((List.range n).map λ(i:Nat)=>V.int (i:Int))))):=by
 intro f s G H xs L Q I r h;obtain⟨p,n,rfl,J,e,q⟩:=h;obtain⟨u,rfl,B⟩:=dL r;cases B
 obtain⟨t,N,K,m⟩:=(show ObjOk X.prog X.w H s.heap p (.rng 0 (n:Int)) from I.hok p _ e)
 refine call_list_range (n:=n) (I.ok.hd w) m (small_one (by decide) (by decide) (by lia) (by lia)) (by rw[rangeSize_one];split <;> lia) (by lia) λM E d c F C y=>?_
 refine⟨.ref s.heap.objs.size,_,I.laid (t':=E) (o:=.lst ((List.range n).map λ(i:Nat)=>V.int (i:Int))) F (Nat.le_refl _) ?_,rfl,q _ (I.hok.fresh (Nat.le_refl _))⟩;obtain⟨v,D⟩:=y;refine⟨by rw[length_map,length_range,sizeLine_eq];lia,d.toList,c,uI (by rw[length_map,length_range];simpa using v.symm) λi x u a j=>?_,C⟩;rw[List.getElem?_map]at a
 have b:i<n:=by
  by_cases b:i<n
  .exact b
  .rw[List.getElem?_eq_none (by rw[length_range];lia)]at a
   cases a
 rw[List.getElem?_range b]at a;cases a;obtain⟨g,A⟩:=D i u (by simpa using j);refine(show ∃ t',u=Value.int (i:Int) t' from⟨g,?_⟩);rw[A]
 congr 1
 lia
end
def dE:Expr:=.Name "" ⟨0,0,0,0⟩
def sJ(st:Stmt)(i:Nat):Stmt:=(cG st).getD i (.Pass ⟨0,0,0,0⟩)
def vF:Stmt->Expr
 | .Return (some e) _=>e
 | _=>dE
def sf:Expr->Nat->Expr
 | .Call _ es _ _,i=>es.getD i dE
 | _,_=>dE
def lZ(q:Str):Expr->LamD
 | .Lambda p b s _=>⟨q,p,b,s⟩
 | _=>⟨q,default,dE,default⟩
def tu:Expr->Pos
 | .Lambda _ _ _ p=>p
 | _=>⟨0,0,0,0⟩
theorem mP:bootBuiltins "sorted" = some (.builtin "sorted"):=by decide +kernel
theorem eO:∀{us:List Value}{ns:List Int},IntsAre us ns->Vals (ns.map V.int) us
 | _,_,.nil=>.nil
 | _,_,.cons n t h=>.cons ⟨_,rfl⟩ (eO h)
theorem o6{X:Cx}:CallR X (.builtin "sorted") (λxs H Q=>∃(p:Addr) (ns:List Int),xs=[.ref p]/\SqL X.K H p (ns.map V.int)/\ns.length<64/\∀ q (ns':List Int),ns'.Perm ns->ns'.Pairwise (·<=·)->H q=none->Q (.ref q) (upd H q (.lst (ns'.map V.int)))):=by
 intro l s D H xs F Q I r h;obtain⟨p,ns,rfl,x,G,q⟩:=h;obtain⟨u,rfl,C⟩:=dL r;cases C;obtain⟨c,g,B,E⟩:=I.list x;have m:=jk g;have i:c.length=ns.length:=by have:=g.length;rw[length_map]at this;exact this.symm
 refine sorted_ints B.isList m (by lia) λd ns' w j v=>?_
 obtain⟨e,A⟩:=sortedAll_at s.heap c d;have y:H (s.heap.objs.size+1)=none:=I.hok.fresh (Nat.le_succ _);have f:sizeLine=16777216:=sizeLine_eq;refine⟨.ref (s.heap.objs.size+1),_,I.laid (a:=s.heap.objs.size+1) (o:=.lst (ns'.map V.int)) (t':=s.toks) (λb u z=>sortedAll_old z) (Nat.le_succ _) ⟨?_,d.toList,e,eO w,?_⟩,rfl,q _ ns' j v y⟩
 .rw[length_map,j.length_eq];lia
 .rw[A,Array.toArray_toList]
section
variable {X:Cx}{e:Expr}{es:List Expr}{pos:Pos}
theorem Cv{a b:Expr}{d c:TE}{r:R2}(g:IxR X r)(h:PEq X a d)(e:PE X b c)(f:tY b):PEq X (.Subscript a b pos) (tOp r d c):=bK (ak g (kG h) e f)
end
section
variable {X:Cx}
theorem bZ{K:Frag}{e:Expr}{f:Str}{a:Pos}{b:TE}(h:X.K=K)(d:PE X e b)(c:attributeBase e f X.env (eval e X.env)=eval e X.env):PE X (.Attribute e f a) (Ek K b f):=h ▸ aC d c
end
end L2
namespace L2
open PySem PySem.Spec PyProof.Rows PySem.W
def Ey:Stmt->Expr
 | .Assign _ e _=>e
 | _=>dE
section
variable {X:Cx}
end
end L2
namespace L2
open PySem PySem.Spec PyProof.Rows
section
variable {X:Cx}
inductive rCount(K:Frag)(x:V)(vs:List V)(H:Hp)(Q:VK):Prop
 | mk(l:Addr)(xs:List V)(ds:List PyData)(y:V)(d:PyData)(h0:x=.ref l)(h1:vs=[y])(h2:H l=some (.lst xs))(h3:DVs K H ds xs)(h4:DV K H d y)(h5:PyData.canLayAll0 ds=true)(h6:d.canLay0=true)(h7:d.depth<=60)
   (h8:Q (.int ((ds.countP λz=>PyData.eqv z d:Nat):Int)) H):rCount K x vs H Q
theorem xP(G:X.A.units+64<cLine):MtM X "list.count" (rCount X.K):=by
 intro i s E H x M v J Q I A j h;obtain⟨l,xs,b,y,d,rfl,rfl,m,c,w,f,p,K,q⟩:=h;cases A;obtain⟨u,rfl,B⟩:=j.one;obtain⟨z,a,n,r,L,e⟩:=I.lstM m;obtain⟨as,g⟩:=DVs.reads I c r;obtain⟨D,C⟩:=w.reads I B;refine call_meets F.slot_list_count ⟨_,e,rfl⟩ F.entry_list_count (F.args_list_count_2 _ _) (SeqAt.list_countAt l a.toArray n none #[] u (λy=>PyData.eqv (SeqAt.readOf s.heap y) d)) ⟨e,SeqAt.items_eqAt (xs:=b) (as:=as) (by simpa using g) C f p ?_,?_⟩
 .have:min (PyData.depthAll b) d.depth<=d.depth:=Nat.min_le_right _ _
  lia
 .have o:a.toArray.toList.countP (λy=>PyData.eqv (SeqAt.readOf s.heap y) d)=b.countP λz=>PyData.eqv z d:=by
   rw[<- SeqAt.readsAll_map b a as f g,countP_map];rfl
  rw[o];exact⟨.int _,H,I.tok _,⟨_,rfl⟩,q⟩
variable {o e:Expr}{es:List Expr}{to:TE}{t:TA}{apos cpos:Pos}
theorem pe_m.count(h:X.A.units+64<cLine)(f:PE X o to)(i:PA X (e::es) t)(c:attributeBase o "count" X.env (eval o X.env)=eval o X.env:=by rfl)
  (d:((backTo cpos (starEach (e::es) X.env)).all (λx=>!x.1) && (backToKw cpos (keywordEach [] X.env)).all (λx=>x.1.isSome) && decide ((e::es).length+([]:List Keyword).length+(if ([]:List Keyword).isEmpty then 0 else 1)<30))=true:=by rfl)
  (b:(apos.endLine == cpos.line)=true:=by rfl) (g:starEach (e::es) X.env=(false,eval e X.env)::starEach es X.env:=by rfl) (a:(backTo cpos (starEach es X.env)).any (·.1)=false:=by rfl) :
  PE X (.Call (.Attribute o "count" apos) (e::es) [] cpos) (tBM X.K "list" (rCount X.K) to t):=uM F.plainAttrs_list F.slot_list_count F.type_list_count (xP h) f i c d b g a
end
section
variable {X:Cx}{a b c d:Expr}{ta tb tc td:TE}{pos:Pos}
end
section
variable {X:Cx}{o e:Expr}{es:List Expr}{to:TE}{t:TA}{apos cpos:Pos}
theorem pe_m.extend(f:PE X o to)(h:PA X (e::es) t)(c:attributeBase o "extend" X.env (eval o X.env)=eval o X.env:=by rfl)
  (d:((backTo cpos (starEach (e::es) X.env)).all (λx=>!x.1) && (backToKw cpos (keywordEach [] X.env)).all (λx=>x.1.isSome) && decide ((e::es).length+([]:List Keyword).length+(if ([]:List Keyword).isEmpty then 0 else 1)<30))=true:=by rfl)
  (b:(apos.endLine == cpos.line)=true:=by rfl) (g:starEach (e::es) X.env=(false,eval e X.env)::starEach es X.env:=by rfl) (a:(backTo cpos (starEach es X.env)).any (·.1)=false:=by rfl) :
  PE X (.Call (.Attribute o "extend" apos) (e::es) [] cpos) (tBM X.K "list" uq to t):=uM F.plainAttrs_list F.slot_list_extend F.type_list_extend vR f h c d b g a
end
end L2
namespace Du
theorem div_nn{a b:Rat}(d:0<=a)(c:0<b):0<=a/b:=by
 rw[Rat.div_def];exact Rat.mul_nonneg d (Rat.le_of_lt (Rat.inv_pos.mpr c))
def hb(h c:Rat):Rat:=if h+c<1 then h+c else h+c - 1
theorem Be{h c:Rat}(a:0<=h)(d:h<1)(b:0<c)(c1:c<1):0<=hb h c/\hb h c<1:=by
 unfold hb;split <;> grind
end Du
namespace Du
def In1(c:Rat):Prop:=0<=c/\c<=1
def Uns(c:Rat):Prop:=0<c/\c<1
def us0(h c:Rat):Rat×Rat:=if h+c<1 then (c/(h+c),0) else ((1 - c)/(2 - (h+c)),(1 - h)/(2 - (h+c)))
def bg(h:Rat)(us:Rat×Rat)(c:Rat):Rat×Rat:=if h+c<1 then (us.1*(h/(h+c)),us.2) else (us.1*((1 - h)/(2 - (h+c))),us.2+us.1*((1 - c)/(2 - (h+c))))
def mS(x:Rat×(Rat×Rat))(c:Rat):Rat×(Rat×Rat):=(hb x.1 c,bg x.1 x.2 c)
def bk(us:Rat×Rat)(h c:Rat):Rat:=if 0<h+c - 1 then us.2*c+us.1*(h+c - 1) else us.2*c
end Du
namespace Du
open FrM
def fr(q:Rat):Int×Int:=(q.num,(q.den:Int))
theorem d5(n:Int){d:Nat}(a:d≠0):cK n (d:Int)=fr (mkRat n d):=by
 unfold cK fr;rw[Rat.num_mkRat,Rat.den_mkRat,if_neg a,if_neg a];have e:Int.gcd n (d:Int)=d.gcd n.natAbs:=by rw[Int.gcd,Nat.gcd_comm];rfl
 rw[e];rfl
theorem low_div(t:Int){b:Int}(a:0<b):cK t b=fr ((t:Rat)/(b:Rat)):=by
 obtain⟨d,rfl⟩:=Int.eq_ofNat_of_zero_le (Int.le_of_lt a);rw[d5 t (by omega),<- Rat.divInt_eq_div,<- Rat.divInt_ofNat]
theorem u8(p q:Rat):cK (p.num*(q.den:Int)+q.num*(p.den:Int)) ((p.den:Int)*(q.den:Int))=fr (p+q):=by
 rw[Rat.add_def',<- d5 _ (Nat.mul_ne_zero p.den_nz q.den_nz)];simp
theorem AL(p q:Rat):cK (p.num*(q.den:Int) - q.num*(p.den:Int)) ((p.den:Int)*(q.den:Int))=fr (p - q):=by
 rw[Rat.sub_def',<- d5 _ (Nat.mul_ne_zero p.den_nz q.den_nz)];simp
theorem tR(p q:Rat):cK (p.num*q.num) ((p.den:Int)*(q.den:Int))=fr (p*q):=by
 rw[Rat.mul_def',<- d5 _ (Nat.mul_ne_zero p.den_nz q.den_nz)];simp
theorem num_pos{q:Rat}:0<q.num↔0<q:=by
 rw[Rat.lt_iff];simp
theorem Ae(p q:Rat)(h:0<q):cK (p.num*(q.den:Int)) ((p.den:Int)*q.num)=fr (p/q):=by
 have d:=num_pos.mpr h;have a:(0:Int)<p.den:=by have:=p.den_pos;omega
 rw[low_div _ (Int.mul_pos a d)]
 congr 1
 have c:p=(p.num:Rat)/(p.den:Rat):=by
  have:=Rat.num_divInt_den p;rw[Rat.divInt_eq_div]at this;exact this.symm
 have b:q=(q.num:Rat)/(q.den:Rat):=by
  have:=Rat.num_divInt_den q;rw[Rat.divInt_eq_div]at this;exact this.symm
 have g:(p.den:Rat)≠0:=by have:=p.den_nz;exact_mod_cast this
 have f:(q.den:Rat)≠0:=by have:=q.den_nz;exact_mod_cast this
 have e:(q.num:Rat)≠0:=by
  have:q.num≠0:=by omega
  exact_mod_cast this
 conv=>rhs;rw[c,b]
 push_cast
 grind
def Bb(q:Rat):Prop:=Bt 1000 q.num/\Bt 1000 (q.den:Int)
def Bq(D:Nat)(q:Rat):Prop:=0<=q/\q<=1/\∃ n:Nat,q*(D:Rat)=(n:Rat)
def Bz(D:Nat)(q:Rat):Prop:=∃ n:Int,q*(D:Rat)=(n:Rat)/\n.natAbs<=4*D
theorem qM{D:Nat}(h:0<D):(0:Rat)<(D:Rat):=by exact_mod_cast h
theorem eq_mk{D:Nat}{q:Rat}{n:Int}(a:0<D)(e:q*(D:Rat)=(n:Rat)):q=mkRat n D:=by
 have b:=qM a;have:q=(n:Rat)/(D:Rat):=by grind
 rw[this,<- Rat.divInt_ofNat,Rat.divInt_eq_div];rfl
theorem Bz.bb{D:Nat}{q:Rat}(m:0<D)(p:D<2 ^ 980)(h:Bz D q):Bb q:=by
 obtain⟨n,e,r⟩:=h;have i:=eq_mk m e;have l:=d5 n (show D≠0 by omega);rw[<- i]at l;have f:(0:Int)<(D:Int):=by omega
 obtain⟨_,_,_,o,c⟩:=low n (D:Int) f;have j:(cK n (D:Int)).1=q.num:=by rw[l];rfl
 have g:(cK n (D:Int)).2=(q.den:Int):=by rw[l];rfl
 have b:n/(Int.gcd n (D:Int):Int)=q.num:=j;have a:(D:Int)/(Int.gcd n (D:Int):Int)=(q.den:Int):=g;rw[b]at o;rw[a]at c;have d:(2:Nat) ^ 1000=2 ^ 980*1048576:=by decide +kernel
 unfold Bb Bt;rw[d]
 constructor <;> omega
theorem xS{n:Nat}:(0:Rat)<=(n:Rat):=by exact_mod_cast Nat.zero_le n
theorem xH{n m:Nat}(h:(n:Rat)<=(m:Rat)):n<=m:=by exact_mod_cast h
theorem gb{n m:Nat}(h:m<=n):((n - m:Nat):Rat)=(n:Rat) - (m:Rat):=by
 obtain⟨k,rfl⟩:=Nat.exists_eq_add_of_le h;rw[Nat.add_sub_cancel_left]
 push_cast
 grind
theorem eU{a b:Rat}(d:0<=a)(c:0<=b):0<=a*b:=Rat.mul_nonneg d c
theorem Bq.nat{D:Nat}{q:Rat}(h:Bq D q):∃ n:Nat,q*(D:Rat)=(n:Rat)/\n<=D:=by
 obtain⟨a,b,n,e⟩:=h;refine⟨n,e,xH ?_⟩;have:=eU (show 0<=1 - q by grind) (xS (n:=D))
 grind
theorem Bq.z{D:Nat}{q:Rat}(h:Bq D q):Bz D q:=by
 obtain⟨n,e,a⟩:=h.nat;exact⟨(n:Int),by rw[e];rfl,by omega⟩
theorem Bq.bb{D:Nat}{q:Rat}(a:0<D)(b:D<2 ^ 980)(h:Bq D q):Bb q:=h.z.bb a b
theorem Bq.mul{D E:Nat}{q r:Rat}(h:Bq D q)(h':Bq E r):Bq (D*E) (q*r):=by
 obtain⟨a,c,n,e⟩:=h;obtain⟨b,d,m,f⟩:=h';refine⟨eU a b,?_,n*m,?_⟩
 .have:=eU a (show 0<=1 - r by grind)
  grind
 .push_cast
  grind
theorem Bq.up{D:Nat}(E:Nat){q:Rat}(h:Bq D q):Bq (D*E) q:=by
 obtain⟨a,b,n,e⟩:=h;refine⟨a,b,n*E,?_⟩
 push_cast
 grind
theorem Bq.up'{D:Nat}(E:Nat){q:Rat}(h:Bq D q):Bq (E*D) q:=by rw[Nat.mul_comm];exact h.up E
theorem Bq.add{D:Nat}{q r:Rat}(h:Bq D q)(h':Bq D r)(l:q+r<=1):Bq D (q+r):=by
 obtain⟨a,b,n,e⟩:=h;obtain⟨c,d,m,f⟩:=h';refine⟨by grind,l,n+m,?_⟩
 push_cast
 grind
theorem Bq.zero{D:Nat}:Bq D 0:=⟨by grind,by grind,0,by grind⟩
theorem yt{B:Nat}{q:Rat}(a b c:Int){h k:Rat}{n m:Nat}(e:h*(B:Rat)=(n:Rat))(f:k*(B:Rat)=(m:Rat))(o:n<=B)(g:m<=B)(l:q=(a:Rat)*h+(b:Rat)*k+(c:Rat))(j:a.natAbs<=1)(d:b.natAbs<=1)(i:c.natAbs<=2):Bz B q:=by
 refine⟨a*n+b*m+c*B,?_,?_⟩
 .push_cast
  rw[l]
  grind
 .have s:(a*(n:Int)).natAbs<=B:=by rw[Int.natAbs_mul];have:=Nat.mul_le_mul j o;simp at this ⊢;exact this
  have p:(b*(m:Int)).natAbs<=B:=by rw[Int.natAbs_mul];have:=Nat.mul_le_mul d g;simp at this ⊢;exact this
  have r:(c*(B:Int)).natAbs<=2*B:=by rw[Int.natAbs_mul];have:=Nat.mul_le_mul i (Nat.le_refl B);simp at this ⊢;exact this
  omega
section
variable {B:Nat}{h c:Rat}
theorem Cr(H:Bq B h)(C:Bq B c):Bz B (h+c):=by
 obtain⟨n,e,b⟩:=H.nat;obtain⟨m,f,a⟩:=C.nat;exact yt 1 1 0 e f b a (by push_cast;grind) (by decide) (by decide) (by decide)
theorem Al(H:Bq B h)(C:Bq B c):Bz B (h+c - 1):=by
 obtain⟨n,e,b⟩:=H.nat;obtain⟨m,f,a⟩:=C.nat;exact yt 1 1 (-1) e f b a (by push_cast;grind) (by decide) (by decide) (by decide)
theorem zV(H:Bq B h)(C:Bq B c):Bz B (2 - (h+c)):=by
 obtain⟨n,e,b⟩:=H.nat;obtain⟨m,f,a⟩:=C.nat;exact yt (-1) (-1) 2 e f b a (by push_cast;grind) (by decide) (by decide) (by decide)
theorem tM(C:Bq B c):Bq B (1 - c):=by
 obtain⟨m,f,a⟩:=C.nat;obtain⟨b,d,_⟩:=C;refine⟨by grind,by grind,B - m,?_⟩;rw[gb a]
 grind
theorem ym(H:Bq B h)(C:Bq B c)(d:h<1)(c1:c<1):Bq B (hb h c):=by
 obtain⟨a,_,n,e⟩:=H;obtain⟨b,_,m,f⟩:=C;unfold hb
 split
 .exact⟨by grind,by grind,n+m,by push_cast;grind⟩
 .refine⟨by grind,by grind,n+m - B,?_⟩
  have:(B:Rat)<=((n+m:Nat):Rat):=by
   push_cast
   have:=eU (show 0<=h+c - 1 by grind) (xS (n:=B))
   grind
  rw[gb (xH this)]
  push_cast
  grind
theorem i9{a b:Rat}(A:∃ n:Nat,a*(B:Rat)=(n:Rat))(h:∃ n:Nat,b*(B:Rat)=(n:Rat))(d:0<=a)(c:0<b)(l:a<=b)(g:0<B)(T:Nat)(f:b*(B:Rat)=(T:Rat)):Bq T (a/b):=by
 obtain⟨n,e⟩:=A;refine⟨div_nn d c,?_,n,?_⟩
 .have:a/b=1 - (b - a)/b:=by grind
  have:=div_nn (show 0<=b - a by grind) c
  grind
 .rw[<- f,<- e]
  grind
end
theorem pU{B:Nat}{h c:Rat}(b:0<B)(H:Bq B h)(C:Bq B c)(p:h<1)(g:0<c)(c1:c<1):∃ T:Nat,0<T/\T<=2*B /\
  (h+c<1->Bq T (h/(h+c))/\Bq T (c/(h+c)))/\(¬h+c<1->Bq T ((1 - c)/(2 - (h+c)))/\Bq T ((1 - h)/(2 - (h+c)))):=by
 obtain⟨n,e,r⟩:=H.nat;obtain⟨m,f,o⟩:=C.nat;obtain⟨j,_,_⟩:=H;have d:=qM b
 by_cases k:h+c<1
 .have a:(h+c)*(B:Rat)=((n+m:Nat):Rat):=by push_cast;grind
  refine⟨n+m,?_,by omega,λ_=>⟨i9 ⟨n,e⟩ ⟨_,a⟩ j (by grind) (by grind) b _ a,i9 ⟨m,f⟩ ⟨_,a⟩ (by grind) (by grind) (by grind) b _ a⟩,λz=>absurd k z⟩;have:(0:Rat)<(m:Rat):=by rw[<- f];exact Rat.mul_pos g d
  have:0<m:=by exact_mod_cast this
  omega
 .have a:(2 - (h+c))*(B:Rat)=((2*B - (n+m):Nat):Rat):=by rw[gb (by omega)];push_cast;grind
  have l:(1 - c)*(B:Rat)=((B - m:Nat):Rat):=by rw[gb (by omega)];grind
  have i:(1 - h)*(B:Rat)=((B - n:Nat):Rat):=by rw[gb (by omega)];grind
  refine⟨2*B - (n+m),?_,by omega,λz=>absurd z k,λ_=>⟨i9 ⟨_,l⟩ ⟨_,a⟩ (by grind) (by grind) (by grind) b _ a,i9 ⟨_,i⟩ ⟨_,a⟩ (by grind) (by grind) (by grind) b _ a⟩⟩;have:(0:Rat)<((2*B - (n+m):Nat):Rat):=by rw[<- a];exact Rat.mul_pos (by grind) d
  exact_mod_cast this
def Pu(D:Nat)(us:Rat×Rat):Prop:=Bq D us.1/\Bq D us.2/\us.1+us.2<=1
theorem Pu.step{B D T:Nat}{h c:Rat}{us:Rat×Rat}(P:Pu D us)(m:0<=h)(o:h<1)(l:0<c)(c1:c<1)(g:(h+c<1->Bq T (h/(h+c))/\Bq T (c/(h+c)))/\(¬h+c<1->Bq T ((1 - c)/(2 - (h+c)))/\Bq T ((1 - h)/(2 - (h+c))))):Pu (D*T) (bg h us c):=by
 obtain⟨a,f,j⟩:=P;unfold bg
 split
 .rename_i k
  obtain⟨b,d⟩:=g.1 k;refine⟨a.mul b,f.up T,?_⟩;have:=eU a.1 (show 0<=1 - h/(h+c) by have:=b.2.1;grind)
  grind
 .rename_i k
  obtain⟨b,d⟩:=g.2 k;have i:(1 - c)/(2 - (h+c))+(1 - h)/(2 - (h+c))=1:=by grind
  have e:us.1*((1 - h)/(2 - (h+c)))+(us.2+us.1*((1 - c)/(2 - (h+c))))=us.1+us.2:=by
   have:us.1*((1 - h)/(2 - (h+c)))+us.1*((1 - c)/(2 - (h+c)))=us.1:=by
    rw[<- Rat.mul_add,Rat.add_comm ((1 - h)/(2 - (h+c))),i];grind
   grind
  refine⟨a.mul d,(f.up T).add (a.mul b) ?_,by rw[e];exact j⟩;have:=(a.mul d).1
  grind
theorem Pu.new{T:Nat}{h c:Rat}(f:0<=h)(g:h<1)(e:0<c)(c1:c<1)(d:(h+c<1->Bq T (h/(h+c))/\Bq T (c/(h+c)))/\(¬h+c<1->Bq T ((1 - c)/(2 - (h+c)))/\Bq T ((1 - h)/(2 - (h+c))))):Pu T (us0 h c):=by
 unfold us0
 split
 .rename_i k
  obtain⟨b,a⟩:=d.1 k;exact⟨a,Bq.zero,by have:=a.2.1;grind⟩
 .rename_i k
  obtain⟨b,a⟩:=d.2 k;exact⟨b,a,by grind⟩
theorem Pu.up{D:Nat}{us:Rat×Rat}(P:Pu D us)(E:Nat):Pu (E*D) us:=⟨P.1.up' E,P.2.1.up' E,P.2.2⟩
theorem Pu.bk{B D:Nat}{h c:Rat}{us:Rat×Rat}(P:Pu D us)(C:Bq B c)(H:Bq B h)(f:h<1)(c1:c<1):Bq (D*B) (us.2*c)/\(0<h+c - 1->Bq B (h+c - 1)/\Bq (D*B) (us.1*(h+c - 1)))/\Bq (D*B) (bk us h c):=by
 obtain⟨b,e,i⟩:=P;have d:=e.mul C
 have a:0<h+c - 1->Bq B (h+c - 1):=λz=>by
  have:=ym H C f c1;unfold hb at this;rw[if_neg (by grind)]at this;exact this
 refine⟨d,λz=>⟨a z,b.mul (a z)⟩,?_⟩;unfold Du.bk
 split
 .rename_i z
  refine d.add (b.mul (a z)) ?_;have j:=eU e.1 (show 0<=1 - c by grind);have g:=eU b.1 (show 0<=1 - (h+c - 1) by grind)
  grind
 .exact d
end Du
namespace Du
abbrev Fn:=Nat->Nat->Option Rat
def mD(f:Fn)(x y:Nat)(v:Rat):Fn:=λa b=>if a=x/\b=y then some v else f a b
abbrev Er:=List (Nat×(Rat×Rat))
def i4(p:Nat)(h c:Rat)(e:Er)(f:Fn):Fn:=e.foldl (λf z=>mD (mD f z.1 p (bk z.2 h c)) p z.1 (bk z.2 h c)) f
def a9(S:Fn×Er×Rat)(x:Nat×Rat):Fn×Er×Rat:=(i4 x.1 S.2.2 x.2 S.2.1 S.1,S.2.1.map (λz=>(z.1,bg S.2.2 z.2 x.2))++[(x.1,us0 S.2.2 x.2)],hb S.2.2 x.2)
def k0:Fn×Er×Rat:=(λ_ _=>none,[],0)
def keptF(L:List (Nat×Rat)):Fn:=(L.foldl a9 k0).1
theorem uO{f:Fn}{x y:Nat}{v:Rat}:mD f x y v x y=some v:=if_pos ⟨rfl,rfl⟩
theorem dI{f:Fn}{x y a b:Nat}{v:Rat}(h:¬(a=x/\b=y)):mD f x y v a b=f a b:=if_neg h
theorem gw{p:Nat}{h c:Rat}{f:Fn}{z:Nat×(Rat×Rat)}{e:Er}:i4 p h c (z::e) f=i4 p h c e (mD (mD f z.1 p (bk z.2 h c)) p z.1 (bk z.2 h c)):=rfl
theorem uy{p:Nat}{h c:Rat}{a b:Nat}(g:a≠p)(d:b≠p):∀{e:Er}{f:Fn},i4 p h c e f a b=f a b
 | [],_=>rfl
 | z::e,f=>by
  rw[gw,uy g d,dI (λq=>g q.1),dI (λq=>d q.2)]
theorem nT{p:Nat}{h c:Rat}{x:Nat}(a:x≠p):∀{e:Er}{f:Fn},x ∉ e.map (·.1)->i4 p h c e f x p=f x p
 | [],_,_=>rfl
 | z::e,f,n=>by
  rw[map_cons,mem_cons,not_or]at n;rw[gw,nT a n.2,dI (λq=>a q.1),dI (λq=>n.1 q.1)]
theorem tQ{p:Nat}{h c:Rat}{x:Nat}{us:Rat×Rat}(a:x≠p):∀{e:Er}{f:Fn},(e.map (·.1)).Nodup->(x,us)∈e->i4 p h c e f x p=some (bk us h c)
 | [],_,_,m=>by cases m
 | z::e,f,nd,m=>by
  rw[map_cons,nodup_cons]at nd;rw[gw]
  rcases mem_cons.mp m with e1 | e1
  .rw[<- e1]at nd ⊢
   rw[nT a nd.1,dI (λq=>a q.1),uO]
  .exact tQ a nd.2 e1
theorem uz{p:Nat}{h c:Rat}:∀{e:Er}{f:Fn},(∀ a b,f a b=f b a)->∀ a b,i4 p h c e f a b=i4 p h c e f b a
 | [],_,s=>s
 | z::e,f,s=>by
  rw[gw];refine uz λa b=>?_
  unfold mD;have:=s a b
  grind
theorem qz:∀{L:List (Nat×Rat)}{S:Fn×Er×Rat},(∀ a b,S.1 a b=S.1 b a)->∀ a b,(L.foldl a9 S).1 a b=(L.foldl a9 S).1 b a
 | [],_,s=>s
 | x::L,S,s=>by
  rw[foldl_cons];exact qz (uz s)
theorem wW(L:List (Nat×Rat))(a b:Nat):keptF L a b=keptF L b a:=qz (λ_ _=>rfl) a b
theorem oh:∀{L:List (Nat×Rat)}{S:Fn×Er×Rat},(L.foldl a9 S).2.1.map (·.1)=S.2.1.map (·.1)++L.map (·.1)
 | [],S=>by simp
 | x::L,S=>by
  rw[foldl_cons,oh];unfold a9;simp[Function.comp_def]
theorem nJ:∀{L:List (Nat×Rat)}{S:Fn×Er×Rat},(L.foldl a9 S).2.2=(L.map (·.2)).foldl hb S.2.2
 | [],_=>rfl
 | x::L,S=>by rw[foldl_cons,nJ,map_cons,foldl_cons];rfl
theorem lL{x:Nat}:∀{L:List (Nat×Rat)}{S:Fn×Er×Rat}{us:Rat×Rat},(x,us)∈S.2.1->(x,((L.map (·.2)).foldl mS (S.2.2,us)).2)∈(L.foldl a9 S).2.1/\(L.foldl a9 S).2.2=((L.map (·.2)).foldl mS (S.2.2,us)).1
 | [],_,_,m=>⟨m,rfl⟩
 | y::L,S,us,m=>by
  rw[foldl_cons,map_cons,foldl_cons];have a:(x,bg S.2.2 us y.2)∈(a9 S y).2.1:=mem_append_left _ (mem_map.mpr ⟨_,m,rfl⟩);exact lL (S:=a9 S y) a
theorem pQ{a b:Nat}:∀{L:List (Nat×Rat)}{S:Fn×Er×Rat},a ∉ L.map (·.1)->b ∉ L.map (·.1)->(L.foldl a9 S).1 a b=S.1 a b
 | [],_,_,_=>rfl
 | y::L,S,ha,hb=>by
  rw[map_cons,mem_cons,not_or]at ha hb;rw[foldl_cons,pQ ha.2 hb.2];exact uy ha.1 hb.1
theorem yF{x y:Nat}{c1 c2:Rat}{A B C:List (Nat×Rat)}(a:((A++(x,c1)::(B++(y,c2)::C)).map (·.1)).Nodup) :
  keptF (A++(x,c1)::(B++(y,c2)::C)) x y=some (bk ((B.map (·.2)).foldl mS (hb ((A.map (·.2)).foldl hb 0) c1,us0 ((A.map (·.2)).foldl hb 0) c1)).2 ((B.map (·.2)).foldl mS (hb ((A.map (·.2)).foldl hb 0) c1,us0 ((A.map (·.2)).foldl hb 0) c1)).1 c2):=by
 unfold keptF;rw[foldl_append,foldl_cons,foldl_append,foldl_cons];have h:(A.foldl a9 k0).2.2=(A.map (·.2)).foldl hb 0:=nJ;have m:(A.foldl a9 k0).2.1.map (·.1)=A.map (·.1):=by rw[oh];rfl
 obtain⟨S,hS⟩:∃ S,S=A.foldl a9 k0:=⟨_,rfl⟩
 rw[<- hS]at h m ⊢;have p:(x,us0 S.2.2 c1)∈(a9 S (x,c1)).2.1:=mem_append_right _ (mem_singleton.mpr rfl);obtain⟨i,j⟩:=lL (L:=B) p
 have b:(B.foldl a9 (a9 S (x,c1))).2.1.map (·.1)=A.map (·.1)++x::B.map (·.1):=by
  rw[oh];unfold a9;simp[Function.comp_def];rw[<- m]
 have o:(a9 S (x,c1)).2.2=hb S.2.2 c1:=rfl;rw[o,h]at i j;simp only[map_append,map_cons]at a
 have c:x≠y:=by
  rintro rfl;have:=nodup_append.mp a;simp at this
 have f:((B.foldl a9 (a9 S (x,c1))).2.1.map (·.1)).Nodup:=by
  rw[b];have e:(A.map (·.1)++x::(B.map (·.1)++y::C.map (·.1)))=(A.map (·.1)++x::B.map (·.1))++y::C.map (·.1):=by simp
  rw[e]at a;exact(nodup_append.mp a).1
 have l:x ∉ C.map (·.1)/\y ∉ C.map (·.1):=by
  have d:=(nodup_append.mp a).2.1;rw[nodup_cons]at d;have g:=(nodup_append.mp d.2).2.1;rw[nodup_cons]at g;exact⟨λz=>d.1 (mem_append_right _ (mem_cons_of_mem _ z)),g.1⟩
 rw[pQ l.1 l.2];show i4 y (B.foldl a9 (a9 S (x,c1))).2.2 c2 (B.foldl a9 (a9 S (x,c1))).2.1 (B.foldl a9 (a9 S (x,c1))).1 x y=_;rw[tQ c f i,j]
theorem qB{p:Nat}{h c:Rat}{a b:Nat}:∀{e:Er}{f:Fn},f a b=none->¬(a=p/\b∈e.map (·.1))->¬(b=p/\a∈e.map (·.1))->i4 p h c e f a b=none
 | [],_,n,_,_=>n
 | z::e,f,n,h1,h2=>by
  rw[map_cons,mem_cons]at h1 h2;rw[gw];refine qB ?_ (λq=>h1 ⟨q.1,.inr q.2⟩) (λq=>h2 ⟨q.1,.inr q.2⟩);rw[dI (λq=>h1 ⟨q.1,.inl q.2⟩),dI (λq=>h2 ⟨q.2,.inl q.1⟩)];exact n
theorem mR{a b:Nat}:∀{L:List (Nat×Rat)}{S:Fn×Er×Rat},S.1 a b=none->¬(a∈S.2.1.map (·.1)++L.map (·.1)/\b∈S.2.1.map (·.1)++L.map (·.1))->(L.foldl a9 S).1 a b=none
 | [],_,n,_=>n
 | y::L,S,n,h=>by
  rw[foldl_cons];have c:(a9 S y).2.1.map (·.1)=S.2.1.map (·.1)++[y.1]:=by unfold a9;simp[Function.comp_def]
  refine mR (qB n (λq=>h ⟨?_,?_⟩) (λq=>h ⟨?_,?_⟩)) ?_
  .rw[q.1];simp
  .exact mem_append_left _ q.2
  .exact mem_append_left _ q.2
  .rw[q.1];simp
  .rw[c];simpa[append_assoc] using h
theorem lW{L:List (Nat×Rat)}{a b:Nat}(h:¬(a∈L.map (·.1)/\b∈L.map (·.1))):keptF L a b=none:=mR rfl (by simpa[k0] using h)
def dz(c:Rat):Bool:=decide (0<c/\c<1)
theorem unsQ_iff{c:Rat}:dz c=true↔Uns c:=decide_eq_true_iff
end Du
namespace FrM
def uns(f:Int×Int):Bool:=decide (0<f.1/\f.1<f.2)
def vK(a b:Int):Int:=a/(Int.gcd a b:Int)*b
def duA(c e:Int×Int):Int:=c.1*(vK c.2 e.2/c.2)
def duB(c e:Int×Int):Int:=e.1*(vK c.2 e.2/e.2)
def duL(c e:Int×Int):Bool:=decide (duA c e+duB c e<vK c.2 e.2)
def duR(c e:Int×Int):Int×Int:=if duL c e=true then cK (duA c e+duB c e) (vK c.2 e.2) else cK (duA c e+duB c e - vK c.2 e.2) (vK c.2 e.2)
def duE(c e:Int×Int):Int×Int:=if duL c e=true then (0,1) else (1,1)
abbrev Tl:=List (Int×(Int×Int))
def par(b:Bool)(c e:Int×Int):(Int×Int)×(Int×Int):=if b=duL c e then (duR c e,duE c e) else (duE c e,duR c e)
end FrM
namespace FrM
def un(B:Int)(f:Int×Int):Int:=f.1*(B/f.2)
def rl(g:Int->Int)(tl:Tl):Tl:=tl.map λx=>(g x.1,x.2)
end FrM
namespace Tb
open FrM Du
inductive Tr where
 | leaf (ns:List Int)
 | die (ps:List (Int×Tr))
def tot(ps:List (Int×Tr)):Int:=(ps.map (·.1)).sum
mutual
def lv:Tr->Nat
 | .leaf _=>1
 | .die ps=>lvs ps
def lvs:List (Int×Tr)->Nat
 | []=>0
 | (_,u)::r=>lv u+lvs r
end
mutual
def sz:Tr->Nat
 | .leaf _=>1
 | .die ps=>szs ps+1
def szs:List (Int×Tr)->Nat
 | []=>0
 | (_,u)::r=>sz u+szs r
end
mutual
def Ok:Tr->Prop
 | .leaf ns=>ns.Nodup/\ns.length<=24
 | .die ps=>ps≠[]/\Oks ps
def Oks:List (Int×Tr)->Prop
 | []=>True
 | (m,u)::r=>1<=m/\Ok u/\Oks r
end
abbrev Way:=List Int×(Int×Int)
mutual
def wl:Tr->Int->Int->List Way
 | .leaf ns,t,b=>[(ns,(t,b))]
 | .die ps,t,b=>wls ps t b (tot ps)
def wls:List (Int×Tr)->Int->Int->Int->List Way
 | [],_,_,_=>[]
 | (m,u)::r,t,b,S=>wls r t b S++wl u (t*m) (b*S)
end
abbrev Rws:=List (List Int×Rat)
mutual
def wf:Tr->Rat->Rws
 | .leaf ns,q=>[(ns,q)]
 | .die ps,q=>wfs ps q (tot ps)
def wfs:List (Int×Tr)->Rat->Int->Rws
 | [],_,_=>[]
 | (m,u)::r,q,S=>wf u (q*((m:Rat)/(S:Rat)))++wfs r q S
end
end Tb
namespace Tb
open FrM Du
def so(l:List Int):List Int:=l.mergeSort (λa b=>decide (a<=b))
theorem so_perm(l:List Int):(so l).Perm l:=List.mergeSort_perm l _
theorem so_srt(l:List Int):(so l).Pairwise (·<=·):=by
 have h:=List.pairwise_mergeSort (le:=λ(a b:Int)=>decide (a<=b)) (by intro a b c h1 h2;simp at *;lia) (by intro a b;simp;lia) l;exact h.imp λh=>by simpa using h
theorem u5:∀{a b:List Int},a.Perm b->a.Pairwise (·<=·)->b.Pairwise (·<=·)->a=b
 | [],b,p,_,_=>(List.nil_perm.mp p).symm ▸ rfl
 | x::a,[],p,_,_=>absurd p.length_eq (by simp)
 | x::a,y::b,p,h1,h2=>by
  rw[pairwise_cons]at h1 h2
  have e:x=y:=by
   have c:x∈y::b:=p.mem_iff.mp mem_cons_self;have d:y∈x::a:=p.mem_iff.mpr mem_cons_self
   rcases mem_cons.mp c with z | z
   .exact z
   .rcases mem_cons.mp d with z' | z'
    .exact z'.symm
    .have:=h2.1 x z
     have:=h1.1 y z';lia
  subst e;rw[u5 (List.perm_cons x |>.mp p) h1.2 h2.2]
theorem pv{a l:List Int}(h:a.Perm l)(s:a.Pairwise (·<=·)):a=so l:=u5 (h.trans (so_perm l).symm) s (so_srt l)
def kR(W:Rws):Rws:=W.map λw=>(so w.1,w.2)
def kt(t:Tr):Rws:=kR (wf t 1)
theorem pK{m S:Int}(g:1<=m)(d:m<=S):Bq S.toNat ((m:Rat)/(S:Rat)):=by
 have e:(0:Rat)<(S:Rat):=by have:(0:Int)<S:=(by lia);exact_mod_cast this
 have a:(0:Rat)<=(m:Rat):=by have:(0:Int)<=m:=(by lia);exact_mod_cast this
 have f:(m:Rat)<=(S:Rat):=by exact_mod_cast d
 have i:=Rat.inv_pos.mpr e;have h:(S:Rat)*(S:Rat)⁻¹=1:=by grind
 rw[Rat.div_def];refine⟨eU a (by grind),?_,m.toNat,?_⟩
 .have:=eU (show(0:Rat)<=(S:Rat) - (m:Rat) by grind) (show(0:Rat)<=(S:Rat)⁻¹ by grind)
  grind
 .have c:((S.toNat:Nat):Rat)=(S:Rat):=by
   have:((S.toNat:Nat):Int)=S:=by lia
   exact_mod_cast this
  have b:((m.toNat:Nat):Rat)=(m:Rat):=by
   have:((m.toNat:Nat):Int)=m:=by lia
   exact_mod_cast this
  rw[c,b]
  grind
def lT:List (Int×(Int×Int))->List Int->Tr
 | [],t=>.leaf t
 | (p,c)::r,t=>.die [(c.1,lT r (t++[p])),(c.2 - c.1,lT r t)]
def every(places:List Int)(first step:Nat):List Int:=((List.range places.length).filter λk=>decide (k % step=first)).filterMap (places[·]?)
def sT(ps:List Int)(st:Nat):Tr:=.die ((List.range st).map λf=>(1,.leaf (every ps f st)))
end Tb
namespace FrM
theorem iO(z:List Int)(p:Nat->Bool):∀ l:List Nat,aU z l=aU z (l.filter p)+aU z (l.filter λk=>!p k)/\l.length=(l.filter p).length+(l.filter λk=>!p k).length
 | []=>by simp[aU]
 | a::l=>by
  obtain⟨b,c⟩:=iO z p l;have e:∀ r:List Nat,aU z (a::r)=sz z a+aU z r:=λr=>by unfold aU;rw[map_cons,sum_cons]
  cases h:p a with
  | true =>
   rw[filter_cons_of_pos (by exact h),filter_cons_of_neg (by simp[h]),e,e,length_cons,length_cons];lia
  | false =>
   rw[filter_cons_of_neg (by simp[h]),filter_cons_of_pos (by simp[h]),e,e,length_cons,length_cons];lia
theorem wp{z:List Int}{l:List Nat}{w:Int}(hz:∀ k∈l,1<=sz z k)(e:w<l.length)(r:0<w):0<w - ((l.length:Int) - ((stay z l w).length:Int)):=by
 have j:=qI hz e (by lia);obtain⟨g,b⟩:=iO z (λk=>decide (sz z k*w<aU z l)) l;have c:l.filter (λk=>decide (sz z k*w<aU z l))=stay z l w:=rfl;rw[c]at g b;have p:=fc z (stay z l w) λk a=>hz k (mem_filter.mp a).1
 have o:=iI z w (aU z l) (l.filter λk=>!decide (sz z k*w<aU z l)) λk a=>by
  have:=(mem_filter.mp a).2;simpa using this
 generalize (l.filter λk=>!decide (sz z k*w<aU z l))=hi at *;have f:aU z hi<=aU z l - 1:=by lia
 have h:aU z hi*w<=(aU z l - 1)*w:=Int.mul_le_mul_of_nonneg_right f (by lia);rw[Int.sub_mul,Int.one_mul]at h;have d:(hi.length:Int)*aU z l<w*aU z l:=by rw[Int.mul_comm w];lia
 have m:=fc z l hz;have i:=Int.lt_of_mul_lt_mul_right d (by lia);lia
theorem uT{z:List Int}{n:Nat}{m:Int}(hz:∀ k,k<n->1<=sz z k):∀(c:Nat) (l:List Nat) (w:Int),l.length<=c->Rnd z n m l w->0<w->0<(fin z l w).2/\∀ k∈(fin z l w).1,sz z k*(fin z l w).2<aU z (fin z l w).1
 | 0,l,w,hc,h,_=>absurd h.pos (by lia)
 | c+1,l,w,hc,h,w0=>by
  by_cases e:(stay z l w).length=l.length
  .rw[lF e]
   refine⟨w0,λk a=>?_⟩;have:=List.length_filter_eq_length_iff.mp e k a;simpa using this
  .rw[tm e]
   have:=kN z l w;exact uT hz c _ _ (by lia) (h.step hz) (wp (λk a=>hz k (h.sub k a)) h.lt w0)
structure FrOk(f:Int×Int):Prop where
 pos:0<f.2
 lo:0<=f.1
 hi:f.1<=f.2
 bd:f.2<=576000000
 ends:¬(0<f.1/\f.1<f.2)->f=(1,1)\/f=(0,1)
theorem CQ{T B:Int}(j:0<T)(l:T<B)(o:B<=576000000):FrOk (cK T B):=by
 have h:=ll (t:=T) (b:=B) (by lia);generalize cK T B=f at h;obtain⟨t,b⟩:=f;have a:0<b:=h.pos;have p:b<=B:=(CU (by lia) h).1;have e:t*B=T*b:=h.eq;have m:0<T*b:=Int.mul_pos j a
 have i:0<t:=by
  rcases Int.lt_or_le 0 t with g | g
  .exact g
  .exact absurd (Int.mul_nonpos_of_nonpos_of_nonneg g (show 0<=B by lia)) (by lia)
 have d:t<b:=by
  have c:T*b<B*b:=Int.mul_lt_mul_of_pos_right l a;rw[<- e,Int.mul_comm B b]at c;exact Int.lt_of_mul_lt_mul_right c (by lia)
 exact⟨a,by show 0<=t;lia,by show t<=b;lia,by show b<=576000000;lia,λg=>absurd ⟨i,d⟩ g⟩
theorem due_ok{z:List Int}{m:Int}(hz:∀ k,k<z.length->1<=sz z k)(h:∀ k,k<z.length->sz z k<=24000000)(l:z.length<=24)(j:0<=m):∀ f∈due z m,FrOk f:=by
 have d:FrOk (1,1):=⟨by decide,by decide,by decide,by decide,λ_=>.inl rfl⟩
 have e:FrOk (0,1):=⟨by decide,by decide,by decide,by decide,λ_=>.inr rfl⟩
 intro f a;unfold due at a
 by_cases h1:(z.length:Int)<=m
 .rw[if_pos h1]at a
  obtain⟨_,_,rfl⟩:=mem_map.mp a;exact d
 .rw[if_neg h1]at a
  by_cases h2:m=0
  .rw[if_pos h2]at a
   obtain⟨_,_,rfl⟩:=mem_map.mp a;exact e
  .rw[if_neg h2]at a
   obtain⟨k,g,rfl⟩:=mem_map.mp a;have S:=Rnd.start (z:=z) (n:=z.length) (m:=m) (by lia) (by lia);have R:=Rnd.fin hz _ _ _ (Nat.le_refl _) S;obtain⟨i,b⟩:=uT hz _ _ _ (Nat.le_refl _) S (by lia)
   by_cases hd:decide (k∈(FrM.fin z (List.range z.length) m).1)=true
   .rw[if_pos hd]
    have c:=of_decide_eq_true hd;have p:=nZ z 24000000 _ λk g=>h k (R.sub k g)
    have r:=R.len;have o:=hz k (R.sub k c);exact CQ (Int.mul_pos (by lia) i) (b k c) (by lia)
   .rw[if_neg hd]
    exact d
end FrM
namespace Nst
open FrM Du Tb
abbrev Mb:=Int×Int×List PySem.Str
def plc(ms:List Mb):List Int:=ms.map (·.1)
def szs(ms:List Mb):List Int:=ms.map (·.2.1)
def hd(m:Mb):PySem.Str:=m.2.2.headD ⟨#[]⟩
def tl(m:Mb):Mb:=(m.1,m.2.1,m.2.2.tail)
def bN:List (PySem.Str×List Mb)->PySem.Str->Mb->List (PySem.Str×List Mb)
 | [],n,m=>[(n,[m])]
 | (k,l)::r,n,m=>if k=n then (k,l++[m])::r else (k,l)::bN r n m
def groups(ms:List Mb):List (PySem.Str×List Mb):=ms.foldl (λgs m=>bN gs (hd m) (tl m)) []
theorem aT(a:List Mb)(m:Mb):groups (a++[m])=bN (groups a) (hd m) (tl m):=by
 unfold groups;rw[foldl_append];rfl
def parts(ms:List Mb):List (List Mb):=(groups ms).map (·.2)
def uns(f:Int×Int):Bool:=decide (0<f.1/\f.1<f.2)
abbrev Tl:=List (Int×(Int×Int))
def outer(gs:List (List Mb)):List Mb:=gs.zipIdx.map λg=>((g.2:Int),(szs g.1).sum,[])
def sel(gs:List (List Mb))(ks:List Int):List (List Mb):=ks.map λk=>gs.getD k.toNat []
end Nst
namespace Nst
open FrM Du Tb PySem
theorem iJ{z:List Int}(h:∀ x∈z,0<=x):0<=z.sum:=by
 induction z with
 | nil=>simp
 | cons x r ih =>
  rw[sum_cons];have:=h x mem_cons_self;have:=ih λy a=>h y (mem_cons_of_mem _ a)
  lia
theorem kJ{z:List Int}(h:∀ x∈z,0<=x){x:Int}(hx:x∈z):x<=z.sum:=by
 induction z with
 | nil=>cases hx
 | cons y r ih =>
  rw[sum_cons];have c:=h y mem_cons_self;have b:=iJ λy a=>h y (mem_cons_of_mem _ a)
  rcases mem_cons.mp hx with rfl | hx
  .lia
  .have:=ih (λy a=>h y (mem_cons_of_mem _ a)) hx
   lia
theorem pL{n:Str}{m:Mb}{p:Mb->Prop}(b:p m):∀{gs:List (Str×List Mb)},(∀ e∈gs,e.2≠[]/\∀ x∈e.2,p x)->∀ e∈bN gs n m,e.2≠[]/\∀ x∈e.2,p x
 | [],_,e,he=>by
  rw[mem_singleton.mp he];exact⟨by simp,λx a=>by rw[mem_singleton.mp a];exact b⟩
 | (k,l)::r,h,e,he=>by
  unfold bN at he
  by_cases c:k=n
  .rw[if_pos c]at he
   rcases mem_cons.mp he with rfl | he
   .refine⟨by simp,λx a=>?_⟩
    rcases mem_append.mp a with h1 | h1
    .exact(h _ (mem_cons_self ..)).2 x h1
    .rw[mem_singleton.mp h1];exact b
   .exact h e (mem_cons_of_mem _ he)
  .rw[if_neg c]at he
   rcases mem_cons.mp he with rfl | he
   .exact h _ (mem_cons_self ..)
   .exact pL b (λe he=>h e (mem_cons_of_mem _ he)) e he
def kY(f:Mb->Int)(gs:List (Str×List Mb)):Int:=(gs.map λe=>(e.2.map f).sum).sum
theorem qY(f:Mb->Int){n:Str}{m:Mb}:∀(gs:List (Str×List Mb)),kY f (bN gs n m)=kY f gs+f m
 | []=>by simp[bN,kY]
 | (k,l)::r=>by
  unfold bN
  by_cases c:k=n
  .rw[if_pos c];simp[kY];lia
  .rw[if_neg c]
   have:=qY f (n:=n) (m:=m) r;simp only[kY,map_cons,sum_cons]at *;lia
theorem aK(gs:List (List Mb)):(outer gs).length=gs.length:=by unfold outer;rw[length_map,List.length_zipIdx]
theorem a7(gs:List (List Mb)):szs (outer gs)=gs.map λc=>(szs c).sum:=by
 unfold szs outer;rw[map_map];show(gs.zipIdx.map λg=>(g.1.map λm=>m.2.1).sum)=_;rw[show(λg:List Mb×Nat=>(g.1.map λm=>m.2.1).sum)=(λc:List Mb=>(c.map λm=>m.2.1).sum) ∘ Prod.fst from rfl,<- map_map,List.zipIdx_map_fst]
theorem aW(gs:List (List Mb)):plc (outer gs)=(List.range gs.length).map λk:Nat=>(k:Int):=by
 unfold plc outer;rw[map_map];show(gs.zipIdx.map λg=>((g.2:Nat):Int))=_;rw[show(λg:List Mb×Nat=>((g.2:Nat):Int))=(λk:Nat=>(k:Int)) ∘ Prod.snd from rfl,<- map_map,List.zipIdx_map_snd,List.range_eq_range']
end Nst
namespace Nm
open PySem Nst FrM
def Fc(x y:Int×Int):Int×Int:=cK (x.1*y.1) (x.2*y.2)
def El(w:Nat)(i j:Nat):Int:=if i=j then (w:Int) else (w:Int)*((w:Int) - 1)
def Ei(n:Nat)(i j:Nat):Int:=if i=j then (n:Int) else (n:Int)*((n:Int) - 1)
def uN(n w i j:Nat):Int×Int:=cK (El w i j) (Ei n i j)
def fAt(fs:List (Int×Int))(i:Nat):Int×Int:=fs.getD i (0,1)
def At(gs:List (List Mb))(g s:Nat)(p:Int):Prop:=∃ c m,gs[g]? = some c/\c[s]? = some m/\m.1=p
def yX(gs:List (List Mb))(p:Int):Nat×Nat :=
 let g:=gs.findIdx λc=>c.any λm=>m.1 == p
 (g,(gs.getD g []).findIdx λm=>m.1 == p)
def Uq(gs:List (List Mb)):Prop:=∀ g s g' s' p,At gs g s p->At gs g' s' p->g=g'/\s=s'
theorem Au{gs:List (List Mb)}{g s:Nat}{p:Int}(u:Uq gs)(h:At gs g s p):yX gs p=(g,s):=by
 obtain⟨c,m,r,F,C⟩:=id h;have E:c∈gs:=List.mem_of_getElem? r;have D:m∈c:=List.mem_of_getElem? F;have d:(c.any λm=>m.1 == p)=true:=any_eq_true.mpr ⟨m,D,by simp[C]⟩;have b:(gs.findIdx λc=>c.any λm=>m.1 == p)<gs.length:=List.findIdx_lt_length_of_exists ⟨c,E,d⟩;have j:=List.findIdx_getElem (w:=b);have f:gs[gs.findIdx λc=>c.any λm=>m.1 == p]? = some _:=List.getElem?_eq_getElem b;generalize gs[gs.findIdx λc=>c.any λm=>m.1 == p]'b=c1 at j f;obtain⟨y,i,e⟩:=any_eq_true.mp j;have a:(c1.findIdx λm=>m.1 == p)<c1.length:=List.findIdx_lt_length_of_exists ⟨y,i,e⟩;have l:=List.findIdx_getElem (w:=a);have o:c1[c1.findIdx λm=>m.1 == p]? = some _:=List.getElem?_eq_getElem a;generalize c1[c1.findIdx λm=>m.1 == p]'a=m2 at l o
 have B:At gs (gs.findIdx λc=>c.any λm=>m.1 == p) (c1.findIdx λm=>m.1 == p) p:=⟨c1,m2,f,o,by simpa using l⟩
 obtain⟨v,A⟩:=u _ _ _ _ p B h;unfold yX;have x:gs.getD (gs.findIdx λc=>c.any λm=>m.1 == p) []=c1:=by rw[List.getD_eq_getElem?_getD,f];rfl
 show(gs.findIdx _,(gs.getD (gs.findIdx λc=>c.any λm=>m.1 == p) []).findIdx _)=(g,s);rw[x,v,A]
theorem nU{n:Str}{m:Mb}:∀ gs:List (Str×List Mb),((bN gs n m).map (·.2)).flatten.Perm ((gs.map (·.2)).flatten++[m])
 | []=>by simp[bN]
 | (k,l)::r=>by
  unfold bN
  by_cases c:k=n
  .rw[if_pos c]
   simp only[map_cons,flatten_cons,append_assoc];exact List.Perm.append_left l List.perm_append_comm
  .rw[if_neg c]
   simp only[map_cons,flatten_cons,append_assoc];exact(nU r).append_left l
theorem y7{n:Str}{m:Mb}(gs:List (Str×List Mb)):(plc ((bN gs n m).map (·.2)).flatten).Perm (plc (gs.map (·.2)).flatten++[m.1]):=by
 have:=(nU (n:=n) (m:=m) gs).map (·.1);rw[map_append]at this;exact this
theorem parts_plc(a:List Mb):(plc (parts a).flatten).Perm (plc a):=by
 have c:∀(a:List Mb) (b:List (Str×List Mb)),(plc ((a.foldl (λb m=>bN b (hd m) (tl m)) b).map (·.2)).flatten).Perm (plc (b.map (·.2)).flatten++plc a):=by
  intro a
  induction a with
  | nil=>intro b;simp[plc]
  | cons m r ih =>
   intro b;rw[foldl_cons];refine(ih _).trans ?_;refine((y7 (n:=hd m) (m:=tl m) b).append_right (plc r)).trans ?_;rw[append_assoc];exact List.Perm.refl _
 have:=c a [];simpa[plc,parts,groups] using this
theorem Ba:∀{gs:List (List Mb)},(plc gs.flatten).Nodup->Uq gs
 | [],_=>λg s x A p h=>by obtain⟨c,m,a,_⟩:=h;simp at a
 | c::r,nd=>by
  have B:(plc c++plc r.flatten).Nodup:=by
   have e:plc (c::r).flatten=plc c++plc r.flatten:=by unfold plc;rw[flatten_cons,map_append]
   rw[<- e];exact nd
  obtain⟨L,K,E⟩:=nodup_append.mp B;have H:=Ba K;have d:∀{s p},At (c::r) 0 s p->∃ m,c[s]? = some m/\m.1=p:=λ⟨v,m,a,b,l⟩=>by cases a;exact⟨m,b,l⟩
  have f:∀{g s p},At (c::r) (g+1) s p->At r g s p:=λ⟨v,m,a,b,l⟩=>⟨v,m,by simpa using a,b,l⟩
  have u:∀{g s p},At r g s p->p∈plc r.flatten:=λ⟨v,m,a,b,l⟩=>by
   rw[<- l];exact mem_map.mpr ⟨m,mem_flatten.mpr ⟨v,List.mem_of_getElem? a,List.mem_of_getElem? b⟩,rfl⟩
  have i:∀{s:Nat}{m:Mb},c[s]? = some m->m.1∈plc c:=λh=>mem_map.mpr ⟨_,List.mem_of_getElem? h,rfl⟩
  intro g s x A p h w
  match g,x with
  | 0,0 =>
   obtain⟨m,a,b⟩:=d h;obtain⟨J,o,y⟩:=d w;refine⟨rfl,?_⟩;have G:s<(plc c).length:=by unfold plc;rw[length_map];exact(List.getElem?_eq_some_iff.mp a).1
   have C:A<(plc c).length:=by unfold plc;rw[length_map];exact(List.getElem?_eq_some_iff.mp o).1
   refine(getElem_inj (h₀:=G) (h₁:=C) L).mp ?_;have D:(plc c)[s]? = some m.1:=by unfold plc;rw[List.getElem?_map,a];rfl
   have F:(plc c)[A]? = some J.1:=by unfold plc;rw[List.getElem?_map,o];rfl
   rw[List.getElem?_eq_getElem G]at D;rw[List.getElem?_eq_getElem C]at F;rw[Option.some.inj D,Option.some.inj F,b,y]
  | 0,x+1 =>
   obtain⟨m,a,b⟩:=d h;have j:=i a;rw[b]at j;exact absurd rfl (E p j p (u (f w)))
  | g+1,0 =>
   obtain⟨m,a,b⟩:=d w;have j:=i a;rw[b]at j;exact absurd rfl (E p j p (u (f h)))
  | g+1,x+1 =>
   obtain⟨j,I⟩:=H _ _ _ _ p (f h) (f w);exact⟨by lia,I⟩
theorem yk{a:List Mb}(b:(plc a).Nodup):Uq (parts a):=Ba ((parts_plc a).nodup_iff.mpr b)
theorem parts_nd{a:List Mb}(d:(plc a).Nodup):∀ c∈parts a,(plc c).Nodup:=λc b=>by
 have h:=(parts_plc a).nodup_iff.mpr d;refine List.Sublist.nodup ?_ h;exact(List.sublist_flatten_of_mem b).map _
theorem outer_nd(gs:List (List Mb)):(plc (outer gs)).Nodup:=by
 rw[aW];refine List.Pairwise.map _ (λa b h=>?_) nodup_range;intro z;exact h (by lia)
theorem seat_of{a:List Mb}(l:(plc a).Nodup){i:Nat}{m:Mb}(hi:a[i]? = some m):∃ c m',(parts a)[(yX (parts a) m.1).1]? = some c/\c[(yX (parts a) m.1).2]? = some m'/\m'.1=m.1:=by
 have h:m.1∈plc (parts a).flatten:=(parts_plc a).mem_iff.mpr (mem_map.mpr ⟨m,List.mem_of_getElem? hi,rfl⟩);obtain⟨m',o,d⟩:=mem_map.mp h;obtain⟨c,j,b⟩:=mem_flatten.mp o;obtain⟨g,f⟩:=List.getElem?_of_mem j;obtain⟨s,e⟩:=List.getElem?_of_mem b;have:=Au (yk l) (p:=m.1) ⟨c,m',f,e,d⟩;rw[this];exact⟨c,m',f,e,d⟩
end Nm
namespace Nst
open FrM Du Tb PySem
theorem gm(a:List Int):∀ n,(List.range n).filterMap (a[·]?)=a.take n
 | 0=>rfl
 | n+1=>by
  rw[range_succ,List.filterMap_append,gm a n,take_add_one]
  cases e:a[n]? <;> simp[e]
theorem mK(a:List Int)(f st:Nat):(every a f st).Sublist a:=by
 unfold every
 have:=((filter_sublist (l:=List.range a.length) (p:=λk=>decide (k % st=f))).filterMap (a[·]?))
 rw[gm,take_length]at this;exact this
theorem zJ(gs:List (List Mb)):sel gs (plc (outer gs))=gs:=by
 unfold sel;rw[aW,map_map];apply ext_getElem
 .rw[length_map,length_range]
 .intro i b a
  rw[getElem_map,getElem_range];show gs.getD ((i:Int).toNat) []=gs[i];rw[show((i:Int).toNat)=i by omega,List.getD_eq_getElem?_getD,List.getElem?_eq_getElem a];rfl
theorem AF{gs:List (List Mb)}{s a:List Int}(h:s.Sublist (plc (outer gs)))(b:s.Perm a):∃ r:List (List Mb),r.Sublist gs/\r.Perm (sel gs a):=by
 refine⟨sel gs s,?_,b.map _⟩;have:=h.map λk:Int=>gs.getD k.toNat []
 have e:=zJ gs;unfold sel at e ⊢;rw[e]at this;exact this
theorem lB:∀{L T:List Int}{m:Nat},L.Pairwise (·<=·)->(∀ x∈L,0<=x)->T.Sublist L->m<=T.length->(L.take m).sum<=T.sum
 | L,T,0,_,h0,hs,_=>by
  rw[take_zero];exact iJ λx b=>h0 x (hs.subset b)
 | [],T,m+1,_,_,hs,hm=>by
  have:=hs.length_le;simp at this;rw[this]at hm;simp at hm
 | x::L,T,m+1,hp,h0,hs,hm=>by
  rw[pairwise_cons]at hp;rw[List.take_succ_cons,sum_cons];cases hs with
  | cons_cons _ hs =>
   rw[length_cons]at hm;have:=lB (m:=m) hp.2 (λy a=>h0 y (mem_cons_of_mem _ a)) hs (by lia);rw[sum_cons];lia
  | cons _ hs =>
   cases T with
   | nil=>simp at hm
   | cons y T =>
    rw[length_cons]at hm;have a:=hp.1 y (hs.subset mem_cons_self);have:=lB (m:=m) hp.2 (λy a=>h0 y (mem_cons_of_mem _ a)) ((List.sublist_cons_self y T).trans hs) (by lia);rw[sum_cons];lia
theorem jY:∀{L T:List Int}{m:Nat},L.Pairwise (· >= ·)->(∀ x∈L,0<=x)->T.Sublist L->T.length<=m->T.sum<=(L.take m).sum
 | [],T,m,_,_,hs,_=>by
  cases hs;simp
 | x::L,T,0,_,h0,hs,hm=>by
  have:T=[]:=length_eq_zero_iff.mp (by lia);rw[this];simp
 | x::L,T,m+1,hp,h0,hs,hm=>by
  rw[pairwise_cons]at hp;rw[List.take_succ_cons,sum_cons];cases hs with
  | cons_cons _ hs =>
   rw[length_cons]at hm;have:=jY (m:=m) hp.2 (λy a=>h0 y (mem_cons_of_mem _ a)) hs (by lia);rw[sum_cons];lia
  | cons _ hs =>
   cases T with
   | nil =>
    have b:=h0 x mem_cons_self;have c:=iJ (z:=L.take m) λy a=>h0 y (mem_cons_of_mem _ (mem_of_mem_take a))
    rw[sum_nil];lia
   | cons y T =>
    rw[length_cons]at hm;have a:=hp.1 y (hs.subset mem_cons_self);have:=jY (m:=m) hp.2 (λy a=>h0 y (mem_cons_of_mem _ a)) ((List.sublist_cons_self y T).trans hs) (by lia);rw[sum_cons];lia
theorem eI{a b:List Int}(h:a.Perm b):a.sum=b.sum:=by
 induction h with
 | nil=>rfl
 | cons x _ ih=>rw[sum_cons,sum_cons,ih]
 | swap x y l=>simp only[sum_cons];lia
 | trans _ _ i1 i2=>rw[i1,i2]
end Nst
namespace Du
abbrev TQ:=List (Int×Rat)
def settQ(tq:TQ)(tk:List Int):TQ×List Int:=(tq.filter (λx=>dz x.2),tk++(tq.filter λx=>decide (x.2=1)).map (·.1))
def iX(b:Bool)(h c:Rat):Rat×Rat:=if h+c<1 then (if b=true then (h+c,0) else (0,h+c)) else (if b=true then (1,h+c - 1) else (h+c - 1,1))
def nxQ(b:Bool):TQ->List Int->TQ×List Int
 | (p,h)::(o,c)::r,tk=>settQ ((p,(iX b h c).1)::(o,(iX b h c).2)::r) tk
 | [(p,_)],tk=>([],if b=true then tk++[p] else tk)
 | [],tk=>([],tk)
def pr1:TQ->Rat
 | (_,h)::(_,c)::_=>if h+c<1 then h/(h+c) else (1 - c)/(2 - (h+c))
 | [(_,h)]=>h
 | []=>1
def pr2:TQ->Rat
 | (_,h)::(_,c)::_=>if h+c<1 then c/(h+c) else (1 - h)/(2 - (h+c))
 | [(_,h)]=>1 - h
 | []=>0
def UnsA(tq:TQ):Prop:=∀ x∈tq,Uns x.2
def upl(p:Int)(h:Rat)(r:TQ):TQ:=if h=0 then r else (p,h)::r
def EQ(φ:List Int->Rat):Nat->TQ->List Int->Rat
 | 0,_,tk=>φ tk
 | _+1,[],tk=>φ tk
 | n+1,x::r,tk=>pr1 (x::r)*EQ φ n (nxQ true (x::r) tk).1 (nxQ true (x::r) tk).2+pr2 (x::r)*EQ φ n (nxQ false (x::r) tk).1 (nxQ false (x::r) tk).2
def wQ:Nat->TQ->List Int->Rat->List (List Int×Rat)
 | 0,_,tk,m=>[(tk,m)]
 | _+1,[],tk,m=>[(tk,m)]
 | n+1,x::r,tk,m=>wQ n (nxQ true (x::r) tk).1 (nxQ true (x::r) tk).2 (m*pr1 (x::r))++wQ n (nxQ false (x::r) tk).1 (nxQ false (x::r) tk).2 (m*pr2 (x::r))
def SW(φ:List Int->Rat)(ws:List (List Int×Rat)):Rat:=(ws.map λw=>w.2*φ w.1).sum
theorem pG{φ:List Int->Rat}{a b:List (List Int×Rat)}:SW φ (a++b)=SW φ a+SW φ b:=by unfold SW;rw[map_append,sum_append]
theorem eP{φ:List Int->Rat}{w:List Int×Rat}:SW φ [w]=w.2*φ w.1:=by unfold SW;simp only[map_cons,map_nil,sum_cons,sum_nil];grind
theorem SW_E{φ:List Int->Rat}:∀(n:Nat) (tq:TQ) (tk:List Int) (m:Rat),SW φ (wQ n tq tk m)=m*EQ φ n tq tk
 | 0,_,_,_=>by rw[wQ,eP,EQ]
 | _+1,[],_,_=>by rw[wQ,eP,EQ]
 | n+1,x::r,tk,m=>by rw[wQ,pG,SW_E n,SW_E n,EQ];grind
theorem sd{r:TQ}(h:UnsA r):r.filter (λx=>dz x.2)=r:=List.filter_eq_self.mpr λx a=>unsQ_iff.mpr (h x a)
theorem rN{r:TQ}(h:UnsA r):(r.filter λx=>decide (x.2=1))=[]:=List.filter_eq_nil_iff.mpr λx a=>by
 have:=(h x a).2;simp
 grind
theorem UnsA.cons{x:Int×Rat}{r:TQ}(h:UnsA (x::r)):Uns x.2/\UnsA r:=⟨h x (mem_cons_self ..),λy a=>h y (mem_cons_of_mem _ a)⟩
theorem UnsA.mk{x:Int×Rat}{r:TQ}(h:Uns x.2)(h':UnsA r):UnsA (x::r):=λy a=>by
 rcases mem_cons.mp a with e | e
 .rw[e];exact h
 .exact h' y e
theorem uY{q:Rat}(h:¬Uns q):dz q=false:=by
 cases e:dz q with
 | false=>rfl
 | true=>exact absurd (unsQ_iff.mp e) h
theorem UnsA.upl{p:Int}{h:Rat}{r:TQ}(b:0<=h)(a:h<1)(u:UnsA r):UnsA (upl p h r):=by
 unfold Du.upl
 split
 .exact u
 .exact UnsA.mk ⟨by grind,a⟩ u
theorem tP{p o:Int}{x y:Rat}{r:TQ}{tk:List Int}(u:UnsA r)(j:0<=x)(g:x<=1)(i:0<=y)(f:y<=1)(h:x=0\/y=0\/x=1\/y=1) :
  settQ ((p,x)::(o,y)::r) tk=((if x=1 then [] else if x=0 then [] else [(p,x)])++((if y=1 then [] else if y=0 then [] else [(o,y)])++r),tk++((if x=1 then [p] else [])++(if y=1 then [o] else []))):=by
 unfold settQ
 have e:∀(z:Rat),0<=z->z<=1->dz z=decide (¬z=1/\¬z=0):=λz a b=>by
  unfold dz;refine decide_eq_decide.mpr ⟨λw=>⟨by grind,by grind⟩,λw=>⟨by grind,by grind⟩⟩
 rw[filter_cons,filter_cons,filter_cons,filter_cons,sd u,rN u];rw[e x j g,e y i f]
 by_cases a:x=1 <;> by_cases b:x=0 <;> by_cases c:y=1 <;> by_cases d:y=0 <;> simp[a,b,c,d]
theorem C7{p o:Int}{h c:Rat}{r:TQ}{tk:List Int}(f:Uns h)(g:Uns c)(u:UnsA r):nxQ true ((p,h)::(o,c)::r) tk=if h+c<1 then (upl p (h+c) r,tk) else (upl o (h+c - 1) r,tk++[p]):=by
 obtain⟨a,b⟩:=f;obtain⟨d,e⟩:=g
 by_cases z:h+c<1
 .show settQ ((p,(iX true h c).1)::(o,(iX true h c).2)::r) tk=_
  rw[if_pos z];unfold iX;rw[if_pos z,if_pos rfl];rw[tP u (by grind) (by grind) (by grind) (by grind) (.inr (.inl rfl))];rw[if_neg (show ¬h+c=1 by grind),if_neg (show ¬h+c=0 by grind),if_neg (show ¬(0:Rat)=1 by grind),if_pos rfl,if_neg (show ¬h+c=1 by grind),if_neg (show ¬(0:Rat)=1 by grind)];unfold upl;rw[if_neg (show ¬h+c=0 by grind)];simp
 .show settQ ((p,(iX true h c).1)::(o,(iX true h c).2)::r) tk=_
  rw[if_neg z];unfold iX;rw[if_neg z,if_pos rfl];rw[tP u (by grind) (by grind) (by grind) (by grind) (.inr (.inr (.inl rfl)))];rw[if_pos rfl,if_neg (show ¬h+c - 1=1 by grind),if_pos rfl,if_neg (show ¬h+c - 1=1 by grind)];unfold upl
  by_cases w:h+c - 1=0
  .rw[if_pos w,if_pos w];simp
  .rw[if_neg w,if_neg w];simp
theorem Dg{p o:Int}{h c:Rat}{r:TQ}{tk:List Int}(f:Uns h)(g:Uns c)(u:UnsA r):nxQ false ((p,h)::(o,c)::r) tk=if h+c<1 then (upl o (h+c) r,tk) else (upl p (h+c - 1) r,tk++[o]):=by
 obtain⟨a,b⟩:=f;obtain⟨d,e⟩:=g
 by_cases z:h+c<1
 .show settQ ((p,(iX false h c).1)::(o,(iX false h c).2)::r) tk=_
  rw[if_pos z];unfold iX;rw[if_pos z,if_neg Bool.false_ne_true];rw[tP u (by grind) (by grind) (by grind) (by grind) (.inl rfl)];rw[if_neg (show ¬(0:Rat)=1 by grind),if_pos rfl,if_neg (show ¬h+c=1 by grind),if_neg (show ¬h+c=0 by grind),if_neg (show ¬(0:Rat)=1 by grind),if_neg (show ¬h+c=1 by grind)];unfold upl;rw[if_neg (show ¬h+c=0 by grind)];simp
 .show settQ ((p,(iX false h c).1)::(o,(iX false h c).2)::r) tk=_
  rw[if_neg z];unfold iX;rw[if_neg z,if_neg Bool.false_ne_true];rw[tP u (by grind) (by grind) (by grind) (by grind) (.inr (.inr (.inr rfl)))];rw[if_neg (show ¬h+c - 1=1 by grind),if_pos rfl,if_neg (show ¬h+c - 1=1 by grind),if_pos rfl];unfold upl
  by_cases w:h+c - 1=0
  .rw[if_pos w,if_pos w];simp
  .rw[if_neg w,if_neg w];simp
theorem upl_len{p:Int}{h:Rat}{r:TQ}:(upl p h r).length<=r.length+1:=by
 unfold upl
 split
 .omega
 .rw[length_cons];omega
theorem fN{φ:List Int->Rat}{n:Nat}{u k:Int}{h c:Rat}{R:TQ}{tk:List Int}(a:Uns h)(b:Uns c)(d:UnsA R) :
  EQ φ (n+1) ((u,h)::(k,c)::R) tk=if h+c<1 then h/(h+c)*EQ φ n (upl u (h+c) R) tk+c/(h+c)*EQ φ n (upl k (h+c) R) tk
   else (1 - c)/(2 - (h+c))*EQ φ n (upl k (h+c - 1) R) (tk++[u])+(1 - h)/(2 - (h+c))*EQ φ n (upl u (h+c - 1) R) (tk++[k]):=by
 rw[EQ,C7 a b d,Dg a b d]
 by_cases z:h+c<1
 .simp only[if_pos z,pr1,pr2]
 .simp only[if_neg z,pr1,pr2]
theorem mW{φ:List Int->Rat}{n:Nat}{tk:List Int}:EQ φ n [] tk=φ tk:=by cases n <;> rfl
theorem oQ{φ:List Int->Rat}{n:Nat}{p:Int}{h:Rat}{tk:List Int}:EQ φ (n+1) [(p,h)] tk=h*φ (tk++[p])+(1 - h)*φ tk:=by
 rw[EQ];show h*EQ φ n [] (if true=true then tk++[p] else tk)+(1 - h)*EQ φ n [] (if false=true then tk++[p] else tk)=_;rw[mW,mW,if_pos rfl,if_neg Bool.false_ne_true]
theorem jz{h c:Rat}(f:Uns h)(g:Uns c):(h+c<1->h/(h+c)+c/(h+c)=1)/\(¬h+c<1->(1 - c)/(2 - (h+c))+(1 - h)/(2 - (h+c))=1):=by
 obtain⟨a,b⟩:=f;obtain⟨d,e⟩:=g;have p:h+c≠0:=by grind
 have q:2 - (h+c)≠0:=by grind
 exact⟨λ_=>by grind,λ_=>by grind⟩
theorem upl_mem{p:Int}{h:Rat}{r:TQ}{x:Int}(a:x∈(upl p h r).map (·.1)):x=p\/x∈r.map (·.1):=by
 unfold upl at a
 split at a
 .exact .inr a
 .rw[map_cons,mem_cons]at a;exact a
theorem iS{φ ψ:List Int->Rat}:∀(n:Nat) (tq:TQ) (tk:List Int),UnsA tq->tq.length<=n->(∀ tk',(∀ x∈tk,x∈tk')->(∀ x∈tk',x∈tk\/x∈tq.map (·.1))->φ tk'=ψ tk')->EQ φ n tq tk=EQ ψ n tq tk
 | n,[],tk,_,_,hf=>by rw[mW,mW];exact hf tk (λ_ h=>h) λ_ h=>.inl h
 | 0,_::_,_,_,hn,_=>by rw[length_cons]at hn;omega
 | n+1,[(p,h)],tk,_,_,hf=>by
  rw[oQ,oQ,hf (tk++[p]) (λx b=>mem_append_left _ b) (λx b=>by simpa using b),hf tk (λ_ h=>h) λ_ h=>.inl h]
 | n+1,(u,h)::(k,c)::R,tk,uu,hn,hf=>by
  obtain⟨d,B⟩:=uu.cons;obtain⟨f,i⟩:=B.cons;have d:=d;have f:=f;have r:=d.1;have o:=d.2;have E:=f.1;have A:=f.2;simp only at r o E A;rw[fN d f i,fN d f i];have C:∀ p q,(upl p q R).length<=n:=λp q=>Nat.le_trans upl_len (by simp only[length_cons]at hn;omega)
  have g:∀(p:Int) (q:Rat) (a:List Int),(p=u\/p=k)->(∀ x∈a,x=u\/x=k)->0<=q->q<1->EQ φ n (upl p q R) (tk++a)=EQ ψ n (upl p q R) (tk++a):=λp q a w y m s =>
   iS n (upl p q R) (tk++a) (UnsA.upl m s i) (C p q) λtk' v D=>hf tk' (λx b=>v x (mem_append_left _ b)) λx b=>by
    simp only[map_cons,mem_cons]
    rcases D x b with z | z
    .rcases mem_append.mp z with z | z
     .exact .inl z
     .exact .inr ((y x z).elim .inl λe=>.inr (.inl e))
    .rcases upl_mem z with z | z
     .rw[z];exact .inr (w.elim .inl λe=>.inr (.inl e))
     .exact .inr (.inr (.inr z))
  by_cases z:h+c<1
  .rw[if_pos z,if_pos z]
   have j:=g u (h+c) [] (.inl rfl) (λx b=>by cases b) (by grind) z;have l:=g k (h+c) [] (.inr rfl) (λx b=>by cases b) (by grind) z;rw[append_nil]at j l;rw[j,l]
  .rw[if_neg z,if_neg z,g k (h+c - 1) [u] (.inr rfl) (λx b=>.inl (mem_singleton.mp b)) (by grind) (by grind),g u (h+c - 1) [k] (.inl rfl) (λx b=>.inr (mem_singleton.mp b)) (by grind) (by grind)]
theorem oT:∀(n:Nat) (tq:TQ) (tk:List Int),EQ (λ_=>0) n tq tk=0
 | 0,_,_=>rfl
 | _+1,[],_=>rfl
 | n+1,x::r,tk=>by rw[EQ,oT n,oT n];grind
def ind(p:Prop)[Decidable p]:Rat:=if p then 1 else 0
def aI(i:Int):List Int->Rat:=λtk=>ind (i∈tk)
def aR(i j:Int):List Int->Rat:=λtk=>ind (i∈tk/\j∈tk)
def vs(i:Int)(r:TQ):Rat:=(r.map λx=>x.2*ind (x.1=i)).sum
theorem eV{i:Int}{x:Int×Rat}{r:TQ}:vs i (x::r)=x.2*ind (x.1=i)+vs i r:=by unfold vs;rw[map_cons,sum_cons]
theorem iD{i p:Int}{h:Rat}{r:TQ}:vs i (upl p h r)=h*ind (p=i)+vs i r:=by
 unfold upl
 split
 .rename_i e;rw[e];grind
 .rw[eV]
theorem ind_pos{p:Prop}[Decidable p](h:p):ind p=1:=if_pos h
theorem ind_neg{p:Prop}[Decidable p](h:¬p):ind p=0:=if_neg h
theorem eN{i u:Int}{tk:List Int}(h:u ∉ tk):ind (i∈tk++[u])=ind (i∈tk)+ind (u=i):=by
 by_cases e:u=i
 .subst e
  rw[ind_pos (by simp),ind_neg h,ind_pos rfl];grind
 .rw[ind_neg e]
  by_cases z:i∈tk
  .rw[ind_pos (mem_append_left _ z),ind_pos z];grind
  .rw[ind_neg (by simp[z];exact λw=>e w.symm),ind_neg z];grind
theorem uD(i:Int):∀(n:Nat) (tq:TQ) (tk:List Int),UnsA tq->tq.length<=n->(tk++tq.map (·.1)).Nodup->EQ (aI i) n tq tk=ind (i∈tk)+vs i tq
 | n,[],tk,_,_,_=>by rw[mW];show aI i tk=ind (i∈tk)+0;unfold aI;grind
 | 0,_::_,_,_,hn,_=>by rw[length_cons]at hn;omega
 | n+1,[(p,h)],tk,_,_,nd=>by
  have y:p ∉ tk:=λz=>by
   have:=nodup_append.mp nd;exact this.2.2 p z p (by simp) rfl
  rw[oQ,eV];show h*aI i (tk++[p])+(1 - h)*aI i tk=_+(h*ind (p=i)+0);unfold aI;rw[eN y]
  grind
 | n+1,(u,h)::(k,c)::R,tk,uu,hn,nd=>by
  obtain⟨e,x⟩:=uu.cons;obtain⟨j,l⟩:=x.cons;have s:=e.1;have r:=e.2;have B:=j.1;have w:=j.2;simp only at s r B w;have A:∀ p q,(upl p q R).length<=n:=λp q=>Nat.le_trans upl_len (by simp only[length_cons]at hn;omega)
  have C:=nd;simp only[map_cons]at nd;have b:(tk++[u]++[k]++R.map (·.1)).Nodup:=by simpa using nd
  have f:∀(p:Int) (q:Rat) (a:List Int),(a=[]/\(p=u\/p=k)\/a=[u]/\p=k\/a=[k]/\p=u)->(tk++a++(upl p q R).map (·.1)).Nodup:=λp q a g=>by
   have:(tk++a++(p::R.map (·.1))).Nodup:=by
    rcases g with⟨rfl,rfl | rfl⟩ | ⟨rfl,rfl⟩ | ⟨rfl,rfl⟩
    .refine List.Nodup.sublist ?_ b
     simp
    .refine List.Nodup.sublist ?_ b
     simp
    .simpa using b
    .refine(List.Perm.nodup_iff ?_).mp b
     simp only[append_assoc,List.singleton_append];exact List.Perm.append_left _ (List.Perm.swap ..)
   unfold upl
   split
   .exact List.Nodup.sublist (by simp) this
   .exact this
  have D:u ∉ tk:=λz=>by
   have:=nodup_append.mp nd;exact this.2.2 u z u (by simp) rfl
  have v:k ∉ tk:=λz=>by
   have:=nodup_append.mp nd;exact this.2.2 k z k (by simp) rfl
  have d:=λ(p:Int) (q:Rat) (a:List Int) g (q0:0<=q) (q1:q<1)=>uD i n (upl p q R) (tk++a) (UnsA.upl q0 q1 l) (A p q) (f p q a g)
  rw[fN e j l,eV,eV]
  by_cases z:h+c<1
  .rw[if_pos z]
   have m:=d u (h+c) [] (.inl ⟨rfl,.inl rfl⟩) (by grind) z;have o:=d k (h+c) [] (.inl ⟨rfl,.inr rfl⟩) (by grind) z;rw[append_nil]at m o;rw[m,o,iD,iD];have p:h+c≠0:=by grind
   grind
  .rw[if_neg z,d k (h+c - 1) [u] (.inr (.inl ⟨rfl,rfl⟩)) (by grind) (by grind),d u (h+c - 1) [k] (.inr (.inr ⟨rfl,rfl⟩)) (by grind) (by grind),iD,iD,eN D,eN v]
   have p:2 - (h+c)≠0:=by grind
   grind
end Du
namespace Du
def Gf(bs:List Rat)(h:Rat)(us:Rat×Rat)(c:Rat):Rat:=bk (bs.foldl mS (h,us)).2 (bs.foldl mS (h,us)).1 c
theorem kE{c:Rat}{a:List Rat}{h:Rat}{us:Rat×Rat}{d:Rat}:Gf (c::a) h us d=Gf a (hb h c) (bg h us c) d:=rfl
theorem lq{p q d:Rat}:∀(bs:List Rat) (h:Rat) (a b:Rat×Rat),Gf bs h (p*a.1+q*b.1,p*a.2+q*b.2) d=p*Gf bs h a d+q*Gf bs h b d
 | [],h,a,b=>by
  show bk _ h d=p*bk a h d+q*bk b h d;unfold bk
  split <;> grind
 | c::bs,h,a,b=>by
  rw[kE,kE,kE,<- lq bs]
  congr 1
  unfold bg
  split
  .refine Prod.ext ?_ ?_ <;> simp only <;> grind
  .refine Prod.ext ?_ ?_ <;> simp only <;> grind
theorem pw{i j:Int}{n:Nat}{tq:TQ}{tk:List Int}(u:UnsA tq)(a:tq.length<=n)(h:i ∉ tk)(h':i ∉ tq.map (·.1)):EQ (aR i j) n tq tk=0:=by
 rw[iS (φ:=aR i j) (ψ:=λ_=>0) n tq tk u a (λtk' _ h2=>ind_neg λz=>(h2 i z.1).elim h h'),oT]
theorem uC{i j:Int}{n:Nat}{tq:TQ}{tk:List Int}(u:UnsA tq)(a:tq.length<=n)(h:j ∉ tk)(h':j ∉ tq.map (·.1)):EQ (aR i j) n tq tk=0:=by
 rw[iS (φ:=aR i j) (ψ:=λ_=>0) n tq tk u a (λtk' _ h2=>ind_neg λz=>(h2 j z.2).elim h h'),oT]
theorem BW{i j:Int}{n:Nat}{tq:TQ}{tk:List Int}(u:UnsA tq)(b:tq.length<=n)(d:(tk++tq.map (·.1)).Nodup)(h:i∈tk):EQ (aR i j) n tq tk=ind (j∈tk)+vs j tq:=by
 rw[iS (ψ:=aI j) n tq tk u b (λa c _=>by
  unfold aI aR ind
  by_cases z:j∈a
  .rw[if_pos ⟨c i h,z⟩,if_pos z]
  .rw[if_neg (λw=>z w.2),if_neg z]),uD j n tq tk u b d]
theorem Bs{i j:Int}{n:Nat}{tq:TQ}{tk:List Int}(u:UnsA tq)(b:tq.length<=n)(d:(tk++tq.map (·.1)).Nodup)(h:j∈tk):EQ (aR i j) n tq tk=ind (i∈tk)+vs i tq:=by
 rw[iS (ψ:=aI i) n tq tk u b (λa c _=>by
  unfold aI aR ind
  by_cases z:i∈a
  .rw[if_pos ⟨z,c j h⟩,if_pos z]
  .rw[if_neg (λw=>z w.1),if_neg z]),uD i n tq tk u b d]
theorem mf{i:Int}{r:TQ}(h:i ∉ r.map (·.1)):vs i r=0:=by
 induction r with
 | nil=>rfl
 | cons x r ih =>
  simp only[map_cons,mem_cons,not_or]at h;rw[eV,ih h.2,ind_neg λe=>h.1 e.symm]
  grind
theorem upl_nd{tk:List Int}{p:Int}{q:Rat}{R:TQ}(a:(tk++(p::R.map (·.1))).Nodup):(tk++(upl p q R).map (·.1)).Nodup:=by
 unfold upl
 split
 .exact List.Nodup.sublist (by simp) a
 .exact a
structure St(tk:List Int)(u:Int)(h:Rat)(R:TQ):Prop where
 h0:0<=h
 h1:h<1
 uR:UnsA R
 nd:(tk++(u::R.map (·.1))).Nodup
theorem St.out{tk:List Int}{u:Int}{h:Rat}{R:TQ}(S:St tk u h R):u ∉ tk/\u ∉ R.map (·.1)/\∀ x∈R.map (·.1),x ∉ tk:=by
 have:=nodup_append.mp S.nd;have a:=nodup_cons.mp this.2.1;exact⟨λz=>this.2.2 u z u (mem_cons_self ..) rfl,a.1,λx hx z=>this.2.2 x z x (mem_cons_of_mem _ hx) rfl⟩
theorem St.ua{tk:List Int}{u:Int}{h:Rat}{R:TQ}(S:St tk u h R):UnsA (upl u h R):=UnsA.upl S.h0 S.h1 S.uR
theorem St.nx{tk:List Int}{u k:Int}{h c:Rat}{R:TQ}(S:St tk u h ((k,c)::R))(m:0<h) :
  (h+c<1->St tk u (h+c) R/\St tk k (h+c) R)/\(¬h+c<1->St (tk++[u]) k (h+c - 1) R/\St (tk++[k]) u (h+c - 1) R):=by
 obtain⟨d,b⟩:=S.uR.cons;have i:=d.1;have e:=d.2;have o:=S.h1;simp only at i e;have a:=S.nd;simp only[map_cons]at a;have g:(tk++(u::R.map (·.1))).Nodup:=List.Nodup.sublist (by simp) a;have j:(tk++(k::R.map (·.1))).Nodup:=List.Nodup.sublist (by simp) a;have l:(tk++[u]++(k::R.map (·.1))).Nodup:=by simpa using a
 have f:(tk++[k]++(u::R.map (·.1))).Nodup:=by
  refine(List.Perm.nodup_iff ?_).mp a;rw[append_assoc];exact List.Perm.append_left _ (List.Perm.swap ..)
 exact⟨λz=>⟨⟨by grind,z,b,g⟩,⟨by grind,z,b,j⟩⟩,λz=>⟨⟨by grind,by grind,b,l⟩,⟨by grind,by grind,b,f⟩⟩⟩
theorem bY{u:Int}{h:Rat}{R:TQ}(a:0<h):upl u h R=(u,h)::R:=if_neg (by grind)
theorem eG{u:Int}{R:TQ}:upl u 0 R=R:=if_pos rfl
theorem St.up{tk:List Int}{u k:Int}{h c:Rat}{R:TQ}(S:St tk u h ((k,c)::R)):St tk k c R:=by
 obtain⟨b,e⟩:=S.uR.cons;have f:=b.1;have a:=b.2;simp only at f a;have d:=S.nd;simp only[map_cons]at d;exact⟨by grind,a,e,List.Nodup.sublist (by simp) d⟩
theorem j8{h c:Rat}(z:h+c<1):hb h c=h+c:=if_pos z
theorem qy{h c:Rat}(z:¬h+c<1):hb h c=h+c - 1:=if_neg z
theorem Bx{h c:Rat}{us:Rat×Rat}(z:h+c<1):bg h us c=(us.1*(h/(h+c)),us.2):=by unfold bg;rw[if_pos z]
theorem DN{h c:Rat}{us:Rat×Rat}(z:¬h+c<1):bg h us c=(us.1*((1 - h)/(2 - (h+c))),us.2+us.1*((1 - c)/(2 - (h+c)))):=by unfold bg;rw[if_neg z]
theorem o7{n:Nat}{u p:Int}{h q:Rat}{x:Int×Rat}{R:TQ}(b:0<h)(a:(upl u h (x::R)).length<=n+1):(upl p q R).length<=n:=by
 rw[bY b]at a;simp only[length_cons]at a;exact Nat.le_trans upl_len (by omega)
theorem iw{i j:Int}{c2:Rat}{C:TQ}:∀(B:TQ) (n:Nat) (u:Int) (h:Rat) (tk:List Int),St tk u h (B++(j,c2)::C)->i ∉ (B++(j,c2)::C).map (·.1)->(upl u h (B++(j,c2)::C)).length<=n ->
  EQ (aR i j) n (upl u h (B++(j,c2)::C)) tk=Gf (B.map (·.2)) h (ind (u=i),ind (i∈tk)) c2
 | [],n,u,h,tk,S,hi,hn=>by
  rw[nil_append]at S hi hn ⊢;obtain⟨d,M⟩:=S.uR.cons;have x:=d.1;have D:=d.2;have N:=S.h0;have r:=S.h1;simp only at x D;obtain⟨G,o,F⟩:=S.out;simp only[map_cons,mem_cons,not_or]at hi o;have A:j ∉ tk:=F j (by simp)
  have y:j ∉ C.map (·.1):=by
   have:=nodup_append.mp S.nd;have:=(nodup_cons.mp this.2.1).2;simp only[map_cons]at this;exact(nodup_cons.mp this).1
  have K:∀{q:Rat},vs j ((j,q)::C)=q:=λ{q}=>by rw[eV,mf y,ind_pos rfl];grind
  show _=bk (ind (u=i),ind (i∈tk)) h c2
  by_cases it:i∈tk
  .have v:¬u=i:=λz=>G (by rw[z];exact it)
   rw[BW S.ua hn (upl_nd S.nd) it,iD,K,ind_neg A,ind_pos it,ind_neg v,ind_neg (show ¬u=j from λz=>o.1 z)];unfold bk
   split <;> grind
  .rw[ind_neg it]
   by_cases v:u=i
   .subst v
    rw[ind_pos rfl]
    by_cases hz:h=0
    .subst hz
     rw[eG]at hn ⊢;rw[pw S.uR hn it (by simpa using⟨hi.1,by simpa using hi.2⟩)];unfold bk;rw[if_neg (by grind)]
     grind
    .have a:0<h:=by grind
     match n,hn with
     | 0,hn=>rw[bY a]at hn;simp at hn
     | n+1,hn =>
      have g:∀ p q,(upl p q C).length<=n:=λp q=>o7 a hn
      rw[bY a,fN ⟨a,r⟩ d M];obtain⟨H,E⟩:=S.nx a
      by_cases z:h+c2<1
      .rw[if_pos z]
       obtain⟨l,m⟩:=H z;rw[uC l.ua (g _ _) A (λw=>(upl_mem w).elim (λe=>o.1 e.symm) y),pw m.ua (g _ _) it (λw=>(upl_mem w).elim (λe=>o.1 e) (by simpa using hi.2))];unfold bk;rw[if_neg (by grind)]
       grind
      .rw[if_neg z]
       obtain⟨l,m⟩:=E z;rw[BW l.ua (g _ _) (upl_nd l.nd) (by simp),Bs m.ua (g _ _) (upl_nd m.nd) (by simp),iD,iD,mf y,mf (i:=u) (by simpa using hi.2),ind_pos rfl,ind_pos rfl];have Q:¬j∈tk++[u]:=by simp[A];exact λe=>o.1 e.symm
       have I:¬u∈tk++[j]:=by simp[it];exact λe=>o.1 e
       rw[ind_neg Q,ind_neg I];have s:=(jz ⟨a,r⟩ d).2 z;simp only at s;unfold bk
       split <;> grind
   .rw[ind_neg v,pw S.ua hn it (λw=>(upl_mem w).elim (λe=>v e.symm) (by simpa using hi))]
    unfold bk
    split <;> grind
 | (k,c)::B,n,u,h,tk,S,hi,hn=>by
  rw[cons_append]at S hi hn ⊢;obtain⟨d,J⟩:=S.uR.cons;have x:=d.1;have D:=d.2;have N:=S.h0;have r:=S.h1;simp only at x D;obtain⟨G,o,F⟩:=S.out;have L:=hi;rw[map_cons,mem_cons,not_or]at hi;obtain⟨f,b⟩:=hi;rw[map_cons,kE]
  by_cases hz:h=0
  .subst hz
   have P:=S.up;rw[eG]at hn ⊢;have O:upl k c (B++(j,c2)::C)=(k,c)::(B++(j,c2)::C):=bY x;rw[<- O]at hn ⊢;rw[iw B n k c tk P b hn,j8 (show(0:Rat)+c<1 by grind),Bx (show(0:Rat)+c<1 by grind),ind_neg (show ¬k=i from λz=>f z.symm)]
   congr 1
   .grind
   .refine Prod.ext ?_ rfl
    simp only
    grind
  .have a:0<h:=by grind
   match n,hn with
   | 0,hn=>rw[bY a]at hn;simp at hn
   | n+1,hn =>
    have g:∀ p q,(upl p q (B++(j,c2)::C)).length<=n:=λp q=>o7 a hn
    rw[bY a,fN ⟨a,r⟩ d J];obtain⟨H,E⟩:=S.nx a
    by_cases z:h+c<1
    .obtain⟨l,m⟩:=H z
     rw[if_pos z,iw B n u _ tk l b (g _ _),iw B n k _ tk m b (g _ _),<- lq,j8 z,Bx z,ind_neg (show ¬k=i from λz=>f z.symm)];have s:=(jz ⟨a,r⟩ d).1 z;simp only at s
     congr 1
     refine Prod.ext ?_ ?_ <;> simp only <;> grind
    .obtain⟨l,m⟩:=E z
     rw[if_neg z,iw B n k _ _ l b (g _ _),iw B n u _ _ m b (g _ _),<- lq,qy z,DN z,ind_neg (show ¬k=i from λz=>f z.symm),eN G,eN (F k (by simp)),ind_neg (show ¬k=i from λz=>f z.symm)];have s:=(jz ⟨a,r⟩ d).2 z;simp only at s
     congr 1
     refine Prod.ext ?_ ?_ <;> simp only <;> grind
theorem tN{h c:Rat}(z:h+c<1):us0 h c=(c/(h+c),0):=by unfold us0;rw[if_pos z]
theorem Ac{h c:Rat}(z:¬h+c<1):us0 h c=((1 - c)/(2 - (h+c)),(1 - h)/(2 - (h+c))):=by unfold us0;rw[if_neg z]
theorem gH{i j:Int}{c1 c2:Rat}{B C:TQ}:∀(A:TQ) (n:Nat) (u:Int) (h:Rat) (tk:List Int),St tk u h (A++(i,c1)::(B++(j,c2)::C))->(upl u h (A++(i,c1)::(B++(j,c2)::C))).length<=n ->
  EQ (aR i j) n (upl u h (A++(i,c1)::(B++(j,c2)::C))) tk=Gf (B.map (·.2)) (hb ((A.map (·.2)).foldl hb h) c1) (us0 ((A.map (·.2)).foldl hb h) c1) c2
 | [],n,u,h,tk,S,hn=>by
  rw[nil_append]at S hn ⊢;obtain⟨d,s⟩:=S.uR.cons;have m:=d.1;have x:=d.2;have G:=S.h0;have l:=S.h1;simp only at m x;obtain⟨I,F,H⟩:=S.out;have o:i ∉ tk:=H i (by simp)
  have b:i ∉ (B++(j,c2)::C).map (·.1):=by
   have:=nodup_append.mp S.nd;have:=(nodup_cons.mp this.2.1).2;rw[map_cons]at this;exact(nodup_cons.mp this).1
  have E:¬u=i:=λz=>F (by rw[z];simp)
  show _=Gf (B.map (·.2)) (hb h c1) (us0 h c1) c2
  by_cases hz:h=0
  .subst hz
   have w:=S.up;rw[eG]at hn ⊢;have v:upl i c1 (B++(j,c2)::C)=(i,c1)::(B++(j,c2)::C):=bY m;rw[<- v]at hn ⊢;rw[iw B n i c1 tk w b hn,j8 (show(0:Rat)+c1<1 by grind),tN (show(0:Rat)+c1<1 by grind),ind_pos rfl,ind_neg o]
   congr 1
   .grind
   .refine Prod.ext ?_ rfl
    simp only
    grind
  .have a:0<h:=by grind
   match n,hn with
   | 0,hn=>rw[bY a]at hn;simp at hn
   | n+1,hn =>
    have e:∀ p q,(upl p q (B++(j,c2)::C)).length<=n:=λp q=>o7 a hn
    rw[bY a,fN ⟨a,l⟩ d s];obtain⟨D,y⟩:=S.nx a
    by_cases z:h+c1<1
    .obtain⟨f,g⟩:=D z
     rw[if_pos z,iw B n u _ tk f b (e _ _),iw B n i _ tk g b (e _ _),<- lq,j8 z,tN z,ind_neg E,ind_pos rfl,ind_neg o]
     congr 1
     refine Prod.ext ?_ ?_ <;> simp only <;> grind
    .obtain⟨f,g⟩:=y z
     rw[if_neg z,iw B n i _ _ f b (e _ _),iw B n u _ _ g b (e _ _),<- lq,qy z,Ac z,eN I,eN o,ind_pos rfl,ind_neg E,ind_neg o]
     congr 1
     refine Prod.ext ?_ ?_ <;> simp only <;> grind
 | (k,c)::A,n,u,h,tk,S,hn=>by
  rw[cons_append]at S hn ⊢;obtain⟨d,s⟩:=S.uR.cons;have m:=d.1;have x:=d.2;have G:=S.h0;have l:=S.h1;simp only at m x;rw[map_cons,foldl_cons]
  by_cases hz:h=0
  .subst hz
   have w:=S.up;rw[eG]at hn ⊢;have v:upl k c (A++(i,c1)::(B++(j,c2)::C))=(k,c)::(A++(i,c1)::(B++(j,c2)::C)):=bY m;rw[<- v]at hn ⊢;rw[gH A n k c tk w hn,j8 (show(0:Rat)+c<1 by grind),show(0:Rat)+c=c by grind]
  .have a:0<h:=by grind
   match n,hn with
   | 0,hn=>rw[bY a]at hn;simp at hn
   | n+1,hn =>
    have e:∀ p q,(upl p q (A++(i,c1)::(B++(j,c2)::C))).length<=n:=λp q=>o7 a hn
    rw[bY a,fN ⟨a,l⟩ d s];obtain⟨D,y⟩:=S.nx a
    by_cases z:h+c<1
    .obtain⟨f,g⟩:=D z
     have r:=(jz ⟨a,l⟩ d).1 z;simp only at r;rw[if_pos z,gH A n u _ tk f (e _ _),gH A n k _ tk g (e _ _),j8 z]
     grind
    .obtain⟨f,g⟩:=y z
     have r:=(jz ⟨a,l⟩ d).2 z;simp only at r;rw[if_neg z,gH A n k _ _ f (e _ _),gH A n u _ _ g (e _ _),qy z]
     grind
end Du
namespace Du
def SQ(tq:TQ):Rat:=(tq.map (·.2)).sum
theorem gK{x:Int×Rat}{r:TQ}:SQ (x::r)=x.2+SQ r:=by unfold SQ;rw[map_cons,sum_cons]
theorem wr{p:Int}{h:Rat}{r:TQ}:SQ (upl p h r)=h+SQ r:=by
 unfold upl
 split
 .rename_i e;rw[e];grind
 .rw[gK]
def szq(tq:TQ)(tk:List Int):Rat:=(tk.length:Rat)+SQ tq
theorem pP{tk:List Int}{p:Int}:(((tk++[p]).length:Nat):Rat)=(tk.length:Rat)+1:=by
 rw[length_append,List.length_singleton];push_cast;rfl
structure Szs(s:Rat)(ws:List (List Int×Rat)):Prop where
 all:∀ w∈ws,s<(w.1.length:Rat)+1/\(w.1.length:Rat)<s+1
 lo:∃ w∈ws,(w.1.length:Rat)<=s
 hi:∃ w∈ws,s<=(w.1.length:Rat)
theorem Szs.app{s:Rat}{a b:List (List Int×Rat)}(h:Szs s a)(h':Szs s b):Szs s (a++b):=by
 refine⟨λw c=>(mem_append.mp c).elim (h.all w) (h'.all w),?_,?_⟩
 .obtain⟨w,c,e⟩:=h.lo;exact⟨w,mem_append_left _ c,e⟩
 .obtain⟨w,c,e⟩:=h.hi;exact⟨w,mem_append_left _ c,e⟩
theorem wQ_nil{n:Nat}{tk:List Int}{m:Rat}:wQ n [] tk m=[(tk,m)]:=by cases n <;> rfl
theorem wQ_last{n:Nat}{p:Int}{h:Rat}{tk:List Int}{m:Rat}:wQ (n+1) [(p,h)] tk m=[(tk++[p],m*h),(tk,m*(1 - h))]:=by
 rw[wQ];show wQ n [] (if true=true then tk++[p] else tk) (m*h)++wQ n [] (if false=true then tk++[p] else tk) (m*(1 - h))=_;rw[wQ_nil,wQ_nil,if_pos rfl,if_neg Bool.false_ne_true];rfl
theorem wQ_step{n:Nat}{u k:Int}{h c:Rat}{R:TQ}{tk:List Int}{m:Rat}(a:Uns h)(b:Uns c)(d:UnsA R) :
  wQ (n+1) ((u,h)::(k,c)::R) tk m=if h+c<1 then wQ n (upl u (h+c) R) tk (m*(h/(h+c)))++wQ n (upl k (h+c) R) tk (m*(c/(h+c)))
   else wQ n (upl k (h+c - 1) R) (tk++[u]) (m*((1 - c)/(2 - (h+c))))++wQ n (upl u (h+c - 1) R) (tk++[k]) (m*((1 - h)/(2 - (h+c)))):=by
 rw[wQ,C7 a b d,Dg a b d]
 by_cases z:h+c<1
 .simp only[if_pos z,pr1,pr2]
 .simp only[if_neg z,pr1,pr2]
theorem w_sizes:∀(n:Nat) (tq:TQ) (tk:List Int) (m:Rat),UnsA tq->tq.length<=n->Szs (szq tq tk) (wQ n tq tk m)
 | n,[],tk,m,_,_=>by
  rw[wQ_nil];have e:szq [] tk=(tk.length:Rat):=by unfold szq;show _+0=_;grind
  rw[e];refine⟨λw i=>?_,⟨_,mem_singleton.mpr rfl,?_⟩,⟨_,mem_singleton.mpr rfl,?_⟩⟩
  .cases mem_singleton.mp i;exact⟨by grind,by grind⟩
  .grind
  .grind
 | 0,_::_,_,_,_,hn=>by rw[length_cons]at hn;omega
 | n+1,[(p,h)],tk,m,u,_=>by
  rw[wQ_last];obtain⟨a,b⟩:=u.cons.1;simp only at a b;have e:szq [(p,h)] tk=(tk.length:Rat)+h:=by unfold szq;rw[gK];show _+(h+0)=_;grind
  have l:=pP (tk:=tk) (p:=p);rw[e];refine⟨λw i=>?_,⟨(tk,m*(1 - h)),by simp,?_⟩,⟨(tk++[p],m*h),by simp,?_⟩⟩
  .simp only[mem_cons,not_mem_nil,or_false]at i
   rcases i with rfl | rfl
   .simp only[l];exact⟨by grind,by grind⟩
   .simp only;exact⟨by grind,by grind⟩
  .simp only;grind
  .simp only[l];grind
 | n+1,(u,h)::(k,c)::R,tk,m,uu,hn=>by
  obtain⟨j,y⟩:=uu.cons;obtain⟨o,r⟩:=y.cons;have A:=j.1;have C:=j.2;have B:=o.1;have x:=o.2;simp only at A C B x;have s:∀ p q,(upl p q R).length<=n:=λp q=>Nat.le_trans upl_len (by simp only[length_cons]at hn;omega)
  rw[wQ_step j o r];have v:szq ((u,h)::(k,c)::R) tk=(tk.length:Rat)+(h+(c+SQ R)):=by unfold szq;rw[gK,gK]
  by_cases z:h+c<1
  .rw[if_pos z]
   have g:=λ(p:Int) (m':Rat)=>w_sizes n (upl p (h+c) R) tk m' (UnsA.upl (by grind) z r) (s _ _)
   have e:∀ p,szq (upl p (h+c) R) tk=szq ((u,h)::(k,c)::R) tk:=λp=>by rw[v];unfold szq;rw[wr];grind
   have f:=g u (m*(h/(h+c)));rw[e]at f;have d:=g k (m*(c/(h+c)));rw[e]at d;exact f.app d
  .rw[if_neg z]
   have g:=λ(p q:Int) (m':Rat)=>w_sizes n (upl p (h+c - 1) R) (tk++[q]) m' (UnsA.upl (by grind) (by grind) r) (s _ _)
   have e:∀ p q,szq (upl p (h+c - 1) R) (tk++[q])=szq ((u,h)::(k,c)::R) tk:=λp q=>by rw[v];unfold szq;rw[wr,pP];grind
   have f:=g k u (m*((1 - c)/(2 - (h+c))));rw[e]at f;have d:=g u k (m*((1 - h)/(2 - (h+c))));rw[e]at d;exact f.app d
theorem CZ{B:Nat}{h c:Rat}(H:Bq B h)(C:Bq B c)(a:Uns h)(b:Uns c):(h+c<1->Bq B (h+c))/\(¬h+c<1->Bq B (h+c - 1)):=by
 have:=ym H C a.2 b.2;exact⟨λz=>by rw[j8 z]at this;exact this,λz=>by rw[qy z]at this;exact this⟩
def chs(tq:TQ):List Rat:=tq.map (·.2)
theorem w_den{B:Nat}(v:0<B):∀(n:Nat) (cs:List Rat),cs.length<=n->(∀ c∈cs,Bq B c/\Uns c)->∃ D:Nat,0<D/\D<=(2*B) ^ n/\∀(tq:TQ) (tk:List Int) (m:Rat) (E:Nat),chs tq=cs->Bq E m->∀ w∈wQ n tq tk m,Bq (E*D) w.2
 | n,[],_,_=>⟨1,by decide,Nat.pow_pos (by omega),λtq tk m E e a w hw=>by
  have:tq=[]:=by cases tq with | nil=>rfl | cons x r=>cases e
  subst this;rw[wQ_nil]at hw;cases mem_singleton.mp hw
  rw[Nat.mul_one];exact a⟩
 | 0,_::_,hn,_=>by rw[length_cons]at hn;omega
 | n+1,[h],_,hc=>by
  obtain⟨H,f⟩:=hc h (by simp);refine⟨B,v,?_,λtq tk m E e a w hw=>?_⟩
  .calc B<=2*B:=by omega
    _=(2*B) ^ 1:=by rw[Nat.pow_one]
    _<=(2*B) ^ (n+1):=Nat.pow_le_pow_right (by omega) (by omega)
  .match tq,e with
   | [(p,q)],e =>
    have L:q=h:=by cases e;rfl
    subst L;rw[wQ_last]at hw;simp only[mem_cons,not_mem_nil,or_false]at hw
    rcases hw with rfl | rfl
    .exact a.mul H
    .exact a.mul (tM H)
 | n+1,h::c::cs,hn,hc=>by
  obtain⟨H,f⟩:=hc h (by simp);obtain⟨C,i⟩:=hc c (by simp);have O:=f.1;have F:=f.2;have I:=i.1;have G:=i.2;obtain⟨T,S,X,K,W⟩:=pU v H C F I G;have s:∀ x∈cs,Bq B x/\Uns x:=λx b=>hc x (by simp[b])
  have J:=CZ H C f i
  let q:Rat:=hb h c
  have g:(h+c<1->q=h+c)/\(¬h+c<1->q=h+c - 1):=⟨λz=>j8 z,λz=>qy z⟩
  have A:=Be (Rat.le_of_lt O) F I G
  have y:Bq B q:=by
   by_cases z:h+c<1
   .rw[g.1 z];exact J.1 z
   .rw[g.2 z];exact J.2 z
  obtain⟨D,M,P,l⟩:=w_den v n (if q=0 then cs else q::cs) (by
   simp only[length_cons]at hn
   split
   .omega
   .rw[length_cons];omega) (λx b=>by
   split at b
   .exact s x b
   .rename_i nz
    rcases mem_cons.mp b with e | e
    .rw[e];exact⟨y,by have:=A.1;grind,A.2⟩
    .exact s x e)
  refine⟨T*D,Nat.mul_pos S M,?_,λtq tk m E e a w hw=>?_⟩
  .rw[Nat.pow_succ,Nat.mul_comm]
   exact Nat.mul_le_mul P X
  .match tq,e with
   | (u,h')::(k,c')::R,e =>
    have N:h'=h:=by unfold chs at e;simp only[map_cons,List.cons.injEq]at e;exact e.1
    have Y:c'=c:=by unfold chs at e;simp only[map_cons,List.cons.injEq]at e;exact e.2.1
    have j:chs R=cs:=by unfold chs at e ⊢;simp only[map_cons,List.cons.injEq]at e;exact e.2.2
    subst N Y;have Q:UnsA R:=λx b=>(s x.2 (by rw[<- j];exact mem_map.mpr ⟨x,b,rfl⟩)).2
    rw[wQ_step f i Q]at hw
    have o:∀ p,chs (upl p q R)=if q=0 then cs else q::cs:=λp=>by
     unfold upl
     split
     .exact j
     .unfold chs at j ⊢;rw[map_cons,j]
    rw[<- Nat.mul_assoc]
    by_cases z:h'+c'<1
    .rw[if_pos z,<- g.1 z]at hw
     have d:=K z;rw[<- g.1 z]at d
     rcases mem_append.mp hw with hw | hw
     .exact l _ _ _ _ (o _) (a.mul d.1) w hw
     .exact l _ _ _ _ (o _) (a.mul d.2) w hw
    .rw[if_neg z,<- g.2 z]at hw
     have d:=W z
     rcases mem_append.mp hw with hw | hw
     .exact l _ _ _ _ (o _) (a.mul d.1) w hw
     .exact l _ _ _ _ (o _) (a.mul d.2) w hw
theorem SW_tot:∀(n:Nat) (tq:TQ) (tk:List Int),UnsA tq->tq.length<=n->EQ (λ_=>1) n tq tk=1
 | n,[],tk,_,_=>by rw[mW]
 | 0,_::_,_,_,hn=>by rw[length_cons]at hn;omega
 | n+1,[(p,h)],tk,_,_=>by rw[oQ];grind
 | n+1,(u,h)::(k,c)::R,tk,uu,hn=>by
  obtain⟨d,i⟩:=uu.cons;obtain⟨e,a⟩:=i.cons;have j:=d.1;have m:=d.2;have l:=e.1;have g:=e.2;simp only at j m l g;have b:∀ p q,(upl p q R).length<=n:=λp q=>Nat.le_trans upl_len (by simp only[length_cons]at hn;omega)
  rw[fN d e a];have f:=jz d e
  by_cases z:h+c<1
  .rw[if_pos z,SW_tot n _ _ (UnsA.upl (by grind) z a) (b _ _),SW_tot n _ _ (UnsA.upl (by grind) z a) (b _ _)]
   have:=f.1 z;simp only at this
   grind
  .rw[if_neg z,SW_tot n _ _ (UnsA.upl (by grind) (by grind) a) (b _ _),SW_tot n _ _ (UnsA.upl (by grind) (by grind) a) (b _ _)]
   have:=f.2 z;simp only at this
   grind
def tq0(qs:List Rat)(ord:List Nat):TQ:=ord.map λ(o:Nat)=>((o:Int),qs.getD o 0)
end Du
namespace Du
def ND(tq:TQ):Prop:=(tq.map (·.1)).Nodup
theorem pc:∀{tq:TQ}{i:Int}{q q':Rat},ND tq->(i,q)∈tq->(i,q')∈tq->q=q'
 | x::r,i,q,q',nd,h,h'=>by
  have n:=nodup_cons.mp nd
  rcases mem_cons.mp h with e | e <;> rcases mem_cons.mp h' with f | f
  .rw[<- e]at f;cases f;rfl
  .exact absurd (mem_map.mpr ⟨_,f,rfl⟩) (by rw[show i=x.1 by rw[<- e]];exact n.1)
  .exact absurd (mem_map.mpr ⟨_,e,rfl⟩) (by rw[show i=x.1 by rw[<- f]];exact n.1)
  .exact pc n.2 e f
theorem tH{tq:TQ}{p:Int×Rat->Bool}{i:Int}{q:Rat}(c:ND tq)(h:(i,q)∈tq):i∈(tq.filter p).map (·.1)↔p (i,q)=true:=by
 constructor
 .intro z
  obtain⟨⟨g,f⟩,b,e⟩:=mem_map.mp z;cases e;obtain⟨d,a⟩:=mem_filter.mp b;rw[pc c h d];exact a
 .intro z
  exact mem_map.mpr ⟨_,mem_filter.mpr ⟨h,z⟩,rfl⟩
theorem A0:∀{tq:TQ}{i:Int}{q:Rat},ND tq->(i,q)∈tq->vs i tq=q
 | x::r,i,q,nd,h=>by
  have n:=nodup_cons.mp nd;rw[eV]
  rcases mem_cons.mp h with e | e
  .rw[<- e]at n ⊢
   rw[mf n.1,ind_pos rfl];grind
  .rw[A0 n.2 e,ind_neg (λz=>n.1 (by show x.1∈_;rw[z];exact mem_map.mpr ⟨_,e,rfl⟩))];grind
theorem ND.filter{tq:TQ}{p:Int×Rat->Bool}(a:ND tq):ND (tq.filter p):=List.Nodup.sublist ((filter_sublist).map _) a
theorem oC{tq:TQ}{i:Int}{q:Rat}(a:ND tq)(h:(i,q)∈tq):i∈(settQ tq []).2↔q=1:=by
 show i∈[]++(tq.filter λx=>decide (x.2=1)).map (·.1)↔_;rw[nil_append,tH a h];exact decide_eq_true_iff
theorem Da{tq:TQ}{i:Int}{q:Rat}(c:ND tq)(h:(i,q)∈tq)(d:In1 q):ind (i∈(settQ tq []).2)+vs i (settQ tq []).1=q:=by
 have e:(settQ tq []).1=tq.filter λx=>dz x.2:=rfl
 rw[e];obtain⟨a,b⟩:=d
 by_cases u:Uns q
 .rw[A0 c.filter (mem_filter.mpr ⟨h,unsQ_iff.mpr u⟩),ind_neg (λz=>by
   have:=(oC c h).mp z;have:=u.2
   grind)]
  grind
 .rw[mf (λz=>u (unsQ_iff.mp ((tH c h).mp z)))]
  by_cases o:q=1
  .rw[ind_pos ((oC c h).mpr o),o];grind
  .rw[ind_neg (λz=>o ((oC c h).mp z))]
   have:q=0:=by
    by_cases z:0<q
    .exact absurd ⟨z,by grind⟩ u
    .grind
   rw[this];grind
theorem sett_nd{tq:TQ}(c:ND tq):((settQ tq []).2++(settQ tq []).1.map (·.1)).Nodup:=by
 show(([]:List Int)++(tq.filter λ(x:Int×Rat)=>decide (x.2=1)).map (·.1)++(tq.filter λ(x:Int×Rat)=>dz x.2).map (·.1)).Nodup;rw[nil_append];refine nodup_append.mpr ⟨c.filter,c.filter,λa p b g e=>?_⟩;subst e;obtain⟨⟨_,q⟩,i,rfl⟩:=mem_map.mp p;obtain⟨⟨_,r⟩,d,f⟩:=mem_map.mp g;obtain⟨m,h⟩:=mem_filter.mp i;obtain⟨l,j⟩:=mem_filter.mp d;simp only at f;subst f;have e:=pc c m l;have o:=of_decide_eq_true h;have u:=unsQ_iff.mp j;have:=u.2;simp only at o this
 grind
theorem sett_u{tq:TQ}{tk:List Int}:UnsA (settQ tq tk).1:=λx a=>unsQ_iff.mp (mem_filter.mp a).2
theorem sz_sett:∀{tq:TQ},(∀ x∈tq,In1 x.2)->SQ (tq.filter λx=>dz x.2)+((tq.filter λx=>decide (x.2=1)).length:Rat)=SQ tq
 | [],_=>by show(0:Rat)+0=0;grind
 | x::r,h=>by
  have e:=sz_sett (tq:=r) λy d=>h y (mem_cons_of_mem _ d)
  obtain⟨a,b⟩:=h x (mem_cons_self ..);rw[filter_cons,filter_cons,gK]
  by_cases o:x.2=1
  .have c:dz x.2=false:=uY λz=>by have:=z.2;grind
   rw[c,if_neg Bool.false_ne_true,if_pos (decide_eq_true o),length_cons]
   push_cast
   grind
  .rw[if_neg (show ¬decide (x.2=1)=true by simpa using o)]
   by_cases u:Uns x.2
   .rw[if_pos (unsQ_iff.mpr u),gK];grind
   .rw[uY u,if_neg Bool.false_ne_true]
    have:x.2=0:=by
     by_cases z:0<x.2
     .exact absurd ⟨z,by grind⟩ u
     .grind
    rw[this];grind
theorem vV{a:Type}{L:List a}{x y:a}(f:x∈L)(c:y∈L)(d:x≠y):∃ A B C,L=A++x::(B++y::C)\/L=A++y::(B++x::C):=by
 obtain⟨s,t,rfl⟩:=append_of_mem f
 rcases mem_append.mp c with z | z
 .obtain⟨h,i,rfl⟩:=append_of_mem z
  exact⟨h,i,t,.inr (by simp)⟩
 .rcases mem_cons.mp z with e | z
  .exact absurd e.symm d
  .obtain⟨g,b,rfl⟩:=append_of_mem z
   exact⟨s,g,b,.inl rfl⟩
def cst(z:Nat×Rat):Int×Rat:=((z.1:Int),z.2)
def entQ(qs:List Rat)(f:Fn)(i j:Nat):Rat:=if i=j then qs.getD i 0 else (f i j).getD (qs.getD i 0*qs.getD j 0)
def w9(qs:List Rat)(ord:List Nat):List (Nat×Rat):=ord.map λo=>(o,qs.getD o 0)
def unsO(qs:List Rat)(ord:List Nat):List (Nat×Rat):=(w9 qs ord).filter λz=>dz z.2
theorem zu{qs:List Rat}{a:List Nat}:tq0 qs a=(w9 qs a).map cst:=by unfold tq0 w9;rw[map_map];rfl
theorem qu{qs:List Rat}{a:List Nat}:(settQ (tq0 qs a) []).1=(unsO qs a).map cst:=by
 show(tq0 qs a).filter (λx=>dz x.2)=_;rw[zu,List.filter_map];rfl
theorem ut{L:List (Nat×Rat)}:(L.map cst).map (·.2)=L.map (·.2):=by rw[map_map];rfl
theorem AE{L:List (Nat×Rat)}:(L.map cst).map (·.1)=(L.map (·.1)).map (λ(n:Nat)=>(n:Int)):=by rw[map_map,map_map];rfl
theorem kP{qs:List Rat}{a:List Nat}{i:Nat}(h:i∈a):((i:Int),qs.getD i 0)∈tq0 qs a:=mem_map.mpr ⟨i,h,rfl⟩
theorem yO{qs:List Rat}{c:List Nat}(d:c.Nodup):ND (tq0 qs c):=by
 unfold ND tq0;rw[map_map];exact List.Pairwise.map _ (λa b (h:a≠b) (z:(a:Int)=(b:Int))=>h (by omega)) d
theorem kU{qs:List Rat}{c:List Nat}{i j:Nat}{N:Nat}{A B C:List (Nat×Rat)}{c1 c2:Rat}(p:c.Nodup)(h:unsO qs c=A++(i,c1)::(B++(j,c2)::C))(w:(settQ (tq0 qs c) []).1.length<=N) :
  some (EQ (aR i j) N (settQ (tq0 qs c) []).1 (settQ (tq0 qs c) []).2)=keptF (unsO qs c) i j:=by
 have u:=sett_u (tq:=tq0 qs c) (tk:=[]);have v:=sett_nd (yO (qs:=qs) p);have s:(settQ (tq0 qs c) []).1=A.map cst++((i:Int),c1)::(B.map cst++((j:Int),c2)::C.map cst):=by rw[qu,h];simp[cst]
 have m:∀ x∈(settQ (tq0 qs c) []).2,(0:Int)<=x:=λx d=>by
  have d:x∈[]++((tq0 qs c).filter λx=>decide (x.2=1)).map (·.1):=d;rw[nil_append]at d;obtain⟨y,r,rfl⟩:=mem_map.mp d;obtain⟨o,_,rfl⟩:=mem_map.mp (mem_filter.mp r).1;exact Int.natCast_nonneg _
 have g:∀ x∈(settQ (tq0 qs c) []).1.map (·.1),(0:Int)<=x:=λx d=>by
  rw[qu,AE]at d;obtain⟨o,_,rfl⟩:=mem_map.mp d;exact Int.natCast_nonneg _
 generalize (settQ (tq0 qs c) []).2=tk at *;generalize (settQ (tq0 qs c) []).1=tq at *
 have S:St tk (-1) 0 tq:=⟨by grind,by grind,u,by
  have l:=nodup_append.mp v;refine nodup_append.mpr ⟨l.1,nodup_cons.mpr ⟨λz=>by have:=g _ z;omega,l.2.1⟩,λa ha b hb e=>?_⟩
  rcases mem_cons.mp hb with z | z
  .have:=m a ha;omega
  .exact l.2.2 a ha b z e⟩
 subst s;have f:=gH (i:=(i:Int)) (j:=(j:Int)) (c1:=c1) (c2:=c2) (B:=B.map cst) (C:=C.map cst) (A.map cst) N (-1) 0 tk S (by rw[eG];exact w);rw[eG,ut,ut]at f;rw[f,h,yF (by rw[<- h];exact List.Nodup.sublist ((filter_sublist).map _) (by unfold w9;rw[map_map];simpa[Function.comp_def] using p))];rfl
theorem yT{i j:Int}:aR i j=aR j i:=by
 funext tk
 unfold aR ind
 by_cases h:i∈tk/\j∈tk
 .rw[if_pos h,if_pos ⟨h.2,h.1⟩]
 .rw[if_neg h,if_neg (λz=>h ⟨z.2,z.1⟩)]
theorem yJ{i:Int}:aR i i=aI i:=by
 funext tk
 unfold aR aI ind
 by_cases h:i∈tk
 .rw[if_pos ⟨h,h⟩,if_pos h]
 .rw[if_neg (λz=>h z.1),if_neg h]
theorem E_all{qs:List Rat}{c:List Nat}{i j:Nat}{N:Nat}(D:c.Nodup)(hi:i∈c)(m:j∈c)(J:∀ q∈qs,In1 q)(l:(settQ (tq0 qs c) []).1.length<=N) :
  EQ (aR i j) N (settQ (tq0 qs c) []).1 (settQ (tq0 qs c) []).2=entQ qs (keptF (unsO qs c)) i j:=by
 have g:∀ o:Nat,In1 (qs.getD o 0):=λo=>by
  rw[List.getD_eq_getElem?_getD];cases e:qs[o]? with
  | none=>exact⟨by show(0:Rat)<=0;grind,by show(0:Rat)<=1;grind⟩
  | some q=>exact J q (List.mem_of_getElem? e)
 have u:=sett_u (tq:=tq0 qs c) (tk:=[]);have r:=yO (qs:=qs) D;have E:=sett_nd r;have F:=Da r (kP (qs:=qs) hi) (g i);have I:=Da r (kP (qs:=qs) m) (g j);unfold entQ
 by_cases e:i=j
 .subst e
  rw[if_pos rfl,yJ,uD _ N _ _ u l E];exact F
 .rw[if_neg e]
  have f:∀ o:Nat,o∈c->((o:Int)∈(settQ (tq0 qs c) []).2↔qs.getD o 0=1):=λo p=>by
   exact oC r (kP p)
  have v:∀ o:Nat,o∈c->((o:Int)∈(settQ (tq0 qs c) []).1.map (·.1)↔Uns (qs.getD o 0)):=λo p=>by
   show(o:Int)∈((tq0 qs c).filter λx=>dz x.2).map (·.1)↔_;rw[tH r (kP p)];exact unsQ_iff
  have s:∀ o:Nat,o∈c->Uns (qs.getD o 0)->(o,qs.getD o 0)∈unsO qs c:=λo p z=>mem_filter.mpr ⟨mem_map.mpr ⟨o,p,rfl⟩,unsQ_iff.mpr z⟩
  have H:∀ o:Nat,¬Uns (qs.getD o 0)->o ∉ (unsO qs c).map (·.1):=λo z w=>by
   obtain⟨⟨a,b⟩,L,rfl⟩:=mem_map.mp w;obtain⟨K,O⟩:=mem_filter.mp L;obtain⟨P,_,M⟩:=mem_map.mp K;cases M;exact z (unsQ_iff.mp O)
  have G:∀ o:Nat,Uns (qs.getD o 0)\/qs.getD o 0=1\/qs.getD o 0=0:=λo=>by
   obtain⟨a,b⟩:=g o
   by_cases z:Uns (qs.getD o 0)
   .exact .inl z
   .by_cases w:qs.getD o 0=1
    .exact .inr (.inl w)
    .refine .inr (.inr ?_)
     by_cases y:0<qs.getD o 0
     .exact absurd ⟨y,by grind⟩ z
     .grind
  have d:∀ q:Rat,q=1\/q=0->¬Uns q:=λq h z=>by have:=z.1;have:=z.2;rcases h with h | h <;> grind
  rcases G i with ui | ui
  .rcases G j with uj | uj
   .obtain⟨A,B,C,h | h⟩:=vV (s i hi ui) (s j m uj) (λz=>e (by cases z;rfl))
    .have:=kU (N:=N) D h l
     rw[<- this];rfl
    .have:=kU (N:=N) D h l
     rw[yT,wW,<- this];rfl
   .rw[lW (λz=>H j (d _ uj) z.2)]
    show _=qs.getD i 0*qs.getD j 0
    rcases uj with uj | uj
    .rw[Bs u l E ((f j m).mpr uj),F,uj];grind
    .rw[uC u l (λz=>by have:=(f j m).mp z;grind) (λz=>d _ (.inr uj) ((v j m).mp z)),uj];grind
  .rw[lW (λz=>H i (d _ ui) z.1)]
   show _=qs.getD i 0*qs.getD j 0
   rcases ui with ui | ui
   .rw[BW u l E ((f i hi).mpr ui),I,ui];grind
   .rw[pw u l (λz=>by have:=(f i hi).mp z;grind) (λz=>d _ (.inr ui) ((v i hi).mp z)),ui];grind
end Du
namespace Du
open FrM
theorem den_mul(q:Rat):q*(q.den:Rat)=(q.num:Rat):=by
 have h:(q.num:Rat)/(q.den:Rat)=q:=by have:=Rat.num_divInt_den q;rw[Rat.divInt_eq_div]at this;exact this
 have a:(q.den:Rat)≠0:=by exact_mod_cast q.den_nz
 generalize (q.den:Rat)=d at *;generalize (q.num:Rat)=n at *
 grind
end Du
namespace Tb
open FrM Du
def mp(f:Int->Int)(W:Rws):Rws:=W.map λw=>(w.1.map f,w.2)
def wF:List Int->Nat->List Int->Rat->Rws
 | [],_,t,q=>[(t,q)]
 | x::r,w,t,q=>if w=0 then [(t,q)] else if r.length+1<=w then [(t++x::r,q)] else wF r (w - 1) (t++[x]) (q*(((w:Int):Rat)/(((w:Int)+((r.length:Int)+1 - (w:Int)):Int):Rat)))++wF r w t (q*((((r.length:Int)+1 - (w:Int):Int):Rat)/(((w:Int)+((r.length:Int)+1 - (w:Int)):Int):Rat)))
theorem EL(a b:Int)(t u:Tr):tot [(a,t),(b,u)]=a+b:=by unfold tot;simp
theorem wf2(a b:Int)(t u:Tr)(q:Rat):wf (.die [(a,t),(b,u)]) q=wf t (q*((a:Rat)/((a+b:Int):Rat)))++wf u (q*((b:Rat)/((a+b:Int):Rat))):=by
 rw[wf,EL,wfs,wfs,wfs,append_nil]
def wS(ps:List Int)(st:Nat):Rws:=(List.range st).map λf=>(every ps f st,1*(((1:Int):Rat)/((st:Int):Rat)))
abbrev TL:=List (Int×(Int×Int))
def Un(tl:TL):Prop:=∀ x∈tl,0<x.2.1/\x.2.1<x.2.2
def pq(c:Int×Int):Rat:=(c.1:Rat)/(c.2:Rat)
theorem Un.tl{x:Int×(Int×Int)}{r:TL}(h:Un (x::r)):Un r:=λy a=>h y (mem_cons_of_mem _ a)
theorem u7{c:Int×Int}(h:0<c.2):((c.2 - c.1:Int):Rat)/(c.2:Rat)=1 - pq c:=by
 unfold pq;have:(c.2:Rat)≠0:=by intro z;have:c.2=0:=(by exact_mod_cast z);lia
 push_cast
 grind
theorem wf_lT{p:Int}{c:Int×Int}{r:TL}{t:List Int}{q:Rat}(h:0<c.2):wf (lT ((p,c)::r) t) q=wf (lT r (t++[p])) (q*pq c)++wf (lT r t) (q*(1 - pq c)):=by
 rw[lT,wf2,show c.1+(c.2 - c.1)=c.2 by lia,u7 h];rfl
theorem pG(φ:List Int->Rat)(A B:Rws):SW φ (A++B)=SW φ A+SW φ B:=by unfold SW;rw[map_append,sum_append]
def prl:TL->Int->Rat
 | [],_=>0
 | (p,c)::r,i=>if i=p then pq c else prl r i
def pr(tl:TL)(t:List Int)(i:Int):Rat:=if i∈t then 1 else prl tl i
theorem oJ:∀{tl:TL}{i:Int},i ∉ tl.map (·.1)->prl tl i=0
 | [],_,_=>rfl
 | (p,c)::r,i,h=>by
  rw[map_cons,mem_cons,not_or]at h;rw[prl,if_neg h.1,oJ h.2]
theorem lT_one:∀(tl:TL) (t:List Int) (q:Rat),Un tl->SW (λ_=>1) (wf (lT tl t) q)=q
 | [],t,q,_=>by rw[lT,wf];show q*1+0=q;grind
 | (p,c)::r,t,q,h=>by
  have a:=h (p,c) mem_cons_self;have b:0<c.2:=by have:=a.1;have:=a.2;lia
  rw[wf_lT b,pG,lT_one r _ _ h.tl,lT_one r _ _ h.tl]
  grind
def two(tl:TL)(t:List Int)(i j:Int):Rat:=if i=j then pr tl t i else pr tl t i*pr tl t j
theorem lT_phi:∀(tl:TL) (t:List Int) (q:Rat) (i j:Int),Un tl->(t++tl.map (·.1)).Nodup->SW (aR i j) (wf (lT tl t) q)=q*two tl t i j
 | [],t,q,i,j,_,_=>by
  rw[lT,wf];show q*aR i j t+0=_;unfold aR ind two pr;simp only[prl]
  by_cases h1:i∈t <;> by_cases o:j∈t <;> by_cases h3:i=j <;> simp_all <;> grind
 | (p,c)::r,t,q,i,j,h,nd=>by
  have u:=h (p,c) mem_cons_self;have o:0<c.2:=by have:=u.1;have:=u.2;lia
  have e:((t++[p])++r.map (·.1)).Nodup:=by rw[append_assoc];exact nd
  have l:(t++r.map (·.1)).Nodup:=nd.sublist ((List.sublist_cons_self p (r.map (·.1))).append_left t);rw[wf_lT o,pG,lT_phi r _ _ i j h.tl e,lT_phi r _ _ i j h.tl l]
  have d:p ∉ t/\p ∉ r.map (·.1):=by
   rw[map_cons]at nd;have:=nodup_append.mp nd;exact⟨λz=>this.2.2 p z p mem_cons_self rfl,(nodup_cons.mp this.2.1).1⟩
  have a:∀ x,x≠p->pr r (t++[p]) x=pr ((p,c)::r) t x/\pr r t x=pr ((p,c)::r) t x:=λx s=>by
   unfold pr;rw[prl,if_neg s];simp[s]
  have f:pr r (t++[p]) p=1:=by unfold pr;rw[if_pos (by simp)]
  have g:pr r t p=0:=by unfold pr;rw[if_neg d.1,oJ d.2]
  have m:pr ((p,c)::r) t p=pq c:=by unfold pr;rw[if_neg d.1,prl,if_pos rfl]
  unfold two
  by_cases hij:i=j
  .subst hij
   rw[if_pos rfl,if_pos rfl,if_pos rfl]
   by_cases hi:i=p
   .subst hi;rw[f,g,m];grind
   .rw[(a i hi).1,(a i hi).2];grind
  .rw[if_neg hij,if_neg hij,if_neg hij]
   by_cases hi:i=p
   .subst hi
    have b:j≠i:=λz=>hij z.symm
    rw[f,g,m,(a j b).1];grind
   .by_cases b:j=p
    .subst b
     rw[f,g,m,(a i hi).1];grind
    .rw[(a i hi).1,(a i hi).2,(a j b).1,(a j b).2];grind
theorem lT_key:∀(tl:TL) (t:List Int) (q:Rat),Un tl->∀ w∈wf (lT tl t) q,∃ s,w.1=t++s/\s.Sublist (tl.map (·.1))
 | [],t,q,_,w,hw=>by
  rw[lT,wf,mem_singleton]at hw;exact⟨[],by rw[hw,append_nil],.slnil⟩
 | (p,c)::r,t,q,h,w,hw=>by
  have b:=h (p,c) mem_cons_self;have d:0<c.2:=by have:=b.1;have:=b.2;lia
  rw[wf_lT d,mem_append]at hw
  rcases hw with hw | hw
  .obtain⟨s,e,a⟩:=lT_key r _ _ h.tl w hw
   exact⟨p::s,by rw[e,append_assoc];rfl,a.cons_cons p⟩
  .obtain⟨s,e,a⟩:=lT_key r _ _ h.tl w hw
   exact⟨s,e,a.cons p⟩
def pD:TL->Nat
 | []=>1
 | (_,c)::r=>c.2.toNat*pD r
theorem pD_pos:∀{tl:TL},Un tl->0<pD tl
 | [],_=>Nat.one_pos
 | (p,c)::r,h=>by
  have a:=h (p,c) mem_cons_self;have:0<c.2.toNat:=by have:=a.1;have:=a.2;lia
  exact Nat.mul_pos this (pD_pos h.tl)
theorem pD_le{B:Nat}:∀{tl:TL},(∀ x∈tl,x.2.2<=(B:Int))->pD tl<=B ^ tl.length
 | [],_=>Nat.le_refl 1
 | (p,c)::r,h=>by
  have a:=h (p,c) mem_cons_self
  replace a:c.2<=(B:Int):=a
  rw[pD,length_cons,Nat.pow_succ,Nat.mul_comm];exact Nat.mul_le_mul (pD_le λx b=>h x (mem_cons_of_mem _ b)) (by lia)
theorem lT_bq:∀(tl:TL) (t:List Int) (q:Rat) (E:Nat),Un tl->Bq E q->∀ w∈wf (lT tl t) q,Bq (E*pD tl) w.2
 | [],t,q,E,_,hq,w,hw=>by
  rw[lT,wf,mem_singleton]at hw;rw[hw,pD,Nat.mul_one];exact hq
 | (p,c)::r,t,q,E,h,hq,w,hw=>by
  have b:=h (p,c) mem_cons_self;have e:0<c.1:=b.1;have g:c.1<c.2:=b.2;have a:0<c.2:=by lia
  have d:Bq c.2.toNat (pq c):=pK (by lia) (by lia);have f:Bq c.2.toNat (1 - pq c):=by rw[<- u7 a];exact pK (by lia) (by lia)
  rw[wf_lT a,mem_append]at hw;rw[pD,<- Nat.mul_assoc]
  rcases hw with hw | hw
  .exact lT_bq r _ _ _ h.tl (hq.mul d) w hw
  .exact lT_bq r _ _ _ h.tl (hq.mul f) w hw
end Tb
namespace Rp
open Nst
open Du (SW aI aR ind)
open Tb (so so_perm Rws)
theorem jV(φ:List Int->Rat):SW φ []=0:=rfl
theorem a6(φ:List Int->Rat)(w:List Int×Rat)(W:Rws):SW φ (w::W)=w.2*φ w.1+SW φ W:=rfl
theorem qr(φ:List Int->Rat):∀ A B:Rws,SW φ (A++B)=SW φ A+SW φ B
 | [],B=>by rw[nil_append,jV];grind
 | a::A,B=>by rw[cons_append,a6,a6,qr φ A B];grind
def scl(c:Rat)(W:Rws):Rws:=W.map λw=>(w.1,c*w.2)
theorem za(φ:List Int->Rat)(c:Rat):∀ W:Rws,SW φ (scl c W)=c*SW φ W
 | []=>by show(0:Rat)=c*0;grind
 | w::W=>by
  have:=za φ c W;unfold scl at this ⊢;rw[map_cons,a6,a6,this]
  grind
def thn(W:Rws)(g:List Int->Rws):Rws:=W.flatMap λw=>scl w.2 (g (so w.1))
theorem dU(φ:List Int->Rat)(g:List Int->Rws):∀ W:Rws,SW φ (thn W g)=SW (λk=>SW φ (g (so k))) W
 | []=>rfl
 | w::W=>by
  have a:=dU φ g W;unfold thn at a ⊢;rw[List.flatMap_cons,qr,a6,a,za]
theorem zx{c:Rat}{W:Rws}{v:List Int×Rat}(h:v∈scl c W):∃ u∈W,v=(u.1,c*u.2):=by
 obtain⟨u,a,rfl⟩:=mem_map.mp h;exact⟨u,a,rfl⟩
theorem cz{W:Rws}{g:List Int->Rws}{v:List Int×Rat}(h:v∈thn W g):∃ w∈W,∃ u∈g (so w.1),v=(u.1,w.2*u.2):=by
 obtain⟨w,a,b⟩:=List.mem_flatMap.mp h;obtain⟨u,c,e⟩:=zx b;exact⟨w,a,u,c,e⟩
theorem ba{φ ψ:List Int->Rat}:∀{W:Rws},(∀ w∈W,φ w.1=ψ w.1)->SW φ W=SW ψ W
 | [],_=>rfl
 | w::W,h=>by
  rw[a6,a6,h w mem_cons_self,ba λv a=>h v (mem_cons_of_mem _ a)]
theorem dj(c:Rat)(φ:List Int->Rat):∀ W:Rws,SW (λk=>c*φ k) W=c*SW φ W
 | []=>by show(0:Rat)=c*0;grind
 | w::W=>by rw[a6,a6,dj c φ W];grind
theorem ph(c:Rat)(φ:List Int->Rat)(W:Rws):SW (λk=>φ k*c) W=SW φ W*c:=by
 have:=dj c φ W;have e:SW (λk=>φ k*c) W=SW (λk=>c*φ k) W:=ba λw _=>by grind
 rw[e,this];grind
theorem iG(φ ψ:List Int->Rat):∀ W:Rws,SW (λk=>φ k+ψ k) W=SW φ W+SW ψ W
 | []=>by show(0:Rat)=0+0;grind
 | w::W=>by rw[a6,a6,a6,iG φ ψ W];grind
theorem bX(c:Rat)(W:Rws)(h:SW (λ_=>1) W=1):SW (λ_=>c) W=c:=by
 have:=dj c (λ_=>1) W;have e:SW (λ_=>c) W=SW (λ_=>c*1) W:=ba λw _=>by grind
 rw[e,this,h];grind
theorem uo{φ:List Int->Rat}:∀{W:Rws},(∀ w∈W,0<=w.2)->(∀ w∈W,0<=φ w.1)->0<=SW φ W
 | [],_,_=>by show(0:Rat)<=0;grind
 | w::W,h,g=>by
  rw[a6];have b:=Rat.mul_nonneg (h w mem_cons_self) (g w mem_cons_self);have c:=uo (λv a=>h v (mem_cons_of_mem _ a)) λv a=>g v (mem_cons_of_mem _ a)
  grind
theorem qT{φ ψ:List Int->Rat}{W:Rws}(h:∀ w∈W,0<=w.2)(g:∀ w∈W,φ w.1<=ψ w.1):SW φ W<=SW ψ W:=by
 have:=uo (φ:=λk=>ψ k+(-1)*φ k) h λw hw=>by have:=g w hw;grind
 rw[iG,dj]at this
 grind
theorem mem_so{x:Int}{k:List Int}:x∈so k↔x∈k:=(so_perm k).mem_iff
theorem dN{p q:Prop}[Decidable p][Decidable q](h:p↔q):ind p=ind q:=by unfold ind;by_cases c:p <;> simp[c,<- h]
theorem cZ{x:Int}(k:List Int):aR x x k=aI x k:=dN (by simp)
theorem gL{x y:Int}(k:List Int):aR x y k=aR y x k:=dN (by rw[and_comm])
theorem gp{x y:Int}(k:List Int):aR x y k=aI x k*aI y k:=by
 unfold aR aI
 by_cases a:x∈k <;> by_cases b:y∈k <;> simp[ind,a,b] <;> grind
theorem oG(p:Prop)[Decidable p]:0<=ind p/\ind p<=1:=by unfold ind;split <;> constructor <;> grind
structure Pr(P:List Int)(W:Rws):Prop where
 nn:∀ w∈W,0<=w.2
 one:SW (λ_=>1) W=1
 kp:∀ w∈W,∀ x∈w.1,x∈P
def gW(f:List Mb->Rws):List (List Mb)->List Int->Rws
 | [],tk=>[(tk,1)]
 | g::gs,tk=>thn (f g) λks=>gW f gs (tk++ks)
theorem ci(c:List Mb)(gs:List (List Mb)):plc (c::gs).flatten=plc c++plc gs.flatten:=by unfold plc;rw[flatten_cons,map_append]
theorem Bh{f:List Mb->Rws}:∀{gs:List (List Mb)}{tk:List Int},(∀ c∈gs,Pr (plc c) (f c))->∀ w∈gW f gs tk,0<=w.2
 | [],tk,_,w,hw=>by cases mem_singleton.mp hw;show(0:Rat)<=1;grind
 | c::gs,tk,h,w,hw=>by
  obtain⟨v,a,u,b,rfl⟩:=cz hw;exact Rat.mul_nonneg ((h c mem_cons_self).nn v a) (Bh (λd e=>h d (mem_cons_of_mem _ e)) u b)
theorem lI{f:List Mb->Rws}:∀{gs:List (List Mb)}{tk:List Int},(∀ c∈gs,Pr (plc c) (f c))->SW (λ_=>1) (gW f gs tk)=1
 | [],tk,_=>by rw[gW,a6,jV];grind
 | c::gs,tk,h=>by
  rw[gW,dU];have:=(h c mem_cons_self).one;rw[<- this];refine ba λw _=>?_
  rw[this];exact lI λd a=>h d (mem_cons_of_mem _ a)
theorem tB{f:List Mb->Rws}:∀{gs:List (List Mb)}{tk:List Int},(∀ c∈gs,Pr (plc c) (f c))->∀ w∈gW f gs tk,∃ s,w.1=tk++s/\∀ x∈s,x∈plc gs.flatten
 | [],tk,_,w,hw=>by cases mem_singleton.mp hw;exact⟨[],by rw[append_nil],λx hx=>(by cases hx)⟩
 | c::gs,tk,h,w,hw=>by
  obtain⟨v,a,u,b,rfl⟩:=cz hw;obtain⟨s,e,g⟩:=tB (λd hd=>h d (mem_cons_of_mem _ hd)) u b;refine⟨so v.1++s,by rw[e,append_assoc],λx hx=>?_⟩;rw[ci]
  rcases mem_append.mp hx with hx | hx
  .exact mem_append_left _ ((h c mem_cons_self).kp v a x (mem_so.mp hx))
  .exact mem_append_right _ (g x hx)
section
variable {f:List Mb->Rws}{gs:List (List Mb)}{tk:List Int}
theorem kZ(h:∀ c∈gs,Pr (plc c) (f c)){x:Int}(a:x ∉ plc gs.flatten){w:List Int×Rat}(b:w∈gW f gs tk):x∈w.1↔x∈tk:=by
 obtain⟨s,e,d⟩:=tB h w b;rw[e,mem_append];exact⟨λz=>z.elim id λz=>absurd (d x z) a,.inl⟩
theorem oW(h:∀ c∈gs,Pr (plc c) (f c)){x y:Int}(b:x ∉ plc gs.flatten)(d:y ∉ plc gs.flatten):SW (aR x y) (gW f gs tk)=aR x y tk:=by
 rw[<- bX (aR x y tk) (gW f gs tk) (lI h)];exact ba λw a=>dN (by rw[kZ h b a,kZ h d a])
end
theorem Prs.tl{f:List Mb->Rws}{c:List Mb}{gs:List (List Mb)}(h:∀ d∈c::gs,Pr (plc d) (f d)):∀ d∈gs,Pr (plc d) (f d):=λd a=>h d (mem_cons_of_mem _ a)
theorem nQ{gs:List (List Mb)}{i:Nat}{c:List Mb}(h:gs[i]? = some c){x:Int}(a:x∈plc c):x∈plc gs.flatten:=by
 obtain⟨m,b,rfl⟩:=mem_map.mp a;exact mem_map.mpr ⟨m,mem_flatten.mpr ⟨c,List.mem_of_getElem? h,b⟩,rfl⟩
theorem vm{f:List Mb->Rws}:∀{gs:List (List Mb)}{tk:List Int}{i:Nat}{c:List Mb}{x:Int},(∀ d∈gs,Pr (plc d) (f d))->(plc gs.flatten).Nodup->gs[i]? = some c->x∈plc c->x ∉ tk->SW (aI x) (gW f gs tk)=SW (aI x) (f c)
 | [],_,_,_,_,_,_,h,_,_=>by cases h
 | c::gs,tk,0,_,x,h,nd,rfl,hx,ht=>by
  rw[ci]at nd;have b:x ∉ plc gs.flatten:=λz=>(nodup_append.mp nd).2.2 x hx x z rfl
  rw[gW,dU];refine ba λw e=>?_
  have:=oW (tk:=tk++so w.1) (Prs.tl h) b b;rw[<- ba (λv _=>cZ (x:=x) v.1),this,cZ];exact dN (by rw[mem_append,mem_so];exact⟨λz=>z.elim (λz=>absurd z ht) id,.inr⟩)
 | c::gs,tk,i+1,d,x,h,nd,a,hx,ht=>by
  rw[ci]at nd;have a:gs[i]? = some d:=by simpa using a
  have b:x ∉ plc c:=λz=>(nodup_append.mp nd).2.2 x z x (nQ a hx) rfl
  rw[gW,dU,<- bX (SW (aI x) (f d)) (f c) (h c mem_cons_self).one];refine ba λw e=>?_
  exact vm (Prs.tl h) (nodup_append.mp nd).2.1 a hx λz=>by
   rcases mem_append.mp z with z | z
   .exact ht z
   .exact b ((h c mem_cons_self).kp w e x (mem_so.mp z))
theorem A8{f:List Mb->Rws}:∀{gs:List (List Mb)}{tk:List Int}{i:Nat}{c:List Mb}{x y:Int},(∀ d∈gs,Pr (plc d) (f d))->(plc gs.flatten).Nodup->gs[i]? = some c->x∈plc c->y∈plc c->x ∉ tk->y ∉ tk->SW (aR x y) (gW f gs tk)=SW (aR x y) (f c)
 | [],_,_,_,_,_,_,_,h,_,_,_,_=>by cases h
 | c::gs,tk,0,_,x,y,h,nd,rfl,hx,hy,ht,hu=>by
  rw[ci]at nd;have e:∀ z∈plc c,z ∉ plc gs.flatten:=λz a w=>(nodup_append.mp nd).2.2 z a z w rfl
  rw[gW,dU];refine ba λw j=>?_
  rw[oW (tk:=tk++so w.1) (Prs.tl h) (e x hx) (e y hy)];exact dN (by simp only[mem_append,mem_so];exact⟨λz=>⟨z.1.elim (λz=>absurd z ht) id,z.2.elim (λz=>absurd z hu) id⟩,λz=>⟨.inr z.1,.inr z.2⟩⟩)
 | c::gs,tk,i+1,d,x,y,h,nd,b,hx,hy,ht,hu=>by
  rw[ci]at nd;have b:gs[i]? = some d:=by simpa using b
  have e:∀ z∈plc d,z ∉ plc c:=λz a w=>(nodup_append.mp nd).2.2 z w z (nQ b a) rfl
  rw[gW,dU,<- bX (SW (aR x y) (f d)) (f c) (h c mem_cons_self).one];refine ba λw j=>?_
  have l:∀ z∈plc d,z ∉ tk->z ∉ tk++so w.1:=λz a g v=>by
   rcases mem_append.mp v with v | v
   .exact g v
   .exact e z a ((h c mem_cons_self).kp w j z (mem_so.mp v))
  exact A8 (Prs.tl h) (nodup_append.mp nd).2.1 b hx hy (l x hx ht) (l y hy hu)
theorem tz{f:List Mb->Rws}:∀{gs:List (List Mb)}{tk:List Int}{i j:Nat}{c d:List Mb}{x y:Int},(∀ d∈gs,Pr (plc d) (f d))->(plc gs.flatten).Nodup->i<j->gs[i]? = some c->gs[j]? = some d->x∈plc c->y∈plc d->x ∉ tk->y ∉ tk->SW (aR x y) (gW f gs tk)=SW (aI x) (f c)*SW (aI y) (f d)
 | [],_,_,_,_,_,_,_,_,_,_,h,_,_,_,_,_=>by cases h
 | c::gs,tk,i,0,_,_,x,y,_,_,hij,_,_,_,_,_,_=>absurd hij (Nat.not_lt_zero _)
 | c::gs,tk,0,j+1,_,d,x,y,h,nd,_,rfl,a,hx,hy,ht,hu=>by
  rw[ci]at nd;have a:gs[j]? = some d:=by simpa using a
  have g:x ∉ plc gs.flatten:=λw=>(nodup_append.mp nd).2.2 x hx x w rfl
  have o:y ∉ plc c:=λw=>(nodup_append.mp nd).2.2 y w y (nQ a hy) rfl
  rw[gW,dU,<- ph];refine ba λw m=>?_
  have s:y ∉ tk++so w.1:=λv=>by
   rcases mem_append.mp v with v | v
   .exact hu v
   .exact o ((h c mem_cons_self).kp w m y (mem_so.mp v))
  have e:SW (aR x y) (gW f gs (tk++so w.1))=SW (λk=>aI x w.1*aI y k) (gW f gs (tk++so w.1)):=ba λv hv=>by
   rw[gp]
   congr 1
   exact dN (by rw[kZ (Prs.tl h) g hv,mem_append,mem_so];exact⟨λz=>z.elim (λz=>absurd z ht) id,.inr⟩)
  rw[e,dj,vm (Prs.tl h) (nodup_append.mp nd).2.1 a hy s]
 | c::gs,tk,i+1,j+1,e,d,x,y,h,nd,hij,b,a,hx,hy,ht,hu=>by
  rw[ci]at nd;have b:gs[i]? = some e:=by simpa using b
  have a:gs[j]? = some d:=by simpa using a
  have u:∀ z∈plc gs.flatten,z ∉ plc c:=λz l w=>(nodup_append.mp nd).2.2 z w z l rfl
  rw[gW,dU,<- bX (SW (aI x) (f e)*SW (aI y) (f d)) (f c) (h c mem_cons_self).one];refine ba λw m=>?_
  have r:∀ z∈plc gs.flatten,z ∉ tk->z ∉ tk++so w.1:=λz l p v=>by
   rcases mem_append.mp v with v | v
   .exact p v
   .exact u z l ((h c mem_cons_self).kp w m z (mem_so.mp v))
  exact tz (Prs.tl h) (nodup_append.mp nd).2.1 (by lia) b a hx hy (r x (nQ b hx) ht) (r y (nQ a hy) hu)
theorem Dt{f:List Mb->Rws}{gs:List (List Mb)}{tk:List Int}{i j:Nat}{c d:List Mb}{x y:Int}(h:∀ d∈gs,Pr (plc d) (f d))(l:(plc gs.flatten).Nodup)(a:i≠j)(hi:gs[i]? = some c)(m:gs[j]? = some d)(e:x∈plc c)(b:y∈plc d)(o:x ∉ tk)(g:y ∉ tk):SW (aR x y) (gW f gs tk)=SW (aI x) (f c)*SW (aI y) (f d):=by
 rcases Nat.lt_or_gt_of_ne a with c1 | c1
 .exact tz h l c1 hi m e b o g
 .rw[ba (λw _=>gL (x:=x) (y:=y) w.1),tz h l c1 m hi b e g o];grind
open Du (SW aI aR ind Bq)
open Tb (so so_perm Rws)
def rg(n:Nat):List Int:=(List.range n).map λk:Nat=>(k:Int)
theorem mem_rg{n:Nat}{x:Int}:x∈rg n↔0<=x/\x<(n:Int):=by
 unfold rg;rw[mem_map]
 constructor
 .rintro⟨k,a,rfl⟩
  have:=mem_range.mp a;lia
 .rintro⟨b,c⟩
  exact⟨x.toNat,mem_range.mpr (by lia),by lia⟩
theorem ye(n:Nat):(rg n).Nodup:=List.Pairwise.map _ (λa b h z=>h (by lia)) nodup_range
def pd:List Nat->Nat
 | []=>1
 | a::l=>a*pd l
theorem sj:∀{l:List Nat},(∀ a∈l,0<a)->0<pd l
 | [],_=>Nat.one_pos
 | a::l,h=>Nat.mul_pos (h a mem_cons_self) (sj λb c=>h b (mem_cons_of_mem _ c))
theorem AH{a b:List Nat}(h:a.Perm b):pd a=pd b:=by
 induction h with
 | nil=>rfl
 | cons x _ ih=>rw[pd,pd,ih]
 | swap x y l=>rw[pd,pd,pd,pd,Nat.mul_left_comm]
 | trans _ _ h1 h2=>exact h1.trans h2
theorem C1{a b:List Nat}(h:a.Sublist b):∃ k,pd b=pd a*k:=by
 induction h with
 | slnil=>exact⟨1,rfl⟩
 | cons x _ ih=>obtain⟨k,e⟩:=ih;exact⟨x*k,by rw[pd,e,Nat.mul_left_comm]⟩
 | cons_cons x _ ih=>obtain⟨k,e⟩:=ih;exact⟨k,by rw[pd,pd,e,Nat.mul_assoc]⟩
theorem o5{C D:Nat}{p q:Rat}(b:Bq C p)(h:Bq D q):Bq (C*D) (p*q):=by
 obtain⟨g,c,n,f⟩:=b;obtain⟨a,i,m,d⟩:=h;refine⟨Rat.mul_nonneg g a,?_,n*m,?_⟩
 .have e:=Rat.mul_le_mul_of_nonneg_right c a
  rw[Rat.one_mul]at e
  grind
 .push_cast
  rw[<- f,<- d]
  grind
theorem xw{C k:Nat}{p:Rat}(d:Bq C p):Bq (C*k) p:=by
 obtain⟨c,a,n,b⟩:=d;refine⟨c,a,n*k,?_⟩
 push_cast
 rw[<- b]
 grind
structure Rp(C:Nat)(lo hi:Int)(P:List Int)(e:Int->Int->Rat)(W:Rws):Prop where
 c0:0<C
 lo0:0<=lo
 hi0:0<=hi
 pr:Pr P W
 nd:∀ w∈W,w.1.Nodup
 len:∀ w∈W,lo<=(w.1.length:Int)/\(w.1.length:Int)<=hi
 bq:∀ w∈W,Bq C w.2
 sh:∀ x∈P,∀ y∈P,SW (aR x y) W=e x y
theorem Rp.sh1{C:Nat}{lo hi:Int}{P:List Int}{e:Int->Int->Rat}{W:Rws}(h:Rp C lo hi P e W){x:Int}(a:x∈P):SW (aI x) W=e x x:=by
 rw[<- h.sh x a x a];exact ba λw _=>(cZ w.1).symm
def gi(gs:List (List Mb))(x:Int):Nat:=gs.findIdx λc=>decide (x∈plc c)
theorem qN:∀{gs:List (List Mb)}{g:Nat}{c:List Mb}{x:Int},(plc gs.flatten).Nodup->gs[g]? = some c->x∈plc c->gi gs x=g
 | [],_,_,_,_,h,_=>by cases h
 | c::gs,0,_,x,nd,rfl,hx=>by
  unfold gi;rw[List.findIdx_cons,decide_eq_true hx];rfl
 | c::gs,g+1,d,x,nd,h,hx=>by
  rw[ci]at nd;have h:gs[g]? = some d:=by simpa using h
  have b:x ∉ plc c:=λz=>(nodup_append.mp nd).2.2 x z x (nQ h hx) rfl
  have a:=qN (nodup_append.mp nd).2.1 h hx;unfold gi at a ⊢;rw[List.findIdx_cons,decide_eq_false b,a];rfl
theorem tZ{gs:List (List Mb)}{x:Int}(h:(plc gs.flatten).Nodup)(a:x∈plc gs.flatten):∃ c,gs[gi gs x]? = some c/\x∈plc c:=by
 obtain⟨m,e,rfl⟩:=mem_map.mp a;obtain⟨c,f,b⟩:=mem_flatten.mp e;obtain⟨g,d⟩:=List.getElem?_of_mem f;have a:m.1∈plc c:=mem_map.mpr ⟨m,b,rfl⟩;exact⟨c,by rw[qN h d a];exact d,a⟩
def entN(ie:List Mb->Int->Int->Rat)(oe:Int->Int->Rat)(gs:List (List Mb))(x y:Int):Rat :=
 oe (gi gs x:Nat) (gi gs y:Nat)*(if gi gs x=gi gs y then ie (gs.getD (gi gs x) []) x y else ie (gs.getD (gi gs x) []) x x*ie (gs.getD (gi gs y) []) y y)
theorem wT{P b:List Int}(c:P.Nodup)(d:b.Nodup)(h:∀ x∈b,x∈P):∃ s:List Int,s.Sublist P/\s.Perm b:=by
 refine⟨P.filter λx=>decide (x∈b),filter_sublist,?_⟩;refine(List.perm_ext_iff_of_nodup (c.sublist filter_sublist) d).mpr λa=>?_
 rw[mem_filter,decide_eq_true_eq];exact⟨λz=>z.2,λz=>⟨h a z,z⟩⟩
theorem Ct{a b:List (List Mb)}(h:a.Sublist b):(plc a.flatten).Sublist (plc b.flatten):=by
 induction h with
 | slnil=>exact List.Sublist.refl _
 | cons x _ ih=>rw[ci];exact ih.trans (List.sublist_append_right _ _)
 | cons_cons x _ ih=>rw[ci,ci];exact(List.Sublist.refl _).append ih
theorem lQ(gs:List (List Mb)):rg gs.length=plc (outer gs):=(aW gs).symm
theorem Bo{f:List Mb->Rws}:∀{gs:List (List Mb)}{tk:List Int},(∀ c∈gs,Pr (plc c) (f c)/\∀ w∈f c,w.1.Nodup)->(plc gs.flatten).Nodup->tk.Nodup->(∀ x∈tk,x ∉ plc gs.flatten)->∀ w∈gW f gs tk,w.1.Nodup
 | [],tk,_,_,ht,_,w,hw=>by cases mem_singleton.mp hw;exact ht
 | c::gs,tk,h,nd,ht,g,w,hw=>by
  rw[ci]at nd;obtain⟨v,l,u,p,rfl⟩:=cz hw;have i:=h c mem_cons_self;have m:(so v.1).Nodup:=(so_perm v.1).nodup_iff.mpr (i.2 v l);have j:∀ x∈so v.1,x∈plc c:=λx hx=>i.1.kp v l x (mem_so.mp hx)
  refine Bo (λd g=>h d (mem_cons_of_mem _ g)) (nodup_append.mp nd).2.1 ?_ ?_ u p
  .refine nodup_append.mpr ⟨ht,m,λa r b o e=>?_⟩
   subst e;exact g a r (by rw[ci];exact mem_append_left _ (j a o))
  .intro x hx z
   rcases mem_append.mp hx with hx | hx
   .exact g x hx (by rw[ci];exact mem_append_right _ z)
   .exact(nodup_append.mp nd).2.2 x (j x hx) x z rfl
theorem yH{f:List Mb->Rws}{lo hi:List Mb->Int}:∀{gs:List (List Mb)}{tk:List Int},(∀ c∈gs,∀ w∈f c,lo c<=(w.1.length:Int)/\(w.1.length:Int)<=hi c)->∀ w∈gW f gs tk,(tk.length:Int)+(gs.map lo).sum<=(w.1.length:Int)/\(w.1.length:Int)<=(tk.length:Int)+(gs.map hi).sum
 | [],tk,_,w,hw=>by cases mem_singleton.mp hw;simp
 | c::gs,tk,h,w,hw=>by
  obtain⟨v,g,u,b,rfl⟩:=cz hw;have i:=h c mem_cons_self v g;have a:=yH (λd e=>h d (mem_cons_of_mem _ e)) u b;rw[length_append,(so_perm v.1).length_eq]at a;rw[map_cons,map_cons,sum_cons,sum_cons];show _<=(u.1.length:Int)/\(u.1.length:Int)<=_;lia
theorem Bi{f:List Mb->Rws}{C:List Mb->Nat}:∀{gs:List (List Mb)}{tk:List Int},(∀ c∈gs,∀ w∈f c,Bq (C c) w.2)->∀ w∈gW f gs tk,Bq (pd (gs.map C)) w.2
 | [],tk,_,w,hw=>by
  cases mem_singleton.mp hw;exact⟨by show(0:Rat)<=1;grind,by show(1:Rat)<=1;grind,1,by show(1:Rat)*((1:Nat):Rat)=((1:Nat):Rat);push_cast;grind⟩
 | c::gs,tk,h,w,hw=>by
  obtain⟨v,a,u,b,rfl⟩:=cz hw;exact o5 (h c mem_cons_self v a) (Bi (λd e=>h d (mem_cons_of_mem _ e)) u b)
theorem og{gs:List (List Mb)}{b:List Int}{i:Nat}{c:List Mb}(e:gs[i]? = some c)(hi:(i:Int)∈b):∃ a:Nat,b[a]? = some (i:Int)/\(sel gs b)[a]? = some c:=by
 obtain⟨a,d⟩:=List.getElem?_of_mem hi;refine⟨a,d,?_⟩;unfold sel;rw[List.getElem?_map,d];show some (gs.getD (i:Int).toNat [])=_;rw[Int.toNat_natCast,List.getD_eq_getElem?_getD,e];rfl
theorem xM{gs:List (List Mb)}{f:List Mb->Rws}{ie:List Mb->Int->Int->Rat}{Co:Nat}{oe:Int->Int->Rat}{fe mo:Nat}{N:Rws}{Cc:List Mb->Nat}{lo hi:List Mb->Int}
  (S:(plc gs.flatten).Nodup) (o:Rp Co (fe:Int) (mo:Int) (rg gs.length) oe N) (h:∀ c∈gs,Rp (Cc c) (lo c) (hi c) (plc c) (ie c) (f c)) :
  Rp (Co*pd (gs.map Cc)) ((so (gs.map lo)).take fe).sum ((so (gs.map hi)).reverse.take mo).sum (plc gs.flatten) (entN ie oe gs) (thn N λks=>gW f (sel gs ks) []):=by
 have Y:∀ x∈gs.map lo,0<=x:=λx B=>by obtain⟨c,p,rfl⟩:=mem_map.mp B;exact(h c p).lo0
 have Z:∀ x∈gs.map hi,0<=x:=λx B=>by obtain⟨c,p,rfl⟩:=mem_map.mp B;exact(h c p).hi0
 have J:∀ w∈N,∃ r:List (List Mb),r.Sublist gs/\r.Perm (sel gs (so w.1)):=λw l=>by
  obtain⟨s,s1,s2⟩:=wT (ye gs.length) (o.nd w l) (o.pr.kp w l);rw[lQ]at s1;exact AF s1 (s2.trans (so_perm w.1).symm)
 have L:∀ w∈N,∀ c∈sel gs (so w.1),c∈gs:=λw l c p=>by
  obtain⟨r,K,I⟩:=J w l;exact K.subset (I.mem_iff.mpr p)
 have A:∀ w∈N,∀ c∈sel gs (so w.1),Pr (plc c) (f c):=λw l c p=>(h c (L w l c p)).pr
 have W:∀{a b:List (List Mb)},a.Perm b->(plc a.flatten).Perm (plc b.flatten):=λhp=>hp.flatten.map _
 have H:∀{a b:List (List Mb)},a.Sublist b->(plc a.flatten).Sublist (plc b.flatten):=λhp=>Ct hp
 have P:∀ w∈N,(plc (sel gs (so w.1)).flatten).Nodup:=λw l=>by
  obtain⟨r,K,I⟩:=J w l;exact(W I).nodup_iff.mp (S.sublist (H K))
 refine⟨Nat.mul_pos o.c0 (sj λa R=>by obtain⟨c,p,rfl⟩:=mem_map.mp R;exact(h c p).c0),iJ λx B=>Y x ((so_perm _).mem_iff.mp (mem_of_mem_take B)),iJ λx B=>Z x ((so_perm _).mem_iff.mp (mem_reverse.mp (mem_of_mem_take B))),⟨λv E=>?_,?_,λv E x B=>?_⟩,λv E=>?_,λv E=>?_,λv E=>?_,λx B y hy=>?_⟩
 .obtain⟨w,l,u,M,rfl⟩:=cz E
  exact Rat.mul_nonneg (o.pr.nn w l) (Bh (A w l) u M)
 .rw[dU]
  have e:SW (λk=>SW (λ_=>1) (gW f (sel gs (so k)) [])) N=SW (λ_=>1) N:=ba λw l=>lI (A w l)
  exact e.trans o.pr.one
 .obtain⟨w,l,u,M,rfl⟩:=cz E
  obtain⟨s,e,hs⟩:=tB (A w l) u M;obtain⟨r,K,I⟩:=J w l;have B:x∈u.1:=B;rw[e,nil_append]at B;exact(H K).subset ((W I).mem_iff.mpr (hs x B))
 .obtain⟨w,l,u,M,rfl⟩:=cz E
  exact Bo (λc p=>⟨A w l c p,(h c (L w l c p)).nd⟩) (P w l) nodup_nil (λx B=>by cases B) u M
 .obtain⟨w,l,u,M,rfl⟩:=cz E
  have g:=yH (lo:=lo) (hi:=hi) (λc p=>(h c (L w l c p)).len) u M;obtain⟨r,K,I⟩:=J w l;have ap:=o.len w l;have rl:r.length=w.1.length:=by rw[I.length_eq];unfold sel;rw[length_map,(so_perm w.1).length_eq]
  obtain⟨T,t1,t2⟩:=List.exists_perm_sublist (K.map lo) (so_perm (gs.map lo)).symm;obtain⟨U,u1,u2⟩:=List.exists_perm_sublist (K.map hi) ((so_perm (gs.map hi)).symm.trans (List.reverse_perm _).symm);have e1:=eI (t1.trans (I.map lo));have e2:=eI (u1.trans (I.map hi));have lt:=t1.length_eq;have lu:=u1.length_eq;rw[length_map]at lt lu;have sr:(so (gs.map hi)).reverse.Pairwise (· >= ·):=List.pairwise_reverse.mpr ((Tb.so_srt _).imp λz=>z);have b1:=lB (m:=fe) (Tb.so_srt (gs.map lo)) (λx B=>Y x ((so_perm _).mem_iff.mp B)) t2 (by lia);have b2:=jY (m:=mo) sr (λx B=>Z x ((so_perm _).mem_iff.mp (mem_reverse.mp B))) u2 (by lia);simp only[length_nil]at g;show _<=(u.1.length:Int)/\(u.1.length:Int)<=_;lia
 .obtain⟨w,l,u,M,rfl⟩:=cz E
  have g:=Bi (C:=Cc) (λc p=>(h c (L w l c p)).bq) u M;obtain⟨r,K,I⟩:=J w l;obtain⟨k,e⟩:=C1 (K.map Cc);rw[e,AH (I.map Cc)];exact o5 (o.bq w l) (xw g)
 .obtain⟨c,p,D⟩:=tZ S B
  obtain⟨d,Q,F⟩:=tZ S hy;unfold entN;have gc:gs.getD (gi gs x) []=c:=by rw[List.getD_eq_getElem?_getD,p];rfl
  have gd:gs.getD (gi gs y) []=d:=by rw[List.getD_eq_getElem?_getD,Q];rfl
  rw[gc,gd];generalize gi gs x=i at p;generalize gi gs y=j at Q;have il:=(List.getElem?_eq_some_iff.mp p).1;have jl:=(List.getElem?_eq_some_iff.mp Q).1;have X:=h c (List.mem_of_getElem? p);have ad:=h d (List.mem_of_getElem? Q);rw[dU]
  have O:∀ w∈N,∀{z:Int}{k:Nat}{q:List Mb},gs[k]? = some q->z∈plc q->(k:Int) ∉ so w.1->z ∉ plc (sel gs (so w.1)).flatten:=λw l z k q hq hz hk z'=>by
   obtain⟨b,G,al⟩:=tZ (P w l) z';unfold sel at G;rw[List.getElem?_map]at G;cases hka:(so w.1)[gi (sel gs (so w.1)) z]? with
   | none=>rw[show(List.map (λk:Int=>gs.getD k.toNat []) (so w.1))=sel gs (so w.1) from rfl,hka]at G;cases G
   | some a =>
    rw[show(List.map (λk:Int=>gs.getD k.toNat []) (so w.1))=sel gs (so w.1) from rfl,hka]at G;have G:gs.getD a.toNat []=b:=Option.some.inj G;have R:=mem_rg.mp (o.pr.kp w l a (mem_so.mp (List.mem_of_getElem? hka)))
    have an:gs[a.toNat]? = some b:=by
     rw[List.getD_eq_getElem?_getD]at G;have:a.toNat<gs.length:=by lia
     rw[List.getElem?_eq_getElem this]at G ⊢;exact congrArg some G
    have e1:=qN S an al;have e2:=qN S hq hz;have:a=(k:Int):=by lia
    rw[this]at hka;exact hk (List.mem_of_getElem? hka)
  by_cases e:i=j
  .subst e
   rw[p]at Q;cases Q;rw[if_pos rfl,<- o.sh _ (mem_rg.mpr ⟨by lia,by lia⟩) _ (mem_rg.mpr ⟨by lia,by lia⟩),<- ph];refine ba λw l=>?_
   by_cases c1:(i:Int)∈so w.1
   .obtain⟨a,_,R⟩:=og p c1
    rw[A8 (A w l) (P w l) R D F (by simp) (by simp),X.sh x D y F,cZ,show aI (i:Int) w.1=1 from Du.ind_pos (mem_so.mp c1)]
    grind
   .have ox:=O w l p D c1
    have oy:=O w l p F c1;rw[oW (A w l) ox oy,cZ,show aI (i:Int) w.1=0 from Du.ind_neg λz=>c1 (mem_so.mpr z),show aR x y []=0 from Du.ind_neg (by simp)]
    grind
  .rw[if_neg e,<- o.sh _ (mem_rg.mpr ⟨by lia,by lia⟩) _ (mem_rg.mpr ⟨by lia,by lia⟩),<- ph]
   refine ba λw l=>?_
   have pm:aR (i:Int) (j:Int) w.1=aI (i:Int) w.1*aI (j:Int) w.1:=gp _
   by_cases c1:(i:Int)∈so w.1
   .by_cases c2:(j:Int)∈so w.1
    .obtain⟨a,a1,R⟩:=og p c1
     obtain⟨b,b1,G⟩:=og Q c2;have ab:a≠b:=λz=>by rw[z,b1]at a1;have:=Option.some.inj a1;lia
     rw[Dt (A w l) (P w l) ab R G D F (by simp) (by simp),X.sh1 D,ad.sh1 F,pm,show aI (i:Int) w.1=1 from Du.ind_pos (mem_so.mp c1),show aI (j:Int) w.1=1 from Du.ind_pos (mem_so.mp c2)]
     grind
    .have oy:=O w l Q F c2
     have z:SW (aR x y) (gW f (sel gs (so w.1)) [])=0:=by
      rw[<- bX 0 (gW f (sel gs (so w.1)) []) (lI (A w l))];exact ba λv E=>Du.ind_neg λz=>by have:=(kZ (A w l) oy E).mp z.2;cases this
     rw[z,pm,show aI (j:Int) w.1=0 from Du.ind_neg λz=>c2 (mem_so.mpr z)]
     grind
   .have ox:=O w l p D c1
    have z:SW (aR x y) (gW f (sel gs (so w.1)) [])=0:=by
     rw[<- bX 0 (gW f (sel gs (so w.1)) []) (lI (A w l))];exact ba λv E=>Du.ind_neg λz=>by have:=(kZ (A w l) ox E).mp z.1;cases this
    rw[z,pm,show aI (i:Int) w.1=0 from Du.ind_neg λz=>c1 (mem_so.mpr z)]
    grind
theorem BK(n:Nat):Rp 1 (n:Int) (n:Int) (rg n) (λ_ _=>1) [(rg n,1)]:=by
 have b:SW (λ_=>1) [(rg n,(1:Rat))]=1:=by rw[a6,jV];grind
 refine⟨Nat.one_pos,by lia,by lia,⟨λw a=>?_,b,λw a x hx=>?_⟩,λw a=>?_,λw a=>?_,λw a=>?_,λx hx y hy=>?_⟩
 .cases mem_singleton.mp a;show(0:Rat)<=1;grind
 .cases mem_singleton.mp a;exact hx
 .cases mem_singleton.mp a;exact ye n
 .cases mem_singleton.mp a
  have:(rg n).length=n:=by unfold rg;rw[length_map,length_range]
  show(n:Int)<=((rg n).length:Int)/\((rg n).length:Int)<=n;lia
 .cases mem_singleton.mp a
  exact⟨by show(0:Rat)<=1;grind,by show(1:Rat)<=1;grind,1,by show(1:Rat)*((1:Nat):Rat)=((1:Nat):Rat);push_cast;grind⟩
 .rw[a6,jV,show aR x y (rg n)=1 from Du.ind_pos ⟨hx,hy⟩];grind
open Du (SW aI aR ind Bq)
open Tb (Rws)
def sm(P:List Int)(g:Int->Rat):Rat:=(P.map g).sum
theorem cj(x:Int)(P:List Int)(g:Int->Rat):sm (x::P) g=g x+sm P g:=rfl
theorem fE{g h:Int->Rat}:∀{P:List Int},(∀ x∈P,g x=h x)->sm P g=sm P h
 | [],_=>rfl
 | x::P,e=>by rw[cj,cj,e x mem_cons_self,fE λy a=>e y (mem_cons_of_mem _ a)]
theorem jK(c:Rat)(g:Int->Rat):∀ P:List Int,sm P (λx=>c*g x)=c*sm P g
 | []=>by show(0:Rat)=c*0;grind
 | x::P=>by rw[cj,cj,jK c g P];grind
theorem tG(g h:Int->Rat):∀ P:List Int,sm P (λx=>g x+h x)=sm P g+sm P h
 | []=>by show(0:Rat)=0+0;grind
 | x::P=>by rw[cj,cj,cj,tG g h P];grind
theorem nP(ψ:Int->List Int->Rat)(W:Rws):∀ P:List Int,SW (λk=>sm P λx=>ψ x k) W=sm P λx=>SW (ψ x) W
 | []=>by
  have e:SW (λ_=>(0:Rat)) W=0:=by
   have:=dj 0 (λ_=>1) W;have a:SW (λ_=>(0:Rat)) W=SW (λ_=>0*1) W:=ba λw _=>by grind
   rw[a,this];grind
  exact e
 | x::P=>by
  rw[cj,<- nP ψ W P,<- iG];rfl
theorem wx:∀{P k:List Int},P.Nodup->k.Nodup->(∀ x∈k,x∈P)->sm P (λx=>aI x k)=(k.length:Rat):=λ{P k} f l h=>by
 obtain⟨s,j,g⟩:=wT f l h
 have d:∀{s P:List Int},s.Sublist P->P.Nodup->sm P (λx=>aI x s)=(s.length:Rat):=by
  intro s P i
  induction i with
  | slnil=>intro _;show(0:Rat)=((0:Nat):Rat);push_cast;rfl
  | cons x h ih =>
   intro b;obtain⟨a,c⟩:=nodup_cons.mp b;rw[cj,ih c,show aI x _=0 from Du.ind_neg λz=>a (h.subset z)]
   grind
  | @cons_cons l1 l2 x h ih =>
   intro b;obtain⟨a,c⟩:=nodup_cons.mp b
   have e:sm l2 (λy=>aI y (x::l1))=sm l2 (λy=>aI y l1):=fE λy hy=>dN (by
    rw[mem_cons]
    exact⟨λz=>z.elim (λz=>absurd (by rw[<- z];exact hy) a) id,.inr⟩)
   rw[cj,e,ih c,show aI x (x::l1)=1 from Du.ind_pos mem_cons_self,length_cons]
   push_cast
   grind
 have e:sm P (λx=>aI x k)=sm P (λx=>aI x s):=fE λx _=>dN (g.mem_iff.symm)
 rw[e,d j f,g.length_eq]
section
variable {C:Nat}{lo hi:Int}{P:List Int}{e:Int->Int->Rat}{W:Rws}
theorem Rp.sym(h:Rp C lo hi P e W){x y:Int}(a:x∈P)(b:y∈P):e x y=e y x:=by
 rw[<- h.sh x a y b,<- h.sh y b x a];exact ba λw _=>gL w.1
theorem Rp.nn(h:Rp C lo hi P e W){x y:Int}(a:x∈P)(b:y∈P):0<=e x y:=by
 rw[<- h.sh x a y b];exact uo h.pr.nn λw _=>(oG _).1
theorem Rp.le(h:Rp C lo hi P e W){x y:Int}(c:x∈P)(d:y∈P):e x y<=e x x:=by
 rw[<- h.sh x c y d,<- h.sh1 c];refine qT h.pr.nn λw _=>?_
 rw[gp];have a:=oG (x∈w.1);have b:=oG (y∈w.1);have:=Rat.mul_le_mul_of_nonneg_left b.2 a.1;show ind (x∈w.1)*ind (y∈w.1)<=ind (x∈w.1)
 grind
theorem Rp.le1(h:Rp C lo hi P e W){x:Int}(a:x∈P):e x x<=1:=by
 rw[<- h.sh1 a,<- h.pr.one];exact qT h.pr.nn λw _=>(oG _).2
theorem Rp.ge(h:Rp C lo hi P e W){x y:Int}(c:x∈P)(d:y∈P):e x x+e y y+(-1)<=e x y:=by
 have k:SW (λk=>aI x k+aI y k+(-1)) W<=SW (aR x y) W:=qT h.pr.nn λw _=>by
  show ind (x∈w.1)+ind (y∈w.1)+(-1)<=ind (x∈w.1/\y∈w.1)
  by_cases a:x∈w.1 <;> by_cases b:y∈w.1 <;> simp[ind,a,b] <;> grind
 rw[h.sh x c y d,iG,iG,h.sh1 c,h.sh1 d,bX (-1) W h.pr.one]at k;exact k
theorem Rp.tot(h:Rp C lo hi P e W)(c:P.Nodup):(lo:Rat)<=sm P (λx=>e x x)/\sm P (λx=>e x x)<=(hi:Rat):=by
 have f:sm P (λx=>e x x)=SW (λk=>sm P λx=>aI x k) W:=by
  rw[nP];exact fE λx b=>(h.sh1 b).symm
 have d:SW (λk=>sm P λx=>aI x k) W=SW (λk=>(k.length:Rat)) W:=ba λw a=>wx c (h.nd w a) (h.pr.kp w a)
 rw[f,d,<- bX (lo:Rat) W h.pr.one,<- bX (hi:Rat) W h.pr.one];refine⟨qT h.pr.nn λw a=>?_,qT h.pr.nn λw a=>?_⟩
 .have:=(h.len w a).1
  exact_mod_cast this
 .have:=(h.len w a).2
  exact_mod_cast this
theorem Rp.row(h:Rp C lo hi P e W)(f:P.Nodup)(j:lo=hi){x:Int}(b:x∈P):sm P (λy=>e x y)=(lo:Rat)*e x x:=by
 have i:sm P (λy=>e x y)=SW (λk=>sm P λy=>aR x y k) W:=by
  rw[nP];exact fE λy c=>(h.sh x b y c).symm
 rw[i,<- h.sh1 b,<- dj];refine ba λw a=>?_
 have g:sm P (λy=>aR x y w.1)=sm P (λy=>aI x w.1*aI y w.1):=fE λy _=>gp w.1
 have l:=h.len w a
 have d:((w.1.length:Nat):Rat)=(lo:Rat):=by
  have:(w.1.length:Int)=lo:=by lia
  exact_mod_cast this
 rw[g,jK,wx f (h.nd w a) (h.pr.kp w a),d]
 grind
theorem Rp.bqe(h:Rp C lo hi P e W){x y:Int}(a:x∈P)(b:y∈P):Bq C (e x y):=by
 refine⟨h.nn a b,by have:=h.le a b;have:=h.le1 a;grind,?_⟩;rw[<- h.sh x a y b]
 have d:∀ V:Rws,(∀ w∈V,Bq C w.2)->∃ n:Nat,SW (aR x y) V*(C:Rat)=(n:Rat):=by
  intro V
  induction V with
  | nil=>intro _;exact⟨0,by rw[jV];push_cast;grind⟩
  | cons w V ih =>
   intro f;obtain⟨n,i⟩:=ih λv hv=>f v (mem_cons_of_mem _ hv)
   obtain⟨_,_,m,g⟩:=f w mem_cons_self;rw[a6]
   by_cases c:x∈w.1/\y∈w.1
   .refine⟨m+n,?_⟩
    rw[show aR x y w.1=1 from Du.ind_pos c]
    push_cast
    grind
   .refine⟨n,?_⟩
    rw[show aR x y w.1=0 from Du.ind_neg c]
    grind
 exact d W h.bq
end
theorem Eo(q:Rat):0<=q*q:=by
 rcases(by grind:0<=q\/0<=-q) with h | h
 .exact Rat.mul_nonneg h h
 .have:=Rat.mul_nonneg h h;grind
def part(e:Int->Int->Rat)(v:Int->Rat)(x y:Int):Rat:=(e x y/(e x x*e y y)+(-1))*(v x*v y)
theorem Ds(P:List Int)(g:Int->Rat):sm P (λx=>sm P λy=>g x*g y)=sm P g*sm P g:=by
 have e:∀ x∈P,sm P (λy=>g x*g y)=sm P g*g x:=λx _=>by rw[jK];grind
 rw[fE e,jK]
theorem Rp.spread{C:Nat}{lo hi:Int}{P:List Int}{e:Int->Int->Rat}{W:Rws}(h:Rp C lo hi P e W){S:List Int}(d:∀ x∈S,x∈P/\e x x≠0)(v:Int->Rat) :
  sm S (λx=>sm S λy=>part e v x y)=SW (λk=>(sm S (λx=>v x/e x x*aI x k)+(-1)*sm S v)*(sm S (λx=>v x/e x x*aI x k)+(-1)*sm S v)) W:=by
 generalize hm:sm S v=mu
 have l:∀ k:List Int,(sm S (λx=>v x/e x x*aI x k)+(-1)*mu)*(sm S (λx=>v x/e x x*aI x k)+(-1)*mu)=sm S (λx=>sm S λy=>v x/e x x*aI x k*(v y/e y y*aI y k))+((-2)*mu)*sm S (λx=>v x/e x x*aI x k)+mu*mu:=λk=>by
  rw[Ds];grind
 rw[ba (ψ:=λk=>sm S (λx=>sm S λy=>v x/e x x*aI x k*(v y/e y y*aI y k))+((-2)*mu)*sm S (λx=>v x/e x x*aI x k)+mu*mu) λw _=>l w.1,iG,iG,dj,bX _ W h.pr.one,nP,nP]
 have j:sm S (λx=>SW (λk=>v x/e x x*aI x k) W)=mu:=by
  rw[<- hm];refine fE λx c=>?_
  have:=(d x c).2;rw[dj,h.sh1 (d x c).1]
  grind
 have g:∀ x∈S,SW (λk=>sm S λy=>v x/e x x*aI x k*(v y/e y y*aI y k)) W=sm S λy=>v x/e x x*(v y/e y y)*e x y:=λx c=>by
  rw[nP];refine fE λy f=>?_
  rw[<- h.sh x (d x c).1 y (d y f).1,<- dj];exact ba λw _=>by rw[gp];grind
 rw[fE g,j]
 have m:∀ x∈S,sm S (λy=>part e v x y)=sm S (λy=>v x/e x x*(v y/e y y)*e x y)+(-1)*mu*v x:=λx c=>by
  have i:∀ y∈S,part e v x y=v x/e x x*(v y/e y y)*e x y+((-1)*v x)*v y:=λy f=>by
   have a:=(d x c).2;have b:=(d y f).2;unfold part
   grind
  rw[fE i,tG,jK,hm]
  grind
 rw[fE m,tG,jK,hm]
 grind
theorem Rp.spread_nn{C:Nat}{lo hi:Int}{P:List Int}{e:Int->Int->Rat}{W:Rws}(h:Rp C lo hi P e W){S:List Int}(a:∀ x∈S,x∈P/\e x x≠0)(v:Int->Rat):0<=sm S (λx=>sm S λy=>part e v x y):=by
 rw[h.spread a v];exact uo h.pr.nn λw _=>Eo _
open Du (SW aI aR ind Bq)
open Tb (so so_perm Rws wF wS every wf)
theorem gF(l t:List Int)(q:Rat):wF l 0 t q=[(t,q)]:=by cases l <;> simp[wF]
theorem jD{l:List Int}{w:Nat}{t:List Int}{q:Rat}(h:l.length<=w):wF l w t q=[(t++l,q)]:=by
 cases l with
 | nil=>simp[wF]
 | cons x r =>
  have a:w≠0:=by rw[length_cons]at h;lia
  rw[wF,if_neg a,if_pos (show r.length+1<=w from h)]
theorem gN{x:Int}{r:List Int}{w:Nat}{t:List Int}{q:Rat}(d:0<w)(e:w<r.length+1):wF (x::r) w t q=wF r (w - 1) (t++[x]) (q*((w:Rat)/((r.length+1:Nat):Rat)))++wF r w t (q*(((r.length+1:Nat):Rat) - (w:Rat))/((r.length+1:Nat):Rat)):=by
 rw[wF,if_neg (by lia),if_neg (by lia)]
 have c:(((w:Int)+((r.length:Int)+1 - (w:Int)):Int):Rat)=((r.length+1:Nat):Rat):=by
  have:(w:Int)+((r.length:Int)+1 - (w:Int))=((r.length+1:Nat):Int):=by lia
  rw[this];rfl
 have b:(((w:Int):Int):Rat)=(w:Rat):=rfl;have a:(((r.length:Int)+1 - (w:Int):Int):Rat)=((r.length+1:Nat):Rat) - (w:Rat):=by push_cast;rfl
 rw[c,b,a]
 congr 2
 grind
theorem dH{M:List Int->Nat->List Int->Rat->Prop}(b:∀ l t q,M l 0 t q)(a:∀ l w t q,l.length<=w->M l w t q)
  (e:∀ x r w t q,0<w->w<r.length+1->M r (w - 1) (t++[x]) (q*((w:Rat)/((r.length+1:Nat):Rat)))->M r w t (q*(((r.length+1:Nat):Rat) - (w:Rat))/((r.length+1:Nat):Rat))->M (x::r) w t q):∀ l w t q,M l w t q
 | [],w,t,q=>a [] w t q (Nat.zero_le _)
 | x::r,w,t,q=>by
  by_cases c:w=0
  .rw[c];exact b _ _ _
  .by_cases d:r.length+1<=w
   .exact a _ _ _ _ d
   .exact e x r w t q (by lia) (by lia) (dH b a e r _ _ _) (dH b a e r _ _ _)
theorem eP(φ:List Int->Rat)(t:List Int)(q:Rat):SW φ [(t,q)]=q*φ t:=by rw[a6,jV];grind
theorem tD{n:Nat}:((n+1:Nat):Rat)≠0:=by
 intro z;have:(n+1:Nat)=0:=by exact_mod_cast z
 lia
theorem xy:∀(l:List Int) (w:Nat) (t:List Int) (q:Rat),SW (λ_=>1) (wF l w t q)=q:=by
 refine dH (λl t q=>?_) (λl w t q h=>?_) λx r w t q h0 h1 i1 i2=>?_
 .rw[gF,eP];grind
 .rw[jD h,eP];grind
 .rw[gN h0 h1,qr,i1,i2]
  have:=tD (n:=r.length)
  grind
theorem Dv:∀(l:List Int) (w:Nat) (t:List Int) (q:Rat),0<=q->∀ v∈wF l w t q,0<=v.2:=by
 refine dH (λl t q a v hv=>?_) (λl w t q h a v hv=>?_) λx r w t q h0 h1 i1 i2 a v hv=>?_
 .rw[gF]at hv;cases mem_singleton.mp hv;exact a
 .rw[jD h]at hv;cases mem_singleton.mp hv;exact a
 .rw[gN h0 h1]at hv
  have b:(0:Rat)<((r.length+1:Nat):Rat):=by exact_mod_cast Nat.succ_pos _
  have c:(0:Rat)<=(w:Rat):=by exact_mod_cast Nat.zero_le _
  have d:(w:Rat)<=((r.length+1:Nat):Rat):=by exact_mod_cast Nat.le_of_lt h1
  rcases mem_append.mp hv with hv | hv
  .exact i1 (Rat.mul_nonneg a (Du.div_nn c b)) v hv
  .exact i2 (Du.div_nn (Rat.mul_nonneg a (by grind)) b) v hv
theorem lE:∀(l:List Int) (w:Nat) (t:List Int) (q:Rat),∀ v∈wF l w t q,∃ s:List Int,v.1=t++s/\s.Sublist l/\s.length=min w l.length:=by
 refine dH (λl t q v hv=>?_) (λl w t q h v hv=>?_) λx r w t q h0 h1 i1 i2 v hv=>?_
 .rw[gF]at hv;cases mem_singleton.mp hv;exact⟨[],by rw[append_nil],List.nil_sublist _,by simp⟩
 .rw[jD h]at hv;cases mem_singleton.mp hv;exact⟨l,rfl,List.Sublist.refl _,by lia⟩
 .rw[gN h0 h1]at hv
  rcases mem_append.mp hv with hv | hv
  .obtain⟨s,b,c,a⟩:=i1 v hv
   exact⟨x::s,by rw[b,append_assoc];rfl,c.cons_cons x,by rw[length_cons,length_cons,a];lia⟩
  .obtain⟨s,b,c,a⟩:=i2 v hv
   exact⟨s,b,c.cons x,by rw[length_cons,a];lia⟩
def fct:Nat->Nat
 | 0=>1
 | n+1=>(n+1)*fct n
theorem uK:∀ n,0<fct n
 | 0=>Nat.one_pos
 | n+1=>Nat.mul_pos (Nat.succ_pos n) (uK n)
theorem gT{a b:Nat}(h:a<=b)(e:0<b):Bq b ((a:Rat)/(b:Rat)):=by
 have c:(0:Rat)<(b:Rat):=by exact_mod_cast e
 have d:(0:Rat)<=(a:Rat):=by exact_mod_cast Nat.zero_le _
 have f:(a:Rat)<=(b:Rat):=by exact_mod_cast h
 refine⟨Du.div_nn d c,?_,a,by grind⟩;have:=Du.div_nn (show(0:Rat)<=(b:Rat) - (a:Rat) by grind) c
 grind
theorem DD:∀(l:List Int) (w:Nat) (t:List Int) (q:Rat),∀ D,Bq D q->∀ v∈wF l w t q,Bq (D*fct l.length) v.2:=by
 refine dH (λl t q D a v hv=>?_) (λl w t q h D a v hv=>?_) λx r w t q h0 h1 i1 i2 D a v hv=>?_
 .rw[gF]at hv;cases mem_singleton.mp hv;exact xw a
 .rw[jD h]at hv;cases mem_singleton.mp hv;exact xw a
 .rw[gN h0 h1]at hv
  rw[length_cons,fct,<- Nat.mul_assoc]
  rcases mem_append.mp hv with hv | hv
  .exact i1 _ (o5 a (gT (Nat.le_of_lt h1) (Nat.succ_pos _))) v hv
  .refine i2 _ ?_ v hv
   have e:q*(((r.length+1:Nat):Rat) - (w:Rat))/((r.length+1:Nat):Rat)=q*(((r.length+1 - w:Nat):Rat)/((r.length+1:Nat):Rat)):=by
    have:((r.length+1 - w:Nat):Rat)=((r.length+1:Nat):Rat) - (w:Rat):=by
     have c:((r.length+1 - w:Nat):Int)=((r.length+1:Nat):Int) - (w:Int):=by lia
     have b:(((r.length+1 - w:Nat):Int):Rat)=(((r.length+1:Nat):Int) - (w:Int):Int):=by rw[c]
     rw[Rat.intCast_sub]at b;exact b
    rw[this]
    grind
   rw[e];exact o5 a (gT (by lia) (Nat.succ_pos _))
theorem Bl{l:List Int}{w:Nat}{t:List Int}{q:Rat}{x:Int}(a:x∈t):∀ v∈wF l w t q,x∈v.1:=λv b=>by
 obtain⟨s,e,_⟩:=lE l w t q v b;rw[e];exact mem_append_left _ a
theorem xA{l:List Int}{w:Nat}{t:List Int}{q:Rat}{x:Int}(d:x ∉ t)(b:x ∉ l):∀ v∈wF l w t q,x ∉ v.1:=λv a z=>by
 obtain⟨s,e,c,_⟩:=lE l w t q v a;rw[e]at z
 rcases mem_append.mp z with z | z
 .exact d z
 .exact b (c.subset z)
theorem sK{φ:List Int->Rat}{c:Rat}{l:List Int}{w:Nat}{t:List Int}{q:Rat}(h:∀ v∈wF l w t q,φ v.1=c):SW φ (wF l w t q)=q*c:=by
 have e:SW φ (wF l w t q)=SW (λk=>c*(λ_=>1) k) (wF l w t q):=ba λv hv=>by rw[h v hv];grind
 rw[e,dj,xy]
 grind
def mn(w n:Nat):Rat:=((min w n:Nat):Rat)
theorem tO:∀(l:List Int) (w:Nat) (t:List Int) (q:Rat),l.Nodup->∀ y∈l,y ∉ t->(∀ z∈l,z ∉ t)->SW (aI y) (wF l w t q)=q*(mn w l.length/(l.length:Rat)):=by
 refine dH (λl t q i y hy b f=>?_) (λl w t q h i y hy b f=>?_) λx r w t q h0 h1 i1 i2 i y hy b f=>?_
 .rw[gF,eP,show aI y t=0 from Du.ind_neg b]
  have:mn 0 l.length=0:=by unfold mn;rw[Nat.zero_min];rfl
  rw[this];grind
 .rw[jD h,eP,show aI y (t++l)=1 from Du.ind_pos (mem_append_right _ hy)]
  have e:mn w l.length=(l.length:Rat):=by unfold mn;rw[Nat.min_eq_right h]
  have F:(l.length:Rat)≠0:=by
   intro z;have:l.length=0:=by exact_mod_cast z
   rw[length_eq_zero_iff.mp this]at hy;cases hy
  rw[e];grind
 .obtain⟨g,s⟩:=nodup_cons.mp i
  rw[gN h0 h1,qr,length_cons];have j:=tD (n:=r.length);have A:mn w (r.length+1)=(w:Rat):=by unfold mn;rw[Nat.min_eq_left (Nat.le_of_lt h1)]
  rw[A]
  rcases mem_cons.mp hy with rfl | hy
  .rw[sK (c:=1) λv m=>Du.ind_pos (Bl (mem_append_right _ mem_cons_self) v m),sK (c:=0) λv m=>Du.ind_neg (xA b g v m)]
   grind
  .have E:y≠x:=λz=>g (z ▸ hy)
   have o:∀ z∈r,z ∉ t++[x]:=λz d a=>by
    rcases mem_append.mp a with a | a
    .exact f z (mem_cons_of_mem _ d) a
    .exact g (mem_singleton.mp a ▸ d)
   rw[i1 s y hy (o y hy) o,i2 s y hy b λz d=>f z (mem_cons_of_mem _ d)]
   have D:mn (w - 1) r.length=(w:Rat) - 1:=by
    unfold mn;rw[Nat.min_eq_left (by lia)];have:((w - 1:Nat):Int)=(w:Int) - 1:=by lia
    have p:(((w - 1:Nat):Int):Rat)=(((w:Int) - 1:Int):Rat):=by rw[this]
    rw[Rat.intCast_sub]at p;exact p
   have C:mn w r.length=(w:Rat):=by unfold mn;rw[Nat.min_eq_left (by lia)]
   have u:(r.length:Rat)≠0:=by
    intro z;have:r.length=0:=by exact_mod_cast z
    rw[length_eq_zero_iff.mp this]at hy;cases hy
   have B:((r.length+1:Nat):Rat)=(r.length:Rat)+1:=by push_cast;rfl
   rw[D,C];rw[B]at j ⊢;generalize (r.length:Rat)=n at *
   grind
theorem Ar:∀(l:List Int) (w:Nat) (t:List Int) (q:Rat),l.Nodup->∀ y∈l,∀ z∈l,y≠z->(∀ u∈l,u ∉ t)->SW (aR y z) (wF l w t q)=q*(mn w l.length*(mn w l.length - 1)/((l.length:Rat)*((l.length:Rat) - 1))):=by
 refine dH (λl t q s y i z g d m=>?_) (λl w t q h s y i z g d m=>?_) λx r w t q h0 A i1 i2 s y i z g d m=>?_
 .rw[gF,eP,show aR y z t=0 from Du.ind_neg λa=>m y i a.1]
  have:mn 0 l.length=0:=by unfold mn;rw[Nat.zero_min];rfl
  rw[this];grind
 .rw[jD h,eP,show aR y z (t++l)=1 from Du.ind_pos ⟨mem_append_right _ i,mem_append_right _ g⟩]
  have e:mn w l.length=(l.length:Rat):=by unfold mn;rw[Nat.min_eq_right h]
  have Q:2<=l.length:=by
   match l,i,g with
   | [a],i,g=>exact absurd ((mem_singleton.mp i).trans (mem_singleton.mp g).symm) d
   | _::_::_,_,_=>simp
  have A:(l.length:Rat)≠0:=by intro z;have:l.length=0:=(by exact_mod_cast z);lia
  have O:(l.length:Rat)≠1:=by intro z;have:l.length=1:=(by exact_mod_cast z);lia
  rw[e];grind
 .obtain⟨K,C⟩:=nodup_cons.mp s
  rw[gN h0 A,qr,length_cons];have o:=tD (n:=r.length);have J:mn w (r.length+1)=(w:Rat):=by unfold mn;rw[Nat.min_eq_left (Nat.le_of_lt A)]
  have G:mn (w - 1) r.length=(w:Rat) - 1:=by
   unfold mn;rw[Nat.min_eq_left (by lia)];have:((w - 1:Nat):Int)=(w:Int) - 1:=by lia
   have I:(((w - 1:Nat):Int):Rat)=(((w:Int) - 1:Int):Rat):=by rw[this]
   rw[Rat.intCast_sub]at I;exact I
  have P:mn w r.length=(w:Rat):=by unfold mn;rw[Nat.min_eq_left (by lia)]
  have H:((r.length+1:Nat):Rat)=(r.length:Rat)+1:=by push_cast;rfl
  have L:∀ u∈r,u ∉ t:=λu f=>m u (mem_cons_of_mem _ f)
  have E:∀ u∈r,u ∉ t++[x]:=λu f a=>by
   rcases mem_append.mp a with a | a
   .exact L u f a
   .exact K (mem_singleton.mp a ▸ f)
  have j:∀{u:Int},u∈r->(r.length:Rat)≠0:=λ{u} f z=>by
   have:r.length=0:=by exact_mod_cast z
   rw[length_eq_zero_iff.mp this]at f;cases f
  have D:∀ F,∀ v∈wF r (w - 1) (t++[x]) F,x∈v.1:=λF=>Bl (mem_append_right _ mem_cons_self)
  have M:x ∉ t:=m x mem_cons_self
  have p:∀ u∈r,SW (aR x u) (wF r (w - 1) (t++[x]) (q*((w:Rat)/((r.length+1:Nat):Rat))))+SW (aR x u) (wF r w t (q*(((r.length+1:Nat):Rat) - (w:Rat))/((r.length+1:Nat):Rat)))=q*(mn w (r.length+1)*(mn w (r.length+1) - 1)/(((r.length+1:Nat):Rat)*(((r.length+1:Nat):Rat) - 1))):=λu f=>by
   have N:SW (aR x u) (wF r (w - 1) (t++[x]) (q*((w:Rat)/((r.length+1:Nat):Rat))))=SW (aI u) (wF r (w - 1) (t++[x]) (q*((w:Rat)/((r.length+1:Nat):Rat)))):=ba λv B=>dN ⟨λz=>z.2,λz=>⟨D _ v B,z⟩⟩
   rw[N,tO _ _ _ _ C u f (E u f) E,sK (c:=0) λv B=>Du.ind_neg λz=>xA M K v B z.1,J,G];have:=j f;rw[H]at o ⊢;generalize (r.length:Rat)=n at *
   grind
  rcases mem_cons.mp i with rfl | hy'
  .rcases mem_cons.mp g with rfl | hz'
   .exact absurd rfl d
   .exact p z hz'
  .rcases mem_cons.mp g with rfl | hz'
   .rw[ba λv _=>gL (x:=y) (y:=z) v.1,ba (W:=wF r w t _) λv _=>gL (x:=y) (y:=z) v.1]
    exact p y hy'
   .rw[i1 C y hy' z hz' d E,i2 C y hy' z hz' d L,J,G,P]
    have O:(r.length:Rat)≠1:=by
     intro a;have:r.length=1:=by exact_mod_cast a
     match r,this,hy',hz' with
     | [b],_,i,g=>exact d ((mem_singleton.mp i).trans (mem_singleton.mp g).symm)
    have:=j hy';rw[H]at o ⊢;generalize (r.length:Rat)=n at *
    grind
def eF(n w:Nat)(x y:Int):Rat:=if x=y then mn w n/(n:Rat) else mn w n*(mn w n - 1)/((n:Rat)*((n:Rat) - 1))
theorem BQ{l:List Int}(f:l.Nodup)(m:Nat):Rp (fct l.length) ((min m l.length:Nat):Int) ((min m l.length:Nat):Int) l (eF l.length m) (wF l m [] 1):=by
 refine⟨uK _,by lia,by lia,⟨Dv _ _ _ _ (by grind),xy _ _ _ _,λv a x b=>?_⟩,λv a=>?_,λv a=>?_,λv a=>?_,λx b y hy=>?_⟩
 .obtain⟨s,e,d,g⟩:=lE _ _ _ _ v a
  rw[e]at b;exact d.subset b
 .obtain⟨s,e,d,g⟩:=lE _ _ _ _ v a
  rw[e];exact f.sublist d
 .obtain⟨s,e,d,g⟩:=lE _ _ _ _ v a
  rw[e,nil_append];lia
 .have:=DD l m [] 1 1 ⟨by grind,by grind,1,by push_cast;grind⟩ v a
  rw[Nat.one_mul]at this;exact this
 .unfold eF
  by_cases c:x=y
  .subst c
   rw[if_pos rfl,ba λv _=>cZ v.1,tO l m [] 1 f x b (by simp) (by simp)]
   grind
  .rw[if_neg c,Ar l m [] 1 f x b y hy c (by simp)]
   grind
end Rp
namespace Tb
open FrM Du
def su(L:TL):List Int:=(L.filter λx=>decide (x.2=(1,1))).map (·.1)
def op(L:TL):TL:=L.filter λx=>uns x.2
def Ed(L:TL):Prop:=∀ x∈L,uns x.2=true\/x.2=(1,1)\/x.2=(0,1)
theorem sL{L:TL}(a:(L.map (·.1)).Nodup){x y:Int×(Int×Int)}(b:x∈L)(c:y∈L)(e:x.1=y.1):x=y:=by
 induction L with
 | nil=>cases b
 | cons z r ih =>
  rw[map_cons,nodup_cons]at a
  rcases mem_cons.mp b with h1 | h1 <;> rcases mem_cons.mp c with h2 | h2
  .rw[h1,h2]
  .exact absurd (mem_map.mpr ⟨y,h2,by rw[<- e,h1]⟩) a.1
  .exact absurd (mem_map.mpr ⟨x,h1,by rw[e,h2]⟩) a.1
  .exact ih a.2 h1 h2
theorem uZ:∀{tl:TL},(tl.map (·.1)).Nodup->∀ x∈tl,prl tl x.1=pq x.2
 | (p,c)::r,nd,x,hx=>by
  rw[map_cons,nodup_cons]at nd;rw[prl]
  rcases mem_cons.mp hx with h1 | h1
  .rw[h1,if_pos rfl]
  .rw[if_neg (λz=>nd.1 (mem_map.mpr ⟨x,h1,z⟩)),uZ nd.2 x h1]
theorem uJ:uns (1,1)=false:=by decide
theorem xL:uns (0,1)=false:=by decide
theorem op_sub(L:TL):((op L).map (·.1)).Sublist (L.map (·.1)):=(filter_sublist).map _
theorem su_sub(L:TL):(su L).Sublist (L.map (·.1)):=(filter_sublist).map _
theorem suop_nd{L:TL}(c:(L.map (·.1)).Nodup):(su L++(op L).map (·.1)).Nodup:=by
 refine nodup_append.mpr ⟨c.sublist (su_sub L),c.sublist (op_sub L),λa o b j e=>?_⟩;obtain⟨x,l,rfl⟩:=mem_map.mp o;obtain⟨y,i,rfl⟩:=mem_map.mp j;have h:=mem_filter.mp l;have f:=mem_filter.mp i;have d:=sL c h.1 f.1 e;have m:=of_decide_eq_true h.2;have g:uns y.2=true:=f.2;rw[<- d,m,uJ]at g;cases g
theorem pr_of{L:TL}(f:(L.map (·.1)).Nodup)(i:Ed L):∀ x∈L,pr (op L) (su L) x.1=pq x.2:=λx a=>by
 unfold pr
 have d:x.1∈su L↔x.2=(1,1):=by
  refine⟨λz=>?_,λz=>mem_map.mpr ⟨x,mem_filter.mpr ⟨a,decide_eq_true z⟩,rfl⟩⟩;obtain⟨y,c,e⟩:=mem_map.mp z;have b:=mem_filter.mp c;rw[sL f a b.1 e.symm];exact of_decide_eq_true b.2
 rcases i x a with h | h | h
 .rw[if_neg (λz=>by rw[d.mp z,uJ]at h;cases h)]
  exact uZ (f.sublist (op_sub L)) x (mem_filter.mpr ⟨a,h⟩)
 .rw[if_pos (d.mpr h),h]
  unfold pq;simp;grind
 .rw[if_neg (λz=>by have:=d.mp z;rw[h]at this;cases this),oJ,h]
  .unfold pq;simp;grind
  .intro z
   obtain⟨y,c,e⟩:=mem_map.mp z;have b:=mem_filter.mp c;have g:uns y.2=true:=b.2;rw[sL f b.1 a e,h,xL]at g;cases g
theorem su_len(L:TL):(su L).length=L.countP λx=>decide (x.2=(1,1)):=by unfold su;rw[length_map,List.countP_eq_length_filter]
theorem all_len:∀{L:TL},Ed L->(su L).length+(op L).length+(L.countP λx=>decide (x.2=(0,1)))=L.length
 | [],_=>rfl
 | x::L,ed=>by
  have d:=all_len (L:=L) λy e=>ed y (mem_cons_of_mem _ e)
  rw[su_len]at d ⊢;unfold op at d ⊢;rw[List.countP_cons,List.countP_cons,filter_cons,length_cons]
  rcases ed x mem_cons_self with h | h | h
  .have a:¬x.2=(1,1):=λz=>by rw[z,uJ]at h;cases h
   have b:¬x.2=(0,1):=λz=>by rw[z,xL]at h;cases h
   rw[if_pos h,length_cons,if_neg (by simpa using a),if_neg (by simpa using b)];lia
  .have c:¬uns x.2=true:=by rw[h,uJ];decide
   have b:¬x.2=(0,1):=λz=>by rw[z]at h;cases h
   rw[if_neg c,if_pos (decide_eq_true h),if_neg (by simpa using b)];lia
  .have c:¬uns x.2=true:=by rw[h,xL];decide
   have a:¬x.2=(1,1):=λz=>by rw[z]at h;cases h
   rw[if_neg c,if_neg (by simpa using a),if_pos (decide_eq_true h)];lia
theorem un_op(L:TL):Un (op L):=λx a=>of_decide_eq_true (mem_filter.mp a).2
theorem ndiv_fr(q:Rat):((fr q).1:Rat)/((fr q).2:Rat)=q:=by
 show((q.num:Int):Rat)/(((q.den:Int)):Rat)=q;rw[<- Rat.divInt_eq_div];exact Rat.num_divInt_den q
end Tb
namespace Rp
open Nst
open Du (SW aI aR ind Bq)
open Tb (so so_perm Rws wF wS every wf)
theorem Cy(n st f:Nat)(d:f<st):((List.range n).filter λk=>decide (k % st=f)).length=(n+st - 1 - f)/st:=by
 induction n with
 | zero =>
  rw[range_zero,List.filter_nil,length_nil,Nat.div_eq_of_lt (by lia)]
 | succ n ih =>
  rw[range_succ,filter_append,length_append,ih];have e:n+1+st - 1 - f=(n+st - 1 - f)+1:=by lia
  rw[e,Nat.succ_div]
  have a:st ∣ n+st - 1 - f+1↔n % st=f:=by
   have b:n+st - 1 - f+1=n+(st - f):=by lia
   rw[b,Nat.dvd_iff_mod_eq_zero,Nat.add_mod];have h:n % st<st:=Nat.mod_lt _ (by lia)
   by_cases c:f=0
   .subst c
    rw[Nat.sub_zero,Nat.mod_self,Nat.add_zero,Nat.mod_mod]
   .rw[Nat.mod_eq_of_lt (show st - f<st by lia)]
    constructor
    .intro z
     by_cases g:n % st+(st - f)<st
     .rw[Nat.mod_eq_of_lt g]at z;lia
     .rw[Nat.mod_eq_sub_mod (by lia),Nat.mod_eq_of_lt (by lia)]at z
      lia
    .intro z
     rw[z,show f+(st - f)=st by lia,Nat.mod_self]
  by_cases c:n % st=f
  .rw[if_pos (a.mpr c),filter_cons_of_pos (by simp[c])];rfl
  .rw[if_neg λz=>c (a.mp z),filter_cons_of_neg (by simp[c])];rfl
theorem vJ(a:List Int)(f st:Nat)(g:f<st):(every a f st).length=(a.length+st - 1 - f)/st:=by
 rw[<- Cy a.length st f g];unfold Tb.every
 have d:∀ L:List Nat,(∀ k∈L,k<a.length)->(L.filterMap (a[·]?)).length=L.length:=by
  intro L
  induction L with
  | nil=>intro _;rfl
  | cons k L ih =>
   intro h;have c:=h k mem_cons_self;rw[List.filterMap_cons_some (b:=a[k]) (List.getElem?_eq_getElem c),length_cons,length_cons,ih λj e=>h j (mem_cons_of_mem _ e)]
 exact d _ λk c=>mem_range.mp (mem_filter.mp c).1
theorem gJ{a:List Int}(l:a.Nodup){f st i:Nat}{x:Int}(b:a[i]? = some x):x∈every a f st↔i % st=f:=by
 unfold Tb.every;rw[mem_filterMap]
 constructor
 .rintro⟨k,o,e⟩
  obtain⟨r,c⟩:=mem_filter.mp o
  have m:=(List.getElem?_eq_some_iff.mp b)
  have g:=(List.getElem?_eq_some_iff.mp e)
  obtain⟨s,j⟩:=m;obtain⟨p,d⟩:=g;have:i=k:=(getElem_inj l).mp (j.trans d.symm);rw[this];exact of_decide_eq_true c
 .intro h
  exact⟨i,mem_filter.mpr ⟨mem_range.mpr (List.getElem?_eq_some_iff.mp b).1,decide_eq_true h⟩,b⟩
theorem yD(c:Rat)(st a:Nat):∀ n,((List.range n).map λf=>if a=f then c else 0).sum=if a<n then c else 0
 | 0=>by rw[range_zero];rfl
 | n+1=>by
  rw[range_succ,map_append,sum_append,yD c st a n];simp only[map_cons,map_nil,sum_cons,sum_nil]
  by_cases h:a<n
  .rw[if_pos h,if_neg (show ¬a=n by lia),if_pos (show a<n+1 by lia)];grind
  .by_cases g:a=n
   .rw[if_neg h,if_pos g,if_pos (show a<n+1 by lia)];grind
   .rw[if_neg h,if_neg g,if_neg (show ¬a<n+1 by lia)];grind
def ix(ps:List Int)(x:Int):Nat:=ps.idxOf x
theorem jx{a:List Int}{x:Int}(h:x∈a):a[ix a x]? = some x:=by
 unfold ix;rw[List.getElem?_eq_getElem (List.idxOf_lt_length_of_mem h),List.getElem_idxOf]
theorem qg{a:List Int}(f:a.Nodup){i:Nat}{x:Int}(h:a[i]? = some x):ix a x=i:=by
 have c:=List.mem_of_getElem? h;have e:=jx c;obtain⟨j,d⟩:=List.getElem?_eq_some_iff.mp h;obtain⟨g,b⟩:=List.getElem?_eq_some_iff.mp e;exact((getElem_inj f).mp (d.trans b.symm)).symm
def eS(st:Nat)(ps:List Int)(x y:Int):Rat:=if ix ps x % st=ix ps y % st then 1/(st:Rat) else 0
theorem xK{e:List Int}(l:e.Nodup){st:Nat}(i:1<=st):Rp st ((e.length:Int)/(st:Int)) (((e.length:Int)+(st:Int) - 1)/(st:Int)) e (eS st e) (wS e st):=by
 have C:(0:Rat)<(st:Rat):=by exact_mod_cast i
 have o:∀ φ:List Int->Rat,SW φ (wS e st)=((List.range st).map λf=>1/(st:Rat)*φ (every e f st)).sum:=λφ=>by
  unfold Du.SW Tb.wS;rw[map_map]
  congr 1
  refine map_congr_left λf _=>?_
  show 1*(((1:Int):Rat)/((st:Int):Rat))*φ _=_;have a:((1:Int):Rat)=1:=rfl;have b:(((st:Nat):Int):Rat)=(st:Rat):=rfl;rw[a,b]
  grind
 have g:∀ v∈wS e st,∃ f,f<st/\v=(every e f st,1*(((1:Int):Rat)/((st:Int):Rat))):=λv h=>by
  obtain⟨f,j,rfl⟩:=mem_map.mp h;exact⟨f,mem_range.mp j,rfl⟩
 have r:(1:Rat)*(((1:Int):Rat)/((st:Int):Rat))=((1:Nat):Rat)/(st:Rat):=by
  have a:((1:Int):Rat)=1:=rfl;have b:(((st:Nat):Int):Rat)=(st:Rat):=rfl;have d:((1:Nat):Rat)=1:=rfl;rw[a,b,d]
  grind
 refine⟨i,Int.ediv_nonneg (by lia) (by lia),Int.ediv_nonneg (by lia) (by lia),⟨λv h=>?_,?_,λv h x hx=>?_⟩,λv h=>?_,λv h=>?_,λv h=>?_,λx hx y hy=>?_⟩
 .obtain⟨f,j,rfl⟩:=g v h
  show 0<=(1:Rat)*(((1:Int):Rat)/((st:Int):Rat));rw[r];exact(gT i i).1
 .rw[o]
  have:∀ n,((List.range n).map λ_:Nat=>1/(st:Rat)*(1:Rat)).sum=(n:Rat)*(1/(st:Rat)):=by
   intro n
   induction n with
   | zero=>rw[range_zero];show(0:Rat)=((0:Nat):Rat)*_;push_cast;grind
   | succ n ih =>
    rw[range_succ,map_append,sum_append,ih];simp only[map_cons,map_nil,sum_cons,sum_nil]
    push_cast
    grind
  rw[this]
  grind
 .obtain⟨f,j,rfl⟩:=g v h
  exact(mK e f st).subset hx
 .obtain⟨f,j,rfl⟩:=g v h
  exact l.sublist (mK e f st)
 .obtain⟨f,j,rfl⟩:=g v h
  show _<=(((every e f st).length:Nat):Int)/\(((every e f st).length:Nat):Int)<=_;rw[vJ e f st j];have B:e.length/st<=(e.length+st - 1 - f)/st:=Nat.div_le_div_right (by lia);have w:(e.length+st - 1 - f)/st<=(e.length+st - 1)/st:=Nat.div_le_div_right (by lia);have s:((e.length/st:Nat):Int)=(e.length:Int)/(st:Int):=Int.natCast_ediv _ _
  have u:(((e.length+st - 1)/st:Nat):Int)=((e.length:Int)+(st:Int) - 1)/(st:Int):=by
   rw[Int.natCast_ediv]
   congr 1
   lia
  rw[<- s,<- u];exact⟨by exact_mod_cast B,by exact_mod_cast w⟩
 .obtain⟨f,j,rfl⟩:=g v h
  show Bq st ((1:Rat)*(((1:Int):Rat)/((st:Int):Rat)));rw[r];exact gT i i
 .rw[o]
  have m:=jx hx;have p:=jx hy
  have A:((List.range st).map λf=>1/(st:Rat)*aR x y (every e f st))=(List.range st).map λf=>if ix e x % st=f then (eS st e x y) else 0:=by
   refine map_congr_left λf _=>?_
   unfold eS
   by_cases c:ix e x % st=f
   .rw[if_pos c]
    by_cases d:ix e x % st=ix e y % st
    .rw[if_pos d,show aR x y _=1 from Du.ind_pos ⟨(gJ l m).mpr c,(gJ l p).mpr (d ▸ c)⟩];grind
    .rw[if_neg d,show aR x y _=0 from Du.ind_neg λz=>d (c.trans ((gJ l p).mp z.2).symm)];grind
   .rw[if_neg c,show aR x y _=0 from Du.ind_neg λz=>c ((gJ l m).mp z.1)];grind
  rw[A,yD _ st,if_pos (Nat.mod_lt _ i)]
theorem yv:∀(tl:Tb.TL) (t:List Int) (q:Rat),Tb.Un tl->0<=q->∀ v∈wf (Tb.lT tl t) q,0<=v.2
 | [],t,q,_,hq,v,hv=>by
  rw[Tb.lT,Tb.wf]at hv;cases mem_singleton.mp hv;exact hq
 | (p,c)::r,t,q,h,hq,v,hv=>by
  have b:=h (p,c) mem_cons_self;have d:0<c.1:=b.1;have f:c.1<c.2:=b.2;rw[Tb.wf_lT (show 0<c.2 by lia)]at hv
  have a:(0:Rat)<(c.2:Rat):=by
   have:(0:Int)<c.2:=by lia
   exact_mod_cast this
  have g:(0:Rat)<=(c.1:Rat):=by
   have:(0:Int)<=c.1:=by lia
   exact_mod_cast this
  have j:(c.1:Rat)<=(c.2:Rat):=by
   have:c.1<=c.2:=by lia
   exact_mod_cast this
  have i:0<=Tb.pq c:=Du.div_nn g a
  have e:0<=1 - Tb.pq c:=by
   have:=Du.div_nn (show(0:Rat)<=(c.2:Rat) - (c.1:Rat) by grind) a;unfold Tb.pq
   grind
  rcases mem_append.mp hv with hv | hv
  .exact yv r _ _ h.tl (Rat.mul_nonneg hq i) v hv
  .exact yv r _ _ h.tl (Rat.mul_nonneg hq e) v hv
def eL(p:Int->Rat)(x y:Int):Rat:=if x=y then p x else p x*p y
theorem zh{L:Tb.TL}(h:(L.map (·.1)).Nodup)(i:Tb.Ed L):Rp (Tb.pD (Tb.op L)) ((L.countP λx=>decide (x.2=(1,1)):Nat):Int) ((L.length:Int) - ((L.countP λx=>decide (x.2=(0,1)):Nat):Int)) (L.map (·.1)) (eL (Tb.pr (Tb.op L) (Tb.su L))) (wf (Tb.lT (Tb.op L) (Tb.su L)) 1):=by
 have c:=Tb.un_op L;have f:=Tb.suop_nd h;have j:=Tb.all_len i;have l:=Tb.su_len L;have b:∀ v∈wf (Tb.lT (Tb.op L) (Tb.su L)) 1,∃ s:List Int,v.1=Tb.su L++s/\s.Sublist ((Tb.op L).map (·.1)):=Tb.lT_key _ _ _ c;refine⟨Tb.pD_pos c,by lia,by lia,⟨yv _ _ _ c (by grind),Tb.lT_one _ _ _ c,λv a x hx=>?_⟩,λv a=>?_,λv a=>?_,λv a=>?_,λx hx y hy=>?_⟩
 .obtain⟨s,e,d⟩:=b v a
  rw[e]at hx
  rcases mem_append.mp hx with hx | hx
  .exact(Tb.su_sub L).subset hx
  .exact(Tb.op_sub L).subset (d.subset hx)
 .obtain⟨s,e,d⟩:=b v a
  rw[e];exact f.sublist (d.append_left _)
 .obtain⟨s,e,d⟩:=b v a
  have g:=d.length_le;rw[length_map]at g;rw[e,length_append];lia
 .have:=Tb.lT_bq (Tb.op L) (Tb.su L) 1 1 c ⟨by grind,by grind,1,by push_cast;grind⟩ v a
  rw[Nat.one_mul]at this;exact this
 .rw[Tb.lT_phi _ _ _ x y c f]
  unfold Tb.two eL
  grind
end Rp
namespace FrM
open Du
theorem zU{u b:Int}(g:0<=u)(h:u<=b)(f:0<b):Bq b.toNat ((u:Rat)/(b:Rat)):=by
 have e:((b.toNat:Nat):Rat)=(b:Rat):=by
  have:((b.toNat:Nat):Int)=b:=by lia
  rw[<- this];rfl
 have d:((u.toNat:Nat):Rat)=(u:Rat):=by
  have:((u.toNat:Nat):Int)=u:=by lia
  rw[<- this];rfl
 have a:(0:Rat)<(b:Rat):=by exact_mod_cast f
 have c:(0:Rat)<=(u:Rat):=by exact_mod_cast g
 have i:(u:Rat)<=(b:Rat):=by exact_mod_cast h
 refine⟨div_nn c a,?_,u.toNat,?_⟩
 .have:=div_nn (show(0:Rat)<=(b:Rat) - (u:Rat) by grind) a
  grind
 .rw[e,d]
  grind
end FrM
namespace Rp
open Nst
open Du (SW aI aR ind Bq TQ UnsA upl wQ SQ tq0 settQ unsO keptF entQ In1 Uns dz)
open Tb (Rws)
theorem lw:∀(n:Nat) (tq:TQ) (tk:List Int) (m:Rat),UnsA tq->tq.length<=n->(tk++tq.map (·.1)).Nodup->0<=m->∀ w∈wQ n tq tk m,0<=w.2/\w.1.Nodup/\∀ x∈w.1,x∈tk\/x∈tq.map (·.1)
 | n,[],tk,m,_,_,nd,hm,w,hw=>by
  rw[Du.wQ_nil]at hw;cases mem_singleton.mp hw;simp only[map_nil,append_nil]at nd;exact⟨hm,nd,λx hx=>.inl hx⟩
 | 0,_::_,_,_,_,hn,_,_,_,_=>by rw[length_cons]at hn;lia
 | n+1,[(p,h)],tk,m,u,_,nd,hm,w,hw=>by
  rw[Du.wQ_last]at hw;obtain⟨a,b⟩:=u.cons.1;simp only at a b;simp only[mem_cons,not_mem_nil,or_false]at hw
  rcases hw with rfl | rfl
  .refine⟨Rat.mul_nonneg hm (by grind),nd,λx hx=>?_⟩
   rcases mem_append.mp hx with hx | hx
   .exact .inl hx
   .exact .inr hx
  .exact⟨Rat.mul_nonneg hm (by grind),(nodup_append.mp nd).1,λx hx=>.inl hx⟩
 | n+1,(u,h)::(k,c)::R,tk,m,uu,hn,nd,hm,w,hw=>by
  obtain⟨s,I⟩:=uu.cons;obtain⟨C,l⟩:=I.cons;have G:=s.1;have F:=s.2;have J:=C.1;have H:=C.2;simp only at G F J H;have r:∀ p q,(upl p q R).length<=n:=λp q=>Nat.le_trans Du.upl_len (by simp only[length_cons]at hn;lia)
  rw[Du.wQ_step s C l]at hw;simp only[map_cons]at nd;have B:(tk++(u::R.map (·.1))).Nodup:=nd.sublist (by simp);have v:(tk++(k::R.map (·.1))).Nodup:=nd.sublist (by simp);have E:((tk++[u])++(k::R.map (·.1))).Nodup:=by rw[append_assoc];exact nd
  have D:((tk++[k])++(u::R.map (·.1))).Nodup:=by
   rw[append_assoc];refine(List.Perm.nodup_iff ?_).mp nd;exact List.Perm.append_left tk (List.Perm.swap k u _)
  have o:∀{p:Int}{q:Rat}{x:Int},x∈(upl p q R).map (·.1)->x=p\/x∈R.map (·.1):=Du.upl_mem
  have e:∀{p:Int}{x:Int},p=u\/p=k->x∈(upl p (h+c) R).map (·.1)\/x∈(upl p (h+c - 1) R).map (·.1)->x∈((u,h)::(k,c)::R).map (·.1):=λ{p x} A hx=>by
   have:x=p\/x∈R.map (·.1):=hx.elim o o;simp only[map_cons,mem_cons]
   rcases this with rfl | hx
   .rcases A with rfl | rfl
    .exact .inl rfl
    .exact .inr (.inl rfl)
   .exact .inr (.inr hx)
  by_cases z:h+c<1
  .rw[if_pos z]at hw
   have d:(0:Rat)<h+c:=by grind
   rcases mem_append.mp hw with hw | hw
   .obtain⟨f,i,g⟩:=lw n _ _ _ (UnsA.upl (by grind) z l) (r _ _) (Du.upl_nd B) (Rat.mul_nonneg hm (Du.div_nn (by grind) d)) w hw
    exact⟨f,i,λx hx=>(g x hx).imp id λy=>e (.inl rfl) (.inl y)⟩
   .obtain⟨f,i,g⟩:=lw n _ _ _ (UnsA.upl (by grind) z l) (r _ _) (Du.upl_nd v) (Rat.mul_nonneg hm (Du.div_nn (by grind) d)) w hw
    exact⟨f,i,λx hx=>(g x hx).imp id λy=>e (.inr rfl) (.inl y)⟩
  .rw[if_neg z]at hw
   have d:(0:Rat)<2 - (h+c):=by grind
   have j:∀{p:Int},p=u\/p=k->∀{x:Int},x∈tk++[p]->x∈tk\/x∈((u,h)::(k,c)::R).map (·.1):=λ{p} A {x} hx=>by
    rcases mem_append.mp hx with hx | hx
    .exact .inl hx
    .rw[mem_singleton.mp hx]
     simp only[map_cons,mem_cons]
     rcases A with rfl | rfl
     .exact .inr (.inl rfl)
     .exact .inr (.inr (.inl rfl))
   rcases mem_append.mp hw with hw | hw
   .obtain⟨f,i,g⟩:=lw n _ _ _ (UnsA.upl (by grind) (by grind) l) (r _ _) (Du.upl_nd E) (Rat.mul_nonneg hm (Du.div_nn (by grind) d)) w hw
    exact⟨f,i,λx hx=>(g x hx).elim (j (.inl rfl)) λy=>.inr (e (.inr rfl) (.inr y))⟩
   .obtain⟨f,i,g⟩:=lw n _ _ _ (UnsA.upl (by grind) (by grind) l) (r _ _) (Du.upl_nd D) (Rat.mul_nonneg hm (Du.div_nn (by grind) d)) w hw
    exact⟨f,i,λx hx=>(g x hx).elim (j (.inr rfl)) λy=>.inr (e (.inl rfl) (.inr y))⟩
def at_(ps:List Int)(i:Int):Int:=ps.getD i.toNat 0
def mpW(ps:List Int)(W:Rws):Rws:=W.map λw=>(w.1.map (at_ ps),w.2)
theorem tE(φ:List Int->Rat)(a:List Int):∀ W:Rws,SW φ (mpW a W)=SW (λk=>φ (k.map (at_ a))) W
 | []=>rfl
 | w::W=>by
  have:=tE φ a W;unfold mpW at this ⊢;rw[map_cons,a6,a6,this]
theorem nY{a:List Int}{i:Int}(h:i∈rg a.length):a[i.toNat]? = some (at_ a i):=by
 obtain⟨b,c⟩:=mem_rg.mp h;unfold at_;rw[List.getD_eq_getElem?_getD,List.getElem?_eq_getElem (show i.toNat<a.length by lia)];rfl
theorem yq{c:List Int}(d:c.Nodup){i j:Int}(hi:i∈rg c.length)(g:j∈rg c.length)(e:at_ c i=at_ c j):i=j:=by
 have f:=nY hi;have h:=nY g;rw[e]at f;have:=(qg d f).symm.trans (qg d h);have a:=mem_rg.mp hi;have b:=mem_rg.mp g;lia
theorem wG{b:List Int}(c:b.Nodup):∀{k:List Int},k.Nodup->(∀ x∈k,x∈rg b.length)->(k.map (at_ b)).Nodup
 | [],_,_=>nodup_nil
 | x::k,h,g=>by
  obtain⟨f,d⟩:=nodup_cons.mp h;rw[map_cons];refine nodup_cons.mpr ⟨λz=>?_,wG c d λy a=>g y (mem_cons_of_mem _ a)⟩;obtain⟨y,a,e⟩:=mem_map.mp z;have:=yq c (g y (mem_cons_of_mem _ a)) (g x mem_cons_self) e;exact f (this ▸ a)
theorem me{a:List Int}(i:a.Nodup){k:List Int}(g:∀ x∈k,x∈rg a.length){x:Int}(h:x∈a):x∈k.map (at_ a)↔(ix a x:Int)∈k:=by
 have d:=jx h;have j:=(List.getElem?_eq_some_iff.mp d).1;have c:(ix a x:Int)∈rg a.length:=mem_rg.mpr ⟨by lia,by lia⟩
 have f:at_ a (ix a x:Int)=x:=by
  have:=nY c;rw[Int.toNat_natCast,d]at this;exact(Option.some.inj this).symm
 constructor
 .intro z
  obtain⟨y,b,e⟩:=mem_map.mp z;have:=yq i (g y b) c (e.trans f.symm);rw[<- this];exact b
 .intro z
  exact mem_map.mpr ⟨_,z,f⟩
structure Dq(z:List Int)(m:Nat)(B:Nat)(qs:List Rat):Prop where
 B0:0<B
 B1:(B:Int)<=max 1 z.sum
 len:qs.length=z.length
 eq:qs.map Du.fr=FrM.due z (m:Nat)
 bq:∀ q∈qs,Bq B q
 sum:qs.sum=((min m z.length:Nat):Rat)
def eD(qs:List Rat)(ps:List Int)(x y:Int):Rat:=entQ qs (keptF (unsO qs (List.range ps.length))) (ix ps x) (ix ps y)
theorem Am{d:List Int}(I:d.Nodup){z:List Int}{m B:Nat}{qs:List Rat}(h:Dq z m B qs)(Q:d.length=z.length) :
  ∃ D W,D<=(2*B) ^ d.length/\Rp D ((min m d.length:Nat):Int) ((min m d.length:Nat):Int) d (eD qs d) W:=by
 have C:∀ q∈qs,In1 q:=λq M=>⟨(h.bq q M).1,(h.bq q M).2.1⟩
 have ql:qs.length=d.length:=h.len.trans Q.symm;have j:(tq0 qs (List.range d.length)).map (·.1)=rg d.length:=by unfold Du.tq0 rg;rw[map_map];rfl
 have J:Du.ND (tq0 qs (List.range d.length)):=by unfold Du.ND;rw[j];exact ye _
 have u:=Du.sett_u (tq:=tq0 qs (List.range d.length)) (tk:=[]);have n2:=Du.sett_nd J
 have G:(settQ (tq0 qs (List.range d.length)) []).1.length<=d.length:=by
  have:(settQ (tq0 qs (List.range d.length)) []).1.length<=(tq0 qs (List.range d.length)).length:=length_filter_le _ _;have e:(tq0 qs (List.range d.length)).length=d.length:=by unfold Du.tq0;rw[length_map,length_range]
  lia
 have F:∀ x∈tq0 qs (List.range d.length),In1 x.2/\Bq B x.2:=λx f=>by
  obtain⟨o,N,rfl⟩:=mem_map.mp f;have N:=mem_range.mp N
  have O:qs.getD o 0∈qs:=by
   rw[List.getD_eq_getElem?_getD,List.getElem?_eq_getElem (show o<qs.length by lia)];exact getElem_mem _
  exact⟨C _ O,h.bq _ O⟩
 have s:∀ x∈(settQ (tq0 qs (List.range d.length)) []).1.map (·.1),x∈rg d.length:=λx f=>by
  rw[<- j];exact((filter_sublist).map _).subset f
 have A:∀ x∈(settQ (tq0 qs (List.range d.length)) []).2,x∈rg d.length:=λx f=>by
  rw[<- j];exact((filter_sublist).map _).subset (show x∈((tq0 qs (List.range d.length)).filter λx=>decide (x.2=1)).map (·.1) by simpa[Du.settQ] using f)
 obtain⟨D,S,X,Z⟩:=Du.w_den h.B0 d.length (Du.chs (settQ (tq0 qs (List.range d.length)) []).1) (by unfold Du.chs;rw[length_map];exact G) (λc hc=>by
  obtain⟨x,f,rfl⟩:=mem_map.mp hc
  exact⟨(F x (mem_filter.mp f).1).2,u x f⟩)
 have sQ:SQ (tq0 qs (List.range d.length))=((min m z.length:Nat):Rat):=by
  rw[<- h.sum];unfold Du.SQ Du.tq0;rw[map_map]
  congr 1
  refine List.ext_getElem? λi=>?_
  rw[List.getElem?_map]
  by_cases H:i<d.length
  .rw[List.getElem?_range H,List.getElem?_eq_getElem (show i<qs.length by lia)]
   show some (qs.getD i 0)=_;rw[List.getD_eq_getElem?_getD,List.getElem?_eq_getElem (show i<qs.length by lia)];rfl
  .rw[List.getElem?_eq_none (by rw[length_range];lia),List.getElem?_eq_none (by lia)]
   rfl
 have L:Du.szq (settQ (tq0 qs (List.range d.length)) []).1 (settQ (tq0 qs (List.range d.length)) []).2=((min m d.length:Nat):Rat):=by
  have:=Du.sz_sett (tq:=tq0 qs (List.range d.length)) λx f=>(F x f).1
  rw[sQ,<- Q]at this;unfold Du.szq;rw[<- this];have e2:(settQ (tq0 qs (List.range d.length)) []).2.length=((tq0 qs (List.range d.length)).filter λx=>decide (x.2=1)).length:=by unfold Du.settQ;simp
  rw[e2];have T:(settQ (tq0 qs (List.range d.length)) []).1=(tq0 qs (List.range d.length)).filter λx=>dz x.2:=rfl
  rw[T]
  grind
 have P:=Du.w_sizes d.length (settQ (tq0 qs (List.range d.length)) []).1 (settQ (tq0 qs (List.range d.length)) []).2 1 u G;rw[L]at P;have r:=lw d.length (settQ (tq0 qs (List.range d.length)) []).1 (settQ (tq0 qs (List.range d.length)) []).2 1 u G n2 (by grind);have l:∀ w∈wQ d.length (settQ (tq0 qs (List.range d.length)) []).1 (settQ (tq0 qs (List.range d.length)) []).2 1,∀ x∈w.1,x∈rg d.length:=λw g x f=>((r w g).2.2 x f).elim (A x) (s x)
 have E:∀ K,SW K (wQ d.length (settQ (tq0 qs (List.range d.length)) []).1 (settQ (tq0 qs (List.range d.length)) []).2 1)=Du.EQ K d.length (settQ (tq0 qs (List.range d.length)) []).1 (settQ (tq0 qs (List.range d.length)) []).2:=λK=>by rw[Du.SW_E];grind
 refine⟨D,mpW d (wQ d.length (settQ (tq0 qs (List.range d.length)) []).1 (settQ (tq0 qs (List.range d.length)) []).2 1),X,S,by lia,by lia,⟨λv p=>?_,?_,λv p x f=>?_⟩,λv p=>?_,λv p=>?_,λv p=>?_,λx f y hy=>?_⟩
 .obtain⟨w,g,rfl⟩:=mem_map.mp p
  exact(r w g).1
 .rw[tE,E]
  exact Du.SW_tot _ _ _ u G
 .obtain⟨w,g,rfl⟩:=mem_map.mp p
  obtain⟨i,H,rfl⟩:=mem_map.mp f;exact List.mem_of_getElem? (nY (l w g i H))
 .obtain⟨w,g,rfl⟩:=mem_map.mp p
  exact wG I (r w g).2.1 (l w g)
 .obtain⟨w,g,rfl⟩:=mem_map.mp p
  obtain⟨a,b⟩:=P.all w g;show _<=(((w.1.map (at_ d)).length:Nat):Int)/\(((w.1.map (at_ d)).length:Nat):Int)<=_;rw[length_map];have a':min m d.length<w.1.length+1:=by exact_mod_cast a
  have b':w.1.length<min m d.length+1:=by exact_mod_cast b
  lia
 .obtain⟨w,g,rfl⟩:=mem_map.mp p
  have:=Z (settQ (tq0 qs (List.range d.length)) []).1 (settQ (tq0 qs (List.range d.length)) []).2 1 1 rfl ⟨by grind,by grind,1,by push_cast;grind⟩ w g;rw[Nat.one_mul]at this;exact this
 .rw[tE]
  have e:SW (λk=>aR x y (k.map (at_ d))) (wQ d.length (settQ (tq0 qs (List.range d.length)) []).1 (settQ (tq0 qs (List.range d.length)) []).2 1)=SW (aR (ix d x:Int) (ix d y:Int)) (wQ d.length (settQ (tq0 qs (List.range d.length)) []).1 (settQ (tq0 qs (List.range d.length)) []).2 1):=ba λw g=>dN (by rw[me I (l w g) f,me I (l w g) hy])
  have Y:=(List.getElem?_eq_some_iff.mp (jx f)).1;have R:=(List.getElem?_eq_some_iff.mp (jx hy)).1;rw[e,E];exact Du.E_all nodup_range (mem_range.mpr Y) (mem_range.mpr R) C G
end Rp
namespace Rp
open FrM
theorem xZ(z:List Int):aU z (List.range z.length)=z.sum:=by
 unfold aU
 congr 1
 refine List.ext_getElem? λi=>?_
 rw[List.getElem?_map]
 by_cases hi:i<z.length
 .rw[List.getElem?_range hi,List.getElem?_eq_getElem hi]
  show some (sz z i)=_;unfold FrM.sz;rw[List.getD_eq_getElem?_getD,List.getElem?_eq_getElem hi];rfl
 .rw[List.getElem?_eq_none (by rw[length_range];lia),List.getElem?_eq_none (by lia)]
  rfl
theorem kX(N:Nat->Int)(S:Int)(a:0<S):∀ l:List Nat,(l.map λk=>(N k:Rat)/(S:Rat)).sum=(((l.map N).sum:Int):Rat)/(S:Rat)
 | []=>by
  have:(S:Rat)≠0:=by intro z;have:S=0:=(by exact_mod_cast z);lia
  show(0:Rat)=((0:Int):Rat)/_
  push_cast
  grind
 | k::l=>by
  have:(S:Rat)≠0:=by intro z;have:S=0:=(by exact_mod_cast z);lia
  rw[map_cons,sum_cons,kX N S a l,map_cons,sum_cons,Rat.intCast_add]
  grind
theorem BP{z:List Int}{m:Nat}(hz:∀ k,k<z.length->1<=sz z k)(y:∀ k,k<z.length->sz z k<=24000000)(I:z.length<=24):∃ B qs,Dq z m B qs:=by
 have r:Low 1 1 1 1:=⟨by decide,by decide,by decide⟩
 have u:Low 0 1 0 1:=⟨by decide,by decide,by decide⟩
 have o:∃ S N,Top (if (z.length:Int)<=(m:Int) then (z.length:Int) else (m:Int)) z.length S N/\(∀ k p,(due z (m:Nat))[k]? = some p->Low (N k) S p.1 p.2)/\S<=max 1 z.sum:=by
  unfold due
  by_cases c:(z.length:Int)<=(m:Int)
  .rw[if_pos c,if_pos c]
   refine⟨1,λ_=>1,⟨by decide,by rw[jI,length_range]⟩,λk p a=>?_,by lia⟩;rw[List.getElem?_map]at a;cases b:z[k]? with
   | none=>rw[b]at a;cases a
   | some x=>rw[b]at a;cases a;exact r
  .rw[if_neg c,if_neg c]
   by_cases g:(m:Int)=0
   .rw[if_pos g]
    refine⟨1,λ_=>0,⟨by decide,by rw[jI,g];simp⟩,λk p a=>?_,by lia⟩;rw[List.getElem?_map]at a;cases b:z[k]? with
    | none=>rw[b]at a;cases a
    | some x=>rw[b]at a;cases a;exact u
   .rw[if_neg g]
    have R:=Rnd.fin hz _ _ _ (Nat.le_refl _) (Rnd.start (z:=z) (n:=z.length) (m:=(m:Int)) (by lia) (by lia));have T:=Top.of_rnd hz R
    have G:aU z (FrM.fin z (List.range z.length) (m:Int)).1<=z.sum:=by
     have i:=(iO z (λk=>decide (k∈(FrM.fin z (List.range z.length) (m:Int)).1)) (List.range z.length)).1;rw[<- R.fil,xZ]at i;have L:=fc z ((List.range z.length).filter λk=>!decide (k∈(FrM.fin z (List.range z.length) (m:Int)).1)) λk b=>hz k (mem_range.mp (mem_filter.mp b).1)
     lia
    refine⟨_,_,T,λk p a=>?_,by lia⟩;rw[List.getElem?_map]at a
    by_cases b:k<z.length
    .rw[List.getElem?_range b]at a
     cases a
     by_cases hd:decide (k∈(FrM.fin z (List.range z.length) (m:Int)).1)=true
     .simp only[if_pos hd];exact ll T.pos
     .simp only[if_neg hd]
      exact⟨by decide,by decide,by lia⟩
    .rw[List.getElem?_eq_none (by rw[length_range];lia)]at a
     cases a
 obtain⟨S,N,v,w,G⟩:=o;have D:=due_ok hz y I (show(0:Int)<=(m:Int) by lia);have J:=due_len z (m:Int);have K:((S.toNat:Nat):Int)=S:=by have:=v.pos;lia
 have j:=v.pos
 have d:∀ k p,(due z (m:Int))[k]? = some p->p=Du.fr ((N k:Rat)/(S:Rat))/\0<=N k/\N k<=S:=λk p a=>by
  have f:=D p (List.mem_of_getElem? a);have l:=w k p a;have F:p.2 ∣ S:=kB l.cop ⟨N k,by rw[l.eq,Int.mul_comm]⟩;have H:=f.pos
  have A:un S p=N k:=by
   refine Int.eq_of_mul_eq_mul_right (show p.2≠0 by lia) ?_;unfold un;rw[Int.mul_assoc,Int.ediv_mul_cancel F];exact l.eq
  refine⟨by rw[<- Du.low_div _ j];exact C3 j l,?_,?_⟩
  .rw[<- A];unfold un
   exact Int.mul_nonneg f.lo (Int.ediv_nonneg (by lia) (by lia))
  .have s:p.1*S=N k*p.2:=l.eq
   have i:p.1*S<=p.2*S:=Int.mul_le_mul_of_nonneg_right f.hi (by lia);rw[s,Int.mul_comm p.2]at i;exact Int.le_of_mul_le_mul_right i H
 have at_:∀ k (h:k<z.length),(due z (m:Int))[k]? = some ((due z (m:Int))[k]'(by lia)):=λk h=>List.getElem?_eq_getElem (by lia)
 refine⟨S.toNat,(List.range z.length).map λk=>(N k:Rat)/(S:Rat),by lia,by lia,by rw[length_map,length_range],?_,?_,?_⟩
 .apply ext_getElem
  .simp[J]
  .intro k c g
   rw[getElem_map,getElem_map,getElem_range];exact(d k _ (List.getElem?_eq_getElem g)).1.symm
 .intro q C
  obtain⟨k,b,rfl⟩:=mem_map.mp C;have b:=mem_range.mp b;have:=d k _ (at_ k b);exact zU this.2.1 this.2.2 j
 .rw[kX N S j,v.all]
  have E:(S:Rat)≠0:=by intro z;have:S=0:=(by exact_mod_cast z);lia
  have e:(if (z.length:Int)<=(m:Int) then (z.length:Int) else (m:Int))=((min m z.length:Nat):Int):=by split <;> lia
  rw[e,Rat.intCast_mul];have s:((((min m z.length:Nat):Int)):Rat)=((min m z.length:Nat):Rat):=rfl;rw[s]
  grind
end Rp
namespace Nd
open PySem Nst Rp
open Tb (Rws so)
inductive Pl
 | few (m:Nat)
 | start (m:Nat)
 | loose (m:Nat)
 | duel (m:Nat)
 | each (p:Pl)
 | first (p q:Pl)
def mt:Pl->Prop
 | .few m=>m<=24
 | .start m=>1<=m/\m<=100
 | .loose m=>m<=24
 | .duel m=>m<=24
 | _=>False
def ht:Nat->Pl->Prop
 | _,.few m=>m<=24
 | _,.start m=>1<=m/\m<=100
 | _,.loose m=>m<=24
 | _,.duel m=>m<=24
 | n+1,.each p=>ht n p
 | n+1,.first p q=>mt p/\ht n q
 | 0,_=>False
theorem jn{n:Nat}{p:Pl}(h:mt p):ht n p:=by
 cases p <;> first | exact h.elim | (cases n <;> exact h)
structure Ck(k:Nat)(ms:List Mb):Prop where
 ne:ms≠[]
 len:ms.length<=24
 lo:∀ m∈ms,1<=m.2.1
 sum:(szs ms).sum<=24000000
 path:∀ m∈ms,k<=m.2.2.length/\m.2.2.length<=3
 nd:(plc ms).Nodup
 big:(100*(szs ms).sum.toNat) ^ (3*ms.length)<2 ^ 600
theorem Ck.pos{k:Nat}{a:List Mb}(h:Ck k a):∀ x∈szs a,0<=x:=λx b=>by
 obtain⟨m,c,rfl⟩:=mem_map.mp b;have:=h.lo m c;lia
theorem Ck.hi{k:Nat}{b:List Mb}(h:Ck k b):∀ x∈szs b,1<=x/\x<=24000000:=λx a=>by
 have e:=kJ h.pos a;have d:=h.sum;obtain⟨m,c,rfl⟩:=mem_map.mp a;have:=h.lo m c
 constructor <;> lia
theorem yY{z:List Int}(h:∀ x∈z,1<=x):(z.length:Int)<=z.sum:=by
 induction z with
 | nil=>decide
 | cons x r ih =>
  rw[length_cons,sum_cons];have:=ih λy a=>h y (mem_cons_of_mem _ a)
  have:=h x mem_cons_self;lia
theorem Ck.lens{k:Nat}{a:List Mb}(h:Ck k a):1<=a.length/\(a.length:Int)<=(szs a).sum:=by
 have b:=yY λx c=>(h.hi x c).1
 unfold szs at b ⊢;rw[length_map]at b;exact⟨length_pos_iff.mpr h.ne,b⟩
theorem u9{a:Type}(l:List a):(l.map λ_=>(1:Int)).sum=(l.length:Int):=by
 induction l with
 | nil=>rfl
 | cons x r ih=>rw[map_cons,sum_cons,ih,length_cons];lia
theorem we(a:List Mb){p:Mb->Prop}(f:∀ m∈a,p (tl m)):∀ e∈groups a,e.2≠[]/\∀ x∈e.2,p x:=by
 have c:∀(a:List Mb) (b:List (Str×List Mb)),(∀ m∈a,p (tl m))->(∀ e∈b,e.2≠[]/\∀ x∈e.2,p x)->∀ e∈a.foldl (λb m=>bN b (hd m) (tl m)) b,e.2≠[]/\∀ x∈e.2,p x:=by
  intro a
  induction a with
  | nil=>intro b _ h;exact h
  | cons m r ih =>
   intro b d h;rw[foldl_cons];exact ih _ (λx g=>d x (mem_cons_of_mem _ g)) (pL (d m mem_cons_self) h)
 exact c a [] f λe i=>by cases i
theorem lM(f:Mb->Int)(a:List Mb):kY f (groups a)=(a.map λm=>f (tl m)).sum:=by
 have c:∀(a:List Mb) (b:List (Str×List Mb)),kY f (a.foldl (λb m=>bN b (hd m) (tl m)) b)=kY f b+(a.map λm=>f (tl m)).sum:=by
  intro a
  induction a with
  | nil=>intro b;simp
  | cons m r ih =>
   intro b;rw[foldl_cons,ih,qY,map_cons,sum_cons];lia
 have:=c a [];rw[show groups a=a.foldl (λb m=>bN b (hd m) (tl m)) [] from rfl,this];simp[kY]
structure Pk(k:Nat)(ms:List Mb):Prop where
 each:∀ c∈parts ms,Ck k c
 len:1<=(parts ms).length/\(parts ms).length<=ms.length
 all:((parts ms).map λc=>(c.length:Int)).sum=(ms.length:Int)
 sum:((parts ms).map λc=>(szs c).sum).sum=(szs ms).sum
theorem gE{a b m n:Nat}(e:a<=b)(c:m<=n)(d:0<b):a ^ m<=b ^ n:=Nat.le_trans (Nat.pow_le_pow_left e m) (Nat.pow_le_pow_right d c)
theorem bJ{k:Nat}{a:List Mb}(h:Ck (k+1) a):Pk k a:=by
 have l:=we a (p:=λx=>1<=x.2.1/\k<=x.2.2.length/\x.2.2.length<=3) λm f=>by
  have:=h.path m f;refine⟨h.lo m f,?_⟩;show k<=m.2.2.tail.length/\m.2.2.tail.length<=3;rw[List.length_tail];lia
 have d:((parts a).map λc=>(c.length:Int)).sum=(a.length:Int):=by
  have:=lM (λ_=>1) a;rw[u9]at this;unfold kY at this;unfold parts;rw[map_map,<- this]
  congr 1
  refine map_congr_left λe _=>?_
  exact(u9 e.2).symm
 have o:((parts a).map λc=>(szs c).sum).sum=(szs a).sum:=by
  have:=lM (λm=>m.2.1) a;unfold kY at this;unfold parts szs;rw[map_map];exact this
 have g:∀ c∈parts a,∃ e∈groups a,e.2=c:=λc b=>mem_map.mp b
 have r:∀ x∈(parts a).map λc=>(c.length:Int),1<=x:=λx j=>by
  obtain⟨c,b,rfl⟩:=mem_map.mp j;obtain⟨e,i,rfl⟩:=g c b;have:=(l e i).1;have:0<e.2.length:=length_pos_iff.mpr this;lia
 have u:∀ x∈(parts a).map λc=>(szs c).sum,0<=x:=λx j=>by
  obtain⟨c,b,rfl⟩:=mem_map.mp j;obtain⟨e,i,rfl⟩:=g c b;refine iJ λy s=>?_
  obtain⟨m,f,rfl⟩:=mem_map.mp s;have:=((l e i).2 m f).1;lia
 have B:=h.lens;refine⟨λc b=>?_,⟨?_,?_⟩,d,o⟩
 .obtain⟨e,i,rfl⟩:=g c b
  have C:=kJ (λx j=>by have:=r x j;lia) (mem_map.mpr ⟨e.2,b,rfl⟩);have w:=kJ u (mem_map.mpr ⟨e.2,b,rfl⟩);have v:=h.len;have A:=h.sum;refine⟨(l e i).1,by lia,λm f=>((l e i).2 m f).1,by lia,λm f=>((l e i).2 m f).2,Nm.parts_nd h.nd _ b,?_⟩;exact Nat.lt_of_le_of_lt (gE (by lia) (by lia) (by lia)) h.big
 .refine length_pos_iff.mpr λz=>?_
  rw[z]at d;simp at d;lia
 .have:=yY r
  rw[length_map,d]at this;lia
theorem f8{k:Nat}{a:List Mb}(h:Ck (k+1) a):Ck 0 (outer (parts a)):=by
 have p:=bJ h;have b:(szs (outer (parts a))).sum=(szs a).sum:=by rw[a7,p.sum]
 refine⟨λz=>?_,by rw[aK];have:=p.len;have:=h.len;lia,λm hm=>?_,by rw[b];exact h.sum,λm hm=>?_,Nm.outer_nd _,?_⟩
 .have:=aK (parts a)
  rw[z]at this;have:=p.len;simp at *;lia
 .have:m.2.1∈szs (outer (parts a)):=mem_map.mpr ⟨m,hm,rfl⟩
  rw[a7]at this;obtain⟨c,d,e⟩:=mem_map.mp this;rw[<- e];have:=(p.each c d).lens;lia
 .obtain⟨g,_,rfl⟩:=mem_map.mp hm
  exact⟨Nat.zero_le _,by show 0<=3;decide⟩
 .rw[b,aK]
  have:=p.len;have:=h.lens;exact Nat.lt_of_le_of_lt (gE (Nat.le_refl _) (by lia) (by lia)) h.big
def fL(z:List Int)(m:Nat):List Rat:=(FrM.due z (m:Nat)).map Tb.pq
def mh(ms:List Mb)(m:Nat)(x:Int):Rat:=(fL (szs ms) m).getD (ix (plc ms) x) 0
def ent:Pl->List Mb->Int->Int->Rat
 | .few m,ms=>eF ms.length m
 | .start m,ms=>eS m (plc ms)
 | .loose m,ms=>eL (mh ms m)
 | .duel m,ms=>eD (fL (szs ms) m) (plc ms)
 | .each p,ms=>entN (ent p) (λ_ _=>1) (parts ms)
 | .first o p,ms=>entN (ent p) (ent o (outer (parts ms))) (parts ms)
def cnt(f:Int×Int)(ms:List Mb)(m:Nat):Nat:=(FrM.due (szs ms) (m:Nat)).countP λg=>decide (g=f)
def lim:Pl->List Mb->Int×Int
 | .few m,ms=>(((min m ms.length:Nat):Int),((min m ms.length:Nat):Int))
 | .start m,ms=>((ms.length:Int)/(m:Int),((ms.length:Int)+(m:Int) - 1)/(m:Int))
 | .loose m,ms=>((cnt (1,1) ms m:Int),(ms.length:Int) - (cnt (0,1) ms m:Int))
 | .duel m,ms=>(((min m ms.length:Nat):Int),((min m ms.length:Nat):Int))
 | .each p,ms=>(((parts ms).map λc=>(lim p c).1).sum,((parts ms).map λc=>(lim p c).2).sum)
 | .first o p,ms=>(((so ((parts ms).map λc=>(lim p c).1)).take (lim o (outer (parts ms))).1.toNat).sum,((so ((parts ms).map λc=>(lim p c).2)).reverse.take (lim o (outer (parts ms))).2.toNat).sum)
theorem DE{z:List Int}{m B:Nat}{qs:List Rat}(h:Dq z m B qs):qs=fL z m:=by
 unfold fL;rw[<- h.eq,map_map]
 have:∀ l:List Rat,l=l.map (Tb.pq ∘ Du.fr):=λl=>by
  induction l with
  | nil=>rfl
  | cons q l ih =>
   rw[map_cons,<- ih]
   congr 1
   exact(Tb.ndiv_fr q).symm
 exact this qs
theorem qO{k:Nat}{a:List Mb}(h:Ck k a)(m:Nat):∃ B,Dq (szs a) m B (fL (szs a) m)/\(B:Int)<=(szs a).sum:=by
 have at_:∀ k,k<(szs a).length->FrM.sz (szs a) k∈szs a:=λk b=>by
  unfold FrM.sz;rw[List.getD_eq_getElem?_getD,List.getElem?_eq_getElem b];exact getElem_mem b
 obtain⟨B,c,D⟩:=BP (m:=m) (λk b=>(h.hi _ (at_ k b)).1) (λk b=>(h.hi _ (at_ k b)).2) (by unfold szs;rw[length_map];exact h.len);have e:=DE D;rw[e]at D;refine⟨B,D,?_⟩;have:=D.B1;have:=h.lens;lia
theorem dm(a:List Mb):(plc a).length=a.length/\(szs a).length=a.length:=by unfold plc szs;rw[length_map,length_map];exact⟨rfl,rfl⟩
open Tb (Rws so)
theorem yC:∀ n,fct n<=n ^ n
 | 0=>Nat.le_refl _
 | n+1=>by
  rw[fct,Nat.pow_succ,Nat.mul_comm];exact Nat.mul_le_mul_right _ (Nat.le_trans (yC n) (Nat.pow_le_pow_left (Nat.le_succ n) n))
theorem AQ{C:Nat}{lo hi:Int}{P b:List Int}{e d:Int->Int->Rat}{W:Rws}(h:Rp C lo hi P e W)(c:∀ x,x∈b↔x∈P)(g:∀ x∈b,∀ y∈b,e x y=d x y):Rp C lo hi b d W :=
 ⟨h.c0,h.lo0,h.hi0,⟨h.pr.nn,h.pr.one,λw f x a=>(c x).mpr (h.pr.kp w f x a)⟩,h.nd,h.len,h.bq,λx a y hy=>by rw[h.sh x ((c x).mp a) y ((c y).mp hy)];exact g x a y hy⟩
theorem sY{B:Nat}{q:Rat}(c:0<B)(h:Du.Bq B q):q.den ∣ B:=by
 obtain⟨_,_,n,e⟩:=h;have b:(B:Rat)≠0:=by intro z;have:B=0:=(by exact_mod_cast z);lia
 have a:q=mkRat (n:Int) B:=Du.eq_mk c e;rw[a];have:=Rat.den_mkRat (n:Int) B;rw[this,if_neg (by lia)];exact Nat.div_dvd_of_dvd (Nat.gcd_dvd_left _ _)
theorem vh{d c:Type}:∀{a:List d}{b:List c},a.length=b.length->(a.zip b).map (·.1)=a
 | [],[],_=>rfl
 | x::a,y::b,h=>by rw[zip_cons_cons,map_cons,vh (by simpa using h)]
theorem uU{d c:Type}:∀{a:List d}{b:List c},a.length=b.length->(a.zip b).map (·.2)=b
 | [],[],_=>rfl
 | x::a,y::b,h=>by rw[zip_cons_cons,map_cons,uU (by simpa using h)]
def lsL(ms:List Mb)(m:Nat):Tb.TL:=(plc ms).zip (FrM.due (szs ms) (m:Nat))
section
variable {k:Nat}{ms:List Mb}
theorem yp(a:List Mb)(m:Nat):(plc a).length=(FrM.due (szs a) (m:Nat)).length:=by rw[FrM.due_len,(dm a).1,(dm a).2]
theorem ol(a:List Mb)(m:Nat):(lsL a m).map (·.1)=plc a:=vh (yp a m)
theorem rP(a:List Mb)(m:Nat):(lsL a m).map (·.2)=FrM.due (szs a) (m:Nat):=uU (yp a m)
theorem DC(h:Ck k ms)(m:Nat):∀ f∈FrM.due (szs ms) (m:Nat),FrM.FrOk f:=by
 have at_:∀ k,k<(szs ms).length->FrM.sz (szs ms) k∈szs ms:=λk a=>by
  unfold FrM.sz;rw[List.getD_eq_getElem?_getD,List.getElem?_eq_getElem a];exact getElem_mem a
 exact FrM.due_ok (λk a=>(h.hi _ (at_ k a)).1) (λk a=>(h.hi _ (at_ k a)).2) (by rw[(dm ms).2];exact h.len) (by lia)
theorem D8(h:Ck k ms)(m:Nat):Tb.Ed (lsL ms m):=λx b=>by
 have a:x.2∈FrM.due (szs ms) (m:Nat):=by rw[<- rP ms m];exact mem_map.mpr ⟨x,b,rfl⟩
 have g:=DC h m _ a
 by_cases hu:uns x.2=true
 .exact .inl hu
 .rcases g.ends (λz=>hu (decide_eq_true z)) with e | e
  .exact .inr (.inl e)
  .exact .inr (.inr e)
theorem yZ(f:Int×Int)(m:Nat):(lsL ms m).countP (λx=>decide (x.2=f))=cnt f ms m:=by
 unfold cnt;rw[<- rP ms m,countP_map];rfl
theorem BX{m i:Nat}{x:Int}(b:(plc ms).Nodup)(a:(plc ms)[i]? = some x):∃ f,(FrM.due (szs ms) (m:Nat))[i]? = some f/\mh ms m x=Tb.pq f/\(x,f)∈lsL ms m:=by
 have c:=(List.getElem?_eq_some_iff.mp a).1;have d:=yp ms m;have e:=List.getElem?_eq_getElem (l:=FrM.due (szs ms) (m:Nat)) (show i<_ by lia);refine⟨_,e,?_,?_⟩
 .unfold mh fL
  rw[qg b a,List.getD_eq_getElem?_getD,List.getElem?_map,e];rfl
 .unfold lsL
  refine List.mem_of_getElem? (i:=i) ?_;rw[List.getElem?_zip_eq_some];exact⟨a,e⟩
theorem xB(h:Ck k ms)(m:Nat):∃ B:Nat,0<B/\(B:Int)<=(szs ms).sum/\(∀ x∈plc ms,Du.Bq B (mh ms m x))/\∀ x∈lsL ms m,x.2.2<=(B:Int):=by
 obtain⟨B,D,g⟩:=qO h m;refine⟨B,D.B0,g,λx a=>?_,λx a=>?_⟩
 .obtain⟨i,b⟩:=List.getElem?_of_mem a
  unfold mh;rw[qg h.nd b];have f:=(List.getElem?_eq_some_iff.mp b).1;have d:=D.len;rw[(dm ms).2]at d;rw[(dm ms).1]at f;rw[List.getD_eq_getElem?_getD,List.getElem?_eq_getElem (show i<(fL (szs ms) m).length by lia)];exact D.bq _ (getElem_mem _)
 .have c:x.2∈FrM.due (szs ms) (m:Nat):=by rw[<- rP ms m];exact mem_map.mpr ⟨x,a,rfl⟩
  rw[<- D.eq]at c;obtain⟨q,j,e⟩:=mem_map.mp c;rw[<- e];show((q.den:Nat):Int)<=(B:Int);have:=Nat.le_of_dvd D.B0 (sY D.B0 (D.bq q j));lia
abbrev S_(ms:List Mb):Nat:=100*(szs ms).sum.toNat
theorem oN(h:Ck k ms):100*ms.length<=S_ ms/\100<=S_ ms:=by
 have:=h.lens;show 100*ms.length<=100*(szs ms).sum.toNat/\100<=100*(szs ms).sum.toNat;lia
theorem om{p:Pl}(c:mt p)(h:Ck k ms):∃ C W,C<=S_ ms ^ ms.length/\Rp C (lim p ms).1 (lim p ms).2 (plc ms) (ent p ms) W:=by
 have I:=h.lens;have A:=oN h;have a:=dm ms;cases p with
 | few m =>
  have R:=BQ h.nd m;rw[a.1]at R;exact⟨_,_,Nat.le_trans (yC _) (Nat.pow_le_pow_left (by lia) _),R⟩
 | start m =>
  have R:=xK h.nd c.1;rw[a.1]at R;refine⟨_,_,?_,R⟩;have:S_ ms ^ 1<=S_ ms ^ ms.length:=Nat.pow_le_pow_right (by lia) (by lia);have:=c.2;lia
 | loose m =>
  have g:((lsL ms m).map (·.1)).Nodup:=by rw[ol];exact h.nd
  have j:=D8 h m;have R:=zh g j;obtain⟨B,F,E,G,u⟩:=xB h m;rw[yZ,yZ,ol,show(lsL ms m).length=ms.length by rw[<- a.1,<- ol ms m,length_map]]at R;refine⟨_,_,?_,AQ R (λx=>Iff.rfl) λx d y hy=>?_⟩
  .have b:=Tb.pD_le (B:=B) (tl:=Tb.op (lsL ms m)) λx d=>u x (mem_filter.mp d).1
   have v:(Tb.op (lsL ms m)).length<=ms.length:=by
    have e:(lsL ms m).length=ms.length:=by rw[<- a.1,<- ol ms m,length_map]
    exact Nat.le_trans (length_filter_le _ _) (Nat.le_of_eq e)
   refine Nat.le_trans b (gE ?_ v (by lia));show B<=100*(szs ms).sum.toNat;lia
  .have l:∀ z∈plc ms,Tb.pr (Tb.op (lsL ms m)) (Tb.su (lsL ms m)) z=mh ms m z:=λz r=>by
    obtain⟨i,o⟩:=List.getElem?_of_mem r;obtain⟨f,_,w,s⟩:=BX (m:=m) h.nd o;rw[w];exact Tb.pr_of g j _ s
   show eL _ x y=eL (mh ms m) x y;unfold eL;rw[l x d,l y hy]
 | duel m =>
  obtain⟨B,D,H⟩:=qO h m;obtain⟨C,W,b,R⟩:=Am h.nd D (by rw[a.1,a.2]);rw[a.1]at R b;refine⟨C,W,Nat.le_trans b (Nat.pow_le_pow_left ?_ _),R⟩;show 2*B<=100*(szs ms).sum.toNat;lia
 | each p=>exact c.elim
 | first p q=>exact c.elim
theorem qQ{p:Pl}(a:mt p)(h:Ck k ms):∃ fe mo:Nat,lim p ms=((fe:Int),(mo:Int)):=by
 obtain⟨C,W,_,R⟩:=om a h;have b:=R.lo0;have c:=R.hi0;refine⟨(lim p ms).1.toNat,(lim p ms).2.toNat,?_⟩;rw[Int.toNat_of_nonneg b,Int.toNat_of_nonneg c]
theorem jM(a:(plc ms).Nodup):(plc (parts ms).flatten).Nodup/\∀ x,x∈plc ms↔x∈plc (parts ms).flatten:=⟨(Nm.parts_plc ms).nodup_iff.mpr a,λx=>(Nm.parts_plc ms).mem_iff.symm⟩
theorem uB{n S:Nat}{C:List Mb->Nat}:∀{gs:List (List Mb)},0<S->(∀ c∈gs,C c<=S ^ (n*c.length))->pd (gs.map C)<=S ^ (n*(gs.map List.length).sum)
 | [],_,_=>by simp[pd]
 | c::gs,hS,h=>by
  rw[map_cons,pd,map_cons,sum_cons,Nat.mul_add,Nat.pow_add];exact Nat.mul_le_mul (h c mem_cons_self) (uB hS λd a=>h d (mem_cons_of_mem _ a))
end
theorem pR:∀ gs:List (List Mb),(((gs.map List.length).sum:Nat):Int)=(gs.map λc=>(c.length:Int)).sum
 | []=>rfl
 | c::gs=>by
  rw[map_cons,sum_cons,map_cons,sum_cons,<- pR gs];lia
theorem xC(l:List Int):(so l).length=l.length:=(Tb.so_perm l).length_eq
theorem xG{k:Nat}{a c:List Mb}(h:Ck (k+1) a)(e:c∈parts a):S_ c<=S_ a:=by
 have p:=bJ h
 have b:∀ x∈(parts a).map λc=>(szs c).sum,0<=x:=λx hx=>by
  obtain⟨d,f,rfl⟩:=mem_map.mp hx;have:=(p.each d f).lens;lia
 have:=kJ b (mem_map.mpr ⟨c,e,rfl⟩);have:=p.sum;show 100*(szs c).sum.toNat<=100*(szs a).sum.toNat;lia
theorem um{k:Nat}{a:List Mb}(h:Ck (k+1) a):S_ (outer (parts a))=S_ a:=by
 show 100*_=100*_;rw[a7,(bJ h).sum]
theorem Et{n:Nat}{a:List Mb}{p:Pl}{g:Nat}{l:Int->Int->Rat}{j m:Nat}{w:Rws}(h:Ck (n+1) a)(u:∀ c,Ck n c->∃ C W,C<=S_ c ^ ((n+1)*c.length)/\Rp C (lim p c).1 (lim p c).2 (plc c) (ent p c) W)(o:Rp g (j:Int) (m:Int) (rg (parts a).length) l w)(d:g<=S_ a ^ a.length) :
  ∃ C W,C<=S_ a ^ ((n+1+1)*a.length)/\Rp C ((so ((parts a).map λc=>(lim p c).1)).take j).sum ((so ((parts a).map λc=>(lim p c).2)).reverse.take m).sum (plc a) (entN (ent p) l (parts a)) W:=by
 have r:=bJ h;have B:=oN h
 have b:∀ c,∃ F:Nat×Rws,c∈parts a->F.1<=S_ c ^ ((n+1)*c.length)/\Rp F.1 (lim p c).1 (lim p c).2 (plc c) (ent p c) F.2:=λc=>by
  by_cases hc:c∈parts a
  .obtain⟨C,W,A,v⟩:=u c (r.each c hc)
   exact⟨(C,W),λ_=>⟨A,v⟩⟩
  .exact⟨(0,[]),λz=>absurd z hc⟩
 obtain⟨F,s⟩:=Classical.skolem.mp b;obtain⟨y,x⟩:=jM h.nd;have R:=xM (f:=λc=>(F c).2) (Cc:=λc=>(F c).1) (lo:=λc=>(lim p c).1) (hi:=λc=>(lim p c).2) (ie:=ent p) y o λc hc=>(s c hc).2
 refine⟨_,_,?_,AQ R x λ_ _ _ _=>rfl⟩;have i:=uB (n:=n+1) (S:=S_ a) (C:=λc=>(F c).1) (gs:=parts a) (by lia) λc hc=>Nat.le_trans (s c hc).1 (Nat.pow_le_pow_left (xG h hc) _)
 have e:((parts a).map List.length).sum=a.length:=by
  have:=pR (parts a);have:=r.all;lia
 rw[e]at i;rw[show(n+1+1)*a.length=a.length+(n+1)*a.length by rw[Nat.add_mul (n+1) 1];lia,Nat.pow_add];exact Nat.mul_le_mul d i
theorem xk(p:Pl)(a:List Mb):lim (.each p) a=(((so ((parts a).map λc=>(lim p c).1)).take (parts a).length).sum,((so ((parts a).map λc=>(lim p c).2)).reverse.take (parts a).length).sum):=by
 have b:(so ((parts a).map λc=>(lim p c).1)).length=(parts a).length:=by rw[xC,length_map]
 have d:(so ((parts a).map λc=>(lim p c).2)).reverse.length=(parts a).length:=by rw[List.length_reverse,xC,length_map]
 rw[take_of_length_le (by lia),take_of_length_le (by lia),List.sum_reverse,eI (Tb.so_perm _),eI (Tb.so_perm _)];rfl
theorem lG:∀{n:Nat}{p:Pl},ht n p->∀{ms:List Mb},Ck n ms->∃ C W,C<=S_ ms ^ ((n+1)*ms.length)/\Rp C (lim p ms).1 (lim p ms).2 (plc ms) (ent p ms) W:=by
 have b:∀{n:Nat}{p:Pl},mt p->∀{ms:List Mb},Ck n ms->∃ C W,C<=S_ ms ^ ((n+1)*ms.length)/\Rp C (lim p ms).1 (lim p ms).2 (plc ms) (ent p ms) W:=λ{n p} u {ms} h=>by
  obtain⟨C,W,f,R⟩:=om u h;have l:=oN h;exact⟨C,W,Nat.le_trans f (Nat.pow_le_pow_right (by lia) (Nat.le_mul_of_pos_left _ (Nat.succ_pos n))),R⟩
 intro n
 induction n with
 | zero =>
  intro p a ms h;exact b (by cases p <;> exact a) h
 | succ n ih =>
  intro p a ms h;have l:=oN h;have x:=h.lens;cases p with
  | few m=>exact b (p:=.few m) a h
  | start m=>exact b (p:=.start m) a h
  | loose m=>exact b (p:=.loose m) a h
  | duel m=>exact b (p:=.duel m) a h
  | each p =>
   have R:=Et (p:=p) h (λc d=>ih a d) (BK (parts ms).length) (Nat.one_le_pow _ _ (by lia));rw[xk];exact R
  | first o p =>
   have j:=f8 h;obtain⟨r,s,g⟩:=qQ a.1 j;obtain⟨v,w,f,i⟩:=om a.1 j;rw[g,<- lQ]at i;have R:=Et (p:=p) h (λc d=>ih a.2 d) i (Nat.le_trans f (by rw[um h,aK];exact Nat.pow_le_pow_right (by lia) (bJ h).len.2))
   have e:lim (.first o p) ms=(((so ((parts ms).map λc=>(lim p c).1)).take r).sum,((so ((parts ms).map λc=>(lim p c).2)).reverse.take s).sum):=by
    show(((so ((parts ms).map λc=>(lim p c).1)).take (lim o (outer (parts ms))).1.toNat).sum,((so ((parts ms).map λc=>(lim p c).2)).reverse.take (lim o (outer (parts ms))).2.toNat).sum)=_;rw[g];rfl
   rw[e];exact R
theorem den_mul(p q:Rat):(p*q).den<=p.den*q.den:=by
 rw[Rat.mul_def,Rat.normalize_eq];exact Nat.div_le_self _ _
theorem jO{B:Nat}{q:Rat}(a:0<B)(h:Du.Bq B q):q.den<=B:=Nat.le_of_dvd a (sY a h)
theorem yE:∀{n:Nat}{p:Pl},ht n p->∀{ms:List Mb},Ck n ms->∀ x∈plc ms,(ent p ms x x).den<=S_ ms ^ (n+1):=by
 have u:∀{n:Nat}{p:Pl},mt p->∀{ms:List Mb},Ck n ms->∀ x∈plc ms,(ent p ms x x).den<=S_ ms:=λ{n p} l {ms} h x f=>by
  have K:=h.lens;have D:=oN h;cases p with
  | few m =>
   show(eF ms.length m x x).den<=_;unfold eF;rw[if_pos rfl];have:=jO (show 0<ms.length by lia) (gT (Nat.min_le_right m ms.length) (show 0<ms.length by lia));unfold mn;lia
  | start m =>
   show(eS m (plc ms) x x).den<=_;unfold eS;rw[if_pos rfl];have r:1<=m/\m<=100:=l;have:=jO (show 0<m by lia) (gT (a:=1) r.1 r.1);have e:((1:Nat):Rat)=1:=rfl;rw[e]at this;lia
  | loose m =>
   obtain⟨B,v,F,A,_⟩:=xB h m;show(eL (mh ms m) x x).den<=_;unfold eL;rw[if_pos rfl];have:=jO v (A x f);show _<=100*(szs ms).sum.toNat;lia
  | duel m =>
   obtain⟨B,v,F,A,_⟩:=xB h m;show(eD (fL (szs ms) m) (plc ms) x x).den<=_;unfold eD Du.entQ;rw[if_pos rfl];have:=jO v (A x f);unfold mh at this;show _<=100*(szs ms).sum.toNat;lia
  | each p=>exact l.elim
  | first p q=>exact l.elim
 intro n
 induction n with
 | zero =>
  intro p b ms h x f;rw[Nat.pow_one];exact u (by cases p <;> exact b) h x f
 | succ n ih =>
  intro p b ms h x f;have D:=oN h
  have d:mt p->(ent p ms x x).den<=S_ ms ^ (n+1+1):=λl=>by
   have:=u l h x f;have:S_ ms ^ 1<=S_ ms ^ (n+1+1):=Nat.pow_le_pow_right (by lia) (by lia);lia
  obtain⟨E,r⟩:=jM h.nd
  have j:∀{p:Pl}{s:Int->Int->Rat},ht n p->(∀ i,i∈rg (parts ms).length->(s i i).den<=S_ ms)->(entN (ent p) s (parts ms) x x).den<=S_ ms ^ (n+1+1):=λ{p s} I H=>by
   obtain⟨c,y,w⟩:=tZ E ((r x).mp f);have g:=List.mem_of_getElem? y;have J:=(List.getElem?_eq_some_iff.mp y).1;unfold entN;rw[if_pos rfl,show(parts ms).getD (gi (parts ms) x) []=c by rw[List.getD_eq_getElem?_getD,y];rfl];refine Nat.le_trans (den_mul _ _) ?_;rw[Nat.pow_succ,Nat.mul_comm];exact Nat.mul_le_mul (Nat.le_trans (ih I ((bJ h).each c g) x w) (Nat.pow_le_pow_left (xG h g) _)) (H _ (mem_rg.mpr ⟨by lia,by lia⟩))
  cases p with
  | few m=>exact d b
  | start m=>exact d b
  | loose m=>exact d b
  | duel m=>exact d b
  | each p=>exact j b λi C=>by show(1:Rat).den<=_;have:(1:Rat).den=1:=rfl;lia
  | first o p =>
   refine j b.2 λi C=>?_
   have G:=f8 h;have:=u b.1 G i (by rw[<- lQ];exact C);rw[um h]at this;exact this
end Nd
namespace Nd
open PySem Nst Rp FrM
structure OkQ(b:Nat)(q:Rat):Prop where
 lo:0<=q
 hi:q<=1
 den:q.den<2 ^ b
theorem OkQ.up{b c:Nat}{q:Rat}(a:b<=c)(h:OkQ b q):OkQ c q:=⟨h.lo,h.hi,Nat.lt_of_lt_of_le h.den (Nat.pow_le_pow_right (by decide) a)⟩
theorem gA{q:Rat}(c:0<=q)(d:q<=1):q.num.natAbs<=q.den:=by
 have b:(0:Rat)<(q.den:Rat):=by exact_mod_cast q.den_pos
 have e:q*(q.den:Rat)=(q.num:Rat):=Du.den_mul q;have a:=Rat.mul_le_mul_of_nonneg_right d (Rat.le_of_lt b);rw[e,Rat.one_mul]at a;have g:q.num<=(q.den:Int):=by exact_mod_cast a
 have f:0<=q.num:=Rat.num_nonneg.mpr c;lia
theorem OkQ.bb{b:Nat}{q:Rat}(h:OkQ b q)(a:b<=1000:=by decide):Du.Bb q:=by
 have d:=gA h.lo h.hi;have e:=h.den;have c:2 ^ b<=2 ^ 1000:=Nat.pow_le_pow_right (by decide) a;unfold Du.Bb Bt
 constructor <;> lia
theorem OkQ.mul{b c:Nat}{p q:Rat}(h:OkQ b p)(g:OkQ c q):OkQ (b+c) (p*q):=by
 refine⟨Rat.mul_nonneg h.lo g.lo,?_,?_⟩
 .have:=Rat.mul_le_mul_of_nonneg_right h.hi g.lo
  have:=g.hi
  grind
 .refine Nat.lt_of_le_of_lt (den_mul p q) ?_
  rw[Nat.pow_add];have a:=h.den;have d:=g.den;have:=Nat.mul_le_mul_right q.den (Nat.le_of_lt a);have e:2 ^ b*q.den<2 ^ b*2 ^ c:=Nat.mul_lt_mul_of_pos_left d (Nat.pow_pos (by decide));lia
theorem okQ_one:OkQ 1 1:=⟨by grind,by grind,by decide⟩
theorem EN{k:Nat}{a:List Mb}(h:Ck k a):S_ a<2 ^ 32:=by
 have:=h.sum;show 100*(szs a).sum.toNat<_;lia
theorem ld{n:Nat}{p:Pl}{a:List Mb}(d:ht n p)(j:n<=2)(h:Ck n a){x y:Int}(e:x∈plc a)(c:y∈plc a):OkQ 600 (ent p a x y):=by
 obtain⟨C,W,f,R⟩:=lG d h;have b:=R.bqe e c;refine⟨b.1,b.2.1,?_⟩;have g:=oN h;have i:=h.lens;refine Nat.lt_of_le_of_lt (Nat.le_trans (jO R.c0 b) (Nat.le_trans f (Nat.pow_le_pow_right (by lia) ?_))) h.big;exact Nat.mul_le_mul_right _ (by lia)
theorem vp{n:Nat}{p:Pl}{a:List Mb}(c:ht n p)(e:n<=2)(h:Ck n a){x:Int}(b:x∈plc a):OkQ 96 (ent p a x x):=by
 have g:=ld c e h b b;refine⟨g.lo,g.hi,Nat.lt_of_le_of_lt (yE c h x b) ?_⟩;have i:=oN h;have d:=EN h;have l:S_ a ^ (n+1)<=S_ a ^ 3:=Nat.pow_le_pow_right (by lia) (by lia);have f:S_ a ^ 3<(2 ^ 32) ^ 3:=Nat.pow_lt_pow_left d (by decide);have j:((2:Nat) ^ 32) ^ 3=2 ^ 96:=by rw[<- Nat.pow_mul]
 lia
def pe(e:Int->Int->Rat)(ms:List Mb)(i j:Nat):Rat:=e ((plc ms).getD i 0) ((plc ms).getD j 0)
theorem uv{a:List Mb}{i:Nat}{m:Mb}(h:a[i]? = some m):(plc a)[i]? = some m.1:=by unfold plc;rw[List.getElem?_map,h];rfl
theorem jN{a:List Mb}{i:Nat}{m:Mb}(h:a[i]? = some m):(plc a).getD i 0=m.1:=by rw[List.getD_eq_getElem?_getD,uv h];rfl
theorem bw{a:List Mb}{i:Nat}(h:i<a.length):(plc a).getD i 0∈plc a:=by
 have e:=List.getElem?_eq_getElem h;rw[jN e];exact List.mem_of_getElem? (uv e)
theorem hJ{a:List Mb}(b:(plc a).Nodup){i:Nat}(h:i<a.length):ix (plc a) ((plc a).getD i 0)=i:=by
 have e:=List.getElem?_eq_getElem h;rw[jN e];exact qg b (uv e)
theorem xW{a:List Mb}(b:(plc a).Nodup){i j:Nat}(hi:i<a.length)(c:j<a.length):(plc a).getD i 0=(plc a).getD j 0↔i=j:=⟨λe=>by rw[<- hJ b hi,e,hJ b c],λe=>by rw[e]⟩
theorem iZ{gs:List (List Mb)}{g:Nat}(h:g<gs.length):(plc (outer gs)).getD g 0=(g:Int):=by
 rw[aW,List.getD_eq_getElem?_getD,List.getElem?_map,List.getElem?_range h];rfl
def eFn(n w:Nat)(i j:Nat):Rat:=if i=j then (w:Rat)/(n:Rat) else (w:Rat)*((w:Rat) - 1)/((n:Rat)*((n:Rat) - 1))
def eSn(st:Nat)(i j:Nat):Rat:=if i % st=j % st then 1/(st:Rat) else 0
def eLn(qs:List Rat)(i j:Nat):Rat:=if i=j then qs.getD i 0 else qs.getD i 0*qs.getD j 0
def eDn(qs:List Rat)(i j:Nat):Rat:=Du.entQ qs (Du.keptF (Du.unsO qs (List.range qs.length))) i j
theorem Cs{a:List Mb}(b:(plc a).Nodup)(m:Nat){i j:Nat}(hi:i<a.length)(c:j<a.length):pe (ent (.few m) a) a i j=eFn a.length (min m a.length) i j:=by
 show eF a.length m _ _=_;unfold eF eFn mn;simp only[xW b hi c]
theorem xg{a:List Mb}(b:(plc a).Nodup)(m:Nat){i j:Nat}(hi:i<a.length)(c:j<a.length):pe (ent (.start m) a) a i j=eSn m i j:=by
 show eS m (plc a) _ _=_;unfold eS eSn;rw[hJ b hi,hJ b c]
theorem wN{a:List Mb}(b:(plc a).Nodup)(m:Nat){i j:Nat}(hi:i<a.length)(c:j<a.length):pe (ent (.loose m) a) a i j=eLn (fL (szs a) m) i j:=by
 show eL (mh a m) _ _=_;unfold eL eLn mh;rw[hJ b hi,hJ b c];simp only[xW b hi c]
theorem sR(a:List Mb)(m:Nat):(fL (szs a) m).length=a.length:=by unfold fL;rw[length_map,FrM.due_len,(dm a).2]
theorem zr{a:List Mb}(b:(plc a).Nodup)(m:Nat){i j:Nat}(hi:i<a.length)(c:j<a.length):pe (ent (.duel m) a) a i j=eDn (fL (szs a) m) i j:=by
 show eD (fL (szs a) m) (plc a) _ _=_;unfold eD eDn;rw[hJ b hi,hJ b c,(dm a).1,sR]
theorem AN{ie:List Mb->Int->Int->Rat}{r:Int->Int->Rat}{a:List Mb}(A:(plc a).Nodup){g g' s i:Nat}{c j:List Mb}{x y:Int}(h:Nm.At (parts a) g s x)(h':Nm.At (parts a) g' i y)(f:(parts a)[g]? = some c)(b:(parts a)[g']? = some j) :
  entN ie r (parts a) x y=r (g:Int) (g':Int)*(if g=g' then pe (ie c) c s i else pe (ie c) c s s*pe (ie j) j i i):=by
 obtain⟨l,_⟩:=jM A
 have at_:∀{g s:Nat}{c:List Mb}{x:Int},Nm.At (parts a) g s x->(parts a)[g]? = some c->gi (parts a) x=g/\(plc c).getD s 0=x/\(parts a).getD g []=c:=λ{g s c x} h f=>by
  obtain⟨d,m,u,o,rfl⟩:=h;rw[f]at u;cases u;refine⟨qN l f (List.mem_of_getElem? (uv o)),jN o,?_⟩;rw[List.getD_eq_getElem?_getD,f];rfl
 obtain⟨D,B,w⟩:=at_ h f;obtain⟨v,p,C⟩:=at_ h' b;unfold entN pe;rw[D,v,w,C,B,p]
 congr 1
 by_cases e:g=g'
 .subst e
  rw[f]at b;cases b;rw[if_pos rfl,if_pos rfl,p]
 .rw[if_neg e,if_neg e]
end Nd
namespace Nd
open FrM
theorem ur{n w i j:Nat}(h:0<(if i=j then (n:Int) else (n:Int)*((n:Int) - 1))):cK (if i=j then (w:Int) else (w:Int)*((w:Int) - 1)) (if i=j then (n:Int) else (n:Int)*((n:Int) - 1))=Du.fr (eFn n w i j):=by
 rw[Du.low_div _ h];unfold eFn
 by_cases e:i=j
 .rw[if_pos e,if_pos e,if_pos e];rfl
 .rw[if_neg e,if_neg e,if_neg e]
  congr 1
  push_cast
  rfl
theorem BI{st:Nat}(h:0<st):cK 1 (st:Int)=Du.fr (1/(st:Rat)):=by
 rw[Du.low_div _ (by lia)];rfl
theorem BJ:((1,1):Int×Int)=Du.fr 1:=rfl
theorem zL:((0,1):Int×Int)=Du.fr 0:=rfl
end Nd
namespace My
open PySem L2 FrM Du
def top(i:Nat):Stmt:=PySem.Challenge.pw_fewspeak_k94_whole_spread_never_below.main.body.getD i (.Pass ⟨0,0,0,0⟩)
abbrev uk:Stmt:=aV (top 4) 0
abbrev de:Stmt:=top 7
abbrev eC:Stmt:=top 8
abbrev uH:Stmt:=top 9
abbrev yQ:Stmt:=top 10
abbrev t7:Stmt:=top 11
abbrev uh:Stmt:=top 12
abbrev wY:Stmt:=top 13
abbrev uA:Stmt:=top 14
abbrev uL:Stmt:=top 15
abbrev lA:Stmt:=top 19
abbrev jj:Stmt:=top 20
abbrev nA:Stmt:=top 21
abbrev cI:Stmt:=top 28
abbrev mU:Stmt:=top 29
abbrev ny:Stmt:=top 30
abbrev ik:Stmt:=top 31
abbrev dD:Stmt:=top 32
abbrev iV:Stmt:=top 33
abbrev j4:Stmt:=top 34
abbrev lj:Stmt:=top 35
abbrev kf:Stmt:=top 36
abbrev qE:Stmt:=top 42
abbrev eJ:Stmt:=top 43
abbrev jZ:Stmt:=top 44
abbrev j3:Stmt:=top 45
abbrev ja:Stmt:=top 46
abbrev im:Stmt:=top 47
abbrev c4:Stmt:=aV (top 48) 0
abbrev gj:Stmt:=aV (top 49) 0
abbrev eQ:Stmt:=aV (top 49) 2
abbrev iW:Stmt:=aV (top 49) 3
abbrev jo:Stmt:=top 50
abbrev em:Stmt:=aV (top 51) 0
abbrev dh:Stmt:=aV (top 51) 2
abbrev fY:Stmt:=aV (top 51) 3
abbrev ee:Stmt:=aV (top 52) 0
abbrev c5:Stmt:=aV (top 52) 2
abbrev gu:Stmt:=aV (top 52) 3
abbrev j5:Stmt:=top 53
abbrev nH:Stmt:=top 55
abbrev rB:Stmt:=top 56
abbrev f7:Stmt:=top 57
abbrev cQ:Stmt:=top 58
abbrev ig:Stmt:=top 59
abbrev ij:Stmt:=top 60
abbrev dW:Stmt:=top 63
abbrev iy:Stmt:=top 64
abbrev fA:Stmt:=top 65
abbrev j7:Stmt:=top 66
abbrev iu:Stmt:=top 67
abbrev io:Stmt:=top 68
abbrev fB:Stmt:=aV (top 69) 0
abbrev iz:Stmt:=aV (top 69) 2
abbrev hX:Stmt:=aV (top 69) 3
abbrev qS:Stmt:=top 71
abbrev dJ:Stmt:=top 72
abbrev l6:Stmt:=top 73
abbrev cL:Stmt:=top 74
abbrev gv:Stmt:=top 75
abbrev da:Stmt:=top 76
abbrev fJ:Stmt:=aV (top 77) 0
abbrev dX:Stmt:=aV (top 77) 2
abbrev hZ:Stmt:=aV (top 77) 3
abbrev dt:Stmt:=aV (top 77) 5
abbrev d4:Stmt:=aV (top 78) 0
abbrev gB:Stmt:=aV (top 78) 2
abbrev fW:Stmt:=aV (top 78) 3
abbrev cP:Stmt:=aV (top 78) 5
abbrev pT:Stmt:=top 81
abbrev vg:Stmt:=top 82
abbrev li:Stmt:=top 83
abbrev re:Stmt:=top 84
abbrev ng:Stmt:=top 85
abbrev ke:Stmt:=top 86
abbrev lC:Stmt:=top 87
abbrev tX:Stmt:=top 88
abbrev j6:Stmt:=top 89
abbrev nv:Stmt:=top 90
abbrev qJ:Stmt:=top 91
abbrev qU:Stmt:=top 92
abbrev qw:Stmt:=top 93
abbrev fu:Stmt:=top 94
abbrev m8:Stmt:=top 95
abbrev ka:Stmt:=top 96
abbrev AX:Stmt:=top 97
theorem scz{N P:List Str}{d:Scope}(a:d.kind = .function:=by rfl)(b:d.isCoroutine = false:=by rfl)(c:d.isGenerator = false:=by rfl)(e:N.take P.length = P:=by rfl)(z:N.Nodup/\(∀ x ∈ P,d.names.lookup x = some .local\/d.names.lookup x = some .cell)/\∀ y ∈ d.names,y.2≠.free:=by decide +kernel):FnScope N P d:=⟨a,b,c,z.1,e,z.2.1,z.2.2⟩
theorem sc_u:FnScope ["one","other"] ["one","other"] (ah de):=scz
theorem sc_E:FnScope ["numbers","found","number"] ["numbers"] (ah eC):=scz
theorem rA:FnScope ["top","bottom","divisor"] ["top","bottom"] (ah uH):=scz
theorem zH:FnScope ["one","other"] ["one","other"] (ah yQ):=scz
theorem yK:FnScope ["one","other"] ["one","other"] (ah t7):=scz
theorem zk:FnScope ["one","other"] ["one","other"] (ah uh):=scz
theorem Ao:FnScope ["one","other"] ["one","other"] (ah wY):=scz
theorem wv:FnScope ["one","other"] ["one","other"] (ah uA):=scz
theorem qx:FnScope ["fractions","bottom"] ["fractions"] (ah uL):=scz
theorem qp:FnScope ["thing","low","high"] ["thing","low","high"] (ah lA):=scz
theorem mI:FnScope ["text","signs","most"] ["text","signs","most"] (ah jj):=scz
theorem sP:FnScope ["thing"] ["thing"] (ah nA):=scz
theorem fK:FnScope ["thing"] ["thing"] (ah cI):=scz
theorem sx:FnScope ["thing"] ["thing"] (ah mU):=scz
theorem rQ:FnScope ["thing"] ["thing"] (ah ny):=scz
theorem lm:FnScope ["name","ahead"] ["name","ahead"] (ah ik):=scz
theorem iF:FnScope ["path","ahead"] ["path","ahead"] (ah dD):=scz
theorem sc_V:FnScope ["units","place","unit"] ["units"] (ah iV):=scz
theorem oZ:FnScope ["units"] ["units"] (ah j4):=scz
theorem qP:FnScope ["units"] ["units"] (ah lj):=scz
theorem sc_S:FnScope ["crowd","groups","place","size","path"] ["crowd"] (ah kf):=scz
theorem vy:FnScope ["sizes","many"] ["sizes","many"] (ah qE):=scz
theorem sc_w:FnScope ["sizes","many","left","wanted","whole","staying"] ["sizes","many"] (ah eJ):=scz
theorem oE:FnScope ["crowd","many"] ["crowd","many"] (ah jZ):=scz
theorem pF:FnScope ["many","tell"] ["many","tell"] (ah j3):=scz
theorem my:FnScope ["one","many","tell"] ["one","many","tell"] (ah ja):=scz
theorem lY:FnScope ["thing","low","high"] ["thing","low","high"] (ah im):=scz
theorem gY:FnScope ["self","levels"] ["self","levels"] (ah c4):=scz
theorem kr:FnScope ["self","many"] ["self","many"] (ah gj):=scz
abbrev fF:Expr:=(sf (vF (sJ eQ 2)) 1)
def bH:LamD:=lZ ((("Few.matrix" : Str) ++ ".<locals>.") ++ "<lambda>") fF
theorem sc_h:FnScope ["self","crowd","there","wanted"] ["self","crowd"] (ah eQ):=scz
theorem hW:FnScope ["self","crowd","wanted"] ["self","crowd"] (ah iW):=scz
theorem mH:FnScope ["there","wanted","is_same"] ["there","wanted","is_same"] (ah jo):=scz
theorem jm:FnScope ["self","step"] ["self","step"] (ah em):=scz
abbrev dA:Expr:=(sf (vF (sJ dh 1)) 1)
def bv:LamD:=lZ ((("Start.matrix" : Str) ++ ".<locals>.") ++ "<lambda>") dA
theorem sc_c:FnScope ["self","crowd","step"] ["self","crowd"] (ah dh):=scz
theorem km:FnScope ["self","crowd"] ["self","crowd"] (ah fY):=scz
theorem je:FnScope ["self","many"] ["self","many"] (ah ee):=scz
abbrev dB:Expr:=(sf (vF (sJ c5 1)) 1)
def bt:LamD:=lZ ((("Loose.matrix" : Str) ++ ".<locals>.") ++ "<lambda>") dB
theorem sc_d:FnScope ["self","crowd","told"] ["self","crowd"] (ah c5):=scz
theorem fG:FnScope ["self","crowd","told"] ["self","crowd"] (ah gu):=scz
theorem oa:FnScope ["chance"] ["chance"] (ah j5):=scz
theorem rV:FnScope ["units","plan"] ["units","plan"] (ah nH):=scz
theorem v5:FnScope ["units","plan"] ["units","plan"] (ah rB):=scz
abbrev gC:Expr:=(sf (vF (sJ f7 0)) 1)
def bP:LamD:=lZ ((("spread_by" : Str) ++ ".<locals>.") ++ "<lambda>") gC
theorem sc_s:FnScope ["rows","values"] ["rows","values"] (ah f7):=scz
theorem fX:FnScope ["rows"] ["rows"] (ah cQ):=scz
theorem sc_M:FnScope ["places","tell","parts","one"] ["places","tell"] (ah ig):=scz
theorem gh:FnScope ["rows","values","one","other","leaning"] ["rows","values","one","other"] (ah ij):=scz
abbrev d6:Expr:=(sf (vF (sJ dW 2)) 1)
def bA:LamD:=lZ ((("duel_matrix" : Str) ++ ".<locals>.") ++ "<lambda>") d6
theorem sc_m:FnScope ["shares","order","told","found"] ["shares","order"] (ah dW):=scz
theorem lz:FnScope ["told","found","one","other"] ["told","found","one","other"] (ah iy):=scz
theorem sc_r:FnScope ["told","found","earlier","held","place","chance","one","up","sure"] ["told"] (ah fA):=scz
theorem fg:FnScope ["up","sure","held","chance","spare","when_sure"] ["up","sure","held","chance"] (ah j7):=scz
theorem fP:FnScope ["held","chance","reached"] ["held","chance"] (ah iu):=scz
theorem sc_F:FnScope ["earlier","held","place","chance","reached","stays","lasting","lacking","ahead","back"] ["earlier","held","place","chance"] (ah io):=scz
theorem jS:FnScope ["self","many"] ["self","many"] (ah fB):=scz
theorem lS:FnScope ["self","crowd"] ["self","crowd"] (ah iz):=scz
theorem fZ:FnScope ["self","crowd","wanted"] ["self","crowd"] (ah hX):=scz
theorem v4:FnScope ["crowd"] ["crowd"] (ah qS):=scz
theorem iH:FnScope ["groups"] ["groups"] (ah dJ):=scz
theorem sc_W:FnScope ["crowd","groups","spots","number","members","standing","member"] ["crowd","groups"] (ah l6):=scz
abbrev dk:Expr:=(sf (vF (sJ cL 2)) 1)
def bf:LamD:=lZ ((("groups_matrix" : Str) ++ ".<locals>.") ++ "<lambda>") dk
theorem sc_f:FnScope ["plan","crowd","groups","outer","blocks","spots"] ["plan","crowd","groups","outer"] (ah cL):=scz
theorem sc_D:FnScope ["blocks","outer","one","other","group","place","its_group","its_place","within"] ["blocks","outer","one","other"] (ah gv):=scz
theorem gX:FnScope ["levels"] ["levels"] (ah da):=scz
theorem jT:FnScope ["self","inside"] ["self","inside"] (ah fJ):=scz
abbrev d8:Expr:=(sf (Ey (sJ dX 1)) 1)
def bz:LamD:=lZ ((("Each.matrix" : Str) ++ ".<locals>.") ++ "<lambda>") d8
theorem db:FnScope ["self","crowd","groups","all_drawn"] ["self","crowd"] (ah dX):=scz
theorem sc_l:FnScope ["self","crowd","told"] ["self","crowd"] (ah hZ):=scz
theorem gZ:FnScope ["self","levels"] ["self","levels"] (ah dt):=scz
theorem iR:FnScope ["self","outside","inside"] ["self","outside","inside"] (ah d4):=scz
theorem fw:FnScope ["self","crowd","groups"] ["self","crowd"] (ah gB):=scz
theorem sc_g:FnScope ["self","crowd","groups","fewest","most","told","lows","highs"] ["self","crowd"] (ah fW):=scz
theorem fO:FnScope ["self","levels"] ["self","levels"] (ah cP):=scz
theorem vX:FnScope ["_law_script","_law_k"] ["_law_script","_law_k"] (ah pT):=scz
theorem kT:FnScope ["_law_cell_here","_law_k","_law_number"] ["_law_cell_here","_law_k"] (ah vg):=scz
theorem sc_X:FnScope ["_law_cell_here","_law_number","_law_k"] ["_law_cell_here"] (ah li):=scz
theorem nX:FnScope ["_law_state","_law_many","_law_digit"] ["_law_state","_law_many"] (ah re):=scz
theorem sX:FnScope ["_law_found"] ["_law_found"] (ah ng):=scz
theorem sc_T:FnScope ["_law_one","_law_other"] ["_law_one","_law_other"] (ah ke):=scz
theorem kj:FnScope ["_law_top","_law_bottom","_law_many"] ["_law_top","_law_bottom"] (ah lC):=scz
theorem wz:FnScope ["_law_one","_law_other"] ["_law_one","_law_other"] (ah tX):=scz
theorem ow:FnScope ["_law_one","_law_other"] ["_law_one","_law_other"] (ah j6):=scz
theorem sc_R:FnScope ["_law_state","_law_many","_law_levels","_law_letters","_law_first","_law_step","_law_way","_law_units_here","_law_k","_law_name","_law_value","_law_size","_law_path"] ["_law_state","_law_many","_law_levels"] (ah nv):=scz
theorem m7:FnScope ["_law_state","_law_levels","_law_way"] ["_law_state","_law_levels"] (ah qJ):=scz
theorem vQ:FnScope ["_law_plan_here"] ["_law_plan_here"] (ah qU):=scz
theorem vL:FnScope ["_law_one","_law_other"] ["_law_one","_law_other"] (ah qw):=scz
theorem jq:FnScope ["_law_found"] ["_law_found"] (ah fu):=scz
theorem sc_aa:FnScope ["_law_matrix","_law_many","_law_one","_law_other","_law_much","_law_least"] ["_law_matrix"] (ah m8):=scz
theorem sc_P:FnScope ["_law_matrix","_law_bounds","_law_total","_law_one","_law_row","_law_much"] ["_law_matrix","_law_bounds"] (ah ka):=scz
theorem sc_aB:FnScope ["_law_script","_law_state","_law_levels","_law_plan_here","_law_units_here","_law_matrix","_law_found","_law_cell_here","_law_digits_here","_law_values"] ["_law_script"] (ah AX):=scz
set_option genInjectivity false in
set_option genSizeOf false in
structure Ad where
 (f_u f_E f_L f_ax f_af f_O f_ay f_aw f_aF f_Z f_al f_as f_J f_az f_aA f_ab f_Q f_V f_ao f_v f_S f_aC f_w f_U f_o f_am f_G f_an f_ap f_at f_aD f_s f_N f_M f_ac f_m f_ad f_r f_aq f_ae f_F f_ag f_b f_W f_f f_D f_H f_aE f_aG f_X f_y f_au f_T f_ak f_av f_ar f_R f_ah f_ai f_aj f_I f_aa f_P f_aB c_Y i_Y c_A i_A c_B i_B c_K i_K c_C i_C c_j i_j x_h x_c x_d x_z x_e x_n x_x x_p x_q x_t x_l x_g x_a x_k x_i k_NOUGHT k_WHOLE k_TWICE lc_f lp_f lc_e lp_e lc_m lp_m lc_d lp_d lc_c lp_c lc_h lp_h lc_s lp_s:Addr)
 (d_u d_E d_L d_ax d_af d_O d_ay d_aw d_aF d_Z d_al d_as d_J d_az d_aA d_ab d_Q d_V d_ao d_v d_S d_aC d_w d_U d_o d_am d_G d_an d_ap d_at d_aD d_s d_N d_M d_ac d_m d_ad d_r d_aq d_ae d_F d_ag d_b d_W d_f d_D d_H d_aE d_aG d_X d_y d_au d_T d_ak d_av d_ar d_R d_ah d_ai d_aj d_I d_aa d_P d_aB e_Y e_A e_B e_K e_C e_j y_h y_c y_d y_z y_e y_n y_x y_p y_q y_t y_l y_g y_a y_k y_i:FuncData)
abbrev cq:List (Pos×Str):=[(tu dk,((("groups_matrix" : Str) ++ ".<locals>.") ++ "<lambda>"))]
theorem jA:(cq).Pairwise λx y=>¬(x.1.line=y.1.line/\x.1.col=y.1.col):=by decide +kernel
abbrev dq:List (Pos×Str):=[(tu d8,((("Each.matrix" : Str) ++ ".<locals>.") ++ "<lambda>"))]
theorem lH:(dq).Pairwise λx y=>¬(x.1.line=y.1.line/\x.1.col=y.1.col):=by decide +kernel
abbrev c6:List (Pos×Str):=[(tu d6,((("duel_matrix" : Str) ++ ".<locals>.") ++ "<lambda>"))]
theorem mj:(c6).Pairwise λx y=>¬(x.1.line=y.1.line/\x.1.col=y.1.col):=by decide +kernel
abbrev cM:List (Pos×Str):=[(tu dB,((("Loose.matrix" : Str) ++ ".<locals>.") ++ "<lambda>"))]
theorem kA:(cM).Pairwise λx y=>¬(x.1.line=y.1.line/\x.1.col=y.1.col):=by decide +kernel
abbrev cN:List (Pos×Str):=[(tu dA,((("Start.matrix" : Str) ++ ".<locals>.") ++ "<lambda>"))]
theorem kx:(cN).Pairwise λx y=>¬(x.1.line=y.1.line/\x.1.col=y.1.col):=by decide +kernel
abbrev dP:List (Pos×Str):=[(tu fF,((("Few.matrix" : Str) ++ ".<locals>.") ++ "<lambda>"))]
theorem mr:(dP).Pairwise λx y=>¬(x.1.line=y.1.line/\x.1.col=y.1.col):=by decide +kernel
abbrev eX:List (Pos×Str):=[(tu gC,((("spread_by" : Str) ++ ".<locals>.") ++ "<lambda>"))]
theorem oR:(eX).Pairwise λx y=>¬(x.1.line=y.1.line/\x.1.col=y.1.col):=by decide +kernel
def tabs(a:Ad):wj:=[(a.lp_f,cq),(a.lp_e,dq),(a.lp_m,c6),(a.lp_d,cM),(a.lp_c,cN),(a.lp_h,dP),(a.lp_s,eX)]
theorem jU(a:Ad):(a.lp_f,cq)∈tabs a:=(.head _)
theorem lX(a:Ad):(a.lp_e,dq)∈tabs a:=(.tail _ (.head _))
theorem lO(a:Ad):(a.lp_m,c6)∈tabs a:=(.tail _ (.tail _ (.head _)))
theorem ku(a:Ad):(a.lp_d,cM)∈tabs a:=(.tail _ (.tail _ (.tail _ (.head _))))
theorem kq(a:Ad):(a.lp_c,cN)∈tabs a:=(.tail _ (.tail _ (.tail _ (.tail _ (.head _)))))
theorem mE(a:Ad):(a.lp_h,dP)∈tabs a:=(.tail _ (.tail _ (.tail _ (.tail _ (.tail _ (.head _))))))
theorem oj(a:Ad):(a.lp_s,eX)∈tabs a:=(.tail _ (.tail _ (.tail _ (.tail _ (.tail _ (.tail _ (.head _)))))))
structure Fnd(K:Frag)(mg:Str->Option Value)(n:Str)(b:Stmt)(ps:List Str)(f:Addr)(d:FuncData):Prop where
 A:Fun K n n b f d
 B:Binds K d ps []
 C:mg n=some (.ref f)
structure Mnd(K:Frag)(n q:Str)(b:Stmt)(ps:List Str)(f:Addr)(d:FuncData):Prop where
 A:Fun K n q b f d
 B:Binds K d ps []
abbrev FnX(P:Program)(w:World)(base:Heap)(k:Nat){K:Frag}{mg:Str->Option Value}{n:Str}{b:Stmt}{ps:List Str}{f:Addr}{d:FuncData}(_:Fnd K mg n b ps f d)(sp:Sp):Prop:=FnOk P w K mg base CX0 k f d ps sp
abbrev MnX(P:Program)(w:World)(mg:Str->Option Value)(base:Heap)(k:Nat){K:Frag}{n q:Str}{b:Stmt}{ps:List Str}{f:Addr}{d:FuncData}(_:Mnd K n q b ps f d)(sp:Sp):Prop:=FnOk P w K mg base CX0 k f d ps sp
abbrev FnO(P:Program)(w:World)(K:Frag)(mg:Str->Option Value)(base:Heap)(k:Nat)(sp:Sp){f:Addr}{d:FuncData}{ps:List Str}:Prop:=FnOk P w K mg base CX0 k f d ps sp
section
variable {X:Cx}{x:Str}{e:Expr}{pos:Pos}
theorem pec{k:Nat}{f:Addr}{d:FuncData}{h:List Str}{sp:Sp}{b:Stmt}{p:Pos}{a:List Expr}{t:TA}(F:FnOk X.prog X.w X.K X.mg X.base CX0 k f d h sp)(i:Room k X.A)(G:Fnd X.K X.mg x b h f d)
  (l:PA X (e::a) t) (j:Gl X x:=by rfl) (c:(x == ("__debug__" : Str))=false:=by decide) (m:starEach (e::a) X.env=(false,eval e X.env)::starEach a X.env:=by rfl) (g:(backTo pos (starEach a X.env)).any (·.1)=false:=by rfl) :
  PE X (.Call (.Name x p) (e::a) [] pos) (AV sp [] E0 t):=zF F i j G.C G.A.kp G.B .nil aA l c m g
theorem psl(i:Nat){b:TE}{a:Pos}{g:List Str}{c:Scope}(S:FnScope X.N g c)(j:PE X e b)(hi:X.N[i]? = some x:=by rfl)(f:Loc X.env.scope x:=by exact Or.inl rfl)(d:swapsWith e (some (.Name x a)) pos.line X.env = pure false:=by rfl)(h:X.fn x = true\/X.env.scope.names.lookup x = some .local:=by first | exact .inl rfl | exact .inr rfl | assumption) :
  PS X (.Assign [.Name x a] e pos) (wd b (mL i)):=rY S.nd hi f j d h
theorem psr(i:Nat){b:TE}{a:Pos}{g:List Str}{c:Scope}(S:FnScope X.N g c)(j:PE X e b)(hi:X.N[i]? = some x:=by rfl)(f:Loc X.env.scope x:=by exact Or.inr rfl)(d:swapsWith e (some (.Name x a)) pos.line X.env = pure false:=by rfl)(h:X.fn x = true\/X.env.scope.names.lookup x = some .local:=by first | exact .inl rfl | exact .inr rfl | assumption) :
  PS X (.Assign [.Name x a] e pos) (wd b (mL i)):=rY S.nd hi f j d h
theorem _root_.L2.Fun.okz{P:Program}{w:World}{K:Frag}{mg:Str->Option Value}{b:Heap}{x a:Str}{st:Stmt}{f:Addr}{g:FuncData}{N d:List Str}{k:Nat}{sp:Sp}(F:Fun K x a st f g)(S:FnScope N d (ah st))
  (c:∀(cdv:Value) (A:Around) (outer:List Env) (s:Shared) (H:Hp) (vs:List V) (Q:VK) (E:XK),Room k (A.deeper (PyProof.Rows.envOfC a (ah st) s.heap.objs.size f cdv))->sp vs H Q E ->
   ∃ t,PSs (dw CX0 P w K mg b N a (ah st) f cdv A outer s H E).nox (cG st) t/\t { nx:=λ_ H'=>Q .non H',rt:=Q } (start N vs) H) (e:∀ vs H Q E,sp vs H Q E->vs.length=d.length:=by intro _ _ _ _ h;cases h;subst_vars;rfl):FnOk P w K mg b CX0 (k+1) f g d sp:=F.ok S e c
end
structure Txt(K:Frag)(mg:Str->Option Value)(a:Ad):Prop where
 lcd_f:a.d_f.code=.ref a.lc_f
 lch_f:codeHdIn K a.lc_f a.lp_f=true
 lcd_e:a.y_e.code=.ref a.lc_e
 lch_e:codeHdIn K a.lc_e a.lp_e=true
 lcd_m:a.d_m.code=.ref a.lc_m
 lch_m:codeHdIn K a.lc_m a.lp_m=true
 lcd_d:a.y_d.code=.ref a.lc_d
 lch_d:codeHdIn K a.lc_d a.lp_d=true
 lcd_c:a.y_c.code=.ref a.lc_c
 lch_c:codeHdIn K a.lc_c a.lp_c=true
 lcd_h:a.y_h.code=.ref a.lc_h
 lch_h:codeHdIn K a.lc_h a.lp_h=true
 lcd_s:a.d_s.code=.ref a.lc_s
 lch_s:codeHdIn K a.lc_s a.lp_s=true
 tnd:((tabs a).map (·.1)).Nodup
 W_u:Fnd K mg "greatest_divisor" de ["one","other"] a.f_u a.d_u
 W_E:Fnd K mg "least_multiple" eC ["numbers"] a.f_E a.d_E
 W_L:Fnd K mg "share" uH ["top","bottom"] a.f_L a.d_L
 W_ax:Fnd K mg "plus" yQ ["one","other"] a.f_ax a.d_ax
 W_af:Fnd K mg "minus" t7 ["one","other"] a.f_af a.d_af
 W_O:Fnd K mg "times" uh ["one","other"] a.f_O a.d_O
 W_ay:Fnd K mg "over" wY ["one","other"] a.f_ay a.d_ay
 W_aw:Fnd K mg "below" uA ["one","other"] a.f_aw a.d_aw
 W_aF:Fnd K mg "total" uL ["fractions"] a.f_aF a.d_aF
 W_Z:Fnd K mg "is_whole" lA ["thing","low","high"] a.f_Z a.d_Z
 W_al:Fnd K mg "is_made_of" jj ["text","signs","most"] a.f_al a.d_al
 W_as:Fnd K mg "is_name" nA ["thing"] a.f_as a.d_as
 W_J:Fnd K mg "has_listing_length" cI ["thing"] a.f_J a.d_J
 W_az:Fnd K mg "is_path" mU ["thing"] a.f_az a.d_az
 W_aA:Fnd K mg "is_unit" ny ["thing"] a.f_aA a.d_aA
 W_ab:Fnd K mg "is_new_name" ik ["name","ahead"] a.f_ab a.d_ab
 W_Q:Fnd K mg "has_path_length" dD ["path","ahead"] a.f_Q a.d_Q
 W_V:Fnd K mg "need_units" iV ["units"] a.f_V a.d_V
 W_ao:Fnd K mg "values_of" j4 ["units"] a.f_ao a.d_ao
 W_v:Fnd K mg "crowd_of" lj ["units"] a.f_v a.d_v
 W_S:Fnd K mg "groups_of" kf ["crowd"] a.f_S a.d_S
 W_aC:Fnd K mg "wished" qE ["sizes","many"] a.f_aC a.d_aC
 W_w:Fnd K mg "wished_of_some" eJ ["sizes","many"] a.f_w a.d_w
 W_U:Fnd K mg "wished_by" jZ ["crowd","many"] a.f_U a.d_U
 W_o:Fnd K mg "matrix_by" j3 ["many","tell"] a.f_o a.d_o
 W_am:Fnd K mg "matrix_row" ja ["one","many","tell"] a.f_am a.d_am
 W_G:Fnd K mg "need_number" im ["thing","low","high"] a.f_G a.d_G
 W_an:Fnd K mg "few_chance" jo ["there","wanted","is_same"] a.f_an a.d_an
 W_ap:Fnd K mg "is_unsure" j5 ["chance"] a.f_ap a.d_ap
 W_at:Fnd K mg "chances" nH ["units","plan"] a.f_at a.d_at
 W_aD:Fnd K mg "spread" rB ["units","plan"] a.f_aD a.d_aD
 W_s:Fnd K mg "spread_by" f7 ["rows","values"] a.f_s a.d_s
 W_N:Fnd K mg "places_with_share" cQ ["rows"] a.f_N a.d_N
 W_M:Fnd K mg "pairs_total" ig ["places","tell"] a.f_M a.d_M
 W_ac:Fnd K mg "spread_part" ij ["rows","values","one","other"] a.f_ac a.d_ac
 W_m:Fnd K mg "duel_matrix" dW ["shares","order"] a.f_m a.d_m
 W_ad:Fnd K mg "pair_chance" iy ["told","found","one","other"] a.f_ad a.d_ad
 W_r:Fnd K mg "kept_together" fA ["told"] a.f_r a.d_r
 W_aq:Fnd K mg "both_kept" j7 ["up","sure","held","chance"] a.f_aq a.d_aq
 W_ae:Fnd K mg "held_behind" iu ["held","chance"] a.f_ae a.d_ae
 W_F:Fnd K mg "behind_duel" io ["earlier","held","place","chance"] a.f_F a.d_F
 W_ag:Fnd K mg "parted" qS ["crowd"] a.f_ag a.d_ag
 W_b:Fnd K mg "crowd_of_groups" dJ ["groups"] a.f_b a.d_b
 W_W:Fnd K mg "spots_of" l6 ["crowd","groups"] a.f_W a.d_W
 W_f:Fnd K mg "groups_matrix" cL ["plan","crowd","groups","outer"] a.f_f a.d_f
 W_D:Fnd K mg "spots_chance" gv ["blocks","outer","one","other"] a.f_D a.d_D
 W_H:Fnd K mg "need_group_names" da ["levels"] a.f_H a.d_H
 W_aE:Fnd K mg "_law_cell" pT ["_law_script","_law_k"] a.f_aE a.d_aE
 W_aG:Fnd K mg "_law_mix" vg ["_law_cell_here","_law_k"] a.f_aG a.d_aG
 W_X:Fnd K mg "_law_digits" li ["_law_cell_here"] a.f_X a.d_X
 W_y:Fnd K mg "_law_take" re ["_law_state","_law_many"] a.f_y a.d_y
 W_au:Fnd K mg "_law_whole" ng ["_law_found"] a.f_au a.d_au
 W_T:Fnd K mg "_law_divisor" ke ["_law_one","_law_other"] a.f_T a.d_T
 W_ak:Fnd K mg "_law_lowest" lC ["_law_top","_law_bottom"] a.f_ak a.d_ak
 W_av:Fnd K mg "_law_sum" tX ["_law_one","_law_other"] a.f_av a.d_av
 W_ar:Fnd K mg "_law_product" j6 ["_law_one","_law_other"] a.f_ar a.d_ar
 W_R:Fnd K mg "_law_units" nv ["_law_state","_law_many","_law_levels"] a.f_R a.d_R
 W_ah:Fnd K mg "_law_plan" qJ ["_law_state","_law_levels"] a.f_ah a.d_ah
 W_ai:Fnd K mg "_law_made" qU ["_law_plan_here"] a.f_ai a.d_ai
 W_aj:Fnd K mg "_law_less" qw ["_law_one","_law_other"] a.f_aj a.d_aj
 W_I:Fnd K mg "_law_is_fraction" fu ["_law_found"] a.f_I a.d_I
 W_aa:Fnd K mg "_law_pairs" m8 ["_law_matrix"] a.f_aa a.d_aa
 W_P:Fnd K mg "_law_counted" ka ["_law_matrix","_law_bounds"] a.f_P a.d_P
 W_aB:Fnd K mg "law" AX ["_law_script"] a.f_aB a.d_aB
 g_LETTERS:∃ u,mg "LETTERS" = some u/\RelV (.str "abcdefghijklmnopqrstuvwxyz") u
 g_MOST_LETTERS:∃ u,mg "MOST_LETTERS" = some u/\RelV (.int 8) u
 g_MOST_UNITS:∃ u,mg "MOST_UNITS" = some u/\RelV (.int 24) u
 g_MOST_LEVELS:∃ u,mg "MOST_LEVELS" = some u/\RelV (.int 3) u
 g_VALUE_BOUND:∃ u,mg "VALUE_BOUND" = some u/\RelV (.int 1000000000) u
 g_MOST_SIZE:∃ u,mg "MOST_SIZE" = some u/\RelV (.int 1000000) u
 g_UNIT_PARTS:∃ u,mg "UNIT_PARTS" = some u/\RelV (.int 4) u
 g_MOST_MANY:∃ u,mg "MOST_MANY" = some u/\RelV (.int 24) u
 g_MOST_STEP:∃ u,mg "MOST_STEP" = some u/\RelV (.int 100) u
 g_NOUGHT:∃ u,mg "NOUGHT" = some u/\RelV (.ref a.k_NOUGHT) u
 t_NOUGHT:nF K a.k_NOUGHT [(.int 0),(.int 1)]=true
 g_WHOLE:∃ u,mg "WHOLE" = some u/\RelV (.ref a.k_WHOLE) u
 t_WHOLE:nF K a.k_WHOLE [(.int 1),(.int 1)]=true
 g_TWICE:∃ u,mg "TWICE" = some u/\RelV (.ref a.k_TWICE) u
 t_TWICE:nF K a.k_TWICE [(.int 2),(.int 1)]=true
 mc_Y:mg "Few" = some (.ref a.c_Y)
 cl_Y:Cls K a.c_Y
 mk_Y:Mk K a.c_Y a.i_Y
 Wi_Y:Mnd K "__init__" "Few.__init__" gj ["self","many"] a.i_Y a.e_Y
 na_Few_many:NoAttr K a.c_Y "many"
 mt_h:Meth K a.c_Y "matrix" a.x_h
 mt_x:Meth K a.c_Y "bounds" a.x_x
 mt_Few_need_levels:Meth K a.c_Y "need_levels" a.x_a
 mc_A:mg "Start" = some (.ref a.c_A)
 cl_A:Cls K a.c_A
 mk_A:Mk K a.c_A a.i_A
 Wi_A:Mnd K "__init__" "Start.__init__" em ["self","step"] a.i_A a.e_A
 na_Start_step:NoAttr K a.c_A "step"
 mt_c:Meth K a.c_A "matrix" a.x_c
 mt_p:Meth K a.c_A "bounds" a.x_p
 mt_Start_need_levels:Meth K a.c_A "need_levels" a.x_a
 mc_B:mg "Loose" = some (.ref a.c_B)
 cl_B:Cls K a.c_B
 mk_B:Mk K a.c_B a.i_B
 Wi_B:Mnd K "__init__" "Loose.__init__" ee ["self","many"] a.i_B a.e_B
 na_Loose_many:NoAttr K a.c_B "many"
 mt_d:Meth K a.c_B "matrix" a.x_d
 mt_q:Meth K a.c_B "bounds" a.x_q
 mt_Loose_need_levels:Meth K a.c_B "need_levels" a.x_a
 mc_K:mg "Duel" = some (.ref a.c_K)
 cl_K:Cls K a.c_K
 mk_K:Mk K a.c_K a.i_K
 Wi_K:Mnd K "__init__" "Duel.__init__" fB ["self","many"] a.i_K a.e_K
 na_Duel_many:NoAttr K a.c_K "many"
 mt_z:Meth K a.c_K "matrix" a.x_z
 mt_t:Meth K a.c_K "bounds" a.x_t
 mt_Duel_need_levels:Meth K a.c_K "need_levels" a.x_a
 mc_C:mg "Each" = some (.ref a.c_C)
 cl_C:Cls K a.c_C
 mk_C:Mk K a.c_C a.i_C
 Wi_C:Mnd K "__init__" "Each.__init__" fJ ["self","inside"] a.i_C a.e_C
 na_Each_inside:NoAttr K a.c_C "inside"
 mt_e:Meth K a.c_C "matrix" a.x_e
 mt_l:Meth K a.c_C "bounds" a.x_l
 mt_k:Meth K a.c_C "need_levels" a.x_k
 mc_j:mg "First" = some (.ref a.c_j)
 cl_j:Cls K a.c_j
 mk_j:Mk K a.c_j a.i_j
 Wi_j:Mnd K "__init__" "First.__init__" d4 ["self","outside","inside"] a.i_j a.e_j
 na_First_outside:NoAttr K a.c_j "outside"
 na_First_inside:NoAttr K a.c_j "inside"
 mt_n:Meth K a.c_j "matrix" a.x_n
 mt_g:Meth K a.c_j "bounds" a.x_g
 mt_i:Meth K a.c_j "need_levels" a.x_i
 W_h:Mnd K "matrix" "Few.matrix" eQ ["self","crowd"] a.x_h a.y_h
 W_c:Mnd K "matrix" "Start.matrix" dh ["self","crowd"] a.x_c a.y_c
 W_d:Mnd K "matrix" "Loose.matrix" c5 ["self","crowd"] a.x_d a.y_d
 W_z:Mnd K "matrix" "Duel.matrix" iz ["self","crowd"] a.x_z a.y_z
 W_e:Mnd K "matrix" "Each.matrix" dX ["self","crowd"] a.x_e a.y_e
 W_n:Mnd K "matrix" "First.matrix" gB ["self","crowd"] a.x_n a.y_n
 W_x:Mnd K "bounds" "Few.bounds" iW ["self","crowd"] a.x_x a.y_x
 W_p:Mnd K "bounds" "Start.bounds" fY ["self","crowd"] a.x_p a.y_p
 W_q:Mnd K "bounds" "Loose.bounds" gu ["self","crowd"] a.x_q a.y_q
 W_t:Mnd K "bounds" "Duel.bounds" hX ["self","crowd"] a.x_t a.y_t
 W_l:Mnd K "bounds" "Each.bounds" hZ ["self","crowd"] a.x_l a.y_l
 W_g:Mnd K "bounds" "First.bounds" fW ["self","crowd"] a.x_g a.y_g
 W_a:Mnd K "need_levels" "Plan.need_levels" c4 ["self","levels"] a.x_a a.y_a
 W_k:Mnd K "need_levels" "Each.need_levels" dt ["self","levels"] a.x_k a.y_k
 W_i:Mnd K "need_levels" "First.need_levels" cP ["self","levels"] a.x_i a.y_i
 z_abs:mg "abs" = none
 z_all:mg "all" = none
 z_bool:mg "bool" = none
 z_enumerate:mg "enumerate" = none
 z_int:mg "int" = none
 z_isinstance:mg "isinstance" = none
 z_len:mg "len" = none
 z_list:mg "list" = none
 z_min:mg "min" = none
 z_range:mg "range" = none
 z_sorted:mg "sorted" = none
 z_str:mg "str" = none
 z_sum:mg "sum" = none
 z_tuple:mg "tuple" = none
 bl:∀(s:Shared) (u:Value),BindsTo s a.d_aB ⟨[u],[]⟩ [("_law_script",u)]
inductive spLaw(K:Frag)(ts:List Addr)(vs:List V)(H:Hp)(Q:VK)(_E:XK):Prop
 | mk(p:Addr)(ns:List Int)(h0:vs=[.ref p])(h1:SqL K H p (ns.map V.int))(h2:ns.length<=63)(h3:(∀ P∈ts,H P=some (.tbl #[])))(h4:∀ H',Q (.bl true) H'):spLaw K ts vs H Q _E
theorem law_start{K:Frag}{c:List Addr}{H:Hp}{a:Addr}{b:List Int}(d:b.length<=63)(f:∀ P∈c,H P=some (.tbl #[]))(e:SqL K H a (b.map V.int)):spLaw K c [.ref a] H (λv _=>v=.bl true) λ_ _ _=>False:=⟨a,b,rfl,e,d,f,λ_=>rfl⟩
def A9(ns:List Int)(k:Int):Int:=if k<(ns.length:Int) then ns.getD k.toNat 0 else 7919*k+13
inductive spCell(K:Frag)(vs:List V)(H:Hp)(Q:VK)(_E:XK):Prop
 | mk(p:Addr)(ns:List Int)(k:Int)(h0:vs=[.ref p,.int k])(h1:SqL K H p (ns.map V.int))(h2:ns.length<=63)(h3:0<=k)(h4:k<=1000)(h5:Q (.int (A9 ns k)) H):spCell K vs H Q _E
inductive spGcd(vs:List V)(H:Hp)(Q:VK)(_E:XK):Prop
 | mk(x y:Int)(h0:vs=[.int x,.int y])(h1:0<=x)(h2:0<=y)(h3:Q (.int (Int.gcd x y)) H):spGcd vs H Q _E
def EE(H:Hp)(Q:VK)(T B:Int):Prop:=∀ H' p,Same H H'->H' p=some (.tup [.int (cK T B).1,.int (cK T B).2])->Q (.ref p) H'
inductive spLow(vs:List V)(H:Hp)(Q:VK)(_E:XK):Prop
 | mk(T B:Int)(h0:vs=[.int T,.int B])(h1:0<B)(h2:Bt 3000 T)(h3:Bt 3000 B)(h4:EE H Q T B):spLow vs H Q _E
def zB:Sp:=λ_ _ _ _=>False
def PT(K:Frag)(H:Hp)(p:Addr)(f:Int×Int):Prop:=H p=some (.tup [.int f.1,.int f.2])\/nF K p [.int f.1,.int f.2]=true
theorem PT.sq{K:Frag}{H:Hp}{p:Addr}{f:Int×Int}(h:PT K H p f):SqT K H p [.int f.1,.int f.2]:=h.elim SqT.of tK
def IsF(K:Frag)(H:Hp)(f:Int×Int)(x:V):Prop:=∃ p,x=.ref p/\PT K H p f
theorem IsF.tk{K:Frag}{H a:Hp}{f:Int×Int}{x:V}(k:TK H a)(h:IsF K H f x):IsF K a f x:=let ⟨p,e,q⟩:=h;⟨p,e,q.imp (λz=>k _ _ z) id⟩
abbrev AllF(K:Frag)(H:Hp):List (Int×Int)->List V->Prop:=PySem.Paired (IsF K H)
theorem IsF.same{K:Frag}{H a:Hp}{f:Int×Int}{x:V}(s:Same H a)(h:IsF K H f x):IsF K a f x:=h.tk s.tk
theorem aM{b a:Type}{R:b->a->Prop}:∀{xs:List b}{ys:List a}{i:Nat}{y:a},Paired R xs ys->ys[i]? = some y->∃ x,xs[i]? = some x/\R x y:=λh e=>by
 rename_i i _
 induction h generalizing i with
 | nil=>cases e
 | cons r _ ih=>cases i;cases e;exact⟨_,rfl,r⟩;exact ih e
theorem AllF.same{K:Frag}{H a:Hp}(s:Same H a):∀{fs:List (Int×Int)}{xs:List V},AllF K H fs xs->AllF K a fs xs:=λh=>Paired.mapP h λ_ _ r=>r.same s
theorem AllF.tk{K:Frag}{H a:Hp}(k:TK H a):∀{fs:List (Int×Int)}{xs:List V},AllF K H fs xs->AllF K a fs xs:=λh=>Paired.mapP h λ_ _ r=>r.tk k
theorem AllF.get{K:Frag}{H:Hp}:∀{fs:List (Int×Int)}{xs:List V}{i:Nat}{x:V},AllF K H fs xs->xs[i]? = some x->∃ f,fs[i]? = some f/\IsF K H f x:=aM
theorem AllF.snoc{K:Frag}{H:Hp}{f:Int×Int}{x:V}(r:IsF K H f x):∀{fs:List (Int×Int)}{xs:List V},AllF K H fs xs->AllF K H (fs++[f]) (xs++[x]):=λh=>PySem.Paired.snoc h r
theorem AllF.len{K:Frag}{H:Hp}{fs:List (Int×Int)}{xs:List V}(h:AllF K H fs xs):fs.length=xs.length:=Paired.length h
theorem zP(T B:Int):Int.gcd (if T<0 then -T else T) B=Int.gcd T B:=by
 split
 .exact Int.neg_gcd
 .rfl
theorem px0{K:Frag}{H:Hp}{p:Addr}{x y:V}{Q:VK}(h:SqT K H p [x,y])(q:Q x H):rIx K (.ref p) (.int 0) H Q:=.inr (.inl ⟨p,_,_,x,rfl,rfl,h,aQ (j:=0) rfl,q⟩)
theorem px1{K:Frag}{H:Hp}{p:Addr}{x y:V}{Q:VK}(h:SqT K H p [x,y])(q:Q y H):rIx K (.ref p) (.int 1) H Q:=.inr (.inl ⟨p,_,_,y,rfl,rfl,h,aQ (j:=1) rfl,q⟩)
theorem bF(x y:V):[x,y].length<=sizeLine:=by show 2<=sizeLine;decide
structure Szs(z:List Int):Prop where
 len:z.length<=24
 lo:∀ x∈z,1<=x
 hi:∀ x∈z,x<=24000000
inductive spWished(K:Frag)(vs:List V)(H:Hp)(Q:VK)(_E:XK):Prop
 | mk(l:Addr)(z:List Int)(m:Int)(h0:vs=[.ref l,.int m])(h1:H l=some (.lst (z.map V.int)))(h2:Szs z)(h3:0<=m)(h4:m<=24)(h5:∀ H' r xs,Same H H'->H r=none->H' r=some (.lst xs)->AllF K H' (due z m) xs->Q (.ref r) H'):spWished K vs H Q _E
inductive spSome(K:Frag)(vs:List V)(H:Hp)(Q:VK)(_E:XK):Prop
 | mk(l:Addr)(z:List Int)(m:Int)(h0:vs=[.ref l,.int m])(h1:H l=some (.lst (z.map V.int)))(h2:Szs z)(h3:0<m)(h4:m<z.length)(h5:∀ H' r xs,Same H H'->H r=none->H' r=some (.lst xs)->AllF K H' (due z m) xs->Q (.ref r) H'):spSome K vs H Q _E
inductive spUns(K:Frag)(vs:List V)(H:Hp)(Q:VK)(_E:XK):Prop
 | mk(x:V)(f:Int×Int)(h0:vs=[x])(h1:IsF K H f x)(h2:Q (.bl (uns f)) H):spUns K vs H Q _E
abbrev IsQ(K:Frag)(H:Hp)(q:Rat)(x:V):Prop:=IsF K H (fr q) x
inductive spAri(op:Rat->Rat->Rat)(c:Rat->Prop)(K:Frag)(vs:List V)(H:Hp)(Q:VK)(_E:XK):Prop
 | mk(x y:V)(p q:Rat)(h0:vs=[x,y])(h1:IsQ K H p x)(h2:IsQ K H q y)(h3:Bb p)(h4:Bb q)(h5:c q)(h6:∀ H' z,Same H H'->IsQ K H' (op p q) z->Q z H'):spAri op c K vs H Q _E
inductive spBel(K:Frag)(vs:List V)(H:Hp)(Q:VK)(_E:XK):Prop
 | mk(x y:V)(p q:Rat)(h0:vs=[x,y])(h1:IsQ K H p x)(h2:IsQ K H q y)(h3:Bb p)(h4:Bb q)(h5:Q (.bl (decide (p<q))) H):spBel K vs H Q _E
theorem Cn(q:Rat):uns (fr q)=dz q:=by
 unfold uns dz fr;refine decide_eq_decide.mpr ?_;rw[<- num_pos];have:q<1↔q.num<(q.den:Int):=by rw[Rat.lt_iff];simp
 rw[this]
section
variable {P:Program}{w:World}{K:Frag}{mg:Str->Option Value}{base:Heap}{a:Ad}
theorem xn{k:Nat}{f:Addr}{b:FuncData}{a:List Str}:FnOk P w K mg base CX0 k f b a zB:=⟨λ_ _ _ _ h=>h.elim,λ_ _ _ _ _ _ _ _ _ _ _ _ _ h=>h.elim⟩
theorem zG(T:Txt K mg a):FnX P w base 1 T.W_aE (spCell K):=by
 refine T.W_aE.A.okz vX λj A f s H v Q E m h=>?_
 .obtain⟨p,b,k,rfl,g,o,r,u,q⟩:=h
  refine⟨_,(ag (a8 (a5 mG (vr 1) (ao ax rfl T.z_len aF (aa (vr 0) ac)) (aB _)) (ai (aq (ak aj (vr 0) (vr 1) (λ_ _=>rfl)))) aE) (ai (aq (av c8 (av aH af (vr 1)) af)))),bU ?_⟩;intro l;refine⟨b.map V.int,.inl g,?_⟩;rw[length_map];unfold A9 at q;refine Fg (λc=>?_) (λc=>?_)
  .have d:k<(b.length:Int):=of_decide_eq_true c
   rw[if_pos d]at q;refine .inl ⟨p,_,k,.int (b.getD k.toNat 0),rfl,rfl,g,?_,q⟩;have e:((k.toNat:Nat):Int)=k:=by omega
   rw[<- e];refine aQ ?_;have i:k.toNat<b.length:=by omega
   rw[e];simp[List.getElem?_map,List.getD,i]
  .have d:¬k<(b.length:Int):=λz=>c (decide_eq_true z)
   rw[if_neg d]at q;exact⟨clB,q⟩
theorem xN(T:Txt K mg a):FnX P w base 1 T.W_u spGcd:=by
 refine T.W_u.A.okz sc_u λC A o s H I Q E G h=>?_
 .obtain⟨f,l,rfl,v,B,q⟩:=h
  refine⟨_,(ag (lP PassesOwn.never (qL (vr 1) (λ_=>rfl)) (ai (zm rfl sc_u.nd (i:=0) (j:=1) rfl rfl (by decide) rfl rfl (aa (vr 1) (aa (av fQ (vr 0) (vr 1)) ac)) rfl))) (ai (aq (vr 0)))),bU ?_⟩;intro D;refine⟨λm r g=>g=H/\∃ x y:Int,0<=x/\0<=y/\m=y.toNat/\Int.gcd x y=Int.gcd f l/\r=[some (.int x),some (.int y)],⟨_,rfl,f,l,v,B,rfl,rfl,rfl⟩,?_⟩;rintro m r g ⟨rfl,x,y,F,u,rfl,p,rfl⟩;refine⟨_,rfl,?_⟩;refine ifB (λc=>?_) (λc=>?_)
  .have e:y≠0:=by simpa using c
   let Pw1:St->Hp->Prop:=λb d=>d=g/\b=[some (.int y),some (.int (x % y))]
   refine⟨Pw1,?_,?_⟩
   .rintro b d ⟨rfl,rfl⟩
    exact⟨(x % y).toNat,by have:=Int.emod_lt_of_pos x (show 0<y by omega);have:=Int.emod_nonneg x e;omega,rfl,y,x % y,u,Int.emod_nonneg x e,rfl,by rw[rq,p],rfl⟩
   .exact⟨cp (by omega),_,_,rfl,rfl,rfl⟩
  .have e:y=0:=by simpa using c
   subst e;rw[Int.gcd_zero_right]at p;have:x=(Int.gcd f l:Int):=by omega
   rw[<- this]at q;exact q
theorem cH(T:Txt K mg a):FnX P w base 2 T.W_L spLow:=by
 have e:FnX P w base 1 T.W_L zB:=xn;have d:FnO P w K mg base 1 spGcd:=xN T;refine T.W_L.A.okz rA λu A f s H F Q E g h=>?_
 .obtain⟨t,b,rfl,l,x,o,q⟩:=h
  refine⟨_,(ag (a8 (a5 mG (vr 1) af (aB _)) (ai (aq (pec e g T.W_L (aa (yr xz (vr 0)) (aa (yr xz (vr 1)) ac))))) aE) (ag (psl 2 rA (pec d g T.W_u (aa (ao mi rfl T.z_abs sw (aa (vr 0) ac)) (aa (vr 1) ac)))) (ai (aq (aJ (aa (av cE (vr 0) (vr 2)) (aa (av cE (vr 1) (vr 2)) ac))))))),eh ?_⟩;intro r v;obtain⟨j,D,B,C,y⟩:=low t b l;refine ifC (λc=>absurd c (by omega)) (λ_=>?_);refine⟨t,rfl,⟨_,_,rfl,by split <;> omega,by omega,?_⟩⟩;rw[zP];have i:Bt 3000 (Int.gcd t b:Int):=o.le (by omega);refine⟨cdB j i,cdB j i,bF _ _,λp m=>?_⟩;exact q _ p (Same.new m) ae
theorem Cm(T:Txt K mg a):FnX P w base 1 T.W_ap (spUns K):=by
 refine T.W_ap.A.okz oa λg A b s H j Q E i h=>?_
 .obtain⟨x,f,rfl,⟨p,rfl,d⟩,q⟩:=h
  refine⟨_,(ai (aq (kK mG mG af (ak aj (vr 0) af (λ_ _=>rfl)) (ak aj (vr 0) af (λ_ _=>rfl))))),?_⟩;refine px0 d.sq ?_;refine ifC (λc=>px1 d.sq ?_) (λc=>?_)
  .have c:0<f.1:=c
   have e:uns f=decide (f.1<f.2):=by unfold uns;simp[c]
   rw[e]at q;exact q
  .have c:¬0<f.1:=c
   have e:uns f=false:=by unfold uns;simp[c]
   rw[e]at q;exact q
theorem uF{H:Hp}{p:Addr}{t b:Int}(h:SqT K H p [.int t,.int b]):DV K H (.tuple [.int t,.int b]) (.ref p):=by
 rw[DV];refine⟨p,_,rfl,h,?_⟩;rw[DVs];refine⟨_,_,rfl,by simp[DV],?_⟩;rw[DVs];exact⟨_,_,rfl,by simp[DV],by simp[DVs]⟩
theorem oH(T:Txt K mg a):FnX P w base 3 T.W_ax (spAri (· + ·) (λ_=>True) K):=by
 have e:FnO P w K mg base 2 spLow:=cH T;refine T.W_ax.A.okz zH λo A i s H I Q E C h=>?_
 .obtain⟨x,y,p,q,rfl,⟨x,rfl,B⟩,⟨y,rfl,v⟩,⟨l,d⟩,⟨j,c⟩,G,D⟩:=h
  have g:=B.sq;have b:=v.sq;have u:(0:Int)<(p.den:Int):=by have:=p.den_pos;omega
  have m:(0:Int)<(q.den:Int):=by have:=q.den_pos;omega
  refine⟨_,(ai (aq (pec e C T.W_L (aa (av c8 (av aH (ak aj (vr 0) af (λ_ _=>rfl)) (ak aj (vr 1) af (λ_ _=>rfl))) (av aH (ak aj (vr 1) af (λ_ _=>rfl)) (ak aj (vr 0) af (λ_ _=>rfl)))) (aa (av aH (ak aj (vr 0) af (λ_ _=>rfl)) (ak aj (vr 1) af (λ_ _=>rfl))) ac))))),?_⟩;refine px0 g (px1 b ⟨cmB l c,px0 b (px1 g ⟨cmB j d,px1 g (px1 b ⟨cmB d c,?_⟩)⟩)⟩);exact⟨_,_,rfl,Int.mul_pos u m,((l.mul c).add (j.mul d)).mono (by decide),(d.mul c).mono (by decide),λF r s f=>D _ _ s ⟨r,rfl,.inl (by rw[<- u8 p q];exact f)⟩⟩
theorem jf(T:Txt K mg a):FnX P w base 3 T.W_af (spAri (· - ·) (λ_=>True) K):=by
 have e:FnO P w K mg base 2 spLow:=cH T;refine T.W_af.A.okz yK λo A i s H I Q E C h=>?_
 .obtain⟨x,y,p,q,rfl,⟨x,rfl,B⟩,⟨y,rfl,v⟩,⟨l,d⟩,⟨j,c⟩,G,D⟩:=h
  have g:=B.sq;have b:=v.sq;have u:(0:Int)<(p.den:Int):=by have:=p.den_pos;omega
  have m:(0:Int)<(q.den:Int):=by have:=q.den_pos;omega
  refine⟨_,(ai (aq (pec e C T.W_L (aa (av bE (av aH (ak aj (vr 0) af (λ_ _=>rfl)) (ak aj (vr 1) af (λ_ _=>rfl))) (av aH (ak aj (vr 1) af (λ_ _=>rfl)) (ak aj (vr 0) af (λ_ _=>rfl)))) (aa (av aH (ak aj (vr 0) af (λ_ _=>rfl)) (ak aj (vr 1) af (λ_ _=>rfl))) ac))))),?_⟩;refine px0 g (px1 b ⟨cmB l c,px0 b (px1 g ⟨cmB j d,px1 g (px1 b ⟨cmB d c,?_⟩)⟩)⟩);exact⟨_,_,rfl,Int.mul_pos u m,((l.mul c).sub (j.mul d)).mono (by decide),(d.mul c).mono (by decide),λF r s f=>D _ _ s ⟨r,rfl,.inl (by rw[<- AL p q];exact f)⟩⟩
theorem eE(T:Txt K mg a):FnX P w base 3 T.W_O (spAri (· * ·) (λ_=>True) K):=by
 have c:FnO P w K mg base 2 spLow:=cH T;refine T.W_O.A.okz zk λo A e s H I Q E C h=>?_
 .obtain⟨x,y,p,q,rfl,⟨x,rfl,B⟩,⟨y,rfl,v⟩,⟨i,l⟩,⟨f,g⟩,G,D⟩:=h
  have j:=B.sq;have b:=v.sq;have u:(0:Int)<(p.den:Int):=by have:=p.den_pos;omega
  have m:(0:Int)<(q.den:Int):=by have:=q.den_pos;omega
  refine⟨_,(ai (aq (pec c C T.W_L (aa (av aH (ak aj (vr 0) af (λ_ _=>rfl)) (ak aj (vr 1) af (λ_ _=>rfl))) (aa (av aH (ak aj (vr 0) af (λ_ _=>rfl)) (ak aj (vr 1) af (λ_ _=>rfl))) ac))))),?_⟩;refine px0 j (px0 b ⟨cmB i f,px1 j (px1 b ⟨cmB l g,?_⟩)⟩);exact⟨_,_,rfl,Int.mul_pos u m,(i.mul f).mono (by decide),(l.mul g).mono (by decide),λF r s d=>D _ _ s ⟨r,rfl,.inl (by rw[<- tR p q];exact d)⟩⟩
theorem uQ(T:Txt K mg a):FnX P w base 3 T.W_ay (spAri (· / ·) (λq=>0<q) K):=by
 have c:FnO P w K mg base 2 spLow:=cH T;refine T.W_ay.A.okz Ao λo A e s H I Q E C h=>?_
 .obtain⟨x,y,p,q,rfl,⟨x,rfl,B⟩,⟨y,rfl,v⟩,⟨i,m⟩,⟨f,g⟩,l,D⟩:=h
  have j:=B.sq;have b:=v.sq;have u:(0:Int)<(p.den:Int):=by have:=p.den_pos;omega
  have F:(0:Int)<(q.den:Int):=by have:=q.den_pos;omega
  refine⟨_,(ai (aq (pec c C T.W_L (aa (av aH (ak aj (vr 0) af (λ_ _=>rfl)) (ak aj (vr 1) af (λ_ _=>rfl))) (aa (av aH (ak aj (vr 0) af (λ_ _=>rfl)) (ak aj (vr 1) af (λ_ _=>rfl))) ac))))),?_⟩;refine px0 j (px1 b ⟨cmB i g,px1 j (px0 b ⟨cmB m f,?_⟩)⟩);exact⟨_,_,rfl,Int.mul_pos u (num_pos.mpr l),(i.mul g).mono (by decide),(m.mul f).mono (by decide),λG r s d=>D _ _ s ⟨r,rfl,.inl (by rw[<- Ae p q l];exact d)⟩⟩
theorem ma(T:Txt K mg a):FnX P w base 1 T.W_aw (spBel K):=by
 refine T.W_aw.A.okz wv λr A c s H v Q E u h=>?_
 .obtain⟨x,y,p,q,rfl,⟨x,rfl,j⟩,⟨y,rfl,g⟩,⟨i,m⟩,⟨l,o⟩,f⟩:=h
  have d:=j.sq;have b:=g.sq;refine⟨_,(ai (aq (b7 mG (av aH (ak aj (vr 0) af (λ_ _=>rfl)) (ak aj (vr 1) af (λ_ _=>rfl))) (av aH (ak aj (vr 1) af (λ_ _=>rfl)) (ak aj (vr 0) af (λ_ _=>rfl))) (aB _)))),?_⟩;refine px0 d (px1 b ⟨cmB i o,px0 b (px1 d ⟨cmB l m,?_⟩)⟩);have e:decide (p<q)=decide (p.num*(q.den:Int)<q.num*(p.den:Int)):=decide_eq_decide.mpr (Rat.lt_iff p q);rw[e]at f;exact f
end
def nV(L:List Nat):List V:=L.map λ(k:Nat)=>V.int (k:Int)
theorem wJ{L:List Nat}{j:Nat}{x:V}(h:(nV L)[j]? = some x):∃ k,L[j]? = some k/\x=.int (k:Int):=by
 unfold nV at h;rw[List.getElem?_map]at h;cases hk:L[j]? with
 | none=>rw[hk]at h;cases h
 | some k=>rw[hk]at h;cases h;exact⟨k,rfl,rfl⟩
theorem Bc{z:List Int}{k:Nat}(a:k<z.length):atI (z.map V.int) (k:Int)=some (.int (sz z k)):=aQ (by simp[sz,List.getElem?_map,List.getD,a])
theorem xO{z:List Int}{k:Nat}(a:k<z.length):sz z k∈z:=by
 unfold sz;rw[List.getD,List.getElem?_eq_getElem a];exact getElem_mem a
theorem CA(L:List Nat):(nV L).all ip=true:=by
 rw[all_eq_true];intro x a;obtain⟨k,_,rfl⟩:=mem_map.mp a;rfl
theorem EJ(L:List Nat)(k:Nat):inV (.int (k:Int)) (nV L)=decide (k∈L):=by
 rw[Bool.eq_iff_iff];unfold inV nV;rw[List.any_map,any_eq_true,decide_eq_true_eq]
 constructor
 .rintro⟨j,a,e⟩
  have:(j:Int)=(k:Int):=by simpa[eqV] using e
  have:j=k:=by lia
  rw[<- this];exact a
 .intro h
  exact⟨k,h,by simp[eqV]⟩
section
variable {P:Program}{w:World}{K:Frag}{mg:Str->Option Value}{base:Heap}{a:Ad}
theorem AD(T:Txt K mg a):FnX P w base 3 T.W_w (spSome K):=by
 have a4:FnO P w K mg base 2 spLow:=cH T;refine T.W_w.A.okz sc_w λbq A a' s H vs Q E hr h=>?_
 .obtain⟨l,z,m,rfl,hl,hz,m0,m1,q⟩:=h
  refine⟨_,(ag (psr 2 sc_w (bS (jc rfl) rfl T.z_list i6 (aa (bS mO rfl T.z_range rC (aa (ao ax rfl T.z_len aF (aa (vr 0) ac)) ac)) ac))) (ag (psr 3 sc_w (vr 1)) (ag (lP PassesOwn.never (bT fz) (ag (psr 4 sc_w (ao (cx rfl) rfl T.z_sum dY (aa (aL rfl (N:=["place","sizes"]) (ix:=[none,some 0]) ⟨rfl,rfl,rfl,rfl,⟨rfl,rfl,rfl,trivial⟩⟩ (aN (vr 2)) ⟨λC s H W=>am (i:=0) (show List.Nodup (["place","sizes"]:List Str) by decide +kernel) rfl (Or.inl rfl),λC s H W=>aG,λC s H W=>(ak (bG (K:=K) rfl) (vr 1) (vr 0) (λ_ _=>rfl))⟩) ac))) (ag (gI rfl (i:=5) sc_w.nd rfl rfl (by with_unfolding_all rfl) (N:=["place","whole","wanted","sizes"]) (ix:=[none,some 4,some 3,some 0]) ⟨rfl,rfl,rfl,rfl,⟨rfl,rfl,rfl,⟨rfl,rfl,rfl,⟨rfl,rfl,rfl,trivial⟩⟩⟩⟩ (aN (vr 2)) ⟨λC s H W=>am (i:=0) (show List.Nodup (["place","whole","wanted","sizes"]:List Str) by decide +kernel) rfl (Or.inl rfl),λC s H W=>kH (a5 mG (av aH (ak (bG (K:=K) rfl) (vr 3) (vr 0) (λ_ _=>rfl)) (vr 2)) (vr 1) (aB _)),λC s H W=>(vr 0)⟩) (ag (a8 (a5 dM (ao ax rfl T.z_len aF (aa (vr 5) ac)) (ao ax rfl T.z_len aF (aa (vr 2) ac)) (aB _)) (ai yI) aE) (ag (CT (i:=3) sc_w.nd rfl (Or.inr rfl) (av bE (ao ax rfl T.z_len aF (aa (vr 2) ac)) (ao ax rfl T.z_len aF (aa (vr 5) ac))) BM) (ai (psr 2 sc_w (vr 5)))))))) (ai (aq (aL rfl (N:=["place","size","left","whole","wanted"]) (ix:=[none,none,some 2,some 4,some 3]) ⟨rfl,rfl,rfl,rfl,⟨rfl,rfl,rfl,⟨rfl,rfl,rfl,⟨rfl,rfl,rfl,trivial⟩⟩⟩⟩ (fh rfl T.z_enumerate (aa (vr 0) ac)) ⟨λC s H W=>(cb (K:=K) (n:=2) rfl rfl (aw (am (i:=0) (show List.Nodup (["place","size","left","whole","wanted"]:List Str) by decide +kernel) rfl (Or.inl rfl)) (aw (am (i:=1) (show List.Nodup (["place","size","left","whole","wanted"]:List Str) by decide +kernel) rfl (Or.inl rfl)) aZ))),λC s H W=>aG,λC s H W=>(fR (a5 (tj (K:=K) rfl) (vr 0) (vr 2) (by with_unfolding_all rfl)) (pec a4 hr T.W_L (aa (av aH (vr 1) (vr 4)) (aa (vr 3) ac))) (be rfl T.g_WHOLE))⟩)))))),ww ?_⟩;intro bo br bp
  have sl:sizeLine=16777216:=sizeLine_eq;have zl:=hz.len;have al:∀ k,k<z.length->1<=sz z k:=λk g=>hz.lo _ (xO g)
  have a2:∀ k,k<z.length->sz z k<=24000000:=λk g=>hz.hi _ (xO g)
  refine⟨_,.inl (SqL.of hl),⟨_,rfl,λp hp=>⟨p,z.length,rfl,by lia,by rw[ae,length_map],λO r=>?_⟩⟩⟩;have s1:Same H (upd (upd H p (.rng 0 ((z.map V.int).length:Int))) O (.lst (nV (List.range z.length)))):=(Same.new hp).trans (Same.new r)
  let Pw5:PvS:=λc σ Z=>∃(O:Addr) (L:List Nat) (w:Int) (x4 x5:Option V),c=L.length/\Same H Z/\Z O=some (.lst (nV L))/\Rnd z z.length m L w/\FrM.fin z L w=FrM.fin z (List.range z.length) m/\σ=[some (.ref l),some (.int m),some (.ref O),some (.int w),x4,x5]
  refine⟨Pw5,⟨_,O,List.range z.length,m,none,none,rfl,s1,ae,Rnd.start (by lia) (by lia),rfl,rfl⟩,?_⟩;rintro c σ Z ⟨O,L,w,x4,x5,rfl,sm,r,R,hf,rfl⟩;have X:=sm _ _ hl;have Ll:=R.len;have wb:-24<=w/\w<=24:=by have:=R.dif;have:=R.lt;lia
  let Pw6:St->Hp->Prop:=λa1 ap=>∃(I:Addr) (x4 x5:Option V),Same H ap/\ap I=some (.lst (nV (stay z L w)))/\(stay z L w).length≠L.length/\a1=[some (.ref l),some (.int m),some (.ref I),some (.int (w - ((L.length:Int) - ((stay z L w).length:Int)))),x4,x5]
  refine⟨Pw6,?_,?_⟩
  .rintro a1 ap ⟨I,x4,x5,bm,h',bl,rfl⟩
   have:=kN z L w;exact⟨_,by lia,I,_,_,x4,x5,rfl,bm,h',R.step al,by rw[<- hf];exact(tm bl).symm,rfl⟩
  .refine .inl ⟨⟨_,SqL.of r⟩,λD hD=>?_⟩
   let Pw1:PvL:=λi f d=>i<=L.length/\d=upd Z D (.lst f)/\f=(L.take i).map λk=>V.int (sz z k)
   refine aD (K:=K) (a:=O) (xs:=nV L) Pw1 ⟨Nat.zero_le _,rfl,rfl⟩ (λi f d h=>by rw[h.2.1];exact SqL.of (by rw[ar (ay r hD)];exact r)) (λi f d h=>by rw[h.2.1];exact ae) ?_ ?_
   .rintro i x f d P' hx ⟨hi,rfl,rfl⟩ hP
    obtain⟨k,g,rfl⟩:=wJ hx;have b:i<L.length:=(List.getElem?_eq_some_iff.mp g).1;have Y:=R.sub k (List.mem_of_getElem? g);refine⟨⟨rfl,trivial⟩,.inl ⟨l,_,_,_,rfl,rfl,SqL.of (by rw[ar (ay X hD)];exact X),Bc Y,ae,?_,hP _ _ ⟨b,fb,?_⟩⟩⟩
    .rw[length_map,length_take];lia
    .rw[take_add_one,g,map_append];rfl
   rintro f d ⟨_,rfl,rfl⟩
   have eS:((L.take (nV L).length).map λk=>V.int (sz z k))=(L.map (sz z)).map V.int:=by
    rw[show(nV L).length=L.length by unfold nV;rw[length_map],take_of_length_le (Nat.le_refl _),map_map];rfl
   refine⟨D,L.map (sz z),rfl,SqL.of (by rw[ae,eS]),?_⟩;rw[eS];have sD:Same Z (upd Z D (.lst ((L.map (sz z)).map V.int))):=Same.new hD;generalize upd Z D (.lst ((L.map (sz z)).map V.int))=H3 at sD;have ad:=sD _ _ X;have o:=sD _ _ r;refine .inl ⟨⟨_,SqL.of o⟩,λD2 an=>?_⟩
   let Pw2:PvL:=λi f d=>i<=L.length/\d=upd H3 D2 (.lst f)/\f=nV ((L.take i).filter λk=>decide (sz z k*w<aU z L))
   refine aD (K:=K) (a:=O) (xs:=nV L) Pw2 ⟨Nat.zero_le _,rfl,rfl⟩ (λi f d h=>by rw[h.2.1];exact SqL.of (by rw[ar (ay o an)];exact o)) (λi f d h=>by rw[h.2.1];exact ae) ?_ ?_
   .rintro i x f d P' hx ⟨hi,rfl,rfl⟩ hP
    obtain⟨k,g,rfl⟩:=wJ hx;have b:i<L.length:=(List.getElem?_eq_some_iff.mp g).1;have Y:=R.sub k (List.mem_of_getElem? g)
    have M:(L.take (i+1)).filter (λk=>decide (sz z k*w<aU z L))=(L.take i).filter (λk=>decide (sz z k*w<aU z L))++if sz z k*w<aU z L then [k] else []:=by
     rw[take_add_one,g,filter_append]
     by_cases c:sz z k*w<aU z L <;> simp[c]
    refine⟨⟨rfl,rfl,rfl,trivial⟩,.inl ⟨l,_,_,_,rfl,rfl,SqL.of (by rw[ar (ay ad an)];exact ad),Bc Y,crB (by lia) (by lia),?_⟩⟩;refine ifC (λc=>?_) (λc=>?_)
    .have u:sz z k*w<aU z L:=c
     rw[if_pos u]at M;refine⟨ae,?_,hP _ _ ⟨b,fb,?_⟩⟩
     .unfold nV
      rw[length_map];have:=length_filter_le (λk=>decide (sz z k*w<aU z L)) (L.take i);rw[length_take]at this;lia
     .rw[M];unfold nV;rw[map_append];rfl
    .have u:¬sz z k*w<aU z L:=c
     rw[if_neg u,append_nil]at M;exact hP _ _ ⟨b,rfl,by rw[M]⟩
   rintro f d ⟨_,rfl,rfl⟩
   have eT:nV ((L.take (nV L).length).filter λk=>decide (sz z k*w<aU z L))=nV (stay z L w):=by
    rw[show(nV L).length=L.length by unfold nV;rw[length_map],take_of_length_le (Nat.le_refl _)];rfl
   rw[eT];have B:Same H3 (upd H3 D2 (.lst (nV (stay z L w)))):=Same.new an;have F:(upd H3 D2 (.lst (nV (stay z L w)))) D2=some (.lst (nV (stay z L w))):=ae;generalize upd H3 D2 (.lst (nV (stay z L w)))=H4 at B F;have bd:=B _ _ ad;have y:=B _ _ o;have s4:Same H H4:=sm.trans (sD.trans B);have j:∀ L:List Nat,(nV L).length=L.length:=λL=>by unfold nV;rw[length_map]
   refine⟨_,.inl (SqL.of F),⟨_,.inl (SqL.of y),?_⟩⟩;rw[j,j];refine ifC (λc=>?_) (λc=>?_)
   .have u:(stay z L w).length=L.length:=by have z:((stay z L w).length:Int)=(L.length:Int):=c;lia
    have S:=lF u;rw[hf]at S;have hS:0<aU z L:=by have:=fc z L λk g=>al k (R.sub k g);have:=R.pos;lia
    have bn:Bt 40 (aU z L):=by
     have:=nZ z 24000000 L λk g=>a2 k (R.sub k g)
     unfold Bt;have a3:(2:Nat) ^ 40=1099511627776:=by decide
     rw[a3];lia
    refine⟨l,_,rfl,bd,λD3 v=>?_⟩
    have a0:due z m=(List.range z.length).map λk=>if decide (k∈L)=true then cK (sz z k*w) (aU z L) else (1,1):=by
     unfold due;rw[if_neg (by lia),if_neg (by lia),S]
    have ab:H D3=none:=s4.free v;refine gG (a:=l) (xs:=z.map V.int) (λi f d=>i<=z.length/\Same H d/\Same H4 d/\d D3=some (.lst f)/\AllF K d ((due z m).take i) f) ⟨Nat.zero_le _,s4.trans (Same.new v),Same.new v,ae,by rw[take_zero];exact .nil⟩ (λi f d h=>h.2.1 _ _ hl) (λi f d h=>h.2.2.2.1) ?_ ?_
    .rintro i x f d p P' hx ⟨hi,t1,t4,as,hA⟩ hp hP
     have b:i<z.length:=by have:=(List.getElem?_eq_some_iff.mp hx).1;rw[length_map]at this;exact this
     have ex:x=.int (sz z i):=by
      rw[List.getElem?_map,List.getElem?_eq_getElem b]at hx;cases hx;simp[sz,List.getD,b]
     subst ex;have J:Same d (upd d p (.tup [.int (i:Nat),.int (sz z i)])):=Same.new hp;refine⟨p,_,rfl,SqT.of ae,rfl,_,_,rfl,_,_,rfl,rfl,⟨rfl,rfl,rfl,trivial⟩,?_⟩;generalize upd d p (.tup [.int (i:Nat),.int (sz z i)])=H5 at J;have G:=J _ _ as;have yl:f.length=i:=by rw[<- hA.len,length_take,due_len];lia
     have M:(due z m).take (i+1)=(due z m).take i++[if decide (i∈L)=true then cK (sz z i*w) (aU z L) else (1,1)]:=by
      rw[take_add_one]
      congr 1
      rw[a0,List.getElem?_map,List.getElem?_range b];rfl
     refine⟨O,_,rfl,.inl (SqL.of ((t4.trans J) _ _ y)),rfl,CA L,?_⟩;rw[EJ];refine ifB (λc=>?_) (λc=>?_)
     .have u:decide (i∈L)=true:=c
      rw[if_pos u]at M;refine⟨crB (by lia) (by lia),⟨_,_,rfl,hS,((show Bt 30 (sz z i) by have:=al i b;have:=a2 i b;unfold Bt;lia).mul (show Bt 5 w by unfold Bt;lia)).mono (by decide),bn.mono (by decide),λH6 p6 s6 e6=>?_⟩⟩;refine⟨s6 _ _ G,by lia,hP _ _ ⟨b,((t1.trans J).trans s6).put ab,?_,ae,?_⟩⟩
      .exact((t4.trans J).trans s6).put v
      .rw[M]
       have aS:=s6 _ _ G;exact AllF.snoc ⟨p6,rfl,.inl (TK.lst aS _ _ e6)⟩ (hA.tk ((J.trans s6).tk.trans (TK.lst aS)))
     .have u:decide (i∈L)=false:=c
      rw[if_neg (by rw[u];exact Bool.false_ne_true)]at M;refine⟨G,by lia,hP _ _ ⟨b,(t1.trans J).put ab,(t4.trans J).put v,ae,?_⟩⟩;rw[M];exact AllF.snoc ⟨a.k_WHOLE,rfl,.inr T.t_WHOLE⟩ (hA.tk (J.tk.trans (TK.lst G)))
    .rintro f d ⟨_,t1,t4,as,hA⟩
     rw[take_of_length_le (by rw[due_len,length_map];exact Nat.le_refl _)]at hA;exact q d D3 f t1 ab as hA
   .have u:(stay z L w).length≠L.length:=λe=>c (by show((stay z L w).length:Int)=(L.length:Int);lia)
    refine⟨_,rfl,⟨_,.inl (SqL.of y),⟨_,.inl (SqL.of F),⟨_,_,rfl,rfl,⟨D2,some (.int (L.map (sz z)).sum),some (.ref D2),s4,F,u,?_⟩⟩⟩⟩⟩;rw[j,j];rfl
theorem vA(T:Txt K mg a):FnX P w base 4 T.W_aC (spWished K):=by
 have F:FnO P w K mg base 3 (spSome K):=AD T;refine T.W_aC.A.okz vy λR A y s H vs Q E S h=>?_
 .obtain⟨l,z,m,rfl,j,I,X,Y,q⟩:=h
  refine⟨_,(ag (a8 (a5 qF (ao ax rfl T.z_len aF (aa (vr 0) ac)) (vr 1) (aB _)) (ai (aq (aL rfl (N:=["size"]) (ix:=[none]) ⟨rfl,rfl,rfl,rfl,trivial⟩ (aN (vr 0)) ⟨λC s H p=>am (i:=0) (show List.Nodup (["size"]:List Str) by decide +kernel) rfl (Or.inl rfl),λC s H p=>aG,λC s H p=>(be rfl T.g_WHOLE)⟩))) aE) (ag (a8 (a5 dM (vr 1) af (aB _)) (ai (aq (aL rfl (N:=["size"]) (ix:=[none]) ⟨rfl,rfl,rfl,rfl,trivial⟩ (aN (vr 0)) ⟨λC s H p=>am (i:=0) (show List.Nodup (["size"]:List Str) by decide +kernel) rfl (Or.inl rfl),λC s H p=>aG,λC s H p=>(be rfl T.g_NOUGHT)⟩))) aE) (ai (aq (pec F S T.W_w (aa (vr 0) (aa (vr 1) ac))))))),eh ?_⟩;intro L O;have Z:sizeLine=16777216:=sizeLine_eq;have zl:=I.len;refine⟨_,.inl (SqL.of j),?_⟩;rw[length_map];refine ifC (λc=>?_) (λc=>ifC (λc2=>?_) (λc2=>?_))
  .have u:(z.length:Int)<=m:=c
   have e:due z m=z.map λ_=>(1,1):=by unfold due;rw[if_pos u]
   refine .inl ⟨⟨_,SqL.of j⟩,λD o=>?_⟩
   let Pw3:PvL:=λi b d=>i<=z.length/\d=upd H D (.lst b)/\AllF K d ((due z m).take i) b
   refine aD (K:=K) (a:=l) (xs:=z.map V.int) Pw3 ⟨Nat.zero_le _,rfl,by rw[take_zero];exact .nil⟩ (λi b d h=>by rw[h.2.1];exact SqL.of (by rw[ar (ay j o)];exact j)) (λi b d h=>by rw[h.2.1];exact ae) ?_ ?_
   .rintro i x b d M B ⟨J,rfl,g⟩ G
    have f:i<z.length:=by have:=(List.getElem?_eq_some_iff.mp B).1;rw[length_map]at this;exact this
    have W:b.length=i:=by rw[<- g.len,length_take,due_len];lia
    refine⟨trivial,ae,by lia,G _ _ ⟨f,fb,?_⟩⟩
    have v:(due z m).take (i+1)=(due z m).take i++[(1,1)]:=by
     rw[take_add_one]
     congr 1
     rw[e,List.getElem?_map,List.getElem?_eq_getElem f];rfl
    rw[v];exact AllF.snoc ⟨a.k_WHOLE,rfl,.inr T.t_WHOLE⟩ (g.tk (TK.lst ae))
   .rintro b d ⟨_,rfl,g⟩
    rw[take_of_length_le (by rw[due_len,length_map];exact Nat.le_refl _)]at g;exact q _ D b (Same.new o) o ae g
  .have u:¬(z.length:Int)<=m:=c
   have r:m=0:=c2;have e:due z m=z.map λ_=>(0,1):=by unfold due;rw[if_neg u,if_pos r]
   refine .inl ⟨⟨_,SqL.of j⟩,λD o=>?_⟩
   let Pw4:PvL:=λi b d=>i<=z.length/\d=upd H D (.lst b)/\AllF K d ((due z m).take i) b
   refine aD (K:=K) (a:=l) (xs:=z.map V.int) Pw4 ⟨Nat.zero_le _,rfl,by rw[take_zero];exact .nil⟩ (λi b d h=>by rw[h.2.1];exact SqL.of (by rw[ar (ay j o)];exact j)) (λi b d h=>by rw[h.2.1];exact ae) ?_ ?_
   .rintro i x b d M B ⟨J,rfl,g⟩ G
    have f:i<z.length:=by have:=(List.getElem?_eq_some_iff.mp B).1;rw[length_map]at this;exact this
    have W:b.length=i:=by rw[<- g.len,length_take,due_len];lia
    refine⟨trivial,ae,by lia,G _ _ ⟨f,fb,?_⟩⟩
    have v:(due z m).take (i+1)=(due z m).take i++[(0,1)]:=by
     rw[take_add_one]
     congr 1
     rw[e,List.getElem?_map,List.getElem?_eq_getElem f];rfl
    rw[v];exact AllF.snoc ⟨a.k_NOUGHT,rfl,.inr T.t_NOUGHT⟩ (g.tk (TK.lst ae))
   .rintro b d ⟨_,rfl,g⟩
    rw[take_of_length_le (by rw[due_len,length_map];exact Nat.le_refl _)]at g;exact q _ D b (Same.new o) o ae g
  .have u:¬(z.length:Int)<=m:=c
   have r:¬m=0:=c2;exact⟨l,z,m,rfl,j,I,by lia,by lia,q⟩
end
abbrev Lm:Nat:=2 ^ 980
theorem yi{D B:Nat}(a:0<B)(h:D*B<Lm):D<Lm:=Nat.lt_of_le_of_lt (Nat.le_mul_of_pos_right D a) h
theorem pO{B:Nat}(h:B<=1000000000):B<Lm:=Nat.lt_of_le_of_lt h (by decide +kernel)
theorem De{B:Nat}(h:B<=1000000000):2*B<Lm:=Nat.lt_of_le_of_lt (show 2*B<=2000000000 by lia) (by decide +kernel)
def PQ(K:Frag)(H:Hp)(z:Nat×Rat)(x:V):Prop:=∃ p v,x=.ref p/\H p=some (.tup [.int (z.1:Nat),v])/\IsQ K H z.2 v
def EQ(K:Frag)(H:Hp)(z:Nat×(Rat×Rat))(x:V):Prop:=∃ p u s,x=.ref p/\H p=some (.tup [.int (z.1:Nat),u,s])/\IsQ K H z.2.1 u/\IsQ K H z.2.2 s
theorem PQ.tk{K:Frag}{H a:Hp}{z:Nat×Rat}{x:V}(k:TK H a)(h:PQ K H z x):PQ K a z x:=let ⟨p,v,e,h1,h2⟩:=h;⟨p,v,e,k _ _ h1,h2.tk k⟩
theorem EQ.tk{K:Frag}{H a:Hp}{z:Nat×(Rat×Rat)}{x:V}(k:TK H a)(h:EQ K H z x):EQ K a z x:=let ⟨p,u,s,e,h1,h2,h3⟩:=h;⟨p,u,s,e,k _ _ h1,h2.tk k,h3.tk k⟩
theorem az{a b:Type}{R c:a->b->Prop}(f:∀ x y,R x y->c x y):∀{xs:List a}{ys:List b},Paired R xs ys->Paired c xs ys:=λh=>Paired.mapP h f
theorem bC{b a:Type}{R:b->a->Prop}{x:b}{y:a}(h:R x y):∀{xs:List b}{ys:List a},Paired R xs ys->Paired R (xs++[x]) (ys++[y]):=λg=>PySem.Paired.snoc g h
theorem rO{b a:Type}{R:b->a->Prop}:∀{xs xs':List b}{ys ys':List a},Paired R xs ys->Paired R xs' ys'->Paired R (xs++xs') (ys++ys'):=λh g=>by
 induction h with
 | nil=>exact g
 | cons r _ ih=>exact .cons r ih
theorem mV{h c:Rat}{us:Rat×Rat}(z:h+c<1):bg h us c=(us.1*(h/(h+c)),us.2):=by unfold bg;rw[if_pos z]
theorem ni{h c:Rat}{us:Rat×Rat}(z:¬h+c<1):bg h us c=(us.1*((1 - h)/(2 - (h+c))),us.2+us.1*((1 - c)/(2 - (h+c)))):=by unfold bg;rw[if_neg z]
theorem yd{h c:Rat}(z:h+c<1):us0 h c=(c/(h+c),0):=by unfold us0;rw[if_pos z]
theorem wI{h c:Rat}(z:¬h+c<1):us0 h c=((1 - c)/(2 - (h+c)),(1 - h)/(2 - (h+c))):=by unfold us0;rw[if_neg z]
structure Hc(B:Nat)(h c:Rat):Prop where
 B0:0<B
 B1:B<=1000000000
 hB:Bq B h
 cB:Bq B c
 h1:h<1
 c0:0<c
 c1:c<1
theorem Hc.bh{B:Nat}{h c:Rat}(H:Hc B h c):Bb h:=H.hB.bb H.B0 (pO H.B1)
theorem Hc.bc{B:Nat}{h c:Rat}(H:Hc B h c):Bb c:=H.cB.bb H.B0 (pO H.B1)
theorem Hc.bs{B:Nat}{h c:Rat}(H:Hc B h c):Bb (h+c):=(Cr H.hB H.cB).bb H.B0 (pO H.B1)
theorem Hc.bs1{B:Nat}{h c:Rat}(H:Hc B h c):Bb (h+c - 1):=(Al H.hB H.cB).bb H.B0 (pO H.B1)
theorem Hc.bs2{B:Nat}{h c:Rat}(H:Hc B h c):Bb (2 - (h+c)):=(zV H.hB H.cB).bb H.B0 (pO H.B1)
theorem Hc.b1c{B:Nat}{h c:Rat}(H:Hc B h c):Bb (1 - c):=(tM H.cB).bb H.B0 (pO H.B1)
theorem Hc.b1h{B:Nat}{h c:Rat}(H:Hc B h c):Bb (1 - h):=(tM H.hB).bb H.B0 (pO H.B1)
theorem Hc.step{B:Nat}{h c:Rat}(H:Hc B h c):∃ T:Nat,0<T/\T<=2*B/\(h+c<1->Bq T (h/(h+c))/\Bq T (c/(h+c)))/\(¬h+c<1->Bq T ((1 - c)/(2 - (h+c)))/\Bq T ((1 - h)/(2 - (h+c)))):=pU H.B0 H.hB H.cB H.h1 H.c0 H.c1
theorem bb0:Bb 0:=⟨by show Bt 1000 0;unfold Bt;decide,by show Bt 1000 1;unfold Bt;decide⟩
theorem bb1:Bb 1:=⟨by show Bt 1000 1;unfold Bt;decide,by show Bt 1000 1;unfold Bt;decide⟩
theorem bb2:Bb 2:=⟨by show Bt 1000 2;unfold Bt;decide,by show Bt 1000 1;unfold Bt;decide⟩
inductive spBoth(K:Frag)(vs:List V)(H:Hp)(Q:VK)(_E:XK):Prop
 | mk(xu xs xh xc:V)(us:Rat×Rat)(h c:Rat)(D B:Nat)(h0:vs=[xu,xs,xh,xc])(h1:IsQ K H us.1 xu)(h2:IsQ K H us.2 xs)(h3:IsQ K H h xh)(h4:IsQ K H c xc)(h5:Hc B h c)(h6:Pu D us)(h7:0<D)(h8:D*B<Lm)(h9:∀ H' z,Same H H'->IsQ K H' (bk us h c) z->Q z H'):spBoth K vs H Q _E
inductive spHeld(K:Frag)(vs:List V)(H:Hp)(Q:VK)(_E:XK):Prop
 | mk(xh xc:V)(h c:Rat)(B:Nat)(h0:vs=[xh,xc])(h1:IsQ K H h xh)(h2:IsQ K H c xc)(h3:Hc B h c)(h4:∀ H' z,Same H H'->IsQ K H' (hb h c) z->Q z H'):spHeld K vs H Q _E
inductive spBeh(K:Frag)(vs:List V)(H:Hp)(Q:VK)(_E:XK):Prop
 | mk(le:Addr)(xh xc:V)(p:Nat)(h c:Rat)(es:Er)(xs:List V)(D B:Nat)(h0:vs=[.ref le,xh,.int (p:Nat),xc])(h1:H le=some (.lst xs))(h2:Paired (EQ K H) es xs)(h3:es.length<=24)(h4:IsQ K H h xh)(h5:IsQ K H c xc)(h6:Hc B h c)(h7:(∀ z∈es,Pu D z.2))(h8:0<D)(h9:D*(2*B)<Lm)(h10:∀ H' l ys,Same H H'->H l=none->H' l=some (.lst ys)->Paired (EQ K H') (es.map (λz=>(z.1,bg h z.2 c))++[(p,us0 h c)]) ys->Q (.ref l) H'):spBeh K vs H Q _E
section
variable {P:Program}{w:World}{K:Frag}{mg:Str->Option Value}{base:Heap}{a:Ad}
theorem eW(T:Txt K mg a){H:Hp}:IsQ K H 1 (.ref a.k_WHOLE):=⟨_,rfl,.inr T.t_WHOLE⟩
theorem i5(T:Txt K mg a){H:Hp}:IsQ K H 0 (.ref a.k_NOUGHT):=⟨_,rfl,.inr T.t_NOUGHT⟩
theorem Ai(T:Txt K mg a){H:Hp}:IsQ K H 2 (.ref a.k_TWICE):=⟨_,rfl,.inr T.t_TWICE⟩
theorem zX(T:Txt K mg a):FnX P w base 4 T.W_aq (spBoth K):=by
 have d:FnO P w K mg base 3 (spAri (· + ·) (λ_=>True) K):=oH T;have i:FnO P w K mg base 3 (spAri (· - ·) (λ_=>True) K):=jf T;have j:FnO P w K mg base 3 (spAri (· * ·) (λ_=>True) K):=eE T;have l:FnO P w K mg base 3 (spBel K):=(ma T).mono (by decide);refine T.W_aq.A.okz fg λab A r s H vs Q E g h=>?_
 .obtain⟨xu,xs,xh,xc,m,h,c,D,B,rfl,Y,hs,J,G,b,v,o,u,q⟩:=h
  refine⟨_,(ag (psl 4 fg (pec i g T.W_af (aa (pec d g T.W_ax (aa (vr 2) (aa (vr 3) ac))) (aa (be rfl T.g_WHOLE) ac)))) (ag (psl 5 fg (pec j g T.W_O (aa (vr 1) (aa (vr 3) ac)))) (ai (aq (fR (bT (pec l g T.W_aw (aa (be rfl T.g_NOUGHT) (aa (vr 4) ac)))) (pec d g T.W_ax (aa (vr 5) (aa (pec j g T.W_O (aa (vr 0) (aa (vr 4) ac))) ac))) (vr 5)))))),eh ?_⟩;intro R Z;obtain⟨W,k2,k3⟩:=v.bk b.cB b.hB b.h1 b.c1;have F:=yi b.B0 u;have C:0<D*B:=Nat.mul_pos o b.B0;refine⟨_,_,h,c,rfl,J,G,b.bh,b.bc,trivial,λH1 z1 N X=>?_⟩;refine⟨_,_,h+c,1,rfl,X,eW T,b.bs,bb1,trivial,λH2 z2 O x=>?_⟩;have e:=N.trans O;refine⟨_,_,m.2,c,rfl,hs.same e,G.same e,v.2.1.bb o F,b.bc,trivial,λH3 z3 p I=>?_⟩;have f:=e.trans p;refine⟨_,_,0,h+c - 1,rfl,i5 T,x.same p,bb0,b.bs1,?_⟩;refine ifC (λz=>?_) (λz=>?_)
  .have z:0<h+c - 1:=z
   refine⟨_,_,m.1,h+c - 1,rfl,Y.same f,x.same p,v.1.bb o F,b.bs1,trivial,λH4 z4 y L=>?_⟩;refine⟨_,_,m.2*c,m.1*(h+c - 1),rfl,I.same y,L,W.bb C u,(k2 z).2.bb C u,trivial,λH5 z5 M S=>?_⟩;refine q _ _ (f.trans (y.trans M)) ?_;unfold bk;rw[if_pos z];exact S
  .have z:¬0<h+c - 1:=z
   refine q _ _ f ?_;unfold bk;rw[if_neg z];exact I
theorem Af(T:Txt K mg a):FnX P w base 4 T.W_ae (spHeld K):=by
 have e:FnO P w K mg base 3 (spAri (· + ·) (λ_=>True) K):=oH T;have d:FnO P w K mg base 3 (spAri (· - ·) (λ_=>True) K):=jf T;have f:FnO P w K mg base 3 (spBel K):=(ma T).mono (by decide);refine T.W_ae.A.okz fP λv A i s H G Q E j h=>?_
 .obtain⟨x,C,h,c,B,rfl,o,u,b,q⟩:=h
  refine⟨_,(ag (psl 2 fP (pec e j T.W_ax (aa (vr 0) (aa (vr 1) ac)))) (ai (aq (fR (bT (pec f j T.W_aw (aa (vr 2) (aa (be rfl T.g_WHOLE) ac)))) (vr 2) (pec d j T.W_af (aa (vr 2) (aa (be rfl T.g_WHOLE) ac))))))),bU ?_⟩;intro r;refine⟨_,_,h,c,rfl,o,u,b.bh,b.bc,trivial,λI D l g=>?_⟩;refine⟨_,_,h+c,1,rfl,g,eW T,b.bs,bb1,?_⟩;refine ifC (λz=>?_) (λz=>?_)
  .have z:h+c<1:=z
   refine q _ _ l ?_;unfold hb;rw[if_pos z];exact g
  .have z:¬h+c<1:=z
   refine⟨_,_,h+c,1,rfl,g,eW T,b.bs,bb1,trivial,λy F p m=>?_⟩;refine q _ _ (l.trans p) ?_;unfold hb;rw[if_neg z];exact m
theorem Cu(T:Txt K mg a):FnX P w base 4 T.W_F (spBeh K):=by
 have an:FnO P w K mg base 3 (spAri (· + ·) (λ_=>True) K):=oH T;have L:FnO P w K mg base 3 (spAri (· - ·) (λ_=>True) K):=jf T;have a2:FnO P w K mg base 3 (spAri (· * ·) (λ_=>True) K):=eE T;have m:FnO P w K mg base 3 (spAri (· / ·) (λq=>0<q) K):=uQ T;have bD:FnO P w K mg base 3 (spBel K):=(ma T).mono (by decide);refine T.W_F.A.okz sc_F λcs A b3 s H vs Q E F h=>?_
 .obtain⟨le,xh,xc,p,h,c,es,xs,D,B,rfl,bm,hE,b8,hh,hc,b,hP,hD,bo,q⟩:=h
  have b4:sizeLine=16777216:=sizeLine_eq
  refine⟨_,(ag (psl 4 sc_F (pec an F T.W_ax (aa (vr 1) (aa (vr 3) ac)))) (ag (a8 (bT (pec bD F T.W_aw (aa (vr 4) (aa (be rfl T.g_WHOLE) ac)))) (ag (psr 5 sc_F (pec m F T.W_ay (aa (vr 1) (aa (vr 4) ac)))) (ag (gI rfl (i:=6) sc_F.nd rfl rfl (by with_unfolding_all rfl) (N:=["one","up","sure","stays"]) (ix:=[none,none,none,some 5]) ⟨rfl,rfl,rfl,rfl,⟨rfl,rfl,rfl,trivial⟩⟩ (aN (vr 0)) ⟨λC s H fp=>(cb (K:=K) (n:=3) rfl rfl (aw (am (i:=0) (show List.Nodup (["one","up","sure","stays"]:List Str) by decide +kernel) rfl (Or.inl rfl)) (aw (am (i:=1) (show List.Nodup (["one","up","sure","stays"]:List Str) by decide +kernel) rfl (Or.inl rfl)) (aw (am (i:=2) (show List.Nodup (["one","up","sure","stays"]:List Str) by decide +kernel) rfl (Or.inl rfl)) aZ)))),λC s H fp=>aG,λC s H fp=>(aJ (aa (vr 0) (aa (pec a2 F T.W_O (aa (vr 1) (aa (vr 3) ac))) (aa (vr 2) ac))))⟩) (ai (aq (av rM (vr 6) (bL (aa (aJ (aa (vr 2) (aa (pec m F T.W_ay (aa (vr 3) (aa (vr 4) ac))) (aa (be rfl T.g_NOUGHT) ac)))) ac))))))) aE) (ag (psl 7 sc_F (pec L F T.W_af (aa (be rfl T.g_TWICE) (aa (vr 4) ac)))) (ag (psr 8 sc_F (pec m F T.W_ay (aa (pec L F T.W_af (aa (be rfl T.g_WHOLE) (aa (vr 3) ac))) (aa (vr 7) ac)))) (ag (psr 9 sc_F (pec m F T.W_ay (aa (pec L F T.W_af (aa (be rfl T.g_WHOLE) (aa (vr 1) ac))) (aa (vr 7) ac)))) (ag (gI rfl (i:=6) sc_F.nd rfl rfl (by with_unfolding_all rfl) (N:=["one","up","sure","back","ahead"]) (ix:=[none,none,none,some 9,some 8]) ⟨rfl,rfl,rfl,rfl,⟨rfl,rfl,rfl,⟨rfl,rfl,rfl,trivial⟩⟩⟩ (aN (vr 0)) ⟨λC s H fp=>(cb (K:=K) (n:=3) rfl rfl (aw (am (i:=0) (show List.Nodup (["one","up","sure","back","ahead"]:List Str) by decide +kernel) rfl (Or.inl rfl)) (aw (am (i:=1) (show List.Nodup (["one","up","sure","back","ahead"]:List Str) by decide +kernel) rfl (Or.inl rfl)) (aw (am (i:=2) (show List.Nodup (["one","up","sure","back","ahead"]:List Str) by decide +kernel) rfl (Or.inl rfl)) aZ)))),λC s H fp=>aG,λC s H fp=>(aJ (aa (vr 0) (aa (pec a2 F T.W_O (aa (vr 1) (aa (vr 3) ac))) (aa (pec an F T.W_ax (aa (vr 2) (aa (pec a2 F T.W_O (aa (vr 1) (aa (vr 4) ac))) ac))) ac))))⟩) (ai (aq (av rM (vr 6) (bL (aa (aJ (aa (vr 2) (aa (vr 8) (aa (vr 9) ac)))) ac))))))))))),Dz ?_⟩
  intro b9 b' ca ch ct co;obtain⟨TT,t0,t1,hT⟩:=b.step;have h0:=b.hB.1;have lD:D<Lm:=yi (show 0<2*B by have:=b.B0;lia) bo;have lT:TT<Lm:=Nat.lt_of_le_of_lt t1 (De b.B1);have b2:D*TT<Lm:=Nat.lt_of_le_of_lt (Nat.mul_le_mul_left D t1) bo;have b6:0<D*TT:=Nat.mul_pos hD t0;have br:xs.length=es.length:=(Paired.length hE).symm;refine⟨_,_,h,c,rfl,hh,hc,b.bh,b.bc,trivial,λH1 z1 s1 q1=>?_⟩;refine⟨_,_,h+c,1,rfl,q1,eW T,b.bs,bb1,?_⟩;have sp:0<h+c:=by have:=b.c0;grind
  refine ifC (λz=>?_) (λz=>?_)
  .have z:h+c<1:=z
   obtain⟨t2,t3⟩:=hT.1 z;refine⟨_,_,h,h+c,rfl,hh.same s1,q1,b.bh,b.bs,sp,λH2 z2 s2 q2=>?_⟩;have G:=s1.trans s2;have ad:=G _ _ bm;have b5:=az (λz x (h:EQ K H z x)=>h.tk G.tk) hE;refine .inl ⟨⟨_,SqL.of ad⟩,λE0 O=>?_⟩
   let Pw1:PvL:=λi f g=>i<=xs.length/\Same H2 g/\g E0=some (.lst f)/\Paired (EQ K g) ((es.take i).map λz=>(z.1,bg h z.2 c)) f
   refine aD (K:=K) (a:=le) (xs:=xs) Pw1 ⟨Nat.zero_le _,Same.new O,ae,.nil⟩ (λi f g h=>SqL.of (h.2.1 _ _ ad)) (λi f g h=>h.2.2.1) ?_ ?_
   .rintro i y f g P' hy ⟨hi,W,ab,d⟩ ap
    obtain⟨⟨o,X⟩,M,pp,u,sv,rfl,g1,g2,g3⟩:=aM (az (λz x (h:EQ K H2 z x)=>h.tk W.tk) b5) hy;have a4:i<xs.length:=(List.getElem?_eq_some_iff.mp hy).1;have v:=hP _ (List.mem_of_getElem? M);have yl:f.length<=24:=by rw[<- Paired.length d,length_map,length_take];lia
    refine⟨pp,_,rfl,SqT.of g1,rfl,_,_,rfl,_,_,rfl,_,_,rfl,rfl,⟨rfl,trivial⟩,?_⟩;refine⟨_,_,X.1,h/(h+c),rfl,g2,q2.same W,v.1.bb hD lD,t2.bb t0 lT,trivial,λH4 I S q4=>?_⟩;refine⟨(by show 3<=sizeLine;decide),λl e=>?_⟩;have Y:=Same.new (o:=.tup [.int (o:Nat),I,sv]) e;have bn:=Y _ _ (S _ _ ab);have ne:l≠E0:=λz=>by rw[z,S _ _ ab]at e;cases e
    have a3:TK H4 (upd (upd H4 l (.tup [.int (o:Nat),I,sv])) E0 (.lst (f++[.ref l]))):=Y.tk.trans (TK.lst bn);refine⟨bn,by lia,ap _ _ ⟨a4,((W.trans S).trans Y).put O,ae,?_⟩⟩;rw[take_add_one,M,map_append];refine bC ⟨l,I,sv,rfl,by rw[ar ne];exact ae,?_,?_⟩ (az (λz x (h:EQ K g z x)=>(h.tk S.tk).tk a3) d)
    .show IsQ K _ (bg h X c).1 I;rw[mV z];exact q4.tk a3
    .show IsQ K _ (bg h X c).2 sv;rw[mV z];exact(g3.same S).tk a3
   .rintro f g ⟨_,W,ab,d⟩
    rw[br,take_length]at d;have a0:=G.trans W;refine⟨_,_,c,h+c,rfl,hc.same a0,q1.same (s2.trans W),b.bc,b.bs,sp,λH4 I S q4=>?_⟩;refine⟨(by show 3<=sizeLine;decide),λl e=>?_⟩;have Y:=Same.new (o:=.tup [.int (p:Nat),I,.ref a.k_NOUGHT]) e;refine⟨(by show 1<=sizeLine;decide),λl1 a1=>?_⟩;have s6:=Same.new (o:=.lst [.ref l]) a1;have r:=S.trans (Y.trans s6);have yl:f.length<=24:=by rw[<- Paired.length d,length_map];lia
    refine⟨E0,l1,_,_,rfl,rfl,r _ _ ab,ae,by simp;lia,λl2 R=>?_⟩;have J:=Same.new (o:=.lst (f++[.ref l])) R;have bl:=r.trans J;refine q _ l2 _ (a0.trans bl) ((a0.trans r).free R) ae ?_;refine bC ⟨l,I,_,rfl,(s6.trans J) _ _ ae,?_,?_⟩ (az (λz x (h:EQ K g z x)=>h.tk bl.tk) d)
    .show IsQ K _ (us0 h c).1 I;rw[yd z];exact q4.same (Y.trans (s6.trans J))
    .show IsQ K _ (us0 h c).2 _;rw[yd z];exact i5 T
  .have z:¬h+c<1:=z
   obtain⟨t2,t3⟩:=hT.2 z;have bp:0<2 - (h+c):=by have:=b.h1;have:=b.c1;grind
   refine⟨_,_,2,h+c,rfl,Ai T,q1,bb2,b.bs,trivial,λH2 z2 s2 q2=>?_⟩;have G:=s1.trans s2;refine⟨_,_,1,c,rfl,eW T,hc.same G,bb1,b.bc,trivial,λH3 z3 W q3=>?_⟩;refine⟨_,_,1 - c,2 - (h+c),rfl,q3,q2.same W,b.b1c,b.bs2,bp,λH4 I S q4=>?_⟩;have bd:=G.trans (W.trans S);refine⟨_,_,1,h,rfl,eW T,hh.same bd,bb1,b.bh,trivial,λH5 z5 Y q5=>?_⟩;refine⟨_,_,1 - h,2 - (h+c),rfl,q5,q2.same (W.trans (S.trans Y)),b.b1h,b.bs2,bp,λH6 z6 s6 q6=>?_⟩;have r:=Y.trans s6;have aS:=bd.trans r;have qa:=q4.same r;have al:=aS _ _ bm;have b1:=az (λz x (h:EQ K H z x)=>h.tk aS.tk) hE;refine .inl ⟨⟨_,SqL.of al⟩,λE0 O=>?_⟩
   let Pw2:PvL:=λi f g=>i<=xs.length/\Same H6 g/\g E0=some (.lst f)/\Paired (EQ K g) ((es.take i).map λz=>(z.1,bg h z.2 c)) f
   refine aD (K:=K) (a:=le) (xs:=xs) Pw2 ⟨Nat.zero_le _,Same.new O,ae,.nil⟩ (λi f g h=>SqL.of (h.2.1 _ _ al)) (λi f g h=>h.2.2.1) ?_ ?_
   .rintro i y f g P' hy ⟨hi,J,Z,d⟩ ap
    obtain⟨⟨o,X⟩,M,pp,u,sv,rfl,g1,g2,g3⟩:=aM (az (λz x (h:EQ K H6 z x)=>h.tk J.tk) b1) hy;have a4:i<xs.length:=(List.getElem?_eq_some_iff.mp hy).1;have v:=hP _ (List.mem_of_getElem? M);have yl:f.length<=24:=by rw[<- Paired.length d,length_map,length_take];lia
    refine⟨pp,_,rfl,SqT.of g1,rfl,_,_,rfl,_,_,rfl,_,_,rfl,rfl,⟨rfl,rfl,trivial⟩,?_⟩;refine⟨_,_,X.1,(1 - h)/(2 - (h+c)),rfl,g2,q6.same J,v.1.bb hD lD,t3.bb t0 lT,trivial,λH8 z8 s8 q8=>?_⟩;refine⟨_,_,X.1,(1 - c)/(2 - (h+c)),rfl,g2.same s8,qa.same (J.trans s8),v.1.bb hD lD,t2.bb t0 lT,trivial,λH9 z9 s9 q9=>?_⟩;refine⟨_,_,X.2,X.1*((1 - c)/(2 - (h+c))),rfl,g3.same (s8.trans s9),q9,v.2.1.bb hD lD,(v.1.mul t2).bb b6 b2,trivial,λHA zA sA qA=>?_⟩;refine⟨(by show 3<=sizeLine;decide),λl e=>?_⟩;have j:=s8.trans (s9.trans sA);have sB:=Same.new (o:=.tup [.int (o:Nat),z8,zA]) e;have b0:=sB _ _ (j _ _ Z);have ne:l≠E0:=λz=>by rw[z,j _ _ Z]at e;cases e
    have a':TK HA (upd (upd HA l (.tup [.int (o:Nat),z8,zA])) E0 (.lst (f++[.ref l]))):=sB.tk.trans (TK.lst b0);refine⟨b0,by lia,ap _ _ ⟨a4,((J.trans j).trans sB).put O,ae,?_⟩⟩;rw[take_add_one,M,map_append];refine bC ⟨l,z8,zA,rfl,by rw[ar ne];exact ae,?_,?_⟩ (az (λz x (h:EQ K g z x)=>(h.tk j.tk).tk a') d)
    .show IsQ K _ (bg h X c).1 z8;rw[ni z];exact(q8.same (s9.trans sA)).tk a'
    .show IsQ K _ (bg h X c).2 zA;rw[ni z];exact qA.tk a'
   .rintro f g ⟨_,J,Z,d⟩
    rw[br,take_length]at d;have bq:=aS.trans J;refine⟨(by show 3<=sizeLine;decide),λl e=>?_⟩;have s8:=Same.new (o:=.tup [.int (p:Nat),I,z6]) e;refine⟨(by show 1<=sizeLine;decide),λl1 a1=>?_⟩;have s9:=Same.new (o:=.lst [.ref l]) a1;have as:=s8.trans s9;have yl:f.length<=24:=by rw[<- Paired.length d,length_map];lia
    refine⟨E0,l1,_,_,rfl,rfl,as _ _ Z,ae,by simp;lia,λl2 R=>?_⟩;have sA:=Same.new (o:=.lst (f++[.ref l])) R;have j:=as.trans sA;refine q _ l2 _ (bq.trans j) ((bq.trans as).free R) ae ?_;refine bC ⟨l,I,z6,rfl,(s9.trans sA) _ _ ae,?_,?_⟩ (az (λz x (h:EQ K g z x)=>h.tk j.tk) d)
    .show IsQ K _ (us0 h c).1 I;rw[wI z];exact qa.same (J.trans j)
    .show IsQ K _ (us0 h c).2 z6;rw[wI z];exact q6.same (J.trans j)
end
def ky(x y:Nat):List Key:=[.inl (x:Int),.inl (y:Int)]
theorem BS{x y b a:Nat}(h:ky x y=ky b a):x=b/\y=a:=by
 unfold ky at h;simp at h;lia
def DF(K:Frag)(H:Hp)(kvs:List (List Key×V))(f:Fn):Prop:=∀ x y:Nat,(∀ v,f x y=some v->∃ z,bI kvs (ky x y)=some z/\IsQ K H v z)/\(f x y=none->bI kvs (ky x y)=none)
theorem DF.tk{K:Frag}{H b:Hp}{a:List (List Key×V)}{f:Fn}(k:TK H b)(h:DF K H a f):DF K b a f:=λx y=>⟨λv e=>let ⟨z,h1,h2⟩:=(h x y).1 v e;⟨z,h1,h2.tk k⟩,(h x y).2⟩
theorem DF.put{K:Frag}{H:Hp}{d:List (List Key×V)}{f:Fn}{x y:Nat}{v:Rat}{z:V}(h:DF K H d f)(hz:IsQ K H v z):DF K H (cv d (ky x y) z) (mD f x y v):=λa b=>by
 rw[gg]
 by_cases c:a=x/\b=y
 .obtain⟨rfl,rfl⟩:=c
  rw[if_pos rfl,uO];exact⟨(λv e=>by cases e;exact⟨z,rfl,hz⟩),(λe=>by cases e)⟩
 .rw[if_neg (λe=>c (BS e)),dI c]
  exact h a b
theorem TK.dT{H:Hp}{d:Addr}{a:List (List Key×V)}{o:HO}(h:H d=some (.dT a)):TK H (upd H d o):=λb c e=>by rw[ar (λz=>by rw[z,h]at e;cases e)];exact e
theorem DZ{B i:Nat}(e:B<=1000000000)(hi:i<=24):(2*B) ^ i*(2*B)<Lm:=by
 have a:2*B<=2 ^ 31:=by lia
 have b:(2*B) ^ i<=(2 ^ 31) ^ i:=Nat.pow_le_pow_left a i;have d:(2 ^ 31) ^ i<=(2 ^ 31) ^ 24:=Nat.pow_le_pow_right (by decide) hi;have c:(2*B) ^ i*(2*B)<=(2 ^ 31) ^ 24*2 ^ 31:=Nat.mul_le_mul (Nat.le_trans b d) a;exact Nat.lt_of_le_of_lt c (by decide +kernel)
structure KtS(B:Nat)(L:List (Nat×Rat))(i:Nat)(S:Fn×Er×Rat):Prop where
 eq:S=(L.take i).foldl a9 k0
 hB:Bq B S.2.2
 h1:S.2.2<1
 len:S.2.1.length=i
 D:∃ D,0<D/\D<=(2*B) ^ i/\∀ z∈S.2.1,Pu D z.2
theorem KtS.start{B:Nat}{L:List (Nat×Rat)}:KtS B L 0 k0:=⟨rfl,Bq.zero,by show(0:Rat)<1;grind,rfl,1,by decide,by simp,λz a=>by cases a⟩
theorem KtS.step{B:Nat}{L:List (Nat×Rat)}{i:Nat}{S:Fn×Er×Rat}{z:Nat×Rat}(k:KtS B L i S)(f:0<B)(o:B<=1000000000)(hz:L[i]? = some z)(d:Bq B z.2)(a:Uns z.2):Hc B S.2.2 z.2/\KtS B L (i+1) (a9 S z):=by
 have c:Hc B S.2.2 z.2:=⟨f,o,k.hB,d,k.h1,a.1,a.2⟩
 refine⟨c,?_,ym k.hB d k.h1 a.2,(Be k.hB.1 k.h1 a.1 a.2).2,?_,?_⟩
 .rw[take_add_one,hz,foldl_append,<- k.eq];rfl
 .show(S.2.1.map _++[_]).length=i+1
  rw[length_append,length_map,k.len];rfl
 .obtain⟨D,j,r,p⟩:=k.D
  obtain⟨T,l,h,e⟩:=c.step;refine⟨D*T,Nat.mul_pos j l,?_,λy b=>?_⟩
  .rw[Nat.pow_succ];exact Nat.mul_le_mul r h
  .have b:y∈S.2.1.map (λw=>(w.1,bg S.2.2 w.2 z.2))++[(z.1,us0 S.2.2 z.2)]:=b
   rcases mem_append.mp b with m | m
   .obtain⟨w,g,rfl⟩:=mem_map.mp m
    exact(p w g).step (B:=B) k.hB.1 k.h1 a.1 a.2 e
   .cases mem_singleton.mp m
    exact(Pu.new k.hB.1 k.h1 a.1 a.2 e).up D
inductive spKept(K:Frag)(vs:List V)(H:Hp)(Q:VK)(_E:XK):Prop
 | mk(lt:Addr)(xs:List V)(L:List (Nat×Rat))(B:Nat)(h0:vs=[.ref lt])(h1:H lt=some (.lst xs))(h2:Paired (PQ K H) L xs)(h3:L.length<=24)(h4:0<B)(h5:B<=1000000000)(h6:(∀ z∈L,Bq B z.2/\Uns z.2))(h7:∀ H' d kvs,Same H H'->H d=none->H' d=some (.dT kvs)->DF K H' kvs (keptF L)->Q (.ref d) H'):spKept K vs H Q _E
section
variable {P:Program}{w:World}{K:Frag}{mg:Str->Option Value}{base:Heap}{a:Ad}
theorem zZ(T:Txt K mg a):FnX P w base 5 T.W_r (spKept K):=by
 have bl:FnO P w K mg base 4 (spBoth K):=zX T;have br:FnO P w K mg base 4 (spBeh K):=Cu T;have bn:FnO P w K mg base 4 (spHeld K):=Af T;refine T.W_r.A.okz sc_r λcS A b3 s H vs Q E hr h=>?_
 .obtain⟨lt,xs,L,B,rfl,bp,hL,cs,B0,B1,hq,q⟩:=h
  have b8:sizeLine=16777216:=sizeLine_eq;have b':xs.length=L.length:=(Paired.length hL).symm;refine⟨_,(ag (psl 1 sc_r wR) (ag (psl 2 sc_r (bL ac)) (ag (psl 3 sc_r (be rfl T.g_NOUGHT)) (ag (cc PassesOwn.never rfl (aN (vr 0)) (dS rfl (aw (am (i:=4) sc_r.nd rfl (Or.inl rfl)) (aw (am (i:=5) sc_r.nd rfl (Or.inl rfl)) aZ))) (ag (cc PassesOwn.never rfl (aN (vr 2)) (dS rfl (aw (am (i:=6) sc_r.nd rfl (Or.inl rfl)) (aw (am (i:=7) sc_r.nd rfl (Or.inl rfl)) (aw (am (i:=8) sc_r.nd rfl (Or.inl rfl)) aZ)))) (ag (oq (nR hr) (vr 1) (aJ (aa (vr 6) (aa (vr 4) ac))) (pec bl hr T.W_aq (aa (vr 7) (aa (vr 8) (aa (vr 3) (aa (vr 5) ac))))) rfl) (ai (oq (nR hr) (vr 1) (aJ (aa (vr 4) (aa (vr 6) ac))) (t8 (nR hr) (vr 1) (aJ (aa (vr 6) (aa (vr 4) ac))) (λ_ _=>rfl)) rfl)))) (ag (psl 2 sc_r (pec br hr T.W_F (aa (vr 2) (aa (vr 3) (aa (vr 4) (aa (vr 5) ac)))))) (ai (psl 3 sc_r (pec bn hr T.W_ae (aa (vr 3) (aa (vr 5) ac)))))))) (ai (aq (vr 1))))))),DS ?_⟩;intro cu cC cV cO;intro d fd;have s1:=Same.new (o:=.dT []) fd;have a':=ae (H:=H) (a:=d) (o:=.dT []);generalize upd H d (.dT [])=H1 at s1 a';refine⟨Nat.zero_le _,λX an=>?_⟩;have s2:=Same.new (o:=.lst []) an;have a1:=s1.trans s2;have C:=s2 _ _ a';have al:=ae (H:=H1) (a:=X) (o:=.lst []);have cB:H X=none:=s1.free an;generalize upd H1 X (.lst [])=J at s2 a1 C al
  let Pw1:PvS:=λi σ r=>∃(S:Fn×Er×Rat) (p:List (List Key×V)) (M:Addr) (I:List V) (xh:V) (x4 x5 O Y Z:Option V),KtS B L i S/\Same H r/\r d=some (.dT p)/\p.length<=48*i/\DF K r p S.1/\r M=some (.lst I)/\Paired (EQ K r) S.2.1 I/\IsQ K r S.2.2 xh/\σ=[some (.ref lt),some (.ref d),some (.ref M),some xh,x4,x5,O,Y,Z]
  refine .inl ⟨⟨_,SqL.of (a1 _ _ bp)⟩,df (K:=K) (a:=lt) (xs:=xs) Pw1
   ⟨k0,[],X,[],_,none,none,none,none,none,KtS.start,a1,C,Nat.zero_le _,(λx y=>⟨(λv e=>by cases e),λ_=>rfl⟩),al,.nil,i5 T,rfl⟩ (λi σ r _ h=>?_) ?_ ?_⟩
  .obtain⟨S,p,M,I,xh,x4,x5,O,Y,Z,k,sH,_⟩:=h
   exact SqL.of (sH _ _ bp)
  .rintro i x σ r hx ⟨S,p,M,I,xh,x4,x5,O,Y,Z,k,sH,hd,b2,hF,m,hE,hh,rfl⟩
   obtain⟨⟨g,c⟩,aS,pp,vc,rfl,g1,g2⟩:=aM (az (λz x (h:PQ K H z x)=>h.tk sH.tk) hL) hx;have cW:i<L.length:=(List.getElem?_eq_some_iff.mp aS).1;obtain⟨b5,b1⟩:=hq _ (List.mem_of_getElem? aS);obtain⟨hc,kn⟩:=k.step B0 B1 aS b5 b1;obtain⟨D,d0,d1,hP⟩:=k.D;have ad:D*(2*B)<Lm:=Nat.lt_of_le_of_lt (Nat.mul_le_mul_right _ d1) (DZ B1 (by lia));have b4:D*B<Lm:=Nat.lt_of_le_of_lt (Nat.mul_le_mul_left D (by lia)) ad;have ch:I.length=i:=by rw[<- Paired.length hE];exact k.len
   refine⟨pp,_,rfl,SqT.of g1,rfl,_,_,rfl,_,_,rfl,rfl,?_⟩
   let Pw2:PvS:=λj σ J=>∃(f:List (List Key×V)) (O Y Z:Option V),(∀ b o,b≠d->r b=some o->J b=some o)/\J d=some (.dT f)/\f.length<=48*i+2*j/\DF K J f (i4 g S.2.2 c (S.2.1.take j) S.1)/\σ=[some (.ref lt),some (.ref d),some (.ref M),some xh,some (.int (g:Nat)),some vc,O,Y,Z]
   refine .inl ⟨⟨_,SqL.of m⟩,df (K:=K) (a:=M) (xs:=I) Pw2
    ⟨p,_,_,_,(λb o _ e=>e),hd,by lia,by rw[take_zero];exact hF,rfl⟩ (λj σ J _ h=>?_) ?_ ?_⟩
   .obtain⟨f,O,Y,Z,kp,_⟩:=h
    exact SqL.of (kp _ _ (λz=>by rw[z,hd]at m;cases m) m)
   .rintro j y σ J hy ⟨f,O,Y,Z,kp,C,bD,R,rfl⟩
    have l:TK r J:=λb us e=>kp _ _ (λz=>by rw[z,hd]at e;cases e) e
    obtain⟨⟨o,us⟩,bm,pe,u,sv,rfl,e1,e2,e3⟩:=aM (az (λz x (h:EQ K r z x)=>h.tk l) hE) hy;have ct:j<I.length:=(List.getElem?_eq_some_iff.mp hy).1;refine⟨pe,_,rfl,SqT.of e1,rfl,_,_,rfl,_,_,rfl,_,_,rfl,rfl,?_⟩;refine⟨_,_,_,_,us,S.2.2,c,D,B,rfl,e2,e3,hh.tk l,g2.tk l,hc,hP _ (List.mem_of_getElem? bm),d0,b4,λH3 G s3 qb=>?_⟩;refine⟨bF _ _,λk1 b6=>?_⟩;have F:=Same.new (o:=.tup [.int (o:Nat),.int (g:Nat)]) b6;have W:=(s3.trans F) _ _ C;have bo:=ae (H:=H3) (a:=k1) (o:=.tup [.int (o:Nat),.int (g:Nat)]);generalize upd H3 k1 (.tup [.int (o:Nat),.int (g:Nat)])=H4 at F W bo;refine⟨d,_,rfl,.inr ⟨f,ky o g,k1,W,rfl,bo,by lia,rfl⟩,?_⟩;have a3:=((R.tk (s3.trans F).tk).put (x:=o) (y:=g) (qb.same F)).tk (TK.dT (o:=.dT (cv f (ky o g) G)) W);have bd:IsQ K (upd H4 d (.dT (cv f (ky o g) G))) (bk us S.2.2 c) G:=(qb.same F).tk (TK.dT W);have a2:=ae (H:=H4) (a:=d) (o:=.dT (cv f (ky o g) G));have k5:∀ b o',b≠d->r b=some o'->(upd H4 d (.dT (cv f (ky o g) G))) b=some o':=λb o' n e=>by rw[ar n];exact(s3.trans F) _ _ (kp _ _ n e)
    generalize upd H4 d (.dT (cv f (ky o g) G))=H5 at a3 bd a2 k5;have cT:=dC f (ky o g) G;refine⟨bF _ _,λk2 bq=>?_⟩;have s6:=Same.new (o:=.tup [.int (o:Nat),.int (g:Nat)]) bq;have ab:=ae (H:=H5) (a:=k2) (o:=.tup [.int (o:Nat),.int (g:Nat)]);have a0:=s6 _ _ a2;generalize upd H5 k2 (.tup [.int (o:Nat),.int (g:Nat)])=H6 at s6 ab a0;refine⟨d,G,rfl,.inr ⟨_,ky o g,k2,.inl a0,rfl,ab,by rw[gg,if_pos rfl]⟩,?_⟩;refine⟨bF _ _,λk3 b9=>?_⟩;have s7:=Same.new (o:=.tup [.int (g:Nat),.int (o:Nat)]) b9;have a4:=ae (H:=H6) (a:=k3) (o:=.tup [.int (g:Nat),.int (o:Nat)]);have as:=s7 _ _ a0;have N:=s6.trans s7;generalize upd H6 k3 (.tup [.int (g:Nat),.int (o:Nat)])=H7 at s7 a4 as N;refine⟨d,_,rfl,.inr ⟨_,ky g o,k3,as,rfl,a4,by lia,rfl⟩,?_⟩;have cR:=dC (cv f (ky o g) G) (ky g o) G;refine⟨_,_,_,_,(λb o' n e=>by rw[ar n];exact N _ _ (k5 _ _ n e)),ae,by lia,?_,rfl⟩
    have ca:i4 g S.2.2 c (S.2.1.take (j+1)) S.1=mD (mD (i4 g S.2.2 c (S.2.1.take j) S.1) o g (bk us S.2.2 c)) g o (bk us S.2.2 c):=by
     rw[take_add_one,bm];unfold i4;rw[foldl_append];rfl
    rw[ca];exact((a3.tk N.tk).put (x:=g) (y:=o) (bd.same N)).tk (TK.dT as)
   .rintro σ J ⟨f,O,Y,Z,kp,C,bD,R,rfl⟩
    have eT:S.2.1.take I.length=S.2.1:=by rw[ch,<- k.len,take_length]
    rw[eT]at R;have l:TK r J:=λb us e=>kp _ _ (λz=>by rw[z,hd]at e;cases e) e
    have co:M≠d:=λz=>by rw[z,hd]at m;cases m
    have b0:Same H J:=λb o e=>kp _ _ (ay e fd) (sH _ _ e)
    refine⟨M,_,_,g,S.2.2,c,S.2.1,I,D,B,rfl,kp _ _ co m,az (λz x (h:EQ K r z x)=>h.tk l) hE,by rw[k.len];lia,hh.tk l,g2.tk l,hc,hP,d0,ad,λH3 l3 es3 s3 f3 h3 hE3=>?_⟩;refine⟨_,_,S.2.2,c,B,rfl,(hh.tk l).same s3,(g2.tk l).same s3,hc,λH4 z4 F q4=>?_⟩;have ap:=s3.trans F;exact⟨a9 S (g,c),f,l3,es3,z4,_,_,_,_,_,kn,b0.trans ap,ap _ _ C,by lia,R.tk ap.tk,F _ _ h3,az (λz x (h:EQ K H3 z x)=>h.tk F.tk) hE3,q4,rfl⟩
  .rintro σ r ⟨S,p,M,I,xh,x4,x5,O,Y,Z,k,sH,hd,b2,hF,m,hE,hh,rfl⟩
   have eS:=k.eq;rw[b',take_length]at eS;rw[eS]at hF;exact q _ d p sH fd hd hF
end
end My
namespace My
open PySem L2 FrM Du Nd
open Nst (Mb plc szs hd tl bN groups aT parts outer aK a7 aW)
def dO:HO->Bool
 | .lst _=>true
 | .tup _=>true
 | .ins _ _ _=>true
 | _=>false
def NC(H H':Hp):Prop:=∀ b o,dO o=true->H b=some o->H' b=some o
theorem dR{H a:Hp}(s:SameT H a):NC H a:=λb o d e=>(s b o e).1 (by cases o <;> first | rfl | cases d)
def MbAt(H:Hp)(m:Mb)(x:V):Prop:=∃ q pt,x=.ref q/\H q=some (.tup [.int m.1,.int m.2.1,.ref pt])/\H pt=some (.tup (m.2.2.map V.str))
abbrev CrAt(H:Hp):List Mb->List V->Prop:=Paired (MbAt H)
theorem MbAt.n{H a:Hp}(s:NC H a)(m:Mb)(x:V)(h:MbAt H m x):MbAt a m x:=let ⟨q,pt,h1,h2,h3⟩:=h;⟨q,pt,h1,s _ _ rfl h2,s _ _ rfl h3⟩
def CrL(H:Hp)(g:List Mb)(v:V):Prop:=∃ l ys,v=.ref l/\H l=some (.lst ys)/\CrAt H g ys
theorem CrL.n{H a:Hp}(s:NC H a)(g:List Mb)(v:V)(h:CrL H g v):CrL a g v:=let ⟨l,ys,h1,h2,h3⟩:=h;⟨l,ys,h1,s _ _ rfl h2,az (MbAt.n s) h3⟩
def GsL(H:Hp)(v:V)(gs:List (List Mb)):Prop:=∃ l ys,v=.ref l/\H l=some (.lst ys)/\Paired (CrL H) gs ys
def IsPn(a:Ad)(H:Hp):V->Pl->Prop
 | v,.few m=>∃ x dx,v=.ref x/\H x=some (.ins a.c_Y dx [("many",.int (m:Nat))])
 | v,.start m=>∃ x dx,v=.ref x/\H x=some (.ins a.c_A dx [("step",.int (m:Nat))])
 | v,.loose m=>∃ x dx,v=.ref x/\H x=some (.ins a.c_B dx [("many",.int (m:Nat))])
 | v,.duel m=>∃ x dx,v=.ref x/\H x=some (.ins a.c_K dx [("many",.int (m:Nat))])
 | v,.each p=>∃ x dx u,v=.ref x/\H x=some (.ins a.c_C dx [("inside",u)])/\IsPn a H u p
 | v,.first p q=>∃ x dx u z,v=.ref x/\H x=some (.ins a.c_j dx [("outside",u),("inside",z)])/\IsPn a H u p/\IsPn a H z q
theorem IsPn.n{a:Ad}{H b:Hp}(s:NC H b):∀{pl:Pl}{v:V},IsPn a H v pl->IsPn a b v pl
 | .few _,_,⟨x,dx,h1,h2⟩=>⟨x,dx,h1,s _ _ rfl h2⟩
 | .start _,_,⟨x,dx,h1,h2⟩=>⟨x,dx,h1,s _ _ rfl h2⟩
 | .loose _,_,⟨x,dx,h1,h2⟩=>⟨x,dx,h1,s _ _ rfl h2⟩
 | .duel _,_,⟨x,dx,h1,h2⟩=>⟨x,dx,h1,s _ _ rfl h2⟩
 | .each _,_,⟨x,dx,u,h1,h2,h3⟩=>⟨x,dx,u,h1,s _ _ rfl h2,IsPn.n s h3⟩
 | .first _ _,_,⟨x,dx,u,z,h1,h2,h3,h4⟩=>⟨x,dx,u,z,h1,s _ _ rfl h2,IsPn.n s h3,IsPn.n s h4⟩
def ot:Pl->Bool | .few _=>true | _=>false
def eK:Pl->Bool | .start _=>true | _=>false
def eM:Pl->Bool | .loose _=>true | _=>false
def jg:Pl->Bool | .duel _=>true | _=>false
def ck:Pl->Bool | .each _=>true | _=>false
def bM:Pl->Bool | .first _ _=>true | _=>false
theorem fq{a:Ad}{H:Hp}{v:V}{pl:Pl}{S:(Pl->Bool)->Sp}{Q:VK}{A B s o j i:XK}(e:Str)(g:∀ x:V,[(("many" : Str),x)].lookup e=none)(r:∀ x:V,[(("step" : Str),x)].lookup e=none)(w:∀ x:V,[(("inside" : Str),x)].lookup e=none)(l:∀ x y:V,[(("outside" : Str),x),(("inside" : Str),y)].lookup e=none)(W:(V->Hp->Prop)->Prop)(f:IsPn a H v pl)(h:∀ c E,c pl=true->W λy H1=>S c [v,y] H1 Q E) :
  (∃(b dx:Addr) (fs:List (Str×V)),v=.ref b/\H b=some (.ins a.c_Y dx fs)/\fs.lookup e=none/\W λy H1=>S ot [v,y] H1 Q A)\/(∃(b dx:Addr) (fs:List (Str×V)),v=.ref b/\H b=some (.ins a.c_A dx fs)/\fs.lookup e=none/\W λy H1=>S eK [v,y] H1 Q B)\/(∃(b dx:Addr) (fs:List (Str×V)),v=.ref b/\H b=some (.ins a.c_B dx fs)/\fs.lookup e=none/\W λy H1=>S eM [v,y] H1 Q s)\/(∃(b dx:Addr) (fs:List (Str×V)),v=.ref b/\H b=some (.ins a.c_K dx fs)/\fs.lookup e=none/\W λy H1=>S jg [v,y] H1 Q o)\/(∃(b dx:Addr) (fs:List (Str×V)),v=.ref b/\H b=some (.ins a.c_C dx fs)/\fs.lookup e=none/\W λy H1=>S ck [v,y] H1 Q j)\/(∃(b dx:Addr) (fs:List (Str×V)),v=.ref b/\H b=some (.ins a.c_j dx fs)/\fs.lookup e=none/\W λy H1=>S bM [v,y] H1 Q i):=by
 cases pl with
 | few m=>obtain⟨x,dx,rfl,d⟩:=f;exact .inl ⟨x,dx,_,rfl,d,g _,h _ _ rfl⟩
 | start m=>obtain⟨x,dx,rfl,d⟩:=f;exact .inr (.inl ⟨x,dx,_,rfl,d,r _,h _ _ rfl⟩)
 | loose m=>obtain⟨x,dx,rfl,d⟩:=f;exact .inr (.inr (.inl ⟨x,dx,_,rfl,d,g _,h _ _ rfl⟩))
 | duel m=>obtain⟨x,dx,rfl,d⟩:=f;exact .inr (.inr (.inr (.inl ⟨x,dx,_,rfl,d,g _,h _ _ rfl⟩)))
 | each p=>obtain⟨x,dx,u,rfl,d,_⟩:=f;exact .inr (.inr (.inr (.inr (.inl ⟨x,dx,_,rfl,d,w _,h _ _ rfl⟩))))
 | first p q=>obtain⟨x,dx,u,z,rfl,d,_⟩:=f;exact .inr (.inr (.inr (.inr (.inr ⟨x,dx,_,rfl,d,l _ _,h _ _ rfl⟩))))
theorem CrAt.tk{H a:Hp}(k:TK H a):∀{ms:List Mb}{xs:List V},CrAt H ms xs->CrAt a ms xs
 | _,_,.nil=>.nil
 | _,_,.cons ⟨q,pt,h1,h2,h3⟩ t=>.cons ⟨q,pt,h1,k _ _ h2,k _ _ h3⟩ (CrAt.tk k t)
theorem SameT.tk{H b:Hp}(s:SameT H b):TK H b:=λa c h=>s.at h
theorem CrAt.get{H:Hp}:∀{ms:List Mb}{xs:List V}{i:Nat}{x:V},CrAt H ms xs->xs[i]? = some x->∃ r,ms[i]? = some r/\MbAt H r x
 | _,_,_,_,.nil,h=>by cases h
 | _,_,0,_,.cons r _,h=>⟨_,rfl,by cases h;exact r⟩
 | _,_,i+1,_,.cons _ t,h=>CrAt.get (i:=i) t h
theorem CrAt.len{H:Hp}{a:List Mb}{xs:List V}(h:CrAt H a xs):a.length=xs.length:=Paired.length h
def pD(fs:List (Int×Int)):List PyData:=fs.map λf=>.tuple [.int f.1,.int f.2]
inductive spWBy(K:Frag)(vs:List V)(H:Hp)(Q:VK)(_E:XK):Prop
 | mk(l:Addr)(xs:List V)(ms:List Mb)(m:Int)(h0:vs=[.ref l,.int m])(h1:H l=some (.lst xs))(h2:CrAt H ms xs)(h3:Szs (szs ms))(h4:0<=m)(h5:m<=24)(h6:∀ H' r ys,Same H H'->H r=none->H' r=some (.lst ys)->AllF K H' (due (szs ms) m) ys->Q (.ref r) H'):spWBy K vs H Q _E
def cF(fs:List (Int×Int))(t b:Int):Int:=(((pD fs).countP λz=>PyData.eqv z (.tuple [.int t,.int b]):Nat):Int)
def DA(l:Int×Int)(H:Hp)(Q:VK):Prop:=∀ H' p,Same H H'->H' p=some (.tup [.int l.1,.int l.2])->Q (.ref p) H'
inductive spBo(a:Ad)(N:Nat)(c:Pl->Bool)(vs:List V)(H:Hp)(Q:VK)(_E:XK):Prop
 | mk(n:Nat)(v:V)(pl:Pl)(l:Addr)(xs:List V)(ms:List Mb)(h0:vs=[v,.ref l])(h1:n<=N)(h2:c pl=true)(h3:ht n pl)(h4:IsPn a H v pl)(h5:H l=some (.lst xs))(h6:CrAt H ms xs)(h7:Ck n ms)(h8:DA (lim pl ms) H Q):spBo a N c vs H Q _E
theorem sG{n:Nat}{b:List Mb}(h:Ck n b):Szs (szs b):=⟨by unfold szs;rw[length_map];exact h.len,λx a=>(h.hi x a).1,λx a=>(h.hi x a).2⟩
section
variable {P:Program}{w:World}{K:Frag}{mg:Str->Option Value}{base:Heap}{a:Ad}
theorem AS{H:Hp}:∀{fs:List (Int×Int)}{xs:List V},AllF K H fs xs->DVs K H (pD fs) xs
 | _,_,.nil=>by simp[DVs,pD]
 | _,_,.cons ⟨p,e,r⟩ t=>by
  unfold pD;rw[map_cons,DVs];exact⟨_,_,rfl,by rw[e];exact uF r.sq,AS t⟩
theorem AT:∀(fs:List (Int×Int)),PyData.canLayAll0 (pD fs)=true/\PyData.depthAll (pD fs)<=3
 | []=>by simp[PyData.canLayAll0,PyData.depthAll,pD]
 | t::l=>by
  obtain⟨a,b⟩:=AT l;unfold pD at *;rw[map_cons,PyData.canLayAll0,PyData.depthAll,a];refine⟨by simp[PyData.canLay0,PyData.canLayAll0],?_⟩;simp only[PyData.depth,PyData.depthAll];lia
theorem pI(a b c d:Int):PyData.eqv (.tuple [.int a,.int b]) (.tuple [.int c,.int d])=decide ((a,b)=(c,d)):=by
 simp[PyData.eqv,PyData.eqvAll];rfl
theorem r9(T:Txt K mg a):FnX P w base 5 T.W_U (spWBy K):=by
 have f:FnO P w K mg base 4 (spWished K):=vA T;refine T.W_U.A.okz oE λab A v s H vs Q E y h=>?_
 .obtain⟨l,xs,g,m,rfl,M,J,G,O,Y,q⟩:=h
  have j:sizeLine=16777216:=sizeLine_eq;have u:=J.len;have F:g.length<=24:=by have:=G.len;unfold szs at this;rw[length_map]at this;exact this
  refine⟨_,(ai (aq (pec f y T.W_aC (aa (aL rfl (N:=["member"]) (ix:=[none]) ⟨rfl,rfl,rfl,rfl,trivial⟩ (aN (vr 0)) ⟨λC s H B=>am (i:=0) (show List.Nodup (["member"]:List Str) by decide +kernel) rfl (Or.inl rfl),λC s H B=>aG,λC s H B=>(ak (bG (K:=K) rfl) (vr 0) af (λ_ _=>rfl))⟩) (aa (vr 1) ac))))),?_⟩;refine .inl ⟨⟨_,SqL.of M⟩,λD I=>?_⟩
  let Pw1:PvL:=λi c d=>i<=xs.length/\Same H d/\d D=some (.lst c)/\c=(szs (g.take i)).map V.int
  refine aD (K:=K) (a:=l) (xs:=xs) Pw1 ⟨Nat.zero_le _,Same.new I,ae,rfl⟩ (λi c d h=>SqL.of (h.2.1 _ _ M)) (λi c d h=>h.2.2.1) ?_ ?_
  .rintro i x c d P' L ⟨hi,e,b,rfl⟩ X
   obtain⟨mm,hm,Z,pt,rfl,W,g2⟩:=(J.tk e.tk).get L;have p:i<xs.length:=(List.getElem?_eq_some_iff.mp L).1;refine⟨trivial,.inr (.inl ⟨Z,_,_,_,rfl,rfl,SqT.of W,aP 1 rfl rfl,b,?_,X _ _ ⟨p,e.put I,ae,?_⟩⟩)⟩
   .unfold szs;rw[length_map,length_map,length_take];lia
   .unfold szs;rw[take_add_one,hm,map_append,map_append];rfl
  .rintro c d ⟨_,e,b,rfl⟩
   rw[<- u,take_of_length_le (Nat.le_refl _)]at b;exact⟨D,szs g,m,rfl,b,G,O,Y,λR r c S o y hA=>q R r c (e.trans S) (e.free o) y hA⟩
theorem yz{H:Hp}{l k:Addr}{xs:List V}{fs:List (Int×Int)}{t b:Int}{Q:VK}(c:H l=some (.lst xs))(a:AllF K H fs xs)(d:SqT K H k [.int t,.int b])(q:Q (.int (cF fs t b)) H):rCount K (.ref l) [.ref k] H Q :=
 ⟨l,xs,pD fs,.ref k,.tuple [.int t,.int b],rfl,rfl,c,AS a,uF d,(AT fs).1,by simp[PyData.canLay0,PyData.canLayAll0],by simp[PyData.depth,PyData.depthAll],q⟩
theorem qH(fs:List (Int×Int))(t b:Int):cF fs t b=((fs.countP λf=>decide (f=(t,b)):Nat):Int):=by
 unfold cF pD;rw[countP_map]
 congr 1
 refine List.countP_congr λf _=>?_
 show PyData.eqv (.tuple [.int f.1,.int f.2]) (.tuple [.int t,.int b])=true↔_;rw[pI]
theorem lV(T:Txt K mg a)(N:Nat):MnX P w mg base 1 T.W_x (spBo a N ot):=by
 refine T.W_x.A.okz hW λy A c s H I Q E F h=>?_
 .obtain⟨n,v,r,l,d,f,rfl,J,u,D,b,o,j,G,q⟩:=h
  cases r with
  | few m =>
   obtain⟨x,i,rfl,g⟩:=b;have C:=j.len;refine⟨_,(ag (psl 2 hW (ao (jQ rfl) rfl T.z_min si (aa (aC (vr 0) rfl) (aa (ao ax rfl T.z_len aF (aa (vr 1) ac)) ac)))) (ai (aq (aJ (aa (vr 2) (aa (vr 2) ac)))))),bU ?_⟩;intro B;refine⟨x,_,i,_,_,rfl,g,T.cl_Y,T.na_Few_many,rfl,⟨_,.inl (SqL.of o),?_⟩⟩;refine⟨_,_,rfl,?_⟩
   have e:(if ((d.length:Int)<(m:Int)) then (d.length:Int) else (m:Int))=((min m f.length:Nat):Int):=by split <;> lia
   rw[e];exact⟨(show 2<=sizeLine by decide),λp b=>q _ p (Same.new b) ae⟩
  | _=>cases u
theorem jE(T:Txt K mg a)(N:Nat):MnX P w mg base 1 T.W_t (spBo a N jg):=by
 refine T.W_t.A.okz fZ λy A c s H I Q E F h=>?_
 .obtain⟨n,v,r,l,d,f,rfl,J,u,D,b,o,j,G,q⟩:=h
  cases r with
  | duel m =>
   obtain⟨x,i,rfl,g⟩:=b;have C:=j.len;refine⟨_,(ag (psl 2 fZ (ao (jQ rfl) rfl T.z_min si (aa (aC (vr 0) rfl) (aa (ao ax rfl T.z_len aF (aa (vr 1) ac)) ac)))) (ai (aq (aJ (aa (vr 2) (aa (vr 2) ac)))))),bU ?_⟩;intro B;refine⟨x,_,i,_,_,rfl,g,T.cl_K,T.na_Duel_many,rfl,⟨_,.inl (SqL.of o),?_⟩⟩;refine⟨_,_,rfl,?_⟩
   have e:(if ((d.length:Int)<(m:Int)) then (d.length:Int) else (m:Int))=((min m f.length:Nat):Int):=by split <;> lia
   rw[e];exact⟨(show 2<=sizeLine by decide),λp b=>q _ p (Same.new b) ae⟩
  | _=>cases u
theorem iE(T:Txt K mg a)(N:Nat):MnX P w mg base 1 T.W_p (spBo a N eK):=by
 refine T.W_p.A.okz km λy A c s H J Q E I h=>?_
 .obtain⟨n,v,j,l,G,C,rfl,F,B,e,r,g,u,D,q⟩:=h
  cases j with
  | start m =>
   obtain⟨x,b,rfl,d⟩:=r;have o:=u.len;refine⟨_,(ai (aq (aJ (aa (av cE (ao ax rfl T.z_len aF (aa (vr 1) ac)) (aC (vr 0) rfl)) (aa (av cE (av bE (av c8 (ao ax rfl T.z_len aF (aa (vr 1) ac)) (aC (vr 0) rfl)) af) (aC (vr 0) rfl)) ac))))),?_⟩
   have e:1<=m/\m<=100:=by cases n <;> exact e
   have f:Bt 3000 (m:Int):=(show Bt 10 (m:Int) by unfold Bt;lia).mono (by decide);refine⟨_,.inl (SqL.of g),⟨x,_,b,_,_,rfl,d,T.cl_A,T.na_Start_step,rfl,cdB (by lia) f,?_⟩⟩;refine⟨_,.inl (SqL.of g),⟨x,_,b,_,_,rfl,d,T.cl_A,T.na_Start_step,rfl,⟨x,_,b,_,_,rfl,d,T.cl_A,T.na_Start_step,rfl,cdB (by lia) f,?_⟩⟩⟩;rw[<- o];exact⟨bF _ _,λp i=>q _ p (Same.new i) ae⟩
  | _=>cases B
theorem iK(T:Txt K mg a)(N:Nat):MnX P w mg base 6 T.W_q (spBo a N eM):=by
 have c:FnO P w K mg base 5 (spWBy K):=r9 T;refine T.W_q.A.okz fG λJ A e s H Z Q E f h=>?_
 .obtain⟨n,v,D,l,I,g,rfl,W,O,i,G,M,j,u,q⟩:=h
  cases D with
  | loose m =>
   obtain⟨x,C,rfl,L⟩:=G;have X:=j.len;refine⟨_,(ag (psl 2 fG (pec c f T.W_U (aa (vr 1) (aa (aC (vr 0) rfl) ac)))) (ai (aq (aJ (aa (pe_m.count f.units (vr 2) (aa (be rfl T.g_WHOLE) ac)) (aa (av bE (ao ax rfl T.z_len aF (aa (vr 2) ac)) (pe_m.count f.units (vr 2) (aa (be rfl T.g_NOUGHT) ac))) ac)))))),bU ?_⟩;intro F
   have i:m<=24:=by cases n <;> exact i
   refine⟨x,_,C,_,_,rfl,L,T.cl_B,T.na_Loose_many,rfl,?_⟩;refine⟨l,I,g,(m:Nat),rfl,M,j,sG u,by lia,by lia,λS Y o r y b d=>?_⟩;have R:o.length=g.length:=by rw[<- d.len,due_len];unfold szs;rw[length_map]
   refine⟨.inl ⟨rfl,_,SqL.of b⟩,yz b d (tK T.t_WHOLE) ?_⟩;refine⟨_,.inl (SqL.of b),⟨.inl ⟨rfl,_,SqL.of b⟩,yz b d (tK T.t_NOUGHT) ?_⟩⟩;rw[R,qH,qH];exact⟨bF _ _,λp B=>q _ p (r.trans (Same.new B)) ae⟩
  | _=>cases O
end
end My
namespace L2
open PySem PySem.Spec PyProof.Rows
section
variable {X:Cx}{x:Str}{sc:Scope}{N:List Str}{ix:List (Option Nat)}{pins:List (Addr×Obj)}{σ:St}{H:Hp}{s:Shared}
end
section
variable {X:Cx}{x:Str}{sc:Scope}{N:List Str}{ix:List (Option Nat)}{elt tg iter:Expr}{ifs:List Expr}{pos:Pos}{wi:TI}{g:TG}{tt:TT}{te:TE}
end
theorem Ah{X:Cx}{K:Frag}{tg l:Expr}{tl:TE}(e:X.K=K)(a:PE X l tl):PI X tg l (D9 K tl):=by subst e;exact aN a
section
variable {X:Cx}{K:Frag}
theorem rT(a:X.K=K)(b:X.calm=true):CallR X (.builtin "sum") (rSumI K):=by
 subst a;exact cx b
end
end L2
namespace My
open PySem L2 FrM Nst
open Nm (Fc El Ei uN fAt yX)
theorem fU{b a:Type}{r:b->a->Prop}{as:List b}{x:b}{i:Nat}{c:List a}{y:a}(h:Paired r (as.take i) c)(e:as[i]? = some x)(q:r x y):Paired r (as.take (i+1)) (c++[y]):=by
 rw[take_add_one,e];exact bC q h
theorem MbAt.tk{H b:Hp}{m:Mb}{x:V}(k:TK H b)(h:MbAt H m x):MbAt b m x:=let ⟨a,p,h1,h2,h3⟩:=h;⟨a,p,h1,k a _ h2,k p _ h3⟩
theorem CrAt.snoc{H:Hp}{m:Mb}{x:V}(r:MbAt H m x):∀{ms:List Mb}{xs:List V},CrAt H ms xs->CrAt H (ms++[m]) (xs++[x])
 | _,_,.nil=>.cons r .nil
 | _,_,.cons q t=>.cons q (CrAt.snoc r t)
def Fe(H:Hp)(g:Str×List Mb)(kv:Key×V):Prop:=kv.1=.inr g.1/\∃ l ys,kv.2=.ref l/\H l=some (.lst ys)/\CrAt H g.2 ys
abbrev GR(H:Hp):List (Str×List Mb)->List (Key×V)->Prop:=PySem.Paired (Fe H)
theorem GR.move{H a:Hp}(k:TK H a):∀{gs:List (Str×List Mb)}{kvs:List (Key×V)},(∀ l ys,V.ref l∈kvs.map (·.2)->H l=some (.lst ys)->a l=some (.lst ys))->GR H gs kvs->GR a gs kvs
 | _,_,_,.nil=>.nil
 | _,_,h,.cons ⟨r1,l,ys,r2,r3,r4⟩ t=>.cons ⟨r1,l,ys,r2,h l ys (by rw[<- r2];exact mem_cons_self) r3,r4.tk k⟩ (GR.move k (λl ys b=>h l ys (mem_cons_of_mem _ b)) t)
theorem GR.miss{H:Hp}{n:Str}{m:Mb}{l:Addr}{x:V}(c:H l=some (.lst [x]))(b:MbAt H m x):∀{gs:List (Str×List Mb)}{kvs:List (Key×V)},GR H gs kvs->bI kvs (.inr n)=none->GR H (bN gs n m) (kvs++[(.inr n,.ref l)])
 | _,_,.nil,_=>.cons ⟨rfl,l,_,rfl,c,.cons b .nil⟩ .nil
 | (k,ms)::gs,(kk,y)::kvs,.cons ⟨r1,r2⟩ t,h=>by
  have d:¬kk=.inr n:=λz=>by
   rw[bx z]at h;cases h
  rw[bB d]at h;have a:k≠n:=λz=>d (by rw[<- z];exact r1)
  unfold bN;rw[if_neg a];exact .cons ⟨r1,r2⟩ (GR.miss c b t h)
theorem GR.hit{H:Hp}{n:Str}{y:V}:∀{gs:List (Str×List Mb)}{kvs:List (Key×V)},GR H gs kvs->(kvs.map (·.2)).Nodup->bI kvs (.inr n)=some y ->
  ∃ l ys,y=.ref l/\V.ref l∈kvs.map (·.2)/\H l=some (.lst ys)/\∀(H':Hp) (m:Mb) (x:V),TK H H'->(∀ b zs,b≠l->V.ref b∈kvs.map (·.2)->H b=some (.lst zs)->H' b=some (.lst zs))->H' l=some (.lst (ys++[x]))->MbAt H' m x->GR H' (bN gs n m) kvs
 | _,_,.nil,_,h=>by cases h
 | (k,ms)::gs,(kk,y0)::kvs,.cons ⟨r1,l0,ys0,r2,r3,r4⟩ t,nd,h=>by
  rw[map_cons,nodup_cons]at nd;have a:y0=V.ref l0:=r2
  by_cases hk:kk=.inr n
  .rw[bx hk]at h
   have e:y0=y:=Option.some.inj h
   have j:k=n:=by
    have:(Sum.inr k:Key)=.inr n:=by rw[<- hk];exact r1.symm
    exact Sum.inr.inj this
   refine⟨l0,ys0,by rw[<- e];exact a,by rw[<- a];exact mem_cons_self,r3,λH' m x c d i g=>?_⟩;unfold bN;rw[if_pos j];refine .cons ⟨r1,l0,_,r2,i,CrAt.snoc g (r4.tk c)⟩ (GR.move c (λb zs f s=>d b zs (λz=>?_) (mem_cons_of_mem _ f) s) t);rw[z,<- a]at f;exact nd.1 f
  .rw[bB hk]at h
   obtain⟨l,ys,A,r,v,B⟩:=GR.hit t nd.2 h;have o:k≠n:=λz=>hk (by rw[<- z];exact r1)
   refine⟨l,ys,A,mem_cons_of_mem _ r,v,λH' m x c d i g=>?_⟩;have p:l0≠l:=λz=>nd.1 (by rw[a,z];exact r)
   unfold bN;rw[if_neg o];exact .cons ⟨r1,l0,ys0,r2,d l0 ys0 p (by rw[<- a];exact mem_cons_self) r3,r4.tk c⟩ (B H' m x c (λb zs w u=>d b zs w (mem_cons_of_mem _ u)) i g)
theorem GR.has{H:Hp}{b:Addr}:∀{gs:List (Str×List Mb)}{kvs:List (Key×V)},GR H gs kvs->V.ref b∈kvs.map (·.2)->∃ ys,H b=some (.lst ys)
 | _,_,.nil,h=>by cases h
 | _,_,.cons ⟨_,l,ys,r2,r3,_⟩ t,h=>by
  rw[map_cons,mem_cons]at h
  rcases h with h | h
  .rw[r2]at h
   cases h;exact⟨ys,r3⟩
  .exact GR.has t h
structure GT(H0 H:Hp)(r:Addr)(gs:List (Str×List Mb))(as:List Addr)(kvs:List (Key×V)):Prop where
 top:H r=some (.lst (as.map V.ref))
 new:H0 r=none
 len:as.length=kvs.length
 row:∀(j:Nat) (b:Addr) (k:Key) (y:V),as[j]? = some b->kvs[j]? = some (k,y)->H b=some (.tup [kV k,y])
 gr:GR H gs kvs
 nd:(kvs.map (·.2)).Nodup
 fresh:∀ l,V.ref l∈kvs.map (·.2)->H0 l=none/\l≠r
inductive spGroups(vs:List V)(H:Hp)(Q:VK)(_E:XK):Prop
 | mk(l:Addr)(ms:List Mb)(xs:List V)(h0:vs=[.ref l])(h1:H l=some (.lst xs))(h2:CrAt H ms xs)(h3:xs.length<=24)(h4:(∀ m∈ms,m.2.2≠[]/\m.2.2.length<=3))(h5:∀ H' r as kvs,Same H H'->GT H H' r (groups ms) as kvs->Q (.ref r) H'):spGroups vs H Q _E
inductive spParted(vs:List V)(H:Hp)(Q:VK)(_E:XK):Prop
 | mk(l:Addr)(ms:List Mb)(xs:List V)(h0:vs=[.ref l])(h1:H l=some (.lst xs))(h2:CrAt H ms xs)(h3:xs.length<=24)(h4:(∀ m∈ms,m.2.2≠[]/\m.2.2.length<=3))(h5:∀ H' r ys,Same H H'->H' r=some (.lst ys)->Paired (CrL H') (parts ms) ys->Q (.ref r) H'):spParted vs H Q _E
inductive spOuter(vs:List V)(H:Hp)(Q:VK)(_E:XK):Prop
 | mk(v:V)(gs:List (List Mb))(h0:vs=[v])(h1:GsL H v gs)(h2:gs.length<=24)(h3:(∀ c∈gs,c.length<=24))(h4:∀ H' r ys,Same H H'->H r=none->H' r=some (.lst ys)->CrAt H' (outer gs) ys->Q (.ref r) H'):spOuter vs H Q _E
theorem pW{n:Str}{m:Mb}:∀(gs:List (Str×List Mb)),(bN gs n m).length<=gs.length+1
 | []=>Nat.le_refl _
 | (k,l)::r=>by
  unfold bN
  by_cases c:k=n
  .rw[if_pos c];exact Nat.le_succ _
  .rw[if_neg c,length_cons,length_cons]
   exact Nat.succ_le_succ (pW r)
theorem vH(a:List Mb):(parts a).length<=a.length:=by
 have c:∀(a:List Mb) (b:List (Str×List Mb)),(a.foldl (λb m=>bN b (hd m) (tl m)) b).length<=b.length+a.length:=by
  intro a
  induction a with
  | nil=>intro b;exact Nat.le_refl _
  | cons m r ih =>
   intro b;rw[foldl_cons,length_cons];have:=ih (bN b (hd m) (tl m));have:=pW (n:=hd m) (m:=tl m) b;lia
 unfold parts groups;rw[length_map];have:=c a [];rw[length_nil]at this;lia
def Spot(H:Hp)(gs:List (List Mb))(pl:Int)(v:V):Prop:=∃ p,∃ g s:Nat,v=.ref p/\H p=some (.tup [.int (g:Nat),.int (s:Nat)])/\Nm.At gs g s pl
theorem Spot.tk{H a:Hp}{gs:List (List Mb)}{pl:Int}{v:V}(k:TK H a)(h:Spot H gs pl v):Spot a gs pl v:=by
 obtain⟨p,g,s,c,d,b⟩:=h;exact⟨p,g,s,c,k _ _ d,b⟩
abbrev yR(H:Hp)(gs:List (List Mb)):List Mb->List V->Prop:=Paired λm z=>Spot H gs m.1 z
inductive spSpots(vs:List V)(H:Hp)(Q:VK)(_E:XK):Prop
 | mk(l r:Addr)(ms:List Mb)(gs:List (List Mb))(xs ys:List V)(h0:vs=[.ref l,.ref r])(h1:H l=some (.lst xs))(h2:CrAt H ms xs)(h3:H r=some (.lst ys))(h4:Paired (CrL H) gs ys)(h5:ms.length<=24)(h6:gs.length<=24)(h7:(∀ g∈gs,g.length<=24))(h8:(∀ m∈ms,∃ g∈gs,∃ m'∈g,m'.1=m.1))(h9:∀ H' t zs,Same H H'->H' t=some (.lst zs)->yR H' gs ms zs->Q (.ref t) H'):spSpots vs H Q _E
theorem jB{a b:Type}{r:a->b->Prop}:∀{as:List a}{bs:List b}{i:Nat}{x:a},Paired r as bs->as[i]? = some x->∃ y,bs[i]? = some y/\r x y
 | _,_,_,_,.nil,h=>by cases h
 | _,_,0,_,.cons x _,h=>⟨_,rfl,by cases h;exact x⟩
 | _,_,i+1,_,.cons _ t,h=>jB (i:=i) t h
theorem yj(a:List (Key×V))(k:Key)(v:V):(cv a k v).length<=a.length+1:=by
 unfold cv
 split
 .rw[length_map];lia
 .rw[length_append];exact Nat.le_refl _
section
variable {P:Program}{w:World}{K:Frag}{mg:Str->Option Value}{base:Heap}{a:Ad}
theorem vO(T:Txt K mg a):FnX P w base 1 T.W_S spGroups:=by
 refine T.W_S.A.okz sc_S λb8 A b1 s H vs Q E hr h=>?_
 .obtain⟨l,ms,xs,rfl,hl,hm,hz,hn,q⟩:=h
  refine⟨_,(ag (psl 1 sc_S rm) (ag (cc PassesOwn.never rfl (aN (vr 0)) (dS rfl (aw (am (i:=2) sc_S.nd rfl (Or.inl rfl)) (aw (am (i:=3) sc_S.nd rfl (Or.inl rfl)) (aw (am (i:=4) sc_S.nd rfl (Or.inl rfl)) aZ)))) (ag (a8 (cf (qL (vr 4) (λ_=>rfl))) (ai d7) aE) (ai (bO (pe_m.append (pe_m.setdefault (vr 1) (aa (ak aj (vr 4) af (λ_ _=>rfl)) (aa (bL ac) ac))) (aa (aJ (aa (vr 2) (aa (vr 3) (aa (d9 jF (vr 4) (eZ af) jh) ac)))) ac)))))) (ai (aq (bS (rX rfl) rfl T.z_list i6 (aa (pe_m.items (vr 1)) ac)))))),eh ?_⟩;intro b9 b5;intro g hg;have s0:Same H (upd H g (.dK [])):=Same.new hg;have b2:sizeLine=16777216:=sizeLine_eq
  .refine .inl ⟨⟨xs,SqL.of (s0 _ _ hl)⟩,df (K:=K) (a:=l) (xs:=xs) (λi σ D=>∃(c:List (Key×V)) (x2 x3 x4:Option V),σ=[some (.ref l),some (.ref g),x2,x3,x4]/\Same H D/\D g=some (.dK c)/\GR D (groups (ms.take i)) c /\
    (c.map (·.2)).Nodup/\(∀ b,V.ref b∈c.map (·.2)->H b=none/\b≠g)/\c.length<=i/\∀ b M,V.ref b∈c.map (·.2)->D b=some (.lst M)->M.length<=i)
    ⟨[],none,none,none,rfl,s0,ae,.nil,nodup_nil,(λb hb=>by cases hb),Nat.le_refl _,λb M hb=>by cases hb⟩ (λi σ D _ h=>by obtain⟨_,_,_,_,_,s1,_⟩:=h;exact SqL.of (s1 _ _ hl)) ?_ ?_⟩
   .rintro i x σ D hx ⟨c,x2,x3,x4,rfl,N,p,X,nd,fr,kl,yl⟩
    obtain⟨m,a4,ad,pp,rfl,ha,hp⟩:=hm.get hx;have b6:i<xs.length:=(List.getElem?_eq_some_iff.mp hx).1;obtain⟨b3,b'⟩:=hn m (List.mem_of_getElem? a4)
    have et:groups (ms.take (i+1))=bN (groups (ms.take i)) (hd m) (tl m):=by
     rw[take_add_one,a4];exact aT _ _
    obtain⟨mp,mz,al⟩:=m;cases al with
    | nil=>exact absurd rfl b3
    | cons n0 ps =>
     refine⟨ad,_,rfl,SqT.of (N _ _ ha),rfl,_,_,rfl,_,_,rfl,_,_,rfl,rfl,?_⟩;refine⟨_,.inr (.inl ⟨_,SqT.of (N _ _ hp),rfl⟩),?_⟩;refine⟨.inr (.inr (.inl ⟨rfl,.inl ⟨_,p⟩⟩)),?_⟩;refine .inr (.inl ⟨pp,_,_,.str n0,rfl,rfl,SqT.of (N _ _ hp),aP 0 rfl rfl,?_⟩);refine⟨Nat.zero_le _,λf u=>?_⟩;have O:Same D (upd D f (.lst [])):=Same.new u;have a':ce ((n0::ps).map V.str) (some ((1:Nat):Int)) none=ps.map V.str:=by rw[v9];rfl
     have nw:¬(HT.sIx ((n0::ps).map V.str).length 0 (some 1)=0/\HT.sIx ((n0::ps).map V.str).length ((n0::ps).map V.str).length none=((n0::ps).map V.str).length):=λz=>by
      have z1:=z.1;rw[show(some (1:Int))=some ((1:Nat):Int) from rfl,HT.sIx_nat,length_map,length_cons]at z1;lia
     have aS:H f=none:=N.free u;have an:f≠g:=(ay p u).symm;refine⟨g,c,.inr n0,.ref f,rfl,rfl,O _ _ p,by lia,λy hy=>?_,λhno=>?_⟩
     .obtain⟨ly,M,rfl,ab,J,bd⟩:=GR.hit X nd hy
      refine⟨.inl ⟨rfl,_,SqL.of (O _ _ J)⟩,?_⟩;refine⟨_,rfl,?_⟩;refine .inr ⟨_,SqT.of (O _ _ (N _ _ hp)),nw,λG I=>?_⟩;have s1:=O.trans (Same.new (o:=.tup (ce ((n0::ps).map V.str) (some 1) none)) I);refine⟨(by decide:3<=sizeLine),λB d=>?_⟩;have F:=s1.trans (Same.new (o:=.tup [.int mp,.int mz,.ref G]) d);have yb:=yl ly M ab J;refine⟨ly,M,.ref B,rfl,rfl,F _ _ J,by lia,?_⟩;obtain⟨bq,bD⟩:=fr ly ab;have l3:=F _ _ J;have na:B≠ly:=λz=>by rw[z,s1 _ _ J]at d;cases d
      have np:G≠ly:=λz=>by rw[z,O _ _ J]at I;cases I
      have R:G≠B:=λz=>by rw[<- z,ae]at d;cases d
      refine⟨c,_,_,_,rfl,(N.trans F).put bq,by rw[ar bD.symm];exact F _ _ p,?_,nd,fr,by lia,λb zs hb C=>?_⟩
      .rw[et]
       refine bd _ _ (.ref B) (F.tk.trans (TK.lst l3)) (λb zs hb _ e=>by rw[ar hb];exact F _ _ e) ae ⟨B,G,rfl,?_,?_⟩
       .rw[ar na,ae];rfl
       .rw[ar np,ar R,ae,show(some (1:Int))=some ((1:Nat):Int) from rfl,a'];rfl
      .by_cases hbl:b=ly
       .rw[hbl,ae]at C
        cases C;rw[length_append];exact Nat.succ_le_succ yb
       .rw[ar hbl]at C
        obtain⟨a0,W⟩:=GR.has X hb;have:=F _ _ W;rw[C]at this;cases this;exact Nat.le_succ_of_le (yl b _ hb W)
     .have L:(upd (upd D f (.lst [])) g (.dK (c++[(.inr n0,.ref f)]))) f=some (.lst []):=by rw[ar an,ae]
      generalize hH2:upd (upd D f (.lst [])) g (.dK (c++[(.inr n0,.ref f)]))=Z at L ⊢;have Y:∀ b o,b≠g->b≠f->D b=some o->Z b=some o:=λb o h1 h2 e=>by rw[<- hH2,ar h1,ar h2];exact e
      have bn:Z pp=some (.tup ((n0::ps).map V.str)):=by
       have e1:=N _ _ hp;exact Y _ _ (vd e1 p (λz=>nomatch z)) (ay e1 u) e1
      have bo:Z g=some (.dK (c++[(.inr n0,.ref f)])):=by rw[<- hH2];exact ae
      refine⟨.inl ⟨rfl,_,SqL.of L⟩,?_⟩;refine⟨_,rfl,?_⟩;refine .inr ⟨_,SqT.of bn,nw,λG I=>?_⟩;have s1:=Same.new (o:=.tup (ce ((n0::ps).map V.str) (some 1) none)) I;refine⟨(by decide:3<=sizeLine),λB d=>?_⟩;have F:=s1.trans (Same.new (o:=.tup [.int mp,.int mz,.ref G]) d);refine⟨f,[],.ref B,rfl,rfl,F _ _ L,by rw[length_nil];lia,?_⟩;have l3:=F _ _ L;have na:B≠f:=λz=>by rw[z,s1 _ _ L]at d;cases d
      have np:G≠f:=λz=>by rw[z,L]at I;cases I
      have R:G≠B:=λz=>by rw[<- z,ae]at d;cases d
      have S:V.ref f ∉ c.map (·.2):=λz=>by
       obtain⟨M,e⟩:=GR.has X z;rw[u]at e;cases e
      have bl:Same H Z:=λb o e=>by
       have e1:=N _ _ e;exact Y b o (ay e hg) (ay e1 u) e1
      have mv:∀ b M,V.ref b∈c.map (·.2)->D b=some (.lst M)->(upd (upd (upd Z G (.tup (ce ((n0::ps).map V.str) (some 1) none))) B (.tup [.int mp,.int mz,.ref G])) f (.lst ([]++[.ref B]))) b=some (.lst M):=λb M hb e=>by
       have a3:b≠f:=λz=>S (z ▸ hb)
       rw[ar a3];exact F _ _ (Y b _ (fr b hb).2 a3 e)
      have bm:TK D (upd (upd (upd Z G (.tup (ce ((n0::ps).map V.str) (some 1) none))) B (.tup [.int mp,.int mz,.ref G])) f (.lst ([]++[.ref B]))):=λb zs e=>by
       rw[ar (ay e u)];exact F _ _ (Y b _ (vd e p (λz=>nomatch z)) (ay e u) e)
      have b0:MbAt (upd (upd (upd Z G (.tup (ce ((n0::ps).map V.str) (some 1) none))) B (.tup [.int mp,.int mz,.ref G])) f (.lst ([]++[.ref B]))) (tl ⟨mp,mz,n0::ps⟩) (.ref B):=by
       refine⟨B,G,rfl,?_,?_⟩
       .rw[ar na,ae];rfl
       .rw[ar np,ar R,ae,show(some (1:Int))=some ((1:Nat):Int) from rfl,a'];rfl
      refine⟨c++[(.inr n0,.ref f)],_,_,_,rfl,(bl.trans F).put aS,by rw[ar an.symm];exact F _ _ bo,?_,?_,λb hb=>?_,by rw[length_append];exact Nat.succ_le_succ kl,λb zs hb C=>?_⟩
      .rw[et]
       exact GR.miss ae b0 (GR.move bm mv X) hno
      .rw[map_append,nodup_append]
       refine⟨nd,by simp,λx bp y b4=>?_⟩;have:y=V.ref f:=by simpa using b4
       rw[this];intro z;exact S (z ▸ bp)
      .rw[map_append,mem_append]at hb
       rcases hb with hb | hb
       .exact fr b hb
       .have:b=f:=by simpa using hb
        rw[this];exact⟨aS,an⟩
      .rw[map_append,mem_append]at hb
       rcases hb with hb | hb
       .obtain⟨a0,W⟩:=GR.has X hb
        have:=mv b a0 hb W;rw[C]at this;cases this;exact Nat.le_succ_of_le (yl b _ hb W)
       .have:b=f:=by simpa using hb
        rw[this,ae]at C;cases C;exact Nat.succ_le_succ (Nat.zero_le _)
   .rintro σ D ⟨c,x2,x3,x4,rfl,N,p,X,nd,fr,kl,yl⟩
    refine⟨.inr (.inr (.inl ⟨rfl,.inl ⟨_,p⟩⟩)),?_⟩;refine⟨g,c,rfl,rfl,p,λv hv=>?_⟩;have sv:Same D (upd D v (.ext (IV v g))):=Same.new hv;refine⟨v,g,c,rfl,ae,sv _ _ p,λr as Z F hr br ap a2=>?_⟩;have sT:=sv.trans F;refine q Z r as c (N.trans sT) ⟨br,N.free (sv.free hr),ap,λj b k y h1 h2=>(a2 j b k y h1 h2).2,?_,nd,λb hb=>⟨(fr b hb).1,λz=>?_⟩⟩
    .have el:ms.take xs.length=ms:=take_of_length_le (by rw[PySem.Paired.length hm];exact Nat.le_refl _)
     rw[el]at X;exact GR.move sT.tk (λb M _ e=>sT _ _ e) X
    .obtain⟨M,e⟩:=GR.has X hb
     rw[z]at e;have:=sv _ _ e;rw[hr]at this;cases this
theorem gR(T:Txt K mg a):FnX P w base 2 T.W_ag spParted:=by
 have M:FnO P w K mg base 1 spGroups:=vO T;refine T.W_ag.A.okz v4 λab A Y s H vs Q E hr h=>?_
 .obtain⟨l,F,xs,rfl,hl,hm,hz,hn,q⟩:=h
  have J:sizeLine=16777216:=sizeLine_eq;refine⟨_,(ai (aq (aL rfl (N:=["name","members"]) (ix:=[none,none]) ⟨rfl,rfl,rfl,rfl,trivial⟩ (aN (pec M hr T.W_S (aa (vr 0) ac))) ⟨λC s H Z=>(cb (K:=K) (n:=2) rfl rfl (aw (am (i:=0) (show List.Nodup (["name","members"]:List Str) by decide +kernel) rfl (Or.inl rfl)) (aw (am (i:=1) (show List.Nodup (["name","members"]:List Str) by decide +kernel) rfl (Or.inl rfl)) aZ))),λC s H Z=>aG,λC s H Z=>(vr 1)⟩))),?_⟩;refine⟨l,F,xs,rfl,hl,hm,hz,hn,λH1 r O c s1 gt=>?_⟩;obtain⟨p,ad,m,R,gr,nd,S⟩:=gt;refine .inl ⟨⟨_,SqL.of p⟩,λD hD=>?_⟩;have W:(parts F).length=c.length:=by unfold parts;rw[length_map];exact Paired.length gr
  have hk:c.length<=24:=by
   rw[<- W];have:=vH F;have:=Paired.length hm;lia
  let Pw1:PvL:=λi x f=>Same H1 f/\f D=some (.lst x)/\i<=c.length/\x=(c.take i).map (·.2)
  refine aD (K:=K) (a:=r) (xs:=O.map V.ref) Pw1 ⟨Same.new hD,ae,Nat.zero_le _,rfl⟩ (λi G f h=>SqL.of (h.1 _ _ p)) (λi G f h=>h.2.1) ?_ ?_
  .rintro i y x f P' u ⟨g,d,hi,rfl⟩ B
   rw[List.getElem?_map]at u
   obtain⟨b,hb,rfl⟩:∃ b,O[i]? = some b/\V.ref b=y:=by
    cases e:O[i]? with
    | none=>rw[e]at u;cases u
    | some b=>rw[e]at u;cases u;exact⟨b,rfl,rfl⟩
   have o:i<c.length:=by rw[<- m];exact(List.getElem?_eq_some_iff.mp hb).1
   have L:c[i]? = some c[i]:=List.getElem?_eq_getElem o;generalize c[i]=kv at L;obtain⟨k,v⟩:=kv;have j:=R i b k v hb L;refine⟨b,_,rfl,SqT.of (g _ _ j),rfl,_,_,rfl,_,_,rfl,rfl,trivial,d,by rw[length_map,length_take];lia,B _ _ ⟨g.put hD,ae,o,?_⟩⟩;rw[take_add_one,L];simp
  .rintro x f ⟨g,d,_,rfl⟩
   rw[length_map,m,take_length]at d;refine q _ D _ (s1.trans g) d ?_;unfold parts
   have X:∀{I:List (Str×List Mb)}{c:List (Key×V)},GR H1 I c->Paired (CrL f) (I.map (·.2)) (c.map (·.2)):=by
    intro I c h
    induction h with
    | nil=>exact .nil
    | cons r _ ih =>
     obtain⟨_,l,G,r2,r3,r4⟩:=r;exact .cons ⟨l,G,r2,g _ _ r3,r4.tk g.tk⟩ ih
   exact X gr
theorem qd(T:Txt K mg a):FnX P w base 1 T.W_b spOuter:=by
 refine T.W_b.A.okz iH λa2 A aS s H vs Q E hr h=>?_
 .obtain⟨v,Y,rfl,⟨l,xs,rfl,hl,hg⟩,a0,ab,q⟩:=h
  have ad:sizeLine=16777216:=sizeLine_eq;refine⟨_,(ai (aq (aL rfl (N:=["number","members"]) (ix:=[none,none]) ⟨rfl,rfl,rfl,rfl,trivial⟩ (fh rfl T.z_enumerate (aa (vr 0) ac)) ⟨λC s H L=>(cb (K:=K) (n:=2) rfl rfl (aw (am (i:=0) (show List.Nodup (["number","members"]:List Str) by decide +kernel) rfl (Or.inl rfl)) (aw (am (i:=1) (show List.Nodup (["number","members"]:List Str) by decide +kernel) rfl (Or.inl rfl)) aZ))),λC s H L=>aG,λC s H L=>(aJ (aa (vr 0) (aa (ao (rT (K:=K) rfl rfl) rfl T.z_sum dY (aa (aL rfl (N:=["member"]) (ix:=[none]) ⟨rfl,rfl,rfl,rfl,trivial⟩ (Ah (K:=K) rfl (vr 1)) ⟨λC s H L=>am (i:=0) (show List.Nodup (["member"]:List Str) by decide +kernel) rfl (Or.inl rfl),λC s H L=>aG,λC s H L=>(ak (bG (K:=K) rfl) (vr 0) af (λ_ _=>rfl))⟩) ac)) (aa (aJ ac) ac))))⟩))),?_⟩;have gl:Y.length=xs.length:=Paired.length hg;refine⟨l,xs,rfl,hl,λD hD=>?_⟩;refine gG (a:=l) (xs:=xs) (λi e b=>i<=xs.length/\Same H b/\b D=some (.lst e)/\CrAt b ((Nst.outer Y).take i) e) ⟨Nat.zero_le _,Same.new hD,ae,.nil⟩ (λi e b h=>h.2.1 _ _ hl) (λi e b h=>h.2.2.1) ?_ ?_
  .rintro i x e b p P' hx ⟨hi,X,u,O⟩ hp hP
   have as:i<xs.length:=(List.getElem?_eq_some_iff.mp hx).1;obtain⟨c,J,lg,M,rfl,I,S⟩:=aM hg hx;have yl:e.length=i:=by rw[<- O.length,length_take,aK];lia
   have cl:=ab c (List.mem_of_getElem? J);have al:c.length=M.length:=Paired.length S;have s2:Same b (upd b p (.tup [.int (i:Nat),.ref lg])):=Same.new hp;refine⟨p,_,rfl,SqT.of ae,rfl,_,_,rfl,_,_,rfl,rfl,trivial,?_⟩;generalize upd b p (.tup [.int (i:Nat),.ref lg])=H1 at s2;have g:=X.trans s2;refine .inl ⟨⟨_,SqL.of (g _ _ I)⟩,λD2 R=>?_⟩
   let Pw2:PvL:=λj G f=>Same H1 f/\f D2=some (.lst G)/\j<=M.length/\G=((szs c).take j).map V.int
   refine aD (K:=K) (a:=lg) (xs:=M) Pw2 ⟨Same.new R,ae,Nat.zero_le _,rfl⟩ (λj G f h=>SqL.of (h.1 _ _ (g _ _ I))) (λj G f h=>h.2.1) ?_ ?_
   .rintro j y G f P2 hy ⟨Z,d,hj,rfl⟩ an
    obtain⟨m,hm,B,pt,rfl,F,a1⟩:=aM S hy;have ap:j<M.length:=(List.getElem?_eq_some_iff.mp hy).1;refine⟨trivial,.inr (.inl ⟨B,_,_,_,rfl,rfl,SqT.of ((g.trans Z) _ _ F),aP 1 rfl rfl,d,?_,an _ _ ⟨Z.put R,ae,ap,?_⟩⟩)⟩
    .rw[length_map,length_take];lia
    .have:(szs c)[j]? = some m.2.1:=by unfold szs;rw[List.getElem?_map,hm];rfl
     rw[take_add_one,this,map_append];rfl
   .rintro G f ⟨Z,d,_,rfl⟩
    have es:(szs c).take M.length=szs c:=take_of_length_le (by unfold szs;rw[length_map,al];exact Nat.le_refl _);rw[es]at d;refine⟨D2,szs c,rfl,SqL.of d,?_⟩;refine⟨Nat.zero_le _,λt ht=>?_⟩;have s4:=Same.new (o:=.tup []) ht;have e4:(upd f t (.tup [])) t=some (.tup []):=ae;generalize upd f t (.tup [])=H3 at s4 e4;refine⟨(by decide:3<=sizeLine),λB F=>?_⟩;have s5:=Same.new (o:=.tup [.int (i:Nat),.int (szs c).sum,.ref t]) F;have e5:(upd H3 B (.tup [.int (i:Nat),.int (szs c).sum,.ref t])) B=some (.tup [.int (i:Nat),.int (szs c).sum,.ref t]):=ae;generalize upd H3 B (.tup [.int (i:Nat),.int (szs c).sum,.ref t])=H4 at s5 e5;have r:=s2.trans (Z.trans (s4.trans s5));have W:=r _ _ u;have tk:TK H4 (upd H4 D (.lst (e++[.ref B]))):=TK.lst W;refine⟨W,by lia,hP _ _ ⟨as,(X.trans r).put hD,ae,?_⟩⟩
    have eo:(Nst.outer Y)[i]? = some ((i:Int),(szs c).sum,[]):=by
     unfold Nst.outer;rw[List.getElem?_map,List.getElem?_zipIdx,J];simp
    rw[take_add_one,eo];exact CrAt.snoc (m:=((i:Int),(szs c).sum,[])) ⟨B,t,rfl,tk _ _ e5,tk _ _ (s5 _ _ e4)⟩ (O.tk (r.tk.trans tk))
  .rintro e b ⟨_,X,u,O⟩
   refine q _ _ _ X hD u ?_;rw[<- gl,<- aK Y,take_length]at O;exact O
theorem wD(T:Txt K mg a):FnX P w base 1 T.W_W spSpots:=by
 refine T.W_W.A.okz sc_W λcs A b4 s H vs Q E hr h=>?_
 .obtain⟨l,r,ms,gs,xs,ys,rfl,hl,hm,aS,hg,ca,co,br,b0,q⟩:=h
  have b5:sizeLine=16777216:=sizeLine_eq;have gl:gs.length=ys.length:=Paired.length hg;refine⟨_,(ag (psr 2 sc_W rm) (ag (cc PassesOwn.never rfl (fh rfl T.z_enumerate (aa (vr 1) ac)) (dS rfl (aw (am (i:=3) sc_W.nd rfl (Or.inl rfl)) (aw (am (i:=4) sc_W.nd rfl (Or.inl rfl)) aZ))) (ai (cc PassesOwn.never rfl (fh rfl T.z_enumerate (aa (vr 4) ac)) (dS rfl (aw (am (i:=5) sc_W.nd rfl (Or.inl rfl)) (aw (am (i:=6) sc_W.nd rfl (Or.inl rfl)) aZ))) (ai (oq (nR hr) (vr 2) (ak aj (vr 6) af (λ_ _=>rfl)) (aJ (aa (vr 3) (aa (vr 5) ac))) rfl))))) (ai (aq (aL rfl (N:=["member","spots"]) (ix:=[none,some 2]) ⟨rfl,rfl,rfl,rfl,⟨rfl,rfl,rfl,trivial⟩⟩ (aN (vr 0)) ⟨λC s H fp=>am (i:=0) (show List.Nodup (["member","spots"]:List Str) by decide +kernel) rfl (Or.inl rfl),λC s H fp=>aG,λC s H fp=>(t8 (nR hr) (vr 1) (ak (bG (K:=K) rfl) (vr 0) af (λ_ _=>rfl)) (λ_ _=>rfl))⟩))))),eh ?_⟩;intro ct ch;intro Z a4;have s0:Same H (upd H Z (.dK [])):=Same.new a4
  let Pw3:PvS:=λi X d=>Same H d/\∃(c:List (Key×V)) (x3 x4 x5 x6:Option V),X=[some (.ref l),some (.ref r),some (.ref Z),x3,x4,x5,x6]/\d Z=some (.dK c)/\c.length<=24*i/\i<=24/\(∀ k v,bI c (.inl k)=some v->Spot d gs k v)/\∀ g R,g<i->gs[g]? = some R->∀ m∈R,(bI c (.inl m.1)).isSome=true
  refine⟨r,ys,rfl,s0 _ _ aS,kS (a:=r) (xs:=ys) Pw3
   ⟨s0,[],none,none,none,none,rfl,ae,Nat.zero_le _,Nat.zero_le _,(λk v I=>by cases I),λg R hg=>absurd hg (Nat.not_lt_zero _)⟩ (λi X d h=>h.1 _ _ aS) ?_ ?_⟩
  .rintro i x X d p hx ⟨s1,c,x3,x4,x5,x6,rfl,hd,b3,bn,M,J⟩ hp
   obtain⟨g,B,lg,yg,rfl,bd,a2⟩:=aM hg hx;have bm:i<ys.length:=(List.getElem?_eq_some_iff.mp hx).1;have b9:=br g (List.mem_of_getElem? B);have bq:g.length=yg.length:=Paired.length a2;have L:Same d (upd d p (.tup [.int (i:Nat),.ref lg])):=Same.new hp;refine⟨p,_,rfl,SqT.of ae,rfl,_,_,rfl,_,_,rfl,rfl,?_⟩;have ap:=s1.trans L;have a':=L _ _ hd;have G:∀ k v,bI c (.inl k)=some v->Spot (upd d p (.tup [.int (i:Nat),.ref lg])) gs k v:=λk v I=>(M k v I).tk L.tk
   generalize upd d p (.tup [.int (i:Nat),.ref lg])=H2 at L ap a' G
   let Pw4:PvS:=λj X S=>Same H S/\∃(c:List (Key×V)) (x5 x6:Option V),X=[some (.ref l),some (.ref r),some (.ref Z),some (.int (i:Nat)),some (.ref lg),x5,x6]/\S Z=some (.dK c)/\c.length<=24*i+j/\j<=24/\(∀ k v,bI c (.inl k)=some v->Spot S gs k v)/\(∀ g2 R,g2<i->gs[g2]? = some R->∀ m∈R,(bI c (.inl m.1)).isSome=true)/\∀ m∈g.take j,(bI c (.inl m.1)).isSome=true
   refine⟨lg,yg,rfl,ap _ _ bd,kS (a:=lg) (xs:=yg) Pw4
    ⟨ap,c,_,_,rfl,a',by lia,by lia,G,J,λm hm=>by cases hm⟩ (λj X S h=>h.1 _ _ bd) ?_ ?_⟩
   .rintro j y X S p3 hy ⟨s3,c,x5,x6,rfl,an,bD,a1,u,f,W⟩ b8
    obtain⟨m,bl,ad,pp,rfl,ha,bp⟩:=a2.get hy;have b':j<yg.length:=(List.getElem?_eq_some_iff.mp hy).1;have s4:Same S (upd S p3 (.tup [.int (j:Nat),.ref ad])):=Same.new b8;refine⟨p3,_,rfl,SqT.of ae,rfl,_,_,rfl,_,_,rfl,rfl,?_⟩;refine⟨by show 2<=sizeLine;decide,λp5 b2=>?_⟩;have s5:=s4.trans (Same.new (o:=.tup [.int (i:Nat),.int (j:Nat)]) b2);have e5:(upd (upd S p3 (.tup [.int (j:Nat),.ref ad])) p5 (.tup [.int (i:Nat),.int (j:Nat)])) p5=some (.tup [.int (i:Nat),.int (j:Nat)]):=ae;generalize upd (upd S p3 (.tup [.int (j:Nat),.ref ad])) p5 (.tup [.int (i:Nat),.int (j:Nat)])=H5 at s5 e5;have as:=s5 _ _ an;refine .inr (.inl ⟨ad,_,_,_,rfl,rfl,SqT.of ((s3.trans s5) _ _ ha),aP 0 rfl rfl,Z,_,rfl,DPut.k (k:=.inl m.1) as (by lia),?_⟩)
    have tk:TK H5 (upd H5 Z (.dK (cv c (.inl m.1) (.ref p5)))):=λb zs e=>by
     rw[ar λz=>by rw[z,as]at e;cases e];exact e
    have ab:∀ k:Key,(bI c k).isSome=true->(bI (cv c (.inl m.1) (.ref p5)) k).isSome=true:=λk h=>by
     rw[gg]
     split
     .rfl
     .exact h
    refine⟨(s3.trans s5).put a4,cv c (.inl m.1) (.ref p5),_,_,rfl,ae,?_,by lia,λk v I=>?_,λg2 R h1 h2 m' F=>ab _ (f g2 R h1 h2 m' F),λm' F=>?_⟩
    .have:=yj c (.inl m.1) (.ref p5);lia
    .rw[gg]at I
     split at I
     .rename_i hk
      cases I;have hk:k=m.1:=by first | exact Sum.inl.inj hk | exact(Sum.inl.inj hk).symm
      rw[hk];exact⟨p5,i,j,rfl,tk _ _ e5,g,m,B,bl,rfl⟩
     .exact((u k v I).tk s5.tk).tk tk
    .rw[take_add_one,bl]at F
     rcases mem_append.mp F with h | h
     .exact ab _ (W m' h)
     .rw[show m'=m by simpa using h,gg,if_pos rfl];rfl
   .rintro X S ⟨s3,c,x5,x6,rfl,an,bD,a1,u,f,W⟩
    rw[<- bq,take_length]at W;refine⟨s3,c,_,_,_,_,rfl,an,by lia,by lia,u,λg2 R h1 h2 m hm=>?_⟩
    rcases Nat.lt_or_ge g2 i with h | h
    .exact f g2 R h h2 m hm
    .have:g2=i:=by lia
     subst this;rw[B]at h2;cases h2;exact W m hm
  .rintro X H1 ⟨s1,c,x3,x4,x5,x6,rfl,hd,b3,bn,M,J⟩
   refine .inl ⟨⟨_,SqL.of (s1 _ _ hl)⟩,λD hD=>?_⟩
   let Pw5:PvL:=λi zs d=>Same H1 d/\d D=some (.lst zs)/\i<=xs.length/\yR d gs (ms.take i) zs
   refine aD (K:=K) (a:=l) (xs:=xs) Pw5 ⟨Same.new hD,ae,Nat.zero_le _,.nil⟩ (λi ys d h=>SqL.of (h.1 _ _ (s1 _ _ hl))) (λi ys d h=>h.2.1) ?_ ?_
   .rintro i y zs d P' hy ⟨L,Y,hi,hz⟩ bo
    obtain⟨m,a3,ad,pp,rfl,ha,bp⟩:=hm.get hy;have bm:i<xs.length:=(List.getElem?_eq_some_iff.mp hy).1;have cB:=Paired.length hm;have cu:zs.length<=i:=by rw[<- Paired.length hz,length_take];lia
    obtain⟨g,b6,m',F,b1⟩:=b0 m (List.mem_of_getElem? a3);obtain⟨gi,B⟩:=List.getElem?_of_mem b6;have a0:gi<ys.length:=by rw[<- gl];exact(List.getElem?_eq_some_iff.mp B).1
    have O:=J gi g a0 B m' F;rw[b1]at O;obtain⟨v,I⟩:=Option.isSome_iff_exists.mp O;have al:=(M _ v I).tk L.tk;have tk:TK d (upd d D (.lst (zs++[v]))):=TK.lst Y;refine⟨⟨rfl,trivial⟩,.inr (.inl ⟨ad,_,_,_,rfl,rfl,SqT.of (L _ _ (s1 _ _ ha)),aP 0 rfl rfl,Z,v,rfl,(by show DGet _ Z (.int m.1) _;rw[<- I];exact DGet.k (k:=.inl m.1) (L _ _ hd)),Y,by lia,bo _ _ ⟨L.put hD,ae,bm,fU (az (λm z h=>h.tk tk) hz) a3 (al.tk tk)⟩⟩)⟩
   .rintro zs d ⟨L,Y,_,hz⟩
    rw[<- Paired.length hm,take_length]at hz;exact q _ D zs (s1.trans L) Y hz
end
end My
namespace My
open PySem L2 FrM Du Nd
open Nst (Mb plc szs hd tl bN groups aT parts outer aK a7 aW)
def IsLam(H:Hp)(d:LamD)(fv:List Str)(v:V)(vals:List V):Prop:=∃ f c clos,v=.ref f/\H f=some (.ext (jH f d clos c))/\H c=some (.ext (ia c d.qual))/\clos.map (·.1)=fv/\(clos.map (·.2)).Nodup/\CellsAt H clos vals
theorem t5{H a:Hp}(s:SameT H a):∀{clos:List (Str×Addr)}{vals:List V},CellsAt H clos vals->CellsAt a clos vals
 | _,_,.nil=>.nil
 | _,_,.cons r t=>.cons (s.at r) (t5 s t)
theorem IsLam.t{H e:Hp}{d:LamD}{g:List Str}{v:V}{a:List V}(s:SameT H e)(h:IsLam H d g v a):IsLam e d g v a:=by
 obtain⟨f,c,b,m,i,l,j,o,p⟩:=h;exact⟨f,c,b,m,s.at i,s.at l,j,o,t5 s p⟩
def sqO:HO->Bool
 | .lst _=>true
 | .tup _=>true
 | _=>false
def SQ(H H':Hp):Prop:=∀ b o,sqO o=true->H b=some o->H' b=some o
theorem SQ.of{H a:Hp}(s:SameT H a):SQ H a:=λb o c e=>s.at e (by cases o <;> first | rfl | cases c)
theorem SQ.un{H:Hp}{a:List (Str×Addr)}{d:List V}(f:CellsAt H a d):SQ H (dr H (a.map (·.2))):=λb o c e=>cg f e λv z=>by rw[z]at c;cases c
theorem SQ.tk{H a:Hp}(s:SQ H a):TK H a:=λb c e=>s b _ rfl e
theorem iT{H d c:Hp}{a:List (Str×Addr)}(s:Same (dr H (a.map (·.2))) d)(h:Same d c)(g:∀ p∈a,c p.2=H p.2):Same H c:=λb o e=>by
 by_cases hb:b∈a.map (·.2)
 .obtain⟨p,f,rfl⟩:=mem_map.mp hb
  rw[g p f];exact e
 .exact h _ _ (s b o (by rw[jG hb];exact e))
abbrev RE:=Nat->Nat->Int×Int->Prop
def RowM(K:Frag)(R:RE)(H:Hp)(n i:Nat)(x:V):Prop:=∃ r es,x=.ref r/\H r=some (.lst es)/\es.length=n/\∀(j:Nat) y,es[j]? = some y->∃ f,IsF K H f y/\R i j f
def Mx(K:Frag)(R:RE)(H:Hp)(n:Nat)(v:V):Prop:=∃ l rows,v=.ref l/\H l=some (.lst rows)/\rows.length=n/\∀(i:Nat) x,rows[i]? = some x->RowM K R H n i x
theorem RowM.q{K:Frag}{R:RE}{H a:Hp}{n i:Nat}{x:V}(s:SQ H a)(h:RowM K R H n i x):RowM K R a n i x:=by
 obtain⟨r,m,l,c,g,d⟩:=h;refine⟨r,m,l,s _ _ rfl c,g,λj y e=>?_⟩;obtain⟨f,o,b⟩:=d j y e;exact⟨f,o.tk s.tk,b⟩
theorem Mx.q{K:Frag}{R:RE}{H b:Hp}{n:Nat}{v:V}(s:SQ H b)(h:Mx K R H n v):Mx K R b n v:=by
 obtain⟨l,a,g,c,f,d⟩:=h;exact⟨l,a,g,s _ _ rfl c,f,λi x e=>(d i x e).q s⟩
theorem RowM.cut{K:Frag}{R:RE}{H:Hp}{n i:Nat}{r D:Addr}{u:List V}(p:H D=some (.lst u))(c:r≠D)(h:RowM K R H n i (.ref r)):RowM K R (js H D) n i (.ref r):=by
 obtain⟨w,o,m,d,l,g⟩:=h;cases m;refine⟨r,o,rfl,by rw[fm c];exact d,l,λj y e=>?_⟩;obtain⟨f,s,a⟩:=g j y e;exact⟨f,s.tk λb v e=>by rw[fm λz=>by rw[z,p]at e;cases e];exact e,a⟩
theorem Mx.cut{K:Frag}{R:RE}{H:Hp}{n:Nat}{v:V}{D:Addr}{o:List V}(m:H D=some (.lst o))(g:∀ l rows,v=.ref l->H l=some (.lst rows)->l≠D/\∀ r,V.ref r∈rows->r≠D)(h:Mx K R H n v):Mx K R (js H D) n v:=by
 obtain⟨l,rows,rfl,a,f,d⟩:=h;obtain⟨c,j⟩:=g l rows rfl a;refine⟨l,rows,rfl,by rw[fm c];exact a,f,λi x e=>?_⟩;have b:=d i x e;obtain⟨r,p,rfl,_⟩:=id b;exact b.cut m (j r (List.mem_of_getElem? e))
theorem AU{H:Hp}{D:Addr}:SQ (js H D) H:=λb a _ e=>by
 by_cases hb:b=D
 .rw[hb,gS]at e;cases e
 .rw[fm hb]at e;exact e
def Ans(K:Frag)(R:RE)(i j:Nat)(H:Hp)(Q:VK):Prop:=∀ H' x f,Same H H'->IsF K H' f x->R i j f->Q x H'
abbrev EF:=Nat->Nat->Rat
def Ex(e:EF):RE:=λi j f=>f=fr (e i j)
theorem Mx.ex{K:Frag}{e c:EF}{H:Hp}{n:Nat}{v:V}(h:∀ i j,i<n->j<n->e i j=c i j)(M:Mx K (Ex e) H n v):Mx K (Ex c) H n v:=by
 obtain⟨l,a,w,p,u,s⟩:=M;refine⟨l,a,w,p,u,λi x d=>?_⟩;obtain⟨r,C,D,o,B,A⟩:=s i x d;refine⟨r,C,D,o,B,λj y b=>?_⟩;obtain⟨f,m,g⟩:=A j y b;exact⟨f,m,by unfold Ex at g ⊢;rw[g,h i j (by have:=(List.getElem?_eq_some_iff.mp d).1;lia) (by have:=(List.getElem?_eq_some_iff.mp b).1;lia)]⟩
structure DMx(K:Frag)(H:Hp)(lt d:Addr)(qs:List Rat)(f:Fn)(B:Nat):Prop where
 l:∃ xs,H lt=some (.lst xs)/\AllF K H (qs.map fr) xs
 t:∃ kvs,H d=some (.dT kvs)/\DF K H kvs f
 n:qs.length<=24
 B0:0<B
 B1:B<=1000000000
 q:∀ q∈qs,Bq B q
theorem DMx.on{K:Frag}{H b:Hp}{a d:Addr}{qs:List Rat}{f:Fn}{B:Nat}(M:DMx K H a d qs f B)(k:TK H b)(c:∀ xs,H a=some (.lst xs)->b a=some (.lst xs))(e:∀ kvs,H d=some (.dT kvs)->b d=some (.dT kvs)):DMx K b a d qs f B :=
 let ⟨xs,a1,a2⟩:=M.l
 let ⟨kvs,b1,b2⟩:=M.t
 ⟨⟨xs,c _ a1,a2.tk k⟩,⟨kvs,e _ b1,b2.tk k⟩,M.n,M.B0,M.B1,M.q⟩
theorem DMx.same{K:Frag}{H b:Hp}{a d:Addr}{qs:List Rat}{f:Fn}{B:Nat}(M:DMx K H a d qs f B)(s:Same H b):DMx K b a d qs f B:=M.on s.tk (λc e=>s _ _ e) (λc e=>s _ _ e)
theorem DMx.st{K:Frag}{H b:Hp}{a d:Addr}{qs:List Rat}{f:Fn}{B:Nat}(M:DMx K H a d qs f B)(s:SameT H b):DMx K b a d qs f B:=M.on (SameT.tk s) (λc e=>s.at e) (λc e=>s.at e)
abbrev fvW:List Str:=["wanted","there"]
abbrev fvM:List Str:=["told","found"]
abbrev fvX:List Str:=["spots","outer","blocks"]
abbrev AI:List Str:=["step"]
abbrev An:List Str:=["told"]
structure LMx(K:Frag)(H:Hp)(lt:Addr)(qs:List Rat):Prop where
 l:∃ xs,H lt=some (.lst xs)/\AllF K H (qs.map fr) xs
 q:∀ q∈qs,OkQ 96 q
theorem LMx.q_{K:Frag}{H b:Hp}{a:Addr}{qs:List Rat}(s:SQ H b)(M:LMx K H a qs):LMx K b a qs:=let ⟨xs,a1,a2⟩:=M.l;⟨⟨xs,s _ _ rfl a1,a2.tk s.tk⟩,M.q⟩
abbrev PF:=Int->Int->Rat
abbrev oO(ie:List Mb->PF)(oe:PF)(ms:List Mb):EF:=pe (Rp.entN ie oe (parts ms)) ms
def GOk(K:Frag)(ms:List Mb)(ie:List Mb->PF)(oe:PF)(H:Hp)(sp ou bl:V):Prop:=(plc ms).Nodup/\(∀ i j:Nat,i<(parts ms).length->j<(parts ms).length->OkQ 600 (oe i j))/\(∀ c∈parts ms,∀ i j,i<c.length->j<c.length->OkQ 600 (pe (ie c) c i j))/\(∀ c∈parts ms,∀ i,i<c.length->OkQ 96 (pe (ie c) c i i))/\∃(ls lb:Addr) (zs bs:List V),sp=.ref ls/\bl=.ref lb/\H ls=some (.lst zs)/\yR H (parts ms) ms zs/\Mx K (Ex λi j=>oe i j) H (parts ms).length ou/\H lb=some (.lst bs)/\Paired (λ(g:List Mb) v=>Mx K (Ex (pe (ie g) g)) H g.length v) (parts ms) bs
theorem GOk.q{K:Frag}{a:List Mb}{ie:List Mb->PF}{b:PF}{H c:Hp}{sp d e:V}(s:SQ H c)(h:GOk K a ie b H sp d e):GOk K a ie b c sp d e:=by
 obtain⟨j,D,f,B,w,u,p,l,A,C,y,x,o,r,i⟩:=h;exact⟨j,D,f,B,w,u,p,l,A,C,s _ _ rfl y,az (λm z h=>h.tk s.tk) x,o.q s,s _ _ rfl r,az (λg v h=>h.q s) i⟩
inductive spPair(K:Frag)(vs:List V)(H:Hp)(Q:VK)(_E:XK):Prop
 | mk(lt d:Addr)(qs:List Rat)(f:Fn)(B i j:Nat)(h0:vs=[.ref lt,.ref d,.int (i:Nat),.int (j:Nat)])(h1:DMx K H lt d qs f B)(h2:i<qs.length)(h3:j<qs.length)(h4:∀ H' z,Same H H'->IsQ K H' (entQ qs f i j) z->Q z H'):spPair K vs H Q _E
def Em(K:Frag):List V->Sp:=λvals vs H Q _=>∃ n w i j:Nat,vals=[.int (w:Nat),.int (n:Nat)]/\vs=[.int (i:Nat),.int (j:Nat)]/\w<=n/\n<=24/\i<n/\j<n/\Ans K (Ex (eFn n w)) i j H Q
def D7(K:Frag):List V->Sp:=λvals vs H Q _=>∃ st i j:Nat,vals=[.int (st:Nat)]/\vs=[.int (i:Nat),.int (j:Nat)]/\1<=st/\st<=100/\Ans K (Ex (eSn st)) i j H Q
def DY(K:Frag):List V->Sp:=λvals vs H Q _=>∃(lt:Addr) (qs:List Rat) (i j:Nat),vals=[.ref lt]/\vs=[.int (i:Nat),.int (j:Nat)]/\LMx K H lt qs/\i<qs.length/\j<qs.length/\Ans K (Ex (eLn qs)) i j H Q
def D4(K:Frag):List V->Sp:=λvals vs H Q _=>∃(lt d:Addr) (qs:List Rat) (f:Fn) (B i j:Nat),vals=[.ref lt,.ref d]/\vs=[.int (i:Nat),.int (j:Nat)]/\DMx K H lt d qs f B/\i<qs.length/\j<qs.length/\Ans K (Ex (entQ qs f)) i j H Q
def Es(K:Frag):List V->Sp:=λvals vs H Q _=>∃ i j:Nat,vals=[]/\vs=[.int (i:Nat),.int (j:Nat)]/\Ans K (Ex λ_ _=>1) i j H Q
def Dw(K:Frag):List V->Sp:=λvals vs H Q _=>∃(ms:List Mb) (ie:List Mb->PF) (oe:PF) (i j:Nat) (sp ou bl:V),vals=[sp,ou,bl]/\vs=[.int (i:Nat),.int (j:Nat)]/\GOk K ms ie oe H sp ou bl/\i<ms.length/\j<ms.length/\Ans K (Ex (oO ie oe ms)) i j H Q
def TellsAt(K:Frag)(e:EF)(H:Hp)(n:Nat)(v:V):Prop:=(n<=24/\∃ w:Nat,w<=n/\e=eFn n w/\IsLam H bH fvW v [.int (w:Nat),.int (n:Nat)])\/(∃ st:Nat,1<=st/\st<=100/\e=eSn st/\IsLam H bv AI v [.int (st:Nat)])\/(∃ lt qs,IsLam H bt An v [.ref lt]/\LMx K H lt qs/\qs.length=n/\e=eLn qs)\/(∃ lt d qs f B,IsLam H bA fvM v [.ref lt,.ref d]/\DMx K H lt d qs f B/\qs.length=n/\e=entQ qs f)\/(e=(λ_ _=>1)/\IsLam H bz [] v [])\/∃ ms ie oe,e=oO ie oe ms/\ms.length=n/\∃ sp ou bl,IsLam H bf fvX v [sp,ou,bl]/\GOk K ms ie oe H sp ou bl
theorem TellsAt.same{K:Frag}{e:EF}{H l:Hp}{n:Nat}{v:V}(s:Same H l)(h:TellsAt K e H n v):TellsAt K e l n v:=by
 rcases h with⟨g,w,a,b,c⟩ | ⟨y,g,a,b,c⟩ | ⟨j,i,a,b,c⟩ | ⟨j,d,i,f,B,a,b,c⟩ | ⟨g,a⟩ | ⟨o,A,p,g,r,u,m,x,a,b⟩
 .exact .inl ⟨g,w,a,b,c.t s.t⟩
 .exact .inr (.inl ⟨y,g,a,b,c.t s.t⟩)
 .exact .inr (.inr (.inl ⟨j,i,a.t s.t,b.q_ (SQ.of s.t),c⟩))
 .exact .inr (.inr (.inr (.inl ⟨j,d,i,f,B,a.t s.t,b.same s,c⟩)))
 .exact .inr (.inr (.inr (.inr (.inl ⟨g,a.t s.t⟩))))
 .exact .inr (.inr (.inr (.inr (.inr ⟨o,A,p,g,r,u,m,x,a.t s.t,b.q (SQ.of s.t)⟩))))
theorem lsW:LamScope bH fvW ["one","other"]:=⟨rfl,rfl,rfl,by decide +kernel,by decide +kernel,by decide +kernel,by decide +kernel,by decide +kernel⟩
theorem Fl:LamScope bv AI ["one","other"]:=⟨rfl,rfl,rfl,by decide +kernel,by decide +kernel,by decide +kernel,by decide +kernel,by decide +kernel⟩
theorem EM:LamScope bt An ["one","other"]:=⟨rfl,rfl,rfl,by decide +kernel,by decide +kernel,by decide +kernel,by decide +kernel,by decide +kernel⟩
theorem lsM:LamScope bA fvM ["one","other"]:=⟨rfl,rfl,rfl,by decide +kernel,by decide +kernel,by decide +kernel,by decide +kernel,by decide +kernel⟩
theorem lsE:LamScope bz [] ["one","other"]:=⟨rfl,rfl,rfl,by decide +kernel,by decide +kernel,by decide +kernel,by decide +kernel,by decide +kernel⟩
theorem lsX:LamScope bf fvX ["one","other"]:=⟨rfl,rfl,rfl,by decide +kernel,by decide +kernel,by decide +kernel,by decide +kernel,by decide +kernel⟩
inductive spChance(K:Frag)(vs:List V)(H:Hp)(Q:VK)(_E:XK):Prop
 | mk(n w i j:Nat)(h0:vs=[.int (n:Nat),.int (w:Nat),.bl (decide (i=j))])(h1:w<=n)(h2:n<=24)(h3:i<n)(h4:j<n)(h5:Ans K (Ex (eFn n w)) i j H Q):spChance K vs H Q _E
inductive spSpotC(K:Frag)(vs:List V)(H:Hp)(Q:VK)(_E:XK):Prop
 | mk(ms:List Mb)(ie:List Mb->PF)(oe:PF)(i j:Nat)(sp ou bl z z':V)(ls:Addr)(zs:List V)(h0:vs=[bl,ou,z,z'])(h1:GOk K ms ie oe H sp ou bl)(h2:sp=.ref ls)(h3:H ls=some (.lst zs))(h4:zs[i]? = some z)(h5:zs[j]? = some z')(h6:Ans K (Ex (oO ie oe ms)) i j H Q):spSpotC K vs H Q _E
inductive spMRow(K:Frag)(vs:List V)(H:Hp)(Q:VK)(_E:XK):Prop
 | mk(n i:Nat)(r:EF)(v:V)(h0:vs=[.int (i:Nat),.int (n:Nat),v])(h1:i<n)(h2:n<=24)(h3:TellsAt K r H n v)(h4:∀ H' p,Same H H'->H p=none->RowM K (Ex r) H' n i (.ref p)->Q (.ref p) H'):spMRow K vs H Q _E
inductive spMBy(K:Frag)(vs:List V)(H:Hp)(Q:VK)(_E:XK):Prop
 | mk(n:Nat)(r:EF)(v:V)(h0:vs=[.int (n:Nat),v])(h1:n<=24)(h2:TellsAt K r H n v)(h3:∀ H' p rows,Same H H'->H p=none->H' p=some (.lst rows)->(∀ q,V.ref q∈rows->H q=none)->Mx K (Ex r) H' n (.ref p)->Q (.ref p) H'):spMBy K vs H Q _E
theorem yh{i j st:Nat}(h:0<st):((i:Int) - (j:Int)) % (st:Int)=0↔i % st=j % st:=by
 rw[<- Int.emod_eq_emod_iff_emod_sub_eq_zero]
 constructor
 .intro e;exact_mod_cast e
 .intro e;exact_mod_cast e
section
variable {P:Program}{w:World}{K:Frag}{mg:Str->Option Value}{base:Heap}{a:Ad}
theorem yB{H:Hp}{qs:List Rat}{xs:List V}(d:AllF K H (qs.map fr) xs){i:Nat}(hi:i<qs.length):∃ x,xs[i]? = some x/\IsQ K H (qs.getD i 0) x:=by
 have e:xs.length=qs.length:=by rw[<- d.len,length_map]
 have b:i<xs.length:=by lia
 obtain⟨f,c,a⟩:=d.get (List.getElem?_eq_getElem b);rw[List.getElem?_map,List.getElem?_eq_getElem hi]at c;cases c;refine⟨xs[i],List.getElem?_eq_getElem b,?_⟩;rw[List.getD,List.getElem?_eq_getElem hi];exact a
theorem zQ(T:Txt K mg a):FnX P w base 4 T.W_ad (spPair K):=by
 have p:FnO P w K mg base 3 (spAri (· * ·) (λ_=>True) K):=eE T;refine T.W_ad.A.okz lz λad A u s H vs Q E O h=>?_
 .obtain⟨r,d,F,f,B,i,j,rfl,M,y,I,q⟩:=h
  obtain⟨xs,e,N⟩:=M.l;obtain⟨m,G,J⟩:=M.t;obtain⟨D,l,L⟩:=yB N y;obtain⟨Z,x,qj⟩:=yB N I;have S:∀{i},i<F.length->Bb (F.getD i 0):=λ{i} h=>(M.q _ (by rw[List.getD,List.getElem?_eq_getElem h];exact getElem_mem h)).bb M.B0 (pO M.B1)
  refine⟨_,(ag (a8 (a5 dM (vr 2) (vr 3) (aB _)) (ai (aq (ak aj (vr 0) (vr 2) (λ_ _=>rfl)))) aE) (ai (aq (yM (nR O) (vr 1) (aJ (aa (vr 2) (aa (vr 3) ac))) (pec p O T.W_O (aa (ak aj (vr 0) (vr 2) (λ_ _=>rfl)) (aa (ak aj (vr 0) (vr 3) (λ_ _=>rfl)) ac))) ⟨rfl,rfl,rfl,rfl⟩)))),bU ?_⟩;intro ab;refine ifC (λc=>?_) (λc=>?_)
  .have c:i=j:=by lia
   refine .inl ⟨r,_,_,D,rfl,rfl,SqL.of e,aQ l,q _ _ (Same.refl _) ?_⟩;unfold entQ;rw[if_pos c];exact L
  .have c:¬i=j:=by lia
   refine⟨d,rfl,.inr ⟨m,.inl G⟩,bF _ _,λk X=>?_⟩;have g:=Same.new (o:=.tup [.int (i:Nat),.int (j:Nat)]) X;have R:=ae (H:=H) (a:=k) (o:=.tup [.int (i:Nat),.int (j:Nat)]);generalize upd H k (.tup [.int (i:Nat),.int (j:Nat)])=H1 at g R;refine .inl ⟨r,_,_,D,rfl,rfl,SqL.of (g _ _ e),aQ l,.inl ⟨r,_,_,Z,rfl,rfl,SqL.of (g _ _ e),aQ x,?_⟩⟩;refine⟨_,_,_,_,rfl,L.same g,qj.same g,S y,S I,trivial,λH2 z2 C W=>?_⟩;have b:=g.trans C;refine⟨_,.inr ⟨m,ky i j,k,.inl (b _ _ G),rfl,C _ _ R,rfl⟩,q _ _ b ?_⟩;unfold entQ;rw[if_neg c];cases hf:f i j with
   | none=>rw[(J i j).2 hf];exact W
   | some v =>
    obtain⟨z,Y,h2⟩:=(J i j).1 v hf;rw[Y];exact h2.same b
theorem yf{H:Hp}{a:List (Str×Addr)}{c:List V}(d:CellsAt H a c):TK H (dr H (a.map (·.2))):=λb f e=>cg d e λv z=>nomatch z
theorem vT(T:Txt K mg a):FnX P w base 3 T.W_an (spChance K):=by
 have c:FnO P w K mg base 2 spLow:=cH T;refine T.W_an.A.okz mH λC A m s H J Q E u h=>?_
 .obtain⟨n,f,i,j,rfl,G,F,D,I,q⟩:=h
  have r:Bt 11 (n:Int):=by unfold Bt;lia
  have o:Bt 11 (f:Int):=by unfold Bt;lia
  refine⟨_,(ag (a8 (bT (vr 2)) (ai (aq (pec c u T.W_L (aa (vr 1) (aa (vr 0) ac))))) aE) (ai (aq (pec c u T.W_L (aa (av aH (vr 1) (av bE (vr 1) af)) (aa (av aH (vr 0) (av bE (vr 0) af)) ac)))))),bU ?_⟩;intro y
  by_cases e:i=j
  .rw[decide_eq_true e]
   have d:=ur (n:=n) (w:=f) (i:=i) (j:=j) (by rw[if_pos e];lia);rw[if_pos e,if_pos e]at d;exact⟨_,_,rfl,by lia,o.mono (by decide),r.mono (by decide),λx p g l=>q _ _ _ g ⟨p,rfl,.inl l⟩ d⟩
  .rw[decide_eq_false e]
   have b:(0:Int)<(n:Int)*((n:Int) - 1):=Int.mul_pos (by lia) (by lia);have d:=ur (n:=n) (w:=f) (i:=i) (j:=j) (by rw[if_neg e];exact b);rw[if_neg e,if_neg e]at d;have B:Bt 11 ((f:Int) - 1):=by unfold Bt;lia
   have v:Bt 11 ((n:Int) - 1):=by unfold Bt;lia
   exact⟨clB (by lia) (by lia),clB (by lia) (by lia),_,_,rfl,b,(o.mul B).mono (by decide),(r.mul v).mono (by decide),λx p g l=>q _ _ _ g ⟨p,rfl,.inl l⟩ d⟩
theorem Eh(T:Txt K mg a):cU P w K mg base 4 bH fvW ["one","other"] (Em K):=by
 have b:FnO P w K mg base 3 (spChance K):=vT T;refine iM lsW (λD v d c m r=>match m,r with | [_,_],_=>rfl) (λvals vs H Q E h=>?_) (λA outer s H f c d vals vs Q E hr hfv ca h=>?_)
 .obtain⟨n,g,i,j,rfl,rfl,_⟩:=h;rfl
 .obtain⟨n,g,i,j,rfl,rfl,p,C,l,B,q⟩:=h
  refine⟨_,(pec b hr T.W_an (aa (vr 3) (aa (vr 2) (aa (b7 dM (vr 0) (vr 1) (aB _)) ac)))),?_⟩
  have e:(decide ((i:Int)=(j:Int)))=decide (i=j):=by
   by_cases h:i=j
   .subst h;simp
   .rw[decide_eq_false h,decide_eq_false (by lia)]
  refine⟨n,g,i,j,?_,p,C,l,B,λF x f y o u=>λH3 s3 hc=>q _ x f (iT y s3 hc) (o.same s3) u⟩;show [V.int (n:Int),V.int (g:Int),V.bl (decide ((i:Int)=(j:Int)))]=_;rw[e]
theorem BF(T:Txt K mg a):cU P w K mg base 4 bv AI ["one","other"] (D7 K):=by
 have m:FnO P w K mg base 3 spLow:=(cH T).mono (by decide);refine iM Fl (λC v e c o u=>match o,u with | [_,_],_=>rfl) (λvals vs H Q E h=>?_) (λA outer s H f c e vals vs Q E hr hfv ca h=>?_)
 .obtain⟨b,i,j,rfl,rfl,_⟩:=h;rfl
 .obtain⟨b,i,j,rfl,rfl,y,D,q⟩:=h
  refine⟨_,(fR (a5 dM (av fQ (av bE (vr 0) (vr 1)) (vr 2)) af (aB _)) (pec m hr T.W_L (aa af (aa (vr 2) ac))) (be rfl T.g_NOUGHT)),?_⟩;have d:(0:Int)<(b:Int):=by lia
  refine⟨cp d,?_⟩;refine ifC (λc=>?_) λc=>?_
  .have c:((i:Int) - (j:Int)) % (b:Int)=0:=c
   have c:=(yh (by lia)).mp c;exact⟨1,(b:Int),rfl,d,(show Bt 1 (1:Int) by unfold Bt;decide).mono (by decide),(show Bt 10 (b:Int) by unfold Bt;lia).mono (by decide),λF p x r=>λB g l=>q _ _ _ (iT x g l) ⟨p,rfl,.inl (g _ _ r)⟩ (by unfold Ex eSn;rw[if_pos c,BI y])⟩
  .have c:¬((i:Int) - (j:Int)) % (b:Int)=0:=c
   have c:¬i % b=j % b:=λz=>c ((yh (by lia)).mpr z)
   exact λB g l=>q _ _ (0,1) (iT (Same.refl _) g l) ⟨a.k_NOUGHT,rfl,.inr T.t_NOUGHT⟩ (by unfold Ex eSn;rw[if_neg c,zL])
theorem BZ(T:Txt K mg a):cU P w K mg base 4 bt An ["one","other"] (DY K):=by
 have m:FnO P w K mg base 3 (spAri (· * ·) (λ_=>True) K):=eE T;refine iM EM (λS L g c J N=>match J,N with | [_,_],_=>rfl) (λvals vs H Q E h=>?_) (λA outer s H f c g vals vs Q E hr hfv ca h=>?_)
 .obtain⟨l,o,i,j,rfl,rfl,_⟩:=h;rfl
 .obtain⟨l,o,i,j,rfl,rfl,M,u,x,q⟩:=h
  refine⟨_,(fR (a5 dM (vr 0) (vr 1) (aB _)) (ak aj (vr 2) (vr 0) (λ_ _=>rfl)) (pec m hr T.W_O (aa (ak aj (vr 2) (vr 0) (λ_ _=>rfl)) (aa (ak aj (vr 2) (vr 1) (λ_ _=>rfl)) ac)))),?_⟩;have M:=M.q_ (SQ.un ca);obtain⟨R,b,B⟩:=M.l;obtain⟨v,d,y⟩:=yB B u;obtain⟨G,r,I⟩:=yB B x;have at_:∀{i},i<o.length->OkQ 96 (o.getD i 0):=λ{i} h=>M.q _ (by rw[List.getD,List.getElem?_eq_getElem h];exact getElem_mem h)
  refine ifC (λc=>?_) λc=>?_
  .have c:i=j:=by have c:(i:Int)=(j:Int):=c;lia
   refine .inl ⟨l,_,_,v,rfl,rfl,SqL.of b,aQ d,?_⟩;exact λD e p=>q _ _ _ (iT (Same.refl _) e p) (y.same e) (by unfold Ex eLn;rw[if_pos c])
  .have c:¬i=j:=λz=>c (by show(i:Int)=(j:Int);lia)
   refine .inl ⟨l,_,_,v,rfl,rfl,SqL.of b,aQ d,.inl ⟨l,_,_,G,rfl,rfl,SqL.of b,aQ r,?_⟩⟩;exact⟨_,_,_,_,rfl,y,I,(at_ u).bb,(at_ x).bb,trivial,λO z C F=>λD e p=>q _ _ _ (iT C e p) (F.same e) (by unfold Ex eLn;rw[if_neg c])⟩
theorem Ee(T:Txt K mg a):cU P w K mg base 5 bA fvM ["one","other"] (D4 K):=by
 have b:FnO P w K mg base 4 (spPair K):=zQ T;refine iM lsM (λD u g c p r=>match p,r with | [_,_],_=>rfl) (λvals vs H Q E h=>?_) (λA outer s H f c g vals vs Q E hr hfv ca h=>?_)
 .obtain⟨m,d,l,f,B,i,j,rfl,rfl,_⟩:=h;rfl
 .obtain⟨m,d,l,C,B,i,j,rfl,rfl,M,o,x,q⟩:=h
  refine⟨_,(pec b hr T.W_ad (aa (vr 2) (aa (vr 3) (aa (vr 0) (aa (vr 1) ac))))),?_⟩;exact⟨m,d,l,C,B,i,j,rfl,M.on (yf ca) (λy e=>cg ca e λv z=>nomatch z) (λy e=>cg ca e λv z=>nomatch z),o,x,λH' z s1 hz=>λH3 s3 hc=>q _ z _ (iT s1 s3 hc) (hz.same s3) rfl⟩
theorem DP(T:Txt K mg a):cU P w K mg base 4 bz [] ["one","other"] (Es K):=by
 refine iM lsE (λo l b c d g=>match d,g with | [_,_],_=>rfl) (λvals vs H Q E h=>?_) (λA outer s H f c b vals vs Q E hr hfv ca h=>?_)
 .obtain⟨i,j,rfl,rfl,_⟩:=h;rfl
 .obtain⟨i,j,rfl,rfl,q⟩:=h
  refine⟨_,(be rfl T.g_WHOLE),?_⟩;exact λp m e=>q _ _ (1,1) (iT (Same.refl _) m e) ⟨_,rfl,.inr T.t_WHOLE⟩ BJ
theorem DH{H:Hp}{R:RE}{n:Nat}{v:V}(h:Mx K R H n v){i j:Nat}(hi:i<n)(w:j<n):∃ l rows r es y f,v=.ref l/\H l=some (.lst rows)/\rows[i]? = some (.ref r)/\H r=some (.lst es)/\es[j]? = some y/\IsF K H f y/\R i j f:=by
 obtain⟨l,rows,o,e,u,m⟩:=h;have b:rows[i]? = some (rows[i]'(by lia)):=List.getElem?_eq_getElem _;obtain⟨r,es,s,d,x,p⟩:=m i _ b;have a:es[j]? = some (es[j]'(by lia)):=List.getElem?_eq_getElem _;obtain⟨f,c,g⟩:=p j _ a;exact⟨l,rows,r,es,_,f,o,e,by rw[b,s],d,a,c,g⟩
theorem dG{R:RE}{H:Hp}{n i j:Nat}{v:V}{Q:VK}(h:Mx K R H n v)(hi:i<n)(m:j<n)(q:∀ y f,IsF K H f y->R i j f->Q y H):rIx K v (.int (i:Nat)) H λv2 H2=>rIx K v2 (.int (j:Nat)) H2 Q:=by
 obtain⟨l,a,r,p,y,f,rfl,b,g,d,e,o,c⟩:=DH h hi m;exact .inl ⟨l,_,_,_,rfl,rfl,SqL.of b,aQ g,.inl ⟨r,_,_,_,rfl,rfl,SqL.of d,aQ e,q y f o c⟩⟩
theorem xQ(T:Txt K mg a):FnX P w base 4 T.W_D (spSpotC K):=by
 have I:FnO P w K mg base 3 (spAri (· * ·) (λ_=>True) K):=eE T;refine T.W_D.A.okz sc_D λbd A as s H vs Q E hr h=>?_
 .obtain⟨Y,R,Z,i,j,sp,ou,bl,z,z',bm,bn,rfl,⟨nd,o1,o2,o3,ls,lb,zs,bs,rfl,rfl,g3,g5,g6,g7,g8⟩,e0,S,M,aS,q⟩:=h
  cases e0;rw[g3]at S;cases S;refine⟨_,(ag (o8 (vr 2) (dS rfl (aw (am (i:=4) sc_D.nd rfl (Or.inl rfl)) (aw (am (i:=5) sc_D.nd rfl (Or.inl rfl)) aZ)))) (ag (o8 (vr 3) (dS rfl (aw (am (i:=6) sc_D.nd rfl (Or.inl rfl)) (aw (am (i:=7) sc_D.nd rfl (Or.inl rfl)) aZ)))) (ag (a8 (a5 dM (vr 4) (vr 6) (aB _)) (ai (psl 8 sc_D (ak aj (ak aj (ak aj (vr 0) (vr 4) (λ_ _=>rfl)) (vr 5) (λ_ _=>rfl)) (vr 7) (λ_ _=>rfl)))) (ai (psl 8 sc_D (pec I hr T.W_O (aa (ak aj (ak aj (ak aj (vr 0) (vr 4) (λ_ _=>rfl)) (vr 5) (λ_ _=>rfl)) (vr 5) (λ_ _=>rfl)) (aa (ak aj (ak aj (ak aj (vr 0) (vr 6) (λ_ _=>rfl)) (vr 7) (λ_ _=>rfl)) (vr 7) (λ_ _=>rfl)) ac)))))) (ai (aq (pec I hr T.W_O (aa (ak aj (ak aj (vr 1) (vr 4) (λ_ _=>rfl)) (vr 6) (λ_ _=>rfl)) (aa (vr 8) ac)))))))),ww ?_⟩;intro a4 a0 a';obtain⟨m,hm,p,g,x,rfl,hp,J⟩:=aM g5 M;obtain⟨m',ad,p',u,G,rfl,an,L⟩:=aM g5 aS;obtain⟨F,x1,D,b,_⟩:=id J;obtain⟨l2,x2,o,d,_⟩:=id L;have b:=(List.getElem?_eq_some_iff.mp b).1;have d:=(List.getElem?_eq_some_iff.mp d).1
  have e:oO R Z Y i j=Z (g:Int) (u:Int)*(if g=u then pe (R F) F x G else pe (R F) F x x*pe (R l2) l2 G G):=by
   unfold oO pe;rw[jN hm,jN ad];exact AN nd J L D o
  have O:g<(parts Y).length:=(List.getElem?_eq_some_iff.mp D).1;have B:u<(parts Y).length:=(List.getElem?_eq_some_iff.mp o).1;obtain⟨vb,C,mb⟩:=jB g8 D;obtain⟨a3,r,ap⟩:=jB g8 o;refine⟨p,_,rfl,SqT.of hp,rfl,_,_,rfl,_,_,rfl,rfl,?_⟩;refine⟨p',_,rfl,SqT.of an,rfl,_,_,rfl,_,_,rfl,rfl,?_⟩;have oo:=o1 g u O B
  have l:∀{X:Hp}{y:V}{f:Rat},Same H X->IsQ K X f y->Bb f->oO R Z Y i j=Z (g:Int) (u:Int)*f->rIx K ou (.int (g:Nat)) X λv H2=>rIx K v (.int (u:Nat)) H2 λv2 H3=>spAri (· * ·) (λ_=>True) K [v2,y] H3 Q (λ_ _ _=>False):=λ{X y f} x hy hf ef=>by
   refine dG (g6.q (SQ.of x.t)) O B λyo fo N W=>?_
   cases W;exact⟨yo,y,_,f,rfl,N,hy,oo.bb,hf,trivial,λH' z G M=>q _ z _ (x.trans G) M (by unfold Ex;rw[ef])⟩
  refine ifC (λc=>?_) λc=>?_
  .have c:g=u:=by have c:(g:Int)=(u:Int):=c;lia
   subst c;rw[D]at o;cases o;rw[C]at r;cases r;rw[if_pos rfl]at e;refine .inl ⟨lb,_,_,_,rfl,rfl,SqL.of g7,aQ C,dG mb b d λy f N W=>?_⟩;cases W;exact l (Same.refl H) N (o2 F (List.mem_of_getElem? D) _ _ b d).bb e
  .have c:¬g=u:=λz=>c (by show(g:Int)=(u:Int);lia)
   rw[if_neg c]at e;have a1:=o3 F (List.mem_of_getElem? D) _ b;have a2:=o3 l2 (List.mem_of_getElem? o) _ d;refine .inl ⟨lb,_,_,_,rfl,rfl,SqL.of g7,aQ C,dG mb b b λy f N W=>?_⟩;refine .inl ⟨lb,_,_,_,rfl,rfl,SqL.of g7,aQ r,dG ap d d λy' f' al ab=>?_⟩;cases W;cases ab;exact⟨y,y',_,_,rfl,N,al,a1.bb,a2.bb,trivial,λX z x M=>l x M (a1.mul a2).bb e⟩
theorem Ea(T:Txt K mg a):cU P w K mg base 5 bf fvX ["one","other"] (Dw K):=by
 have l:FnO P w K mg base 4 (spSpotC K):=xQ T;refine iM lsX (λY L e c J N=>match J,N with | [_,_],_=>rfl) (λvals vs H Q E h=>?_) (λA outer s H f c e vals vs Q E hr hfv ca h=>?_)
 .obtain⟨m,u,p,i,j,G,y,O,rfl,rfl,_⟩:=h;rfl
 .obtain⟨m,u,p,i,j,G,y,O,rfl,rfl,C,R,X,q⟩:=h
  refine⟨_,(pec l hr T.W_D (aa (vr 4) (aa (vr 3) (aa (ak aj (vr 2) (vr 0) (λ_ _=>rfl)) (aa (ak aj (vr 2) (vr 1) (λ_ _=>rfl)) ac))))),?_⟩;have d:=C.q (SQ.un ca);obtain⟨_,_,_,_,g,F,b,S,rfl,rfl,o,I,_⟩:=id d;have Z:m.length=b.length:=Paired.length I;have r:b[i]? = some (b[i]'(by lia)):=List.getElem?_eq_getElem _;have v:b[j]? = some (b[j]'(by lia)):=List.getElem?_eq_getElem _;refine .inl ⟨g,_,_,_,rfl,rfl,SqL.of o,aQ r,.inl ⟨g,_,_,_,rfl,rfl,SqL.of o,aQ v,?_⟩⟩;exact⟨m,u,p,i,j,.ref g,y,.ref F,_,_,g,b,rfl,d,rfl,o,r,v,λW x f B M D=>λH3 s3 hc=>q _ x f (iT B s3 hc) (M.same s3) D⟩
theorem AB(T:Txt K mg a):FnX P w base 6 T.W_am (spMRow K):=by
 have X:cU P w K mg base 5 bH fvW ["one","other"] (Em K):=λA g s H f c b J u l Q E m=>Eh T A g s H f c b J u l Q E (m.mono (by decide))
 have ab:cU P w K mg base 5 bv AI ["one","other"] (D7 K):=λA g s H f c b J u l Q E m=>BF T A g s H f c b J u l Q E (m.mono (by decide))
 have Z:cU P w K mg base 5 bt An ["one","other"] (DY K):=λA g s H f c b J u l Q E m=>BZ T A g s H f c b J u l Q E (m.mono (by decide))
 have Y:cU P w K mg base 5 bA fvM ["one","other"] (D4 K):=λA g s H f c b J u l Q E m=>Ee T A g s H f c b J u l Q E (m.mono (by decide))
 have R:cU P w K mg base 5 bz [] ["one","other"] (Es K):=λA g s H f c b J u l Q E m=>DP T A g s H f c b J u l Q E (m.mono (by decide))
 have ad:cU P w K mg base 5 bf fvX ["one","other"] (Dw K):=λA g s H f c b J u l Q E m=>Ea T A g s H f c b J u l Q E (m.mono (by decide))
 refine T.W_am.A.okz my λap A g s H u Q E m h=>?_
 .obtain⟨n,i,r,v,rfl,hi,hn,hL,q⟩:=h
  have an:sizeLine=16777216:=sizeLine_eq;refine⟨_,(ai (aq (aL rfl (N:=["other","tell","one"]) (ix:=[none,some 2,some 0]) ⟨rfl,rfl,rfl,rfl,⟨rfl,rfl,rfl,⟨rfl,rfl,rfl,trivial⟩⟩⟩ (bR rfl T.z_range (aa (vr 1) ac)) ⟨λC s H fp=>am (i:=0) (show List.Nodup (["other","tell","one"]:List Str) by decide +kernel) rfl (Or.inl rfl),λC s H fp=>aG,λC s H fp=>(PE.or (c7 (vr 1) X m (aa (vr 2) (aa (vr 0) ac))) (PE.or (c7 (vr 1) ab m (aa (vr 2) (aa (vr 0) ac))) (PE.or (c7 (vr 1) Z m (aa (vr 2) (aa (vr 0) ac))) (PE.or (c7 (vr 1) Y m (aa (vr 2) (aa (vr 0) ac))) (PE.or (c7 (vr 1) R m (aa (vr 2) (aa (vr 0) ac))) (c7 (vr 1) ad m (aa (vr 2) (aa (vr 0) ac))))))))⟩))),?_⟩;refine⟨(n:Int),rfl,by lia,by lia,λD hD=>?_⟩
  let Pw1:PvL:=λj p W=>j<=n/\Same H W/\W D=some (.lst p)/\p.length=j/\∀(k:Nat) y,p[k]? = some y->∃ f,IsF K W f y/\Ex r i k f
  refine ji (lo:=0) (n:=n) Pw1 ⟨Nat.zero_le _,Same.new hD,ae,rfl,λk y e=>by simp at e⟩ (λj p W h=>h.2.2.1) ?_ ?_
  .rintro j p W P' hj ⟨_,s1,S,O,hF⟩ hP
   have e0:[V.int (i:Int),V.int (0+(j:Int))]=[V.int (i:Int),V.int (j:Int)]:=by rw[Int.zero_add]
   have next:Ans K (Ex r) i j W (λv H2=>H2 D=some (.lst p)/\p.length<sizeLine/\P' (p++[v]) (upd H2 D (.lst (p++[v])))):=λH2 x f s2 hx hR=>by
    have al:=s2 _ _ S;have tk:TK H2 (upd H2 D (.lst (p++[x]))):=TK.lst al;refine⟨al,by lia,hP _ _ ⟨hj,(s1.trans s2).put hD,ae,by rw[length_append,O];rfl,λk y e=>?_⟩⟩
    rcases Nat.lt_or_ge k p.length with h | h
    .rw[List.getElem?_append_left h]at e
     obtain⟨f,g1,g2⟩:=hF k y e;exact⟨f,(g1.same s2).tk tk,g2⟩
    .have hk:k=p.length:=by
      have:=(List.getElem?_eq_some_iff.mp e).1;rw[length_append]at this;simp at this;lia
     rw[List.getElem?_append_right h,hk,Nat.sub_self]at e;cases e;rw[hk,O];exact⟨f,hx.tk tk,hR⟩
   rcases hL.same s1 with⟨h2,w',h3,rfl,⟨f,c,b,rfl,o,L,G,M,I⟩⟩ | ⟨st,h2,h3,rfl,⟨f,c,b,rfl,o,L,G,M,I⟩⟩ | ⟨lt,qs,⟨f,c,b,rfl,o,L,G,M,I⟩,hM,rfl,rfl⟩ | ⟨lt,d,qs,ff,B,⟨f,c,b,rfl,o,L,G,M,I⟩,hM,rfl,rfl⟩ | ⟨rfl,⟨f,c,b,rfl,o,L,G,M,I⟩⟩ | ⟨ms,ie,oe,rfl,rfl,sp,ou,bl,⟨f,c,b,rfl,o,L,G,M,I⟩,hg⟩
   .exact⟨⟨rfl,rfl,trivial⟩,.inl ⟨⟨f,_,_,_,rfl,o⟩,λf' d' F c' _ z=>z,f,c,b,_,rfl,o,L,G,M,I,n,w',i,j,rfl,e0,h3,h2,hi,hj,next⟩⟩
   .exact⟨⟨rfl,rfl,trivial⟩,.inr (.inl ⟨⟨f,_,_,_,rfl,o⟩,λf' d' F c' _ z=>z,f,c,b,_,rfl,o,L,G,M,I,st,i,j,rfl,e0,h2,h3,next⟩)⟩
   .exact⟨⟨rfl,rfl,trivial⟩,.inr (.inr (.inl ⟨⟨f,_,_,_,rfl,o⟩,λf' d' F c' _ z=>z,f,c,b,_,rfl,o,L,G,M,I,lt,qs,i,j,rfl,e0,hM,hi,hj,next⟩))⟩
   .exact⟨⟨rfl,rfl,trivial⟩,.inr (.inr (.inr (.inl ⟨⟨f,_,_,_,rfl,o⟩,λf' d' F c' _ z=>z,f,c,b,_,rfl,o,L,G,M,I,lt,d,qs,ff,B,i,j,rfl,e0,hM,hi,hj,next⟩)))⟩
   .exact⟨⟨rfl,rfl,trivial⟩,.inr (.inr (.inr (.inr (.inl ⟨⟨f,_,_,_,rfl,o⟩,λf' d' F c' _ z=>z,f,c,b,_,rfl,o,L,G,M,I,i,j,rfl,e0,next⟩))))⟩
   .exact⟨⟨rfl,rfl,trivial⟩,.inr (.inr (.inr (.inr (.inr ⟨⟨f,_,_,_,rfl,o⟩,λf' d' F c' _ z=>z,f,c,b,_,rfl,o,L,G,M,I,ms,ie,oe,i,j,sp,ou,bl,rfl,e0,hg,hi,hj,next⟩))))⟩
  .rintro p W ⟨_,s1,S,O,hF⟩
   exact q _ D s1 hD ⟨D,p,rfl,S,O,hF⟩
theorem jP(T:Txt K mg a):FnX P w base 7 T.W_o (spMBy K):=by
 have x:FnO P w K mg base 6 (spMRow K):=AB T;refine T.W_o.A.okz pF λab A L s H vs Q E hr h=>?_
 .obtain⟨n,W,v,rfl,hn,X,q⟩:=h
  have G:sizeLine=16777216:=sizeLine_eq;refine⟨_,(ai (aq (aL rfl (N:=["one","many","tell"]) (ix:=[none,some 0,some 1]) ⟨rfl,rfl,rfl,rfl,⟨rfl,rfl,rfl,⟨rfl,rfl,rfl,trivial⟩⟩⟩ (bR rfl T.z_range (aa (vr 0) ac)) ⟨λC s H O=>am (i:=0) (show List.Nodup (["one","many","tell"]:List Str) by decide +kernel) rfl (Or.inl rfl),λC s H O=>aG,λC s H O=>(pec x hr T.W_am (aa (vr 0) (aa (vr 1) (aa (vr 2) ac))))⟩))),?_⟩;refine⟨(n:Int),rfl,by lia,by lia,λD J=>?_⟩
  let Pw2:PvL:=λj d p=>j<=n/\Same H p/\p D=some (.lst d)/\d.length=j/\(∀ q,V.ref q∈d->H q=none)/\∀(k:Nat) y,d[k]? = some y->RowM K (Ex W) (js p D) n k y
  refine ji (lo:=0) (n:=n) Pw2 ⟨Nat.zero_le _,Same.new J,ae,rfl,(λq I=>by cases I),λk y e=>by simp at e⟩ (λj d p h=>h.2.2.1) ?_ ?_
  .rintro j d p P' R ⟨_,u,f,l,g,M⟩ hP
   refine⟨⟨rfl,rfl,trivial⟩,n,j,W,v,?_,R,hn,X.same u,λZ r F m Y=>?_⟩
   .show [V.int (0+(j:Int)),V.int (n:Int),v]=_
    rw[Int.zero_add]
   have B:=F _ _ f;have nr:r≠D:=λz=>by rw[z,f]at m;cases m
   have mo:SQ (js p D) (js (upd Z D (.lst (d++[.ref r]))) D):=λb o c e=>by
    by_cases hb:b=D
    .rw[hb,gS]at e;cases e
    .rw[fm hb]at e ⊢
     rw[ar hb];exact F _ _ e
   refine⟨B,by lia,hP _ _ ⟨R,(u.trans F).put J,ae,by rw[length_append,l];rfl,λq I=>?_,λk y e=>?_⟩⟩
   .rcases mem_append.mp I with z | z
    .exact g q z
    .cases mem_singleton.mp z
     exact u.free m
   .rcases Nat.lt_or_ge k d.length with h | h
    .rw[List.getElem?_append_left h]at e
     exact(M k y e).q mo
    .have S:k=d.length:=by
      have:=(List.getElem?_eq_some_iff.mp e).1;rw[length_append]at this;simp at this;lia
     rw[List.getElem?_append_right h,S,Nat.sub_self]at e;cases e;rw[S,l];refine(Y.cut B nr).q λb o c e=>?_
     by_cases hb:b=D
     .rw[hb,gS]at e;cases e
     .rw[fm hb]at e ⊢
      rw[ar hb];exact e
  .rintro d p ⟨_,u,f,l,g,M⟩
   exact q _ D d u J f g ⟨D,d,rfl,f,l,λk y e=>(M k y e).q AU⟩
end
open Nst (Mb plc szs hd tl bN groups aT parts outer aK a7 aW)
def pN(a:Ad)(K:Frag)(e:EF)(n:Nat)(H:Hp)(Q:VK):Prop:=∀ H' p rows,SameT H H'->TabsOk (tabs a) H'->H p=none->H' p=some (.lst rows)->(∀ q,V.ref q∈rows->H q=none)->Mx K (Ex e) H' n (.ref p)->Q (.ref p) H'
inductive spMat(a:Ad)(K:Frag)(N:Nat)(c:Pl->Bool)(vs:List V)(H:Hp)(Q:VK)(_E:XK):Prop
 | mk(n:Nat)(v:V)(pl:Pl)(l:Addr)(zs:List V)(ms:List Mb)(h0:vs=[v,.ref l])(h1:n<=N)(h2:c pl=true)(h3:ht n pl)(h4:IsPn a H v pl)(h5:H l=some (.lst zs))(h6:CrAt H ms zs)(h7:Ck n ms)(h8:TabsOk (tabs a) H)(h9:pN a K (pe (ent pl ms) ms) ms.length H Q):spMat a K N c vs H Q _E
theorem Dd{k:Nat}{a:List Mb}(h:Ck k a)(m:Nat):∀ q∈fL (szs a) m,OkQ 96 q:=λq b=>by
 obtain⟨B,D,d⟩:=qO h m;have:=D.bq q b;refine⟨this.1,this.2.1,Nat.lt_of_le_of_lt (jO D.B0 this) ?_⟩;have c:=h.sum;have:2 ^ 25<2 ^ 96:=by decide
 lia
theorem kL{n:Nat}{b:List Mb}(h:Ck (n+1) b):∀ m∈b,m.2.2≠[]/\m.2.2.length<=3:=λm a=>⟨λz=>by have:=(h.path m a).1;rw[z]at this;simp at this,(h.path m a).2⟩
theorem xI{n:Nat}{a:List Mb}(h:Ck n a):∀ m∈a,∃ g∈parts a,∃ m'∈g,m'.1=m.1:=λm e=>by
 obtain⟨i,b⟩:=List.getElem?_of_mem e;obtain⟨c,m',j,d,f⟩:=Nm.seat_of h.nd b;exact⟨c,List.mem_of_getElem? j,m',List.mem_of_getElem? d,f⟩
inductive spDM(a:Ad)(K:Frag)(vs:List V)(H:Hp)(Q:VK)(_E:XK):Prop
 | mk(ls lo:Addr)(xs:List V)(qs:List Rat)(ord:List Nat)(B:Nat)(h0:vs=[.ref ls,.ref lo])(h1:H ls=some (.lst xs))(h2:AllF K H (qs.map fr) xs)(h3:H lo=some (.lst (ord.map λ(o:Nat)=>V.int (o:Int))))(h4:qs.length<=24)(h5:ord.length<=24)(h6:(∀ o∈ord,o<qs.length))(h7:0<B)(h8:B<=1000000000)(h9:(∀ q∈qs,Bq B q))(h10:TabsOk (tabs a) H)(h11:pN a K (entQ qs (keptF (unsO qs ord))) qs.length H Q):spDM a K vs H Q _E
inductive spGM(a:Ad)(K:Frag)(N:Nat)(vs:List V)(H:Hp)(Q:VK)(_E:XK):Prop
 | mk(n:Nat)(w:V)(l r:Addr)(ou:V)(zs ys:List V)(ms:List Mb)(pl:Pl)(oe:PF)(h0:vs=[w,.ref l,.ref r,ou])(h1:n<=N)(h2:ht n pl)(h3:IsPn a H w pl)(h4:H l=some (.lst zs))(h5:CrAt H ms zs)(h6:Ck (n+1) ms)(h7:H r=some (.lst ys))(h8:Paired (CrL H) (parts ms) ys)(h9:(∀ i j:Nat,i<(parts ms).length->j<(parts ms).length->OkQ 600 (oe i j)))(h10:Mx K (Ex λi j=>oe i j) H (parts ms).length ou)(h11:TabsOk (tabs a) H)(h12:pN a K (oO (ent pl) oe ms) ms.length H Q):spGM a K N vs H Q _E
theorem nd2(n:Nat):([n+1+1,n+1]:List Nat).Nodup:=by
 simp only[nodup_cons,mem_cons,not_mem_nil,or_false,not_or,not_false_eq_true,nodup_nil,and_true];lia
section
variable {P:Program}{w:World}{K:Frag}{mg:Str->Option Value}{base:Heap}{a:Ad}
theorem oz(T:Txt K mg a)(hB:Bm mg base)(N:Nat):MnX P w mg base 8 T.W_h (spMat a K N ot):=by
 have F:FnO P w K mg base 7 (spMBy K):=jP T;refine T.W_h.A.okL T.lcd_h sc_h (by decide +kernel) (λvs H Q E h=>?_) (λA outer s H vs Q E hr h=>?_)
 .obtain⟨n,v,J,l,b,M,rfl,_⟩:=h;rfl
 .obtain⟨n,v,J,l,b,M,rfl,hn,hk,ho,Y,hl,Z,I,hT,q⟩:=h
  cases J with
  | few m =>
   obtain⟨x,W,rfl,hx⟩:=Y;have zl:=Z.len;have z6:=I.len;refine⟨_,(cA (psr 2 sc_h (ao ax rfl T.z_len aF (aa (vr 1) ac))) (cA (psr 3 sc_h (ao (jQ rfl) rfl T.z_min si (aa (aC (vr 0) rfl) (aa (vr 2) ac)))) (gM sc_h.nd (by decide +kernel) F hr rfl T.W_o.C T.W_o.A.kp T.W_o.B .nil (aa (vr 2) (aa (iN (d:=bH) rfl T.lch_h hB rfl (by with_unfolding_all rfl) rfl (mE a) (.head _) T.tnd mr) ac))))),?_⟩;refine⟨_,.inl (SqL.of hl),?_⟩;refine⟨x,_,W,_,_,rfl,hx,T.cl_Y,T.na_Few_many,rfl,?_⟩;refine⟨_,_,rfl,?_⟩
   have e:(if ((b.length:Int)<(m:Int)) then (b.length:Int) else (m:Int))=((min m b.length:Nat):Int):=by split <;> lia
   rw[e];refine⟨hT,λf c H1 O D ab ef X=>?_⟩;intro H3 y u;have cT:=u 2 _ _ _ rfl rfl (by with_unfolding_all rfl);have S:=u 3 _ _ _ rfl rfl (by with_unfolding_all rfl);have g:=O.trans y.t;refine⟨b.length,eFn b.length (min m b.length),.ref f,rfl,by lia,.inl ⟨by lia,min m b.length,Nat.min_le_right _ _,rfl,⟨f,c,_,rfl,y _ _ ef,y _ _ X,rfl,by simp,.cons S (.cons cT .nil)⟩⟩,λH' r p G B C o L=>?_⟩;exact q _ r p (g.trans G.t) ((D.same y).same G) (g.free B) C (λq R=>g.free (o q R)) (by rw[<- zl]at L;exact L.ex λi j hi hj=>(Cs I.nd m hi hj).symm)
  | _=>cases hk
theorem jW(T:Txt K mg a)(hB:Bm mg base)(N:Nat):MnX P w mg base 8 T.W_c (spMat a K N eK):=by
 have D:FnO P w K mg base 7 (spMBy K):=jP T;refine T.W_c.A.okL T.lcd_c sc_c (by decide +kernel) (λvs H Q E h=>?_) (λA outer s H vs Q E hr h=>?_)
 .obtain⟨n,v,J,l,I,M,rfl,_⟩:=h;rfl
 .obtain⟨n,v,J,l,I,M,rfl,hn,hk,o,Y,hl,Z,G,hT,q⟩:=h
  cases J with
  | start m =>
   obtain⟨x,W,rfl,hx⟩:=Y
   have o:1<=m/\m<=100:=by cases n <;> exact o
   have zl:=Z.len;have z6:=G.len;refine⟨_,(cA (psr 2 sc_c (aC (vr 0) rfl)) (gM sc_c.nd (by decide +kernel) D hr rfl T.W_o.C T.W_o.A.kp T.W_o.B .nil (aa (ao ax rfl T.z_len aF (aa (vr 1) ac)) (aa (iN (d:=bv) rfl T.lch_c hB rfl (by with_unfolding_all rfl) rfl (kq a) (.head _) T.tnd kx) ac)))),?_⟩;refine⟨x,_,W,_,_,rfl,hx,T.cl_A,T.na_Start_step,rfl,?_⟩;refine⟨_,.inl (SqL.of hl),?_⟩;refine⟨hT,λf c H1 O C ab ef X=>?_⟩;intro H3 p B;have S:=B 2 _ _ _ rfl rfl (by with_unfolding_all rfl);have b:=O.trans p.t;refine⟨I.length,eSn m,.ref f,rfl,by lia,.inr (.inl ⟨m,o.1,o.2,rfl,⟨f,c,_,rfl,p _ _ ef,p _ _ X,rfl,by simp,.cons S .nil⟩⟩),λH' r g F u y e L=>?_⟩;exact q _ r g (b.trans F.t) ((C.same p).same F) (b.free u) y (λq R=>b.free (e q R)) (by rw[<- zl]at L;exact L.ex λi j hi hj=>(xg G.nd m hi hj).symm)
  | _=>cases hk
theorem jy(T:Txt K mg a)(hB:Bm mg base)(N:Nat):MnX P w mg base 8 T.W_d (spMat a K N eM):=by
 have R:FnO P w K mg base 7 (spMBy K):=jP T;have I:FnO P w K mg base 7 (spWBy K):=(r9 T).mono (by decide);refine T.W_d.A.okL T.lcd_d sc_d (by decide +kernel) (λvs H Q E h=>?_) (λA outer s H vs Q E hr h=>?_)
 .obtain⟨n,v,Z,l,X,g,rfl,_⟩:=h;rfl
 .obtain⟨n,v,Z,l,X,g,rfl,hn,hk,ho,hp,hl,hc,o,hT,q⟩:=h
  cases Z with
  | loose m =>
   obtain⟨x,dx,rfl,hx⟩:=hp
   have ho:m<=24:=by cases n <;> exact ho
   have z6:=o.len;obtain⟨B,D,hb⟩:=qO o m;have F:=Dd o m;have ql:=sR g m;refine⟨_,(cA (psr 2 sc_d (pec I hr T.W_U (aa (vr 1) (aa (aC (vr 0) rfl) ac)))) (gM sc_d.nd (by decide +kernel) R hr rfl T.W_o.C T.W_o.A.kp T.W_o.B .nil (aa (ao ax rfl T.z_len aF (aa (vr 2) ac)) (aa (iN (d:=bt) rfl T.lch_d hB rfl (by with_unfolding_all rfl) rfl (ku a) (.head _) T.tnd kA) ac)))),?_⟩;refine⟨x,_,dx,_,_,rfl,hx,T.cl_B,T.na_Loose_many,rfl,?_⟩;refine⟨l,X,g,(m:Nat),rfl,hl,hc,sG o,by lia,by lia,λH2 w' C W ab Y O=>?_⟩;rw[<- D.eq]at O;have yl:C.length=(fL (szs g) m).length:=by rw[<- O.len,length_map]
   refine⟨_,.inl (SqL.of Y),?_⟩;refine⟨hT.same W,λf c H1 t1 M ad ef ec=>?_⟩;intro H3 y L;have cS:=L 2 _ _ _ rfl rfl (by with_unfolding_all rfl);have b:=t1.trans y.t;have e:=W.t.trans b;refine⟨C.length,eLn (fL (szs g) m),.ref f,rfl,by lia,.inr (.inr (.inl ⟨w',_,⟨f,c,_,rfl,y _ _ ef,y _ _ ec,rfl,by simp,.cons cS .nil⟩,⟨⟨C,b.at Y,O.tk (SameT.tk b)⟩,F⟩,yl.symm,rfl⟩)),λH' r u S G J p hM=>?_⟩;exact q _ r u (e.trans S.t) ((M.same y).same S) (e.free G) J (λq F=>e.free (p q F)) (by rw[yl,ql]at hM;exact hM.ex λi j hi hj=>(wN o.nd m hi hj).symm)
  | _=>cases hk
theorem Dy(T:Txt K mg a)(hB:Bm mg base):FnX P w base 8 T.W_m (spDM a K):=by
 have a3:FnO P w K mg base 7 (spMBy K):=jP T;have bl:FnO P w K mg base 7 (spKept K):=(zZ T).mono (by decide);have X:FnO P w K mg base 7 (spUns K):=(Cm T).mono (by decide);refine T.W_m.A.okL T.lcd_m sc_m (by decide +kernel) (λvs H Q E h=>?_) (λA outer s H vs Q E hr h=>?_)
 .obtain⟨ls,lo,xs,e,b,B,rfl,_⟩:=h;rfl
 .obtain⟨ls,lo,xs,e,b,B,rfl,bm,hF,a0,br,bD,F,B0,B1,hq,hT,q⟩:=h
  have bo:sizeLine=16777216:=sizeLine_eq;refine⟨_,(cA (psr 2 sc_m (bS pi rfl T.z_list i6 (aa (vr 0) ac))) (cA (psr 3 sc_m (pec bl hr T.W_r (aa (aL rfl (N:=["place","told"]) (ix:=[none,some 2]) ⟨rfl,rfl,rfl,rfl,⟨rfl,rfl,rfl,trivial⟩⟩ (aN (vr 1)) ⟨λC s H fp=>am (i:=0) (show List.Nodup (["place","told"]:List Str) by decide +kernel) rfl (Or.inl rfl),λC s H fp=>kH (bT (pec X hr T.W_ap (aa (ak (bG (K:=K) rfl) (vr 1) (vr 0) (λ_ _=>rfl)) ac))),λC s H fp=>(aJ (aa (vr 0) (aa (ak (bG (K:=K) rfl) (vr 1) (vr 0) (λ_ _=>rfl)) ac)))⟩) ac))) (gM sc_m.nd (by decide +kernel) a3 hr rfl T.W_o.C T.W_o.A.kp T.W_o.B .nil (aa (ao ax rfl T.z_len aF (aa (vr 2) ac)) (aa (iN (d:=bA) rfl T.lch_m hB rfl (by with_unfolding_all rfl) rfl (lO a) (.head _) T.tnd mj) ac))))),?_⟩;refine⟨ls,xs,rfl,.inl (SqL.of bm),λO a2=>?_⟩;have Y:=Same.new (o:=.lst xs) a2;have j:=ae (H:=H) (a:=O) (o:=.lst xs);generalize upd H O (.lst xs)=H1 at Y j;have ad:=hF.same Y;have ap:xs.length=e.length:=by rw[<- hF.len,length_map]
  have G:=Y _ _ a0;refine .inl ⟨⟨_,SqL.of G⟩,λD hD=>?_⟩
  let Pw1:PvL:=λi v u=>i<=b.length/\Same H1 u/\u D=some (.lst v)/\v.length<=i/\Paired (PQ K u) (unsO e (b.take i)) v
  refine aD (K:=K) (a:=lo) (xs:=b.map λ(o:Nat)=>V.int (o:Int)) Pw1 ⟨Nat.zero_le _,Same.new hD,ae,Nat.zero_le _,.nil⟩ (λi v u h=>SqL.of (h.2.1 _ _ G)) (λi v u h=>h.2.2.1) ?_ ?_
  .rintro i y v u P' hy ⟨hi,L,m,Z,g⟩ R
   rw[List.getElem?_map]at hy;cases hoi:b[i]? with
   | none=>rw[hoi]at hy;cases hy
   | some o =>
    rw[hoi]at hy;cases hy;have as:i<b.length:=(List.getElem?_eq_some_iff.mp hoi).1;have ho:=F o (List.mem_of_getElem? hoi);obtain⟨M,W,qo⟩:=yB (ad.same L) ho
    have e1:unsO e (b.take (i+1))=unsO e (b.take i)++(if dz (e.getD o 0) then [(o,e.getD o 0)] else []):=by
     unfold unsO w9;rw[take_add_one,hoi,map_append,filter_append]
     congr 1
     show List.filter _ [(o,e.getD o 0)]=_
     by_cases c:dz (e.getD o 0)=true
     .rw[if_pos c,filter_cons_of_pos (p:=λz:Nat×Rat=>dz z.2) (a:=(o,e.getD o 0)) c];rfl
     .rw[if_neg c,filter_cons_of_neg (p:=λz:Nat×Rat=>dz z.2) (a:=(o,e.getD o 0)) c];rfl
    refine⟨⟨rfl,trivial⟩,.inl ⟨O,_,_,M,rfl,rfl,SqL.of (L _ _ j),aQ W,M,_,rfl,qo,?_⟩⟩;rw[Cn];refine ifB (λc=>?_) (λc=>?_)
    .refine .inl ⟨O,_,_,M,rfl,rfl,SqL.of (L _ _ j),aQ W,?_⟩
     refine⟨bF _ _,λnp J=>?_⟩;have s3:=Same.new (o:=.tup [.int (o:Nat),M]) J;have an:=s3 _ _ m;have ne:np≠D:=λz=>by rw[z,m]at J;cases J
     have aS:TK u (upd (upd u np (.tup [.int (o:Nat),M])) D (.lst (v++[.ref np]))):=s3.tk.trans (TK.lst an);refine⟨an,by lia,R _ _ ⟨as,(L.trans s3).put hD,ae,by rw[length_append];show v.length+1<=i+1;lia,?_⟩⟩;rw[e1,if_pos c];exact bC ⟨np,M,rfl,by rw[ar ne];exact ae,qo.tk aS⟩ (az (λz x (h:PQ K u z x)=>h.tk aS) g)
    .refine R _ _ ⟨as,L,m,by lia,?_⟩
     rw[e1,if_neg (by rw[c];decide),append_nil];exact g
  .rintro v u ⟨_,L,m,Z,g⟩
   rw[length_map]at Z g;rw[take_length]at g;have b0:(unsO e b).length<=24:=by rw[Paired.length g];lia
   have bn:∀ z∈unsO e b,Bq B z.2/\Uns z.2:=λz hz=>by
    obtain⟨z1,z2⟩:=mem_filter.mp hz;obtain⟨o,ho,rfl⟩:=mem_map.mp z1;have:=F o ho;exact⟨hq _ (by show e.getD o 0∈e;rw[List.getD,List.getElem?_eq_getElem this];exact getElem_mem this),unsQ_iff.mp z2⟩
   refine⟨D,v,unsO e b,B,rfl,m,g,by lia,B0,B1,bn,λH3 d bd s3 fd hd bq=>?_⟩;have l:=L.trans s3;refine⟨_,.inl (SqL.of (l _ _ j)),?_⟩;have a':=hT.same (Y.trans l);refine⟨a',λf c H4 t4 bp b1 ef ec=>?_⟩;intro H5 s5 hc;have cT:=hc 2 _ _ _ rfl rfl (by with_unfolding_all rfl);have cW:=hc 3 _ _ _ rfl rfl (by with_unfolding_all rfl);have ab:=t4.trans s5.t
   have M3:DMx K H3 O d e (keptF (unsO e b)) B:=⟨⟨xs,l _ _ j,ad.same l⟩,⟨bd,hd,bq⟩,by lia,B0,B1,hq⟩
   have I:=(Y.trans l).t.trans ab;refine⟨xs.length,entQ e (keptF (unsO e b)),.ref f,rfl,by lia,.inr (.inr (.inr (.inl ⟨O,d,e,_,B,⟨f,c,_,rfl,s5 _ _ ef,s5 _ _ ec,rfl,nd2 _,.cons cT (.cons cW .nil)⟩,M3.st ab,ap.symm,rfl⟩))),λH6 r S s6 a4 a1 al hM=>?_⟩;exact q _ r S (I.trans s6.t) ((bp.same s5).same s6) (I.free a4) a1 (λq hq=>I.free (al q hq)) (by rw[<- ap];exact hM)
theorem l8(T:Txt K mg a)(hB:Bm mg base)(N:Nat):MnX P w mg base 9 T.W_z (spMat a K N jg):=by
 have C:FnO P w K mg base 8 (spWBy K):=(r9 T).mono (by decide);have I:FnO P w K mg base 8 (spDM a K):=Dy T hB;refine T.W_z.A.okz lS λab A J s H vs Q E u h=>?_
 .obtain⟨n,v,pl,l,d,f,rfl,hn,hk,g,F,W,O,e,hT,q⟩:=h
  cases pl with
  | duel m =>
   obtain⟨x,dx,rfl,hx⟩:=F
   have g:m<=24:=by cases n <;> exact g
   have z6:=e.len;have zl:=O.len;have y:sizeLine=16777216:=sizeLine_eq;obtain⟨B,D,L⟩:=qO e m;have Y:B<=1000000000:=by have:=e.sum;lia
   have S:=sR f m;refine⟨_,(ai (aq (pec I u T.W_m (aa (pec C u T.W_U (aa (vr 1) (aa (aC (vr 0) rfl) ac))) (aa (bS (jc rfl) rfl T.z_list i6 (aa (bS mO rfl T.z_range rC (aa (ao ax rfl T.z_len aF (aa (vr 1) ac)) ac)) ac)) ac))))),?_⟩;refine⟨x,_,dx,_,_,rfl,hx,T.cl_K,T.na_Duel_many,rfl,?_⟩;refine⟨l,d,f,(m:Nat),rfl,W,O,sG e,by lia,by lia,λH2 w' X M Z hw R=>?_⟩;rw[<- D.eq]at R;refine⟨_,.inl (SqL.of (M _ _ W)),⟨_,rfl,λp F=>⟨p,d.length,rfl,by lia,ae,λlf hlf=>?_⟩⟩⟩;have G:=(Same.new (o:=.rng 0 (d.length:Int)) F).trans (Same.new (o:=.lst ((List.range d.length).map λ(o:Nat)=>V.int (o:Int))) hlf);have c:=M.trans G;refine⟨w',lf,X,fL (szs f) m,List.range d.length,B,rfl,G _ _ hw,R.same G,ae,by lia,by rw[length_range];lia,λo g=>by have:=mem_range.mp g;lia,D.B0,Y,D.bq,hT.same c,λH4 r rows t4 hT4 fr u hnew hM=>?_⟩;exact q _ r rows (c.t.trans t4) hT4 (c.free fr) u (λb L=>c.free (hnew b L)) (by rw[show d.length=(fL (szs f) m).length by lia]at hM;rw[S]at hM;refine hM.ex λi j hi hj=>?_;rw[zr e.nd m hi hj];unfold eDn;rw[S])
  | _=>cases hk
abbrev md(N:Nat):Nat:=9+2*N
theorem D6(T:Txt K mg a)(hB:Bm mg base)(N:Nat)(hN:N<=2)(b5:MnX P w mg base (md N) T.W_e (spMat a K N ck))(b2:MnX P w mg base (md N) T.W_n (spMat a K N bM)):FnX P w base (md N+1) T.W_f (spGM a K N):=by
 have bm:FnO P w K mg base (md N) (spMat a K N ot):=(oz T hB N).mono (by show 8<=9+2*N;lia);have a3:FnO P w K mg base (md N) (spMat a K N eK):=(jW T hB N).mono (by show 8<=9+2*N;lia);have bd:FnO P w K mg base (md N) (spMat a K N eM):=(jy T hB N).mono (by show 8<=9+2*N;lia);have b3:FnO P w K mg base (md N) (spMat a K N jg):=(l8 T hB N).mono (by show 9<=9+2*N;lia);have aS:FnO P w K mg base (md N) spSpots:=(wD T).mono (by show _<=9+2*N;lia);have a0:FnO P w K mg base (md N) (spMBy K):=(jP T).mono (by show _<=9+2*N;lia);refine T.W_f.A.okL T.lcd_f sc_f (by decide +kernel) (λvs H Q E h=>?_) (λA outer s H vs Q E hr h=>?_)
 .obtain⟨n,w',l,r,ou,zs,W,x,J,oe,rfl,_⟩:=h;rfl
 .obtain⟨n,w',l,r,ou,zs,W,x,J,oe,rfl,hn,ho,bp,hl,hm,hC,O,hg,a',br,hT,q⟩:=h
  have pk:=bJ hC;have L:=pk.each;have g5:=pk.len.2;have b8:=hC.len;have zl:=hm.len;have a1:zs.length<=24:=by rw[<- zl];exact hC.len
  have bo:∀ c∈parts x,∀ i j,i<c.length->j<c.length->OkQ 600 (pe (ent J c) c i j):=λc I i j hi hj=>ld ho (by lia) (L c I) (bw hi) (bw hj)
  have ap:∀ c∈parts x,∀ i,i<c.length->OkQ 96 (pe (ent J c) c i i):=λc I i hi=>vp ho (by lia) (L c I) (bw hi)
  have b1:sizeLine=16777216:=sizeLine_eq;refine⟨_,(cA (psr 4 sc_f (aL rfl (N:=["members","plan"]) (ix:=[none,some 0]) ⟨rfl,rfl,rfl,rfl,⟨rfl,rfl,rfl,trivial⟩⟩ (aN (vr 2)) ⟨λC s H fp=>am (i:=0) (show List.Nodup (["members","plan"]:List Str) by decide +kernel) rfl (Or.inl rfl),λC s H fp=>aG,λC s H fp=>(PE.or (au (vr 1) T.cl_Y T.mt_h bm hr T.W_h.B .nil aA (aa (vr 0) ac)) (PE.or (au (vr 1) T.cl_A T.mt_c a3 hr T.W_c.B .nil aA (aa (vr 0) ac)) (PE.or (au (vr 1) T.cl_B T.mt_d bd hr T.W_d.B .nil aA (aa (vr 0) ac)) (PE.or (au (vr 1) T.cl_K T.mt_z b3 hr T.W_z.B .nil aA (aa (vr 0) ac)) (PE.or (au (vr 1) T.cl_C T.mt_e b5 hr T.W_e.B .nil aA (aa (vr 0) ac)) (au (vr 1) T.cl_j T.mt_n b2 hr T.W_n.B .nil aA (aa (vr 0) ac)))))))⟩)) (cA (psr 5 sc_f (pec aS hr T.W_W (aa (vr 1) (aa (vr 2) ac)))) (gM sc_f.nd (by decide +kernel) a0 hr rfl T.W_o.C T.W_o.A.kp T.W_o.B .nil (aa (ao ax rfl T.z_len aF (aa (vr 1) ac)) (aa (iN (d:=bf) rfl T.lch_f hB rfl (by with_unfolding_all rfl) rfl (jU a) (.head _) T.tnd jA) ac))))),?_⟩;refine .inl ⟨⟨_,SqL.of O⟩,λD hD=>?_⟩;have ext:∀{u:Hp},TabsOk (tabs a) u->∀{W:List V}{ab:List V},u D=some (.lst W)->TabsOk (tabs a) (upd u D (.lst ab)):=λbq W ab e=>bq.put (λps z=>by rw[e]at z;cases z) λφ z=>by rw[e]at z;cases z
  let Pw2:PvL:=λi p u=>SameT H u/\TabsOk (tabs a) u/\u D=some (.lst p)/\i<=(parts x).length/\Paired (λ(g:List Mb) v=>Mx K (Ex (pe (ent J g) g)) (js u D) g.length v) ((parts x).take i) p
  refine aD (K:=K) (a:=r) (xs:=W) Pw2
   ⟨(Same.new hD).t,hT.same (Same.new hD),ae,Nat.zero_le _,.nil⟩ (λi p u h=>SqL.of (h.1.at O)) (λi p u h=>h.2.2.1) ?_ ?_
  .rintro i y p u P' hy ⟨G,S,F,hi,I⟩ an
   obtain⟨g,Y,lg,yg,rfl,bD,as⟩:=aM hg hy;have b4:i<(parts x).length:=(List.getElem?_eq_some_iff.mp Y).1;have gk:=L g (List.mem_of_getElem? Y);have bl:p.length<=24:=by rw[<- Paired.length I,length_take];lia
   have al:pN a K (pe (ent J g) g) g.length u (λv Z=>Z D=some (.lst p)/\p.length<sizeLine/\P' (p++[v]) (upd Z D (.lst (p++[v])))):=λZ r2 rows t2 hT2 hr0 hr2 hnew hM=>by
    have X:=t2.at F;have nr:r2≠D:=λz=>by rw[z,F]at hr0;cases hr0
    have nn:∀ q,V.ref q∈rows->q≠D:=λq hq z=>by have:=hnew q hq;rw[z,F]at this;cases this
    have mo:∀{Ha:Hp},SQ Ha Z->SQ (js Ha D) (js (upd Z D (.lst (p++[.ref r2]))) D):=λs b o c e=>by
     by_cases hb:b=D
     .rw[hb,gS]at e;cases e
     .rw[fm hb]at e ⊢
      rw[ar hb];exact s b o c e
    refine⟨X,by lia,an _ _ ⟨(G.trans t2).put hD,ext hT2 X,ae,b4,fU (az (λg v h=>h.q (mo (SQ.of t2))) I) Y ?_⟩⟩;exact(hM.cut X λl' a2 e e'=>by cases e;rw[hr2]at e';cases e';exact⟨nr,nn⟩).q (mo λb o _ e=>e)
   refine⟨⟨rfl,trivial⟩,?_⟩;have ad:=bp.n (dR G)
   exact fq "matrix" (λ_=>rfl) (λ_=>rfl) (λ_=>rfl) (λ_ _=>rfl) (λP=>P (.ref lg) u) ad λc E hc'=>⟨n,w',J,lg,yg,g,rfl,hn,hc',ho,ad,G.at bD,as.tk (SameT.tk G),gk,S,al⟩
  rintro p H1 ⟨G,S,F,_,I⟩;rw[show W.length=(parts x).length from(Paired.length hg).symm,take_length]at I;have bn:Paired (λ(g:List Mb) v=>Mx K (Ex (pe (ent J g) g)) H1 g.length v) (parts x) p:=az (λg v h=>h.q AU) I;refine⟨l,r,x,parts x,zs,W,rfl,G.at hl,hm.tk (SameT.tk G),G.at O,az (CrL.n (dR G)) hg,hC.len,by lia,λg b0=>(L g b0).len,xI hC,λZ ts zz s2 hts hsp=>?_⟩;have t2:=G.trans s2.t;refine⟨_,.inl (SqL.of (t2.at hl)),?_⟩;refine⟨S.same s2,λf c H3 t3 a4 b6 ef ec=>?_⟩;intro H4 s4 R;have cO:=R 3 _ _ _ rfl rfl (by with_unfolding_all rfl);have cB:=R 4 _ _ _ rfl rfl (by with_unfolding_all rfl);have cS:=R 5 _ _ _ rfl rfl (by with_unfolding_all rfl);have B:=t3.trans s4.t;have M:=t2.trans B;refine⟨zs.length,oO (ent J) oe x,.ref f,rfl,a1,.inr (.inr (.inr (.inr (.inr ⟨x,ent J,oe,rfl,zl,_,_,_,⟨f,c,_,rfl,s4 _ _ ef,s4 _ _ ec,rfl,by simp;lia,.cons cS (.cons cO (.cons cB .nil))⟩,hC.nd,a',bo,ap,ts,D,zz,p,rfl,rfl,B.at hts,az (λm z h=>h.tk (SameT.tk B)) hsp,br.q (SQ.of M),B.at (s2 _ _ F),az (λg v h=>h.q (SQ.of (s2.t.trans B))) bn⟩)))),λu r3 rows s5 hr0 hr1 hnew hM=>?_⟩;exact q _ r3 rows (M.trans s5.t) ((a4.same s4).same s5) (M.free hr0) hr1 (λq hq=>M.free (hnew q hq)) (by rw[zl];exact hM)
theorem zN(T:Txt K mg a)(hB:Bm mg base)(N:Nat)(C:FnX P w base (md N+1) T.W_f (spGM a K N)):MnX P w mg base (md (N+1)) T.W_e (spMat a K (N+1) ck):=by
 have g:FnO P w K mg base (md N+1) spParted:=(gR T).mono (by show _<=9+2*N+1;lia);have I:FnO P w K mg base (md N+1) (spMBy K):=(jP T).mono (by show _<=9+2*N+1;lia);rw[show md (N+1)=md N+1+1 by show 9+2*(N+1)=9+2*N+1+1;lia];refine T.W_e.A.okL T.lcd_e db (by decide +kernel) (λvs H Q E h=>?_) (λA outer s H vs Q E hr h=>?_)
 .obtain⟨n,v,L,l,y,j,rfl,_⟩:=h;rfl
 .obtain⟨n,v,L,l,y,j,rfl,hn,hk,M,D,S,F,m,hT,q⟩:=h
  cases L with
  | each p =>
    cases n with
    | zero=>exact M.elim
    | succ n =>
   obtain⟨x,X,w',rfl,hx,D⟩:=D;have u:sizeLine=16777216:=sizeLine_eq;have Z:=bJ m;have ab:=F.len;have m6:=m.len;have ad:=Z.len.2;refine⟨_,(cA (psl 2 db (pec g hr T.W_ag (aa (vr 1) ac))) (cA (psl 3 db (pec I hr T.W_o (aa (ao ax rfl T.z_len aF (aa (vr 2) ac)) (aa (iN (d:=bz) rfl T.lch_e hB rfl (by with_unfolding_all rfl) rfl (lX a) (.head _) T.tnd lH) ac)))) (BH (pec C hr T.W_f (aa (aC (vr 0) rfl) (aa (vr 1) (aa (vr 2) (aa (vr 3) ac)))))))),?_⟩;refine⟨l,j,y,rfl,S,F,by lia,kL m,λH1 r o J i W=>?_⟩;have B:(parts j).length=o.length:=Paired.length W;refine⟨_,.inl (SqL.of i),?_⟩;refine⟨hT.same J,λf c H2 t2 G al ef Y=>?_⟩;refine⟨o.length,_,.ref f,rfl,by lia,.inr (.inr (.inr (.inr (.inl ⟨rfl,f,c,[],rfl,ef,Y,rfl,by simp,.nil⟩)))),λH3 ro O R _ _ _ hM=>?_⟩;have e:=t2.trans R.t;have b:=J.t.trans e;refine⟨x,_,X,_,_,rfl,b.at hx,T.cl_C,T.na_Each_inside,rfl,?_⟩;exact⟨n,w',l,r,.ref ro,y,o,j,p,λ_ _=>1,rfl,by lia,M,D.n (dR b),b.at S,F.tk (SameT.tk b),m,e.at i,az (CrL.n (dR e)) W,λ_ _ _ _=>okQ_one.up (by decide),by rw[B];exact hM,G.same R,λH4 r4 rows4 t4 hT4 hr0 hr4 hnew hM4=>λH5 s5 _=>q H5 r4 rows4 (b.trans (t4.trans s5.t)) (hT4.same s5) (b.free hr0) (s5 _ _ hr4) (λq hq=>b.free (hnew q hq)) (hM4.q (SQ.of s5.t))⟩
  | _=>cases hk
theorem Av(T:Txt K mg a)(R:Bm mg base)(N:Nat)(y:MnX P w mg base (md N) T.W_e (spMat a K N ck))(g:MnX P w mg base (md N) T.W_n (spMat a K N bM))(ad:FnX P w base (md N+1) T.W_f (spGM a K N)):MnX P w mg base (md (N+1)) T.W_n (spMat a K (N+1) bM):=by
 have B:∀{k},k<=9->k<=md N+1:=λ{k} h=>by show k<=9+2*N+1;lia
 have y:=y.mono (Nat.le_succ (md N));have g:=g.mono (Nat.le_succ (md N));have al:FnO P w K mg base (md N+1) (spMat a K N ot):=(oz T R N).mono (B (by decide));have X:FnO P w K mg base (md N+1) (spMat a K N eK):=(jW T R N).mono (B (by decide));have ab:FnO P w K mg base (md N+1) (spMat a K N eM):=(jy T R N).mono (B (by decide));have an:FnO P w K mg base (md N+1) (spMat a K N jg):=(l8 T R N).mono (B (by decide));have F:FnO P w K mg base (md N+1) spParted:=(gR T).mono (B (by decide));have e:FnO P w K mg base (md N+1) spOuter:=(qd T).mono (B (by decide));rw[show md (N+1)=md N+1+1 by show 9+2*(N+1)=9+2*N+1+1;lia];refine T.W_n.A.ok fw (λvs H Q E h=>?_) (λcdv A outer s H vs Q E hr h=>?_)
 .obtain⟨n,v,pl,l,Y,f,rfl,_⟩:=h;rfl
 .obtain⟨n,v,pl,l,Y,f,rfl,hn,hk,M,hp,hl,hm,D,hT,q⟩:=h
  cases pl with
  | first p r =>
    cases n with
    | zero=>exact M.elim
    | succ n =>
   obtain⟨x,o,u,z,rfl,hx,hu,hz⟩:=hp;have pk:=bJ D;have ok:=f8 D;have as:=hm.len;have m6:=D.len;have a1:=pk.len.2;refine⟨_,(ag (psl 2 fw (pec F hr T.W_ag (aa (vr 1) ac))) (ai (aq (pec ad hr T.W_f (aa (aC (vr 0) rfl) (aa (vr 1) (aa (vr 2) (aa (PE.or (au (aC (vr 0) rfl) T.cl_Y T.mt_h al hr T.W_h.B .nil aA (aa (pec e hr T.W_b (aa (vr 2) ac)) ac)) (PE.or (au (aC (vr 0) rfl) T.cl_A T.mt_c X hr T.W_c.B .nil aA (aa (pec e hr T.W_b (aa (vr 2) ac)) ac)) (PE.or (au (aC (vr 0) rfl) T.cl_B T.mt_d ab hr T.W_d.B .nil aA (aa (pec e hr T.W_b (aa (vr 2) ac)) ac)) (PE.or (au (aC (vr 0) rfl) T.cl_K T.mt_z an hr T.W_z.B .nil aA (aa (pec e hr T.W_b (aa (vr 2) ac)) ac)) (PE.or (au (aC (vr 0) rfl) T.cl_C T.mt_e y hr T.W_e.B .nil aA (aa (pec e hr T.W_b (aa (vr 2) ac)) ac)) (au (aC (vr 0) rfl) T.cl_j T.mt_n g hr T.W_n.B .nil aA (aa (pec e hr T.W_b (aa (vr 2) ac)) ac))))))) ac)))))))),bU ?_⟩;intro a0;refine⟨l,f,Y,rfl,hl,hm,by lia,kL D,λH1 O W J G hP=>?_⟩;have aS:(parts f).length=W.length:=Paired.length hP;have b:=J _ _ hx;refine⟨x,_,o,_,_,rfl,b,T.cl_j,T.na_First_inside,rfl,?_⟩;have C:=hu.n (dR J.t);refine Or.imp (λh=>⟨x,_,o,_,_,rfl,b,T.cl_j,T.na_First_outside,rfl,h⟩) (Or.imp (λh=>⟨x,_,o,_,_,rfl,b,T.cl_j,T.na_First_outside,rfl,h⟩) (Or.imp (λh=>⟨x,_,o,_,_,rfl,b,T.cl_j,T.na_First_outside,rfl,h⟩) (Or.imp (λh=>⟨x,_,o,_,_,rfl,b,T.cl_j,T.na_First_outside,rfl,h⟩) (Or.imp (λh=>⟨x,_,o,_,_,rfl,b,T.cl_j,T.na_First_outside,rfl,h⟩) (λh=>⟨x,_,o,_,_,rfl,b,T.cl_j,T.na_First_outside,rfl,h⟩))))) ?_;refine fq (S:=spMat a K N) "matrix" (λ_=>rfl) (λ_=>rfl) (λ_=>rfl) (λ_ _=>rfl) (λP=>spOuter [.ref O] H1 P λ_ _ _=>False) C λc E hc=>?_
   refine⟨.ref O,parts f,rfl,⟨O,W,rfl,G,hP⟩,by lia,λc hc=>(pk.each c hc).len,λH2 l2 xs2 s2 _ h2 hC2=>?_⟩;refine⟨0,u,p,l2,xs2,Nst.outer (parts f),rfl,Nat.zero_le _,hc,jn M.1,C.n (dR s2.t),h2,hC2,ok,hT.same (J.trans s2),λH3 ro ap t3 Z _ _ _ hM=>?_⟩;have m:=s2.t.trans t3;have d:=J.t.trans m;rw[aK]at hM;exact⟨n,z,l,O,.ref ro,Y,W,f,r,ent p (Nst.outer (parts f)),rfl,by lia,M.2,hz.n (dR d),d.at hl,hm.tk (SameT.tk d),D,m.at G,az (CrL.n (dR m)) hP,λi j I L=>by rw[<- iZ I,<- iZ L];exact ld (jn M.1) (Nat.zero_le _) ok (bw (by rw[aK];exact I)) (bw (by rw[aK];exact L)),hM.ex λi j I L=>by unfold pe;rw[iZ I,iZ L],Z,λH4 r4 rows4 t4 hT4 hr0 hr4 hnew hM4=>q H4 r4 rows4 (d.trans t4) hT4 (d.free hr0) hr4 (λq hq=>d.free (hnew q hq)) hM4⟩
  | _=>cases hk
theorem pj(T:Txt K mg a)(c:Bm mg base):∀ N,N<=3->MnX P w mg base (md N) T.W_e (spMat a K N ck)/\MnX P w mg base (md N) T.W_n (spMat a K N bM)
 | 0,_=>by
  have f:∀{vs:List V}{H:Hp}{Q:VK}{E:XK},¬spMat a K 0 ck vs H Q E:=λh=>by obtain⟨n,_,pl,_,_,_,_,hn,hk,ho,_⟩:=h;obtain rfl:n=0:=Nat.le_zero.mp hn;cases pl <;> first | exact ho | cases hk
  have b:∀{vs:List V}{H:Hp}{Q:VK}{E:XK},¬spMat a K 0 bM vs H Q E:=λh=>by obtain⟨n,_,pl,_,_,_,_,hn,hk,ho,_⟩:=h;obtain rfl:n=0:=Nat.le_zero.mp hn;cases pl <;> first | exact ho | cases hk
  exact⟨⟨λ_ _ _ _ h=>(f h).elim,λ_ _ _ _ _ _ _ _ _ _ _ _ _ h=>(f h).elim⟩,⟨λ_ _ _ _ h=>(b h).elim,λ_ _ _ _ _ _ _ _ _ _ _ _ _ h=>(b h).elim⟩⟩
 | N+1,h=>by
  obtain⟨e,d⟩:=pj T c N (by lia);have G:=D6 T c N (by lia) e d;exact⟨zN T c N G,Av T c N e d G⟩
end
end My
namespace L2
open PySem PySem.Spec PyProof.Rows
section
variable {X:Cx}{x:Str}{p kp pos:Pos}{e ek:Expr}{te tk:TE}
def yu(X:Cx)(te:TE):TE:=λσ H Q=>te σ H λv H1=>∃(l:Addr) (ns:List Int),v=.ref l/\SqL X.K H1 l (ns.map V.int)/\ns.length<64/\∀ q (ns':List Int),ns'.Perm ns->ns'.Pairwise (· >= ·)->H1 q=none->Q (.ref q) (upd H1 q (.lst (ns'.map V.int)))
theorem tJ(J:Gl X x)(T:X.mg x=none)(W:bootBuiltins x=some (.builtin "sorted"))(K:PE X e te)(hk:PE X ek (λ_ H Q=>Q (.bl true) H))
  (r:x ≠ "__name__" := by decide) (w:(x == ("__debug__" : Str))=false:=by decide) (Z:starEach [e] X.env=(false,eval e X.env)::starEach [] X.env:=by rfl) :
  PE X (.Call (.Name x p) [e] [⟨some "reverse",ek,kp⟩] pos) (yu X te):=by
 intro c s A H Q I h;refine wpAny_Call_Name_kw (jp I J T W ?_ r w);have i:backTo pos (starEach [e] X.env)=(false,eval e X.env)::backTo pos (starEach [] X.env):=by rw[Z];rfl
 refine callWith_kw ?_ i (by rw[i];rfl);rw[i];refine Calls.spliced_cons (thn (K c s A H _ I h) λu G ⟨v,D,R,r1,O⟩=>?_);refine Calls.spliced_nil (kws_cons (thn (hk c G A D (λS j=>S=.bl true/\j=D) R ⟨rfl,rfl⟩) λuf s2 ⟨vf,j,I2,rf,ef,eH⟩=>?_));subst ef;subst eH;obtain rfl:uf=Value.bool true:=rf;obtain⟨l,Y,rfl,M,hl,q⟩:=O;obtain rfl:u=Value.ref l:=r1;refine kws_nil ?_;obtain⟨f,y,P,hz⟩:=I2.list M;have E:=jk y;have B:f.length=Y.length:=by have:=y.length;rw[length_map]at this;exact this.symm
 refine sorted_ints_rev (b:=true) P.isList E (by lia) λg d L C F=>?_
 obtain⟨e,N⟩:=sortedAll_at s2.heap f g;have r:j (s2.heap.objs.size+1)=none:=I2.hok.fresh (Nat.le_succ _);have m:sizeLine=16777216:=sizeLine_eq;refine⟨.ref (s2.heap.objs.size+1),_,I2.laid (a:=s2.heap.objs.size+1) (o:=.lst (d.map V.int)) (t':=s2.toks) (λb u z=>sortedAll_old z) (Nat.le_succ _) ⟨?_,g.toList,e,eO L,?_⟩,rfl,q _ d C F r⟩
 .rw[length_map,C.length_eq];lia
 .rw[N,Array.toArray_toList]
end
end L2
namespace My
open PySem L2 FrM Du Nd
open Tb (so pv)
open Nst (Mb plc szs hd tl bN groups aT parts outer aK a7 aW)
def BdAt(H:Hp)(b:Int×Int)(z:V):Prop:=∃ q,z=.ref q/\H q=some (.tup [.int b.1,.int b.2])
theorem BdAt.tk{H a:Hp}(k:TK H a)(b:Int×Int)(z:V)(h:BdAt H b z):BdAt a b z:=let ⟨q,h1,h2⟩:=h;⟨q,h1,k _ _ h2⟩
theorem zO{p:Pl}{k:Nat}{a:List Mb}(b:mt p)(h:Ck k a):0<=(lim p a).1/\0<=(lim p a).2:=by
 obtain⟨d,c,e⟩:=qQ b h;rw[e];exact⟨Int.natCast_nonneg _,Int.natCast_nonneg _⟩
theorem xY{a l:List Int}(h:a.Perm l)(s:a.Pairwise (· >= ·)):a=(so l).reverse:=by
 have:=pv ((List.reverse_perm a).trans h) (List.pairwise_reverse.mpr s);rw[<- this,List.reverse_reverse]
section
variable {P:Program}{w:World}{K:Frag}{mg:Str->Option Value}{base:Heap}{a:Ad}
theorem qk(T:Txt K mg a)(N:Nat)(a0:MnX P w mg base (N+6) T.W_l (spBo a N ck))(a3:MnX P w mg base (N+6) T.W_g (spBo a N bM)):MnX P w mg base (N+1+6) T.W_l (spBo a (N+1) ck):=by
 have ab:FnO P w K mg base (N+6) spParted:=(gR T).mono (by lia);have bn:FnO P w K mg base (N+6) (spBo a N ot):=(lV T N).mono (by lia);have aS:FnO P w K mg base (N+6) (spBo a N jg):=(jE T N).mono (by lia);have a1:FnO P w K mg base (N+6) (spBo a N eK):=(iE T N).mono (by lia);have ap:FnO P w K mg base (N+6) (spBo a N eM):=(iK T N).mono (by lia);refine T.W_l.A.okz sc_l λbr A bd s H vs Q E Z h=>?_
 .obtain⟨n,v,pl,l,xs,m,rfl,hn,hk,ho,hp,hl,hC,hc,q⟩:=h
  have bm:sizeLine=16777216:=sizeLine_eq
  obtain⟨n,p,rfl,rfl,hh⟩:∃ n' p,n=n'+1/\pl=.each p/\ht n' p:=by
   cases pl with
   | each p=>cases n with
    | zero=>exact ho.elim
    | succ n=>exact⟨n,p,rfl,rfl,ho⟩
   | _=>cases hk
  obtain⟨x,dx,u,rfl,hx,hu⟩:=hp;have pk:=bJ hc;have bq:=pk.len.2;have a':=pk.each;have bD:=hc.len;refine⟨_,(ag (gI rfl (i:=2) sc_l.nd rfl rfl (by with_unfolding_all rfl) (N:=["members","self"]) (ix:=[none,some 0]) ⟨rfl,rfl,rfl,rfl,⟨rfl,rfl,rfl,trivial⟩⟩ (aN (pec ab Z T.W_ag (aa (vr 1) ac))) ⟨λC s H O=>am (i:=0) (show List.Nodup (["members","self"]:List Str) by decide +kernel) rfl (Or.inl rfl),λC s H O=>aG,λC s H O=>(PE.or (au (bZ (K:=K) rfl (vr 1) rfl) T.cl_Y T.mt_x bn Z T.W_x.B .nil aA (aa (vr 0) ac)) (PE.or (au (bZ (K:=K) rfl (vr 1) rfl) T.cl_A T.mt_p a1 Z T.W_p.B .nil aA (aa (vr 0) ac)) (PE.or (au (bZ (K:=K) rfl (vr 1) rfl) T.cl_B T.mt_q ap Z T.W_q.B .nil aA (aa (vr 0) ac)) (PE.or (au (bZ (K:=K) rfl (vr 1) rfl) T.cl_K T.mt_t aS Z T.W_t.B .nil aA (aa (vr 0) ac)) (PE.or (au (bZ (K:=K) rfl (vr 1) rfl) T.cl_C T.mt_l a0 Z T.W_l.B .nil aA (aa (vr 0) ac)) (au (bZ (K:=K) rfl (vr 1) rfl) T.cl_j T.mt_g a3 Z T.W_g.B .nil aA (aa (vr 0) ac)))))))⟩) (ai (aq (aJ (aa (ao (cx rfl) rfl T.z_sum dY (aa (aL rfl (N:=["least","most"]) (ix:=[none,none]) ⟨rfl,rfl,rfl,rfl,trivial⟩ (aN (vr 2)) ⟨λC s H O=>(cb (K:=K) (n:=2) rfl rfl (aw (am (i:=0) (show List.Nodup (["least","most"]:List Str) by decide +kernel) rfl (Or.inl rfl)) (aw (am (i:=1) (show List.Nodup (["least","most"]:List Str) by decide +kernel) rfl (Or.inl rfl)) aZ))),λC s H O=>aG,λC s H O=>(vr 0)⟩) ac)) (aa (ao (cx rfl) rfl T.z_sum dY (aa (aL rfl (N:=["least","most"]) (ix:=[none,none]) ⟨rfl,rfl,rfl,rfl,trivial⟩ (aN (vr 2)) ⟨λC s H O=>(cb (K:=K) (n:=2) rfl rfl (aw (am (i:=0) (show List.Nodup (["least","most"]:List Str) by decide +kernel) rfl (Or.inl rfl)) (aw (am (i:=1) (show List.Nodup (["least","most"]:List Str) by decide +kernel) rfl (Or.inl rfl)) aZ))),λC s H O=>aG,λC s H O=>(vr 1)⟩) ac)) ac)))))),bU ?_⟩;intro bp;refine⟨l,m,xs,rfl,hl,hC,by rw[<- hC.len];exact hc.len,kL hc,λH1 r f s1 ad al=>?_⟩;have gl:(parts m).length=f.length:=Paired.length al;refine .inl ⟨⟨_,SqL.of ad⟩,λD hD=>?_⟩
  let Pw1:PvL:=λi L R=>Same H1 R/\R D=some (.lst L)/\i<=(parts m).length/\Paired (BdAt R) (((parts m).take i).map (lim p)) L
  refine aD (K:=K) (a:=r) (xs:=f) Pw1 ⟨Same.new hD,ae,Nat.zero_le _,.nil⟩ (λi f R h=>SqL.of (h.1 _ _ ad)) (λi f R h=>h.2.1) ?_ ?_
  .rintro i y L R P' hy ⟨s2,bo,hi,M⟩ B
   obtain⟨c,W,lc,yc,rfl,a2,as⟩:=aM al hy;have I:i<(parts m).length:=(List.getElem?_eq_some_iff.mp W).1;have g:=s1.trans s2;have zl:L.length=i:=by rw[<- M.length,length_map,length_take];lia
   refine⟨⟨rfl,trivial⟩,?_⟩;refine Or.imp (λh=>⟨x,_,dx,_,_,rfl,g _ _ hx,T.cl_C,T.na_Each_inside,rfl,h⟩) (Or.imp (λh=>⟨x,_,dx,_,_,rfl,g _ _ hx,T.cl_C,T.na_Each_inside,rfl,h⟩) (Or.imp (λh=>⟨x,_,dx,_,_,rfl,g _ _ hx,T.cl_C,T.na_Each_inside,rfl,h⟩) (Or.imp (λh=>⟨x,_,dx,_,_,rfl,g _ _ hx,T.cl_C,T.na_Each_inside,rfl,h⟩) (Or.imp (λh=>⟨x,_,dx,_,_,rfl,g _ _ hx,T.cl_C,T.na_Each_inside,rfl,h⟩) λh=>⟨x,_,dx,_,_,rfl,g _ _ hx,T.cl_C,T.na_Each_inside,rfl,h⟩)))) ?_;have an:=hu.n (dR g.t)
   refine fq (S:=spBo a N) "bounds" (λ_=>rfl) (λ_=>rfl) (λ_=>rfl) (λ_ _=>rfl) (λP=>P (.ref lc) R) an λk E hk=>⟨n,u,p,lc,yc,c,rfl,by lia,hk,hh,an,s2 _ _ a2,as.tk s2.tk,a' c (List.mem_of_getElem? W),λH3 p3 s34 h4=>?_⟩
   have d:=s34 _ _ bo;have tk:TK H3 (upd H3 D (.lst (L++[.ref p3]))):=TK.lst d;refine⟨d,by lia,B _ _ ⟨(s2.trans s34).put hD,ae,I,?_⟩⟩;rw[take_add_one,W,map_append];exact bC ⟨p3,rfl,tk _ _ h4⟩ (az (BdAt.tk (s34.tk.trans tk)) M)
  .rintro L H2 ⟨s2,j,_,M⟩
   rw[<- gl,take_length]at M;have bl:((parts m).map (lim p)).length=(parts m).length:=length_map _;have e1:(((parts m).map (lim p)).map (·.1)).sum=(lim (.each p) m).1:=by rw[map_map];rfl
   have e2:(((parts m).map (lim p)).map (·.2)).sum=(lim (.each p) m).2:=by rw[map_map];rfl
   generalize (parts m).map (lim p)=bs at M bl e1 e2;have sz:Same H2 H2:=λb o e=>e
   refine .inl ⟨⟨_,SqL.of j⟩,λD2 J=>?_⟩
   let Pw2:PvL:=λi f G=>Same H2 G/\G D2=some (.lst f)/\i<=bs.length/\f=((bs.take i).map (·.1)).map V.int
   refine aD (K:=K) (a:=D) (xs:=L) Pw2 ⟨Same.new J,ae,Nat.zero_le _,rfl⟩ (λi f G h=>SqL.of (h.1 _ _ j)) (λi f G h=>h.2.1) ?_ ?_
   .rintro i y f G P' hy ⟨s9,Y,hi,rfl⟩ B
    obtain⟨b9,F,q9,rfl,X⟩:=aM M hy;have I:i<bs.length:=(List.getElem?_eq_some_iff.mp F).1;refine⟨q9,_,rfl,SqT.of (s9 _ _ (sz _ _ X)),rfl,_,_,rfl,_,_,rfl,rfl,trivial,Y,by rw[length_map,length_map,length_take];lia,B _ _ ⟨s9.put J,ae,I,?_⟩⟩;rw[take_add_one,F];simp
   .rintro y2 H3 ⟨s3,J,_,rfl⟩
    rw[show L.length=bs.length from M.length.symm,take_length]at J;refine⟨D2,_,rfl,SqL.of J,?_⟩;have j:=s3 _ _ j;have sz:=s3;refine .inl ⟨⟨_,SqL.of j⟩,λD3 d=>?_⟩
    let Pw3:PvL:=λi f G=>Same H3 G/\G D3=some (.lst f)/\i<=bs.length/\f=((bs.take i).map (·.2)).map V.int
    refine aD (K:=K) (a:=D) (xs:=L) Pw3 ⟨Same.new d,ae,Nat.zero_le _,rfl⟩ (λi f G h=>SqL.of (h.1 _ _ j)) (λi f G h=>h.2.1) ?_ ?_
    .rintro i y f G P' hy ⟨s9,Y,hi,rfl⟩ B
     obtain⟨b9,F,q9,rfl,X⟩:=aM M hy;have I:i<bs.length:=(List.getElem?_eq_some_iff.mp F).1;refine⟨q9,_,rfl,SqT.of (s9 _ _ (sz _ _ X)),rfl,_,_,rfl,_,_,rfl,rfl,trivial,Y,by rw[length_map,length_map,length_take];lia,B _ _ ⟨s9.put d,ae,I,?_⟩⟩;rw[take_add_one,F];simp
    .rintro y3 H4 ⟨s4,d,_,rfl⟩
     rw[show L.length=bs.length from M.length.symm,take_length]at d;refine⟨D3,_,rfl,SqL.of d,?_⟩;refine⟨bF _ _,λp5 a4=>?_⟩;exact q _ p5 (s1.trans (s2.trans (s3.trans (s4.trans (Same.new a4))))) (by rw[ae,e1,e2])
theorem pJ(xs:List V)(k:Nat):ce xs none (some (k:Int))=xs.take k:=by
 unfold ce;rw[HT.sIx_nat,HT.sIx_none,drop_zero,Nat.sub_zero]
 by_cases h:k<=xs.length
 .rw[Nat.min_eq_left h]
 .rw[Nat.min_eq_right (by lia),take_of_length_le (Nat.le_refl _),take_of_length_le (by lia)]
theorem o4(T:Txt K mg a)(N:Nat)(a4:MnX P w mg base (N+6) T.W_l (spBo a N ck))(bm:MnX P w mg base (N+6) T.W_g (spBo a N bM)):MnX P w mg base (N+1+6) T.W_g (spBo a (N+1) bM):=by
 have a1:FnO P w K mg base (N+6) spParted:=(gR T).mono (by lia);have G:FnO P w K mg base (N+6) spOuter:=(qd T).mono (by lia);have bp:FnO P w K mg base (N+6) (spBo a N ot):=(lV T N).mono (by lia);have a3:FnO P w K mg base (N+6) (spBo a N jg):=(jE T N).mono (by lia);have a':FnO P w K mg base (N+6) (spBo a N eK):=(iE T N).mono (by lia);have a0:FnO P w K mg base (N+6) (spBo a N eM):=(iK T N).mono (by lia);refine T.W_g.A.okz sc_g λcO A b5 s H vs Q E f h=>?_
 .obtain⟨n,v,pl,l,xs,d,rfl,hn,hk,ho,hp,hl,hC,hc,q⟩:=h
  have b6:sizeLine=16777216:=sizeLine_eq
  obtain⟨n,p,r,rfl,rfl,hf,hh⟩:∃ n' p r,n=n'+1/\pl=.first p r/\mt p/\ht n' r:=by
   cases pl with
   | first p r=>cases n with
    | zero=>exact ho.elim
    | succ n=>exact⟨n,p,r,rfl,rfl,ho⟩
   | _=>cases hk
  obtain⟨x,I,u,z,rfl,J,hu,ch⟩:=hp;have pk:=bJ hc;have cC:=pk.len.2;have b4:=pk.each;have cS:=hc.len;have lp:=zO hf (f8 hc)
  refine⟨_,(ag (psl 2 sc_g (pec a1 f T.W_ag (aa (vr 1) ac))) (ag (o8 (PE.or (au (aC (vr 0) rfl) T.cl_Y T.mt_x bp f T.W_x.B .nil aA (aa (pec G f T.W_b (aa (vr 2) ac)) ac)) (PE.or (au (aC (vr 0) rfl) T.cl_A T.mt_p a' f T.W_p.B .nil aA (aa (pec G f T.W_b (aa (vr 2) ac)) ac)) (PE.or (au (aC (vr 0) rfl) T.cl_B T.mt_q a0 f T.W_q.B .nil aA (aa (pec G f T.W_b (aa (vr 2) ac)) ac)) (PE.or (au (aC (vr 0) rfl) T.cl_K T.mt_t a3 f T.W_t.B .nil aA (aa (pec G f T.W_b (aa (vr 2) ac)) ac)) (PE.or (au (aC (vr 0) rfl) T.cl_C T.mt_l a4 f T.W_l.B .nil aA (aa (pec G f T.W_b (aa (vr 2) ac)) ac)) (au (aC (vr 0) rfl) T.cl_j T.mt_g bm f T.W_g.B .nil aA (aa (pec G f T.W_b (aa (vr 2) ac)) ac))))))) (dS rfl (aw (am (i:=3) sc_g.nd rfl (Or.inl rfl)) (aw (am (i:=4) sc_g.nd rfl (Or.inl rfl)) aZ)))) (ag (gI rfl (i:=5) sc_g.nd rfl rfl (by with_unfolding_all rfl) (N:=["members","self"]) (ix:=[none,some 0]) ⟨rfl,rfl,rfl,rfl,⟨rfl,rfl,rfl,trivial⟩⟩ (aN (vr 2)) ⟨λC s H fp=>am (i:=0) (show List.Nodup (["members","self"]:List Str) by decide +kernel) rfl (Or.inl rfl),λC s H fp=>aG,λC s H fp=>(PE.or (au (bZ (K:=K) rfl (vr 1) rfl) T.cl_Y T.mt_x bp f T.W_x.B .nil aA (aa (vr 0) ac)) (PE.or (au (bZ (K:=K) rfl (vr 1) rfl) T.cl_A T.mt_p a' f T.W_p.B .nil aA (aa (vr 0) ac)) (PE.or (au (bZ (K:=K) rfl (vr 1) rfl) T.cl_B T.mt_q a0 f T.W_q.B .nil aA (aa (vr 0) ac)) (PE.or (au (bZ (K:=K) rfl (vr 1) rfl) T.cl_K T.mt_t a3 f T.W_t.B .nil aA (aa (vr 0) ac)) (PE.or (au (bZ (K:=K) rfl (vr 1) rfl) T.cl_C T.mt_l a4 f T.W_l.B .nil aA (aa (vr 0) ac)) (au (bZ (K:=K) rfl (vr 1) rfl) T.cl_j T.mt_g bm f T.W_g.B .nil aA (aa (vr 0) ac)))))))⟩) (ag (psl 6 sc_g (ao o6 rfl T.z_sorted mP (aa (aL rfl (N:=["low","high"]) (ix:=[none,none]) ⟨rfl,rfl,rfl,rfl,trivial⟩ (aN (vr 5)) ⟨λC s H fp=>(cb (K:=K) (n:=2) rfl rfl (aw (am (i:=0) (show List.Nodup (["low","high"]:List Str) by decide +kernel) rfl (Or.inl rfl)) (aw (am (i:=1) (show List.Nodup (["low","high"]:List Str) by decide +kernel) rfl (Or.inl rfl)) aZ))),λC s H fp=>aG,λC s H fp=>(vr 0)⟩) ac))) (ag (psl 7 sc_g (tJ rfl T.z_sorted mP (aL rfl (N:=["low","high"]) (ix:=[none,none]) ⟨rfl,rfl,rfl,rfl,trivial⟩ (aN (vr 5)) ⟨λC s H fp=>(cb (K:=K) (n:=2) rfl rfl (aw (am (i:=0) (show List.Nodup (["low","high"]:List Str) by decide +kernel) rfl (Or.inl rfl)) (aw (am (i:=1) (show List.Nodup (["low","high"]:List Str) by decide +kernel) rfl (Or.inl rfl)) aZ))),λC s H fp=>aG,λC s H fp=>(vr 1)⟩) fz)) (ai (aq (aJ (aa (ao (cx rfl) rfl T.z_sum dY (aa (d9 jF (vr 6) jh (eZ (vr 3))) ac)) (aa (ao (cx rfl) rfl T.z_sum dY (aa (d9 jF (vr 7) jh (eZ (vr 4))) ac)) ac)))))))))),wM ?_⟩
  intro cs ct cu cR cB;refine⟨l,d,xs,rfl,hl,hC,by rw[<- hC.len];exact hc.len,kL hc,λH1 rg g s1 a2 al=>?_⟩;have gl:(parts d).length=g.length:=Paired.length al;refine Or.imp (λh=>⟨x,_,I,_,_,rfl,s1 _ _ J,T.cl_j,T.na_First_outside,rfl,h⟩) (Or.imp (λh=>⟨x,_,I,_,_,rfl,s1 _ _ J,T.cl_j,T.na_First_outside,rfl,h⟩) (Or.imp (λh=>⟨x,_,I,_,_,rfl,s1 _ _ J,T.cl_j,T.na_First_outside,rfl,h⟩) (Or.imp (λh=>⟨x,_,I,_,_,rfl,s1 _ _ J,T.cl_j,T.na_First_outside,rfl,h⟩) (Or.imp (λh=>⟨x,_,I,_,_,rfl,s1 _ _ J,T.cl_j,T.na_First_outside,rfl,h⟩) λh=>⟨x,_,I,_,_,rfl,s1 _ _ J,T.cl_j,T.na_First_outside,rfl,h⟩)))) ?_;have as:=hu.n (dR s1.t)
  refine fq (S:=spBo a N) "bounds" (λ_=>rfl) (λ_=>rfl) (λ_=>rfl) (λ_ _=>rfl) (λP=>spOuter [.ref rg] H1 P λ_ _ _=>False) as λk E hk=>⟨.ref rg,parts d,rfl,⟨rg,g,rfl,a2,al⟩,by lia,λc hc'=>(pk.each c hc').len,λH2 l2 xs2 s2 _ h2 hC2=>⟨0,u,p,l2,xs2,Nst.outer (parts d),rfl,Nat.zero_le _,hk,jn hf,as.n (dR s2.t),h2,hC2,f8 hc,λH3 p3 s3 h3=>?_⟩⟩
  have ea:(lim p (Nst.outer (parts d))).1.toNat=(lim p (Nst.outer (parts d))).1:=Int.toNat_of_nonneg lp.1;have eb:(lim p (Nst.outer (parts d))).2.toNat=(lim p (Nst.outer (parts d))).2:=Int.toNat_of_nonneg lp.2;rw[<- ea,<- eb]at h3;have ef:lim (.first p r) d=(((so ((parts d).map λc=>(lim r c).1)).take (lim p (Nst.outer (parts d))).1.toNat).sum,((so ((parts d).map λc=>(lim r c).2)).reverse.take (lim p (Nst.outer (parts d))).2.toNat).sum):=rfl;generalize (lim p (Nst.outer (parts d))).1.toNat=fe at h3 ef;generalize (lim p (Nst.outer (parts d))).2.toNat=mo at h3 ef;refine⟨p3,_,rfl,SqT.of h3,rfl,_,_,rfl,_,_,rfl,rfl,?_⟩;have ab:=s2.trans s3;have bd:=s1.trans ab;have bq:=ab _ _ a2;refine .inl ⟨⟨_,SqL.of bq⟩,λD hD=>?_⟩
  let Pw4:PvL:=λi W H'=>Same H3 H'/\H' D=some (.lst W)/\i<=(parts d).length/\Paired (BdAt H') (((parts d).take i).map (lim r)) W
  refine aD (K:=K) (a:=rg) (xs:=g) Pw4 ⟨Same.new hD,ae,Nat.zero_le _,.nil⟩ (λi g H' h=>SqL.of (h.1 _ _ bq)) (λi g H' h=>h.2.1) ?_ ?_
  .rintro i y W H' P' hy ⟨s4,b8,hi,Y⟩ L
   obtain⟨c,ad,lc,yc,rfl,b0,bD⟩:=aM al hy;have O:i<(parts d).length:=(List.getElem?_eq_some_iff.mp ad).1;have m:=bd.trans s4;have br:=ab.trans s4;have zl:W.length=i:=by rw[<- Y.length,length_map,length_take];lia
   refine⟨⟨rfl,trivial⟩,?_⟩;refine Or.imp (λh=>⟨x,_,I,_,_,rfl,m _ _ J,T.cl_j,T.na_First_inside,rfl,h⟩) (Or.imp (λh=>⟨x,_,I,_,_,rfl,m _ _ J,T.cl_j,T.na_First_inside,rfl,h⟩) (Or.imp (λh=>⟨x,_,I,_,_,rfl,m _ _ J,T.cl_j,T.na_First_inside,rfl,h⟩) (Or.imp (λh=>⟨x,_,I,_,_,rfl,m _ _ J,T.cl_j,T.na_First_inside,rfl,h⟩) (Or.imp (λh=>⟨x,_,I,_,_,rfl,m _ _ J,T.cl_j,T.na_First_inside,rfl,h⟩) λh=>⟨x,_,I,_,_,rfl,m _ _ J,T.cl_j,T.na_First_inside,rfl,h⟩)))) ?_;have bn:=ch.n (dR m.t)
   refine fq (S:=spBo a N) "bounds" (λ_=>rfl) (λ_=>rfl) (λ_=>rfl) (λ_ _=>rfl) (λP=>P (.ref lc) H') bn λk E hk=>⟨n,z,r,lc,yc,c,rfl,by lia,hk,hh,bn,br _ _ b0,bD.tk br.tk,b4 c (List.mem_of_getElem? ad),λH6 p6 s56 h6=>?_⟩
   have j:=s56 _ _ b8;have tk:TK H6 (upd H6 D (.lst (W++[.ref p6]))):=TK.lst j;refine⟨j,by lia,L _ _ ⟨(s4.trans s56).put hD,ae,O,?_⟩⟩;rw[take_add_one,ad,map_append];exact bC ⟨p6,rfl,tk _ _ h6⟩ (az (BdAt.tk (s56.tk.trans tk)) Y)
  .rintro W H4 ⟨s4,F,_,Y⟩
   rw[<- gl,take_length]at Y;have bl:((parts d).map (lim r)).length=(parts d).length:=length_map _;have e1:((parts d).map λc=>(lim r c).1)=((parts d).map (lim r)).map (·.1):=by rw[map_map];rfl
   have e2:((parts d).map λc=>(lim r c).2)=((parts d).map (lim r)).map (·.2):=by rw[map_map];rfl
   rw[e1,e2]at ef;clear e1 e2;generalize (parts d).map (lim r)=bs at Y bl ef;have sz:Same H4 H4:=λb o e=>e
   refine .inl ⟨⟨_,SqL.of F⟩,λD2 R=>?_⟩
   let Pw5:PvL:=λi g B=>Same H4 B/\B D2=some (.lst g)/\i<=bs.length/\g=((bs.take i).map (·.1)).map V.int
   refine aD (K:=K) (a:=D) (xs:=W) Pw5 ⟨Same.new R,ae,Nat.zero_le _,rfl⟩ (λi g B h=>SqL.of (h.1 _ _ F)) (λi g B h=>h.2.1) ?_ ?_
   .rintro i y g B P' hy ⟨X,ap,hi,rfl⟩ L
    obtain⟨b9,M,q9,rfl,an⟩:=aM Y hy;have O:i<bs.length:=(List.getElem?_eq_some_iff.mp M).1;refine⟨q9,_,rfl,SqT.of (X _ _ (sz _ _ an)),rfl,_,_,rfl,_,_,rfl,rfl,trivial,ap,by rw[length_map,length_map,length_take];lia,L _ _ ⟨X.put R,ae,O,?_⟩⟩;rw[take_add_one,M];simp
   .rintro y2 H5 ⟨s5,R,_,rfl⟩
    rw[show W.length=bs.length from Y.length.symm,take_length]at R;refine⟨D2,_,rfl,SqL.of R,by rw[length_map];lia,λq1 ls b' b1 f1=>?_⟩;have s6:=Same.new (o:=.lst (ls.map V.int)) f1;have h6:(upd H5 q1 (.lst (ls.map V.int))) q1=some (.lst (ls.map V.int)):=ae;generalize upd H5 q1 (.lst (ls.map V.int))=H6 at s6 h6;have F:=s6 _ _ (s5 _ _ F);have sz:=s5.trans s6;refine .inl ⟨⟨_,SqL.of F⟩,λD3 j=>?_⟩
    let Pw6:PvL:=λi g B=>Same H6 B/\B D3=some (.lst g)/\i<=bs.length/\g=((bs.take i).map (·.2)).map V.int
    refine aD (K:=K) (a:=D) (xs:=W) Pw6 ⟨Same.new j,ae,Nat.zero_le _,rfl⟩ (λi g B h=>SqL.of (h.1 _ _ F)) (λi g B h=>h.2.1) ?_ ?_
    .rintro i y g B P' hy ⟨X,ap,hi,rfl⟩ L
     obtain⟨b9,M,q9,rfl,an⟩:=aM Y hy;have O:i<bs.length:=(List.getElem?_eq_some_iff.mp M).1;refine⟨q9,_,rfl,SqT.of (X _ _ (sz _ _ an)),rfl,_,_,rfl,_,_,rfl,rfl,trivial,ap,by rw[length_map,length_map,length_take];lia,L _ _ ⟨X.put j,ae,O,?_⟩⟩;rw[take_add_one,M];simp
    .rintro y3 H7 ⟨s7,j,_,rfl⟩
     rw[show W.length=bs.length from Y.length.symm,take_length]at j;refine⟨D3,_,rfl,SqL.of j,by rw[length_map];lia,λq2 hs ca b2 f2=>?_⟩;have s8:=Same.new (o:=.lst (hs.map V.int)) f2;have h8:(upd H7 q2 (.lst (hs.map V.int))) q2=some (.lst (hs.map V.int)):=ae;generalize upd H7 q2 (.lst (hs.map V.int))=H8 at s8 h8;refine⟨_,rfl,.inl ⟨_,SqL.of (s8 _ _ (s7 _ _ h6)),λl9 f9=>?_⟩⟩;rw[pJ,<- map_take];have X:=Same.new (o:=.lst ((ls.take fe).map V.int)) f9;have h9:(upd H8 l9 (.lst ((ls.take fe).map V.int))) l9=some (.lst ((ls.take fe).map V.int)):=ae;generalize upd H8 l9 (.lst ((ls.take fe).map V.int))=B at X h9;refine⟨l9,_,rfl,SqL.of h9,?_⟩;refine⟨_,rfl,.inl ⟨_,SqL.of (X _ _ h8),λZ co=>?_⟩⟩;rw[pJ,<- map_take];have bo:=Same.new (o:=.lst ((hs.take mo).map V.int)) co;have aS:(upd B Z (.lst ((hs.take mo).map V.int))) Z=some (.lst ((hs.take mo).map V.int)):=ae;generalize upd B Z (.lst ((hs.take mo).map V.int))=H10 at bo aS;refine⟨Z,_,rfl,SqL.of aS,?_⟩;refine⟨bF _ _,λp5 b3=>?_⟩;refine q _ p5 (bd.trans (s4.trans (s5.trans (s6.trans (s7.trans (s8.trans (X.trans (bo.trans (Same.new b3))))))))) ?_;rw[ef,<- pv b' b1,<- xY ca b2];exact ae
theorem iC(T:Txt K mg a):∀ N,MnX P w mg base (N+6) T.W_l (spBo a N ck)/\MnX P w mg base (N+6) T.W_g (spBo a N bM)
 | 0=>by
  have d:∀{vs:List V}{H:Hp}{Q:VK}{E:XK},¬spBo a 0 ck vs H Q E:=λh=>by obtain⟨n,_,pl,_,_,_,_,hn,hk,ho,_⟩:=h;obtain rfl:n=0:=Nat.le_zero.mp hn;cases pl <;> first | exact ho | cases hk
  have b:∀{vs:List V}{H:Hp}{Q:VK}{E:XK},¬spBo a 0 bM vs H Q E:=λh=>by obtain⟨n,_,pl,_,_,_,_,hn,hk,ho,_⟩:=h;obtain rfl:n=0:=Nat.le_zero.mp hn;cases pl <;> first | exact ho | cases hk
  exact⟨⟨λ_ _ _ _ h=>(d h).elim,λ_ _ _ _ _ _ _ _ _ _ _ _ _ h=>(d h).elim⟩,⟨λ_ _ _ _ h=>(b h).elim,λ_ _ _ _ _ _ _ _ _ _ _ _ _ h=>(b h).elim⟩⟩
 | N+1=>by
  obtain⟨c,e⟩:=iC T N;exact⟨qk T N c e,o4 T N c e⟩
end
open Nst (Mb plc szs hd tl bN groups aT parts outer aK a7 aW)
inductive spMade(vs:List V)(H:Hp)(Q:VK)(_E:XK):Prop
 | mk(t S:Str)(m:Int)(h0:vs=[.str t,.str S,.int m])(h1:t.length<=sizeLine)(h2:∀ H',Same H H'->Q (.bl (kd t S m)) H'):spMade vs H Q _E
inductive spIsW(vs:List V)(H:Hp)(Q:VK)(_E:XK):Prop
 | mk(i lo hi:Int)(h0:vs=[.int i,.int lo,.int hi])(h1:Q (.bl (decide (lo<=i/\i<=hi))) H):spIsW vs H Q _E
inductive spNeedN(vs:List V)(H:Hp)(Q:VK)(_E:XK):Prop
 | mk(i lo hi:Int)(h0:vs=[.int i,.int lo,.int hi])(h1:lo<=i)(h2:i<=hi)(h3:Q .non H):spNeedN vs H Q _E
inductive spName(vs:List V)(H:Hp)(Q:VK)(_E:XK):Prop
 | mk(t:Str)(h0:vs=[.str t])(h1:fH t=true)(h2:∀ H',Same H H'->Q (.bl true) H'):spName vs H Q _E
inductive spHll(vs:List V)(H:Hp)(Q:VK)(_E:XK):Prop
 | mk(l:Addr)(xs:List V)(h0:vs=[.ref l])(h1:H l=some (.lst xs))(h2:1<=xs.length)(h3:xs.length<=24)(h4:Q (.bl true) H):spHll vs H Q _E
inductive spPath(vs:List V)(H:Hp)(Q:VK)(_E:XK):Prop
 | mk(p:Addr)(ts:List Str)(h0:vs=[.ref p])(h1:H p=some (.tup (ts.map V.str)))(h2:ts.length<=3)(h3:(∀ t∈ts,fH t=true))(h4:∀ H',Same H H'->Q (.bl true) H'):spPath vs H Q _E
inductive spUnit(vs:List V)(H:Hp)(Q:VK)(_E:XK):Prop
 | mk(x:V)(u:U)(h0:vs=[x])(h1:IsU H u x)(h2:GoodU u)(h3:∀ H',Same H H'->Q (.bl true) H'):spUnit vs H Q _E
def xE(ts:List Str):List U->Bool
 | []=>true
 | u::_=>decide (ts.length=u.path.length)
inductive spPlen(vs:List V)(H:Hp)(Q:VK)(_E:XK):Prop
 | mk(p l:Addr)(ts:List Str)(us:List U)(xs:List V)(h0:vs=[.ref p,.ref l])(h1:H p=some (.tup (ts.map V.str)))(h2:H l=some (.lst xs))(h3:AllU H us xs)(h4:Q (.bl (xE ts us)) H):spPlen vs H Q _E
inductive spNew(vs:List V)(H:Hp)(Q:VK)(_E:XK):Prop
 | mk(n:Str)(l:Addr)(us:List U)(xs:List V)(h0:vs=[.str n,.ref l])(h1:H l=some (.lst xs))(h2:AllU H us xs)(h3:xs.length<=sizeLine)(h4:∀ H',Same H H'->Q (.bl (!decide (n∈us.map U.name))) H'):spNew vs H Q _E
inductive spNeed(vs:List V)(H:Hp)(Q:VK)(_E:XK):Prop
 | mk(l:Addr)(us:List U)(xs:List V)(h0:vs=[.ref l])(h1:H l=some (.lst xs))(h2:AllU H us xs)(h3:GoodL us)(h4:∀ H',Same H H'->Q .non H'):spNeed vs H Q _E
inductive spValues(vs:List V)(H:Hp)(Q:VK)(_E:XK):Prop
 | mk(l:Addr)(us:List U)(xs:List V)(h0:vs=[.ref l])(h1:H l=some (.lst xs))(h2:AllU H us xs)(h3:GoodL us)(h4:∀ H' r,Same H H'->H r=none->H' r=some (.lst (us.map λu=>V.int u.value))->Q (.ref r) H'):spValues vs H Q _E
abbrev crU(us:List U):List Mb:=us.mapIdx λi u=>((i:Int),u.size,u.path)
theorem gz(us:List U):(crU us).length=us.length:=List.length_mapIdx
theorem sI{us:List U}{i:Nat}{u:U}(h:us[i]? = some u):(crU us)[i]? = some ((i:Int),u.size,u.path):=by simp[crU,List.getElem?_mapIdx,h]
theorem Cb{us:List U}{i:Nat}(h:i<us.length):(plc (crU us)).getD i 0=(i:Int):=jN (sI (List.getElem?_eq_getElem h))
theorem Dp(us:List U):(plc (crU us)).Nodup:=by
 rw[nodup_iff_pairwise_ne,List.pairwise_iff_getElem];intro i j c f b;have d:(plc (crU us)).length=us.length:=by rw[(dm _).1,gz]
 have e:∀ k (a:k<(plc (crU us)).length),(plc (crU us))[k]=(k:Int):=λk a=>by
  have:=Cb (us:=us) (i:=k) (by lia);rw[List.getD_eq_getElem?_getD,List.getElem?_eq_getElem a]at this;exact this
 rw[e,e];lia
inductive spCrowd(vs:List V)(H:Hp)(Q:VK)(_E:XK):Prop
 | mk(l:Addr)(us:List U)(xs:List V)(h0:vs=[.ref l])(h1:H l=some (.lst xs))(h2:AllU H us xs)(h3:GoodL us)(h4:∀ H' r cs,Same H H'->H' r=some (.lst cs)->CrAt H' (crU us) cs->Q (.ref r) H'):spCrowd vs H Q _E
def iQ:Pl->Bool | .each _=>false | .first _ _=>false | _=>true
inductive spNGN(vs:List V)(H:Hp)(Q:VK)(_E:XK):Prop
 | mk(n:Nat)(h0:vs=[.int (n:Nat)])(h1:n≠0)(h2:Q .non H):spNGN vs H Q _E
inductive spNL(a:Ad)(N:Nat)(c:Pl->Bool)(vs:List V)(H:Hp)(Q:VK)(_E:XK):Prop
 | mk(v:V)(pl:Pl)(n:Nat)(h0:vs=[v,.int (n:Nat)])(h1:n<=N)(h2:c pl=true)(h3:ht n pl)(h4:IsPn a H v pl)(h5:Q .non H):spNL a N c vs H Q _E
theorem kC{a:Ad}{H:Hp}{v:V}{pl:Pl}{S:(Pl->Bool)->Sp}{Q:VK}{E:XK}(e:Str)(g:∀ x:V,[(("many" : Str),x)].lookup e=none)(j:∀ x:V,[(("step" : Str),x)].lookup e=none)(l:∀ x:V,[(("inside" : Str),x)].lookup e=none)(i:∀ x y:V,[(("outside" : Str),x),(("inside" : Str),y)].lookup e=none)(W:(V->Hp->Prop)->Prop)(f:IsPn a H v pl)(h:∀ c,c pl=true->W λy H1=>S c [v,y] H1 Q E) :
  (∃(b dx:Addr) (fs:List (Str×V)),v=.ref b/\H b=some (.ins a.c_Y dx fs)/\fs.lookup e=none/\W λy H1=>S iQ [v,y] H1 Q E)\/(∃(b dx:Addr) (fs:List (Str×V)),v=.ref b/\H b=some (.ins a.c_A dx fs)/\fs.lookup e=none/\W λy H1=>S iQ [v,y] H1 Q E)\/(∃(b dx:Addr) (fs:List (Str×V)),v=.ref b/\H b=some (.ins a.c_B dx fs)/\fs.lookup e=none/\W λy H1=>S iQ [v,y] H1 Q E)\/(∃(b dx:Addr) (fs:List (Str×V)),v=.ref b/\H b=some (.ins a.c_K dx fs)/\fs.lookup e=none/\W λy H1=>S iQ [v,y] H1 Q E)\/(∃(b dx:Addr) (fs:List (Str×V)),v=.ref b/\H b=some (.ins a.c_C dx fs)/\fs.lookup e=none/\W λy H1=>S ck [v,y] H1 Q E)\/(∃(b dx:Addr) (fs:List (Str×V)),v=.ref b/\H b=some (.ins a.c_j dx fs)/\fs.lookup e=none/\W λy H1=>S bM [v,y] H1 Q E):=by
 cases pl with
 | few m=>obtain⟨x,dx,rfl,d⟩:=f;exact .inl ⟨x,dx,_,rfl,d,g _,h _ rfl⟩
 | start m=>obtain⟨x,dx,rfl,d⟩:=f;exact .inr (.inl ⟨x,dx,_,rfl,d,j _,h _ rfl⟩)
 | loose m=>obtain⟨x,dx,rfl,d⟩:=f;exact .inr (.inr (.inl ⟨x,dx,_,rfl,d,g _,h _ rfl⟩))
 | duel m=>obtain⟨x,dx,rfl,d⟩:=f;exact .inr (.inr (.inr (.inl ⟨x,dx,_,rfl,d,g _,h _ rfl⟩)))
 | each p=>obtain⟨x,dx,u,rfl,d,_⟩:=f;exact .inr (.inr (.inr (.inr (.inl ⟨x,dx,_,rfl,d,l _,h _ rfl⟩))))
 | first p q=>obtain⟨x,dx,u,z,rfl,d,_⟩:=f;exact .inr (.inr (.inr (.inr (.inr ⟨x,dx,_,rfl,d,i _ _,h _ rfl⟩))))
inductive spCh(a:Ad)(K:Frag)(vs:List V)(H:Hp)(Q:VK)(_E:XK):Prop
 | mk(l:Addr)(us:List U)(xs:List V)(n:Nat)(v:V)(pl:Pl)(h0:vs=[.ref l,v])(h1:H l=some (.lst xs))(h2:AllU H us xs)(h3:GoodL us)(h4:(∀ u∈us,u.path.length=n))(h5:n<=2)(h6:ht n pl)(h7:IsPn a H v pl)(h8:Ck n (crU us))(h9:TabsOk (tabs a) H)(h10:pN a K (pe (ent pl (crU us)) (crU us)) us.length H Q):spCh a K vs H Q _E
theorem y9{us:List U}(h:(us.map U.name).Nodup){i:Nat}{u:U}(f:us[i]? = some u):u.name ∉ (us.take i).map U.name:=by
 intro d;obtain⟨v,l,e⟩:=mem_map.mp d;obtain⟨j,a⟩:=List.getElem?_of_mem l
 have b:j<i:=by
  by_cases z:j<i
  .exact z
  .rw[List.getElem?_take_eq_none (by lia)]at a;cases a
 rw[List.getElem?_take_of_lt b]at a;have m:(us.map U.name)[j]? = some u.name:=by rw[List.getElem?_map,a];show some v.name=_;rw[e]
 have g:(us.map U.name)[i]? = some u.name:=by rw[List.getElem?_map,f];rfl
 obtain⟨r,o⟩:=List.getElem?_eq_some_iff.mp m;obtain⟨p,c⟩:=List.getElem?_eq_some_iff.mp g;have:=(getElem_inj h).mp (o.trans c.symm);lia
section
variable {P:Program}{w:World}{K:Frag}{mg:Str->Option Value}{base:Heap}{a:Ad}
theorem zT(T:Txt K mg a):FnX P w base 1 T.W_al spMade:=by
 refine T.W_al.A.okz mI λx A j s H J Q E F h=>?_
 .obtain⟨t,S,m,rfl,o,q⟩:=h
  refine⟨_,(ai (aq (di (kK qF qF af (ao ax rfl T.z_len aF (aa (vr 0) ac)) (vr 2)) (dQ (ao (nO rfl) rfl T.z_all xb (aa (aL rfl (N:=["sign","signs"]) (ix:=[none,some 1]) ⟨rfl,rfl,rfl,rfl,⟨rfl,rfl,rfl,trivial⟩⟩ (aN (vr 0)) ⟨λC s H l=>am (i:=0) (show List.Nodup (["sign","signs"]:List Str) by decide +kernel) rfl (Or.inl rfl),λC s H l=>aG,λC s H l=>(b7 DO (vr 0) (vr 1) (by with_unfolding_all rfl))⟩) ac)))))),?_⟩
  have r:∀ b,Same H b->¬(1<=(t.cps.size:Int)/\(t.cps.size:Int)<=m)->Q (.bl false) b:=λb e c=>by
   have:=q b e;unfold kd at this;rw[decide_eq_false c]at this;exact this
  refine⟨o,?_⟩;refine ifC (λf=>?_) (λf=>(r H (Same.refl H) λz=>f z.1));refine ifC (λg=>?_) (λg=>r H (Same.refl H) λz=>g z.2)
  have c:1<=(t.cps.size:Int)/\(t.cps.size:Int)<=m:=⟨f,g⟩
  intro D B;refine wX (λi d b=>b=upd H D (.lst d)/\d=(t.cps.toList.take i).map λc=>V.bl (decide (c∈S.cps.toList))) ⟨rfl,rfl⟩ (λi d b ⟨e,_⟩=>by rw[e];exact ae) ?_ ?_
  .rintro i c d b P y ⟨rfl,rfl⟩ v
   refine⟨⟨rfl,trivial⟩,?_⟩;have p:t.cps.toList[i]? = some c:=by simpa using y
   refine⟨ae,?_,v _ _ ⟨fb,?_⟩⟩
   .rw[length_map,length_take]
    have I:i<t.cps.toList.length:=(List.getElem?_eq_some_iff.mp p).1;have:t.cps.toList.length=t.cps.size:=by simp
    have G:t.cps.size<=sizeLine:=o;lia
   .rw[take_add_one,p,map_append]
    show _=_++[V.bl (decide (c∈S.cps.toList))]
    congr 2
    show V.bl (!(Builtin.Str.occurrences _ _ 0 _ 1).isEmpty)=_;rw[PySem.StrLaws.found_one]
  .rintro d b ⟨rfl,rfl⟩
   refine⟨D,_,t.cps.toList.map λc=>decide (c∈S.cps.toList),rfl,SqL.of ae,?_,?_⟩
   .rw[map_map,take_of_length_le (by simp)]
    rfl
   .have u:(t.cps.toList.map λc=>decide (c∈S.cps.toList)).all id=kd t S m:=by
     unfold kd;rw[decide_eq_true c,Bool.true_and,List.all_map];rfl
    rw[u];exact q _ (Same.new B)
theorem yG(T:Txt K mg a):FnX P w base 1 T.W_Z spIsW:=by
 refine T.W_Z.A.okz qp λc A b s H g Q E e h=>?_
 .obtain⟨i,f,d,rfl,q⟩:=h
  refine⟨_,(ai (aq (di (ao cJ rfl T.z_isinstance aX (aa (vr 0) (aa (cX (v:=.ty "int") rfl T.z_int oU rfl) ac))) (di (ud (ao cJ rfl T.z_isinstance aX (aa (vr 0) (aa (cX (v:=.ty "bool") rfl T.z_bool uw rfl) ac)))) (dQ (kK qF qF (vr 1) (vr 0) (vr 2))))))),?_⟩;refine⟨_,_,_,true,rfl,rfl,.int i,rfl,?_⟩;refine⟨_,_,_,false,rfl,rfl,.int i,rfl,?_⟩;exact xr (Q:=λv=>Q v H) q
theorem jd(T:Txt K mg a):FnX P w base 2 T.W_G spNeedN:=by
 have b:FnO P w K mg base 1 spIsW:=yG T;refine T.W_G.A.okz lY λl A c s H m Q E f h=>?_
 .obtain⟨i,g,d,rfl,j,e,q⟩:=h
  refine⟨_,(ai (a8 (cf (bT (pec b f T.W_Z (aa (vr 0) (aa (vr 1) (aa (vr 2) ac)))))) (ai d7) aE)),?_⟩;refine⟨i,g,d,rfl,?_⟩;rw[decide_eq_true (And.intro j e)];exact q
theorem vk(T:Txt K mg a):FnX P w base 2 T.W_as spName:=by
 have b:FnO P w K mg base 1 spMade:=zT T;refine T.W_as.A.okz sP λi A d s H j Q E e h=>?_
 .obtain⟨t,rfl,c,q⟩:=h
  refine⟨_,(ai (aq (di (ao cJ rfl T.z_isinstance aX (aa (vr 0) (aa (cX (v:=.ty "str") rfl T.z_str CD rfl) ac))) (dQ (pec b e T.W_al (aa (vr 0) (aa (be rfl T.g_LETTERS) (aa (be rfl T.g_MOST_LETTERS) ac)))))))),?_⟩;refine⟨_,_,_,true,rfl,rfl,.str t,rfl,?_⟩;refine⟨t,_,_,rfl,tw c,λg f=>?_⟩;have c:kd t "abcdefghijklmnopqrstuvwxyz" 8=true:=c;rw[c];exact q g f
theorem C2(T:Txt K mg a):FnX P w base 1 T.W_J spHll:=by
 refine T.W_J.A.okz fK λe A b s H j Q E g h=>?_
 .obtain⟨l,d,rfl,c,i,f,q⟩:=h
  refine⟨_,(ai (aq (di (ao cJ rfl T.z_isinstance aX (aa (vr 0) (aa (cX (v:=.ty "list") rfl T.z_list i6 rfl) ac))) (dQ (kK qF qF af (ao ax rfl T.z_len aF (aa (vr 0) ac)) (be rfl T.g_MOST_UNITS)))))),?_⟩;refine⟨_,_,_,true,rfl,rfl,.lst c,rfl,d,.inl (SqL.of c),?_⟩;refine xr (Q:=λv=>Q v H) ?_;rw[decide_eq_true (by lia)];exact q
theorem zW(T:Txt K mg a):FnX P w base 3 T.W_az spPath:=by
 have j:FnO P w K mg base 2 spName:=vk T;refine T.W_az.A.okz sx λL A u s H Z Q E M h=>?_
 .obtain⟨p,g,rfl,l,X,J,q⟩:=h
  refine⟨_,(ai (aq (di (ao cJ rfl T.z_isinstance aX (aa (vr 0) (aa (cX (v:=.ty "tuple") rfl T.z_tuple i7 rfl) ac))) (di (b7 qF (ao ax rfl T.z_len aF (aa (vr 0) ac)) (be rfl T.g_MOST_LEVELS) (aB _)) (dQ (ao (nO rfl) rfl T.z_all xb (aa (aL rfl (N:=["name"]) (ix:=[none]) ⟨rfl,rfl,rfl,rfl,trivial⟩ (aN (vr 0)) ⟨λC s H B=>am (i:=0) (show List.Nodup (["name"]:List Str) by decide +kernel) rfl (Or.inl rfl),λC s H B=>aG,λC s H B=>(pec j M T.W_as (aa (vr 0) ac))⟩) ac))))))),?_⟩;have o:sizeLine=16777216:=sizeLine_eq;refine⟨_,_,_,true,rfl,rfl,.tup l,rfl,_,.inr (SqT.of l),?_⟩;refine ifC (λc=>?_) (λc=>?_)
  .refine .inr ⟨⟨_,SqT.of l⟩,λD F=>?_⟩
   let Pw1:PvL:=λi e f=>Same H f/\f D=some (.lst e)/\i<=g.length/\e=(List.replicate i true).map V.bl
   refine yN (K:=K) (a:=p) (xs:=g.map V.str) Pw1 ⟨(Same.refl H).put F,ae,Nat.zero_le _,rfl⟩ (λi e f h=>SqT.of (h.1 _ _ l)) (λi e f h=>h.2.1) ?_ ?_
   .rintro i x e f Y G ⟨m,d,S,rfl⟩ O
    obtain⟨t,R,rfl⟩:=mem_map.mp (List.mem_of_getElem? G);have r:i<g.length:=by have:=(List.getElem?_eq_some_iff.mp G).1;rwa [length_map]at this
    refine⟨trivial,t,rfl,J t R,λW y=>⟨y _ _ d,?_,O _ _ ⟨(m.trans y).put F,ae,r,?_⟩⟩⟩
    .rw[length_map,List.length_replicate];lia
    .rw[List.replicate_succ',map_append];rfl
   .rintro e f ⟨m,d,_,rfl⟩
    refine⟨D,_,_,rfl,SqL.of d,rfl,?_⟩;have:(List.replicate (g.map V.str).length true).all id=true:=by rw[all_eq_true];intro b I;exact(List.mem_replicate.mp I).2
    rw[this];exact q _ m
  .have c:¬(((g.map V.str).length:Nat):Int)<=3:=c
   rw[length_map]at c;lia
theorem zp(T:Txt K mg a):FnX P w base 4 T.W_aA spUnit:=by
 have d:FnO P w K mg base 3 spName:=(vk T).mono (by decide);have b:FnO P w K mg base 3 spIsW:=(yG T).mono (by decide);have c:FnO P w K mg base 3 spPath:=zW T;refine T.W_aA.A.okz rQ λy A m s H D Q E f h=>?_
 .obtain⟨x,u,rfl,⟨e,p,rfl,i,o⟩,g,q⟩:=h
  refine⟨_,(ai (aq (di (ao cJ rfl T.z_isinstance aX (aa (vr 0) (aa (cX (v:=.ty "tuple") rfl T.z_tuple i7 rfl) ac))) (di (b7 dM (ao ax rfl T.z_len aF (aa (vr 0) ac)) (be rfl T.g_UNIT_PARTS) (aB _)) (di (pec d f T.W_as (aa (ak aj (vr 0) af (λ_ _=>rfl)) ac)) (di (pec b f T.W_Z (aa (ak aj (vr 0) af (λ_ _=>rfl)) (aa (yr xz (be rfl T.g_VALUE_BOUND)) (aa (be rfl T.g_VALUE_BOUND) ac)))) (di (pec b f T.W_Z (aa (ak aj (vr 0) af (λ_ _=>rfl)) (aa af (aa (be rfl T.g_MOST_SIZE) ac)))) (dQ (pec c f T.W_az (aa (ak aj (vr 0) af (λ_ _=>rfl)) ac)))))))))),?_⟩;refine⟨_,_,_,true,rfl,rfl,.tup i,rfl,_,.inr (SqT.of i),?_⟩;refine .inr (.inl ⟨e,_,_,_,rfl,rfl,SqT.of i,aP 0 rfl rfl,_,rfl,g.nm,λB j=>?_⟩);have l:=j _ _ i;refine .inr (.inl ⟨e,_,_,_,rfl,rfl,SqT.of l,aP 1 rfl rfl,_,_,_,rfl,?_⟩);rw[decide_eq_true (And.intro g.v0 g.v1)];refine .inr (.inl ⟨e,_,_,_,rfl,rfl,SqT.of l,aP 2 rfl rfl,_,_,_,rfl,?_⟩);rw[decide_eq_true (And.intro g.s0 g.s1)];exact .inr (.inl ⟨e,_,_,_,rfl,rfl,SqT.of l,aP 3 rfl rfl,p,u.path,rfl,j _ _ o,g.pl,g.pn,λC r=>q _ (j.trans r)⟩)
theorem CS(T:Txt K mg a):FnX P w base 1 T.W_ab spNew:=by
 refine T.W_ab.A.okz lm λL A v s H Y Q E X h=>?_
 .obtain⟨n,l,f,xs,rfl,y,G,c,q⟩:=h
  refine⟨_,(ai (aq (b7 oF (vr 0) (aL rfl (N:=["unit"]) (ix:=[none]) ⟨rfl,rfl,rfl,rfl,trivial⟩ (aN (vr 1)) ⟨λC s H F=>am (i:=0) (show List.Nodup (["unit"]:List Str) by decide +kernel) rfl (Or.inl rfl),λC s H F=>aG,λC s H F=>(ak (bG (K:=K) rfl) (vr 0) af (λ_ _=>rfl))⟩) (by with_unfolding_all rfl)))),?_⟩;have g:sizeLine=16777216:=sizeLine_eq;refine .inl ⟨⟨_,SqL.of y⟩,λD m=>?_⟩
  let Pw2:PvL:=λi b d=>i<=xs.length/\d=upd H D (.lst b)/\b=(f.take i).map λu=>V.str u.name
  refine aD (K:=K) (a:=l) (xs:=xs) Pw2 ⟨Nat.zero_le _,rfl,rfl⟩ (λi b d h=>by rw[h.2.1];exact SqL.of (by rw[ar (ay y m)];exact y)) (λi b d h=>by rw[h.2.1];exact ae) ?_ ?_
  .rintro i x b d S I ⟨O,rfl,rfl⟩ M
   obtain⟨u,j,J,p,rfl,B,W⟩:=G.get I;have r:i<xs.length:=(List.getElem?_eq_some_iff.mp I).1;have R:xs.length<=sizeLine:=c;refine⟨trivial,.inr (.inl ⟨J,_,_,_,rfl,rfl,SqT.of (by rw[ar (ay B m)];exact B),aP 0 rfl rfl,ae,?_,M _ _ ⟨r,fb,?_⟩⟩)⟩
   .rw[length_map,length_take];lia
   .rw[take_add_one,j,map_append];rfl
  .rintro b d ⟨_,rfl,rfl⟩
   rw[<- G.len,take_of_length_le (Nat.le_refl _)];have e:(f.map λu=>V.str u.name)=(f.map U.name).map V.str:=by rw[map_map];rfl
   refine⟨D,_,rfl,.inl (SqL.of ae),rfl,by rw[e];exact nh _,?_⟩;have:=q _ ((Same.refl H).put (o:=.lst (f.map λu=>V.str u.name)) m);rw[<- qZ]at this;rw[e];rw[e]at this;exact this
theorem zR(T:Txt K mg a):FnX P w base 1 T.W_Q spPlen:=by
 refine T.W_Q.A.okz iF λy A f s H D Q E B h=>?_
 .obtain⟨p,l,b,g,d,rfl,m,i,o,q⟩:=h
  refine⟨_,(ai (aq (Fd (zt (vr 1)) (dQ (b7 dM (ao ax rfl T.z_len aF (aa (vr 0) ac)) (ao ax rfl T.z_len aF (aa (ak aj (ak aj (vr 1) af (λ_ _=>rfl)) af (λ_ _=>rfl)) ac)) (aB _)))))),?_⟩;refine⟨!d.isEmpty,.inl ⟨d,SqL.of i,rfl⟩,?_⟩;cases o with
  | nil=>exact q
  | @cons u x g d r t =>
   obtain⟨j,C,rfl,v,c⟩:=r;refine⟨_,.inr (SqT.of m),.inl ⟨l,_,_,_,rfl,rfl,SqL.of i,aP 0 rfl rfl,.inr (.inl ⟨j,_,_,_,rfl,rfl,SqT.of v,aP 3 rfl rfl,_,.inr (SqT.of c),?_⟩)⟩⟩
   have e:decide (((b.map V.str).length:Int)=((u.path.map V.str).length:Int))=xE b (u::g):=by
    show _=decide (b.length=u.path.length);rw[decide_eq_decide,length_map,length_map];lia
   show Q (.bl (decide (((b.map V.str).length:Int)=((u.path.map V.str).length:Int)))) H;rw[e];exact q
theorem AJ(T:Txt K mg a):FnX P w base 5 T.W_V spNeed:=by
 have S:FnO P w K mg base 4 spHll:=(C2 T).mono (by decide);have o:FnO P w K mg base 4 spUnit:=zp T;have m:FnO P w K mg base 4 spNew:=(CS T).mono (by decide);have F:FnO P w K mg base 4 spPlen:=(zR T).mono (by decide);refine T.W_V.A.okz sc_V λan A W s H vs Q E C h=>?_
 .obtain⟨l,j,xs,rfl,D,L,e,q⟩:=h
  have J:sizeLine=16777216:=sizeLine_eq;refine⟨_,(ag (a8 (cf (bT (pec S C T.W_J (aa (vr 0) ac)))) (ai d7) aE) (ai (cc PassesOwn.never rfl (fh rfl T.z_enumerate (aa (vr 0) ac)) (dS rfl (aw (am (i:=1) sc_V.nd rfl (Or.inl rfl)) (aw (am (i:=2) sc_V.nd rfl (Or.inl rfl)) aZ))) (ag (a8 (cf (bT (pec o C T.W_aA (aa (vr 2) ac)))) (ai d7) aE) (ai (a8 (PW.pt (gq (cf (bT (pec m C T.W_ab (aa (ak aj (vr 2) af (λ_ _=>rfl)) (aa (d9 jF (vr 0) jh (eZ (vr 1))) ac))))) (fM (cf (bT (pec F C T.W_Q (aa (ak aj (vr 2) af (λ_ _=>rfl)) (aa (d9 jF (vr 0) jh (eZ (vr 1))) ac)))))))) (ai d7) aE)))))),bU ?_⟩;intro al;have ab:=L.len;have g1:=e.l1;have g2:=e.l2;refine⟨l,xs,rfl,D,by lia,by lia,?_⟩
  let Pw3:PvS:=λi y c=>Same H c/\∃ N M,y=[some (.ref l),N,M]
  refine⟨l,xs,rfl,D,kS (a:=l) (xs:=xs) Pw3 ⟨Same.refl H,none,none,rfl⟩ (λi y c h=>h.1 _ _ D) ?_ ?_⟩
  .rintro i x y c p hx ⟨G,N,M,rfl⟩ hp
   obtain⟨u,f,hU⟩:=L.get hx;have hm:=List.mem_of_getElem? f;have hi:i<xs.length:=(List.getElem?_eq_some_iff.mp hx).1;have b:Same H (upd c p (.tup [.int (i:Nat),x])):=G.trans (Same.new hp);refine⟨p,_,rfl,SqT.of ae,rfl,_,_,rfl,_,_,rfl,rfl,?_⟩;generalize upd c p (.tup [.int (i:Nat),x])=H1 at b;refine⟨x,u,rfl,hU.tk b.tk,e.each u hm,λH2 B=>?_⟩;obtain⟨ad,pp,rfl,ha,O⟩:=hU.tk (b.trans B).tk;have d:=(b.trans B) _ _ D;have r:=L.tk (b.trans B).tk;have I:ce xs none (some (i:Int))=xs.take i:=vx xs i (by lia);refine .inr (.inl ⟨ad,_,_,_,rfl,rfl,SqT.of ha,aP 0 rfl rfl,_,rfl,.inl ⟨xs,SqL.of d,λp2 R=>?_⟩⟩);have Z:Same H2 (upd H2 p2 (.lst (ce xs none (some (i:Int))))):=Same.new R;refine⟨u.name,p2,j.take i,ce xs none (some (i:Int)),rfl,ae,by have h:=r.take i;rw[<- I]at h;exact h.tk Z.tk,by rw[I,length_take];lia,λH3 s5=>?_⟩;rw[decide_eq_false (y9 e.nd f)];have g:=Z.trans s5;refine .inr (.inl ⟨ad,_,_,_,rfl,rfl,SqT.of (g _ _ ha),aP 3 rfl rfl,_,rfl,.inl ⟨xs,SqL.of (g _ _ d),λp3 Y=>?_⟩⟩);have X:Same H3 (upd H3 p3 (.lst (ce xs none (some (i:Int))))):=Same.new Y;refine⟨pp,p3,u.path,j.take i,ce xs none (some (i:Int)),rfl,X _ _ (g _ _ O),ae,by have h:=r.take i;rw[<- I]at h;exact h.tk (g.trans X).tk,?_⟩
   have pl:xE u.path (j.take i)=true:=by
    cases ht:j.take i with
    | nil=>rfl
    | cons v vs =>
     have hv:v∈j:=mem_of_mem_take (i:=i) (by rw[ht];exact mem_cons_self);exact decide_eq_true (e.pth u hm v hv)
   rw[pl];exact⟨((b.trans B).trans g).trans X,_,_,rfl⟩
  .rintro y c ⟨G,N,M,rfl⟩
   exact q _ G
theorem vS(T:Txt K mg a):FnX P w base 1 T.W_ao spValues:=by
 refine T.W_ao.A.okz oZ λJ A m s H X Q E W h=>?_
 .obtain⟨l,I,xs,rfl,o,g,F,q⟩:=h
  have e:sizeLine=16777216:=sizeLine_eq;have y:=g.len;have S:=F.l2;refine⟨_,(ai (aq (aL rfl (N:=["unit"]) (ix:=[none]) ⟨rfl,rfl,rfl,rfl,trivial⟩ (aN (vr 0)) ⟨λC s H v=>am (i:=0) (show List.Nodup (["unit"]:List Str) by decide +kernel) rfl (Or.inl rfl),λC s H v=>aG,λC s H v=>(ak (bG (K:=K) rfl) (vr 0) af (λ_ _=>rfl))⟩))),?_⟩;refine .inl ⟨⟨_,SqL.of o⟩,λD d=>?_⟩
  let Pw4:PvL:=λi b c=>i<=xs.length/\c=upd H D (.lst b)/\b=(I.take i).map λu=>V.int u.value
  refine aD (K:=K) (a:=l) (xs:=xs) Pw4 ⟨Nat.zero_le _,rfl,rfl⟩ (λi b c h=>by rw[h.2.1];exact SqL.of (by rw[ar (ay o d)];exact o)) (λi b c h=>by rw[h.2.1];exact ae) ?_ ?_
  .rintro i x b c O B ⟨M,rfl,rfl⟩ L
   obtain⟨u,f,G,p,rfl,r,R⟩:=g.get B;have j:i<xs.length:=(List.getElem?_eq_some_iff.mp B).1;refine⟨trivial,.inr (.inl ⟨G,_,_,_,rfl,rfl,SqT.of (by rw[ar (ay r d)];exact r),aP 1 rfl rfl,ae,?_,L _ _ ⟨j,fb,?_⟩⟩)⟩
   .rw[length_map,length_take];lia
   .rw[take_add_one,f,map_append];rfl
  .rintro b c ⟨_,rfl,rfl⟩
   rw[<- g.len,take_of_length_le (Nat.le_refl _)];exact q _ _ (Same.new d) d ae
theorem pS(T:Txt K mg a):FnX P w base 1 T.W_v spCrowd:=by
 refine T.W_v.A.okz qP λal A L s H vs Q E hr h=>?_
 .obtain⟨l,W,xs,rfl,Y,R,Z,q⟩:=h
  have F:sizeLine=16777216:=sizeLine_eq;have f:=R.len;have g2:=Z.l2;refine⟨_,(ai (aq (aL rfl (N:=["place","unit"]) (ix:=[none,none]) ⟨rfl,rfl,rfl,rfl,trivial⟩ (fh rfl T.z_enumerate (aa (vr 0) ac)) ⟨λC s H O=>(cb (K:=K) (n:=2) rfl rfl (aw (am (i:=0) (show List.Nodup (["place","unit"]:List Str) by decide +kernel) rfl (Or.inl rfl)) (aw (am (i:=1) (show List.Nodup (["place","unit"]:List Str) by decide +kernel) rfl (Or.inl rfl)) aZ))),λC s H O=>aG,λC s H O=>(aJ (aa (vr 0) (aa (ak (bG (K:=K) rfl) (vr 1) af (λ_ _=>rfl)) (aa (ak (bG (K:=K) rfl) (vr 1) af (λ_ _=>rfl)) ac))))⟩))),?_⟩;refine⟨l,xs,rfl,Y,λD S=>?_⟩;refine gG (a:=l) (xs:=xs) (λi c b=>i<=xs.length/\Same H b/\b D=some (.lst c)/\Paired (MbAt b) ((crU W).take i) c) ⟨Nat.zero_le _,Same.new S,ae,.nil⟩ (λi c b h=>h.2.1 _ _ Y) (λi c b h=>h.2.2.1) ?_ ?_
  .rintro i x c b p P' X ⟨hi,r,d,g⟩ hp hP
   obtain⟨u,G,hU⟩:=R.get X;have J:i<xs.length:=(List.getElem?_eq_some_iff.mp X).1;have e:Same b (upd b p (.tup [.int (i:Nat),x])):=Same.new hp;obtain⟨I,y,rfl,B,j⟩:=hU.tk (r.trans e).tk;refine⟨p,_,rfl,SqT.of ae,rfl,_,_,rfl,_,_,rfl,rfl,trivial,?_⟩;generalize upd b p (.tup [.int (i:Nat),.ref I])=H1 at e B j;refine .inr (.inl ⟨I,_,_,_,rfl,rfl,SqT.of B,aP 2 rfl rfl,.inr (.inl ⟨I,_,_,_,rfl,rfl,SqT.of B,aP 3 rfl rfl,by show 3<=sizeLine;lia,λt ht=>?_⟩)⟩);have v:Same H1 (upd H1 t (.tup [.int (i:Nat),.int u.size,.ref y])):=Same.new ht;have o:=(e.trans v) _ _ d;have ab:c.length=i:=by rw[<- Paired.length g,length_take,gz];lia
   have M:TK _ (upd (upd H1 t (.tup [.int (i:Nat),.int u.size,.ref y])) D (.lst (c++[.ref t]))):=TK.lst o;refine⟨o,by lia,hP _ _ ⟨J,((r.trans e).trans v).put S,ae,fU (az (λm z h=>MbAt.tk ((e.trans v).tk.trans M) h) g) (sI G) ⟨t,y,rfl,M _ _ ae,M _ _ (v _ _ j)⟩⟩⟩
  .rintro c b ⟨_,r,d,g⟩
   rw[<- f,<- gz W,take_length]at g;exact q _ _ _ r d g
theorem BC(T:Txt K mg a)(N:Nat):MnX P w mg base 1 T.W_a (spNL a N iQ):=by
 refine T.W_a.A.okz gY λc A b s H j Q E f h=>?_
 .obtain⟨v,g,n,rfl,l,i,d,e,q⟩:=h
  exact⟨_,(ai AA),q⟩
theorem BG(T:Txt K mg a):FnX P w base 1 T.W_H spNGN:=by
 refine T.W_H.A.okz gX λd A b s H f Q E e h=>?_
 .obtain⟨n,rfl,g,q⟩:=h
  refine⟨_,(ai (a8 (a5 dM (vr 0) af (aB _)) (ai d7) aE)),?_⟩;exact ifN (c:=(n:Int)=0) (by lia) q
theorem ue(T:Txt K mg a):∀ N,MnX P w mg base (N+2) T.W_k (spNL a N ck)/\MnX P w mg base (N+2) T.W_i (spNL a N bM)
 | 0=>by
  have I:∀{l:List V}{H:Hp}{Q:VK}{E:XK},¬spNL a 0 ck l H Q E:=λh=>by obtain⟨_,f,n,_,o,j,e,_⟩:=h;obtain rfl:n=0:=Nat.le_zero.mp o;cases f <;> first | exact e | cases j
  have C:∀{l:List V}{H:Hp}{Q:VK}{E:XK},¬spNL a 0 bM l H Q E:=λh=>by obtain⟨_,f,n,_,o,j,e,_⟩:=h;obtain rfl:n=0:=Nat.le_zero.mp o;cases f <;> first | exact e | cases j
  exact⟨⟨λ_ _ _ _ h=>(I h).elim,λ_ _ _ _ _ _ _ _ _ _ _ _ _ h=>(I h).elim⟩,⟨λ_ _ _ _ h=>(C h).elim,λ_ _ _ _ _ _ _ _ _ _ _ _ _ h=>(C h).elim⟩⟩
 | N+1=>by
  have g:FnO P w K mg base (N+2) (spNL a N ck):=(ue T N).1;have i:FnO P w K mg base (N+2) (spNL a N bM):=(ue T N).2;have b:FnO P w K mg base (N+2) (spNL a N iQ):=(BC T N).mono (by lia);have B:FnO P w K mg base (N+2) spNGN:=(BG T).mono (by lia);have m:∀{n:Nat},((n+1:Nat):Int) - 1=(n:Int):=λ{n}=>by lia
  constructor
  .refine T.W_k.A.ok gZ (λl H Q E h=>?_) (λcdv A outer s H l Q E hr h=>?_)
   .obtain⟨v,f,n,rfl,_⟩:=h;rfl
   .obtain⟨v,f,n,rfl,o,j,e,F,q⟩:=h
    cases f <;> try (cases j;done)
    rename_i p;obtain⟨x,c,u,rfl,d,y⟩:=F;refine⟨_,(ag (bO (pec B hr T.W_H (aa (vr 1) ac))) (ai (bO (PE.or (au (aC (vr 0) rfl) T.cl_Y T.mt_Few_need_levels b hr T.W_a.B .nil aA (aa (av bE (vr 1) af) ac)) (PE.or (au (aC (vr 0) rfl) T.cl_A T.mt_Start_need_levels b hr T.W_a.B .nil aA (aa (av bE (vr 1) af) ac)) (PE.or (au (aC (vr 0) rfl) T.cl_B T.mt_Loose_need_levels b hr T.W_a.B .nil aA (aa (av bE (vr 1) af) ac)) (PE.or (au (aC (vr 0) rfl) T.cl_K T.mt_Duel_need_levels b hr T.W_a.B .nil aA (aa (av bE (vr 1) af) ac)) (PE.or (au (aC (vr 0) rfl) T.cl_C T.mt_k g hr T.W_k.B .nil aA (aa (av bE (vr 1) af) ac)) (au (aC (vr 0) rfl) T.cl_j T.mt_i i hr T.W_i.B .nil aA (aa (av bE (vr 1) af) ac)))))))))),bU ?_⟩;intro D;cases n with
    | zero=>exact e.elim
    | succ n =>
     refine⟨n+1,rfl,by lia,?_⟩;refine Or.imp (λh=>⟨x,_,c,_,_,rfl,d,T.cl_C,T.na_Each_inside,rfl,h⟩) (Or.imp (λh=>⟨x,_,c,_,_,rfl,d,T.cl_C,T.na_Each_inside,rfl,h⟩) (Or.imp (λh=>⟨x,_,c,_,_,rfl,d,T.cl_C,T.na_Each_inside,rfl,h⟩) (Or.imp (λh=>⟨x,_,c,_,_,rfl,d,T.cl_C,T.na_Each_inside,rfl,h⟩) (Or.imp (λh=>⟨x,_,c,_,_,rfl,d,T.cl_C,T.na_Each_inside,rfl,h⟩) ((λh=>⟨x,_,c,_,_,rfl,d,T.cl_C,T.na_Each_inside,rfl,h⟩)))))) ?_;refine kC (S:=spNL a N) "need_levels" (λ_=>rfl) (λ_=>rfl) (λ_=>rfl) (λ_ _=>rfl) (λP=>P (.int (((n+1:Nat):Int) - 1)) H) y λkc hkc=>?_
     rw[m];exact⟨u,p,n,rfl,by lia,hkc,e,y,q⟩
  .refine T.W_i.A.ok fO (λl H Q E h=>?_) (λcdv A outer s H l Q E hr h=>?_)
   .obtain⟨v,f,n,rfl,_⟩:=h;rfl
   .obtain⟨v,f,n,rfl,o,j,e,F,q⟩:=h
    cases f <;> try (cases j;done)
    rename_i p r;obtain⟨x,c,u,z,rfl,d,y,G⟩:=F;refine⟨_,(ag (bO (pec B hr T.W_H (aa (vr 1) ac))) (ag (bO (PE.or (au (aC (vr 0) rfl) T.cl_Y T.mt_Few_need_levels b hr T.W_a.B .nil aA (aa af ac)) (PE.or (au (aC (vr 0) rfl) T.cl_A T.mt_Start_need_levels b hr T.W_a.B .nil aA (aa af ac)) (PE.or (au (aC (vr 0) rfl) T.cl_B T.mt_Loose_need_levels b hr T.W_a.B .nil aA (aa af ac)) (PE.or (au (aC (vr 0) rfl) T.cl_K T.mt_Duel_need_levels b hr T.W_a.B .nil aA (aa af ac)) (PE.or (au (aC (vr 0) rfl) T.cl_C T.mt_k g hr T.W_k.B .nil aA (aa af ac)) (au (aC (vr 0) rfl) T.cl_j T.mt_i i hr T.W_i.B .nil aA (aa af ac)))))))) (ai (bO (PE.or (au (aC (vr 0) rfl) T.cl_Y T.mt_Few_need_levels b hr T.W_a.B .nil aA (aa (av bE (vr 1) af) ac)) (PE.or (au (aC (vr 0) rfl) T.cl_A T.mt_Start_need_levels b hr T.W_a.B .nil aA (aa (av bE (vr 1) af) ac)) (PE.or (au (aC (vr 0) rfl) T.cl_B T.mt_Loose_need_levels b hr T.W_a.B .nil aA (aa (av bE (vr 1) af) ac)) (PE.or (au (aC (vr 0) rfl) T.cl_K T.mt_Duel_need_levels b hr T.W_a.B .nil aA (aa (av bE (vr 1) af) ac)) (PE.or (au (aC (vr 0) rfl) T.cl_C T.mt_k g hr T.W_k.B .nil aA (aa (av bE (vr 1) af) ac)) (au (aC (vr 0) rfl) T.cl_j T.mt_i i hr T.W_i.B .nil aA (aa (av bE (vr 1) af) ac))))))))))),eh ?_⟩;intro J D;cases n with
    | zero=>exact e.elim
    | succ n =>
     refine⟨n+1,rfl,by lia,?_⟩;refine Or.imp (λh=>⟨x,_,c,_,_,rfl,d,T.cl_j,T.na_First_outside,rfl,h⟩) (Or.imp (λh=>⟨x,_,c,_,_,rfl,d,T.cl_j,T.na_First_outside,rfl,h⟩) (Or.imp (λh=>⟨x,_,c,_,_,rfl,d,T.cl_j,T.na_First_outside,rfl,h⟩) (Or.imp (λh=>⟨x,_,c,_,_,rfl,d,T.cl_j,T.na_First_outside,rfl,h⟩) (Or.imp (λh=>⟨x,_,c,_,_,rfl,d,T.cl_j,T.na_First_outside,rfl,h⟩) ((λh=>⟨x,_,c,_,_,rfl,d,T.cl_j,T.na_First_outside,rfl,h⟩)))))) ?_
     refine kC (S:=spNL a N) "need_levels" (λ_=>rfl) (λ_=>rfl) (λ_=>rfl) (λ_ _=>rfl) (λP=>P (.int 0) H) y λkc hkc=>⟨u,p,0,rfl,Nat.zero_le _,hkc,jn e.1,y,?_⟩
     refine Or.imp (λh=>⟨x,_,c,_,_,rfl,d,T.cl_j,T.na_First_inside,rfl,h⟩) (Or.imp (λh=>⟨x,_,c,_,_,rfl,d,T.cl_j,T.na_First_inside,rfl,h⟩) (Or.imp (λh=>⟨x,_,c,_,_,rfl,d,T.cl_j,T.na_First_inside,rfl,h⟩) (Or.imp (λh=>⟨x,_,c,_,_,rfl,d,T.cl_j,T.na_First_inside,rfl,h⟩) (Or.imp (λh=>⟨x,_,c,_,_,rfl,d,T.cl_j,T.na_First_inside,rfl,h⟩) ((λh=>⟨x,_,c,_,_,rfl,d,T.cl_j,T.na_First_inside,rfl,h⟩)))))) ?_;refine kC (S:=spNL a N) "need_levels" (λ_=>rfl) (λ_=>rfl) (λ_=>rfl) (λ_ _=>rfl) (λP=>P (.int (((n+1:Nat):Int) - 1)) H) G λkc hkc=>?_
     rw[m];exact⟨z,r,n,rfl,by lia,hkc,e.2,G,q⟩
theorem Bu(T:Txt K mg a)(g:Bm mg base):FnX P w base 16 T.W_at (spCh a K):=by
 have as:FnO P w K mg base 15 spNeed:=(AJ T).mono (by decide);have e:FnO P w K mg base 15 (spNL a 2 iQ):=(BC T 2).mono (by decide);have F:FnO P w K mg base 15 (spNL a 2 ck):=(ue T 2).1.mono (by decide);have R:FnO P w K mg base 15 (spNL a 2 bM):=(ue T 2).2.mono (by decide);have X:FnO P w K mg base 15 (spMat a K 2 ot):=(oz T g 2).mono (by decide);have I:FnO P w K mg base 15 (spMat a K 2 eK):=(jW T g 2).mono (by decide);have O:FnO P w K mg base 15 (spMat a K 2 eM):=(jy T g 2).mono (by decide);have Y:FnO P w K mg base 15 (spMat a K 2 jg):=(l8 T g 2).mono (by decide);have ap:FnO P w K mg base 15 (spMat a K 2 ck):=(pj T g 2 (by decide)).1.mono (by decide);have L:FnO P w K mg base 15 (spMat a K 2 bM):=(pj T g 2 (by decide)).2.mono (by decide);have c:FnO P w K mg base 15 spCrowd:=(pS T).mono (by decide);refine T.W_at.A.okz rV λa3 A al s H vs Q E b h=>?_
 .obtain⟨l,B,C,n,v,pl,rfl,hl,y,G,i,hn,hh,hp,hC,hT,q⟩:=h
  refine⟨_,(ag (bO (pec as b T.W_V (aa (vr 0) ac))) (ag (bO (PE.or (au (vr 1) T.cl_Y T.mt_Few_need_levels e b T.W_a.B .nil aA (aa (ao ax rfl T.z_len aF (aa (ak aj (ak aj (vr 0) af (λ_ _=>rfl)) af (λ_ _=>rfl)) ac)) ac)) (PE.or (au (vr 1) T.cl_A T.mt_Start_need_levels e b T.W_a.B .nil aA (aa (ao ax rfl T.z_len aF (aa (ak aj (ak aj (vr 0) af (λ_ _=>rfl)) af (λ_ _=>rfl)) ac)) ac)) (PE.or (au (vr 1) T.cl_B T.mt_Loose_need_levels e b T.W_a.B .nil aA (aa (ao ax rfl T.z_len aF (aa (ak aj (ak aj (vr 0) af (λ_ _=>rfl)) af (λ_ _=>rfl)) ac)) ac)) (PE.or (au (vr 1) T.cl_K T.mt_Duel_need_levels e b T.W_a.B .nil aA (aa (ao ax rfl T.z_len aF (aa (ak aj (ak aj (vr 0) af (λ_ _=>rfl)) af (λ_ _=>rfl)) ac)) ac)) (PE.or (au (vr 1) T.cl_C T.mt_k F b T.W_k.B .nil aA (aa (ao ax rfl T.z_len aF (aa (ak aj (ak aj (vr 0) af (λ_ _=>rfl)) af (λ_ _=>rfl)) ac)) ac)) (au (vr 1) T.cl_j T.mt_i R b T.W_i.B .nil aA (aa (ao ax rfl T.z_len aF (aa (ak aj (ak aj (vr 0) af (λ_ _=>rfl)) af (λ_ _=>rfl)) ac)) ac)))))))) (ai (aq (PE.or (au (vr 1) T.cl_Y T.mt_h X b T.W_h.B .nil aA (aa (pec c b T.W_v (aa (vr 0) ac)) ac)) (PE.or (au (vr 1) T.cl_A T.mt_c I b T.W_c.B .nil aA (aa (pec c b T.W_v (aa (vr 0) ac)) ac)) (PE.or (au (vr 1) T.cl_B T.mt_d O b T.W_d.B .nil aA (aa (pec c b T.W_v (aa (vr 0) ac)) ac)) (PE.or (au (vr 1) T.cl_K T.mt_z Y b T.W_z.B .nil aA (aa (pec c b T.W_v (aa (vr 0) ac)) ac)) (PE.or (au (vr 1) T.cl_C T.mt_e ap b T.W_e.B .nil aA (aa (pec c b T.W_v (aa (vr 0) ac)) ac)) (au (vr 1) T.cl_j T.mt_n L b T.W_n.B .nil aA (aa (pec c b T.W_v (aa (vr 0) ac)) ac))))))))))),eh ?_⟩;intro a1 a2;refine⟨l,B,C,rfl,hl,y,G,λH1 f=>?_⟩;have g1:=G.l1;have a0:=y.len;have e0:C[0]? = some (C[0]'(by lia)):=List.getElem?_eq_getElem _;obtain⟨u0,J,aS⟩:=y.get e0;obtain⟨ad,pp,ex,ha,Z⟩:=aS.tk f.tk;rw[ex]at e0;have en:(u0.path.map V.str).length=n:=by rw[length_map];exact i u0 (List.mem_of_getElem? J)
  have u:=f _ _ hl;have ab:=hT.same f;have D:=y.tk f.tk;have d:=hp.n (dR f.t)
  refine kC (S:=spNL a 2) "need_levels" (λ_=>rfl) (λ_=>rfl) (λ_=>rfl) (λ_ _=>rfl) (λP=>rIx K (.ref l) (.int 0) H1 λv2 H2=>rIx K v2 (.int 3) H2 λv3 x=>match [v3] with
   | [.str z]=>z.length<=sizeLine/\P (.int z.length) x
   | [.ref p]=>rLenSq K p x P
   | _=>False) d λkc an=>?_
  refine .inl ⟨l,_,_,_,rfl,rfl,SqL.of u,aP 0 rfl e0,.inr (.inl ⟨ad,_,_,_,rfl,rfl,SqT.of ha,aP 3 rfl rfl,_,.inr (SqT.of Z),v,pl,n,by rw[<- en],hn,an,hh,d,?_⟩)⟩;refine fq (S:=spMat a K 2) "matrix" (λ_=>rfl) (λ_=>rfl) (λ_=>rfl) (λ_ _=>rfl) (λP=>spCrowd [.ref l] H1 P λ_ _ _=>False) d λkc E' hk=>?_
  refine⟨l,B,C,rfl,u,D,G,λH2 r cs j W M=>?_⟩;exact⟨n,v,pl,r,cs,crU B,rfl,hn,hk,hh,d.n (dR j.t),W,M,hC,ab.same j,λx r3 o t3 N h0 h1 m hM=>q x r3 o ((f.trans j).t.trans t3) N ((f.trans j).t.free h0) h1 (λq hq=>(f.trans j).t.free (m q hq)) (by rw[<- gz B];exact hM)⟩
end
end My
namespace Nd
open PySem Nst Rp FrM
theorem AR{q:Rat}{N:Nat}{z:Int}(i:0<N)(h:q*(N:Rat)=(z:Rat)):q.den ∣ N/\q.num.natAbs<=z.natAbs:=by
 have l:(q.den:Rat)≠0:=by intro e;have:q.den=0:=(by exact_mod_cast e);have:=q.den_pos;lia
 have m:q*(q.den:Rat)=(q.num:Rat):=Du.den_mul q;have g:(q.num:Rat)*(N:Rat)=(z:Rat)*(q.den:Rat):=by grind
 have d:q.num*(N:Int)=z*(q.den:Int):=by exact_mod_cast g
 have b:q.num.natAbs*N=z.natAbs*q.den:=by
  have:=congrArg Int.natAbs d;rw[Int.natAbs_mul,Int.natAbs_mul]at this;exact this
 have a:q.den ∣ N:=q.reduced.symm.dvd_of_dvd_mul_left (b ▸ Nat.dvd_mul_left _ _);refine⟨a,?_⟩;obtain⟨k,rfl⟩:=a;have j:=q.den_pos;have:q.den*(q.num.natAbs*k)=q.den*z.natAbs:=by rw[<- Nat.mul_assoc,Nat.mul_comm q.den,Nat.mul_assoc,b,Nat.mul_comm]
 have f:=Nat.eq_of_mul_eq_mul_left j this
 have c:0<k:=by
  rcases Nat.eq_zero_or_pos k with e | e
  .subst e;simp at i
  .exact e
 rw[<- f];exact Nat.le_mul_of_pos_right _ c
def prt(e:Nat->Nat->Rat)(v:Nat->Rat)(i j:Nat):Rat:=(e i j/(e i i*e j j) - 1)*(v i*v j)
def pss(e:Nat->Nat->Rat)(n:Nat):List Nat:=(List.range n).filter λi=>decide (e i i≠0)
def jL(e:Nat->Nat->Rat)(v:Nat->Rat)(as ps:List Nat):List Rat:=as.flatMap λi=>ps.map λj=>prt e v i j
def spr(e:Nat->Nat->Rat)(v:Nat->Rat)(n:Nat):Rat:=(jL e v (pss e n) (pss e n)).sum
theorem kO{e:Nat->Nat->Rat}{n i:Nat}(h:i∈pss e n):i<n/\e i i≠0:=by
 obtain⟨a,b⟩:=mem_filter.mp h;exact⟨mem_range.mp a,of_decide_eq_true b⟩
theorem kQ:∀ a b:List Rat,(a++b).sum=a.sum+b.sum
 | [],b=>by rw[nil_append,sum_nil];grind
 | x::a,b=>by rw[cons_append,sum_cons,sum_cons,kQ a b];grind
theorem y8(f:Nat->Int)(g:Int->Rat)(l:List Nat):sm (l.map f) g=(l.map λi=>g (f i)).sum:=by
 unfold sm;rw[map_map];rfl
theorem BL{n:Nat}{p:Pl}{a:List Mb}(l:ht n p)(h:Ck n a)(v:Nat->Rat):0<=spr (pe (ent p a) a) v a.length:=by
 obtain⟨C,W,_,R⟩:=lG l h
 have k:=R.spread_nn (S:=(pss (pe (ent p a) a) a.length).map λi=>(plc a).getD i 0) (λx hx=>by
  obtain⟨i,c,rfl⟩:=mem_map.mp hx;obtain⟨m,g⟩:=kO c
  exact⟨bw m,g⟩) λx=>v (ix (plc a) x)
 have e:∀ b:List Nat,(∀ i∈b,i<a.length)->sm (b.map λi=>(plc a).getD i 0) (λx=>sm ((pss (pe (ent p a) a) a.length).map λi=>(plc a).getD i 0) λy=>Rp.part (ent p a) (λx=>v (ix (plc a) x)) x y)=(jL (pe (ent p a) a) v b (pss (pe (ent p a) a) a.length)).sum:=by
  intro b
  induction b with
  | nil=>intro _;rfl
  | cons i b ih =>
   intro f;have c:=f i mem_cons_self;rw[map_cons,cj,ih λj d=>f j (mem_cons_of_mem _ d)];show _=((pss (pe (ent p a) a) a.length).map (λj=>prt (pe (ent p a) a) v i j)++jL (pe (ent p a) a) v b (pss (pe (ent p a) a) a.length)).sum;rw[kQ,y8]
   congr 2
   refine map_congr_left λj d=>?_
   have d:=(kO d).1;unfold Rp.part prt pe;show _*(v (ix (plc a) ((plc a).getD i 0))*v (ix (plc a) ((plc a).getD j 0)))=_;rw[hJ h.nd c,hJ h.nd d]
   grind
 rw[e _ λi c=>(kO c).1]at k;exact k
def tp(q:Rat):Nat:=if q.num=0 then 1 else q.num.natAbs
theorem CP(q:Rat):0<tp q:=by
 unfold tp
 split <;> lia
theorem Db{q:Rat}(a:0<=q)(b:q<=1):tp q<=q.den:=by
 have:=gA a b;have:=q.den_pos;unfold tp
 split <;> lia
theorem sF{a:Nat}:∀{l:List Nat},a∈l->a ∣ pd l
 | b::l,h=>by
  rcases mem_cons.mp h with rfl | h
  .exact Nat.dvd_mul_right _ _
  .exact Nat.dvd_trans (sF h) (Nat.dvd_mul_left _ _)
theorem Bw{T:Nat}:∀{l:List Nat},(∀ a∈l,a<=T)->pd l<=T ^ l.length
 | [],_=>Nat.le_refl _
 | a::l,h=>by
  rw[pd,length_cons,Nat.pow_succ,Nat.mul_comm];exact Nat.mul_le_mul (Bw λb c=>h b (mem_cons_of_mem _ c)) (h a mem_cons_self)
def tps(e:Nat->Nat->Rat)(n:Nat):List Nat:=(List.range n).map λi=>tp (e i i)
structure SpOk(e:Nat->Nat->Rat)(n C:Nat):Prop where
 n24:n<=24
 ok:∀ i j,i<n->j<n->OkQ 600 (e i j)
 dg:∀ i,i<n->OkQ 96 (e i i)
 c0:0<C
 cC:C<2 ^ 600
 dv:∀ i j,i<n->j<n->(e i j).den ∣ C
 t:pd (tps e n)<2 ^ 600
theorem AO{n:Nat}{p:Pl}{b:List Mb}(d:ht n p)(g:n<=2)(h:Ck n b):∃ C,SpOk (pe (ent p b) b) b.length C:=by
 obtain⟨C,W,r,R⟩:=lG d h;have s:=oN h;have u:=h.lens;have e:=h.big;refine⟨C,h.len,λi j c f=>ld d g h (bw c) (bw f),λi c=>vp d g h (bw c),R.c0,?_,λi j c f=>sY R.c0 (R.bqe (bw c) (bw f)),?_⟩
 .refine Nat.lt_of_le_of_lt (Nat.le_trans r (Nat.pow_le_pow_right (by lia) ?_)) e
  exact Nat.mul_le_mul_right _ (by lia)
 .have:pd (tps (pe (ent p b) b) b.length)<=(S_ b ^ 3) ^ b.length:=by
   have:=Bw (T:=S_ b ^ 3) (l:=tps (pe (ent p b) b) b.length) λa o=>by
    obtain⟨i,c,rfl⟩:=mem_map.mp o;have c:=mem_range.mp c;have m:=ld d g h (bw c) (bw c);refine Nat.le_trans (Db m.lo m.hi) (Nat.le_trans (yE d h _ (bw c)) (Nat.pow_le_pow_right (by lia) (by lia)))
   rw[show(tps (pe (ent p b) b) b.length).length=b.length by unfold tps;rw[length_map,length_range]]at this;exact this
  rw[<- Nat.pow_mul]at this;exact Nat.lt_of_le_of_lt this e
def Dn(e:Nat->Nat->Rat)(n C:Nat):Nat:=C*(pd (tps e n)*pd (tps e n))
section
variable {e:Nat->Nat->Rat}{n C:Nat}
theorem SpOk.pos(O:SpOk e n C):0<Dn e n C:=by
 have:0<pd (tps e n):=sj λa b=>by
  obtain⟨i,_,rfl⟩:=mem_map.mp b;exact CP _
 exact Nat.mul_pos O.c0 (Nat.mul_pos this this)
theorem SpOk.lt(O:SpOk e n C):Dn e n C<2 ^ 1800:=by
 have b:=O.cC;have a:=O.t;have c:(2:Nat) ^ 1800=2 ^ 600*(2 ^ 600*2 ^ 600):=by rw[<- Nat.pow_add,<- Nat.pow_add]
 rw[c];exact Nat.mul_lt_mul_of_lt_of_le b (Nat.mul_le_mul (Nat.le_of_lt a) (Nat.le_of_lt a)) (Nat.mul_pos (Nat.pow_pos (by decide)) (Nat.pow_pos (by decide)))
theorem SpOk.pos'(O:SpOk e n C){i:Nat}(hi:i<n)(h:e i i≠0):0<e i i/\0<(e i i).num/\tp (e i i)=(e i i).num.natAbs:=by
 have a:=(O.dg i hi).lo;have p:0<e i i:=by grind
 have q:0<(e i i).num:=by
  have b:0<=(e i i).num:=Rat.num_nonneg.mpr a;have c:(e i i).num≠0:=λz=>h (Rat.num_eq_zero.mp z)
  lia
 refine⟨p,q,?_⟩;unfold tp;rw[if_neg (by lia)]
theorem cy{a b:Int}{m k:Nat}(d:a.natAbs<2 ^ m)(c:b.natAbs<2 ^ k):(a*b).natAbs<2 ^ (m+k):=by
 rw[Int.natAbs_mul,Nat.pow_add];exact Nat.mul_lt_mul_of_lt_of_le d (Nat.le_of_lt c) (Nat.pow_pos (by decide))
theorem SpOk.lean(O:SpOk e n C){i j:Nat}(hi:i<n)(a:j<n)(o:e i i≠0)(r:e j j≠0) :
  ∃(N:Nat) (z:Int),0<N/\N<2 ^ 792/\N ∣ Dn e n C/\z.natAbs<2 ^ 792/\e i j/(e i i*e j j)*(N:Rat)=(z:Rat):=by
 obtain⟨L,H,s⟩:=O.pos' hi o;obtain⟨M,D,F⟩:=O.pos' a r;have b:=O.ok i j hi a;have d:=O.dg i hi;have c:=O.dg j a;have J:=gA b.lo b.hi;have E:=gA d.lo d.hi;have w:=gA c.lo c.hi;have g:tp (e i i) ∣ pd (tps e n):=sF (mem_map.mpr ⟨i,mem_range.mpr hi,rfl⟩);have h:tp (e j j) ∣ pd (tps e n):=sF (mem_map.mpr ⟨j,mem_range.mpr a,rfl⟩);have A:=O.dv i j hi a;rw[s]at g;rw[F]at h;have G:e i j*((e i j).den:Rat)=((e i j).num:Rat):=Du.den_mul _;have u:e i i*((e i i).den:Rat)=((e i i).num:Rat):=Du.den_mul _;have I:e j j*((e j j).den:Rat)=((e j j).num:Rat):=Du.den_mul _;have v:(((e i i).num.natAbs:Nat):Int)=(e i i).num:=by lia
 have y:(((e j j).num.natAbs:Nat):Int)=(e j j).num:=by lia
 refine⟨(e i j).den*((e i i).num.natAbs*(e j j).num.natAbs),(e i j).num*(((e i i).den:Int)*((e j j).den:Int)),?_,?_,?_,?_,?_⟩
 .exact Nat.mul_pos (e i j).den_pos (Nat.mul_pos (by lia) (by lia))
 .have f:=b.den
  have l:(e i i).num.natAbs<2 ^ 96:=Nat.lt_of_le_of_lt E d.den;have p:(e j j).num.natAbs<2 ^ 96:=Nat.lt_of_le_of_lt w c.den;rw[show(2:Nat) ^ 792=2 ^ 600*(2 ^ 96*2 ^ 96) by rw[<- Nat.pow_add,<- Nat.pow_add]];exact Nat.mul_lt_mul_of_lt_of_le f (Nat.mul_le_mul (Nat.le_of_lt l) (Nat.le_of_lt p)) (Nat.mul_pos (Nat.pow_pos (by decide)) (Nat.pow_pos (by decide)))
 .exact Nat.mul_dvd_mul A (Nat.mul_dvd_mul g h)
 .have f:(e i j).num.natAbs<2 ^ 600:=Nat.lt_of_le_of_lt J b.den
  have l:=d.den;have p:=c.den;exact cy (m:=600) (k:=192) f (cy (m:=96) (k:=96) (by lia) (by lia))
 .have K:(((e i i).num.natAbs:Nat):Rat)=((e i i).num:Rat):=by exact_mod_cast congrArg (λx:Int=>(x:Rat)) v
  have B:(((e j j).num.natAbs:Nat):Rat)=((e j j).num:Rat):=by exact_mod_cast congrArg (λx:Int=>(x:Rat)) y
  push_cast
  rw[K,B,<- u,<- I,<- G];have H:e i i≠0:=o;have D:e j j≠0:=r
  grind
end
theorem ze{r m:Nat}(e:0<m):(r:Int)/((Int.gcd (r:Int) (m:Int):Nat):Int)*(m:Int)=((Nat.lcm r m:Nat):Int):=by
 have d:Int.gcd (r:Int) (m:Int)=Nat.gcd r m:=Int.gcd_natCast_natCast r m;rw[d];have a:0<Nat.gcd r m:=Nat.gcd_pos_of_pos_right _ e;obtain⟨c,b⟩:=Nat.gcd_dvd_left r m
 have h:r/Nat.gcd r m=c:=by
  conv=>lhs;lhs;rw[b]
  exact Nat.mul_div_cancel_left _ a
 have f:Nat.lcm r m=c*m:=by
  have g:r*m=Nat.gcd r m*(c*m):=by rw[<- Nat.mul_assoc,<- b]
  unfold Nat.lcm;rw[g];exact Nat.mul_div_cancel_left _ a
 rw[f,Int.natCast_mul,<- Int.natCast_ediv,h]
theorem nK(q:Rat):Du.fr q=(0,1)↔q=0:=by
 constructor
 .intro h
  have:q.num=0:=congrArg Prod.fst h;exact Rat.num_eq_zero.mp this
 .rintro rfl;rfl
theorem yW{q:Rat}{r:Nat}(h:q.den ∣ r):((q.num*((r:Int)/(q.den:Int)):Int):Rat)=q*(r:Rat):=by
 obtain⟨k,rfl⟩:=h;have b:=q.den_pos
 have e:((q.den*k:Nat):Int)/(q.den:Int)=(k:Int):=by
  rw[Int.natCast_mul];exact Int.mul_ediv_cancel_left _ (by lia)
 have a:q*(q.den:Rat)=(q.num:Rat):=Du.den_mul q;rw[e]
 push_cast
 grind
theorem uP{r:Nat}:∀{qs:List Rat},(∀ q∈qs,q.den ∣ r)->(((qs.map λq=>q.num*((r:Int)/(q.den:Int))).sum:Int):Rat)=qs.sum*(r:Rat)
 | [],_=>by show((0:Int):Rat)=0*_;push_cast;grind
 | q::qs,h=>by
  have a:=yW (h q mem_cons_self);have b:=uP λp c=>h p (mem_cons_of_mem _ c)
  rw[map_cons,sum_cons,sum_cons]
  push_cast at a b ⊢
  grind
theorem AK{r:Nat}(a:0<r){qs:List Rat}(h:∀ q∈qs,q.den ∣ r):cK ((qs.map λq=>q.num*((r:Int)/(q.den:Int))).sum) (r:Int)=Du.fr qs.sum:=by
 rw[Du.low_div _ (by lia),uP h]
 congr 1
 have:(r:Rat)≠0:=by intro z;have:r=0:=(by exact_mod_cast z);lia
 push_cast
 grind
theorem dY{k:Nat}:∀{ns:List Int},(∀ n∈ns,Bt k n)->ns.sum.natAbs<=ns.length*2 ^ k
 | [],_=>by show(0:Int).natAbs<=_;exact Nat.zero_le _
 | n::ns,h=>by
  have b:n.natAbs<2 ^ k:=h n mem_cons_self;have c:=dY λm a=>h m (mem_cons_of_mem _ a)
  rw[sum_cons,length_cons,Nat.add_mul,Nat.one_mul];generalize 2 ^ k=z at b c;lia
theorem CC{k:Nat}{a:List Int}(c:a.length<=600)(h:∀ n∈a,Bt k n):Bt (k+10) a.sum:=by
 have e:=dY h;have b:a.length*2 ^ k<=600*2 ^ k:=Nat.mul_le_mul_right _ c;have d:0<2 ^ k:=Nat.pow_pos (by decide);unfold Bt;rw[Nat.pow_add];generalize 2 ^ k=z at e b d;lia
theorem rS{k:Nat}{r d:Nat}(h:r<2 ^ k):Bt k ((r:Int)/(d:Int)):=by
 unfold Bt;rw[<- Int.natCast_ediv];have:=Nat.div_le_self r d;rw[Int.natAbs_natCast];lia
def vf(vals:List Int)(i:Nat):Rat:=((vals.getD i 0:Int):Rat)
structure VOk(vals:List Int)(n:Nat):Prop where
 len:vals.length=n
 b:∀ x∈vals,-2000000000<=x/\x<=2000000000
theorem VOk.at{a:List Int}{n i:Nat}(h:VOk a n)(hi:i<n):-2000000000<=a.getD i 0/\a.getD i 0<=2000000000/\a[i]? = some (a.getD i 0):=by
 have b:i<a.length:=by rw[h.len];exact hi
 have e:a.getD i 0=a[i]:=by rw[List.getD_eq_getElem?_getD,List.getElem?_eq_getElem b];rfl
 rw[e];have:=h.b _ (getElem_mem b);exact⟨this.1,this.2,List.getElem?_eq_getElem b⟩
section
variable {e:Nat->Nat->Rat}{n C:Nat}
theorem pX{q:Rat}{N:Nat}{z:Int}(a:0<N)(b:N<2 ^ 990)(c:z.natAbs<2 ^ 990)(h:q*(N:Rat)=(z:Rat)):Du.Bb q:=by
 obtain⟨d,m⟩:=AR a h;have:=Nat.le_of_dvd a d;have p:2 ^ 990<=2 ^ 1000:=Nat.pow_le_pow_right (by decide) (by decide);unfold Du.Bb Bt
 constructor <;> lia
theorem SpOk.all(O:SpOk e n C){a:List Int}(r:VOk a n){i j:Nat}(hi:i<n)(c:j<n)(s:e i i≠0)(u:e j j≠0) :
  Du.Bb (e i i*e j j)/\0<e i i*e j j/\Du.Bb (e i j/(e i i*e j j))/\Du.Bb (e i j/(e i i*e j j) - 1)/\Du.Bb ((a.getD i 0*a.getD j 0:Int):Rat) /\
  prt e (vf a) i j=(e i j/(e i i*e j j) - 1)*((a.getD i 0*a.getD j 0:Int):Rat)/\(prt e (vf a) i j).den ∣ Dn e n C/\Bt 1000 (prt e (vf a) i j).num:=by
 obtain⟨N,z,l,v,I,G,A⟩:=O.lean hi c s u;have g:2 ^ 792<=2 ^ 990:=Nat.pow_le_pow_right (by decide) (by decide);have J:(2:Nat) ^ 793=2 ^ 792*2:=Nat.pow_succ ..;have D:(2:Nat) ^ 793<=2 ^ 990:=Nat.pow_le_pow_right (by decide) (by decide);obtain⟨M,R,_⟩:=r.at hi;obtain⟨S,Q,_⟩:=r.at c
 have o:(a.getD i 0*a.getD j 0).natAbs<2 ^ 62:=by
  have F:(a.getD i 0).natAbs<2 ^ 31:=by lia
  have E:(a.getD j 0).natAbs<2 ^ 31:=by lia
  exact cy (m:=31) (k:=31) F E
 have f:prt e (vf a) i j=(e i j/(e i i*e j j) - 1)*((a.getD i 0*a.getD j 0:Int):Rat):=by
  unfold prt vf
  push_cast
  rfl
 generalize a.getD i 0*a.getD j 0=w at o f;have b:(e i j/(e i i*e j j) - 1)*(N:Rat)=((z - (N:Int):Int):Rat):=by push_cast;grind
 have p:(z - (N:Int)).natAbs<2 ^ 793:=by
  rw[J];generalize 2 ^ 792=P at *;lia
 have h:prt e (vf a) i j*(N:Rat)=(((z - (N:Int))*w:Int):Rat):=by rw[f];push_cast at b ⊢;grind
 obtain⟨d,m⟩:=AR l h;have H:((z - (N:Int))*w).natAbs<2 ^ 855:=cy (m:=793) (k:=62) p o;have B:2 ^ 855<=2 ^ 1000:=Nat.pow_le_pow_right (by decide) (by decide);refine⟨((O.dg i hi).mul (O.dg j c)).bb,Rat.mul_pos (O.pos' hi s).1 (O.pos' c u).1,pX l (Nat.lt_of_lt_of_le v g) (Nat.lt_of_lt_of_le G g) A,pX l (Nat.lt_of_lt_of_le v g) (Nat.lt_of_lt_of_le p D) b,?_,f,Nat.dvd_trans d I,?_⟩
 .have x:(2:Nat) ^ 62<=2 ^ 1000:=Nat.pow_le_pow_right (by decide) (by decide)
  have K:(1:Nat)<2 ^ 1000:=Nat.one_lt_pow (by decide) (by decide);have y:((w:Int):Rat).num=w:=rfl;have L:((w:Int):Rat).den=1:=rfl;unfold Du.Bb Bt;rw[y,L];exact⟨Nat.lt_of_lt_of_le o x,K⟩
 .unfold Bt
  exact Nat.lt_of_le_of_lt m (Nat.lt_of_lt_of_le H B)
end
theorem qh(e:Nat->Nat->Rat)(i:Nat):pss e (i+1)=pss e i++(if e i i≠0 then [i] else []):=by
 unfold pss;rw[range_succ,filter_append]
 congr 1
 by_cases h:e i i≠0
 .rw[if_pos h,filter_cons_of_pos (by exact decide_eq_true h)];rfl
 .rw[if_neg h,filter_cons_of_neg (by simpa using h)];rfl
theorem wg(e:Nat->Nat->Rat)(v:Nat->Rat)(as a:List Nat)(i:Nat):jL e v (as++[i]) a=jL e v as a++a.map λj=>prt e v i j:=by
 unfold jL;rw[List.flatMap_append];simp
theorem l7(e:Nat->Nat->Rat)(v:Nat->Rat)(a:List Nat):∀ as,(jL e v as a).length=as.length*a.length
 | []=>by simp[jL]
 | i::as=>by
  show(a.map _++jL e v as a).length=_;rw[length_append,length_map,l7 e v a as,length_cons,Nat.add_mul];lia
theorem wB{e:Nat->Nat->Rat}{v:Nat->Rat}{as a:List Nat}{q:Rat}(h:q∈jL e v as a):∃ i∈as,∃ j∈a,q=prt e v i j:=by
 obtain⟨i,c,h⟩:=List.mem_flatMap.mp h;obtain⟨j,b,rfl⟩:=mem_map.mp h;exact⟨i,c,j,b,rfl⟩
theorem uc(e:Nat->Nat->Rat)(n:Nat):(pss e n).length<=n:=by
 have:=length_filter_le (λi=>decide (e i i≠0)) (List.range n);rw[length_range]at this;exact this
end Nd
namespace My
open PySem L2 FrM Du Nd
open Nst (Mb plc szs hd tl bN groups aT parts outer aK a7 aW)
theorem sZ{X:Cx}{K:Frag}(h:X.K=K)(a:X.A.units+64<cLine):OpR X (compareOp .NotEq) (rEqD K true):=h ▸ Bd a
theorem eqF{K:Frag}{H:Hp}{a:Bool}{x y:V}{f g:Int×Int}{Q:VK}(j:IsF K H f x)(e:IsF K H g y)(q:Q (.bl (if a then !decide (f=g) else decide (f=g))) H):rEqD K a x y H Q:=by
 obtain⟨p,rfl,i⟩:=j;obtain⟨l,rfl,c⟩:=e;obtain⟨t,b⟩:=f;obtain⟨o,m⟩:=g
 have d:∀{p:Addr}{t b:Int},SqT K H p [.int t,.int b]->DV K H (.tuple [.int t,.int b]) (.ref p):=λ{p t b} h=>by
  rw[DV];refine⟨p,_,rfl,h,?_⟩;rw[DVs];refine⟨_,_,rfl,by simp[DV],?_⟩;rw[DVs];exact⟨_,_,rfl,by simp[DV],by simp[DVs]⟩
 refine⟨_,_,d i.sq,d c.sq,rfl,rfl,?_⟩;rw[pI];exact q
inductive spLcms(K:Frag)(vs:List V)(H:Hp)(Q:VK)(_E:XK):Prop
 | mk(l:Addr)(ns:List Nat)(D:Nat)(h0:vs=[.ref l])(h1:SqL K H l (ns.map λ(n:Nat)=>V.int (n:Int)))(h2:(∀ n∈ns,0<n/\n ∣ D))(h3:0<D)(h4:D<2 ^ 1900)(h5:∀ r:Nat,0<r->r ∣ D->(∀ n∈ns,n ∣ r)->Q (.int (r:Int)) H):spLcms K vs H Q _E
inductive spTotal(K:Frag)(vs:List V)(H:Hp)(Q:VK)(_E:XK):Prop
 | mk(l:Addr)(qs:List Rat)(xs:List V)(D:Nat)(h0:vs=[.ref l])(h1:H l=some (.lst xs))(h2:AllF K H (qs.map fr) xs)(h3:xs.length<=600)(h4:0<D)(h5:D<2 ^ 1900)(h6:(∀ q∈qs,q.den ∣ D/\Bt 1000 q.num))(h7:∀ H' z,Same H H'->IsQ K H' qs.sum z->Q z H'):spTotal K vs H Q _E
def Vals_(H:Hp)(vals:List Int)(v:V):Prop:=∃ l,v=.ref l/\H l=some (.lst (vals.map V.int))
theorem Vals_.q{H b:Hp}{a:List Int}{v:V}(s:SQ H b)(h:Vals_ H a v):Vals_ b a v:=let ⟨l,h1,h2⟩:=h;⟨l,h1,s _ _ rfl h2⟩
structure SpIn(K:Frag)(H:Hp)(e:EF)(n C:Nat)(vals:List Int)(v lv:V):Prop where
 ok:SpOk e n C
 vo:VOk vals n
 mx:Mx K (Ex e) H n v
 va:Vals_ H vals lv
theorem SpIn.q{K:Frag}{H b:Hp}{e:EF}{n C:Nat}{a:List Int}{v c:V}(s:SQ H b)(h:SpIn K H e n C a v c):SpIn K b e n C a v c:=⟨h.ok,h.vo,h.mx.q s,h.va.q s⟩
abbrev nI(ps:List Nat):List V:=ps.map λ(i:Nat)=>V.int (i:Nat)
inductive spPWS(K:Frag)(vs:List V)(H:Hp)(Q:VK)(_E:XK):Prop
 | mk(n:Nat)(v:V)(e:EF)(h0:vs=[v])(h1:n<=24)(h2:Mx K (Ex e) H n v)(h3:∀ H' r,Same H H'->H' r=some (.lst (nI (pss e n)))->Q (.ref r) H'):spPWS K vs H Q _E
inductive spSP(K:Frag)(vs:List V)(H:Hp)(Q:VK)(_E:XK):Prop
 | mk(n C i j:Nat)(v lv:V)(e:EF)(vals:List Int)(h0:vs=[v,lv,.int (i:Nat),.int (j:Nat)])(h1:SpIn K H e n C vals v lv)(h2:i<n)(h3:j<n)(h4:e i i≠0)(h5:e j j≠0)(h6:∀ H' x,Same H H'->IsQ K H' (prt e (vf vals) i j) x->Q x H'):spSP K vs H Q _E
abbrev fvS:List Str:=["values","rows"]
def Bn(K:Frag):List V->Sp:=λvl vs H Q _=>∃(n C i j:Nat) (v lv:V) (e:EF) (vals:List Int),vl=[lv,v]/\vs=[.int (i:Nat),.int (j:Nat)]/\SpIn K H e n C vals v lv/\i<n/\j<n/\e i i≠0/\e j j≠0/\∀ H' x,Same H H'->IsQ K H' (prt e (vf vals) i j) x->Q x H'
theorem lsS:LamScope bP fvS ["one","other"]:=⟨rfl,rfl,rfl,by decide +kernel,by decide +kernel,by decide +kernel,by decide +kernel,by decide +kernel⟩
inductive spPT(K:Frag)(vs:List V)(H:Hp)(Q:VK)(_E:XK):Prop
 | mk(n C:Nat)(p:Addr)(v lv tv:V)(e:EF)(vals:List Int)(h0:vs=[.ref p,tv])(h1:H p=some (.lst (nI (pss e n))))(h2:IsLam H bP fvS tv [lv,v])(h3:SpIn K H e n C vals v lv)(h4:∀ H' z,Same H H'->IsQ K H' (spr e (vf vals) n) z->Q z H'):spPT K vs H Q _E
def AW(a:Ad)(K:Frag)(q:Rat)(H:Hp)(Q:VK):Prop:=∀ H' z,SameT H H'->TabsOk (tabs a) H'->IsQ K H' q z->Q z H'
inductive spSB(a:Ad)(K:Frag)(vs:List V)(H:Hp)(Q:VK)(_E:XK):Prop
 | mk(n C:Nat)(v lv:V)(e:EF)(vals:List Int)(h0:vs=[v,lv])(h1:SpIn K H e n C vals v lv)(h2:TabsOk (tabs a) H)(h3:AW a K (spr e (vf vals) n) H Q):spSB a K vs H Q _E
inductive spSpr(a:Ad)(K:Frag)(vs:List V)(H:Hp)(Q:VK)(_E:XK):Prop
 | mk(l:Addr)(us:List U)(xs:List V)(n:Nat)(v:V)(pl:Pl)(h0:vs=[.ref l,v])(h1:H l=some (.lst xs))(h2:AllU H us xs)(h3:GoodL us)(h4:(∀ u∈us,u.path.length=n))(h5:n<=2)(h6:ht n pl)(h7:IsPn a H v pl)(h8:Ck n (crU us))(h9:TabsOk (tabs a) H)(h10:AW a K (spr (pe (ent pl (crU us)) (crU us)) (vf (us.map U.value)) us.length) H Q):spSpr a K vs H Q _E
section
variable {P:Program}{w:World}{K:Frag}{mg:Str->Option Value}{base:Heap}{a:Ad}
theorem Ap(T:Txt K mg a):FnX P w base 2 T.W_E (spLcms K):=by
 have m:FnO P w K mg base 1 spGcd:=xN T;refine T.W_E.A.okz sc_E λO A u s H W Q E R h=>?_
 .obtain⟨l,j,D,rfl,F,p,B,L,q⟩:=h
  refine⟨_,(ag (psl 1 sc_E af) (ag (cc PassesOwn.never rfl (aN (vr 0)) (am (i:=2) sc_E.nd rfl (Or.inl rfl)) (ai (psl 1 sc_E (av aH (av cE (vr 1) (pec m R T.W_u (aa (vr 1) (aa (vr 2) ac)))) (vr 2))))) (ai (aq (vr 1))))),eh ?_⟩;intro I N;have C:∀{k:Nat},k ∣ D->Bt 1900 (k:Int):=λ{k} h=>by have:=Nat.le_of_dvd B h;unfold Bt;rw[Int.natAbs_natCast];lia
  let Pw1:PvS:=λi d f=>f=H/\∃(r:Nat) (x:Option V),d=[some (.ref l),some (.int (r:Int)),x]/\0<r/\r ∣ D/\∀ n∈j.take i,n ∣ r
  refine .inl ⟨⟨_,F⟩,df (K:=K) (a:=l) (xs:=j.map λ(n:Nat)=>V.int (n:Int)) Pw1 ⟨rfl,1,none,rfl,by lia,Nat.one_dvd _,λn hn=>by simp at hn⟩ (λi d f _ h=>by rw[h.1];exact F) ?_ ?_⟩
  .rintro i x d f c ⟨rfl,r,M,rfl,v,g,b⟩
   rw[List.getElem?_map]at c
   obtain⟨n,hn,rfl⟩:∃ n,j[i]? = some n/\V.int (n:Int)=x:=by
    cases e:j[i]? with
    | none=>rw[e]at c;cases c
    | some n=>rw[e]at c;cases c;exact⟨n,rfl,rfl⟩
   obtain⟨y,o⟩:=p n (List.mem_of_getElem? hn);have S:0<Int.gcd (r:Int) (n:Int):=Int.gcd_pos_of_ne_zero_right _ (by lia);have J:Int.gcd (r:Int) (n:Int) ∣ D:=Nat.dvd_trans (by rw[Int.gcd_natCast_natCast];exact Nat.gcd_dvd_right r n) o;refine⟨(r:Int),(n:Int),rfl,by lia,by lia,?_⟩;refine⟨cdB (by lia) (C J),cmB (rS (Nat.lt_of_le_of_lt (Nat.le_of_dvd B g) L)) (C o),?_⟩;refine⟨rfl,Nat.lcm r n,_,by rw[<- ze y];rfl,Nat.lcm_pos v y,Nat.lcm_dvd g o,λk G=>?_⟩;rw[take_add_one,hn]at G
   rcases mem_append.mp G with h | h
   .exact Nat.dvd_trans (b k h) (Nat.dvd_lcm_left r n)
   .rw[mem_singleton.mp h];exact Nat.dvd_lcm_right r n
  .rintro d f ⟨rfl,r,M,rfl,v,g,b⟩
   rw[length_map,take_length]at b;exact q r v g b
theorem wu(T:Txt K mg a):FnX P w base 3 T.W_aF (spTotal K):=by
 have al:FnO P w K mg base 2 (spLcms K):=Ap T;have ab:FnO P w K mg base 2 spLow:=cH T;refine T.W_aF.A.okz qx λas A ad s H vs Q E hr h=>?_
 .obtain⟨l,d,xs,D,rfl,R,hF,an,D0,Y,Z,q⟩:=h
  have X:sizeLine=16777216:=sizeLine_eq;have fl:d.length=xs.length:=by have:=hF.len;rwa [length_map]at this
  have at_:∀{i:Nat}{y:V}{c:Hp},Same H c->xs[i]? = some y->∃ q p,d[i]? = some q/\y=.ref p/\SqT K c p [.int q.num,.int (q.den:Int)]:=λ{i y c} s e=>by
   obtain⟨f,J,p,rfl,u⟩:=(hF.same s).get e;rw[List.getElem?_map]at J;cases O:d[i]? with
   | none=>rw[O]at J;cases J
   | some q=>rw[O]at J;cases J;exact⟨q,p,rfl,rfl,u.sq⟩
  refine⟨_,(ag (psr 1 qx (pec al hr T.W_E (aa (aL rfl (N:=["fraction"]) (ix:=[none]) ⟨rfl,rfl,rfl,rfl,trivial⟩ (aN (vr 0)) ⟨λC s H G=>am (i:=0) (show List.Nodup (["fraction"]:List Str) by decide +kernel) rfl (Or.inl rfl),λC s H G=>aG,λC s H G=>(ak (bG (K:=K) rfl) (vr 0) af (λ_ _=>rfl))⟩) ac))) (ai (aq (pec ab hr T.W_L (aa (ao (cx rfl) rfl T.z_sum dY (aa (aL rfl (N:=["top","own","bottom"]) (ix:=[none,none,some 1]) ⟨rfl,rfl,rfl,rfl,⟨rfl,rfl,rfl,trivial⟩⟩ (aN (vr 0)) ⟨λC s H G=>(cb (K:=K) (n:=2) rfl rfl (aw (am (i:=0) (show List.Nodup (["top","own","bottom"]:List Str) by decide +kernel) rfl (Or.inl rfl)) (aw (am (i:=1) (show List.Nodup (["top","own","bottom"]:List Str) by decide +kernel) rfl (Or.inl rfl)) aZ))),λC s H G=>aG,λC s H G=>(av aH (vr 0) (av cE (vr 2) (vr 1)))⟩) ac)) (aa (vr 1) ac)))))),bU ?_⟩;intro ap;refine .inl ⟨⟨_,SqL.of R⟩,λY hD=>?_⟩
  let Pw2:PvL:=λi g c=>Same H c/\c Y=some (.lst g)/\i<=d.length/\g=(d.take i).map λq=>V.int (q.den:Int)
  refine aD (K:=K) (a:=l) (xs:=xs) Pw2 ⟨Same.new hD,ae,Nat.zero_le _,rfl⟩ (λi W c h=>SqL.of (h.1 _ _ R)) (λi W c h=>h.2.1) ?_ ?_
  .rintro i y g c P' hy ⟨x,j,hi,rfl⟩ v
   obtain⟨o,p,b,rfl,u⟩:=at_ x hy;have F:i<d.length:=(List.getElem?_eq_some_iff.mp b).1;refine⟨trivial,px1 u ⟨j,by rw[length_map,length_take];lia,v _ _ ⟨x.put hD,ae,F,?_⟩⟩⟩;rw[take_add_one,b];simp
  rintro g H1 ⟨x,j,_,rfl⟩;rw[<- fl,take_length]at j;refine⟨Y,d.map λq=>q.den,D,rfl,SqL.of (by rw[map_map];exact j),λn hn=>?_,D0,by assumption,λr r0 rD hr'=>?_⟩
  .obtain⟨o,b,rfl⟩:=mem_map.mp hn
   exact⟨o.den_pos,(Z o b).1⟩
  have L:∀ q∈d,q.den ∣ r:=λq O=>hr' _ (mem_map.mpr ⟨q,O,rfl⟩)
  have B:r<2 ^ 1900:=Nat.lt_of_le_of_lt (Nat.le_of_dvd D0 rD) (by assumption);refine .inl ⟨⟨_,SqL.of (x _ _ R)⟩,λD2 I=>?_⟩
  let Pw3:PvL:=λi g c=>Same H1 c/\c D2=some (.lst g)/\i<=d.length/\g=((d.take i).map λq=>q.num*((r:Int)/(q.den:Int))).map V.int
  refine aD (K:=K) (a:=l) (xs:=xs) Pw3 ⟨Same.new I,ae,Nat.zero_le _,rfl⟩ (λi W c h=>SqL.of (h.1 _ _ (x _ _ R))) (λi W c h=>h.2.1) ?_ ?_
  .rintro i y g c P' hy ⟨M,m,hi,rfl⟩ v
   obtain⟨o,p,b,rfl,u⟩:=at_ (x.trans M) hy;have F:i<d.length:=(List.getElem?_eq_some_iff.mp b).1;obtain⟨b1,b2⟩:=Z _ (List.mem_of_getElem? b);have S:Bt 1900 (o.den:Int):=by have:=Nat.le_of_dvd r0 (L _ (List.mem_of_getElem? b));unfold Bt;rw[Int.natAbs_natCast];lia
   have dp:=o.den_pos;refine⟨p,_,rfl,u,rfl,_,_,rfl,_,_,rfl,rfl,⟨rfl,trivial⟩,cdB (by lia) S,cmB b2 (rS B),m,by rw[length_map,length_map,length_take];lia,v _ _ ⟨M.put I,ae,F,?_⟩⟩;rw[take_add_one,b];simp
  rintro g H2 ⟨M,m,_,rfl⟩;rw[<- fl,take_length]at m;refine⟨D2,_,rfl,SqL.of m,?_⟩
  have bs:Bt 2910 ((d.map λq=>q.num*((r:Int)/(q.den:Int))).sum):=CC (k:=2900) (by rw[length_map];lia) λn hn=>by
   obtain⟨o,b,rfl⟩:=mem_map.mp hn;exact(Z o b).2.mul (rS B)
  have br:Bt 1900 (r:Int):=by unfold Bt;rw[Int.natAbs_natCast];exact B
  refine⟨_,_,rfl,by lia,bs.mono (by decide),br.mono (by decide),λH3 p s3 u=>q _ _ ((x.trans M).trans s3) ?_⟩;rw[AK r0 L]at u;exact⟨p,rfl,.inl u⟩
theorem Ci(T:Txt K mg a):FnX P w base 1 T.W_N (spPWS K):=by
 refine T.W_N.A.okz fX λad A R s H vs Q E hr h=>?_
 .obtain⟨n,v,e,rfl,hn,hM,q⟩:=h
  have L:sizeLine=16777216:=sizeLine_eq;refine⟨_,(ai (aq (aL rfl (N:=["place","row"]) (ix:=[none,none]) ⟨rfl,rfl,rfl,rfl,trivial⟩ (fh rfl T.z_enumerate (aa (vr 0) ac)) ⟨λC s H W=>(cb (K:=K) (n:=2) rfl rfl (aw (am (i:=0) (show List.Nodup (["place","row"]:List Str) by decide +kernel) rfl (Or.inl rfl)) (aw (am (i:=1) (show List.Nodup (["place","row"]:List Str) by decide +kernel) rfl (Or.inl rfl)) aZ))),λC s H W=>kH (a5 (sZ (K:=K) rfl hr.units) (ak (bG (K:=K) rfl) (vr 1) (vr 0) (λ_ _=>rfl)) (be rfl T.g_NOUGHT) (aB _)),λC s H W=>(vr 0)⟩))),?_⟩;obtain⟨l,g,rfl,Z,G,m⟩:=id hM;refine⟨l,g,rfl,Z,λD X=>?_⟩;refine gG (a:=l) (xs:=g) (λi j d=>i<=n/\Same H d/\d D=some (.lst j)/\j=nI (pss e i)) ⟨Nat.zero_le _,Same.new X,ae,rfl⟩ (λi j d h=>h.2.1 _ _ Z) (λi j d h=>h.2.2.1) ?_ ?_
  .rintro i x j d p P' Y ⟨hi,o,b,rfl⟩ hp hP
   have B:i<n:=by rw[<- G];exact(List.getElem?_eq_some_iff.mp Y).1
   obtain⟨r,S,rfl,M,ab,O⟩:=m i x Y;have J:S[i]? = some (S[i]'(by lia)):=List.getElem?_eq_getElem _;obtain⟨f,hf,hR⟩:=O i _ J;cases hR;generalize S[i]'(by lia)=y at J hf;have I:Same d (upd d p (.tup [.int (i:Nat),.ref r])):=Same.new hp;have u:=o.trans I;refine⟨p,_,rfl,SqT.of ae,rfl,_,_,rfl,_,_,rfl,rfl,?_⟩;refine⟨trivial,.inl ⟨r,_,_,_,rfl,rfl,SqL.of (u _ _ M),aQ J,?_⟩⟩;have F:=I _ _ b;refine eqF (hf.same u) (i5 T) ?_;have pl:=uc e i;refine ifB (λc=>?_) λc=>?_
   .have c:(!decide (fr (e i i)=(0,1)))=true:=c
    have c:e i i≠0:=λz=>by rw[decide_eq_true ((nK _).mpr z)]at c;cases c
    refine⟨F,by rw[length_map];lia,hP _ _ ⟨B,(o.trans I).put X,ae,?_⟩⟩;rw[qh,if_pos c];show _=(pss e i++[i]).map λ(i:Nat)=>V.int (i:Nat)
    rw[map_append];rfl
   .have c:(!decide (fr (e i i)=(0,1)))=false:=c
    have c:¬e i i≠0:=λz=>by rw[decide_eq_false (λy=>z ((nK _).mp y))]at c;cases c
    refine hP _ _ ⟨B,o.trans I,F,?_⟩;rw[qh,if_neg c,append_nil]
  .rintro j d ⟨_,o,b,rfl⟩
   rw[G]at b;exact q _ D o b
theorem Do(T:Txt K mg a):FnX P w base 4 T.W_ac (spSP K):=by
 have m:FnO P w K mg base 3 (spAri (· * ·) (λ_=>True) K):=eE T;have p:FnO P w K mg base 3 (spAri (· / ·) (λq=>0<q) K):=uQ T;have l:FnO P w K mg base 3 (spAri (· - ·) (λ_=>True) K):=jf T;refine T.W_ac.A.okz gh λad A I s H vs Q E u h=>?_
 .obtain⟨n,C,i,j,v,lv,e,b,rfl,⟨O,G,J,R,rfl,r⟩,c,d,zi,zj,q⟩:=h
  refine⟨_,(ag (psl 4 gh (pec p u T.W_ay (aa (ak aj (ak aj (vr 0) (vr 2) (λ_ _=>rfl)) (vr 3) (λ_ _=>rfl)) (aa (pec m u T.W_O (aa (ak aj (ak aj (vr 0) (vr 2) (λ_ _=>rfl)) (vr 2) (λ_ _=>rfl)) (aa (ak aj (ak aj (vr 0) (vr 3) (λ_ _=>rfl)) (vr 3) (λ_ _=>rfl)) ac))) ac)))) (ai (aq (pec m u T.W_O (aa (pec l u T.W_af (aa (vr 4) (aa (be rfl T.g_WHOLE) ac))) (aa (aJ (aa (av aH (ak aj (vr 1) (vr 2) (λ_ _=>rfl)) (ak aj (vr 1) (vr 3) (λ_ _=>rfl))) (aa af ac))) ac)))))),bU ?_⟩;intro ab;obtain⟨k1,k2,k3,k4,W,k6,_,_⟩:=O.all G c d zi zj;refine dG J c d λy1 f h1 r1=>?_
  cases r1;refine dG J c c λy2 f h2 r2=>?_
  cases r2;refine dG J d d λy3 f h3 r3=>?_
  cases r3;refine⟨y2,y3,_,_,rfl,h2,h3,(O.dg i c).bb,(O.dg j d).bb,trivial,λH1 z1 M D=>?_⟩;refine⟨y1,z1,_,_,rfl,h1.same M,D,(O.ok i j c d).bb,k1,k2,λH2 z2 s2 F=>?_⟩;refine⟨z2,.ref a.k_WHOLE,_,1,rfl,F,eW T,k3,bb1,trivial,λH3 Y s3 x=>?_⟩;have g:=M.trans (s2.trans s3);obtain⟨a1,a2,X⟩:=G.at c;obtain⟨b1,b2,b3⟩:=G.at d;refine .inl ⟨R,_,_,.int (b.getD i 0),rfl,rfl,SqL.of (g _ _ r),aQ (by rw[List.getElem?_map,X];rfl),.inl ⟨R,_,_,.int (b.getD j 0),rfl,rfl,SqL.of (g _ _ r),aQ (by rw[List.getElem?_map,b3];rfl),clB (by lia) (by lia),?_⟩⟩;refine⟨bF _ _,λL B=>?_⟩;have N:=Same.new (o:=.tup [.int (b.getD i 0*b.getD j 0),.int 1]) B;refine⟨Y,.ref L,_,((b.getD i 0*b.getD j 0:Int):Rat),rfl,x.same N,⟨L,rfl,.inl ae⟩,k4,W,trivial,λH5 S Z y=>q H5 S (g.trans (N.trans Z)) ?_⟩;rw[k6];exact y
theorem En(T:Txt K mg a):cU P w K mg base 5 bP fvS ["one","other"] (Bn K):=by
 have d:FnO P w K mg base 4 (spSP K):=Do T;refine iM lsS (λJ B g c p u=>match p,u with | [_,_],_=>rfl) (λb vs H Q E h=>?_) (λA outer s H f c g b vs Q E hr hfv ca h=>?_)
 .obtain⟨n,C,i,j,v,l,e,b,rfl,rfl,_⟩:=h;rfl
 .obtain⟨n,C,i,j,v,l,e,F,rfl,rfl,y,o,I,G,m,q⟩:=h
  refine⟨_,(pec d hr T.W_ac (aa (vr 3) (aa (vr 2) (aa (vr 0) (aa (vr 1) ac))))),?_⟩;exact⟨n,C,i,j,v,l,e,F,rfl,y.q (SQ.un ca),o,I,G,m,λL x D r=>λH3 s3 hc=>q _ x (iT D s3 hc) (r.same s3)⟩
theorem DX(T:Txt K mg a):FnX P w base 6 T.W_M (spPT K):=by
 have F:cU P w K mg base 5 bP fvS ["one","other"] (Bn K):=En T;have W:FnO P w K mg base 5 (spTotal K):=(wu T).mono (by decide);refine T.W_M.A.okz sc_M λa4 A aS s H vs Q E hr h=>?_
 .have as:sizeLine=16777216:=sizeLine_eq
  refine⟨_,(ag (psl 2 sc_M (bL ac)) (ag (cc PassesOwn.never rfl (aN (vr 0)) (am (i:=3) sc_M.nd rfl (Or.inr rfl)) (ai (bO (pe_m.extend (vr 2) (aa (aL rfl (N:=["other","tell","one"]) (ix:=[none,some 1,some 3]) ⟨rfl,rfl,rfl,rfl,⟨rfl,rfl,rfl,⟨rfl,rfl,rfl,trivial⟩⟩⟩ (aN (vr 0)) ⟨λC s H fp=>am (i:=0) (show List.Nodup (["other","tell","one"]:List Str) by decide +kernel) rfl (Or.inl rfl),λC s H fp=>aG,λC s H fp=>(c7 (vr 1) F hr (aa (vr 2) (aa (vr 0) ac)))⟩) ac))))) (ai (aq (pec W hr T.W_aF (aa (vr 2) ac)))))),eh ?_⟩;intro a1 a3;obtain⟨n,C,p,v,lv,tv,e,b,rfl,Y,X,hI,q⟩:=h;have O:=hI.ok;have pl:=uc e n;have a2:=O.n24;have J:∀ i∈pss e n,i<n/\e i i≠0:=λi hi=>kO hi
  have Z:∀{g:Hp}{z:V},Same H g->IsQ K g ((jL e (vf b) (pss e n) (pss e n)).sum) z->Q z g:=λs h=>q _ _ s h
  generalize pss e n=ps at Y pl J Z;refine⟨Nat.zero_le _,λl hl=>?_⟩;have s1:=Same.new (o:=.lst []) hl
  let Pw4:PvS:=λi σ g=>Same H g/\∃(xs:List V) (x3:Option V),σ=[some (.ref p),some tv,some (.ref l),x3]/\g l=some (.lst xs)/\AllF K g ((jL e (vf b) (ps.take i) ps).map fr) xs/\i<=ps.length
  refine .inl ⟨⟨_,SqL.of (s1 _ _ Y)⟩,df (K:=K) (a:=p) (xs:=nI ps) Pw4
   ⟨s1,[],none,rfl,ae,.nil,Nat.zero_le _⟩ (λi σ g _ h=>SqL.of (h.1 _ _ Y)) ?_ ?_⟩
  .rintro i x σ g hx ⟨L,xs,x3,rfl,r,M,a'⟩
   have G:i<ps.length:=by have:=(List.getElem?_eq_some_iff.mp hx).1;rw[length_map]at this;exact this
   obtain⟨i1,hi1,rfl⟩:∃ i1,ps[i]? = some i1/\V.int (i1:Nat)=x:=by
    rw[List.getElem?_map,List.getElem?_eq_getElem G]at hx;exact⟨_,List.getElem?_eq_getElem G,Option.some.inj hx⟩
   have m1:=J i1 (List.mem_of_getElem? hi1)
   have xl:xs.length<=24*24:=by
    rw[<- M.len,length_map,l7,length_take];exact Nat.mul_le_mul (by lia) (by lia)
   refine⟨.inl ⟨rfl,_,SqL.of r⟩,?_⟩;refine .inl ⟨⟨_,SqL.of (L _ _ Y)⟩,λD hD=>?_⟩
   let Pw5:PvL:=λj d m=>Same g m/\m D=some (.lst d)/\j<=ps.length/\AllF K m (((ps.take j).map λj=>prt e (vf b) i1 j).map fr) d
   refine aD (K:=K) (a:=p) (xs:=nI ps) Pw5 ⟨Same.new hD,ae,Nat.zero_le _,.nil⟩ (λj d m h=>SqL.of (h.1 _ _ (L _ _ Y))) (λj d m h=>h.2.1) ?_ ?_
   .rintro j y d m P' hy ⟨u,I,hj,R⟩ an
    have B:j<ps.length:=by have:=(List.getElem?_eq_some_iff.mp hy).1;rw[length_map]at this;exact this
    obtain⟨j1,hj1,rfl⟩:∃ j1,ps[j]? = some j1/\V.int (j1:Nat)=y:=by
     rw[List.getElem?_map,List.getElem?_eq_getElem B]at hy;exact⟨_,List.getElem?_eq_getElem B,Option.some.inj hy⟩
    have m2:=J j1 (List.mem_of_getElem? hj1);have al:=L.trans u;have sq:=SQ.of al.t;have zl:d.length=j:=by rw[<- R.len,length_map,length_map,length_take];lia
    obtain⟨f,c,ab,rfl,e1,e2,e3,e4,e5⟩:=X.t al.t;refine⟨⟨rfl,rfl,trivial⟩,⟨f,_,_,_,rfl,e1⟩,λf' d' a0 c' _ z=>z,f,c,ab,_,rfl,e1,e2,e3,e4,e5,n,C,i1,j1,v,lv,e,b,rfl,rfl,hI.q sq,m1.1,m2.1,m1.2,m2.2,λH4 x s4 hx4=>?_⟩;have ad:=s4 _ _ I;have tk:TK H4 (upd H4 D (.lst (d++[x]))):=TK.lst ad;refine⟨ad,by lia,an _ _ ⟨(u.trans s4).put hD,ae,B,?_⟩⟩;rw[take_add_one,hj1,map_append,map_append];exact AllF.snoc (hx4.tk tk) ((R.same s4).tk tk)
   rintro d m ⟨u,I,_,R⟩;rw[length_map,take_length]at R;have zl:d.length=ps.length:=by rw[<- R.len,length_map,length_map]
   have S:=u _ _ r;refine⟨l,D,xs,d,rfl,rfl,S,I,by lia,?_⟩;have tk:TK m (upd m l (.lst (xs++d))):=TK.lst S;refine⟨(L.trans u).put hl,xs++d,_,rfl,ae,?_,G⟩;rw[take_add_one,hi1];show AllF K _ ((jL e (vf b) (ps.take i++[i1]) ps).map fr) _;rw[wg,map_append];exact rO ((M.same u).tk tk) (R.tk tk)
  .rintro σ g ⟨L,xs,x3,rfl,r,M,_⟩
   rw[length_map,take_length]at M
   have xl:xs.length<=24*24:=by
    rw[<- M.len,length_map,l7];exact Nat.mul_le_mul (by lia) (by lia)
   have Dl:Nd.Dn e n C<2 ^ 1900:=Nat.lt_of_lt_of_le O.lt (Nat.pow_le_pow_right (by decide) (by decide));refine⟨l,_,xs,Nd.Dn e n C,rfl,r,M,by lia,O.pos,Dl,λq0 ap=>?_,λm z u hz=>Z (L.trans u) hz⟩;obtain⟨i,hi,j,hj,rfl⟩:=wB ap;obtain⟨_,_,_,_,_,_,k7,k8⟩:=O.all hI.vo (J i hi).1 (J j hj).1 (J i hi).2 (J j hj).2;exact⟨k7,k8⟩
theorem BB(T:Txt K mg a)(L:Bm mg base):FnX P w base 7 T.W_s (spSB a K):=by
 have p:FnO P w K mg base 6 (spPT K):=DX T;have l:FnO P w K mg base 6 (spPWS K):=(Ci T).mono (by decide);refine T.W_s.A.okL T.lcd_s sc_s (by decide +kernel) (λN H Q E h=>?_) (λA outer s H N Q E hr h=>?_)
 .obtain⟨n,C,v,y,e,b,rfl,_⟩:=h;rfl
 .obtain⟨n,C,v,y,e,b,rfl,u,O,q⟩:=h
  refine⟨_,(gM sc_s.nd (by decide +kernel) p hr rfl T.W_M.C T.W_M.A.kp T.W_M.B .nil (aa (pec l hr T.W_N (aa (vr 0) ac)) (aa (iN (d:=bP) rfl T.lch_s L rfl (by with_unfolding_all rfl) rfl (oj a) (.head _) T.tnd oR) ac))),?_⟩;refine⟨n,v,e,rfl,u.ok.n24,u.mx,λY r j o=>?_⟩;refine⟨O.same j,λf c S I m J R G=>?_⟩;intro W i B;have M:=B 0 _ _ _ rfl rfl (by with_unfolding_all rfl);have D:=B 1 _ _ _ rfl rfl (by with_unfolding_all rfl);have g:=I.trans i.t;exact⟨n,C,r,v,y,.ref f,e,b,rfl,g.at o,⟨f,c,_,rfl,i _ _ R,i _ _ G,rfl,by simp,.cons D (.cons M .nil)⟩,u.q (SQ.of (j.t.trans g)),λX z x F=>q _ z ((j.t.trans g).trans x.t) ((m.same i).same x) F⟩
theorem BD(T:Txt K mg a)(S:Bm mg base):FnX P w base 17 T.W_aD (spSpr a K):=by
 have d:FnO P w K mg base 16 (spCh a K):=Bu T S;have e:FnO P w K mg base 16 spValues:=(vS T).mono (by decide);have o:FnO P w K mg base 16 (spSB a K):=(BB T S).mono (by decide);refine T.W_aD.A.okz v5 λab A D s H vs Q E F h=>?_
 .obtain⟨l,b,N,n,v,X,rfl,R,f,j,c,J,G,Z,I,hT,q⟩:=h
  refine⟨_,(ai (aq (pec o F T.W_s (aa (pec d F T.W_at (aa (vr 0) (aa (vr 1) ac))) (aa (pec e F T.W_ao (aa (vr 0) ac)) ac))))),?_⟩;refine⟨l,b,N,n,v,X,rfl,R,f,j,c,J,G,Z,I,hT,λH1 r L i B _ _ _ hM=>?_⟩;refine⟨l,b,N,rfl,i.at R,f.tk (SameT.tk i),j,λH2 M m _ y=>?_⟩;obtain⟨C,O⟩:=AO G J I;rw[gz]at O
  have hv:VOk (b.map U.value) b.length:=⟨length_map _,λx hx=>by
   obtain⟨u,f,rfl⟩:=mem_map.mp hx;have g:=j.each u f;have:=g.v0;have:=g.v1
   constructor <;> lia⟩
  exact⟨b.length,C,.ref r,.ref M,_,b.map U.value,rfl,⟨O,hv,hM.q (SQ.of m.t),M,rfl,by rw[map_map];exact y⟩,B.same m,λH3 z Y p W=>q _ _ ((i.trans m.t).trans Y) p W⟩
end
open Nst (Mb plc szs hd tl bN groups aT parts outer aK a7 aW)
inductive spMix(vs:List V)(H:Hp)(Q:VK)(_E:XK):Prop
 | mk(c k:Int)(h0:vs=[.int c,.int k])(h1:0<=k)(h2:k<=1000)(h3:∀ r:Int,0<=r->Q (.int r) H):spMix vs H Q _E
inductive spDigits(vs:List V)(H:Hp)(Q:VK)(_E:XK):Prop
 | mk(c:Int)(h0:vs=[.int c])(h1:∀ p (n:Int),H p=none->Q (.ref p) (upd H p (.lst [.int n]))):spDigits vs H Q _E
inductive spTake(vs:List V)(H:Hp)(Q:VK)(_E:XK):Prop
 | mk(p:Addr)(n m:Int)(h0:vs=[.ref p,.int m])(h1:H p=some (.lst [.int n]))(h2:0<m)(h3:m<=1000000000000)(h4:∀(r n':Int),0<=r->r<m->Q (.int r) (upd H p (.lst [.int n']))):spTake vs H Q _E
def SameP(p:Addr)(H H':Hp):Prop:=∀ b o,b≠p->H b=some o->H' b=some o
theorem SameP.refl{p:Addr}{H:Hp}:SameP p H H:=λ_ _ _ e=>e
theorem SameP.trans{p:Addr}{H c a:Hp}(s:SameP p H c)(t:SameP p c a):SameP p H a:=λb o n e=>t b o n (s b o n e)
theorem SameP.of{p:Addr}{H a:Hp}(s:Same H a):SameP p H a:=λb o _ e=>s b o e
theorem SameP.put{p:Addr}{H:Hp}{o:HO}:SameP p H (upd H p o):=λb a n e=>by rw[ar n];exact e
theorem SameP.tk{p:Addr}{H a:Hp}{xs:List V}(c:H p=some (.lst xs))(s:SameP p H a):TK H a:=λb d e=>s b _ (λz=>by rw[z,c]at e;cases e) e
theorem SameP.free{p r:Addr}{H a:Hp}(s:SameP p H a)(n:r≠p)(h:a r=none):H r=none:=by
 cases e:H r with
 | none=>rfl
 | some o=>rw[s r o n e]at h;cases h
theorem SameP.push{p r:Addr}{H a:Hp}{o:HO}(s:SameP p H a)(h:H r=none):SameP p H (upd a r o):=λb c n e=>by
 rw[ar (ay e h)];exact s b c n e
inductive spWhole(vs:List V)(H:Hp)(Q:VK)(_E:XK):Prop
 | mk(x:Int)(h0:vs=[.int x])(h1:Q (.bl true) H):spWhole vs H Q _E
inductive spDiv(vs:List V)(H:Hp)(Q:VK)(_E:XK):Prop
 | mk(x y:Int)(h0:vs=[.int x,.int y])(h1:0<=y)(h2:Q (.int (Int.gcd x y:Int)) H):spDiv vs H Q _E
inductive spIsFr(K:Frag)(vs:List V)(H:Hp)(Q:VK)(_E:XK):Prop
 | mk(x:V)(q:Rat)(h0:vs=[x])(h1:IsQ K H q x)(h2:Q (.bl true) H):spIsFr K vs H Q _E
section
variable {P:Program}{w:World}{K:Frag}{mg:Str->Option Value}{base:Heap}{a:Ad}
theorem CB(T:Txt K mg a):FnX P w base 1 T.W_aG spMix:=by
 refine T.W_aG.A.okz kT λe A b s H l Q E g h=>?_
 .obtain⟨c,k,rfl,i,j,q⟩:=h
  refine⟨_,(ag (psl 2 kT (av fQ (av aH (av c8 (vr 0) (av aH af (vr 1))) af) af)) (ag (psl 2 kT (av fQ (av aH (vr 2) (vr 2)) af)) (ai (aq (av fQ (av c8 (av c8 (av aH (vr 2) (vr 2)) (av aH af (vr 2))) (vr 1)) af))))),eh ?_⟩;intro d f;exact⟨clB,crB,cp,clB (by lia) (by lia),cp,clB (by lia) (by lia),clB,cp,q _ (by lia)⟩
theorem vM(T:Txt K mg a):FnX P w base 2 T.W_X spDigits:=by
 have f:FnO P w K mg base 1 spMix:=CB T;refine T.W_X.A.okz sc_X λB A l s H D Q E o h=>?_
 .obtain⟨c,rfl,q⟩:=h
  refine⟨_,(ag (a8 (PW.pt (sW (a5 dM (av fQ (vr 0) af) af (aB _)) (oK (a5 zI (ao mi rfl T.z_abs sw (aa (vr 0) ac)) (av rE af af) (aB _))))) (ai (aq (bL (aa (av cE (vr 0) af) ac)))) aE) (ag (psl 1 sc_X af) (ag (cc PassesOwn.never rfl (bR rfl T.z_range (aa af ac)) (am (i:=2) sc_X.nd rfl (Or.inl rfl)) (ai (psl 1 sc_X (av c8 (av aH (vr 1) af) (pec f o T.W_aG (aa (vr 0) (aa (vr 2) ac))))))) (ai (aq (bL (aa (vr 1) ac))))))),ww ?_⟩;intro v u C;have j:sizeLine=16777216:=sizeLine_eq
  have d:∀ n:Int,([V.int n]:List V).length<=sizeLine:=λn=>(by decide:1<=sizeLine)
  refine⟨cp,ifC (λ_=>?_) λ_=>?_⟩
  .refine⟨c,rfl,cw,ifC (λ_=>?_) λ_=>?_⟩
   .exact⟨cdB (by decide) (show Bt 40 2 by unfold Bt;decide),d _,λp g=>q p _ g⟩
   .refine⟨24,rfl,by lia,by lia,?_⟩
    let Pw1:PvS:=λi b e=>e=H/\∃(n:Int) (x:Option V),b=[some (.int c),some (.int n),x]
    refine cY Pw1 ⟨rfl,0,none,rfl⟩ ?_ ?_
    .rintro i b e m ⟨rfl,n,x,rfl⟩
     exact⟨crB,c,_,rfl,by lia,by lia,λr y=>⟨rfl,_,_,rfl⟩⟩
    .rintro b e ⟨rfl,n,x,rfl⟩
     exact⟨d _,λp g=>q p _ g⟩
  .refine⟨24,rfl,by lia,by lia,?_⟩
   let Pw2:PvS:=λi b e=>e=H/\∃(n:Int) (x:Option V),b=[some (.int c),some (.int n),x]
   refine cY Pw2 ⟨rfl,0,none,rfl⟩ ?_ ?_
   .rintro i b e m ⟨rfl,n,x,rfl⟩
    exact⟨crB,c,_,rfl,by lia,by lia,λr y=>⟨rfl,_,_,rfl⟩⟩
   .rintro b e ⟨rfl,n,x,rfl⟩
    exact⟨d _,λp g=>q p _ g⟩
theorem oS(T:Txt K mg a):FnX P w base 1 T.W_y spTake:=by
 refine T.W_y.A.okz nX λf A c s H l Q E j h=>?_
 .obtain⟨p,n,m,rfl,b,d,i,q⟩:=h
  refine⟨_,(ag (psl 2 nX (av fQ (ak aj (vr 0) af (λ_ _=>rfl)) (vr 1))) (ag (o8 (av cE (ak aj (vr 0) af (λ_ _=>rfl)) (vr 1)) (C0 (vr 0) af wL)) (ai (aq (vr 2))))),eh ?_⟩;intro e g;refine .inl ⟨p,_,_,_,rfl,rfl,SqL.of b,aP 0 rfl rfl,cp (by lia),?_⟩;refine .inl ⟨p,_,_,_,rfl,rfl,SqL.of b,aP 0 rfl rfl,cdB (by lia) (show Bt 40 m by unfold Bt;lia),?_⟩;refine⟨p,_,_,0,rfl,rfl,b,rfl,?_⟩;exact q _ _ (Int.emod_nonneg _ (by lia)) (Int.emod_lt_of_pos _ d)
theorem zd(T:Txt K mg a):FnX P w base 1 T.W_au spWhole:=by
 refine T.W_au.A.okz sX λc A b s H d Q E e h=>?_
 .obtain⟨x,rfl,q⟩:=h
  refine⟨_,(ai (aq (di (ao cJ rfl T.z_isinstance aX (aa (vr 0) (aa (cX (v:=.ty "int") rfl T.z_int oU rfl) ac))) (dQ (ud (ao cJ rfl T.z_isinstance aX (aa (vr 0) (aa (cX (v:=.ty "bool") rfl T.z_bool uw rfl) ac)))))))),?_⟩;exact⟨_,_,_,true,rfl,rfl,.int x,rfl,⟨_,_,_,false,rfl,rfl,.int x,rfl,q⟩⟩
theorem wC(T:Txt K mg a):FnX P w base 1 T.W_T spDiv:=by
 refine T.W_T.A.okz sc_T λB A r s H G Q E F h=>?_
 .obtain⟨g,p,rfl,v,q⟩:=h
  refine⟨_,(ag (lP PassesOwn.never (a5 ya (vr 1) af (aB _)) (ai (zm rfl sc_T.nd (i:=0) (j:=1) rfl rfl (by decide) rfl rfl (aa (vr 1) (aa (av fQ (vr 0) (vr 1)) ac)) rfl))) (ai (aq (ao mi rfl T.z_abs sw (aa (vr 0) ac))))),bU ?_⟩;intro C;refine⟨λm u o=>o=H/\∃ x y:Int,0<=y/\m=y.toNat/\Int.gcd x y=Int.gcd g p/\u=[some (.int x),some (.int y)],⟨_,rfl,g,p,v,rfl,rfl,rfl⟩,?_⟩;rintro m u o ⟨rfl,x,y,D,rfl,l,rfl⟩;refine ifB (λc=>?_) (λc=>?_)
  .have f:y≠0:=by simpa using c
   let Pw3:St->Hp->Prop:=λb d=>d=o/\b=[some (.int y),some (.int (x % y))]
   refine⟨Pw3,?_,?_⟩
   .rintro b d ⟨rfl,rfl⟩
    exact⟨(x % y).toNat,by have:=Int.emod_lt_of_pos x (show 0<y by lia);have:=Int.emod_nonneg x f;lia,rfl,y,x % y,Int.emod_nonneg x f,rfl,by rw[rq,l],rfl⟩
   .exact⟨cp (by lia),_,_,rfl,rfl,rfl⟩
  .have f:y=0:=by simpa using c
   subst f;rw[Int.gcd_zero_right]at l;refine⟨x,rfl,?_⟩
   have e:(if x<0 then -x else x)=(Int.gcd g p:Int):=by rw[<- l];split <;> lia
   rw[e];exact q
theorem wt(T:Txt K mg a):FnX P w base 2 T.W_ak spLow:=by
 have c:FnO P w K mg base 1 spDiv:=wC T;refine T.W_ak.A.okz kj λm A d s H B Q E l h=>?_
 .obtain⟨t,b,rfl,g,r,j,q⟩:=h
  refine⟨_,(ag (psl 2 kj (pec c l T.W_T (aa (vr 0) (aa (vr 1) ac)))) (ai (aq (aJ (aa (av cE (vr 0) (vr 2)) (aa (av cE (vr 1) (vr 2)) ac)))))),bU ?_⟩;intro o;obtain⟨f,y,v,x,u⟩:=low t b g;refine⟨_,_,rfl,by lia,?_⟩;have e:Bt 3000 (Int.gcd t b:Int):=j.le (by lia);refine⟨cdB f e,cdB f e,bF _ _,λp i=>?_⟩;exact q _ p (Same.new i) ae
theorem u6(T:Txt K mg a):FnX P w base 3 T.W_av (spAri (· + ·) (λ_=>True) K):=by
 have c:FnO P w K mg base 2 spLow:=wt T;refine T.W_av.A.okz wz λo A i s H I Q E C h=>?_
 .obtain⟨x,y,p,q,rfl,⟨x,rfl,B⟩,⟨y,rfl,v⟩,⟨l,e⟩,⟨j,d⟩,G,D⟩:=h
  have g:=B.sq;have b:=v.sq;have u:(0:Int)<(p.den:Int):=by have:=p.den_pos;lia
  have m:(0:Int)<(q.den:Int):=by have:=q.den_pos;lia
  refine⟨_,(ai (aq (pec c C T.W_ak (aa (av c8 (av aH (ak aj (vr 0) af (λ_ _=>rfl)) (ak aj (vr 1) af (λ_ _=>rfl))) (av aH (ak aj (vr 1) af (λ_ _=>rfl)) (ak aj (vr 0) af (λ_ _=>rfl)))) (aa (av aH (ak aj (vr 0) af (λ_ _=>rfl)) (ak aj (vr 1) af (λ_ _=>rfl))) ac))))),?_⟩;refine px0 g (px1 b ⟨cmB l d,px0 b (px1 g ⟨cmB j e,px1 g (px1 b ⟨cmB e d,?_⟩)⟩)⟩);exact⟨_,_,rfl,Int.mul_pos u m,((l.mul d).add (j.mul e)).mono (by decide),(e.mul d).mono (by decide),λF r s f=>D _ _ s ⟨r,rfl,.inl (by rw[<- u8 p q];exact f)⟩⟩
theorem rG(T:Txt K mg a):FnX P w base 3 T.W_ar (spAri (· * ·) (λ_=>True) K):=by
 have c:FnO P w K mg base 2 spLow:=wt T;refine T.W_ar.A.okz ow λo A e s H I Q E C h=>?_
 .obtain⟨x,y,p,q,rfl,⟨x,rfl,B⟩,⟨y,rfl,v⟩,⟨j,l⟩,⟨f,g⟩,G,D⟩:=h
  have i:=B.sq;have b:=v.sq;have u:(0:Int)<(p.den:Int):=by have:=p.den_pos;lia
  have m:(0:Int)<(q.den:Int):=by have:=q.den_pos;lia
  refine⟨_,(ai (aq (pec c C T.W_ak (aa (av aH (ak aj (vr 0) af (λ_ _=>rfl)) (ak aj (vr 1) af (λ_ _=>rfl))) (aa (av aH (ak aj (vr 0) af (λ_ _=>rfl)) (ak aj (vr 1) af (λ_ _=>rfl))) ac))))),?_⟩;refine px0 i (px0 b ⟨cmB j f,px1 i (px1 b ⟨cmB l g,?_⟩)⟩);exact⟨_,_,rfl,Int.mul_pos u m,(j.mul f).mono (by decide),(l.mul g).mono (by decide),λF r s d=>D _ _ s ⟨r,rfl,.inl (by rw[<- tR p q];exact d)⟩⟩
theorem qK(T:Txt K mg a):FnX P w base 1 T.W_aj (spBel K):=by
 refine T.W_aj.A.okz vL λr A c s H v Q E u h=>?_
 .obtain⟨x,y,p,q,rfl,⟨x,rfl,j⟩,⟨y,rfl,g⟩,⟨i,m⟩,⟨l,o⟩,f⟩:=h
  have d:=j.sq;have b:=g.sq;refine⟨_,(ai (aq (b7 mG (av aH (ak aj (vr 0) af (λ_ _=>rfl)) (ak aj (vr 1) af (λ_ _=>rfl))) (av aH (ak aj (vr 1) af (λ_ _=>rfl)) (ak aj (vr 0) af (λ_ _=>rfl))) (aB _)))),?_⟩;refine px0 d (px1 b ⟨cmB i o,px0 b (px1 d ⟨cmB l m,?_⟩)⟩);have e:decide (p<q)=decide (p.num*(q.den:Int)<q.num*(p.den:Int)):=decide_eq_decide.mpr (Rat.lt_iff p q);rw[e]at f;exact f
theorem tS(T:Txt K mg a):FnX P w base 2 T.W_I (spIsFr K):=by
 have d:FnO P w K mg base 1 spWhole:=zd T;have i:FnO P w K mg base 1 spDiv:=wC T;refine T.W_I.A.okz jq λm A j s H u Q E g h=>?_
 .obtain⟨x,b,rfl,⟨p,rfl,f⟩,q⟩:=h
  refine⟨_,(ag (a8 (PW.pt (gq (cf (bT (ao wP rfl T.z_isinstance aX (aa (vr 0) (aa (cX (v:=.ty "tuple") rfl T.z_tuple i7 rfl) ac))))) (gq (a5 ya (ao ax rfl T.z_len aF (aa (vr 0) ac)) af (aB _)) (gq (cf (bT (pec d g T.W_au (aa (ak aj (vr 0) af (λ_ _=>rfl)) ac)))) (fM (cf (bT (pec d g T.W_au (aa (ak aj (vr 0) af (λ_ _=>rfl)) ac))))))))) (ai (aq fz)) aE) (ai (aq (di (b7 zI (ak aj (vr 0) af (λ_ _=>rfl)) af (aB _)) (dQ (b7 dM (pec i g T.W_T (aa (ak aj (vr 0) af (λ_ _=>rfl)) (aa (ak aj (vr 0) af (λ_ _=>rfl)) ac))) af (aB _))))))),bU ?_⟩;intro o;have r:(0:Int)<(b.den:Int):=by have:=b.den_pos;lia
  refine⟨_,_,_,true,rfl,rfl,.inr ⟨p,_,rfl,rfl,f.sq⟩,rfl,?_⟩;refine⟨_,.inr f.sq,?_⟩;refine px0 f.sq ⟨_,rfl,?_⟩;refine px1 f.sq ⟨_,rfl,?_⟩;refine px1 f.sq (ifC (λc=>?_) (λc=>absurd r c));refine px0 f.sq (px1 f.sq ⟨_,_,rfl,by lia,?_⟩);have e:Int.gcd b.num (b.den:Int)=1:=b.reduced;have l:decide (((Int.gcd (fr b).1 (fr b).2:Nat):Int)=1)=true:=decide_eq_true (by show((Int.gcd b.num (b.den:Int):Nat):Int)=1;rw[e];rfl);show Q (.bl (decide (((Int.gcd (fr b).1 (fr b).2:Nat):Int)=1))) H;rw[l];exact q
end
end My
namespace L2
open PySem PySem.Spec PySem.Calls PyProof.Rows
theorem zS{X:Cx}:OpR X (binaryOp .Mult) (λx y H Q=>∃ z n,x=.str z/\y=.int n/\0<=n/\n<=2/\z.cps.size<=100/\∀ r:Str,r.cps.toList=(List.replicate n.toNat z.cps.toList).flatten->Q (.str r) H):=by
 intro b s l H x y v u Q I c f h;obtain⟨z,n,rfl,rfl,g,j,i,q⟩:=h;obtain⟨t,rfl⟩:=c;obtain⟨m,rfl⟩:=f;have d:n=0\/n=1\/n=2:=by lia
 rcases d with rfl | rfl | rfl
 .exact PySem.P.mul_str_none (by decide) (by decide) ⟨.str Str.empty,H,I.tok _,⟨_,rfl⟩,q _ rfl⟩
 .refine PySem.P.mul_str (by decide) (λ_ h=>by simp at h) (λ_ h=>by simp at h) ?_
  rw[if_neg (by decide),if_pos (by simp)];exact⟨.str z,H,I,⟨_,rfl⟩,q _ (by simp)⟩
 .have a:z.length=z.cps.size:=rfl
  refine PySem.P.mul_str (by decide) (λ_ _=>?_) (λ_ _=>?_) ?_
  .rw[a];lia
  .show decide (z.length*2 > sizeLine)=false
   rw[a,sizeLine_eq];exact decide_eq_false (by lia)
  .rw[if_neg (by decide)]
   split
   .rename_i hz0
    have e:z.cps = #[]:=by
     have:z.length=0:=by simpa using hz0
     exact Array.eq_empty_of_size_eq_zero this
    exact⟨.str z,H,I,⟨_,rfl⟩,q _ (by rw[e];rfl)⟩
   .exact⟨by show(#[]++z.cps++z.cps).size<=sizeLine;rw[sizeLine_eq];simp;lia,.str _,H,I.tok _,⟨_,rfl⟩,q _ (by simp[List.replicate,List.foldl])⟩
section
variable {X:Cx}
variable {o e:Expr}{es:List Expr}{to:TE}{t:TA}{apos cpos:Pos}
end
end L2
namespace L2
open PySem PySem.Spec PyProof.Rows
section
variable {X:Cx}
theorem Ay{e:Expr}{b:TE}{a:Pos}(c:PEq X e b):PSt X (.Return (some e) a) (DM b):=tF (aq (kG c))
end
section
variable {P:Program}{w:World}{K:Frag}{mg:Str->Option Value}{base:Heap}
theorem Fun.okQ{x a:Str}{st:Stmt}{f:Addr}{e:FuncData}{N c:List Str}{k:Nat}{sp:Sp}(F:Fun K x a st f e)(S:FnScope N c (ah st))(d:∀ vs H Q E,sp vs H Q E->vs.length=c.length)
  (b:∀(cdv:Value) (A:Around) (outer:List Env) (s:Shared) (H:Hp) (vs:List V) (Q:VK) (E:XK),Room k (A.deeper (envOfC a (ah st) s.heap.objs.size f cdv))->sp vs H Q E ->
   ∃ t,PSq (dw CX0 P w K mg base N a (ah st) f cdv A outer s H E).nox (cG st) t/\t { nx:=λ_ H'=>Q .non H',rt:=Q } (start N vs) H):FnOk P w K mg base CX0 (k+1) f e c sp :=
 F.ok S d λcdv A outer s H vs Q E g h=>let ⟨t,h1,h2⟩:=b cdv A outer s H vs Q E g h;⟨t,zM h1,h2⟩
end
end L2
namespace My
open PySem L2 FrM Du Nd
open Nst (Mb plc szs hd tl bN groups aT parts outer aK a7 aW)
inductive spUnits(vs:List V)(H:Hp)(Q:VK)(_E:XK):Prop
 | mk(p:Addr)(n m:Int)(lev:Nat)(h0:vs=[.ref p,.int m,.int (lev:Nat)])(h1:H p=some (.lst [.int n]))(h2:1<=m)(h3:m<=12)(h4:lev<=2)(h5:∀ H' l us xs n',SameP p H H'->H l=none->H' p=some (.lst [.int n'])->H' l=some (.lst xs)->AllU H' us xs->GoodL us->(us.length:Int)=m->(∀ u∈us,u.path.length=lev/\u.size<=(if m<=6 then 1000000 else 30))->Q (.ref l) H'):spUnits vs H Q _E
theorem EA:∀ i:Int,0<=i->i<26->atI ("abcdefghijklmnopqrstuvwxyz" : Str).cps.toList i=some (97+i.toNat):=by
 have h:∀ n:Nat,n<26->atI ("abcdefghijklmnopqrstuvwxyz" : Str).cps.toList (n:Int)=some (97+n):=by decide +kernel
 intro i a b;have:=h i.toNat (by lia);rwa [show((i.toNat:Nat):Int)=i by lia]at this
theorem nj(x y:Str):(x++y).cps.toList=x.cps.toList++y.cps.toList:=PySem.W.KT.app_list _ _
theorem zg(x y:Str):(x++y).cps.size=x.cps.size+y.cps.size:=by
 have:=congrArg List.length (nj x y);simpa using this
theorem C6{r:Str}{n:Int}(d:0<=n)(f:n<=2)(h:r.cps.toList=(List.replicate n.toNat ("u" : Str).cps.toList).flatten):r.cps.size<=2/\∀ c∈r.cps.toList,c=117:=by
 have e:("u" : Str).cps.toList=[117]:=by decide +kernel
 have a:r.cps.size=r.cps.toList.length:=by simp
 rw[a,h,e];have b:n=0\/n=1\/n=2:=by lia
 rcases b with rfl | rfl | rfl <;> exact⟨by decide,by decide⟩
theorem Ep{r:Str}{i:Int}(j:0<=i)(g:i<26)(e:r.cps.size<=2)(d:∀ c∈r.cps.toList,c=117):fH ((⟨#[97+i.toNat]⟩:Str)++r)=true/\((⟨#[97+i.toNat]⟩:Str)++r).cps.toList.head? = some (97+i.toNat):=by
 have b:=nj (⟨#[97+i.toNat]⟩:Str) r;have f:((⟨#[97+i.toNat]⟩:Str)++r).cps.size=1+r.cps.size:=by rw[zg];rfl
 refine⟨wA (by lia) (by lia) λc a=>?_,by rw[b];rfl⟩;rw[b]at a
 rcases mem_append.mp a with h | h
 .rw[mem_singleton.mp h];lia
 .rw[d c h];decide
theorem Aj{st:Int}(h:st∈([1,3,5,7,9,11,15,17,19,21,23,25]:List Int))(f:Int)(i j:Nat)(hi:i<12)(c:j<12)(e:((f+st*(i:Int)) % 26).toNat=((f+st*(j:Int)) % 26).toNat):i=j:=by
 have a:∀ st∈([1,3,5,7,9,11,15,17,19,21,23,25]:List Int),∀ k:Fin 12,∀ l:Fin 12,(st*(k.val:Int) - st*(l.val:Int)) % 26=0->k.val=l.val:=by decide +kernel
 have d:(f+st*(i:Int)) % 26=(f+st*(j:Int)) % 26:=by
  have m:=Int.emod_nonneg (f+st*(i:Int)) (show(26:Int)≠0 by decide);have g:=Int.emod_nonneg (f+st*(j:Int)) (show(26:Int)≠0 by decide);lia
 have b:=Int.emod_eq_emod_iff_emod_sub_eq_zero.mp d;rw[show f+st*(i:Int) - (f+st*(j:Int))=st*(i:Int) - st*(j:Int) by lia]at b;exact a st h ⟨i,hi⟩ ⟨j,c⟩ b
theorem DQ{us:List U}{n:Nat}{f:Nat->Option Nat}(e:us.map (λu=>u.name.cps.toList.head?)=(List.range n).map f)(h:∀ i j,i<n->j<n->f i=f j->i=j):(us.map U.name).Nodup:=by
 have b:((List.range n).map f).Nodup:=by
  rw[nodup_iff_pairwise_ne,pairwise_map];refine List.Pairwise.imp_of_mem (λ{x y} d c a z=>a ?_) (nodup_iff_pairwise_ne.mp nodup_range);exact h x y (mem_range.mp d) (mem_range.mp c) z
 rw[<- e,nodup_iff_pairwise_ne,pairwise_map]at b;rw[nodup_iff_pairwise_ne,pairwise_map];exact b.imp λa z=>a (by rw[z])
section
variable {P:Program}{w:World}{K:Frag}{mg:Str->Option Value}{base:Heap}{a:Ad}
theorem wU(T:Txt K mg a):FnX P w base 2 T.W_R spUnits:=by
 have f:FnO P w K mg base 1 spTake:=oS T;refine T.W_R.A.okQ sc_R (λvs H Q E h=>?_) (λcdv A outer s H vs Q E hr h=>?_)
 .obtain⟨p,n,m,g,rfl,_⟩:=h;rfl
 .obtain⟨p,n,m,g,rfl,hp,m1,m5,l2,q⟩:=h
  have ct:sizeLine=16777216:=sizeLine_eq;have e9:(10:Int) ^ (9:Int).toNat=1000000000:=by decide
  have e6:(10:Int) ^ (6:Int).toNat=1000000:=by decide
  refine⟨_,(dZ (iY (i:=3) sc_R.nd rfl (Or.inl rfl) (bK bV)) (dZ (iY (i:=4) sc_R.nd rfl (Or.inl rfl) (bK (pec f hr T.W_y (aa (vr 0) (aa af ac))))) (dZ (iY (i:=5) sc_R.nd rfl (Or.inl rfl) (Cv aj (uE (bj (bK af) (bj (bK af) (bj (bK af) (bj (bK af) (bj (bK af) (bj (bK af) (bj (bK af) (bj (bK af) (bj (bK af) (bj (bK af) (bj (bK af) (bj (bK af) vn))))))))))))) (pec f hr T.W_y (aa (vr 0) (aa af ac))) (λ_ _=>rfl))) (dZ (iY (i:=6) sc_R.nd rfl (Or.inl rfl) (bK (pec f hr T.W_y (aa (vr 0) (aa af ac))))) (dZ (iY (i:=7) sc_R.nd rfl (Or.inl rfl) (uE vn)) (dZ (tF (cc PassesOwn.never rfl (bR rfl T.z_range (aa (vr 1) ac)) (am (i:=8) sc_R.nd rfl (Or.inl rfl)) (ag (psl 9 sc_R (av c8 (ak aj (vr 3) (av fQ (av c8 (vr 4) (av aH (vr 5) (vr 8))) af) (λ_ _=>rfl)) (av zS bV (av fQ (vr 8) af)))) (ag (psl 10 sc_R (ak aj (bL (aa (av bE (pec f hr T.W_y (aa (vr 0) (aa af ac))) af) (aa (av bE (pec f hr T.W_y (aa (vr 0) (aa (av c8 (av aH af (av rE af af)) af) ac))) (av rE af af)) ac))) (pec f hr T.W_y (aa (vr 0) (aa af ac))) (λ_ _=>rfl))) (ag (psl 11 sc_R (av c8 af (pec f hr T.W_y (aa (vr 0) (aa (ak aj (bL (aa af (aa af (aa af (aa (ak aj (bL (aa (av rE af af) (aa af ac))) (bS mQ rfl T.z_int oU (aa (b7 zI (vr 1) af (aB _)) ac)) (λ_ _=>rfl)) ac))))) (vr 6) (λ_ _=>rfl)) ac))))) (ag (psl 12 sc_R (bS mF rfl T.z_tuple i7 (aa (aL rfl (N:=["_law_level","_law_state"]) (ix:=[none,some 0]) ⟨rfl,rfl,rfl,rfl,⟨rfl,rfl,rfl,trivial⟩⟩ (bR rfl T.z_range (aa (vr 2) ac)) ⟨λC s H fp=>am (i:=0) (show List.Nodup (["_law_level","_law_state"]:List Str) by decide +kernel) rfl (Or.inl rfl),λC s H fp=>aG,λC s H fp=>(ak (bG (K:=K) rfl) (bL (aa bV (aa bV (aa bV ac)))) (pec f hr T.W_y (aa (vr 1) (aa af ac))) (λ_ _=>rfl))⟩) ac))) (ai (bO (pe_m.append (vr 7) (aa (aJ (aa (vr 9) (aa (vr 10) (aa (vr 11) (aa (vr 12) ac))))) ac)))))))))) (AC (Ay (bK (vr 7)))))))))),?_⟩;refine⟨p,n,26,rfl,hp,by decide,by decide,λfi n1 f0 f1=>?_⟩;have s1:SameP p H (upd H p (.lst [.int n1])):=SameP.put
  have p1:(upd H p (.lst [.int n1])) p=some (.lst [.int n1]):=ae;generalize upd H p (.lst [.int n1])=H1 at s1 p1;refine⟨by show 12<=sizeLine;decide,λq1 an=>?_⟩;have cu:q1≠p:=λz=>by rw[z,p1]at an;cases an
  have s2:=Same.new (o:=.lst [.int 1,.int 3,.int 5,.int 7,.int 9,.int 11,.int 15,.int 17,.int 19,.int 21,.int 23,.int 25]) an;have b2:=ae (H:=H1) (a:=q1) (o:=.lst [.int 1,.int 3,.int 5,.int 7,.int 9,.int 11,.int 15,.int 17,.int 19,.int 21,.int 23,.int 25]);generalize upd H1 q1 (.lst [.int 1,.int 3,.int 5,.int 7,.int 9,.int 11,.int 15,.int 17,.int 19,.int 21,.int 23,.int 25])=H2 at s2 b2;refine⟨p,n1,12,rfl,s2 _ _ p1,by decide,by decide,λj n2 j0 j1=>?_⟩;have s3:SameP p H2 (upd H2 p (.lst [.int n2])):=SameP.put;have p3:(upd H2 p (.lst [.int n2])) p=some (.lst [.int n2]):=ae;generalize upd H2 p (.lst [.int n2])=H3 at s3 p3;obtain⟨v,hv,e⟩:=lR (xs:=[V.int 1,.int 3,.int 5,.int 7,.int 9,.int 11,.int 15,.int 17,.int 19,.int 21,.int 23,.int 25]) (i:=j) j0 (by show j<((12:Nat):Int);lia)
  obtain⟨st,rfl,hst⟩:∃ st:Int,v=.int st/\st∈([1,3,5,7,9,11,15,17,19,21,23,25]:List Int):=by
   simp only[mem_cons,not_mem_nil,or_false]at hv
   rcases hv with rfl | rfl | rfl | rfl | rfl | rfl | rfl | rfl | rfl | rfl | rfl | rfl <;> exact⟨_,rfl,by decide⟩
  have c1:1<=st/\st<=25:=(by decide:∀ st∈([1,3,5,7,9,11,15,17,19,21,23,25]:List Int),1<=st/\st<=25) st hst;refine .inl ⟨q1,_,_,_,rfl,rfl,SqL.of (s3 _ _ cu b2),e,?_⟩;refine⟨p,n2,4,rfl,p3,by decide,by decide,λwy n3 w0 w1=>?_⟩;have s4:SameP p H3 (upd H3 p (.lst [.int n3])):=SameP.put;have p4:(upd H3 p (.lst [.int n3])) p=some (.lst [.int n3]):=ae;generalize upd H3 p (.lst [.int n3])=H4 at s4 p4;have a2:SameP p H H4:=((s1.trans (SameP.of s2)).trans s3).trans s4;refine⟨Nat.zero_le _,λr X=>?_⟩;have nr:r≠p:=λz=>by rw[z,p4]at X;cases X
  have aS:H r=none:=a2.free nr X
  let Pw1:PvS:=λi σ x=>(i:Int)<=m/\SameP p H x/\∃(n':Int) (y:List U) (xs:List V) (x8 x9 Z as S:Option V),
    σ=[some (.ref p),some (.int m),some (.int (g:Nat)),some (.str "abcdefghijklmnopqrstuvwxyz"),some (.int fi),some (.int st),some (.int wy),some (.ref r),x8,x9,Z,as,S]/\x p=some (.lst [.int n'])/\x r=some (.lst xs)/\AllU x y xs /\
    y.map (λu=>u.name.cps.toList.head?)=(List.range i).map (λ(k:Nat)=>some (97+((fi+st*(k:Int)) % 26).toNat))/\∀ u∈y,GoodU u/\u.path.length=g/\u.size<=(if m<=6 then 1000000 else 30)
  refine⟨m,rfl,by lia,by lia,cY Pw1
   ⟨by lia,a2.push aS,n3,[],[],none,none,none,none,none,rfl,by rw[ar (Ne.symm nr)];exact p4,ae,.nil,rfl,λu B=>by cases B⟩ ?_ ?_⟩
  .rintro i σ G hi ⟨_,s5,n5,y,xs,x8,x9,Z,as,S,rfl,p5,W,hU,b,d⟩
   have c':(i:Int)<m:=by lia
   have bd:y.length=i:=by
    have:=congrArg List.length b;rw[length_map,length_map,length_range]at this;exact this
   have dc:xs.length=i:=by rw[<- hU.len,bd]
   refine⟨clB (by lia) (by lia),cp,.inr (.inr ⟨_,_,_,rfl,rfl,by decide +kernel,EA _ (by lia) (by lia),?_⟩)⟩;refine⟨cp, "u",_,rfl,rfl,by lia,by lia,by decide +kernel,λru ca=>?_⟩;obtain⟨b1,co⟩:=C6 (by lia) (by lia) ca;obtain⟨a0,bo⟩:=Ep (i:=(fi+st*(0+(i:Int))) % 26) (by lia) (by lia) b1 co
   have ch:((⟨#[97+((fi+st*(0+(i:Int))) % 26).toNat]⟩:Str).length+ru.length)<=sizeLine:=by
    show 1+ru.cps.size<=sizeLine;lia
   refine⟨ch,?_⟩;generalize (⟨#[97+((fi+st*(0+(i:Int))) % 26).toNat]⟩:Str)++ru=nm at a0 bo
   refine⟨p,n5,11,rfl,p5,by decide,by decide,λv1 n6 cR cO=>?_⟩;have s6:SameP p G (upd G p (.lst [.int n6])):=SameP.put;have p6:(upd G p (.lst [.int n6])) p=some (.lst [.int n6]):=ae;generalize upd G p (.lst [.int n6])=H6 at s6 p6;refine⟨cw,clB,p,n6,_,rfl,p6,by rw[e9];decide,by rw[e9];decide,λv2 n7 c0 b5=>?_⟩;rw[e9]at b5;have s7:SameP p H6 (upd H6 p (.lst [.int n7])):=SameP.put;have p7:(upd H6 p (.lst [.int n7])) p=some (.lst [.int n7]):=ae;generalize upd H6 p (.lst [.int n7])=H7 at s7 p7;refine⟨cw,by show 2<=sizeLine;decide,λq2 ad=>?_⟩;have br:q2≠p:=λz=>by rw[z,p7]at ad;cases ad
   have s8:=Same.new (o:=.lst [.int (v1 - 5),.int (v2 - 10 ^ (9:Int).toNat)]) ad;have b8:=ae (H:=H7) (a:=q2) (o:=.lst [.int (v1 - 5),.int (v2 - 10 ^ (9:Int).toNat)]);generalize upd H7 q2 (.lst [.int (v1 - 5),.int (v2 - 10 ^ (9:Int).toNat)])=H8 at s8 b8;refine⟨p,n7,2,rfl,s8 _ _ p7,by decide,by decide,λj2 n9 b4 cS=>?_⟩;have s9:SameP p H8 (upd H8 p (.lst [.int n9])):=SameP.put;have p9:(upd H8 p (.lst [.int n9])) p=some (.lst [.int n9]):=ae;generalize upd H8 p (.lst [.int n9])=H9 at s9 p9;obtain⟨y2,ab,e2⟩:=lR (xs:=[V.int (v1 - 5),V.int (v2 - 10 ^ (9:Int).toNat)]) (i:=j2) b4 (by show j2<((2:Nat):Int);lia)
   obtain⟨va,rfl,va0,va1⟩:∃ va:Int,y2=.int va/\-1000000000<=va/\va<=1000000000:=by
    simp only[mem_cons,not_mem_nil,or_false]at ab;rw[e9]at ab
    rcases ab with rfl | rfl
    .exact⟨_,rfl,by lia,by lia⟩
    .exact⟨_,rfl,by lia,by lia⟩
   refine .inl ⟨q2,_,_,_,rfl,rfl,SqL.of (s9 _ _ br b8),e2,?_⟩;have b3:SameP p G H9:=((s6.trans s7).trans (SameP.of s8)).trans s9
   refine⟨cw,by show 2<=sizeLine;decide,λq3 ap=>?_⟩;have c3:q3≠p:=λz=>by rw[z,p9]at ap;cases ap
   have bn:=Same.new (o:=.lst [.int (10 ^ (6:Int).toNat),.int 9]) ap;have a3:=ae (H:=H9) (a:=q3) (o:=.lst [.int (10 ^ (6:Int).toNat),.int 9]);generalize upd H9 q3 (.lst [.int (10 ^ (6:Int).toNat),.int 9])=HA0 at bn a3;refine .inr ⟨_,rfl,?_⟩
   obtain⟨sg,esg,hsg⟩:∃ sg:Int,atI [V.int (10 ^ (6:Int).toNat),V.int 9] (if decide (m > 6)=true then 1 else 0)=some (.int sg)/\1<=sg/\sg<=(if m<=6 then 1000000 else 30):=by
    by_cases c:m > 6
    .rw[decide_eq_true c,if_pos rfl,if_neg (by lia)]
     exact⟨9,rfl,by decide,by decide⟩
    .rw[decide_eq_false c,if_neg (by decide),if_pos (by lia)]
     exact⟨_,rfl,by rw[e6];decide,by rw[e6];decide⟩
   refine .inl ⟨q3,_,_,_,rfl,rfl,SqL.of a3,esg,?_⟩;refine⟨by show 4<=sizeLine;decide,λq5 cB=>?_⟩;obtain⟨y3,a4,e3⟩:=lR (xs:=[V.int 1,V.int 4,V.int 30,V.int sg]) (i:=wy) w0 (by show wy<((4:Nat):Int);lia)
   obtain⟨sm,rfl,sm0,sm1⟩:∃ va:Int,y3=.int va/\1<=va/\va<=(if m<=6 then 1000000 else 30):=by
    simp only[mem_cons,not_mem_nil,or_false]at a4
    rcases a4 with rfl | rfl | rfl | rfl
    .exact⟨_,rfl,by decide,by split <;> decide⟩
    .exact⟨_,rfl,by decide,by split <;> decide⟩
    .exact⟨_,rfl,by decide,by split <;> decide⟩
    .exact⟨_,rfl,hsg⟩
   have sA:=bn.trans (Same.new (o:=.lst [.int 1,.int 4,.int 30,.int sg]) cB)
   have cV:sm<=1000000:=by split at sm1 <;> lia
   refine .inl ⟨q5,_,_,_,rfl,rfl,SqL.of ae,e3,?_⟩;generalize upd HA0 q5 (.lst [.int 1,.int 4,.int 30,.int sg])=HA at sA;refine⟨p,n9,sm,rfl,sA _ _ p9,by lia,by lia,λF nB cT cW=>?_⟩;have sB:SameP p HA (upd HA p (.lst [.int nB])):=SameP.put;have pB:(upd HA p (.lst [.int nB])) p=some (.lst [.int nB]):=ae;generalize upd HA p (.lst [.int nB])=HB at sB pB;have b9:SameP p G HB:=(b3.trans (SameP.of sA)).trans sB
   refine⟨(g:Int),rfl,by lia,by lia,λD hD=>?_⟩;have nD:D≠p:=λz=>by rw[z,pB]at hD;cases hD
   let Pw2:PvL:=λj ys x=>j<=g/\SameP p HB x/\(∃ n',x p=some (.lst [.int n']))/\x D=some (.lst ys)/\∃ l:List Str,ys=l.map V.str/\l.length=j/\∀ n∈l,fH n=true
   refine ji (lo:=0) (n:=g) Pw2 ⟨Nat.zero_le _,SameP.refl.push hD,⟨nB,by rw[ar (Ne.symm nD)];exact pB⟩,ae,[],rfl,rfl,λn hn=>by cases hn⟩ (λj ys x h=>h.2.2.2.1) ?_ ?_
   .rintro j ys M P' hj ⟨_,sC,⟨nC,pC⟩,Y,l,rfl,al,R⟩ hP
    refine⟨⟨rfl,trivial⟩,by show 3<=sizeLine;decide,λq4 O=>?_⟩;have b6:q4≠p:=λz=>by rw[z,pC]at O;cases O
    have J:=Same.new (o:=.lst [.str "n",.str "s",.str "mid"]) O;have bD:=ae (H:=M) (a:=q4) (o:=.lst [.str "n",.str "s",.str "mid"]);generalize upd M q4 (.lst [.str "n",.str "s",.str "mid"])=HD at J bD;refine⟨p,nC,3,rfl,J _ _ pC,by decide,by decide,λk1 nE b0 c2=>?_⟩;obtain⟨y4,bq,e4⟩:=lR (xs:=[V.str "n",V.str "s",V.str "mid"]) (i:=k1) b0 (by show k1<((3:Nat):Int);lia)
    obtain⟨tn,rfl,htn⟩:∃ n:Str,y4=.str n/\fH n=true:=by
     simp only[mem_cons,not_mem_nil,or_false]at bq
     rcases bq with rfl | rfl | rfl <;> exact⟨_,rfl,by decide +kernel⟩
    have I:SameP p HD (upd HD p (.lst [.int nE])):=SameP.put;have pE:(upd HD p (.lst [.int nE])) p=some (.lst [.int nE]):=ae;generalize upd HD p (.lst [.int nE])=HE at I pE;have a':SameP p M HE:=(SameP.of J).trans I;have b':=a' _ _ nD Y;refine .inl ⟨q4,_,_,_,rfl,rfl,SqL.of (I _ _ b6 bD),e4,b',by rw[length_map];lia,hP _ _ ⟨hj,(sC.trans a').push hD,⟨nE,by rw[ar (Ne.symm nD)];exact pE⟩,ae,l++[tn],by rw[map_append];rfl,by rw[length_append,al];rfl,λn hn=>?_⟩⟩
    rcases mem_append.mp hn with z | z
    .exact R n z
    .rw[mem_singleton.mp z];exact htn
   rintro ys M ⟨_,sC,⟨nC,pC⟩,Y,l,rfl,al,R⟩;refine⟨D,_,rfl,.inl ⟨SqL.of Y,λL cs=>?_⟩⟩;have bp:=b9.trans sC;have bm:=bp _ _ nr W;have J:=Same.new (o:=.tup (l.map V.str)) cs;refine⟨.inl ⟨rfl,_,SqL.of (J _ _ bm)⟩,by show 4<=sizeLine;decide,λtt cC=>?_⟩;have I:=Same.new (o:=.tup [.str nm,.int va,.int (1+F),.ref L]) cC;have a1:=I _ _ (J _ _ bm);refine⟨r,xs,.ref tt,rfl,rfl,a1,by lia,?_⟩;have tk:TK (upd (upd M L (.tup (l.map V.str))) tt (.tup [.str nm,.int va,.int (1+F),.ref L])) (upd (upd (upd M L (.tup (l.map V.str))) tt (.tup [.str nm,.int va,.int (1+F),.ref L])) r (.lst (xs++[.ref tt]))):=TK.lst a1;have bl:SameP p G (upd (upd M L (.tup (l.map V.str))) tt (.tup [.str nm,.int va,.int (1+F),.ref L])):=(bp.trans (SameP.of J)).trans (SameP.of I);refine⟨by lia,(s5.trans bl).push aS,nC,y++[⟨nm,va,1+F,l⟩],xs++[.ref tt],_,_,_,_,_,rfl,by rw[ar (Ne.symm nr)];exact I _ _ (J _ _ pC),ae,AllU.snoc ⟨tt,L,rfl,tk _ _ ae,tk _ _ (I _ _ ae)⟩ (hU.tk ((SameP.tk p5 bl).trans tk)),?_,λu B=>?_⟩
   .rw[map_append,b,range_succ,map_append]
    show _++[nm.cps.toList.head?]=_++[some (97+((fi+st*(i:Int)) % 26).toNat)];rw[bo,Int.zero_add]
   .rcases mem_append.mp B with z | z
    .exact d u z
    .rw[mem_singleton.mp z]
     exact⟨⟨a0,va0,va1,by show 1<=1+F;lia,by show 1+F<=1000000;lia,by show l.length<=3;lia,R⟩,al,by show 1+F<=_;lia⟩
  .rintro σ G ⟨_,s5,n5,y,xs,x8,x9,Z,as,S,rfl,p5,W,hU,b,d⟩
   have bd:y.length=m.toNat:=by
    have:=congrArg List.length b;rw[length_map,length_map,length_range]at this;exact this
   refine q _ r y xs n5 s5 aS p5 W hU ⟨by lia,by lia,λu B=>(d u B).1,DQ b λi j hi hj e=>?_,λu B v hv=>?_⟩ (by lia) λu B=>(d u B).2
   .exact Aj hst fi i j (by lia) (by lia) (by have:=Option.some.inj e;lia)
   .rw[(d u B).2.1,(d v hv).2.1]
end
open Nst (Mb plc szs hd tl bN groups aT parts outer aK a7 aW)
def IsTr(H:Hp):V->Pl->Prop
 | v,.few m=>∃ x,v=.ref x/\H x=some (.tup [.str "few",.int (m:Nat)])
 | v,.start m=>∃ x,v=.ref x/\H x=some (.tup [.str "start",.int (m:Nat)])
 | v,.loose m=>∃ x,v=.ref x/\H x=some (.tup [.str "loose",.int (m:Nat)])
 | v,.duel m=>∃ x,v=.ref x/\H x=some (.tup [.str "duel",.int (m:Nat)])
 | v,.each p=>∃ x u,v=.ref x/\H x=some (.tup [.str "each",u])/\IsTr H u p
 | v,.first p q=>∃ x u1 u2,v=.ref x/\H x=some (.tup [.str "first",u1,u2])/\IsTr H u1 p/\IsTr H u2 q
theorem IsTr.n{H a:Hp}(s:NC H a):∀{pl:Pl}{v:V},IsTr H v pl->IsTr a v pl
 | .few _,v,⟨x,e,h⟩=>⟨x,e,s _ _ rfl h⟩
 | .start _,v,⟨x,e,h⟩=>⟨x,e,s _ _ rfl h⟩
 | .loose _,v,⟨x,e,h⟩=>⟨x,e,s _ _ rfl h⟩
 | .duel _,v,⟨x,e,h⟩=>⟨x,e,s _ _ rfl h⟩
 | .each p,v,⟨x,u,e,h,r⟩=>⟨x,u,e,s _ _ rfl h,IsTr.n s r⟩
 | .first p q,v,⟨x,u1,u2,e,h,r1,r2⟩=>⟨x,u1,u2,e,s _ _ rfl h,IsTr.n s r1,IsTr.n s r2⟩
theorem IsTr.same{H a:Hp}{pl:Pl}{v:V}(s:Same H a)(h:IsTr H v pl):IsTr a v pl:=h.n (dR s.t)
theorem ixT{K:Frag}{H:Hp}{x:Addr}{vs:List V}(a:H x=some (.tup vs))(j:Int)(v:V)(e:atI vs j=some v)(R:VK)(r:R v H):rIx K (.ref x) (.int j) H R:=.inr (.inl ⟨x,_,j,v,rfl,rfl,SqT.of a,e,r⟩)
theorem gQ{a:Ad}{d:Hp}{x c C:Addr}{fs:List (Str×V)}(f:d x=none)(g:d c=none):Same d (upd (upd (upd d c (.own x)) x (.ins C c [])) x (.ins C c fs)):=λb o e=>by
 rw[ar (ay e f),ar (ay e f),ar (ay e g)];exact e
theorem IsTr.sp{p:Addr}{H a:Hp}{xs:List V}(c:H p=some (.lst xs))(s:SameP p H a):∀{pl:Pl}{v:V},IsTr H v pl->IsTr a v pl:=by
 have k:∀{x:Addr}{ys:List V},H x=some (.tup ys)->a x=some (.tup ys):=λh=>s _ _ (λz=>by rw[z,c]at h;cases h) h
 intro pl
 induction pl with
 | each p ih=>exact λ⟨x,u,e,h,r⟩=>⟨x,u,e,k h,ih r⟩
 | first p q ih1 ih2=>exact λ⟨x,g,b,e,h,d,f⟩=>⟨x,g,b,e,k h,ih1 d,ih2 f⟩
 | _=>exact λ⟨x,e,h⟩=>⟨x,e,k h⟩
inductive spPlT(n:Nat)(vs:List V)(H:Hp)(Q:VK)(_E:XK):Prop
 | mk(p:Addr)(N:Int)(lev:Nat)(h0:vs=[.ref p,.int (lev:Nat)])(h1:H p=some (.lst [.int N]))(h2:lev<=n)(h3:∀ H' v pl N',SameP p H H'->H' p=some (.lst [.int N'])->IsTr H' v pl->ht lev pl->Q v H'):spPlT n vs H Q _E
inductive spMadeP(a:Ad)(n:Nat)(vs:List V)(H:Hp)(Q:VK)(_E:XK):Prop
 | mk(v:V)(pl:Pl)(h0:vs=[v])(h1:IsTr H v pl)(h2:ht n pl)(h3:∀ H' v',Same H H'->IsPn a H' v' pl->Q v' H'):spMadeP a n vs H Q _E
inductive spFewI(a:Ad)(vs:List V)(H:Hp)(Q:VK)(_E:XK):Prop
 | mk(x dx:Addr)(m:Nat)(h0:vs=[.ref x,.int (m:Nat)])(h1:H x=some (.ins a.c_Y dx []))(h2:m<=24)(h3:Q .non (upd H x (.ins a.c_Y dx [("many",.int (m:Nat))]))):spFewI a vs H Q _E
inductive spStartI(a:Ad)(vs:List V)(H:Hp)(Q:VK)(_E:XK):Prop
 | mk(x dx:Addr)(m:Nat)(h0:vs=[.ref x,.int (m:Nat)])(h1:H x=some (.ins a.c_A dx []))(h2:1<=m)(h3:m<=100)(h4:Q .non (upd H x (.ins a.c_A dx [("step",.int (m:Nat))]))):spStartI a vs H Q _E
inductive spLooseI(a:Ad)(vs:List V)(H:Hp)(Q:VK)(_E:XK):Prop
 | mk(x dx:Addr)(m:Nat)(h0:vs=[.ref x,.int (m:Nat)])(h1:H x=some (.ins a.c_B dx []))(h2:m<=24)(h3:Q .non (upd H x (.ins a.c_B dx [("many",.int (m:Nat))]))):spLooseI a vs H Q _E
inductive spDuelI(a:Ad)(vs:List V)(H:Hp)(Q:VK)(_E:XK):Prop
 | mk(x dx:Addr)(m:Nat)(h0:vs=[.ref x,.int (m:Nat)])(h1:H x=some (.ins a.c_K dx []))(h2:m<=24)(h3:Q .non (upd H x (.ins a.c_K dx [("many",.int (m:Nat))]))):spDuelI a vs H Q _E
inductive spEachI(a:Ad)(vs:List V)(H:Hp)(Q:VK)(_E:XK):Prop
 | mk(x dx:Addr)(u:V)(h0:vs=[.ref x,u])(h1:H x=some (.ins a.c_C dx []))(h2:Q .non (upd H x (.ins a.c_C dx [("inside",u)]))):spEachI a vs H Q _E
inductive spFirstI(a:Ad)(vs:List V)(H:Hp)(Q:VK)(_E:XK):Prop
 | mk(x dx:Addr)(u z:V)(h0:vs=[.ref x,u,z])(h1:H x=some (.ins a.c_j dx []))(h2:Q .non (upd H x (.ins a.c_j dx [("outside",u),("inside",z)]))):spFirstI a vs H Q _E
section
variable {P:Program}{w:World}{K:Frag}{mg:Str->Option Value}{base:Heap}{a:Ad}
theorem yU(T:Txt K mg a):MnX P w mg base 3 T.Wi_A (spStartI a):=by
 have b:FnO P w K mg base 2 spNeedN:=jd T;refine T.Wi_A.A.okz jm λi A c s H o Q E e h=>?_
 .obtain⟨x,f,m,rfl,d,l,g,q⟩:=h
  refine⟨_,(ag (bO (pec b e T.W_G (aa (vr 1) (aa af (aa (be rfl T.g_MOST_STEP) ac))))) (ai (iB (vr 0) (vr 1) rfl))),bU ?_⟩;intro j;refine⟨_,1,100,rfl,by lia,by lia,?_⟩;exact⟨x,a.c_A,f,[],rfl,d,T.cl_A,T.na_Start_step,(by decide),q⟩
theorem wH(T:Txt K mg a):MnX P w mg base 3 T.Wi_B (spLooseI a):=by
 have b:FnO P w K mg base 2 spNeedN:=jd T;refine T.Wi_B.A.okz je λg A c s H l Q E e h=>?_
 .obtain⟨x,f,m,rfl,d,j,q⟩:=h
  refine⟨_,(ag (bO (pec b e T.W_G (aa (vr 1) (aa af (aa (be rfl T.g_MOST_MANY) ac))))) (ai (iB (vr 0) (vr 1) rfl))),bU ?_⟩;intro i;refine⟨_,0,24,rfl,by lia,by lia,?_⟩;exact⟨x,a.c_B,f,[],rfl,d,T.cl_B,T.na_Loose_many,(by decide),q⟩
theorem BU(T:Txt K mg a):MnX P w mg base 3 T.Wi_Y (spFewI a):=by
 have b:FnO P w K mg base 2 spNeedN:=jd T;refine T.Wi_Y.A.okz kr λg A c s H l Q E e h=>?_
 .obtain⟨x,f,m,rfl,d,j,q⟩:=h
  refine⟨_,(ag (bO (pec b e T.W_G (aa (vr 1) (aa af (aa (be rfl T.g_MOST_MANY) ac))))) (ai (iB (vr 0) (vr 1) rfl))),bU ?_⟩;intro i;refine⟨_,0,24,rfl,by lia,by lia,?_⟩;exact⟨x,a.c_Y,f,[],rfl,d,T.cl_Y,T.na_Few_many,(by decide),q⟩
theorem zE(T:Txt K mg a):MnX P w mg base 3 T.Wi_K (spDuelI a):=by
 have b:FnO P w K mg base 2 spNeedN:=jd T;refine T.Wi_K.A.okz jS λg A c s H l Q E e h=>?_
 .obtain⟨x,f,m,rfl,d,j,q⟩:=h
  refine⟨_,(ag (bO (pec b e T.W_G (aa (vr 1) (aa af (aa (be rfl T.g_MOST_MANY) ac))))) (ai (iB (vr 0) (vr 1) rfl))),bU ?_⟩;intro i;refine⟨_,0,24,rfl,by lia,by lia,?_⟩;exact⟨x,a.c_K,f,[],rfl,d,T.cl_K,T.na_Duel_many,(by decide),q⟩
theorem zy(T:Txt K mg a):MnX P w mg base 1 T.Wi_C (spEachI a):=by
 refine T.Wi_C.A.okz jT λe A b s H g Q E f h=>?_
 .obtain⟨x,d,u,rfl,c,q⟩:=h
  refine⟨_,(ai (iB (vr 0) (vr 1) rfl)),?_⟩;exact⟨x,a.c_C,d,[],rfl,c,T.cl_C,T.na_Each_inside,(by decide),q⟩
theorem wO(T:Txt K mg a):MnX P w mg base 1 T.Wi_j (spFirstI a):=by
 refine T.Wi_j.A.okz iR λi A d s H m Q E l h=>?_
 .obtain⟨x,f,u,z,rfl,g,q⟩:=h
  refine⟨_,(ag (iB (vr 0) (vr 1) rfl) (ai (iB (vr 0) (vr 2) rfl))),bU ?_⟩;intro j;refine⟨x,a.c_j,f,[],rfl,g,T.cl_j,T.na_First_outside,(by decide),?_⟩;refine⟨x,a.c_j,f,_,rfl,ae,T.cl_j,T.na_First_inside,(by show 1<1000;decide),?_⟩;rw[show ∀(H:Hp) (o c:HO),upd (upd H x o) x c=upd H x c from λH o c=>by funext b;by_cases e:b=x <;> simp[upd,e]];exact q
theorem qV(T:Txt K mg a)(n:Nat){sb:Sp}(Y:n≠0->sb=spPlT (n - 1))(m:FnX P w base (n+1) T.W_ah sb):FnX P w base (n+2) T.W_ah (spPlT n):=by
 have x:FnO P w K mg base (n+1) spTake:=(oS T).mono (by lia);refine T.W_ah.A.okz m7 λa1 A ab s H vs Q E D h=>?_
 .obtain⟨p,N,d,rfl,hp,al,q⟩:=h
  refine⟨_,(ag (psl 2 m7 (pec x D T.W_y (aa (vr 0) (aa (ak aj (bL (aa af (aa af ac))) (bS mQ rfl T.z_int oU (aa (b7 zI (vr 1) af (aB _)) ac)) (λ_ _=>rfl)) ac)))) (ag (a8 (a5 dM (vr 2) af (aB _)) (ai (aq (aJ (aa bV (aa (pec x D T.W_y (aa (vr 0) (aa af ac))) ac))))) aE) (ag (a8 (a5 dM (vr 2) af (aB _)) (ai (aq (aJ (aa bV (aa (av c8 af (pec x D T.W_y (aa (vr 0) (aa af ac)))) ac))))) aE) (ag (a8 (a5 mG (vr 2) af (aB _)) (ai (aq (aJ (aa (ak aj (bL (aa bV (aa bV ac))) (av bE (vr 2) af) (λ_ _=>rfl)) (aa (pec x D T.W_y (aa (vr 0) (aa af ac))) ac))))) aE) (ag (a8 (a5 dM (vr 2) af (aB _)) (ai (aq (aJ (aa bV (aa (pec m D T.W_ah (aa (vr 0) (aa (av bE (vr 1) af) ac))) ac))))) aE) (ai (aq (aJ (aa bV (aa (pec m D T.W_ah (aa (vr 0) (aa af ac))) (aa (pec m D T.W_ah (aa (vr 0) (aa (av bE (vr 1) af) ac))) ac))))))))))),wM ?_⟩;intro a0 an as ap aS;refine⟨(by decide:2<=sizeLine),λl hl=>?_⟩;have X:=Same.new (o:=.lst [.int 4,.int 7]) hl;have b1:=ae (H:=H) (a:=l) (o:=.lst [.int 4,.int 7]);generalize upd H l (.lst [.int 4,.int 7])=H1 at X b1;refine .inr ⟨_,rfl,?_⟩
  obtain⟨z,ez,hz⟩:∃ z:Int,atI [V.int 4,.int 7] (if decide ((d:Int) > 0)=true then 1 else 0)=some (.int z)/\(z=4\/z=7/\0<d):=by
   by_cases c:(d:Int) > 0
   .rw[decide_eq_true c,if_pos rfl]
    exact⟨7,rfl,.inr ⟨rfl,by lia⟩⟩
   .rw[decide_eq_false c,if_neg (by decide)]
    exact⟨4,rfl,.inl rfl⟩
  refine .inl ⟨l,_,_,_,rfl,rfl,SqL.of b1,ez,?_⟩;refine⟨p,N,z,rfl,X _ _ hp,by lia,by lia,λf y w0 w1=>?_⟩;have I:SameP p H (upd H1 p (.lst [.int y])):=(SameP.of X).trans SameP.put;have J:(upd H1 p (.lst [.int y])) p=some (.lst [.int y]):=ae;generalize upd H1 p (.lst [.int y])=H2 at I J
  have G:∀{u:Hp}{i:Int}{t:Addr}{o:HO},SameP p H u->u p=some (.lst [.int i])->u t=none->SameP p H (upd u t o)/\(upd u t o) p=some (.lst [.int i]):=λ{u i t o} j g b=>by
   have nt:t≠p:=λz=>by rw[z,g]at b;cases b
   exact⟨j.push (j.free nt b),by rw[ar (Ne.symm nt)];exact g⟩
  refine ifC (λc=>?_) (λc0=>?_)
  .refine⟨p,y,7,rfl,J,by decide,by decide,λr i r0 r1=>?_⟩
   refine⟨(by decide:2<=sizeLine),λt b=>?_⟩;obtain⟨j,g⟩:=G (o:=.tup [.str "few",.int r]) (I.trans SameP.put) ae b;refine q _ _ (.few r.toNat) i j g ⟨t,rfl,?_⟩ ?_
   .rw[show((r.toNat:Nat):Int)=r by lia];exact ae
   .have:r.toNat<=24:=by lia
    cases d <;> exact this
  have c0:¬f=0:=c0;refine ifC (λc=>?_) (λc1=>?_)
  .refine⟨p,y,4,rfl,J,by decide,by decide,λr i r0 r1=>?_⟩
   refine⟨(by decide:2<=sizeLine),λt b=>?_⟩;obtain⟨j,g⟩:=G (o:=.tup [.str "start",.int (1+r)]) (I.trans SameP.put) ae b;refine q _ _ (.start (1+r).toNat) i j g ⟨t,rfl,?_⟩ ?_
   .rw[show(((1+r).toNat:Nat):Int)=1+r by lia];exact ae
   .have:1<=(1+r).toNat/\(1+r).toNat<=100:=⟨by lia,by lia⟩
    cases d <;> exact this
  have c1:¬f=1:=c1;refine ifC (λc=>?_) (λc2=>?_)
  .have c:f<4:=c
   refine⟨(by decide:2<=sizeLine),λW R=>?_⟩;obtain⟨j,g⟩:=G (o:=.lst [.str "loose",.str "duel"]) I J R;have b3:=ae (H:=H2) (a:=W) (o:=.lst [.str "loose",.str "duel"]);generalize upd H2 W (.lst [.str "loose",.str "duel"])=u at j g b3
   obtain⟨nk,ek,hk⟩:∃ nk:Str,atI [V.str "loose",.str "duel"] (f - 2)=some (.str nk)/\(nk = "loose" \/ nk = "duel"):=by
    rcases(by lia:f=2\/f=3) with e | e <;> rw[e]
    .exact⟨_,rfl,.inl rfl⟩
    .exact⟨_,rfl,.inr rfl⟩
   refine .inl ⟨W,_,_,_,rfl,rfl,SqL.of b3,ek,?_⟩;refine⟨p,y,7,rfl,g,by decide,by decide,λr i r0 r1=>?_⟩;refine⟨(by decide:2<=sizeLine),λt b=>?_⟩;obtain⟨C,F⟩:=G (o:=.tup [.str nk,.int r]) (j.trans SameP.put) ae b;have e1:((r.toNat:Nat):Int)=r:=by lia
   have hm:r.toNat<=24:=by lia
   rcases hk with rfl | rfl
   .exact q _ _ (.loose r.toNat) i C F ⟨t,rfl,by rw[e1];exact ae⟩ (by cases d <;> exact hm)
   .exact q _ _ (.duel r.toNat) i C F ⟨t,rfl,by rw[e1];exact ae⟩ (by cases d <;> exact hm)
  have c2:¬f<4:=c2
  obtain⟨d,rfl⟩:∃ k,d=k+1:=⟨d - 1,by lia⟩
  have L:((d+1:Nat):Int) - 1=(d:Int):=by lia
  have:=Y (by lia);subst this;refine ifC (λc=>?_) (λc3=>?_)
  .refine⟨p,y,d,by rw[<- L];rfl,J,by lia,λu v O i j g B S=>?_⟩
   refine⟨(by decide:2<=sizeLine),λt b=>?_⟩;obtain⟨C,F⟩:=G (o:=.tup [.str "each",v]) (I.trans j) g b;exact q _ _ (.each O) i C F ⟨t,v,rfl,ae,B.same (Same.new b)⟩ S
  .refine⟨p,y,0,rfl,J,Nat.zero_le _,λu v O i j g B S=>?_⟩
   refine⟨p,i,d,by rw[<- L];rfl,g,by lia,λH4 v' ad N3 C F M Z=>?_⟩;refine⟨(by decide:3<=sizeLine),λt b=>?_⟩;obtain⟨s5,p5⟩:=G (o:=.tup [.str "first",v,v']) ((I.trans j).trans C) F b;refine q _ _ (.first O ad) N3 s5 p5 ⟨t,v,v',rfl,ae,(B.sp g C).same (Same.new b),M.same (Same.new b)⟩ ⟨?_,Z⟩
   cases O <;> exact S
theorem xq(T:Txt K mg a):∀ n:Nat,FnX P w base (n+2) T.W_ah (spPlT n)
 | 0=>qV T 0 (sb:=zB) (λz=>absurd rfl z) xn
 | n+1=>qV T (n+1) (sb:=spPlT n) (λ_=>rfl) (xq T n)
theorem mM(T:Txt K mg a)(n:Nat){sb:Sp}(F:n≠0->sb=spMadeP a (n - 1))(i:FnX P w base (n+4) T.W_ai sb):FnX P w base (n+5) T.W_ai (spMadeP a n):=by
 have N:FnO P w K mg base (n+3) (spFewI a):=(BU T).mono (by lia);have J:FnO P w K mg base (n+3) (spStartI a):=(yU T).mono (by lia);have X:FnO P w K mg base (n+3) (spLooseI a):=(wH T).mono (by lia);have Y:FnO P w K mg base (n+3) (spDuelI a):=(zE T).mono (by lia);have S:FnO P w K mg base (n+3) (spEachI a):=(zy T).mono (by lia);have G:FnO P w K mg base (n+3) (spFirstI a):=(wO T).mono (by lia);refine T.W_ai.A.okz vQ λap A R s H vs Q E l h=>?_
 .obtain⟨v,pl,rfl,e,f,q⟩:=h
  refine⟨_,(ag (a8 (a5 dM (ak aj (vr 0) af (λ_ _=>rfl)) bV (aB _)) (ai (aq (gO T.mk_Y N l rfl T.mc_Y T.Wi_Y.B .nil aA (aa (ak aj (vr 0) af (λ_ _=>rfl)) ac)))) aE) (ag (a8 (a5 dM (ak aj (vr 0) af (λ_ _=>rfl)) bV (aB _)) (ai (aq (gO T.mk_A J l rfl T.mc_A T.Wi_A.B .nil aA (aa (ak aj (vr 0) af (λ_ _=>rfl)) ac)))) aE) (ag (a8 (a5 dM (ak aj (vr 0) af (λ_ _=>rfl)) bV (aB _)) (ai (aq (gO T.mk_B X l rfl T.mc_B T.Wi_B.B .nil aA (aa (ak aj (vr 0) af (λ_ _=>rfl)) ac)))) aE) (ag (a8 (a5 dM (ak aj (vr 0) af (λ_ _=>rfl)) bV (aB _)) (ai (aq (gO T.mk_K Y l rfl T.mc_K T.Wi_K.B .nil aA (aa (ak aj (vr 0) af (λ_ _=>rfl)) ac)))) aE) (ag (a8 (a5 dM (ak aj (vr 0) af (λ_ _=>rfl)) bV (aB _)) (ai (aq (gO T.mk_C S l rfl T.mc_C T.Wi_C.B .nil aA (aa (pec i l T.W_ai (aa (ak aj (vr 0) af (λ_ _=>rfl)) ac)) ac)))) aE) (ai (aq (gO T.mk_j G l rfl T.mc_j T.Wi_j.B .nil aA (aa (pec i l T.W_ai (aa (ak aj (vr 0) af (λ_ _=>rfl)) ac)) (aa (pec i l T.W_ai (aa (ak aj (vr 0) af (λ_ _=>rfl)) ac)) ac)))))))))),wM ?_⟩;intro an Z ad ab al;cases pl with
  | few m =>
   obtain⟨x,rfl,b⟩:=e;refine ixT b 0 _ rfl _ (ixT b 1 _ rfl _ ?_);intro y d j c g;exact⟨y,d,m,rfl,ae,(by cases n <;> exact f),rfl,q _ _ (gQ (a:=a) j c) ⟨y,d,rfl,ae⟩⟩
  | start m =>
   obtain⟨x,rfl,b⟩:=e
   have f:1<=m/\m<=100:=by cases n <;> exact f
   refine ixT b 0 _ rfl _ (ixT b 0 _ rfl _ (ixT b 1 _ rfl _ ?_));intro y d j c g;exact⟨y,d,m,rfl,ae,f.1,f.2,rfl,q _ _ (gQ (a:=a) j c) ⟨y,d,rfl,ae⟩⟩
  | loose m =>
   obtain⟨x,rfl,b⟩:=e;refine ixT b 0 _ rfl _ (ixT b 0 _ rfl _ (ixT b 0 _ rfl _ (ixT b 1 _ rfl _ ?_)));intro y d j c g;exact⟨y,d,m,rfl,ae,(by cases n <;> exact f),rfl,q _ _ (gQ (a:=a) j c) ⟨y,d,rfl,ae⟩⟩
  | duel m =>
   obtain⟨x,rfl,b⟩:=e;refine ixT b 0 _ rfl _ (ixT b 0 _ rfl _ (ixT b 0 _ rfl _ (ixT b 0 _ rfl _ (ixT b 1 _ rfl _ ?_))));intro y d j c g;exact⟨y,d,m,rfl,ae,(by cases n <;> exact f),rfl,q _ _ (gQ (a:=a) j c) ⟨y,d,rfl,ae⟩⟩
  | each p =>
   cases n with
   | zero=>exact f.elim
   | succ n =>
    have:=F (by lia);subst this;obtain⟨x,u,rfl,b,hu⟩:=e;refine ixT b 0 _ rfl _ (ixT b 0 _ rfl _ (ixT b 0 _ rfl _ (ixT b 0 _ rfl _ (ixT b 0 _ rfl _ (ixT b 1 _ rfl _ ⟨u,p,rfl,hu,f,λH1 o B L=>?_⟩)))));intro y d j c g;have D:=gQ (a:=a) (C:=a.c_C) (fs:=[("inside",o)]) j c;exact⟨y,d,o,rfl,ae,rfl,q _ _ (B.trans D) ⟨y,d,o,rfl,ae,L.n (dR D.t)⟩⟩
  | first p r =>
   cases n with
   | zero=>exact f.elim
   | succ n =>
    have:=F (by lia);subst this;obtain⟨x,u1,u2,rfl,b,I,W⟩:=e;refine ixT b 0 _ rfl _ (ixT b 0 _ rfl _ (ixT b 0 _ rfl _ (ixT b 0 _ rfl _ (ixT b 0 _ rfl _ (ixT b 1 _ rfl _ ⟨u1,p,rfl,I,jn f.1,λH1 o B L=>?_⟩)))));refine ixT (B _ _ b) 2 _ rfl _ ⟨u2,r,rfl,W.same B,f.2,λH2 M D h2=>?_⟩;intro y d j c g;have O:=gQ (a:=a) (C:=a.c_j) (fs:=[("outside",o),("inside",M)]) j c;exact⟨y,d,o,M,rfl,ae,rfl,q _ _ (B.trans (D.trans O)) ⟨y,d,o,M,rfl,ae,L.n (dR (D.trans O).t),h2.n (dR O.t)⟩⟩
theorem rh(T:Txt K mg a):∀ n:Nat,FnX P w base (n+5) T.W_ai (spMadeP a n)
 | 0=>mM T 0 (sb:=zB) (λz=>absurd rfl z) xn
 | n+1=>mM T (n+1) (sb:=spMadeP a n) (λ_=>rfl) (rh T n)
end
end My
namespace Nd
open PySem Nst Rp FrM
open Tb (so)
theorem xm{b:Int}:∀{z:List Int},(∀ x∈z,x<=b)->z.sum<=(z.length:Int)*b
 | [],_=>by simp
 | x::z,h=>by
  have c:=h x mem_cons_self;have d:=xm λy a=>h y (mem_cons_of_mem _ a)
  rw[sum_cons,length_cons]
  push_cast
  rw[Int.add_mul,Int.one_mul];lia
theorem Eg{k:Nat}{a:List Mb}(f:a≠[])(o:a.length<=12)(lo:∀ m∈a,1<=m.2.1)(hi:∀ m∈a,m.2.1<=(if a.length<=6 then 1000000 else 30))(d:∀ m∈a,k<=m.2.2.length/\m.2.2.length<=3)(h:(plc a).Nodup):Ck k a:=by
 have g:=xm (b:=if a.length<=6 then 1000000 else 30) (z:=szs a) λx i=>by
  obtain⟨m,j,rfl⟩:=mem_map.mp i;exact hi m j
 rw[(dm a).2]at g;have p:0<a.length:=length_pos_iff.mpr f
 by_cases c:a.length<=6
 .rw[if_pos c]at g
  have l:(szs a).sum<=6000000:=by lia
  refine⟨f,by lia,lo,by lia,d,h,?_⟩;have e:100*(szs a).sum.toNat<=2 ^ 30:=by lia
  refine Nat.lt_of_le_of_lt (gE (n:=18) e (by lia) (by decide)) ?_;rw[<- Nat.pow_mul];exact Nat.pow_lt_pow_right (by decide) (by decide)
 .rw[if_neg c]at g
  have l:(szs a).sum<=360:=by lia
  refine⟨f,by lia,lo,by lia,d,h,?_⟩;have e:100*(szs a).sum.toNat<=2 ^ 16:=by lia
  refine Nat.lt_of_le_of_lt (gE (n:=36) e (by lia) (by decide)) ?_;rw[<- Nat.pow_mul];exact Nat.pow_lt_pow_right (by decide) (by decide)
theorem qW{l:List Int}(h:∀ x∈l,0<=x)(k:Nat):(l.take k).sum<=l.sum:=by
 have e:l.sum=(l.take k).sum+(l.drop k).sum:=by
  conv=>lhs;rw[<- List.take_append_drop k l]
  exact sum_append
 have:0<=(l.drop k).sum:=iJ λx a=>h x (List.mem_of_mem_drop a)
 lia
theorem lU{a:Type}{f g:a->Int}:∀{l:List a},(∀ x∈l,f x<=g x)->(l.map f).sum<=(l.map g).sum
 | [],_=>Int.le_refl _
 | x::l,h=>by
  have c:=h x mem_cons_self;have d:=lU λy b=>h y (mem_cons_of_mem _ b)
  rw[map_cons,map_cons,sum_cons,sum_cons];lia
theorem Ec:∀{n:Nat}{p:Pl},ht n p->∀{ms:List Mb},Ck n ms->(lim p ms).2<=(ms.length:Int):=by
 have b:∀{n:Nat}{p:Pl},mt p->∀{ms:List Mb},Ck n ms->(lim p ms).2<=(ms.length:Int):=λ{n p} j {ms} h=>by
  have r:=h.lens;cases p with
  | few m=>show((min m ms.length:Nat):Int)<=_;lia
  | start m =>
   have l:1<=m/\m<=100:=j;show((ms.length:Int)+(m:Int) - 1)/(m:Int)<=_
   have:((ms.length:Int)+(m:Int) - 1)/(m:Int)<(ms.length:Int)+1:=by
    apply Int.ediv_lt_of_lt_mul (by lia);have:(ms.length:Int)*1<=(ms.length:Int)*(m:Int):=Int.mul_le_mul_of_nonneg_left (by lia) (by lia);rw[Int.add_mul,Int.one_mul];lia
   lia
  | loose m=>show(ms.length:Int) - (cnt (0,1) ms m:Int)<=_;lia
  | duel m=>show((min m ms.length:Nat):Int)<=_;lia
  | each p=>exact j.elim
  | first p q=>exact j.elim
 intro n
 induction n with
 | zero=>intro p a ms h;exact b (by cases p <;> exact a) h
 | succ n ih =>
  intro p a ms h;have i:=bJ h
  have g:∀{q:Pl},ht n q->((parts ms).map λc=>(lim q c).2).sum<=(ms.length:Int):=λ{q} hq=>by
   rw[<- i.all];exact lU λc f=>ih hq (i.each c f)
  cases p with
  | few m=>exact b (p:=.few m) a h
  | start m=>exact b (p:=.start m) a h
  | loose m=>exact b (p:=.loose m) a h
  | duel m=>exact b (p:=.duel m) a h
  | each p=>exact g a
  | first o p =>
   refine Int.le_trans ?_ (g a.2);have e:(so ((parts ms).map λc=>(lim p c).2)).reverse.sum=((parts ms).map λc=>(lim p c).2).sum:=by rw[List.sum_reverse,eI (Tb.so_perm _)]
   rw[<- e];refine qW (λx d=>?_) _;have d:=(Tb.so_perm _).mem_iff.mp (mem_reverse.mp d);obtain⟨c,f,rfl⟩:=mem_map.mp d;obtain⟨C,W,_,R⟩:=lG a.2 (i.each c f);exact R.hi0
def bW(f:Nat->Rat)(i:Nat):Rat:=((List.range i).map f).sum
theorem sy(f:Nat->Rat):bW f 0=0:=rfl
theorem iL(f:Nat->Rat)(i:Nat):bW f (i+1)=bW f i+f i:=by
 unfold bW;rw[range_succ,map_append,kQ];show _+(f i+0)=_
 grind
theorem AY{a:List Mb}(g:Int->Rat):sm (plc a) g=bW (λi=>g ((plc a).getD i 0)) a.length:=by
 have e:plc a=(List.range a.length).map λi=>(plc a).getD i 0:=by
  apply ext_getElem
  .rw[length_map,length_range,(dm a).1]
  .intro i b c
   rw[getElem_map,getElem_range,List.getD_eq_getElem?_getD,List.getElem?_eq_getElem b];rfl
 conv=>lhs;rw[e]
 rw[y8];rfl
theorem nS{f:Nat->Rat}{C:Nat}:∀{i:Nat},(∀ k,k<i->0<=f k/\f k<=1/\(f k).den ∣ C)->∃ z:Int,0<=z/\z<=(i:Int)*(C:Int)/\bW f i*(C:Rat)=(z:Rat)
 | 0,_=>⟨0,Int.le_refl _,by simp,by rw[sy];push_cast;grind⟩
 | i+1,h=>by
  obtain⟨z,p,l,o⟩:=nS (i:=i) λk hk=>h k (by lia)
  obtain⟨b,e,c⟩:=h i (by lia);have t:=yW c;have d:0<=(f i).num:=Rat.num_nonneg.mpr b;have j:=gA b e;have a:0<=(C:Int)/((f i).den:Int):=Int.ediv_nonneg (by lia) (by lia);have r:((f i).den:Int)*((C:Int)/((f i).den:Int))=(C:Int):=Int.mul_ediv_cancel' (Int.natCast_dvd_natCast.mpr c);have g:=Int.mul_nonneg d a;have m:(f i).num*((C:Int)/((f i).den:Int))<=((f i).den:Int)*((C:Int)/((f i).den:Int)):=Int.mul_le_mul_of_nonneg_right (by lia) a;refine⟨z+(f i).num*((C:Int)/((f i).den:Int)),by lia,?_,?_⟩
  .push_cast
   rw[Int.add_mul,Int.one_mul];lia
  .rw[iL]
   push_cast at t ⊢
   grind
structure Fine(e:Nat->Nat->Rat)(n:Nat)(lo hi:Int)(C:Nat):Prop where
 sp:SpOk e n C
 sym:∀ i j,i<n->j<n->e i j=e j i
 le:∀ i j,i<n->j<n->e i j<=e i i
 ge:∀ i j,i<n->j<n->e i i+e j j+(-1)<=e i j
 tot:(lo:Rat)<=bW (λi=>e i i) n/\bW (λi=>e i i) n<=(hi:Rat)
 row:lo=hi->∀ i,i<n->bW (e i) n=e i i*(lo:Rat)
 b:0<=lo/\lo<=24/\0<=hi/\hi<=24
theorem E8{n:Nat}{p:Pl}{a:List Mb}(d:ht n p)(g:n<=2)(h:Ck n a):∃ C,Fine (pe (ent p a) a) a.length (lim p a).1 (lim p a).2 C:=by
 obtain⟨C,O⟩:=AO d g h;obtain⟨D,W,_,R⟩:=lG d h;have t:=R.tot h.nd;rw[AY]at t;have f:=h.len;have l:=Ec d h
 have o:(lim p a).1<=(lim p a).2:=by
  have:((lim p a).1:Rat)<=((lim p a).2:Rat):=Rat.le_trans t.1 t.2;exact_mod_cast this
 refine⟨C,O,λi j b c=>R.sym (bw b) (bw c),λi j b c=>R.le (bw b) (bw c),λi j b c=>R.ge (bw b) (bw c),t,λe i b=>?_,R.lo0,by lia,R.hi0,by lia⟩;have r:=R.row h.nd e (bw b);rw[AY]at r;have m:(lim p a).1=(lim p a).2:=e;show bW _ _=_;unfold pe;rw[r]
 grind
section
variable {e:Nat->Nat->Rat}{n C:Nat}{lo hi:Int}
theorem Fine.bbS(F:Fine e n lo hi C){f:Nat->Rat}(l:∀ k,k<n->∃ i j,i<n/\j<n/\f k=e i j){i:Nat}(x:i<=n):Du.Bb (bW f i):=by
 obtain⟨z,A,y,r⟩:=nS (f:=f) (C:=C) (i:=i) λk hk=>by
  obtain⟨a,b,d,c,w⟩:=l k (by lia);have h:=F.sp.ok a b d c;rw[w];exact⟨h.lo,h.hi,F.sp.dv a b d c⟩
 have p:=F.sp.c0;have g:=F.sp.cC;have s:=F.sp.n24;have o:(2:Nat) ^ 605=2 ^ 600*32:=by rw[show(32:Nat)=2 ^ 5 from rfl,<- Nat.pow_add]
 have v:(2:Nat) ^ 605<=2 ^ 990:=Nat.pow_le_pow_right (by decide) (by decide);have u:(2:Nat) ^ 600<=2 ^ 990:=Nat.pow_le_pow_right (by decide) (by decide);have B:(i:Int)*(C:Int)<=24*(C:Int):=Int.mul_le_mul_of_nonneg_right (by lia) (by lia);refine pX p (Nat.lt_of_lt_of_le g u) (Nat.lt_of_lt_of_le (m:=2 ^ 605) ?_ v) r;rw[o];generalize 2 ^ 600=P at g;lia
theorem rK{x:Int}(c:0<=x)(d:x<=24):Du.Bb ((x:Int):Rat):=by
 have p:(64:Nat)<=2 ^ 1000:=Nat.le_trans (by decide:(64:Nat)<=2 ^ 6) (Nat.pow_le_pow_right (by decide) (by decide));have a:((x:Int):Rat).num=x:=rfl;have b:((x:Int):Rat).den=1:=rfl;unfold Du.Bb Bt;rw[a,b];generalize 2 ^ 1000=P at p
 constructor <;> lia
theorem Fine.bbP(F:Fine e n lo hi C){i j:Nat}(r:i<n)(s:j<n):Du.Bb (e i i+e j j)/\Du.Bb (e i i+e j j+(-1)):=by
 have a:=F.sp.dg i r;have b:=F.sp.dg j s;have A:=gA a.lo a.hi;have G:=gA b.lo b.hi;have v:=Rat.num_nonneg.mpr a.lo;have E:=Rat.num_nonneg.mpr b.lo;have w:e i i*((e i i).den:Rat)=((e i i).num:Rat):=Du.den_mul _;have H:e j j*((e j j).den:Rat)=((e j j).num:Rat):=Du.den_mul _;have p:=a.den;have u:=b.den;have h:0<(e i i).den*(e j j).den:=Nat.mul_pos (e i i).den_pos (e j j).den_pos
 have l:(e i i).den*(e j j).den<2 ^ 192:=by
  rw[show(2:Nat) ^ 192=2 ^ 96*2 ^ 96 by rw[<- Nat.pow_add]];exact Nat.mul_lt_mul_of_lt_of_le p (Nat.le_of_lt u) (Nat.pow_pos (by decide))
 have g:(e i i+e j j)*(((e i i).den*(e j j).den:Nat):Rat)=(((e i i).num*((e j j).den:Int)+(e j j).num*((e i i).den:Int):Int):Rat):=by push_cast;grind
 have o:(e i i+e j j+(-1))*(((e i i).den*(e j j).den:Nat):Rat)=(((e i i).num*((e j j).den:Int)+(e j j).num*((e i i).den:Int) - (((e i i).den*(e j j).den:Nat):Int):Int):Rat):=by push_cast at g ⊢;grind
 have B:((e i i).num*((e j j).den:Int)).natAbs<2 ^ 192:=cy (m:=96) (k:=96) (by lia) (by lia);have D:((e j j).num*((e i i).den:Int)).natAbs<2 ^ 192:=cy (m:=96) (k:=96) (by lia) (by lia);have c:(2:Nat) ^ 194=2 ^ 192*4:=by rw[show(4:Nat)=2 ^ 2 from rfl,<- Nat.pow_add]
 have f:(2:Nat) ^ 194<=2 ^ 990:=Nat.pow_le_pow_right (by decide) (by decide);have d:(2:Nat) ^ 192<=2 ^ 990:=Nat.pow_le_pow_right (by decide) (by decide);refine⟨pX h (Nat.lt_of_lt_of_le l d) (Nat.lt_of_lt_of_le (m:=2 ^ 194) ?_ f) g,pX h (Nat.lt_of_lt_of_le l d) (Nat.lt_of_lt_of_le (m:=2 ^ 194) ?_ f) o⟩
 .rw[c]
  generalize 2 ^ 192=P at *;lia
 .rw[c]
  generalize (e i i).num*((e j j).den:Int)=x at *;generalize (e j j).num*((e i i).den:Int)=y at *;generalize (e i i).den*(e j j).den=N at *;generalize 2 ^ 192=P at *;lia
end
end Nd
namespace My
open PySem L2 FrM Du Nd
open Nst (Mb plc szs hd tl bN groups aT parts outer aK a7 aW)
inductive spPrs(K:Frag)(vs:List V)(H:Hp)(Q:VK)(_E:XK):Prop
 | mk(n C:Nat)(v:V)(e:EF)(lo hi:Int)(h0:vs=[v])(h1:Mx K (Ex e) H n v)(h2:Fine e n lo hi C)(h3:∀ H',Same H H'->Q (.bl true) H'):spPrs K vs H Q _E
inductive spCtd(K:Frag)(vs:List V)(H:Hp)(Q:VK)(_E:XK):Prop
 | mk(n C:Nat)(v:V)(pb:Addr)(e:EF)(lo hi:Int)(h0:vs=[v,.ref pb])(h1:H pb=some (.tup [.int lo,.int hi]))(h2:Mx K (Ex e) H n v)(h3:Fine e n lo hi C)(h4:∀ H',Same H H'->Q (.bl true) H'):spCtd K vs H Q _E
abbrev ss(e:EF):Nat->Rat:=λi=>e i i
theorem bbE{e:EF}{n C:Nat}{lo hi:Int}(F:Fine e n lo hi C){i j:Nat}(a:i<n)(b:j<n):Bb (e i j):=(F.sp.ok i j a b).bb
abbrev PO(H:Hp)(v:V)(n:Nat):St->Hp->Prop:=λσ H'=>Same H H'/\∃ x2 x3 x4 x5,σ=[some v,some (.int (n:Int)),x2,x3,x4,x5]
abbrev PI(H:Hp)(v:V)(n i:Nat):St->Hp->Prop:=λσ H'=>Same H H'/\∃ x3 x4 x5,σ=[some v,some (.int (n:Int)),some (.int (0+(i:Int))),x3,x4,x5]
abbrev CO(K:Frag)(H:Hp)(v:V)(pb:Addr)(e:EF)(n i:Nat):St->Hp->Prop:=λσ H'=>Same H H'/\i<=n/\∃ t x3 x4 x5,σ=[some v,some (.ref pb),some t,x3,x4,x5]/\IsQ K H' (bW (ss e) i) t
abbrev CI(K:Frag)(H:Hp)(v:V)(pb:Addr)(t:V)(e:EF)(i j:Nat):St->Hp->Prop:=λσ H'=>Same H H'/\∃ r x5,σ=[some v,some (.ref pb),some t,some (.int (0+(i:Int))),some r,x5]/\IsQ K H' (bW (e i) j) r
section
variable {P:Program}{w:World}{K:Frag}{mg:Str->Option Value}{base:Heap}{a:Ad}
theorem CJ(T:Txt K mg a):FnX P w base 4 T.W_aa (spPrs K):=by
 have as:FnO P w K mg base 3 (spIsFr K):=(tS T).mono (by decide);have d:FnO P w K mg base 3 (spBel K):=(qK T).mono (by decide);have m:FnO P w K mg base 3 (spAri (· + ·) (λ_=>True) K):=u6 T;refine T.W_aa.A.okz sc_aa λa4 A ap s H vs Q E x h=>?_
 .obtain⟨n,C,v,e,lo,hi,rfl,hM,F,q⟩:=h
  refine⟨_,(ag (psl 1 sc_aa (ao ax rfl T.z_len aF (aa (vr 0) ac))) (ag (cc PassesOwn.never rfl (bR rfl T.z_range (aa (vr 1) ac)) (am (i:=2) sc_aa.nd rfl (Or.inl rfl)) (ai (cc PassesOwn.never rfl (bR rfl T.z_range (aa (vr 1) ac)) (am (i:=3) sc_aa.nd rfl (Or.inl rfl)) (ag (psl 4 sc_aa (ak aj (ak aj (vr 0) (vr 2) (λ_ _=>rfl)) (vr 3) (λ_ _=>rfl))) (ag (a8 (PW.pt (gq (cf (bT (pec as x T.W_I (aa (vr 4) ac)))) (gq (a5 (sZ (K:=K) rfl x.units) (vr 4) (ak aj (ak aj (vr 0) (vr 3) (λ_ _=>rfl)) (vr 2) (λ_ _=>rfl)) (aB _)) (fM (bT (pec d x T.W_aj (aa (ak aj (ak aj (vr 0) (vr 2) (λ_ _=>rfl)) (vr 2) (λ_ _=>rfl)) (aa (vr 4) ac)))))))) (ai (aq fz)) aE) (ag (psl 5 sc_aa (pec m x T.W_av (aa (pec m x T.W_av (aa (ak aj (ak aj (vr 0) (vr 2) (λ_ _=>rfl)) (vr 2) (λ_ _=>rfl)) (aa (ak aj (ak aj (vr 0) (vr 3) (λ_ _=>rfl)) (vr 3) (λ_ _=>rfl)) ac))) (aa (aJ (aa (av bE af af) (aa af ac))) ac)))) (ai (a8 (PW.pt (gq (bT (pec d x T.W_aj (aa (vr 4) (aa (aJ (aa af (aa af ac))) ac)))) (fM (PW.pt (sW (a5 ya (vr 2) (vr 3) (aB _)) (oK (bT (pec d x T.W_aj (aa (vr 4) (aa (vr 5) ac)))))))))) (ai (aq fz)) aE)))))))) (ai (aq fz)))),eh ?_⟩;intro a1 a3;have a2:=F.sp.n24;obtain⟨l,B,rfl,hl,an,aS⟩:=id hM;refine⟨B,.inl (SqL.of hl),?_⟩;rw[an]
  let Pw1:PvS:=λi p Z=>PO H (.ref l) n p Z
  refine⟨_,rfl,by lia,by lia,cY Pw1 ⟨Same.refl H,none,none,none,none,rfl⟩ ?_ ?_⟩
  .rintro i p H1 a' ⟨Y,x2,O,I,N,rfl⟩
   have b:i<n:=by lia
   let Pw2:PvS:=λj p Z=>PI H (.ref l) n i p Z
   refine⟨_,rfl,by lia,by lia,cY Pw2 ⟨Y,O,I,N,rfl⟩ ?_ ?_⟩
   .rintro j p H2 a0 ⟨L,O,I,N,rfl⟩
    have c:j<n:=by lia
    have g:=hM.q (SQ.of L.t);have ei:(0:Int)+(i:Int)=(i:Nat):=by lia
    have ej:(0:Int)+(j:Int)=(j:Nat):=by lia
    rw[ei,ej];refine dG g b c λy f G r=>?_
    cases r;refine⟨y,_,rfl,G,?_⟩;refine dG g c b λy' f ab r=>?_
    cases r;refine eqF G ab ?_;rw[F.sym i j b c];rw[decide_eq_true rfl];refine dG g b b λy1 f h1 r=>?_
    cases r;refine⟨_,_,_,_,rfl,h1,G,bbE F b b,bbE F b c,ifC (λz=>absurd (F.le i j b c) (Rat.not_le.mpr z)) λ_=>?_⟩;refine dG g b b λy2 f h2 r=>?_
    cases r;refine dG g c c λy3 f h3 r=>?_
    cases r;refine⟨_,_,_,_,rfl,h2,h3,bbE F b b,bbE F c c,trivial,λH3 z3 s3 R=>?_⟩;refine⟨bF _ _,λJ W=>?_⟩;have X:=Same.new (o:=.tup [.int (0 - 1),.int 1]) W
    have q4:IsQ K (upd H3 J (.tup [.int (0 - 1),.int 1])) (-1) (.ref J):=⟨J,rfl,.inl ae⟩
    generalize upd H3 J (.tup [.int (0 - 1),.int 1])=H4 at X q4;obtain⟨bp,bm⟩:=F.bbP b c;refine⟨_,_,_,_,rfl,R.same X,q4,bp,⟨by show Bt 1000 (-1);unfold Bt;decide +kernel,by show Bt 1000 1;unfold Bt;decide +kernel⟩,trivial,λH5 z5 s5 S=>?_⟩;refine⟨bF _ _,λM ad=>?_⟩;have s6:=Same.new (o:=.tup [.int 0,.int 1]) ad
    have q6:IsQ K (upd H5 M (.tup [.int 0,.int 1])) 0 (.ref M):=⟨M,rfl,.inl ae⟩
    generalize upd H5 M (.tup [.int 0,.int 1])=H6 at s6 q6;have u:=s3.trans (X.trans (s5.trans s6));have al:=L.trans u;refine⟨_,_,_,_,rfl,G.same u,q6,bbE F b c,bb0,ifC (λz=>absurd (F.sp.ok i j b c).lo (Rat.not_le.mpr z)) λ_=>?_⟩
    have D:PI H (.ref l) n i [some (.ref l),some (.int (n:Int)),some (.int (i:Nat)),some (.int (j:Nat)),some y,some z5] H6:=⟨al,_,_,_,by rw[ei]⟩
    refine ifB (λ_=>?_) λ_=>D
    exact⟨_,_,_,_,rfl,G.same u,S.same s6,bbE F b c,bm,ifC (λz=>absurd (F.ge i j b c) (Rat.not_le.mpr z)) λ_=>D⟩
   .rintro p H2 ⟨L,O,I,N,rfl⟩
    exact⟨L,_,_,_,_,rfl⟩
  .rintro p H1 ⟨Y,x2,O,I,N,rfl⟩
   exact q _ Y
theorem CH(T:Txt K mg a):FnX P w base 4 T.W_P (spCtd K):=by
 have N:FnO P w K mg base 3 (spBel K):=(qK T).mono (by decide);have G:FnO P w K mg base 3 (spAri (· + ·) (λ_=>True) K):=u6 T;have an:FnO P w K mg base 3 (spAri (· * ·) (λ_=>True) K):=rG T;refine T.W_P.A.okz sc_P λco A bo s H vs Q E X h=>?_
 .obtain⟨n,C,v,pb,e,x,L,rfl,aS,hM,F,q⟩:=h
  refine⟨_,(ag (psl 2 sc_P (aJ (aa af (aa af ac)))) (ag (cc PassesOwn.never rfl (bR rfl T.z_range (aa (ao ax rfl T.z_len aF (aa (vr 0) ac)) ac)) (am (i:=3) sc_P.nd rfl (Or.inl rfl)) (ag (psl 2 sc_P (pec G X T.W_av (aa (vr 2) (aa (ak aj (ak aj (vr 0) (vr 3) (λ_ _=>rfl)) (vr 3) (λ_ _=>rfl)) ac)))) (ag (psl 4 sc_P (aJ (aa af (aa af ac)))) (ag (cc PassesOwn.never rfl (aN (ak aj (vr 0) (vr 3) (λ_ _=>rfl))) (am (i:=5) sc_P.nd rfl (Or.inl rfl)) (ai (psl 4 sc_P (pec G X T.W_av (aa (vr 4) (aa (vr 5) ac)))))) (ai (a8 (PW.pt (sW (a5 dM (ak aj (vr 1) af (λ_ _=>rfl)) (ak aj (vr 1) af (λ_ _=>rfl)) (aB _)) (oK (a5 (sZ (K:=K) rfl X.units) (vr 4) (pec an X T.W_ar (aa (ak aj (ak aj (vr 0) (vr 3) (λ_ _=>rfl)) (vr 3) (λ_ _=>rfl)) (aa (aJ (aa (ak aj (vr 1) af (λ_ _=>rfl)) (aa af ac))) ac))) (aB _))))) (ai (aq fz)) aE)))))) (ai (aq (di (ud (pec N X T.W_aj (aa (vr 2) (aa (aJ (aa (ak aj (vr 1) af (λ_ _=>rfl)) (aa af ac))) ac)))) (dQ (ud (pec N X T.W_aj (aa (aJ (aa (ak aj (vr 1) af (λ_ _=>rfl)) (aa af ac))) (aa (vr 2) ac)))))))))),eh ?_⟩;intro cs ch;have ct:=F.sp.n24;obtain⟨b0,b1,b2,b3⟩:=F.b;have W:∀{i:Nat},i<=n->Bb (bW (ss e) i):=λh=>F.bbS (λk hk=>⟨k,k,hk,hk,rfl⟩) h
  have bn:∀{i j:Nat},i<n->j<=n->Bb (bW (e i) j):=λ{i j} L h=>F.bbS (λk hk=>⟨i,k,L,hk,rfl⟩) h
  obtain⟨l,al,rfl,hl,bd,b'⟩:=id hM;refine⟨bF _ _,λp1 bq=>?_⟩;have s1:=Same.new (o:=.tup [.int 0,.int 1]) bq
  have q1:IsQ K (upd H p1 (.tup [.int 0,.int 1])) (bW (ss e) 0) (.ref p1):=⟨p1,rfl,.inl ae⟩
  generalize upd H p1 (.tup [.int 0,.int 1])=H1 at s1 q1;refine⟨al,.inl (SqL.of (s1 _ _ hl)),?_⟩;rw[bd]
  let Pw3:PvS:=λi M J=>CO K H (.ref l) pb e n i M J
  refine⟨_,rfl,by lia,by lia,cY Pw3 ⟨s1,Nat.zero_le _,_,none,none,none,rfl,q1⟩ ?_ ?_⟩
  .rintro i M H2 ca ⟨s2,a4,t,x3,x4,x5,rfl,d⟩
   have b:i<n:=by lia
   have ei:(0:Int)+(i:Int)=(i:Nat):=by lia
   have bp:=hM.q (SQ.of s2.t);rw[ei];refine dG bp b b λy f hy r=>?_
   cases r;refine⟨_,_,_,_,rfl,d,hy,W a4,bbE F b b,trivial,λH3 z3 s3 R=>?_⟩;have R:IsQ K H3 (bW (ss e) (i+1)) z3:=by rw[iL];exact R
   refine⟨bF _ _,λp4 a2=>?_⟩;have s4:=Same.new (o:=.tup [.int 0,.int 1]) a2
   have q4:IsQ K (upd H3 p4 (.tup [.int 0,.int 1])) (bW (e i) 0) (.ref p4):=⟨p4,rfl,.inl ae⟩
   generalize upd H3 p4 (.tup [.int 0,.int 1])=H4 at s4 q4;have Y:=s2.trans (s3.trans s4);have b8:=hM.q (SQ.of Y.t);obtain⟨l',m,e0,br,b9,O⟩:=id b8;cases e0;have er:m[i]? = some (m[i]'(by lia)):=List.getElem?_eq_getElem _;obtain⟨r,es,ex,Z,a1,a'⟩:=O i _ er;rw[ex]at er;refine .inl ⟨l,_,_,_,rfl,rfl,SqL.of br,aQ er,?_⟩;have bm:=R.same s4
   let Pw4:PvS:=λj M J=>Same H4 J/\CI K H (.ref l) pb z3 e i j M J
   refine .inl ⟨⟨_,SqL.of Z⟩,df (K:=K) (a:=r) (xs:=es) Pw4 ⟨Same.refl H4,Y,_,_,by rw[ei];rfl,q4⟩ (λj M J _ h=>SqL.of (h.1 _ _ Z)) ?_ ?_⟩
   .rintro j y5 M H5 ab ⟨s5,p,as,x5,rfl,B⟩
    have ad:j<n:=by rw[<- a1];exact(List.getElem?_eq_some_iff.mp ab).1
    obtain⟨f,hf,r5⟩:=a' j y5 ab;cases r5;refine⟨_,_,_,_,rfl,B,hf.same s5,bn b (Nat.le_of_lt ad),bbE F b ad,trivial,λH6 z6 g bl=>⟨s5.trans g,p.trans g,_,_,rfl,by rw[iL];exact bl⟩⟩
   .rintro M H5 ⟨s5,p,as,x5,rfl,B⟩
    rw[a1]at B;rw[ei];have u:=p _ _ aS;have a3:=bm.same s5
    have a0:∀{J:Hp},Same H5 J->CO K H (.ref l) pb e n (i+1) [some (.ref l),some (.ref pb),some z3,some (.int (i:Nat)),some as,x5] J:=λs=>⟨p.trans s,b,_,_,_,_,rfl,a3.same s⟩
    refine px0 (SqT.of u) (px1 (SqT.of u) (ifC (λc=>?_) λ_=>a0 (Same.refl H5)));have c:x=L:=c;have bD:=hM.q (SQ.of p.t);refine dG bD b b λy6 f b4 r=>?_
    cases r;refine px0 (SqT.of u) ⟨bF _ _,λD S=>?_⟩;have g:=Same.new (o:=.tup [.int x,.int 1]) S
    have q6:IsQ K (upd H5 D (.tup [.int x,.int 1])) ((x:Int):Rat) (.ref D):=⟨D,rfl,.inl ae⟩
    generalize upd H5 D (.tup [.int x,.int 1])=H6 at g q6;refine⟨_,_,_,_,rfl,b4.same g,q6,bbE F b b,rK b0 b1,trivial,λH7 z7 s7 b5=>?_⟩;refine eqF (B.same (g.trans s7)) b5 ?_;rw[F.row c i b];rw[decide_eq_true rfl];exact a0 (g.trans s7)
  .rintro M H2 ⟨s2,_,t,x3,x4,x5,rfl,d⟩
   have d:IsQ K H2 (bW (ss e) n) t:=d;have I:=s2 _ _ aS;refine px0 (SqT.of I) ⟨bF _ _,λD S=>?_⟩;have g:=Same.new (o:=.tup [.int x,.int 1]) S
   have q6:IsQ K (upd H2 D (.tup [.int x,.int 1])) ((x:Int):Rat) (.ref D):=⟨D,rfl,.inl ae⟩
   generalize upd H2 D (.tup [.int x,.int 1])=H6 at g q6;refine⟨_,_,_,_,rfl,d.same g,q6,W (Nat.le_refl _),rK b0 b1,?_⟩;have t1:¬bW (ss e) n<(x:Rat):=Rat.not_lt.mpr F.tot.1;have t2:¬(L:Rat)<bW (ss e) n:=Rat.not_lt.mpr F.tot.2;rw[decide_eq_false t1];have ap:=g _ _ I;refine px1 (SqT.of ap) ⟨bF _ _,λp8 b6=>?_⟩;have s8:=Same.new (o:=.tup [.int L,.int 1]) b6
   have q8:IsQ K (upd H6 p8 (.tup [.int L,.int 1])) ((L:Int):Rat) (.ref p8):=⟨p8,rfl,.inl ae⟩
   generalize upd H6 p8 (.tup [.int L,.int 1])=H8 at s8 q8;refine⟨_,_,_,_,rfl,q8,d.same (g.trans s8),rK b2 b3,W (Nat.le_refl _),?_⟩;rw[decide_eq_false t2];exact q _ (s2.trans (g.trans s8))
end
open Nst (Mb plc szs hd tl bN groups aT parts outer aK a7 aW)
theorem xR{a:Ad}{c:List Addr}{H:Hp}(b:∀ q∈tabs a,q.1∈c)(h:∀ P∈c,H P=some (.tbl #[])):TabsOk (tabs a) H:=λq d=>⟨#[],h _ (b q d),trivial,λ_ _=>.inl rfl⟩
theorem IsPn.sp{a:Ad}{p:Addr}{H c:Hp}{xs:List V}(d:H p=some (.lst xs))(s:SameP p H c):∀{pl:Pl}{v:V},IsPn a H v pl->IsPn a c v pl:=by
 have k:∀{x C b:Addr}{fs:List (Str×V)},H x=some (.ins C b fs)->c x=some (.ins C b fs):=λh=>s _ _ (λz=>by rw[z,d]at h;cases h) h
 intro pl
 induction pl with
 | each p ih=>exact λ⟨x,b,u,e,h,r⟩=>⟨x,b,u,e,k h,ih r⟩
 | first p q ih1 ih2=>exact λ⟨x,b,u,z,e,h,f,g⟩=>⟨x,b,u,z,e,k h,ih1 f,ih2 g⟩
 | _=>exact λ⟨x,b,e,h⟩=>⟨x,b,e,k h⟩
theorem wV:∀{n m:Nat}{p:Pl},ht n p->n<=m->ht m p
 | n,0,p,h,hm=>by obtain rfl:n=0:=Nat.le_zero.mp hm;exact h
 | 0,m+1,p,h,_=>by cases p <;> first | exact h | exact h.elim
 | n+1,m+1,p,h,hm=>by
  cases p with
  | each p=>exact wV (n:=n) (m:=m) h (by lia)
  | first p q=>exact⟨h.1,wV (n:=n) (m:=m) h.2 (by lia)⟩
  | _=>exact h
theorem yw{xs:List V}{lo hi:Option Int}{y:V}(h:y∈ce xs lo hi):y∈xs:=List.mem_of_mem_drop (mem_of_mem_take h)
theorem Dh{us:List U}{b:Nat}{m:Int}(p:GoodL us)(r:(us.length:Int)=m)(v:m<=12)(s:b<=2)(h:∀ u∈us,u.path.length=b/\u.size<=(if m<=6 then 1000000 else 30)):Ck b (crU us):=by
 have y:=p.l1;have j:=gz us
 have c:∀ x∈crU us,∃ u∈us,x.2.1=u.size/\x.2.2=u.path:=λx a=>by
  obtain⟨i,g⟩:=List.getElem?_of_mem a;have w:=(List.getElem?_eq_some_iff.mp g).1;have e:=List.getElem?_eq_getElem (l:=us) (show i<us.length by lia);rw[sI e]at g;cases g;exact⟨_,getElem_mem _,rfl,rfl⟩
 refine Eg (λz=>?_) (by lia) (λx a=>?_) (λx a=>?_) (λx a=>?_) (Dp us)
 .rw[z]at j
  simp at j;lia
 .obtain⟨u,d,f,o⟩:=c x a
  rw[f];exact(p.each u d).s0
 .obtain⟨u,d,f,o⟩:=c x a
  rw[f,j];have:=(h u d).2;have e:((us.length<=6)=(m<=6)):=by rw[<- r];exact propext ⟨λh=>by lia,λh=>by lia⟩
  simp only[e];exact this
 .obtain⟨u,d,f,o⟩:=c x a
  rw[o,(h u d).1];lia
abbrev lawK:Nat:=18
abbrev LI(a:Ad)(H:Hp)(p:Addr)(v:V)(l r l3:Addr)(xs:List V)(st:Addr)(lev:Int):St->Hp->Prop:=λσ H'=>SameT H H'/\TabsOk (tabs a) H'/\H' l3=some (.lst xs)/\∃ x6 x7 x8 x9:Option V,σ=[some (.ref p),some (.ref st),some (.int lev),some v,some (.ref l),some (.ref r),x6,x7,x8,x9]
section
variable {P:Program}{w:World}{K:Frag}{mg:Str->Option Value}{base:Heap}{a:Ad}
theorem ok_law{ts:List Addr}(T:Txt K mg a)(hB:Bm mg base)(ep:∀ q∈tabs a,q.1∈ts):FnX P w base lawK T.W_aB (spLaw K ts):=by
 have b4:FnO P w K mg base 17 (spCell K):=(zG T).mono (by decide);have dy:FnO P w K mg base 17 spDigits:=(vM T).mono (by decide);have as:FnO P w K mg base 17 spTake:=(oS T).mono (by decide);have c0:FnO P w K mg base 17 (spPlT 2):=(xq T 2).mono (by decide);have cu:FnO P w K mg base 17 (spMadeP a 2):=(rh T 2).mono (by decide);have fn:FnO P w K mg base 17 spUnits:=(wU T).mono (by decide);have dd:FnO P w K mg base 17 (spPrs K):=(CJ T).mono (by decide);have ed:FnO P w K mg base 17 (spCtd K):=(CH T).mono (by decide);have d0:FnO P w K mg base 17 (spIsFr K):=(tS T).mono (by decide);have dK:FnO P w K mg base 17 (spCh a K):=(Bu T hB).mono (by decide);have R:FnO P w K mg base 17 spCrowd:=(pS T).mono (by decide);have ct:FnO P w K mg base 17 (spSpr a K):=BD T hB;have ea:FnO P w K mg base 17 (spSB a K):=(BB T hB).mono (by decide);have fd:FnO P w K mg base 17 (spBo a 2 ot):=(lV T 2).mono (by decide);have en:FnO P w K mg base 17 (spBo a 2 eK):=(iE T 2).mono (by decide);have d':FnO P w K mg base 17 (spBo a 2 eM):=(iK T 2).mono (by decide);have eg:FnO P w K mg base 17 (spBo a 2 jg):=(jE T 2).mono (by decide);have el:FnO P w K mg base 17 (spBo a 2 ck):=(iC T 2).1.mono (by decide);have ew:FnO P w K mg base 17 (spBo a 2 bM):=(iC T 2).2.mono (by decide);refine T.W_aB.A.okz sc_aB λf1 A eB s H vs Q E f h=>?_
 .obtain⟨p,ns,rfl,hS,b6,ec,q⟩:=h
  have fa:sizeLine=16777216:=sizeLine_eq;have e9:(10:Int) ^ (9:Int).toNat=1000000000:=by decide
  have hT:=xR ep ec
  refine⟨_,(ag (psl 1 sc_aB (pec dy f T.W_X (aa (pec b4 f T.W_aE (aa (vr 0) (aa af ac))) ac))) (ag (psl 2 sc_aB (pec as f T.W_y (aa (vr 1) (aa af ac)))) (ag (psl 3 sc_aB (pec cu f T.W_ai (aa (pec c0 f T.W_ah (aa (vr 1) (aa (vr 2) ac))) ac))) (ag (psr 4 sc_aB (pec fn f T.W_R (aa (vr 1) (aa (av c8 af (pec as f T.W_y (aa (vr 1) (aa (ak aj (bL (aa af (aa af (aa af (aa af ac))))) (pec as f T.W_y (aa (vr 1) (aa af ac))) (λ_ _=>rfl)) ac)))) (aa (vr 2) ac))))) (ag (psl 5 sc_aB (pec dK f T.W_at (aa (vr 4) (aa (vr 3) ac)))) (ag (a8 (PW.pt (gq (a5 ya (ao ax rfl T.z_len aF (aa (vr 5) ac)) (ao ax rfl T.z_len aF (aa (vr 4) ac)) (aB _)) (fM (a5 (Bd f.units) (aL rfl (N:=["_law_row","_law_units_here"]) (ix:=[none,some 4]) ⟨rfl,rfl,rfl,rfl,⟨rfl,rfl,rfl,trivial⟩⟩ (aN (vr 5)) ⟨λC s H fp=>am (i:=0) (show List.Nodup (["_law_row","_law_units_here"]:List Str) by decide +kernel) rfl (Or.inl rfl),λC s H fp=>kH (a5 ya (ao (lN (K:=K) rfl) rfl T.z_len aF (aa (vr 0) ac)) (ao (lN (K:=K) rfl) rfl T.z_len aF (aa (vr 1) ac)) (aB _)),λC s H fp=>(vr 0)⟩) (bL ac) (aB _))))) (ai (aq fz)) aE) (ag (a8 (PW.pt (gq (cf (bT (pec dd f T.W_aa (aa (vr 5) ac)))) (fM (cf (bT (pec ed f T.W_P (aa (vr 5) (aa (PE.or (au (vr 3) T.cl_Y T.mt_x fd f T.W_x.B .nil aA (aa (pec R f T.W_v (aa (vr 4) ac)) ac)) (PE.or (au (vr 3) T.cl_A T.mt_p en f T.W_p.B .nil aA (aa (pec R f T.W_v (aa (vr 4) ac)) ac)) (PE.or (au (vr 3) T.cl_B T.mt_q d' f T.W_q.B .nil aA (aa (pec R f T.W_v (aa (vr 4) ac)) ac)) (PE.or (au (vr 3) T.cl_K T.mt_t eg f T.W_t.B .nil aA (aa (pec R f T.W_v (aa (vr 4) ac)) ac)) (PE.or (au (vr 3) T.cl_C T.mt_l el f T.W_l.B .nil aA (aa (pec R f T.W_v (aa (vr 4) ac)) ac)) (au (vr 3) T.cl_j T.mt_g ew f T.W_g.B .nil aA (aa (pec R f T.W_v (aa (vr 4) ac)) ac))))))) ac)))))))) (ai (aq fz)) aE) (ag (psl 6 sc_aB (pec ct f T.W_aD (aa (vr 4) (aa (vr 3) ac)))) (ag (a8 (PW.pt (gq (cf (bT (pec d0 f T.W_I (aa (vr 6) ac)))) (fM (a5 mG (ak aj (vr 6) af (λ_ _=>rfl)) af (aB _))))) (ai (aq fz)) aE) (ag (cc PassesOwn.never rfl (aN (av rM (d9 jF (vr 0) (eZ af) (eZ af)) (bL (aa af ac)))) (am (i:=7) sc_aB.nd rfl (Or.inl rfl)) (ag (psr 8 sc_aB (pec dy f T.W_X (aa (vr 7) ac))) (ag (gI rfl (i:=9) sc_aB.nd rfl rfl (by with_unfolding_all rfl) (N:=["_law_k","_law_digits_here"]) (ix:=[none,some 8]) ⟨rfl,rfl,rfl,rfl,⟨rfl,rfl,rfl,trivial⟩⟩ (bR rfl T.z_range (aa (ao ax rfl T.z_len aF (aa (vr 4) ac)) ac)) ⟨λC s H fp=>am (i:=0) (show List.Nodup (["_law_k","_law_digits_here"]:List Str) by decide +kernel) rfl (Or.inl rfl),λC s H fp=>aG,λC s H fp=>(av bE (pec as f T.W_y (aa (vr 1) (aa (ak (bG (K:=K) rfl) (bL (aa af (aa (av c8 (av aH af (av rE af af)) af) ac))) (av fQ (vr 0) af) (λ_ _=>rfl)) ac))) af)⟩) (ag (psl 6 sc_aB (pec ea f T.W_s (aa (vr 5) (aa (vr 9) ac)))) (ai (a8 (PW.pt (gq (cf (bT (pec d0 f T.W_I (aa (vr 6) ac)))) (fM (a5 mG (ak aj (vr 6) af (λ_ _=>rfl)) af (aB _))))) (ai (aq fz)) aE)))))) (ai (aq fz)))))))))))),?_⟩
  refine⟨p,ns,0,rfl,hS,b6,by decide,by decide,⟨_,rfl,λG n0 b2=>?_⟩⟩;have s1:=Same.new (o:=.lst [.int n0]) b2;have e1:=ae (H:=H) (a:=G) (o:=.lst [.int n0]);generalize upd H G _=H1 at s1 e1;refine⟨G,n0,3,rfl,e1,by decide,by decide,λlv n1 l0 l1=>?_⟩;have s2:SameP G H1 (upd H1 G (.lst [.int n1])):=SameP.put;have e2:=ae (H:=H1) (a:=G) (o:=.lst [.int n1]);generalize upd H1 G _=H2 at s2 e2;obtain⟨I,rfl⟩:=Int.eq_ofNat_of_zero_le l0;have g:I<=2:=by lia
  refine⟨G,n1,I,rfl,e2,g,λH3 vt pl n3 s3 e3 e' hh=>?_⟩;refine⟨vt,pl,rfl,e',wV hh g,λH4 v s4 d3=>?_⟩;have e4:=s4 _ _ e3;refine⟨by show 4<=sizeLine;decide,λlk br=>?_⟩;have s5:=Same.new (o:=.lst [.int 6,.int 6,.int 6,.int 12]) br;have b5:=ae (H:=H4) (a:=lk) (o:=.lst [.int 6,.int 6,.int 6,.int 12]);have ev:lk≠G:=λz=>by rw[z,e4]at br;cases br
  generalize upd H4 lk (.lst [.int 6,.int 6,.int 6,.int 12])=H5 at s5 b5;refine⟨G,n3,4,rfl,s5 _ _ e4,by decide,by decide,λkk n6 k0 k1=>?_⟩;have s6:SameP G H5 (upd H5 G (.lst [.int n6])):=SameP.put;have e6:=ae (H:=H5) (a:=G) (o:=.lst [.int n6]);generalize upd H5 G (.lst [.int n6])=H6 at s6 e6;obtain⟨y,hy,ey⟩:=lR (xs:=[V.int 6,V.int 6,V.int 6,V.int 12]) (i:=kk) k0 (by show kk<((4:Nat):Int);lia)
  obtain⟨kz,rfl,kz0,kz1⟩:∃ kz:Int,y=.int kz/\1<=kz/\kz<=12:=by
   simp only[mem_cons,not_mem_nil,or_false]at hy
   rcases hy with rfl | rfl | rfl | rfl <;> exact⟨_,rfl,by decide,by decide⟩
  refine .inl ⟨lk,_,_,_,rfl,rfl,SqL.of (s6 _ _ ev b5),ey,?_⟩;refine⟨G,n6,kz,rfl,e6,by lia,by lia,λm n7 m0 m1=>?_⟩;have s7:SameP G H6 (upd H6 G (.lst [.int n7])):=SameP.put;have e7:=ae (H:=H6) (a:=G) (o:=.lst [.int n7]);generalize upd H6 G (.lst [.int n7])=H7 at s7 e7;refine⟨G,n7,1+m,I,rfl,e7,by lia,by lia,g,λH8 l B xs n8 s8 f9 e8 hl hu hg ef a2=>?_⟩;have d2:SameP G H4 H8:=(((SameP.of s5).trans s6).trans s7).trans s8;have dp:Same H H8:=λb o e=>have nb:=ay e b2;d2 _ _ nb (s4 _ _ (s3 _ _ nb (s2 _ _ nb (s1 _ _ e))))
  have et:=hT.same dp;have a0:IsPn a H8 v pl:=d3.sp e4 d2;have hC:=Dh hg ef (by lia) g a2;have Z:∀ u∈B,u.path.length=I:=λu hu=>(a2 u hu).1
  have fv:=hu.len;have g1:=hg.l1;have g2:=hg.l2;obtain⟨C,F⟩:=E8 hh g hC;have SP:∀ vv:Nat->Rat,0<=spr (pe (ent pl (crU B)) (crU B)) vv B.length:=λvv=>by have:=BL hh hC vv;rwa [gz]at this
  rw[gz]at F;refine⟨l,B,xs,I,v,pl,rfl,hl,hu,hg,Z,g,hh,a0,hC,et,λH9 r X t9 ek _ aS _ hM=>?_⟩;have ca:=t9.at hl;obtain⟨lr,ei,e0,c',fy,co⟩:=id hM;cases e0;rw[aS]at c';cases c';refine⟨X,.inl (SqL.of aS),⟨xs,.inl (SqL.of ca),?_⟩⟩;refine ifB (λc=>?_) λ_=>?_
  .have c:(X.length:Int)≠(xs.length:Int):=by simpa using c
   lia
  refine .inl ⟨⟨_,SqL.of aS⟩,λD hD=>?_⟩
  let Pw1:PvL:=λi zs W=>W=upd H9 D (.lst [])/\zs=[]
  refine aD (K:=K) (a:=r) (xs:=X) Pw1 ⟨rfl,rfl⟩ (λi ys W h=>by rw[h.1];exact SqL.of (Same.new hD _ _ aS)) (λi ys W h=>by rw[h.1,h.2];exact ae) ?_ ?_
  .rintro i x zs W P' hx ⟨rfl,rfl⟩ hP
   obtain⟨rr,es,rfl,eq,f',_⟩:=co i x hx;refine⟨⟨rfl,trivial⟩,es,.inl (SqL.of (Same.new hD _ _ eq)),⟨xs,.inl (SqL.of (Same.new hD _ _ ca)),?_⟩⟩;refine ifB (λc=>?_) λ_=>hP _ _ ⟨rfl,rfl⟩
   have c:(es.length:Int)≠(xs.length:Int):=by simpa using c
   lia
  rintro zs fo ⟨rfl,rfl⟩;have c1:=Same.new (o:=.lst []) hD;refine⟨Nat.zero_le _,λD2 dV=>?_⟩;have b1:=Same.new (o:=.lst []) dV;refine⟨.list [],.list [],(by rw[DV];exact⟨D,[],rfl,SqL.of (b1 _ _ ae),by simp[DVs]⟩),(by rw[DV];exact⟨D2,[],rfl,SqL.of ae,by simp[DVs]⟩),rfl,rfl,?_⟩;have M:=c1.trans b1;generalize upd (upd H9 D (.lst [])) D2 (.lst [])=H11 at M;clear c1 b1 hD dV;have eu:=t9.trans M.t;refine⟨B.length,C,.ref r,_,_,_,rfl,hM.q (SQ.of M.t),F,λfi cT=>?_⟩;have ab:=eu.trans cT.t;have a':=M.trans cT;refine fq (S:=spBo a 2) "bounds" (λ_=>rfl) (λ_=>rfl) (λ_=>rfl) (λ_ _=>rfl) (λP=>spCrowd [.ref l] fi P λ_ _ _=>False) (a0.n (dR ab)) λkc E' hk=>?_
  refine⟨l,B,xs,rfl,ab.at hl,hu.tk (SameT.tk ab),hg,λf0 rc cs b' ej fe=>?_⟩;refine⟨I,v,pl,rc,cs,crU B,rfl,g,hk,hh,a0.n (dR (ab.trans b'.t)),ej,fe,hC,λf4 pb ff eH=>?_⟩;have J:=b'.trans ff;have eb:=ab.trans J.t;refine⟨B.length,C,.ref r,pb,_,_,_,rfl,eH,hM.q (SQ.of (a'.trans J).t),F,λfI ds=>?_⟩;have al:=eb.trans ds.t;have a3:=(a'.trans J).trans ds;refine⟨l,B,xs,I,v,pl,rfl,al.at hl,hu.tk (SameT.tk al),hg,Z,g,hh,a0.n (dR al),hC,ek.same a3,λbD f5 cS d1 bm=>?_⟩;refine⟨_,_,rfl,bm,?_⟩;obtain⟨pz,rfl,fl⟩:=bm;refine px0 fl.sq (ifC (λc=>?_) λ_=>?_)
  .have c:(spr (pe (ent pl (crU B)) (crU B)) (vf (B.map U.value)) B.length).num<0:=c
   have:=Rat.num_nonneg.mpr (SP (vf (B.map U.value)));lia
  have Y:=al.trans cS;have dx:SqL K bD p (ns.map V.int):=(dp.seq hS).imp (λz=>z.imp (λe=>Y.at e) (λ⟨o,e⟩=>⟨o,Y.at e⟩)) id;refine⟨_,rfl,_,rfl,.inl ⟨_,dx,λr1 eT=>?_⟩⟩;refine⟨by show 1<=sizeLine;decide,λr2 e5=>?_⟩;have u1:=Same.new (o:=.lst (ce (ns.map V.int) (some 1) (some 3))) eT;have u2:=Same.new (o:=.lst [.int 8]) e5;have cl:=fV (ns.map V.int) (some 1) (some 3);rw[length_map]at cl;refine⟨r1,r2,_,_,rfl,rfl,u2 _ _ ae,ae,by show _+1<=sizeLine;lia,λr3 er=>?_⟩;have u3:=(u1.trans u2).trans (Same.new (o:=.lst (ce (ns.map V.int) (some 1) (some 3)++[.int 8])) er);have dv:Mx K (Ex (pe (ent pl (crU B)) (crU B))) bD B.length (.ref r):=hM.q (SQ.of (a3.t.trans cS));refine .inl ⟨⟨_,SqL.of ae⟩,?_⟩
  let Pw2:PvS:=λi σ W=>LI a bD p v l r r3 (ce (ns.map V.int) (some 1) (some 3)++[.int 8]) G (I:Int) σ W
  refine df (K:=K) (a:=r3) (xs:=ce (ns.map V.int) (some 1) (some 3)++[.int 8]) Pw2 ⟨u3.t,d1.same u3,ae,_,_,_,_,rfl⟩ (λi σ W _ h=>SqL.of h.2.2.1) ?_ ?_
  .rintro i x σ L hx ⟨b0,bl,a4,x6,x7,x8,x9,rfl⟩
   obtain⟨c,rfl⟩:∃ c,x=.int c:=by
    rcases mem_append.mp (List.mem_of_getElem? hx) with h | h
    .obtain⟨c,_,e⟩:=mem_map.mp (yw h)
     exact⟨c,e.symm⟩
    .exact⟨8,mem_singleton.mp h⟩
   refine⟨c,rfl,λdg an c2=>?_⟩;have cO:=(Y.trans b0).at hl;have ad:=Same.new (o:=.lst [.int an]) c2;have bp:=ae (H:=L) (a:=dg) (o:=.lst [.int an]);generalize upd L dg (.lst [.int an])=H18 at ad bp;refine⟨xs,.inl (SqL.of (ad _ _ cO)),⟨_,rfl,by lia,by lia,λD hD=>?_⟩⟩;have nD:D≠dg:=λz=>by rw[z,bp]at hD;cases hD
   have fD:L D=none:=ad.free hD
   let Pw3:PvL:=λj ys W=>j<=xs.length/\Same L W/\(∃ n',W dg=some (.lst [.int n']))/\W D=some (.lst ys)/\∃ d:List Int,ys=d.map V.int/\d.length=j/\∀ x∈d,-2000000000<=x/\x<=2000000000
   refine ji (lo:=0) (n:=xs.length) Pw3 ⟨Nat.zero_le _,ad.put fD,⟨an,by rw[ar (Ne.symm nD)];exact bp⟩,ae,[],rfl,rfl,λx hx=>by cases hx⟩ (λj ys W h=>h.2.2.2.1) ?_ ?_
   .rintro j ys b3 P' hj ⟨_,cC,⟨eo,cW⟩,cB,d,rfl,dn,bo⟩ hP
    refine⟨⟨rfl,trivial⟩,cw,clB,by show 2<=sizeLine;decide,λl3 ap=>?_⟩;have n3:l3≠dg:=λz=>by rw[z,cW]at ap;cases ap
    have f3:L l3=none:=cC.free ap;have a1:=Same.new (o:=.lst [.int 3,.int (2*10 ^ (9:Int).toNat+1)]) ap;have dl:=ae (H:=b3) (a:=l3) (o:=.lst [.int 3,.int (2*10 ^ (9:Int).toNat+1)]);generalize upd b3 l3 (.lst [.int 3,.int (2*10 ^ (9:Int).toNat+1)])=H20 at a1 dl;refine⟨cp,?_⟩
    obtain⟨z,ez,z0,z1⟩:∃ z:Int,atI [V.int 3,V.int (2*10 ^ (9:Int).toNat+1)] ((0+(j:Int)) % 2)=some (.int z)/\1<=z/\z<=2000000001:=by
     rcases(by lia:(0+(j:Int)) % 2=0\/(0+(j:Int)) % 2=1) with e | e <;> rw[e]
     .exact⟨3,rfl,by decide,by decide⟩
     .exact⟨_,rfl,by rw[e9];decide,by rw[e9];decide⟩
    refine .inl ⟨l3,_,_,_,rfl,rfl,SqL.of dl,ez,?_⟩;refine⟨dg,eo,z,rfl,a1 _ _ cW,by lia,by lia,λrv O r0 r1=>?_⟩;have cV:Same L (upd H20 dg (.lst [.int O])):=(cC.trans a1).put c2;have bd:(upd H20 dg (.lst [.int O])) D=some (.lst (d.map V.int)):=by rw[ar nD];exact a1 _ _ cB
    have b9:(upd H20 dg (.lst [.int O])) dg=some (.lst [.int O]):=ae;generalize upd H20 dg (.lst [.int O])=H21 at cV bd b9;refine⟨bd,by rw[length_map];lia,hP _ _ ⟨by lia,cV.put fD,⟨O,by rw[ar (Ne.symm nD)];exact b9⟩,ae,d++[rv - 1],by rw[map_append];rfl,by rw[length_append,dn];rfl,λx hx=>?_⟩⟩
    rcases mem_append.mp hx with h | h
    .exact bo x h
    .rw[mem_singleton.mp h]
     constructor <;> lia
   rintro ys fC ⟨_,bq,_,cR,d,rfl,dn,bo⟩;have dc:=b0.trans bq.t;refine⟨B.length,C,.ref r,.ref D,_,d,rfl,⟨F.sp,⟨by lia,bo⟩,dv.q (SQ.of dc),D,rfl,cR⟩,bl.same bq,λf2 fx ch b8 bn=>?_⟩;refine⟨_,_,rfl,bn,?_⟩;obtain⟨fS,rfl,c3⟩:=bn;refine px0 c3.sq (ifC (λc=>?_) λ_=>?_)
   .have c:(spr (pe (ent pl (crU B)) (crU B)) (vf d) B.length).num<0:=c
    have:=Rat.num_nonneg.mpr (SP (vf d));lia
   exact⟨dc.trans ch,b8,(bq.t.trans ch).at a4,_,_,_,_,rfl⟩
  .rintro σ L ⟨b0,bl,a4,x6,x7,x8,x9,rfl⟩
   exact q _
end
end My
namespace My
open PySem L2
abbrev fnS(n q:Str)(st:Stmt):=fnOf n q (i3 st) (cG st) (ah st) .none
abbrev fnT(n:Str)(st:Stmt):=fnS n n st
theorem w1{b:Type}{p:List b->Prop}(h:∀ a,p [a]):∀ us:List b,us.length=1->p us
 | [a],_=>h a
theorem w2{c:Type}{p:List c->Prop}(h:∀ a b,p [a,b]):∀ us:List c,us.length=2->p us
 | [a,b],_=>h a b
theorem w3{d:Type}{p:List d->Prop}(h:∀ a b c,p [a,b,c]):∀ us:List d,us.length=3->p us
 | [a,b,c],_=>h a b c
theorem w4{e:Type}{p:List e->Prop}(h:∀ a b c d,p [a,b,c,d]):∀ us:List e,us.length=4->p us
 | [a,b,c,d],_=>h a b c d
theorem us0{a:Type}:∀{us:List a},us.length=0->us=[]
 | [],_=>rfl
theorem fnd_mk{K:Frag}{h:Heap}{mg:Str->Option Value}(X:K.In h)(G:h.Ns mainGlobals mg){n:Str}{b:Stmt}{o:List Str}{f:Addr}{s:Value}{r j:Option Addr}{p:Array (Option Value)}{e m i d g:Value}(w:∀(e m i:Value) (j:Option Addr) (d g:Value) (us:List Value),us.length=o.length->bindArgs (fnT n b e m i j d g) ⟨us,[]⟩=pure (o.zip us))(a:nsIn K mainGlobals n=some (some (.ref f)))(l:K.lookup f=some ⟨s,r,.func (fnT n b e m i j d g),p⟩)(c:codeIn K d n=true)(k:keepIn K (.ref f)=true):Fnd K mg n b o f (fnT n b e m i j d g) :=
 ⟨oP (st:=b) l c k,(oP (st:=b) l c k).binds w,mg_of X G a⟩
theorem mnd_mk{K:Frag}{n q:Str}{b:Stmt}{j:List Str}{f:Addr}{p:Value}{o h:Option Addr}{m:Array (Option Value)}{d i g a e:Value}(w:∀(d i g:Value) (h:Option Addr) (a e:Value) (us:List Value),us.length=j.length->bindArgs (fnS n q b d i g h a e) ⟨us,[]⟩=pure (j.zip us))(l:K.lookup f=some ⟨p,o,.func (fnS n q b d i g h a e),m⟩)(c:codeIn K a q=true)(k:keepIn K (.ref f)=true):Mnd K n q b j f (fnS n q b d i g h a e) :=
 ⟨oP (st:=b) l c k,(oP (st:=b) l c k).binds w⟩
theorem lch_mk{K:Frag}{e c:Addr}{lo:Value}{d:Option Addr}{a:Array Value}{b:Array (Option Value)}(_:K.lookup e=some ⟨lo,d,.fields a,b⟩)(_:a[11]? = some (.ref c))(h:codeHdIn K e c=true):codeHdIn K e c=true:=h
theorem na_mk{K:Frag}{C:Addr}{x:Str}(h:findIn K (.ref C) x=some none):NoAttr K C x:=h
end My
open PySem PySem.W PyProof.Rows
namespace PySem.W.Fast
def tw13827943469794771008:=0
def tw11959698739986068385:=0
def tw8331794733422944258:=0
def tw15309940879554532482:=0
def tw12969977954032680899:=0
def tw3468208309525780935:=0
def tw5258553762478244488:=0
def tw11604878016330581834:=0
def tw11320749318370603917:=0
def tw5597859657156451470:=0
def tw5414491947070244914:=0
def tw9040422877591181683:=0
def tw4835373493428574611:=0
def tw9982621423813863091:=0
def tw4166649564561195508:=0
def tw7015684198253367383:=0
def tw10022499283657093239:=0
def tw12031411382425279354:=0
def tw1201367071305126076:=0
def tw10341037562068893564:=0
def tw17268209584946419997:=0
def tw2841617592186012158:=0
def tw2227650767897742479:=0
def tw8700498119520845619:=0
def tw3652469384974624607:=0
def tw2857718466999234967:=0
def tw15044678921733937623:=0
def tw6192219431723926356:=0
def tw16241311706274519400:=0
def tw16381798983227762279:=0
def tw5506687430431385996:=0
def tw1478418114057805927:=0
def tw4778560619560585860:=0
def tw7570409511388412226:=0
def tw11842847627666188618:=0
def tw8772701625737770526:=0
def tw16997046497261885886:=0
def tw11695641829632159921:=0
def tw7587423011147780398:=0
def tw6855575080965055299:=0
def tw10912734697603069287:=0
def tw3187746450356036562:=0
def tw14099633932808336720:=0
def tw15355488964377353207:=0
def tw11840624679170746358:=0
def tw2832990971609380833:=0
def tw200256737880188890:=0
def tw13639482472971786935:=0
def tw13199238111415527841:=0
def tw11456328663134457123:=0
def tw8139433676812675263:=0
def tw2677509839226330299:=0
def tw2196525525251364676:=0
def tw10731261841743243844:=0
def tw4899151025155310182:=0
def tw8174302659066451892:=0
def tw7677937848886346282:=0
def tw7338399294600731767:=0
def tw5564310366181981641:=0
def tw3835519133804942780:=0
def tw5597136924345351662:=0
def tw12055648756233211144:=0
def tw4349072067871583389:=0
def tw12631988201897561363:=0
def tw5039473000345146814:=0
def tw10842610146284701034:=0
def tw4836453473591559340:=0
def tw7822312075503004591:=0
def tw6582911797881323657:=0
def tw4407704759957827844:=0
def tw9023409921089011754:=0
def tw15022998586684782129:=0
def tw4170438713692194453:=0
def tw5293608518571512572:=0
def tw14479447077993339565:=0
def tw11273647588538966586:=0
def tw17128034237433473150:=0
def tw17936640592890518654:=0
def tw12588803697235478384:=0
def tw5621099093615795583:=0
def tw17473975182580047330:=0
def tw5640723178179370323:=0
def tw11595126593224468927:=0
def tw7594808308841791561:=0
def tw590072089281907118:=0
def tw10017148284180354081:=0
def tw16512532115592768447:=0
def tw13919689893033437031:=0
def tw8254891185365443181:=0
def tw15154873350219474927:=0
def tw2923950868113270096:=0
def tw12075108605012881142:=0
def tw5809822197541140418:=0
def tw11541920397277985347:=0
def tw6483627512998115863:=0
def tw2521619488802620147:=0
def tw17518695989313648616:=0
def tw14195193074118102272:=0
def tw7527272463125585438:=0
def tw17439003440938653936:=0
def tw12155930957909615274:=0
def tw3076005423056986083:=0
def tw10816778500633110326:=0
def tw8725565696588959968:=0
def tw4386496164920513491:=0
def tw69450340562808275:=0
def tw2820642646195868713:=0
def tw8828455130297306972:=0
def tw8956036773206285912:=0
def tw9977774838545060009:=0
def tw15652706453006520775:=0
def tw8125723291024530882:=0
def tw15457584591559715825:=0
def tw1501786946130819666:=0
def tw5560097459840476297:=0
def tw3124225403705348296:=0
def tw10301856228564728047:=0
def tw18120505234432711767:=0
def tw15129013048420886695:=0
def tw16158021266933301357:=0
def tw6296809076227540197:=0
def tw12730189611660266078:=0
def tw14554100523778725669:=0
def tw8141609805172694952:=0
def tw14841526491538924522:=0
def tw17473359048468414123:=0
def tw17039230750569279902:=0
def tw13196232143686607894:=0
def tw3219112056172703321:=0
def tw8987200877819867103:=0
def tw10871655756810634206:=0
def tw13584726875950786703:=0
def tw18155000613584348980:=0
def tw15875378367741797555:=0
def tw16917471459247966034:=0
def tw1370831064160895583:=0
def tw17705236212854766764:=0
def tw736408422616202245:=0
def tw6626898002036648814:=0
def tw13413631396694445674:=0
def tw17045544012175282525:=0
def tw7513658019906587162:=0
def tw14677437389940794753:=0
def tw5171729841184415375:=0
def tw13038629738150633165:=0
def tw5760094741129287424:=0
def tw1463247575300653845:=0
def tw15844783272385221213:=0
def tw14174868493883756193:=0
def tw6382668757196479317:=0
def tw3468073566835741848:=0
def tw14410919414133401708:=0
def tw14638832650627143850:=0
def tw2434013854328231178:=0
def tw14346712724483237429:=0
def tw6283844983213024458:=0
def tw17368994949140448693:=0
def tw9024286340640615551:=0
def tw14818756246265545338:=0
def tw3183146190221644408:=0
def tw16666013402783884270:=0
def tw17454553272054930815:=0
def tw6263532103662410151:=0
def tw10732293302504740571:=0
def tw2140291681965374165:=0
def tw10649168813780056045:=0
def tw7262691907657898518:=0
def tw12939188792857225136:=0
def tw3486638981347249137:=0
def tw10931006517092146456:=0
def tw13294328190070082470:=0
def tw433057889512282976:=0
def tw6022076475024595965:=0
def tw16919211039751288993:=0
def tw3234616550190142028:=0
def tw11358817134437409117:=0
def tw10101055629364273499:=0
def tw17153321712350577865:=0
def tw4314681291091783016:=0
def tw14548218884729255795:=0
def tw17857599845729080766:=0
def tw635802766009854320:=0
def tw5214828848766794067:=0
def tw12940509210132731144:=0
def tw13805922878567314539:=0
def tw2718910133456784818:=0
def tw2267213998300039385:=0
def tw13948276405058813825:=0
def tw14802654355036015592:=0
def tw6997253851771366019:=0
def tw2693368307328310342:=0
def tw6396699509592299009:=0
def tw12365146987542960719:=0
def tw13642153585905010145:=0
def tw14390913610133914222:=0
def tw3853462129651387911:=0
def tw4926405140700903295:=0
def tw3514183799697054095:=0
def tw5880509503170566245:=0
def tw8135301449900555660:=0
def tw9491071284564822255:=0
def tw6194992375658416357:=0
def tw7224432881339926934:=0
def tw17756558712631347571:=0
def tw599299982924159352:=0
def tw3103867808610050804:=0
def tw13840117800929630948:=0
def tw6794178165768619785:=0
def tw3662959016656161228:=0
def tw13358019676554683792:=0
def tw16466592946752595050:=0
def tw10808753015603461428:=0
def tw2217173490766736062:=0
def tw12401046386448697018:=0
def tw81420001393133755:=0
def tw17965893098758592466:=0
def tw356587299685479480:=0
def tw8152833484878356571:=0
def tw14968653101006517762:=0
def tw14458914493006102718:=0
def tw3116566491754702039:=0
def tw3277732575451263677:=0
def tw13313066075295101243:=0
def tw17190164303964562799:=0
def tw12066949697727856677:=0
def tw2437354421119724929:=0
def tw5787285150017020059:=0
def tw1438785300468147593:=0
def tw13474597100527606005:=0
def tw6670773859427116123:=0
def tw7051133938550751192:=0
def tw483844734129795631:=0
def tw7841917119779524456:=0
def tw18255685539113020109:=0
def tw7177721972688970456:=0
def tw15585619735840901688:=0
def tw10634283536492418263:=0
def tw14809553929232880983:=0
def tw2540808210754993446:=0
def tw8798870917424571172:=0
def tw1177078256980243600:=0
def tw10122901574657508102:=0
def tw18159332103435420314:=0
def tw5208841486267376131:=0
def tw17281884344252198025:=0
def tw8984822570532922546:=0
def tw9649149715897674797:=0
def tw15318132540980562744:=0
def tw1329307104186026439:=0
def tw6292319190610711249:=0
def tw9005597874153924595:=0
def tw13150979204567846625:=0
def tw16780463206026607151:=0
def tw9333696082045632073:=0
def tw14867288093353635742:=0
def tw15824443195401305208:=0
def tw12884265508891475752:=0
def tw8475893812555306371:=0
def tw2202863482573650245:=0
def tw10254319360381076144:=0
def tw7387840362284064014:=0
def tw7585144198770130088:=0
def tw8789774106599238459:=0
def tw1603483514517336265:=0
def tw7023409890092175151:=0
def tw6362797097987609803:=0
def tw12719263428302045671:=0
def tw15169151746605087337:=0
def tw563421059717572365:=0
def tw16465733327083979859:=0
def tw12321502045551262242:=0
def tw2682016252645421562:=0
def tw6621668168570058563:=0
def tw16548772099606304370:=0
def tw7087237801801637334:=0
def tw5801788060023637791:=0
def tw12896159160821909776:=0
def tw2779077222297225480:=0
def tw3520424904203601375:=0
def tw11133774020591778199:=0
def tw5989907332558867684:=0
def tw17655228129120374974:=0
def tw8782445301459661365:=0
def tw12045923806137075974:=0
def tw4824337403319391915:=0
def tw8744993550982721497:=0
def tw13002566635704406751:=0
def tw14275794175631323084:=0
def tw6361508917700010119:=0
def tw8226873029828934615:=0
def tw8502028438598045332:=0
def tw16092604134595292191:=0
def tw9541651917123621468:=0
def tw3354961558768521704:=0
def tw9988659288442512881:=0
def tw1533174283442761332:=0
def tw1612914888021753232:=0
def tw7263570024637973999:=0
def tw8968477345742402186:=0
def tw16384055382356272973:=0
def tw17999424597292640773:=0
def tw5609319736144274692:=0
def tw11742586731512403155:=0
def tw1379997585849760735:=0
def tw5408705431144461814:=0
def tw6384714397239785197:=0
def tw9508507260738651770:=0
def tw6633120601938435203:=0
def tw7200209713527764262:=0
def tw11000185078038400075:=0
def tw2190767905096178045:=0
def tw3270744321864166192:=0
def tw13353984569630695093:=0
def tw17670678402633809386:=0
def tw4778503200209552479:=0
def tw14275257021876933224:=0
def tw821626725640877738:=0
def tw11959093789737625951:=0
def tw12530485439301937977:=0
def tw2515827413905782593:=0
def tw18289652713073294375:=0
def tw4406342736660578685:=0
def tw2392077351345437803:=0
def tw10641518341607438643:=0
def tw5864210894448797812:=0
def tw14801893535690300709:=0
def tw15952218402860030418:=0
def tw16537610986082064377:=0
def tw13261416876076576867:=0
def tw5657848092373289591:=0
def tw17820400404966475183:=0
def tw859040724254551136:=0
def tw10843173807304445431:=0
def tw11709901461567912676:=0
def tw12131363188877600180:=0
def tw12998029940366007307:=0
def tw4129442360289291999:=0
def tw4925334364806444344:=0
def tw6241803027816668164:=0
def tw1492345308737231673:=0
def tw4261249153816750813:=0
def tw476503968498182394:=0
def tw8369891462159914314:=0
def tw376167139186593599:=0
def tw15514616833314203007:=0
def tw6355412176881248171:=0
def tw13274843513969295763:=0
def tw10132911619814125194:=0
def tw12691457366812085511:=0
def tw15255350210975103464:=0
def tw16457002000121713713:=0
def tw195584836679160720:=0
def tw15545467591218510606:=0
def tw2104723886038533236:=0
end PySem.W.Fast
set_option maxRecDepth 100000 in
set_option maxHeartbeats 0 in
theorem PySem.Challenge.cw_fewspeak_k94_whole_spread_never_below_holds : PySem.Challenge.rw_fewspeak_k94_whole_spread_never_below.Holds := by
 w_on;o_law;k_head;(case hw=>w_witness2)
 k_fill
 refine L2.walk_ofT (l:=PySem.Challenge.rw_fewspeak_k94_whole_spread_never_below) (n:=63) (k:=My.lawK) (x := "_law_script") (CX:=L2.CX0) (sp:=My.spLaw) rfl (by decide) rfl ⟨rfl,by decide,by decide⟩ (λw h Y=>⟨PySem.W.km_in_of Y,PySem.W.km_tabs_of Y⟩) ?F ?S ?C
 case F =>
  intro ts' hts w mg fa h KX G hmg
  have T:∃ a,My.Txt (L2.KOf KX) mg a/\(My.tabs a).map (·.1)=ts':=by
   rw[hts];dsimp only[L2.KOf];refine' ⟨?a,?T,?E⟩;apply My.Ad.mk
   (case E=>exact rfl)
   case T =>
    constructor
    all_goals try dsimp only
    (case g_LETTERS | g_MOST_LETTERS | g_MOST_UNITS | g_MOST_LEVELS | g_VALUE_BOUND | g_MOST_SIZE | g_UNIT_PARTS | g_MOST_MANY | g_MOST_STEP | g_NOUGHT | g_WHOLE | g_TWICE=>exact⟨_,mg_of KX G (by k_is),by first | exact rfl | exact⟨_,rfl⟩⟩)
    (case mc_Y | mc_A | mc_B | mc_K | mc_C | mc_j=>exact mg_of KX G (by k_is))
    (case W_u | W_L | W_ax | W_af | W_O | W_ay | W_aw | W_ab | W_Q | W_aC | W_w | W_U | W_o | W_at | W_aD | W_s | W_M | W_m | W_ae | W_W | W_aE | W_aG | W_y | W_T | W_ak | W_av | W_ar | W_ah | W_aj | W_P=>exact My.fnd_mk KX G (λ_ _ _ _ _ _=>My.w2 λ_ _=>rfl) (by k_is) (by k_is) (by k_is) (by k_is))
    (case W_E | W_aF | W_as | W_J | W_az | W_aA | W_V | W_ao | W_v | W_S | W_ap | W_N | W_r | W_ag | W_b | W_H | W_X | W_au | W_ai | W_I | W_aa | W_aB=>exact My.fnd_mk KX G (λ_ _ _ _ _ _=>My.w1 λ_=>rfl) (by k_is) (by k_is) (by k_is) (by k_is))
    (case W_Z | W_al | W_am | W_G | W_an | W_R=>exact My.fnd_mk KX G (λ_ _ _ _ _ _=>My.w3 λ_ _ _=>rfl) (by k_is) (by k_is) (by k_is) (by k_is))
    (case W_ac | W_ad | W_aq | W_F | W_f | W_D=>exact My.fnd_mk KX G (λ_ _ _ _ _ _=>My.w4 λ_ _ _ _=>rfl) (by k_is) (by k_is) (by k_is) (by k_is))
    (case cl_Y | cl_A | cl_B | cl_K | cl_C | cl_j=>constructor <;> first | k_is | kernel_rfl)
    (case mk_Y | mk_A | mk_B | mk_K | mk_C | mk_j=>constructor <;> first | k_is | kernel_rfl)
    (case na_Few_many | na_Start_step | na_Loose_many | na_Duel_many | na_Each_inside | na_First_outside | na_First_inside=>exact My.na_mk (by first | k_is | kernel_rfl))
    (case mt_h | mt_x | mt_Few_need_levels | mt_c | mt_p | mt_Start_need_levels | mt_d | mt_q | mt_Loose_need_levels | mt_z | mt_t | mt_Duel_need_levels | mt_e | mt_l | mt_k | mt_n | mt_g | mt_i=>constructor <;> first | k_is | kernel_rfl)
    (case z_abs | z_all | z_bool | z_enumerate | z_int | z_isinstance | z_len | z_list | z_min | z_range | z_sorted | z_str | z_sum | z_tuple=>exact PySem.W.mg_none_of KX G (by k_is))
    (case Wi_Y | Wi_A | Wi_B | Wi_K | Wi_C | W_h | W_c | W_d | W_z | W_e | W_n | W_x | W_p | W_q | W_t | W_l | W_g | W_a | W_k | W_i=>exact My.mnd_mk (λ_ _ _ _ _ _=>My.w2 λ_ _=>rfl) (by k_is) (by k_is) (by k_is))
    (case Wi_j=>exact My.mnd_mk (λ_ _ _ _ _ _=>My.w3 λ_ _ _=>rfl) (by k_is) (by k_is) (by k_is))
    (case lcd_f | lcd_e | lcd_m | lcd_d | lcd_c | lcd_h | lcd_s=>exact rfl)
    (case t_NOUGHT | t_WHOLE | t_TWICE=>kernel_rfl)
    (case lch_f | lch_e | lch_m | lch_d | lch_c | lch_h | lch_s=>exact My.lch_mk (by k_is) (by exact rfl) (by kernel_rfl))
    (case tnd=>dsimp only[My.tabs,List.map];decide)
    (case bl=>exact λs u=>.of_eq rfl)
  obtain⟨a,T,e1⟩:=T;have e1:=e1.trans hts;have e0:=hmg.symm.trans T.W_aB.C;cases e0;refine' ⟨a.d_aB,?b,?t,?u,λbase kb nb hB=>My.ok_law T hB ?v⟩
  case b=>exact T.bl
  case t =>
   intro P hP;have hP:=e1.symm ▸ hP;simp only[My.tabs,map_cons,map_nil,mem_cons,not_mem_nil,or_false]at hP
   rcases hP with rfl | rfl | rfl | rfl | rfl | rfl | rfl
   .exact⟨_,T.lch_f⟩
   .exact⟨_,T.lch_e⟩
   .exact⟨_,T.lch_m⟩
   .exact⟨_,T.lch_d⟩
   .exact⟨_,T.lch_c⟩
   .exact⟨_,T.lch_h⟩
   .exact⟨_,T.lch_s⟩
  case u =>
   intro P hP;simp only[mem_cons,not_mem_nil,or_false]at hP
   rcases hP with rfl | rfl | rfl | rfl | rfl | rfl | rfl <;> kernel_rfl
  case v =>
   intro q hq;rw[<- e1];exact List.mem_map_of_mem hq
 case S=>exact λK H a ns hl hO hS=>My.law_start hl hO hS
 case C=>exact λH s e s' z=>z
