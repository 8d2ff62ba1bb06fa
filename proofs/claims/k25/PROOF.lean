import PyProof.Rows.All
import Wide.All
import OpenK.AllK
import Wide.FinOn
import Lean
import PyProof.EqAt
import PyProof.EqKinds
import PyProof.TupleCall
import PySem.Challenge.RW_fewspeak_k25_whole_small_plans_walked
open PySem.W(CodeHd FnAt Frag InstAt Looks any_some callWith_K cellsFrom_some clsIn codeHdIn codeHd_of_K codeIn codeRec_of emptyDict findIn fnOf handedIn hasDictIn instObj isFn keepIn kia_one kitOne kitx_dict kitx_list kitx_tuple kla_fn kla_obj lookIn makesIn methodCall_KW methodObj mg_none_of mg_of mroIn nsIn nsOkIn plainGet plainGet_of plainOver specialIn tabObj tailIn takerIn takesIn typeIn)
open List(all_cons all_eq_true any_cons any_eq_true any_map append_assoc append_nil countP_map filterMap_cons filter_append filter_cons_of_neg filter_cons_of_pos forIn_cons getElem_mem length_append length_cons length_drop length_filter_le length_map length_nil length_range length_singleton length_take lookup_cons map_append map_congr_left map_cons map_map map_nil map_take mem_append mem_append_left mem_append_right mem_cons mem_cons_of_mem mem_cons_self mem_filter mem_map mem_range mem_singleton nil_append nodup_append nodup_cons nodup_nil not_mem_nil of_mem_zip pairwise_cons perm_middle range_succ size_toArray sum_cons take_add_one take_length take_of_length_le take_zero)
noncomputable section
set_option Elab.async false
set_option linter.all false
set_option maxRecDepth 100000
namespace L2
open PySem PySem.Spec PyProof.Rows
abbrev Key:=Sum Int Str
def jY:Key->Value->Bool
 | .inl k,v=>Value.isInt k v
 | .inr x,v=>Value.isStrOf x v
def yQ(w:World):Key->Int
 | .inl k=>hashInt k
 | .inr x=>hashStr w x
theorem bW:∀{k:Key}{v:Value},jY k v=true->(∃ i t,k=Sum.inl i/\v=Value.int i t)\/(∃ x t,k=Sum.inr x/\v=Value.str x t)
 | .inl i,v,h=>by
  obtain⟨t,e⟩:=Value.isInt_shape (k:=i) (v:=v) h;exact .inl ⟨i,t,rfl,e⟩
 | .inr x,v,h=>by
  obtain⟨t,e⟩:=Value.isStrOf_shape (x:=x) (v:=v) h;exact .inr ⟨x,t,rfl,e⟩
theorem qf(i:Int)(t:Tok):jY (.inl i) (.int i t)=true:=by simp[jY,Value.isInt]
theorem qv(x:Str)(t:Tok):jY (.inr x) (.str x t)=true:=by simp[jY,Value.isStrOf]
theorem wT(a b:Int):decide ((Sum.inl a:Key)=Sum.inl b)=(a == b):=by
 by_cases e:a=b
 .subst e;simp
 .have h:¬(Sum.inl a:Key)=Sum.inl b:=λq=>e (Sum.inl.inj q)
  rw[decide_eq_false h];exact(beq_eq_false_iff_ne.mpr e).symm
theorem wm(a b:Str):decide ((Sum.inr a:Key)=Sum.inr b)=decide (a=b):=by
 by_cases e:a=b
 .subst e;simp
 .have h:¬(Sum.inr a:Key)=Sum.inr b:=λq=>e (Sum.inr.inj q)
  rw[decide_eq_false h,decide_eq_false e]
theorem vU(a:Int)(b:Str):decide ((Sum.inl a:Key)=Sum.inr b)=false:=decide_eq_false (λq=>nomatch q)
theorem wE(a:Str)(b:Int):decide ((Sum.inr a:Key)=Sum.inl b)=false:=decide_eq_false (λq=>nomatch q)
def bN(prog:Program)(w:World):PySem.KeyKind prog w Key where
 is:=jY
 hash:=yQ w
 inj:=λv a b ha hb=>by
  rcases bW ha with⟨i,t,rfl,rfl⟩ | ⟨x,t,rfl,rfl⟩
  .rcases bW hb with⟨j,u,rfl,e⟩ | ⟨y,u,rfl,e⟩
   .injection e with e1 _;rw[e1]
   .exact nomatch e
  .rcases bW hb with⟨j,u,rfl,e⟩ | ⟨y,u,rfl,e⟩
   .exact nomatch e
   .injection e with e1 _;rw[e1]
 byValue:=λk v h=>by
  rcases bW h with⟨i,t,rfl,rfl⟩ | ⟨x,t,rfl,rfl⟩ <;> rfl
 pyHash:=λhv h=>by
  rcases bW hv with⟨i,t,rfl,rfl⟩ | ⟨x,t,rfl,rfl⟩
  .exact wpAny_pyHash_int h
  .exact wpAny_pyHash_str h
 eqBool:=λhu hv h=>by
  rcases bW hu with⟨i,t,rfl,rfl⟩ | ⟨x,t,rfl,rfl⟩
  .rcases bW hv with⟨j,u,rfl,rfl⟩ | ⟨y,u,rfl,rfl⟩
   .rw[wT]at h;exact wpAny_eqBool_int h
   .rw[vU]at h;exact SeqAt.EqAt.int_str i t y u _ _ _ _ h
  .rcases bW hv with⟨j,u,rfl,rfl⟩ | ⟨y,u,rfl,rfl⟩
   .rw[wE]at h;exact SeqAt.EqAt.str_int x t j u _ _ _ _ h
   .rw[wm]at h;exact wpAny_eqBool_str h
 «strs»:=λk x t v h=>by
  rcases bW h with⟨i,u,rfl,e⟩ | ⟨y,u,rfl,e⟩
  .exact nomatch e
  .injection e with e1 _
   subst e1
   cases v <;> rfl
theorem mw(prog:Program)(w:World)(i:Int)(t:Tok):(bN prog w).is (.inl i) (.int i t)=true:=qf i t
theorem lV(prog:Program)(w:World)(x:Str)(t:Tok):(bN prog w).is (.inr x) (.str x t)=true:=qv x t
inductive V where
 | non | bl (b:Bool) | int (i:Int) | str (x:Str) | byt (b:Array UInt8) | flt (b:UInt64) | ref (a:Addr) | ty (n:String)
 deriving DecidableEq
def RelV:V->Value->Prop
 | .non,u=>u=Value.none
 | .bl b,u=>u=Value.bool b
 | .int i,u=>∃ t,u=Value.int i t
 | .str x,u=>∃ t,u=Value.str x t
 | .byt b,u=>∃ t,u=Value.bytes b t
 | .flt b,u=>∃ t,u=Value.float b t
 | .ref a,u=>u=Value.ref a
 | .ty n,u=>u=Value.type n
abbrev Vals:List V->List Value->Prop:=Paired RelV
theorem Vals.length{xs:List V}{us:List Value}(r:Vals xs us):xs.length=us.length:=Paired.length r
theorem Vals.get:∀{xs:List V}{us:List Value}{i:Nat}{x:V},Vals xs us->xs[i]? = some x->∃ u,us[i]? = some u/\RelV x u
 | _,_,_,_,.nil,e=>by simp at e
 | _,_,0,_,.cons r _,e=>by simp at e;subst e;exact⟨_,rfl,r⟩
 | _,_,i+1,x,.cons _ t,e=>by
  obtain⟨u,b,a⟩:=Vals.get (i:=i) (x:=x) t (by simpa using e);exact⟨u,by simpa using b,a⟩
theorem Vals.append:∀{xs ys:List V}{us ws:List Value},Vals xs us->Vals ys ws->Vals (xs++ys) (us++ws)
 | _,_,_,_,.nil,s=>s
 | _,_,_,_,.cons r t,s=>.cons r (Vals.append t s)
theorem Vals.take:∀{xs:List V}{us:List Value}(n:Nat),Vals xs us->Vals (xs.take n) (us.take n)
 | _,_,0,_=>.nil
 | _,_,_+1,.nil=>.nil
 | _,_,n+1,.cons r t=>.cons r (Vals.take n t)
theorem Vals.drop:∀{xs:List V}{us:List Value}(n:Nat),Vals xs us->Vals (xs.drop n) (us.drop n)
 | _,_,0,r=>r
 | _,_,_+1,.nil=>.nil
 | _,_,n+1,.cons _ t=>Vals.drop n t
def RelO:Option V->Option Value->Prop
 | some v,some u=>RelV v u
 | none,none=>True
 | _,_=>False
def KV{κ:Type}:List (κ×V)->List (κ×Value)->Prop:=Paired λ(p:κ×V) (q:κ×Value)=>p.1=q.1/\RelV p.2 q.2
def kV:Key->V
 | .inl i=>.int i
 | .inr x=>.str x
inductive HO where
 | lst (xs:List V)
 | tup (xs:List V)
 | dK (kvs:List (Key×V)) | dT (kvs:List (List Key×V))
 | set (S:Int->Bool) (n:Nat)
 | ins (C dx:Addr) (fs:List (Str×V))
 | own (x:Addr)
 | xd (fs:List (Str×V))
 | met (f x:Addr)
 | rng (lo hi:Int)
 | frz (o:Obj) (u:HO)
 | tbl (ps:Array Value)
 | ext (φ:Heap->Prop)
abbrev Hp:=Addr->Option HO
def upd(H:Hp)(a:Addr)(o:HO):Hp:=λb=>if b=a then some o else H b
theorem ad{H:Hp}{a:Addr}{o:HO}:upd H a o a=some o:=by unfold upd;rw[if_pos rfl]
theorem ai{H:Hp}{a b:Addr}{o:HO}(h:b≠a):upd H a o b=H b:=by unfold upd;rw[if_neg h]
theorem cE{H:Hp}{a:Addr}{o u:HO}:upd (upd H a o) a u=upd H a u:=by
 funext b;unfold upd;split <;> rfl
theorem vn{H:Hp}{a b:Addr}{o u:HO}(h:H a=some o)(h':H b=some u)(d:o≠u):a≠b:=by
 intro e;subst e;rw[h]at h';exact d (Option.some.inj h')
theorem ap{H:Hp}{a b:Addr}{o:HO}(h:H a=some o)(h':H b=none):a≠b:=by
 intro e;subst e;rw[h]at h';cases h'
section
variable (P:Program) (w:World)
def ObjOk(H:Hp)(h:Heap)(a:Addr):HO->Prop
 | .lst xs=>xs.length<=sizeLine/\∃(its:List Value) (n:Nat),Vals xs its/\h.get? a=some { cls:=.type "list",data:=.seq its.toArray n }
 | .tup xs=>xs.length<=sizeLine/\∃ its:List Value,Vals xs its/\IsTup h a its.toArray
 | .dK kvs=>kvs.length<=sizeLine/\(a == sysModules)=false/\∃ vs,KV kvs vs/\h.DictOf (bN P w) a vs
 | .dT kvs=>kvs.length<=sizeLine/\(a == sysModules)=false/\∃ xs:List (List Key×Addr×Value),
   Paired (λ(p:List Key×V) (q:List Key×Addr×Value)=>p.1=q.1/\H q.2.1=some (.tup (p.1.map kV))/\RelV p.2 q.2.2) kvs xs /\
   ∃ o es ep,h.get? a=some o/\o.ExactDict/\o.data=.dict es ep/\es.toList=xs.map (entryOfKey (tupleKind (bN P w)))/\(xs.map (·.1)).Nodup
 | .set S n=>h.SetOf (intKind P w) a S n
 | .ins C dx fs=>H dx=some (.own a)/\fs.length<=1000/\dx≠a/\h.get? a=some (instObj C dx) /\
   ∃ mA,h.Ns1 dx mA/\(∀ f,RelO (fs.lookup f) (mA f))/\PySem.Within mA (fs.map (·.1))
 | .own _=>∃ o,h.get? a=some o
 | .xd fs=>∃ mA,h.Ns1 a mA/\∀ f,RelO (fs.lookup f) (mA f)
 | .rng lo hi=>∃ t u v,h.get? a=some { cls:=.type "range",data:=.fields #[.int lo t,.int hi u,.int 1 v] }
 | .frz o u=>h.get? a=some o/\ObjOk H h a u
 | .tbl ps=>h.get? a=some { cls:=.none,data:=.fields ps }
 | .met f x=>h.get? a=some (methodObj (.ref f) (.ref x))
 | .ext φ=>φ h/\(∃ o,h.get? a=some o)/\∀ h1 h2:Heap,φ h1->(∀ o,h1.get? a=some o->h2.get? a=some o)->φ h2
def HOk(H:Hp)(h:Heap):Prop:=∀ a o,H a=some o->ObjOk P w H h a o
end
section
variable {P:Program}{w:World}{H H':Hp}{h h':Heap}{a:Addr}{o:HO}
theorem ObjOk.lt(x:ObjOk P w H h a o):a<h.objs.size:=by
 cases o with
 | lst xs=>obtain⟨_,_,_,_,e⟩:=x;exact Heap.lt_size e
 | tup xs=>obtain⟨_,_,_,p⟩:=x;exact p.lt
 | dK kvs=>obtain⟨_,_,_,_,o,_,_,e,_⟩:=x;exact Heap.lt_size e
 | dT kvs=>obtain⟨_,_,_,_,o,_,_,e,_⟩:=x;exact Heap.lt_size e
 | set S n=>obtain⟨o,_,_,_,e,_⟩:=x;exact Heap.lt_size e
 | ins C dx fs=>obtain⟨_,_,_,e,_⟩:=x;exact Heap.lt_size e
 | own y=>obtain⟨_,e⟩:=x;exact Heap.lt_size e
 | xd fs=>obtain⟨_,⟨_,_,_,e,_⟩,_⟩:=x;exact Heap.lt_size e
 | rng lo hi=>obtain⟨_,_,_,e⟩:=x;exact Heap.lt_size e
 | frz ob u=>obtain⟨e,_⟩:=x;exact Heap.lt_size e
 | tbl ps=>exact Heap.lt_size (show h.get? a=some _ from x)
 | met f y=>exact Heap.lt_size (show h.get? a=some _ from x)
 | ext φ=>obtain⟨_,⟨_,e⟩,_⟩:=x;exact Heap.lt_size e
theorem Paired.mapP{c d:Type}{F G:c->d->Prop}:∀{l₁:List c}{l₂:List d},Paired F l₁ l₂->(∀ a b,F a b->G a b)->Paired G l₁ l₂
 | _,_,.nil,_=>.nil
 | _,_,.cons r t,f=>.cons (f _ _ r) (Paired.mapP t f)
theorem ObjOk.stay(x:ObjOk P w H h a o)(k:∀ b u,(b=a\/H b=some (.own a))->h.get? b=some u->h'.get? b=some u)
  (E:∀ b,H b=some (.own a)->H' b=some (.own a)) (F:∀ b xs,H b=some (.tup xs)->H' b=some (.tup xs)):ObjOk P w H' h' a o:=by
 induction o with
 | lst xs=>obtain⟨z,l,n,r,e⟩:=x;exact⟨z,l,n,r,k _ _ (.inl rfl) e⟩
 | tup xs=>obtain⟨z,l,r,g,e,c⟩:=x;exact⟨z,l,r,g,k _ _ (.inl rfl) e,c⟩
 | dK kvs=>obtain⟨z,y,D,r,g,j,i,e,c⟩:=x;exact⟨z,y,D,r,g,j,i,k _ _ (.inl rfl) e,c⟩
 | dT kvs =>
  obtain⟨z,y,xs,r,g,j,i,e,c⟩:=x;exact⟨z,y,xs,Paired.mapP r λp q z=>⟨z.1,F _ _ z.2.1,z.2.2⟩,g,j,i,k _ _ (.inl rfl) e,c⟩
 | set S n=>obtain⟨g,j,i,t,e,c⟩:=x;exact⟨g,j,i,t,k _ _ (.inl rfl) e,c⟩
 | ins C dx fs =>
  obtain⟨d,z,G,e,A,⟨m,j,i,I,c⟩,r⟩:=x;exact⟨E _ d,z,G,k _ _ (.inl rfl) e,A,⟨m,j,i,k _ _ (.inr d) I,c⟩,r⟩
 | own y=>obtain⟨g,e⟩:=x;exact⟨g,k _ _ (.inl rfl) e⟩
 | xd fs=>obtain⟨A,⟨m,j,i,e,c⟩,r⟩:=x;exact⟨A,⟨m,j,i,k _ _ (.inl rfl) e,c⟩,r⟩
 | rng lo hi=>obtain⟨t,u,v,e⟩:=x;exact⟨t,u,v,k _ _ (.inl rfl) e⟩
 | frz g u ih=>obtain⟨e,q⟩:=x;exact⟨k _ _ (.inl rfl) e,ih q⟩
 | tbl ps =>
  have e:h.get? a=some { cls:=.none,data:=.fields ps }:=x;show h'.get? a=some { cls:=.none,data:=.fields ps };exact k a _ (.inl rfl) e
 | met f y =>
  have e:h.get? a=some (methodObj (.ref f) (.ref y)):=x;show h'.get? a=some (methodObj (.ref f) (.ref y));exact k a _ (.inl rfl) e
 | ext φ=>obtain⟨p,⟨o,e⟩,B⟩:=x;exact⟨B _ _ p λo q=>k _ _ (.inl rfl) q,⟨o,k _ _ (.inl rfl) e⟩,B⟩
theorem HOk.lt(x:HOk P w H h)(e:H a=some o):a<h.objs.size:=(x a o e).lt
theorem HOk.fresh(x:HOk P w H h)(e:h.objs.size<=a):H a=none:=by
 cases q:H a with
 | none=>rfl
 | some u=>exact absurd (Nat.lt_of_lt_of_le (x.lt q) e) (Nat.lt_irrefl _)
theorem HOk.kept(x:HOk P w H h)(k:∀ b u,h.get? b=some u->h'.get? b=some u):HOk P w H h':=λa o e =>
 (x a o e).stay (λb u _ q=>k b u q) (λ_ q=>q) λ_ _ q=>q
theorem HOk.laid(x:HOk P w H h)(k:∀ b u,h.get? b=some u->h'.get? b=some u)(g:h.objs.size<=a)(d:ObjOk P w (upd H a o) h' a o):HOk P w (upd H a o) h':=λb u e=>by
 have f:=x.fresh g
 by_cases hb:b=a
 .subst hb;rw[ad]at e;cases e;exact d
 .rw[ai hb]at e
  exact(x b u e).stay (λc v _ q=>k c v q) (λc q=>by rw[ai (ap q f)];exact q) λc xs q=>by rw[ai (ap q f)];exact q
end
def Rd(H:Hp)(a:Addr)(u:HO):Prop:=H a=some u\/∃ o,H a=some (.frz o u)
theorem Rd.ok{P:Program}{w:World}{H:Hp}{h:Heap}{a:Addr}{u:HO}(r:Rd H a u)(x:HOk P w H h):ObjOk P w H h a u:=by
 rcases r with r | ⟨o,r⟩
 .exact x a u r
 .obtain⟨_,q⟩:=x a _ r
  exact q
def Mut:Option HO->Prop
 | some (.lst _)=>True
 | some (.dK _)=>True
 | some (.dT _)=>True
 | some (.set _ _)=>True
 | some (.ins _ _ _)=>True
 | some (.ext _)=>True
 | _=>False
section
variable {P:Program}{w:World}{H:Hp}{h h':Heap}{x e:Addr}{o':HO}
theorem HOk.write(n:HOk P w H h)(g:Mut (H x))(m:e=x\/H e=some (.own x))(k:∀ b u,b≠e->h.get? b=some u->h'.get? b=some u)(i:∃ u,h'.get? e=some u)
  (j:ObjOk P w (upd H x o') h' x o'):HOk P w (upd H x o') h':=λb u q=>by
 have a:∀ c y,H c=some (.own y)->c≠x:=λc y r z=>by subst z;rw[r]at g;exact g
 have d:∀ c f,H c=some (.tup f)->c≠x:=λc f r z=>by subst z;rw[r]at g;exact g
 by_cases hb:b=x
 .subst hb;rw[ad]at q;cases q;exact j
 .rw[ai hb]at q
  by_cases hbe:b=e
  .have l:H b=some (.own x):=by
    rcases m with z | z
    .exact absurd (hbe.trans z) hb
    .rw[hbe];exact z
   rw[q]at l;cases l;obtain⟨v,o⟩:=i;exact⟨v,by rw[hbe];exact o⟩
  .refine(n b u q).stay (λc v hc r=>k c v ?_ r) (λc r=>by rw[ai (a c b r)];exact r) λc f r=>by rw[ai (d c f r)];exact r
   rcases hc with rfl | hc
   .exact hbe
   .rintro rfl
    rcases m with z | z
    .exact a c b hc z
    .rw[hc]at z;cases z;exact hb rfl
end
structure Un(fs ex:List Addr)(H H':Hp)(h h':Heap):Prop where
 keep:∀ b o,h.get? b=some o->H b=none->b ∉ fs->b ∉ ex->h'.get? b=some o
 slot:∀ b o,h.get? b=some o->H b=none->b∈fs->b ∉ ex->∃ sl,h'.get? b=some { o with slots:=sl }
 free:∀ b o,h.get? b=some o->H b=none->b ∉ ex->H' b=none
 there:∀ b o,h.get? b=some o->b ∉ ex->∃ o',h'.get? b=some o'
 tups:∀ b xs,H b=some (.tup xs)->H' b=some (.tup xs)
 frzs:∀ b o u,H b=some (.frz o u)->H' b=some (.frz o u)
 tbls:∀ b ps,H b=some (.tbl ps)->∃ more,H' b=some (.tbl (ps++more))
section
variable {fs fs' ex ex':List Addr}{H H1 H2:Hp}{h h1 h2 h':Heap}{a x e:Addr}{o:HO}
theorem Un.any(u:Un fs ex H H1 h h1){b:Addr}{a:Obj}(q:h.get? b=some a)(n:H b=none)(c:b ∉ ex):∃ sl,h1.get? b=some { a with slots:=sl }:=by
 by_cases hb:b∈fs
 .exact u.slot b a q n hb c
 .exact⟨a.slots,u.keep b a q n hb c⟩
theorem Un.kept(k:∀ b u,h.get? b=some u->h'.get? b=some u):Un fs ex H H h h' :=
 ⟨λb a q _ _ _=>k b a q,λb a q _ _ _=>⟨a.slots,k b a q⟩,λ_ _ _ n _=>n,λb a q _=>⟨a,k b a q⟩,λ_ _ q=>q,λ_ _ _ q=>q,λ_ ps q=>⟨#[],by rw[q];simp⟩⟩
theorem Un.refl:Un fs ex H H h h:=Un.kept λ_ _ q=>q
theorem Un.laid(k:∀ b u,h.get? b=some u->h'.get? b=some u)(e:h.objs.size<=a)(c:H a=none):Un fs ex H (upd H a o) h h' where
 keep:=λb u q _ _ _=>k b u q
 slot:=λb u q _ _ _=>⟨u.slots,k b u q⟩
 free:=λb u q n _=>by rw[ai (Nat.ne_of_lt (Nat.lt_of_lt_of_le (Heap.lt_size q) e))];exact n
 there:=λb u q _=>⟨u,k b u q⟩
 tups:=λb d q=>by rw[ai (ap q c)];exact q
 frzs:=λb u d q=>by rw[ai (ap q c)];exact q
 tbls:=λb f q=>⟨#[],by rw[ai (ap q c),q];simp⟩
theorem Un.write(a:Mut (H x))(j:e=x\/H e=some (.own x))(k:∀ b u,b≠e->h.get? b=some u->h'.get? b=some u)(d:∃ u,h'.get? e=some u):Un fs ex H (upd H x o) h h':=by
 have g:∀ b,H b=none->b≠x:=λb n z=>by subst z;rw[n]at a;exact a
 have f:∀ b,H b=none->b≠e:=λb n z=>by
  subst z
  rcases j with r | r
  .exact g b n r
  .rw[n]at r;cases r
 have c:∀ b u,H b=some u->¬Mut (some u)->b≠x:=λb u q l z=>by subst z;rw[q]at a;exact l a
 refine⟨λb u q n _ _=>k b u (f b n) q,λb u q n _ _=>⟨u.slots,k b u (f b n) q⟩,λb u q n _=>by rw[ai (g b n)];exact n,λb u q _=>?_,
  λb i q=>by rw[ai (c b _ q λz=>z)];exact q,λb u i q=>by rw[ai (c b _ q λz=>z)];exact q,λb ps q=>⟨#[],by rw[ai (c b _ q λz=>z),q];simp⟩⟩
 by_cases hbe:b=e
 .subst hbe;exact d
 .exact⟨u,k b u hbe q⟩
end
def trk(h:Heap)(H:Hp):List Addr:=(List.range h.objs.size).filter λa=>(H a).isSome
def jz(h:Heap)(H:Hp):Heap:=PySem.W.hideAll h (trk h H)
theorem pV(h:Heap)(H:Hp):(jz h H).objs.size=h.objs.size:=PySem.W.hideAll_size _ _
theorem sw{h:Heap}{H:Hp}{b:Addr}{o:Obj}(e:h.get? b=some o)(n:H b=none):(jz h H).get? b=some o :=
 PySem.W.hideAll_get _ e λa=>by
  have q:(H b).isSome=true:=(mem_filter.mp a).2;rw[n]at q;simp at q
theorem uJ{h:Heap}{H:Hp}{b:Addr}{o:Obj}(e:(jz h H).get? b=some o):h.get? b=some o/\H b=none:=by
 have a:h.get? b=some o:=PySem.W.of_hideAll (trk h H) e;refine⟨a,?_⟩;cases q:H b with
 | none=>rfl
 | some x =>
  have c:b∈trk h H:=mem_filter.mpr ⟨mem_range.mpr (Heap.lt_size a),by simp[q]⟩;have z:(jz h H).get? b=none:=PySem.W.hideAll_none (trk h H) c;rw[z]at e;cases e
def tB(g h:Heap)(L:Addr):List (Addr×Obj):=(List.range h.objs.size).filterMap λa=>if a=L\/(g.get? a).isSome=true then none else (h.get? a).map λo=>(a,o)
def rest(g h:Heap)(L d:Addr):List (Addr×Obj):=(tB g h L).filter λp=>decide (p.1≠d)
structure Mod(K:Frag)(mg:Str->Option Value)(base:Heap):Prop where
 kin:K.In base
 glob:base.Ns mainGlobals mg
 blt:∃ mb,base.Ns builtinsNs mb/\∀ x:Str,x ≠ "__name__" -> mb x=bootBuiltins x
 nolimit:base.NoLimit
structure Cx where
 prog:Program
 w:World
 K:Frag
 mg:Str->Option Value
 base:Heap
 A:Around
 N:List Str
 s₀:Shared
 H₀:Hp
 env:Env
 outer:List Env
 stack:List Env
 ex:List Addr
 fn:Str->Bool
 calm:Bool
 pn:List (Addr×Obj)
 xe:Value->Shared->Prop
def frs(l:List Env):List Addr:=l.filterMap (·.frame)
abbrev Cx.fs(X:Cx):List Addr:=frs X.outer
def Vis(sc:Scope)(x:Str):Prop:=sc.names.lookup x = some .local\/sc.names.lookup x = some .cell\/sc.names.lookup x = some .free
def Loc(sc:Scope)(x:Str):Prop:=sc.names.lookup x = some .local\/sc.names.lookup x = some .cell
def yW(env:Env)(h:Heap)(m:Str->Option Value)(x:Str)(u:Value):Prop :=
 (env.kindOf x = some .local/\m x = some u)\/((env.kindOf x = some .cell\/env.kindOf x = some .free)/\∃ c,env.cells.lookup x = some c/\h.IsCell c (some u))
structure Cx.Ok(X:Cx):Prop where
 mod:Mod X.K X.mg X.base
 kind:X.env.scope.kind=.function
 glob:X.env.globals=mainGlobals
 blt:X.env.builtins=builtinsNs
 above:X.s₀.heap.objs.size<=X.env.locals
 inj:∀ x y c,X.env.cells.lookup x=some c->X.env.cells.lookup y=some c->x=y
 has:∀ x,(X.env.kindOf x=some .cell\/X.env.kindOf x=some .free)->∃ c,X.env.cells.lookup x=some c
 cab:∀ x c,X.fn x=true->X.env.cells.lookup x=some c->X.s₀.heap.objs.size<=c
 hd:X.calm=true->X.A.handled=none
 frames:X.A.frames=some X.stack
 stk:X.stack = X.outer\/(X.stack = X.env :: X.outer/\X.env.frame = some X.env.locals)
 exf:∀ b ∈ X.ex,b≠X.env.locals/\∀ x c,X.env.cells.lookup x = some c->c≠b
 bs:∀ b o,X.base.get? b=some o->X.s₀.heap.get? b=some o/\X.H₀ b=none
 bsz:X.base.objs.size<=X.s₀.heap.objs.size
 noex:∀ b o,X.base.get? b=some o->b ∉ X.ex
 exfs:∀ b∈X.ex,b ∉ X.fs
 funs:X.s₀.heap.FunFrames X.base X.outer
 frf:∀ b∈X.fs,X.H₀ b=none
structure Inv(X:Cx)(pins:List (Addr×Obj))(σ:List (Option V))(H:Hp)(s:Shared):Prop where
 ok:X.Ok
 os:s.os=X.s₀.os
 bare:AllBare s.gens
 base:Un X.fs X.ex X.H₀ H X.s₀.heap s.heap
 loc:∃ m,s.heap.Ns X.env.locals m/\∀(i:Nat) (x:Str) (v:V),X.N[i]? = some x->σ[i]? = some (some v)->Vis X.env.scope x->∃ u,RelV v u/\yW X.env s.heap m x u
 cell:∀ x c,X.env.cells.lookup x=some c->∃ v,s.heap.IsCell c v
 free:H X.env.locals = none
 freeC:∀ x c,X.env.cells.lookup x=some c->H c=none
 pin:∀ p ∈ X.pn ++ pins,s.heap.get? p.1 = some p.2/\H p.1 = none/\p.1≠X.env.locals/\p.1 ∉ X.fs/\∀ v,p.2.data≠.cell v
 hok:HOk X.prog X.w H s.heap
 len:σ.length=X.N.length
section
variable {X:Cx}{pins:List (Addr×Obj)}{σ:List (Option V)}{H H':Hp}{s:Shared}{h':Heap}
theorem Cx.Ok.nofr(a:X.Ok){b:Addr}{o:Obj}(e:X.base.get? b=some o):b ∉ X.fs:=λc=>by
 have:=(a.funs.mem c).1;rw[e]at this;cases this
theorem Inv.bs(I:Inv X pins σ H s):∀ b o,X.base.get? b=some o->s.heap.get? b=some o/\H b=none:=λb o e =>
 ⟨I.base.keep b o (I.ok.bs b o e).1 (I.ok.bs b o e).2 (I.ok.nofr e) (I.ok.noex b o e),I.base.free b o (I.ok.bs b o e).1 (I.ok.bs b o e).2 (I.ok.noex b o e)⟩
theorem Inv.bk(I:Inv X pins σ H s):∀ b o,X.base.get? b=some o->s.heap.get? b=some o:=λb o e=>(I.bs b o e).1
theorem Inv.mod(I:Inv X pins σ H s):Mod X.K X.mg X.base:=I.ok.mod
theorem Inv.kIn(I:Inv X pins σ H s):X.K.In s.heap:=I.ok.mod.kin.keeps I.bk
theorem Inv.lt(I:Inv X pins σ H s):X.env.locals < s.heap.objs.size:=let ⟨_,hn,_⟩:=I.loc;hn.lt
theorem Inv.sz(I:Inv X pins σ H s):X.s₀.heap.objs.size<=s.heap.objs.size:=Nat.le_trans I.ok.above (Nat.le_of_lt I.lt)
theorem Inv.nofs(I:Inv X pins σ H s){a:Addr}(h:s.heap.objs.size<=a):a ∉ X.fs:=λc=>by
 obtain⟨_,o,b,_⟩:=I.ok.funs.mem c;exact absurd (Nat.lt_of_lt_of_le (Heap.lt_size b) (Nat.le_trans I.sz h)) (Nat.lt_irrefl _)
theorem Inv.cne(I:Inv X pins σ H s):∀ x c,X.env.cells.lookup x = some c->c≠X.env.locals:=λx c e z=>by
 obtain⟨v,o,d,f⟩:=I.cell x c e;obtain⟨m,⟨h,i,g,b,a,_⟩,_⟩:=I.loc;rw[z,b]at d;cases d;rw[a]at f;cases f
theorem Inv.funs(I:Inv X pins σ H s):s.heap.FunFrames X.base X.outer:=by
 have d:∀(l:List Env),(∀ b∈frs l,b∈X.fs)->X.s₀.heap.FunFrames X.base l->s.heap.FunFrames X.base l:=by
  intro l
  induction l with
  | nil=>intro _ _;trivial
  | cons env r ih =>
   intro g m;obtain⟨n,⟨L,o,a,k,h,i⟩,j⟩:=m;have c:L∈X.fs:=g L (by unfold frs;rw[filterMap_cons,a];exact mem_cons_self);obtain⟨q,e⟩:=I.base.slot L o h (I.ok.frf L c) c λz=>I.ok.exfs L z c
   exact⟨n,⟨L,_,a,k,e,i⟩,ih (λb f=>g b (by unfold frs;rw[filterMap_cons,a];exact mem_cons_of_mem _ f)) j⟩
 exact d X.outer (λ_ f=>f) I.ok.funs
theorem Inv.stack(I:Inv X pins σ H s):s.heap.FunFrames X.base X.stack:=by
 rcases I.ok.stk with e | ⟨e,a⟩
 .rw[e];exact I.funs
 .rw[e]
  obtain⟨m,b,_⟩:=I.loc;refine .cons (by rw[I.ok.kind];decide) a b ?_ I.funs;exact Heap.get?_none_of_le (Nat.le_trans I.ok.bsz I.ok.above)
theorem Inv.stkSub(I:Inv X pins σ H s):∀ b ∈ frs X.stack,b ∈ X.env.locals :: X.fs:=λb a=>by
 rcases I.ok.stk with e | ⟨e,c⟩
 .rw[e]at a;exact mem_cons_of_mem _ a
 .rw[e]at a
  unfold frs at a;rw[filterMap_cons,c]at a;exact a
theorem Inv.stkFree(I:Inv X pins σ H s):∀ b∈frs X.stack,H b=none:=λb hb=>by
 rcases mem_cons.mp (I.stkSub b hb) with e | hb
 .rw[e];exact I.free
 .obtain⟨_,o,a,_⟩:=I.ok.funs.mem hb
  exact I.base.free b o a (I.ok.frf b hb) λz=>I.ok.exfs b z hb
theorem Inv.step{g':Array GenState}{t':Nat}{d':Drawn}{ch:List Addr}(I:Inv X pins σ H s)
  (h:∀ b ∈ ch,(b ∈ X.ex\/X.s₀.heap.objs.size<=b)/\b≠X.env.locals/\(∀ x c,X.env.cells.lookup x = some c->c≠b)/\∀ p ∈ X.pn ++ pins,p.1≠b)
  (j:∀ b o,b≠X.env.locals->b ∉ X.fs->b ∉ ch->s.heap.get? b = some o->H b = none->h'.get? b = some o)
  (B:∀ b o,b≠X.env.locals->b ∈ X.fs->b ∉ ch->s.heap.get? b = some o->H b = none->∃ sl,h'.get? b = some { o with slots:=sl }) (f:∀ b o,b ∉ ch->s.heap.get? b = some o->H b = none->H' b = none)
  (D:∀ b o,b ∉ ch->s.heap.get? b=some o->∃ o',h'.get? b=some o')
  (G:∀ b xs,H b=some (.tup xs)->H' b=some (.tup xs)) (L:∀ b o u,H b=some (.frz o u)->H' b=some (.frz o u)) (K:∀ b ps,H b=some (.tbl ps)->∃ more,H' b=some (.tbl (ps++more)))
  (R:∀ m,s.heap.Ns X.env.locals m->h'.Ns X.env.locals m) (O:HOk X.prog X.w H' h') (S:AllBare g') :
  Inv X pins σ H' { s with heap:=h',gens:=g',drawn:=d',toks:=t' }:=by
 have J:∀ b o,X.s₀.heap.get? b = some o->b≠X.env.locals:=λb o e=>Nat.ne_of_lt (Nat.lt_of_lt_of_le (Heap.lt_size e) I.ok.above)
 have y:∀ b o,X.s₀.heap.get? b=some o->b ∉ X.ex->b ∉ ch:=λb o e a C=>by
  rcases(h b C).1 with z | z
  .exact a z
  .exact absurd (Nat.lt_of_lt_of_le (Heap.lt_size e) z) (Nat.lt_irrefl _)
 have g:∀ x c,X.env.cells.lookup x=some c->∀ v,s.heap.IsCell c v->h'.IsCell c v:=λx c e v ⟨o,E,N⟩=>by
  have w:c ∉ ch:=λz=>(h c z).2.2.1 x c e rfl
  by_cases hc:c∈X.fs
  .obtain⟨sl,q⟩:=B c o (I.cne x c e) hc w E (I.freeC x c e)
   exact⟨_,q,N⟩
  .exact⟨o,j c o (I.cne x c e) hc w E (I.freeC x c e),N⟩
 refine⟨I.ok,I.os,S,⟨λb o e n C a=>?_,λb o e n C a=>?_,λb o e n a=>?_,λb o e a=>?_,λb xs e=>G b xs (I.base.tups b xs e),λb o xs e=>L b o xs (I.base.frzs b o xs e),λb ps e=>?_⟩,?_,λx c e=>?_,?_,λx c e=>?_,λp hp=>?_,O,I.len⟩
 .exact j b o (J b o e) C (y b o e a) (I.base.keep b o e n C a) (I.base.free b o e n a)
 .obtain⟨sl,A⟩:=I.base.slot b o e n C a
  obtain⟨M,F⟩:=B b _ (J b o e) C (y b o e a) A (I.base.free b o e n a);exact⟨M,F⟩
 .obtain⟨o',A⟩:=I.base.there b o e a
  exact f b o' (y b o e a) A (I.base.free b o e n a)
 .obtain⟨o',A⟩:=I.base.there b o e a
  exact D b o' (y b o e a) A
 .obtain⟨W,A⟩:=I.base.tbls b ps e
  obtain⟨U,F⟩:=K b _ A;exact⟨W++U,by rw[F,Array.append_assoc]⟩
 .obtain⟨m,Y,Z⟩:=I.loc
  refine⟨m,R m Y,λi x v A F T=>?_⟩;obtain⟨u,r,l⟩:=Z i x v A F T;refine⟨u,r,?_⟩
  rcases l with l | ⟨k,c,e,z⟩
  .exact .inl l
  .exact .inr ⟨k,c,e,g x c e _ z⟩
 .obtain⟨v,z⟩:=I.cell x c e
  exact⟨v,g x c e v z⟩
 .obtain⟨m,⟨o,_,_,E,_⟩,_⟩:=I.loc
  exact f _ o (λz=>(h _ z).2.1 rfl) E I.free
 .obtain⟨v,o,E,N⟩:=I.cell x c e
  exact f c o (λz=>(h c z).2.2.1 x c e rfl) E (I.freeC x c e)
 .obtain⟨e,n,P,Q,d⟩:=I.pin p hp
  have w:p.1 ∉ ch:=λz=>(h p.1 z).2.2.2 p hp rfl
  exact⟨j p.1 p.2 P Q w e n,f p.1 p.2 w e n,P,Q,d⟩
theorem Inv.un{t':Nat}(I:Inv X pins σ H s)(u:Un X.fs [] H H' s.heap h')(d:HOk X.prog X.w H' h'):Inv X pins σ H' { s with heap:=h',toks:=t' }:=by
 obtain⟨m,⟨o,q,j,g,r⟩,_⟩:=id I.loc;obtain⟨l,h⟩:=u.any g I.free (by simp)
 exact I.step (g':=s.gens) (d':=s.drawn) (ch:=[]) (λ_ z=>nomatch z) (λb o _ hb _ e n=>u.keep b o e n hb (by simp)) (λb o _ hb _ e n=>u.slot b o e n hb (by simp)) (λb o _ e n=>u.free b o e n (by simp)) (λb o _ e=>u.there b o e (by simp)) u.tups u.frzs u.tbls (λm' hm=>by
  obtain⟨k,c,f,a,i⟩:=hm;rw[g]at a;cases a
  exact⟨_,c,f,h,i⟩) d I.bare
theorem Inv.call{g':Array GenState}{t':Nat}{d':Drawn}{ch:List Addr}(I:Inv X pins σ H s)(u:Un (frs X.stack) ch H H' s.heap h')(i:HOk X.prog X.w H' h')(q:AllBare g')
  (f:∀ b ∈ ch,(b ∈ X.ex\/X.s₀.heap.objs.size<=b)/\b≠X.env.locals/\(∀ x c,X.env.cells.lookup x = some c->c≠b)/\∀ p ∈ X.pn ++ pins,p.1≠b) :
  Inv X pins σ H' { s with heap:=h',gens:=g',drawn:=d',toks:=t' }:=by
 obtain⟨m,⟨o,B,w,k,r⟩,_⟩:=id I.loc;obtain⟨A,h⟩:=u.any k I.free λz=>(f _ z).2.1 rfl
 exact I.step (ch:=ch) f (λb o h v a e n=>u.keep b o e n (λz=>(mem_cons.mp (I.stkSub b z)).elim h v) a) (λb o _ _ a e n=>u.any e n a) (λb o a e n=>u.free b o e n a) (λb o a e=>u.there b o e a) u.tups u.frzs u.tbls (λm' hm=>by
  obtain⟨y,g,j,d,l⟩:=hm;rw[k]at d;cases d
  exact⟨_,g,j,h,l⟩) i q
theorem Inv.turned{t':Nat}{a:Addr}(I:Inv X pins σ H s)(k:∀ b o,b≠a->s.heap.get? b = some o->h'.get? b = some o)(w:H a = none)(g:a≠X.env.locals)
  (j:a∈X.ex\/X.s₀.heap.objs.size<=a) (y:∀ x c,X.env.cells.lookup x=some c->c≠a) (l:∀ p∈X.pn++pins,p.1≠a):Inv X pins σ H { s with heap:=h',toks:=t' }:=by
 have f:∀ b u,H b=some u->b≠a:=λb u e z=>by rw[z,w]at e;cases e
 refine I.step (g':=s.gens) (d':=s.drawn) (ch:=[a]) (λb B=>?_) (λb o _ _ d e _=>k b o (λz=>d (by simp[z])) e) (λb o _ _ d e _=>⟨o.slots,k b o (λz=>d (by simp[z])) e⟩) (λ_ _ _ _ n=>n)
  (λb o d e=>⟨o,k b o (λz=>d (by simp[z])) e⟩) (λ_ _ e=>e) (λ_ _ _ e=>e) (λb ps e=>⟨#[],by rw[e];simp⟩) (λm hm=>?_) (λb u e=>?_) I.bare
 .have e:b=a:=by simpa using B
  subst e;exact⟨j,g,y,l⟩
 .obtain⟨o,A,h,i,r⟩:=hm
  exact⟨o,A,h,k _ o (Ne.symm g) i,r⟩
 .refine(I.hok b u e).stay (λc v d q=>k c v ?_ q) (λ_ q=>q) λ_ _ q=>q
  rcases d with z | z
  .rw[z];exact f b u e
  .exact f c _ z
theorem Inv.tok(I:Inv X pins σ H s)(t:Nat):Inv X pins σ H { s with toks:=t }:=I.un (h':=s.heap) (t':=t) Un.refl I.hok
theorem Inv.kept{t':Nat}(I:Inv X pins σ H s)(k:∀ b u,s.heap.get? b=some u->h'.get? b=some u):Inv X pins σ H { s with heap:=h',toks:=t' }:=I.un (Un.kept k) (I.hok.kept k)
theorem Inv.laid{a:Addr}{o:HO}{t':Nat}(I:Inv X pins σ H s)(k:∀ b u,s.heap.get? b=some u->h'.get? b=some u)(c:s.heap.objs.size<=a)(d:ObjOk X.prog X.w (upd H a o) h' a o) :
  Inv X pins σ (upd H a o) { s with heap:=h',toks:=t' }:=I.un (Un.laid k c (I.hok.fresh c)) (I.hok.laid k c d)
theorem Inv.write{x e:Addr}{o:HO}{t':Nat}(I:Inv X pins σ H s)(f:Mut (H x))(d:e=x\/H e=some (.own x))(k:∀ b u,b≠e->s.heap.get? b=some u->h'.get? b=some u)(a:∃ u,h'.get? e=some u)
  (c:ObjOk X.prog X.w (upd H x o) h' x o):Inv X pins σ (upd H x o) { s with heap:=h',toks:=t' }:=I.un (Un.write f d k a) (I.hok.write f d k a c)
theorem Inv.weak{a:List (Option V)}(I:Inv X pins σ H s)(b:a.length=σ.length)(w:∀(i:Nat) v,a[i]? = some (some v)->σ[i]? = some (some v)):Inv X pins a H s :=
 ⟨I.ok,I.os,I.bare,I.base,let ⟨m,hn,hl'⟩:=I.loc;⟨m,hn,λi x v d e c=>hl' i x v d (w i v e) c⟩,I.cell,I.free,I.freeC,I.pin,I.hok,b.trans I.len⟩
theorem Inv.pins_of{a:List (Addr×Obj)}(I:Inv X pins σ H s)(h:∀ p ∈ a,s.heap.get? p.1 = some p.2/\H p.1 = none/\p.1≠X.env.locals/\p.1 ∉ X.fs/\∀ v,p.2.data≠.cell v):Inv X a σ H s :=
 ⟨I.ok,I.os,I.bare,I.base,I.loc,I.cell,I.free,I.freeC,λp b=>(mem_append.mp b).elim (λz=>I.pin p (mem_append_left _ z)) (h p),I.hok,I.len⟩
theorem jj{N:List Str}(c:N.Nodup){i j:Nat}{x:Str}(a:N[i]? = some x)(b:N[j]? = some x):i=j:=by
 obtain⟨f,d⟩:=List.getElem?_eq_some_iff.mp a;obtain⟨g,e⟩:=List.getElem?_eq_some_iff.mp b;exact(List.getElem_inj c).mp (d.trans e.symm)
theorem jI{M:Model}{A:Around}{E:Value->Shared->Prop}{i:Nat}{x:Str}{v:V}{u:Value}{Q:Unit->Shared->Prop}(I:Inv X pins σ H s)(hN:X.N.Nodup)(N:X.N[i]? = some x)(w:Loc X.env.scope x)(r:RelV v u)
  (h:∀ s',Inv X pins (σ.set i (some v)) H s'->(∃ a,Heap.SameBut a s.heap s'.heap/\(a = X.env.locals\/X.env.cells.lookup x = some a))->Q () s') (hf:X.fn x = true\/X.env.scope.names.lookup x = some .local:=by first | exact .inl rfl | exact .inr rfl | assumption):wpAny M A (storeName X.env x u) Q E s:=by
 obtain⟨m,hn,hl⟩:=id I.loc;have O:(X.env.scope.kind == .class || (X.env.scope.kind == .module && X.env.locals != X.env.globals)) = false:=by rw[I.ok.kind];rfl
 have C:i<σ.length:=by rw[I.len];exact(List.getElem?_eq_some_iff.mp N).1
 have G:=I.cne
 have l:∀{a:Addr}{J:Heap},(∃ o,s.heap.get? a=some o/\H a=none)->Heap.SameBut a s.heap J->HOk X.prog X.w H J:=λ{a J} ha f b ob e=>by
  obtain⟨_,_,B⟩:=ha;refine(I.hok b ob e).stay (λc S hc q=>(f.2 c ?_).trans q) (λ_ q=>q) λ_ _ q=>q
  rintro rfl
  rcases hc with rfl | hc
  .rw[B]at e;cases e
  .rw[B]at hc;cases hc
 rcases w with hk | hk
 .refine wpAny_storeName_local hk hn (λJ Z f=>?_) O
  obtain⟨oL,_,_,ab,_⟩:=id hn;refine h _ ⟨I.ok,I.os,I.bare,⟨λb o e n F w=>?_,λb o e n F w=>?_,I.base.free,λb o e w=>?_,I.base.tups,I.base.frzs,I.base.tbls⟩,⟨_,Z,λj y v' g e2 e3=>?_⟩,λy c e=>?_,I.free,I.freeC,λp hp=>?_,l ⟨oL,ab,I.free⟩ f,by simpa using I.len⟩ ⟨_,f,.inl rfl⟩
  .exact(f.2 b (Nat.ne_of_lt (Nat.lt_of_lt_of_le (Heap.lt_size e) I.ok.above))).trans (I.base.keep b o e n F w)
  .obtain⟨sl,g⟩:=I.base.slot b o e n F w
   exact⟨sl,(f.2 b (Nat.ne_of_lt (Nat.lt_of_lt_of_le (Heap.lt_size e) I.ok.above))).trans g⟩
  .obtain⟨W,g⟩:=I.base.there b o e w
   exact⟨W,(f.2 b (Nat.ne_of_lt (Nat.lt_of_lt_of_le (Heap.lt_size e) I.ok.above))).trans g⟩
  .by_cases hj:j=i
   .subst hj
    rw[N]at g;cases g;rw[List.getElem?_set_self C]at e2;cases e2;exact⟨u,r,.inl ⟨hk,by simp⟩⟩
   .rw[List.getElem?_set_ne (Ne.symm hj)]at e2
    obtain⟨U,Y,q⟩:=hl j y v' g e2 e3;refine⟨U,Y,?_⟩
    rcases q with⟨k,e⟩ | ⟨k,c,e,z⟩
    .refine .inl ⟨k,?_⟩
     have:y≠x:=λe=>hj (jj hN g (e ▸ N))
     simp[this,e]
    .exact .inr ⟨k,c,e,z.sameBut f (G y c e)⟩
  .obtain⟨S,z⟩:=I.cell y c e
   exact⟨S,z.sameBut f (G y c e)⟩
  .obtain⟨e,n,R,nf,d⟩:=I.pin p hp
   exact⟨(f.2 p.1 R).trans e,n,R,nf,d⟩
 .have D:X.fn x=true:=by
   rcases hf with z | z
   .exact z
   .rw[z]at hk;cases hk
  obtain⟨c,hc⟩:=I.ok.has x (.inl hk);obtain⟨S,z⟩:=I.cell x c hc;refine wpAny_storeName_cell I.ok.kind hk hc z (λJ P f=>?_);obtain⟨oc,K,L⟩:=id z;refine h { s with heap:=J } ⟨I.ok,I.os,I.bare,⟨λb o e n F w=>?_,λb o e n F w=>?_,I.base.free,λb o e w=>?_,I.base.tups,I.base.frzs,I.base.tbls⟩,⟨m,hn.sameBut f (Ne.symm (G x c hc)),λj y v' g e2 e3=>?_⟩,λy T e=>?_,I.free,I.freeC,λp hp=>?_,l ⟨oc,K,I.freeC x c hc⟩ f,by simpa using I.len⟩ ⟨c,f,.inr hc⟩
  .exact(f.2 b (Nat.ne_of_lt (Nat.lt_of_lt_of_le (Heap.lt_size e) (I.ok.cab x c D hc)))).trans (I.base.keep b o e n F w)
  .obtain⟨sl,g⟩:=I.base.slot b o e n F w
   exact⟨sl,(f.2 b (Nat.ne_of_lt (Nat.lt_of_lt_of_le (Heap.lt_size e) (I.ok.cab x c D hc)))).trans g⟩
  .obtain⟨W,g⟩:=I.base.there b o e w
   exact⟨W,(f.2 b (Nat.ne_of_lt (Nat.lt_of_lt_of_le (Heap.lt_size e) (I.ok.cab x c D hc)))).trans g⟩
  .by_cases hj:j=i
   .subst hj
    rw[N]at g;cases g;rw[List.getElem?_set_self C]at e2;cases e2;exact⟨u,r,.inr ⟨.inl hk,c,hc,P⟩⟩
   .rw[List.getElem?_set_ne (Ne.symm hj)]at e2
    obtain⟨U,Y,q⟩:=hl j y v' g e2 e3;refine⟨U,Y,?_⟩
    rcases q with q | ⟨k,T,e,z'⟩
    .exact .inl q
    .refine .inr ⟨k,T,e,z'.sameBut f ?_⟩
     rintro rfl;exact hj (jj hN g (I.ok.inj _ _ _ e hc ▸ N))
  .by_cases hcc:T=c
   .subst hcc;exact⟨_,P⟩
   .obtain⟨w2,z2⟩:=I.cell y T e
    exact⟨w2,z2.sameBut f hcc⟩
  .obtain⟨e,n,R,nf,d⟩:=I.pin p hp
   refine⟨(f.2 p.1 ?_).trans e,n,R,nf,d⟩;intro q;rw[q,K]at e;have q':oc=p.2:=Option.some.inj e;exact d S (by rw[<- q'];exact L)
theorem fu{M:Model}{A:Around}{E:Value->Shared->Prop}{i:Nat}{x:Str}{v:V}{u:Value}{Q:Unit->Shared->Prop}(I:Inv X pins σ H s)(b:X.N.Nodup)(d:X.N[i]? = some x)(c:Loc X.env.scope x)(r:RelV v u)
  (h:∀ s',Inv X pins (σ.set i (some v)) H s'->Q () s') (a:X.fn x = true\/X.env.scope.names.lookup x = some .local:=by first | exact .inl rfl | exact .inr rfl | assumption):wpAny M A (storeName X.env x u) Q E s :=
 jI I b d c r (λs' e _=>h s' e) a
theorem Inv.call'{a:Shared}{ch:List Addr}(I:Inv X pins σ H s)(g:a.os=s.os)(u:Un (frs X.stack) ch H H' s.heap a.heap)(d:HOk X.prog X.w H' a.heap)(i:AllBare a.gens)
  (f:∀ b ∈ ch,(b ∈ X.ex\/X.s₀.heap.objs.size<=b)/\b≠X.env.locals/\(∀ x c,X.env.cells.lookup x = some c->c≠b)/\∀ p ∈ X.pn ++ pins,p.1≠b):Inv X pins σ H' a:=by
 obtain⟨j,g',d',t',h⟩:=a;have e:h=s.os:=g;subst e;exact I.call (g':=g') (t':=t') (d':=d') u d i f
end
abbrev XK:=Value->Option Addr->Hp->Prop
abbrev St:=List (Option V)
abbrev VK:=V->Hp->Prop
abbrev TE:=St->Hp->VK->Prop
abbrev TT:=St->Hp->(Bool->Hp->Prop)->Prop
abbrev TA:=St->Hp->(List V->Hp->Prop)->Prop
structure Ends where
 nx:St->Hp->Prop
 rt:VK
 bk:St->Hp->Prop:=λ_ _=>False
 ct:St->Hp->Prop:=λ_ _=>False
abbrev TS:=Ends->St->Hp->Prop
def EP(X:Cx)(pins:List (Addr×Obj))(σ:St)(Q:VK)(u:Value)(s':Shared):Prop:=∃ v H',Inv X pins σ H' s'/\RelV v u/\Q v H'
def TP(X:Cx)(pins:List (Addr×Obj))(σ:St)(Q:Bool->Hp->Prop)(b:Bool)(s':Shared):Prop:=∃ H',Inv X pins σ H' s'/\Q b H'
def AP(X:Cx)(pins:List (Addr×Obj))(σ:St)(Q:List V->Hp->Prop)(us:List Value)(s':Shared):Prop:=∃ vs H',Inv X pins σ H' s'/\Vals vs us/\Q vs H'
def SP(X:Cx)(pins:List (Addr×Obj))(D:Ends)(f:Flow)(s':Shared):Prop :=
 match f with
 | .next=>∃ σ' H',Inv X pins σ' H' s'/\D.nx σ' H'
 | .brk=>∃ σ' H',Inv X pins σ' H' s'/\D.bk σ' H'
 | .cont=>∃ σ' H',Inv X pins σ' H' s'/\D.ct σ' H'
 | .ret u=>∃ v σ' H',Inv X pins σ' H' s'/\RelV v u/\D.rt v H'
def PE(X:Cx)(e:Expr)(t:TE):Prop :=
 ∀(pins:List (Addr×Obj)) (s:Shared) (σ:St) (H:Hp) (Q:VK),Inv X pins σ H s->t σ H Q->wpAny (model X.prog X.w) X.A (eval e X.env) (EP X pins σ Q) X.xe s
def PT(X:Cx)(e:Expr)(t:TT):Prop :=
 ∀(pins:List (Addr×Obj)) (s:Shared) (σ:St) (H:Hp) (Q:Bool->Hp->Prop),Inv X pins σ H s->t σ H Q->wpAny (model X.prog X.w) X.A (isTrue e X.env (eval e X.env)) (TP X pins σ Q) X.xe s
def PW(X:Cx)(e:Expr)(t:TT):Prop :=
 ∀(whole:Sem Value) (pins:List (Addr×Obj)) (s:Shared) (σ:St) (H:Hp) (Q:Bool->Hp->Prop),Inv X pins σ H s->t σ H Q->wpAny (model X.prog X.w) X.A (isTrue e X.env whole) (TP X pins σ Q) X.xe s
theorem PW.pt{X:Cx}{e:Expr}{t:TT}(h:PW X e t):PT X e t:=h _
def PA(X:Cx)(es:List Expr)(t:TA):Prop :=
 ∀(pos:Pos) (pins:List (Addr×Obj)) (s:Shared) (σ:St) (H:Hp) (Q:List V->Hp->Prop),Inv X pins σ H s->t σ H Q->wpAny (model X.prog X.w) X.A (spliced (backTo pos (starEach es X.env))) (AP X pins σ Q) X.xe s
def PS(X:Cx)(st:Stmt)(t:TS):Prop :=
 ∀(pins:List (Addr×Obj)) (s:Shared) (σ:St) (H:Hp) (D:Ends),Inv X pins σ H s->t D σ H->wpAny (model X.prog X.w) X.A (exec st X.env) (SP X pins D) X.xe s
def PSs(X:Cx)(st:List Stmt)(t:TS):Prop :=
 ∀(pins:List (Addr×Obj)) (s:Shared) (σ:St) (H:Hp) (D:Ends),Inv X pins σ H s->t D σ H->wpAny (model X.prog X.w) X.A (execs st X.env) (SP X pins D) X.xe s
theorem thn{c:Type}{t:Sem c}{Q b:c->Shared->Prop}{M:Model}{A:Around}{E:Value->Shared->Prop}{s:Shared}(h:wpAny M A t Q E s)(d:∀ a s,Q a s->b a s):wpAny M A t b E s:=wpAny_mono h d λ_ _ x=>x
section
variable {X:Cx}
def yE(i:Nat):TE:=λσ H Q=>∃ v,σ[i]? = some (some v)/\Q v H
def tC(v:V):TE:=λ_ H Q=>Q v H
theorem vy{i:Nat}{x:Str}{j:Pos}(q:X.N[i]? = some x)(A:Vis X.env.scope x)(f:(x == ("__debug__" : Str))=false:=by decide)(g:(x == ("__classdict__" : Str))=false:=by decide):PE X (.Name x j) (yE i):=by
 intro d s n H Q I h;obtain⟨v,e,h⟩:=h;obtain⟨m,w,y⟩:=I.loc;obtain⟨u,r,l⟩:=y i x v q e A
 have b:EP X d n Q u s:=⟨v,H,I,r,h⟩
 rcases l with⟨hk,o⟩ | ⟨hk,c,k,a⟩
 .exact wpAny_Name (wpAny_loadName_local I.ok.kind hk w o b) f
 .rcases hk with hk | hk
  .exact wpAny_Name (wpAny_loadName_cell I.ok.kind hk k a b) f
  .exact wpAny_Name (wpAny_loadName_free I.ok.kind hk k a b g) f
theorem ao{i j pos}:PE X (.Constant (.int i) j pos) (tC (.int i)):=λ_ _ _ H _ I h=>wpAny_Constant_int ⟨.int i,H,I.tok _,⟨_,rfl⟩,h⟩
theorem eK{b j pos}:PE X (.Constant (.bool b) j pos) (tC (.bl b)):=λ_ _ _ H _ I h=>Constant_bool ⟨.bl b,H,I,rfl,h⟩
theorem vK{j pos}:PE X (.Constant .none j pos) (tC .non):=λ_ _ _ H _ I h=>Constant_none ⟨.non,H,I,rfl,h⟩
theorem nN{x j pos}:PE X (.Constant (.str x) j pos) (tC (.str x)):=λ_ _ _ H _ I h=>Calls.Constant_str ⟨.str x,H,I.tok _,⟨_,rfl⟩,h⟩
def Gl(X:Cx)(x:Str):Prop:=X.env.kindOf x=some .globalImplicit
theorem iI{E:Value->Shared->Prop}{a:List (Addr×Obj)}{s:Shared}{d:St}{H:Hp}{x:Str}{u:Value}{b:Pos}{Q:Value->Shared->Prop}(I:Inv X a d H s)(f:Gl X x)(e:X.mg x=some u)(h:Q u s)
  (c:(x == ("__debug__" : Str))=false:=by decide):wpAny (model X.prog X.w) X.A (eval (.Name x b) X.env) Q E s :=
 Calls.Name_function_global I.ok.kind f (Calls.loadGlobal_global (by rw[I.ok.glob];exact I.mod.glob.keeps I.bk) e h) c
theorem fA{E:Value->Shared->Prop}{a:List (Addr×Obj)}{s:Shared}{e:St}{H:Hp}{x:Str}{u:Value}{b:Pos}{Q:Value->Shared->Prop}(I:Inv X a e H s)(k:Gl X x)(f:X.mg x=none)(i:bootBuiltins x=some u)(h:Q u s)
  (g:x ≠ "__name__" := by decide) (c:(x == ("__debug__" : Str))=false:=by decide):wpAny (model X.prog X.w) X.A (eval (.Name x b) X.env) Q E s:=by
 obtain⟨l,d,j⟩:=I.mod.blt;exact Calls.Name_function_global I.ok.kind k (Calls.loadGlobal_builtin (by rw[I.ok.glob];exact I.mod.glob.keeps I.bk) f (by rw[I.ok.blt];exact d.keeps I.bk) ((j x g).trans i) h) c
theorem uQ{x:Str}{v:V}{u:Value}{a:Pos}(c:Gl X x)(d:X.mg x=some u)(r:RelV v u)(b:(x == ("__debug__" : Str))=false:=by decide):PE X (.Name x a) (tC v) :=
 λ_ _ _ H _ I h=>iI I c d ⟨v,H,I,r,h⟩ b
theorem dX{x:Str}{v:V}{u:Value}{a:Pos}(f:Gl X x)(c:X.mg x=none)(e:bootBuiltins x=some u)(r:RelV v u)(d:x ≠ "__name__" := by decide)(b:(x == ("__debug__" : Str))=false:=by decide):PE X (.Name x a) (tC v) :=
 λ_ _ _ H _ I h=>fA I f c e ⟨v,H,I,r,h⟩ d b
variable {a b:Expr}{ta tb:TE}{pos:Pos}
variable {tA tB':TT}{rest:List Expr}
def yR(t u:TT):TT:=λσ H Q=>t σ H λc H1=>if c=true then u σ H1 Q else Q false H1
def tOr(t u:TT):TT:=λσ H Q=>t σ H λc H1=>if c=true then Q true H1 else u σ H1 Q
def y8(t:TT):TT:=λσ H Q=>t σ H λc H1=>Q (!c) H1
theorem uV(f:PT X a tA):PW X (.BoolOp .And [a] pos) tA:=by
 intro g b s d H Q I h;refine isTrue_and (thn (f b s d H Q I h) λc i e=>?_);cases c with
 | true=>exact isTrue_and_nil e
 | false=>exact e
theorem gR(f:PT X a tA):PW X (.BoolOp .Or [a] pos) tA:=by
 intro g b s d H Q I h;refine isTrue_or (thn (f b s d H Q I h) λc i e=>?_);cases c with
 | false=>exact isTrue_or_nil e
 | true=>exact e
theorem v4(l:PT X a tA)(m:PW X (.BoolOp .And (b::rest) pos) tB'):PW X (.BoolOp .And (a::b::rest) pos) (yR tA tB'):=by
 intro j d s f H Q I h;refine isTrue_and (thn (l d s f H _ I h) λc k ⟨e,i,g⟩=>?_);cases c with
 | true=>exact m j d k f e Q i g
 | false=>exact⟨e,i,g⟩
theorem g7(l:PT X a tA)(m:PW X (.BoolOp .Or (b::rest) pos) tB'):PW X (.BoolOp .Or (a::b::rest) pos) (tOr tA tB'):=by
 intro j d s f H Q I h;refine isTrue_or (thn (l d s f H _ I h) λc k ⟨e,i,g⟩=>?_);cases c with
 | true=>exact⟨e,i,g⟩
 | false=>exact m j d k f e Q i g
theorem dS(e:PT X a tA):PT X (.UnaryOp .Not a pos) (y8 tA):=by
 intro b s f H Q I h;exact isTrue_not (e b s f H (λc d=>Q (!c) d) I h)
theorem ni{op}{t:TE}(h:PE X a t):PE X (.BoolOp op [a] pos) t:=λb s c H Q I d=>BoolOp_one (h b s c H Q I d)
def tIf(t:TT)(ta tb:TE):TE:=λσ H Q=>t σ H λc H1=>if c=true then ta σ H1 Q else tb σ H1 Q
theorem jm{c:Expr}(l:PT X c tA)(m:PE X a ta)(n:PE X b tb):PE X (.IfExp c a b pos) (tIf tA ta tb):=by
 intro e s f H Q I h;refine wpAny_IfExp (thn (l e s f H _ I h) λd i ⟨g,k,j⟩=>?_);cases d with
 | true=>exact m e i f g Q k j
 | false=>exact n e i f g Q k j
end
def SqL(K:Frag)(H:Hp)(a:Addr)(xs:List V):Prop :=
 Rd H a (.lst xs) \/
  ∃(o:Obj) (its:Array Value) (n:Nat),K.lookup a=some o/\o.cls=.type "list" /\ o.dict=none/\o.data=.seq its n/\its.size<=sizeLine/\Vals xs its.toList
def SqT(K:Frag)(H:Hp)(a:Addr)(xs:List V):Prop :=
 Rd H a (.tup xs) \/
  ∃(o:Obj) (its:Array Value) (n:Nat),K.lookup a=some o/\o.cls=.type "tuple" /\ o.data=.seq its n/\its.size<=sizeLine/\Vals xs its.toList
def yP:Value->Option V
 | .none=>some .non
 | .bool b=>some (.bl b)
 | .int i _=>some (.int i)
 | .str x _=>some (.str x)
 | .bytes b _=>some (.byt b)
 | .float b _=>some (.flt b)
 | .ref a=>some (.ref a)
 | .type n=>some (.ty n)
 | _=>none
theorem RelV.abs{x:V}{u:Value}(r:RelV x u):yP u=some x:=by
 cases x with
 | non=>cases r;rfl
 | bl _=>cases r;rfl
 | int _=>obtain⟨t,rfl⟩:=r;rfl
 | str _=>obtain⟨t,rfl⟩:=r;rfl
 | byt _=>obtain⟨t,rfl⟩:=r;rfl
 | flt _=>obtain⟨t,rfl⟩:=r;rfl
 | ref _=>cases r;rfl
 | ty _=>cases r;rfl
theorem RelV.inj{x y:V}{u:Value}(r:RelV x u)(q:RelV y u):x=y:=Option.some.inj (r.abs.symm.trans q.abs)
theorem Vals.inj:∀{xs ys:List V}{us:List Value},Vals xs us->Vals ys us->xs=ys
 | _,_,_,.nil,.nil=>rfl
 | _,_,_,.cons r t,.cons r' t'=>by rw[r.inj r',Vals.inj t t']
section
variable {X:Cx}{pins:List (Addr×Obj)}{σ:St}{H:Hp}{s:Shared}{a:Addr}{xs ys:List V}
theorem SqL.of{K:Frag}(h:H a=some (.lst xs)):SqL K H a xs:=.inl (.inl h)
theorem SqT.of{K:Frag}(h:H a=some (.tup xs)):SqT K H a xs:=.inl (.inl h)
theorem Inv.list(I:Inv X pins σ H s)(h:SqL X.K H a xs):∃ its:List Value,Vals xs its/\PlainL s.heap a its.toArray/\xs.length<=sizeLine:=by
 rcases h with h | ⟨o,its,n,d,c,b,f,g,r⟩
 .obtain⟨z,its,n,r,e⟩:=h.ok I.hok
  exact⟨its,r,⟨_,n,e,rfl,rfl,rfl⟩,z⟩
 .refine⟨its.toList,r,⟨o,n,I.kIn a o d,c,b,by simpa using f⟩,?_⟩
  have e:=r.length;simp only[Array.length_toList]at e;lia
theorem Inv.tuple(I:Inv X pins σ H s)(h:SqT X.K H a xs):∃ its:List Value,Vals xs its/\IsTup s.heap a its.toArray/\xs.length<=sizeLine:=by
 rcases h with h | ⟨o,its,n,d,b,c,f,r⟩
 .obtain⟨z,its,r,p⟩:=h.ok I.hok
  exact⟨its,r,p,z⟩
 .refine⟨its.toList,r,⟨o,I.kIn a o d,b,n,by simpa using c⟩,?_⟩
  have e:=r.length;simp only[Array.length_toList]at e;lia
theorem Inv.list_inj(I:Inv X pins σ H s)(h:SqL X.K H a xs)(h':SqL X.K H a ys):xs=ys:=by
 obtain⟨c,r,⟨o,n,e,_,_,d⟩,_⟩:=I.list h;obtain⟨b,i,⟨j,k,f,_,_,g⟩,_⟩:=I.list h';rw[e]at f;cases f;rw[d]at g;injection g with d1 _
 have:c=b:=by simpa using congrArg Array.toList d1
 subst this;exact r.inj i
theorem Inv.tuple_inj(I:Inv X pins σ H s)(h:SqT X.K H a xs)(h':SqT X.K H a ys):xs=ys:=by
 obtain⟨c,r,⟨o,e,_,n,d⟩,_⟩:=I.tuple h;obtain⟨b,i,⟨j,f,_,k,g⟩,_⟩:=I.tuple h';rw[e]at f;cases f;rw[d]at g;injection g with d1 _
 have:c=b:=by simpa using congrArg Array.toList d1
 subst this;exact r.inj i
end
abbrev Cx.wish(X:Cx)(E:Value->Shared->Prop):Cx:={ X with xe:=E }
abbrev Cx.nox(X:Cx):Cx:=X.wish λ_ _=>False
theorem Cx.Ok.wish{X:Cx}(a:X.Ok)(E:Value->Shared->Prop):(X.wish E).Ok :=
 ⟨a.mod,a.kind,a.glob,a.blt,a.above,a.inj,a.has,a.cab,a.hd,a.frames,a.stk,a.exf,a.bs,a.bsz,a.noex,a.exfs,a.funs,a.frf⟩
theorem Cx.Ok.unwish{X:Cx}{E:Value->Shared->Prop}(a:(X.wish E).Ok):X.Ok :=
 ⟨a.mod,a.kind,a.glob,a.blt,a.above,a.inj,a.has,a.cab,a.hd,a.frames,a.stk,a.exf,a.bs,a.bsz,a.noex,a.exfs,a.funs,a.frf⟩
section
variable {X:Cx}{pins:List (Addr×Obj)}{σ:St}{H:Hp}{s:Shared}{E:Value->Shared->Prop}
theorem Inv.wish(I:Inv X pins σ H s)(E:Value->Shared->Prop):Inv (X.wish E) pins σ H s:=⟨I.ok.wish E,I.os,I.bare,I.base,I.loc,I.cell,I.free,I.freeC,I.pin,I.hok,I.len⟩
theorem Inv.unwish(I:Inv (X.wish E) pins σ H s):Inv X pins σ H s:=⟨I.ok.unwish,I.os,I.bare,I.base,I.loc,I.cell,I.free,I.freeC,I.pin,I.hok,I.len⟩
theorem SP.unwish{D:Ends}{f:Flow}{c:Shared}(h:SP (X.wish E) pins D f c):SP X pins D f c:=by
 cases f with
 | next=>obtain⟨a,b,I,q⟩:=h;exact⟨a,b,I.unwish,q⟩
 | brk=>obtain⟨a,b,I,q⟩:=h;exact⟨a,b,I.unwish,q⟩
 | cont=>obtain⟨a,b,I,q⟩:=h;exact⟨a,b,I.unwish,q⟩
 | ret u=>obtain⟨v,a,b,I,r,q⟩:=h;exact⟨v,a,b,I.unwish,r,q⟩
theorem PSs.nox{st:List Stmt}{t:TS}(h:PSs X.nox st t):PSs X st t:=λa s b H D I c =>
 wpAny_mono (h a s b H D (I.wish _) c) (λ_ _ q=>q.unwish) λ_ _ z=>False.elim z
end
section
variable {X:Cx}{st:Stmt}{rest:List Stmt}{t u:TS}{e:Expr}{te:TE}{pos:Pos}
def yr:TS:=λD σ H=>D.nx σ H
def bE(t u:TS):TS:=λD σ H=>t { D with nx:=u D } σ H
theorem aZ:PSs X [] yr:=λ_ _ a H _ I h=>wpAny_execs_nil ⟨a,H,I,h⟩
theorem ak(c:PS X st t)(j:PSs X rest u):PSs X (st::rest) (bE t u):=by
 intro a s e H D I h;refine wpAny_execs_cons (thn (c a s e H { D with nx:=u D } I h) λf d q=>?_);cases f with
 | next =>
  obtain⟨b,g,i,q⟩:=q;exact j a d b g D i q
 | ret v=>exact q
 | brk=>exact q
 | cont=>exact q
theorem aj(b:PS X st t):PSs X [st] t:=by
 intro a s c H D I h;refine wpAny_execs_cons (thn (b a s c H D I h) λf d q=>?_);cases f with
 | next=>exact wpAny_execs_nil q
 | ret v=>exact q
 | brk=>exact q
 | cont=>exact q
def vZ:TS:=λD σ H=>D.bk σ H
theorem rj:PS X (.Break pos) vZ:=λ_ _ a H _ I h=>wpAny_Break ⟨a,H,I,h⟩
theorem Inv.quiet{a:List (Addr×Obj)}{b:St}{H:Hp}{s:Shared}(I:Inv X a b H s):interactive X.env=false:=by simp[interactive,I.ok.kind]
def yq(te:TE):TS:=λD σ H=>te σ H λ_ H1=>D.nx σ H1
theorem dJ(d:PE X e te)(i:swapsWith e none pos.line X.env=pure false:=by rfl):PS X (.Expr e pos) (yq te):=by
 intro a s b H D I h;exact wpAny_Expr_any (thn (d a s b H _ I h) λv j ⟨x,c,g,k,f⟩=>⟨b,c,g,f⟩) I.quiet i
def y7(te:TE):TS:=λD σ H=>te σ H D.rt
theorem aw(d:PE X e te):PS X (.Return (some e) pos) (y7 te):=by
 intro a s b H D I h;exact wpAny_Return_some (thn (d a s b H _ I h) λv j ⟨x,c,g,i,f⟩=>⟨x,b,c,g,i,f⟩)
def yS(c:TT)(t u:TS):TS:=λD σ H=>c σ H λb H1=>if b=true then t D σ H1 else u D σ H1
theorem cD{c:Expr}{a b:List Stmt}{i:TT}(m:PT X c i)(n:PSs X a t)(o:PSs X b u):PS X (.If c a b pos) (yS i t u):=by
 intro e s f H D I h;refine wpAny_If (thn (m e s f H _ I h) λd j ⟨g,l,k⟩=>?_);cases d with
 | true=>exact n e j f g D l k
 | false=>exact o e j f g D l k
def wz:TS:=λ_ _ _=>False
theorem rn:PS X st wz:=λ_ _ _ _ _ _ h=>h.elim
end
abbrev TG:=V->St->Hp->(St->Hp->Prop)->Prop
abbrev TGs:=List V->St->Hp->(St->Hp->Prop)->Prop
def PG(X:Cx)(target:Expr)(t:TG):Prop :=
 ∀(pins:List (Addr×Obj)) (s:Shared) (σ:St) (H:Hp) (v:V) (u:Value) (Q:St->Hp->Prop),Inv X pins σ H s->RelV v u->t v σ H Q ->
  wpAny (model X.prog X.w) X.A (assign target X.env u) (λ_ s'=>∃ σ' H',Inv X pins σ' H' s'/\Q σ' H') X.xe s
def PGs(X:Cx)(ts:List Expr)(t:TGs):Prop :=
 ∀(pins:List (Addr×Obj)) (s:Shared) (σ:St) (H:Hp) (vs:List V) (us:List Value) (Q:St->Hp->Prop),Inv X pins σ H s->Vals vs us->t vs σ H Q ->
  wpAny (model X.prog X.w) X.A (assignInOrder ((assignEach ts X.env).map (·.2)) us) (λ_ s'=>∃ σ' H',Inv X pins σ' H' s'/\Q σ' H') X.xe s
abbrev TIp:=V->V->Hp->VK->Prop
def PIp(X:Cx)(op:Operator)(t:TIp):Prop :=
 ∀(pins:List (Addr×Obj)) (s:Shared) (σ:St) (H:Hp) (x y:V) (v u:Value) (Q:VK),Inv X pins σ H s->RelV x v->RelV y u->t x y H Q ->
  wpAny (model X.prog X.w) X.A (inplaceOp op v u) (EP X pins σ Q) X.xe s
section
variable {X:Cx}{pos:Pos}
def qX(i:Nat):TG:=λv σ H Q=>Q (σ.set i (some v)) H
theorem av{i:Nat}{x:Str}(c:X.N.Nodup)(e:X.N[i]? = some x)(d:Loc X.env.scope x)(b:X.fn x = true\/X.env.scope.names.lookup x = some .local:=by first | exact .inl rfl | exact .inr rfl | assumption):PG X (.Name x pos) (qX i):=by
 intro a s g H v u Q I r h;exact wpAny_assign_Name (fu I c e d r (λj f=>⟨_,H,f,h⟩) b)
def yA:TGs:=λvs σ H Q=>vs=[]/\Q σ H
inductive gCons(t:TG)(u:TGs)(vs:List V)(σ:St)(H:Hp)(Q:St->Hp->Prop):Prop
 | mk(v:V)(r:List V)(h0:vs=v::r)(h1:t v σ H λσ' H'=>u r σ' H' Q):gCons t u vs σ H Q
theorem cm:PGs X [] yA:=by
 intro a s b H c d Q I r h;obtain⟨e,h⟩:=h;subst e;cases r;exact assignInOrder_nil ⟨b,H,I,h⟩
theorem az{e:Expr}{es:List Expr}{t:TG}{u:TGs}(f:PG X e t)(l:PGs X es u)
  (m:(assignEach (e::es) X.env).map (·.2)=assign e X.env::(assignEach es X.env).map (·.2):=by rfl):PGs X (e::es) (gCons t u):=by
 intro a s g H n o Q I r h;obtain⟨v,q,d,h⟩:=h;subst d;cases r with
 | cons r rr =>
  rw[m];refine assignInOrder_cons (thn (f a s g H _ _ _ I r h) λ_ i ⟨b,c,k,j⟩=>?_);exact l a i b c _ _ Q k rr j
inductive gTup(K:Frag)(n:Nat)(t:TGs)(v:V)(σ:St)(H:Hp)(Q:St->Hp->Prop):Prop
 | mk(a:Addr)(xs:List V)(h0:v=.ref a)(h1:SqT K H a xs)(h2:xs.length=n)(h3:t xs σ H Q):gTup K n t v σ H Q
theorem fk{es:List Expr}{k:Nat}{t:TGs}{n:Nat}(m:X.calm=true)(h:PGs X es t)
  (A:(assignEach es X.env).length=n:=by rfl) (d:(assignEach es X.env).findIdx? (·.1)=none:=by rfl):PG X (.Tuple es k pos) (gTup X.K n t):=by
 intro c s g H v u Q I r f;obtain⟨a,q,D,l,B,f⟩:=f;subst D;cases r;obtain⟨w,i,x,E⟩:=I.tuple l;refine assign_Tuple_tuple (I.ok.hd m) x (by simp[A,<- B,i.length]) d λj y=>?_
 have C:Inv X c g H { s with heap:=j }:=I.kept (t':=s.toks) λb o e=>y b o (Nat.ne_of_lt (Heap.lt_size e)) e
 exact h c _ g H q _ Q C (by simpa using i) f
def vz(te:TE)(g:TG):TS:=λD σ H=>te σ H λx H1=>g x σ H1 D.nx
theorem vT{tg e:Expr}{c:TE}{g:TG}(j:PE X e c)(o:PG X tg g)(r:swapsWithSole [tg] e pos.line X.env=pure false:=by rfl)(n:swappedStores [tg] e X.env=pure none:=by rfl)
  (f:(assignEach [tg] X.env).map (·.2)=[assign tg X.env]:=by rfl):PS X (.Assign [tg] e pos) (vz c g):=by
 intro a s b H D I h;refine wpAny_Assign_stores (thn (j a s b H _ I h) λv i ⟨x,d,l,m,k⟩=>?_) r n;rw[f];exact thn (o a i b d x v _ l m k) λ_ u q=>q
theorem aA{i:Nat}{x:Str}{e:Expr}{c:TE}{a:Pos}(l:X.N.Nodup)(o:X.N[i]? = some x)(m:Loc X.env.scope x)(k:PE X e c)(u:swapsWith e (some (.Name x a)) pos.line X.env = pure false:=by rfl)(f:X.fn x = true\/X.env.scope.names.lookup x = some .local:=by first | exact .inl rfl | exact .inr rfl | assumption) :
  PS X (.Assign [.Name x a] e pos) (vz c (qX i)):=by
 intro b s j H D I h;refine wpAny_Assign_Name (thn (k b s j H _ I h) λv w ⟨y,d,q,r,n⟩=>?_) u;exact fu q l o m r (λA g=>⟨_,d,g,n⟩) f
def yB(i j:Nat)(ta:TA):TS:=λD σ H=>ta σ H λvs H1=>∃ v w,vs=[v,w]/\D.nx ((σ.set i (some v)).set j (some w)) H1
theorem qL{i j:Nat}{x y:Str}{a b:Expr}{E:TA}{f l pt:Pos}{kt k2 pt2}(Q:X.calm=true)(n:X.N.Nodup)(P:X.N[i]? = some x)(R:X.N[j]? = some y)(g:i≠j)
  (C:X.env.scope.names.lookup x = some .local) (B:X.env.scope.names.lookup y = some .local) (S:PA X [a,b] E)
  (L:swappedStores [.Tuple [.Name x f,.Name y l] kt pt] (.Tuple [a,b] k2 pt2) X.env=pure (some [x,y]))
  (T:swapsWithSole [.Tuple [.Name x f,.Name y l] kt pt] (.Tuple [a,b] k2 pt2) pos.line X.env=pure false:=by rfl) :
  PS X (.Assign [.Tuple [.Name x f,.Name y l] kt pt] (.Tuple [a,b] k2 pt2) pos) (yB i j E):=by
 intro c s r H D I h;rw[exec_Assign_arm];refine wpAny_bind (wpAny_standAt ?_);rw[T];refine wpAny_bind (wpAny_pure ?_);rw[if_neg (by decide)];refine wpAny_bind (Tuple_ (thn (S _ c s r H _ I h) λN d ⟨U,u,G,J,k⟩=>?_));obtain⟨v,w,O,k⟩:=k;subst O
 obtain⟨u1,u2,rfl,rv,rw'⟩:∃ u1 u2,N=[u1,u2]/\RelV v u1/\RelV w u2:=by
  cases J with
  | cons p q =>
   cases q with
   | cons p' q' =>
    cases q';exact⟨_,_,rfl,p,p'⟩
 refine wpAny_newObj_type ?_ (by show 2<=sizeLine;decide);have M:Inv X c r u { d with heap:=d.heap.push { cls:=.type "tuple",data:=.seq [u1,u2].toArray } }:=G.kept (t':=d.toks) λb o e=>Heap.get?_push_of_some _ e
 rw[L];refine wpAny_bind (wpAny_pure ?_);show wpAny (model X.prog X.w) X.A (do rule "assign.swapped-stores";let items <- unpackItems (.ref d.heap.objs.size) 2 none;assignInOrder [λv=>bindName X.env y v,λv=>bindName X.env x v] items.reverse;pure Flow.next) _ _ _;refine wpAny_bind (wpAny_rule (wpAny_bind (unpackItems_tuple (items:=#[u1,u2]) (I.ok.hd Q) (IsTup.new d.heap _) λh' m=>?_)));have K:=M.kept (h':=h') (t':=d.toks) λb o e=>m b o (Nat.ne_of_lt (Heap.lt_size e)) e
 show wpAny _ _ (assignInOrder [λv=>bindName X.env y v,λv=>bindName X.env x v] [u2,u1] >>= λ_=>pure Flow.next) _ _ _;refine wpAny_bind (assignInOrder_cons (wpAny_bindName (fu K n R (.inl B) rw' (λY F=>?_) (.inr B))));refine assignInOrder_cons (wpAny_bindName (fu F n P (.inl C) rv (λW A=>assignInOrder_nil (wpAny_pure ?_)) (.inr C)));rw[List.set_comm _ _ (Ne.symm g)]at A;exact⟨_,u,A,k⟩
def yF(i:Nat)(te:TE)(ti:TIp):TS:=λD σ H=>∃ x,σ[i]? = some (some x)/\te σ H λy H1=>ti x y H1 λz H2=>D.nx (σ.set i (some z)) H2
theorem wy{i:Nat}{x:Str}{e:Expr}{A:TE}{j:Operator}{C:TIp}{d:Pos}(E:X.N.Nodup)(B:X.N[i]? = some x)(n:Loc X.env.scope x)(W:PE X e A)(R:PIp X j C)(Q:X.fn x = true\/X.env.scope.names.lookup x = some .local:=by first | exact .inl rfl | exact .inr rfl | assumption) :
  PS X (.AugAssign (.Name x d) j e pos) (yF i A C):=by
 intro a s q H D I h;obtain⟨v,O,h⟩:=h;obtain⟨m,Y,Z⟩:=I.loc;have g:Vis X.env.scope x:=by rcases n with k | k;exact .inl k;exact .inr (.inl k)
 obtain⟨u,r,l⟩:=Z i x v B O g;refine wpAny_AugAssign_Name ?_
 have o:wpAny (model X.prog X.w) X.A (eval e X.env) (λw f=>wpAny (model X.prog X.w) X.A (inplaceOp j u w) (λr s₃=>wpAny (model X.prog X.w) X.A (storeName X.env x r) (λ_=>SP X a D .next) X.xe s₃) X.xe f) X.xe s:=by
  refine thn (W a s q H _ I h) λw T ⟨y,P,J,K,F⟩=>?_
  refine thn (R a T q P v y u w _ J r K F) λz s2 ⟨zv,M,L,N,G⟩=>?_
  exact fu L E B n N (λs3 I3=>⟨_,M,I3,G⟩) Q
 rcases l with⟨hk,U⟩ | ⟨hk,c,S,b⟩
 .exact wpAny_loadName_local I.ok.kind hk Y U o
 .rcases hk with hk | hk
  .exact wpAny_loadName_cell I.ok.kind hk S b o
  .rcases n with k | k
   .have:X.env.scope.names.lookup x=some .free:=hk
    rw[k]at this;cases this
   .have:X.env.scope.names.lookup x=some .free:=hk
    rw[k]at this;cases this
def ipI(f:Int->Int->Int):TIp:=λx y H Q=>∃ i j,x=.int i/\y=.int j/\Q (.int (f i j)) H
theorem vG:PIp X .Sub (ipI λi j=>i - j):=by
 intro a s f H x y v u Q I c b h;obtain⟨i,j,d,e,q⟩:=h;subst d;subst e;obtain⟨t,rfl⟩:=c;obtain⟨g,rfl⟩:=b;exact isub_int ⟨.int _,H,I.tok _,⟨_,rfl⟩,q⟩
end
section
variable {X:Cx}{pos:Pos}
def vF(c:TT)(tb:TS):TS:=λD σ H=>∃ W:Nat->St->Hp->Prop,(∃ m,W m σ H)/\∀ m σ H,W m σ H ->
 c σ H λb H1=>if b=true then ∃ N:St->Hp->Prop,(∀ σ' H',N σ' H'->∃ m',m'<m/\W m' σ' H')/\tb { D with nx:=N,ct:=N,bk:=D.nx } σ H1 else D.nx σ H1
theorem i8{c:Expr}{body:List Stmt}{C:TT}{w:TS}(B:PassesOwn (model X.prog X.w) X.A X.env X.xe)(O:PT X c C)(K:PSs X body w):PS X (.While c body [] pos) (vF C w):=by
 intro a s G H D I h;obtain⟨W,⟨J,M⟩,g⟩:=h;refine wpAny_While (codeAny_whileLoop (λn F=>∃ σ' H',Inv X a σ' H' F/\W n σ' H') ?_ J ⟨G,H,I,M⟩);rintro n P ⟨e,A,E,Q⟩;refine wpAny_passesOwn B (thn (O a P e A _ E (g n e A Q)) λb L ⟨y,x,j⟩=>?_);cases b with
 | true =>
  obtain⟨N,u,j⟩:=j;rw[if_pos rfl];refine wpAny_passesOwn B (thn (K a L e y _ x j) λf R k=>?_);cases f with
  | next =>
   obtain⟨d,i,r,q⟩:=k;obtain⟨l,m,o⟩:=u d i q;exact⟨l,m,d,i,r,o⟩
  | cont =>
   obtain⟨d,i,r,q⟩:=k;obtain⟨l,m,o⟩:=u d i q;exact⟨l,m,d,i,r,o⟩
  | brk=>exact k
  | ret v=>exact k
 | false =>
  rw[if_neg Bool.false_ne_true];exact wpAny_execs_nil ⟨e,y,x,j⟩
end
structure It where
 go:Nat->Hp->Prop
 yld:Nat->Hp->V->Hp->Prop
 stop:Nat->Hp->Prop
def FpOk(X:Cx)(pins:List (Addr×Obj))(H:Hp)(b:Addr):Prop :=
 H b = none/\b≠X.env.locals/\b ∉ X.fs/\(b ∈ X.ex\/X.s₀.heap.objs.size<=b)/\(∀ x c,X.env.cells.lookup x = some c->c≠b)/\∀ p ∈ X.pn ++ pins,p.1≠b
theorem Inv.fpOk{X:Cx}{a:List (Addr×Obj)}{g:St}{H f:Hp}{s:Shared}{b:Addr}(I:Inv X a g H s)(d:s.heap.objs.size<=b)(h:f b=none):FpOk X a f b:=by
 refine⟨h,Nat.ne_of_gt (Nat.lt_of_lt_of_le I.lt d),I.nofs d,.inr (Nat.le_trans I.sz d),λx c e z=>?_,λp hp z=>?_⟩
 .obtain⟨v,q⟩:=I.cell x c e
  exact absurd (Nat.lt_of_lt_of_le q.lt (by rw[z];exact d)) (Nat.lt_irrefl _)
 .exact absurd (Nat.lt_of_lt_of_le (Heap.lt_size (I.pin p hp).1) (by rw[z];exact d)) (Nat.lt_irrefl _)
structure Turn(P:Program)(w:World)(K:Frag)(tg:Expr)(J:It)(fp:List Addr)(it:Addr)(tn:Nat->Heap->Prop):Prop where
 mem:it∈fp
 obj:∀ i h,tn i h->∀ b∈fp,∃ o,h.get? b=some o/\∀ v,o.data≠.cell v
 keep:∀ i h h',tn i h->(∀ b∈fp,∀ o,h.get? b=some o->h'.get? b=some o)->tn i h'
 item:∀(X:Cx),X.prog=P->X.w=w->X.K=K->X.calm=true->∀(i:Nat) (pins:List (Addr×Obj)) (s:Shared) (σ:St) (H:Hp) (E:Value->Shared->Prop),Inv X pins σ H s->(∀ b∈fp,FpOk X pins H b)->tn i s.heap->J.go i H ->
  wpAny (model P w) X.A (pyNext (.ref it)) (λr s1=>∃ u,r=some u /\
   wpAny (model P w) X.A (letOwnedTupleGo tg (.ref it) u) (λ_ s2=>∃ x H',Inv X pins σ H' s2/\RelV x u/\J.yld i H x H'/\tn (i+1) s2.heap/\∀ b∈fp,H' b=none) E s1) E s
 done:∀(X:Cx),X.prog=P->X.w=w->X.K=K->X.calm=true->∀(i:Nat) (pins:List (Addr×Obj)) (s:Shared) (σ:St) (H:Hp) (E:Value->Shared->Prop),Inv X pins σ H s->(∀ b∈fp,FpOk X pins H b)->tn i s.heap->J.stop i H ->
  wpAny (model P w) X.A (pyNext (.ref it)) (λr s1=>r=none/\Inv X pins σ H s1) E s
 self:∀(A:Around) (i:Nat) (s:Shared) (Q:Value->Shared->Prop) (E:Value->Shared->Prop),tn i s.heap->Q (.ref it) s->wpAny (model P w) A (pyIter (.ref it)) Q E s
abbrev TI:=St->Hp->(It->Hp->Prop)->Prop
def PIE(X:Cx)(pins:List (Addr×Obj))(σ:St)(tg:Expr)(R:It->Hp->Prop)(itv:Value)(s2:Shared):Prop :=
 ∃(it:Addr) (fp:List Addr) (tn:Nat->Heap->Prop) (J:It) (H':Hp),itv=.ref it/\Inv X pins σ H' s2/\Turn X.prog X.w X.K tg J fp it tn/\tn 0 s2.heap/\(∀ b∈fp,FpOk X pins H' b)/\R J H'
def PI(X:Cx)(tg iter:Expr)(wi:TI):Prop :=
 ∀(pins:List (Addr×Obj)) (s:Shared) (σ:St) (H:Hp) (R:It->Hp->Prop),Inv X pins σ H s->wi σ H R ->
  wpAny (model X.prog X.w) X.A (eval iter X.env) (λv s1=>wpAny (model X.prog X.w) X.A (pyIter v) (PIE X pins σ tg R) X.xe s1) X.xe s
theorem mS{M:Model}{A:Around}{E:Value->Shared->Prop}{s:Shared}{tg:Expr}{b:Addr}{u:Value}{o:Obj}{n:String}{vs:Array Value}{Q:Unit->Shared->Prop}(e:s.heap.get? b=some o)(d:o.cls=.type n)(c:o.data=.fields vs)
  (f:["enumerate","zip","dict_itemiterator","dict_reverseitemiterator","odict_iterator","itertools.zip_longest","itertools.pairwise"].contains n=false) (a:Q () s):wpAny M A (letOwnedTupleGo tg (.ref b) u) Q E s:=by
 unfold letOwnedTupleGo
 cases tg <;> first
  | exact wpAny_pure a
  | (cases u <;> first
    | exact wpAny_pure a
    | (refine wpAny_bind (wpAny_load e ?_)
       rw[d,c];show wpAny M A (if (["enumerate","zip","dict_itemiterator","dict_reverseitemiterator","odict_iterator","itertools.zip_longest","itertools.pairwise"].contains n && vs[0]? == some (rawInt _))=true then _ else _) Q E s;rw[if_neg (by intro h;rw[f,Bool.false_and]at h;cases h)]
       exact wpAny_pure a))
def Itl(K:Frag)(a:Addr):It :=
 ⟨λi H=>∃ xs x,SqL K H a xs/\xs[i]? = some x,λi H x H'=>H'=H/\∀ xs,SqL K H a xs->xs[i]? = some x,λi H=>∃ xs,SqL K H a xs/\xs.length<=i⟩
def Itt(K:Frag)(a:Addr):It :=
 ⟨λi H=>∃ xs x,SqT K H a xs/\xs[i]? = some x,λi H x H'=>H'=H/\∀ xs,SqT K H a xs->xs[i]? = some x,λi H=>∃ xs,SqT K H a xs/\xs.length<=i⟩
def Itr(lo:Int)(n:Nat):It:=⟨λi _=>i<n,λi H x H'=>H'=H/\x=.int (lo+i),λi _=>n<=i⟩
theorem qh{P:Program}{w:World}{K:Frag}{tg:Expr}(a j:Addr):Turn P w K tg (Itl K a) [j] j (λi h=>h.IsListIter j a i) where
 mem:=by simp
 obj:=λi h f b l=>by
  have e:b=j:=by simpa using l
  subst e;obtain⟨o,e,c,d⟩:=f;exact⟨o,e,λv z=>by rw[d]at z;cases z⟩
 keep:=λi h r f k=>f.at λo e=>k j (by simp) o e
 item:=by
  intro X M B G R i g s Q H E I q f C;subst M B G;obtain⟨S,x,n,O⟩:=C;obtain⟨y,A,p,hz⟩:=I.list n;obtain⟨u,hu,W⟩:=A.get O;obtain⟨N,L,U,F,D,J⟩:=q j (by simp);refine wpAny_pyNext_list_item f p.isList (x:=u) (by simpa using hu) λr m sb=>?_
  have T:Inv X g Q H { s with heap:=r }:=I.turned (t':=s.toks) (λb o l e=>(sb.2 b l).trans e) N L F D J;obtain⟨o,e,c,d⟩:=id m;exact⟨u,rfl,mS (s:={ s with heap:=r }) e c d (by decide) ⟨x,H,T,W,⟨rfl,λys Y=>by rw[I.list_inj Y n];exact O⟩,m,λb l=>(q b l).1⟩⟩
 done:=by
  intro X M B G R i g s Q H E I q f C;subst M B G;obtain⟨S,n,O⟩:=C;obtain⟨y,A,p,hz⟩:=I.list n;obtain⟨N,L,U,F,D,J⟩:=q j (by simp);have hl:=A.length
  exact wpAny_pyNext_list_end (I.ok.hd R) f p.isList (by simp;lia) λr Z=>⟨rfl,I.turned (t':=s.toks) (λb o l e=>Z b o l e) N L F D J⟩
 self:=λ_ _ _ _ _ f h=>wpAny_pyIter_listiter f h
theorem nj{P:Program}{w:World}{K:Frag}{tg:Expr}(a l:Addr):Turn P w K tg (Itt K a) [l] l (λi h=>h.IsTupleIter l a i) where
 mem:=by simp
 obj:=λi h f b m=>by
  have e:b=l:=by simpa using m
  subst e;obtain⟨o,e,c,d⟩:=f;exact⟨o,e,λv z=>by rw[d]at z;cases z⟩
 keep:=λi h y f k=>f.at λo e=>k l (by simp) o e
 item:=by
  intro X M B G R i g s Q H E I r f C;subst M B G;obtain⟨S,x,q,O⟩:=C;obtain⟨j,A,p,hz⟩:=I.tuple q;obtain⟨u,hu,W⟩:=A.get O;obtain⟨N,L,U,F,D,J⟩:=r l (by simp);refine wpAny_pyNext_tuple_item f (show s.heap.IsTuple a j.toArray from p) (x:=u) (by simpa using hu) λy n sb=>?_
  have T:Inv X g Q H { s with heap:=y }:=I.turned (t':=s.toks) (λb o m e=>(sb.2 b m).trans e) N L F D J;obtain⟨o,e,c,d⟩:=id n;exact⟨u,rfl,mS (s:={ s with heap:=y }) e c d (by decide) ⟨x,H,T,W,⟨rfl,λys Y=>by rw[I.tuple_inj Y q];exact O⟩,n,λb m=>(r b m).1⟩⟩
 done:=by
  intro X M B G R i g s Q H E I r f C;subst M B G;obtain⟨S,q,O⟩:=C;obtain⟨j,A,p,hz⟩:=I.tuple q;obtain⟨N,L,U,F,D,J⟩:=r l (by simp);have hl:=A.length
  exact wpAny_pyNext_tuple_end (I.ok.hd R) f (show s.heap.IsTuple a j.toArray from p) (by simp;lia) λy Z=>⟨rfl,I.turned (t':=s.toks) (λb o m e=>Z b o m e) N L F D J⟩
 self:=λ_ _ _ _ _ f h=>wpAny_pyIter_tupleiter f h
theorem mV{P:Program}{w:World}{K:Frag}{tg:Expr}(c:Addr)(lo:Int)(n:Nat):Turn P w K tg (Itr lo n) [c] c (λi h=>IsRangeIter h c (lo+(i:Nat)*1) ((n:Int) - (i:Nat)) 1) where
 mem:=by simp
 obj:=λi h a b f=>by
  have e:b=c:=by simpa using f
  subst e
  exact⟨_,a,λv z=>by
   have M:Data.fields _=Data.cell v:=z
   cases M⟩
 keep:=λi h l a k=>k c (by simp) _ a
 item:=by
  intro X B m x D i d s F H E I j a q;subst B m x;obtain⟨C,A,N,u,r,y⟩:=j c (by simp);have W:=Walks.range (prog:=X.prog) (w:=X.w) (I.ok.hd D) c lo 1 n;refine W.item i s _ _ q a λv l G L g O=>?_
  obtain⟨t,rfl⟩:=L;have J:Inv X d F H { s with heap:=l,toks:=G }:=I.turned (λb o f e=>O b o (by simpa using f) e) C A u r y;refine⟨_,rfl,mS (s:={ s with heap:=l,toks:=G }) (n := "range_iterator") g rfl rfl (by decide) ⟨.int (lo+i),H,J,⟨t,?_⟩,⟨rfl,rfl⟩,g,λb f=>(j b f).1⟩⟩;rw[Int.mul_one]
 done:=by
  intro X B m x D i d s F H E I j a q;subst B m x;obtain⟨C,A,N,u,r,y⟩:=j c (by simp)
  exact wpAny_pyNext_range_end (I.ok.hd D) a (by have:n<=i:=q;lia) λl Q=>⟨rfl,I.turned (t':=s.toks) (λb o f e=>Q b o f e) C A u r y⟩
 self:=λ_ _ _ _ _ a h=>wpAny_pyIter_rangeiter a h
section
variable {X:Cx}{tg:Expr}
theorem rq{c:List (Addr×Obj)}{d:St}{H:Hp}{s:Shared}{R:It->Hp->Prop}{E:Value->Shared->Prop}{lo a:Int}{t u v:Tok}{tk:Nat}(I:Inv X c d H s)(g:-(2 ^ 62)<=lo)(l:lo<2 ^ 62)(h:-(2 ^ 62)<=a)(i:a<2 ^ 62)
  (q:R (Itr lo (a - lo).toNat) H):wpAny (model X.prog X.w) X.A (pyIter (.ref s.heap.objs.size)) (PIE X c d tg R) E { s with heap:=s.heap.push { cls:=.type "range",data:=.fields #[.int lo t,.int a u,.int 1 v] },toks:=tk }:=by
 refine wpAny_pyIter_range (IsRange.new ..) (small_one g l h i) ?_;have f:Inv X c d H { s with heap:=s.heap.push { cls:=.type "range",data:=.fields #[.int lo t,.int a u,.int 1 v] },toks:=tk }:=I.kept λb o e=>Heap.get?_push_of_some _ e
 refine⟨(s.heap.push { cls:=.type "range",data:=.fields #[.int lo t,.int a u,.int 1 v] }).objs.size,[(s.heap.push { cls:=.type "range",data:=.fields #[.int lo t,.int a u,.int 1 v] }).objs.size],_,_,H,rfl,
  f.kept (t':=tk) λb o e=>Heap.get?_push_of_some _ e,mV _ lo (a - lo).toNat,?_,λb hb=>?_,q⟩
 .have j:lo+((0:Nat):Int)*1=lo:=by simp
  have k:(((a - lo).toNat:Nat):Int) - ((0:Nat):Int)=Builtin.Range.rangeSize lo a 1:=by rw[rangeSize_one];split <;> lia
  show IsRangeIter _ _ (lo+((0:Nat):Int)*1) ((((a - lo).toNat:Nat):Int) - ((0:Nat):Int)) 1;rw[j,k];exact Heap.get?_push_size _ rfl
 .have e:b=(s.heap.push { cls:=.type "range",data:=.fields #[.int lo t,.int a u,.int 1 v] }).objs.size:=by simpa using hb
  subst e;exact f.fpOk (Nat.le_refl _) (f.hok.fresh (Nat.le_refl _))
def xX(ta:TA):TI:=λσ H R=>ta σ H λvs H1=>∃ j:Int,vs=[.int j]/\-(2 ^ 62)<=j/\j<2 ^ 62/\R (Itr 0 j.toNat) H1
theorem dM{a:Expr}{f:TA}{p b:Pos}(o:Gl X "range")(i:X.mg "range" = none)(k:PA X [a] f)(u:starEach [a] X.env=[(false,eval a X.env)]:=by rfl):PI X tg (.Call (.Name "range" p) [a] [] b) (xX f):=by
 intro c s g H R I h;refine Call_ (fA I o i boot_range (PyProof.Rows.callWith_type1 (thn (k b c s g H _ I h) λx y ⟨w,v,m,n,d⟩=>?_) u rfl));obtain⟨j,e,d,l,q⟩:=d;subst e;cases n with
 | cons r rr =>
  cases rr;obtain⟨t,rfl⟩:=r;exact call_range_1 (rq m (by lia) (by lia) d l (by simpa using q))
def yC(wi:TI)(g:TG)(tb:TS):TS:=λD σ H=>wi σ H λJ H1=>∃ W:Nat->Nat->St->Hp->Prop,(∃ m,W 0 m σ H1)/\∀ i m σ H,W i m σ H ->
 (J.stop i H/\D.nx σ H)\/(J.go i H/\∃ N:St->Hp->Prop,(∀ σ' H',N σ' H'->∃ m',m'<m/\W (i+1) m' σ' H')/\∀ x H',J.yld i H x H'->g x σ H' λσ2 H2=>tb { D with nx:=N,ct:=N,bk:=D.nx } σ2 H2)
def je(fp:List Addr)(h:Heap):List (Addr×Obj):=fp.filterMap λb=>(h.get? b).map λo=>(b,o)
theorem eQ{a:List Addr}{h:Heap}{b:Addr}{o:Obj}(c:b∈a)(e:h.get? b=some o):(b,o)∈je a h:=List.mem_filterMap.mpr ⟨b,c,by rw[e];rfl⟩
theorem pI{a:List Addr}{h:Heap}{p:Addr×Obj}(d:p∈je a h):p.1∈a/\h.get? p.1=some p.2:=by
 obtain⟨b,f,e⟩:=List.mem_filterMap.mp d;cases q:h.get? b with
 | none=>rw[q]at e;cases e
 | some o =>
  rw[q]at e;have c:(b,o)=p:=Option.some.inj e;subst c;exact⟨f,q⟩
theorem Inv.pinned{a:List (Addr×Obj)}{g:St}{H:Hp}{s:Shared}{c:List Addr}(I:Inv X a g H s)(i:∀ b∈c,FpOk X a H b)(j:∀ b∈c,∃ o,s.heap.get? b=some o/\∀ v,o.data≠.cell v):Inv X (a++je c s.heap) g H s :=
 I.pins_of λp l=>(mem_append.mp l).elim (λz=>I.pin p (mem_append_right _ z)) λz=>by
  obtain⟨h,e⟩:=pI z;obtain⟨m,k,n,_⟩:=i p.1 h;obtain⟨o,f,d⟩:=j p.1 h;rw[e]at f;cases f;exact⟨e,m,k,n,d⟩
theorem Inv.unpinned{a pl:List (Addr×Obj)}{b:St}{H:Hp}{s:Shared}(I:Inv X (a++pl) b H s):Inv X a b H s:=I.pins_of λp c=>I.pin p (mem_append_right _ (mem_append_left _ c))
theorem dF{q:Expr}{body:List Stmt}{wi:TI}{g:TG}{tb:TS}{S:Pos}(K:PassesOwn (model X.prog X.w) X.A X.env X.xe)(hc:X.calm=true)(hi:PI X tg q wi)(hg:PG X tg g)(y:PSs X body tb)
  (hs:∀ x,foldedSetIterable q X.env x=pure x:=by intro _;rfl):PS X (.For tg q body [] S) (yC wi g tb):=by
 intro c s σ H D I h;refine wpAny_For (thn (hi c s σ H _ I h) λv s1 h1=>thn h1 λitv s2 h2=>?_) hs;obtain⟨it,P,tn,J,H2,e,I2,T,Z,f2,W,⟨m0,w0⟩,E⟩:=h2;subst e
 have k:∀{H':Hp},(∀ b∈P,H' b=none)->∀ b∈P,FpOk X c H' b:=λhn b y=>⟨hn b y,(f2 b y).2⟩
 refine codeAny_forLoop_any (λn s'=>∃ i σ' H',Inv X c σ' H' s'/\tn i s'.heap/\(∀ b∈P,H' b=none)/\W i n σ' H') ?_ m0 ⟨0,σ,H2,I2,Z,λb y=>(f2 b y).1,w0⟩;rintro n s3 ⟨i,A,Q,I3,M,O,w3⟩
 rcases E i n A Q w3 with⟨L,qn⟩ | ⟨go,N,hN,F⟩
 .refine wpAny_passesOwn K (thn (T.done X rfl rfl rfl hc i c s3 A Q X.xe I3 (k O) M L) λr s4 ⟨Y,I4⟩=>?_)
  subst Y;exact wpAny_execs_nil ⟨A,Q,I4,qn⟩
 .refine wpAny_passesOwn K (thn (T.item X rfl rfl rfl hc i c s3 A Q X.xe I3 (k O) M go) λr s4 ⟨u,Y,h4⟩=>?_)
  subst Y;refine wpAny_passesOwn K (thn h4 λ_ s5 ⟨x,H5,I5,r5,y5,C,R⟩=>?_);have ab:=I5.pinned (k R) (T.obj _ _ C);refine wpAny_passesOwn K (thn (hg _ s5 A H5 x u _ ab r5 (F x H5 y5)) λ_ s6 ⟨ah,H6,I6,q6⟩=>?_);refine wpAny_passesOwn K (thn (y _ s6 ah H6 _ I6 q6) λf U B=>?_)
  have w:∀{a:St}{l:Hp},Inv X (c++je P s5.heap) a l U->N a l->∃ m,m<n/\∃ i σ' H',Inv X c σ' H' U/\tn i U.heap/\(∀ b∈P,H' b=none)/\W i m σ' H':=λ{a l} j G=>by
   obtain⟨m',hm,w7⟩:=hN a l G;refine⟨m',hm,i+1,a,l,j.unpinned,T.keep _ _ _ C λb y o e=>(j.pin (b,o) (mem_append_right _ (mem_append_right _ (eQ y e)))).1,λb y=>?_,w7⟩;obtain⟨o,e,d⟩:=T.obj _ _ C b y;exact(j.pin (b,o) (mem_append_right _ (mem_append_right _ (eQ y e)))).2.1
  cases f with
  | next=>obtain⟨a,l,j,G⟩:=B;exact w j G
  | cont=>obtain⟨a,l,j,G⟩:=B;exact w j G
  | brk=>obtain⟨a,l,j,B⟩:=B;exact⟨a,l,j.unpinned,B⟩
  | ret v=>obtain⟨x7,a,l,j,r7,B⟩:=B;exact⟨x7,a,l,j.unpinned,r7,B⟩
end
theorem dQ{K:Frag}{a:Addr}{xs:List V}{g:TG}{c:TS}{D:Ends}{b:St}{H:Hp}(Pv:Nat->St->Hp->Prop)(k:Pv 0 b H)(j:∀ i b H,i<=xs.length->Pv i b H->SqL K H a xs)
  (l:∀ i x b H,xs[i]? = some x->Pv i b H->g x b H λσ2 H2=>c { D with nx:=Pv (i+1),ct:=Pv (i+1),bk:=D.nx } σ2 H2) (f:∀ b H,Pv xs.length b H->D.nx b H) :
  ∃ W:Nat->Nat->St->Hp->Prop,(∃ m,W 0 m b H)/\∀ i m b H,W i m b H ->
   ((Itl K a).stop i H/\D.nx b H)\/((Itl K a).go i H/\∃ N:St->Hp->Prop,(∀ σ' H',N σ' H'->∃ m',m'<m/\W (i+1) m' σ' H')/\∀ x H',(Itl K a).yld i H x H'->g x b H' λσ2 H2=>c { D with nx:=N,ct:=N,bk:=D.nx } σ2 H2):=by
 refine⟨λi m b H=>m=xs.length - i/\i<=xs.length/\Pv i b H,⟨xs.length,by simp,Nat.zero_le _,k⟩,?_⟩;rintro i m b H ⟨rfl,h,p⟩;have q:=j i b H h p
 by_cases hlt:i<xs.length
 .refine .inr ⟨⟨xs,xs[i],q,by simp[hlt]⟩,Pv (i+1),λσ' H' d=>⟨xs.length - (i+1),by lia,rfl,hlt,d⟩,λx H' y=>?_⟩
  obtain⟨e,y⟩:=y;subst e;exact l i x b _ (y xs q) p
 .have e:i=xs.length:=by lia
  subst e;exact .inl ⟨⟨xs,q,Nat.le_refl _⟩,f b H p⟩
theorem j5{lo:Int}{n:Nat}{g:TG}{b:TS}{D:Ends}{a:St}{H:Hp}(Pv:Nat->St->Hp->Prop)(f:Pv 0 a H)
  (h:∀ i a H,i<n->Pv i a H->g (.int (lo+i)) a H λσ2 H2=>b { D with nx:=Pv (i+1),ct:=Pv (i+1),bk:=D.nx } σ2 H2) (d:∀ a H,Pv n a H->D.nx a H) :
  ∃ W:Nat->Nat->St->Hp->Prop,(∃ m,W 0 m a H)/\∀ i m a H,W i m a H ->
   ((Itr lo n).stop i H/\D.nx a H)\/((Itr lo n).go i H/\∃ N:St->Hp->Prop,(∀ σ' H',N σ' H'->∃ m',m'<m/\W (i+1) m' σ' H')/\∀ x H',(Itr lo n).yld i H x H'->g x a H' λσ2 H2=>b { D with nx:=N,ct:=N,bk:=D.nx } σ2 H2):=by
 refine⟨λi m a H=>m=n - i/\i<=n/\Pv i a H,⟨n,by simp,Nat.zero_le _,f⟩,?_⟩;rintro i m a H ⟨rfl,j,p⟩
 by_cases hlt:i<n
 .refine .inr ⟨hlt,Pv (i+1),λσ' H' c=>⟨n - (i+1),by lia,rfl,hlt,c⟩,λx H' y=>?_⟩
  obtain⟨e,y⟩:=y;subst e y;exact h i a _ hlt p
 .have e:i=n:=by lia
  subst e;exact .inl ⟨Nat.le_refl _,d a H p⟩
abbrev R2:=V->V->Hp->VK->Prop
def OpR(X:Cx)(f:Value->Value->Sem Value)(r:R2):Prop :=
 ∀(pins:List (Addr×Obj)) (s:Shared) (σ:St) (H:Hp) (x y:V) (v u:Value) (Q:VK),Inv X pins σ H s->RelV x v->RelV y u->r x y H Q ->
  wpAny (model X.prog X.w) X.A (f v u) (EP X pins σ Q) X.xe s
def UnR(X:Cx)(f:Value->Sem Value)(r:V->Hp->VK->Prop):Prop :=
 ∀(pins:List (Addr×Obj)) (s:Shared) (σ:St) (H:Hp) (x:V) (v:Value) (Q:VK),Inv X pins σ H s->RelV x v->r x H Q ->
  wpAny (model X.prog X.w) X.A (f v) (EP X pins σ Q) X.xe s
def CallR(X:Cx)(f:Value)(r:List V->Hp->VK->Prop):Prop :=
 ∀(pins:List (Addr×Obj)) (s:Shared) (σ:St) (H:Hp) (xs:List V) (us:List Value) (Q:VK),Inv X pins σ H s->Vals xs us->r xs H Q ->
  wpAny (model X.prog X.w) X.A (call f us) (EP X pins σ Q) X.xe s
def y2(X:Cx)(r:V->Hp->(Bool->Hp->Prop)->Prop):Prop :=
 ∀(pins:List (Addr×Obj)) (s:Shared) (σ:St) (H:Hp) (x:V) (v:Value) (Q:Bool->Hp->Prop),Inv X pins σ H s->RelV x v->r x H Q ->
  wpAny (model X.prog X.w) X.A (truthy v) (TP X pins σ Q) X.xe s
def tOp(r:R2)(ta tb:TE):TE:=λσ H Q=>ta σ H λx H1=>tb σ H1 λy H2=>r x y H2 Q
def tUn(r:V->Hp->VK->Prop)(ta:TE):TE:=λσ H Q=>ta σ H λx H1=>r x H1 Q
def rI(C:Int->Int->Prop)(g:Int->Int->V):R2:=λx y H Q=>∃ i j,x=.int i/\y=.int j/\C i j/\Q (g i j) H
def rI0(g:Int->Int->V):R2:=λx y H Q=>∃ i j,x=.int i/\y=.int j/\Q (g i j) H
def rU(g:Int->V):V->Hp->VK->Prop:=λx H Q=>∃ i,x=.int i/\Q (g i) H
section
variable {X:Cx}{a b c:Expr}{ta tb tc:TE}{pos:Pos}
theorem wL(k:PE X a ta)(q:PE X b tb){c:List (Addr×Obj)}{s:Shared}{d:St}{H:Hp}{R:V->V->Hp->Prop}(I:Inv X c d H s)
  (h:ta d H λx H1=>tb d H1 λy H2=>R x y H2){Q:Value->Shared->Prop}{f:Value->Value->Sem Value}
  (e:∀ v u s2 x y H2,Inv X c d H2 s2->RelV x v->RelV y u->R x y H2->wpAny (model X.prog X.w) X.A (f v u) Q X.xe s2) :
  wpAny (model X.prog X.w) X.A (eval a X.env) (λv s₁=>wpAny (model X.prog X.w) X.A (eval b X.env) (λu s₂=>wpAny (model X.prog X.w) X.A (f v u) Q X.xe s₂) X.xe s₁) X.xe s:=by
 refine thn (k c s d H _ I h) λv i ⟨x,H1,n,o,j⟩=>?_
 refine thn (q c i d H1 _ n j) λu s2 ⟨y,H2,g,m,l⟩=>?_
 exact e v u s2 x y H2 g o m l
theorem ax{d:Operator}{r:R2}(e:OpR X (binaryOp d) r)(k:PE X a ta)(n:PE X b tb):PE X (.BinOp a d b pos) (tOp r ta tb):=by
 intro c s g H Q I h;exact wpAny_BinOp (wL k n I h λv u l x y i f j m q=>e c l g i x y v u Q f j m q)
theorem vq{d:UnaryOp}{r:V->Hp->VK->Prop}(f:UnR X (unaryOp d) r)(j:PE X a ta):PE X (.UnaryOp d a pos) (tUn r ta):=by
 intro b s c H Q I h;exact UnaryOp_ (thn (j b s c H _ I h) λv g ⟨x,e,k,l,i⟩=>f b g c e x v Q k l i)
theorem opI{f:Value->Value->Sem Value}{C:Int->Int->Prop}{g:Int->Int->Int}
  (a:∀(i j:Int) (t u:Tok) (s:Shared) (Q:Value->Shared->Prop) (E:Value->Shared->Prop),C i j->Q (.int (g i j) s.toks) { s with toks:=s.toks+1 }->wpAny (model X.prog X.w) X.A (f (.int i t) (.int j u)) Q E s) :
  OpR X f (rI C λi j=>.int (g i j)):=by
 intro b s l H x y v u Q I d e h;obtain⟨i,j,rfl,rfl,c,q⟩:=h;obtain⟨t,rfl⟩:=d;obtain⟨k,rfl⟩:=e;exact a i j t k s _ _ c ⟨.int (g i j),H,I.tok _,⟨_,rfl⟩,q⟩
theorem xj{f:Value->Value->Sem Value}{g:Int->Int->Int}
  (a:∀(i j:Int) (t u:Tok) (s:Shared) (Q:Value->Shared->Prop) (E:Value->Shared->Prop),Q (.int (g i j) s.toks) { s with toks:=s.toks+1 }->wpAny (model X.prog X.w) X.A (f (.int i t) (.int j u)) Q E s) :
  OpR X f (rI0 λi j=>.int (g i j)):=by
 intro b s k H x y v u Q I c d h;obtain⟨i,j,rfl,rfl,q⟩:=h;obtain⟨t,rfl⟩:=c;obtain⟨e,rfl⟩:=d;exact a i j t e s _ _ ⟨.int (g i j),H,I.tok _,⟨_,rfl⟩,q⟩
theorem tD{f:Value->Value->Sem Value}{g:Int->Int->Bool}
  (a:∀(i j:Int) (t u:Tok) (s:Shared) (Q:Value->Shared->Prop) (E:Value->Shared->Prop),Q (.bool (g i j)) s->wpAny (model X.prog X.w) X.A (f (.int i t) (.int j u)) Q E s) :
  OpR X f (rI0 λi j=>.bl (g i j)):=by
 intro b s k H x y v u Q I c d h;obtain⟨i,j,rfl,rfl,q⟩:=h;obtain⟨t,rfl⟩:=c;obtain⟨e,rfl⟩:=d;exact a i j t e s _ _ ⟨.bl (g i j),H,I,rfl,q⟩
def yU(i j:Int):Prop:=0<j/\j<1073741824
def CMul(i j:Int):Prop:=(-(2 ^ 64)<i/\i<2 ^ 64)\/(-(2 ^ 64)<j/\j<2 ^ 64)
theorem CMul.ok{i j:Int}(h:CMul i j):IntMulOk i j:=by
 rcases h with⟨b,a⟩ | ⟨b,a⟩
 .exact .of_left (intBits_le_64 b a)
 .exact .of_right (intBits_le_64 b a)
theorem op_add:OpR X (binaryOp .Add) (rI0 λi j=>.int (i+j)):=xj λ_ _ _ _ _ _ _ q=>add_int q
theorem op_sub:OpR X (binaryOp .Sub) (rI0 λi j=>.int (i - j)):=xj λ_ _ _ _ _ _ _ q=>sub_int q
theorem op_mod:OpR X (binaryOp .Mod) (rI (λ_ j=>0<j) λi j=>.int (i % j)):=opI λi j _ _ _ _ _ a q=>by
 have b:(0:Int)<j:=a;exact mod_int' (by lia) (by rw[Int.fmod_eq_emod_of_nonneg i (by lia)];exact q)
theorem unI{f:Value->Sem Value}{g:Int->Int}
  (a:∀(i:Int) (t:Tok) (s:Shared) (Q:Value->Shared->Prop) (E:Value->Shared->Prop),Q (.int (g i) s.toks) { s with toks:=s.toks+1 }->wpAny (model X.prog X.w) X.A (f (.int i t)) Q E s) :
  UnR X f (rU λi=>.int (g i)):=by
 intro b s d H x v Q I c h;obtain⟨i,rfl,q⟩:=h;obtain⟨t,rfl⟩:=c;exact a i t s _ _ ⟨.int (g i),H,I.tok _,⟨_,rfl⟩,q⟩
theorem vE:UnR X (unaryOp .USub) (rU λi=>.int (-i)):=unI λ_ _ _ _ _ q=>neg_int q
end
def xD:V->V->Bool
 | .non,.non=>true | .non,.int _=>true | .int _,.non=>true | .non,.bl _=>true | .bl _,.non=>true | .non,.str _=>true | .str _,.non=>true
 | .int _,.int _=>true | .bl _,.bl _=>true | .str _,.str _=>true | .byt _,.byt _=>true
 | .int _,.str _=>true | .str _,.int _=>true | .bl _,.str _=>true | .str _,.bl _=>true
 | _,_=>false
def rEq:R2:=λx y H Q=>xD x y=true/\Q (.bl (decide (x=y))) H
def rNe:R2:=λx y H Q=>xD x y=true/\Q (.bl (!decide (x=y))) H
theorem iw{i j:Int}:decide (V.int i=V.int j)=(i == j):=by
 rw[Bool.eq_iff_iff];simp
theorem km{i j:Bool}:decide (V.bl i=V.bl j)=(i == j):=by
 rw[Bool.eq_iff_iff];simp
theorem iD{i j:Str}:decide (V.str i=V.str j)=(i == j):=by
 rw[Bool.eq_iff_iff];simp
theorem pk{i j:Array UInt8}:decide (V.byt i=V.byt j)=(i.toList == j.toList):=by
 rw[Bool.eq_iff_iff];cases i;cases j;simp
section
variable {X:Cx}{a b c:Expr}{ta tb tc:TE}{pos:Pos}
theorem aP{a:List (Addr×Obj)}{c:St}{H:Hp}{s:Shared}{Q:VK}{k b:Bool}(I:Inv X a c H s)(q:Q (.bl k) H)(e:k=b):EP X a c Q (.bool b) s:=by
 subst e;exact⟨.bl k,H,I,rfl,q⟩
theorem op_eq:OpR X (compareOp .Eq) rEq:=by
 intro e s f H x y v u Q I d a h;obtain⟨c,q⟩:=h;cases x with
 | non =>
  cases d;cases y with
  | non=>cases a;exact PySem.EqNone.eq_none_none (aP I q (by simp))
  | bl j=>cases a;exact PySem.EqNone.eq_none_bool (aP I q (by simp))
  | int j=>obtain⟨b,rfl⟩:=a;exact PySem.EqNone.eq_none_int (aP I q (by simp))
  | str j=>obtain⟨b,rfl⟩:=a;exact PySem.EqNone.eq_none_str (aP I q (by simp))
  | _=>exact absurd (show false=true from c) Bool.false_ne_true
 | bl i =>
  cases d;cases y with
  | non=>cases a;exact PySem.EqNone.eq_bool_none (aP I q (by simp))
  | bl j=>cases a;exact eq_bool (aP I q km)
  | str j=>obtain⟨b,rfl⟩:=a;exact PySem.EqMixed.eq_bool_str (aP I q (by simp))
  | _=>exact absurd (show false=true from c) Bool.false_ne_true
 | int i =>
  obtain⟨t,rfl⟩:=d;cases y with
  | non=>cases a;exact PySem.EqNone.eq_int_none (aP I q (by simp))
  | int j=>obtain⟨b,rfl⟩:=a;exact eq_int (aP I q iw)
  | str j=>obtain⟨b,rfl⟩:=a;exact PySem.EqMixed.eq_int_str (aP I q (by simp))
  | _=>exact absurd (show false=true from c) Bool.false_ne_true
 | str i =>
  obtain⟨t,rfl⟩:=d;cases y with
  | non=>cases a;exact PySem.EqNone.eq_str_none (aP I q (by simp))
  | bl j=>cases a;exact PySem.EqMixed.eq_str_bool (aP I q (by simp))
  | int j=>obtain⟨b,rfl⟩:=a;exact PySem.EqMixed.eq_str_int (aP I q (by simp))
  | str j=>obtain⟨b,rfl⟩:=a;exact eq_str (aP I q iD)
  | _=>exact absurd (show false=true from c) Bool.false_ne_true
 | byt i =>
  obtain⟨t,rfl⟩:=d;cases y with
  | byt j=>obtain⟨b,rfl⟩:=a;exact PySem.W.eq_bytes (aP I q pk)
  | _=>exact absurd (show false=true from c) Bool.false_ne_true
 | _=>cases y <;> exact absurd (show false=true from c) Bool.false_ne_true
theorem op_ne:OpR X (compareOp .NotEq) rNe:=by
 intro e s f H x y v u Q I d a h;obtain⟨c,q⟩:=h;cases x with
 | non =>
  cases d;cases y with
  | non=>cases a;exact PySem.EqNone.ne_none_none (aP I q (by simp))
  | bl j=>cases a;exact PySem.EqNone.ne_none_bool (aP I q (by simp))
  | int j=>obtain⟨b,rfl⟩:=a;exact PySem.EqNone.ne_none_int (aP I q (by simp))
  | str j=>obtain⟨b,rfl⟩:=a;exact PySem.EqNone.ne_none_str (aP I q (by simp))
  | _=>exact absurd (show false=true from c) Bool.false_ne_true
 | bl i =>
  cases d;cases y with
  | non=>cases a;exact PySem.EqNone.ne_bool_none (aP I q (by simp))
  | bl j=>cases a;exact ne_bool (aP I q (congrArg not km))
  | str j=>obtain⟨b,rfl⟩:=a;exact PySem.EqMixed.ne_bool_str (aP I q (by simp))
  | _=>exact absurd (show false=true from c) Bool.false_ne_true
 | int i =>
  obtain⟨t,rfl⟩:=d;cases y with
  | non=>cases a;exact PySem.EqNone.ne_int_none (aP I q (by simp))
  | int j=>obtain⟨b,rfl⟩:=a;exact ne_int (aP I q (congrArg not iw))
  | str j=>obtain⟨b,rfl⟩:=a;exact PySem.EqMixed.ne_int_str (aP I q (by simp))
  | _=>exact absurd (show false=true from c) Bool.false_ne_true
 | str i =>
  obtain⟨t,rfl⟩:=d;cases y with
  | non=>cases a;exact PySem.EqNone.ne_str_none (aP I q (by simp))
  | bl j=>cases a;exact PySem.EqMixed.ne_str_bool (aP I q (by simp))
  | int j=>obtain⟨b,rfl⟩:=a;exact PySem.EqMixed.ne_str_int (aP I q (by simp))
  | str j=>obtain⟨b,rfl⟩:=a;exact ne_str (aP I q (congrArg not iD))
  | _=>exact absurd (show false=true from c) Bool.false_ne_true
 | byt i =>
  obtain⟨t,rfl⟩:=d;cases y with
  | byt j=>obtain⟨b,rfl⟩:=a;exact PySem.W.ne_bytes (aP I q (congrArg not pk))
  | _=>exact absurd (show false=true from c) Bool.false_ne_true
 | _=>cases y <;> exact absurd (show false=true from c) Bool.false_ne_true
theorem op_lt:OpR X (compareOp .Lt) (rI0 λi j=>.bl (decide (i<j))):=tD λ_ _ _ _ _ _ _ q=>lt_int q
theorem op_le:OpR X (compareOp .LtE) (rI0 λi j=>.bl (decide (i<=j))):=tD λ_ _ _ _ _ _ _ q=>le_int q
theorem op_gt:OpR X (compareOp .Gt) (rI0 λi j=>.bl (decide (j<i))):=tD λ_ _ _ _ _ _ _ q=>gt_int q
theorem op_ge:OpR X (compareOp .GtE) (rI0 λi j=>.bl (decide (j<=i))):=tD λ_ _ _ _ _ _ _ q=>ge_int q
theorem qi:OpR X (compareOp .Lt) (λx y H Q=>∃ i j,x=.str i/\y=.str j/\Q (.bl (decide (i.cps.toList<j.cps.toList))) H):=by
 intro a s d H x y v u Q I b c h;obtain⟨i,j,rfl,rfl,q⟩:=h;obtain⟨t,rfl⟩:=b;obtain⟨e,rfl⟩:=c;exact lt_str (aP I q rfl)
theorem OpR.or{f:Value->Value->Sem Value}{r d:R2}(h:OpR X f r)(h':OpR X f d):OpR X f (λx y H Q=>r x y H Q\/d x y H Q):=by
 intro a s b H x y v u Q I c e q
 rcases q with q | q
 .exact h a s b H x y v u Q I c e q
 .exact h' a s b H x y v u Q I c e q
theorem be(b:Expr){a:CmpOp}(h:a≠.In:=by decide)(e:a≠.NotIn:=by decide):behindInMarks a b=false:=by
 have c:(a == CmpOp.In)=false:=by cases a <;> first | rfl | exact absurd rfl h
 have d:(a == CmpOp.NotIn)=false:=by cases a <;> first | rfl | exact absurd rfl e
 cases b <;> simp[behindInMarks,c,d]
theorem iH{d:CmpOp}{r:R2}(e:OpR X (compareOp d) r)(l:PE X a ta)(o:PE X b tb)(i:behindInMarks d b=false):PE X (.Compare a [d] [b] pos) (tOp r ta tb):=by
 intro c s g H Q I h;exact wpAny_Compare1 (wL l o I h λv u m x y j f k n q=>e c m g j x y v u Q f k n q) i
def ya(K:Frag)(x:V)(H:Hp)(k:Bool):Prop :=
 match x with
 | .non=>k=false
 | .bl b=>k=b
 | .int i=>k=(i != 0)
 | .str y=>y.length<=sizeLine/\k=((y.length:Int) != 0)
 | .byt y=>y.size<=sizeLine/\k=((y.size:Int) != 0)
 | .ref p=>(∃ xs,SqL K H p xs/\k = !xs.isEmpty)\/(∃ xs,SqT K H p xs/\k = !xs.isEmpty)\/∃ kvs,H p=some (.dK kvs)/\k = !kvs.isEmpty
 | _=>False
theorem om{b:Type}{a:List (b×V)}{vs:List (b×Value)}(r:KV a vs):(!vs.isEmpty) = !a.isEmpty:=by
 cases r <;> rfl
theorem jl{xs:List V}{its:List Value}(r:Vals xs its):(!its.toArray.isEmpty) = !xs.isEmpty:=by
 cases r <;> simp
theorem gQ:(sizeLine:Nat)<2 ^ 63:=by rw[sizeLine_eq];decide
theorem wt:y2 X (λx H Q=>∃ k,ya X.K x H k/\Q k H):=by
 intro u s w H x v Q I g h;obtain⟨k,e,q⟩:=h;have A:=gQ;have B:sizeLine=16777216:=sizeLine_eq;cases x with
 | non =>
  cases g;have a:k=false:=e;subst a;exact truthy_none ⟨H,I,q⟩
 | bl b =>
  cases g;have a:k=b:=e;subst a;exact wpAny_truthy_bool ⟨H,I,q⟩
 | int i =>
  obtain⟨t,rfl⟩:=g;have a:k=(i != 0):=e;subst a;exact PySem.P.truthy_int ⟨H,I,q⟩
 | str y =>
  obtain⟨t,rfl⟩:=g;obtain⟨hy,a⟩:y.length<=sizeLine/\k=((y.length:Int) != 0):=e;subst a;exact PySem.P.truthy_str (by lia) ⟨H,I.tok _,q⟩
 | byt y =>
  obtain⟨t,rfl⟩:=g;obtain⟨hy,a⟩:y.size<=sizeLine/\k=((y.size:Int) != 0):=e;subst a;exact PySem.W.truthy_bytes (by lia) ⟨H,I.tok _,q⟩
 | ref p =>
  cases g;have a:(∃ f,SqL X.K H p f/\k = !f.isEmpty)\/(∃ f,SqT X.K H p f/\k = !f.isEmpty)\/∃ c,H p=some (.dK c)/\k = !c.isEmpty:=e
  rcases a with⟨f,j,a⟩ | ⟨f,j,a⟩ | ⟨c,j,a⟩
  .subst a
   obtain⟨l,r,n,o⟩:=I.list j;have d:=r.length;exact wpAny_truthy_list n.isList (by simp only[size_toArray];lia) ⟨H,I.tok _,by rw[jl r];exact q⟩
  .subst a
   obtain⟨l,r,n,o⟩:=I.tuple j;have d:=r.length;exact truthy_tuple n (by simp only[size_toArray];lia) ⟨H,I.tok _,by rw[jl r];exact q⟩
  .subst a
   obtain⟨o,hS,vs,r,m⟩:c.length<=sizeLine/\(p == sysModules)=false/\∃ vs,KV c vs/\s.heap.DictOf (bN X.prog X.w) p vs:=I.hok p _ j;have d:c.length=vs.length:=Paired.length r;exact wpAny_truthy_dict hS m (by lia) ⟨H,I.tok _,by rw[om r];exact q⟩
 | _=>exact(show False from e).elim
theorem i9(g:PE X a ta)(e:∀ whole,isTrue a X.env whole=(do let v <- whole;standAt a.pos;holding [v] (truthy v))) :
  PT X a (λσ H Q=>ta σ H λx H'=>∃ k,ya X.K x H' k/\Q k H'):=by
 intro b s σ H Q I h;exact isTrue_plain (thn (g b s σ H _ I h) λv d ⟨x,c,i,j,f⟩=>wt b d σ c x v Q i j f) (e _)
theorem nO:OpR X (binaryOp .Add) (λx y H Q=>∃ i j,x=.str i/\y=.str j/\i.length+j.length<=sizeLine/\Q (.str (i++j)) H):=by
 intro a s g H x y v u Q I b e h;obtain⟨i,j,rfl,rfl,c,q⟩:=h;obtain⟨t,rfl⟩:=b;obtain⟨d,rfl⟩:=e;exact add_str (λd f=>⟨.str (i++j),H,I.tok _,⟨_,rfl⟩,q⟩) c
theorem di{x:V}{us:List Value}(r:Vals [x] us):∃ u,us=[u]/\RelV x u:=by
 cases r with
 | cons r1 r2=>cases r2;exact⟨_,rfl,r1⟩
theorem mt{x y:V}{us:List Value}(r:Vals [x,y] us):∃ u w',us=[u,w']/\RelV x u/\RelV y w':=by
 cases r with
 | cons r1 r2 =>
  cases r2 with
  | cons r3 r4=>cases r4;exact⟨_,_,rfl,r1,r3⟩
theorem mC:CallR X (.builtin "abs") (λxs H Q=>∃ i,xs=[.int i]/\Q (.int (if i<0 then -i else i)) H):=by
 intro a s d H xs c Q I r h;obtain⟨i,rfl,q⟩:=h;obtain⟨u,rfl,t,rfl⟩:=di r
 exact call_abs_int λu b=>⟨.int (if i<0 then -i else i),H,I.tok _,⟨_,rfl⟩,q⟩
inductive rTwo(f:Int->Int->Int)(xs:List V)(H:Hp)(Q:VK):Prop
 | mk(i j:Int)(h0:xs=[.int i,.int j])(h1:Q (.int (f i j)) H):rTwo f xs H Q
theorem gM(b:X.calm=true):CallR X (.builtin "min") (rTwo λi j=>if j<i then j else i):=by
 intro a s g H f e Q I r h;obtain⟨i,j,rfl,q⟩:=h;obtain⟨u,l,rfl,⟨t,rfl⟩,⟨m,rfl⟩⟩:=mt r
 refine min_two_ints (I.ok.hd b) λc d k=>⟨_,H,I.kept k,?_,q⟩
 by_cases hj:j<i
 .rw[if_pos hj,if_pos hj];exact⟨_,rfl⟩
 .rw[if_neg hj,if_neg hj];exact⟨_,rfl⟩
end
structure ObjM(h:Heap)(x dx C:Addr)(mA:Str->Option Value):Prop where
 obj:h.get? x=some (instObj C dx)
 ns:h.Ns1 dx mA
 ne:dx≠x
theorem qD{h:Heap}{d:Addr}{f:Str->Option Value}(n:h.Ns1 d f):∃ od,h.get? d=some od/\∀ name,lookIn name od=some (f name):=by
 obtain⟨o,c,r,g,i,m,_,k⟩:=n;refine⟨o,g,λname=>?_⟩;have e:=k name;unfold nsFind findBy at e;rw[<- Array.find?_toList]at e;unfold lookIn;rw[i];dsimp only
 split
 .rename_i y q
  rw[q]at e;exact congrArg some e
 .rename_i q
  rw[q]at e
  have a:c.toList.any (·.refKey)=false:=by
   rw[List.any_eq_false];intro y l;obtain⟨z,t,b⟩:=m y (Array.mem_toList_iff.mp l);simp[DictEntry.refKey,b]
  have j:¬c.toList.any (·.refKey)=true:=by rw[a];exact Bool.false_ne_true
  rw[if_neg j];exact congrArg some e
theorem ObjM.look{h:Heap}{x a C:Addr}{b:Str->Option Value}(I:ObjM h x a C b):∃ od,InstAt h x (instObj C a) C (some od)/\∀ name,lookIn name od=some (b name) :=
 let ⟨od,ho,hl⟩:=qD I.ns
 ⟨od,⟨I.obj,rfl,rfl,ho⟩,hl⟩
section
variable {prog:Program}{w:World}{A:Around}{E:Value->Shared->Prop}{s:Shared}{K:Frag}{x dx C f:Addr}{mA:Str->Option Value}{name:Str}{v:Value}
theorem uo{a:Bool}{Q:Value->Shared->Prop}(X:K.In s.heap)(I:ObjM s.heap x dx C mA)(g:plainGet K C name=true)(c:hasDictIn K C=true)
  (d:findIn K (.ref C) name=some none) (f:mA name=some v) (b:handedIn v=true) (h:Q v { s with toks:=s.toks+1 }) :
  wpAny (model prog w) A (getAttr (.ref x) name a) Q E s:=by
 obtain⟨i,J,e⟩:=I.look;exact PySem.W.get_value X J (plainGet_of g).1 (PySem.W.findObj_own c d rfl (by rw[e,f])) b h
theorem sI{pl:Sem Bool}{Q:Value×List Value->Shared->Prop}(X:K.In s.heap)(I:ObjM s.heap x dx C mA)(a:plainGet K C name=true)
  (b:findIn K (.ref C) name=some (some (.ref f))) (d:isFn K (.ref f)=true) (g:mA name=none) (h:Q (.ref f,[.ref x]) s) :
  wpAny (model prog w) A (getMethod (.ref x) name pl) Q E s:=by
 obtain⟨c,J,e⟩:=I.look;exact PySem.W.method_fn X J (plainGet_of a).1 (plainGet_of a).2 b (beq_iff_eq.mp d) (by show(lookIn name c).map (·.isSome)=some false;rw[e,g];rfl) h
theorem uW{j:List Str}{Q:Unit->Shared->Prop}(X:K.In s.heap)(I:ObjM s.heap x dx C mA)
  (D:findIn K (.ref C) "__setattr__" = some (some (.builtin "object.__setattr__"))) (m:plainOver K C=true) (q:takerIn K C name=some none) (n:hasDictIn K C=true)
  (k:PySem.Within mA j) (hsz:j.length<=sizeLine)
  (h:∀ h',ObjM h' x dx C (λy=>if y=name then some v else mA y)->Heap.SameBut dx s.heap h'->Q () { s with heap:=h',toks:=s.toks+2 }) :
  wpAny (model prog w) A (setAttr (.ref x) name v) Q E s:=by
 obtain⟨F,J,L⟩:=I.look;refine PySem.W.set_plain X J D (PySem.W.osa_open (s:={ s with toks:=s.toks+1 }) (r:=none) X J m q λb=>?_);obtain⟨G,o,e⟩:=any_some n;have u:s.heap.get? x=some ⟨.ref C,some dx,.plain,#[]⟩:=I.obj;refine wpAny_bind (wpAny_pure (wpAny_bind (wpAny_bind (wpAny_loadPart u (wpAny_bind (Looks.here (s:={ s with toks:=s.toks+1 }) (PySem.W.looks_clsIn X o) ?_))))));rw[e];refine wpAny_pure (a:=some dx) (wpAny_bind (wpAny_pure (wpAny_bind ?_)));refine wpAny_nsSet1 (s:={ s with toks:=s.toks+1 }) I.ns λh' c d=>?_
 obtain⟨H,l,B,i,f,g⟩:=c.count (PySem.Within.cons name v k);refine wpAny_bind (wpAny_lookBehind i (by rw[f];exact pastItsLine_dict (Nat.le_trans g (by rw[length_cons];lia))) ?_);exact wpAny_pure (h _ ⟨(d.2 _ (Ne.symm I.ne)).trans I.obj,c,I.ne⟩ d)
theorem rL{R:Result->Shared->Prop}{vs:List Value}{b:List (Str×Value)}(X:K.In s.heap)(e:makesIn K C=true)
  (i:findIn K (.ref C) "__init__" = some (some (.ref f))) (c:typeIn K (.ref f)=some (.type "function"))
  (h:codeAny (model prog w) (A.under (.builtin "type.__call__" ⟨.ref C::vs,b⟩)) (.call (.ref f) ⟨.ref (s.heap.objs.size+1)::vs,b⟩) (PySem.W.InitBack (s.heap.objs.size+1) R)
   { s with heap:=(s.heap.push emptyDict).push (instObj C s.heap.objs.size) }) :
  codeAny (model prog w) A (.call (.ref C) ⟨vs,b⟩) R s:=by
 obtain⟨j,g,d,t,k⟩:=s;exact PySem.W.make_core (PySem.W.makes_of X e) (PySem.W.looks_findIn X i) (λa=>PySem.W.bind_fn X a c) (.inl rfl) h
end
def fM(f:Str)(v:V):List (Str×V)->List (Str×V)
 | []=>[(f,v)]
 | (g,x)::r=>if g=f then (g,v)::r else (g,x)::fM f v r
theorem hX(f g:Str)(v:V):∀ fs:List (Str×V),(fM f v fs).lookup g=if g=f then some v else fs.lookup g
 | []=>by
  show List.lookup g [(f,v)]=_
  by_cases h:g=f
  .have a:(g == f)=true:=beq_iff_eq.mpr h
   simp only[List.lookup,a,if_pos h]
  .have a:(g == f)=false:=beq_eq_false_iff_ne.mpr h
   simp only[List.lookup,a,if_neg h]
 | (k,x)::r=>by
  have b:=hX f g v r;rw[show fM f v ((k,x)::r)=(if k=f then (k,v)::r else (k,x)::fM f v r) from rfl]
  by_cases hk:k=f
  .rw[if_pos hk]
   by_cases h:g=k
   .have a:(g == k)=true:=beq_iff_eq.mpr h
    simp only[List.lookup,a,if_pos (h.trans hk)]
   .have a:(g == k)=false:=beq_eq_false_iff_ne.mpr h
    simp only[List.lookup,a,if_neg (λe:g=f=>h (e.trans hk.symm))]
  .rw[if_neg hk]
   by_cases h:g=k
   .have a:(g == k)=true:=beq_iff_eq.mpr h
    simp only[List.lookup,a,if_neg (λe:g=f=>hk (h.symm.trans e))]
   .have a:(g == k)=false:=beq_eq_false_iff_ne.mpr h
    simp only[List.lookup,a];exact b
theorem gN(f:Str)(v:V):∀ fs:List (Str×V),f∈(fM f v fs).map (·.1)/\∀ g,g∈fs.map (·.1)->g∈(fM f v fs).map (·.1)
 | []=>⟨by simp[fM],λg h=>by simp at h⟩
 | (k,x)::r=>by
  obtain⟨b,a⟩:=gN f v r;rw[show fM f v ((k,x)::r)=(if k=f then (k,v)::r else (k,x)::fM f v r) from rfl]
  by_cases hk:k=f
  .rw[if_pos hk]
   subst hk;exact⟨by simp,λg h=>by simpa using h⟩
  .rw[if_neg hk]
   refine⟨?_,λg h=>?_⟩
   .rw[map_cons]
    exact mem_cons_of_mem _ b
   .rw[map_cons]at h ⊢
    rcases mem_cons.mp h with e | e
    .exact mem_cons.mpr (.inl e)
    .exact mem_cons_of_mem _ (a g e)
theorem g8(f:Str)(v:V):∀ fs:List (Str×V),(fM f v fs).length<=fs.length+1
 | []=>by simp[fM]
 | (k,x)::r=>by
  have a:=g8 f v r;rw[show fM f v ((k,x)::r)=(if k=f then (k,v)::r else (k,x)::fM f v r) from rfl]
  by_cases hk:k=f
  .rw[if_pos hk,length_cons,length_cons];lia
  .rw[if_neg hk,length_cons,length_cons];lia
theorem RelO.some_of{v:V}{o:Option Value}(r:RelO (some v) o):∃ u,o=some u/\RelV v u:=by
 cases o with
 | none=>exact(show False from r).elim
 | some u=>exact⟨u,rfl,r⟩
theorem RelO.none_of{o:Option Value}(r:RelO none o):o=none:=by
 cases o with
 | none=>rfl
 | some u=>exact(show False from r).elim
theorem qE{v:V}{u:Value}(r:RelV v u):handedIn u=true:=by
 cases v with
 | non=>cases(show u=Value.none from r);rfl
 | bl b=>cases(show u=Value.bool b from r);rfl
 | int i=>obtain⟨t,e⟩:=(show ∃ t,u=Value.int i t from r);cases e;rfl
 | str x=>obtain⟨t,e⟩:=(show ∃ t,u=Value.str x t from r);cases e;rfl
 | byt b=>obtain⟨t,e⟩:=(show ∃ t,u=Value.bytes b t from r);cases e;rfl
 | flt b=>obtain⟨t,e⟩:=(show ∃ t,u=Value.float b t from r);cases e;rfl
 | ref a=>cases(show u=Value.ref a from r);rfl
 | ty n=>cases(show u=Value.type n from r);rfl
section
variable {P:Program}{w:World}{H H':Hp}{h h':Heap}{a C dx:Addr}{fs fs':List (Str×V)}
theorem iB(b:HOk P w H h)(e:H a=some (.ins C dx fs)):∃ mA,ObjM h a dx C mA/\(∀ f,RelO (fs.lookup f) (mA f))/\PySem.Within mA (fs.map (·.1))/\fs.length<=1000/\H dx=some (.own a):=by
 obtain⟨d,z,g,c,mA,n,r,q⟩:=(show ObjOk P w H h a (.ins C dx fs) from b a _ e)
 exact⟨mA,⟨c,n,g⟩,r,q,z,d⟩
end
structure Cls(K:Frag)(C:Addr):Prop where
 pg:plainGet K C Str.empty=true
 hd:hasDictIn K C=true
 po:plainOver K C=true
 sa:findIn K (.ref C) "__setattr__" = some (some (.builtin "object.__setattr__"))
theorem Cls.get{K:Frag}{C:Addr}(c:Cls K C)(f:Str):plainGet K C f=true:=c.pg
def NoAttr(K:Frag)(C:Addr)(f:Str):Prop:=findIn K (.ref C) f=some none
theorem NoAttr.taker{K:Frag}{C:Addr}{f:Str}(n:NoAttr K C f):takerIn K C f=some none:=by
 unfold takerIn;rw[show findIn K (.ref C) f=some none from n];rfl
structure Meth(K:Frag)(C:Addr)(m:Str)(f:Addr):Prop where
 at_:findIn K (.ref C) m=some (some (.ref f))
 fn:isFn K (.ref f)=true
 kp:keepIn K (.ref f)=true
section
variable {X:Cx}{pins:List (Addr×Obj)}{σ:St}{H:Hp}{s:Shared}{a C dx:Addr}{fs:List (Str×V)}{f:Str}{v:V}{A:Around}{E:Value->Shared->Prop}
theorem nw{b:Bool}{Q:Value->Shared->Prop}(I:Inv X pins σ H s)(e:H a=some (.ins C dx fs))(c:Cls X.K C)(n:NoAttr X.K C f)(l:fs.lookup f=some v)
  (h:∀ u s',Inv X pins σ H s'->RelV v u->Q u s'):wpAny (model X.prog X.w) A (getAttr (.ref a) f b) Q E s:=by
 obtain⟨g,O,r,_,_,_⟩:=iB I.hok e;obtain⟨u,i,d⟩:=RelO.some_of (v:=v) (o:=g f) (by rw[<- l];exact r f);exact uo I.kIn O (c.get f) c.hd n i (qE d) (h u _ (I.tok _) d)
theorem jk{m:Str}{g:Addr}{pl:Sem Bool}{Q:Value×List Value->Shared->Prop}(I:Inv X pins σ H s)(e:H a=some (.ins C dx fs))(c:Cls X.K C)(k:Meth X.K C m g)(l:fs.lookup m=none)
  (h:Q (.ref g,[.ref a]) s):wpAny (model X.prog X.w) A (getMethod (.ref a) m pl) Q E s:=by
 obtain⟨b,O,r,_,_,_⟩:=iB I.hok e;have d:b m=none:=RelO.none_of (by rw[<- l];exact r m);exact sI I.kIn O (c.get m) k.at_ k.fn d h
theorem oq{y:V}{u:Value}{Q:Unit->Shared->Prop}(I:Inv X pins σ H s)(e:H a=some (.ins C dx fs))(c:Cls X.K C)(n:NoAttr X.K C f)(D:fs.length<1000)(B:RelV y u)
  (h:∀ s',Inv X pins σ (upd H a (.ins C dx (fM f y fs))) s'->Q () s'):wpAny (model X.prog X.w) A (setAttr (.ref a) f u) Q E s:=by
 obtain⟨k,O,r,j,_,i⟩:=iB I.hok e;have w:(fs.map (·.1)).length<=sizeLine:=by rw[length_map,sizeLine_eq];lia
 refine uW I.kIn O c.sa c.po n.taker c.hd j w λl d v=>h _ ?_
 have m:∃ o,l.get? dx=some o:=let ⟨o,_,_,e',_⟩:=d.ns;⟨o,e'⟩;refine I.write (x:=a) (e:=dx) (by rw[e];exact True.intro) (.inr i) (λb q hb z=>(v.2 b hb).trans z) m ?_;refine⟨by rw[ai O.ne];exact i,?_,O.ne,d.obj,_,d.ns,λg=>?_,λg hg=>?_⟩
 .have:=g8 f y fs;lia
 .show RelO ((fM f y fs).lookup g) (if g=f then some u else k g)
  rw[hX]
  by_cases q:g=f
  .rw[if_pos q,if_pos q];exact B
  .rw[if_neg q,if_neg q];exact r g
 .by_cases q:g=f
  .rw[q];exact(gN f y fs).1
  .refine(gN f y fs).2 g (j g λz=>hg ?_)
   show(if g=f then some u else k g)=none;rw[if_neg q];exact z
theorem Inv.made(I:Inv X pins σ H s):Inv X pins σ (upd (upd H s.heap.objs.size (.own (s.heap.objs.size+1))) (s.heap.objs.size+1) (.ins C s.heap.objs.size []))
  { s with heap:=(s.heap.push emptyDict).push (instObj C s.heap.objs.size) }:=by
 have d:(s.heap.push emptyDict).get? s.heap.objs.size=some emptyDict:=Heap.get?_push_size s.heap rfl
 have h:((s.heap.push emptyDict).push (instObj C s.heap.objs.size)).get? (s.heap.objs.size+1)=some (instObj C s.heap.objs.size):=by
  have:=Heap.get?_push_size (s.heap.push emptyDict) (o:=instObj C s.heap.objs.size) rfl;rwa [Heap.size_push]at this
 have f:(s.heap.push emptyDict).Ns s.heap.objs.size (λ_=>none):=⟨emptyDict,#[],_,d,rfl,(λe he=>absurd he (by simp)),λ_=>rfl⟩
 have g:=I.laid (a:=s.heap.objs.size) (o:=.own (s.heap.objs.size+1)) (h':=s.heap.push emptyDict) (t':=s.toks) (λb u q=>Heap.get?_push_of_some _ q) (Nat.le_refl _) ⟨_,d⟩;refine g.laid (a:=s.heap.objs.size+1) (o:=.ins C s.heap.objs.size []) (t':=s.toks) (λb u q=>Heap.get?_push_of_some _ q) (Nat.le_of_eq (Heap.size_push _ _)) ?_;have c:s.heap.objs.size≠s.heap.objs.size+1:=Nat.ne_of_lt (Nat.lt_succ_self _);refine⟨by rw[ai c,ad],Nat.zero_le _,c,h,λ_=>none,(Heap.Ns1.of_empty f).at λo q=>Heap.get?_push_of_some _ q,λ_=>True.intro,λy hy=>absurd rfl hy⟩
theorem uk{prog:Program}{w:World}{env:Env}{e:Expr}{f:Str}{a:Pos}{s:Shared}{Q:Value->Shared->Prop}(b:attributeBase e f env (eval e env)=eval e env)
  (h:wpAny (model prog w) A (eval e env) (λo s₁=>wpAny (model prog w) A (getAttr o f true) Q E s₁) E s):wpAny (model prog w) A (eval (.Attribute e f a) env) Q E s :=
 Attribute_any_ h (by rw[arm_eval_Attribute,b])
end
def yy(K:Frag)(ta:TE)(f:Str):TE:=λσ H Q=>ta σ H λx H1=>∃ a C dx fs v,x=.ref a/\H1 a=some (.ins C dx fs)/\Cls K C/\NoAttr K C f/\fs.lookup f=some v/\Q v H1
def yK(K:Frag)(ta tv:TE)(f:Str):TS:=λD σ H=>tv σ H λy H1=>ta σ H1 λx H2=>∃ a C dx fs,x=.ref a/\H2 a=some (.ins C dx fs)/\Cls K C/\NoAttr K C f/\fs.length<1000 /\
 D.nx σ (upd H2 a (.ins C dx (fM f y fs)))
section
variable {X:Cx}{o e value:Expr}{f:Str}{pos pos' tpos:Pos}{ta tv:TE}
theorem df(j:PE X e ta)(y:attributeBase e f X.env (eval e X.env)=eval e X.env):PE X (.Attribute e f pos) (yy X.K ta f):=by
 intro b s i H Q I h;refine uk y (thn (j b s i H _ I h) λu A ⟨x,d,o,k,a,C,E,D,v,r,w,c,n,l,q⟩=>?_);subst r;obtain rfl:u=Value.ref a:=k
 exact nw o w c n l λB F g m=>⟨v,d,g,m,q⟩
theorem jn(j:PE X o ta)(m:PE X value tv)(i:swapsWith value (some (.Attribute o f pos')) pos.line X.env=pure false):PS X (.Assign [.Attribute o f pos'] value pos) (yK X.K ta tv f):=by
 intro b s d H D I h;refine plainObj_wpAny_Assign_Attribute (thn (m b s d H _ I h) λu g ⟨y,e,k,r,q⟩=>thn (j b g d e _ k q) λov s2 ⟨x,H2,I2,rx,a,C,dx,fs,ex,ea,c,n,l,q2⟩=>?_) i;subst ex;obtain rfl:ov=Value.ref a:=rx
 exact oq I2 ea c n l r λw v=>⟨d,_,v,q2⟩
end
section
variable {X:Cx}{pins:List (Addr×Obj)}{σ:St}{H:Hp}{s:Shared}{A:Around}{E:Value->Shared->Prop}{Q:Value->Shared->Prop}{c:Value}{b:Bool}
inductive TyOf(K:Frag)(H:Hp):V->Value->Prop where
 | non:TyOf K H .non (.type "NoneType")
 | bl (x:Bool):TyOf K H (.bl x) (.type "bool")
 | int (i:Int):TyOf K H (.int i) (.type "int")
 | str (x:Str):TyOf K H (.str x) (.type "str")
 | flt (x:UInt64):TyOf K H (.flt x) (.type "float")
 | lst {a:Addr}{xs:List V}(e:H a=some (.lst xs)):TyOf K H (.ref a) (.type "list")
 | frz {a:Addr}{o:Obj}{xs:List V}(e:H a=some (.frz o (.lst xs))):TyOf K H (.ref a) (.type "list")
 | tup {a:Addr}{xs:List V}(e:H a=some (.tup xs)):TyOf K H (.ref a) (.type "tuple")
 | dK {a:Addr}{kvs:List (Key×V)}(e:H a=some (.dK kvs)):TyOf K H (.ref a) (.type "dict")
 | dT {a:Addr}{kvs:List (List Key×V)}(e:H a=some (.dT kvs)):TyOf K H (.ref a) (.type "dict")
 | ins {a C dx:Addr}{fs:List (Str×V)}(e:H a=some (.ins C dx fs)) (cl:Cls K C) (ha:findIn K (.ref C) "__class__" = some (some (.builtin "object.__class__")))
   (hn:specialIn K (.builtin "object.__class__") "__get__" = some (some (.builtin "getset_descriptor.__get__"))) (htk:takesIn K (.builtin "object.__class__")=some true)
   (hm:mroIn K C (.type "object")=some true):TyOf K H (.ref a) (.ref C)
end
structure Room(k:Nat)(A:Around):Prop where
 hd:A.handled=none
 dp:A.depth+3*k+5<recursionLimit
 un:A.units+16*k+200<cLine
theorem Room.mono{j k:Nat}{A:Around}(r:Room k A)(h:j<=k):Room j A:=⟨r.hd,by have:=r.dp;lia,by have:=r.un;lia⟩
theorem Room.deeper{k:Nat}{A:Around}(r:Room (k+1) A)(env:Env):Room k (A.deeper env) :=
 ⟨r.hd,by have:=r.dp;show A.depth+1+3*k+5<_;lia,by have:=r.un;show A.units+3+16*k+200<_;lia⟩
theorem nz{A:Around}{C:Addr}{us:List Value}{a:List (Str×Value)}:(A.under (.builtin "type.__call__" ⟨.ref C::us,a⟩)).depth=A.depth+1:=by
 first | rfl | simp[Around.under,Code.weight,Code.isCreation,Code.isGuard,Code.isCaller,Code.frames,Code.isFrame,guardIds]
theorem nE{A:Around}{C:Addr}{us:List Value}{a:List (Str×Value)}:(A.under (.builtin "type.__call__" ⟨.ref C::us,a⟩)).units=A.units+1:=by
 first | rfl | simp[Around.under,Code.cUnits,Code.frames,Code.isFrame]
theorem Room.make{k:Nat}{A:Around}(r:Room (k+1) A)(C:Addr)(us:List Value)(a:List (Str×Value)):Room k (A.under (.builtin "type.__call__" ⟨.ref C::us,a⟩)) :=
 ⟨r.hd,by have:=r.dp;rw[nz];lia,by have:=r.un;rw[nE];lia⟩
theorem Room.depth{k:Nat}{A:Around}(r:Room k A):A.depth<recursionLimit:=by have:=r.dp;lia
theorem Room.units{k:Nat}{A:Around}(r:Room k A):A.units+64<cLine:=by have:=r.un;lia
def yo:TA:=λ_ H Q=>Q [] H
def yg(ta:TE)(tr:TA):TA:=λσ H Q=>ta σ H λx H1=>tr σ H1 λxs H2=>Q (x::xs) H2
section
variable {X:Cx}{e:Expr}{es:List Expr}{te:TE}{t:TA}{pos:Pos}
theorem ae:PA X [] yo:=λ_ _ _ _ H Q I h=>Calls.spliced_nil ⟨[],H,I,.nil,h⟩
theorem aa(m:PE X e te)(k:PA X es t)(v:starEach (e::es) X.env=(false,eval e X.env)::starEach es X.env:=by rfl):PA X (e::es) (yg te t):=by
 intro b a s c H Q I h;rw[v];show wpAny _ _ (spliced ((false,eval e X.env)::backTo b (starEach es X.env))) _ _ s;refine Calls.spliced_cons (thn (m a s c H _ I h) λu i ⟨x,d,q,r,l⟩=>?_)
 exact thn (k b a i c d _ q l) λw y ⟨f,j,g,o,n⟩=>⟨x::f,j,g,.cons r o,n⟩
def yZ(t:TA):TE:=λσ H Q=>t σ H λxs H1=>xs.length<=sizeLine/\∀ p,H1 p=none->Q (.ref p) (upd H1 p (.tup xs))
def yT(t:TA):TE:=λσ H Q=>t σ H λxs H1=>xs.length<=sizeLine/\∀ p,H1 p=none->Q (.ref p) (upd H1 p (.lst xs))
theorem bP{x1}(h:PA X es t):PE X (.Tuple es x1 pos) (yZ t):=by
 intro a s l H Q I i;refine wpAny_Tuple_spliced (thn (h pos a s l H _ I i) λj c ⟨k,d,f,r,z,q⟩=>⟨by rw[<- r.length];exact z,?_⟩);have g:d c.heap.objs.size=none:=f.hok.fresh (Nat.le_refl _);refine⟨.ref c.heap.objs.size,upd d c.heap.objs.size (.tup k),f.laid (t':=c.toks) (λb u e=>Heap.get?_push_of_some _ e) (Nat.le_refl _) ?_,rfl,q _ g⟩;exact⟨z,j,r,⟨_,Heap.get?_push_size _ rfl,rfl,_,rfl⟩⟩
theorem cH(h:PA X es t):PE X (.List es pos) (yT t):=by
 intro a s l H Q I i;refine wpAny_List_spliced (thn (h pos a s l H _ I i) λj c ⟨k,d,f,r,z,q⟩=>⟨by rw[<- r.length];exact z,?_⟩);have g:d c.heap.objs.size=none:=f.hok.fresh (Nat.le_refl _);refine⟨.ref c.heap.objs.size,upd d c.heap.objs.size (.lst k),f.laid (t':=c.toks) (λb u e=>Heap.get?_push_of_some _ e) (Nat.le_refl _) ?_,rfl,q _ g⟩;exact⟨z,j,0,r,Heap.get?_push_size _ rfl⟩
end
abbrev Sp:=List V->Hp->VK->XK->Prop
abbrev CXT:=List Env->Hp->Shared->XK->Value->Shared->Prop
structure Env0(P:Program)(w:World)(K:Frag)(mg:Str->Option Value)(base:Heap)(A:Around)(outer:List Env)(s:Shared)(H:Hp):Prop where
 frames:A.frames=some outer
 mod:Mod K mg base
 bs:∀ b o,base.get? b=some o->s.heap.get? b=some o/\H b=none
 bsz:base.objs.size<=s.heap.objs.size
 funs:s.heap.FunFrames base outer
 frf:∀ b∈frs outer,H b=none
 hok:HOk P w H s.heap
 bare:AllBare s.gens
def CE(outer:List Env)(P:Program)(w:World)(H:Hp)(s:Shared)(Q:VK)(u:Value)(s':Shared):Prop :=
 ∃ v H',s'.os=s.os/\AllBare s'.gens/\Un (frs outer) [] H H' s.heap s'.heap/\HOk P w H' s'.heap/\RelV v u/\Q v H'
def CR(CX:CXT)(outer:List Env)(P:Program)(w:World)(H:Hp)(s:Shared)(Q:VK)(E:XK)(r:Result)(s':Shared):Prop :=
 match r with
 | .ok (.ret u)=>CE outer P w H s Q u s'
 | .ok _=>False
 | .error e=>CX outer H s E e s'
structure FnOk(P:Program)(w:World)(K:Frag)(mg:Str->Option Value)(base:Heap)(CX:CXT)(k:Nat)(f:Addr)(fd:FuncData)(ps:List Str)(sp:Sp):Prop where
 len:∀ vs H Q E,sp vs H Q E->vs.length=ps.length
 run:∀(A:Around) (outer:List Env) (s:Shared) (H:Hp) (args:Args) (us:List Value) (vs:List V) (Q:VK) (E:XK),Room k A->Env0 P w K mg base A outer s H->BindsTo s fd args (ps.zip us)->Vals vs us->sp vs H Q E ->
  codeAny (model P w) A (.call (.ref f) args) (CR CX outer P w H s Q E) s
theorem FnOk.mono{P:Program}{w:World}{K:Frag}{mg:Str->Option Value}{a:Heap}{CX:CXT}{j k:Nat}{f:Addr}{d:FuncData}{ps:List Str}{sp:Sp}(F:FnOk P w K mg a CX j f d ps sp)(h:j<=k) :
  FnOk P w K mg a CX k f d ps sp:=⟨F.len,λA b s H c g e Q E i=>F.run A b s H c g e Q E (i.mono h)⟩
theorem Env0.make{P:Program}{w:World}{K:Frag}{mg:Str->Option Value}{b:Heap}{A:Around}{a:List Env}{s:Shared}{H:Hp}(e:Env0 P w K mg b A a s H)(C:Addr)(us:List Value)(c:List (Str×Value)) :
  Env0 P w K mg b (A.under (.builtin "type.__call__" ⟨.ref C::us,c⟩)) a s H:=⟨by first | exact e.frames | (simpa[Around.under,Code.envs,Code.isFrame,pushEnvs] using e.frames),e.mod,e.bs,e.bsz,e.funs,e.frf,e.hok,e.bare⟩
section
variable {X:Cx}{pins:List (Addr×Obj)}{σ:St}{H:Hp}{s s':Shared}
theorem Inv.env0(I:Inv X pins σ H s):Env0 X.prog X.w X.K X.mg X.base X.A X.stack s H :=
 ⟨I.ok.frames,I.ok.mod,I.bs,Nat.le_trans I.ok.bsz I.sz,I.stack,I.stkFree,I.hok,I.bare⟩
theorem Inv.after{Q:VK}{u:Value}(I:Inv X pins σ H s)(h:CE X.stack X.prog X.w H s Q u s'):EP X pins σ Q u s':=by
 obtain⟨v,k,i,a,j,e,r,q⟩:=h;obtain⟨f,g,d,t,c⟩:=s';obtain rfl:c=s.os:=i;exact⟨v,k,I.call (h':=f) (g':=g) (d':=d) (t':=t) (ch:=[]) j e a (λb z=>absurd z (by simp)),r,q⟩
end
def yx(sp:Sp)(dvs:List V)(E:XK)(t:TA):TE:=λσ H Q=>t σ H λvs H1=>sp (vs++dvs) H1 Q E
def vg(C:Addr)(m:Str)(sp:Sp)(dvs:List V)(E:XK)(ta:TE)(t:TA):TE:=λσ H Q=>ta σ H λx H1=>∃ a dx fs,x=.ref a/\H1 a=some (.ins C dx fs)/\fs.lookup m=none /\
 t σ H1 λvs H2=>sp (x::(vs++dvs)) H2 Q E
def xq(C:Addr)(sp:Sp)(dvs:List V)(E:XK)(t:TA):TE:=λσ H Q=>t σ H λvs H1=>∀ x dx,H1 x=none->H1 dx=none->dx≠x ->
 sp (.ref x::(vs++dvs)) (upd (upd H1 dx (.own x)) x (.ins C dx [])) (λv H2=>v=.non/\Q (.ref x) H2) E
def Binds(K:Frag)(fd:FuncData)(ps:List Str)(ds:List Value):Prop :=
 ∀(s:Shared) (us:List Value),K.In s.heap->(us++ds).length=ps.length->BindsTo s fd ⟨us,[]⟩ (ps.zip (us++ds))
theorem Binds.all{K:Frag}{a:FuncData}{ps:List Str}(h:∀ us:List Value,us.length=ps.length->bindArgs a ⟨us,[]⟩=pure (ps.zip us)):Binds K a ps []:=λs us _ b=>by
 rw[append_nil]at b ⊢;exact .of_eq (h us b)
def gi(CX:CXT)(X:Cx)(E:XK):Prop:=∀(pins:List (Addr×Obj)) (σ:St) (H:Hp) (s:Shared) (e:Value) (s':Shared),Inv X pins σ H s->CX X.stack H s E e s'->X.xe e s'
section
variable {X:Cx}{CX:CXT}{k:Nat}{f C:Addr}{fd:FuncData}{ps:List Str}{sp:Sp}{dvs:List V}{ds:List Value}{E:XK}{x m:Str}{p pos apos:Pos}{e o:Expr}{es:List Expr}{ta:TE}{t:TA}
theorem nF{a:List (Addr×Obj)}{c:St}{H:Hp}{s:Shared}{Q:VK}{us:List Value}{vs:List V}(F:FnOk X.prog X.w X.K X.mg X.base CX k f fd ps sp)(j:Room k X.A)(n:Binds X.K fd ps ds)(g:Vals dvs ds)(i:gi CX X E)
  (I:Inv X a c H s) (r:Vals vs us) (h:sp (vs++dvs) H Q E):wpAny (model X.prog X.w) X.A (call (.ref f) us) (EP X a c Q) X.xe s:=by
 have d:Vals (vs++dvs) (us++ds):=r.append g;have l:(us++ds).length=ps.length:=by rw[<- d.length];exact F.len _ _ _ _ h
 refine wpAny_call (codeAny_mono (F.run X.A X.stack s H ⟨us,[]⟩ (us++ds) (vs++dvs) Q E j I.env0 (n s us I.kIn l) d h) λr m b=>?_);cases r with
 | error e=>exact i a c H s e m I b
 | ok fl =>
  cases fl with
  | ret u=>exact I.after b
  | next=>exact False.elim b
  | brk=>exact False.elim b
  | cont=>exact False.elim b
theorem aq(F:FnOk X.prog X.w X.K X.mg X.base CX k f fd ps sp)(n:Room k X.A)(v:Gl X x)(j:X.mg x=some (.ref f))(u:keepIn X.K (.ref f)=true)(w:Binds X.K fd ps ds)(g:Vals dvs ds)(m:gi CX X E)
  (o:PA X (e::es) t) (b:(x == ("__debug__" : Str))=false:=by decide) (l:starEach (e::es) X.env=(false,eval e X.env)::starEach es X.env:=by rfl) (c:(backTo pos (starEach es X.env)).any (·.1)=false:=by rfl) :
  PE X (.Call (.Name x p) (e::es) [] pos) (yx sp dvs E t):=by
 intro a s i H Q I h;refine wpAny_Call_Name_kw (iI I v j ?_ b);refine callWith_K (h₀:=X.base) I.ok.mod.kin u (thn (o pos a s i H _ I h) λB C ⟨A,y,d,r,q⟩=>⟨d.kIn,?_⟩) l c;exact nF F n w g m d r q
theorem cV{pl:Sem Bool}(M:PE X o ta)(c:Cls X.K C)(v:Meth X.K C m f)(F:FnOk X.prog X.w X.K X.mg X.base CX k f fd ps sp)(G:Room k X.A)(B:Binds X.K fd ps ds)(K:Vals dvs ds)(O:gi CX X E)(P:PA X (e::es) t)
  (d:starEach (e::es) X.env=(false,eval e X.env)::starEach es X.env:=by rfl) (g:(backTo pos (starEach es X.env)).any (·.1)=false:=by rfl)
  (N:eval (.Call (.Attribute o m apos) (e::es) [] pos) X.env=(do
   let ov <- eval o X.env
   standAt apos.atName
   let (f,first) <- holding [ov] (getMethod ov m pl)
   callWith pos f first (backTo pos (starEach (e::es) X.env)) (backToKw pos (keywordEach [] X.env))):=by rfl) :
  PE X (.Call (.Attribute o m apos) (e::es) [] pos) (vg C m sp dvs E ta t):=by
 intro b s n H Q I h;refine methodCall_KW (pl:=pl) (thn (M b s n H _ I h) λu L ⟨x,D,i,A,a,T,R,y,J,l,q⟩=>?_) N;subst y;obtain rfl:u=Value.ref a:=A;refine jk i J c v l ?_;refine callWith_K (first:=[.ref a]) (h₀:=X.base) I.ok.mod.kin v.kp (thn (P pos b L n D _ i q) λus U ⟨vs,S,j,r,w⟩=>⟨j.kIn,?_⟩) d g;exact nF (us:=.ref a::us) (vs:=.ref a::vs) F G B K O j (.cons rfl r) w
theorem dA{pl:Sem Bool}(j:PE X o ta)(c:Cls X.K C)(e:Meth X.K C m f)(F:FnOk X.prog X.w X.K X.mg X.base CX k f fd ps sp)(v:Room k X.A)(B:Binds X.K fd ps ds)(g:Vals dvs ds)(r:gi CX X E)
  (n:eval (.Call (.Attribute o m apos) [] [] pos) X.env=(do
   let ov <- eval o X.env
   standAt apos.atName
   let (f,first) <- holding [ov] (getMethod ov m pl)
   callWith pos f first (backTo pos (starEach [] X.env)) (backToKw pos (keywordEach [] X.env))):=by rfl) :
  PE X (.Call (.Attribute o m apos) [] [] pos) (vg C m sp dvs E ta yo):=by
 intro b s i H Q I h;refine methodCall_KW (pl:=pl) (thn (j b s i H _ I h) λu G ⟨x,D,d,w,a,K,J,y,A,l,q⟩=>?_) n;subst y;obtain rfl:u=Value.ref a:=w;refine jk d A c e l ?_;exact PySem.W.callWith_K0 (first:=[.ref a]) d.kIn e.kp (nF (us:=[.ref a]) (vs:=[.ref a]) F v B g r d (.cons rfl .nil) q)
structure Mk(K:Frag)(C f:Addr):Prop where
 makes:makesIn K C=true
 init:findIn K (.ref C) "__init__" = some (some (.ref f))
 fn:isFn K (.ref f)=true
 kp:keepIn K (.ref C)=true
theorem qR{b:List (Addr×Obj)}{d:St}{H:Hp}{s:Shared}{Q:VK}{us:List Value}{vs:List V}(M:Mk X.K C f)(F:FnOk X.prog X.w X.K X.mg X.base CX k f fd ps sp)(q:Room (k+1) X.A)(D:Binds X.K fd ps ds)(j:Vals dvs ds)
  (n:gi CX X E) (I:Inv X b d H s) (r:Vals vs us)
  (h:∀ x dx,H x=none->H dx=none->dx≠x->sp (.ref x::(vs++dvs)) (upd (upd H dx (.own x)) x (.ins C dx [])) (λv H2=>v=.non/\Q (.ref x) H2) E) :
  wpAny (model X.prog X.w) X.A (call (.ref C) us) (EP X b d Q) X.xe s:=by
 have g:=h (s.heap.objs.size+1) s.heap.objs.size (I.hok.fresh (Nat.le_succ _)) (I.hok.fresh (Nat.le_refl _)) (Nat.ne_of_lt (Nat.lt_succ_self _));have c:=Inv.made (C:=C) I;have i:Vals (V.ref (s.heap.objs.size+1)::(vs++dvs)) (Value.ref (s.heap.objs.size+1)::(us++ds)):=.cons rfl (r.append j)
 have w:(Value.ref (s.heap.objs.size+1)::us++ds).length=ps.length:=by
  have e:=i.length;rw[F.len _ _ _ _ g]at e;exact e.symm
 refine wpAny_call (rL (f:=f) I.kIn M.makes M.init (beq_iff_eq.mp M.fn) (codeAny_mono (F.run _ X.stack _ _ ⟨Value.ref (s.heap.objs.size+1)::us,[]⟩ (Value.ref (s.heap.objs.size+1)::(us++ds)) _ _ E (q.make C us [])
  (c.env0.make C us []) (D _ (Value.ref (s.heap.objs.size+1)::us) c.kIn w) i g) λr B a=>?_))
 cases r with
 | error e=>exact n b d _ _ e B c a
 | ok fl =>
  cases fl with
  | ret u =>
   obtain⟨v,A,y,o,m,l⟩:=c.after a;subst m;exact⟨o,⟨V.ref (s.heap.objs.size+1),A,y,rfl,l⟩⟩
  | next=>exact False.elim a
  | brk=>exact False.elim a
  | cont=>exact False.elim a
theorem cU(M:Mk X.K C f)(F:FnOk X.prog X.w X.K X.mg X.base CX k f fd ps sp)(n:Room (k+1) X.A)(u:Gl X x)(j:X.mg x=some (.ref C))(v:Binds X.K fd ps ds)(g:Vals dvs ds)(m:gi CX X E)
  (o:PA X (e::es) t) (b:(x == ("__debug__" : Str))=false:=by decide) (l:starEach (e::es) X.env=(false,eval e X.env)::starEach es X.env:=by rfl) (c:(backTo pos (starEach es X.env)).any (·.1)=false:=by rfl) :
  PE X (.Call (.Name x p) (e::es) [] pos) (xq C sp dvs E t):=by
 intro a s i H Q I h;refine wpAny_Call_Name_kw (iI I u j ?_ b);refine callWith_K (h₀:=X.base) I.ok.mod.kin M.kp (thn (o pos a s i H _ I h) λA B ⟨y,w,d,r,q⟩=>⟨d.kIn,?_⟩) l c;exact qR M F n v g m d r q
end
section
variable {X:Cx}{CX:CXT}{k:Nat}{f C:Addr}{fd:FuncData}{ps ks:List Str}{sp:Sp}{E:XK}{x m:Str}{p pos apos kpos:Pos}{e o:Expr}{es:List Expr}{kws:List Keyword}{te ta:TE}{t tk:TA}{nm:Option Str}
variable {g:List Value->List Value->List Value}{gV:List V->List V->List V}
end
structure FnScope(N P:List Str)(sc:Scope):Prop where
 kind:sc.kind=.function
 co:sc.isCoroutine=false
 gen:sc.isGenerator=false
 nd:N.Nodup
 pre:N.take P.length=P
 par:∀ x ∈ P,sc.names.lookup x = some .local\/sc.names.lookup x = some .cell
 nofree:∀ y∈sc.names,y.2≠.free
theorem j6{a:Str->Option NameKind}{x:Str}:∀{binds:List (Str×Value)}{m:Str->Option Value},(∀ v,(x,v) ∉ binds)->bindL a binds m x=m x
 | [],_,_=>rfl
 | (n,v)::r,m,h=>by
  unfold bindL;rw[j6 λw b=>h w (mem_cons_of_mem _ b)]
  split
  .have:x≠n:=by rintro rfl;exact h v mem_cons_self
   simp[this]
  .rfl
theorem j8{a:Str->Option NameKind}{x:Str}:∀{binds:List (Str×Value)}{m:Str->Option Value},(∀ v,(x,v) ∉ binds)->bindC a binds m x=m x
 | [],_,_=>rfl
 | (n,v)::r,m,h=>by
  unfold bindC;rw[j8 λw b=>h w (mem_cons_of_mem _ b)]
  split
  .rfl
  .have:x≠n:=by rintro rfl;exact h v mem_cons_self
   simp[this]
theorem ka{a:Str->Option NameKind}{x:Str}{v:Value}:∀{P:List Str}{vs:List Value}{i:Nat}{m:Str->Option Value},P.Nodup->P[i]? = some x->vs[i]? = some v->a x = some .local ->
  bindL a (P.zip vs) m x=some v
 | [],_,_,_,_,h,_,_=>by simp at h
 | _::_,[],_,_,_,_,h,_=>by simp at h
 | p::P,w::vs,0,m,nd,h1,h2,hk=>by
  simp at h1 h2;subst h1;subst h2;show bindL a ((p,w)::P.zip vs) m p=_;unfold bindL;rw[j6 λv b=>(nodup_cons.mp nd).1 (of_mem_zip b).1,if_pos hk];simp
 | p::P,w::vs,i+1,m,nd,h1,h2,hk=>by
  show bindL a ((p,w)::P.zip vs) m x=_;unfold bindL;exact ka (i:=i) (nodup_cons.mp nd).2 (by simpa using h1) (by simpa using h2) hk
theorem jK{a:Str->Option NameKind}{x:Str}{v:Value}:∀{P:List Str}{vs:List Value}{i:Nat}{m:Str->Option Value},P.Nodup->P[i]? = some x->vs[i]? = some v->a x≠some .local ->
  bindC a (P.zip vs) m x=some v
 | [],_,_,_,_,h,_,_=>by simp at h
 | _::_,[],_,_,_,_,h,_=>by simp at h
 | p::P,w::vs,0,m,nd,h1,h2,hk=>by
  simp at h1 h2;subst h1;subst h2;show bindC a ((p,w)::P.zip vs) m p=_;unfold bindC;rw[j8 λv b=>(nodup_cons.mp nd).1 (of_mem_zip b).1,if_neg hk];simp
 | p::P,w::vs,i+1,m,nd,h1,h2,hk=>by
  show bindC a ((p,w)::P.zip vs) m x=_;unfold bindC;exact jK (i:=i) (nodup_cons.mp nd).2 (by simpa using h1) (by simpa using h2) hk
def start(N:List Str)(vs:List V):St:=vs.map some++List.replicate (N.length - vs.length) none
def eG(CX:CXT)(P:Program)(w:World)(K:Frag)(mg:Str->Option Value)(base:Heap)(N:List Str)(qual:Str)(scope:Scope)(f:Addr)(cd:Value)(A:Around)(outer:List Env)(s:Shared)(H:Hp)(E:XK):Cx where
 prog:=P
 w:=w
 K:=K
 mg:=mg
 base:=base
 A:=A.deeper (envOfC qual scope s.heap.objs.size f cd)
 N:=N
 s₀:=s
 H₀:=H
 env:=envOfC qual scope s.heap.objs.size f cd
 outer:=outer
 stack:=envOfC qual scope s.heap.objs.size f cd::outer
 ex:=[]
 calm:=true
 fn:=λ_=>true
 pn:=[]
 xe:=λe s'=>wpAny (model P w) (A.deeper (envOfC qual scope s.heap.objs.size f cd)) (leaving (envOfC qual scope s.heap.objs.size f cd) e) (λ_ s''=>CX outer H s E e s'') (λe' s''=>CX outer H s E e' s'') s'
theorem mj{a:Scope}{n:Nat}{x:Str}(h:a.names.lookup x=some .cell):∃ c,(cellsFrom n a.names []).lookup x=some c:=by
 have q:=cellsFrom_some a.names n [] (.inl h);exact Option.isSome_iff_exists.mp q
theorem j7{CX:CXT}{P:Program}{w:World}{K:Frag}{mg:Str->Option Value}{l:Heap}{N ps:List Str}{g:Str}{scope:Scope}{f:Addr}{D:Value}{A:Around}{d:List Env}{s L:Shared}{H:Hp}{E:XK}{us:List Value}{vs:List V}
  (S:FnScope N ps scope) (Q:A.handled=none) (m:Env0 P w K mg l A d s H) (W:vs.length=ps.length) (r:Vals vs us)
  (x:InCallC s s.heap.objs.size (bindL (envOfC g scope s.heap.objs.size f D).kindOf (ps.zip us) λ_=>none) (cellsFrom (s.heap.objs.size+1) scope.names []) (bindC (envOfC g scope s.heap.objs.size f D).kindOf (ps.zip us) λ_=>none) L) :
  Inv (eG CX P w K mg l N g scope f D A d s H E) [] (start N vs) H L:=by
 have O:ps.length<=N.length:=by have:=congrArg List.length S.pre;rw[length_take]at this;lia
 obtain⟨G,T,rfl,I⟩:=x.done;have o:∀ b:Addr,b ∉ (eG CX P w K mg l N g scope f D A d s H E).ex:=λb z=>absurd (show b∈([]:List Addr) from z) (by simp)
 refine⟨⟨m.mod,S.kind,rfl,rfl,Nat.le_refl _,λy z c G j=>?_,λy hy=>?_,λy c _ h=>?_,λ_=>Q,Around.frames_deeper m.frames,.inr ⟨rfl,rfl⟩,λb z=>absurd z (o b),m.bs,m.bsz,λb _ _=>o b,λb z=>absurd z (o b),m.funs,m.frf⟩,
  rfl,m.bare,Un.kept I,⟨_,x.toInCall.ns,λi y v G j U=>?_⟩,λy c h=>⟨_,x.cell y c h⟩,m.hok.fresh (Nat.le_refl _),λy c h=>?_,λp B=>absurd (show p∈([]:List (Addr×Obj)) from B) (by simp),m.hok.kept I,?_⟩
 .exact name_of_addr x.apart (PySem.mem_of_lookup G) (PySem.mem_of_lookup j)
 .have hy:scope.names.lookup y=some .cell\/scope.names.lookup y=some .free:=hy
  rcases hy with hy | hy
  .exact mj hy
  .exact absurd rfl (S.nofree _ (PySem.mem_of_lookup hy))
 .exact Nat.le_of_lt (x.above y c (PySem.mem_of_lookup h))
 .have F:i<vs.length:=by
   unfold start at j
   by_cases F:i<vs.length
   .exact F
   .rw[List.getElem?_append_right (by simpa using F)]at j
    rw[List.getElem?_replicate]at j
    split at j <;> cases j
  have R:vs[i]? = some v:=by
   unfold start at j;rw[List.getElem?_append_left (by simpa using F),List.getElem?_map]at j;cases e:vs[i]? with
   | none=>rw[e]at j;cases j
   | some a=>rw[e]at j;cases j;rfl
  obtain⟨u,J,M⟩:=r.get R
  have B:ps[i]? = some y:=by
   rw[<- S.pre,List.getElem?_take_of_lt (by lia)];exact G
  have C:ps.Nodup:=by rw[<- S.pre];exact S.nd.sublist (List.take_sublist _ _)
  refine⟨u,M,?_⟩
  rcases S.par y (List.mem_of_getElem? B) with k | k
  .exact .inl ⟨k,ka C B J k⟩
  .obtain⟨c,e⟩:=mj (n:=s.heap.objs.size+1) k
   refine .inr ⟨.inl k,c,e,?_⟩;have q:=x.cell y c e;rw[jK C B J (by show scope.names.lookup y≠_;rw[k];decide)]at q;exact q
 .exact m.hok.fresh (Nat.le_of_lt (x.above y c (PySem.mem_of_lookup h)))
 .unfold start
  show _=N.length;rw[length_append,length_map,List.length_replicate];lia
theorem xt{CX:CXT}{P:Program}{w:World}{K:Frag}{mg:Str->Option Value}{d:Heap}{k:Nat}{f:Addr}{name a:Str}{g:Arguments}{body:List Stmt}{scope:Scope}{dV X m Z c Y oc:Value}{U od:Option Addr}
  {O:Array (Option Value)}{N ps:List Str}{sp:Sp}(lk:K.lookup f=some ⟨oc,od,.func (fnOf name a g body scope dV X m Z U c Y),O⟩) (M:codeIn K c a=true) (S:FnScope N ps scope)
  (D:∀ vs H Q E,sp vs H Q E->vs.length=ps.length)
  (j:∀(A:Around) (outer:List Env) (s:Shared) (H:Hp) (vs:List V) (Q:VK) (E:XK),Room k (A.deeper (envOfC a scope s.heap.objs.size f c))->sp vs H Q E ->
   ∃ t,PSs (eG CX P w K mg d N a scope f c A outer s H E) body t/\t { nx:=λ_ H'=>Q .non H',rt:=Q } (start N vs) H) :
  FnOk P w K mg d CX (k+1) f (fnOf name a g body scope dV X m Z U c Y) ps sp:=by
 refine⟨D,λA outer s H ab us vs Q E T F hb r C=>?_⟩;have hl:=D _ _ _ _ C;have W:K.In s.heap:=F.mod.kin.keeps λb o e=>(F.bs b o e).1
 have R:s.heap.NoLimit:=F.mod.nolimit.keeps λb o e=>(F.bs b o e).1
 have i:∀ y ∈ ps.zip us,scope.names.lookup y.1 = some .local\/(scope.names.lookup y.1 = some .cell/\((cellsFrom (s.heap.objs.size + 1) scope.names []).lookup y.1).isSome = true):=λ⟨n,v⟩ hy=>by
  rcases S.par n (of_mem_zip hy).1 with q | q
  .exact .inl q
  .exact .inr ⟨q,cellsFrom_some _ _ _ (.inl q)⟩
 refine codeAny_call_function T.depth (W _ _ lk) rfl S.co S.gen rfl (codeRec_of W M) (hb _ _ _ _ ?_);refine wpAny_newFunctionEnv_cells S.kind i λah he s1 x=>?_
 subst he;refine⟨R.keeps x.toInCall.keep,codeAny_func ?_⟩;obtain⟨t,ht,hq⟩:=j A outer s H vs Q E (T.deeper _) C;have I:Inv (eG CX P w K mg d N a scope f c A outer s H E) [] (start N vs) H s1:=j7 S T.hd F hl r x;refine wpAny_mono (ht [] s1 (start N vs) H _ I hq) (λfl L l=>?_) λe L l=>l
 have B:∀{h:St}{H':Hp}{v:V}{u:Value},Inv (eG CX P w K mg d N a scope f c A outer s H E) [] h H' L->RelV v u->Q v H'->CE outer P w H s Q u L :=
  λ{h H' v u} J G q=>⟨v,H',J.os,J.bare,J.base,J.hok,G,q⟩
 cases fl with
 | ret u =>
  obtain⟨v,h,H',J,G,q⟩:=l;exact B J G q
 | next =>
  obtain⟨h,H',J,q⟩:=l;exact B (v:=V.non) (u:=Value.none) J rfl q
 | brk =>
  obtain⟨_,_,_,q⟩:=l;exact False.elim q
 | cont =>
  obtain⟨_,_,_,q⟩:=l;exact False.elim q
section
variable {X:Cx}{x:Str}{p pos:Pos}{e:Expr}{es:List Expr}{t:TA}{id T:String}{r:List V->Hp->VK->Prop}
def tCB(r:List V->Hp->VK->Prop)(t:TA):TE:=λσ H Q=>t σ H λvs H1=>r vs H1 Q
theorem ar(j:CallR X (.builtin id) r)(y:Gl X x)(l:X.mg x=none)(w:bootBuiltins x=some (.builtin id))(o:PA X (e::es) t)(q:x ≠ "__name__" := by decide)(b:(x == ("__debug__" : Str))=false:=by decide)
  (m:starEach (e::es) X.env=(false,eval e X.env)::starEach es X.env:=by rfl) (c:(backTo pos (starEach es X.env)).any (·.1)=false:=by rfl):PE X (.Call (.Name x p) (e::es) [] pos) (tCB r t):=by
 intro a s d H Q I h;refine wpAny_Call_Name_kw (fA I y l w ?_ q b);exact PyProof.Rows.callWith_builtin1 (thn (o pos a s d H _ I h) λi k ⟨g,f,u,v,n⟩=>j a k d f g i Q u v n) m c
theorem cf(j:CallR X (.type T) r)(y:Gl X x)(l:X.mg x=none)(w:bootBuiltins x=some (.type T))(o:PA X (e::es) t)(q:x ≠ "__name__" := by decide)(b:(x == ("__debug__" : Str))=false:=by decide)
  (m:starEach (e::es) X.env=(false,eval e X.env)::starEach es X.env:=by rfl) (c:(backTo pos (starEach es X.env)).any (·.1)=false:=by rfl):PE X (.Call (.Name x p) (e::es) [] pos) (tCB r t):=by
 intro a s d H Q I h;refine wpAny_Call_Name_kw (fA I y l w ?_ q b);exact PyProof.Rows.callWith_type1 (thn (o pos a s d H _ I h) λi k ⟨g,f,u,v,n⟩=>j a k d f g i Q u v n) m c
end
end L2
namespace HT
open PySem PyProof.Rows
section
open PySem.SeqAt
open PySem.AutoSeq1 (wpAny_loadPart')
open PySem.MeetsSeq PySem.MeetsSeq2 PySem.MeetsSeq3
end
section
variable {prog:Program}{w:World}{A:Around}{E:Value->Shared->Prop}{s:Shared}
def sIx(n d:Nat):Option Int->Nat
 | none=>d
 | some v=>if v<0 then (v+(n:Int)).toNat else min v.toNat n
theorem sIx_none(n d:Nat):sIx n d none=d:=rfl
theorem sIx_nat(n d k:Nat):sIx n d (some (k:Int))=min k n:=by
 show(if (k:Int)<0 then ((k:Int)+(n:Int)).toNat else min (k:Int).toNat n)=min k n;rw[if_neg (by lia),Int.toNat_natCast]
theorem sIx_le(n d:Nat)(a:d<=n)(o:Option Int):sIx n d o<=n:=by
 cases o with
 | none=>exact a
 | some v =>
  show(if v<0 then (v+(n:Int)).toNat else min v.toNat n)<=n
  by_cases hv:v<0
  .rw[if_pos hv];lia
  .rw[if_neg hv];exact Nat.min_le_right _ _
theorem o6(v:Int)(n d:Nat):(if v<0 then max (v+(n:Int)) 0 else min v (n:Int))=((sIx n d (some v):Nat):Int):=by
 show(if v<0 then max (v+(n:Int)) 0 else min v (n:Int))=(((if v<0 then (v+(n:Int)).toNat else min v.toNat n):Nat):Int)
 by_cases hv:v<0
 .simp only[if_pos hv];lia
 .simp only[if_neg hv];lia
theorem oo(lo a:Option Int)(n:Nat):Builtin.Slice.sliceAdjust lo a 1 (n:Int)=(((sIx n 0 lo:Nat):Int),((sIx n n a:Nat):Int)):=by
 have b:¬((1:Int)<0):=by lia
 unfold Builtin.Slice.sliceAdjust;simp only[b,if_false];refine Prod.ext ?_ ?_
 .cases lo with
  | none=>rfl
  | some v=>exact o6 v n 0
 .cases a with
  | none=>rfl
  | some v=>exact o6 v n n
theorem oh(i j:Nat):Builtin.Slice.slicePlaces (i:Int) (j:Int) 1=j - i:=by
 unfold Builtin.Slice.slicePlaces;have a:(1:Int) > 0:=by lia
 simp only[a,if_true,Int.ediv_one]
 split <;> lia
theorem jf{v:Value}{o:Option Int}{Q:Option Int->Shared->Prop}(p:IsPart v o)(h:Q o s):wpAny (model prog w) A (Builtin.Slice.slicePartIndex v) Q E s:=by
 cases p with
 | none=>exact slicePart_none h
 | int i t=>exact slicePart_int h
theorem gH{f:Addr}{e d:Value}{lo c:Option Int}{n:Nat}{Q:Int×Int×Nat->Shared->Prop}(j:s.heap.IsSliceOf f e d .none)(pl:IsPart e lo)(g:IsPart d c)
  (h:Q (((sIx n 0 lo:Nat):Int),1,sIx n n c - sIx n 0 lo) s):wpAny (model prog w) A (Builtin.Slice.sliceApplied (.ref f) (pure (n:Int))) Q E s:=by
 obtain⟨k,a,i,b⟩:=id j;unfold Builtin.Slice.sliceApplied Builtin.Slice.sliceFields;refine wpAny_bind (wpAny_bind (wpAny_field a b (x:=e) rfl (wpAny_bind (wpAny_field a b (x:=d) rfl (wpAny_bind (wpAny_field a b (x:=.none) rfl (wpAny_pure ?_)))))));refine wpAny_bind (slicePart_none ?_);show wpAny _ _ (if ((1:Int) == 0)=true then _ else _) _ _ s;rw[if_neg (by decide)];refine wpAny_bind (jf pl (wpAny_bind (jf g (wpAny_bind (wpAny_pure ?_)))));show wpAny _ _ (match Builtin.Slice.sliceAdjust lo c 1 (n:Int) with | (lo,c)=>pure (lo,(1:Int),Builtin.Slice.slicePlaces lo c 1)) _ _ s;rw[oo lo c n];show wpAny _ _ (pure (((sIx n 0 lo:Nat):Int),(1:Int),Builtin.Slice.slicePlaces ((sIx n 0 lo:Nat):Int) ((sIx n n c:Nat):Int) 1)) _ _ s;rw[oh];exact wpAny_pure h
theorem rT(xs:Array Value)(i k:Nat):((List.range k).filterMap λ(m:Nat)=>xs[((i:Int)+(m:Int)*1).toNat]?).toArray=((xs.toList.drop i).take k).toArray:=by
 have e:(λ(m:Nat)=>xs[((i:Int)+(m:Int)*1).toNat]?)=λm=>xs[i+m]?:=by
  funext m
  have:((i:Int)+(m:Int)*1).toNat=i+m:=by lia
  rw[this]
 rw[e];have:=pick_run xs i k;rw[List.filterMap_map]at this;have a:((λx=>xs[x]?) ∘ λx=>i+x)=λm=>xs[i+m]?:=rfl
 rw[a]at this;rw[this]
theorem getItem_tuple_cut{t g:Addr}{items:Array Value}{k j:Value}{lo b:Option Int}{Q:Value->Shared->Prop}(c:IsTup s.heap t items)(l:s.heap.IsSliceOf g k j .none)(pl:IsPart k lo)(n:IsPart j b)
  (u:¬(sIx items.size 0 lo=0/\sIx items.size items.size b=items.size))
  (h:Q (.ref s.heap.objs.size) { s with heap:=s.heap.push { cls:=.type "tuple",data:=.seq ((items.toList.drop (sIx items.size 0 lo)).take (sIx items.size items.size b - sIx items.size 0 lo)).toArray } })
  (hsz:items.size<=sizeLine):wpAny (model prog w) A (getItem (.ref t) (.ref g)) Q E s:=by
 have a:sizeOk (.seq ((items.toList.drop (sIx items.size 0 lo)).take (sIx items.size items.size b - sIx items.size 0 lo)).toArray):=by
  show((items.toList.drop (sIx items.size 0 lo)).take (sIx items.size items.size b - sIx items.size 0 lo)).toArray.size<=sizeLine;rw[size_toArray,length_take,length_drop,Array.length_toList];lia
 have v:sIx items.size items.size b<=items.size:=sIx_le _ _ (Nat.le_refl _) b;obtain⟨o,f,i,r⟩:=id l;have e:s.TypeIs (.ref g) "slice" := ⟨o,f,i⟩;unfold getItem
 try with_reducible refine wpAny_holding ?_
 first | refine wpAny_bind (wpAny_pure ?_) | skip
 refine wpAny_bind (wpAny_sequenceKey c.typeIs (by decide) ?_)
 refine wpAny_bind (wpAny_callSpecial?_slot (name:=Str.ofString "__getitem__") c.typeIs PyProof.Rows.slot_tuple_getitem
  (wpAny_call_entry PyProof.Rows.slot_tuple_getitem c.typeIs entry_tuple_getitem ?_ (args_tuple_getitem _ _)))
 show wpAny _ _ (Builtin.Tuple.tupleItemsOf (.ref t) >>= _) _ _ s;refine wpAny_bind (tupleItemsOf_ c ?_);refine wpAny_bind (wpAny_typeOf e ?_);rw[if_pos (by decide)];refine wpAny_bind (gH l pl n ?_)
 have d:¬((((sIx items.size 0 lo:Nat):Int) == 0 && (1:Int) == 1 && (sIx items.size items.size b - sIx items.size 0 lo) == items.size)=true):=by
  intro q;rw[Bool.and_eq_true,Bool.and_eq_true]at q;have x:((sIx items.size 0 lo:Nat):Int)=0:=eq_of_beq q.1.1;have y:sIx items.size items.size b - sIx items.size 0 lo=items.size:=eq_of_beq q.2;exact u ⟨by lia,by lia⟩
 show wpAny _ _ (if (((sIx items.size 0 lo:Nat):Int) == 0 && (1:Int) == 1 && (sIx items.size items.size b - sIx items.size 0 lo) == items.size)=true then _ else _) _ _ s;rw[if_neg d,rT]
 first
  | exact wpAny_bind (m:=Builtin.Tuple.tupleExact _) (wpAny_newObj_type (wpAny_pure ⟨_,rfl,wpAny_pure h⟩) a)
  | exact wpAny_bind (m:=Builtin.Tuple.tupleExact _) (wpAny_newObj_type (wpAny_bind (wpAny_pure (wpAny_pure ⟨_,rfl,wpAny_pure h⟩))) a)
  | exact wpAny_bind (wpAny_bind (m:=Builtin.Tuple.tupleExact _) (wpAny_newObj_type (wpAny_pure (wpAny_pure ⟨_,rfl,wpAny_pure h⟩)) a))
  | exact wpAny_bind (wpAny_bind (m:=Builtin.Tuple.tupleExact _) (wpAny_newObj_type (wpAny_pure ⟨_,rfl,wpAny_pure h⟩) a))
end
end HT
namespace L2
open PySem PySem.Spec PyProof.Rows
abbrev TO:=St->Hp->(Option Int->Hp->Prop)->Prop
def PO(X:Cx)(e:Option Expr)(t:TO):Prop :=
 ∀(pins:List (Addr×Obj)) (s:Shared) (σ:St) (H:Hp) (Q:Option Int->Hp->Prop),Inv X pins σ H s->t σ H Q ->
  wpAny (model X.prog X.w) X.A (evalPart e X.env) (λu s'=>∃ o H',Inv X pins σ H' s'/\IsPart u o/\Q o H') X.xe s
def uB:TO:=λ_ H Q=>Q none H
def xh(t:TE):TO:=λσ H Q=>t σ H λx H1=>∃ i,x=.int i/\Q (some i) H1
section
variable {X:Cx}{e:Expr}{te:TE}{lo hi:Option Expr}{tl th:TO}{pos p2:Pos}
theorem iy:PO X none uB:=by
 intro a s b H Q I h;rw[evalPart_none];exact wpAny_pure ⟨none,H,I,.none,h⟩
theorem fG(h:PE X e te):PO X (some e) (xh te):=by
 intro a s c H Q I j;rw[evalPart_some];refine thn (h a s c H _ I j) λu k ⟨x,b,f,g,d⟩=>?_
 obtain⟨i,rfl,q⟩:=d;obtain⟨t,rfl⟩:=g;exact⟨some i,b,f,.int i t,q⟩
def SlR(X:Cx)(r:V->Option Int->Option Int->Hp->VK->Prop):Prop :=
 ∀(pins:List (Addr×Obj)) (s:Shared) (σ:St) (H:Hp) (x:V) (v vl vu:Value) (lo hi:Option Int) (sl:Addr) (Q:VK),Inv X pins σ H s->RelV x v->s.heap.IsSliceOf sl vl vu .none->IsPart vl lo->IsPart vu hi->r x lo hi H Q ->
  ∃ T id,typeLookup (.type T) "__getitem__" = pure (some (.builtin id))/\s.TypeIs v T/\wpAny (model X.prog X.w) X.A (getItem v (.ref sl)) (EP X pins σ Q) X.xe s
theorem SlR.or{r i:V->Option Int->Option Int->Hp->VK->Prop}(h:SlR X r)(h':SlR X i):SlR X (λx lo hi H Q=>r x lo hi H Q\/i x lo hi H Q):=by
 intro a s b H x v f c lo hi j Q I d k g e q
 rcases q with q | q
 .exact h a s b H x v f c lo hi j Q I d k g e q
 .exact h' a s b H x v f c lo hi j Q I d k g e q
def tSl(r:V->Option Int->Option Int->Hp->VK->Prop)(te:TE)(tl th:TO):TE:=λσ H Q=>te σ H λx H1=>tl σ H1 λl H2=>th σ H2 λu H3=>r x l u H3 Q
theorem gk{r:V->Option Int->Option Int->Hp->VK->Prop}(A:SlR X r)(E:PE X e te)(J:PO X lo tl)(B:PO X hi th):PE X (.Subscript e (.Slice lo hi none p2) pos) (tSl r te tl th):=by
 intro a s c H Q I h;refine Subscript_ (thn (E a s c H _ I h) λv D ⟨x,y,j,k,g⟩=>?_);refine wpAny_Slice (thn (J a D c y _ j g) λd C ⟨l,w,o,G,i⟩=>thn (B a C c w _ o i) λvu s3 ⟨u,H3,I3,pu,q3⟩=>?_);rw[evalPart_none];refine wpAny_pure ?_;have f:Inv X a c H3 { s3 with heap:=s3.heap.push { cls:=.type "slice",data:=.fields #[d,vu,.none] } }:=I3.kept (t':=s3.toks) λb L q=>Heap.get?_push_of_some _ q
 obtain⟨T,K,n,F,m⟩:=A a { s3 with heap:=s3.heap.push { cls:=.type "slice",data:=.fields #[d,vu,.none] } } c H3 x v d vu l u s3.heap.objs.size Q f k (Heap.IsSliceOf.new ..) G pu q3;show wpAny (model X.prog X.w) X.A (subscriptTail e (.Slice lo hi none p2) v (.ref s3.heap.objs.size)) (EP X a c Q) X.xe { s3 with heap:=s3.heap.push { cls:=.type "slice",data:=.fields #[d,vu,.none] } };exact tail_any (ops:=[.ref s3.heap.objs.size,v]) F n m (by with_unfolding_all rfl)
def dN(xs:List V)(lo hi:Option Int):List V:=(xs.drop (HT.sIx xs.length 0 lo)).take (HT.sIx xs.length xs.length hi - HT.sIx xs.length 0 lo)
theorem hJ(xs:List V)(lo a:Option Int):(dN xs lo a).length<=xs.length:=by
 unfold dN;rw[length_take,length_drop];lia
def yG(K:Frag):V->Option Int->Option Int->Hp->VK->Prop:=λx lo hi H Q=>∃ a xs,x=.ref a/\SqT K H a xs /\
 ¬(HT.sIx xs.length 0 lo=0/\HT.sIx xs.length xs.length hi=xs.length)/\∀ p,H p=none->Q (.ref p) (upd H p (.tup (dN xs lo hi)))
theorem sl_tup:SlR X (yG X.K):=by
 intro i s A H x v D C e g E Q I n y w l h;obtain⟨a,d,rfl,u,m,q⟩:=h;cases n;obtain⟨f,r,j,k⟩:=I.tuple u;have c:f.toArray.size=d.length:=by rw[size_toArray];exact r.length.symm
 refine⟨"tuple",_,PyProof.Rows.slot_tuple_getitem.lookup,j.typeIs,?_⟩;refine HT.getItem_tuple_cut j y w l (by rw[c];exact m) ?_ (by rw[c];exact k);rw[c];refine⟨.ref s.heap.objs.size,_,I.laid (t':=s.toks) (o:=.tup (dN d e g)) (λb B q=>Heap.get?_push_of_some _ q) (Nat.le_refl _) ?_,rfl,q _ (I.hok.fresh (Nat.le_refl _))⟩;exact⟨Nat.le_trans (hJ d e g) k,_,(r.drop (HT.sIx d.length 0 e)).take (HT.sIx d.length d.length g - HT.sIx d.length 0 e),IsTup.new _ _⟩
end
def ixN(n:Nat)(i:Int):Option Nat:=if 0<=i then (if i<n then some i.toNat else none) else if -(n:Int)<=i then some (i+n).toNat else none
def atI{α:Type}(xs:List α)(i:Int):Option α:=(ixN xs.length i).bind λj=>xs[j]?
theorem pd{n:Nat}{i:Int}{j:Nat}(h:ixN n i=some j):seqIndex? i n=some j/\j<n/\-(n:Int)<=i/\i<n:=by
 unfold ixN at h
 by_cases h0:0<=i
 .rw[if_pos h0]at h
  by_cases h1:i<n
  .rw[if_pos h1]at h
   have e:i.toNat=j:=Option.some.inj h;exact⟨by rw[seqIndex_of h0 h1,e],by lia,by lia,h1⟩
  .rw[if_neg h1]at h;cases h
 .rw[if_neg h0]at h
  by_cases h1:-(n:Int)<=i
  .rw[if_pos h1]at h
   have e:(i+n).toNat=j:=Option.some.inj h;exact⟨by rw[seqIndex_neg (by lia) h1,e],by lia,h1,by lia⟩
  .rw[if_neg h1]at h;cases h
theorem kX{a:Type}{xs:List a}{i:Int}{v:a}(h:atI xs i=some v):∃ j,seqIndex? i xs.length=some j/\xs[j]? = some v/\j<xs.length/\-(xs.length:Int)<=i/\i<xs.length:=by
 unfold atI at h;cases e:ixN xs.length i with
 | none=>rw[e]at h;cases h
 | some j =>
  rw[e]at h;obtain⟨b,f,c,d⟩:=pd e;exact⟨j,b,h,f,c,d⟩
theorem dY{a:Type}{xs:List a}{j:Nat}{v:a}(h:xs[j]? = some v):atI xs (j:Int)=some v:=by
 have b:j<xs.length:=(List.getElem?_eq_some_iff.mp h).1
 have e:ixN xs.length (j:Int)=some j:=by
  unfold ixN;rw[if_pos (by lia),if_pos (by lia)];simp
 unfold atI;rw[e];exact h
def uU(b:Expr):Prop:=∀ o i,subscripted b false o i=operate [o,i] (getItem o i)
def IxR(X:Cx)(r:R2):Prop :=
 ∀(value slice:Expr) (pins:List (Addr×Obj)) (s:Shared) (σ:St) (H:Hp) (x y:V) (v u:Value) (Q:VK),Inv X pins σ H s->RelV x v->RelV y u->r x y H Q ->
  subscripted slice false v u=operate [v,u] (getItem v u)->wpAny (model X.prog X.w) X.A (subscriptTail value slice v u) (EP X pins σ Q) X.xe s
def MtR(X:Cx)(id:String)(r:V->List V->Hp->VK->Prop):Prop :=
 ∀(pins:List (Addr×Obj)) (s:Shared) (σ:St) (H:Hp) (x:V) (xs:List V) (v:Value) (us:List Value) (Q:VK),Inv X pins σ H s->RelV x v->Vals xs us->r x xs H Q ->
  wpAny (model X.prog X.w) X.A (call (.builtin id) (v::us)) (EP X pins σ Q) X.xe s
section
variable {X:Cx}{a b:Expr}{ta tb:TE}{pos:Pos}
theorem IxR.or{r g:R2}(h:IxR X r)(h':IxR X g):IxR X (λx y H Q=>r x y H Q\/g x y H Q):=by
 intro b a c s d H x y v u Q I f i q e
 rcases q with q | q
 .exact h b a c s d H x y v u Q I f i q e
 .exact h' b a c s d H x y v u Q I f i q e
theorem bA{r:R2}(g:IxR X r)(j:PE X a ta)(n:PE X b tb)(k:uU b):PE X (.Subscript a b pos) (tOp r ta tb):=by
 intro c s e H Q I h;exact Subscript_ (wL j n I h λv u l x y f d i m q=>g a b c l e f x y v u Q d i m q (k _ _))
inductive rIxL(K:Frag)(x y:V)(H:Hp)(Q:VK):Prop
 | mk(p:Addr)(xs:List V)(i:Int)(v:V)(h0:x=.ref p)(h1:y=.int i)(h2:SqL K H p xs)(h3:atI xs i=some v)(h4:Q v H):rIxL K x y H Q
inductive rIxT(K:Frag)(x y:V)(H:Hp)(Q:VK):Prop
 | mk(p:Addr)(xs:List V)(i:Int)(v:V)(h0:x=.ref p)(h1:y=.int i)(h2:SqT K H p xs)(h3:atI xs i=some v)(h4:Q v H):rIxT K x y H Q
def yk:R2:=λx y H Q=>∃ z i c,x=.str z/\y=.int i/\z.length<=sizeLine/\atI z.cps.toList i=some c/\Q (.str ⟨#[c]⟩) H
theorem ix_list:IxR X (rIxL X.K):=by
 intro f e a s m H x y v u Q I E G h o;obtain⟨p,L,i,z,rfl,rfl,D,J,q⟩:=h;cases E;obtain⟨t,rfl⟩:=G;obtain⟨d,r,l,O⟩:=I.list D;obtain⟨j,c,C,M,F,A⟩:=kX J;obtain⟨w,n,g⟩:=r.get C;have K:=r.length;have N:=gQ
 have b:EP X a m Q w s:=⟨z,H,I,g,q⟩
 by_cases h0:0<=i
 .have k:i.toNat=j:=by
   rw[seqIndex_of h0 A]at c;exact Option.some.inj c
  exact item_listR l.isList h0 (by lia) (by rw[k];simpa using n) b o
 .have k:(i+(d.toArray.size:Int)).toNat=j:=by
   rw[seqIndex_neg (by lia) F]at c;rw[size_toArray,<- K];exact Option.some.inj c
  exact subscriptTail_builtinR (x:=w) l.isList.typeIs slot_list_getitem.lookup
   (wpAny_getItem_list_neg (Q:=λr B=>r=w/\EP X a m Q r B) l.isList (by lia) (by rw[size_toArray] <;> lia) (by lia) (by rw[k];simpa using n) ⟨rfl,b⟩) o
theorem ix_tup:IxR X (rIxT X.K):=by
 intro d b a s f H x y v u Q I o B h F;obtain⟨p,G,i,z,rfl,rfl,n,D,q⟩:=h;cases o;obtain⟨t,rfl⟩:=B;obtain⟨k,r,g,N⟩:=I.tuple n;obtain⟨j,C,m,L,K,J⟩:=kX D;obtain⟨w,A,e⟩:=r.get m;have E:=r.length;have M:=gQ
 have c:EP X a f Q w s:=⟨z,H,I,e,q⟩
 exact subscriptTail_builtinR (x:=w) g.typeIs slot_tuple_getitem.lookup
  (getItem_tuple (j:=j) (Q:=λr l=>r=w/\EP X a f Q r l) g (by lia) (by lia) (by rw[size_toArray,<- E];exact C) (by simpa using A) ⟨rfl,c⟩) F
theorem vw:IxR X yk:=by
 intro b a d s B H x y v u Q I l o h A;obtain⟨z,i,c,rfl,rfl,F,r,q⟩:=h;obtain⟨t,rfl⟩:=l;obtain⟨C,rfl⟩:=o;obtain⟨j,e,g,D,m,f⟩:=kX r;have w:z.cps.toList.length=z.length:=by simp[Str.length]
 rw[w]at e m f;have E:=gQ
 exact tail_any (typeIs_str s z t) slot_str_getitem.lookup (getItem_str (c:=c) (by
  have n:decide (i < -(2 ^ 63:Int))=false:=decide_eq_false (by lia);have k:decide (i >= 2 ^ 63)=false:=decide_eq_false (by lia)
  rw[n,k,Bool.or_false]) (by rw[e];simpa using g) ⟨.str ⟨#[c]⟩,H,I.tok _,⟨_,rfl⟩,q⟩) A
def rIx(K:Frag):R2:=λx y H Q=>rIxL K x y H Q\/rIxT K x y H Q\/yk x y H Q
theorem aY:IxR X (rIx X.K):=ix_list.or (ix_tup.or vw)
theorem kN(lo a:Option Int)(n:Nat):(sliceBounds lo a none n).1=((HT.sIx n 0 lo:Nat):Int)/\(sliceBounds lo a none n).2.1=((HT.sIx n n a:Nat):Int)/\(sliceBounds lo a none n).2.2=1:=by
 refine⟨?_,?_,rfl⟩
 .cases lo with
  | none=>simp[sliceBounds,HT.sIx]
  | some i =>
   simp only[sliceBounds,HT.sIx,Option.getD_none,show(1:Int) > 0 by decide,if_true]
   by_cases h:i<0
   .simp only[h,if_true] <;> lia
   .simp only[h,if_false] <;> lia
 .cases a with
  | none=>simp[sliceBounds,HT.sIx]
  | some i =>
   simp only[sliceBounds,HT.sIx,Option.getD_none,show(1:Int) > 0 by decide,if_true]
   by_cases h:i<0
   .simp only[h,if_true] <;> lia
   .simp only[h,if_false] <;> lia
theorem jt(its:List Value)(lo a:Option Int):slicePick its.toArray lo a none=((its.drop (HT.sIx its.length 0 lo)).take (HT.sIx its.length its.length a - HT.sIx its.length 0 lo)).toArray:=by
 obtain⟨c,b,d⟩:=kN lo a its.toArray.size;unfold slicePick;rw[c,b,d]
 simp only[sliceRange_one,pick_run,size_toArray] <;> rfl
def yD(K:Frag):V->Option Int->Option Int->Hp->VK->Prop:=λx lo hi H Q=>∃ a xs,x=.ref a/\SqL K H a xs/\∀ p,H p=none->Q (.ref p) (upd H p (.lst (dN xs lo hi)))
theorem sl_list:SlR X (yD X.K):=by
 intro i s A H x v C B e f D Q I m w n l h;obtain⟨a,c,rfl,k,q⟩:=h;cases m;obtain⟨j,r,g,u⟩:=I.list k;have d:=r.length;refine⟨"list",_,slot_list_getitem.lookup,g.isList.typeIs,?_⟩;refine wpAny_getItem_list_slice g.isList w n l .none (by simp) ?_ (by rw[size_toArray] <;> lia);rw[jt,<- d];refine⟨.ref s.heap.objs.size,_,I.laid (t':=s.toks) (o:=.lst (dN c e f)) (λb y q=>Heap.get?_push_of_some _ q) (Nat.le_refl _) ?_,rfl,q _ (I.hok.fresh (Nat.le_refl _))⟩;exact⟨Nat.le_trans (hJ c e f) u,_,0,(r.drop (HT.sIx c.length 0 e)).take (HT.sIx c.length c.length f - HT.sIx c.length 0 e),Heap.get?_push_size _ rfl⟩
def fQ:V->Bool
 | .non=>true
 | .bl _=>true
 | .int _=>true
 | .str _=>true
 | _=>false
def eqV:V->V->Bool
 | .non,.non=>true
 | .bl a,.bl b=>a == b
 | .bl a,.int b=>(if a then 1 else 0) == b
 | .int a,.bl b=>a == (if b then 1 else 0)
 | .int a,.int b=>a == b
 | .str a,.str b=>a == b
 | _,_=>false
theorem xb{A:Around}{s:Shared}{y x:V}{u v:Value}(f:RelV y u)(c:RelV x v)(g:fQ y=true)(e:fQ x=true):SeqAt.EqAt A s u v (eqV y x):=by
 cases y with
 | non =>
  cases f;cases x with
  | non=>cases c;exact SeqAt.EqAt.same _
  | bl b=>cases c;exact SeqAt.EqAt.none_bool b
  | int b=>obtain⟨t,rfl⟩:=c;exact SeqAt.EqAt.none_int b t
  | str b=>obtain⟨t,rfl⟩:=c;exact SeqAt.EqAt.none_str b t
  | _=>exact absurd (show false=true from e) Bool.false_ne_true
 | bl a =>
  cases f;cases x with
  | non=>cases c;exact SeqAt.EqAt.bool_none a
  | bl b=>cases c;exact SeqAt.EqAt.bool_bool a b
  | int b=>obtain⟨t,rfl⟩:=c;exact SeqAt.EqAt.bool_int a b t
  | str b=>obtain⟨t,rfl⟩:=c;exact SeqAt.EqAt.bool_str a b t
  | _=>exact absurd (show false=true from e) Bool.false_ne_true
 | int a =>
  obtain⟨d,rfl⟩:=f;cases x with
  | non=>cases c;exact SeqAt.EqAt.int_none a d
  | bl b=>cases c;exact SeqAt.EqAt.int_bool a d b
  | int b=>obtain⟨t,rfl⟩:=c;exact SeqAt.EqAt.int_int a d b t
  | str b=>obtain⟨t,rfl⟩:=c;exact SeqAt.EqAt.int_str a d b t
  | _=>exact absurd (show false=true from e) Bool.false_ne_true
 | str a =>
  obtain⟨d,rfl⟩:=f;cases x with
  | non=>cases c;exact SeqAt.EqAt.str_none a d
  | bl b=>cases c;exact SeqAt.EqAt.str_bool a d b
  | int b=>obtain⟨t,rfl⟩:=c;exact SeqAt.EqAt.str_int a d b t
  | str b=>obtain⟨t,rfl⟩:=c;exact SeqAt.EqAt.str_str a d b t
  | _=>exact absurd (show false=true from e) Bool.false_ne_true
 | _=>exact absurd (show false=true from g) Bool.false_ne_true
def eqU(x:V)(u:Value):Bool:=match u with
 | .none=>eqV .non x
 | .bool b=>eqV (.bl b) x
 | .int i _=>eqV (.int i) x
 | .str z _=>eqV (.str z) x
 | _=>false
theorem rC{x y:V}{u:Value}(r:RelV y u)(f:fQ y=true):eqU x u=eqV y x:=by
 cases y with
 | non=>cases r;rfl
 | bl b=>cases r;rfl
 | int i=>obtain⟨t,rfl⟩:=r;rfl
 | str z=>obtain⟨t,rfl⟩:=r;rfl
 | _=>exact absurd (show false=true from f) Bool.false_ne_true
theorem gu{x:V}:∀{xs:List V}{us:List Value},Vals xs us->xs.all fQ=true->us.any (eqU x)=xs.any λy=>eqV y x
 | _,_,.nil,_=>rfl
 | y::xs,u::us,.cons r t,f=>by
  rw[all_cons,Bool.and_eq_true]at f;rw[any_cons,any_cons,rC r f.1,gu t f.2]
theorem fB{A:Around}{s:Shared}{x:V}{v:Value}(b:RelV x v)(a:fQ x=true):∀{xs:List V}{us:List Value},Vals xs us->xs.all fQ=true->∀ u∈us,SeqAt.EqAt A s u v (eqU x u)
 | _,_,.nil,_=>λu hu=>by cases hu
 | y::xs,u::us,.cons r t,f=>λc hu=>by
  rw[all_cons,Bool.and_eq_true]at f
  rcases mem_cons.mp hu with rfl | hu
  .rw[rC r f.1];exact xb r b f.1 a
  .exact fB b a t f.2 c hu
def inV(x:V)(xs:List V):Bool:=xs.any λy=>eqV y x
inductive rIn(K:Frag)(neg:Bool)(x y:V)(H:Hp)(Q:VK):Prop
 | mk(p:Addr)(xs:List V)(h0:y=.ref p)(h1:SqL K H p xs\/SqT K H p xs)(h2:fQ x=true)(h3:xs.all fQ=true)(h4:Q (.bl (if neg then !inV x xs else inV x xs)) H):rIn K neg x y H Q
theorem gJ:OpR X (compareOp .In) (rIn X.K false):=by
 intro e s l H x y v u Q I f j h;obtain⟨p,k,rfl,hq,g,b,q⟩:=h;cases j
 rcases hq with hq | hq
 .obtain⟨a,r,c,i⟩:=I.list hq
  refine SeqAt.in_listAt (eqU x) c.isList (λw d=>fB f g r b w (by simpa using d)) ⟨.bl _,H,I,rfl,?_⟩;rw[show a.toArray.any (eqU x)=a.any (eqU x) by simp,gu r b];exact q
 .obtain⟨a,r,c,i⟩:=I.tuple hq
  refine SeqAt.in_tupleAt (eqU x) c (λw d=>fB f g r b w (by simpa using d)) ⟨.bl _,H,I,rfl,?_⟩;rw[show a.toArray.any (eqU x)=a.any (eqU x) by simp,gu r b];exact q
theorem ll:OpR X (compareOp .NotIn) (rIn X.K true):=by
 intro e s l H x y v u Q I f j h;obtain⟨p,k,rfl,hq,g,b,q⟩:=h;cases j
 rcases hq with hq | hq
 .obtain⟨a,r,c,i⟩:=I.list hq
  refine SeqAt.notIn_listAt (eqU x) c.isList (λw d=>fB f g r b w (by simpa using d)) ⟨.bl _,H,I,rfl,?_⟩;rw[show a.toArray.any (eqU x)=a.any (eqU x) by simp,gu r b];exact q
 .obtain⟨a,r,c,i⟩:=I.tuple hq
  refine SeqAt.notIn_tupleAt (eqU x) c (λw d=>fB f g r b w (by simpa using d)) ⟨.bl _,H,I,rfl,?_⟩;rw[show a.toArray.any (eqU x)=a.any (eqU x) by simp,gu r b];exact q
theorem kE:CallR X (.builtin "len") (λxs H Q=>∃ p ys,xs=[.ref p]/\(SqL X.K H p ys\/SqT X.K H p ys)/\Q (.int ys.length) H):=by
 intro e s j H xs i Q I r h;obtain⟨p,ys,rfl,hq,q⟩:=h;obtain⟨u,rfl,f⟩:=di r;cases f;have k:=gQ
 rcases hq with hq | hq
 .obtain⟨b,d,c,g⟩:=I.list hq
  have a:=d.length;exact Calls.call_len_list c.isList (by simp only[size_toArray] <;> lia) ⟨.int ys.length,H,I.tok _,⟨s.toks+1,by rw[size_toArray,a]⟩,q⟩
 .obtain⟨b,d,c,g⟩:=I.tuple hq
  have a:=d.length;exact len_tuple c (by simp only[size_toArray] <;> lia) ⟨.int ys.length,H,I.tok _,⟨s.toks+1,by rw[size_toArray,a]⟩,q⟩
theorem call_len_str:CallR X (.builtin "len") (λxs H Q=>∃ z,xs=[.str z]/\z.length<=sizeLine/\Q (.int z.length) H):=by
 intro a s c H xs b Q I r h;obtain⟨z,rfl,e,q⟩:=h;obtain⟨u,rfl,t,rfl⟩:=di r;have d:=gQ;exact len_str (by lia) ⟨.int z.length,H,I.tok _,⟨_,rfl⟩,q⟩
theorem CallR.or{f:Value}{r d:List V->Hp->VK->Prop}(h:CallR X f r)(h':CallR X f d):CallR X f (λxs H Q=>r xs H Q\/d xs H Q):=by
 intro a s c H xs b Q I e q
 rcases q with q | q
 .exact h a s c H xs b Q I e q
 .exact h' a s c H xs b Q I e q
inductive rListOf(K:Frag)(xs:List V)(H:Hp)(Q:VK):Prop
 | mk(p:Addr)(ys:List V)(h0:xs=[.ref p])(h1:SqL K H p ys\/SqT K H p ys)(h2:∀ l,H l=none->Q (.ref l) (upd H l (.lst ys))):rListOf K xs H Q
theorem gp:CallR X (.type "list") (rListOf X.K):=by
 intro l s A H D C Q I r h;obtain⟨p,x,rfl,hq,q⟩:=h;obtain⟨u,rfl,B⟩:=di r;cases B
 have g:∀(a:List Value),Vals x a->x.length<=sizeLine->∀(c:Heap) (f:Nat),(∀ b o',s.heap.get? b=some o'->c.get? b=some o') ->
   c.get? s.heap.objs.size=some { cls:=.type "list",dict:=none,data:=.seq a.toArray f,slots:=#[] }->EP X l A Q (.ref s.heap.objs.size) { s with heap:=c }:=λa d j c f k e =>
  ⟨.ref s.heap.objs.size,_,I.laid (t':=s.toks) k (Nat.le_refl _) (show ObjOk X.prog X.w _ c _ (.lst x) from⟨j,a,f,d,e⟩),rfl,q _ (I.hok.fresh (Nat.le_refl _))⟩
 rcases hq with hq | hq
 .obtain⟨a,d,y,j⟩:=I.list hq
  have i:=d.length;obtain⟨o,m,v,n,w⟩:=y.isList;exact call_list_seq p (.inl rfl) m v w (λc f k e=>g a d j c f k e) (by simp only[size_toArray] <;> lia)
 .obtain⟨a,d,y,j⟩:=I.tuple hq
  have i:=d.length;obtain⟨o,m,v,n,w⟩:=y;exact call_list_seq p (.inr rfl) m v w (λc f k e=>g a d j c f k e) (by simp only[size_toArray] <;> lia)
theorem eB:CallR X (.type "tuple") (λxs H Q=>∃ p ys,xs=[.ref p]/\((SqL X.K H p ys/\∀ l,H l=none->Q (.ref l) (upd H l (.tup ys)))\/(SqT X.K H p ys/\Q (.ref p) H))):=by
 intro a s j H xs y Q I r h;obtain⟨p,ys,rfl,h⟩:=h;obtain⟨u,rfl,w⟩:=di r;cases w
 rcases h with⟨f,q⟩ | ⟨f,q⟩
 .obtain⟨c,i,g,n⟩:=I.list f
  have k:=i.length;refine call_tuple_list g.isList (λd x=>?_) (by simp only[size_toArray] <;> lia);have m:Inv X a j H { s with heap:=d }:=I.kept (t':=s.toks) x
  have v:Inv X a j (upd H d.objs.size (.tup ys)) { s with heap:=d.push { cls:=.type "tuple",data:=.seq c.toArray } } :=
   m.laid (t':=s.toks) (λb o e=>Heap.get?_push_of_some _ e) (Nat.le_refl _) (show ObjOk X.prog X.w _ _ _ (.tup ys) from⟨n,c,i,IsTup.new _ _⟩)
  exact⟨.ref d.objs.size,_,v,rfl,q _ (m.hok.fresh (Nat.le_refl _))⟩
 .obtain⟨c,i,g,n⟩:=I.tuple f
  exact call_tuple_same g ⟨.ref p,H,I,rfl,q⟩
def tyV(K:Frag)(T:String)(x:V)(H:Hp):Prop:=match x with
 | .str _=>T = "str"
 | .int _=>T = "int"
 | .ref p=>(T = "list" /\ ∃ xs,SqL K H p xs)\/(T = "tuple" /\ ∃ o,K.lookup p=some o/\o.cls=.type "tuple" /\ o.dict=none) \/
   (T = "dict" /\ ((∃ kvs,H p=some (.dK kvs))\/∃ kvs,H p=some (.dT kvs)))\/(T = "set" /\ ∃ S n,H p=some (.set S n))
 | _=>False
theorem wB{f:List (Addr×Obj)}{q:St}{H:Hp}{s:Shared}{T:String}{x:V}{v:Value}(I:Inv X f q H s)(r:RelV x v)(ty:tyV X.K T x H) :
  s.TypeIs v T/\∀ a,v=.ref a->∃ ob,s.heap.get? a=some ob/\ob.dict=none:=by
 cases x with
 | str z =>
  obtain⟨t,rfl⟩:=r;cases(show T = "str" from ty);exact⟨typeIs_str s z t,λ_ e=>nomatch e⟩
 | int i =>
  obtain⟨t,rfl⟩:=r;cases(show T = "int" from ty);exact⟨typeIs_int s i t,λ_ e=>nomatch e⟩
 | ref p =>
  cases r
  rcases ty with⟨rfl,w,l⟩ | ⟨rfl,o,b,u,g⟩ | ⟨rfl,b⟩ | ⟨rfl,S,n,b⟩
  .obtain⟨m,_,k,_⟩:=I.list l
   refine⟨k.isList.typeIs,λa e=>?_⟩;cases e;obtain⟨o,n,e,c,g,_⟩:=k;exact⟨o,e,g⟩
  .refine⟨⟨o,I.kIn p o b,u⟩,λa e=>?_⟩
   cases e;exact⟨o,I.kIn _ o b,g⟩
  .have z:∃ o,s.heap.get? p=some o/\o.ExactDict:=by
    rcases b with⟨h,b⟩ | ⟨h,b⟩
    .obtain⟨_,_,_,_,o,_,_,e,d,_⟩:=I.hok p _ b
     exact⟨o,e,d⟩
    .obtain⟨_,_,_,_,o,_,_,e,d,_⟩:=I.hok p _ b
     exact⟨o,e,d⟩
   obtain⟨o,e,d⟩:=z;refine⟨⟨o,e,d.1⟩,λa j=>?_⟩;cases j;exact⟨o,e,d.2.1⟩
  .obtain⟨o,_,_,_,e,d,_⟩:=I.hok p _ b
   refine⟨⟨o,e,d.1⟩,λa j=>?_⟩;cases j;exact⟨o,e,d.2.1⟩
 | _=>exact False.elim ty
def tBM(K:Frag)(T:String)(r:V->List V->Hp->VK->Prop)(to:TE)(t:TA):TE:=λσ H Q=>to σ H λx H1=>tyV K T x H1/\t σ H1 λxs H2=>r x xs H2 Q
variable {o e:Expr}{es:List Expr}{to:TE}{t:TA}{name:Str}{apos cpos:Pos}{T id:String}{r:V->List V->Hp->VK->Prop}
theorem oJ(E:PlainAttrs T)(g:Slot T name id)(i:typeOf (.builtin id)=pure (.type "method_descriptor"))(L:MtR X id r)(G:PE X o to)(M:PA X (e::es) t)
  (c:attributeBase o name X.env (eval o X.env)=eval o X.env:=by rfl)
  (f:((backTo cpos (starEach (e::es) X.env)).all (λx=>!x.1) && (backToKw cpos (keywordEach [] X.env)).all (λx=>x.1.isSome)
   && decide ((e::es).length+([]:List Keyword).length+(if ([]:List Keyword).isEmpty then 0 else 1)<30))=true:=by rfl)
  (d:(apos.endLine == cpos.line)=true:=by rfl) (O:starEach (e::es) X.env=(false,eval e X.env)::starEach es X.env:=by rfl) (b:(backTo cpos (starEach es X.env)).any (·.1)=false:=by rfl) :
  PE X (.Call (.Attribute o name apos) (e::es) [] cpos) (tBM X.K T r to t):=by
 intro a s j H Q I h;refine wpAny_Call_method_late c f d rfl (thn (G a s j H _ I h) λv K ⟨x,D,k,l,N,q⟩=>?_);obtain⟨J,w⟩:=wB k l N;refine⟨T,id,E,g,i,J,w,?_⟩;have m:=M cpos a K j D _ k q;rw[O]at m ⊢;refine Calls.callWith_builtin (by show(false || (backTo cpos (starEach es X.env)).any (·.1))=false;rw[b] <;> rfl) (Calls.evalArgs_plain ?_);exact thn m λy F ⟨n,B,A,C,u⟩=>L a F j B x n v y Q A l C u
end
def MtM(X:Cx)(id:String)(r:V->List V->Hp->VK->Prop):Prop :=
 ∀(pins:List (Addr×Obj)) (s:Shared) (σ:St) (H:Hp) (x:V) (xs:List V) (v:Value) (us:List Value) (Q:VK),Inv X pins σ H s->RelV x v->Vals xs us->r x xs H Q ->
  wpAny (model X.prog X.w) X.A (call (.builtin id) (v::us)) (EP X pins σ Q) X.xe s
theorem Vals.one:∀{x:V}{us:List Value},Vals [x] us->∃ u,us=[u]/\RelV x u
 | _,_,.cons r .nil=>⟨_,rfl,r⟩
theorem Vals.eraseIdx:∀{xs:List V}{us:List Value}(i:Nat),Vals xs us->Vals (xs.eraseIdx i) (us.eraseIdx i)
 | _,_,_,.nil=>.nil
 | _,_,0,.cons _ t=>t
 | _,_,i+1,.cons r t=>.cons r (Vals.eraseIdx i t)
theorem jO{a:Type}:∀(l:List a) (i:Nat),(l.eraseIdx i).length<=l.length
 | [],_=>Nat.le_refl _
 | _::_,0=>Nat.le_succ _
 | _::r,i+1=>Nat.succ_le_succ (jO r i)
section
variable {X:Cx}{pins:List (Addr×Obj)}{σ:St}{H:Hp}{s:Shared}{l b:Addr}{xs ys zs:List V}
theorem Inv.lset{its its':List Value}{n:Nat}{f:Array Value->Array Value}{t':Nat}(I:Inv X pins σ H s)(c:H l=some (.lst xs))
  (e:s.heap.get? l=some { cls:=.type "list",data:=.seq its.toArray n }) (a:f its.toArray=its'.toArray) (b:Vals ys its') (d:ys.length<=sizeLine) :
  Inv X pins σ (upd H l (.lst ys)) { s with heap:=s.heap.update l (Obj.mapSeq f),toks:=t' }:=by
 have q:=PySem.IsL.update e f;rw[a]at q;refine I.write (x:=l) (e:=l) (by rw[c];exact trivial) (.inl rfl) (λi u h g=>(Heap.get?_update_other s.heap (Obj.mapSeq f) (Ne.symm h)).trans g) ⟨_,q⟩ ?_;exact⟨d,its',_,b,q⟩
theorem Inv.lnew{its:List Value}{t':Nat}(I:Inv X pins σ H s)(b:Vals ys its)(a:ys.length<=sizeLine) :
  Inv X pins σ (upd H s.heap.objs.size (.lst ys)) { s with heap:=s.heap.push { cls:=.type "list",data:=.seq its.toArray },toks:=t' } :=
 I.laid (λ_ _ q=>Heap.get?_push_of_some _ q) (Nat.le_refl _) ⟨a,its,0,b,Heap.get?_push_size _ rfl⟩
theorem Inv.fresh(I:Inv X pins σ H s):H s.heap.objs.size=none:=I.hok.fresh (Nat.le_refl _)
theorem Inv.lstM(I:Inv X pins σ H s)(a:H l=some (.lst xs)):xs.length<=sizeLine/\∃(its:List Value) (n:Nat),Vals xs its/\xs.length=its.length/\s.heap.get? l=some { cls:=.type "list",data:=.seq its.toArray n }:=by
 obtain⟨z,its,n,r,e⟩:=I.hok l _ a;exact⟨z,its,n,r,r.length,e⟩
theorem rh{n:Nat}(h:n<=sizeLine):Builtin.List.listTooLong n=false:=by
 unfold Builtin.List.listTooLong;exact decide_eq_false (by lia)
end
section
variable {X:Cx}
inductive rAppend(x:V)(vs:List V)(H:Hp)(Q:VK):Prop
 | mk(l:Addr)(xs:List V)(y:V)(h0:x=.ref l)(h1:vs=[y])(h2:H l=some (.lst xs))(h3:xs.length<sizeLine)(h4:Q .non (upd H l (.lst (xs++[y])))):rAppend x vs H Q
theorem jJ:MtM X "list.append" rAppend:=by
 intro c s m H x i v j Q I f d h;obtain⟨l,k,y,rfl,rfl,b,w,q⟩:=h;cases f;obtain⟨u,rfl,g⟩:=d.one;obtain⟨z,a,n,r,o,e⟩:=I.lstM b;refine call_meets F.slot_list_append ⟨_,e,rfl⟩ F.entry_list_append (F.args_list_append_2 _ _) (PySem.list_append l a.toArray n u (by rw[size_toArray];lia)) ⟨e,?_⟩;refine⟨.non,_,I.lset (its':=a++[u]) b e (by simp) (r.append (.cons g .nil)) ?_,rfl,q⟩;rw[length_append,length_singleton];lia
def oQ:V->List V->Hp->VK->Prop:=λx vs H Q=>∃ l b xs zs,x=.ref l/\vs=[.ref b]/\H l=some (.lst xs)/\H b=some (.lst zs)/\xs.length+zs.length<=sizeLine/\Q .non (upd H l (.lst (xs++zs)))
theorem qk:MtM X "list.extend" oQ:=by
 intro i s G H x C v E Q I w j h;obtain⟨l,b,D,K,rfl,rfl,g,A,M,q⟩:=h;cases w;obtain⟨u,rfl,B⟩:=j.one;cases B;obtain⟨z,c,n,r,L,e⟩:=I.lstM g;obtain⟨J,a,k,y,m,o⟩:=I.lstM A;have f:c.toArray.size+a.toArray.size<=sizeLine:=by rw[size_toArray,size_toArray];lia
 have d:¬(!c.toArray.isEmpty && Builtin.List.listTooLong (c.toArray.size+a.toArray.size))=true:=by
  rw[rh f,Bool.and_false];exact Bool.false_ne_true
 refine call_meets F.slot_list_extend ⟨_,e,rfl⟩ F.entry_list_extend (F.args_list_extend_2 _ _)
  (AutoSeq1.list_extend_list_list_0 l c.toArray n b a.toArray k d (by rw[size_toArray];lia) (by lia)) ⟨e,o,?_⟩
 refine⟨.non,_,I.lset (its':=c++a) g e (by simp) (r.append y) ?_,rfl,q⟩;rw[length_append];lia
def sS:V->List V->Hp->VK->Prop:=λx vs H Q=>∃ l xs i k y,x=.ref l/\vs=[.int i]/\H l=some (.lst xs)/\-(2 ^ 63)<=i/\i<2 ^ 63/\seqIndex? i xs.length=some k/\xs[k]? = some y/\Q y (upd H l (.lst (xs.eraseIdx k)))
theorem rN:MtM X "list.pop" sS:=by
 intro d s K H x G v J Q I o m h;obtain⟨l,g,i,k,y,rfl,rfl,c,j,E,D,C,q⟩:=h;cases o;obtain⟨u,rfl,A⟩:=m.one;obtain⟨t,rfl⟩:=A;obtain⟨z,a,n,r,B,e⟩:=I.lstM c;obtain⟨w,f,b⟩:=r.get C
 refine call_meets F.slot_list_pop ⟨_,e,rfl⟩ F.entry_list_pop (F.args_list_pop_2 _ _)
  (MeetsSeq.list_pop_at l a.toArray n i t k w (fitsIndex_both j E) (by rw[size_toArray,<- B];exact D) (by rw[<- Array.getElem?_toList];exact f) (by rw[size_toArray];lia)) ⟨e,?_⟩
 refine⟨y,_,I.lset (its':=a.eraseIdx k) c e ?_ (r.eraseIdx k) ?_,b,q⟩
 .show a.toArray.eraseIdxIfInBounds k=(a.eraseIdx k).toArray
  rw[List.eraseIdxIfInBounds_toArray]
 .have:=jO g k
  lia
inductive rCat(x y:V)(H:Hp)(Q:VK):Prop
 | mk(l b:Addr)(xs zs:List V)(h0:x=.ref l)(h1:y=.ref b)(h2:H l=some (.lst xs))(h3:H b=some (.lst zs))(h4:xs.length+zs.length<=sizeLine)(h5:∀ p,H p=none->Q (.ref p) (upd H p (.lst (xs++zs)))):rCat x y H Q
theorem m5:OpR X (binaryOp .Add) rCat:=by
 intro d s B H x y v u Q I g w h;obtain⟨l,b,A,C,rfl,rfl,j,f,G,q⟩:=h;cases g;cases w;obtain⟨z,c,n,r,F,e⟩:=I.lstM j;obtain⟨E,a,D,i,m,o⟩:=I.lstM f;refine PySem.P.add_list e o ?_ (by rw[size_toArray,size_toArray];lia);have k:c.toArray++a.toArray=(c++a).toArray:=by simp
 rw[k];exact⟨.ref _,_,I.lnew (t':=s.toks) (r.append i) (by rw[length_append];lia),rfl,q _ I.fresh⟩
end
section
variable {prog:Program}{w:World}{A:Around}{E:Value->Shared->Prop}{s:Shared}
set_option maxRecDepth 100000 in
end
section
variable {X:Cx}
end
end L2
namespace Att
open PySem PySem.W PySem.Calls PyProof.Rows
theorem ib{P:Params}{h:Heap}:∀(ns:List Int) (vs:List Value),WellAll P h vs (ns.map WData.int)->IntsAre vs ns:=by
 intro ns
 induction ns with
 | nil =>
  intro vs w;rw[map_nil]at w;cases w;exact .nil
 | cons n ns ih =>
  intro vs w;rw[map_cons]at w;cases w with
  | cons a b =>
   cases a;exact .cons _ _ (ih _ b)
theorem qF{l:OpenLaw}{n:Nat}(v:l.most=some n){P:Params}{h:Heap}{args:List WData}{b:List Value}
  (c:l.row.toRowW.claim.pre args=true) (j:WellAll P h b args) :
  ∃ a vs ns,b=[Value.ref a]/\args=[WData.list (ns.map WData.int)]/\h.get? a=some { cls:=.type "list",data:=.seq vs.toArray }/\IntsAre vs ns/\ns.length<=n:=by
 have i:WShape.hasAll [] args [.list .int]=true:=(pre_splitW c).1;have k:l.pre.holds [] { args:=args }=true:=(pre_splitW c).2;obtain⟨d,r,rfl,o,w⟩:=hasAllW_cons i;obtain rfl:=hasAllW_nil w;obtain⟨x,rfl,u⟩:=hasW_list o;obtain⟨ns,rfl⟩:=items_int u
 have e:ns.length<=n:=by
  unfold OpenLaw.pre at k
  have g:(WTm.not (.lt (.lit (.int (n:Int))) (.len (.arg 0)))).holds [] { args:=[.list (ns.map .int)] }=true:=by
   have g:=(holds_andW k).1;rw[v]at g;exact g
  have f:=condW_of g (w_not (w_lt w_lit (w_len_list (w_arg rfl))));rw[length_map]at f;refine Nat.le_of_not_lt λq=>?_
  have m:(n:Int)<((ns.length:Nat):Int):=by lia
  first
   | (rw[decide_eq_true m]at f;exact absurd f (by decide))
   | (simp at f;lia)
 cases j with
 | cons w1 w2 =>
  cases w2;cases w1 with
  | list ho hall=>exact⟨_,_,ns,rfl,rfl,ho,ib ns _ hall,e⟩
theorem pU(l:OpenLaw)(args:List WData):l.row.toRowW.claim.post args (.bool true) args=true :=
 postW_of (r:=l.row.toRowW) (X:=(true == true))
  (show WShape.has [] (.bool true) .bool=true by first | rfl | decide | simp[WShape.has,WShape.arms,WShape.armsAll])
  (show(WTm.eq .res (.lit (.bool true))).value [] { args:=args,res:=some (.bool true),after:=args }=some (.bool (true == true)) from w_eq_bool (w_res rfl) w_lit) rfl
theorem attach_call{l:OpenLaw}{n:Nat}{q:Program}{b:List Str}{A:(Str->Option Value)->Heap->Prop}{x:World->Heap->Prop}{d:DefRec}
  (P:l.most=some n) (m:d.params.defaults=[])
  (i:∀(w:World) (s₀ s₁:Shared) (mg mb:Str->Option Value) (fa:Addr) (o:Obj) (pm cd doc:Value) (a:Addr) (vs:List Value) (ns:List Int),
   Ground q b [] A w s₀ mg mb s₁.heap->x w s₁.heap ->
   s₁.heap.get? fa=some o->o.data=.func (docDef d.name d.params d.body d.scope pm cd doc)->s₁.heap.CodeRec cd d.name->mg d.name=some (.ref fa) ->
   s₁.heap.get? a=some { cls:=.type "list",data:=.seq vs.toArray }->IntsAre vs ns->ns.length<=n->s₁.gens = #[] ->
   codeAny (model l.prog w) callerA (.call (.ref fa) ⟨[.ref a],[]⟩) (λr s'=>r=.ok (.ret (.bool true))/\OldK s₁.heap s'.heap/\s'.os=s₁.os/\AllBare s'.gens) s₁) :
  WalkO q b A x l.row.toRowW d [] (λf vs=>PySem.call f vs):=by
 intro w s₀ s₁ mg mb G Y fa o pm cd doc N I L M k y j E C v Q g B H u K;obtain rfl:N=.none:=Dflts.none y m;obtain rfl:I=.none:=Dflts.noKw y;obtain⟨a,vs,ns,rfl,rfl,e,c,h⟩:=qF P g u;refine enter_call (codeAny_mono (i w s₀ s₁ mg mb fa o pm cd doc a vs ns G Y L (fd_plain M) k j e c h E) λr s' F=>?_);obtain⟨rfl,D,O,J⟩:=F;exact⟨.inl ⟨.bool true,.bool true,[],rfl,λ_=>rfl,.bool true,pU l _,λ_=>⟨List.Pairwise.nil,λ_ hm=>(nomatch hm)⟩⟩,D,O,J⟩
section
variable {prog:Program}{w:World}{A:Around}{E:Value->Shared->Prop}{s:Shared}{K:Frag}
end
end Att
namespace L2
open PySem PySem.Spec PyProof.Rows
theorem jU:∀{vs:List Value}{ns:List Int},IntsAre vs ns->Vals (ns.map V.int) vs
 | _,_,.nil=>.nil
 | _,_,.cons n t h=>.cons ⟨t,rfl⟩ (jU h)
abbrev KOf{K:Frag}{h:Heap}(_:K.In h):Frag:=K
def aT(s:Stmt)(j:Nat):Stmt:=match s with
 | .ClassDef _ _ _ body _ _ _ _ _ _ _=>body.getD j (.Pass ⟨0,0,0,0⟩)
 | _=>.Pass ⟨0,0,0,0⟩
def ag(s:Stmt):Arguments:=match s with
 | .FunctionDef _ a _ _ _ _ _ _ _ _=>a
 | _=>{ posonlyargs:=[],args:=[],vararg:=none,kwonlyargs:=[],kw_defaults:=[],kwarg:=none,defaults:=[] }
def af(s:Stmt):List Stmt:=match s with
 | .FunctionDef _ _ b _ _ _ _ _ _ _=>b
 | _=>[]
def ac(s:Stmt):Scope:=match s with
 | .FunctionDef _ _ _ _ _ _ sc _ _ _=>sc
 | _=>{ kind:=.function,names:=[],isGenerator:=false,isCoroutine:=false }
abbrev CX0:CXT:=λ_ _ _ _ _ _=>False
abbrev E0:XK:=λ_ _ _=>False
theorem au{X:Cx}:gi CX0 X E0:=λ_ _ _ _ _ _ _ h=>h.elim
structure Fun(K:Frag)(x qual:Str)(st:Stmt)(f:Addr)(fd:FuncData):Prop where
 ex:∃(oc:Value) (od:Option Addr) (kV doc pm:Value) (an:Option Addr) (cdv ct:Value) (osl:Array (Option Value)),
  fd=fnOf x qual (ag st) (af st) (ac st) .none kV doc pm an cdv ct/\K.lookup f=some ⟨oc,od,.func fd,osl⟩/\codeIn K cdv qual=true
 kp:keepIn K (.ref f)=true
section
variable {P:Program}{w:World}{K:Frag}{mg:Str->Option Value}{base:Heap}
theorem Fun.ok{x a:Str}{st:Stmt}{f:Addr}{g:FuncData}{N ps:List Str}{k:Nat}{sp:Sp}(F:Fun K x a st f g)(S:FnScope N ps (ac st))(e:∀ vs H Q E,sp vs H Q E->vs.length=ps.length)
  (b:∀(cdv:Value) (A:Around) (outer:List Env) (s:Shared) (H:Hp) (vs:List V) (Q:VK) (E:XK),Room k (A.deeper (envOfC a (ac st) s.heap.objs.size f cdv))->sp vs H Q E ->
   ∃ t,PSs (eG CX0 P w K mg base N a (ac st) f cdv A outer s H E).nox (af st) t/\t { nx:=λ_ H'=>Q .non H',rt:=Q } (start N vs) H):FnOk P w K mg base CX0 (k+1) f g ps sp:=by
 obtain⟨u,r,v,j,y,o,cdv,n,m,rfl,l,c⟩:=F.ex;refine xt l c S e λA outer s H vs Q E i d=>?_
 obtain⟨t,h,q⟩:=b cdv A outer s H vs Q E i d;exact⟨t,h.nox,q⟩
theorem Fun.binds{x a:Str}{st:Stmt}{f:Addr}{b:FuncData}{ps:List Str}(F:Fun K x a st f b)
  (h:∀(kV doc pm:Value) (an:Option Addr) (cdv ct:Value) (us:List Value),us.length=ps.length->bindArgs (fnOf x a (ag st) (af st) (ac st) .none kV doc pm an cdv ct) ⟨us,[]⟩=pure (ps.zip us)):Binds K b ps []:=by
 obtain⟨g,e,kV,doc,pm,an,cdv,ct,d,rfl,i,c⟩:=F.ex;exact .all (h kV doc pm an cdv ct)
theorem am{x a:Str}{st:Stmt}{f:Addr}{n:Value}{m h:Option Addr}{e:Array (Option Value)}{i d j b g:Value}(l:K.lookup f=some ⟨n,m,.func (fnOf x a (ag st) (af st) (ac st) .none i d j h b g),e⟩)
  (c:codeIn K b a=true) (k:keepIn K (.ref f)=true):Fun K x a st f (fnOf x a (ag st) (af st) (ac st) .none i d j h b g):=⟨⟨n,m,i,d,j,h,b,g,e,rfl,l,c⟩,k⟩
end
theorem vj{A:Around}{k:Nat}(a:Room k A):A.units+1<cLine:=Nat.lt_of_le_of_lt (Nat.add_le_add_left (by decide:1<=64) _) a.units
section
variable {X:Cx}
end
theorem yH{A B:Prop}(h:B):if false=true then A else B:=by
 rw[if_neg Bool.false_ne_true];exact h
theorem y6{c A B:Prop}[Decidable c](b:c->A)(a:¬c->B):if c then A else B:=by
 by_cases h:c
 .rw[if_pos h]
  exact b h
 .rw[if_neg h]
  exact a h
theorem ot{c A B:Prop}[Decidable c](a:c)(h:B):if (!decide c)=true then A else B:=by
 rw[decide_eq_true a];exact yH h
def Same(H H':Hp):Prop:=∀ b o,H b=some o->H' b=some o
theorem Same.refl(H:Hp):Same H H:=λ_ _ h=>h
theorem Same.trans{H d e:Hp}(a:Same H d)(b:Same d e):Same H e:=λc o h=>b c o (a c o h)
theorem Same.free{H a:Hp}(e:Same H a){l:Addr}(h:a l=Option.none):H l=Option.none:=by
 cases q:H l with
 | none=>rfl
 | some o =>
  rw[e l o q]at h;cases h
theorem Same.seq{K:Frag}{H b:Hp}{a:Addr}{xs:List V}(e:Same H b)(h:SqL K H a xs):SqL K b a xs:=by
 rcases h with(h | ⟨o,h⟩) | h
 .exact .inl (.inl (e _ _ h))
 .exact .inl (.inr ⟨o,e _ _ h⟩)
 .exact .inr h
end L2
set_option maxHeartbeats 4000000
namespace L2
open PySem PySem.Spec PyProof.Rows
def Its(x:Str):It:=⟨λi _=>i<x.cps.size,λi H y H'=>H'=H/\∃ c,x.cps[i]? = some c/\y=.str ⟨#[c]⟩,λi _=>x.cps.size<=i⟩
theorem mJ{P:Program}{w:World}{K:Frag}{tg:Expr}(x:Str)(m:Addr){ty:String}{t:Tok}(n:ty = "str_ascii_iterator" \/ ty = "str_iterator") :
  Turn P w K tg (Its x) [m] m (λi h=>h.IsStrIter m ty x t i) where
 mem:=by simp
 obj:=λi h f b a=>by
  have e:b=m:=by simpa using a
  subst e;obtain⟨o,e,c,d⟩:=f;exact⟨o,e,λv z=>by rw[d]at z;cases z⟩
 keep:=λi h l f k=>by
  obtain⟨o,e,r⟩:=f;exact⟨o,k m (by simp) o e,r⟩
 item:=by
  intro X N G M Q i j s L H E I A f J;subst N G M;have q:i<x.cps.size:=J;obtain⟨D,C,S,y,u,B⟩:=A m (by simp)
  rcases n with rfl | rfl
  .refine wpAny_pyNext_ascii_item f (c:=x.cps[i]) (by simp[q]) λl g R=>?_
   have F:Inv X j L H { s with heap:=l,toks:=s.toks+1 }:=I.turned (λb o a e=>(R.2 b a).trans e) D C y u B;obtain⟨o,e,c,d⟩:=id g;exact⟨_,rfl,mS (s:={ s with heap:=l,toks:=s.toks+1 }) e c d (by decide) ⟨.str ⟨#[x.cps[i]]⟩,H,F,⟨_,rfl⟩,⟨rfl,x.cps[i],by simp[q],rfl⟩,g,λb a=>(A b a).1⟩⟩
  .refine wpAny_pyNext_wide_item f (c:=x.cps[i]) (by simp[q]) λl g R=>?_
   have F:Inv X j L H { s with heap:=l,toks:=s.toks+1 }:=I.turned (λb o a e=>(R.2 b a).trans e) D C y u B;obtain⟨o,e,c,d⟩:=id g;exact⟨_,rfl,mS (s:={ s with heap:=l,toks:=s.toks+1 }) e c d (by decide) ⟨.str ⟨#[x.cps[i]]⟩,H,F,⟨_,rfl⟩,⟨rfl,x.cps[i],by simp[q],rfl⟩,g,λb a=>(A b a).1⟩⟩
 done:=by
  intro X N G M Q i j s L H E I A f J;subst N G M;have q:x.cps.size<=i:=J;obtain⟨D,C,S,y,u,B⟩:=A m (by simp)
  rcases n with rfl | rfl
  .exact wpAny_pyNext_ascii_end (I.ok.hd Q) f (by simp[q]) λl O=>⟨rfl,I.turned (t':=s.toks) (λb o a e=>O b o a e) D C y u B⟩
  .exact wpAny_pyNext_wide_end (I.ok.hd Q) f (by simp[q]) λl O=>⟨rfl,I.turned (t':=s.toks) (λb o a e=>O b o a e) D C y u B⟩
 self:=λ_ _ _ _ _ f h=>by
  rcases n with rfl | rfl
  .exact wpAny_pyIter_striter_ascii f h
  .exact wpAny_pyIter_striter_wide f h
def yX(tl:TE):TI:=λσ H R=>tl σ H λx H1=>∃ z,x=.str z/\R (Its z) H1
theorem wG{X:Cx}{tg l:Expr}{tl:TE}(j:PE X l tl):PI X tg l (yX tl):=by
 intro a s g H R I h;refine thn (j a s g H _ I h) λv c ⟨x,f,d,k,i⟩=>?_
 obtain⟨z,e,q⟩:=i;subst e;obtain⟨t,rfl⟩:=k;refine wpAny_pyIter_strU ?_;refine⟨c.heap.objs.size,[c.heap.objs.size],_,_,f,rfl,d.kept (t':=c.toks) λb o e=>Heap.get?_push_of_some _ e,mJ (ty:=strIterType z) (t:=t) z _ ?_,⟨_,Heap.get?_push_size _ rfl,rfl,rfl⟩,λb hb=>?_,q⟩
 .unfold strIterType
  split
  .exact .inl rfl
  .exact .inr rfl
 .have e:b=c.heap.objs.size:=by simpa using hb
  subst e;exact d.fpOk (Nat.le_refl _) (d.hok.fresh (Nat.le_refl _))
def Wk:St->St->Prop
 | [],[]=>True
 | Option.none::r,_::q=>Wk r q
 | some a::r,b::q=>b=some a/\Wk r q
 | _,_=>False
theorem Wk.len:∀{a b:St},Wk a b->a.length=b.length
 | [],[],_=>rfl
 | Option.none::r,_::q,h=>congrArg (· + 1) (Wk.len (a:=r) (b:=q) h)
 | some _::r,_::q,h=>congrArg (· + 1) (Wk.len (a:=r) (b:=q) h.2)
 | [],_::_,h=>h.elim
 | Option.none::_,[],h=>h.elim
 | some _::_,[],h=>h.elim
theorem Wk.get:∀{a b:St},Wk a b->∀(i:Nat) v,a[i]? = some (some v)->b[i]? = some (some v)
 | [],[],_,i,v,e=>by simp at e
 | Option.none::r,y::q,h,0,v,e=>by simp at e
 | Option.none::r,y::q,h,i+1,v,e=>by simpa using Wk.get (a:=r) (b:=q) h i v (by simpa using e)
 | some x::r,y::q,h,0,v,e=>by
  have c:x=v:=by simpa using e
  rw[h.1,c] <;> simp
 | some x::r,y::q,h,i+1,v,e=>by simpa using Wk.get (a:=r) (b:=q) h.2 i v (by simpa using e)
 | [],_::_,h,_,_,_=>h.elim
 | Option.none::_,[],h,_,_,_=>h.elim
 | some _::_,[],h,_,_,_=>h.elim
def dU(cells:List (Str×Addr)):List (Str×NameKind)->List (Str×Addr)->List (Str×Addr)
 | [],acc=>acc
 | (n,k)::r,acc=>if k == .free then dU cells r ((n,(cells.lookup n).getD 0)::acc) else dU cells r acc
theorem eW{d:Scope}{env:Env}(h:∀ y∈d.names,y.2=.free->∃ c,env.cells.lookup y.1=some c):closureFor d env=pure (dU env.cells d.names []):=by
 unfold closureFor
 have e:∀(l:List (Str×NameKind)) (b:List (Str×Addr)),(∀ y∈l,y.2=.free->∃ c,env.cells.lookup y.1=some c) ->
   (forIn l b λx r=>match x with | (name,kind)=>if (kind == .free)=true then do let a <- cellOf env name;pure (ForInStep.yield ((name,a)::r)) else pure (ForInStep.yield r):Sem (List (Str×Addr)))=pure (dU env.cells l b):=by
  intro l
  induction l with
  | nil=>intro b _;rfl
  | cons y r ih =>
   intro b j;obtain⟨n,k⟩:=y;have i:∀ y∈r,y.2=.free->∃ c,env.cells.lookup y.1=some c:=λy o=>j y (mem_cons_of_mem _ o)
   rw[forIn_cons]
   by_cases hk:k=.free
   .subst hk
    obtain⟨c,g⟩:=j (n,.free) mem_cons_self rfl;have q:cellOf env n=pure c:=by unfold cellOf;rw[g]
    have f:dU env.cells ((n,.free)::r) b=dU env.cells r ((n,c)::b):=by
     show(if (NameKind.free == NameKind.free)=true then dU env.cells r ((n,(env.cells.lookup n).getD 0)::b) else dU env.cells r b)=_;rw[if_pos (by decide),g];rfl
    rw[f,<- ih ((n,c)::b) i];show(do let x <- (if (NameKind.free == NameKind.free)=true then do let a <- cellOf env n;pure (ForInStep.yield ((n,a)::b)) else pure (ForInStep.yield b):Sem _);_)=_;rw[if_pos (by decide),q];rfl
   .have m:(k == NameKind.free)=false:=by simpa using hk
    have f:dU env.cells ((n,k)::r) b=dU env.cells r b:=by
     show(if (k == NameKind.free)=true then dU env.cells r ((n,(env.cells.lookup n).getD 0)::b) else dU env.cells r b)=_;rw[m];rfl
    rw[f,<- ih b i];show(do let x <- (if (k == NameKind.free)=true then do let a <- cellOf env n;pure (ForInStep.yield ((n,a)::b)) else pure (ForInStep.yield b):Sem _);_)=_;rw[m];rfl
 have:=e d.names [] h
 first | exact this | (rw[this];rfl) | simpa using this
theorem dW{a:List (Str×Addr)}:∀{l:List (Str×NameKind)}{acc:List (Str×Addr)}{n:Str}{c:Addr},(∀ y∈l,y.2=.free->∃ c,a.lookup y.1=some c)->(∀ n c,acc.lookup n=some c->a.lookup n=some c) ->
  (dU a l acc).lookup n=some c->a.lookup n=some c
 | [],acc,n,c,_,ha,e=>ha n c e
 | (m,k)::r,acc,n,c,hl,ha,e=>by
  have h:∀ y∈r,y.2=.free->∃ c,a.lookup y.1=some c:=λy j=>hl y (mem_cons_of_mem _ j)
  have b:(if (k == NameKind.free)=true then dU a r ((m,(a.lookup m).getD 0)::acc) else dU a r acc).lookup n=some c:=e
  by_cases hk:(k == NameKind.free)=true
  .rw[if_pos hk]at b
   refine dW h (λn c z=>?_) b;obtain⟨d,i⟩:=hl (m,k) mem_cons_self (by simpa using hk);rw[lookup_cons]at z
   by_cases hn:(n == m)=true
   .rw[hn]at z
    have:n=m:=by simpa using hn
    subst this;have f:a.lookup n=some d:=i;rw[f]at z ⊢;simpa using z
   .have g:(n == m)=false:=by simpa using hn
    rw[g]at z;exact ha n c z
  .rw[if_neg hk]at b
   exact dW h ha b
theorem fL{b:List (Str×Addr)}:∀{l:List (Str×NameKind)}{acc:List (Str×Addr)}{n:Str},((n,NameKind.free)∈l\/∃ c,acc.lookup n=some c)->∃ c,(dU b l acc).lookup n=some c
 | [],acc,n,h=>by
  rcases h with h | h
  .cases h
  .exact h
 | (m,k)::r,acc,n,h=>by
  show ∃ c,(if (k == NameKind.free)=true then dU b r ((m,(b.lookup m).getD 0)::acc) else dU b r acc).lookup n=some c
  have d:∀ a,n=m\/(∃ c,acc.lookup n=some c)->∃ c,((m,a)::acc).lookup n=some c:=λa z=>by
   rw[lookup_cons]
   by_cases hn:(n == m)=true
   .rw[hn];exact⟨_,rfl⟩
   .have f:(n == m)=false:=by simpa using hn
    rw[f]
    rcases z with z | z
    .exact absurd (by simpa using z) hn
    .exact z
  by_cases hk:(k == NameKind.free)=true
  .rw[if_pos hk]
   refine fL ?_
   rcases h with h | h
   .rcases mem_cons.mp h with e | h
    .exact .inr (d _ (.inl (congrArg Prod.fst e)))
    .exact .inl h
   .exact .inr (d _ (.inr h))
  .rw[if_neg hk]
   refine fL ?_
   rcases h with h | h
   .rcases mem_cons.mp h with e | h
    .have:k=.free:=(congrArg Prod.snd e).symm
     rw[this]at hk;exact absurd (by decide) hk
    .exact .inl h
   .exact .inr h
def rlb(env:Env)(p:Str×NameKind):Str×NameKind:=if (p.2 == NameKind.free && env.scope.kind == ScopeKind.function && env.kindOf p.1 == some NameKind.cell)=true then (p.1,NameKind.cell) else p
theorem jp(a:Scope)(env:Env):(relabel a env).names=a.names.map (rlb env):=rfl
theorem tj(env:Env)(p:Str×NameKind):(rlb env p).1=p.1:=by
 unfold rlb
 split <;> rfl
theorem r6{env:Env}{p:Str×NameKind}(h:p.2≠.cell)(h2:(rlb env p).2=.cell\/(rlb env p).2=.free):p.2=.free:=by
 unfold rlb at h2
 split at h2
 .rename_i q
  rw[Bool.and_eq_true,Bool.and_eq_true]at q;simpa using q.1.1
 .rcases h2 with h2 | h2
  .exact absurd h2 h
  .exact h2
theorem fZ{env:Env}:∀{names:List (Str×NameKind)}{x:Str}{k:NameKind},(∀ y∈names,y.2≠.cell)->(k=.cell\/k=.free)->(names.map (rlb env)).lookup x=some k->(x,NameKind.free)∈names
 | [],x,k,_,_,e=>by simp at e
 | p::r,x,k,hc,hk,e=>by
  have d:∀ y∈r,y.2≠.cell:=λy c=>hc y (mem_cons_of_mem _ c)
  have f:rlb env p=(p.1,(rlb env p).2):=by rw[<- tj env p]
  rw[map_cons,f,lookup_cons]at e
  by_cases hx:x=p.1
  .have a:(x == p.1)=true:=by simpa using hx
   rw[a]at e;have g:(rlb env p).2=k:=Option.some.inj e;have b:=r6 (env:=env) (hc p mem_cons_self) (by rw[g];exact hk);have:(x,NameKind.free)=p:=by rw[hx,<- b]
   rw[this];exact mem_cons_self
  .have a:(x == p.1)=false:=by simpa using hx
   rw[a]at e;exact mem_cons_of_mem _ (fZ d hk e)
theorem eO{env:Env}{a:Scope}{x:Str}{k:NameKind}(b:∀ y∈a.names,y.2≠.cell)(c:k=.cell\/k=.free)(e:(relabel a env).names.lookup x=some k):(x,NameKind.free)∈a.names :=
 fZ (env:=env) b c (by rw[<- jp];exact e)
def ql(ix:List (Option Nat))(σ:St):St:=ix.map λo=>o.bind λi=>(σ[i]?).join
def FreeOk(XN:List Str)(env:Env)(sc:Scope):List Str->List (Option Nat)->Prop
 | [],[]=>True
 | _::N,Option.none::ix=>FreeOk XN env sc N ix
 | y::N,some i::ix=>XN[i]? = some y/\env.kindOf y=some .cell/\(relabel sc env).names.lookup y=some .cell/\FreeOk XN env sc N ix
 | _,_=>False
theorem FreeOk.len{b:List Str}{env:Env}{a:Scope}:∀{N:List Str}{ix:List (Option Nat)},FreeOk b env a N ix->ix.length=N.length
 | [],[],_=>rfl
 | _::N,Option.none::ix,h=>congrArg (· + 1) (FreeOk.len (N:=N) (ix:=ix) h)
 | _::N,some _::ix,h=>congrArg (· + 1) (FreeOk.len (N:=N) (ix:=ix) h.2.2.2)
 | [],_::_,h=>h.elim
 | _::_,[],h=>h.elim
theorem FreeOk.get{c:List Str}{env:Env}{b:Scope}:∀{N:List Str}{ix:List (Option Nat)},FreeOk c env b N ix->∀(j:Nat) (y:Str) (i:Nat),N[j]? = some y->ix[j]? = some (some i) ->
  c[i]? = some y/\env.kindOf y=some .cell/\(relabel b env).names.lookup y=some .cell
 | [],[],_,j,y,i,e,_=>by simp at e
 | _::N,Option.none::ix,h,0,y,i,e,e2=>by simp at e2
 | _::N,Option.none::ix,h,j+1,y,i,e,e2=>FreeOk.get (N:=N) (ix:=ix) h j y i (by simpa using e) (by simpa using e2)
 | z::N,some k::ix,h,0,y,i,e,e2=>by
  have d:z=y:=by simpa using e
  have a:k=i:=by simpa using e2
  subst d;subst a;exact⟨h.1,h.2.1,h.2.2.1⟩
 | _::N,some _::ix,h,j+1,y,i,e,e2=>FreeOk.get (N:=N) (ix:=ix) h.2.2.2 j y i (by simpa using e) (by simpa using e2)
 | [],_::_,h,_,_,_,_,_=>h.elim
 | _::_,[],h,_,_,_,_,_=>h.elim
def cxB(X:Cx)(sc:Scope)(C:Addr)(N:List Str)(s₀:Shared)(H₀:Hp)(fp:List Addr):Cx :=
 { X with N:=N,s₀:=s₀,H₀:=H₀,env:=compEnvC sc (dU X.env.cells sc.names []) C X.env,outer:=X.stack,ex:=fp,fn:=λ_=>false,pn:=[],xe:=λ_ _=>False }
structure CompOk(X:Cx)(sc:Scope)(N:List Str)(ix:List (Option Nat)):Prop where
 kind:sc.kind=.function
 nocell:(sc.names.all λy=>y.2 != .cell)=true
 names:(sc.names.all λy=>y.2 != .local || sc.names.lookup y.1 == some .local) = true
 free:(sc.names.all λy=>y.2 != .free || X.env.scope.names.lookup y.1 == some .cell)=true
 fr:FreeOk X.N X.env sc N ix
section
variable {X:Cx}{sc:Scope}{N:List Str}{ix:List (Option Nat)}{pins:List (Addr×Obj)}{σ:St}{H:Hp}{s:Shared}
theorem CompOk.cells(c:CompOk X sc N ix)(a:X.Ok):∀ y∈sc.names,y.2=.free->∃ c,X.env.cells.lookup y.1=some c:=λy d e=>by
 have h:=all_eq_true.mp c.free y d;rw[e]at h;have b:X.env.scope.names.lookup y.1=some .cell:=by simpa using h
 exact a.has y.1 (.inl b)
theorem CompOk.nc(c:CompOk X sc N ix):∀ y∈sc.names,y.2≠.cell:=λy a=>by simpa using all_eq_true.mp c.nocell y a
theorem CompOk.nm(c:CompOk X sc N ix):∀ y ∈ sc.names,y.2 = .local->sc.names.lookup y.1 = some .local:=λy a e=>by
 have h:=all_eq_true.mp c.names y a;rw[e]at h;simpa using h
theorem qA{C:Addr}{F:List Addr}{h₁:Heap}{t':Nat}(c:CompOk X sc N ix)(I:Inv X pins σ H s)(B:∀ b∈F,FpOk X pins H b)(E:∀ b∈F,b<s.heap.objs.size)(D:s.heap.objs.size<=C)
  (T:h₁.Ns C (λ_=>none)) (f:∀ b o,s.heap.get? b=some o->h₁.get? b=some o):Inv (cxB X sc C N s H F) [] (ql ix σ) H { s with heap:=h₁,toks:=t' }:=by
 have h:=c.cells I.ok;have a:∀ n c,(dU X.env.cells sc.names []).lookup n=some c->X.env.cells.lookup n=some c:=λn c e=>dW h (λn c z=>by simp at z) e
 refine⟨⟨I.ok.mod,c.kind,I.ok.glob,I.ok.blt,D,λx y d S K=>I.ok.inj x y d (a x d S) (a y d K),λx hx=>?_,λx d z=>absurd z (by simp[cxB]),I.ok.hd,I.ok.frames,.inl rfl,λb hb=>⟨?_,λx d e=>?_⟩,I.bs,Nat.le_trans I.ok.bsz I.sz,λb o e hb=>?_,λb hb hs=>?_,I.stack,I.stkFree⟩,
  rfl,I.bare,Un.kept f,⟨_,T,λj y v O k W=>?_⟩,λx d e=>?_,I.hok.fresh D,λx d e=>I.freeC x d (a x d e),λp hp=>absurd (show p∈([]:List (Addr×Obj)) from hp) (by simp),I.hok.kept f,?_⟩
 .refine fL (.inl ?_)
  rcases hx with hx | hx
  .exact eO c.nc (.inl rfl) (show(relabel sc X.env).names.lookup x=some .cell from hx)
  .exact eO c.nc (.inr rfl) (show(relabel sc X.env).names.lookup x=some .free from hx)
 .exact Nat.ne_of_lt (Nat.lt_of_lt_of_le (E b hb) D)
 .exact(B b hb).2.2.2.2.1 x d (a x d e)
 .rcases(B b hb).2.2.2.1 with z | z
  .exact I.ok.noex b o e z
  .exact absurd (Nat.lt_of_lt_of_le (Heap.lt_size e) (Nat.le_trans I.ok.bsz z)) (Nat.lt_irrefl _)
 .rcases mem_cons.mp (I.stkSub b hs) with z | z
  .exact(B b hb).2.1 z
  .exact(B b hb).2.2.1 z
 .have R:∃ i,ix[j]? = some (some i)/\σ[i]? = some (some v):=by
   unfold ql at k;rw[List.getElem?_map]at k;cases q:ix[j]? with
   | none=>rw[q]at k;cases k
   | some o =>
    rw[q]at k;cases o with
    | none=>cases k
    | some i =>
     refine⟨i,rfl,?_⟩;have g:(σ[i]?).join=some v:=Option.some.inj k;cases q2:σ[i]? with
     | none=>rw[q2]at g;cases g
     | some w=>rw[q2]at g;exact congrArg some g
  obtain⟨i,P,M⟩:=R;obtain⟨L,G,J⟩:=c.fr.get j y i O P;obtain⟨m,Y,U⟩:=I.loc;obtain⟨u,r,l⟩:=U i y v L M (.inr (.inl G));refine⟨u,r,?_⟩
  rcases l with⟨z,_⟩ | ⟨_,d,Q,A⟩
  .rw[G]at z;cases z
  .obtain⟨d',hd'⟩:∃ d',(dU X.env.cells sc.names []).lookup y=some d':=fL (.inl (eO c.nc (.inl rfl) J))
   have:=a y d' hd';rw[Q]at this;cases this;exact .inr ⟨.inl J,d,hd',A.keeps f⟩
 .obtain⟨v,z⟩:=I.cell x d (a x d e)
  exact⟨v,z.keeps f⟩
 .show(ql ix σ).length=N.length
  unfold ql;rw[length_map,c.fr.len]
theorem mM{C:Addr}{c:List Addr}{a:List (Addr×Obj)}{d:St}{e:Hp}{f:Shared}(I:Inv X pins σ H s)(h:∀ b∈c,FpOk X pins H b)(J:Inv (cxB X sc C N s H c) a d e f):Inv X pins σ e f:=by
 refine I.call' (ch:=c) J.os J.base J.hok J.bare λb l=>?_
 obtain⟨n,k,m,g,j,i⟩:=h b l;exact⟨g,k,j,i⟩
end
def PTs(X:Cx)(ifs:List Expr)(t:TT):Prop :=
 ∀(pins:List (Addr×Obj)) (s:Shared) (σ:St) (H:Hp) (Q:Bool->Hp->Prop),Inv X pins σ H s->t σ H Q ->
  wpAny (model X.prog X.w) X.A (forIn ifs true λc r=>if r=true then do let ok <- isTrue c X.env (eval c X.env);pure (ForInStep.yield ok) else pure (ForInStep.yield r)) (TP X pins σ Q) X.xe s
def zb:TT:=λ_ H Q=>Q true H
theorem cj{X:Cx}:PTs X [] zb:=λ_ _ _ H _ I h=>wpAny_tests_nil ⟨H,I,h⟩
theorem gj{X:Cx}{c:Expr}{t:TT}(h:PT X c t):PTs X [c] t:=λa s b H Q I d=>wpAny_tests_one (h a s b H Q I d)
def iW(J:It)(D:Addr)(σb:St)(g:TG)(tt:TT)(te:TE)(Q:Hp->List V->Prop)(W:Nat->Nat->List V->Hp->Prop):Prop :=
 ∀ i m ys H,W i m ys H->H D=some (.lst ys)/\((J.stop i H/\Q H ys)\/(J.go i H/\∀ x H3,J.yld i H x H3->g x σb H3 λσ4 H4=>Wk σb σ4/\tt σ4 H4 λb H5 =>
  if b=true then te σ4 H5 λy H6=>H6 D=some (.lst ys)/\ys.length<sizeLine/\∃ m',m'<m/\W (i+1) m' (ys++[y]) (upd H6 D (.lst (ys++[y]))) else ∃ m',m'<m/\W (i+1) m' ys H5))
def uZ(ix:List (Option Nat))(wi:TI)(g:TG)(tt:TT)(te:TE):TE:=λσ H Q=>wi σ H λJ H1=>∀ D,H1 D=none->∃ W,(∃ m,W 0 m [] (upd H1 D (.lst [])))/\iW J D (ql ix σ) g tt te (λH _=>Q (.ref D) H) W
section
variable {X:Cx}{sc:Scope}{N:List Str}{ix:List (Option Nat)}{elt tg iter:Expr}{ifs:List Expr}{pos:Pos}{wi:TI}{g:TG}{tt:TT}{te:TE}
structure Blk(X:Cx)(sc:Scope)(N:List Str)(tg elt:Expr)(ifs:List Expr)(g:TG)(tt:TT)(te:TE):Prop where
 tg:∀ C s H fp,PG (cxB X sc C N s H fp) tg g
 tests:∀ C s H fp,PTs (cxB X sc C N s H fp) ifs tt
 elt:∀ C s H fp,PE (cxB X sc C N s H fp) elt te
theorem qz{J:It}{j:List Addr}{L D:Addr}{G:Nat->Heap->Prop}{a:St}{Q:Hp->List V->Prop}{R:Result->Shared->Prop}{W:Nat->Nat->List V->Hp->Prop}
  (hc:X.calm=true) (I:X.xe=λ_ _=>False) (T:Turn X.prog X.w X.K tg J j L G) (hg:PG X tg g) (ht:PTs X ifs tt) (he:PE X elt te) (m:iW J D a g tt te Q W)
  (c:∀{H':Hp},(∀ b∈j,H' b=none)->∀ b∈j,FpOk X [] H' b)
  (O:∀{σ':St}{H':Hp}{s':Shared}{ys:List V},Inv X [] σ' H' s'->Q H' ys->R (.ok .next) s')
  {m0 i0:Nat}{E:List V}{H0:Hp}{s0:Shared}(I0:Inv X [] a H0 s0) (ab:G i0 s0.heap) (S:∀ b∈j,H0 b=none) (w0:W i0 m0 E H0) :
  codeAny (model X.prog X.w) X.A (.compLoop (.ListComp elt [⟨tg,iter,ifs,0⟩] sc pos) 0 (.ref L) (.ref D) X.env) R s0:=by
 have f:∀{E':Value->Shared->Prop}(e:Value) (s':Shared),X.xe e s'->E' e s':=λ{E'} e s' z=>by rw[I]at z;exact z.elim
 refine codeAny_loop rfl (λn s'=>∃ i ys H',Inv X [] a H' s'/\G i s'.heap/\(∀ b∈j,H' b=none)/\W i n ys H') ?_ m0 ⟨i0,E,H0,I0,ab,S,w0⟩;rintro n s3 ⟨i,ys,H3,I3,C,F,w3⟩;show wpAny _ X.A ((compTurn (.ListComp elt [⟨tg,iter,ifs,0⟩] sc pos) 0 (.ref L) (.ref D) X.env).onRaise (λx=>do noteFrame x X.env;theTreesLotGoes x)) _ _ s3;refine wpAny_noted ?_;rw[compTurn_list];refine wpAny_bind (wpAny_standAt (wpAny_bind ?_));obtain⟨al,next⟩:=m i n ys H3 w3
 rcases next with⟨B,q⟩ | ⟨go,w⟩
 .refine thn (T.done X rfl rfl rfl hc i [] s3 a H3 _ I3 (c F) C B) λr s4 ⟨hr,I4⟩=>?_
  subst hr;exact wpAny_pure (O I4 q)
 .refine thn (T.item X rfl rfl rfl hc i [] s3 a H3 _ I3 (c F) C go) λr s4 ⟨u,hr,h4⟩=>?_
  subst hr;refine wpAny_bind (thn h4 λ_ s5 ⟨x,H5,I5,r5,y5,h,K⟩=>?_);have ah:=I5.pinned (c K) (T.obj _ _ h)
  have mR:∀{σ':St}{H':Hp}{s':Shared},Inv X ([]++je j s5.heap) σ' H' s'->Wk a σ'->Inv X [] a H' s'/\G (i+1) s'.heap/\∀ b∈j,H' b=none:=λ{σ' H' s'} l A=>by
   refine⟨(l.unpinned).weak A.len A.get,T.keep _ _ _ h λb H o e=>(l.pin (b,o) (mem_append_right _ (mem_append_right _ (eQ H e)))).1,λb H=>?_⟩;obtain⟨o,e,d⟩:=T.obj _ _ h b H;exact(l.pin (b,o) (mem_append_right _ (mem_append_right _ (eQ H e)))).2.1
  refine wpAny_bind (wpAny_mono (hg _ s5 a H5 x u _ ah r5 (w x H5 y5)) (λ_ s6 ⟨k,H6,I6,A,q6⟩=>?_) f);refine wpAny_bind (wpAny_mono (ht _ s6 k H6 _ I6 q6) (λok s7 ⟨H7,l,q7⟩=>?_) f);cases ok with
  | false =>
   obtain⟨N,hm,w7⟩:=q7;obtain⟨Z,P,Y⟩:=mR l A;exact wpAny_pure ⟨rfl,N,hm,i+1,ys,H7,Z,P,Y,w7⟩
  | true =>
   refine wpAny_bind (wpAny_bind (wpAny_mono (he _ s7 k H7 _ l q7) (λv s8 ⟨y,H8,I8,r8,M,U,N,hm,w8⟩=>?_) f));refine wpAny_bind (wpAny_mono (jJ _ s8 k H8 (.ref D) [y] (.ref D) [v] (λ_ H9=>H9=upd H8 D (.lst (ys++[y]))) I8 rfl (.cons r8 .nil) ⟨D,ys,y,rfl,rfl,M,U,rfl⟩) (λ_ s9 ⟨z,H9,I9,_,e9⟩=>?_) f);subst e9;obtain⟨Z,P,Y⟩:=mR I9 A;exact wpAny_pure (wpAny_pure ⟨rfl,N,hm,i+1,ys++[y],_,Z,P,Y,w8⟩)
theorem j3{a:List (Addr×Obj)}{L:St}{H:Hp}{s:Shared}{E:Value->Shared->Prop}{RR:Value->Addr->Result->Shared->Prop}{M:Addr}{i:List Addr}{F:Nat->Heap->Prop}{J:It}{Q:Addr->Hp->List V->Prop}
  (hc:X.calm=true) (c:CompOk X sc N ix) (B:Blk X sc N tg elt ifs g tt te) (I:Inv X a L H s) (T:Turn X.prog X.w X.K tg J i M F) (st:F 0 s.heap) (Y:∀ b∈i,FpOk X a H b)
  (h:∀ D,H D=none->∃ W,(∃ m,W 0 m [] (upd H D (.lst [])))/\iW J D (ql ix L) g tt te (Q D) W)
  (hR:∀ D C H' s' ys,Inv X a L H' s'->FpOk X a H' C->(∃ m,s'.heap.Ns C m)->Q D H' ys->RR (.ref D) C (.ok .next) s') :
  wpAny (model X.prog X.w) X.A (newList []) (λacc s₃=>wpAny (model X.prog X.w) X.A (newFunctionEnv sc X.env.globals (dU X.env.cells sc.names []) [] X.env.qual none .none (some X.env)) (λcenv s₄ =>
   codeAny (model X.prog X.w) X.A (.compStart (.ListComp elt [⟨tg,iter,ifs,0⟩] sc pos) 0 (.ref M) acc { cenv with scope:=relabel sc X.env }) (RR acc cenv.locals) s₄) E s₃) E s:=by
 have R:∀ b∈i,b<s.heap.objs.size:=λb f=>let ⟨o,e,_⟩:=T.obj _ _ st b f;Heap.lt_size e
 refine wpAny_newObj_type ?_ (by show 0<=sizeLine;exact Nat.zero_le _);have hD:H s.heap.objs.size=none:=I.hok.fresh (Nat.le_refl _);obtain⟨W,⟨m0,w0⟩,v⟩:=h s.heap.objs.size hD;have w:Inv X a L (upd H s.heap.objs.size (.lst [])) { s with heap:=s.heap.push { cls:=.type "list",data:=.seq ([]:List Value).toArray } }:=I.lnew (t':=s.toks) (its:=[]) .nil (Nat.zero_le _);have Z:∀ b o,s.heap.get? b=some o->(s.heap.push { cls:=.type "list",data:=.seq ([]:List Value).toArray }).get? b=some o:=λb o e=>Heap.get?_push_of_some _ e
 have S:∀ b∈i,b≠s.heap.objs.size:=λb f=>Nat.ne_of_lt (R b f)
 have j:∀ b∈i,FpOk X a (upd H s.heap.objs.size (.lst [])) b:=λb f=>⟨by rw[ai (S b f)];exact(Y b f).1,(Y b f).2⟩
 have A:F 0 (s.heap.push { cls:=.type "list",data:=.seq ([]:List Value).toArray }):=T.keep _ _ _ st λb _ o e=>Z b o e
 generalize hs1:({ s with heap:=s.heap.push { cls:=.type "list",data:=.seq ([]:List Value).toArray } }:Shared)=s1 at w;have k:s1.heap=s.heap.push { cls:=.type "list",data:=.seq ([]:List Value).toArray }:=by rw[<- hs1]
 generalize hDe:s.heap.objs.size=D at *;show wpAny _ _ _ _ _ s1;refine wpAny_newFunctionEnv c.nc (by intro y hy;simp at hy) (λh₁ hns₁ hsb₁=>?_) c.kind;have u:∀ b o,s1.heap.get? b=some o->h₁.get? b=some o:=λb o e=>(hsb₁.2 b (Nat.ne_of_lt (Heap.lt_size e))).trans (Heap.get?_push_of_some _ e)
 have l:∀ b∈i,b<s1.heap.objs.size:=λb f=>by
  obtain⟨o,e,_⟩:=T.obj _ _ A b f;rw[k];exact Heap.lt_size e
 have J0:=qA (h₁:=h₁) (t':=s1.toks+([]:List (Str×Value)).length) c w j l (Nat.le_refl _) (by simpa using hns₁) u;have G:F 0 h₁:=T.keep _ _ _ (by rw[k];exact A:F 0 s1.heap) λb _ o e=>u b o e
 have P:∀{H':Hp},(∀ b∈i,H' b=none)->∀ b∈i,FpOk (cxB X sc s1.heap.objs.size N s1 (upd H D (.lst [])) i) [] H' b:=λ{H'} U b f=>by
  obtain⟨f0,f1,f2,f3,f4,f5⟩:=j b f;refine⟨U b f,Nat.ne_of_lt (l b f),?_,.inl f,λx d e=>f4 x d (dW (c.cells I.ok) (λn c z=>by simp at z) e),λp hp=>absurd (show p∈([]:List (Addr×Obj)) from hp) (by simp)⟩;intro z
  rcases mem_cons.mp (w.stkSub b z) with q | q
  .exact f1 q
  .exact f2 q
 have O:∀{K:St}{H':Hp}{s':Shared}{ys:List V},Inv (cxB X sc s1.heap.objs.size N s1 (upd H D (.lst [])) i) [] K H' s'->Q D H' ys->RR (.ref D) s1.heap.objs.size (.ok .next) s':=λ{K H' s' ys} J q =>
  hR D _ H' s' ys (mM w j J) (w.fpOk (Nat.le_refl _) J.free) (let ⟨m,U,_⟩:=J.loc;⟨m,U⟩) q
 have r:codeAny (model X.prog X.w) X.A (.compLoop (.ListComp elt [⟨tg,iter,ifs,0⟩] sc pos) 0 (.ref M) (.ref D) (cxB X sc s1.heap.objs.size N s1 (upd H D (.lst [])) i).env) (RR (.ref D) s1.heap.objs.size) { s1 with heap:=h₁,toks:=s1.toks+([]:List (Str×Value)).length } :=
  qz (X:=cxB X sc s1.heap.objs.size N s1 (upd H D (.lst [])) i) hc rfl T (B.tg _ _ _ _) (B.tests _ _ _ _) (B.elt _ _ _ _) v P O J0 G (λb f=>(j b f).1) w0
 exact codeAny_compStart_list r (T.self _ 0 _ _ _ G r)
theorem bT(M:X.calm=true)(c:CompOk X sc N ix)(G:PI X tg iter wi)(B:Blk X sc N tg elt ifs g tt te)(R:∀ x,foldedSetIterable iter X.env x=pure x:=by intro _;rfl):PE X (.ListComp elt [⟨tg,iter,ifs,0⟩] sc pos) (uZ ix wi g tt te):=by
 intro a s j H Q I h;rw[eval_ListComp];refine wpAny_comprehension_free (use:=none) rfl R (eW (c.cells I.ok)) c.kind c.nm (thn (G a s j H _ I h) λxv l d=>thn d λitv s₂ h₂=>?_);obtain⟨S,fp,Y,J,W,e,u,T,f,k,m⟩:=h₂;subst e;refine j3 (RR:=λi C=>compPost (model X.prog X.w) X.A X.xe none (EP X a j Q) i C) (Q:=λD H _=>Q (.ref D) H) M c B u T f k m ?_;intro D C P n U K v r q;refine⟨_,r.choose_spec,λZ O=>⟨.ref D,P,?_,rfl,q⟩⟩;obtain⟨L,F,k,A,w,E⟩:=v;exact K.turned (t':=n.toks) (λb o y e=>(O.2 b y).trans e) L F A w E
theorem li{i:Nat}{y:Str}{j f:Pos}(hc:X.calm = true)(R:X.N.Nodup)(hy:X.N[i]? = some y)(M:X.env.scope.names.lookup y = some .local)
  (u:swapsWith (.ListComp elt [⟨tg,iter,ifs,0⟩] sc pos) (some (.Name y j)) f.line X.env=pure true)
  (c:CompOk X sc N ix) (hi:PI X tg iter wi) (B:Blk X sc N tg elt ifs g tt te) (hs:∀ x,foldedSetIterable iter X.env x=pure x:=by intro _;rfl) :
  PS X (.Assign [.Name y j] (.ListComp elt [⟨tg,iter,ifs,0⟩] sc pos) f) (vz (uZ ix wi g tt te) (qX i)):=by
 intro d s F H E I h;rw[exec_Assign_Name_used _ _ _ _ u];refine wpAny_bind (wpAny_standAt (wpAny_bind ?_));show wpAny _ X.A (do let _ <- comprehension (.ListComp elt [⟨tg,iter,ifs,0⟩] sc pos) sc X.env _ (newList []) false (eval iter X.env) (some (assign (.Name y j) X.env))) _ _ s
 refine wpAny_bind (wpAny_mono (wpAny_comprehension_free (use:=some (assign (.Name y j) X.env)) (Q:=λ_ k=>SP X d E .next k) rfl hs (eW (c.cells I.ok)) c.kind c.nm
  (thn (hi d s F H _ I h) λxv O l=>thn l λitv s₂ h₂=>?_)) (λ_ k hq=>wpAny_pure (wpAny_pure hq)) λ_ _ e=>e)
 obtain⟨it,fp,tn,J,H2,e,W,T,w,K,S⟩:=h₂;subst e;refine j3 (RR:=λA C=>compPost (model X.prog X.w) X.A X.xe (some (assign (.Name y j) X.env)) (λ_ k=>SP X d E .next k) A C) (Q:=λD H _=>E.nx (F.set i (some (.ref D))) H) hc c B W T w K S ?_;intro D C H' k ys I' Y U q;show wpAny _ X.A (assign (.Name y j) X.env (.ref D)) _ _ _;obtain⟨f0,L,K,f3,G,f5⟩:=Y;refine wpAny_assign_Name (jI I' R hy (.inl M) (v:=.ref D) rfl (λs2 P ⟨a,sb,ha⟩=>?_) (.inr M));obtain⟨m,hn⟩:=U
 have n:C≠a:=by
  rcases ha with z | z
  .rw[z];exact L
  .exact λe=>G y a z e.symm
 refine⟨m,hn.sameBut sb n,λh3 r=>⟨_,H',?_,q⟩⟩;exact P.turned (t':=s2.toks) (λb o Z e=>(r.2 b Z).trans e) f0 L f3 G f5
end
section
variable {κ:Type} [DecidableEq κ]
def gT(kvs:List (κ×V))(k:κ):Option V:=(kvs.find? λkv=>decide (kv.1=k)).map (·.2)
def fO(kvs:List (κ×V))(k:κ)(v:V):List (κ×V) :=
 if (kvs.any λkv=>decide (kv.1=k))=true then kvs.map (λkv=>if kv.1=k then (kv.1,v) else kv) else kvs++[(k,v)]
theorem gq{p:κ×V}{r:List (κ×V)}{k:κ}(e:p.1=k):gT (p::r) k=some p.2:=by simp[gT,List.find?_cons,e]
theorem gm{p:κ×V}{r:List (κ×V)}{k:κ}(e:¬p.1=k):gT (p::r) k=gT r k:=by simp[gT,List.find?_cons,e]
theorem lB(k:κ):∀ kvs:List (κ×V),(kvs.any λkv=>decide (kv.1=k))=(gT kvs k).isSome
 | []=>rfl
 | p::r=>by
  rw[any_cons]
  by_cases e:p.1=k
  .simp only[gq e,decide_eq_true e,Bool.true_or,Option.isSome_some]
  .rw[gm e,decide_eq_false e,Bool.false_or];exact lB k r
theorem fE(a:List (κ×V))(k:κ)(v:V):(fO a k v).length<=a.length+1:=by
 unfold fO
 split
 .rw[length_map];lia
 .rw[length_append,length_cons,length_nil];lia
theorem RelO.isSome_eq{o:Option V}{u:Option Value}(r:RelO o u):o.isSome=u.isSome:=by
 cases o with
 | none=>cases u with
  | none=>rfl
  | some _=>exact(show False from r).elim
 | some _=>cases u with
  | none=>exact(show False from r).elim
  | some _=>rfl
theorem RelO.getD{o:Option V}{u:Option Value}{d:V}{d':Value}(r:RelO o u)(a:RelV d d'):RelV (o.getD d) (u.getD d'):=by
 cases o with
 | none=>cases u with
  | none=>exact a
  | some _=>exact(show False from r).elim
 | some _=>cases u with
  | none=>exact(show False from r).elim
  | some _=>exact r
theorem KV.val{a:List (κ×V)}{vs:List (κ×Value)}(r:KV a vs)(k:κ):RelO (gT a k) (valueAt vs k):=by
 unfold KV at r
 induction r with
 | nil=>exact True.intro
 | @cons p q ps qs h t ih =>
  obtain⟨d,f⟩:=h
  by_cases e:p.1=k
  .have c:q.1=k:=d.symm.trans e
   have b:valueAt (q::qs) k=some q.2:=by simp[valueAt,List.find?_cons,c]
   rw[gq e,b];exact f
  .have c:¬q.1=k:=λz=>e (d.trans z)
   have b:valueAt (q::qs) k=valueAt qs k:=by simp[valueAt,List.find?_cons,c]
   rw[gm e,b];exact ih
theorem KV.any{a:List (κ×V)}{vs:List (κ×Value)}(r:KV a vs)(k:κ):(a.any λkv=>decide (kv.1=k))=vs.any λkv=>decide (kv.1=k):=by
 unfold KV at r
 induction r with
 | nil=>rfl
 | cons h t ih=>rw[any_cons,any_cons,ih,h.1]
theorem KV.repl{a:List (κ×V)}{vs:List (κ×Value)}(r:KV a vs)(k:κ){y:V}{u:Value}(d:RelV y u) :
  KV (a.map λkv=>if kv.1=k then (kv.1,y) else kv) (vs.map λkv=>if kv.1=k then (kv.1,u) else kv):=by
 unfold KV at r ⊢
 induction r with
 | nil=>exact .nil
 | @cons p q ps qs h t ih =>
  rw[map_cons,map_cons];refine .cons ?_ ih;obtain⟨b,c⟩:=h
  by_cases e:p.1=k
  .rw[if_pos e,if_pos (b.symm.trans e)];exact⟨b,d⟩
  .rw[if_neg e,if_neg (λz=>e (b.trans z))];exact⟨b,c⟩
theorem KV.put{a:List (κ×V)}{vs:List (κ×Value)}(r:KV a vs)(k:κ){y:V}{u:Value}(b:RelV y u):KV (fO a k y) (stored vs k u):=by
 unfold fO stored;rw[r.any k]
 by_cases e:(vs.any λc=>decide (c.1=k))=true
 .rw[if_pos e,if_pos e];exact r.repl k b
 .rw[if_neg e,if_neg e];exact Paired.snoc r ⟨rfl,b⟩
theorem KV.length{a:List (κ×V)}{vs:List (κ×Value)}(r:KV a vs):a.length=vs.length:=Paired.length r
end
theorem rE{P:Program}{w:World}{k:Key}{u:Value}(r:RelV (kV k) u):(bN P w).is k u=true:=by
 cases k with
 | inl i=>obtain⟨t,e⟩:=(show ∃ t,u=Value.int i t from r);subst e;exact mw P w i t
 | inr x=>obtain⟨t,e⟩:=(show ∃ t,u=Value.str x t from r);subst e;exact lV P w x t
theorem jT{P:Program}{w:World}:∀{ks:List Key}{us:List Value},Vals (ks.map kV) us->ItemsAre (bN P w) ks us
 | [],_,r=>by rw[map_nil]at r;cases r;exact .nil
 | k::ks,_,r=>by
  rw[map_cons]at r;cases r with
  | cons h t=>exact .cons (rE h) (jT t)
abbrev KT(H:Hp):List (List Key×V)->List (List Key×Addr×Value)->Prop:=Paired λp q=>p.1=q.1/\H q.2.1=some (.tup (p.1.map kV))/\RelV p.2 q.2.2
theorem KT.val{H:Hp}{a:List (List Key×V)}{xs:List (List Key×Addr×Value)}(r:KT H a xs)(k:List Key):RelO (gT a k) ((atKey xs k).map (·.2)):=by
 induction r with
 | nil=>exact True.intro
 | @cons p q ps qs h t ih =>
  obtain⟨d,_,f⟩:=h
  by_cases e:p.1=k
  .have c:q.1=k:=d.symm.trans e
   have b:atKey (q::qs) k=some q.2:=by simp[atKey,List.find?_cons,c]
   rw[gq e,b];exact f
  .have c:¬q.1=k:=λz=>e (d.trans z)
   have b:atKey (q::qs) k=atKey qs k:=by simp[atKey,List.find?_cons,c]
   rw[gm e,b];exact ih
theorem KT.repl{H:Hp}{a:List (List Key×V)}{xs:List (List Key×Addr×Value)}(r:KT H a xs)(k:List Key){y:V}{u:Value}(f:RelV y u) :
  KT H (a.map λkv=>if kv.1=k then (kv.1,y) else kv) (xs.map (putAt k u)):=by
 induction r with
 | nil=>exact .nil
 | @cons p q ps qs h t ih =>
  rw[map_cons,map_cons];refine .cons ?_ ih;obtain⟨b,c,d⟩:=h;unfold putAt
  by_cases e:p.1=k
  .rw[if_pos e,if_pos (b.symm.trans e)];exact⟨b,c,f⟩
  .rw[if_neg e,if_neg (λz=>e (b.trans z))];exact⟨b,c,d⟩
theorem KT.put{H:Hp}{a:List (List Key×V)}{xs:List (List Key×Addr×Value)}(r:KT H a xs)(k:List Key){b:Addr}{y:V}{u:Value}(f:H b=some (.tup (k.map kV)))(c:RelV y u) :
  KT H (fO a k y) (storedH xs k b u):=by
 have e:(a.any λd=>decide (d.1=k))=(atKey xs k).isSome:=by
  rw[lB,(r.val k).isSome_eq,Option.isSome_map]
 unfold fO storedH;rw[e]
 by_cases q:(atKey xs k).isSome=true
 .rw[if_pos q,if_pos q];exact r.repl k c
 .rw[if_neg q,if_neg q];exact Paired.snoc r ⟨rfl,f,c⟩
theorem KT.keeps{H c:Hp}{a:List (List Key×V)}{xs:List (List Key×Addr×Value)}(r:KT H a xs)(d:∀ b ys,H b=some (.tup ys)->c b=some (.tup ys)):KT c a xs :=
 Paired.mapP r λ_ _ z=>⟨z.1,d _ _ z.2.1,z.2.2⟩
section
variable {P:Program}{w:World}{H:Hp}{h:Heap}{a:Addr}
theorem vi{u:HO}(b:HOk P w H h)(e:Rd H a u):ObjOk P w H h a u:=e.ok b
theorem sG{b:List (Key×V)}(c:HOk P w H h)(e:Rd H a (.dK b)):b.length<=sizeLine/\(a == sysModules)=false/\∃ vs,KV b vs/\h.DictOf (bN P w) a vs :=
 show ObjOk P w H h a (.dK b) from vi c e
theorem yu{b:List (Key×V)}(c:HOk P w H h)(e:H a=some (.dK b)):b.length<=sizeLine/\(a == sysModules)=false/\∃ vs,KV b vs/\h.DictOf (bN P w) a vs:=sG c (.inl e)
theorem ny{b:List Key}(d:HOk P w H h)(e:H a=some (.tup (b.map kV))):(tupleKind (bN P w)).is h b a:=by
 obtain⟨_,c,r,o,f,i,n,g⟩:=(show ObjOk P w H h a (.tup (b.map kV)) from d a _ e)
 exact⟨o,c.toArray,n,f,i,g,by simpa using jT r⟩
theorem qK{b:List (List Key×V)}(d:HOk P w H h)(e:Rd H a (.dT b)):b.length<=sizeLine/\(a == sysModules)=false /\
  ∃ xs,KT H b xs/\h.DictOfH (tupleKind (bN P w)) a xs:=by
 obtain⟨z,y,xs,r,o,u,f,g,n,i,k,j⟩:=(show ObjOk P w H h a (.dT b) from vi d e)
 refine⟨z,y,xs,r,o,u,f,g,n,i,k,λx hx=>?_,j⟩
 have c:∀{l:List (List Key×V)}{m:List (List Key×Addr×Value)},KT H l m->∀ x∈m,(tupleKind (bN P w)).is h x.1 x.2.1:=by
  intro l m q
  induction q with
  | nil=>intro x hx;exact nomatch hx
  | @cons p q ps qs hq t ih =>
   intro x hx
   rcases mem_cons.mp hx with e | hx
   .subst e
    exact ny d (by rw[<- hq.1];exact hq.2.1)
   .exact ih x hx
 exact c r x hx
theorem xy{b:List (List Key×V)}(c:HOk P w H h)(e:H a=some (.dT b)):b.length<=sizeLine/\(a == sysModules)=false /\
  ∃ xs,KT H b xs/\h.DictOfH (tupleKind (bN P w)) a xs:=qK c (.inl e)
end
def xV(H:Hp)(a:Addr)(y:V)(r:Option V):Prop :=
 (∃ kvs k,Rd H a (.dK kvs)/\y=kV k/\r=gT kvs k)\/∃ kvs k b,Rd H a (.dT kvs)/\y=.ref b/\H b=some (.tup (k.map kV))/\r=gT kvs k
def xF(H:Hp)(a:Addr)(y v:V)(H':Hp):Prop :=
 (∃ kvs k,H a=some (.dK kvs)/\y=kV k/\kvs.length<sizeLine/\H'=upd H a (.dK (fO kvs k v))) \/
 ∃ kvs k b,H a=some (.dT kvs)/\y=.ref b/\H b=some (.tup (k.map kV))/\kvs.length<sizeLine/\H'=upd H a (.dT (fO kvs k v))
section
variable {X:Cx}{pins:List (Addr×Obj)}{σ:St}{H:Hp}{s:Shared}{a:Addr}{y v:V}{u r:Value}{o:Option V}{A:Around}{E:Value->Shared->Prop}
theorem Inv.big(I:Inv X pins σ H s):sysModules<s.heap.objs.size:=by
 have h:mainGlobals<s.heap.objs.size:=(I.mod.glob.keeps I.bk).lt;exact Nat.lt_trans (by decide) h
theorem pj{h':Heap}{t':Nat}{c:HO}(I:Inv X pins σ H s)(h:Mut (H a))(i:Heap.SameBut a s.heap h')(g:∃ q,h'.get? a=some q)(d:ObjOk X.prog X.w (upd H a c) h' a c) :
  Inv X pins σ (upd H a c) { s with heap:=h',toks:=t' } :=
 I.write (x:=a) (e:=a) h (.inl rfl) (λb q f z=>(i.2 b f).trans z) g d
theorem wc{P:Program}{w:World}{f:Hp}{h':Heap}{b:List (Key×V)}{vs:List (Key×Value)}(z:b.length<=sizeLine)(d:(a == sysModules)=false)(c:KV b vs)(e:h'.DictOf (bN P w) a vs) :
  ObjOk P w f h' a (.dK b):=⟨z,d,vs,c,e⟩
theorem pB{K:Hp}{Q:Unit->Shared->Prop}(S:A.units+1<cLine)(I:Inv X pins σ H s)(g:xF H a y v K)(F:RelV y u)(D:RelV v r)(h:∀ s',Inv X pins σ K s'->Q () s') :
  wpAny (model X.prog X.w) A (setItem (.ref a) u r) Q E s:=by
 rcases g with⟨f,k,e,o,l,m⟩ | ⟨f,k,b,e,o,G,l,m⟩
 .subst o m
  obtain⟨z,w,M,d,n⟩:=yu I.hok e;have B:M.length<=sizeLine:=by rw[<- d.length];exact z
  have x:(fO f k v).length<=sizeLine:=by have:=fE f k v;lia
  refine wpAny_setItem_pairs (hsz:=B) (rE F) n λJ i C=>h _ ?_
  have U:∃ q,J.get? a=some q:=let ⟨q,_,_,j,_⟩:=i;⟨q,j⟩;exact pj I (by rw[e];exact True.intro) C U (wc x w (d.put k D) i)
 .subst o m
  cases(show u=Value.ref b from F);obtain⟨z,w,N,d,n⟩:=xy I.hok e;have B:N.length<=sizeLine:=by rw[<- Paired.length d];exact z
  have x:(fO f k v).length<=sizeLine:=by have:=fE f k v;lia
  refine wpAny_setItem_heap (hsz:=B) (tupleKind_room_in1 S) (ny I.hok G) n λJ i C=>h _ ?_
  obtain⟨q,W,L,j,P,T,R,_,O⟩:=i;refine pj I (by rw[e];exact True.intro) C ⟨q,j⟩ ⟨x,w,_,(d.put k G D).keeps λc ys ec=>?_,q,W,L,j,P,T,R,O⟩;rw[ai (vn ec e (λz=>nomatch z))];exact ec
end
section
variable {X:Cx}{pins:List (Addr×Obj)}{σ:St}{H:Hp}{s:Shared}{a:Addr}{kvs:List (Key×V)}{k:Key}{u:Value}{A:Around}{E:Value->Shared->Prop}
end
def yv(td ty tv:TE):TS:=λD σ H=>tv σ H λv H1=>td σ H1 λx H2=>ty σ H2 λy H3=>∃ a H4,x=.ref a/\xF H3 a y v H4/\D.nx σ H4
section
variable {X:Cx}{o i e value:Expr}{pos pos' tpos:Pos}{td ty tv:TE}
theorem tJ(w:X.A.units+1<cLine)(e:PE X o td)(m:PE X i ty)(q:PE X value tv)(A:swapsWith value (some (.Subscript o i pos')) pos.line X.env=pure false) :
  PS X (.Assign [.Subscript o i pos'] value pos) (yv td ty tv):=by
 intro b s c H D I h;refine wpAny_Assign_Subscript (thn (q b s c H _ I h) λr f ⟨v,d,n,k,l⟩=>thn (e b f c d _ n l) λu s2 ⟨x,H2,I2,rx,q2⟩=>thn (m b s2 c H2 _ I2 q2) λiv s3 ⟨y,H3,I3,ry,a,H4,ex,g,q3⟩=>?_) A;subst ex;obtain rfl:u=Value.ref a:=rx
 exact pB w I3 g ry k λB j=>⟨c,H4,j,q3⟩
end
theorem sU{P:Program}{w:World}{H:Hp}(h:Heap)(a:sysModules<h.objs.size):ObjOk P w H (h.push { cls:=.type "dict",data:=.dict #[] }) h.objs.size (.dT []) :=
 ⟨Nat.zero_le _,beq_eq_false_iff_ne.mpr (Ne.symm (Nat.ne_of_lt a)),[],.nil,_,#[],0,Heap.get?_push_size _ rfl,⟨rfl,rfl,rfl⟩,rfl,rfl,nodup_nil⟩
def wI:TE:=λ_ H Q=>∀ p,H p=none->Q (.ref p) (upd H p (.dT []))
section
variable {X:Cx}{pos:Pos}
theorem sC:PE X (.Dict [] [] pos) wI:=λb s c H Q I h =>
 wpAny_Dict_empty ⟨.ref s.heap.objs.size,_,I.laid (a:=s.heap.objs.size) (o:=.dT []) (t':=s.toks) (λ_ _ q=>Heap.get?_push_of_some _ q) (Nat.le_refl _) (sU s.heap I.big),rfl,h _ (I.hok.fresh (Nat.le_refl _))⟩
end
structure M2(X:Cx)(o:Expr)(m:Str)(apos:Pos)(e f:Expr)(cpos:Pos):Prop where
 base:attributeBase o m X.env (eval o X.env)=eval o X.env
 few:((backTo cpos (starEach [e,f] X.env)).all (λx=>!x.1) && (backToKw cpos (keywordEach [] X.env)).all (λx=>x.1.isSome)
  && decide (([e,f]:List Expr).length+([]:List Keyword).length+(if ([]:List Keyword).isEmpty then 0 else 1)<30))=true
 line:(apos.endLine == cpos.line)=true
 trees:backTo cpos (starEach [e,f] X.env)=[(false,eval e X.env),(false,eval f X.env)]
def IsD(H:Hp)(a:Addr):Prop:=(∃ kvs,Rd H a (.dK kvs))\/∃ kvs,Rd H a (.dT kvs)
theorem vP{X:Cx}{f:List (Addr×Obj)}{k:St}{H:Hp}{s:Shared}{a:Addr}(I:Inv X f k H s)(d:IsD H a) :
  s.TypeIs (.ref a) "dict" /\ (∀ b,Value.ref a=.ref b->∃ ob,s.heap.get? b=some ob/\ob.dict=none)/\(a == sysModules)=false:=by
 rcases d with⟨i,e⟩ | ⟨i,e⟩
 .obtain⟨_,g,l,_,c⟩:=sG I.hok e
  refine⟨c.typeIs,λb q=>?_,g⟩;cases q;obtain⟨ob,_,_,h,j,_⟩:=c;exact⟨ob,h,j.2.1⟩
 .obtain⟨_,g,m,_,c⟩:=qK I.hok e
  refine⟨c.typeIs,λb q=>?_,g⟩;cases q;obtain⟨ob,_,_,h,j,_⟩:=c;exact⟨ob,h,j.2.1⟩
section
variable {X:Cx}{pins:List (Addr×Obj)}{σ:St}{H:Hp}{s:Shared}{a:Addr}{y d:V}{u r:Value}{o:Option V}{A:Around}{E:Value->Shared->Prop}
theorem wD{Q:Value->Shared->Prop}(x:A.units+1<cLine)(I:Inv X pins σ H s)(g:xV H a y o)(q:RelV y u)(n:RelV d r)(h:∀ w' s',Inv X pins σ H s'->RelV (o.getD d) w'->Q w' s') :
  wpAny (model X.prog X.w) A (call (.builtin "dict.get") [.ref a,u,r]) Q E s:=by
 rcases g with⟨j,k,e,m,l⟩ | ⟨j,k,b,e,m,w,l⟩
 .subst m
  obtain⟨z,i,B,c,f⟩:=sG I.hok e;refine call_meetsIn PySem.F.slot_dict_get f.typeIs PySem.F.entry_dict_get (PySem.F.args_dict_get_3 _ _ _) (meets_dict_get_default (bN X.prog X.w) a (rE q) i r) ⟨_,f.mapOf,h _ _ (I.tok _) ?_⟩;rw[l];exact(c.val k).getD n
 .subst m
  cases(show u=Value.ref b from q);obtain⟨z,i,v,c,f⟩:=qK I.hok e;refine call_meetsIn PySem.F.slot_dict_get f.typeIs PySem.F.entry_dict_get (PySem.F.args_dict_get_3 _ _ _) (meetsH_dict_get_default (tupleKind (bN X.prog X.w)) a b i r) ⟨tupleKind_room_in1 x,k,v,ny I.hok w,f,h _ _ (I.tok _) ?_⟩;rw[l];exact(c.val k).getD n
end
def wR(td ty tx:TE):TE:=λσ H Q=>td σ H λx H1=>∃ a,x=.ref a/\IsD H1 a/\ty σ H1 λy H2=>tx σ H2 λz H3=>∃ o,xV H3 a y o/\Q (o.getD z) H3
section
variable {X:Cx}{o e f:Expr}{apos cpos:Pos}{td ty tx:TE}
theorem sv(L:X.A.units+1<cLine)(M:PE X o td)(O:PE X e ty)(F:PE X f tx)(m:M2 X o "get" apos e f cpos):PE X (.Call (.Attribute o "get" apos) [e,f] [] cpos) (wR td ty tx):=by
 intro b s c H Q I h;refine wpAny_Call_method m.base m.few m.line PySem.F.plainAttrs_dict PySem.F.slot_dict_get PySem.F.type_dict_get (thn (M b s c H _ I h) λu N ⟨x,D,j,A,a,q,d,l⟩=>?_);subst q;obtain rfl:u=Value.ref a:=A;obtain⟨J,G,_⟩:=vP j d;refine⟨J,G,?_⟩;rw[m.trees]
 refine Calls.callWith_builtin rfl (Calls.evalArgs_plain (Calls.spliced_cons (thn (O b N c D _ j l) λR K ⟨y,w,r,C,n⟩ =>
  Calls.spliced_cons (thn (F b K c w _ r n) λS W ⟨z,E,P,B,U,g,v⟩=>Calls.spliced_nil ?_))))
 exact wD L P g C B λY T k i=>⟨_,E,k,i,v⟩
end
section
variable {X:Cx}{pins:List (Addr×Obj)}{σ:St}{H:Hp}{s:Shared}{a:Addr}{kvs:List (Key×V)}{A:Around}{E:Value->Shared->Prop}
end
section
variable {X:Cx}{pins:List (Addr×Obj)}{σ:St}{H:Hp}{s:Shared}{a:Addr}{y:V}{u:Value}{A:Around}{E:Value->Shared->Prop}
end
theorem OpR.imp{X:Cx}{f:Value->Value->Sem Value}{r b:R2}(h:OpR X f r)(i:∀ x y H Q,b x y H Q->r x y H Q):OpR X f b :=
 λa s c H x y v u Q I d e q=>h a s c H x y v u Q I d e (i x y H Q q)
theorem CallR.imp{X:Cx}{f:Value}{r b:List V->Hp->VK->Prop}(h:CallR X f r)(i:∀ xs H Q,b xs H Q->r xs H Q):CallR X f b :=
 λa s d H xs c Q I e q=>h a s d H xs c Q I e (i xs H Q q)
def tV(i:Nat):TE:=λσ H Q=>match σ[i]? with
 | some (some v)=>Q v H
 | _=>False
theorem vr{X:Cx}(i:Nat){x:Str}{c:Pos}(g:X.N[i]? = some x:=by rfl)(j:Vis X.env.scope x:=by first | exact Or.inl rfl | exact Or.inr (Or.inl rfl) | exact Or.inr (Or.inr rfl))(d:(x == ("__debug__" : Str))=false:=by decide)
  (b:(x == ("__classdict__" : Str))=false:=by decide):PE X (.Name x c) (tV i):=λa s f H Q I h=>by
 refine vy g j d b a s f H Q I ?_;unfold tV at h
 split at h
 .rename_i v e
  exact⟨v,e,h⟩
 .exact h.elim
def rI2(g:Int->Int->V):R2:=λx y H Q=>match x,y with
 | .int i,.int j=>Q (g i j) H
 | _,_=>False
def rIC(C:Int->Int->Prop)(g:Int->Int->V):R2:=λx y H Q=>match x,y with
 | .int i,.int j=>C i j/\Q (g i j) H
 | _,_=>False
theorem OpR.i2{X:Cx}{f:Value->Value->Sem Value}{g:Int->Int->V}(h:OpR X f (rI0 g)):OpR X f (rI2 g):=h.imp λx y H Q q=>by
 cases x <;> cases y <;> first | exact⟨_,_,rfl,rfl,q⟩ | exact(show False from q).elim
theorem OpR.ic{X:Cx}{f:Value->Value->Sem Value}{C:Int->Int->Prop}{g:Int->Int->V}(h:OpR X f (rI C g)):OpR X f (rIC C g):=h.imp λx y H Q q=>by
 cases x <;> cases y <;> first | exact⟨_,_,rfl,rfl,q.1,q.2⟩ | exact(show False from q).elim
section
variable {X:Cx}
def u9:R2:=λx y H Q=>match x,y with
 | .int i,.int j=>Q (.int (i+j)) H
 | .str i,.str j=>i.length+j.length<=sizeLine/\Q (.str (i++j)) H
 | _,_=>False
theorem dZ:OpR X (binaryOp .Add) u9:=(op_add.or nO).imp λx y H Q q=>by
 cases x <;> cases y <;> first | exact .inl ⟨_,_,rfl,rfl,q⟩ | exact .inr ⟨_,_,rfl,rfl,q.1,q.2⟩ | exact(show False from q).elim
theorem ge:OpR X (binaryOp .Sub) (rI2 λi j=>.int (i - j)):=op_sub.i2
def xo(i j:Int):Prop:=0<j
theorem cp{i j:Int}(h:0<j:=by decide):xo i j:=h
theorem cd{i j:Int}(h:0<j:=by decide)(a:j<1073741824:=by decide):yU i j:=⟨h,a⟩
theorem cl{i j:Int}(h:-(2 ^ 64)<i:=by decide)(a:i<2 ^ 64:=by decide):CMul i j:=.inl ⟨h,a⟩
theorem cr{i j:Int}(h:-(2 ^ 64)<j:=by decide)(a:j<2 ^ 64:=by decide):CMul i j:=.inr ⟨h,a⟩
theorem dI:OpR X (binaryOp .Mod) (rIC xo λi j=>.int (i % j)):=op_mod.ic
theorem qp:OpR X (compareOp .LtE) (λx y H Q=>∃ i j,x=.str i/\y=.str j/\Q (.bl (!decide (j.cps.toList<i.cps.toList))) H):=by
 intro a s d H x y v u Q I b c h;obtain⟨i,j,rfl,rfl,q⟩:=h;obtain⟨t,rfl⟩:=b;obtain⟨e,rfl⟩:=c;exact PySem.P.le_str (aP I q rfl)
def vb(f:Int->Int->Bool)(g:Str->Str->Bool):R2:=λx y H Q=>match x,y with
 | .int i,.int j=>Q (.bl (f i j)) H
 | .str i,.str j=>Q (.bl (g i j)) H
 | _,_=>False
theorem rK:OpR X (compareOp .Lt) (vb (λi j=>decide (i<j)) λi j=>decide (i.cps.toList<j.cps.toList)):=(op_lt.or qi).imp λx y H Q q=>by
 cases x <;> cases y <;> first | exact .inl ⟨_,_,rfl,rfl,q⟩ | exact .inr ⟨_,_,rfl,rfl,q⟩ | exact(show False from q).elim
theorem wO:OpR X (compareOp .LtE) (vb (λi j=>decide (i<=j)) λi j=>!decide (j.cps.toList<i.cps.toList)):=(op_le.or qp).imp λx y H Q q=>by
 cases x <;> cases y <;> first | exact .inl ⟨_,_,rfl,rfl,q⟩ | exact .inr ⟨_,_,rfl,rfl,q⟩ | exact(show False from q).elim
theorem yI:OpR X (compareOp .Gt) (rI2 λi j=>.bl (decide (j<i))):=op_gt.i2
theorem zd:OpR X (compareOp .GtE) (rI2 λi j=>.bl (decide (j<=i))):=op_ge.i2
def yw(neg:Bool):R2:=λx y H Q=>match x,y with
 | .int i,.int j=>Q (.bl (if neg then !decide (i=j) else decide (i=j))) H
 | .str i,.str j=>Q (.bl (if neg then !decide (i=j) else decide (i=j))) H
 | .bl i,.bl j=>Q (.bl (if neg then !decide (i=j) else decide (i=j))) H
 | .non,.non=>Q (.bl (!neg)) H
 | .non,.int _=>Q (.bl neg) H
 | .non,.str _=>Q (.bl neg) H
 | .non,.bl _=>Q (.bl neg) H
 | .int _,.non=>Q (.bl neg) H
 | .str _,.non=>Q (.bl neg) H
 | .bl _,.non=>Q (.bl neg) H
 | .int _,.str _=>Q (.bl neg) H
 | .str _,.int _=>Q (.bl neg) H
 | _,_=>False
theorem me:OpR X (compareOp .Eq) (yw false):=op_eq.imp λx y H Q q=>by
 cases x <;> cases y <;> first | exact(show False from q).elim | exact⟨rfl,q⟩ | exact⟨rfl,by rw[iw];exact q⟩ | exact⟨rfl,by rw[km];exact q⟩ | exact⟨rfl,by rw[iD];exact q⟩
theorem sB:OpR X (compareOp .NotEq) (yw true):=op_ne.imp λx y H Q q=>by
 cases x <;> cases y <;> first | exact(show False from q).elim | exact⟨rfl,q⟩ | exact⟨rfl,by rw[iw];exact q⟩ | exact⟨rfl,by rw[km];exact q⟩ | exact⟨rfl,by rw[iD];exact q⟩
def rU1(g:Int->V):V->Hp->VK->Prop:=λx H Q=>match x with
 | .int i=>Q (g i) H
 | _=>False
theorem vd:UnR X (unaryOp .USub) (rU1 λi=>.int (-i)):=λa s b H x v Q I r q=>vE a s b H x v Q I r (by
 cases x <;> first | exact⟨_,rfl,q⟩ | exact(show False from q).elim)
def mB(Q:Bool->Hp->Prop):VK:=λx H=>match x with
 | .bl c=>Q c H
 | _=>False
variable {a b c:Expr}{ta tb tc:TE}{pos:Pos}{rest:List Expr}
def yz(ta tb:TE):TE:=λσ H Q=>ta σ H (mB λc H1=>if c=true then tb σ H1 Q else Q (.bl false) H1)
def yY(ta:TE):TE:=λσ H Q=>ta σ H (mB λc H1=>Q (.bl (!c)) H1)
theorem iY{Q:Bool->Hp->Prop}{x:V}{H:Hp}(h:mB Q x H):∃ c,x=.bl c/\Q c H:=by
 cases x <;> first | exact⟨_,rfl,h⟩ | exact(show False from h).elim
theorem pi(k:PE X a ta)(m:PE X (.BoolOp .And (b::rest) pos) tb):PE X (.BoolOp .And (a::b::rest) pos) (yz ta tb):=by
 intro d s g H Q I h;refine BoolOp_and (thn (k d s g H _ I h) λv j ⟨x,f,i,l,e⟩=>?_);obtain⟨c,rfl,e⟩:=iY e;cases l;refine wpAny_truthy_bool ?_;cases c with
 | true=>exact m d j g f Q i e
 | false=>exact⟨.bl false,f,i,rfl,e⟩
theorem u6(g:PE X a ta):PE X (.UnaryOp .Not a pos) (yY ta):=by
 intro b s f H Q I h;refine UnaryOp_ (thn (g b s f H _ I h) λv k ⟨x,e,i,j,d⟩=>?_);obtain⟨c,rfl,d⟩:=iY d;cases j;exact not_of (wpAny_truthy_bool ⟨.bl (!c),e,i,rfl,d⟩)
def mT(t:TE):TT:=λσ H Q=>t σ H (mB Q)
theorem eJ(h:PE X a ta)(f:∀ whole,isTrue a X.env whole=(do let v <- whole;standAt a.pos;holding [v] (truthy v)):=by intro _;rfl):PT X a (mT ta):=by
 intro b s e H Q I k;refine isTrue_plain (thn (h b s e H _ I k) λv l ⟨x,c,i,j,g⟩=>?_) (f _);obtain⟨d,rfl,q⟩:=iY g;cases j;exact wpAny_truthy_bool ⟨c,i,q⟩
theorem cg{g:CmpOp}{r:R2}(l:OpR X (compareOp g) r)(w:PE X a ta)(D:PE X b tb)(n:behindInMarks g b=false):PT X (.Compare a [g] [b] pos) (mT (tOp r ta tb)):=by
 intro d s f H Q I h
 refine wpAny_isTrue_Compare1 (thn (w d s f H _ I h) λv m ⟨x,i,A,B,o⟩=>thn (D d m f i _ A o) λu s2 ⟨y,H2,I2,r2,q2⟩ =>
  thn (l d s2 f H2 x y v u _ I2 B r2 q2) λc E ⟨z,j,C,q,e⟩=>?_) n
 obtain⟨k,rfl,e⟩:=iY e;cases q;exact wpAny_truthy_bool ⟨j,C,e⟩
def wH(r r':R2)(ta tb tc:TE):TE:=λσ H Q=>ta σ H λx H1=>tb σ H1 λy H2=>r x y H2 (mB λk H3=>if k=true then tc σ H3 λw' H4=>r' y w' H4 Q else Q (.bl false) H3)
theorem ow{j f:CmpOp}{r m:R2}(N:OpR X (compareOp j) r)(l:OpR X (compareOp f) m)(S:PE X a ta)(F:PE X b tb)(O:PE X c tc)
  (R:lastMarks [j,f] [b,c]=false:=by with_unfolding_all rfl):PE X (.Compare a [j,f] [b,c] pos) (wH r m ta tb tc):=by
 intro e s g H Q I h
 refine Compare_chain (thn (S e s g H _ I h) λv P ⟨x,G,A,B,w⟩=>chain_link (thn (F e P g G _ A w) λu s2 ⟨y,H2,I2,r2,q2⟩ =>
  thn (N e s2 g H2 x y v u _ I2 B r2 q2) λd K ⟨z,n,o,J,i⟩=>?_)) R
 obtain⟨k,rfl,i⟩:=iY i;cases J;refine wpAny_truthy_bool ?_;cases k with
 | false=>exact ite_ff ⟨.bl false,n,o,rfl,i⟩
 | true=>exact ite_tt (chain_last (thn (O e K g n _ o i) λT C ⟨E,D,q,L,M⟩=>l e C g D y E u T Q q r2 L M))
open PySem.W in
theorem qO{f:List (Addr×Obj)}{h:St}{H:Hp}{s:Shared}{x:V}{u t:Value}(I:Inv X f h H s)(b:RelV x u)(ty:TyOf X.K H x t) :
  ∃ Hh:Heap->Prop,KitX X.K u t Hh/\Hh s.heap/\u≠.builtin "__main__.__loader__#opaque" := by
 cases ty with
 | non=>cases(show u=Value.none from b);exact⟨_,PySem.W.kitx_none,True.intro,λz=>nomatch z⟩
 | bl y=>cases(show u=Value.bool y from b);exact⟨_,PySem.W.kitx_bool,True.intro,λz=>nomatch z⟩
 | int i=>obtain⟨t,q⟩:=(show ∃ t,u=Value.int i t from b);cases q;exact⟨_,PySem.W.kitx_int,True.intro,λz=>nomatch z⟩
 | str y=>obtain⟨t,q⟩:=(show ∃ t,u=Value.str y t from b);cases q;exact⟨_,PySem.W.kitx_str,True.intro,λz=>nomatch z⟩
 | flt y=>obtain⟨t,q⟩:=(show ∃ t,u=Value.float y t from b);cases q;exact⟨_,PySem.W.kitx_float,True.intro,λz=>nomatch z⟩
 | @lst a d ea =>
  cases(show u=Value.ref a from b)
  obtain⟨_,_,n,_,c⟩:=(show ObjOk X.prog X.w H s.heap a (.lst d) from I.hok a _ ea)
  exact⟨_,kitx_list,⟨_,c,rfl⟩,λz=>nomatch z⟩
 | @frz a ob d ea =>
  cases(show u=Value.ref a from b)
  obtain⟨_,_,_,n,_,c⟩:=(show ObjOk X.prog X.w H s.heap a (.frz ob (.lst d)) from I.hok a _ ea)
  exact⟨_,kitx_list,⟨_,c,rfl⟩,λz=>nomatch z⟩
 | @tup a d ea =>
  cases(show u=Value.ref a from b)
  obtain⟨_,_,_,p⟩:=(show ObjOk X.prog X.w H s.heap a (.tup d) from I.hok a _ ea)
  obtain⟨o,c,e,_⟩:=p;exact⟨_,kitx_tuple,⟨o,c,e⟩,λz=>nomatch z⟩
 | @dK a kvs ea =>
  cases(show u=Value.ref a from b)
  obtain⟨_,_,k,_,p⟩:=(show ObjOk X.prog X.w H s.heap a (.dK kvs) from I.hok a _ ea)
  obtain⟨o,j,g,c,e,_⟩:=p;exact⟨_,kitx_dict,⟨o,c,e.1⟩,λz=>nomatch z⟩
 | @dT a kvs ea =>
  cases(show u=Value.ref a from b)
  obtain⟨_,_,d,_,o,j,g,c,e,_⟩:=(show ObjOk X.prog X.w H s.heap a (.dT kvs) from I.hok a _ ea)
  exact⟨_,kitx_dict,⟨o,c,e.1⟩,λz=>nomatch z⟩
 | @ins a C dx fs ea cl ha hn htk hm =>
  cases(show u=Value.ref a from b);obtain⟨m,O,_⟩:=iB I.hok ea;obtain⟨l,J,_⟩:=O.look;exact⟨_,PySem.W.kitx_own (cl.get _) cl.hd ha hn htk hm,J,λz=>nomatch z⟩
def wd:V->Value
 | .ty n=>.type n
 | .ref a=>.ref a
 | _=>.none
def rF:V->Bool
 | .ty _=>true
 | .ref _=>true
 | _=>false
theorem pw{c:V}{u:Value}(h:rF c=true)(r:RelV c u):u=wd c:=by
 cases c <;> first | exact r | exact absurd (show false=true from h) Bool.false_ne_true
inductive rIsi(K:Frag)(xs:List V)(H:Hp)(Q:VK):Prop
 | mk(x c:V)(t:_)(b:Bool)(h0:xs=[x,c])(h1:rF c=true)(h2:TyOf K H x t)(h3:kitOne K t (wd c)=some b)(h4:Q (.bl b) H):rIsi K xs H Q
theorem eE:CallR X (.builtin "isinstance") (rIsi X.K):=by
 intro a s n H m l Q I r h;obtain⟨x,c,t,b,rfl,f,k,e,q⟩:=h;obtain⟨u,o,rfl,i,j⟩:=mt r;cases pw f j;obtain⟨v,Z,p,g⟩:=qO I i k
 exact kia_one Z I.kIn p e g λd=>⟨.bl b,H,I.tok d,rfl,q⟩
end
theorem xa{Q:V->Prop}{p r:Prop}[Decidable p][Decidable r](q:Q (.bl (decide (p/\r)))):if decide p=true then Q (.bl (decide r)) else Q (.bl false):=by
 by_cases h:p
 .rw[if_pos (decide_eq_true h)]
  have e:decide (p/\r)=decide r:=by by_cases z:r <;> simp[h,z]
  rw[<- e];exact q
 .rw[if_neg (λz=>h (of_decide_eq_true z))]
  have e:decide (p/\r)=false:=decide_eq_false λz=>h z.1
  rw[<- e];exact q
theorem ifP{c:Prop}[Decidable c]{A B:Prop}(a:c)(h:A):if decide c=true then A else B:=by rw[if_pos (decide_eq_true a)];exact h
theorem ifN{c:Prop}[Decidable c]{A B:Prop}(a:¬c)(h:B):if decide c=true then A else B:=by rw[if_neg (λz=>a (of_decide_eq_true z))];exact h
theorem ifC{c:Prop}[Decidable c]{A B:Prop}(b:c->A)(a:¬c->B):if decide c=true then A else B:=by
 by_cases h:c
 .exact ifP h (b h)
 .exact ifN h (a h)
theorem ifB{b:Bool}{A B:Prop}(c:b=true->A)(a:b=false->B):if b=true then A else B:=by
 cases b with
 | true=>rw[if_pos rfl];exact c rfl
 | false=>rw[if_neg Bool.false_ne_true];exact a rfl
theorem bf:bootBuiltins "len" = some (.builtin "len"):=by decide +kernel
theorem bJ:bootBuiltins "isinstance" = some (.builtin "isinstance"):=by decide +kernel
theorem ku:bootBuiltins "min" = some (.builtin "min"):=by decide +kernel
theorem vx:bootBuiltins "max" = some (.builtin "max"):=by decide +kernel
theorem kJ:bootBuiltins "enumerate" = some (.type "enumerate"):=by decide +kernel
theorem qY:bootBuiltins "zip" = some (.type "zip"):=by decide +kernel
theorem mn:bootBuiltins "range" = some (.type "range"):=by decide +kernel
theorem sQ:bootBuiltins "int" = some (.type "int"):=by decide +kernel
theorem oK:bootBuiltins "bool" = some (.type "bool"):=by decide +kernel
theorem eN:bootBuiltins "list" = some (.type "list"):=by decide +kernel
theorem fm:bootBuiltins "tuple" = some (.type "tuple"):=by decide +kernel
theorem gd{X:Cx}{x:Str}{v:V}{a:Pos}(c:Gl X x)(h:∃ u,X.mg x=some u/\RelV v u)(b:(x == ("__debug__" : Str))=false:=by decide):PE X (.Name x a) (tC v) :=
 let ⟨_,e,r⟩:=h
 uQ c e r b
def y9(K:Frag)(tl:TE):TI:=λσ H R=>tl σ H λx H1=>match x with
 | .str z=>R (Its z) H1
 | .ref a=>((∃ xs,SqL K H1 a xs)/\R (Itl K a) H1)\/((∃ xs,SqT K H1 a xs)/\R (Itt K a) H1)
 | _=>False
theorem bO{X:Cx}{tg l:Expr}{tl:TE}(m:PE X l tl):PI X tg l (y9 X.K tl):=by
 intro g s u H R I h;have y:PE X l tl:=m;refine thn (m g s u H _ I h) λv c ⟨x,i,d,n,k⟩=>?_
 cases x with
 | str z =>
  have:=wG (X:=X) (tg:=tg) (l:=l) (tl:=tC (.str z));obtain⟨t,rfl⟩:=n;refine wpAny_pyIter_strU ?_;refine⟨c.heap.objs.size,[c.heap.objs.size],_,_,i,rfl,d.kept (t':=c.toks) λb o e=>Heap.get?_push_of_some _ e,mJ (ty:=strIterType z) (t:=t) z _ ?_,⟨_,Heap.get?_push_size _ rfl,rfl,rfl⟩,λb hb=>?_,k⟩
  .unfold strIterType
   split
   .exact .inl rfl
   .exact .inr rfl
  .have e:b=c.heap.objs.size:=by simpa using hb
   subst e;exact d.fpOk (Nat.le_refl _) (d.hok.fresh (Nat.le_refl _))
 | ref a =>
  cases n
  rcases k with⟨⟨r,j⟩,q⟩ | ⟨⟨r,j⟩,q⟩
  .obtain⟨f,w,p,A⟩:=d.list j
   refine wpAny_pyIter_list p.isList ?_;refine⟨c.heap.objs.size,[c.heap.objs.size],_,_,i,rfl,d.kept (t':=c.toks) λb o e=>Heap.get?_push_of_some _ e,qh a _,⟨_,Heap.get?_push_size _ rfl,rfl,rfl⟩,λb hb=>?_,q⟩;have e:b=c.heap.objs.size:=by simpa using hb
   subst e;exact d.fpOk (Nat.le_refl _) (d.hok.fresh (Nat.le_refl _))
  .obtain⟨f,w,p,A⟩:=d.tuple j
   refine wpAny_pyIter_tuple (show c.heap.IsTuple a f.toArray from p) ?_;refine⟨c.heap.objs.size,[c.heap.objs.size],_,_,i,rfl,d.kept (t':=c.toks) λb o e=>Heap.get?_push_of_some _ e,nj a _,⟨_,Heap.get?_push_size _ rfl,rfl,rfl⟩,λb hb=>?_,q⟩;have e:b=c.heap.objs.size:=by simpa using hb
   subst e;exact d.fpOk (Nat.le_refl _) (d.hok.fresh (Nat.le_refl _))
 | _=>exact(show False from k).elim
inductive rLenSq(K:Frag)(p:Addr)(H:Hp)(Q:VK):Prop
 | mk(ys:List V)(h0:SqL K H p ys\/SqT K H p ys)(h1:Q (.int ys.length) H):rLenSq K p H Q
theorem ay{X:Cx}:CallR X (.builtin "len") (λxs H Q=>match xs with
  | [.str z]=>z.length<=sizeLine/\Q (.int z.length) H
  | [.ref p]=>rLenSq X.K p H Q
  | _=>False):=(call_len_str.or kE).imp λxs H Q q=>by
 match xs,q with
 | [.str z],q=>exact .inl ⟨z,rfl,q.1,q.2⟩
 | [.ref p],q=>obtain⟨a,h,q⟩:=q;exact .inr ⟨p,a,rfl,h,q⟩
section
variable {D:Addr}{σb:St}{g:TG}{tt:TT}{te:TE}{Q:Hp->List V->Prop}{H:Hp}{K:Frag}
def o9(D:Addr)(σb:St)(g:TG)(tt:TT)(te:TE)(x:V)(ys:List V)(H:Hp)(P:List V->Hp->Prop):Prop :=
 g x σb H λσ4 H4=>Wk σb σ4/\tt σ4 H4 λb H5=>if b=true then te σ4 H5 λy H6=>H6 D=some (.lst ys)/\ys.length<sizeLine/\P (ys++[y]) (upd H6 D (.lst (ys++[y]))) else P ys H5
theorem bB{a:Addr}{xs:List V}(Pv:Nat->List V->Hp->Prop)(h:Pv 0 [] H)(c:∀ i ys H,Pv i ys H->SqL K H a xs)(f:∀ i ys H,Pv i ys H->H D=some (.lst ys))
  (j:∀(i:Nat) x ys H P,xs[i]? = some x->Pv i ys H->(∀ a b,Pv (i+1) a b->P a b)->o9 D σb g tt te x ys H P) (d:∀ ys H,Pv xs.length ys H->Q H ys):∃ W,(∃ m,W 0 m [] H)/\iW (Itl K a) D σb g tt te Q W:=by
 refine⟨λi m ys H=>m=xs.length - i/\i<=xs.length/\Pv i ys H,⟨_,rfl,Nat.zero_le _,h⟩,?_⟩;rintro i m ys H ⟨rfl,l,p⟩;refine⟨f i ys H p,?_⟩;have q:=c i ys H p
 by_cases hlt:i<xs.length
 .refine .inr ⟨⟨xs,xs[i],q,by simp[hlt]⟩,λx k y=>?_⟩
  obtain⟨rfl,y⟩:=y;exact j i x ys _ (λa b=>∃ m',m'<xs.length - i/\m'=xs.length - (i+1)/\i+1<=xs.length/\Pv (i+1) a b) (y xs q) p (λa b q=>⟨xs.length - (i+1),by lia,rfl,hlt,q⟩)
 .have e:i=xs.length:=by lia
  subst e;exact .inl ⟨⟨xs,q,Nat.le_refl _⟩,d ys H p⟩
theorem sx{a:Addr}{xs:List V}(Pv:Nat->List V->Hp->Prop)(h:Pv 0 [] H)(c:∀ i ys H,Pv i ys H->SqT K H a xs)(f:∀ i ys H,Pv i ys H->H D=some (.lst ys))
  (j:∀(i:Nat) x ys H P,xs[i]? = some x->Pv i ys H->(∀ a b,Pv (i+1) a b->P a b)->o9 D σb g tt te x ys H P) (d:∀ ys H,Pv xs.length ys H->Q H ys):∃ W,(∃ m,W 0 m [] H)/\iW (Itt K a) D σb g tt te Q W:=by
 refine⟨λi m ys H=>m=xs.length - i/\i<=xs.length/\Pv i ys H,⟨_,rfl,Nat.zero_le _,h⟩,?_⟩;rintro i m ys H ⟨rfl,l,p⟩;refine⟨f i ys H p,?_⟩;have q:=c i ys H p
 by_cases hlt:i<xs.length
 .refine .inr ⟨⟨xs,xs[i],q,by simp[hlt]⟩,λx k y=>?_⟩
  obtain⟨rfl,y⟩:=y;exact j i x ys _ (λa b=>∃ m',m'<xs.length - i/\m'=xs.length - (i+1)/\i+1<=xs.length/\Pv (i+1) a b) (y xs q) p (λa b q=>⟨xs.length - (i+1),by lia,rfl,hlt,q⟩)
 .have e:i=xs.length:=by lia
  subst e;exact .inl ⟨⟨xs,q,Nat.le_refl _⟩,d ys H p⟩
theorem gD{lo:Int}{n:Nat}(Pv:Nat->List V->Hp->Prop)(f:Pv 0 [] H)(d:∀ i ys H,Pv i ys H->H D=some (.lst ys))
  (h:∀(i:Nat) ys H P,i<n->Pv i ys H->(∀ a b,Pv (i+1) a b->P a b)->o9 D σb g tt te (.int (lo+i)) ys H P) (c:∀ ys H,Pv n ys H->Q H ys):∃ W,(∃ m,W 0 m [] H)/\iW (Itr lo n) D σb g tt te Q W:=by
 refine⟨λi m ys H=>m=n - i/\i<=n/\Pv i ys H,⟨_,rfl,Nat.zero_le _,f⟩,?_⟩;rintro i m ys H ⟨rfl,k,p⟩;refine⟨d i ys H p,?_⟩
 by_cases hlt:i<n
 .refine .inr ⟨hlt,λx j y=>?_⟩
  obtain⟨rfl,rfl⟩:=y;exact h i ys _ (λa b=>∃ m',m'<n - i/\m'=n - (i+1)/\i+1<=n/\Pv (i+1) a b) hlt p (λa b q=>⟨n - (i+1),by lia,rfl,hlt,q⟩)
 .have e:i=n:=by lia
  subst e;exact .inl ⟨Nat.le_refl _,c ys H p⟩
end
theorem Same.new{H:Hp}{p:Addr}{o:HO}(h:H p=none):Same H (upd H p o):=λb u e=>by rw[ai (ap e h)];exact e
mutual
def DV(K:Frag)(H:Hp):PyData->V->Prop
 | .none,x=>x=.non
 | .bool b,x=>x=.bl b
 | .int i,x=>x=.int i
 | .str z,x=>x=.str z
 | .list ds,x=>∃ a xs,x=.ref a/\SqL K H a xs/\DVs K H ds xs
 | .tuple ds,x=>∃ a xs,x=.ref a/\SqT K H a xs/\DVs K H ds xs
 | .dict _,_=>False
def DVs(K:Frag)(H:Hp):List PyData->List V->Prop
 | [],xs=>xs=[]
 | d::ds,xs=>∃ y ys,xs=y::ys/\DV K H d y/\DVs K H ds ys
end
section
variable {X:Cx}{pins:List (Addr×Obj)}{σ:St}{H:Hp}{s:Shared}
mutual
theorem DV.reads(I:Inv X pins σ H s):∀{d:PyData}{x:V}{u:Value},DV X.K H d x->RelV x u->∃ as,Reads s.heap u d as
 | .none,x,u,h,r=>by
  rw[DV]at h;subst h;cases r;exact⟨_,.none⟩
 | .bool b,x,u,h,r=>by
  rw[DV]at h;subst h;cases r;exact⟨_,.bool b⟩
 | .int i,x,u,h,r=>by
  rw[DV]at h;subst h;obtain⟨t,rfl⟩:=r;exact⟨_,.int i t⟩
 | .str z,x,u,h,r=>by
  rw[DV]at h;subst h;obtain⟨t,rfl⟩:=r;exact⟨_,.str z t⟩
 | .list ds,x,u,h,r=>by
  rw[DV]at h;obtain⟨a,l,rfl,k,g⟩:=h;cases r;obtain⟨f,j,⟨o,n,e,c,_,d⟩,_⟩:=I.list k;obtain⟨as,q⟩:=DVs.reads I g j;exact⟨_,.list e c d (by simpa using q)⟩
 | .tuple ds,x,u,h,r=>by
  rw[DV]at h;obtain⟨a,l,rfl,k,g⟩:=h;cases r;obtain⟨f,j,⟨o,e,c,n,d⟩,_⟩:=I.tuple k;obtain⟨as,q⟩:=DVs.reads I g j;exact⟨_,.tuple e c d (by simpa using q)⟩
 | .dict _,x,u,h,r=>by rw[DV]at h;exact h.elim
theorem DVs.reads(I:Inv X pins σ H s):∀{ds:List PyData}{xs:List V}{us:List Value},DVs X.K H ds xs->Vals xs us->∃ as,ReadsAll s.heap us ds as
 | [],xs,us,h,r=>by
  rw[DVs]at h;subst h;cases r;exact⟨_,.nil⟩
 | d::ds,xs,us,h,r=>by
  rw[DVs]at h;obtain⟨y,e,rfl,a,b⟩:=h;cases r with
  | cons r rs =>
   obtain⟨as,q⟩:=DV.reads I a r;obtain⟨c,p⟩:=DVs.reads I b rs;exact⟨_,.cons q p⟩
end
end
inductive rEqD(K:Frag)(neg:Bool)(x y:V)(H:Hp)(Q:VK):Prop
 | mk(d e:PyData)(h0:DV K H d x)(h1:DV K H e y)(h2:SeqAt.shaped d=true)(h3:SeqAt.shaped e=true)(h4:Q (.bl (if neg then !PyData.eqv d e else PyData.eqv d e)) H):rEqD K neg x y H Q
theorem oA{X:Cx}(g:X.A.units+64<cLine):OpR X (compareOp .Eq) (rEqD X.K false):=by
 intro a s n H x y v u Q I f m h;obtain⟨d,e,b,i,c,l,q⟩:=h;obtain⟨r,j⟩:=b.reads I f;obtain⟨o,k⟩:=i.reads I m;exact eq_dataH j k c l g ⟨.bl _,H,I,rfl,q⟩
theorem oz{X:Cx}(g:X.A.units+64<cLine):OpR X (compareOp .NotEq) (rEqD X.K true):=by
 intro a s n H x y v u Q I f m h;obtain⟨d,e,b,i,c,l,q⟩:=h;obtain⟨r,j⟩:=b.reads I f;obtain⟨o,k⟩:=i.reads I m;exact ne_dataH j k c l g ⟨.bl _,H,I,rfl,q⟩
def uq(z:Str)(lo hi:Option Int):Str:=⟨((z.cps.toList.drop (HT.sIx z.cps.size 0 lo)).take (HT.sIx z.cps.size z.cps.size hi - HT.sIx z.cps.size 0 lo)).toArray⟩
theorem vc(n d:Nat)(v:Option Int):(match v with | none=>(d:Int) | some i=>max 0 (min (if i<0 then i+(n:Int) else i) (n:Int)))=((HT.sIx n d v:Nat):Int):=by
 cases v with
 | none=>rfl
 | some i =>
  show max 0 (min (if i<0 then i+(n:Int) else i) (n:Int))=(((if i<0 then (i+(n:Int)).toNat else min i.toNat n):Nat):Int)
  split <;> lia
theorem rf(lo a:Option Int)(n:Nat):Builtin.Str.strSliceIndices lo a 1 n=(List.range (HT.sIx n n a - HT.sIx n 0 lo)).map (HT.sIx n 0 lo + ·):=by
 have e:Builtin.Str.strSliceIndices lo a 1 n=sliceRange ((HT.sIx n 0 lo:Nat):Int) ((HT.sIx n n a:Nat):Int) 1:=by
  rw[<- vc n 0 lo,<- vc n n a];unfold Builtin.Str.strSliceIndices;simp only[show(1:Int) > 0 by decide,if_true]
  cases lo <;> cases a <;> rfl
 rw[e,sliceRange_one]
theorem qt(z:Str)(lo a:Option Int):Txt.slice z lo a=uq z lo a:=by
 have e:((Builtin.Str.strSliceIndices lo a 1 z.length).filterMap (z.cps[·]?))=(z.cps.toList.drop (HT.sIx z.cps.size 0 lo)).take (HT.sIx z.cps.size z.cps.size a - HT.sIx z.cps.size 0 lo):=by
  rw[rf];exact pick_run z.cps _ _
 unfold Txt.slice
 split
 .rename_i h
  have c:(Builtin.Str.strSliceIndices lo a 1 z.length).length=z.cps.size:=by
   rw[Bool.and_eq_true]at h;exact eq_of_beq h.2
  rw[rf,length_map,length_range]at c;have g:=HT.sIx_le z.cps.size z.cps.size (Nat.le_refl _) a;have b:HT.sIx z.cps.size z.cps.size a - HT.sIx z.cps.size 0 lo=z.cps.size:=c;unfold uq
  by_cases h0:z.cps.size=0
  .refine ext_toList ?_
   have d:z.cps.toList=[]:=List.length_eq_zero_iff.mp (by simpa using h0);show z.cps.toList=_;rw[d];simp
  .have f:HT.sIx z.cps.size 0 lo=0:=by lia
   rw[b,f,List.drop_zero,take_of_length_le (by simp)]
 .rw[e]
  rfl
section
variable {X:Cx}
def y4:V->Option Int->Option Int->Hp->VK->Prop:=λx lo hi H Q=>∃ z,x=.str z/\z.length<=sizeLine/\Q (.str (uq z lo hi)) H
theorem vY:SlR X y4:=by
 intro b s m H x v y w g o A Q I n d r e h;obtain⟨z,rfl,c,q⟩:=h;obtain⟨t,rfl⟩:=n;refine⟨"str",_,F.slot_str_getitem.lookup,typeIs_str _ _ _,?_⟩;rw[<- qt]at q
 have a:∀ f k,EP X b m Q (.str (Txt.slice z g o) f) { s with toks:=k }:=λf k=>⟨.str _,H,I.tok _,⟨_,rfl⟩,q⟩
 cases r with
 | none =>
  cases e with
  | none=>exact wpAny_getItem_str_slice (l:=none) (u:=none) (st:=none) d rfl (post_val_or_str ⟨Nat.le_trans (Txt.slice_le z _ _) c,a⟩)
  | int j uj=>exact wpAny_getItem_str_slice (l:=none) (u:=some (j,uj)) (st:=none) d rfl (post_val_or_str ⟨Nat.le_trans (Txt.slice_le z _ _) c,a⟩)
 | int i ui =>
  cases e with
  | none=>exact wpAny_getItem_str_slice (l:=some (i,ui)) (u:=none) (st:=none) d rfl (post_val_or_str ⟨Nat.le_trans (Txt.slice_le z _ _) c,a⟩)
  | int j uj=>exact wpAny_getItem_str_slice (l:=some (i,ui)) (u:=some (j,uj)) (st:=none) d rfl (post_val_or_str ⟨Nat.le_trans (Txt.slice_le z _ _) c,a⟩)
theorem SlR.imp{r b:V->Option Int->Option Int->Hp->VK->Prop}(h:SlR X r)(i:∀ x lo hi H Q,b x lo hi H Q->r x lo hi H Q):SlR X b :=
 λa s c H x v g d lo hi k Q I e l j f q=>h a s c H x v g d lo hi k Q I e l j f (i x lo hi H Q q)
theorem lq:SlR X (λx lo hi H Q=>match x with
  | .str z=>z.length<=sizeLine/\Q (.str (uq z lo hi)) H
  | .ref a=>(∃ xs,SqL X.K H a xs/\∀ p,H p=none->Q (.ref p) (upd H p (.lst (dN xs lo hi)))) \/
    ∃ xs,SqT X.K H a xs/\¬(HT.sIx xs.length 0 lo=0/\HT.sIx xs.length xs.length hi=xs.length)/\∀ p,H p=none->Q (.ref p) (upd H p (.tup (dN xs lo hi)))
  | _=>False):=(sl_list.or (sl_tup.or vY)).imp λx lo hi H Q q=>by
 cases x with
 | str z=>exact .inr (.inr ⟨z,rfl,q.1,q.2⟩)
 | ref a =>
  rcases q with⟨xs,c,b⟩ | ⟨xs,c,b,d⟩
  .exact .inl ⟨a,xs,rfl,c,b⟩
  .exact .inr (.inl ⟨a,xs,rfl,c,b,d⟩)
 | _=>exact(show False from q).elim
variable {o e:Expr}{es:List Expr}{to:TE}{t:TA}{apos cpos:Pos}
end
end L2
namespace L2
abbrev PvS:=Nat->St->Hp->Prop
abbrev PvL:=Nat->List V->Hp->Prop
theorem gB{a c:TS}{D:Ends}{b:St}{H:Hp}:(let B2:TS:=c;bE a B2 D b H)->bE a c D b H:=λh=>h
theorem jM{b d a:TS}{D:Ends}{c:St}{H:Hp}:(let B3:TS:=a;let B2:TS:=bE d B3;bE b B2 D c H)->bE b (bE d a) D c H:=λh=>h
theorem mH{e d a c:TS}{D:Ends}{b:St}{H:Hp}:(let B4:TS:=c;let B3:TS:=bE a B4;let B2:TS:=bE d B3;bE e B2 D b H)->bE e (bE d (bE a c)) D b H:=λh=>h
theorem u7{f e b d a:TS}{D:Ends}{c:St}{H:Hp}:(let B5:TS:=a;let B4:TS:=bE d B5;let B3:TS:=bE b B4;let B2:TS:=bE e B3;bE f B2 D c H)->bE f (bE e (bE b (bE d a))) D c H:=λh=>h
theorem xL{i g b f a c d:TS}{D:Ends}{e:St}{H:Hp}:(let B7:TS:=d;let B6:TS:=bE c B7;let B5:TS:=bE a B6;let B4:TS:=bE f B5;let B3:TS:=bE b B4;let B2:TS:=bE g B3;bE i B2 D e H)->bE i (bE g (bE b (bE f (bE a (bE c d))))) D e H:=λh=>h
theorem xn{k j b g a c d e i:TS}{D:Ends}{f:St}{H:Hp}:(let B9:TS:=i;let B8:TS:=bE e B9;let B7:TS:=bE d B8;let B6:TS:=bE c B7;let B5:TS:=bE a B6;let B4:TS:=bE g B5;let B3:TS:=bE b B4;let B2:TS:=bE j B3;bE k B2 D f H)->bE k (bE j (bE b (bE g (bE a (bE c (bE d (bE e i))))))) D f H:=λh=>h
end L2
namespace L2
open PySem PySem.Spec PyProof.Rows
section
variable {X:Cx}{pins:List (Addr×Obj)}{σ:St}{H:Hp}{s:Shared}{h':Heap}
theorem Inv.turnedNew{t':Nat}{ch:List Addr}{a:Addr}{o:HO}(I:Inv X pins σ H s)(k:∀ b u,b ∉ ch->s.heap.get? b=some u->h'.get? b=some u)(i:∀ b∈ch,FpOk X pins H b)
  (y:s.heap.objs.size<=a) (w:ObjOk X.prog X.w (upd H a o) h' a o):Inv X pins σ (upd H a o) { s with heap:=h',toks:=t' }:=by
 have l:H a=none:=I.hok.fresh y
 have g:∀ b u,H b=some u->b ∉ ch:=λb u e z=>by
  rw[(i b z).1]at e;cases e
 have d:∀ b u,H b=some u->b≠a:=λb u e z=>by
  rw[z,l]at e;cases e
 have j:∀ b u,s.heap.get? b=some u->b≠a:=λb u e=>Nat.ne_of_lt (Nat.lt_of_lt_of_le (Heap.lt_size e) y)
 refine I.step (g':=s.gens) (d':=s.drawn) (ch:=ch) (λb h=>?_) (λb u _ _ f e _=>k b u f e) (λb u _ _ f e _=>⟨u.slots,k b u f e⟩) (λb u _ e n=>?_) (λb u f e=>⟨u,k b u f e⟩)
  (λb D e=>?_) (λb u v e=>?_) (λb ps e=>⟨#[],?_⟩) (λm hm=>?_) (λb u e=>?_) I.bare
 .obtain⟨_,G,_,B,F,E⟩:=i b h
  exact⟨B,G,F,E⟩
 .rw[ai (j b u e)];exact n
 .rw[ai (d b _ e)];exact e
 .rw[ai (d b _ e)];exact e
 .rw[ai (d b _ e),e];simp
 .obtain⟨x,J,A,C,r⟩:=hm
  exact⟨x,J,A,k _ x (λz=>(i _ z).2.1 rfl) C,r⟩
 .by_cases h:b=a
  .subst h
   rw[ad]at e;cases e;exact w
  .rw[ai h]at e
   refine(I.hok b u e).stay (λc v f q=>k c v ?_ q) (λc q=>?_) λc D q=>?_
   .rcases f with z | z
    .rw[z];exact g b u e
    .exact g c _ z
   .rw[ai (d c _ q)];exact q
   .rw[ai (d c _ q)];exact q
theorem Inv.turnedN{t':Nat}{ch:List Addr}(I:Inv X pins σ H s)(k:∀ b u,b ∉ ch->s.heap.get? b=some u->h'.get? b=some u)(f:∀ b∈ch,FpOk X pins H b):Inv X pins σ H { s with heap:=h',toks:=t' }:=by
 have d:∀ b u,H b=some u->b ∉ ch:=λb u e z=>by
  rw[(f b z).1]at e;cases e
 refine I.step (g':=s.gens) (d':=s.drawn) (ch:=ch) (λb A=>?_) (λb u _ _ a e _=>k b u a e) (λb u _ _ a e _=>⟨u.slots,k b u a e⟩) (λb u _ e n=>n) (λb u a e=>⟨u,k b u a e⟩)
  (λb l e=>e) (λb u v e=>e) (λb ps e=>⟨#[],by rw[e];simp⟩) (λm hm=>?_) (λb u e=>?_) I.bare
 .obtain⟨_,x,_,i,w,o⟩:=f b A
  exact⟨i,x,w,o⟩
 .obtain⟨g,y,h,j,r⟩:=hm
  exact⟨g,y,h,k _ g (λz=>(f _ z).2.1 rfl) j,r⟩
 .refine(I.hok b u e).stay (λc v a q=>k c v ?_ q) (λc q=>q) λc l q=>q
  rcases a with z | z
  .rw[z];exact d b u e
  .exact d c _ z
end
def Ite(a:Addr):It:=⟨λi H=>∃ xs x,H a=some (.lst xs)/\xs[i]? = some x,
 λi H x H'=>∃ p y,H p=none/\x=.ref p/\(∀ xs,H a=some (.lst xs)->xs[i]? = some y)/\H'=upd H p (.tup [.int (i:Nat),y]),λi H=>∃ xs,H a=some (.lst xs)/\xs.length<=i⟩
theorem qj{P:Program}{w:World}{K:Frag}{es:List Expr}{k:Nat}{M:Pos}(a e c:Addr)(B:e≠c) :
  Turn P w K (.Tuple es k M) (Ite a) [e,c] e (λi h=>(∃ old,IsEnum h e c i old)/\h.IsListIter c a i) where
 mem:=by simp
 obj:=λi h g b hb=>by
  obtain⟨⟨old,d⟩,o,C,D,h3⟩:=g
  rcases mem_cons.mp hb with rfl | hb
  .exact⟨_,d,λv z=>by cases z⟩
  .rw[mem_singleton.mp hb]
   exact⟨o,C,λv z=>by rw[h3]at z;cases z⟩
 keep:=λi h h' g kp=>by
  obtain⟨⟨old,d⟩,o,C,r⟩:=g;exact⟨⟨old,kp e (by simp) _ d⟩,o,kp c (by simp) o C,r⟩
 item:=by
  intro X T L S hc i j s σ H E I F g N;subst T L S;obtain⟨⟨old,d⟩,f⟩:=g;obtain⟨xs,x,G,Z⟩:=N;obtain⟨z,l,n,r,A,eo⟩:=I.lstM G;obtain⟨u,hu,ru⟩:=Vals.get r Z
  have m:s.heap.IsList a l.toArray:=⟨_,eo,rfl,_,rfl⟩
  refine wpAny_pyNext_enum_item d f m (x:=u) (by simpa using hu) B λC e1 e2 e3 e4 e5=>?_
  refine⟨_,rfl,wpAny_letOwnedTupleGo_enum e1 λD e6 Y=>?_⟩;have y:s.heap.objs.size≠e:=λq=>absurd (Heap.lt_size d) (by rw[<- q];exact Nat.lt_irrefl _)
  have R:s.heap.objs.size≠c:=λq=>by
   obtain⟨o,U,_⟩:=f;exact absurd (Heap.lt_size U) (by rw[<- q];exact Nat.lt_irrefl _)
  have hn:H s.heap.objs.size=none:=I.hok.fresh (Nat.le_refl _);have W:D.get? s.heap.objs.size=some { cls:=.type "tuple",data:=.seq #[.int i s.toks,u] }:=(Y.2 _ y).trans e3
  have J:Inv X j σ (upd H s.heap.objs.size (.tup [.int (i:Nat),x])) { s with heap:=D,toks:=s.toks+1 }:=by
   refine I.turnedNew (ch:=[e,c]) (λb o hb q=>?_) F (Nat.le_refl _) ⟨by rw[sizeLine_eq];show 2<=16777216;decide,[.int i s.toks,u],.cons ⟨_,rfl⟩ (.cons ru .nil),_,W,rfl,0,rfl⟩;have b1:b≠e:=λz=>hb (by simp[z])
   have b2:b≠c:=λz=>hb (by simp[z])
   exact(Y.2 b b1).trans (e5 b o b1 b2 q)
  refine⟨.ref s.heap.objs.size,_,J,rfl,⟨s.heap.objs.size,x,hn,rfl,λys hy=>?_,rfl⟩,⟨⟨u,?_⟩,?_⟩,λb hb=>?_⟩
  .rw[G]at hy
   cases hy;exact Z
  .have Q:IsEnum D e c ((i:Int)+1) u:=e6
   have e7:((i+1:Nat):Int)=(i:Int)+1:=by lia
   rw[e7];exact Q
  .obtain⟨o,U,r⟩:=e2
   exact⟨o,(Y.2 c (Ne.symm B)).trans U,r⟩
  .have O:b≠s.heap.objs.size:=by
    rcases mem_cons.mp hb with rfl | hb
    .exact y.symm
    .rw[mem_singleton.mp hb];exact R.symm
   rw[ai O];exact(F b hb).1
 done:=by
  intro X T L S hc i j s σ H E I F g N;subst T L S;obtain⟨⟨old,d⟩,f⟩:=g;obtain⟨xs,G,Z⟩:=N;obtain⟨z,l,n,r,A,eo⟩:=I.lstM G
  have m:s.heap.IsList a l.toArray:=⟨_,eo,rfl,_,rfl⟩
  refine wpAny_pyNext_enum_end (I.ok.hd hc) d f m (by simp;lia) λC eb=>⟨rfl,I.turnedN (ch:=[e,c]) (t':=s.toks) (λb o hb q=>eb b o (λz=>hb (by simp[z])) q) F⟩
 self:=λ_ _ _ _ _ g h=>by
  obtain⟨⟨old,d⟩,_⟩:=g;exact wpAny_pyIter_enum d h
def xZ(ta:TA):TI:=λσ H R=>ta σ H λvs H1=>∃ a xs,vs=[.ref a]/\H1 a=some (.lst xs)/\R (Ite a) H1
theorem ut{X:Cx}{es:List Expr}{k:Nat}{f:Pos}{e:Expr}{x:TA}{p g:Pos}(C:Gl X "enumerate")(J:X.mg "enumerate" = none)(K:PA X [e] x)(N:starEach [e] X.env=[(false,eval e X.env)]:=by rfl) :
  PI X (.Tuple es k f) (.Call (.Name "enumerate" p) [e] [] g) (xZ x):=by
 intro c s o H R I h;refine wpAny_Call_Name_kw (fA I C J kJ ?_ (by decide) (by decide));refine PyProof.Rows.callWith_type1 (thn (K g c s o H _ I h) λQ d ⟨O,v,j,A,a,P,l,L,q⟩=>?_) N rfl;subst l;obtain⟨u,rfl,F⟩:=di A;cases F;obtain⟨z,y,n,r,w,M⟩:=j.lstM L;refine call_enumerate_1 (n:=n) M λB l D S G=>?_
 have E:Inv X c o v { d with heap:=B }:=j.kept (t':=d.toks) G;have m:d.heap.objs.size+1≠d.heap.objs.size:=Nat.succ_ne_self _;refine wpAny_pyIter_enum l ?_;refine⟨d.heap.objs.size+1,[d.heap.objs.size+1,d.heap.objs.size],_,_,v,rfl,E,qj a _ _ m,⟨⟨_,l⟩,D⟩,λb hb=>?_,q⟩
 have i:d.heap.objs.size<=b:=by
  rcases mem_cons.mp hb with rfl | hb
  .lia
  .rw[mem_singleton.mp hb]
   exact Nat.le_refl _
 exact j.fpOk i (j.hok.fresh i)
theorem pX{D:Addr}{c:St}{g:TG}{f:TT}{d:TE}{Q:Hp->List V->Prop}{H:Hp}{a:Addr}{xs:List V}(Pv:Nat->List V->Hp->Prop)(k:Pv 0 [] H)(h:∀ i ys H,Pv i ys H->H a=some (.lst xs))(n:∀ i ys H,Pv i ys H->H D=some (.lst ys))
  (l:∀(i:Nat) x ys H p P,xs[i]? = some x->Pv i ys H->H p=none->(∀ a b,Pv (i+1) a b->P a b)->o9 D c g f d (.ref p) ys (upd H p (.tup [.int (i:Nat),x])) P) (j:∀ ys H,Pv xs.length ys H->Q H ys):∃ W,(∃ m,W 0 m [] H)/\iW (Ite a) D c g f d Q W:=by
 refine⟨λi m ys H=>m=xs.length - i/\i<=xs.length/\Pv i ys H,⟨_,rfl,Nat.zero_le _,k⟩,?_⟩;rintro i m ys H ⟨rfl,A,p⟩;refine⟨n i ys H p,?_⟩;have q:=h i ys H p
 by_cases hlt:i<xs.length
 .refine .inr ⟨⟨xs,xs[i],q,by simp[hlt]⟩,λx w y=>?_⟩
  obtain⟨b,v,u,rfl,o,rfl⟩:=y
  exact l i v ys H b (λa b=>∃ m',m'<xs.length - i/\m'=xs.length - (i+1)/\i+1<=xs.length/\Pv (i+1) a b) (o xs q) p u λa b r=>⟨_,by lia,rfl,hlt,r⟩
 .have e:i=xs.length:=by lia
  subst e;exact .inl ⟨⟨xs,q,Nat.le_refl _⟩,j ys H p⟩
def Itz(a b:Addr):It:=⟨λi H=>∃ xs ys x y,H a=some (.lst xs)/\H b=some (.lst ys)/\xs[i]? = some x/\ys[i]? = some y,
 λi H v H'=>∃ p x y,H p=none/\v=.ref p/\(∀ xs,H a=some (.lst xs)->xs[i]? = some x)/\(∀ ys,H b=some (.lst ys)->ys[i]? = some y)/\H'=upd H p (.tup [x,y]),
 λi H=>∃ xs ys,H a=some (.lst xs)/\H b=some (.lst ys)/\(xs.length<=i\/ys.length<=i)⟩
theorem sj{P:Program}{w:World}{K:Frag}{es:List Expr}{k:Nat}{ah:Pos}(a b z l f g j:Addr)(M:[z,l,f,g,j].Nodup) :
  Turn P w K (.Tuple es k ah) (Itz a b) [z,l,f,g,j] z (λi h=>IsZip h z l f .none/\IsPair h l (.ref g) (.ref j)/\(∃ u v,IsPair h f u v)/\h.IsListIter g a i/\h.IsListIter j b i):=by
 have n1:l≠z:=λe=>by simp[e]at M
 have n2:f≠z:=λe=>by simp[e]at M
 have n3:g≠z:=λe=>by simp[e]at M
 have n4:j≠z:=λe=>by simp[e]at M
 have n5:l≠f:=λe=>by simp[e]at M
 have n6:l≠g:=λe=>by simp[e]at M
 have n7:l≠j:=λe=>by simp[e]at M
 have n8:f≠g:=λe=>by simp[e]at M
 have n9:f≠j:=λe=>by simp[e]at M
 have n0:g≠j:=λe=>by simp[e]at M
 have F:∀{H:Hp}{xs ys:List V},(∀ c∈[z,l,f,g,j],H c=none)->H a=some (.lst xs)->H b=some (.lst ys)->ZipApart z l f g j a b:=λ{H xs ys} A D C =>
  ⟨n1,n2,n3,n4,n5,n6,n7,n8,n9,n0,ap D (A z (by simp)),ap D (A f (by simp)),ap D (A g (by simp)),ap D (A j (by simp)),
   ap C (A z (by simp)),ap C (A f (by simp)),ap C (A g (by simp)),ap C (A j (by simp))⟩
 refine { mem:=by simp,obj:=?_,keep:=?_,item:=?_,done:=?_,self:=?_ }
 .rintro i h ⟨Q,N,⟨u,v,R⟩,⟨o4,L,_,d4⟩,⟨o5,G,_,d5⟩⟩ c d
  simp only[mem_cons,not_mem_nil,or_false]at d
  rcases d with rfl | rfl | rfl | rfl | rfl
  .exact⟨_,Q,λv z=>by cases z⟩
  .exact⟨_,N,λv z=>by cases z⟩
  .exact⟨_,R,λv z=>by cases z⟩
  .exact⟨_,L,λv z=>by rw[d4]at z;cases z⟩
  .exact⟨_,G,λv z=>by rw[d5]at z;cases z⟩
 .rintro i h h' ⟨Q,N,⟨u,v,R⟩,⟨o4,L,r4⟩,⟨o5,G,r5⟩⟩ Z
  exact⟨Z z (by simp) _ Q,Z l (by simp) _ N,⟨u,v,Z f (by simp) _ R⟩,⟨o4,Z g (by simp) _ L,r4⟩,⟨o5,Z j (by simp) _ G,r5⟩⟩
 .intro X hP hw hK d i O s σ H E I A st hg
  subst hP hw hK;obtain⟨Q,N,⟨u,v,R⟩,L,G⟩:=st;obtain⟨xs,ys,x,y,D,C,hx,hy⟩:=hg;obtain⟨_,S,n,r,ab,eo⟩:=I.lstM D;obtain⟨_,B,m,r2,T,U⟩:=I.lstM C;obtain⟨ux,an,as⟩:=Vals.get r hx;obtain⟨uy,al,a0⟩:=Vals.get r2 hy;have hn:H s.heap.objs.size=none:=I.hok.fresh (Nat.le_refl _)
  have Y:∀ c∈[z,l,f,g,j],c≠s.heap.objs.size:=λc d q=>by
   have:∃ o,s.heap.get? c=some o:=by
    simp only[mem_cons,not_mem_nil,or_false]at d;obtain⟨o4,L,_⟩:=L;obtain⟨o5,G,_⟩:=G
    rcases d with rfl | rfl | rfl | rfl | rfl
    .exact⟨_,Q⟩
    .exact⟨_,N⟩
    .exact⟨_,R⟩
    .exact⟨_,L⟩
    .exact⟨_,G⟩
   obtain⟨o,ho⟩:=this;exact absurd (Heap.lt_size ho) (by rw[q];exact Nat.lt_irrefl _)
  refine wpAny_pyNext_zip_item (F (λc d=>(A c d).1) D C) Q N R L G (xs:=S.toArray) (ys:=B.toArray) ⟨_,eo,rfl,_,rfl⟩ ⟨_,U,rfl,_,rfl⟩ (x:=ux) (y:=uy) (by simpa using an) (by simpa using al)
   λh6 e1 e2 e3 e4 e5 e6 e7=>?_
  refine⟨_,rfl,wpAny_letOwnedTupleGo_zip e1 λh7 e8 W=>?_⟩
  have J:Inv X O σ (upd H s.heap.objs.size (.tup [x,y])) { s with heap:=h7 }:=by
   refine I.turnedNew (t':=s.toks) (ch:=[z,l,f,g,j]) (λc o d q=>?_) A (Nat.le_refl _) ⟨by rw[sizeLine_eq];show 2<=16777216;decide,[ux,uy],.cons as (.cons a0 .nil),_,(W.2 _ (Y z (by simp)).symm).trans e5,rfl,0,rfl⟩;have c1:c≠z:=λw=>d (by simp[w])
   exact(W.2 c c1).trans (e7 c o c1 (λw=>d (by simp[w])) (λw=>d (by simp[w])) (λw=>d (by simp[w])) q)
  refine⟨.ref s.heap.objs.size,_,J,rfl,⟨s.heap.objs.size,x,y,hn,rfl,λa1 h=>by rw[D]at h;cases h;exact hx,λys' h=>by rw[C]at h;cases h;exact hy,rfl⟩,⟨e8,?_,⟨ux,uy,?_⟩,?_,?_⟩,λc d=>?_⟩
  .exact(W.2 l n1).trans (e7 l _ n1 n5 n6 n7 N)
  .exact(W.2 f n2).trans e2
  .obtain⟨o,ho,q⟩:=e3
   exact⟨o,(W.2 g n3).trans ho,q⟩
  .obtain⟨o,ho,q⟩:=e4
   exact⟨o,(W.2 j n4).trans ho,q⟩
  .rw[ai (Y c d)]
   exact(A c d).1
 .intro X hP hw hK d i O s σ H E I A st hg
  subst hP hw hK;obtain⟨Q,N,⟨u,v,R⟩,L,G⟩:=st;obtain⟨xs,ys,D,C,hx⟩:=hg;obtain⟨_,S,n,r,ab,eo⟩:=I.lstM D;obtain⟨_,B,m,r2,T,U⟩:=I.lstM C;refine wpAny_pyNext_zip_end (I.ok.hd d) (F (λc d=>(A c d).1) D C) Q N R L G (xs:=S.toArray) (ys:=B.toArray) ⟨_,eo,rfl,_,rfl⟩ ⟨_,U,rfl,_,rfl⟩ (by simp;lia) λh6 e7=>?_
  exact⟨rfl,I.turnedN (t':=s.toks) (ch:=[z,l,f,g,j]) (λc o d q=>e7 c o (λw=>d (by simp[w])) (λw=>d (by simp[w])) (λw=>d (by simp[w])) (λw=>d (by simp[w])) q) A⟩
 .exact λ_ _ _ _ _ st h=>wpAny_pyIter_zip st.1 h
def yJ(ta:TA):TI:=λσ H R=>ta σ H λvs H1=>∃ a b xs ys,vs=[.ref a,.ref b]/\H1 a=some (.lst xs)/\H1 b=some (.lst ys)/\R (Itz a b) H1
theorem qM{X:Cx}{es:List Expr}{k:Nat}{j:Pos}{e f:Expr}{K:TA}{p i:Pos}(O:Gl X "zip")(W:X.mg "zip" = none)(Z:PA X [e,f] K)(hs:starEach [e,f] X.env=(false,eval e X.env)::starEach [f] X.env:=by rfl)
  (D:(backTo i (starEach [f] X.env)).any (·.1)=false:=by rfl):PI X (.Tuple es k j) (.Call (.Name "zip" p) [e,f] [] i) (yJ K):=by
 intro g s E H R I h;refine wpAny_Call_Name_kw (fA I O W qY ?_ (by decide) (by decide));refine PyProof.Rows.callWith_type1 (thn (Z i g s E H _ I h) λus d ⟨vs,F,l,M,a,b,xs,ys,x,hl,C,q⟩=>?_) hs D;subst x;obtain⟨u,v,rfl,T,L⟩:=mt M;cases T;cases L;obtain⟨_,y,n,r,G,eo⟩:=l.lstM hl;obtain⟨_,o,m,r2,A,B⟩:=l.lstM C;refine call_zip_2 (xs:=y.toArray) (ys:=o.toArray) ⟨_,eo,rfl,_,rfl⟩ ⟨_,B,rfl,_,rfl⟩ λN x P S U Y e6 e7=>?_
 have Q:Inv X g E F { d with heap:=N }:=l.kept (t':=d.toks) e7;refine wpAny_pyIter_zip x ?_;refine⟨d.heap.objs.size+4,[d.heap.objs.size+4,d.heap.objs.size+2,d.heap.objs.size+3,d.heap.objs.size,d.heap.objs.size+1],_,_,F,rfl,Q,sj a b _ _ _ _ _ (by simp),⟨x,P,⟨_,_,S⟩,U,Y⟩,λc J=>?_,q⟩
 have w:d.heap.objs.size<=c:=by
  simp only[mem_cons,not_mem_nil,or_false]at J
  rcases J with z | z | z | z | z <;> rw[z] <;> first | exact Nat.le_refl _ | exact Nat.le_add_right _ _
 exact l.fpOk w (l.hok.fresh w)
theorem pv{a b:Addr}{xs ys:List V}{g:TG}{j:TS}{D:Ends}{d:St}{H:Hp}(A:xs.length=ys.length)(Pv:Nat->St->Hp->Prop)(u:Pv 0 d H)(q:∀ i d H,Pv i d H->H a=some (.lst xs)/\H b=some (.lst ys))
  (w:∀(i:Nat) x y d H p,xs[i]? = some x->ys[i]? = some y->Pv i d H->H p=none->g (.ref p) d (upd H p (.tup [x,y])) λσ2 H2=>j { D with nx:=Pv (i+1),ct:=Pv (i+1),bk:=D.nx } σ2 H2) (l:∀ d H,Pv xs.length d H->D.nx d H) :
  ∃ W:Nat->Nat->St->Hp->Prop,(∃ m,W 0 m d H)/\∀ i m d H,W i m d H ->
   ((Itz a b).stop i H/\D.nx d H)\/((Itz a b).go i H/\∃ N:St->Hp->Prop,(∀ σ' H',N σ' H'->∃ m',m'<m/\W (i+1) m' σ' H')/\∀ x H',(Itz a b).yld i H x H'->g x d H' λσ2 H2=>j { D with nx:=N,ct:=N,bk:=D.nx } σ2 H2):=by
 refine⟨λi m d H=>m=xs.length - i/\i<=xs.length/\Pv i d H,⟨_,rfl,Nat.zero_le _,u⟩,?_⟩;rintro i m d H ⟨rfl,B,p⟩;obtain⟨f,h⟩:=q i d H p
 by_cases hlt:i<xs.length
 .refine .inr ⟨⟨xs,ys,xs[i],ys[i]'(by lia),f,h,by simp[hlt],by simp[show i<ys.length by lia]⟩,Pv (i+1),λσ' H' k=>⟨_,by lia,rfl,hlt,k⟩,λv H' y=>?_⟩
  obtain⟨c,x,y,n,rfl,o,r,rfl⟩:=y;exact w i x y d H c (o xs f) (r ys h) p n
 .have e:i=xs.length:=by lia
  subst e;exact .inl ⟨⟨xs,ys,f,h,.inl (Nat.le_refl _)⟩,l d H p⟩
end L2
namespace SplM
open PySem
end SplM
namespace L2
open PySem PySem.Spec PyProof.Rows
section
variable {X:Cx}
open Builtin.Str in
theorem xc{P:Program}{w:World}{A:Around}{E:Value->Shared->Prop}{s:Shared}{x y:Str}{t u:Tok}{Q:Value->Shared->Prop}(c:(y.length == 0)=false)(d:x.length<=sizeLine)
  (e:(partsBetween x (occurrences x y 0 x.length (x.length+1)) y.length).length<=sizeLine)
  (h:∀(l:List (Str×Tok)) (k:Nat),l.map (·.1)=Txt.split x y->Q (.ref s.heap.objs.size) { s with heap:=s.heap.push { cls:=.type "list",data:=.seq (strValues l).toArray },toks:=k }) :
  wpAny (model P w) A (call (.builtin "str.split") [.str x t,.str y u]) Q E s:=by
 by_cases h1:(decide (x.length<y.length) || decide (strKind x<strKind y))=true
 .refine call_meets F.slot_str_split (typeIs_str s x t) F.entry_str_split (F.args_str_split_2 _ _) (meets_str_split_cannot_occur x y t u h1) ?_
  exact h [(x,t)] s.toks (by unfold Txt.split;rw[if_pos h1];rfl)
 .have a:=eq_false_of_ne_true h1
  by_cases h2:(occurrences x y 0 x.length (x.length+1)).isEmpty=true
  .refine call_meets F.slot_str_split (typeIs_str s x t) F.entry_str_split (F.args_str_split_2 _ _) (meets_str_split_not_found x y t u a c h2) ?_
   exact h [(x,t)] s.toks (by unfold Txt.split;rw[if_neg h1,if_pos h2];rfl)
  .have b:=eq_false_of_ne_true h2
   refine call_meets F.slot_str_split (typeIs_str s x t) F.entry_str_split (F.args_str_split_2 _ _) (meets_str_split_sep x y t u a c b d e) ?_
   have:=h (numbered s.toks (partsBetween x (occurrences x y 0 x.length (x.length+1)) y.length)) (s.toks+(partsBetween x (occurrences x y 0 x.length (x.length+1)) y.length).length)
    ((numbered_texts _ _).trans (by unfold Txt.split;rw[if_neg h1,if_neg h2]))
   rw[<- strsFrom_eq]at this;exact this
variable {o e:Expr}{es:List Expr}{to:TE}{t:TA}{apos cpos:Pos}
theorem pe_m.append(f:PE X o to)(g:PA X (e::es) t)(b:attributeBase o "append" X.env (eval o X.env)=eval o X.env:=by rfl)
  (d:((backTo cpos (starEach (e::es) X.env)).all (λx=>!x.1) && (backToKw cpos (keywordEach [] X.env)).all (λx=>x.1.isSome) && decide ((e::es).length+([]:List Keyword).length+(if ([]:List Keyword).isEmpty then 0 else 1)<30))=true:=by rfl)
  (c:(apos.endLine == cpos.line)=true:=by rfl) (h:starEach (e::es) X.env=(false,eval e X.env)::starEach es X.env:=by rfl) (a:(backTo cpos (starEach es X.env)).any (·.1)=false:=by rfl) :
  PE X (.Call (.Attribute o "append" apos) (e::es) [] cpos) (tBM X.K "list" rAppend to t):=oJ F.plainAttrs_list F.slot_list_append F.type_list_append jJ f g b d c h a
theorem pe_m.popAt(f:PE X o to)(g:PA X (e::es) t)(b:attributeBase o "pop" X.env (eval o X.env)=eval o X.env:=by rfl)
  (d:((backTo cpos (starEach (e::es) X.env)).all (λx=>!x.1) && (backToKw cpos (keywordEach [] X.env)).all (λx=>x.1.isSome) && decide ((e::es).length+([]:List Keyword).length+(if ([]:List Keyword).isEmpty then 0 else 1)<30))=true:=by rfl)
  (c:(apos.endLine == cpos.line)=true:=by rfl) (h:starEach (e::es) X.env=(false,eval e X.env)::starEach es X.env:=by rfl) (a:(backTo cpos (starEach es X.env)).any (·.1)=false:=by rfl) :
  PE X (.Call (.Attribute o "pop" apos) (e::es) [] cpos) (tBM X.K "list" sS to t):=oJ F.plainAttrs_list F.slot_list_pop F.type_list_pop rN f g b d c h a
end
def TK(H H':Hp):Prop:=∀ b xs,H b=some (.tup xs)->H' b=some (.tup xs)
theorem TK.trans{H d e:Hp}(a:TK H d)(b:TK d e):TK H e:=λc o h=>b c o (a c o h)
theorem Same.tk{H a:Hp}(e:Same H a):TK H a:=λb c h=>e b _ h
theorem TK.lst{H:Hp}{l:Addr}{xs ys:List V}(h:H l=some (.lst xs)):TK H (upd H l (.lst ys)):=λb a e=>by
 rw[ai (vn e h (by intro z;cases z))];exact e
theorem Same.put{H a:Hp}{D:Addr}{o:HO}(e:Same H a)(h:H D=none):Same H (upd a D o):=λb u q=>by
 rw[ai (ap q h)];exact e b u q
theorem de{a:Type}{xs:List a}{i:Int}{v:a}(k:Nat)(b:(k:Int)=i)(h:xs[k]? = some v):atI xs i=some v:=by rw[<- b];exact dY h
theorem qu(xs:List V)(k:Nat)(h:k<=xs.length):dN xs none (some (k:Int))=xs.take k:=by
 unfold dN;rw[HT.sIx_nat,HT.sIx_none,List.drop_zero,Nat.sub_zero,Nat.min_eq_left h]
theorem jX(xs:List V)(k:Nat):dN xs (some (k:Int)) none=xs.drop k:=by
 unfold dN;rw[HT.sIx_nat,HT.sIx_none]
 by_cases h:k<=xs.length
 .rw[Nat.min_eq_left h,take_of_length_le (by simp)]
 .rw[Nat.min_eq_right (by lia),Nat.sub_self,take_zero,List.drop_of_length_le (by lia)]
section
variable {X:Cx}{K:Frag}
theorem eP(h:X.K=K):IxR X (rIx K):=h ▸ aY
theorem m9(h:X.K=K):CallR X (.builtin "len") (λxs H Q=>match xs with
  | [.str z]=>z.length<=sizeLine/\Q (.int z.length) H
  | [.ref p]=>rLenSq K p H Q
  | _=>False):=h ▸ ay
theorem nD(h:X.K=K):OpR X (compareOp .In) (rIn K false):=h ▸ gJ
theorem jE(h:X.K=K):OpR X (compareOp .NotIn) (rIn K true):=h ▸ ll
theorem d3(h:X.K=K){es:List Expr}{k:Nat}{t:TGs}{n:Nat}{b:Pos}(c:X.calm=true)(e:PGs X es t)(d:(assignEach es X.env).length=n:=by rfl)(a:(assignEach es X.env).findIdx? (·.1)=none:=by rfl) :
  PG X (.Tuple es k b) (gTup K n t):=h ▸ fk c e d a
end
structure XCls(K:Frag)(D:Addr):Prop where
 ga:findIn K (.ref D) "__getattribute__" = some (some (.builtin "BaseException.__getattribute__"))
 gn:findIn K (.ref D) "__getattr__" = some none
 cl:findIn K (.ref D) "__class__" = some (some (.builtin "object.__class__"))
 mb:mroIn K D (.type "BaseException")=some true
 mo:mroIn K D (.type "object")=some true
 isc:(clsIn K D).isSome=true
section
variable {prog:Program}{w:World}{A:Around}{E:Value->Shared->Prop}{h:Heap}{g:Array GenState}{d:Drawn}{t:Nat}{os:OsState}{a D:Addr}{o:Obj}{K:Frag}
end
structure XHd(K:Frag)(C:Addr):Prop where
 isc:(clsIn K C).isSome=true
 ty:typeIn K (.ref C)=some (.type "type")
 mb:mroIn K C (.type "BaseException")=some true
section
variable {X:Cx}{pins:List (Addr×Obj)}{σ:St}{H H' H1:Hp}{s s' s1:Shared}{x D C:Addr}{a0:Value}{B h2:Heap}
end
section
variable {prog:Program}{w:World}{A:Around}{E:Value->Shared->Prop}{h:Heap}{g:Array GenState}{d:Drawn}{t:Nat}{os:OsState}{a D dx:Addr}{o:Obj}{vs:Array Value}{cd:ClassData}{K:Frag}{name:Str}{mA:Str->Option Value}{v:Value}
abbrev bmV:List Value:=[.type "ValueError",.type "Exception",.type "BaseException",.type "object"]
def y3:Value->Bool
 | .ref _=>true
 | _=>false
def vh(l:List Value):Bool:=l.dropWhile y3 == bmV
structure XSet(K:Frag)(D:Addr)(name:Str)(cd:ClassData):Prop where
 k:clsIn K D=some cd
 dct:cd.hasDict=true
 mro:vh cd.mro=true
 mo:mroIn K D (.type "object")=some true
 sa:findIn K (.ref D) "__setattr__" = some (some (.builtin "object.__setattr__"))
 na:findIn K (.ref D) name=some none
end
section
variable {prog:Program}{w:World}{A:Around}{E:Value->Shared->Prop}{h:Heap}{g:Array GenState}{d:Drawn}{t:Nat}{os:OsState}
variable {nm q:Str}{C N fI:Addr}{bs bm bmB:List Value}{hdct:Bool}{sn:List Str}{sub:List Value}{ab:Bool}{col:Option Bool}{dd:Option Addr}{k0 k1 k2 k3 k5:Option Value}{B newId initId:String}{mN:Str->Option Value}{rest:List Value}{oI:Obj}
end
def xIn(K:Frag)(C:Addr)(fI:Option Value):Bool:=match K.lookup C with
 | some ⟨.type "type",_,.cls cd,sl⟩=>(match cd.mro,sl.toList with
  | .ref C'::bm,[_,_,_,_,some (.builtin n),_]=>C' == C && n == "ValueError.__new__" && !cd.hasDel && tailIn K bmV bm && nsOkIn K cd.ns && nsIn K cd.ns "__init__" == some fI
  | _,_=>false)
 | _=>false
def pN(K:Frag)(D:Addr):Bool:=findIn K (.ref D) "__getattribute__" == some (some (.builtin "BaseException.__getattribute__")) && findIn K (.ref D) "__getattr__" == some none &&
 findIn K (.ref D) "__class__" == some (some (.builtin "object.__class__")) && mroIn K D (.type "BaseException") == some true && mroIn K D (.type "object") == some true && (clsIn K D).isSome && typeIn K (.ref D) == some (.type "type")
theorem zf{K:Frag}{D:Addr}(h:pN K D=true):XCls K D:=by
 unfold pN at h;simp only[Bool.and_eq_true,beq_iff_eq]at h;obtain⟨⟨⟨⟨⟨⟨a,f⟩,b⟩,e⟩,d⟩,c⟩,g⟩:=h;exact⟨a,f,b,e,d,c⟩
theorem zg{K:Frag}{D:Addr}(h:pN K D=true):XHd K D:=by
 unfold pN at h;simp only[Bool.and_eq_true,beq_iff_eq]at h;obtain⟨⟨⟨⟨⟨⟨d,g⟩,e⟩,b⟩,f⟩,a⟩,c⟩:=h;exact⟨a,c,b⟩
def v6(K:Frag)(D:Addr)(name:Str):Bool:=((clsIn K D).any λcd=>cd.hasDict && vh cd.mro) && mroIn K D (.type "object") == some true &&
 findIn K (.ref D) "__setattr__" == some (some (.builtin "object.__setattr__")) && findIn K (.ref D) name == some none
theorem ze{K:Frag}{D:Addr}{name:Str}(h:v6 K D name=true):∃ cd,XSet K D name cd:=by
 unfold v6 at h;simp only[Bool.and_eq_true,beq_iff_eq]at h;obtain⟨⟨⟨b,f⟩,c⟩,d⟩:=h;obtain⟨cd,e,a⟩:=any_some b;rw[Bool.and_eq_true]at a;exact⟨cd,e,a.1,a.2,f,c,d⟩
section
variable {P:Program}{w:World}{K:Frag}{mg:Str->Option Value}{base:Heap}{N:List Str}{qual:Str}{scope:Scope}{f:Addr}{cdv:Value}{A:Around}{outer:List Env}{s0:Shared}{H0:Hp}{E:XK}
end
section
variable {X:Cx}{k:Nat}{f C:Addr}{fd:FuncData}{ps:List Str}{sp:Sp}{x:Str}{p pos:Pos}{e:Expr}{es:List Expr}{t:TA}
end
def IV(v d:Addr):Heap->Prop:=λh=>h.IsItemsView v d
section
variable {X:Cx}{o e:Expr}{es:List Expr}{to:TE}{t:TA}{apos cpos:Pos}
end
section
variable {X:Cx}{o e:Expr}{es:List Expr}{to:TE}{t:TA}{apos cpos:Pos}
end
theorem ly:∀{xs:List V}{us:List Value},xs.length=us.length->(∀(i:Nat) x u,xs[i]? = some x->us[i]? = some u->RelV x u)->Vals xs us
 | [],[],_,_=>.nil
 | x::xs,u::us,h,r=>.cons (r 0 x u rfl rfl) (ly (by simpa using h) λi y w b a=>r (i+1) y w (by simpa using b) (by simpa using a))
 | [],_::_,h,_=>by cases h
 | _::_,[],h,_=>by cases h
section
variable {X:Cx}
theorem kd:CallR X (.type "range") (λxs H Q=>∃ b,xs=[.int b]/\∀ p,H p=none->Q (.ref p) (upd H p (.rng 0 b))):=by
 intro a s d H xs c Q I r h;obtain⟨b,rfl,q⟩:=h;obtain⟨u,rfl,⟨t,rfl⟩⟩:=di r;refine call_range_1 ?_;exact⟨.ref s.heap.objs.size,_,I.laid (o:=.rng 0 b) (λb o e=>Heap.get?_push_of_some _ e) (Nat.le_refl _) ⟨_,_,_,Heap.get?_push_size _ rfl⟩,rfl,q _ (I.hok.fresh (Nat.le_refl _))⟩
theorem mF(E:X.calm=true):CallR X (.type "list") (λxs H Q=>∃(p:Addr),xs=[.ref p]/\H p=some (.rng 0 24)/\∀ l,H l=none->Q (.ref l) (upd H l (.lst ((List.range 24).map λ(i:Nat)=>V.int (i:Int))))):=by
 intro f s G H xs F Q I r h;obtain⟨p,rfl,e,q⟩:=h;obtain⟨u,rfl,A⟩:=di r;cases A
 obtain⟨t,J,L,D⟩:=(show ObjOk X.prog X.w H s.heap p (.rng 0 24) from I.hok p _ e)
 refine call_list_range (n:=24) (I.ok.hd E) D (by decide) (by decide) (by decide) λK w d c j B k=>?_
 refine⟨.ref s.heap.objs.size,_,I.laid (t':=w) (o:=.lst ((List.range 24).map λ(i:Nat)=>V.int (i:Int))) j (Nat.le_refl _) ?_,rfl,q _ (I.hok.fresh (Nat.le_refl _))⟩;obtain⟨g,v⟩:=k;refine⟨by rw[length_map,length_range,sizeLine_eq];lia,d.toList,c,ly (by rw[length_map,length_range];simpa using g.symm) λi x u a C=>?_,B⟩;rw[List.getElem?_map]at a
 have b:i<24:=by
  by_cases b:i<24
  .exact b
  .rw[List.getElem?_eq_none (by rw[length_range];lia)]at a
   cases a
 rw[List.getElem?_range b]at a;cases a;obtain⟨y,m⟩:=v i u (by simpa using C);refine(show ∃ t',u=Value.int (i:Int) t' from⟨y,?_⟩);rw[m]
 congr 1
 lia
end
end L2
namespace FrM
theorem lZ(x y:Int):Int.gcd y (x % y)=Int.gcd x y:=by
 have e:x=x % y+y*(x/y):=(Int.emod_add_mul_ediv x y).symm;rw[Int.gcd_comm x y]
 conv=>rhs;rw[e]
 rw[Int.gcd_add_mul_left_right]
def Bt(n:Nat)(i:Int):Prop:=i.natAbs<2 ^ n
theorem Bt.mono{m n:Nat}{i:Int}(h:Bt m i)(l:m<=n):Bt n i:=Nat.lt_of_lt_of_le h (Nat.pow_le_pow_right (by decide) l)
theorem Bt.le{n:Nat}{i j:Int}(h:Bt n i)(l:j.natAbs<=i.natAbs):Bt n j:=Nat.lt_of_le_of_lt l h
theorem Bt.mul{m n:Nat}{i j:Int}(h:Bt m i)(h':Bt n j):Bt (m+n) (i*j):=by
 unfold Bt at *;rw[Int.natAbs_mul,Nat.pow_add];exact Nat.mul_lt_mul_of_le_of_lt (Nat.le_of_lt h) h' (Nat.lt_of_le_of_lt (Nat.zero_le _) h)
theorem Bt.add{n:Nat}{i j:Int}(h:Bt n i)(h':Bt n j):Bt (n+1) (i+j):=by
 unfold Bt at *;rw[Nat.pow_succ];omega
structure Low(T B t b:Int):Prop where
 pos:1<=b
 cop:Int.gcd t b=1
 eq:t*B=T*b
theorem low(t b:Int)(g:0<b):0<(Int.gcd t b:Int)/\(Int.gcd t b:Int)<=b/\Low t b (t/(Int.gcd t b:Int)) (b/(Int.gcd t b:Int))/\(t/(Int.gcd t b:Int)).natAbs<=t.natAbs/\(b/(Int.gcd t b:Int)).natAbs<=b.natAbs:=by
 have e:0<Int.gcd t b:=Int.gcd_pos_iff.mpr (.inr (by omega));have d:0<(Int.gcd t b:Int):=by omega
 have f:=Int.gcd_dvd_left t b;have a:=Int.gcd_dvd_right t b;have h:=Int.ediv_mul_cancel f;have i:=Int.ediv_mul_cancel a;have c:(Int.gcd t b:Int)<=b:=Int.le_of_dvd g a;refine⟨d,c,⟨?_,Int.gcd_ediv_gcd_ediv_gcd e,?_⟩,?_,?_⟩
 .have:=Int.ediv_pos_of_pos_of_dvd g (by omega) a
  omega
 .rw[<- Int.mul_ediv_assoc _ a,Int.mul_comm,<- Int.mul_ediv_assoc _ f,Int.mul_comm]
 .have:=congrArg Int.natAbs h
  rw[Int.natAbs_mul]at this;rw[<- this];exact Nat.le_mul_of_pos_right _ (by simpa using e)
 .have:=congrArg Int.natAbs i
  rw[Int.natAbs_mul]at this;rw[<- this];exact Nat.le_mul_of_pos_right _ (by simpa using e)
theorem tP{b t a:Int}(c:Int.gcd t b=1)(h:b ∣ t*a):b ∣ a:=by
 rw[<- Int.natAbs_dvd_natAbs]at *;rw[Int.natAbs_mul]at h;exact Nat.Coprime.dvd_of_dvd_mul_left (by rw[Nat.coprime_comm];exact c) h
end FrM
namespace L2
open PySem PySem.Spec PyProof.Rows FrM
section
variable {X:Cx}
def CMulB(i j:Int):Prop:=(Bt 8000 i/\Bt 8000 j)\/CMul i j
theorem CMulB.ok{i j:Int}(h:CMulB i j):IntMulOk i j:=by
 rcases h with⟨b,a⟩ | h
 .exact IntMulOk.of_le (m:=8000) (n:=8000) (intBits_le_iff.mpr b) (intBits_le_iff.mpr a) (by decide)
 .exact h.ok
def CDivB(i j:Int):Prop:=0<j/\Bt 8000 j
theorem CDivB.no{i j:Int}(h:CDivB i j):Builtin.divisionGoesByPylong i j=false:=by
 refine PyProof.noPylong_of_log2 ?_;have a:j.natAbs<2 ^ 8000:=h.2
 by_cases h0:j.natAbs=0
 .rw[h0];decide +kernel
 .have:j.natAbs.log2<8000:=(Nat.log2_lt h0).mpr a
  lia
theorem op_mulB:OpR X (binaryOp .Mult) (rI CMulB λi j=>.int (i*j)):=opI λ_ _ _ _ _ _ _ a q=>mul_int q a.ok
theorem op_fdivB:OpR X (binaryOp .FloorDiv) (rI CDivB λi j=>.int (i/j)):=opI λi j _ _ _ _ _ a q=>by
 have b:(0:Int)<j:=a.1;exact floordiv_int (by lia) (by rw[Int.fdiv_eq_ediv_of_nonneg i (by lia)];exact q) (.inl a.no)
theorem cz:OpR X (binaryOp .Mult) (rIC CMulB λi j=>.int (i*j)):=op_mulB.ic
theorem dc:OpR X (binaryOp .FloorDiv) (rIC CDivB λi j=>.int (i/j)):=op_fdivB.ic
theorem cmB{i j:Int}{m n:Nat}(h:Bt m i)(h':Bt n j)(b:m<=8000:=by decide)(a:n<=8000:=by decide):CMulB i j:=.inl ⟨h.mono b,h'.mono a⟩
theorem clB{i j:Int}(h:-(2 ^ 64)<i:=by decide)(a:i<2 ^ 64:=by decide):CMulB i j:=.inr (cl h a)
theorem crB{i j:Int}(h:-(2 ^ 64)<j:=by decide)(a:j<2 ^ 64:=by decide):CMulB i j:=.inr (cr h a)
theorem cdB{i j:Int}{n:Nat}(h:0<j)(h':Bt n j)(a:n<=8000:=by decide):CDivB i j:=⟨h,h'.mono a⟩
theorem rG:bootBuiltins "abs" = some (.builtin "abs"):=by decide +kernel
end
end L2
namespace L2
open PySem PySem.Spec PyProof.Rows
structure LamD where
 qual:Str
 params:Arguments
 body:Expr
 scope:Scope
def gW(f:Addr)(d:LamD)(clos:List (Str×Addr))(c:Addr):Heap->Prop:=λh=>∃ pm ctv,h.get? f=some (kla_obj "<lambda>" d.qual d.params d.body d.scope clos pm c ctv)
def dB(c:Addr)(v:V):Heap->Prop:=λh=>∃ o u,h.get? c=some o/\o.data=.cell (some u)/\RelV v u
def fe(c:Addr)(q:Str):Heap->Prop:=λh=>∃ o vs t,h.get? c=some o/\o.data=.fields vs/\vs[1]? = some (.str q t)
section
variable {P:Program}{w:World}{H:Hp}{h:Heap}
theorem ph{f:Addr}{d:LamD}{b:List (Str×Addr)}{c:Addr}{g a:Value}(e:h.get? f=some (kla_obj "<lambda>" d.qual d.params d.body d.scope b g c a)):ObjOk P w H h f (.ext (gW f d b c)) :=
 ⟨⟨g,a,e⟩,⟨_,e⟩,λj l ⟨g,a,i⟩ k=>⟨g,a,k _ i⟩⟩
theorem mE{c:Addr}{v:V}(x:dB c v h):ObjOk P w H h c (.ext (dB c v)) :=
 ⟨x,let ⟨o,_,e,_⟩:=x;⟨o,e⟩,λb d ⟨o,u,a,r⟩ k=>⟨o,u,k _ a,r⟩⟩
theorem qT{c:Addr}{q:Str}(x:fe c q h):ObjOk P w H h c (.ext (fe c q)) :=
 ⟨x,let ⟨o,_,_,e,_⟩:=x;⟨o,e⟩,λd f ⟨o,b,t,a,r⟩ k=>⟨o,b,t,k _ a,r⟩⟩
end
theorem uh(a:Addr)(o:Obj)(e:o.data≠.freed):∃ h:Heap,h.get? a=some o:=by
 refine⟨{ objs:=Array.replicate (a+1) o },?_⟩;obtain⟨c,d,b,f⟩:=o
 cases b <;> first | exact absurd rfl e | simp[Heap.get?]
theorem ko{c:Addr}{q:Str}{v:V}:HO.ext (fe c q)≠HO.ext (dB c v):=λe=>by
 injection e with e
 obtain⟨h,b⟩:=uh c { cls:=.none,data:=.fields #[.none,.str q 0] } (by intro z;cases z);have y:dB c v h:=by rw[<- e];exact⟨_,_,_,b,rfl,rfl⟩
 obtain⟨o,u,a,d,_⟩:=y;rw[b]at a;cases a;cases d
def xf:HO->Bool
 | .tbl _=>false
 | _=>true
def SameT(H H':Hp):Prop:=∀ b o,H b=some o->(xf o=true->H' b=some o)/\∃ o',H' b=some o'
theorem SameT.refl{H:Hp}:SameT H H:=λb o e=>⟨λ_=>e,o,e⟩
theorem SameT.trans{H d h:Hp}(a:SameT H d)(b:SameT d h):SameT H h:=λc o e=>by
 obtain⟨f,k,i⟩:=a c o e;obtain⟨g,j,l⟩:=b c k i;exact⟨λn=>(b c o (f n)).1 n,j,l⟩
theorem Same.t{H a:Hp}(s:Same H a):SameT H a:=λb o e=>⟨λ_=>s b o e,o,s b o e⟩
theorem SameT.at{H b:Hp}(s:SameT H b){a:Addr}{o:HO}(e:H a=some o)(n:xf o=true:=by rfl):b a=some o:=(s a o e).1 n
theorem SameT.free{H c:Hp}(s:SameT H c){a:Addr}(e:c a=none):H a=none:=by
 cases q:H a with
 | none=>rfl
 | some o=>obtain⟨_,d,b⟩:=s a o q;rw[e]at b;cases b
theorem SameT.put{H c:Hp}(s:SameT H c){a:Addr}{o:HO}(e:H a=none):SameT H (upd c a o):=λb u q=>by
 have n:b≠a:=λz=>by rw[z,e]at q;cases q
 rw[ai n];exact s b u q
def yt(H:Hp)(P:Addr)(ls:List (Pos×Str)):Prop:=∃ ps,H P=some (.tbl ps)/\TriplesOk ps.toList/\∀ l∈ls,codeAmong l.1 ps.toList=none\/∃ c,codeAmong l.1 ps.toList=some (.ref c)/\H c=some (.ext (fe c l.2))
abbrev lx:=List (Addr×List (Pos×Str))
def TabsOk(tabs:lx)(H:Hp):Prop:=∀ q∈tabs,yt H q.1 q.2
theorem TabsOk.same{d:lx}{H e:Hp}(t:TabsOk d H)(s:Same H e):TabsOk d e:=λq f=>by
 obtain⟨i,j,k,h⟩:=t q f;exact⟨i,s _ _ j,k,λl g=>(h l g).imp id λ⟨c,a,b⟩=>⟨c,a,s _ _ b⟩⟩
theorem TabsOk.put{d:lx}{H:Hp}{r:Addr}{o:HO}(t:TabsOk d H)(g:∀ ps,H r≠some (.tbl ps))(k:∀ φ,H r≠some (.ext φ)):TabsOk d (upd H r o):=λq f=>by
 obtain⟨ps,e,j,i⟩:=t q f;refine⟨ps,?_,j,λl h=>(i l h).imp id λ⟨c,a,b⟩=>⟨c,a,?_⟩⟩
 .rw[ai λz=>g ps (by rw[<- z];exact e)];exact e
 .rw[ai λz=>k _ (by rw[<- z];exact b)];exact b
theorem mQ{p d:Pos}{c:Value}(l:List Value)(h:TriplesOk l)(e:¬(p.line=d.line/\p.col=d.col)):codeAmong d (l++[rawInt p.line,rawInt p.col,c])=codeAmong d l:=by
 fun_induction TriplesOk l with
 | case1 =>
  simp only[nil_append,codeAmong,rawInt];rw[if_neg];intro z;rw[Bool.and_eq_true,beq_iff_eq,beq_iff_eq]at z;exact e ⟨by lia,by lia⟩
 | case2 a t b u x rest ih =>
  simp only[List.cons_append,codeAmong];rw[ih h]
 | case3=>exact h.elim
theorem kr{p:Pos}{c:Value}(l:List Value)(h:TriplesOk l):TriplesOk (l++[rawInt p.line,rawInt p.col,c]):=by
 fun_induction TriplesOk l with
 | case1=>simp[TriplesOk,rawInt]
 | case2 a t b u x rest ih=>exact ih h
 | case3=>exact h.elim
def Bm(mg:Str->Option Value)(base:Heap):Prop:=∃ bm ob,mg "__builtins__" = some (.ref bm)/\base.get? bm=some ob/\ob.cls=.type "module" /\ ob.dict=some builtinsNs/\ob.data=.plain
def yN(tabs:lx)(d:LamD)(clos:List (Str×Addr)):TE:=λσ H Q=>TabsOk tabs H/\∀ f c H1,SameT H H1->TabsOk tabs H1->H f=none->H1 f=some (.ext (gW f d clos c))->H1 c=some (.ext (fe c d.qual))->Q (.ref f) H1
theorem ky{b c:Type}:∀{l:List (b×c)},(l.map (·.1)).Nodup->∀ x∈l,∀ y∈l,x.1=y.1->x=y
 | [],_,x,hx,_,_,_=>by cases hx
 | a::r,nd,x,hx,y,hy,e=>by
  rw[map_cons,nodup_cons]at nd
  rcases mem_cons.mp hx with rfl | hx' <;> rcases mem_cons.mp hy with rfl | hy'
  .rfl
  .exact absurd (mem_map.mpr ⟨y,hy',e.symm⟩) nd.1
  .exact absurd (mem_map.mpr ⟨x,hx',e⟩) nd.1
  .exact ky nd.2 x hx' y hy' e
theorem oO:∀{l:List (Pos×Str)},(l.Pairwise λx y=>¬(x.1.line=y.1.line/\x.1.col=y.1.col))->∀ x∈l,∀ y∈l,(x.1.line=y.1.line/\x.1.col=y.1.col)->x=y
 | [],_,x,hx,_,_,_=>by cases hx
 | a::r,nd,x,hx,y,hy,e=>by
  rw[pairwise_cons]at nd
  rcases mem_cons.mp hx with rfl | hx' <;> rcases mem_cons.mp hy with rfl | hy'
  .rfl
  .exact absurd e (nd.1 y hy')
  .exact absurd ⟨e.1.symm,e.2.symm⟩ (nd.1 x hx')
  .exact oO nd.2 x hx' y hy' e
section
variable {X:Cx}{tabs:lx}{P c:Addr}{ls:List (Pos×Str)}{d:LamD}{clos:List (Str×Addr)}{pos:Pos}
theorem fh(L:X.env.code=.ref c)(hC:codeHdIn X.K c P=true)(hB:Bm X.mg X.base)(hq:X.env.qual ++ "<lambda>" = d.qual)(R:closureFor d.scope X.env=pure clos)(Y:defaultsOf d.params X.env=([],[]))
  (hm:(P,ls)∈tabs) (hl:(pos,d.qual)∈ls) (as:(tabs.map (·.1)).Nodup) (a9:ls.Pairwise λx y=>¬(x.1.line=y.1.line/\x.1.col=y.1.col)):PE X (.Lambda d.params d.body d.scope pos) (yN tabs d clos):=by
 intro bg s σ H Q I h;obtain⟨hT,hQ⟩:=h;refine PySem.W.kla_eval Y ?_;rw[hq];obtain⟨J,A,l,T⟩:=hT _ hm;have w:s.heap.Ns mainGlobals X.mg:=I.mod.glob.keeps I.bk;have C:CodeHd s.heap c P:=codeHd_of_K I.kIn hC;have m:s.heap.get? P=some (tabObj J):=I.hok P _ A
 have a':mainGlobals≠P:=λq=>by
  obtain⟨o,es,ep,e,N,_⟩:=w;rw[q,m]at e;cases e;cases N
 obtain⟨bm,ob,b1,b2,b3,b4,b5⟩:=hB;have K:=I.bk _ _ b2
 have a0:bm≠P:=λq=>by
  rw[q,m]at K;cases K;cases b3
 have bd:bm≠mainGlobals:=λq=>by
  obtain⟨o,es,ep,e,N,_⟩:=w;rw[q,e]at K;cases K;rw[N]at b5;cases b5
 have a7:bm≠builtinsNs:=λq=>by
  obtain⟨mb,⟨o,es,ep,e,N,_⟩,_⟩:=I.mod.blt;rw[q,e]at b2;cases b2;rw[N]at b5;cases b5
 have BA:s.heap.BuiltinsAt X.mg P:=⟨bm,ob,b1,a7,bd,a0,K,b3,b4,b5⟩
 rcases T _ hl with hn | ⟨i,hc,a2⟩
 .refine PySem.W.kla_makeFunction (mg:=X.mg) R I.ok.glob w L C m l hn a' BA λi ab h' tk hx r E S a3=>?_
  have ah:H i=none:=I.hok.fresh r;have j:H h'.objs.size=none:=I.hok.fresh (Nat.le_trans r (Nat.le_of_lt E));have M:i≠h'.objs.size:=Nat.ne_of_lt E;have an:P≠i:=ap A ah;have U:P≠h'.objs.size:=ap A j
  obtain⟨f,hf⟩:∃ f,f=h'.objs.size:=⟨_,rfl⟩
  obtain⟨ob',hob⟩:∃ o,o=kla_obj "<lambda>" d.qual d.params d.body d.scope clos ((X.mg "__name__").getD .none) i ab:=⟨_,rfl⟩
  have a4:(h'.push ob').get? f=some ob':=by rw[hf,hob];exact Heap.get?_push_size _ rfl
  have k:∀ b o,b≠P->s.heap.get? b=some o->(h'.push ob').get? b=some o:=λb o n e=>Heap.get?_push_of_some _ (hx b o n e)
  have D:(h'.push ob').get? P=some (tabObj (J ++ #[rawInt pos.line,rawInt pos.col,.ref i])):=Heap.get?_push_of_some _ a3
  have a1:fe i d.qual (h'.push ob'):=by
   obtain⟨B,oc,vs,t,e2,al,a5,hv⟩:=S;cases e2;exact⟨oc,vs,t,Heap.get?_push_of_some _ al,a5,hv⟩
  rw[<- hf]at j M U ⊢;rw[<- hob]
  obtain⟨H1,hH1⟩:∃ H1,H1=upd (upd (upd H P (.tbl (J ++ #[rawInt pos.line,rawInt pos.col,.ref i]))) i (.ext (fe i d.qual))) f (.ext (gW f d clos i)):=⟨_,rfl⟩
  have gf:H1 f=some (.ext (gW f d clos i)):=by rw[hH1];exact ad
  have gc:H1 i=some (.ext (fe i d.qual)):=by rw[hH1,ai M];exact ad
  have gP:H1 P=some (.tbl (J ++ #[rawInt pos.line,rawInt pos.col,.ref i])):=by rw[hH1,ai U,ai an];exact ad
  have go:∀ b,b≠P->b≠i->b≠f->H1 b=H b:=λb h1 h2 Z=>by rw[hH1,ai Z,ai h2,ai h1]
  have g:∀ b o,b≠P->H b=some o->H1 b=some o:=λb o n e=>by rw[go b n (ap e ah) (ap e j)];exact e
  have F:∀ b o,H b=some o->(∀ qs,o≠.tbl qs)->b≠P:=λb o e n z=>by rw[z,A]at e;cases e;exact n J rfl
  have un:Un X.fs [] H H1 s.heap (h'.push ob'):=by
   refine⟨λb o e n _ _=>k b o (λz=>by rw[z,A]at n;cases n) e,λb o e n _ _=>⟨o.slots,k b o (λz=>by rw[z,A]at n;cases n) e⟩,λb o e n _=>?_,λb o e _=>?_,λb xs e=>g b _ (F b _ e λ_ z=>nomatch z) e,λb o u e=>g b _ (F b _ e λ_ z=>nomatch z) e,λb qs e=>?_⟩
   .have hb:b<s.heap.objs.size:=Heap.lt_size e
    rw[go b (λz=>by rw[z,A]at n;cases n) (Nat.ne_of_lt (Nat.lt_of_lt_of_le hb r)) (by rw[hf];exact Nat.ne_of_lt (Nat.lt_of_lt_of_le hb (Nat.le_trans r (Nat.le_of_lt E))))];exact n
   .by_cases hb:b=P
    .rw[hb];exact⟨_,D⟩
    .exact⟨o,k b o hb e⟩
   .by_cases hb:b=P
    .rw[hb,A]at e
     cases e;rw[hb];exact⟨_,gP⟩
    .exact⟨#[],by rw[g b _ hb e];simp⟩
  have a8:HOk X.prog X.w H1 (h'.push ob'):=λa o e=>by
   by_cases h1:a=f
   .subst h1;rw[gf]at e;cases e;exact ph (by rw[a4,hob])
   by_cases h2:a=i
   .subst h2;rw[gc]at e;cases e;exact qT a1
   by_cases Z:a=P
   .subst Z;rw[gP]at e;cases e;exact D
   rw[go a Z h2 h1]at e;refine(I.hok a o e).stay (λb u hb q=>k b u ?_ q) (λb q=>g b _ (F b _ q λ_ z=>nomatch z) q) λb xs q=>g b _ (F b _ q λ_ z=>nomatch z) q
   rcases hb with rfl | hb
   .exact Z
   .exact F b _ hb λ_ z=>nomatch z
  refine⟨.ref f,H1,I.un (h':=h'.push ob') (t':=tk) un a8,rfl,hQ f i H1 (λb o e=>?_) (λq hq'=>?_) j gf gc⟩
  .by_cases hb:b=P
   .subst hb
    rw[A]at e;cases e;exact⟨λz=>(Bool.false_ne_true z).elim,_,gP⟩
   .exact⟨λ_=>g b o hb e,o,g b o hb e⟩
  .by_cases hqP:q.1=P
   .have a6:q=(P,ls):=ky as q hq' (P,ls) hm hqP
    subst a6;refine⟨_,gP,by rw[Array.toList_append];exact kr _ l,λG v=>?_⟩;rw[Array.toList_append]
    by_cases hp:pos.line=G.1.line/\pos.col=G.1.col
    .have:=oO a9 (pos,d.qual) hl G v hp
     subst this;exact .inr ⟨i,codeAmong_snoc _ l hn,gc⟩
    .have eo:=mQ (c:=.ref i) J.toList l hp
     rcases T G v with z | ⟨B,z1,W⟩
     .exact .inl (eo.trans z)
     .exact .inr ⟨B,eo.trans z1,g B _ (F B _ W λ_ z=>nomatch z) W⟩
   .obtain⟨qs,e1,e2,e3⟩:=hT q hq'
    exact⟨qs,g _ _ hqP e1,e2,λG v=>(e3 G v).imp id λ⟨B,z1,W⟩=>⟨B,z1,g B _ (F B _ W λ_ z=>nomatch z) W⟩⟩
 .refine PySem.W.kla_makeFunctionHit (mg:=X.mg) R I.ok.glob w L C m l hc BA λab h' tk hk O=>?_
  have j:H h'.objs.size=none:=I.hok.fresh O;have sm:Same H (upd H h'.objs.size (.ext (gW h'.objs.size d clos i))):=Same.new j;refine⟨.ref h'.objs.size,_,I.laid (a:=h'.objs.size) (o:=.ext (gW h'.objs.size d clos i)) (t':=tk) (λb u e=>Heap.get?_push_of_some _ (hk b u e)) O (ph (Heap.get?_push_size _ rfl)),rfl,hQ _ i _ sm.t (hT.same sm) j ad (sm _ _ a2)⟩
end
def untrs(H:Hp)(cs:List Addr):Hp:=λb=>if b∈cs then none else H b
theorem cQ{H:Hp}{a:List Addr}{b:Addr}(h:b∈a):untrs H a b=none:=by unfold untrs;rw[if_pos h]
theorem aW{H:Hp}{a:List Addr}{b:Addr}(h:b ∉ a):untrs H a b=H b:=by unfold untrs;rw[if_neg h]
theorem cC{H:Hp}{a:List Addr}{b:Addr}(h:H b=none):untrs H a b=none:=by unfold untrs;split <;> first | rfl | exact h
abbrev CellsAt(H:Hp):List (Str×Addr)->List V->Prop:=Paired λ(p:Str×Addr) (v:V)=>H p.2=some (.ext (dB p.2 v))
theorem CellsAt.mem{H:Hp}:∀{clos:List (Str×Addr)}{vals:List V},CellsAt H clos vals->∀ p∈clos,∃ v,H p.2=some (.ext (dB p.2 v))
 | _,_,.nil,p,h=>by cases h
 | _,_,.cons r t,p,h=>by
  rcases mem_cons.mp h with rfl | h
  .exact⟨_,r⟩
  .exact CellsAt.mem t p h
theorem CellsAt.get{H:Hp}:∀{clos:List (Str×Addr)}{vals:List V}{i:Nat}{v:V},CellsAt H clos vals->vals[i]? = some v->∃ p,clos[i]? = some p/\H p.2=some (.ext (dB p.2 v))
 | _,_,_,_,.nil,h=>by cases h
 | _,_,0,_,.cons r t,h=>by cases h;exact⟨_,rfl,r⟩
 | _,_,i+1,_,.cons r t,h=>CellsAt.get (i:=i) t h
theorem CellsAt.at{H:Hp}{a:List (Str×Addr)}{c:List V}(d:CellsAt H a c){b:Addr}(f:b∈a.map (·.2)):∃ v,H b=some (.ext (dB b v)):=by
 obtain⟨p,e,rfl⟩:=mem_map.mp f;exact d.mem p e
theorem bU{H:Hp}{a:List (Str×Addr)}{c:List V}{b:Addr}{o:HO}(d:CellsAt H a c)(h:H b=some o)(n:∀ v,o≠.ext (dB b v)):untrs H (a.map (·.2)) b=some o:=by
 rw[aW λz=>?_]
 .exact h
 .obtain⟨v,e⟩:=d.at z
  rw[h]at e;exact n v (Option.some.inj e)
theorem dm{a:Type}:∀{l:List (Str×a)}{x:Str}{u:a},(l.map (·.1)).Nodup->(x,u)∈l->l.lookup x=some u
 | [],_,_,_,h=>by cases h
 | (y,w)::r,x,u,nd,h=>by
  rw[map_cons,nodup_cons]at nd
  rcases mem_cons.mp h with e | h
  .cases e;simp[List.lookup]
  .have:x≠y:=λz=>nd.1 (mem_map.mpr ⟨(x,u),h,z⟩)
   rw[lookup_cons,beq_eq_false_iff_ne.mpr this];exact dm nd.2 h
theorem qy{a:Type}{l:List a}(h:l.Nodup):l.reverse.Nodup:=by
 unfold List.Nodup at h ⊢;rw[List.pairwise_reverse];exact h.imp λn z=>n z.symm
def gG(d:LamD)(L f c:Addr)(clos:List (Str×Addr)):Env:={ scope:=d.scope,locals:=L,globals:=mainGlobals,cells:=clos,qual:=d.qual ++ ".<locals>.",func:=some f,code:=.ref c,frame:=some L,builtins:=builtinsNs }
def cxL(P:Program)(w:World)(K:Frag)(mg:Str->Option Value)(base:Heap)(N:List Str)(d:LamD)(clos:List (Str×Addr))(f c:Addr)(A:Around)(outer:List Env)(s:Shared)(H:Hp):Cx where
 prog:=P
 w:=w
 K:=K
 mg:=mg
 base:=base
 A:=A.deeper (gG d s.heap.objs.size f c clos)
 N:=N
 s₀:=s
 H₀:=untrs H (clos.map (·.2))
 env:=gG d s.heap.objs.size f c clos
 outer:=outer
 stack:=gG d s.heap.objs.size f c clos::outer
 ex:=[]
 calm:=true
 fn:=λ_=>false
 pn:=[]
 xe:=λ_ _=>False
def lc(P:Program)(w:World)(K:Frag)(mg:Str->Option Value)(base:Heap)(k:Nat)(d:LamD)(fv ps:List Str)(sp:List (Str×Addr)->List V->Sp):Prop :=
 ∀(A:Around) (outer:List Env) (s:Shared) (H:Hp) (f c:Addr) (clos:List (Str×Addr)) (us:List Value) (vs vals:List V) (Q:VK) (E:XK),Room k A->Env0 P w K mg base A outer s H->H f=some (.ext (gW f d clos c))->H c=some (.ext (fe c d.qual)) ->
  clos.map (·.1)=fv->(clos.map (·.2)).Nodup->CellsAt H clos vals->Vals vs us->sp clos vals vs H Q E->codeAny (model P w) A (.call (.ref f) ⟨us,[]⟩) (CR CX0 outer P w H s Q E) s
def db(P:Program)(w:World)(K:Frag)(mg:Str->Option Value)(base:Heap)(k:Nat)(d:LamD)(fv ps:List Str)(sp:List V->Sp):Prop:=lc P w K mg base k d fv ps λ_=>sp
structure LamScope(d:LamD)(fv ps:List Str):Prop where
 kind:d.scope.kind=.function
 co:d.scope.isCoroutine=false
 gen:d.scope.isGenerator=false
 nocell:∀ x∈d.scope.names,x.2≠.cell
 par:∀ x ∈ ps,d.scope.names.lookup x = some .local
 free:∀ x∈d.scope.names,x.2=.free->x.1∈fv
 fr:∀ x∈fv,d.scope.names.lookup x=some .free
 nd:(ps++fv).Nodup
theorem cB{a b:Type}[BEq a][LawfulBEq a]:∀{l:List (a×b)}{x:a}{u:b},l.lookup x=some u->(x,u)∈l
 | [],_,_,h=>by cases h
 | (y,w)::r,x,u,h=>by
  rw[lookup_cons]at h;cases e:x == y with
  | true=>rw[e]at h;cases h;rw[eq_of_beq e];exact mem_cons_self ..
  | false=>rw[e]at h;exact mem_cons_of_mem _ (cB h)
theorem nL{P:Program}{w:World}{K:Frag}{mg:Str->Option Value}{n:Heap}{d:LamD}{G ps:List Str}{a:List (Str×Addr)}{f c:Addr}{A:Around}{j:List Env}{s:Shared}{H:Hp}{us:List Value}{vs g:List V}{E:Heap}{tk:Nat}
  (S:LamScope d G ps) (hd:A.handled=none) (B:Env0 P w K mg n A j s H) (hl:vs.length=ps.length) (r:Vals vs us) (C:a.map (·.1)=G) (X:(a.map (·.2)).Nodup) (M:CellsAt H a g)
  (ab:E.Ns s.heap.objs.size (λx=>(ps.zip us).reverse.lookup x)) (T:∀ b o,s.heap.get? b=some o->E.get? b=some o) :
  Inv (cxL P w K mg n (ps++G) d a f c A j s H) [] ((vs++g).map some) (untrs H (a.map (·.2))) { s with heap:=E,toks:=tk }:=by
 have N:(a.map (·.1)).Nodup:=by rw[C];exact(nodup_append.mp S.nd).2.1
 have ah:ps.Nodup:=(nodup_append.mp S.nd).1;have al:us.length=ps.length:=by rw[<- r.length];exact hl
 have O:∀ x k,a.lookup x=some k->k∈a.map (·.2):=λx k e=>mem_map.mpr ⟨(x,k),cB e,rfl⟩
 have l:∀ b v,H b=some (.ext (dB b v))->∃ u,RelV v u/\E.IsCell b (some u):=λb v e=>by
  obtain⟨⟨o,u,D,m,g3⟩,_⟩:=B.hok b _ e;exact⟨u,g3,o,T _ _ D,m⟩
 have J:∀ b:Addr,b ∉ (cxL P w K mg n (ps++G) d a f c A j s H).ex:=λb z=>absurd (show b∈([]:List Addr) from z) (by simp)
 have as:a.length=G.length:=by rw[<- C,length_map]
 have an:g.length=a.length:=(Paired.length M).symm
 refine⟨⟨B.mod,S.kind,rfl,rfl,Nat.le_refl _,λy z k E U=>?_,λy hy=>?_,λy k h=>(Bool.false_ne_true h).elim,λ_=>hd,Around.frames_deeper B.frames,.inr ⟨rfl,rfl⟩,λb z=>absurd z (J b),λb o e=>⟨(B.bs b o e).1,cC (B.bs b o e).2⟩,B.bsz,λb _ _=>J b,λb z=>absurd z (J b),B.funs,λb hb=>cC (B.frf b hb)⟩,
  rfl,B.bare,Un.kept T,⟨_,ab,λi y v D m g3=>?_⟩,λy k h=>?_,cC (B.hok.fresh (Nat.le_refl _)),λy k h=>cQ (O y k h),λp L=>absurd (show p∈([]:List (Addr×Obj)) from L) (by simp),λb u e=>?_,?_⟩
 .have E:a.lookup y=some k:=E
  have U:a.lookup z=some k:=U;have e1:=cB E;have e2:=cB U;have Z:((a.map λp=>(p.2,p.1)).map (·.1)).Nodup:=by rw[map_map];exact X
  have:=ky Z (k,y) (mem_map.mpr ⟨_,e1,rfl⟩) (k,z) (mem_map.mpr ⟨_,e2,rfl⟩) rfl;exact congrArg Prod.snd this
 .have hy:d.scope.names.lookup y=some .cell\/d.scope.names.lookup y=some .free:=hy
  rcases hy with hy | hy
  .exact absurd rfl (S.nocell _ (cB hy))
  .have:=S.free _ (cB hy) rfl
   rw[<- C]at this;obtain⟨p,L,e⟩:=mem_map.mp this;have e':p.1=y:=e;exact⟨p.2,dm N (by show(y,p.2)∈a;rw[<- e'];exact L)⟩
 .have D:(ps++G)[i]? = some y:=D
  by_cases hi:i<ps.length
  .rw[List.getElem?_append_left hi]at D
   rw[List.getElem?_map,List.getElem?_append_left (by lia)]at m
   have I:vs[i]? = some v:=by
    cases q:vs[i]? with
    | none=>rw[q]at m;cases m
    | some x=>rw[q]at m;cases m;rfl
   obtain⟨u,hu,R⟩:=r.get I;refine⟨u,R,.inl ⟨S.par y (List.mem_of_getElem? D),?_⟩⟩;have Q:(y,u)∈ps.zip us:=List.mem_of_getElem? (i:=i) (by rw[List.getElem?_zip_eq_some];exact⟨D,hu⟩);refine dm ?_ (List.mem_reverse.mpr Q);rw[List.map_reverse];refine qy ?_;have:(ps.zip us).map (·.1)=ps:=by rw[List.map_fst_zip];lia
   rw[this];exact ah
  .rw[List.getElem?_append_right (by lia)]at D
   rw[List.getElem?_map,List.getElem?_append_right (by lia)]at m
   have I:g[i - ps.length]? = some v:=by
    rw[hl]at m;cases q:g[i - ps.length]? with
    | none=>rw[q]at m;cases m
    | some x=>rw[q]at m;cases m;rfl
   obtain⟨p,L,e⟩:=M.get I;rw[<- C,List.getElem?_map,L]at D;cases D;obtain⟨u,R,Y⟩:=l _ _ e;have F:=List.mem_of_getElem? L;refine⟨u,R,.inr ⟨.inr (S.fr p.1 ?_),p.2,dm N F,Y⟩⟩;rw[<- C];exact mem_map.mpr ⟨p,F,rfl⟩
 .obtain⟨v,e⟩:=M.at (O y k h)
  obtain⟨u,_,Y⟩:=l _ _ e;exact⟨_,Y⟩
 .by_cases hb:b∈a.map (·.2)
  .rw[cQ hb]at e;cases e
  .rw[aW hb]at e
   refine(B.hok b u e).stay (λW u' _ q=>T W u' q) (λW q=>?_) λW xs q=>?_
   .exact bU M q λv z=>nomatch z
   .exact bU M q λv z=>nomatch z
 .show((vs++g).map some).length=(ps++G).length
  rw[length_map,length_append,length_append];lia
section
variable {P:Program}{w:World}{K:Frag}{mg:Str->Option Value}{base:Heap}
theorem uP{d:LamD}{M ps:List Str}{k:Nat}{sp:List (Str×Addr)->List V->Sp}(S:LamScope d M ps)
  (m:∀(pm ctv:Value) (clos:List (Str×Addr)) (c:Addr) (us:List Value),us.length=ps.length->bindArgs (kla_fn "<lambda>" d.qual d.params d.body d.scope clos pm (.ref c) ctv) ⟨us,[]⟩=pure (ps.zip us))
  (U:∀ clos vals vs H Q E,sp clos vals vs H Q E->vs.length=ps.length)
  (B:∀(A:Around) (outer:List Env) (s:Shared) (H:Hp) (f c:Addr) (clos:List (Str×Addr)) (vals vs:List V) (Q:VK) (E:XK),Room k (A.deeper (gG d s.heap.objs.size f c clos))->clos.map (·.1)=M->CellsAt H clos vals->sp clos vals vs H Q E ->
   ∃ t,PE (cxL P w K mg base (ps++M) d clos f c A outer s H) d.body t/\t ((vs++vals).map some) (untrs H (clos.map (·.2))) (λv H'=>∀ H3,Same H' H3->(∀ p∈clos,H3 p.2=H p.2)->Q v H3)) :
  lc P w K mg base (k+1) d M ps sp:=by
 intro A outer s H f c clos us vs vals Q E X j hf hc L T l r F;have hl:=U _ _ _ _ _ _ F;have Y:us.length=ps.length:=by rw[<- r.length];exact hl
 obtain⟨⟨pm,ctv,ef⟩,_,_⟩:=j.hok f _ hf;obtain⟨⟨oc,R,ct,ec,ed,ev⟩,_,_⟩:=j.hok c _ hc;have W:s.heap.NoLimit:=j.mod.nolimit.keeps λb o e=>(j.bs b o e).1
 obtain⟨t,ht,hq⟩:=B A outer s H f c clos vals vs Q E (X.deeper _) L l F;refine PySem.W.kla_callFunE (body:=d.body) X.depth ef rfl S.co S.gen rfl ⟨c,oc,R,ct,rfl,ec,ed,ev⟩ ?_;rw[m pm ctv clos c us Y];refine wpAny_pure (wpAny_newFunctionEnv S.nocell (λy hy=>S.par y.1 (of_mem_zip hy).1) (λh1 hns hsb=>?_) S.kind);have hk:∀ b o,s.heap.get? b=some o->h1.get? b=some o:=λb o e=>hsb.extBut b o (Nat.ne_of_lt (Heap.lt_size e)) (Heap.get?_push_of_some _ e)
 refine⟨W.fresh _ hsb,?_⟩;show codeAny _ _ (.expr d.body (gG d s.heap.objs.size f c clos)) _ _;have I:=nL (f:=f) (c:=c) (tk:=s.toks+(ps.zip us).length) S X.hd j hl r L T l hns hk;refine PySem.W.kla_codeExpr (wpAny_mono (ht [] _ _ _ _ I hq) (λu Z hs=>?_) λe Z z=>False.elim z);obtain⟨v,H',J,rv,q⟩:=hs
 obtain⟨cs,hcs⟩:∃ cs,cs=clos.map (·.2):=⟨_,rfl⟩
 have h:Un (frs outer) [] (untrs H (clos.map (·.2))) H' s.heap Z.heap:=J.base
 have x:∀ b,b∈clos.map (·.2)->∃ o v,s.heap.get? b=some o/\H b=some (.ext (dB b v)):=λb a=>by
  obtain⟨v,e⟩:=l.at a;obtain⟨⟨o,_,g,_⟩,_⟩:=j.hok b _ e;exact⟨o,v,g,e⟩
 have N:∀ b∈clos.map (·.2),H' b=none:=λb a=>by
  obtain⟨o,v,g,_⟩:=x b a;exact h.free b o g (cQ a) (by simp)
 let H3:Hp:=λb=>if b∈clos.map (·.2) then H b else H' b
 have g1:∀ b,b∈clos.map (·.2)->H3 b=H b:=λb a=>if_pos a
 have O:∀ b,b ∉ clos.map (·.2)->H3 b=H' b:=λb a=>if_neg a
 have C:Same H' H3:=λb o e=>by
  rw[O b λz=>by rw[N b z]at e;cases e];exact e
 have up:∀ b o,H b=some o->(∀ v,o≠.ext (dB b v))->b ∉ clos.map (·.2):=λb o e n z=>by
  obtain⟨v,i⟩:=l.at z;rw[e]at i;exact n v (Option.some.inj i)
 refine⟨v,H3,J.os,J.bare,⟨λb o e n a G=>h.keep b o e (cC n) a G,λb o e n a G=>h.slot b o e (cC n) a G,λb o e n G=>?_,h.there,λb xs e=>?_,λb o u e=>?_,λb ps' e=>?_⟩,λb o e=>?_,rv,q H3 C λp hp=>g1 p.2 (mem_map.mpr ⟨p,hp,rfl⟩)⟩
 .rw[O b λz=>by obtain⟨_,v,_,i⟩:=x b z;rw[n]at i;cases i]
  exact h.free b o e (cC n) G
 .exact C _ _ (h.tups b xs (bU l e λv z=>nomatch z))
 .exact C _ _ (h.frzs b o u (bU l e λv z=>nomatch z))
 .obtain⟨D,z⟩:=h.tbls b ps' (bU l e λv z=>nomatch z)
  exact⟨D,C _ _ z⟩
 .by_cases a:b∈clos.map (·.2)
  .rw[g1 b a]at e
   obtain⟨o',v',g,i⟩:=x b a;rw[e]at i;cases i;obtain⟨⟨o2,u2,k1,k2,k3⟩,_⟩:=j.hok b _ e;refine mE ⟨o2,u2,h.keep b o2 k1 (cQ a) (λz=>?_) (by simp),k2,k3⟩;rw[j.frf b z]at e;cases e
  .rw[O b a]at e
   refine(J.hok b o e).stay (λb' u' _ q=>q) (λb' q=>C _ _ q) λb' xs q=>C _ _ q
theorem fq{d:LamD}{e ps:List Str}{k:Nat}{sp:List V->Sp}(S:LamScope d e ps)
  (b:∀(pm ctv:Value) (clos:List (Str×Addr)) (c:Addr) (us:List Value),us.length=ps.length->bindArgs (kla_fn "<lambda>" d.qual d.params d.body d.scope clos pm (.ref c) ctv) ⟨us,[]⟩=pure (ps.zip us))
  (g:∀ vals vs H Q E,sp vals vs H Q E->vs.length=ps.length)
  (a:∀(A:Around) (outer:List Env) (s:Shared) (H:Hp) (f c:Addr) (clos:List (Str×Addr)) (vals vs:List V) (Q:VK) (E:XK),Room k (A.deeper (gG d s.heap.objs.size f c clos))->clos.map (·.1)=e->CellsAt H clos vals->sp vals vs H Q E ->
   ∃ t,PE (cxL P w K mg base (ps++e) d clos f c A outer s H) d.body t/\t ((vs++vals).map some) (untrs H (clos.map (·.2))) (λv H'=>∀ H3,Same H' H3->(∀ p∈clos,H3 p.2=H p.2)->Q v H3)) :
  db P w K mg base (k+1) d e ps sp:=uP (sp:=λ_=>sp) S b (λ_=>g) a
end
theorem PE.or{X:Cx}{e:Expr}{t t':TE}(h:PE X e t)(h':PE X e t'):PE X e (λσ H Q=>t σ H Q\/t' σ H Q):=λa s σ H Q I q=>q.elim (h a s σ H Q I) (h' a s σ H Q I)
def qS(d:LamD)(fv:List Str)(sp:List (Str×Addr)->List V->Sp):V->List V->Hp->VK->Prop:=λv vs H Q=>∃ f c clos vals,v=.ref f/\H f=some (.ext (gW f d clos c))/\H c=some (.ext (fe c d.qual))/\clos.map (·.1)=fv/\(clos.map (·.2)).Nodup/\CellsAt H clos vals/\sp clos vals vs H Q λ_ _ _=>False
def nH(d:LamD)(fv:List Str)(sp:List V->Sp):V->List V->Hp->VK->Prop:=qS d fv λ_=>sp
def wV(d:LamD)(fv:List Str)(sp:List V->Sp)(tf:TE)(t:TA):TE:=λσ H Q=>tf σ H λv H1=>(∃ f d' clos c,v=.ref f/\H1 f=some (.ext (gW f d' clos c)))/\t σ H1 λvs H2=>(∀ f d' clos c,v=.ref f->H1 f=some (.ext (gW f d' clos c))->H2 f=some (.ext (gW f d' clos c)))/\nH d fv sp v vs H2 Q
section
variable {X:Cx}{d:LamD}{fv ps:List Str}{k:Nat}{sp:List V->Sp}{x:Str}{p pos:Pos}{tf:TE}{t:TA}{e:Expr}{es:List Expr}
theorem oR{sp:List (Str×Addr)->List V->Sp}{a:List (Addr×Obj)}{j:St}{H:Hp}{s:Shared}{Q:VK}{us:List Value}{vs:List V}{v:V}{u:Value}(L:lc X.prog X.w X.K X.mg X.base k d fv ps sp)(w:Room k X.A)(I:Inv X a j H s)(q:RelV v u)(r:Vals vs us)(h:qS d fv sp v vs H Q) :
  wpAny (model X.prog X.w) X.A (call u us) (EP X a j Q) X.xe s:=by
 obtain⟨f,c,g,i,rfl,l,m,n,y,o,x⟩:=h;obtain rfl:u=Value.ref f:=q;refine wpAny_call (codeAny_mono (L X.A X.stack s H f c g us vs i Q _ w I.env0 l m n y o r x) λr A b=>?_);cases r with
 | error e=>exact False.elim b
 | ok fl =>
  cases fl with
  | ret u=>exact I.after b
  | next=>exact False.elim b
  | brk=>exact False.elim b
  | cont=>exact False.elim b
theorem kA{H:Hp}{s:Shared}{P:Program}{w:World}{f c:Addr}{d:LamD}{a:List (Str×Addr)}(b:HOk P w H s.heap)(g:H f=some (.ext (gW f d a c))):FnAt f s.heap:=by
 obtain⟨⟨i,h,e⟩,_,_⟩:=b f _ g;exact⟨_,_,_,_,e⟩
theorem i6(D:PE X (.Name x p) tf)(L:db X.prog X.w X.K X.mg X.base k d fv ps sp)(A:Room k X.A)(E:PA X (e::es) t)
  (C:starEach (e::es) X.env=(false,eval e X.env)::starEach es X.env:=by rfl) (b:(backTo pos (starEach es X.env)).any (·.1)=false:=by rfl):PE X (.Call (.Name x p) (e::es) [] pos) (wV d fv sp tf t):=by
 intro a s l H Q I h;refine wpAny_Call_Name_kw (thn (D a s l H _ I h) λu B ⟨v,w,i,o,⟨f,M,n,c,y,m⟩,q⟩=>?_);subst y;obtain rfl:u=Value.ref f:=o;refine PySem.W.callWith_F (kA i.hok m) (thn (E pos a B l w _ i q) λG K ⟨F,J,j,r,g⟩=>⟨kA j.hok (g.1 _ _ _ _ rfl m),?_⟩) C b;exact oR L A j (v:=.ref f) rfl r g.2
theorem m4{sp:List (Str×Addr)->List V->Sp}(n:PE X (.Name x p) tf)(L:lc X.prog X.w X.K X.mg X.base k d fv ps sp)(m:Room k X.A):PE X (.Call (.Name x p) [] [] pos) (λσ H Q=>tf σ H λv H1=>qS d fv sp v [] H1 Q):=by
 intro a s σ H Q I h;refine wpAny_Call_Name_kw (thn (n a s σ H _ I h) λu o ⟨v,H1,g,l,q⟩=>?_);obtain⟨f,c,b,e,i,j,_⟩:=id q;subst i;obtain rfl:u=Value.ref f:=l;exact PySem.W.callWith_F0 (kA g.hok j) (oR (us:=[]) L m g (v:=.ref f) rfl .nil q)
theorem eD(b:PE X (.Name x p) tf)(L:db X.prog X.w X.K X.mg X.base k d fv ps sp)(a:Room k X.A):PE X (.Call (.Name x p) [] [] pos) (λσ H Q=>tf σ H λv H1=>nH d fv sp v [] H1 Q):=m4 b L a
end
abbrev TR:=VK->(V->St->Hp->Prop)->St->Hp->Prop
def PR(X:Cx)(sts:List Stmt)(t:TR):Prop :=
 ∀(pins:List (Addr×Obj)) (s:Shared) (σ:St) (H:Hp) (R:VK) (Z:V->St->Hp->Prop),Inv X pins σ H s->t R Z σ H ->
  wpAny (model X.prog X.w) X.A (execs sts X.env) (λf s'=>∃ u,f=.ret u/\((∃ v σ' H',Inv X pins σ' H' s'/\RelV v u/\(R v H'\/Z v σ' H'))\/∃ v H',s'.os=X.s₀.os/\AllBare s'.gens/\Un X.fs X.ex X.H₀ H' X.s₀.heap s'.heap/\HOk X.prog X.w H' s'.heap/\RelV v u/\R v H')) X.xe s
section
variable {X:Cx}{e:Expr}{te:TE}{pos:Pos}{st:Stmt}{rest:List Stmt}{t:TS}{u:TR}
theorem nC(c:PE X e te):PR X [.Return (some e) pos] (λ_ Z σ H=>te σ H λv H'=>Z v σ H'):=by
 intro a s σ H R Z I h;refine wpAny_execs_cons (wpAny_Return_some (thn (c a s σ H _ I h) λv i ⟨x,b,f,g,d⟩=>?_));exact⟨v,rfl,.inl ⟨x,σ,b,f,g,.inr d⟩⟩
theorem dj(e:PS X st t)(j:PR X rest u):PR X (st::rest) (λR Z σ H=>t { nx:=u R Z,rt:=R } σ H):=by
 intro a s σ H R Z I h;refine wpAny_execs_cons (thn (e a s σ H { nx:=u R Z,rt:=R } I h) λf g q=>?_);cases f with
 | next =>
  obtain⟨b,d,c,q⟩:=q;exact j a g b d R Z c q
 | ret v =>
  obtain⟨i,b,d,c,r,q⟩:=q;exact⟨v,rfl,.inl ⟨i,b,d,c,r,.inl q⟩⟩
 | brk=>obtain⟨_,_,_,q⟩:=q;exact False.elim q
 | cont=>obtain⟨_,_,_,q⟩:=q;exact False.elim q
end
def kj(cells:List (Str×Addr))(N:List Str)(σ:St)(H3:Hp):Prop:=∀(i:Nat) (y:Str) (v:V) (c:Addr),N[i]? = some y->σ[i]? = some (some v)->cells.lookup y=some c->H3 c=some (.ext (dB c v))
theorem gU{y:Str}{c:Addr}:∀(names:List (Str×NameKind)) (n:Nat) (acc:List (Str×Addr)),(y,c)∈cellsFrom n names acc->(y,c)∈acc\/(y,NameKind.cell)∈names
 | [],n,acc,h=>.inl h
 | (x,k)::r,n,acc,h=>by
  unfold cellsFrom at h
  split at h
  .rename_i hk
   rcases gU r (n+1) ((x,n)::acc) h with z | z
   .rcases mem_cons.mp z with e | z
    .cases e
     rw[eq_of_beq hk];exact .inr (mem_cons_self ..)
    .exact .inl z
   .exact .inr (mem_cons_of_mem _ z)
  .rcases gU r n acc h with z | z
   .exact .inl z
   .exact .inr (mem_cons_of_mem _ z)
section
variable {P:Program}{w:World}{K:Frag}{mg:Str->Option Value}{base:Heap}
theorem uY{CX:CXT}{N:List Str}{C:Str}{scope:Scope}{f:Addr}{Z:Value}{A:Around}{a:List Env}{s I:Shared}{H B:Hp}{E:XK}{U:St}(hN:N.Nodup)(W:∀ p∈scope.names,p.2=.cell->scope.names.lookup p.1=some .cell)
  {M:List (Addr×Obj)}(J:Inv (eG CX P w K mg base N C scope f Z A a s H E) M U B I) :
  ∃ H3,Same B H3/\kj (cellsFrom (s.heap.objs.size+1) scope.names []) N U H3/\(∀ b,B b=none->H3 b≠none->∃ y,(cellsFrom (s.heap.objs.size+1) scope.names []).lookup y=some b)/\Un (frs a) [] H H3 s.heap I.heap/\HOk P w H3 I.heap:=by
 have g:∀ y c,(cellsFrom (s.heap.objs.size+1) scope.names []).lookup y=some c->scope.names.lookup y=some .cell:=λy c e=>by
  rcases gU _ _ _ (cB e) with z | z
  .cases z
  .exact W _ z rfl
 obtain⟨cells,hcells⟩:∃ l,l=cellsFrom (s.heap.objs.size+1) scope.names []:=⟨_,rfl⟩
 rw[<- hcells]at g ⊢;have d:(eG CX P w K mg base N C scope f Z A a s H E).env.cells=cells:=hcells.symm
 let G:Addr->V->Prop:=λb v=>∃(i:Nat) (y:Str),N[i]? = some y/\U[i]? = some (some v)/\cells.lookup y=some b
 have G1:∀ b v X,G b v->G b X->v=X:=by
  rintro b v X ⟨i,y,O,Q,x⟩ ⟨j,z,b1,Y,b3⟩;have:y=z:=J.ok.inj y z b (by rw[d];exact x) (by rw[d];exact b3);subst this;have:i=j:=jj hN O b1;subst this;rw[Q]at Y;cases Y;rfl
 have T:∀ b v,G b v->B b=none/\s.heap.objs.size<=b/\dB b v I.heap:=by
  rintro b v ⟨i,y,O,Q,x⟩;refine⟨J.freeC y b (by rw[d];exact x),J.ok.cab y b rfl (by rw[d];exact x),?_⟩;obtain⟨m,hn,hl⟩:=J.loc;obtain⟨u,r,l⟩:=hl i y v O Q (.inr (.inl (g y b x)))
  rcases l with⟨k,_⟩ | ⟨k,c,e,o,ho,hd⟩
  .exfalso
   have k:scope.names.lookup y = some .local:=k;rw[g y b x]at k;cases k
  .have e:cells.lookup y=some c:=by rw[<- d];exact e
   rw[x]at e;cases e;exact⟨o,u,ho,hd,r⟩
 classical
 let H3:Hp:=λb=>if h:∃ v,G b v then some (.ext (dB b (Classical.choose h))) else B b
 have g1:∀ b v,G b v->H3 b=some (.ext (dB b v)):=λb v h=>by
  have S:∃ v,G b v:=⟨v,h⟩
  show(if h:∃ v,G b v then some (.ext (dB b (Classical.choose h))) else B b)=_;rw[dif_pos S,G1 b _ v (Classical.choose_spec S) h]
 have R:∀ b,(¬∃ v,G b v)->H3 b=B b:=λb h=>dif_neg h
 have F:Same B H3:=λb o e=>by
  rw[R b λ⟨v,z⟩=>by rw[(T b v z).1]at e;cases e];exact e
 have D:Un (frs a) [] H B s.heap I.heap:=J.base;refine⟨H3,F,λi y v c O Q x=>g1 c v ⟨i,y,O,Q,x⟩,(λb n1 n2=>?_),⟨D.keep,D.slot,λb o e n S=>?_,D.there,λb xs e=>F _ _ (D.tups b xs e),λb o u e=>F _ _ (D.frzs b o u e),λb ps e=>?_⟩,λb o e=>?_⟩
 .by_cases h:∃ v,G b v
  .obtain⟨v,i,y,_,_,x⟩:=h
   exact⟨y,x⟩
  .rw[R b h]at n2
   exact absurd n1 n2
 .rw[R b λ⟨v,z⟩=>absurd (Nat.lt_of_lt_of_le (Heap.lt_size e) (T b v z).2.1) (Nat.lt_irrefl _)]
  exact D.free b o e n S
 .obtain⟨L,z⟩:=D.tbls b ps e
  exact⟨L,F _ _ z⟩
 .by_cases h:∃ v,G b v
  .obtain⟨v,h⟩:=h
   rw[g1 b v h]at e;cases e;exact mE (T b v h).2.2
  .rw[R b h]at e
   exact(J.hok b o e).stay (λb' u' _ q=>q) (λb' q=>F _ _ q) λb' xs q=>F _ _ q
theorem kZ{N:List Str}{c:Str}{scope:Scope}{f:Addr}{i:Value}{A:Around}{a:List Env}{s:Shared}{H:Hp}{E:XK}{k:Nat}{g:Addr}{fd:FuncData}{ps:List Str}{sp:Sp}{T:List Value}{B:List V}{x:Str}{p D rp:Pos}{e:Expr}{es:List Expr}{t:TA}
  (hN:N.Nodup) (ab:∀ p∈scope.names,p.2=.cell->scope.names.lookup p.1=some .cell)
  (F:FnOk P w K mg base CX0 k g fd ps sp) (hr:Room k (eG CX0 P w K mg base N c scope f i A a s H E).nox.A) (hg:Gl (eG CX0 P w K mg base N c scope f i A a s H E).nox x) (hm:mg x=some (.ref g)) (hk:keepIn K (.ref g)=true) (l:Binds K fd ps T) (hd:Vals B T)
  (ha:PA (eG CX0 P w K mg base N c scope f i A a s H E).nox (e::es) t) (al:(x == ("__debug__" : Str))=false:=by decide)
  (he:starEach (e::es) (eG CX0 P w K mg base N c scope f i A a s H E).nox.env=(false,eval e (eG CX0 P w K mg base N c scope f i A a s H E).nox.env)::starEach es (eG CX0 P w K mg base N c scope f i A a s H E).nox.env:=by rfl)
  (ah:(backTo D (starEach es (eG CX0 P w K mg base N c scope f i A a s H E).nox.env)).any (·.1)=false:=by rfl) :
  PR (eG CX0 P w K mg base N c scope f i A a s H E).nox [.Return (some (.Call (.Name x p) (e::es) [] D)) rp]
   (λR _ σ H'=>t σ H' λvs H1=>∀ H3,Same H1 H3->kj (cellsFrom (s.heap.objs.size+1) scope.names []) N σ H3->sp (vs++B) H3 R λ_ _ _=>False):=by
 intro C s1 σ H1 R Z I h;refine wpAny_execs_cons (wpAny_Return_some ?_);refine wpAny_Call_Name_kw (iI I hg hm ?_ al);refine callWith_K (h₀:=base) I.ok.mod.kin hk (thn (ha D C s1 σ H1 _ I h) λS X ⟨vs,H2,I2,r,q⟩=>⟨I2.kIn,?_⟩) he ah;have J:Inv (eG CX0 P w K mg base N c scope f i A a s H E) C σ H2 X:=I2.unwish;obtain⟨H3,sm,hc,M,m,a0⟩:=uY hN ab J;have r2:Vals (vs++B) (S++T):=r.append hd;have q':=q H3 sm hc;have hl:(S++T).length=ps.length:=by rw[<- r2.length];exact F.len _ _ _ _ q'
 have hL:∀ b∈frs (envOfC c scope s.heap.objs.size f i::a),b=s.heap.objs.size\/b∈frs a:=λb l=>by
  have:b∈s.heap.objs.size::frs a:=l;exact mem_cons.mp this
 have e0:Env0 P w K mg base (eG CX0 P w K mg base N c scope f i A a s H E).A (envOfC c scope s.heap.objs.size f i::a) X H3:=by
  have z:=J.env0;refine⟨z.frames,z.mod,λb o e=>⟨(z.bs b o e).1,m.free b o (J.ok.bs b o e).1 (J.ok.bs b o e).2 (by simp)⟩,z.bsz,z.funs,λb l=>?_,a0,z.bare⟩;cases q3:H3 b with
  | none=>rfl
  | some o =>
   obtain⟨y,hy⟩:=M b (z.frf b l) (by rw[q3];simp)
   rcases hL b l with rfl | hb'
   .exact absurd rfl (J.cne y _ hy)
   .obtain⟨_,W,as,_⟩:=J.ok.funs.mem hb'
    have:=J.ok.cab y b rfl hy;exact absurd (Nat.lt_of_lt_of_le (Heap.lt_size as) this) (Nat.lt_irrefl _)
 refine wpAny_call (codeAny_mono (F.run _ _ X H3 ⟨S,[]⟩ (S++T) (vs++B) R _ hr e0 (l X S J.kIn hl) r2 q') λrr s' Q=>?_);cases rr with
 | error e=>exact False.elim Q
 | ok fl =>
  cases fl with
  | ret u =>
   obtain⟨v,H4,os,U,d,O,rv,qq⟩:=Q
   have L:∀ b o,s.heap.get? b=some o->b ∉ frs a->b ∉ frs (envOfC c scope s.heap.objs.size f i::a):=λb o e n z=>by
    rcases hL b z with rfl | z
    .exact absurd (Heap.lt_size e) (Nat.lt_irrefl _)
    .exact n z
   have an:∀ b,b∈frs a->b∈frs (envOfC c scope s.heap.objs.size f i::a):=λb z=>by
    show b∈s.heap.objs.size::frs a;exact mem_cons_of_mem _ z
   refine⟨u,rfl,.inr ⟨v,H4,os.trans J.os,U,⟨λb o e n l j=>d.keep b o (m.keep b o e n l j) (m.free b o e n j) (L b o e l) j,λb o e n l j=>?_,λb o e n j=>?_,λb o e j=>?_,λb xs e=>d.tups b xs (m.tups b xs e),λb o u e=>d.frzs b o u (m.frzs b o u e),λb qs e=>?_⟩,O,rv,qq⟩⟩
   .obtain⟨sl,G⟩:=m.slot b o e n l j
    obtain⟨Y,e2⟩:=d.slot b _ G (m.free b o e n j) (an b l) j;exact⟨Y,e2⟩
   .obtain⟨W,G⟩:=m.there b o e j
    exact d.free b W G (m.free b o e n j) j
   .obtain⟨W,G⟩:=m.there b o e j
    exact d.there b W G j
   .obtain⟨m1,G⟩:=m.tbls b qs e
    obtain⟨m2,e2⟩:=d.tbls b _ G;exact⟨m1++m2,by rw[e2,Array.append_assoc]⟩
  | next=>exact False.elim Q
  | brk=>exact False.elim Q
  | cont=>exact False.elim Q
theorem Fun.okL{x a:Str}{st:Stmt}{f c:Addr}{m:FuncData}{N ps:List Str}{k:Nat}{sp:Sp}(F:Fun K x a st f m)(hc:m.code=.ref c)(S:FnScope N ps (ac st))(D:∀ p∈(ac st).names,p.2=.cell->(ac st).names.lookup p.1=some .cell)
  (i:∀ vs H Q E,sp vs H Q E->vs.length=ps.length)
  (g:∀(A:Around) (outer:List Env) (s:Shared) (H:Hp) (vs:List V) (Q:VK) (E:XK),Room k (A.deeper (envOfC a (ac st) s.heap.objs.size f (.ref c)))->sp vs H Q E ->
   ∃ t,PR (eG CX0 P w K mg base N a (ac st) f (.ref c) A outer s H E).nox (af st) t/\t Q (λv σ H'=>∀ H3,Same H' H3->kj (cellsFrom (s.heap.objs.size+1) (ac st).names []) N σ H3->Q v H3) (start N vs) H):FnOk P w K mg base CX0 (k+1) f m ps sp:=by
 obtain⟨oc,od,kV,W,pm,an,B,ct,ab,rfl,lk,C⟩:=F.ex;obtain rfl:B=.ref c:=hc;refine⟨i,λA outer s H T us vs Q E L j hb r h=>?_⟩;have hl:=i _ _ _ _ h;have O:K.In s.heap:=j.mod.kin.keeps λb o e=>(j.bs b o e).1
 have G:s.heap.NoLimit:=j.mod.nolimit.keeps λb o e=>(j.bs b o e).1
 have d:∀ y ∈ ps.zip us,(ac st).names.lookup y.1 = some .local\/((ac st).names.lookup y.1 = some .cell/\((cellsFrom (s.heap.objs.size + 1) (ac st).names []).lookup y.1).isSome = true):=λ⟨n,v⟩ hy=>by
  rcases S.par n (of_mem_zip hy).1 with q | q
  .exact .inl q
  .exact .inr ⟨q,cellsFrom_some _ _ _ (.inl q)⟩
 refine codeAny_call_function L.depth (O _ _ lk) rfl S.co S.gen rfl (codeRec_of O C) (hb _ _ _ _ ?_);refine wpAny_newFunctionEnv_cells S.kind d λah he R x=>?_
 subst he;refine⟨G.keeps x.toInCall.keep,codeAny_func ?_⟩;obtain⟨t,ht,hq⟩:=g A outer s H vs Q E (L.deeper _) h;have I:Inv (eG CX0 P w K mg base N a (ac st) f (.ref c) A outer s H E) [] (start N vs) H R:=j7 S L.hd j hl r x;refine wpAny_mono (ht [] R (start N vs) H Q _ (I.wish _) hq) (λfl X M=>?_) λe X M=>False.elim M
 obtain⟨u,rfl,⟨v,al,H',J,l,q⟩ | ⟨v,H',g1,Y,U,g4,l,q⟩⟩:=M
 .have J:=J.unwish
  rcases q with q | q
  .exact⟨v,H',J.os,J.bare,J.base,J.hok,l,q⟩
  .obtain⟨H3,h1,Z,_,h3,h4⟩:=uY S.nd D J
   exact⟨v,H3,J.os,J.bare,h3,h4,l,q H3 h1 Z⟩
 .exact⟨v,H',g1,Y,U,g4,l,q⟩
end
theorem qb{P:Program}{w:World}{K:Frag}{mg mb:Str->Option Value}{CX:CXT}{k:Nat}{fa a:Addr}{fd:FuncData}{x:Str}{sp:Sp}{f:Shared}{vs:List Value}{N:List Int}{y:List Addr}
  (KX:K.In f.heap) (S:f.heap.Ns mainGlobals mg) (g:f.heap.Ns builtinsNs mb) (ab:∀ x:Str,x ≠ "__name__" -> mb x=bootBuiltins x) (R:f.heap.NoLimit) (hg:f.gens = #[])
  (I:f.heap.get? a=some { cls:=.type "list",data:=.seq vs.toArray }) (hi:IntsAre vs N) (hl:N.length<=sizeLine) (hr:Room k callerA) (a3:Bm mg f.heap)
  (j:∀ P∈y,f.heap.get? P=some (tabObj #[])) (a2:∀ P∈y,∃ c,codeHdIn K c P=true) (a0:∀ P∈y,K.lookup P=none)
  (F:∀ base:Heap,K.In base->base.Ns mainGlobals mg->Bm mg base->FnOk P w K mg base CX k fa fd [x] sp) (G:∀(s:Shared) (u:Value),BindsTo s fd ⟨[u],[]⟩ [(x,u)])
  (ah:∀ H:Hp,(∀ P∈y,H P=some (.tbl #[]))->SqL K H a (N.map V.int)->sp [.ref a] H (λv _=>v=.bl true) λ_ _ _=>False)
  (al:∀ H e s',CX [] H f (λ_ _ _=>False) e s'->False) :
  codeAny (model P w) callerA (.call (.ref fa) ⟨[.ref a],[]⟩) (λr s'=>r=.ok (.ret (.bool true))/\OldK f.heap s'.heap/\s'.os=f.os/\AllBare s'.gens) f:=by
 have rv:=jU hi;have O:=hi.length;have M:a ∉ y:=λz=>by have:=j a z;rw[I]at this;cases this
 have D:∀ H:Hp,(∀ P∈y,H P=some (.tbl #[]))->SqL K H a (N.map V.int)->HOk P w H f.heap->(∀ b u,H b=some u->(b=a/\∃ o xs,u=.frz o (.lst xs))\/(b∈y/\u=.tbl #[]))->(H a≠none->K.lookup a=none) ->
   codeAny (model P w) callerA (.call (.ref fa) ⟨[.ref a],[]⟩) (λr s'=>r=.ok (.ret (.bool true))/\OldK f.heap s'.heap/\s'.os=f.os/\AllBare s'.gens) f:=by
  intro H hT hS U Z hK;have l:∀{b:Addr}{o:Obj},f.heap.get? b=some o->H b=none->(jz f.heap H).get? b=some o:=λe n=>sw e n
  have an:∀{b:Addr}{o:Obj},f.heap.get? b=some o->o.cls≠.none->(∀ L n,o.data≠.seq L n)->H b=none:=λ{b o} e d1 d2=>by
   cases q:H b with
   | none=>rfl
   | some u =>
    rcases Z b u q with⟨rfl,_⟩ | ⟨g,_⟩
    .rw[I]at e;cases e;exact(d2 _ _ rfl).elim
    .rw[j b g]at e;cases e;exact(d1 rfl).elim
  have a1:∀{b:Addr}{o:Obj}{X:Array DictEntry}{J:Nat},f.heap.get? b=some o->o.data=.dict X J->H b=none:=λ{b o X J} e d=>by
   cases q:H b with
   | none=>rfl
   | some u =>
    rcases Z b u q with⟨rfl,_⟩ | ⟨g,_⟩
    .rw[I]at e;cases e
     have d':Data.seq vs.toArray _=Data.dict X J:=d;cases d'
    .rw[j b g]at e;cases e;cases d
  have A:∀{b:Addr}{m:Str->Option Value},f.heap.Ns b m->(jz f.heap H).Ns b m:=λ{b m} ⟨o,X,J,e,d,r⟩=>⟨o,X,J,l e (a1 e d),d,r⟩
  have Q:K.In (jz f.heap H):=λb o e=>l (KX b o e) (by
   cases q:H b with
   | none=>rfl
   | some u =>
    rcases Z b u q with⟨rfl,_⟩ | ⟨g,_⟩
    .rw[hK (by rw[q];simp)]at e;cases e
    .rw[a0 b g]at e;cases e)
  have hM:Mod K mg (jz f.heap H):=⟨Q,A S,⟨mb,A g,ab⟩,let ⟨mc,h1,h2⟩:=R;⟨mc,A h1,h2⟩⟩
  have hB:Bm mg (jz f.heap H):=by
   obtain⟨bm,ob,b1,b2,b3,b4,b5⟩:=a3;exact⟨bm,ob,b1,l b2 (an b2 (by rw[b3];simp) (λL n=>by rw[b5];intro z;cases z)),b3,b4,b5⟩
  have e0:Env0 P w K mg (jz f.heap H) callerA [] f H:=⟨rfl,hM,λb o e=>uJ e,Nat.le_of_eq (pV _ _),trivial,λb g=>absurd (show b∈([]:List Addr) from g) (by simp),U,.of_eq hg⟩
  refine codeAny_mono ((F _ Q (A S) hB).run callerA [] f H ⟨[.ref a],[]⟩ [.ref a] [.ref a] _ _ hr e0 (G f (.ref a)) (.cons rfl .nil) (ah H hT hS)) λr s' h=>?_
  cases r with
  | error e=>exact(al H e s' h).elim
  | ok fl =>
   cases fl with
   | next=>exact False.elim h
   | brk=>exact False.elim h
   | cont=>exact False.elim h
   | ret u =>
    obtain⟨v,H',os,W,Y,E,r',q⟩:=h;have q':v=.bl true:=q;subst q';obtain rfl:u=Value.bool true:=r';refine⟨rfl,⟨λb o e=>?_,λb o e=>Y.there b o e (by simp)⟩,os,W⟩;cases q:H b with
    | none=>exact .inl (Y.keep b o e q (by intro z;exact absurd (show b∈([]:List Addr) from z) (by simp)) (by simp))
    | some u =>
     rcases Z b u q with⟨_,ob,xs,rfl⟩ | ⟨g,rfl⟩
     .have z2:=Y.frzs b ob _ q
      obtain⟨e1,_⟩:=U b _ q;obtain⟨e2,_⟩:=E b _ z2;rw[e]at e1;cases e1;exact .inl e2
     .obtain⟨c,hc⟩:=a2 b g
      have C:=codeHd_of_K KX hc;obtain⟨B,z⟩:=Y.tbls b _ q;have z2:s'.heap.get? b=some (tabObj (#[]++B)):=E b _ z;rw[j b g]at e;cases e;exact .inr (.inl ⟨(C.tab (j b g)).isCodeTable,rfl,#[],B,rfl,z2⟩)
 let T:Hp:=λb=>if b∈y then some (.tbl #[]) else none
 cases hk:K.lookup a with
 | some o =>
  have e:=KX a o hk;rw[I]at e;cases e;refine D T (λP hP=>if_pos hP) (.inr ⟨_,vs.toArray,_,hk,rfl,rfl,rfl,by rw[size_toArray,O];exact hl,by simpa using rv⟩) (λb u z=>?_) (λb u z=>?_) λz=>absurd (if_neg M) z
  .by_cases g:b∈y
   .have i:=(if_pos g).symm.trans z
    cases i;exact j b g
   .have i:=(if_neg g).symm.trans z
    cases i
  .by_cases g:b∈y
   .have i:=(if_pos g).symm.trans z
    cases i;exact .inr ⟨g,rfl⟩
   .have i:=(if_neg g).symm.trans z
    cases i
 | none =>
  refine D (λb=>if b=a then some (.frz { cls:=.type "list",data:=.seq vs.toArray } (.lst (N.map V.int))) else T b) (λP hP=>?_) (.inl (.inr ⟨{ cls:=.type "list",data:=.seq vs.toArray },if_pos rfl⟩)) (λb u z=>?_) (λb u z=>?_) λ_=>hk
  .have as:P≠a:=λz=>M (by rw[<- z];exact hP)
   exact(if_neg as).trans (if_pos hP)
  .by_cases g:b=a
   .have i:=(if_pos g).symm.trans z
    cases i;subst g;exact⟨I,by rw[length_map];exact hl,vs,_,rv,I⟩
   .have i:=(if_neg g).symm.trans z
    by_cases g:b∈y
    .have i:=(if_pos g).symm.trans i
     cases i;exact j b g
    .have i:=(if_neg g).symm.trans i
     cases i
  .by_cases g:b=a
   .have i:=(if_pos g).symm.trans z
    cases i;exact .inl ⟨g,_,_,rfl⟩
   .have i:=(if_neg g).symm.trans z
    by_cases g:b∈y
    .have i:=(if_pos g).symm.trans i
     cases i;exact .inr ⟨g,rfl⟩
    .have i:=(if_neg g).symm.trans i
     cases i
theorem walk_ofT{l:PySem.W.OpenLaw}{n k:Nat}{q:Program}{j:List Str}{XP:(Str->Option Value)->Heap->Prop}{L:World->Heap->Prop}{d:DefRec}{K:Params->Frag}{CX:CXT}{sp:Frag->List Addr->Sp}{x:Str}{b:List Addr}
  (hn:l.most=some n) (y:n<=sizeLine) (B:d.params.defaults=[]) (Z:Room k callerA)
  (W:∀(w:World) (h:Heap),L w h->(K w.params).In h/\∀ P∈b,h.get? P=some (tabObj #[]))
  (F:∀(ts':List Addr),ts'=b->∀(w:World) (mg:Str->Option Value) (fa:Addr) (h:Heap),(K w.params).In h->h.Ns mainGlobals mg->mg d.name=some (.ref fa) ->
   ∃ fd:FuncData,(∀(s:Shared) (u:Value),BindsTo s fd ⟨[u],[]⟩ [(x,u)])/\(∀ P∈b,∃ c,codeHdIn (K w.params) c P=true)/\(∀ P∈b,(K w.params).lookup P=none) /\
    ∀ base:Heap,(K w.params).In base->base.Ns mainGlobals mg->Bm mg base->FnOk l.prog w (K w.params) mg base CX k fa fd [x] (sp (K w.params) b))
  (C:∀(K:Frag) (H:Hp) (a:Addr) (ns:List Int),ns.length<=n->(∀ P∈b,H P=some (.tbl #[]))->SqL K H a (ns.map V.int)->sp K b [.ref a] H (λv _=>v=.bl true) λ_ _ _=>False)
  (D:∀(H:Hp) (s:Shared) (e:Value) (s':Shared),CX [] H s (λ_ _ _=>False) e s'->False) :
  PySem.W.WalkO q j XP L l.row.toRowW d [] (λf vs=>PySem.call f vs):=by
 refine Att.attach_call hn B λw N i mg mb fa o pm cd O a vs ns G Y ho hd T A r m g R=>?_
 obtain⟨M,S⟩:=W w _ Y;obtain⟨fd,X,J,I,Q⟩:=F b rfl w mg fa _ M G.T.g A;have E:Bm mg i.heap:=let ⟨bm,ob,b1,_,b3,b4,b5,b6⟩:=G.T.bmain;⟨bm,ob,b1,b3,b4,b5,b6⟩;exact qb M G.T.g G.T.b G.T.builtins G.T.nolimit R r m (Nat.le_trans g y) Z E S J I Q X (λH U hS=>C (K w.params) H a ns g U hS) λH e s'=>D H i e s'
end L2
namespace FrM
def dC(t b:Int):Int×Int:=(t/(Int.gcd t b:Int),b/(Int.gcd t b:Int))
theorem sA{t b:Int}(a:0<b):Low t b (dC t b).1 (dC t b).2:=(low t b a).2.2.1
def sz(z:List Int)(k:Nat):Int:=z.getD k 0
def bD(z:List Int)(l:List Nat):Int:=(l.map (sz z)).sum
def stay(z:List Int)(l:List Nat)(w:Int):List Nat:=l.filter λk=>decide (sz z k*w<bD z l)
theorem iC(z:List Int)(l:List Nat)(w:Int):(stay z l w).length<=l.length:=length_filter_le _ _
def fin(z:List Int)(l:List Nat)(w:Int):List Nat×Int :=
 if (stay z l w).length=l.length then (l,w) else fin z (stay z l w) (w - ((l.length:Int) - ((stay z l w).length:Int)))
termination_by l.length
decreasing_by
 have:=iC z l w;lia
theorem i4{z:List Int}{l:List Nat}{w:Int}(h:(stay z l w).length=l.length):fin z l w=(l,w):=by
 rw[fin,if_pos h]
theorem nR{z:List Int}{l:List Nat}{w:Int}(h:(stay z l w).length≠l.length):fin z l w=fin z (stay z l w) (w - ((l.length:Int) - ((stay z l w).length:Int))):=by
 rw[fin,if_neg h]
theorem gr(z:List Int):∀(l:List Nat),(∀ k∈l,1<=sz z k)->(l.length:Int)<=bD z l
 | [],_=>by simp[bD]
 | a::l,h=>by
  have:=gr z l (λk b=>h k (mem_cons_of_mem _ b));have c:=h a mem_cons_self;unfold bD at *;rw[map_cons,sum_cons,length_cons];lia
theorem kG(z:List Int)(M:Int):∀(l:List Nat),(∀ k∈l,sz z k<=M)->bD z l<=(l.length:Int)*M
 | [],_=>by simp[bD]
 | a::l,h=>by
  have:=kG z M l (λk b=>h k (mem_cons_of_mem _ b));have c:=h a mem_cons_self;unfold bD at *;rw[map_cons,sum_cons,length_cons];have e:((l.length+1:Nat):Int)*M=(l.length:Int)*M+M:=by rw[Int.natCast_add,Int.add_mul];simp
  rw[e];lia
theorem gh(z:List Int)(w S:Int):∀(l:List Nat),(∀ k∈l,S<=sz z k*w)->(l.length:Int)*S<=bD z l*w
 | [],_=>by simp[bD]
 | a::l,h=>by
  have:=gh z w S l (λk b=>h k (mem_cons_of_mem _ b));have c:=h a mem_cons_self;unfold bD at *;rw[map_cons,sum_cons,length_cons,Int.add_mul];have e:((l.length+1:Nat):Int)*S=(l.length:Int)*S+S:=by rw[Int.natCast_add,Int.add_mul];simp
  rw[e];lia
theorem mD{z:List Int}{l:List Nat}{w:Int}(f:∀ k∈l,1<=sz z k)(i:w<l.length)(g:0<l.length):0<(stay z l w).length:=by
 by_cases h:0<(stay z l w).length
 .exact h
 .exfalso
  have e:stay z l w=[]:=List.length_eq_zero_iff.mp (by lia)
  have a:∀ k∈l,bD z l<=sz z k*w:=λk c=>by
   have:=(List.filter_eq_nil_iff.mp e) k c;simp at this;exact this
  have b:=gh z w (bD z l) l a;have j:=gr z l f;have d:0<bD z l:=by lia
  rw[Int.mul_comm (bD z l) w]at b;have:=Int.le_of_mul_le_mul_right b d;lia
structure Rnd(z:List Int)(n:Nat)(m:Int)(l:List Nat)(w:Int):Prop where
 pos:0<l.length
 sub:∀ k∈l,k<n
 lt:w<l.length
 dif:w - l.length=m - n
 fil:l=(List.range n).filter λk=>decide (k∈l)
theorem Rnd.len{z:List Int}{n:Nat}{m:Int}{l:List Nat}{w:Int}(h:Rnd z n m l w):l.length<=n:=by
 have e:=congrArg List.length h.fil;have:=length_filter_le (λk=>decide (k∈l)) (List.range n);rw[length_range]at this;lia
theorem Rnd.start{z:List Int}{n:Nat}{m:Int}(b:0<n)(c:m<n):Rnd z n m (List.range n) m:=by
 refine⟨by rw[length_range];exact b,λk a=>mem_range.mp a,by rw[length_range];exact c,by rw[length_range],?_⟩;rw[List.filter_eq_self.mpr];intro k a;exact decide_eq_true a
theorem Rnd.step{z:List Int}{n:Nat}{m:Int}{l:List Nat}{w:Int}(b:∀ k,k<n->1<=sz z k)(h:Rnd z n m l w):Rnd z n m (stay z l w) (w - ((l.length:Int) - ((stay z l w).length:Int))):=by
 have c:=mD (λk a=>b k (h.sub k a)) h.lt h.pos;refine⟨c,λk a=>h.sub k (mem_filter.mp a).1,by have:=h.lt;lia,by have:=h.dif;lia,?_⟩
 have e:(List.range n).filter (λk=>decide (k∈stay z l w))=((List.range n).filter λk=>decide (k∈l)).filter λk=>decide (sz z k*w<bD z l):=by
  rw[List.filter_filter];refine List.filter_congr λk _=>?_
  rw[Bool.eq_iff_iff];simp[stay];exact And.comm
 rw[e,<- h.fil];rfl
theorem Rnd.fin{z:List Int}{n:Nat}{m:Int}(a:∀ k,k<n->1<=sz z k):∀(c:Nat) (l:List Nat) (w:Int),l.length<=c->Rnd z n m l w->Rnd z n m (fin z l w).1 (fin z l w).2
 | 0,l,w,hc,h=>absurd h.pos (by lia)
 | c+1,l,w,hc,h=>by
  by_cases e:(stay z l w).length=l.length
  .rw[i4 e];exact h
  .rw[nR e]
   have:=iC z l w;exact Rnd.fin a c _ _ (by lia) (h.step a)
theorem wK{N S t b:Int}(g:0<S)(h:Low N S t b):b<=S/\t.natAbs<=N.natAbs:=by
 have j:=h.pos;have d:b ∣ S:=tP h.cop ⟨N,by rw[h.eq,Int.mul_comm]⟩;have a:=Int.le_of_dvd g d;refine⟨a,?_⟩;have e:=congrArg Int.natAbs h.eq;rw[Int.natAbs_mul,Int.natAbs_mul]at e;have f:b.natAbs<=S.natAbs:=by lia
 have i:0<S.natAbs:=by lia
 have c:N.natAbs*b.natAbs<=N.natAbs*S.natAbs:=Nat.mul_le_mul_left _ f;rw[<- e]at c;exact Nat.le_of_mul_le_mul_right c i
def due(z:List Int)(m:Int):List (Int×Int) :=
 if (z.length:Int)<=m then z.map λ_=>(1,1) else if m=0 then z.map λ_=>(0,1)
 else (List.range z.length).map λk=>if decide (k∈(fin z (List.range z.length) m).1)=true then dC (sz z k*(fin z (List.range z.length) m).2) (bD z (fin z (List.range z.length) m).1) else (1,1)
theorem dg(z:List Int)(m:Int):(due z m).length=z.length:=by
 unfold due
 split
 .simp
 .split <;> simp
end FrM
namespace L2
open PySem PySem.Spec PyProof.Rows
def lg:List V->List Value->Bool
 | [],[]=>true
 | .int i::xs,.int j _::us=>decide (i=j) && lg xs us
 | _,_=>false
theorem hZ:∀{xs:List V}{us:List Value},lg xs us=true->Vals xs us
 | [],[],_=>.nil
 | .int i::xs,.int j t::us,h=>by
  have h:(decide (i=j) && lg xs us)=true:=h;rw[Bool.and_eq_true]at h;have e:=of_decide_eq_true h.1;exact .cons ⟨t,by rw[e]⟩ (hZ h.2)
def iN(K:Frag)(a:Addr)(xs:List V):Bool :=
 match K.lookup a with
 | some o =>
  (match o.cls with
  | .type t=>t == "tuple"
  | _=>false) &&
  (match o.data with
  | .seq its _=>decide (its.size<=1000) && lg xs its.toList
  | _=>false)
 | none=>false
theorem kC{K:Frag}{H:Hp}{a:Addr}{xs:List V}(h:iN K a xs=true):SqT K H a xs:=by
 unfold iN at h
 split at h
 .rename_i o e
  rw[Bool.and_eq_true]at h;obtain⟨c,b⟩:=h
  split at c
  .rename_i t ec
   split at b
   .rename_i its n ed
    rw[Bool.and_eq_true]at b;refine .inr ⟨o,its,n,e,by rw[ec,beq_iff_eq.mp c],ed,?_,hZ b.2⟩;have:=of_decide_eq_true b.1;have:sizeLine=16777216:=sizeLine_eq;lia
   .cases b
  .cases c
 .cases h
def TyS(K:Frag)(H:Hp)(x:V)(t:Value):Prop:=TyOf K H x t\/∃ a xs,x=.ref a/\t=.type "tuple" /\ SqT K H a xs
section
variable {X:Cx}
open PySem.W in
theorem uf{b:List (Addr×Obj)}{h:St}{H:Hp}{s:Shared}{x:V}{u t:Value}(I:Inv X b h H s)(d:RelV x u)(ty:TyS X.K H x t) :
  ∃ Hh:Heap->Prop,KitX X.K u t Hh/\Hh s.heap/\u≠.builtin "__main__.__loader__#opaque" := by
 rcases ty with ty | ⟨a,i,rfl,rfl,f⟩
 .exact qO I d ty
 .cases(show u=Value.ref a from d)
  obtain⟨g,j,p,k⟩:=I.tuple f;exact⟨_,kitx_tuple,let ⟨o,e,c,_⟩:=p;⟨o,e,c⟩,λz=>nomatch z⟩
def za(K:Frag):List V->Hp->VK->Prop:=λxs H Q=>∃ x c t b,xs=[x,c]/\rF c=true/\TyS K H x t/\kitOne K t (wd c)=some b/\Q (.bl b) H
theorem lW:CallR X (.builtin "isinstance") (za X.K):=by
 intro a s n H m l Q I r h;obtain⟨x,c,t,b,rfl,f,k,e,q⟩:=h;obtain⟨u,o,rfl,i,j⟩:=mt r;cases pw f j;obtain⟨v,Z,p,g⟩:=uf I i k
 exact kia_one Z I.kIn p e g λd=>⟨.bl b,H,I.tok d,rfl,q⟩
theorem qU:bootBuiltins "sum" = some (.builtin "sum"):=by decide +kernel
theorem dO:∀{ns:List Int}{us:List Value},Vals (ns.map V.int) us->IntsAre us ns
 | [],_,.nil=>.nil
 | n::ns,_,.cons r t=>by
  obtain⟨a,rfl⟩:=r;exact .cons _ _ (dO t)
inductive rSumI(K:Frag)(xs:List V)(H:Hp)(Q:VK):Prop
 | mk(p:Addr)(ns:List Int)(h0:xs=[.ref p])(h1:SqL K H p (ns.map V.int))(h2:Q (.int ns.sum) H):rSumI K xs H Q
theorem jZ(m:X.calm=true):CallR X (.builtin "sum") (rSumI X.K):=by
 intro d s v H xs o Q I r h;obtain⟨p,b,rfl,j,q⟩:=h;obtain⟨u,rfl,k⟩:=di r;cases k;obtain⟨a,f,n,A⟩:=I.list j;have e:=dO f;obtain⟨xs,c⟩:=e.allInts.items;have i:(numsOf a)=b:=e.numsOf;refine sum_intListG (I.ok.hd m) (xs:=xs) (by rw[<- c];exact n.isList) λy w x g=>?_
 have l:preSum (numAt xs) xs.size=b.sum:=by
  rw[preSum_eq,take_of_length_le (by simp),<- i,<- nums_intItems,<- c]
 rw[l];exact⟨.int b.sum,H,I.kept g,⟨_,rfl⟩,q⟩
theorem kU(E:X.calm=true):CallR X (.type "list") (λxs H Q=>∃(p:Addr) (n:Nat),xs=[.ref p]/\n<=1000/\H p=some (.rng 0 (n:Int))/\∀ l,H l=none->Q (.ref l) (upd H l (.lst ((List.range n).map λ(i:Nat)=>V.int (i:Int))))):=by
 intro f s G H xs F Q I r h;obtain⟨p,n,rfl,L,e,q⟩:=h;obtain⟨u,rfl,A⟩:=di r;cases A
 obtain⟨t,J,M,D⟩:=(show ObjOk X.prog X.w H s.heap p (.rng 0 (n:Int)) from I.hok p _ e)
 refine call_list_range (n:=n) (I.ok.hd E) D (small_one (by decide) (by decide) (by lia) (by lia)) (by rw[rangeSize_one];split <;> lia) (by lia) λK w d c j B k=>?_
 refine⟨.ref s.heap.objs.size,_,I.laid (t':=w) (o:=.lst ((List.range n).map λ(i:Nat)=>V.int (i:Int))) j (Nat.le_refl _) ?_,rfl,q _ (I.hok.fresh (Nat.le_refl _))⟩;obtain⟨g,v⟩:=k;refine⟨by rw[length_map,length_range,sizeLine_eq];lia,d.toList,c,ly (by rw[length_map,length_range];simpa using g.symm) λi x u a C=>?_,B⟩;rw[List.getElem?_map]at a
 have b:i<n:=by
  by_cases b:i<n
  .exact b
  .rw[List.getElem?_eq_none (by rw[length_range];lia)]at a
   cases a
 rw[List.getElem?_range b]at a;cases a;obtain⟨y,m⟩:=v i u (by simpa using C);refine(show ∃ t',u=Value.int (i:Int) t' from⟨y,?_⟩);rw[m]
 congr 1
 lia
end
def dE:Expr:=.Name "" ⟨0,0,0,0⟩
def mz(st:Stmt)(i:Nat):Stmt:=(af st).getD i (.Pass ⟨0,0,0,0⟩)
def lU:Stmt->Expr
 | .Return (some e) _=>e
 | _=>dE
def nh:Expr->Nat->Expr
 | .Call _ es _ _,i=>es.getD i dE
 | _,_=>dE
def tQ:Expr->Nat->Expr
 | .List es _,i=>es.getD i dE
 | _,_=>dE
def uz:Expr->Nat->Expr
 | .Tuple es _ _,i=>es.getD i dE
 | _,_=>dE
def ia(q:Str):Expr->LamD
 | .Lambda p b s _=>⟨q,p,b,s⟩
 | _=>⟨q,default,dE,default⟩
def lM:Expr->Pos
 | .Lambda _ _ _ p=>p
 | _=>⟨0,0,0,0⟩
theorem gS:bootBuiltins "sorted" = some (.builtin "sorted"):=by decide +kernel
theorem dL:∀{us:List Value}{ns:List Int},IntsAre us ns->Vals (ns.map V.int) us
 | _,_,.nil=>.nil
 | _,_,.cons n t h=>.cons ⟨_,rfl⟩ (dL h)
theorem gC{X:Cx}:CallR X (.builtin "sorted") (λxs H Q=>∃(p:Addr) (ns:List Int),xs=[.ref p]/\SqL X.K H p (ns.map V.int)/\ns.length<64/\∀ q (ns':List Int),ns'.Perm ns->ns'.Pairwise (·<=·)->H q=none->Q (.ref q) (upd H q (.lst (ns'.map V.int)))):=by
 intro i s C H xs B Q I r h;obtain⟨p,ns,rfl,l,D,q⟩:=h;obtain⟨u,rfl,m⟩:=di r;cases m;obtain⟨c,g,y,E⟩:=I.list l;have v:=dO g;have j:c.length=ns.length:=by have:=g.length;rw[length_map]at this;exact this.symm
 refine sorted_ints y.isList v (by lia) λd ns' n k A=>?_
 obtain⟨e,w⟩:=sortedAll_at s.heap c d;have x:H (s.heap.objs.size+1)=none:=I.hok.fresh (Nat.le_succ _);have f:sizeLine=16777216:=sizeLine_eq;refine⟨.ref (s.heap.objs.size+1),_,I.laid (a:=s.heap.objs.size+1) (o:=.lst (ns'.map V.int)) (t':=s.toks) (λb u z=>sortedAll_old z) (Nat.le_succ _) ⟨?_,d.toList,e,dL n,?_⟩,rfl,q _ ns' k A x⟩
 .rw[length_map,k.length_eq];lia
 .rw[w,Array.toArray_toList]
section
variable {X:Cx}{e:Expr}{es:List Expr}{pos:Pos}
theorem wu{K:Frag}(h:X.K=K)(a:X.A.units+64<cLine):OpR X (compareOp .Eq) (rEqD K false):=h ▸ oA a
end
section
variable {X:Cx}
inductive rCount(K:Frag)(x:V)(vs:List V)(H:Hp)(Q:VK):Prop
 | mk(l:Addr)(xs:List V)(ds:List PyData)(y:V)(d:PyData)(h0:x=.ref l)(h1:vs=[y])(h2:H l=some (.lst xs))(h3:DVs K H ds xs)(h4:DV K H d y)(h5:PyData.canLayAll0 ds=true)(h6:d.canLay0=true)(h7:d.depth<=60)
   (h8:Q (.int ((ds.countP λz=>PyData.eqv z d:Nat):Int)) H):rCount K x vs H Q
theorem rR(L:X.A.units+64<cLine):MtM X "list.count" (rCount X.K):=by
 intro f s J H x D v G Q I k j h;obtain⟨l,xs,b,y,d,rfl,rfl,m,c,C,g,B,K,q⟩:=h;cases k;obtain⟨u,rfl,w⟩:=j.one;obtain⟨z,a,n,r,M,e⟩:=I.lstM m;obtain⟨as,i⟩:=DVs.reads I c r;obtain⟨E,A⟩:=C.reads I w;refine call_meets F.slot_list_count ⟨_,e,rfl⟩ F.entry_list_count (F.args_list_count_2 _ _) (SeqAt.list_countAt l a.toArray n none #[] u (λy=>PyData.eqv (SeqAt.readOf s.heap y) d)) ⟨e,SeqAt.items_eqAt (xs:=b) (as:=as) (by simpa using i) A g B ?_,?_⟩
 .have:min (PyData.depthAll b) d.depth<=d.depth:=Nat.min_le_right _ _
  lia
 .have o:a.toArray.toList.countP (λy=>PyData.eqv (SeqAt.readOf s.heap y) d)=b.countP λz=>PyData.eqv z d:=by
   rw[<- SeqAt.readsAll_map b a as g i,countP_map];rfl
  rw[o];exact⟨.int _,H,I.tok _,⟨_,rfl⟩,q⟩
variable {o e:Expr}{es:List Expr}{to:TE}{t:TA}{apos cpos:Pos}
theorem pe_m.count(h:X.A.units+64<cLine)(f:PE X o to)(g:PA X (e::es) t)(b:attributeBase o "count" X.env (eval o X.env)=eval o X.env:=by rfl)
  (d:((backTo cpos (starEach (e::es) X.env)).all (λx=>!x.1) && (backToKw cpos (keywordEach [] X.env)).all (λx=>x.1.isSome) && decide ((e::es).length+([]:List Keyword).length+(if ([]:List Keyword).isEmpty then 0 else 1)<30))=true:=by rfl)
  (c:(apos.endLine == cpos.line)=true:=by rfl) (i:starEach (e::es) X.env=(false,eval e X.env)::starEach es X.env:=by rfl) (a:(backTo cpos (starEach es X.env)).any (·.1)=false:=by rfl) :
  PE X (.Call (.Attribute o "count" apos) (e::es) [] cpos) (tBM X.K "list" (rCount X.K) to t):=oJ F.plainAttrs_list F.slot_list_count F.type_list_count (rR h) f g b d c i a
def j0(xs:List V)(lo:Option Int)(c:Int):List V:=(sliceRange (sliceBounds lo none (some c) xs.length).1 (sliceBounds lo none (some c) xs.length).2.1 (sliceBounds lo none (some c) xs.length).2.2).filterMap (xs[·]?)
theorem Vals.picks{xs:List V}{us:List Value}(r:Vals xs us):∀(ps:List Nat),Vals (ps.filterMap (xs[·]?)) (ps.filterMap (us[·]?))
 | []=>.nil
 | p::ps=>by
  rw[filterMap_cons,filterMap_cons];cases h:xs[p]? with
  | none =>
   have b:xs.length<=p:=List.getElem?_eq_none_iff.mp h;rw[List.getElem?_eq_none (by rw[<- r.length];exact b)];exact Vals.picks r ps
  | some x =>
   obtain⟨u,c,a⟩:=r.get h;rw[c];exact .cons a (Vals.picks r ps)
theorem qx(xs:List V)(lo:Option Int){c:Int}(a:0<c):(j0 xs lo c).length<=xs.length:=by
 unfold j0;refine Nat.le_trans (List.length_filterMap_le _ _) ?_;refine sliceRange_length_le _ _ _ _ (λ_=>?_) (λh=>?_)
 .unfold sliceBounds
  simp only[Option.getD_some,a,if_true];cases lo with
  | none=>simp
  | some i =>
   simp only;refine⟨?_,Int.le_refl _⟩
   split <;> lia
 .have e:(sliceBounds lo none (some c) xs.length).2.2=c:=rfl
  rw[e]at h;exact absurd a h
theorem qo{lo:Option Expr}{C:Expr}{y:TE}{tl w:TO}{m P:Pos}(Y:PE X e y)(hl:PO X lo tl)(k:PO X (some C) w):PE X (.Subscript e (.Slice lo none (some C) P) m)
  (λσ H Q=>y σ H λx H1=>tl σ H1 λl H2=>w σ H2 λu H3=>∃(a:Addr) (xs:List V) (c:Int),x=.ref a/\SqL X.K H3 a xs/\u=some c/\0<c/\∀ p,H3 p=none->Q (.ref p) (upd H3 p (.lst (j0 xs l c)))):=by
 intro d s σ H Q I h;refine Subscript_ (thn (Y d s σ H _ I h) λv W ⟨x,H1,J,K,E⟩=>?_);refine wpAny_Slice (thn (hl d W σ H1 _ J E) λB S ⟨l,H2,N,pl,F⟩=>?_);rw[evalPart_none];refine wpAny_pure (thn (k d S σ H2 _ N F) λn f ⟨u,H3,L,R,a,xs,c,G,Z,O,T,q⟩=>?_);subst G;subst O;have j:Inv X d σ H3 { f with heap:=f.heap.push { cls:=.type "slice",data:=.fields #[B,.none,n] } }:=L.kept (t':=f.toks) λb U q=>Heap.get?_push_of_some _ q
 obtain rfl:v=Value.ref a:=K;obtain⟨g,r,A,hz⟩:=j.list Z;have i:=r.length
 have M:wpAny (model X.prog X.w) X.A (getItem (.ref a) (.ref f.heap.objs.size)) (EP X d σ Q) X.xe { f with heap:=f.heap.push { cls:=.type "slice",data:=.fields #[B,.none,n] } }:=by
  refine wpAny_getItem_list_slice A.isList (Heap.IsSliceOf.new ..) pl .none R (by intro z;cases z;lia) ?_ (by rw[size_toArray];lia)
  have D:slicePick g.toArray l none (some c)=((sliceRange (sliceBounds l none (some c) xs.length).1 (sliceBounds l none (some c) xs.length).2.1 (sliceBounds l none (some c) xs.length).2.2).filterMap (g[·]?)).toArray:=by
   unfold slicePick;rw[size_toArray,<- i];simp
  rw[D];refine⟨.ref _,_,j.laid (t':=f.toks) (o:=.lst (j0 xs l c)) (λb U q=>Heap.get?_push_of_some _ q) (Nat.le_refl _) ?_,rfl,q _ (j.hok.fresh (Nat.le_refl _))⟩;exact⟨Nat.le_trans (qx xs l T) hz,_,0,r.picks _,Heap.get?_push_size _ rfl⟩
 exact tail_any (ops:=[.ref a,.ref f.heap.objs.size]) A.isList.typeIs slot_list_getitem.lookup M (by with_unfolding_all rfl)
end
abbrev kY(h:Heap)(z TI TO:Addr)(f0:Value)(b:Bool):Prop :=
 h.get? z=some { cls:=.type "zip",dict:=none,data:=.fields #[f0,.bool b,.bool false,.ref TI,.ref TO],slots:=#[] }
section
variable {prog:Program}{w:World}{A:Around}{E:Value->Shared->Prop}{s:Shared}
theorem vL{a:Addr}{o:Obj}{Q:Option Obj->Shared->Prop}(h:s.heap.get? a=some o)(c:Q (some o) s):wpAny (model prog w) A (loadIfAlive a) Q E s:=by
 intro b p hb;unfold loadIfAlive;rw[Sem.wp_loadIfAlive,h];exact(wpAny_pure (M:=model prog w) (A:=A) (E:=E) c) b p hb
theorem fX{z h f T:Addr}{b:Bool}{o:Obj}{Q:Bool->Shared->Prop}(e:kY s.heap z h f (rawInt T) b)(i:s.heap.get? T=some o)
  (g:∀ h',kY h' z h f (rawInt T) true->Heap.SameBut z s.heap h'->Q false { s with heap:=h' }):wpAny (model prog w) A (Builtin.SmallTypes.ownedTupleIsFree (.ref z)) Q E s:=by
 unfold Builtin.SmallTypes.ownedTupleIsFree;refine wpAny_bind (wpAny_field e rfl (x:=rawInt T) rfl ?_);show wpAny _ _ (loadIfAlive (Int.toNat (T:Int)) >>= _) _ _ s;rw[Int.toNat_natCast];refine wpAny_bind (vL i ?_);show wpAny _ _ (if (false=true) then _ else _) _ _ s;rw[if_neg Bool.false_ne_true];refine wpAny_bind (wpAny_field e rfl (x:=.bool b) rfl ?_);cases b with
 | true =>
  rw[if_neg (by decide)];exact wpAny_pure (g _ e ⟨rfl,λ_ _=>rfl⟩)
 | false =>
  rw[if_pos (by decide)];exact wpAny_bind (wpAny_setField_rec e (by simp) λd a c=>wpAny_pure (g d a c))
theorem jA{z n r i j C u T:Addr}{b:Bool}{o:Obj}{G I:Nat}{xs ys:Array Value}{x y:Value}{Q:Value->Shared->Prop}(D:ZipApart z n r i j C u)
  (N:kY s.heap z n r (rawInt T) b) (P:s.heap.get? T=some o) (J:IsPair s.heap n (.ref i) (.ref j))
  (h1:s.heap.IsListIter i C G) (U:s.heap.IsListIter j u I) (K:s.heap.IsList C xs) (F:s.heap.IsList u ys) (hx:xs[G]? = some x) (hy:ys[I]? = some y)
  (hQ:∀ h',kY h' z n r (rawInt T) true->h'.IsListIter i C (G+1)->h'.IsListIter j u (I+1)->IsPair h' s.heap.objs.size x y->h'.objs.size=s.heap.objs.size+1 ->
   (∀ c o,c≠z->c≠i->c≠j->s.heap.get? c=some o->h'.get? c=some o)->(∃ o,h'.get? T=some o)->Q (.ref s.heap.objs.size) { s with heap:=h' }) :
  wpAny (model prog w) A (Builtin.«zip.__next__» ⟨[.ref z],[]⟩) (λfin s'=>∃ v,fin=.done (.ret v)/\Q v s') E s:=by
 show wpAny _ _ (field (.ref z) 2 >>= _) _ _ _;refine wpAny_bind (wpAny_field N rfl (x:=.bool false) rfl ?_);show wpAny _ _ (field (.ref z) 3 >>= _) _ _ _;refine wpAny_bind (wpAny_field N rfl (x:=.ref n) rfl ?_);refine wpAny_bind (wpAny_seqItems J rfl ?_);show wpAny _ _ (Builtin.SmallTypes.ownedTupleIsFree (.ref z) >>= _) _ _ _;refine wpAny_bind (fX N P λR m a=>?_);simp only[Bool.false_eq_true,if_false];refine wpAny_bind ?_;rw[<- Array.forIn_toList];simp only[forIn_cons,List.forIn_nil];have Z:=h1.extBut a.extBut D.i1z;have Y:=U.extBut a.extBut D.i2z;have X:=K.extBut a.extBut D.l1z;have W:=F.extBut a.extBut D.l2z;refine wpAny_bind (wpAny_bind (wpAny_holding ?_));show wpAny _ _ (Builtin.SmallTypes.nextOf (.ref i) >>= _) _ _ _;refine wpAny_bind (wpAny_nextOf_list_item Z X hx λS M d=>wpAny_pure (wpAny_pure ?_));refine wpAny_bind (wpAny_bind (wpAny_holding ?_));show wpAny _ _ (Builtin.SmallTypes.nextOf (.ref j) >>= _) _ _ _;refine wpAny_bind (wpAny_nextOf_list_item (Y.extBut d.extBut D.i12.symm) (W.extBut d.extBut D.l2i1) hy λf B g=>wpAny_pure (wpAny_pure (wpAny_pure ?_)));show wpAny _ _ (newTuple [x,y] >>= λv=>ret v) _ _ _;refine wpAny_bind (wpAny_newTuple (wpAny_pure ⟨_,rfl,?_⟩));have l:f.objs.size=s.heap.objs.size:=by rw[g.1,d.1,a.1]
 have O:∀ c o,c≠z->c≠i->c≠j->s.heap.get? c=some o->f.get? c=some o:=λc o M B c3 e=>g.extBut _ _ c3 (d.extBut _ _ B (a.extBut _ _ M e))
 have h:kY f z n r (rawInt T) true:=g.extBut _ _ D.i2z.symm (d.extBut _ _ D.i1z.symm m);have q:=M.extBut g.extBut D.i12;show Q (.ref f.objs.size) _;rw[l]
 have k:∃ o,f.get? T=some o:=by
  by_cases e1:T=z
  .rw[e1];exact⟨_,h⟩
  by_cases e2:T=i
  .obtain⟨o,L,_⟩:=q;rw[e2];exact⟨o,L⟩
  by_cases e3:T=j
  .obtain⟨o,L,_⟩:=B;rw[e3];exact⟨o,L⟩
  exact⟨_,O _ _ e1 e2 e3 P⟩
 obtain⟨oT,H⟩:=k;refine hQ _ (Heap.get?_push_of_some _ h) (q.at λo e=>Heap.get?_push_of_some _ e) (B.at λo e=>Heap.get?_push_of_some _ e) ?_ ?_ (λc o n1 n2 n3 e=>Heap.get?_push_of_some _ (O c o n1 n2 n3 e)) ⟨oT,Heap.get?_push_of_some _ H⟩
 .have:=Heap.get?_push_size f (o:={ cls:=.type "tuple",data:=.seq #[x,y] }) rfl
  rw[l]at this;exact this
 .rw[Heap.size_push,l]
theorem kg{z h n f u l B T:Addr}{b:Bool}{o:Obj}{q:Nat}{xs:Array Value}{Q:Fin->Shared->Prop}(F:A.handled=none)(D:ZipApart z h n f u l B)
  (m:kY s.heap z h n (rawInt T) b) (v:s.heap.get? T=some o) (i:IsPair s.heap h (.ref f) (.ref u))
  (G:s.heap.IsListIter f l q) (k:s.heap.IsList l xs) (J:xs[q]? = none)
  (y:∀ h' e,(∀ c o,c≠z->c≠f->s.heap.get? c=some o->h'.get? c=some o)->(∃ o,h'.get? e=some o/\o.cls=.type "StopIteration")->E (.ref e) { s with heap:=h' }) :
  wpAny (model prog w) A (Builtin.«zip.__next__» ⟨[.ref z],[]⟩) Q E s:=by
 show wpAny _ _ (field (.ref z) 2 >>= _) _ _ _;refine wpAny_bind (wpAny_field m rfl (x:=.bool false) rfl ?_);show wpAny _ _ (field (.ref z) 3 >>= _) _ _ _;refine wpAny_bind (wpAny_field m rfl (x:=.ref h) rfl ?_);refine wpAny_bind (wpAny_seqItems i rfl ?_);show wpAny _ _ (Builtin.SmallTypes.ownedTupleIsFree (.ref z) >>= _) _ _ _;refine wpAny_bind (fX m v λr j a=>?_);simp only[Bool.false_eq_true,if_false];refine wpAny_bind ?_;rw[<- Array.forIn_toList];simp only[forIn_cons,List.forIn_nil];refine wpAny_bind (wpAny_bind (wpAny_holding ?_));show wpAny _ _ (Builtin.SmallTypes.nextOf (.ref f) >>= _) _ _ _;refine wpAny_bind (wpAny_nextOf_list_end F (G.extBut a.extBut D.i1z) (k.extBut a.extBut D.l1z) J λg e d H=>?_);exact y g e (λc o I C x=>d _ _ C (a.extBut _ _ I x)) H
structure ZS(h:Heap)(z TI TO i1 i2 l1 l2:Addr)(xs ys:Array Value)(i:Nat):Prop where
 zo:(kY h z TI TO .none false)\/∃(T:Addr) (o:Obj) (b:Bool),kY h z TI TO (rawInt (T:Nat)) b/\h.get? T=some o
 ti:IsPair h TI (.ref i1) (.ref i2)
 to:∃ a b,IsPair h TO a b
 j1:h.IsListIter i1 l1 i
 j2:h.IsListIter i2 l2 i
 q1:h.IsList l1 xs
 q2:h.IsList l2 ys
theorem tL{z B g k l H v:Addr}{i:Nat}{xs ys:Array Value}{x y:Value}{Q:Option Value->Shared->Prop}(D:ZipApart z B g k l H v)(Z:ZS s.heap z B g k l H v xs ys i)(N:xs[i]? = some x)(M:ys[i]? = some y)
  (L:∀ h',ZS h' z B g k l H v xs ys (i+1)->IsPair h' s.heap.objs.size x y->(∀ c o,c≠z->c≠g->c≠k->c≠l->s.heap.get? c=some o->h'.get? c=some o)->Q (some (.ref s.heap.objs.size)) { s with heap:=h' }) :
  wpAny (model prog w) A (pyNext (.ref z)) Q E s:=by
 obtain⟨R,n,⟨a,b,J⟩,I,K,h,j⟩:=Z
 rcases R with q | ⟨T,o,X,q,P⟩
 .refine wpAny_pyNext_zip_item D q n J I K h j N M λh' u O r C m S d=>L h' ⟨.inr ⟨_,_,_,u,m⟩,d _ _ D.TIz D.TITO D.TIi1 D.TIi2 n,⟨_,_,O⟩,r,C,h.at λo e=>d _ o D.l1z D.l1TO D.l1i1 D.l1i2 e,j.at λo e=>d _ o D.l2z D.l2TO D.l2i1 D.l2i2 e⟩ m d
 .have f:s.TypeIs (.ref z) "zip" := ⟨_,q,rfl⟩
  unfold pyNext
  refine wpAny_bind (wpAny_attempt (wpAny_callSpecial?_slot (name:=Str.ofString "__next__") f F.slot_zip_next
   (wpAny_call_entry F.slot_zip_next f F.entry_zip_next
    (jA D q P n I K h j N M λh' u r C m S d U=>wpAny_pure (L h' ?_ m λc o c1 c2 c3 c4 e=>d c o c1 c3 c4 e)) (F.args_zip_next_1 _))))
  obtain⟨W,G⟩:=U;exact⟨.inr ⟨_,_,_,u,G⟩,d _ _ D.TIz D.TIi1 D.TIi2 n,⟨_,_,d _ _ D.TOz D.TOi1 D.TOi2 J⟩,r,C,h.at λo e=>d _ o D.l1z D.l1i1 D.l1i2 e,j.at λo e=>d _ o D.l2z D.l2i1 D.l2i2 e⟩
theorem wP{z q g h j x m:Addr}{i:Nat}{xs ys:Array Value}{Q:Option Value->Shared->Prop}(r:A.handled=none)(D:ZipApart z q g h j x m)(Z:ZS s.heap z q g h j x m xs ys i)(u:xs[i]? = none)
  (n:∀ h',(∀ c o,c≠z->c≠g->c≠h->c≠j->s.heap.get? c=some o->h'.get? c=some o)->Q none { s with heap:=h' }):wpAny (model prog w) A (pyNext (.ref z)) Q E s:=by
 obtain⟨I,v,⟨a,b,y⟩,k,G,l,B⟩:=Z
 rcases I with f | ⟨T,o,O,f,H⟩
 .exact wpAny_pyNext_zip_end r D f v y k G l B (.inl u) n
 .have d:s.TypeIs (.ref z) "zip" := ⟨_,f,rfl⟩
  unfold pyNext
  refine wpAny_bind (wpAny_attempt (wpAny_callSpecial?_slot (name:=Str.ofString "__next__") d F.slot_zip_next
   (wpAny_call_entry F.slot_zip_next d F.entry_zip_next (kg r D f H v k l u λh' e C L=>?_) (F.args_zip_next_1 _))))
  obtain⟨o,J,K⟩:=L;refine wpAny_bind (wpAny_isInstance (T := "StopIteration") (b:=true) ⟨o,J,K⟩ isSubtype_stop ?_);exact wpAny_pure (n _ λc o M _ N _ e=>C c o M N e)
theorem ZS.on{h h':Heap}{z g d l j f c:Addr}{xs ys:Array Value}{i:Nat}(Z:ZS h z g d l j f c xs ys i)(k:∀ b∈[z,g,d,l,j,f,c],∀ o,h.get? b=some o->h'.get? b=some o)(q:∀ b o,h.get? b=some o->∃ o',h'.get? b=some o'):ZS h' z g d l j f c xs ys i:=by
 obtain⟨u,x,⟨a,b,r⟩,n,y,v,w⟩:=Z;refine⟨u.imp (λh=>k z (by simp) _ h) (λ⟨T,o,b',hz,hT⟩=>?_),k g (by simp) _ x,⟨a,b,k d (by simp) _ r⟩,n.at λo e=>k l (by simp) o e,y.at λo e=>k j (by simp) o e,v.at λo e=>k f (by simp) o e,w.at λo e=>k c (by simp) o e⟩;obtain⟨o',m⟩:=q T o hT;exact⟨T,o',b',k z (by simp) _ hz,m⟩
end
theorem FpOk.on{X:Cx}{a:List (Addr×Obj)}{H c:Hp}{b:Addr}(h:FpOk X a H b)(e:c b=none):FpOk X a c b:=⟨e,h.2⟩
def Zp(H:Hp)(xs ys ps:List V):Prop:=∀(j:Nat) p x y,ps[j]? = some p->xs[j]? = some x->ys[j]? = some y->∃ q,p=.ref q/\H q=some (.tup [x,y])
theorem tp{X:Cx}{A:Around}{R:Result->Shared->Prop}{d:List (Addr×Obj)}{G:St}{z U l m r Y T S:Addr}{xs ys:List V}{us ws:List Value}{K:Value}{H0:Hp}(hh:A.in1.handled=none)(D:ZipApart z U l m r Y T)(hS:S ∉ [z,U,l,m,r,Y,T])(r1:Vals xs us)(r2:Vals ys ws)(hl:xs.length=ys.length)(hn:xs.length<=1000)(fS:H0 S=none) :
  ∀(k i:Nat) (s:Shared) (H:Hp) (ps:List V),xs.length - i=k->i<=xs.length->ZS s.heap z U l m r Y T us.toArray ws.toArray i->Inv X d G H s->(∀ b∈[z,l,m,r],FpOk X d H b)->Same H0 H->H S=some (.lst ps)->ps.length=i->Zp H xs ys ps ->
   (∀ s' H' ps',Inv X d G H' s'->Same H0 H'->H' S=some (.lst ps')->ps'.length=xs.length->Zp H' xs ys ps'->R (.ok (.ret K)) s') ->
   codeAny (model X.prog X.w) A (.builtin "list.extend.loop" ⟨[.ref S,.ref z,K],[]⟩) R s:=by
 have sl:sizeLine=16777216:=sizeLine_eq;have e1:=r1.length;have e2:=r2.length;intro k
 induction k with
 | zero =>
  intro i s H ps hk hi Z I M W g L hp hR;have a1:i=xs.length:=by lia
  subst a1;refine codeAny_builtin F.entry_extend_loop ?_;rw[Around.under_plainId F.plain_extend_loop _];show wpAny _ A.in1 (pyNext (.ref z) >>= _) _ _ s;refine wpAny_bind (wP hh D Z (by simp;lia) λP E=>?_);have J:Inv X d G H { s with heap:=P }:=I.turnedN (t':=s.toks) (ch:=[z,l,m,r]) (λc o f q=>E c o (λw=>f (by simp[w])) (λw=>f (by simp[w])) (λw=>f (by simp[w])) (λw=>f (by simp[w])) q) M;exact wpAny_pure (hR _ H ps J W g L hp)
 | succ k ih =>
  intro i s H ps hk hi Z I M W g L hp hR;have B:i<xs.length:=by lia
  obtain⟨ux,al,as⟩:=r1.get (List.getElem?_eq_getElem B);obtain⟨uy,ah,a0⟩:=r2.get (List.getElem?_eq_getElem (show i<ys.length by lia));refine codeAny_builtin F.entry_extend_loop ?_;rw[Around.under_plainId F.plain_extend_loop _];show wpAny _ A.in1 (pyNext (.ref z) >>= _) _ _ s;refine wpAny_bind (tL D Z (by simpa using al) (by simpa using ah) λP an hT E=>?_);have u:H s.heap.objs.size=none:=I.hok.fresh (Nat.le_refl _)
  have J:Inv X d G (upd H s.heap.objs.size (.tup [xs[i],ys[i]])) { s with heap:=P } :=
   I.turnedNew (t':=s.toks) (ch:=[z,l,m,r]) (λc o f q=>E c o (λw=>f (by simp[w])) (λw=>f (by simp[w])) (λw=>f (by simp[w])) (λw=>f (by simp[w])) q) M (Nat.le_refl _) ⟨by rw[sl];show 2<=16777216;decide,[ux,uy],.cons as (.cons a0 .nil),_,hT,rfl,0,rfl⟩
  have nS:S≠s.heap.objs.size:=ap g u;have O:(upd H s.heap.objs.size (.tup [xs[i],ys[i]])) S=some (.lst ps):=by rw[ai nS];exact g
  obtain⟨_,its,n,rv,a2,eo⟩:=J.lstM O;show wpAny _ A.in1 (updateSeq S (·.push (.ref s.heap.objs.size)) >>= _) _ _ _;refine wpAny_bind ?_
  have J2:Inv X d G (upd (upd H s.heap.objs.size (.tup [xs[i],ys[i]])) S (.lst (ps++[.ref s.heap.objs.size]))) { s with heap:=P.update S (Obj.mapSeq (·.push (.ref s.heap.objs.size))) } :=
   J.lset (s:={ s with heap:=P }) (t':=s.toks) (its:=its) (its':=its++[.ref s.heap.objs.size]) O eo (by simp) (rv.append (.cons (show RelV (V.ref s.heap.objs.size) (.ref s.heap.objs.size) from rfl) .nil)) (by rw[length_append,length_singleton];lia)
  have ab:∀ c∈[z,l,m,r],c≠s.heap.objs.size:=λc f q=>by
   have:∃ o,s.heap.get? c=some o:=by
    obtain⟨zo,ti,⟨a,b,to⟩,⟨o1,j1,_⟩,⟨o2,j2,_⟩,_⟩:=Z;simp only[mem_cons,not_mem_nil,or_false]at f
    rcases f with rfl | rfl | rfl | rfl
    .rcases zo with h | ⟨_,_,_,h,_⟩
     .exact⟨_,h⟩
     .exact⟨_,h⟩
    .exact⟨_,to⟩
    .exact⟨_,j1⟩
    .exact⟨_,j2⟩
   obtain⟨o,ho⟩:=this;exact absurd (Heap.lt_size ho) (by rw[q];exact Nat.lt_irrefl _)
  have N:∀ c∈[z,U,l,m,r,Y,T],c≠S:=λc f q=>hS (by rw[<- q];exact f)
  refine wpAny_updateSeq eo rfl (wpAny_pure ⟨plainId_quiet F.plain_extend_loop _,ih (i+1) _ _ _ (by lia) B (an.on (λb v o e=>(Heap.get?_update_other _ _ (N b v).symm).trans e) λb o e=>?_) J2 (λb v=>(M b v).on ?_) ((W.put (W.free u)).put fS) ad (by rw[length_append,length_singleton];lia) ?_ hR⟩) (by rw[size_toArray];lia) (by rw[Array.size_push,size_toArray];lia)
  .by_cases eb:b=S
   .subst eb
    exact⟨_,Heap.get?_update_self _ eo rfl⟩
   .exact⟨o,(Heap.get?_update_other _ _ (Ne.symm eb)).trans e⟩
  .rw[ai (N b (by simp at v ⊢;rcases v with rfl | rfl | rfl | rfl <;> simp)),ai (ab b v)]
   exact(M b v).1
  .intro j p x y C h2 h3
   by_cases hj:j<ps.length
   .rw[List.getElem?_append_left hj]at C
    obtain⟨q,rfl,Q⟩:=hp j p x y C h2 h3;refine⟨q,rfl,?_⟩;have nq:q≠S:=λe=>by rw[e,g]at Q;cases Q
    rw[ai nq,ai (ap Q u)];exact Q
   .rw[List.getElem?_append_right (by lia)]at C
    have:j=i:=by
     by_cases e:j - ps.length=0
     .lia
     .rw[List.getElem?_eq_none (by simp;lia)]at C;cases C
    subst this;rw[show j - ps.length=0 by lia]at C;cases C;rw[List.getElem?_eq_getElem B]at h2;cases h2;rw[List.getElem?_eq_getElem (by lia)]at h3;cases h3;exact⟨_,rfl,by rw[ai nS.symm];exact ad⟩
theorem pJ(n a b:Nat)(d:a<n)(c:b<n):ZipApart (n+4) (n+2) (n+3) n (n+1) a b:=by
 constructor <;> exact(show(_:Nat)≠(_:Nat) by lia)
theorem ur(n a b c:Nat)(e:a<n)(d:b<n)(h:c∈[n+4,n+2,n+3,n,n+1,a,b]):c≠n+5:=by
 simp only[mem_cons,not_mem_nil,or_false]at h;lia
theorem iS(n c:Nat)(h:c∈[n+4,n+3,n,n+1]):n<=c/\c≠n+5:=by
 simp only[mem_cons,not_mem_nil,or_false]at h;lia
theorem nQ:typeLookup (.type "zip") (Str.ofString "__len__")=pure none:=by rw[typeLookup_type,builtinLookup_eq_fast];kernel_rfl
theorem lQ:typeLookup (.type "zip") (Str.ofString "__length_hint__")=pure none:=by rw[typeLookup_type,builtinLookup_eq_fast];kernel_rfl
section
variable {prog:Program}{w:World}{A:Around}{E:Value->Shared->Prop}{s:Shared}{I:Addr}
theorem rM{Q:Bool->Shared->Prop}(a:s.TypeIs (.ref I) "zip")(h:Q true s):wpAny (model prog w) A (Builtin.List.listLengthHint (.ref I)) Q E s:=by
 unfold Builtin.List.listLengthHint;refine wpAny_bind (wpAny_specialOf a nQ ?_);show wpAny _ A (specialOf (Value.ref I) (Str.ofString "__length_hint__") >>= _) _ _ _;refine wpAny_bind (wpAny_specialOf a lQ ?_);exact wpAny_pure h
end
section
variable {X:Cx}{e f:Expr}{ta:TA}{p1 p2 pos pos2:Pos}
def tLZ(ta:TA):TE:=λσ H Q=>ta σ H λvs H1=>∃(a b:Addr) (xs ys:List V),vs=[.ref a,.ref b]/\H1 a=some (.lst xs)/\H1 b=some (.lst ys)/\xs.length=ys.length/\xs.length<=1000 /\
 ∀ H' l ps,Same H1 H'->H1 l=none->H' l=some (.lst ps)->ps.length=xs.length->Zp H' xs ys ps->Q (.ref l) H'
theorem nU(hc:X.calm=true)(al:Gl X "list")(ab:X.mg "list" = none)(as:Gl X "zip")(an:X.mg "zip" = none)(ha:PA X [e,f] ta)
  (he:starEach [Expr.Call (.Name "zip" p2) [e,f] [] pos2] X.env=[(false,eval (.Call (.Name "zip" p2) [e,f] [] pos2) X.env)]:=by rfl) (hs:starEach [e,f] X.env=(false,eval e X.env)::starEach [f] X.env:=by rfl)
  (a1:(backTo pos2 (starEach [f] X.env)).any (·.1)=false:=by rfl) :
  PE X (.Call (.Name "list" p1) [.Call (.Name "zip" p2) [e,f] [] pos2] [] pos) (tLZ ta):=by
 intro i s U H Q I h;have sl:sizeLine=16777216:=sizeLine_eq;refine wpAny_Call_Name_kw (fA I al ab eN ?_ (by decide) (by decide));refine PyProof.Rows.callWith_type1 (Calls.spliced_cons ?_) he rfl;refine wpAny_Call_Name_kw (fA I as an qY ?_ (by decide) (by decide));refine PyProof.Rows.callWith_type1 (thn (ha pos2 i s U H _ I h) λus d ⟨vs,K,B,r1,a,b,xs,ys,O,hl,ah,Z,hx,q⟩=>?_) hs a1;subst O;obtain⟨u,v,rfl,ru,rv⟩:=mt r1;cases ru;cases rv;obtain⟨_,its,n,r,a4,eo⟩:=B.lstM hl;obtain⟨_,C,m,r2,Y,G⟩:=B.lstM ah;refine call_zip_2 (xs:=its.toArray) (ys:=C.toArray) ⟨_,eo,rfl,_,rfl⟩ ⟨_,G,rfl,_,rfl⟩ λw O e2 e3 e4 e5 e6 e7=>?_
 refine Calls.spliced_nil ?_;have I2:Inv X i U K { d with heap:=w }:=B.kept (t':=d.toks) e7;have P:a<d.heap.objs.size:=Heap.lt_size eo;have L:b<d.heap.objs.size:=Heap.lt_size G
 have Z2:ZS w (d.heap.objs.size+4) (d.heap.objs.size+2) (d.heap.objs.size+3) d.heap.objs.size (d.heap.objs.size+1) a b its.toArray C.toArray 0:=⟨.inl O,e2,⟨_,_,e3⟩,e4,e5,⟨_,e7 _ _ eo,rfl,_,rfl⟩,⟨_,e7 _ _ G,rfl,_,rfl⟩⟩
 have D:ZipApart (d.heap.objs.size+4) (d.heap.objs.size+2) (d.heap.objs.size+3) d.heap.objs.size (d.heap.objs.size+1) a b:=pJ _ _ _ P L;have a2:∀ c,d.heap.objs.size<=c->FpOk X i K c:=λc g=>B.fpOk g (B.hok.fresh g)
 obtain⟨S,hS⟩:∃ S,S=w.objs.size:=⟨_,rfl⟩
 have M:S=d.heap.objs.size+5:=by rw[hS,e6]
 refine callType_codes (Q₁:=λR E=>R=.ref w.objs.size/\E={ d with heap:=w.push { cls:=.type "list",data:=.seq #[] } }) F.called_list (F.typeCall_list_1 _) F.entry_list_init (code_list_new _ ⟨rfl,rfl⟩) λR E h₁=>?_
 obtain⟨rfl,rfl⟩:=h₁;rw[<- hS]
 have I3:Inv X i U (upd K S (.lst [])) { d with heap:=w.push { cls:=.type "list",data:=.seq #[] } }:=by
  have:=I2.lnew (t':=d.toks) (ys:=[]) (its:=[]) .nil (Nat.zero_le _);rw[hS];exact this
 have fS:K S=none:=B.hok.fresh (by lia);obtain⟨_,a5,n3,r3,_,A⟩:=I3.lstM (l:=S) (xs:=[]) ad;cases r3;refine⟨⟨_,A,rfl⟩,F.args_list_init_2 _ _,?_⟩;show wpAny _ _ (do let old <- Builtin.List.listItems (.ref S);Builtin.List.listUpdate (.ref S) (λ_=>#[]);letGo old.toList.reverse;Builtin.List.listExtendWith (.ref S) (.ref (d.heap.objs.size+4)) .none) _ _ _;refine wpAny_bind ?_;unfold Builtin.List.listItems;refine wpAny_bind (wpAny_seqItems A rfl (wpAny_pure ?_));show wpAny _ _ (updateSeq S (λ_=>#[]) >>= λ_=>letGo (#[]:Array Value).toList.reverse >>= λ_=>Builtin.List.listExtendWith (.ref S) (.ref (d.heap.objs.size+4)) .none) _ _ _;refine wpAny_bind (wpAny_updateSeq A rfl ?_);refine wpAny_bind (wpAny_letGo ?_)
 have W:Inv X i U (upd (upd K S (.lst [])) S (.lst [])) { d with heap:=(w.push { cls:=.type "list",data:=.seq #[] }).update S (Obj.mapSeq (λ_=>#[])) } :=
  I3.lset (s:={ d with heap:=w.push { cls:=.type "list",data:=.seq #[] } }) (t':=d.toks) (its:=[]) (its':=[]) ad A rfl .nil (Nat.zero_le _)
 rw[cE]at W;have T:∀ c o,w.get? c=some o->((w.push { cls:=.type "list",data:=.seq #[] }).update S (Obj.mapSeq (λ_=>(#[]:Array Value)))).get? c=some o:=λc o g=>(Heap.get?_update_other _ _ (by rw[hS];exact Nat.ne_of_gt (Heap.lt_size g))).trans (Heap.get?_push_of_some _ g)
 have Z4:=Z2.on (λc _ o g=>T c o g) (λc o g=>⟨o,T c o g⟩);have ti:Shared.TypeIs { d with heap:=(w.push { cls:=.type "list",data:=.seq #[] }).update S (Obj.mapSeq (λ_=>(#[]:Array Value))) } (.ref (d.heap.objs.size+4)) "zip" := ⟨_,T _ _ O,rfl⟩;unfold Builtin.List.listExtendWith;refine wpAny_bind (wpAny_typeOf ti ?_)
 have g1:Builtin.List.listSameRef (.ref S) (.ref (d.heap.objs.size+4))=false:=by
  have:(S:Nat)≠d.heap.objs.size+4:=by lia
  simpa[Builtin.List.listSameRef] using this
 have g2:(Value.type "zip" == Value.type "list")=false:=by decide
 have g3:(Value.type "zip" == Value.type "tuple")=false:=by decide
 simp only[g1,g2,g3,Bool.or_false,Bool.false_eq_true,if_false];refine wpAny_bind ?_;have pz:∀{A':Around}{Q':Value->Shared->Prop}{E':Value->Shared->Prop}{s':Shared},kY s'.heap (d.heap.objs.size+4) (d.heap.objs.size+2) (d.heap.objs.size+3) .none false->Q' (.ref (d.heap.objs.size+4)) s'->wpAny (model X.prog X.w) A' (pyIter (.ref (d.heap.objs.size+4))) Q' E' s':=λh h'=>wpAny_pyIter_zip h h'
 refine pz (T _ _ O) ?_;refine wpAny_bind (wpAny_holding (rM ti ?_));rw[if_pos (by rfl)];refine wpAny_bind (wpAny_rule ?_);obtain⟨_,a6,n4,r4,_,N⟩:=W.lstM (l:=S) (xs:=[]) ad;cases r4;unfold Builtin.List.listTouch;refine wpAny_bind (wpAny_bind ?_);show wpAny _ _ (updateSeq S (·.push .none)) _ _ _;refine wpAny_updateSeq N rfl ?_ (by simp) (by simp);have I5:=W.lset (s:={ d with heap:=(w.push { cls:=.type "list",data:=.seq #[] }).update S (Obj.mapSeq (λ_=>#[])) }) (t':=d.toks) (its:=[]) (its':=[.none]) (f:=(·.push .none)) (ys:=[.non]) ad N rfl (.cons rfl .nil) (by rw[sl];show 1<=16777216;decide);rw[cE]at I5;obtain⟨_,a3,n5,r5,_,k⟩:=I5.lstM (l:=S) (xs:=[.non]) ad;obtain⟨u5,rfl,a0⟩:=r5.one;cases a0;show wpAny _ _ (updateSeq S (·.pop)) _ _ _;refine wpAny_updateSeq k rfl ?_ (by simp[sl]) (by simp);have I6:=I5.lset (s:={ d with heap:=((w.push { cls:=.type "list",data:=.seq #[] }).update S (Obj.mapSeq (λ_=>#[]))).update S (Obj.mapSeq (·.push .none)) }) (t':=d.toks) (its:=[.none]) (its':=[]) (f:=(·.pop)) (ys:=[]) ad k (by simp) .nil (Nat.zero_le _);rw[cE]at I6
 have J:∀ c∈[d.heap.objs.size+4,d.heap.objs.size+2,d.heap.objs.size+3,d.heap.objs.size,d.heap.objs.size+1,a,b],c≠S:=λc g=>by
  rw[M];exact ur _ _ _ _ P L g
 have Z6:=(Z4.on (λc g o e=>(Heap.get?_update_other _ (Obj.mapSeq (·.push .none)) (J c g).symm).trans e) (λc o e=>by
  by_cases ec:c=S
  .exact⟨_,by rw[ec];exact k⟩
  .exact⟨o,(Heap.get?_update_other _ _ (Ne.symm ec)).trans e⟩)).on (λc g o e=>(Heap.get?_update_other _ (Obj.mapSeq (·.pop)) (J c g).symm).trans e) (λc o e=>by
  by_cases ec:c=S
  .exact⟨_,by rw[ec];exact Heap.get?_update_self _ k rfl⟩
  .exact⟨o,(Heap.get?_update_other _ _ (Ne.symm ec)).trans e⟩)
 refine wpAny_pure ⟨plainId_quiet F.plain_extend_loop _,tp (H0:=K) (by simpa using B.ok.hd hc) D ?_ r r2 Z hx fS xs.length 0 _ _ _ rfl (Nat.zero_le _) Z6 I6 (λc g=>(a2 c ?_).on ?_) (Same.new fS) ad rfl (λj p x y h=>by cases h) λs' H' ps' I' sm hS' hps hz=>⟨rfl,?_⟩⟩
 .exact λz=>J _ z rfl
 .exact(iS _ _ g).1
 .rw[ai (by rw[M];exact(iS _ _ g).2)]
  exact B.hok.fresh (iS _ _ g).1
 .exact⟨.ref S,H',I',rfl,q H' S ps' sm fS hS' hps hz⟩
end
end L2
namespace L2
open PySem PySem.Calls PySem.Spec PyProof.Rows PySem.W
section
variable {prog:Program}{w:World}{s:Shared}{A:Around}{E:Value->Shared->Prop}
theorem q8{t:Addr}{us:List Value}{g:List Int}{R:Value->Shared->Prop}(q:IsTup s.heap t us.toArray)(x:IntsAre us g)(a:us.length<64)
  (c:∀(out:Array Value) (ns':List Int),IntsAre out.toList ns'->ns'.Perm g->ns'.Pairwise (·<=·)->R (.ref (s.heap.objs.size+1)) { s with heap:=sortedAll s.heap us out }) :
  wpAny (model prog w) A (call (.builtin "sorted") [.ref t]) R E s:=by
 obtain⟨o,i,j,n,k⟩:=id q;have l:us.length<=sizeLine:=by rw[sizeLine_eq];lia
 refine call_function_entry kind_sorted plain_sorted entry_sorted (args_sorted1 _) ?_;unfold Builtin.«sorted»;refine wpAny_bind (m:=checkCount "sorted" 1 1 _) (wpAny_pure (wpAny_bind ?_));unfold collect;refine wpAny_bind (wpAny_runValue (codeAny_builtin entry_proto_collect' ?_));show wpAny _ _ (do again (.builtin "list.__iadd__" ⟨[<- newList [],.ref t],[]⟩)) _ _ s;refine wpAny_bind (wpAny_newList (wpAny_pure ⟨Code.quiet_builtin _ (by decide +kernel),codeAny_builtin entry_list_iadd' ?_⟩));show wpAny _ _ (Builtin.List.listExtendWith (.ref s.heap.objs.size) (.ref t) (.ref s.heap.objs.size)) _ _ { s with heap:=s.heap.push (seqObj "list" #[] 0) };unfold Builtin.List.listExtendWith;have b:(s.heap.push (seqObj "list" #[] 0)).get? t=some o:=Heap.get?_push_of_some _ i;have d:(s.heap.push (seqObj "list" #[] 0)).get? s.heap.objs.size=some (seqObj "list" #[] 0):=Heap.get?_push_size _ rfl;refine wpAny_bind (wpAny_typeOf (T := "tuple") ⟨o,b,j⟩ ?_);have e:(Value.type "tuple" == Value.type "tuple")=true:=rfl;rw[if_pos (by rw[e];simp)];refine wpAny_bind (listItems_at b k (wpAny_bind (listItems_at (xs:=#[]) (n:=0) d rfl ?_)));rw[if_neg (by simp)];refine wpAny_bind (listUpdate_at (xs:=#[]) (n:=0) d rfl (wpAny_pure ?_) (Nat.zero_le _) (by show(#[]++us.toArray).size<=sizeLine+1;simp only[Array.size_append,size_toArray,length_nil];lia));show wpAny (model prog w) _ (do let o <- load s.heap.objs.size;match o.data with | .seq xs _=>pure xs.toList | _=>unsupported "internal:collect") _ E { s with heap:=(s.heap.push (seqObj "list" #[] 0)).update s.heap.objs.size (Obj.mapSeq (· ++ us.toArray)) };refine wpAny_bind (wpAny_load (get?_update_seq d _) ?_);show wpAny _ _ (pure ((#[]:Array Value)++us.toArray).toList) _ E _;have v:((#[]:Array Value)++us.toArray).toList=us:=by simp
 rw[v];refine wpAny_pure (wpAny_bind (wpAny_newList ?_));have h:((s.heap.push (seqObj "list" #[] 0)).update s.heap.objs.size (Obj.mapSeq (· ++ us.toArray))).objs.size=s.heap.objs.size+1:=by rw[Heap.size_update,size_push']
 have f:(((s.heap.push (seqObj "list" #[] 0)).update s.heap.objs.size (Obj.mapSeq (· ++ us.toArray))).push (seqObj "list" us.toArray 0)).get? (s.heap.objs.size+1)=some (seqObj "list" us.toArray 0):=by rw[<- h];exact Heap.get?_push_size _ rfl
 show wpAny _ _ _ _ _ { s with heap:=((s.heap.push (seqObj "list" #[] 0)).update s.heap.objs.size (Obj.mapSeq (· ++ us.toArray))).push (seqObj "list" us.toArray 0) };rw[h];exact wpAny_bind (wpAny_holding (wpAny_call_entry slot_list_sort ⟨_,f,rfl⟩ entry_list_sort (list_sort_tree f x a λout ns' r u y=>⟨_,rfl,wpAny_pure ⟨_,rfl,c out ns' r u y⟩⟩) (args_list_sort _)))
end
theorem jH{X:Cx}:CallR X (.builtin "sorted") (λxs H Q=>∃(p:Addr) (ns:List Int),xs=[.ref p]/\(SqL X.K H p (ns.map V.int)\/SqT X.K H p (ns.map V.int))/\ns.length<64/\∀ q (ns':List Int),ns'.Perm ns->ns'.Pairwise (·<=·)->H q=none->Q (.ref q) (upd H q (.lst (ns'.map V.int)))):=by
 intro f s m H xs l Q I r h;obtain⟨p,ns,rfl,hq,B,q⟩:=h
 rcases hq with hq | hq
 .exact gC f s m H _ l Q I r ⟨p,ns,rfl,hq,B,q⟩
 obtain⟨u,rfl,v⟩:=di r;cases v;obtain⟨c,i,A,D⟩:=I.tuple hq;have x:=dO i;have j:c.length=ns.length:=by have:=i.length;rw[length_map]at this;exact this.symm
 refine q8 A x (by lia) λd ns' w k C=>?_
 obtain⟨e,n⟩:=sortedAll_at s.heap c d;have y:H (s.heap.objs.size+1)=none:=I.hok.fresh (Nat.le_succ _);have g:sizeLine=16777216:=sizeLine_eq;refine⟨.ref (s.heap.objs.size+1),_,I.laid (a:=s.heap.objs.size+1) (o:=.lst (ns'.map V.int)) (t':=s.toks) (λb u z=>sortedAll_old z) (Nat.le_succ _) ⟨?_,d.toList,e,dL w,?_⟩,rfl,q _ ns' k C y⟩
 .rw[length_map,k.length_eq];lia
 .rw[n,Array.toArray_toList]
end L2
namespace L2
open PySem PySem.Spec PyProof.Rows PySem.W
def DE(h:Heap)(d:Addr)(es:Array DictEntry)(ep:Nat):Prop:=∃ o,h.get? d=some o/\o.ExactDict/\o.data=.dict es ep
theorem DE.ty{s:Shared}{d:Addr}{es:Array DictEntry}{a:Nat}(x:DE s.heap d es a):s.TypeIs (.ref d) "dict" := let ⟨o,e,c,_⟩:=x;⟨o,e,c.1⟩
section
variable {prog:Program}{w:World}{A:Around}{E:Value->Shared->Prop}{s:Shared}{d I:Addr}{es:Array DictEntry}{ep i:Nat}
end
section
variable {X:Cx}
end
section
variable {X:Cx}{pins:List (Addr×Obj)}{σ:St}{H:Hp}{s:Shared}{a:Addr}{kvs:List (List Key×V)}{o:Obj}
theorem Inv.freeze(I:Inv X pins σ H s)(h:Rd H a (.dT kvs))(r:s.heap.get? a=some o):Inv X pins σ (upd H a (.frz o (.dT kvs))) s:=by
 have l:=h.ok I.hok
 have F:∃ u,H a=some u:=by rcases h with e | ⟨_,e⟩ <;> exact⟨_,e⟩
 have i:∀{b},H b=none->b≠a:=λ{b} e z=>by subst z;obtain⟨u,q⟩:=F;rw[e]at q;cases q
 have k:∀{b d},H b=some (.tup d)->b≠a:=λ{b d} e z=>by subst z;rcases h with q | ⟨_,q⟩ <;> (rw[e]at q;cases q)
 have m:∀{b y},H b=some (.own y)->b≠a:=λ{b y} e z=>by subst z;rcases h with q | ⟨_,q⟩ <;> (rw[e]at q;cases q)
 have A:∀{b j},H b=some (.tbl j)->b≠a:=λ{b j} e z=>by subst z;rcases h with q | ⟨_,q⟩ <;> (rw[e]at q;cases q)
 have B:∀ b u v,H b=some (.frz u v)->(upd H a (.frz o (.dT kvs))) b=some (.frz u v):=λb u v e=>by
  by_cases c:b=a
  .subst c
   rcases h with q | ⟨G,q⟩
   .rw[e]at q;cases q
   .rw[e]at q
    cases q
    obtain⟨g,_⟩:=(show ObjOk X.prog X.w H s.heap b (.frz u (.dT kvs)) from I.hok b _ e)
    rw[r]at g;cases g;exact ad
  .rw[ai c];exact e
 refine⟨I.ok,I.os,I.bare,⟨I.base.keep,I.base.slot,λb u e n D=>?_,I.base.there,λb d e=>?_,λb u v e=>B b u v (I.base.frzs b u v e),λb j e=>?_⟩,I.loc,I.cell,?_,λx c e=>?_,λp hp=>?_,λb u e=>?_,I.len⟩
 .have:=I.base.free b u e n D;rw[ai (i this)];exact this
 .have:=I.base.tups b d e;rw[ai (k this)];exact this
 .obtain⟨f,z⟩:=I.base.tbls b j e;exact⟨f,by rw[ai (A z)];exact z⟩
 .rw[ai (i I.free)];exact I.free
 .rw[ai (i (I.freeC x c e))];exact I.freeC x c e
 .obtain⟨E,w,C⟩:=I.pin p hp;exact⟨E,by rw[ai (i w)];exact w,C⟩
 .by_cases hb:b=a
  .subst hb
   rw[ad]at e;cases e;exact⟨r,l.stay (λ_ _ _ q=>q) (λc q=>by rw[ai (m q)];exact q) λc d q=>by rw[ai (k q)];exact q⟩
  .rw[ai hb]at e
   exact(I.hok b u e).stay (λ_ _ _ q=>q) (λc q=>by rw[ai (m q)];exact q) λc d q=>by rw[ai (k q)];exact q
end
theorem nK{P:Program}{w:World}{H:Hp}{h:Heap}{d:Addr}{o:Obj}{a:List (List Key×V)}(c:HOk P w H h)(e:H d=some (.frz o (.dT a))):∃ xs es ep,KT H a xs/\h.get? d=some o/\o.ExactDict/\o.data=.dict es ep/\es.toList=xs.map (entryOfKey (tupleKind (bN P w)))/\(d == sysModules)=false:=by
 obtain⟨g,z,y,xs,r,l,es,ep,b,j,f,i,k⟩:=(show ObjOk P w H h d (.frz o (.dT a)) from c d _ e)
 rw[g]at b;cases b;exact⟨xs,es,ep,r,g,j,f,i,y⟩
section
variable {prog:Program}{w:World}{A:Around}{E:Value->Shared->Prop}{s:Shared}{d I v:Addr}{es:Array DictEntry}{ep i:Nat}{k0 v0:Value}
theorem ul(a:(d == sysModules)=false):MeetsIn prog w (Builtin.«dict.items» ⟨[.ref d],[]⟩) (λ_ R s=>DE s.heap d es ep /\
  R (.ok (.ret (.ref s.heap.objs.size))) { s with heap:=s.heap.push { cls:=.type "dict_items",data:=.fields #[.ref d] } }):=.of_wp λA R s ⟨x,h⟩=>by
 unfold Builtin.«dict.items»;refine wpAny_bind ?_;unfold Builtin.Dict.noArgs;refine wpAny_bind (wpAny_notOrdered_dict x.ty ?_);show wpAny _ _ (pure d) _ _ s;refine wpAny_pure ?_;show wpAny _ _ (Builtin.Dict.showsAll d >>= _) _ _ s;unfold Builtin.Dict.showsAll;rw[if_neg (λz=>by rw[a]at z;cases z)];refine wpAny_bind (wpAny_pure ?_);exact wpAny_bind (wpAny_newObj_type (wpAny_pure ⟨_,rfl,h⟩))
theorem sZ{Q:Value->Shared->Prop}(b:s.heap.IsItemsView v d)(x:DE s.heap d es ep)
  (q:Q (.ref s.heap.objs.size) { s with heap:=s.heap.push { cls:=.type "dict_itemiterator",data:=.fields #[.none,.bool false,.ref d,.int 0 0,.int es.size 0,.int ep 0,.none,.none] } }):wpAny (model prog w) A (pyIter (.ref v)) Q E s:=by
 obtain⟨g,e,f,c⟩:=id b;obtain⟨ob,g1,g2,g3⟩:=id x;refine wpAny_pyIter_slot b.typeIs F.slot_dict_items_iter (wpAny_call_entry F.slot_dict_items_iter b.typeIs F.entry_dict_items_iter ?_ (F.args_dict_items_iter_1 _));unfold Builtin.«dict_items.__iter__»;refine wpAny_bind (wpAny_pure (wpAny_bind ?_));unfold Builtin.Dict_items.dictOf;refine wpAny_bind (wpAny_field e c (x:=.ref d) rfl (wpAny_pure (wpAny_bind ?_)));unfold Builtin.Dict_items.newIterator;refine wpAny_bind (wpAny_dictEntries g1 g3 (wpAny_bind (wpAny_dictEpoch g1 g3 ?_)));have a:Builtin.Dict_items.ownsTuple "dict_itemiterator" = true:=by decide
 simp only[a,if_true];refine wpAny_newObj_type (wpAny_pure ⟨_,rfl, "dict_itemiterator",_,⟨_,Heap.get?_push_size _ rfl,rfl⟩,F.slot_dict_itemiterator_next.lookup,?_⟩) (by simp only[sizeOk,Builtin.Dict_items.ownedTupleFields,size_toArray,length_append,length_cons,length_nil,sizeLine_eq];lia);simpa[rawInt,Builtin.Dict_items.ownedTupleFields] using q
theorem uG{Q:Option Value->Shared->Prop}{e:DictEntry}(H:IsItemIter s.heap I d i es.size ep k0 v0)(x:DE s.heap d es ep)(Z:es[i]? = some e)
  (q:∀ h',IsItemIterOut h' I d (i+1) es.size ep e.key e.val s.heap.objs.size->h'.get? s.heap.objs.size=some { cls:=.type "tuple",data:=.seq #[e.key,e.val] }->h'.objs.size=s.heap.objs.size+1 ->
   (∀ b o,b≠I->s.heap.get? b=some o->h'.get? b=some o)->Q (some (.ref s.heap.objs.size)) { s with heap:=h' }):wpAny (model prog w) A (pyNext (.ref I)) Q E s:=by
 obtain⟨a,g,v,r,k⟩:=s;obtain⟨ob,g1,g2,g3⟩:=id x;have j:Shared.TypeIs ⟨a,g,v,r,k⟩ (.ref I) "dict_itemiterator" := ⟨_,H,rfl⟩;unfold pyNext;refine wpAny_bind (wpAny_attempt (wpAny_callSpecial?_slot (name:=Str.ofString "__next__") j F.slot_dict_itemiterator_next (wpAny_call_entry F.slot_dict_itemiterator_next j F.entry_dict_itemiterator_next ?_ (F.args_dict_itemiterator_next_1 _))));refine wpAny_bind (wpAny_pure (wpAny_bind (wpAny_bind ?_)))
 first | refine wpAny_bind (wpAny_typeNameOfWhole_itemiter j (wpAny_pure ?_)) | refine wpAny_bind (wpAny_typeNameOf_itemiter j (wpAny_pure ?_))
 refine wpAny_bind (wpAny_fieldsOf H rfl ?_);have J:Builtin.Dict_items.ownsTuple "dict_itemiterator" = true:=by decide
 simp only[J,if_true];show wpAny _ _ (if (Value.ref d == Value.none)=true then _ else _) _ _ _;rw[if_neg (λz:(Value.ref d == Value.none)=true=>Bool.false_ne_true z)];refine wpAny_bind (wpAny_pure (wpAny_bind (wpAny_dictEntries g1 g3 ?_)));rw[if_neg (by simp)];refine wpAny_bind (wpAny_pure (wpAny_bind (wpAny_dictEpoch g1 g3 ?_)));rw[if_neg (by simp)];refine wpAny_pure ?_;obtain⟨N,rfl⟩:=Array.getElem?_eq_some_iff.mp Z;simp only[show ¬((i:Int)<0) from by lia,if_false,Int.toNat_natCast,Array.getElem?_eq_getElem N];refine wpAny_bind ?_
 first | refine wpAny_bind (wpAny_typeNameOfWhole_itemiter j (wpAny_pure ?_)) | refine wpAny_bind (wpAny_typeNameOf_itemiter j (wpAny_pure ?_))
 refine wpAny_bind (wpAny_isOneOf_itemiter j ?_);show wpAny _ _ (setField (.ref I) 3 (rawInt ((i:Int)+1)) >>= _) _ _ ⟨a,g,v,r,k⟩;refine wpAny_bind (wpAny_setField_rec H (by simp) λf m n=>?_);replace n:Heap.SameBut I a f:=n
 replace m:IsItemIter f I d (i+1) es.size ep k0 v0:=by
  have z:((i+1:Nat):Int)=(i:Int)+1:=by lia
  unfold IsItemIter;rw[z];simpa[rawInt] using m
 have h:Shared.TypeIs ⟨f,g,v,r,k⟩ (.ref I) "dict_itemiterator" := ⟨_,m,rfl⟩;refine wpAny_bind (wpAny_holding (wpAny_bind (wpAny_isOneOf_itemiter h (wpAny_bind (wpAny_isOneOf_itemiter h ?_)))));show wpAny _ _ (Builtin.Dict_items.pairFromOwner (.ref I) 6 es[i].key es[i].val) _ _ ⟨f,g,v,r,k⟩;unfold Builtin.Dict_items.pairFromOwner;refine wpAny_bind (wpAny_newTuple ?_);have l:IsItemIter (f.push { cls:=.type "tuple",data:=.seq #[es[i].key,es[i].val] }) I d (i+1) es.size ep k0 v0:=Heap.get?_push_of_some _ m;generalize hh:f.push { cls:=.type "tuple",data:=.seq #[es[i].key,es[i].val] }=h2 at l;have y:f.objs.size=a.objs.size:=n.1;have X:I<a.objs.size:=Heap.lt_size H;have Y:h2.get? a.objs.size=some { cls:=.type "tuple",data:=.seq #[es[i].key,es[i].val] }:=by rw[<- hh,<- y];exact Heap.get?_push_size _ rfl
 have W:h2.objs.size=a.objs.size+1:=by rw[<- hh,Heap.size_push,y]
 have U:∀ b o,b≠I->a.get? b=some o->h2.get? b=some o:=λb o c e=>by rw[<- hh];exact Heap.get?_push_of_some _ (n.extBut b o c e)
 show wpAny _ _ (Builtin.Dict_items.ownedTupleIsFree (.ref I) >>= _) _ _ ⟨h2,g,v,r,k⟩;rw[y];clear hh m n h y f;refine wpAny_bind ?_;unfold Builtin.Dict_items.ownedTupleIsFree;refine wpAny_bind (wpAny_field l rfl (x:=.none) rfl (wpAny_pure ?_));simp only[if_true];refine wpAny_bind (wpAny_field l rfl (x:=k0) rfl (wpAny_bind (wpAny_field l rfl (x:=v0) rfl ?_)));refine wpAny_bind (wpAny_setField_rec l (by simp) λR L C=>?_);replace C:Heap.SameBut I h2 R:=C;replace L:IsItemIter R I d (i+1) es.size ep es[i].key v0:=L;refine wpAny_bind (wpAny_setField_rec L (by simp) λM P B=>?_);replace B:Heap.SameBut I R M:=B;replace P:IsItemIter M I d (i+1) es.size ep es[i].key es[i].val:=P;refine wpAny_bind (wpAny_setField_rec P (by simp) λK S D=>?_);replace D:Heap.SameBut I M K:=D;replace S:IsItemIterOut K I d (i+1) es.size ep es[i].key es[i].val a.objs.size:=S;refine wpAny_bind (wpAny_setField_rec S (by simp) λu O G=>?_);replace G:Heap.SameBut I K u:=G;replace O:IsItemIterOut u I d (i+1) es.size ep es[i].key es[i].val a.objs.size:=O;have T:∀ b o,b≠I->h2.get? b=some o->u.get? b=some o:=λb o c e=>G.extBut b o c (D.extBut b o c (B.extBut b o c (C.extBut b o c e)))
 refine wpAny_bind (wpAny_letGo (wpAny_pure (wpAny_pure ⟨_,rfl,wpAny_pure (q u O (T _ _ (Nat.ne_of_gt X) Y) ?_ λb o c e=>T b o c (U b o c e))⟩)));show u.objs.size=a.objs.size+1;rw[G.1,D.1,B.1,C.1,W]
theorem w5{Q:Option Value->Shared->Prop}(j:A.handled=none)(f:IsItemIter s.heap I d i es.size ep k0 v0)(x:DE s.heap d es ep)(k:es.size<=i)
  (q:∀ h',Heap.ExtBut I s.heap h'->Q none { s with heap:=h' }):wpAny (model prog w) A (pyNext (.ref I)) Q E s:=by
 obtain⟨l,h,n,g⟩:=id x;have c:s.TypeIs (.ref I) "dict_itemiterator" := ⟨_,f,rfl⟩;unfold pyNext;refine wpAny_bind (wpAny_attempt (wpAny_callSpecial?_slot (name:=Str.ofString "__next__") c F.slot_dict_itemiterator_next (wpAny_call_entry F.slot_dict_itemiterator_next c F.entry_dict_itemiterator_next ?_ (F.args_dict_itemiterator_next_1 _))));refine wpAny_bind (wpAny_pure (wpAny_bind (wpAny_bind ?_)))
 first | refine wpAny_bind (wpAny_typeNameOfWhole_itemiter c (wpAny_pure ?_)) | refine wpAny_bind (wpAny_typeNameOf_itemiter c (wpAny_pure ?_))
 refine wpAny_bind (wpAny_fieldsOf f rfl ?_);have e:Builtin.Dict_items.ownsTuple "dict_itemiterator" = true:=by decide
 simp only[e,if_true];show wpAny _ _ (if (Value.ref d == Value.none)=true then _ else _) _ _ _;rw[if_neg (λz:(Value.ref d == Value.none)=true=>Bool.false_ne_true z)];refine wpAny_bind (wpAny_pure (wpAny_bind (wpAny_dictEntries h g ?_)));rw[if_neg (by simp)];refine wpAny_bind (wpAny_pure (wpAny_bind (wpAny_dictEpoch h g ?_)));rw[if_neg (by simp)];refine wpAny_pure ?_;simp only[show ¬((i:Int)<0) from by lia,if_false,Int.toNat_natCast,Array.getElem?_eq_none k];refine wpAny_bind ?_
 first | refine wpAny_bind (wpAny_typeNameOfWhole_itemiter c (wpAny_pure ?_)) | refine wpAny_bind (wpAny_typeNameOf_itemiter c (wpAny_pure ?_))
 show wpAny _ _ (setField (.ref I) 2 .none >>= _) _ _ s;refine wpAny_bind (wpAny_setField f rfl (by simp) ?_);show wpAny _ _ (newExc (.type "StopIteration") [] >>= _) _ _ _;refine wpAny_bind ?_;simp only[newExc,newTuple];refine wpAny_bind (wpAny_newObj_type ?_ (by size_fits));refine wpAny_bind (m:=firstArgMember _ _) (wpAny_of_eq (a:=Value.none) (by first | rfl | (simp only[firstArgMember];rfl)) (wpAny_newObj_type ?_ (by size_fits)));simp only[raiseNew];refine wpAny_bind (wpAny_handled ?_);rw[show A.in1.handled=none from j];refine wpAny_bind (wpAny_pure (wpAny_throw ?_));exact wpAny_bind (wpAny_isInstance (T := "StopIteration") (b:=true) ⟨_,Heap.get?_push_size _ rfl,rfl⟩ isSubtype_stop (wpAny_pure (q _ (((Heap.SameBut.update ..).extBut.push _).push _))))
end
def Iti(d:Addr)(o:Obj)(kvs:List (List Key×V)):It :=
 ⟨λi H=>H d=some (.frz o (.dT kvs))/\i<kvs.length,λi H x H'=>∃ p b kv,H p=none/\kvs[i]? = some kv/\x=.ref p/\H b=some (.tup (kv.1.map kV))/\H'=upd H p (.tup [.ref b,kv.2]),λi H=>H d=some (.frz o (.dT kvs))/\kvs.length<=i⟩
theorem KT.at2{H:Hp}:∀{kvs:List (List Key×V)}{xs:List (List Key×Addr×Value)}{i:Nat}{kv:List Key×V},KT H kvs xs->kvs[i]? = some kv->∃ x,xs[i]? = some x/\H x.2.1=some (.tup (kv.1.map kV))/\RelV kv.2 x.2.2
 | _,_,0,_,.cons r _,h=>by cases h;exact⟨_,rfl,r.2.1,r.2.2⟩
 | _,_,i+1,_,.cons _ t,h=>by obtain⟨x,e,q⟩:=KT.at2 (i:=i) t h;exact⟨x,e,q⟩
theorem uM{prog:Program}{w:World}{A:Around}{E:Value->Shared->Prop}{s:Shared}{a d:Addr}{i n c:Nat}{j e:Value}{Q:Value->Shared->Prop}(f:IsItemIter s.heap a d i n c j e)(h:Q (.ref a) s):wpAny (model prog w) A (pyIter (.ref a)) Q E s:=by
 have b:s.TypeIs (.ref a) "dict_itemiterator" := ⟨_,f,rfl⟩;have g:entryFor table "dict_itemiterator.__iter__" = some Builtin.«dict_keyiterator.__iter__»:=entryFor_alias (id' := "dict_keyiterator.__iter__") (by kernel_rfl) rfl (by decide +kernel) (by kernel_rfl);refine wpAny_pyIter_slot b F.slot_dict_itemiterator_iter (wpAny_call_entry F.slot_dict_itemiterator_iter b g ?_ (F.args_dict_itemiterator_iter_1 _));show wpAny _ _ (ret (.ref a)) _ _ s;exact wpAny_pure ⟨_,rfl, "dict_itemiterator",_,b,F.slot_dict_itemiterator_next.lookup,h⟩
theorem nZ{P:Program}{w:World}{K:Frag}{el:List Expr}{kk:Nat}{B:Pos}{d c:Addr}{o:Obj}{k:List (List Key×V)}{es:Array DictEntry}{Q:Nat}(g:o.data=.dict es Q)(hsz:es.size=k.length):Turn P w K (.Tuple el kk B) (Iti d o k) [c] c (λi h=>∃ k0 v0,IsItemIter h c d i es.size Q k0 v0) where
 mem:=mem_cons_self ..
 obj:=λi h a b j=>by
  rw[mem_singleton.mp j];obtain⟨k0,v0,e⟩:=a;exact⟨_,e,λv z=>by cases z⟩
 keep:=λi h h' a kp=>by
  obtain⟨k0,v0,e⟩:=a;exact⟨k0,v0,kp c (mem_cons_self ..) _ e⟩
 item:=by
  intro X G A F W i f s S H E I r a C;subst G A F;obtain⟨M,U⟩:=C;obtain⟨k0,v0,a⟩:=a;obtain⟨xs,D,O,m,N,y,l,Z,g5⟩:=nK I.hok M;have L:=g.symm.trans l;cases L
  obtain⟨kv,hkv⟩:∃ kv,k[i]? = some kv:=⟨_,List.getElem?_eq_getElem U⟩
  obtain⟨x,hx,hH,rv⟩:=m.at2 hkv;have he:es[i]? = some (entryOfKey (tupleKind (bN X.prog X.w)) x):=by rw[entry_at Z,hx];rfl
  refine uG a ⟨o,N,y,l⟩ he λh1 e1 e2 e3 e4=>?_
  refine⟨_,rfl,wpAny_letOwnedTupleGo_items e1 λR e5 Y=>?_⟩;have n:s.heap.objs.size≠c:=λq=>absurd (Heap.lt_size a) (by rw[<- q];exact Nat.lt_irrefl _)
  have hn:H s.heap.objs.size=none:=I.hok.fresh (Nat.le_refl _);have u:R.get? s.heap.objs.size=some { cls:=.type "tuple",data:=.seq #[.ref x.2.1,x.2.2] }:=(Y.2 _ n).trans e2
  have J:Inv X f S (upd H s.heap.objs.size (.tup [.ref x.2.1,kv.2])) { s with heap:=R,toks:=s.toks }:=by
   refine I.turnedNew (ch:=[c]) (λb o j q=>?_) r (Nat.le_refl _) ⟨by rw[sizeLine_eq];show 2<=16777216;decide,[.ref x.2.1,x.2.2],.cons rfl (.cons rv .nil),_,u,rfl,0,rfl⟩;have T:b≠c:=λz=>j (by simp[z])
   exact(Y.2 b T).trans (e4 b o T q)
  refine⟨.ref s.heap.objs.size,_,J,rfl,⟨s.heap.objs.size,x.2.1,kv,hn,hkv,rfl,hH,rfl⟩,⟨_,_,e5⟩,λb j=>?_⟩;rw[mem_singleton.mp j,ai n.symm];exact(r c (mem_cons_self ..)).1
 done:=by
  intro X G A F W i f s S H E I r a C;subst G A F;obtain⟨M,U⟩:=C;obtain⟨k0,v0,a⟩:=a;obtain⟨xs,D,O,m,N,y,l,Z,g5⟩:=nK I.hok M;have L:=g.symm.trans l;cases L
  exact w5 (I.ok.hd W) a ⟨o,N,y,l⟩ (by lia) λh1 eb=>⟨rfl,I.turnedN (ch:=[c]) (t':=s.toks) (λb o j q=>eb b o (λz=>j (by simp[z])) q) r⟩
 self:=λ_ _ _ _ _ a h=>by
  obtain⟨k0,v0,e⟩:=a;exact uM e h
def oB:V->List V->Hp->VK->Prop:=λx vs H Q=>∃(d:Addr) (kvs:List (List Key×V)),x=.ref d/\vs=[]/\Rd H d (.dT kvs)/\∀ v,H v=none->Q (.ref v) (upd H v (.ext (IV v d)))
section
variable {X:Cx}{o e:Expr}{es:List Expr}{to:TE}{t:TA}{apos cpos:Pos}
theorem pL:MtR X "dict.items" oB:=by
 intro l s G H x D v E Q I B A h;obtain⟨d,c,rfl,rfl,e,q⟩:=h;cases B;cases A
 obtain⟨z,y,F,r,o,C,m,i,j,w,K,J⟩:=(show ObjOk X.prog X.w H s.heap d (.dT c) from e.ok I.hok)
 have x:DE s.heap d C m:=⟨o,i,j,w⟩
 refine call_meetsIn PySem.F.slot_dict_items x.ty PySem.F.entry_dict_items (PySem.F.args_dict_items_1 _) (ul y) ⟨x,?_⟩;refine⟨.ref s.heap.objs.size,_,I.laid (t':=s.toks) (a:=s.heap.objs.size) (o:=.ext (IV s.heap.objs.size d)) (λb u e=>Heap.get?_push_of_some _ e) (Nat.le_refl _) ?_,rfl,q _ (I.hok.fresh (Nat.le_refl _))⟩;have g:(s.heap.push { cls:=.type "dict_items",data:=.fields #[.ref d] }).get? s.heap.objs.size=some { cls:=.type "dict_items",data:=.fields #[.ref d] }:=Heap.get?_push_size _ rfl;exact⟨⟨_,g,rfl,rfl⟩,⟨_,g⟩,λi j ⟨f,n,r⟩ k=>⟨f,k f n,r⟩⟩
theorem rA{C:List Expr}{F:Nat}{c:Pos}{n:TE}(G:PE X e n):PI X (.Tuple C F c) e (λσ H R=>n σ H λx H1=>∃ v d kvs,x=.ref v/\H1 v=some (.ext (IV v d))/\Rd H1 d (.dT kvs)/\∀ o,R (Iti d o kvs) (upd H1 d (.frz o (.dT kvs)))):=by
 intro f s σ H R I h;refine thn (G f s σ H _ I h) λu a ⟨x,H1,j,B,v,d,kvs,A,E,r,q⟩=>?_
 subst A;obtain rfl:u=Value.ref v:=B
 obtain⟨o,ho⟩:∃ o,a.heap.get? d=some o:=by
  obtain⟨_,_,w,_,o,_,_,g,_⟩:=(show ObjOk X.prog X.w H1 a.heap d (.dT kvs) from r.ok j.hok)
  exact⟨o,g⟩
 have y:a.heap.IsItemsView v d:=(show ObjOk X.prog X.w H1 a.heap v (.ext (IV v d)) from j.hok v _ E).1;have i:=j.freeze r ho;obtain⟨w,L,M,k,J,D,m,K,N⟩:=nK i.hok ad;have l:L.size=kvs.length:=by rw[size_of_entries K,Paired.length k]
 refine sZ y ⟨o,J,D,m⟩ ?_;refine⟨a.heap.objs.size,[a.heap.objs.size],_,_,_,rfl,i.kept (t':=a.toks) λb o e=>Heap.get?_push_of_some _ e,nZ m l,⟨_,_,Heap.get?_push_size _ rfl⟩,λb hb=>?_,q o⟩;have e:b=a.heap.objs.size:=mem_singleton.mp hb;subst e;exact i.fpOk (Nat.le_refl _) (i.hok.fresh (Nat.le_refl _))
end
theorem pK{d:Addr}{o:Obj}{a:List (List Key×V)}{g:TG}{j:TS}{D:Ends}{c:St}{H:Hp}(Pv:Nat->St->Hp->Prop)(v:Pv 0 c H)(u:∀ i c H,Pv i c H->H d=some (.frz o (.dT a)))
  (n:∀(i:Nat) kv b c H p,a[i]? = some kv->H b=some (.tup (kv.1.map kV))->Pv i c H->H p=none->g (.ref p) c (upd H p (.tup [.ref b,kv.2])) λσ2 H2=>j { D with nx:=Pv (i+1),ct:=Pv (i+1),bk:=D.nx } σ2 H2) (l:∀ c H,Pv a.length c H->D.nx c H) :
  ∃ W:Nat->Nat->St->Hp->Prop,(∃ m,W 0 m c H)/\∀ i m c H,W i m c H ->
   ((Iti d o a).stop i H/\D.nx c H)\/((Iti d o a).go i H/\∃ N:St->Hp->Prop,(∀ σ' H',N σ' H'->∃ m',m'<m/\W (i+1) m' σ' H')/\∀ x H',(Iti d o a).yld i H x H'->g x c H' λσ2 H2=>j { D with nx:=N,ct:=N,bk:=D.nx } σ2 H2):=by
 refine⟨λi m c H=>m=a.length - i/\i<=a.length/\Pv i c H,⟨_,rfl,Nat.zero_le _,v⟩,?_⟩;rintro i m c H ⟨rfl,A,p⟩;have q:=u i c H p
 by_cases hlt:i<a.length
 .refine .inr ⟨⟨q,hlt⟩,Pv (i+1),λσ' H' k=>⟨_,by lia,rfl,hlt,k⟩,λx H' y=>?_⟩
  obtain⟨b,r,kv,w,f,rfl,h,rfl⟩:=y;exact n i kv r c H b f h p w
 .have e:i=a.length:=by lia
  subst e;exact .inl ⟨⟨q,Nat.le_refl _⟩,l c H p⟩
section
variable {X:Cx}{o e:Expr}{to:TE}{apos cpos:Pos}
theorem pe_m.itemsR(r:PE X o to)(c:attributeBase o "items" X.env (eval o X.env)=eval o X.env:=by rfl)(f:(apos.endLine == cpos.line)=true:=by rfl) :
  PE X (.Call (.Attribute o "items" apos) [] [] cpos) (λσ H Q=>to σ H λx H1=>oB x [] H1 Q):=by
 intro b s σ H Q I h;refine wpAny_Call_method0_late c f (thn (r b s σ H _ I h) λv i ⟨x,H1,l,m,k⟩=>?_);obtain⟨d,j,rfl,w,n,q⟩:=id k
 obtain⟨ob,e1,g⟩:∃ ob,i.heap.get? d=some ob/\ob.ExactDict:=by
  obtain⟨_,_,_,_,o,_,_,e,g,_⟩:=(show ObjOk X.prog X.w H1 i.heap d (.dT j) from n.ok l.hok)
  exact⟨o,e,g⟩
 cases(show v=Value.ref d from m);exact⟨"dict","dict.items",F.plainAttrs_dict,F.slot_dict_items,F.type_dict_items,⟨ob,e1,g.1⟩,λa u=>by cases u;exact⟨ob,e1,g.2.1⟩,Calls.callWith_builtin rfl (PySem.evalArgs_none (pL b i σ H1 _ [] _ [] Q l m .nil k))⟩
end
end L2
namespace L2
open PySem PySem.Spec PyProof.Rows
section
variable {X:Cx}{a b c d:Expr}{ta tb tc td:TE}{pos:Pos}
end
section
variable {X:Cx}{o e:Expr}{es:List Expr}{to:TE}{t:TA}{apos cpos:Pos}
theorem pe_m.extend(f:PE X o to)(g:PA X (e::es) t)(b:attributeBase o "extend" X.env (eval o X.env)=eval o X.env:=by rfl)
  (d:((backTo cpos (starEach (e::es) X.env)).all (λx=>!x.1) && (backToKw cpos (keywordEach [] X.env)).all (λx=>x.1.isSome) && decide ((e::es).length+([]:List Keyword).length+(if ([]:List Keyword).isEmpty then 0 else 1)<30))=true:=by rfl)
  (c:(apos.endLine == cpos.line)=true:=by rfl) (h:starEach (e::es) X.env=(false,eval e X.env)::starEach es X.env:=by rfl) (a:(backTo cpos (starEach es X.env)).any (·.1)=false:=by rfl) :
  PE X (.Call (.Attribute o "extend" apos) (e::es) [] cpos) (tBM X.K "list" oQ to t):=oJ F.plainAttrs_list F.slot_list_extend F.type_list_extend qk f g b d c h a
end
end L2
namespace L2
open PySem PySem.Spec PyProof.Rows PySem.W
section
variable {X:Cx}
theorem qB(D:X.calm=true):CallR X (.builtin "min") (λxs H Q=>∃(p:Addr) (ns:List Int),xs=[.ref p]/\SqL X.K H p (ns.map V.int)/\0<ns.length/\∀ m∈ns,(∀ x∈ns,m<=x)->Q (.int m) H):=by
 intro f s G H xs F Q I r h;obtain⟨p,ns,rfl,y,c,q⟩:=h;obtain⟨u,rfl,A⟩:=di r;cases A;obtain⟨l,n,E,M⟩:=I.list y;have g:=dO n;obtain⟨b,e⟩:=g.allInts.items;have a:ns=b.toList.map (·.1):=by rw[<- g.numsOf,<- nums_intItems,<- e]
 have d:0<b.size:=by have i:=c;rw[a,length_map,Array.length_toList]at i;exact i
 refine min_intList (I.ok.hd D) (xs:=b) (by rw[<- e];exact E.isList) d λv K J B o=>?_
 obtain⟨t,rfl⟩:=intItems_at B;obtain⟨L,w⟩:=argBest_lt (numAt b) (b.size - 1);refine⟨.int _,H,I.kept o,⟨_,rfl⟩,q _ ?_ λx k=>?_⟩
 .rw[a,numAt_eq];exact getD_mem (by rw[length_map,Array.length_toList];lia)
 .rw[a]at k
  obtain⟨j,C,rfl⟩:=mem_getD k;rw[length_map,Array.length_toList]at C;rw[<- numAt_eq];exact w j (by lia)
theorem pO(D:X.calm=true):CallR X (.builtin "max") (λxs H Q=>∃(p:Addr) (ns:List Int),xs=[.ref p]/\SqL X.K H p (ns.map V.int)/\0<ns.length/\∀ m∈ns,(∀ x∈ns,x<=m)->Q (.int m) H):=by
 intro f s G H xs F Q I r h;obtain⟨p,ns,rfl,y,c,q⟩:=h;obtain⟨u,rfl,A⟩:=di r;cases A;obtain⟨l,n,E,M⟩:=I.list y;have g:=dO n;obtain⟨b,e⟩:=g.allInts.items;have a:ns=b.toList.map (·.1):=by rw[<- g.numsOf,<- nums_intItems,<- e]
 have d:0<b.size:=by have i:=c;rw[a,length_map,Array.length_toList]at i;exact i
 refine max_intList (I.ok.hd D) (xs:=b) (by rw[<- e];exact E.isList) d λv K J B o=>?_
 obtain⟨t,rfl⟩:=intItems_at B;obtain⟨L,w⟩:=argBest_gt (numAt b) (b.size - 1);refine⟨.int _,H,I.kept o,⟨_,rfl⟩,q _ ?_ λx k=>?_⟩
 .rw[a,numAt_eq];exact getD_mem (by rw[length_map,Array.length_toList];lia)
 .rw[a]at k
  obtain⟨j,C,rfl⟩:=mem_getD k;rw[length_map,Array.length_toList]at C;rw[<- numAt_eq];exact w j (by lia)
end
def byT(w:World):Bool:=w.params.followText "set-order"
theorem ij:entryFor table "set.__iter__" = some Builtin.«frozenset.__iter__»:=entryFor_alias (id' := "frozenset.__iter__") (by kernel_rfl) rfl (by decide +kernel) (by kernel_rfl)
theorem dH:Manifest.owners.lookup (String.ofList ['r', 'o', 't', 'a', 'r', 'e', 't', 'i', '_', 't', 'e', 's'].reverse)=some Manifest.sig_set_iterator:=by kernel_rfl
theorem slot_set_iterator_next':Slot "set_iterator" "__next__" "set_iterator.__next__" :=
 .of (owner := "set_iterator") (n := "__next__") (by rw[typeLookup_type,builtinLookup_eq_fast];kernel_rfl) (by decide +kernel) (by decide +kernel) (by decide +kernel)
  (by first | exact .inl (by decide +kernel) | exact .inr (by decide +kernel)) (by rw[isSubtype_type];kernel_rfl)
theorem cL:entryFor table "set_iterator.__next__" = some Builtin.«set_iterator.__next__»:=entryFor_of_tree (by kernel_rfl)
theorem cZ(a:Value):argsOk "set_iterator.__next__" ⟨[a],[]⟩:=by
 unfold argsOk;rw[signature?_of (id := "set_iterator.__next__") (n:=['_', '_', 't', 'x', 'e', 'n', '_', '_']) (o:=['r', 'o', 't', 'a', 'r', 'e', 't', 'i', '_', 't', 'e', 's']) (by kernel_rfl) dH];kernel_rfl
theorem da:Slot "set_iterator" "__iter__" "set_iterator.__iter__" :=
 .of (owner := "set_iterator") (n := "__iter__") (by rw[typeLookup_type,builtinLookup_eq_fast];kernel_rfl) (by decide +kernel) (by decide +kernel) (by decide +kernel)
  (by first | exact .inl (by decide +kernel) | exact .inr (by decide +kernel)) (by rw[isSubtype_type];kernel_rfl)
theorem eC:entryFor table "set_iterator.__iter__" = some Builtin.«dict_keyiterator.__iter__»:=entryFor_alias (id' := "dict_keyiterator.__iter__") (by kernel_rfl) rfl (by decide +kernel) (by kernel_rfl)
theorem eI(a:Value):argsOk "set_iterator.__iter__" ⟨[a],[]⟩:=by
 unfold argsOk;rw[signature?_of (id := "set_iterator.__iter__") (n:=['_', '_', 'r', 'e', 't', 'i', '_', '_']) (o:=['r', 'o', 't', 'a', 'r', 'e', 't', 'i', '_', 't', 'e', 's']) (by kernel_rfl) dH];kernel_rfl
def IsSI(h:Heap)(I a:Addr)(sl i n ep:Nat):Prop:=∃ o,h.get? I=some o/\o.cls=.type "set_iterator" /\ o.data=.fields #[.int (sl:Nat) 0,.int (i:Nat) 0,.ref a,.int (n:Nat) 0,.int (ep:Nat) 0]
section
variable {prog:Program}{w:World}{A:Around}{E:Value->Shared->Prop}{s:Shared}{a I:Addr}{m ep mv:Nat}{tok:Nat->Nat}
theorem mZ{Q:Bool->Shared->Prop}(q:Q (byT w) s):wpAny (model prog w) A setsByText Q E s:=by
 unfold setsByText;exact wpAny_bind (wpAny_askSetting (wpAny_pure q))
theorem o8(next:Nat->Nat){c:Type}:∀(n k:Nat) (l:List c) (out:Array c),l.length=n->(pickOrder.go next n k l out).toList.Perm (out.toList++l)
 | 0,k,l,out,h=>by
  have:l=[]:=List.length_eq_zero_iff.mp h;subst this;rw[pickOrder.go,append_nil]
 | n+1,k,l,out,h=>by
  rw[pickOrder.go];have b:next k % l.length<l.length:=Nat.mod_lt _ (by lia);rw[List.getElem?_eq_getElem b];dsimp only;have d:=o8 next n (k+1) (l.eraseIdx (next k % l.length)) (out.push l[next k % l.length]) (by rw[List.length_eraseIdx_of_lt b];lia);refine d.trans ?_;rw[Array.toList_push,append_assoc];refine List.Perm.append_left _ ?_;rw[List.eraseIdx_eq_take_drop_succ];have e:l=l.take (next k % l.length)++l[next k % l.length]::l.drop (next k % l.length+1):=by rw[<- List.drop_eq_getElem_cons b,List.take_append_drop]
  refine List.Perm.trans ?_ (List.Perm.of_eq e.symm);rw[List.singleton_append];exact(perm_middle (a:=l[next k % l.length])).symm
end
section
variable {prog:Program}{w:World}{A:Around}{E:Value->Shared->Prop}{s:Shared}{a I:Addr}{m ep mv:Nat}{tok:Nat->Nat}
theorem IsSI.at{h h':Heap}{b i n:Nat}(x:IsSI h I a b i n ep)(e:∀ o,h.get? I=some o->h'.get? I=some o):IsSI h' I a b i n ep:=let ⟨o,ho,r⟩:=x;⟨o,e _ ho,r⟩
theorem uL{e i n:Nat}{Q:Value->Shared->Prop}(st:IsSI s.heap I a e i n ep)(q:Q (.ref I) s):wpAny (model prog w) A (pyIter (.ref I)) Q E s:=by
 obtain⟨d,f,c,g⟩:=st;have b:s.TypeIs (.ref I) "set_iterator" := ⟨d,f,c⟩;refine wpAny_pyIter_slot b da (wpAny_call_entry da b eC ?_ (eI _));show wpAny _ _ (ret (.ref I)) _ _ s;exact wpAny_pure ⟨_,rfl, "set_iterator",_,b,slot_set_iterator_next'.lookup,q⟩
theorem rW{Q:Bool->Shared->Prop}(d:s.TypeIs (.ref a) "set")(h:Q false s):wpAny (model prog w) A (Builtin.List.listLengthHint (.ref a)) Q E s:=by
 unfold Builtin.List.listLengthHint;refine wpAny_bind (wpAny_specialOf d PySem.F.slot_set_len.lookup ?_);generalize hid:("set.__len__" : String)=id0
 wp_delta
 rw[show splitId id0=some ("set","__len__") from by subst hid;decide +kernel];subst hid;refine wpAny_bind (wpAny_isInstance (T := "set") (b:=true) d (by rw[isSubtype_type];kernel_rfl) ?_);refine wpAny_ite_split (λc=>absurd c (by decide)) (λ_=>?_);refine wpAny_ite_split (λ_=>?_) (λc=>absurd (by decide +kernel) c)
 first | (refine wpAny_bind (wpAny_typeOf d ?_);exact wpAny_pure h) | exact wpAny_pure h
end
section
variable {prog:Program}{w:World}{A:Around}{E:Value->Shared->Prop}{s:Shared}{a:Addr}{m ep mv:Nat}{tok:Nat->Nat}
theorem gE{es':Array (Int×Value)}{t':SetTable}{es:Array (Int×Value)}{t:SetTable}{o:Obj}(c:s.heap.get? a=some o)(b:o.data=.set es ep t):(s.heap.update a (Obj.putSet es' t')).get? a=some { o with data:=.set es' (ep+1) t' }:=by
 have:=Heap.get?_update_self (Obj.putSet es' t') c (by rw[putSet_of es' t' b];rfl);rw[putSet_of es' t' b]at this;exact this
end
section
variable {prog:Program}{w:World}{A:Around}{R:Result->Shared->Prop}{I:Addr}{fp wr:List Addr}{G:Array GenState->Array GenState->Prop}{n:Nat}{P:Nat->Value->Prop}{St:Nat->Shared->Prop}
end
section
variable {prog:Program}{w:World}{A:Around}{E:Value->Shared->Prop}{s:Shared}
theorem ri(a:Value){Q₁:Value->Shared->Prop}(h:Q₁ (.ref s.heap.objs.size) { s with heap:=s.heap.push { cls:=.type "set",dict:=none,data:=.set #[] 0 (.fresh 0 0 (!byT w)) } }) :
  codeAny (model prog w) A (.call (.builtin "set.__new__") ⟨[.type "set",a],[]⟩) (wants Q₁ E) s:=by
 refine codeAny_of_tree ?_;show wpAny _ A.in1 (do checkBuiltinCall "set.__new__" ⟨[.type "set",a],[]⟩;again (.builtin "set.__new__" ⟨[.type "set",a],[]⟩)) _ _ s;refine wpAny_bind (wpAny_of_eq (F.newCall_set_1 a) (wpAny_pure ⟨plainId_quiet F.plain_set_new _,codeAny_builtin F.entry_set_new ?_⟩));rw[Around.under_plainId F.plain_set_new _];unfold Builtin.«set.__new__» Builtin.Frozenset.newClass;have b:isSubtype (.type "set") (.type "set")=pure true:=by rw[isSubtype_type];kernel_rfl
 obtain⟨f,g,d,e,c⟩:=s;dsimp only;wp_walk;refine wpAny_askSetting (wpAny_pure ?_);dsimp only;simp only[newObj];refine wpAny_bind (wpAny_alloc (wpAny_pure ?_));exact wpAny_pure h
end
end L2
namespace SetM
open PySem PySem.SetTable
structure Bl(xs:Array Nat)(j r:Nat):Prop where
 le:r<=xs.size
 lo:∀ i v,i<r->xs[i]? = some v->v<j
 hi:∀ i v,r<=i->xs[i]? = some v->j<=v
theorem lj{xs:List Nat}(h:xs.Pairwise (· < ·)){i k u v:Nat}(a:i<k)(e:xs[i]? = some u)(c:xs[k]? = some v):u<v:=by
 obtain⟨b,rfl⟩:=List.getElem?_eq_some_iff.mp e;obtain⟨d,rfl⟩:=List.getElem?_eq_some_iff.mp c;exact List.pairwise_iff_getElem.mp h i k b d a
theorem ji{xs:Array Nat}{j:Nat}(l:xs.toList.Pairwise (· < ·)):∀(fuel lo hi:Nat),hi - lo<=fuel->lo<=hi->hi<=xs.size->(∀ i v,i<lo->xs[i]? = some v->v<j)->(∀ i v,hi<=i->xs[i]? = some v->j<=v)->Bl xs j (below.go xs j fuel lo hi)
 | 0,lo,hi,hf,h1,h2,hl,hh=>by
  have e:lo=hi:=by omega
  subst e;exact⟨h2,hl,hh⟩
 | fuel+1,lo,hi,hf,h1,h2,hl,hh=>by
  unfold below.go
  by_cases c:lo<hi
  .rw[if_pos c]
   have m:(lo+hi)/2<xs.size:=by omega
   have b:xs[(lo+hi)/2]? = some xs[(lo+hi)/2]:=Array.getElem?_eq_getElem m;have f:∀{i k u v:Nat},i<k->xs[i]? = some u->xs[k]? = some v->u<v:=λg n a=>lj l g (by rw[Array.getElem?_toList];exact n) (by rw[Array.getElem?_toList];exact a)
   dsimp only
   by_cases d:xs.getD ((lo+hi)/2) j<j
   .rw[if_pos d]
    rw[Array.getD_eq_getD_getElem?,b]at d;refine ji l fuel _ _ (by omega) (by omega) h2 (λi v h a=>?_) hh
    rcases Nat.lt_or_ge i ((lo+hi)/2) with z | z
    .exact Nat.lt_trans (f z a b) d
    .have e:i=(lo+hi)/2:=by omega
     subst e;rw[b]at a;cases a;exact d
   .rw[if_neg d]
    rw[Array.getD_eq_getD_getElem?,b]at d;refine ji l fuel _ _ (by omega) (by omega) (by omega) hl (λi v h a=>?_)
    rcases Nat.lt_or_ge ((lo+hi)/2) i with z | z
    .have:=f z b a
     have o:¬xs[(lo+hi)/2]<j:=d;omega
    .have e:i=(lo+hi)/2:=by omega
     subst e;rw[b]at a;cases a;exact Nat.le_of_not_lt d
  .rw[if_neg c]
   have e:lo=hi:=by omega
   subst e;exact⟨h2,hl,hh⟩
theorem i3{xs:Array Nat}(j:Nat)(a:xs.toList.Pairwise (· < ·)):Bl xs j (below xs j):=by
 unfold below;exact ji a _ _ _ (by omega) (Nat.zero_le _) (Nat.le_refl _) (λi v h=>absurd h (Nat.not_lt_zero i)) (λi v h hv=>by have:=(Array.getElem?_eq_some_iff.mp hv).1;omega)
theorem oW(j:Nat):has #[] j=false:=by
 unfold has;simp
structure TokS(t:SetTable)(n:Nat):Prop where
 sz:t.place.size=n
 nd:t.dummies = #[]
 up:t.place.toList.Pairwise (· < ·)
 ms:t.mask=7\/t.mask=31\/t.mask=127
 le:∀ v∈t.place.toList,v<=t.mask
 few:n*5<t.mask*3
theorem jQ{t:SetTable}{j i:Nat}(h:t.slot j=.live i):t.place[i]? = some j:=by
 unfold slot at h;dsimp only at h
 split at h
 .rename_i c
  cases h;exact eq_of_beq c
 .split at h <;> cases h
theorem iO{t:SetTable}(a:t.dummies = #[]){j:Nat}:t.slot j≠.dummy:=by
 unfold slot;dsimp only;rw[a,oW]
 split
 .intro h;cases h
 .intro h;cases h
theorem o7:∀{l m:List Nat},l.Nodup->(∀ x∈l,x∈m)->l.length<=m.length
 | [],m,_,_=>Nat.zero_le _
 | x::l,m,nd,h=>by
  obtain⟨c,d⟩:=nodup_cons.mp nd;have a:=h x mem_cons_self;have:=o7 (l:=l) (m:=m.erase x) d λy b=>(List.mem_erase_of_ne λe=>c (by rw[<- e];exact b)).mpr (h y (mem_cons_of_mem _ b))
  rw[List.length_erase_of_mem a]at this;have f:0<m.length:=List.length_pos_of_mem a;rw[length_cons];omega
theorem wn{l:List Nat}{N:Nat}(h:l.length<N):∃ e,e<N/\e ∉ l:=by
 apply Classical.byContradiction;intro a;have:=o7 (l:=List.range N) (m:=l) List.nodup_range λx b=>Classical.byContradiction λn=>a ⟨x,mem_range.mp b,n⟩
 rw[length_range]at this;omega
theorem sd{t:SetTable}{n:Nat}(h:TokS t n):∃ e,e<=t.mask/\t.slot e=.empty:=by
 have b:t.place.toList.length<t.mask+1:=by rw[Array.length_toList,h.sz];have:=h.few;omega
 obtain⟨e,c,a⟩:=wn b;refine⟨e,by omega,?_⟩;cases hs:t.slot e with
 | empty=>rfl
 | dummy=>exact absurd hs (iO h.nd)
 | live i=>exact absurd (List.mem_of_getElem? (by rw[Array.getElem?_toList];exact jQ hs)) a
def orb(M:Nat):Nat->Nat->Nat
 | 0,i=>i
 | n+1,i=>orb M n ((i*5+1) % M)
theorem iA(M:Nat):∀(n k i:Nat),orb M (n+k) i=orb M k (orb M n i)
 | 0,k,i=>by rw[Nat.zero_add];rfl
 | n+1,k,i=>by rw[Nat.add_right_comm];show orb M (n+k) _=_;rw[iA M n k];rfl
theorem yV:∀ e,e<8->∃ m,m<8/\orb 8 m 0=e:=by decide +kernel
theorem xN:∀ e,e<32->∃ m,m<32/\orb 32 m 0=e:=by decide +kernel
theorem v5:∀ e,e<128->∃ m,m<128/\orb 128 m 0=e:=by decide +kernel
theorem vX:orb 8 8 0=0/\orb 32 32 0=0/\orb 128 128 0=0:=by decide +kernel
theorem tw{M:Nat}(h:M=8\/M=32\/M=128){i e:Nat}(j:i<M)(g:e<M):∃ m,m<=M/\orb M m i=e:=by
 have H:(∀ e,e<M->∃ m,m<M/\orb M m 0=e)/\orb M M 0=0:=by
  rcases h with rfl | rfl | rfl
  .exact⟨yV,vX.1⟩
  .exact⟨xN,vX.2.1⟩
  .exact⟨v5,vX.2.2⟩
 obtain⟨a,k,f⟩:=H.1 i j;obtain⟨b,l,d⟩:=H.1 e g
 by_cases c:a<=b
 .refine⟨b - a,by omega,?_⟩
  rw[<- f,<- iA,show a+(b - a)=b by omega,d]
 .refine⟨M - a+b,by omega,?_⟩
  rw[<- f,<- iA,show a+(M - a+b)=M+b by omega,iA,H.2,d]
def lps(mask:Nat):Nat->Nat×Nat->Nat×Nat
 | 0,p=>p
 | n+1,p=>lps mask n (leap mask p.1 p.2)
theorem ou(mask:Nat):∀(n k:Nat) (p:Nat×Nat),lps mask (n+k) p=lps mask k (lps mask n p)
 | 0,k,p=>by rw[Nat.zero_add];rfl
 | n+1,k,p=>by rw[Nat.add_right_comm];show lps mask (n+k) _=_;rw[ou mask n k];rfl
theorem sX(mask:Nat):∀(n:Nat) (p:Nat×Nat),(lps mask n p).2=p.2/32 ^ n
 | 0,p=>by rw[Nat.pow_zero,Nat.div_one];rfl
 | n+1,p=>by
  show(lps mask n (leap mask p.1 p.2)).2=_;rw[sX mask n,Nat.pow_succ,Nat.mul_comm,<- Nat.div_div_eq_div_mul];rfl
theorem sK{mask:Nat}:∀{n:Nat}{p:Nat×Nat},p.1<=mask->(lps mask n p).1<=mask
 | 0,p,h=>h
 | n+1,p,h=>sK (n:=n) (p:=leap mask p.1 p.2) (Nat.le_of_lt_succ (Nat.mod_lt _ (Nat.succ_pos mask)))
theorem mL{mask:Nat}:∀(n i:Nat),(lps mask n (i,0)).1=orb (mask+1) n i
 | 0,i=>rfl
 | n+1,i=>by
  show(lps mask n ((i*5+1+0/32) % (mask+1),0/32)).1=orb (mask+1) n ((i*5+1) % (mask+1));rw[Nat.zero_div,Nat.add_zero];exact mL n _
theorem pA{mask:Nat}(j:mask=7\/mask=31\/mask=127){i pt e:Nat}(c:i<=mask)(b:pt<2 ^ 64)(h:e<=mask):∃ n,n<=14+mask/\(lps mask n (i,pt)).1=e:=by
 have d:(lps mask 13 (i,pt)).2=0:=by
  rw[sX];exact Nat.div_eq_of_lt (Nat.lt_trans b (by decide))
 have f:(lps mask 13 (i,pt)).1<=mask:=sK c;obtain⟨m,g,a⟩:=tw (M:=mask+1) (by omega) (i:=(lps mask 13 (i,pt)).1) (e:=e) (by omega) (by omega);refine⟨13+m,by omega,?_⟩;rw[ou,show lps mask 13 (i,pt)=((lps mask 13 (i,pt)).1,0) from Prod.ext rfl d,mL];exact a
def adv(t:SetTable):Nat->Probe->Probe
 | 0,p=>p
 | n+1,p=>adv t n (t.advance p)
theorem kQ(t:SetTable):∀(n k:Nat) (p:Probe),adv t (n+k) p=adv t k (adv t n p)
 | 0,k,p=>by rw[Nat.zero_add];rfl
 | n+1,k,p=>by rw[Nat.add_right_comm];show adv t (n+k) _=_;rw[kQ t n k];rfl
structure Rd(t:SetTable)(p:Probe):Prop where
 j:p.j=p.i
 m:p.more=runEnd t.mask p.i - p.i
 d:p.dummy=none
theorem oY(t:SetTable):∀(m:Nat) (p:Probe),p.more=m->adv t (m+1) p={ p with j:=(leap t.mask p.i p.perturb).1,more:=runEnd t.mask (leap t.mask p.i p.perturb).1 - (leap t.mask p.i p.perturb).1,i:=(leap t.mask p.i p.perturb).1,perturb:=(leap t.mask p.i p.perturb).2 }
 | 0,p,h=>by
  show t.advance p=_;unfold advance;rw[h,if_neg (by decide)]
 | m+1,p,h=>by
  show adv t (m+1) (t.advance p)=_;have e:t.advance p={ p with j:=p.j+1,more:=p.more - 1 }:=by unfold advance;rw[if_pos (by rw[h];exact Nat.succ_pos m)]
  rw[e,oY t m _ (by show p.more - 1=m;omega)]
theorem wQ(mask i:Nat):runEnd mask i - i<=9:=by unfold runEnd;split <;> omega
theorem oX(t:SetTable):∀(n:Nat) (p:Probe),Rd t p->∃ k,k<=10*n/\(adv t k p).j=(lps t.mask n (p.i,p.perturb)).1/\Rd t (adv t k p)
 | 0,p,h=>⟨0,Nat.le_refl _,h.j,h⟩
 | n+1,p,h=>by
  have e:=oY t p.more p rfl;obtain⟨k,c,a,b⟩:=oX t n (adv t (p.more+1) p) (by rw[e];exact⟨rfl,rfl,h.d⟩);have:=wQ t.mask p.i;have d:=h.m;refine⟨p.more+1+k,by omega,?_,by rw[kQ];exact b⟩;rw[kQ,a,e];rfl
theorem oS(h:Int):bits h<2 ^ 64:=by
 unfold bits;have b:=Int.emod_nonneg h (show(2 ^ 64:Int)≠0 by decide);have a:=Int.emod_lt_of_pos h (show(0:Int)<2 ^ 64 by decide);have:((2 ^ 64:Nat):Int)=(2 ^ 64:Int):=by decide
 omega
theorem qV(t:SetTable)(h:Int):Rd t (t.probeStart h):=⟨rfl,rfl,rfl⟩
def Ends(t:SetTable)(k:Nat)(p:Probe):Prop:=t.slot (adv t k p).j=.empty
theorem iK{t:SetTable}{n:Nat}(T:TokS t n)(h:Int):∃ k,k<10*turns t.mask/\Ends t k (t.probeStart h):=by
 obtain⟨e,b,d⟩:=sd T;obtain⟨m,f,a⟩:=pA T.ms (i:=(t.probeStart h).i) (pt:=(t.probeStart h).perturb) (e:=e) (Nat.le_of_lt_succ (Nat.mod_lt _ (Nat.succ_pos _))) (oS h) b;obtain⟨k,g,c,_⟩:=oX t m (t.probeStart h) (qV t h);refine⟨k,by unfold turns;omega,?_⟩;unfold Ends;rw[c,a];exact d
structure Pin(t:SetTable)(p:Probe):Prop where
 j:p.j+p.more<=t.mask
 d:p.dummy=none
theorem gX{mask i:Nat}(h:i<=mask):i<=runEnd mask i/\runEnd mask i<=mask:=by unfold runEnd;split <;> omega
theorem jS(t:SetTable)(h:Int):Pin t (t.probeStart h):=by
 have a:bits h % (t.mask+1)<=t.mask:=Nat.le_of_lt_succ (Nat.mod_lt _ (Nat.succ_pos _));have:=gX a;exact⟨by show bits h % (t.mask+1)+(runEnd t.mask (bits h % (t.mask+1)) - bits h % (t.mask+1))<=t.mask;omega,rfl⟩
theorem oH{t:SetTable}{p:Probe}(h:Pin t p):Pin t (t.advance p):=by
 unfold advance
 split
 .rename_i c
  exact⟨by show p.j+1+(p.more - 1)<=t.mask;have:=h.j;omega,h.d⟩
 .have a:(leap t.mask p.i p.perturb).1<=t.mask:=Nat.le_of_lt_succ (Nat.mod_lt _ (Nat.succ_pos _))
  have:=gX a;exact⟨by show(leap t.mask p.i p.perturb).1+(runEnd t.mask (leap t.mask p.i p.perturb).1 - (leap t.mask p.i p.perturb).1)<=t.mask;omega,h.d⟩
inductive Out(t:SetTable)(hashAt:Nat->Int)(h:Int)(k:Nat):Option Met->Prop
 | empty (j:Nat) (hj:j<=t.mask) (hs:t.slot j=.empty):Out t hashAt h k (some (.empty j none))
 | cand (j i k':Nat) (next:Probe) (hs:t.slot j=.live i) (hh:hashAt i=h) (hk:k'<k) (he:Ends t k' next) (hp:Pin t next):Out t hashAt h k (some (.candidate j i next))
theorem Out.mono{t:SetTable}{hashAt:Nat->Int}{h:Int}{k a:Nat}{o:Option Met}(b:k<=a)(x:Out t hashAt h k o):Out t hashAt h a o:=by
 cases x with
 | empty j hj hs=>exact .empty j hj hs
 | cand j i k' next hs hh hk' he hp=>exact .cand j i k' next hs hh (Nat.lt_of_lt_of_le hk' b) he hp
theorem my{t:SetTable}(b:t.dummies = #[]){hashAt:Nat->Int}{h:Int}:∀(fuel k:Nat) (p:Probe),k<fuel->Ends t k p->Pin t p->Out t hashAt h k (probe.go t hashAt h fuel p)
 | 0,k,p,hk,_,_=>absurd hk (Nat.not_lt_zero k)
 | fuel+1,k,p,hk,a,hp=>by
  unfold probe.go;cases hs:t.slot p.j with
  | empty =>
   dsimp only;rw[hp.d];exact .empty _ (by have:=hp.j;omega) hs
  | dummy=>exact absurd hs (iO b)
  | live i =>
   dsimp only;cases k with
   | zero =>
    have a:t.slot p.j=.empty:=a;rw[a]at hs;cases hs
   | succ k =>
    by_cases c:hashAt i == h
    .rw[if_pos c]
     exact .cand _ _ k _ hs (eq_of_beq c) (Nat.lt_succ_self k) a (oH hp)
    .rw[if_neg c]
     exact(my b fuel k _ (by omega) a (oH hp)).mono (Nat.le_succ k)
theorem jP{t:SetTable}(a:t.dummies = #[]){hashAt:Nat->Int}{h:Int}{k:Nat}{p:Probe}(d:k<10*turns t.mask)(b:Ends t k p)(c:Pin t p):Out t hashAt h k (t.probe hashAt h p):=my a _ k p d b c
theorem lG{t:SetTable}{n:Nat}(T:TokS t n)(h:Int):∃ j,j<=t.mask/\t.slot j=.empty/\t.freeSlot h=some (j,false):=by
 obtain⟨k,b,a⟩:=iK T h;have:=jP T.nd (hashAt:=λ_=>h+1) (h:=h) b a (jS t h);unfold SetTable.freeSlot;generalize t.probe (λ_=>h+1) h (t.probeStart h)=o at this;cases this with
 | empty j hj hs=>exact⟨j,hj,hs,rfl⟩
 | cand j i k' next hs hh hk' he' hp=>exact absurd hh (by show ¬h+1=h;omega)
theorem lF{a:Type}(xs:Array a)(p:Nat)(x:a):(insertAt xs p x).toList=xs.toList.take p++x::xs.toList.drop p:=by
 unfold insertAt;simp[Array.toList_extract,List.extract_eq_take_drop];exact take_of_length_le (by rw[length_drop,Array.length_toList];exact Nat.le_refl _)
theorem nT{t:SetTable}{j:Nat}(h:t.slot j=.empty):t.place[below t.place j]?≠some j:=by
 unfold slot at h;dsimp only at h;intro e;rw[if_pos (by rw[e];exact beq_self_eq_true _)]at h;cases h
theorem wZ{t:SetTable}(f:t.place.toList.Pairwise (· < ·)){j:Nat}(r:t.slot j=.empty):(insertAt t.place (below t.place j) j).toList.Pairwise (· < ·):=by
 have B:=i3 j f;have q:=nT r;rw[lF]
 have l:∀ v∈t.place.toList.take (below t.place j),v<j:=λv h=>by
  obtain⟨i,d⟩:=List.getElem?_of_mem h;rw[List.getElem?_take]at d
  split at d
  .rename_i c
   exact B.lo i v c (by rw[<- Array.getElem?_toList];exact d)
  .cases d
 have n:∀ v∈t.place.toList.drop (below t.place j),j<v:=λv h=>by
  obtain⟨i,d⟩:=List.getElem?_of_mem h;rw[List.getElem?_drop,Array.getElem?_toList]at d;have w:=B.hi _ v (Nat.le_add_right _ i) d
  rcases Nat.lt_or_ge j v with c | c
  .exact c
  .have e:v=j:=by omega
   subst e;cases i with
   | zero=>exact absurd d q
   | succ i =>
    have g:below t.place v<t.place.size:=by have:=(Array.getElem?_eq_some_iff.mp d).1;omega
    have o:t.place[below t.place v]? = some t.place[below t.place v]:=Array.getElem?_eq_getElem g;have a:=B.hi _ _ (Nat.le_refl _) o;have b:=lj f (i:=below t.place v) (k:=below t.place v+(i+1)) (by omega) (by rw[Array.getElem?_toList];exact o) (by rw[Array.getElem?_toList];exact d);omega
 rw[List.pairwise_append];refine⟨f.sublist (List.take_sublist _ _),pairwise_cons.mpr ⟨n,f.sublist (List.drop_sublist _ _)⟩,λa m b u=>?_⟩
 rcases mem_cons.mp u with e | e
 .rw[e];exact l a m
 .exact Nat.lt_trans (l a m) (n b e)
theorem ins_perm{a:Type}(xs:Array a)(p:Nat)(x:a):(insertAt xs p x).toList.Perm (x::xs.toList):=by
 rw[lF];refine perm_middle.trans ?_;rw[List.take_append_drop]
theorem ins_size{a:Type}(xs:Array a)(p:Nat)(x:a):(insertAt xs p x).size=xs.size+1:=by
 have:=(ins_perm xs p x).length_eq;rwa [Array.length_toList,length_cons,Array.length_toList]at this
structure TokP(t:SetTable)(n:Nat):Prop where
 sz:t.place.size=n
 nd:t.dummies = #[]
 up:t.place.toList.Pairwise (· < ·)
 ms:t.mask=7\/t.mask=31\/t.mask=127
 le:∀ v∈t.place.toList,v<=t.mask
 few:n<=t.mask
theorem nP{t:SetTable}{n j:Nat}(T:TokS t n)(a:j<=t.mask)(c:t.slot j=.empty):TokP (t.put j).1 (n+1)/\(t.put j).2=below t.place j/\(t.put j).1.mask=t.mask/\(t.put j).1.led=t.led/\(t.put j).1.plain=t.plain/\(t.put j).1.finger=t.finger:=by
 refine⟨⟨?_,?_,wZ T.up c,T.ms,λv b=>?_,?_⟩,rfl,rfl,rfl,rfl,rfl⟩
 .show(insertAt t.place (below t.place j) j).size=n+1
  rw[ins_size,T.sz]
 .show(if has t.dummies j=true then eraseAt t.dummies (below t.dummies j) else t.dummies) = #[]
  rw[T.nd,oW,if_neg (by decide)]
 .rcases mem_cons.mp ((ins_perm t.place _ j).mem_iff.mp b) with e | e
  .rw[e];exact a
  .exact T.le v e
 .show n+1<=t.mask
  have:=T.few;have:=T.ms;omega
theorem TokP.fits{t:SetTable}{n:Nat}(T:TokP t n):t.fits n=true:=by
 unfold SetTable.fits fill;rw[T.sz,T.nd,Bool.and_eq_true];exact⟨beq_self_eq_true n,decide_eq_true (by show n+0<=_;have:=T.few;omega)⟩
theorem TokS.p{t:SetTable}{n:Nat}(T:TokS t n):TokP t n:=⟨T.sz,T.nd,T.up,T.ms,T.le,by have:=T.few;omega⟩
theorem TokP.s{t:SetTable}{n:Nat}(T:TokP t n)(h:t.tooFull=false):TokS t n:=by
 refine⟨T.sz,T.nd,T.up,T.ms,T.le,?_⟩;unfold tooFull fill at h;rw[T.sz,T.nd]at h;have h:decide ((n+0)*5 >= t.mask*3)=false:=h;have:=of_decide_eq_false h;omega
theorem wv{t:SetTable}{n:Nat}(T:TokS t n)(es:Array (Int×Value))(e:es.size=n)(h:Int)(x:Value):∃ j,j<=t.mask/\t.slot j=.empty/\layNew t es h x=(insertAt es (below t.place j) (h,x),(t.put j).1,false,false):=by
 obtain⟨j,b,c,d⟩:=lG T h;refine⟨j,b,c,?_⟩;obtain⟨P,f,_⟩:=nP T b c;unfold layNew;rw[d];dsimp only;have a:(t.put j).1.fits (insertAt es (t.put j).2 (h,x)).size=true:=by rw[ins_size,e];exact P.fits
 rw[SetTable.orStandIn,if_pos a,a,f];rfl
theorem fc{a c:Type}{f g:a->Option c}:∀{l:List a},(∀ x∈l,f x=g x)->l.filterMap f=l.filterMap g
 | [],_=>rfl
 | x::l,h=>by rw[filterMap_cons,filterMap_cons,h x mem_cons_self,fc λy b=>h y (mem_cons_of_mem _ b)]
theorem o0{mask:Nat}{owner:Array (Option Nat)}{e:Nat}(b:owner[e]? = some none):∀(n fuel i pt:Nat),n<fuel->(lps mask n (i,pt)).1=e->i<=mask->∃ j,layClean.free mask owner fuel i pt=some j/\owner[j]? = some none
 | n,0,i,pt,hf,_,_=>absurd hf (Nat.not_lt_zero n)
 | n,fuel+1,i,pt,hf,a,hi=>by
  unfold layClean.free;cases hq:(List.range (runEnd mask i+1 - i)).find? λk=>(owner.getD (i+k) (some 0)).isNone with
  | some k =>
   refine⟨i+k,rfl,?_⟩;have:=List.find?_some hq;rw[Array.getD_eq_getD_getElem?]at this;cases ho:owner[i+k]? with
   | none=>rw[ho]at this;cases this
   | some o =>
    rw[ho]at this;cases o with
    | none=>rfl
    | some v=>cases this
  | none =>
   cases n with
   | zero =>
    have a:i=e:=a;subst a;have:=List.find?_eq_none.mp hq 0 (mem_range.mpr (by have:=(gX hi).1;omega));rw[Nat.add_zero,Array.getD_eq_getD_getElem?,b]at this;exact absurd rfl this
   | succ n =>
    exact o0 b n fuel _ _ (by omega) a (Nat.le_of_lt_succ (Nat.mod_lt _ (Nat.succ_pos _)))
theorem mq{k:Nat}:∀{l:List (Option Nat)}{j:Nat},l[j]? = some none->((l.set j (some k)).filterMap id).Perm (k::l.filterMap id)
 | [],j,h=>by cases h
 | x::l,0,h=>by
  have e:x=none:=Option.some.inj h;subst e;exact .refl _
 | x::l,j+1,h=>by
  have a:=mq (k:=k) (l:=l) (j:=j) h;rw[List.set_cons_succ];cases x with
  | none=>exact a
  | some v=>exact(a.cons v).trans (.swap k v _)
theorem lR:∀{l:List (Option Nat)},(∀ x∈l,x≠none)->(l.filterMap id).length=l.length
 | [],_=>rfl
 | none::l,h=>absurd rfl (h none mem_cons_self)
 | some v::l,h=>by
  show((l.filterMap id).length+1)=_;rw[lR λx a=>h x (mem_cons_of_mem _ a)];rfl
structure Ow(mask:Nat)(owner:Array (Option Nat))(k:Nat):Prop where
 sz:owner.size=mask+1
 pm:(owner.toList.filterMap id).Perm (List.range k)
theorem Ow.free{mask:Nat}{owner:Array (Option Nat)}{k:Nat}(h:Ow mask owner k)(d:k<=mask):∃ e,e<=mask/\owner[e]? = some none:=by
 apply Classical.byContradiction;intro b
 have:(owner.toList.filterMap id).length=owner.toList.length:=lR λx c e=>by
  subst e;obtain⟨i,a⟩:=List.getElem?_of_mem c;rw[Array.getElem?_toList]at a;have:=(Array.getElem?_eq_some_iff.mp a).1;exact b ⟨i,by have:=h.sz;omega,a⟩
 rw[h.pm.length_eq,length_range,Array.length_toList,h.sz]at this;omega
def mf(mask:Nat)(acc:Option (Array (Option Nat)×Nat))(h:Int):Option (Array (Option Nat)×Nat):=do
 let (owner,k) <- acc
 let j <- layClean.free mask owner (turns mask) (bits h % (mask+1)) (bits h)
 pure (owner.setIfInBounds j (some k),k+1)
theorem tE{mask:Nat}(g:mask=7\/mask=31\/mask=127){owner:Array (Option Nat)}{k:Nat}(h:Ow mask owner k)(i:k<=mask)(x:Int):∃ owner',mf mask (some (owner,k)) x=some (owner',k+1)/\Ow mask owner' (k+1):=by
 obtain⟨e,f,c⟩:=h.free i;have b:bits x % (mask+1)<=mask:=Nat.le_of_lt_succ (Nat.mod_lt _ (Nat.succ_pos _));obtain⟨n,m,l⟩:=pA g b (oS x) f;obtain⟨j,d,a⟩:=o0 c n (turns mask) _ _ (by unfold turns;omega) l b;refine⟨owner.setIfInBounds j (some k),?_,by rw[Array.size_setIfInBounds];exact h.sz,?_⟩
 .unfold mf
  show(layClean.free mask owner (turns mask) (bits x % (mask+1)) (bits x) >>= _)=_;rw[d];rfl
 .rw[Array.toList_setIfInBounds]
  refine(mq (by rw[Array.getElem?_toList];exact a)).trans ?_;rw[range_succ];exact(h.pm.cons k).trans (List.perm_append_comm (l₁:=[k]))
theorem oy{mask:Nat}(a:mask=7\/mask=31\/mask=127):∀(hs:List Int){owner:Array (Option Nat)}{k:Nat},Ow mask owner k->k+hs.length<=mask+1->∃ owner',hs.foldl (mf mask) (some (owner,k))=some (owner',k+hs.length)/\Ow mask owner' (k+hs.length)
 | [],owner,k,h,_=>⟨owner,rfl,h⟩
 | x::hs,owner,k,h,hl=>by
  rw[length_cons]at hl ⊢;obtain⟨g,d,b⟩:=tE a h (by omega) x;obtain⟨c,e,f⟩:=oy a hs b (by omega);refine⟨c,?_,by rw[show k+(hs.length+1)=k+1+hs.length by omega];exact f⟩;rw[List.foldl_cons,d,e,show k+(hs.length+1)=k+1+hs.length by omega]
theorem kc:∀ n:Nat,(List.replicate n (none:Option Nat)).filterMap id=[]
 | 0=>rfl
 | n+1=>kc n
theorem qC{mask:Nat}(c:mask=7\/mask=31\/mask=127)(a:Array Int)(d:a.size<=mask+1):∃ owner,layClean mask a=some owner/\Ow mask owner a.size:=by
 obtain⟨o,e,h⟩:=oy c a.toList (owner:=Array.replicate (mask+1) none) (k:=0) ⟨Array.size_replicate,by rw[Array.toList_replicate,kc];exact .refl _⟩ (by rw[Array.length_toList];omega);rw[Nat.zero_add,Array.length_toList]at h e;refine⟨o,?_,h⟩;unfold layClean;have b:a.foldl (mf mask) (some (Array.replicate (mask+1) none,0))=some (o,a.size):=by rw[<- Array.foldl_toList];exact e
 show Option.map _ (a.foldl (mf mask) (some (Array.replicate (mask+1) none,0)))=_;rw[b];rfl
def d6(l:List (Option Nat))(s:Nat):List (Nat×Nat):=(List.range' s l.length).filterMap λj=>(l.getD (j - s) none).map (j,·)
theorem gK(x:Option Nat)(l:List (Option Nat))(s:Nat):d6 (x::l) s=(match x with | none=>[] | some v=>[(s,v)])++d6 l (s+1):=by
 unfold d6;rw[length_cons,List.range'_succ,filterMap_cons,Nat.sub_self]
 have e:(List.range' (s+1) l.length).filterMap (λj=>((x::l).getD (j - s) none).map (j,·))=(List.range' (s+1) l.length).filterMap (λj=>(l.getD (j - (s+1)) none).map (j,·)):=by
  refine fc λj a=>?_
  have:=(List.mem_range'_1.mp a).1
  obtain⟨d,rfl⟩:∃ d,j=s+1+d:=⟨j - (s+1),by omega⟩
  rw[show s+1+d - s=d+1 by omega,show s+1+d - (s+1)=d by omega,List.getD_cons_succ]
 rw[e]
 cases x <;> rfl
theorem ja:∀(l:List (Option Nat)) (s:Nat),(d6 l s).map (·.2)=l.filterMap id
 | [],s=>rfl
 | x::l,s=>by
  rw[gK,map_append,ja l (s+1)]
  cases x <;> rfl
theorem kP:∀(l:List (Option Nat)) (s:Nat),∀ p∈d6 l s,s<=p.1/\p.1<s+l.length
 | [],s,p,h=>by cases h
 | x::l,s,p,h=>by
  rw[gK]at h;rw[length_cons]
  rcases mem_append.mp h with h | h
  .cases x with
   | none=>cases h
   | some v=>rw[mem_singleton.mp h];show s<=s/\s<_;omega
  .have:=kP l (s+1) p h;omega
theorem kH:∀(l:List (Option Nat)) (s:Nat),((d6 l s).map (·.1)).Pairwise (· < ·)
 | [],s=>.nil
 | x::l,s=>by
  rw[gK,map_append];cases x with
  | none=>exact kH l (s+1)
  | some v =>
   refine pairwise_cons.mpr ⟨λy a=>?_,kH l (s+1)⟩;obtain⟨p,b,rfl⟩:=mem_map.mp a;have:=(kP l (s+1) p b).1;show s<p.1;omega
theorem uN{mask:Nat}{owner:Array (Option Nat)}(h:owner.size=mask+1):((List.range (mask+1)).filterMap λj=>(owner.getD j none).map (j,·))=d6 owner.toList 0:=by
 unfold d6;rw[Array.length_toList,h,List.range_eq_range'];refine fc λj a=>?_
 rw[Nat.sub_zero,Array.getD_eq_getD_getElem?,List.getD_eq_getElem?_getD,Array.getElem?_toList]
theorem uT{mask:Nat}(d:mask=7\/mask=31\/mask=127)(b c:Nat)(led plain:Bool)(a:Array Int)(f:a.size*5<mask*3):∃ t order,laid mask b c led plain a=some (t,order)/\TokS t a.size/\order.toList.Perm (List.range a.size)/\t.led=led/\t.plain=plain:=by
 obtain⟨o,e,h⟩:=qC d a (by omega);have i:=uN (mask:=mask) h.sz
 have l:(d6 o.toList 0).length=a.size:=by
  have:=congrArg List.length (ja o.toList 0);rw[length_map]at this;rw[this,h.pm.length_eq,length_range]
 refine⟨{ mask:=mask,place:=((d6 o.toList 0).map (·.1)).toArray,dummies:=#[],finger:=b,led:=led,moves:=c,plain:=plain },((d6 o.toList 0).map (·.2)).toArray,?_,⟨?_,rfl,kH _ _,d,λv k=>?_,f⟩,?_,rfl,rfl⟩
 .unfold laid
  rw[e];show some (({ mask:=mask,place:=(((List.range (mask+1)).filterMap λj=>(o.getD j none).map (j,·)).map (·.1)).toArray,dummies:=#[],finger:=b,led:=led,moves:=c,plain:=plain }:SetTable),(((List.range (mask+1)).filterMap λj=>(o.getD j none).map (j,·)).map (·.2)).toArray)=_;rw[i]
 .show((d6 o.toList 0).map (·.1)).toArray.size=_
  rw[size_toArray,length_map,l]
 .obtain⟨p,g,rfl⟩:=mem_map.mp (show v∈(d6 o.toList 0).map (·.1) from k)
  have:=(kP o.toList 0 p g).2;rw[Array.length_toList,h.sz]at this;show p.1<=mask;omega
 .show((d6 o.toList 0).map (·.2)).Perm _
  rw[ja];exact h.pm
theorem i7{m n:Nat}(d:m=7\/m=31\/m=127)(b:m*3<=n*5)(a:n*5<m*3+5)(c:n<=60):(sizeAbove (grown n) - 1=31\/sizeAbove (grown n) - 1=127)/\n*5<(sizeAbove (grown n) - 1)*3:=by
 have e:n=5\/n=19:=by omega
 rcases e with rfl | rfl
 .exact⟨.inl (by decide +kernel),by decide +kernel⟩
 .exact⟨.inr (by decide +kernel),by decide +kernel⟩
theorem jL{t:SetTable}{n:Nat}(T:TokP t n)(c:t.tooFull=true)(i:n*5<t.mask*3+5)(f:n<=60)(d:Array Int)(j:d.size=n):∃ t' order,t.relaid d (grown n)=some (t',order)/\TokS t' n/\order.toList.Perm (List.range n)/\t'.led=t.led/\t'.plain=t.plain:=by
 have g:t.mask*3<=n*5:=by
  unfold tooFull fill at c;rw[T.sz,T.nd]at c;have c:decide ((n+0)*5 >= t.mask*3)=true:=c;have:=of_decide_eq_true c;omega
 obtain⟨a,b⟩:=i7 T.ms g i f;subst j;obtain⟨t',order,e,h⟩:=uT (mask:=sizeAbove (grown d.size) - 1) (by omega) t.finger (t.movedTo (sizeAbove (grown d.size) - 1)) t.led t.plain d b;exact⟨t',order,e,h⟩
theorem jo{es:Array (Int×Value)}{a:Array Nat}(h:a.toList.Perm (List.range es.size)):(a.filterMap (es[·]?)).toList.Perm es.toList:=by
 rw[Array.toList_filterMap];refine(h.filterMap _).trans ?_
 have:(List.range es.size).filterMap (λi=>es[i]?)=es.toList:=by
  have g:∀(l:List (Int×Value)) (s:Nat),(List.range' s l.length).filterMap (λi=>l[i - s]?)=l:=by
   intro l
   induction l with
   | nil=>intro s;rfl
   | cons x l ih =>
    intro s;rw[length_cons,List.range'_succ,filterMap_cons,Nat.sub_self];show x::_=_
    congr 1
    refine Eq.trans (fc λj b=>?_) (ih (s+1));have:=(List.mem_range'_1.mp b).1
    obtain⟨d,rfl⟩:∃ d,j=s+1+d:=⟨j - (s+1),by omega⟩
    rw[show s+1+d - s=d+1 by omega,show s+1+d - (s+1)=d by omega,List.getElem?_cons_succ]
  have:=g es.toList 0;rw[Array.length_toList]at this;rw[List.range_eq_range'];refine Eq.trans (fc λj b=>?_) this;rw[Nat.sub_zero,Array.getElem?_toList]
 rw[this]
end SetM
namespace L2
open PySem PySem.Spec PyProof.Rows PySem.W SetM
structure SG(w:World)(h:Heap)(a:Addr)(es:Array (Int×Value))(ep:Nat)(t:SetTable):Prop where
 at_:∃ o,h.get? a=some o/\o.ExactSet/\o.data=.set es ep t
 ok:TokS t es.size
 led:t.led = !byT w
theorem SG.on{w:World}{h h':Heap}{a:Addr}{es:Array (Int×Value)}{b:Nat}{t:SetTable}(x:SG w h a es b t)(k:∀ o,h.get? a=some o->h'.get? a=some o):SG w h' a es b t:=⟨let ⟨o,e,r⟩:=x.at_;⟨o,k o e,r⟩,x.ok,x.led⟩
theorem SG.lt{w:World}{h:Heap}{a:Addr}{es:Array (Int×Value)}{b:Nat}{t:SetTable}(x:SG w h a es b t):a<h.objs.size:=let ⟨_,e,_⟩:=x.at_;Heap.lt_size e
theorem SG.ty{w:World}{s:Shared}{a:Addr}{es:Array (Int×Value)}{b:Nat}{t:SetTable}(x:SG w s.heap a es b t):s.TypeIs (.ref a) "set" := let ⟨o,e,c,_⟩:=x.at_;⟨o,e,c.1⟩
section
variable {prog:Program}{w:World}{A:Around}{E:Value->Shared->Prop}{s:Shared}{a I:Addr}{es:Array (Int×Value)}{ep:Nat}{t:SetTable}
theorem ci{Q:(Array (Int×Value)×Nat×SetTable)->Shared->Prop}(x:SG w s.heap a es ep t)(q:Q (es,ep,t) s):wpAny (model prog w) A (setState a) Q E s:=by
 obtain⟨o,g,_,d⟩:=x.at_;exact wpAny_setState_of g d x.ok.p.fits q
theorem tG{Q:Value->Shared->Prop}(d:t.plain=true)(x:SG w s.heap a es ep t)
  (q:Q (.ref s.heap.objs.size) { s with heap:=s.heap.push { cls:=.type "set_iterator",data:=.fields #[.int (0:Nat) 0,.int (0:Nat) 0,.ref a,.int (es.size:Nat) 0,.int (ep:Nat) 0] } }):wpAny (model prog w) A (pyIter (.ref a)) Q E s:=by
 have b:=x.ty;refine wpAny_pyIter_slot b F.slot_set_iter (wpAny_call_entry F.slot_set_iter b ij ?_ (F.args_set_iter_1 _));unfold Builtin.«frozenset.__iter__»;refine wpAny_bind (wpAny_pure ?_);refine wpAny_bind ?_;unfold Builtin.Frozenset.sizeOf setEntries;refine wpAny_bind (wpAny_bind (ci x (wpAny_pure (wpAny_pure ?_))));dsimp only;refine wpAny_bind ?_;unfold setDrawn;refine wpAny_bind (ci x (wpAny_bind (mZ (wpAny_pure ?_))))
 split
 .rename_i z
  have c:(!t.plain && decide (es.size > 1))=true:=((Bool.and_eq_true _ _).mp z).2;rw[d]at c;exact Bool.noConfusion c
 refine wpAny_bind (wpAny_pure (wpAny_bind ?_));unfold setEpoch;refine wpAny_bind (ci x (wpAny_pure ?_));refine wpAny_bind (wpAny_newObj_type (wpAny_pure ⟨_,rfl, "set_iterator",_,⟨_,Heap.get?_push_size _ rfl,rfl⟩,slot_set_iterator_next'.lookup,?_⟩));simpa[rawInt] using q
def eR(w:World)(a:Addr)(es:Array (Int×Value))(ep:Nat):List (Int×Value):=if byT w then (pickOrder (w.params.setOrder a ep) es).toList else es.toList
theorem g6(w:World)(a:Addr)(es:Array (Int×Value))(b:Nat):(eR w a es b).Perm es.toList:=by
 unfold eR
 split
 .have:=o8 (w.params.setOrder a b) es.size 0 es.toList #[] (Array.length_toList)
  simpa[pickOrder] using this
 .exact List.Perm.refl _
theorem fD(w:World)(a:Addr)(es:Array (Int×Value))(b:Nat):(eR w a es b).length=es.size:=by
 rw[(g6 w a es b).length_eq,Array.length_toList]
theorem tM{Q:Array (Int×Value)->Shared->Prop}(e:t.plain=true)(x:SG w s.heap a es ep t)(q:Q (eR w a es ep).toArray s):wpAny (model prog w) A (setWalk a) Q E s:=by
 unfold setWalk;refine wpAny_bind (ci x (wpAny_bind (mZ ?_)));cases hb:byT w with
 | true =>
  rw[if_pos rfl];refine wpAny_bind (wpAny_askSetting (wpAny_pure ?_));unfold eR at q;rw[if_pos hb]at q;have d:Q (pickOrder (w.params.setOrder a ep) es) s:=by simpa using q
  exact d
 | false =>
  rw[if_neg Bool.false_ne_true]
  split
  .rename_i z
   have b:(!t.plain && decide (es.size > 1))=true:=z;rw[e]at b;exact Bool.noConfusion b
  have c:t.led=true:=by rw[x.led,hb];rfl
  refine wpAny_bind (wpAny_of_eq (a:=()) (by show(if (!t.led && decide (es.size > 1))=true then _ else _)=_;rw[c];rfl) (wpAny_pure ?_));unfold eR at q;rw[if_neg (by rw[hb];exact Bool.false_ne_true)]at q;simpa using q
def cJ(t:SetTable)(i:Nat):Nat:=if i=0 then 0 else t.place.getD (i - 1) 0+1
theorem mW{n i:Nat}(T:TokS t n)(l:i<=n):SetTable.below t.place (cJ t i)=i:=by
 have B:=i3 (cJ t i) T.up;have d:∀{i k u v:Nat},i<k->t.place[i]? = some u->t.place[k]? = some v->u<v:=λc b a=>lj T.up c (by rw[Array.getElem?_toList];exact b) (by rw[Array.getElem?_toList];exact a)
 have e:=B.le;rw[T.sz]at e;generalize SetTable.below t.place (cJ t i)=r at B e
 have at_:∀ k,k<n->∃ v,t.place[k]? = some v:=λk f=>⟨_,Array.getElem?_eq_getElem (by rw[T.sz];exact f)⟩
 cases i with
 | zero =>
  rcases Nat.eq_zero_or_pos r with z | z
  .exact z
  .obtain⟨v,a⟩:=at_ 0 (by lia)
   have:=B.lo 0 v z a;unfold cJ at this;rw[if_pos rfl]at this;exact absurd this (Nat.not_lt_zero v)
 | succ i =>
  obtain⟨u,b⟩:=at_ i (by lia);have g:cJ t (i+1)=u+1:=by unfold cJ;rw[if_neg (Nat.succ_ne_zero _),Nat.add_sub_cancel,Array.getD_eq_getD_getElem?,b];rfl
  rw[g]at B
  rcases Nat.lt_trichotomy r (i+1) with z | z | z
  .have:=B.hi i u (by lia) b
   lia
  .exact z
  .obtain⟨v,a⟩:=at_ (i+1) (by lia)
   have j:=B.lo (i+1) v z a;have h:=d (Nat.lt_succ_self i) b a;lia
theorem o3{Q:Option (Value×Nat)->Shared->Prop}{i:Nat}(d:t.plain=true)(h:i<=es.size)(x:SG w s.heap a es ep t)(q:Q (((eR w a es ep)[i]?).map λe=>(e.2,if byT w then 0 else cJ t (i+1))) s):wpAny (model prog w) A (setNext a (if byT w then 0 else cJ t i) i ep) Q E s:=by
 unfold setNext;refine wpAny_bind (ci x (wpAny_bind (mZ ?_)));cases hb:byT w with
 | true =>
  rw[hb]at q;rw[if_pos rfl];rw[if_neg (by simp)];refine wpAny_bind (tM d x (wpAny_pure ?_));simpa using q
 | false =>
  rw[hb]at q;have m:(if false=true then 0 else cJ t i)=cJ t i:=if_neg Bool.false_ne_true;rw[if_neg Bool.false_ne_true,m]
  split
  .rename_i z
   have f:(!t.plain && decide (es.size > 1))=true:=z;rw[d]at f;exact Bool.noConfusion f
  have j:t.led=true:=by rw[x.led,hb];rfl
  refine wpAny_bind (wpAny_of_eq (a:=()) (by show(if (!t.led && !es.isEmpty)=true then (unsupported "set:maker-not-led" : Sem Unit) else pure ())=_;rw[j];rfl) (wpAny_pure ?_));have l:(if false=true then 0 else cJ t (i+1))=cJ t (i+1):=if_neg Bool.false_ne_true;rw[l]at q;rw[mW x.ok h];have k:(eR w a es ep)[i]? = es[i]?:=by unfold eR;rw[if_neg (by rw[hb];exact Bool.false_ne_true),Array.getElem?_toList]
  rw[k]at q;cases hv:es[i]? with
  | none=>rw[hv]at q;exact q
  | some v =>
   rw[hv]at q;have b:i<es.size:=(Array.getElem?_eq_some_iff.mp hv).1;have g:t.place[i]? = some (t.place[i]'(by rw[x.ok.sz];exact b)):=Array.getElem?_eq_getElem _;have c:cJ t (i+1)=(t.place[i]'(by rw[x.ok.sz];exact b))+1:=by unfold cJ;rw[if_neg (Nat.succ_ne_zero _),Nat.add_sub_cancel,Array.getD_eq_getD_getElem?,g];rfl
   rw[c]at q;rw[g];exact q
theorem tI{Q:Option Value->Shared->Prop}{i:Nat}(n:t.plain=true)(st:IsSI s.heap I a (if byT w then 0 else cJ t i) i es.size ep)(x:SG w s.heap a es ep t){e:Int×Value}(j:(eR w a es ep)[i]? = some e)
  (q:∀ h',IsSI h' I a (if byT w then 0 else cJ t (i+1)) (i+1) es.size ep->Heap.SameBut I s.heap h'->Q (some e.2) { s with heap:=h' }):wpAny (model prog w) A (pyNext (.ref I)) Q E s:=by
 obtain⟨m,d,h,g⟩:=id st;have l:s.TypeIs (.ref I) "set_iterator" := ⟨m,d,h⟩;unfold pyNext;refine wpAny_bind (wpAny_attempt (wpAny_callSpecial?_slot (name:=Str.ofString "__next__") l slot_set_iterator_next' (wpAny_call_entry slot_set_iterator_next' l cL ?_ (cZ _))));unfold Builtin.«set_iterator.__next__»;refine wpAny_bind (wpAny_pure ?_);refine wpAny_bind (wpAny_fieldsOf d g ?_);dsimp only;unfold setEntries;refine wpAny_bind (wpAny_bind (ci x (wpAny_pure ?_)));rw[if_neg (by simp)];have r:i<(eR w a es ep).length:=(List.getElem?_eq_some_iff.mp j).1;have f:i<=es.size:=by rw[<- fD w a es ep];lia
 rw[Int.toNat_natCast,Int.toNat_natCast,Int.toNat_natCast];refine wpAny_bind (o3 n f x ?_);rw[j];dsimp only[Option.map];refine wpAny_bind (wpAny_setField d g (by simp) ?_);have b:=Obj.data_mapFields g (·.setIfInBounds 0 (rawInt (((if byT w=true then 0 else cJ t (i+1)):Nat):Int)));have k:=Heap.get?_update_self (Obj.mapFields (·.setIfInBounds 0 (rawInt (((if byT w=true then 0 else cJ t (i+1)):Nat):Int)))) d (Obj.isFreed_of_fields b);refine wpAny_bind (wpAny_setField k b (by simp) ?_);have c:=Obj.data_mapFields b (·.setIfInBounds 1 (rawInt ((i:Int)+1)));have o:=Heap.get?_update_self (Obj.mapFields (·.setIfInBounds 1 (rawInt ((i:Int)+1)))) k (Obj.isFreed_of_fields c);refine wpAny_pure ⟨_,rfl,wpAny_pure (q _ ⟨_,o,?_,?_⟩ ?_)⟩
 .exact(Obj.cls_mapFields ..).trans ((Obj.cls_mapFields ..).trans h)
 .rw[c];simp[rawInt]
 .exact(Heap.SameBut.update ..).trans (Heap.SameBut.update ..)
theorem vS{Q:Option Value->Shared->Prop}(f:A.handled=none)(i:t.plain=true)(st:IsSI s.heap I a (if byT w then 0 else cJ t es.size) es.size es.size ep)(x:SG w s.heap a es ep t)
  (q:∀ h',Heap.ExtBut I s.heap h'->Q none { s with heap:=h' }):wpAny (model prog w) A (pyNext (.ref I)) Q E s:=by
 obtain⟨h,c,g,e⟩:=id st;have d:s.TypeIs (.ref I) "set_iterator" := ⟨h,c,g⟩;unfold pyNext;refine wpAny_bind (wpAny_attempt (wpAny_callSpecial?_slot (name:=Str.ofString "__next__") d slot_set_iterator_next' (wpAny_call_entry slot_set_iterator_next' d cL ?_ (cZ _))));unfold Builtin.«set_iterator.__next__»;refine wpAny_bind (wpAny_pure ?_);refine wpAny_bind (wpAny_fieldsOf c e ?_);dsimp only;unfold setEntries;refine wpAny_bind (wpAny_bind (ci x (wpAny_pure ?_)));rw[if_neg (by simp)];rw[Int.toNat_natCast,Int.toNat_natCast,Int.toNat_natCast];refine wpAny_bind (o3 i (Nat.le_refl _) x ?_);rw[List.getElem?_eq_none (by rw[fD];exact Nat.le_refl _)];dsimp only[Option.map];refine wpAny_bind (wpAny_setField c e (by simp) ?_);show wpAny _ _ (newExc (.type "StopIteration") [] >>= _) _ _ _;refine wpAny_bind ?_;simp only[newExc,newTuple];refine wpAny_bind (wpAny_newObj_type (wpAny_bind (m:=firstArgMember _ _) (wpAny_of_eq (a:=Value.none) (by first | rfl | (simp only[firstArgMember];rfl)) (wpAny_newObj_type ?_ (by size_fits)))) (by size_fits));simp only[raiseNew];refine wpAny_bind (wpAny_handled ?_);rw[show A.in1.handled=none from f];refine wpAny_bind (wpAny_pure (wpAny_throw ?_));refine wpAny_bind (wpAny_isInstance (T := "StopIteration") (b:=true) ⟨_,Heap.get?_push_size _ rfl,rfl⟩ isSubtype_stop ?_);exact wpAny_pure (q _ (((Heap.SameBut.update ..).extBut.push _).push _))
end
section
variable {prog:Program}{w:World}{A:Around}{E:Value->Shared->Prop}{s:Shared}{a I:Addr}{es:Array (Int×Value)}{ep:Nat}{t:SetTable}
theorem qW(q:A.handled=none)(m:t.plain=true)(k:a≠I):Walks prog w A I [I,a] [I] es.size (λi v=>∃ e,(eR w a es ep)[i]? = some e/\v=e.2) (λi h=>IsSI h I a (if byT w then 0 else cJ t i) i es.size ep/\SG w h a es ep t) where
 sub:=λb f=>by rw[mem_singleton.mp f];exact mem_cons_self ..
 frame:=λ_ _ _ c n=>⟨c.1.at λo e=>n I (mem_cons_self ..) o e,c.2.on λo e=>n a (by simp) o e⟩
 item:=λi s Q E u c d=>by
  have l:(eR w a es ep)[i]? = some ((eR w a es ep)[i]'(by rw[fD];exact u)):=List.getElem?_eq_getElem _;refine tI m c.1 c.2 l λj r g=>?_
  exact d _ j s.toks ⟨_,l,rfl⟩ ⟨r,c.2.on λo e=>g.extBut a o k e⟩ λb o f e=>g.extBut b o (λz=>f (by rw[z];exact mem_cons_self ..)) e
 done:=λs Q E c d=>vS q m c.1 c.2 λj g=>d j s.toks λb o f e=>g b o (λz=>f (by rw[z];exact mem_cons_self ..)) e
 self:=λ_ _ _ _ c d=>uL c.1 d
theorem vO(b:t.plain=true):KdlSrc prog w "set" a a es.size (λi v=>∃ e,(eR w a es ep)[i]? = some e/\v=e.2) (λh=>SG w h a es ep t) where
 type:=λ_ x=>x.ty
 there:=λ_ x=>⟨x.lt,x.lt⟩
 keep:=λ_ _ x d=>x.on λo e=>d a (.inl rfl) o e
 notList:=by decide
 notTuple:=by decide
 hint:=λ_ _ _ _ x q=>rW x.ty q
 iter:=λ_ _ c x=>⟨_,_,(λ_ _ q=>tG b x q),qW c b (Nat.ne_of_lt x.lt),⟨⟨_,Heap.get?_push_size _ rfl,rfl,by simp[cJ]⟩,x.on λo e=>Heap.get?_push_of_some _ e⟩⟩
def ju(w:World)(a:Addr)(es:Array (Int×Value))(ep:Nat):List Value:=(eR w a es ep).map (·.2)
theorem mX{b:Array Value}(h:ItemsOf (λi v=>∃ e,(eR w a es ep)[i]? = some e/\v=e.2) b es.size):b.toList=ju w a es ep:=by
 obtain⟨k,g⟩:=h;refine List.ext_getElem? λj=>?_
 unfold ju;rw[List.getElem?_map,Array.getElem?_toList]
 by_cases c:j<b.size
 .obtain⟨e,d,f⟩:=g j _ (Array.getElem?_eq_getElem c)
  rw[Array.getElem?_eq_getElem c,d,f];rfl
 .rw[Array.getElem?_eq_none (by lia),List.getElem?_eq_none (by rw[fD];lia)];rfl
theorem mY{Q:List Value->Shared->Prop}(f:A.handled=none)(h:t.plain=true)(i:es.size<=24)(x:SG w s.heap a es ep t)
  (q:∀ h' tk,s.heap.objs.size<h'.objs.size->(∀ b o,s.heap.get? b=some o->h'.get? b=some o)->Q (ju w a es ep) { s with heap:=h',toks:=tk }):wpAny (model prog w) A (collect (.ref a)) Q E s:=by
 unfold collect;refine wpAny_bind (wpAny_runValue (codeAny_builtin entry_proto_collect' ?_));show wpAny _ _ (do again (.builtin "list.__iadd__" ⟨[<- newList [],.ref a],[]⟩)) _ _ _;refine wpAny_bind (wpAny_newList (wpAny_pure ⟨Code.quiet_builtin _ (by decide +kernel),codeAny_builtin entry_list_iadd' ?_⟩));have c:=x.lt;have g:es.size<=sizeLine:=by rw[sizeLine_eq];lia
 refine kdl_extend (R:=λr d=>match r with | Except.ok (Flow.ret v)=>wpAny (model prog w) A (match v with | Value.ref a=>(do let o <- load a;match o.data with | Data.seq xs _=>pure xs.toList | _=>unsupported "internal:collect") | _=>unsupported "internal:collect") Q E d | Except.ok _=>False | Except.error e=>E e d) (s:={ s with heap:=s.heap.push { cls:=.type "list",data:=.seq #[] } }) (vO h) f (x.on λo e=>Heap.get?_push_of_some _ e) s.heap.objs.size (Nat.ne_of_gt c) (Nat.ne_of_gt c) _ 0 (Heap.get?_push_size _ rfl) (λh' tk acc c' hk hS ha=>?_) g
 show wpAny (model prog w) A (do
   let o <- load s.heap.objs.size
   match o.data with
   | .seq xs _=>pure xs.toList
   | _=>unsupported "internal:collect") Q E _
 refine wpAny_bind (wpAny_load hS (wpAny_pure ?_));rw[mX ha];exact q h' tk (Heap.lt_size hS) λb o e=>hk b o (Nat.ne_of_lt (Heap.lt_size e)) (Heap.get?_push_of_some _ e)
def eh:Value->Int
 | .int n _=>n
 | _=>0
def eF(es:Array (Int×Value)):List Int:=es.toList.map λe=>eh e.2
def IntE(prog:Program)(w:World)(l:List (Int×Value)):Prop:=∀ e∈l,(∃ t,e.2=.int (eh e.2) t)/\e.1=(intKind prog w).hash (eh e.2)
theorem lO:∀{l:List (Int×Value)},(∀ e∈l,∃ t,e.2=.int (eh e.2) t)->IntsAre (l.map (·.2)) (l.map λe=>eh e.2)
 | [],_=>.nil
 | e::l,h=>by
  obtain⟨t,a⟩:=h e mem_cons_self;rw[map_cons,map_cons];have:=lO λx b=>h x (mem_cons_of_mem _ b)
  generalize eh e.2=k at a;rw[a];exact .cons _ _ this
theorem pW(c:IntE prog w es.toList):IntsAre (ju w a es ep) ((eR w a es ep).map λe=>eh e.2):=lO λe b=>(c e ((g6 w a es ep).mem_iff.mp b)).1
theorem pR(w:World)(a:Addr)(es:Array (Int×Value))(b:Nat):((eR w a es b).map λe=>eh e.2).Perm (eF es):=(g6 w a es b).map _
theorem qc{Q:Value->Shared->Prop}(k:A.handled=none)(y:t.plain=true)(D:IntE prog w es.toList)(l:es.size<=24)(x:SG w s.heap a es ep t)
  (h:∀(out:Array Value) (ns':List Int) (r:Addr) g tk n,IntsAre out.toList ns'->ns'.Perm (eF es)->ns'.Pairwise (·<=·)->(∀ b o,s.heap.get? b=some o->g.get? b=some o)->s.heap.objs.size<=r->g.get? r=some (seqObj "list" out n)->Q (.ref r) { s with heap:=g,toks:=tk }) :
  wpAny (model prog w) A (call (.builtin "sorted") [.ref a]) Q E s:=by
 have F:sizeLine=16777216:=sizeLine_eq;have q:(ju w a es ep).length=es.size:=by unfold ju;rw[length_map,fD]
 refine Calls.call_function_entry kind_sorted plain_sorted entry_sorted (args_sorted1 _) ?_;unfold Builtin.«sorted»;refine wpAny_bind (m:=checkCount "sorted" 1 1 _) (wpAny_pure (wpAny_bind (mY k y l x λd tk i j=>wpAny_bind (wpAny_newList ?_ (by rw[q];lia)))));have c:(d.push (seqObj "list" (ju w a es ep).toArray 0)).get? d.objs.size=some (seqObj "list" (ju w a es ep).toArray 0):=Heap.get?_push_size _ rfl
 have f:∀ b o,s.heap.get? b=some o->(d.push (seqObj "list" (ju w a es ep).toArray 0)).get? b=some o/\b≠d.objs.size:=λb o e=>⟨Heap.get?_push_of_some _ (j b o e),Nat.ne_of_lt (Heap.lt_size (j b o e))⟩
 refine wpAny_bind (wpAny_holding (wpAny_call_entry slot_list_sort ⟨_,c,rfl⟩ entry_list_sort (list_sort_tree (s:={ s with heap:=d.push (seqObj "list" (ju w a es ep).toArray 0),toks:=tk }) c (pW D) (by lia) λout ns' u v C=>⟨_,rfl,?_⟩) (args_list_sort _)));obtain⟨n,B⟩:=sortedHeap_at (out:=out) c;refine wpAny_pure ⟨_,rfl,h out ns' d.objs.size _ tk n u (v.trans (pR w a es ep)) C (λb o e=>?_) (Nat.le_of_lt i) B⟩;rw[sortedHeap_old (f b o e).2 (Heap.lt_size (f b o e).1)];exact(f b o e).1
end
theorem pH{t:SetTable}{es:Array (Int×Value)}{n:Nat}(T:TokP t n)(h:t.tooFull=true)(j:n*5<t.mask*3+5)(c:n<=60)(b:es.size=n):∃ t' es',relayAll t es (SetTable.grown n)=(es',t',false)/\TokS t' n/\es'.toList.Perm es.toList/\t'.led=t.led/\t'.plain=t.plain:=by
 obtain⟨t',a,e,d,f,l,i⟩:=jL T h j c (es.map (·.1)) (by rw[Array.size_map,b]);have g:(a.filterMap (es[·]?)).toList.Perm es.toList:=jo (by rw[b];exact f);have k:(a.filterMap (es[·]?)).size=n:=by have:=g.length_eq;rwa [Array.length_toList,Array.length_toList,b]at this
 refine⟨t',a.filterMap (es[·]?),?_,d,g,l,i⟩;unfold relayAll;rw[e];dsimp only;rw[if_pos];rw[Bool.and_eq_true];refine⟨?_,by rw[k];exact d.p.fits⟩;unfold coversAll;rw[b];exact List.isPerm_iff.mpr f
section
variable {prog:Program}{w:World}{A:Around}{E:Value->Shared->Prop}{s:Shared}{a:Addr}{es:Array (Int×Value)}{ep:Nat}{t:SetTable}
theorem IntE.elems(h:IntE prog w es.toList):ElemsOf (intKind prog w) es.toList:=λe b=>by
 obtain⟨⟨k,a⟩,c⟩:=h e b;refine⟨⟨eh e.2,?_,c⟩,by rw[a];rfl⟩;have:(intKind prog w).is (eh e.2) (.int (eh e.2) k)=true:=intKind_is _ _ _ _;generalize eh e.2=n at a this;rw[a];exact this
theorem pM{n:Int}(h:IntE prog w es.toList):(es.toList.findIdx? λe=>(intKind prog w).is n e.2).isSome=decide (n∈eF es):=by
 rw[List.findIdx?_isSome,Bool.eq_iff_iff,any_eq_true,decide_eq_true_eq];unfold eF;rw[mem_map]
 constructor
 .rintro⟨e,a,d⟩
  obtain⟨⟨k,b⟩,_⟩:=h e a
  have c:(intKind prog w).is (eh e.2) e.2=true:=by
   have:(intKind prog w).is (eh e.2) (.int (eh e.2) k)=true:=intKind_is _ _ _ _;generalize eh e.2=m at b this;rw[b];exact this
  exact⟨e,a,(intKind prog w).inj _ _ _ c d⟩
 .rintro⟨e,a,rfl⟩
  obtain⟨⟨k,b⟩,_⟩:=h e a;refine⟨e,a,?_⟩;have:(intKind prog w).is (eh e.2) (.int (eh e.2) k)=true:=intKind_is _ _ _ _;generalize eh e.2=m at b this;rw[b];exact this
theorem pE{es':Array (Int×Value)}(h:IntE prog w es.toList)(p:es'.toList.Perm es.toList):IntE prog w es'.toList:=λe a=>h e (p.mem_iff.mp a)
structure AddG(prog:Program)(w:World)(h:Heap)(a:Addr)(ks:List Int)(n:Int)(es':Array (Int×Value))(ep':Nat)(t':SetTable):Prop where
 at_:SG w h a es' ep' t'
 pl:t'.plain=true
 isI:IntE prog w es'.toList
 keys:(eF es').Perm (if n∈ks then ks else n::ks)
theorem wa{n:Int}{tk:Nat}{Q:Bool->Shared->Prop}(l:t.plain=true)(i:IntE prog w es.toList)(Y:es.size<=50)(x:SG w s.heap a es ep t)
  (q:∀ b h' es' ep' t',Heap.SameBut a s.heap h'->AddG prog w h' a (eF es) n es' ep' t'->Q b { s with heap:=h' }):wpAny (model prog w) A (setAddHashed a (.int n tk) ((intKind prog w).hash n)) Q E s:=by
 obtain⟨o,B,h,C⟩:=x.at_;have N:t.fits es.size=true:=x.ok.p.fits;have sl:sizeLine=16777216:=sizeLine_eq;unfold setAddHashed setAddHashedIn;refine wpAny_holding (wpAny_bind (ci x ?_));dsimp only;rw[byScan_of (knd:=intKind prog w) rfl (by unfold scanBound;lia) i.elems];simp only[↓reduceIte];unfold setAddByScan;refine wpAny_bind ?_;refine wpAny_bind (wpAny_rule ?_);refine wpAny_bind (wpAny_setScan_of (knd:=intKind prog w) (intKind_is _ _ _ _) B C N i.elems ?_);have c:=pM (n:=n) i;cases hr:List.findIdx? (λe=>(intKind prog w).is n e.2) es.toList with
 | some j =>
  rw[hr]at c;have r:n∈eF es:=of_decide_eq_true c.symm;dsimp only;refine wpAny_pure (wpAny_pure ?_);exact q _ s.heap es ep t (Heap.SameBut.refl a s.heap) ⟨x,l,i,by rw[if_pos r]⟩
 | none =>
  rw[hr]at c;have r:n ∉ eF es:=of_decide_eq_false c.symm;dsimp only;obtain⟨j,S,X,M⟩:=wv x.ok es rfl ((intKind prog w).hash n) (.int n tk);obtain⟨P,e1,I,v,m,U⟩:=nP x.ok S X;rw[M];dsimp only;refine wpAny_bind (wpAny_pure ?_);rw[if_pos (by rw[m];exact l)];refine wpAny_bind ?_;rw[hashByValue_scannable 8 rfl];refine wpAny_pure ?_;have F:=SetM.ins_perm es (SetTable.below t.place j) ((intKind prog w).hash n,Value.int n tk);have k:=SetM.ins_size es (SetTable.below t.place j) ((intKind prog w).hash n,Value.int n tk)
  have H:IntE prog w (SetTable.insertAt es (SetTable.below t.place j) ((intKind prog w).hash n,Value.int n tk)).toList:=λe T=>by
   rcases mem_cons.mp (F.mem_iff.mp T) with z | z
   .rw[z];exact⟨⟨tk,rfl⟩,rfl⟩
   .exact i e z
  have G:(eF (SetTable.insertAt es (SetTable.below t.place j) ((intKind prog w).hash n,Value.int n tk))).Perm (n::eF es):=F.map λ(e:Int×Value)=>eh e.2
  generalize SetTable.insertAt es (SetTable.below t.place j) ((intKind prog w).hash n,Value.int n tk)=es1 at F k H G;generalize (t.put j).1=T1 at P I v m U;rw[if_pos (show plainKind (Value.int n tk)=true from rfl)];have R:es1.size<=sizeLine:=by lia
  refine wpAny_bind (wpAny_storeSet_of B C ?_ R);have d:=gE (es':=es1) (t':=T1) B C
  split
  .rename_i hz
   have g:T1.tooFull=true:=by simpa using hz
   have Z:=x.ok.few;obtain⟨J,f,L,K,y,W,O⟩:=pH (es:=es1) P g (by rw[I];lia) (by lia) (by lia);rw[k,L];dsimp only;refine wpAny_bind (wpAny_of_eq (a:=()) rfl ?_);have D:f.size=es1.size:=by have:=y.length_eq;rwa [Array.length_toList,Array.length_toList]at this
   refine wpAny_bind (wpAny_storeSet_of d rfl ?_ (by lia));have u:=gE (s:={ s with heap:=s.heap.update a (Obj.putSet es1 T1) }) (es':=f) (t':=J) d rfl;refine wpAny_pure (wpAny_pure ?_);refine q _ _ f _ J ((Heap.SameBut.update ..).trans (Heap.SameBut.update ..)) ⟨⟨⟨_,u,h,rfl⟩,by rw[D,k];exact K,by rw[W,v];exact x.led⟩,by rw[O,m];exact l,pE H y,?_⟩;rw[if_neg r];exact(y.map λ(e:Int×Value)=>eh e.2).trans G
  .rename_i hz
   have g:T1.tooFull=false:=by simpa using hz
   refine wpAny_pure (wpAny_pure ?_);exact q _ _ es1 _ T1 (Heap.SameBut.update ..) ⟨⟨⟨_,d,h,rfl⟩,by rw[k];exact P.s g,by rw[v];exact x.led⟩,by rw[m];exact l,H,by rw[if_neg r];exact G⟩
end
def lu(ks:List Int)(n:Int):List Int:=if n∈ks then ks else n::ks
def kF(val:Nat->Int):Nat->List Int
 | 0=>[]
 | i+1=>lu (kF val i) (val i)
theorem pG{b a:List Int}(h:b.Perm a)(n:Int):(lu b n).Perm (lu a n):=by
 unfold lu
 by_cases c:n∈b
 .rw[if_pos c,if_pos (h.mem_iff.mp c)];exact h
 .rw[if_neg c,if_neg (λz=>c (h.mem_iff.mpr z))];exact h.cons n
theorem rJ(val:Nat->Int):∀ i,(kF val i).length<=i
 | 0=>Nat.le_refl _
 | i+1=>by
  show(lu (kF val i) (val i)).length<=_;have:=rJ val i;unfold lu
  split
  .lia
  .rw[length_cons];lia
theorem gZ(es:Array (Int×Value)):(eF es).length=es.size:=by unfold eF;rw[length_map,Array.length_toList]
section
variable {prog:Program}{w:World}{A:Around}{R:Result->Shared->Prop}{I:Addr}{fp wr:List Addr}{G:Array GenState->Array GenState->Prop}{n:Nat}{P:Nat->Value->Prop}{St:Nat->Shared->Prop}
structure IG(prog:Program)(w:World)(h:Heap)(a:Addr)(ks:List Int)(es:Array (Int×Value))(ep:Nat)(t:SetTable):Prop where
 at_:SG w h a es ep t
 pl:t.plain=true
 isI:IntE prog w es.toList
 keys:(eF es).Perm ks
theorem IG.on{h h':Heap}{a:Addr}{c:List Int}{es:Array (Int×Value)}{b:Nat}{t:SetTable}(x:IG prog w h a c es b t)(k:∀ o,h.get? a=some o->h'.get? a=some o):IG prog w h' a c es b t:=⟨x.at_.on k,x.pl,x.isI,x.keys⟩
theorem ua(W:WalksS prog w A.in1 I fp wr G n P St)(S:Addr)(r:S ∉ fp)(val:Nat->Int)(g:n<=50)(y:∀ i v,P i v->∃ t,v=.int (val i) t) :
  ∀(k i:Nat) (s:Shared) (es:Array (Int×Value)) (ep:Nat) (t:SetTable),n - i=k->i<=n->St i s->IG prog w s.heap S (kF val i) es ep t ->
   (∀ s' es' ep' t',Moved (S::wr) G s s'->IG prog w s'.heap S (kF val n) es' ep' t'->R (.ok (.ret .none)) s') ->
   codeAny (model prog w) A (.builtin "set.update.loop" ⟨[.ref S,.ref I],[]⟩) R s:=by
 have m:S ∉ wr:=λh=>r (W.sub _ h)
 have c:∀ b∈wr,b∈S::wr:=λb g=>mem_cons_of_mem _ g
 intro k;induction k with
 | zero =>
  intro i s es ep t H J d q C;have D:i=n:=by lia
  subst D;refine codeAny_builtin F.entry_set_update_loop ?_;rw[Around.under_plainId F.plain_set_update_loop _];show wpAny _ A.in1 (pyNext (.ref I) >>= _) _ _ s;refine wpAny_bind (W.done s _ _ d λs' u=>?_);show wpAny _ A.in1 (ret Value.none) _ _ s';exact wpAny_pure (C s' es ep t (u.mono c) (q.on λo e=>u.heap S _ m e))
 | succ k ih =>
  intro i s es ep t H J d q C;have l:i<n:=by lia
  refine codeAny_builtin F.entry_set_update_loop ?_;rw[Around.under_plainId F.plain_set_update_loop _];show wpAny _ A.in1 (pyNext (.ref I) >>= _) _ _ s;refine wpAny_bind (W.item i s _ _ l d λv s' K j u=>?_);obtain⟨E,rfl⟩:=y i v K;have f:=q.on (h':=s'.heap) λo e=>u.heap S _ m e
  show wpAny _ A.in1 (holding [Value.int (val i) E] (setAdd S (.int (val i) E)) >>= _) _ _ s';refine wpAny_bind (wpAny_holding ?_);unfold setAdd;refine wpAny_holding ?_;refine wpAny_bind ((intKind prog w).pyHash (k:=val i) (intKind_is _ _ _ _) ?_);have L:es.size<=50:=by have:=q.keys.length_eq;rw[gZ]at this;have:=rJ val i;lia
  refine wa (s:={ s' with toks:=s'.toks+1 }) f.pl f.isI L f.at_ λb h' es' ep' t' x a=>?_
  refine wpAny_pure ⟨plainId_quiet F.plain_set_update_loop _,ih (i+1) _ es' ep' t' (by lia) l (W.frame _ s' _ _ j (Nat.le_succ _) λb g o e=>?_) ⟨a.at_,a.pl,a.isI,a.keys.trans (pG q.keys (val i))⟩ λs'' t2 e2 m2 hm'' hS''=>?_⟩
  .have B:=x.2 b (λh:b=S=>r (by rw[<- h];exact g));rw[B];exact e
  .refine C s'' t2 e2 m2 (Moved.trans W.gtrans ((u.mono c).then_heap (Nat.le_succ _) λb o g e=>?_) hm'') hS'';have B:=x.2 b (λh:b=S=>g (by rw[h];exact mem_cons_self));rw[B];exact e
end
theorem mK(a:Bool):TokS (SetTable.fresh 0 0 a) 0:=⟨rfl,rfl,.nil,.inl rfl,(λv b=>by cases b),by show 0*5<7*3;decide⟩
theorem jh:isSubtype (.type "tuple") (.type "set")=pure false:=by rw[isSubtype_type];kernel_rfl
theorem fo:isSubtype (.type "tuple") (.type "frozenset")=pure false:=by rw[isSubtype_type];kernel_rfl
section
variable {prog:Program}{w:World}{A:Around}{E:Value->Shared->Prop}{s:Shared}
theorem sE{l:Addr}{items:Array Value}{val:Nat->Int}{Q:Value->Shared->Prop}(hh:A.handled=none)(hl:s.heap.IsTuple l items)(y:items.size<=50)(W:∀(i:Nat) (v:Value),items[i]? = some v->∃ t,v=.int (val i) t)
  (h:∀(h':Heap) (tk:Nat) es ep t,IG prog w h' s.heap.objs.size (kF val items.size) es ep t->(∀ b o,b<s.heap.objs.size->s.heap.get? b=some o->h'.get? b=some o)->Q (.ref s.heap.objs.size) { s with heap:=h',toks:=tk }) :
  wpAny (model prog w) A (call (.type "set") [.ref l]) Q E s:=by
 obtain⟨c,tl,L⟩:=F.called_set.mro;have C:=F.called_set.made;have M:=F.called_set.sub;refine wpAny_call (codeAny_of_tree ?_);show wpAny _ _ (callAny (.type "set") _) _ _ _;refine wpAny_pure ⟨Code.quiet_builtin _ (by decide +kernel),codeAny_builtin F.entry_type_call ?_⟩;rw[Around.under_plain (weight_type_call_type "set" [.ref l] []) rfl];have h1:=F.called_set.notType;have h2:=F.called_set.canCreate;have ah:=F.typeCall_set_1 (.ref l);repeat (any_goals (first | assumption | wp_step))
 refine codeAny_mono (ri (.ref l) (E:=E) (Q₁:=λx d=>x=.ref s.heap.objs.size/\d={ s with heap:=s.heap.push ({ cls:=.type "set",dict:=none,data:=.set #[] 0 (.fresh 0 0 (!byT w)) }:Obj) }) ⟨rfl,rfl⟩) λr d hr=>?_
 cases r with
 | error e=>exact hr
 | ok fl =>
  cases fl with
  | ret x =>
   obtain⟨rfl,rfl⟩:=hr;have S:(s.heap.push ({ cls:=.type "set",dict:=none,data:=.set #[] 0 (.fresh 0 0 (!byT w)) }:Obj)).get? s.heap.objs.size=some ({ cls:=.type "set",dict:=none,data:=.set #[] 0 (.fresh 0 0 (!byT w)) }:Obj):=Heap.get?_push_size _ rfl;have U:Shared.TypeIs { s with heap:=s.heap.push ({ cls:=.type "set",dict:=none,data:=.set #[] 0 (.fresh 0 0 (!byT w)) }:Obj) } (.ref s.heap.objs.size) "set" := ⟨_,S,rfl⟩;have an:=F.called_set.init.lookup;have al:=F.called_set.init.bind (.ref s.heap.objs.size);repeat (any_goals (first | assumption | wp_step))
   refine codeAny_mono (codeAny_call_builtin (R:=wants (λr a=>r=.none/\∃ h' tk es ep t,a={ s with heap:=h',toks:=tk }/\IG prog w h' s.heap.objs.size (kF val items.size) es ep t/\(∀ b o,b<s.heap.objs.size->s.heap.get? b=some o->h'.get? b=some o)) E) F.called_set.init.plain F.entry_set_init (check_set_init_1 U ?_)) λr₂ a hr₂=>?_
   .obtain⟨Y,k,j,P,n⟩:=hl;obtain⟨ocls,odict,odata,oslots⟩:=Y;simp only at j n;subst j;subst n
    have u:(s.heap.push ({ cls:=.type "set",dict:=none,data:=.set #[] 0 (.fresh 0 0 (!byT w)) }:Obj)).get? l=some { cls:=.type "tuple",dict:=odict,data:=.seq items P,slots:=oslots }:=Heap.get?_push_of_some _ k;have O:=jh;have N:=fo;have ab:(Value.type "tuple" == Value.type "dict")=false:=by decide
    have q:(s.heap.push ({ cls:=.type "set",dict:=none,data:=.set #[] 0 (.fresh 0 0 (!byT w)) }:Obj)).IsTuple l items:=⟨_,u,rfl,P,rfl⟩
    unfold Builtin.«set.__init__» noKeywords Builtin.Frozenset.updateFrom;generalize hPI:pyIter=PI;wp_walk;subst hPI;refine wpAny_pyIter_tuple q ?_;refine wpAny_bind (wpAny_runValue ?_);have g:l<s.heap.objs.size:=Heap.lt_size k;have G:A.in1.in1.in1.handled=none:=by simp[hh]
    have m:l≠(s.heap.push ({ cls:=.type "set",dict:=none,data:=.set #[] 0 (.fresh 0 0 (!byT w)) }:Obj)).objs.size:=by rw[Heap.size_push];exact Nat.ne_of_lt (Nat.lt_succ_of_lt g)
    have I:s.heap.objs.size ∉ [(s.heap.push ({ cls:=.type "set",dict:=none,data:=.set #[] 0 (.fresh 0 0 (!byT w)) }:Obj)).objs.size,l]:=by rw[Heap.size_push];simp only[mem_cons,mem_singleton,not_mem_nil,or_false,not_or];exact⟨Nat.ne_of_lt (Nat.lt_succ_self _),Nat.ne_of_gt g⟩
    refine ua ((Walks.tuple G _ l m items).toS) s.heap.objs.size I val y W (items.size - 0) 0 _ #[] 0 (.fresh 0 0 (!byT w)) (by lia) (Nat.zero_le _) ⟨⟨_,Heap.get?_push_size _ rfl,rfl,rfl⟩,(q.push _)⟩ ?hS0 ?hR
    case hS0=>exact⟨⟨⟨({ cls:=.type "set",dict:=none,data:=.set #[] 0 (.fresh 0 0 (!byT w)) }:Obj),Heap.get?_push_of_some _ S,⟨rfl,rfl,rfl⟩,rfl⟩,mK _,rfl⟩,rfl,(λe he=>by cases he),.nil⟩
    case hR =>
     intro T H K t' B f;obtain⟨h',g',d',tk',os'⟩:=T;have Z:g'=s.gens:=B.gens;have X:d'=s.drawn:=B.drawn;have eo:os'=s.os:=B.os;subst Z;subst X;subst eo;show wpAny _ _ _ _ _ _;refine wpAny_pure ?_;show wpAny _ _ (ret Value.none) _ _ _;refine wpAny_pure ⟨rfl,h',tk',H,K,t',rfl,f,λb o y e=>?_⟩;have D:b≠(s.heap.push ({ cls:=.type "set",dict:=none,data:=.set #[] 0 (.fresh 0 0 (!byT w)) }:Obj)).objs.size:=by rw[Heap.size_push];exact Nat.ne_of_lt (Nat.lt_succ_of_lt y)
     exact B.heap b o (by simp only[mem_cons,mem_singleton,not_mem_nil,or_false,not_or];exact⟨Nat.ne_of_lt y,D⟩) (Heap.get?_push_of_some _ (Heap.get?_push_of_some _ e))
   .cases r₂ with
    | error e=>exact hr₂
    | ok fl₂ =>
     cases fl₂ with
     | ret r =>
      obtain⟨rfl,h',tk,es,ep,t,rfl,f,J⟩:=hr₂;repeat (any_goals (first | assumption | wp_step))
      exact h _ _ _ _ _ f J
     | _=>exact hr₂.elim
  | _=>exact hr.elim
end
theorem u4{a:List Int}(d:a.Nodup):∀ i,i<=a.length->(kF (λi=>a.getD i 0) i).Perm (a.take i)
 | 0,_=>.nil
 | i+1,hi=>by
  have e:=u4 d i (by lia);have f:a[i]? = some a[i]:=List.getElem?_eq_getElem (by lia);show(lu (kF (λi=>a.getD i 0) i) (a.getD i 0)).Perm _;rw[List.getD,f,take_add_one,f];show(lu _ a[i]).Perm (a.take i++[a[i]]);unfold lu
  have g:a[i] ∉ a.take i:=λh=>by
   obtain⟨k,b⟩:=List.getElem?_of_mem h;rw[List.getElem?_take]at b
   split at b
   .rename_i c
    have j:k<a.length:=(List.getElem?_eq_some_iff.mp b).1;have:=(List.getElem?_eq_some_iff.mp b).2
    have:=(List.nodup_iff_pairwise_ne.mp d)
    have:=List.pairwise_iff_getElem.mp this k i j (by lia) c;exact this (by assumption)
   .cases b
  rw[if_neg λz=>g (e.mem_iff.mp z)];exact(e.cons _).trans (List.perm_append_comm (l₁:=[a[i]]))
def SGo(P:Program)(w:World)(a:Addr)(ns:List Int):Heap->Prop:=λh=>∃ es ep t,IG P w h a (kF (λi=>ns.getD i 0) ns.length) es ep t
section
variable {X:Cx}
theorem nY(l:X.calm=true):CallR X (.type "set") (λxs H Q=>∃(p:Addr) (ns:List Int),xs=[.ref p]/\SqT X.K H p (ns.map V.int)/\ns.length<=50/\∀ q,H q=none->Q (.ref q) (upd H q (.ext (SGo X.prog X.w q ns)))):=by
 intro g s C H xs B Q I r h;obtain⟨p,ns,rfl,j,A,q⟩:=h;obtain⟨u,rfl,m⟩:=di r;cases m;obtain⟨d,f,w,D⟩:=I.tuple j;have x:=dO f;have c:d.length=ns.length:=by have:=f.length;rw[length_map]at this;exact this.symm
 refine sE (val:=λi=>ns.getD i 0) (I.ok.hd l) (show s.heap.IsTuple p d.toArray from w) (by rw[size_toArray,c];exact A) (λi v hv=>?_) λh' tk es ep t hS hk=>?_
 .rw[List.getElem?_toArray]at hv
  exact IntsAre.int_at x i v hv
 .have y:d.toArray.size=ns.length:=by rw[size_toArray,c]
  rw[y]at hS;have n:H s.heap.objs.size=none:=I.hok.fresh (Nat.le_refl _);refine⟨.ref s.heap.objs.size,_,I.laid (a:=s.heap.objs.size) (o:=.ext (SGo X.prog X.w s.heap.objs.size ns)) (t':=tk) (λb u z=>hk b u (Heap.lt_size z) z) (Nat.le_refl _) ⟨⟨es,ep,t,hS⟩,?_,λh1 h2 ⟨es,ep,t,a1⟩ k=>⟨es,ep,t,a1.on λo e=>k o e⟩⟩,rfl,q _ n⟩;obtain⟨o,e,_⟩:=hS.at_.at_;exact⟨o,e⟩
theorem kh(B:X.calm=true):CallR X (.builtin "sorted") (λxs H Q=>∃(p:Addr) (ns:List Int),xs=[.ref p]/\H p=some (.ext (SGo X.prog X.w p ns))/\ns.length<=24/\ns.Nodup/\∀ q (ns':List Int),H q=none->ns'.Pairwise (·<=·)->ns'.Perm ns->Q (.ref q) (upd H q (.lst (ns'.map V.int)))):=by
 intro l s K H xs J Q I r h;obtain⟨p,ns,rfl,y,L,A,q⟩:=h;obtain⟨u,rfl,v⟩:=di r;cases v
 obtain⟨⟨E,F,t,d⟩,_⟩:=(show ObjOk X.prog X.w H s.heap p (.ext (SGo X.prog X.w p ns)) from I.hok p _ y)
 have f:sizeLine=16777216:=sizeLine_eq;have e:=d.keys.trans (u4 A ns.length (Nat.le_refl _));rw[take_length]at e;have G:E.size=ns.length:=by have:=e.length_eq;rwa [gZ]at this
 refine qc (I.ok.hd B) d.pl d.isI (by lia) d.at_ λj ns' r g w n x m D k c i=>?_
 have C:H r=none:=I.hok.fresh c;refine⟨.ref r,_,I.laid (a:=r) (o:=.lst (ns'.map V.int)) (t':=w) (λb u z=>k b u z) c ⟨?_,j.toList,n,dL x,?_⟩,rfl,q r ns' C D (m.trans e)⟩
 .rw[length_map,m.length_eq,gZ];lia
 .rw[i,Array.toArray_toList]
end
section
variable {prog:Program}{w:World}{A:Around}{E:Value->Shared->Prop}{s:Shared}{a b:Addr}{es:Array (Int×Value)}{ep:Nat}{t:SetTable}{k:List Int}
def uA(prog:Program)(w:World)(h:Heap)(e:Int×Value)(k:List Int):Prop:=∃ b,e.2=.ref b/\IsTupleKey (intKind prog w) h k b/\e.1=tupleKeyHash (intKind prog w) k
theorem rS{n:Nat}(T:TokS t n):t.gaveWay=false:=by
 unfold SetTable.gaveWay
 rcases T.ms with e | e | e <;> rw[e] <;> rfl
theorem iZ:∀{ks:List Int}{vs:List Value},ItemsAre (intKind prog w) ks vs->∀ v∈vs,∃ n t,v=.int n t:=by
 intro ks vs h
 induction h with
 | nil=>intro v a;cases a
 | cons hk _ ih =>
  intro v a
  rcases mem_cons.mp a with e | e
  .subst e
   cases v with
   | int n t=>exact⟨n,t,rfl⟩
   | _=>exact absurd hk (by simp[intKind,Value.isInt])
  .exact ih v e
theorem pQ(m:Nat)(n:Int)(t:Tok):ofAClassStatement m (.int n t)=pure false:=by cases m <;> rfl
theorem lA{m:Nat}{Q:Bool->Shared->Prop}(i:IsTupleKey (intKind prog w) s.heap k b)(h:Q false s):wpAny (model prog w) A (ofAClassStatement (m+1) (.ref b)) Q E s:=by
 have j:=i.typeIs;obtain⟨o,g,n,l,y,q,x⟩:=i;unfold ofAClassStatement;refine wpAny_bind (wpAny_typeOf j ?_);dsimp only;rw[if_pos (by rfl)];refine wpAny_bind (wpAny_pure ?_);rw[if_neg (by decide)];unfold seqItems?;refine wpAny_bind (wpAny_bind (wpAny_load l ?_));rw[q];refine wpAny_pure ?_;dsimp only;refine wpAny_bind ?_;rw[<- Array.forIn_toList];refine wpAny_forIn_list _ (λa r f=>r.1=none/\f=s/\∀ v∈a,∃ n t,v=.int n t) _ ?_ ?_ _ _ ⟨rfl,rfl,iZ x⟩
 .rintro v a r f ⟨d,rfl,c⟩
  obtain⟨B,F,rfl⟩:=c v mem_cons_self;rw[pQ];refine wpAny_bind (wpAny_pure ?_);rw[if_neg Bool.false_ne_true];exact wpAny_pure ⟨rfl,rfl,λu e=>c u (mem_cons_of_mem _ e)⟩
 .rintro⟨D,C⟩ f ⟨d,rfl,_⟩
  simp only at d;subst d;exact wpAny_pure h
theorem uR{l:List Value}{Q:Bool->Shared->Prop}(j:IsTupleKey (intKind prog w) s.heap k b)(m:∀ v∈l,∃ k' b',v=.ref b'/\IsTupleKey (intKind prog w) s.heap k' b')(h:Q false s):wpAny (model prog w) A (searchCouldBeSeen (.ref b) l) Q E s:=by
 unfold searchCouldBeSeen;refine wpAny_bind ?_;refine wpAny_forIn_list _ (λc r f=>r.1=none/\f=s/\∀ v∈c,∃ k' b',v=.ref b'/\IsTupleKey (intKind prog w) s.heap k' b') _ ?_ ?_ _ _ ⟨rfl,rfl,m⟩
 .rintro v c r f ⟨g,rfl,e⟩
  obtain⟨k',b',rfl,d⟩:=e v mem_cons_self;have a:∀ v∈c,∃ k' b',v=.ref b'/\IsTupleKey (intKind prog w) f.heap k' b':=λu i=>e u (mem_cons_of_mem _ i)
  dsimp only
  split
  .exact wpAny_pure ⟨rfl,rfl,a⟩
  .refine wpAny_bind (wpAny_eqIsQuiet_tuple j ?_)
   rw[if_neg (by decide)];refine wpAny_bind (wpAny_eqIsQuiet_tuple d ?_);rw[if_neg (by decide)];refine wpAny_bind (lA j ?_);rw[if_neg (by decide)];refine wpAny_bind (lA d ?_);rw[if_neg (by decide)];exact wpAny_pure ⟨rfl,rfl,a⟩
 .rintro⟨o,n⟩ f ⟨g,rfl,_⟩
  simp only at g;subst g;exact wpAny_pure h
theorem pC{h:Int}{Q:SetFound->Shared->Prop}(D:A.units<cLine)(x:SG w s.heap a es ep t)(u:IsTupleKey (intKind prog w) s.heap k b)(B:∀ e∈es.toList,∃ k',uA prog w s.heap e k'/\k'≠k)(q:∀ j,j<=t.mask->t.slot j=.empty->Q (.free j false) s) :
  ∀(m fuel:Nat) (st:Option SetTable.Probe),m<fuel->m<10*SetTable.turns t.mask->SetM.Ends t m (st.getD (t.probeStart h))->SetM.Pin t (st.getD (t.probeStart h))->wpAny (model prog w) A (setSearchFrom a (.ref b) h true fuel st) Q E s:=by
 intro m
 induction m using Nat.strongRecOn with
 | _ m ih =>
  intro fuel st L N P M;cases fuel with
  | zero=>exact absurd L (Nat.not_lt_zero m)
  | succ fuel =>
   unfold setSearchFrom;refine wpAny_bind (ci x ?_);dsimp only;rw[if_neg (by rw[rS x.ok];exact Bool.false_ne_true)];generalize hq:SetTable.probe t _ h (st.getD (t.probeStart h))=o;obtain⟨f,O⟩:∃ f,Out t f h m o:=by rw[<- hq];exact⟨_,jP x.ok.nd N P M⟩
   cases O with
   | empty j hj hs=>exact wpAny_pure (q j hj hs)
   | cand j i k' next hs hh hk' he' hp' =>
    dsimp only;have r:i<es.size:=by have:=(Array.getElem?_eq_some_iff.mp (jQ hs)).1;rw[x.ok.sz]at this;exact this
    have c:es[i]? = some es[i]:=Array.getElem?_eq_getElem r;obtain⟨R,⟨K,y,d,_⟩,C⟩:=B es[i] (List.mem_of_getElem? (by rw[Array.getElem?_toList];exact c));generalize es[i]=e0 at c y;obtain⟨S,F⟩:=e0;obtain rfl:F=.ref K:=y
    split
    .refine wpAny_bind (uR u (λv J=>?_) ?_)
     .obtain⟨e,n,rfl⟩:=mem_map.mp J
      have l:e∈es.toList:=by
       have:=Array.mem_toList_iff.mp n;exact Array.mem_toList_iff.mpr (Array.mem_filter.mp this).1
      obtain⟨I,⟨H,G,g,_⟩,_⟩:=B e l;exact⟨I,H,G,g⟩
     rw[if_neg Bool.false_ne_true];rw[c];dsimp only;refine wpAny_bind (wpAny_holding (wpAny_eqBool_tuple D d u ?_));rw[decide_eq_false C];refine wpAny_bind (ci x ?_);dsimp only;rw[if_neg (by decide),show t.sameMemory t.moves t.mask=some true by unfold SetTable.sameMemory;rw[if_pos (beq_self_eq_true _)]];dsimp only;rw[if_pos rfl,hs];dsimp only;rw[c];dsimp only;refine wpAny_bind (wpAny_isSame_ref_self (wpAny_bind (wpAny_pure ?_)));rw[if_pos rfl];dsimp only;rw[if_neg Bool.false_ne_true];exact ih k' hk' fuel (some next) (by lia) (by lia) he' hp'
    .rw[c]
     dsimp only;refine wpAny_bind (wpAny_holding (wpAny_eqBool_tuple D d u ?_));rw[decide_eq_false C];refine wpAny_bind (ci x ?_);dsimp only;rw[if_neg (by decide),show t.sameMemory t.moves t.mask=some true by unfold SetTable.sameMemory;rw[if_pos (beq_self_eq_true _)]];dsimp only;rw[if_pos rfl,hs];dsimp only;rw[c];dsimp only;refine wpAny_bind (wpAny_isSame_ref_self (wpAny_bind (wpAny_pure ?_)));rw[if_pos rfl];dsimp only;rw[if_neg Bool.false_ne_true];exact ih k' hk' fuel (some next) (by lia) (by lia) he' hp'
end
section
variable {prog:Program}{w:World}{A:Around}{E:Value->Shared->Prop}{s:Shared}{a b:Addr}{es:Array (Int×Value)}{ep:Nat}{t:SetTable}{k:List Int}
theorem pP{m:Nat}{Q:Bool->Shared->Prop}(i:IsTupleKey (intKind prog w) s.heap k b)(h:Q true s):wpAny (model prog w) A (hashByValue (m+1) (.ref b)) Q E s:=by
 have j:=i.typeIs;obtain⟨o,c,n,l,C,q,y⟩:=i;unfold hashByValue;refine wpAny_bind (wpAny_specialOf j F.slot_tuple_hash.lookup ?_);show wpAny _ _ (seqItems? (.ref b) >>= _) _ _ _;unfold seqItems?;refine wpAny_bind (wpAny_bind (wpAny_load l ?_));rw[q];refine wpAny_pure ?_;show wpAny _ _ (forIn c _ _ >>= _) _ _ _;refine wpAny_bind ?_;rw[<- Array.forIn_toList];refine wpAny_forIn_list _ (λa r g=>r.1=none/\g=s/\∀ v∈a,∃ n t,v=.int n t) _ ?_ ?_ _ _ ⟨rfl,rfl,iZ y⟩
 .rintro v a r g ⟨e,rfl,d⟩
  obtain⟨x,B,rfl⟩:=d v mem_cons_self;rw[show hashByValue m (.int x B)=pure true by cases m <;> rfl];refine wpAny_bind (wpAny_pure ?_);rw[if_neg (by decide)];exact wpAny_pure ⟨rfl,rfl,λu f=>d u (mem_cons_of_mem _ f)⟩
 .rintro⟨G,D⟩ g ⟨e,rfl,_⟩
  simp only at e;subst e;exact wpAny_pure h
structure AddT(w:World)(h:Heap)(a:Addr)(es:Array (Int×Value))(x:Int×Value)(es':Array (Int×Value))(ep':Nat)(t':SetTable):Prop where
 at_:SG w h a es' ep' t'
 pm:es'.toList.Perm (x::es.toList)
theorem ug{Q:Bool->Shared->Prop}(S:A.units<cLine)(h5:es.size<=50)(x:SG w s.heap a es ep t)(L:IsTupleKey (intKind prog w) s.heap k b)(O:∀ e∈es.toList,∃ k',uA prog w s.heap e k'/\k'≠k)
  (q:∀ h' es' ep' t',Heap.SameBut a s.heap h'->AddT w h' a es (tupleKeyHash (intKind prog w) k,.ref b) es' ep' t'->Q true { s with heap:=h' }):wpAny (model prog w) A (setAddHashed a (.ref b) (tupleKeyHash (intKind prog w) k)) Q E s:=by
 obtain⟨o,J,n,K⟩:=x.at_;have sl:sizeLine=16777216:=sizeLine_eq;unfold setAddHashed setAddHashedIn;refine wpAny_holding (wpAny_bind (ci x ?_));dsimp only;rw[show byScan (.ref b) es=false from rfl,if_neg Bool.false_ne_true];unfold setSearch;obtain⟨m,D,X⟩:=iK x.ok (tupleKeyHash (intKind prog w) k)
 have y:m<100000:=by have:=x.ok.ms;unfold SetTable.turns at D;rcases this with e | e | e <;> rw[e]at D <;> lia
 refine wpAny_bind (pC S x L O (λj W hs=>?_) m 100000 none y D X (jS t _));dsimp only;refine wpAny_bind (ci x ?_);dsimp only;obtain⟨P,e1,G,B,T,Z⟩:=nP x.ok W hs;have F:=SetM.ins_perm es (t.put j).2 (tupleKeyHash (intKind prog w) k,Value.ref b);have l:=SetM.ins_size es (t.put j).2 (tupleKeyHash (intKind prog w) k,Value.ref b);generalize SetTable.insertAt es (t.put j).2 (tupleKeyHash (intKind prog w) k,Value.ref b)=es1 at F l;generalize (t.put j).1=T1 at P G B T Z;have I:es1.size<=sizeLine:=by lia
 have h:wpAny (model prog w) A (do
   storeSet a es1 T1
   if (!false && T1.tooFull)=true then do
    setRelay a (SetTable.grown (es.size+1))
    pure true
   else pure true) Q E s:=by
  refine wpAny_bind (wpAny_storeSet_of J K ?_ I);have d:=gE (es':=es1) (t':=T1) J K
  split
  .rename_i hz
   have f:T1.tooFull=true:=by simpa using hz
   have fw:=x.ok.few;have g:es.size+1<=60:=by lia
   have r:(es.size+1)*5<T1.mask*3+5:=by rw[G];lia
   obtain⟨C,c,N,M,R,l1,l2⟩:=jL P f r g (es1.map (·.1)) (by rw[Array.size_map,l]);have H:(c.filterMap (es1[·]?)).toList.Perm es1.toList:=jo (by rw[l];exact R);have i:(c.filterMap (es1[·]?)).size=es1.size:=by have:=H.length_eq;rwa [Array.length_toList,Array.length_toList]at this
   have U:T1.mask*3<=(es.size+1)*5:=by
    have u:=f;unfold SetTable.tooFull SetTable.fill at u;rw[P.sz,P.nd]at u;have u:decide ((es.size+1+0)*5 >= T1.mask*3)=true:=u;have:=of_decide_eq_true u;lia
   obtain⟨Y,_⟩:=i7 P.ms U r g;unfold setRelay;refine wpAny_bind ?_;refine wpAny_bind (wpAny_setState_of d rfl (by rw[l];exact P.fits) ?_);dsimp only;rw[if_neg (by rw[sl];rcases Y with e | e <;> lia)];rw[N];refine wpAny_bind (wpAny_of_eq (a:=(c.filterMap (es1[·]?),C)) ?_ ?_)
   .show(if ((c.filterMap (es1[·]?)).size != es1.size)=true then _ else _)=_
    rw[if_neg (by rw[i];simp)]
   dsimp only;refine wpAny_storeSet_of d rfl ?_ (by rw[i];exact I);have v:=gE (s:={ s with heap:=s.heap.update a (Obj.putSet es1 T1) }) (es':=c.filterMap (es1[·]?)) (t':=C) d rfl;refine wpAny_pure ?_;exact q _ _ _ C ((Heap.SameBut.update ..).trans (Heap.SameBut.update ..)) ⟨⟨⟨_,v,n,rfl⟩,by rw[i,l];exact M,by rw[l1,B];exact x.led⟩,H.trans F⟩
  .rename_i hz
   have f:T1.tooFull=false:=by simpa using hz
   refine wpAny_pure ?_;exact q _ es1 _ T1 (Heap.SameBut.update ..) ⟨⟨⟨_,d,n,rfl⟩,by rw[l];exact P.s f,by rw[B];exact x.led⟩,F⟩
 split
 .exact wpAny_bind (pP L h)
 .exact wpAny_bind (wpAny_pure h)
end
section
variable {prog:Program}{w:World}{A:Around}{R:Result->Shared->Prop}{I:Addr}{fp wr:List Addr}{G:Array GenState->Array GenState->Prop}{n:Nat}{P:Nat->Value->Prop}{St:Nat->Shared->Prop}
structure TpG(prog:Program)(w:World)(h:Heap)(a:Addr)(key:Nat->List Int)(i:Nat)(es:Array (Int×Value))(ep:Nat)(t:SetTable):Prop where
 at_:SG w h a es ep t
 sz:es.size=i
 tup:∀ e∈es.toList,∃ j,j<i/\uA prog w h e (key j)
theorem jN{h h':Heap}{k:List Int}{b:Addr}(x:IsTupleKey (intKind prog w) h k b)(e:∀ o,h.get? b=some o->h'.get? b=some o):IsTupleKey (intKind prog w) h' k b:=let ⟨o,items,m,ho,r⟩:=x;⟨o,items,m,e o ho,r⟩
theorem ss(W:WalksS prog w A.in1 I fp wr G n P St)(S:Addr)(M:S ∉ fp)(hu:A.in1.units<cLine)(key:Nat->List Int)(bs:Nat->Addr)(m:n<=50)(y:∀ i<n,bs i ∉ S::wr)(nd:∀ i j,i<j->j<n->key i≠key j)(N:∀ i v,P i v->v=.ref (bs i)) :
  ∀(k i:Nat) (s:Shared) (es:Array (Int×Value)) (ep:Nat) (t:SetTable),n - i=k->i<=n->St i s->(∀ j<n,IsTupleKey (intKind prog w) s.heap (key j) (bs j))->(∀ e∈es.toList,∃ j,j<n/\e.2=.ref (bs j))->TpG prog w s.heap S key i es ep t ->
   (∀ s' es' ep' t',Moved (S::wr) G s s'->SG w s'.heap S es' ep' t'->es'.size=n->R (.ok (.ret .none)) s') ->
   codeAny (model prog w) A (.builtin "set.update.loop" ⟨[.ref S,.ref I],[]⟩) R s:=by
 have K:S ∉ wr:=λh=>M (W.sub _ h)
 have c:∀ b∈wr,b∈S::wr:=λb m=>mem_cons_of_mem _ m
 intro k;induction k with
 | zero =>
  intro i s es ep t hk hi u hK l B X;have Y:i=n:=by lia
  subst Y;refine codeAny_builtin F.entry_set_update_loop ?_;rw[Around.under_plainId F.plain_set_update_loop _];show wpAny _ A.in1 (pyNext (.ref I) >>= _) _ _ s;refine wpAny_bind (W.done s _ _ u λs' C=>?_);show wpAny _ A.in1 (ret Value.none) _ _ s';exact wpAny_pure (X s' es ep t (C.mono c) (B.at_.on λo e=>C.heap S _ K e) B.sz)
 | succ k ih =>
  intro i s es ep t hk hi u hK l B X;have a:i<n:=by lia
  refine codeAny_builtin F.entry_set_update_loop ?_;rw[Around.under_plainId F.plain_set_update_loop _];show wpAny _ A.in1 (pyNext (.ref I) >>= _) _ _ s;refine wpAny_bind (W.item i s _ _ a u λv s' hP E C=>?_);obtain rfl:=N i v hP;have U:=B.at_.on (h':=s'.heap) λo e=>C.heap S _ K e
  have f:∀ j<n,IsTupleKey (intKind prog w) s'.heap (key j) (bs j):=λj d=>jN (hK j d) λo e=>C.heap _ _ (λz=>y j d (c _ z)) e
  have L:∀ e∈es.toList,∃ j,j<i/\uA prog w s'.heap e (key j):=λe q=>by
   obtain⟨j,d,b,H,D,Q⟩:=B.tup e q;obtain⟨O,x,g⟩:=l e q;rw[H]at g;injection g with g
   subst g;exact⟨j,d,_,H,jN D λo e=>C.heap _ _ (λz=>y O x (c _ z)) e,Q⟩
  show wpAny _ A.in1 (holding [Value.ref (bs i)] (setAdd S (.ref (bs i))) >>= _) _ _ s';refine wpAny_bind (wpAny_holding ?_);unfold setAdd;refine wpAny_holding ?_;refine wpAny_bind (wpAny_pyHash_tuple hu (f i a) ?_);refine ug (s:={ s' with toks:=s'.toks+((key i).length+1) }) hu (by rw[B.sz];lia) U (f i a) (λe q=>by obtain⟨j,d,hr⟩:=L e q;exact⟨key j,hr,nd j i d a⟩) λh' es' ep' t' hsb hS2=>?_
  have r:∀ b,b≠S->∀ o,s'.heap.get? b=some o->h'.get? b=some o:=λb m o e=>by rw[hsb.2 b m];exact e
  have Z:∀ j<n,bs j≠S:=λj d e=>y j d (by rw[e];exact mem_cons_self)
  have J:∀ e∈es'.toList,∃ j,j<n/\e.2=.ref (bs j):=λe q=>by
   rcases mem_cons.mp (hS2.pm.mem_iff.mp q) with z | z
   .exact⟨i,a,by rw[z]⟩
   .exact l e z
  have T2:TpG prog w h' S key (i+1) es' ep' t':=by
   refine⟨hS2.at_,?_,λe q=>?_⟩
   .have:=hS2.pm.length_eq
    rw[Array.length_toList,length_cons,Array.length_toList,B.sz]at this;exact this
   .rcases mem_cons.mp (hS2.pm.mem_iff.mp q) with z | z
    .exact⟨i,Nat.lt_succ_self i,bs i,by rw[z],jN (f i a) λo e=>r _ (Z i a) o e,by rw[z]⟩
    .obtain⟨j,d,b,H,D,Q⟩:=L e z
     obtain⟨O,x,g⟩:=l e z;rw[H]at g;injection g with g
     subst g;exact⟨j,by lia,_,H,jN D λo e=>r _ (Z O x) o e,Q⟩
  refine wpAny_pure ⟨plainId_quiet F.plain_set_update_loop _,ih (i+1) _ es' ep' t' (by lia) a (W.frame _ s' _ _ E (Nat.le_add_right _ _) λb m o e=>?_) (λj d=>jN (f j d) λo e=>r _ (Z j d) o e) J T2 λs'' t2 D m2 hm'' hS''=>?_⟩
  .have T:=hsb.2 b (λh:b=S=>M (by rw[<- h];exact m));rw[T];exact e
  .refine X s'' t2 D m2 (Moved.trans W.gtrans ((C.mono c).then_heap (Nat.le_add_right _ _) λb o m e=>?_) hm'') hS'';have T:=hsb.2 b (λh:b=S=>m (by rw[h];exact mem_cons_self));rw[T];exact e
end
section
variable {prog:Program}{w:World}{A:Around}{E:Value->Shared->Prop}{s:Shared}
theorem rX{l:Addr}{items:Array Value}{key:Nat->List Int}{bs:Nat->Addr}{Q:Value->Shared->Prop}(hh:A.handled=none)(hu:A.units+64<cLine)(hl:s.heap.IsList l items)(C:items.size<=50)(hv:∀(i:Nat) (v:Value),items[i]? = some v->v=.ref (bs i))(W:∀ j<items.size,IsTupleKey (intKind prog w) s.heap (key j) (bs j))(nd:∀ i j,i<j->j<items.size->key i≠key j)
  (h:∀(h':Heap) (tk:Nat) es ep t,SG w h' s.heap.objs.size es ep t->es.size=items.size->(∀ b o,b<s.heap.objs.size->s.heap.get? b=some o->h'.get? b=some o)->Q (.ref s.heap.objs.size) { s with heap:=h',toks:=tk }) :
  wpAny (model prog w) A (call (.type "set") [.ref l]) Q E s:=by
 obtain⟨c,tl,P⟩:=F.called_set.mro;have G:=F.called_set.made;have S:=F.called_set.sub;refine wpAny_call (codeAny_of_tree ?_);show wpAny _ _ (callAny (.type "set") _) _ _ _;refine wpAny_pure ⟨Code.quiet_builtin _ (by decide +kernel),codeAny_builtin F.entry_type_call ?_⟩;rw[Around.under_plain (weight_type_call_type "set" [.ref l] []) rfl];have h1:=F.called_set.notType;have h2:=F.called_set.canCreate;have ah:=F.typeCall_set_1 (.ref l);repeat (any_goals (first | assumption | wp_step))
 refine codeAny_mono (ri (.ref l) (E:=E) (Q₁:=λB f=>B=.ref s.heap.objs.size/\f={ s with heap:=s.heap.push ({ cls:=.type "set",dict:=none,data:=.set #[] 0 (.fresh 0 0 (!byT w)) }:Obj) }) ⟨rfl,rfl⟩) λr f hr=>?_
 cases r with
 | error e=>exact hr
 | ok fl =>
  cases fl with
  | ret B =>
   obtain⟨rfl,rfl⟩:=hr;have Y:(s.heap.push ({ cls:=.type "set",dict:=none,data:=.set #[] 0 (.fresh 0 0 (!byT w)) }:Obj)).get? s.heap.objs.size=some ({ cls:=.type "set",dict:=none,data:=.set #[] 0 (.fresh 0 0 (!byT w)) }:Obj):=Heap.get?_push_size _ rfl;have hT:Shared.TypeIs { s with heap:=s.heap.push ({ cls:=.type "set",dict:=none,data:=.set #[] 0 (.fresh 0 0 (!byT w)) }:Obj) } (.ref s.heap.objs.size) "set" := ⟨_,Y,rfl⟩;have an:=F.called_set.init.lookup;have al:=F.called_set.init.bind (.ref s.heap.objs.size);repeat (any_goals (first | assumption | wp_step))
   refine codeAny_mono (codeAny_call_builtin (R:=wants (λr d=>r=.none/\∃ h' tk es ep t,d={ s with heap:=h',toks:=tk }/\(SG w h' s.heap.objs.size es ep t/\es.size=items.size)/\(∀ b o,b<s.heap.objs.size->s.heap.get? b=some o->h'.get? b=some o)) E) F.called_set.init.plain F.entry_set_init (check_set_init_1 hT ?_)) λr₂ d hr₂=>?_
   .obtain⟨ol,m,k,X,u⟩:=hl;obtain⟨ocls,odict,odata,oslots⟩:=ol;simp only at k u;subst k;subst u
    have y:(s.heap.push ({ cls:=.type "set",dict:=none,data:=.set #[] 0 (.fresh 0 0 (!byT w)) }:Obj)).get? l=some { cls:=.type "list",dict:=odict,data:=.seq items X,slots:=oslots }:=Heap.get?_push_of_some _ m;have U:=F.sub_list_set;have T:=F.sub_list_frozenset;have ab:(Value.type "list" == Value.type "dict")=false:=by decide
    have x:(s.heap.push ({ cls:=.type "set",dict:=none,data:=.set #[] 0 (.fresh 0 0 (!byT w)) }:Obj)).IsList l items:=⟨_,y,rfl,X,rfl⟩
    unfold Builtin.«set.__init__» noKeywords Builtin.Frozenset.updateFrom;generalize hPI:pyIter=PI;wp_walk;subst hPI;refine wpAny_pyIter_list x ?_;refine wpAny_bind (wpAny_runValue ?_);have g:l<s.heap.objs.size:=Heap.lt_size m;have I:A.in1.in1.in1.handled=none:=by simp[hh]
    have q:l≠(s.heap.push ({ cls:=.type "set",dict:=none,data:=.set #[] 0 (.fresh 0 0 (!byT w)) }:Obj)).objs.size:=by rw[Heap.size_push];exact Nat.ne_of_lt (Nat.lt_succ_of_lt g)
    have L:s.heap.objs.size ∉ [(s.heap.push ({ cls:=.type "set",dict:=none,data:=.set #[] 0 (.fresh 0 0 (!byT w)) }:Obj)).objs.size,l]:=by rw[Heap.size_push];simp only[mem_cons,mem_singleton,not_mem_nil,or_false,not_or];exact⟨Nat.ne_of_lt (Nat.lt_succ_self _),Nat.ne_of_gt g⟩
    refine ss ((Walks.list I _ l q items).toS) s.heap.objs.size L (by simp only[Around.in1];lia) key bs C (λi hi=>?hbs) nd hv (items.size - 0) 0 _ #[] 0 (.fresh 0 0 (!byT w)) (by lia) (Nat.zero_le _) ⟨⟨_,Heap.get?_push_size _ rfl,rfl,rfl⟩,(x.push _)⟩ (λj hj=>jN (W j hj) λo e=>Heap.get?_push_of_some _ (Heap.get?_push_of_some _ e)) (λe M=>by cases M) ?hS0 ?hR
    case hS0=>exact⟨⟨⟨({ cls:=.type "set",dict:=none,data:=.set #[] 0 (.fresh 0 0 (!byT w)) }:Obj),Heap.get?_push_of_some _ Y,⟨rfl,rfl,rfl⟩,rfl⟩,mK _,rfl⟩,rfl,(λe M=>by cases M)⟩
    case hbs =>
     have n:bs i<s.heap.objs.size:=by obtain⟨o,_,_,ho,_⟩:=W i hi;exact Heap.lt_size ho
     rw[Heap.size_push];simp only[mem_cons,mem_singleton,not_mem_nil,or_false,not_or];exact⟨Nat.ne_of_lt n,Nat.ne_of_lt (Nat.lt_succ_of_lt n)⟩
    case hR =>
     intro Z J O t' D a K;obtain⟨h',g',d',tk',os'⟩:=Z;have eg:g'=s.gens:=D.gens;have ed:d'=s.drawn:=D.drawn;have eo:os'=s.os:=D.os;subst eg;subst ed;subst eo;show wpAny _ _ _ _ _ _;refine wpAny_pure ?_;show wpAny _ _ (ret Value.none) _ _ _;refine wpAny_pure ⟨rfl,h',tk',J,O,t',rfl,⟨a,K⟩,λb o C e=>?_⟩;have H:b≠(s.heap.push ({ cls:=.type "set",dict:=none,data:=.set #[] 0 (.fresh 0 0 (!byT w)) }:Obj)).objs.size:=by rw[Heap.size_push];exact Nat.ne_of_lt (Nat.lt_succ_of_lt C)
     exact D.heap b o (by simp only[mem_cons,mem_singleton,not_mem_nil,or_false,not_or];exact⟨Nat.ne_of_lt C,H⟩) (Heap.get?_push_of_some _ (Heap.get?_push_of_some _ e))
   .cases r₂ with
    | error e=>exact hr₂
    | ok fl₂ =>
     cases fl₂ with
     | ret r =>
      obtain⟨rfl,h',tk,es,ep,t,rfl,a,N⟩:=hr₂;repeat (any_goals (first | assumption | wp_step))
      exact h _ _ _ _ _ a.1 a.2 N
     | _=>exact hr₂.elim
  | _=>exact hr.elim
end
theorem jd{P:Program}{w:World}:∀{ns:List Int}{us:List Value},Vals (ns.map V.int) us->ItemsAre (intKind P w) ns us
 | [],_,.nil=>.nil
 | n::ns,_,.cons r t=>by
  obtain⟨a,rfl⟩:=r;exact .cons (intKind_is _ _ _ _) (jd t)
theorem tu{P:Program}{w:World}{H:Hp}{h:Heap}{b:Addr}{c:List Int}(d:HOk P w H h)(e:H b=some (.tup (c.map V.int))):IsTupleKey (intKind P w) h c b:=by
 obtain⟨_,a,r,o,f,i,n,g⟩:=(show ObjOk P w H h b (.tup (c.map V.int)) from d b _ e)
 exact⟨o,a.toArray,n,f,i,g,by rw[List.toList_toArray];exact jd r⟩
def SLo(w:World)(a:Addr)(n:Nat):Heap->Prop:=λh=>∃ es ep t,SG w h a es ep t/\es.size=n
section
variable {X:Cx}
theorem oa(M:X.calm=true)(L:X.A.units+64<cLine):CallR X (.type "set") (λxs H Q=>∃(p:Addr) (bs:List Addr) (ks:List (List Int)),xs=[.ref p]/\SqL X.K H p (bs.map V.ref)/\PySem.Paired (λb k=>H b=some (.tup (k.map V.int))) bs ks/\ks.Nodup/\ks.length<=50/\∀ q,H q=none->Q (.ref q) (upd H q (.ext (SLo X.w q ks.length)))):=by
 intro A s P H xs f Q I r h;obtain⟨p,bs,ks,rfl,D,l,J,F,q⟩:=h;obtain⟨u,rfl,E⟩:=di r;cases E;obtain⟨c,x,O,R⟩:=I.list D;have K:c.length=bs.length:=by have:=x.length;rw[length_map]at this;exact this.symm
 have C:bs.length=ks.length:=PySem.Paired.length l;have n:c.toArray.size=ks.length:=by rw[size_toArray];lia
 have w:∀ j,j<ks.length->H (bs.getD j 0)=some (.tup ((ks.getD j []).map V.int)):=λj d=>by
  have g:∀{bs:List Addr}{ks:List (List Int)}{j:Nat},PySem.Paired (λb k=>H b=some (.tup (k.map V.int))) bs ks->j<ks.length->H (bs.getD j 0)=some (.tup ((ks.getD j []).map V.int)):=by
   intro bs ks j G
   induction G generalizing j with
   | nil=>intro h;cases h
   | cons r t ih =>
    intro h;cases j with
    | zero=>exact r
    | succ j=>exact ih (Nat.lt_of_succ_lt_succ h)
  exact g l d
 have m:∀(i:Nat) (v:Value),c.toArray[i]? = some v->v=.ref (bs.getD i 0):=λi v m=>by
  rw[List.getElem?_toArray]at m
  have g:∀{bs:List Addr}{f:List Value}{i:Nat}{v:Value},Vals (bs.map V.ref) f->f[i]? = some v->v=.ref (bs.getD i 0):=by
   intro bs
   induction bs with
   | nil=>intro f i v r h;cases r;cases h
   | cons b bs ih =>
    intro f i v r h;cases r with
    | cons r t =>
     cases i with
     | zero=>cases h;exact r
     | succ i=>exact ih t h
  exact g x m
 refine rX (key:=λi=>ks.getD i []) (bs:=λi=>bs.getD i 0) (I.ok.hd M) L O.isList (by rw[n];exact F) m (λj d=>tu I.hok (w j (by rw[<- n];exact d))) (λi j hij d=>?_) λh' tk es ep t hS hz' hk=>?_
 .rw[n]at d
  have B:ks[i]? = some ks[i]:=List.getElem?_eq_getElem (by lia);have y:ks[j]? = some ks[j]:=List.getElem?_eq_getElem d;show ks.getD i []≠ks.getD j [];rw[List.getD,B,List.getD,y];exact List.pairwise_iff_getElem.mp J i j (by lia) d hij
 .rw[n]at hz'
  have N:H s.heap.objs.size=none:=I.hok.fresh (Nat.le_refl _);refine⟨.ref s.heap.objs.size,_,I.laid (a:=s.heap.objs.size) (o:=.ext (SLo X.w s.heap.objs.size ks.length)) (t':=tk) (λb u z=>hk b u (Heap.lt_size z) z) (Nat.le_refl _) ⟨⟨es,ep,t,hS,hz'⟩,?_,λB y ⟨es,ep,t,a1,a2⟩ k=>⟨es,ep,t,a1.on λo e=>k o e,a2⟩⟩,rfl,q _ N⟩;obtain⟨o,e,_⟩:=hS.at_;exact⟨o,e⟩
theorem qg:CallR X (.builtin "len") (λxs H Q=>∃(p:Addr) (n:Nat),xs=[.ref p]/\H p=some (.ext (SLo X.w p n))/\n<=1000/\Q (.int (n:Nat)) H):=by
 intro c s l H xs k Q I r h;obtain⟨p,n,rfl,g,m,q⟩:=h;obtain⟨u,rfl,f⟩:=di r;cases f
 obtain⟨⟨v,j,t,b,i⟩,_⟩:=(show ObjOk X.prog X.w H s.heap p (.ext (SLo X.w p n)) from I.hok p _ g)
 obtain⟨o,d,a,e⟩:=b.at_;refine call_len_set d a e b.ok.p.fits (by lia) ?_;exact⟨.int (n:Nat),H,I.tok _,⟨_,by rw[i]⟩,q⟩
end
end L2
namespace FrM
theorem jc(z:List Int)(p:Nat->Bool):∀ l:List Nat,bD z l=bD z (l.filter p)+bD z (l.filter λk=>!p k)/\l.length=(l.filter p).length+(l.filter λk=>!p k).length
 | []=>by simp[bD]
 | a::l=>by
  obtain⟨c,b⟩:=jc z p l;have e:∀ r:List Nat,bD z (a::r)=sz z a+bD z r:=λr=>by unfold bD;rw[map_cons,sum_cons]
  cases h:p a with
  | true =>
   rw[filter_cons_of_pos (by exact h),filter_cons_of_neg (by simp[h]),e,e,length_cons,length_cons];lia
  | false =>
   rw[filter_cons_of_neg (by simp[h]),filter_cons_of_pos (by simp[h]),e,e,length_cons,length_cons];lia
theorem rB{z:List Int}{l:List Nat}{w:Int}(b:∀ k∈l,1<=sz z k)(f:w<l.length)(r:0<w):0<w - ((l.length:Int) - ((stay z l w).length:Int)):=by
 have n:=mD b f (by lia);obtain⟨c,h⟩:=jc z (λk=>decide (sz z k*w<bD z l)) l;have i:l.filter (λk=>decide (sz z k*w<bD z l))=stay z l w:=rfl;rw[i]at c h;have m:=gr z (stay z l w) λk a=>b k (mem_filter.mp a).1
 have o:=gh z w (bD z l) (l.filter λk=>!decide (sz z k*w<bD z l)) λk a=>by
  have:=(mem_filter.mp a).2;simpa using this
 generalize (l.filter λk=>!decide (sz z k*w<bD z l))=hi at *;have e:bD z hi<=bD z l - 1:=by lia
 have d:bD z hi*w<=(bD z l - 1)*w:=Int.mul_le_mul_of_nonneg_right e (by lia);rw[Int.sub_mul,Int.one_mul]at d;have g:(hi.length:Int)*bD z l<w*bD z l:=by rw[Int.mul_comm w];lia
 have j:=gr z l b;have q:=Int.lt_of_mul_lt_mul_right g (by lia);lia
theorem oE{z:List Int}{n:Nat}{m:Int}(a:∀ k,k<n->1<=sz z k):∀(c:Nat) (l:List Nat) (w:Int),l.length<=c->Rnd z n m l w->0<w->0<(fin z l w).2/\∀ k∈(fin z l w).1,sz z k*(fin z l w).2<bD z (fin z l w).1
 | 0,l,w,hc,h,_=>absurd h.pos (by lia)
 | c+1,l,w,hc,h,w0=>by
  by_cases e:(stay z l w).length=l.length
  .rw[i4 e]
   refine⟨w0,λk b=>?_⟩;have:=List.length_filter_eq_length_iff.mp e k b;simpa using this
  .rw[nR e]
   have:=iC z l w;exact oE a c _ _ (by lia) (h.step a) (rB (λk b=>a k (h.sub k b)) h.lt w0)
structure FrOk(f:Int×Int):Prop where
 pos:0<f.2
 lo:0<=f.1
 hi:f.1<=f.2
 bd:f.2<=576000000
 ends:¬(0<f.1/\f.1<f.2)->f=(1,1)\/f=(0,1)
theorem wY{T B:Int}(k:0<T)(d:T<B)(n:B<=576000000):FrOk (dC T B):=by
 have h:=sA (t:=T) (b:=B) (by lia);generalize dC T B=f at h;obtain⟨t,b⟩:=f;have a:0<b:=h.pos;have l:b<=B:=(wK (by lia) h).1;have e:t*B=T*b:=h.eq;have m:0<T*b:=Int.mul_pos k a
 have i:0<t:=by
  rcases Int.lt_or_le 0 t with g | g
  .exact g
  .exact absurd (Int.mul_nonpos_of_nonpos_of_nonneg g (show 0<=B by lia)) (by lia)
 have j:t<b:=by
  have c:T*b<B*b:=Int.mul_lt_mul_of_pos_right d a;rw[<- e,Int.mul_comm B b]at c;exact Int.lt_of_mul_lt_mul_right c (by lia)
 exact⟨a,by show 0<=t;lia,by show t<=b;lia,by show b<=576000000;lia,λg=>absurd ⟨i,j⟩ g⟩
theorem v7{z:List Int}{m:Int}(g:∀ k,k<z.length->1<=sz z k)(i:∀ k,k<z.length->sz z k<=24000000)(r:z.length<=24)(o:0<=m):∀ f∈due z m,FrOk f:=by
 have d:FrOk (1,1):=⟨by decide,by decide,by decide,by decide,λ_=>.inl rfl⟩
 have e:FrOk (0,1):=⟨by decide,by decide,by decide,by decide,λ_=>.inr rfl⟩
 intro f a;unfold due at a
 by_cases h1:(z.length:Int)<=m
 .rw[if_pos h1]at a
  obtain⟨_,_,rfl⟩:=mem_map.mp a;exact d
 .rw[if_neg h1]at a
  by_cases h2:m=0
  .rw[if_pos h2]at a
   obtain⟨_,_,rfl⟩:=mem_map.mp a;exact e
  .rw[if_neg h2]at a
   obtain⟨k,h,rfl⟩:=mem_map.mp a;have S:=Rnd.start (z:=z) (n:=z.length) (m:=m) (by lia) (by lia);have R:=Rnd.fin g _ _ _ (Nat.le_refl _) S;obtain⟨j,c⟩:=oE g _ _ _ (Nat.le_refl _) S (by lia)
   by_cases hd:decide (k∈(FrM.fin z (List.range z.length) m).1)=true
   .rw[if_pos hd]
    have b:=of_decide_eq_true hd;have l:=kG z 24000000 _ λk h=>i k (R.sub k h)
    have u:=R.len;have q:=g k (R.sub k b);exact wY (Int.mul_pos (by lia) j) (c k b) (by lia)
   .rw[if_neg hd]
    exact d
end FrM
namespace Du
open FrM
def fr(q:Rat):Int×Int:=(q.num,(q.den:Int))
theorem fJ(n:Int){d:Nat}(a:d≠0):dC n (d:Int)=fr (mkRat n d):=by
 unfold dC fr;rw[Rat.num_mkRat,Rat.den_mkRat,if_neg a,if_neg a];have e:Int.gcd n (d:Int)=d.gcd n.natAbs:=by rw[Int.gcd,Nat.gcd_comm];rfl
 rw[e];rfl
theorem ld(t:Int){b:Int}(a:0<b):dC t b=fr ((t:Rat)/(b:Rat)):=by
 obtain⟨d,rfl⟩:=Int.eq_ofNat_of_zero_le (Int.le_of_lt a);rw[fJ t (by omega),<- Rat.divInt_eq_div,<- Rat.divInt_ofNat]
theorem um(p q:Rat):dC (p.num*(q.den:Int)+q.num*(p.den:Int)) ((p.den:Int)*(q.den:Int))=fr (p+q):=by
 rw[Rat.add_def',<- fJ _ (Nat.mul_ne_zero p.den_nz q.den_nz)];simp
theorem tF(p q:Rat):dC (p.num*q.num) ((p.den:Int)*(q.den:Int))=fr (p*q):=by
 rw[Rat.mul_def',<- fJ _ (Nat.mul_ne_zero p.den_nz q.den_nz)];simp
def Bb(q:Rat):Prop:=Bt 1000 q.num/\Bt 1000 (q.den:Int)
def Bq(D:Nat)(q:Rat):Prop:=0<=q/\q<=1/\∃ n:Nat,q*(D:Rat)=(n:Rat)
def Bz(D:Nat)(q:Rat):Prop:=∃ n:Int,q*(D:Rat)=(n:Rat)/\n.natAbs<=4*D
theorem sr{D:Nat}(h:0<D):(0:Rat)<(D:Rat):=by exact_mod_cast h
theorem xM{D:Nat}{q:Rat}{n:Int}(a:0<D)(e:q*(D:Rat)=(n:Rat)):q=mkRat n D:=by
 have b:=sr a;have:q=(n:Rat)/(D:Rat):=by grind
 rw[this,<- Rat.divInt_ofNat,Rat.divInt_eq_div];rfl
theorem Bz.bb{D:Nat}{q:Rat}(d:0<D)(r:D<2 ^ 980)(h:Bz D q):Bb q:=by
 obtain⟨n,e,o⟩:=h;have i:=xM d e;have l:=fJ n (show D≠0 by omega);rw[<- i]at l;have c:(0:Int)<(D:Int):=by omega
 obtain⟨_,_,_,g,f⟩:=low n (D:Int) c;have k:(dC n (D:Int)).1=q.num:=by rw[l];rfl
 have m:(dC n (D:Int)).2=(q.den:Int):=by rw[l];rfl
 have b:n/(Int.gcd n (D:Int):Int)=q.num:=k;have a:(D:Int)/(Int.gcd n (D:Int):Int)=(q.den:Int):=m;rw[b]at g;rw[a]at f;have j:(2:Nat) ^ 1000=2 ^ 980*1048576:=by decide +kernel
 unfold Bb Bt;rw[j]
 constructor <;> omega
theorem wo{n:Nat}:(0:Rat)<=(n:Rat):=by exact_mod_cast Nat.zero_le n
theorem vH{n m:Nat}(h:(n:Rat)<=(m:Rat)):n<=m:=by exact_mod_cast h
theorem i5{a b:Rat}(c:0<=a)(d:0<=b):0<=a*b:=Rat.mul_nonneg c d
theorem Bq.nat{D:Nat}{q:Rat}(h:Bq D q):∃ n:Nat,q*(D:Rat)=(n:Rat)/\n<=D:=by
 obtain⟨a,b,n,e⟩:=h;refine⟨n,e,vH ?_⟩;have:=i5 (show 0<=1 - q by grind) (wo (n:=D))
 grind
theorem Bq.z{D:Nat}{q:Rat}(h:Bq D q):Bz D q:=by
 obtain⟨n,e,a⟩:=h.nat;exact⟨(n:Int),by rw[e];rfl,by omega⟩
theorem Bq.bb{D:Nat}{q:Rat}(b:0<D)(a:D<2 ^ 980)(h:Bq D q):Bb q:=h.z.bb b a
theorem Bq.mul{D E:Nat}{q r:Rat}(h:Bq D q)(h':Bq E r):Bq (D*E) (q*r):=by
 obtain⟨a,d,n,e⟩:=h;obtain⟨b,c,m,f⟩:=h';refine⟨i5 a b,?_,n*m,?_⟩
 .have:=i5 a (show 0<=1 - r by grind)
  grind
 .push_cast
  grind
theorem Bq.add{D:Nat}{q r:Rat}(h:Bq D q)(h':Bq D r)(l:q+r<=1):Bq D (q+r):=by
 obtain⟨b,d,n,e⟩:=h;obtain⟨c,a,m,f⟩:=h';refine⟨by grind,l,n+m,?_⟩
 push_cast
 grind
theorem Bq.zero{D:Nat}:Bq D 0:=⟨by grind,by grind,0,by grind⟩
theorem Bq.one{D:Nat}:Bq D 1:=⟨by grind,by grind,D,by grind⟩
section
variable {B:Nat}{h c:Rat}
end
end Du
namespace Tb
open FrM Du
inductive Tr where
 | leaf (ns:List Int)
 | die (ps:List (Int×Tr))
def tot(ps:List (Int×Tr)):Int:=(ps.map (·.1)).sum
mutual
def lv:Tr->Nat
 | .leaf _=>1
 | .die ps=>lvs ps
def lvs:List (Int×Tr)->Nat
 | []=>0
 | (_,u)::r=>lv u+lvs r
end
mutual
def sz:Tr->Nat
 | .leaf _=>1
 | .die ps=>szs ps+1
def szs:List (Int×Tr)->Nat
 | []=>0
 | (_,u)::r=>sz u+szs r
end
mutual
def Ok:Tr->Prop
 | .leaf ns=>ns.Nodup/\ns.length<=24
 | .die ps=>ps≠[]/\Oks ps
def Oks:List (Int×Tr)->Prop
 | []=>True
 | (m,u)::r=>1<=m/\Ok u/\Oks r
end
abbrev Way:=List Int×(Int×Int)
mutual
def wl:Tr->Int->Int->List Way
 | .leaf ns,t,b=>[(ns,(t,b))]
 | .die ps,t,b=>wls ps t b (tot ps)
def wls:List (Int×Tr)->Int->Int->Int->List Way
 | [],_,_,_=>[]
 | (m,u)::r,t,b,S=>wls r t b S++wl u (t*m) (b*S)
end
abbrev Ent:=Tr×(Int×Int)
def st:List Ent->List Way
 | []=>[]
 | (u,(t,b))::r=>st r++wl u t b
abbrev Rws:=List (List Int×Rat)
mutual
def wf:Tr->Rat->Rws
 | .leaf ns,q=>[(ns,q)]
 | .die ps,q=>wfs ps q (tot ps)
def wfs:List (Int×Tr)->Rat->Int->Rws
 | [],_,_=>[]
 | (m,u)::r,q,S=>wf u (q*((m:Rat)/(S:Rat)))++wfs r q S
end
end Tb
namespace LexM
end LexM
namespace Tb
open FrM Du LexM
def so(l:List Int):List Int:=l.mergeSort (λa b=>decide (a<=b))
theorem so_perm(l:List Int):(so l).Perm l:=List.mergeSort_perm l _
theorem so_srt(l:List Int):(so l).Pairwise (·<=·):=by
 have h:=List.pairwise_mergeSort (le:=λ(a b:Int)=>decide (a<=b)) (by intro a b c h1 h2;simp at *;lia) (by intro a b;simp;lia) l;exact h.imp λh=>by simpa using h
theorem le_uniq:∀{a b:List Int},a.Perm b->a.Pairwise (·<=·)->b.Pairwise (·<=·)->a=b
 | [],b,p,_,_=>(List.nil_perm.mp p).symm ▸ rfl
 | x::a,[],p,_,_=>absurd p.length_eq (by simp)
 | x::a,y::b,p,h1,h2=>by
  rw[pairwise_cons]at h1 h2
  have e:x=y:=by
   have d:x∈y::b:=p.mem_iff.mp mem_cons_self;have c:y∈x::a:=p.mem_iff.mpr mem_cons_self
   rcases mem_cons.mp d with z | z
   .exact z
   .rcases mem_cons.mp c with z' | z'
    .exact z'.symm
    .have:=h2.1 x z
     have:=h1.1 y z';lia
  subst e;rw[le_uniq (List.perm_cons x |>.mp p) h1.2 h2.2]
theorem so_uniq{a l:List Int}(h:a.Perm l)(s:a.Pairwise (·<=·)):a=so l:=le_uniq (h.trans (so_perm l).symm) s (so_srt l)
def kR(W:Rws):Rws:=W.map λw=>(so w.1,w.2)
def kt(t:Tr):Rws:=kR (wf t 1)
theorem ox(q:Rat)(S:Int):∀(a b:List (Int×Tr)),wfs (a++b) q S=wfs a q S++wfs b q S
 | [],b=>by rw[nil_append,wfs,nil_append]
 | (m,u)::a,b=>by rw[List.cons_append,wfs,wfs,ox q S a b,append_assoc]
theorem rO{ps:List (Int×Tr)}{i:Nat}{m:Int}{u:Tr}(q:Rat)(S:Int)(h:ps[i]? = some (m,u)):wfs (ps.take (i+1)) q S=wfs (ps.take i) q S++wf u (q*((m:Rat)/(S:Rat))):=by
 rw[take_add_one,h,ox]
 congr 1
 show wfs [(m,u)] q S=_;rw[wfs,wfs,append_nil]
theorem wj(A B:Rws):kR (A++B)=kR A++kR B:=by unfold kR;rw[map_append]
mutual
theorem wf_len:∀(t:Tr) (q:Rat),(wf t q).length=lv t
 | .leaf _,_=>rfl
 | .die ps,q=>by rw[wf,lv];exact kO ps q _
theorem kO:∀(ps:List (Int×Tr)) (q:Rat) (S:Int),(wfs ps q S).length=lvs ps
 | [],_,_=>rfl
 | (m,u)::r,q,S=>by rw[wfs,lvs,length_append,wf_len u,kO r]
end
theorem rY(W:Rws):(kR W).length=W.length:=by unfold kR;rw[length_map]
theorem share_bq{m S:Int}(i:1<=m)(b:m<=S):Bq S.toNat ((m:Rat)/(S:Rat)):=by
 have e:(0:Rat)<(S:Rat):=by have:(0:Int)<S:=(by lia);exact_mod_cast this
 have c:(0:Rat)<=(m:Rat):=by have:(0:Int)<=m:=(by lia);exact_mod_cast this
 have g:(m:Rat)<=(S:Rat):=by exact_mod_cast b
 have f:=Rat.inv_pos.mpr e;have h:(S:Rat)*(S:Rat)⁻¹=1:=by grind
 rw[Rat.div_def];refine⟨i5 c (by grind),?_,m.toNat,?_⟩
 .have:=i5 (show(0:Rat)<=(S:Rat) - (m:Rat) by grind) (show(0:Rat)<=(S:Rat)⁻¹ by grind)
  grind
 .have a:((S.toNat:Nat):Rat)=(S:Rat):=by
   have:((S.toNat:Nat):Int)=S:=by lia
   exact_mod_cast this
  have d:((m.toNat:Nat):Rat)=(m:Rat):=by
   have:((m.toNat:Nat):Int)=m:=by lia
   exact_mod_cast this
  rw[a,d]
  grind
theorem lvs_part{ps:List (Int×Tr)}{i:Nat}{m:Int}{u:Tr}(h:ps[i]? = some (m,u)):lvs (ps.take i)+lv u<=lvs ps:=by
 induction ps generalizing i with
 | nil=>cases h
 | cons x r ih =>
  obtain⟨a,b⟩:=x;cases i with
  | zero=>cases h;show 0+lv u<=lv u+lvs r;lia
  | succ i =>
   have:=ih (i:=i) h;rw[List.take_succ_cons,lvs,lvs];lia
mutual
def bnd:Tr->(List Int->Tr)->Tr
 | .leaf ns,g=>g (so ns)
 | .die ps,g=>.die (xi ps g)
def xi:List (Int×Tr)->(List Int->Tr)->List (Int×Tr)
 | [],_=>[]
 | (m,u)::r,g=>(m,bnd u g)::xi r g
end
mutual
def Dq:Nat->Tr->Prop
 | _,.leaf ns=>ns.Nodup/\ns.length<=12
 | 0,.die _=>False
 | d+1,.die ps=>1<=ps.length/\ps.length<=4/\Dqs d ps
def Dqs:Nat->List (Int×Tr)->Prop
 | _,[]=>True
 | d,(m,u)::r=>1<=m/\m<=1000000000/\Dq d u/\Dqs d r
end
mutual
def Lb:Tr->Prop
 | .leaf ns=>ns.length<=12
 | .die ps=>Lbs ps
def Lbs:List (Int×Tr)->Prop
 | []=>True
 | (_,u)::r=>Lb u/\Lbs r
end
mutual
def Par(o:Int):Tr->Prop
 | .leaf ns=>(∀ x∈ns,x % 2=o)/\ns.length<=6/\ns.Nodup
 | .die ps=>xx o ps
def xx(o:Int):List (Int×Tr)->Prop
 | []=>True
 | (_,u)::r=>Par o u/\xx o r
end
mutual
def Lq:Tr->Prop
 | .leaf ns=>ns.length<=6
 | .die ps=>Lqs ps
def Lqs:List (Int×Tr)->Prop
 | []=>True
 | (_,u)::r=>Lq u/\Lqs r
end
theorem so_nd{a:List Int}(h:a.Nodup):(so a).Nodup:=(so_perm a).nodup_iff.mpr h
def fT:List Int->Nat->List Int->Tr
 | [],_,t=>.leaf t
 | x::r,w,t=>if w=0 then .leaf t else if r.length+1<=w then .leaf (t++x::r) else .die [((w:Int),fT r (w - 1) (t++[x])),((r.length:Int)+1 - (w:Int),fT r w t)]
def lT:List (Int×(Int×Int))->List Int->Tr
 | [],t=>.leaf t
 | (p,c)::r,t=>.die [(c.1,lT r (t++[p])),(c.2 - c.1,lT r t)]
def ba(places:List Int)(first step:Nat):List Int:=((List.range places.length).filter λk=>decide (k % step=first)).filterMap (places[·]?)
def sT(ps:List Int)(st:Nat):Tr:=.die ((List.range st).map λf=>(1,.leaf (ba ps f st)))
theorem fT_zero(l t:List Int):fT l 0 t=.leaf t:=by cases l <;> rfl
theorem fT_all{l t:List Int}{w:Nat}(h:l.length<=w):fT l w t=.leaf (if w=0 then t else t++l):=by
 cases l with
 | nil=>unfold fT;split <;> simp
 | cons x r =>
  unfold fT
  by_cases c:w=0
  .rw[if_pos c,if_pos c]
  .rw[if_neg c,if_neg c,if_pos (by rw[length_cons]at h;exact h)]
theorem fT_die{l t:List Int}{w:Nat}(a:0<w)(h:w<l.length):fT l w t=.die [((w:Int),fT (l.drop 1) (w - 1) (t++l.take 1)),((l.length:Int) - (w:Int),fT (l.drop 1) w t)]:=by
 cases l with
 | nil=>exact absurd h (Nat.not_lt_zero w)
 | cons x r =>
  rw[length_cons]at h
  conv=>lhs;unfold fT
  rw[if_neg (by lia),if_neg (by lia),length_cons];rfl
end Tb
namespace My
open PySem L2 FrM
def top(i:Nat):Stmt:=PySem.Challenge.pw_fewspeak_k25_whole_small_plans_walked.main.body.getD i (.Pass ⟨0,0,0,0⟩)
abbrev bz:Stmt:=aT (top 3) 0
abbrev aB:Stmt:=top 5
abbrev du:Stmt:=top 6
abbrev dq:Stmt:=top 7
abbrev ce:Stmt:=top 9
abbrev aJ:Stmt:=aT (top 12) 0
abbrev aO:Stmt:=aT (top 12) 1
abbrev bF:Stmt:=aT (top 12) 2
abbrev bj:Stmt:=aT (top 12) 3
abbrev bh:Stmt:=aT (top 12) 4
abbrev aN:Stmt:=aT (top 13) 0
abbrev aR:Stmt:=aT (top 13) 1
abbrev b9:Stmt:=aT (top 13) 2
abbrev bI:Stmt:=aT (top 13) 3
abbrev bL:Stmt:=aT (top 13) 4
abbrev cI:Stmt:=top 19
abbrev aE:Stmt:=top 20
abbrev bK:Stmt:=top 21
abbrev bG:Stmt:=top 22
abbrev bH:Stmt:=top 23
abbrev br:Stmt:=top 24
abbrev aS:Stmt:=top 25
abbrev aM:Stmt:=aT (top 27) 0
abbrev b7:Stmt:=aT (top 27) 1
abbrev aU:Stmt:=aT (top 27) 2
abbrev bn:Stmt:=aT (top 27) 3
abbrev bC:Stmt:=top 28
abbrev bt:Stmt:=top 29
abbrev aF:Stmt:=aT (top 30) 0
abbrev bu:Stmt:=aT (top 30) 1
abbrev aH:Stmt:=aT (top 30) 2
abbrev aK:Stmt:=aT (top 30) 3
abbrev aV:Stmt:=top 31
abbrev aD:Stmt:=aT (top 32) 0
abbrev bi:Stmt:=aT (top 32) 1
abbrev aI:Stmt:=aT (top 32) 2
abbrev aL:Stmt:=aT (top 32) 3
abbrev bM:Stmt:=top 33
abbrev aQ:Stmt:=top 34
abbrev cO:Stmt:=top 36
abbrev dw:Stmt:=top 37
abbrev dv:Stmt:=top 38
abbrev cv:Stmt:=top 39
abbrev dn:Stmt:=top 40
abbrev cM:Stmt:=top 41
abbrev cu:Stmt:=top 42
abbrev bp:Stmt:=top 43
abbrev cc:Stmt:=top 44
abbrev cy:Stmt:=top 45
abbrev cN:Stmt:=top 46
abbrev bv:Stmt:=top 47
abbrev cK:Stmt:=top 48
abbrev cq:Stmt:=top 49
abbrev gs:Stmt:=top 50
theorem fS{N P:List Str}{e:Scope}(a:e.kind=.function)(b:e.isCoroutine=false)(c:e.isGenerator=false)(d:N.take P.length=P)(h:N.Nodup/\(∀ x∈P,e.names.lookup x = some .local \/ e.names.lookup x = some .cell)/\∀ y∈e.names,y.2≠.free):FnScope N P e:=⟨a,b,c,h.1,d,h.2.1,h.2.2⟩
theorem sc_m:FnScope ["one","other"] ["one","other"] (ac aB):=fS rfl rfl rfl rfl (by decide +kernel)
theorem sc_D:FnScope ["top","bottom","divisor"] ["top","bottom"] (ac du):=fS rfl rfl rfl rfl (by decide +kernel)
theorem si:FnScope ["one","other"] ["one","other"] (ac dq):=fS rfl rfl rfl rfl (by decide +kernel)
theorem lN:FnScope ["thing","low","high"] ["thing","low","high"] (ac ce):=fS rfl rfl rfl rfl (by decide +kernel)
theorem gY:FnScope ["self","kept"] ["self","kept"] (ac aJ):=fS rfl rfl rfl rfl (by decide +kernel)
theorem io:FnScope ["self"] ["self"] (ac aO):=fS rfl rfl rfl rfl (by decide +kernel)
theorem kx:FnScope ["self"] ["self"] (ac bF):=fS rfl rfl rfl rfl (by decide +kernel)
theorem jB:FnScope ["self"] ["self"] (ac bj):=fS rfl rfl rfl rfl (by decide +kernel)
theorem jw:FnScope ["self"] ["self"] (ac bh):=fS rfl rfl rfl rfl (by decide +kernel)
theorem ir:FnScope ["self","parts"] ["self","parts"] (ac aN):=fS rfl rfl rfl rfl (by decide +kernel)
theorem iP:FnScope ["self"] ["self"] (ac aR):=fS rfl rfl rfl rfl (by decide +kernel)
theorem mO:FnScope ["self"] ["self"] (ac b9):=fS rfl rfl rfl rfl (by decide +kernel)
theorem lh:FnScope ["self"] ["self"] (ac bI):=fS rfl rfl rfl rfl (by decide +kernel)
theorem kK:FnScope ["self"] ["self"] (ac bL):=fS rfl rfl rfl rfl (by decide +kernel)
theorem qG:FnScope ["sizes","many"] ["sizes","many"] (ac cI):=fS rfl rfl rfl rfl (by decide +kernel)
theorem sc_l:FnScope ["sizes","many","left","wanted","whole","staying"] ["sizes","many"] (ac aE):=fS rfl rfl rfl rfl (by decide +kernel)
theorem kf:FnScope ["crowd","many"] ["crowd","many"] (ac bK):=fS rfl rfl rfl rfl (by decide +kernel)
theorem kL:FnScope ["crowd"] ["crowd"] (ac bG):=fS rfl rfl rfl rfl (by decide +kernel)
theorem kD:FnScope ["many","tell"] ["many","tell"] (ac bH):=fS rfl rfl rfl rfl (by decide +kernel)
theorem jx:FnScope ["one","many","tell"] ["one","many","tell"] (ac br):=fS rfl rfl rfl rfl (by decide +kernel)
theorem iU:FnScope ["thing","low","high"] ["thing","low","high"] (ac aS):=fS rfl rfl rfl rfl (by decide +kernel)
theorem ig:FnScope ["self","many"] ["self","many"] (ac aM):=fS rfl rfl rfl rfl (by decide +kernel)
theorem lJ:FnScope ["self","crowd"] ["self","crowd"] (ac b7):=fS rfl rfl rfl rfl (by decide +kernel)
abbrev eV:Expr:=(nh (lU (mz aU 2)) 1)
def cn:LamD:=ia ((("Few.matrix" : Str) ++ ".<locals>.") ++ "<lambda>") eV
theorem sc_f:FnScope ["self","crowd","there","wanted"] ["self","crowd"] (ac aU):=fS rfl rfl rfl rfl (by decide +kernel)
theorem sc_u:FnScope ["self","crowd","wanted"] ["self","crowd"] (ac bn):=fS rfl rfl rfl rfl (by decide +kernel)
abbrev fU:Expr:=(uz (tQ (nh (lU (mz bC 3)) 0) 0) 1)
def cx:LamD:=ia ((("few_node" : Str) ++ ".<locals>.") ++ "<lambda>") fU
abbrev fP:Expr:=(uz (tQ (nh (lU (mz bC 3)) 0) 1) 1)
def cw:LamD:=ia ((("few_node" : Str) ++ ".<locals>.") ++ "<lambda>") fP
theorem sc_h:FnScope ["ahead","wanted","taken","rest"] ["ahead","wanted","taken"] (ac bC):=fS rfl rfl rfl rfl (by decide +kernel)
theorem jq:FnScope ["there","wanted","is_same"] ["there","wanted","is_same"] (ac bt):=fS rfl rfl rfl rfl (by decide +kernel)
theorem gA:FnScope ["self","step"] ["self","step"] (ac aF):=fS rfl rfl rfl rfl (by decide +kernel)
theorem sc_p:FnScope ["self","crowd","places","step"] ["self","crowd"] (ac bu):=fS rfl rfl rfl rfl (by decide +kernel)
abbrev d7:Expr:=(nh (lU (mz aH 1)) 1)
def bZ:LamD:=ia ((("Start.matrix" : Str) ++ ".<locals>.") ++ "<lambda>") d7
theorem sc_a:FnScope ["self","crowd","step"] ["self","crowd"] (ac aH):=fS rfl rfl rfl rfl (by decide +kernel)
theorem ii:FnScope ["self","crowd"] ["self","crowd"] (ac aK):=fS rfl rfl rfl rfl (by decide +kernel)
abbrev eU:Expr:=(lU (mz aV 0))
def aX:LamD:=ia ((("start_make" : Str) ++ ".<locals>.") ++ "<lambda>") eU
theorem jy:FnScope ["places","step","first"] ["places","step","first"] (ac aV):=fS rfl rfl rfl rfl (by decide +kernel)
theorem gw:FnScope ["self","many"] ["self","many"] (ac aD):=fS rfl rfl rfl rfl (by decide +kernel)
theorem sc_q:FnScope ["self","crowd","told","sure"] ["self","crowd"] (ac bi):=fS rfl rfl rfl rfl (by decide +kernel)
abbrev d0:Expr:=(nh (lU (mz aI 1)) 1)
def bY:LamD:=ia ((("Loose.matrix" : Str) ++ ".<locals>.") ++ "<lambda>") d0
theorem sc_b:FnScope ["self","crowd","told"] ["self","crowd"] (ac aI):=fS rfl rfl rfl rfl (by decide +kernel)
theorem sc_n:FnScope ["self","crowd","told"] ["self","crowd"] (ac aL):=fS rfl rfl rfl rfl (by decide +kernel)
theorem kn:FnScope ["chance"] ["chance"] (ac bM):=fS rfl rfl rfl rfl (by decide +kernel)
abbrev eX:Expr:=(uz (tQ (nh (lU (mz aQ 3)) 0) 0) 1)
def bS:LamD:=ia ((("loose_node" : Str) ++ ".<locals>.") ++ "<lambda>") eX
abbrev eY:Expr:=(uz (tQ (nh (lU (mz aQ 3)) 0) 1) 1)
def bR:LamD:=ia ((("loose_node" : Str) ++ ".<locals>.") ++ "<lambda>") eY
theorem sc_c:FnScope ["ahead","taken","place","chance","rest"] ["ahead","taken"] (ac aQ):=fS rfl rfl rfl rfl (by decide +kernel)
theorem qr:FnScope ["_law_script","_law_k"] ["_law_script","_law_k"] (ac cO):=fS rfl rfl rfl rfl (by decide +kernel)
theorem sc_ac:FnScope ["_law_cell_here","_law_k","_law_number"] ["_law_cell_here","_law_k"] (ac dw):=fS rfl rfl rfl rfl (by decide +kernel)
theorem sc_X:FnScope ["_law_cell_here","_law_bit","_law_many","_law_most","_law_row_here","_law_k"] ["_law_cell_here","_law_bit","_law_many","_law_most"] (ac dv):=fS rfl rfl rfl rfl (by decide +kernel)
theorem nM:FnScope ["_law_found"] ["_law_found"] (ac cv):=fS rfl rfl rfl rfl (by decide +kernel)
theorem sc_U:FnScope ["_law_top","_law_bottom","_law_one","_law_other"] ["_law_top","_law_bottom"] (ac dn):=fS rfl rfl rfl rfl (by decide +kernel)
theorem pY:FnScope ["_law_one","_law_other"] ["_law_one","_law_other"] (ac cM):=fS rfl rfl rfl rfl (by decide +kernel)
theorem nB:FnScope ["_law_one","_law_other"] ["_law_one","_law_other"] (ac cu):=fS rfl rfl rfl rfl (by decide +kernel)
theorem jG:FnScope ["_law_found","_law_due"] ["_law_found","_law_due"] (ac bp):=fS rfl rfl rfl rfl (by decide +kernel)
theorem sc_J:FnScope ["_law_found","_law_due","_law_row_here","_law_others","_law_one","_law_other"] ["_law_found","_law_due"] (ac cc):=fS rfl rfl rfl rfl (by decide +kernel)
theorem sc_K:FnScope ["_law_script","_law_start","_law_most","_law_many","_law_bit","_law_sizes","_law_left","_law_places","_law_pick","_law_path"] ["_law_script","_law_start","_law_most"] (ac cy):=fS rfl rfl rfl rfl (by decide +kernel)
theorem sc_F:FnScope ["_law_node","_law_much","_law_found","_law_many","_law_part"] ["_law_node","_law_much"] (ac cN):=fS rfl rfl rfl rfl (by decide +kernel)
theorem sc_r:FnScope ["_law_ways_here","_law_places","_law_rows","_law_kept","_law_much","_law_found","_law_one","_law_row_here","_law_other","_law_total"] ["_law_ways_here","_law_places"] (ac bv):=fS rfl rfl rfl rfl (by decide +kernel)
theorem sc_S:FnScope ["_law_plan","_law_crowd_here","_law_places","_law_ways_here","_law_sizes_kept","_law_total","_law_kept","_law_much"] ["_law_plan","_law_crowd_here"] (ac cK):=fS rfl rfl rfl rfl (by decide +kernel)
theorem sc_R:FnScope ["_law_plan","_law_crowd_here","_law_many","_law_ways_here","_law_sets","_law_k"] ["_law_plan","_law_crowd_here","_law_many"] (ac cq):=fS rfl rfl rfl rfl (by decide +kernel)
theorem sc_ae:FnScope ["_law_script","_law_crowd_here","_law_many","_law_plan"] ["_law_script"] (ac gs):=fS rfl rfl rfl rfl (by decide +kernel)
set_option genInjectivity false in
set_option genSizeOf false in
structure Ad where
 f_m:Addr
 d_m:FuncData
 f_D:Addr
 d_D:FuncData
 f_ad:Addr
 d_ad:FuncData
 f_W:Addr
 d_W:FuncData
 f_ab:Addr
 d_ab:FuncData
 f_l:Addr
 d_l:FuncData
 f_w:Addr
 d_w:FuncData
 f_x:Addr
 d_x:FuncData
 f_y:Addr
 d_y:FuncData
 f_L:Addr
 d_L:FuncData
 f_o:Addr
 d_o:FuncData
 f_h:Addr
 d_h:FuncData
 f_M:Addr
 d_M:FuncData
 f_i:Addr
 d_i:FuncData
 f_Q:Addr
 d_Q:FuncData
 f_c:Addr
 d_c:FuncData
 f_C:Addr
 d_C:FuncData
 f_ac:Addr
 d_ac:FuncData
 f_X:Addr
 d_X:FuncData
 f_V:Addr
 d_V:FuncData
 f_U:Addr
 d_U:FuncData
 f_T:Addr
 d_T:FuncData
 f_Y:Addr
 d_Y:FuncData
 f_N:Addr
 d_N:FuncData
 f_J:Addr
 d_J:FuncData
 f_K:Addr
 d_K:FuncData
 f_F:Addr
 d_F:FuncData
 f_r:Addr
 d_r:FuncData
 f_S:Addr
 d_S:FuncData
 f_R:Addr
 d_R:FuncData
 f_ae:Addr
 d_ae:FuncData
 c_P:Addr
 c_z:Addr
 i_z:Addr
 e_z:FuncData
 c_Z:Addr
 c_g:Addr
 i_g:Addr
 e_g:FuncData
 c_j:Addr
 i_j:Addr
 e_j:FuncData
 c_aa:Addr
 c_k:Addr
 i_k:Addr
 e_k:FuncData
 c_d:Addr
 i_d:Addr
 e_d:FuncData
 c_e:Addr
 i_e:Addr
 e_e:FuncData
 x_s:Addr
 y_s:FuncData
 x_v:Addr
 y_v:FuncData
 x_G:Addr
 y_G:FuncData
 x_O:Addr
 y_O:FuncData
 x_A:Addr
 y_A:FuncData
 x_H:Addr
 y_H:FuncData
 x_B:Addr
 y_B:FuncData
 x_I:Addr
 y_I:FuncData
 x_p:Addr
 y_p:FuncData
 x_a:Addr
 y_a:FuncData
 x_t:Addr
 y_t:FuncData
 x_q:Addr
 y_q:FuncData
 x_b:Addr
 y_b:FuncData
 x_n:Addr
 y_n:FuncData
 x_E:Addr
 y_E:FuncData
 x_f:Addr
 y_f:FuncData
 x_u:Addr
 y_u:FuncData
 k_NOUGHT:Addr
 k_WHOLE:Addr
 lc_b:Addr
 lp_b:Addr
 lc_c:Addr
 lp_c:Addr
 lc_a:Addr
 lp_a:Addr
 lc_i:Addr
 lp_i:Addr
 lc_f:Addr
 lp_f:Addr
 lc_h:Addr
 lp_h:Addr
abbrev dG:List (Pos×Str):=[(lM d0,((("Loose.matrix" : Str) ++ ".<locals>.") ++ "<lambda>"))]
theorem ie:(dG).Pairwise λx y=>¬(x.1.line=y.1.line/\x.1.col=y.1.col):=by decide +kernel
abbrev d9:List (Pos×Str):=[(lM eX,((("loose_node" : Str) ++ ".<locals>.") ++ "<lambda>")),(lM eY,((("loose_node" : Str) ++ ".<locals>.") ++ "<lambda>"))]
theorem fY:(d9).Pairwise λx y=>¬(x.1.line=y.1.line/\x.1.col=y.1.col):=by decide +kernel
abbrev dD:List (Pos×Str):=[(lM d7,((("Start.matrix" : Str) ++ ".<locals>.") ++ "<lambda>"))]
theorem im:(dD).Pairwise λx y=>¬(x.1.line=y.1.line/\x.1.col=y.1.col):=by decide +kernel
abbrev ez:List (Pos×Str):=[(lM eU,((("start_make" : Str) ++ ".<locals>.") ++ "<lambda>"))]
theorem jr:(ez).Pairwise λx y=>¬(x.1.line=y.1.line/\x.1.col=y.1.col):=by decide +kernel
abbrev d8:List (Pos×Str):=[(lM eV,((("Few.matrix" : Str) ++ ".<locals>.") ++ "<lambda>"))]
theorem jv:(d8).Pairwise λx y=>¬(x.1.line=y.1.line/\x.1.col=y.1.col):=by decide +kernel
abbrev fb:List (Pos×Str):=[(lM fU,((("few_node" : Str) ++ ".<locals>.") ++ "<lambda>")),(lM fP,((("few_node" : Str) ++ ".<locals>.") ++ "<lambda>"))]
theorem hG:(fb).Pairwise λx y=>¬(x.1.line=y.1.line/\x.1.col=y.1.col):=by decide +kernel
def tabs(a:Ad):lx:=[(a.lp_b,dG),(a.lp_c,d9),(a.lp_a,dD),(a.lp_i,ez),(a.lp_f,d8),(a.lp_h,fb)]
theorem iq(a:Ad):(a.lp_b,dG)∈tabs a:=(.head _)
theorem fW(a:Ad):(a.lp_c,d9)∈tabs a:=(.tail _ (.head _))
theorem iu(a:Ad):(a.lp_a,dD)∈tabs a:=(.tail _ (.tail _ (.head _)))
theorem jF(a:Ad):(a.lp_i,ez)∈tabs a:=(.tail _ (.tail _ (.tail _ (.head _))))
theorem jC(a:Ad):(a.lp_f,d8)∈tabs a:=(.tail _ (.tail _ (.tail _ (.tail _ (.head _)))))
theorem g9(a:Ad):(a.lp_h,fb)∈tabs a:=(.tail _ (.tail _ (.tail _ (.tail _ (.tail _ (.head _))))))
structure Txt(K:Frag)(mg:Str->Option Value)(a:Ad):Prop where
 lcd_b:a.y_b.code=.ref a.lc_b
 lch_b:codeHdIn K a.lc_b a.lp_b=true
 lcd_c:a.d_c.code=.ref a.lc_c
 lch_c:codeHdIn K a.lc_c a.lp_c=true
 lcd_a:a.y_a.code=.ref a.lc_a
 lch_a:codeHdIn K a.lc_a a.lp_a=true
 lcd_i:a.d_i.code=.ref a.lc_i
 lch_i:codeHdIn K a.lc_i a.lp_i=true
 lcd_f:a.y_f.code=.ref a.lc_f
 lch_f:codeHdIn K a.lc_f a.lp_f=true
 lcd_h:a.d_h.code=.ref a.lc_h
 lch_h:codeHdIn K a.lc_h a.lp_h=true
 tnd:((tabs a).map (·.1)).Nodup
 F_m:Fun K "greatest_divisor" "greatest_divisor" aB a.f_m a.d_m
 B_m:Binds K a.d_m ["one","other"] []
 m_m:mg "greatest_divisor" = some (.ref a.f_m)
 F_D:Fun K "share" "share" du a.f_D a.d_D
 B_D:Binds K a.d_D ["top","bottom"] []
 m_D:mg "share" = some (.ref a.f_D)
 F_ad:Fun K "times" "times" dq a.f_ad a.d_ad
 B_ad:Binds K a.d_ad ["one","other"] []
 m_ad:mg "times" = some (.ref a.f_ad)
 F_W:Fun K "is_whole" "is_whole" ce a.f_W a.d_W
 B_W:Binds K a.d_W ["thing","low","high"] []
 m_W:mg "is_whole" = some (.ref a.f_W)
 F_ab:Fun K "wished" "wished" cI a.f_ab a.d_ab
 B_ab:Binds K a.d_ab ["sizes","many"] []
 m_ab:mg "wished" = some (.ref a.f_ab)
 F_l:Fun K "wished_of_some" "wished_of_some" aE a.f_l a.d_l
 B_l:Binds K a.d_l ["sizes","many"] []
 m_l:mg "wished_of_some" = some (.ref a.f_l)
 F_w:Fun K "wished_by" "wished_by" bK a.f_w a.d_w
 B_w:Binds K a.d_w ["crowd","many"] []
 m_w:mg "wished_by" = some (.ref a.f_w)
 F_x:Fun K "places_of" "places_of" bG a.f_x a.d_x
 B_x:Binds K a.d_x ["crowd"] []
 m_x:mg "places_of" = some (.ref a.f_x)
 F_y:Fun K "matrix_by" "matrix_by" bH a.f_y a.d_y
 B_y:Binds K a.d_y ["many","tell"] []
 m_y:mg "matrix_by" = some (.ref a.f_y)
 F_L:Fun K "matrix_row" "matrix_row" br a.f_L a.d_L
 B_L:Binds K a.d_L ["one","many","tell"] []
 m_L:mg "matrix_row" = some (.ref a.f_L)
 F_o:Fun K "need_number" "need_number" aS a.f_o a.d_o
 B_o:Binds K a.d_o ["thing","low","high"] []
 m_o:mg "need_number" = some (.ref a.f_o)
 F_h:Fun K "few_node" "few_node" bC a.f_h a.d_h
 B_h:Binds K a.d_h ["ahead","wanted","taken"] []
 m_h:mg "few_node" = some (.ref a.f_h)
 F_M:Fun K "few_chance" "few_chance" bt a.f_M a.d_M
 B_M:Binds K a.d_M ["there","wanted","is_same"] []
 m_M:mg "few_chance" = some (.ref a.f_M)
 F_i:Fun K "start_make" "start_make" aV a.f_i a.d_i
 B_i:Binds K a.d_i ["places","step","first"] []
 m_i:mg "start_make" = some (.ref a.f_i)
 F_Q:Fun K "is_unsure" "is_unsure" bM a.f_Q a.d_Q
 B_Q:Binds K a.d_Q ["chance"] []
 m_Q:mg "is_unsure" = some (.ref a.f_Q)
 F_c:Fun K "loose_node" "loose_node" aQ a.f_c a.d_c
 B_c:Binds K a.d_c ["ahead","taken"] []
 m_c:mg "loose_node" = some (.ref a.f_c)
 F_C:Fun K "_law_cell" "_law_cell" cO a.f_C a.d_C
 B_C:Binds K a.d_C ["_law_script","_law_k"] []
 m_C:mg "_law_cell" = some (.ref a.f_C)
 F_ac:Fun K "_law_mix" "_law_mix" dw a.f_ac a.d_ac
 B_ac:Binds K a.d_ac ["_law_cell_here","_law_k"] []
 m_ac:mg "_law_mix" = some (.ref a.f_ac)
 F_X:Fun K "_law_row" "_law_row" dv a.f_X a.d_X
 B_X:Binds K a.d_X ["_law_cell_here","_law_bit","_law_many","_law_most"] []
 m_X:mg "_law_row" = some (.ref a.f_X)
 F_V:Fun K "_law_whole" "_law_whole" cv a.f_V a.d_V
 B_V:Binds K a.d_V ["_law_found"] []
 m_V:mg "_law_whole" = some (.ref a.f_V)
 F_U:Fun K "_law_low" "_law_low" dn a.f_U a.d_U
 B_U:Binds K a.d_U ["_law_top","_law_bottom"] []
 m_U:mg "_law_low" = some (.ref a.f_U)
 F_T:Fun K "_law_plus" "_law_plus" cM a.f_T a.d_T
 B_T:Binds K a.d_T ["_law_one","_law_other"] []
 m_T:mg "_law_plus" = some (.ref a.f_T)
 F_Y:Fun K "_law_times" "_law_times" cu a.f_Y a.d_Y
 B_Y:Binds K a.d_Y ["_law_one","_law_other"] []
 m_Y:mg "_law_times" = some (.ref a.f_Y)
 F_N:Fun K "_law_fraction" "_law_fraction" bp a.f_N a.d_N
 B_N:Binds K a.d_N ["_law_found","_law_due"] []
 m_N:mg "_law_fraction" = some (.ref a.f_N)
 F_J:Fun K "_law_matrix" "_law_matrix" cc a.f_J a.d_J
 B_J:Binds K a.d_J ["_law_found","_law_due"] []
 m_J:mg "_law_matrix" = some (.ref a.f_J)
 F_K:Fun K "_law_crowd" "_law_crowd" cy a.f_K a.d_K
 B_K:Binds K a.d_K ["_law_script","_law_start","_law_most"] []
 m_K:mg "_law_crowd" = some (.ref a.f_K)
 F_F:Fun K "_law_ways" "_law_ways" cN a.f_F a.d_F
 B_F:Binds K a.d_F ["_law_node","_law_much"] []
 m_F:mg "_law_ways" = some (.ref a.f_F)
 F_r:Fun K "_law_together" "_law_together" bv a.f_r a.d_r
 B_r:Binds K a.d_r ["_law_ways_here","_law_places"] []
 m_r:mg "_law_together" = some (.ref a.f_r)
 F_S:Fun K "_law_good" "_law_good" cK a.f_S a.d_S
 B_S:Binds K a.d_S ["_law_plan","_law_crowd_here"] []
 m_S:mg "_law_good" = some (.ref a.f_S)
 F_R:Fun K "_law_alike" "_law_alike" cq a.f_R a.d_R
 B_R:Binds K a.d_R ["_law_plan","_law_crowd_here","_law_many"] []
 m_R:mg "_law_alike" = some (.ref a.f_R)
 F_ae:Fun K "law" "law" gs a.f_ae a.d_ae
 m_ae:mg "law" = some (.ref a.f_ae)
 g_MOST_MANY:∃ u,mg "MOST_MANY" = some u/\RelV (.int 24) u
 g_MOST_STEP:∃ u,mg "MOST_STEP" = some u/\RelV (.int 100) u
 g_NOUGHT:∃ u,mg "NOUGHT" = some u/\RelV (.ref a.k_NOUGHT) u
 t_NOUGHT:iN K a.k_NOUGHT [(.int 0),(.int 1)]=true
 g_WHOLE:∃ u,mg "WHOLE" = some u/\RelV (.ref a.k_WHOLE) u
 t_WHOLE:iN K a.k_WHOLE [(.int 1),(.int 1)]=true
 mc_g:mg "Told" = some (.ref a.c_g)
 cl_g:Cls K a.c_g
 mk_g:Mk K a.c_g a.i_g
 Fi_g:Fun K "__init__" "Told.__init__" aJ a.i_g a.e_g
 Bi_g:Binds K a.e_g ["self","kept"] []
 na_Told_rising:NoAttr K a.c_g "rising"
 mt_s:Meth K a.c_g "is_told" a.x_s
 mt_G:Meth K a.c_g "kept" a.x_G
 mt_A:Meth K a.c_g "sides" a.x_A
 mt_B:Meth K a.c_g "parts" a.x_B
 mc_j:mg "Die" = some (.ref a.c_j)
 cl_j:Cls K a.c_j
 mk_j:Mk K a.c_j a.i_j
 Fi_j:Fun K "__init__" "Die.__init__" aN a.i_j a.e_j
 Bi_j:Binds K a.e_j ["self","parts"] []
 na_Die_makes:NoAttr K a.c_j "makes"
 mt_v:Meth K a.c_j "is_told" a.x_v
 mt_O:Meth K a.c_j "kept" a.x_O
 mt_H:Meth K a.c_j "sides" a.x_H
 mt_I:Meth K a.c_j "parts" a.x_I
 mc_k:mg "Few" = some (.ref a.c_k)
 cl_k:Cls K a.c_k
 mk_k:Mk K a.c_k a.i_k
 Fi_k:Fun K "__init__" "Few.__init__" aM a.i_k a.e_k
 Bi_k:Binds K a.e_k ["self","many"] []
 na_Few_many:NoAttr K a.c_k "many"
 mt_E:Meth K a.c_k "node" a.x_E
 mt_f:Meth K a.c_k "matrix" a.x_f
 mt_u:Meth K a.c_k "bounds" a.x_u
 mc_d:mg "Start" = some (.ref a.c_d)
 cl_d:Cls K a.c_d
 mk_d:Mk K a.c_d a.i_d
 Fi_d:Fun K "__init__" "Start.__init__" aF a.i_d a.e_d
 Bi_d:Binds K a.e_d ["self","step"] []
 na_Start_step:NoAttr K a.c_d "step"
 mt_p:Meth K a.c_d "node" a.x_p
 mt_a:Meth K a.c_d "matrix" a.x_a
 mt_t:Meth K a.c_d "bounds" a.x_t
 mc_e:mg "Loose" = some (.ref a.c_e)
 cl_e:Cls K a.c_e
 mk_e:Mk K a.c_e a.i_e
 Fi_e:Fun K "__init__" "Loose.__init__" aD a.i_e a.e_e
 Bi_e:Binds K a.e_e ["self","many"] []
 na_Loose_many:NoAttr K a.c_e "many"
 mt_q:Meth K a.c_e "node" a.x_q
 mt_b:Meth K a.c_e "matrix" a.x_b
 mt_n:Meth K a.c_e "bounds" a.x_n
 F_s:Fun K "is_told" "Told.is_told" aO a.x_s a.y_s
 B_s:Binds K a.y_s ["self"] []
 F_v:Fun K "is_told" "Die.is_told" aR a.x_v a.y_v
 B_v:Binds K a.y_v ["self"] []
 F_G:Fun K "kept" "Told.kept" bF a.x_G a.y_G
 B_G:Binds K a.y_G ["self"] []
 F_O:Fun K "kept" "Die.kept" b9 a.x_O a.y_O
 B_O:Binds K a.y_O ["self"] []
 F_A:Fun K "sides" "Told.sides" bj a.x_A a.y_A
 B_A:Binds K a.y_A ["self"] []
 F_H:Fun K "sides" "Die.sides" bI a.x_H a.y_H
 B_H:Binds K a.y_H ["self"] []
 F_B:Fun K "parts" "Told.parts" bh a.x_B a.y_B
 B_B:Binds K a.y_B ["self"] []
 F_I:Fun K "parts" "Die.parts" bL a.x_I a.y_I
 B_I:Binds K a.y_I ["self"] []
 F_p:Fun K "node" "Start.node" bu a.x_p a.y_p
 B_p:Binds K a.y_p ["self","crowd"] []
 F_a:Fun K "matrix" "Start.matrix" aH a.x_a a.y_a
 B_a:Binds K a.y_a ["self","crowd"] []
 F_t:Fun K "bounds" "Start.bounds" aK a.x_t a.y_t
 B_t:Binds K a.y_t ["self","crowd"] []
 F_q:Fun K "node" "Loose.node" bi a.x_q a.y_q
 B_q:Binds K a.y_q ["self","crowd"] []
 F_b:Fun K "matrix" "Loose.matrix" aI a.x_b a.y_b
 B_b:Binds K a.y_b ["self","crowd"] []
 F_n:Fun K "bounds" "Loose.bounds" aL a.x_n a.y_n
 B_n:Binds K a.y_n ["self","crowd"] []
 F_E:Fun K "node" "Few.node" b7 a.x_E a.y_E
 B_E:Binds K a.y_E ["self","crowd"] []
 F_f:Fun K "matrix" "Few.matrix" aU a.x_f a.y_f
 B_f:Binds K a.y_f ["self","crowd"] []
 F_u:Fun K "bounds" "Few.bounds" bn a.x_u a.y_u
 B_u:Binds K a.y_u ["self","crowd"] []
 z_abs:mg "abs" = none
 z_bool:mg "bool" = none
 z_enumerate:mg "enumerate" = none
 z_int:mg "int" = none
 z_isinstance:mg "isinstance" = none
 z_len:mg "len" = none
 z_list:mg "list" = none
 z_max:mg "max" = none
 z_min:mg "min" = none
 z_range:mg "range" = none
 z_set:mg "set" = none
 z_sorted:mg "sorted" = none
 z_sum:mg "sum" = none
 z_tuple:mg "tuple" = none
 z_zip:mg "zip" = none
 bl:∀(s:Shared) (u:Value),BindsTo s a.d_ae ⟨[u],[]⟩ [("_law_script",u)]
inductive spLaw(K:Frag)(ts:List Addr)(vs:List V)(H:Hp)(Q:VK)(_E:XK):Prop
 | mk(p:Addr)(ns:List Int)(h0:vs=[.ref p])(h1:SqL K H p (ns.map V.int))(h2:ns.length<=63)(h3:(∀ P∈ts,H P=some (.tbl #[])))(h4:∀ H',Q (.bl true) H'):spLaw K ts vs H Q _E
theorem law_start{K:Frag}{c:List Addr}{H:Hp}{a:Addr}{b:List Int}(e:b.length<=63)(d:∀ P∈c,H P=some (.tbl #[]))(f:SqL K H a (b.map V.int)):spLaw K c [.ref a] H (λv _=>v=.bl true) λ_ _ _=>False:=⟨a,b,rfl,f,e,d,λ_=>rfl⟩
def bX(ns:List Int)(k:Int):Int:=if k<(ns.length:Int) then ns.getD k.toNat 0 else 7919*k+13
inductive spCell(K:Frag)(vs:List V)(H:Hp)(Q:VK)(_E:XK):Prop
 | mk(p:Addr)(ns:List Int)(k:Int)(h0:vs=[.ref p,.int k])(h1:SqL K H p (ns.map V.int))(h2:ns.length<=63)(h3:0<=k)(h4:k<=1000)(h5:Q (.int (bX ns k)) H):spCell K vs H Q _E
inductive spMix(vs:List V)(H:Hp)(Q:VK)(_E:XK):Prop
 | mk(c k:Int)(h0:vs=[.int c,.int k])(h1:0<=k)(h2:k<=1000)(h3:∀ r:Int,0<=r->Q (.int r) H):spMix vs H Q _E
inductive spRow(vs:List V)(H:Hp)(Q:VK)(_E:XK):Prop
 | mk(c b n m:Int)(h0:vs=[.int c,.int b,.int n,.int m])(h1:0<=n)(h2:n<=25)(h3:1<=m)(h4:m<=1000000000000)(h5:∀ H' p (ns:List Int),Same H H'->H p=none->H' p=some (.lst (ns.map V.int))->(ns.length:Int)=n->(∀ x∈ns,0<=x/\x<m)->Q (.ref p) H'):spRow vs H Q _E
inductive spGcd(vs:List V)(H:Hp)(Q:VK)(_E:XK):Prop
 | mk(x y:Int)(h0:vs=[.int x,.int y])(h1:0<=x)(h2:0<=y)(h3:Q (.int (Int.gcd x y)) H):spGcd vs H Q _E
def tK(H:Hp)(Q:VK)(T B:Int):Prop:=∀ H' p,Same H H'->H' p=some (.tup [.int (dC T B).1,.int (dC T B).2])->Q (.ref p) H'
inductive spLow(vs:List V)(H:Hp)(Q:VK)(_E:XK):Prop
 | mk(T B:Int)(h0:vs=[.int T,.int B])(h1:0<B)(h2:Bt 3000 T)(h3:Bt 3000 B)(h4:tK H Q T B):spLow vs H Q _E
def xz:Sp:=λ_ _ _ _=>False
inductive spWhole(vs:List V)(H:Hp)(Q:VK)(_E:XK):Prop
 | mk(x:Int)(h0:vs=[.int x])(h1:Q (.bl true) H):spWhole vs H Q _E
inductive spFraction(K:Frag)(vs:List V)(H:Hp)(Q:VK)(_E:XK):Prop
 | mk(p q:Addr)(t b:Int)(h0:vs=[.ref p,.ref q])(h1:SqT K H p [.int t,.int b])(h2:SqT K H q [.int t,.int b])(h3:Q (.bl true) H):spFraction K vs H Q _E
def PT(K:Frag)(H:Hp)(p:Addr)(f:Int×Int):Prop:=H p=some (.tup [.int f.1,.int f.2])\/iN K p [.int f.1,.int f.2]=true
theorem PT.sq{K:Frag}{H:Hp}{p:Addr}{f:Int×Int}(h:PT K H p f):SqT K H p [.int f.1,.int f.2]:=h.elim SqT.of kC
def IsF(K:Frag)(H:Hp)(f:Int×Int)(x:V):Prop:=∃ p,x=.ref p/\PT K H p f
theorem IsF.tk{K:Frag}{H a:Hp}{f:Int×Int}{x:V}(k:TK H a)(h:IsF K H f x):IsF K a f x:=let ⟨p,e,q⟩:=h;⟨p,e,q.imp (λz=>k _ _ z) id⟩
abbrev AllF(K:Frag)(H:Hp):List (Int×Int)->List V->Prop:=PySem.Paired (IsF K H)
theorem IsF.same{K:Frag}{H a:Hp}{f:Int×Int}{x:V}(s:Same H a)(h:IsF K H f x):IsF K a f x:=h.tk s.tk
theorem AllF.same{K:Frag}{H a:Hp}(s:Same H a):∀{fs:List (Int×Int)}{xs:List V},AllF K H fs xs->AllF K a fs xs
 | _,_,.nil=>.nil
 | _,_,.cons r t=>.cons (r.same s) (AllF.same s t)
theorem AllF.tk{K:Frag}{H a:Hp}(k:TK H a):∀{fs:List (Int×Int)}{xs:List V},AllF K H fs xs->AllF K a fs xs
 | _,_,.nil=>.nil
 | _,_,.cons r t=>.cons (r.tk k) (AllF.tk k t)
theorem AllF.get{K:Frag}{H:Hp}:∀{fs:List (Int×Int)}{xs:List V}{i:Nat}{x:V},AllF K H fs xs->xs[i]? = some x->∃ f,fs[i]? = some f/\IsF K H f x
 | _,_,_,_,.nil,h=>by cases h
 | _,_,0,_,.cons r _,h=>⟨_,rfl,by cases h;exact r⟩
 | _,_,i+1,_,.cons _ t,h=>AllF.get (i:=i) t h
theorem AllF.snoc{K:Frag}{H:Hp}{f:Int×Int}{x:V}(r:IsF K H f x):∀{fs:List (Int×Int)}{xs:List V},AllF K H fs xs->AllF K H (fs++[f]) (xs++[x])
 | _,_,.nil=>.cons r .nil
 | _,_,.cons q t=>.cons q (AllF.snoc r t)
theorem AllF.len{K:Frag}{H:Hp}{a:List (Int×Int)}{xs:List V}(h:AllF K H a xs):a.length=xs.length:=Paired.length h
theorem oP(T B:Int):Int.gcd (if T<0 then -T else T) B=Int.gcd T B:=by
 split
 .exact Int.neg_gcd
 .rfl
theorem px0{K:Frag}{H:Hp}{p:Addr}{x y:V}{Q:VK}(h:SqT K H p [x,y])(q:Q x H):rIx K (.ref p) (.int 0) H Q:=.inr (.inl ⟨p,_,_,x,rfl,rfl,h,dY (j:=0) rfl,q⟩)
theorem px1{K:Frag}{H:Hp}{p:Addr}{x y:V}{Q:VK}(h:SqT K H p [x,y])(q:Q y H):rIx K (.ref p) (.int 1) H Q:=.inr (.inl ⟨p,_,_,y,rfl,rfl,h,dY (j:=1) rfl,q⟩)
theorem cX(x y:V):[x,y].length<=sizeLine:=by show 2<=sizeLine;decide
structure Szs(z:List Int):Prop where
 len:z.length<=24
 lo:∀ x∈z,1<=x
 hi:∀ x∈z,x<=24000000
inductive spWished(K:Frag)(vs:List V)(H:Hp)(Q:VK)(_E:XK):Prop
 | mk(l:Addr)(z:List Int)(m:Int)(h0:vs=[.ref l,.int m])(h1:H l=some (.lst (z.map V.int)))(h2:Szs z)(h3:0<=m)(h4:m<=24)(h5:∀ H' r xs,Same H H'->H r=none->H' r=some (.lst xs)->AllF K H' (due z m) xs->Q (.ref r) H'):spWished K vs H Q _E
inductive spSome(K:Frag)(vs:List V)(H:Hp)(Q:VK)(_E:XK):Prop
 | mk(l:Addr)(z:List Int)(m:Int)(h0:vs=[.ref l,.int m])(h1:H l=some (.lst (z.map V.int)))(h2:Szs z)(h3:0<m)(h4:m<z.length)(h5:∀ H' r xs,Same H H'->H r=none->H' r=some (.lst xs)->AllF K H' (due z m) xs->Q (.ref r) H'):spSome K vs H Q _E
inductive spTimes(K:Frag)(vs:List V)(H:Hp)(Q:VK)(_E:XK):Prop
 | mk(x y:V)(c e:Int×Int)(h0:vs=[x,y])(h1:IsF K H c x)(h2:IsF K H e y)(h3:0<c.2)(h4:0<e.2)(h5:Bt 1000 c.1)(h6:Bt 1000 c.2)(h7:Bt 1000 e.1)(h8:Bt 1000 e.2)(h9:tK H Q (c.1*e.1) (c.2*e.2)):spTimes K vs H Q _E
def uns(f:Int×Int):Bool:=decide (0<f.1/\f.1<f.2)
inductive spUns(K:Frag)(vs:List V)(H:Hp)(Q:VK)(_E:XK):Prop
 | mk(x:V)(f:Int×Int)(h0:vs=[x])(h1:IsF K H f x)(h2:Q (.bl (uns f)) H):spUns K vs H Q _E
section
variable {P:Program}{w:World}{K:Frag}{mg:Str->Option Value}{base:Heap}{a:Ad}
theorem yf{k:Nat}{f:Addr}{a:FuncData}{ps:List Str}:FnOk P w K mg base CX0 k f a ps xz:=⟨λ_ _ _ _ h=>h.elim,λ_ _ _ _ _ _ _ _ _ _ _ _ _ h=>h.elim⟩
theorem oG(T:Txt K mg a):FnOk P w K mg base CX0 1 a.f_C a.d_C ["_law_script","_law_k"] (spCell K):=by
 refine T.F_C.ok qr (λi H Q E h=>?_) (λcdv A outer s H i Q E hr h=>?_)
 .obtain⟨p,b,k,rfl,_⟩:=h;rfl
 .obtain⟨p,b,k,rfl,f,m,n,l,q⟩:=h
  refine⟨_,(ak (cD (cg rK (vr 1) (ar ay rfl T.z_len bf (aa (vr 0) ae)) (be _)) (aj (aw (bA aY (vr 0) (vr 1) (λ_ _=>rfl)))) aZ) (aj (aw (ax dZ (ax cz ao (vr 1)) ao)))),gB ?_⟩;intro g;refine⟨b.map V.int,.inl f,?_⟩;rw[length_map];unfold bX at q;refine y6 (λc=>?_) (λc=>?_)
  .have d:k<(b.length:Int):=of_decide_eq_true c
   rw[if_pos d]at q;refine .inl ⟨p,_,k,.int (b.getD k.toNat 0),rfl,rfl,f,?_,q⟩;have e:((k.toNat:Nat):Int)=k:=by omega
   rw[<- e];refine dY ?_;have j:k.toNat<b.length:=by omega
   rw[e];simp[List.getElem?_map,List.getD,j]
  .have d:¬k<(b.length:Int):=λz=>c (decide_eq_true z)
   rw[if_neg d]at q;exact⟨clB,q⟩
theorem wJ(T:Txt K mg a):FnOk P w K mg base CX0 1 a.f_ac a.d_ac ["_law_cell_here","_law_k"] spMix:=by
 refine T.F_ac.ok sc_ac (λd H Q E h=>?_) (λcdv A outer s H d Q E hr h=>?_)
 .obtain⟨c,k,rfl,_⟩:=h;rfl
 .obtain⟨c,k,rfl,g,f,q⟩:=h
  refine⟨_,(ak (aA (i:=2) sc_ac.nd rfl (Or.inl rfl) (ax dI (ax cz (ax dZ (ax dZ (ax dI (vr 0) ao) (ax cz ao (vr 1))) ao) ao) ao)) (ak (aA (i:=2) sc_ac.nd rfl (Or.inl rfl) (ax dI (ax dZ (ax cz (vr 2) (vr 2)) (ax cz ao (vr 1))) ao)) (aj (aw (ax dI (ax cz (vr 2) (ax dZ (vr 2) ao)) ao))))),jM ?_⟩;intro e b;exact⟨cp,clB,crB,cp,clB (by omega) (by omega),clB,cp,clB (by omega) (by omega),cp,q _ (by omega)⟩
theorem vV(T:Txt K mg a):FnOk P w K mg base CX0 1 a.f_m a.d_m ["one","other"] spGcd:=by
 refine T.F_m.ok sc_m (λo H Q E h=>?_) (λcdv A outer s H o Q E hr h=>?_)
 .obtain⟨x,y,rfl,_⟩:=h;rfl
 .obtain⟨f,g,rfl,B,u,q⟩:=h
  refine⟨_,(ak (i8 PassesOwn.never (i9 (vr 1) (λ_=>rfl)) (aj (qL rfl sc_m.nd (i:=0) (j:=1) rfl rfl (by decide) rfl rfl (aa (vr 1) (aa (ax dI (vr 0) (vr 1)) ae)) rfl))) (aj (aw (vr 0)))),gB ?_⟩;intro r;refine⟨λm l k=>k=H/\∃ x y:Int,0<=x/\0<=y/\m=y.toNat/\Int.gcd x y=Int.gcd f g/\l=[some (.int x),some (.int y)],⟨_,rfl,f,g,B,u,rfl,rfl,rfl⟩,?_⟩;rintro m l k ⟨rfl,x,y,C,v,rfl,n,rfl⟩;refine⟨_,rfl,?_⟩;refine ifB (λc=>?_) (λc=>?_)
  .have e:y≠0:=by simpa using c
   let Pw2:St->Hp->Prop:=λd b=>b=k/\d=[some (.int y),some (.int (x % y))]
   refine⟨Pw2,?_,?_⟩
   .rintro d b ⟨rfl,rfl⟩
    exact⟨(x % y).toNat,by have:=Int.emod_lt_of_pos x (show 0<y by omega);have:=Int.emod_nonneg x e;omega,rfl,y,x % y,v,Int.emod_nonneg x e,rfl,by rw[lZ,n],rfl⟩
   .exact⟨cp (by omega),_,_,rfl,rfl,rfl⟩
  .have e:y=0:=by simpa using c
   subst e;rw[Int.gcd_zero_right]at n;have:x=(Int.gcd f g:Int):=by omega
   rw[<- this]at q;exact q
theorem gx(T:Txt K mg a):FnOk P w K mg base CX0 2 a.f_D a.d_D ["top","bottom"] spLow:=by
 have e:FnOk P w K mg base CX0 1 a.f_D a.d_D ["top","bottom"] xz:=yf;have d:FnOk P w K mg base CX0 1 _ _ _ spGcd:=vV T;refine T.F_D.ok sc_D (λk H Q E h=>?_) (λcdv A outer s H k Q E hr h=>?_)
 .obtain⟨x,y,rfl,_⟩:=h;rfl
 .obtain⟨t,b,rfl,o,C,j,q⟩:=h
  refine⟨_,(ak (cD (cg rK (vr 1) ao (be _)) (aj (aw (aq e hr rfl T.m_D T.F_D.kp T.B_D .nil au (aa (vq vd (vr 0)) (aa (vq vd (vr 1)) ae))))) aZ) (ak (aA (i:=2) sc_D.nd rfl (Or.inl rfl) (aq d hr rfl T.m_m T.F_m.kp T.B_m .nil au (aa (ar mC rfl T.z_abs rG (aa (vr 0) ae)) (aa (vr 1) ae)))) (aj (aw (bP (aa (ax dc (vr 0) (vr 2)) (aa (ax dc (vr 1) (vr 2)) ae))))))),jM ?_⟩;intro n l;obtain⟨g,r,v,B,u⟩:=low t b o;refine ifC (λc=>absurd c (by omega)) (λ_=>?_);refine⟨t,rfl,⟨_,_,rfl,by split <;> omega,by omega,?_⟩⟩;rw[oP];have f:Bt 3000 (Int.gcd t b:Int):=j.le (by omega);refine⟨cdB g f,cdB g f,cX _ _,λp m=>?_⟩;exact q _ p (Same.new m) ad
theorem nX(T:Txt K mg a):FnOk P w K mg base CX0 1 a.f_U a.d_U ["_law_top","_law_bottom"] spLow:=by
 refine T.F_U.ok sc_U (λu H Q E h=>?_) (λcdv A outer s H u Q E hr h=>?_)
 .obtain⟨x,y,rfl,_⟩:=h;rfl
 .obtain⟨t,b,rfl,F,L,B,q⟩:=h
  refine⟨_,(ak (aA (i:=2) sc_U.nd rfl (Or.inl rfl) (ar mC rfl T.z_abs rG (aa (vr 0) ae))) (ak (aA (i:=3) sc_U.nd rfl (Or.inl rfl) (vr 1)) (ak (i8 PassesOwn.never (cg yI (vr 3) ao (be _)) (aj (qL rfl sc_U.nd (i:=2) (j:=3) rfl rfl (by decide) rfl rfl (aa (vr 3) (aa (ax dI (vr 2) (vr 3)) ae)) rfl))) (aj (aw (bP (aa (ax dc (vr 0) (vr 2)) (aa (ax dc (vr 1) (vr 2)) ae)))))))),mH ?_⟩;intro D v C;obtain⟨r,M,O,J,N⟩:=low t b F;have o:Bt 3000 (Int.gcd t b:Int):=B.le (by omega);refine⟨t,rfl,?_⟩;refine⟨λm n k=>k=H/\∃ x y:Int,0<=x/\0<=y/\m=y.toNat/\Int.gcd x y=Int.gcd t b/\n=[some (.int t),some (.int b),some (.int x),some (.int y)],⟨_,rfl,_,b,by split <;> omega,by omega,rfl,oP t b,rfl⟩,?_⟩;rintro m n k ⟨rfl,x,y,R,I,rfl,l,rfl⟩;refine ifC (λc=>?_) (λc=>?_)
  .have g:y≠0:=by have z:0<y:=c;omega
   let Pw3:St->Hp->Prop:=λf d=>d=k/\f=[some (.int t),some (.int b),some (.int y),some (.int (x % y))]
   refine⟨Pw3,?_,?_⟩
   .rintro f d ⟨rfl,rfl⟩
    exact⟨(x % y).toNat,by have:=Int.emod_lt_of_pos x (show 0<y by omega);have:=Int.emod_nonneg x g;omega,rfl,y,x % y,I,Int.emod_nonneg x g,rfl,by rw[lZ,l],rfl⟩
   .exact⟨cp (by omega),_,_,rfl,rfl,rfl⟩
  .have g:y=0:=by have z:¬0<y:=c;omega
   subst g;rw[Int.gcd_zero_right]at l;have e:x=(Int.gcd t b:Int):=by omega
   subst e;refine⟨cdB r o,cdB r o,cX _ _,λp G=>?_⟩;exact q _ p (Same.new G) ad
theorem sM(T:Txt K mg a):FnOk P w K mg base CX0 1 a.f_V a.d_V ["_law_found"] spWhole:=by
 refine T.F_V.ok nM (λb H Q E h=>?_) (λcdv A outer s H b Q E hr h=>?_)
 .obtain⟨x,rfl,_⟩:=h;rfl
 .obtain⟨x,rfl,q⟩:=h
  refine⟨_,(aj (aw (pi (ar eE rfl T.z_isinstance bJ (aa (vr 0) (aa (dX (v:=.ty "int") rfl T.z_int sQ rfl) ae))) (ni (u6 (ar eE rfl T.z_isinstance bJ (aa (vr 0) (aa (dX (v:=.ty "bool") rfl T.z_bool oK rfl) ae)))))))),?_⟩;exact⟨_,_,_,true,rfl,rfl,.int x,rfl,⟨_,_,_,false,rfl,rfl,.int x,rfl,q⟩⟩
theorem dk{H:Hp}{p:Addr}{t b:Int}(h:SqT K H p [.int t,.int b]):DV K H (.tuple [.int t,.int b]) (.ref p):=by
 rw[DV];refine⟨p,_,rfl,h,?_⟩;rw[DVs];refine⟨_,_,rfl,by simp[DV],?_⟩;rw[DVs];exact⟨_,_,rfl,by simp[DV],by simp[DVs]⟩
theorem bx(t b:Int):SeqAt.shaped (.tuple [.int t,.int b])=true:=rfl
theorem lL(T:Txt K mg a):FnOk P w K mg base CX0 2 a.f_N a.d_N ["_law_found","_law_due"] (spFraction K):=by
 have d:FnOk P w K mg base CX0 1 _ _ _ spWhole:=sM T;refine T.F_N.ok jG (λg H Q E h=>?_) (λcdv A outer s H g Q E hr h=>?_)
 .obtain⟨p,q,t,b,rfl,_⟩:=h;rfl
 .obtain⟨p,r,t,b,rfl,c,e,q⟩:=h
  refine⟨_,(ak (cD (PW.pt (g7 (dS (eJ (ar lW rfl T.z_isinstance bJ (aa (vr 0) (aa (dX (v:=.ty "tuple") rfl T.z_tuple fm rfl) ae))))) (g7 (cg sB (ar ay rfl T.z_len bf (aa (vr 0) ae)) ao (be _)) (g7 (dS (eJ (aq d hr rfl T.m_V T.F_V.kp T.B_V .nil au (aa (bA aY (vr 0) ao (λ_ _=>rfl)) ae)))) (gR (dS (eJ (aq d hr rfl T.m_V T.F_V.kp T.B_V .nil au (aa (bA aY (vr 0) ao (λ_ _=>rfl)) ae))))))))) (aj (aw eK)) aZ) (aj (aw (iH (oA hr.units) (vr 0) (vr 1) (be _))))),gB ?_⟩;intro f;refine⟨_,_,_,true,rfl,rfl,.inr ⟨p,_,rfl,rfl,c⟩,rfl,?_⟩;refine⟨_,.inr c,?_⟩;refine px0 c ⟨t,rfl,px1 c ⟨b,rfl,?_⟩⟩;refine⟨.tuple [.int t,.int b],.tuple [.int t,.int b],dk c,dk e,bx t b,bx t b,?_⟩;rw[SeqAt.eqv_refl _ (SeqAt.canLay_of_shaped (bx t b))];exact q
theorem wq(T:Txt K mg a):FnOk P w K mg base CX0 2 a.f_X a.d_X ["_law_cell_here","_law_bit","_law_many","_law_most"] spRow:=by
 have e:FnOk P w K mg base CX0 1 _ _ _ spMix:=wJ T;refine T.F_X.ok sc_X (λD H Q E h=>?_) (λcdv A outer s H D Q E hr h=>?_)
 .obtain⟨c,b,n,m,rfl,_⟩:=h;rfl
 .obtain⟨c,b,n,m,rfl,R,S,L,M,q⟩:=h
  refine⟨_,(ak (aA (i:=4) sc_X.nd rfl (Or.inl rfl) (cH ae)) (ak (dF PassesOwn.never rfl (dM rfl T.z_range (aa (vr 2) ae)) (av (i:=5) sc_X.nd rfl (Or.inl rfl)) (aj (cD (cg me (ax dI (vr 1) ao) ao (be _)) (ak (dJ (pe_m.append (vr 4) (aa (ax dI (vr 0) (vr 3)) ae))) (aj (aA (i:=0) sc_X.nd rfl (Or.inl rfl) (ax dc (vr 0) (vr 3))))) (aj (dJ (pe_m.append (vr 4) (aa (ax dI (aq e hr rfl T.m_ac T.F_ac.kp T.B_ac .nil au (aa (vr 0) (aa (vr 5) ae))) (vr 3)) ae))))))) (aj (aw (vr 4))))),jM ?_⟩;intro F G;have U:sizeLine=16777216:=sizeLine_eq;refine⟨Nat.zero_le _,λp C=>?_⟩;refine⟨n,rfl,by omega,by omega,?_⟩
  let Pw1:PvS:=λi g l=>∃(f:Int) (d:List Int) (x:Option V),l=upd H p (.lst (d.map V.int))/\d.length=i/\(∀ y∈d,0<=y/\y<m)/\g=[some (.int f),some (.int b),some (.int n),some (.int m),some (.ref p),x]
  refine j5 Pw1 ⟨c,[],none,rfl,rfl,(λy hy=>by cases hy),rfl⟩ ?_ ?_
  .rintro i g l O ⟨f,d,x,rfl,k,j,rfl⟩
   have u:∀ v:Int,0<=v->v<m->∀ y∈d++[v],0<=y/\y<m:=λv I J y hy=>by
    rcases mem_append.mp hy with hy | hy
    .exact j y hy
    .rw[mem_singleton.mp hy];exact⟨I,J⟩
   have B:∀ v:Int,(d.map V.int)++[V.int v]=(d++[v]).map V.int:=λv=>by rw[map_append];rfl
   have o:(d.map V.int).length<sizeLine:=by rw[length_map];omega
   refine⟨cp,ifC (λ_=>?_) (λ_=>?_)⟩
   .refine⟨.inl ⟨rfl,_,SqL.of ad⟩,⟨cp (by omega),⟨p,_,_,rfl,rfl,ad,o,?_⟩⟩⟩
    refine⟨cdB (by omega) (show Bt 40 m by unfold Bt;omega),?_⟩;rw[cE,B];exact⟨_,_,_,rfl,by rw[length_append,k];rfl,u _ (Int.emod_nonneg _ (by omega)) (Int.emod_lt_of_pos _ (by omega)),rfl⟩
   .refine⟨.inl ⟨rfl,_,SqL.of ad⟩,⟨f,_,rfl,by omega,by omega,λr N=>⟨cp (by omega),⟨p,_,_,rfl,rfl,ad,o,?_⟩⟩⟩⟩
    rw[cE,B];exact⟨_,_,_,rfl,by rw[length_append,k];rfl,u _ (Int.emod_nonneg _ (by omega)) (Int.emod_lt_of_pos _ (by omega)),rfl⟩
  .rintro g l ⟨f,d,x,rfl,k,j,rfl⟩
   exact q _ p d (Same.new C) C ad (by omega) j
theorem qH(T:Txt K mg a):FnOk P w K mg base CX0 3 a.f_ad a.d_ad ["one","other"] (spTimes K):=by
 have d:FnOk P w K mg base CX0 2 _ _ _ spLow:=gx T;refine T.F_ad.ok si (λl H Q E h=>?_) (λcdv A outer s H l Q E hr h=>?_)
 .obtain⟨x,y,c,e,rfl,_⟩:=h;rfl
 .obtain⟨x,y,c,e,rfl,⟨x,rfl,m⟩,⟨y,rfl,o⟩,n,r,f,j,i,k,q⟩:=h
  have g:=m.sq;have b:=o.sq;refine⟨_,(aj (aw (aq d hr rfl T.m_D T.F_D.kp T.B_D .nil au (aa (ax cz (bA aY (vr 0) ao (λ_ _=>rfl)) (bA aY (vr 1) ao (λ_ _=>rfl))) (aa (ax cz (bA aY (vr 0) ao (λ_ _=>rfl)) (bA aY (vr 1) ao (λ_ _=>rfl))) ae))))),?_⟩;refine px0 g (px0 b ⟨cmB f i,px1 g (px1 b ⟨cmB j k,?_⟩)⟩);exact⟨_,_,rfl,Int.mul_pos n r,(f.mul i).mono (by decide),(j.mul k).mono (by decide),q⟩
theorem vR(T:Txt K mg a):FnOk P w K mg base CX0 1 a.f_Q a.d_Q ["chance"] (spUns K):=by
 refine T.F_Q.ok kn (λd H Q E h=>?_) (λcdv A outer s H d Q E hr h=>?_)
 .obtain⟨x,f,rfl,_⟩:=h;rfl
 .obtain⟨x,f,rfl,⟨p,rfl,b⟩,q⟩:=h
  refine⟨_,(aj (aw (ow rK rK ao (bA aY (vr 0) ao (λ_ _=>rfl)) (bA aY (vr 0) ao (λ_ _=>rfl))))),?_⟩;refine px0 b.sq ?_;refine ifC (λc=>px1 b.sq ?_) (λc=>?_)
  .have c:0<f.1:=c
   have e:uns f=decide (f.1<f.2):=by unfold uns;simp[c]
   rw[e]at q;exact q
  .have c:¬0<f.1:=c
   have e:uns f=false:=by unfold uns;simp[c]
   rw[e]at q;exact q
end
def nV(L:List Nat):List V:=L.map λ(k:Nat)=>V.int (k:Int)
theorem rZ{L:List Nat}{j:Nat}{x:V}(h:(nV L)[j]? = some x):∃ k,L[j]? = some k/\x=.int (k:Int):=by
 unfold nV at h;rw[List.getElem?_map]at h;cases hk:L[j]? with
 | none=>rw[hk]at h;cases h
 | some k=>rw[hk]at h;cases h;exact⟨k,rfl,rfl⟩
theorem vv{z:List Int}{k:Nat}(a:k<z.length):atI (z.map V.int) (k:Int)=some (.int (sz z k)):=dY (by simp[sz,List.getElem?_map,List.getD,a])
theorem kM{z:List Int}{k:Nat}(a:k<z.length):sz z k∈z:=by
 unfold sz;rw[List.getD,List.getElem?_eq_getElem a];exact getElem_mem a
theorem vQ(L:List Nat):(nV L).all fQ=true:=by
 rw[all_eq_true];intro x a;obtain⟨k,_,rfl⟩:=mem_map.mp a;rfl
theorem zc(L:List Nat)(k:Nat):inV (.int (k:Int)) (nV L)=decide (k∈L):=by
 rw[Bool.eq_iff_iff];unfold inV nV;rw[any_map,any_eq_true,decide_eq_true_eq]
 constructor
 .rintro⟨j,a,e⟩
  have:(j:Int)=(k:Int):=by simpa[eqV] using e
  have:j=k:=by lia
  rw[<- this];exact a
 .intro h
  exact⟨k,h,by simp[eqV]⟩
section
variable {P:Program}{w:World}{K:Frag}{mg:Str->Option Value}{base:Heap}{a:Ad}
theorem tR(T:Txt K mg a):FnOk P w K mg base CX0 3 a.f_l a.d_l ["sizes","many"] (spSome K):=by
 have a6:FnOk P w K mg base CX0 2 _ _ _ spLow:=gx T;refine T.F_l.ok sc_l (λvs H Q E h=>?_) (λcdv A outer s H vs Q E hr h=>?_)
 .obtain⟨l,z,m,rfl,_⟩:=h;rfl
 .obtain⟨l,z,m,rfl,hl,hz,m0,m1,q⟩:=h
  refine⟨_,(ak (aA (i:=2) sc_l.nd rfl (Or.inr rfl) (cf (kU rfl) rfl T.z_list eN (aa (cf kd rfl T.z_range mn (aa (ar ay rfl T.z_len bf (aa (vr 0) ae)) ae)) ae))) (ak (aA (i:=3) sc_l.nd rfl (Or.inr rfl) (vr 1)) (ak (i8 PassesOwn.never (eJ eK) (ak (aA (i:=4) sc_l.nd rfl (Or.inr rfl) (ar (jZ rfl) rfl T.z_sum qU (aa (bT rfl (N:=["place","sizes"]) (ix:=[none,some 0]) ⟨rfl,rfl,rfl,rfl,⟨rfl,rfl,rfl,trivial⟩⟩ (bO (vr 2)) ⟨λC s H S=>av (i:=0) (show List.Nodup (["place","sizes"]:List Str) by decide +kernel) rfl (Or.inl rfl),λC s H S=>cj,λC s H S=>(bA (eP (K:=K) rfl) (vr 1) (vr 0) (λ_ _=>rfl))⟩) ae))) (ak (li rfl (i:=5) sc_l.nd rfl rfl (by with_unfolding_all rfl) (N:=["place","whole","wanted","sizes"]) (ix:=[none,some 4,some 3,some 0]) ⟨rfl,rfl,rfl,rfl,⟨rfl,rfl,rfl,⟨rfl,rfl,rfl,⟨rfl,rfl,rfl,trivial⟩⟩⟩⟩ (bO (vr 2)) ⟨λC s H S=>av (i:=0) (show List.Nodup (["place","whole","wanted","sizes"]:List Str) by decide +kernel) rfl (Or.inl rfl),λC s H S=>gj (cg rK (ax cz (bA (eP (K:=K) rfl) (vr 3) (vr 0) (λ_ _=>rfl)) (vr 2)) (vr 1) (be _)),λC s H S=>(vr 0)⟩) (ak (cD (cg me (ar ay rfl T.z_len bf (aa (vr 5) ae)) (ar ay rfl T.z_len bf (aa (vr 2) ae)) (be _)) (aj rj) aZ) (ak (wy (i:=3) sc_l.nd rfl (Or.inr rfl) (ax ge (ar ay rfl T.z_len bf (aa (vr 2) ae)) (ar ay rfl T.z_len bf (aa (vr 5) ae))) vG) (aj (aA (i:=2) sc_l.nd rfl (Or.inr rfl) (vr 5)))))))) (aj (aw (bT rfl (N:=["place","size","left","whole","wanted"]) (ix:=[none,none,some 2,some 4,some 3]) ⟨rfl,rfl,rfl,rfl,⟨rfl,rfl,rfl,⟨rfl,rfl,rfl,⟨rfl,rfl,rfl,trivial⟩⟩⟩⟩ (ut rfl T.z_enumerate (aa (vr 0) ae)) ⟨λC s H S=>(d3 (K:=K) (n:=2) rfl rfl (az (av (i:=0) (show List.Nodup (["place","size","left","whole","wanted"]:List Str) by decide +kernel) rfl (Or.inl rfl)) (az (av (i:=1) (show List.Nodup (["place","size","left","whole","wanted"]:List Str) by decide +kernel) rfl (Or.inl rfl)) cm))),λC s H S=>cj,λC s H S=>(jm (cg (nD (K:=K) rfl) (vr 0) (vr 2) (by with_unfolding_all rfl)) (aq a6 hr rfl T.m_D T.F_D.kp T.B_D .nil au (aa (ax cz (vr 1) (vr 4)) (aa (vr 3) ae))) (gd rfl T.g_WHOLE))⟩)))))),mH ?_⟩
  intro bg a' bd;have sl:sizeLine=16777216:=sizeLine_eq;have zl:=hz.len;have X:∀ k,k<z.length->1<=sz z k:=λk g=>hz.lo _ (kM g)
  have a3:∀ k,k<z.length->sz z k<=24000000:=λk g=>hz.hi _ (kM g)
  refine⟨_,.inl (SqL.of hl),⟨_,rfl,λp hp=>⟨p,z.length,rfl,by lia,by rw[ad,length_map],λG r=>?_⟩⟩⟩;have s1:Same H (upd (upd H p (.rng 0 ((z.map V.int).length:Int))) G (.lst (nV (List.range z.length)))):=(Same.new hp).trans (Same.new r)
  let Pw5:PvS:=λc σ H'=>∃(G:Addr) (L:List Nat) (w:Int) (x4 x5:Option V),c=L.length/\Same H H'/\H' G=some (.lst (nV L))/\Rnd z z.length m L w/\FrM.fin z L w=FrM.fin z (List.range z.length) m/\σ=[some (.ref l),some (.int m),some (.ref G),some (.int w),x4,x5]
  refine⟨Pw5,⟨_,G,List.range z.length,m,none,none,rfl,s1,ad,Rnd.start (by lia) (by lia),rfl,rfl⟩,?_⟩;rintro c σ H' ⟨G,L,w,x4,x5,rfl,sm,r,R,hf,rfl⟩;have al:=sm _ _ hl;have Ll:=R.len;have wb:-24<=w/\w<=24:=by have:=R.dif;have:=R.lt;lia
  let Pw6:St->Hp->Prop:=λa0 an=>∃(B:Addr) (x4 x5:Option V),Same H an/\an B=some (.lst (nV (stay z L w)))/\(stay z L w).length≠L.length/\a0=[some (.ref l),some (.int m),some (.ref B),some (.int (w - ((L.length:Int) - ((stay z L w).length:Int)))),x4,x5]
  refine⟨Pw6,?_,?_⟩
  .rintro a0 an ⟨B,x4,x5,a5,h',a7,rfl⟩
   have:=iC z L w;exact⟨_,by lia,B,_,_,x4,x5,rfl,a5,h',R.step X,by rw[<- hf];exact(nR a7).symm,rfl⟩
  .refine .inl ⟨⟨_,SqL.of r⟩,λD hD=>?_⟩
   let Pw1:PvL:=λi f d=>i<=L.length/\d=upd H' D (.lst f)/\f=(L.take i).map λk=>V.int (sz z k)
   refine bB (K:=K) (a:=G) (xs:=nV L) Pw1 ⟨Nat.zero_le _,rfl,rfl⟩ (λi f d h=>by rw[h.2.1];exact SqL.of (by rw[ai (ap r hD)];exact r)) (λi f d h=>by rw[h.2.1];exact ad) ?_ ?_
   .rintro i x f d P' Y ⟨hi,rfl,rfl⟩ hP
    obtain⟨k,g,rfl⟩:=rZ Y;have b:i<L.length:=(List.getElem?_eq_some_iff.mp g).1;have ah:=R.sub k (List.mem_of_getElem? g);refine⟨⟨rfl,trivial⟩,.inl ⟨l,_,_,_,rfl,rfl,SqL.of (by rw[ai (ap al hD)];exact al),vv ah,ad,?_,hP _ _ ⟨b,cE,?_⟩⟩⟩
    .rw[length_map,length_take];lia
    .rw[take_add_one,g,map_append];rfl
   rintro f d ⟨_,rfl,rfl⟩
   have eS:((L.take (nV L).length).map λk=>V.int (sz z k))=(L.map (sz z)).map V.int:=by
    rw[show(nV L).length=L.length by unfold nV;rw[length_map],take_of_length_le (Nat.le_refl _),map_map];rfl
   refine⟨D,L.map (sz z),rfl,SqL.of (by rw[ad,eS]),?_⟩;rw[eS];have sD:Same H' (upd H' D (.lst ((L.map (sz z)).map V.int))):=Same.new hD;generalize upd H' D (.lst ((L.map (sz z)).map V.int))=H3 at sD;have W:=sD _ _ al;have j:=sD _ _ r;refine .inl ⟨⟨_,SqL.of j⟩,λD2 as=>?_⟩
   let Pw2:PvL:=λi f d=>i<=L.length/\d=upd H3 D2 (.lst f)/\f=nV ((L.take i).filter λk=>decide (sz z k*w<bD z L))
   refine bB (K:=K) (a:=G) (xs:=nV L) Pw2 ⟨Nat.zero_le _,rfl,rfl⟩ (λi f d h=>by rw[h.2.1];exact SqL.of (by rw[ai (ap j as)];exact j)) (λi f d h=>by rw[h.2.1];exact ad) ?_ ?_
   .rintro i x f d P' Y ⟨hi,rfl,rfl⟩ hP
    obtain⟨k,g,rfl⟩:=rZ Y;have b:i<L.length:=(List.getElem?_eq_some_iff.mp g).1;have ah:=R.sub k (List.mem_of_getElem? g)
    have F:(L.take (i+1)).filter (λk=>decide (sz z k*w<bD z L))=(L.take i).filter (λk=>decide (sz z k*w<bD z L))++if sz z k*w<bD z L then [k] else []:=by
     rw[take_add_one,g,filter_append]
     by_cases c:sz z k*w<bD z L <;> simp[c]
    refine⟨⟨rfl,rfl,rfl,trivial⟩,.inl ⟨l,_,_,_,rfl,rfl,SqL.of (by rw[ai (ap W as)];exact W),vv ah,crB (by lia) (by lia),?_⟩⟩;refine ifC (λc=>?_) (λc=>?_)
    .have v:sz z k*w<bD z L:=c
     rw[if_pos v]at F;refine⟨ad,?_,hP _ _ ⟨b,cE,?_⟩⟩
     .unfold nV
      rw[length_map];have:=length_filter_le (λk=>decide (sz z k*w<bD z L)) (L.take i);rw[length_take]at this;lia
     .rw[F];unfold nV;rw[map_append];rfl
    .have v:¬sz z k*w<bD z L:=c
     rw[if_neg v,append_nil]at F;exact hP _ _ ⟨b,rfl,by rw[F]⟩
   rintro f d ⟨_,rfl,rfl⟩
   have eT:nV ((L.take (nV L).length).filter λk=>decide (sz z k*w<bD z L))=nV (stay z L w):=by
    rw[show(nV L).length=L.length by unfold nV;rw[length_map],take_of_length_le (Nat.le_refl _)];rfl
   rw[eT];have M:Same H3 (upd H3 D2 (.lst (nV (stay z L w)))):=Same.new as;have J:(upd H3 D2 (.lst (nV (stay z L w)))) D2=some (.lst (nV (stay z L w))):=ad;generalize upd H3 D2 (.lst (nV (stay z L w)))=H4 at M J;have a4:=M _ _ W;have y:=M _ _ j;have s4:Same H H4:=sm.trans (sD.trans M);have o:∀ L:List Nat,(nV L).length=L.length:=λL=>by unfold nV;rw[length_map]
   refine⟨_,.inl (SqL.of J),⟨_,.inl (SqL.of y),?_⟩⟩;rw[o,o];refine ifC (λc=>?_) (λc=>?_)
   .have v:(stay z L w).length=L.length:=by have z:((stay z L w).length:Int)=(L.length:Int):=c;lia
    have U:=i4 v;rw[hf]at U;have hS:0<bD z L:=by have:=gr z L λk g=>X k (R.sub k g);have:=R.pos;lia
    have a9:Bt 40 (bD z L):=by
     have:=kG z 24000000 L λk g=>a3 k (R.sub k g)
     unfold Bt;have a8:(2:Nat) ^ 40=1099511627776:=by decide
     rw[a8];lia
    refine⟨l,_,rfl,a4,λD3 u=>?_⟩
    have a2:due z m=(List.range z.length).map λk=>if decide (k∈L)=true then dC (sz z k*w) (bD z L) else (1,1):=by
     unfold due;rw[if_neg (by lia),if_neg (by lia),U]
    have ab:H D3=none:=s4.free u;refine pX (a:=l) (xs:=z.map V.int) (λi f d=>i<=z.length/\Same H d/\Same H4 d/\d D3=some (.lst f)/\AllF K d ((due z m).take i) f) ⟨Nat.zero_le _,s4.trans (Same.new u),Same.new u,ad,by rw[take_zero];exact .nil⟩ (λi f d h=>h.2.1 _ _ hl) (λi f d h=>h.2.2.2.1) ?_ ?_
    .rintro i x f d p P' Y ⟨hi,t1,t4,Z,hA⟩ hp hP
     have b:i<z.length:=by have:=(List.getElem?_eq_some_iff.mp Y).1;rw[length_map]at this;exact this
     have ex:x=.int (sz z i):=by
      rw[List.getElem?_map,List.getElem?_eq_getElem b]at Y;cases Y;simp[sz,List.getD,b]
     subst ex;have I:Same d (upd d p (.tup [.int (i:Nat),.int (sz z i)])):=Same.new hp;refine⟨p,_,rfl,SqT.of ad,rfl,_,_,rfl,_,_,rfl,rfl,⟨rfl,rfl,rfl,trivial⟩,?_⟩;generalize upd d p (.tup [.int (i:Nat),.int (sz z i)])=H5 at I;have O:=I _ _ Z;have yl:f.length=i:=by rw[<- hA.len,length_take,dg];lia
     have F:(due z m).take (i+1)=(due z m).take i++[if decide (i∈L)=true then dC (sz z i*w) (bD z L) else (1,1)]:=by
      rw[take_add_one]
      congr 1
      rw[a2,List.getElem?_map,List.getElem?_range b];rfl
     refine⟨G,_,rfl,.inl (SqL.of ((t4.trans I) _ _ y)),rfl,vQ L,?_⟩;rw[zc];refine ifB (λc=>?_) (λc=>?_)
     .have v:decide (i∈L)=true:=c
      rw[if_pos v]at F;refine⟨crB (by lia) (by lia),⟨_,_,rfl,hS,((show Bt 30 (sz z i) by have:=X i b;have:=a3 i b;unfold Bt;lia).mul (show Bt 5 w by unfold Bt;lia)).mono (by decide),a9.mono (by decide),λH6 p6 s6 e6=>?_⟩⟩;refine⟨s6 _ _ O,by lia,hP _ _ ⟨b,((t1.trans I).trans s6).put ab,?_,ad,?_⟩⟩
      .exact((t4.trans I).trans s6).put u
      .rw[F]
       have a1:=s6 _ _ O;exact AllF.snoc ⟨p6,rfl,.inl (TK.lst a1 _ _ e6)⟩ (hA.tk ((I.trans s6).tk.trans (TK.lst a1)))
     .have v:decide (i∈L)=false:=c
      rw[if_neg (by rw[v];exact Bool.false_ne_true)]at F;refine⟨O,by lia,hP _ _ ⟨b,(t1.trans I).put ab,(t4.trans I).put u,ad,?_⟩⟩;rw[F];exact AllF.snoc ⟨a.k_WHOLE,rfl,.inr T.t_WHOLE⟩ (hA.tk (I.tk.trans (TK.lst O)))
    .rintro f d ⟨_,t1,t4,Z,hA⟩
     rw[take_of_length_le (by rw[dg,length_map];exact Nat.le_refl _)]at hA;exact q d D3 f t1 ab Z hA
   .have v:(stay z L w).length≠L.length:=λe=>c (by show((stay z L w).length:Int)=(L.length:Int);lia)
    refine⟨_,rfl,⟨_,.inl (SqL.of y),⟨_,.inl (SqL.of J),⟨_,_,rfl,rfl,⟨D2,some (.int (L.map (sz z)).sum),some (.ref D2),s4,J,v,?_⟩⟩⟩⟩⟩;rw[o,o];rfl
theorem qm(T:Txt K mg a):FnOk P w K mg base CX0 4 a.f_ab a.d_ab ["sizes","many"] (spWished K):=by
 have v:FnOk P w K mg base CX0 3 _ _ _ (spSome K):=tR T;refine T.F_ab.ok qG (λG H Q E h=>?_) (λcdv A outer s H G Q E hr h=>?_)
 .obtain⟨l,z,m,rfl,_⟩:=h;rfl
 .obtain⟨l,z,m,rfl,j,F,R,S,q⟩:=h
  refine⟨_,(ak (cD (cg wO (ar ay rfl T.z_len bf (aa (vr 0) ae)) (vr 1) (be _)) (aj (aw (bT rfl (N:=["size"]) (ix:=[none]) ⟨rfl,rfl,rfl,rfl,trivial⟩ (bO (vr 0)) ⟨λC s H o=>av (i:=0) (show List.Nodup (["size"]:List Str) by decide +kernel) rfl (Or.inl rfl),λC s H o=>cj,λC s H o=>(gd rfl T.g_WHOLE)⟩))) aZ) (ak (cD (cg me (vr 1) ao (be _)) (aj (aw (bT rfl (N:=["size"]) (ix:=[none]) ⟨rfl,rfl,rfl,rfl,trivial⟩ (bO (vr 0)) ⟨λC s H o=>av (i:=0) (show List.Nodup (["size"]:List Str) by decide +kernel) rfl (Or.inl rfl),λC s H o=>cj,λC s H o=>(gd rfl T.g_NOUGHT)⟩))) aZ) (aj (aw (aq v hr rfl T.m_l T.F_l.kp T.B_l .nil au (aa (vr 0) (aa (vr 1) ae))))))),jM ?_⟩;intro I J;have W:sizeLine=16777216:=sizeLine_eq;have U:=F.len;refine⟨_,.inl (SqL.of j),?_⟩;rw[length_map];refine ifC (λc=>?_) (λc=>ifC (λc2=>?_) (λc2=>?_))
  .have r:(z.length:Int)<=m:=c
   have e:due z m=z.map λ_=>(1,1):=by unfold due;rw[if_pos r]
   refine .inl ⟨⟨_,SqL.of j⟩,λD k=>?_⟩
   let Pw3:PvL:=λi b d=>i<=z.length/\d=upd H D (.lst b)/\AllF K d ((due z m).take i) b
   refine bB (K:=K) (a:=l) (xs:=z.map V.int) Pw3 ⟨Nat.zero_le _,rfl,by rw[take_zero];exact .nil⟩ (λi b d h=>by rw[h.2.1];exact SqL.of (by rw[ai (ap j k)];exact j)) (λi b d h=>by rw[h.2.1];exact ad) ?_ ?_
   .rintro i x b d M B ⟨L,rfl,g⟩ y
    have f:i<z.length:=by have:=(List.getElem?_eq_some_iff.mp B).1;rw[length_map]at this;exact this
    have O:b.length=i:=by rw[<- g.len,length_take,dg];lia
    refine⟨trivial,ad,by lia,y _ _ ⟨f,cE,?_⟩⟩
    have u:(due z m).take (i+1)=(due z m).take i++[(1,1)]:=by
     rw[take_add_one]
     congr 1
     rw[e,List.getElem?_map,List.getElem?_eq_getElem f];rfl
    rw[u];exact AllF.snoc ⟨a.k_WHOLE,rfl,.inr T.t_WHOLE⟩ (g.tk (TK.lst ad))
   .rintro b d ⟨_,rfl,g⟩
    rw[take_of_length_le (by rw[dg,length_map];exact Nat.le_refl _)]at g;exact q _ D b (Same.new k) k ad g
  .have r:¬(z.length:Int)<=m:=c
   have n:m=0:=c2;have e:due z m=z.map λ_=>(0,1):=by unfold due;rw[if_neg r,if_pos n]
   refine .inl ⟨⟨_,SqL.of j⟩,λD k=>?_⟩
   let Pw4:PvL:=λi b d=>i<=z.length/\d=upd H D (.lst b)/\AllF K d ((due z m).take i) b
   refine bB (K:=K) (a:=l) (xs:=z.map V.int) Pw4 ⟨Nat.zero_le _,rfl,by rw[take_zero];exact .nil⟩ (λi b d h=>by rw[h.2.1];exact SqL.of (by rw[ai (ap j k)];exact j)) (λi b d h=>by rw[h.2.1];exact ad) ?_ ?_
   .rintro i x b d M B ⟨L,rfl,g⟩ y
    have f:i<z.length:=by have:=(List.getElem?_eq_some_iff.mp B).1;rw[length_map]at this;exact this
    have O:b.length=i:=by rw[<- g.len,length_take,dg];lia
    refine⟨trivial,ad,by lia,y _ _ ⟨f,cE,?_⟩⟩
    have u:(due z m).take (i+1)=(due z m).take i++[(0,1)]:=by
     rw[take_add_one]
     congr 1
     rw[e,List.getElem?_map,List.getElem?_eq_getElem f];rfl
    rw[u];exact AllF.snoc ⟨a.k_NOUGHT,rfl,.inr T.t_NOUGHT⟩ (g.tk (TK.lst ad))
   .rintro b d ⟨_,rfl,g⟩
    rw[take_of_length_le (by rw[dg,length_map];exact Nat.le_refl _)]at g;exact q _ D b (Same.new k) k ad g
  .have r:¬(z.length:Int)<=m:=c
   have n:¬m=0:=c2;exact⟨l,z,m,rfl,j,F,by lia,by lia,q⟩
end
open Tb (Tr fT lT sT ba)
theorem aG{d e:Type}{r c:d->e->Prop}(h:∀ a b,r a b->c a b):∀{as:List d}{bs:List e},Paired r as bs->Paired c as bs
 | _,_,.nil=>.nil
 | _,_,.cons x t=>.cons (h _ _ x) (aG h t)
theorem dy{c d:Type}{r:c->d->Prop}{a:c}{b:d}(h:r a b):∀{as:List c}{bs:List d},Paired r as bs->Paired r (as++[a]) (bs++[b])
 | _,_,.nil=>.cons h .nil
 | _,_,.cons x t=>.cons x (dy h t)
theorem bc{b a:Type}{r:b->a->Prop}:∀{as:List b}{bs:List a}{i:Nat}{y:a},Paired r as bs->bs[i]? = some y->∃ x,as[i]? = some x/\r x y
 | _,_,_,_,.nil,h=>by cases h
 | _,_,0,_,.cons r _,h=>⟨_,rfl,by cases h;exact r⟩
 | _,_,i+1,_,.cons _ t,h=>bc (i:=i) t h
def Srt(ns kept:List Int):Prop:=ns.Perm kept/\ns.Pairwise (·<=·)
def IsTold(a:Ad)(H:Hp)(v:V)(kept:List Int):Prop:=∃ x dx t ns,v=.ref x/\H x=some (.ins a.c_g dx [("rising",.ref t)])/\H t=some (.tup (ns.map V.int))/\Srt ns kept
def IsLam(H:Hp)(d:LamD)(fv:List Str)(v:V)(vals:List V):Prop:=∃ f c clos,v=.ref f/\H f=some (.ext (gW f d clos c))/\H c=some (.ext (fe c d.qual))/\clos.map (·.1)=fv/\(clos.map (·.2)).Nodup/\CellsAt H clos vals
theorem eM{H a:Hp}(s:SameT H a):∀{clos:List (Str×Addr)}{vals:List V},CellsAt H clos vals->CellsAt a clos vals
 | _,_,.nil=>.nil
 | _,_,.cons r t=>.cons (s.at r) (eM s t)
theorem IsLam.t{H g:Hp}{d:LamD}{e:List Str}{v:V}{a:List V}(s:SameT H g)(h:IsLam H d e v a):IsLam g d e v a:=by
 obtain⟨f,c,b,i,n,j,m,l,k⟩:=h;exact⟨f,c,b,i,s.at n,s.at j,m,l,eM s k⟩
theorem IsTold.t{a:Ad}{H c:Hp}{v:V}{b:List Int}(s:SameT H c)(h:IsTold a H v b):IsTold a c v b:=by
 obtain⟨x,j,t,g,d,i,e,f⟩:=h;exact⟨x,j,t,g,d,s.at i,s.at e,f⟩
inductive spToldI(a:Ad)(vs:List V)(H:Hp)(Q:VK)(_E:XK):Prop
 | mk(x dx l:Addr)(ns:List Int)(h0:vs=[.ref x,.ref l])(h1:H x=some (.ins a.c_g dx []))(h2:(H l=some (.lst (ns.map V.int))\/H l=some (.tup (ns.map V.int))))(h3:ns.length<64)(h4:∀ H' t ns',(∀ b o,b≠x->H b=some o->H' b=some o)->H' x=some (.ins a.c_g dx [("rising",.ref t)])->H' t=some (.tup (ns'.map V.int))->Srt ns' ns->Q .non H'):spToldI a vs H Q _E
inductive spDieI(a:Ad)(vs:List V)(H:Hp)(Q:VK)(_E:XK):Prop
 | mk(x dx l:Addr)(xs:List V)(h0:vs=[.ref x,.ref l])(h1:H x=some (.ins a.c_j dx []))(h2:H l=some (.lst xs))(h3:∀ H' t,H t=none->(∀ b o,b≠x->H b=some o->H' b=some o)->H' x=some (.ins a.c_j dx [("makes",.ref t)])->H' t=some (.lst xs)->Q .non H'):spDieI a vs H Q _E
theorem mI{a b:Type}{r:a->b->Prop}{as:List a}{x:a}{i:Nat}{ys:List b}{y:b}(h:Paired r (as.take i) ys)(e:as[i]? = some x)(q:r x y):Paired r (as.take (i+1)) (ys++[y]):=by
 rw[take_add_one,e];exact dy q h
def Bad(H:Hp)(Bd:List Addr):Prop:=∀ b∈Bd,∃ ys,H b=some (.lst ys)
theorem Bad.t{H a:Hp}{c:List Addr}(s:SameT H a)(h:Bad H c):Bad a c:=λb d=>let ⟨ys,e⟩:=h b d;⟨ys,s.at e⟩
theorem bV{H a:Hp}{es:List Addr}(s:SameT H a):SameT (untrs H es) (untrs a es):=λb o e=>by
 by_cases hb:b∈es
 .rw[cQ hb]at e;cases e
 .rw[aW hb]at e ⊢;exact s b o e
theorem aC{H:Hp}{es:List Addr}{b:Addr}{o:HO}(e:untrs H es b=some o):b ∉ es/\H b=some o:=by
 by_cases hb:b∈es
 .rw[cQ hb]at e;cases e
 .rw[aW hb]at e;exact⟨hb,e⟩
theorem dP{H:Hp}{es:List Addr}:SameT (untrs H es) H:=λb o e=>⟨λ_=>(aC e).2,o,(aC e).2⟩
theorem cG{H:Hp}{d:List Addr}{b:Addr}{o:HO}(a:Bad H d)(e:H b=some o)(n:∀ ys,o≠.lst ys):untrs H d b=some o:=by
 rw[aW λz=>?_]
 .exact e
 .obtain⟨ys,c⟩:=a b z
  rw[e]at c;exact n ys (Option.some.inj c)
theorem gy{H:Hp}{g:List Addr}(a:Bad H g){d:LamD}{i:List Str}{f:V}{j:List V}(h:IsLam H d i f j):IsLam (untrs H g) d i f j:=by
 obtain⟨n,c,b,q,e,k,m,l,o⟩:=h;refine⟨n,c,b,q,cG a e (λ_ z=>nomatch z),cG a k (λ_ z=>nomatch z),m,l,?_⟩;clear e k m l
 induction o with
 | nil=>exact .nil
 | cons r _ ih=>exact .cons (cG a r (λ_ z=>nomatch z)) ih
theorem fH{a:Ad}{H:Hp}{d:List Addr}(b:Bad H d){u:V}{e:List Int}(h:IsTold a H u e):IsTold a (untrs H d) u e:=by
 obtain⟨x,k,t,c,f,j,g,i⟩:=h;exact⟨x,k,t,c,f,cG b j (λ_ z=>nomatch z),cG b g (λ_ z=>nomatch z),i⟩
theorem b8{H:Hp}{d:List Addr}(c:Bad H d){a:List (Str×Addr)}{b:List V}(h:CellsAt H a b):CellsAt (untrs H d) a b:=by
 induction h with
 | nil=>exact .nil
 | cons r _ ih=>exact .cons (cG c r (λ_ z=>nomatch z)) ih
theorem dR(H:Hp)(es a:List Addr):untrs (untrs H es) a=untrs (untrs H a) es:=by
 funext b
 unfold untrs
 split <;> split <;> rfl
theorem bQ(H:Hp):untrs H []=H:=by funext b;exact aW (by simp)
theorem iM{H:Hp}{f:List Addr}{a:List (Str×Addr)}{c:List V}(g:CellsAt H a c)(d:Bad H f):Bad (untrs H (a.map (·.2))) f:=λb h=>let ⟨ys,e⟩:=d b h;⟨ys,bU g e λv z=>nomatch z⟩
theorem lP{H:Hp}{es:List Addr}{b:Addr}{o:HO}(d:b∈es):SameT (untrs H es) (untrs (upd H b o) es):=λc u e=>by
 obtain⟨n,a⟩:=aC e;have:untrs (upd H b o) es c=some u:=by rw[aW n,ai (λz=>n (by rw[z];exact d))];exact a
 exact⟨λ_=>this,u,this⟩
theorem pT{H b:Hp}{es:List Addr}{D:Addr}(s:SameT H b)(h:H D=none):SameT (untrs H es) (untrs b (D::es)):=λc u e=>by
 obtain⟨n,a⟩:=aC e
 have d:c ∉ D::es:=λz=>by
  rcases mem_cons.mp z with z | z
  .rw[z,h]at a;cases a
  .exact n z
 rw[aW d];exact s c u a
theorem qw{H:Hp}{es:List Addr}{D:Addr}:SameT (untrs H (D::es)) (untrs H es):=λc u e=>by
 obtain⟨n,a⟩:=aC e;have:untrs H es c=some u:=by rw[aW (λz=>n (mem_cons_of_mem _ z))];exact a
 exact⟨λ_=>this,u,this⟩
theorem TabsOk.untrs{a:lx}{H:Hp}{b:List (Str×Addr)}{d:List V}(f:TabsOk a H)(e:CellsAt H b d):TabsOk a (untrs H (b.map (·.2))):=λq g=>by
 obtain⟨i,j,k,h⟩:=f q g;exact⟨i,bU e j (λv z=>nomatch z),k,λl hl=>(h l hl).imp id λ⟨c,x,y⟩=>⟨c,x,bU e y λv=>ko⟩⟩
theorem mR{H d c:Hp}{a:List (Str×Addr)}(s:SameT (untrs H (a.map (·.2))) d)(h:Same d c)(f:∀ p∈a,c p.2=H p.2):SameT H c:=λb o e=>by
 by_cases hb:b∈a.map (·.2)
 .obtain⟨p,g,rfl⟩:=mem_map.mp hb
  rw[f p g,e];exact⟨λ_=>rfl,o,rfl⟩
 .exact(s.trans h.t) b o (by rw[aW hb];exact e)
abbrev Tl:=List (Int×(Int×Int))
abbrev fv1:List Str:=["wanted","taken","rest","ahead"]
abbrev fv2:List Str:=["wanted","taken","rest"]
abbrev fvS:List Str:=["step","places","first"]
abbrev fvA:List Str:=["taken","rest","place"]
abbrev fvB:List Str:=["taken","rest"]
def PrAt(K:Frag)(H:Hp)(x:Int×(Int×Int))(v:V):Prop:=∃ q y,v=.ref q/\H q=some (.tup [.int x.1,y])/\IsF K H x.2 y
theorem IsF.t{K:Frag}{H a:Hp}{f:Int×Int}{x:V}(s:SameT H a)(h:IsF K H f x):IsF K a f x:=let ⟨p,e,q⟩:=h;⟨p,e,q.imp (λz=>s.at z) id⟩
theorem PrAt.t{K:Frag}{H a:Hp}(s:SameT H a)(x:Int×(Int×Int))(v:V)(h:PrAt K H x v):PrAt K a x v:=let ⟨q,y,h1,h2,h3⟩:=h;⟨q,y,h1,s.at h2,h3.t s⟩
theorem PrAt.un{K:Frag}{H:Hp}{a:List (Str×Addr)}{b:List V}(c:CellsAt H a b)(x:Int×(Int×Int))(v:V)(h:PrAt K H x v):PrAt K (untrs H (a.map (·.2))) x v:=by
 obtain⟨p,y,f,j,d,g,i⟩:=h;exact⟨p,y,f,bU c j (λv z=>nomatch z),d,g,i.imp (λe=>bU c e (λv z=>nomatch z)) id⟩
def LsT(H:Hp)(v:V)(ps:List Int):Prop:=∃ l,v=.ref l/\H l=some (.lst (ps.map V.int))
theorem LsT.t{H a:Hp}{v:V}{ps:List Int}(s:SameT H a)(h:LsT H v ps):LsT a v ps:=let ⟨l,e,h1⟩:=h;⟨l,e,s.at h1⟩
theorem LsT.un{H:Hp}{a:List (Str×Addr)}{b:List V}(c:CellsAt H a b){v:V}{ps:List Int}(h:LsT H v ps):LsT (untrs H (a.map (·.2))) v ps:=let ⟨l,e,h1⟩:=h;⟨l,e,bU c h1 λv z=>nomatch z⟩
def LsP(K:Frag)(H:Hp)(v:V)(L:Tl):Prop:=∃ l xs,v=.ref l/\H l=some (.lst xs)/\Paired (PrAt K H) L xs
theorem LsP.t{K:Frag}{H a:Hp}{v:V}{L:Tl}(s:SameT H a)(h:LsP K H v L):LsP K a v L:=let ⟨l,xs,e,h1,h2⟩:=h;⟨l,xs,e,s.at h1,aG (PrAt.t s) h2⟩
theorem LsP.un{K:Frag}{H:Hp}{a:List (Str×Addr)}{b:List V}(c:CellsAt H a b){v:V}{L:Tl}(h:LsP K H v L):LsP K (untrs H (a.map (·.2))) v L:=let ⟨l,xs,e,h1,h2⟩:=h;⟨l,xs,e,bU c h1 (λv z=>nomatch z),aG (PrAt.un c) h2⟩
def WfL(ahead:Tl)(taken:List Int):Prop:=ahead.length+taken.length<=24/\∀ x∈ahead,uns x.2=true
def IsMk(K:Frag)(H:Hp)(f:V)(t:Tr):Prop :=
 (∃ va vt vr ahead taken,∃ m:Nat,IsLam H cx fv1 f [.int (m:Nat),vt,vr,va]/\LsT H va ahead/\LsT H vt taken/\LsT H vr (ahead.drop 1)/\0<m/\m<ahead.length/\ahead.length+taken.length<=24/\t=fT (ahead.drop 1) (m - 1) (taken++ahead.take 1)) \/
 (∃ vt vr rest taken,∃ m:Nat,IsLam H cw fv2 f [.int (m:Nat),vt,vr]/\LsT H vt taken/\LsT H vr rest/\rest.length+taken.length<=24/\t=fT rest m taken) \/
 (∃ vp ps,∃ st fi:Nat,IsLam H aX fvS f [.int (st:Nat),vp,.int (fi:Nat)]/\LsT H vp ps/\ps.length<=24/\fi<st/\t=.leaf (ba ps fi st)) \/
 (∃ vt vr rest taken,∃ p:Int,IsLam H bS fvA f [vt,vr,.int p]/\LsT H vt taken/\LsP K H vr rest/\WfL rest (taken++[p])/\t=lT rest (taken++[p])) \/
 ∃ vt vr rest taken,IsLam H bR fvB f [vt,vr]/\LsT H vt taken/\LsP K H vr rest/\WfL rest taken/\t=lT rest taken
theorem IsMk.t{K:Frag}{H j:Hp}{f:V}{t:Tr}(s:SameT H j)(h:IsMk K H f t):IsMk K j f t:=by
 rcases h with⟨l,e,g,k,c,m,a,b,d,q,r⟩ | ⟨e,g,i,c,m,a,b,d,r⟩ | ⟨n,v,o,u,a,b,r⟩ | ⟨e,g,i,c,p,a,b,d,r⟩ | ⟨e,g,i,c,a,b,d,r⟩
 .exact .inl ⟨l,e,g,k,c,m,a.t s,b.t s,d.t s,q.t s,r⟩
 .exact .inr (.inl ⟨e,g,i,c,m,a.t s,b.t s,d.t s,r⟩)
 .exact .inr (.inr (.inl ⟨n,v,o,u,a.t s,b.t s,r⟩))
 .exact .inr (.inr (.inr (.inl ⟨e,g,i,c,p,a.t s,b.t s,d.t s,r⟩)))
 .exact .inr (.inr (.inr (.inr ⟨e,g,i,c,a.t s,b.t s,d.t s,r⟩)))
def NdR(K:Frag)(H:Hp)(pt:Int×Tr)(y:V):Prop:=∃ q f,y=.ref q/\H q=some (.tup [.int pt.1,f])/\1<=pt.1/\IsMk K H f pt.2
theorem NdR.t{K:Frag}{H a:Hp}(s:SameT H a)(pt:Int×Tr)(y:V)(h:NdR K H pt y):NdR K a pt y:=by
 obtain⟨q,f,b,e,c,d⟩:=h;exact⟨q,f,b,s.at e,c,d.t s⟩
def IsNd(K:Frag)(a:Ad)(H:Hp)(v:V):Tr->Prop
 | .leaf ns=>IsTold a H v ns
 | .die ps=>∃ x dx l ys,v=.ref x/\H x=some (.ins a.c_j dx [("makes",.ref l)])/\H l=some (.lst ys)/\Paired (NdR K H) ps ys/\1<=ps.length/\ps.length<=100
theorem IsNd.t{K:Frag}{a:Ad}{H b:Hp}{v:V}(s:SameT H b):∀{t:Tr},IsNd K a H v t->IsNd K a b v t
 | .leaf _,h=>IsTold.t s h
 | .die _,h=>by
  obtain⟨x,j,l,f,c,i,d,g,e⟩:=h;exact⟨x,j,l,f,c,s.at i,s.at d,aG (NdR.t s) g,e⟩
def Res(K:Frag)(a:Ad)(H:Hp)(Bd:List Addr)(t:Tr)(Q:VK):Prop:=∀ H' u,SameT H H'->TabsOk (tabs a) H'->IsNd K a (untrs H' Bd) u t->Q u H'
theorem ls1:LamScope cx fv1 []:=⟨rfl,rfl,rfl,by decide +kernel,by decide +kernel,by decide +kernel,by decide +kernel,by decide +kernel⟩
theorem ls2:LamScope cw fv2 []:=⟨rfl,rfl,rfl,by decide +kernel,by decide +kernel,by decide +kernel,by decide +kernel,by decide +kernel⟩
theorem lsS:LamScope aX fvS []:=⟨rfl,rfl,rfl,by decide +kernel,by decide +kernel,by decide +kernel,by decide +kernel,by decide +kernel⟩
theorem lsA:LamScope bS fvA []:=⟨rfl,rfl,rfl,by decide +kernel,by decide +kernel,by decide +kernel,by decide +kernel,by decide +kernel⟩
theorem lsB:LamScope bR fvB []:=⟨rfl,rfl,rfl,by decide +kernel,by decide +kernel,by decide +kernel,by decide +kernel,by decide +kernel⟩
theorem fK{H:Hp}{d:List Addr}{b:Addr}{o:HO}(a:Bad H d)(f:H b=none){c:Hp}(h:c b=some o):untrs c d b=some o:=by
 rw[aW λz=>?_]
 .exact h
 .obtain⟨g,e⟩:=a b z
  rw[f]at e;cases e
theorem nd4(n:Nat):([n+1+1,n+1+1+1,n+1+1+1+1,n+1]:List Nat).Nodup:=by
 simp only[nodup_cons,mem_cons,not_mem_nil,or_false,not_or,not_false_eq_true,nodup_nil,and_true];lia
theorem nd3(n:Nat):([n+1+1,n+1+1+1,n+1+1+1+1]:List Nat).Nodup:=by
 simp only[nodup_cons,mem_cons,not_mem_nil,or_false,not_or,not_false_eq_true,nodup_nil,and_true];lia
section
variable {P:Program}{w:World}{K:Frag}{mg:Str->Option Value}{base:Heap}{a:Ad}
theorem iJ(T:Txt K mg a):FnOk P w K mg base CX0 1 a.i_g a.e_g ["self","kept"] (spToldI a):=by
 refine T.Fi_g.ok gY (λm H Q E h=>?_) (λcdv A outer s H m Q E hr h=>?_)
 .obtain⟨x,k,l,j,rfl,_⟩:=h;rfl
 .obtain⟨x,k,l,j,rfl,i,y,u,q⟩:=h
  refine⟨_,(aj (jn (vr 0) (cf eB rfl T.z_tuple fm (aa (ar jH rfl T.z_sorted gS (aa (vr 1) ae)) ae)) rfl)),?_⟩;refine⟨l,j,rfl,y.imp SqL.of SqT.of,u,λp c v D B=>?_⟩;have g:=Same.new (o:=.lst (c.map V.int)) B;refine⟨p,_,rfl,.inl ⟨SqL.of ad,λt f=>?_⟩⟩;have C:=Same.new (o:=.tup (c.map V.int)) f;have d:=g.trans C;have r:t≠x:=λz=>by rw[z,g _ _ i]at f;cases f
  refine⟨x,a.c_g,k,[],rfl,d _ _ i,T.cl_g,T.na_Told_rising,(by decide),?_⟩;exact q _ t c (λb o n e=>by rw[ai n];exact d _ _ e) ad (by rw[ai r];exact ad) ⟨v,D⟩
theorem nI(T:Txt K mg a):FnOk P w K mg base CX0 1 a.i_j a.e_j ["self","parts"] (spDieI a):=by
 refine T.Fi_j.ok ir (λj H Q E h=>?_) (λcdv A outer s H j Q E hr h=>?_)
 .obtain⟨x,i,l,d,rfl,_⟩:=h;rfl
 .obtain⟨x,i,l,d,rfl,g,m,q⟩:=h
  refine⟨_,(aj (jn (vr 0) (cf gp rfl T.z_list eN (aa (vr 1) ae)) rfl)),?_⟩;refine⟨l,d,rfl,.inl (SqL.of m),λt c=>?_⟩;have f:=Same.new (o:=.lst d) c;have k:t≠x:=λz=>by rw[z,g]at c;cases c
  refine⟨x,a.c_j,i,[],rfl,f _ _ g,T.cl_j,T.na_Die_makes,(by decide),?_⟩;exact q _ t c (λb o n e=>by rw[ai n];exact f _ _ e) ad (by rw[ai k];exact ad)
theorem made{a d:Hp}{x f:Addr}{i h:HO}(c:a x=none)(g:a f=none)(k:∀ b o,b≠x->(upd (upd a f i) x h) b=some o->d b=some o):Same a d:=λb o e=>by
 refine k b o (ap e c) ?_;rw[ai (ap e c),ai (ap e g)];exact e
end
open Tb (Tr fT lT sT ba)
inductive spFN(K:Frag)(a:Ad)(vs:List V)(H:Hp)(Q:VK)(_E:XK):Prop
 | mk(va vt:V)(ahead taken:List Int)(m:Nat)(Bd:List Addr)(h0:vs=[va,.int (m:Nat),vt])(h1:Bad H Bd)(h2:LsT (untrs H Bd) va ahead)(h3:LsT (untrs H Bd) vt taken)(h4:ahead.length+taken.length<=24)(h5:TabsOk (tabs a) H)(h6:Res K a H Bd (fT ahead m taken) Q):spFN K a vs H Q _E
inductive spSM(a:Ad)(vs:List V)(H:Hp)(Q:VK)(_E:XK):Prop
 | mk(vp:V)(st fi:Nat)(h0:vs=[vp,.int (st:Nat),.int (fi:Nat)])(h1:TabsOk (tabs a) H)(h2:∀ H' f,SameT H H'->TabsOk (tabs a) H'->IsLam H' aX fvS f [.int (st:Nat),vp,.int (fi:Nat)]->Q f H'):spSM a vs H Q _E
inductive spLN(K:Frag)(a:Ad)(vs:List V)(H:Hp)(Q:VK)(_E:XK):Prop
 | mk(va vt:V)(ahead:Tl)(taken:List Int)(Bd:List Addr)(h0:vs=[va,vt])(h1:Bad H Bd)(h2:LsP K (untrs H Bd) va ahead)(h3:LsT (untrs H Bd) vt taken)(h4:WfL ahead taken)(h5:TabsOk (tabs a) H)(h6:Res K a H Bd (lT ahead taken) Q):spLN K a vs H Q _E
theorem vJ{c:Int×Int}(h:uns c=true):0<c.1/\c.1<c.2:=of_decide_eq_true h
section
variable {P:Program}{w:World}{K:Frag}{mg:Str->Option Value}{base:Heap}{a:Ad}
theorem sk(T:Txt K mg a)(hB:Bm mg base):FnOk P w K mg base CX0 3 a.f_h a.d_h ["ahead","wanted","taken"] (spFN K a):=by
 have al:FnOk P w K mg base CX0 1 _ _ _ (spToldI a):=iJ T;have a3:FnOk P w K mg base CX0 1 _ _ _ (spDieI a):=nI T;refine T.F_h.okL T.lcd_h sc_h (by decide +kernel) (λvs H Q E h=>?_) (λA outer s H vs Q E hr h=>?_)
 .obtain⟨va,vt,c,f,m,Bd,rfl,_⟩:=h;rfl
 .obtain⟨va,vt,c,f,m,Bd,rfl,u,hA,a0,a1,hT,q⟩:=h
  have a7:sizeLine=16777216:=sizeLine_eq;obtain⟨la,rfl,ca⟩:=id hA;obtain⟨lt,rfl,ct⟩:=id a0;have ha:=(aC ca).2;have ht:=(aC ct).2;refine⟨_,(dj (cD (cg me (vr 1) ao (be _)) (aj (aw (cU T.mk_g al hr rfl T.mc_g T.Bi_g .nil au (aa (vr 2) ae)))) aZ) (dj (cD (cg zd (vr 1) (ar ay rfl T.z_len bf (aa (vr 0) ae)) (be _)) (aj (aw (cU T.mk_g al hr rfl T.mc_g T.Bi_g .nil au (aa (ax m5 (vr 2) (vr 0)) ae)))) aZ) (dj (aA (i:=3) sc_h.nd rfl (Or.inr rfl) (gk lq (vr 0) (fG ao) iy)) (nC (cU T.mk_j a3 hr rfl T.mc_j T.Bi_j .nil au (aa (cH (aa (bP (aa (vr 1) (aa (fh (d:=cx) rfl T.lch_h hB rfl (by with_unfolding_all rfl) rfl (g9 a) (.head _) T.tnd hG) ae))) (aa (bP (aa (ax ge (ar ay rfl T.z_len bf (aa (vr 0) ae)) (vr 1)) (aa (fh (d:=cw) rfl T.lch_h hB rfl (by with_unfolding_all rfl) rfl (g9 a) (.tail _ (.head _)) T.tnd hG) ae))) ae))) ae)))))),?_⟩;refine ifC (λh0=>?_) λh0=>?_
  .have m0:m=0:=by lia
   subst m0;intro x n G g X;have N:Same H (upd (upd H n (.own x)) x (.ins a.c_g n [])):=λb o e=>by rw[ai (ap e G),ai (ap e g)];exact e
   refine⟨x,n,lt,f,rfl,ad,.inl (N _ _ ht),by lia,λH' t J k v h2 h3=>⟨rfl,?_⟩⟩;have L:=made G g k;refine q _ _ L.t (hT.same L) ?_;rw[Tb.fT_zero];exact fH (u.t L.t) ⟨x,n,t,J,rfl,v,h2,h3⟩
  have m1:0<m:=by lia
  refine⟨_,.inl (SqL.of ha),?_⟩;refine ifC (λv=>?_) λv=>?_
  .have v:c.length<=m:=by rw[length_map]at v;lia
   refine⟨lt,la,_,_,rfl,rfl,ht,ha,(by rw[length_map,length_map];lia),λr fr=>?_⟩;rw[<- map_append];have F:=Same.new (o:=.lst ((f++c).map V.int)) fr;have Y:(upd H r (.lst ((f++c).map V.int))) r=some (.lst ((f++c).map V.int)):=ad;generalize upd H r (.lst ((f++c).map V.int))=H1 at F Y;intro x n G g X;have N:Same H1 (upd (upd H1 n (.own x)) x (.ins a.c_g n [])):=λb o e=>by rw[ai (ap e G),ai (ap e g)];exact e
   refine⟨x,n,r,f++c,rfl,ad,.inl (N _ _ Y),(by rw[length_append];lia),λH' t J k g1 g2 g3=>⟨rfl,?_⟩⟩;have L:=F.trans (made G g k);refine q _ _ L.t (hT.same L) ?_;rw[Tb.fT_all v,if_neg (by lia)];exact fH (u.t L.t) ⟨x,n,t,J,rfl,g1,g2,g3⟩
  have v:m<c.length:=by rw[length_map]at v;lia
  refine⟨_,rfl,.inl ⟨_,SqL.of ha,λS fr=>?_⟩⟩;have er:dN (c.map V.int) (some 1) none=(c.drop 1).map V.int:=by rw[List.map_drop];exact jX _ 1
  rw[er];have F:=Same.new (o:=.lst ((c.drop 1).map V.int)) fr;have an:(upd H S (.lst ((c.drop 1).map V.int))) S=some (.lst ((c.drop 1).map V.int)):=ad;generalize upd H S (.lst ((c.drop 1).map V.int))=H1 at F an;refine⟨hT.same F,λM c1 H2 t2 bg n1 bm a4=>?_⟩;refine⟨(by decide:2<=sizeLine),λI a8=>?_⟩;have s3:=Same.new (o:=.tup [.int (m:Nat),.ref M]) a8;have R:(upd H2 I (.tup [.int (m:Nat),.ref M])) I=some (.tup [.int (m:Nat),.ref M]):=ad;generalize upd H2 I (.tup [.int (m:Nat),.ref M])=H3 at s3 R;have t3:=(F.t.trans t2).trans s3.t;refine⟨_,.inl (SqL.of (t3.at ha)),?_⟩;refine⟨bg.same s3,λO c2 H4 t4 bl n2 a5 a6=>?_⟩;refine⟨(by decide:2<=sizeLine),λD a9=>?_⟩;rw[length_map];have s5:=Same.new (o:=.tup [.int ((c.length:Int) - (m:Nat)),.ref O]) a9;have W:(upd H4 D (.tup [.int ((c.length:Int) - (m:Nat)),.ref O])) D=some (.tup [.int ((c.length:Int) - (m:Nat)),.ref O]):=ad;generalize upd H4 D (.tup [.int ((c.length:Int) - (m:Nat)),.ref O])=H5 at s5 W;refine⟨(by decide:2<=sizeLine),λl0 a'=>?_⟩;have s6:=Same.new (o:=.lst [.ref I,.ref D]) a';have Z:(upd H5 l0 (.lst [.ref I,.ref D])) l0=some (.lst [.ref I,.ref D]):=ad;generalize upd H5 l0 (.lst [.ref I,.ref D])=H6 at s6 Z;intro x n G g X;have N:Same H6 (upd (upd H6 n (.own x)) x (.ins a.c_j n [])):=λb o e=>by rw[ai (ap e G),ai (ap e g)];exact e
  refine⟨x,n,l0,_,rfl,ad,N _ _ Z,λH7 l g3 k g1 g2=>⟨rfl,λH8 s8 hc=>?_⟩⟩;have s7:=made G g k;have a2:=s7.trans s8;have ab:=s6.trans a2;have C:=s5.trans ab;have U:=t4.trans C.t;have y:=s3.t.trans U;have B:=F.t.trans (t2.trans y);have cA:=hc 0 _ _ _ rfl rfl (by with_unfolding_all rfl);have cW:=hc 1 _ _ _ rfl rfl (by with_unfolding_all rfl);have cT:=hc 2 _ _ _ rfl rfl (by with_unfolding_all rfl);have cR:=hc 3 _ _ _ rfl rfl (by with_unfolding_all rfl);have j:=u.t B;have fl:H l=none:=(F.t.trans (t2.trans (s3.t.trans (t4.trans (s5.t.trans s6.t))))).free (N.free g3);have bd:=hA.t (bV B);have ah:=a0.t (bV B)
  have as:LsT (untrs H8 Bd) (.ref S) (c.drop 1):=⟨S,rfl,fK u fr ((t2.trans y).at an)⟩
  refine q _ _ B (bl.same C) ?_;rw[Tb.fT_die m1 v];refine⟨x,n,l,_,rfl,cG j (s8 _ _ g1) (λ_ z=>nomatch z),fK u fl (s8 _ _ g2),.cons ⟨I,.ref M,rfl,cG j (U.at R) (λ_ z=>nomatch z),by show(1:Int)<=(m:Nat);lia,.inl ⟨_,_,_,c,f,m,gy j ?_,bd,ah,as,m1,v,a1,rfl⟩⟩ (.cons ⟨D,.ref O,rfl,cG j (ab _ _ W) (λ_ z=>nomatch z),by show(1:Int)<=(c.length:Int) - (m:Nat);lia,.inr (.inl ⟨_,_,c.drop 1,f,m,gy j ?_,ah,as,by rw[length_drop];lia,rfl⟩)⟩ .nil),by show 1<=2;decide,by show 2<=100;decide⟩
  .exact⟨M,c1,_,rfl,y.at bm,y.at a4,rfl,nd4 _,.cons cW (.cons cT (.cons cR (.cons cA .nil)))⟩
  .exact⟨O,c2,_,rfl,C _ _ a5,C _ _ a6,rfl,nd3 _,.cons cW (.cons cT (.cons cR .nil))⟩
theorem xB(T:Txt K mg a)(j:Bm mg base):FnOk P w K mg base CX0 1 a.f_i a.d_i ["places","step","first"] (spSM a):=by
 refine T.F_i.okL T.lcd_i jy (by decide +kernel) (λk H Q E h=>?_) (λA outer s H k Q E hr h=>?_)
 .obtain⟨v,n,m,rfl,_⟩:=h;rfl
 .obtain⟨v,n,m,rfl,i,q⟩:=h
  refine⟨_,(nC (fh (d:=aX) rfl T.lch_i j rfl (by with_unfolding_all rfl) rfl (jF a) (.head _) T.tnd jr)),?_⟩;refine⟨i,λo l y r e x g f=>?_⟩;exact λu b c=>q _ _ (r.trans b.t) (e.same b) ⟨o,l,_,rfl,b _ _ g,b _ _ f,rfl,by simp,.cons (c 1 _ _ _ rfl rfl (by with_unfolding_all rfl)) (.cons (c 0 _ _ _ rfl rfl (by with_unfolding_all rfl)) (.cons (c 2 _ _ _ rfl rfl (by with_unfolding_all rfl)) .nil))⟩
theorem sV(T:Txt K mg a)(hB:Bm mg base):FnOk P w K mg base CX0 3 a.f_c a.d_c ["ahead","taken"] (spLN K a):=by
 have a8:FnOk P w K mg base CX0 1 _ _ _ (spToldI a):=iJ T;have a3:FnOk P w K mg base CX0 1 _ _ _ (spDieI a):=nI T;refine T.F_c.okL T.lcd_c sc_c (by decide +kernel) (λvs H Q E h=>?_) (λA outer s H vs Q E hr h=>?_)
 .obtain⟨va,vt,F,f,Bd,rfl,_⟩:=h;rfl
 .obtain⟨va,vt,F,f,Bd,rfl,v,hA,as,I,hT,q⟩:=h
  have a7:sizeLine=16777216:=sizeLine_eq;obtain⟨la,xs,rfl,ca,hP⟩:=id hA;obtain⟨lt,rfl,ct⟩:=id as;have ha:=(aC ca).2;have ht:=(aC ct).2;refine⟨_,(dj (cD (dS (i9 (vr 0) (λ_=>rfl))) (aj (aw (cU T.mk_g a8 hr rfl T.mc_g T.Bi_g .nil au (aa (vr 1) ae)))) aZ) (dj (vT (bA aY (vr 0) ao (λ_ _=>rfl)) (fk rfl (az (av (i:=2) sc_c.nd rfl (Or.inr rfl)) (az (av (i:=3) sc_c.nd rfl (Or.inl rfl)) cm)))) (dj (aA (i:=4) sc_c.nd rfl (Or.inr rfl) (gk lq (vr 0) (fG ao) iy)) (nC (cU T.mk_j a3 hr rfl T.mc_j T.Bi_j .nil au (aa (cH (aa (bP (aa (bA aY (vr 3) ao (λ_ _=>rfl)) (aa (fh (d:=bS) rfl T.lch_c hB rfl (by with_unfolding_all rfl) rfl (fW a) (.head _) T.tnd fY) ae))) (aa (bP (aa (ax ge (bA aY (vr 3) ao (λ_ _=>rfl)) (bA aY (vr 3) ao (λ_ _=>rfl))) (aa (fh (d:=bR) rfl T.lch_c hB rfl (by with_unfolding_all rfl) rfl (fW a) (.tail _ (.head _)) T.tnd fY) ae))) ae))) ae)))))),?_⟩;cases hP with
  | nil =>
   refine⟨_,.inl ⟨_,SqL.of ha,rfl⟩,?_⟩;intro x n X j a2;have s0:Same H (upd (upd H n (.own x)) x (.ins a.c_g n [])):=λb o e=>by rw[ai (ap e X),ai (ap e j)];exact e
   have:=I.1;refine⟨x,n,lt,f,rfl,ad,.inl (s0 _ _ ht),by simp at this;lia,λH' t a1 k h1 h2 h3=>⟨rfl,?_⟩⟩;have sm:=made X j k;exact q _ _ sm.t (hT.same sm) (fH (v.t sm.t) ⟨x,n,t,a1,rfl,h1,h2,h3⟩)
  | @cons r1 v1 rest xs1 g1 hP1 =>
   obtain⟨p,c⟩:=r1;obtain⟨q0,y,rfl,G,bo⟩:=g1;have G:=(aC G).2;have hc:IsF K H c y:=bo.t dP;refine⟨_,.inl ⟨_,SqL.of ha,rfl⟩,?_⟩;refine .inl ⟨la,_,_,_,rfl,rfl,SqL.of ha,de 0 rfl rfl,q0,_,rfl,SqT.of G,rfl,_,_,rfl,_,_,rfl,rfl,?_⟩;refine⟨_,rfl,.inl ⟨_,SqL.of ha,λS fr=>?_⟩⟩;have er:dN (.ref q0::xs1) (some 1) none=xs1:=jX _ 1;rw[er];have M:=Same.new (o:=.lst xs1) fr;have al:(upd H S (.lst xs1)) S=some (.lst xs1):=ad;generalize upd H S (.lst xs1)=H1 at M al;obtain⟨pc,rfl,bq⟩:=id hc;have m:∀{H':Hp},SameT H H'->PT K H' pc c:=λs=>by obtain⟨_,z,h⟩:=hc.t s;cases z;exact h
   refine px0 (m M.t).sq ?_;refine⟨hT.same M,λL c1 H2 t2 bg n1 bm a4=>?_⟩;refine⟨(by decide:2<=sizeLine),λC a9=>?_⟩;have s3:=Same.new (o:=.tup [.int c.1,.ref L]) a9;have R:(upd H2 C (.tup [.int c.1,.ref L])) C=some (.tup [.int c.1,.ref L]):=ad;generalize upd H2 C (.tup [.int c.1,.ref L])=H3 at s3 R;have t3:=M.t.trans (t2.trans s3.t);refine px1 (m t3).sq (px0 (m t3).sq ?_);refine⟨bg.same s3,λN c2 H4 t4 bl n2 a5 a6=>?_⟩;refine⟨(by decide:2<=sizeLine),λB a'=>?_⟩;have s5:=Same.new (o:=.tup [.int (c.2 - c.1),.ref N]) a';have W:(upd H4 B (.tup [.int (c.2 - c.1),.ref N])) B=some (.tup [.int (c.2 - c.1),.ref N]):=ad;generalize upd H4 B (.tup [.int (c.2 - c.1),.ref N])=H5 at s5 W;refine⟨(by decide:2<=sizeLine),λl0 bd=>?_⟩;have s6:=Same.new (o:=.lst [.ref C,.ref B]) bd;have Y:(upd H5 l0 (.lst [.ref C,.ref B])) l0=some (.lst [.ref C,.ref B]):=ad;generalize upd H5 l0 (.lst [.ref C,.ref B])=H6 at s6 Y;intro x n X j a2;have s0:Same H6 (upd (upd H6 n (.own x)) x (.ins a.c_j n [])):=λb o e=>by rw[ai (ap e X),ai (ap e j)];exact e
   refine⟨x,n,l0,_,rfl,ad,s0 _ _ Y,λH7 l gl k g1 g2=>⟨rfl,λH8 s8 hc'=>?_⟩⟩;have s7:=made X j k;have a0:=s7.trans s8;have Z:=s6.trans a0;have r:=s5.trans Z;have U:=t4.trans r.t;have D:=s3.t.trans U;have ah:=t2.trans D;have u:=M.t.trans ah;have cT:=hc' 1 _ _ _ rfl rfl (by with_unfolding_all rfl);have cP:=hc' 2 _ _ _ rfl rfl (by with_unfolding_all rfl);have cR:=hc' 4 _ _ _ rfl rfl (by with_unfolding_all rfl);have fl:H l=none:=(M.t.trans (t2.trans (s3.t.trans (t4.trans (s5.trans s6).t)))).free (s0.free gl);have O:=I.1;have J:=I.2;have hu:=vJ (J _ mem_cons_self);have g:=v.t u;have ab:=as.t (bV u)
   have an:LsP K (untrs H8 Bd) (.ref S) rest:=⟨S,xs1,rfl,fK v fr (ah.at al),aG (PrAt.t (bV u)) hP1⟩
   refine q _ _ u (bl.same r) ?_;show IsNd K a (untrs H8 Bd) (.ref x) (.die [(c.1,lT rest (f++[p])),(c.2 - c.1,lT rest f)]);refine⟨x,n,l,_,rfl,cG g (s8 _ _ g1) (λ_ z=>nomatch z),fK v fl (s8 _ _ g2),.cons ⟨C,.ref L,rfl,cG g (U.at R) (λ_ z=>nomatch z),by show 1<=c.1;lia,.inr (.inr (.inr (.inl ⟨_,_,rest,f,p,gy g ?_,ab,an,⟨?_,λz hz=>J z (mem_cons_of_mem _ hz)⟩,rfl⟩)))⟩ (.cons ⟨B,.ref N,rfl,cG g (Z _ _ W) (λ_ z=>nomatch z),by show 1<=c.2 - c.1;lia,.inr (.inr (.inr (.inr ⟨_,_,rest,f,gy g ?_,ab,an,⟨?_,λz hz=>J z (mem_cons_of_mem _ hz)⟩,rfl⟩)))⟩ .nil),by show 1<=2;decide,by show 2<=100;decide⟩
   .exact⟨L,c1,_,rfl,D.at bm,D.at a4,rfl,by simp,.cons cT (.cons cR (.cons cP .nil))⟩
   .rw[length_append,length_singleton];rw[length_cons]at O;lia
   .exact⟨N,c2,_,rfl,r _ _ a5,r _ _ a6,rfl,by simp,.cons cT (.cons cR .nil)⟩
   .rw[length_cons]at O;lia
end
open Tb (Tr fT lT sT ba)
def cnt(n a c:Nat):Nat:=(n - a+c - 1)/c
theorem kS{n a c:Nat}(b:0<c)(h:n<=a):cnt n a c=0:=by
 unfold cnt;rw[show n - a=0 by lia];exact Nat.div_eq_of_lt (by lia)
theorem gF{x c k:Nat}(a:0<c)(d:c*k<=x)(b:x<c*k+c):x/c=k:=by
 rw[Nat.div_eq_iff a];rw[Nat.mul_comm k c];lia
theorem tX{n a c:Nat}(b:0<c)(g:a<c)(h:n % c=a):cnt (n+1) a c=cnt n a c+1/\n=a+c*cnt n a c:=by
 have e:=Nat.div_add_mod n c;rw[h]at e
 have f:cnt n a c=n/c:=by
  unfold cnt;exact gF b (by lia) (by lia)
 have d:cnt (n+1) a c=n/c+1:=by
  unfold cnt
  refine gF b ?_ ?_ <;> rw[Nat.mul_add] <;> lia
 rw[d,f];lia
theorem qN{n a c:Nat}(b:0<c)(i:a<c)(h:n % c≠a):cnt (n+1) a c=cnt n a c:=by
 have e:=Nat.div_add_mod n c;have l:=Nat.mod_lt n b
 rcases Nat.lt_or_ge a (n % c) with g | g
 .have f:cnt n a c=n/c+1:=by
   unfold cnt
   refine gF b ?_ ?_ <;> rw[Nat.mul_add] <;> lia
  have d:cnt (n+1) a c=n/c+1:=by
   unfold cnt
   refine gF b ?_ ?_ <;> rw[Nat.mul_add] <;> lia
  rw[f,d]
 .by_cases z:n/c=0
  .rw[z,Nat.mul_zero]at e
   rw[kS b (show n+1<=a by lia),kS b (show n<=a by lia)]
  .obtain⟨m,hm⟩:∃ m,n/c=m+1:=Nat.exists_eq_succ_of_ne_zero z
   rw[hm,Nat.mul_add]at e
   have f:cnt n a c=m+1:=by
    unfold cnt
    refine gF b ?_ ?_ <;> rw[Nat.mul_add] <;> lia
   have d:cnt (n+1) a c=m+1:=by
    unfold cnt
    refine gF b ?_ ?_ <;> rw[Nat.mul_add] <;> lia
   rw[f,d]
theorem hV{a c:Nat}(b:0<c)(d:a<c):∀ n,(List.range n).filter (λk=>decide (k % c=a))=(List.range (cnt n a c)).map λk=>a+c*k
 | 0=>by rw[kS b (Nat.zero_le _)];rfl
 | n+1=>by
  rw[range_succ,filter_append,hV b d n]
  by_cases h:n % c=a
  .obtain⟨f,e⟩:=tX b d h
   rw[f,range_succ,map_append]
   congr 1
   simp[h];exact e
  .rw[qN b d h]
   simp[h]
theorem mU{n a c:Nat}(d:0<c)(e:a<c):sliceRange (sliceBounds (some (a:Int)) none (some (c:Int)) n).1 (sliceBounds (some (a:Int)) none (some (c:Int)) n).2.1 (sliceBounds (some (a:Int)) none (some (c:Int)) n).2.2=(List.range n).filter λk=>decide (k % c=a):=by
 rw[hV d e n];have b:(c:Int) > 0:=by lia
 have g:(sliceBounds (some (a:Int)) none (some (c:Int)) n).1=((min a n:Nat):Int):=by
  unfold sliceBounds;simp only[Option.getD_some,b,if_true];rw[if_neg (by lia)];lia
 have i:(sliceBounds (some (a:Int)) none (some (c:Int)) n).2.1=(n:Int):=by
  unfold sliceBounds;simp only[Option.getD_some,b,if_true]
 have f:(sliceBounds (some (a:Int)) none (some (c:Int)) n).2.2=(c:Int):=rfl;rw[g,i,f];unfold sliceRange;simp only[b,if_true]
 by_cases h:a<n
 .rw[if_pos (by lia),show min a n=a by lia]
  have:(((n:Int) - (a:Int)+(c:Int) - 1)/(c:Int)).toNat=cnt n a c:=by
   unfold cnt;rw[show(n:Int) - (a:Int)+(c:Int) - 1=((n - a+c - 1:Nat):Int) by lia,<- Int.natCast_ediv,Int.toNat_natCast]
  rw[this];refine map_congr_left λk _=>?_
  rw[show(a:Int)+(c:Int)*(k:Int)=((a+c*k:Nat):Int) by push_cast;rfl,Int.toNat_natCast]
 .rw[if_neg (by lia),kS d (by lia)]
  rfl
theorem ng{ps:List Int}{a c:Nat}(b:0<c)(d:a<c):j0 (ps.map V.int) (some (a:Int)) (c:Int)=(ba ps a c).map V.int:=by
 unfold j0 ba;rw[length_map,mU b d,List.map_filterMap]
 congr 1
 funext k
 rw[List.getElem?_map]
theorem pZ(ps:List Int)(a c:Nat):(ba ps a c).length<=ps.length:=by
 unfold ba;refine Nat.le_trans (List.length_filterMap_le _ _) (Nat.le_trans (length_filter_le _ _) ?_);rw[length_range];exact Nat.le_refl _
def vB(K:Frag)(a:Ad):List V->Sp:=λvals vs H Q _=>∃(va vt vr:V) (ahead taken:List Int) (m:Nat) (Bd:List Addr),vals=[.int (m:Nat),vt,vr,va]/\vs=[]/\Bad H Bd/\LsT (untrs H Bd) va ahead/\LsT (untrs H Bd) vt taken/\LsT (untrs H Bd) vr (ahead.drop 1)/\0<m/\m<ahead.length/\ahead.length+taken.length<=24/\TabsOk (tabs a) H/\Res K a H Bd (fT (ahead.drop 1) (m - 1) (taken++ahead.take 1)) Q
def vD(K:Frag)(a:Ad):List V->Sp:=λvals vs H Q _=>∃(vt vr:V) (rest taken:List Int) (m:Nat) (Bd:List Addr),vals=[.int (m:Nat),vt,vr]/\vs=[]/\Bad H Bd/\LsT (untrs H Bd) vt taken/\LsT (untrs H Bd) vr rest/\rest.length+taken.length<=24/\TabsOk (tabs a) H/\Res K a H Bd (fT rest m taken) Q
def wp(K:Frag)(a:Ad):List V->Sp:=λvals vs H Q _=>∃(vp:V) (ps:List Int) (st fi:Nat) (Bd:List Addr),vals=[.int (st:Nat),vp,.int (fi:Nat)]/\vs=[]/\Bad H Bd/\LsT (untrs H Bd) vp ps/\ps.length<=24/\fi<st/\TabsOk (tabs a) H/\Res K a H Bd (.leaf (ba ps fi st)) Q
def wg(K:Frag)(a:Ad):List V->Sp:=λvals vs H Q _=>∃(vt vr:V) (rest:Tl) (taken:List Int) (p:Int) (Bd:List Addr),vals=[vt,vr,.int p]/\vs=[]/\Bad H Bd/\LsT (untrs H Bd) vt taken/\LsP K (untrs H Bd) vr rest/\WfL rest (taken++[p])/\TabsOk (tabs a) H/\Res K a H Bd (lT rest (taken++[p])) Q
def vW(K:Frag)(a:Ad):List V->Sp:=λvals vs H Q _=>∃(vt vr:V) (rest:Tl) (taken:List Int) (Bd:List Addr),vals=[vt,vr]/\vs=[]/\Bad H Bd/\LsT (untrs H Bd) vt taken/\LsP K (untrs H Bd) vr rest/\WfL rest taken/\TabsOk (tabs a) H/\Res K a H Bd (lT rest taken) Q
def rMk(K:Frag)(a:Ad)(f:V)(H:Hp)(Q:VK):Prop:=nH cx fv1 (vB K a) f [] H Q\/nH cw fv2 (vD K a) f [] H Q\/nH aX fvS (wp K a) f [] H Q\/nH bS fvA (wg K a) f [] H Q\/nH bR fvB (vW K a) f [] H Q
theorem uD{K:Frag}{a:Ad}{H:Hp}{u:List Addr}{f:V}{t:Tr}{Q:VK}(h:IsMk K (untrs H u) f t)(b:Bad H u)(A:TabsOk (tabs a) H)(q:Res K a H u t Q):rMk K a f H Q:=by
 rcases h with⟨E,x,v,D,w,m,⟨g,c,o,rfl,e,j,k,l,r⟩,d,n,i,B,G,C,rfl⟩ | ⟨x,v,y,w,m,⟨g,c,o,rfl,e,j,k,l,r⟩,d,n,i,rfl⟩ | ⟨F,I,L,J,⟨g,c,o,rfl,e,j,k,l,r⟩,d,n,i,rfl⟩ | ⟨x,v,y,w,p,⟨g,c,o,rfl,e,j,k,l,r⟩,d,n,i,rfl⟩ | ⟨x,v,y,w,⟨g,c,o,rfl,e,j,k,l,r⟩,d,n,i,rfl⟩
 .exact .inl ⟨g,c,o,_,rfl,(aC e).2,(aC j).2,k,l,eM dP r,E,x,v,D,w,m,u,rfl,rfl,b,d,n,i,B,G,C,A,q⟩
 .exact .inr (.inl ⟨g,c,o,_,rfl,(aC e).2,(aC j).2,k,l,eM dP r,x,v,y,w,m,u,rfl,rfl,b,d,n,i,A,q⟩)
 .exact .inr (.inr (.inl ⟨g,c,o,_,rfl,(aC e).2,(aC j).2,k,l,eM dP r,F,I,L,J,u,rfl,rfl,b,d,n,i,A,q⟩))
 .exact .inr (.inr (.inr (.inl ⟨g,c,o,_,rfl,(aC e).2,(aC j).2,k,l,eM dP r,x,v,y,w,p,u,rfl,rfl,b,d,n,i,A,q⟩)))
 .exact .inr (.inr (.inr (.inr ⟨g,c,o,_,rfl,(aC e).2,(aC j).2,k,l,eM dP r,x,v,y,w,u,rfl,rfl,b,d,n,i,A,q⟩)))
def spV(u:V):Sp:=λvs H Q _=>∃ v,vs=[v]/\Q u H
def xP(a:Ad):Sp:=λvs H Q _=>∃ x dx t,vs=[.ref x]/\H x=some (.ins a.c_g dx [("rising",.ref t)])/\Q (.ref t) H
def RawR(H:Hp)(pt:Int×V)(y:V):Prop:=∃ q,y=.ref q/\H q=some (.tup [.int pt.1,pt.2])/\1<=pt.1
theorem RawR.t{H a:Hp}(s:SameT H a)(pt:Int×V)(y:V)(h:RawR H pt y):RawR a pt y:=by
 obtain⟨q,b,c,d⟩:=h;exact⟨q,b,s.at c,d⟩
def IsRaw(a:Ad)(H:Hp)(v:V)(rs:List (Int×V)):Prop:=∃ x dx l ys,v=.ref x/\H x=some (.ins a.c_j dx [("makes",.ref l)])/\H l=some (.lst ys)/\Paired (RawR H) rs ys/\1<=rs.length/\rs.length<=100
theorem IsRaw.t{a:Ad}{H b:Hp}{v:V}{c:List (Int×V)}(s:SameT H b)(h:IsRaw a H v c):IsRaw a b v c:=by
 obtain⟨x,m,l,i,d,k,e,j,g,f⟩:=h;exact⟨x,m,l,i,d,s.at k,s.at e,aG (RawR.t s) j,g,f⟩
def xG:Sp:=λvs H Q _=>∃ v,vs=[v]/\∀ l,H l=none->Q (.ref l) (upd H l (.lst []))
def wX(rs:List (Int×V)):Int:=(rs.map (·.1)).sum
def ye(a:Ad):Sp:=λvs H Q _=>∃ v rs,vs=[v]/\IsRaw a H v rs/\∀ H',Same H H'->Q (.int (wX rs)) H'
def PrR(K:Frag)(H:Hp)(p:Int×Tr)(r:Int×V):Prop:=p.1=r.1/\1<=p.1/\IsMk K H r.2 p.2
theorem tZ{K:Frag}{a:Ad}{H:Hp}{v:V}{b:List Int}(h:IsNd K a H v (.leaf b)):IsTold a H v b:=h
theorem r9{K:Frag}{a:Ad}{H:Hp}{v:V}{ps:List (Int×Tr)}(h:IsNd K a H v (.die ps)):∃ rs,IsRaw a H v rs/\Paired (PrR K H) ps rs:=by
 obtain⟨x,k,l,b,rfl,m,o,w,q,B⟩:=h
 have c:∀{ps:List (Int×Tr)}{b:List V},Paired (NdR K H) ps b->∃ rs:List (Int×V),Paired (RawR H) rs b/\Paired (PrR K H) ps rs:=by
  intro ps b h
  induction h with
  | nil=>exact⟨[],.nil,.nil⟩
  | @cons pt y ps b r _ ih =>
   obtain⟨rs,C,A⟩:=ih;obtain⟨j,f,u,n,d,g⟩:=r;exact⟨(pt.1,f)::rs,.cons ⟨j,u,n,d⟩ C,.cons ⟨rfl,d,g⟩ A⟩
 obtain⟨rs,i,e⟩:=c w;have:rs.length=ps.length:=e.length.symm;exact⟨rs,⟨x,k,l,b,rfl,m,o,i,by lia,by lia⟩,e⟩
theorem uF{K:Frag}{H:Hp}{ps:List (Int×Tr)}{a:List (Int×V)}(h:Paired (PrR K H) ps a):wX a=Tb.tot ps:=by
 induction h with
 | nil=>rfl
 | cons r _ ih =>
  unfold wX Tb.tot at *;rw[map_cons,map_cons,sum_cons,sum_cons,ih,r.1]
def PartN(K:Frag)(a:Ad)(H:Hp)(pt:Int×Tr)(z:V):Prop:=∃ q u,z=.ref q/\H q=some (.tup [.int pt.1,u])/\IsNd K a H u pt.2
theorem PartN.t{K:Frag}{a:Ad}{H b:Hp}(s:SameT H b)(pt:Int×Tr)(z:V)(h:PartN K a H pt z):PartN K a b pt z:=by
 obtain⟨q,u,c,d,e⟩:=h;exact⟨q,u,c,s.at d,e.t s⟩
def xJ(K:Frag)(a:Ad):Sp:=λvs H Q _=>∃ v ps Bd,vs=[v]/\Bad H Bd/\IsNd K a (untrs H Bd) v (.die ps)/\TabsOk (tabs a) H/\∀ H' D zs,SameT H H'->TabsOk (tabs a) H'->H D=none->H' D=some (.lst zs)->Paired (PartN K a (untrs H' Bd)) ps zs->Q (.ref D) H'
section
variable {P:Program}{w:World}{K:Frag}{mg:Str->Option Value}{base:Heap}{a:Ad}
theorem yp(T:Txt K mg a)(hB:Bm mg base):db P w K mg base 4 cx fv1 [] (vB K a):=by
 have y:FnOk P w K mg base CX0 3 _ _ _ (spFN K a):=sk T hB;refine fq ls1 (λpm ab e c X hl=>match X,hl with | [],_=>rfl) (λvals vs H Q E h=>?_) (λA outer s H f c e vals vs Q E hr hfv ca h=>?_)
 .obtain⟨Y,vt,v,b,d,m,O,rfl,rfl,_⟩:=h;rfl
 .obtain⟨Y,vt,v,b,d,m,O,rfl,rfl,g,hA,F,hR,m0,m1,R,W,q⟩:=h
  have J:sizeLine=16777216:=sizeLine_eq;refine⟨_,(aq y hr rfl T.m_h T.F_h.kp T.B_h .nil au (aa (vr 2) (aa (ax ge (vr 0) ao) (aa (ax m5 (vr 1) (gk lq (vr 3) iy (fG ao))) ae)))),?_⟩;have n:=hA.un (b8 g ca);have r:=F.un (b8 g ca);have l:=hR.un (b8 g ca);rw[dR]at n r l;have j:=iM ca g;have C:=TabsOk.untrs W ca;obtain⟨la,rfl,B⟩:=n;obtain⟨lt,rfl,I⟩:=id r;refine⟨_,rfl,.inl ⟨_,SqL.of (aC B).2,λL f1=>?_⟩⟩;have Z:dN (b.map V.int) none (some 1)=(b.take 1).map V.int:=by rw[map_take];exact qu _ 1 (by rw[length_map];lia)
  rw[Z];have x:=Same.new (o:=.lst ((b.take 1).map V.int)) f1;have U:=ad (H:=untrs H (e.map (·.2))) (a:=L) (o:=.lst ((b.take 1).map V.int));generalize upd (untrs H (e.map (·.2))) L (.lst ((b.take 1).map V.int))=H1 at x U;refine⟨lt,L,_,_,rfl,rfl,x _ _ (aC I).2,U,(by rw[length_map,length_map,length_take];lia),λk N=>?_⟩;rw[<- map_append];have S:=Same.new (o:=.lst ((d++b.take 1).map V.int)) N;have M:=ad (H:=H1) (a:=k) (o:=.lst ((d++b.take 1).map V.int));generalize upd H1 k (.lst ((d++b.take 1).map V.int))=H2 at S M;have i:=x.trans S;refine⟨v,.ref k,b.drop 1,d++b.take 1,m - 1,O,?_,j.t i.t,l.t (bV i.t),⟨k,rfl,fK (j.t x.t) N M⟩,?_,C.same i,λH' u t' D G=>λH3 s3 hc=>?_⟩
  .show [v,V.int ((m:Int) - 1),V.ref k]=[v,V.int ((m - 1:Nat):Int),V.ref k]
   rw[show((m:Int) - 1)=((m - 1:Nat):Int) by lia]
  .rw[length_append,length_drop,length_take];lia
  .exact q _ _ (mR (i.t.trans t') s3 hc) (D.same s3) (G.t (bV s3.t))
theorem xW(T:Txt K mg a)(D:Bm mg base):db P w K mg base 4 cw fv2 [] (vD K a):=by
 have l:FnOk P w K mg base CX0 3 _ _ _ (spFN K a):=sk T D;refine fq ls2 (λL I k c C J=>match C,J with | [],_=>rfl) (λvals vs H Q E h=>?_) (λA outer s H f c k vals vs Q E hr hfv ca h=>?_)
 .obtain⟨y,v,d,b,m,x,rfl,rfl,_⟩:=h;rfl
 .obtain⟨y,v,d,b,m,x,rfl,rfl,e,o,G,i,B,q⟩:=h
  refine⟨_,(aq l hr rfl T.m_h T.F_h.kp T.B_h .nil au (aa (vr 2) (aa (vr 0) (aa (vr 1) ae)))),?_⟩;have j:=o.un (b8 e ca);have g:=G.un (b8 e ca);rw[dR]at j g;exact⟨v,y,d,b,m,x,rfl,iM ca e,g,j,i,TabsOk.untrs B ca,λM u F n r=>λH3 s3 hc=>q _ _ (mR F s3 hc) (n.same s3) (r.t (bV s3.t))⟩
theorem xR(T:Txt K mg a)(hB:Bm mg base):db P w K mg base 4 aX fvS [] (wp K a):=by
 have C:FnOk P w K mg base CX0 2 _ _ _ _:=(iJ T).mono (by decide);refine fq lsS (λpm ab d c S hl=>match S,hl with | [],_=>rfl) (λvals vs H Q E h=>?_) (λA outer s H f c d vals vs Q E hr hfv ca h=>?_)
 .obtain⟨W,g,j,i,Y,rfl,rfl,_⟩:=h;rfl
 .obtain⟨W,g,j,i,Y,rfl,rfl,u,U,G,D,R,q⟩:=h
  refine⟨_,(cU T.mk_g C hr rfl T.mc_g T.Bi_g .nil au (aa (qo (vr 1) (fG (vr 2)) (fG (vr 0))) ae)),?_⟩;have n:=U.un (b8 u ca);rw[dR]at n;have r:=iM ca u;have y:=TabsOk.untrs R ca;obtain⟨X,rfl,cl⟩:=n;refine⟨_,rfl,_,rfl,X,_,_,rfl,SqL.of (aC cl).2,rfl,by lia,λl O=>?_⟩;rw[ng (by lia) D];have J:=Same.new (o:=.lst ((ba g i j).map V.int)) O;have I:=ad (H:=untrs H (d.map (·.2))) (a:=l) (o:=.lst ((ba g i j).map V.int));generalize upd (untrs H (d.map (·.2))) l (.lst ((ba g i j).map V.int))=H1 at J I;intro x v L m Z;have s0:Same H1 (upd (upd H1 v (.own x)) x (.ins a.c_g v [])):=λb o e=>by rw[ai (ap e L),ai (ap e m)];exact e
  refine⟨x,v,l,ba g i j,rfl,ad,.inl (s0 _ _ I),by have:=pZ g i j;lia,λH' t B k g1 N M=>⟨rfl,λH3 s3 hc=>?_⟩⟩;have F:=J.trans (made L m k);exact q _ _ (mR F.t s3 hc) ((y.same F).same s3) (fH ((r.t F.t).t s3.t) ⟨x,v,t,B,rfl,s3 _ _ g1,s3 _ _ N,M⟩)
theorem xw(T:Txt K mg a)(W:Bm mg base):db P w K mg base 4 bS fvA [] (wg K a):=by
 have C:FnOk P w K mg base CX0 3 _ _ _ (spLN K a):=sV T W;refine fq lsA (λpm ab d c U hl=>match U,hl with | [],_=>rfl) (λvals vs H Q E h=>?_) (λA outer s H f c d vals vs Q E hr hfv ca h=>?_)
 .obtain⟨vt,J,i,b,p,N,rfl,rfl,_⟩:=h;rfl
 .obtain⟨vt,J,i,b,p,N,rfl,rfl,k,D,hR,l,S,q⟩:=h
  have j:sizeLine=16777216:=sizeLine_eq;refine⟨_,(aq C hr rfl T.m_c T.F_c.kp T.B_c .nil au (aa (vr 1) (aa (ax m5 (vr 0) (cH (aa (vr 2) ae))) ae))),?_⟩;have n:=D.un (b8 k ca);have m:=hR.un (b8 k ca);rw[dR]at n m;have g:=iM ca k;have x:=TabsOk.untrs S ca;obtain⟨Y,rfl,F⟩:=n;have y:=l.1;rw[length_append,length_singleton]at y;refine⟨by rw[j];exact show(1:Nat)<=_ by decide,λI X=>?_⟩;have v:=Same.new (o:=.lst [.int p]) X;have R:=ad (H:=untrs H (d.map (·.2))) (a:=I) (o:=.lst [.int p]);generalize upd (untrs H (d.map (·.2))) I (.lst [.int p])=H1 at v R;refine⟨Y,I,_,_,rfl,rfl,v _ _ (aC F).2,R,(by rw[length_map];show _+1<=_;lia),λr M=>?_⟩;rw[show b.map V.int++[V.int p]=(b++[p]).map V.int by rw[map_append];rfl];have O:=Same.new (o:=.lst ((b++[p]).map V.int)) M;have L:=ad (H:=H1) (a:=r) (o:=.lst ((b++[p]).map V.int));generalize upd H1 r (.lst ((b++[p]).map V.int))=H2 at O L;have e:=v.trans O;exact⟨J,.ref r,i,b++[p],N,rfl,g.t e.t,m.t (bV e.t),⟨r,rfl,fK (g.t v.t) M L⟩,l,x.same e,λH' u Z B G=>λH3 s3 hc=>q _ _ (mR (e.t.trans Z) s3 hc) (B.same s3) (G.t (bV s3.t))⟩
theorem xH(T:Txt K mg a)(C:Bm mg base):db P w K mg base 4 bR fvB [] (vW K a):=by
 have m:FnOk P w K mg base CX0 3 _ _ _ (spLN K a):=sV T C;refine fq lsB (λJ G j c B I=>match B,I with | [],_=>rfl) (λvals vs H Q E h=>?_) (λA outer s H f c j vals vs Q E hr hfv ca h=>?_)
 .obtain⟨x,r,d,b,v,rfl,rfl,_⟩:=h;rfl
 .obtain⟨x,r,d,b,v,rfl,rfl,e,n,F,k,y,q⟩:=h
  refine⟨_,(aq m hr rfl T.m_c T.F_c.kp T.B_c .nil au (aa (vr 1) (aa (vr 0) ae))),?_⟩;have i:=n.un (b8 e ca);have g:=F.un (b8 e ca);rw[dR]at i g;exact⟨r,x,d,b,v,rfl,iM ca e,g,i,k,TabsOk.untrs y ca,λL u D l o=>λH3 s3 hc=>q _ _ (mR D s3 hc) (l.same s3) (o.t (bV s3.t))⟩
theorem xK(T:Txt K mg a):FnOk P w K mg base CX0 1 a.x_s a.y_s ["self"] (spV (.bl true)):=by
 refine T.F_s.ok io (λb H Q E h=>?_) (λcdv A outer s H b Q E hr h=>?_)
 .obtain⟨v,rfl,_⟩:=h;rfl
 .obtain⟨v,rfl,q⟩:=h
  exact⟨_,(aj (aw eK)),q⟩
theorem yb(T:Txt K mg a):FnOk P w K mg base CX0 1 a.x_A a.y_A ["self"] (spV (.int 0)):=by
 refine T.F_A.ok jB (λb H Q E h=>?_) (λcdv A outer s H b Q E hr h=>?_)
 .obtain⟨v,rfl,_⟩:=h;rfl
 .obtain⟨v,rfl,q⟩:=h
  exact⟨_,(aj (aw ao)),q⟩
theorem xr(T:Txt K mg a):FnOk P w K mg base CX0 1 a.x_G a.y_G ["self"] (xP a):=by
 refine T.F_G.ok kx (λc H Q E h=>?_) (λcdv A outer s H c Q E hr h=>?_)
 .obtain⟨x,b,t,rfl,_⟩:=h;rfl
 .obtain⟨x,b,t,rfl,d,q⟩:=h
  exact⟨_,(aj (aw (df (vr 0) rfl))),x,_,b,_,_,rfl,d,T.cl_g,T.na_Told_rising,rfl,q⟩
theorem xU(T:Txt K mg a):FnOk P w K mg base CX0 1 a.x_v a.y_v ["self"] (spV (.bl false)):=by
 refine T.F_v.ok iP (λb H Q E h=>?_) (λcdv A outer s H b Q E hr h=>?_)
 .obtain⟨v,rfl,_⟩:=h;rfl
 .obtain⟨v,rfl,q⟩:=h
  exact⟨_,(aj (aw eK)),q⟩
theorem xY(T:Txt K mg a):FnOk P w K mg base CX0 1 a.x_O a.y_O ["self"] (spV .non):=by
 refine T.F_O.ok mO (λb H Q E h=>?_) (λcdv A outer s H b Q E hr h=>?_)
 .obtain⟨v,rfl,_⟩:=h;rfl
 .obtain⟨v,rfl,q⟩:=h
  exact⟨_,(aj (aw vK)),q⟩
theorem xS(T:Txt K mg a):FnOk P w K mg base CX0 1 a.x_B a.y_B ["self"] xG:=by
 refine T.F_B.ok jw (λc H Q E h=>?_) (λcdv A outer s H c Q E hr h=>?_)
 .obtain⟨v,rfl,_⟩:=h;rfl
 .obtain⟨v,rfl,q⟩:=h
  exact⟨_,(aj (aw (cH ae))),Nat.zero_le _,λl b=>q l b⟩
theorem xT(T:Txt K mg a):FnOk P w K mg base CX0 1 a.x_H a.y_H ["self"] (ye a):=by
 refine T.F_H.ok lh (λJ H Q E h=>?_) (λcdv A outer s H J Q E hr h=>?_)
 .obtain⟨v,d,rfl,_⟩:=h;rfl
 .obtain⟨v,d,rfl,⟨x,O,l,f,rfl,U,G,F,R,M⟩,q⟩:=h
  have o:sizeLine=16777216:=sizeLine_eq;refine⟨_,(aj (aw (ar (jZ rfl) rfl T.z_sum qU (aa (bT rfl (N:=["many","make"]) (ix:=[none,none]) ⟨rfl,rfl,rfl,rfl,trivial⟩ (bO (df (vr 0) rfl)) ⟨λC s H I=>(d3 (K:=K) (n:=2) rfl rfl (az (av (i:=0) (show List.Nodup (["many","make"]:List Str) by decide +kernel) rfl (Or.inl rfl)) (az (av (i:=1) (show List.Nodup (["many","make"]:List Str) by decide +kernel) rfl (Or.inl rfl)) cm))),λC s H I=>cj,λC s H I=>(vr 0)⟩) ae)))),?_⟩;refine⟨x,_,O,_,_,rfl,U,T.cl_j,T.na_Die_makes,rfl,.inl ⟨⟨_,SqL.of G⟩,λD u=>?_⟩⟩
  let Pw1:PvL:=λi g c=>Same H c/\c D=some (.lst g)/\i<=d.length/\g=((d.take i).map (·.1)).map V.int
  refine bB (K:=K) (a:=l) (xs:=f) Pw1 ⟨Same.new u,ad,Nat.zero_le _,rfl⟩ (λi f c h=>SqL.of (h.1 _ _ G)) (λi f c h=>h.2.1) ?_ ?_
  .rintro i y g c X S ⟨j,b,W,rfl⟩ k
   obtain⟨⟨B,t⟩,e,L,rfl,r,_⟩:=bc F S;have m:i<d.length:=(List.getElem?_eq_some_iff.mp e).1;refine⟨L,_,rfl,SqT.of (j _ _ r),rfl,_,_,rfl,_,_,rfl,rfl,trivial,b,by rw[length_map,length_map,length_take];lia,k _ _ ⟨j.put u,ad,m,?_⟩⟩;rw[take_add_one,e];simp
  .rintro g c ⟨j,b,_,rfl⟩
   rw[show f.length=d.length from F.length.symm,take_length]at b;exact⟨D,_,rfl,SqL.of b,q _ j⟩
theorem xk(T:Txt K mg a)(W:Bm mg base):FnOk P w K mg base CX0 5 a.x_I a.y_I ["self"] (xJ K a):=by
 have ab:db P w K mg base 4 cx fv1 [] (vB K a):=yp T W;have Y:db P w K mg base 4 cw fv2 [] (vD K a):=xW T W;have an:db P w K mg base 4 aX fvS [] (wp K a):=xR T W;have F:db P w K mg base 4 bS fvA [] (wg K a):=xw T W;have I:db P w K mg base 4 bR fvB [] (vW K a):=xH T W;refine T.F_I.ok kK (λvs H Q E h=>?_) (λcdv A outer s H vs Q E hr h=>?_)
 .obtain⟨v,J,X,rfl,_⟩:=h;rfl
 .obtain⟨v,J,X,rfl,a9,a2,hT,q⟩:=h
  have a7:sizeLine=16777216:=sizeLine_eq;obtain⟨rs,⟨x,dx,l,r,rfl,hx,hl,m,bl,bg⟩,R⟩:=r9 a2;have rl:rs.length=J.length:=R.length.symm;have as:r.length=rs.length:=m.length.symm;have hx:=(aC hx).2;have hl:=(aC hl).2;refine⟨_,(aj (aw (bT rfl (N:=["many","make"]) (ix:=[none,none]) ⟨rfl,rfl,rfl,rfl,trivial⟩ (bO (df (vr 0) rfl)) ⟨λC s H fp=>(d3 (K:=K) (n:=2) rfl rfl (az (av (i:=0) (show List.Nodup (["many","make"]:List Str) by decide +kernel) rfl (Or.inl rfl)) (az (av (i:=1) (show List.Nodup (["many","make"]:List Str) by decide +kernel) rfl (Or.inl rfl)) cm))),λC s H fp=>cj,λC s H fp=>(bP (aa (vr 0) (aa (PE.or (eD (vr 1) ab hr) (PE.or (eD (vr 1) Y hr) (PE.or (eD (vr 1) an hr) (PE.or (eD (vr 1) F hr) (eD (vr 1) I hr))))) ae)))⟩))),?_⟩;refine⟨x,_,dx,_,_,rfl,hx,T.cl_j,T.na_Die_makes,rfl,.inl ⟨⟨_,SqL.of hl⟩,λD O=>?_⟩⟩;have ext:∀{d:Hp},TabsOk (tabs a) d->∀{r:List V}{U:List V},d D=some (.lst r)->TabsOk (tabs a) (upd d D (.lst U)):=λa8 r U e=>a8.put (λJ z=>by rw[e]at z;cases z) λφ z=>by rw[e]at z;cases z
  let Pw2:PvL:=λi j d=>SameT H d/\TabsOk (tabs a) d/\d D=some (.lst j)/\i<=J.length/\Paired (PartN K a (untrs d (D::X))) (J.take i) j
  refine bB (K:=K) (a:=l) (xs:=r) Pw2
   ⟨(Same.new O).t,hT.same (Same.new O),ad,Nat.zero_le _,.nil⟩ (λi r d h=>SqL.of (h.1.at hl)) (λi r d h=>h.2.2.1) ?_ ?_
  .rintro i y j d P' hy ⟨L,B,g,hi,hc⟩ a3
   obtain⟨⟨S,f⟩,bd,q1,rfl,G,m0⟩:=bc m hy;obtain⟨⟨c,t⟩,ah,e9,_,a'⟩:=bc R bd;have e9:c=S:=e9;subst e9;have G:=(aC G).2;have a6:i<J.length:=(List.getElem?_eq_some_iff.mp ah).1
   have k:Bad d (D::X):=λb hb=>by
    rcases mem_cons.mp hb with rfl | hb
    .exact⟨_,g⟩
    .exact a9.t L b hb
   refine⟨q1,_,rfl,SqT.of (L.at G),rfl,_,_,rfl,_,_,rfl,rfl,trivial,?_⟩;refine uD (a'.t (pT L O)) k B λH2 u t2 a0 hu=>?_
   have a4:=t2.at g;refine⟨by show 2<=sizeLine;decide,λq2 a5=>?_⟩;have Z:=Same.new (o:=.tup [.int c,u]) a5;have al:=Z _ _ a4;have yl:j.length<=100:=by rw[<- hc.length,length_take];lia
   have a1:=(L.trans t2).trans Z.t;have M:=(k.t t2).t Z.t;have c3:SameT (untrs H2 (D::X)) (untrs (upd (upd H2 q2 (.tup [.int c,u])) D (.lst (j++[.ref q2]))) (D::X)):=(bV Z.t).trans (lP mem_cons_self);refine⟨al,by lia,a3 _ _ ⟨a1.put O,ext (a0.same Z) al,ad,a6,mI (aG (PartN.t ((bV t2).trans c3)) hc) ah ⟨q2,u,rfl,?_,hu.t c3⟩⟩⟩;exact(lP (o:=.lst (j++[.ref q2])) mem_cons_self).at (cG M ad (λ_ z=>nomatch z))
  .rintro j d ⟨L,B,g,hi,hc⟩
   rw[as,rl,take_length]at hc;exact q d D j L B O g (aG (PartN.t qw) hc)
end
open Tb (Tr fT lT sT ba)
def fV(L:Tl):List Int:=(L.filter λx=>decide (x.2=(1,1))).map (·.1)
def gv(L:Tl):Tl:=L.filter λx=>uns x.2
abbrev Mb:=Int×Int×List Str
def yd(H:Hp)(m:Mb)(x:V):Prop:=∃ q pt,x=.ref q/\H q=some (.tup [.int m.1,.int m.2.1,.ref pt])/\H pt=some (.tup (m.2.2.map V.str))
abbrev CrAt(H:Hp):List Mb->List V->Prop:=Paired (yd H)
theorem CrAt.tk{H a:Hp}(k:TK H a):∀{ms:List Mb}{xs:List V},CrAt H ms xs->CrAt a ms xs
 | _,_,.nil=>.nil
 | _,_,.cons ⟨q,pt,h1,h2,h3⟩ t=>.cons ⟨q,pt,h1,k _ _ h2,k _ _ h3⟩ (CrAt.tk k t)
theorem SameT.tk{H b:Hp}(s:SameT H b):TK H b:=λa c h=>s.at h
theorem CrAt.get{H:Hp}:∀{ms:List Mb}{xs:List V}{i:Nat}{x:V},CrAt H ms xs->xs[i]? = some x->∃ r,ms[i]? = some r/\yd H r x
 | _,_,_,_,.nil,h=>by cases h
 | _,_,0,_,.cons r _,h=>⟨_,rfl,by cases h;exact r⟩
 | _,_,i+1,_,.cons _ t,h=>CrAt.get (i:=i) t h
theorem CrAt.len{H:Hp}{a:List Mb}{xs:List V}(h:CrAt H a xs):a.length=xs.length:=Paired.length h
def plc(ms:List Mb):List Int:=ms.map (·.1)
inductive spPlaces(vs:List V)(H:Hp)(Q:VK)(_E:XK):Prop
 | mk(l:Addr)(xs:List V)(ms:List Mb)(h0:vs=[.ref l])(h1:H l=some (.lst xs))(h2:CrAt H ms xs)(h3:ms.length<=24)(h4:∀ H' r,Same H H'->H r=none->H' r=some (.lst ((plc ms).map V.int))->Q (.ref r) H'):spPlaces vs H Q _E
inductive spNeedN(vs:List V)(H:Hp)(Q:VK)(_E:XK):Prop
 | mk(i lo hi:Int)(h0:vs=[.int i,.int lo,.int hi])(h1:lo<=i)(h2:i<=hi)(h3:Q .non H):spNeedN vs H Q _E
def pD(fs:List (Int×Int)):List PyData:=fs.map λf=>.tuple [.int f.1,.int f.2]
def szs(ms:List Mb):List Int:=ms.map (·.2.1)
inductive spWBy(K:Frag)(vs:List V)(H:Hp)(Q:VK)(_E:XK):Prop
 | mk(l:Addr)(xs:List V)(ms:List Mb)(m:Int)(h0:vs=[.ref l,.int m])(h1:H l=some (.lst xs))(h2:CrAt H ms xs)(h3:Szs (szs ms))(h4:0<=m)(h5:m<=24)(h6:∀ H' r ys,Same H H'->H r=none->H' r=some (.lst ys)->AllF K H' (due (szs ms) m) ys->Q (.ref r) H'):spWBy K vs H Q _E
def IsStart(a:Ad)(H:Hp)(v:V)(m:Nat):Prop:=∃ x dx,v=.ref x/\H x=some (.ins a.c_d dx [("step",.int (m:Nat))])
def IsLoose(a:Ad)(H:Hp)(v:V)(m:Nat):Prop:=∃ x dx,v=.ref x/\H x=some (.ins a.c_e dx [("many",.int (m:Nat))])
theorem IsStart.t{a:Ad}{H b:Hp}{v:V}{m:Nat}(s:SameT H b)(h:IsStart a H v m):IsStart a b v m:=let ⟨x,dx,h1,h2⟩:=h;⟨x,dx,h1,s.at h2⟩
theorem IsLoose.t{a:Ad}{H b:Hp}{v:V}{m:Nat}(s:SameT H b)(h:IsLoose a H v m):IsLoose a b v m:=let ⟨x,dx,h1,h2⟩:=h;⟨x,dx,h1,s.at h2⟩
inductive spStartI(a:Ad)(vs:List V)(H:Hp)(Q:VK)(_E:XK):Prop
 | mk(x dx:Addr)(m:Nat)(h0:vs=[.ref x,.int (m:Nat)])(h1:H x=some (.ins a.c_d dx []))(h2:1<=m)(h3:m<=100)(h4:Q .non (upd H x (.ins a.c_d dx [("step",.int (m:Nat))]))):spStartI a vs H Q _E
inductive spLooseI(a:Ad)(vs:List V)(H:Hp)(Q:VK)(_E:XK):Prop
 | mk(x dx:Addr)(m:Nat)(h0:vs=[.ref x,.int (m:Nat)])(h1:H x=some (.ins a.c_e dx []))(h2:m<=24)(h3:Q .non (upd H x (.ins a.c_e dx [("many",.int (m:Nat))]))):spLooseI a vs H Q _E
def lsL(ms:List Mb)(m:Nat):Tl:=(plc ms).zip (due (szs ms) (m:Nat))
inductive spFewI(a:Ad)(vs:List V)(H:Hp)(Q:VK)(_E:XK):Prop
 | mk(x dx:Addr)(m:Nat)(h0:vs=[.ref x,.int (m:Nat)])(h1:H x=some (.ins a.c_k dx []))(h2:m<=24)(h3:Q .non (upd H x (.ins a.c_k dx [("many",.int (m:Nat))]))):spFewI a vs H Q _E
def IsPlan(a:Ad)(H:Hp)(v:V)(m:Nat):Prop:=∃ x dx,v=.ref x/\H x=some (.ins a.c_k dx [("many",.int (m:Nat))])
theorem IsPlan.t{a:Ad}{H b:Hp}{v:V}{m:Nat}(s:SameT H b)(h:IsPlan a H v m):IsPlan a b v m:=let ⟨x,dx,h1,h2⟩:=h;⟨x,dx,h1,s.at h2⟩
inductive spBounds(a:Ad)(vs:List V)(H:Hp)(Q:VK)(_E:XK):Prop
 | mk(v:V)(m:Nat)(l:Addr)(xs:List V)(h0:vs=[v,.ref l])(h1:IsPlan a H v m)(h2:H l=some (.lst xs))(h3:∀ p,H p=none->Q (.ref p) (upd H p (.tup [.int ((min m xs.length:Nat):Int),.int ((min m xs.length:Nat):Int)]))):spBounds a vs H Q _E
def stT(places:List Int)(st:Nat):Tr:=if st=1\/places=[] then .leaf places else sT places st
inductive spFNode(K:Frag)(a:Ad)(vs:List V)(H:Hp)(Q:VK)(_E:XK):Prop
 | mk(v:V)(m:Nat)(l:Addr)(xs:List V)(ms:List Mb)(h0:vs=[v,.ref l])(h1:IsPlan a H v m)(h2:H l=some (.lst xs))(h3:CrAt H ms xs)(h4:ms.length<=24)(h5:TabsOk (tabs a) H)(h6:Res K a H [] (fT (plc ms) m []) Q):spFNode K a vs H Q _E
inductive spSNode(K:Frag)(a:Ad)(vs:List V)(H:Hp)(Q:VK)(_E:XK):Prop
 | mk(v:V)(m:Nat)(l:Addr)(xs:List V)(ms:List Mb)(h0:vs=[v,.ref l])(h1:IsStart a H v m)(h2:H l=some (.lst xs))(h3:CrAt H ms xs)(h4:ms.length<=24)(h5:1<=m)(h6:m<=100)(h7:TabsOk (tabs a) H)(h8:Res K a H [] (stT (plc ms) m) Q):spSNode K a vs H Q _E
inductive spLNode(K:Frag)(a:Ad)(vs:List V)(H:Hp)(Q:VK)(_E:XK):Prop
 | mk(v:V)(m:Nat)(l:Addr)(xs:List V)(ms:List Mb)(h0:vs=[v,.ref l])(h1:IsLoose a H v m)(h2:H l=some (.lst xs))(h3:CrAt H ms xs)(h4:Szs (szs ms))(h5:m<=24)(h6:TabsOk (tabs a) H)(h7:Res K a H [] (lT (gv (lsL ms m)) (fV (lsL ms m))) Q):spLNode K a vs H Q _E
theorem iG(H:Hp):Bad H []:=λb a=>by cases a
inductive spSBo(a:Ad)(vs:List V)(H:Hp)(Q:VK)(_E:XK):Prop
 | mk(v:V)(m:Nat)(l:Addr)(xs:List V)(h0:vs=[v,.ref l])(h1:IsStart a H v m)(h2:1<=m)(h3:m<=100)(h4:H l=some (.lst xs))(h5:xs.length<=24)(h6:∀ H' p,SameT H H'->(∀{tb:lx},TabsOk tb H->TabsOk tb H')->H' p=some (.tup [.int ((xs.length:Int)/(m:Int)),.int (((xs.length:Int)+(m:Int) - 1)/(m:Int))])->Q (.ref p) H'):spSBo a vs H Q _E
def cF(fs:List (Int×Int))(t b:Int):Int:=(((pD fs).countP λz=>PyData.eqv z (.tuple [.int t,.int b]):Nat):Int)
inductive spLBo(a:Ad)(vs:List V)(H:Hp)(Q:VK)(_E:XK):Prop
 | mk(v:V)(m:Nat)(l:Addr)(xs:List V)(ms:List Mb)(h0:vs=[v,.ref l])(h1:IsLoose a H v m)(h2:m<=24)(h3:H l=some (.lst xs))(h4:CrAt H ms xs)(h5:Szs (szs ms))(h6:∀ H' p,SameT H H'->(∀{tb:lx},TabsOk tb H->TabsOk tb H')->H' p=some (.tup [.int (cF (due (szs ms) (m:Nat)) 1 1),.int (((due (szs ms) (m:Nat)).length:Int) - cF (due (szs ms) (m:Nat)) 0 1)])->Q (.ref p) H'):spLBo a vs H Q _E
theorem p4{H:Hp}{b q:Addr}{o c:HO}{a:List V}(d:H q=some (.lst a))(h:H b=some o)(n:∀ ys,o≠.lst ys):(upd H q c) b=some o:=by
 rw[ai (λz=>by rw[z,d]at h;exact n a (Option.some.inj h).symm)];exact h
theorem ke{H:Hp}{q:Addr}{c:List V}{b:HO}(a:H q=some (.lst c)):∀{clos:List (Str×Addr)}{vals:List V},CellsAt H clos vals->CellsAt (upd H q b) clos vals
 | _,_,.nil=>.nil
 | _,_,.cons r t=>.cons (p4 a r (λd z=>nomatch z)) (ke a t)
theorem IsLam.put{H:Hp}{d:LamD}{g:List Str}{v:V}{a:List V}{q:Addr}{u:List V}{n:HO}(e:H q=some (.lst u))(h:IsLam H d g v a):IsLam (upd H q n) d g v a:=by
 obtain⟨f,c,b,i,r,j,o,l,k⟩:=h;exact⟨f,c,b,i,p4 e r (λm z=>nomatch z),p4 e j (λm z=>nomatch z),o,l,ke e k⟩
theorem PrAt.put{K:Frag}{H:Hp}{q:Addr}{k:List V}{g:HO}(a:H q=some (.lst k))(x:Int×(Int×Int))(v:V)(h:PrAt K H x v):PrAt K (upd H q g) x v:=by
 obtain⟨p,y,c,j,b,d,i⟩:=h;exact⟨p,y,c,p4 a j (λf z=>nomatch z),b,d,i.imp (λe=>p4 a e (λf z=>nomatch z)) id⟩
theorem gg{b a:Type}{r:b->a->Prop}{d:List b}{c:List a}(e:Paired r d c):∀{as:List b}{bs:List a},Paired r as bs->Paired r (as++d) (bs++c)
 | _,_,.nil=>e
 | _,_,.cons x t=>.cons x (gg e t)
def SRow(H:Hp)(r:Addr)(st f:Nat)(y:V):Prop:=∃ q fv,y=.ref q/\H q=some (.tup [.int 1,fv])/\IsLam H aX fvS fv [.int (st:Nat),.ref r,.int (f:Nat)]
theorem SRow.t{H a:Hp}{r:Addr}{st:Nat}(s:SameT H a)(f:Nat)(y:V)(h:SRow H r st f y):SRow a r st f y:=let ⟨q,fv,h1,h2,h3⟩:=h;⟨q,fv,h1,s.at h2,h3.t s⟩
theorem SRow.put{H:Hp}{r D:Addr}{st:Nat}{c:List V}{b:HO}(a:H D=some (.lst c))(f:Nat)(y:V)(h:SRow H r st f y):SRow (upd H D b) r st f y:=let ⟨q,fv,h1,h2,h3⟩:=h;⟨q,fv,h1,p4 a h2 (λd z=>nomatch z),h3.put a⟩
theorem iR{d e c:Type}{r:c->e->Prop}{g:d->c}:∀{as:List d}{bs:List e},Paired (λa b=>r (g a) b) as bs->Paired r (as.map g) bs
 | _,_,.nil=>.nil
 | _,_,.cons x t=>.cons x (iR t)
theorem lH{K:Frag}{H:Hp}:∀{ps:List Int}{fs:List (Int×Int)}{ys zs:List V},ps.length=fs.length->zs.length=ps.length->AllF K H fs ys->Zp H (ps.map V.int) ys zs->Paired (PrAt K H) (ps.zip fs) zs
 | [],[],_,[],_,_,_,_=>.nil
 | [],[],_,_::_,_,h,_,_=>by cases h
 | [],_::_,_,_,h,_,_,_=>by cases h
 | _::_,[],_,_,h,_,_,_=>by cases h
 | _::_,_::_,_,[],_,h,_,_=>by cases h
 | p::ps,f::fs,y::ys,z::zs,h1,h2,.cons hf t,hz=>by
  obtain⟨q,e,g⟩:=hz 0 z (.int p) y rfl rfl rfl;exact .cons ⟨q,y,e,g,hf⟩ (lH (by simpa using h1) (by simpa using h2) t λj a b c k i d=>hz (j+1) a b c k i d)
theorem pf:∀ L:Tl,(gv L).length+(fV L).length<=L.length
 | []=>Nat.le_refl _
 | (p,c)::L=>by
  have d:=pf L;unfold gv fV at *
  by_cases hu:uns c=true
  .have a:0<c.1/\c.1<c.2:=of_decide_eq_true hu
   have b:¬decide (c=(1,1))=true:=λz=>by
    rw[of_decide_eq_true z]at a;simp at a
   rw[filter_cons_of_pos (by exact hu),filter_cons_of_neg (by exact b),length_cons,length_cons];lia
  .rw[filter_cons_of_neg (by exact hu)]
   by_cases h1:decide (c=(1,1))=true
   .rw[filter_cons_of_pos (by exact h1),map_cons,length_cons,length_cons]
    lia
   .rw[filter_cons_of_neg (by exact h1),length_cons]
    lia
theorem tO(a:List Mb)(m:Nat):(lsL a m).length=a.length:=by
 unfold lsL;rw[List.length_zip,dg];unfold plc szs;rw[length_map,length_map];exact Nat.min_self _
theorem iV{H:Hp}{x a:Addr}{g d:HO}(f:H x=none)(c:H a=none):Same H (upd (upd H a g) x d):=λb o e=>by rw[ai (ap e f),ai (ap e c)];exact e
inductive spIsW(vs:List V)(H:Hp)(Q:VK)(_E:XK):Prop
 | mk(i lo hi:Int)(h0:vs=[.int i,.int lo,.int hi])(h1:Q (.bl (decide (lo<=i/\i<=hi))) H):spIsW vs H Q _E
section
variable {P:Program}{w:World}{K:Frag}{mg:Str->Option Value}{base:Heap}{a:Ad}
theorem we(T:Txt K mg a):FnOk P w K mg base CX0 1 a.f_W a.d_W ["thing","low","high"] spIsW:=by
 refine T.F_W.ok lN (λc H Q E h=>?_) (λcdv A outer s H c Q E hr h=>?_)
 .obtain⟨i,d,b,rfl,_⟩:=h;rfl
 .obtain⟨i,d,b,rfl,q⟩:=h
  refine⟨_,(aj (aw (pi (ar eE rfl T.z_isinstance bJ (aa (vr 0) (aa (dX (v:=.ty "int") rfl T.z_int sQ rfl) ae))) (pi (u6 (ar eE rfl T.z_isinstance bJ (aa (vr 0) (aa (dX (v:=.ty "bool") rfl T.z_bool oK rfl) ae)))) (ni (ow wO wO (vr 1) (vr 0) (vr 2))))))),?_⟩;refine⟨_,_,_,true,rfl,rfl,.int i,rfl,?_⟩;refine⟨_,_,_,false,rfl,rfl,.int i,rfl,?_⟩;exact xa (Q:=λv=>Q v H) q
theorem gL(T:Txt K mg a):FnOk P w K mg base CX0 1 a.f_x a.d_x ["crowd"] spPlaces:=by
 refine T.F_x.ok kL (λB H Q E h=>?_) (λcdv A outer s H B Q E hr h=>?_)
 .obtain⟨l,xs,o,rfl,_⟩:=h;rfl
 .obtain⟨l,xs,o,rfl,v,r,n,q⟩:=h
  have k:sizeLine=16777216:=sizeLine_eq;have f:=r.len;refine⟨_,(aj (aw (bT rfl (N:=["member"]) (ix:=[none]) ⟨rfl,rfl,rfl,rfl,trivial⟩ (bO (vr 0)) ⟨λC s H y=>av (i:=0) (show List.Nodup (["member"]:List Str) by decide +kernel) rfl (Or.inl rfl),λC s H y=>cj,λC s H y=>(bA (eP (K:=K) rfl) (vr 0) ao (λ_ _=>rfl))⟩))),?_⟩;refine .inl ⟨⟨_,SqL.of v⟩,λD g=>?_⟩
  let Pw1:PvL:=λi c d=>i<=xs.length/\Same H d/\d D=some (.lst c)/\c=(plc (o.take i)).map V.int
  refine bB (K:=K) (a:=l) (xs:=xs) Pw1 ⟨Nat.zero_le _,Same.new g,ad,rfl⟩ (λi c d h=>SqL.of (h.2.1 _ _ v)) (λi c d h=>h.2.2.1) ?_ ?_
  .rintro i x c d R u ⟨O,e,b,rfl⟩ G
   obtain⟨m,I,F,L,rfl,J,M⟩:=(r.tk e.tk).get u;have j:i<xs.length:=(List.getElem?_eq_some_iff.mp u).1;refine⟨trivial,.inr (.inl ⟨F,_,_,_,rfl,rfl,SqT.of J,de 0 rfl rfl,b,?_,G _ _ ⟨j,e.put g,ad,?_⟩⟩)⟩
   .unfold plc;rw[length_map,length_map,length_take];lia
   .unfold plc;rw[take_add_one,I,map_append,map_append];rfl
  .rintro c d ⟨_,e,b,rfl⟩
   rw[<- f,take_of_length_le (Nat.le_refl _)]at b;exact q _ D e g b
theorem iX(T:Txt K mg a):FnOk P w K mg base CX0 2 a.f_o a.d_o ["thing","low","high"] spNeedN:=by
 have b:FnOk P w K mg base CX0 1 _ _ _ spIsW:=we T;refine T.F_o.ok iU (λe H Q E h=>?_) (λcdv A outer s H e Q E hr h=>?_)
 .obtain⟨i,c,d,rfl,_⟩:=h;rfl
 .obtain⟨i,c,d,rfl,f,g,q⟩:=h
  refine⟨_,(aj (cD (dS (eJ (aq b hr rfl T.m_W T.F_W.kp T.B_W .nil au (aa (vr 0) (aa (vr 1) (aa (vr 2) ae)))))) (aj rn) aZ)),?_⟩;refine⟨i,c,d,rfl,?_⟩;rw[decide_eq_true (And.intro f g)];exact q
theorem vk{H:Hp}:∀{fs:List (Int×Int)}{xs:List V},AllF K H fs xs->DVs K H (pD fs) xs
 | _,_,.nil=>by simp[DVs,pD]
 | _,_,.cons ⟨p,e,r⟩ t=>by
  unfold pD;rw[map_cons,DVs];exact⟨_,_,rfl,by rw[e];exact dk r.sq,vk t⟩
theorem vf:∀(fs:List (Int×Int)),PyData.canLayAll0 (pD fs)=true/\PyData.depthAll (pD fs)<=3
 | []=>by simp[PyData.canLayAll0,PyData.depthAll,pD]
 | t::l=>by
  obtain⟨a,b⟩:=vf l;unfold pD at *;rw[map_cons,PyData.canLayAll0,PyData.depthAll,a];refine⟨by simp[PyData.canLay0,PyData.canLayAll0],?_⟩;simp only[PyData.depth,PyData.depthAll];lia
theorem mP(a b c d:Int):PyData.eqv (.tuple [.int a,.int b]) (.tuple [.int c,.int d])=decide ((a,b)=(c,d)):=by
 simp[PyData.eqv,PyData.eqvAll];rfl
theorem nJ(T:Txt K mg a):FnOk P w K mg base CX0 5 a.f_w a.d_w ["crowd","many"] (spWBy K):=by
 have e:FnOk P w K mg base CX0 4 _ _ _ (spWished K):=qm T;refine T.F_w.ok kf (λL H Q E h=>?_) (λcdv A outer s H L Q E o h=>?_)
 .obtain⟨l,xs,g,m,rfl,_⟩:=h;rfl
 .obtain⟨l,xs,g,m,rfl,G,B,J,R,S,q⟩:=h
  have u:sizeLine=16777216:=sizeLine_eq;have j:=B.len;have y:g.length<=24:=by have:=J.len;unfold szs at this;rw[length_map]at this;exact this
  refine⟨_,(aj (aw (aq e o rfl T.m_ab T.F_ab.kp T.B_ab .nil au (aa (bT rfl (N:=["member"]) (ix:=[none]) ⟨rfl,rfl,rfl,rfl,trivial⟩ (bO (vr 0)) ⟨λC s H I=>av (i:=0) (show List.Nodup (["member"]:List Str) by decide +kernel) rfl (Or.inl rfl),λC s H I=>cj,λC s H I=>(bA (eP (K:=K) rfl) (vr 0) ao (λ_ _=>rfl))⟩) (aa (vr 1) ae))))),?_⟩;refine .inl ⟨⟨_,SqL.of G⟩,λD v=>?_⟩
  let Pw2:PvL:=λi c d=>i<=xs.length/\Same H d/\d D=some (.lst c)/\c=(szs (g.take i)).map V.int
  refine bB (K:=K) (a:=l) (xs:=xs) Pw2 ⟨Nat.zero_le _,Same.new v,ad,rfl⟩ (λi c d h=>SqL.of (h.2.1 _ _ G)) (λi c d h=>h.2.2.1) ?_ ?_
  .rintro i x c d P' F ⟨hi,f,b,rfl⟩ W
   obtain⟨mm,Y,M,pt,rfl,Z,g2⟩:=(B.tk f.tk).get F;have n:i<xs.length:=(List.getElem?_eq_some_iff.mp F).1;refine⟨trivial,.inr (.inl ⟨M,_,_,_,rfl,rfl,SqT.of Z,de 1 rfl rfl,b,?_,W _ _ ⟨n,f.put v,ad,?_⟩⟩)⟩
   .unfold szs;rw[length_map,length_map,length_take];lia
   .unfold szs;rw[take_add_one,Y,map_append,map_append];rfl
  .rintro c d ⟨_,f,b,rfl⟩
   rw[<- j,take_of_length_le (Nat.le_refl _)]at b;exact⟨D,szs g,m,rfl,b,J,R,S,λO r c X k o U=>q O r c (f.trans X) (f.free k) o U⟩
theorem sW(T:Txt K mg a):FnOk P w K mg base CX0 3 a.i_d a.e_d ["self","step"] (spStartI a):=by
 have b:FnOk P w K mg base CX0 2 _ _ _ spNeedN:=iX T;refine T.Fi_d.ok gA (λe H Q E h=>?_) (λcdv A outer s H e Q E hr h=>?_)
 .obtain⟨x,c,m,rfl,_⟩:=h;rfl
 .obtain⟨x,c,m,rfl,g,i,f,q⟩:=h
  refine⟨_,(ak (dJ (aq b hr rfl T.m_o T.F_o.kp T.B_o .nil au (aa (vr 1) (aa ao (aa (gd rfl T.g_MOST_STEP) ae))))) (aj (jn (vr 0) (vr 1) rfl))),gB ?_⟩;intro d;refine⟨_,1,100,rfl,by lia,by lia,?_⟩;exact⟨x,a.c_d,c,[],rfl,g,T.cl_d,T.na_Start_step,(by decide),q⟩
theorem qZ(T:Txt K mg a):FnOk P w K mg base CX0 3 a.i_e a.e_e ["self","many"] (spLooseI a):=by
 have b:FnOk P w K mg base CX0 2 _ _ _ spNeedN:=iX T;refine T.Fi_e.ok gw (λe H Q E h=>?_) (λcdv A outer s H e Q E hr h=>?_)
 .obtain⟨x,c,m,rfl,_⟩:=h;rfl
 .obtain⟨x,c,m,rfl,f,g,q⟩:=h
  refine⟨_,(ak (dJ (aq b hr rfl T.m_o T.F_o.kp T.B_o .nil au (aa (vr 1) (aa ao (aa (gd rfl T.g_MOST_MANY) ae))))) (aj (jn (vr 0) (vr 1) rfl))),gB ?_⟩;intro d;refine⟨_,0,24,rfl,by lia,by lia,?_⟩;exact⟨x,a.c_e,c,[],rfl,f,T.cl_e,T.na_Loose_many,(by decide),q⟩
theorem ww(T:Txt K mg a):FnOk P w K mg base CX0 3 a.i_k a.e_k ["self","many"] (spFewI a):=by
 have b:FnOk P w K mg base CX0 2 _ _ _ spNeedN:=iX T;refine T.Fi_k.ok ig (λe H Q E h=>?_) (λcdv A outer s H e Q E hr h=>?_)
 .obtain⟨x,c,m,rfl,_⟩:=h;rfl
 .obtain⟨x,c,m,rfl,f,g,q⟩:=h
  refine⟨_,(ak (dJ (aq b hr rfl T.m_o T.F_o.kp T.B_o .nil au (aa (vr 1) (aa ao (aa (gd rfl T.g_MOST_MANY) ae))))) (aj (jn (vr 0) (vr 1) rfl))),gB ?_⟩;intro d;refine⟨_,0,24,rfl,by lia,by lia,?_⟩;exact⟨x,a.c_k,c,[],rfl,f,T.cl_k,T.na_Few_many,(by decide),q⟩
theorem lI(T:Txt K mg a)(J:Bm mg base):FnOk P w K mg base CX0 4 a.x_E a.y_E ["self","crowd"] (spFNode K a):=by
 have e:FnOk P w K mg base CX0 3 _ _ _ (spFN K a):=sk T J;have g:FnOk P w K mg base CX0 3 _ _ _ _:=(gL T).mono (by decide);refine T.F_E.ok lJ (λD H Q E h=>?_) (λcdv A outer s H D Q E hr h=>?_)
 .obtain⟨v,m,l,u,n,rfl,_⟩:=h;rfl
 .obtain⟨v,m,l,u,n,rfl,⟨x,I,rfl,O⟩,R,N,b,F,q⟩:=h
  refine⟨_,(aj (aw (aq e hr rfl T.m_h T.F_h.kp T.B_h .nil au (aa (aq g hr rfl T.m_x T.F_x.kp T.B_x .nil au (aa (vr 1) ae)) (aa (df (vr 0) rfl) (aa (cH ae) ae)))))),?_⟩;refine⟨l,u,n,rfl,R,N,b,λB r C G f=>?_⟩;refine⟨x,_,I,_,_,rfl,C _ _ O,T.cl_k,T.na_Few_many,rfl,?_⟩;refine⟨Nat.zero_le _,λd M=>?_⟩;have k:=Same.new (o:=.lst []) M;have y:=ad (H:=B) (a:=d) (o:=.lst []);generalize upd B d (.lst [])=H2 at k y;have c:=C.trans k;refine⟨.ref r,.ref d,plc n,[],m,[],rfl,iG _,⟨r,rfl,by rw[bQ];exact k _ _ f⟩,⟨d,rfl,by rw[bQ];exact y⟩,?_,F.same c,λU S L j i=>q _ _ (c.t.trans L) j i⟩;unfold plc;rw[length_map,length_nil];lia
theorem ml(T:Txt K mg a)(hB:Bm mg base):FnOk P w K mg base CX0 3 a.x_p a.y_p ["self","crowd"] (spSNode K a):=by
 have a6:FnOk P w K mg base CX0 1 _ _ _ (spToldI a):=iJ T;have ah:FnOk P w K mg base CX0 1 _ _ _ (spDieI a):=nI T;have a8:FnOk P w K mg base CX0 2 _ _ _ _:=(gL T).mono (by decide);have al:FnOk P w K mg base CX0 2 _ _ _ _:=(xB T hB).mono (by decide);refine T.F_p.ok sc_p (λvs H Q E h=>?_) (λcdv A outer s H vs Q E hr h=>?_)
 .obtain⟨v,m,l,xs,ms,rfl,_⟩:=h;rfl
 .obtain⟨v,m,l,xs,ms,rfl,⟨x,dx,rfl,hx⟩,hl,hc,L,m1,m2,hT,q⟩:=h
  have a1:sizeLine=16777216:=sizeLine_eq;have W:(plc ms).length<=24:=by unfold plc;rw[length_map];exact L
  refine⟨_,(ak (aA (i:=2) sc_p.nd rfl (Or.inr rfl) (aq a8 hr rfl T.m_x T.F_x.kp T.B_x .nil au (aa (vr 1) ae))) (ak (aA (i:=3) sc_p.nd rfl (Or.inr rfl) (df (vr 0) rfl)) (ak (cD (PW.pt (g7 (cg me (vr 3) ao (be _)) (gR (dS (i9 (vr 2) (λ_=>rfl)))))) (aj (aw (cU T.mk_g a6 hr rfl T.mc_g T.Bi_g .nil au (aa (vr 2) ae)))) aZ) (aj (aw (cU T.mk_j ah hr rfl T.mc_j T.Bi_j .nil au (aa (bT rfl (N:=["first","places","step"]) (ix:=[none,some 2,some 3]) ⟨rfl,rfl,rfl,rfl,⟨rfl,rfl,rfl,⟨rfl,rfl,rfl,trivial⟩⟩⟩ (dM rfl T.z_range (aa (vr 3) ae)) ⟨λC s H fp=>av (i:=0) (show List.Nodup (["first","places","step"]:List Str) by decide +kernel) rfl (Or.inl rfl),λC s H fp=>cj,λC s H fp=>(bP (aa ao (aa (aq al hr rfl T.m_i T.F_i.kp T.B_i .nil au (aa (vr 1) (aa (vr 2) (aa (vr 0) ae)))) ae)))⟩) ae))))))),mH ?_⟩;intro bm bd bg;refine⟨l,xs,ms,rfl,hl,hc,L,λH1 r X bl d=>?_⟩;refine⟨x,_,dx,_,_,rfl,X _ _ hx,T.cl_d,T.na_Start_step,rfl,?_⟩;have as:=hT.same X;generalize plc ms=places at d q W;refine ifC (λc=>?_) λc=>?_
  .have a4:m=1\/places=[]:=.inl (by lia)
   intro J u g b R;refine⟨J,u,r,places,rfl,ad,.inl (iV g b _ _ d),by lia,λB t M k h1 Y h3=>⟨rfl,?_⟩⟩;have sm:=X.trans (made g b k);refine q _ _ sm.t (hT.same sm) ?_;unfold stT;rw[if_pos a4,bQ];exact⟨J,u,t,M,rfl,h1,Y,h3⟩
  have c1:¬m=1:=by lia
  cases hpe:places with
  | nil =>
   rw[hpe]at d q;refine⟨_,.inl ⟨_,SqL.of d,rfl⟩,?_⟩;intro J u g b R;refine⟨J,u,r,[],rfl,ad,.inl (iV g b _ _ d),by decide,λB t M k h1 Y h3=>⟨rfl,?_⟩⟩;have sm:=X.trans (made g b k);refine q _ _ sm.t (hT.same sm) ?_;unfold stT;rw[if_pos (.inr rfl),bQ];exact⟨J,u,t,M,rfl,h1,Y,h3⟩
  | cons p0 pr =>
   have R:places≠[]:=by rw[hpe];simp
   refine⟨_,.inl ⟨_,SqL.of (by rw[hpe]at d;exact d),rfl⟩,?_⟩;refine⟨(m:Int),rfl,by lia,by lia,λD hD=>?_⟩;have an:TabsOk (tabs a) (upd H1 D (.lst [])):=as.same (Same.new hD);have ext:∀{B:Hp},TabsOk (tabs a) B->∀{F:List V}{Z:List V},B D=some (.lst F)->TabsOk (tabs a) (upd B D (.lst Z)):=λG F Z e=>G.put (λps z=>by rw[e]at z;cases z) λφ z=>by rw[e]at z;cases z
   let Pw3:PvL:=λj F B=>j<=m/\SameT H1 B/\TabsOk (tabs a) B/\B D=some (.lst F)/\Paired (SRow B r m) (List.range j) F
   refine gD (lo:=0) (n:=m) Pw3 ⟨Nat.zero_le _,(Same.new hD).t,an,ad,.nil⟩ (λj F B h=>h.2.2.2.1) ?_ ?_
   .rintro j F B P' U ⟨_,t1,G,O,hP⟩ a9
    have yl:F.length=j:=by rw[<- hP.length,length_range]
    refine⟨⟨rfl,rfl,trivial⟩,.ref r,m,j,?_,G,λH2 f t2 a7 hf=>?_⟩
    .show [V.ref r,V.int (m:Int),V.int (0+(j:Int))]=_
     rw[Int.zero_add]
    refine⟨cX _ _,λp1 S=>?_⟩;have s3:=Same.new (o:=.tup [.int 1,f]) S;have ab:=t2.at O;have I:=s3 _ _ ab;have n1:p1≠D:=λz=>by rw[z,ab]at S;cases S
    refine⟨I,by lia,a9 _ _ ⟨U,((t1.trans t2).trans s3.t).put hD,ext (a7.same s3) I,ad,?_⟩⟩;rw[range_succ];exact dy (SRow.put I _ _ ⟨p1,f,rfl,ad,hf.t s3.t⟩) (aG (λf y h=>SRow.put I _ _ (SRow.t (t2.trans s3.t) _ _ h)) hP)
   .rintro F B ⟨_,t1,G,O,hP⟩
    intro J u g b a';refine⟨J,u,D,F,rfl,ad,iV g b _ _ O,λH2 l' gl k g1 g2=>⟨rfl,?_⟩⟩;have s2:=made g b k;have a0:=X.t.trans (t1.trans s2.t);have a2:=(t1.trans s2.t).at d;refine q _ _ a0 (G.same s2) ?_;unfold stT;rw[if_neg (by simp[c1,R]),bQ];have rl:((List.range m).map λf=>((1:Int),Tr.leaf (ba places f m))).length=m:=by rw[length_map,length_range]
    refine⟨J,u,l',F,rfl,g1,g2,?_,by rw[rl];lia,by rw[rl];lia⟩
    have a3:∀{js:List Nat},(∀ j∈js,j<m)->∀{zs:List V},Paired (SRow H2 r m) js zs->Paired (λ(f:Nat) z=>NdR K H2 ((1:Int),Tr.leaf (ba places f m)) z) js zs:=λ{js}=>by
     induction js with
     | nil=>intro _ zs h;cases h;exact .nil
     | cons j js ih =>
      intro U zs h;cases h with
      | cons h1 Y =>
       obtain⟨q',fv,e1,e2,e3⟩:=h1;exact .cons ⟨q',fv,e1,e2,Int.le_refl 1,.inr (.inr (.inl ⟨_,places,m,j,e3,⟨r,rfl,a2⟩,W,U j (mem_cons_self ..),rfl⟩))⟩ (ih (λj a5=>U j (mem_cons_of_mem _ a5)) Y)
    exact iR (a3 (λj U=>mem_range.mp U) (aG (SRow.t s2.t) hP))
theorem mG(T:Txt K mg a)(hB:Bm mg base):FnOk P w K mg base CX0 6 a.x_q a.y_q ["self","crowd"] (spLNode K a):=by
 have a6:FnOk P w K mg base CX0 5 _ _ _ _:=(gL T).mono (by decide);have a2:FnOk P w K mg base CX0 5 _ _ _ (spWBy K):=nJ T;have al:FnOk P w K mg base CX0 5 _ _ _ _:=(vR T).mono (by decide);have a3:FnOk P w K mg base CX0 5 _ _ _ _:=(sV T hB).mono (by decide);refine T.F_q.ok sc_q (λvs H Q E h=>?_) (λcdv A outer s H vs Q E hr h=>?_)
 .obtain⟨v,m,l,xs,F,rfl,_⟩:=h;rfl
 .obtain⟨v,m,l,xs,F,rfl,⟨x,dx,rfl,hx⟩,hl,S,hz,m2,hT,q⟩:=h
  have a0:sizeLine=16777216:=sizeLine_eq;have L:F.length<=24:=by have:=hz.len;unfold szs at this;rw[length_map]at this;exact this
  refine⟨_,(ak (aA (i:=2) sc_q.nd rfl (Or.inl rfl) (nU rfl rfl T.z_list rfl T.z_zip (aa (aq a6 hr rfl T.m_x T.F_x.kp T.B_x .nil au (aa (vr 1) ae)) (aa (aq a2 hr rfl T.m_w T.F_w.kp T.B_w .nil au (aa (vr 1) (aa (df (vr 0) rfl) ae))) ae)))) (ak (li rfl (i:=3) sc_q.nd rfl rfl (by with_unfolding_all rfl) (N:=["place","chance"]) (ix:=[none,none]) ⟨rfl,rfl,rfl,rfl,trivial⟩ (bO (vr 2)) ⟨λC s H Y=>(d3 (K:=K) (n:=2) rfl rfl (az (av (i:=0) (show List.Nodup (["place","chance"]:List Str) by decide +kernel) rfl (Or.inl rfl)) (az (av (i:=1) (show List.Nodup (["place","chance"]:List Str) by decide +kernel) rfl (Or.inl rfl)) cm))),λC s H Y=>gj (cg (wu (K:=K) rfl hr.units) (vr 1) (gd rfl T.g_WHOLE) (be _)),λC s H Y=>(vr 0)⟩) (aj (aw (aq a3 hr rfl T.m_c T.F_c.kp T.B_c .nil au (aa (bT rfl (N:=["place","chance"]) (ix:=[none,none]) ⟨rfl,rfl,rfl,rfl,trivial⟩ (bO (vr 2)) ⟨λC s H Y=>(d3 (K:=K) (n:=2) rfl rfl (az (av (i:=0) (show List.Nodup (["place","chance"]:List Str) by decide +kernel) rfl (Or.inl rfl)) (az (av (i:=1) (show List.Nodup (["place","chance"]:List Str) by decide +kernel) rfl (Or.inl rfl)) cm))),λC s H Y=>gj (eJ (aq al hr rfl T.m_Q T.F_Q.kp T.B_Q .nil au (aa (vr 1) ae))),λC s H Y=>(bP (aa (vr 0) (aa (vr 1) ae)))⟩) (aa (vr 3) ae))))))),jM ?_⟩;intro a8 a';refine⟨l,xs,F,rfl,hl,S,L,λH1 r k bd as=>?_⟩;refine⟨x,_,dx,_,_,rfl,k _ _ hx,T.cl_e,T.na_Loose_many,rfl,?_⟩;refine⟨l,xs,F,(m:Nat),rfl,k _ _ hl,S.tk k.tk,hz,by lia,by lia,λG w' X s2 bg hw hF=>?_⟩;have yl:X.length=F.length:=by rw[<- hF.len,dg];unfold szs;rw[length_map]
  have pl:(plc F).length=F.length:=by unfold plc;rw[length_map]
  refine⟨r,w',_,_,rfl,s2 _ _ as,hw,by rw[length_map];lia,by rw[length_map];lia,λH3 lt Z s3 a9 B I an=>?_⟩;rw[length_map]at I;have hP:Paired (PrAt K H3) (lsL F m) Z:=lH (by rw[pl,dg];unfold szs;rw[length_map]) I (hF.same s3) an
  obtain⟨tl,etl⟩:∃ tl,tl=lsL F m:=⟨_,rfl⟩
  have a7:tl.length<=24:=by rw[etl,tO];exact L
  have a4:WfL (gv tl) (fV tl):=⟨by have:=pf tl;lia,λx hx=>(mem_filter.mp hx).2⟩
  have q':Res K a H [] (lT (gv tl) (fV tl)) Q:=by rw[etl];exact q
  rw[<- etl]at hP;have ah:=k.trans (s2.trans s3);refine .inl ⟨⟨_,SqL.of B⟩,λD hD=>?_⟩
  let Pw4:PvL:=λi f J=>Same H3 J/\J D=some (.lst f)/\i<=tl.length/\f=(((tl.take i).filter λx=>decide (x.2=(1,1))).map (·.1)).map V.int
  refine bB (K:=K) (a:=lt) (xs:=Z) Pw4 ⟨Same.new hD,ad,Nat.zero_le _,rfl⟩ (λi X J h=>SqL.of (h.1 _ _ B)) (λi X J h=>h.2.1) ?_ ?_
  .rintro i y f J P' hy ⟨k,b,hi,rfl⟩ j
   obtain⟨⟨p,c⟩,d,q1,yc,rfl,O,S⟩:=bc hP hy;have g:i<tl.length:=(List.getElem?_eq_some_iff.mp d).1;refine⟨q1,_,rfl,SqT.of (k _ _ O),rfl,_,_,rfl,_,_,rfl,rfl,?_⟩;obtain⟨pc,rfl,a1⟩:=S.same k;refine⟨trivial,.tuple [.int c.1,.int c.2],.tuple [.int 1,.int 1],dk a1.sq,dk (kC T.t_WHOLE),bx _ _,bx _ _,?_⟩;rw[mP];refine ifC (λhh=>?_) λhh=>?_
   .have hw:decide (c=(1,1))=true:=decide_eq_true (show c=(1,1) from hh)
    refine⟨b,?_,j _ _ ⟨k.put hD,ad,g,?_⟩⟩
    .rw[length_map,length_map]
     have:=length_filter_le (λx:Int×(Int×Int)=>decide (x.2=(1,1))) (tl.take i);rw[length_take]at *;lia
    .rw[take_add_one,d,filter_append,map_append,map_append]
     congr 1
     show _=(([(p,c)].filter λx:Int×(Int×Int)=>decide (x.2=(1,1))).map (·.1)).map V.int;rw[filter_cons_of_pos (by exact hw)];rfl
   .have hw:¬decide (c=(1,1))=true:=λz=>hh (of_decide_eq_true z)
    refine j _ _ ⟨k,b,g,?_⟩;rw[take_add_one,d,filter_append];show _=(((_++[(p,c)].filter λx:Int×(Int×Int)=>decide (x.2=(1,1)))).map (·.1)).map V.int;rw[filter_cons_of_neg (by exact hw)];simp
  .rintro f J ⟨s4,b,_,rfl⟩
   rw[show Z.length=tl.length from hP.length.symm,take_length]at b;have b:J D=some (.lst ((fV tl).map V.int)):=b;refine .inl ⟨⟨_,SqL.of (s4 _ _ B)⟩,λD2 ab=>?_⟩
   let Pw5:PvL:=λi f G=>Same J G/\G D2=some (.lst f)/\i<=tl.length/\Paired (PrAt K G) ((tl.take i).filter λx=>uns x.2) f
   refine bB (K:=K) (a:=lt) (xs:=Z) Pw5 ⟨Same.new ab,ad,Nat.zero_le _,.nil⟩ (λi X G h=>SqL.of (h.1 _ _ (s4 _ _ B))) (λi X G h=>h.2.1) ?_ ?_
   .rintro i y f G P' hy ⟨U,u,hi,e⟩ j
    obtain⟨⟨p,c⟩,d,q1,yc,rfl,O,S⟩:=bc hP hy;have g:i<tl.length:=(List.getElem?_eq_some_iff.mp d).1;have R:=s4.trans U;refine⟨q1,_,rfl,SqT.of (R _ _ O),rfl,_,_,rfl,_,_,rfl,rfl,trivial,?_⟩;refine⟨yc,c,rfl,S.same R,?_⟩
    have zl:f.length<=24:=by
     rw[<- e.length];have:=length_filter_le (λx:Int×(Int×Int)=>uns x.2) (tl.take i);rw[length_take]at *;lia
    refine ifB (λhu=>?_) λhu=>?_
    .refine⟨cX _ _,λq3 f3=>?_⟩
     have s6:=Same.new (o:=.tup [.int p,yc]) f3;have M:=s6 _ _ u;refine⟨M,by lia,j _ _ ⟨(U.trans s6).put ab,ad,g,?_⟩⟩;rw[take_add_one,d,filter_append];refine gg ?_ (aG (λx v h=>PrAt.put M _ _ (h.t s6.t)) e);show Paired _ ([(p,c)].filter λx:Int×(Int×Int)=>uns x.2) _;rw[filter_cons_of_pos (by exact hu)];exact .cons (PrAt.put M _ _ ⟨q3,yc,rfl,ad,S.same (R.trans s6)⟩) .nil
    .refine j _ _ ⟨U,u,g,?_⟩
     rw[take_add_one,d,filter_append];show Paired _ (_++[(p,c)].filter λx:Int×(Int×Int)=>uns x.2) _;rw[filter_cons_of_neg (by rw[hu];decide)];simpa using e
   .rintro f G ⟨U,u,_,e⟩
    rw[show Z.length=tl.length from hP.length.symm,take_length]at e;have W:=ah.trans (s4.trans U);exact⟨.ref D2,.ref D,gv tl,fV tl,[],rfl,iG _,⟨D2,f,rfl,by rw[bQ];exact u,by rw[bQ];exact e⟩,⟨D,rfl,by rw[bQ];exact U _ _ b⟩,a4,hT.same W,λH4 v' t4 a5 nd=>q' _ _ (W.t.trans t4) a5 nd⟩
theorem w6(T:Txt K mg a):FnOk P w K mg base CX0 1 a.x_t a.y_t ["self","crowd"] (spSBo a):=by
 refine T.F_t.ok ii (λj H Q E h=>?_) (λcdv A outer s H j Q E hr h=>?_)
 .obtain⟨v,m,l,b,rfl,_⟩:=h;rfl
 .obtain⟨v,m,l,b,rfl,⟨x,d,rfl,c⟩,n,r,g,f,q⟩:=h
  refine⟨_,(aj (aw (bP (aa (ax dc (ar ay rfl T.z_len bf (aa (vr 1) ae)) (df (vr 0) rfl)) (aa (ax dc (ax ge (ax dZ (ar ay rfl T.z_len bf (aa (vr 1) ae)) (df (vr 0) rfl)) ao) (df (vr 0) rfl)) ae))))),?_⟩;have i:Bt 3000 (m:Int):=(show Bt 10 (m:Int) by unfold Bt;lia).mono (by decide);refine⟨_,.inl (SqL.of g),⟨x,_,d,_,_,rfl,c,T.cl_d,T.na_Start_step,rfl,cdB (by lia) i,?_⟩⟩;refine⟨_,.inl (SqL.of g),⟨x,_,d,_,_,rfl,c,T.cl_d,T.na_Start_step,rfl,⟨x,_,d,_,_,rfl,c,T.cl_d,T.na_Start_step,rfl,cdB (by lia) i,?_⟩⟩⟩;refine⟨cX _ _,λp k=>?_⟩;have e:=Same.new (o:=.tup [.int ((b.length:Int)/(m:Int)),.int (((b.length:Int)+(m:Int) - 1)/(m:Int))]) k;exact q _ p e.t (λh=>h.same e) ad
theorem rP{H:Hp}{l k:Addr}{xs:List V}{a:List (Int×Int)}{t b:Int}{Q:VK}(c:H l=some (.lst xs))(d:AllF K H a xs)(e:SqT K H k [.int t,.int b])(q:Q (.int (cF a t b)) H):rCount K (.ref l) [.ref k] H Q :=
 ⟨l,xs,pD a,.ref k,.tuple [.int t,.int b],rfl,rfl,c,vk d,dk e,(vf a).1,by simp[PyData.canLay0,PyData.canLayAll0],by simp[PyData.depth,PyData.depthAll],q⟩
theorem v9(T:Txt K mg a):FnOk P w K mg base CX0 6 a.x_n a.y_n ["self","crowd"] (spLBo a):=by
 have f:FnOk P w K mg base CX0 5 _ _ _ (spWBy K):=nJ T;refine T.F_n.ok sc_n (λj H Q E h=>?_) (λcdv A outer s H j Q E hr h=>?_)
 .obtain⟨v,m,l,g,b,rfl,_⟩:=h;rfl
 .obtain⟨v,m,l,g,b,rfl,⟨x,r,rfl,D⟩,M,F,C,I,q⟩:=h
  refine⟨_,(ak (aA (i:=2) sc_n.nd rfl (Or.inl rfl) (aq f hr rfl T.m_w T.F_w.kp T.B_w .nil au (aa (vr 1) (aa (df (vr 0) rfl) ae)))) (aj (aw (bP (aa (pe_m.count hr.units (vr 2) (aa (gd rfl T.g_WHOLE) ae)) (aa (ax ge (ar ay rfl T.z_len bf (aa (vr 2) ae)) (pe_m.count hr.units (vr 2) (aa (gd rfl T.g_NOUGHT) ae))) ae)))))),gB ?_⟩;intro n;refine⟨x,_,r,_,_,rfl,D,T.cl_e,T.na_Loose_many,rfl,?_⟩;refine⟨l,g,b,(m:Nat),rfl,F,C,I,by lia,by lia,λL N k B y c e=>?_⟩;have J:k.length=(due (szs b) (m:Nat)).length:=e.len.symm;refine⟨.inl ⟨rfl,_,SqL.of c⟩,rP c e (kC T.t_WHOLE) ?_⟩;refine⟨_,.inl (SqL.of c),⟨.inl ⟨rfl,_,SqL.of c⟩,rP c e (kC T.t_NOUGHT) ?_⟩⟩;rw[J];refine⟨cX _ _,λp G=>?_⟩;have u:=Same.new (o:=.tup [.int (cF (due (szs b) (m:Nat)) 1 1),.int (((due (szs b) (m:Nat)).length:Int) - cF (due (szs b) (m:Nat)) 0 1)]) G;have d:=B.trans u;exact q _ p d.t (λh=>h.same d) ad
theorem qa(T:Txt K mg a):FnOk P w K mg base CX0 1 a.x_u a.y_u ["self","crowd"] (spBounds a):=by
 refine T.F_u.ok sc_u (λd H Q E h=>?_) (λcdv A outer s H d Q E hr h=>?_)
 .obtain⟨v,m,l,b,rfl,_⟩:=h;rfl
 .obtain⟨v,m,l,b,rfl,⟨x,j,rfl,f⟩,g,q⟩:=h
  refine⟨_,(ak (aA (i:=2) sc_u.nd rfl (Or.inl rfl) (ar (gM rfl) rfl T.z_min ku (aa (df (vr 0) rfl) (aa (ar ay rfl T.z_len bf (aa (vr 1) ae)) ae)))) (aj (aw (bP (aa (vr 2) (aa (vr 2) ae)))))),gB ?_⟩;intro c;refine⟨x,_,j,_,_,rfl,f,T.cl_k,T.na_Few_many,rfl,⟨_,.inl (SqL.of g),?_⟩⟩;refine⟨_,_,rfl,?_⟩
  have e:(if ((b.length:Int)<(m:Int)) then (b.length:Int) else (m:Int))=((min m b.length:Nat):Int):=by split <;> lia
  rw[e];exact⟨(show 2<=sizeLine by decide),q⟩
end
open Tb (Tr fT lT sT ba)
abbrev fvM:List Str:=["wanted","there"]
def sy(w:Nat)(i j:Nat):Int:=if i=j then (w:Int) else (w:Int)*((w:Int) - 1)
def sP(n:Nat)(i j:Nat):Int:=if i=j then (n:Int) else (n:Int)*((n:Int) - 1)
def gb(n w i j:Nat):Int×Int:=dC (sy w i j) (sP n i j)
theorem xQ{n:Nat}(h:n<=24):Bt 10 (n:Int):=by unfold Bt;lia
inductive spChance(vs:List V)(H:Hp)(Q:VK)(_E:XK):Prop
 | mk(n w i j:Nat)(h0:vs=[.int (n:Nat),.int (w:Nat),.bl (decide (i=j))])(h1:n<=24)(h2:w<=n)(h3:i<n)(h4:j<n)(h5:tK H Q (sy w i j) (sP n i j)):spChance vs H Q _E
def xg:List V->Sp:=λvals vs H Q _=>∃(n w i j:Nat),vals=[.int (w:Nat),.int (n:Nat)]/\vs=[.int (i:Nat),.int (j:Nat)]/\n<=24/\w<=n/\i<n/\j<n/\tK H Q (sy w i j) (sP n i j)
theorem lsM:LamScope cn fvM ["one","other"]:=⟨rfl,rfl,rfl,by decide +kernel,by decide +kernel,by decide +kernel,by decide +kernel,by decide +kernel⟩
theorem nd2(n:Nat):([n+1+1,n+1]:List Nat).Nodup:=by
 simp only[nodup_cons,mem_cons,not_mem_nil,or_false,not_or,not_false_eq_true,nodup_nil,and_true];lia
abbrev t5:List Str:=["step"]
abbrev ue:List Str:=["told"]
def eS(st:Nat)(i j:Nat):Int×Int:=if i % st=j % st then (1,(st:Int)) else (0,1)
def fAt(fs:List (Int×Int))(i:Nat):Int×Int:=fs.getD i (0,1)
def eL(fs:List (Int×Int))(i j:Nat):Int×Int:=if i=j then fAt fs i else dC ((fAt fs i).1*(fAt fs j).1) ((fAt fs i).2*(fAt fs j).2)
def oe(n:Nat)(e:Nat->Nat->Int×Int)(i:Nat):List (Int×Int):=(List.range n).map (e i)
def ma(n:Nat)(e:Nat->Nat->Int×Int):List (List (Int×Int)):=(List.range n).map (oe n e)
theorem mh{i j st:Nat}(h:0<st):((i:Int) - (j:Int)) % (st:Int)=0↔i % st=j % st:=by
 rw[<- Int.emod_emod_of_dvd _ (Int.dvd_refl _)]
 constructor
 .intro z
  have:=Int.emod_emod_of_dvd ((i:Int) - (j:Int)) (Int.dvd_refl (st:Int))
  have e:(i:Int) % (st:Int)=(j:Int) % (st:Int):=by
   rw[this]at z;exact Int.emod_eq_emod_iff_emod_sub_eq_zero.mpr z
  lia
 .intro z
  have e:(i:Int) % (st:Int)=(j:Int) % (st:Int):=by
   have a:((i % st:Nat):Int)=((j % st:Nat):Int):=by rw[z]
   rw[Int.natCast_emod,Int.natCast_emod]at a;exact a
  rw[Int.emod_emod_of_dvd _ (Int.dvd_refl _)];exact Int.emod_eq_emod_iff_emod_sub_eq_zero.mp e
theorem uK{st:Nat}(h:0<st):dC 1 (st:Int)=(1,(st:Int)):=by
 unfold dC;rw[show Int.gcd 1 (st:Int)=1 by simp];simp
theorem xu{K:Frag}{H:Hp}{a:List (Int×Int)}{ys:List V}{i:Nat}(h:AllF K H a ys)(c:i<a.length):∃ y,ys[i]? = some y/\IsF K H (fAt a i) y:=by
 have d:=h.len;obtain⟨f,b,q⟩:=h.get (List.getElem?_eq_getElem (show i<ys.length by lia));refine⟨_,List.getElem?_eq_getElem (show i<ys.length by lia),?_⟩;unfold fAt;rw[List.getD,b];exact q
theorem yh{a:List (Int×Int)}(h:∀ f∈a,FrOk f){i:Nat}(b:i<a.length):FrOk (fAt a i):=by
 unfold fAt;rw[List.getD,List.getElem?_eq_getElem b];exact h _ (getElem_mem b)
theorem uw{f:Int×Int}(h:FrOk f):Bt 1000 f.1/\Bt 1000 f.2:=by
 have:=h.pos;have:=h.lo;have:=h.hi;have:=h.bd;exact⟨(show Bt 40 f.1 by unfold Bt;lia).mono (by decide),(show Bt 40 f.2 by unfold Bt;lia).mono (by decide)⟩
theorem IsF.un{K:Frag}{H:Hp}{a:List (Str×Addr)}{b:List V}(c:CellsAt H a b)(x:Int×Int)(v:V)(h:IsF K H x v):IsF K (untrs H (a.map (·.2))) x v:=let ⟨p2,h3,h4⟩:=h;⟨p2,h3,h4.imp (λe=>bU c e (λv z=>nomatch z)) id⟩
def IsTell(K:Frag)(H:Hp)(v:V)(n:Nat)(e:Nat->Nat->Int×Int):Prop :=
 (∃ w:Nat,IsLam H cn fvM v [.int (w:Nat),.int (n:Nat)]/\w<=n/\e=gb n w) \/
 (∃ st:Nat,IsLam H bZ t5 v [.int (st:Nat)]/\1<=st/\st<=100/\e=eS st) \/
 (∃ w ys fs,IsLam H bY ue v [.ref w]/\H w=some (.lst ys)/\AllF K H fs ys/\fs.length=n/\(∀ f∈fs,FrOk f)/\e=eL fs)
theorem IsTell.t{K:Frag}{H c:Hp}{v:V}{n:Nat}{e:Nat->Nat->Int×Int}(s:Same H c)(h:IsTell K H v n e):IsTell K c v n e :=
 h.imp (λ⟨b,a,r⟩=>⟨b,a.t s.t,r⟩) λh=>h.imp (λ⟨b,a,r⟩=>⟨b,a.t s.t,r⟩) λ⟨w,ys,fs,a,h2,h3,r⟩=>⟨w,ys,fs,a.t s.t,s _ _ h2,h3.same s,r⟩
def xE(K:Frag):List V->Sp:=λvals vs H Q _=>∃(st i j:Nat),vals=[.int (st:Nat)]/\vs=[.int (i:Nat),.int (j:Nat)]/\1<=st/\st<=100/\∀ H' z,Same H H'->IsF K H' (eS st i j) z->Q z H'
def xI(K:Frag):List V->Sp:=λvals vs H Q _=>∃(w:Addr) (ys:List V) (fs:List (Int×Int)) (i j:Nat),vals=[.ref w]/\vs=[.int (i:Nat),.int (j:Nat)]/\H w=some (.lst ys)/\AllF K H fs ys/\(∀ f∈fs,FrOk f)/\i<fs.length/\j<fs.length/\∀ H' z,Same H H'->IsF K H' (eL fs i j) z->Q z H'
theorem yM:LamScope bZ t5 ["one","other"]:=⟨rfl,rfl,rfl,by decide +kernel,by decide +kernel,by decide +kernel,by decide +kernel,by decide +kernel⟩
theorem yL:LamScope bY ue ["one","other"]:=⟨rfl,rfl,rfl,by decide +kernel,by decide +kernel,by decide +kernel,by decide +kernel,by decide +kernel⟩
theorem mr{H d c:Hp}{a:List (Str×Addr)}(s:Same (untrs H (a.map (·.2))) d)(h:Same d c)(f:∀ p∈a,c p.2=H p.2):Same H c:=λb o e=>by
 by_cases hb:b∈a.map (·.2)
 .obtain⟨p,g,rfl⟩:=mem_map.mp hb
  rw[f p g,e]
 .exact(s.trans h) b o (by rw[aW hb];exact e)
def MRow(K:Frag)(D:Addr)(H:Hp)(fs:List (Int×Int))(x:V):Prop:=∃ q ys,x=.ref q/\q≠D/\H q=some (.lst ys)/\AllF K H fs ys
abbrev MatAt(K:Frag)(D:Addr)(H:Hp):List (List (Int×Int))->List V->Prop:=Paired (MRow K D H)
theorem MRow.same{K:Frag}{D:Addr}{H b:Hp}{a:List (Int×Int)}{x:V}(s:SameT H b)(h:MRow K D H a x):MRow K D b a x :=
 let ⟨q,ys,h1,h2,h3,h4⟩:=h;⟨q,ys,h1,h2,s.at h3,h4.tk (SameT.tk s)⟩
theorem MatAt.same{K:Frag}{D:Addr}{H a:Hp}(s:SameT H a):∀{fss:List (List (Int×Int))}{xs:List V},MatAt K D H fss xs->MatAt K D a fss xs
 | _,_,.nil=>.nil
 | _,_,.cons r t=>.cons (r.same s) (MatAt.same s t)
theorem MRow.put{K:Frag}{D:Addr}{H:Hp}{b:List (Int×Int)}{x:V}{c a:List V}(d:H D=some (.lst c))(h:MRow K D H b x):MRow K D (upd H D (.lst a)) b x :=
 let ⟨q,ys,h1,h2,h3,h4⟩:=h;⟨q,ys,h1,h2,by rw[ai h2];exact h3,h4.tk (TK.lst d)⟩
theorem MatAt.put{K:Frag}{D:Addr}{H:Hp}{c a:List V}(b:H D=some (.lst c)):∀{fss:List (List (Int×Int))}{xs:List V},MatAt K D H fss xs->MatAt K D (upd H D (.lst a)) fss xs
 | _,_,.nil=>.nil
 | _,_,.cons r t=>.cons (r.put b) (MatAt.put b t)
theorem MatAt.snoc{K:Frag}{D:Addr}{H:Hp}{c:List (Int×Int)}{x:V}(h:MRow K D H c x):∀{fss:List (List (Int×Int))}{xs:List V},MatAt K D H fss xs->MatAt K D H (fss++[c]) (xs++[x])
 | _,_,.nil=>.cons h .nil
 | _,_,.cons a b=>.cons a (MatAt.snoc h b)
theorem MatAt.get{K:Frag}{D:Addr}{H:Hp}:∀{fss:List (List (Int×Int))}{xs:List V}{i:Nat}{x:V},MatAt K D H fss xs->xs[i]? = some x->∃ r,fss[i]? = some r/\MRow K D H r x
 | _,_,_,_,.nil,h=>by cases h
 | _,_,0,_,.cons r _,h=>⟨_,rfl,by cases h;exact r⟩
 | _,_,i+1,_,.cons _ t,h=>MatAt.get (i:=i) t h
theorem MatAt.len{K:Frag}{D:Addr}{H:Hp}{a:List (List (Int×Int))}{xs:List V}(h:MatAt K D H a xs):a.length=xs.length:=Paired.length h
inductive spMRow(K:Frag)(vs:List V)(H:Hp)(Q:VK)(_E:XK):Prop
 | mk(n i:Nat)(e:Nat->Nat->Int×Int)(v:V)(h0:vs=[.int (i:Nat),.int (n:Nat),v])(h1:n<=24)(h2:i<n)(h3:IsTell K H v n e)(h4:∀ H' r ys,Same H H'->H r=none->H' r=some (.lst ys)->AllF K H' (oe n e i) ys->Q (.ref r) H'):spMRow K vs H Q _E
inductive spMBy(K:Frag)(vs:List V)(H:Hp)(Q:VK)(_E:XK):Prop
 | mk(n:Nat)(e:Nat->Nat->Int×Int)(v:V)(h0:vs=[.int (n:Nat),v])(h1:n<=24)(h2:IsTell K H v n e)(h3:∀ H' r xs,Same H H'->H r=none->H' r=some (.lst xs)->MatAt K r H' (ma n e) xs->xs.Nodup->(∀ q,V.ref q∈xs->H q=none)->Q (.ref r) H'):spMBy K vs H Q _E
inductive spMatrix(K:Frag)(a:Ad)(vs:List V)(H:Hp)(Q:VK)(_E:XK):Prop
 | mk(v:V)(m:Nat)(l:Addr)(zs:List V)(h0:vs=[v,.ref l])(h1:IsPlan a H v m)(h2:H l=some (.lst zs))(h3:zs.length<=24)(h4:TabsOk (tabs a) H)(h5:∀ H' r xs,SameT H H'->TabsOk (tabs a) H'->H r=none->H' r=some (.lst xs)->MatAt K r H' (ma zs.length (gb zs.length (min m zs.length))) xs->xs.Nodup->(∀ q,V.ref q∈xs->H q=none)->Q (.ref r) H'):spMatrix K a vs H Q _E
inductive spSMat(K:Frag)(a:Ad)(vs:List V)(H:Hp)(Q:VK)(_E:XK):Prop
 | mk(v:V)(m:Nat)(l:Addr)(zs:List V)(h0:vs=[v,.ref l])(h1:IsStart a H v m)(h2:1<=m)(h3:m<=100)(h4:H l=some (.lst zs))(h5:zs.length<=24)(h6:TabsOk (tabs a) H)(h7:∀ H' r xs,SameT H H'->TabsOk (tabs a) H'->H r=none->H' r=some (.lst xs)->MatAt K r H' (ma zs.length (eS m)) xs->xs.Nodup->(∀ q,V.ref q∈xs->H q=none)->Q (.ref r) H'):spSMat K a vs H Q _E
inductive spLMx(K:Frag)(a:Ad)(vs:List V)(H:Hp)(Q:VK)(_E:XK):Prop
 | mk(v:V)(m:Nat)(l:Addr)(zs:List V)(ms:List Mb)(h0:vs=[v,.ref l])(h1:IsLoose a H v m)(h2:m<=24)(h3:H l=some (.lst zs))(h4:CrAt H ms zs)(h5:Szs (szs ms))(h6:TabsOk (tabs a) H)(h7:∀ H' r xs,SameT H H'->TabsOk (tabs a) H'->H r=none->H' r=some (.lst xs)->MatAt K r H' (ma ms.length (eL (due (szs ms) (m:Nat)))) xs->xs.Nodup->(∀ q,V.ref q∈xs->H q=none)->Q (.ref r) H'):spLMx K a vs H Q _E
theorem oF{z:List Int}{m:Nat}(h:Szs z):∀ f∈due z (m:Nat),FrOk f:=v7 (λk a=>h.lo _ (kM a)) (λk a=>h.hi _ (kM a)) h.len (by lia)
section
variable {P:Program}{w:World}{K:Frag}{mg:Str->Option Value}{base:Heap}{a:Ad}
theorem ym(T:Txt K mg a):db P w K mg base 4 bZ t5 ["one","other"] (xE K):=by
 have n:FnOk P w K mg base CX0 3 _ _ _ _:=(gx T).mono (by decide);refine fq yM (λC v d c r y=>match r,y with | [_,_],_=>rfl) (λvals vs H Q E h=>?_) (λA outer s H f c d vals vs Q E hr hfv ca h=>?_)
 .obtain⟨b,i,j,rfl,rfl,_⟩:=h;rfl
 .obtain⟨b,i,j,rfl,rfl,B,F,q⟩:=h
  refine⟨_,(jm (cg me (ax dI (ax ge (vr 0) (vr 1)) (vr 2)) ao (be _)) (aq n hr rfl T.m_D T.F_D.kp T.B_D .nil au (aa ao (aa (vr 2) ae))) (gd rfl T.g_NOUGHT)),?_⟩;have g:(0:Int)<(b:Int):=by lia
  refine⟨cp g,?_⟩;refine ifC (λc=>?_) λc=>?_
  .have e:i % b=j % b:=(mh (by lia)).mp c
   have l:eS b i j=dC 1 (b:Int):=by unfold eS;rw[if_pos e,uK (by lia)]
   rw[l]at q;exact⟨1,(b:Int),rfl,g,(show Bt 1 (1:Int) by unfold Bt;decide).mono (by decide),(show Bt 10 (b:Int) by unfold Bt;lia).mono (by decide),λD p u x=>λo k m=>q _ _ (mr u k m) ⟨p,rfl,.inl (k _ _ x)⟩⟩
  .have e:¬i % b=j % b:=λz=>c ((mh (by lia)).mpr z)
   have l:eS b i j=(0,1):=by unfold eS;rw[if_neg e]
   rw[l]at q;exact λo k m=>q _ _ (mr (Same.refl _) k m) ⟨a.k_NOUGHT,rfl,.inr T.t_NOUGHT⟩
theorem xA(T:Txt K mg a):db P w K mg base 4 bY ue ["one","other"] (xI K):=by
 have k:FnOk P w K mg base CX0 3 _ _ _ (spTimes K):=qH T;refine fq yL (λY W l c M X=>match M,X with | [_,_],_=>rfl) (λvals vs H Q E h=>?_) (λA outer s H f c l vals vs Q E hr hfv ca h=>?_)
 .obtain⟨n,J,b,i,j,rfl,rfl,_⟩:=h;rfl
 .obtain⟨n,J,b,i,j,rfl,rfl,L,B,m,D,G,q⟩:=h
  refine⟨_,(jm (cg me (vr 0) (vr 1) (be _)) (bA aY (vr 2) (vr 0) (λ_ _=>rfl)) (aq k hr rfl T.m_ad T.F_ad.kp T.B_ad .nil au (aa (bA aY (vr 2) (vr 0) (λ_ _=>rfl)) (aa (bA aY (vr 2) (vr 1) (λ_ _=>rfl)) ae)))),?_⟩;have d:=bU ca L λv z=>nomatch z
  obtain⟨r,C,F⟩:=xu B D;obtain⟨I,R,O⟩:=xu B G;have u:=yh m D;have o:=yh m G;refine ifC (λc=>?_) λc=>?_
  .have e:i=j:=by have c:(i:Int)=(j:Int):=c;lia
   have x:eL b i j=fAt b i:=by unfold eL;rw[if_pos e]
   rw[x]at q;refine .inl ⟨n,_,_,r,rfl,rfl,SqL.of d,de i rfl C,?_⟩;exact λN g y=>q _ _ (mr (Same.refl _) g y) ((IsF.un ca _ _ F).same g)
  .have e:¬i=j:=λz=>c (by show(i:Int)=(j:Int);rw[z])
   have x:eL b i j=dC ((fAt b i).1*(fAt b j).1) ((fAt b i).2*(fAt b j).2):=by unfold eL;rw[if_neg e]
   rw[x]at q;refine .inl ⟨n,_,_,r,rfl,rfl,SqL.of d,de i rfl C,.inl ⟨n,_,_,I,rfl,rfl,SqL.of d,de j rfl R,?_⟩⟩;exact⟨r,I,_,_,rfl,IsF.un ca _ _ F,IsF.un ca _ _ O,u.pos,o.pos,(uw u).1,(uw u).2,(uw o).1,(uw o).2,λZ p U S=>λN g y=>q _ _ (mr U g y) ⟨p,rfl,.inl (g _ _ S)⟩⟩
theorem qe(T:Txt K mg a):FnOk P w K mg base CX0 3 a.f_M a.d_M ["there","wanted","is_same"] spChance:=by
 have b:FnOk P w K mg base CX0 2 _ _ _ spLow:=gx T;refine T.F_M.ok jq (λm H Q E h=>?_) (λcdv A outer s H m Q E hr h=>?_)
 .obtain⟨n,g,i,j,rfl,_⟩:=h;rfl
 .obtain⟨n,g,i,j,rfl,f,u,x,v,q⟩:=h
  have k:=xQ f;have d:=xQ (Nat.le_trans u f);refine⟨_,(ak (cD (eJ (vr 2)) (aj (aw (aq b hr rfl T.m_D T.F_D.kp T.B_D .nil au (aa (vr 1) (aa (vr 0) ae))))) aZ) (aj (aw (aq b hr rfl T.m_D T.F_D.kp T.B_D .nil au (aa (ax cz (vr 1) (ax ge (vr 1) ao)) (aa (ax cz (vr 0) (ax ge (vr 0) ao)) ae)))))),gB ?_⟩;intro o
  by_cases e:i=j
  .unfold sy sP at q
   rw[if_pos e,if_pos e]at q;rw[decide_eq_true e];exact⟨_,_,rfl,by lia,d.mono (by decide),k.mono (by decide),q⟩
  .unfold sy sP at q
   rw[if_neg e,if_neg e]at q;rw[decide_eq_false e];have c:(0:Int)<(n:Int)*((n:Int) - 1):=Int.mul_pos (by lia) (by lia);have r:Bt 11 ((g:Int) - 1):=by unfold Bt;lia
   have l:Bt 11 ((n:Int) - 1):=by unfold Bt;lia
   exact⟨clB (by lia) (by lia),clB (by lia) (by lia),_,_,rfl,c,(d.mul r).mono (by decide),(k.mul l).mono (by decide),q⟩
theorem xC(T:Txt K mg a):db P w K mg base 4 cn fvM ["one","other"] xg:=by
 have d:FnOk P w K mg base CX0 3 _ _ _ spChance:=qe T;refine fq lsM (λB o b c k x=>match k,x with | [_,_],_=>rfl) (λvals vs H Q E h=>?_) (λA outer s H f c b vals vs Q E hr hfv ca h=>?_)
 .obtain⟨n,g,i,j,rfl,rfl,_⟩:=h;rfl
 .obtain⟨n,g,i,j,rfl,rfl,r,y,v,l,q⟩:=h
  refine⟨_,(aq d hr rfl T.m_M T.F_M.kp T.B_M .nil au (aa (vr 3) (aa (vr 2) (aa (iH me (vr 0) (vr 1) (be _)) ae)))),?_⟩
  have e:(decide ((i:Int)=(j:Int)))=decide (i=j):=by
   by_cases h:i=j
   .subst h;simp
   .rw[decide_eq_false h,decide_eq_false (by lia)]
  refine⟨n,g,i,j,?_,r,y,v,l,λC p m u=>λH3 s3 hc=>q _ p (mr m s3 hc) (s3 _ _ u)⟩;show [V.int (n:Int),V.int (g:Int),V.bl (decide ((i:Int)=(j:Int)))]=_;rw[e]
theorem tN(T:Txt K mg a):FnOk P w K mg base CX0 5 a.f_L a.d_L ["one","many","tell"] (spMRow K):=by
 have x:db P w K mg base 4 cn fvM ["one","other"] xg:=xC T;have u:db P w K mg base 4 bZ t5 ["one","other"] (xE K):=ym T;have G:db P w K mg base 4 bY ue ["one","other"] (xI K):=xA T;refine T.F_L.ok jx (λvs H Q E h=>?_) (λcdv A outer s H vs Q E hr h=>?_)
 .obtain⟨n,i,e,v,rfl,_⟩:=h;rfl
 .obtain⟨n,i,e,v,rfl,hn,hi,hL,q⟩:=h
  have Y:sizeLine=16777216:=sizeLine_eq;refine⟨_,(aj (aw (bT rfl (N:=["other","tell","one"]) (ix:=[none,some 2,some 0]) ⟨rfl,rfl,rfl,rfl,⟨rfl,rfl,rfl,⟨rfl,rfl,rfl,trivial⟩⟩⟩ (dM rfl T.z_range (aa (vr 1) ae)) ⟨λC s H fp=>av (i:=0) (show List.Nodup (["other","tell","one"]:List Str) by decide +kernel) rfl (Or.inl rfl),λC s H fp=>cj,λC s H fp=>(PE.or (i6 (vr 1) x hr (aa (vr 2) (aa (vr 0) ae))) (PE.or (i6 (vr 1) u hr (aa (vr 2) (aa (vr 0) ae))) (i6 (vr 1) G hr (aa (vr 2) (aa (vr 0) ae)))))⟩))),?_⟩;refine⟨(n:Int),rfl,by lia,by lia,λD U=>?_⟩
  let Pw1:PvL:=λj d o=>j<=n/\Same H o/\o D=some (.lst d)/\AllF K o ((List.range j).map (e i)) d
  refine gD (lo:=0) (n:=n) Pw1 ⟨Nat.zero_le _,Same.new U,ad,.nil⟩ (λj d o h=>h.2.2.1) ?_ ?_
  .rintro j d o P' hj ⟨_,R,l,O⟩ hP
   have ab:d.length=j:=by rw[<- O.len,length_map,length_range]
   have k:∀ r z,Same o r->IsF K r (e i j) z->r D=some (.lst d)/\d.length<sizeLine/\P' (d++[z]) (upd r D (.lst (d++[z]))):=λr z I hz=>by
    have m:=I _ _ l;refine⟨m,by lia,hP _ _ ⟨hj,(R.trans I).put U,ad,?_⟩⟩;rw[range_succ,map_append];exact AllF.snoc (hz.tk (TK.lst m)) ((O.same I).tk (TK.lst m))
   have X:[V.int (i:Int),V.int (0+(j:Int))]=[V.int (i:Int),V.int (j:Int)]:=by rw[Int.zero_add]
   refine⟨⟨rfl,rfl,trivial⟩,?_⟩
   rcases hL.t R with⟨w9,⟨f,c,b,rfl,g,y,B,J,M⟩,L,rfl⟩ | ⟨st,⟨f,c,b,rfl,g,y,B,J,M⟩,L,S,rfl⟩ | ⟨w',W,fs,⟨f,c,b,rfl,g,y,B,J,M⟩,L,S,h3,h4,rfl⟩
   .exact .inl ⟨⟨f,_,_,_,rfl,g⟩,λZ d' F c' _ z=>z,f,c,b,_,rfl,g,y,B,J,M,n,w9,i,j,rfl,X,hn,L,hi,hj,λr p I hp=>k _ _ I ⟨p,rfl,.inl hp⟩⟩
   .exact .inr (.inl ⟨⟨f,_,_,_,rfl,g⟩,λZ d' F c' _ z=>z,f,c,b,_,rfl,g,y,B,J,M,st,i,j,rfl,X,L,S,k⟩)
   .exact .inr (.inr ⟨⟨f,_,_,_,rfl,g⟩,λZ d' F c' _ z=>z,f,c,b,_,rfl,g,y,B,J,M,w',W,fs,i,j,rfl,X,L,S,h4,by lia,by lia,k⟩)
  .rintro d o ⟨_,R,l,O⟩
   exact q _ D d R U l O
theorem np(T:Txt K mg a):FnOk P w K mg base CX0 6 a.f_y a.d_y ["many","tell"] (spMBy K):=by
 have F:FnOk P w K mg base CX0 5 _ _ _ (spMRow K):=tN T;refine T.F_y.ok kD (λU H Q E h=>?_) (λcdv A outer s H U Q E hr h=>?_)
 .obtain⟨n,e,v,rfl,_⟩:=h;rfl
 .obtain⟨n,e,v,rfl,hn,X,q⟩:=h
  have I:sizeLine=16777216:=sizeLine_eq;refine⟨_,(aj (aw (bT rfl (N:=["one","many","tell"]) (ix:=[none,some 0,some 1]) ⟨rfl,rfl,rfl,rfl,⟨rfl,rfl,rfl,⟨rfl,rfl,rfl,trivial⟩⟩⟩ (dM rfl T.z_range (aa (vr 0) ae)) ⟨λC s H S=>av (i:=0) (show List.Nodup (["one","many","tell"]:List Str) by decide +kernel) rfl (Or.inl rfl),λC s H S=>cj,λC s H S=>(aq F hr rfl T.m_L T.F_L.kp T.B_L .nil au (aa (vr 0) (aa (vr 1) (aa (vr 2) ae))))⟩))),?_⟩;refine⟨(n:Int),rfl,by lia,by lia,λD B=>?_⟩
  let Pw2:PvL:=λj d l=>j<=n/\Same H l/\l D=some (.lst d)/\MatAt K D l ((List.range j).map (oe n e)) d/\d.Nodup/\∀ q,V.ref q∈d->H q=none
  refine gD (lo:=0) (n:=n) Pw2 ⟨Nat.zero_le _,Same.new B,ad,.nil,nodup_nil,λq u=>by cases u⟩ (λj d l h=>h.2.2.1) ?_ ?_
  .rintro j d l P' R ⟨_,m,f,o,g,b⟩ hP
   have Y:d.length=j:=by rw[<- o.len,length_map,length_range]
   refine⟨⟨rfl,rfl,trivial⟩,n,j,e,v,?_,hn,R,X.t m,λH2 r G J c L W=>?_⟩
   .show [V.int (0+(j:Int)),V.int (n:Int),v]=_
    rw[Int.zero_add]
   have k:=J _ _ f;have M:r≠D:=λz=>by rw[z,f]at c;cases c
   refine⟨k,by lia,hP _ _ ⟨R,(m.trans J).put B,ad,?_,?_,λq u=>?_⟩⟩
   .rw[range_succ,map_append]
    exact MatAt.snoc ⟨r,G,rfl,M,by rw[ai M];exact L,W.tk (TK.lst k)⟩ (MatAt.put k (MatAt.same J.t o))
   .rw[nodup_append]
    refine⟨g,by simp,λx hx y O z=>?_⟩;rw[mem_singleton]at O;subst O;subst z;obtain⟨i,Z⟩:=List.getElem?_of_mem hx;obtain⟨_,_,q1,_,e,_,h3,_⟩:=o.get Z;cases e;rw[h3]at c;cases c
   .rcases mem_append.mp u with z | z
    .exact b q z
    .cases mem_singleton.mp z
     exact m.free c
  .rintro d l ⟨_,m,f,o,g,b⟩
   exact q _ D d m B f o g b
theorem tT(T:Txt K mg a)(N:Bm mg base):FnOk P w K mg base CX0 7 a.x_a a.y_a ["self","crowd"] (spSMat K a):=by
 have n:FnOk P w K mg base CX0 6 _ _ _ (spMBy K):=np T;refine T.F_a.okL T.lcd_a sc_a (by decide +kernel) (λC H Q E h=>?_) (λA outer s H C Q E hr h=>?_)
 .obtain⟨v,m,l,B,rfl,_⟩:=h;rfl
 .obtain⟨v,m,l,B,rfl,⟨x,J,rfl,U⟩,M,I,X,Z,F,q⟩:=h
  refine⟨_,(dj (aA (i:=2) sc_a.nd rfl (Or.inr rfl) (df (vr 0) rfl)) (kZ sc_a.nd (by decide +kernel) n hr rfl T.m_y T.F_y.kp T.B_y .nil (aa (ar ay rfl T.z_len bf (aa (vr 1) ae)) (aa (fh (d:=bZ) rfl T.lch_a N rfl (by with_unfolding_all rfl) rfl (iu a) (.head _) T.tnd im) ae)))),?_⟩;refine⟨x,_,J,_,_,rfl,U,T.cl_d,T.na_Start_step,rfl,?_⟩;refine⟨_,.inl (SqL.of X),?_⟩;refine⟨F,λf c H1 O k S L ec=>?_⟩;intro H3 g R;have Y:=R 2 _ _ _ rfl rfl (by with_unfolding_all rfl);have b:=O.trans g.t;refine⟨B.length,eS m,.ref f,rfl,Z,.inr (.inl ⟨m,⟨f,c,_,rfl,g _ _ L,g _ _ ec,rfl,by simp,.cons Y .nil⟩,M,I,rfl⟩),λH' r D y o j W u e=>?_⟩;exact q _ r D (b.trans y.t) ((k.same g).same y) (b.free o) j W u λq G=>b.free (e q G)
theorem vN(T:Txt K mg a)(hB:Bm mg base):FnOk P w K mg base CX0 7 a.x_b a.y_b ["self","crowd"] (spLMx K a):=by
 have B:FnOk P w K mg base CX0 6 _ _ _ (spMBy K):=np T;have F:FnOk P w K mg base CX0 6 _ _ _ _:=(nJ T).mono (by decide);refine T.F_b.okL T.lcd_b sc_b (by decide +kernel) (λR H Q E h=>?_) (λA outer s H R Q E hr h=>?_)
 .obtain⟨v,m,l,N,b,rfl,_⟩:=h;rfl
 .obtain⟨v,m,l,N,b,rfl,⟨x,Y,rfl,hx⟩,m2,hl,U,G,W,q⟩:=h
  have k:b.length<=24:=by have:=G.len;unfold szs at this;rw[length_map]at this;exact this
  have I:(due (szs b) (m:Nat)).length=b.length:=by rw[dg];unfold szs;rw[length_map]
  refine⟨_,(dj (aA (i:=2) sc_b.nd rfl (Or.inr rfl) (aq F hr rfl T.m_w T.F_w.kp T.B_w .nil au (aa (vr 1) (aa (df (vr 0) rfl) ae)))) (kZ sc_b.nd (by decide +kernel) B hr rfl T.m_y T.F_y.kp T.B_y .nil (aa (ar ay rfl T.z_len bf (aa (vr 2) ae)) (aa (fh (d:=bY) rfl T.lch_b hB rfl (by with_unfolding_all rfl) rfl (iq a) (.head _) T.tnd ie) ae)))),?_⟩;refine⟨x,_,Y,_,_,rfl,hx,T.cl_e,T.na_Loose_many,rfl,?_⟩;refine⟨l,N,b,(m:Nat),rfl,hl,U,G,by lia,by lia,λH2 w' o O ab L M=>?_⟩;have yl:o.length=b.length:=by rw[<- M.len,I]
  refine⟨_,.inl (SqL.of L),?_⟩;refine⟨W.same O,λf c H1 t1 y ah Z ec=>?_⟩;intro H3 n hc;have cS:=hc 2 _ _ _ rfl rfl (by with_unfolding_all rfl);have e:=t1.trans n.t;have g:=O.t.trans e;refine⟨b.length,eL (due (szs b) (m:Nat)),.ref f,?_,k,.inr (.inr ⟨w',o,_,⟨f,c,_,rfl,n _ _ Z,n _ _ ec,rfl,by simp,.cons cS .nil⟩,e.at L,M.tk (SameT.tk e),I,oF G,rfl⟩),λH' r S J C u hM D j=>?_⟩
  .show [V.int (o.length:Int),V.ref f]=_
   rw[yl]
  exact q _ r S (g.trans J.t) ((y.same n).same J) (g.free C) u hM D λq X=>g.free (j q X)
theorem p9(T:Txt K mg a)(O:Bm mg base):FnOk P w K mg base CX0 7 a.x_f a.y_f ["self","crowd"] (spMatrix K a):=by
 have u:FnOk P w K mg base CX0 6 _ _ _ (spMBy K):=np T;refine T.F_f.okL T.lcd_f sc_f (by decide +kernel) (λF H Q E h=>?_) (λA outer s H F Q E hr h=>?_)
 .obtain⟨v,m,l,b,rfl,_⟩:=h;rfl
 .obtain⟨v,m,l,b,rfl,⟨x,M,rfl,W⟩,Y,Z,J,q⟩:=h
  refine⟨_,(dj (aA (i:=2) sc_f.nd rfl (Or.inr rfl) (ar ay rfl T.z_len bf (aa (vr 1) ae))) (dj (aA (i:=3) sc_f.nd rfl (Or.inr rfl) (ar (gM rfl) rfl T.z_min ku (aa (df (vr 0) rfl) (aa (vr 2) ae)))) (kZ sc_f.nd (by decide +kernel) u hr rfl T.m_y T.F_y.kp T.B_y .nil (aa (vr 2) (aa (fh (d:=cn) rfl T.lch_f O rfl (by with_unfolding_all rfl) rfl (jC a) (.head _) T.tnd jv) ae))))),?_⟩;refine⟨_,.inl (SqL.of Y),?_⟩;refine⟨x,_,M,_,_,rfl,W,T.cl_k,T.na_Few_many,rfl,?_⟩;refine⟨_,_,rfl,?_⟩
  have e:(if ((b.length:Int)<(m:Int)) then (b.length:Int) else (m:Int))=((min m b.length:Nat):Int):=by split <;> lia
  rw[e];refine⟨J,λf c H1 S o U N ec=>?_⟩;intro H3 k D;have R:=D 2 _ _ _ rfl rfl (by with_unfolding_all rfl);have I:=D 3 _ _ _ rfl rfl (by with_unfolding_all rfl);have g:=S.trans k.t;refine⟨b.length,gb b.length (min m b.length),.ref f,rfl,Z,.inl ⟨min m b.length,⟨f,c,_,rfl,k _ _ N,k _ _ ec,rfl,nd2 _,.cons I (.cons R .nil)⟩,Nat.min_le_right _ _,rfl⟩,λH' r G C y n X B j=>?_⟩;exact q _ r G (g.trans C.t) ((o.same k).same C) (g.free y) n X B λq L=>g.free (j q L)
end
open Tb (Tr fT lT sT ba)
inductive spLMat(K:Frag)(vs:List V)(H:Hp)(Q:VK)(_E:XK):Prop
 | mk(r d:Addr)(xs ys:List V)(fss:List (List (Int×Int)))(h0:vs=[.ref r,.ref d])(h1:H r=some (.lst xs))(h2:H d=some (.lst ys))(h3:MatAt K r H fss xs)(h4:MatAt K d H fss ys)(h5:∀ H',Same H H'->Q (.bl true) H'):spLMat K vs H Q _E
structure Pt(ms:List Mb):Prop where
 sz:Szs (szs ms)
 few:ms.length<=6
 up:(plc ms).Pairwise (· < ·)
 lt:∀ x∈plc ms,0<=x/\x<24
def rg24:List Int:=(List.range 24).map λ(i:Nat)=>(i:Int)
theorem tH:rg24.Nodup:=List.pairwise_map.mpr (List.nodup_range.imp λ{a b} n e=>n (by lia))
theorem uX{x:Int}(h:x∈rg24):0<=x/\x<24:=by
 obtain⟨k,a,rfl⟩:=mem_map.mp h;have:=mem_range.mp a;show 0<=(k:Int)/\(k:Int)<24;lia
theorem qP{c b:List Int}{k:Nat}{n:Int}(h:(c++b).Perm rg24)(e:b[k]? = some n):((c++[n])++b.eraseIdx k).Perm rg24:=by
 refine List.Perm.trans ?_ h;rw[append_assoc];refine List.Perm.append_left c ?_;obtain⟨f,rfl⟩:=List.getElem?_eq_some_iff.mp e;rw[List.eraseIdx_eq_take_drop_succ];have d:b=b.take k++b[k]::b.drop (k+1):=by rw[<- List.drop_eq_getElem_cons f,List.take_append_drop]
 refine List.Perm.trans ?_ (List.Perm.of_eq d.symm);rw[List.singleton_append];exact(perm_middle (a:=b[k])).symm
theorem jR{a b:Type}(f:a->b):∀(l:List a) (k:Nat),(l.map f).eraseIdx k=(l.eraseIdx k).map f
 | [],_=>rfl
 | _::_,0=>rfl
 | x::l,k+1=>by rw[map_cons,List.eraseIdx_cons_succ,List.eraseIdx_cons_succ,map_cons,jR f l k]
theorem vA{l:List Int}(c:l.Nodup)(d:l.Pairwise (·<=·)):l.Pairwise (· < ·):=(d.and c).imp λ{a b} ⟨x,y⟩=>by lia
theorem nA(ps:List Int):(List.range ps.length).map (λ(k:Nat)=>ps.getD k 0)=ps:=by
 refine List.ext_getElem (by simp) λi b a=>?_
 simp[List.getD,a]
inductive spCrowd(K:Frag)(vs:List V)(H:Hp)(Q:VK)(_E:XK):Prop
 | mk(p:Addr)(ns:List Int)(h0:vs=[.ref p,.int 0,.int 6])(h1:SqL K H p (ns.map V.int))(h2:ns.length<=63)(h3:∀ H' r ms xs,Same H H'->H r=none->H' r=some (.lst xs)->CrAt H' ms xs->Pt ms->Q (.ref r) H'):spCrowd K vs H Q _E
section
variable {P:Program}{w:World}{K:Frag}{mg:Str->Option Value}{base:Heap}{a:Ad}
theorem uO(T:Txt K mg a):FnOk P w K mg base CX0 3 a.f_J a.d_J ["_law_found","_law_due"] (spLMat K):=by
 have R:FnOk P w K mg base CX0 2 _ _ _ (spFraction K):=lL T;refine T.F_J.ok sc_J (λvs H Q E h=>?_) (λcdv A outer s H vs Q E hr h=>?_)
 .obtain⟨r,d,xs,ys,S,rfl,_⟩:=h;rfl
 .obtain⟨r,d,xs,ys,S,rfl,I,n,Z,fy,q⟩:=h
  refine⟨_,(ak (cD (PW.pt (g7 (dS (eJ (ar eE rfl T.z_isinstance bJ (aa (vr 0) (aa (dX (v:=.ty "list") rfl T.z_list eN rfl) ae))))) (gR (cg sB (ar ay rfl T.z_len bf (aa (vr 0) ae)) (ar ay rfl T.z_len bf (aa (vr 1) ae)) (be _))))) (aj (aw eK)) aZ) (ak (dF PassesOwn.never rfl (qM rfl T.z_zip (aa (vr 0) (aa (vr 1) ae))) (fk rfl (az (av (i:=2) sc_J.nd rfl (Or.inl rfl)) (az (av (i:=3) sc_J.nd rfl (Or.inl rfl)) cm))) (ak (cD (PW.pt (g7 (dS (eJ (ar eE rfl T.z_isinstance bJ (aa (vr 2) (aa (dX (v:=.ty "list") rfl T.z_list eN rfl) ae))))) (gR (cg sB (ar ay rfl T.z_len bf (aa (vr 2) ae)) (ar ay rfl T.z_len bf (aa (vr 3) ae)) (be _))))) (aj (aw eK)) aZ) (aj (dF PassesOwn.never rfl (qM rfl T.z_zip (aa (vr 2) (aa (vr 3) ae))) (fk rfl (az (av (i:=4) sc_J.nd rfl (Or.inl rfl)) (az (av (i:=5) sc_J.nd rfl (Or.inl rfl)) cm))) (aj (cD (dS (eJ (aq R hr rfl T.m_N T.F_N.kp T.B_N .nil au (aa (vr 4) (aa (vr 5) ae))))) (aj (aw eK)) aZ)))))) (aj (aw eK)))),jM ?_⟩;intro ab ah;have e1:=Z.len;have X:=fy.len;refine⟨_,_,_,true,rfl,rfl,.lst I,rfl,?_⟩;refine⟨_,.inl (SqL.of I),⟨_,.inl (SqL.of n),?_⟩⟩;refine ot (by rw[<- e1,<- X]) ?_
  let Pw1:PvS:=λi f c=>Same H c/\∃(L N B j:Option V),f=[some (.ref r),some (.ref d),L,N,B,j]
  refine⟨r,d,xs,ys,rfl,I,n,pv (a:=r) (b:=d) (xs:=xs) (ys:=ys) (by rw[<- e1,<- X]) Pw1 ⟨Same.refl H,none,none,none,none,rfl⟩ (λi f c h=>⟨h.1 _ _ I,h.1 _ _ n⟩) ?_ ?_⟩
  .rintro i x y f c p m k ⟨o,L,N,B,j,rfl⟩ O
   have g:Same H (upd c p (.tup [x,y])):=o.trans (Same.new O);obtain⟨fs,l,F,zs,rfl,_,g1,W⟩:=Z.get m;obtain⟨al,e,G,C,rfl,_,U,D⟩:=fy.get k;rw[l]at e;cases e;refine⟨p,_,rfl,SqT.of ad,rfl,_,_,rfl,_,_,rfl,rfl,?_⟩;generalize upd c p (.tup [.ref F,.ref G])=H2 at g;have M:=g _ _ g1;have Y:=g _ _ U;have l1:=W.len;have l2:=D.len;refine⟨_,_,_,true,rfl,rfl,.lst M,rfl,?_⟩;refine⟨_,.inl (SqL.of M),⟨_,.inl (SqL.of Y),?_⟩⟩;refine ot (by rw[<- l1,<- l2]) ?_
   let Pw2:PvS:=λi f c=>Same H c/\∃(B j:Option V),f=[some (.ref r),some (.ref d),some (.ref F),some (.ref G),B,j]
   refine⟨F,G,zs,C,rfl,M,Y,pv (a:=F) (b:=G) (xs:=zs) (ys:=C) (by rw[<- l1,<- l2]) Pw2 ⟨g,_,_,rfl⟩ (λi f c h=>⟨h.1 _ _ g1,h.1 _ _ U⟩) ?_ ?_⟩
   .rintro i x y f c p m k ⟨o,B,j,rfl⟩ O
    have g:Same H (upd c p (.tup [x,y])):=o.trans (Same.new O);obtain⟨u,l,hU⟩:=W.get m;obtain⟨u',e,J⟩:=D.get k;rw[l]at e;cases e;obtain⟨a1,rfl,h1⟩:=hU.same g;obtain⟨a2,rfl,h2⟩:=J.same g;refine⟨p,_,rfl,SqT.of ad,rfl,_,_,rfl,_,_,rfl,rfl,?_⟩;exact⟨a1,a2,u.1,u.2,rfl,h1.sq,h2.sq,⟨g,_,_,rfl⟩⟩
   .rintro f c ⟨o,B,j,rfl⟩
    exact⟨o,_,_,_,_,rfl⟩
  .rintro f c ⟨o,L,N,B,j,rfl⟩
   exact q _ o
theorem rV(T:Txt K mg a):FnOk P w K mg base CX0 3 a.f_K a.d_K ["_law_script","_law_start","_law_most"] (spCrowd K):=by
 have X:FnOk P w K mg base CX0 2 _ _ _ _:=(oG T).mono (by decide);have b1:FnOk P w K mg base CX0 2 _ _ _ spRow:=wq T;refine T.F_K.ok sc_K (λvs H Q E h=>?_) (λcdv A outer s H vs Q E hr h=>?_)
 .obtain⟨p,d,rfl,_⟩:=h;rfl
 .obtain⟨p,d,rfl,hS,B,q⟩:=h
  have ca:sizeLine=16777216:=sizeLine_eq;refine⟨_,(ak (aA (i:=3) sc_K.nd rfl (Or.inl rfl) (ax dI (aq X hr rfl T.m_C T.F_C.kp T.B_C .nil au (aa (vr 0) (aa (vr 1) ae))) (ax dZ (vr 2) ao))) (ak (aA (i:=4) sc_K.nd rfl (Or.inl rfl) (aq X hr rfl T.m_C T.F_C.kp T.B_C .nil au (aa (vr 0) (aa (ax dZ (vr 1) ao) ae)))) (ak (aA (i:=5) sc_K.nd rfl (Or.inr rfl) (aq b1 hr rfl T.m_X T.F_X.kp T.B_X .nil au (aa (aq X hr rfl T.m_C T.F_C.kp T.B_C .nil au (aa (vr 0) (aa (ax dZ (vr 1) ao) ae))) (aa (vr 4) (aa (vr 3) (aa (bA aY (cH (aa ao (aa ao (aa ao ae)))) (ax dI (ax dc (vr 4) ao) ao) (λ_ _=>rfl)) ae)))))) (ak (aA (i:=6) sc_K.nd rfl (Or.inl rfl) (cf (mF rfl) rfl T.z_list eN (aa (cf kd rfl T.z_range mn (aa ao ae)) ae))) (ak (aA (i:=7) sc_K.nd rfl (Or.inr rfl) (cH ae)) (ak (dF PassesOwn.never rfl (bO (aq b1 hr rfl T.m_X T.F_X.kp T.B_X .nil au (aa (aq X hr rfl T.m_C T.F_C.kp T.B_C .nil au (aa (vr 0) (aa (ax dZ (vr 1) ao) ae))) (aa (ax dc (vr 4) ao) (aa (vr 3) (aa ao ae)))))) (av (i:=8) sc_K.nd rfl (Or.inl rfl)) (aj (dJ (pe_m.append (vr 7) (aa (pe_m.popAt (vr 6) (aa (ax dI (vr 8) (ar ay rfl T.z_len bf (aa (vr 6) ae))) ae)) ae))))) (ak (aA (i:=7) sc_K.nd rfl (Or.inr rfl) (ar gC rfl T.z_sorted gS (aa (vr 7) ae))) (ak (aA (i:=9) sc_K.nd rfl (Or.inr rfl) (cf eB rfl T.z_tuple fm (aa (gk lq (cH (aa nN (aa nN (aa nN ae)))) iy (fG (ax dI (ax dc (vr 4) ao) ao))) ae))) (aj (aw (bT rfl (N:=["_law_k","_law_path","_law_places","_law_sizes"]) (ix:=[none,some 9,some 7,some 5]) ⟨rfl,rfl,rfl,rfl,⟨rfl,rfl,rfl,⟨rfl,rfl,rfl,⟨rfl,rfl,rfl,trivial⟩⟩⟩⟩ (dM rfl T.z_range (aa (vr 3) ae)) ⟨λC s H fp=>av (i:=0) (show List.Nodup (["_law_k","_law_path","_law_places","_law_sizes"]:List Str) by decide +kernel) rfl (Or.inl rfl),λC s H fp=>cj,λC s H fp=>(bP (aa (bA (eP (K:=K) rfl) (vr 2) (vr 0) (λ_ _=>rfl)) (aa (ax dZ ao (bA (eP (K:=K) rfl) (vr 3) (vr 0) (λ_ _=>rfl))) (aa (vr 1) ae))))⟩))))))))))),xn ?_⟩;intro c3 c7 c0 dd c6 c' c1 c5;refine⟨p,d,0,rfl,hS,B,by decide,by decide,cp,?_⟩
  have n0:0<=(bX d 0 % 7):=by lia
  have n1:(bX d 0 % 7)<=6:=by lia
  refine⟨p,d,1,rfl,hS,B,by decide,by decide,?_⟩;refine⟨p,d,2,rfl,hS,B,by decide,by decide,(by decide:3<=sizeLine),λp1 ct=>⟨cdB (by decide) (show Bt 2 2 by unfold Bt;decide),cp,?_⟩⟩;have s1:=Same.new (o:=.lst [.int 9,.int 1000,.int 24000000]) ct
  obtain⟨m,hm,m0,m1⟩:∃ m:Int,atI [V.int 9,V.int 1000,V.int 24000000] ((bX d 1)/2 % 3)=some (.int m)/\1<=m/\m<=24000000:=by
   have h3:(bX d 1)/2 % 3=((0:Nat):Int)\/(bX d 1)/2 % 3=((1:Nat):Int)\/(bX d 1)/2 % 3=((2:Nat):Int):=by lia
   rcases h3 with e | e | e <;> rw[e]
   .exact⟨9,dY rfl,by decide,by decide⟩
   .exact⟨1000,dY rfl,by decide,by decide⟩
   .exact⟨24000000,dY rfl,by decide,by decide⟩
  refine .inl ⟨p1,_,_,.int m,rfl,rfl,SqL.of ad,hm,⟨_,_,_,_,rfl,n0,by lia,m0,by lia,λF ls b s2 _ cb b5 b'=>?_⟩⟩;have cP:=s1.trans s2;refine⟨24,rfl,λpr cT=>?_⟩;have s3:Same F (upd F pr (.rng 0 24)):=Same.new cT;refine⟨pr,rfl,ad,λL W=>?_⟩;have U:=cP.trans s3;have l:=s3 _ _ cb;generalize upd F pr (.rng 0 24)=H3 at s3 W U l;have bo:H L=none:=U.free W;have s4:=Same.new (o:=.lst ((List.range 24).map λ(i:Nat)=>V.int (i:Int))) W;have S:(upd H3 L (.lst ((List.range 24).map λ(i:Nat)=>V.int (i:Int)))) L=some (.lst ((List.range 24).map λ(i:Nat)=>V.int (i:Int))):=ad;generalize upd H3 L (.lst ((List.range 24).map λ(i:Nat)=>V.int (i:Int)))=H4 at s4 S;refine⟨Nat.zero_le _,λr M=>?_⟩;have s5:=Same.new (o:=.lst []) M;have a0:=(U.trans s4).trans s5;have a9:r≠L:=λz=>by rw[z,S]at M;cases M
  have cS:H r=none:=(U.trans s4).free M;have b0:ls≠L:=ap l W;have a7:ls≠r:=ap (s4 _ _ l) M;have a2:(upd H4 r (.lst [])) r=some (.lst []):=ad;have I:=s5 _ _ S;have an:=(s4.trans s5) _ _ l;generalize upd H4 r (.lst [])=H5 at s5 a0 a2 I an;refine⟨p,d,3,rfl,a0.seq hS,B,by decide,by decide,cdB (by decide) (show Bt 3 6 by unfold Bt;decide),?_⟩;refine⟨_,_,_,_,rfl,n0,by lia,by decide,by decide,λH6 lp f s6 v a8 co c2=>?_⟩
  obtain⟨many,hmany⟩:∃ x:Int,x=bX d 0 % 7:=⟨_,rfl⟩
  have n0:0<=many:=by lia
  have n1:many<=6:=by lia
  have b5:(b.length:Int)=many:=by lia
  have co:(f.length:Int)=many:=by lia
  have b3:=a0.trans s6;have bl:lp≠L:=λz=>by rw[z,I]at v;cases v
  have bq:lp≠r:=λz=>by rw[z,a2]at v;cases v
  let Pw3:PvS:=λi σ O=>∃(c:List V) (G:List Int) (x8:Option V),σ=[some (.ref p),some (.int 0),some (.int 6),some (.int many),some (.int (bX d 1)),some (.ref ls),some (.ref L),some (.ref r),x8,none]/\Same H O/\O lp=some (.lst (f.map V.int))/\O ls=some (.lst (b.map V.int))/\O L=some (.lst c)/\c.length=24 - i/\(∀ y∈c,∃ n:Int,y=.int n)/\O r=some (.lst (G.map V.int))/\G.length=i/\∃ yn:List Int,c=yn.map V.int/\(G++yn).Perm rg24
  refine .inl ⟨⟨_,SqL.of a8⟩,dQ (K:=K) (a:=lp) (xs:=f.map V.int) Pw3
   ⟨_,[],none,by rw[hmany];rfl,b3,a8,s6 _ _ an,s6 _ _ I,by rw[length_map,length_range],(λy hy=>by obtain⟨j,_,e⟩:=mem_map.mp hy;exact⟨_,e.symm⟩),s6 _ _ a2,rfl,rg24,by unfold rg24;rw[map_map];rfl,.refl _⟩ (λi σ O _ h=>by obtain⟨_,_,_,_,_,z,_⟩:=h;exact SqL.of z) ?_ ?_⟩
  .rintro i x σ O hx ⟨c,G,x8,rfl,sH,al,J,u,a3,R,Y,a1,yn,a5,Z⟩
   have hi:i<f.length:=by have:=(List.getElem?_eq_some_iff.mp hx).1;rw[length_map]at this;exact this
   rw[List.getElem?_map,List.getElem?_eq_getElem hi]at hx;cases hx;have cW:i<24:=by lia
   refine⟨.inl ⟨rfl,_,SqL.of Y⟩,.inl ⟨rfl,_,SqL.of u⟩,c,.inl (SqL.of u),cp (by lia),?_⟩
   obtain⟨ix,hix⟩:∃ x:Int,x=f[i] % (c.length:Int):=⟨_,rfl⟩
   have i0:0<=ix:=by rw[hix];exact Int.emod_nonneg _ (by lia)
   have i1:ix<c.length:=by rw[hix];exact Int.emod_lt_of_pos _ (by lia)
   have hk:ix.toNat<c.length:=by lia
   have hN:ixN c.length ix=some ix.toNat:=by
    unfold ixN;rw[if_pos i0,if_pos i1]
   obtain⟨n,hn⟩:=R c[ix.toNat] (getElem_mem hk);refine⟨L,c,ix,ix.toNat,c[ix.toNat],rfl,by rw[hix],u,by lia,by lia,(pd hN).1,List.getElem?_eq_getElem hk,?_⟩;rw[hn];have ck:(upd O L (.lst (c.eraseIdx ix.toNat))) r=some (.lst (G.map V.int)):=by rw[ai a9];exact Y
   refine⟨r,_,_,rfl,rfl,ck,by rw[length_map];lia,?_⟩
   have cA:yn[ix.toNat]? = some n:=by
    have h9:c[ix.toNat]? = some (.int n):=by rw[List.getElem?_eq_getElem hk,hn]
    rw[a5,List.getElem?_map]at h9;obtain⟨n',e1,e2⟩:=Option.map_eq_some_iff.mp h9;injection e2 with e2
    rw[e1,e2]
   refine⟨c.eraseIdx ix.toNat,G++[n],_,rfl,(sH.put bo).put cS,?_,?_,?_,?_,λy hy=>R y (List.mem_of_mem_eraseIdx hy),?_,?_,yn.eraseIdx ix.toNat,by rw[a5];exact jR _ _ _,qP Z cA⟩
   .rw[ai bq,ai bl];exact al
   .rw[ai a7,ai b0];exact J
   .rw[ai a9.symm];exact ad
   .rw[List.length_eraseIdx_of_lt hk,a3];lia
   .rw[ad,map_append];rfl
   .rw[length_append,a1];rfl
  .rintro σ O ⟨c,G,x8,rfl,sH,al,J,u,a3,R,Y,a1,yn,a5,Z⟩
   rw[length_map]at a1;have c4:(G.length:Int)=many:=by lia
   refine⟨r,G,rfl,SqL.of Y,by lia,λq1 g hp hs f1=>?_⟩;have t1:=Same.new (o:=.lst (g.map V.int)) f1;have c9:g.length=G.length:=hp.length_eq;refine⟨(show 3<=sizeLine by decide),λq2 f2=>?_⟩;have t2:=t1.trans (Same.new (o:=.lst [.str "ab",.str "abc",.str "b"]) f2);refine⟨cdB (by decide) (show Bt 4 12 by unfold Bt;decide),cp,_,rfl,.inl ⟨_,SqL.of ad,λq3 f3=>?_⟩⟩
   obtain⟨kk,hkk,hk4⟩:∃ kk:Nat,bX d 1/12 % 4=(kk:Int)/\kk<4:=⟨(bX d 1/12 % 4).toNat,by lia,by lia⟩
   obtain⟨pa,hpa⟩:∃ pa:List Str,pa=(["ab","abc","b"]:List Str).take kk:=⟨_,rfl⟩
   have bm:dN [V.str "ab",V.str "abc",V.str "b"] none (some (bX d 1/12 % 4))=pa.map V.str:=by
    rw[hkk,hpa,map_take]
    match kk,hk4 with
    | 0,_=>rfl
    | 1,_=>rfl
    | 2,_=>rfl
    | 3,_=>rfl
   have t3:=t2.trans (Same.new (o:=.lst (dN [V.str "ab",V.str "abc",V.str "b"] none (some (bX d 1/12 % 4)))) f3);refine⟨q3,_,rfl,.inl ⟨SqL.of ad,λpt b2=>?_⟩⟩;have n4:=Same.new (o:=.tup (dN [V.str "ab",V.str "abc",V.str "b"] none (some (bX d 1/12 % 4)))) b2;have t4:=t3.trans n4;have bd:=((Same.new (o:=.lst [.str "ab",.str "abc",.str "b"]) f2).trans ((Same.new (o:=.lst (dN [V.str "ab",V.str "abc",V.str "b"] none (some (bX d 1/12 % 4)))) f3).trans n4)) _ _ (ad (a:=q1) (o:=.lst (g.map V.int)));have a':∀ H7:Hp,Same (upd (upd (upd (upd O q1 (.lst (g.map V.int))) q2 (.lst [.str "ab",.str "abc",.str "b"])) q3 (.lst (dN [V.str "ab",V.str "abc",V.str "b"] none (some (bX d 1/12 % 4))))) pt (.tup (dN [V.str "ab",V.str "abc",V.str "b"] none (some (bX d 1/12 % 4))))) H7->H7 pt=some (.tup (pa.map V.str)):=λH7 s7=>by rw[<- bm];exact s7 _ _ ad
   have ah:=t4 _ _ J;have ab:=a' _ (Same.refl _);clear a';refine⟨many,rfl,by lia,by lia,?_⟩;generalize upd (upd (upd (upd O q1 (.lst (g.map V.int))) q2 (.lst [.str "ab",.str "abc",.str "b"])) q3 (.lst (dN [V.str "ab",V.str "abc",V.str "b"] none (some (bX d 1/12 % 4))))) pt (.tup (dN [V.str "ab",V.str "abc",V.str "b"] none (some (bX d 1/12 % 4))))=H7 at t4 bd ab ah n4;intro D hD;have c8:(many.toNat:Int)=many:=by lia
   let Pw4:PvL:=λj c F=>j<=many.toNat/\Same H7 F/\F D=some (.lst c)/\CrAt F ((List.range j).map λ(k:Nat)=>((g.getD k 0,1+b.getD k 0,pa):Mb)) c
   refine gD (lo:=0) (n:=many.toNat) Pw4 ⟨Nat.zero_le _,Same.new hD,ad,.nil⟩ (λj c F h=>h.2.2.1) ?_ ?_
   .rintro j c F P' hj ⟨_,u1,a6,hC⟩ hP
    have a3:c.length=j:=by rw[<- hC.len,length_map,length_range]
    have b4:j<g.length:=by lia
    have b6:j<b.length:=by lia
    refine⟨⟨rfl,rfl,rfl,trivial⟩,.inl ⟨q1,_,_,.int (g.getD j 0),rfl,rfl,SqL.of (u1 _ _ bd),de j (by lia) (by simp[List.getElem?_map,List.getD,b4]),.inl ⟨ls,_,_,.int (b.getD j 0),rfl,rfl,SqL.of (u1 _ _ ah),de j (by lia) (by simp[List.getElem?_map,List.getD,b6]),?_⟩⟩⟩;refine⟨(show 3<=sizeLine by decide),λq4 f4=>?_⟩;have n5:=Same.new (o:=.tup [.int (g.getD j 0),.int (1+b.getD j 0),.ref pt]) f4;have a4:=n5 _ _ a6;refine⟨a4,by lia,hP _ _ ⟨hj,(u1.trans n5).put hD,ad,?_⟩⟩;have k5:TK F (upd (upd F q4 (.tup [.int (g.getD j 0),.int (1+b.getD j 0),.ref pt])) D (.lst (c++[.ref q4]))):=n5.tk.trans (TK.lst a4);rw[range_succ,map_append];exact dy ⟨q4,pt,rfl,TK.lst a4 _ _ ad,k5 _ _ (u1 _ _ ab)⟩ (hC.tk k5)
   .rintro c F ⟨_,u1,a6,hC⟩
    refine q _ D _ c (sH.trans (t4.trans u1)) ((sH.trans t4).free hD) a6 hC ?_
    have cR:G.Nodup:=((Z.nodup_iff.mpr tH).sublist (List.sublist_append_left G yn))
    have cs:g.Nodup:=hp.nodup_iff.mpr cR
    have as:plc ((List.range many.toNat).map λ(k:Nat)=>((g.getD k 0,1+b.getD k 0,pa):Mb))=g:=by
     unfold plc;rw[map_map,show many.toNat=g.length by lia];exact nA g
    refine⟨?_,by rw[length_map,length_range];lia,by rw[as];exact vA cs hs,λx hx=>?_⟩
    rotate_left
    .rw[as]at hx
     exact uX (Z.mem_iff.mp (mem_append_left yn (hp.mem_iff.mp hx)))
    unfold szs;rw[map_map];have ch:((List.range many.toNat).map ((λx:Mb=>x.2.1) ∘ λ(k:Nat)=>((g.getD k 0,1+b.getD k 0,pa):Mb))).length<=24:=by rw[length_map,length_range];lia
    have bw:∀ z∈(List.range many.toNat).map ((λx:Mb=>x.2.1) ∘ λ(k:Nat)=>((g.getD k 0,1+b.getD k 0,pa):Mb)),1<=z/\z<=24000000:=λz hz=>by
     obtain⟨k,hk,rfl⟩:=mem_map.mp hz;have hk:=mem_range.mp hk;have bg:k<b.length:=by lia
     have:=b' (b.getD k 0) (by rw[List.getD,List.getElem?_eq_getElem bg];exact getElem_mem bg);show 1<=1+b.getD k 0/\1+b.getD k 0<=24000000;lia
    exact⟨ch,λz hz=>(bw z hz).1,λz hz=>(bw z hz).2⟩
end
end My
namespace Du
def SW(φ:List Int->Rat)(ws:List (List Int×Rat)):Rat:=(ws.map λw=>w.2*φ w.1).sum
theorem kT{φ:List Int->Rat}{a b:List (List Int×Rat)}:SW φ (a++b)=SW φ a+SW φ b:=by unfold SW;rw[map_append,List.sum_append]
theorem wN{φ:List Int->Rat}{w:List Int×Rat}:SW φ [w]=w.2*φ w.1:=by unfold SW;simp only[map_cons,map_nil,sum_cons,List.sum_nil];grind
def ind(p:Prop)[Decidable p]:Rat:=if p then 1 else 0
def cY(i j:Int):List Int->Rat:=λtk=>ind (i∈tk/\j∈tk)
theorem tS{p:Prop}[Decidable p](h:p):ind p=1:=if_pos h
theorem uv{p:Prop}[Decidable p](h:¬p):ind p=0:=if_neg h
end Du
namespace FrM
def uns(f:Int×Int):Bool:=decide (0<f.1/\f.1<f.2)
def nv(a b:Int):Int:=a/(Int.gcd a b:Int)*b
def duA(c e:Int×Int):Int:=c.1*(nv c.2 e.2/c.2)
def duB(c e:Int×Int):Int:=e.1*(nv c.2 e.2/e.2)
def duL(c e:Int×Int):Bool:=decide (duA c e+duB c e<nv c.2 e.2)
def du2(c e:Int×Int):Int:=if duL c e=true then duB c e else nv c.2 e.2 - duA c e
def duR(c e:Int×Int):Int×Int:=if duL c e=true then dC (duA c e+duB c e) (nv c.2 e.2) else dC (duA c e+duB c e - nv c.2 e.2) (nv c.2 e.2)
def duE(c e:Int×Int):Int×Int:=if duL c e=true then (0,1) else (1,1)
def par(b:Bool)(c e:Int×Int):(Int×Int)×(Int×Int):=if b=duL c e then (duR c e,duE c e) else (duE c e,duR c e)
end FrM
namespace Du
abbrev Rws:=List (List Int×Rat)
def eZ(k:List Int)(m:Rat):Rws->Rws
 | []=>[(k,m)]
 | x::r=>if x.1=k then (k,x.2+m)::r else x::eZ k m r
def fN:Rws->List Int->Rat
 | [],_=>0
 | x::r,k=>if x.1=k then x.2 else fN r k
def NdR(st:Rws):Prop:=(st.map (·.1)).Nodup
theorem dh{φ:List Int->Rat}{x:List Int×Rat}{st:Rws}:SW φ (x::st)=x.2*φ x.1+SW φ st:=by unfold SW;rw[map_cons,sum_cons]
theorem ff{φ:List Int->Rat}:SW φ []=0:=rfl
theorem og{φ:List Int->Rat}(k:List Int)(m:Rat):∀ st:Rws,SW φ (eZ k m st)=SW φ st+m*φ k
 | []=>by rw[eZ,dh,ff];grind
 | x::r=>by
  rw[eZ]
  by_cases c:x.1=k
  .rw[if_pos c,dh,dh,c];grind
  .rw[if_neg c,dh,dh,og k m r];grind
theorem j4(k:List Int)(m:Rat):∀ st:Rws,(eZ k m st).map (·.1)=if k∈st.map (·.1) then st.map (·.1) else st.map (·.1)++[k]
 | []=>by simp[eZ]
 | x::r=>by
  rw[eZ]
  by_cases c:x.1=k
  .rw[if_pos c];simp[c]
  .rw[if_neg c,map_cons,j4 k m r,map_cons]
   have a:¬k=x.1:=λe=>c e.symm
   by_cases d:k∈r.map (·.1)
   .rw[if_pos d,if_pos (mem_cons_of_mem _ d)]
   .rw[if_neg d,if_neg (by simp only[mem_cons,not_or];exact⟨a,d⟩)];rfl
theorem NdR.add{k:List Int}{m:Rat}{st:Rws}(h:NdR st):NdR (eZ k m st):=by
 unfold NdR at *;rw[j4]
 split
 .exact h
 .rename_i n
  exact nodup_append.mpr ⟨h,by simp,λa d b c e=>n (by rw[mem_singleton]at c;rw[<- c,<- e];exact d)⟩
structure Row(D:Nat)(st:Rws)(s:Rat):Prop where
 b:∀ x∈st,Bq D x.2
 nd:NdR st
 one:SW (λ_=>1) st=s
theorem rQ{st:Rws}{φ:List Int->Rat}(h:∀ x∈st,0<=x.2)(a:∀ k,0<=φ k):0<=SW φ st:=by
 induction st with
 | nil=>rw[ff];grind
 | cons x r ih =>
  rw[dh];have:=ih λy b=>h y (mem_cons_of_mem _ b)
  have:=Rat.mul_nonneg (h x (mem_cons_self ..)) (a x.1)
  grind
theorem xp{st:Rws}(h:∀ x∈st,0<=x.2):∀ x∈st,x.2<=SW (λ_=>1) st:=by
 induction st with
 | nil=>intro x a;cases a
 | cons y r ih =>
  intro x a;rw[dh];have b:∀ x∈r,0<=x.2:=λz c=>h z (mem_cons_of_mem _ c)
  rcases mem_cons.mp a with e | e
  .have:=rQ b (φ:=λ_=>1) (λ_=>by show(0:Rat)<=1;grind)
   rw[e];grind
  .have:=ih b x e
   have:=h y (mem_cons_self ..)
   grind
theorem lY{k:List Int}:∀{st:Rws},fN st k=0\/(k,fN st k)∈st
 | []=>.inl rfl
 | x::r=>by
  rw[fN]
  by_cases c:x.1=k
  .rw[if_pos c];exact .inr (by rw[<- c];exact mem_cons_self ..)
  .rw[if_neg c]
   exact(lY (st:=r)).imp id λz=>mem_cons_of_mem _ z
theorem Row.get{D:Nat}{st:Rws}{s:Rat}(R:Row D st s)(k:List Int):Bq D (fN st k)/\fN st k<=s:=by
 rcases lY (k:=k) (st:=st) with e | e
 .rw[e]
  refine⟨Bq.zero,?_⟩;rw[<- R.one];exact rQ (λx a=>(R.b x a).1) λ_=>by show(0:Rat)<=1;grind
 .refine⟨R.b _ e,?_⟩
  rw[<- R.one];exact xp (λx a=>(R.b x a).1) _ e
theorem mx{k:List Int}{m:Rat}:∀{st:Rws}{x:List Int×Rat},x∈eZ k m st->x∈st\/x=(k,fN st k+m)
 | [],x,hx=>by
  rw[eZ]at hx;rw[mem_singleton.mp hx,fN]
  right
  have:(0:Rat)+m=m:=by grind
  rw[this]
 | y::r,x,hx=>by
  rw[eZ]at hx;rw[fN]
  by_cases c:y.1=k
  .rw[if_pos c]at hx ⊢
   rcases mem_cons.mp hx with e | e
   .exact .inr e
   .exact .inl (mem_cons_of_mem _ e)
  .rw[if_neg c]at hx ⊢
   rcases mem_cons.mp hx with e | e
   .rw[e];exact .inl (mem_cons_self ..)
   .exact(mx e).imp (mem_cons_of_mem _) id
theorem Row.add{D:Nat}{st:Rws}{s m:Rat}{k:List Int}(R:Row D st s)(c:Bq D m)(l:s+m<=1):Row D (eZ k m st) (s+m):=by
 refine⟨λx a=>?_,R.nd.add,by rw[og,R.one];grind⟩
 rcases mx a with e | e
 .exact R.b x e
 .rw[e]
  obtain⟨b,d⟩:=R.get k;exact b.add c (by grind)
theorem Row.nil{D:Nat}:Row D [] 0:=⟨(λx a=>by cases a),nodup_nil,rfl⟩
theorem iT{st:Rws}(h:∀ x∈st,0<=x.2){φ:List Int->Rat}(e:∀ k,0<=φ k)(b:∀ k,φ k<=1):∀ i,SW φ (st.take i)<=SW (λ_=>1) st:=by
 induction st with
 | nil=>intro i;rw[List.take_nil,ff,ff];grind
 | cons x r ih =>
  intro i;have a:∀ y∈r,0<=y.2:=λy d=>h y (mem_cons_of_mem _ d)
  have c:=h x (mem_cons_self ..);cases i with
  | zero =>
   rw[take_zero,ff,dh];have:=rQ a (φ:=λ_=>1) (λ_=>by show(0:Rat)<=1;grind)
   grind
  | succ i =>
   rw[List.take_succ_cons,dh,dh];have:=ih a i;have:=Rat.mul_le_mul_of_nonneg_left (b x.1) c
   grind
theorem iF{st:Rws}{φ:List Int->Rat}{i:Nat}{x:List Int×Rat}(h:st[i]? = some x):SW φ (st.take (i+1))=SW φ (st.take i)+x.2*φ x.1:=by
 rw[take_add_one,h,kT];show _+SW φ [x]=_;rw[wN]
theorem vo{D:Nat}{st:Rws}(h:∀ x∈st,Bq D x.2)(l:SW (λ_=>1) st<=1){φ:List Int->Rat}(a:∀ k,φ k=0\/φ k=1):∀ i,Bq D (SW φ (st.take i)):=by
 intro i
 have g:∀ k,0<=φ k:=λk=>by rcases a k with e | e <;> rw[e] <;> grind
 have d:∀ k,φ k<=1:=λk=>by rcases a k with e | e <;> rw[e] <;> grind
 have f:∀ x∈st,0<=x.2:=λx c=>(h x c).1
 induction i with
 | zero=>rw[take_zero,ff];exact Bq.zero
 | succ i ih =>
  cases e:st[i]? with
  | none=>rw[take_add_one,e];simpa using ih
  | some x =>
   have c:=List.mem_of_getElem? e;have b:=iT f g d (i+1);rw[iF e]at b ⊢
   rcases a x.1 with z | z
   .rw[z]at b ⊢
    have:SW φ (st.take i)+x.2*0=SW φ (st.take i):=by grind
    rw[this];exact ih
   .rw[z]at b ⊢
    have j:x.2*1=x.2:=by grind
    rw[j]at b ⊢;exact ih.add (h x c) (by grind)
theorem jV{φ:List Int->Rat}{f:List Int->List Int}(a:∀ k,φ (f k)=φ k):∀(ws st:Rws),SW φ (ws.foldl (λst w=>eZ (f w.1) w.2 st) st)=SW φ st+SW φ ws
 | [],st=>by rw[List.foldl_nil,ff];grind
 | w::ws,st=>by rw[List.foldl_cons,jV a ws,og,dh,a];grind
end Du
namespace Tb
open FrM Du
mutual
def Dz(B:Nat):Nat->Tr->Prop
 | _,.leaf ns=>ns.Nodup/\ns.length<=24
 | 0,.die _=>False
 | d+1,.die ps=>1<=ps.length/\ps.length<=8/\tot ps<=(B:Int)/\Dzs B d ps
def Dzs(B:Nat):Nat->List (Int×Tr)->Prop
 | _,[]=>True
 | d,(m,u)::r=>1<=m/\Dz B d u/\Dzs B d r
end
theorem dz_part{B d:Nat}{ps:List (Int×Tr)}(h:Dzs B d ps):∀{p:Int×Tr},p∈ps->1<=p.1/\Dz B d p.2:=by
 induction ps with
 | nil=>intro p hp;cases hp
 | cons x r ih =>
  intro p hp;obtain⟨m,u⟩:=x;rw[Dzs]at h
  rcases mem_cons.mp hp with rfl | hp
  .exact⟨h.1,h.2.1⟩
  .exact ih h.2.2 hp
theorem tot_mem{B d:Nat}:∀{ps:List (Int×Tr)},Dzs B d ps->(ps.length:Int)<=tot ps/\∀ p∈ps,p.1<=tot ps
 | [],_=>⟨by show(0:Int)<=0;decide,λp hp=>by cases hp⟩
 | (m,u)::r,h=>by
  rw[Dzs]at h;obtain⟨b,a⟩:=tot_mem h.2.2;have e:tot ((m,u)::r)=m+tot r:=by unfold tot;rw[map_cons,sum_cons]
  rw[e,length_cons];refine⟨by lia,λp hp=>?_⟩
  rcases mem_cons.mp hp with rfl | hp
  .show m<=_;lia
  .have:=a p hp;lia
theorem kR_snoc{ps:List (Int×Tr)}{i:Nat}{m:Int}{u:Tr}(q:Rat)(S:Int)(h:ps[i]? = some (m,u)):kR (wfs (ps.take (i+1)) q S)=kR (wfs (ps.take i) q S)++kR (wf u (q*((m:Rat)/(S:Rat)))):=by
 rw[rO q S h,wj]
theorem kR_wf_len(t:Tr)(q:Rat):(kR (wf t q)).length=lv t:=by rw[rY,wf_len]
theorem kR_wfs_len(ps:List (Int×Tr))(q:Rat)(S:Int):(kR (wfs ps q S)).length=lvs ps:=by rw[rY,kO]
end Tb
namespace My
open PySem L2 FrM Du
open Tb (Tr fT lT sT ba)
abbrev IsQ(K:Frag)(H:Hp)(q:Rat)(x:V):Prop:=IsF K H (fr q) x
inductive spAri(op:Rat->Rat->Rat)(c:Rat->Prop)(K:Frag)(vs:List V)(H:Hp)(Q:VK)(_E:XK):Prop
 | mk(x y:V)(p q:Rat)(h0:vs=[x,y])(h1:IsQ K H p x)(h2:IsQ K H q y)(h3:Bb p)(h4:Bb q)(h5:c q)(h6:∀ H' z,Same H H'->IsQ K H' (op p q) z->Q z H'):spAri op c K vs H Q _E
abbrev Lm:Nat:=2 ^ 980
theorem xO{i:Int}(a:0<=i)(b:i<=4000000000):Bt 3000 i:=(show Bt 40 i by unfold Bt;lia).mono (by decide)
def WayS(K:Frag)(H:Hp)(w:List Int×Rat)(x:V):Prop:=∃ p t z,x=.ref p/\H p=some (.tup [.ref t,z])/\H t=some (.tup (w.1.map V.int))/\IsQ K H w.2 z
theorem WayS.tk{K:Frag}{H a:Hp}(k:TK H a)(w:List Int×Rat)(x:V)(h:WayS K H w x):WayS K a w x:=by
 obtain⟨p,t,z,b,e,c,d⟩:=h;exact⟨p,t,z,b,k _ _ e,k _ _ c,d.tk k⟩
inductive spWays(K:Frag)(a:Ad)(n:Nat)(vs:List V)(H:Hp)(Q:VK)(_E:XK):Prop
 | mk(v z:V)(t:Tr)(m:Rat)(B E d:Nat)(Bd:List Addr)(h0:vs=[v,z])(h1:Bad H Bd)(h2:IsNd K a (untrs H Bd) v t)(h3:IsQ K H m z)(h4:Bq E m)(h5:0<E)(h6:E*B ^ d<Lm)(h7:0<B)(h8:B<=1000000000)(h9:Tb.Dz B d t)(h10:d<n)(h11:Tb.lv t<=128)(h12:TabsOk (tabs a) H)(h13:∀ H' l xs,SameT H H'->TabsOk (tabs a) H'->H l=none->H' l=some (.lst xs)->Paired (WayS K H') (Tb.kR (Tb.wf t m)) xs->Q (.ref l) H'):spWays K a n vs H Q _E
theorem rH{H:Hp}{a:List Addr}{b:Addr}{ys:List V}(h:Bad H a)(e:H b=some (.lst ys)):Bad H (b::a):=λc hc=>by
 rcases mem_cons.mp hc with rfl | hc
 .exact⟨ys,e⟩
 .exact h c hc
theorem oU{H:Hp}{a:List Addr}{b:Addr}(f:H b=none):untrs H (b::a)=untrs H a:=by
 funext c
 by_cases hc:c=b
 .subst hc;rw[cC f,cC f]
 by_cases hd:c∈a
 .rw[cQ hd,cQ (mem_cons_of_mem _ hd)]
 .rw[aW hd,aW (λz=>by rcases mem_cons.mp z with z | z;exact hc z;exact hd z)]
theorem uC{H:Hp}{a:List Addr}{b:Addr}{o:HO}:untrs (upd H b o) (b::a)=untrs H (b::a):=by
 funext c
 by_cases hd:c∈b::a
 .rw[cQ hd,cQ hd]
 .rw[aW hd,aW hd,ai (λz=>hd (by rw[z];exact mem_cons_self))]
theorem uI{H:Hp}{a:List Addr}{b:Addr}{ys:List V}(h:Bad H a):Bad (upd H b (.lst ys)) a:=λc f=>by
 by_cases e:c=b
 .subst e;exact⟨ys,ad⟩
 .obtain⟨d,z⟩:=h c f;exact⟨d,by rw[ai e];exact z⟩
section
variable {P:Program}{w:World}{K:Frag}{mg:Str->Option Value}{base:Heap}{a:Ad}
theorem lK(T:Txt K mg a):FnOk P w K mg base CX0 2 a.f_Y a.d_Y ["_law_one","_law_other"] (spAri (· * ·) (λ_=>True) K):=by
 have d:FnOk P w K mg base CX0 1 _ _ _ spLow:=nX T;refine T.F_Y.ok nB (λk H Q E h=>?_) (λcdv A outer s H k Q E hr h=>?_)
 .obtain⟨x,y,p,q,rfl,_⟩:=h;rfl
 .obtain⟨x,y,p,q,rfl,⟨x,rfl,m⟩,⟨y,rfl,o⟩,⟨e,i⟩,⟨g,j⟩,v,l⟩:=h
  have f:=m.sq;have b:=o.sq;have n:(0:Int)<(p.den:Int):=by have:=p.den_pos;lia
  have u:(0:Int)<(q.den:Int):=by have:=q.den_pos;lia
  refine⟨_,(aj (aw (aq d hr rfl T.m_U T.F_U.kp T.B_U .nil au (aa (ax cz (bA aY (vr 0) ao (λ_ _=>rfl)) (bA aY (vr 1) ao (λ_ _=>rfl))) (aa (ax cz (bA aY (vr 0) ao (λ_ _=>rfl)) (bA aY (vr 1) ao (λ_ _=>rfl))) ae))))),?_⟩;refine px0 f (px0 b ⟨cmB e g,px1 f (px1 b ⟨cmB i j,?_⟩)⟩);exact⟨_,_,rfl,Int.mul_pos n u,(e.mul g).mono (by decide),(i.mul j).mono (by decide),λB r s c=>l _ _ s ⟨r,rfl,.inl (by rw[<- tF p q];exact c)⟩⟩
theorem pS(T:Txt K mg a)(hB:Bm mg base)(n:Nat)(cA:FnOk P w K mg base CX0 (n+6) a.f_F a.d_F ["_law_node","_law_much"] (spWays K a n)):FnOk P w K mg base CX0 (n+1+6) a.f_F a.d_F ["_law_node","_law_much"] (spWays K a (n+1)):=by
 have bq:FnOk P w K mg base CX0 (n+6) _ _ _ (spV (.bl true)):=(xK T).mono (by lia);have co:FnOk P w K mg base CX0 (n+6) _ _ _ (spV (.bl false)):=(xU T).mono (by lia);have ch:FnOk P w K mg base CX0 (n+6) _ _ _ (xP a):=(xr T).mono (by lia);have b2:FnOk P w K mg base CX0 (n+6) _ _ _ (spV .non):=(xY T).mono (by lia);have b':FnOk P w K mg base CX0 (n+6) _ _ _ (spV (.int 0)):=(yb T).mono (by lia);have cs:FnOk P w K mg base CX0 (n+6) _ _ _ (ye a):=(xT T).mono (by lia);have bo:FnOk P w K mg base CX0 (n+6) _ _ _ xG:=(xS T).mono (by lia);have bw:FnOk P w K mg base CX0 (n+6) _ _ _ (xJ K a):=(xk T hB).mono (by lia);have bg:FnOk P w K mg base CX0 (n+6) _ _ _ (spAri (· * ·) (λ_=>True) K):=(lK T).mono (by lia);have a8:FnOk P w K mg base CX0 (n+6) _ _ _ spLow:=(nX T).mono (by lia);refine T.F_F.ok sc_F (λvs H Q E h=>?_) (λcdv A outer s H vs Q E hr h=>?_)
 .obtain⟨v,z,t,m,B,E,d,U,rfl,_⟩:=h;rfl
 .obtain⟨v,z,t,m,B,E,d,U,rfl,cR,hn,hm,bm,E0,lm,B0,B1,G,c1,b6,hT,q⟩:=h
  have b4:sizeLine=16777216:=sizeLine_eq;refine⟨_,(ak (cD (eJ (PE.or (dA (vr 0) T.cl_g T.mt_s bq hr T.B_s .nil au) (dA (vr 0) T.cl_j T.mt_v co hr T.B_v .nil au))) (aj (aw (cH (aa (bP (aa (PE.or (dA (vr 0) T.cl_g T.mt_G ch hr T.B_G .nil au) (dA (vr 0) T.cl_j T.mt_O b2 hr T.B_O .nil au)) (aa (vr 1) ae))) ae)))) aZ) (ak (aA (i:=2) sc_F.nd rfl (Or.inl rfl) (cH ae)) (ak (dF PassesOwn.never rfl (bO (PE.or (dA (vr 0) T.cl_g T.mt_B bo hr T.B_B .nil au) (dA (vr 0) T.cl_j T.mt_I bw hr T.B_I .nil au))) (fk rfl (az (av (i:=3) sc_F.nd rfl (Or.inl rfl)) (az (av (i:=4) sc_F.nd rfl (Or.inl rfl)) cm))) (aj (dJ (pe_m.extend (vr 2) (aa (aq cA hr rfl T.m_F T.F_F.kp T.B_F .nil au (aa (vr 4) (aa (aq bg hr rfl T.m_Y T.F_Y.kp T.B_Y .nil au (aa (vr 1) (aa (aq a8 hr rfl T.m_U T.F_U.kp T.B_U .nil au (aa (vr 3) (aa (PE.or (dA (vr 0) T.cl_g T.mt_A b' hr T.B_A .nil au) (dA (vr 0) T.cl_j T.mt_H cs hr T.B_H .nil au)) ae))) ae))) ae))) ae))))) (aj (aw (vr 2)))))),mH ?_⟩;intro c6 cT c0;cases t with
  | leaf ns =>
   obtain⟨x,S,kt,a7,rfl,hx,a9,hs⟩:=tZ hn;have c:=(aC hx).2;have a3:=(aC a9).2;refine .inl ⟨x,S,_,rfl,c,rfl,_,rfl,?_⟩;refine .inl ⟨x,S,_,rfl,c,rfl,x,S,kt,rfl,c,?_⟩;refine⟨cX _ _,λp fp=>?_⟩;have D:=Same.new (o:=.tup [.ref kt,z]) fp;refine⟨by show 1<=sizeLine;decide,λl fl=>?_⟩;have s2:=Same.new (o:=.lst [.ref p]) fl;have J:=D.trans s2;have e:a7=Tb.so ns:=Tb.so_uniq hs.1 hs.2;rw[Tb.wf]at q;exact q _ l _ J.t (hT.same J) (D.free fl) ad (.cons ⟨p,kt,z,rfl,s2 _ _ ad,by show _=some (HO.tup ((Tb.so ns).map V.int));rw[<- e];exact J _ _ a3,hm.same J⟩ .nil)
  | die b =>
   obtain⟨rs,k,a'⟩:=r9 hn;obtain⟨x,S,l0,mk,rfl,ck,_⟩:=id k;have c:=(aC ck).2
   obtain⟨d',rfl⟩:∃ d',d=d'+1:=by
    cases d with
    | zero=>rw[Tb.Dz]at G;exact G.elim
    | succ d'=>exact⟨d',rfl⟩
   rw[Tb.Dz]at G;obtain⟨c4,c7,cS,ah⟩:=G;obtain⟨tl,tm⟩:=Tb.tot_mem ah;have S0:0<Tb.tot b:=by lia
   rw[Tb.lv]at b6;refine .inr ⟨x,S,_,rfl,c,rfl,_,rfl,?_⟩;refine⟨Nat.zero_le _,λf j=>?_⟩;have b3:IsNd K a (untrs H (f::U)) (.ref x) (.die b):=by rw[oU j];exact hn
   have D:=Same.new (o:=.lst []) j;have M:=ad (H:=H) (a:=f) (o:=.lst []);generalize upd H f (.lst [])=H1 at D M;have b1:=hT.same D;have O:=rH (cR.t D.t) M;have ct:=b3.t (bV D.t);refine .inr ⟨x,S,_,rfl,D _ _ c,rfl,_,b,f::U,rfl,O,ct,b1,λH2 r zs t2 ca fr an as=>?_⟩;have a1:=t2.at M;have nr:r≠f:=λz=>by rw[z,M]at fr;cases fr
   have al:=D.t.trans t2;have lE:E<Lm:=Nat.lt_of_le_of_lt (Nat.le_mul_of_pos_right E (Nat.pow_pos B0)) lm;have eS:((Tb.tot b).toNat:Int)=Tb.tot b:=by lia
   have Sn:0<(Tb.tot b).toNat:=by lia
   have SB:(Tb.tot b).toNat<=B:=by lia
   have a4:E*(Tb.tot b).toNat*B ^ d'<Lm:=by
    refine Nat.lt_of_le_of_lt ?_ lm;rw[Nat.pow_succ,Nat.mul_assoc,Nat.mul_comm (B ^ d')];exact Nat.mul_le_mul_left _ (Nat.mul_le_mul_right _ SB)
   have lS:(Tb.tot b).toNat<Lm:=Nat.lt_of_le_of_lt (show _<=1000000000 by lia) (by decide);have c2:=hm.t al
   let Pw1:PvS:=λi σ C=>∃(I:List V) (x3 x4:Option V),σ=[some (.ref x),some z,some (.ref f),x3,x4]/\SameT H C/\TabsOk (tabs a) C/\Bad C (f::U)/\SameT (untrs H2 (f::U)) (untrs C (f::U))/\C f=some (.lst I)/\C r=some (.lst zs)/\Paired (WayS K C) (Tb.kR (Tb.wfs (b.take i) m (Tb.tot b))) I
   refine .inl ⟨⟨_,SqL.of an⟩,dQ (K:=K) (a:=r) (xs:=zs) Pw1 ⟨[],none,none,rfl,al,ca,O.t t2,SameT.refl,a1,an,by rw[take_zero,Tb.wfs];exact .nil⟩ (λi σ C _ h=>let ⟨_,_,_,_,_,_,_,_,_,e,_⟩:=h;SqL.of e) ?_ ?_⟩
   .rintro i y σ C hy ⟨I,x3,x4,rfl,t3,W,R,c3,N,a5,hw⟩
    obtain⟨⟨mi,ui⟩,X,q1,u,rfl,b5,hu⟩:=bc as hy;have a6:=(aC (c3.at b5)).2;have cP:=hu.t c3;have hp:=List.mem_of_getElem? X;obtain⟨m1,b0⟩:=Tb.dz_part ah hp;have m2:=tm _ hp;have cW:=Tb.lvs_part X
    replace m1:1<=mi:=m1
    replace m2:mi<=Tb.tot b:=m2
    have Y:IsRaw a C (.ref x) rs:=((k.t (by rw[<- oU j];exact(bV D.t).trans ((bV t2).trans c3))).t dP)
    refine⟨q1,_,rfl,SqT.of a6,rfl,_,_,rfl,_,_,rfl,rfl,?_⟩;refine⟨.inl ⟨rfl,_,SqL.of N⟩,?_⟩;refine .inr ⟨x,S,_,rfl,t3.at c,rfl,_,rs,rfl,Y,λH4 s4=>?_⟩;rw[uF a'];refine⟨mi,Tb.tot b,rfl,S0,xO (by lia) (by lia),xO (by lia) (by lia),λH5 p5 s5 bl=>?_⟩;have a0:=s4.trans s5
    have q5:IsQ K H5 ((mi:Rat)/(Tb.tot b:Rat)) (.ref p5):=⟨p5,rfl,.inl (by rw[bl,ld _ S0])⟩
    have Z:=Tb.share_bq m1 m2;refine⟨_,_,m,_,rfl,(hm.t t3).same a0,q5,bm.bb E0 lE,Z.bb Sn lS,trivial,λH6 z6 s6 q6=>?_⟩;have L:=a0.trans s6;refine⟨u,z6,ui,m*((mi:Rat)/(Tb.tot b:Rat)),B,E*(Tb.tot b).toNat,d',f::U,rfl,R.t L.t,cP.t (bV L.t),q6,bm.mul Z,Nat.mul_pos E0 Sn,a4,B0,B1,b0,by lia,by lia,W.same L,λH7 l7 us t7 cb c5 bd ab=>?_⟩;have g:=L.t.trans t7;have F:=g.at N;have l1:I.length<=128:=by rw[<- hw.length,Tb.kR_wfs_len];lia
    have l2:us.length<=128:=by rw[<- ab.length,Tb.kR_wf_len];lia
    refine⟨f,l7,I,us,rfl,rfl,F,bd,by lia,?_⟩;have a2:TK H7 (upd H7 f (.lst (I++us))):=TK.lst F;refine⟨I++us,_,_,rfl,(t3.trans g).put j,cb.put (λb z=>by rw[F]at z;cases z) (λφ z=>by rw[F]at z;cases z),uI (R.t g),by rw[uC];exact c3.trans (bV g),ad,by rw[ai nr];exact g.at a5,?_⟩;rw[Tb.kR_snoc m (Tb.tot b) X];exact gg (aG (λw x h=>h.tk a2) ab) (aG (λw x h=>(h.tk (SameT.tk g)).tk a2) hw)
   .rintro σ C ⟨I,x3,x4,rfl,t3,W,_,_,N,_,hw⟩
    have hl:zs.length=b.length:=as.length.symm;rw[hl,take_length]at hw;rw[Tb.wf]at q;exact q _ f I t3 W j N hw
theorem lb(T:Txt K mg a)(b:Bm mg base):∀ n,FnOk P w K mg base CX0 (n+6) a.f_F a.d_F ["_law_node","_law_much"] (spWays K a n)
 | n+1=>pS T b n (lb T b n)
 | 0=>⟨λ_ _ _ _ h=>by obtain⟨v,z,t,m,B,E,d,Bd,rfl,_⟩:=h;rfl,λ_ _ _ _ _ _ _ _ _ _ _ _ _ h=>by obtain⟨v,z,t,m,B,E,d,Bd,_,_,_,_,_,_,_,_,_,_,h,_⟩:=h;exact absurd h (Nat.not_lt_zero _)⟩
end
theorem TK.dT{H:Hp}{d:Addr}{a:List (List Key×V)}{o:HO}(h:H d=some (.dT a)):TK H (upd H d o):=λb c e=>by rw[ai (λz=>by rw[z,h]at e;cases e)];exact e
def kI(ns:List Int):List Key:=ns.map Sum.inl
theorem nG{a b:List Int}(h:kI a=kI b):a=b:=List.map_inj_right (f:=(Sum.inl:Int->Key)) (λx y e=>by cases e;rfl) |>.mp h
theorem wx(a:List Int):(kI a).map kV=a.map V.int:=by unfold kI;rw[map_map];rfl
def RwR(K:Frag)(H:Hp)(x:List Int×Rat)(kv:List Key×V):Prop:=kv.1=kI x.1/\IsQ K H x.2 kv.2
abbrev RwAt(K:Frag)(H:Hp):Rws->List (List Key×V)->Prop:=Paired (RwR K H)
theorem RwAt.tk{K:Frag}{H b:Hp}(k:TK H b){st:Rws}{a:List (List Key×V)}(h:RwAt K H st a):RwAt K b st a:=aG (λx kv (r:RwR K H x kv)=>⟨r.1,r.2.tk k⟩) h
theorem RwAt.get{K:Frag}{H:Hp}{k:List Int}:∀{st:Rws}{kvs:List (List Key×V)},RwAt K H st kvs->(gT kvs (kI k)=none/\fN st k=0)\/∃ z,gT kvs (kI k)=some z/\IsQ K H (fN st k) z
 | _,_,.nil=>.inl ⟨rfl,rfl⟩
 | x::st,kv::kvs,.cons r t=>by
  rw[fN]
  by_cases c:x.1=k
  .rw[if_pos c,gq (by rw[r.1,c])]
   exact .inr ⟨_,rfl,r.2⟩
  .rw[if_neg c,gm (λz=>c (nG (r.1.symm.trans z)))]
   exact RwAt.get t
theorem uE{p:List Key×V}{r:List (List Key×V)}{k:List Key}{v:V}(h:¬p.1=k):fO (p::r) k v=p::fO r k v:=by
 unfold fO;rw[any_cons,decide_eq_false h,Bool.false_or]
 split
 .rw[map_cons,if_neg h]
 .rfl
theorem uc{p:List Key×V}{r:List (List Key×V)}{k:List Key}{v:V}(h:p.1=k)(n:∀ q∈r,¬q.1=k):fO (p::r) k v=(p.1,v)::r:=by
 unfold fO;rw[any_cons,decide_eq_true h,Bool.true_or,if_pos rfl,map_cons,if_pos h]
 congr 1
 have:∀ q∈r,(if q.1=k then (q.1,v) else q)=q:=λq a=>if_neg (n q a)
 rw[map_congr_left this,List.map_id']
theorem RwAt.keys{K:Frag}{H:Hp}:∀{st:Rws}{kvs:List (List Key×V)},RwAt K H st kvs->∀ q∈kvs,∃ x∈st,q.1=kI x.1
 | _,_,.nil,q,h=>by cases h
 | x::st,kv::kvs,.cons r t,q,h=>by
  rcases mem_cons.mp h with e | e
  .rw[e];exact⟨x,mem_cons_self ..,r.1⟩
  .obtain⟨y,b,a⟩:=RwAt.keys t q e
   exact⟨y,mem_cons_of_mem _ b,a⟩
theorem RwAt.put{K:Frag}{H:Hp}{k:List Int}{m:Rat}{z:V}:∀{st:Rws}{kvs:List (List Key×V)},RwAt K H st kvs->Du.NdR st->IsQ K H (fN st k+m) z->RwAt K H (eZ k m st) (fO kvs (kI k) z)
 | _,_,.nil,_,hz=>by
  rw[fN]at hz;have:(0:Rat)+m=m:=by grind
  rw[this]at hz;exact .cons ⟨rfl,hz⟩ .nil
 | x::st,kv::kvs,.cons r t,nd,hz=>by
  rw[eZ];rw[fN]at hz;unfold Du.NdR at nd;rw[map_cons,nodup_cons]at nd
  by_cases c:x.1=k
  .rw[if_pos c]at hz ⊢
   rw[uc (by rw[r.1,c]) (λq a e=>by
    obtain⟨y,d,b⟩:=RwAt.keys t q a;have:=nG (b.symm.trans e)
    exact nd.1 (by rw[c,<- this];exact mem_map.mpr ⟨y,d,rfl⟩))]
   exact .cons ⟨by show kv.1=kI k;rw[r.1,c],hz⟩ t
  .rw[if_neg c]at hz ⊢
   rw[uE (λe=>c (nG (r.1.symm.trans e)))];exact .cons r (RwAt.put t nd.2 hz)
def jD(W:Rws):Rws:=W.foldl (λst w=>eZ w.1 w.2 st) []
theorem jW{W:Rws}{i:Nat}{w:List Int×Rat}(h:W[i]? = some w):jD (W.take (i+1))=eZ w.1 w.2 (jD (W.take i)):=by
 unfold jD;rw[take_add_one,h,List.foldl_append];rfl
theorem uu{φ:List Int->Rat}(W:Rws):SW φ (jD W)=SW φ W:=by
 have:=jV (φ:=φ) (f:=id) (λ_=>rfl) W [];rw[ff]at this;show SW φ (W.foldl (λa w=>eZ (id w.1) w.2 a) [])=_;rw[this];grind
theorem jg(i:Int)(a:List Int):inV (.int i) (a.map V.int)=decide (i∈a):=by
 unfold inV;rw[any_map]
 induction a with
 | nil=>rfl
 | cons x r ih =>
  rw[any_cons,ih];simp only[mem_cons,Function.comp]
  by_cases e:i=x
  .subst e;simp[eqV]
  .have b:¬x=i:=λz=>e z.symm
   simp[eqV,e,b]
theorem gO(a:List Int):(a.map V.int).all fQ=true:=by
 rw[List.all_map];exact all_eq_true.mpr λx _=>rfl
def kW(W:Rws)(ps:List Int)(i:Int):List (Int×Int):=ps.map λj=>fr (SW (cY i j) W)
def ud(W:Rws)(ps:List Int):List (List (Int×Int)):=ps.map (kW W ps)
inductive spTog(K:Frag)(vs:List V)(H:Hp)(Q:VK)(_E:XK):Prop
 | mk(lw lp:Addr)(W:Rws)(ws:List V)(ps:List Int)(D:Nat)(h0:vs=[.ref lw,.ref lp])(h1:H lw=some (.lst ws))(h2:Paired (WayS K H) W ws)(h3:H lp=some (.lst (ps.map V.int)))(h4:ps.length<=6)(h5:W.length<=128)(h6:(∀ w∈W,Bq D w.2))(h7:SW (λ_=>1) W<=1)(h8:0<D)(h9:D<Lm)(h10:∀ H' r xs,Same H H'->H r=none->H' r=some (.lst xs)->MatAt K r H' (ud W ps) xs->Q (.ref r) H'):spTog K vs H Q _E
theorem MatAt.mv{K:Frag}{D:Addr}{H a:Hp}:∀{fss:List (List (Int×Int))}{xs:List V},(∀ b us,V.ref b∈xs->H b=some (.lst us)->a b=some (.lst us))->TK H a->MatAt K D H fss xs->MatAt K D a fss xs
 | _,_,_,_,.nil=>.nil
 | _,_,hl,k,.cons ⟨q,ys,h1,h2,h3,h4⟩ t=>.cons ⟨q,ys,h1,h2,hl q ys (by rw[h1];exact mem_cons_self ..) h3,h4.tk k⟩ (MatAt.mv (λb us c=>hl b us (mem_cons_of_mem _ c)) k t)
theorem yO(i j:Int)(k:List Int):cY i j k=0\/cY i j k=1:=by
 unfold cY ind
 split
 .exact .inr rfl
 .exact .inl rfl
theorem Rd.dct{H b:Hp}{d:Addr}{a:List (List Key×V)}(s:∀ u,H d=some u->b d=some u)(h:Rd H d (.dT a)):Rd b d (.dT a):=h.imp (s _) λ⟨o,e⟩=>⟨o,s _ e⟩
section
variable {P:Program}{w:World}{K:Frag}{mg:Str->Option Value}{base:Heap}{a:Ad}
theorem iQ(T:Txt K mg a):FnOk P w K mg base CX0 2 a.f_T a.d_T ["_law_one","_law_other"] (spAri (· + ·) (λ_=>True) K):=by
 have f:FnOk P w K mg base CX0 1 _ _ _ spLow:=nX T;refine T.F_T.ok pY (λk H Q E h=>?_) (λcdv A outer s H k Q E hr h=>?_)
 .obtain⟨x,y,p,q,rfl,_⟩:=h;rfl
 .obtain⟨x,y,p,q,rfl,⟨x,rfl,m⟩,⟨y,rfl,o⟩,⟨i,c⟩,⟨j,d⟩,v,l⟩:=h
  have g:=m.sq;have b:=o.sq;have n:(0:Int)<(p.den:Int):=by have:=p.den_pos;lia
  have u:(0:Int)<(q.den:Int):=by have:=q.den_pos;lia
  refine⟨_,(aj (aw (aq f hr rfl T.m_U T.F_U.kp T.B_U .nil au (aa (ax dZ (ax cz (bA aY (vr 0) ao (λ_ _=>rfl)) (bA aY (vr 1) ao (λ_ _=>rfl))) (ax cz (bA aY (vr 1) ao (λ_ _=>rfl)) (bA aY (vr 0) ao (λ_ _=>rfl)))) (aa (ax cz (bA aY (vr 0) ao (λ_ _=>rfl)) (bA aY (vr 1) ao (λ_ _=>rfl))) ae))))),?_⟩;refine px0 g (px1 b ⟨cmB i d,px0 b (px1 g ⟨cmB j c,px1 g (px1 b ⟨cmB c d,?_⟩)⟩)⟩);exact⟨_,_,rfl,Int.mul_pos n u,((i.mul d).add (j.mul c)).mono (by decide),(c.mul d).mono (by decide),λB r s e=>l _ _ s ⟨r,rfl,.inl (by rw[<- um p q];exact e)⟩⟩
theorem wC(T:Txt K mg a):FnOk P w K mg base CX0 3 a.f_r a.d_r ["_law_ways_here","_law_places"] (spTog K):=by
 have dp:FnOk P w K mg base CX0 2 _ _ _ (spAri (· + ·) (λ_=>True) K):=iQ T;refine T.F_r.ok sc_r (λvs H Q E h=>?_) (λcdv A outer s H vs Q E hr h=>?_)
 .obtain⟨lw,lp,W,ws,O,D,rfl,_⟩:=h;rfl
 .obtain⟨lw,lp,W,ws,O,D,rfl,al,hW,C,n6,wl,hb,h1,D0,lD,q⟩:=h
  have d':sizeLine=16777216:=sizeLine_eq;refine⟨_,(ak (aA (i:=2) sc_r.nd rfl (Or.inl rfl) sC) (ak (dF PassesOwn.never rfl (bO (vr 0)) (fk rfl (az (av (i:=3) sc_r.nd rfl (Or.inl rfl)) (az (av (i:=4) sc_r.nd rfl (Or.inl rfl)) cm))) (aj (tJ (vj hr) (vr 2) (vr 3) (aq dp hr rfl T.m_T T.F_T.kp T.B_T .nil au (aa (sv (vj hr) (vr 2) (vr 3) (bP (aa ao (aa ao ae))) ⟨rfl,rfl,rfl,rfl⟩) (aa (vr 4) ae))) rfl))) (ak (aA (i:=5) sc_r.nd rfl (Or.inl rfl) (cH ae)) (ak (dF PassesOwn.never rfl (bO (vr 1)) (av (i:=6) sc_r.nd rfl (Or.inl rfl)) (ak (aA (i:=7) sc_r.nd rfl (Or.inl rfl) (cH ae)) (ak (dF PassesOwn.never rfl (bO (vr 1)) (av (i:=8) sc_r.nd rfl (Or.inl rfl)) (ak (aA (i:=9) sc_r.nd rfl (Or.inl rfl) (bP (aa ao (aa ao ae)))) (ak (dF PassesOwn.never rfl (rA (pe_m.itemsR (vr 2))) (fk rfl (az (av (i:=3) sc_r.nd rfl (Or.inl rfl)) (az (av (i:=4) sc_r.nd rfl (Or.inl rfl)) cm))) (aj (cD (PW.pt (v4 (cg gJ (vr 6) (vr 3) (by with_unfolding_all rfl)) (uV (cg gJ (vr 8) (vr 3) (by with_unfolding_all rfl))))) (aj (aA (i:=9) sc_r.nd rfl (Or.inl rfl) (aq dp hr rfl T.m_T T.F_T.kp T.B_T .nil au (aa (vr 9) (aa (vr 4) ae))))) aZ))) (aj (dJ (pe_m.append (vr 7) (aa (vr 9) ae))))))) (aj (dJ (pe_m.append (vr 5) (aa (vr 7) ae))))))) (aj (aw (vr 5))))))),u7 ?_⟩;intro er ew eo ep;intro d fd;have nW:W.length=ws.length:=hW.length;have nn:∀ w∈W,0<=w.2:=λw hw=>(hb w hw).1
  have s1:=Same.new (o:=.dT []) fd;have b3:=ad (H:=H) (a:=d) (o:=.dT []);generalize upd H d (.dT [])=H1 at s1 b3;have d5:lw≠d:=λz=>by rw[z,fd]at al;cases al
  let Pw1:PvS:=λi g f=>∃(c:List (List Key×V)) (l m:Option V),(∀ b u,b≠d->H1 b=some u->f b=some u)/\f d=some (.dT c)/\c.length<=i/\RwAt K f (jD (W.take i)) c/\Row D (jD (W.take i)) (SW (λ_=>1) (W.take i))/\g=[some (.ref lw),some (.ref lp),some (.ref d),l,m,none,none,none,none,none]
  refine .inl ⟨⟨_,SqL.of (s1 _ _ al)⟩,dQ (K:=K) (a:=lw) (xs:=ws) Pw1 ⟨[],none,none,(λb u _ e=>e),b3,Nat.le_refl _,.nil,by rw[take_zero];exact Row.nil,rfl⟩ (λi g f _ h=>let ⟨_,_,_,k,_⟩:=h;SqL.of (k _ _ d5 (s1 _ _ al))) ?_ ?_⟩
  .rintro i y g f G ⟨c,l,m,kp,hd,hl,hS,R,rfl⟩
   obtain⟨w,N,p,t,z,rfl,hp,ht,hz⟩:=bc hW G;have ne:∀{b xs},H b=some (.tup xs)->b≠d:=λe z=>by rw[z,fd]at e;cases e
   have d2:=kp _ _ (ne hp) (s1 _ _ hp);have ch:=kp _ _ (ne ht) (s1 _ _ ht);have d1:TK H f:=λb xs e=>kp _ _ (ne e) (s1 _ _ e)
   have dK:=hz.tk d1;have bw:=hb w (List.mem_of_getElem? N);have es:=iF (φ:=λ_=>1) N;have le:=iT nn (φ:=λ_=>1) (λ_=>by show(0:Rat)<=1;grind) (λ_=>by show(1:Rat)<=1;grind) (i+1);have dz:SW (λ_=>1) (W.take (i+1))=SW (λ_=>1) (W.take i)+w.2:=by rw[es];grind
   have R2:=R.add (k:=w.1) bw (by grind);rw[<- dz,<- jW N]at R2;obtain⟨bg,_⟩:=R.get w.1;refine⟨p,_,rfl,SqT.of d2,rfl,_,_,rfl,_,_,rfl,rfl,?_⟩;refine⟨d,rfl,.inr ⟨c,.inl hd⟩,cX _ _,λJ b2=>?_⟩;have s2:=Same.new (o:=.tup [.int 0,.int 1]) b2;have b6:=ad (H:=f) (a:=J) (o:=.tup [.int 0,.int 1]);generalize upd f J (.tup [.int 0,.int 1])=Y at s2 b6;have em:Y t=some (.tup ((kI w.1).map kV)):=by rw[wx];exact s2 _ _ ch
   refine⟨_,.inr ⟨c,kI w.1,t,.inl (s2 _ _ hd),rfl,em,rfl⟩,?_⟩
   have ec:IsQ K Y (fN (jD (W.take i)) w.1) ((gT c (kI w.1)).getD (.ref J)):=by
    rcases hS.get (k:=w.1) with⟨e1,e2⟩ | ⟨z,e1,e2⟩
    .rw[e1,e2];exact⟨J,rfl,.inl b6⟩
    .rw[e1];exact e2.same s2
   refine⟨_,_,_,_,rfl,ec,dK.same s2,bg.bb D0 lD,bw.bb D0 lD,trivial,λH3 z3 s3 q3=>?_⟩;have a1:=s2.trans s3;have U:=a1 _ _ hd;have il:i<128:=by have:=(List.getElem?_eq_some_iff.mp N).1;lia
   refine⟨d,_,rfl,.inr ⟨c,kI w.1,t,U,rfl,by rw[wx];exact a1 _ _ ch,by lia,rfl⟩,?_⟩;refine⟨_,_,_,(λb u nb e=>by rw[ai nb];exact a1 _ _ (kp _ _ nb e)),ad,Nat.le_trans (fE _ _ _) (by lia),?_,R2,rfl⟩;rw[jW N];exact((hS.tk a1.tk).put R.nd q3).tk (TK.dT U)
  .rintro g Y ⟨c,l,m,kp,hd,hl,hS,R,rfl⟩
   rw[<- nW,take_length]at hS R;have dt:∀ i j:Int,SW (cY i j) (jD W)=SW (cY i j) W:=λi j=>uu W
   have kl:c.length<=128:=by lia
   have cR:SW (λ_=>1) (jD W)<=1:=by rw[R.one];exact h1
   generalize eA:jD W=st at *;refine⟨Nat.zero_le _,λF fF=>?_⟩;have dr:F≠d:=λz=>by rw[z,hd]at fF;cases fF
   have s3:=Same.new (o:=.lst []) fF;have cP:=ad (H:=Y) (a:=F) (o:=.lst []);have U:Rd (upd Y F (.lst [])) d (.dT c):=.inl (s3 _ _ hd);have c9:TK Y (upd Y F (.lst [])):=s3.tk;generalize upd Y F (.lst [])=H3 at s3 cP U c9;have cs:∀ b u,b≠d->H1 b=some u->H3 b=some u:=λb u nb e=>s3 _ _ (kp b u nb e)
   have ct:H3 lp=some (.lst (O.map V.int)):=cs _ _ (λz=>by rw[z,fd]at C;cases C) (s1 _ _ C);have b1:∀{b u},H b=some u->b≠d:=λe z=>by rw[z,fd]at e;cases e
   have d4:Same H H3:=λb u e=>cs _ _ (b1 e) (s1 _ _ e)
   have ca:Same H Y:=λb u e=>kp _ _ (b1 e) (s1 _ _ e)
   have ee:=λ(i j:Int)=>vo R.b cR (φ:=cY i j) (yO _ _)
   let Pw2:PvS:=λi g f=>∃(xs:List V) (l m x6 x7 x8 x9:Option V),Same H f/\Rd f d (.dT c)/\RwAt K f st c/\f F=some (.lst xs)/\MatAt K F f ((O.take i).map (kW W O)) xs/\g=[some (.ref lw),some (.ref lp),some (.ref d),l,m,some (.ref F),x6,x7,x8,x9]
   refine .inl ⟨⟨_,SqL.of ct⟩,dQ (K:=K) (a:=lp) (xs:=O.map V.int) Pw2
    ⟨[],l,m,none,none,none,none,d4,U,hS.tk c9,cP,.nil,rfl⟩ (λi g f _ h=>let ⟨_,_,_,_,_,_,_,e,_⟩:=h;SqL.of (e _ _ C)) ?_ ?_⟩
   .rintro i y g f G ⟨xs,l,m,x6,x7,x8,x9,sH,co,dl,ab,hM,rfl⟩
    rw[List.getElem?_map]at G;cases hoi:O[i]? with
    | none=>rw[hoi]at G;cases G
    | some o =>
     rw[hoi]at G;cases G;refine⟨Nat.zero_le _,λr fR=>?_⟩;have b0:r≠F:=λz=>by rw[z,ab]at fR;cases fR
     have ds:∀ q,V.ref q∈xs->q≠r:=λq hq z=>by
      obtain⟨k,hk⟩:=List.getElem?_of_mem hq;obtain⟨fs,_,q',eq,e1,_,e3,_⟩:=hM.get hk;cases e1;rw[z,fR]at e3;cases e3
     have s4:=Same.new (o:=.lst []) fR;have c0:=ad (H:=f) (a:=r) (o:=.lst []);have a9:=sH.trans s4;have c7:Rd (upd f r (.lst [])) d (.dT c):=Rd.dct (λu e=>s4 _ _ e) co;have c':=dl.tk s4.tk;have c4:=s4 _ _ ab;have c3:=hM.same s4.t;generalize upd f r (.lst [])=H4 at s4 c0 a9 c7 c' c4 c3
     let Pw3:PvS:=λj g f=>∃(ys:List V) (l m x8 x9:Option V),Same H f/\Rd f d (.dT c)/\RwAt K f st c/\f F=some (.lst xs)/\MatAt K F f ((O.take i).map (kW W O)) xs/\f r=some (.lst ys)/\AllF K f ((O.take j).map λ(j:Int)=>fr (SW (cY o j) W)) ys/\g=[some (.ref lw),some (.ref lp),some (.ref d),l,m,some (.ref F),some (.int o),some (.ref r),x8,x9]
     refine .inl ⟨⟨_,SqL.of (a9 _ _ C)⟩,dQ (K:=K) (a:=lp) (xs:=O.map V.int) Pw3
      ⟨[],l,m,x8,x9,a9,c7,c',c4,c3,c0,.nil,rfl⟩ (λi g f _ h=>let ⟨_,_,_,_,_,e,_⟩:=h;SqL.of (e _ _ C)) ?_ ?_⟩
     .rintro j y g H5 G ⟨ys,l,m,x8,x9,bo,bl,bd,B,ah,a6,a2,rfl⟩
      rw[List.getElem?_map]at G;cases hoj:O[j]? with
      | none=>rw[hoj]at G;cases G
      | some o2 =>
       rw[hoj]at G;cases G;refine⟨cX _ _,λJ b2=>?_⟩;have s6:=Same.new (o:=.tup [.int 0,.int 1]) b2;have cW:=ad (H:=H5) (a:=J) (o:=.tup [.int 0,.int 1]);have an:Rd (upd H5 J (.tup [.int 0,.int 1])) d (.dT c):=Rd.dct (λu e=>s6 _ _ e) bl;have cb:=bo.trans s6;have b4:=bd.tk s6.tk;have c8:=s6 _ _ B;have ck:=ah.same s6.t;have cA:=s6 _ _ a6;have a8:=a2.same s6;generalize upd H5 J (.tup [.int 0,.int 1])=H6 at s6 cW an cb b4 c8 ck cA a8;refine⟨d,c,rfl,rfl,an,λv fv=>?_⟩;have s7:=Same.new (o:=.ext (IV v d)) fv;have el:=ad (H:=H6) (a:=v) (o:=.ext (IV v d));have eg:Rd (upd H6 v (.ext (IV v d))) d (.dT c):=Rd.dct (λu e=>s7 _ _ e) an;refine⟨v,d,c,rfl,el,eg,λob=>?_⟩
       have nd:∀{b u},(∀ k,u≠.dT k)->(∀ o k,u≠.frz o k)->H6 b=some u->b≠d:=λh1 h2 e z=>by
        rw[z]at e
        rcases an with e' | ⟨o',e'⟩ <;> rw[e']at e <;> cases e
        .exact h1 _ rfl
        .exact h2 _ _ rfl
       have k8:∀ b u,b≠d->H6 b=some u->(upd (upd H6 v (.ext (IV v d))) d (.frz ob (.dT c))) b=some u:=λb u n e=>by rw[ai n];exact s7 _ _ e
       have a0:=ad (H:=upd H6 v (.ext (IV v d))) (a:=d) (o:=.frz ob (.dT c));generalize upd (upd H6 v (.ext (IV v d))) d (.frz ob (.dT c))=H8 at k8 a0;have a7:TK H6 H8:=λb us e=>k8 _ _ (nd (u:=.tup us) (λ_ z=>nomatch z) (λ_ _ z=>nomatch z) e) e
       have bm:∀ b us,H6 b=some (.lst us)->H8 b=some (.lst us):=λb us e=>k8 _ _ (nd (u:=.lst us) (λ_ z=>nomatch z) (λ_ _ z=>nomatch z) e) e
       have ej:Same H H8:=λb u e=>k8 _ _ (b1 e) (cb _ _ e)
       have a':=b4.tk a7;have ef:IsQ K H8 (SW (cY o o2) (st.take 0)) (.ref J):=by rw[take_zero];exact⟨J,rfl,.inl (a7 _ _ cW)⟩
       refine pK (Pv:=λi g f=>∃(l m:Option V) (X:Addr),Same H8 f/\IsQ K f (SW (cY o o2) (st.take i)) (.ref X)/\g=[some (.ref lw),some (.ref lp),some (.ref d),l,m,some (.ref F),some (.int o),some (.ref r),some (.int o2),some (.ref X)]) ⟨l,m,J,(λb u e=>e),ef,rfl⟩ (λi g f h=>let ⟨_,_,_,k,_⟩:=h;k _ _ a0) ?_ ?_
       .rintro k kv b g H9 p ed dd ⟨l,m,X,L,q9,rfl⟩ fp
        obtain⟨x,b',ek,cS⟩:=bc a' ed;have M:=Same.new (o:=.tup [.ref b,kv.2]) fp;have a3:=ad (H:=H9) (a:=p) (o:=.tup [.ref b,kv.2]);have S:(upd H9 p (.tup [.ref b,kv.2])) b=some (.tup (x.1.map V.int)):=by rw[ek,wx]at dd;exact M _ _ dd
        have bq:=q9.same M;have cT:=(cS.tk L.tk).same M;have Z:=L.trans M;generalize upd H9 p (.tup [.ref b,kv.2])=H10 at M a3 S bq cT Z;refine⟨p,_,rfl,SqT.of a3,rfl,_,_,rfl,_,_,rfl,rfl,?_⟩;have es:=iF (φ:=cY o o2) b'
        have a4:¬(o∈x.1/\o2∈x.1)->IsQ K H10 (SW (cY o o2) (st.take (k+1))) (.ref X):=λh=>by
         have:cY o o2 x.1=0:=uv h;rw[es,this,show SW (cY o o2) (st.take k)+x.2*0=SW (cY o o2) (st.take k) by grind];exact bq
        refine⟨b,_,rfl,.inr (SqT.of S),rfl,gO _,?_⟩;rw[jg];refine ifC (λc1=>?_) (λc1=>?_)
        .refine⟨b,_,rfl,.inr (SqT.of S),rfl,gO _,?_⟩
         rw[jg];refine ifC (λc2=>?_) (λc2=>?_)
         .refine⟨_,_,_,_,rfl,bq,cT,(ee o o2 k).bb D0 lD,(R.b x (List.mem_of_getElem? b')).bb D0 lD,trivial,λet eu ea c6=>?_⟩
          obtain⟨pz,rfl,ev⟩:=id c6;refine⟨_,_,pz,Z.trans ea,?_,rfl⟩;have:cY o o2 x.1=1:=tS ⟨c1,c2⟩;rw[es,this,show x.2*1=x.2 by grind];exact c6
         .exact⟨_,_,X,Z,a4 λh=>c2 h.2,rfl⟩
        .exact⟨_,_,X,Z,a4 λh=>c1 h.1,rfl⟩
       .rintro g H9 ⟨l,m,X,L,q9,rfl⟩
        have dx:c.length=st.length:=a'.length.symm;rw[dx,take_length,dt]at q9;have en:ys.length<=6:=by rw[<- a8.len,length_map,length_take];lia
        have I:=L _ _ (bm _ _ cA);have ei:=L _ _ (bm _ _ c8);refine⟨.inl ⟨rfl,_,SqL.of I⟩,r,ys,_,rfl,rfl,I,by lia,?_⟩;have as:TK H9 (upd H9 r (.lst (ys++[.ref X]))):=TK.lst I;have a5:=a7.trans L.tk;have dV:d≠r:=λz=>by rw[<- z,L _ _ a0]at I;cases I
        refine⟨ys++[.ref X],_,_,_,_,(λb u e=>by rw[ai (λz=>by rw[z]at e;rw[sH _ _ e]at fR;cases fR)];exact L _ _ (ej _ _ e)),.inr ⟨ob,by rw[ai dV];exact L _ _ a0⟩,(a'.tk L.tk).tk as,by rw[ai (Ne.symm b0)];exact ei,?_,ad,?_,rfl⟩
        .exact MatAt.mv (λb us hb e=>by rw[ai (ds b hb)];exact L _ _ (bm _ _ e)) (a5.trans as) ck
        .rw[take_add_one,hoj,map_append]
         exact AllF.snoc (q9.tk as) ((a8.tk a5).tk as)
     .rintro g H5 ⟨ys,l,m,x8,x9,bo,bl,bd,B,ah,a6,a2,rfl⟩
      rw[length_map,take_of_length_le (Nat.le_refl _)]at a2;have xl:xs.length<=6:=by rw[<- ah.length,length_map,length_take];lia
      refine⟨.inl ⟨rfl,_,SqL.of B⟩,F,xs,_,rfl,rfl,B,by lia,?_⟩;have c5:TK H5 (upd H5 F (.lst (xs++[.ref r]))):=TK.lst B;have b5:d≠F:=λz=>dr z.symm
      refine⟨xs++[.ref r],_,_,_,_,_,_,(λb u e=>by rw[ai (λz=>by rw[z]at e;rw[ca _ _ e]at fF;cases fF)];exact bo _ _ e),Rd.dct (λu e=>by rw[ai b5];exact e) bl,bd.tk c5,ad,?_,rfl⟩;rw[take_add_one,hoi,map_append];exact MatAt.snoc ⟨r,ys,rfl,b0,by rw[ai b0];exact a6,a2.tk c5⟩ (ah.put B)
   .rintro g f ⟨xs,l,m,x6,x7,x8,x9,sH,co,dl,ab,hM,rfl⟩
    rw[length_map,take_of_length_le (Nat.le_refl _)]at hM
    have eb:H F=none:=by
     cases e:H F with
     | none=>rfl
     | some u=>rw[ca _ _ e]at fF;cases fF
    exact q _ F xs sH eb ab hM
end
end My
namespace L2
open PySem
theorem sL:bootBuiltins "set" = some (.type "set"):=by decide +kernel
section
variable {X:Cx}
theorem vI{K:Frag}(h:X.K=K)(a:X.A.units+64<cLine):OpR X (compareOp .NotEq) (rEqD K true):=h ▸ oz a
end
end L2
namespace My
open PySem L2 FrM Du
open Tb (Tr fT lT sT ba)
def IsPl(a:Ad)(H:Hp)(v:V)(ms:List Mb)(t:Tr)(lo hi:Int)(e:Nat->Nat->Int×Int):Prop :=
 (∃ m:Nat,IsPlan a H v m/\t=fT (plc ms) m []/\lo=((min m ms.length:Nat):Int)/\hi=((min m ms.length:Nat):Int)/\e=gb ms.length (min m ms.length)) \/
 (∃ m:Nat,IsStart a H v m/\1<=m/\m<=8/\t=stT (plc ms) m/\lo=(ms.length:Int)/(m:Int)/\hi=((ms.length:Int)+(m:Int) - 1)/(m:Int)/\e=eS m) \/
 (∃ m:Nat,IsLoose a H v m/\m<=7/\t=lT (gv (lsL ms m)) (fV (lsL ms m))/\lo=cF (due (szs ms) (m:Nat)) 1 1/\hi=((due (szs ms) (m:Nat)).length:Int) - cF (due (szs ms) (m:Nat)) 0 1/\e=eL (due (szs ms) (m:Nat)))
theorem IsPl.t{a:Ad}{H f:Hp}{v:V}{d:List Mb}{t:Tr}{lo c:Int}{e:Nat->Nat->Int×Int}(s:SameT H f)(h:IsPl a H v d t lo c e):IsPl a f v d t lo c e :=
 h.imp (λ⟨m,b,r⟩=>⟨m,b.t s,r⟩) λh=>h.imp (λ⟨m,b,r⟩=>⟨m,b.t s,r⟩) λ⟨m,b,r⟩=>⟨m,b.t s,r⟩
structure Gt(ps:List Int)(n:Nat)(t:Tr)(lo hi:Int)(e:Nat->Nat->Int×Int):Prop where
 dz:∃ B d:Nat,0<B/\B<=1000000000/\Tb.Dz B d t/\d<7/\B ^ d<Lm
 lv:Tb.lv t<=128
 bq:∃ D:Nat,0<D/\D<Lm/\∀ w∈Tb.kR (Tb.wf t 1),Bq D w.2
 one:SW (λ_=>1) (Tb.kR (Tb.wf t 1))=1
 key:∀ w∈Tb.kR (Tb.wf t 1),w.1.Nodup/\w.1.Pairwise (·<=·)/\(∀ x∈w.1,x∈ps)/\w.1.length<=6
 lo:(∀ w∈Tb.kR (Tb.wf t 1),lo<=(w.1.length:Int))/\∃ w∈Tb.kR (Tb.wf t 1),(w.1.length:Int)=lo
 hi:(∀ w∈Tb.kR (Tb.wf t 1),(w.1.length:Int)<=hi)/\∃ w∈Tb.kR (Tb.wf t 1),(w.1.length:Int)=hi
 mat:ud (Tb.kR (Tb.wf t 1)) ps=ma n e
inductive spGood(K:Frag)(a:Ad)(vs:List V)(H:Hp)(Q:VK)(_E:XK):Prop
 | mk(v:V)(l:Addr)(xs:List V)(ms:List Mb)(t:Tr)(lo hi:Int)(e:Nat->Nat->Int×Int)(h0:vs=[v,.ref l])(h1:H l=some (.lst xs))(h2:CrAt H ms xs)(h3:Pt ms)(h4:IsPl a H v ms t lo hi e)(h5:Gt (plc ms) ms.length t lo hi e)(h6:TabsOk (tabs a) H)(h7:∀ H',SameT H H'->TabsOk (tabs a) H'->Q (.bl true) H'):spGood K a vs H Q _E
def sY(x:List Int):PyData:=.tuple (x.map PyData.int)
theorem lC{K:Frag}{H:Hp}:∀ x:List Int,DVs K H (x.map PyData.int) (x.map V.int)
 | []=>by simp[DVs]
 | i::x=>by
  rw[map_cons,map_cons,DVs];exact⟨_,_,rfl,by simp[DV],lC x⟩
theorem qI{K:Frag}{H:Hp}{p:Addr}{x:List Int}(h:H p=some (.tup (x.map V.int))):DV K H (sY x) (.ref p):=by
 unfold sY;rw[DV];exact⟨p,_,rfl,SqT.of h,lC x⟩
theorem lX:∀ x:List Int,PyData.canLayAll0 (x.map PyData.int)=true/\PyData.depthAll (x.map PyData.int)<=1
 | []=>by simp[PyData.canLayAll0,PyData.depthAll]
 | i::x=>by
  obtain⟨a,b⟩:=lX x;rw[map_cons,PyData.canLayAll0,PyData.depthAll,a];refine⟨by simp[PyData.canLay0],?_⟩;have:PyData.depth (.int i)<=1:=by simp[PyData.depth]
  lia
theorem kB{K:Frag}{H:Hp}{l:Addr}(h:H l=some (.lst [])):DV K H (.list []) (.ref l):=by
 rw[DV];exact⟨l,_,rfl,SqL.of h,by simp[DVs]⟩
theorem m3(x:List Int):SeqAt.shaped (sY x)=true:=by
 obtain⟨a,b⟩:=lX x;unfold SeqAt.shaped sY;rw[PyData.canLay0,a,Bool.true_and];refine decide_eq_true ?_;simp only[PyData.depth];lia
theorem gI:SeqAt.shaped (.list [])=true:=by
 unfold SeqAt.shaped;rw[PyData.canLay0,PyData.canLayAll0,Bool.true_and];refine decide_eq_true ?_;simp[PyData.depth,PyData.depthAll]
theorem sR{K:Frag}{H:Hp}{p r:Addr}{x:List Int}{Q:VK}(b:H p=some (.tup (x.map V.int)))(a:H r=some (.tup (x.map V.int)))(q:Q (.bl false) H):rEqD K true (.ref p) (.ref r) H Q:=by
 refine⟨_,_,qI b,qI a,m3 x,m3 x,?_⟩;rw[SeqAt.eqv_refl _ (SeqAt.canLay_of_shaped (m3 x))];exact q
theorem v8{K:Frag}{H:Hp}{p r:Addr}{Q:VK}(b:H p=some (.lst []))(a:H r=some (.lst []))(q:Q (.bl false) H):rEqD K true (.ref p) (.ref r) H Q:=by
 refine⟨_,_,kB b,kB a,gI,gI,?_⟩;rw[SeqAt.eqv_refl _ (SeqAt.canLay_of_shaped gI)];exact q
section
variable {K:Frag}{a:Ad}{H:Hp}{v:V}{ms:List Mb}{t:Tr}{lo hi:Int}{e:Nat->Nat->Int×Int}{l:Addr}{xs:List V}{Q:VK}{E1 E2 E3:XK}
theorem oM(h:IsPl a H v ms t lo hi e)(i:H l=some (.lst xs))(g:CrAt H ms xs)(pt:Pt ms)(f:TabsOk (tabs a) H)(q:Res K a H [] t Q) :
  (∃(b dx:Addr) (fs:List (Str×V)),v=.ref b/\H b=some (.ins a.c_k dx fs)/\fs.lookup ("node" : Str)=none/\spFNode K a [v,.ref l] H Q E1)\/(∃(b dx:Addr) (fs:List (Str×V)),v=.ref b/\H b=some (.ins a.c_d dx fs)/\fs.lookup ("node" : Str)=none/\spSNode K a [v,.ref l] H Q E2)\/(∃(b dx:Addr) (fs:List (Str×V)),v=.ref b/\H b=some (.ins a.c_e dx fs)/\fs.lookup ("node" : Str)=none/\spLNode K a [v,.ref l] H Q E3):=by
 have k:=pt.few
 rcases h with⟨m,c,rfl,_⟩ | ⟨m,c,j,o,rfl,_⟩ | ⟨m,c,n,rfl,_⟩
 .obtain⟨x,dx,rfl,d⟩:=id c
  exact .inl ⟨x,dx,_,rfl,d,rfl,_,m,l,xs,ms,rfl,c,i,g,by lia,f,q⟩
 .obtain⟨x,dx,rfl,d⟩:=id c
  exact .inr (.inl ⟨x,dx,_,rfl,d,rfl,_,m,l,xs,ms,rfl,c,i,g,by lia,j,by lia,f,q⟩)
 .obtain⟨x,dx,rfl,d⟩:=id c
  exact .inr (.inr ⟨x,dx,_,rfl,d,rfl,_,m,l,xs,ms,rfl,c,i,g,pt.sz,by lia,f,q⟩)
theorem pF(h:IsPl a H v ms t lo hi e)(i:H l=some (.lst xs))(u:CrAt H ms xs)(pt:Pt ms)(g:TabsOk (tabs a) H)(q:∀ H' p,SameT H H'->TabsOk (tabs a) H'->H' p=some (.tup [.int lo,.int hi])->Q (.ref p) H') :
  (∃(b dx:Addr) (fs:List (Str×V)),v=.ref b/\H b=some (.ins a.c_k dx fs)/\fs.lookup ("bounds" : Str)=none/\spBounds a [v,.ref l] H Q E1)\/(∃(b dx:Addr) (fs:List (Str×V)),v=.ref b/\H b=some (.ins a.c_d dx fs)/\fs.lookup ("bounds" : Str)=none/\spSBo a [v,.ref l] H Q E2)\/(∃(b dx:Addr) (fs:List (Str×V)),v=.ref b/\H b=some (.ins a.c_e dx fs)/\fs.lookup ("bounds" : Str)=none/\spLBo a [v,.ref l] H Q E3):=by
 have A:=pt.few;have d:=u.len
 rcases h with⟨m,c,_,rfl,rfl,_⟩ | ⟨m,c,w,C,_,rfl,rfl,_⟩ | ⟨m,c,B,_,rfl,rfl,_⟩
 .obtain⟨x,dx,rfl,f⟩:=id c
  refine .inl ⟨x,dx,_,rfl,f,rfl,_,m,l,xs,rfl,c,i,λp y=>?_⟩;have r:=Same.new (o:=.tup [.int ((min m xs.length:Nat):Int),.int ((min m xs.length:Nat):Int)]) y;exact q _ p r.t (g.same r) (by rw[ad,d])
 .obtain⟨x,dx,rfl,f⟩:=id c
  exact .inr (.inl ⟨x,dx,_,rfl,f,rfl,_,m,l,xs,rfl,c,w,by lia,i,by lia,λH' p k n j=>q H' p k (n g) (by rw[j,d])⟩)
 .obtain⟨x,dx,rfl,f⟩:=id c
  exact .inr (.inr ⟨x,dx,_,rfl,f,rfl,_,m,l,xs,ms,rfl,c,by lia,i,u,pt.sz,λH' p k n j=>q H' p k (n g) j⟩)
theorem qd(h:IsPl a H v ms t lo hi e)(u:H l=some (.lst xs))(w:CrAt H ms xs)(pt:Pt ms)(o:TabsOk (tabs a) H)(q:∀ H' r ys,SameT H H'->TabsOk (tabs a) H'->H r=none->H' r=some (.lst ys)->MatAt K r H' (ma ms.length e) ys->Q (.ref r) H') :
  (∃(b dx:Addr) (fs:List (Str×V)),v=.ref b/\H b=some (.ins a.c_k dx fs)/\fs.lookup ("matrix" : Str)=none/\spMatrix K a [v,.ref l] H Q E1)\/(∃(b dx:Addr) (fs:List (Str×V)),v=.ref b/\H b=some (.ins a.c_d dx fs)/\fs.lookup ("matrix" : Str)=none/\spSMat K a [v,.ref l] H Q E2)\/(∃(b dx:Addr) (fs:List (Str×V)),v=.ref b/\H b=some (.ins a.c_e dx fs)/\fs.lookup ("matrix" : Str)=none/\spLMx K a [v,.ref l] H Q E3):=by
 have A:=pt.few;have d:=w.len
 rcases h with⟨m,c,_,_,_,rfl⟩ | ⟨m,c,y,C,_,_,_,rfl⟩ | ⟨m,c,B,_,_,_,rfl⟩
 .obtain⟨x,dx,rfl,g⟩:=id c
  exact .inl ⟨x,dx,_,rfl,g,rfl,_,m,l,xs,rfl,c,u,by lia,o,λH' r ys k n i j f _ _=>q H' r ys k n i j (by rw[d];exact f)⟩
 .obtain⟨x,dx,rfl,g⟩:=id c
  exact .inr (.inl ⟨x,dx,_,rfl,g,rfl,_,m,l,xs,rfl,c,y,by lia,u,by lia,o,λH' r ys k n i j f _ _=>q H' r ys k n i j (by rw[d];exact f)⟩)
 .obtain⟨x,dx,rfl,g⟩:=id c
  exact .inr (.inr ⟨x,dx,_,rfl,g,rfl,_,m,l,xs,ms,rfl,c,by lia,u,w,pt.sz,o,λH' r ys k n i j f _ _=>q H' r ys k n i j f⟩)
end
section
variable {P:Program}{w:World}{K:Frag}{mg:Str->Option Value}{base:Heap}{a:Ad}
theorem tY(T:Txt K mg a)(hB:Bm mg base):FnOk P w K mg base CX0 14 a.f_S a.d_S ["_law_plan","_law_crowd_here"] (spGood K a):=by
 have eu:FnOk P w K mg base CX0 13 _ _ _ _:=(lI T hB).mono (by decide);have dr:FnOk P w K mg base CX0 13 _ _ _ _:=(ml T hB).mono (by decide);have ec:FnOk P w K mg base CX0 13 _ _ _ _:=(mG T hB).mono (by decide);have c3:FnOk P w K mg base CX0 13 _ _ _ _:=(qa T).mono (by decide);have dK:FnOk P w K mg base CX0 13 _ _ _ _:=(w6 T).mono (by decide);have c9:FnOk P w K mg base CX0 13 _ _ _ _:=(v9 T).mono (by decide);have c5:FnOk P w K mg base CX0 13 _ _ _ _:=(p9 T hB).mono (by decide);have c4:FnOk P w K mg base CX0 13 _ _ _ _:=(tT T hB).mono (by decide);have dt:FnOk P w K mg base CX0 13 _ _ _ _:=(vN T hB).mono (by decide);have eo:FnOk P w K mg base CX0 13 _ _ _ (spWays K a 7):=lb T hB 7;have ef:FnOk P w K mg base CX0 13 _ _ _ _:=(wC T).mono (by decide);have et:FnOk P w K mg base CX0 13 _ _ _ _:=(iQ T).mono (by decide);have cA:FnOk P w K mg base CX0 13 _ _ _ _:=(uO T).mono (by decide);refine T.F_S.ok sc_S (λvs H Q E h=>?_) (λcdv A outer s H vs Q E hr h=>?_)
 .obtain⟨v,l,xs,ms,t,lo,hi,e,rfl,_⟩:=h;rfl
 .obtain⟨v,l,xs,ms,t,lo,hi,e,rfl,hl,hC,pt,a5,gt,hT,q⟩:=h
  have dl:sizeLine=16777216:=sizeLine_eq;have c7:=hC.len;have m6:=pt.few
  refine⟨_,(ak (aA (i:=2) sc_S.nd rfl (Or.inr rfl) (bT rfl (N:=["_law_row_here"]) (ix:=[none]) ⟨rfl,rfl,rfl,rfl,trivial⟩ (bO (vr 1)) ⟨λC s H fp=>av (i:=0) (show List.Nodup (["_law_row_here"]:List Str) by decide +kernel) rfl (Or.inl rfl),λC s H fp=>cj,λC s H fp=>(bA (eP (K:=K) rfl) (vr 0) ao (λ_ _=>rfl))⟩)) (ak (aA (i:=3) sc_S.nd rfl (Or.inl rfl) (aq eo hr rfl T.m_F T.F_F.kp T.B_F .nil au (aa (PE.or (cV (vr 0) T.cl_k T.mt_E eu hr T.B_E .nil au (aa (vr 1) ae)) (PE.or (cV (vr 0) T.cl_d T.mt_p dr hr T.B_p .nil au (aa (vr 1) ae)) (cV (vr 0) T.cl_e T.mt_q ec hr T.B_q .nil au (aa (vr 1) ae)))) (aa (bP (aa ao (aa ao ae))) ae)))) (ak (li rfl (i:=4) sc_S.nd rfl rfl (by with_unfolding_all rfl) (N:=["_law_kept","_law_much"]) (ix:=[none,none]) ⟨rfl,rfl,rfl,rfl,trivial⟩ (bO (vr 3)) ⟨λC s H fp=>(d3 (K:=K) (n:=2) rfl rfl (az (av (i:=0) (show List.Nodup (["_law_kept","_law_much"]:List Str) by decide +kernel) rfl (Or.inl rfl)) (az (av (i:=1) (show List.Nodup (["_law_kept","_law_much"]:List Str) by decide +kernel) rfl (Or.inl rfl)) cm))),λC s H fp=>cj,λC s H fp=>(ar (m9 (K:=K) rfl) rfl T.z_len bf (aa (vr 0) ae))⟩) (ak (cD (cg (oz hr.units) (PE.or (cV (vr 0) T.cl_k T.mt_u c3 hr T.B_u .nil au (aa (vr 1) ae)) (PE.or (cV (vr 0) T.cl_d T.mt_t dK hr T.B_t .nil au (aa (vr 1) ae)) (cV (vr 0) T.cl_e T.mt_n c9 hr T.B_n .nil au (aa (vr 1) ae)))) (bP (aa (ar (qB rfl) rfl T.z_min ku (aa (vr 4) ae)) (aa (ar (pO rfl) rfl T.z_max vx (aa (vr 4) ae)) ae))) (be _)) (aj (aw eK)) aZ) (ak (aA (i:=5) sc_S.nd rfl (Or.inl rfl) (bP (aa ao (aa ao ae)))) (ak (dF PassesOwn.never rfl (bO (vr 3)) (fk rfl (az (av (i:=6) sc_S.nd rfl (Or.inl rfl)) (az (av (i:=7) sc_S.nd rfl (Or.inl rfl)) cm))) (ak (aA (i:=5) sc_S.nd rfl (Or.inl rfl) (aq et hr rfl T.m_T T.F_T.kp T.B_T .nil au (aa (vr 5) (aa (vr 7) ae)))) (ak (cD (PW.pt (g7 (dS (eJ (ar lW rfl T.z_isinstance bJ (aa (vr 6) (aa (dX (v:=.ty "tuple") rfl T.z_tuple fm rfl) ae))))) (gR (cg (oz hr.units) (vr 6) (cf eB rfl T.z_tuple fm (aa (ar (kh rfl) rfl T.z_sorted gS (aa (cf (nY rfl) rfl T.z_set sL (aa (vr 6) ae)) ae)) ae)) (be _))))) (aj (aw eK)) aZ) (aj (cD (cg (oz hr.units) (bT rfl (N:=["_law_place","_law_places"]) (ix:=[none,some 2]) ⟨rfl,rfl,rfl,rfl,⟨rfl,rfl,rfl,trivial⟩⟩ (bO (vr 6)) ⟨λC s H fp=>av (i:=0) (show List.Nodup (["_law_place","_law_places"]:List Str) by decide +kernel) rfl (Or.inl rfl),λC s H fp=>gj (cg (jE (K:=K) rfl) (vr 0) (vr 1) (by with_unfolding_all rfl)),λC s H fp=>(vr 0)⟩) (cH ae) (be _)) (aj (aw eK)) aZ))))) (aj (aw (pi (iH (oA hr.units) (vr 5) (bP (aa ao (aa ao ae))) (be _)) (ni (aq cA hr rfl T.m_J T.F_J.kp T.B_J .nil au (aa (PE.or (cV (vr 0) T.cl_k T.mt_f c5 hr T.B_f .nil au (aa (vr 1) ae)) (PE.or (cV (vr 0) T.cl_d T.mt_a c4 hr T.B_a .nil au (aa (vr 1) ae)) (cV (vr 0) T.cl_e T.mt_b dt hr T.B_b .nil au (aa (vr 1) ae)))) (aa (aq ef hr rfl T.m_r T.F_r.kp T.B_r .nil au (aa (vr 3) (aa (vr 2) ae))) ae))))))))))))),xL ?_⟩
  intro ex e' e1 e8 eA eT
  refine .inl ⟨⟨_,SqL.of hl⟩,λDp cs=>?_⟩
  let Pw1:PvL:=λi r c=>i<=xs.length/\Same H c/\c Dp=some (.lst r)/\r=(plc (ms.take i)).map V.int
  refine bB (K:=K) (a:=l) (xs:=xs) Pw1 ⟨Nat.zero_le _,Same.new cs,ad,rfl⟩ (λi r c h=>SqL.of (h.2.1 _ _ hl)) (λi r c h=>h.2.2.1) ?_ ?_
  .rintro i x r c P' hx ⟨hi,s1,X,rfl⟩ hP
   obtain⟨m,hm,q1,pt,rfl,g1,g2⟩:=(hC.tk s1.tk).get hx;have d5:i<xs.length:=(List.getElem?_eq_some_iff.mp hx).1;refine⟨trivial,.inr (.inl ⟨q1,_,_,_,rfl,rfl,SqT.of g1,de 0 rfl rfl,X,?_,hP _ _ ⟨d5,s1.put cs,ad,?_⟩⟩)⟩
   .unfold plc;rw[length_map,length_map,length_take];lia
   .unfold plc;rw[take_add_one,hm,map_append,map_append];rfl
  rintro r H1 ⟨_,s1,X,rfl⟩;rw[<- c7,take_of_length_le (Nat.le_refl _)]at X
  have c8:=hT.same s1;have en:=s1 _ _ hl;have ea:=hC.tk s1.tk;have b2:=a5.t s1.t;refine oM b2 en ea pt c8 λH2 u t2 ei hn=>?_
  rw[bQ]at hn;refine⟨cX _ _,λp1 dd=>?_⟩;have s3:=Same.new (o:=.tup [.int 1,.int 1]) dd;have b6:=ad (H:=H2) (a:=p1) (o:=.tup [.int 1,.int 1]);generalize upd H2 p1 (.tup [.int 1,.int 1])=H3 at s3 b6;obtain⟨B,d,B0,B1,c2,hd,dx⟩:=gt.dz;obtain⟨D,D0,lD,Y⟩:=gt.bq;refine⟨u,.ref p1,t,1,B,1,d,[],rfl,iG _,by rw[bQ];exact hn.t s3.t,⟨p1,rfl,.inl b6⟩,Bq.one,by decide,by rw[Nat.one_mul];exact dx,B0,B1,c2,hd,gt.lv,ei.same s3,λH4 lw ws t4 ej e5 a8 hW=>?_⟩;have J:=gt.one;have ck:=gt.key;have a3:=gt.lo;have b0:=gt.hi;have b3:=gt.mat;have cb:(Tb.kR (Tb.wf t 1)).length<=128:=by rw[Tb.kR_wf_len];exact gt.lv
  generalize Tb.kR (Tb.wf t 1)=W at *;have bg:=s1.t.trans (t2.trans (s3.t.trans t4));have ep:=t2.trans (s3.t.trans t4)
  refine .inl ⟨⟨_,SqL.of a8⟩,λDb b1=>?_⟩
  let Pw2:PvL:=λi zs c=>Same H4 c/\c Db=some (.lst zs)/\zs=((W.take i).map λw=>(w.1.length:Int)).map V.int
  refine bB (K:=K) (a:=lw) (xs:=ws) Pw2 ⟨Same.new b1,ad,rfl⟩ (λi r c h=>SqL.of (h.1 _ _ a8)) (λi r c h=>h.2.1) ?_ ?_
  .rintro i y zs c P' hy ⟨s5,ew,rfl⟩ a'
   obtain⟨w,M,p,kt,z,rfl,hp,ht,hz⟩:=bc hW hy;have il:i<128:=by have:=(List.getElem?_eq_some_iff.mp M).1;lia
   refine⟨p,_,rfl,SqT.of (s5 _ _ hp),rfl,_,_,rfl,_,_,rfl,rfl,trivial,?_⟩;refine⟨_,.inr (SqT.of (s5 _ _ ht)),ew,by rw[length_map,length_map,length_take];lia,a' _ _ ⟨s5.put b1,ad,?_⟩⟩;rw[take_add_one,M,map_append,map_append,length_map];rfl
  rintro zs H5 ⟨s5,ah,rfl⟩;have bm:ws.length=W.length:=hW.length.symm;rw[bm,take_length]at ah;have a7:=bg.trans s5.t;have d4:=ej.same s5
  refine pF (a5.t a7) (a7.at hl) (hC.tk (SameT.tk a7)) pt d4 λH6 pb t6 c' ev=>?_
  have an:=t6.at ah
  have al:0<(W.map λw=>(w.1.length:Int)).length:=by
   obtain⟨w,R,_⟩:=a3.2;rw[length_map];exact List.length_pos_iff.mpr λz=>by rw[z]at R;cases R
  refine⟨Db,_,rfl,SqL.of an,al,λm hm bq=>⟨Db,_,rfl,SqL.of an,al,λm2 hm2 hall2=>?_⟩⟩
  have em:m=lo:=by
   obtain⟨w,R,rfl⟩:=mem_map.mp hm;obtain⟨w0,bd,e0⟩:=a3.2;have h1:=bq _ (mem_map.mpr ⟨w0,bd,rfl⟩);have h2:=a3.1 w R;lia
  have c0:m2=hi:=by
   obtain⟨w,R,rfl⟩:=mem_map.mp hm2;obtain⟨w0,bd,e0⟩:=b0.2;have h1:=hall2 _ (mem_map.mpr ⟨w0,bd,rfl⟩);have h2:=b0.1 w R;lia
  subst em c0;refine⟨cX _ _,λp7 el=>?_⟩;have s7:=Same.new (o:=.tup [.int m,.int m2]) el;have bw:=ad (H:=H6) (a:=p7) (o:=.tup [.int m,.int m2]);generalize upd H6 p7 (.tup [.int m,.int m2])=H7 at s7 bw;refine sR (x:=[m,m2]) (s7 _ _ ev) bw ?_
  refine⟨cX _ _,λp8 cT=>?_⟩;have s8:=Same.new (o:=.tup [.int 0,.int 1]) cT;have b4:=ad (H:=H7) (a:=p8) (o:=.tup [.int 0,.int 1]);generalize upd H7 p8 (.tup [.int 0,.int 1])=H8 at s8 b4;have Z:=s5.t.trans (t6.trans (s7.trans s8).t);have er:=bg.trans Z;have d':=ep.trans Z;have dV:=c'.same (s7.trans s8);have G:=Z.at a8;have a2:Paired (WayS K H8) W ws:=aG (λw x h=>h.tk (SameT.tk Z)) hW;have S:=d'.at X;have nn:∀ w∈W,0<=w.2:=λw R=>(Y w R).1
  have d1:=vo (φ:=λ_=>1) Y (by rw[J];grind) (λ_=>.inr rfl)
  let Pw3:PvS:=λi σ c=>∃(pt:Addr) (x6 x7:Option V),Same H8 c/\IsQ K c (SW (λ_=>1) (W.take i)) (.ref pt)/\σ=[some v,some (.ref l),some (.ref Dp),some (.ref lw),some (.ref Db),some (.ref pt),x6,x7]
  refine .inl ⟨⟨_,SqL.of G⟩,dQ (K:=K) (a:=lw) (xs:=ws) Pw3 ⟨p8,none,none,(λb u e=>e),by rw[take_zero];exact⟨p8,rfl,.inl b4⟩,rfl⟩ (λi σ c _ h=>let ⟨_,_,_,e,_⟩:=h;SqL.of (e _ _ G)) ?_ ?_⟩
  .rintro i y σ c hy ⟨cR,x6,x7,s9,q9,rfl⟩
   obtain⟨w,M,p,kt,z,rfl,hp,ht,hz⟩:=bc a2 hy;have R:=List.mem_of_getElem? M;obtain⟨dp,ct,eq,k6⟩:=ck w R;refine⟨p,_,rfl,SqT.of (s9 _ _ hp),rfl,_,_,rfl,_,_,rfl,rfl,?_⟩;refine⟨_,_,_,_,rfl,q9,hz.tk s9.tk,(d1 i).bb D0 lD,(Y w R).bb D0 lD,trivial,λc6 eH L ch=>?_⟩;obtain⟨pz,rfl,e7⟩:=id ch;have f:=s9.trans L;have U:=f _ _ ht;refine⟨_,_,_,true,rfl,rfl,.inr ⟨kt,_,rfl,rfl,SqT.of U⟩,rfl,?_⟩;refine⟨kt,w.1,rfl,SqT.of U,by lia,λg1 ds=>?_⟩;refine⟨g1,w.1,rfl,ad,by lia,dp,λg2 cP cS cW eg=>?_⟩;have e9:cP=w.1:=Tb.le_uniq eg cW ct;subst e9;refine⟨g2,_,rfl,.inl ⟨SqL.of ad,λg3 dz=>?_⟩⟩;have u3:=((Same.new ds).trans (Same.new cS)).trans (Same.new (o:=.tup (w.1.map V.int)) dz);refine sR (u3 _ _ U) ad ?_;have a1:=f.trans u3;have eb:=ch.same u3;have as:=u3 _ _ U;have O:=a1 _ _ S;refine .inr ⟨⟨_,SqT.of as⟩,λDe a9=>?_⟩
   let Pw4:PvL:=λ_ r c=>Same H8 c/\IsQ K c (SW (λ_=>1) (W.take i)+w.2) (.ref pz)/\c kt=some (.tup (w.1.map V.int))/\c De=some (.lst r)/\r=[]
   refine sx (K:=K) (a:=kt) (xs:=w.1.map V.int) Pw4 ⟨a1.trans (Same.new a9),eb.same (Same.new a9),Same.new a9 _ _ as,ad,rfl⟩ (λi r c h=>SqT.of h.2.2.1) (λi r c h=>h.2.2.2.1) ?_ ?_
   .rintro k y r c P' hk ⟨g,a6,a0,j,rfl⟩ a'
    rw[List.getElem?_map]at hk;obtain⟨n,hn,rfl⟩:=Option.map_eq_some_iff.mp hk;have ek:n∈plc ms:=eq n (List.mem_of_getElem? hn);refine⟨⟨rfl,trivial⟩,Dp,_,rfl,.inl (SqL.of (g _ _ S)),rfl,gO _,?_⟩;rw[jg,decide_eq_true ek];exact a' _ _ ⟨g,a6,a0,j,rfl⟩
   .rintro r ee ⟨g,a6,a0,j,rfl⟩
    refine⟨Nat.zero_le _,λe3 bo=>?_⟩;have a4:=Same.new (o:=.lst []) bo;refine v8 (a4 _ _ j) ad ?_;refine⟨pz,_,_,g.trans a4,?_,rfl⟩;have es:=iF (φ:=λ_=>1) M;rw[es,show w.2*1=w.2 by grind];exact a6.same a4
  .rintro σ H9 ⟨cR,x6,x7,s9,q9,rfl⟩
   have e4:Paired (WayS K H9) W ws:=aG (λw x h=>h.tk s9.tk) a2;rw[bm,take_length,J]at q9;refine⟨cX _ _,λbl b5=>?_⟩;have L:=Same.new (o:=.tup [.int 1,.int 1]) b5;have ab:=ad (H:=H9) (a:=bl) (o:=.tup [.int 1,.int 1]);generalize upd H9 bl (.tup [.int 1,.int 1])=c6 at L ab;have f:=s9.trans L;have F:=er.trans f.t;obtain⟨_,z9,ed⟩:=q9.same L;cases z9;refine⟨.tuple [.int 1,.int 1],.tuple [.int 1,.int 1],dk ed.sq,dk (SqT.of ab),bx 1 1,bx 1 1,?_⟩;rw[SeqAt.eqv_refl _ (SeqAt.canLay_of_shaped (bx 1 1))];refine qd (a5.t F) (F.at hl) (hC.tk (SameT.tk F)) pt (dV.same f) λe2 rm xm ca co e6 d2 c1=>?_
   have I:=f.t.trans ca;have O:=I.at S;refine⟨lw,Dp,W,ws,plc ms,D,rfl,I.at G,aG (λw x h=>h.tk (SameT.tk I)) a2,O,by unfold plc;rw[length_map];exact m6,cb,Y,by rw[J];grind,D0,lD,λee rd xd g frd hrd hMd=>?_⟩;rw[b3]at hMd;refine⟨rm,rd,xm,xd,_,rfl,g _ _ d2,hrd,c1.same g.t,hMd,λey b'=>?_⟩;exact q _ (F.trans (ca.trans (g.trans b').t)) ((co.same g).same b')
end
open Tb (Tr fT lT sT ba)
def chn(n:Nat):Nat->Int
 | 0=>1
 | k+1=>chn n k*((n:Int) - (k:Int))/((k:Int)+1)
theorem vM:∀ n,n<7->∀ k,k<8->0<=chn n k/\chn n k<=20:=by decide +kernel
structure Al(n m:Nat)(t:Tr):Prop where
 len:((Tb.kR (Tb.wf t 1)).length:Int)=chn n (min m n)
 nd:((Tb.kR (Tb.wf t 1)).map (·.1)).Nodup
 sh:∀ w∈Tb.kR (Tb.wf t 1),fr w.2=(1,chn n (min m n))
inductive spAlike(K:Frag)(a:Ad)(vs:List V)(H:Hp)(Q:VK)(_E:XK):Prop
 | mk(v:V)(l:Addr)(xs:List V)(ms:List Mb)(m:Nat)(t:Tr)(lo hi:Int)(e:Nat->Nat->Int×Int)(h0:vs=[v,.ref l,.int (m:Nat)])(h1:m<=7)(h2:H l=some (.lst xs))(h3:CrAt H ms xs)(h4:Pt ms)(h5:IsPl a H v ms t lo hi e)(h6:Gt (plc ms) ms.length t lo hi e)(h7:Al ms.length m t)(h8:TabsOk (tabs a) H)(h9:∀ H',SameT H H'->TabsOk (tabs a) H'->Q (.bl true) H'):spAlike K a vs H Q _E
theorem vC{K:Frag}{H:Hp}{p r:Addr}{Q:VK}(b:H p=some (.lst []))(a:H r=some (.lst []))(q:Q (.bl true) H):rEqD K false (.ref p) (.ref r) H Q:=by
 refine⟨_,_,kB b,kB a,gI,gI,?_⟩;rw[SeqAt.eqv_refl _ (SeqAt.canLay_of_shaped gI)];exact q
section
variable {P:Program}{w:World}{K:Frag}{mg:Str->Option Value}{base:Heap}{a:Ad}
theorem qJ(T:Txt K mg a)(hB:Bm mg base):FnOk P w K mg base CX0 14 a.f_R a.d_R ["_law_plan","_law_crowd_here","_law_many"] (spAlike K a):=by
 have bo:FnOk P w K mg base CX0 13 _ _ _ _:=(lI T hB).mono (by decide);have a7:FnOk P w K mg base CX0 13 _ _ _ _:=(ml T hB).mono (by decide);have a9:FnOk P w K mg base CX0 13 _ _ _ _:=(mG T hB).mono (by decide);have bl:FnOk P w K mg base CX0 13 _ _ _ (spWays K a 7):=lb T hB 7;refine T.F_R.ok sc_R (λvs H Q E h=>?_) (λcdv A outer s H vs Q E hr h=>?_)
 .obtain⟨v,l,xs,c,m,t,lo,hi,e,rfl,_⟩:=h;rfl
 .obtain⟨v,l,xs,c,m,t,lo,hi,e,rfl,m7,hl,hC,pt,a4,gt,al,hT,q⟩:=h
  have a6:sizeLine=16777216:=sizeLine_eq;have ab:=hC.len;have m6:=pt.few;refine⟨_,(ak (aA (i:=3) sc_R.nd rfl (Or.inl rfl) (aq bl hr rfl T.m_F T.F_F.kp T.B_F .nil au (aa (PE.or (cV (vr 0) T.cl_k T.mt_E bo hr T.B_E .nil au (aa (vr 1) ae)) (PE.or (cV (vr 0) T.cl_d T.mt_p a7 hr T.B_p .nil au (aa (vr 1) ae)) (cV (vr 0) T.cl_e T.mt_q a9 hr T.B_q .nil au (aa (vr 1) ae)))) (aa (bP (aa ao (aa ao ae))) ae)))) (ak (aA (i:=4) sc_R.nd rfl (Or.inr rfl) ao) (ak (dF PassesOwn.never rfl (dM rfl T.z_range (aa (ar (gM rfl) rfl T.z_min ku (aa (vr 2) (aa (ar ay rfl T.z_len bf (aa (vr 1) ae)) ae))) ae)) (av (i:=5) sc_R.nd rfl (Or.inl rfl)) (aj (aA (i:=4) sc_R.nd rfl (Or.inr rfl) (ax dc (ax cz (vr 4) (ax ge (ar ay rfl T.z_len bf (aa (vr 1) ae)) (vr 5))) (ax dZ (vr 5) ao))))) (ak (cD (PW.pt (g7 (cg sB (ar ay rfl T.z_len bf (aa (vr 3) ae)) (vr 4) (be _)) (gR (cg sB (ar qg rfl T.z_len bf (aa (cf (oa rfl hr.units) rfl T.z_set sL (aa (bT rfl (N:=["_law_kept","_law_much"]) (ix:=[none,none]) ⟨rfl,rfl,rfl,rfl,trivial⟩ (bO (vr 3)) ⟨λC s H fp=>(d3 (K:=K) (n:=2) rfl rfl (az (av (i:=0) (show List.Nodup (["_law_kept","_law_much"]:List Str) by decide +kernel) rfl (Or.inl rfl)) (az (av (i:=1) (show List.Nodup (["_law_kept","_law_much"]:List Str) by decide +kernel) rfl (Or.inl rfl)) cm))),λC s H fp=>cj,λC s H fp=>(vr 0)⟩) ae)) ae)) (vr 4) (be _))))) (aj (aw eK)) aZ) (aj (aw (iH (oA hr.units) (bT rfl (N:=["_law_kept","_law_much","_law_sets"]) (ix:=[none,none,some 4]) ⟨rfl,rfl,rfl,rfl,⟨rfl,rfl,rfl,trivial⟩⟩ (bO (vr 3)) ⟨λC s H fp=>(d3 (K:=K) (n:=2) rfl rfl (az (av (i:=0) (show List.Nodup (["_law_kept","_law_much","_law_sets"]:List Str) by decide +kernel) rfl (Or.inl rfl)) (az (av (i:=1) (show List.Nodup (["_law_kept","_law_much","_law_sets"]:List Str) by decide +kernel) rfl (Or.inl rfl)) cm))),λC s H fp=>gj (cg (vI (K:=K) rfl hr.units) (vr 1) (bP (aa ao (aa (vr 2) ae))) (be _)),λC s H fp=>(vr 1)⟩) (cH ae) (be _)))))))),u7 ?_⟩;intro b0 b2 bq bw
  refine oM a4 hl hC pt hT λH2 u t2 a' hn=>?_
  rw[bQ]at hn;refine⟨cX _ _,λp1 a5=>?_⟩;have s3:=Same.new (o:=.tup [.int 1,.int 1]) a5;have ah:=ad (H:=H2) (a:=p1) (o:=.tup [.int 1,.int 1]);generalize upd H2 p1 (.tup [.int 1,.int 1])=H3 at s3 ah;obtain⟨B,d,B0,B1,a3,hd,a8⟩:=gt.dz;refine⟨u,.ref p1,t,1,B,1,d,[],rfl,iG _,by rw[bQ];exact hn.t s3.t,⟨p1,rfl,.inl ah⟩,Bq.one,by decide,by rw[Nat.one_mul];exact a8,B0,B1,a3,hd,gt.lv,a'.same s3,λU lw ws t4 bd b1 x hW=>?_⟩;have G:=al.len;have a1:=al.nd;have bm:=al.sh;generalize Tb.kR (Tb.wf t 1)=W at *;have Y:=t2.trans (s3.t.trans t4);have X:=Y.at hl;have Z:ws.length=W.length:=hW.length.symm;have cb:=vM c.length (by lia);refine⟨xs,.inl (SqL.of X),_,_,rfl,?_⟩
  have em:(if (xs.length:Int)<(m:Int) then (xs.length:Int) else (m:Int))=((min m c.length:Nat):Int):=by
   rw[ab];split <;> lia
  rw[em];have N7:min m c.length<8:=by lia
  have Nn:min m c.length<=c.length:=Nat.min_le_right _ _;generalize min m c.length=N at *;refine⟨_,rfl,by lia,by lia,?_⟩
  let Pw1:PvS:=λi σ f=>f=U/\∃ x5:Option V,σ=[some v,some (.ref l),some (.int (m:Nat)),some (.ref lw),some (.int (chn c.length i)),x5]
  refine j5 (n:=N) Pw1 ⟨rfl,none,rfl⟩ ?_ ?_
  .rintro i σ f hi ⟨rfl,x5,rfl⟩
   have c1:=cb i (by lia);refine⟨xs,.inl (SqL.of X),clB (by lia) (by lia),cdB (by lia) (show Bt 40 _ by unfold Bt;lia),rfl,some (.int (0+(i:Int))),?_⟩;rw[show chn c.length (i+1)=chn c.length i*((c.length:Int) - (i:Int))/((i:Int)+1) from rfl,ab,Int.zero_add];rfl
  .rintro σ U ⟨rfl,x5,rfl⟩
   have c1:=cb N N7;refine⟨ws,.inl (SqL.of x),?_⟩;refine ot (by rw[Z];exact G) ?_;refine .inl ⟨⟨_,SqL.of x⟩,λD hD=>?_⟩
   let Pw2:PvL:=λi j f=>Same U f/\f D=some (.lst j)/\∃ I:List Addr,j=I.map V.ref/\Paired (λb (k:List Int)=>U b=some (.tup (k.map V.int))) I ((W.take i).map (·.1))
   refine bB (K:=K) (a:=lw) (xs:=ws) Pw2 ⟨Same.new hD,ad,[],rfl,.nil⟩ (λi j f h=>SqL.of (h.1 _ _ x)) (λi j f h=>h.2.1) ?_ ?_
   .rintro i y j f P' hy ⟨s5,R,I,rfl,F⟩ O
    obtain⟨w,J,p,kt,z,rfl,hp,ht,hz⟩:=bc hW hy;have il:I.length<=20:=by rw[F.length,length_map,length_take];lia
    refine⟨p,_,rfl,SqT.of (s5 _ _ hp),rfl,_,_,rfl,_,_,rfl,rfl,trivial,R,by rw[length_map];lia,O _ _ ⟨s5.put hD,ad,I++[kt],by rw[map_append];rfl,?_⟩⟩;rw[take_add_one,J,map_append];exact dy (r:=λb (k:List Int)=>U b=some (.tup (k.map V.int))) ht F
   rintro j H5 ⟨s5,R,I,rfl,F⟩;rw[Z,take_length]at F;refine⟨D,I,_,rfl,SqL.of R,aG (λb k h=>s5 _ _ h) F,a1,by rw[length_map];lia,λg fg=>?_⟩;have s6:=s5.trans (Same.new (o:=.ext (SLo w g (W.map (·.1)).length)) fg);refine⟨g,_,rfl,ad,by rw[length_map];lia,?_⟩;refine ot (by rw[length_map];exact G) ?_;have as:=s6 _ _ x;refine .inl ⟨⟨_,SqL.of as⟩,λD2 bg=>?_⟩
   let Pw3:PvL:=λi j f=>Same U f/\f D2=some (.lst j)/\j=[]
   refine bB (K:=K) (a:=lw) (xs:=ws) Pw3 ⟨s6.trans (Same.new bg),ad,rfl⟩ (λi j f h=>SqL.of (h.1 _ _ x)) (λi j f h=>h.2.1) ?_ ?_
   .rintro i y j f P' hy ⟨S,M,rfl⟩ O
    obtain⟨w,J,p,kt,z,rfl,hp,ht,hz⟩:=bc hW hy;obtain⟨pz,rfl,_⟩:=id hz;refine⟨p,_,rfl,SqT.of (S _ _ hp),rfl,_,_,rfl,_,_,rfl,rfl,⟨rfl,trivial⟩,cX _ _,λp8 a0=>?_⟩;have L:=Same.new (o:=.tup [.int 1,.int (chn c.length N)]) a0;obtain⟨_,z8,an⟩:=hz.same (S.trans L);cases z8;rw[bm w (List.mem_of_getElem? J)]at an;refine⟨.tuple [.int 1,.int (chn c.length N)],.tuple [.int 1,.int (chn c.length N)],dk an.sq,dk (SqT.of ad),bx _ _,bx _ _,?_⟩;rw[SeqAt.eqv_refl _ (SeqAt.canLay_of_shaped (bx _ _))];exact O _ _ ⟨S.trans L,L _ _ M,rfl⟩
   rintro j H7 ⟨S,M,rfl⟩;refine⟨Nat.zero_le _,λl8 a2=>?_⟩;have L:=Same.new (o:=.lst []) a2;refine vC (L _ _ M) ad ?_;exact q _ (Y.trans (S.trans L).t) ((bd.same S).same L)
end
open Tb (Tr fT lT sT ba)
structure Mth:Prop where
 few:∀(ms:List Mb) (m:Nat),Pt ms->m<=7->Gt (plc ms) ms.length (fT (plc ms) m []) ((min m ms.length:Nat):Int) ((min m ms.length:Nat):Int) (gb ms.length (min m ms.length))/\Al ms.length m (fT (plc ms) m [])
 start:∀(ms:List Mb) (m:Nat),Pt ms->1<=m->m<=8->Gt (plc ms) ms.length (stT (plc ms) m) ((ms.length:Int)/(m:Int)) (((ms.length:Int)+(m:Int) - 1)/(m:Int)) (eS m)
 loose:∀(ms:List Mb) (m:Nat),Pt ms->m<=7->Gt (plc ms) ms.length (lT (gv (lsL ms m)) (fV (lsL ms m))) (cF (due (szs ms) (m:Nat)) 1 1) (((due (szs ms) (m:Nat)).length:Int) - cF (due (szs ms) (m:Nat)) 0 1) (eL (due (szs ms) (m:Nat)))
theorem rk{a:Ad}{c:List Addr}{H:Hp}(b:∀ q∈tabs a,q.1∈c)(h:∀ P∈c,H P=some (.tbl #[])):TabsOk (tabs a) H:=λq d=>⟨#[],h _ (b q d),trivial,λ_ _=>.inl rfl⟩
section
variable {P:Program}{w:World}{K:Frag}{mg:Str->Option Value}{base:Heap}{a:Ad}
theorem tz{ts:List Addr}(M:Mth)(T:Txt K mg a)(hB:Bm mg base)(b1:∀ q∈tabs a,q.1∈ts):FnOk P w K mg base CX0 15 a.f_ae a.d_ae ["_law_script"] (spLaw K ts):=by
 have ah:FnOk P w K mg base CX0 14 _ _ _ _:=(oG T).mono (by decide);have a5:FnOk P w K mg base CX0 14 _ _ _ _:=(rV T).mono (by decide);have bl:FnOk P w K mg base CX0 14 _ _ _ (spGood K a):=tY T hB;have a6:FnOk P w K mg base CX0 14 _ _ _ (spAlike K a):=qJ T hB;have Z:FnOk P w K mg base CX0 13 _ _ _ _:=(ww T).mono (by decide);have b4:FnOk P w K mg base CX0 13 _ _ _ _:=(sW T).mono (by decide);have bd:FnOk P w K mg base CX0 13 _ _ _ _:=(qZ T).mono (by decide);refine T.F_ae.ok sc_ae (λvs H Q E h=>?_) (λcdv A outer s H vs Q E hr h=>?_)
 .obtain⟨p,l,rfl,_⟩:=h;rfl
 .obtain⟨p,l,rfl,hS,u,bo,q⟩:=h
  have bg:sizeLine=16777216:=sizeLine_eq;have hT:=rk b1 bo;refine⟨_,(ak (aA (i:=1) sc_ae.nd rfl (Or.inl rfl) (aq a5 hr rfl T.m_K T.F_K.kp T.B_K .nil au (aa (vr 0) (aa ao (aa ao ae))))) (ak (aA (i:=2) sc_ae.nd rfl (Or.inl rfl) (ax dI (aq ah hr rfl T.m_C T.F_C.kp T.B_C .nil au (aa (vr 0) (aa ao ae))) ao)) (ak (dF PassesOwn.never rfl (bO (cH (aa (cU T.mk_k Z hr rfl T.mc_k T.Bi_k .nil au (aa (vr 2) ae)) (aa (cU T.mk_e bd hr rfl T.mc_e T.Bi_e .nil au (aa (vr 2) ae)) (aa (cU T.mk_d b4 hr rfl T.mc_d T.Bi_d .nil au (aa (ax dZ ao (ax dI (aq ah hr rfl T.m_C T.F_C.kp T.B_C .nil au (aa (vr 0) (aa ao ae))) ao)) ae)) ae))))) (av (i:=3) sc_ae.nd rfl (Or.inl rfl)) (aj (cD (dS (eJ (aq bl hr rfl T.m_S T.F_S.kp T.B_S .nil au (aa (vr 3) (aa (cf gp rfl T.z_list eN (aa (vr 1) ae)) ae))))) (aj (aw eK)) aZ))) (aj (aw (aq a6 hr rfl T.m_R T.F_R.kp T.B_R .nil au (aa (cU T.mk_k Z hr rfl T.mc_k T.Bi_k .nil au (aa (vr 2) ae)) (aa (vr 1) (aa (vr 2) ae))))))))),mH ?_⟩;intro b2 cb co;refine⟨p,l,rfl,hS,u,λH1 r n xs s1 cs a8 hC N=>?_⟩;have ck:=hC.len;refine⟨p,l,4,rfl,s1.seq hS,u,by decide,by decide,cp,?_⟩
  obtain⟨m,hm⟩:∃ m:Nat,bX l 4 % 8=(m:Int):=⟨(bX l 4 % 8).toNat,by have:=Int.emod_nonneg (bX l 4) (show(8:Int)≠0 by decide);lia⟩
  have m7:m<=7:=by have:=Int.emod_lt_of_pos (bX l 4) (show(0:Int)<8 by decide);lia
  dsimp only;rw[hm];have a':=hT.same s1;intro k f a4 a2 b6;refine⟨k,f,m,rfl,ad,by lia,⟨rfl,?_⟩⟩;rw[cE];have s2:Same H1 (upd (upd H1 f (.own k)) k (.ins a.c_k f [("many",.int (m:Nat))])):=iV a4 a2;have al:=ad (H:=upd H1 f (.own k)) (a:=k) (o:=.ins a.c_k f [("many",.int (m:Nat))]);generalize upd (upd H1 f (.own k)) k (.ins a.c_k f [("many",.int (m:Nat))])=H2 at s2 al;intro j c Y ab b';refine⟨j,c,m,rfl,ad,by lia,⟨rfl,?_⟩⟩;rw[cE];have s3:Same H2 (upd (upd H2 c (.own j)) j (.ins a.c_e c [("many",.int (m:Nat))])):=iV Y ab;have W:=ad (H:=upd H2 c (.own j)) (a:=j) (o:=.ins a.c_e c [("many",.int (m:Nat))]);generalize upd (upd H2 c (.own j)) j (.ins a.c_e c [("many",.int (m:Nat))])=H3 at s3 W;have bw:=s1.trans (s2.trans s3);refine⟨p,l,5,rfl,bw.seq hS,u,by decide,by decide,cp,?_⟩
  obtain⟨st,hst⟩:∃ st:Nat,1+bX l 5 % 8=(st:Int):=⟨(1+bX l 5 % 8).toNat,by have:=Int.emod_nonneg (bX l 5) (show(8:Int)≠0 by decide);lia⟩
  have J:1<=st:=by have:=Int.emod_nonneg (bX l 5) (show(8:Int)≠0 by decide);lia
  have a1:st<=8:=by have:=Int.emod_lt_of_pos (bX l 5) (show(0:Int)<8 by decide);lia
  dsimp only[u9];rw[hst];intro g b an X ca;refine⟨g,b,st,rfl,ad,J,by lia,⟨rfl,?_⟩⟩;rw[cE];have s4:Same H3 (upd (upd H3 b (.own g)) g (.ins a.c_d b [("step",.int (st:Nat))])):=iV an X;have as:=ad (H:=upd H3 b (.own g)) (a:=g) (o:=.ins a.c_d b [("step",.int (st:Nat))]);generalize upd (upd H3 b (.own g)) g (.ins a.c_d b [("step",.int (st:Nat))])=H4 at s4 as;refine⟨by show 3<=sizeLine;decide,λlp b3=>?_⟩;have s5:=Same.new (o:=.lst [.ref k,.ref j,.ref g]) b3;have G:=ad (H:=H4) (a:=lp) (o:=.lst [.ref k,.ref j,.ref g]);generalize upd H4 lp (.lst [.ref k,.ref j,.ref g])=H5 at s5 G;have I:=s2.trans (s3.trans (s4.trans s5));have bq:=a'.same I;have U:=I _ _ a8;have a0:=hC.tk I.tk;have p1:IsPl a H5 (.ref k) n _ _ _ _:=.inl ⟨m,⟨k,f,rfl,(s3.trans (s4.trans s5)) _ _ al⟩,rfl,rfl,rfl,rfl⟩;have p2:IsPl a H5 (.ref g) n _ _ _ _:=.inr (.inl ⟨st,⟨g,b,rfl,s5 _ _ as⟩,J,a1,rfl,rfl,rfl,rfl⟩);have p3:IsPl a H5 (.ref j) n _ _ _ _:=.inr (.inr ⟨m,⟨j,c,rfl,(s4.trans s5) _ _ W⟩,m7,rfl,rfl,rfl,rfl⟩)
  have R:∀(i:Nat) (y:V),[V.ref k,V.ref j,V.ref g][i]? = some y->∃(t:Tr) (lo hi:Int) (e:Nat->Nat->Int×Int),IsPl a H5 y n t lo hi e/\Gt (plc n) n.length t lo hi e:=λi y C=>by
   match i,C with
   | 0,C=>cases C;exact⟨_,_,_,_,p1,(M.few n m N m7).1⟩
   | 1,C=>cases C;exact⟨_,_,_,_,p3,M.loose n m N m7⟩
   | 2,C=>cases C;exact⟨_,_,_,_,p2,M.start n st N J a1⟩
  let Pw1:PvS:=λi O v=>∃ g:Option V,SameT H5 v/\TabsOk (tabs a) v/\O=[some (.ref p),some (.ref r),some (.int (m:Nat)),g]
  refine .inl ⟨⟨_,SqL.of G⟩,dQ (K:=K) (D:={ nx:=λO v=>b2 { nx:=λx v=>Q V.non v,rt:=Q } O v,rt:=Q }) (a:=lp) (xs:=[.ref k,.ref j,.ref g]) Pw1 ⟨none,SameT.refl,bq,rfl⟩ (λi O v _ h=>let ⟨_,e,_⟩:=h;SqL.of (e.at G)) ?_ ?_⟩
  .rintro i y O v C ⟨z3,t6,L,rfl⟩
   obtain⟨t,lo,hi,e,a7,gt⟩:=R i y C;refine⟨r,xs,rfl,.inl (SqL.of (t6.at U)),λl7 b0=>?_⟩;have s7:=Same.new (o:=.lst xs) b0;have S:=ad (H:=v) (a:=l7) (o:=.lst xs);generalize upd v l7 (.lst xs)=H7 at s7 S;have t7:=t6.trans s7.t;exact⟨y,l7,xs,n,t,lo,hi,e,rfl,S,a0.tk (SameT.tk t7),N,a7.t t7,gt,L.same s7,λH8 t8 bm=>⟨_,t7.trans t8,bm,rfl⟩⟩
  .rintro O H6 ⟨z3,t6,L,rfl⟩
   intro B d a9 a3 b5;refine⟨B,d,m,rfl,ad,by lia,⟨rfl,?_⟩⟩;rw[cE];have s9:Same H6 (upd (upd H6 d (.own B)) B (.ins a.c_k d [("many",.int (m:Nat))])):=iV a9 a3;have F:=ad (H:=upd H6 d (.own B)) (a:=B) (o:=.ins a.c_k d [("many",.int (m:Nat))]);generalize upd (upd H6 d (.own B)) B (.ins a.c_k d [("many",.int (m:Nat))])=H9 at s9 F;have t9:=t6.trans s9.t;obtain⟨g1,g2⟩:=M.few n m N m7;exact⟨.ref B,r,xs,n,m,_,_,_,_,rfl,m7,t9.at U,a0.tk (SameT.tk t9),N,.inl ⟨m,⟨B,d,rfl,F⟩,rfl,rfl,rfl,rfl⟩,g1,g2,L.same s9,λch _ _=>q _⟩
end
end My
namespace Tb
open FrM Du
def mp(f:Int->Int)(W:Rws):Rws:=W.map λw=>(w.1.map f,w.2)
def rg(n:Nat):List Int:=(List.range n).map λ(i:Nat)=>(i:Int)
theorem wW(f:Int->Int)(A B:Rws):mp f (A++B)=mp f A++mp f B:=by unfold mp;rw[map_append]
def wF:List Int->Nat->List Int->Rat->Rws
 | [],_,t,q=>[(t,q)]
 | x::r,w,t,q=>if w=0 then [(t,q)] else if r.length+1<=w then [(t++x::r,q)] else wF r (w - 1) (t++[x]) (q*(((w:Int):Rat)/(((w:Int)+((r.length:Int)+1 - (w:Int)):Int):Rat)))++wF r w t (q*((((r.length:Int)+1 - (w:Int):Int):Rat)/(((w:Int)+((r.length:Int)+1 - (w:Int)):Int):Rat)))
theorem wU(a b:Int)(t u:Tr):tot [(a,t),(b,u)]=a+b:=by unfold tot;simp
theorem wf2(a b:Int)(t u:Tr)(q:Rat):wf (.die [(a,t),(b,u)]) q=wf t (q*((a:Rat)/((a+b:Int):Rat)))++wf u (q*((b:Rat)/((a+b:Int):Rat))):=by
 rw[wf,wU,wfs,wfs,wfs,append_nil]
theorem wf_fT:∀(l:List Int) (w:Nat) (t:List Int) (q:Rat),wf (fT l w t) q=wF l w t q
 | [],w,t,q=>by rw[fT,wF,wf]
 | x::r,w,t,q=>by
  rw[fT,wF]
  split
  .rw[wf]
  .split
   .rw[wf]
   .rw[wf2,wf_fT r,wf_fT r]
theorem wF_map(f:Int->Int):∀(l:List Int) (w:Nat) (t:List Int) (q:Rat),wF (l.map f) w (t.map f) q=mp f (wF l w t q)
 | [],w,t,q=>rfl
 | x::r,w,t,q=>by
  rw[map_cons,wF,wF,length_map]
  split
  .rfl
  .split
   .show [(_,_)]=[(_,_)]
    rw[map_append,map_cons]
   .have e:t.map f++[f x]=(t++[x]).map f:=by rw[map_append];rfl
    rw[e,wF_map f r,wF_map f r,wW]
theorem every_map(f:Int->Int)(ps:List Int)(a st:Nat):ba (ps.map f) a st=(ba ps a st).map f:=by
 unfold ba;rw[length_map,List.map_filterMap]
 congr 1
 funext k
 rw[List.getElem?_map]
def wS(ps:List Int)(st:Nat):Rws:=(List.range st).map λf=>(ba ps f st,1*(((1:Int):Rat)/((st:Int):Rat)))
theorem sO(S:Int)(g:Nat->List Int)(q:Rat):∀ fs:List Nat,wfs (fs.map λf=>((1:Int),Tr.leaf (g f))) q S=fs.map λf=>(g f,q*(((1:Int):Rat)/(S:Rat)))
 | []=>by rw[map_nil,wfs];rfl
 | f::fs=>by rw[map_cons,wfs,wf,sO S g q fs];rfl
theorem iL(g:Nat->List Int):∀ fs:List Nat,tot (fs.map λf=>((1:Int),Tr.leaf (g f)))=(fs.length:Int)
 | []=>rfl
 | f::fs=>by
  have:=iL g fs;unfold tot at *;rw[map_cons,map_cons,sum_cons,this,length_cons];lia
theorem wf_sT(ps:List Int)(st:Nat):wf (sT ps st) 1=wS ps st:=by
 unfold sT wS;rw[wf,iL,sO,length_range]
theorem wS_map(f:Int->Int)(ps:List Int)(st:Nat):wS (ps.map f) st=mp f (wS ps st):=by
 unfold wS mp;rw[map_map];refine map_congr_left λk _=>?_
 rw[every_map];rfl
theorem kR_id{W:Rws}(h:∀ w∈W,w.1.Pairwise (·<=·)):kR W=W:=by
 unfold kR;have:∀ w∈W,(so w.1,w.2)=id w:=λw a=>by rw[<- so_uniq (List.Perm.refl w.1) (h w a)];rfl
 rw[map_congr_left this,List.map_id]
theorem SW_mp(φ:List Int->Rat)(f:Int->Int)(W:Rws):SW φ (mp f W)=SW (λk=>φ (k.map f)) W:=by
 unfold SW mp;rw[map_map];rfl
def at_(ps:List Int)(i:Int):Int:=ps.getD i.toNat 0
theorem at_rg(ps:List Int):(rg ps.length).map (at_ ps)=ps:=by
 unfold rg;rw[map_map];refine List.ext_getElem (by simp) λi b a=>?_
 simp[at_,List.getD,a]
theorem sF{ps:List Int}(c:ps.Pairwise (· < ·)){i j:Int}(f:0<=i)(d:i<j)(e:j<(ps.length:Int)):at_ ps i<at_ ps j:=by
 unfold at_;have b:i.toNat<ps.length:=by lia
 have a:j.toNat<ps.length:=by lia
 rw[List.getD_eq_getElem?_getD,List.getD_eq_getElem?_getD,List.getElem?_eq_getElem b,List.getElem?_eq_getElem a];exact List.pairwise_iff_getElem.mp c i.toNat j.toNat b a (by lia)
theorem at_inj{ps:List Int}(a:ps.Pairwise (· < ·)){i j:Int}(g:0<=i)(b:i<(ps.length:Int))(f:0<=j)(d:j<(ps.length:Int))(e:at_ ps i=at_ ps j):i=j:=by
 by_cases c:i<j
 .have:=sF a g c d;lia
 .by_cases c2:j<i
  .have:=sF a f c2 b;lia
  .lia
theorem at_mem{ps:List Int}{i:Int}(b:0<=i)(c:i<(ps.length:Int)):at_ ps i∈ps:=by
 unfold at_;have a:i.toNat<ps.length:=by lia
 rw[List.getD_eq_getElem?_getD,List.getElem?_eq_getElem a];exact getElem_mem a
def InR(n:Nat)(k:List Int):Prop:=∀ x∈k,0<=x/\x<(n:Int)
theorem up_at{ps:List Int}(b:ps.Pairwise (· < ·)):∀{k:List Int},InR ps.length k->k.Pairwise (· < ·)->(k.map (at_ ps)).Pairwise (· < ·)
 | [],_,_=>.nil
 | x::k,h,p=>by
  rw[pairwise_cons]at p;rw[map_cons,pairwise_cons];refine⟨λy c=>?_,up_at b (λz a=>h z (mem_cons_of_mem _ a)) p.2⟩;obtain⟨z,a,rfl⟩:=mem_map.mp c;exact sF b (h x mem_cons_self).1 (p.1 z a) (h z (mem_cons_of_mem _ a)).2
theorem qQ{ps:List Int}(b:ps.Pairwise (· < ·)){k:List Int}(h:InR ps.length k){i:Int}(c:0<=i)(d:i<(ps.length:Int)):at_ ps i∈k.map (at_ ps)↔i∈k:=by
 rw[mem_map];refine⟨λ⟨z,a,e⟩=>?_,λhi=>⟨i,hi,rfl⟩⟩;rw[<- at_inj b (h z a).1 (h z a).2 c d e];exact a
theorem phi_at{ps:List Int}(a:ps.Pairwise (· < ·)){k:List Int}(h:InR ps.length k){i j:Int}(g:0<=i)(b:i<(ps.length:Int))(f:0<=j)(d:j<(ps.length:Int)):cY (at_ ps i) (at_ ps j) (k.map (at_ ps))=cY i j k:=by
 unfold cY ind;have e:(at_ ps i∈k.map (at_ ps)/\at_ ps j∈k.map (at_ ps))↔(i∈k/\j∈k):=by rw[qQ a h g b,qQ a h f d]
 by_cases c:i∈k/\j∈k
 .rw[if_pos c,if_pos (e.mpr c)]
 .rw[if_neg c,if_neg (λz=>c (e.mp z))]
theorem SW_congr{φ ψ:List Int->Rat}:∀{W:Rws},(∀ w∈W,φ w.1=ψ w.1)->SW φ W=SW ψ W:=λ{W} h=>by
 unfold SW
 congr 1
 exact map_congr_left λw a=>by rw[h w a]
theorem oC{ps:List Int}(b:ps.Pairwise (· < ·)):∀{k l:List Int},InR ps.length k->InR ps.length l->k.map (at_ ps)=l.map (at_ ps)->k=l
 | [],[],_,_,_=>rfl
 | [],_::_,_,_,e=>by simp at e
 | _::_,[],_,_,e=>by simp at e
 | x::k,y::l,h,g,e=>by
  rw[map_cons,map_cons]at e;injection e with e1 e2
  have c:=h x mem_cons_self;have d:=g y mem_cons_self;rw[at_inj b c.1 c.2 d.1 d.2 e1,oC b (λz a=>h z (mem_cons_of_mem _ a)) (λz a=>g z (mem_cons_of_mem _ a)) e2]
theorem nd_mp{ps:List Int}(b:ps.Pairwise (· < ·)):∀{W:Rws},(∀ w∈W,InR ps.length w.1)->(W.map (·.1)).Nodup->((mp (at_ ps) W).map (·.1)).Nodup
 | [],_,_=>nodup_nil
 | w::W,h,nd=>by
  rw[map_cons,nodup_cons]at nd;show(w.1.map (at_ ps)::(mp (at_ ps) W).map (·.1)).Nodup;rw[nodup_cons];refine⟨λz=>nd.1 ?_,nd_mp b (λx a=>h x (mem_cons_of_mem _ a)) nd.2⟩;unfold mp at z;rw[map_map]at z;obtain⟨x,a,e⟩:=mem_map.mp z;have:=oC b (h x (mem_cons_of_mem _ a)) (h w mem_cons_self) e;rw[<- this];exact mem_map.mpr ⟨x,a,rfl⟩
theorem fT_dz{B:Nat}(c:6<=B):∀(l:List Int) (w:Nat) (t:List Int),l.length<=6->l.length+t.length<=24->(t++l).Nodup->Dz B l.length (fT l w t)
 | [],w,t,_,h,nd=>by rw[fT,Dz];simp only[append_nil]at nd;exact⟨nd,by simpa using h⟩
 | x::r,w,t,h6,h,nd=>by
  rw[length_cons]at h6 h;rw[fT]
  split
  .rw[Dz]
   exact⟨(nodup_append.mp nd).1,by lia⟩
  .split
   .rw[Dz]
    exact⟨nd,by rw[length_append,length_cons];lia⟩
   .rw[length_cons,Dz,wU,Dzs,Dzs,Dzs]
    have b:((t++[x])++r).Nodup:=by rw[append_assoc];exact nd
    have a:(t++r).Nodup:=nd.sublist ((List.sublist_cons_self x r).append_left t);exact⟨by show 1<=2;decide,by show 2<=8;decide,by lia,by lia,fT_dz c r _ _ (by lia) (by rw[length_append,length_singleton];lia) b,by lia,fT_dz c r _ _ (by lia) (by lia) a,trivial⟩
theorem sg{B:Nat}(g:Nat->List Int):∀{fs:List Nat},(∀ f∈fs,(g f).Nodup/\(g f).length<=24)->Dzs B 0 (fs.map λf=>((1:Int),Tr.leaf (g f)))
 | [],_=>by rw[map_nil,Dzs];trivial
 | f::fs,h=>by
  rw[map_cons,Dzs,Dz];exact⟨Int.le_refl 1,h f mem_cons_self,sg g λx a=>h x (mem_cons_of_mem _ a)⟩
theorem sT_dz{ps:List Int}{st:Nat}(c:1<=st)(b:st<=8)(h:∀ f,f<st->(ba ps f st).Nodup/\(ba ps f st).length<=24):Dz 8 1 (sT ps st):=by
 unfold sT;rw[Dz,iL,length_map,length_range];exact⟨c,b,by lia,sg _ λf a=>h f (mem_range.mp a)⟩
end Tb
namespace My
open PySem L2 FrM Du
open Tb (Tr fT lT sT ba rg wF wS mp at_ InR)
def ckW(n:Nat)(lo hi D:Nat)(e:Nat->Nat->Int×Int)(W:Rws):Bool :=
 W.all (λw=>decide (w.1.Pairwise (· < ·)) && w.1.all (λx=>decide (0<=x) && decide (x<(n:Int))) && decide (lo<=w.1.length) && decide (w.1.length<=hi) && decide (0<=w.2) && decide (w.2<=1) && decide (w.2*(D:Rat)=1)) && W.any (λw=>decide (w.1.length=lo)) && W.any (λw=>decide (w.1.length=hi)) && decide (SW (λ_=>1) W=1) && decide (0<D) && decide (D<=1000) && decide (W.length<=128) && decide (hi<=6) &&
 (List.range n).all (λi=>(List.range n).all λj=>decide (fr (SW (cY (i:Nat) (j:Nat)) W)=e i j))
def ckA(c:Int)(W:Rws):Bool:=decide ((W.length:Int)=c) && decide ((W.map (·.1)).Nodup) && W.all λw=>decide (fr w.2=(1,c))
def ckF(n m:Nat):Bool:=ckW n (min m n) (min m n) (chn n (min m n)).toNat (gb n (min m n)) (wF (rg n) m [] 1) && ckA (chn n (min m n)) (wF (rg n) m [] 1)
theorem uH:∀ n,n<7->∀ m,m<8->ckF n m=true:=by decide +kernel
theorem eps(ps:List Int):ps=(List.range ps.length).map λ(i:Nat)=>at_ ps (i:Int):=by
 have:=Tb.at_rg ps;unfold Tb.rg at this;rw[map_map]at this;exact this.symm
theorem ro{ps:List Int}(E:ps.Pairwise (· < ·)){t:Tr}{lo l D:Nat}{e:Nat->Nat->Int×Int}{W:Rws}(F:Tb.wf t 1=mp (at_ ps) W)(A:ckW ps.length lo l D e W=true)
  (J:∃ B d:Nat,0<B/\B<=1000000000/\Tb.Dz B d t/\d<7/\B ^ d<Lm):Tb.kR (Tb.wf t 1)=mp (at_ ps) W/\Gt ps ps.length t (lo:Int) (l:Int) e:=by
 unfold ckW at A;simp only[Bool.and_eq_true,all_eq_true,any_eq_true,decide_eq_true_eq]at A;obtain⟨⟨⟨⟨⟨⟨⟨⟨c,r⟩,o⟩,m⟩,u⟩,q⟩,H⟩,M⟩,n⟩:=A;have g:∀ w∈W,InR ps.length w.1:=λw h=>(c w h).1.1.1.1.1.2
 have k:∀ w∈W,(w.1.map (at_ ps)).Pairwise (· < ·):=λw h=>Tb.up_at E (g w h) (c w h).1.1.1.1.1.1
 have G:Tb.kR (Tb.wf t 1)=mp (at_ ps) W:=by
  rw[F];refine Tb.kR_id λw h=>?_
  obtain⟨x,f,rfl⟩:=mem_map.mp h;exact(k x f).imp λ{a b} z=>by lia
 have L:Tb.lv t=W.length:=by rw[<- Tb.wf_len t 1,F];unfold Tb.mp;rw[length_map]
 refine⟨G,⟨J,by lia,⟨D,u,Nat.lt_of_le_of_lt q (by decide),?_⟩,?_,?_,?_,?_,?_⟩⟩ <;> rw[G]
 .intro w h
  obtain⟨x,f,rfl⟩:=mem_map.mp h;exact⟨(c x f).1.1.2,(c x f).1.2,1,by rw[(c x f).2];rfl⟩
 .rw[Tb.SW_mp];exact m
 .intro w h
  obtain⟨x,f,rfl⟩:=mem_map.mp h;refine⟨(k x f).imp λ{a b} z=>by lia,(k x f).imp λ{a b} z=>by lia,λy hy=>?_,?_⟩
  .obtain⟨z,I,rfl⟩:=mem_map.mp hy
   exact Tb.at_mem (g x f z I).1 (g x f z I).2
  .have:=(c x f).1.1.1.2
   show(x.1.map (at_ ps)).length<=6;rw[length_map];lia
 .refine⟨λw h=>?_,?_⟩
  .obtain⟨x,f,rfl⟩:=mem_map.mp h
   have:=(c x f).1.1.1.1.2;show(lo:Int)<=((x.1.map (at_ ps)).length:Int);rw[length_map];lia
  .obtain⟨x,f,K⟩:=r
   refine⟨_,mem_map.mpr ⟨x,f,rfl⟩,?_⟩;show((x.1.map (at_ ps)).length:Int)=_;rw[length_map];lia
 .refine⟨λw h=>?_,?_⟩
  .obtain⟨x,f,rfl⟩:=mem_map.mp h
   have:=(c x f).1.1.1.2;show((x.1.map (at_ ps)).length:Int)<=(l:Int);rw[length_map];lia
  .obtain⟨x,f,K⟩:=o
   refine⟨_,mem_map.mpr ⟨x,f,rfl⟩,?_⟩;show((x.1.map (at_ ps)).length:Int)=_;rw[length_map];lia
 .have v:∀ i:Nat,i<ps.length->kW (mp (at_ ps) W) ps (at_ ps (i:Int))=oe ps.length e i:=λi l=>by
   unfold kW oe;refine(congrArg (List.map λj=>fr (SW (cY (at_ ps (i:Int)) j) (mp (at_ ps) W))) (eps ps)).trans ?_;rw[map_map];refine map_congr_left λj C=>?_
   have C:=mem_range.mp C;show fr (SW (cY (at_ ps (i:Int)) (at_ ps (j:Int))) (mp (at_ ps) W))=e i j;rw[Tb.SW_mp,Tb.SW_congr (ψ:=cY (i:Int) (j:Int)) λw h=>Tb.phi_at E (g w h) (by lia) (by lia) (by lia) (by lia)];exact n i (mem_range.mpr l) j (mem_range.mpr C)
  unfold ud ma;refine(congrArg (List.map (kW (mp (at_ ps) W) ps)) (eps ps)).trans ?_;rw[map_map];exact map_congr_left λi l=>v i (mem_range.mp l)
theorem wM(c:List Mb)(m:Nat)(pt:Pt c)(u:m<=7):Gt (plc c) c.length (fT (plc c) m []) ((min m c.length:Nat):Int) ((min m c.length:Nat):Int) (gb c.length (min m c.length))/\Al c.length m (fT (plc c) m []):=by
 have q:(plc c).length=c.length:=by unfold plc;rw[length_map]
 have j:=pt.up;have k:=pt.few;rw[<- q]at k ⊢;generalize plc c=ps at *;have e:=uH ps.length (by lia) m (by lia);unfold ckF at e;rw[Bool.and_eq_true]at e
 have r:Tb.wf (fT ps m []) 1=mp (at_ ps) (wF (rg ps.length) m [] 1):=by
  rw[Tb.wf_fT,<- Tb.wF_map,map_nil,Tb.at_rg]
 have n:ps.Nodup:=j.imp λ{a b} z=>by lia
 obtain⟨o,g⟩:=ro j r e.1 ⟨6,ps.length,by decide,by decide,Tb.fT_dz (Nat.le_refl _) ps m [] (by lia) (by simp;lia) (by simpa using n),by lia,Nat.lt_of_le_of_lt (Nat.pow_le_pow_right (by decide) (show ps.length<=6 by lia)) (by decide)⟩;refine⟨g,?_⟩;have d:=e.2;have i:=e.1;unfold ckA at d;unfold ckW at i;simp only[Bool.and_eq_true,all_eq_true,any_eq_true,decide_eq_true_eq]at i d;have f:∀ w∈wF (rg ps.length) m [] 1,InR ps.length w.1:=λw h=>(i.1.1.1.1.1.1.1.1 w h).1.1.1.1.1.2
 refine⟨?_,?_,?_⟩ <;> rw[o]
 .unfold Tb.mp;rw[length_map];exact d.1.1
 .exact Tb.nd_mp j f d.1.2
 .intro w h
  obtain⟨x,l,rfl⟩:=mem_map.mp h;exact d.2 x l
def ckS(n m:Nat):Bool:=if m=1\/n=0 then ckW n (n/m) ((n+m - 1)/m) 1 (eS m) [(rg n,1)] else ckW n (n/m) ((n+m - 1)/m) m (eS m) (wS (rg n) m) && (List.range m).all λf=>decide ((ba (rg n) f m).Nodup) && decide ((ba (rg n) f m).length<=24)
theorem tq:∀ n,n<7->∀ m,m<9->1<=m->ckS n m=true:=by decide +kernel
theorem sf(d:List Mb)(m:Nat)(pt:Pt d)(j:1<=m)(r:m<=8):Gt (plc d) d.length (stT (plc d) m) ((d.length:Int)/(m:Int)) (((d.length:Int)+(m:Int) - 1)/(m:Int)) (eS m):=by
 have v:(plc d).length=d.length:=by unfold plc;rw[length_map]
 have h:=pt.up;have o:=pt.few;rw[<- v]at o ⊢;generalize plc d=ps at *;have e:=tq ps.length (by lia) m (by lia) j;have w:((ps.length:Int)/(m:Int))=((ps.length/m:Nat):Int):=by lia
 have x:(((ps.length:Int)+(m:Int) - 1)/(m:Int))=(((ps.length+m - 1)/m:Nat):Int):=by
  rw[show((ps.length:Int)+(m:Int) - 1)=((ps.length+m - 1:Nat):Int) by lia];lia
 rw[w,x];have u:ps.Nodup:=h.imp λ{a b} z=>by lia
 have l:ps=[]↔ps.length=0:=by simp
 unfold ckS at e;unfold stT
 by_cases c:m=1\/ps=[]
 .rw[if_pos (c.imp id l.mp)]at e
  rw[if_pos c];refine(ro h (W:=[(rg ps.length,1)]) ?_ e ⟨1,0,by decide,by decide,by rw[Tb.Dz];exact⟨u,by lia⟩,by decide,by decide⟩).2;rw[Tb.wf];show [(ps,(1:Rat))]=[((rg ps.length).map (at_ ps),1)];rw[Tb.at_rg]
 .rw[if_neg (λz=>c (z.imp id l.mpr))]at e
  rw[if_neg c];rw[Bool.and_eq_true]at e;have k:∀ f,ba ps f m=(ba (rg ps.length) f m).map (at_ ps):=λf=>by rw[<- Tb.every_map,Tb.at_rg]
  refine(ro h (W:=wS (rg ps.length) m) ?_ e.1 ⟨8,1,by decide,by decide,Tb.sT_dz j r λf n=>?_,by decide,by decide⟩).2
  .rw[Tb.wf_sT,<- Tb.wS_map,Tb.at_rg]
  .have g:=e.1
   unfold ckW at g;simp only[Bool.and_eq_true,all_eq_true,any_eq_true,decide_eq_true_eq]at g;have q:((ba (rg ps.length) f m,1*(((1:Int):Rat)/((m:Int):Rat))):List Int×Rat)∈wS (rg ps.length) m:=mem_map.mpr ⟨f,mem_range.mpr n,rfl⟩;have i:=g.1.1.1.1.1.1.1.1 _ q;have y:=g.1.2;refine⟨by rw[k];exact(Tb.up_at h i.1.1.1.1.1.2 i.1.1.1.1.1.1).imp λ{a b} z=>by lia,?_⟩;rw[k,length_map];have:=i.1.1.1.2;lia
end My
namespace Tb
open FrM Du
abbrev TL:=List (Int×(Int×Int))
def Un(tl:TL):Prop:=∀ x∈tl,0<x.2.1/\x.2.1<x.2.2
def pq(c:Int×Int):Rat:=(c.1:Rat)/(c.2:Rat)
theorem Un.tl{x:Int×(Int×Int)}{r:TL}(h:Un (x::r)):Un r:=λy a=>h y (mem_cons_of_mem _ a)
theorem pp{c:Int×Int}(h:0<c.2):((c.2 - c.1:Int):Rat)/(c.2:Rat)=1 - pq c:=by
 unfold pq;have:(c.2:Rat)≠0:=by intro z;have:c.2=0:=(by exact_mod_cast z);lia
 push_cast
 grind
theorem j9{p:Int}{c:Int×Int}{r:TL}{t:List Int}{q:Rat}(h:0<c.2):wf (lT ((p,c)::r) t) q=wf (lT r (t++[p])) (q*pq c)++wf (lT r t) (q*(1 - pq c)):=by
 rw[lT,wf2,show c.1+(c.2 - c.1)=c.2 by lia,pp h];rfl
theorem kT(φ:List Int->Rat)(A B:Rws):SW φ (A++B)=SW φ A+SW φ B:=by unfold SW;rw[map_append,List.sum_append]
def prl:TL->Int->Rat
 | [],_=>0
 | (p,c)::r,i=>if i=p then pq c else prl r i
def pr(tl:TL)(t:List Int)(i:Int):Rat:=if i∈t then 1 else prl tl i
theorem kq:∀{tl:TL}{i:Int},i ∉ tl.map (·.1)->prl tl i=0
 | [],_,_=>rfl
 | (p,c)::r,i,h=>by
  rw[map_cons,mem_cons,not_or]at h;rw[prl,if_neg h.1,kq h.2]
theorem lT_one:∀(tl:TL) (t:List Int) (q:Rat),Un tl->SW (λ_=>1) (wf (lT tl t) q)=q
 | [],t,q,_=>by rw[lT,wf];show q*1+0=q;grind
 | (p,c)::r,t,q,h=>by
  have a:=h (p,c) mem_cons_self;have b:0<c.2:=by have:=a.1;have:=a.2;lia
  rw[j9 b,kT,lT_one r _ _ h.tl,lT_one r _ _ h.tl]
  grind
def two(tl:TL)(t:List Int)(i j:Int):Rat:=if i=j then pr tl t i else pr tl t i*pr tl t j
theorem lT_phi:∀(tl:TL) (t:List Int) (q:Rat) (i j:Int),Un tl->(t++tl.map (·.1)).Nodup->SW (cY i j) (wf (lT tl t) q)=q*two tl t i j
 | [],t,q,i,j,_,_=>by
  rw[lT,wf];show q*cY i j t+0=_;unfold cY ind two pr;simp only[prl]
  by_cases h1:i∈t <;> by_cases o:j∈t <;> by_cases h3:i=j <;> simp_all <;> grind
 | (p,c)::r,t,q,i,j,h,nd=>by
  have m:=h (p,c) mem_cons_self;have o:0<c.2:=by have:=m.1;have:=m.2;lia
  have f:((t++[p])++r.map (·.1)).Nodup:=by rw[append_assoc];exact nd
  have d:(t++r.map (·.1)).Nodup:=nd.sublist ((List.sublist_cons_self p (r.map (·.1))).append_left t);rw[j9 o,kT,lT_phi r _ _ i j h.tl f,lT_phi r _ _ i j h.tl d]
  have e:p ∉ t/\p ∉ r.map (·.1):=by
   rw[map_cons]at nd;have:=nodup_append.mp nd;exact⟨λz=>this.2.2 p z p mem_cons_self rfl,(nodup_cons.mp this.2.1).1⟩
  have a:∀ x,x≠p->pr r (t++[p]) x=pr ((p,c)::r) t x/\pr r t x=pr ((p,c)::r) t x:=λx n=>by
   unfold pr;rw[prl,if_neg n];simp[n]
  have g:pr r (t++[p]) p=1:=by unfold pr;rw[if_pos (by simp)]
  have l:pr r t p=0:=by unfold pr;rw[if_neg e.1,kq e.2]
  have k:pr ((p,c)::r) t p=pq c:=by unfold pr;rw[if_neg e.1,prl,if_pos rfl]
  unfold two
  by_cases hij:i=j
  .subst hij
   rw[if_pos rfl,if_pos rfl,if_pos rfl]
   by_cases hi:i=p
   .subst hi;rw[g,l,k];grind
   .rw[(a i hi).1,(a i hi).2];grind
  .rw[if_neg hij,if_neg hij,if_neg hij]
   by_cases hi:i=p
   .subst hi
    have b:j≠i:=λz=>hij z.symm
    rw[g,l,k,(a j b).1];grind
   .by_cases b:j=p
    .subst b
     rw[g,l,k,(a i hi).1];grind
    .rw[(a i hi).1,(a i hi).2,(a j b).1,(a j b).2];grind
theorem lT_key:∀(tl:TL) (t:List Int) (q:Rat),Un tl->∀ w∈wf (lT tl t) q,∃ s,w.1=t++s/\s.Sublist (tl.map (·.1))
 | [],t,q,_,w,hw=>by
  rw[lT,wf,mem_singleton]at hw;exact⟨[],by rw[hw,append_nil],.slnil⟩
 | (p,c)::r,t,q,h,w,hw=>by
  have b:=h (p,c) mem_cons_self;have d:0<c.2:=by have:=b.1;have:=b.2;lia
  rw[j9 d,mem_append]at hw
  rcases hw with hw | hw
  .obtain⟨s,e,a⟩:=lT_key r _ _ h.tl w hw
   exact⟨p::s,by rw[e,append_assoc];rfl,a.cons_cons p⟩
  .obtain⟨s,e,a⟩:=lT_key r _ _ h.tl w hw
   exact⟨s,e,a.cons p⟩
theorem lT_lo:∀(tl:TL) (t:List Int) (q:Rat),Un tl->∃ w∈wf (lT tl t) q,w.1=t
 | [],t,q,_=>⟨(t,q),by rw[lT,wf];exact mem_singleton.mpr rfl,rfl⟩
 | (p,c)::r,t,q,h=>by
  have a:=h (p,c) mem_cons_self;have b:0<c.2:=by have:=a.1;have:=a.2;lia
  obtain⟨w,d,e⟩:=lT_lo r t (q*(1 - pq c)) h.tl;exact⟨w,by rw[j9 b];exact mem_append_right _ d,e⟩
theorem lT_hi:∀(tl:TL) (t:List Int) (q:Rat),Un tl->∃ w∈wf (lT tl t) q,w.1=t++tl.map (·.1)
 | [],t,q,_=>⟨(t,q),by rw[lT,wf];exact mem_singleton.mpr rfl,by simp⟩
 | (p,c)::r,t,q,h=>by
  have a:=h (p,c) mem_cons_self;have b:0<c.2:=by have:=a.1;have:=a.2;lia
  obtain⟨w,d,e⟩:=lT_hi r (t++[p]) (q*pq c) h.tl;exact⟨w,by rw[j9 b];exact mem_append_left _ d,by rw[e,append_assoc];rfl⟩
def pD:TL->Nat
 | []=>1
 | (_,c)::r=>c.2.toNat*pD r
theorem pD_pos:∀{tl:TL},Un tl->0<pD tl
 | [],_=>Nat.one_pos
 | (p,c)::r,h=>by
  have a:=h (p,c) mem_cons_self;have:0<c.2.toNat:=by have:=a.1;have:=a.2;lia
  exact Nat.mul_pos this (pD_pos h.tl)
theorem pD_le{B:Nat}:∀{tl:TL},(∀ x∈tl,x.2.2<=(B:Int))->pD tl<=B ^ tl.length
 | [],_=>Nat.le_refl 1
 | (p,c)::r,h=>by
  have a:=h (p,c) mem_cons_self
  replace a:c.2<=(B:Int):=a
  rw[pD,length_cons,Nat.pow_succ,Nat.mul_comm];exact Nat.mul_le_mul (pD_le λx b=>h x (mem_cons_of_mem _ b)) (by lia)
theorem lT_bq:∀(tl:TL) (t:List Int) (q:Rat) (E:Nat),Un tl->Bq E q->∀ w∈wf (lT tl t) q,Bq (E*pD tl) w.2
 | [],t,q,E,_,hq,w,hw=>by
  rw[lT,wf,mem_singleton]at hw;rw[hw,pD,Nat.mul_one];exact hq
 | (p,c)::r,t,q,E,h,hq,w,hw=>by
  have a:=h (p,c) mem_cons_self;have d:0<c.1:=a.1;have f:c.1<c.2:=a.2;have b:0<c.2:=by lia
  have g:Bq c.2.toNat (pq c):=share_bq (by lia) (by lia);have e:Bq c.2.toNat (1 - pq c):=by rw[<- pp b];exact share_bq (by lia) (by lia)
  rw[j9 b,mem_append]at hw;rw[pD,<- Nat.mul_assoc]
  rcases hw with hw | hw
  .exact lT_bq r _ _ _ h.tl (hq.mul g) w hw
  .exact lT_bq r _ _ _ h.tl (hq.mul e) w hw
theorem lT_lv:∀(tl:TL) (t:List Int),lv (lT tl t)=2 ^ tl.length
 | [],t=>by rw[lT,lv];rfl
 | (p,c)::r,t=>by
  rw[lT,lv,lvs,lvs,lvs,lT_lv r,lT_lv r,length_cons,Nat.pow_succ];lia
theorem lT_dz{B:Nat}:∀(tl:TL) (t:List Int),Un tl->(∀ x∈tl,x.2.2<=(B:Int))->(t++tl.map (·.1)).Nodup->t.length+tl.length<=24->Dz B tl.length (lT tl t)
 | [],t,_,_,nd,l=>by
  rw[lT,Dz];simp only[map_nil,append_nil]at nd;exact⟨nd,by simpa using l⟩
 | (p,c)::r,t,h,hb,nd,l=>by
  have e:=h (p,c) mem_cons_self;have f:0<c.1:=e.1;have j:c.1<c.2:=e.2;have g:c.2<=(B:Int):=hb (p,c) mem_cons_self;rw[length_cons]at l;have d:((t++[p])++r.map (·.1)).Nodup:=by rw[append_assoc];exact nd
  have b:(t++r.map (·.1)).Nodup:=nd.sublist ((List.sublist_cons_self p (r.map (·.1))).append_left t);rw[lT,length_cons,Dz,wU,Dzs,Dzs,Dzs];have a:=λx i=>hb x (mem_cons_of_mem (p,c) i)
  exact⟨by show 1<=2;decide,by show 2<=8;decide,by lia,by lia,lT_dz r _ h.tl a d (by rw[length_append,length_singleton];lia),by lia,lT_dz r _ h.tl a b (by lia),trivial⟩
def su(L:TL):List Int:=(L.filter λx=>decide (x.2=(1,1))).map (·.1)
def op(L:TL):TL:=L.filter λx=>uns x.2
def Ed(L:TL):Prop:=∀ x∈L,uns x.2=true\/x.2=(1,1)\/x.2=(0,1)
theorem nu{L:TL}(a:(L.map (·.1)).Nodup){x y:Int×(Int×Int)}(b:x∈L)(c:y∈L)(e:x.1=y.1):x=y:=by
 induction L with
 | nil=>cases b
 | cons z r ih =>
  rw[map_cons,nodup_cons]at a
  rcases mem_cons.mp b with h1 | h1 <;> rcases mem_cons.mp c with h2 | h2
  .rw[h1,h2]
  .exact absurd (mem_map.mpr ⟨y,h2,by rw[<- e,h1]⟩) a.1
  .exact absurd (mem_map.mpr ⟨x,h1,by rw[e,h2]⟩) a.1
  .exact ih a.2 h1 h2
theorem oZ:∀{tl:TL},(tl.map (·.1)).Nodup->∀ x∈tl,prl tl x.1=pq x.2
 | (p,c)::r,nd,x,hx=>by
  rw[map_cons,nodup_cons]at nd;rw[prl]
  rcases mem_cons.mp hx with h1 | h1
  .rw[h1,if_pos rfl]
  .rw[if_neg (λz=>nd.1 (mem_map.mpr ⟨x,h1,z⟩)),oZ nd.2 x h1]
theorem oV:uns (1,1)=false:=by decide
theorem rD:uns (0,1)=false:=by decide
theorem op_sub(L:TL):((op L).map (·.1)).Sublist (L.map (·.1)):=(List.filter_sublist).map _
theorem su_sub(L:TL):(su L).Sublist (L.map (·.1)):=(List.filter_sublist).map _
theorem suop_nd{L:TL}(d:(L.map (·.1)).Nodup):(su L++(op L).map (·.1)).Nodup:=by
 refine nodup_append.mpr ⟨d.sublist (su_sub L),d.sublist (op_sub L),λa k b m e=>?_⟩;obtain⟨x,j,rfl⟩:=mem_map.mp k;obtain⟨y,l,rfl⟩:=mem_map.mp m;have f:=mem_filter.mp j;have h:=mem_filter.mp l;have c:=nu d f.1 h.1 e;have i:=of_decide_eq_true f.2;have g:uns y.2=true:=h.2;rw[<- c,i,oV]at g;cases g
theorem pr_of{L:TL}(c:(L.map (·.1)).Nodup)(i:Ed L):∀ x∈L,pr (op L) (su L) x.1=pq x.2:=λx b=>by
 unfold pr
 have f:x.1∈su L↔x.2=(1,1):=by
  refine⟨λz=>?_,λz=>mem_map.mpr ⟨x,mem_filter.mpr ⟨b,decide_eq_true z⟩,rfl⟩⟩;obtain⟨y,d,e⟩:=mem_map.mp z;have a:=mem_filter.mp d;rw[nu c b a.1 e.symm];exact of_decide_eq_true a.2
 rcases i x b with h | h | h
 .rw[if_neg (λz=>by rw[f.mp z,oV]at h;cases h)]
  exact oZ (c.sublist (op_sub L)) x (mem_filter.mpr ⟨b,h⟩)
 .rw[if_pos (f.mpr h),h]
  unfold pq;simp;grind
 .rw[if_neg (λz=>by have:=f.mp z;rw[h]at this;cases this),kq,h]
  .unfold pq;simp;grind
  .intro z
   obtain⟨y,d,e⟩:=mem_map.mp z;have a:=mem_filter.mp d;have g:uns y.2=true:=a.2;rw[nu c a.1 b e,h,rD]at g;cases g
theorem su_len(L:TL):(su L).length=L.countP λx=>decide (x.2=(1,1)):=by unfold su;rw[length_map,List.countP_eq_length_filter]
theorem all_len:∀{L:TL},Ed L->(su L).length+(op L).length+(L.countP λx=>decide (x.2=(0,1)))=L.length
 | [],_=>rfl
 | x::L,ed=>by
  have d:=all_len (L:=L) λy e=>ed y (mem_cons_of_mem _ e)
  rw[su_len]at d ⊢;unfold op at d ⊢;rw[List.countP_cons,List.countP_cons,List.filter_cons,length_cons]
  rcases ed x mem_cons_self with h | h | h
  .have b:¬x.2=(1,1):=λz=>by rw[z,oV]at h;cases h
   have a:¬x.2=(0,1):=λz=>by rw[z,rD]at h;cases h
   rw[if_pos h,length_cons,if_neg (by simpa using b),if_neg (by simpa using a)];lia
  .have c:¬uns x.2=true:=by rw[h,oV];decide
   have a:¬x.2=(0,1):=λz=>by rw[z]at h;cases h
   rw[if_neg c,if_pos (decide_eq_true h),if_neg (by simpa using a)];lia
  .have c:¬uns x.2=true:=by rw[h,rD];decide
   have b:¬x.2=(1,1):=λz=>by rw[z]at h;cases h
   rw[if_neg c,if_neg (by simpa using b),if_pos (decide_eq_true h)];lia
theorem un_op(L:TL):Un (op L):=λx a=>of_decide_eq_true (mem_filter.mp a).2
theorem tU(q:Rat):((fr q).1:Rat)/((fr q).2:Rat)=q:=by
 show((q.num:Int):Rat)/(((q.den:Int)):Rat)=q;rw[<- Rat.divInt_eq_div];exact Rat.num_divInt_den q
theorem due_fr{z:List Int}{m:Int}(h:∀ f∈due z m,0<f.2):∀ f∈due z m,f=fr (pq f):=by
 intro f b;have a:=h f b;have d:((1,1):Int×Int)=fr (pq (1,1)):=by decide +kernel
 have e:((0,1):Int×Int)=fr (pq (0,1)):=by decide +kernel
 unfold due at b
 split at b
 .obtain⟨_,_,rfl⟩:=mem_map.mp b;exact d
 .split at b
  .obtain⟨_,_,rfl⟩:=mem_map.mp b;exact e
  .obtain⟨k,l,rfl⟩:=mem_map.mp b
   split
   .rename_i hd
    rw[if_pos hd]at a;generalize FrM.sz z k*(FrM.fin z (List.range z.length) m).2=T at *;generalize bD z (FrM.fin z (List.range z.length) m).1=B at *
    have j:0<B:=by
     rcases Int.lt_or_le 0 B with g | g
     .exact g
     .exfalso
      have i:0<B/(Int.gcd T B:Int):=a
      by_cases gz:(Int.gcd T B:Int)=0
      .rw[gz,Int.ediv_zero]at i;exact absurd i (by decide)
      .have:=Int.ediv_le_ediv (c:=(Int.gcd T B:Int)) (by lia) g
       rw[Int.zero_ediv]at this;lia
    rw[ld T j];unfold pq;rw[tU]
   .exact d
end Tb
namespace My
open PySem L2 FrM Du
open Tb (Tr fT lT sT ba at_)
theorem vm{φ:List Int->Rat}(h:∀ k,φ (Tb.so k)=φ k)(W:Rws):SW φ (Tb.kR W)=SW φ W:=by
 unfold SW Tb.kR;rw[map_map]
 congr 1
 exact map_congr_left λw _=>by show w.2*φ (Tb.so w.1)=_;rw[h]
theorem w4(i j:Int)(k:List Int):cY i j (Tb.so k)=cY i j k:=by
 unfold cY ind;have e:(i∈Tb.so k/\j∈Tb.so k)↔(i∈k/\j∈k):=by rw[(Tb.so_perm k).mem_iff,(Tb.so_perm k).mem_iff]
 by_cases c:i∈k/\j∈k
 .rw[if_pos c,if_pos (e.mpr c)]
 .rw[if_neg c,if_neg (λz=>c (e.mp z))]
theorem md(a:List (Int×Int))(t b:Int):cF a t b=((a.countP λf=>decide (f=(t,b)):Nat):Int):=by
 unfold cF pD;rw[countP_map]
 congr 1
 refine List.countP_congr λf _=>?_
 show PyData.eqv (.tuple [.int f.1,.int f.2]) (.tuple [.int t,.int b])=true↔_;rw[mP]
theorem wA{f g:Int×Int}(b:0<f.2)(a:0<g.2):dC (f.1*g.1) (f.2*g.2)=fr (Tb.pq f*Tb.pq g):=by
 rw[ld _ (Int.mul_pos b a)]
 congr 1
 unfold Tb.pq;have d:(f.2:Rat)≠0:=λz=>by have:f.2=0:=(by exact_mod_cast z);lia
 have c:(g.2:Rat)≠0:=λz=>by have:g.2=0:=(by exact_mod_cast z);lia
 push_cast
 grind
theorem sJ(d:List Mb)(m:Nat)(pt:Pt d)(m7:m<=7):Gt (plc d) d.length (lT (gv (lsL d m)) (fV (lsL d m))) (cF (due (szs d) (m:Nat)) 1 1) (((due (szs d) (m:Nat)).length:Int) - cF (due (szs d) (m:Nat)) 0 1) (eL (due (szs d) (m:Nat))):=by
 have X:(plc d).length=d.length:=by unfold plc;rw[length_map]
 have Y:(due (szs d) (m:Nat)).length=d.length:=by rw[dg];unfold szs;rw[length_map]
 have l:=oF (m:=m) pt.sz;have E:=Tb.due_fr (z:=szs d) (m:=(m:Nat)) λf hf=>(l f hf).pos
 have P:=pt.up;have h6:=pt.few;show Gt (plc d) d.length (lT (Tb.op ((plc d).zip (due (szs d) (m:Nat)))) (Tb.su ((plc d).zip (due (szs d) (m:Nat))))) _ _ _;rw[<- X]at h6 Y ⊢;rw[md,md];generalize due (szs d) (m:Nat)=fs at *;generalize plc d=ps at *;have Q:(ps.zip fs).map (·.1)=ps:=List.map_fst_zip (by lia);have I:(ps.zip fs).map (·.2)=fs:=List.map_snd_zip (by lia);have M:ps.Nodup:=P.imp λ{a b} z=>by lia
 have W:((ps.zip fs).map (·.1)).Nodup:=by rw[Q];exact M
 have R:Tb.Ed (ps.zip fs):=λx k=>by
  have h:=l x.2 (by rw[<- I];exact mem_map.mpr ⟨x,k,rfl⟩)
  by_cases c:0<x.2.1/\x.2.1<x.2.2
  .exact .inl (decide_eq_true c)
  .exact .inr (h.ends c)
 have J:∀ c:Int×Int,((ps.zip fs).countP λx=>decide (x.2=c))=fs.countP λf=>decide (f=c):=λc=>by
  conv=>rhs;rw[<- I]
  rw[countP_map];rfl
 have zl:(ps.zip fs).length=ps.length:=by rw[List.length_zip];lia
 have N:=Tb.all_len R;have K:=Tb.su_len (ps.zip fs);rw[J]at N K;have C:=Tb.pr_of W R;have g:=Tb.un_op (ps.zip fs);have v:=Tb.suop_nd W;have D:∀ x∈Tb.op (ps.zip fs),x.2.2<=((576000000:Nat):Int):=λx k=>(l x.2 (by rw[<- I];exact mem_map.mpr ⟨x,(mem_filter.mp k).1,rfl⟩)).bd
 have B:∀ x,x∈Tb.su (ps.zip fs)\/x∈(Tb.op (ps.zip fs)).map (·.1)->x∈ps:=λx k=>by
  rw[<- Q];exact k.elim (λh=>(Tb.su_sub _).subset h) λh=>(Tb.op_sub _).subset h
 have q:∀ i:Nat,i<ps.length->(at_ ps (i:Int),fAt fs i)∈ps.zip fs:=λi r=>by
  have hz:i<(ps.zip fs).length:=by lia
  have:(ps.zip fs)[i]=(at_ ps (i:Int),fAt fs i):=by
   rw[List.getElem_zip];unfold Tb.at_ fAt;rw[List.getD_eq_getElem?_getD,List.getD_eq_getElem?_getD,List.getElem?_eq_getElem (show i<fs.length by lia),show((i:Int).toNat)=i by lia,List.getElem?_eq_getElem r];rfl
  rw[<- this];exact getElem_mem hz
 generalize Tb.op (ps.zip fs)=O at *;generalize Tb.su (ps.zip fs)=S at *;have n:=Tb.lT_key O S 1 g;refine⟨⟨576000000,O.length,by decide,by decide,Tb.lT_dz O S g D v (by lia),by lia,Nat.lt_of_le_of_lt (Nat.pow_le_pow_right (by decide) (show O.length<=6 by lia)) (by decide)⟩,?_,⟨1*Tb.pD O,?_,?_,?_⟩,?_,?_,?_,?_,?_⟩
 .rw[Tb.lT_lv]
  exact Nat.le_trans (Nat.pow_le_pow_right (by decide) (show O.length<=6 by lia)) (by decide)
 .rw[Nat.one_mul];exact Tb.pD_pos g
 .rw[Nat.one_mul]
  exact Nat.lt_of_le_of_lt (Tb.pD_le D) (Nat.lt_of_le_of_lt (Nat.pow_le_pow_right (by decide) (show O.length<=6 by lia)) (by decide))
 .intro w u
  obtain⟨x,k,rfl⟩:=mem_map.mp u;exact Tb.lT_bq O S 1 1 g Bq.one x k
 .rw[vm (λ_=>rfl)]
  exact Tb.lT_one O S 1 g
 .intro w u
  obtain⟨x,k,rfl⟩:=mem_map.mp u;obtain⟨s,e,A⟩:=n x k;have o:=A.length_le;rw[length_map]at o;refine⟨Tb.so_nd (by rw[e];exact v.sublist (A.append_left S)),Tb.so_srt _,λy F=>?_,?_⟩
  .have F:=(Tb.so_perm x.1).mem_iff.mp F
   rw[e,mem_append]at F;exact B y (F.imp id λh=>A.subset h)
  .show(Tb.so x.1).length<=6
   rw[(Tb.so_perm x.1).length_eq,e,length_append];lia
 .refine⟨λw u=>?_,?_⟩
  .obtain⟨x,k,rfl⟩:=mem_map.mp u
   obtain⟨s,e,A⟩:=n x k;show _<=((Tb.so x.1).length:Int);rw[(Tb.so_perm x.1).length_eq,e,length_append];lia
  .obtain⟨x,k,e⟩:=Tb.lT_lo O S 1 g
   refine⟨_,mem_map.mpr ⟨x,k,rfl⟩,?_⟩;show((Tb.so x.1).length:Int)=_;rw[(Tb.so_perm x.1).length_eq,e];lia
 .refine⟨λw u=>?_,?_⟩
  .obtain⟨x,k,rfl⟩:=mem_map.mp u
   obtain⟨s,e,A⟩:=n x k;have o:=A.length_le;rw[length_map]at o;show((Tb.so x.1).length:Int)<=_;rw[(Tb.so_perm x.1).length_eq,e,length_append];lia
  .obtain⟨x,k,e⟩:=Tb.lT_hi O S 1 g
   refine⟨_,mem_map.mpr ⟨x,k,rfl⟩,?_⟩;show((Tb.so x.1).length:Int)=_;rw[(Tb.so_perm x.1).length_eq,e,length_append,length_map];lia
 .have H:∀ i j:Nat,i<ps.length->j<ps.length->fr (SW (cY (at_ ps (i:Int)) (at_ ps (j:Int))) (Tb.kR (Tb.wf (lT O S) 1)))=eL fs i j:=λi j r G=>by
   rw[vm (w4 _ _),Tb.lT_phi O S 1 _ _ g v,show(1:Rat)*Tb.two O S (at_ ps (i:Int)) (at_ ps (j:Int))=Tb.two O S (at_ ps (i:Int)) (at_ ps (j:Int)) by grind];have U:=C _ (q i r);have p2:=C _ (q j G);have T:fAt fs i∈fs:=(of_mem_zip (q i r)).2;have Z:fAt fs j∈fs:=(of_mem_zip (q j G)).2;unfold Tb.two eL
   by_cases hij:i=j
   .subst hij
    rw[if_pos rfl,if_pos rfl,U];exact(E _ T).symm
   .rw[if_neg hij,if_neg (λz=>hij (by have:=Tb.at_inj P (by lia) (by lia) (by lia) (by lia) z;lia)),U,p2]
    exact(wA (l _ T).pos (l _ Z).pos).symm
  have L:∀ i:Nat,i<ps.length->kW (Tb.kR (Tb.wf (lT O S) 1)) ps (at_ ps (i:Int))=oe ps.length (eL fs) i:=λi r=>by
   unfold kW oe;refine(congrArg (List.map λj=>fr (SW (cY (at_ ps (i:Int)) j) (Tb.kR (Tb.wf (lT O S) 1)))) (eps ps)).trans ?_;rw[map_map];exact map_congr_left λj G=>H i j r (mem_range.mp G)
  unfold ud ma;refine(congrArg (List.map (kW (Tb.kR (Tb.wf (lT O S) 1)) ps)) (eps ps)).trans ?_;rw[map_map];exact map_congr_left λi r=>L i (mem_range.mp r)
theorem mth:Mth:=⟨wM,sf,sJ⟩
abbrev lawK:Nat:=15
section
variable {P:Program}{w:World}{K:Frag}{mg:Str->Option Value}{base:Heap}{a:Ad}
theorem ok_law{c:List Addr}(T:Txt K mg a)(d:Bm mg base)(b:∀ q∈tabs a,q.1∈c):FnOk P w K mg base CX0 lawK a.f_ae a.d_ae ["_law_script"] (spLaw K c):=tz mth T d b
end
end My
namespace My
open PySem L2
theorem us0{a:Type}:∀{us:List a},us.length=0->us=[]
 | [],_=>rfl
theorem us1{a:Type}{us:List a}(h:us.length=1):∃ a0,us=[a0]:=by
 cases us with
 | nil=>cases h
 | cons a0 t=>obtain rfl:=us0 (Nat.succ.inj h);exact⟨a0,rfl⟩
theorem us2{a:Type}{us:List a}(h:us.length=2):∃ a0 a1,us=[a0,a1]:=by
 cases us with
 | nil=>cases h
 | cons a0 t=>obtain⟨a1,rfl⟩:=us1 (Nat.succ.inj h);exact⟨a0,a1,rfl⟩
theorem us3{a:Type}{us:List a}(h:us.length=3):∃ a0 a1 a2,us=[a0,a1,a2]:=by
 cases us with
 | nil=>cases h
 | cons a0 t=>obtain⟨a1,a2,rfl⟩:=us2 (Nat.succ.inj h);exact⟨a0,a1,a2,rfl⟩
theorem us4{a:Type}{us:List a}(h:us.length=4):∃ a0 a1 a2 a3,us=[a0,a1,a2,a3]:=by
 cases us with
 | nil=>cases h
 | cons a0 t=>obtain⟨a1,a2,a3,rfl⟩:=us3 (Nat.succ.inj h);exact⟨a0,a1,a2,a3,rfl⟩
theorem txt_mk{K:Frag}{h:Heap}{mg:Str->Option Value}{f0 f1 f2 f3 f4 f5 f6 f7 f8 f9 f10 f11 f12 f13 f14 f15 f16 f17 f18 f19 f20 f21 f22 f23 f24 f25 f26 f27 f28 f29 f30 k_NOUGHT k_WHOLE c_P c_z i_z c_Z c_g i_g c_j i_j c_aa c_k i_k c_d i_d c_e i_e x_s x_v x_G x_O x_A x_H x_B x_I x_p x_a x_t x_q x_b x_n x_E x_f x_u lc_b lp_b lc_c lp_c lc_a lp_a lc_i lp_i lc_f lp_f lc_h lp_h:Addr}{od0 an0 od1 an1 od2 an2 od3 an3 od4 an4 od5 an5 od6 an6 od7 an7 od8 an8 od9 an9 od10 an10 od11 an11 od12 an12 od13 an13 od14 an14 od15 an15 od16 an16 od17 an17 od18 an18 od19 an19 od20 an20 od21 an21 od22 an22 od23 an23 od24 an24 od25 an25 od26 an26 od27 an27 od28 an28 od29 an29 od30 an30 od_d an_d od_12 an_12 od_0 an_0 od_5 an_5 od_e an_e od_9 an_9 od_13 an_13 od_1 an_1 od_14 an_14 od_2 an_2 od_16 an_16 od_4 an_4 od_15 an_15 od_3 an_3 od_11 an_11 od_10 an_10 od_f an_f od_c an_c od_b an_b od_a an_a od_8 an_8 od_7 an_7 od_6 an_6 lod_b lod_18 lod_10 lod_19 lod_7 lod_17:Option Addr}{sl0 sl1 sl2 sl3 sl4 sl5 sl6 sl7 sl8 sl9 sl10 sl11 sl12 sl13 sl14 sl15 sl16 sl17 sl18 sl19 sl20 sl21 sl22 sl23 sl24 sl25 sl26 sl27 sl28 sl29 sl30 sl_d sl_12 sl_0 sl_5 sl_e sl_9 sl_13 sl_1 sl_14 sl_2 sl_16 sl_4 sl_15 sl_3 sl_11 sl_10 sl_f sl_c sl_b sl_a sl_8 sl_7 sl_6 lsl_b lsl_18 lsl_10 lsl_19 lsl_7 lsl_17:Array (Option Value)}{oc0 kV0 dc0 pm0 cd0 ct0 oc1 kV1 dc1 pm1 cd1 ct1 oc2 kV2 dc2 pm2 cd2 ct2 oc3 kV3 dc3 pm3 cd3 ct3 oc4 kV4 dc4 pm4 cd4 ct4 oc5 kV5 dc5 pm5 cd5 ct5 oc6 kV6 dc6 pm6 cd6 ct6 oc7 kV7 dc7 pm7 cd7 ct7 oc8 kV8 dc8 pm8 cd8 ct8 oc9 kV9 dc9 pm9 cd9 ct9 oc10 kV10 dc10 pm10 cd10 ct10 oc11 kV11 dc11 pm11 cd11 ct11 oc12 kV12 dc12 pm12 cd12 ct12 oc13 kV13 dc13 pm13 cd13 ct13 oc14 kV14 dc14 pm14 cd14 ct14 oc15 kV15 dc15 pm15 cd15 ct15 oc16 kV16 dc16 pm16 cd16 ct16 oc17 kV17 dc17 pm17 cd17 ct17 oc18 kV18 dc18 pm18 cd18 ct18 oc19 kV19 dc19 pm19 cd19 ct19 oc20 kV20 dc20 pm20 cd20 ct20 oc21 kV21 dc21 pm21 cd21 ct21 oc22 kV22 dc22 pm22 cd22 ct22 oc23 kV23 dc23 pm23 cd23 ct23 oc24 kV24 dc24 pm24 cd24 ct24 oc25 kV25 dc25 pm25 cd25 ct25 oc26 kV26 dc26 pm26 cd26 ct26 oc27 kV27 dc27 pm27 cd27 ct27 oc28 kV28 dc28 pm28 cd28 ct28 oc29 kV29 dc29 pm29 cd29 ct29 oc30 kV30 dc30 pm30 cd30 ct30 u0 u1 oc_d kV_d dc_d pm_d cd_d ct_d oc_12 kV_12 dc_12 pm_12 cd_12 ct_12 oc_0 kV_0 dc_0 pm_0 cd_0 ct_0 oc_5 kV_5 dc_5 pm_5 cd_5 ct_5 oc_e kV_e dc_e pm_e cd_e ct_e oc_9 kV_9 dc_9 pm_9 cd_9 ct_9 oc_13 kV_13 dc_13 pm_13 cd_13 ct_13 oc_1 kV_1 dc_1 pm_1 cd_1 ct_1 oc_14 kV_14 dc_14 pm_14 cd_14 ct_14 oc_2 kV_2 dc_2 pm_2 cd_2 ct_2 oc_16 kV_16 dc_16 pm_16 cd_16 ct_16 oc_4 kV_4 dc_4 pm_4 cd_4 ct_4 oc_15 kV_15 dc_15 pm_15 cd_15 ct_15 oc_3 kV_3 dc_3 pm_3 cd_3 ct_3 oc_11 kV_11 dc_11 pm_11 cd_11 ct_11 oc_10 kV_10 dc_10 pm_10 cd_10 ct_10 oc_f kV_f dc_f pm_f cd_f ct_f oc_c kV_c dc_c pm_c cd_c ct_c oc_b kV_b dc_b pm_b cd_b ct_b oc_a kV_a dc_a pm_a cd_a ct_a oc_8 kV_8 dc_8 pm_8 cd_8 ct_8 oc_7 kV_7 dc_7 pm_7 cd_7 ct_7 oc_6 kV_6 dc_6 pm_6 cd_6 ct_6 lo_b lo_18 lo_10 lo_19 lo_7 lo_17:Value}{lvs_b lvs_18 lvs_10 lvs_19 lvs_7 lvs_17:Array Value}(X:K.In h) (G:h.Ns mainGlobals mg)
  (a0:nsIn K mainGlobals "greatest_divisor" = some (some (.ref f0))) (l0:K.lookup f0=some ⟨oc0,od0,.func (fnOf "greatest_divisor" "greatest_divisor" (ag aB) (af aB) (ac aB) .none kV0 dc0 pm0 an0 cd0 ct0),sl0⟩) (c0:codeIn K cd0 "greatest_divisor" = true) (k0:keepIn K (.ref f0)=true)
  (a1:nsIn K mainGlobals "share" = some (some (.ref f1))) (l1:K.lookup f1=some ⟨oc1,od1,.func (fnOf "share" "share" (ag du) (af du) (ac du) .none kV1 dc1 pm1 an1 cd1 ct1),sl1⟩) (c1:codeIn K cd1 "share" = true) (k1:keepIn K (.ref f1)=true)
  (a2:nsIn K mainGlobals "times" = some (some (.ref f2))) (l2:K.lookup f2=some ⟨oc2,od2,.func (fnOf "times" "times" (ag dq) (af dq) (ac dq) .none kV2 dc2 pm2 an2 cd2 ct2),sl2⟩) (c2:codeIn K cd2 "times" = true) (k2:keepIn K (.ref f2)=true)
  (a3:nsIn K mainGlobals "is_whole" = some (some (.ref f3))) (l3:K.lookup f3=some ⟨oc3,od3,.func (fnOf "is_whole" "is_whole" (ag ce) (af ce) (ac ce) .none kV3 dc3 pm3 an3 cd3 ct3),sl3⟩) (c3:codeIn K cd3 "is_whole" = true) (k3:keepIn K (.ref f3)=true)
  (a4:nsIn K mainGlobals "wished" = some (some (.ref f4))) (l4:K.lookup f4=some ⟨oc4,od4,.func (fnOf "wished" "wished" (ag cI) (af cI) (ac cI) .none kV4 dc4 pm4 an4 cd4 ct4),sl4⟩) (c4:codeIn K cd4 "wished" = true) (k4:keepIn K (.ref f4)=true)
  (a5:nsIn K mainGlobals "wished_of_some" = some (some (.ref f5))) (l5:K.lookup f5=some ⟨oc5,od5,.func (fnOf "wished_of_some" "wished_of_some" (ag aE) (af aE) (ac aE) .none kV5 dc5 pm5 an5 cd5 ct5),sl5⟩) (c5:codeIn K cd5 "wished_of_some" = true) (k5:keepIn K (.ref f5)=true)
  (a6:nsIn K mainGlobals "wished_by" = some (some (.ref f6))) (l6:K.lookup f6=some ⟨oc6,od6,.func (fnOf "wished_by" "wished_by" (ag bK) (af bK) (ac bK) .none kV6 dc6 pm6 an6 cd6 ct6),sl6⟩) (c6:codeIn K cd6 "wished_by" = true) (k6:keepIn K (.ref f6)=true)
  (a7:nsIn K mainGlobals "places_of" = some (some (.ref f7))) (l7:K.lookup f7=some ⟨oc7,od7,.func (fnOf "places_of" "places_of" (ag bG) (af bG) (ac bG) .none kV7 dc7 pm7 an7 cd7 ct7),sl7⟩) (c7:codeIn K cd7 "places_of" = true) (k7:keepIn K (.ref f7)=true)
  (a8:nsIn K mainGlobals "matrix_by" = some (some (.ref f8))) (l8:K.lookup f8=some ⟨oc8,od8,.func (fnOf "matrix_by" "matrix_by" (ag bH) (af bH) (ac bH) .none kV8 dc8 pm8 an8 cd8 ct8),sl8⟩) (c8:codeIn K cd8 "matrix_by" = true) (k8:keepIn K (.ref f8)=true)
  (a9:nsIn K mainGlobals "matrix_row" = some (some (.ref f9))) (l9:K.lookup f9=some ⟨oc9,od9,.func (fnOf "matrix_row" "matrix_row" (ag br) (af br) (ac br) .none kV9 dc9 pm9 an9 cd9 ct9),sl9⟩) (c9:codeIn K cd9 "matrix_row" = true) (k9:keepIn K (.ref f9)=true)
  (a10:nsIn K mainGlobals "need_number" = some (some (.ref f10))) (l10:K.lookup f10=some ⟨oc10,od10,.func (fnOf "need_number" "need_number" (ag aS) (af aS) (ac aS) .none kV10 dc10 pm10 an10 cd10 ct10),sl10⟩) (c10:codeIn K cd10 "need_number" = true) (k10:keepIn K (.ref f10)=true)
  (a11:nsIn K mainGlobals "few_node" = some (some (.ref f11))) (l11:K.lookup f11=some ⟨oc11,od11,.func (fnOf "few_node" "few_node" (ag bC) (af bC) (ac bC) .none kV11 dc11 pm11 an11 cd11 ct11),sl11⟩) (c11:codeIn K cd11 "few_node" = true) (k11:keepIn K (.ref f11)=true)
  (a12:nsIn K mainGlobals "few_chance" = some (some (.ref f12))) (l12:K.lookup f12=some ⟨oc12,od12,.func (fnOf "few_chance" "few_chance" (ag bt) (af bt) (ac bt) .none kV12 dc12 pm12 an12 cd12 ct12),sl12⟩) (c12:codeIn K cd12 "few_chance" = true) (k12:keepIn K (.ref f12)=true)
  (a13:nsIn K mainGlobals "start_make" = some (some (.ref f13))) (l13:K.lookup f13=some ⟨oc13,od13,.func (fnOf "start_make" "start_make" (ag aV) (af aV) (ac aV) .none kV13 dc13 pm13 an13 cd13 ct13),sl13⟩) (c13:codeIn K cd13 "start_make" = true) (k13:keepIn K (.ref f13)=true)
  (a14:nsIn K mainGlobals "is_unsure" = some (some (.ref f14))) (l14:K.lookup f14=some ⟨oc14,od14,.func (fnOf "is_unsure" "is_unsure" (ag bM) (af bM) (ac bM) .none kV14 dc14 pm14 an14 cd14 ct14),sl14⟩) (c14:codeIn K cd14 "is_unsure" = true) (k14:keepIn K (.ref f14)=true)
  (a15:nsIn K mainGlobals "loose_node" = some (some (.ref f15))) (l15:K.lookup f15=some ⟨oc15,od15,.func (fnOf "loose_node" "loose_node" (ag aQ) (af aQ) (ac aQ) .none kV15 dc15 pm15 an15 cd15 ct15),sl15⟩) (c15:codeIn K cd15 "loose_node" = true) (k15:keepIn K (.ref f15)=true)
  (a16:nsIn K mainGlobals "_law_cell" = some (some (.ref f16))) (l16:K.lookup f16=some ⟨oc16,od16,.func (fnOf "_law_cell" "_law_cell" (ag cO) (af cO) (ac cO) .none kV16 dc16 pm16 an16 cd16 ct16),sl16⟩) (c16:codeIn K cd16 "_law_cell" = true) (k16:keepIn K (.ref f16)=true)
  (a17:nsIn K mainGlobals "_law_mix" = some (some (.ref f17))) (l17:K.lookup f17=some ⟨oc17,od17,.func (fnOf "_law_mix" "_law_mix" (ag dw) (af dw) (ac dw) .none kV17 dc17 pm17 an17 cd17 ct17),sl17⟩) (c17:codeIn K cd17 "_law_mix" = true) (k17:keepIn K (.ref f17)=true)
  (a18:nsIn K mainGlobals "_law_row" = some (some (.ref f18))) (l18:K.lookup f18=some ⟨oc18,od18,.func (fnOf "_law_row" "_law_row" (ag dv) (af dv) (ac dv) .none kV18 dc18 pm18 an18 cd18 ct18),sl18⟩) (c18:codeIn K cd18 "_law_row" = true) (k18:keepIn K (.ref f18)=true)
  (a19:nsIn K mainGlobals "_law_whole" = some (some (.ref f19))) (l19:K.lookup f19=some ⟨oc19,od19,.func (fnOf "_law_whole" "_law_whole" (ag cv) (af cv) (ac cv) .none kV19 dc19 pm19 an19 cd19 ct19),sl19⟩) (c19:codeIn K cd19 "_law_whole" = true) (k19:keepIn K (.ref f19)=true)
  (a20:nsIn K mainGlobals "_law_low" = some (some (.ref f20))) (l20:K.lookup f20=some ⟨oc20,od20,.func (fnOf "_law_low" "_law_low" (ag dn) (af dn) (ac dn) .none kV20 dc20 pm20 an20 cd20 ct20),sl20⟩) (c20:codeIn K cd20 "_law_low" = true) (k20:keepIn K (.ref f20)=true)
  (a21:nsIn K mainGlobals "_law_plus" = some (some (.ref f21))) (l21:K.lookup f21=some ⟨oc21,od21,.func (fnOf "_law_plus" "_law_plus" (ag cM) (af cM) (ac cM) .none kV21 dc21 pm21 an21 cd21 ct21),sl21⟩) (c21:codeIn K cd21 "_law_plus" = true) (k21:keepIn K (.ref f21)=true)
  (a22:nsIn K mainGlobals "_law_times" = some (some (.ref f22))) (l22:K.lookup f22=some ⟨oc22,od22,.func (fnOf "_law_times" "_law_times" (ag cu) (af cu) (ac cu) .none kV22 dc22 pm22 an22 cd22 ct22),sl22⟩) (c22:codeIn K cd22 "_law_times" = true) (k22:keepIn K (.ref f22)=true)
  (a23:nsIn K mainGlobals "_law_fraction" = some (some (.ref f23))) (l23:K.lookup f23=some ⟨oc23,od23,.func (fnOf "_law_fraction" "_law_fraction" (ag bp) (af bp) (ac bp) .none kV23 dc23 pm23 an23 cd23 ct23),sl23⟩) (c23:codeIn K cd23 "_law_fraction" = true) (k23:keepIn K (.ref f23)=true)
  (a24:nsIn K mainGlobals "_law_matrix" = some (some (.ref f24))) (l24:K.lookup f24=some ⟨oc24,od24,.func (fnOf "_law_matrix" "_law_matrix" (ag cc) (af cc) (ac cc) .none kV24 dc24 pm24 an24 cd24 ct24),sl24⟩) (c24:codeIn K cd24 "_law_matrix" = true) (k24:keepIn K (.ref f24)=true)
  (a25:nsIn K mainGlobals "_law_crowd" = some (some (.ref f25))) (l25:K.lookup f25=some ⟨oc25,od25,.func (fnOf "_law_crowd" "_law_crowd" (ag cy) (af cy) (ac cy) .none kV25 dc25 pm25 an25 cd25 ct25),sl25⟩) (c25:codeIn K cd25 "_law_crowd" = true) (k25:keepIn K (.ref f25)=true)
  (a26:nsIn K mainGlobals "_law_ways" = some (some (.ref f26))) (l26:K.lookup f26=some ⟨oc26,od26,.func (fnOf "_law_ways" "_law_ways" (ag cN) (af cN) (ac cN) .none kV26 dc26 pm26 an26 cd26 ct26),sl26⟩) (c26:codeIn K cd26 "_law_ways" = true) (k26:keepIn K (.ref f26)=true)
  (a27:nsIn K mainGlobals "_law_together" = some (some (.ref f27))) (l27:K.lookup f27=some ⟨oc27,od27,.func (fnOf "_law_together" "_law_together" (ag bv) (af bv) (ac bv) .none kV27 dc27 pm27 an27 cd27 ct27),sl27⟩) (c27:codeIn K cd27 "_law_together" = true) (k27:keepIn K (.ref f27)=true)
  (a28:nsIn K mainGlobals "_law_good" = some (some (.ref f28))) (l28:K.lookup f28=some ⟨oc28,od28,.func (fnOf "_law_good" "_law_good" (ag cK) (af cK) (ac cK) .none kV28 dc28 pm28 an28 cd28 ct28),sl28⟩) (c28:codeIn K cd28 "_law_good" = true) (k28:keepIn K (.ref f28)=true)
  (a29:nsIn K mainGlobals "_law_alike" = some (some (.ref f29))) (l29:K.lookup f29=some ⟨oc29,od29,.func (fnOf "_law_alike" "_law_alike" (ag cq) (af cq) (ac cq) .none kV29 dc29 pm29 an29 cd29 ct29),sl29⟩) (c29:codeIn K cd29 "_law_alike" = true) (k29:keepIn K (.ref f29)=true)
  (a30:nsIn K mainGlobals "law" = some (some (.ref f30))) (l30:K.lookup f30=some ⟨oc30,od30,.func (fnOf "law" "law" (ag gs) (af gs) (ac gs) .none kV30 dc30 pm30 an30 cd30 ct30),sl30⟩) (c30:codeIn K cd30 "law" = true) (k30:keepIn K (.ref f30)=true)
  (b_NOUGHT:nsIn K mainGlobals "NOUGHT" = some (some (.ref k_NOUGHT))) (bt_NOUGHT:iN K k_NOUGHT [(.int 0),(.int 1)]=true)
  (b_WHOLE:nsIn K mainGlobals "WHOLE" = some (some (.ref k_WHOLE))) (bt_WHOLE:iN K k_WHOLE [(.int 1),(.int 1)]=true)
  (b0:nsIn K mainGlobals "MOST_MANY" = some (some u0))
  (b1:nsIn K mainGlobals "MOST_STEP" = some (some u1))
  (ca_P:nsIn K mainGlobals "SpeakError" = some (some (.ref c_P))) (cb_P:keepIn K (.ref c_P)=true) (cc_P:pN K c_P=true)
  (cx_P:xIn K c_P none=true)
  (ca_z:nsIn K mainGlobals "NoPlan" = some (some (.ref c_z))) (cb_z:keepIn K (.ref c_z)=true) (cc_z:pN K c_z=true)
  (cf_z:findIn K (.ref c_z) "__init__" = some (some (.ref i_z))) (cx_z:xIn K c_z (some (.ref i_z))=true) (cg_z:isFn K (.ref i_z)=true)
  (cl_z:K.lookup i_z=some ⟨oc_d,od_d,.func (fnOf "__init__" "NoPlan.__init__" (ag bz) (af bz) (ac bz) .none kV_d dc_d pm_d an_d cd_d ct_d),sl_d⟩) (co_z:codeIn K cd_d "NoPlan.__init__" = true) (ck_z:keepIn K (.ref i_z)=true)
  (cs_NoPlan_place:v6 K c_z "place" = true)
  (ca_Z:nsIn K mainGlobals "Node" = some (some (.ref c_Z))) (pa_Z:plainGet K c_Z Str.empty=true) (pb_Z:hasDictIn K c_Z=true) (pc_Z:plainOver K c_Z=true)
  (pd_Z:findIn K (.ref c_Z) "__setattr__" = some (some (.builtin "object.__setattr__"))) (pe_Z:findIn K (.ref c_Z) "__class__" = some (some (.builtin "object.__class__"))) (pf_Z:specialIn K (.builtin "object.__class__") "__get__" = some (some (.builtin "getset_descriptor.__get__"))) (pg_Z:takesIn K (.builtin "object.__class__")=some true) (ph_Z:mroIn K c_Z (.type "object")=some true)
  (ca_g:nsIn K mainGlobals "Told" = some (some (.ref c_g))) (pa_g:plainGet K c_g Str.empty=true) (pb_g:hasDictIn K c_g=true) (pc_g:plainOver K c_g=true)
  (pd_g:findIn K (.ref c_g) "__setattr__" = some (some (.builtin "object.__setattr__"))) (pe_g:findIn K (.ref c_g) "__class__" = some (some (.builtin "object.__class__"))) (pf_g:specialIn K (.builtin "object.__class__") "__get__" = some (some (.builtin "getset_descriptor.__get__"))) (pg_g:takesIn K (.builtin "object.__class__")=some true) (ph_g:mroIn K c_g (.type "object")=some true)
  (qa_g:makesIn K c_g=true) (qb_g:findIn K (.ref c_g) "__init__" = some (some (.ref i_g))) (qc_g:isFn K (.ref i_g)=true) (qd_g:keepIn K (.ref c_g)=true)
  (qn_Told_rising:findIn K (.ref c_g) "rising" = some none)
  (cl_g:K.lookup i_g=some ⟨oc_12,od_12,.func (fnOf "__init__" "Told.__init__" (ag aJ) (af aJ) (ac aJ) .none kV_12 dc_12 pm_12 an_12 cd_12 ct_12),sl_12⟩) (co_g:codeIn K cd_12 "Told.__init__" = true) (ck_g:keepIn K (.ref i_g)=true)
  (ca_j:nsIn K mainGlobals "Die" = some (some (.ref c_j))) (pa_j:plainGet K c_j Str.empty=true) (pb_j:hasDictIn K c_j=true) (pc_j:plainOver K c_j=true)
  (pd_j:findIn K (.ref c_j) "__setattr__" = some (some (.builtin "object.__setattr__"))) (pe_j:findIn K (.ref c_j) "__class__" = some (some (.builtin "object.__class__"))) (pf_j:specialIn K (.builtin "object.__class__") "__get__" = some (some (.builtin "getset_descriptor.__get__"))) (pg_j:takesIn K (.builtin "object.__class__")=some true) (ph_j:mroIn K c_j (.type "object")=some true)
  (qa_j:makesIn K c_j=true) (qb_j:findIn K (.ref c_j) "__init__" = some (some (.ref i_j))) (qc_j:isFn K (.ref i_j)=true) (qd_j:keepIn K (.ref c_j)=true)
  (qn_Die_makes:findIn K (.ref c_j) "makes" = some none)
  (cl_j:K.lookup i_j=some ⟨oc_0,od_0,.func (fnOf "__init__" "Die.__init__" (ag aN) (af aN) (ac aN) .none kV_0 dc_0 pm_0 an_0 cd_0 ct_0),sl_0⟩) (co_j:codeIn K cd_0 "Die.__init__" = true) (ck_j:keepIn K (.ref i_j)=true)
  (ca_aa:nsIn K mainGlobals "Plan" = some (some (.ref c_aa))) (pa_aa:plainGet K c_aa Str.empty=true) (pb_aa:hasDictIn K c_aa=true) (pc_aa:plainOver K c_aa=true)
  (pd_aa:findIn K (.ref c_aa) "__setattr__" = some (some (.builtin "object.__setattr__"))) (pe_aa:findIn K (.ref c_aa) "__class__" = some (some (.builtin "object.__class__"))) (pf_aa:specialIn K (.builtin "object.__class__") "__get__" = some (some (.builtin "getset_descriptor.__get__"))) (pg_aa:takesIn K (.builtin "object.__class__")=some true) (ph_aa:mroIn K c_aa (.type "object")=some true)
  (ca_k:nsIn K mainGlobals "Few" = some (some (.ref c_k))) (pa_k:plainGet K c_k Str.empty=true) (pb_k:hasDictIn K c_k=true) (pc_k:plainOver K c_k=true)
  (pd_k:findIn K (.ref c_k) "__setattr__" = some (some (.builtin "object.__setattr__"))) (pe_k:findIn K (.ref c_k) "__class__" = some (some (.builtin "object.__class__"))) (pf_k:specialIn K (.builtin "object.__class__") "__get__" = some (some (.builtin "getset_descriptor.__get__"))) (pg_k:takesIn K (.builtin "object.__class__")=some true) (ph_k:mroIn K c_k (.type "object")=some true)
  (qa_k:makesIn K c_k=true) (qb_k:findIn K (.ref c_k) "__init__" = some (some (.ref i_k))) (qc_k:isFn K (.ref i_k)=true) (qd_k:keepIn K (.ref c_k)=true)
  (qn_Few_many:findIn K (.ref c_k) "many" = some none)
  (cl_k:K.lookup i_k=some ⟨oc_5,od_5,.func (fnOf "__init__" "Few.__init__" (ag aM) (af aM) (ac aM) .none kV_5 dc_5 pm_5 an_5 cd_5 ct_5),sl_5⟩) (co_k:codeIn K cd_5 "Few.__init__" = true) (ck_k:keepIn K (.ref i_k)=true)
  (ca_d:nsIn K mainGlobals "Start" = some (some (.ref c_d))) (pa_d:plainGet K c_d Str.empty=true) (pb_d:hasDictIn K c_d=true) (pc_d:plainOver K c_d=true)
  (pd_d:findIn K (.ref c_d) "__setattr__" = some (some (.builtin "object.__setattr__"))) (pe_d:findIn K (.ref c_d) "__class__" = some (some (.builtin "object.__class__"))) (pf_d:specialIn K (.builtin "object.__class__") "__get__" = some (some (.builtin "getset_descriptor.__get__"))) (pg_d:takesIn K (.builtin "object.__class__")=some true) (ph_d:mroIn K c_d (.type "object")=some true)
  (qa_d:makesIn K c_d=true) (qb_d:findIn K (.ref c_d) "__init__" = some (some (.ref i_d))) (qc_d:isFn K (.ref i_d)=true) (qd_d:keepIn K (.ref c_d)=true)
  (qn_Start_step:findIn K (.ref c_d) "step" = some none)
  (cl_d:K.lookup i_d=some ⟨oc_e,od_e,.func (fnOf "__init__" "Start.__init__" (ag aF) (af aF) (ac aF) .none kV_e dc_e pm_e an_e cd_e ct_e),sl_e⟩) (co_d:codeIn K cd_e "Start.__init__" = true) (ck_d:keepIn K (.ref i_d)=true)
  (ca_e:nsIn K mainGlobals "Loose" = some (some (.ref c_e))) (pa_e:plainGet K c_e Str.empty=true) (pb_e:hasDictIn K c_e=true) (pc_e:plainOver K c_e=true)
  (pd_e:findIn K (.ref c_e) "__setattr__" = some (some (.builtin "object.__setattr__"))) (pe_e:findIn K (.ref c_e) "__class__" = some (some (.builtin "object.__class__"))) (pf_e:specialIn K (.builtin "object.__class__") "__get__" = some (some (.builtin "getset_descriptor.__get__"))) (pg_e:takesIn K (.builtin "object.__class__")=some true) (ph_e:mroIn K c_e (.type "object")=some true)
  (qa_e:makesIn K c_e=true) (qb_e:findIn K (.ref c_e) "__init__" = some (some (.ref i_e))) (qc_e:isFn K (.ref i_e)=true) (qd_e:keepIn K (.ref c_e)=true)
  (qn_Loose_many:findIn K (.ref c_e) "many" = some none)
  (cl_e:K.lookup i_e=some ⟨oc_9,od_9,.func (fnOf "__init__" "Loose.__init__" (ag aD) (af aD) (ac aD) .none kV_9 dc_9 pm_9 an_9 cd_9 ct_9),sl_9⟩) (co_e:codeIn K cd_9 "Loose.__init__" = true) (ck_e:keepIn K (.ref i_e)=true)
  (mf_13:findIn K (.ref c_g) "is_told" = some (some (.ref x_s)))
  (ml_13:K.lookup x_s=some ⟨oc_13,od_13,.func (fnOf "is_told" "Told.is_told" (ag aO) (af aO) (ac aO) .none kV_13 dc_13 pm_13 an_13 cd_13 ct_13),sl_13⟩) (mo_13:codeIn K cd_13 "Told.is_told" = true) (mk_13:keepIn K (.ref x_s)=true) (mi_13:isFn K (.ref x_s)=true)
  (mf_1:findIn K (.ref c_j) "is_told" = some (some (.ref x_v)))
  (ml_1:K.lookup x_v=some ⟨oc_1,od_1,.func (fnOf "is_told" "Die.is_told" (ag aR) (af aR) (ac aR) .none kV_1 dc_1 pm_1 an_1 cd_1 ct_1),sl_1⟩) (mo_1:codeIn K cd_1 "Die.is_told" = true) (mk_1:keepIn K (.ref x_v)=true) (mi_1:isFn K (.ref x_v)=true)
  (mf_14:findIn K (.ref c_g) "kept" = some (some (.ref x_G)))
  (ml_14:K.lookup x_G=some ⟨oc_14,od_14,.func (fnOf "kept" "Told.kept" (ag bF) (af bF) (ac bF) .none kV_14 dc_14 pm_14 an_14 cd_14 ct_14),sl_14⟩) (mo_14:codeIn K cd_14 "Told.kept" = true) (mk_14:keepIn K (.ref x_G)=true) (mi_14:isFn K (.ref x_G)=true)
  (mf_2:findIn K (.ref c_j) "kept" = some (some (.ref x_O)))
  (ml_2:K.lookup x_O=some ⟨oc_2,od_2,.func (fnOf "kept" "Die.kept" (ag b9) (af b9) (ac b9) .none kV_2 dc_2 pm_2 an_2 cd_2 ct_2),sl_2⟩) (mo_2:codeIn K cd_2 "Die.kept" = true) (mk_2:keepIn K (.ref x_O)=true) (mi_2:isFn K (.ref x_O)=true)
  (mf_16:findIn K (.ref c_g) "sides" = some (some (.ref x_A)))
  (ml_16:K.lookup x_A=some ⟨oc_16,od_16,.func (fnOf "sides" "Told.sides" (ag bj) (af bj) (ac bj) .none kV_16 dc_16 pm_16 an_16 cd_16 ct_16),sl_16⟩) (mo_16:codeIn K cd_16 "Told.sides" = true) (mk_16:keepIn K (.ref x_A)=true) (mi_16:isFn K (.ref x_A)=true)
  (mf_4:findIn K (.ref c_j) "sides" = some (some (.ref x_H)))
  (ml_4:K.lookup x_H=some ⟨oc_4,od_4,.func (fnOf "sides" "Die.sides" (ag bI) (af bI) (ac bI) .none kV_4 dc_4 pm_4 an_4 cd_4 ct_4),sl_4⟩) (mo_4:codeIn K cd_4 "Die.sides" = true) (mk_4:keepIn K (.ref x_H)=true) (mi_4:isFn K (.ref x_H)=true)
  (mf_15:findIn K (.ref c_g) "parts" = some (some (.ref x_B)))
  (ml_15:K.lookup x_B=some ⟨oc_15,od_15,.func (fnOf "parts" "Told.parts" (ag bh) (af bh) (ac bh) .none kV_15 dc_15 pm_15 an_15 cd_15 ct_15),sl_15⟩) (mo_15:codeIn K cd_15 "Told.parts" = true) (mk_15:keepIn K (.ref x_B)=true) (mi_15:isFn K (.ref x_B)=true)
  (mf_3:findIn K (.ref c_j) "parts" = some (some (.ref x_I)))
  (ml_3:K.lookup x_I=some ⟨oc_3,od_3,.func (fnOf "parts" "Die.parts" (ag bL) (af bL) (ac bL) .none kV_3 dc_3 pm_3 an_3 cd_3 ct_3),sl_3⟩) (mo_3:codeIn K cd_3 "Die.parts" = true) (mk_3:keepIn K (.ref x_I)=true) (mi_3:isFn K (.ref x_I)=true)
  (mf_11:findIn K (.ref c_d) "node" = some (some (.ref x_p)))
  (ml_11:K.lookup x_p=some ⟨oc_11,od_11,.func (fnOf "node" "Start.node" (ag bu) (af bu) (ac bu) .none kV_11 dc_11 pm_11 an_11 cd_11 ct_11),sl_11⟩) (mo_11:codeIn K cd_11 "Start.node" = true) (mk_11:keepIn K (.ref x_p)=true) (mi_11:isFn K (.ref x_p)=true)
  (mf_10:findIn K (.ref c_d) "matrix" = some (some (.ref x_a)))
  (ml_10:K.lookup x_a=some ⟨oc_10,od_10,.func (fnOf "matrix" "Start.matrix" (ag aH) (af aH) (ac aH) .none kV_10 dc_10 pm_10 an_10 cd_10 ct_10),sl_10⟩) (mo_10:codeIn K cd_10 "Start.matrix" = true) (mk_10:keepIn K (.ref x_a)=true) (mi_10:isFn K (.ref x_a)=true)
  (mf_f:findIn K (.ref c_d) "bounds" = some (some (.ref x_t)))
  (ml_f:K.lookup x_t=some ⟨oc_f,od_f,.func (fnOf "bounds" "Start.bounds" (ag aK) (af aK) (ac aK) .none kV_f dc_f pm_f an_f cd_f ct_f),sl_f⟩) (mo_f:codeIn K cd_f "Start.bounds" = true) (mk_f:keepIn K (.ref x_t)=true) (mi_f:isFn K (.ref x_t)=true)
  (mf_c:findIn K (.ref c_e) "node" = some (some (.ref x_q)))
  (ml_c:K.lookup x_q=some ⟨oc_c,od_c,.func (fnOf "node" "Loose.node" (ag bi) (af bi) (ac bi) .none kV_c dc_c pm_c an_c cd_c ct_c),sl_c⟩) (mo_c:codeIn K cd_c "Loose.node" = true) (mk_c:keepIn K (.ref x_q)=true) (mi_c:isFn K (.ref x_q)=true)
  (mf_b:findIn K (.ref c_e) "matrix" = some (some (.ref x_b)))
  (ml_b:K.lookup x_b=some ⟨oc_b,od_b,.func (fnOf "matrix" "Loose.matrix" (ag aI) (af aI) (ac aI) .none kV_b dc_b pm_b an_b cd_b ct_b),sl_b⟩) (mo_b:codeIn K cd_b "Loose.matrix" = true) (mk_b:keepIn K (.ref x_b)=true) (mi_b:isFn K (.ref x_b)=true)
  (mf_a:findIn K (.ref c_e) "bounds" = some (some (.ref x_n)))
  (ml_a:K.lookup x_n=some ⟨oc_a,od_a,.func (fnOf "bounds" "Loose.bounds" (ag aL) (af aL) (ac aL) .none kV_a dc_a pm_a an_a cd_a ct_a),sl_a⟩) (mo_a:codeIn K cd_a "Loose.bounds" = true) (mk_a:keepIn K (.ref x_n)=true) (mi_a:isFn K (.ref x_n)=true)
  (mf_8:findIn K (.ref c_k) "node" = some (some (.ref x_E)))
  (ml_8:K.lookup x_E=some ⟨oc_8,od_8,.func (fnOf "node" "Few.node" (ag b7) (af b7) (ac b7) .none kV_8 dc_8 pm_8 an_8 cd_8 ct_8),sl_8⟩) (mo_8:codeIn K cd_8 "Few.node" = true) (mk_8:keepIn K (.ref x_E)=true) (mi_8:isFn K (.ref x_E)=true)
  (mf_7:findIn K (.ref c_k) "matrix" = some (some (.ref x_f)))
  (ml_7:K.lookup x_f=some ⟨oc_7,od_7,.func (fnOf "matrix" "Few.matrix" (ag aU) (af aU) (ac aU) .none kV_7 dc_7 pm_7 an_7 cd_7 ct_7),sl_7⟩) (mo_7:codeIn K cd_7 "Few.matrix" = true) (mk_7:keepIn K (.ref x_f)=true) (mi_7:isFn K (.ref x_f)=true)
  (mf_6:findIn K (.ref c_k) "bounds" = some (some (.ref x_u)))
  (ml_6:K.lookup x_u=some ⟨oc_6,od_6,.func (fnOf "bounds" "Few.bounds" (ag bn) (af bn) (ac bn) .none kV_6 dc_6 pm_6 an_6 cd_6 ct_6),sl_6⟩) (mo_6:codeIn K cd_6 "Few.bounds" = true) (mk_6:keepIn K (.ref x_u)=true) (mi_6:isFn K (.ref x_u)=true)
  (lca_b:cd_b=.ref lc_b) (lct_b:K.lookup lc_b=some ⟨lo_b,lod_b,.fields lvs_b,lsl_b⟩) (lcq_b:lvs_b[11]? = some (.ref lp_b)) (lch_b:codeHdIn K lc_b lp_b=true)
  (lca_18:cd15=.ref lc_c) (lct_18:K.lookup lc_c=some ⟨lo_18,lod_18,.fields lvs_18,lsl_18⟩) (lcq_18:lvs_18[11]? = some (.ref lp_c)) (lch_c:codeHdIn K lc_c lp_c=true)
  (lca_10:cd_10=.ref lc_a) (lct_10:K.lookup lc_a=some ⟨lo_10,lod_10,.fields lvs_10,lsl_10⟩) (lcq_10:lvs_10[11]? = some (.ref lp_a)) (lch_a:codeHdIn K lc_a lp_a=true)
  (lca_19:cd13=.ref lc_i) (lct_19:K.lookup lc_i=some ⟨lo_19,lod_19,.fields lvs_19,lsl_19⟩) (lcq_19:lvs_19[11]? = some (.ref lp_i)) (lch_i:codeHdIn K lc_i lp_i=true)
  (lca_7:cd_7=.ref lc_f) (lct_7:K.lookup lc_f=some ⟨lo_7,lod_7,.fields lvs_7,lsl_7⟩) (lcq_7:lvs_7[11]? = some (.ref lp_f)) (lch_f:codeHdIn K lc_f lp_f=true)
  (lca_17:cd11=.ref lc_h) (lct_17:K.lookup lc_h=some ⟨lo_17,lod_17,.fields lvs_17,lsl_17⟩) (lcq_17:lvs_17[11]? = some (.ref lp_h)) (lch_h:codeHdIn K lc_h lp_h=true)
  (ltnd:([lp_b,lp_c,lp_a,lp_i,lp_f,lp_h]:List Addr).Nodup)
  (z0:nsIn K mainGlobals "abs" = some none)
  (z1:nsIn K mainGlobals "bool" = some none)
  (z2:nsIn K mainGlobals "enumerate" = some none)
  (z3:nsIn K mainGlobals "int" = some none)
  (z4:nsIn K mainGlobals "isinstance" = some none)
  (z5:nsIn K mainGlobals "len" = some none)
  (z6:nsIn K mainGlobals "list" = some none)
  (z7:nsIn K mainGlobals "max" = some none)
  (z8:nsIn K mainGlobals "min" = some none)
  (z9:nsIn K mainGlobals "range" = some none)
  (z10:nsIn K mainGlobals "set" = some none)
  (z11:nsIn K mainGlobals "sorted" = some none)
  (z12:nsIn K mainGlobals "sum" = some none)
  (z13:nsIn K mainGlobals "tuple" = some none)
  (z14:nsIn K mainGlobals "zip" = some none) (r0:RelV (.int 24) u0) (r1:RelV (.int 100) u1):∃ a:Ad,Txt K mg a/\(tabs a).map (·.1)=[lp_b,lp_c,lp_a,lp_i,lp_f,lp_h]:=by
 refine⟨{ f_m:=f0,d_m:=fnOf "greatest_divisor" "greatest_divisor" (ag aB) (af aB) (ac aB) .none kV0 dc0 pm0 an0 cd0 ct0,f_D:=f1,d_D:=fnOf "share" "share" (ag du) (af du) (ac du) .none kV1 dc1 pm1 an1 cd1 ct1,f_ad:=f2,d_ad:=fnOf "times" "times" (ag dq) (af dq) (ac dq) .none kV2 dc2 pm2 an2 cd2 ct2,f_W:=f3,d_W:=fnOf "is_whole" "is_whole" (ag ce) (af ce) (ac ce) .none kV3 dc3 pm3 an3 cd3 ct3,f_ab:=f4,d_ab:=fnOf "wished" "wished" (ag cI) (af cI) (ac cI) .none kV4 dc4 pm4 an4 cd4 ct4,f_l:=f5,d_l:=fnOf "wished_of_some" "wished_of_some" (ag aE) (af aE) (ac aE) .none kV5 dc5 pm5 an5 cd5 ct5,f_w:=f6,d_w:=fnOf "wished_by" "wished_by" (ag bK) (af bK) (ac bK) .none kV6 dc6 pm6 an6 cd6 ct6,f_x:=f7,d_x:=fnOf "places_of" "places_of" (ag bG) (af bG) (ac bG) .none kV7 dc7 pm7 an7 cd7 ct7,f_y:=f8,d_y:=fnOf "matrix_by" "matrix_by" (ag bH) (af bH) (ac bH) .none kV8 dc8 pm8 an8 cd8 ct8,f_L:=f9,d_L:=fnOf "matrix_row" "matrix_row" (ag br) (af br) (ac br) .none kV9 dc9 pm9 an9 cd9 ct9,f_o:=f10,d_o:=fnOf "need_number" "need_number" (ag aS) (af aS) (ac aS) .none kV10 dc10 pm10 an10 cd10 ct10,f_h:=f11,d_h:=fnOf "few_node" "few_node" (ag bC) (af bC) (ac bC) .none kV11 dc11 pm11 an11 cd11 ct11,f_M:=f12,d_M:=fnOf "few_chance" "few_chance" (ag bt) (af bt) (ac bt) .none kV12 dc12 pm12 an12 cd12 ct12,f_i:=f13,d_i:=fnOf "start_make" "start_make" (ag aV) (af aV) (ac aV) .none kV13 dc13 pm13 an13 cd13 ct13,f_Q:=f14,d_Q:=fnOf "is_unsure" "is_unsure" (ag bM) (af bM) (ac bM) .none kV14 dc14 pm14 an14 cd14 ct14,f_c:=f15,d_c:=fnOf "loose_node" "loose_node" (ag aQ) (af aQ) (ac aQ) .none kV15 dc15 pm15 an15 cd15 ct15,f_C:=f16,d_C:=fnOf "_law_cell" "_law_cell" (ag cO) (af cO) (ac cO) .none kV16 dc16 pm16 an16 cd16 ct16,f_ac:=f17,d_ac:=fnOf "_law_mix" "_law_mix" (ag dw) (af dw) (ac dw) .none kV17 dc17 pm17 an17 cd17 ct17,f_X:=f18,d_X:=fnOf "_law_row" "_law_row" (ag dv) (af dv) (ac dv) .none kV18 dc18 pm18 an18 cd18 ct18,f_V:=f19,d_V:=fnOf "_law_whole" "_law_whole" (ag cv) (af cv) (ac cv) .none kV19 dc19 pm19 an19 cd19 ct19,f_U:=f20,d_U:=fnOf "_law_low" "_law_low" (ag dn) (af dn) (ac dn) .none kV20 dc20 pm20 an20 cd20 ct20,f_T:=f21,d_T:=fnOf "_law_plus" "_law_plus" (ag cM) (af cM) (ac cM) .none kV21 dc21 pm21 an21 cd21 ct21,f_Y:=f22,d_Y:=fnOf "_law_times" "_law_times" (ag cu) (af cu) (ac cu) .none kV22 dc22 pm22 an22 cd22 ct22,f_N:=f23,d_N:=fnOf "_law_fraction" "_law_fraction" (ag bp) (af bp) (ac bp) .none kV23 dc23 pm23 an23 cd23 ct23,f_J:=f24,d_J:=fnOf "_law_matrix" "_law_matrix" (ag cc) (af cc) (ac cc) .none kV24 dc24 pm24 an24 cd24 ct24,f_K:=f25,d_K:=fnOf "_law_crowd" "_law_crowd" (ag cy) (af cy) (ac cy) .none kV25 dc25 pm25 an25 cd25 ct25,f_F:=f26,d_F:=fnOf "_law_ways" "_law_ways" (ag cN) (af cN) (ac cN) .none kV26 dc26 pm26 an26 cd26 ct26,f_r:=f27,d_r:=fnOf "_law_together" "_law_together" (ag bv) (af bv) (ac bv) .none kV27 dc27 pm27 an27 cd27 ct27,f_S:=f28,d_S:=fnOf "_law_good" "_law_good" (ag cK) (af cK) (ac cK) .none kV28 dc28 pm28 an28 cd28 ct28,f_R:=f29,d_R:=fnOf "_law_alike" "_law_alike" (ag cq) (af cq) (ac cq) .none kV29 dc29 pm29 an29 cd29 ct29,f_ae:=f30,d_ae:=fnOf "law" "law" (ag gs) (af gs) (ac gs) .none kV30 dc30 pm30 an30 cd30 ct30,c_P:=c_P,c_z:=c_z,i_z:=i_z,e_z:=fnOf "__init__" "NoPlan.__init__" (ag bz) (af bz) (ac bz) .none kV_d dc_d pm_d an_d cd_d ct_d,c_Z:=c_Z,c_g:=c_g,i_g:=i_g,e_g:=fnOf "__init__" "Told.__init__" (ag aJ) (af aJ) (ac aJ) .none kV_12 dc_12 pm_12 an_12 cd_12 ct_12,c_j:=c_j,i_j:=i_j,e_j:=fnOf "__init__" "Die.__init__" (ag aN) (af aN) (ac aN) .none kV_0 dc_0 pm_0 an_0 cd_0 ct_0,c_aa:=c_aa,c_k:=c_k,i_k:=i_k,e_k:=fnOf "__init__" "Few.__init__" (ag aM) (af aM) (ac aM) .none kV_5 dc_5 pm_5 an_5 cd_5 ct_5,c_d:=c_d,i_d:=i_d,e_d:=fnOf "__init__" "Start.__init__" (ag aF) (af aF) (ac aF) .none kV_e dc_e pm_e an_e cd_e ct_e,c_e:=c_e,i_e:=i_e,e_e:=fnOf "__init__" "Loose.__init__" (ag aD) (af aD) (ac aD) .none kV_9 dc_9 pm_9 an_9 cd_9 ct_9,x_s:=x_s,y_s:=fnOf "is_told" "Told.is_told" (ag aO) (af aO) (ac aO) .none kV_13 dc_13 pm_13 an_13 cd_13 ct_13,x_v:=x_v,y_v:=fnOf "is_told" "Die.is_told" (ag aR) (af aR) (ac aR) .none kV_1 dc_1 pm_1 an_1 cd_1 ct_1,x_G:=x_G,y_G:=fnOf "kept" "Told.kept" (ag bF) (af bF) (ac bF) .none kV_14 dc_14 pm_14 an_14 cd_14 ct_14,x_O:=x_O,y_O:=fnOf "kept" "Die.kept" (ag b9) (af b9) (ac b9) .none kV_2 dc_2 pm_2 an_2 cd_2 ct_2,x_A:=x_A,y_A:=fnOf "sides" "Told.sides" (ag bj) (af bj) (ac bj) .none kV_16 dc_16 pm_16 an_16 cd_16 ct_16,x_H:=x_H,y_H:=fnOf "sides" "Die.sides" (ag bI) (af bI) (ac bI) .none kV_4 dc_4 pm_4 an_4 cd_4 ct_4,x_B:=x_B,y_B:=fnOf "parts" "Told.parts" (ag bh) (af bh) (ac bh) .none kV_15 dc_15 pm_15 an_15 cd_15 ct_15,x_I:=x_I,y_I:=fnOf "parts" "Die.parts" (ag bL) (af bL) (ac bL) .none kV_3 dc_3 pm_3 an_3 cd_3 ct_3,x_p:=x_p,y_p:=fnOf "node" "Start.node" (ag bu) (af bu) (ac bu) .none kV_11 dc_11 pm_11 an_11 cd_11 ct_11,x_a:=x_a,y_a:=fnOf "matrix" "Start.matrix" (ag aH) (af aH) (ac aH) .none kV_10 dc_10 pm_10 an_10 cd_10 ct_10,x_t:=x_t,y_t:=fnOf "bounds" "Start.bounds" (ag aK) (af aK) (ac aK) .none kV_f dc_f pm_f an_f cd_f ct_f,x_q:=x_q,y_q:=fnOf "node" "Loose.node" (ag bi) (af bi) (ac bi) .none kV_c dc_c pm_c an_c cd_c ct_c,x_b:=x_b,y_b:=fnOf "matrix" "Loose.matrix" (ag aI) (af aI) (ac aI) .none kV_b dc_b pm_b an_b cd_b ct_b,x_n:=x_n,y_n:=fnOf "bounds" "Loose.bounds" (ag aL) (af aL) (ac aL) .none kV_a dc_a pm_a an_a cd_a ct_a,x_E:=x_E,y_E:=fnOf "node" "Few.node" (ag b7) (af b7) (ac b7) .none kV_8 dc_8 pm_8 an_8 cd_8 ct_8,x_f:=x_f,y_f:=fnOf "matrix" "Few.matrix" (ag aU) (af aU) (ac aU) .none kV_7 dc_7 pm_7 an_7 cd_7 ct_7,x_u:=x_u,y_u:=fnOf "bounds" "Few.bounds" (ag bn) (af bn) (ac bn) .none kV_6 dc_6 pm_6 an_6 cd_6 ct_6,k_NOUGHT:=k_NOUGHT,k_WHOLE:=k_WHOLE,lc_b:=lc_b,lp_b:=lp_b,lc_c:=lc_c,lp_c:=lp_c,lc_a:=lc_a,lp_a:=lp_a,lc_i:=lc_i,lp_i:=lp_i,lc_f:=lc_f,lp_f:=lp_f,lc_h:=lc_h,lp_h:=lp_h },?_,rfl⟩
 exact {
  lcd_b:=lca_b
  lch_b:=lch_b
  lcd_c:=lca_18
  lch_c:=lch_c
  lcd_a:=lca_10
  lch_a:=lch_a
  lcd_i:=lca_19
  lch_i:=lch_i
  lcd_f:=lca_7
  lch_f:=lch_f
  lcd_h:=lca_17
  lch_h:=lch_h
  tnd:=ltnd
  F_m:=am l0 c0 k0
  B_m:=(am l0 c0 k0).binds (ps:=["one","other"]) λ_ _ _ _ _ _ us hl=>(by obtain⟨_,_,rfl⟩:=us2 hl;rfl)
  m_m:=mg_of X G a0
  F_D:=am l1 c1 k1
  B_D:=(am l1 c1 k1).binds (ps:=["top","bottom"]) λ_ _ _ _ _ _ us hl=>(by obtain⟨_,_,rfl⟩:=us2 hl;rfl)
  m_D:=mg_of X G a1
  F_ad:=am l2 c2 k2
  B_ad:=(am l2 c2 k2).binds (ps:=["one","other"]) λ_ _ _ _ _ _ us hl=>(by obtain⟨_,_,rfl⟩:=us2 hl;rfl)
  m_ad:=mg_of X G a2
  F_W:=am l3 c3 k3
  B_W:=(am l3 c3 k3).binds (ps:=["thing","low","high"]) λ_ _ _ _ _ _ us hl=>(by obtain⟨_,_,_,rfl⟩:=us3 hl;rfl)
  m_W:=mg_of X G a3
  F_ab:=am l4 c4 k4
  B_ab:=(am l4 c4 k4).binds (ps:=["sizes","many"]) λ_ _ _ _ _ _ us hl=>(by obtain⟨_,_,rfl⟩:=us2 hl;rfl)
  m_ab:=mg_of X G a4
  F_l:=am l5 c5 k5
  B_l:=(am l5 c5 k5).binds (ps:=["sizes","many"]) λ_ _ _ _ _ _ us hl=>(by obtain⟨_,_,rfl⟩:=us2 hl;rfl)
  m_l:=mg_of X G a5
  F_w:=am l6 c6 k6
  B_w:=(am l6 c6 k6).binds (ps:=["crowd","many"]) λ_ _ _ _ _ _ us hl=>(by obtain⟨_,_,rfl⟩:=us2 hl;rfl)
  m_w:=mg_of X G a6
  F_x:=am l7 c7 k7
  B_x:=(am l7 c7 k7).binds (ps:=["crowd"]) λ_ _ _ _ _ _ us hl=>(by obtain⟨_,rfl⟩:=us1 hl;rfl)
  m_x:=mg_of X G a7
  F_y:=am l8 c8 k8
  B_y:=(am l8 c8 k8).binds (ps:=["many","tell"]) λ_ _ _ _ _ _ us hl=>(by obtain⟨_,_,rfl⟩:=us2 hl;rfl)
  m_y:=mg_of X G a8
  F_L:=am l9 c9 k9
  B_L:=(am l9 c9 k9).binds (ps:=["one","many","tell"]) λ_ _ _ _ _ _ us hl=>(by obtain⟨_,_,_,rfl⟩:=us3 hl;rfl)
  m_L:=mg_of X G a9
  F_o:=am l10 c10 k10
  B_o:=(am l10 c10 k10).binds (ps:=["thing","low","high"]) λ_ _ _ _ _ _ us hl=>(by obtain⟨_,_,_,rfl⟩:=us3 hl;rfl)
  m_o:=mg_of X G a10
  F_h:=am l11 c11 k11
  B_h:=(am l11 c11 k11).binds (ps:=["ahead","wanted","taken"]) λ_ _ _ _ _ _ us hl=>(by obtain⟨_,_,_,rfl⟩:=us3 hl;rfl)
  m_h:=mg_of X G a11
  F_M:=am l12 c12 k12
  B_M:=(am l12 c12 k12).binds (ps:=["there","wanted","is_same"]) λ_ _ _ _ _ _ us hl=>(by obtain⟨_,_,_,rfl⟩:=us3 hl;rfl)
  m_M:=mg_of X G a12
  F_i:=am l13 c13 k13
  B_i:=(am l13 c13 k13).binds (ps:=["places","step","first"]) λ_ _ _ _ _ _ us hl=>(by obtain⟨_,_,_,rfl⟩:=us3 hl;rfl)
  m_i:=mg_of X G a13
  F_Q:=am l14 c14 k14
  B_Q:=(am l14 c14 k14).binds (ps:=["chance"]) λ_ _ _ _ _ _ us hl=>(by obtain⟨_,rfl⟩:=us1 hl;rfl)
  m_Q:=mg_of X G a14
  F_c:=am l15 c15 k15
  B_c:=(am l15 c15 k15).binds (ps:=["ahead","taken"]) λ_ _ _ _ _ _ us hl=>(by obtain⟨_,_,rfl⟩:=us2 hl;rfl)
  m_c:=mg_of X G a15
  F_C:=am l16 c16 k16
  B_C:=(am l16 c16 k16).binds (ps:=["_law_script","_law_k"]) λ_ _ _ _ _ _ us hl=>(by obtain⟨_,_,rfl⟩:=us2 hl;rfl)
  m_C:=mg_of X G a16
  F_ac:=am l17 c17 k17
  B_ac:=(am l17 c17 k17).binds (ps:=["_law_cell_here","_law_k"]) λ_ _ _ _ _ _ us hl=>(by obtain⟨_,_,rfl⟩:=us2 hl;rfl)
  m_ac:=mg_of X G a17
  F_X:=am l18 c18 k18
  B_X:=(am l18 c18 k18).binds (ps:=["_law_cell_here","_law_bit","_law_many","_law_most"]) λ_ _ _ _ _ _ us hl=>(by obtain⟨_,_,_,_,rfl⟩:=us4 hl;rfl)
  m_X:=mg_of X G a18
  F_V:=am l19 c19 k19
  B_V:=(am l19 c19 k19).binds (ps:=["_law_found"]) λ_ _ _ _ _ _ us hl=>(by obtain⟨_,rfl⟩:=us1 hl;rfl)
  m_V:=mg_of X G a19
  F_U:=am l20 c20 k20
  B_U:=(am l20 c20 k20).binds (ps:=["_law_top","_law_bottom"]) λ_ _ _ _ _ _ us hl=>(by obtain⟨_,_,rfl⟩:=us2 hl;rfl)
  m_U:=mg_of X G a20
  F_T:=am l21 c21 k21
  B_T:=(am l21 c21 k21).binds (ps:=["_law_one","_law_other"]) λ_ _ _ _ _ _ us hl=>(by obtain⟨_,_,rfl⟩:=us2 hl;rfl)
  m_T:=mg_of X G a21
  F_Y:=am l22 c22 k22
  B_Y:=(am l22 c22 k22).binds (ps:=["_law_one","_law_other"]) λ_ _ _ _ _ _ us hl=>(by obtain⟨_,_,rfl⟩:=us2 hl;rfl)
  m_Y:=mg_of X G a22
  F_N:=am l23 c23 k23
  B_N:=(am l23 c23 k23).binds (ps:=["_law_found","_law_due"]) λ_ _ _ _ _ _ us hl=>(by obtain⟨_,_,rfl⟩:=us2 hl;rfl)
  m_N:=mg_of X G a23
  F_J:=am l24 c24 k24
  B_J:=(am l24 c24 k24).binds (ps:=["_law_found","_law_due"]) λ_ _ _ _ _ _ us hl=>(by obtain⟨_,_,rfl⟩:=us2 hl;rfl)
  m_J:=mg_of X G a24
  F_K:=am l25 c25 k25
  B_K:=(am l25 c25 k25).binds (ps:=["_law_script","_law_start","_law_most"]) λ_ _ _ _ _ _ us hl=>(by obtain⟨_,_,_,rfl⟩:=us3 hl;rfl)
  m_K:=mg_of X G a25
  F_F:=am l26 c26 k26
  B_F:=(am l26 c26 k26).binds (ps:=["_law_node","_law_much"]) λ_ _ _ _ _ _ us hl=>(by obtain⟨_,_,rfl⟩:=us2 hl;rfl)
  m_F:=mg_of X G a26
  F_r:=am l27 c27 k27
  B_r:=(am l27 c27 k27).binds (ps:=["_law_ways_here","_law_places"]) λ_ _ _ _ _ _ us hl=>(by obtain⟨_,_,rfl⟩:=us2 hl;rfl)
  m_r:=mg_of X G a27
  F_S:=am l28 c28 k28
  B_S:=(am l28 c28 k28).binds (ps:=["_law_plan","_law_crowd_here"]) λ_ _ _ _ _ _ us hl=>(by obtain⟨_,_,rfl⟩:=us2 hl;rfl)
  m_S:=mg_of X G a28
  F_R:=am l29 c29 k29
  B_R:=(am l29 c29 k29).binds (ps:=["_law_plan","_law_crowd_here","_law_many"]) λ_ _ _ _ _ _ us hl=>(by obtain⟨_,_,_,rfl⟩:=us3 hl;rfl)
  m_R:=mg_of X G a29
  F_ae:=am l30 c30 k30
  m_ae:=mg_of X G a30
  g_NOUGHT:=⟨_,mg_of X G b_NOUGHT,rfl⟩
  t_NOUGHT:=bt_NOUGHT
  g_WHOLE:=⟨_,mg_of X G b_WHOLE,rfl⟩
  t_WHOLE:=bt_WHOLE
  F_s:=am ml_13 mo_13 mk_13
  B_s:=(am ml_13 mo_13 mk_13).binds (ps:=["self"]) λ_ _ _ _ _ _ us hl=>(by obtain⟨_,rfl⟩:=us1 hl;rfl)
  F_v:=am ml_1 mo_1 mk_1
  B_v:=(am ml_1 mo_1 mk_1).binds (ps:=["self"]) λ_ _ _ _ _ _ us hl=>(by obtain⟨_,rfl⟩:=us1 hl;rfl)
  F_G:=am ml_14 mo_14 mk_14
  B_G:=(am ml_14 mo_14 mk_14).binds (ps:=["self"]) λ_ _ _ _ _ _ us hl=>(by obtain⟨_,rfl⟩:=us1 hl;rfl)
  F_O:=am ml_2 mo_2 mk_2
  B_O:=(am ml_2 mo_2 mk_2).binds (ps:=["self"]) λ_ _ _ _ _ _ us hl=>(by obtain⟨_,rfl⟩:=us1 hl;rfl)
  F_A:=am ml_16 mo_16 mk_16
  B_A:=(am ml_16 mo_16 mk_16).binds (ps:=["self"]) λ_ _ _ _ _ _ us hl=>(by obtain⟨_,rfl⟩:=us1 hl;rfl)
  F_H:=am ml_4 mo_4 mk_4
  B_H:=(am ml_4 mo_4 mk_4).binds (ps:=["self"]) λ_ _ _ _ _ _ us hl=>(by obtain⟨_,rfl⟩:=us1 hl;rfl)
  F_B:=am ml_15 mo_15 mk_15
  B_B:=(am ml_15 mo_15 mk_15).binds (ps:=["self"]) λ_ _ _ _ _ _ us hl=>(by obtain⟨_,rfl⟩:=us1 hl;rfl)
  F_I:=am ml_3 mo_3 mk_3
  B_I:=(am ml_3 mo_3 mk_3).binds (ps:=["self"]) λ_ _ _ _ _ _ us hl=>(by obtain⟨_,rfl⟩:=us1 hl;rfl)
  F_p:=am ml_11 mo_11 mk_11
  B_p:=(am ml_11 mo_11 mk_11).binds (ps:=["self","crowd"]) λ_ _ _ _ _ _ us hl=>(by obtain⟨_,_,rfl⟩:=us2 hl;rfl)
  F_a:=am ml_10 mo_10 mk_10
  B_a:=(am ml_10 mo_10 mk_10).binds (ps:=["self","crowd"]) λ_ _ _ _ _ _ us hl=>(by obtain⟨_,_,rfl⟩:=us2 hl;rfl)
  F_t:=am ml_f mo_f mk_f
  B_t:=(am ml_f mo_f mk_f).binds (ps:=["self","crowd"]) λ_ _ _ _ _ _ us hl=>(by obtain⟨_,_,rfl⟩:=us2 hl;rfl)
  F_q:=am ml_c mo_c mk_c
  B_q:=(am ml_c mo_c mk_c).binds (ps:=["self","crowd"]) λ_ _ _ _ _ _ us hl=>(by obtain⟨_,_,rfl⟩:=us2 hl;rfl)
  F_b:=am ml_b mo_b mk_b
  B_b:=(am ml_b mo_b mk_b).binds (ps:=["self","crowd"]) λ_ _ _ _ _ _ us hl=>(by obtain⟨_,_,rfl⟩:=us2 hl;rfl)
  F_n:=am ml_a mo_a mk_a
  B_n:=(am ml_a mo_a mk_a).binds (ps:=["self","crowd"]) λ_ _ _ _ _ _ us hl=>(by obtain⟨_,_,rfl⟩:=us2 hl;rfl)
  F_E:=am ml_8 mo_8 mk_8
  B_E:=(am ml_8 mo_8 mk_8).binds (ps:=["self","crowd"]) λ_ _ _ _ _ _ us hl=>(by obtain⟨_,_,rfl⟩:=us2 hl;rfl)
  F_f:=am ml_7 mo_7 mk_7
  B_f:=(am ml_7 mo_7 mk_7).binds (ps:=["self","crowd"]) λ_ _ _ _ _ _ us hl=>(by obtain⟨_,_,rfl⟩:=us2 hl;rfl)
  F_u:=am ml_6 mo_6 mk_6
  B_u:=(am ml_6 mo_6 mk_6).binds (ps:=["self","crowd"]) λ_ _ _ _ _ _ us hl=>(by obtain⟨_,_,rfl⟩:=us2 hl;rfl)
  mt_s:=⟨mf_13,mi_13,mk_13⟩
  mt_v:=⟨mf_1,mi_1,mk_1⟩
  mt_G:=⟨mf_14,mi_14,mk_14⟩
  mt_O:=⟨mf_2,mi_2,mk_2⟩
  mt_A:=⟨mf_16,mi_16,mk_16⟩
  mt_H:=⟨mf_4,mi_4,mk_4⟩
  mt_B:=⟨mf_15,mi_15,mk_15⟩
  mt_I:=⟨mf_3,mi_3,mk_3⟩
  mt_p:=⟨mf_11,mi_11,mk_11⟩
  mt_a:=⟨mf_10,mi_10,mk_10⟩
  mt_t:=⟨mf_f,mi_f,mk_f⟩
  mt_q:=⟨mf_c,mi_c,mk_c⟩
  mt_b:=⟨mf_b,mi_b,mk_b⟩
  mt_n:=⟨mf_a,mi_a,mk_a⟩
  mt_E:=⟨mf_8,mi_8,mk_8⟩
  mt_f:=⟨mf_7,mi_7,mk_7⟩
  mt_u:=⟨mf_6,mi_6,mk_6⟩
  mc_g:=mg_of X G ca_g
  cl_g:=⟨pa_g,pb_g,pc_g,pd_g⟩
  mk_g:=⟨qa_g,qb_g,qc_g,qd_g⟩
  na_Told_rising:=qn_Told_rising
  Fi_g:=am cl_g co_g ck_g
  Bi_g:=(am cl_g co_g ck_g).binds (ps:=["self","kept"]) λ_ _ _ _ _ _ us hl=>(by obtain⟨_,_,rfl⟩:=us2 hl;rfl)
  mc_j:=mg_of X G ca_j
  cl_j:=⟨pa_j,pb_j,pc_j,pd_j⟩
  mk_j:=⟨qa_j,qb_j,qc_j,qd_j⟩
  na_Die_makes:=qn_Die_makes
  Fi_j:=am cl_j co_j ck_j
  Bi_j:=(am cl_j co_j ck_j).binds (ps:=["self","parts"]) λ_ _ _ _ _ _ us hl=>(by obtain⟨_,_,rfl⟩:=us2 hl;rfl)
  mc_k:=mg_of X G ca_k
  cl_k:=⟨pa_k,pb_k,pc_k,pd_k⟩
  mk_k:=⟨qa_k,qb_k,qc_k,qd_k⟩
  na_Few_many:=qn_Few_many
  Fi_k:=am cl_k co_k ck_k
  Bi_k:=(am cl_k co_k ck_k).binds (ps:=["self","many"]) λ_ _ _ _ _ _ us hl=>(by obtain⟨_,_,rfl⟩:=us2 hl;rfl)
  mc_d:=mg_of X G ca_d
  cl_d:=⟨pa_d,pb_d,pc_d,pd_d⟩
  mk_d:=⟨qa_d,qb_d,qc_d,qd_d⟩
  na_Start_step:=qn_Start_step
  Fi_d:=am cl_d co_d ck_d
  Bi_d:=(am cl_d co_d ck_d).binds (ps:=["self","step"]) λ_ _ _ _ _ _ us hl=>(by obtain⟨_,_,rfl⟩:=us2 hl;rfl)
  mc_e:=mg_of X G ca_e
  cl_e:=⟨pa_e,pb_e,pc_e,pd_e⟩
  mk_e:=⟨qa_e,qb_e,qc_e,qd_e⟩
  na_Loose_many:=qn_Loose_many
  Fi_e:=am cl_e co_e ck_e
  Bi_e:=(am cl_e co_e ck_e).binds (ps:=["self","many"]) λ_ _ _ _ _ _ us hl=>(by obtain⟨_,_,rfl⟩:=us2 hl;rfl)
  g_MOST_MANY:=⟨u0,mg_of X G b0,r0⟩
  g_MOST_STEP:=⟨u1,mg_of X G b1,r1⟩
  z_abs:=mg_none_of X G z0
  z_bool:=mg_none_of X G z1
  z_enumerate:=mg_none_of X G z2
  z_int:=mg_none_of X G z3
  z_isinstance:=mg_none_of X G z4
  z_len:=mg_none_of X G z5
  z_list:=mg_none_of X G z6
  z_max:=mg_none_of X G z7
  z_min:=mg_none_of X G z8
  z_range:=mg_none_of X G z9
  z_set:=mg_none_of X G z10
  z_sorted:=mg_none_of X G z11
  z_sum:=mg_none_of X G z12
  z_tuple:=mg_none_of X G z13
  z_zip:=mg_none_of X G z14
  bl:=λs u=>.of_eq rfl }
end My
open PySem PySem.W PyProof.Rows
namespace PySem.W.Fast
def tw5964398619142331585:=0
def tw17799397074144295043:=0
def tw17096544717005762052:=0
def tw14011050913062209189:=0
def tw1108269050753659557:=0
def tw9261551290782236839:=0
def tw9240988105941699850:=0
def tw18108082459038415980:=0
def tw16865159242945097646:=0
def tw6054164992023885999:=0
def tw10755397293185803570:=0
def tw8717705830725260018:=0
def tw3479531805554936755:=0
def tw9430367974411815125:=0
def tw14820730944205412505:=0
def tw14184727770041188123:=0
def tw14485861202787654972:=0
def tw4353164069488546493:=0
def tw10029115557090115565:=0
def tw10030225956828699963:=0
def tw10063927059904679398:=0
def tw10079896391754866336:=0
def tw10085097671201619632:=0
def tw10141148244523613681:=0
def tw1021473340138859555:=0
def tw10241839232138855881:=0
def tw10263078225023589221:=0
def tw10326588842899618504:=0
def tw10334714546220646051:=0
def tw1036501506466514960:=0
def tw10382766996102530530:=0
def tw10395568947485167622:=0
def tw10485060295558606595:=0
def tw10531653627168663796:=0
def tw10541612086384384443:=0
def tw10591363055768806500:=0
def tw10613903899300063255:=0
def tw10637077455039860822:=0
def tw10659814458189509608:=0
def tw10713811629436122939:=0
def tw10792747297457630829:=0
def tw10884181247788651309:=0
def tw10889299347235500607:=0
def tw10947632527493443155:=0
def tw11004966435814746294:=0
def tw11040601947676959707:=0
def tw11087679212963664688:=0
def tw11122049561196803417:=0
def tw11245941924140591909:=0
def tw11246433274533926103:=0
def tw11302001047544240510:=0
def tw1131023987169468553:=0
def tw11415261222704231549:=0
def tw11415789348547118873:=0
def tw11463003552551771417:=0
def tw11471783719637353449:=0
def tw11477888035615411712:=0
def tw1150511016970141376:=0
def tw11517519982032174326:=0
def tw1152724737345321442:=0
def tw1155794238194098179:=0
def tw11567273463044234979:=0
def tw11567732412774494208:=0
def tw11612085436607026402:=0
def tw11612639331574599438:=0
def tw11626126060288141285:=0
def tw11633803519344125280:=0
def tw11659381568866918381:=0
def tw11722368121064844184:=0
def tw11757358424859729165:=0
def tw11784895798520699073:=0
def tw11817391181981776697:=0
def tw11837336448029672683:=0
def tw11864226853631786518:=0
def tw11892963548057572798:=0
def tw11898656513536893379:=0
def tw11918710446839522549:=0
def tw11924928736246016137:=0
def tw11942157478965397200:=0
def tw11951259745844862990:=0
def tw11958890476849369680:=0
def tw12118768096344316983:=0
def tw12129871331658576708:=0
def tw12194443593710285814:=0
def tw12244935978773897615:=0
def tw12257389129425192232:=0
def tw12262291572186157017:=0
def tw12265654603016290929:=0
def tw12323562053249202375:=0
def tw12347865672769978605:=0
def tw12374807152573053618:=0
def tw12432089739232194521:=0
def tw12460801949624727194:=0
def tw12485688939071253967:=0
def tw1251449273709278911:=0
def tw12651137278287577176:=0
def tw12669008500253359737:=0
def tw12675773761347179233:=0
def tw12686431750903096185:=0
def tw12695071237376510177:=0
def tw12732791835137715925:=0
def tw12753784707441896135:=0
def tw12759676463583583718:=0
def tw12772291201342920236:=0
def tw12781260391592115039:=0
def tw12796649004800639600:=0
def tw12809560471414074313:=0
def tw12812819332502621383:=0
def tw12817578209088942162:=0
def tw12877357873138313676:=0
def tw12881044976063480442:=0
def tw12899800708770661617:=0
def tw13068769600008984976:=0
def tw13099378955484946525:=0
def tw13140618745865540050:=0
def tw13141276707030023445:=0
def tw13161108926623453225:=0
def tw13259541612688605508:=0
def tw13269229726203492554:=0
def tw13293751569309059848:=0
def tw13319590203307533988:=0
def tw13407464575313345296:=0
def tw13510242696528902676:=0
def tw13516724883848851814:=0
def tw13532067834466775632:=0
def tw13593204570632552310:=0
def tw136694326190872163:=0
def tw13691293091747062670:=0
def tw13724146339022986209:=0
def tw13761777956363330870:=0
def tw1376849298408377226:=0
def tw13935751822307205737:=0
def tw13936003470033731102:=0
def tw13942060433048254611:=0
def tw14024570502522061604:=0
def tw1405103167147018331:=0
def tw14064184540136465995:=0
def tw14118468819085704534:=0
def tw14141264486580985760:=0
def tw14187348302099366593:=0
def tw14192319081086641441:=0
def tw14257225562398640981:=0
def tw14294233921537025350:=0
def tw14347526657573914725:=0
def tw14366539041585438479:=0
def tw14374896295083391814:=0
def tw14456011955262054895:=0
def tw14503882785037602929:=0
def tw14510814721357822526:=0
def tw14521615401120119142:=0
def tw14523272889360332304:=0
def tw14638010125068117525:=0
def tw14703984316404011250:=0
def tw14729136926972893951:=0
def tw14830111805808762922:=0
def tw14837804886957196927:=0
def tw14862910748254123096:=0
def tw14877626268533404631:=0
def tw14917575080581284516:=0
def tw14962309835326895928:=0
def tw14977989304423483982:=0
def tw1498570446769459091:=0
def tw14996389531635497989:=0
def tw14996513486152292825:=0
def tw15095362785393761863:=0
def tw15096150077055537179:=0
def tw15117217172280099814:=0
def tw15130037787243774261:=0
def tw15186102260940466686:=0
def tw15201751884375348706:=0
def tw15203134763465549152:=0
def tw15242584409878613764:=0
def tw15271007950854703795:=0
def tw15278626276403182000:=0
def tw15300658313400360827:=0
def tw15314688560352512671:=0
def tw15345879612100434771:=0
def tw15367829666435427311:=0
def tw15416534110915736218:=0
def tw15483717243270278392:=0
def tw15544181876200424040:=0
def tw15622731883935922582:=0
def tw15664353954285021465:=0
def tw1573938989473489354:=0
def tw15756665449908636358:=0
def tw15795943532642599053:=0
def tw15798298932279639152:=0
def tw15825795710302185891:=0
def tw15871270472846676583:=0
def tw15877290911132777078:=0
def tw15902677989928005005:=0
def tw15985177723691623204:=0
def tw15986635952249994406:=0
def tw1599781634299436280:=0
def tw16001468771620515600:=0
def tw16024494873832162044:=0
def tw16097997013686193019:=0
def tw16106137893658618807:=0
def tw16149825908178109716:=0
def tw16185328974409918322:=0
def tw16212824401139176287:=0
def tw16264153206105098865:=0
def tw16334054275230858472:=0
def tw16423657491296566820:=0
def tw16485653554998526638:=0
def tw16577495289501754495:=0
def tw16655305312123148401:=0
def tw16656993090780853565:=0
def tw16689371185983910106:=0
def tw16759525907835745251:=0
def tw16789481073415668606:=0
def tw16801807021566938716:=0
def tw16885496965435018039:=0
def tw16886378103719605575:=0
def tw16896267495175466394:=0
def tw1694101857591630334:=0
def tw16956187197238005802:=0
def tw17044962449155662052:=0
def tw1706295598787121408:=0
def tw17077531247247829784:=0
def tw17101237458812449370:=0
def tw17178217446880731205:=0
def tw17192278891939196553:=0
def tw17230608722433601214:=0
def tw17246690664311983423:=0
def tw17295593128890623115:=0
def tw17360758670210861228:=0
def tw17381949409295984651:=0
def tw17384617929545855541:=0
def tw17541287967267922242:=0
def tw17574249463828652628:=0
def tw17626020410028553180:=0
def tw17655268849920570595:=0
def tw17673035552516645997:=0
def tw17714963158949248588:=0
def tw17741548025745428953:=0
def tw17771322990952288746:=0
def tw17805617952383952916:=0
def tw17848471129190516286:=0
def tw17917122972692678410:=0
def tw17933988823433069663:=0
def tw1794877448404403256:=0
def tw17979896909166841287:=0
def tw1799307045498533678:=0
def tw18016110823718804001:=0
def tw18029406542090320137:=0
def tw18054354575796459812:=0
def tw18059145962332480677:=0
def tw18065687550587474880:=0
def tw18076839918906452203:=0
def tw18080599466433921311:=0
def tw18083445486666973171:=0
def tw18098092809269785490:=0
def tw18099365595709720634:=0
def tw1810485303140656020:=0
def tw18126521527653675028:=0
def tw1812680772350765712:=0
def tw18140463683766449010:=0
def tw18148198244971523730:=0
def tw18149541274778887253:=0
def tw18194667532014514944:=0
def tw18209703198710746180:=0
def tw18318144501522395502:=0
def tw18337561658728710144:=0
def tw18341723858664485984:=0
def tw18409527998754671771:=0
def tw18419524735271349105:=0
def tw1844778855088357875:=0
def tw1991371284933511586:=0
def tw2006444374854704257:=0
def tw2040327498116462700:=0
def tw2049355432921883073:=0
def tw2055735529882298617:=0
def tw2099603891406490177:=0
def tw2164865657767212249:=0
def tw2191030066619321791:=0
def tw2211757429086078966:=0
def tw2238448874953353639:=0
def tw2283121976263469701:=0
def tw229030386240815899:=0
def tw2512419680996107738:=0
def tw2513550535396188525:=0
def tw260972840732222095:=0
def tw2621356556508071710:=0
def tw2630106265440272385:=0
def tw2637632774641148419:=0
def tw2715958738088941003:=0
def tw2731366127881369149:=0
def tw2748437506195254085:=0
def tw2793864731292927117:=0
def tw2835758154754842648:=0
def tw2882285512041523454:=0
def tw2893276535186075595:=0
def tw2972267763179050465:=0
def tw305742960349964149:=0
def tw3078020550796068548:=0
def tw3117862385019780419:=0
def tw3126932295894682321:=0
def tw3155152085215478279:=0
def tw3251196521753857705:=0
def tw327204046536344045:=0
def tw3305148112402387586:=0
def tw3336393173074729598:=0
def tw3341055076841498380:=0
def tw335071193473832465:=0
def tw3353719829939878014:=0
def tw3418887261698365157:=0
def tw3424376829217897087:=0
def tw3463195875696745927:=0
def tw3489438114585965608:=0
def tw3590768966318681952:=0
def tw3591110059869963481:=0
def tw3612719834700775410:=0
def tw362858826359842217:=0
def tw3642877510164677790:=0
def tw3676959857699059906:=0
def tw3701319991734852137:=0
def tw3723298342892074693:=0
def tw3760142054013500903:=0
def tw3762656494591887539:=0
def tw3782268160886086856:=0
def tw3786100910086373179:=0
def tw3802657285559830200:=0
def tw3961198275323258233:=0
def tw3964677866985384048:=0
def tw3977291405521313714:=0
def tw3979821004753716233:=0
def tw3981655341798283897:=0
def tw3996619347025016296:=0
def tw4010523276851533456:=0
def tw4067428713799817384:=0
def tw4095174852467334711:=0
def tw4100012452393131444:=0
def tw4173008453292083299:=0
def tw4199512401274355799:=0
def tw4205910337982984976:=0
def tw423455799059709592:=0
def tw4263594244824925407:=0
def tw4350155941959324154:=0
def tw4381738546074046854:=0
def tw4394689497112791874:=0
def tw4447184537512147992:=0
def tw4462616427550432334:=0
def tw4486520548668562137:=0
def tw4493258003003148014:=0
def tw4504071036028277260:=0
def tw454556904031370991:=0
def tw4556383420407874345:=0
def tw458956702680755313:=0
def tw4589595552189530668:=0
def tw4654351889659604307:=0
def tw4746890295162686486:=0
def tw4826533279227749654:=0
def tw4830951735744549791:=0
def tw4843606785324655539:=0
def tw4860597355883675474:=0
def tw491877251066202156:=0
def tw4946507532725355318:=0
def tw5034278065056852940:=0
def tw5043378639483756282:=0
def tw5092723103840056459:=0
def tw5093151427548427589:=0
def tw5166246964279074359:=0
def tw5202827690042250735:=0
def tw5205793610333006088:=0
def tw5217282978111165397:=0
def tw5254647118865157209:=0
def tw5288341678423893669:=0
def tw5308732573462302295:=0
def tw5330072133858507805:=0
def tw539078003588033168:=0
def tw5462653353827488442:=0
def tw5588350912154452949:=0
def tw5596682414342904548:=0
def tw5663255330919367972:=0
def tw5665534861016752747:=0
def tw5707978007830707198:=0
def tw5806711484553305356:=0
def tw5871828437231595632:=0
def tw5875478688507188141:=0
def tw5914802463996502322:=0
def tw5960713453701920432:=0
def tw5999249140546628561:=0
def tw6013591606666491677:=0
def tw6019276839690401149:=0
def tw6045608548780947973:=0
def tw6050879564098035711:=0
def tw611959378467822653:=0
def tw6123095558554109959:=0
def tw6165300427150902126:=0
def tw6173604688118304511:=0
def tw6213755116494600913:=0
def tw6229458944109796871:=0
def tw6264399226034520565:=0
def tw6303204200788021837:=0
def tw6334954785739751304:=0
def tw6378086720256158782:=0
def tw6466454627216352516:=0
def tw6507603209106846568:=0
def tw6508932701928528186:=0
def tw654891338560635379:=0
def tw6558724156152276267:=0
def tw6574084575321770395:=0
def tw6576291692635238354:=0
def tw6576558157349329266:=0
def tw660840688637606067:=0
def tw6643464920027689333:=0
def tw6687541536889935479:=0
def tw6708726668843205659:=0
def tw6775734590756187509:=0
def tw6860184271987202610:=0
def tw6870147903125918793:=0
def tw6909638937431587516:=0
def tw6938893705418334077:=0
def tw6959026802447374295:=0
def tw6970646773432122922:=0
def tw6997169333613881923:=0
def tw7057382012582960806:=0
def tw70878627556296177:=0
def tw7118136538193859591:=0
def tw7131987825490504444:=0
def tw7178254246798741670:=0
def tw7307870615133501836:=0
def tw7320587844554517797:=0
def tw7345647456626457047:=0
def tw7349006161456750096:=0
def tw7349130539567794133:=0
def tw7457329078657084120:=0
def tw7470517865361432601:=0
def tw7489632739652618734:=0
def tw7502125372571498989:=0
def tw7520752700784415914:=0
def tw7563137971632281273:=0
def tw7564528970063743922:=0
def tw7628945639553539683:=0
def tw7632839634888004592:=0
def tw7661309379030558405:=0
def tw7717476771767673188:=0
def tw7784585014275563580:=0
def tw7784893214851903314:=0
def tw7791791847301065800:=0
def tw7828475180603259881:=0
def tw782871391018794516:=0
def tw7847674528174759443:=0
def tw7916278452906687678:=0
def tw7961081313028642741:=0
def tw8030832500816301374:=0
def tw8050086767077642364:=0
def tw8119977577741900736:=0
def tw8182423882229347816:=0
def tw8223631860484517691:=0
def tw8263577246434598406:=0
def tw8332723987846765831:=0
def tw8336120653281123559:=0
def tw8393653477256114705:=0
def tw8405210764668980700:=0
def tw8417664394213746008:=0
def tw8444580651618011917:=0
def tw8475862194977825136:=0
def tw8575632303888374020:=0
def tw8618383822328133319:=0
def tw8629836991377385487:=0
def tw8671846573605342512:=0
def tw868539721079844669:=0
def tw869523066188875409:=0
def tw8713367284814642835:=0
def tw8719037041391158344:=0
def tw8725550950412620070:=0
def tw873344884960082072:=0
def tw8735153677991052558:=0
def tw8801415642092329121:=0
def tw8892663000974945476:=0
def tw8897373170261676686:=0
def tw8979455529613953885:=0
def tw8996217074974644129:=0
def tw9082341450395743617:=0
def tw9145355651864333483:=0
def tw9305934758842932816:=0
def tw9325157033380538885:=0
def tw9341599547053990235:=0
def tw93687190939325646:=0
def tw9427547334186089046:=0
def tw9522414446842298574:=0
def tw9566825299238014377:=0
def tw9573211418938271781:=0
def tw9617227145903520236:=0
def tw9670132724016802492:=0
def tw9688726199757646366:=0
def tw9756564062450658600:=0
def tw979152673165961977:=0
def tw9847107572008442744:=0
def tw9890947331795542445:=0
def tw9928689618760609638:=0
end PySem.W.Fast
set_option maxRecDepth 100000 in
set_option maxHeartbeats 0 in
theorem PySem.Challenge.cw_fewspeak_k25_whole_small_plans_walked_holds : PySem.Challenge.rw_fewspeak_k25_whole_small_plans_walked.Holds := by
 w_on;o_law;k_head;(case hw=>w_witness2)
 k_fill
 refine L2.walk_ofT (l:=PySem.Challenge.rw_fewspeak_k25_whole_small_plans_walked) (n:=63) (k:=My.lawK) (x := "_law_script") (CX:=L2.CX0) (sp:=My.spLaw) rfl (by decide) rfl ⟨rfl,by decide,by decide⟩ (λw h Y=>⟨PySem.W.km_in_of Y,PySem.W.km_tabs_of Y⟩) ?F ?S ?C
 case F =>
  intro ts' hts w mg fa h KX G hmg
  have T:∃ a,My.Txt (L2.KOf KX) mg a/\(My.tabs a).map (·.1)=ts':=by
   rw[hts];dsimp only[L2.KOf]
   refine' My.txt_mk KX G ?a0 ?l0 ?c0 ?k0 ?a1 ?l1 ?c1 ?k1 ?a2 ?l2 ?c2 ?k2 ?a3 ?l3 ?c3 ?k3 ?a4 ?l4 ?c4 ?k4 ?a5 ?l5 ?c5 ?k5 ?a6 ?l6 ?c6 ?k6 ?a7 ?l7 ?c7 ?k7 ?a8 ?l8 ?c8 ?k8 ?a9 ?l9 ?c9 ?k9 ?a10 ?l10 ?c10 ?k10 ?a11 ?l11 ?c11 ?k11 ?a12 ?l12 ?c12 ?k12 ?a13 ?l13 ?c13 ?k13 ?a14 ?l14 ?c14 ?k14 ?a15 ?l15 ?c15 ?k15 ?a16 ?l16 ?c16 ?k16 ?a17 ?l17 ?c17 ?k17 ?a18 ?l18 ?c18 ?k18 ?a19 ?l19 ?c19 ?k19 ?a20 ?l20 ?c20 ?k20 ?a21 ?l21 ?c21 ?k21 ?a22 ?l22 ?c22 ?k22 ?a23 ?l23 ?c23 ?k23 ?a24 ?l24 ?c24 ?k24 ?a25 ?l25 ?c25 ?k25 ?a26 ?l26 ?c26 ?k26 ?a27 ?l27 ?c27 ?k27 ?a28 ?l28 ?c28 ?k28 ?a29 ?l29 ?c29 ?k29 ?a30 ?l30 ?c30 ?k30 ?b_NOUGHT ?bt_NOUGHT ?b_WHOLE ?bt_WHOLE ?b0 ?b1 ?ca_P ?cb_P ?cc_P ?cx_P ?ca_z ?cb_z ?cc_z ?cf_z ?cx_z ?cg_z ?cl_z ?co_z ?ck_z ?cs_NoPlan_place ?ca_Z ?pa_Z ?pb_Z ?pc_Z ?pd_Z ?pe_Z ?pf_Z ?pg_Z ?ph_Z ?ca_g ?pa_g ?pb_g ?pc_g ?pd_g ?pe_g ?pf_g ?pg_g ?ph_g ?qa_g ?qb_g ?qc_g ?qd_g ?qn_Told_rising ?cl_g ?co_g ?ck_g ?ca_j ?pa_j ?pb_j ?pc_j ?pd_j ?pe_j ?pf_j ?pg_j ?ph_j ?qa_j ?qb_j ?qc_j ?qd_j ?qn_Die_makes ?cl_j ?co_j ?ck_j ?ca_aa ?pa_aa ?pb_aa ?pc_aa ?pd_aa ?pe_aa ?pf_aa ?pg_aa ?ph_aa ?ca_k ?pa_k ?pb_k ?pc_k ?pd_k ?pe_k ?pf_k ?pg_k ?ph_k ?qa_k ?qb_k ?qc_k ?qd_k ?qn_Few_many ?cl_k ?co_k ?ck_k ?ca_d ?pa_d ?pb_d ?pc_d ?pd_d ?pe_d ?pf_d ?pg_d ?ph_d ?qa_d ?qb_d ?qc_d ?qd_d ?qn_Start_step ?cl_d ?co_d ?ck_d ?ca_e ?pa_e ?pb_e ?pc_e ?pd_e ?pe_e ?pf_e ?pg_e ?ph_e ?qa_e ?qb_e ?qc_e ?qd_e ?qn_Loose_many ?cl_e ?co_e ?ck_e ?mf_13 ?ml_13 ?mo_13 ?mk_13 ?mi_13 ?mf_1 ?ml_1 ?mo_1 ?mk_1 ?mi_1 ?mf_14 ?ml_14 ?mo_14 ?mk_14 ?mi_14 ?mf_2 ?ml_2 ?mo_2 ?mk_2 ?mi_2 ?mf_16 ?ml_16 ?mo_16 ?mk_16 ?mi_16 ?mf_4 ?ml_4 ?mo_4 ?mk_4 ?mi_4 ?mf_15 ?ml_15 ?mo_15 ?mk_15 ?mi_15 ?mf_3 ?ml_3 ?mo_3 ?mk_3 ?mi_3 ?mf_11 ?ml_11 ?mo_11 ?mk_11 ?mi_11 ?mf_10 ?ml_10 ?mo_10 ?mk_10 ?mi_10 ?mf_f ?ml_f ?mo_f ?mk_f ?mi_f ?mf_c ?ml_c ?mo_c ?mk_c ?mi_c ?mf_b ?ml_b ?mo_b ?mk_b ?mi_b ?mf_a ?ml_a ?mo_a ?mk_a ?mi_a ?mf_8 ?ml_8 ?mo_8 ?mk_8 ?mi_8 ?mf_7 ?ml_7 ?mo_7 ?mk_7 ?mi_7 ?mf_6 ?ml_6 ?mo_6 ?mk_6 ?mi_6 ?lca_b ?lct_b ?lcq_b ?lch_b ?lca_18 ?lct_18 ?lcq_18 ?lch_c ?lca_10 ?lct_10 ?lcq_10 ?lch_a ?lca_19 ?lct_19 ?lcq_19 ?lch_i ?lca_7 ?lct_7 ?lcq_7 ?lch_f ?lca_17 ?lct_17 ?lcq_17 ?lch_h ?ltnd ?z0 ?z1 ?z2 ?z3 ?z4 ?z5 ?z6 ?z7 ?z8 ?z9 ?z10 ?z11 ?z12 ?z13 ?z14 ?r0 ?r1
   case a0|l0|c0|k0|a1|l1|c1|k1|a2|l2|c2|k2|a3|l3|c3|k3|a4|l4|c4|k4|a5|l5|c5|k5|a6|l6|c6|k6|a7|l7|c7|k7|a8|l8|c8|k8|a9|l9|c9|k9|a10|l10|c10|k10|a11|l11|c11|k11|a12|l12|c12|k12|a13|l13|c13|k13|a14|l14|c14|k14|a15|l15|c15|k15|a16|l16|c16|k16|a17|l17|c17|k17|a18|l18|c18|k18|a19|l19|c19|k19|a20|l20|c20|k20|a21|l21|c21|k21|a22|l22|c22|k22|a23|l23|c23|k23|a24|l24|c24|k24|a25|l25|c25|k25|a26|l26|c26|k26|a27|l27|c27|k27|a28|l28|c28|k28|a29|l29|c29|k29|a30|l30|c30|k30|b_NOUGHT =>k_is
   case bt_NOUGHT =>kernel_rfl
   case b_WHOLE =>k_is
   case bt_WHOLE =>kernel_rfl
   case b0|b1|ca_P|cb_P =>k_is
   case cc_P|cx_P =>kernel_rfl
   case ca_z|cb_z =>k_is
   case cc_z =>kernel_rfl
   case cf_z =>k_is
   case cx_z =>kernel_rfl
   case cg_z|cl_z|co_z|ck_z =>k_is
   case cs_NoPlan_place =>kernel_rfl
   case ca_Z =>k_is
   case pa_Z|pb_Z|pc_Z|pd_Z|pe_Z|pf_Z|pg_Z|ph_Z =>(first | k_is | kernel_rfl)
   case ca_g =>k_is
   case pa_g|pb_g|pc_g|pd_g|pe_g|pf_g|pg_g|ph_g|qa_g|qb_g|qc_g|qd_g|qn_Told_rising =>(first | k_is | kernel_rfl)
   case cl_g|co_g|ck_g|ca_j =>k_is
   case pa_j|pb_j|pc_j|pd_j|pe_j|pf_j|pg_j|ph_j|qa_j|qb_j|qc_j|qd_j|qn_Die_makes =>(first | k_is | kernel_rfl)
   case cl_j|co_j|ck_j|ca_aa =>k_is
   case pa_aa|pb_aa|pc_aa|pd_aa|pe_aa|pf_aa|pg_aa|ph_aa =>(first | k_is | kernel_rfl)
   case ca_k =>k_is
   case pa_k|pb_k|pc_k|pd_k|pe_k|pf_k|pg_k|ph_k|qa_k|qb_k|qc_k|qd_k|qn_Few_many =>(first | k_is | kernel_rfl)
   case cl_k|co_k|ck_k|ca_d =>k_is
   case pa_d|pb_d|pc_d|pd_d|pe_d|pf_d|pg_d|ph_d|qa_d|qb_d|qc_d|qd_d|qn_Start_step =>(first | k_is | kernel_rfl)
   case cl_d|co_d|ck_d|ca_e =>k_is
   case pa_e|pb_e|pc_e|pd_e|pe_e|pf_e|pg_e|ph_e|qa_e|qb_e|qc_e|qd_e|qn_Loose_many =>(first | k_is | kernel_rfl)
   case cl_e|co_e|ck_e =>k_is
   case mf_13 =>(first | k_is | kernel_rfl)
   case ml_13|mo_13|mk_13 =>k_is
   case mi_13|mf_1 =>(first | k_is | kernel_rfl)
   case ml_1|mo_1|mk_1 =>k_is
   case mi_1|mf_14 =>(first | k_is | kernel_rfl)
   case ml_14|mo_14|mk_14 =>k_is
   case mi_14|mf_2 =>(first | k_is | kernel_rfl)
   case ml_2|mo_2|mk_2 =>k_is
   case mi_2|mf_16 =>(first | k_is | kernel_rfl)
   case ml_16|mo_16|mk_16 =>k_is
   case mi_16|mf_4 =>(first | k_is | kernel_rfl)
   case ml_4|mo_4|mk_4 =>k_is
   case mi_4|mf_15 =>(first | k_is | kernel_rfl)
   case ml_15|mo_15|mk_15 =>k_is
   case mi_15|mf_3 =>(first | k_is | kernel_rfl)
   case ml_3|mo_3|mk_3 =>k_is
   case mi_3|mf_11 =>(first | k_is | kernel_rfl)
   case ml_11|mo_11|mk_11 =>k_is
   case mi_11|mf_10 =>(first | k_is | kernel_rfl)
   case ml_10|mo_10|mk_10 =>k_is
   case mi_10|mf_f =>(first | k_is | kernel_rfl)
   case ml_f|mo_f|mk_f =>k_is
   case mi_f|mf_c =>(first | k_is | kernel_rfl)
   case ml_c|mo_c|mk_c =>k_is
   case mi_c|mf_b =>(first | k_is | kernel_rfl)
   case ml_b|mo_b|mk_b =>k_is
   case mi_b|mf_a =>(first | k_is | kernel_rfl)
   case ml_a|mo_a|mk_a =>k_is
   case mi_a|mf_8 =>(first | k_is | kernel_rfl)
   case ml_8|mo_8|mk_8 =>k_is
   case mi_8|mf_7 =>(first | k_is | kernel_rfl)
   case ml_7|mo_7|mk_7 =>k_is
   case mi_7|mf_6 =>(first | k_is | kernel_rfl)
   case ml_6|mo_6|mk_6 =>k_is
   case mi_6 =>(first | k_is | kernel_rfl)
   case lca_b =>exact rfl
   case lct_b =>k_is
   case lcq_b =>exact rfl
   case lch_b =>kernel_rfl
   case lca_18 =>exact rfl
   case lct_18 =>k_is
   case lcq_18 =>exact rfl
   case lch_c =>kernel_rfl
   case lca_10 =>exact rfl
   case lct_10 =>k_is
   case lcq_10 =>exact rfl
   case lch_a =>kernel_rfl
   case lca_19 =>exact rfl
   case lct_19 =>k_is
   case lcq_19 =>exact rfl
   case lch_i =>kernel_rfl
   case lca_7 =>exact rfl
   case lct_7 =>k_is
   case lcq_7 =>exact rfl
   case lch_f =>kernel_rfl
   case lca_17 =>exact rfl
   case lct_17 =>k_is
   case lcq_17 =>exact rfl
   case lch_h =>kernel_rfl
   case ltnd =>decide
   case z0|z1|z2|z3|z4|z5|z6|z7|z8|z9|z10|z11|z12|z13|z14 =>k_is
   case r0|r1 =>first | exact rfl | exact⟨_,rfl⟩
  obtain⟨a,T,e1⟩:=T;have e1:=e1.trans hts;have e0:=hmg.symm.trans T.m_ae;cases e0;refine' ⟨a.d_ae,?b,?t,?u,λbase kb nb hB=>My.ok_law T hB ?v⟩
  case b=>exact T.bl
  case t =>
   intro P hP;have hP:=e1.symm ▸ hP;simp only[My.tabs,map_cons,map_nil,mem_cons,not_mem_nil,or_false]at hP
   rcases hP with rfl | rfl | rfl | rfl | rfl | rfl
   .exact⟨_,T.lch_b⟩
   .exact⟨_,T.lch_c⟩
   .exact⟨_,T.lch_a⟩
   .exact⟨_,T.lch_i⟩
   .exact⟨_,T.lch_f⟩
   .exact⟨_,T.lch_h⟩
  case u =>
   intro P hP;simp only[mem_cons,not_mem_nil,or_false]at hP
   rcases hP with rfl | rfl | rfl | rfl | rfl | rfl <;> kernel_rfl
  case v =>
   intro q hq;rw[<- e1];exact List.mem_map_of_mem hq
 case S=>exact λK H a ns hl hO hS=>My.law_start hl hO hS
 case C=>exact λH s e s' z=>z
