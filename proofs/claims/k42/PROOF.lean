import PyProof.Rows.All
import Wide.All
import OpenK.AllK
import Wide.FinOn
import Lean
import PyProof.EqAt
import PyProof.EqKinds
import PyProof.TupleCall
import PySem.Challenge.RW_fewspeak_k42_names_wanted
open PySem.W(CodeHd FnAt Frag InstAt Looks any_some callWith_K callWith_K0 cellsFrom_some clsIn codeHdIn codeHd_of_K codeIn codeRec_of emptyDict findIn fnOf handedIn hasDictIn instObj isFn keepIn kia_one kitAny kitOne kitx_dict kitx_list kitx_tuple kla_fn kla_obj lookIn looks_findIn looks_mroIn looks_typeIn makesIn methodCall_KW methodObj mg_none_of mg_of mroIn nsIn nsOkIn plainGet plainGet_of plainOver specialIn tabObj tailIn takerIn takesIn typeIn)
open List(all_cons all_eq_true any_cons append_nil filter_append filter_cons_of_neg filter_cons_of_pos foldl_append foldl_cons forIn_cons forIn_nil getElem_mem length_append length_cons length_eq_zero_iff length_filter_le length_map length_nil length_range length_take lookup_cons map_append map_cons map_map map_nil map_take mem_append mem_append_left mem_append_right mem_cons mem_cons_of_mem mem_cons_self mem_filter mem_map mem_range mem_singleton nil_append nodup_append nodup_cons nodup_nil not_mem_nil of_mem_zip size_toArray sum_append sum_cons take_add_one take_append_drop take_length take_of_length_le take_zero)
noncomputable section
set_option Elab.async false
set_option linter.all false
set_option maxRecDepth 100000
namespace L2
open PySem PySem.Spec PyProof.Rows
abbrev Key:=Sum Int Str
def ju:Key->Value->Bool
 | .inl k,v=>Value.isInt k v
 | .inr x,v=>Value.isStrOf x v
def BL(w:World):Key->Int
 | .inl k=>hashInt k
 | .inr x=>hashStr w x
theorem b7:∀{k:Key}{v:Value},ju k v=true->(∃ i t,k=Sum.inl i/\v=Value.int i t)\/(∃ x t,k=Sum.inr x/\v=Value.str x t)
 | .inl i,v,h=>by
  obtain⟨t,e⟩:=Value.isInt_shape (k:=i) (v:=v) h;exact .inl ⟨i,t,rfl,e⟩
 | .inr x,v,h=>by
  obtain⟨t,e⟩:=Value.isStrOf_shape (x:=x) (v:=v) h;exact .inr ⟨x,t,rfl,e⟩
theorem tP(i:Int)(t:Tok):ju (.inl i) (.int i t)=true:=by simp[ju,Value.isInt]
theorem tH(x:Str)(t:Tok):ju (.inr x) (.str x t)=true:=by simp[ju,Value.isStrOf]
theorem Aa(a b:Int):decide ((Sum.inl a:Key)=Sum.inl b)=(a == b):=by
 by_cases e:a=b
 .subst e;simp
 .have h:¬(Sum.inl a:Key)=Sum.inl b:=λq=>e (Sum.inl.inj q)
  rw[decide_eq_false h];exact(beq_eq_false_iff_ne.mpr e).symm
theorem zk(a b:Str):decide ((Sum.inr a:Key)=Sum.inr b)=decide (a=b):=by
 by_cases e:a=b
 .subst e;simp
 .have h:¬(Sum.inr a:Key)=Sum.inr b:=λq=>e (Sum.inr.inj q)
  rw[decide_eq_false h,decide_eq_false e]
theorem zN(a:Int)(b:Str):decide ((Sum.inl a:Key)=Sum.inr b)=false:=decide_eq_false (λq=>nomatch q)
theorem yD(a:Str)(b:Int):decide ((Sum.inr a:Key)=Sum.inl b)=false:=decide_eq_false (λq=>nomatch q)
def bu(prog:Program)(w:World):PySem.KeyKind prog w Key where
 is:=ju
 hash:=BL w
 inj:=λv a b ha hb=>by
  rcases b7 ha with⟨i,t,rfl,rfl⟩ | ⟨x,t,rfl,rfl⟩
  .rcases b7 hb with⟨j,u,rfl,e⟩ | ⟨y,u,rfl,e⟩
   .injection e with e1 _;rw[e1]
   .exact nomatch e
  .rcases b7 hb with⟨j,u,rfl,e⟩ | ⟨y,u,rfl,e⟩
   .exact nomatch e
   .injection e with e1 _;rw[e1]
 byValue:=λk v h=>by
  rcases b7 h with⟨i,t,rfl,rfl⟩ | ⟨x,t,rfl,rfl⟩ <;> rfl
 pyHash:=λhv h=>by
  rcases b7 hv with⟨i,t,rfl,rfl⟩ | ⟨x,t,rfl,rfl⟩
  .exact wpAny_pyHash_int h
  .exact wpAny_pyHash_str h
 eqBool:=λhu hv h=>by
  rcases b7 hu with⟨i,t,rfl,rfl⟩ | ⟨x,t,rfl,rfl⟩
  .rcases b7 hv with⟨j,u,rfl,rfl⟩ | ⟨y,u,rfl,rfl⟩
   .rw[Aa]at h;exact wpAny_eqBool_int h
   .rw[zN]at h;exact SeqAt.EqAt.int_str i t y u _ _ _ _ h
  .rcases b7 hv with⟨j,u,rfl,rfl⟩ | ⟨y,u,rfl,rfl⟩
   .rw[yD]at h;exact SeqAt.EqAt.str_int x t j u _ _ _ _ h
   .rw[zk]at h;exact wpAny_eqBool_str h
 «strs»:=λk x t v h=>by
  rcases b7 h with⟨i,u,rfl,e⟩ | ⟨y,u,rfl,e⟩
  .exact nomatch e
  .injection e with e1 _
   subst e1
   cases v <;> rfl
theorem qI(prog:Program)(w:World)(i:Int)(t:Tok):(bu prog w).is (.inl i) (.int i t)=true:=tP i t
theorem qh(prog:Program)(w:World)(x:Str)(t:Tok):(bu prog w).is (.inr x) (.str x t)=true:=tH x t
inductive V where
 | non | bl (b:Bool) | int (i:Int) | str (x:Str) | byt (b:Array UInt8) | flt (b:UInt64) | ref (a:Addr) | ty (n:String)
 deriving DecidableEq
def RelV:V->Value->Prop
 | .non,u=>u=Value.none
 | .bl b,u=>u=Value.bool b
 | .int i,u=>∃ t,u=Value.int i t
 | .str x,u=>∃ t,u=Value.str x t
 | .byt b,u=>∃ t,u=Value.bytes b t
 | .flt b,u=>∃ t,u=Value.float b t
 | .ref a,u=>u=Value.ref a
 | .ty n,u=>u=Value.type n
abbrev Vals:List V->List Value->Prop:=Paired RelV
theorem Vals.length{xs:List V}{us:List Value}(r:Vals xs us):xs.length=us.length:=Paired.length r
theorem Vals.get:∀{xs:List V}{us:List Value}{i:Nat}{x:V},Vals xs us->xs[i]? = some x->∃ u,us[i]? = some u/\RelV x u
 | _,_,_,_,.nil,e=>by simp at e
 | _,_,0,_,.cons r _,e=>by simp at e;subst e;exact⟨_,rfl,r⟩
 | _,_,i+1,x,.cons _ t,e=>by
  obtain⟨u,b,a⟩:=Vals.get (i:=i) (x:=x) t (by simpa using e);exact⟨u,by simpa using b,a⟩
theorem Vals.append:∀{xs ys:List V}{us ws:List Value},Vals xs us->Vals ys ws->Vals (xs++ys) (us++ws)
 | _,_,_,_,.nil,s=>s
 | _,_,_,_,.cons r t,s=>.cons r (Vals.append t s)
theorem Vals.take:∀{xs:List V}{us:List Value}(n:Nat),Vals xs us->Vals (xs.take n) (us.take n)
 | _,_,0,_=>.nil
 | _,_,_+1,.nil=>.nil
 | _,_,n+1,.cons r t=>.cons r (Vals.take n t)
theorem Vals.drop:∀{xs:List V}{us:List Value}(n:Nat),Vals xs us->Vals (xs.drop n) (us.drop n)
 | _,_,0,r=>r
 | _,_,_+1,.nil=>.nil
 | _,_,n+1,.cons _ t=>Vals.drop n t
def RelO:Option V->Option Value->Prop
 | some v,some u=>RelV v u
 | none,none=>True
 | _,_=>False
def KV{κ:Type}:List (κ×V)->List (κ×Value)->Prop:=Paired λ(p:κ×V) (q:κ×Value)=>p.1=q.1/\RelV p.2 q.2
def kV:Key->V
 | .inl i=>.int i
 | .inr x=>.str x
inductive HO where
 | lst (xs:List V)
 | tup (xs:List V)
 | dK (kvs:List (Key×V)) | dT (kvs:List (List Key×V))
 | set (S:Int->Bool) (n:Nat)
 | ins (C dx:Addr) (fs:List (Str×V))
 | own (x:Addr)
 | xd (fs:List (Str×V))
 | met (f x:Addr)
 | rng (lo hi:Int)
 | frz (o:Obj) (u:HO)
 | tbl (ps:Array Value)
 | ext (φ:Heap->Prop)
abbrev Hp:=Addr->Option HO
def upd(H:Hp)(a:Addr)(o:HO):Hp:=λb=>if b=a then some o else H b
theorem ae{H:Hp}{a:Addr}{o:HO}:upd H a o a=some o:=by unfold upd;rw[if_pos rfl]
theorem ar{H:Hp}{a b:Addr}{o:HO}(h:b≠a):upd H a o b=H b:=by unfold upd;rw[if_neg h]
theorem hW{H:Hp}{a:Addr}{o u:HO}:upd (upd H a o) a u=upd H a u:=by
 funext b;unfold upd;split <;> rfl
theorem sQ{H:Hp}{a b:Addr}{o u:HO}(h:H a=some o)(h':H b=some u)(d:o≠u):a≠b:=by
 intro e;subst e;rw[h]at h';exact d (Option.some.inj h')
theorem aB{H:Hp}{a b:Addr}{o:HO}(h:H a=some o)(h':H b=none):a≠b:=by
 intro e;subst e;rw[h]at h';cases h'
section
variable (P:Program) (w:World)
def ObjOk(H:Hp)(h:Heap)(a:Addr):HO->Prop
 | .lst xs=>xs.length<=sizeLine/\∃(its:List Value) (n:Nat),Vals xs its/\h.get? a=some { cls:=.type "list",data:=.seq its.toArray n }
 | .tup xs=>xs.length<=sizeLine/\∃ its:List Value,Vals xs its/\IsTup h a its.toArray
 | .dK kvs=>kvs.length<=sizeLine/\(a == sysModules)=false/\∃ vs,KV kvs vs/\h.DictOf (bu P w) a vs
 | .dT kvs=>kvs.length<=sizeLine/\(a == sysModules)=false/\∃ xs:List (List Key×Addr×Value),
   Paired (λ(p:List Key×V) (q:List Key×Addr×Value)=>p.1=q.1/\H q.2.1=some (.tup (p.1.map kV))/\RelV p.2 q.2.2) kvs xs /\
   ∃ o es ep,h.get? a=some o/\o.ExactDict/\o.data=.dict es ep/\es.toList=xs.map (entryOfKey (tupleKind (bu P w)))/\(xs.map (·.1)).Nodup
 | .set S n=>h.SetOf (intKind P w) a S n
 | .ins C dx fs=>H dx=some (.own a)/\fs.length<=1000/\dx≠a/\h.get? a=some (instObj C dx) /\
   ∃ mA,h.Ns1 dx mA/\(∀ f,RelO (fs.lookup f) (mA f))/\PySem.Within mA (fs.map (·.1))
 | .own _=>∃ o,h.get? a=some o
 | .xd fs=>∃ mA,h.Ns1 a mA/\∀ f,RelO (fs.lookup f) (mA f)
 | .rng lo hi=>∃ t u v,h.get? a=some { cls:=.type "range",data:=.fields #[.int lo t,.int hi u,.int 1 v] }
 | .frz o u=>h.get? a=some o/\ObjOk H h a u
 | .tbl ps=>h.get? a=some { cls:=.none,data:=.fields ps }
 | .met f x=>h.get? a=some (methodObj (.ref f) (.ref x))
 | .ext φ=>φ h/\(∃ o,h.get? a=some o)/\∀ h1 h2:Heap,φ h1->(∀ o,h1.get? a=some o->h2.get? a=some o)->φ h2
def HOk(H:Hp)(h:Heap):Prop:=∀ a o,H a=some o->ObjOk P w H h a o
end
section
variable {P:Program}{w:World}{H H':Hp}{h h':Heap}{a:Addr}{o:HO}
theorem ObjOk.lt(x:ObjOk P w H h a o):a<h.objs.size:=by
 cases o with
 | lst xs=>obtain⟨_,_,_,_,e⟩:=x;exact Heap.lt_size e
 | tup xs=>obtain⟨_,_,_,p⟩:=x;exact p.lt
 | dK kvs=>obtain⟨_,_,_,_,o,_,_,e,_⟩:=x;exact Heap.lt_size e
 | dT kvs=>obtain⟨_,_,_,_,o,_,_,e,_⟩:=x;exact Heap.lt_size e
 | set S n=>obtain⟨o,_,_,_,e,_⟩:=x;exact Heap.lt_size e
 | ins C dx fs=>obtain⟨_,_,_,e,_⟩:=x;exact Heap.lt_size e
 | own y=>obtain⟨_,e⟩:=x;exact Heap.lt_size e
 | xd fs=>obtain⟨_,⟨_,_,_,e,_⟩,_⟩:=x;exact Heap.lt_size e
 | rng lo hi=>obtain⟨_,_,_,e⟩:=x;exact Heap.lt_size e
 | frz ob u=>obtain⟨e,_⟩:=x;exact Heap.lt_size e
 | tbl ps=>exact Heap.lt_size (show h.get? a=some _ from x)
 | met f y=>exact Heap.lt_size (show h.get? a=some _ from x)
 | ext φ=>obtain⟨_,⟨_,e⟩,_⟩:=x;exact Heap.lt_size e
theorem Paired.mapP{d c:Type}{F G:d->c->Prop}:∀{l₁:List d}{l₂:List c},Paired F l₁ l₂->(∀ a b,F a b->G a b)->Paired G l₁ l₂
 | _,_,.nil,_=>.nil
 | _,_,.cons r t,f=>.cons (f _ _ r) (Paired.mapP t f)
theorem ObjOk.stay(x:ObjOk P w H h a o)(k:∀ b u,(b=a\/H b=some (.own a))->h.get? b=some u->h'.get? b=some u)
  (E:∀ b,H b=some (.own a)->H' b=some (.own a)) (G:∀ b xs,H b=some (.tup xs)->H' b=some (.tup xs)):ObjOk P w H' h' a o:=by
 induction o with
 | lst xs=>obtain⟨z,l,n,r,e⟩:=x;exact⟨z,l,n,r,k _ _ (.inl rfl) e⟩
 | tup xs=>obtain⟨z,l,r,g,e,c⟩:=x;exact⟨z,l,r,g,k _ _ (.inl rfl) e,c⟩
 | dK kvs=>obtain⟨z,y,B,r,g,j,i,e,c⟩:=x;exact⟨z,y,B,r,g,j,i,k _ _ (.inl rfl) e,c⟩
 | dT kvs =>
  obtain⟨z,y,xs,r,g,j,i,e,c⟩:=x;exact⟨z,y,xs,Paired.mapP r λp q z=>⟨z.1,G _ _ z.2.1,z.2.2⟩,g,j,i,k _ _ (.inl rfl) e,c⟩
 | set S n=>obtain⟨g,j,i,t,e,c⟩:=x;exact⟨g,j,i,t,k _ _ (.inl rfl) e,c⟩
 | ins C dx fs =>
  obtain⟨d,z,D,e,s,⟨m,j,i,F,c⟩,r⟩:=x;exact⟨E _ d,z,D,k _ _ (.inl rfl) e,s,⟨m,j,i,k _ _ (.inr d) F,c⟩,r⟩
 | own y=>obtain⟨g,e⟩:=x;exact⟨g,k _ _ (.inl rfl) e⟩
 | xd fs=>obtain⟨s,⟨m,j,i,e,c⟩,r⟩:=x;exact⟨s,⟨m,j,i,k _ _ (.inl rfl) e,c⟩,r⟩
 | rng lo hi=>obtain⟨t,u,v,e⟩:=x;exact⟨t,u,v,k _ _ (.inl rfl) e⟩
 | frz g u ih=>obtain⟨e,q⟩:=x;exact⟨k _ _ (.inl rfl) e,ih q⟩
 | tbl ps =>
  have e:h.get? a=some { cls:=.none,data:=.fields ps }:=x;show h'.get? a=some { cls:=.none,data:=.fields ps };exact k a _ (.inl rfl) e
 | met f y =>
  have e:h.get? a=some (methodObj (.ref f) (.ref y)):=x;show h'.get? a=some (methodObj (.ref f) (.ref y));exact k a _ (.inl rfl) e
 | ext φ=>obtain⟨p,⟨o,e⟩,A⟩:=x;exact⟨A _ _ p λo q=>k _ _ (.inl rfl) q,⟨o,k _ _ (.inl rfl) e⟩,A⟩
theorem HOk.lt(x:HOk P w H h)(e:H a=some o):a<h.objs.size:=(x a o e).lt
theorem HOk.fresh(x:HOk P w H h)(e:h.objs.size<=a):H a=none:=by
 cases q:H a with
 | none=>rfl
 | some u=>exact absurd (Nat.lt_of_lt_of_le (x.lt q) e) (Nat.lt_irrefl _)
theorem HOk.kept(x:HOk P w H h)(k:∀ b u,h.get? b=some u->h'.get? b=some u):HOk P w H h':=λa o e =>
 (x a o e).stay (λb u _ q=>k b u q) (λ_ q=>q) λ_ _ q=>q
theorem HOk.laid(x:HOk P w H h)(k:∀ b u,h.get? b=some u->h'.get? b=some u)(g:h.objs.size<=a)(d:ObjOk P w (upd H a o) h' a o):HOk P w (upd H a o) h':=λb u e=>by
 have f:=x.fresh g
 by_cases hb:b=a
 .subst hb;rw[ae]at e;cases e;exact d
 .rw[ar hb]at e
  exact(x b u e).stay (λc v _ q=>k c v q) (λc q=>by rw[ar (aB q f)];exact q) λc xs q=>by rw[ar (aB q f)];exact q
end
def Rd(H:Hp)(a:Addr)(u:HO):Prop:=H a=some u\/∃ o,H a=some (.frz o u)
theorem Rd.ok{P:Program}{w:World}{H:Hp}{h:Heap}{a:Addr}{u:HO}(r:Rd H a u)(x:HOk P w H h):ObjOk P w H h a u:=by
 rcases r with r | ⟨o,r⟩
 .exact x a u r
 .obtain⟨_,q⟩:=x a _ r
  exact q
def Mut:Option HO->Prop
 | some (.lst _)=>True
 | some (.dK _)=>True
 | some (.dT _)=>True
 | some (.set _ _)=>True
 | some (.ins _ _ _)=>True
 | some (.ext _)=>True
 | _=>False
section
variable {P:Program}{w:World}{H:Hp}{h h':Heap}{x e:Addr}{o':HO}
theorem HOk.write(o:HOk P w H h)(g:Mut (H x))(m:e=x\/H e=some (.own x))(k:∀ b u,b≠e->h.get? b=some u->h'.get? b=some u)(i:∃ u,h'.get? e=some u)
  (j:ObjOk P w (upd H x o') h' x o'):HOk P w (upd H x o') h':=λb u q=>by
 have a:∀ c y,H c=some (.own y)->c≠x:=λc y r z=>by subst z;rw[r]at g;exact g
 have d:∀ c f,H c=some (.tup f)->c≠x:=λc f r z=>by subst z;rw[r]at g;exact g
 by_cases hb:b=x
 .subst hb;rw[ae]at q;cases q;exact j
 .rw[ar hb]at q
  by_cases hbe:b=e
  .have l:H b=some (.own x):=by
    rcases m with z | z
    .exact absurd (hbe.trans z) hb
    .rw[hbe];exact z
   rw[q]at l;cases l;obtain⟨v,p⟩:=i;exact⟨v,by rw[hbe];exact p⟩
  .refine(o b u q).stay (λc v hc r=>k c v ?_ r) (λc r=>by rw[ar (a c b r)];exact r) λc f r=>by rw[ar (d c f r)];exact r
   rcases hc with rfl | hc
   .exact hbe
   .rintro rfl
    rcases m with z | z
    .exact a c b hc z
    .rw[hc]at z;cases z;exact hb rfl
end
structure Un(fs ex:List Addr)(H H':Hp)(h h':Heap):Prop where
 keep:∀ b o,h.get? b=some o->H b=none->b ∉ fs->b ∉ ex->h'.get? b=some o
 slot:∀ b o,h.get? b=some o->H b=none->b∈fs->b ∉ ex->∃ sl,h'.get? b=some { o with slots:=sl }
 free:∀ b o,h.get? b=some o->H b=none->b ∉ ex->H' b=none
 there:∀ b o,h.get? b=some o->b ∉ ex->∃ o',h'.get? b=some o'
 tups:∀ b xs,H b=some (.tup xs)->H' b=some (.tup xs)
 frzs:∀ b o u,H b=some (.frz o u)->H' b=some (.frz o u)
 tbls:∀ b ps,H b=some (.tbl ps)->∃ more,H' b=some (.tbl (ps++more))
section
variable {fs fs' ex ex':List Addr}{H H1 H2:Hp}{h h1 h2 h':Heap}{a x e:Addr}{o:HO}
theorem Un.any(u:Un fs ex H H1 h h1){b:Addr}{a:Obj}(q:h.get? b=some a)(n:H b=none)(c:b ∉ ex):∃ sl,h1.get? b=some { a with slots:=sl }:=by
 by_cases hb:b∈fs
 .exact u.slot b a q n hb c
 .exact⟨a.slots,u.keep b a q n hb c⟩
theorem Un.kept(k:∀ b u,h.get? b=some u->h'.get? b=some u):Un fs ex H H h h' :=
 ⟨λb a q _ _ _=>k b a q,λb a q _ _ _=>⟨a.slots,k b a q⟩,λ_ _ _ n _=>n,λb a q _=>⟨a,k b a q⟩,λ_ _ q=>q,λ_ _ _ q=>q,λ_ ps q=>⟨#[],by rw[q];simp⟩⟩
theorem Un.refl:Un fs ex H H h h:=Un.kept λ_ _ q=>q
theorem Un.laid(k:∀ b u,h.get? b=some u->h'.get? b=some u)(e:h.objs.size<=a)(c:H a=none):Un fs ex H (upd H a o) h h' where
 keep:=λb u q _ _ _=>k b u q
 slot:=λb u q _ _ _=>⟨u.slots,k b u q⟩
 free:=λb u q n _=>by rw[ar (Nat.ne_of_lt (Nat.lt_of_lt_of_le (Heap.lt_size q) e))];exact n
 there:=λb u q _=>⟨u,k b u q⟩
 tups:=λb d q=>by rw[ar (aB q c)];exact q
 frzs:=λb u d q=>by rw[ar (aB q c)];exact q
 tbls:=λb f q=>⟨#[],by rw[ar (aB q c),q];simp⟩
theorem Un.write(a:Mut (H x))(j:e=x\/H e=some (.own x))(k:∀ b u,b≠e->h.get? b=some u->h'.get? b=some u)(d:∃ u,h'.get? e=some u):Un fs ex H (upd H x o) h h':=by
 have f:∀ b,H b=none->b≠x:=λb n z=>by subst z;rw[n]at a;exact a
 have g:∀ b,H b=none->b≠e:=λb n z=>by
  subst z
  rcases j with r | r
  .exact f b n r
  .rw[n]at r;cases r
 have c:∀ b u,H b=some u->¬Mut (some u)->b≠x:=λb u q l z=>by subst z;rw[q]at a;exact l a
 refine⟨λb u q n _ _=>k b u (g b n) q,λb u q n _ _=>⟨u.slots,k b u (g b n) q⟩,λb u q n _=>by rw[ar (f b n)];exact n,λb u q _=>?_,
  λb i q=>by rw[ar (c b _ q λz=>z)];exact q,λb u i q=>by rw[ar (c b _ q λz=>z)];exact q,λb ps q=>⟨#[],by rw[ar (c b _ q λz=>z),q];simp⟩⟩
 by_cases hbe:b=e
 .subst hbe;exact d
 .exact⟨u,k b u hbe q⟩
end
def trk(h:Heap)(H:Hp):List Addr:=(List.range h.objs.size).filter λa=>(H a).isSome
def nH(h:Heap)(H:Hp):Heap:=PySem.W.hideAll h (trk h H)
theorem uw(h:Heap)(H:Hp):(nH h H).objs.size=h.objs.size:=PySem.W.hideAll_size _ _
theorem vj{h:Heap}{H:Hp}{b:Addr}{o:Obj}(e:h.get? b=some o)(n:H b=none):(nH h H).get? b=some o :=
 PySem.W.hideAll_get _ e λa=>by
  have q:(H b).isSome=true:=(mem_filter.mp a).2;rw[n]at q;simp at q
theorem xP{h:Heap}{H:Hp}{b:Addr}{o:Obj}(e:(nH h H).get? b=some o):h.get? b=some o/\H b=none:=by
 have a:h.get? b=some o:=PySem.W.of_hideAll (trk h H) e;refine⟨a,?_⟩;cases q:H b with
 | none=>rfl
 | some x =>
  have c:b∈trk h H:=mem_filter.mpr ⟨mem_range.mpr (Heap.lt_size a),by simp[q]⟩;have z:(nH h H).get? b=none:=PySem.W.hideAll_none (trk h H) c;rw[z]at e;cases e
def wY(g h:Heap)(L:Addr):List (Addr×Obj):=(List.range h.objs.size).filterMap λa=>if a=L\/(g.get? a).isSome=true then none else (h.get? a).map λo=>(a,o)
def rest(g h:Heap)(L d:Addr):List (Addr×Obj):=(wY g h L).filter λp=>decide (p.1≠d)
structure Mod(K:Frag)(mg:Str->Option Value)(base:Heap):Prop where
 kin:K.In base
 glob:base.Ns mainGlobals mg
 blt:∃ mb,base.Ns builtinsNs mb/\∀ x:Str,x ≠ "__name__" -> mb x=bootBuiltins x
 nolimit:base.NoLimit
structure Cx where
 prog:Program
 w:World
 K:Frag
 mg:Str->Option Value
 base:Heap
 A:Around
 N:List Str
 s₀:Shared
 H₀:Hp
 env:Env
 outer:List Env
 stack:List Env
 ex:List Addr
 fn:Str->Bool
 calm:Bool
 pn:List (Addr×Obj)
 xe:Value->Shared->Prop
def frs(l:List Env):List Addr:=l.filterMap (·.frame)
abbrev Cx.fs(X:Cx):List Addr:=frs X.outer
def Vis(sc:Scope)(x:Str):Prop:=sc.names.lookup x = some .local\/sc.names.lookup x = some .cell\/sc.names.lookup x = some .free
def Loc(sc:Scope)(x:Str):Prop:=sc.names.lookup x = some .local\/sc.names.lookup x = some .cell
def AV(env:Env)(h:Heap)(m:Str->Option Value)(x:Str)(u:Value):Prop :=
 (env.kindOf x = some .local/\m x = some u)\/((env.kindOf x = some .cell\/env.kindOf x = some .free)/\∃ c,env.cells.lookup x = some c/\h.IsCell c (some u))
structure Cx.Ok(X:Cx):Prop where
 mod:Mod X.K X.mg X.base
 kind:X.env.scope.kind=.function
 glob:X.env.globals=mainGlobals
 blt:X.env.builtins=builtinsNs
 above:X.s₀.heap.objs.size<=X.env.locals
 inj:∀ x y c,X.env.cells.lookup x=some c->X.env.cells.lookup y=some c->x=y
 has:∀ x,(X.env.kindOf x=some .cell\/X.env.kindOf x=some .free)->∃ c,X.env.cells.lookup x=some c
 cab:∀ x c,X.fn x=true->X.env.cells.lookup x=some c->X.s₀.heap.objs.size<=c
 hd:X.calm=true->X.A.handled=none
 frames:X.A.frames=some X.stack
 stk:X.stack = X.outer\/(X.stack = X.env :: X.outer/\X.env.frame = some X.env.locals)
 exf:∀ b ∈ X.ex,b≠X.env.locals/\∀ x c,X.env.cells.lookup x = some c->c≠b
 bs:∀ b o,X.base.get? b=some o->X.s₀.heap.get? b=some o/\X.H₀ b=none
 bsz:X.base.objs.size<=X.s₀.heap.objs.size
 noex:∀ b o,X.base.get? b=some o->b ∉ X.ex
 exfs:∀ b∈X.ex,b ∉ X.fs
 funs:X.s₀.heap.FunFrames X.base X.outer
 frf:∀ b∈X.fs,X.H₀ b=none
structure Inv(X:Cx)(pins:List (Addr×Obj))(σ:List (Option V))(H:Hp)(s:Shared):Prop where
 ok:X.Ok
 os:s.os=X.s₀.os
 bare:AllBare s.gens
 base:Un X.fs X.ex X.H₀ H X.s₀.heap s.heap
 loc:∃ m,s.heap.Ns X.env.locals m/\∀(i:Nat) (x:Str) (v:V),X.N[i]? = some x->σ[i]? = some (some v)->Vis X.env.scope x->∃ u,RelV v u/\AV X.env s.heap m x u
 cell:∀ x c,X.env.cells.lookup x=some c->∃ v,s.heap.IsCell c v
 free:H X.env.locals = none
 freeC:∀ x c,X.env.cells.lookup x=some c->H c=none
 pin:∀ p ∈ X.pn ++ pins,s.heap.get? p.1 = some p.2/\H p.1 = none/\p.1≠X.env.locals/\p.1 ∉ X.fs/\∀ v,p.2.data≠.cell v
 hok:HOk X.prog X.w H s.heap
 len:σ.length=X.N.length
section
variable {X:Cx}{pins:List (Addr×Obj)}{σ:List (Option V)}{H H':Hp}{s:Shared}{h':Heap}
theorem Cx.Ok.nofr(c:X.Ok){b:Addr}{o:Obj}(e:X.base.get? b=some o):b ∉ X.fs:=λa=>by
 have:=(c.funs.mem a).1;rw[e]at this;cases this
theorem Inv.bs(I:Inv X pins σ H s):∀ b o,X.base.get? b=some o->s.heap.get? b=some o/\H b=none:=λb o e =>
 ⟨I.base.keep b o (I.ok.bs b o e).1 (I.ok.bs b o e).2 (I.ok.nofr e) (I.ok.noex b o e),I.base.free b o (I.ok.bs b o e).1 (I.ok.bs b o e).2 (I.ok.noex b o e)⟩
theorem Inv.bk(I:Inv X pins σ H s):∀ b o,X.base.get? b=some o->s.heap.get? b=some o:=λb o e=>(I.bs b o e).1
theorem Inv.mod(I:Inv X pins σ H s):Mod X.K X.mg X.base:=I.ok.mod
theorem Inv.kIn(I:Inv X pins σ H s):X.K.In s.heap:=I.ok.mod.kin.keeps I.bk
theorem Inv.lt(I:Inv X pins σ H s):X.env.locals < s.heap.objs.size:=let ⟨_,hn,_⟩:=I.loc;hn.lt
theorem Inv.sz(I:Inv X pins σ H s):X.s₀.heap.objs.size<=s.heap.objs.size:=Nat.le_trans I.ok.above (Nat.le_of_lt I.lt)
theorem Inv.nofs(I:Inv X pins σ H s){a:Addr}(h:s.heap.objs.size<=a):a ∉ X.fs:=λc=>by
 obtain⟨_,o,b,_⟩:=I.ok.funs.mem c;exact absurd (Nat.lt_of_lt_of_le (Heap.lt_size b) (Nat.le_trans I.sz h)) (Nat.lt_irrefl _)
theorem Inv.cne(I:Inv X pins σ H s):∀ x c,X.env.cells.lookup x = some c->c≠X.env.locals:=λx c e z=>by
 obtain⟨v,o,d,f⟩:=I.cell x c e;obtain⟨m,⟨i,h,g,b,a,_⟩,_⟩:=I.loc;rw[z,b]at d;cases d;rw[a]at f;cases f
theorem Inv.funs(I:Inv X pins σ H s):s.heap.FunFrames X.base X.outer:=by
 have c:∀(l:List Env),(∀ b∈frs l,b∈X.fs)->X.s₀.heap.FunFrames X.base l->s.heap.FunFrames X.base l:=by
  intro l
  induction l with
  | nil=>intro _ _;trivial
  | cons env r ih =>
   intro g h;obtain⟨j,⟨L,o,a,p,i,u⟩,m⟩:=h;have d:L∈X.fs:=g L (by unfold frs;rw[List.filterMap_cons,a];exact mem_cons_self);obtain⟨v,e⟩:=I.base.slot L o i (I.ok.frf L d) d λz=>I.ok.exfs L z d
   exact⟨j,⟨L,_,a,p,e,u⟩,ih (λb f=>g b (by unfold frs;rw[List.filterMap_cons,a];exact mem_cons_of_mem _ f)) m⟩
 exact c X.outer (λ_ f=>f) I.ok.funs
theorem Inv.stack(I:Inv X pins σ H s):s.heap.FunFrames X.base X.stack:=by
 rcases I.ok.stk with e | ⟨e,a⟩
 .rw[e];exact I.funs
 .rw[e]
  obtain⟨m,b,_⟩:=I.loc;refine .cons (by rw[I.ok.kind];decide) a b ?_ I.funs;exact Heap.get?_none_of_le (Nat.le_trans I.ok.bsz I.ok.above)
theorem Inv.stkSub(I:Inv X pins σ H s):∀ b ∈ frs X.stack,b ∈ X.env.locals :: X.fs:=λb a=>by
 rcases I.ok.stk with e | ⟨e,c⟩
 .rw[e]at a;exact mem_cons_of_mem _ a
 .rw[e]at a
  unfold frs at a;rw[List.filterMap_cons,c]at a;exact a
theorem Inv.stkFree(I:Inv X pins σ H s):∀ b∈frs X.stack,H b=none:=λb hb=>by
 rcases mem_cons.mp (I.stkSub b hb) with e | hb
 .rw[e];exact I.free
 .obtain⟨_,o,a,_⟩:=I.ok.funs.mem hb
  exact I.base.free b o a (I.ok.frf b hb) λz=>I.ok.exfs b z hb
theorem Inv.step{g':Array GenState}{t':Nat}{d':Drawn}{ch:List Addr}(I:Inv X pins σ H s)
  (w:∀ b ∈ ch,(b ∈ X.ex\/X.s₀.heap.objs.size<=b)/\b≠X.env.locals/\(∀ x c,X.env.cells.lookup x = some c->c≠b)/\∀ p ∈ X.pn ++ pins,p.1≠b)
  (j:∀ b o,b≠X.env.locals->b ∉ X.fs->b ∉ ch->s.heap.get? b = some o->H b = none->h'.get? b = some o)
  (B:∀ b o,b≠X.env.locals->b ∈ X.fs->b ∉ ch->s.heap.get? b = some o->H b = none->∃ sl,h'.get? b = some { o with slots:=sl }) (f:∀ b o,b ∉ ch->s.heap.get? b = some o->H b = none->H' b = none)
  (C:∀ b o,b ∉ ch->s.heap.get? b=some o->∃ o',h'.get? b=some o')
  (F:∀ b xs,H b=some (.tup xs)->H' b=some (.tup xs)) (K:∀ b o u,H b=some (.frz o u)->H' b=some (.frz o u)) (G:∀ b ps,H b=some (.tbl ps)->∃ more,H' b=some (.tbl (ps++more)))
  (ns:∀ m,s.heap.Ns X.env.locals m->h'.Ns X.env.locals m) (P:HOk X.prog X.w H' h') (W:AllBare g') :
  Inv X pins σ H' { s with heap:=h',gens:=g',drawn:=d',toks:=t' }:=by
 have L:∀ b o,X.s₀.heap.get? b = some o->b≠X.env.locals:=λb o e=>Nat.ne_of_lt (Nat.lt_of_lt_of_le (Heap.lt_size e) I.ok.above)
 have A:∀ b o,X.s₀.heap.get? b=some o->b ∉ X.ex->b ∉ ch:=λb o e a D=>by
  rcases(w b D).1 with z | z
  .exact a z
  .exact absurd (Nat.lt_of_lt_of_le (Heap.lt_size e) z) (Nat.lt_irrefl _)
 have h:∀ x c,X.env.cells.lookup x=some c->∀ v,s.heap.IsCell c v->h'.IsCell c v:=λx c e v ⟨o,E,O⟩=>by
  have g:c ∉ ch:=λz=>(w c z).2.2.1 x c e rfl
  by_cases hc:c∈X.fs
  .obtain⟨sl,q⟩:=B c o (I.cne x c e) hc g E (I.freeC x c e)
   exact⟨_,q,O⟩
  .exact⟨o,j c o (I.cne x c e) hc g E (I.freeC x c e),O⟩
 refine⟨I.ok,I.os,W,⟨λb o e n D a=>?_,λb o e n D a=>?_,λb o e n a=>?_,λb o e a=>?_,λb xs e=>F b xs (I.base.tups b xs e),λb o xs e=>K b o xs (I.base.frzs b o xs e),λb ps e=>?_⟩,?_,λx c e=>?_,?_,λx c e=>?_,λp hp=>?_,P,I.len⟩
 .exact j b o (L b o e) D (A b o e a) (I.base.keep b o e n D a) (I.base.free b o e n a)
 .obtain⟨sl,y⟩:=I.base.slot b o e n D a
  obtain⟨N,M⟩:=B b _ (L b o e) D (A b o e a) y (I.base.free b o e n a);exact⟨N,M⟩
 .obtain⟨o',y⟩:=I.base.there b o e a
  exact f b o' (A b o e a) y (I.base.free b o e n a)
 .obtain⟨o',y⟩:=I.base.there b o e a
  exact C b o' (A b o e a) y
 .obtain⟨S,y⟩:=I.base.tbls b ps e
  obtain⟨T,M⟩:=G b _ y;exact⟨S++T,by rw[M,Array.append_assoc]⟩
 .obtain⟨m,Z,Y⟩:=I.loc
  refine⟨m,ns m Z,λi x v y M e3=>?_⟩;obtain⟨u,r,l⟩:=Y i x v y M e3;refine⟨u,r,?_⟩
  rcases l with l | ⟨k,c,e,z⟩
  .exact .inl l
  .exact .inr ⟨k,c,e,h x c e _ z⟩
 .obtain⟨v,z⟩:=I.cell x c e
  exact⟨v,h x c e v z⟩
 .obtain⟨m,⟨o,_,_,E,_⟩,_⟩:=I.loc
  exact f _ o (λz=>(w _ z).2.1 rfl) E I.free
 .obtain⟨v,o,E,O⟩:=I.cell x c e
  exact f c o (λz=>(w c z).2.2.1 x c e rfl) E (I.freeC x c e)
 .obtain⟨e,n,R,Q,d⟩:=I.pin p hp
  have g:p.1 ∉ ch:=λz=>(w p.1 z).2.2.2 p hp rfl
  exact⟨j p.1 p.2 R Q g e n,f p.1 p.2 g e n,R,Q,d⟩
theorem Inv.un{t':Nat}(I:Inv X pins σ H s)(u:Un X.fs [] H H' s.heap h')(f:HOk X.prog X.w H' h'):Inv X pins σ H' { s with heap:=h',toks:=t' }:=by
 obtain⟨m,⟨o,p,j,g,r⟩,_⟩:=id I.loc;obtain⟨l,i⟩:=u.any g I.free (by simp)
 exact I.step (g':=s.gens) (d':=s.drawn) (ch:=[]) (λ_ z=>nomatch z) (λb o _ hb _ e n=>u.keep b o e n hb (by simp)) (λb o _ hb _ e n=>u.slot b o e n hb (by simp)) (λb o _ e n=>u.free b o e n (by simp)) (λb o _ e=>u.there b o e (by simp)) u.tups u.frzs u.tbls (λm' hm=>by
  obtain⟨v,d,c,a,h⟩:=hm;rw[g]at a;cases a
  exact⟨_,d,c,i,h⟩) f I.bare
theorem Inv.call{g':Array GenState}{t':Nat}{d':Drawn}{ch:List Addr}(I:Inv X pins σ H s)(u:Un (frs X.stack) ch H H' s.heap h')(j:HOk X.prog X.w H' h')(v:AllBare g')
  (f:∀ b ∈ ch,(b ∈ X.ex\/X.s₀.heap.objs.size<=b)/\b≠X.env.locals/\(∀ x c,X.env.cells.lookup x = some c->c≠b)/\∀ p ∈ X.pn ++ pins,p.1≠b) :
  Inv X pins σ H' { s with heap:=h',gens:=g',drawn:=d',toks:=t' }:=by
 obtain⟨m,⟨o,C,A,l,r⟩,_⟩:=id I.loc;obtain⟨B,h⟩:=u.any l I.free λz=>(f _ z).2.1 rfl
 exact I.step (ch:=ch) f (λb o h y a e n=>u.keep b o e n (λz=>(mem_cons.mp (I.stkSub b z)).elim h y) a) (λb o _ _ a e n=>u.any e n a) (λb o a e n=>u.free b o e n a) (λb o a e=>u.there b o e a) u.tups u.frzs u.tbls (λm' hm=>by
  obtain⟨D,i,g,d,w⟩:=hm;rw[l]at d;cases d
  exact⟨_,i,g,h,w⟩) j v
theorem Inv.turned{t':Nat}{a:Addr}(I:Inv X pins σ H s)(k:∀ b o,b≠a->s.heap.get? b = some o->h'.get? b = some o)(y:H a = none)(g:a≠X.env.locals)
  (l:a∈X.ex\/X.s₀.heap.objs.size<=a) (h2:∀ x c,X.env.cells.lookup x=some c->c≠a) (i:∀ p∈X.pn++pins,p.1≠a):Inv X pins σ H { s with heap:=h',toks:=t' }:=by
 have f:∀ b u,H b=some u->b≠a:=λb u e z=>by rw[z,y]at e;cases e
 refine I.step (g':=s.gens) (d':=s.drawn) (ch:=[a]) (λb A=>?_) (λb o _ _ d e _=>k b o (λz=>d (by simp[z])) e) (λb o _ _ d e _=>⟨o.slots,k b o (λz=>d (by simp[z])) e⟩) (λ_ _ _ _ n=>n)
  (λb o d e=>⟨o,k b o (λz=>d (by simp[z])) e⟩) (λ_ _ e=>e) (λ_ _ _ e=>e) (λb ps e=>⟨#[],by rw[e];simp⟩) (λm hm=>?_) (λb u e=>?_) I.bare
 .have e:b=a:=by simpa using A
  subst e;exact⟨l,g,h2,i⟩
 .obtain⟨o,j,h,w,r⟩:=hm
  exact⟨o,j,h,k _ o (Ne.symm g) w,r⟩
 .refine(I.hok b u e).stay (λc v d q=>k c v ?_ q) (λ_ q=>q) λ_ _ q=>q
  rcases d with z | z
  .rw[z];exact f b u e
  .exact f c _ z
theorem Inv.tok(I:Inv X pins σ H s)(t:Nat):Inv X pins σ H { s with toks:=t }:=I.un (h':=s.heap) (t':=t) Un.refl I.hok
theorem Inv.kept{t':Nat}(I:Inv X pins σ H s)(k:∀ b u,s.heap.get? b=some u->h'.get? b=some u):Inv X pins σ H { s with heap:=h',toks:=t' }:=I.un (Un.kept k) (I.hok.kept k)
theorem Inv.laid{a:Addr}{o:HO}{t':Nat}(I:Inv X pins σ H s)(k:∀ b u,s.heap.get? b=some u->h'.get? b=some u)(c:s.heap.objs.size<=a)(d:ObjOk X.prog X.w (upd H a o) h' a o) :
  Inv X pins σ (upd H a o) { s with heap:=h',toks:=t' }:=I.un (Un.laid k c (I.hok.fresh c)) (I.hok.laid k c d)
theorem Inv.write{x e:Addr}{o:HO}{t':Nat}(I:Inv X pins σ H s)(f:Mut (H x))(d:e=x\/H e=some (.own x))(k:∀ b u,b≠e->s.heap.get? b=some u->h'.get? b=some u)(a:∃ u,h'.get? e=some u)
  (c:ObjOk X.prog X.w (upd H x o) h' x o):Inv X pins σ (upd H x o) { s with heap:=h',toks:=t' }:=I.un (Un.write f d k a) (I.hok.write f d k a c)
theorem Inv.weak{σ':List (Option V)}(I:Inv X pins σ H s)(a:σ'.length=σ.length)(w:∀(i:Nat) v,σ'[i]? = some (some v)->σ[i]? = some (some v)):Inv X pins σ' H s :=
 ⟨I.ok,I.os,I.bare,I.base,let ⟨m,hn,hl'⟩:=I.loc;⟨m,hn,λi x v d c b=>hl' i x v d (w i v c) b⟩,I.cell,I.free,I.freeC,I.pin,I.hok,a.trans I.len⟩
theorem Inv.pins_of{a:List (Addr×Obj)}(I:Inv X pins σ H s)(h:∀ p ∈ a,s.heap.get? p.1 = some p.2/\H p.1 = none/\p.1≠X.env.locals/\p.1 ∉ X.fs/\∀ v,p.2.data≠.cell v):Inv X a σ H s :=
 ⟨I.ok,I.os,I.bare,I.base,I.loc,I.cell,I.free,I.freeC,λp b=>(mem_append.mp b).elim (λz=>I.pin p (mem_append_left _ z)) (h p),I.hok,I.len⟩
theorem my{N:List Str}(c:N.Nodup){i j:Nat}{x:Str}(a:N[i]? = some x)(b:N[j]? = some x):i=j:=by
 obtain⟨g,e⟩:=List.getElem?_eq_some_iff.mp a;obtain⟨f,d⟩:=List.getElem?_eq_some_iff.mp b;exact(List.getElem_inj c).mp (e.trans d.symm)
theorem n6{M:Model}{A:Around}{E:Value->Shared->Prop}{i:Nat}{x:Str}{v:V}{u:Value}{Q:Unit->Shared->Prop}(I:Inv X pins σ H s)(hN:X.N.Nodup)(L:X.N[i]? = some x)(w:Loc X.env.scope x)(r:RelV v u)
  (h:∀ s',Inv X pins (σ.set i (some v)) H s'->(∃ a,Heap.SameBut a s.heap s'.heap/\(a = X.env.locals\/X.env.cells.lookup x = some a))->Q () s') (hf:X.fn x = true\/X.env.scope.names.lookup x = some .local:=by first | exact .inl rfl | exact .inr rfl | assumption):wpAny M A (storeName X.env x u) Q E s:=by
 obtain⟨m,hn,hl⟩:=id I.loc;have O:(X.env.scope.kind == .class || (X.env.scope.kind == .module && X.env.locals != X.env.globals)) = false:=by rw[I.ok.kind];rfl
 have C:i<σ.length:=by rw[I.len];exact(List.getElem?_eq_some_iff.mp L).1
 have F:=I.cne
 have l:∀{a:Addr}{K:Heap},(∃ o,s.heap.get? a=some o/\H a=none)->Heap.SameBut a s.heap K->HOk X.prog X.w H K:=λ{a K} ha f b ob e=>by
  obtain⟨_,_,B⟩:=ha;refine(I.hok b ob e).stay (λc S hc q=>(f.2 c ?_).trans q) (λ_ q=>q) λ_ _ q=>q
  rintro rfl
  rcases hc with rfl | hc
  .rw[B]at e;cases e
  .rw[B]at hc;cases hc
 rcases w with hk | hk
 .refine wpAny_storeName_local hk hn (λK ab f=>?_) O
  obtain⟨oL,_,_,ad,_⟩:=id hn;refine h _ ⟨I.ok,I.os,I.bare,⟨λb o e n G w=>?_,λb o e n G w=>?_,I.base.free,λb o e w=>?_,I.base.tups,I.base.frzs,I.base.tbls⟩,⟨_,ab,λj y v' g e2 e3=>?_⟩,λy c e=>?_,I.free,I.freeC,λp hp=>?_,l ⟨oL,ad,I.free⟩ f,by simpa using I.len⟩ ⟨_,f,.inl rfl⟩
  .exact(f.2 b (Nat.ne_of_lt (Nat.lt_of_lt_of_le (Heap.lt_size e) I.ok.above))).trans (I.base.keep b o e n G w)
  .obtain⟨sl,g⟩:=I.base.slot b o e n G w
   exact⟨sl,(f.2 b (Nat.ne_of_lt (Nat.lt_of_lt_of_le (Heap.lt_size e) I.ok.above))).trans g⟩
  .obtain⟨o',g⟩:=I.base.there b o e w
   exact⟨o',(f.2 b (Nat.ne_of_lt (Nat.lt_of_lt_of_le (Heap.lt_size e) I.ok.above))).trans g⟩
  .by_cases hj:j=i
   .subst hj
    rw[L]at g;cases g;rw[List.getElem?_set_self C]at e2;cases e2;exact⟨u,r,.inl ⟨hk,by simp⟩⟩
   .rw[List.getElem?_set_ne (Ne.symm hj)]at e2
    obtain⟨Y,r',q⟩:=hl j y v' g e2 e3;refine⟨Y,r',?_⟩
    rcases q with⟨k,e⟩ | ⟨k,c,e,z⟩
    .refine .inl ⟨k,?_⟩
     have:y≠x:=λe=>hj (my hN g (e ▸ L))
     simp[this,e]
    .exact .inr ⟨k,c,e,z.sameBut f (F y c e)⟩
  .obtain⟨S,z⟩:=I.cell y c e
   exact⟨S,z.sameBut f (F y c e)⟩
  .obtain⟨e,n,W,Z,d⟩:=I.pin p hp
   exact⟨(f.2 p.1 W).trans e,n,W,Z,d⟩
 .have D:X.fn x=true:=by
   rcases hf with z | z
   .exact z
   .rw[z]at hk;cases hk
  obtain⟨c,hc⟩:=I.ok.has x (.inl hk);obtain⟨S,z⟩:=I.cell x c hc;refine wpAny_storeName_cell I.ok.kind hk hc z (λK P f=>?_);obtain⟨oc,R,N⟩:=id z;refine h { s with heap:=K } ⟨I.ok,I.os,I.bare,⟨λb o e n G w=>?_,λb o e n G w=>?_,I.base.free,λb o e w=>?_,I.base.tups,I.base.frzs,I.base.tbls⟩,⟨m,hn.sameBut f (Ne.symm (F x c hc)),λj y v' g e2 e3=>?_⟩,λy T e=>?_,I.free,I.freeC,λp hp=>?_,l ⟨oc,R,I.freeC x c hc⟩ f,by simpa using I.len⟩ ⟨c,f,.inr hc⟩
  .exact(f.2 b (Nat.ne_of_lt (Nat.lt_of_lt_of_le (Heap.lt_size e) (I.ok.cab x c D hc)))).trans (I.base.keep b o e n G w)
  .obtain⟨sl,g⟩:=I.base.slot b o e n G w
   exact⟨sl,(f.2 b (Nat.ne_of_lt (Nat.lt_of_lt_of_le (Heap.lt_size e) (I.ok.cab x c D hc)))).trans g⟩
  .obtain⟨o',g⟩:=I.base.there b o e w
   exact⟨o',(f.2 b (Nat.ne_of_lt (Nat.lt_of_lt_of_le (Heap.lt_size e) (I.ok.cab x c D hc)))).trans g⟩
  .by_cases hj:j=i
   .subst hj
    rw[L]at g;cases g;rw[List.getElem?_set_self C]at e2;cases e2;exact⟨u,r,.inr ⟨.inl hk,c,hc,P⟩⟩
   .rw[List.getElem?_set_ne (Ne.symm hj)]at e2
    obtain⟨Y,r',q⟩:=hl j y v' g e2 e3;refine⟨Y,r',?_⟩
    rcases q with q | ⟨k,T,e,z'⟩
    .exact .inl q
    .refine .inr ⟨k,T,e,z'.sameBut f ?_⟩
     rintro rfl;exact hj (my hN g (I.ok.inj _ _ _ e hc ▸ L))
  .by_cases hcc:T=c
   .subst hcc;exact⟨_,P⟩
   .obtain⟨w2,z2⟩:=I.cell y T e
    exact⟨w2,z2.sameBut f hcc⟩
  .obtain⟨e,n,W,Z,d⟩:=I.pin p hp
   refine⟨(f.2 p.1 ?_).trans e,n,W,Z,d⟩;intro q;rw[q,R]at e;have q':oc=p.2:=Option.some.inj e;exact d S (by rw[<- q'];exact N)
theorem gY{M:Model}{A:Around}{E:Value->Shared->Prop}{i:Nat}{x:Str}{v:V}{u:Value}{Q:Unit->Shared->Prop}(I:Inv X pins σ H s)(c:X.N.Nodup)(e:X.N[i]? = some x)(d:Loc X.env.scope x)(r:RelV v u)
  (h:∀ s',Inv X pins (σ.set i (some v)) H s'->Q () s') (a:X.fn x = true\/X.env.scope.names.lookup x = some .local:=by first | exact .inl rfl | exact .inr rfl | assumption):wpAny M A (storeName X.env x u) Q E s :=
 n6 I c e d r (λs' b _=>h s' b) a
theorem Inv.call'{s':Shared}{ch:List Addr}(I:Inv X pins σ H s)(g:s'.os=s.os)(u:Un (frs X.stack) ch H H' s.heap s'.heap)(d:HOk X.prog X.w H' s'.heap)(f:AllBare s'.gens)
  (a:∀ b ∈ ch,(b ∈ X.ex\/X.s₀.heap.objs.size<=b)/\b≠X.env.locals/\(∀ x c,X.env.cells.lookup x = some c->c≠b)/\∀ p ∈ X.pn ++ pins,p.1≠b):Inv X pins σ H' s':=by
 obtain⟨i,g',d',t',h⟩:=s';have e:h=s.os:=g;subst e;exact I.call (g':=g') (t':=t') (d':=d') u d f a
end
abbrev XK:=Value->Option Addr->Hp->Prop
abbrev St:=List (Option V)
abbrev VK:=V->Hp->Prop
abbrev TE:=St->Hp->VK->Prop
abbrev TT:=St->Hp->(Bool->Hp->Prop)->Prop
abbrev TA:=St->Hp->(List V->Hp->Prop)->Prop
structure Ends where
 nx:St->Hp->Prop
 rt:VK
 bk:St->Hp->Prop:=λ_ _=>False
 ct:St->Hp->Prop:=λ_ _=>False
abbrev TS:=Ends->St->Hp->Prop
def EP(X:Cx)(pins:List (Addr×Obj))(σ:St)(Q:VK)(u:Value)(s':Shared):Prop:=∃ v H',Inv X pins σ H' s'/\RelV v u/\Q v H'
def TP(X:Cx)(pins:List (Addr×Obj))(σ:St)(Q:Bool->Hp->Prop)(b:Bool)(s':Shared):Prop:=∃ H',Inv X pins σ H' s'/\Q b H'
def AP(X:Cx)(pins:List (Addr×Obj))(σ:St)(Q:List V->Hp->Prop)(us:List Value)(s':Shared):Prop:=∃ vs H',Inv X pins σ H' s'/\Vals vs us/\Q vs H'
def SP(X:Cx)(pins:List (Addr×Obj))(D:Ends)(f:Flow)(s':Shared):Prop :=
 match f with
 | .next=>∃ σ' H',Inv X pins σ' H' s'/\D.nx σ' H'
 | .brk=>∃ σ' H',Inv X pins σ' H' s'/\D.bk σ' H'
 | .cont=>∃ σ' H',Inv X pins σ' H' s'/\D.ct σ' H'
 | .ret u=>∃ v σ' H',Inv X pins σ' H' s'/\RelV v u/\D.rt v H'
def PE(X:Cx)(e:Expr)(t:TE):Prop :=
 ∀(pins:List (Addr×Obj)) (s:Shared) (σ:St) (H:Hp) (Q:VK),Inv X pins σ H s->t σ H Q->wpAny (model X.prog X.w) X.A (eval e X.env) (EP X pins σ Q) X.xe s
def PT(X:Cx)(e:Expr)(t:TT):Prop :=
 ∀(pins:List (Addr×Obj)) (s:Shared) (σ:St) (H:Hp) (Q:Bool->Hp->Prop),Inv X pins σ H s->t σ H Q->wpAny (model X.prog X.w) X.A (isTrue e X.env (eval e X.env)) (TP X pins σ Q) X.xe s
def PW(X:Cx)(e:Expr)(t:TT):Prop :=
 ∀(whole:Sem Value) (pins:List (Addr×Obj)) (s:Shared) (σ:St) (H:Hp) (Q:Bool->Hp->Prop),Inv X pins σ H s->t σ H Q->wpAny (model X.prog X.w) X.A (isTrue e X.env whole) (TP X pins σ Q) X.xe s
theorem PW.pt{X:Cx}{e:Expr}{t:TT}(h:PW X e t):PT X e t:=h _
def PA(X:Cx)(es:List Expr)(t:TA):Prop :=
 ∀(pos:Pos) (pins:List (Addr×Obj)) (s:Shared) (σ:St) (H:Hp) (Q:List V->Hp->Prop),Inv X pins σ H s->t σ H Q->wpAny (model X.prog X.w) X.A (spliced (backTo pos (starEach es X.env))) (AP X pins σ Q) X.xe s
def PS(X:Cx)(st:Stmt)(t:TS):Prop :=
 ∀(pins:List (Addr×Obj)) (s:Shared) (σ:St) (H:Hp) (D:Ends),Inv X pins σ H s->t D σ H->wpAny (model X.prog X.w) X.A (exec st X.env) (SP X pins D) X.xe s
def PSs(X:Cx)(st:List Stmt)(t:TS):Prop :=
 ∀(pins:List (Addr×Obj)) (s:Shared) (σ:St) (H:Hp) (D:Ends),Inv X pins σ H s->t D σ H->wpAny (model X.prog X.w) X.A (execs st X.env) (SP X pins D) X.xe s
theorem thn{c:Type}{t:Sem c}{Q b:c->Shared->Prop}{M:Model}{A:Around}{E:Value->Shared->Prop}{s:Shared}(h:wpAny M A t Q E s)(d:∀ a s,Q a s->b a s):wpAny M A t b E s:=wpAny_mono h d λ_ _ x=>x
section
variable {X:Cx}
def Cf(i:Nat):TE:=λσ H Q=>∃ v,σ[i]? = some (some v)/\Q v H
def tC(v:V):TE:=λ_ H Q=>Q v H
theorem zd{i:Nat}{x:Str}{j:Pos}(A:X.N[i]? = some x)(C:Vis X.env.scope x)(g:(x == ("__debug__" : Str))=false:=by decide)(f:(x == ("__classdict__" : Str))=false:=by decide):PE X (.Name x j) (Cf i):=by
 intro d s y H Q I h;obtain⟨v,e,h⟩:=h;obtain⟨m,B,p⟩:=I.loc;obtain⟨u,r,l⟩:=p i x v A e C
 have b:EP X d y Q u s:=⟨v,H,I,r,h⟩
 rcases l with⟨hk,w⟩ | ⟨hk,c,o,a⟩
 .exact wpAny_Name (wpAny_loadName_local I.ok.kind hk B w b) g
 .rcases hk with hk | hk
  .exact wpAny_Name (wpAny_loadName_cell I.ok.kind hk o a b) g
  .exact wpAny_Name (wpAny_loadName_free I.ok.kind hk o a b f) g
theorem ah{i j pos}:PE X (.Constant (.int i) j pos) (tC (.int i)):=λ_ _ _ H _ I h=>wpAny_Constant_int ⟨.int i,H,I.tok _,⟨_,rfl⟩,h⟩
theorem fz{b j pos}:PE X (.Constant (.bool b) j pos) (tC (.bl b)):=λ_ _ _ H _ I h=>Constant_bool ⟨.bl b,H,I,rfl,h⟩
theorem rJ{j pos}:PE X (.Constant .none j pos) (tC .non):=λ_ _ _ H _ I h=>Constant_none ⟨.non,H,I,rfl,h⟩
theorem bD{x j pos}:PE X (.Constant (.str x) j pos) (tC (.str x)):=λ_ _ _ H _ I h=>Calls.Constant_str ⟨.str x,H,I.tok _,⟨_,rfl⟩,h⟩
def Gl(X:Cx)(x:Str):Prop:=X.env.kindOf x=some .globalImplicit
theorem i7{E:Value->Shared->Prop}{a:List (Addr×Obj)}{s:Shared}{e:St}{H:Hp}{x:Str}{u:Value}{b:Pos}{Q:Value->Shared->Prop}(I:Inv X a e H s)(c:Gl X x)(d:X.mg x=some u)(h:Q u s)
  (f:(x == ("__debug__" : Str))=false:=by decide):wpAny (model X.prog X.w) X.A (eval (.Name x b) X.env) Q E s :=
 Calls.Name_function_global I.ok.kind c (Calls.loadGlobal_global (by rw[I.ok.glob];exact I.mod.glob.keeps I.bk) d h) f
theorem iF{E:Value->Shared->Prop}{a:List (Addr×Obj)}{s:Shared}{g:St}{H:Hp}{x:Str}{u:Value}{b:Pos}{Q:Value->Shared->Prop}(I:Inv X a g H s)(c:Gl X x)(e:X.mg x=none)(l:bootBuiltins x=some u)(h:Q u s)
  (i:x ≠ "__name__" := by decide) (j:(x == ("__debug__" : Str))=false:=by decide):wpAny (model X.prog X.w) X.A (eval (.Name x b) X.env) Q E s:=by
 obtain⟨m,f,d⟩:=I.mod.blt;exact Calls.Name_function_global I.ok.kind c (Calls.loadGlobal_builtin (by rw[I.ok.glob];exact I.mod.glob.keeps I.bk) e (by rw[I.ok.blt];exact f.keeps I.bk) ((d x i).trans l) h) j
theorem xB{x:Str}{v:V}{u:Value}{a:Pos}(c:Gl X x)(d:X.mg x=some u)(r:RelV v u)(b:(x == ("__debug__" : Str))=false:=by decide):PE X (.Name x a) (tC v) :=
 λ_ _ _ H _ I h=>i7 I c d ⟨v,H,I,r,h⟩ b
theorem jR{x:Str}{v:V}{u:Value}{a:Pos}(b:Gl X x)(c:X.mg x=none)(f:bootBuiltins x=some u)(r:RelV v u)(d:x ≠ "__name__" := by decide)(e:(x == ("__debug__" : Str))=false:=by decide):PE X (.Name x a) (tC v) :=
 λ_ _ _ H _ I h=>iF I b c f ⟨v,H,I,r,h⟩ d e
variable {a b:Expr}{ta tb:TE}{pos:Pos}
variable {tA tB':TT}{rest:List Expr}
def BD(t u:TT):TT:=λσ H Q=>t σ H λc H1=>if c=true then u σ H1 Q else Q false H1
def tOr(t u:TT):TT:=λσ H Q=>t σ H λc H1=>if c=true then Q true H1 else u σ H1 Q
def BM(t:TT):TT:=λσ H Q=>t σ H λc H1=>Q (!c) H1
theorem ja(d:PT X a tA):PW X (.BoolOp .And [a] pos) tA:=by
 intro g b s f H Q I h;refine isTrue_and (thn (d b s f H Q I h) λc i e=>?_);cases c with
 | true=>exact isTrue_and_nil e
 | false=>exact e
theorem mK(d:PT X a tA):PW X (.BoolOp .Or [a] pos) tA:=by
 intro g b s f H Q I h;refine isTrue_or (thn (d b s f H Q I h) λc i e=>?_);cases c with
 | false=>exact isTrue_or_nil e
 | true=>exact e
theorem ke(j:PT X a tA)(o:PW X (.BoolOp .And (b::rest) pos) tB'):PW X (.BoolOp .And (a::b::rest) pos) (BD tA tB'):=by
 intro l d s g H Q I h;refine isTrue_and (thn (j d s g H _ I h) λc m ⟨e,f,i⟩=>?_);cases c with
 | true=>exact o l d m g e Q f i
 | false=>exact⟨e,f,i⟩
theorem qp(j:PT X a tA)(o:PW X (.BoolOp .Or (b::rest) pos) tB'):PW X (.BoolOp .Or (a::b::rest) pos) (tOr tA tB'):=by
 intro l d s g H Q I h;refine isTrue_or (thn (j d s g H _ I h) λc m ⟨e,f,i⟩=>?_);cases c with
 | true=>exact⟨e,f,i⟩
 | false=>exact o l d m g e Q f i
theorem dP(f:PT X a tA):PT X (.UnaryOp .Not a pos) (BM tA):=by
 intro b s e H Q I h;exact isTrue_not (f b s e H (λc d=>Q (!c) d) I h)
theorem uI{op}{t:TE}(h:PE X a t):PE X (.BoolOp op [a] pos) t:=λb s c H Q I d=>BoolOp_one (h b s c H Q I d)
def tIf(t:TT)(ta tb:TE):TE:=λσ H Q=>t σ H λc H1=>if c=true then ta σ H1 Q else tb σ H1 Q
theorem iy{c:Expr}(o:PT X c tA)(m:PE X a ta)(p:PE X b tb):PE X (.IfExp c a b pos) (tIf tA ta tb):=by
 intro e s f H Q I h;refine wpAny_IfExp (thn (o e s f H _ I h) λd j ⟨g,i,l⟩=>?_);cases d with
 | true=>exact m e j f g Q i l
 | false=>exact p e j f g Q i l
end
def SqL(K:Frag)(H:Hp)(a:Addr)(xs:List V):Prop :=
 Rd H a (.lst xs) \/
  ∃(o:Obj) (its:Array Value) (n:Nat),K.lookup a=some o/\o.cls=.type "list" /\ o.dict=none/\o.data=.seq its n/\its.size<=sizeLine/\Vals xs its.toList
def SqT(K:Frag)(H:Hp)(a:Addr)(xs:List V):Prop :=
 Rd H a (.tup xs) \/
  ∃(o:Obj) (its:Array Value) (n:Nat),K.lookup a=some o/\o.cls=.type "tuple" /\ o.data=.seq its n/\its.size<=sizeLine/\Vals xs its.toList
def BB:Value->Option V
 | .none=>some .non
 | .bool b=>some (.bl b)
 | .int i _=>some (.int i)
 | .str x _=>some (.str x)
 | .bytes b _=>some (.byt b)
 | .float b _=>some (.flt b)
 | .ref a=>some (.ref a)
 | .type n=>some (.ty n)
 | _=>none
theorem RelV.abs{x:V}{u:Value}(r:RelV x u):BB u=some x:=by
 cases x with
 | non=>cases r;rfl
 | bl _=>cases r;rfl
 | int _=>obtain⟨t,rfl⟩:=r;rfl
 | str _=>obtain⟨t,rfl⟩:=r;rfl
 | byt _=>obtain⟨t,rfl⟩:=r;rfl
 | flt _=>obtain⟨t,rfl⟩:=r;rfl
 | ref _=>cases r;rfl
 | ty _=>cases r;rfl
theorem RelV.inj{x y:V}{u:Value}(r:RelV x u)(q:RelV y u):x=y:=Option.some.inj (r.abs.symm.trans q.abs)
theorem Vals.inj:∀{xs ys:List V}{us:List Value},Vals xs us->Vals ys us->xs=ys
 | _,_,_,.nil,.nil=>rfl
 | _,_,_,.cons r t,.cons r' t'=>by rw[r.inj r',Vals.inj t t']
section
variable {X:Cx}{pins:List (Addr×Obj)}{σ:St}{H:Hp}{s:Shared}{a:Addr}{xs ys:List V}
theorem SqL.of{K:Frag}(h:H a=some (.lst xs)):SqL K H a xs:=.inl (.inl h)
theorem SqT.of{K:Frag}(h:H a=some (.tup xs)):SqT K H a xs:=.inl (.inl h)
theorem Inv.list(I:Inv X pins σ H s)(h:SqL X.K H a xs):∃ its:List Value,Vals xs its/\PlainL s.heap a its.toArray/\xs.length<=sizeLine:=by
 rcases h with h | ⟨o,its,n,d,c,f,b,g,r⟩
 .obtain⟨z,its,n,r,e⟩:=h.ok I.hok
  exact⟨its,r,⟨_,n,e,rfl,rfl,rfl⟩,z⟩
 .refine⟨its.toList,r,⟨o,n,I.kIn a o d,c,f,by simpa using b⟩,?_⟩
  have e:=r.length;simp only[Array.length_toList]at e;lia
theorem Inv.tuple(I:Inv X pins σ H s)(h:SqT X.K H a xs):∃ its:List Value,Vals xs its/\IsTup s.heap a its.toArray/\xs.length<=sizeLine:=by
 rcases h with h | ⟨o,its,n,d,c,b,f,r⟩
 .obtain⟨z,its,r,p⟩:=h.ok I.hok
  exact⟨its,r,p,z⟩
 .refine⟨its.toList,r,⟨o,I.kIn a o d,c,n,by simpa using b⟩,?_⟩
  have e:=r.length;simp only[Array.length_toList]at e;lia
theorem Inv.list_inj(I:Inv X pins σ H s)(h:SqL X.K H a xs)(h':SqL X.K H a ys):xs=ys:=by
 obtain⟨c,r,⟨o,n,e,_,_,d⟩,_⟩:=I.list h;obtain⟨b,i,⟨j,l,f,_,_,g⟩,_⟩:=I.list h';rw[e]at f;cases f;rw[d]at g;injection g with d1 _
 have:c=b:=by simpa using congrArg Array.toList d1
 subst this;exact r.inj i
theorem Inv.tuple_inj(I:Inv X pins σ H s)(h:SqT X.K H a xs)(h':SqT X.K H a ys):xs=ys:=by
 obtain⟨c,r,⟨o,e,_,n,d⟩,_⟩:=I.tuple h;obtain⟨b,i,⟨j,f,_,l,g⟩,_⟩:=I.tuple h';rw[e]at f;cases f;rw[d]at g;injection g with d1 _
 have:c=b:=by simpa using congrArg Array.toList d1
 subst this;exact r.inj i
end
abbrev Cx.wish(X:Cx)(E:Value->Shared->Prop):Cx:={ X with xe:=E }
abbrev Cx.nox(X:Cx):Cx:=X.wish λ_ _=>False
theorem Cx.Ok.wish{X:Cx}(a:X.Ok)(E:Value->Shared->Prop):(X.wish E).Ok :=
 ⟨a.mod,a.kind,a.glob,a.blt,a.above,a.inj,a.has,a.cab,a.hd,a.frames,a.stk,a.exf,a.bs,a.bsz,a.noex,a.exfs,a.funs,a.frf⟩
theorem Cx.Ok.unwish{X:Cx}{E:Value->Shared->Prop}(a:(X.wish E).Ok):X.Ok :=
 ⟨a.mod,a.kind,a.glob,a.blt,a.above,a.inj,a.has,a.cab,a.hd,a.frames,a.stk,a.exf,a.bs,a.bsz,a.noex,a.exfs,a.funs,a.frf⟩
section
variable {X:Cx}{pins:List (Addr×Obj)}{σ:St}{H:Hp}{s:Shared}{E:Value->Shared->Prop}
theorem Inv.wish(I:Inv X pins σ H s)(E:Value->Shared->Prop):Inv (X.wish E) pins σ H s:=⟨I.ok.wish E,I.os,I.bare,I.base,I.loc,I.cell,I.free,I.freeC,I.pin,I.hok,I.len⟩
theorem Inv.unwish(I:Inv (X.wish E) pins σ H s):Inv X pins σ H s:=⟨I.ok.unwish,I.os,I.bare,I.base,I.loc,I.cell,I.free,I.freeC,I.pin,I.hok,I.len⟩
theorem SP.unwish{D:Ends}{f:Flow}{s':Shared}(h:SP (X.wish E) pins D f s'):SP X pins D f s':=by
 cases f with
 | next=>obtain⟨a,b,I,q⟩:=h;exact⟨a,b,I.unwish,q⟩
 | brk=>obtain⟨a,b,I,q⟩:=h;exact⟨a,b,I.unwish,q⟩
 | cont=>obtain⟨a,b,I,q⟩:=h;exact⟨a,b,I.unwish,q⟩
 | ret u=>obtain⟨v,a,b,I,r,q⟩:=h;exact⟨v,a,b,I.unwish,r,q⟩
theorem PSs.nox{st:List Stmt}{t:TS}(h:PSs X.nox st t):PSs X st t:=λa s b H D I c =>
 wpAny_mono (h a s b H D (I.wish _) c) (λ_ _ q=>q.unwish) λ_ _ z=>False.elim z
end
section
variable {X:Cx}{st:Stmt}{rest:List Stmt}{t u:TS}{e:Expr}{te:TE}{pos:Pos}
def yh:TS:=λD σ H=>D.nx σ H
def b8(t u:TS):TS:=λD σ H=>t { D with nx:=u D } σ H
theorem aD:PSs X [] yh:=λ_ _ a H _ I h=>wpAny_execs_nil ⟨a,H,I,h⟩
theorem ai(d:PS X st t)(h2:PSs X rest u):PSs X (st::rest) (b8 t u):=by
 intro a s g H D I h;refine wpAny_execs_cons (thn (d a s g H { D with nx:=u D } I h) λf i q=>?_);cases f with
 | next =>
  obtain⟨b,c,e,q⟩:=q;exact h2 a i b c D e q
 | ret v=>exact q
 | brk=>exact q
 | cont=>exact q
theorem aj(c:PS X st t):PSs X [st] t:=by
 intro a s b H D I h;refine wpAny_execs_cons (thn (c a s b H D I h) λf d q=>?_);cases f with
 | next=>exact wpAny_execs_nil q
 | ret v=>exact q
 | brk=>exact q
 | cont=>exact q
def Ac:TS:=λD σ H=>D.bk σ H
theorem xL:PS X (.Pass pos) yh:=λ_ _ a H _ I h=>wpAny_Pass ⟨a,H,I,h⟩
theorem vK:PS X (.Break pos) Ac:=λ_ _ a H _ I h=>wpAny_Break ⟨a,H,I,h⟩
theorem Inv.quiet{a:List (Addr×Obj)}{b:St}{H:Hp}{s:Shared}(I:Inv X a b H s):interactive X.env=false:=by simp[interactive,I.ok.kind]
def Ak(te:TE):TS:=λD σ H=>te σ H λ_ H1=>D.nx σ H1
theorem dX(g:PE X e te)(d:swapsWith e none pos.line X.env=pure false:=by rfl):PS X (.Expr e pos) (Ak te):=by
 intro a s b H D I h;exact wpAny_Expr_any (thn (g a s b H _ I h) λv j ⟨x,c,f,l,i⟩=>⟨b,c,f,i⟩) I.quiet d
def BC(te:TE):TS:=λD σ H=>te σ H D.rt
theorem au(f:PE X e te):PS X (.Return (some e) pos) (BC te):=by
 intro a s b H D I h;exact wpAny_Return_some (thn (f a s b H _ I h) λv j ⟨x,c,d,i,g⟩=>⟨x,b,c,d,i,g⟩)
def BI(c:TT)(t u:TS):TS:=λD σ H=>c σ H λb H1=>if b=true then t D σ H1 else u D σ H1
theorem aR{c:Expr}{a b:List Stmt}{l:TT}(p:PT X c l)(o:PSs X a t)(r:PSs X b u):PS X (.If c a b pos) (BI l t u):=by
 intro e s f H D I h;refine wpAny_If (thn (p e s f H _ I h) λd j ⟨g,i,m⟩=>?_);cases d with
 | true=>exact o e j f g D i m
 | false=>exact r e j f g D i m
def zh:TS:=λ_ _ _=>False
theorem pS:PS X st zh:=λ_ _ _ _ _ _ h=>h.elim
end
abbrev TG:=V->St->Hp->(St->Hp->Prop)->Prop
abbrev TGs:=List V->St->Hp->(St->Hp->Prop)->Prop
def PG(X:Cx)(target:Expr)(t:TG):Prop :=
 ∀(pins:List (Addr×Obj)) (s:Shared) (σ:St) (H:Hp) (v:V) (u:Value) (Q:St->Hp->Prop),Inv X pins σ H s->RelV v u->t v σ H Q ->
  wpAny (model X.prog X.w) X.A (assign target X.env u) (λ_ s'=>∃ σ' H',Inv X pins σ' H' s'/\Q σ' H') X.xe s
def PGs(X:Cx)(ts:List Expr)(t:TGs):Prop :=
 ∀(pins:List (Addr×Obj)) (s:Shared) (σ:St) (H:Hp) (vs:List V) (us:List Value) (Q:St->Hp->Prop),Inv X pins σ H s->Vals vs us->t vs σ H Q ->
  wpAny (model X.prog X.w) X.A (assignInOrder ((assignEach ts X.env).map (·.2)) us) (λ_ s'=>∃ σ' H',Inv X pins σ' H' s'/\Q σ' H') X.xe s
abbrev TIp:=V->V->Hp->VK->Prop
def PIp(X:Cx)(op:Operator)(t:TIp):Prop :=
 ∀(pins:List (Addr×Obj)) (s:Shared) (σ:St) (H:Hp) (x y:V) (v u:Value) (Q:VK),Inv X pins σ H s->RelV x v->RelV y u->t x y H Q ->
  wpAny (model X.prog X.w) X.A (inplaceOp op v u) (EP X pins σ Q) X.xe s
section
variable {X:Cx}{pos:Pos}
def sZ(i:Nat):TG:=λv σ H Q=>Q (σ.set i (some v)) H
theorem ao{i:Nat}{x:Str}(d:X.N.Nodup)(f:X.N[i]? = some x)(e:Loc X.env.scope x)(b:X.fn x = true\/X.env.scope.names.lookup x = some .local:=by first | exact .inl rfl | exact .inr rfl | assumption):PG X (.Name x pos) (sZ i):=by
 intro a s j H v u Q I r h;exact wpAny_assign_Name (gY I d f e r (λg c=>⟨_,H,c,h⟩) b)
def Bw:TGs:=λvs σ H Q=>vs=[]/\Q σ H
inductive gCons(t:TG)(u:TGs)(vs:List V)(σ:St)(H:Hp)(Q:St->Hp->Prop):Prop
 | mk(v:V)(r:List V)(h0:vs=v::r)(h1:t v σ H λσ' H'=>u r σ' H' Q):gCons t u vs σ H Q
theorem aJ:PGs X [] Bw:=by
 intro a s b H c d Q I r h;obtain⟨e,h⟩:=h;subst e;cases r;exact assignInOrder_nil ⟨b,H,I,h⟩
theorem aq{e:Expr}{b:List Expr}{t:TG}{u:TGs}(j:PG X e t)(h2:PGs X b u)
  (f:(assignEach (e::b) X.env).map (·.2)=assign e X.env::(assignEach b X.env).map (·.2):=by rfl):PGs X (e::b) (gCons t u):=by
 intro a s l H w x Q I r h;obtain⟨v,p,o,h⟩:=h;subst o;cases r with
 | cons r rr =>
  rw[f];refine assignInOrder_cons (thn (j a s l H _ _ _ I r h) λ_ i ⟨c,d,g,m⟩=>?_);exact h2 a i c d _ _ Q g rr m
inductive gTup(K:Frag)(n:Nat)(t:TGs)(v:V)(σ:St)(H:Hp)(Q:St->Hp->Prop):Prop
 | mk(a:Addr)(xs:List V)(h0:v=.ref a)(h1:SqT K H a xs)(h2:xs.length=n)(h3:t xs σ H Q):gTup K n t v σ H Q
theorem dz{d:List Expr}{k:Nat}{t:TGs}{n:Nat}(w:X.calm=true)(h:PGs X d t)
  (A:(assignEach d X.env).length=n:=by rfl) (f:(assignEach d X.env).findIdx? (·.1)=none:=by rfl):PG X (.Tuple d k pos) (gTup X.K n t):=by
 intro c s i H v u Q I r g;obtain⟨a,m,E,C,l,g⟩:=g;subst E;cases r;obtain⟨D,j,x,F⟩:=I.tuple C;refine assign_Tuple_tuple (I.ok.hd w) x (by simp[A,<- l,j.length]) f λB y=>?_
 have p:Inv X c i H { s with heap:=B }:=I.kept (t':=s.toks) λb o e=>y b o (Nat.ne_of_lt (Heap.lt_size e)) e
 exact h c _ i H m _ Q p (by simpa using j) g
def yN(te:TE)(g:TG):TS:=λD σ H=>te σ H λx H1=>g x σ H1 D.nx
theorem gA{tg e:Expr}{b:TE}{g:TG}(p:PE X e b)(d:PG X tg g)(j:swapsWithSole [tg] e pos.line X.env=pure false:=by rfl)(f:swappedStores [tg] e X.env=pure none:=by rfl)
  (m:(assignEach [tg] X.env).map (·.2)=[assign tg X.env]:=by rfl):PS X (.Assign [tg] e pos) (yN b g):=by
 intro a s c H D I h;refine wpAny_Assign_stores (thn (p a s c H _ I h) λv r ⟨x,i,l,u,o⟩=>?_) j f;rw[m];exact thn (d a r c i x v _ l u o) λ_ w q=>q
theorem ax{i:Nat}{x:Str}{e:Expr}{c:TE}{a:Pos}(p:X.N.Nodup)(w:X.N[i]? = some x)(r:Loc X.env.scope x)(o:PE X e c)(g:swapsWith e (some (.Name x a)) pos.line X.env = pure false:=by rfl)(d:X.fn x = true\/X.env.scope.names.lookup x = some .local:=by first | exact .inl rfl | exact .inr rfl | assumption) :
  PS X (.Assign [.Name x a] e pos) (yN c (sZ i)):=by
 intro b s m H D I h;refine wpAny_Assign_Name (thn (o b s m H _ I h) λv C ⟨y,f,l,A,u⟩=>?_) g;exact gY l p w r A (λB j=>⟨_,f,j,u⟩) d
def BU(i j:Nat)(ta:TA):TS:=λD σ H=>ta σ H λvs H1=>∃ v w,vs=[v,w]/\D.nx ((σ.set i (some v)).set j (some w)) H1
theorem yH{i j:Nat}{x y:Str}{a b:Expr}{F:TA}{r m g:Pos}{kt k2 pt2}(L:X.calm=true)(E:X.N.Nodup)(M:X.N[i]? = some x)(Y:X.N[j]? = some y)(l:i≠j)
  (K:X.env.scope.names.lookup x = some .local) (A:X.env.scope.names.lookup y = some .local) (S:PA X [a,b] F)
  (O:swappedStores [.Tuple [.Name x r,.Name y m] kt g] (.Tuple [a,b] k2 pt2) X.env=pure (some [x,y]))
  (Q:swapsWithSole [.Tuple [.Name x r,.Name y m] kt g] (.Tuple [a,b] k2 pt2) pos.line X.env=pure false:=by rfl) :
  PS X (.Assign [.Tuple [.Name x r,.Name y m] kt g] (.Tuple [a,b] k2 pt2) pos) (BU i j F):=by
 intro c s G H D I h;rw[exec_Assign_arm];refine wpAny_bind (wpAny_standAt ?_);rw[Q];refine wpAny_bind (wpAny_pure ?_);rw[if_neg (by decide)];refine wpAny_bind (Tuple_ (thn (S _ c s G H _ I h) λus d ⟨vs,C,T,N,f⟩=>?_));obtain⟨v,w,P,f⟩:=f;subst P
 obtain⟨u1,u2,rfl,rv,rw'⟩:∃ u1 u2,us=[u1,u2]/\RelV v u1/\RelV w u2:=by
  cases N with
  | cons p q =>
   cases q with
   | cons p' q' =>
    cases q';exact⟨_,_,rfl,p,p'⟩
 refine wpAny_newObj_type ?_ (by show 2<=sizeLine;decide);have R:Inv X c G C { d with heap:=d.heap.push { cls:=.type "tuple",data:=.seq [u1,u2].toArray } }:=T.kept (t':=d.toks) λb o e=>Heap.get?_push_of_some _ e
 rw[O];refine wpAny_bind (wpAny_pure ?_);show wpAny (model X.prog X.w) X.A (do rule "assign.swapped-stores";let items <- unpackItems (.ref d.heap.objs.size) 2 none;assignInOrder [λv=>bindName X.env y v,λv=>bindName X.env x v] items.reverse;pure Flow.next) _ _ _;refine wpAny_bind (wpAny_rule (wpAny_bind (unpackItems_tuple (items:=#[u1,u2]) (I.ok.hd L) (IsTup.new d.heap _) λh' u=>?_)));have W:=R.kept (h':=h') (t':=d.toks) λb o e=>u b o (Nat.ne_of_lt (Heap.lt_size e)) e
 show wpAny _ _ (assignInOrder [λv=>bindName X.env y v,λv=>bindName X.env x v] [u2,u1] >>= λ_=>pure Flow.next) _ _ _;refine wpAny_bind (assignInOrder_cons (wpAny_bindName (gY W E Y (.inl A) rw' (λs2 Z=>?_) (.inr A))));refine assignInOrder_cons (wpAny_bindName (gY Z E M (.inl K) rv (λs3 B=>assignInOrder_nil (wpAny_pure ?_)) (.inr K)));rw[List.set_comm _ _ (Ne.symm l)]at B;exact⟨_,C,B,f⟩
def Cj(i:Nat)(te:TE)(ti:TIp):TS:=λD σ H=>∃ x,σ[i]? = some (some x)/\te σ H λy H1=>ti x y H1 λz H2=>D.nx (σ.set i (some z)) H2
theorem yP{i:Nat}{x:Str}{e:Expr}{B:TE}{g:Operator}{C:TIp}{f:Pos}(Z:X.N.Nodup)(p:X.N[i]? = some x)(o:Loc X.env.scope x)(he:PE X e B)(Y:PIp X g C)(F:X.fn x = true\/X.env.scope.names.lookup x = some .local:=by first | exact .inl rfl | exact .inr rfl | assumption) :
  PS X (.AugAssign (.Name x f) g e pos) (Cj i B C):=by
 intro a s E H D I h;obtain⟨v,P,h⟩:=h;obtain⟨m,hn,R⟩:=I.loc;have j:Vis X.env.scope x:=by rcases o with k | k;exact .inl k;exact .inr (.inl k)
 obtain⟨u,r,l⟩:=R i x v p P j;refine wpAny_AugAssign_Name ?_
 have A:wpAny (model X.prog X.w) X.A (eval e X.env) (λw d=>wpAny (model X.prog X.w) X.A (inplaceOp g u w) (λr s₃=>wpAny (model X.prog X.w) X.A (storeName X.env x r) (λ_=>SP X a D .next) X.xe s₃) X.xe d) X.xe s:=by
  refine thn (he a s E H _ I h) λw O ⟨y,S,I1,M,L⟩=>?_
  refine thn (Y a O E S v y u w _ I1 r M L) λz s2 ⟨zv,K,W,Q,N⟩=>?_
  exact gY W Z p o Q (λs3 I3=>⟨_,K,I3,N⟩) F
 rcases l with⟨hk,T⟩ | ⟨hk,c,G,b⟩
 .exact wpAny_loadName_local I.ok.kind hk hn T A
 .rcases hk with hk | hk
  .exact wpAny_loadName_cell I.ok.kind hk G b A
  .rcases o with k | k
   .have:X.env.scope.names.lookup x=some .free:=hk
    rw[k]at this;cases this
   .have:X.env.scope.names.lookup x=some .free:=hk
    rw[k]at this;cases this
def ipI(f:Int->Int->Int):TIp:=λx y H Q=>∃ i j,x=.int i/\y=.int j/\Q (.int (f i j)) H
theorem zO:PIp X .Sub (ipI λi j=>i - j):=by
 intro a s g H x y v u Q I e c h;obtain⟨i,j,d,b,q⟩:=h;subst d;subst b;obtain⟨t,rfl⟩:=e;obtain⟨f,rfl⟩:=c;exact isub_int ⟨.int _,H,I.tok _,⟨_,rfl⟩,q⟩
end
section
variable {X:Cx}{pos:Pos}
def zf(c:TT)(tb:TS):TS:=λD σ H=>∃ W:Nat->St->Hp->Prop,(∃ m,W m σ H)/\∀ m σ H,W m σ H ->
 c σ H λb H1=>if b=true then ∃ N:St->Hp->Prop,(∀ σ' H',N σ' H'->∃ m',m'<m/\W m' σ' H')/\tb { D with nx:=N,ct:=N,bk:=D.nx } σ H1 else D.nx σ H1
theorem qT{c:Expr}{body:List Stmt}{x:TT}{E:TS}(y:PassesOwn (model X.prog X.w) X.A X.env X.xe)(G:PT X c x)(S:PSs X body E):PS X (.While c body [] pos) (zf x E):=by
 intro a s R H D I h;obtain⟨W,⟨O,M⟩,g⟩:=h;refine wpAny_While (codeAny_whileLoop (λn F=>∃ σ' H',Inv X a σ' H' F/\W n σ' H') ?_ O ⟨R,H,I,M⟩);rintro n L ⟨e,A,Q,K⟩;refine wpAny_passesOwn y (thn (G a L e A _ Q (g n e A K)) λb P ⟨w,B,j⟩=>?_);cases b with
 | true =>
  obtain⟨N,C,j⟩:=j;rw[if_pos rfl];refine wpAny_passesOwn y (thn (S a P e w _ B j) λf T l=>?_);cases f with
  | next =>
   obtain⟨d,i,r,p⟩:=l;obtain⟨m,o,u⟩:=C d i p;exact⟨m,o,d,i,r,u⟩
  | cont =>
   obtain⟨d,i,r,p⟩:=l;obtain⟨m,o,u⟩:=C d i p;exact⟨m,o,d,i,r,u⟩
  | brk=>exact l
  | ret v=>exact l
 | false =>
  rw[if_neg Bool.false_ne_true];exact wpAny_execs_nil ⟨e,w,B,j⟩
end
structure It where
 go:Nat->Hp->Prop
 yld:Nat->Hp->V->Hp->Prop
 stop:Nat->Hp->Prop
def FpOk(X:Cx)(pins:List (Addr×Obj))(H:Hp)(b:Addr):Prop :=
 H b = none/\b≠X.env.locals/\b ∉ X.fs/\(b ∈ X.ex\/X.s₀.heap.objs.size<=b)/\(∀ x c,X.env.cells.lookup x = some c->c≠b)/\∀ p ∈ X.pn ++ pins,p.1≠b
theorem Inv.fpOk{X:Cx}{a:List (Addr×Obj)}{g:St}{H f:Hp}{s:Shared}{b:Addr}(I:Inv X a g H s)(d:s.heap.objs.size<=b)(h:f b=none):FpOk X a f b:=by
 refine⟨h,Nat.ne_of_gt (Nat.lt_of_lt_of_le I.lt d),I.nofs d,.inr (Nat.le_trans I.sz d),λx c e z=>?_,λp hp z=>?_⟩
 .obtain⟨v,q⟩:=I.cell x c e
  exact absurd (Nat.lt_of_lt_of_le q.lt (by rw[z];exact d)) (Nat.lt_irrefl _)
 .exact absurd (Nat.lt_of_lt_of_le (Heap.lt_size (I.pin p hp).1) (by rw[z];exact d)) (Nat.lt_irrefl _)
structure Turn(P:Program)(w:World)(K:Frag)(tg:Expr)(J:It)(fp:List Addr)(it:Addr)(tn:Nat->Heap->Prop):Prop where
 mem:it∈fp
 obj:∀ i h,tn i h->∀ b∈fp,∃ o,h.get? b=some o/\∀ v,o.data≠.cell v
 keep:∀ i h h',tn i h->(∀ b∈fp,∀ o,h.get? b=some o->h'.get? b=some o)->tn i h'
 item:∀(X:Cx),X.prog=P->X.w=w->X.K=K->X.calm=true->∀(i:Nat) (pins:List (Addr×Obj)) (s:Shared) (σ:St) (H:Hp) (E:Value->Shared->Prop),Inv X pins σ H s->(∀ b∈fp,FpOk X pins H b)->tn i s.heap->J.go i H ->
  wpAny (model P w) X.A (pyNext (.ref it)) (λr s1=>∃ u,r=some u /\
   wpAny (model P w) X.A (letOwnedTupleGo tg (.ref it) u) (λ_ s2=>∃ x H',Inv X pins σ H' s2/\RelV x u/\J.yld i H x H'/\tn (i+1) s2.heap/\∀ b∈fp,H' b=none) E s1) E s
 done:∀(X:Cx),X.prog=P->X.w=w->X.K=K->X.calm=true->∀(i:Nat) (pins:List (Addr×Obj)) (s:Shared) (σ:St) (H:Hp) (E:Value->Shared->Prop),Inv X pins σ H s->(∀ b∈fp,FpOk X pins H b)->tn i s.heap->J.stop i H ->
  wpAny (model P w) X.A (pyNext (.ref it)) (λr s1=>r=none/\Inv X pins σ H s1) E s
 self:∀(A:Around) (i:Nat) (s:Shared) (Q:Value->Shared->Prop) (E:Value->Shared->Prop),tn i s.heap->Q (.ref it) s->wpAny (model P w) A (pyIter (.ref it)) Q E s
abbrev TI:=St->Hp->(It->Hp->Prop)->Prop
def PIE(X:Cx)(pins:List (Addr×Obj))(σ:St)(tg:Expr)(R:It->Hp->Prop)(itv:Value)(s2:Shared):Prop :=
 ∃(it:Addr) (fp:List Addr) (tn:Nat->Heap->Prop) (J:It) (H':Hp),itv=.ref it/\Inv X pins σ H' s2/\Turn X.prog X.w X.K tg J fp it tn/\tn 0 s2.heap/\(∀ b∈fp,FpOk X pins H' b)/\R J H'
def PI(X:Cx)(tg iter:Expr)(wi:TI):Prop :=
 ∀(pins:List (Addr×Obj)) (s:Shared) (σ:St) (H:Hp) (R:It->Hp->Prop),Inv X pins σ H s->wi σ H R ->
  wpAny (model X.prog X.w) X.A (eval iter X.env) (λv s1=>wpAny (model X.prog X.w) X.A (pyIter v) (PIE X pins σ tg R) X.xe s1) X.xe s
theorem qH{M:Model}{A:Around}{E:Value->Shared->Prop}{s:Shared}{tg:Expr}{b:Addr}{u:Value}{o:Obj}{n:String}{vs:Array Value}{Q:Unit->Shared->Prop}(c:s.heap.get? b=some o)(d:o.cls=.type n)(f:o.data=.fields vs)
  (e:["enumerate","zip","dict_itemiterator","dict_reverseitemiterator","odict_iterator","itertools.zip_longest","itertools.pairwise"].contains n=false) (a:Q () s):wpAny M A (letOwnedTupleGo tg (.ref b) u) Q E s:=by
 unfold letOwnedTupleGo
 cases tg <;> first
  | exact wpAny_pure a
  | (cases u <;> first
    | exact wpAny_pure a
    | (refine wpAny_bind (wpAny_load c ?_)
       rw[d,f];show wpAny M A (if (["enumerate","zip","dict_itemiterator","dict_reverseitemiterator","odict_iterator","itertools.zip_longest","itertools.pairwise"].contains n && vs[0]? == some (rawInt _))=true then _ else _) Q E s;rw[if_neg (by intro h;rw[e,Bool.false_and]at h;cases h)]
       exact wpAny_pure a))
def Itl(K:Frag)(a:Addr):It :=
 ⟨λi H=>∃ xs x,SqL K H a xs/\xs[i]? = some x,λi H x H'=>H'=H/\∀ xs,SqL K H a xs->xs[i]? = some x,λi H=>∃ xs,SqL K H a xs/\xs.length<=i⟩
def Itt(K:Frag)(a:Addr):It :=
 ⟨λi H=>∃ xs x,SqT K H a xs/\xs[i]? = some x,λi H x H'=>H'=H/\∀ xs,SqT K H a xs->xs[i]? = some x,λi H=>∃ xs,SqT K H a xs/\xs.length<=i⟩
def Itr(lo:Int)(n:Nat):It:=⟨λi _=>i<n,λi H x H'=>H'=H/\x=.int (lo+i),λi _=>n<=i⟩
theorem uu{P:Program}{w:World}{K:Frag}{tg:Expr}(a j:Addr):Turn P w K tg (Itl K a) [j] j (λi h=>h.IsListIter j a i) where
 mem:=by simp
 obj:=λi h f b l=>by
  have e:b=j:=by simpa using l
  subst e;obtain⟨o,e,c,d⟩:=f;exact⟨o,e,λv z=>by rw[d]at z;cases z⟩
 keep:=λi h A f k=>f.at λo e=>k j (by simp) o e
 item:=by
  intro X Q G B T i g s W H E I r f O;subst Q G B;obtain⟨xs,x,y,F⟩:=O;obtain⟨N,R,p,hz⟩:=I.list y;obtain⟨u,hu,ru⟩:=R.get F;obtain⟨M,L,Y,C,S,D⟩:=r j (by simp);refine wpAny_pyNext_list_item f p.isList (x:=u) (by simpa using hu) λA m sb=>?_
  have I1:Inv X g W H { s with heap:=A }:=I.turned (t':=s.toks) (λb o l e=>(sb.2 b l).trans e) M L C S D;obtain⟨o,e,c,d⟩:=id m;exact⟨u,rfl,qH (s:={ s with heap:=A }) e c d (by decide) ⟨x,H,I1,ru,⟨rfl,λys hy=>by rw[I.list_inj hy y];exact F⟩,m,λb l=>(r b l).1⟩⟩
 done:=by
  intro X Q G B T i g s W H E I r f O;subst Q G B;obtain⟨xs,y,F⟩:=O;obtain⟨N,R,p,hz⟩:=I.list y;obtain⟨M,L,Y,C,S,D⟩:=r j (by simp);have hl:=R.length
  exact wpAny_pyNext_list_end (I.ok.hd T) f p.isList (by simp;lia) λA Z=>⟨rfl,I.turned (t':=s.toks) (λb o l e=>Z b o l e) M L C S D⟩
 self:=λ_ _ _ _ _ f h=>wpAny_pyIter_listiter f h
theorem qW{P:Program}{w:World}{K:Frag}{tg:Expr}(a j:Addr):Turn P w K tg (Itt K a) [j] j (λi h=>h.IsTupleIter j a i) where
 mem:=by simp
 obj:=λi h f b m=>by
  have e:b=j:=by simpa using m
  subst e;obtain⟨o,e,c,d⟩:=f;exact⟨o,e,λv z=>by rw[d]at z;cases z⟩
 keep:=λi h B f k=>f.at λo e=>k j (by simp) o e
 item:=by
  intro X Q L C T i g s W H E I y f O;subst Q L C;obtain⟨xs,x,A,G⟩:=O;obtain⟨l,R,p,hz⟩:=I.tuple A;obtain⟨u,hu,ru⟩:=R.get G;obtain⟨N,M,Y,D,S,F⟩:=y j (by simp);refine wpAny_pyNext_tuple_item f (show s.heap.IsTuple a l.toArray from p) (x:=u) (by simpa using hu) λB r sb=>?_
  have I1:Inv X g W H { s with heap:=B }:=I.turned (t':=s.toks) (λb o m e=>(sb.2 b m).trans e) N M D S F;obtain⟨o,e,c,d⟩:=id r;exact⟨u,rfl,qH (s:={ s with heap:=B }) e c d (by decide) ⟨x,H,I1,ru,⟨rfl,λys hy=>by rw[I.tuple_inj hy A];exact G⟩,r,λb m=>(y b m).1⟩⟩
 done:=by
  intro X Q L C T i g s W H E I y f O;subst Q L C;obtain⟨xs,A,G⟩:=O;obtain⟨l,R,p,hz⟩:=I.tuple A;obtain⟨N,M,Y,D,S,F⟩:=y j (by simp);have hl:=R.length
  exact wpAny_pyNext_tuple_end (I.ok.hd T) f (show s.heap.IsTuple a l.toArray from p) (by simp;lia) λB Z=>⟨rfl,I.turned (t':=s.toks) (λb o m e=>Z b o m e) N M D S F⟩
 self:=λ_ _ _ _ _ f h=>wpAny_pyIter_tupleiter f h
theorem qX{P:Program}{w:World}{K:Frag}{tg:Expr}(c:Addr)(lo:Int)(n:Nat):Turn P w K tg (Itr lo n) [c] c (λi h=>IsRangeIter h c (lo+(i:Nat)*1) ((n:Int) - (i:Nat)) 1) where
 mem:=by simp
 obj:=λi h a b f=>by
  have e:b=c:=by simpa using f
  subst e
  exact⟨_,a,λv z=>by
   have R:Data.fields _=Data.cell v:=z
   cases R⟩
 keep:=λi h l a k=>k c (by simp) _ a
 item:=by
  intro X C x p m i d s G H E I j a B;subst C x p;obtain⟨A,y,L,r,D,u⟩:=j c (by simp);have W:=Walks.range (prog:=X.prog) (w:=X.w) (I.ok.hd m) c lo 1 n;refine W.item i s _ _ B a λv l F N g O=>?_
  obtain⟨t,rfl⟩:=N;have Q:Inv X d G H { s with heap:=l,toks:=F }:=I.turned (λb o f e=>O b o (by simpa using f) e) A y r D u;refine⟨_,rfl,qH (s:={ s with heap:=l,toks:=F }) (n := "range_iterator") g rfl rfl (by decide) ⟨.int (lo+i),H,Q,⟨t,?_⟩,⟨rfl,rfl⟩,g,λb f=>(j b f).1⟩⟩;rw[Int.mul_one]
 done:=by
  intro X C x p m i d s G H E I j a B;subst C x p;obtain⟨A,y,L,r,D,u⟩:=j c (by simp)
  exact wpAny_pyNext_range_end (I.ok.hd m) a (by have:n<=i:=B;lia) λl M=>⟨rfl,I.turned (t':=s.toks) (λb o f e=>M b o f e) A y r D u⟩
 self:=λ_ _ _ _ _ a h=>wpAny_pyIter_rangeiter a h
section
variable {X:Cx}{tg:Expr}
theorem we{c:List (Addr×Obj)}{f:St}{H:Hp}{s:Shared}{R:It->Hp->Prop}{E:Value->Shared->Prop}{lo a:Int}{t u v:Tok}{tk:Nat}(I:Inv X c f H s)(i:-(2 ^ 62)<=lo)(h2:lo<2 ^ 62)(h:-(2 ^ 62)<=a)(g:a<2 ^ 62)
  (q:R (Itr lo (a - lo).toNat) H):wpAny (model X.prog X.w) X.A (pyIter (.ref s.heap.objs.size)) (PIE X c f tg R) E { s with heap:=s.heap.push { cls:=.type "range",data:=.fields #[.int lo t,.int a u,.int 1 v] },toks:=tk }:=by
 refine wpAny_pyIter_range (IsRange.new ..) (small_one i h2 h g) ?_;have d:Inv X c f H { s with heap:=s.heap.push { cls:=.type "range",data:=.fields #[.int lo t,.int a u,.int 1 v] },toks:=tk }:=I.kept λb o e=>Heap.get?_push_of_some _ e
 refine⟨(s.heap.push { cls:=.type "range",data:=.fields #[.int lo t,.int a u,.int 1 v] }).objs.size,[(s.heap.push { cls:=.type "range",data:=.fields #[.int lo t,.int a u,.int 1 v] }).objs.size],_,_,H,rfl,
  d.kept (t':=tk) λb o e=>Heap.get?_push_of_some _ e,qX _ lo (a - lo).toNat,?_,λb hb=>?_,q⟩
 .have j:lo+((0:Nat):Int)*1=lo:=by simp
  have l:(((a - lo).toNat:Nat):Int) - ((0:Nat):Int)=Builtin.Range.rangeSize lo a 1:=by rw[rangeSize_one];split <;> lia
  show IsRangeIter _ _ (lo+((0:Nat):Int)*1) ((((a - lo).toNat:Nat):Int) - ((0:Nat):Int)) 1;rw[j,l];exact Heap.get?_push_size _ rfl
 .have e:b=(s.heap.push { cls:=.type "range",data:=.fields #[.int lo t,.int a u,.int 1 v] }).objs.size:=by simpa using hb
  subst e;exact d.fpOk (Nat.le_refl _) (d.hok.fresh (Nat.le_refl _))
def Bj(ta:TA):TI:=λσ H R=>ta σ H λvs H1=>∃ j:Int,vs=[.int j]/\-(2 ^ 62)<=j/\j<2 ^ 62/\R (Itr 0 j.toNat) H1
theorem eP{a:Expr}{f:TA}{p c:Pos}(g:Gl X "range")(m:X.mg "range" = none)(i:PA X [a] f)(l:starEach [a] X.env=[(false,eval a X.env)]:=by rfl):PI X tg (.Call (.Name "range" p) [a] [] c) (Bj f):=by
 intro b s v H R I h;refine Call_ (iF I g m boot_range (PyProof.Rows.callWith_type1 (thn (i c b s v H _ I h) λB A ⟨y,x,u,w,d⟩=>?_) l rfl));obtain⟨j,e,d,o,q⟩:=d;subst e;cases w with
 | cons r rr =>
  cases rr;obtain⟨t,rfl⟩:=r;exact call_range_1 (we u (by lia) (by lia) d o (by simpa using q))
def B8(wi:TI)(g:TG)(tb:TS):TS:=λD σ H=>wi σ H λJ H1=>∃ W:Nat->Nat->St->Hp->Prop,(∃ m,W 0 m σ H1)/\∀ i m σ H,W i m σ H ->
 (J.stop i H/\D.nx σ H)\/(J.go i H/\∃ N:St->Hp->Prop,(∀ σ' H',N σ' H'->∃ m',m'<m/\W (i+1) m' σ' H')/\∀ x H',J.yld i H x H'->g x σ H' λσ2 H2=>tb { D with nx:=N,ct:=N,bk:=D.nx } σ2 H2)
def mM(fp:List Addr)(h:Heap):List (Addr×Obj):=fp.filterMap λb=>(h.get? b).map λo=>(b,o)
theorem hZ{a:List Addr}{h:Heap}{b:Addr}{o:Obj}(c:b∈a)(e:h.get? b=some o):(b,o)∈mM a h:=List.mem_filterMap.mpr ⟨b,c,by rw[e];rfl⟩
theorem tB{a:List Addr}{h:Heap}{p:Addr×Obj}(d:p∈mM a h):p.1∈a/\h.get? p.1=some p.2:=by
 obtain⟨b,f,e⟩:=List.mem_filterMap.mp d;cases q:h.get? b with
 | none=>rw[q]at e;cases e
 | some o =>
  rw[q]at e;have c:(b,o)=p:=Option.some.inj e;subst c;exact⟨f,q⟩
theorem Inv.pinned{a:List (Addr×Obj)}{g:St}{H:Hp}{s:Shared}{c:List Addr}(I:Inv X a g H s)(l:∀ b∈c,FpOk X a H b)(m:∀ b∈c,∃ o,s.heap.get? b=some o/\∀ v,o.data≠.cell v):Inv X (a++mM c s.heap) g H s :=
 I.pins_of λp r=>(mem_append.mp r).elim (λz=>I.pin p (mem_append_right _ z)) λz=>by
  obtain⟨h,e⟩:=tB z;obtain⟨u,j,i,_⟩:=l p.1 h;obtain⟨o,f,d⟩:=m p.1 h;rw[e]at f;cases f;exact⟨e,u,j,i,d⟩
theorem Inv.unpinned{a pl:List (Addr×Obj)}{b:St}{H:Hp}{s:Shared}(I:Inv X (a++pl) b H s):Inv X a b H s:=I.pins_of λp c=>I.pin p (mem_append_right _ (mem_append_left _ c))
theorem fY{j:Expr}{body:List Stmt}{wi:TI}{g:TG}{tb:TS}{Z:Pos}(K:PassesOwn (model X.prog X.w) X.A X.env X.xe)(hc:X.calm=true)(hi:PI X tg j wi)(hg:PG X tg g)(B:PSs X body tb)
  (hs:∀ x,foldedSetIterable j X.env x=pure x:=by intro _;rfl):PS X (.For tg j body [] Z) (B8 wi g tb):=by
 intro a s σ H D I h;refine wpAny_For (thn (hi a s σ H _ I h) λv s1 h1=>thn h1 λitv s2 h2=>?_) hs;obtain⟨it,O,tn,J,H2,e,I2,T,Y,f2,W,⟨m0,w0⟩,F⟩:=h2;subst e
 have A:∀{H':Hp},(∀ b∈O,H' b=none)->∀ b∈O,FpOk X a H' b:=λhn b B=>⟨hn b B,(f2 b B).2⟩
 refine codeAny_forLoop_any (λn s'=>∃ i σ' H',Inv X a σ' H' s'/\tn i s'.heap/\(∀ b∈O,H' b=none)/\W i n σ' H') ?_ m0 ⟨0,σ,H2,I2,Y,λb B=>(f2 b B).1,w0⟩;rintro n s3 ⟨i,l,R,I3,P,L,w3⟩
 rcases F i n l R w3 with⟨G,qn⟩ | ⟨go,N,hN,Q⟩
 .refine wpAny_passesOwn K (thn (T.done X rfl rfl rfl hc i a s3 l R X.xe I3 (A L) P G) λr s4 ⟨hr,I4⟩=>?_)
  subst hr;exact wpAny_execs_nil ⟨l,R,I4,qn⟩
 .refine wpAny_passesOwn K (thn (T.item X rfl rfl rfl hc i a s3 l R X.xe I3 (A L) P go) λr s4 ⟨u,hr,h4⟩=>?_)
  subst hr;refine wpAny_passesOwn K (thn h4 λ_ s5 ⟨x,H5,I5,r5,y5,E,S⟩=>?_);have ad:=I5.pinned (A S) (T.obj _ _ E);refine wpAny_passesOwn K (thn (hg _ s5 l H5 x u _ ad r5 (Q x H5 y5)) λ_ s6 ⟨ab,H6,I6,q6⟩=>?_);refine wpAny_passesOwn K (thn (B _ s6 ab H6 _ I6 q6) λf s7 C=>?_)
  have y:∀{c:St}{w:Hp},Inv X (a++mM O s5.heap) c w s7->N c w->∃ m,m<n/\∃ i σ' H',Inv X a σ' H' s7/\tn i s7.heap/\(∀ b∈O,H' b=none)/\W i m σ' H':=λ{c w} p M=>by
   obtain⟨m',hm,w7⟩:=hN c w M;refine⟨m',hm,i+1,c,w,p.unpinned,T.keep _ _ _ E λb B o e=>(p.pin (b,o) (mem_append_right _ (mem_append_right _ (hZ B e)))).1,λb B=>?_,w7⟩;obtain⟨o,e,d⟩:=T.obj _ _ E b B;exact(p.pin (b,o) (mem_append_right _ (mem_append_right _ (hZ B e)))).2.1
  cases f with
  | next=>obtain⟨c,w,p,M⟩:=C;exact y p M
  | cont=>obtain⟨c,w,p,M⟩:=C;exact y p M
  | brk=>obtain⟨c,w,p,C⟩:=C;exact⟨c,w,p.unpinned,C⟩
  | ret v=>obtain⟨x7,c,w,p,r7,C⟩:=C;exact⟨x7,c,w,p.unpinned,r7,C⟩
end
theorem gL{K:Frag}{a:Addr}{xs:List V}{g:TG}{d:TS}{D:Ends}{b:St}{H:Hp}(c:Nat->St->Hp->Prop)(o:c 0 b H)(f:∀ i b H,i<=xs.length->c i b H->SqL K H a xs)
  (h:∀ i x b H,xs[i]? = some x->c i b H->g x b H λσ2 H2=>d { D with nx:=c (i+1),ct:=c (i+1),bk:=D.nx } σ2 H2) (l:∀ b H,c xs.length b H->D.nx b H) :
  ∃ W:Nat->Nat->St->Hp->Prop,(∃ m,W 0 m b H)/\∀ i m b H,W i m b H ->
   ((Itl K a).stop i H/\D.nx b H)\/((Itl K a).go i H/\∃ N:St->Hp->Prop,(∀ σ' H',N σ' H'->∃ m',m'<m/\W (i+1) m' σ' H')/\∀ x H',(Itl K a).yld i H x H'->g x b H' λσ2 H2=>d { D with nx:=N,ct:=N,bk:=D.nx } σ2 H2):=by
 refine⟨λi m b H=>m=xs.length - i/\i<=xs.length/\c i b H,⟨xs.length,by simp,Nat.zero_le _,o⟩,?_⟩;rintro i m b H ⟨rfl,r,p⟩;have q:=f i b H r p
 by_cases hlt:i<xs.length
 .refine .inr ⟨⟨xs,xs[i],q,by simp[hlt]⟩,c (i+1),λσ' H' j=>⟨xs.length - (i+1),by lia,rfl,hlt,j⟩,λx H' y=>?_⟩
  obtain⟨e,y⟩:=y;subst e;exact h i x b _ (y xs q) p
 .have e:i=xs.length:=by lia
  subst e;exact .inl ⟨⟨xs,q,Nat.le_refl _⟩,l b H p⟩
theorem kd{lo:Int}{n:Nat}{g:TG}{c:TS}{D:Ends}{a:St}{H:Hp}(b:Nat->St->Hp->Prop)(j:b 0 a H)
  (d:∀ i a H,i<n->b i a H->g (.int (lo+i)) a H λσ2 H2=>c { D with nx:=b (i+1),ct:=b (i+1),bk:=D.nx } σ2 H2) (h:∀ a H,b n a H->D.nx a H) :
  ∃ W:Nat->Nat->St->Hp->Prop,(∃ m,W 0 m a H)/\∀ i m a H,W i m a H ->
   ((Itr lo n).stop i H/\D.nx a H)\/((Itr lo n).go i H/\∃ N:St->Hp->Prop,(∀ σ' H',N σ' H'->∃ m',m'<m/\W (i+1) m' σ' H')/\∀ x H',(Itr lo n).yld i H x H'->g x a H' λσ2 H2=>c { D with nx:=N,ct:=N,bk:=D.nx } σ2 H2):=by
 refine⟨λi m a H=>m=n - i/\i<=n/\b i a H,⟨n,by simp,Nat.zero_le _,j⟩,?_⟩;rintro i m a H ⟨rfl,l,p⟩
 by_cases hlt:i<n
 .refine .inr ⟨hlt,b (i+1),λσ' H' f=>⟨n - (i+1),by lia,rfl,hlt,f⟩,λx H' y=>?_⟩
  obtain⟨e,y⟩:=y;subst e y;exact d i a _ hlt p
 .have e:i=n:=by lia
  subst e;exact .inl ⟨Nat.le_refl _,h a H p⟩
abbrev R2:=V->V->Hp->VK->Prop
def OpR(X:Cx)(f:Value->Value->Sem Value)(r:R2):Prop :=
 ∀(pins:List (Addr×Obj)) (s:Shared) (σ:St) (H:Hp) (x y:V) (v u:Value) (Q:VK),Inv X pins σ H s->RelV x v->RelV y u->r x y H Q ->
  wpAny (model X.prog X.w) X.A (f v u) (EP X pins σ Q) X.xe s
def UnR(X:Cx)(f:Value->Sem Value)(r:V->Hp->VK->Prop):Prop :=
 ∀(pins:List (Addr×Obj)) (s:Shared) (σ:St) (H:Hp) (x:V) (v:Value) (Q:VK),Inv X pins σ H s->RelV x v->r x H Q ->
  wpAny (model X.prog X.w) X.A (f v) (EP X pins σ Q) X.xe s
def CallR(X:Cx)(f:Value)(r:List V->Hp->VK->Prop):Prop :=
 ∀(pins:List (Addr×Obj)) (s:Shared) (σ:St) (H:Hp) (xs:List V) (us:List Value) (Q:VK),Inv X pins σ H s->Vals xs us->r xs H Q ->
  wpAny (model X.prog X.w) X.A (call f us) (EP X pins σ Q) X.xe s
def Bx(X:Cx)(r:V->Hp->(Bool->Hp->Prop)->Prop):Prop :=
 ∀(pins:List (Addr×Obj)) (s:Shared) (σ:St) (H:Hp) (x:V) (v:Value) (Q:Bool->Hp->Prop),Inv X pins σ H s->RelV x v->r x H Q ->
  wpAny (model X.prog X.w) X.A (truthy v) (TP X pins σ Q) X.xe s
def tOp(r:R2)(ta tb:TE):TE:=λσ H Q=>ta σ H λx H1=>tb σ H1 λy H2=>r x y H2 Q
def tUn(r:V->Hp->VK->Prop)(ta:TE):TE:=λσ H Q=>ta σ H λx H1=>r x H1 Q
def rI(C:Int->Int->Prop)(g:Int->Int->V):R2:=λx y H Q=>∃ i j,x=.int i/\y=.int j/\C i j/\Q (g i j) H
def rI0(g:Int->Int->V):R2:=λx y H Q=>∃ i j,x=.int i/\y=.int j/\Q (g i j) H
def rU(g:Int->V):V->Hp->VK->Prop:=λx H Q=>∃ i,x=.int i/\Q (g i) H
section
variable {X:Cx}{a b c:Expr}{ta tb tc:TE}{pos:Pos}
theorem y4(g:PE X a ta)(r:PE X b tb){c:List (Addr×Obj)}{s:Shared}{d:St}{H:Hp}{R:V->V->Hp->Prop}(I:Inv X c d H s)
  (h:ta d H λx H1=>tb d H1 λy H2=>R x y H2){Q:Value->Shared->Prop}{f:Value->Value->Sem Value}
  (i:∀ v u s2 x y H2,Inv X c d H2 s2->RelV x v->RelV y u->R x y H2->wpAny (model X.prog X.w) X.A (f v u) Q X.xe s2) :
  wpAny (model X.prog X.w) X.A (eval a X.env) (λv s₁=>wpAny (model X.prog X.w) X.A (eval b X.env) (λu s₂=>wpAny (model X.prog X.w) X.A (f v u) Q X.xe s₂) X.xe s₁) X.xe s:=by
 refine thn (g c s d H _ I h) λv m ⟨x,H1,o,w,p⟩=>?_
 refine thn (r c m d H1 _ o p) λu s2 ⟨y,H2,j,e,l⟩=>?_
 exact i v u s2 x y H2 j w e l
theorem aw{d:Operator}{r:R2}(l:OpR X (binaryOp d) r)(f:PE X a ta)(p:PE X b tb):PE X (.BinOp a d b pos) (tOp r ta tb):=by
 intro c s m H Q I h;exact wpAny_BinOp (y4 f p I h λv u g x y o j i e q=>l c g m o x y v u Q j i e q)
theorem yp{d:UnaryOp}{r:V->Hp->VK->Prop}(j:UnR X (unaryOp d) r)(e:PE X a ta):PE X (.UnaryOp d a pos) (tUn r ta):=by
 intro b s c H Q I h;exact UnaryOp_ (thn (e b s c H _ I h) λv i ⟨x,f,g,m,l⟩=>j b i c f x v Q g m l)
theorem opI{f:Value->Value->Sem Value}{C:Int->Int->Prop}{g:Int->Int->Int}
  (a:∀(i j:Int) (t u:Tok) (s:Shared) (Q:Value->Shared->Prop) (E:Value->Shared->Prop),C i j->Q (.int (g i j) s.toks) { s with toks:=s.toks+1 }->wpAny (model X.prog X.w) X.A (f (.int i t) (.int j u)) Q E s) :
  OpR X f (rI C λi j=>.int (g i j)):=by
 intro b s m H x y v u Q I d c h;obtain⟨i,j,rfl,rfl,l,q⟩:=h;obtain⟨t,rfl⟩:=d;obtain⟨e,rfl⟩:=c;exact a i j t e s _ _ l ⟨.int (g i j),H,I.tok _,⟨_,rfl⟩,q⟩
theorem Bc{f:Value->Value->Sem Value}{g:Int->Int->Int}
  (a:∀(i j:Int) (t u:Tok) (s:Shared) (Q:Value->Shared->Prop) (E:Value->Shared->Prop),Q (.int (g i j) s.toks) { s with toks:=s.toks+1 }->wpAny (model X.prog X.w) X.A (f (.int i t) (.int j u)) Q E s) :
  OpR X f (rI0 λi j=>.int (g i j)):=by
 intro b s l H x y v u Q I d c h;obtain⟨i,j,rfl,rfl,q⟩:=h;obtain⟨t,rfl⟩:=d;obtain⟨e,rfl⟩:=c;exact a i j t e s _ _ ⟨.int (g i j),H,I.tok _,⟨_,rfl⟩,q⟩
theorem wD{f:Value->Value->Sem Value}{g:Int->Int->Bool}
  (a:∀(i j:Int) (t u:Tok) (s:Shared) (Q:Value->Shared->Prop) (E:Value->Shared->Prop),Q (.bool (g i j)) s->wpAny (model X.prog X.w) X.A (f (.int i t) (.int j u)) Q E s) :
  OpR X f (rI0 λi j=>.bl (g i j)):=by
 intro b s l H x y v u Q I d c h;obtain⟨i,j,rfl,rfl,q⟩:=h;obtain⟨t,rfl⟩:=d;obtain⟨e,rfl⟩:=c;exact a i j t e s _ _ ⟨.bl (g i j),H,I,rfl,q⟩
def By(i j:Int):Prop:=0<j/\j<1073741824
def zX(i j:Int):Prop:=0<=j/\j<=1000000/\i.natAbs<2 ^ 64
def CMul(i j:Int):Prop:=(-(2 ^ 64)<i/\i<2 ^ 64)\/(-(2 ^ 64)<j/\j<2 ^ 64)
theorem CMul.ok{i j:Int}(h:CMul i j):IntMulOk i j:=by
 rcases h with⟨b,a⟩ | ⟨b,a⟩
 .exact .of_left (intBits_le_64 b a)
 .exact .of_right (intBits_le_64 b a)
theorem rB(k:Nat):(0:Int)<=2 ^ k:=by
 rw[two_pow_cast];exact Int.natCast_nonneg _
theorem op_add:OpR X (binaryOp .Add) (rI0 λi j=>.int (i+j)):=Bc λ_ _ _ _ _ _ _ q=>add_int q
theorem op_sub:OpR X (binaryOp .Sub) (rI0 λi j=>.int (i - j)):=Bc λ_ _ _ _ _ _ _ q=>sub_int q
theorem op_mod:OpR X (binaryOp .Mod) (rI (λ_ j=>0<j) λi j=>.int (i % j)):=opI λi j _ _ _ _ _ a q=>by
 have b:(0:Int)<j:=a;exact mod_int' (by lia) (by rw[Int.fmod_eq_emod_of_nonneg i (by lia)];exact q)
theorem op_pow:OpR X (binaryOp .Pow) (rI zX λi j=>.int (i ^ j.toNat)):=opI λ_ _ _ _ _ _ _ a q=>pow_int_small a.1 a.2.1 a.2.2 q
theorem op_shr:OpR X (binaryOp .RShift) (rI (λ_ j=>0<=j) λi j=>.int (i/2 ^ j.toNat)):=opI λi j _ _ _ _ _ a q =>
 rshift_int a (by rw[Int.fdiv_eq_ediv_of_nonneg i (rB _)];exact q)
theorem unI{f:Value->Sem Value}{g:Int->Int}
  (a:∀(i:Int) (t:Tok) (s:Shared) (Q:Value->Shared->Prop) (E:Value->Shared->Prop),Q (.int (g i) s.toks) { s with toks:=s.toks+1 }->wpAny (model X.prog X.w) X.A (f (.int i t)) Q E s) :
  UnR X f (rU λi=>.int (g i)):=by
 intro b s d H x v Q I c h;obtain⟨i,rfl,q⟩:=h;obtain⟨t,rfl⟩:=c;exact a i t s _ _ ⟨.int (g i),H,I.tok _,⟨_,rfl⟩,q⟩
theorem yX:UnR X (unaryOp .USub) (rU λi=>.int (-i)):=unI λ_ _ _ _ _ q=>neg_int q
end
def AG:V->V->Bool
 | .non,.non=>true | .non,.int _=>true | .int _,.non=>true | .non,.bl _=>true | .bl _,.non=>true | .non,.str _=>true | .str _,.non=>true
 | .int _,.int _=>true | .bl _,.bl _=>true | .str _,.str _=>true | .byt _,.byt _=>true
 | .int _,.str _=>true | .str _,.int _=>true | .bl _,.str _=>true | .str _,.bl _=>true
 | _,_=>false
def rEq:R2:=λx y H Q=>AG x y=true/\Q (.bl (decide (x=y))) H
def rNe:R2:=λx y H Q=>AG x y=true/\Q (.bl (!decide (x=y))) H
theorem lG{i j:Int}:decide (V.int i=V.int j)=(i == j):=by
 rw[Bool.eq_iff_iff];simp
theorem pd{i j:Bool}:decide (V.bl i=V.bl j)=(i == j):=by
 rw[Bool.eq_iff_iff];simp
theorem lM{i j:Str}:decide (V.str i=V.str j)=(i == j):=by
 rw[Bool.eq_iff_iff];simp
theorem sO{i j:Array UInt8}:decide (V.byt i=V.byt j)=(i.toList == j.toList):=by
 rw[Bool.eq_iff_iff];cases i;cases j;simp
section
variable {X:Cx}{a b c:Expr}{ta tb tc:TE}{pos:Pos}
theorem aV{a:List (Addr×Obj)}{c:St}{H:Hp}{s:Shared}{Q:VK}{k b:Bool}(I:Inv X a c H s)(q:Q (.bl k) H)(e:k=b):EP X a c Q (.bool b) s:=by
 subst e;exact⟨.bl k,H,I,rfl,q⟩
theorem op_eq:OpR X (compareOp .Eq) rEq:=by
 intro e s f H x y v u Q I d a h;obtain⟨c,q⟩:=h;cases x with
 | non =>
  cases d;cases y with
  | non=>cases a;exact PySem.EqNone.eq_none_none (aV I q (by simp))
  | bl j=>cases a;exact PySem.EqNone.eq_none_bool (aV I q (by simp))
  | int j=>obtain⟨b,rfl⟩:=a;exact PySem.EqNone.eq_none_int (aV I q (by simp))
  | str j=>obtain⟨b,rfl⟩:=a;exact PySem.EqNone.eq_none_str (aV I q (by simp))
  | _=>exact absurd (show false=true from c) Bool.false_ne_true
 | bl i =>
  cases d;cases y with
  | non=>cases a;exact PySem.EqNone.eq_bool_none (aV I q (by simp))
  | bl j=>cases a;exact eq_bool (aV I q pd)
  | str j=>obtain⟨b,rfl⟩:=a;exact PySem.EqMixed.eq_bool_str (aV I q (by simp))
  | _=>exact absurd (show false=true from c) Bool.false_ne_true
 | int i =>
  obtain⟨t,rfl⟩:=d;cases y with
  | non=>cases a;exact PySem.EqNone.eq_int_none (aV I q (by simp))
  | int j=>obtain⟨b,rfl⟩:=a;exact eq_int (aV I q lG)
  | str j=>obtain⟨b,rfl⟩:=a;exact PySem.EqMixed.eq_int_str (aV I q (by simp))
  | _=>exact absurd (show false=true from c) Bool.false_ne_true
 | str i =>
  obtain⟨t,rfl⟩:=d;cases y with
  | non=>cases a;exact PySem.EqNone.eq_str_none (aV I q (by simp))
  | bl j=>cases a;exact PySem.EqMixed.eq_str_bool (aV I q (by simp))
  | int j=>obtain⟨b,rfl⟩:=a;exact PySem.EqMixed.eq_str_int (aV I q (by simp))
  | str j=>obtain⟨b,rfl⟩:=a;exact eq_str (aV I q lM)
  | _=>exact absurd (show false=true from c) Bool.false_ne_true
 | byt i =>
  obtain⟨t,rfl⟩:=d;cases y with
  | byt j=>obtain⟨b,rfl⟩:=a;exact PySem.W.eq_bytes (aV I q sO)
  | _=>exact absurd (show false=true from c) Bool.false_ne_true
 | _=>cases y <;> exact absurd (show false=true from c) Bool.false_ne_true
theorem op_ne:OpR X (compareOp .NotEq) rNe:=by
 intro e s f H x y v u Q I d a h;obtain⟨c,q⟩:=h;cases x with
 | non =>
  cases d;cases y with
  | non=>cases a;exact PySem.EqNone.ne_none_none (aV I q (by simp))
  | bl j=>cases a;exact PySem.EqNone.ne_none_bool (aV I q (by simp))
  | int j=>obtain⟨b,rfl⟩:=a;exact PySem.EqNone.ne_none_int (aV I q (by simp))
  | str j=>obtain⟨b,rfl⟩:=a;exact PySem.EqNone.ne_none_str (aV I q (by simp))
  | _=>exact absurd (show false=true from c) Bool.false_ne_true
 | bl i =>
  cases d;cases y with
  | non=>cases a;exact PySem.EqNone.ne_bool_none (aV I q (by simp))
  | bl j=>cases a;exact ne_bool (aV I q (congrArg not pd))
  | str j=>obtain⟨b,rfl⟩:=a;exact PySem.EqMixed.ne_bool_str (aV I q (by simp))
  | _=>exact absurd (show false=true from c) Bool.false_ne_true
 | int i =>
  obtain⟨t,rfl⟩:=d;cases y with
  | non=>cases a;exact PySem.EqNone.ne_int_none (aV I q (by simp))
  | int j=>obtain⟨b,rfl⟩:=a;exact ne_int (aV I q (congrArg not lG))
  | str j=>obtain⟨b,rfl⟩:=a;exact PySem.EqMixed.ne_int_str (aV I q (by simp))
  | _=>exact absurd (show false=true from c) Bool.false_ne_true
 | str i =>
  obtain⟨t,rfl⟩:=d;cases y with
  | non=>cases a;exact PySem.EqNone.ne_str_none (aV I q (by simp))
  | bl j=>cases a;exact PySem.EqMixed.ne_str_bool (aV I q (by simp))
  | int j=>obtain⟨b,rfl⟩:=a;exact PySem.EqMixed.ne_str_int (aV I q (by simp))
  | str j=>obtain⟨b,rfl⟩:=a;exact ne_str (aV I q (congrArg not lM))
  | _=>exact absurd (show false=true from c) Bool.false_ne_true
 | byt i =>
  obtain⟨t,rfl⟩:=d;cases y with
  | byt j=>obtain⟨b,rfl⟩:=a;exact PySem.W.ne_bytes (aV I q (congrArg not sO))
  | _=>exact absurd (show false=true from c) Bool.false_ne_true
 | _=>cases y <;> exact absurd (show false=true from c) Bool.false_ne_true
theorem op_lt:OpR X (compareOp .Lt) (rI0 λi j=>.bl (decide (i<j))):=wD λ_ _ _ _ _ _ _ q=>lt_int q
theorem op_le:OpR X (compareOp .LtE) (rI0 λi j=>.bl (decide (i<=j))):=wD λ_ _ _ _ _ _ _ q=>le_int q
theorem op_gt:OpR X (compareOp .Gt) (rI0 λi j=>.bl (decide (j<i))):=wD λ_ _ _ _ _ _ _ q=>gt_int q
theorem op_ge:OpR X (compareOp .GtE) (rI0 λi j=>.bl (decide (j<=i))):=wD λ_ _ _ _ _ _ _ q=>ge_int q
theorem tT:OpR X (compareOp .Lt) (λx y H Q=>∃ i j,x=.str i/\y=.str j/\Q (.bl (decide (i.cps.toList<j.cps.toList))) H):=by
 intro a s e H x y v u Q I c b h;obtain⟨i,j,rfl,rfl,q⟩:=h;obtain⟨t,rfl⟩:=c;obtain⟨d,rfl⟩:=b;exact lt_str (aV I q rfl)
theorem op_notN:OpR X (compareOp .IsNot) (λx y H Q=>y=.non/\Q (.bl (!decide (x=.non))) H):=by
 intro b s d H x y v u Q I a c h;obtain⟨rfl,q⟩:=h;cases c;refine isnot_none_gen (aV I q ?_)
 cases x <;> first
  | (cases a;rfl)
  | (obtain⟨t,rfl⟩:=a;rfl)
theorem OpR.or{f:Value->Value->Sem Value}{r c:R2}(h:OpR X f r)(h':OpR X f c):OpR X f (λx y H Q=>r x y H Q\/c x y H Q):=by
 intro a s e H x y v u Q I d b q
 rcases q with q | q
 .exact h a s e H x y v u Q I d b q
 .exact h' a s e H x y v u Q I d b q
theorem aG(b:Expr){a:CmpOp}(h:a≠.In:=by decide)(h2:a≠.NotIn:=by decide):behindInMarks a b=false:=by
 have d:(a == CmpOp.In)=false:=by cases a <;> first | rfl | exact absurd rfl h
 have c:(a == CmpOp.NotIn)=false:=by cases a <;> first | rfl | exact absurd rfl h2
 cases b <;> simp[behindInMarks,d,c]
theorem lQ{d:CmpOp}{r:R2}(m:OpR X (compareOp d) r)(f:PE X a ta)(w:PE X b tb)(j:behindInMarks d b=false):PE X (.Compare a [d] [b] pos) (tOp r ta tb):=by
 intro c s o H Q I h;exact wpAny_Compare1 (y4 f w I h λv u g x y p l i e q=>m c g o p x y v u Q l i e q) j
def AD(K:Frag)(x:V)(H:Hp)(k:Bool):Prop :=
 match x with
 | .non=>k=false
 | .bl b=>k=b
 | .int i=>k=(i != 0)
 | .str y=>y.length<=sizeLine/\k=((y.length:Int) != 0)
 | .byt y=>y.size<=sizeLine/\k=((y.size:Int) != 0)
 | .ref p=>(∃ xs,SqL K H p xs/\k = !xs.isEmpty)\/(∃ xs,SqT K H p xs/\k = !xs.isEmpty)\/∃ kvs,H p=some (.dK kvs)/\k = !kvs.isEmpty
 | _=>False
theorem rT{b:Type}{a:List (b×V)}{vs:List (b×Value)}(r:KV a vs):(!vs.isEmpty) = !a.isEmpty:=by
 cases r <;> rfl
theorem me{xs:List V}{its:List Value}(r:Vals xs its):(!its.toArray.isEmpty) = !xs.isEmpty:=by
 cases r <;> simp
theorem ku:(sizeLine:Nat)<2 ^ 63:=by rw[sizeLine_eq];decide
theorem zU:Bx X (λx H Q=>∃ k,AD X.K x H k/\Q k H):=by
 intro u s C H x v Q I g h;obtain⟨k,e,q⟩:=h;have A:=ku;have B:sizeLine=16777216:=sizeLine_eq;cases x with
 | non =>
  cases g;have a:k=false:=e;subst a;exact truthy_none ⟨H,I,q⟩
 | bl b =>
  cases g;have a:k=b:=e;subst a;exact wpAny_truthy_bool ⟨H,I,q⟩
 | int i =>
  obtain⟨t,rfl⟩:=g;have a:k=(i != 0):=e;subst a;exact PySem.P.truthy_int ⟨H,I,q⟩
 | str y =>
  obtain⟨t,rfl⟩:=g;obtain⟨hy,a⟩:y.length<=sizeLine/\k=((y.length:Int) != 0):=e;subst a;exact PySem.P.truthy_str (by lia) ⟨H,I.tok _,q⟩
 | byt y =>
  obtain⟨t,rfl⟩:=g;obtain⟨hy,a⟩:y.size<=sizeLine/\k=((y.size:Int) != 0):=e;subst a;exact PySem.W.truthy_bytes (by lia) ⟨H,I.tok _,q⟩
 | ref p =>
  cases g;have a:(∃ f,SqL X.K H p f/\k = !f.isEmpty)\/(∃ f,SqT X.K H p f/\k = !f.isEmpty)\/∃ c,H p=some (.dK c)/\k = !c.isEmpty:=e
  rcases a with⟨f,j,a⟩ | ⟨f,j,a⟩ | ⟨c,j,a⟩
  .subst a
   obtain⟨o,r,l,w⟩:=I.list j;have d:=r.length;exact wpAny_truthy_list l.isList (by simp only[size_toArray];lia) ⟨H,I.tok _,by rw[me r];exact q⟩
  .subst a
   obtain⟨o,r,l,w⟩:=I.tuple j;have d:=r.length;exact truthy_tuple l (by simp only[size_toArray];lia) ⟨H,I.tok _,by rw[me r];exact q⟩
  .subst a
   obtain⟨w,hS,vs,r,m⟩:c.length<=sizeLine/\(p == sysModules)=false/\∃ vs,KV c vs/\s.heap.DictOf (bu X.prog X.w) p vs:=I.hok p _ j;have d:c.length=vs.length:=Paired.length r;exact wpAny_truthy_dict hS m (by lia) ⟨H,I.tok _,by rw[rT r];exact q⟩
 | _=>exact(show False from e).elim
theorem fV(c:PE X a ta)(g:∀ whole,isTrue a X.env whole=(do let v <- whole;standAt a.pos;holding [v] (truthy v))) :
  PT X a (λσ H Q=>ta σ H λx H'=>∃ k,AD X.K x H' k/\Q k H'):=by
 intro b s σ H Q I h;exact isTrue_plain (thn (c b s σ H _ I h) λv f ⟨x,d,e,j,i⟩=>zU b f σ d x v Q e j i) (g _)
theorem rh:OpR X (binaryOp .Add) (λx y H Q=>∃ i j,x=.str i/\y=.str j/\i.length+j.length<=sizeLine/\Q (.str (i++j)) H):=by
 intro a s f H x y v u Q I c b h;obtain⟨i,j,rfl,rfl,e,q⟩:=h;obtain⟨t,rfl⟩:=c;obtain⟨d,rfl⟩:=b;exact add_str (λd g=>⟨.str (i++j),H,I.tok _,⟨_,rfl⟩,q⟩) e
theorem ij{x:V}{us:List Value}(r:Vals [x] us):∃ u,us=[u]/\RelV x u:=by
 cases r with
 | cons r1 r2=>cases r2;exact⟨_,rfl,r1⟩
theorem mt{x y:V}{us:List Value}(r:Vals [x,y] us):∃ u w',us=[u,w']/\RelV x u/\RelV y w':=by
 cases r with
 | cons r1 r2 =>
  cases r2 with
  | cons r3 r4=>cases r4;exact⟨_,_,rfl,r1,r3⟩
theorem vq:CallR X (.builtin "abs") (λxs H Q=>∃ i,xs=[.int i]/\Q (.int (if i<0 then -i else i)) H):=by
 intro a s b H xs d Q I r h;obtain⟨i,rfl,q⟩:=h;obtain⟨u,rfl,t,rfl⟩:=ij r
 exact call_abs_int λu c=>⟨.int (if i<0 then -i else i),H,I.tok _,⟨_,rfl⟩,q⟩
inductive rTwo(f:Int->Int->Int)(xs:List V)(H:Hp)(Q:VK):Prop
 | mk(i j:Int)(h0:xs=[.int i,.int j])(h1:Q (.int (f i j)) H):rTwo f xs H Q
theorem um(b:X.calm=true):CallR X (.builtin "max") (rTwo λi j=>if j > i then j else i):=by
 intro a s e H c m Q I r h;obtain⟨i,j,rfl,q⟩:=h;obtain⟨u,g,rfl,⟨t,rfl⟩,⟨d,rfl⟩⟩:=mt r
 refine max_two_ints (I.ok.hd b) λl f k=>⟨_,H,I.kept k,?_,q⟩
 by_cases hj:j > i
 .rw[if_pos hj,if_pos hj];exact⟨_,rfl⟩
 .rw[if_neg hj,if_neg hj];exact⟨_,rfl⟩
theorem jc(b:X.calm=true):CallR X (.builtin "min") (rTwo λi j=>if j<i then j else i):=by
 intro a s e H c m Q I r h;obtain⟨i,j,rfl,q⟩:=h;obtain⟨u,g,rfl,⟨t,rfl⟩,⟨d,rfl⟩⟩:=mt r
 refine min_two_ints (I.ok.hd b) λl f k=>⟨_,H,I.kept k,?_,q⟩
 by_cases hj:j<i
 .rw[if_pos hj,if_pos hj];exact⟨_,rfl⟩
 .rw[if_neg hj,if_neg hj];exact⟨_,rfl⟩
end
structure ObjM(h:Heap)(x dx C:Addr)(mA:Str->Option Value):Prop where
 obj:h.get? x=some (instObj C dx)
 ns:h.Ns1 dx mA
 ne:dx≠x
theorem tq{h:Heap}{f:Addr}{c:Str->Option Value}(n:h.Ns1 f c):∃ od,h.get? f=some od/\∀ name,lookIn name od=some (c name):=by
 obtain⟨o,d,r,j,p,l,_,g⟩:=n;refine⟨o,j,λname=>?_⟩;have e:=g name;unfold nsFind findBy at e;rw[<- Array.find?_toList]at e;unfold lookIn;rw[p];dsimp only
 split
 .rename_i y q
  rw[q]at e;exact congrArg some e
 .rename_i q
  rw[q]at e
  have a:d.toList.any (·.refKey)=false:=by
   rw[List.any_eq_false];intro y m;obtain⟨z,t,b⟩:=l y (Array.mem_toList_iff.mp m);simp[DictEntry.refKey,b]
  have i:¬d.toList.any (·.refKey)=true:=by rw[a];exact Bool.false_ne_true
  rw[if_neg i];exact congrArg some e
theorem ObjM.look{h:Heap}{x a C:Addr}{b:Str->Option Value}(I:ObjM h x a C b):∃ od,InstAt h x (instObj C a) C (some od)/\∀ name,lookIn name od=some (b name) :=
 let ⟨od,ho,hl⟩:=tq I.ns
 ⟨od,⟨I.obj,rfl,rfl,ho⟩,hl⟩
section
variable {prog:Program}{w:World}{A:Around}{E:Value->Shared->Prop}{s:Shared}{K:Frag}{x dx C f:Addr}{mA:Str->Option Value}{name:Str}{v:Value}
theorem xO{a:Bool}{Q:Value->Shared->Prop}(X:K.In s.heap)(I:ObjM s.heap x dx C mA)(c:plainGet K C name=true)(f:hasDictIn K C=true)
  (e:findIn K (.ref C) name=some none) (g:mA name=some v) (b:handedIn v=true) (h:Q v { s with toks:=s.toks+1 }) :
  wpAny (model prog w) A (getAttr (.ref x) name a) Q E s:=by
 obtain⟨i,J,d⟩:=I.look;exact PySem.W.get_value X J (plainGet_of c).1 (PySem.W.findObj_own f e rfl (by rw[d,g])) b h
theorem vw{pl:Sem Bool}{Q:Value×List Value->Shared->Prop}(X:K.In s.heap)(I:ObjM s.heap x dx C mA)(a:plainGet K C name=true)
  (d:findIn K (.ref C) name=some (some (.ref f))) (e:isFn K (.ref f)=true) (g:mA name=none) (h:Q (.ref f,[.ref x]) s) :
  wpAny (model prog w) A (getMethod (.ref x) name pl) Q E s:=by
 obtain⟨b,J,c⟩:=I.look;exact PySem.W.method_fn X J (plainGet_of a).1 (plainGet_of a).2 d (beq_iff_eq.mp e) (by show(lookIn name b).map (·.isSome)=some false;rw[c,g];rfl) h
theorem wT{ns:List Str}{Q:Unit->Shared->Prop}(X:K.In s.heap)(I:ObjM s.heap x dx C mA)
  (D:findIn K (.ref C) "__setattr__" = some (some (.builtin "object.__setattr__"))) (B:plainOver K C=true) (m:takerIn K C name=some none) (p:hasDictIn K C=true)
  (o:PySem.Within mA ns) (hsz:ns.length<=sizeLine)
  (h:∀ h',ObjM h' x dx C (λy=>if y=name then some v else mA y)->Heap.SameBut dx s.heap h'->Q () { s with heap:=h',toks:=s.toks+2 }) :
  wpAny (model prog w) A (setAttr (.ref x) name v) Q E s:=by
 obtain⟨G,J,M⟩:=I.look;refine PySem.W.set_plain X J D (PySem.W.osa_open (s:={ s with toks:=s.toks+1 }) (r:=none) X J B m λb=>?_);obtain⟨H,l,i⟩:=any_some p;have F:s.heap.get? x=some ⟨.ref C,some dx,.plain,#[]⟩:=I.obj;refine wpAny_bind (wpAny_pure (wpAny_bind (wpAny_bind (wpAny_loadPart F (wpAny_bind (Looks.here (s:={ s with toks:=s.toks+1 }) (PySem.W.looks_clsIn X l) ?_))))));rw[i];refine wpAny_pure (a:=some dx) (wpAny_bind (wpAny_pure (wpAny_bind ?_)));refine wpAny_nsSet1 (s:={ s with toks:=s.toks+1 }) I.ns λh' c d=>?_
 obtain⟨L,u,j,e,g,f⟩:=c.count (PySem.Within.cons name v o);refine wpAny_bind (wpAny_lookBehind e (by rw[g];exact pastItsLine_dict (Nat.le_trans f (by rw[length_cons];lia))) ?_);exact wpAny_pure (h _ ⟨(d.2 _ (Ne.symm I.ne)).trans I.obj,c,I.ne⟩ d)
theorem vR{R:Result->Shared->Prop}{vs:List Value}{b:List (Str×Value)}(X:K.In s.heap)(e:makesIn K C=true)
  (i:findIn K (.ref C) "__init__" = some (some (.ref f))) (c:typeIn K (.ref f)=some (.type "function"))
  (h:codeAny (model prog w) (A.under (.builtin "type.__call__" ⟨.ref C::vs,b⟩)) (.call (.ref f) ⟨.ref (s.heap.objs.size+1)::vs,b⟩) (PySem.W.InitBack (s.heap.objs.size+1) R)
   { s with heap:=(s.heap.push emptyDict).push (instObj C s.heap.objs.size) }) :
  codeAny (model prog w) A (.call (.ref C) ⟨vs,b⟩) R s:=by
 obtain⟨j,g,d,t,l⟩:=s;exact PySem.W.make_core (PySem.W.makes_of X e) (looks_findIn X i) (λa=>PySem.W.bind_fn X a c) (.inl rfl) h
end
def jk(f:Str)(v:V):List (Str×V)->List (Str×V)
 | []=>[(f,v)]
 | (g,x)::r=>if g=f then (g,v)::r else (g,x)::jk f v r
theorem kL(f g:Str)(v:V):∀ fs:List (Str×V),(jk f v fs).lookup g=if g=f then some v else fs.lookup g
 | []=>by
  show List.lookup g [(f,v)]=_
  by_cases h:g=f
  .have a:(g == f)=true:=beq_iff_eq.mpr h
   simp only[List.lookup,a,if_pos h]
  .have a:(g == f)=false:=beq_eq_false_iff_ne.mpr h
   simp only[List.lookup,a,if_neg h]
 | (k,x)::r=>by
  have b:=kL f g v r;rw[show jk f v ((k,x)::r)=(if k=f then (k,v)::r else (k,x)::jk f v r) from rfl]
  by_cases hk:k=f
  .rw[if_pos hk]
   by_cases h:g=k
   .have a:(g == k)=true:=beq_iff_eq.mpr h
    simp only[List.lookup,a,if_pos (h.trans hk)]
   .have a:(g == k)=false:=beq_eq_false_iff_ne.mpr h
    simp only[List.lookup,a,if_neg (λe:g=f=>h (e.trans hk.symm))]
  .rw[if_neg hk]
   by_cases h:g=k
   .have a:(g == k)=true:=beq_iff_eq.mpr h
    simp only[List.lookup,a,if_neg (λe:g=f=>hk (h.symm.trans e))]
   .have a:(g == k)=false:=beq_eq_false_iff_ne.mpr h
    simp only[List.lookup,a];exact b
theorem kC(f:Str)(v:V):∀ fs:List (Str×V),f∈(jk f v fs).map (·.1)/\∀ g,g∈fs.map (·.1)->g∈(jk f v fs).map (·.1)
 | []=>⟨by simp[jk],λg h=>by simp at h⟩
 | (k,x)::r=>by
  obtain⟨b,a⟩:=kC f v r;rw[show jk f v ((k,x)::r)=(if k=f then (k,v)::r else (k,x)::jk f v r) from rfl]
  by_cases hk:k=f
  .rw[if_pos hk]
   subst hk;exact⟨by simp,λg h=>by simpa using h⟩
  .rw[if_neg hk]
   refine⟨?_,λg h=>?_⟩
   .rw[map_cons]
    exact mem_cons_of_mem _ b
   .rw[map_cons]at h ⊢
    rcases mem_cons.mp h with e | e
    .exact mem_cons.mpr (.inl e)
    .exact mem_cons_of_mem _ (a g e)
theorem kN(f:Str)(v:V):∀ fs:List (Str×V),(jk f v fs).length<=fs.length+1
 | []=>by simp[jk]
 | (k,x)::r=>by
  have a:=kN f v r;rw[show jk f v ((k,x)::r)=(if k=f then (k,v)::r else (k,x)::jk f v r) from rfl]
  by_cases hk:k=f
  .rw[if_pos hk,length_cons,length_cons];lia
  .rw[if_neg hk,length_cons,length_cons];lia
theorem RelO.some_of{v:V}{o:Option Value}(r:RelO (some v) o):∃ u,o=some u/\RelV v u:=by
 cases o with
 | none=>exact(show False from r).elim
 | some u=>exact⟨u,rfl,r⟩
theorem RelO.none_of{o:Option Value}(r:RelO none o):o=none:=by
 cases o with
 | none=>rfl
 | some u=>exact(show False from r).elim
theorem tw{v:V}{u:Value}(r:RelV v u):handedIn u=true:=by
 cases v with
 | non=>cases(show u=Value.none from r);rfl
 | bl b=>cases(show u=Value.bool b from r);rfl
 | int i=>obtain⟨t,e⟩:=(show ∃ t,u=Value.int i t from r);cases e;rfl
 | str x=>obtain⟨t,e⟩:=(show ∃ t,u=Value.str x t from r);cases e;rfl
 | byt b=>obtain⟨t,e⟩:=(show ∃ t,u=Value.bytes b t from r);cases e;rfl
 | flt b=>obtain⟨t,e⟩:=(show ∃ t,u=Value.float b t from r);cases e;rfl
 | ref a=>cases(show u=Value.ref a from r);rfl
 | ty n=>cases(show u=Value.type n from r);rfl
section
variable {P:Program}{w:World}{H H':Hp}{h h':Heap}{a C dx:Addr}{fs fs':List (Str×V)}
theorem lJ(b:HOk P w H h)(e:H a=some (.ins C dx fs)):∃ mA,ObjM h a dx C mA/\(∀ f,RelO (fs.lookup f) (mA f))/\PySem.Within mA (fs.map (·.1))/\fs.length<=1000/\H dx=some (.own a):=by
 obtain⟨d,z,g,c,mA,n,r,q⟩:=(show ObjOk P w H h a (.ins C dx fs) from b a _ e)
 exact⟨mA,⟨c,n,g⟩,r,q,z,d⟩
end
structure Cls(K:Frag)(C:Addr):Prop where
 pg:plainGet K C Str.empty=true
 hd:hasDictIn K C=true
 po:plainOver K C=true
 sa:findIn K (.ref C) "__setattr__" = some (some (.builtin "object.__setattr__"))
theorem Cls.get{K:Frag}{C:Addr}(c:Cls K C)(f:Str):plainGet K C f=true:=c.pg
def NoAttr(K:Frag)(C:Addr)(f:Str):Prop:=findIn K (.ref C) f=some none
theorem NoAttr.taker{K:Frag}{C:Addr}{f:Str}(n:NoAttr K C f):takerIn K C f=some none:=by
 unfold takerIn;rw[show findIn K (.ref C) f=some none from n];rfl
structure Meth(K:Frag)(C:Addr)(m:Str)(f:Addr):Prop where
 at_:findIn K (.ref C) m=some (some (.ref f))
 fn:isFn K (.ref f)=true
 kp:keepIn K (.ref f)=true
section
variable {X:Cx}{pins:List (Addr×Obj)}{σ:St}{H:Hp}{s:Shared}{a C dx:Addr}{fs:List (Str×V)}{f:Str}{v:V}{A:Around}{E:Value->Shared->Prop}
theorem qY{b:Bool}{Q:Value->Shared->Prop}(I:Inv X pins σ H s)(e:H a=some (.ins C dx fs))(c:Cls X.K C)(n:NoAttr X.K C f)(l:fs.lookup f=some v)
  (h:∀ u s',Inv X pins σ H s'->RelV v u->Q u s'):wpAny (model X.prog X.w) A (getAttr (.ref a) f b) Q E s:=by
 obtain⟨i,O,r,_,_,_⟩:=lJ I.hok e;obtain⟨u,g,d⟩:=RelO.some_of (v:=v) (o:=i f) (by rw[<- l];exact r f);exact xO I.kIn O (c.get f) c.hd n g (tw d) (h u _ (I.tok _) d)
theorem jI{m:Str}{g:Addr}{pl:Sem Bool}{Q:Value×List Value->Shared->Prop}(I:Inv X pins σ H s)(e:H a=some (.ins C dx fs))(c:Cls X.K C)(k:Meth X.K C m g)(l:fs.lookup m=none)
  (h:Q (.ref g,[.ref a]) s):wpAny (model X.prog X.w) A (getMethod (.ref a) m pl) Q E s:=by
 obtain⟨d,O,r,_,_,_⟩:=lJ I.hok e;have b:d m=none:=RelO.none_of (by rw[<- l];exact r m);exact vw I.kIn O (c.get m) k.at_ k.fn b h
theorem qZ{y:V}{u:Value}{Q:Unit->Shared->Prop}(I:Inv X pins σ H s)(e:H a=some (.ins C dx fs))(c:Cls X.K C)(n:NoAttr X.K C f)(D:fs.length<1000)(m:RelV y u)
  (h:∀ s',Inv X pins σ (upd H a (.ins C dx (jk f y fs))) s'->Q () s'):wpAny (model X.prog X.w) A (setAttr (.ref a) f u) Q E s:=by
 obtain⟨i,O,r,j,_,l⟩:=lJ I.hok e;have v:(fs.map (·.1)).length<=sizeLine:=by rw[length_map,sizeLine_eq];lia
 refine wT I.kIn O c.sa c.po n.taker c.hd j v λB d p=>h _ ?_
 have w:∃ o,B.get? dx=some o:=let ⟨o,_,_,e',_⟩:=d.ns;⟨o,e'⟩;refine I.write (x:=a) (e:=dx) (by rw[e];exact True.intro) (.inr l) (λb q hb z=>(p.2 b hb).trans z) w ?_;refine⟨by rw[ar O.ne];exact l,?_,O.ne,d.obj,_,d.ns,λg=>?_,λg hg=>?_⟩
 .have:=kN f y fs;lia
 .show RelO ((jk f y fs).lookup g) (if g=f then some u else i g)
  rw[kL]
  by_cases q:g=f
  .rw[if_pos q,if_pos q];exact m
  .rw[if_neg q,if_neg q];exact r g
 .by_cases q:g=f
  .rw[q];exact(kC f y fs).1
  .refine(kC f y fs).2 g (j g λz=>hg ?_)
   show(if g=f then some u else i g)=none;rw[if_neg q];exact z
theorem Inv.made(I:Inv X pins σ H s):Inv X pins σ (upd (upd H s.heap.objs.size (.own (s.heap.objs.size+1))) (s.heap.objs.size+1) (.ins C s.heap.objs.size []))
  { s with heap:=(s.heap.push emptyDict).push (instObj C s.heap.objs.size) }:=by
 have d:(s.heap.push emptyDict).get? s.heap.objs.size=some emptyDict:=Heap.get?_push_size s.heap rfl
 have h:((s.heap.push emptyDict).push (instObj C s.heap.objs.size)).get? (s.heap.objs.size+1)=some (instObj C s.heap.objs.size):=by
  have:=Heap.get?_push_size (s.heap.push emptyDict) (o:=instObj C s.heap.objs.size) rfl;rwa [Heap.size_push]at this
 have g:(s.heap.push emptyDict).Ns s.heap.objs.size (λ_=>none):=⟨emptyDict,#[],_,d,rfl,(λe he=>absurd he (by simp)),λ_=>rfl⟩
 have f:=I.laid (a:=s.heap.objs.size) (o:=.own (s.heap.objs.size+1)) (h':=s.heap.push emptyDict) (t':=s.toks) (λb u q=>Heap.get?_push_of_some _ q) (Nat.le_refl _) ⟨_,d⟩;refine f.laid (a:=s.heap.objs.size+1) (o:=.ins C s.heap.objs.size []) (t':=s.toks) (λb u q=>Heap.get?_push_of_some _ q) (Nat.le_of_eq (Heap.size_push _ _)) ?_;have c:s.heap.objs.size≠s.heap.objs.size+1:=Nat.ne_of_lt (Nat.lt_succ_self _);refine⟨by rw[ar c,ae],Nat.zero_le _,c,h,λ_=>none,(Heap.Ns1.of_empty g).at λo q=>Heap.get?_push_of_some _ q,λ_=>True.intro,λy hy=>absurd rfl hy⟩
theorem xm{prog:Program}{w:World}{env:Env}{e:Expr}{f:Str}{a:Pos}{s:Shared}{Q:Value->Shared->Prop}(b:attributeBase e f env (eval e env)=eval e env)
  (h:wpAny (model prog w) A (eval e env) (λo s₁=>wpAny (model prog w) A (getAttr o f true) Q E s₁) E s):wpAny (model prog w) A (eval (.Attribute e f a) env) Q E s :=
 Attribute_any_ h (by rw[arm_eval_Attribute,b])
end
def AT(K:Frag)(ta:TE)(f:Str):TE:=λσ H Q=>ta σ H λx H1=>∃ a C dx fs v,x=.ref a/\H1 a=some (.ins C dx fs)/\Cls K C/\NoAttr K C f/\fs.lookup f=some v/\Q v H1
def BQ(K:Frag)(ta tv:TE)(f:Str):TS:=λD σ H=>tv σ H λy H1=>ta σ H1 λx H2=>∃ a C dx fs,x=.ref a/\H2 a=some (.ins C dx fs)/\Cls K C/\NoAttr K C f/\fs.length<1000 /\
 D.nx σ (upd H2 a (.ins C dx (jk f y fs)))
section
variable {X:Cx}{o e value:Expr}{f:Str}{pos pos' tpos:Pos}{ta tv:TE}
theorem aA(w:PE X e ta)(y:attributeBase e f X.env (eval e X.env)=eval e X.env):PE X (.Attribute e f pos) (AT X.K ta f):=by
 intro b s r H Q I h;refine xm y (thn (w b s r H _ I h) λu E ⟨x,g,m,i,a,C,D,A,v,d,o,c,n,l,q⟩=>?_);subst d;obtain rfl:u=Value.ref a:=i
 exact qY m o c n l λF B j p=>⟨v,g,j,p,q⟩
theorem g9(g:PE X o ta)(v:PE X value tv)(j:swapsWith value (some (.Attribute o f pos')) pos.line X.env=pure false):PS X (.Assign [.Attribute o f pos'] value pos) (BQ X.K ta tv f):=by
 intro b s d H D I h;refine plainObj_wpAny_Assign_Attribute (thn (v b s d H _ I h) λu r ⟨y,i,m,e,q⟩=>thn (g b r d i _ m q) λov s2 ⟨x,H2,I2,rx,a,C,dx,fs,ex,ea,c,n,l,q2⟩=>?_) j;subst ex;obtain rfl:ov=Value.ref a:=rx
 exact qZ I2 ea c n l e λw p=>⟨d,_,p,q2⟩
end
section
variable {X:Cx}{pins:List (Addr×Obj)}{σ:St}{H:Hp}{s:Shared}{A:Around}{E:Value->Shared->Prop}{Q:Value->Shared->Prop}{c:Value}{b:Bool}
inductive TyOf(K:Frag)(H:Hp):V->Value->Prop where
 | non:TyOf K H .non (.type "NoneType")
 | bl (x:Bool):TyOf K H (.bl x) (.type "bool")
 | int (i:Int):TyOf K H (.int i) (.type "int")
 | str (x:Str):TyOf K H (.str x) (.type "str")
 | flt (x:UInt64):TyOf K H (.flt x) (.type "float")
 | lst {a:Addr}{xs:List V}(e:H a=some (.lst xs)):TyOf K H (.ref a) (.type "list")
 | frz {a:Addr}{o:Obj}{xs:List V}(e:H a=some (.frz o (.lst xs))):TyOf K H (.ref a) (.type "list")
 | tup {a:Addr}{xs:List V}(e:H a=some (.tup xs)):TyOf K H (.ref a) (.type "tuple")
 | dK {a:Addr}{kvs:List (Key×V)}(e:H a=some (.dK kvs)):TyOf K H (.ref a) (.type "dict")
 | dT {a:Addr}{kvs:List (List Key×V)}(e:H a=some (.dT kvs)):TyOf K H (.ref a) (.type "dict")
 | ins {a C dx:Addr}{fs:List (Str×V)}(e:H a=some (.ins C dx fs)) (cl:Cls K C) (ha:findIn K (.ref C) "__class__" = some (some (.builtin "object.__class__")))
   (hn:specialIn K (.builtin "object.__class__") "__get__" = some (some (.builtin "getset_descriptor.__get__"))) (htk:takesIn K (.builtin "object.__class__")=some true)
   (hm:mroIn K C (.type "object")=some true):TyOf K H (.ref a) (.ref C)
end
structure Room(k:Nat)(A:Around):Prop where
 hd:A.handled=none
 dp:A.depth+3*k+5<recursionLimit
 un:A.units+16*k+200<cLine
theorem Room.mono{j k:Nat}{A:Around}(r:Room k A)(h:j<=k):Room j A:=⟨r.hd,by have:=r.dp;lia,by have:=r.un;lia⟩
theorem Room.deeper{k:Nat}{A:Around}(r:Room (k+1) A)(env:Env):Room k (A.deeper env) :=
 ⟨r.hd,by have:=r.dp;show A.depth+1+3*k+5<_;lia,by have:=r.un;show A.units+3+16*k+200<_;lia⟩
theorem rC{A:Around}{C:Addr}{us:List Value}{a:List (Str×Value)}:(A.under (.builtin "type.__call__" ⟨.ref C::us,a⟩)).depth=A.depth+1:=by
 first | rfl | simp[Around.under,Code.weight,Code.isCreation,Code.isGuard,Code.isCaller,Code.frames,Code.isFrame,guardIds]
theorem rF{A:Around}{C:Addr}{us:List Value}{a:List (Str×Value)}:(A.under (.builtin "type.__call__" ⟨.ref C::us,a⟩)).units=A.units+1:=by
 first | rfl | simp[Around.under,Code.cUnits,Code.frames,Code.isFrame]
theorem Room.make{k:Nat}{A:Around}(r:Room (k+1) A)(C:Addr)(us:List Value)(a:List (Str×Value)):Room k (A.under (.builtin "type.__call__" ⟨.ref C::us,a⟩)) :=
 ⟨r.hd,by have:=r.dp;rw[rC];lia,by have:=r.un;rw[rF];lia⟩
theorem Room.depth{k:Nat}{A:Around}(r:Room k A):A.depth<recursionLimit:=by have:=r.dp;lia
theorem Room.units{k:Nat}{A:Around}(r:Room k A):A.units+64<cLine:=by have:=r.un;lia
def yJ:TA:=λ_ H Q=>Q [] H
def An(ta:TE)(tr:TA):TA:=λσ H Q=>ta σ H λx H1=>tr σ H1 λxs H2=>Q (x::xs) H2
section
variable {X:Cx}{e:Expr}{es:List Expr}{te:TE}{t:TA}{pos:Pos}
theorem ac:PA X [] yJ:=λ_ _ _ _ H Q I h=>Calls.spliced_nil ⟨[],H,I,.nil,h⟩
theorem aa(g:PE X e te)(r:PA X es t)(j:starEach (e::es) X.env=(false,eval e X.env)::starEach es X.env:=by rfl):PA X (e::es) (An te t):=by
 intro b a s c H Q I h;rw[j];show wpAny _ _ (spliced ((false,eval e X.env)::backTo b (starEach es X.env))) _ _ s;refine Calls.spliced_cons (thn (g a s c H _ I h) λu o ⟨x,i,p,y,w⟩=>?_)
 exact thn (r b a o c i _ p w) λB A ⟨f,v,l,d,m⟩=>⟨x::f,v,l,.cons y d,m⟩
def Cl(t:TA):TE:=λσ H Q=>t σ H λxs H1=>xs.length<=sizeLine/\∀ p,H1 p=none->Q (.ref p) (upd H1 p (.tup xs))
def Ca(t:TA):TE:=λσ H Q=>t σ H λxs H1=>xs.length<=sizeLine/\∀ p,H1 p=none->Q (.ref p) (upd H1 p (.lst xs))
theorem aE{x1}(h:PA X es t):PE X (.Tuple es x1 pos) (Cl t):=by
 intro a s j H Q I l;refine wpAny_Tuple_spliced (thn (h pos a s j H _ I l) λm c ⟨g,d,f,r,z,q⟩=>⟨by rw[<- r.length];exact z,?_⟩);have i:d c.heap.objs.size=none:=f.hok.fresh (Nat.le_refl _);refine⟨.ref c.heap.objs.size,upd d c.heap.objs.size (.tup g),f.laid (t':=c.toks) (λb u e=>Heap.get?_push_of_some _ e) (Nat.le_refl _) ?_,rfl,q _ i⟩;exact⟨z,m,r,⟨_,Heap.get?_push_size _ rfl,rfl,_,rfl⟩⟩
theorem aN(h:PA X es t):PE X (.List es pos) (Ca t):=by
 intro a s j H Q I l;refine wpAny_List_spliced (thn (h pos a s j H _ I l) λm c ⟨g,d,f,r,z,q⟩=>⟨by rw[<- r.length];exact z,?_⟩);have i:d c.heap.objs.size=none:=f.hok.fresh (Nat.le_refl _);refine⟨.ref c.heap.objs.size,upd d c.heap.objs.size (.lst g),f.laid (t':=c.toks) (λb u e=>Heap.get?_push_of_some _ e) (Nat.le_refl _) ?_,rfl,q _ i⟩;exact⟨z,m,0,r,Heap.get?_push_size _ rfl⟩
end
abbrev Sp:=List V->Hp->VK->XK->Prop
abbrev CXT:=List Env->Hp->Shared->XK->Value->Shared->Prop
structure Env0(P:Program)(w:World)(K:Frag)(mg:Str->Option Value)(base:Heap)(A:Around)(outer:List Env)(s:Shared)(H:Hp):Prop where
 frames:A.frames=some outer
 mod:Mod K mg base
 bs:∀ b o,base.get? b=some o->s.heap.get? b=some o/\H b=none
 bsz:base.objs.size<=s.heap.objs.size
 funs:s.heap.FunFrames base outer
 frf:∀ b∈frs outer,H b=none
 hok:HOk P w H s.heap
 bare:AllBare s.gens
def CE(outer:List Env)(P:Program)(w:World)(H:Hp)(s:Shared)(Q:VK)(u:Value)(s':Shared):Prop :=
 ∃ v H',s'.os=s.os/\AllBare s'.gens/\Un (frs outer) [] H H' s.heap s'.heap/\HOk P w H' s'.heap/\RelV v u/\Q v H'
def CR(CX:CXT)(outer:List Env)(P:Program)(w:World)(H:Hp)(s:Shared)(Q:VK)(E:XK)(r:Result)(s':Shared):Prop :=
 match r with
 | .ok (.ret u)=>CE outer P w H s Q u s'
 | .ok _=>False
 | .error e=>CX outer H s E e s'
structure FnOk(P:Program)(w:World)(K:Frag)(mg:Str->Option Value)(base:Heap)(CX:CXT)(k:Nat)(f:Addr)(fd:FuncData)(ps:List Str)(sp:Sp):Prop where
 len:∀ vs H Q E,sp vs H Q E->vs.length=ps.length
 run:∀(A:Around) (outer:List Env) (s:Shared) (H:Hp) (args:Args) (us:List Value) (vs:List V) (Q:VK) (E:XK),Room k A->Env0 P w K mg base A outer s H->BindsTo s fd args (ps.zip us)->Vals vs us->sp vs H Q E ->
  codeAny (model P w) A (.call (.ref f) args) (CR CX outer P w H s Q E) s
theorem FnOk.mono{P:Program}{w:World}{K:Frag}{mg:Str->Option Value}{a:Heap}{CX:CXT}{j k:Nat}{f:Addr}{d:FuncData}{ps:List Str}{sp:Sp}(F:FnOk P w K mg a CX j f d ps sp)(h:j<=k) :
  FnOk P w K mg a CX k f d ps sp:=⟨F.len,λA b s H c i e Q E g=>F.run A b s H c i e Q E (g.mono h)⟩
theorem Env0.make{P:Program}{w:World}{K:Frag}{mg:Str->Option Value}{b:Heap}{A:Around}{a:List Env}{s:Shared}{H:Hp}(e:Env0 P w K mg b A a s H)(C:Addr)(us:List Value)(c:List (Str×Value)) :
  Env0 P w K mg b (A.under (.builtin "type.__call__" ⟨.ref C::us,c⟩)) a s H:=⟨by first | exact e.frames | (simpa[Around.under,Code.envs,Code.isFrame,pushEnvs] using e.frames),e.mod,e.bs,e.bsz,e.funs,e.frf,e.hok,e.bare⟩
section
variable {X:Cx}{pins:List (Addr×Obj)}{σ:St}{H:Hp}{s s':Shared}
theorem Inv.env0(I:Inv X pins σ H s):Env0 X.prog X.w X.K X.mg X.base X.A X.stack s H :=
 ⟨I.ok.frames,I.ok.mod,I.bs,Nat.le_trans I.ok.bsz I.sz,I.stack,I.stkFree,I.hok,I.bare⟩
theorem Inv.after{Q:VK}{u:Value}(I:Inv X pins σ H s)(h:CE X.stack X.prog X.w H s Q u s'):EP X pins σ Q u s':=by
 obtain⟨v,i,l,a,f,e,r,q⟩:=h;obtain⟨j,g,d,t,c⟩:=s';obtain rfl:c=s.os:=l;exact⟨v,i,I.call (h':=j) (g':=g) (d':=d) (t':=t) (ch:=[]) f e a (λb z=>absurd z (by simp)),r,q⟩
end
def Bi(sp:Sp)(dvs:List V)(E:XK)(t:TA):TE:=λσ H Q=>t σ H λvs H1=>sp (vs++dvs) H1 Q E
def ya(C:Addr)(m:Str)(sp:Sp)(dvs:List V)(E:XK)(ta:TE)(t:TA):TE:=λσ H Q=>ta σ H λx H1=>∃ a dx fs,x=.ref a/\H1 a=some (.ins C dx fs)/\fs.lookup m=none /\
 t σ H1 λvs H2=>sp (x::(vs++dvs)) H2 Q E
def Aw(C:Addr)(sp:Sp)(dvs:List V)(E:XK)(t:TA):TE:=λσ H Q=>t σ H λvs H1=>∀ x dx,H1 x=none->H1 dx=none->dx≠x ->
 sp (.ref x::(vs++dvs)) (upd (upd H1 dx (.own x)) x (.ins C dx [])) (λv H2=>v=.non/\Q (.ref x) H2) E
def Binds(K:Frag)(fd:FuncData)(ps:List Str)(ds:List Value):Prop :=
 ∀(s:Shared) (us:List Value),K.In s.heap->(us++ds).length=ps.length->BindsTo s fd ⟨us,[]⟩ (ps.zip (us++ds))
theorem Binds.all{K:Frag}{b:FuncData}{ps:List Str}(h:∀ us:List Value,us.length=ps.length->bindArgs b ⟨us,[]⟩=pure (ps.zip us)):Binds K b ps []:=λs us _ a=>by
 rw[append_nil]at a ⊢;exact .of_eq (h us a)
def iB(CX:CXT)(X:Cx)(E:XK):Prop:=∀(pins:List (Addr×Obj)) (σ:St) (H:Hp) (s:Shared) (e:Value) (s':Shared),Inv X pins σ H s->CX X.stack H s E e s'->X.xe e s'
section
variable {X:Cx}{CX:CXT}{k:Nat}{f C:Addr}{fd:FuncData}{ps:List Str}{sp:Sp}{dvs:List V}{ds:List Value}{E:XK}{x m:Str}{p pos apos:Pos}{e o:Expr}{es:List Expr}{ta:TE}{t:TA}
theorem re{a:List (Addr×Obj)}{c:St}{H:Hp}{s:Shared}{Q:VK}{us:List Value}{vs:List V}(F:FnOk X.prog X.w X.K X.mg X.base CX k f fd ps sp)(j:Room k X.A)(o:Binds X.K fd ps ds)(m:Vals dvs ds)(l:iB CX X E)
  (I:Inv X a c H s) (r:Vals vs us) (h:sp (vs++dvs) H Q E):wpAny (model X.prog X.w) X.A (call (.ref f) us) (EP X a c Q) X.xe s:=by
 have d:Vals (vs++dvs) (us++ds):=r.append m;have g:(us++ds).length=ps.length:=by rw[<- d.length];exact F.len _ _ _ _ h
 refine wpAny_call (codeAny_mono (F.run X.A X.stack s H ⟨us,[]⟩ (us++ds) (vs++dvs) Q E j I.env0 (o s us I.kIn g) d h) λr i b=>?_);cases r with
 | error e=>exact l a c H s e i I b
 | ok fl =>
  cases fl with
  | ret u=>exact I.after b
  | next=>exact False.elim b
  | brk=>exact False.elim b
  | cont=>exact False.elim b
theorem ag(F:FnOk X.prog X.w X.K X.mg X.base CX k f fd ps sp)(o:Room k X.A)(g:Gl X x)(j:X.mg x=some (.ref f))(l:keepIn X.K (.ref f)=true)(y:Binds X.K fd ps ds)(w:Vals dvs ds)(v:iB CX X E)
  (i:PA X (e::es) t) (c:(x == ("__debug__" : Str))=false:=by decide) (u:starEach (e::es) X.env=(false,eval e X.env)::starEach es X.env:=by rfl) (b:(backTo pos (starEach es X.env)).any (·.1)=false:=by rfl) :
  PE X (.Call (.Name x p) (e::es) [] pos) (Bi sp dvs E t):=by
 intro a s m H Q I h;refine wpAny_Call_Name_kw (i7 I g j ?_ c);refine callWith_K (h₀:=X.base) I.ok.mod.kin l (thn (i pos a s m H _ I h) λC D ⟨B,A,d,r,q⟩=>⟨d.kIn,?_⟩) u b;exact re F o y w v d r q
theorem al{pl:Sem Bool}(N:PE X o ta)(c:Cls X.K C)(i:Meth X.K C m f)(F:FnOk X.prog X.w X.K X.mg X.base CX k f fd ps sp)(O:Room k X.A)(R:Binds X.K fd ps ds)(A:Vals dvs ds)(P:iB CX X E)(L:PA X (e::es) t)
  (d:starEach (e::es) X.env=(false,eval e X.env)::starEach es X.env:=by rfl) (g:(backTo pos (starEach es X.env)).any (·.1)=false:=by rfl)
  (w:eval (.Call (.Attribute o m apos) (e::es) [] pos) X.env=(do
   let ov <- eval o X.env
   standAt apos.atName
   let (f,first) <- holding [ov] (getMethod ov m pl)
   callWith pos f first (backTo pos (starEach (e::es) X.env)) (backToKw pos (keywordEach [] X.env))):=by rfl) :
  PE X (.Call (.Attribute o m apos) (e::es) [] pos) (ya C m sp dvs E ta t):=by
 intro b s v H Q I h;refine methodCall_KW (pl:=pl) (thn (N b s v H _ I h) λu B ⟨x,G,p,M,a,S,W,D,K,l,q⟩=>?_) w;subst D;obtain rfl:u=Value.ref a:=M;refine jI p K c i l ?_;refine callWith_K (first:=[.ref a]) (h₀:=X.base) I.ok.mod.kin i.kp (thn (L pos b B v G _ p q) λus Y ⟨vs,T,j,r,y⟩=>⟨j.kIn,?_⟩) d g;exact re (us:=.ref a::us) (vs:=.ref a::vs) F O R A P j (.cons rfl r) y
theorem fQ{pl:Sem Bool}(r:PE X o ta)(c:Cls X.K C)(e:Meth X.K C m f)(F:FnOk X.prog X.w X.K X.mg X.base CX k f fd ps sp)(v:Room k X.A)(B:Binds X.K fd ps ds)(A:Vals dvs ds)(y:iB CX X E)
  (w:eval (.Call (.Attribute o m apos) [] [] pos) X.env=(do
   let ov <- eval o X.env
   standAt apos.atName
   let (f,first) <- holding [ov] (getMethod ov m pl)
   callWith pos f first (backTo pos (starEach [] X.env)) (backToKw pos (keywordEach [] X.env))):=by rfl) :
  PE X (.Call (.Attribute o m apos) [] [] pos) (ya C m sp dvs E ta yJ):=by
 intro b s p H Q I h;refine methodCall_KW (pl:=pl) (thn (r b s p H _ I h) λu L ⟨x,G,d,i,a,K,D,g,j,l,q⟩=>?_) w;subst g;obtain rfl:u=Value.ref a:=i;refine jI d j c e l ?_;exact callWith_K0 (first:=[.ref a]) d.kIn e.kp (re (us:=[.ref a]) (vs:=[.ref a]) F v B A y d (.cons rfl .nil) q)
structure Mk(K:Frag)(C f:Addr):Prop where
 makes:makesIn K C=true
 init:findIn K (.ref C) "__init__" = some (some (.ref f))
 fn:isFn K (.ref f)=true
 kp:keepIn K (.ref C)=true
theorem uM{b:List (Addr×Obj)}{d:St}{H:Hp}{s:Shared}{Q:VK}{us:List Value}{vs:List V}(M:Mk X.K C f)(F:FnOk X.prog X.w X.K X.mg X.base CX k f fd ps sp)(w:Room (k+1) X.A)(D:Binds X.K fd ps ds)(A:Vals dvs ds)
  (B:iB CX X E) (I:Inv X b d H s) (r:Vals vs us)
  (h:∀ x dx,H x=none->H dx=none->dx≠x->sp (.ref x::(vs++dvs)) (upd (upd H dx (.own x)) x (.ins C dx [])) (λv H2=>v=.non/\Q (.ref x) H2) E) :
  wpAny (model X.prog X.w) X.A (call (.ref C) us) (EP X b d Q) X.xe s:=by
 have g:=h (s.heap.objs.size+1) s.heap.objs.size (I.hok.fresh (Nat.le_succ _)) (I.hok.fresh (Nat.le_refl _)) (Nat.ne_of_lt (Nat.lt_succ_self _));have c:=Inv.made (C:=C) I;have i:Vals (V.ref (s.heap.objs.size+1)::(vs++dvs)) (Value.ref (s.heap.objs.size+1)::(us++ds)):=.cons rfl (r.append A)
 have l:(Value.ref (s.heap.objs.size+1)::us++ds).length=ps.length:=by
  have e:=i.length;rw[F.len _ _ _ _ g]at e;exact e.symm
 refine wpAny_call (vR (f:=f) I.kIn M.makes M.init (beq_iff_eq.mp M.fn) (codeAny_mono (F.run _ X.stack _ _ ⟨Value.ref (s.heap.objs.size+1)::us,[]⟩ (Value.ref (s.heap.objs.size+1)::(us++ds)) _ _ E (w.make C us [])
  (c.env0.make C us []) (D _ (Value.ref (s.heap.objs.size+1)::us) c.kIn l) i g) λr m a=>?_))
 cases r with
 | error e=>exact B b d _ _ e m c a
 | ok fl =>
  cases fl with
  | ret u =>
   obtain⟨v,o,y,p,j,G⟩:=c.after a;subst j;exact⟨p,⟨V.ref (s.heap.objs.size+1),o,y,rfl,G⟩⟩
  | next=>exact False.elim a
  | brk=>exact False.elim a
  | cont=>exact False.elim a
theorem bS(M:Mk X.K C f)(F:FnOk X.prog X.w X.K X.mg X.base CX k f fd ps sp)(m:Room (k+1) X.A)(g:Gl X x)(j:X.mg x=some (.ref C))(w:Binds X.K fd ps ds)(v:Vals dvs ds)(u:iB CX X E)
  (i:PA X (e::es) t) (c:(x == ("__debug__" : Str))=false:=by decide) (o:starEach (e::es) X.env=(false,eval e X.env)::starEach es X.env:=by rfl) (b:(backTo pos (starEach es X.env)).any (·.1)=false:=by rfl) :
  PE X (.Call (.Name x p) (e::es) [] pos) (Aw C sp dvs E t):=by
 intro a s l H Q I h;refine wpAny_Call_Name_kw (i7 I g j ?_ c);refine callWith_K (h₀:=X.base) I.ok.mod.kin M.kp (thn (i pos a s l H _ I h) λD B ⟨A,y,d,r,q⟩=>⟨d.kIn,?_⟩) o b;exact uM M F m w v u d r q
end
section
variable {X:Cx}{CX:CXT}{k:Nat}{f C:Addr}{fd:FuncData}{ps ks:List Str}{sp:Sp}{E:XK}{x m:Str}{p pos apos kpos:Pos}{e o:Expr}{es:List Expr}{kws:List Keyword}{te ta:TE}{t tk:TA}{nm:Option Str}
variable {g:List Value->List Value->List Value}{gV:List V->List V->List V}
end
structure FnScope(N P:List Str)(sc:Scope):Prop where
 kind:sc.kind=.function
 co:sc.isCoroutine=false
 gen:sc.isGenerator=false
 nd:N.Nodup
 pre:N.take P.length=P
 par:∀ x ∈ P,sc.names.lookup x = some .local\/sc.names.lookup x = some .cell
 nofree:∀ y∈sc.names,y.2≠.free
theorem oz{a:Str->Option NameKind}{x:Str}:∀{binds:List (Str×Value)}{m:Str->Option Value},(∀ v,(x,v) ∉ binds)->bindL a binds m x=m x
 | [],_,_=>rfl
 | (n,v)::r,m,h=>by
  unfold bindL;rw[oz λw b=>h w (mem_cons_of_mem _ b)]
  split
  .have:x≠n:=by rintro rfl;exact h v mem_cons_self
   simp[this]
  .rfl
theorem og{a:Str->Option NameKind}{x:Str}:∀{binds:List (Str×Value)}{m:Str->Option Value},(∀ v,(x,v) ∉ binds)->bindC a binds m x=m x
 | [],_,_=>rfl
 | (n,v)::r,m,h=>by
  unfold bindC;rw[og λw b=>h w (mem_cons_of_mem _ b)]
  split
  .rfl
  .have:x≠n:=by rintro rfl;exact h v mem_cons_self
   simp[this]
theorem oa{a:Str->Option NameKind}{x:Str}{v:Value}:∀{P:List Str}{vs:List Value}{i:Nat}{m:Str->Option Value},P.Nodup->P[i]? = some x->vs[i]? = some v->a x = some .local ->
  bindL a (P.zip vs) m x=some v
 | [],_,_,_,_,h,_,_=>by simp at h
 | _::_,[],_,_,_,_,h,_=>by simp at h
 | p::P,w::vs,0,m,nd,h1,h2,hk=>by
  simp at h1 h2;subst h1;subst h2;show bindL a ((p,w)::P.zip vs) m p=_;unfold bindL;rw[oz λv b=>(nodup_cons.mp nd).1 (of_mem_zip b).1,if_pos hk];simp
 | p::P,w::vs,i+1,m,nd,h1,h2,hk=>by
  show bindL a ((p,w)::P.zip vs) m x=_;unfold bindL;exact oa (i:=i) (nodup_cons.mp nd).2 (by simpa using h1) (by simpa using h2) hk
theorem nZ{a:Str->Option NameKind}{x:Str}{v:Value}:∀{P:List Str}{vs:List Value}{i:Nat}{m:Str->Option Value},P.Nodup->P[i]? = some x->vs[i]? = some v->a x≠some .local ->
  bindC a (P.zip vs) m x=some v
 | [],_,_,_,_,h,_,_=>by simp at h
 | _::_,[],_,_,_,_,h,_=>by simp at h
 | p::P,w::vs,0,m,nd,h1,h2,hk=>by
  simp at h1 h2;subst h1;subst h2;show bindC a ((p,w)::P.zip vs) m p=_;unfold bindC;rw[og λv b=>(nodup_cons.mp nd).1 (of_mem_zip b).1,if_neg hk];simp
 | p::P,w::vs,i+1,m,nd,h1,h2,hk=>by
  show bindC a ((p,w)::P.zip vs) m x=_;unfold bindC;exact nZ (i:=i) (nodup_cons.mp nd).2 (by simpa using h1) (by simpa using h2) hk
def start(N:List Str)(vs:List V):St:=vs.map some++List.replicate (N.length - vs.length) none
def gF(CX:CXT)(P:Program)(w:World)(K:Frag)(mg:Str->Option Value)(base:Heap)(N:List Str)(qual:Str)(scope:Scope)(f:Addr)(cd:Value)(A:Around)(outer:List Env)(s:Shared)(H:Hp)(E:XK):Cx where
 prog:=P
 w:=w
 K:=K
 mg:=mg
 base:=base
 A:=A.deeper (envOfC qual scope s.heap.objs.size f cd)
 N:=N
 s₀:=s
 H₀:=H
 env:=envOfC qual scope s.heap.objs.size f cd
 outer:=outer
 stack:=envOfC qual scope s.heap.objs.size f cd::outer
 ex:=[]
 calm:=true
 fn:=λ_=>true
 pn:=[]
 xe:=λe s'=>wpAny (model P w) (A.deeper (envOfC qual scope s.heap.objs.size f cd)) (leaving (envOfC qual scope s.heap.objs.size f cd) e) (λ_ s''=>CX outer H s E e s'') (λe' s''=>CX outer H s E e' s'') s'
theorem qB{a:Scope}{n:Nat}{x:Str}(h:a.names.lookup x=some .cell):∃ c,(cellsFrom n a.names []).lookup x=some c:=by
 have q:=cellsFrom_some a.names n [] (.inl h);exact Option.isSome_iff_exists.mp q
theorem nW{CX:CXT}{P:Program}{w:World}{K:Frag}{mg:Str->Option Value}{l:Heap}{N ps:List Str}{g:Str}{scope:Scope}{f:Addr}{F:Value}{A:Around}{d:List Env}{s L:Shared}{H:Hp}{E:XK}{us:List Value}{vs:List V}
  (S:FnScope N ps scope) (O:A.handled=none) (m:Env0 P w K mg l A d s H) (Y:vs.length=ps.length) (r:Vals vs us)
  (x:InCallC s s.heap.objs.size (bindL (envOfC g scope s.heap.objs.size f F).kindOf (ps.zip us) λ_=>none) (cellsFrom (s.heap.objs.size+1) scope.names []) (bindC (envOfC g scope s.heap.objs.size f F).kindOf (ps.zip us) λ_=>none) L) :
  Inv (gF CX P w K mg l N g scope f F A d s H E) [] (start N vs) H L:=by
 have Q:ps.length<=N.length:=by have:=congrArg List.length S.pre;rw[length_take]at this;lia
 obtain⟨G,X,rfl,I⟩:=x.done;have o:∀ b:Addr,b ∉ (gF CX P w K mg l N g scope f F A d s H E).ex:=λb z=>absurd (show b∈([]:List Addr) from z) (by simp)
 refine⟨⟨m.mod,S.kind,rfl,rfl,Nat.le_refl _,λy z c G j=>?_,λy hy=>?_,λy c _ h=>?_,λ_=>O,Around.frames_deeper m.frames,.inr ⟨rfl,rfl⟩,λb z=>absurd z (o b),m.bs,m.bsz,λb _ _=>o b,λb z=>absurd z (o b),m.funs,m.frf⟩,
  rfl,m.bare,Un.kept I,⟨_,x.toInCall.ns,λi y v G j W=>?_⟩,λy c h=>⟨_,x.cell y c h⟩,m.hok.fresh (Nat.le_refl _),λy c h=>?_,λp B=>absurd (show p∈([]:List (Addr×Obj)) from B) (by simp),m.hok.kept I,?_⟩
 .exact name_of_addr x.apart (PySem.mem_of_lookup G) (PySem.mem_of_lookup j)
 .have hy:scope.names.lookup y=some .cell\/scope.names.lookup y=some .free:=hy
  rcases hy with hy | hy
  .exact qB hy
  .exact absurd rfl (S.nofree _ (PySem.mem_of_lookup hy))
 .exact Nat.le_of_lt (x.above y c (PySem.mem_of_lookup h))
 .have D:i<vs.length:=by
   unfold start at j
   by_cases D:i<vs.length
   .exact D
   .rw[List.getElem?_append_right (by simpa using D)]at j
    rw[List.getElem?_replicate]at j
    split at j <;> cases j
  have T:vs[i]? = some v:=by
   unfold start at j;rw[List.getElem?_append_left (by simpa using D),List.getElem?_map]at j;cases e:vs[i]? with
   | none=>rw[e]at j;cases j
   | some a=>rw[e]at j;cases j;rfl
  obtain⟨u,M,R⟩:=r.get T
  have B:ps[i]? = some y:=by
   rw[<- S.pre,List.getElem?_take_of_lt (by lia)];exact G
  have C:ps.Nodup:=by rw[<- S.pre];exact S.nd.sublist (List.take_sublist _ _)
  refine⟨u,R,?_⟩
  rcases S.par y (List.mem_of_getElem? B) with k | k
  .exact .inl ⟨k,oa C B M k⟩
  .obtain⟨c,e⟩:=qB (n:=s.heap.objs.size+1) k
   refine .inr ⟨.inl k,c,e,?_⟩;have q:=x.cell y c e;rw[nZ C B M (by show scope.names.lookup y≠_;rw[k];decide)]at q;exact q
 .exact m.hok.fresh (Nat.le_of_lt (x.above y c (PySem.mem_of_lookup h)))
 .unfold start
  show _=N.length;rw[length_append,length_map,List.length_replicate];lia
theorem vN{CX:CXT}{P:Program}{w:World}{K:Frag}{mg:Str->Option Value}{d:Heap}{k:Nat}{f:Addr}{name a:Str}{g:Arguments}{body:List Stmt}{scope:Scope}{dV Y B X c W oc:Value}{T od:Option Addr}
  {M:Array (Option Value)}{N ps:List Str}{sp:Sp}(lk:K.lookup f=some ⟨oc,od,.func (fnOf name a g body scope dV Y B X T c W),M⟩) (G:codeIn K c a=true) (S:FnScope N ps scope)
  (D:∀ vs H Q E,sp vs H Q E->vs.length=ps.length)
  (j:∀(A:Around) (outer:List Env) (s:Shared) (H:Hp) (vs:List V) (Q:VK) (E:XK),Room k (A.deeper (envOfC a scope s.heap.objs.size f c))->sp vs H Q E ->
   ∃ t,PSs (gF CX P w K mg d N a scope f c A outer s H E) body t/\t { nx:=λ_ H'=>Q .non H',rt:=Q } (start N vs) H) :
  FnOk P w K mg d CX (k+1) f (fnOf name a g body scope dV Y B X T c W) ps sp:=by
 refine⟨D,λA outer s H ab us vs Q E R m hb r p=>?_⟩;have hl:=D _ _ _ _ p;have KX:K.In s.heap:=m.mod.kin.keeps λb o e=>(m.bs b o e).1
 have L:s.heap.NoLimit:=m.mod.nolimit.keeps λb o e=>(m.bs b o e).1
 have i:∀ y ∈ ps.zip us,scope.names.lookup y.1 = some .local\/(scope.names.lookup y.1 = some .cell/\((cellsFrom (s.heap.objs.size + 1) scope.names []).lookup y.1).isSome = true):=λ⟨n,v⟩ hy=>by
  rcases S.par n (of_mem_zip hy).1 with q | q
  .exact .inl q
  .exact .inr ⟨q,cellsFrom_some _ _ _ (.inl q)⟩
 refine codeAny_call_function R.depth (KX _ _ lk) rfl S.co S.gen rfl (codeRec_of KX G) (hb _ _ _ _ ?_);refine wpAny_newFunctionEnv_cells S.kind i λad he Z x=>?_
 subst he;refine⟨L.keeps x.toInCall.keep,codeAny_func ?_⟩;obtain⟨t,ht,hq⟩:=j A outer s H vs Q E (R.deeper _) p;have I:Inv (gF CX P w K mg d N a scope f c A outer s H E) [] (start N vs) H Z:=nW S R.hd m hl r x;refine wpAny_mono (ht [] Z (start N vs) H _ I hq) (λfl F l=>?_) λe F l=>l
 have C:∀{h:St}{H':Hp}{v:V}{u:Value},Inv (gF CX P w K mg d N a scope f c A outer s H E) [] h H' F->RelV v u->Q v H'->CE outer P w H s Q u F :=
  λ{h H' v u} J O q=>⟨v,H',J.os,J.bare,J.base,J.hok,O,q⟩
 cases fl with
 | ret u =>
  obtain⟨v,h,H',J,O,q⟩:=l;exact C J O q
 | next =>
  obtain⟨h,H',J,q⟩:=l;exact C (v:=V.non) (u:=Value.none) J rfl q
 | brk =>
  obtain⟨_,_,_,q⟩:=l;exact False.elim q
 | cont =>
  obtain⟨_,_,_,q⟩:=l;exact False.elim q
section
variable {X:Cx}{x:Str}{p pos:Pos}{e:Expr}{es:List Expr}{t:TA}{id T:String}{r:List V->Hp->VK->Prop}
def tCB(r:List V->Hp->VK->Prop)(t:TA):TE:=λσ H Q=>t σ H λvs H1=>r vs H1 Q
theorem ay(u:CallR X (.builtin id) r)(f:Gl X x)(l:X.mg x=none)(C:bootBuiltins x=some (.builtin id))(g:PA X (e::es) t)(y:x ≠ "__name__" := by decide)(c:(x == ("__debug__" : Str))=false:=by decide)
  (v:starEach (e::es) X.env=(false,eval e X.env)::starEach es X.env:=by rfl) (b:(backTo pos (starEach es X.env)).any (·.1)=false:=by rfl):PE X (.Call (.Name x p) (e::es) [] pos) (tCB r t):=by
 intro a s d H Q I h;refine wpAny_Call_Name_kw (iF I f l C ?_ y c);exact PyProof.Rows.callWith_builtin1 (thn (g pos a s d H _ I h) λB o ⟨j,i,m,w,A⟩=>u a o d i j B Q m w A) v b
theorem dg(u:CallR X (.type T) r)(f:Gl X x)(l:X.mg x=none)(C:bootBuiltins x=some (.type T))(g:PA X (e::es) t)(y:x ≠ "__name__" := by decide)(c:(x == ("__debug__" : Str))=false:=by decide)
  (v:starEach (e::es) X.env=(false,eval e X.env)::starEach es X.env:=by rfl) (b:(backTo pos (starEach es X.env)).any (·.1)=false:=by rfl):PE X (.Call (.Name x p) (e::es) [] pos) (tCB r t):=by
 intro a s d H Q I h;refine wpAny_Call_Name_kw (iF I f l C ?_ y c);exact PyProof.Rows.callWith_type1 (thn (g pos a s d H _ I h) λB o ⟨j,i,m,w,A⟩=>u a o d i j B Q m w A) v b
end
end L2
namespace HT
open PySem PyProof.Rows
section
open PySem.SeqAt
open PySem.AutoSeq1 (wpAny_loadPart')
open PySem.MeetsSeq PySem.MeetsSeq2 PySem.MeetsSeq3
end
section
variable {prog:Program}{w:World}{A:Around}{E:Value->Shared->Prop}{s:Shared}
theorem cat_tup{t b:Addr}{vs a:List Value}{Q:Value->Shared->Prop}(y:IsTup s.heap t vs.toArray)(B:IsTup s.heap b a.toArray)(v:vs≠[])
  (x:a=[]->Q (.ref t) s) (h2:a≠[]->Q (.ref s.heap.objs.size) { s with heap:=s.heap.push { cls:=.type "tuple",data:=.seq (vs++a).toArray } })
  (hsz:vs.length+a.length<=sizeLine):wpAny (model prog w) A (binaryOp .Add (.ref t) (.ref b)) Q E s:=by
 obtain⟨⟨cls,l,data,o⟩,i,p,n,u⟩:=id y;obtain⟨⟨m,h,j,f⟩,c,d,r,g⟩:=id B;simp only at p u d g;subst p u d g;have e:vs.toArray++a.toArray=(vs++a).toArray:=by simp
 by_cases hw:a=[]
 .exact concat_meets ⟨_,i,rfl⟩ ⟨_,c,rfl⟩ noFill_tuple_add seq_tuple_add PySem.F.slot_tuple_add PySem.F.entry_tuple_add (PySem.F.args_tuple_add_2 _ _)
   (tuple_addW1 t b vs.toArray a.toArray n r l h o f (by simpa using v) (by simp[hw])) ⟨i,c,x hw⟩
 .refine concat_meets ⟨_,i,rfl⟩ ⟨_,c,rfl⟩ noFill_tuple_add seq_tuple_add PySem.F.slot_tuple_add PySem.F.entry_tuple_add (PySem.F.args_tuple_add_2 _ _)
   (tuple_addW2 t b vs.toArray a.toArray n r l h o f (by simpa using v) (by simpa using hw) (by rw[size_toArray,size_toArray];exact hsz)) ⟨i,c,?_⟩
  rw[e];exact h2 hw
def sIx(n d:Nat):Option Int->Nat
 | none=>d
 | some v=>if v<0 then (v+(n:Int)).toNat else min v.toNat n
theorem sIx_none(n d:Nat):sIx n d none=d:=rfl
theorem sIx_nat(n d k:Nat):sIx n d (some (k:Int))=min k n:=by
 show(if (k:Int)<0 then ((k:Int)+(n:Int)).toNat else min (k:Int).toNat n)=min k n;rw[if_neg (by lia),Int.toNat_natCast]
theorem sIx_le(n d:Nat)(a:d<=n)(o:Option Int):sIx n d o<=n:=by
 cases o with
 | none=>exact a
 | some v =>
  show(if v<0 then (v+(n:Int)).toNat else min v.toNat n)<=n
  by_cases hv:v<0
  .rw[if_pos hv];lia
  .rw[if_neg hv];exact Nat.min_le_right _ _
theorem sP(v:Int)(n d:Nat):(if v<0 then max (v+(n:Int)) 0 else min v (n:Int))=((sIx n d (some v):Nat):Int):=by
 show(if v<0 then max (v+(n:Int)) 0 else min v (n:Int))=(((if v<0 then (v+(n:Int)).toNat else min v.toNat n):Nat):Int)
 by_cases hv:v<0
 .simp only[if_pos hv];lia
 .simp only[if_neg hv];lia
theorem qV(lo a:Option Int)(n:Nat):Builtin.Slice.sliceAdjust lo a 1 (n:Int)=(((sIx n 0 lo:Nat):Int),((sIx n n a:Nat):Int)):=by
 have b:¬((1:Int)<0):=by lia
 unfold Builtin.Slice.sliceAdjust;simp only[b,if_false];refine Prod.ext ?_ ?_
 .cases lo with
  | none=>rfl
  | some v=>exact sP v n 0
 .cases a with
  | none=>rfl
  | some v=>exact sP v n n
theorem rn(i j:Nat):Builtin.Slice.slicePlaces (i:Int) (j:Int) 1=j - i:=by
 unfold Builtin.Slice.slicePlaces;have a:(1:Int) > 0:=by lia
 simp only[a,if_true,Int.ediv_one]
 split <;> lia
theorem mR{v:Value}{o:Option Int}{Q:Option Int->Shared->Prop}(p:IsPart v o)(h:Q o s):wpAny (model prog w) A (Builtin.Slice.slicePartIndex v) Q E s:=by
 cases p with
 | none=>exact slicePart_none h
 | int i t=>exact slicePart_int h
theorem kB{f:Addr}{d e:Value}{lo c:Option Int}{n:Nat}{Q:Int×Int×Nat->Shared->Prop}(g:s.heap.IsSliceOf f d e .none)(pl:IsPart d lo)(j:IsPart e c)
  (h:Q (((sIx n 0 lo:Nat):Int),1,sIx n n c - sIx n 0 lo) s):wpAny (model prog w) A (Builtin.Slice.sliceApplied (.ref f) (pure (n:Int))) Q E s:=by
 obtain⟨l,a,i,b⟩:=id g;unfold Builtin.Slice.sliceApplied Builtin.Slice.sliceFields;refine wpAny_bind (wpAny_bind (wpAny_field a b (x:=d) rfl (wpAny_bind (wpAny_field a b (x:=e) rfl (wpAny_bind (wpAny_field a b (x:=.none) rfl (wpAny_pure ?_)))))));refine wpAny_bind (slicePart_none ?_);show wpAny _ _ (if ((1:Int) == 0)=true then _ else _) _ _ s;rw[if_neg (by decide)];refine wpAny_bind (mR pl (wpAny_bind (mR j (wpAny_bind (wpAny_pure ?_)))));show wpAny _ _ (match Builtin.Slice.sliceAdjust lo c 1 (n:Int) with | (lo,c)=>pure (lo,(1:Int),Builtin.Slice.slicePlaces lo c 1)) _ _ s;rw[qV lo c n];show wpAny _ _ (pure (((sIx n 0 lo:Nat):Int),(1:Int),Builtin.Slice.slicePlaces ((sIx n 0 lo:Nat):Int) ((sIx n n c:Nat):Int) 1)) _ _ s;rw[rn];exact wpAny_pure h
theorem uK(xs:Array Value)(i k:Nat):((List.range k).filterMap λ(m:Nat)=>xs[((i:Int)+(m:Int)*1).toNat]?).toArray=((xs.toList.drop i).take k).toArray:=by
 have e:(λ(m:Nat)=>xs[((i:Int)+(m:Int)*1).toNat]?)=λm=>xs[i+m]?:=by
  funext m
  have:((i:Int)+(m:Int)*1).toNat=i+m:=by lia
  rw[this]
 rw[e];have:=pick_run xs i k;rw[List.filterMap_map]at this;have a:((λx=>xs[x]?) ∘ λx=>i+x)=λm=>xs[i+m]?:=rfl
 rw[a]at this;rw[this]
theorem getItem_tuple_cut{t g:Addr}{items:Array Value}{j o:Value}{lo b:Option Int}{Q:Value->Shared->Prop}(c:IsTup s.heap t items)(l:s.heap.IsSliceOf g j o .none)(pl:IsPart j lo)(u:IsPart o b)
  (p:¬(sIx items.size 0 lo=0/\sIx items.size items.size b=items.size))
  (h:Q (.ref s.heap.objs.size) { s with heap:=s.heap.push { cls:=.type "tuple",data:=.seq ((items.toList.drop (sIx items.size 0 lo)).take (sIx items.size items.size b - sIx items.size 0 lo)).toArray } })
  (hsz:items.size<=sizeLine):wpAny (model prog w) A (getItem (.ref t) (.ref g)) Q E s:=by
 have a:sizeOk (.seq ((items.toList.drop (sIx items.size 0 lo)).take (sIx items.size items.size b - sIx items.size 0 lo)).toArray):=by
  show((items.toList.drop (sIx items.size 0 lo)).take (sIx items.size items.size b - sIx items.size 0 lo)).toArray.size<=sizeLine;rw[size_toArray,length_take,List.length_drop,Array.length_toList];lia
 have y:sIx items.size items.size b<=items.size:=sIx_le _ _ (Nat.le_refl _) b;obtain⟨v,e,f,r⟩:=id l;have i:s.TypeIs (.ref g) "slice" := ⟨v,e,f⟩;unfold getItem
 try with_reducible refine wpAny_holding ?_
 first | refine wpAny_bind (wpAny_pure ?_) | skip
 refine wpAny_bind (wpAny_sequenceKey c.typeIs (by decide) ?_)
 refine wpAny_bind (wpAny_callSpecial?_slot (name:=Str.ofString "__getitem__") c.typeIs PyProof.Rows.slot_tuple_getitem
  (wpAny_call_entry PyProof.Rows.slot_tuple_getitem c.typeIs entry_tuple_getitem ?_ (args_tuple_getitem _ _)))
 show wpAny _ _ (Builtin.Tuple.tupleItemsOf (.ref t) >>= _) _ _ s;refine wpAny_bind (tupleItemsOf_ c ?_);refine wpAny_bind (wpAny_typeOf i ?_);rw[if_pos (by decide)];refine wpAny_bind (kB l pl u ?_)
 have d:¬((((sIx items.size 0 lo:Nat):Int) == 0 && (1:Int) == 1 && (sIx items.size items.size b - sIx items.size 0 lo) == items.size)=true):=by
  intro q;rw[Bool.and_eq_true,Bool.and_eq_true]at q;have B:((sIx items.size 0 lo:Nat):Int)=0:=eq_of_beq q.1.1;have x:sIx items.size items.size b - sIx items.size 0 lo=items.size:=eq_of_beq q.2;exact p ⟨by lia,by lia⟩
 show wpAny _ _ (if (((sIx items.size 0 lo:Nat):Int) == 0 && (1:Int) == 1 && (sIx items.size items.size b - sIx items.size 0 lo) == items.size)=true then _ else _) _ _ s;rw[if_neg d,uK]
 first
  | exact wpAny_bind (m:=Builtin.Tuple.tupleExact _) (wpAny_newObj_type (wpAny_pure ⟨_,rfl,wpAny_pure h⟩) a)
  | exact wpAny_bind (m:=Builtin.Tuple.tupleExact _) (wpAny_newObj_type (wpAny_bind (wpAny_pure (wpAny_pure ⟨_,rfl,wpAny_pure h⟩))) a)
  | exact wpAny_bind (wpAny_bind (m:=Builtin.Tuple.tupleExact _) (wpAny_newObj_type (wpAny_pure (wpAny_pure ⟨_,rfl,wpAny_pure h⟩)) a))
  | exact wpAny_bind (wpAny_bind (m:=Builtin.Tuple.tupleExact _) (wpAny_newObj_type (wpAny_pure ⟨_,rfl,wpAny_pure h⟩) a))
end
end HT
namespace L2
open PySem PySem.Spec PyProof.Rows
abbrev TO:=St->Hp->(Option Int->Hp->Prop)->Prop
def PO(X:Cx)(e:Option Expr)(t:TO):Prop :=
 ∀(pins:List (Addr×Obj)) (s:Shared) (σ:St) (H:Hp) (Q:Option Int->Hp->Prop),Inv X pins σ H s->t σ H Q ->
  wpAny (model X.prog X.w) X.A (evalPart e X.env) (λu s'=>∃ o H',Inv X pins σ H' s'/\IsPart u o/\Q o H') X.xe s
def xR:TO:=λ_ H Q=>Q none H
def A0(t:TE):TO:=λσ H Q=>t σ H λx H1=>∃ i,x=.int i/\Q (some i) H1
section
variable {X:Cx}{e:Expr}{te:TE}{lo hi:Option Expr}{tl th:TO}{pos p2:Pos}
theorem eW:PO X none xR:=by
 intro a s b H Q I h;rw[evalPart_none];exact wpAny_pure ⟨none,H,I,.none,h⟩
theorem eZ(h:PE X e te):PO X (some e) (A0 te):=by
 intro a s f H Q I b;rw[evalPart_some];refine thn (h a s f H _ I b) λu l ⟨x,c,d,j,g⟩=>?_
 obtain⟨i,rfl,q⟩:=g;obtain⟨t,rfl⟩:=j;exact⟨some i,c,d,.int i t,q⟩
def SlR(X:Cx)(r:V->Option Int->Option Int->Hp->VK->Prop):Prop :=
 ∀(pins:List (Addr×Obj)) (s:Shared) (σ:St) (H:Hp) (x:V) (v vl vu:Value) (lo hi:Option Int) (sl:Addr) (Q:VK),Inv X pins σ H s->RelV x v->s.heap.IsSliceOf sl vl vu .none->IsPart vl lo->IsPart vu hi->r x lo hi H Q ->
  ∃ T id,typeLookup (.type T) "__getitem__" = pure (some (.builtin id))/\s.TypeIs v T/\wpAny (model X.prog X.w) X.A (getItem v (.ref sl)) (EP X pins σ Q) X.xe s
theorem SlR.or{r d:V->Option Int->Option Int->Hp->VK->Prop}(h:SlR X r)(h':SlR X d):SlR X (λx lo hi H Q=>r x lo hi H Q\/d x lo hi H Q):=by
 intro a s l H x v b i lo hi e Q I j f c g q
 rcases q with q | q
 .exact h a s l H x v b i lo hi e Q I j f c g q
 .exact h' a s l H x v b i lo hi e Q I j f c g q
def tSl(r:V->Option Int->Option Int->Hp->VK->Prop)(te:TE)(tl th:TO):TE:=λσ H Q=>te σ H λx H1=>tl σ H1 λl H2=>th σ H2 λu H3=>r x l u H3 Q
theorem dW{r:V->Option Int->Option Int->Hp->VK->Prop}(G:SlR X r)(K:PE X e te)(A:PO X lo tl)(B:PO X hi th):PE X (.Subscript e (.Slice lo hi none p2) pos) (tSl r te tl th):=by
 intro a s c H Q I h;refine Subscript_ (thn (K a s c H _ I h) λv p ⟨x,C,F,m,j⟩=>?_);refine wpAny_Slice (thn (A a p c C _ F j) λd E ⟨l,i,D,w,o⟩=>thn (B a E c i _ D o) λvu s3 ⟨u,H3,I3,pu,q3⟩=>?_);rw[evalPart_none];refine wpAny_pure ?_;have L:Inv X a c H3 { s3 with heap:=s3.heap.push { cls:=.type "slice",data:=.fields #[d,vu,.none] } }:=I3.kept (t':=s3.toks) λb M q=>Heap.get?_push_of_some _ q
 obtain⟨T,N,f,g,y⟩:=G a { s3 with heap:=s3.heap.push { cls:=.type "slice",data:=.fields #[d,vu,.none] } } c H3 x v d vu l u s3.heap.objs.size Q L m (Heap.IsSliceOf.new ..) w pu q3;show wpAny (model X.prog X.w) X.A (subscriptTail e (.Slice lo hi none p2) v (.ref s3.heap.objs.size)) (EP X a c Q) X.xe { s3 with heap:=s3.heap.push { cls:=.type "slice",data:=.fields #[d,vu,.none] } };exact tail_any (ops:=[.ref s3.heap.objs.size,v]) g f y (by with_unfolding_all rfl)
def eG(xs:List V)(lo hi:Option Int):List V:=(xs.drop (HT.sIx xs.length 0 lo)).take (HT.sIx xs.length xs.length hi - HT.sIx xs.length 0 lo)
theorem kO(xs:List V)(lo a:Option Int):(eG xs lo a).length<=xs.length:=by
 unfold eG;rw[length_take,List.length_drop];lia
def BZ(K:Frag):V->Option Int->Option Int->Hp->VK->Prop:=λx lo hi H Q=>∃ a xs,x=.ref a/\SqT K H a xs /\
 ¬(HT.sIx xs.length 0 lo=0/\HT.sIx xs.length xs.length hi=xs.length)/\∀ p,H p=none->Q (.ref p) (upd H p (.tup (eG xs lo hi)))
theorem sl_tup:SlR X (BZ X.K):=by
 intro j s F H x v C E e f D Q I A w u y h;obtain⟨a,d,rfl,m,p,q⟩:=h;cases A;obtain⟨g,r,i,l⟩:=I.tuple m;have c:g.toArray.size=d.length:=by rw[size_toArray];exact r.length.symm
 refine⟨"tuple",_,PyProof.Rows.slot_tuple_getitem.lookup,i.typeIs,?_⟩;refine HT.getItem_tuple_cut i w u y (by rw[c];exact p) ?_ (by rw[c];exact l);rw[c];refine⟨.ref s.heap.objs.size,_,I.laid (t':=s.toks) (o:=.tup (eG d e f)) (λb B q=>Heap.get?_push_of_some _ q) (Nat.le_refl _) ?_,rfl,q _ (I.hok.fresh (Nat.le_refl _))⟩;exact⟨Nat.le_trans (kO d e f) l,_,(r.drop (HT.sIx d.length 0 e)).take (HT.sIx d.length d.length f - HT.sIx d.length 0 e),IsTup.new _ _⟩
def vX(K:Frag):R2:=λx y H Q=>∃ a b xs ys,x=.ref a/\y=.ref b/\SqT K H a xs/\SqT K H b ys/\xs≠[]/\xs.length+ys.length<=sizeLine /\
 (ys=[]->Q (.ref a) H)/\(ys≠[]->∀ p,H p=none->Q (.ref p) (upd H p (.tup (xs++ys))))
theorem Vals.nil_iff{xs:List V}{us:List Value}(r:Vals xs us):us=[]↔xs=[]:=by
 cases r with
 | nil=>simp
 | cons _ _=>simp
theorem w6:OpR X (binaryOp .Add) (vX X.K):=by
 intro e s K H x y v u Q I D B h;obtain⟨a,b,p,r,rfl,rfl,C,F,i,g,j,l⟩:=h;cases D;cases B;obtain⟨m,d,A,_⟩:=I.tuple C;obtain⟨f,c,E,_⟩:=I.tuple F;refine HT.cat_tup A E (λz=>i (d.nil_iff.mp z)) (λz=>⟨.ref a,H,I,rfl,j (c.nil_iff.mp z)⟩) (λz=>?_) (by rw[<- d.length,<- c.length];exact g);refine⟨.ref s.heap.objs.size,_,I.laid (t':=s.toks) (o:=.tup (p++r)) (λb G q=>Heap.get?_push_of_some _ q) (Nat.le_refl _) ?_,rfl,l (λw=>z (c.nil_iff.mpr w)) _ (I.hok.fresh (Nat.le_refl _))⟩;exact⟨by rw[length_append];exact g,_,d.append c,IsTup.new _ _⟩
end
def ixN(n:Nat)(i:Int):Option Nat:=if 0<=i then (if i<n then some i.toNat else none) else if -(n:Int)<=i then some (i+n).toNat else none
def atI{α:Type}(xs:List α)(i:Int):Option α:=(ixN xs.length i).bind λj=>xs[j]?
theorem xK{n:Nat}{i:Int}{j:Nat}(h:ixN n i=some j):seqIndex? i n=some j/\j<n/\-(n:Int)<=i/\i<n:=by
 unfold ixN at h
 by_cases h0:0<=i
 .rw[if_pos h0]at h
  by_cases h1:i<n
  .rw[if_pos h1]at h
   have e:i.toNat=j:=Option.some.inj h;exact⟨by rw[seqIndex_of h0 h1,e],by lia,by lia,h1⟩
  .rw[if_neg h1]at h;cases h
 .rw[if_neg h0]at h
  by_cases h1:-(n:Int)<=i
  .rw[if_pos h1]at h
   have e:(i+n).toNat=j:=Option.some.inj h;exact⟨by rw[seqIndex_neg (by lia) h1,e],by lia,h1,by lia⟩
  .rw[if_neg h1]at h;cases h
theorem oJ{a:Type}{xs:List a}{i:Int}{v:a}(h:atI xs i=some v):∃ j,seqIndex? i xs.length=some j/\xs[j]? = some v/\j<xs.length/\-(xs.length:Int)<=i/\i<xs.length:=by
 unfold atI at h;cases e:ixN xs.length i with
 | none=>rw[e]at h;cases h
 | some j =>
  rw[e]at h;obtain⟨f,d,c,b⟩:=xK e;exact⟨j,f,h,d,c,b⟩
theorem aU{a:Type}{xs:List a}{j:Nat}{v:a}(h:xs[j]? = some v):atI xs (j:Int)=some v:=by
 have b:j<xs.length:=(List.getElem?_eq_some_iff.mp h).1
 have e:ixN xs.length (j:Int)=some j:=by
  unfold ixN;rw[if_pos (by lia),if_pos (by lia)];simp
 unfold atI;rw[e];exact h
def wF(b:Expr):Prop:=∀ o i,subscripted b false o i=operate [o,i] (getItem o i)
def IxR(X:Cx)(r:R2):Prop :=
 ∀(value slice:Expr) (pins:List (Addr×Obj)) (s:Shared) (σ:St) (H:Hp) (x y:V) (v u:Value) (Q:VK),Inv X pins σ H s->RelV x v->RelV y u->r x y H Q ->
  subscripted slice false v u=operate [v,u] (getItem v u)->wpAny (model X.prog X.w) X.A (subscriptTail value slice v u) (EP X pins σ Q) X.xe s
def MtR(X:Cx)(id:String)(r:V->List V->Hp->VK->Prop):Prop :=
 ∀(pins:List (Addr×Obj)) (s:Shared) (σ:St) (H:Hp) (x:V) (xs:List V) (v:Value) (us:List Value) (Q:VK),Inv X pins σ H s->RelV x v->Vals xs us->r x xs H Q ->
  wpAny (model X.prog X.w) X.A (call (.builtin id) (v::us)) (EP X pins σ Q) X.xe s
section
variable {X:Cx}{a b:Expr}{ta tb:TE}{pos:Pos}
theorem IxR.or{r f:R2}(h:IxR X r)(h':IxR X f):IxR X (λx y H Q=>r x y H Q\/f x y H Q):=by
 intro b a c s i H x y v u Q I g d q e
 rcases q with q | q
 .exact h b a c s i H x y v u Q I g d q e
 .exact h' b a c s i H x y v u Q I g d q e
theorem az{r:R2}(m:IxR X r)(e:PE X a ta)(p:PE X b tb)(f:wF b):PE X (.Subscript a b pos) (tOp r ta tb):=by
 intro c s l H Q I h;exact Subscript_ (y4 e p I h λv u g x y o j i d q=>m a b c g l o x y v u Q j i d q (f _ _))
inductive rIxL(K:Frag)(x y:V)(H:Hp)(Q:VK):Prop
 | mk(p:Addr)(xs:List V)(i:Int)(v:V)(h0:x=.ref p)(h1:y=.int i)(h2:SqL K H p xs)(h3:atI xs i=some v)(h4:Q v H):rIxL K x y H Q
inductive rIxT(K:Frag)(x y:V)(H:Hp)(Q:VK):Prop
 | mk(p:Addr)(xs:List V)(i:Int)(v:V)(h0:x=.ref p)(h1:y=.int i)(h2:SqT K H p xs)(h3:atI xs i=some v)(h4:Q v H):rIxT K x y H Q
def AZ:R2:=λx y H Q=>∃ z i c,x=.str z/\y=.int i/\z.length<=sizeLine/\atI z.cps.toList i=some c/\Q (.str ⟨#[c]⟩) H
theorem ix_list:IxR X (rIxL X.K):=by
 intro g d a s B H x y v u Q I M K h o;obtain⟨p,P,i,z,rfl,rfl,E,N,q⟩:=h;cases M;obtain⟨t,rfl⟩:=K;obtain⟨e,r,f,S⟩:=I.list E;obtain⟨j,c,G,O,L,D⟩:=oJ N;obtain⟨w,A,m⟩:=r.get G;have F:=r.length;have R:=ku
 have b:EP X a B Q w s:=⟨z,H,I,m,q⟩
 by_cases h0:0<=i
 .have l:i.toNat=j:=by
   rw[seqIndex_of h0 D]at c;exact Option.some.inj c
  exact item_listR f.isList h0 (by lia) (by rw[l];simpa using A) b o
 .have l:(i+(e.toArray.size:Int)).toNat=j:=by
   rw[seqIndex_neg (by lia) L]at c;rw[size_toArray,<- F];exact Option.some.inj c
  exact subscriptTail_builtinR (x:=w) f.isList.typeIs slot_list_getitem.lookup
   (wpAny_getItem_list_neg (Q:=λr C=>r=w/\EP X a B Q r C) f.isList (by lia) (by rw[size_toArray] <;> lia) (by lia) (by rw[l];simpa using A) ⟨rfl,b⟩) o
theorem ix_tup:IxR X (rIxT X.K):=by
 intro d b a s g H x y v u Q I E D h B;obtain⟨p,N,i,z,rfl,rfl,m,K,q⟩:=h;cases E;obtain⟨t,rfl⟩:=D;obtain⟨o,r,f,R⟩:=I.tuple m;obtain⟨j,G,C,L,P,M⟩:=oJ K;obtain⟨w,F,e⟩:=r.get C;have A:=r.length;have O:=ku
 have c:EP X a g Q w s:=⟨z,H,I,e,q⟩
 exact subscriptTail_builtinR (x:=w) f.typeIs slot_tuple_getitem.lookup
  (getItem_tuple (j:=j) (Q:=λr l=>r=w/\EP X a g Q r l) f (by lia) (by lia) (by rw[size_toArray,<- A];exact G) (by simpa using F) ⟨rfl,c⟩) B
theorem zB:IxR X AZ:=by
 intro b a d s F H x y v u Q I w p h m;obtain⟨z,i,c,rfl,rfl,G,A,q⟩:=h;obtain⟨t,rfl⟩:=w;obtain⟨D,rfl⟩:=p;obtain⟨j,e,o,C,r,f⟩:=oJ A;have l:z.cps.toList.length=z.length:=by simp[Str.length]
 rw[l]at e r f;have E:=ku
 exact tail_any (typeIs_str s z t) slot_str_getitem.lookup (getItem_str (c:=c) (by
  have g:decide (i < -(2 ^ 63:Int))=false:=decide_eq_false (by lia);have B:decide (i >= 2 ^ 63)=false:=decide_eq_false (by lia)
  rw[g,B,Bool.or_false]) (by rw[e];simpa using o) ⟨.str ⟨#[c]⟩,H,I.tok _,⟨_,rfl⟩,q⟩) m
def rIx(K:Frag):R2:=λx y H Q=>rIxL K x y H Q\/rIxT K x y H Q\/AZ x y H Q
theorem av:IxR X (rIx X.K):=ix_list.or (ix_tup.or zB)
theorem pj(lo a:Option Int)(n:Nat):(sliceBounds lo a none n).1=((HT.sIx n 0 lo:Nat):Int)/\(sliceBounds lo a none n).2.1=((HT.sIx n n a:Nat):Int)/\(sliceBounds lo a none n).2.2=1:=by
 refine⟨?_,?_,rfl⟩
 .cases lo with
  | none=>simp[sliceBounds,HT.sIx]
  | some i =>
   simp only[sliceBounds,HT.sIx,Option.getD_none,show(1:Int) > 0 by decide,if_true]
   by_cases h:i<0
   .simp only[h,if_true] <;> lia
   .simp only[h,if_false] <;> lia
 .cases a with
  | none=>simp[sliceBounds,HT.sIx]
  | some i =>
   simp only[sliceBounds,HT.sIx,Option.getD_none,show(1:Int) > 0 by decide,if_true]
   by_cases h:i<0
   .simp only[h,if_true] <;> lia
   .simp only[h,if_false] <;> lia
theorem nP(its:List Value)(lo a:Option Int):slicePick its.toArray lo a none=((its.drop (HT.sIx its.length 0 lo)).take (HT.sIx its.length its.length a - HT.sIx its.length 0 lo)).toArray:=by
 obtain⟨c,b,d⟩:=pj lo a its.toArray.size;unfold slicePick;rw[c,b,d]
 simp only[sliceRange_one,pick_run,size_toArray] <;> rfl
def BG(K:Frag):V->Option Int->Option Int->Hp->VK->Prop:=λx lo hi H Q=>∃ a xs,x=.ref a/\SqL K H a xs/\∀ p,H p=none->Q (.ref p) (upd H p (.lst (eG xs lo hi)))
theorem sl_list:SlR X (BG X.K):=by
 intro g s D H x v A C e f B Q I p l j m h;obtain⟨a,c,rfl,w,q⟩:=h;cases p;obtain⟨y,r,i,u⟩:=I.list w;have d:=r.length;refine⟨"list",_,slot_list_getitem.lookup,i.isList.typeIs,?_⟩;refine wpAny_getItem_list_slice i.isList l j m .none (by simp) ?_ (by rw[size_toArray] <;> lia);rw[nP,<- d];refine⟨.ref s.heap.objs.size,_,I.laid (t':=s.toks) (o:=.lst (eG c e f)) (λb E q=>Heap.get?_push_of_some _ q) (Nat.le_refl _) ?_,rfl,q _ (I.hok.fresh (Nat.le_refl _))⟩;exact⟨Nat.le_trans (kO c e f) u,_,0,(r.drop (HT.sIx c.length 0 e)).take (HT.sIx c.length c.length f - HT.sIx c.length 0 e),Heap.get?_push_size _ rfl⟩
def iK:V->Bool
 | .non=>true
 | .bl _=>true
 | .int _=>true
 | .str _=>true
 | _=>false
def eqV:V->V->Bool
 | .non,.non=>true
 | .bl a,.bl b=>a == b
 | .bl a,.int b=>(if a then 1 else 0) == b
 | .int a,.bl b=>a == (if b then 1 else 0)
 | .int a,.int b=>a == b
 | .str a,.str b=>a == b
 | _,_=>false
theorem zW{A:Around}{s:Shared}{y x:V}{u v:Value}(e:RelV y u)(c:RelV x v)(g:iK y=true)(f:iK x=true):SeqAt.EqAt A s u v (eqV y x):=by
 cases y with
 | non =>
  cases e;cases x with
  | non=>cases c;exact SeqAt.EqAt.same _
  | bl b=>cases c;exact SeqAt.EqAt.none_bool b
  | int b=>obtain⟨t,rfl⟩:=c;exact SeqAt.EqAt.none_int b t
  | str b=>obtain⟨t,rfl⟩:=c;exact SeqAt.EqAt.none_str b t
  | _=>exact absurd (show false=true from f) Bool.false_ne_true
 | bl a =>
  cases e;cases x with
  | non=>cases c;exact SeqAt.EqAt.bool_none a
  | bl b=>cases c;exact SeqAt.EqAt.bool_bool a b
  | int b=>obtain⟨t,rfl⟩:=c;exact SeqAt.EqAt.bool_int a b t
  | str b=>obtain⟨t,rfl⟩:=c;exact SeqAt.EqAt.bool_str a b t
  | _=>exact absurd (show false=true from f) Bool.false_ne_true
 | int a =>
  obtain⟨d,rfl⟩:=e;cases x with
  | non=>cases c;exact SeqAt.EqAt.int_none a d
  | bl b=>cases c;exact SeqAt.EqAt.int_bool a d b
  | int b=>obtain⟨t,rfl⟩:=c;exact SeqAt.EqAt.int_int a d b t
  | str b=>obtain⟨t,rfl⟩:=c;exact SeqAt.EqAt.int_str a d b t
  | _=>exact absurd (show false=true from f) Bool.false_ne_true
 | str a =>
  obtain⟨d,rfl⟩:=e;cases x with
  | non=>cases c;exact SeqAt.EqAt.str_none a d
  | bl b=>cases c;exact SeqAt.EqAt.str_bool a d b
  | int b=>obtain⟨t,rfl⟩:=c;exact SeqAt.EqAt.str_int a d b t
  | str b=>obtain⟨t,rfl⟩:=c;exact SeqAt.EqAt.str_str a d b t
  | _=>exact absurd (show false=true from f) Bool.false_ne_true
 | _=>exact absurd (show false=true from g) Bool.false_ne_true
def eqU(x:V)(u:Value):Bool:=match u with
 | .none=>eqV .non x
 | .bool b=>eqV (.bl b) x
 | .int i _=>eqV (.int i) x
 | .str z _=>eqV (.str z) x
 | _=>false
theorem vO{x y:V}{u:Value}(r:RelV y u)(f:iK y=true):eqU x u=eqV y x:=by
 cases y with
 | non=>cases r;rfl
 | bl b=>cases r;rfl
 | int i=>obtain⟨t,rfl⟩:=r;rfl
 | str z=>obtain⟨t,rfl⟩:=r;rfl
 | _=>exact absurd (show false=true from f) Bool.false_ne_true
theorem pi{x:V}:∀{xs:List V}{us:List Value},Vals xs us->xs.all iK=true->us.any (eqU x)=xs.any λy=>eqV y x
 | _,_,.nil,_=>rfl
 | y::xs,u::us,.cons r t,f=>by
  rw[all_cons,Bool.and_eq_true]at f;rw[any_cons,any_cons,vO r f.1,pi t f.2]
theorem ml{A:Around}{s:Shared}{x:V}{v:Value}(a:RelV x v)(b:iK x=true):∀{xs:List V}{us:List Value},Vals xs us->xs.all iK=true->∀ u∈us,SeqAt.EqAt A s u v (eqU x u)
 | _,_,.nil,_=>λu hu=>by cases hu
 | y::xs,u::us,.cons r t,f=>λc hu=>by
  rw[all_cons,Bool.and_eq_true]at f
  rcases mem_cons.mp hu with rfl | hu
  .rw[vO r f.1];exact zW r a f.1 b
  .exact ml a b t f.2 c hu
def inV(x:V)(xs:List V):Bool:=xs.any λy=>eqV y x
inductive rIn(K:Frag)(neg:Bool)(x y:V)(H:Hp)(Q:VK):Prop
 | mk(p:Addr)(xs:List V)(h0:y=.ref p)(h1:SqL K H p xs\/SqT K H p xs)(h2:iK x=true)(h3:xs.all iK=true)(h4:Q (.bl (if neg then !inV x xs else inV x xs)) H):rIn K neg x y H Q
theorem kD:OpR X (compareOp .In) (rIn X.K false):=by
 intro g s m H x y v u Q I f i h;obtain⟨p,l,rfl,hq,e,b,q⟩:=h;cases i
 rcases hq with hq | hq
 .obtain⟨a,r,c,j⟩:=I.list hq
  refine SeqAt.in_listAt (eqU x) c.isList (λw d=>ml f e r b w (by simpa using d)) ⟨.bl _,H,I,rfl,?_⟩;rw[show a.toArray.any (eqU x)=a.any (eqU x) by simp,pi r b];exact q
 .obtain⟨a,r,c,j⟩:=I.tuple hq
  refine SeqAt.in_tupleAt (eqU x) c (λw d=>ml f e r b w (by simpa using d)) ⟨.bl _,H,I,rfl,?_⟩;rw[show a.toArray.any (eqU x)=a.any (eqU x) by simp,pi r b];exact q
theorem oC:CallR X (.builtin "len") (λxs H Q=>∃ p ys,xs=[.ref p]/\(SqL X.K H p ys\/SqT X.K H p ys)/\Q (.int ys.length) H):=by
 intro e s i H xs l Q I r h;obtain⟨p,ys,rfl,hq,q⟩:=h;obtain⟨u,rfl,f⟩:=ij r;cases f;have j:=ku
 rcases hq with hq | hq
 .obtain⟨d,c,b,g⟩:=I.list hq
  have a:=c.length;exact Calls.call_len_list b.isList (by simp only[size_toArray] <;> lia) ⟨.int ys.length,H,I.tok _,⟨s.toks+1,by rw[size_toArray,a]⟩,q⟩
 .obtain⟨d,c,b,g⟩:=I.tuple hq
  have a:=c.length;exact len_tuple b (by simp only[size_toArray] <;> lia) ⟨.int ys.length,H,I.tok _,⟨s.toks+1,by rw[size_toArray,a]⟩,q⟩
theorem call_len_str:CallR X (.builtin "len") (λxs H Q=>∃ z,xs=[.str z]/\z.length<=sizeLine/\Q (.int z.length) H):=by
 intro a s b H xs e Q I r h;obtain⟨z,rfl,d,q⟩:=h;obtain⟨u,rfl,t,rfl⟩:=ij r;have c:=ku;exact len_str (by lia) ⟨.int z.length,H,I.tok _,⟨_,rfl⟩,q⟩
theorem CallR.or{f:Value}{r b:List V->Hp->VK->Prop}(h:CallR X f r)(h':CallR X f b):CallR X f (λxs H Q=>r xs H Q\/b xs H Q):=by
 intro a s c H xs e Q I d q
 rcases q with q | q
 .exact h a s c H xs e Q I d q
 .exact h' a s c H xs e Q I d q
inductive rListOf(K:Frag)(xs:List V)(H:Hp)(Q:VK):Prop
 | mk(p:Addr)(ys:List V)(h0:xs=[.ref p])(h1:SqL K H p ys\/SqT K H p ys)(h2:∀ l,H l=none->Q (.ref l) (upd H l (.lst ys))):rListOf K xs H Q
theorem jZ:CallR X (.type "list") (rListOf X.K):=by
 intro l s C H D E Q I r h;obtain⟨p,w,rfl,hq,q⟩:=h;obtain⟨u,rfl,B⟩:=ij r;cases B
 have m:∀(a:List Value),Vals w a->w.length<=sizeLine->∀(c:Heap) (d:Nat),(∀ b o',s.heap.get? b=some o'->c.get? b=some o') ->
   c.get? s.heap.objs.size=some { cls:=.type "list",dict:=none,data:=.seq a.toArray d,slots:=#[] }->EP X l C Q (.ref s.heap.objs.size) { s with heap:=c }:=λa f j c d i e =>
  ⟨.ref s.heap.objs.size,_,I.laid (t':=s.toks) i (Nat.le_refl _) (show ObjOk X.prog X.w _ c _ (.lst w) from⟨j,a,d,f,e⟩),rfl,q _ (I.hok.fresh (Nat.le_refl _))⟩
 rcases hq with hq | hq
 .obtain⟨a,f,v,j⟩:=I.list hq
  have g:=f.length;obtain⟨o,y,x,n,A⟩:=v.isList;exact call_list_seq p (.inl rfl) y x A (λc d i e=>m a f j c d i e) (by simp only[size_toArray] <;> lia)
 .obtain⟨a,f,v,j⟩:=I.tuple hq
  have g:=f.length;obtain⟨o,y,x,n,A⟩:=v;exact call_list_seq p (.inr rfl) y x A (λc d i e=>m a f j c d i e) (by simp only[size_toArray] <;> lia)
theorem jy:CallR X (.type "tuple") (λxs H Q=>∃ p ys,xs=[.ref p]/\((SqL X.K H p ys/\∀ l,H l=none->Q (.ref l) (upd H l (.tup ys)))\/(SqT X.K H p ys/\Q (.ref p) H))):=by
 intro a s w H xs B Q I r h;obtain⟨p,ys,rfl,h⟩:=h;obtain⟨u,rfl,x⟩:=ij r;cases x
 rcases h with⟨i,q⟩ | ⟨i,q⟩
 .obtain⟨c,g,f,v⟩:=I.list i
  have j:=g.length;refine call_tuple_list f.isList (λd A=>?_) (by simp only[size_toArray] <;> lia);have m:Inv X a w H { s with heap:=d }:=I.kept (t':=s.toks) A
  have y:Inv X a w (upd H d.objs.size (.tup ys)) { s with heap:=d.push { cls:=.type "tuple",data:=.seq c.toArray } } :=
   m.laid (t':=s.toks) (λb o e=>Heap.get?_push_of_some _ e) (Nat.le_refl _) (show ObjOk X.prog X.w _ _ _ (.tup ys) from⟨v,c,g,IsTup.new _ _⟩)
  exact⟨.ref d.objs.size,_,y,rfl,q _ (m.hok.fresh (Nat.le_refl _))⟩
 .obtain⟨c,g,f,v⟩:=I.tuple i
  exact call_tuple_same f ⟨.ref p,H,I,rfl,q⟩
def tyV(K:Frag)(T:String)(x:V)(H:Hp):Prop:=match x with
 | .str _=>T = "str"
 | .int _=>T = "int"
 | .ref p=>(T = "list" /\ ∃ xs,SqL K H p xs)\/(T = "tuple" /\ ∃ o,K.lookup p=some o/\o.cls=.type "tuple" /\ o.dict=none) \/
   (T = "dict" /\ ((∃ kvs,H p=some (.dK kvs))\/∃ kvs,H p=some (.dT kvs)))\/(T = "set" /\ ∃ S n,H p=some (.set S n))
 | _=>False
theorem wc{f:List (Addr×Obj)}{w:St}{H:Hp}{s:Shared}{T:String}{x:V}{v:Value}(I:Inv X f w H s)(r:RelV x v)(ty:tyV X.K T x H) :
  s.TypeIs v T/\∀ a,v=.ref a->∃ ob,s.heap.get? a=some ob/\ob.dict=none:=by
 cases x with
 | str z =>
  obtain⟨t,rfl⟩:=r;cases(show T = "str" from ty);exact⟨typeIs_str s z t,λ_ e=>nomatch e⟩
 | int i =>
  obtain⟨t,rfl⟩:=r;cases(show T = "int" from ty);exact⟨typeIs_int s i t,λ_ e=>nomatch e⟩
 | ref p =>
  cases r
  rcases ty with⟨rfl,A,y⟩ | ⟨rfl,o,b,u,h⟩ | ⟨rfl,b⟩ | ⟨rfl,S,n,b⟩
  .obtain⟨m,_,l,_⟩:=I.list y
   refine⟨l.isList.typeIs,λa e=>?_⟩;cases e;obtain⟨o,n,e,c,h,_⟩:=l;exact⟨o,e,h⟩
  .refine⟨⟨o,I.kIn p o b,u⟩,λa e=>?_⟩
   cases e;exact⟨o,I.kIn _ o b,h⟩
  .have z:∃ o,s.heap.get? p=some o/\o.ExactDict:=by
    rcases b with⟨j,b⟩ | ⟨j,b⟩
    .obtain⟨_,_,_,_,o,_,_,e,d,_⟩:=I.hok p _ b
     exact⟨o,e,d⟩
    .obtain⟨_,_,_,_,o,_,_,e,d,_⟩:=I.hok p _ b
     exact⟨o,e,d⟩
   obtain⟨o,e,d⟩:=z;refine⟨⟨o,e,d.1⟩,λa g=>?_⟩;cases g;exact⟨o,e,d.2.1⟩
  .obtain⟨o,_,_,_,e,d,_⟩:=I.hok p _ b
   refine⟨⟨o,e,d.1⟩,λa g=>?_⟩;cases g;exact⟨o,e,d.2.1⟩
 | _=>exact False.elim ty
def Ap(K:Frag)(T:String)(r:V->List V->Hp->VK->Prop)(to:TE):TE:=λσ H Q=>to σ H λx H1=>tyV K T x H1/\r x [] H1 Q
def tBM(K:Frag)(T:String)(r:V->List V->Hp->VK->Prop)(to:TE)(t:TA):TE:=λσ H Q=>to σ H λx H1=>tyV K T x H1/\t σ H1 λxs H2=>r x xs H2 Q
variable {o e:Expr}{es:List Expr}{to:TE}{t:TA}{name:Str}{apos cpos:Pos}{T id:String}{r:V->List V->Hp->VK->Prop}
theorem zT(j:PlainAttrs T)(d:Slot T name id)(e:typeOf (.builtin id)=pure (.type "method_descriptor"))(u:MtR X id r)(y:PE X o to)
  (c:attributeBase o name X.env (eval o X.env)=eval o X.env:=by rfl) (b:(apos.endLine == cpos.line)=true:=by rfl):PE X (.Call (.Attribute o name apos) [] [] cpos) (Ap X.K T r to):=by
 intro a s g H Q I h;refine wpAny_Call_method0_late c b (thn (y a s g H _ I h) λv w ⟨x,m,f,i,l,B⟩=>?_);obtain⟨A,p⟩:=wc f i l;exact⟨T,id,j,d,e,A,p,Calls.callWith_builtin rfl (PySem.evalArgs_none (u a w g m x [] v [] Q f i .nil B))⟩
theorem v8(u:PlainAttrs T)(g:Slot T name id)(j:typeOf (.builtin id)=pure (.type "method_descriptor"))(L:MtR X id r)(N:PE X o to)(O:PA X (e::es) t)
  (d:attributeBase o name X.env (eval o X.env)=eval o X.env:=by rfl)
  (f:((backTo cpos (starEach (e::es) X.env)).all (λx=>!x.1) && (backToKw cpos (keywordEach [] X.env)).all (λx=>x.1.isSome)
   && decide ((e::es).length+([]:List Keyword).length+(if ([]:List Keyword).isEmpty then 0 else 1)<30))=true:=by rfl)
  (c:(apos.endLine == cpos.line)=true:=by rfl) (K:starEach (e::es) X.env=(false,eval e X.env)::starEach es X.env:=by rfl) (b:(backTo cpos (starEach es X.env)).any (·.1)=false:=by rfl) :
  PE X (.Call (.Attribute o name apos) (e::es) [] cpos) (tBM X.K T r to t):=by
 intro a s i H Q I h;refine wpAny_Call_method_late d f c rfl (thn (N a s i H _ I h) λv D ⟨x,F,p,m,w,B⟩=>?_);obtain⟨R,G⟩:=wc p m w;refine⟨T,id,u,g,j,R,G,?_⟩;have l:=O cpos a D i F _ p B;rw[K]at l ⊢;refine Calls.callWith_builtin (by show(false || (backTo cpos (starEach es X.env)).any (·.1))=false;rw[b] <;> rfl) (Calls.evalArgs_plain ?_);exact thn l λS P ⟨y,A,M,E,C⟩=>L a P i A x y v S Q M m E C
end
def MtM(X:Cx)(id:String)(r:V->List V->Hp->VK->Prop):Prop :=
 ∀(pins:List (Addr×Obj)) (s:Shared) (σ:St) (H:Hp) (x:V) (xs:List V) (v:Value) (us:List Value) (Q:VK),Inv X pins σ H s->RelV x v->Vals xs us->r x xs H Q ->
  wpAny (model X.prog X.w) X.A (call (.builtin id) (v::us)) (EP X pins σ Q) X.xe s
theorem Vals.one:∀{x:V}{us:List Value},Vals [x] us->∃ u,us=[u]/\RelV x u
 | _,_,.cons r .nil=>⟨_,rfl,r⟩
section
variable {X:Cx}{pins:List (Addr×Obj)}{σ:St}{H:Hp}{s:Shared}{l b:Addr}{xs ys zs:List V}
theorem Inv.lset{its its':List Value}{n:Nat}{f:Array Value->Array Value}{t':Nat}(I:Inv X pins σ H s)(c:H l=some (.lst xs))
  (e:s.heap.get? l=some { cls:=.type "list",data:=.seq its.toArray n }) (a:f its.toArray=its'.toArray) (g:Vals ys its') (hz:ys.length<=sizeLine) :
  Inv X pins σ (upd H l (.lst ys)) { s with heap:=s.heap.update l (Obj.mapSeq f),toks:=t' }:=by
 have q:=PySem.IsL.update e f;rw[a]at q;refine I.write (x:=l) (e:=l) (by rw[c];exact trivial) (.inl rfl) (λh u d b=>(Heap.get?_update_other s.heap (Obj.mapSeq f) (Ne.symm d)).trans b) ⟨_,q⟩ ?_;exact⟨hz,its',_,g,q⟩
theorem Inv.lnew{its:List Value}{t':Nat}(I:Inv X pins σ H s)(a:Vals ys its)(hz:ys.length<=sizeLine) :
  Inv X pins σ (upd H s.heap.objs.size (.lst ys)) { s with heap:=s.heap.push { cls:=.type "list",data:=.seq its.toArray },toks:=t' } :=
 I.laid (λ_ _ q=>Heap.get?_push_of_some _ q) (Nat.le_refl _) ⟨hz,its,0,a,Heap.get?_push_size _ rfl⟩
theorem Inv.fresh(I:Inv X pins σ H s):H s.heap.objs.size=none:=I.hok.fresh (Nat.le_refl _)
theorem Inv.lstM(I:Inv X pins σ H s)(a:H l=some (.lst xs)):xs.length<=sizeLine/\∃(its:List Value) (n:Nat),Vals xs its/\xs.length=its.length/\s.heap.get? l=some { cls:=.type "list",data:=.seq its.toArray n }:=by
 obtain⟨z,its,n,r,e⟩:=I.hok l _ a;exact⟨z,its,n,r,r.length,e⟩
end
section
variable {X:Cx}
inductive rAppend(x:V)(vs:List V)(H:Hp)(Q:VK):Prop
 | mk(l:Addr)(xs:List V)(y:V)(h0:x=.ref l)(h1:vs=[y])(h2:H l=some (.lst xs))(h3:xs.length<sizeLine)(h4:Q .non (upd H l (.lst (xs++[y])))):rAppend x vs H Q
theorem nY:MtM X "list.append" rAppend:=by
 intro c s p H x m v w Q I d g h;obtain⟨l,j,y,rfl,rfl,b,o,q⟩:=h;cases d;obtain⟨u,rfl,f⟩:=g.one;obtain⟨z,a,n,r,i,e⟩:=I.lstM b;refine call_meets F.slot_list_append ⟨_,e,rfl⟩ F.entry_list_append (F.args_list_append_2 _ _) (PySem.list_append l a.toArray n u (by rw[size_toArray];lia)) ⟨e,?_⟩;refine⟨.non,_,I.lset (its':=a++[u]) b e (by simp) (r.append (.cons f .nil)) ?_,rfl,q⟩;rw[length_append,List.length_singleton];lia
inductive rCat(x y:V)(H:Hp)(Q:VK):Prop
 | mk(l b:Addr)(xs zs:List V)(h0:x=.ref l)(h1:y=.ref b)(h2:H l=some (.lst xs))(h3:H b=some (.lst zs))(h4:xs.length+zs.length<=sizeLine)(h5:∀ p,H p=none->Q (.ref p) (upd H p (.lst (xs++zs)))):rCat x y H Q
theorem nj:OpR X (binaryOp .Add) rCat:=by
 intro d s F H x y v u Q I g f h;obtain⟨l,b,B,G,rfl,rfl,m,p,D,q⟩:=h;cases g;cases f;obtain⟨z,c,n,r,A,e⟩:=I.lstM m;obtain⟨C,a,E,w,i,o⟩:=I.lstM p;refine PySem.P.add_list e o ?_ (by rw[size_toArray,size_toArray];lia);have j:c.toArray++a.toArray=(c++a).toArray:=by simp
 rw[j];exact⟨.ref _,_,I.lnew (t':=s.toks) (r.append w) (by rw[length_append];lia),rfl,q _ I.fresh⟩
end
section
variable {prog:Program}{w:World}{A:Around}{E:Value->Shared->Prop}{s:Shared}
set_option maxRecDepth 100000 in
end
section
variable {X:Cx}
end
end L2
namespace Att
open PySem PySem.W PySem.Calls PyProof.Rows
theorem lm{P:Params}{h:Heap}:∀(ns:List Int) (vs:List Value),WellAll P h vs (ns.map WData.int)->IntsAre vs ns:=by
 intro ns
 induction ns with
 | nil =>
  intro vs w;rw[map_nil]at w;cases w;exact .nil
 | cons n ns ih =>
  intro vs w;rw[map_cons]at w;cases w with
  | cons a b =>
   cases a;exact .cons _ _ (ih _ b)
theorem tR{l:OpenLaw}{n:Nat}(v:l.most=some n){P:Params}{h:Heap}{args:List WData}{b:List Value}
  (c:l.row.toRowW.claim.pre args=true) (j:WellAll P h b args) :
  ∃ a vs ns,b=[Value.ref a]/\args=[WData.list (ns.map WData.int)]/\h.get? a=some { cls:=.type "list",data:=.seq vs.toArray }/\IntsAre vs ns/\ns.length<=n:=by
 have i:WShape.hasAll [] args [.list .int]=true:=(pre_splitW c).1;have m:l.pre.holds [] { args:=args }=true:=(pre_splitW c).2;obtain⟨d,r,rfl,u,s⟩:=hasAllW_cons i;obtain rfl:=hasAllW_nil s;obtain⟨w,rfl,p⟩:=hasW_list u;obtain⟨ns,rfl⟩:=items_int p
 have e:ns.length<=n:=by
  unfold OpenLaw.pre at m
  have f:(WTm.not (.lt (.lit (.int (n:Int))) (.len (.arg 0)))).holds [] { args:=[.list (ns.map .int)] }=true:=by
   have f:=(holds_andW m).1;rw[v]at f;exact f
  have g:=condW_of f (w_not (w_lt w_lit (w_len_list (w_arg rfl))));rw[length_map]at g;refine Nat.le_of_not_lt λq=>?_
  have o:(n:Int)<((ns.length:Nat):Int):=by lia
  first
   | (rw[decide_eq_true o]at g;exact absurd g (by decide))
   | (simp at g;lia)
 cases j with
 | cons w1 w2 =>
  cases w2;cases w1 with
  | list ho hall=>exact⟨_,_,ns,rfl,rfl,ho,lm ns _ hall,e⟩
theorem tE(l:OpenLaw)(args:List WData):l.row.toRowW.claim.post args (.bool true) args=true :=
 postW_of (r:=l.row.toRowW) (X:=(true == true))
  (show WShape.has [] (.bool true) .bool=true by first | rfl | decide | simp[WShape.has,WShape.arms,WShape.armsAll])
  (show(WTm.eq .res (.lit (.bool true))).value [] { args:=args,res:=some (.bool true),after:=args }=some (.bool (true == true)) from w_eq_bool (w_res rfl) w_lit) rfl
theorem attach_call{l:OpenLaw}{n:Nat}{q:Program}{b:List Str}{u:(Str->Option Value)->Heap->Prop}{v:World->Heap->Prop}{d:DefRec}
  (N:l.most=some n) (m:d.params.defaults=[])
  (e:∀(w:World) (s₀ s₁:Shared) (mg mb:Str->Option Value) (fa:Addr) (o:Obj) (pm cd doc:Value) (a:Addr) (vs:List Value) (ns:List Int),
   Ground q b [] u w s₀ mg mb s₁.heap->v w s₁.heap ->
   s₁.heap.get? fa=some o->o.data=.func (docDef d.name d.params d.body d.scope pm cd doc)->s₁.heap.CodeRec cd d.name->mg d.name=some (.ref fa) ->
   s₁.heap.get? a=some { cls:=.type "list",data:=.seq vs.toArray }->IntsAre vs ns->ns.length<=n->s₁.gens = #[] ->
   codeAny (model l.prog w) callerA (.call (.ref fa) ⟨[.ref a],[]⟩) (λr s'=>r=.ok (.ret (.bool true))/\OldK s₁.heap s'.heap/\s'.os=s₁.os/\AllBare s'.gens) s₁) :
  WalkO q b u v l.row.toRowW d [] (λf vs=>PySem.call f vs):=by
 intro w s₀ s₁ mg mb G Y fa o pm cd doc M E L F j x s I B A Q g y O p C;obtain rfl:M=.none:=Dflts.none x m;obtain rfl:E=.none:=Dflts.noKw x;obtain⟨a,vs,ns,rfl,rfl,i,c,h⟩:=tR N g p;refine enter_call (codeAny_mono (e w s₀ s₁ mg mb fa o pm cd doc a vs ns G Y L (fd_plain F) j s i c h I) λr s' H=>?_);obtain⟨rfl,K,D,P⟩:=H;exact⟨.inl ⟨.bool true,.bool true,[],rfl,λ_=>rfl,.bool true,tE l _,λ_=>⟨List.Pairwise.nil,λ_ hm=>(nomatch hm)⟩⟩,K,D,P⟩
section
variable {prog:Program}{w:World}{A:Around}{E:Value->Shared->Prop}{s:Shared}{K:Frag}
end
end Att
namespace L2
open PySem PySem.Spec PyProof.Rows
theorem ow:∀{vs:List Value}{ns:List Int},IntsAre vs ns->Vals (ns.map V.int) vs
 | _,_,.nil=>.nil
 | _,_,.cons n t h=>.cons ⟨t,rfl⟩ (ow h)
abbrev KOf{K:Frag}{h:Heap}(_:K.In h):Frag:=K
def aH(s:Stmt)(j:Nat):Stmt:=match s with
 | .ClassDef _ _ _ body _ _ _ _ _ _ _=>body.getD j (.Pass ⟨0,0,0,0⟩)
 | _=>.Pass ⟨0,0,0,0⟩
def jP(s:Stmt):Arguments:=match s with
 | .FunctionDef _ a _ _ _ _ _ _ _ _=>a
 | _=>{ posonlyargs:=[],args:=[],vararg:=none,kwonlyargs:=[],kw_defaults:=[],kwarg:=none,defaults:=[] }
def eX(s:Stmt):List Stmt:=match s with
 | .FunctionDef _ _ b _ _ _ _ _ _ _=>b
 | _=>[]
def am(s:Stmt):Scope:=match s with
 | .FunctionDef _ _ _ _ _ _ sc _ _ _=>sc
 | _=>{ kind:=.function,names:=[],isGenerator:=false,isCoroutine:=false }
abbrev CX0:CXT:=λ_ _ _ _ _ _=>False
abbrev E0:XK:=λ_ _ _=>False
theorem af{X:Cx}:iB CX0 X E0:=λ_ _ _ _ _ _ _ h=>h.elim
structure Fun(K:Frag)(x qual:Str)(st:Stmt)(f:Addr)(fd:FuncData):Prop where
 ex:∃(oc:Value) (od:Option Addr) (kV doc pm:Value) (an:Option Addr) (cdv ct:Value) (osl:Array (Option Value)),
  fd=fnOf x qual (jP st) (eX st) (am st) .none kV doc pm an cdv ct/\K.lookup f=some ⟨oc,od,.func fd,osl⟩/\codeIn K cdv qual=true
 kp:keepIn K (.ref f)=true
section
variable {P:Program}{w:World}{K:Frag}{mg:Str->Option Value}{base:Heap}
theorem Fun.ok{x a:Str}{st:Stmt}{f:Addr}{g:FuncData}{N ps:List Str}{k:Nat}{sp:Sp}(F:Fun K x a st f g)(S:FnScope N ps (am st))(d:∀ vs H Q E,sp vs H Q E->vs.length=ps.length)
  (b:∀(cdv:Value) (A:Around) (outer:List Env) (s:Shared) (H:Hp) (vs:List V) (Q:VK) (E:XK),Room k (A.deeper (envOfC a (am st) s.heap.objs.size f cdv))->sp vs H Q E ->
   ∃ t,PSs (gF CX0 P w K mg base N a (am st) f cdv A outer s H E).nox (eX st) t/\t { nx:=λ_ H'=>Q .non H',rt:=Q } (start N vs) H):FnOk P w K mg base CX0 (k+1) f g ps sp:=by
 obtain⟨y,o,u,i,p,r,cdv,v,l,rfl,j,c⟩:=F.ex;refine vN j c S d λA outer s H vs Q E m e=>?_
 obtain⟨t,h,q⟩:=b cdv A outer s H vs Q E m e;exact⟨t,h.nox,q⟩
theorem Fun.binds{x a:Str}{st:Stmt}{f:Addr}{b:FuncData}{ps:List Str}(F:Fun K x a st f b)
  (h:∀(kV doc pm:Value) (an:Option Addr) (cdv ct:Value) (us:List Value),us.length=ps.length->bindArgs (fnOf x a (jP st) (eX st) (am st) .none kV doc pm an cdv ct) ⟨us,[]⟩=pure (ps.zip us)):Binds K b ps []:=by
 obtain⟨i,e,kV,doc,pm,an,cdv,ct,d,rfl,g,c⟩:=F.ex;exact .all (h kV doc pm an cdv ct)
theorem ak{x a:Str}{st:Stmt}{f:Addr}{o:Value}{m h:Option Addr}{e:Array (Option Value)}{i d g b j:Value}(l:K.lookup f=some ⟨o,m,.func (fnOf x a (jP st) (eX st) (am st) .none i d g h b j),e⟩)
  (c:codeIn K b a=true) (k:keepIn K (.ref f)=true):Fun K x a st f (fnOf x a (jP st) (eX st) (am st) .none i d g h b j):=⟨⟨o,m,i,d,g,h,b,j,e,rfl,l,c⟩,k⟩
end
theorem nX{A:Around}{k:Nat}(a:Room k A):A.units+1<cLine:=Nat.lt_of_le_of_lt (Nat.add_le_add_left (by decide:1<=64) _) a.units
section
variable {X:Cx}
end
theorem Cb{A B:Prop}(h:B):if false=true then A else B:=by
 rw[if_neg Bool.false_ne_true];exact h
theorem Bk{c A B:Prop}[Decidable c](a:c->A)(h2:¬c->B):if c then A else B:=by
 by_cases h:c
 .rw[if_pos h]
  exact a h
 .rw[if_neg h]
  exact h2 h
theorem Ah{c A B:Prop}[Decidable c](a:c)(h:B):if (!decide c)=true then A else B:=by
 rw[decide_eq_true a];exact Cb h
def Same(H H':Hp):Prop:=∀ b o,H b=some o->H' b=some o
theorem Same.refl(H:Hp):Same H H:=λ_ _ h=>h
theorem Same.trans{H d e:Hp}(a:Same H d)(b:Same d e):Same H e:=λc o h=>b c o (a c o h)
theorem Same.free{H a:Hp}(e:Same H a){l:Addr}(h:a l=Option.none):H l=Option.none:=by
 cases q:H l with
 | none=>rfl
 | some o =>
  rw[e l o q]at h;cases h
end L2
set_option maxHeartbeats 4000000
namespace L2
open PySem PySem.Spec PyProof.Rows
def Its(x:Str):It:=⟨λi _=>i<x.cps.size,λi H y H'=>H'=H/\∃ c,x.cps[i]? = some c/\y=.str ⟨#[c]⟩,λi _=>x.cps.size<=i⟩
theorem qN{P:Program}{w:World}{K:Frag}{tg:Expr}(x:Str)(m:Addr){ty:String}{t:Tok}(u:ty = "str_ascii_iterator" \/ ty = "str_iterator") :
  Turn P w K tg (Its x) [m] m (λi h=>h.IsStrIter m ty x t i) where
 mem:=by simp
 obj:=λi h f b a=>by
  have e:b=m:=by simpa using a
  subst e;obtain⟨o,e,c,d⟩:=f;exact⟨o,e,λv z=>by rw[d]at z;cases z⟩
 keep:=λi h l f k=>by
  obtain⟨o,e,r⟩:=f;exact⟨o,k m (by simp) o e,r⟩
 item:=by
  intro X R N M L i g s T H E I y f Q;subst R N M;have p:i<x.cps.size:=Q;obtain⟨D,C,W,A,F,B⟩:=y m (by simp)
  rcases u with rfl | rfl
  .refine wpAny_pyNext_ascii_item f (c:=x.cps[i]) (by simp[p]) λl j O=>?_
   have S:Inv X g T H { s with heap:=l,toks:=s.toks+1 }:=I.turned (λb o a e=>(O.2 b a).trans e) D C A F B;obtain⟨o,e,c,d⟩:=id j;exact⟨_,rfl,qH (s:={ s with heap:=l,toks:=s.toks+1 }) e c d (by decide) ⟨.str ⟨#[x.cps[i]]⟩,H,S,⟨_,rfl⟩,⟨rfl,x.cps[i],by simp[p],rfl⟩,j,λb a=>(y b a).1⟩⟩
  .refine wpAny_pyNext_wide_item f (c:=x.cps[i]) (by simp[p]) λl j O=>?_
   have S:Inv X g T H { s with heap:=l,toks:=s.toks+1 }:=I.turned (λb o a e=>(O.2 b a).trans e) D C A F B;obtain⟨o,e,c,d⟩:=id j;exact⟨_,rfl,qH (s:={ s with heap:=l,toks:=s.toks+1 }) e c d (by decide) ⟨.str ⟨#[x.cps[i]]⟩,H,S,⟨_,rfl⟩,⟨rfl,x.cps[i],by simp[p],rfl⟩,j,λb a=>(y b a).1⟩⟩
 done:=by
  intro X R N M L i g s T H E I y f Q;subst R N M;have p:x.cps.size<=i:=Q;obtain⟨D,C,W,A,F,B⟩:=y m (by simp)
  rcases u with rfl | rfl
  .exact wpAny_pyNext_ascii_end (I.ok.hd L) f (by simp[p]) λl G=>⟨rfl,I.turned (t':=s.toks) (λb o a e=>G b o a e) D C A F B⟩
  .exact wpAny_pyNext_wide_end (I.ok.hd L) f (by simp[p]) λl G=>⟨rfl,I.turned (t':=s.toks) (λb o a e=>G b o a e) D C A F B⟩
 self:=λ_ _ _ _ _ f h=>by
  rcases u with rfl | rfl
  .exact wpAny_pyIter_striter_ascii f h
  .exact wpAny_pyIter_striter_wide f h
def BX(tl:TE):TI:=λσ H R=>tl σ H λx H1=>∃ z,x=.str z/\R (Its z) H1
theorem zP{X:Cx}{tg l:Expr}{tl:TE}(f:PE X l tl):PI X tg l (BX tl):=by
 intro a s j H R I h;refine thn (f a s j H _ I h) λv c ⟨x,g,d,m,i⟩=>?_
 obtain⟨z,e,q⟩:=i;subst e;obtain⟨t,rfl⟩:=m;refine wpAny_pyIter_strU ?_;refine⟨c.heap.objs.size,[c.heap.objs.size],_,_,g,rfl,d.kept (t':=c.toks) λb o e=>Heap.get?_push_of_some _ e,qN (ty:=strIterType z) (t:=t) z _ ?_,⟨_,Heap.get?_push_size _ rfl,rfl,rfl⟩,λb hb=>?_,q⟩
 .unfold strIterType
  split
  .exact .inl rfl
  .exact .inr rfl
 .have e:b=c.heap.objs.size:=by simpa using hb
  subst e;exact d.fpOk (Nat.le_refl _) (d.hok.fresh (Nat.le_refl _))
def Wk:St->St->Prop
 | [],[]=>True
 | Option.none::r,_::q=>Wk r q
 | some a::r,b::q=>b=some a/\Wk r q
 | _,_=>False
theorem Wk.len:∀{a b:St},Wk a b->a.length=b.length
 | [],[],_=>rfl
 | Option.none::r,_::q,h=>congrArg (· + 1) (Wk.len (a:=r) (b:=q) h)
 | some _::r,_::q,h=>congrArg (· + 1) (Wk.len (a:=r) (b:=q) h.2)
 | [],_::_,h=>h.elim
 | Option.none::_,[],h=>h.elim
 | some _::_,[],h=>h.elim
theorem Wk.get:∀{a b:St},Wk a b->∀(i:Nat) v,a[i]? = some (some v)->b[i]? = some (some v)
 | [],[],_,i,v,e=>by simp at e
 | Option.none::r,y::q,h,0,v,e=>by simp at e
 | Option.none::r,y::q,h,i+1,v,e=>by simpa using Wk.get (a:=r) (b:=q) h i v (by simpa using e)
 | some x::r,y::q,h,0,v,e=>by
  have c:x=v:=by simpa using e
  rw[h.1,c] <;> simp
 | some x::r,y::q,h,i+1,v,e=>by simpa using Wk.get (a:=r) (b:=q) h.2 i v (by simpa using e)
 | [],_::_,h,_,_,_=>h.elim
 | Option.none::_,[],h,_,_,_=>h.elim
 | some _::_,[],h,_,_,_=>h.elim
def gg(cells:List (Str×Addr)):List (Str×NameKind)->List (Str×Addr)->List (Str×Addr)
 | [],acc=>acc
 | (n,k)::r,acc=>if k == .free then gg cells r ((n,(cells.lookup n).getD 0)::acc) else gg cells r acc
theorem ii{d:Scope}{env:Env}(h:∀ y∈d.names,y.2=.free->∃ c,env.cells.lookup y.1=some c):closureFor d env=pure (gg env.cells d.names []):=by
 unfold closureFor
 have f:∀(l:List (Str×NameKind)) (b:List (Str×Addr)),(∀ y∈l,y.2=.free->∃ c,env.cells.lookup y.1=some c) ->
   (forIn l b λx r=>match x with | (name,kind)=>if (kind == .free)=true then do let a <- cellOf env name;pure (ForInStep.yield ((name,a)::r)) else pure (ForInStep.yield r):Sem (List (Str×Addr)))=pure (gg env.cells l b):=by
  intro l
  induction l with
  | nil=>intro b _;rfl
  | cons y r ih =>
   intro b i;obtain⟨n,k⟩:=y;have j:∀ y∈r,y.2=.free->∃ c,env.cells.lookup y.1=some c:=λy o=>i y (mem_cons_of_mem _ o)
   rw[forIn_cons]
   by_cases hk:k=.free
   .subst hk
    obtain⟨c,g⟩:=i (n,.free) mem_cons_self rfl;have p:cellOf env n=pure c:=by unfold cellOf;rw[g]
    have e:gg env.cells ((n,.free)::r) b=gg env.cells r ((n,c)::b):=by
     show(if (NameKind.free == NameKind.free)=true then gg env.cells r ((n,(env.cells.lookup n).getD 0)::b) else gg env.cells r b)=_;rw[if_pos (by decide),g];rfl
    rw[e,<- ih ((n,c)::b) j];show(do let x <- (if (NameKind.free == NameKind.free)=true then do let a <- cellOf env n;pure (ForInStep.yield ((n,a)::b)) else pure (ForInStep.yield b):Sem _);_)=_;rw[if_pos (by decide),p];rfl
   .have m:(k == NameKind.free)=false:=by simpa using hk
    have e:gg env.cells ((n,k)::r) b=gg env.cells r b:=by
     show(if (k == NameKind.free)=true then gg env.cells r ((n,(env.cells.lookup n).getD 0)::b) else gg env.cells r b)=_;rw[m];rfl
    rw[e,<- ih b j];show(do let x <- (if (k == NameKind.free)=true then do let a <- cellOf env n;pure (ForInStep.yield ((n,a)::b)) else pure (ForInStep.yield b):Sem _);_)=_;rw[m];rfl
 have:=f d.names [] h
 first | exact this | (rw[this];rfl) | simpa using this
theorem gm{a:List (Str×Addr)}:∀{l:List (Str×NameKind)}{acc:List (Str×Addr)}{n:Str}{c:Addr},(∀ y∈l,y.2=.free->∃ c,a.lookup y.1=some c)->(∀ n c,acc.lookup n=some c->a.lookup n=some c) ->
  (gg a l acc).lookup n=some c->a.lookup n=some c
 | [],acc,n,c,_,ha,e=>ha n c e
 | (m,k)::r,acc,n,c,hl,ha,e=>by
  have h:∀ y∈r,y.2=.free->∃ c,a.lookup y.1=some c:=λy i=>hl y (mem_cons_of_mem _ i)
  have b:(if (k == NameKind.free)=true then gg a r ((m,(a.lookup m).getD 0)::acc) else gg a r acc).lookup n=some c:=e
  by_cases hk:(k == NameKind.free)=true
  .rw[if_pos hk]at b
   refine gm h (λn c z=>?_) b;obtain⟨d,j⟩:=hl (m,k) mem_cons_self (by simpa using hk);rw[lookup_cons]at z
   by_cases hn:(n == m)=true
   .rw[hn]at z
    have:n=m:=by simpa using hn
    subst this;have f:a.lookup n=some d:=j;rw[f]at z ⊢;simpa using z
   .have g:(n == m)=false:=by simpa using hn
    rw[g]at z;exact ha n c z
  .rw[if_neg hk]at b
   exact gm h ha b
theorem i8{b:List (Str×Addr)}:∀{l:List (Str×NameKind)}{acc:List (Str×Addr)}{n:Str},((n,NameKind.free)∈l\/∃ c,acc.lookup n=some c)->∃ c,(gg b l acc).lookup n=some c
 | [],acc,n,h=>by
  rcases h with h | h
  .cases h
  .exact h
 | (m,k)::r,acc,n,h=>by
  show ∃ c,(if (k == NameKind.free)=true then gg b r ((m,(b.lookup m).getD 0)::acc) else gg b r acc).lookup n=some c
  have d:∀ a,n=m\/(∃ c,acc.lookup n=some c)->∃ c,((m,a)::acc).lookup n=some c:=λa z=>by
   rw[lookup_cons]
   by_cases hn:(n == m)=true
   .rw[hn];exact⟨_,rfl⟩
   .have f:(n == m)=false:=by simpa using hn
    rw[f]
    rcases z with z | z
    .exact absurd (by simpa using z) hn
    .exact z
  by_cases hk:(k == NameKind.free)=true
  .rw[if_pos hk]
   refine i8 ?_
   rcases h with h | h
   .rcases mem_cons.mp h with e | h
    .exact .inr (d _ (.inl (congrArg Prod.fst e)))
    .exact .inl h
   .exact .inr (d _ (.inr h))
  .rw[if_neg hk]
   refine i8 ?_
   rcases h with h | h
   .rcases mem_cons.mp h with e | h
    .have:k=.free:=(congrArg Prod.snd e).symm
     rw[this]at hk;exact absurd (by decide) hk
    .exact .inl h
   .exact .inr h
def rlb(env:Env)(p:Str×NameKind):Str×NameKind:=if (p.2 == NameKind.free && env.scope.kind == ScopeKind.function && env.kindOf p.1 == some NameKind.cell)=true then (p.1,NameKind.cell) else p
theorem nN(a:Scope)(env:Env):(relabel a env).names=a.names.map (rlb env):=rfl
theorem wv(env:Env)(p:Str×NameKind):(rlb env p).1=p.1:=by
 unfold rlb
 split <;> rfl
theorem uQ{env:Env}{p:Str×NameKind}(h:p.2≠.cell)(h2:(rlb env p).2=.cell\/(rlb env p).2=.free):p.2=.free:=by
 unfold rlb at h2
 split at h2
 .rename_i q
  rw[Bool.and_eq_true,Bool.and_eq_true]at q;simpa using q.1.1
 .rcases h2 with h2 | h2
  .exact absurd h2 h
  .exact h2
theorem jo{env:Env}:∀{names:List (Str×NameKind)}{x:Str}{k:NameKind},(∀ y∈names,y.2≠.cell)->(k=.cell\/k=.free)->(names.map (rlb env)).lookup x=some k->(x,NameKind.free)∈names
 | [],x,k,_,_,e=>by simp at e
 | p::r,x,k,hc,hk,e=>by
  have c:∀ y∈r,y.2≠.cell:=λy b=>hc y (mem_cons_of_mem _ b)
  have d:rlb env p=(p.1,(rlb env p).2):=by rw[<- wv env p]
  rw[map_cons,d,lookup_cons]at e
  by_cases hx:x=p.1
  .have a:(x == p.1)=true:=by simpa using hx
   rw[a]at e;have f:(rlb env p).2=k:=Option.some.inj e;have g:=uQ (env:=env) (hc p mem_cons_self) (by rw[f];exact hk);have:(x,NameKind.free)=p:=by rw[hx,<- g]
   rw[this];exact mem_cons_self
  .have a:(x == p.1)=false:=by simpa using hx
   rw[a]at e;exact mem_cons_of_mem _ (jo c hk e)
theorem ig{env:Env}{a:Scope}{x:Str}{k:NameKind}(b:∀ y∈a.names,y.2≠.cell)(c:k=.cell\/k=.free)(e:(relabel a env).names.lookup x=some k):(x,NameKind.free)∈a.names :=
 jo (env:=env) b c (by rw[<- nN];exact e)
def tQ(ix:List (Option Nat))(σ:St):St:=ix.map λo=>o.bind λi=>(σ[i]?).join
def fk(env:Env)(y:Str):NameKind:=if env.kindOf y == some NameKind.free then .free else .cell
theorem AB(env:Env)(y:Str):fk env y=.cell\/fk env y=.free:=by unfold fk;split <;> simp
def FreeOkF(XN:List Str)(env:Env)(sc:Scope):List Str->List (Option Nat)->Prop
 | [],[]=>True
 | _::N,Option.none::ix=>FreeOkF XN env sc N ix
 | y::N,some i::ix=>XN[i]? = some y/\env.kindOf y=some (fk env y)/\(relabel sc env).names.lookup y=some (fk env y)/\FreeOkF XN env sc N ix
 | _,_=>False
theorem FreeOkF.len{b:List Str}{env:Env}{a:Scope}:∀{N:List Str}{ix:List (Option Nat)},FreeOkF b env a N ix->ix.length=N.length
 | [],[],_=>rfl
 | _::N,Option.none::ix,h=>congrArg (· + 1) (FreeOkF.len (N:=N) (ix:=ix) h)
 | _::N,some _::ix,h=>congrArg (· + 1) (FreeOkF.len (N:=N) (ix:=ix) h.2.2.2)
 | [],_::_,h=>h.elim
 | _::_,[],h=>h.elim
theorem FreeOkF.get{c:List Str}{env:Env}{b:Scope}:∀{N:List Str}{ix:List (Option Nat)},FreeOkF c env b N ix->∀(j:Nat) (y:Str) (i:Nat),N[j]? = some y->ix[j]? = some (some i) ->
  c[i]? = some y/\env.kindOf y=some (fk env y)/\(relabel b env).names.lookup y=some (fk env y)
 | [],[],_,j,y,i,e,_=>by simp at e
 | _::N,Option.none::ix,h,0,y,i,e,e2=>by simp at e2
 | _::N,Option.none::ix,h,j+1,y,i,e,e2=>FreeOkF.get (N:=N) (ix:=ix) h j y i (by simpa using e) (by simpa using e2)
 | z::N,some k::ix,h,0,y,i,e,e2=>by
  have d:z=y:=by simpa using e
  have a:k=i:=by simpa using e2
  subst d;subst a;exact⟨h.1,h.2.1,h.2.2.1⟩
 | _::N,some _::ix,h,j+1,y,i,e,e2=>FreeOkF.get (N:=N) (ix:=ix) h.2.2.2 j y i (by simpa using e) (by simpa using e2)
 | [],_::_,h,_,_,_,_,_=>h.elim
 | _::_,[],h,_,_,_,_,_=>h.elim
def cxB(X:Cx)(sc:Scope)(C:Addr)(N:List Str)(s₀:Shared)(H₀:Hp)(fp:List Addr):Cx :=
 { X with N:=N,s₀:=s₀,H₀:=H₀,env:=compEnvC sc (gg X.env.cells sc.names []) C X.env,outer:=X.stack,ex:=fp,fn:=λ_=>false,pn:=[],xe:=λ_ _=>False }
structure CompOk(X:Cx)(sc:Scope)(N:List Str)(ix:List (Option Nat)):Prop where
 kind:sc.kind=.function
 nocell:(sc.names.all λy=>y.2 != .cell)=true
 names:(sc.names.all λy=>y.2 != .local || sc.names.lookup y.1 == some .local) = true
 free:(sc.names.all λy=>y.2 != .free || (X.env.scope.names.lookup y.1 == some .cell || X.env.scope.names.lookup y.1 == some .free))=true
 fr:FreeOkF X.N X.env sc N ix
section
variable {X:Cx}{sc:Scope}{N:List Str}{ix:List (Option Nat)}{pins:List (Addr×Obj)}{σ:St}{H:Hp}{s:Shared}
theorem CompOk.cells(c:CompOk X sc N ix)(d:X.Ok):∀ y∈sc.names,y.2=.free->∃ c,X.env.cells.lookup y.1=some c:=λy a e=>by
 have h:=all_eq_true.mp c.free y a;rw[e]at h;have b:X.env.scope.names.lookup y.1=some .cell\/X.env.scope.names.lookup y.1=some .free:=by simpa using h
 exact d.has y.1 b
theorem CompOk.nc(c:CompOk X sc N ix):∀ y∈sc.names,y.2≠.cell:=λy a=>by simpa using all_eq_true.mp c.nocell y a
theorem CompOk.nm(c:CompOk X sc N ix):∀ y ∈ sc.names,y.2 = .local->sc.names.lookup y.1 = some .local:=λy a e=>by
 have h:=all_eq_true.mp c.names y a;rw[e]at h;simpa using h
theorem uv{C:Addr}{L:List Addr}{h₁:Heap}{t':Nat}(c:CompOk X sc N ix)(I:Inv X pins σ H s)(E:∀ b∈L,FpOk X pins H b)(G:∀ b∈L,b<s.heap.objs.size)(F:s.heap.objs.size<=C)
  (W:h₁.Ns C (λ_=>none)) (h:∀ b o,s.heap.get? b=some o->h₁.get? b=some o):Inv (cxB X sc C N s H L) [] (tQ ix σ) H { s with heap:=h₁,toks:=t' }:=by
 have g:=c.cells I.ok;have a:∀ n c,(gg X.env.cells sc.names []).lookup n=some c->X.env.cells.lookup n=some c:=λn c e=>gm g (λn c z=>by simp at z) e
 refine⟨⟨I.ok.mod,c.kind,I.ok.glob,I.ok.blt,F,λx y d Y T=>I.ok.inj x y d (a x d Y) (a y d T),λx hx=>?_,λx d z=>absurd z (by simp[cxB]),I.ok.hd,I.ok.frames,.inl rfl,λb hb=>⟨?_,λx d e=>?_⟩,I.bs,Nat.le_trans I.ok.bsz I.sz,λb o e hb=>?_,λb hb hs=>?_,I.stack,I.stkFree⟩,
  rfl,I.bare,Un.kept h,⟨_,W,λj y v R B e3=>?_⟩,λx d e=>?_,I.hok.fresh F,λx d e=>I.freeC x d (a x d e),λp hp=>absurd (show p∈([]:List (Addr×Obj)) from hp) (by simp),I.hok.kept h,?_⟩
 .refine i8 (.inl ?_)
  rcases hx with hx | hx
  .exact ig c.nc (.inl rfl) (show(relabel sc X.env).names.lookup x=some .cell from hx)
  .exact ig c.nc (.inr rfl) (show(relabel sc X.env).names.lookup x=some .free from hx)
 .exact Nat.ne_of_lt (Nat.lt_of_lt_of_le (G b hb) F)
 .exact(E b hb).2.2.2.2.1 x d (a x d e)
 .rcases(E b hb).2.2.2.1 with z | z
  .exact I.ok.noex b o e z
  .exact absurd (Nat.lt_of_lt_of_le (Heap.lt_size e) (Nat.le_trans I.ok.bsz z)) (Nat.lt_irrefl _)
 .rcases mem_cons.mp (I.stkSub b hs) with z | z
  .exact(E b hb).2.1 z
  .exact(E b hb).2.2.1 z
 .have hj:∃ i,ix[j]? = some (some i)/\σ[i]? = some (some v):=by
   unfold tQ at B;rw[List.getElem?_map]at B;cases q:ix[j]? with
   | none=>rw[q]at B;cases B
   | some o =>
    rw[q]at B;cases o with
    | none=>cases B
    | some i =>
     refine⟨i,rfl,?_⟩;have f:(σ[i]?).join=some v:=Option.some.inj B;cases q2:σ[i]? with
     | none=>rw[q2]at f;cases f
     | some w=>rw[q2]at f;exact congrArg some f
  obtain⟨i,O,P⟩:=hj;obtain⟨Z,M,D⟩:=c.fr.get j y i R O;obtain⟨m,hm,S⟩:=I.loc;have K:=AB X.env y;have k9:X.env.kindOf y=some .cell\/X.env.kindOf y=some .free:=K.imp (λz=>by rw[<- z];exact M) λz=>by rw[<- z];exact M
  obtain⟨u,r,l⟩:=S i y v Z P (.inr k9);refine⟨u,r,?_⟩
  rcases l with⟨z,_⟩ | ⟨_,d,Q,A⟩
  .rcases k9 with k9 | k9 <;> (rw[k9]at z;cases z)
  .obtain⟨d',hd'⟩:∃ d',(gg X.env.cells sc.names []).lookup y=some d':=i8 (.inl (ig c.nc K D))
   have:=a y d' hd';rw[Q]at this;cases this;exact .inr ⟨K.imp (λz=>(by rw[z]at D;exact D)) (λz=>(by rw[z]at D;exact D)),d,hd',A.keeps h⟩
 .obtain⟨v,z⟩:=I.cell x d (a x d e)
  exact⟨v,z.keeps h⟩
 .show(tQ ix σ).length=N.length
  unfold tQ;rw[length_map,c.fr.len]
theorem qD{C:Addr}{c:List Addr}{a:List (Addr×Obj)}{σ':St}{d:Hp}{s':Shared}(I:Inv X pins σ H s)(f:∀ b∈c,FpOk X pins H b)(J:Inv (cxB X sc C N s H c) a σ' d s'):Inv X pins σ d s':=by
 refine I.call' (ch:=c) J.os J.base J.hok J.bare λb j=>?_
 obtain⟨m,e,l,g,h,i⟩:=f b j;exact⟨g,e,h,i⟩
end
def PTs(X:Cx)(ifs:List Expr)(t:TT):Prop :=
 ∀(pins:List (Addr×Obj)) (s:Shared) (σ:St) (H:Hp) (Q:Bool->Hp->Prop),Inv X pins σ H s->t σ H Q ->
  wpAny (model X.prog X.w) X.A (forIn ifs true λc r=>if r=true then do let ok <- isTrue c X.env (eval c X.env);pure (ForInStep.yield ok) else pure (ForInStep.yield r)) (TP X pins σ Q) X.xe s
def BW:TT:=λ_ H Q=>Q true H
theorem aL{X:Cx}:PTs X [] BW:=λ_ _ _ H _ I h=>wpAny_tests_nil ⟨H,I,h⟩
theorem iU{X:Cx}{c:Expr}{t:TT}(h:PT X c t):PTs X [c] t:=λa s b H Q I d=>wpAny_tests_one (h a s b H Q I d)
def mi(J:It)(D:Addr)(σb:St)(g:TG)(tt:TT)(te:TE)(Q:Hp->List V->Prop)(W:Nat->Nat->List V->Hp->Prop):Prop :=
 ∀ i m ys H,W i m ys H->H D=some (.lst ys)/\((J.stop i H/\Q H ys)\/(J.go i H/\∀ x H3,J.yld i H x H3->g x σb H3 λσ4 H4=>Wk σb σ4/\tt σ4 H4 λb H5 =>
  if b=true then te σ4 H5 λy H6=>H6 D=some (.lst ys)/\ys.length<sizeLine/\∃ m',m'<m/\W (i+1) m' (ys++[y]) (upd H6 D (.lst (ys++[y]))) else ∃ m',m'<m/\W (i+1) m' ys H5))
def yu(ix:List (Option Nat))(wi:TI)(g:TG)(tt:TT)(te:TE):TE:=λσ H Q=>wi σ H λJ H1=>∀ D,H1 D=none->∃ W,(∃ m,W 0 m [] (upd H1 D (.lst [])))/\mi J D (tQ ix σ) g tt te (λH _=>Q (.ref D) H) W
section
variable {X:Cx}{sc:Scope}{N:List Str}{ix:List (Option Nat)}{elt tg iter:Expr}{ifs:List Expr}{pos:Pos}{wi:TI}{g:TG}{tt:TT}{te:TE}
structure Blk(X:Cx)(sc:Scope)(N:List Str)(tg elt:Expr)(ifs:List Expr)(g:TG)(tt:TT)(te:TE):Prop where
 tg:∀ C s H fp,PG (cxB X sc C N s H fp) tg g
 tests:∀ C s H fp,PTs (cxB X sc C N s H fp) ifs tt
 elt:∀ C s H fp,PE (cxB X sc C N s H fp) elt te
theorem ul{J:It}{l:List Addr}{O D:Addr}{G:Nat->Heap->Prop}{a:St}{Q:Hp->List V->Prop}{R:Result->Shared->Prop}{W:Nat->Nat->List V->Hp->Prop}
  (hc:X.calm=true) (N:X.xe=λ_ _=>False) (T:Turn X.prog X.w X.K tg J l O G) (hg:PG X tg g) (ht:PTs X ifs tt) (he:PE X elt te) (s:mi J D a g tt te Q W)
  (c:∀{H':Hp},(∀ b∈l,H' b=none)->∀ b∈l,FpOk X [] H' b)
  (ad:∀{σ':St}{H':Hp}{s':Shared}{ys:List V},Inv X [] σ' H' s'->Q H' ys->R (.ok .next) s')
  {m0 i0:Nat}{F:List V}{H0:Hp}{s0:Shared}(I0:Inv X [] a H0 s0) (Y:G i0 s0.heap) (ab:∀ b∈l,H0 b=none) (w0:W i0 m0 F H0) :
  codeAny (model X.prog X.w) X.A (.compLoop (.ListComp elt [⟨tg,iter,ifs,0⟩] sc pos) 0 (.ref O) (.ref D) X.env) R s0:=by
 have f:∀{E':Value->Shared->Prop}(e:Value) (s':Shared),X.xe e s'->E' e s':=λ{E'} e s' z=>by rw[N]at z;exact z.elim
 refine codeAny_loop rfl (λn s'=>∃ i ys H',Inv X [] a H' s'/\G i s'.heap/\(∀ b∈l,H' b=none)/\W i n ys H') ?_ m0 ⟨i0,F,H0,I0,Y,ab,w0⟩;rintro n S ⟨i,ys,H3,I3,B,A,w3⟩;show wpAny _ X.A ((compTurn (.ListComp elt [⟨tg,iter,ifs,0⟩] sc pos) 0 (.ref O) (.ref D) X.env).onRaise (λx=>do noteFrame x X.env;theTreesLotGoes x)) _ _ S;refine wpAny_noted ?_;rw[compTurn_list];refine wpAny_bind (wpAny_standAt (wpAny_bind ?_));obtain⟨ap,next⟩:=s i n ys H3 w3
 rcases next with⟨w,q⟩ | ⟨go,E⟩
 .refine thn (T.done X rfl rfl rfl hc i [] S a H3 _ I3 (c A) B w) λr s4 ⟨hr,I4⟩=>?_
  subst hr;exact wpAny_pure (ad I4 q)
 .refine thn (T.item X rfl rfl rfl hc i [] S a H3 _ I3 (c A) B go) λr s4 ⟨u,hr,h4⟩=>?_
  subst hr;refine wpAny_bind (thn h4 λ_ s5 ⟨x,H5,I5,r5,y5,m,K⟩=>?_);have an:=I5.pinned (c K) (T.obj _ _ m)
  have h:∀{σ':St}{H':Hp}{s':Shared},Inv X ([]++mM l s5.heap) σ' H' s'->Wk a σ'->Inv X [] a H' s'/\G (i+1) s'.heap/\∀ b∈l,H' b=none:=λ{σ' H' s'} p C=>by
   refine⟨(p.unpinned).weak C.len C.get,T.keep _ _ _ m λb H o e=>(p.pin (b,o) (mem_append_right _ (mem_append_right _ (hZ H e)))).1,λb H=>?_⟩;obtain⟨o,e,d⟩:=T.obj _ _ m b H;exact(p.pin (b,o) (mem_append_right _ (mem_append_right _ (hZ H e)))).2.1
  refine wpAny_bind (wpAny_mono (hg _ s5 a H5 x u _ an r5 (E x H5 y5)) (λ_ s6 ⟨j,H6,I6,C,q6⟩=>?_) f);refine wpAny_bind (wpAny_mono (ht _ s6 j H6 _ I6 q6) (λok s7 ⟨H7,p,q7⟩=>?_) f);cases ok with
  | false =>
   obtain⟨M,hm,w7⟩:=q7;obtain⟨P,b2,Z⟩:=h p C;exact wpAny_pure ⟨rfl,M,hm,i+1,ys,H7,P,b2,Z,w7⟩
  | true =>
   refine wpAny_bind (wpAny_bind (wpAny_mono (he _ s7 j H7 _ p q7) (λv s8 ⟨y,H8,I8,r8,I,L,M,hm,w8⟩=>?_) f));refine wpAny_bind (wpAny_mono (nY _ s8 j H8 (.ref D) [y] (.ref D) [v] (λ_ H9=>H9=upd H8 D (.lst (ys++[y]))) I8 rfl (.cons r8 .nil) ⟨D,ys,y,rfl,rfl,I,L,rfl⟩) (λ_ s9 ⟨z,H9,I9,_,e9⟩=>?_) f);subst e9;obtain⟨P,b2,Z⟩:=h I9 C;exact wpAny_pure (wpAny_pure ⟨rfl,M,hm,i+1,ys++[y],_,P,b2,Z,w8⟩)
theorem om{a:List (Addr×Obj)}{M:St}{H:Hp}{s:Shared}{E:Value->Shared->Prop}{RR:Value->Addr->Result->Shared->Prop}{P:Addr}{i:List Addr}{G:Nat->Heap->Prop}{J:It}{Q:Addr->Hp->List V->Prop}
  (hc:X.calm=true) (c:CompOk X sc N ix) (B:Blk X sc N tg elt ifs g tt te) (I:Inv X a M H s) (T:Turn X.prog X.w X.K tg J i P G) (st:G 0 s.heap) (hf:∀ b∈i,FpOk X a H b)
  (h:∀ D,H D=none->∃ W,(∃ m,W 0 m [] (upd H D (.lst [])))/\mi J D (tQ ix M) g tt te (Q D) W)
  (hR:∀ D C H' s' ys,Inv X a M H' s'->FpOk X a H' C->(∃ m,s'.heap.Ns C m)->Q D H' ys->RR (.ref D) C (.ok .next) s') :
  wpAny (model X.prog X.w) X.A (newList []) (λacc s₃=>wpAny (model X.prog X.w) X.A (newFunctionEnv sc X.env.globals (gg X.env.cells sc.names []) [] X.env.qual none .none (some X.env)) (λcenv s₄ =>
   codeAny (model X.prog X.w) X.A (.compStart (.ListComp elt [⟨tg,iter,ifs,0⟩] sc pos) 0 (.ref P) acc { cenv with scope:=relabel sc X.env }) (RR acc cenv.locals) s₄) E s₃) E s:=by
 have R:∀ b∈i,b<s.heap.objs.size:=λb f=>let ⟨o,e,_⟩:=T.obj _ _ st b f;Heap.lt_size e
 refine wpAny_newObj_type ?_ (by show 0<=sizeLine;exact Nat.zero_le _);have hD:H s.heap.objs.size=none:=I.hok.fresh (Nat.le_refl _);obtain⟨W,⟨m0,w0⟩,v⟩:=h s.heap.objs.size hD;have K:Inv X a M (upd H s.heap.objs.size (.lst [])) { s with heap:=s.heap.push { cls:=.type "list",data:=.seq ([]:List Value).toArray } }:=I.lnew (t':=s.toks) (its:=[]) .nil (Nat.zero_le _);have k1:∀ b o,s.heap.get? b=some o->(s.heap.push { cls:=.type "list",data:=.seq ([]:List Value).toArray }).get? b=some o:=λb o e=>Heap.get?_push_of_some _ e
 have O:∀ b∈i,b≠s.heap.objs.size:=λb f=>Nat.ne_of_lt (R b f)
 have j:∀ b∈i,FpOk X a (upd H s.heap.objs.size (.lst [])) b:=λb f=>⟨by rw[ar (O b f)];exact(hf b f).1,(hf b f).2⟩
 have w:G 0 (s.heap.push { cls:=.type "list",data:=.seq ([]:List Value).toArray }):=T.keep _ _ _ st λb _ o e=>k1 b o e
 generalize hs1:({ s with heap:=s.heap.push { cls:=.type "list",data:=.seq ([]:List Value).toArray } }:Shared)=s1 at K;have l:s1.heap=s.heap.push { cls:=.type "list",data:=.seq ([]:List Value).toArray }:=by rw[<- hs1]
 generalize hDe:s.heap.objs.size=D at *;show wpAny _ _ _ _ _ s1;refine wpAny_newFunctionEnv c.nc (by intro y hy;simp at hy) (λh₁ hns₁ hsb₁=>?_) c.kind;have A:∀ b o,s1.heap.get? b=some o->h₁.get? b=some o:=λb o e=>(hsb₁.2 b (Nat.ne_of_lt (Heap.lt_size e))).trans (Heap.get?_push_of_some _ e)
 have r:∀ b∈i,b<s1.heap.objs.size:=λb f=>by
  obtain⟨o,e,_⟩:=T.obj _ _ w b f;rw[l];exact Heap.lt_size e
 have J0:=uv (h₁:=h₁) (t':=s1.toks+([]:List (Str×Value)).length) c K j r (Nat.le_refl _) (by simpa using hns₁) A;have L:G 0 h₁:=T.keep _ _ _ (by rw[l];exact w:G 0 s1.heap) λb _ o e=>A b o e
 have S:∀{H':Hp},(∀ b∈i,H' b=none)->∀ b∈i,FpOk (cxB X sc s1.heap.objs.size N s1 (upd H D (.lst [])) i) [] H' b:=λ{H'} Y b f=>by
  obtain⟨f0,f1,f2,f3,f4,f5⟩:=j b f;refine⟨Y b f,Nat.ne_of_lt (r b f),?_,.inl f,λx d e=>f4 x d (gm (c.cells I.ok) (λn c z=>by simp at z) e),λp hp=>absurd (show p∈([]:List (Addr×Obj)) from hp) (by simp)⟩;intro z
  rcases mem_cons.mp (K.stkSub b z) with q | q
  .exact f1 q
  .exact f2 q
 have Z:∀{F:St}{H':Hp}{s':Shared}{ys:List V},Inv (cxB X sc s1.heap.objs.size N s1 (upd H D (.lst [])) i) [] F H' s'->Q D H' ys->RR (.ref D) s1.heap.objs.size (.ok .next) s':=λ{F H' s' ys} J q =>
  hR D _ H' s' ys (qD K j J) (K.fpOk (Nat.le_refl _) J.free) (let ⟨m,Y,_⟩:=J.loc;⟨m,Y⟩) q
 have u:codeAny (model X.prog X.w) X.A (.compLoop (.ListComp elt [⟨tg,iter,ifs,0⟩] sc pos) 0 (.ref P) (.ref D) (cxB X sc s1.heap.objs.size N s1 (upd H D (.lst [])) i).env) (RR (.ref D) s1.heap.objs.size) { s1 with heap:=h₁,toks:=s1.toks+([]:List (Str×Value)).length } :=
  ul (X:=cxB X sc s1.heap.objs.size N s1 (upd H D (.lst [])) i) hc rfl T (B.tg _ _ _ _) (B.tests _ _ _ _) (B.elt _ _ _ _) v S Z J0 L (λb f=>(j b f).1) w0
 exact codeAny_compStart_list u (T.self _ 0 _ _ _ L u)
theorem aP(u:X.calm=true)(c:CompOk X sc N ix)(y:PI X tg iter wi)(B:Blk X sc N tg elt ifs g tt te)(L:∀ x,foldedSetIterable iter X.env x=pure x:=by intro _;rfl):PE X (.ListComp elt [⟨tg,iter,ifs,0⟩] sc pos) (yu ix wi g tt te):=by
 intro a s m H Q I h;rw[eval_ListComp];refine wpAny_comprehension_free (use:=none) rfl L (ii (c.cells I.ok)) c.kind c.nm (thn (y a s m H _ I h) λZ l d=>thn d λitv s₂ h₂=>?_);obtain⟨W,fp,tn,J,Y,e,O,T,f,j,F⟩:=h₂;subst e;refine om (RR:=λi C=>compPost (model X.prog X.w) X.A X.xe none (EP X a m Q) i C) (Q:=λD H _=>Q (.ref D) H) u c B O T f j F ?_;intro D C M p ys r R K q;refine⟨_,K.choose_spec,λh' E=>⟨.ref D,M,?_,rfl,q⟩⟩;obtain⟨G,A,j,v,P,w⟩:=R;exact r.turned (t':=p.toks) (λb o S e=>(E.2 b S).trans e) G A v P w
theorem fA{i:Nat}{y:Str}{j f:Pos}(S:X.calm = true)(hN:X.N.Nodup)(W:X.N[i]? = some y)(L:X.env.scope.names.lookup y = some .local)
  (F:swapsWith (.ListComp elt [⟨tg,iter,ifs,0⟩] sc pos) (some (.Name y j)) f.line X.env=pure true)
  (c:CompOk X sc N ix) (hi:PI X tg iter wi) (B:Blk X sc N tg elt ifs g tt te) (hs:∀ x,foldedSetIterable iter X.env x=pure x:=by intro _;rfl) :
  PS X (.Assign [.Name y j] (.ListComp elt [⟨tg,iter,ifs,0⟩] sc pos) f) (yN (yu ix wi g tt te) (sZ i)):=by
 intro d s P H u I h;rw[exec_Assign_Name_used _ _ _ _ F];refine wpAny_bind (wpAny_standAt (wpAny_bind ?_));show wpAny _ X.A (do let _ <- comprehension (.ListComp elt [⟨tg,iter,ifs,0⟩] sc pos) sc X.env _ (newList []) false (eval iter X.env) (some (assign (.Name y j) X.env))) _ _ s
 refine wpAny_bind (wpAny_mono (wpAny_comprehension_free (use:=some (assign (.Name y j) X.env)) (Q:=λ_ l=>SP X d u .next l) rfl hs (ii (c.cells I.ok)) c.kind c.nm
  (thn (hi d s P H _ I h) λxv O p=>thn p λitv s₂ h₂=>?_)) (λ_ l hq=>wpAny_pure (wpAny_pure hq)) λ_ _ e=>e)
 obtain⟨it,fp,tn,J,H2,e,I2,T,r,G,q2⟩:=h₂;subst e;refine om (RR:=λw C=>compPost (model X.prog X.w) X.A X.xe (some (assign (.Name y j) X.env)) (λ_ l=>SP X d u .next l) w C) (Q:=λD H _=>u.nx (P.set i (some (.ref D))) H) S c B I2 T r G q2 ?_;intro D C H' l ys R fC ns q;show wpAny _ X.A (assign (.Name y j) X.env (.ref D)) _ _ _;obtain⟨f0,K,G,Y,M,Z⟩:=fC;refine wpAny_assign_Name (n6 R hN W (.inl L) (v:=.ref D) rfl (λs2 J2 ⟨a,sb,ha⟩=>?_) (.inr L));obtain⟨m,hn⟩:=ns
 have E:C≠a:=by
  rcases ha with z | z
  .rw[z];exact K
  .exact λe=>M y a z e.symm
 refine⟨m,hn.sameBut sb E,λh3 A=>⟨_,H',?_,q⟩⟩;exact J2.turned (t':=s2.toks) (λb o hb e=>(A.2 b hb).trans e) f0 K Y M Z
end
section
variable {κ:Type} [DecidableEq κ]
def cR(kvs:List (κ×V))(k:κ):Option V:=(kvs.find? λkv=>decide (kv.1=k)).map (·.2)
def eL(kvs:List (κ×V))(k:κ)(v:V):List (κ×V) :=
 if (kvs.any λkv=>decide (kv.1=k))=true then kvs.map (λkv=>if kv.1=k then (kv.1,v) else kv) else kvs++[(k,v)]
theorem cz{p:κ×V}{r:List (κ×V)}{k:κ}(e:p.1=k):cR (p::r) k=some p.2:=by simp[cR,List.find?_cons,e]
theorem cI{p:κ×V}{r:List (κ×V)}{k:κ}(e:¬p.1=k):cR (p::r) k=cR r k:=by simp[cR,List.find?_cons,e]
theorem gU(k:κ):∀ kvs:List (κ×V),(kvs.any λkv=>decide (kv.1=k))=(cR kvs k).isSome
 | []=>rfl
 | p::r=>by
  rw[any_cons]
  by_cases e:p.1=k
  .simp only[cz e,decide_eq_true e,Bool.true_or,Option.isSome_some]
  .rw[cI e,decide_eq_false e,Bool.false_or];exact gU k r
theorem qG(k j:κ)(y:V):∀ kvs:List (κ×V),cR (kvs.map λkv=>if kv.1=k then (kv.1,y) else kv) j=(cR kvs j).map λx=>if j=k then y else x
 | []=>rfl
 | p::r=>by
  have a:=qG k j y r;rw[map_cons]
  by_cases h:p.1=k
  .rw[if_pos h]
   by_cases e:p.1=j
   .rw[cz (p:=(p.1,y)) e,cz e,Option.map_some,if_pos (e.symm.trans h)]
   .rw[cI (p:=(p.1,y)) e,cI e,a]
  .rw[if_neg h]
   by_cases e:p.1=j
   .rw[cz (p:=p) e,cz e,Option.map_some,if_neg (λz=>h (e.trans z))]
   .rw[cI (p:=p) e,cI e,a]
theorem oy(k j:κ)(y:V):∀ kvs:List (κ×V),cR kvs k=none->cR (kvs++[(k,y)]) j=if j=k then some y else cR kvs j
 | [],_=>by
  by_cases e:k=j
  .rw[if_pos e.symm];exact cz (p:=(k,y)) e
  .rw[if_neg (λz=>e z.symm)];exact cI (p:=(k,y)) e
 | p::r,hn=>by
  rw[List.cons_append];have a:¬p.1=k:=λz=>by rw[cz z]at hn;cases hn
  rw[cI a]at hn;have b:=oy k j y r hn
  by_cases e:p.1=j
  .rw[cz e,cz e,if_neg (λz=>a (e.trans z))]
  .rw[cI e,cI e,b]
theorem iN(b:List (κ×V))(k j:κ)(y:V):cR (eL b k y) j=if j=k then some y else cR b j:=by
 unfold eL
 by_cases a:(b.any λc=>decide (c.1=k))=true
 .rw[if_pos a,qG]
  rw[gU]at a
  by_cases e:j=k
  .obtain⟨x,d⟩:=Option.isSome_iff_exists.mp a
   rw[if_pos e,e,d,Option.map_some,if_pos rfl]
  .rw[if_neg e]
   cases cR b j with
   | none=>rfl
   | some x=>rw[Option.map_some,if_neg e]
 .rw[if_neg a]
  refine oy k j y b ?_;rw[gU]at a;cases q:cR b k with
  | none=>rfl
  | some x=>rw[q]at a;exact(a rfl).elim
theorem gh(a:List (κ×V))(k:κ)(v:V):(eL a k v).length<=a.length+1:=by
 unfold eL
 split
 .rw[length_map];lia
 .rw[length_append,length_cons,length_nil];lia
theorem vn{a:List (κ×V)}{k:κ}(v:V)(h:cR a k=none):eL a k v=a++[(k,v)]:=by
 unfold eL;rw[gU,h];exact if_neg (by decide)
theorem RelO.isSome_eq{o:Option V}{u:Option Value}(r:RelO o u):o.isSome=u.isSome:=by
 cases o with
 | none=>cases u with
  | none=>rfl
  | some _=>exact(show False from r).elim
 | some _=>cases u with
  | none=>exact(show False from r).elim
  | some _=>rfl
theorem RelO.getD{o:Option V}{u:Option Value}{d:V}{d':Value}(r:RelO o u)(a:RelV d d'):RelV (o.getD d) (u.getD d'):=by
 cases o with
 | none=>cases u with
  | none=>exact a
  | some _=>exact(show False from r).elim
 | some _=>cases u with
  | none=>exact(show False from r).elim
  | some _=>exact r
theorem KV.val{a:List (κ×V)}{vs:List (κ×Value)}(r:KV a vs)(k:κ):RelO (cR a k) (valueAt vs k):=by
 unfold KV at r
 induction r with
 | nil=>exact True.intro
 | @cons p q ps qs h t ih =>
  obtain⟨d,f⟩:=h
  by_cases e:p.1=k
  .have c:q.1=k:=d.symm.trans e
   have b:valueAt (q::qs) k=some q.2:=by simp[valueAt,List.find?_cons,c]
   rw[cz e,b];exact f
  .have c:¬q.1=k:=λz=>e (d.trans z)
   have b:valueAt (q::qs) k=valueAt qs k:=by simp[valueAt,List.find?_cons,c]
   rw[cI e,b];exact ih
theorem KV.any{a:List (κ×V)}{vs:List (κ×Value)}(r:KV a vs)(k:κ):(a.any λkv=>decide (kv.1=k))=vs.any λkv=>decide (kv.1=k):=by
 unfold KV at r
 induction r with
 | nil=>rfl
 | cons h t ih=>rw[any_cons,any_cons,ih,h.1]
theorem KV.repl{a:List (κ×V)}{vs:List (κ×Value)}(r:KV a vs)(k:κ){y:V}{u:Value}(d:RelV y u) :
  KV (a.map λkv=>if kv.1=k then (kv.1,y) else kv) (vs.map λkv=>if kv.1=k then (kv.1,u) else kv):=by
 unfold KV at r ⊢
 induction r with
 | nil=>exact .nil
 | @cons p q ps qs h t ih =>
  rw[map_cons,map_cons];refine .cons ?_ ih;obtain⟨b,c⟩:=h
  by_cases e:p.1=k
  .rw[if_pos e,if_pos (b.symm.trans e)];exact⟨b,d⟩
  .rw[if_neg e,if_neg (λz=>e (b.trans z))];exact⟨b,c⟩
theorem KV.put{a:List (κ×V)}{vs:List (κ×Value)}(r:KV a vs)(k:κ){y:V}{u:Value}(b:RelV y u):KV (eL a k y) (stored vs k u):=by
 unfold eL stored;rw[r.any k]
 by_cases e:(vs.any λc=>decide (c.1=k))=true
 .rw[if_pos e,if_pos e];exact r.repl k b
 .rw[if_neg e,if_neg e];exact Paired.snoc r ⟨rfl,b⟩
theorem KV.length{a:List (κ×V)}{vs:List (κ×Value)}(r:KV a vs):a.length=vs.length:=Paired.length r
end
theorem qK{P:Program}{w:World}{k:Key}{u:Value}(r:RelV (kV k) u):(bu P w).is k u=true:=by
 cases k with
 | inl i=>obtain⟨t,e⟩:=(show ∃ t,u=Value.int i t from r);subst e;exact qI P w i t
 | inr x=>obtain⟨t,e⟩:=(show ∃ t,u=Value.str x t from r);subst e;exact qh P w x t
theorem n8{P:Program}{w:World}:∀{ks:List Key}{us:List Value},Vals (ks.map kV) us->ItemsAre (bu P w) ks us
 | [],_,r=>by rw[map_nil]at r;cases r;exact .nil
 | k::ks,_,r=>by
  rw[map_cons]at r;cases r with
  | cons h t=>exact .cons (qK h) (n8 t)
abbrev KT(H:Hp):List (List Key×V)->List (List Key×Addr×Value)->Prop:=Paired λp q=>p.1=q.1/\H q.2.1=some (.tup (p.1.map kV))/\RelV p.2 q.2.2
theorem KT.val{H:Hp}{a:List (List Key×V)}{xs:List (List Key×Addr×Value)}(r:KT H a xs)(k:List Key):RelO (cR a k) ((atKey xs k).map (·.2)):=by
 induction r with
 | nil=>exact True.intro
 | @cons p q ps qs h t ih =>
  obtain⟨d,_,f⟩:=h
  by_cases e:p.1=k
  .have c:q.1=k:=d.symm.trans e
   have b:atKey (q::qs) k=some q.2:=by simp[atKey,List.find?_cons,c]
   rw[cz e,b];exact f
  .have c:¬q.1=k:=λz=>e (d.trans z)
   have b:atKey (q::qs) k=atKey qs k:=by simp[atKey,List.find?_cons,c]
   rw[cI e,b];exact ih
theorem KT.repl{H:Hp}{a:List (List Key×V)}{xs:List (List Key×Addr×Value)}(r:KT H a xs)(k:List Key){y:V}{u:Value}(d:RelV y u) :
  KT H (a.map λkv=>if kv.1=k then (kv.1,y) else kv) (xs.map (putAt k u)):=by
 induction r with
 | nil=>exact .nil
 | @cons p q ps qs h t ih =>
  rw[map_cons,map_cons];refine .cons ?_ ih;obtain⟨b,c,f⟩:=h;unfold putAt
  by_cases e:p.1=k
  .rw[if_pos e,if_pos (b.symm.trans e)];exact⟨b,c,d⟩
  .rw[if_neg e,if_neg (λz=>e (b.trans z))];exact⟨b,c,f⟩
theorem KT.put{H:Hp}{a:List (List Key×V)}{xs:List (List Key×Addr×Value)}(r:KT H a xs)(k:List Key){b:Addr}{y:V}{u:Value}(f:H b=some (.tup (k.map kV)))(c:RelV y u) :
  KT H (eL a k y) (storedH xs k b u):=by
 have e:(a.any λd=>decide (d.1=k))=(atKey xs k).isSome:=by
  rw[gU,(r.val k).isSome_eq,Option.isSome_map]
 unfold eL storedH;rw[e]
 by_cases q:(atKey xs k).isSome=true
 .rw[if_pos q,if_pos q];exact r.repl k c
 .rw[if_neg q,if_neg q];exact Paired.snoc r ⟨rfl,f,c⟩
theorem KT.keeps{H c:Hp}{a:List (List Key×V)}{xs:List (List Key×Addr×Value)}(r:KT H a xs)(d:∀ b ys,H b=some (.tup ys)->c b=some (.tup ys)):KT c a xs :=
 Paired.mapP r λ_ _ z=>⟨z.1,d _ _ z.2.1,z.2.2⟩
section
variable {P:Program}{w:World}{H:Hp}{h:Heap}{a:Addr}
theorem yn{u:HO}(b:HOk P w H h)(e:Rd H a u):ObjOk P w H h a u:=e.ok b
theorem qS{b:List (Key×V)}(c:HOk P w H h)(e:Rd H a (.dK b)):b.length<=sizeLine/\(a == sysModules)=false/\∃ vs,KV b vs/\h.DictOf (bu P w) a vs :=
 show ObjOk P w H h a (.dK b) from yn c e
theorem sF{b:List (Key×V)}(c:HOk P w H h)(e:H a=some (.dK b)):b.length<=sizeLine/\(a == sysModules)=false/\∃ vs,KV b vs/\h.DictOf (bu P w) a vs:=qS c (.inl e)
theorem o9{b:List Key}(d:HOk P w H h)(e:H a=some (.tup (b.map kV))):(tupleKind (bu P w)).is h b a:=by
 obtain⟨_,c,r,o,i,f,n,g⟩:=(show ObjOk P w H h a (.tup (b.map kV)) from d a _ e)
 exact⟨o,c.toArray,n,i,f,g,by simpa using n8 r⟩
theorem p7{b:List (List Key×V)}(d:HOk P w H h)(e:Rd H a (.dT b)):b.length<=sizeLine/\(a == sysModules)=false /\
  ∃ xs,KT H b xs/\h.DictOfH (tupleKind (bu P w)) a xs:=by
 obtain⟨z,y,xs,r,o,s,f,v,u,i,g,j⟩:=(show ObjOk P w H h a (.dT b) from yn d e)
 refine⟨z,y,xs,r,o,s,f,v,u,i,g,λx hx=>?_,j⟩
 have c:∀{l:List (List Key×V)}{m:List (List Key×Addr×Value)},KT H l m->∀ x∈m,(tupleKind (bu P w)).is h x.1 x.2.1:=by
  intro l m q
  induction q with
  | nil=>intro x hx;exact nomatch hx
  | @cons p q ps qs hq t ih =>
   intro x hx
   rcases mem_cons.mp hx with e | hx
   .subst e
    exact o9 d (by rw[<- hq.1];exact hq.2.1)
   .exact ih x hx
 exact c r x hx
theorem Ai{b:List (List Key×V)}(c:HOk P w H h)(e:H a=some (.dT b)):b.length<=sizeLine/\(a == sysModules)=false /\
  ∃ xs,KT H b xs/\h.DictOfH (tupleKind (bu P w)) a xs:=p7 c (.inl e)
end
def DGet(H:Hp)(a:Addr)(y:V)(r:Option V):Prop :=
 (∃ kvs k,Rd H a (.dK kvs)/\y=kV k/\r=cR kvs k)\/∃ kvs k b,Rd H a (.dT kvs)/\y=.ref b/\H b=some (.tup (k.map kV))/\r=cR kvs k
def DPut(H:Hp)(a:Addr)(y v:V)(H':Hp):Prop :=
 (∃ kvs k,H a=some (.dK kvs)/\y=kV k/\kvs.length<sizeLine/\H'=upd H a (.dK (eL kvs k v))) \/
 ∃ kvs k b,H a=some (.dT kvs)/\y=.ref b/\H b=some (.tup (k.map kV))/\kvs.length<sizeLine/\H'=upd H a (.dT (eL kvs k v))
theorem DGet.k{H:Hp}{a:Addr}{b:List (Key×V)}{k:Key}(e:H a=some (.dK b)):DGet H a (kV k) (cR b k):=.inl ⟨b,k,.inl e,rfl,rfl⟩
theorem DPut.k{H:Hp}{a:Addr}{b:List (Key×V)}{k:Key}{v:V}(e:H a=some (.dK b))(c:b.length<sizeLine):DPut H a (kV k) v (upd H a (.dK (eL b k v))):=.inl ⟨b,k,e,rfl,c,rfl⟩
section
variable {X:Cx}{pins:List (Addr×Obj)}{σ:St}{H:Hp}{s:Shared}{a:Addr}{y v:V}{u r:Value}{o:Option V}{A:Around}{E:Value->Shared->Prop}
theorem Inv.big(I:Inv X pins σ H s):sysModules<s.heap.objs.size:=by
 have h:mainGlobals<s.heap.objs.size:=(I.mod.glob.keeps I.bk).lt;exact Nat.lt_trans (by decide) h
theorem ud{Q:Value->Shared->Prop}(B:A.units+1<cLine)(I:Inv X pins σ H s)(g:DGet H a y (some v))(w:RelV y u)(h:∀ w' s',Inv X pins σ H s'->RelV v w'->Q w' s') :
  wpAny (model X.prog X.w) A (getItem (.ref a) u) Q E s:=by
 rcases g with⟨r,k,e,j,l⟩ | ⟨r,k,b,e,j,C,l⟩
 .subst j
  obtain⟨z,G,D,d,f⟩:=qS I.hok e;obtain⟨w',i,c⟩:=RelO.some_of (v:=v) (o:=valueAt D k) (by rw[l];exact d.val k);exact wpAny_getItem_of (qK w) f.mapOf i (h w' _ (I.tok _) c)
 .subst j
  cases(show u=Value.ref b from w);obtain⟨z,G,x,d,f⟩:=p7 I.hok e;obtain⟨w',i,c⟩:=RelO.some_of (v:=v) (o:=(atKey x k).map (·.2)) (by rw[l];exact d.val k);obtain⟨p,F,m⟩:=Option.map_eq_some_iff.mp i;refine wpAny_getItem_heap (tupleKind_room_in1 B) (o9 I.hok C) f F ?_;rw[m];exact h w' _ (I.tok _) c
theorem pF{h':Heap}{t':Nat}{c:HO}(I:Inv X pins σ H s)(g:Mut (H a))(f:Heap.SameBut a s.heap h')(h:∃ q,h'.get? a=some q)(d:ObjOk X.prog X.w (upd H a c) h' a c) :
  Inv X pins σ (upd H a c) { s with heap:=h',toks:=t' } :=
 I.write (x:=a) (e:=a) g (.inl rfl) (λb q i z=>(f.2 b i).trans z) h d
theorem v7{P:Program}{w:World}{e:Hp}{h':Heap}{b:List (Key×V)}{vs:List (Key×Value)}(z:b.length<=sizeLine)(f:(a == sysModules)=false)(c:KV b vs)(d:h'.DictOf (bu P w) a vs) :
  ObjOk P w e h' a (.dK b):=⟨z,f,vs,c,d⟩
theorem uq{F:Hp}{Q:Unit->Shared->Prop}(T:A.units+1<cLine)(I:Inv X pins σ H s)(g:DPut H a y v F)(K:RelV y u)(G:RelV v r)(h:∀ s',Inv X pins σ F s'->Q () s') :
  wpAny (model X.prog X.w) A (setItem (.ref a) u r) Q E s:=by
 rcases g with⟨f,k,e,x,l,B⟩ | ⟨f,k,b,e,x,D,l,B⟩
 .subst x B
  obtain⟨z,o,O,d,m⟩:=sF I.hok e;have C:O.length<=sizeLine:=by rw[<- d.length];exact z
  have p:(eL f k v).length<=sizeLine:=by have:=gh f k v;lia
  refine wpAny_setItem_pairs (hsz:=C) (qK K) m λL i w=>h _ ?_
  have Z:∃ q,L.get? a=some q:=let ⟨q,_,_,j,_⟩:=i;⟨q,j⟩;exact pF I (by rw[e];exact True.intro) w Z (v7 p o (d.put k G) i)
 .subst x B
  cases(show u=Value.ref b from K);obtain⟨z,o,R,d,m⟩:=Ai I.hok e;have C:R.length<=sizeLine:=by rw[<- Paired.length d];exact z
  have p:(eL f k v).length<=sizeLine:=by have:=gh f k v;lia
  refine wpAny_setItem_heap (hsz:=C) (tupleKind_room_in1 T) (o9 I.hok D) m λL i w=>h _ ?_
  obtain⟨q,N,S,j,W,M,Y,_,P⟩:=i;refine pF I (by rw[e];exact True.intro) w ⟨q,j⟩ ⟨p,o,_,(d.put k D G).keeps λc ys ec=>?_,q,N,S,j,W,M,Y,P⟩;rw[ar (sQ ec e (λz=>nomatch z))];exact ec
end
section
variable {X:Cx}{pins:List (Addr×Obj)}{σ:St}{H:Hp}{s:Shared}{a:Addr}{kvs:List (Key×V)}{k:Key}{u:Value}{A:Around}{E:Value->Shared->Prop}
end
def AO(i:Expr):Prop:=∀ ov iv,subscripted i false ov iv=operate [ov,iv] (getItem ov iv)
theorem wL{prog:Program}{w:World}{A:Around}{E:Value->Shared->Prop}{s:Shared}{env:Env}{b a:Expr}{j:Pos}{T m:String}{Q:Value->Shared->Prop}
  (p:typeLookup (.type T) "__getitem__" = pure (some (.builtin m))) (u:AO a)
  (h:wpAny (model prog w) A (eval b env) (λo s₁=>wpAny (model prog w) A (eval a env) (λi s₂=>s₂.TypeIs o T/\wpAny (model prog w) A (getItem o i) Q E s₂) E s₁) E s) :
  wpAny (model prog w) A (eval (.Subscript b a j) env) Q E s:=by
 refine Subscript_ (wpAny_mono h (λo s₁ g=>wpAny_mono g (λi s₂ c=>?_) λ_ _ x=>x) λ_ _ x=>x);obtain⟨l,c⟩:=c;unfold subscriptTail;refine wpAny_bind ?_;rw[getitemInPython_of_ne l.not_modules];refine wpAny_bind (wpAny_specialOf l p ?_)
 have e:wpAny (model prog w) A (subscripted a false o i) (λr d=>wpAny (model prog w) A (letTemporaryGo b o r >>= λ_=>pure r) Q E d) E s₂:=by
  rw[u o i];exact wpAny_operating (wpAny_mono c (λr d f=>wpAny_bind (wpAny_letTemporaryGo (wpAny_pure f))) λ_ _ x=>x)
 first
  | exact wpAny_pure (wpAny_bind e)
  | exact wpAny_bind (wpAny_pure (wpAny_bind e))
  | exact wpAny_bind e
theorem qx{X:Cx}{c:List (Addr×Obj)}{h:St}{H:Hp}{s:Shared}{a:Addr}{y:V}{o:Option V}(I:Inv X c h H s)(g:DGet H a y o):s.TypeIs (.ref a) "dict" := by
 rcases g with⟨f,k,e,_,_⟩ | ⟨f,k,b,e,_,_,_⟩
 .obtain⟨_,_,j,_,d⟩:=qS I.hok e
  exact d.typeIs
 .obtain⟨_,_,i,_,d⟩:=p7 I.hok e
  exact d.typeIs
inductive rDGet(x y:V)(H:Hp)(Q:VK):Prop
 | mk(a:Addr)(v:V)(h0:x=.ref a)(h1:DGet H a y (some v))(h2:Q v H):rDGet x y H Q
def AH(td ty:TE):TE:=λσ H Q=>td σ H λx H1=>ty σ H1 λy H2=>rDGet x y H2 Q
def As(td ty tv:TE):TS:=λD σ H=>tv σ H λv H1=>td σ H1 λx H2=>ty σ H2 λy H3=>∃ a H4,x=.ref a/\DPut H3 a y v H4/\D.nx σ H4
section
variable {X:Cx}{o i e value:Expr}{pos pos' tpos:Pos}{td ty tv:TE}
theorem rX(e:X.A.units+1<cLine)(r:PE X o td)(B:PE X i ty)(j:AO i):PE X (.Subscript o i pos) (AH td ty):=by
 intro b s d H Q I h;refine wL PySem.F.slot_dict_getitem.lookup j (thn (r b s d H _ I h) λu p ⟨x,f,m,l,A⟩=>thn (B b p d f _ m A) λiv s2 ⟨y,H2,I2,ry,a,v,ex,g,q2⟩=>?_);subst ex;obtain rfl:u=Value.ref a:=l;exact⟨qx I2 g,ud e I2 g ry λC D w c=>⟨v,H2,w,c,q2⟩⟩
theorem oE(d:X.A.units+1<cLine)(l:PE X o td)(B:PE X i ty)(C:PE X value tv)(f:swapsWith value (some (.Subscript o i pos')) pos.line X.env=pure false) :
  PS X (.Assign [.Subscript o i pos'] value pos) (As td ty tv):=by
 intro b s c H D I h;refine wpAny_Assign_Subscript (thn (C b s c H _ I h) λr A ⟨v,e,j,p,m⟩=>thn (l b A c e _ j m) λu s2 ⟨x,H2,I2,rx,q2⟩=>thn (B b s2 c H2 _ I2 q2) λiv s3 ⟨y,H3,I3,ry,a,H4,ex,g,q3⟩=>?_) f;subst ex;obtain rfl:u=Value.ref a:=rx
 exact uq d I3 g ry p λE w=>⟨c,H4,w,q3⟩
end
theorem wf{P:Program}{w:World}{H:Hp}(h:Heap)(a:sysModules<h.objs.size):ObjOk P w H (h.push { cls:=.type "dict",data:=.dict #[] }) h.objs.size (.dK []) :=
 ⟨Nat.zero_le _,beq_eq_false_iff_ne.mpr (Ne.symm (Nat.ne_of_lt a)),[],.nil,Heap.DictOf.new h⟩
theorem wo{P:Program}{w:World}{H:Hp}(h:Heap)(a:sysModules<h.objs.size):ObjOk P w H (h.push { cls:=.type "dict",data:=.dict #[] }) h.objs.size (.dT []) :=
 ⟨Nat.zero_le _,beq_eq_false_iff_ne.mpr (Ne.symm (Nat.ne_of_lt a)),[],.nil,_,#[],0,Heap.get?_push_size _ rfl,⟨rfl,rfl,rfl⟩,rfl,rfl,nodup_nil⟩
def zJ:TE:=λ_ H Q=>∀ p,H p=none->Q (.ref p) (upd H p (.dK []))
def yF:TE:=λ_ H Q=>∀ p,H p=none->Q (.ref p) (upd H p (.dT []))
section
variable {X:Cx}{pos:Pos}
theorem lZ:PE X (.Dict [] [] pos) zJ:=λb s c H Q I h =>
 wpAny_Dict_empty ⟨.ref s.heap.objs.size,_,I.laid (a:=s.heap.objs.size) (o:=.dK []) (t':=s.toks) (λ_ _ q=>Heap.get?_push_of_some _ q) (Nat.le_refl _) (wf s.heap I.big),rfl,h _ (I.hok.fresh (Nat.le_refl _))⟩
theorem wl:PE X (.Dict [] [] pos) yF:=λb s c H Q I h =>
 wpAny_Dict_empty ⟨.ref s.heap.objs.size,_,I.laid (a:=s.heap.objs.size) (o:=.dT []) (t':=s.toks) (λ_ _ q=>Heap.get?_push_of_some _ q) (Nat.le_refl _) (wo s.heap I.big),rfl,h _ (I.hok.fresh (Nat.le_refl _))⟩
end
structure M2(X:Cx)(o:Expr)(m:Str)(apos:Pos)(e f:Expr)(cpos:Pos):Prop where
 base:attributeBase o m X.env (eval o X.env)=eval o X.env
 few:((backTo cpos (starEach [e,f] X.env)).all (λx=>!x.1) && (backToKw cpos (keywordEach [] X.env)).all (λx=>x.1.isSome)
  && decide (([e,f]:List Expr).length+([]:List Keyword).length+(if ([]:List Keyword).isEmpty then 0 else 1)<30))=true
 line:(apos.endLine == cpos.line)=true
 trees:backTo cpos (starEach [e,f] X.env)=[(false,eval e X.env),(false,eval f X.env)]
def IsD(H:Hp)(a:Addr):Prop:=(∃ kvs,Rd H a (.dK kvs))\/∃ kvs,Rd H a (.dT kvs)
theorem zw{X:Cx}{f:List (Addr×Obj)}{l:St}{H:Hp}{s:Shared}{a:Addr}(I:Inv X f l H s)(d:IsD H a) :
  s.TypeIs (.ref a) "dict" /\ (∀ b,Value.ref a=.ref b->∃ ob,s.heap.get? b=some ob/\ob.dict=none)/\(a == sysModules)=false:=by
 rcases d with⟨j,e⟩ | ⟨j,e⟩
 .obtain⟨_,i,o,_,c⟩:=qS I.hok e
  refine⟨c.typeIs,λb q=>?_,i⟩;cases q;obtain⟨ob,_,_,h,g,_⟩:=c;exact⟨ob,h,g.2.1⟩
 .obtain⟨_,i,m,_,c⟩:=p7 I.hok e
  refine⟨c.typeIs,λb q=>?_,i⟩;cases q;obtain⟨ob,_,_,h,g,_⟩:=c;exact⟨ob,h,g.2.1⟩
section
variable {X:Cx}{pins:List (Addr×Obj)}{σ:St}{H:Hp}{s:Shared}{a:Addr}{y d:V}{u r:Value}{o:Option V}{A:Around}{E:Value->Shared->Prop}
theorem zn{Q:Value->Shared->Prop}(x:A.units+1<cLine)(I:Inv X pins σ H s)(g:DGet H a y o)(p:RelV y u)(v:RelV d r)(h:∀ w' s',Inv X pins σ H s'->RelV (o.getD d) w'->Q w' s') :
  wpAny (model X.prog X.w) A (call (.builtin "dict.get") [.ref a,u,r]) Q E s:=by
 rcases g with⟨m,k,e,i,l⟩ | ⟨m,k,b,e,i,B,l⟩
 .subst i
  obtain⟨z,j,C,c,f⟩:=qS I.hok e;refine call_meetsIn PySem.F.slot_dict_get f.typeIs PySem.F.entry_dict_get (PySem.F.args_dict_get_3 _ _ _) (meets_dict_get_default (bu X.prog X.w) a (qK p) j r) ⟨_,f.mapOf,h _ _ (I.tok _) ?_⟩;rw[l];exact(c.val k).getD v
 .subst i
  cases(show u=Value.ref b from p);obtain⟨z,j,w,c,f⟩:=p7 I.hok e;refine call_meetsIn PySem.F.slot_dict_get f.typeIs PySem.F.entry_dict_get (PySem.F.args_dict_get_3 _ _ _) (meetsH_dict_get_default (tupleKind (bu X.prog X.w)) a b j r) ⟨tupleKind_room_in1 x,k,w,o9 I.hok B,f,h _ _ (I.tok _) ?_⟩;rw[l];exact(c.val k).getD v
end
def yC(td ty tx:TE):TE:=λσ H Q=>td σ H λx H1=>∃ a,x=.ref a/\IsD H1 a/\ty σ H1 λy H2=>tx σ H2 λz H3=>∃ o,DGet H3 a y o/\Q (o.getD z) H3
section
variable {X:Cx}{o e f:Expr}{apos cpos:Pos}{td ty tx:TE}
theorem ve(E:X.A.units+1<cLine)(K:PE X o td)(S:PE X e ty)(l:PE X f tx)(m:M2 X o "get" apos e f cpos):PE X (.Call (.Attribute o "get" apos) [e,f] [] cpos) (yC td ty tx):=by
 intro b s c H Q I h;refine wpAny_Call_method m.base m.few m.line PySem.F.plainAttrs_dict PySem.F.slot_dict_get PySem.F.type_dict_get (thn (K b s c H _ I h) λu C ⟨x,F,j,P,a,D,d,w⟩=>?_);subst D;obtain rfl:u=Value.ref a:=P;obtain⟨r,M,_⟩:=zw j d;refine⟨r,M,?_⟩;rw[m.trees]
 refine Calls.callWith_builtin rfl (Calls.evalArgs_plain (Calls.spliced_cons (thn (S b C c F _ j w) λiv R ⟨y,v,G,O,A⟩ =>
  Calls.spliced_cons (thn (l b R c v _ G A) λZ Y ⟨z,L,T,p,ov,g,N⟩=>Calls.spliced_nil ?_))))
 exact zn E T g O p λW s4 B i=>⟨_,L,B,i,N⟩
end
section
variable {X:Cx}{pins:List (Addr×Obj)}{σ:St}{H:Hp}{s:Shared}{a:Addr}{kvs:List (Key×V)}{A:Around}{E:Value->Shared->Prop}
end
section
variable {X:Cx}{pins:List (Addr×Obj)}{σ:St}{H:Hp}{s:Shared}{a:Addr}{y:V}{u:Value}{A:Around}{E:Value->Shared->Prop}
end
theorem OpR.imp{X:Cx}{f:Value->Value->Sem Value}{r b:R2}(h:OpR X f r)(i:∀ x y H Q,b x y H Q->r x y H Q):OpR X f b :=
 λa s e H x y v u Q I d c q=>h a s e H x y v u Q I d c (i x y H Q q)
theorem CallR.imp{X:Cx}{f:Value}{r b:List V->Hp->VK->Prop}(h:CallR X f r)(i:∀ xs H Q,b xs H Q->r xs H Q):CallR X f b :=
 λa s c H xs e Q I d q=>h a s c H xs e Q I d (i xs H Q q)
def tV(i:Nat):TE:=λσ H Q=>match σ[i]? with
 | some (some v)=>Q v H
 | _=>False
theorem vr{X:Cx}(i:Nat){x:Str}{c:Pos}(f:X.N[i]? = some x:=by rfl)(j:Vis X.env.scope x:=by first | exact Or.inl rfl | exact Or.inr (Or.inl rfl) | exact Or.inr (Or.inr rfl))(g:(x == ("__debug__" : Str))=false:=by decide)
  (b:(x == ("__classdict__" : Str))=false:=by decide):PE X (.Name x c) (tV i):=λa s d H Q I h=>by
 refine zd f j g b a s d H Q I ?_;unfold tV at h
 split at h
 .rename_i v e
  exact⟨v,e,h⟩
 .exact h.elim
def rI2(g:Int->Int->V):R2:=λx y H Q=>match x,y with
 | .int i,.int j=>Q (g i j) H
 | _,_=>False
def rIC(C:Int->Int->Prop)(g:Int->Int->V):R2:=λx y H Q=>match x,y with
 | .int i,.int j=>C i j/\Q (g i j) H
 | _,_=>False
theorem OpR.i2{X:Cx}{f:Value->Value->Sem Value}{g:Int->Int->V}(h:OpR X f (rI0 g)):OpR X f (rI2 g):=h.imp λx y H Q q=>by
 cases x <;> cases y <;> first | exact⟨_,_,rfl,rfl,q⟩ | exact(show False from q).elim
theorem OpR.ic{X:Cx}{f:Value->Value->Sem Value}{C:Int->Int->Prop}{g:Int->Int->V}(h:OpR X f (rI C g)):OpR X f (rIC C g):=h.imp λx y H Q q=>by
 cases x <;> cases y <;> first | exact⟨_,_,rfl,rfl,q.1,q.2⟩ | exact(show False from q).elim
section
variable {X:Cx}
def Az:R2:=λx y H Q=>match x,y with
 | .int i,.int j=>Q (.int (i+j)) H
 | .str i,.str j=>i.length+j.length<=sizeLine/\Q (.str (i++j)) H
 | _,_=>False
theorem dN:OpR X (binaryOp .Add) Az:=(op_add.or rh).imp λx y H Q q=>by
 cases x <;> cases y <;> first | exact .inl ⟨_,_,rfl,rfl,q⟩ | exact .inr ⟨_,_,rfl,rfl,q.1,q.2⟩ | exact(show False from q).elim
theorem cU:OpR X (binaryOp .Sub) (rI2 λi j=>.int (i - j)):=op_sub.i2
def Af(i j:Int):Prop:=0<j
def CNn(i j:Int):Prop:=0<=j
theorem cp{i j:Int}(h:0<j:=by decide):Af i j:=h
theorem cn{i j:Int}(h:0<=j:=by decide):CNn i j:=h
theorem cd{i j:Int}(h:0<j:=by decide)(h2:j<1073741824:=by decide):By i j:=⟨h,h2⟩
theorem cw{i j:Int}(h:0<=j:=by decide)(h2:j<=1000000:=by decide)(a:i.natAbs<2 ^ 64:=by decide):zX i j:=⟨h,h2,a⟩
theorem cl{i j:Int}(h:-(2 ^ 64)<i:=by decide)(h2:i<2 ^ 64:=by decide):CMul i j:=.inl ⟨h,h2⟩
theorem cr{i j:Int}(h:-(2 ^ 64)<j:=by decide)(h2:j<2 ^ 64:=by decide):CMul i j:=.inr ⟨h,h2⟩
theorem fh:OpR X (binaryOp .Mod) (rIC Af λi j=>.int (i % j)):=op_mod.ic
theorem uN:OpR X (binaryOp .Pow) (rIC zX λi j=>.int (i ^ j.toNat)):=op_pow.ic
theorem Au:OpR X (binaryOp .RShift) (rIC CNn λi j=>.int (i/2 ^ j.toNat)):=op_shr.ic
theorem tI:OpR X (compareOp .LtE) (λx y H Q=>∃ i j,x=.str i/\y=.str j/\Q (.bl (!decide (j.cps.toList<i.cps.toList))) H):=by
 intro a s e H x y v u Q I c b h;obtain⟨i,j,rfl,rfl,q⟩:=h;obtain⟨t,rfl⟩:=c;obtain⟨d,rfl⟩:=b;exact PySem.P.le_str (aV I q rfl)
def ym(f:Int->Int->Bool)(g:Str->Str->Bool):R2:=λx y H Q=>match x,y with
 | .int i,.int j=>Q (.bl (f i j)) H
 | .str i,.str j=>Q (.bl (g i j)) H
 | _,_=>False
theorem qc:OpR X (compareOp .Lt) (ym (λi j=>decide (i<j)) λi j=>decide (i.cps.toList<j.cps.toList)):=(op_lt.or tT).imp λx y H Q q=>by
 cases x <;> cases y <;> first | exact .inl ⟨_,_,rfl,rfl,q⟩ | exact .inr ⟨_,_,rfl,rfl,q⟩ | exact(show False from q).elim
theorem uz:OpR X (compareOp .LtE) (ym (λi j=>decide (i<=j)) λi j=>!decide (j.cps.toList<i.cps.toList)):=(op_le.or tI).imp λx y H Q q=>by
 cases x <;> cases y <;> first | exact .inl ⟨_,_,rfl,rfl,q⟩ | exact .inr ⟨_,_,rfl,rfl,q⟩ | exact(show False from q).elim
theorem BT:OpR X (compareOp .Gt) (rI2 λi j=>.bl (decide (j<i))):=op_gt.i2
theorem Bn:OpR X (compareOp .GtE) (rI2 λi j=>.bl (decide (j<=i))):=op_ge.i2
def Br(neg:Bool):R2:=λx y H Q=>match x,y with
 | .int i,.int j=>Q (.bl (if neg then !decide (i=j) else decide (i=j))) H
 | .str i,.str j=>Q (.bl (if neg then !decide (i=j) else decide (i=j))) H
 | .bl i,.bl j=>Q (.bl (if neg then !decide (i=j) else decide (i=j))) H
 | .non,.non=>Q (.bl (!neg)) H
 | .non,.int _=>Q (.bl neg) H
 | .non,.str _=>Q (.bl neg) H
 | .non,.bl _=>Q (.bl neg) H
 | .int _,.non=>Q (.bl neg) H
 | .str _,.non=>Q (.bl neg) H
 | .bl _,.non=>Q (.bl neg) H
 | .int _,.str _=>Q (.bl neg) H
 | .str _,.int _=>Q (.bl neg) H
 | _,_=>False
theorem eC:OpR X (compareOp .Eq) (Br false):=op_eq.imp λx y H Q q=>by
 cases x <;> cases y <;> first | exact(show False from q).elim | exact⟨rfl,q⟩ | exact⟨rfl,by rw[lG];exact q⟩ | exact⟨rfl,by rw[pd];exact q⟩ | exact⟨rfl,by rw[lM];exact q⟩
theorem Cg:OpR X (compareOp .NotEq) (Br true):=op_ne.imp λx y H Q q=>by
 cases x <;> cases y <;> first | exact(show False from q).elim | exact⟨rfl,q⟩ | exact⟨rfl,by rw[lG];exact q⟩ | exact⟨rfl,by rw[pd];exact q⟩ | exact⟨rfl,by rw[lM];exact q⟩
def rU1(g:Int->V):V->Hp->VK->Prop:=λx H Q=>match x with
 | .int i=>Q (g i) H
 | _=>False
theorem ye:UnR X (unaryOp .USub) (rU1 λi=>.int (-i)):=λa s b H x v Q I r q=>yX a s b H x v Q I r (by
 cases x <;> first | exact⟨_,rfl,q⟩ | exact(show False from q).elim)
theorem xa:OpR X (compareOp .IsNot) (λx y H Q=>match y with | .non=>Q (.bl (!decide (x=.non))) H | _=>False):=op_notN.imp λx y H Q q=>by
 cases y <;> first | exact⟨rfl,q⟩ | exact(show False from q).elim
def mB(Q:Bool->Hp->Prop):VK:=λx H=>match x with
 | .bl c=>Q c H
 | _=>False
variable {a b c:Expr}{ta tb tc:TE}{pos:Pos}{rest:List Expr}
def BV(ta tb:TE):TE:=λσ H Q=>ta σ H (mB λc H1=>if c=true then tb σ H1 Q else Q (.bl false) H1)
def Cd(ta:TE):TE:=λσ H Q=>ta σ H (mB λc H1=>Q (.bl (!c)) H1)
theorem jH{Q:Bool->Hp->Prop}{x:V}{H:Hp}(h:mB Q x H):∃ c,x=.bl c/\Q c H:=by
 cases x <;> first | exact⟨_,rfl,h⟩ | exact(show False from h).elim
theorem sg(j:PE X a ta)(m:PE X (.BoolOp .And (b::rest) pos) tb):PE X (.BoolOp .And (a::b::rest) pos) (BV ta tb):=by
 intro d s i H Q I h;refine BoolOp_and (thn (j d s i H _ I h) λv l ⟨x,f,g,o,e⟩=>?_);obtain⟨c,rfl,e⟩:=jH e;cases o;refine wpAny_truthy_bool ?_;cases c with
 | true=>exact m d l i f Q g e
 | false=>exact⟨.bl false,f,g,rfl,e⟩
theorem yA(e:PE X a ta):PE X (.UnaryOp .Not a pos) (Cd ta):=by
 intro b s i H Q I h;refine UnaryOp_ (thn (e b s i H _ I h) λv l ⟨x,f,g,j,d⟩=>?_);obtain⟨c,rfl,d⟩:=jH d;cases j;exact not_of (wpAny_truthy_bool ⟨.bl (!c),f,g,rfl,d⟩)
def mT(t:TE):TT:=λσ H Q=>t σ H (mB Q)
theorem dS(h:PE X a ta)(i:∀ whole,isTrue a X.env whole=(do let v <- whole;standAt a.pos;holding [v] (truthy v)):=by intro _;rfl):PT X a (mT ta):=by
 intro b s g H Q I c;refine isTrue_plain (thn (h b s g H _ I c) λv m ⟨x,e,f,l,j⟩=>?_) (i _);obtain⟨d,rfl,q⟩:=jH j;cases l;exact wpAny_truthy_bool ⟨e,f,q⟩
theorem aT{f:CmpOp}{r:R2}(w:OpR X (compareOp f) r)(i:PE X a ta)(A:PE X b tb)(m:behindInMarks f b=false):PT X (.Compare a [f] [b] pos) (mT (tOp r ta tb)):=by
 intro d s e H Q I h
 refine wpAny_isTrue_Compare1 (thn (i d s e H _ I h) λv p ⟨x,j,o,E,D⟩=>thn (A d p e j _ o D) λu s2 ⟨y,H2,I2,r2,q2⟩ =>
  thn (w d s2 e H2 x y v u _ I2 E r2 q2) λc F ⟨z,C,B,l,g⟩=>?_) m
 obtain⟨k,rfl,g⟩:=jH g;cases l;exact wpAny_truthy_bool ⟨C,B,g⟩
def yG(r r':R2)(ta tb tc:TE):TE:=λσ H Q=>ta σ H λx H1=>tb σ H1 λy H2=>r x y H2 (mB λk H3=>if k=true then tc σ H3 λw' H4=>r' y w' H4 Q else Q (.bl false) H3)
theorem sG{j f:CmpOp}{r m:R2}(M:OpR X (compareOp j) r)(l:OpR X (compareOp f) m)(O:PE X a ta)(Y:PE X b tb)(A:PE X c tc)
  (K:lastMarks [j,f] [b,c]=false:=by with_unfolding_all rfl):PE X (.Compare a [j,f] [b,c] pos) (yG r m ta tb tc):=by
 intro e s g H Q I h
 refine Compare_chain (thn (O e s g H _ I h) λv F ⟨x,G,S,E,D⟩=>chain_link (thn (Y e F g G _ S D) λu s2 ⟨y,H2,I2,r2,q2⟩ =>
  thn (M e s2 g H2 x y v u _ I2 E r2 q2) λd C ⟨z,o,p,P,i⟩=>?_)) K
 obtain⟨k,rfl,i⟩:=jH i;cases P;refine wpAny_truthy_bool ?_;cases k with
 | false=>exact ite_ff ⟨.bl false,o,p,rfl,i⟩
 | true=>exact ite_tt (chain_last (thn (A e C g o _ p i) λB R ⟨T,w,W,N,L⟩=>l e R g w y T u B Q W r2 N L))
open PySem.W in
theorem rK{f:List (Addr×Obj)}{j:St}{H:Hp}{s:Shared}{x:V}{u t:Value}(I:Inv X f j H s)(b:RelV x u)(ty:TyOf X.K H x t) :
  ∃ Hh:Heap->Prop,KitX X.K u t Hh/\Hh s.heap/\u≠.builtin "__main__.__loader__#opaque" := by
 cases ty with
 | non=>cases(show u=Value.none from b);exact⟨_,PySem.W.kitx_none,True.intro,λz=>nomatch z⟩
 | bl y=>cases(show u=Value.bool y from b);exact⟨_,PySem.W.kitx_bool,True.intro,λz=>nomatch z⟩
 | int i=>obtain⟨t,q⟩:=(show ∃ t,u=Value.int i t from b);cases q;exact⟨_,PySem.W.kitx_int,True.intro,λz=>nomatch z⟩
 | str y=>obtain⟨t,q⟩:=(show ∃ t,u=Value.str y t from b);cases q;exact⟨_,PySem.W.kitx_str,True.intro,λz=>nomatch z⟩
 | flt y=>obtain⟨t,q⟩:=(show ∃ t,u=Value.float y t from b);cases q;exact⟨_,PySem.W.kitx_float,True.intro,λz=>nomatch z⟩
 | @lst a d ea =>
  cases(show u=Value.ref a from b)
  obtain⟨_,_,n,_,c⟩:=(show ObjOk X.prog X.w H s.heap a (.lst d) from I.hok a _ ea)
  exact⟨_,kitx_list,⟨_,c,rfl⟩,λz=>nomatch z⟩
 | @frz a ob d ea =>
  cases(show u=Value.ref a from b)
  obtain⟨_,_,_,n,_,c⟩:=(show ObjOk X.prog X.w H s.heap a (.frz ob (.lst d)) from I.hok a _ ea)
  exact⟨_,kitx_list,⟨_,c,rfl⟩,λz=>nomatch z⟩
 | @tup a d ea =>
  cases(show u=Value.ref a from b)
  obtain⟨_,_,_,p⟩:=(show ObjOk X.prog X.w H s.heap a (.tup d) from I.hok a _ ea)
  obtain⟨o,c,e,_⟩:=p;exact⟨_,kitx_tuple,⟨o,c,e⟩,λz=>nomatch z⟩
 | @dK a kvs ea =>
  cases(show u=Value.ref a from b)
  obtain⟨_,_,r,_,p⟩:=(show ObjOk X.prog X.w H s.heap a (.dK kvs) from I.hok a _ ea)
  obtain⟨o,h,g,c,e,_⟩:=p;exact⟨_,kitx_dict,⟨o,c,e.1⟩,λz=>nomatch z⟩
 | @dT a kvs ea =>
  cases(show u=Value.ref a from b)
  obtain⟨_,_,d,_,o,h,g,c,e,_⟩:=(show ObjOk X.prog X.w H s.heap a (.dT kvs) from I.hok a _ ea)
  exact⟨_,kitx_dict,⟨o,c,e.1⟩,λz=>nomatch z⟩
 | @ins a C dx fs ea cl ha hn htk hm =>
  cases(show u=Value.ref a from b);obtain⟨m,O,_⟩:=lJ I.hok ea;obtain⟨l,J,_⟩:=O.look;exact⟨_,PySem.W.kitx_own (cl.get _) cl.hd ha hn htk hm,J,λz=>nomatch z⟩
def vy:V->Value
 | .ty n=>.type n
 | .ref a=>.ref a
 | _=>.none
def pK:V->Bool
 | .ty _=>true
 | .ref _=>true
 | _=>false
theorem oK{c:V}{u:Value}(h:pK c=true)(r:RelV c u):u=vy c:=by
 cases c <;> first | exact r | exact absurd (show false=true from h) Bool.false_ne_true
inductive rIsi(K:Frag)(xs:List V)(H:Hp)(Q:VK):Prop
 | mk(x c:V)(t:_)(b:Bool)(h0:xs=[x,c])(h1:pK c=true)(h2:TyOf K H x t)(h3:kitOne K t (vy c)=some b)(h4:Q (.bl b) H):rIsi K xs H Q
theorem iA:CallR X (.builtin "isinstance") (rIsi X.K):=by
 intro a s o H m y Q I r h;obtain⟨x,c,t,b,rfl,f,l,e,q⟩:=h;obtain⟨u,v,rfl,d,i⟩:=mt r;cases oK f i;obtain⟨w,Z,p,j⟩:=rK I d l
 exact kia_one Z I.kIn p e j λg=>⟨.bl b,H,I.tok g,rfl,q⟩
end
theorem za{Q:V->Prop}{p r:Prop}[Decidable p][Decidable r](q:Q (.bl (decide (p/\r)))):if decide p=true then Q (.bl (decide r)) else Q (.bl false):=by
 by_cases h:p
 .rw[if_pos (decide_eq_true h)]
  have e:decide (p/\r)=decide r:=by by_cases z:r <;> simp[h,z]
  rw[<- e];exact q
 .rw[if_neg (λz=>h (of_decide_eq_true z))]
  have e:decide (p/\r)=false:=decide_eq_false λz=>h z.1
  rw[<- e];exact q
theorem ifP{c:Prop}[Decidable c]{A B:Prop}(a:c)(h:A):if decide c=true then A else B:=by rw[if_pos (decide_eq_true a)];exact h
theorem ifN{c:Prop}[Decidable c]{A B:Prop}(a:¬c)(h:B):if decide c=true then A else B:=by rw[if_neg (λz=>a (of_decide_eq_true z))];exact h
theorem ifC{c:Prop}[Decidable c]{A B:Prop}(a:c->A)(h2:¬c->B):if decide c=true then A else B:=by
 by_cases h:c
 .exact ifP h (a h)
 .exact ifN h (h2 h)
theorem ifB{b:Bool}{A B:Prop}(a:b=true->A)(h2:b=false->B):if b=true then A else B:=by
 cases b with
 | true=>rw[if_pos rfl];exact a rfl
 | false=>rw[if_neg Bool.false_ne_true];exact h2 rfl
theorem bf:bootBuiltins "len" = some (.builtin "len"):=by decide +kernel
theorem bF:bootBuiltins "isinstance" = some (.builtin "isinstance"):=by decide +kernel
theorem pE:bootBuiltins "min" = some (.builtin "min"):=by decide +kernel
theorem yR:bootBuiltins "max" = some (.builtin "max"):=by decide +kernel
theorem oS:bootBuiltins "enumerate" = some (.type "enumerate"):=by decide +kernel
theorem zV:bootBuiltins "zip" = some (.type "zip"):=by decide +kernel
theorem pR:bootBuiltins "range" = some (.type "range"):=by decide +kernel
theorem ze:bootBuiltins "int" = some (.type "int"):=by decide +kernel
theorem xn:bootBuiltins "bool" = some (.type "bool"):=by decide +kernel
theorem gw:bootBuiltins "list" = some (.type "list"):=by decide +kernel
theorem mw:bootBuiltins "tuple" = some (.type "tuple"):=by decide +kernel
theorem nR:bootBuiltins "ValueError" = some (.type "ValueError"):=by decide +kernel
theorem bE{X:Cx}{x:Str}{v:V}{a:Pos}(c:Gl X x)(h:∃ u,X.mg x=some u/\RelV v u)(b:(x == ("__debug__" : Str))=false:=by decide):PE X (.Name x a) (tC v) :=
 let ⟨_,e,r⟩:=h
 xB c e r b
def Ax(K:Frag)(tl:TE):TI:=λσ H R=>tl σ H λx H1=>match x with
 | .str z=>R (Its z) H1
 | .ref a=>((∃ xs,SqL K H1 a xs)/\R (Itl K a) H1)\/((∃ xs,SqT K H1 a xs)/\R (Itt K a) H1)
 | _=>False
theorem aO{X:Cx}{tg l:Expr}{tl:TE}(r:PE X l tl):PI X tg l (Ax X.K tl):=by
 intro g s B H R I h;have y:PE X l tl:=r;refine thn (r g s B H _ I h) λv c ⟨x,i,d,u,m⟩=>?_
 cases x with
 | str z =>
  have:=zP (X:=X) (tg:=tg) (l:=l) (tl:=tC (.str z));obtain⟨t,rfl⟩:=u;refine wpAny_pyIter_strU ?_;refine⟨c.heap.objs.size,[c.heap.objs.size],_,_,i,rfl,d.kept (t':=c.toks) λb o e=>Heap.get?_push_of_some _ e,qN (ty:=strIterType z) (t:=t) z _ ?_,⟨_,Heap.get?_push_size _ rfl,rfl,rfl⟩,λb hb=>?_,m⟩
  .unfold strIterType
   split
   .exact .inl rfl
   .exact .inr rfl
  .have e:b=c.heap.objs.size:=by simpa using hb
   subst e;exact d.fpOk (Nat.le_refl _) (d.hok.fresh (Nat.le_refl _))
 | ref a =>
  cases u
  rcases m with⟨⟨w,j⟩,q⟩ | ⟨⟨w,j⟩,q⟩
  .obtain⟨f,C,p,A⟩:=d.list j
   refine wpAny_pyIter_list p.isList ?_;refine⟨c.heap.objs.size,[c.heap.objs.size],_,_,i,rfl,d.kept (t':=c.toks) λb o e=>Heap.get?_push_of_some _ e,uu a _,⟨_,Heap.get?_push_size _ rfl,rfl,rfl⟩,λb hb=>?_,q⟩;have e:b=c.heap.objs.size:=by simpa using hb
   subst e;exact d.fpOk (Nat.le_refl _) (d.hok.fresh (Nat.le_refl _))
  .obtain⟨f,C,p,A⟩:=d.tuple j
   refine wpAny_pyIter_tuple (show c.heap.IsTuple a f.toArray from p) ?_;refine⟨c.heap.objs.size,[c.heap.objs.size],_,_,i,rfl,d.kept (t':=c.toks) λb o e=>Heap.get?_push_of_some _ e,qW a _,⟨_,Heap.get?_push_size _ rfl,rfl,rfl⟩,λb hb=>?_,q⟩;have e:b=c.heap.objs.size:=by simpa using hb
   subst e;exact d.fpOk (Nat.le_refl _) (d.hok.fresh (Nat.le_refl _))
 | _=>exact(show False from m).elim
inductive rLenSq(K:Frag)(p:Addr)(H:Hp)(Q:VK):Prop
 | mk(ys:List V)(h0:SqL K H p ys\/SqT K H p ys)(h1:Q (.int ys.length) H):rLenSq K p H Q
theorem aF{X:Cx}:CallR X (.builtin "len") (λxs H Q=>match xs with
  | [.str z]=>z.length<=sizeLine/\Q (.int z.length) H
  | [.ref p]=>rLenSq X.K p H Q
  | _=>False):=(call_len_str.or oC).imp λxs H Q q=>by
 match xs,q with
 | [.str z],q=>exact .inl ⟨z,rfl,q.1,q.2⟩
 | [.ref p],q=>obtain⟨a,h,q⟩:=q;exact .inr ⟨p,a,rfl,h,q⟩
section
variable {D:Addr}{σb:St}{g:TG}{tt:TT}{te:TE}{Q:Hp->List V->Prop}{H:Hp}{K:Frag}
def sh(D:Addr)(σb:St)(g:TG)(tt:TT)(te:TE)(x:V)(ys:List V)(H:Hp)(P:List V->Hp->Prop):Prop :=
 g x σb H λσ4 H4=>Wk σb σ4/\tt σ4 H4 λb H5=>if b=true then te σ4 H5 λy H6=>H6 D=some (.lst ys)/\ys.length<sizeLine/\P (ys++[y]) (upd H6 D (.lst (ys++[y]))) else P ys H5
theorem aK{a:Addr}{xs:List V}(c:Nat->List V->Hp->Prop)(j:c 0 [] H)(l:∀ i ys H,c i ys H->SqL K H a xs)(d:∀ i ys H,c i ys H->H D=some (.lst ys))
  (f:∀(i:Nat) x ys H P,xs[i]? = some x->c i ys H->(∀ a b,c (i+1) a b->P a b)->sh D σb g tt te x ys H P) (h:∀ ys H,c xs.length ys H->Q H ys):∃ W,(∃ m,W 0 m [] H)/\mi (Itl K a) D σb g tt te Q W:=by
 refine⟨λi m ys H=>m=xs.length - i/\i<=xs.length/\c i ys H,⟨_,rfl,Nat.zero_le _,j⟩,?_⟩;rintro i m ys H ⟨rfl,r,p⟩;refine⟨d i ys H p,?_⟩;have q:=l i ys H p
 by_cases hlt:i<xs.length
 .refine .inr ⟨⟨xs,xs[i],q,by simp[hlt]⟩,λx o y=>?_⟩
  obtain⟨rfl,y⟩:=y;exact f i x ys _ (λa b=>∃ m',m'<xs.length - i/\m'=xs.length - (i+1)/\i+1<=xs.length/\c (i+1) a b) (y xs q) p (λa b q=>⟨xs.length - (i+1),by lia,rfl,hlt,q⟩)
 .have e:i=xs.length:=by lia
  subst e;exact .inl ⟨⟨xs,q,Nat.le_refl _⟩,h ys H p⟩
theorem vQ{a:Addr}{xs:List V}(c:Nat->List V->Hp->Prop)(j:c 0 [] H)(l:∀ i ys H,c i ys H->SqT K H a xs)(d:∀ i ys H,c i ys H->H D=some (.lst ys))
  (f:∀(i:Nat) x ys H P,xs[i]? = some x->c i ys H->(∀ a b,c (i+1) a b->P a b)->sh D σb g tt te x ys H P) (h:∀ ys H,c xs.length ys H->Q H ys):∃ W,(∃ m,W 0 m [] H)/\mi (Itt K a) D σb g tt te Q W:=by
 refine⟨λi m ys H=>m=xs.length - i/\i<=xs.length/\c i ys H,⟨_,rfl,Nat.zero_le _,j⟩,?_⟩;rintro i m ys H ⟨rfl,r,p⟩;refine⟨d i ys H p,?_⟩;have q:=l i ys H p
 by_cases hlt:i<xs.length
 .refine .inr ⟨⟨xs,xs[i],q,by simp[hlt]⟩,λx o y=>?_⟩
  obtain⟨rfl,y⟩:=y;exact f i x ys _ (λa b=>∃ m',m'<xs.length - i/\m'=xs.length - (i+1)/\i+1<=xs.length/\c (i+1) a b) (y xs q) p (λa b q=>⟨xs.length - (i+1),by lia,rfl,hlt,q⟩)
 .have e:i=xs.length:=by lia
  subst e;exact .inl ⟨⟨xs,q,Nat.le_refl _⟩,h ys H p⟩
theorem j7{lo:Int}{n:Nat}(c:Nat->List V->Hp->Prop)(j:c 0 [] H)(d:∀ i ys H,c i ys H->H D=some (.lst ys))
  (f:∀(i:Nat) ys H P,i<n->c i ys H->(∀ a b,c (i+1) a b->P a b)->sh D σb g tt te (.int (lo+i)) ys H P) (h:∀ ys H,c n ys H->Q H ys):∃ W,(∃ m,W 0 m [] H)/\mi (Itr lo n) D σb g tt te Q W:=by
 refine⟨λi m ys H=>m=n - i/\i<=n/\c i ys H,⟨_,rfl,Nat.zero_le _,j⟩,?_⟩;rintro i m ys H ⟨rfl,o,p⟩;refine⟨d i ys H p,?_⟩
 by_cases hlt:i<n
 .refine .inr ⟨hlt,λx l y=>?_⟩
  obtain⟨rfl,rfl⟩:=y;exact f i ys _ (λa b=>∃ m',m'<n - i/\m'=n - (i+1)/\i+1<=n/\c (i+1) a b) hlt p (λa b q=>⟨n - (i+1),by lia,rfl,hlt,q⟩)
 .have e:i=n:=by lia
  subst e;exact .inl ⟨Nat.le_refl _,h ys H p⟩
end
theorem Same.new{H:Hp}{p:Addr}{o:HO}(h:H p=none):Same H (upd H p o):=λb u e=>by rw[ar (aB e h)];exact e
mutual
def DV(K:Frag)(H:Hp):PyData->V->Prop
 | .none,x=>x=.non
 | .bool b,x=>x=.bl b
 | .int i,x=>x=.int i
 | .str z,x=>x=.str z
 | .list ds,x=>∃ a xs,x=.ref a/\SqL K H a xs/\DVs K H ds xs
 | .tuple ds,x=>∃ a xs,x=.ref a/\SqT K H a xs/\DVs K H ds xs
 | .dict _,_=>False
def DVs(K:Frag)(H:Hp):List PyData->List V->Prop
 | [],xs=>xs=[]
 | d::ds,xs=>∃ y ys,xs=y::ys/\DV K H d y/\DVs K H ds ys
end
section
variable {X:Cx}{pins:List (Addr×Obj)}{σ:St}{H:Hp}{s:Shared}
mutual
theorem DV.reads(I:Inv X pins σ H s):∀{d:PyData}{x:V}{u:Value},DV X.K H d x->RelV x u->∃ as,Reads s.heap u d as
 | .none,x,u,h,r=>by
  rw[DV]at h;subst h;cases r;exact⟨_,.none⟩
 | .bool b,x,u,h,r=>by
  rw[DV]at h;subst h;cases r;exact⟨_,.bool b⟩
 | .int i,x,u,h,r=>by
  rw[DV]at h;subst h;obtain⟨t,rfl⟩:=r;exact⟨_,.int i t⟩
 | .str z,x,u,h,r=>by
  rw[DV]at h;subst h;obtain⟨t,rfl⟩:=r;exact⟨_,.str z t⟩
 | .list ds,x,u,h,r=>by
  rw[DV]at h;obtain⟨a,m,rfl,g,f⟩:=h;cases r;obtain⟨l,j,⟨o,n,e,c,_,d⟩,_⟩:=I.list g;obtain⟨as,q⟩:=DVs.reads I f j;exact⟨_,.list e c d (by simpa using q)⟩
 | .tuple ds,x,u,h,r=>by
  rw[DV]at h;obtain⟨a,m,rfl,g,f⟩:=h;cases r;obtain⟨l,j,⟨o,e,c,n,d⟩,_⟩:=I.tuple g;obtain⟨as,q⟩:=DVs.reads I f j;exact⟨_,.tuple e c d (by simpa using q)⟩
 | .dict _,x,u,h,r=>by rw[DV]at h;exact h.elim
theorem DVs.reads(I:Inv X pins σ H s):∀{ds:List PyData}{xs:List V}{us:List Value},DVs X.K H ds xs->Vals xs us->∃ as,ReadsAll s.heap us ds as
 | [],xs,us,h,r=>by
  rw[DVs]at h;subst h;cases r;exact⟨_,.nil⟩
 | d::ds,xs,us,h,r=>by
  rw[DVs]at h;obtain⟨y,c,rfl,a,b⟩:=h;cases r with
  | cons r rs =>
   obtain⟨as,q⟩:=DV.reads I a r;obtain⟨e,p⟩:=DVs.reads I b rs;exact⟨_,.cons q p⟩
end
end
inductive rEqD(K:Frag)(neg:Bool)(x y:V)(H:Hp)(Q:VK):Prop
 | mk(d e:PyData)(h0:DV K H d x)(h1:DV K H e y)(h2:SeqAt.shaped d=true)(h3:SeqAt.shaped e=true)(h4:Q (.bl (if neg then !PyData.eqv d e else PyData.eqv d e)) H):rEqD K neg x y H Q
theorem AM{X:Cx}(f:X.A.units+64<cLine):OpR X (compareOp .Eq) (rEqD X.K false):=by
 intro a s r H x y v u Q I j c h;obtain⟨d,e,l,g,o,i,q⟩:=h;obtain⟨w,b⟩:=l.reads I j;obtain⟨p,m⟩:=g.reads I c;exact eq_dataH b m o i f ⟨.bl _,H,I,rfl,q⟩
theorem wp{X:Cx}(f:X.A.units+64<cLine):OpR X (compareOp .NotEq) (rEqD X.K true):=by
 intro a s r H x y v u Q I j c h;obtain⟨d,e,l,g,o,i,q⟩:=h;obtain⟨w,b⟩:=l.reads I j;obtain⟨p,m⟩:=g.reads I c;exact ne_dataH b m o i f ⟨.bl _,H,I,rfl,q⟩
def vo(z:Str)(lo hi:Option Int):Str:=⟨((z.cps.toList.drop (HT.sIx z.cps.size 0 lo)).take (HT.sIx z.cps.size z.cps.size hi - HT.sIx z.cps.size 0 lo)).toArray⟩
theorem yx(n d:Nat)(v:Option Int):(match v with | none=>(d:Int) | some i=>max 0 (min (if i<0 then i+(n:Int) else i) (n:Int)))=((HT.sIx n d v:Nat):Int):=by
 cases v with
 | none=>rfl
 | some i =>
  show max 0 (min (if i<0 then i+(n:Int) else i) (n:Int))=(((if i<0 then (i+(n:Int)).toNat else min i.toNat n):Nat):Int)
  split <;> lia
theorem vS(lo a:Option Int)(n:Nat):Builtin.Str.strSliceIndices lo a 1 n=(List.range (HT.sIx n n a - HT.sIx n 0 lo)).map (HT.sIx n 0 lo + ·):=by
 have e:Builtin.Str.strSliceIndices lo a 1 n=sliceRange ((HT.sIx n 0 lo:Nat):Int) ((HT.sIx n n a:Nat):Int) 1:=by
  rw[<- yx n 0 lo,<- yx n n a];unfold Builtin.Str.strSliceIndices;simp only[show(1:Int) > 0 by decide,if_true]
  cases lo <;> cases a <;> rfl
 rw[e,sliceRange_one]
theorem ua(z:Str)(lo a:Option Int):Txt.slice z lo a=vo z lo a:=by
 have e:((Builtin.Str.strSliceIndices lo a 1 z.length).filterMap (z.cps[·]?))=(z.cps.toList.drop (HT.sIx z.cps.size 0 lo)).take (HT.sIx z.cps.size z.cps.size a - HT.sIx z.cps.size 0 lo):=by
  rw[vS];exact pick_run z.cps _ _
 unfold Txt.slice
 split
 .rename_i h
  have c:(Builtin.Str.strSliceIndices lo a 1 z.length).length=z.cps.size:=by
   rw[Bool.and_eq_true]at h;exact eq_of_beq h.2
  rw[vS,length_map,length_range]at c;have g:=HT.sIx_le z.cps.size z.cps.size (Nat.le_refl _) a;have b:HT.sIx z.cps.size z.cps.size a - HT.sIx z.cps.size 0 lo=z.cps.size:=c;unfold vo
  by_cases h0:z.cps.size=0
  .refine ext_toList ?_
   have f:z.cps.toList=[]:=length_eq_zero_iff.mp (by simpa using h0);show z.cps.toList=_;rw[f];simp
  .have d:HT.sIx z.cps.size 0 lo=0:=by lia
   rw[b,d,List.drop_zero,take_of_length_le (by simp)]
 .rw[e]
  rfl
section
variable {X:Cx}
def Cc:V->Option Int->Option Int->Hp->VK->Prop:=λx lo hi H Q=>∃ z,x=.str z/\z.length<=sizeLine/\Q (.str (vo z lo hi)) H
theorem yY:SlR X Cc:=by
 intro b s o H x v w A p r y Q I m c g e h;obtain⟨z,rfl,d,q⟩:=h;obtain⟨t,rfl⟩:=m;refine⟨"str",_,F.slot_str_getitem.lookup,typeIs_str _ _ _,?_⟩;rw[<- ua]at q
 have a:∀ f k,EP X b o Q (.str (Txt.slice z p r) f) { s with toks:=k }:=λf k=>⟨.str _,H,I.tok _,⟨_,rfl⟩,q⟩
 cases g with
 | none =>
  cases e with
  | none=>exact wpAny_getItem_str_slice (l:=none) (u:=none) (st:=none) c rfl (post_val_or_str ⟨Nat.le_trans (Txt.slice_le z _ _) d,a⟩)
  | int j uj=>exact wpAny_getItem_str_slice (l:=none) (u:=some (j,uj)) (st:=none) c rfl (post_val_or_str ⟨Nat.le_trans (Txt.slice_le z _ _) d,a⟩)
 | int i ui =>
  cases e with
  | none=>exact wpAny_getItem_str_slice (l:=some (i,ui)) (u:=none) (st:=none) c rfl (post_val_or_str ⟨Nat.le_trans (Txt.slice_le z _ _) d,a⟩)
  | int j uj=>exact wpAny_getItem_str_slice (l:=some (i,ui)) (u:=some (j,uj)) (st:=none) c rfl (post_val_or_str ⟨Nat.le_trans (Txt.slice_le z _ _) d,a⟩)
theorem SlR.imp{r b:V->Option Int->Option Int->Hp->VK->Prop}(h:SlR X r)(i:∀ x lo hi H Q,b x lo hi H Q->r x lo hi H Q):SlR X b :=
 λa s m H x v c j lo hi e Q I l f d g q=>h a s m H x v c j lo hi e Q I l f d g (i x lo hi H Q q)
theorem gB:SlR X (λx lo hi H Q=>match x with
  | .str z=>z.length<=sizeLine/\Q (.str (vo z lo hi)) H
  | .ref a=>(∃ xs,SqL X.K H a xs/\∀ p,H p=none->Q (.ref p) (upd H p (.lst (eG xs lo hi)))) \/
    ∃ xs,SqT X.K H a xs/\¬(HT.sIx xs.length 0 lo=0/\HT.sIx xs.length xs.length hi=xs.length)/\∀ p,H p=none->Q (.ref p) (upd H p (.tup (eG xs lo hi)))
  | _=>False):=(sl_list.or (sl_tup.or yY)).imp λx lo hi H Q q=>by
 cases x with
 | str z=>exact .inr (.inr ⟨z,rfl,q.1,q.2⟩)
 | ref a =>
  rcases q with⟨xs,c,b⟩ | ⟨xs,c,b,d⟩
  .exact .inl ⟨a,xs,rfl,c,b⟩
  .exact .inr (.inl ⟨a,xs,rfl,c,b,d⟩)
 | _=>exact(show False from q).elim
variable {o e:Expr}{es:List Expr}{to:TE}{t:TA}{apos cpos:Pos}
end
section
variable {X:Cx}{st:Stmt}{rest:List Stmt}{t u:TS}{e:Expr}{te:TE}{tt:TT}
def Bs(t u:TS):TS:=λD σ H=>∃ M:St->Hp->Prop,t { D with nx:=M } σ H/\∀ σ' H',M σ' H'->u D σ' H'
theorem fG(e:PS X st t)(h2:PSs X rest u):PSs X (st::rest) (Bs t u):=by
 intro a s i H D I h;obtain⟨M,h,d⟩:=h;refine wpAny_execs_cons (thn (e a s i H { D with nx:=M } I h) λf j q=>?_);cases f with
 | next =>
  obtain⟨b,c,g,q⟩:=q;exact h2 a j b c D g (d _ _ q)
 | ret v=>exact q
 | brk=>exact q
 | cont=>exact q
end
end L2
namespace L2
abbrev PvS:=Nat->St->Hp->Prop
abbrev PvL:=Nat->List V->Hp->Prop
theorem eE{c a:TS}{D:Ends}{b:St}{H:Hp}:(let B2:TS:=a;b8 c B2 D b H)->b8 c a D b H:=λh=>h
theorem il{c a d:TS}{D:Ends}{b:St}{H:Hp}:(let B3:TS:=d;let B2:TS:=b8 a B3;b8 c B2 D b H)->b8 c (b8 a d) D b H:=λh=>h
theorem pO{b a e c:TS}{D:Ends}{d:St}{H:Hp}:(let B4:TS:=c;let B3:TS:=b8 e B4;let B2:TS:=b8 a B3;b8 b B2 D d H)->b8 b (b8 a (b8 e c)) D d H:=λh=>h
theorem si{b a f c d:TS}{D:Ends}{e:St}{H:Hp}:(let B5:TS:=d;let B4:TS:=b8 c B5;let B3:TS:=b8 f B4;let B2:TS:=b8 a B3;b8 b B2 D e H)->b8 b (b8 a (b8 f (b8 c d))) D e H:=λh=>h
theorem rZ{b a f c d g:TS}{D:Ends}{e:St}{H:Hp}:(let B6:TS:=g;let B5:TS:=b8 d B6;let B4:TS:=b8 c B5;let B3:TS:=b8 f B4;let B2:TS:=b8 a B3;b8 b B2 D e H)->b8 b (b8 a (b8 f (b8 c (b8 d g)))) D e H:=λh=>h
theorem Ay{b a g c d i e:TS}{D:Ends}{f:St}{H:Hp}:(let B7:TS:=e;let B6:TS:=b8 i B7;let B5:TS:=b8 d B6;let B4:TS:=b8 c B5;let B3:TS:=b8 g B4;let B2:TS:=b8 a B3;b8 b B2 D f H)->b8 b (b8 a (b8 g (b8 c (b8 d (b8 i e))))) D f H:=λh=>h
end L2
namespace L2
open PySem PySem.Spec PyProof.Rows
section
variable {X:Cx}{pins:List (Addr×Obj)}{σ:St}{H:Hp}{s:Shared}{h':Heap}
theorem Inv.turnedNew{t':Nat}{ch:List Addr}{a:Addr}{o:HO}(I:Inv X pins σ H s)(k:∀ b u,b ∉ ch->s.heap.get? b=some u->h'.get? b=some u)(i:∀ b∈ch,FpOk X pins H b)
  (w:s.heap.objs.size<=a) (p:ObjOk X.prog X.w (upd H a o) h' a o):Inv X pins σ (upd H a o) { s with heap:=h',toks:=t' }:=by
 have l:H a=none:=I.hok.fresh w
 have g:∀ b u,H b=some u->b ∉ ch:=λb u e z=>by
  rw[(i b z).1]at e;cases e
 have d:∀ b u,H b=some u->b≠a:=λb u e z=>by
  rw[z,l]at e;cases e
 have j:∀ b u,s.heap.get? b=some u->b≠a:=λb u e=>Nat.ne_of_lt (Nat.lt_of_lt_of_le (Heap.lt_size e) w)
 refine I.step (g':=s.gens) (d':=s.drawn) (ch:=ch) (λb h=>?_) (λb u _ _ f e _=>k b u f e) (λb u _ _ f e _=>⟨u.slots,k b u f e⟩) (λb u _ e n=>?_) (λb u f e=>⟨u,k b u f e⟩)
  (λb A e=>?_) (λb u v e=>?_) (λb ps e=>⟨#[],?_⟩) (λm hm=>?_) (λb u e=>?_) I.bare
 .obtain⟨_,y,_,E,F,G⟩:=i b h
  exact⟨E,y,F,G⟩
 .rw[ar (j b u e)];exact n
 .rw[ar (d b _ e)];exact e
 .rw[ar (d b _ e)];exact e
 .rw[ar (d b _ e),e];simp
 .obtain⟨x,C,B,D,r⟩:=hm
  exact⟨x,C,B,k _ x (λz=>(i _ z).2.1 rfl) D,r⟩
 .by_cases h:b=a
  .subst h
   rw[ae]at e;cases e;exact p
  .rw[ar h]at e
   refine(I.hok b u e).stay (λc v f q=>k c v ?_ q) (λc q=>?_) λc A q=>?_
   .rcases f with z | z
    .rw[z];exact g b u e
    .exact g c _ z
   .rw[ar (d c _ q)];exact q
   .rw[ar (d c _ q)];exact q
theorem Inv.turnedN{t':Nat}{ch:List Addr}(I:Inv X pins σ H s)(k:∀ b u,b ∉ ch->s.heap.get? b=some u->h'.get? b=some u)(f:∀ b∈ch,FpOk X pins H b):Inv X pins σ H { s with heap:=h',toks:=t' }:=by
 have d:∀ b u,H b=some u->b ∉ ch:=λb u e z=>by
  rw[(f b z).1]at e;cases e
 refine I.step (g':=s.gens) (d':=s.drawn) (ch:=ch) (λb y=>?_) (λb u _ _ a e _=>k b u a e) (λb u _ _ a e _=>⟨u.slots,k b u a e⟩) (λb u _ e n=>n) (λb u a e=>⟨u,k b u a e⟩)
  (λb i e=>e) (λb u v e=>e) (λb ps e=>⟨#[],by rw[e];simp⟩) (λm hm=>?_) (λb u e=>?_) I.bare
 .obtain⟨_,h,_,p,w,x⟩:=f b y
  exact⟨p,h,w,x⟩
 .obtain⟨g,l,j,o,r⟩:=hm
  exact⟨g,l,j,k _ g (λz=>(f _ z).2.1 rfl) o,r⟩
 .refine(I.hok b u e).stay (λc v a q=>k c v ?_ q) (λc q=>q) λc i q=>q
  rcases a with z | z
  .rw[z];exact d b u e
  .exact d c _ z
end
def Ite(a:Addr):It:=⟨λi H=>∃ xs x,H a=some (.lst xs)/\xs[i]? = some x,
 λi H x H'=>∃ p y,H p=none/\x=.ref p/\(∀ xs,H a=some (.lst xs)->xs[i]? = some y)/\H'=upd H p (.tup [.int (i:Nat),y]),λi H=>∃ xs,H a=some (.lst xs)/\xs.length<=i⟩
theorem uC{P:Program}{w:World}{K:Frag}{es:List Expr}{k:Nat}{M:Pos}(a e c:Addr)(p:e≠c) :
  Turn P w K (.Tuple es k M) (Ite a) [e,c] e (λi h=>(∃ old,IsEnum h e c i old)/\h.IsListIter c a i) where
 mem:=by simp
 obj:=λi h f b hb=>by
  obtain⟨⟨old,d⟩,o,B,F,h3⟩:=f
  rcases mem_cons.mp hb with rfl | hb
  .exact⟨_,d,λv z=>by cases z⟩
  .rw[mem_singleton.mp hb]
   exact⟨o,B,λv z=>by rw[h3]at z;cases z⟩
 keep:=λi h h' f kp=>by
  obtain⟨⟨old,d⟩,o,B,r⟩:=f;exact⟨⟨old,kp e (by simp) _ d⟩,o,kp c (by simp) o B,r⟩
 item:=by
  intro X T N L hc i j s σ H E I C f S;subst T N L;obtain⟨⟨old,d⟩,g⟩:=f;obtain⟨xs,x,D,hx⟩:=S;obtain⟨z,l,n,r,A,Y⟩:=I.lstM D;obtain⟨u,hu,ru⟩:=Vals.get r hx
  have m:s.heap.IsList a l.toArray:=⟨_,Y,rfl,_,rfl⟩
  refine wpAny_pyNext_enum_item d g m (x:=u) (by simpa using hu) p λB e1 e2 e3 e4 e5=>?_
  refine⟨_,rfl,wpAny_letOwnedTupleGo_enum e1 λF e6 Q=>?_⟩;have y:s.heap.objs.size≠e:=λq=>absurd (Heap.lt_size d) (by rw[<- q];exact Nat.lt_irrefl _)
  have O:s.heap.objs.size≠c:=λq=>by
   obtain⟨o,W,_⟩:=g;exact absurd (Heap.lt_size W) (by rw[<- q];exact Nat.lt_irrefl _)
  have hn:H s.heap.objs.size=none:=I.hok.fresh (Nat.le_refl _);have R:F.get? s.heap.objs.size=some { cls:=.type "tuple",data:=.seq #[.int i s.toks,u] }:=(Q.2 _ y).trans e3
  have J:Inv X j σ (upd H s.heap.objs.size (.tup [.int (i:Nat),x])) { s with heap:=F,toks:=s.toks+1 }:=by
   refine I.turnedNew (ch:=[e,c]) (λb o hb q=>?_) C (Nat.le_refl _) ⟨by rw[sizeLine_eq];show 2<=16777216;decide,[.int i s.toks,u],.cons ⟨_,rfl⟩ (.cons ru .nil),_,R,rfl,0,rfl⟩;have b1:b≠e:=λz=>hb (by simp[z])
   have b2:b≠c:=λz=>hb (by simp[z])
   exact(Q.2 b b1).trans (e5 b o b1 b2 q)
  refine⟨.ref s.heap.objs.size,_,J,rfl,⟨s.heap.objs.size,x,hn,rfl,λys hy=>?_,rfl⟩,⟨⟨u,?_⟩,?_⟩,λb hb=>?_⟩
  .rw[D]at hy
   cases hy;exact hx
  .have G:IsEnum F e c ((i:Int)+1) u:=e6
   have e7:((i+1:Nat):Int)=(i:Int)+1:=by lia
   rw[e7];exact G
  .obtain⟨o,W,r⟩:=e2
   exact⟨o,(Q.2 c (Ne.symm p)).trans W,r⟩
  .have Z:b≠s.heap.objs.size:=by
    rcases mem_cons.mp hb with rfl | hb
    .exact y.symm
    .rw[mem_singleton.mp hb];exact O.symm
   rw[ar Z];exact(C b hb).1
 done:=by
  intro X T N L hc i j s σ H E I C f S;subst T N L;obtain⟨⟨old,d⟩,g⟩:=f;obtain⟨xs,D,hx⟩:=S;obtain⟨z,l,n,r,A,Y⟩:=I.lstM D
  have m:s.heap.IsList a l.toArray:=⟨_,Y,rfl,_,rfl⟩
  refine wpAny_pyNext_enum_end (I.ok.hd hc) d g m (by simp;lia) λB eb=>⟨rfl,I.turnedN (ch:=[e,c]) (t':=s.toks) (λb o hb q=>eb b o (λz=>hb (by simp[z])) q) C⟩
 self:=λ_ _ _ _ _ f h=>by
  obtain⟨⟨old,d⟩,_⟩:=f;exact wpAny_pyIter_enum d h
def A9(ta:TA):TI:=λσ H R=>ta σ H λvs H1=>∃ a xs,vs=[.ref a]/\H1 a=some (.lst xs)/\R (Ite a) H1
theorem lF{X:Cx}{A:List Expr}{k:Nat}{f:Pos}{e:Expr}{w:TA}{p g:Pos}(D:Gl X "enumerate")(K:X.mg "enumerate" = none)(N:PA X [e] w)(G:starEach [e] X.env=[(false,eval e X.env)]:=by rfl) :
  PI X (.Tuple A k f) (.Call (.Name "enumerate" p) [e] [] g) (A9 w):=by
 intro c s x H R I h;refine wpAny_Call_Name_kw (iF I D K oS ?_ (by decide) (by decide));refine PyProof.Rows.callWith_type1 (thn (N g c s x H _ I h) λW d ⟨Q,o,l,B,a,S,j,E,q⟩=>?_) G rfl;subst j;obtain⟨u,rfl,O⟩:=ij B;cases O;obtain⟨z,C,n,r,v,M⟩:=l.lstM E;refine call_enumerate_1 (n:=n) M λF j P T y=>?_
 have L:Inv X c x o { d with heap:=F }:=l.kept (t':=d.toks) y;have m:d.heap.objs.size+1≠d.heap.objs.size:=Nat.succ_ne_self _;refine wpAny_pyIter_enum j ?_;refine⟨d.heap.objs.size+1,[d.heap.objs.size+1,d.heap.objs.size],_,_,o,rfl,L,uC a _ _ m,⟨⟨_,j⟩,P⟩,λb hb=>?_,q⟩
 have i:d.heap.objs.size<=b:=by
  rcases mem_cons.mp hb with rfl | hb
  .lia
  .rw[mem_singleton.mp hb]
   exact Nat.le_refl _
 exact l.fpOk i (l.hok.fresh i)
theorem qd{a:Addr}{xs:List V}{g:TG}{f:TS}{D:Ends}{c:St}{H:Hp}(d:Nat->St->Hp->Prop)(s:d 0 c H)(h:∀ i c H,d i c H->H a=some (.lst xs))
  (j:∀(i:Nat) x c H p,xs[i]? = some x->d i c H->H p=none->g (.ref p) c (upd H p (.tup [.int (i:Nat),x])) λσ2 H2=>f { D with nx:=d (i+1),ct:=d (i+1),bk:=D.nx } σ2 H2) (r:∀ c H,d xs.length c H->D.nx c H) :
  ∃ W:Nat->Nat->St->Hp->Prop,(∃ m,W 0 m c H)/\∀ i m c H,W i m c H ->
   ((Ite a).stop i H/\D.nx c H)\/((Ite a).go i H/\∃ N:St->Hp->Prop,(∀ σ' H',N σ' H'->∃ m',m'<m/\W (i+1) m' σ' H')/\∀ x H',(Ite a).yld i H x H'->g x c H' λσ2 H2=>f { D with nx:=N,ct:=N,bk:=D.nx } σ2 H2):=by
 refine⟨λi m c H=>m=xs.length - i/\i<=xs.length/\d i c H,⟨_,rfl,Nat.zero_le _,s⟩,?_⟩;rintro i m c H ⟨rfl,w,p⟩;have q:=h i c H p
 by_cases hlt:i<xs.length
 .refine .inr ⟨⟨xs,xs[i],q,by simp[hlt]⟩,d (i+1),λσ' H' o=>⟨_,by lia,rfl,hlt,o⟩,λx H' y=>?_⟩
  obtain⟨b,v,l,rfl,u,rfl⟩:=y;exact j i v c H b (u xs q) p l
 .have e:i=xs.length:=by lia
  subst e;exact .inl ⟨⟨xs,q,Nat.le_refl _⟩,r c H p⟩
theorem oA{D:Addr}{d:St}{g:TG}{h:TT}{f:TE}{Q:Hp->List V->Prop}{H:Hp}{a:Addr}{xs:List V}(c:Nat->List V->Hp->Prop)(u:c 0 [] H)(w:∀ i ys H,c i ys H->H a=some (.lst xs))(j:∀ i ys H,c i ys H->H D=some (.lst ys))
  (l:∀(i:Nat) x ys H p P,xs[i]? = some x->c i ys H->H p=none->(∀ a b,c (i+1) a b->P a b)->sh D d g h f (.ref p) ys (upd H p (.tup [.int (i:Nat),x])) P) (s:∀ ys H,c xs.length ys H->Q H ys):∃ W,(∃ m,W 0 m [] H)/\mi (Ite a) D d g h f Q W:=by
 refine⟨λi m ys H=>m=xs.length - i/\i<=xs.length/\c i ys H,⟨_,rfl,Nat.zero_le _,u⟩,?_⟩;rintro i m ys H ⟨rfl,C,p⟩;refine⟨j i ys H p,?_⟩;have q:=w i ys H p
 by_cases hlt:i<xs.length
 .refine .inr ⟨⟨xs,xs[i],q,by simp[hlt]⟩,λx B y=>?_⟩
  obtain⟨b,v,o,rfl,A,rfl⟩:=y
  exact l i v ys H b (λa b=>∃ m',m'<xs.length - i/\m'=xs.length - (i+1)/\i+1<=xs.length/\c (i+1) a b) (A xs q) p o λa b r=>⟨_,by lia,rfl,hlt,r⟩
 .have e:i=xs.length:=by lia
  subst e;exact .inl ⟨⟨xs,q,Nat.le_refl _⟩,s ys H p⟩
end L2
namespace NumM
open PySem PySem.NumText
end NumM
namespace L2
open PySem PySem.Spec PyProof.Rows
def rL(ns:List Int)(k:Int):Int:=if k<ns.length then ns.getD k.toNat 0 else 7919*k+14
def within(lo hi:Int):Option Int->Option Int
 | some n=>if lo<=n/\n<=hi then some n else none
 | none=>none
end L2
namespace SplM
open PySem
end SplM
namespace L2
open PySem PySem.Spec PyProof.Rows
section
variable {X:Cx}
open Builtin.Str in
theorem Ae{P:Program}{w:World}{A:Around}{E:Value->Shared->Prop}{s:Shared}{x y:Str}{t u:Tok}{Q:Value->Shared->Prop}(c:(y.length == 0)=false)(e:x.length<=sizeLine)
  (d:(partsBetween x (occurrences x y 0 x.length (x.length+1)) y.length).length<=sizeLine)
  (h:∀(l:List (Str×Tok)) (k:Nat),l.map (·.1)=Txt.split x y->Q (.ref s.heap.objs.size) { s with heap:=s.heap.push { cls:=.type "list",data:=.seq (strValues l).toArray },toks:=k }) :
  wpAny (model P w) A (call (.builtin "str.split") [.str x t,.str y u]) Q E s:=by
 by_cases h1:(decide (x.length<y.length) || decide (strKind x<strKind y))=true
 .refine call_meets F.slot_str_split (typeIs_str s x t) F.entry_str_split (F.args_str_split_2 _ _) (meets_str_split_cannot_occur x y t u h1) ?_
  exact h [(x,t)] s.toks (by unfold Txt.split;rw[if_pos h1];rfl)
 .have a:=eq_false_of_ne_true h1
  by_cases h2:(occurrences x y 0 x.length (x.length+1)).isEmpty=true
  .refine call_meets F.slot_str_split (typeIs_str s x t) F.entry_str_split (F.args_str_split_2 _ _) (meets_str_split_not_found x y t u a c h2) ?_
   exact h [(x,t)] s.toks (by unfold Txt.split;rw[if_neg h1,if_pos h2];rfl)
  .have b:=eq_false_of_ne_true h2
   refine call_meets F.slot_str_split (typeIs_str s x t) F.entry_str_split (F.args_str_split_2 _ _) (meets_str_split_sep x y t u a c b e d) ?_
   have:=h (numbered s.toks (partsBetween x (occurrences x y 0 x.length (x.length+1)) y.length)) (s.toks+(partsBetween x (occurrences x y 0 x.length (x.length+1)) y.length).length)
    ((numbered_texts _ _).trans (by unfold Txt.split;rw[if_neg h1,if_neg h2]))
   rw[<- strsFrom_eq]at this;exact this
variable {o e:Expr}{es:List Expr}{to:TE}{t:TA}{apos cpos:Pos}
theorem pe_m.append(h:PE X o to)(f:PA X (e::es) t)(c:attributeBase o "append" X.env (eval o X.env)=eval o X.env:=by rfl)
  (d:((backTo cpos (starEach (e::es) X.env)).all (λx=>!x.1) && (backToKw cpos (keywordEach [] X.env)).all (λx=>x.1.isSome) && decide ((e::es).length+([]:List Keyword).length+(if ([]:List Keyword).isEmpty then 0 else 1)<30))=true:=by rfl)
  (b:(apos.endLine == cpos.line)=true:=by rfl) (g:starEach (e::es) X.env=(false,eval e X.env)::starEach es X.env:=by rfl) (a:(backTo cpos (starEach es X.env)).any (·.1)=false:=by rfl) :
  PE X (.Call (.Attribute o "append" apos) (e::es) [] cpos) (tBM X.K "list" rAppend to t):=v8 F.plainAttrs_list F.slot_list_append F.type_list_append nY h f c d b g a
end
def TK(H H':Hp):Prop:=∀ b xs,H b=some (.tup xs)->H' b=some (.tup xs)
theorem TK.trans{H d e:Hp}(a:TK H d)(b:TK d e):TK H e:=λc o h=>b c o (a c o h)
theorem Same.tk{H a:Hp}(e:Same H a):TK H a:=λb c h=>e b _ h
theorem TK.lst{H:Hp}{l:Addr}{xs ys:List V}(h:H l=some (.lst xs)):TK H (upd H l (.lst ys)):=λb a e=>by
 rw[ar (sQ e h (by intro z;cases z))];exact e
theorem Same.put{H a:Hp}{D:Addr}{o:HO}(e:Same H a)(h:H D=none):Same H (upd a D o):=λb u q=>by
 rw[ar (aB q h)];exact e b u q
theorem ci{a:Type}{xs:List a}{i:Int}{v:a}(k:Nat)(b:(k:Int)=i)(h:xs[k]? = some v):atI xs i=some v:=by rw[<- b];exact aU h
theorem kz(xs:List V)(k:Nat):eG xs (some (k:Int)) none=xs.drop k:=by
 unfold eG;rw[HT.sIx_nat,HT.sIx_none]
 by_cases h:k<=xs.length
 .rw[Nat.min_eq_left h,take_of_length_le (by simp)]
 .rw[Nat.min_eq_right (by lia),Nat.sub_self,take_zero,List.drop_of_length_le (by lia)]
structure U where
 name:Str
 value:Int
 size:Int
 path:List Str
section
variable {X:Cx}{K:Frag}
theorem eY(h:X.K=K):IxR X (rIx K):=h ▸ av
theorem wG(h:X.K=K):SlR X (λx lo hi H Q=>match x with
  | .str z=>z.length<=sizeLine/\Q (.str (vo z lo hi)) H
  | .ref a=>(∃ xs,SqL K H a xs/\∀ p,H p=none->Q (.ref p) (upd H p (.lst (eG xs lo hi)))) \/
    ∃ xs,SqT K H a xs/\¬(HT.sIx xs.length 0 lo=0/\HT.sIx xs.length xs.length hi=xs.length)/\∀ p,H p=none->Q (.ref p) (upd H p (.tup (eG xs lo hi)))
  | _=>False):=h ▸ gB
theorem rA(h:X.K=K):OpR X (compareOp .In) (rIn K false):=h ▸ kD
theorem bx(h:X.K=K){a:List Expr}{k:Nat}{t:TGs}{n:Nat}{c:Pos}(d:X.calm=true)(e:PGs X a t)(f:(assignEach a X.env).length=n:=by rfl)(b:(assignEach a X.env).findIdx? (·.1)=none:=by rfl) :
  PG X (.Tuple a k c) (gTup K n t):=h ▸ dz d e f b
end
structure XCls(K:Frag)(D:Addr):Prop where
 ga:findIn K (.ref D) "__getattribute__" = some (some (.builtin "BaseException.__getattribute__"))
 gn:findIn K (.ref D) "__getattr__" = some none
 cl:findIn K (.ref D) "__class__" = some (some (.builtin "object.__class__"))
 mb:mroIn K D (.type "BaseException")=some true
 mo:mroIn K D (.type "object")=some true
 isc:(clsIn K D).isSome=true
section
variable {prog:Program}{w:World}{A:Around}{E:Value->Shared->Prop}{h:Heap}{g:Array GenState}{d:Drawn}{t:Nat}{os:OsState}{a D:Addr}{o:Obj}{K:Frag}
theorem v5{M:Model}{b:Value}{Q:Unit->Shared->Prop}(c:XCls K D)(X:K.In h)(j:h.get? a=some o)(f:o.cls=.ref D)(l:Q () ⟨h,g,d,t,os⟩) :
  wpAny M A (checkBuiltinCall "BaseException.__getattribute__" ⟨[.ref a,b],[]⟩) Q E ⟨h,g,d,t,os⟩:=by
 have i:builtinKind "BaseException.__getattribute__" = some .slot:=by decide +kernel
 have e:splitId "BaseException.__getattribute__" = some ("BaseException","__getattribute__"):=by decide +kernel
 have m:=F.args_bexc_ga (.ref a) b;simp only[checkBuiltinCall,i,e];refine wpAny_bind ?_;unfold isInstance
 repeat (first | (with_reducible refine wpAny_loadPart_at j ?_;rw[f]) | with_reducible refine(looks_mroIn X c.mb).at ?_ | wp_step)
 exact l
theorem zE{R:Result->Shared->Prop}(c:XCls K D)(X:K.In h)(f:h.get? a=some o)(e:o.cls=.ref D)(j:R (.ok (.ret (.ref D))) ⟨h,g,d,t,os⟩) :
  codeAny (model prog w) A (.call (.builtin "getset_descriptor.__get__") ⟨[.builtin "object.__class__",.ref a,.ref D],[]⟩) R ⟨h,g,d,t,os⟩:=by
 have b:(⟨h,g,d,t,os⟩:Shared).TypeIs (.builtin "object.__class__") "getset_descriptor" := F.typeOf_object_class
 have i:Looks (model prog w) h (isSubtype (.ref D) (.type (".".intercalate ("object.__class__".cutAt '.').dropLast))) true:=by
  rw[F.owner_object_class];exact looks_mroIn X c.mo
 refine codeAny_call_builtin F.slot_gs_get.plain F.entry_gs_get (F.slot_gs_get.check _ _ _ _ _ _ _ _ b (F.args_gs_get _ _ _) ?_)
 repeat (any_goals (first | assumption | (with_reducible refine wpAny_loadPart_at f ?_;rw[e]) | with_reducible refine i.at ?_ | wp_step))
 refine⟨Code.quiet_builtin _ (by decide +kernel),codeAny_builtin F.entry_object_class ?_⟩
 repeat (any_goals (first | assumption | (with_reducible refine wpAny_loadPart_at f ?_;rw[e]) | wp_step))
theorem vh{tk:Tok}{Q:Fin->Shared->Prop}(c:XCls K D)(X:K.In h)(e:h.get? a=some o)(b:o.cls=.ref D)(l:Q (.done (.ret (.ref D))) ⟨h,g,d,t,os⟩) :
  wpAny (model prog w) A (Builtin.«object.__getattribute__» ⟨[.ref a,.str "__class__" tk],[]⟩) Q E ⟨h,g,d,t,os⟩:=by
 have f:(⟨h,g,d,t,os⟩:Shared).TypeIs (.builtin "object.__class__") "getset_descriptor" := F.typeOf_object_class;have j:=F.typeOf_object_class;have m:=F.slot_gs_get.lookup;have i:=F.slot_gs_set.lookup
 repeat (any_goals (first | assumption | (with_reducible refine wpAny_loadPart_at e ?_;rw[b]) | with_reducible refine(looks_findIn X c.cl).at ?_ | wp_step))
 refine zE c X e b ?_
 repeat (any_goals (first | assumption | wp_step))
theorem Av{tk:Tok}{e b:Bool}{Q:Value->Shared->Prop}(c:XCls K D)(X:K.In h)(j:h.get? a=some o)(i:o.cls=.ref D)(r:Q (.ref D) ⟨h,g,d,t,os⟩) :
  wpAny (model prog w) A (getAttrBy (.ref a) (.str "__class__" tk) e b) Q E ⟨h,g,d,t,os⟩:=by
 have p:=PySem.F.attrBase_ValueError.ga.bind (.ref a)
 have l:(b && onTheHeap (Value.builtin "BaseException.__getattribute__"))=false:=by cases b <;> rfl
 have f:(Value.builtin "BaseException.__getattribute__" == Value.builtin "object.__getattribute__")=false:=by decide +kernel
 have m:(onTheHeap (Value.ref D) && Value.builtin "BaseException.__getattribute__" == Value.builtin "object.__getattribute__")=false:=by rw[f];rfl
 repeat (any_goals (first | assumption | (with_reducible refine wpAny_loadPart_at j ?_;rw[i]) | with_reducible refine(looks_findIn X c.ga).at ?_ | with_reducible refine(looks_findIn X c.gn).at ?_ | wp_step))
 refine codeAny_call_builtin PySem.F.attrBase_ValueError.ga.plain F.entry_bexc_ga (v5 c X j i (vh c X j i ?_))
 repeat (any_goals (first | assumption | wp_step))
theorem w9{Q:Option Value->Shared->Prop}(c:XCls K D)(X:K.In h)(e:h.get? a=some o)(b:o.cls=.ref D)(f:Q (some (.ref D)) ⟨h,g,d,t+1,os⟩) :
  wpAny (model prog w) A (getAttr? (.ref a) "__class__") Q E ⟨h,g,d,t,os⟩:=by
 unfold getAttr? getAttrBy?
 repeat (any_goals (first | assumption | with_reducible apply Av c X e b | wp_step))
end
def XAt(a D:Addr)(h:Heap):Prop:=∃ o,h.get? a=some o/\o.cls=.ref D
theorem vB{K:Frag}{a D:Addr}(c:XCls K D):PySem.W.KitX K (.ref a) (.ref D) (XAt a D) where
 ty:=λM h _ p=>by
  obtain⟨o,j,f⟩:=p;exact f ▸ (Looks.ld j).andThen .now
 it:=λ_ _ X _=>by
  obtain⟨l,b⟩:=Option.isSome_iff_exists.mp c.isc;unfold clsIn at b
  split at b
  .rename_i c' d' cd' sl' ho
   intro x u w y k q;unfold isType loadHead;exact wpAny_bind (wpAny_loadPart (k _ _ (X _ _ ho)) (wpAny_pure q))
  .cases b
 ne:=λh m v r n A X i=>by
  obtain⟨l,b⟩:=Option.isSome_iff_exists.mp c.isc;refine Bool.eq_false_iff.mpr λq=>?_
  have e:D=m:=Value.ref.inj (beq_iff_eq.mp q);subst e;unfold clsIn at b
  split at b
  .rename_i c' d' cd' sl' ho
   have z:=(X _ _ ho).symm.trans i;cases z
  .cases b
 ca:=λ{_ _ _ _ _ s} X p k=>by
  obtain⟨h,g,d,t,B⟩:=s;obtain⟨o,j,f⟩:=p;exact w9 c X j f k
theorem sJ{fs:List Addr}{H0 H:Hp}{f h h2:Heap}(u:Un fs [] H0 H f h)(k:∀ b o,(∃ o',f.get? b=some o')->b ∉ fs->h.get? b=some o->h2.get? b=some o)
  (g:∀ b o,b∈fs->h.get? b=some o->∃ l,h2.get? b=some { o with slots:=l }):Un fs [] H0 H f h2 where
 keep:=λb o q n a c=>k b o ⟨o,q⟩ a (u.keep b o q n a c)
 slot:=λb o q n a c=>by
  obtain⟨l,e⟩:=u.slot b o q n a c;obtain⟨i,d⟩:=g b _ a e;exact⟨i,d⟩
 free:=u.free
 there:=λb o q c=>by
  obtain⟨o',e⟩:=u.there b o q c
  by_cases a:b∈fs
  .obtain⟨l,d⟩:=g b o' a e
   exact⟨_,d⟩
  .exact⟨o',k b o' ⟨o,q⟩ a e⟩
 tups:=u.tups
 frzs:=u.frzs
 tbls:=u.tbls
theorem mJ{P:Program}{w:World}{H:Hp}{h h2:Heap}(x:HOk P w H h)(k:∀ b o u,H b=some u->h.get? b=some o->h2.get? b=some o):HOk P w H h2:=λa o e =>
 (x a o e).stay (λb u c q=>by
  rcases c with z | z
  .rw[z]at q ⊢
   exact k a u o e q
  .exact k b u _ z q) (λ_ q=>q) λ_ _ q=>q
theorem ObjOk.isObj{P:Program}{w:World}{H:Hp}{h:Heap}{a:Addr}{o:HO}(x:ObjOk P w H h a o):∃ u,h.get? a=some u:=by
 cases o with
 | lst xs=>obtain⟨_,_,_,_,e⟩:=x;exact⟨_,e⟩
 | tup xs=>obtain⟨_,_,_,_,e,_⟩:=x;exact⟨_,e⟩
 | dK kvs=>obtain⟨_,_,_,_,o,_,_,e,_⟩:=x;exact⟨_,e⟩
 | dT kvs=>obtain⟨_,_,_,_,o,_,_,e,_⟩:=x;exact⟨_,e⟩
 | set S n=>obtain⟨o,_,_,_,e,_⟩:=x;exact⟨_,e⟩
 | ins C dx fs=>obtain⟨_,_,_,e,_⟩:=x;exact⟨_,e⟩
 | own y=>exact x
 | xd fs=>obtain⟨_,⟨_,_,_,e,_⟩,_⟩:=x;exact⟨_,e⟩
 | rng lo hi=>obtain⟨_,_,_,e⟩:=x;exact⟨_,e⟩
 | frz ob u=>exact⟨_,x.1⟩
 | tbl ps=>exact⟨_,x⟩
 | met f y=>exact⟨_,x⟩
 | ext φ=>exact x.2.1
section
variable {P:Program}{w:World}{outer:List Env}{H H':Hp}{s s':Shared}{x D:Addr}{a0:Value}{B:Heap}
end
section
variable {X:Cx}{pins:List (Addr×Obj)}{σ:St}{H H':Hp}{s s':Shared}{x D:Addr}{a0:Value}{B h2:Heap}
theorem xJ(J:Inv X pins σ H' s'){b:Addr}(h:∃ o',X.s₀.heap.get? b=some o')(f:b ∉ frs X.outer):b ∉ frs X.stack:=λd=>by
 obtain⟨o',e⟩:=h
 rcases mem_cons.mp (J.stkSub b d) with z | z
 .have a:=Heap.lt_size e
  have c:=J.ok.above;rw[z]at a;exact absurd (Nat.lt_of_lt_of_le a c) (Nat.lt_irrefl _)
 .exact f z
theorem wA(J:Inv X pins σ H' s'){b:Addr}{u:HO}(e:H' b=some u):b ∉ frs X.stack:=λa=>by
 rw[J.stkFree b a]at e;cases e
end
section
variable {P:Program}{w:World}{K:Frag}{mg:Str->Option Value}{base:Heap}{N:List Str}{qual:Str}{scope:Scope}{f:Addr}{cdv:Value}{A:Around}{outer:List Env}{s0:Shared}{H0:Hp}{E:XK}
end
section
variable {P:Program}{w:World}{K:Frag}{mg:Str->Option Value}{base:Heap}
end
structure XHd(K:Frag)(C:Addr):Prop where
 isc:(clsIn K C).isSome=true
 ty:typeIn K (.ref C)=some (.type "type")
 mb:mroIn K C (.type "BaseException")=some true
theorem qu{K:Frag}{M:Model}{h:Heap}{C:Addr}(X:K.In h)(e:(clsIn K C).isSome=true):Looks M h (isType (.ref C)) true:=by
 obtain⟨b,a⟩:=Option.isSome_iff_exists.mp e;unfold clsIn at a
 split at a
 .rename_i c' d' cd' sl' ho
  intro f c d g k q;unfold isType loadHead;exact wpAny_bind (wpAny_loadPart (k _ _ (X _ _ ho)) (wpAny_pure q))
 .cases a
theorem tO{K:Frag}{M:Model}{h:Heap}{C D x:Addr}{b:Obj}(X:K.In h)(c:XHd K C)(j:h.get? x=some b)(g:b.cls=.ref D)(i:mroIn K D (.ref C)=some true) :
  Looks M h (excMatches (.ref x) (.ref C)) true:=by
 have d:Looks M h (typeOf (.ref C)) (.type "type"):=looks_typeIn X c.ty;have a:Looks M h (isSubtype (.type "type") (.type "tuple")) false:=Looks.of_pure tc_notTuple;have m:Looks M h (isInstance (.ref C) (.type "tuple")) false:=d.andThen a
 have l:Looks M h (isExcClass (.ref C)) true:=by
  unfold isExcClass;exact(qu X c.isc).andThen (looks_mroIn X c.mb)
 have f:Looks M h (typeOf (.ref x)) (.ref D):=g ▸ (Looks.ld j).andThen .now;have e:Looks M h (isSubtype (.ref D) (.ref C)) true:=looks_mroIn X i;intro A Q E s k q;unfold excMatches;refine wpAny_bind (m A _ E s k ?_);rw[if_neg Bool.false_ne_true];refine wpAny_bind (wpAny_pure ?_);simp only[forIn_cons,forIn_nil,bind_assoc,pure_bind];refine wpAny_bind (l A _ E s k ?_);simp only[Bool.not_true,Bool.false_eq_true,if_false,pure_bind];refine wpAny_bind (f A _ E s k ?_);refine wpAny_bind (e A _ E s k ?_);simp only[if_true,pure_bind];exact wpAny_pure q
def Cx.inX(X:Cx)(x:Addr):Cx:={ X with A:=X.A.mark (some (.ref x)),calm:=false,xe:=λ_ _=>False }
section
variable {X:Cx}{pins:List (Addr×Obj)}{σ:St}{H H' H1:Hp}{s s' s1:Shared}{x D C:Addr}{a0:Value}{B h2:Heap}
theorem Inv.inX(I:Inv X pins σ H s)(x:Addr):Inv (X.inX x) pins σ H s :=
 ⟨⟨I.ok.mod,I.ok.kind,I.ok.glob,I.ok.blt,I.ok.above,I.ok.inj,I.ok.has,I.ok.cab,λz=>absurd (show false=true from z) Bool.false_ne_true,I.ok.frames,I.ok.stk,I.ok.exf,I.ok.bs,I.ok.bsz,I.ok.noex,I.ok.exfs,I.ok.funs,I.ok.frf⟩,
  I.os,I.bare,I.base,I.loc,I.cell,I.free,I.freeC,I.pin,I.hok,I.len⟩
theorem Inv.outX(a:X.calm=true->X.A.handled=none)(I:Inv (X.inX x) pins σ H s):Inv X pins σ H s :=
 ⟨⟨I.ok.mod,I.ok.kind,I.ok.glob,I.ok.blt,I.ok.above,I.ok.inj,I.ok.has,I.ok.cab,a,I.ok.frames,I.ok.stk,I.ok.exf,I.ok.bs,I.ok.bsz,I.ok.noex,I.ok.exfs,I.ok.funs,I.ok.frf⟩,
  I.os,I.bare,I.base,I.loc,I.cell,I.free,I.freeC,I.pin,I.hok,I.len⟩
theorem Inv.gone{i:Nat}{n:Str}{m:Str->Option Value}{v:Option Value}{h':Heap}{t':Nat}(I:Inv X pins σ H s)(Q:X.N.Nodup)(A:X.N[i]? = some n)(Y:X.env.kindOf n = some .local)
  (P:∀(j:Nat) (y:Str) (w:V),X.N[j]? = some y->σ[j]? = some (some w)->Vis X.env.scope y->∃ u,RelV w u/\AV X.env s.heap m y u)
  (R:h'.Ns X.env.locals (λy=>if y = n then v else m y)) (sb:Heap.SameBut X.env.locals s.heap h'):Inv X pins (σ.set i none) H { s with heap:=h',toks:=t' }:=by
 have K:i<σ.length:=by rw[I.len];exact(List.getElem?_eq_some_iff.mp A).1
 have a:∀ b o,X.s₀.heap.get? b = some o->b≠X.env.locals:=λb o e=>Nat.ne_of_lt (Nat.lt_of_lt_of_le (Heap.lt_size e) I.ok.above)
 have u:=I.base;refine⟨I.ok,I.os,I.bare,⟨λb o e n h f=>(sb.2 b (a b o e)).trans (u.keep b o e n h f),λb o e n h f=>?_,u.free,λb o e f=>?_,u.tups,u.frzs,u.tbls⟩,⟨_,R,λj y w e1 e2 e3=>?_⟩,λx c e=>?_,I.free,I.freeC,λp hp=>?_,?_,by rw[List.length_set];exact I.len⟩
 .obtain⟨L,B⟩:=u.slot b o e n h f
  exact⟨L,(sb.2 b (a b o e)).trans B⟩
 .obtain⟨S,B⟩:=u.there b o e f
  exact⟨S,(sb.2 b (a b o e)).trans B⟩
 .have d:i≠j:=λz=>by
   subst z;rw[List.getElem?_set_self K]at e2;cases e2
  rw[List.getElem?_set_ne d]at e2
  have G:y≠n:=λz=>by
   subst z;exact d ((List.getElem?_inj (List.getElem?_eq_some_iff.mp A).1 Q).mp (A.trans e1.symm))
  obtain⟨D,r,l⟩:=P j y w e1 e2 e3;refine⟨D,r,?_⟩
  rcases l with⟨C,g⟩ | ⟨C,c,g,O⟩
  .exact .inl ⟨C,by simp only[if_neg G];exact g⟩
  .exact .inr ⟨C,c,g,O.sameBut sb (I.cne y c g)⟩
 .obtain⟨F,z⟩:=I.cell x c e
  exact⟨F,z.sameBut sb (I.cne x c e)⟩
 .obtain⟨N,W,E,T,M⟩:=I.pin p hp
  exact⟨(sb.2 _ E).trans N,W,E,T,M⟩
 .exact mJ I.hok λb o D e q=>(sb.2 b λz=>by rw[z,I.free]at e;cases e).trans q
end
section
variable {X:Cx}{pins:List (Addr×Obj)}{σ:St}{H H' H1:Hp}{s s' s1:Shared}{x D C:Addr}{a0:Value}{B h2:Heap}{cn en:Str}{ie:Nat}{b₀:Stmt}{suite:List Stmt}{cp hp:Pos}{ts:TS}{DE:Ends}
def Ends.asG(DE:Ends)(ie:Nat):Ends:={ nx:=λσ' H'=>DE.nx (σ'.set ie none) H',rt:=λ_ _=>False }
end
section
variable {X:Cx}{k ie:Nat}{f C:Addr}{fd:FuncData}{ps:List Str}{sp:Sp}{dvs:List V}{ds:List Value}{fx cn en:Str}{p pos p2 cp hp tp:Pos}{e:Expr}{es:List Expr}{t:TA}{b₀:Stmt}{suite:List Stmt}{ts:TS}
end
def TyX(K:Frag)(H:Hp)(x:V)(t:Value):Prop:=TyOf K H x t\/∃ a D φ,x=.ref a/\t=.ref D/\XCls K D/\H a=some (.ext φ)/\∀ h,φ h->XAt a D h
section
variable {X:Cx}
open PySem.W in
theorem sU{b:List (Addr×Obj)}{g:St}{H:Hp}{s:Shared}{x:V}{u t:Value}(I:Inv X b g H s)(f:RelV x u)(ty:TyX X.K H x t) :
  ∃ Hh:Heap->Prop,KitX X.K u t Hh/\Hh s.heap/\u≠.builtin "__main__.__loader__#opaque" := by
 rcases ty with ty | ⟨a,D,h,rfl,rfl,c,e,d⟩
 .exact rK I f ty
 .cases(show u=Value.ref a from f)
  exact⟨_,vB c,d _ (I.hok a _ e).1,λz=>nomatch z⟩
def Ch(K:Frag):List V->Hp->VK->Prop:=λxs H Q=>∃ x c t b,xs=[x,c]/\pK c=true/\TyX K H x t/\kitOne K t (vy c)=some b/\Q (.bl b) H
theorem qy:CallR X (.builtin "isinstance") (Ch X.K):=by
 intro a s o H m y Q I r h;obtain⟨x,c,t,b,rfl,f,l,e,q⟩:=h;obtain⟨u,v,rfl,d,i⟩:=mt r;cases oK f i;obtain⟨w,Z,p,j⟩:=sU I d l
 exact kia_one Z I.kIn p e j λg=>⟨.bl b,H,I.tok g,rfl,q⟩
def AF(K:Frag):List V->Hp->VK->Prop:=λxs H Q=>∃ x p cs t b,xs=[x,.ref p]/\H p=some (.tup cs)/\(cs.all pK)=true/\TyX K H x t/\kitAny K t (cs.map vy)=some b/\Q (.bl b) H
theorem qv:∀{cs:List V}{us:List Value},(cs.all pK)=true->Vals cs us->us=cs.map vy
 | [],_,_,.nil=>rfl
 | c::cs,_,h,.cons r t=>by
  rw[all_cons,Bool.and_eq_true]at h;rw[map_cons,oK h.1 r,qv h.2 t]
theorem tZ:CallR X (.builtin "isinstance") (AF X.K):=by
 intro d s M H L N Q I r h;obtain⟨x,p,A,t,b,rfl,l,g,E,e,q⟩:=h;obtain⟨u,i,rfl,C,y⟩:=mt r;cases(show i=Value.ref p from y)
 obtain⟨_,v,w,o,f,c,n,a⟩:=(show ObjOk X.prog X.w H s.heap p (.tup A) from I.hok p _ l)
 obtain⟨B,F,j,G⟩:=o;obtain rfl:B=.type "tuple" := c;obtain rfl:j=_:=a;rw[qv g w]at f;obtain⟨K,Z,z,D⟩:=sU I C E
 exact PySem.W.kia_tup Z I.kIn z f e D λm=>⟨.bl b,H,I.tok m,rfl,q⟩
end
section
variable {prog:Program}{w:World}{A:Around}{E:Value->Shared->Prop}{h:Heap}{g:Array GenState}{d:Drawn}{t:Nat}{os:OsState}{a D dx:Addr}{o:Obj}{vs:Array Value}{cd:ClassData}{K:Frag}{name:Str}{mA:Str->Option Value}{v:Value}
abbrev bmV:List Value:=[.type "ValueError",.type "Exception",.type "BaseException",.type "object"]
def Ci:Value->Bool
 | .ref _=>true
 | _=>false
def yd(l:List Value):Bool:=l.dropWhile Ci == bmV
structure XSet(K:Frag)(D:Addr)(name:Str)(cd:ClassData):Prop where
 k:clsIn K D=some cd
 dct:cd.hasDict=true
 mro:yd cd.mro=true
 mo:mroIn K D (.type "object")=some true
 sa:findIn K (.ref D) "__setattr__" = some (some (.builtin "object.__setattr__"))
 na:findIn K (.ref D) name=some none
end
section
variable {prog:Program}{w:World}{A:Around}{E:Value->Shared->Prop}{h:Heap}{g:Array GenState}{d:Drawn}{t:Nat}{os:OsState}
variable {nm q:Str}{C N fI:Addr}{bs bm bmB:List Value}{hdct:Bool}{sn:List Str}{sub:List Value}{ab:Bool}{col:Option Bool}{dd:Option Addr}{k0 k1 k2 k3 k5:Option Value}{B newId initId:String}{mN:Str->Option Value}{rest:List Value}{oI:Obj}
end
def XD0(a D:Addr):Heap->Prop:=λh=>∃ o vs,h.get? a=some o/\o.cls=.ref D/\o.data=.fields vs/\o.dict=none/\vs[1]? = some .none/\vs[2]? = some .none
section
variable {P:Program}{w:World}{H:Hp}{h:Heap}{a D dx:Addr}{fs:List (Str×V)}
theorem XD0.ok(x:XD0 a D h):ObjOk P w H h a (.ext (XD0 a D)):=⟨x,let ⟨o,_,e,_⟩:=x;⟨o,e⟩,λ_ _ ⟨o,b,e,r⟩ k=>⟨o,b,k o e,r⟩⟩
end
section
variable {X:Cx}{pins:List (Addr×Obj)}{σ:St}{H:Hp}{s:Shared}{h':Heap}{x dx D:Addr}{φ:Heap->Prop}{ox od:HO}
theorem Inv.tracked{t':Nat}(I:Inv X pins σ H s)(k:∀ b u,s.heap.get? b=some u->h'.get? b=some u)(f:s.heap.get? x=none)(d:ObjOk X.prog X.w (upd H x ox) h' x ox):Inv X pins σ (upd H x ox) { s with heap:=h',toks:=t' }:=by
 have h:H x=none:=by
  cases q:H x with
  | none=>rfl
  | some u =>
   obtain⟨o,e⟩:=(I.hok x u q).isObj;rw[f]at e;cases e
 have g:∀ b o,s.heap.get? b=some o->b≠x:=λb o e z=>by rw[z,f]at e;cases e
 have a:∀ b u,H b=some u->b≠x:=λb u e z=>by rw[z,h]at e;cases e
 refine I.un ⟨λb o e _ _ _=>k b o e,λb o e _ _ _=>⟨o.slots,k b o e⟩,λb o e n _=>?_,λb o e _=>⟨o,k b o e⟩,λb xs e=>?_,λb o u e=>?_,λb ps e=>⟨#[],?_⟩⟩ λb u e=>?_
 .rw[ar (g b o e)];exact n
 .rw[ar (a b _ e)];exact e
 .rw[ar (a b _ e)];exact e
 .rw[ar (a b _ e),e];simp
 .by_cases hb:b=x
  .subst hb
   rw[ae]at e;cases e;exact d
  .rw[ar hb]at e
   exact(I.hok b u e).stay (λc v _ q=>k c v q) (λc q=>by rw[ar (a c _ q)];exact q) λc xs q=>by rw[ar (a c _ q)];exact q
end
section
variable {X:Cx}{o e value:Expr}{f:Str}{pos pos' tpos:Pos}{ta tv:TE}
end
theorem rP{K:Frag}{h:Heap}{N:Addr}{m:Str->Option Value}{n:Str}{v:Value}(X:K.In h)(G:h.Ns N m)(q:nsIn K N n=some (some v)):m n=some v:=by
 obtain⟨g,f,e,d,c,_,b⟩:=G;unfold nsIn at q
 split at q
 .rename_i c0 d0 en0 k0 sl0 lk
  have a:=X _ _ lk;rw[d]at a;cases a;cases c
  split at q
  .rename_i entry found
   cases q;rw[<- b];unfold nsFind findBy;rw[<- Array.find?_toList,found];rfl
  .split at q <;> cases q
 .cases q
def xIn(K:Frag)(C:Addr)(fI:Option Value):Bool:=match K.lookup C with
 | some ⟨.type "type",_,.cls cd,sl⟩=>(match cd.mro,sl.toList with
  | .ref C'::bm,[_,_,_,_,some (.builtin n),_]=>C' == C && n == "ValueError.__new__" && !cd.hasDel && tailIn K bmV bm && nsOkIn K cd.ns && nsIn K cd.ns "__init__" == some fI
  | _,_=>false)
 | _=>false
structure XObj(h:Heap)(C:Addr)(fI:Option Value):Prop where
 obj:∃ bm N nm q bs hdct sn sub ab col dd k0 k1 k2 k3 k5 mN,h.get? C=some (excClassObj nm q C N bs bm hdct sn sub ab col dd k0 k1 k2 k3 k5 "ValueError.__new__")/\h.Ns N mN/\mN "__init__" = fI/\OwnTail h bmV bm
theorem xH{K:Frag}{h:Heap}{C:Addr}{g:Option Value}(X:K.In h)(z:xIn K C g=true):XObj h C g:=by
 unfold xIn at z
 split at z
 .rename_i dct cld slt lk
  split at z
  .rename_i C' tl a0 a1 a2 a3 nid a5 hmro hsl
   simp only[Bool.and_eq_true,beq_iff_eq,Bool.not_eq_true']at z;obtain⟨⟨⟨⟨⟨rfl,rfl⟩,a⟩,u⟩,c⟩,b⟩:=z;obtain⟨y,m,j,i,r,x,s,e,w,d,p⟩:=cld;dsimp only at hmro a c b;subst hmro a
   have o:slt = #[a0,a1,a2,a3,some (.builtin "ValueError.__new__"),a5]:=by
    obtain⟨l⟩:=slt;simp only at hsl;rw[hsl]
   subst o;have f:h.Ns i (h.nsMap i):=.of_isNs (PySem.W.isNs_of_in X c);refine⟨tl,i,y,r,m,x,s,e,w,d,dct,a0,a1,a2,a3,a5,_,X _ _ lk,f,?_,PySem.W.tail_of_in X u⟩;cases g with
   | none=>exact PySem.W.ns_none_of X f b
   | some v=>exact rP X f b
  .cases z
 .cases z
def nG(K:Frag)(D:Addr):Bool:=findIn K (.ref D) "__getattribute__" == some (some (.builtin "BaseException.__getattribute__")) && findIn K (.ref D) "__getattr__" == some none &&
 findIn K (.ref D) "__class__" == some (some (.builtin "object.__class__")) && mroIn K D (.type "BaseException") == some true && mroIn K D (.type "object") == some true && (clsIn K D).isSome && typeIn K (.ref D) == some (.type "type")
theorem A8{K:Frag}{D:Addr}(h:nG K D=true):XCls K D:=by
 unfold nG at h;simp only[Bool.and_eq_true,beq_iff_eq]at h;obtain⟨⟨⟨⟨⟨⟨e,c⟩,b⟩,a⟩,d⟩,f⟩,g⟩:=h;exact⟨e,c,b,a,d,f⟩
theorem yB{K:Frag}{D:Addr}(h:nG K D=true):XHd K D:=by
 unfold nG at h;simp only[Bool.and_eq_true,beq_iff_eq]at h;obtain⟨⟨⟨⟨⟨⟨g,e⟩,d⟩,a⟩,f⟩,c⟩,b⟩:=h;exact⟨c,b,a⟩
def tG(K:Frag)(D:Addr)(name:Str):Bool:=((clsIn K D).any λcd=>cd.hasDict && yd cd.mro) && mroIn K D (.type "object") == some true &&
 findIn K (.ref D) "__setattr__" == some (some (.builtin "object.__setattr__")) && findIn K (.ref D) name == some none
theorem Cm{K:Frag}{D:Addr}{name:Str}(h:tG K D name=true):∃ cd,XSet K D name cd:=by
 unfold tG at h;simp only[Bool.and_eq_true,beq_iff_eq]at h;obtain⟨⟨⟨f,d⟩,c⟩,b⟩:=h;obtain⟨cd,e,a⟩:=any_some f;rw[Bool.and_eq_true]at a;exact⟨cd,e,a.1,a.2,d,c,b⟩
section
variable {P:Program}{w:World}{K:Frag}{mg:Str->Option Value}{base:Heap}{N:List Str}{qual:Str}{scope:Scope}{f:Addr}{cdv:Value}{A:Around}{outer:List Env}{s0:Shared}{H0:Hp}{E:XK}
end
def Be(C:Addr):TE:=λ_ H Q=>∀ a,H a=none->Q (.ref a) (upd H a (.ext (XD0 a C)))
section
variable {X:Cx}{k:Nat}{f C:Addr}{fd:FuncData}{ps:List Str}{sp:Sp}{x:Str}{p pos:Pos}{e:Expr}{es:List Expr}{t:TA}
theorem sL(z:xIn X.K C none=true)(j:keepIn X.K (.ref C)=true)(r:Gl X x)(w:X.mg x=some (.ref C))(d:(x == ("__debug__" : Str))=false:=by decide):PE X (.Call (.Name x p) [] [] pos) (Be C):=by
 intro g s Z H Q I h;refine wpAny_Call_Name_kw (i7 I r w ?_ d);refine callWith_K0 I.kIn j ?_;obtain⟨O,N,M,q,W,f,sn,m,ab,D,G,L,k1,K,P,Y,S,i,y,c,T⟩:=(xH I.kIn z).obj;obtain⟨B,R,d0,E,v⟩:=s;refine wpAny_call_exc_subT (rest:=[]) PySem.F.excBase_ValueError T i y c (λh' a b=>?_) (Nat.zero_le _);obtain⟨F,l,_,_⟩:=b.there
 have A:H a=none:=by
  cases q:H a with
  | none=>rfl
  | some u =>
   obtain⟨o,e⟩:=(I.hok a u q).isObj;have:=b.new;rw[show B.get? a=some o from e]at this;cases this
 exact⟨.ref a,_,I.tracked (t':=E) b.keeps b.new (XD0.ok ⟨_,_,l,rfl,rfl,rfl,rfl,rfl⟩),rfl,h a A⟩
end
section
variable {prog:Program}{w:World}{KT:Type} [DecidableEq KT] {knd:KeyKind prog w KT}{A:Around}{E:Value->Shared->Prop}{s:Shared}{d:Addr}{kvs:List (KT×Value)}{k:KT}{key dflt:Value}
theorem yL{Q:Value->Shared->Prop}(c:knd.is k key=true)(G:s.heap.DictOf knd d kvs)(hz:kvs.length<=sizeLine)(o:valueAt kvs k=none)
  (h:∀ h',h'.DictOf knd d (kvs++[(k,dflt)])->Heap.SameBut d s.heap h'->Q dflt { s with heap:=h',toks:=s.toks+1 }):wpAny (model prog w) A (dictSetDefault d key dflt) Q E s:=by
 obtain⟨L,m,F,i,x,f,p,j,u⟩:=G
 have C:m.size<=sizeLine:=by
  have N:=j.length;have M:m.toList.length=m.size:=by simp
  lia
 have g:∀ q∈kvs,q.1≠k:=λq r y=>by
  unfold valueAt at o;rw[Option.map_eq_none_iff,List.find?_eq_none]at o;exact o q r (by simpa using y)
 have v:(m.findIdx? λe=>knd.is k e.key)=none:=by
  have D:(m.findIdx? λe=>knd.is k e.key)=kvs.findIdx? λq=>decide (q.1=k):=by
   rw[<- j.findIdx k];obtain⟨l⟩:=m;simp
  rw[D,List.findIdx?_eq_none_iff];intro q r;simpa using g q r
 unfold dictSetDefault;refine wpAny_holding (wpAny_bind (knd.pyHash c (wpAny_bind (wpAny_dictFind_of (s:={ s with toks:=s.toks+1 }) c i f p ?_))));rw[v]
 refine wpAny_bind (wpAny_rule (wpAny_bind (wpAny_updateDictKeys (hz:=C) (s:={ s with toks:=s.toks+1 }) i f (wpAny_pure (h _ ⟨_,_,F+1,Heap.get?_update_self _ i (Obj.isFreed_of_dict (Obj.data_mapDictKeys f _)),
  x.mapDictKeys _,Obj.data_mapDictKeys f _,p.push c _,?_,?_⟩ (Heap.SameBut.update ..))))))
 .have I:=j.append c (knd.hash k) dflt
  obtain⟨l⟩:=m;simpa using I
 .rw[map_append,nodup_append]
  refine⟨u,by simp,λa H b K=>?_⟩;obtain⟨q,r,rfl⟩:=mem_map.mp H;have B:b=k:=by simpa using K
  rw[B];exact g q r
theorem uJ(b:knd.is k key=true)(u:(d == sysModules)=false)(a:Value):MeetsIn prog w (Builtin.«dict.setdefault» ⟨[.ref d,key,a],[]⟩) (λ_ R s=>∃ kvs,s.heap.DictOf knd d kvs/\kvs.length<=sizeLine /\
  (∀ v,valueAt kvs k=some v->R (.ok (.ret v)) { s with toks:=s.toks+1 })/\(valueAt kvs k=none->∀ h',h'.DictOf knd d (kvs++[(k,a)])->Heap.SameBut d s.heap h'->R (.ok (.ret a)) { s with heap:=h',toks:=s.toks+1 })) :=
 .of_wp λA R s ⟨kvs,c,hz,D,B⟩=>by
  have y:s.heap.DictLe d sizeLine:=by
   obtain⟨G,m,I,g,C,e,p,h,x⟩:=id c;intro E L K l j;rw[g]at l;cases l;rw[e]at j;cases j;have H:=h.length;have F:m.toList.length=m.size:=by simp
   lia
  unfold Builtin.«dict.setdefault»;refine wpAny_bind ?_;unfold Builtin.Dict.keyAndDefault;refine wpAny_bind (wpAny_notOrdered_dict c.typeIs (show wpAny _ _ (pure (d,key,some a)) _ _ s from wpAny_pure ?_));show wpAny _ _ (if (d == sysModules)=true then _ else (dictSetDefault d key a >>= _)) _ _ s;rw[if_neg (by rw[u];exact Bool.false_ne_true)];cases hv:valueAt kvs k with
  | some v=>exact wpAny_bind (wpAny_dictSetDefault_of (hz:=y) b c.mapOf (λi f=>wpAny_pure ⟨i,rfl,D i f⟩) λhn=>absurd hn (by rw[hv];exact λz=>nomatch z))
  | none=>exact wpAny_bind (yL b c hz hv λh' r o=>wpAny_pure ⟨a,rfl,B hv h' r o⟩)
end
def yy:V->List V->Hp->VK->Prop:=λx vs H Q=>∃(a:Addr) (kvs:List (Key×V)) (k:Key) (v:V),x=.ref a/\vs=[kV k,v]/\H a=some (.dK kvs)/\kvs.length<sizeLine /\
 (∀ y,cR kvs k=some y->Q y H)/\(cR kvs k=none->Q v (upd H a (.dK (kvs++[(k,v)]))))
section
variable {X:Cx}
theorem xT:MtR X "dict.setdefault" yy:=by
 intro j s O H x d v P Q I E D h;obtain⟨a,c,k,y,rfl,rfl,e,l,F,C⟩:=h;cases E;obtain⟨N,f,rfl,u,r⟩:=mt D;obtain⟨z,o,d,b,m⟩:=sF I.hok e;have L:d.length<=sizeLine:=by rw[<- b.length];exact z
 refine call_meetsIn PySem.F.slot_dict_setdefault m.typeIs PySem.F.entry_dict_setdefault (PySem.F.args_dict_setdefault_3 _ _ _) (uJ (knd:=bu X.prog X.w) (qK u) o f) ⟨d,m,L,λM g=>?_,λhn h' m' s'=>?_⟩
 .have:=b.val k
  rw[g]at this;cases q:cR c k with
  | none=>rw[q]at this;exact False.elim this
  | some y' =>
   rw[q]at this;exact⟨y',H,I.tok _,this,F y' q⟩
 .have:=b.val k
  rw[hn]at this
  have q:cR c k=none:=by
   cases q:cR c k with
   | none=>rfl
   | some y'=>rw[q]at this;exact False.elim this
  have K:KV (c++[(k,y)]) (d++[(k,f)]):=by
   have p:=b.put k r
   have A:stored d k f=d++[(k,f)]:=by
    unfold stored;rw[if_neg];intro w;have i:=(b.any k).trans w;rw[gU,q]at i;cases i
   rw[vn y q,A]at p;exact p
  have B:(c++[(k,y)]).length<=sizeLine:=by rw[length_append];exact l
  have G:∃ ob,h'.get? a=some ob:=let ⟨ob,_,_,hq,_⟩:=m';⟨ob,hq⟩;exact⟨y,_,pF I (by rw[e];exact True.intro) s' G (v7 B o K m'),r,C q⟩
end
theorem rH{b:Addr}{o:HO}:∀{l:List (Addr×HO)},l.lookup b=some o->(b,o)∈l
 | [],e=>by simp at e
 | (c,u)::r,e=>by
  rw[lookup_cons]at e
  by_cases h:b=c
  .rw[show(b == c)=true by simpa using h]at e
   cases e;rw[h];exact mem_cons_self
  .rw[show(b == c)=false by simpa using h]at e
   exact mem_cons_of_mem _ (rH e)
def IV(v d:Addr):Heap->Prop:=λh=>h.IsItemsView v d
def vJ:V->List V->Hp->VK->Prop:=λx vs H Q=>∃(d:Addr) (kvs:List (Key×V)),x=.ref d/\vs=[]/\H d=some (.dK kvs)/\∀ v,H v=none->Q (.ref v) (upd H v (.ext (IV v d)))
section
variable {X:Cx}{o e:Expr}{es:List Expr}{to:TE}{t:TA}{apos cpos:Pos}
theorem wu:MtR X "dict.items" vJ:=by
 intro i s E H x C v F Q I l m h;obtain⟨d,y,rfl,rfl,e,q⟩:=h;cases l;cases m;obtain⟨z,j,p,w,c⟩:=sF I.hok e;refine call_meetsIn PySem.F.slot_dict_items c.typeIs PySem.F.entry_dict_items (PySem.F.args_dict_items_1 _) (meets_dict_items (bu X.prog X.w) d j) ⟨⟨p,c⟩,?_⟩;refine⟨.ref s.heap.objs.size,_,I.laid (t':=s.toks) (a:=s.heap.objs.size) (o:=.ext (IV s.heap.objs.size d)) (λb u e=>Heap.get?_push_of_some _ e) (Nat.le_refl _) ?_,rfl,q _ (I.hok.fresh (Nat.le_refl _))⟩;have g:(s.heap.push { cls:=.type "dict_items",data:=.fields #[.ref d] }).get? s.heap.objs.size=some { cls:=.type "dict_items",data:=.fields #[.ref d] }:=Heap.get?_push_size _ rfl;exact⟨⟨_,g,rfl,rfl⟩,⟨_,g⟩,λD B ⟨f,A,r⟩ k=>⟨f,k f A,r⟩⟩
def zS:List V->Hp->VK->Prop:=λxs H Q=>∃(v d:Addr) (kvs:List (Key×V)),xs=[.ref v]/\H v=some (.ext (IV v d))/\H d=some (.dK kvs) /\
 ∀(l:Addr) (as:List Addr) (H':Hp),Same H H'->H l=none->H' l=some (.lst (as.map V.ref))->as.length=kvs.length ->
  (∀(j:Nat) (a:Addr) (k:Key) (y:V),as[j]? = some a->kvs[j]? = some (k,y)->H a=none/\H' a=some (.tup [kV k,y]))->Q (.ref l) H'
theorem v3{P:Program}{w:World}{k:Key}{u:Value}(h:(bu P w).is k u=true):RelV (kV k) u:=by
 cases k with
 | inl i =>
  cases u <;> first | exact absurd h Bool.false_ne_true | (rename_i j t;have a:ju (Sum.inl i) (Value.int j t)=true:=h;have:j=i:=(by simpa[ju,Value.isInt] using a);exact(show ∃ t',Value.int j t=Value.int i t' from⟨t,by rw[this]⟩))
 | inr x =>
  cases u <;> first | exact absurd h Bool.false_ne_true | (rename_i j t;have a:ju (Sum.inr x) (Value.str j t)=true:=h;have:j=x:=(by simpa[ju,Value.isStrOf] using a);exact(show ∃ t',Value.str j t=Value.str x t' from⟨t,by rw[this]⟩))
theorem mj(hc:X.calm=true):CallR X (.type "list") zS:=by
 intro a1 s σ H xs us Q I r h;obtain⟨v,d,i,rfl,ev,ed,q⟩:=h;obtain⟨u,rfl,ru⟩:=ij r;cases ru;obtain⟨z,hd,ws,F,dd⟩:=sF I.hok ed;obtain⟨ob,en,ep,ad⟩:=id dd;have hz:ws.length<=sizeLine:=by rw[<- F.length];exact z
 have hv:s.heap.IsItemsView v d:=(I.hok v _ ev).1
 have R:s.heap.DictAt (bu X.prog X.w) d ws ep:=⟨ob,en,ad⟩
 refine PySem.W.kdx_call (knd:=bu X.prog X.w) (I.ok.hd hc) hv R hz λh' tk S c f Y hS hl hG M=>?_
 have A:f.length=i.length:=by rw[hl,F.length]
 have g:∀ b,s.heap.objs.size<=b->H b=none:=λb D=>I.hok.fresh D
 have aS:∀ a∈f,s.heap.objs.size<a:=hG.above;have nd:f.Nodup:=hG.rise.imp (λh=>Nat.ne_of_lt h)
 let tb:List (Addr×HO):=f.zip (i.map λp=>HO.tup [kV p.1,p.2])
 have a2:tb.length=f.length:=by simp[tb,A]
 let H':Hp:=λb=>if b=s.heap.objs.size then some (.lst (f.map V.ref)) else (tb.lookup b).or (H b)
 have an:∀ b o,tb.lookup b=some o->b∈f:=λb o e=>by
  have m:=rH e;exact(of_mem_zip (show(b,o)∈f.zip (i.map λp=>HO.tup [kV p.1,p.2]) from m)).1
 have O:∀ b,b<s.heap.objs.size->H' b=H b:=λb D=>by
  show(if b=s.heap.objs.size then _ else _)=_;rw[if_neg (Nat.ne_of_lt D)];cases q:tb.lookup b with
  | none=>rfl
  | some o=>exact absurd (aS b (an b o q)) (Nat.not_lt.mpr (Nat.le_of_lt D))
 have K:Same H H':=λb o e=>by
  have D:b<s.heap.objs.size:=Nat.lt_of_not_le λw=>by rw[g b w]at e;cases e
  rw[O b D];exact e
 have at_:∀(j:Nat) (a:Addr) (k:Key) (y:V),f[j]? = some a->i[j]? = some (k,y)->H' a=some (.tup [kV k,y]):=λj a k y E Z=>by
  have R:a∈f:=List.mem_of_getElem? E;show(if a=s.heap.objs.size then _ else _)=_;rw[if_neg (Nat.ne_of_gt (aS a R))]
  have e1:tb[j]? = some (a,.tup [kV k,y]):=by
   simp only[tb];rw[List.getElem?_zip_eq_some];refine⟨E,?_⟩;rw[List.getElem?_map,Z];rfl
  have W:tb.lookup a=some (.tup [kV k,y]):=by
   have B:∀(f:List Addr) (G:List HO) (j:Nat) (a:Addr) (o:HO),f.Nodup->f[j]? = some a->G[j]? = some o->(f.zip G).lookup a=some o:=by
    intro f
    induction f with
    | nil=>intro G j a o _ h;simp at h
    | cons x r ih =>
     intro G j a o nd h1 h2;cases G with
     | nil=>simp at h2
     | cons o0 G =>
      rw[List.zip_cons_cons,lookup_cons];cases j with
      | zero =>
       have e1:x=a:=by simpa using h1
       have W:o0=o:=by simpa using h2
       subst e1 W;simp
      | succ j =>
       have m:a∈r:=List.mem_of_getElem? (show r[j]? = some a by simpa using h1);have ne:a≠x:=λw=>(nodup_cons.mp nd).1 (w ▸ m)
       rw[show(a == x)=false by simpa using ne];exact ih G j a o (nodup_cons.mp nd).2 (by simpa using h1) (by simpa using h2)
   exact B f _ j a _ nd E (by rw[List.getElem?_map,Z];rfl)
  rw[W];rfl
 have ap:HOk X.prog X.w H' h':=λb o e=>by
  by_cases D:b=s.heap.objs.size
  .subst D
   have L:some (HO.lst (f.map V.ref))=some o:=by
    rw[<- e];show _=if s.heap.objs.size=s.heap.objs.size then _ else _
    rw[if_pos rfl]
   cases L
   have P:Vals (f.map V.ref) S.toList:=by
    rw[M]
    have:∀(l:List Addr),Vals (l.map V.ref) (l.map Value.ref):=by
     intro l
     induction l with
     | nil=>exact .nil
     | cons a l ih=>exact .cons rfl ih
    exact this f
   refine⟨by rw[length_map,A];exact z,S.toList,c,P,?_⟩;rw[hS]
  .have L:(tb.lookup b).or (H b)=some o:=by
    have:=e;simp only[H',if_neg D]at this;exact this
   cases qb:tb.lookup b with
   | some o' =>
    rw[qb]at L;cases L;have R:=rH qb;obtain⟨j,hj⟩:=List.mem_iff_getElem?.mp R;simp only[tb]at hj;rw[List.getElem?_zip_eq_some]at hj;obtain⟨E,T⟩:=hj;rw[List.getElem?_map]at T;cases hkv:i[j]? with
    | none=>rw[hkv]at T;cases T
    | some p =>
     rw[hkv]at T;cases T;obtain⟨B,k,x,hx,ab,hg⟩:=hG.pairs j b E
     obtain⟨C,hq',e3,r3⟩:∃ C,ws[j]? = some C/\p.1=C.1/\RelV p.2 C.2:=by
      have:∀{a:List (Key×V)}{b:List (Key×Value)},KV a b->∀(j:Nat) (p:Key×V),a[j]? = some p->∃ C,b[j]? = some C/\p.1=C.1/\RelV p.2 C.2:=by
       intro a b r
       induction r with
       | nil=>intro j p h;simp at h
       | @cons a0 b0 l1 l2 h0 _ ih =>
        intro j p h;cases j with
        | zero =>
         have e0:a0=p:=by simpa using h
         subst e0;exact⟨b0,by simp,h0⟩
        | succ j=>exact ih j p (by simpa using h) |>.imp λC hq=>⟨by simpa using hq.1,hq.2⟩
      exact this F j p hkv
     rw[hx]at hq';cases hq'
     have rk:RelV (kV p.1) B:=by
      have:p.1=k:=e3;rw[this];exact v3 ab
     exact⟨(by decide:2<=sizeLine),[B,x],.cons rk (.cons r3 .nil),⟨_,hg,rfl,_,rfl⟩⟩
   | none =>
    rw[qb]at L;have W:H b=some o:=L;refine(I.hok b o W).stay (λb2 u _ N=>Y b2 u N) (λb2 N=>K _ _ N) λb2 xs N=>K _ _ N
 refine⟨.ref s.heap.objs.size,H',I.un (t':=tk) ⟨λb o e _ _ _=>Y b o e,λb o e _ _ _=>⟨o.slots,Y b o e⟩,λb o e n _=>?_,λb o e _=>⟨o,Y b o e⟩,λb xs e=>K _ _ e,λb o u e=>K _ _ e,λb ps e=>⟨#[],by rw[K _ _ e];simp⟩⟩ ap,rfl,?_⟩
 .rw[O b (Heap.lt_size e)]
  exact n
 .refine q _ f H' K (g _ (Nat.le_refl _)) ?_ A λj a k y E Z=>⟨g a (Nat.le_of_lt (aS a (List.mem_of_getElem? E))),at_ j a k y E Z⟩
  show(if _ then _ else _)=_;rw[if_pos rfl]
end
section
variable {X:Cx}{o e:Expr}{es:List Expr}{to:TE}{t:TA}{apos cpos:Pos}
theorem pe_m.setdefault(h:PE X o to)(f:PA X (e::es) t)(c:attributeBase o "setdefault" X.env (eval o X.env)=eval o X.env:=by rfl)
  (d:((backTo cpos (starEach (e::es) X.env)).all (λx=>!x.1) && (backToKw cpos (keywordEach [] X.env)).all (λx=>x.1.isSome) && decide ((e::es).length+([]:List Keyword).length+(if ([]:List Keyword).isEmpty then 0 else 1)<30))=true:=by rfl)
  (b:(apos.endLine == cpos.line)=true:=by rfl) (g:starEach (e::es) X.env=(false,eval e X.env)::starEach es X.env:=by rfl) (a:(backTo cpos (starEach es X.env)).any (·.1)=false:=by rfl) :
  PE X (.Call (.Attribute o "setdefault" apos) (e::es) [] cpos) (tBM X.K "dict" yy to t):=v8 F.plainAttrs_dict F.slot_dict_setdefault F.type_dict_setdefault xT h f c d b g a
theorem pe_m.items(c:PE X o to)(b:attributeBase o "items" X.env (eval o X.env)=eval o X.env:=by rfl)(a:(apos.endLine == cpos.line)=true:=by rfl) :
  PE X (.Call (.Attribute o "items" apos) [] [] cpos) (Ap X.K "dict" vJ to):=zT F.plainAttrs_dict F.slot_dict_items F.type_dict_items wu c b a
end
theorem sV:∀{xs:List V}{us:List Value},xs.length=us.length->(∀(i:Nat) x u,xs[i]? = some x->us[i]? = some u->RelV x u)->Vals xs us
 | [],[],_,_=>.nil
 | x::xs,u::us,h,r=>.cons (r 0 x u rfl rfl) (sV (by simpa using h) λi y w b a=>r (i+1) y w (by simpa using b) (by simpa using a))
 | [],_::_,h,_=>by cases h
 | _::_,[],h,_=>by cases h
section
variable {X:Cx}
theorem oj:CallR X (.type "range") (λxs H Q=>∃ b,xs=[.int b]/\∀ p,H p=none->Q (.ref p) (upd H p (.rng 0 b))):=by
 intro a s c H xs d Q I r h;obtain⟨b,rfl,q⟩:=h;obtain⟨u,rfl,⟨t,rfl⟩⟩:=ij r;refine call_range_1 ?_;exact⟨.ref s.heap.objs.size,_,I.laid (o:=.rng 0 b) (λb o e=>Heap.get?_push_of_some _ e) (Nat.le_refl _) ⟨_,_,_,Heap.get?_push_size _ rfl⟩,rfl,q _ (I.hok.fresh (Nat.le_refl _))⟩
end
section
variable {M:Model}{A:Around}{E:Value->Shared->Prop}{s:Shared}{env:Env}{K:Frag}{D:Addr}
theorem xV{x:Sem Value}{Q:Flow->Shared->Prop}(c:XCls K D)(o:XHd K D)(l:A.handled=none)
  (h:wpAny M A x (λv s₁=>∃ e ob vs,v=.ref e/\K.In s₁.heap/\s₁.heap.get? e=some ob/\ob.cls=.ref D/\ob.data=.fields vs/\vs[1]? = some .none/\E (.ref e) s₁) E s):wpAny M A (raiseStmt env (some x) none) Q E s:=by
 unfold raiseStmt;refine wpAny_bind (wpAny_mono h (λv s₁ a=>?_) λ_ _ z=>z);obtain⟨e,ob,vs,rfl,X,f,m,b,i,j⟩:=a;obtain⟨r,g,d,p,u⟩:=s₁
 repeat (first | with_reducible refine(looks_typeIn X o.ty).at ?_ | (with_reducible refine wpAny_loadPart_at f ?_;first | rw[m] | rw[b]) | with_reducible refine(looks_mroIn X c.mb).at ?_ | with_reducible refine wpAny_field f b i ?_ | wp_step)
 exact wpAny_raiseNew_none l j
end
def Fx(h:Heap)(e:Addr)(cls:Value)(dct:Option Addr)(fl:Value)(T:Addr):Prop :=
 ∃ ob fs oT ts,h.get? e=some ob/\ob.cls=cls/\ob.dict=dct/\ob.data=.fields fs/\fs[1]? = some (.ref T)/\T≠e/\h.get? T=some oT/\oT.data=.fields ts/\ts[3]? = some fl
theorem mD(f:Array Value->Array Value)(o:Obj):(Obj.mapFields f o).dict=o.dict:=by
 obtain⟨c,d,a,b⟩:=o
 cases a <;> rfl
theorem vC(f:Array Value->Array Value)(o:Obj):(Obj.mapFields f o).cls=o.cls:=Obj.cls_mapFields _ _
section
variable {M:Model}{A:Around}{E:Value->Shared->Prop}{s:Shared}{base:Heap}{env:Env}{outer:List Env}{L e:Addr}{ob:Obj}{fs:Array Value}{head:Value}{more:Bool}
theorem pM{Q:Unit->Shared->Prop}(fr:A.frames=some (env::outer))(C:s.heap.FunFrames base (env::outer))(G:env.frame=some L)(u:s.heap.get? e=some ob)(m:ob.data=.fields fs)(x:1<fs.size)
  (h:∀ h' T,Fx h' e ob.cls ob.dict (rawInt L) T->s.heap.get? T=none->(∀ b o,b≠e->b ∉ frs (env::outer)->s.heap.get? b=some o->h'.get? b=some o) ->
   (∀ b o,b≠e->s.heap.get? b=some o->∃ sl,h'.get? b=some { o with slots:=sl })->Q () { s with heap:=h' }) :
  wpAny M A (do let a <- frameOf env;let pl <- entryPlaceOf L more;let b <- EntryCells.newEntry head a .none (rawInt L) .none pl;setField (.ref e) 1 b) Q E s:=by
 have p:e ∉ frs (env::outer):=λF=>by
  obtain⟨_,o,r,j⟩:=C.mem F;rw[u]at r;cases r;exact j fs m
 refine wpAny_bind (wpAny_frameOf_fun fr C G λc i=>?_);refine wpAny_bind (wpAny_entryPlaceOf λpl l=>?_);unfold EntryCells.newEntry newFields;refine wpAny_bind (wpAny_newObj_type ?_ (l.sizeOk5 _ _ _ _ _));have v:c.get? e=some ob:=(i.2.1 e p).trans u;have B:=Heap.get?_push_of_some (h:=c) { cls:=.type "traceback",dict:=none,data:=.fields ([head,.ref L,.none,rawInt L,.none]++(if pl.isEmpty then List.replicate 6 Value.none else pl)).toArray } v;have y:c.objs.size≠e:=Nat.ne_of_gt (Heap.lt_size v);have w:=Obj.data_mapFields m (·.setIfInBounds 1 (Value.ref c.objs.size));have H:=Heap.get?_update_self (Obj.mapFields (·.setIfInBounds 1 (Value.ref c.objs.size))) B (Obj.isFreed_of_fields w)
 have f:∀ b o,b≠e->c.get? b=some o->((c.push { cls:=.type "traceback",dict:=none,data:=.fields ([head,.ref L,.none,rawInt L,.none]++(if pl.isEmpty then List.replicate 6 Value.none else pl)).toArray }).update e (Obj.mapFields (·.setIfInBounds 1 (Value.ref c.objs.size)))).get? b=some o :=
  λb o g d=>(Heap.get?_update_other _ _ (Ne.symm g)).trans (Heap.get?_push_of_some _ d)
 refine wpAny_setField B m x (h _ c.objs.size ⟨_,_,_,_,H,vC _ _,mD _ _,w,by simp[x],y,(Heap.get?_update_other _ _ (Ne.symm y)).trans (Heap.get?_push_size _ rfl),rfl,?_⟩ ?_ (λb o g j d=>f b o g ((i.2.1 b j).trans d)) λb o g d=>?_)
 .simp
 .have:s.heap.objs.size=c.objs.size:=i.1.symm
  rw[<- this];exact Heap.get?_none_of_le (Nat.le_refl _)
 .obtain⟨sl,D⟩:=i.2.2 b o d
  exact⟨sl,f b _ g D⟩
end
section
variable {M:Model}{A:Around}{E:Value->Shared->Prop}{s:Shared}{base:Heap}{env:Env}{outer:List Env}{L e T:Addr}{ob:Obj}{fs:Array Value}{cls fl:Value}{dct:Option Addr}
def KeptBut(xs fr:List Addr)(h h':Heap):Prop :=
 (∀ b o,b ∉ xs->b ∉ fr->h.get? b=some o->h'.get? b=some o)/\∀ b o,b ∉ xs->h.get? b=some o->∃ sl,h'.get? b=some { o with slots:=sl }
theorem KeptBut.trans{xs ys fr:List Addr}{h d h2:Heap}(a:KeptBut xs fr h d)(b:KeptBut ys fr d h2):KeptBut (xs++ys) fr h h2 :=
 ⟨λc o n f g=>b.1 c o (λz=>n (mem_append_right _ z)) f (a.1 c o (λz=>n (mem_append_left _ z)) f g),λc o n g=>by
  obtain⟨l,j⟩:=a.2 c o (λz=>n (mem_append_left _ z)) g;obtain⟨i,e⟩:=b.2 c _ (λz=>n (mem_append_right _ z)) j
  exact⟨i,e⟩⟩
theorem uU{Q:Unit->Shared->Prop}(fr:A.frames=some (env::outer))(p:s.heap.FunFrames base (env::outer))(c:env.frame=some L)(i:s.heap.get? e=some ob)(d:ob.data=.fields fs)(a:fs[1]? = some .none)
  (h:∀ h' T,Fx h' e ob.cls ob.dict (rawInt L) T->s.heap.get? T=none->KeptBut [e] (frs (env::outer)) s.heap h'->Q () { s with heap:=h' }):wpAny M A (noteFrame (.ref e) env) Q E s:=by
 unfold noteFrame;simp only[c];refine wpAny_bind (wpAny_field i d a ?_);rw[if_neg (by decide)];exact pM fr p c i d (Array.getElem?_eq_some_iff.mp a).1 λh' T x l m j=>h h' T x l ⟨λb o n f g=>m b o (by simpa using n) f g,λb o n g=>j b o (by simpa using n) g⟩
theorem ss{Q:Unit->Shared->Prop}(fr:A.frames=some (env::outer))(H:s.heap.FunFrames base (env::outer))(B:env.frame=some L)(x:Fx s.heap e cls dct .none T)
  (h:∀ h' T',Fx h' e cls dct (rawInt L) T'->s.heap.get? T'=none->KeptBut [T,e] (frs (env::outer)) s.heap h'->Q () { s with heap:=h' }):wpAny M A (noteFrame (.ref e) env) Q E s:=by
 obtain⟨K,N,I,D,y,rfl,rfl,w,v,G,l,j,C⟩:=x;unfold noteFrame;simp only[B];refine wpAny_bind (wpAny_field y w v ?_);rw[if_pos (show(Value.ref T != Value.none)=true from by simp)];refine wpAny_bind (wpAny_field l j C ?_);rw[if_neg (show ¬((Value.none == rawInt L)=true) from by simp[rawInt])];refine wpAny_bind (wpAny_setField l j (Array.getElem?_eq_some_iff.mp C).1 ?_);have a:∀ b,b≠T->(s.heap.update T (Obj.mapFields (·.setIfInBounds 3 Value.none))).get? b=s.heap.get? b:=λb F=>Heap.get?_update_other _ _ (Ne.symm F)
 have i:∀ b o,s.heap.get? b=some o->(∀ vs,o.data≠.fields vs)->b≠T:=λb o d p z=>by
  rw[z,l]at d;cases d;exact p D j
 have m:=Heap.get?_update_self (Obj.mapFields (·.setIfInBounds 3 Value.none)) l (Obj.isFreed_of_fields (Obj.data_mapFields j _));refine pM fr (H.of_keeps λb o d p=>⟨o,(a b (i b o d p)).trans d,rfl⟩) B ((a e G.symm).trans y) w (Array.getElem?_eq_some_iff.mp v).1 λh' T' x' nT' k1 k2=>h h' T' x' ?_ ⟨λb o n f g=>?_,λb o n g=>?_⟩
 .cases q:s.heap.get? T' with
  | none=>rfl
  | some o =>
   by_cases z:T'=T
   .rw[z,m]at nT'
    cases nT'
   .have c:=nT'
    rw[a T' z,q]at c;cases c
 .have u:b≠T:=λz=>n (by rw[z];exact mem_cons_self)
  have r:b≠e:=λz=>n (by rw[z];simp)
  exact k1 b o r f ((a b u).trans g)
 .have u:b≠T:=λz=>n (by rw[z];exact mem_cons_self)
  have r:b≠e:=λz=>n (by rw[z];simp)
  exact k2 b o r ((a b u).trans g)
theorem je{Q:Unit->Shared->Prop}{fr:List Addr}(x:Fx s.heap e cls dct fl T)(h:∀ h',Fx h' e cls dct .none T->KeptBut [T] fr s.heap h'->Q () { s with heap:=h' }):wpAny M A (setFlight (.ref e) none) Q E s:=by
 obtain⟨v,u,y,r,p,rfl,rfl,l,d,m,j,c,w⟩:=x;have i:3<r.size:=(Array.getElem?_eq_some_iff.mp w).1;have a:∀ b,b≠T->(s.heap.update T (Obj.mapFields (·.setIfInBounds 3 ((none:Option Addr).elim Value.none λf=>rawInt f)))).get? b=s.heap.get? b:=λb nb=>Heap.get?_update_other _ _ (Ne.symm nb)
 unfold setFlight;refine wpAny_bind (wpAny_field p l d ?_);rw[if_pos (show(Value.ref T != Value.none)=true from by simp)];refine wpAny_setField j c i (h _ ⟨v,u,_,_,(a e m.symm).trans p,rfl,rfl,l,d,m,Heap.get?_update_self _ j (Obj.isFreed_of_fields (Obj.data_mapFields c _)),Obj.data_mapFields c _,by simp[i]⟩ ⟨λb o n _ g=>?_,λb o n g=>?_⟩)
 .exact(a b (by simpa using n)).trans g
 .exact⟨o.slots,(a b (by simpa using n)).trans g⟩
theorem u7{Q:Unit->Shared->Prop}(fr:A.frames=some (env::outer))(i:s.heap.FunFrames base (env::outer))(d:env.frame=some L)(x:Fx s.heap e cls dct .none T)
  (h:∀ h' T',Fx h' e cls dct .none T'->s.heap.get? T'=none->KeptBut [T,e,T'] (frs (env::outer)) s.heap h'->Q () { s with heap:=h' }):wpAny M A (leaving env (.ref e)) Q E s:=by
 unfold leaving;refine wpAny_bind (ss fr i d x λc g a b f=>je (s:={ s with heap:=c }) a λh2 x2 k2=>h h2 g x2 b (f.trans k2))
theorem tJ{Q:Unit->Shared->Prop}(fr:A.frames=some (env::outer))(m:s.heap.FunFrames base (env::outer))(f:env.frame=some L)(l:s.heap.get? e=some ob)(g:ob.data=.fields fs)(a:fs[1]? = some .none)
  (h:∀ h' T',Fx h' e ob.cls ob.dict .none T'->s.heap.get? T'=none->KeptBut [e,T'] (frs (env::outer)) s.heap h'->Q () { s with heap:=h' }):wpAny M A (leaving env (.ref e)) Q E s:=by
 unfold leaving;refine wpAny_bind (uU fr m f l g a λd j b c i=>je (s:={ s with heap:=d }) b λh2 x2 k2=>h h2 j x2 c (i.trans k2))
end
structure XG(P:Program)(w:World)(outer:List Env)(H:Hp)(s:Shared)(x D:Addr)(dct:Option Addr)(T:Addr)(H':Hp)(s':Shared):Prop where
 os:s'.os=s.os
 bare:AllBare s'.gens
 un:Un (frs outer) [] H H' s.heap s'.heap
 hok:HOk P w H' s'.heap
 fx:Fx s'.heap x (.ref D) dct .none T
 nx:s.heap.get? x=none
 nT:s.heap.get? T=none
 ux:H' x=none
 uT:H' T=none
def CXG(P:Program)(w:World):CXT:=λouter H s E e s'=>∃ x D dct T H',e=.ref x/\XG P w outer H s x D dct T H' s'/\E (.ref D) dct H'
theorem dU{fs:List Addr}{H a:Hp}{h h':Heap}{b:Addr}(u:Un fs [] H a h h')(n:h'.get? b=none):h.get? b=none:=by
 cases q:h.get? b with
 | none=>rfl
 | some o =>
  obtain⟨c,e⟩:=u.there b o q (by simp);rw[n]at e;cases e
section
variable {P:Program}{w:World}{K:Frag}{mg:Str->Option Value}{base:Heap}{N:List Str}{qual:Str}{scope:Scope}{f:Addr}{cdv:Value}{A:Around}{outer:List Env}{s0:Shared}{H0:Hp}{E:XK}
abbrev cxG(P:Program)(w:World)(K:Frag)(mg:Str->Option Value)(base:Heap)(N:List Str)(qual:Str)(scope:Scope)(f:Addr)(cdv:Value)(A:Around)(outer:List Env)(s0:Shared)(H0:Hp)(E:XK):Cx :=
 gF (CXG P w) P w K mg base N qual scope f cdv A outer s0 H0 E
theorem sI{X:Cx}{c:List (Addr×Obj)}{s:St}{f:Hp}{s':Shared}{h2:Heap}{x D T:Addr}{d:Option Addr}{xs:List Addr}(J:Inv X c s f s')(h:X.ex=[])
  (k:KeptBut xs (frs X.stack) s'.heap h2) (a:∀ b∈xs,X.s₀.heap.get? b=none/\f b=none/\b ∉ frs X.outer) (p:Fx h2 x (.ref D) d .none T) (i:x∈xs) (j:T∈xs) :
  XG X.prog X.w X.outer X.H₀ X.s₀ x D d T f { s' with heap:=h2 }:=by
 have r:Un (frs X.outer) [] X.H₀ f X.s₀.heap s'.heap:=by
  have:=J.base;rw[h]at this;exact this
 refine⟨J.os,J.bare,sJ r (λb o m g e=>k.1 b o (λz=>?_) (xJ J m g) e) (λb o g e=>k.2 b o (λz=>(a b z).2.2 g) e),mJ J.hok (λb o u hu e=>k.1 b o (λz=>?_) (wA J hu) e),p,(a x i).1,(a T j).1,(a x i).2.1,(a T j).2.1⟩
 .obtain⟨v,l⟩:=m
  rw[(a b z).1]at l;cases l
 .rw[(a b z).2.1]at hu
  cases hu
theorem lO{X:Cx}{a:List (Addr×Obj)}{c:St}{H:Hp}{s:Shared}(I:Inv X a c H s){b:Addr}(h:s.heap.get? b=none):b ∉ frs X.outer:=λz=>by
 obtain⟨_,o,e,_⟩:=I.funs.mem z;rw[h]at e;cases e
theorem cE:iB (CXG P w) (cxG P w K mg base N qual scope f cdv A outer s0 H0 E) E:=by
 intro a p H s e d I v;obtain⟨x,D,i,T,c,rfl,G,q⟩:=v;have J:Inv (cxG P w K mg base N qual scope f cdv A outer s0 H0 E) a p c d:=I.call' (ch:=[]) G.os G.un G.hok G.bare (by simp);have l:Un (frs outer) [] H0 H s0.heap s.heap:=I.base;have m:Un (frs outer) [] H0 c s0.heap d.heap:=J.base;show wpAny _ _ (leaving _ (.ref x)) _ _ d;refine u7 I.ok.frames J.stack rfl G.fx λB j y g k=>?_
 refine⟨x,D,i,j,c,rfl,sI J rfl k (λb r=>?_) y (by simp) (by simp),q⟩;have h:b=T\/b=x\/b=j:=by simpa using r
 rcases h with rfl | rfl | rfl
 .exact⟨dU l G.nT,G.uT,lO I G.nT⟩
 .exact⟨dU l G.nx,G.ux,lO I G.nx⟩
 .refine⟨dU m g,?_,lO J g⟩
  cases z:c b with
  | none=>rfl
  | some u =>
   obtain⟨o,e⟩:=(J.hok b u z).isObj;rw[g]at e;cases e
theorem BP:PassesOwn (model P w) (cxG P w K mg base N qual scope f cdv A outer s0 H0 E).A (cxG P w K mg base N qual scope f cdv A outer s0 H0 E).env (cxG P w K mg base N qual scope f cdv A outer s0 H0 E).xe:=PassesOwn.leaving
end
section
variable {P:Program}{w:World}{K:Frag}{mg:Str->Option Value}{base:Heap}
theorem Fun.okG{x a:Str}{st:Stmt}{f:Addr}{g:FuncData}{N ps:List Str}{k:Nat}{sp:Sp}(F:Fun K x a st f g)(S:FnScope N ps (am st))(d:∀ vs H Q E,sp vs H Q E->vs.length=ps.length)
  (b:∀(cdv:Value) (A:Around) (outer:List Env) (s:Shared) (H:Hp) (vs:List V) (Q:VK) (E:XK),Room k (A.deeper (envOfC a (am st) s.heap.objs.size f cdv))->sp vs H Q E ->
   ∃ t,PSs (cxG P w K mg base N a (am st) f cdv A outer s H E) (eX st) t/\t { nx:=λ_ H'=>Q .non H',rt:=Q } (start N vs) H):FnOk P w K mg base (CXG P w) (k+1) f g ps sp:=by
 obtain⟨v,m,r,h,o,p,cdv,u,j,rfl,i,c⟩:=F.ex;exact vN i c S d λA outer s H vs Q E l e=>b cdv A outer s H vs Q E l e
end
def untr(H:Hp)(x:Addr):Hp:=λb=>if b=x then none else H b
theorem cQ{H:Hp}{x b:Addr}(h:b≠x):untr H x b=H b:=by unfold untr;rw[if_neg h]
theorem eO{H:Hp}{x:Addr}:untr H x x=none:=by unfold untr;rw[if_pos rfl]
def XU(a D:Addr)(dct:Option Addr):Heap->Prop:=λh=>∃ o vs,h.get? a=some o/\o.cls=.ref D/\o.data=.fields vs/\o.dict=dct/\vs[1]? = some .none/\vs[2]? = some .none
theorem Inv.untr{X:Cx}{a:List (Addr×Obj)}{h:St}{H:Hp}{s:Shared}{x:Addr}{g:Heap->Prop}(I:Inv X a h H s)(j:H x=some (.ext g)):Inv X a h (untr H x) s:=by
 have d:∀ b u,H b=some u->(∀ ψ,u≠.ext ψ)->b≠x:=λb u e n z=>by
  rw[z,j]at e;cases e;exact n g rfl
 have i:∀ b,H b=none->L2.untr H x b=none:=λb e=>by
  by_cases z:b=x
  .rw[z];exact eO
  .rw[cQ z];exact e
 have f:HOk X.prog X.w (L2.untr H x) s.heap:=λb u e=>by
  by_cases z:b=x
  .rw[z,eO]at e
   cases e
  .rw[cQ z]at e
   refine(I.hok b u e).stay (λ_ _ _ q=>q) (λc q=>?_) λc xs q=>?_
   .rw[cQ (d c _ q λ_ z=>nomatch z)];exact q
   .rw[cQ (d c _ q λ_ z=>nomatch z)];exact q
 exact I.un (t':=s.toks) (h':=s.heap) ⟨λb o e _ _ _=>e,λb o e _ _ _=>⟨o.slots,e⟩,λb o e n _=>i b n,λb o e _=>⟨o,e⟩,λb xs e=>by rw[cQ (d b _ e λ_ z=>nomatch z)];exact e,
  λb o u e=>by rw[cQ (d b _ e λ_ z=>nomatch z)];exact e,λb ps e=>⟨#[],by rw[cQ (d b _ e λ_ z=>nomatch z),e];simp⟩⟩ f
section
variable {P:Program}{w:World}{K:Frag}{mg:Str->Option Value}{base:Heap}{N:List Str}{qual:Str}{scope:Scope}{f:Addr}{cdv:Value}{A:Around}{outer:List Env}{s0:Shared}{H0:Hp}{E:XK}
def xr(K:Frag)(H0:Hp)(E:XK)(D:Addr)(te:TE):TS:=λ_ σ H=>te σ H λv H1=>∃ x dct φ,v=.ref x/\H1 x=some (.ext φ)/\(∀ h,φ h->XU x D dct h)/\H0 x=none/\E (.ref D) dct (untr H1 x)
theorem ol{p:Expr}{O:TE}{D:Addr}{d:Pos}(c:XCls K D)(Y:XHd K D)(he:PE (cxG P w K mg base N qual scope f cdv A outer s0 H0 E) p O) :
  PS (cxG P w K mg base N qual scope f cdv A outer s0 H0 E) (.Raise (some p) none d) (xr K H0 E D O):=by
 intro a s σ H DE I h;rw[arm_exec_Raise];refine wpAny_bind (wpAny_standAt ?_);show wpAny _ _ (raiseStmt _ (some (do let v <- eval p (cxG P w K mg base N qual scope f cdv A outer s0 H0 E).env;standAt d;pure v)) none) _ _ s;refine xV (K:=K) (D:=D) c Y (I.ok.hd rfl) (wpAny_bind (thn (he a s σ H _ I h) λv m ⟨y,i,g,ry,x,r,φ,Z,G,B,h0,q⟩=>wpAny_bind (wpAny_standAt (wpAny_pure ?_))));subst Z;obtain rfl:v=Value.ref x:=ry;obtain⟨S,L,j,Q,l,g4,M⟩:=B _ (g.hok x _ G).1;refine⟨x,S,L,rfl,g.kIn,j,Q,l,M.1,?_⟩;show wpAny _ _ (leaving _ (.ref x)) _ _ m;have J:=g.untr G;have jb:Un (frs outer) [] H0 (untr i x) s0.heap m.heap:=J.base;have ib:Un (frs outer) [] H0 i s0.heap m.heap:=g.base
 have W:s0.heap.get? x=none:=by
  cases z:s0.heap.get? x with
  | none=>rfl
  | some o =>
   have:=ib.free x o z h0 (by simp);rw[G]at this;cases this
 refine tJ g.ok.frames J.stack rfl j l M.1 λh2 T R C k=>?_
 rw[Q,g4]at R;refine⟨x,D,r,T,untr i x,rfl,sI J rfl k (λb hb=>?_) R (by simp) (by simp),q⟩;have F:b=x\/b=T:=by simpa using hb
 rcases F with rfl | rfl
 .refine⟨W,eO,λz=>?_⟩
  obtain⟨_,o,e,X⟩:=J.funs.mem z;rw[j]at e;cases e;exact X L l
 .refine⟨dU jb C,?_,lO J C⟩
  cases z:untr i x b with
  | none=>rfl
  | some u =>
   obtain⟨o,e⟩:=(J.hok b u z).isObj;rw[C]at e;cases e
end
def XCt(a D:Addr)(dct:Option Addr):Heap->Prop:=λh=>∃ o vs,h.get? a=some o/\o.cls=.ref D/\o.data=.fields vs/\o.dict=dct
theorem XCt.at{a D:Addr}{b:Option Addr}{h:Heap}(x:XCt a D b h):XAt a D h:=let ⟨o,_,e,c,_⟩:=x;⟨o,e,c⟩
section
variable {X:Cx}{pins:List (Addr×Obj)}{σ:St}{H H':Hp}{s s':Shared}{x D C T T2:Addr}{dct:Option Addr}{fl:Value}{h2:Heap}{xs:List Addr}
theorem yi(I:Inv X pins σ H s)(G:XG X.prog X.w X.stack H s x D dct T H' s')(k:KeptBut xs (frs X.stack) s'.heap h2)(f:∀ b∈xs,s.heap.get? b=none/\H' b=none/\b ∉ frs X.stack)(N:Fx h2 x (.ref D) dct fl T2) :
  Inv X pins σ (upd H' x (.ext (XCt x D dct))) { s' with heap:=h2 }:=by
 have c:∀ b u,H' b=some u->b≠x:=λb u e z=>by rw[z,G.ux]at e;cases e
 have m:∀ b u,H' b=some u->b ∉ frs X.stack:=λb u e y=>by
  obtain⟨_,o,K,_⟩:=I.stack.mem y;rw[G.un.free b o K (I.stkFree b y) (by simp)]at e;cases e
 have g:Un (frs X.stack) [] H H' s.heap h2:=sJ G.un (λb o L i e=>k.1 b o (λz=>by obtain⟨o0,e0⟩:=L;rw[(f b z).1]at e0;cases e0) i e) (λb o i e=>k.2 b o (λz=>(f b z).2.2 i) e);have l:HOk X.prog X.w H' h2:=mJ G.hok (λb o u j e=>k.1 b o (λz=>by rw[(f b z).2.1]at j;cases j) (m b u j) e);obtain⟨v,M,_,_,w,O,B,F,_⟩:=N;refine I.call' (ch:=[]) (s':={ s' with heap:=h2 }) G.os ⟨g.keep,g.slot,λb o e n p=>?_,g.there,λb xs e=>?_,λb o u e=>?_,λb ps e=>?_⟩ (λa o e=>?_) G.bare (by simp)
 .have:b≠x:=λz=>by rw[z,G.nx]at e;cases e
  rw[ar this];exact g.free b o e n p
 .have d:=g.tups b xs e
  rw[ar (c b _ d)];exact d
 .have d:=g.frzs b o u e
  rw[ar (c b _ d)];exact d
 .obtain⟨h,d⟩:=g.tbls b ps e
  exact⟨h,by rw[ar (c b _ d)];exact d⟩
 .by_cases ha:a=x
  .subst ha
   rw[ae]at e;cases e;exact⟨⟨v,M,w,O,F,B⟩,⟨v,w⟩,λQ P ⟨o,A,E,r⟩ C=>⟨o,A,C o E,r⟩⟩
  .rw[ar ha]at e
   exact(l a o e).stay (λ_ _ _ q=>q) (λb q=>by rw[ar (c b _ q)];exact q) λb xs q=>by rw[ar (c b _ q)];exact q
end
section
variable {X:Cx}{pins:List (Addr×Obj)}{σ:St}{H H':Hp}{s s':Shared}{x D C T:Addr}{dct:Option Addr}{cn en:Str}{ie:Nat}{b₀:Stmt}{suite:List Stmt}{cp hp:Pos}{ts:TS}{DE:Ends}
end
end L2
namespace FrM
theorem va(x y:Int):Int.gcd y (x % y)=Int.gcd x y:=by
 have e:x=x % y+y*(x/y):=(Int.emod_add_mul_ediv x y).symm;rw[Int.gcd_comm x y]
 conv=>rhs;rw[e]
 rw[Int.gcd_add_mul_left_right]
def Bt(n:Nat)(i:Int):Prop:=i.natAbs<2 ^ n
theorem Bt.mono{m n:Nat}{i:Int}(h:Bt m i)(l:m<=n):Bt n i:=Nat.lt_of_lt_of_le h (Nat.pow_le_pow_right (by decide) l)
theorem Bt.le{n:Nat}{i j:Int}(h:Bt n i)(l:j.natAbs<=i.natAbs):Bt n j:=Nat.lt_of_le_of_lt l h
theorem Bt.mul{m n:Nat}{i j:Int}(h:Bt m i)(h':Bt n j):Bt (m+n) (i*j):=by
 unfold Bt at *;rw[Int.natAbs_mul,Nat.pow_add];exact Nat.mul_lt_mul_of_le_of_lt (Nat.le_of_lt h) h' (Nat.lt_of_le_of_lt (Nat.zero_le _) h)
theorem Bt.add{n:Nat}{i j:Int}(h:Bt n i)(h':Bt n j):Bt (n+1) (i+j):=by
 unfold Bt at *;rw[Nat.pow_succ];omega
theorem Bt.sub{n:Nat}{i j:Int}(h:Bt n i)(h':Bt n j):Bt (n+1) (i - j):=by
 unfold Bt at *;rw[Nat.pow_succ];omega
structure Low(T B t b:Int):Prop where
 pos:1<=b
 cop:Int.gcd t b=1
 eq:t*B=T*b
theorem low(t b:Int)(g:0<b):0<(Int.gcd t b:Int)/\(Int.gcd t b:Int)<=b/\Low t b (t/(Int.gcd t b:Int)) (b/(Int.gcd t b:Int))/\(t/(Int.gcd t b:Int)).natAbs<=t.natAbs/\(b/(Int.gcd t b:Int)).natAbs<=b.natAbs:=by
 have c:0<Int.gcd t b:=Int.gcd_pos_iff.mpr (.inr (by omega));have d:0<(Int.gcd t b:Int):=by omega
 have f:=Int.gcd_dvd_left t b;have a:=Int.gcd_dvd_right t b;have h:=Int.ediv_mul_cancel f;have i:=Int.ediv_mul_cancel a;have e:(Int.gcd t b:Int)<=b:=Int.le_of_dvd g a;refine⟨d,e,⟨?_,Int.gcd_ediv_gcd_ediv_gcd c,?_⟩,?_,?_⟩
 .have:=Int.ediv_pos_of_pos_of_dvd g (by omega) a
  omega
 .rw[<- Int.mul_ediv_assoc _ a,Int.mul_comm,<- Int.mul_ediv_assoc _ f,Int.mul_comm]
 .have:=congrArg Int.natAbs h
  rw[Int.natAbs_mul]at this;rw[<- this];exact Nat.le_mul_of_pos_right _ (by simpa using c)
 .have:=congrArg Int.natAbs i
  rw[Int.natAbs_mul]at this;rw[<- this];exact Nat.le_mul_of_pos_right _ (by simpa using c)
theorem lH{b t a:Int}(c:Int.gcd t b=1)(h:b ∣ t*a):b ∣ a:=by
 rw[<- Int.natAbs_dvd_natAbs]at *;rw[Int.natAbs_mul]at h;exact Nat.Coprime.dvd_of_dvd_mul_left (by rw[Nat.coprime_comm];exact c) h
theorem Low.uniq{T B t b t' a:Int}(f:B≠0)(h:Low T B t b)(h':Low T B t' a):t=t'/\b=a:=by
 have e:t*a=t'*b:=by
  have:(t*a)*B=(t'*b)*B:=by
   rw[Int.mul_assoc,Int.mul_comm a B,<- Int.mul_assoc,h.eq,Int.mul_assoc t' b B,Int.mul_comm b B,<- Int.mul_assoc,h'.eq,Int.mul_assoc,Int.mul_assoc,Int.mul_comm b a]
  exact Int.eq_of_mul_eq_mul_right f this
 have g:b ∣ a:=by
  have:b ∣ t*a:=⟨t',by rw[e,Int.mul_comm]⟩
  exact lH h.cop this
 have d:a ∣ b:=by
  have:a ∣ t'*b:=⟨t,by rw[<- e,Int.mul_comm]⟩
  exact lH h'.cop this
 have c:b=a:=Int.dvd_antisymm (by have:=h.pos;omega) (by have:=h'.pos;omega) g d;refine⟨?_,c⟩;rw[c]at e;exact Int.eq_of_mul_eq_mul_right (by have:=h'.pos;omega) e
end FrM
namespace L2
open PySem PySem.Spec PyProof.Rows FrM
section
variable {X:Cx}
def CMulB(i j:Int):Prop:=(Bt 8000 i/\Bt 8000 j)\/CMul i j
theorem CMulB.ok{i j:Int}(h:CMulB i j):IntMulOk i j:=by
 rcases h with⟨b,a⟩ | h
 .exact IntMulOk.of_le (m:=8000) (n:=8000) (intBits_le_iff.mpr b) (intBits_le_iff.mpr a) (by decide)
 .exact h.ok
def CDivB(i j:Int):Prop:=0<j/\Bt 8000 j
theorem CDivB.no{i j:Int}(h:CDivB i j):Builtin.divisionGoesByPylong i j=false:=by
 refine PyProof.noPylong_of_log2 ?_;have a:j.natAbs<2 ^ 8000:=h.2
 by_cases h0:j.natAbs=0
 .rw[h0];decide +kernel
 .have:j.natAbs.log2<8000:=(Nat.log2_lt h0).mpr a
  lia
theorem op_mulB:OpR X (binaryOp .Mult) (rI CMulB λi j=>.int (i*j)):=opI λ_ _ _ _ _ _ _ a q=>mul_int q a.ok
theorem op_fdivB:OpR X (binaryOp .FloorDiv) (rI CDivB λi j=>.int (i/j)):=opI λi j _ _ _ _ _ a q=>by
 have b:(0:Int)<j:=a.1;exact floordiv_int (by lia) (by rw[Int.fdiv_eq_ediv_of_nonneg i (by lia)];exact q) (.inl a.no)
theorem be:OpR X (binaryOp .Mult) (rIC CMulB λi j=>.int (i*j)):=op_mulB.ic
theorem cK:OpR X (binaryOp .FloorDiv) (rIC CDivB λi j=>.int (i/j)):=op_fdivB.ic
theorem cmB{i j:Int}{m n:Nat}(h:Bt m i)(h':Bt n j)(a:m<=8000:=by decide)(b:n<=8000:=by decide):CMulB i j:=.inl ⟨h.mono a,h'.mono b⟩
theorem clB{i j:Int}(h:-(2 ^ 64)<i:=by decide)(h2:i<2 ^ 64:=by decide):CMulB i j:=.inr (cl h h2)
theorem crB{i j:Int}(h:-(2 ^ 64)<j:=by decide)(h2:j<2 ^ 64:=by decide):CMulB i j:=.inr (cr h h2)
theorem cdB{i j:Int}{n:Nat}(h:0<j)(h':Bt n j)(a:n<=8000:=by decide):CDivB i j:=⟨h,h'.mono a⟩
theorem zg:bootBuiltins "abs" = some (.builtin "abs"):=by decide +kernel
end
end L2
namespace HT
open PySem PySem.Spec PyProof.Rows
section
variable {prog:Program}{w:World}{A:Around}{E:Value->Shared->Prop}{s:Shared}
end
end HT
namespace L2
open PySem PySem.Spec PyProof.Rows
section
variable {X:Cx}
def rq(K:Frag):R2:=λx y H Q=>∃ a b ys,x=.ref a/\y=.ref b/\SqT K H a []/\SqT K H b ys/\Q (.ref b) H
theorem op_catT0:OpR X (binaryOp .Add) (rq X.K):=by
 intro o s T H x y v u Q I N L h;obtain⟨a,b,S,rfl,rfl,M,P,q⟩:=h;cases N;cases L;obtain⟨i,C,G,_⟩:=I.tuple M;obtain⟨f,R,O,_⟩:=I.tuple P;have B:i=[]:=C.nil_iff.mpr rfl;subst B;obtain⟨⟨K,D,p,E⟩,A,m,n,r⟩:=id G;obtain⟨⟨w,l,j,g⟩,d,c,F,e⟩:=id O;simp only at m r c e;subst m r c e
 exact concat_meets ⟨_,A,rfl⟩ ⟨_,d,rfl⟩ noFill_tuple_add seq_tuple_add PySem.F.slot_tuple_add PySem.F.entry_tuple_add (PySem.F.args_tuple_add_2 _ _)
   (tuple_addW0 a b _ f.toArray n F D l E g rfl) ⟨A,d,⟨.ref b,H,I,rfl,q⟩⟩
theorem uL:OpR X (binaryOp .Add) (λx y H Q=>rq X.K x y H Q\/vX X.K x y H Q):=op_catT0.or w6
@[irreducible] def PAq(X:Cx)(es:List Expr)(t:TA):Prop:=PA X es t
theorem Bv:PAq X [] yJ:=by unfold PAq;exact ac
end
structure LamD where
 qual:Str
 params:Arguments
 body:Expr
 scope:Scope
def kF(f:Addr)(d:LamD)(clos:List (Str×Addr))(c:Addr):Heap->Prop:=λh=>∃ pm ctv,h.get? f=some (kla_obj "<lambda>" d.qual d.params d.body d.scope clos pm c ctv)
def fg(c:Addr)(v:V):Heap->Prop:=λh=>∃ o u,h.get? c=some o/\o.data=.cell (some u)/\RelV v u
def iJ(c:Addr)(q:Str):Heap->Prop:=λh=>∃ o vs t,h.get? c=some o/\o.data=.fields vs/\vs[1]? = some (.str q t)
section
variable {P:Program}{w:World}{H:Hp}{h:Heap}
theorem sE{f:Addr}{d:LamD}{b:List (Str×Addr)}{c:Addr}{g a:Value}(e:h.get? f=some (kla_obj "<lambda>" d.qual d.params d.body d.scope b g c a)):ObjOk P w H h f (.ext (kF f d b c)) :=
 ⟨⟨g,a,e⟩,⟨_,e⟩,λl j ⟨g,a,i⟩ k=>⟨g,a,k _ i⟩⟩
theorem pY{c:Addr}{v:V}(x:fg c v h):ObjOk P w H h c (.ext (fg c v)) :=
 ⟨x,let ⟨o,_,e,_⟩:=x;⟨o,e⟩,λd b ⟨o,u,a,r⟩ k=>⟨o,u,k _ a,r⟩⟩
theorem vH{c:Addr}{q:Str}(x:iJ c q h):ObjOk P w H h c (.ext (iJ c q)) :=
 ⟨x,let ⟨o,_,_,e,_⟩:=x;⟨o,e⟩,λf d ⟨o,a,t,b,r⟩ k=>⟨o,a,t,k _ b,r⟩⟩
end
theorem wR(a:Addr)(o:Obj)(b:o.data≠.freed):∃ h:Heap,h.get? a=some o:=by
 refine⟨{ objs:=Array.replicate (a+1) o },?_⟩;obtain⟨c,d,e,f⟩:=o
 cases e <;> first | exact absurd rfl b | simp[Heap.get?]
theorem oF{c:Addr}{q:Str}{v:V}:HO.ext (iJ c q)≠HO.ext (fg c v):=λe=>by
 injection e with e
 obtain⟨h,b⟩:=wR c { cls:=.none,data:=.fields #[.none,.str q 0] } (by intro z;cases z);have y:fg c v h:=by rw[<- e];exact⟨_,_,_,b,rfl,rfl⟩
 obtain⟨o,u,a,d,_⟩:=y;rw[b]at a;cases a;cases d
def AK:HO->Bool
 | .tbl _=>false
 | _=>true
def SameT(H H':Hp):Prop:=∀ b o,H b=some o->(AK o=true->H' b=some o)/\∃ o',H' b=some o'
theorem SameT.refl{H:Hp}:SameT H H:=λb o e=>⟨λ_=>e,o,e⟩
theorem SameT.trans{H d h:Hp}(a:SameT H d)(b:SameT d h):SameT H h:=λc o e=>by
 obtain⟨f,m,j⟩:=a c o e;obtain⟨g,i,l⟩:=b c m j;exact⟨λn=>(b c o (f n)).1 n,i,l⟩
theorem Same.t{H a:Hp}(s:Same H a):SameT H a:=λb o e=>⟨λ_=>s b o e,o,s b o e⟩
theorem SameT.at{H b:Hp}(s:SameT H b){a:Addr}{o:HO}(e:H a=some o)(n:AK o=true:=by rfl):b a=some o:=(s a o e).1 n
theorem SameT.free{H c:Hp}(s:SameT H c){a:Addr}(e:c a=none):H a=none:=by
 cases q:H a with
 | none=>rfl
 | some o=>obtain⟨_,d,b⟩:=s a o q;rw[e]at b;cases b
theorem SameT.put{H c:Hp}(s:SameT H c){a:Addr}{o:HO}(e:H a=none):SameT H (upd c a o):=λb u q=>by
 have n:b≠a:=λz=>by rw[z,e]at q;cases q
 rw[ar n];exact s b u q
def Bd(H:Hp)(P:Addr)(ls:List (Pos×Str)):Prop:=∃ ps,H P=some (.tbl ps)/\TriplesOk ps.toList/\∀ l∈ls,codeAmong l.1 ps.toList=none\/∃ c,codeAmong l.1 ps.toList=some (.ref c)/\H c=some (.ext (iJ c l.2))
abbrev rV:=List (Addr×List (Pos×Str))
def TabsOk(tabs:rV)(H:Hp):Prop:=∀ q∈tabs,Bd H q.1 q.2
theorem TabsOk.same{d:rV}{H e:Hp}(t:TabsOk d H)(s:Same H e):TabsOk d e:=λq j=>by
 obtain⟨f,m,i,h⟩:=t q j;exact⟨f,s _ _ m,i,λl g=>(h l g).imp id λ⟨c,a,b⟩=>⟨c,a,s _ _ b⟩⟩
theorem TabsOk.put{d:rV}{H:Hp}{r:Addr}{o:HO}(t:TabsOk d H)(g:∀ ps,H r≠some (.tbl ps))(h2:∀ φ,H r≠some (.ext φ)):TabsOk d (upd H r o):=λq j=>by
 obtain⟨ps,e,i,h⟩:=t q j;refine⟨ps,?_,i,λl f=>(h l f).imp id λ⟨c,a,b⟩=>⟨c,a,?_⟩⟩
 .rw[ar λz=>g ps (by rw[<- z];exact e)];exact e
 .rw[ar λz=>h2 _ (by rw[<- z];exact b)];exact b
theorem p8{p d:Pos}{c:Value}(l:List Value)(h:TriplesOk l)(e:¬(p.line=d.line/\p.col=d.col)):codeAmong d (l++[rawInt p.line,rawInt p.col,c])=codeAmong d l:=by
 fun_induction TriplesOk l with
 | case1 =>
  simp only[nil_append,codeAmong,rawInt];rw[if_neg];intro z;rw[Bool.and_eq_true,beq_iff_eq,beq_iff_eq]at z;exact e ⟨by lia,by lia⟩
 | case2 a t b u x rest ih =>
  simp only[List.cons_append,codeAmong];rw[ih h]
 | case3=>exact h.elim
theorem oX{p:Pos}{c:Value}(l:List Value)(h:TriplesOk l):TriplesOk (l++[rawInt p.line,rawInt p.col,c]):=by
 fun_induction TriplesOk l with
 | case1=>simp[TriplesOk,rawInt]
 | case2 a t b u x rest ih=>exact ih h
 | case3=>exact h.elim
def Bm(mg:Str->Option Value)(base:Heap):Prop:=∃ bm ob,mg "__builtins__" = some (.ref bm)/\base.get? bm=some ob/\ob.cls=.type "module" /\ ob.dict=some builtinsNs/\ob.data=.plain
def BN(tabs:rV)(d:LamD)(clos:List (Str×Addr)):TE:=λσ H Q=>TabsOk tabs H/\∀ f c H1,SameT H H1->TabsOk tabs H1->H f=none->H1 f=some (.ext (kF f d clos c))->H1 c=some (.ext (iJ c d.qual))->Q (.ref f) H1
theorem pH{c b:Type}:∀{l:List (c×b)},(l.map (·.1)).Nodup->∀ x∈l,∀ y∈l,x.1=y.1->x=y
 | [],_,x,hx,_,_,_=>by cases hx
 | a::r,nd,x,hx,y,hy,e=>by
  rw[map_cons,nodup_cons]at nd
  rcases mem_cons.mp hx with rfl | hx' <;> rcases mem_cons.mp hy with rfl | hy'
  .rfl
  .exact absurd (mem_map.mpr ⟨y,hy',e.symm⟩) nd.1
  .exact absurd (mem_map.mpr ⟨x,hx',e⟩) nd.1
  .exact pH nd.2 x hx' y hy' e
theorem sM:∀{l:List (Pos×Str)},(l.Pairwise λx y=>¬(x.1.line=y.1.line/\x.1.col=y.1.col))->∀ x∈l,∀ y∈l,(x.1.line=y.1.line/\x.1.col=y.1.col)->x=y
 | [],_,x,hx,_,_,_=>by cases hx
 | a::r,nd,x,hx,y,hy,e=>by
  rw[List.pairwise_cons]at nd
  rcases mem_cons.mp hx with rfl | hx' <;> rcases mem_cons.mp hy with rfl | hy'
  .rfl
  .exact absurd e (nd.1 y hy')
  .exact absurd ⟨e.1.symm,e.2.symm⟩ (nd.1 x hx')
  .exact sM nd.2 x hx' y hy' e
section
variable {X:Cx}{tabs:rV}{P c:Addr}{ls:List (Pos×Str)}{d:LamD}{clos:List (Str×Addr)}{pos:Pos}
theorem cm(S:X.env.code=.ref c)(hC:codeHdIn X.K c P=true)(hB:Bm X.mg X.base)(hq:X.env.qual ++ "<lambda>" = d.qual)(M:closureFor d.scope X.env=pure clos)(N:defaultsOf d.params X.env=([],[]))
  (hm:(P,ls)∈tabs) (hl:(pos,d.qual)∈ls) (a6:(tabs.map (·.1)).Nodup) (a3:ls.Pairwise λx y=>¬(x.1.line=y.1.line/\x.1.col=y.1.col)):PE X (.Lambda d.params d.body d.scope pos) (BN tabs d clos):=by
 intro bl s σ H Q I h;obtain⟨hT,hQ⟩:=h;refine PySem.W.kla_eval N ?_;rw[hq];obtain⟨G,w,m,Z⟩:=hT _ hm;have p:s.heap.Ns mainGlobals X.mg:=I.mod.glob.keeps I.bk;have C:CodeHd s.heap c P:=codeHd_of_K I.kIn hC;have r:s.heap.get? P=some (tabObj G):=I.hok P _ w
 have as:mainGlobals≠P:=λq=>by
  obtain⟨o,es,ep,e,hd,_⟩:=p;rw[q,r]at e;cases e;cases hd
 obtain⟨bm,ob,b1,b2,b3,b4,b5⟩:=hB;have W:=I.bk _ _ b2
 have a8:bm≠P:=λq=>by
  rw[q,r]at W;cases W;cases b3
 have ap:bm≠mainGlobals:=λq=>by
  obtain⟨o,es,ep,e,hd,_⟩:=p;rw[q,e]at W;cases W;rw[hd]at b5;cases b5
 have a4:bm≠builtinsNs:=λq=>by
  obtain⟨mb,⟨o,es,ep,e,hd,_⟩,_⟩:=I.mod.blt;rw[q,e]at b2;cases b2;rw[hd]at b5;cases b5
 have BA:s.heap.BuiltinsAt X.mg P:=⟨bm,ob,b1,a4,ap,a8,W,b3,b4,b5⟩
 rcases Z _ hl with hn | ⟨i,hc,a0⟩
 .refine PySem.W.kla_makeFunction (mg:=X.mg) M I.ok.glob p S C r m hn as BA λi ad h' tk hx A F an a2=>?_
  have O:H i=none:=I.hok.fresh A;have j:H h'.objs.size=none:=I.hok.fresh (Nat.le_trans A (Nat.le_of_lt F));have T:i≠h'.objs.size:=Nat.ne_of_lt F;have aS:P≠i:=aB w O;have R:P≠h'.objs.size:=aB w j
  obtain⟨f,hf⟩:∃ f,f=h'.objs.size:=⟨_,rfl⟩
  obtain⟨ob',hob⟩:∃ o,o=kla_obj "<lambda>" d.qual d.params d.body d.scope clos ((X.mg "__name__").getD .none) i ad:=⟨_,rfl⟩
  have a':(h'.push ob').get? f=some ob':=by rw[hf,hob];exact Heap.get?_push_size _ rfl
  have l:∀ b o,b≠P->s.heap.get? b=some o->(h'.push ob').get? b=some o:=λb o n e=>Heap.get?_push_of_some _ (hx b o n e)
  have B:(h'.push ob').get? P=some (tabObj (G ++ #[rawInt pos.line,rawInt pos.col,.ref i])):=Heap.get?_push_of_some _ a2
  have a1:iJ i d.qual (h'.push ob'):=by
   obtain⟨D,oc,vs,t,e2,bd,a5,hv⟩:=an;cases e2;exact⟨oc,vs,t,Heap.get?_push_of_some _ bd,a5,hv⟩
  rw[<- hf]at j T R ⊢;rw[<- hob]
  obtain⟨H1,hH1⟩:∃ H1,H1=upd (upd (upd H P (.tbl (G ++ #[rawInt pos.line,rawInt pos.col,.ref i]))) i (.ext (iJ i d.qual))) f (.ext (kF f d clos i)):=⟨_,rfl⟩
  have gf:H1 f=some (.ext (kF f d clos i)):=by rw[hH1];exact ae
  have gc:H1 i=some (.ext (iJ i d.qual)):=by rw[hH1,ar T];exact ae
  have gP:H1 P=some (.tbl (G ++ #[rawInt pos.line,rawInt pos.col,.ref i])):=by rw[hH1,ar R,ar aS];exact ae
  have go:∀ b,b≠P->b≠i->b≠f->H1 b=H b:=λb h1 h2 L=>by rw[hH1,ar L,ar h2,ar h1]
  have g:∀ b o,b≠P->H b=some o->H1 b=some o:=λb o n e=>by rw[go b n (aB e O) (aB e j)];exact e
  have E:∀ b o,H b=some o->(∀ qs,o≠.tbl qs)->b≠P:=λb o e n z=>by rw[z,w]at e;cases e;exact n G rfl
  have un:Un X.fs [] H H1 s.heap (h'.push ob'):=by
   refine⟨λb o e n _ _=>l b o (λz=>by rw[z,w]at n;cases n) e,λb o e n _ _=>⟨o.slots,l b o (λz=>by rw[z,w]at n;cases n) e⟩,λb o e n _=>?_,λb o e _=>?_,λb xs e=>g b _ (E b _ e λ_ z=>nomatch z) e,λb o u e=>g b _ (E b _ e λ_ z=>nomatch z) e,λb qs e=>?_⟩
   .have hb:b<s.heap.objs.size:=Heap.lt_size e
    rw[go b (λz=>by rw[z,w]at n;cases n) (Nat.ne_of_lt (Nat.lt_of_lt_of_le hb A)) (by rw[hf];exact Nat.ne_of_lt (Nat.lt_of_lt_of_le hb (Nat.le_trans A (Nat.le_of_lt F))))];exact n
   .by_cases hb:b=P
    .rw[hb];exact⟨_,B⟩
    .exact⟨o,l b o hb e⟩
   .by_cases hb:b=P
    .rw[hb,w]at e
     cases e;rw[hb];exact⟨_,gP⟩
    .exact⟨#[],by rw[g b _ hb e];simp⟩
  have a9:HOk X.prog X.w H1 (h'.push ob'):=λa o e=>by
   by_cases h1:a=f
   .subst h1;rw[gf]at e;cases e;exact sE (by rw[a',hob])
   by_cases h2:a=i
   .subst h2;rw[gc]at e;cases e;exact vH a1
   by_cases L:a=P
   .subst L;rw[gP]at e;cases e;exact B
   rw[go a L h2 h1]at e;refine(I.hok a o e).stay (λb u hb q=>l b u ?_ q) (λb q=>g b _ (E b _ q λ_ z=>nomatch z) q) λb xs q=>g b _ (E b _ q λ_ z=>nomatch z) q
   rcases hb with rfl | hb
   .exact L
   .exact E b _ hb λ_ z=>nomatch z
  refine⟨.ref f,H1,I.un (h':=h'.push ob') (t':=tk) un a9,rfl,hQ f i H1 (λb o e=>?_) (λq hq'=>?_) j gf gc⟩
  .by_cases hb:b=P
   .subst hb
    rw[w]at e;cases e;exact⟨λz=>(Bool.false_ne_true z).elim,_,gP⟩
   .exact⟨λ_=>g b o hb e,o,g b o hb e⟩
  .by_cases hqP:q.1=P
   .have a7:q=(P,ls):=pH a6 q hq' (P,ls) hm hqP
    subst a7;refine⟨_,gP,by rw[Array.toList_append];exact oX _ m,λK v=>?_⟩;rw[Array.toList_append]
    by_cases hp:pos.line=K.1.line/\pos.col=K.1.col
    .have:=sM a3 (pos,d.qual) hl K v hp
     subst this;exact .inr ⟨i,codeAmong_snoc _ m hn,gc⟩
    .have eo:=p8 (c:=.ref i) G.toList m hp
     rcases Z K v with z | ⟨D,z1,Y⟩
     .exact .inl (eo.trans z)
     .exact .inr ⟨D,eo.trans z1,g D _ (E D _ Y λ_ z=>nomatch z) Y⟩
   .obtain⟨qs,e1,e2,e3⟩:=hT q hq'
    exact⟨qs,g _ _ hqP e1,e2,λK v=>(e3 K v).imp id λ⟨D,z1,Y⟩=>⟨D,z1,g D _ (E D _ Y λ_ z=>nomatch z) Y⟩⟩
 .refine PySem.W.kla_makeFunctionHit (mg:=X.mg) M I.ok.glob p S C r m hc BA λad h' tk hk ab=>?_
  have j:H h'.objs.size=none:=I.hok.fresh ab;have sm:Same H (upd H h'.objs.size (.ext (kF h'.objs.size d clos i))):=Same.new j;refine⟨.ref h'.objs.size,_,I.laid (a:=h'.objs.size) (o:=.ext (kF h'.objs.size d clos i)) (t':=tk) (λb u e=>Heap.get?_push_of_some _ (hk b u e)) ab (sE (Heap.get?_push_size _ rfl)),rfl,hQ _ i _ sm.t (hT.same sm) j ae (sm _ _ a0)⟩
end
def untrs(H:Hp)(cs:List Addr):Hp:=λb=>if b∈cs then none else H b
theorem jU{H:Hp}{a:List Addr}{b:Addr}(h:b∈a):untrs H a b=none:=by unfold untrs;rw[if_pos h]
theorem iT{H:Hp}{a:List Addr}{b:Addr}(h:b ∉ a):untrs H a b=H b:=by unfold untrs;rw[if_neg h]
theorem eK{H:Hp}{a:List Addr}{b:Addr}(h:H b=none):untrs H a b=none:=by unfold untrs;split <;> first | rfl | exact h
abbrev CellsAt(H:Hp):List (Str×Addr)->List V->Prop:=Paired λ(p:Str×Addr) (v:V)=>H p.2=some (.ext (fg p.2 v))
theorem CellsAt.mem{H:Hp}:∀{clos:List (Str×Addr)}{vals:List V},CellsAt H clos vals->∀ p∈clos,∃ v,H p.2=some (.ext (fg p.2 v))
 | _,_,.nil,p,h=>by cases h
 | _,_,.cons r t,p,h=>by
  rcases mem_cons.mp h with rfl | h
  .exact⟨_,r⟩
  .exact CellsAt.mem t p h
theorem CellsAt.get{H:Hp}:∀{clos:List (Str×Addr)}{vals:List V}{i:Nat}{v:V},CellsAt H clos vals->vals[i]? = some v->∃ p,clos[i]? = some p/\H p.2=some (.ext (fg p.2 v))
 | _,_,_,_,.nil,h=>by cases h
 | _,_,0,_,.cons r t,h=>by cases h;exact⟨_,rfl,r⟩
 | _,_,i+1,_,.cons r t,h=>CellsAt.get (i:=i) t h
theorem CellsAt.at{H:Hp}{a:List (Str×Addr)}{c:List V}(e:CellsAt H a c){b:Addr}(f:b∈a.map (·.2)):∃ v,H b=some (.ext (fg b v)):=by
 obtain⟨p,d,rfl⟩:=mem_map.mp f;exact e.mem p d
theorem cV{H:Hp}{a:List (Str×Addr)}{c:List V}{b:Addr}{o:HO}(d:CellsAt H a c)(h:H b=some o)(n:∀ v,o≠.ext (fg b v)):untrs H (a.map (·.2)) b=some o:=by
 rw[iT λz=>?_]
 .exact h
 .obtain⟨v,e⟩:=d.at z
  rw[h]at e;exact n v (Option.some.inj e)
theorem eV{a:Type}:∀{l:List (Str×a)}{x:Str}{u:a},(l.map (·.1)).Nodup->(x,u)∈l->l.lookup x=some u
 | [],_,_,_,h=>by cases h
 | (y,w)::r,x,u,nd,h=>by
  rw[map_cons,nodup_cons]at nd
  rcases mem_cons.mp h with e | h
  .cases e;simp[List.lookup]
  .have:x≠y:=λz=>nd.1 (mem_map.mpr ⟨(x,u),h,z⟩)
   rw[lookup_cons,beq_eq_false_iff_ne.mpr this];exact eV nd.2 h
theorem tU{a:Type}{l:List a}(h:l.Nodup):l.reverse.Nodup:=by
 unfold List.Nodup at h ⊢;rw[List.pairwise_reverse];exact h.imp λn z=>n z.symm
def kr(d:LamD)(L f c:Addr)(clos:List (Str×Addr)):Env:={ scope:=d.scope,locals:=L,globals:=mainGlobals,cells:=clos,qual:=d.qual ++ ".<locals>.",func:=some f,code:=.ref c,frame:=some L,builtins:=builtinsNs }
def cxL(P:Program)(w:World)(K:Frag)(mg:Str->Option Value)(base:Heap)(N:List Str)(d:LamD)(clos:List (Str×Addr))(f c:Addr)(A:Around)(outer:List Env)(s:Shared)(H:Hp):Cx where
 prog:=P
 w:=w
 K:=K
 mg:=mg
 base:=base
 A:=A.deeper (kr d s.heap.objs.size f c clos)
 N:=N
 s₀:=s
 H₀:=untrs H (clos.map (·.2))
 env:=kr d s.heap.objs.size f c clos
 outer:=outer
 stack:=kr d s.heap.objs.size f c clos::outer
 ex:=[]
 calm:=true
 fn:=λ_=>false
 pn:=[]
 xe:=λ_ _=>False
def ri(P:Program)(w:World)(K:Frag)(mg:Str->Option Value)(base:Heap)(k:Nat)(d:LamD)(fv ps:List Str)(sp:List (Str×Addr)->List V->Sp):Prop :=
 ∀(A:Around) (outer:List Env) (s:Shared) (H:Hp) (f c:Addr) (clos:List (Str×Addr)) (us:List Value) (vs vals:List V) (Q:VK) (E:XK),Room k A->Env0 P w K mg base A outer s H->H f=some (.ext (kF f d clos c))->H c=some (.ext (iJ c d.qual)) ->
  clos.map (·.1)=fv->(clos.map (·.2)).Nodup->CellsAt H clos vals->Vals vs us->sp clos vals vs H Q E->codeAny (model P w) A (.call (.ref f) ⟨us,[]⟩) (CR CX0 outer P w H s Q E) s
def eF(P:Program)(w:World)(K:Frag)(mg:Str->Option Value)(base:Heap)(k:Nat)(d:LamD)(fv ps:List Str)(sp:List V->Sp):Prop:=ri P w K mg base k d fv ps λ_=>sp
structure LamScope(d:LamD)(fv ps:List Str):Prop where
 kind:d.scope.kind=.function
 co:d.scope.isCoroutine=false
 gen:d.scope.isGenerator=false
 nocell:∀ x∈d.scope.names,x.2≠.cell
 par:∀ x ∈ ps,d.scope.names.lookup x = some .local
 free:∀ x∈d.scope.names,x.2=.free->x.1∈fv
 fr:∀ x∈fv,d.scope.names.lookup x=some .free
 nd:(ps++fv).Nodup
theorem dB{a b:Type}[BEq a][LawfulBEq a]:∀{l:List (a×b)}{x:a}{u:b},l.lookup x=some u->(x,u)∈l
 | [],_,_,h=>by cases h
 | (y,w)::r,x,u,h=>by
  rw[lookup_cons]at h;cases e:x == y with
  | true=>rw[e]at h;cases h;rw[eq_of_beq e];exact mem_cons_self ..
  | false=>rw[e]at h;exact mem_cons_of_mem _ (dB h)
theorem rW{P:Program}{w:World}{K:Frag}{mg:Str->Option Value}{D:Heap}{d:LamD}{M ps:List Str}{a:List (Str×Addr)}{f c:Addr}{A:Around}{j:List Env}{s:Shared}{H:Hp}{us:List Value}{vs g:List V}{I:Heap}{tk:Nat}
  (S:LamScope d M ps) (hd:A.handled=none) (E:Env0 P w K mg D A j s H) (hl:vs.length=ps.length) (r:Vals vs us) (C:a.map (·.1)=M) (an:(a.map (·.2)).Nodup) (T:CellsAt H a g)
  (W:I.Ns s.heap.objs.size (λx=>(ps.zip us).reverse.lookup x)) (Y:∀ b o,s.heap.get? b=some o->I.get? b=some o) :
  Inv (cxL P w K mg D (ps++M) d a f c A j s H) [] ((vs++g).map some) (untrs H (a.map (·.2))) { s with heap:=I,toks:=tk }:=by
 have R:(a.map (·.1)).Nodup:=by rw[C];exact(nodup_append.mp S.nd).2.1
 have ad:ps.Nodup:=(nodup_append.mp S.nd).1;have a0:us.length=ps.length:=by rw[<- r.length];exact hl
 have Q:∀ x l,a.lookup x=some l->l∈a.map (·.2):=λx l e=>mem_map.mpr ⟨(x,l),dB e,rfl⟩
 have m:∀ b v,H b=some (.ext (fg b v))->∃ u,RelV v u/\I.IsCell b (some u):=λb v e=>by
  obtain⟨⟨o,u,F,B,g3⟩,_⟩:=E.hok b _ e;exact⟨u,g3,o,Y _ _ F,B⟩
 have N:∀ b:Addr,b ∉ (cxL P w K mg D (ps++M) d a f c A j s H).ex:=λb z=>absurd (show b∈([]:List Addr) from z) (by simp)
 have aS:a.length=M.length:=by rw[<- C,length_map]
 have as:g.length=a.length:=(Paired.length T).symm
 refine⟨⟨E.mod,S.kind,rfl,rfl,Nat.le_refl _,λy z l I h2=>?_,λy hy=>?_,λy l h=>(Bool.false_ne_true h).elim,λ_=>hd,Around.frames_deeper E.frames,.inr ⟨rfl,rfl⟩,λb z=>absurd z (N b),λb o e=>⟨(E.bs b o e).1,eK (E.bs b o e).2⟩,E.bsz,λb _ _=>N b,λb z=>absurd z (N b),E.funs,λb hb=>eK (E.frf b hb)⟩,
  rfl,E.bare,Un.kept Y,⟨_,W,λi y v F B g3=>?_⟩,λy l h=>?_,eK (E.hok.fresh (Nat.le_refl _)),λy l h=>jU (Q y l h),λp O=>absurd (show p∈([]:List (Addr×Obj)) from O) (by simp),λb u e=>?_,?_⟩
 .have I:a.lookup y=some l:=I
  have h2:a.lookup z=some l:=h2;have e1:=dB I;have e2:=dB h2;have ap:((a.map λp=>(p.2,p.1)).map (·.1)).Nodup:=by rw[map_map];exact an
  have:=pH ap (l,y) (mem_map.mpr ⟨_,e1,rfl⟩) (l,z) (mem_map.mpr ⟨_,e2,rfl⟩) rfl;exact congrArg Prod.snd this
 .have hy:d.scope.names.lookup y=some .cell\/d.scope.names.lookup y=some .free:=hy
  rcases hy with hy | hy
  .exact absurd rfl (S.nocell _ (dB hy))
  .have:=S.free _ (dB hy) rfl
   rw[<- C]at this;obtain⟨p,O,e⟩:=mem_map.mp this;have e':p.1=y:=e;exact⟨p.2,eV R (by show(y,p.2)∈a;rw[<- e'];exact O)⟩
 .have F:(ps++M)[i]? = some y:=F
  by_cases hi:i<ps.length
  .rw[List.getElem?_append_left hi]at F
   rw[List.getElem?_map,List.getElem?_append_left (by lia)]at B
   have L:vs[i]? = some v:=by
    cases q:vs[i]? with
    | none=>rw[q]at B;cases B
    | some x=>rw[q]at B;cases B;rfl
   obtain⟨u,hu,rv⟩:=r.get L;refine⟨u,rv,.inl ⟨S.par y (List.mem_of_getElem? F),?_⟩⟩;have ab:(y,u)∈ps.zip us:=List.mem_of_getElem? (i:=i) (by rw[List.getElem?_zip_eq_some];exact⟨F,hu⟩);refine eV ?_ (List.mem_reverse.mpr ab);rw[List.map_reverse];refine tU ?_;have:(ps.zip us).map (·.1)=ps:=by rw[List.map_fst_zip];lia
   rw[this];exact ad
  .rw[List.getElem?_append_right (by lia)]at F
   rw[List.getElem?_map,List.getElem?_append_right (by lia)]at B
   have L:g[i - ps.length]? = some v:=by
    rw[hl]at B;cases q:g[i - ps.length]? with
    | none=>rw[q]at B;cases B
    | some x=>rw[q]at B;cases B;rfl
   obtain⟨p,O,e⟩:=T.get L;rw[<- C,List.getElem?_map,O]at F;cases F;obtain⟨u,rv,X⟩:=m _ _ e;have G:=List.mem_of_getElem? O;refine⟨u,rv,.inr ⟨.inr (S.fr p.1 ?_),p.2,eV R G,X⟩⟩;rw[<- C];exact mem_map.mpr ⟨p,G,rfl⟩
 .obtain⟨v,e⟩:=T.at (Q y l h)
  obtain⟨u,_,X⟩:=m _ _ e;exact⟨_,X⟩
 .by_cases hb:b∈a.map (·.2)
  .rw[jU hb]at e;cases e
  .rw[iT hb]at e
   refine(E.hok b u e).stay (λZ u' _ q=>Y Z u' q) (λZ q=>?_) λZ xs q=>?_
   .exact cV T q λv z=>nomatch z
   .exact cV T q λv z=>nomatch z
 .show((vs++g).map some).length=(ps++M).length
  rw[length_map,length_append,length_append];lia
section
variable {P:Program}{w:World}{K:Frag}{mg:Str->Option Value}{base:Heap}
theorem xq{d:LamD}{M ps:List Str}{k:Nat}{sp:List (Str×Addr)->List V->Sp}(S:LamScope d M ps)
  (m:∀(pm ctv:Value) (clos:List (Str×Addr)) (c:Addr) (us:List Value),us.length=ps.length->bindArgs (kla_fn "<lambda>" d.qual d.params d.body d.scope clos pm (.ref c) ctv) ⟨us,[]⟩=pure (ps.zip us))
  (Z:∀ clos vals vs H Q E,sp clos vals vs H Q E->vs.length=ps.length)
  (B:∀(A:Around) (outer:List Env) (s:Shared) (H:Hp) (f c:Addr) (clos:List (Str×Addr)) (vals vs:List V) (Q:VK) (E:XK),Room k (A.deeper (kr d s.heap.objs.size f c clos))->clos.map (·.1)=M->CellsAt H clos vals->sp clos vals vs H Q E ->
   ∃ t,PE (cxL P w K mg base (ps++M) d clos f c A outer s H) d.body t/\t ((vs++vals).map some) (untrs H (clos.map (·.2))) (λv H'=>∀ H3,Same H' H3->(∀ p∈clos,H3 p.2=H p.2)->Q v H3)) :
  ri P w K mg base (k+1) d M ps sp:=by
 intro A outer s H f c clos us vs vals Q E Y i hf hc D X x r F;have hl:=Z _ _ _ _ _ _ F;have R:us.length=ps.length:=by rw[<- r.length];exact hl
 obtain⟨⟨pm,ctv,ef⟩,_,_⟩:=i.hok f _ hf;obtain⟨⟨oc,T,ct,ec,ed,ev⟩,_,_⟩:=i.hok c _ hc;have N:s.heap.NoLimit:=i.mod.nolimit.keeps λb o e=>(i.bs b o e).1
 obtain⟨t,ht,hq⟩:=B A outer s H f c clos vals vs Q E (Y.deeper _) D x F;refine PySem.W.kla_callFunE (body:=d.body) Y.depth ef rfl S.co S.gen rfl ⟨c,oc,T,ct,rfl,ec,ed,ev⟩ ?_;rw[m pm ctv clos c us R];refine wpAny_pure (wpAny_newFunctionEnv S.nocell (λy hy=>S.par y.1 (of_mem_zip hy).1) (λh1 hns hsb=>?_) S.kind);have hk:∀ b o,s.heap.get? b=some o->h1.get? b=some o:=λb o e=>hsb.extBut b o (Nat.ne_of_lt (Heap.lt_size e)) (Heap.get?_push_of_some _ e)
 refine⟨N.fresh _ hsb,?_⟩;show codeAny _ _ (.expr d.body (kr d s.heap.objs.size f c clos)) _ _;have I:=rW (f:=f) (c:=c) (tk:=s.toks+(ps.zip us).length) S Y.hd i hl r D X x hns hk;refine PySem.W.kla_codeExpr (wpAny_mono (ht [] _ _ _ _ I hq) (λu s' hs=>?_) λe s' z=>False.elim z);obtain⟨v,H',J,rv,q⟩:=hs
 obtain⟨cs,hcs⟩:∃ cs,cs=clos.map (·.2):=⟨_,rfl⟩
 have h:Un (frs outer) [] (untrs H (clos.map (·.2))) H' s.heap s'.heap:=J.base
 have l:∀ b,b∈clos.map (·.2)->∃ o v,s.heap.get? b=some o/\H b=some (.ext (fg b v)):=λb a=>by
  obtain⟨v,e⟩:=x.at a;obtain⟨⟨o,_,g,_⟩,_⟩:=i.hok b _ e;exact⟨o,v,g,e⟩
 have O:∀ b∈clos.map (·.2),H' b=none:=λb a=>by
  obtain⟨o,v,g,_⟩:=l b a;exact h.free b o g (jU a) (by simp)
 let H3:Hp:=λb=>if b∈clos.map (·.2) then H b else H' b
 have g1:∀ b,b∈clos.map (·.2)->H3 b=H b:=λb a=>if_pos a
 have W:∀ b,b ∉ clos.map (·.2)->H3 b=H' b:=λb a=>if_neg a
 have C:Same H' H3:=λb o e=>by
  rw[W b λz=>by rw[O b z]at e;cases e];exact e
 have up:∀ b o,H b=some o->(∀ v,o≠.ext (fg b v))->b ∉ clos.map (·.2):=λb o e n z=>by
  obtain⟨v,j⟩:=x.at z;rw[e]at j;exact n v (Option.some.inj j)
 refine⟨v,H3,J.os,J.bare,⟨λb o e n a G=>h.keep b o e (eK n) a G,λb o e n a G=>h.slot b o e (eK n) a G,λb o e n G=>?_,h.there,λb xs e=>?_,λb o u e=>?_,λb ps' e=>?_⟩,λb o e=>?_,rv,q H3 C λp hp=>g1 p.2 (mem_map.mpr ⟨p,hp,rfl⟩)⟩
 .rw[W b λz=>by obtain⟨_,v,_,j⟩:=l b z;rw[n]at j;cases j]
  exact h.free b o e (eK n) G
 .exact C _ _ (h.tups b xs (cV x e λv z=>nomatch z))
 .exact C _ _ (h.frzs b o u (cV x e λv z=>nomatch z))
 .obtain⟨L,z⟩:=h.tbls b ps' (cV x e λv z=>nomatch z)
  exact⟨L,C _ _ z⟩
 .by_cases a:b∈clos.map (·.2)
  .rw[g1 b a]at e
   obtain⟨o',v',g,j⟩:=l b a;rw[e]at j;cases j;obtain⟨⟨o2,u2,k1,k2,k3⟩,_⟩:=i.hok b _ e;refine pY ⟨o2,u2,h.keep b o2 k1 (jU a) (λz=>?_) (by simp),k2,k3⟩;rw[i.frf b z]at e;cases e
  .rw[W b a]at e
   refine(J.hok b o e).stay (λb' u' _ q=>q) (λb' q=>C _ _ q) λb' xs q=>C _ _ q
theorem iP{d:LamD}{e ps:List Str}{k:Nat}{sp:List V->Sp}(S:LamScope d e ps)
  (b:∀(pm ctv:Value) (clos:List (Str×Addr)) (c:Addr) (us:List Value),us.length=ps.length->bindArgs (kla_fn "<lambda>" d.qual d.params d.body d.scope clos pm (.ref c) ctv) ⟨us,[]⟩=pure (ps.zip us))
  (g:∀ vals vs H Q E,sp vals vs H Q E->vs.length=ps.length)
  (a:∀(A:Around) (outer:List Env) (s:Shared) (H:Hp) (f c:Addr) (clos:List (Str×Addr)) (vals vs:List V) (Q:VK) (E:XK),Room k (A.deeper (kr d s.heap.objs.size f c clos))->clos.map (·.1)=e->CellsAt H clos vals->sp vals vs H Q E ->
   ∃ t,PE (cxL P w K mg base (ps++e) d clos f c A outer s H) d.body t/\t ((vs++vals).map some) (untrs H (clos.map (·.2))) (λv H'=>∀ H3,Same H' H3->(∀ p∈clos,H3 p.2=H p.2)->Q v H3)) :
  eF P w K mg base (k+1) d e ps sp:=xq (sp:=λ_=>sp) S b (λ_=>g) a
end
theorem PE.or{X:Cx}{e:Expr}{t t':TE}(h:PE X e t)(h':PE X e t'):PE X e (λσ H Q=>t σ H Q\/t' σ H Q):=λa s σ H Q I q=>q.elim (h a s σ H Q I) (h' a s σ H Q I)
def yk(d:LamD)(fv:List Str)(sp:List (Str×Addr)->List V->Sp):V->List V->Hp->VK->Prop:=λv vs H Q=>∃ f c clos vals,v=.ref f/\H f=some (.ext (kF f d clos c))/\H c=some (.ext (iJ c d.qual))/\clos.map (·.1)=fv/\(clos.map (·.2)).Nodup/\CellsAt H clos vals/\sp clos vals vs H Q λ_ _ _=>False
def BJ(d:LamD)(fv:List Str)(sp:List V->Sp):V->List V->Hp->VK->Prop:=yk d fv λ_=>sp
def zc(d:LamD)(fv:List Str)(sp:List V->Sp)(tf:TE)(t:TA):TE:=λσ H Q=>tf σ H λv H1=>(∃ f d' clos c,v=.ref f/\H1 f=some (.ext (kF f d' clos c)))/\t σ H1 λvs H2=>(∀ f d' clos c,v=.ref f->H1 f=some (.ext (kF f d' clos c))->H2 f=some (.ext (kF f d' clos c)))/\BJ d fv sp v vs H2 Q
section
variable {X:Cx}{d:LamD}{fv ps:List Str}{k:Nat}{sp:List V->Sp}{x:Str}{p pos:Pos}{tf:TE}{t:TA}{e:Expr}{es:List Expr}
theorem xg{sp:List (Str×Addr)->List V->Sp}{a:List (Addr×Obj)}{j:St}{H:Hp}{s:Shared}{Q:VK}{us:List Value}{vs:List V}{v:V}{u:Value}(L:ri X.prog X.w X.K X.mg X.base k d fv ps sp)(y:Room k X.A)(I:Inv X a j H s)(A:RelV v u)(r:Vals vs us)(h:yk d fv sp v vs H Q) :
  wpAny (model X.prog X.w) X.A (call u us) (EP X a j Q) X.xe s:=by
 obtain⟨f,c,g,b,rfl,l,x,w,p,o,m⟩:=h;obtain rfl:u=Value.ref f:=A;refine wpAny_call (codeAny_mono (L X.A X.stack s H f c g us vs b Q _ y I.env0 l x w p o r m) λr B i=>?_);cases r with
 | error e=>exact False.elim i
 | ok fl =>
  cases fl with
  | ret u=>exact I.after i
  | next=>exact False.elim i
  | brk=>exact False.elim i
  | cont=>exact False.elim i
theorem sS{H:Hp}{s:Shared}{P:Program}{w:World}{f c:Addr}{d:LamD}{a:List (Str×Addr)}(e:HOk P w H s.heap)(b:H f=some (.ext (kF f d a c))):FnAt f s.heap:=by
 obtain⟨⟨i,h,g⟩,_,_⟩:=e f _ b;exact⟨_,_,_,_,g⟩
theorem fc(B:PE X (.Name x p) tf)(L:eF X.prog X.w X.K X.mg X.base k d fv ps sp)(E:Room k X.A)(D:PA X (e::es) t)
  (F:starEach (e::es) X.env=(false,eval e X.env)::starEach es X.env:=by rfl) (b:(backTo pos (starEach es X.env)).any (·.1)=false:=by rfl):PE X (.Call (.Name x p) (e::es) [] pos) (zc d fv sp tf t):=by
 intro a s o H Q I h;refine wpAny_Call_Name_kw (thn (B a s o H _ I h) λu w ⟨v,y,m,A,⟨f,M,j,c,C,g⟩,q⟩=>?_);subst C;obtain rfl:u=Value.ref f:=A;refine PySem.W.callWith_F (sS m.hok g) (thn (D pos a w o y _ m q) λO N ⟨G,K,l,r,i⟩=>⟨sS l.hok (i.1 _ _ _ _ rfl g),?_⟩) F b;exact xg L E l (v:=.ref f) rfl r i.2
end
abbrev TR:=VK->(V->St->Hp->Prop)->St->Hp->Prop
def PR(X:Cx)(sts:List Stmt)(t:TR):Prop :=
 ∀(pins:List (Addr×Obj)) (s:Shared) (σ:St) (H:Hp) (R:VK) (Z:V->St->Hp->Prop),Inv X pins σ H s->t R Z σ H ->
  wpAny (model X.prog X.w) X.A (execs sts X.env) (λf s'=>∃ u,f=.ret u/\((∃ v σ' H',Inv X pins σ' H' s'/\RelV v u/\(R v H'\/Z v σ' H'))\/∃ v H',s'.os=X.s₀.os/\AllBare s'.gens/\Un X.fs X.ex X.H₀ H' X.s₀.heap s'.heap/\HOk X.prog X.w H' s'.heap/\RelV v u/\R v H')) X.xe s
section
variable {X:Cx}{e:Expr}{te:TE}{pos:Pos}{st:Stmt}{rest:List Stmt}{t:TS}{u:TR}
theorem iE(d:PE X e te):PR X [.Return (some e) pos] (λ_ Z σ H=>te σ H λv H'=>Z v σ H'):=by
 intro a s σ H R Z I h;refine wpAny_execs_cons (wpAny_Return_some (thn (d a s σ H _ I h) λv i ⟨x,b,c,g,f⟩=>?_));exact⟨v,rfl,.inl ⟨x,σ,b,c,g,.inr f⟩⟩
theorem bg(g:PS X st t)(h2:PR X rest u):PR X (st::rest) (λR Z σ H=>t { nx:=u R Z,rt:=R } σ H):=by
 intro a s σ H R Z I h;refine wpAny_execs_cons (thn (g a s σ H { nx:=u R Z,rt:=R } I h) λf i q=>?_);cases f with
 | next =>
  obtain⟨b,c,d,q⟩:=q;exact h2 a i b c R Z d q
 | ret v =>
  obtain⟨e,b,c,d,r,q⟩:=q;exact⟨v,rfl,.inl ⟨e,b,c,d,r,.inl q⟩⟩
 | brk=>obtain⟨_,_,_,q⟩:=q;exact False.elim q
 | cont=>obtain⟨_,_,_,q⟩:=q;exact False.elim q
end
def oV(cells:List (Str×Addr))(N:List Str)(σ:St)(H3:Hp):Prop:=∀(i:Nat) (y:Str) (v:V) (c:Addr),N[i]? = some y->σ[i]? = some (some v)->cells.lookup y=some c->H3 c=some (.ext (fg c v))
theorem kx{y:Str}{c:Addr}:∀(names:List (Str×NameKind)) (n:Nat) (acc:List (Str×Addr)),(y,c)∈cellsFrom n names acc->(y,c)∈acc\/(y,NameKind.cell)∈names
 | [],n,acc,h=>.inl h
 | (x,k)::r,n,acc,h=>by
  unfold cellsFrom at h
  split at h
  .rename_i hk
   rcases kx r (n+1) ((x,n)::acc) h with z | z
   .rcases mem_cons.mp z with e | z
    .cases e
     rw[eq_of_beq hk];exact .inr (mem_cons_self ..)
    .exact .inl z
   .exact .inr (mem_cons_of_mem _ z)
  .rcases kx r n acc h with z | z
   .exact .inl z
   .exact .inr (mem_cons_of_mem _ z)
section
variable {P:Program}{w:World}{K:Frag}{mg:Str->Option Value}{base:Heap}
theorem yz{CX:CXT}{N:List Str}{C:Str}{scope:Scope}{f:Addr}{cd:Value}{A:Around}{a:List Env}{s s':Shared}{H B:Hp}{E:XK}{X:St}(hN:N.Nodup)(W:∀ p∈scope.names,p.2=.cell->scope.names.lookup p.1=some .cell)
  {L:List (Addr×Obj)}(J:Inv (gF CX P w K mg base N C scope f cd A a s H E) L X B s') :
  ∃ H3,Same B H3/\oV (cellsFrom (s.heap.objs.size+1) scope.names []) N X H3/\(∀ b,B b=none->H3 b≠none->∃ y,(cellsFrom (s.heap.objs.size+1) scope.names []).lookup y=some b)/\Un (frs a) [] H H3 s.heap s'.heap/\HOk P w H3 s'.heap:=by
 have x:∀ y c,(cellsFrom (s.heap.objs.size+1) scope.names []).lookup y=some c->scope.names.lookup y=some .cell:=λy c e=>by
  rcases kx _ _ _ (dB e) with z | z
  .cases z
  .exact W _ z rfl
 obtain⟨cells,hcells⟩:∃ l,l=cellsFrom (s.heap.objs.size+1) scope.names []:=⟨_,rfl⟩
 rw[<- hcells]at x ⊢;have d:(gF CX P w K mg base N C scope f cd A a s H E).env.cells=cells:=hcells.symm
 let G:Addr->V->Prop:=λb v=>∃(i:Nat) (y:Str),N[i]? = some y/\X[i]? = some (some v)/\cells.lookup y=some b
 have G1:∀ b v T,G b v->G b T->v=T:=by
  rintro b v T ⟨i,y,I,M,g⟩ ⟨j,z,b1,b2,b3⟩;have:y=z:=J.ok.inj y z b (by rw[d];exact g) (by rw[d];exact b3);subst this;have:i=j:=my hN I b1;subst this;rw[M]at b2;cases b2;rfl
 have S:∀ b v,G b v->B b=none/\s.heap.objs.size<=b/\fg b v s'.heap:=by
  rintro b v ⟨i,y,I,M,g⟩;refine⟨J.freeC y b (by rw[d];exact g),J.ok.cab y b rfl (by rw[d];exact g),?_⟩;obtain⟨m,hn,hl⟩:=J.loc;obtain⟨u,r,l⟩:=hl i y v I M (.inr (.inl (x y b g)))
  rcases l with⟨k,_⟩ | ⟨k,c,e,o,ho,hd⟩
  .exfalso
   have k:scope.names.lookup y = some .local:=k;rw[x y b g]at k;cases k
  .have e:cells.lookup y=some c:=by rw[<- d];exact e
   rw[g]at e;cases e;exact⟨o,u,ho,hd,r⟩
 classical
 let H3:Hp:=λb=>if h:∃ v,G b v then some (.ext (fg b (Classical.choose h))) else B b
 have Y:∀ b v,G b v->H3 b=some (.ext (fg b v)):=λb v h=>by
  have R:∃ v,G b v:=⟨v,h⟩
  show(if h:∃ v,G b v then some (.ext (fg b (Classical.choose h))) else B b)=_;rw[dif_pos R,G1 b _ v (Classical.choose_spec R) h]
 have Q:∀ b,(¬∃ v,G b v)->H3 b=B b:=λb h=>dif_neg h
 have F:Same B H3:=λb o e=>by
  rw[Q b λ⟨v,z⟩=>by rw[(S b v z).1]at e;cases e];exact e
 have D:Un (frs a) [] H B s.heap s'.heap:=J.base;refine⟨H3,F,λi y v c I M g=>Y c v ⟨i,y,I,M,g⟩,(λb n1 n2=>?_),⟨D.keep,D.slot,λb o e n R=>?_,D.there,λb xs e=>F _ _ (D.tups b xs e),λb o u e=>F _ _ (D.frzs b o u e),λb ps e=>?_⟩,λb o e=>?_⟩
 .by_cases h:∃ v,G b v
  .obtain⟨v,i,y,_,_,g⟩:=h
   exact⟨y,g⟩
  .rw[Q b h]at n2
   exact absurd n1 n2
 .rw[Q b λ⟨v,z⟩=>absurd (Nat.lt_of_lt_of_le (Heap.lt_size e) (S b v z).2.1) (Nat.lt_irrefl _)]
  exact D.free b o e n R
 .obtain⟨O,z⟩:=D.tbls b ps e
  exact⟨O,F _ _ z⟩
 .by_cases h:∃ v,G b v
  .obtain⟨v,h⟩:=h
   rw[Y b v h]at e;cases e;exact pY (S b v h).2.2
  .rw[Q b h]at e
   exact(J.hok b o e).stay (λZ u' _ q=>q) (λZ q=>F _ _ q) λZ xs q=>F _ _ q
theorem hJ{N:List Str}{c:Str}{scope:Scope}{f:Addr}{i:Value}{A:Around}{a:List Env}{s:Shared}{H:Hp}{E:XK}{k:Nat}{g:Addr}{fd:FuncData}{ps:List Str}{sp:Sp}{S:List Value}{B:List V}{x:Str}{p D rp:Pos}{e:Expr}{M:List Expr}{t:TA}
  (hN:N.Nodup) (an:∀ p∈scope.names,p.2=.cell->scope.names.lookup p.1=some .cell)
  (F:FnOk P w K mg base CX0 k g fd ps sp) (hr:Room k (gF CX0 P w K mg base N c scope f i A a s H E).nox.A) (hg:Gl (gF CX0 P w K mg base N c scope f i A a s H E).nox x) (hm:mg x=some (.ref g)) (hk:keepIn K (.ref g)=true) (l:Binds K fd ps S) (hd:Vals B S)
  (ha:PA (gF CX0 P w K mg base N c scope f i A a s H E).nox (e::M) t) (aS:(x == ("__debug__" : Str))=false:=by decide)
  (he:starEach (e::M) (gF CX0 P w K mg base N c scope f i A a s H E).nox.env=(false,eval e (gF CX0 P w K mg base N c scope f i A a s H E).nox.env)::starEach M (gF CX0 P w K mg base N c scope f i A a s H E).nox.env:=by rfl)
  (ap:(backTo D (starEach M (gF CX0 P w K mg base N c scope f i A a s H E).nox.env)).any (·.1)=false:=by rfl) :
  PR (gF CX0 P w K mg base N c scope f i A a s H E).nox [.Return (some (.Call (.Name x p) (e::M) [] D)) rp]
   (λR _ σ H'=>t σ H' λvs H1=>∀ H3,Same H1 H3->oV (cellsFrom (s.heap.objs.size+1) scope.names []) N σ H3->sp (vs++B) H3 R λ_ _ _=>False):=by
 intro C s1 σ H1 R Z I h;refine wpAny_execs_cons (wpAny_Return_some ?_);refine wpAny_Call_Name_kw (i7 I hg hm ?_ aS);refine callWith_K (h₀:=base) I.ok.mod.kin hk (thn (ha D C s1 σ H1 _ I h) λO s2 ⟨vs,H2,I2,r,q⟩=>⟨I2.kIn,?_⟩) he ap;have J:Inv (gF CX0 P w K mg base N c scope f i A a s H E) C σ H2 s2:=I2.unwish;obtain⟨H3,sm,hc,T,m,a0⟩:=yz hN an J;have r2:Vals (vs++B) (O++S):=r.append hd;have q':=q H3 sm hc;have hl:(O++S).length=ps.length:=by rw[<- r2.length];exact F.len _ _ _ _ q'
 have hL:∀ b∈frs (envOfC c scope s.heap.objs.size f i::a),b=s.heap.objs.size\/b∈frs a:=λb l=>by
  have:b∈s.heap.objs.size::frs a:=l;exact mem_cons.mp this
 have e0:Env0 P w K mg base (gF CX0 P w K mg base N c scope f i A a s H E).A (envOfC c scope s.heap.objs.size f i::a) s2 H3:=by
  have z:=J.env0;refine⟨z.frames,z.mod,λb o e=>⟨(z.bs b o e).1,m.free b o (J.ok.bs b o e).1 (J.ok.bs b o e).2 (by simp)⟩,z.bsz,z.funs,λb l=>?_,a0,z.bare⟩;cases q3:H3 b with
  | none=>rfl
  | some o =>
   obtain⟨y,hy⟩:=T b (z.frf b l) (by rw[q3];simp)
   rcases hL b l with rfl | hb'
   .exact absurd rfl (J.cne y _ hy)
   .obtain⟨_,Y,as,_⟩:=J.ok.funs.mem hb'
    have:=J.ok.cab y b rfl hy;exact absurd (Nat.lt_of_lt_of_le (Heap.lt_size as) this) (Nat.lt_irrefl _)
 refine wpAny_call (codeAny_mono (F.run _ _ s2 H3 ⟨O,[]⟩ (O++S) (vs++B) R _ hr e0 (l s2 O J.kIn hl) r2 q') λrr s' Q=>?_);cases rr with
 | error e=>exact False.elim Q
 | ok fl =>
  cases fl with
  | ret u =>
   obtain⟨v,H4,os,W,d,X,rv,qq⟩:=Q
   have L:∀ b o,s.heap.get? b=some o->b ∉ frs a->b ∉ frs (envOfC c scope s.heap.objs.size f i::a):=λb o e n z=>by
    rcases hL b z with rfl | z
    .exact absurd (Heap.lt_size e) (Nat.lt_irrefl _)
    .exact n z
   have ad:∀ b,b∈frs a->b∈frs (envOfC c scope s.heap.objs.size f i::a):=λb z=>by
    show b∈s.heap.objs.size::frs a;exact mem_cons_of_mem _ z
   refine⟨u,rfl,.inr ⟨v,H4,os.trans J.os,W,⟨λb o e n l j=>d.keep b o (m.keep b o e n l j) (m.free b o e n j) (L b o e l) j,λb o e n l j=>?_,λb o e n j=>?_,λb o e j=>?_,λb xs e=>d.tups b xs (m.tups b xs e),λb o u e=>d.frzs b o u (m.frzs b o u e),λb qs e=>?_⟩,X,rv,qq⟩⟩
   .obtain⟨sl,G⟩:=m.slot b o e n l j
    obtain⟨ab,e2⟩:=d.slot b _ G (m.free b o e n j) (ad b l) j;exact⟨ab,e2⟩
   .obtain⟨Y,G⟩:=m.there b o e j
    exact d.free b Y G (m.free b o e n j) j
   .obtain⟨Y,G⟩:=m.there b o e j
    exact d.there b Y G j
   .obtain⟨m1,G⟩:=m.tbls b qs e
    obtain⟨m2,e2⟩:=d.tbls b _ G;exact⟨m1++m2,by rw[e2,Array.append_assoc]⟩
  | next=>exact False.elim Q
  | brk=>exact False.elim Q
  | cont=>exact False.elim Q
theorem Fun.okL{x a:Str}{st:Stmt}{f c:Addr}{G:FuncData}{N ps:List Str}{k:Nat}{sp:Sp}(F:Fun K x a st f G)(Z:G.code=.ref c)(S:FnScope N ps (am st))(D:∀ p∈(am st).names,p.2=.cell->(am st).names.lookup p.1=some .cell)
  (j:∀ vs H Q E,sp vs H Q E->vs.length=ps.length)
  (g:∀(A:Around) (outer:List Env) (s:Shared) (H:Hp) (vs:List V) (Q:VK) (E:XK),Room k (A.deeper (envOfC a (am st) s.heap.objs.size f (.ref c)))->sp vs H Q E ->
   ∃ t,PR (gF CX0 P w K mg base N a (am st) f (.ref c) A outer s H E).nox (eX st) t/\t Q (λv σ H'=>∀ H3,Same H' H3->oV (cellsFrom (s.heap.objs.size+1) (am st).names []) N σ H3->Q v H3) (start N vs) H):FnOk P w K mg base CX0 (k+1) f G ps sp:=by
 obtain⟨oc,od,kV,ab,pm,an,B,ct,ap,rfl,lk,m⟩:=F.ex;obtain rfl:B=.ref c:=Z;refine⟨j,λA outer s H T us vs Q E M h hb r i=>?_⟩;have hl:=j _ _ _ _ i;have R:K.In s.heap:=h.mod.kin.keeps λb o e=>(h.bs b o e).1
 have C:s.heap.NoLimit:=h.mod.nolimit.keeps λb o e=>(h.bs b o e).1
 have d:∀ y ∈ ps.zip us,(am st).names.lookup y.1 = some .local\/((am st).names.lookup y.1 = some .cell/\((cellsFrom (s.heap.objs.size + 1) (am st).names []).lookup y.1).isSome = true):=λ⟨n,v⟩ hy=>by
  rcases S.par n (of_mem_zip hy).1 with q | q
  .exact .inl q
  .exact .inr ⟨q,cellsFrom_some _ _ _ (.inl q)⟩
 refine codeAny_call_function M.depth (R _ _ lk) rfl S.co S.gen rfl (codeRec_of R m) (hb _ _ _ _ ?_);refine wpAny_newFunctionEnv_cells S.kind d λad he O x=>?_
 subst he;refine⟨C.keeps x.toInCall.keep,codeAny_func ?_⟩;obtain⟨t,ht,hq⟩:=g A outer s H vs Q E (M.deeper _) i;have I:Inv (gF CX0 P w K mg base N a (am st) f (.ref c) A outer s H E) [] (start N vs) H O:=nW S M.hd h hl r x;refine wpAny_mono (ht [] O (start N vs) H Q _ (I.wish _) hq) (λfl W L=>?_) λe W L=>False.elim L
 obtain⟨u,rfl,⟨v,as,H',J,l,q⟩ | ⟨v,H',X,g2,g3,g4,l,q⟩⟩:=L
 .have J:=J.unwish
  rcases q with q | q
  .exact⟨v,H',J.os,J.bare,J.base,J.hok,l,q⟩
  .obtain⟨H3,h1,h2,_,Y,h4⟩:=yz S.nd D J
   exact⟨v,H3,J.os,J.bare,Y,h4,l,q H3 h1 h2⟩
 .exact⟨v,H',X,g2,g3,g4,l,q⟩
end
theorem ur{P:Program}{w:World}{K:Frag}{mg mb:Str->Option Value}{CX:CXT}{k:Nat}{fa a:Addr}{fd:FuncData}{x:Str}{sp:Sp}{f:Shared}{vs:List Value}{ns:List Int}{p:List Addr}
  (KX:K.In f.heap) (I:f.heap.Ns mainGlobals mg) (g:f.heap.Ns builtinsNs mb) (a2:∀ x:Str,x ≠ "__name__" -> mb x=bootBuiltins x) (R:f.heap.NoLimit) (hg:f.gens = #[])
  (G:f.heap.get? a=some { cls:=.type "list",data:=.seq vs.toArray }) (hi:IntsAre vs ns) (hl:ns.length<=sizeLine) (hr:Room k callerA) (a1:Bm mg f.heap)
  (j:∀ P∈p,f.heap.get? P=some (tabObj #[])) (an:∀ P∈p,∃ c,codeHdIn K c P=true) (aS:∀ P∈p,K.lookup P=none)
  (F:∀ base:Heap,K.In base->base.Ns mainGlobals mg->Bm mg base->FnOk P w K mg base CX k fa fd [x] sp) (E:∀(s:Shared) (u:Value),BindsTo s fd ⟨[u],[]⟩ [(x,u)])
  (ad:∀ H:Hp,(∀ P∈p,H P=some (.tbl #[]))->SqL K H a (ns.map V.int)->sp [.ref a] H (λv _=>v=.bl true) λ_ _ _=>False)
  (as:∀ H e s',CX [] H f (λ_ _ _=>False) e s'->False) :
  codeAny (model P w) callerA (.call (.ref fa) ⟨[.ref a],[]⟩) (λr s'=>r=.ok (.ret (.bool true))/\OldK f.heap s'.heap/\s'.os=f.os/\AllBare s'.gens) f:=by
 have rv:=ow hi;have N:=hi.length;have L:a ∉ p:=λz=>by have:=j a z;rw[G]at this;cases this
 have A:∀ H:Hp,(∀ P∈p,H P=some (.tbl #[]))->SqL K H a (ns.map V.int)->HOk P w H f.heap->(∀ b u,H b=some u->(b=a/\∃ o xs,u=.frz o (.lst xs))\/(b∈p/\u=.tbl #[]))->(H a≠none->K.lookup a=none) ->
   codeAny (model P w) callerA (.call (.ref fa) ⟨[.ref a],[]⟩) (λr s'=>r=.ok (.ret (.bool true))/\OldK f.heap s'.heap/\s'.os=f.os/\AllBare s'.gens) f:=by
  intro H hT hS W Y hK;have l:∀{b:Addr}{o:Obj},f.heap.get? b=some o->H b=none->(nH f.heap H).get? b=some o:=λe n=>vj e n
  have a0:∀{b:Addr}{o:Obj},f.heap.get? b=some o->o.cls≠.none->(∀ Q n,o.data≠.seq Q n)->H b=none:=λ{b o} e d1 d2=>by
   cases q:H b with
   | none=>rfl
   | some u =>
    rcases Y b u q with⟨rfl,_⟩ | ⟨g,_⟩
    .rw[G]at e;cases e;exact(d2 _ _ rfl).elim
    .rw[j b g]at e;cases e;exact(d1 rfl).elim
  have ap:∀{b:Addr}{o:Obj}{M:Array DictEntry}{S:Nat},f.heap.get? b=some o->o.data=.dict M S->H b=none:=λ{b o M S} e d=>by
   cases q:H b with
   | none=>rfl
   | some u =>
    rcases Y b u q with⟨rfl,_⟩ | ⟨g,_⟩
    .rw[G]at e;cases e
     have d':Data.seq vs.toArray _=Data.dict M S:=d;cases d'
    .rw[j b g]at e;cases e;cases d
  have y:∀{b:Addr}{m:Str->Option Value},f.heap.Ns b m->(nH f.heap H).Ns b m:=λ{b m} ⟨o,M,S,e,d,r⟩=>⟨o,M,S,l e (ap e d),d,r⟩
  have O:K.In (nH f.heap H):=λb o e=>l (KX b o e) (by
   cases q:H b with
   | none=>rfl
   | some u =>
    rcases Y b u q with⟨rfl,_⟩ | ⟨g,_⟩
    .rw[hK (by rw[q];simp)]at e;cases e
    .rw[aS b g]at e;cases e)
  have hM:Mod K mg (nH f.heap H):=⟨O,y I,⟨mb,y g,a2⟩,let ⟨mc,h1,h2⟩:=R;⟨mc,y h1,h2⟩⟩
  have hB:Bm mg (nH f.heap H):=by
   obtain⟨bm,ob,b1,b2,b3,b4,b5⟩:=a1;exact⟨bm,ob,b1,l b2 (a0 b2 (by rw[b3];simp) (λQ n=>by rw[b5];intro z;cases z)),b3,b4,b5⟩
  have e0:Env0 P w K mg (nH f.heap H) callerA [] f H:=⟨rfl,hM,λb o e=>xP e,Nat.le_of_eq (uw _ _),trivial,λb g=>absurd (show b∈([]:List Addr) from g) (by simp),W,.of_eq hg⟩
  refine codeAny_mono ((F _ O (y I) hB).run callerA [] f H ⟨[.ref a],[]⟩ [.ref a] [.ref a] _ _ hr e0 (E f (.ref a)) (.cons rfl .nil) (ad H hT hS)) λr s' h=>?_
  cases r with
  | error e=>exact(as H e s' h).elim
  | ok fl =>
   cases fl with
   | next=>exact False.elim h
   | brk=>exact False.elim h
   | cont=>exact False.elim h
   | ret u =>
    obtain⟨v,H',os,X,Z,B,r',q⟩:=h;have q':v=.bl true:=q;subst q';obtain rfl:u=Value.bool true:=r';refine⟨rfl,⟨λb o e=>?_,λb o e=>Z.there b o e (by simp)⟩,os,X⟩;cases q:H b with
    | none=>exact .inl (Z.keep b o e q (by intro z;exact absurd (show b∈([]:List Addr) from z) (by simp)) (by simp))
    | some u =>
     rcases Y b u q with⟨_,ob,xs,rfl⟩ | ⟨g,rfl⟩
     .have z2:=Z.frzs b ob _ q
      obtain⟨e1,_⟩:=W b _ q;obtain⟨e2,_⟩:=B b _ z2;rw[e]at e1;cases e1;exact .inl e2
     .obtain⟨c,hc⟩:=an b g
      have C:=codeHd_of_K KX hc;obtain⟨D,z⟩:=Z.tbls b _ q;have z2:s'.heap.get? b=some (tabObj (#[]++D)):=B b _ z;rw[j b g]at e;cases e;exact .inr (.inl ⟨(C.tab (j b g)).isCodeTable,rfl,#[],D,rfl,z2⟩)
 let T:Hp:=λb=>if b∈p then some (.tbl #[]) else none
 cases hk:K.lookup a with
 | some o =>
  have e:=KX a o hk;rw[G]at e;cases e;refine A T (λP hP=>if_pos hP) (.inr ⟨_,vs.toArray,_,hk,rfl,rfl,rfl,by rw[size_toArray,N];exact hl,by simpa using rv⟩) (λb u z=>?_) (λb u z=>?_) λz=>absurd (if_neg L) z
  .by_cases g:b∈p
   .have i:=(if_pos g).symm.trans z
    cases i;exact j b g
   .have i:=(if_neg g).symm.trans z
    cases i
  .by_cases g:b∈p
   .have i:=(if_pos g).symm.trans z
    cases i;exact .inr ⟨g,rfl⟩
   .have i:=(if_neg g).symm.trans z
    cases i
 | none =>
  refine A (λb=>if b=a then some (.frz { cls:=.type "list",data:=.seq vs.toArray } (.lst (ns.map V.int))) else T b) (λP hP=>?_) (.inl (.inr ⟨{ cls:=.type "list",data:=.seq vs.toArray },if_pos rfl⟩)) (λb u z=>?_) (λb u z=>?_) λ_=>hk
  .have ab:P≠a:=λz=>L (by rw[<- z];exact hP)
   exact(if_neg ab).trans (if_pos hP)
  .by_cases g:b=a
   .have i:=(if_pos g).symm.trans z
    cases i;subst g;exact⟨G,by rw[length_map];exact hl,vs,_,rv,G⟩
   .have i:=(if_neg g).symm.trans z
    by_cases g:b∈p
    .have i:=(if_pos g).symm.trans i
     cases i;exact j b g
    .have i:=(if_neg g).symm.trans i
     cases i
  .by_cases g:b=a
   .have i:=(if_pos g).symm.trans z
    cases i;exact .inl ⟨g,_,_,rfl⟩
   .have i:=(if_neg g).symm.trans z
    by_cases g:b∈p
    .have i:=(if_pos g).symm.trans i
     cases i;exact .inr ⟨g,rfl⟩
    .have i:=(if_neg g).symm.trans i
     cases i
theorem walk_ofT{l:PySem.W.OpenLaw}{n k:Nat}{q:Program}{j:List Str}{S:(Str->Option Value)->Heap->Prop}{M:World->Heap->Prop}{d:DefRec}{K:Params->Frag}{CX:CXT}{sp:Frag->List Addr->Sp}{x:Str}{b:List Addr}
  (X:l.most=some n) (B:n<=sizeLine) (A:d.params.defaults=[]) (hr:Room k callerA)
  (hY:∀(w:World) (h:Heap),M w h->(K w.params).In h/\∀ P∈b,h.get? P=some (tabObj #[]))
  (F:∀(ts':List Addr),ts'=b->∀(w:World) (mg:Str->Option Value) (fa:Addr) (h:Heap),(K w.params).In h->h.Ns mainGlobals mg->mg d.name=some (.ref fa) ->
   ∃ fd:FuncData,(∀(s:Shared) (u:Value),BindsTo s fd ⟨[u],[]⟩ [(x,u)])/\(∀ P∈b,∃ c,codeHdIn (K w.params) c P=true)/\(∀ P∈b,(K w.params).lookup P=none) /\
    ∀ base:Heap,(K w.params).In base->base.Ns mainGlobals mg->Bm mg base->FnOk l.prog w (K w.params) mg base CX k fa fd [x] (sp (K w.params) b))
  (r:∀(K:Frag) (H:Hp) (a:Addr) (ns:List Int),ns.length<=n->(∀ P∈b,H P=some (.tbl #[]))->SqL K H a (ns.map V.int)->sp K b [.ref a] H (λv _=>v=.bl true) λ_ _ _=>False)
  (C:∀(H:Hp) (s:Shared) (e:Value) (s':Shared),CX [] H s (λ_ _ _=>False) e s'->False) :
  PySem.W.WalkO q j S M l.row.toRowW d [] (λf vs=>PySem.call f vs):=by
 refine Att.attach_call X A λw L g mg mb fa o pm cd R a vs ns G Y ho hd O I p m i W=>?_
 obtain⟨N,Q⟩:=hY w _ Y;obtain⟨fd,hb,y,D,Z⟩:=F b rfl w mg fa _ N G.T.g I;have E:Bm mg g.heap:=let ⟨bm,ob,b1,_,b3,b4,b5,b6⟩:=G.T.bmain;⟨bm,ob,b1,b3,b4,b5,b6⟩;exact ur N G.T.g G.T.b G.T.builtins G.T.nolimit W p m (Nat.le_trans i B) hr E Q y D Z hb (λH hO T=>r (K w.params) H a ns i hO T) λH e s'=>C H g e s'
end L2
namespace FrM
def fB(t b:Int):Int×Int:=(t/(Int.gcd t b:Int),b/(Int.gcd t b:Int))
theorem lW{t b:Int}(a:0<b):Low t b (fB t b).1 (fB t b).2:=(low t b a).2.2.1
theorem zQ{T B t b:Int}(a:0<B)(h:Low T B t b):(t,b)=fB T B:=by
 obtain⟨d,c⟩:=h.uniq (by lia) (lW a);rw[d,c]
def sz(z:List Int)(k:Nat):Int:=z.getD k 0
def br(z:List Int)(l:List Nat):Int:=(l.map (sz z)).sum
def stay(z:List Int)(l:List Nat)(w:Int):List Nat:=l.filter λk=>decide (sz z k*w<br z l)
theorem lN(z:List Int)(l:List Nat)(w:Int):(stay z l w).length<=l.length:=length_filter_le _ _
def fin(z:List Int)(l:List Nat)(w:Int):List Nat×Int :=
 if (stay z l w).length=l.length then (l,w) else fin z (stay z l w) (w - ((l.length:Int) - ((stay z l w).length:Int)))
termination_by l.length
decreasing_by
 have:=lN z l w;lia
theorem m8{z:List Int}{l:List Nat}{w:Int}(h:(stay z l w).length=l.length):fin z l w=(l,w):=by
 rw[fin,if_pos h]
theorem rQ{z:List Int}{l:List Nat}{w:Int}(h:(stay z l w).length≠l.length):fin z l w=fin z (stay z l w) (w - ((l.length:Int) - ((stay z l w).length:Int))):=by
 rw[fin,if_neg h]
theorem i6(z:List Int):∀(l:List Nat),(∀ k∈l,1<=sz z k)->(l.length:Int)<=br z l
 | [],_=>by simp[br]
 | a::l,h=>by
  have:=i6 z l (λk b=>h k (mem_cons_of_mem _ b));have c:=h a mem_cons_self;unfold br at *;rw[map_cons,sum_cons,length_cons];lia
theorem lK(z:List Int)(M:Int):∀(l:List Nat),(∀ k∈l,sz z k<=M)->br z l<=(l.length:Int)*M
 | [],_=>by simp[br]
 | a::l,h=>by
  have:=lK z M l (λk b=>h k (mem_cons_of_mem _ b));have c:=h a mem_cons_self;unfold br at *;rw[map_cons,sum_cons,length_cons];have e:((l.length+1:Nat):Int)*M=(l.length:Int)*M+M:=by rw[Int.natCast_add,Int.add_mul];simp
  rw[e];lia
theorem jB(z:List Int)(w S:Int):∀(l:List Nat),(∀ k∈l,S<=sz z k*w)->(l.length:Int)*S<=br z l*w
 | [],_=>by simp[br]
 | a::l,h=>by
  have:=jB z w S l (λk b=>h k (mem_cons_of_mem _ b));have c:=h a mem_cons_self;unfold br at *;rw[map_cons,sum_cons,length_cons,Int.add_mul];have e:((l.length+1:Nat):Int)*S=(l.length:Int)*S+S:=by rw[Int.natCast_add,Int.add_mul];simp
  rw[e];lia
theorem pW{z:List Int}{l:List Nat}{w:Int}(hz:∀ k∈l,1<=sz z k)(f:w<l.length)(g:0<l.length):0<(stay z l w).length:=by
 by_cases h:0<(stay z l w).length
 .exact h
 .exfalso
  have e:stay z l w=[]:=length_eq_zero_iff.mp (by lia)
  have a:∀ k∈l,br z l<=sz z k*w:=λk d=>by
   have:=(List.filter_eq_nil_iff.mp e) k d;simp at this;exact this
  have b:=jB z w (br z l) l a;have i:=i6 z l hz;have c:0<br z l:=by lia
  rw[Int.mul_comm (br z l) w]at b;have:=Int.le_of_mul_le_mul_right b c;lia
structure Rnd(z:List Int)(n:Nat)(m:Int)(l:List Nat)(w:Int):Prop where
 pos:0<l.length
 sub:∀ k∈l,k<n
 lt:w<l.length
 dif:w - l.length=m - n
 fil:l=(List.range n).filter λk=>decide (k∈l)
theorem Rnd.len{z:List Int}{n:Nat}{m:Int}{l:List Nat}{w:Int}(h:Rnd z n m l w):l.length<=n:=by
 have e:=congrArg List.length h.fil;have:=length_filter_le (λk=>decide (k∈l)) (List.range n);rw[length_range]at this;lia
theorem Rnd.start{z:List Int}{n:Nat}{m:Int}(c:0<n)(b:m<n):Rnd z n m (List.range n) m:=by
 refine⟨by rw[length_range];exact c,λk a=>mem_range.mp a,by rw[length_range];exact b,by rw[length_range],?_⟩;rw[List.filter_eq_self.mpr];intro k a;exact decide_eq_true a
theorem Rnd.step{z:List Int}{n:Nat}{m:Int}{l:List Nat}{w:Int}(hz:∀ k,k<n->1<=sz z k)(h:Rnd z n m l w):Rnd z n m (stay z l w) (w - ((l.length:Int) - ((stay z l w).length:Int))):=by
 have b:=pW (λk a=>hz k (h.sub k a)) h.lt h.pos;refine⟨b,λk a=>h.sub k (mem_filter.mp a).1,by have:=h.lt;lia,by have:=h.dif;lia,?_⟩
 have e:(List.range n).filter (λk=>decide (k∈stay z l w))=((List.range n).filter λk=>decide (k∈l)).filter λk=>decide (sz z k*w<br z l):=by
  rw[List.filter_filter];refine List.filter_congr λk _=>?_
  rw[Bool.eq_iff_iff];simp[stay];exact And.comm
 rw[e,<- h.fil];rfl
theorem Rnd.fin{z:List Int}{n:Nat}{m:Int}(hz:∀ k,k<n->1<=sz z k):∀(c:Nat) (l:List Nat) (w:Int),l.length<=c->Rnd z n m l w->Rnd z n m (fin z l w).1 (fin z l w).2
 | 0,l,w,hc,h=>absurd h.pos (by lia)
 | c+1,l,w,hc,h=>by
  by_cases e:(stay z l w).length=l.length
  .rw[m8 e];exact h
  .rw[rQ e]
   have:=lN z l w;exact Rnd.fin hz c _ _ (by lia) (h.step hz)
theorem r9(q:Nat->Bool)(f:Nat->Int)(c:Int):∀ r:List Nat,(r.map λk=>if q k=true then f k else c).sum=((r.filter q).map f).sum+((r.length:Int) - ((r.filter q).length:Int))*c
 | []=>by simp
 | a::r=>by
  have b:=r9 q f c r;rw[map_cons,sum_cons,b]
  by_cases h:q a=true
  .rw[if_pos h,filter_cons_of_pos h,map_cons,sum_cons,length_cons,length_cons]
   have:((r.length+1:Nat):Int) - (((r.filter q).length+1:Nat):Int)=(r.length:Int) - ((r.filter q).length:Int):=by lia
   rw[this];lia
  .rw[if_neg h,filter_cons_of_neg h,length_cons]
   have e:((r.length+1:Nat):Int) - ((r.filter q).length:Int)=(r.length:Int) - ((r.filter q).length:Int)+1:=by lia
   rw[e,Int.add_mul];lia
theorem qg(f:Nat->Int)(w:Int):∀ r:List Nat,(r.map λk=>f k*w).sum=(r.map f).sum*w
 | []=>by simp
 | a::r=>by
  rw[map_cons,sum_cons,qg f w r,map_cons,sum_cons,Int.add_mul]
structure Top(m:Int)(n:Nat)(S:Int)(N:Nat->Int):Prop where
 pos:0<S
 all:((List.range n).map N).sum=m*S
theorem Top.of_rnd{z:List Int}{n:Nat}{m:Int}{l:List Nat}{w:Int}(hz:∀ k,k<n->1<=sz z k)(h:Rnd z n m l w):Top m n (br z l) λk=>if decide (k∈l)=true then sz z k*w else br z l:=by
 have b:=i6 z l λk a=>hz k (h.sub k a)
 refine⟨by have:=h.pos;lia,?_⟩;rw[r9,<- h.fil,qg,length_range];show br z l*w+((n:Int) - (l.length:Int))*br z l=m*br z l;have e:m=w+((n:Int) - (l.length:Int)):=by have:=h.dif;lia
 rw[e,Int.add_mul,Int.mul_comm (br z l) w]
theorem kI(c:Int):∀ r:List Nat,(r.map λ_=>c).sum=(r.length:Int)*c
 | []=>by simp
 | a::r=>by
  rw[map_cons,sum_cons,kI c r,length_cons];have:((r.length+1:Nat):Int)*c=(r.length:Int)*c+c:=by rw[Int.natCast_add,Int.add_mul];simp
  rw[this];lia
theorem yT{N S t b:Int}(i:0<S)(h:Low N S t b):b<=S/\t.natAbs<=N.natAbs:=by
 have j:=h.pos;have d:b ∣ S:=lH h.cop ⟨N,by rw[h.eq,Int.mul_comm]⟩;have a:=Int.le_of_dvd i d;refine⟨a,?_⟩;have e:=congrArg Int.natAbs h.eq;rw[Int.natAbs_mul,Int.natAbs_mul]at e;have g:b.natAbs<=S.natAbs:=by lia
 have f:0<S.natAbs:=by lia
 have c:N.natAbs*b.natAbs<=N.natAbs*S.natAbs:=Nat.mul_le_mul_left _ g;rw[<- e]at c;exact Nat.le_of_mul_le_mul_right c f
def due(z:List Int)(m:Int):List (Int×Int) :=
 if (z.length:Int)<=m then z.map λ_=>(1,1) else if m=0 then z.map λ_=>(0,1)
 else (List.range z.length).map λk=>if decide (k∈(fin z (List.range z.length) m).1)=true then fB (sz z k*(fin z (List.range z.length) m).2) (br z (fin z (List.range z.length) m).1) else (1,1)
theorem dL(z:List Int)(m:Int):(due z m).length=z.length:=by
 unfold due
 split
 .simp
 .split <;> simp
end FrM
namespace L2
open PySem PySem.Spec PyProof.Rows
def oW:List V->List Value->Bool
 | [],[]=>true
 | .int i::xs,.int j _::us=>decide (i=j) && oW xs us
 | _,_=>false
theorem kM:∀{xs:List V}{us:List Value},oW xs us=true->Vals xs us
 | [],[],_=>.nil
 | .int i::xs,.int j t::us,h=>by
  have h:(decide (i=j) && oW xs us)=true:=h;rw[Bool.and_eq_true]at h;have e:=of_decide_eq_true h.1;exact .cons ⟨t,by rw[e]⟩ (kM h.2)
def j5(K:Frag)(a:Addr)(xs:List V):Bool :=
 match K.lookup a with
 | some o =>
  (match o.cls with
  | .type t=>t == "tuple"
  | _=>false) &&
  (match o.data with
  | .seq its _=>decide (its.size<=1000) && oW xs its.toList
  | _=>false)
 | none=>false
theorem lV{K:Frag}{H:Hp}{a:Addr}{xs:List V}(h:j5 K a xs=true):SqT K H a xs:=by
 unfold j5 at h
 split at h
 .rename_i o e
  rw[Bool.and_eq_true]at h;obtain⟨c,b⟩:=h
  split at c
  .rename_i t ec
   split at b
   .rename_i its n ed
    rw[Bool.and_eq_true]at b;refine .inr ⟨o,its,n,e,by rw[ec,beq_iff_eq.mp c],ed,?_,kM b.2⟩;have:=of_decide_eq_true b.1;have:sizeLine=16777216:=sizeLine_eq;lia
   .cases b
  .cases c
 .cases h
def TyS(K:Frag)(H:Hp)(x:V)(t:Value):Prop:=TyOf K H x t\/∃ a xs,x=.ref a/\t=.type "tuple" /\ SqT K H a xs
section
variable {X:Cx}
open PySem.W in
theorem Bu{b:List (Addr×Obj)}{f:St}{H:Hp}{s:Shared}{x:V}{u t:Value}(I:Inv X b f H s)(d:RelV x u)(ty:TyS X.K H x t) :
  ∃ Hh:Heap->Prop,KitX X.K u t Hh/\Hh s.heap/\u≠.builtin "__main__.__loader__#opaque" := by
 rcases ty with ty | ⟨a,i,rfl,rfl,g⟩
 .exact rK I d ty
 .cases(show u=Value.ref a from d)
  obtain⟨h,j,p,l⟩:=I.tuple g;exact⟨_,kitx_tuple,let ⟨o,e,c,_⟩:=p;⟨o,e,c⟩,λz=>nomatch z⟩
theorem gD:bootBuiltins "sum" = some (.builtin "sum"):=by decide +kernel
theorem iM:∀{ns:List Int}{us:List Value},Vals (ns.map V.int) us->IntsAre us ns
 | [],_,.nil=>.nil
 | n::ns,_,.cons r t=>by
  obtain⟨a,rfl⟩:=r;exact .cons _ _ (iM t)
inductive rSumI(K:Frag)(xs:List V)(H:Hp)(Q:VK):Prop
 | mk(p:Addr)(ns:List Int)(h0:xs=[.ref p])(h1:SqL K H p (ns.map V.int))(h2:Q (.int ns.sum) H):rSumI K xs H Q
theorem dc(f:X.calm=true):CallR X (.builtin "sum") (rSumI X.K):=by
 intro c s y H xs C Q I r h;obtain⟨p,b,rfl,i,q⟩:=h;obtain⟨u,rfl,m⟩:=ij r;cases m;obtain⟨a,l,j,A⟩:=I.list i;have d:=iM l;obtain⟨xs,e⟩:=d.allInts.items;have v:(numsOf a)=b:=d.numsOf;refine sum_intListG (I.ok.hd f) (xs:=xs) (by rw[<- e];exact j.isList) λB x w g=>?_
 have o:preSum (numAt xs) xs.size=b.sum:=by
  rw[preSum_eq,take_of_length_le (by simp),<- v,<- nums_intItems,<- e]
 rw[o];exact⟨.int b.sum,H,I.kept g,⟨_,rfl⟩,q⟩
theorem jK(g:X.calm=true):CallR X (.type "list") (λxs H Q=>∃(p:Addr) (n:Nat),xs=[.ref p]/\n<=1000/\H p=some (.rng 0 (n:Int))/\∀ l,H l=none->Q (.ref l) (upd H l (.lst ((List.range n).map λ(i:Nat)=>V.int (i:Int))))):=by
 intro f s L H xs N Q I r h;obtain⟨p,n,rfl,G,e,q⟩:=h;obtain⟨u,rfl,F⟩:=ij r;cases F
 obtain⟨t,K,O,A⟩:=(show ObjOk X.prog X.w H s.heap p (.rng 0 (n:Int)) from I.hok p _ e)
 refine call_list_range (n:=n) (I.ok.hd g) A (small_one (by decide) (by decide) (by lia) (by lia)) (by rw[rangeSize_one];split <;> lia) (by lia) λM w d c j v C=>?_
 refine⟨.ref s.heap.objs.size,_,I.laid (t':=w) (o:=.lst ((List.range n).map λ(i:Nat)=>V.int (i:Int))) j (Nat.le_refl _) ?_,rfl,q _ (I.hok.fresh (Nat.le_refl _))⟩;obtain⟨B,D⟩:=C;refine⟨by rw[length_map,length_range,sizeLine_eq];lia,d.toList,c,sV (by rw[length_map,length_range];simpa using B.symm) λi x u a y=>?_,v⟩;rw[List.getElem?_map]at a
 have b:i<n:=by
  by_cases b:i<n
  .exact b
  .rw[List.getElem?_eq_none (by rw[length_range];lia)]at a
   cases a
 rw[List.getElem?_range b]at a;cases a;obtain⟨E,m⟩:=D i u (by simpa using y);refine(show ∃ t',u=Value.int (i:Int) t' from⟨E,?_⟩);rw[m]
 congr 1
 lia
end
def dE:Expr:=.Name "" ⟨0,0,0,0⟩
def iu(st:Stmt)(i:Nat):Stmt:=(eX st).getD i (.Pass ⟨0,0,0,0⟩)
def iz:Stmt->Expr
 | .Return (some e) _=>e
 | _=>dE
def jG:Expr->Nat->Expr
 | .Call _ es _ _,i=>es.getD i dE
 | _,_=>dE
def tS:Expr->Nat->Expr
 | .List es _,i=>es.getD i dE
 | _,_=>dE
def tz:Expr->Nat->Expr
 | .Tuple es _ _,i=>es.getD i dE
 | _,_=>dE
def eI(q:Str):Expr->LamD
 | .Lambda p b s _=>⟨q,p,b,s⟩
 | _=>⟨q,default,dE,default⟩
def iw:Expr->Pos
 | .Lambda _ _ _ p=>p
 | _=>⟨0,0,0,0⟩
theorem gJ:bootBuiltins "sorted" = some (.builtin "sorted"):=by decide +kernel
theorem fD:∀{us:List Value}{ns:List Int},IntsAre us ns->Vals (ns.map V.int) us
 | _,_,.nil=>.nil
 | _,_,.cons n t h=>.cons ⟨_,rfl⟩ (fD h)
theorem hX{X:Cx}:CallR X (.builtin "sorted") (λxs H Q=>∃(p:Addr) (ns:List Int),xs=[.ref p]/\SqL X.K H p (ns.map V.int)/\ns.length<64/\∀ q (ns':List Int),ns'.Perm ns->ns'.Pairwise (·<=·)->H q=none->Q (.ref q) (upd H q (.lst (ns'.map V.int)))):=by
 intro g s E H xs G Q I r h;obtain⟨p,ns,rfl,x,D,q⟩:=h;obtain⟨u,rfl,B⟩:=ij r;cases B;obtain⟨c,j,y,F⟩:=I.list x;have v:=iM j;have l:c.length=ns.length:=by have:=j.length;rw[length_map]at this;exact this.symm
 refine sorted_ints y.isList v (by lia) λd ns' m i w=>?_
 obtain⟨e,C⟩:=sortedAll_at s.heap c d;have A:H (s.heap.objs.size+1)=none:=I.hok.fresh (Nat.le_succ _);have f:sizeLine=16777216:=sizeLine_eq;refine⟨.ref (s.heap.objs.size+1),_,I.laid (a:=s.heap.objs.size+1) (o:=.lst (ns'.map V.int)) (t':=s.toks) (λb u z=>sortedAll_old z) (Nat.le_succ _) ⟨?_,d.toList,e,fD m,?_⟩,rfl,q _ ns' i w A⟩
 .rw[length_map,i.length_eq];lia
 .rw[C,Array.toArray_toList]
theorem tX{K:Frag}{M:Model}{h:Heap}{C D x:Addr}{b:Obj}(X:K.In h)(c:XHd K C)(j:h.get? x=some b)(g:b.cls=.ref D)(i:mroIn K D (.ref C)=some false) :
  Looks M h (excMatches (.ref x) (.ref C)) false:=by
 have d:Looks M h (typeOf (.ref C)) (.type "type"):=looks_typeIn X c.ty;have a:Looks M h (isSubtype (.type "type") (.type "tuple")) false:=Looks.of_pure tc_notTuple;have m:Looks M h (isInstance (.ref C) (.type "tuple")) false:=d.andThen a
 have l:Looks M h (isExcClass (.ref C)) true:=by
  unfold isExcClass;exact(qu X c.isc).andThen (looks_mroIn X c.mb)
 have f:Looks M h (typeOf (.ref x)) (.ref D):=g ▸ (Looks.ld j).andThen .now;have e:Looks M h (isSubtype (.ref D) (.ref C)) false:=looks_mroIn X i;intro A Q E s k q;unfold excMatches;refine wpAny_bind (m A _ E s k ?_);rw[if_neg Bool.false_ne_true];refine wpAny_bind (wpAny_pure ?_);simp only[forIn_cons,forIn_nil,bind_assoc,pure_bind];refine wpAny_bind (l A _ E s k ?_);simp only[Bool.not_true,Bool.false_eq_true,if_false,pure_bind];refine wpAny_bind (f A _ E s k ?_);refine wpAny_bind (e A _ E s k ?_);simp only[Bool.false_eq_true,if_false,pure_bind];exact wpAny_pure q
structure Lnd(X:Cx)(pins:List (Addr×Obj))(σ:St)(H:Hp)(s:Shared)(x D:Addr)(dct:Option Addr)(T:Addr)(H':Hp)(s':Shared)(T4:Addr)(h5:Heap):Prop where
 I:Inv X pins σ H s
 G:XG X.prog X.w X.stack H s x D dct T H' s'
 k:KeptBut ([T,x]++[T4]) (frs X.stack) s'.heap h5
 hxs:∀ b,b=T\/b=x\/b=T4->s.heap.get? b=none/\H' b=none/\b ∉ frs X.stack
 fx:Fx h5 x (.ref D) dct .none T4
abbrev TH:=Addr->Option Addr->Addr->Ends->St->Hp->Prop
def PH(X:Cx)(hs:List ExceptHandler)(th:TH):Prop :=
 ∀(pins:List (Addr×Obj)) (σ:St) (H:Hp) (s:Shared) (x D:Addr) (dct:Option Addr) (T:Addr) (H':Hp) (s':Shared) (T4:Addr) (h5:Heap) (DE:Ends),Lnd X pins σ H s x D dct T H' s' T4 h5->th D dct x DE σ (upd H' x (.ext (XCt x D dct))) ->
  wpAny (model X.prog X.w) X.A (handleBy (.ref x) X.env hs) (SP X pins DE) X.xe { s' with heap:=h5 }
theorem yM{X:Cx}:PH X [] (λ_ _ _ _ _ _=>False):=λ_ _ _ _ _ _ _ _ _ _ _ _ _ _ q=>False.elim q
section
variable {X:Cx}{C:Addr}{cn en:Str}{ie:Nat}{b₀:Stmt}{suite:List Stmt}{cp hp:Pos}{ts:TS}{rest:List ExceptHandler}{tr:TH}
theorem Lnd.J{a:List (Addr×Obj)}{f:St}{H:Hp}{s:Shared}{x D:Addr}{c:Option Addr}{T:Addr}{e:Hp}{s':Shared}{g:Addr}{d:Heap}(L:Lnd X a f H s x D c T e s' g d):Inv X a f (upd e x (.ext (XCt x D c))) { s' with heap:=d } :=
 yi (h2:=d) L.I L.G L.k (λb h=>L.hxs b (by simpa using h)) L.fx
theorem AU(p:X.stack = X.env :: X.outer/\X.env.frame = some X.env.locals)(Y:Gl X cn)(Z:X.mg cn = some (.ref C))(M:XHd X.K C)(I:X.N.Nodup)(E:X.N[ie]? = some en)(g:X.env.kindOf en = some .local)
  (hs:∀ x,PSs (X.inX x) (b₀::suite) ts) (hr:PH X rest tr) (A:(cn == ("__debug__" : Str))=false:=by decide) :
  PH X (.ExceptHandler (some (.Name cn cp)) (some en) (b₀::suite) hp::rest) (λD dct x DE σ H1=>(mroIn X.K D (.ref C)=some true/\ts (DE.asG ie) (σ.set ie (some (.ref x))) H1)\/(mroIn X.K D (.ref C)=some false/\tr D dct x DE σ H1)):=by
 intro a σ H s x D dct T H' h d l DE L q;have y:=L.J;obtain⟨o5,ho5,hc5⟩:∃ o,l.get? x=some o/\o.cls=.ref D:=let ⟨o,_,_,_,e,c,_⟩:=L.fx;⟨o,e,c⟩;refine wpAny_handleBy_cons (codeAny_handlers_test (i7 (X:=X.inX x) (y.inX x) Y Z ?_ A)) (by intro z;cases z)
 rcases q with⟨r,q⟩ | ⟨r,q⟩
 .refine(tO y.kIn M ho5 hc5 r).at ?_
  refine codeAny_handlers_suite_as ?_;refine je (s:={ h with heap:=l }) (fr:=frs (X.env::X.outer)) L.fx λK P W=>?_
  have w:KeptBut ([T,x]++[d]++[d]) (frs X.stack) h.heap K:=by
   have:=L.k;rw[p.1]at this ⊢;exact this.trans W
  have J6:=yi (h2:=K) L.I L.G w (λb hb=>L.hxs b (by
   have:b=T\/b=x\/b=d\/b=d:=by simpa using hb
   rcases this with z | z | z | z
   .exact .inl z
   .exact .inr (.inl z)
   .exact .inr (.inr z)
   .exact .inr (.inr z))) P
  refine gY J6 I E (.inl g) (v:=.ref x) rfl (λS R=>?_) (.inr g);refine wpAny_mono (hs x a S _ _ _ (R.inX x) q) (λfl s8 f=>?_) (λ_ _ z=>False.elim z);cases fl with
  | next =>
   obtain⟨i,F,N,O⟩:=f;have G:Inv X a i F s8:=N.outX L.I.ok.hd;obtain⟨m,hn,j⟩:=id G.loc;refine wpAny_nameGoes_keeps g hn (by rw[L.I.ok.kind];rfl) λh9 v B Q=>?_
   exact⟨_,F,G.gone I E g j B Q,O⟩
  | ret u=>obtain⟨_,_,_,_,_,z⟩:=f;exact False.elim z
  | brk=>obtain⟨_,_,_,z⟩:=f;exact False.elim z
  | cont=>obtain⟨_,_,_,z⟩:=f;exact False.elim z
 .refine(tX y.kIn M ho5 hc5 r).at ?_
  exact hr a σ H s x D dct T H' h d l DE L q
end
def HX(X:Cx)(pins:List (Addr×Obj))(hr:Value->Option Addr->St->Hp->Prop)(e:Value)(s':Shared):Prop:=∃ σ H s,Inv X pins σ H s/\CXG X.prog X.w X.stack H s (λc d H'=>hr c d σ H') e s'
abbrev TB:=(St->Hp->Prop)->VK->(Value->Option Addr->St->Hp->Prop)->St->Hp->Prop
def PB1(X:Cx)(st:Stmt)(t:TB):Prop :=
 ∀(pins:List (Addr×Obj)) (s:Shared) (σ:St) (H:Hp) (nx:St->Hp->Prop) (rt:VK) (hr:Value->Option Addr->St->Hp->Prop),Inv X pins σ H s->t nx rt hr σ H->wpAny (model X.prog X.w) X.A (exec st X.env) (SP X pins { nx:=nx,rt:=rt }) (HX X pins hr) s
def PB(X:Cx)(sts:List Stmt)(t:TB):Prop :=
 ∀(pins:List (Addr×Obj)) (s:Shared) (σ:St) (H:Hp) (nx:St->Hp->Prop) (rt:VK) (hr:Value->Option Addr->St->Hp->Prop),Inv X pins σ H s->t nx rt hr σ H->wpAny (model X.prog X.w) X.A (execs sts X.env) (SP X pins { nx:=nx,rt:=rt }) (HX X pins hr) s
section
variable {X:Cx}
theorem jE{st:Stmt}{t:TB}(d:PB1 X st t):PB X [st] t:=by
 intro a s e H b c g I h;refine wpAny_execs_cons (thn (d a s e H b c g I h) λf i q=>?_);cases f with
 | next=>exact wpAny_execs_nil q
 | ret v=>exact q
 | brk=>exact q
 | cont=>exact q
theorem rM{c:Expr}{a b:List Stmt}{j:TT}{t u:TB}{f:Pos}(o:PT X.nox c j)(m:PB X a t)(p:PB X b u):PB1 X (.If c a b f) (λnx rt hr σ H=>j σ H λd H1=>if d=true then t nx rt hr σ H1 else u nx rt hr σ H1):=by
 intro e s σ H nx rt hr I h;refine wpAny_If (wpAny_mono (o e s σ H _ (I.wish _) h) (λd i ⟨H1,g,l⟩=>?_) λ_ _ z=>False.elim z);cases d with
 | true=>exact m e i σ H1 nx rt hr g.unwish l
 | false=>exact p e i σ H1 nx rt hr g.unwish l
def PX(X:Cx)(e:Expr)(t:VK->XK->St->Hp->Prop):Prop :=
 ∀(pins:List (Addr×Obj)) (s:Shared) (σ:St) (H:Hp) (Q:VK) (E:XK),Inv X pins σ H s->t Q E σ H ->
  wpAny (model X.prog X.w) X.A (eval e X.env) (EP X pins σ Q) (λe s'=>∃ H1 s1,Inv X pins σ H1 s1/\CXG X.prog X.w X.stack H1 s1 E e s') s
theorem jL{e:Expr}{t:VK->XK->St->Hp->Prop}{b:Pos}(h:PX X e t)(g:swapsWith e none b.line X.env=pure false:=by rfl):PB1 X (.Expr e b) (λnx _ hr σ H=>t (λ_ H1=>nx σ H1) (λc d H'=>hr c d σ H') σ H):=by
 intro a s σ H nx l hr I q;refine wpAny_Expr_any (wpAny_mono (h a s σ H _ _ I q) (λu i ⟨v,H1,f,r,j⟩=>?_) λe s' ⟨H1,i,f,c⟩=>⟨σ,H1,i,f,c⟩) I.quiet g;exact⟨σ,H1,f,j⟩
end
section
variable {X:Cx}{k:Nat}{f C:Addr}{fd:FuncData}{ps:List Str}{sp:Sp}{dvs:List V}{ds:List Value}{x m:Str}{p pos apos:Pos}{e o:Expr}{es:List Expr}{ta:TE}{t:TA}
theorem yZ{a:List (Addr×Obj)}{c:St}{H:Hp}{s:Shared}{Q:VK}{E:XK}{us:List Value}{vs:List V}(F:FnOk X.prog X.w X.K X.mg X.base (CXG X.prog X.w) k f fd ps sp)(i:Room k X.A)(l:Binds X.K fd ps ds)(j:Vals dvs ds)
  (I:Inv X a c H s) (r:Vals vs us) (h:sp (vs++dvs) H Q E):wpAny (model X.prog X.w) X.A (call (.ref f) us) (EP X a c Q) (λe s'=>∃ H1 s1,Inv X a c H1 s1/\CXG X.prog X.w X.stack H1 s1 E e s') s:=by
 have d:Vals (vs++dvs) (us++ds):=r.append j;have g:(us++ds).length=ps.length:=by rw[<- d.length];exact F.len _ _ _ _ h
 refine wpAny_call (codeAny_mono (F.run X.A X.stack s H ⟨us,[]⟩ (us++ds) (vs++dvs) Q E i I.env0 (l s us I.kIn g) d h) λr s' b=>?_);cases r with
 | error e=>exact⟨H,s,I,b⟩
 | ok fl =>
  cases fl with
  | ret u=>exact I.after b
  | next=>exact False.elim b
  | brk=>exact False.elim b
  | cont=>exact False.elim b
theorem gq{pl:Sem Bool}(D:PE X.nox o ta)(c:Cls X.K C)(j:Meth X.K C m f)(F:FnOk X.prog X.w X.K X.mg X.base (CXG X.prog X.w) k f fd ps sp)(G:Room k X.A)(N:Binds X.K fd ps ds)(L:Vals dvs ds)(w:PA X.nox (e::es) t)
  (g:starEach (e::es) X.env=(false,eval e X.env)::starEach es X.env:=by rfl) (i:(backTo pos (starEach es X.env)).any (·.1)=false:=by rfl)
  (K:eval (.Call (.Attribute o m apos) (e::es) [] pos) X.env=(do
   let ov <- eval o X.env
   standAt apos.atName
   let (f,first) <- holding [ov] (getMethod ov m pl)
   callWith pos f first (backTo pos (starEach (e::es) X.env)) (backToKw pos (keywordEach [] X.env))):=by rfl) :
  PX X (.Call (.Attribute o m apos) (e::es) [] pos) (λQ E σ H=>ta σ H λx H1=>∃ a dx fs,x=.ref a/\H1 a=some (.ins C dx fs)/\fs.lookup m=none/\t σ H1 λvs H2=>sp (x::(vs++dvs)) H2 Q E):=by
 intro b s σ H Q E I h;refine methodCall_KW (pl:=pl) (wpAny_mono (D b s σ H _ (I.wish _) h) (λu M ⟨x,H1,d,y,a,dx,fs,v,B,l,q⟩=>?_) λ_ _ z=>False.elim z) K;subst v;obtain rfl:u=Value.ref a:=y;have d:=d.unwish;refine jI d B c j l ?_;refine callWith_K (first:=[.ref a]) (h₀:=X.base) I.ok.mod.kin j.kp (wpAny_mono (w pos b M σ H1 _ (d.wish _) q) (λus O ⟨vs,H2,p,r,A⟩=>⟨p.unwish.kIn,?_⟩) λ_ _ z=>False.elim z) g i;exact yZ (us:=.ref a::us) (vs:=.ref a::vs) F G N L p.unwish (.cons rfl r) A
theorem PX.or{t t':VK->XK->St->Hp->Prop}{b:Expr}(h:PX X b t)(h':PX X b t'):PX X b (λQ E σ H=>t Q E σ H\/t' Q E σ H):=λa s σ H Q E I q=>q.elim (h a s σ H Q E I) (h' a s σ H Q E I)
theorem wz{body:List Stmt}{h₀:ExceptHandler}{A:List ExceptHandler}{C:TB}{w:TH}{P:Pos}(d:X.stack = X.env :: X.outer/\X.env.frame = some X.env.locals)(v:PB X body C)(L:PH X (h₀ :: A) w) :
  PS X (.Try body (h₀::A) [] [] P) (λDE σ H=>C DE.nx DE.rt (λc dct σ' H'=>∃ D,c=.ref D/\∀ x,H' x=none->w D dct x DE σ' (upd H' x (.ext (XCt x D dct)))) σ H):=by
 intro a s σ H DE I h;refine wpAny_Try_except ?_;refine wpAny_mono (v a s σ H DE.nx DE.rt _ I h) (λf l q=>?_) λe s' z=>?_
 .cases f with
  | next=>exact wpAny_execs_nil q
  | ret u=>exact q
  | brk=>obtain⟨_,_,_,z⟩:=q;exact False.elim z
  | cont=>obtain⟨_,_,_,z⟩:=q;exact False.elim z
 .obtain⟨i,O,l,m,x,D,dct,T,H',rfl,G,Y,R,M⟩:=z
  cases R;have J:Inv X a i H' s':=m.call' (ch:=[]) G.os G.un G.hok G.bare (by simp);have K:s'.heap.FunFrames X.base (X.env::X.outer):=d.1 ▸ J.stack;refine ss (by rw[m.ok.frames,d.1]) K d.2 G.fx λQ g W B N=>?_
  refine je (s:={ s' with heap:=Q }) (fr:=frs (X.env::X.outer)) W λy E S=>?_
  have p:KeptBut ([T,x]++[g]) (frs X.stack) s'.heap y:=by rw[d.1];exact N.trans S
  have r:∀ b,l.heap.get? b=none->b ∉ frs X.stack:=λb n z=>by
   obtain⟨_,o,e,_⟩:=m.stack.mem z;rw[n]at e;cases e
  have j:l.heap.get? g=none:=dU G.un B
  have F:H' g=none:=by
   cases z:H' g with
   | none=>rfl
   | some u =>
    obtain⟨o,e⟩:=(J.hok g u z).isObj;rw[B]at e;cases e
  refine L a i O l x D dct T H' s' g y DE ⟨m,G,p,λb v=>?_,E⟩ (M x G.ux)
  rcases v with rfl | rfl | rfl
  .exact⟨G.nT,G.uT,r _ G.nT⟩
  .exact⟨G.nx,G.ux,r _ G.nx⟩
  .exact⟨j,F,r _ j⟩
end
section
variable {X:Cx}{e:Expr}{es:List Expr}{pos:Pos}
theorem vL{K:Frag}(h:X.K=K)(a:X.A.units+64<cLine):OpR X (compareOp .Eq) (rEqD K false):=h ▸ AM a
end
section
variable {X:Cx}
theorem aY{K:Frag}{e:Expr}{f:Str}{a:Pos}{b:TE}(h:X.K=K)(c:PE X e b)(d:attributeBase e f X.env (eval e X.env)=eval e X.env):PE X (.Attribute e f a) (AT K b f):=h ▸ aA c d
end
end L2
namespace L2
open PySem PySem.Spec PyProof.Rows PySem.W
def BF:Stmt->Expr
 | .Assign _ e _=>e
 | _=>dE
section
variable {X:Cx}
end
end L2
namespace L2
open PySem PySem.Spec PyProof.Rows
section
variable {X:Cx}
inductive rCount(K:Frag)(x:V)(vs:List V)(H:Hp)(Q:VK):Prop
 | mk(l:Addr)(xs:List V)(ds:List PyData)(y:V)(d:PyData)(h0:x=.ref l)(h1:vs=[y])(h2:H l=some (.lst xs))(h3:DVs K H ds xs)(h4:DV K H d y)(h5:PyData.canLayAll0 ds=true)(h6:d.canLay0=true)(h7:d.depth<=60)
   (h8:Q (.int ((ds.countP λz=>PyData.eqv z d:Nat):Int)) H):rCount K x vs H Q
theorem wa(K:X.A.units+64<cLine):MtM X "list.count" (rCount X.K):=by
 intro f s M H x D v N Q I A w h;obtain⟨l,xs,b,y,d,rfl,rfl,C,c,o,i,j,E,q⟩:=h;cases A;obtain⟨u,rfl,B⟩:=w.one;obtain⟨z,a,n,r,G,e⟩:=I.lstM C;obtain⟨as,g⟩:=DVs.reads I c r;obtain⟨L,m⟩:=o.reads I B;refine call_meets F.slot_list_count ⟨_,e,rfl⟩ F.entry_list_count (F.args_list_count_2 _ _) (SeqAt.list_countAt l a.toArray n none #[] u (λy=>PyData.eqv (SeqAt.readOf s.heap y) d)) ⟨e,SeqAt.items_eqAt (xs:=b) (as:=as) (by simpa using g) m i j ?_,?_⟩
 .have:min (PyData.depthAll b) d.depth<=d.depth:=Nat.min_le_right _ _
  lia
 .have p:a.toArray.toList.countP (λy=>PyData.eqv (SeqAt.readOf s.heap y) d)=b.countP λz=>PyData.eqv z d:=by
   rw[<- SeqAt.readsAll_map b a as i g,List.countP_map];rfl
  rw[p];exact⟨.int _,H,I.tok _,⟨_,rfl⟩,q⟩
variable {o e:Expr}{es:List Expr}{to:TE}{t:TA}{apos cpos:Pos}
theorem pe_m.count(g:X.A.units+64<cLine)(i:PE X o to)(f:PA X (e::es) t)(c:attributeBase o "count" X.env (eval o X.env)=eval o X.env:=by rfl)
  (d:((backTo cpos (starEach (e::es) X.env)).all (λx=>!x.1) && (backToKw cpos (keywordEach [] X.env)).all (λx=>x.1.isSome) && decide ((e::es).length+([]:List Keyword).length+(if ([]:List Keyword).isEmpty then 0 else 1)<30))=true:=by rfl)
  (b:(apos.endLine == cpos.line)=true:=by rfl) (h:starEach (e::es) X.env=(false,eval e X.env)::starEach es X.env:=by rfl) (a:(backTo cpos (starEach es X.env)).any (·.1)=false:=by rfl) :
  PE X (.Call (.Attribute o "count" apos) (e::es) [] cpos) (tBM X.K "list" (rCount X.K) to t):=v8 F.plainAttrs_list F.slot_list_count F.type_list_count (wa g) i f c d b h a
end
abbrev oM(h:Heap)(z TI TO:Addr)(f0:Value)(b:Bool):Prop :=
 h.get? z=some { cls:=.type "zip",dict:=none,data:=.fields #[f0,.bool b,.bool false,.ref TI,.ref TO],slots:=#[] }
section
variable {prog:Program}{w:World}{A:Around}{E:Value->Shared->Prop}{s:Shared}
theorem zj{a:Addr}{o:Obj}{Q:Option Obj->Shared->Prop}(h:s.heap.get? a=some o)(c:Q (some o) s):wpAny (model prog w) A (loadIfAlive a) Q E s:=by
 intro b p hb;unfold loadIfAlive;rw[Sem.wp_loadIfAlive,h];exact(wpAny_pure (M:=model prog w) (A:=A) (E:=E) c) b p hb
theorem jr{z f e T:Addr}{b:Bool}{o:Obj}{Q:Bool->Shared->Prop}(hz:oM s.heap z f e (rawInt T) b)(h:s.heap.get? T=some o)
  (g:∀ h',oM h' z f e (rawInt T) true->Heap.SameBut z s.heap h'->Q false { s with heap:=h' }):wpAny (model prog w) A (Builtin.SmallTypes.ownedTupleIsFree (.ref z)) Q E s:=by
 unfold Builtin.SmallTypes.ownedTupleIsFree;refine wpAny_bind (wpAny_field hz rfl (x:=rawInt T) rfl ?_);show wpAny _ _ (loadIfAlive (Int.toNat (T:Int)) >>= _) _ _ s;rw[Int.toNat_natCast];refine wpAny_bind (zj h ?_);show wpAny _ _ (if (false=true) then _ else _) _ _ s;rw[if_neg Bool.false_ne_true];refine wpAny_bind (wpAny_field hz rfl (x:=.bool b) rfl ?_);cases b with
 | true =>
  rw[if_neg (by decide)];exact wpAny_pure (g _ hz ⟨rfl,λ_ _=>rfl⟩)
 | false =>
  rw[if_pos (by decide)];exact wpAny_bind (wpAny_setField_rec hz (by simp) λd c a=>wpAny_pure (g d c a))
theorem nC{z r C i j G F T:Addr}{b:Bool}{o:Obj}{O L:Nat}{xs ys:Array Value}{x y:Value}{Q:Value->Shared->Prop}(D:ZipApart z r C i j G F)
  (hz:oM s.heap z r C (rawInt T) b) (R:s.heap.get? T=some o) (H:IsPair s.heap r (.ref i) (.ref j))
  (h1:s.heap.IsListIter i G O) (h2:s.heap.IsListIter j F L) (K:s.heap.IsList G xs) (N:s.heap.IsList F ys) (hx:xs[O]? = some x) (hy:ys[L]? = some y)
  (hQ:∀ h',oM h' z r C (rawInt T) true->h'.IsListIter i G (O+1)->h'.IsListIter j F (L+1)->IsPair h' s.heap.objs.size x y->h'.objs.size=s.heap.objs.size+1 ->
   (∀ c o,c≠z->c≠i->c≠j->s.heap.get? c=some o->h'.get? c=some o)->(∃ o,h'.get? T=some o)->Q (.ref s.heap.objs.size) { s with heap:=h' }) :
  wpAny (model prog w) A (Builtin.«zip.__next__» ⟨[.ref z],[]⟩) (λfin s'=>∃ v,fin=.done (.ret v)/\Q v s') E s:=by
 show wpAny _ _ (field (.ref z) 2 >>= _) _ _ _;refine wpAny_bind (wpAny_field hz rfl (x:=.bool false) rfl ?_);show wpAny _ _ (field (.ref z) 3 >>= _) _ _ _;refine wpAny_bind (wpAny_field hz rfl (x:=.ref r) rfl ?_);refine wpAny_bind (wpAny_seqItems H rfl ?_);show wpAny _ _ (Builtin.SmallTypes.ownedTupleIsFree (.ref z) >>= _) _ _ _;refine wpAny_bind (jr hz R λX l a=>?_);simp only[Bool.false_eq_true,if_false];refine wpAny_bind ?_;rw[<- Array.forIn_toList];simp only[forIn_cons,forIn_nil];have Z:=h1.extBut a.extBut D.i1z;have a2:=h2.extBut a.extBut D.i2z;have b1:=K.extBut a.extBut D.l1z;have b2:=N.extBut a.extBut D.l2z;refine wpAny_bind (wpAny_bind (wpAny_holding ?_));show wpAny _ _ (Builtin.SmallTypes.nextOf (.ref i) >>= _) _ _ _;refine wpAny_bind (wpAny_nextOf_list_item Z b1 hx λW P d=>wpAny_pure (wpAny_pure ?_));refine wpAny_bind (wpAny_bind (wpAny_holding ?_));show wpAny _ _ (Builtin.SmallTypes.nextOf (.ref j) >>= _) _ _ _;refine wpAny_bind (wpAny_nextOf_list_item (a2.extBut d.extBut D.i12.symm) (b2.extBut d.extBut D.l2i1) hy λf B g=>wpAny_pure (wpAny_pure (wpAny_pure ?_)));show wpAny _ _ (newTuple [x,y] >>= λv=>ret v) _ _ _;refine wpAny_bind (wpAny_newTuple (wpAny_pure ⟨_,rfl,?_⟩));have m:f.objs.size=s.heap.objs.size:=by rw[g.1,d.1,a.1]
 have S:∀ c o,c≠z->c≠i->c≠j->s.heap.get? c=some o->f.get? c=some o:=λc o P B c3 e=>g.extBut _ _ c3 (d.extBut _ _ B (a.extBut _ _ P e))
 have h:oM f z r C (rawInt T) true:=g.extBut _ _ D.i2z.symm (d.extBut _ _ D.i1z.symm l);have u:=P.extBut g.extBut D.i12;show Q (.ref f.objs.size) _;rw[m]
 have p:∃ o,f.get? T=some o:=by
  by_cases e1:T=z
  .rw[e1];exact⟨_,h⟩
  by_cases e2:T=i
  .obtain⟨o,M,_⟩:=u;rw[e2];exact⟨o,M⟩
  by_cases e3:T=j
  .obtain⟨o,M,_⟩:=B;rw[e3];exact⟨o,M⟩
  exact⟨_,S _ _ e1 e2 e3 R⟩
 obtain⟨Y,I⟩:=p;refine hQ _ (Heap.get?_push_of_some _ h) (u.at λo e=>Heap.get?_push_of_some _ e) (B.at λo e=>Heap.get?_push_of_some _ e) ?_ ?_ (λc o n1 n2 n3 e=>Heap.get?_push_of_some _ (S c o n1 n2 n3 e)) ⟨Y,Heap.get?_push_of_some _ I⟩
 .have:=Heap.get?_push_size f (o:={ cls:=.type "tuple",data:=.seq #[x,y] }) rfl
  rw[m]at this;exact this
 .rw[Heap.size_push,m]
theorem oU{z h p f r j C T:Addr}{b:Bool}{o:Obj}{u:Nat}{xs:Array Value}{Q:Fin->Shared->Prop}(G:A.handled=none)(D:ZipApart z h p f r j C)
  (hz:oM s.heap z h p (rawInt T) b) (F:s.heap.get? T=some o) (i:IsPair s.heap h (.ref f) (.ref r))
  (H:s.heap.IsListIter f j u) (l:s.heap.IsList j xs) (K:xs[u]? = none)
  (B:∀ h' e,(∀ c o,c≠z->c≠f->s.heap.get? c=some o->h'.get? c=some o)->(∃ o,h'.get? e=some o/\o.cls=.type "StopIteration")->E (.ref e) { s with heap:=h' }) :
  wpAny (model prog w) A (Builtin.«zip.__next__» ⟨[.ref z],[]⟩) Q E s:=by
 show wpAny _ _ (field (.ref z) 2 >>= _) _ _ _;refine wpAny_bind (wpAny_field hz rfl (x:=.bool false) rfl ?_);show wpAny _ _ (field (.ref z) 3 >>= _) _ _ _;refine wpAny_bind (wpAny_field hz rfl (x:=.ref h) rfl ?_);refine wpAny_bind (wpAny_seqItems i rfl ?_);show wpAny _ _ (Builtin.SmallTypes.ownedTupleIsFree (.ref z) >>= _) _ _ _;refine wpAny_bind (jr hz F λv m a=>?_);simp only[Bool.false_eq_true,if_false];refine wpAny_bind ?_;rw[<- Array.forIn_toList];simp only[forIn_cons,forIn_nil];refine wpAny_bind (wpAny_bind (wpAny_holding ?_));show wpAny _ _ (Builtin.SmallTypes.nextOf (.ref f) >>= _) _ _ _;refine wpAny_bind (wpAny_nextOf_list_end G (H.extBut a.extBut D.i1z) (l.extBut a.extBut D.l1z) K λg e d I=>?_);exact B g e (λc o L y x=>d _ _ y (a.extBut _ _ L x)) I
structure ZS(h:Heap)(z TI TO i1 i2 l1 l2:Addr)(xs ys:Array Value)(i:Nat):Prop where
 zo:(oM h z TI TO .none false)\/∃(T:Addr) (o:Obj) (b:Bool),oM h z TI TO (rawInt (T:Nat)) b/\h.get? T=some o
 ti:IsPair h TI (.ref i1) (.ref i2)
 to:∃ a b,IsPair h TO a b
 j1:h.IsListIter i1 l1 i
 j2:h.IsListIter i2 l2 i
 q1:h.IsList l1 xs
 q2:h.IsList l2 ys
theorem xU{z B g j p G C:Addr}{i:Nat}{xs ys:Array Value}{x y:Value}{Q:Option Value->Shared->Prop}(D:ZipApart z B g j p G C)(Z:ZS s.heap z B g j p G C xs ys i)(R:xs[i]? = some x)(L:ys[i]? = some y)
  (N:∀ h',ZS h' z B g j p G C xs ys (i+1)->IsPair h' s.heap.objs.size x y->(∀ c o,c≠z->c≠g->c≠j->c≠p->s.heap.get? c=some o->h'.get? c=some o)->Q (some (.ref s.heap.objs.size)) { s with heap:=h' }) :
  wpAny (model prog w) A (pyNext (.ref z)) Q E s:=by
 obtain⟨S,r,⟨a,b,O⟩,M,P,l,m⟩:=Z
 rcases S with u | ⟨T,o,b',u,W⟩
 .refine wpAny_pyNext_zip_item D u r O M P l m R L λh' H e2 K v h X d=>N h' ⟨.inr ⟨_,_,_,H,h⟩,d _ _ D.TIz D.TITO D.TIi1 D.TIi2 r,⟨_,_,e2⟩,K,v,l.at λo e=>d _ o D.l1z D.l1TO D.l1i1 D.l1i2 e,m.at λo e=>d _ o D.l2z D.l2TO D.l2i1 D.l2i2 e⟩ h d
 .have f:s.TypeIs (.ref z) "zip" := ⟨_,u,rfl⟩
  unfold pyNext
  refine wpAny_bind (wpAny_attempt (wpAny_callSpecial?_slot (name:=Str.ofString "__next__") f F.slot_zip_next
   (wpAny_call_entry F.slot_zip_next f F.entry_zip_next
    (nC D u W r M P l m R L λh' H K v h X d Y=>wpAny_pure (N h' ?_ h λc o c1 c2 c3 c4 e=>d c o c1 c3 c4 e)) (F.args_zip_next_1 _))))
  obtain⟨o',I⟩:=Y;exact⟨.inr ⟨_,_,_,H,I⟩,d _ _ D.TIz D.TIi1 D.TIi2 r,⟨_,_,d _ _ D.TOz D.TOi1 D.TOi2 O⟩,K,v,l.at λo e=>d _ o D.l1z D.l1i1 D.l1i2 e,m.at λo e=>d _ o D.l2z D.l2i1 D.l2i2 e⟩
theorem yU{z l g h j p m:Addr}{i:Nat}{xs ys:Array Value}{Q:Option Value->Shared->Prop}(v:A.handled=none)(D:ZipApart z l g h j p m)(Z:ZS s.heap z l g h j p m xs ys i)(B:xs[i]? = none)
  (x:∀ h',(∀ c o,c≠z->c≠g->c≠h->c≠j->s.heap.get? c=some o->h'.get? c=some o)->Q none { s with heap:=h' }):wpAny (model prog w) A (pyNext (.ref z)) Q E s:=by
 obtain⟨C,y,⟨a,b,N⟩,u,O,r,L⟩:=Z
 rcases C with f | ⟨T,o,S,f,I⟩
 .exact wpAny_pyNext_zip_end v D f y N u O r L (.inl B) x
 .have d:s.TypeIs (.ref z) "zip" := ⟨_,f,rfl⟩
  unfold pyNext
  refine wpAny_bind (wpAny_attempt (wpAny_callSpecial?_slot (name:=Str.ofString "__next__") d F.slot_zip_next
   (wpAny_call_entry F.slot_zip_next d F.entry_zip_next (oU v D f I y u r B λh' e H P=>?_) (F.args_zip_next_1 _))))
  obtain⟨o,M,G⟩:=P;refine wpAny_bind (wpAny_isInstance (T := "StopIteration") (b:=true) ⟨o,M,G⟩ isSubtype_stop ?_);exact wpAny_pure (x _ λc o R _ K _ e=>H c o R K e)
theorem ZS.on{h h':Heap}{z f d l c j g:Addr}{xs ys:Array Value}{i:Nat}(Z:ZS h z f d l c j g xs ys i)(k:∀ b∈[z,f,d,l,c,j,g],∀ o,h.get? b=some o->h'.get? b=some o)(s:∀ b o,h.get? b=some o->∃ o',h'.get? b=some o'):ZS h' z f d l c j g xs ys i:=by
 obtain⟨u,x,⟨a,b,p⟩,y,r,w,v⟩:=Z;refine⟨u.imp (λh=>k z (by simp) _ h) (λ⟨T,o,b',hz,hT⟩=>?_),k f (by simp) _ x,⟨a,b,k d (by simp) _ p⟩,y.at λo e=>k l (by simp) o e,r.at λo e=>k c (by simp) o e,w.at λo e=>k j (by simp) o e,v.at λo e=>k g (by simp) o e⟩;obtain⟨o',m⟩:=s T o hT;exact⟨T,o',b',k z (by simp) _ hz,m⟩
end
theorem FpOk.on{X:Cx}{a:List (Addr×Obj)}{H c:Hp}{b:Addr}(h:FpOk X a H b)(e:c b=none):FpOk X a c b:=⟨e,h.2⟩
def Zp(H:Hp)(xs ys ps:List V):Prop:=∀(j:Nat) p x y,ps[j]? = some p->xs[j]? = some x->ys[j]? = some y->∃ q,p=.ref q/\H q=some (.tup [x,y])
theorem wO{X:Cx}{A:Around}{R:Result->Shared->Prop}{d:List (Addr×Obj)}{O:St}{z T l m r Y W S:Addr}{xs ys:List V}{us ws:List Value}{G:Value}{H0:Hp}(hh:A.in1.handled=none)(D:ZipApart z T l m r Y W)(hS:S ∉ [z,T,l,m,r,Y,W])(r1:Vals xs us)(r2:Vals ys ws)(hl:xs.length=ys.length)(hn:xs.length<=1000)(fS:H0 S=none) :
  ∀(k i:Nat) (s:Shared) (H:Hp) (ps:List V),xs.length - i=k->i<=xs.length->ZS s.heap z T l m r Y W us.toArray ws.toArray i->Inv X d O H s->(∀ b∈[z,l,m,r],FpOk X d H b)->Same H0 H->H S=some (.lst ps)->ps.length=i->Zp H xs ys ps ->
   (∀ s' H' ps',Inv X d O H' s'->Same H0 H'->H' S=some (.lst ps')->ps'.length=xs.length->Zp H' xs ys ps'->R (.ok (.ret G)) s') ->
   codeAny (model X.prog X.w) A (.builtin "list.extend.loop" ⟨[.ref S,.ref z,G],[]⟩) R s:=by
 have sl:sizeLine=16777216:=sizeLine_eq;have e1:=r1.length;have e2:=r2.length;intro k
 induction k with
 | zero =>
  intro i s H ps hk hi hz I K Q g L hp hR;have ab:i=xs.length:=by lia
  subst ab;refine codeAny_builtin F.entry_extend_loop ?_;rw[Around.under_plainId F.plain_extend_loop _];show wpAny _ A.in1 (pyNext (.ref z) >>= _) _ _ s;refine wpAny_bind (yU hh D hz (by simp;lia) λP B=>?_);have J:Inv X d O H { s with heap:=P }:=I.turnedN (t':=s.toks) (ch:=[z,l,m,r]) (λc o f q=>B c o (λw=>f (by simp[w])) (λw=>f (by simp[w])) (λw=>f (by simp[w])) (λw=>f (by simp[w])) q) K;exact wpAny_pure (hR _ H ps J Q g L hp)
 | succ k ih =>
  intro i s H ps hk hi hz I K Q g L hp hR;have v:i<xs.length:=by lia
  obtain⟨ux,as,ad⟩:=r1.get (List.getElem?_eq_getElem v);obtain⟨uy,an,a0⟩:=r2.get (List.getElem?_eq_getElem (show i<ys.length by lia));refine codeAny_builtin F.entry_extend_loop ?_;rw[Around.under_plainId F.plain_extend_loop _];show wpAny _ A.in1 (pyNext (.ref z) >>= _) _ _ s;refine wpAny_bind (xU D hz (by simpa using as) (by simpa using an) λP ap hT B=>?_);have u:H s.heap.objs.size=none:=I.hok.fresh (Nat.le_refl _)
  have J:Inv X d O (upd H s.heap.objs.size (.tup [xs[i],ys[i]])) { s with heap:=P } :=
   I.turnedNew (t':=s.toks) (ch:=[z,l,m,r]) (λc o f q=>B c o (λw=>f (by simp[w])) (λw=>f (by simp[w])) (λw=>f (by simp[w])) (λw=>f (by simp[w])) q) K (Nat.le_refl _) ⟨by rw[sl];show 2<=16777216;decide,[ux,uy],.cons ad (.cons a0 .nil),_,hT,rfl,0,rfl⟩
  have nS:S≠s.heap.objs.size:=aB g u;have M:(upd H s.heap.objs.size (.tup [xs[i],ys[i]])) S=some (.lst ps):=by rw[ar nS];exact g
  obtain⟨_,its,n,rv,a1,eo⟩:=J.lstM M;show wpAny _ A.in1 (updateSeq S (·.push (.ref s.heap.objs.size)) >>= _) _ _ _;refine wpAny_bind ?_
  have J2:Inv X d O (upd (upd H s.heap.objs.size (.tup [xs[i],ys[i]])) S (.lst (ps++[.ref s.heap.objs.size]))) { s with heap:=P.update S (Obj.mapSeq (·.push (.ref s.heap.objs.size))) } :=
   J.lset (s:={ s with heap:=P }) (t':=s.toks) (its:=its) (its':=its++[.ref s.heap.objs.size]) M eo (by simp) (rv.append (.cons (show RelV (V.ref s.heap.objs.size) (.ref s.heap.objs.size) from rfl) .nil)) (by rw[length_append,List.length_singleton];lia)
  have aS:∀ c∈[z,l,m,r],c≠s.heap.objs.size:=λc f q=>by
   have:∃ o,s.heap.get? c=some o:=by
    obtain⟨zo,ti,⟨a,b,to⟩,⟨o1,j1,_⟩,⟨o2,j2,_⟩,_⟩:=hz;simp only[mem_cons,not_mem_nil,or_false]at f
    rcases f with rfl | rfl | rfl | rfl
    .rcases zo with h | ⟨_,_,_,h,_⟩
     .exact⟨_,h⟩
     .exact⟨_,h⟩
    .exact⟨_,to⟩
    .exact⟨_,j1⟩
    .exact⟨_,j2⟩
   obtain⟨o,ho⟩:=this;exact absurd (Heap.lt_size ho) (by rw[q];exact Nat.lt_irrefl _)
  have N:∀ c∈[z,T,l,m,r,Y,W],c≠S:=λc f q=>hS (by rw[<- q];exact f)
  refine wpAny_updateSeq eo rfl (wpAny_pure ⟨plainId_quiet F.plain_extend_loop _,ih (i+1) _ _ _ (by lia) v (ap.on (λb E o e=>(Heap.get?_update_other _ _ (N b E).symm).trans e) λb o e=>?_) J2 (λb E=>(K b E).on ?_) ((Q.put (Q.free u)).put fS) ae (by rw[length_append,List.length_singleton];lia) ?_ hR⟩) (by rw[size_toArray];lia) (by rw[Array.size_push,size_toArray];lia)
  .by_cases eb:b=S
   .subst eb
    exact⟨_,Heap.get?_update_self _ eo rfl⟩
   .exact⟨o,(Heap.get?_update_other _ _ (Ne.symm eb)).trans e⟩
  .rw[ar (N b (by simp at E ⊢;rcases E with rfl | rfl | rfl | rfl <;> simp)),ar (aS b E)]
   exact(K b E).1
  .intro j p x y C h2 h3
   by_cases hj:j<ps.length
   .rw[List.getElem?_append_left hj]at C
    obtain⟨q,rfl,Z⟩:=hp j p x y C h2 h3;refine⟨q,rfl,?_⟩;have nq:q≠S:=λe=>by rw[e,g]at Z;cases Z
    rw[ar nq,ar (aB Z u)];exact Z
   .rw[List.getElem?_append_right (by lia)]at C
    have:j=i:=by
     by_cases e:j - ps.length=0
     .lia
     .rw[List.getElem?_eq_none (by simp;lia)]at C;cases C
    subst this;rw[show j - ps.length=0 by lia]at C;cases C;rw[List.getElem?_eq_getElem v]at h2;cases h2;rw[List.getElem?_eq_getElem (by lia)]at h3;cases h3;exact⟨_,rfl,by rw[ar nS.symm];exact ae⟩
theorem ut(n a b:Nat)(c:a<n)(h2:b<n):ZipApart (n+4) (n+2) (n+3) n (n+1) a b:=by
 constructor <;> exact(show(_:Nat)≠(_:Nat) by lia)
theorem wU(n a b c:Nat)(d:a<n)(h2:b<n)(h:c∈[n+4,n+2,n+3,n,n+1,a,b]):c≠n+5:=by
 simp only[mem_cons,not_mem_nil,or_false]at h;lia
theorem mS(n c:Nat)(h:c∈[n+4,n+3,n,n+1]):n<=c/\c≠n+5:=by
 simp only[mem_cons,not_mem_nil,or_false]at h;lia
theorem rE:typeLookup (.type "zip") (Str.ofString "__len__")=pure none:=by rw[typeLookup_type,builtinLookup_eq_fast];kernel_rfl
theorem qL:typeLookup (.type "zip") (Str.ofString "__length_hint__")=pure none:=by rw[typeLookup_type,builtinLookup_eq_fast];kernel_rfl
section
variable {prog:Program}{w:World}{A:Around}{E:Value->Shared->Prop}{s:Shared}{I:Addr}
theorem vZ{Q:Bool->Shared->Prop}(a:s.TypeIs (.ref I) "zip")(h:Q true s):wpAny (model prog w) A (Builtin.List.listLengthHint (.ref I)) Q E s:=by
 unfold Builtin.List.listLengthHint;refine wpAny_bind (wpAny_specialOf a rE ?_);show wpAny _ A (specialOf (Value.ref I) (Str.ofString "__length_hint__") >>= _) _ _ _;refine wpAny_bind (wpAny_specialOf a qL ?_);exact wpAny_pure h
end
section
variable {X:Cx}{e f:Expr}{ta:TA}{p1 p2 pos pos2:Pos}
def tLZ(ta:TA):TE:=λσ H Q=>ta σ H λvs H1=>∃(a b:Addr) (xs ys:List V),vs=[.ref a,.ref b]/\H1 a=some (.lst xs)/\H1 b=some (.lst ys)/\xs.length=ys.length/\xs.length<=1000 /\
 ∀ H' l ps,Same H1 H'->H1 l=none->H' l=some (.lst ps)->ps.length=xs.length->Zp H' xs ys ps->Q (.ref l) H'
theorem mY(hc:X.calm=true)(as:Gl X "list")(a0:X.mg "list" = none)(an:Gl X "zip")(aS:X.mg "zip" = none)(ha:PA X [e,f] ta)
  (he:starEach [Expr.Call (.Name "zip" p2) [e,f] [] pos2] X.env=[(false,eval (.Call (.Name "zip" p2) [e,f] [] pos2) X.env)]:=by rfl) (hs:starEach [e,f] X.env=(false,eval e X.env)::starEach [f] X.env:=by rfl)
  (a1:(backTo pos2 (starEach [f] X.env)).any (·.1)=false:=by rfl) :
  PE X (.Call (.Name "list" p1) [.Call (.Name "zip" p2) [e,f] [] pos2] [] pos) (tLZ ta):=by
 intro i s Z H Q I h;have sl:sizeLine=16777216:=sizeLine_eq;refine wpAny_Call_Name_kw (iF I as a0 gw ?_ (by decide) (by decide));refine PyProof.Rows.callWith_type1 (Calls.spliced_cons ?_) he rfl;refine wpAny_Call_Name_kw (iF I an aS zV ?_ (by decide) (by decide));refine PyProof.Rows.callWith_type1 (thn (ha pos2 i s Z H _ I h) λus d ⟨vs,M,E,r1,a,b,xs,ys,P,hl,a2,ad,hx,q⟩=>?_) hs a1;subst P;obtain⟨u,v,rfl,ru,rv⟩:=mt r1;cases ru;cases rv;obtain⟨_,its,n,r,a7,eo⟩:=E.lstM hl;obtain⟨_,G,m,r2,a3,K⟩:=E.lstM a2;refine call_zip_2 (xs:=its.toArray) (ys:=G.toArray) ⟨_,eo,rfl,_,rfl⟩ ⟨_,K,rfl,_,rfl⟩ λA P e2 e3 e4 e5 e6 e7=>?_
 refine Calls.spliced_nil ?_;have I2:Inv X i Z M { d with heap:=A }:=E.kept (t':=d.toks) e7;have W:a<d.heap.objs.size:=Heap.lt_size eo;have R:b<d.heap.objs.size:=Heap.lt_size K
 have Z2:ZS A (d.heap.objs.size+4) (d.heap.objs.size+2) (d.heap.objs.size+3) d.heap.objs.size (d.heap.objs.size+1) a b its.toArray G.toArray 0:=⟨.inl P,e2,⟨_,_,e3⟩,e4,e5,⟨_,e7 _ _ eo,rfl,_,rfl⟩,⟨_,e7 _ _ K,rfl,_,rfl⟩⟩
 have D:ZipApart (d.heap.objs.size+4) (d.heap.objs.size+2) (d.heap.objs.size+3) d.heap.objs.size (d.heap.objs.size+1) a b:=ut _ _ _ W R;have ap:∀ c,d.heap.objs.size<=c->FpOk X i M c:=λc g=>E.fpOk g (E.hok.fresh g)
 obtain⟨S,hS⟩:∃ S,S=A.objs.size:=⟨_,rfl⟩
 have T:S=d.heap.objs.size+5:=by rw[hS,e6]
 refine callType_codes (Q₁:=λN C=>N=.ref A.objs.size/\C={ d with heap:=A.push { cls:=.type "list",data:=.seq #[] } }) F.called_list (F.typeCall_list_1 _) F.entry_list_init (code_list_new _ ⟨rfl,rfl⟩) λN C h₁=>?_
 obtain⟨rfl,rfl⟩:=h₁;rw[<- hS]
 have I3:Inv X i Z (upd M S (.lst [])) { d with heap:=A.push { cls:=.type "list",data:=.seq #[] } }:=by
  have:=I2.lnew (t':=d.toks) (ys:=[]) (its:=[]) .nil (Nat.zero_le _);rw[hS];exact this
 have fS:M S=none:=E.hok.fresh (by lia);obtain⟨_,a6,n3,r3,_,B⟩:=I3.lstM (l:=S) (xs:=[]) ae;cases r3;refine⟨⟨_,B,rfl⟩,F.args_list_init_2 _ _,?_⟩;show wpAny _ _ (do let old <- Builtin.List.listItems (.ref S);Builtin.List.listUpdate (.ref S) (λ_=>#[]);letGo old.toList.reverse;Builtin.List.listExtendWith (.ref S) (.ref (d.heap.objs.size+4)) .none) _ _ _;refine wpAny_bind ?_;unfold Builtin.List.listItems;refine wpAny_bind (wpAny_seqItems B rfl (wpAny_pure ?_));show wpAny _ _ (updateSeq S (λ_=>#[]) >>= λ_=>letGo (#[]:Array Value).toList.reverse >>= λ_=>Builtin.List.listExtendWith (.ref S) (.ref (d.heap.objs.size+4)) .none) _ _ _;refine wpAny_bind (wpAny_updateSeq B rfl ?_);refine wpAny_bind (wpAny_letGo ?_)
 have I4:Inv X i Z (upd (upd M S (.lst [])) S (.lst [])) { d with heap:=(A.push { cls:=.type "list",data:=.seq #[] }).update S (Obj.mapSeq (λ_=>#[])) } :=
  I3.lset (s:={ d with heap:=A.push { cls:=.type "list",data:=.seq #[] } }) (t':=d.toks) (its:=[]) (its':=[]) ae B rfl .nil (Nat.zero_le _)
 rw[hW]at I4;have Y:∀ c o,A.get? c=some o->((A.push { cls:=.type "list",data:=.seq #[] }).update S (Obj.mapSeq (λ_=>(#[]:Array Value)))).get? c=some o:=λc o g=>(Heap.get?_update_other _ _ (by rw[hS];exact Nat.ne_of_gt (Heap.lt_size g))).trans (Heap.get?_push_of_some _ g)
 have Z4:=Z2.on (λc _ o g=>Y c o g) (λc o g=>⟨o,Y c o g⟩);have ti:Shared.TypeIs { d with heap:=(A.push { cls:=.type "list",data:=.seq #[] }).update S (Obj.mapSeq (λ_=>(#[]:Array Value))) } (.ref (d.heap.objs.size+4)) "zip" := ⟨_,Y _ _ P,rfl⟩;unfold Builtin.List.listExtendWith;refine wpAny_bind (wpAny_typeOf ti ?_)
 have g1:Builtin.List.listSameRef (.ref S) (.ref (d.heap.objs.size+4))=false:=by
  have:(S:Nat)≠d.heap.objs.size+4:=by lia
  simpa[Builtin.List.listSameRef] using this
 have g2:(Value.type "zip" == Value.type "list")=false:=by decide
 have g3:(Value.type "zip" == Value.type "tuple")=false:=by decide
 simp only[g1,g2,g3,Bool.or_false,Bool.false_eq_true,if_false];refine wpAny_bind ?_;have pz:∀{A':Around}{Q':Value->Shared->Prop}{E':Value->Shared->Prop}{s':Shared},oM s'.heap (d.heap.objs.size+4) (d.heap.objs.size+2) (d.heap.objs.size+3) .none false->Q' (.ref (d.heap.objs.size+4)) s'->wpAny (model X.prog X.w) A' (pyIter (.ref (d.heap.objs.size+4))) Q' E' s':=λh h'=>wpAny_pyIter_zip h h'
 refine pz (Y _ _ P) ?_;refine wpAny_bind (wpAny_holding (vZ ti ?_));rw[if_pos (by rfl)];refine wpAny_bind (wpAny_rule ?_);obtain⟨_,a4,n4,r4,_,O⟩:=I4.lstM (l:=S) (xs:=[]) ae;cases r4;unfold Builtin.List.listTouch;refine wpAny_bind (wpAny_bind ?_);show wpAny _ _ (updateSeq S (·.push .none)) _ _ _;refine wpAny_updateSeq O rfl ?_ (by simp) (by simp);have I5:=I4.lset (s:={ d with heap:=(A.push { cls:=.type "list",data:=.seq #[] }).update S (Obj.mapSeq (λ_=>#[])) }) (t':=d.toks) (its:=[]) (its':=[.none]) (f:=(·.push .none)) (ys:=[.non]) ae O rfl (.cons rfl .nil) (by rw[sl];show 1<=16777216;decide);rw[hW]at I5;obtain⟨_,a5,n5,r5,_,w⟩:=I5.lstM (l:=S) (xs:=[.non]) ae;obtain⟨u5,rfl,ab⟩:=r5.one;cases ab;show wpAny _ _ (updateSeq S (·.pop)) _ _ _;refine wpAny_updateSeq w rfl ?_ (by simp[sl]) (by simp);have I6:=I5.lset (s:={ d with heap:=((A.push { cls:=.type "list",data:=.seq #[] }).update S (Obj.mapSeq (λ_=>#[]))).update S (Obj.mapSeq (·.push .none)) }) (t':=d.toks) (its:=[.none]) (its':=[]) (f:=(·.pop)) (ys:=[]) ae w (by simp) .nil (Nat.zero_le _);rw[hW]at I6
 have L:∀ c∈[d.heap.objs.size+4,d.heap.objs.size+2,d.heap.objs.size+3,d.heap.objs.size,d.heap.objs.size+1,a,b],c≠S:=λc g=>by
  rw[T];exact wU _ _ _ _ W R g
 have Z6:=(Z4.on (λc g o e=>(Heap.get?_update_other _ (Obj.mapSeq (·.push .none)) (L c g).symm).trans e) (λc o e=>by
  by_cases ec:c=S
  .exact⟨_,by rw[ec];exact w⟩
  .exact⟨o,(Heap.get?_update_other _ _ (Ne.symm ec)).trans e⟩)).on (λc g o e=>(Heap.get?_update_other _ (Obj.mapSeq (·.pop)) (L c g).symm).trans e) (λc o e=>by
  by_cases ec:c=S
  .exact⟨_,by rw[ec];exact Heap.get?_update_self _ w rfl⟩
  .exact⟨o,(Heap.get?_update_other _ _ (Ne.symm ec)).trans e⟩)
 refine wpAny_pure ⟨plainId_quiet F.plain_extend_loop _,wO (H0:=M) (by simpa using E.ok.hd hc) D ?_ r r2 ad hx fS xs.length 0 _ _ _ rfl (Nat.zero_le _) Z6 I6 (λc g=>(ap c ?_).on ?_) (Same.new fS) ae rfl (λj p x y h=>by cases h) λs' H' ps' I' sm hS' hps hz=>⟨rfl,?_⟩⟩
 .exact λz=>L _ z rfl
 .exact(mS _ _ g).1
 .rw[ar (by rw[T];exact(mS _ _ g).2)]
  exact E.hok.fresh (mS _ _ g).1
 .exact⟨.ref S,H',I',rfl,q H' S ps' sm fS hS' hps hz⟩
end
end L2
namespace L2
open PySem PySem.Calls PySem.Spec PyProof.Rows PySem.W
section
variable {prog:Program}{w:World}{s:Shared}{A:Around}{E:Value->Shared->Prop}
theorem v6{t:Addr}{us:List Value}{ns:List Int}{R:Value->Shared->Prop}(u:IsTup s.heap t us.toArray)(y:IntsAre us ns)(a:us.length<64)
  (d:∀(out:Array Value) (ns':List Int),IntsAre out.toList ns'->ns'.Perm ns->ns'.Pairwise (·<=·)->R (.ref (s.heap.objs.size+1)) { s with heap:=sortedAll s.heap us out }) :
  wpAny (model prog w) A (call (.builtin "sorted") [.ref t]) R E s:=by
 obtain⟨o,v,l,n,x⟩:=id u;have j:us.length<=sizeLine:=by rw[sizeLine_eq];lia
 refine call_function_entry kind_sorted plain_sorted entry_sorted (args_sorted1 _) ?_;unfold Builtin.«sorted»;refine wpAny_bind (m:=checkCount "sorted" 1 1 _) (wpAny_pure (wpAny_bind ?_));unfold collect;refine wpAny_bind (wpAny_runValue (codeAny_builtin entry_proto_collect' ?_));show wpAny _ _ (do again (.builtin "list.__iadd__" ⟨[<- newList [],.ref t],[]⟩)) _ _ s;refine wpAny_bind (wpAny_newList (wpAny_pure ⟨Code.quiet_builtin _ (by decide +kernel),codeAny_builtin entry_list_iadd' ?_⟩));show wpAny _ _ (Builtin.List.listExtendWith (.ref s.heap.objs.size) (.ref t) (.ref s.heap.objs.size)) _ _ { s with heap:=s.heap.push (seqObj "list" #[] 0) };unfold Builtin.List.listExtendWith;have b:(s.heap.push (seqObj "list" #[] 0)).get? t=some o:=Heap.get?_push_of_some _ v;have c:(s.heap.push (seqObj "list" #[] 0)).get? s.heap.objs.size=some (seqObj "list" #[] 0):=Heap.get?_push_size _ rfl;refine wpAny_bind (wpAny_typeOf (T := "tuple") ⟨o,b,l⟩ ?_);have e:(Value.type "tuple" == Value.type "tuple")=true:=rfl;rw[if_pos (by rw[e];simp)];refine wpAny_bind (listItems_at b x (wpAny_bind (listItems_at (xs:=#[]) (n:=0) c rfl ?_)));rw[if_neg (by simp)];refine wpAny_bind (listUpdate_at (xs:=#[]) (n:=0) c rfl (wpAny_pure ?_) (Nat.zero_le _) (by show(#[]++us.toArray).size<=sizeLine+1;simp only[Array.size_append,size_toArray,length_nil];lia));show wpAny (model prog w) _ (do let o <- load s.heap.objs.size;match o.data with | .seq xs _=>pure xs.toList | _=>unsupported "internal:collect") _ E { s with heap:=(s.heap.push (seqObj "list" #[] 0)).update s.heap.objs.size (Obj.mapSeq (· ++ us.toArray)) };refine wpAny_bind (wpAny_load (get?_update_seq c _) ?_);show wpAny _ _ (pure ((#[]:Array Value)++us.toArray).toList) _ E _;have h:((#[]:Array Value)++us.toArray).toList=us:=by simp
 rw[h];refine wpAny_pure (wpAny_bind (wpAny_newList ?_));have f:((s.heap.push (seqObj "list" #[] 0)).update s.heap.objs.size (Obj.mapSeq (· ++ us.toArray))).objs.size=s.heap.objs.size+1:=by rw[Heap.size_update,size_push']
 have g:(((s.heap.push (seqObj "list" #[] 0)).update s.heap.objs.size (Obj.mapSeq (· ++ us.toArray))).push (seqObj "list" us.toArray 0)).get? (s.heap.objs.size+1)=some (seqObj "list" us.toArray 0):=by rw[<- f];exact Heap.get?_push_size _ rfl
 show wpAny _ _ _ _ _ { s with heap:=((s.heap.push (seqObj "list" #[] 0)).update s.heap.objs.size (Obj.mapSeq (· ++ us.toArray))).push (seqObj "list" us.toArray 0) };rw[f];exact wpAny_bind (wpAny_holding (wpAny_call_entry slot_list_sort ⟨_,g,rfl⟩ entry_list_sort (list_sort_tree g y a λout ns' p r i=>⟨_,rfl,wpAny_pure ⟨_,rfl,d out ns' p r i⟩⟩) (args_list_sort _)))
end
theorem nE{X:Cx}:CallR X (.builtin "sorted") (λxs H Q=>∃(p:Addr) (ns:List Int),xs=[.ref p]/\(SqL X.K H p (ns.map V.int)\/SqT X.K H p (ns.map V.int))/\ns.length<64/\∀ q (ns':List Int),ns'.Perm ns->ns'.Pairwise (·<=·)->H q=none->Q (.ref q) (upd H q (.lst (ns'.map V.int)))):=by
 intro d s y H xs D Q I r h;obtain⟨p,ns,rfl,hq,v,q⟩:=h
 rcases hq with hq | hq
 .exact hX d s y H _ D Q I r ⟨p,ns,rfl,hq,v,q⟩
 obtain⟨u,rfl,x⟩:=ij r;cases x;obtain⟨f,l,m,F⟩:=I.tuple hq;have E:=iM l;have i:f.length=ns.length:=by have:=l.length;rw[length_map]at this;exact this.symm
 refine v6 m E (by lia) λc ns' A j w=>?_
 obtain⟨e,C⟩:=sortedAll_at s.heap f c;have B:H (s.heap.objs.size+1)=none:=I.hok.fresh (Nat.le_succ _);have g:sizeLine=16777216:=sizeLine_eq;refine⟨.ref (s.heap.objs.size+1),_,I.laid (a:=s.heap.objs.size+1) (o:=.lst (ns'.map V.int)) (t':=s.toks) (λb u z=>sortedAll_old z) (Nat.le_succ _) ⟨?_,c.toList,e,fD A,?_⟩,rfl,q _ ns' j w B⟩
 .rw[length_map,j.length_eq];lia
 .rw[C,Array.toArray_toList]
end L2
namespace L2
open PySem PySem.Spec PyProof.Rows
section
variable {X:Cx}{a b c d:Expr}{ta tb tc td:TE}{pos:Pos}
def xM(r r' r2:R2)(ta tb tc td:TE):TE:=λσ H Q=>ta σ H λx H1=>tb σ H1 λy H2=>r x y H2 (mB λk H3=>if k=true then tc σ H3 λz H4=>r' y z H4 (mB λk2 H5=>if k2=true then td σ H5 λw' H6=>r2 z w' H6 Q else Q (.bl false) H5) else Q (.bl false) H3)
theorem vz{o g f:CmpOp}{r B j:R2}(ho:OpR X (compareOp o) r)(w:OpR X (compareOp g) B)(p:OpR X (compareOp f) j)(ha:PE X a ta)(hb:PE X b tb)(K:PE X c tc)(T:PE X d td)
  (hm:lastMarks [o,g,f] [b,c,d]=false:=by with_unfolding_all rfl):PE X (.Compare a [o,g,f] [b,c,d] pos) (xM r B j ta tb tc td):=by
 intro e s i H Q I h
 refine Compare_chain (thn (ha e s i H _ I h) λv W ⟨x,H1,I1,O,N⟩=>chain_link (thn (hb e W i H1 _ I1 N) λu s2 ⟨y,H2,I2,j,q2⟩ =>
  thn (ho e s2 i H2 x y v u _ I2 O j q2) λd M ⟨z,C,E,r3,m⟩=>?_)) hm
 obtain⟨k,rfl,m⟩:=jH m;cases r3;refine wpAny_truthy_bool ?_;cases k with
 | false=>exact ite_ff ⟨.bl false,C,E,rfl,m⟩
 | true =>
  refine ite_tt (chain_link (thn (K e M i C _ E m) λA s4 ⟨F,G,I4,D,q4⟩=>thn (w e s4 i G y F u A _ I4 j D q4) λd' s5 ⟨z2,H5,I5,r5,l⟩=>?_));obtain⟨S,rfl,l⟩:=jH l;cases r5;refine wpAny_truthy_bool ?_;cases S with
  | false=>exact ite_ff ⟨.bl false,H5,I5,rfl,l⟩
  | true=>exact ite_tt (chain_last (thn (T e s5 i H5 _ I5 l) λR s6 ⟨Z,Y,I6,P,L⟩=>p e s6 i Y F Z A R Q I6 D P L))
end
section
variable {X:Cx}{o e:Expr}{es:List Expr}{to:TE}{t:TA}{apos cpos:Pos}
end
end L2
namespace Du
theorem oZ{a b:Rat}(c:0<=a)(d:0<b):0<=a/b:=by
 rw[Rat.div_def];exact Rat.mul_nonneg c (Rat.le_of_lt (Rat.inv_pos.mpr d))
def hb(h c:Rat):Rat:=if h+c<1 then h+c else h+c - 1
theorem AN{h c:Rat}(a:0<=h)(e:h<1)(d:0<c)(b:c<1):0<=hb h c/\hb h c<1:=by
 unfold hb;split <;> grind
end Du
namespace Du
def Uns(c:Rat):Prop:=0<c/\c<1
def us0(h c:Rat):Rat×Rat:=if h+c<1 then (c/(h+c),0) else ((1 - c)/(2 - (h+c)),(1 - h)/(2 - (h+c)))
def dY(h:Rat)(us:Rat×Rat)(c:Rat):Rat×Rat:=if h+c<1 then (us.1*(h/(h+c)),us.2) else (us.1*((1 - h)/(2 - (h+c))),us.2+us.1*((1 - c)/(2 - (h+c))))
def bk(us:Rat×Rat)(h c:Rat):Rat:=if 0<h+c - 1 then us.2*c+us.1*(h+c - 1) else us.2*c
end Du
namespace Du
open FrM
def fr(q:Rat):Int×Int:=(q.num,(q.den:Int))
theorem gQ(n:Int){d:Nat}(a:d≠0):fB n (d:Int)=fr (mkRat n d):=by
 unfold fB fr;rw[Rat.num_mkRat,Rat.den_mkRat,if_neg a,if_neg a];have e:Int.gcd n (d:Int)=d.gcd n.natAbs:=by rw[Int.gcd,Nat.gcd_comm];rfl
 rw[e];rfl
theorem o8(t:Int){b:Int}(a:0<b):fB t b=fr ((t:Rat)/(b:Rat)):=by
 obtain⟨d,rfl⟩:=Int.eq_ofNat_of_zero_le (Int.le_of_lt a);rw[gQ t (by omega),<- Rat.divInt_eq_div,<- Rat.divInt_ofNat]
theorem xx(p q:Rat):fB (p.num*(q.den:Int)+q.num*(p.den:Int)) ((p.den:Int)*(q.den:Int))=fr (p+q):=by
 rw[Rat.add_def',<- gQ _ (Nat.mul_ne_zero p.den_nz q.den_nz)];simp
theorem wK(p q:Rat):fB (p.num*(q.den:Int) - q.num*(p.den:Int)) ((p.den:Int)*(q.den:Int))=fr (p - q):=by
 rw[Rat.sub_def',<- gQ _ (Nat.mul_ne_zero p.den_nz q.den_nz)];simp
theorem xQ(p q:Rat):fB (p.num*q.num) ((p.den:Int)*(q.den:Int))=fr (p*q):=by
 rw[Rat.mul_def',<- gQ _ (Nat.mul_ne_zero p.den_nz q.den_nz)];simp
theorem num_pos{q:Rat}:0<q.num↔0<q:=by
 rw[Rat.lt_iff];simp
theorem wQ(p q:Rat)(h:0<q):fB (p.num*(q.den:Int)) ((p.den:Int)*q.num)=fr (p/q):=by
 have c:=num_pos.mpr h;have a:(0:Int)<p.den:=by have:=p.den_pos;omega
 rw[o8 _ (Int.mul_pos a c)]
 congr 1
 have d:p=(p.num:Rat)/(p.den:Rat):=by
  have:=Rat.num_divInt_den p;rw[Rat.divInt_eq_div]at this;exact this.symm
 have b:q=(q.num:Rat)/(q.den:Rat):=by
  have:=Rat.num_divInt_den q;rw[Rat.divInt_eq_div]at this;exact this.symm
 have g:(p.den:Rat)≠0:=by have:=p.den_nz;exact_mod_cast this
 have e:(q.den:Rat)≠0:=by have:=q.den_nz;exact_mod_cast this
 have f:(q.num:Rat)≠0:=by
  have:q.num≠0:=by omega
  exact_mod_cast this
 conv=>rhs;rw[d,b]
 push_cast
 grind
def Bb(q:Rat):Prop:=Bt 1000 q.num/\Bt 1000 (q.den:Int)
def Bq(D:Nat)(q:Rat):Prop:=0<=q/\q<=1/\∃ n:Nat,q*(D:Rat)=(n:Rat)
def Bz(D:Nat)(q:Rat):Prop:=∃ n:Int,q*(D:Rat)=(n:Rat)/\n.natAbs<=4*D
theorem qz{D:Nat}(h:0<D):(0:Rat)<(D:Rat):=by exact_mod_cast h
theorem Ar{D:Nat}{q:Rat}{n:Int}(a:0<D)(e:q*(D:Rat)=(n:Rat)):q=mkRat n D:=by
 have b:=qz a;have:q=(n:Rat)/(D:Rat):=by grind
 rw[this,<- Rat.divInt_ofNat,Rat.divInt_eq_div];rfl
theorem Bz.bb{D:Nat}{q:Rat}(g:0<D)(p:D<2 ^ 980)(h:Bz D q):Bb q:=by
 obtain⟨n,e,r⟩:=h;have f:=Ar g e;have l:=gQ n (show D≠0 by omega);rw[<- f]at l;have m:(0:Int)<(D:Int):=by omega
 obtain⟨_,_,_,j,d⟩:=low n (D:Int) m;have o:(fB n (D:Int)).1=q.num:=by rw[l];rfl
 have i:(fB n (D:Int)).2=(q.den:Int):=by rw[l];rfl
 have a:n/(Int.gcd n (D:Int):Int)=q.num:=o;have b:(D:Int)/(Int.gcd n (D:Int):Int)=(q.den:Int):=i;rw[a]at j;rw[b]at d;have c:(2:Nat) ^ 1000=2 ^ 980*1048576:=by decide +kernel
 unfold Bb Bt;rw[c]
 constructor <;> omega
theorem vY{n:Nat}:(0:Rat)<=(n:Rat):=by exact_mod_cast Nat.zero_le n
theorem uD{n m:Nat}(h:(n:Rat)<=(m:Rat)):n<=m:=by exact_mod_cast h
theorem iQ{n m:Nat}(h:m<=n):((n - m:Nat):Rat)=(n:Rat) - (m:Rat):=by
 obtain⟨k,rfl⟩:=Nat.exists_eq_add_of_le h;rw[Nat.add_sub_cancel_left]
 push_cast
 grind
theorem jF{a b:Rat}(c:0<=a)(d:0<=b):0<=a*b:=Rat.mul_nonneg c d
theorem Bq.nat{D:Nat}{q:Rat}(h:Bq D q):∃ n:Nat,q*(D:Rat)=(n:Rat)/\n<=D:=by
 obtain⟨a,b,n,e⟩:=h;refine⟨n,e,uD ?_⟩;have:=jF (show 0<=1 - q by grind) (vY (n:=D))
 grind
theorem Bq.z{D:Nat}{q:Rat}(h:Bq D q):Bz D q:=by
 obtain⟨n,e,a⟩:=h.nat;exact⟨(n:Int),by rw[e];rfl,by omega⟩
theorem Bq.bb{D:Nat}{q:Rat}(a:0<D)(b:D<2 ^ 980)(h:Bq D q):Bb q:=h.z.bb a b
theorem Bq.mul{D E:Nat}{q r:Rat}(h:Bq D q)(h':Bq E r):Bq (D*E) (q*r):=by
 obtain⟨a,d,n,e⟩:=h;obtain⟨b,c,m,f⟩:=h';refine⟨jF a b,?_,n*m,?_⟩
 .have:=jF a (show 0<=1 - r by grind)
  grind
 .push_cast
  grind
theorem Bq.up{D:Nat}(E:Nat){q:Rat}(h:Bq D q):Bq (D*E) q:=by
 obtain⟨a,b,n,e⟩:=h;refine⟨a,b,n*E,?_⟩
 push_cast
 grind
theorem Bq.up'{D:Nat}(E:Nat){q:Rat}(h:Bq D q):Bq (E*D) q:=by rw[Nat.mul_comm];exact h.up E
theorem Bq.add{D:Nat}{q r:Rat}(h:Bq D q)(h':Bq D r)(l:q+r<=1):Bq D (q+r):=by
 obtain⟨b,d,n,e⟩:=h;obtain⟨c,a,m,f⟩:=h';refine⟨by grind,l,n+m,?_⟩
 push_cast
 grind
theorem Bq.zero{D:Nat}:Bq D 0:=⟨by grind,by grind,0,by grind⟩
theorem Bq.one{D:Nat}:Bq D 1:=⟨by grind,by grind,D,by grind⟩
theorem vT{B:Nat}{q:Rat}(a b c:Int){h k:Rat}{n m:Nat}(e:h*(B:Rat)=(n:Rat))(f:k*(B:Rat)=(m:Rat))(j:n<=B)(g:m<=B)(l:q=(a:Rat)*h+(b:Rat)*k+(c:Rat))(d:a.natAbs<=1)(o:b.natAbs<=1)(i:c.natAbs<=2):Bz B q:=by
 refine⟨a*n+b*m+c*B,?_,?_⟩
 .push_cast
  rw[l]
  grind
 .have s:(a*(n:Int)).natAbs<=B:=by rw[Int.natAbs_mul];have:=Nat.mul_le_mul d j;simp at this ⊢;exact this
  have r:(b*(m:Int)).natAbs<=B:=by rw[Int.natAbs_mul];have:=Nat.mul_le_mul o g;simp at this ⊢;exact this
  have p:(c*(B:Int)).natAbs<=2*B:=by rw[Int.natAbs_mul];have:=Nat.mul_le_mul i (Nat.le_refl B);simp at this ⊢;exact this
  omega
section
variable {B:Nat}{h c:Rat}
theorem yW(H:Bq B h)(C:Bq B c):Bz B (h+c):=by
 obtain⟨n,e,b⟩:=H.nat;obtain⟨m,f,a⟩:=C.nat;exact vT 1 1 0 e f b a (by push_cast;grind) (by decide) (by decide) (by decide)
theorem wx(H:Bq B h)(C:Bq B c):Bz B (h+c - 1):=by
 obtain⟨n,e,b⟩:=H.nat;obtain⟨m,f,a⟩:=C.nat;exact vT 1 1 (-1) e f b a (by push_cast;grind) (by decide) (by decide) (by decide)
theorem wH(H:Bq B h)(C:Bq B c):Bz B (2 - (h+c)):=by
 obtain⟨n,e,b⟩:=H.nat;obtain⟨m,f,a⟩:=C.nat;exact vT (-1) (-1) 2 e f b a (by push_cast;grind) (by decide) (by decide) (by decide)
theorem vE(C:Bq B c):Bq B (1 - c):=by
 obtain⟨m,f,a⟩:=C.nat;obtain⟨d,b,_⟩:=C;refine⟨by grind,by grind,B - m,?_⟩;rw[iQ a]
 grind
theorem yv(H:Bq B h)(C:Bq B c)(g:h<1)(b:c<1):Bq B (hb h c):=by
 obtain⟨a,_,n,e⟩:=H;obtain⟨d,_,m,f⟩:=C;unfold hb
 split
 .exact⟨by grind,by grind,n+m,by push_cast;grind⟩
 .refine⟨by grind,by grind,n+m - B,?_⟩
  have:(B:Rat)<=((n+m:Nat):Rat):=by
   push_cast
   have:=jF (show 0<=h+c - 1 by grind) (vY (n:=B))
   grind
  rw[iQ (uD this)]
  push_cast
  grind
theorem jM{a b:Rat}(A:∃ n:Nat,a*(B:Rat)=(n:Rat))(h:∃ n:Nat,b*(B:Rat)=(n:Rat))(f:0<=a)(c:0<b)(l:a<=b)(g:0<B)(T:Nat)(d:b*(B:Rat)=(T:Rat)):Bq T (a/b):=by
 obtain⟨n,e⟩:=A;refine⟨oZ f c,?_,n,?_⟩
 .have:a/b=1 - (b - a)/b:=by grind
  have:=oZ (show 0<=b - a by grind) c
  grind
 .rw[<- d,<- e]
  grind
end
theorem wr{B:Nat}{h c:Rat}(d:0<B)(H:Bq B h)(C:Bq B c)(p:h<1)(g:0<c)(s:c<1):∃ T:Nat,0<T/\T<=2*B /\
  (h+c<1->Bq T (h/(h+c))/\Bq T (c/(h+c)))/\(¬h+c<1->Bq T ((1 - c)/(2 - (h+c)))/\Bq T ((1 - h)/(2 - (h+c)))):=by
 obtain⟨n,e,r⟩:=H.nat;obtain⟨m,f,o⟩:=C.nat;obtain⟨j,_,_⟩:=H;have b:=qz d
 by_cases k:h+c<1
 .have a:(h+c)*(B:Rat)=((n+m:Nat):Rat):=by push_cast;grind
  refine⟨n+m,?_,by omega,λ_=>⟨jM ⟨n,e⟩ ⟨_,a⟩ j (by grind) (by grind) d _ a,jM ⟨m,f⟩ ⟨_,a⟩ (by grind) (by grind) (by grind) d _ a⟩,λz=>absurd k z⟩;have:(0:Rat)<(m:Rat):=by rw[<- f];exact Rat.mul_pos g b
  have:0<m:=by exact_mod_cast this
  omega
 .have a:(2 - (h+c))*(B:Rat)=((2*B - (n+m):Nat):Rat):=by rw[iQ (by omega)];push_cast;grind
  have l:(1 - c)*(B:Rat)=((B - m:Nat):Rat):=by rw[iQ (by omega)];grind
  have i:(1 - h)*(B:Rat)=((B - n:Nat):Rat):=by rw[iQ (by omega)];grind
  refine⟨2*B - (n+m),?_,by omega,λz=>absurd z k,λ_=>⟨jM ⟨_,l⟩ ⟨_,a⟩ (by grind) (by grind) (by grind) d _ a,jM ⟨_,i⟩ ⟨_,a⟩ (by grind) (by grind) (by grind) d _ a⟩⟩;have:(0:Rat)<((2*B - (n+m):Nat):Rat):=by rw[<- a];exact Rat.mul_pos (by grind) b
  exact_mod_cast this
def Pu(D:Nat)(us:Rat×Rat):Prop:=Bq D us.1/\Bq D us.2/\us.1+us.2<=1
theorem Pu.step{B D T:Nat}{h c:Rat}{us:Rat×Rat}(P:Pu D us)(o:0<=h)(m:h<1)(l:0<c)(p:c<1)(g:(h+c<1->Bq T (h/(h+c))/\Bq T (c/(h+c)))/\(¬h+c<1->Bq T ((1 - c)/(2 - (h+c)))/\Bq T ((1 - h)/(2 - (h+c))))):Pu (D*T) (dY h us c):=by
 obtain⟨a,f,i⟩:=P;unfold dY
 split
 .rename_i k
  obtain⟨b,d⟩:=g.1 k;refine⟨a.mul b,f.up T,?_⟩;have:=jF a.1 (show 0<=1 - h/(h+c) by have:=b.2.1;grind)
  grind
 .rename_i k
  obtain⟨b,d⟩:=g.2 k;have j:(1 - c)/(2 - (h+c))+(1 - h)/(2 - (h+c))=1:=by grind
  have e:us.1*((1 - h)/(2 - (h+c)))+(us.2+us.1*((1 - c)/(2 - (h+c))))=us.1+us.2:=by
   have:us.1*((1 - h)/(2 - (h+c)))+us.1*((1 - c)/(2 - (h+c)))=us.1:=by
    rw[<- Rat.mul_add,Rat.add_comm ((1 - h)/(2 - (h+c))),j];grind
   grind
  refine⟨a.mul d,(f.up T).add (a.mul b) ?_,by rw[e];exact i⟩;have:=(a.mul d).1
  grind
theorem Pu.new{T:Nat}{h c:Rat}(i:0<=h)(f:h<1)(e:0<c)(g:c<1)(b:(h+c<1->Bq T (h/(h+c))/\Bq T (c/(h+c)))/\(¬h+c<1->Bq T ((1 - c)/(2 - (h+c)))/\Bq T ((1 - h)/(2 - (h+c))))):Pu T (us0 h c):=by
 unfold us0
 split
 .rename_i k
  obtain⟨d,a⟩:=b.1 k;exact⟨a,Bq.zero,by have:=a.2.1;grind⟩
 .rename_i k
  obtain⟨d,a⟩:=b.2 k;exact⟨d,a,by grind⟩
theorem Pu.up{D:Nat}{us:Rat×Rat}(P:Pu D us)(E:Nat):Pu (E*D) us:=⟨P.1.up' E,P.2.1.up' E,P.2.2⟩
theorem Pu.bk{B D:Nat}{h c:Rat}{us:Rat×Rat}(P:Pu D us)(C:Bq B c)(H:Bq B h)(f:h<1)(g:c<1):Bq (D*B) (us.2*c)/\(0<h+c - 1->Bq B (h+c - 1)/\Bq (D*B) (us.1*(h+c - 1)))/\Bq (D*B) (bk us h c):=by
 obtain⟨a,e,l⟩:=P;have d:=e.mul C
 have b:0<h+c - 1->Bq B (h+c - 1):=λz=>by
  have:=yv H C f g;unfold hb at this;rw[if_neg (by grind)]at this;exact this
 refine⟨d,λz=>⟨b z,a.mul (b z)⟩,?_⟩;unfold Du.bk
 split
 .rename_i z
  refine d.add (a.mul (b z)) ?_;have i:=jF e.1 (show 0<=1 - c by grind);have j:=jF a.1 (show 0<=1 - (h+c - 1) by grind)
  grind
 .exact d
end Du
namespace Du
abbrev Fn:=Nat->Nat->Option Rat
def nz(f:Fn)(x y:Nat)(v:Rat):Fn:=λa b=>if a=x/\b=y then some v else f a b
abbrev Er:=List (Nat×(Rat×Rat))
def qr(p:Nat)(h c:Rat)(e:Er)(f:Fn):Fn:=e.foldl (λf z=>nz (nz f z.1 p (bk z.2 h c)) p z.1 (bk z.2 h c)) f
def jX(S:Fn×Er×Rat)(x:Nat×Rat):Fn×Er×Rat:=(qr x.1 S.2.2 x.2 S.2.1 S.1,S.2.1.map (λz=>(z.1,dY S.2.2 z.2 x.2))++[(x.1,us0 S.2.2 x.2)],hb S.2.2 x.2)
def k0:Fn×Er×Rat:=(λ_ _=>none,[],0)
def pL(L:List (Nat×Rat)):Fn:=(L.foldl jX k0).1
theorem xk{f:Fn}{x y:Nat}{v:Rat}:nz f x y v x y=some v:=if_pos ⟨rfl,rfl⟩
theorem w5{f:Fn}{x y a b:Nat}{v:Rat}(h:¬(a=x/\b=y)):nz f x y v a b=f a b:=if_neg h
theorem uY{p:Nat}{h c:Rat}{f:Fn}{z:Nat×(Rat×Rat)}{e:Er}:qr p h c (z::e) f=qr p h c e (nz (nz f z.1 p (bk z.2 h c)) p z.1 (bk z.2 h c)):=rfl
def pV(c:Rat):Bool:=decide (0<c/\c<1)
theorem unsQ_iff{c:Rat}:pV c=true↔Uns c:=decide_eq_true_iff
end Du
namespace FrM
def Fr(B:Int)(f:Int×Int):Prop:=0<=f.1/\f.1<=f.2/\0<f.2/\f.2 ∣ B
def uns(f:Int×Int):Bool:=decide (0<f.1/\f.1<f.2)
def cL(a b:Int):Int:=a/(Int.gcd a b:Int)*b
theorem uF(x y:Nat):cL (x:Int) (y:Int)=(Nat.lcm x y:Nat):=by
 unfold cL;rw[Int.gcd_natCast_natCast,<- Int.natCast_ediv,<- Int.natCast_mul,Nat.div_mul_right_comm (Nat.gcd_dvd_left x y)];rfl
theorem xD{a b B:Int}(c:0<a)(f:0<b)(g:0<B)(d:a ∣ B)(e:b ∣ B):0<cL a b/\a ∣ cL a b/\b ∣ cL a b/\cL a b ∣ B:=by
 obtain⟨x,rfl⟩:=Int.eq_ofNat_of_zero_le (Int.le_of_lt c);obtain⟨y,rfl⟩:=Int.eq_ofNat_of_zero_le (Int.le_of_lt f);obtain⟨z,rfl⟩:=Int.eq_ofNat_of_zero_le (Int.le_of_lt g);rw[uF];rw[Int.ofNat_dvd,]at d e;refine⟨?_,Int.ofNat_dvd.mpr (Nat.dvd_lcm_left x y),Int.ofNat_dvd.mpr (Nat.dvd_lcm_right x y),Int.ofNat_dvd.mpr (Nat.lcm_dvd d e)⟩;exact Int.natCast_pos.mpr (Nat.lcm_pos (Int.natCast_pos.mp c) (Int.natCast_pos.mp f))
def duA(c e:Int×Int):Int:=c.1*(cL c.2 e.2/c.2)
def duB(c e:Int×Int):Int:=e.1*(cL c.2 e.2/e.2)
def duL(c e:Int×Int):Bool:=decide (duA c e+duB c e<cL c.2 e.2)
def du1(c e:Int×Int):Int:=if duL c e=true then duA c e else cL c.2 e.2 - duB c e
def du2(c e:Int×Int):Int:=if duL c e=true then duB c e else cL c.2 e.2 - duA c e
def duR(c e:Int×Int):Int×Int:=if duL c e=true then fB (duA c e+duB c e) (cL c.2 e.2) else fB (duA c e+duB c e - cL c.2 e.2) (cL c.2 e.2)
def duE(c e:Int×Int):Int×Int:=if duL c e=true then (0,1) else (1,1)
theorem zx{c e:Int×Int}{B:Int}(p:0<B)(m:Fr B c)(o:Fr B e)(A:uns c=true)(x:uns e=true) :
  0<cL c.2 e.2/\cL c.2 e.2 ∣ B/\cL c.2 e.2<=B/\0<duA c e/\duA c e<cL c.2 e.2/\0<duB c e/\duB c e<cL c.2 e.2:=by
 obtain⟨v,⟨i,u⟩,⟨g,w⟩,l⟩:=xD m.2.2.1 o.2.2.1 p m.2.2.2 o.2.2.2;have r:0<c.1/\c.1<c.2:=of_decide_eq_true A;have j:0<e.1/\e.1<e.2:=of_decide_eq_true x;have y:cL c.2 e.2/c.2=i:=Int.ediv_eq_of_eq_mul_right (by omega) u;have s:cL c.2 e.2/e.2=g:=Int.ediv_eq_of_eq_mul_right (by omega) w
 have f:0<i:=by
  refine Int.not_le.mp λh=>?_
  have:=Int.mul_nonpos_of_nonneg_of_nonpos (a:=c.2) (b:=i) (by omega) h;omega
 have d:0<g:=by
  refine Int.not_le.mp λh=>?_
  have:=Int.mul_nonpos_of_nonneg_of_nonpos (a:=e.2) (b:=g) (by omega) h;omega
 unfold duA duB;rw[y,s];refine⟨v,l,Int.le_of_dvd p l,Int.mul_pos r.1 f,?_,Int.mul_pos j.1 d,?_⟩
 .have:=Int.mul_lt_mul_of_pos_right r.2 f
  omega
 .have:=Int.mul_lt_mul_of_pos_right j.2 d
  omega
abbrev Tl:=List (Int×(Int×Int))
def whl(f:Int×Int):Bool:=decide (f=(1,1))
def Ce(tl:Tl)(tk:List Int):Tl×List Int:=(tl.filter (λx=>uns x.2),tk++(tl.filter λx=>whl x.2).map (·.1))
def par(b:Bool)(c e:Int×Int):(Int×Int)×(Int×Int):=if b=duL c e then (duR c e,duE c e) else (duE c e,duR c e)
def nx(b:Bool):Tl->List Int->Tl×List Int
 | (p,c)::(o,e)::r,tk=>Ce ((p,(par b c e).1)::(o,(par b c e).2)::r) tk
 | [(p,_)],tk=>([],if b=true then tk++[p] else tk)
 | [],tk=>([],tk)
end FrM
namespace FrM
def un(B:Int)(f:Int×Int):Int:=f.1*(B/f.2)
def rl(g:Int->Int)(tl:Tl):Tl:=tl.map λx=>(g x.1,x.2)
end FrM
namespace FrM
theorem mI(z:List Int)(p:Nat->Bool):∀ l:List Nat,br z l=br z (l.filter p)+br z (l.filter λk=>!p k)/\l.length=(l.filter p).length+(l.filter λk=>!p k).length
 | []=>by simp[br]
 | a::l=>by
  obtain⟨c,b⟩:=mI z p l;have e:∀ r:List Nat,br z (a::r)=sz z a+br z r:=λr=>by unfold br;rw[map_cons,sum_cons]
  cases h:p a with
  | true =>
   rw[filter_cons_of_pos (by exact h),filter_cons_of_neg (by simp[h]),e,e,length_cons,length_cons];lia
  | false =>
   rw[filter_cons_of_neg (by simp[h]),filter_cons_of_pos (by simp[h]),e,e,length_cons,length_cons];lia
theorem uR{z:List Int}{l:List Nat}{w:Int}(hz:∀ k∈l,1<=sz z k)(b:w<l.length)(m:0<w):0<w - ((l.length:Int) - ((stay z l w).length:Int)):=by
 have p:=pW hz b (by lia);obtain⟨f,e⟩:=mI z (λk=>decide (sz z k*w<br z l)) l;have c:l.filter (λk=>decide (sz z k*w<br z l))=stay z l w:=rfl;rw[c]at f e;have j:=i6 z (stay z l w) λk a=>hz k (mem_filter.mp a).1
 have i:=jB z w (br z l) (l.filter λk=>!decide (sz z k*w<br z l)) λk a=>by
  have:=(mem_filter.mp a).2;simpa using this
 generalize (l.filter λk=>!decide (sz z k*w<br z l))=hi at *;have d:br z hi<=br z l - 1:=by lia
 have h:br z hi*w<=(br z l - 1)*w:=Int.mul_le_mul_of_nonneg_right d (by lia);rw[Int.sub_mul,Int.one_mul]at h;have g:(hi.length:Int)*br z l<w*br z l:=by rw[Int.mul_comm w];lia
 have o:=i6 z l hz;have r:=Int.lt_of_mul_lt_mul_right g (by lia);lia
theorem sC{z:List Int}{n:Nat}{m:Int}(hz:∀ k,k<n->1<=sz z k):∀(c:Nat) (l:List Nat) (w:Int),l.length<=c->Rnd z n m l w->0<w->0<(fin z l w).2/\∀ k∈(fin z l w).1,sz z k*(fin z l w).2<br z (fin z l w).1
 | 0,l,w,hc,h,_=>absurd h.pos (by lia)
 | c+1,l,w,hc,h,w0=>by
  by_cases e:(stay z l w).length=l.length
  .rw[m8 e]
   refine⟨w0,λk a=>?_⟩;have:=List.length_filter_eq_length_iff.mp e k a;simpa using this
  .rw[rQ e]
   have:=lN z l w;exact sC hz c _ _ (by lia) (h.step hz) (uR (λk a=>hz k (h.sub k a)) h.lt w0)
structure FrOk(f:Int×Int):Prop where
 pos:0<f.2
 lo:0<=f.1
 hi:f.1<=f.2
 bd:f.2<=576000000
 ends:¬(0<f.1/\f.1<f.2)->f=(1,1)\/f=(0,1)
theorem zZ{T B:Int}(l:0<T)(i:T<B)(h2:B<=576000000):FrOk (fB T B):=by
 have h:=lW (t:=T) (b:=B) (by lia);generalize fB T B=f at h;obtain⟨t,b⟩:=f;have a:0<b:=h.pos;have o:b<=B:=(yT (by lia) h).1;have e:t*B=T*b:=h.eq;have m:0<T*b:=Int.mul_pos l a
 have d:0<t:=by
  rcases Int.lt_or_le 0 t with g | g
  .exact g
  .exact absurd (Int.mul_nonpos_of_nonpos_of_nonneg g (show 0<=B by lia)) (by lia)
 have j:t<b:=by
  have c:T*b<B*b:=Int.mul_lt_mul_of_pos_right i a;rw[<- e,Int.mul_comm B b]at c;exact Int.lt_of_mul_lt_mul_right c (by lia)
 exact⟨a,by show 0<=t;lia,by show t<=b;lia,by show b<=576000000;lia,λg=>absurd ⟨d,j⟩ g⟩
theorem zK{z:List Int}{m:Int}(hz:∀ k,k<z.length->1<=sz z k)(i:∀ k,k<z.length->sz z k<=24000000)(j:z.length<=24)(r:0<=m):∀ f∈due z m,FrOk f:=by
 have d:FrOk (1,1):=⟨by decide,by decide,by decide,by decide,λ_=>.inl rfl⟩
 have e:FrOk (0,1):=⟨by decide,by decide,by decide,by decide,λ_=>.inr rfl⟩
 intro f a;unfold due at a
 by_cases h1:(z.length:Int)<=m
 .rw[if_pos h1]at a
  obtain⟨_,_,rfl⟩:=mem_map.mp a;exact d
 .rw[if_neg h1]at a
  by_cases h2:m=0
  .rw[if_pos h2]at a
   obtain⟨_,_,rfl⟩:=mem_map.mp a;exact e
  .rw[if_neg h2]at a
   obtain⟨k,g,rfl⟩:=mem_map.mp a;have S:=Rnd.start (z:=z) (n:=z.length) (m:=m) (by lia) (by lia);have R:=Rnd.fin hz _ _ _ (Nat.le_refl _) S;obtain⟨h,b⟩:=sC hz _ _ _ (Nat.le_refl _) S (by lia)
   by_cases hd:decide (k∈(FrM.fin z (List.range z.length) m).1)=true
   .rw[if_pos hd]
    have c:=of_decide_eq_true hd;have l:=lK z 24000000 _ λk g=>i k (R.sub k g)
    have p:=R.len;have o:=hz k (R.sub k c);exact zZ (Int.mul_pos (by lia) h) (b k c) (by lia)
   .rw[if_neg hd]
    exact d
end FrM
namespace Nst
open FrM Du
abbrev Mb:=Int×Int×List PySem.Str
def plc(ms:List Mb):List Int:=ms.map (·.1)
def szs(ms:List Mb):List Int:=ms.map (·.2.1)
def hd(m:Mb):PySem.Str:=m.2.2.headD ⟨#[]⟩
def tl(m:Mb):Mb:=(m.1,m.2.1,m.2.2.tail)
def dr:List (PySem.Str×List Mb)->PySem.Str->Mb->List (PySem.Str×List Mb)
 | [],n,m=>[(n,[m])]
 | (k,l)::r,n,m=>if k=n then (k,l++[m])::r else (k,l)::dr r n m
def groups(ms:List Mb):List (PySem.Str×List Mb):=ms.foldl (λgs m=>dr gs (hd m) (tl m)) []
theorem aW(a:List Mb)(m:Mb):groups (a++[m])=dr (groups a) (hd m) (tl m):=by
 unfold groups;rw[foldl_append];rfl
def parts(ms:List Mb):List (List Mb):=(groups ms).map (·.2)
def outer(gs:List (List Mb)):List Mb:=gs.zipIdx.map λg=>((g.2:Int),(szs g.1).sum,[])
end Nst
namespace Nst
open FrM Du PySem
theorem sum_ge{z:List Int}(h:∀ x∈z,0<=x):0<=z.sum:=by
 induction z with
 | nil=>simp
 | cons x r ih =>
  rw[sum_cons];have:=h x mem_cons_self;have:=ih λy a=>h y (mem_cons_of_mem _ a)
  lia
theorem oG{z:List Int}(h:∀ x∈z,0<=x){x:Int}(hx:x∈z):x<=z.sum:=by
 induction z with
 | nil=>cases hx
 | cons y r ih =>
  rw[sum_cons];have c:=h y mem_cons_self;have b:=sum_ge λy a=>h y (mem_cons_of_mem _ a)
  rcases mem_cons.mp hx with rfl | hx
  .lia
  .have:=ih (λy a=>h y (mem_cons_of_mem _ a)) hx
   lia
theorem pT{n:Str}{m:Mb}{p:Mb->Prop}(a:p m):∀{gs:List (Str×List Mb)},(∀ e∈gs,e.2≠[]/\∀ x∈e.2,p x)->∀ e∈dr gs n m,e.2≠[]/\∀ x∈e.2,p x
 | [],_,e,he=>by
  rw[mem_singleton.mp he];exact⟨by simp,λx b=>by rw[mem_singleton.mp b];exact a⟩
 | (k,l)::r,h,e,he=>by
  unfold dr at he
  by_cases c:k=n
  .rw[if_pos c]at he
   rcases mem_cons.mp he with rfl | he
   .refine⟨by simp,λx b=>?_⟩
    rcases mem_append.mp b with h1 | h1
    .exact(h _ (mem_cons_self ..)).2 x h1
    .rw[mem_singleton.mp h1];exact a
   .exact h e (mem_cons_of_mem _ he)
  .rw[if_neg c]at he
   rcases mem_cons.mp he with rfl | he
   .exact h _ (mem_cons_self ..)
   .exact pT a (λe he=>h e (mem_cons_of_mem _ he)) e he
def mH(f:Mb->Int)(gs:List (Str×List Mb)):Int:=(gs.map λe=>(e.2.map f).sum).sum
theorem qO(f:Mb->Int){n:Str}{m:Mb}:∀(gs:List (Str×List Mb)),mH f (dr gs n m)=mH f gs+f m
 | []=>by simp[dr,mH]
 | (k,l)::r=>by
  unfold dr
  by_cases c:k=n
  .rw[if_pos c];simp[mH];lia
  .rw[if_neg c]
   have:=qO f (n:=n) (m:=m) r;simp only[mH,map_cons,sum_cons]at *;lia
theorem aX(a:List (List Mb)):(outer a).length=a.length:=by unfold outer;rw[length_map,List.length_zipIdx]
theorem bq(a:List (List Mb)):szs (outer a)=a.map λc=>(szs c).sum:=by
 unfold szs outer;rw[map_map];show(a.zipIdx.map λg=>(g.1.map λm=>m.2.1).sum)=_;rw[show(λg:List Mb×Nat=>(g.1.map λm=>m.2.1).sum)=(λc:List Mb=>(c.map λm=>m.2.1).sum) ∘ Prod.fst from rfl,<- map_map,List.zipIdx_map_fst]
theorem bz(a:List (List Mb)):plc (outer a)=(List.range a.length).map λk:Nat=>(k:Int):=by
 unfold plc outer;rw[map_map];show(a.zipIdx.map λg=>((g.2:Nat):Int))=_;rw[show(λg:List Mb×Nat=>((g.2:Nat):Int))=(λk:Nat=>(k:Int)) ∘ Prod.snd from rfl,<- map_map,List.zipIdx_map_snd,List.range_eq_range']
end Nst
namespace Nw
open PySem Nst
inductive Pl
 | few (m:Nat)
 | start (m:Nat)
 | loose (m:Nat)
 | duel (m:Nat)
 | each (p:Pl)
 | first (p q:Pl)
def aI:Pl->Nat
 | .each p=>1+aI p
 | .first p q=>if 0<aI p then 9 else 1+aI q
 | _=>0
def okP:Nat->Pl->Prop
 | _,.few m=>m<=24
 | _,.start m=>1<=m/\m<=100
 | _,.loose m=>m<=24
 | _,.duel m=>m<=24
 | 0,.each _=>False
 | 0,.first _ _=>False
 | n+1,.each p=>okP n p
 | n+1,.first p q=>okP n p/\okP n q
def ir:Pl->Bool
 | .each _=>false
 | .first _ _=>false
 | _=>true
theorem xz{p:Pl}(h:aI p=0):ir p=true:=by
 cases p with
 | each p=>simp[aI]at h
 | first p q=>unfold aI at h;split at h <;> lia
 | _=>rfl
structure Ck(k:Nat)(ms:List Mb):Prop where
 len:ms.length<=6
 lo:∀ m∈ms,1<=m.2.1
 sum:(szs ms).sum<=54
 path:∀ m∈ms,k<=m.2.2.length/\m.2.2.length<=3
theorem kf(k:Nat):Ck k []:=⟨by decide,λm h=>(by cases h),by decide,λm h=>(by cases h)⟩
theorem Ck.down{j k:Nat}{a:List Mb}(c:j<=k)(h:Ck k a):Ck j a:=⟨h.len,h.lo,h.sum,λm b=>⟨Nat.le_trans c (h.path m b).1,(h.path m b).2⟩⟩
theorem Ck.pos{k:Nat}{a:List Mb}(h:Ck k a):∀ x∈szs a,0<=x:=λx c=>by
 obtain⟨m,b,rfl⟩:=mem_map.mp c;have:=h.lo m b;lia
theorem Ck.hi{k:Nat}{a:List Mb}(h:Ck k a):∀ x∈szs a,1<=x/\x<=54:=λx b=>by
 have e:=oG h.pos b;have d:=h.sum;obtain⟨m,c,rfl⟩:=mem_map.mp b;have:=h.lo m c
 constructor <;> lia
theorem uA(a:List Mb){p:Mb->Prop}(f:∀ m∈a,p (tl m)):∀ e∈groups a,e.2≠[]/\∀ x∈e.2,p x:=by
 have c:∀(a:List Mb) (b:List (Str×List Mb)),(∀ m∈a,p (tl m))->(∀ e∈b,e.2≠[]/\∀ x∈e.2,p x)->∀ e∈a.foldl (λb m=>dr b (hd m) (tl m)) b,e.2≠[]/\∀ x∈e.2,p x:=by
  intro a
  induction a with
  | nil=>intro b _ h;exact h
  | cons m r ih =>
   intro b d h;rw[foldl_cons];exact ih _ (λx g=>d x (mem_cons_of_mem _ g)) (pT (d m mem_cons_self) h)
 exact c a [] f (λe h=>(by cases h))
theorem ma(f:Mb->Int)(a:List Mb):mH f (groups a)=(a.map λm=>f (tl m)).sum:=by
 have c:∀(a:List Mb) (b:List (Str×List Mb)),mH f (a.foldl (λb m=>dr b (hd m) (tl m)) b)=mH f b+(a.map λm=>f (tl m)).sum:=by
  intro a
  induction a with
  | nil=>intro b;simp
  | cons m r ih =>
   intro b;rw[foldl_cons,ih,qO,map_cons,sum_cons];lia
 have h:=c a [];rw[show mH f []=0 from rfl,Int.zero_add]at h;exact h
theorem pw{n:Str}{m:Mb}{q:Int}:∀{gs:List (Str×List Mb)},(q=m.1\/∃ e∈gs,∃ x∈e.2,x.1=q)->∃ e∈dr gs n m,∃ x∈e.2,x.1=q
 | [],h=>by
  rcases h with rfl | ⟨e,he,_⟩
  .exact⟨_,mem_singleton.mpr rfl,m,mem_singleton.mpr rfl,rfl⟩
  .cases he
 | (k,l)::r,h=>by
  unfold dr
  by_cases c:k=n
  .rw[if_pos c]
   rcases h with rfl | ⟨e,he,x,d,b⟩
   .exact⟨_,mem_cons_self,m,by simp,rfl⟩
   .rcases mem_cons.mp he with rfl | he
    .exact⟨_,mem_cons_self,x,mem_append_left _ d,b⟩
    .exact⟨e,mem_cons_of_mem _ he,x,d,b⟩
  .rw[if_neg c]
   have a:(q=m.1\/∃ e∈r,∃ x∈e.2,x.1=q)->∃ e∈(k,l)::dr r n m,∃ x∈e.2,x.1=q:=λh=>by
    obtain⟨e,he,x⟩:=pw (n:=n) h;exact⟨e,mem_cons_of_mem _ he,x⟩
   rcases h with h | ⟨e,he,x,d,b⟩
   .exact a (.inl h)
   .rcases mem_cons.mp he with rfl | he
    .exact⟨_,mem_cons_self,x,d,b⟩
    .exact a (.inr ⟨e,he,x,d,b⟩)
theorem uk(a:List Mb){m:Mb}(d:m∈a):∃ e∈groups a,∃ x∈e.2,x.1=m.1:=by
 have c:∀(a:List Mb) (b:List (Str×List Mb)),((∃ x∈a,x.1=m.1)\/∃ e∈b,∃ x∈e.2,x.1=m.1)->∃ e∈a.foldl (λb m=>dr b (hd m) (tl m)) b,∃ x∈e.2,x.1=m.1:=by
  intro a
  induction a with
  | nil=>intro b h;rcases h with⟨x,hx,_⟩ | h;cases hx;exact h
  | cons y r ih =>
   intro b h;rw[foldl_cons];refine ih _ ?_
   rcases h with⟨x,hx,e⟩ | h
   .rcases mem_cons.mp hx with rfl | hx
    .exact .inr (pw (.inl (by rw[<- e];rfl)))
    .exact .inl ⟨x,hx,e⟩
   .exact .inr (pw (.inr h))
 exact c a [] (.inl ⟨m,d,rfl⟩)
theorem tj{a:Type}(l:List a):(l.map λ_=>(1:Int)).sum=(l.length:Int):=by
 induction l with
 | nil=>rfl
 | cons x r ih=>rw[map_cons,sum_cons,ih,length_cons];lia
structure Pk(k:Nat)(ms:List Mb):Prop where
 each:∀ c∈parts ms,Ck k c/\c≠[]
 len:(parts ms).length<=ms.length
 all:((parts ms).map λc=>(c.length:Int)).sum=(ms.length:Int)
 sum:((parts ms).map λc=>(szs c).sum).sum=(szs ms).sum
 mem:∀ m∈ms,∃ g∈parts ms,∃ m'∈g,m'.1=m.1
theorem wn{z:List Int}(h:∀ x∈z,1<=x):(z.length:Int)<=z.sum:=by
 induction z with
 | nil=>decide
 | cons x r ih =>
  rw[length_cons,sum_cons];have:=ih λy a=>h y (mem_cons_of_mem _ a)
  have:=h x mem_cons_self;lia
theorem jW{k:Nat}{a:List Mb}(h:Ck (k+1) a):Pk k a:=by
 have l:=uA a (p:=λx=>1<=x.2.1/\k<=x.2.2.length/\x.2.2.length<=3) λm b=>by
  have:=h.path m b;refine⟨h.lo m b,?_⟩;show k<=m.2.2.tail.length/\m.2.2.tail.length<=3;rw[List.length_tail];lia
 have j:((parts a).map λc=>(c.length:Int)).sum=(a.length:Int):=by
  have:=ma (λ_=>1) a;rw[tj]at this;unfold mH at this;unfold parts;rw[map_map,<- this]
  congr 1
  refine List.map_congr_left λe _=>?_
  exact(tj e.2).symm
 have o:((parts a).map λc=>(szs c).sum).sum=(szs a).sum:=by
  have:=ma (λm=>m.2.1) a;unfold mH at this;unfold parts szs;rw[map_map];exact this
 have i:∀ c∈parts a,∃ e∈groups a,e.2=c:=λc d=>mem_map.mp d
 have r:∀ x∈(parts a).map λc=>(c.length:Int),1<=x:=λx g=>by
  obtain⟨c,d,rfl⟩:=mem_map.mp g;obtain⟨e,f,rfl⟩:=i c d;have:=(l e f).1;have:0<e.2.length:=List.length_pos_iff.mpr this;lia
 have s:∀ x∈(parts a).map λc=>(szs c).sum,0<=x:=λx g=>by
  obtain⟨c,d,rfl⟩:=mem_map.mp g;obtain⟨e,f,rfl⟩:=i c d;refine sum_ge λy u=>?_
  obtain⟨m,b,rfl⟩:=mem_map.mp u;have:=((l e f).2 m b).1;lia
 refine⟨λc d=>?_,?_,j,o,λm b=>?_⟩
 .obtain⟨e,f,rfl⟩:=i c d
  refine⟨⟨?_,λm b=>((l e f).2 m b).1,?_,λm b=>((l e f).2 m b).2⟩,(l e f).1⟩
  .have:=oG (λx g=>by have:=r x g;lia) (mem_map.mpr ⟨e.2,d,rfl⟩)
   have:=h.len;lia
  .have:=oG s (mem_map.mpr ⟨e.2,d,rfl⟩)
   have:=h.sum;lia
 .have:=wn r
  rw[length_map,j]at this;lia
 .obtain⟨e,f,x,g,v⟩:=uk a b
  exact⟨e.2,mem_map.mpr ⟨e,f,rfl⟩,x,g,v⟩
theorem uX{k:Nat}{a:List Mb}(h:Ck (k+1) a):Ck 0 (outer (parts a)):=by
 have p:=jW h;refine⟨by rw[aX];have:=p.len;have:=h.len;lia,λm b=>?_,by rw[bq,p.sum];exact h.sum,λm b=>?_⟩
 .have:m.2.1∈szs (outer (parts a)):=mem_map.mpr ⟨m,b,rfl⟩
  rw[bq]at this;obtain⟨c,d,e⟩:=mem_map.mp this;rw[<- e];obtain⟨f,i⟩:=p.each c d;have:((szs c).length:Int)<=(szs c).sum:=wn λx j=>(f.hi x j).1
  unfold szs at this ⊢;rw[length_map]at this;have:0<c.length:=List.length_pos_iff.mpr i;lia
 .obtain⟨g,_,rfl⟩:=mem_map.mp b
  exact⟨Nat.zero_le _,by show 0<=3;decide⟩
theorem yV{a:List Mb}(h:Ck 9 a):a=[]:=by
 cases a with
 | nil=>rfl
 | cons m r=>have:=h.path m mem_cons_self;lia
theorem mq{p q:Pl}{a:List Mb}(h:Ck (aI (.first p q)) a):Pk (aI q) a/\Ck (aI p) (outer (parts a))/\(ir p=true\/parts a=[]):=by
 by_cases c:0<aI p
 .have e:aI (.first p q)=9:=by rw[aI,if_pos c]
  rw[e]at h;have:=yV h;subst this;exact⟨jW (kf _),kf _,.inr rfl⟩
 .have e:aI (.first p q)=aI q+1:=by rw[aI,if_neg c];lia
  rw[e]at h;have z:aI p=0:=by lia
  exact⟨jW h,by rw[z];exact uX h,.inl (xz z)⟩
theorem oH{p:Pl}{a:List Mb}(h:Ck (aI (.each p)) a):Pk (aI p) a:=by
 have e:aI (.each p)=aI p+1:=by rw[aI];lia
 rw[e]at h;exact jW h
theorem qM{x:Int}:∀{S:List Int},(∀ y∈S,x<=y)->(S.length:Int)*x<=S.sum
 | [],_=>by simp
 | y::S,h=>by
  have:=qM (S:=S) λz a=>h z (mem_cons_of_mem _ a)
  have:=h y mem_cons_self;rw[length_cons,sum_cons];have:(((S.length+1:Nat)):Int)*x=(S.length:Int)*x+x:=by rw[Int.natCast_add,Int.add_mul];simp
  lia
theorem wq:∀{P S:List Int},(∀ x∈P,∀ y∈S,x<=y)->(S.length:Int)*P.sum<=(P.length:Int)*S.sum
 | [],S,_=>by simp
 | x::P,S,h=>by
  have c:=wq (P:=P) λz a=>h z (mem_cons_of_mem _ a)
  have b:=qM (h x mem_cons_self);rw[length_cons,sum_cons,Int.mul_add];have:(((P.length+1:Nat)):Int)*S.sum=(P.length:Int)*S.sum+S.sum:=by rw[Int.natCast_add,Int.add_mul];simp
  lia
theorem u8{A:List Int}(s:A.Pairwise (·<=·))(f:Nat):(A.length:Int)*(A.take f).sum<=((A.take f).length:Int)*A.sum:=by
 have e:(A.take f).sum+(A.drop f).sum=A.sum:=by rw[<- sum_append,take_append_drop]
 have b:A.length=(A.take f).length+(A.drop f).length:=by rw[<- length_append,take_append_drop]
 have h:∀ x∈A.take f,∀ y∈A.drop f,x<=y:=by
  rw[<- take_append_drop f A]at s;exact(List.pairwise_append.mp s).2.2
 have:=wq h;rw[<- e,b];generalize (A.take f).length=n at *;generalize (A.drop f).length=m at *;have a:((n+m:Nat):Int)*(A.take f).sum=(n:Int)*(A.take f).sum+(m:Int)*(A.take f).sum:=by rw[Int.natCast_add,Int.add_mul]
 rw[a,Int.mul_add];lia
theorem tu{A:List Int}(s:A.Pairwise (· >= ·))(f:Nat):((A.take f).length:Int)*A.sum<=(A.length:Int)*(A.take f).sum:=by
 have e:(A.take f).sum+(A.drop f).sum=A.sum:=by rw[<- sum_append,take_append_drop]
 have c:A.length=(A.take f).length+(A.drop f).length:=by rw[<- length_append,take_append_drop]
 have h:∀ x∈A.drop f,∀ y∈A.take f,x<=y:=by
  rw[<- take_append_drop f A]at s;exact λx d y a=>(List.pairwise_append.mp s).2.2 y a x d
 have:=wq h;rw[<- e,c];generalize (A.take f).length=n at *;generalize (A.drop f).length=m at *;have b:((n+m:Nat):Int)*(A.take f).sum=(n:Int)*(A.take f).sum+(m:Int)*(A.take f).sum:=by rw[Int.natCast_add,Int.add_mul]
 rw[b,Int.mul_add];lia
theorem jA:∀{ps:List (Int×Int)},(∀ p∈ps,p.1<=p.2)->(ps.map (·.1)).sum<=(ps.map (·.2)).sum
 | [],_=>Int.le_refl _
 | p::r,h=>by
  have:=jA (ps:=r) λx a=>h x (mem_cons_of_mem _ a)
  have:=h p mem_cons_self;rw[map_cons,map_cons,sum_cons,sum_cons];lia
theorem oq{B:List Int}(h:∀ x∈B,0<=x){f m:Nat}(b:f<=m):(B.take f).sum<=(B.take m).sum:=by
 have e:B.take m=B.take f++(B.drop f).take (m - f):=by
  rw[<- List.take_add]
  congr 1
  lia
 rw[e,sum_append];have:0<=((B.drop f).take (m - f)).sum:=sum_ge λx a=>h x (List.mem_of_mem_drop (List.mem_of_mem_take a))
 lia
theorem pZ{A B:List Int}(h:A.Perm B):A.sum=B.sum:=by
 induction h with
 | nil=>rfl
 | cons x _ ih=>rw[sum_cons,sum_cons,ih]
 | swap x y l=>simp only[sum_cons];lia
 | trans _ _ h1 h2=>rw[h1,h2]
theorem uG{ps:List (Int×Int)}{A B:List Int}{f m:Nat}(h:∀ p∈ps,0<=p.1/\p.1<=p.2)(d:A.Perm (ps.map (·.1)))(s:A.Pairwise (·<=·))(c:B.Perm (ps.map (·.2)))(y:B.Pairwise (· >= ·))(r:f<=m):0<=(A.take f).sum/\(A.take f).sum<=(B.take m).sum/\(B.take m).sum<=(ps.map (·.2)).sum:=by
 have o:∀ x∈A,0<=x:=λx b=>by
  obtain⟨p,a,rfl⟩:=mem_map.mp (d.mem_iff.mp b);exact(h p a).1
 have e:∀ x∈B,0<=x:=λx b=>by
  obtain⟨p,a,rfl⟩:=mem_map.mp (c.mem_iff.mp b);have:=h p a;lia
 have F:A.length=ps.length:=by rw[d.length_eq,length_map]
 have l:B.length=ps.length:=by rw[c.length_eq,length_map]
 have E:A.sum=(ps.map (·.1)).sum:=pZ d;have j:B.sum=(ps.map (·.2)).sum:=pZ c;refine⟨sum_ge λx b=>o x (List.mem_of_mem_take b),Int.le_trans ?_ (oq e r),?_⟩
 .have i:=u8 s f
  have g:=tu y f;have u:=jA λp a=>(h p a).2
  rw[length_take,F,E]at i;rw[length_take,l,j]at g
  by_cases z:ps.length=0
  .have D:A=[]:=length_eq_zero_iff.mp (by lia)
   have w:B=[]:=length_eq_zero_iff.mp (by lia);rw[D,w];simp
  .have C:((min f ps.length:Nat):Int)*(ps.map (·.1)).sum<=((min f ps.length:Nat):Int)*(ps.map (·.2)).sum:=Int.mul_le_mul_of_nonneg_left u (by lia)
   have v:=Int.le_trans i (Int.le_trans C g);exact Int.le_of_mul_le_mul_left v (by lia)
 .rw[<- j]
  have:=oq e (f:=m) (m:=max m B.length) (Nat.le_max_left _ _);rw[take_of_length_le (Nat.le_max_right m B.length)]at this;exact this
end Nw
namespace My
open PySem L2 FrM Du
def top(i:Nat):Stmt:=PySem.Challenge.pw_fewspeak_k42_names_wanted.main.body.getD i (.Pass ⟨0,0,0,0⟩)
abbrev fi:Stmt:=aH (top 3) 0
abbrev gv:Stmt:=aH (top 5) 0
abbrev fU:Stmt:=aH (top 7) 0
abbrev bi:Stmt:=top 9
abbrev bI:Stmt:=top 10
abbrev i5:Stmt:=top 11
abbrev ki:Stmt:=top 12
abbrev iV:Stmt:=top 13
abbrev iS:Stmt:=top 14
abbrev kA:Stmt:=top 15
abbrev iY:Stmt:=top 16
abbrev eU:Stmt:=top 18
abbrev bU:Stmt:=aH (top 21) 0
abbrev cD:Stmt:=aH (top 21) 1
abbrev eg:Stmt:=aH (top 21) 2
abbrev cv:Stmt:=aH (top 22) 0
abbrev dh:Stmt:=aH (top 22) 1
abbrev eJ:Stmt:=aH (top 22) 2
abbrev di:Stmt:=aH (top 22) 6
abbrev bR:Stmt:=top 23
abbrev fZ:Stmt:=top 25
abbrev ee:Stmt:=top 27
abbrev gR:Stmt:=top 33
abbrev bG:Stmt:=top 34
abbrev d9:Stmt:=top 35
abbrev d6:Stmt:=top 36
abbrev d7:Stmt:=top 37
abbrev dD:Stmt:=top 38
abbrev dj:Stmt:=top 39
abbrev bp:Stmt:=aH (top 40) 0
abbrev cu:Stmt:=aH (top 41) 0
abbrev eR:Stmt:=aH (top 41) 1
abbrev cN:Stmt:=aH (top 41) 2
abbrev dI:Stmt:=aH (top 41) 3
abbrev dC:Stmt:=top 42
abbrev dH:Stmt:=top 43
abbrev bL:Stmt:=aH (top 44) 0
abbrev dF:Stmt:=aH (top 44) 1
abbrev bQ:Stmt:=aH (top 44) 2
abbrev cG:Stmt:=aH (top 44) 3
abbrev cP:Stmt:=top 45
abbrev bJ:Stmt:=aH (top 46) 0
abbrev dM:Stmt:=aH (top 46) 1
abbrev bP:Stmt:=aH (top 46) 2
abbrev cH:Stmt:=aH (top 46) 3
abbrev d4:Stmt:=top 47
abbrev bY:Stmt:=top 48
abbrev gS:Stmt:=top 50
abbrev bA:Stmt:=top 51
abbrev cf:Stmt:=top 52
abbrev eN:Stmt:=top 53
abbrev bB:Stmt:=top 54
abbrev cy:Stmt:=top 55
abbrev bj:Stmt:=top 56
abbrev bT:Stmt:=aH (top 57) 0
abbrev em:Stmt:=aH (top 57) 1
abbrev ce:Stmt:=aH (top 57) 2
abbrev dn:Stmt:=aH (top 57) 3
abbrev bn:Stmt:=aH (top 57) 5
abbrev bK:Stmt:=aH (top 58) 0
abbrev cM:Stmt:=aH (top 58) 1
abbrev cA:Stmt:=aH (top 58) 2
abbrev cq:Stmt:=aH (top 58) 3
abbrev ba:Stmt:=aH (top 58) 5
abbrev fJ:Stmt:=top 61
abbrev d5:Stmt:=top 62
abbrev bM:Stmt:=top 63
abbrev dA:Stmt:=top 64
abbrev dJ:Stmt:=top 65
abbrev cc:Stmt:=top 66
abbrev dq:Stmt:=top 67
abbrev bV:Stmt:=top 68
abbrev d8:Stmt:=top 69
abbrev df:Stmt:=top 70
abbrev cZ:Stmt:=top 71
abbrev bW:Stmt:=aH (top 72) 0
abbrev dZ:Stmt:=aH (top 72) 1
abbrev cY:Stmt:=aH (top 72) 2
abbrev dk:Stmt:=aH (top 72) 3
abbrev gO:Stmt:=top 74
abbrev fM:Stmt:=top 75
abbrev gM:Stmt:=top 76
abbrev gW:Stmt:=top 77
abbrev fF:Stmt:=top 78
abbrev dG:Stmt:=top 79
abbrev fK:Stmt:=top 80
abbrev eh:Stmt:=top 81
abbrev qE:Stmt:=top 82
theorem fS{N P:List Str}{e:Scope}(a:e.kind=.function)(b:e.isCoroutine=false)(c:e.isGenerator=false)(d:N.take P.length=P)(h:N.Nodup/\(∀ x∈P,e.names.lookup x = some .local \/ e.names.lookup x = some .cell)/\∀ y∈e.names,y.2≠.free):FnScope N P e:=⟨a,b,c,h.1,d,h.2.1,h.2.2⟩
theorem sc_M:FnScope ["one","other"] ["one","other"] (am bi):=fS rfl rfl rfl rfl (by decide +kernel)
theorem sc_Y:FnScope ["numbers","found","number"] ["numbers"] (am bI):=fS rfl rfl rfl rfl (by decide +kernel)
theorem sc_aa:FnScope ["top","bottom","divisor"] ["top","bottom"] (am i5):=fS rfl rfl rfl rfl (by decide +kernel)
theorem wI:FnScope ["one","other"] ["one","other"] (am ki):=fS rfl rfl rfl rfl (by decide +kernel)
theorem vM:FnScope ["one","other"] ["one","other"] (am iV):=fS rfl rfl rfl rfl (by decide +kernel)
theorem vd:FnScope ["one","other"] ["one","other"] (am iS):=fS rfl rfl rfl rfl (by decide +kernel)
theorem xC:FnScope ["one","other"] ["one","other"] (am kA):=fS rfl rfl rfl rfl (by decide +kernel)
theorem uH:FnScope ["one","other"] ["one","other"] (am iY):=fS rfl rfl rfl rfl (by decide +kernel)
theorem pX:FnScope ["thing","low","high"] ["thing","low","high"] (am eU):=fS rfl rfl rfl rfl (by decide +kernel)
theorem kE:FnScope ["self","kept"] ["self","kept"] (am bU):=fS rfl rfl rfl rfl (by decide +kernel)
theorem lh:FnScope ["self"] ["self"] (am cD):=fS rfl rfl rfl rfl (by decide +kernel)
theorem pI:FnScope ["self"] ["self"] (am eg):=fS rfl rfl rfl rfl (by decide +kernel)
theorem lx:FnScope ["self","parts"] ["self","parts"] (am cv):=fS rfl rfl rfl rfl (by decide +kernel)
theorem nu:FnScope ["self"] ["self"] (am dh):=fS rfl rfl rfl rfl (by decide +kernel)
theorem qP:FnScope ["self"] ["self"] (am eJ):=fS rfl rfl rfl rfl (by decide +kernel)
theorem mZ:FnScope ["self","carry"] ["self","carry"] (am di):=fS rfl rfl rfl rfl (by decide +kernel)
abbrev gz:Expr:=(iz (iu bR 0))
def jO:LamD:=eI ((("carried_make" : Str) ++ ".<locals>.") ++ "<lambda>") gz
theorem lu:FnScope ["make","carry"] ["make","carry"] (am bR):=fS rfl rfl rfl rfl (by decide +kernel)
abbrev kS:Expr:=(jG (iz (iu fZ 1)) 0)
def pP:LamD:=eI ((("behind" : Str) ++ ".<locals>.") ++ "<lambda>") kS
theorem tN:FnScope ["node","go"] ["node","go"] (am fZ):=fS rfl rfl rfl rfl (by decide +kernel)
theorem sc_ab:FnScope ["crowd","groups","place","size","path"] ["crowd"] (am ee):=fS rfl rfl rfl rfl (by decide +kernel)
theorem t7:FnScope ["sizes","many"] ["sizes","many"] (am gR):=fS rfl rfl rfl rfl (by decide +kernel)
theorem sc_S:FnScope ["sizes","many","left","wanted","whole","staying"] ["sizes","many"] (am bG):=fS rfl rfl rfl rfl (by decide +kernel)
theorem ph:FnScope ["crowd","many"] ["crowd","many"] (am d9):=fS rfl rfl rfl rfl (by decide +kernel)
theorem oB:FnScope ["crowd"] ["crowd"] (am d6):=fS rfl rfl rfl rfl (by decide +kernel)
theorem pv:FnScope ["many","tell"] ["many","tell"] (am d7):=fS rfl rfl rfl rfl (by decide +kernel)
theorem nL:FnScope ["one","many","tell"] ["one","many","tell"] (am dD):=fS rfl rfl rfl rfl (by decide +kernel)
theorem mG:FnScope ["thing","low","high"] ["thing","low","high"] (am dj):=fS rfl rfl rfl rfl (by decide +kernel)
theorem jl:FnScope ["self","levels"] ["self","levels"] (am bp):=fS rfl rfl rfl rfl (by decide +kernel)
theorem kW:FnScope ["self","many"] ["self","many"] (am cu):=fS rfl rfl rfl rfl (by decide +kernel)
theorem qt:FnScope ["self","crowd"] ["self","crowd"] (am eR):=fS rfl rfl rfl rfl (by decide +kernel)
abbrev io:Expr:=(jG (iz (iu cN 2)) 1)
def cX:LamD:=eI ((("Few.matrix" : Str) ++ ".<locals>.") ++ "<lambda>") io
theorem sc_m:FnScope ["self","crowd","there","wanted"] ["self","crowd"] (am cN):=fS rfl rfl rfl rfl (by decide +kernel)
theorem sc_B:FnScope ["self","crowd","wanted"] ["self","crowd"] (am dI):=fS rfl rfl rfl rfl (by decide +kernel)
abbrev jp:Expr:=(tz (tS (jG (iz (iu dC 3)) 0) 0) 1)
def nF:LamD:=eI ((("few_node" : Str) ++ ".<locals>.") ++ "<lambda>") jp
abbrev jt:Expr:=(tz (tS (jG (iz (iu dC 3)) 0) 1) 1)
def nO:LamD:=eI ((("few_node" : Str) ++ ".<locals>.") ++ "<lambda>") jt
theorem sc_P:FnScope ["ahead","wanted","taken","rest"] ["ahead","wanted","taken"] (am dC):=fS rfl rfl rfl rfl (by decide +kernel)
theorem nB:FnScope ["there","wanted","is_same"] ["there","wanted","is_same"] (am dH):=fS rfl rfl rfl rfl (by decide +kernel)
theorem j9:FnScope ["self","step"] ["self","step"] (am bL):=fS rfl rfl rfl rfl (by decide +kernel)
theorem sc_I:FnScope ["self","crowd","places","step"] ["self","crowd"] (am dF):=fS rfl rfl rfl rfl (by decide +kernel)
abbrev gp:Expr:=(jG (iz (iu bQ 1)) 1)
def bX:LamD:=eI ((("Start.matrix" : Str) ++ ".<locals>.") ++ "<lambda>") gp
theorem sc_i:FnScope ["self","crowd","step"] ["self","crowd"] (am bQ):=fS rfl rfl rfl rfl (by decide +kernel)
theorem kY:FnScope ["self","crowd"] ["self","crowd"] (am cG):=fS rfl rfl rfl rfl (by decide +kernel)
abbrev ip:Expr:=(iz (iu cP 0))
def li:LamD:=eI ((("start_make" : Str) ++ ".<locals>.") ++ "<lambda>") ip
theorem nI:FnScope ["places","step","first"] ["places","step","first"] (am cP):=fS rfl rfl rfl rfl (by decide +kernel)
theorem jY:FnScope ["self","many"] ["self","many"] (am bJ):=fS rfl rfl rfl rfl (by decide +kernel)
theorem sc_J:FnScope ["self","crowd","told","sure"] ["self","crowd"] (am dM):=fS rfl rfl rfl rfl (by decide +kernel)
abbrev gu:Expr:=(jG (iz (iu bP 1)) 1)
def bZ:LamD:=eI ((("Loose.matrix" : Str) ++ ".<locals>.") ++ "<lambda>") gu
theorem sc_j:FnScope ["self","crowd","told"] ["self","crowd"] (am bP):=fS rfl rfl rfl rfl (by decide +kernel)
theorem sc_q:FnScope ["self","crowd","told"] ["self","crowd"] (am cH):=fS rfl rfl rfl rfl (by decide +kernel)
theorem oY:FnScope ["chance"] ["chance"] (am d4):=fS rfl rfl rfl rfl (by decide +kernel)
abbrev iq:Expr:=(tz (tS (jG (iz (iu bY 3)) 0) 0) 1)
def lC:LamD:=eI ((("loose_node" : Str) ++ ".<locals>.") ++ "<lambda>") iq
abbrev im:Expr:=(tz (tS (jG (iz (iu bY 3)) 0) 1) 1)
def lE:LamD:=eI ((("loose_node" : Str) ++ ".<locals>.") ++ "<lambda>") im
theorem sc_C:FnScope ["ahead","taken","place","chance","rest"] ["ahead","taken"] (am bY):=fS rfl rfl rfl rfl (by decide +kernel)
theorem oe:FnScope ["crowd"] ["crowd"] (am gS):=fS rfl rfl rfl rfl (by decide +kernel)
theorem jC:FnScope ["groups"] ["groups"] (am bA):=fS rfl rfl rfl rfl (by decide +kernel)
abbrev gX:Expr:=(jG (iz (iu cf 1)) 1)
def cx:LamD:=eI ((("groups_node" : Str) ++ ".<locals>.") ++ "<lambda>") gX
theorem sc_k:FnScope ["plan","groups","taken"] ["plan","groups","taken"] (am cf):=fS rfl rfl rfl rfl (by decide +kernel)
theorem sc_aA:FnScope ["crowd","groups","spots","number","members","standing","member"] ["crowd","groups"] (am eN):=fS rfl rfl rfl rfl (by decide +kernel)
abbrev fN:Expr:=(jG (iz (iu bB 2)) 1)
def bO:LamD:=eI ((("groups_matrix" : Str) ++ ".<locals>.") ++ "<lambda>") fN
theorem sc_d:FnScope ["plan","crowd","groups","outer","blocks","spots"] ["plan","crowd","groups","outer"] (am bB):=fS rfl rfl rfl rfl (by decide +kernel)
theorem sc_ac:FnScope ["blocks","outer","one","other","group","place","its_group","its_place","within"] ["blocks","outer","one","other"] (am cy):=fS rfl rfl rfl rfl (by decide +kernel)
theorem jm:FnScope ["levels"] ["levels"] (am bj):=fS rfl rfl rfl rfl (by decide +kernel)
theorem kh:FnScope ["self","inside"] ["self","inside"] (am bT):=fS rfl rfl rfl rfl (by decide +kernel)
theorem jT:FnScope ["self","crowd"] ["self","crowd"] (am em):=fS rfl rfl rfl rfl (by decide +kernel)
abbrev gZ:Expr:=(jG (BF (iu ce 1)) 1)
def bH:LamD:=eI ((("Each.matrix" : Str) ++ ".<locals>.") ++ "<lambda>") gZ
theorem sc_b:FnScope ["self","crowd","groups","all_drawn"] ["self","crowd"] (am ce):=fS rfl rfl rfl rfl (by decide +kernel)
theorem sc_l:FnScope ["self","crowd","told"] ["self","crowd"] (am dn):=fS rfl rfl rfl rfl (by decide +kernel)
theorem jj:FnScope ["self","levels"] ["self","levels"] (am bn):=fS rfl rfl rfl rfl (by decide +kernel)
theorem j3:FnScope ["self","outside","inside"] ["self","outside","inside"] (am bK):=fS rfl rfl rfl rfl (by decide +kernel)
abbrev ik:Expr:=(jG (iz (iu cM 3)) 1)
def bC:LamD:=eI ((("First.node" : Str) ++ ".<locals>.") ++ "<lambda>") ik
theorem sc_c:FnScope ["self","crowd","groups","inside","outer"] ["self","crowd"] (am cM):=fS rfl rfl rfl rfl (by decide +kernel)
theorem sc_n:FnScope ["self","crowd","groups"] ["self","crowd"] (am cA):=fS rfl rfl rfl rfl (by decide +kernel)
theorem sc_e:FnScope ["self","crowd","groups","fewest","most","told","lows","highs"] ["self","crowd"] (am cq):=fS rfl rfl rfl rfl (by decide +kernel)
theorem iH:FnScope ["self","levels"] ["self","levels"] (am ba):=fS rfl rfl rfl rfl (by decide +kernel)
theorem sc_aI:FnScope ["told","taken","sure"] ["told","taken"] (am fJ):=fS rfl rfl rfl rfl (by decide +kernel)
theorem sc_au:FnScope ["told","taken","place","chance","other","its_chance"] ["told","taken"] (am d5):=fS rfl rfl rfl rfl (by decide +kernel)
abbrev gy:Expr:=(iz (iu bM 0))
def jS:LamD:=eI ((("settled_make" : Str) ++ ".<locals>.") ++ "<lambda>") gy
theorem lq:FnScope ["told","taken"] ["told","taken"] (am bM):=fS rfl rfl rfl rfl (by decide +kernel)
abbrev jv:Expr:=(tz (tS (jG (iz (iu dA 1)) 0) 0) 1)
def nv:LamD:=eI ((("last_die" : Str) ++ ".<locals>.") ++ "<lambda>") jv
abbrev jq:Expr:=(tz (tS (jG (iz (iu dA 1)) 0) 1) 1)
def nD:LamD:=eI ((("last_die" : Str) ++ ".<locals>.") ++ "<lambda>") jq
theorem sc_O:FnScope ["last","taken","place","chance"] ["last","taken"] (am dA):=fS rfl rfl rfl rfl (by decide +kernel)
theorem sc_ao:FnScope ["one","other","bottom","top","its_top","left"] ["one","other"] (am dJ):=fS rfl rfl rfl rfl (by decide +kernel)
abbrev gN:Expr:=(jG (iz (iu cc 2)) 1)
def cJ:LamD:=eI ((("duel_matrix" : Str) ++ ".<locals>.") ++ "<lambda>") gN
theorem sc_x:FnScope ["shares","order","told","found"] ["shares","order"] (am cc):=fS rfl rfl rfl rfl (by decide +kernel)
theorem lR:FnScope ["told","found","one","other"] ["told","found","one","other"] (am dq):=fS rfl rfl rfl rfl (by decide +kernel)
theorem sc_R:FnScope ["told","found","earlier","held","place","chance","one","up","sure"] ["told"] (am bV):=fS rfl rfl rfl rfl (by decide +kernel)
theorem sc_ax:FnScope ["up","sure","held","chance","spare","when_sure"] ["up","sure","held","chance"] (am d8):=fS rfl rfl rfl rfl (by decide +kernel)
theorem sc_ar:FnScope ["held","chance","reached"] ["held","chance"] (am df):=fS rfl rfl rfl rfl (by decide +kernel)
theorem sc_ae:FnScope ["earlier","held","place","chance","reached","stays","lasting","lacking","ahead","back"] ["earlier","held","place","chance"] (am cZ):=fS rfl rfl rfl rfl (by decide +kernel)
theorem kj:FnScope ["self","many"] ["self","many"] (am bW):=fS rfl rfl rfl rfl (by decide +kernel)
theorem oQ:FnScope ["self","crowd"] ["self","crowd"] (am dZ):=fS rfl rfl rfl rfl (by decide +kernel)
theorem lS:FnScope ["self","crowd"] ["self","crowd"] (am cY):=fS rfl rfl rfl rfl (by decide +kernel)
theorem sc_v:FnScope ["self","crowd","wanted"] ["self","crowd"] (am dk):=fS rfl rfl rfl rfl (by decide +kernel)
theorem tK:FnScope ["_law_script","_law_k"] ["_law_script","_law_k"] (am gO):=fS rfl rfl rfl rfl (by decide +kernel)
theorem sc_ak:FnScope ["_law_cell_here","_law_k","_law_number"] ["_law_cell_here","_law_k"] (am fM):=fS rfl rfl rfl rfl (by decide +kernel)
theorem sc_at:FnScope ["_law_number","_law_deep","_law_wide","_law_way","_law_one","_law_other"] ["_law_number","_law_deep","_law_wide"] (am gM):=fS rfl rfl rfl rfl (by decide +kernel)
theorem tY:FnScope ["_law_tree_here"] ["_law_tree_here"] (am gW):=fS rfl rfl rfl rfl (by decide +kernel)
theorem rj:FnScope ["_law_tree_here"] ["_law_tree_here"] (am fF):=fS rfl rfl rfl rfl (by decide +kernel)
theorem sc_aj:FnScope ["_law_plan_here","_law_way","_law_thing","_law_error","e"] ["_law_plan_here","_law_way","_law_thing"] (am dG):=fS rfl rfl rfl rfl (by decide +kernel)
theorem sc_aE:FnScope ["_law_cell_here","_law_levels","_law_crowd_here","_law_k","_law_number","_law_path"] ["_law_cell_here","_law_levels"] (am fK):=fS rfl rfl rfl rfl (by decide +kernel)
theorem sc_ay:FnScope ["_law_plan_here","_law_crowd_here","_law_found","_law_limits"] ["_law_plan_here","_law_crowd_here"] (am eh):=fS rfl rfl rfl rfl (by decide +kernel)
theorem sc_aP:FnScope ["_law_script","_law_k","_law_cell_here","_law_number","_law_tree_here","_law_plan_here","_law_levels","_law_enough","_law_crowd_here","_law_way"] ["_law_script"] (am qE):=fS rfl rfl rfl rfl (by decide +kernel)
def vG(K:Frag)(D C:Addr):Bool:=mroIn K D (.ref C) == some true
set_option genInjectivity false in
set_option genSizeOf false in
structure Ad where
 f_M:Addr
 d_M:FuncData
 f_Y:Addr
 d_Y:FuncData
 f_aa:Addr
 d_aa:FuncData
 f_aJ:Addr
 d_aJ:FuncData
 f_aD:Addr
 d_aD:FuncData
 f_ap:Addr
 d_ap:FuncData
 f_aM:Addr
 d_aM:FuncData
 f_aK:Addr
 d_aK:FuncData
 f_aH:Addr
 d_aH:FuncData
 f_y:Addr
 d_y:FuncData
 f_T:Addr
 d_T:FuncData
 f_ab:Addr
 d_ab:FuncData
 f_aN:Addr
 d_aN:FuncData
 f_S:Addr
 d_S:FuncData
 f_Z:Addr
 d_Z:FuncData
 f_ag:Addr
 d_ag:FuncData
 f_K:Addr
 d_K:FuncData
 f_aB:Addr
 d_aB:FuncData
 f_V:Addr
 d_V:FuncData
 f_P:Addr
 d_P:FuncData
 f_aC:Addr
 d_aC:FuncData
 f_E:Addr
 d_E:FuncData
 f_aq:Addr
 d_aq:FuncData
 f_C:Addr
 d_C:FuncData
 f_N:Addr
 d_N:FuncData
 f_a:Addr
 d_a:FuncData
 f_k:Addr
 d_k:FuncData
 f_aA:Addr
 d_aA:FuncData
 f_d:Addr
 d_d:FuncData
 f_ac:Addr
 d_ac:FuncData
 f_U:Addr
 d_U:FuncData
 f_aI:Addr
 d_aI:FuncData
 f_au:Addr
 d_au:FuncData
 f_z:Addr
 d_z:FuncData
 f_O:Addr
 d_O:FuncData
 f_ao:Addr
 d_ao:FuncData
 f_x:Addr
 d_x:FuncData
 f_av:Addr
 d_av:FuncData
 f_R:Addr
 d_R:FuncData
 f_ax:Addr
 d_ax:FuncData
 f_ar:Addr
 d_ar:FuncData
 f_ae:Addr
 d_ae:FuncData
 f_aO:Addr
 d_aO:FuncData
 f_ak:Addr
 d_ak:FuncData
 f_at:Addr
 d_at:FuncData
 f_az:Addr
 d_az:FuncData
 f_as:Addr
 d_as:FuncData
 f_aj:Addr
 d_aj:FuncData
 f_aE:Addr
 d_aE:FuncData
 f_ay:Addr
 d_ay:FuncData
 f_aP:Addr
 d_aP:FuncData
 c_ai:Addr
 c_F:Addr
 i_F:Addr
 e_F:FuncData
 c_aF:Addr
 c_af:Addr
 i_af:Addr
 e_af:FuncData
 c_L:Addr
 c_X:Addr
 i_X:Addr
 e_X:FuncData
 c_aG:Addr
 c_s:Addr
 i_s:Addr
 e_s:FuncData
 c_G:Addr
 i_G:Addr
 e_G:FuncData
 c_aL:Addr
 c_Q:Addr
 i_Q:Addr
 e_Q:FuncData
 c_o:Addr
 i_o:Addr
 e_o:FuncData
 c_p:Addr
 i_p:Addr
 e_p:FuncData
 c_t:Addr
 i_t:Addr
 e_t:FuncData
 c_g:Addr
 i_g:Addr
 e_g:FuncData
 c_A:Addr
 i_A:Addr
 e_A:FuncData
 x_ah:Addr
 y_ah:FuncData
 x_am:Addr
 y_am:FuncData
 x_al:Addr
 y_al:FuncData
 x_aw:Addr
 y_aw:FuncData
 x_an:Addr
 y_an:FuncData
 x_ad:Addr
 y_ad:FuncData
 x_I:Addr
 y_I:FuncData
 x_J:Addr
 y_J:FuncData
 x_W:Addr
 y_W:FuncData
 x_D:Addr
 y_D:FuncData
 x_c:Addr
 y_c:FuncData
 x_m:Addr
 y_m:FuncData
 x_i:Addr
 y_i:FuncData
 x_j:Addr
 y_j:FuncData
 x_H:Addr
 y_H:FuncData
 x_b:Addr
 y_b:FuncData
 x_n:Addr
 y_n:FuncData
 x_B:Addr
 y_B:FuncData
 x_u:Addr
 y_u:FuncData
 x_q:Addr
 y_q:FuncData
 x_v:Addr
 y_v:FuncData
 x_l:Addr
 y_l:FuncData
 x_e:Addr
 y_e:FuncData
 x_h:Addr
 y_h:FuncData
 x_w:Addr
 y_w:FuncData
 x_r:Addr
 y_r:FuncData
 k_NOUGHT:Addr
 k_WHOLE:Addr
 k_TWICE:Addr
 lc_x:Addr
 lp_x:Addr
 lc_O:Addr
 lp_O:Addr
 lc_z:Addr
 lp_z:Addr
 lc_c:Addr
 lp_c:Addr
 lc_d:Addr
 lp_d:Addr
 lc_b:Addr
 lp_b:Addr
 lc_T:Addr
 lp_T:Addr
 lc_k:Addr
 lp_k:Addr
 lc_j:Addr
 lp_j:Addr
 lc_C:Addr
 lp_C:Addr
 lc_i:Addr
 lp_i:Addr
 lc_E:Addr
 lp_E:Addr
 lc_m:Addr
 lp_m:Addr
 lc_y:Addr
 lp_y:Addr
 lc_P:Addr
 lp_P:Addr
abbrev fX:List (Pos×Str):=[(iw gN,((("duel_matrix" : Str) ++ ".<locals>.") ++ "<lambda>"))]
theorem mr:(fX).Pairwise λx y=>¬(x.1.line=y.1.line/\x.1.col=y.1.col):=by decide +kernel
abbrev iR:List (Pos×Str):=[(iw jv,((("last_die" : Str) ++ ".<locals>.") ++ "<lambda>")),(iw jq,((("last_die" : Str) ++ ".<locals>.") ++ "<lambda>"))]
theorem kJ:(iR).Pairwise λx y=>¬(x.1.line=y.1.line/\x.1.col=y.1.col):=by decide +kernel
abbrev fj:List (Pos×Str):=[(iw gy,((("settled_make" : Str) ++ ".<locals>.") ++ "<lambda>"))]
theorem lv:(fj).Pairwise λx y=>¬(x.1.line=y.1.line/\x.1.col=y.1.col):=by decide +kernel
abbrev gE:List (Pos×Str):=[(iw ik,((("First.node" : Str) ++ ".<locals>.") ++ "<lambda>"))]
theorem js:(gE).Pairwise λx y=>¬(x.1.line=y.1.line/\x.1.col=y.1.col):=by decide +kernel
abbrev eM:List (Pos×Str):=[(iw fN,((("groups_matrix" : Str) ++ ".<locals>.") ++ "<lambda>"))]
theorem km:(eM).Pairwise λx y=>¬(x.1.line=y.1.line/\x.1.col=y.1.col):=by decide +kernel
abbrev fP:List (Pos×Str):=[(iw gZ,((("Each.matrix" : Str) ++ ".<locals>.") ++ "<lambda>"))]
theorem iL:(fP).Pairwise λx y=>¬(x.1.line=y.1.line/\x.1.col=y.1.col):=by decide +kernel
abbrev kq:List (Pos×Str):=[(iw kS,((("behind" : Str) ++ ".<locals>.") ++ "<lambda>"))]
theorem tM:(kq).Pairwise λx y=>¬(x.1.line=y.1.line/\x.1.col=y.1.col):=by decide +kernel
abbrev fW:List (Pos×Str):=[(iw gX,((("groups_node" : Str) ++ ".<locals>.") ++ "<lambda>"))]
theorem mU:(fW).Pairwise λx y=>¬(x.1.line=y.1.line/\x.1.col=y.1.col):=by decide +kernel
abbrev fu:List (Pos×Str):=[(iw gu,((("Loose.matrix" : Str) ++ ".<locals>.") ++ "<lambda>"))]
theorem lp:(fu).Pairwise λx y=>¬(x.1.line=y.1.line/\x.1.col=y.1.col):=by decide +kernel
abbrev gI:List (Pos×Str):=[(iw iq,((("loose_node" : Str) ++ ".<locals>.") ++ "<lambda>")),(iw im,((("loose_node" : Str) ++ ".<locals>.") ++ "<lambda>"))]
theorem jz:(gI).Pairwise λx y=>¬(x.1.line=y.1.line/\x.1.col=y.1.col):=by decide +kernel
abbrev fq:List (Pos×Str):=[(iw gp,((("Start.matrix" : Str) ++ ".<locals>.") ++ "<lambda>"))]
theorem lj:(fq).Pairwise λx y=>¬(x.1.line=y.1.line/\x.1.col=y.1.col):=by decide +kernel
abbrev gG:List (Pos×Str):=[(iw ip,((("start_make" : Str) ++ ".<locals>.") ++ "<lambda>"))]
theorem nM:(gG).Pairwise λx y=>¬(x.1.line=y.1.line/\x.1.col=y.1.col):=by decide +kernel
abbrev gH:List (Pos×Str):=[(iw io,((("Few.matrix" : Str) ++ ".<locals>.") ++ "<lambda>"))]
theorem nA:(gH).Pairwise λx y=>¬(x.1.line=y.1.line/\x.1.col=y.1.col):=by decide +kernel
abbrev fm:List (Pos×Str):=[(iw gz,((("carried_make" : Str) ++ ".<locals>.") ++ "<lambda>"))]
theorem ln:(fm).Pairwise λx y=>¬(x.1.line=y.1.line/\x.1.col=y.1.col):=by decide +kernel
abbrev iO:List (Pos×Str):=[(iw jp,((("few_node" : Str) ++ ".<locals>.") ++ "<lambda>")),(iw jt,((("few_node" : Str) ++ ".<locals>.") ++ "<lambda>"))]
theorem kQ:(iO).Pairwise λx y=>¬(x.1.line=y.1.line/\x.1.col=y.1.col):=by decide +kernel
def tabs(a:Ad):rV:=[(a.lp_x,fX),(a.lp_O,iR),(a.lp_z,fj),(a.lp_c,gE),(a.lp_d,eM),(a.lp_b,fP),(a.lp_T,kq),(a.lp_k,fW),(a.lp_j,fu),(a.lp_C,gI),(a.lp_i,fq),(a.lp_E,gG),(a.lp_m,gH),(a.lp_y,fm),(a.lp_P,iO)]
theorem lX(a:Ad):(a.lp_x,fX)∈tabs a:=(.head _)
theorem kP(a:Ad):(a.lp_O,iR)∈tabs a:=(.tail _ (.head _))
theorem kU(a:Ad):(a.lp_z,fj)∈tabs a:=(.tail _ (.tail _ (.head _)))
theorem jw(a:Ad):(a.lp_c,gE)∈tabs a:=(.tail _ (.tail _ (.tail _ (.head _))))
theorem kH(a:Ad):(a.lp_d,eM)∈tabs a:=(.tail _ (.tail _ (.tail _ (.tail _ (.head _)))))
theorem iC(a:Ad):(a.lp_b,fP)∈tabs a:=(.tail _ (.tail _ (.tail _ (.tail _ (.tail _ (.head _))))))
theorem tD(a:Ad):(a.lp_T,kq)∈tabs a:=(.tail _ (.tail _ (.tail _ (.tail _ (.tail _ (.tail _ (.head _)))))))
theorem mV(a:Ad):(a.lp_k,fW)∈tabs a:=(.tail _ (.tail _ (.tail _ (.tail _ (.tail _ (.tail _ (.tail _ (.head _))))))))
theorem lz(a:Ad):(a.lp_j,fu)∈tabs a:=(.tail _ (.tail _ (.tail _ (.tail _ (.tail _ (.tail _ (.tail _ (.tail _ (.head _)))))))))
theorem jx(a:Ad):(a.lp_C,gI)∈tabs a:=(.tail _ (.tail _ (.tail _ (.tail _ (.tail _ (.tail _ (.tail _ (.tail _ (.tail _ (.head _))))))))))
theorem kX(a:Ad):(a.lp_i,fq)∈tabs a:=(.tail _ (.tail _ (.tail _ (.tail _ (.tail _ (.tail _ (.tail _ (.tail _ (.tail _ (.tail _ (.head _)))))))))))
theorem ny(a:Ad):(a.lp_E,gG)∈tabs a:=(.tail _ (.tail _ (.tail _ (.tail _ (.tail _ (.tail _ (.tail _ (.tail _ (.tail _ (.tail _ (.tail _ (.head _))))))))))))
theorem nK(a:Ad):(a.lp_m,gH)∈tabs a:=(.tail _ (.tail _ (.tail _ (.tail _ (.tail _ (.tail _ (.tail _ (.tail _ (.tail _ (.tail _ (.tail _ (.tail _ (.head _)))))))))))))
theorem ll(a:Ad):(a.lp_y,fm)∈tabs a:=(.tail _ (.tail _ (.tail _ (.tail _ (.tail _ (.tail _ (.tail _ (.tail _ (.tail _ (.tail _ (.tail _ (.tail _ (.tail _ (.head _))))))))))))))
theorem kR(a:Ad):(a.lp_P,iO)∈tabs a:=(.tail _ (.tail _ (.tail _ (.tail _ (.tail _ (.tail _ (.tail _ (.tail _ (.tail _ (.tail _ (.tail _ (.tail _ (.tail _ (.tail _ (.head _)))))))))))))))
structure Txt(K:Frag)(mg:Str->Option Value)(a:Ad):Prop where
 lcd_x:a.d_x.code=.ref a.lc_x
 lch_x:codeHdIn K a.lc_x a.lp_x=true
 lcd_O:a.d_O.code=.ref a.lc_O
 lch_O:codeHdIn K a.lc_O a.lp_O=true
 lcd_z:a.d_z.code=.ref a.lc_z
 lch_z:codeHdIn K a.lc_z a.lp_z=true
 lcd_c:a.y_c.code=.ref a.lc_c
 lch_c:codeHdIn K a.lc_c a.lp_c=true
 lcd_d:a.d_d.code=.ref a.lc_d
 lch_d:codeHdIn K a.lc_d a.lp_d=true
 lcd_b:a.y_b.code=.ref a.lc_b
 lch_b:codeHdIn K a.lc_b a.lp_b=true
 lcd_T:a.d_T.code=.ref a.lc_T
 lch_T:codeHdIn K a.lc_T a.lp_T=true
 lcd_k:a.d_k.code=.ref a.lc_k
 lch_k:codeHdIn K a.lc_k a.lp_k=true
 lcd_j:a.y_j.code=.ref a.lc_j
 lch_j:codeHdIn K a.lc_j a.lp_j=true
 lcd_C:a.d_C.code=.ref a.lc_C
 lch_C:codeHdIn K a.lc_C a.lp_C=true
 lcd_i:a.y_i.code=.ref a.lc_i
 lch_i:codeHdIn K a.lc_i a.lp_i=true
 lcd_E:a.d_E.code=.ref a.lc_E
 lch_E:codeHdIn K a.lc_E a.lp_E=true
 lcd_m:a.y_m.code=.ref a.lc_m
 lch_m:codeHdIn K a.lc_m a.lp_m=true
 lcd_y:a.d_y.code=.ref a.lc_y
 lch_y:codeHdIn K a.lc_y a.lp_y=true
 lcd_P:a.d_P.code=.ref a.lc_P
 lch_P:codeHdIn K a.lc_P a.lp_P=true
 tnd:((tabs a).map (·.1)).Nodup
 F_M:Fun K "greatest_divisor" "greatest_divisor" bi a.f_M a.d_M
 B_M:Binds K a.d_M ["one","other"] []
 m_M:mg "greatest_divisor" = some (.ref a.f_M)
 F_Y:Fun K "least_multiple" "least_multiple" bI a.f_Y a.d_Y
 B_Y:Binds K a.d_Y ["numbers"] []
 m_Y:mg "least_multiple" = some (.ref a.f_Y)
 F_aa:Fun K "share" "share" i5 a.f_aa a.d_aa
 B_aa:Binds K a.d_aa ["top","bottom"] []
 m_aa:mg "share" = some (.ref a.f_aa)
 F_aJ:Fun K "plus" "plus" ki a.f_aJ a.d_aJ
 B_aJ:Binds K a.d_aJ ["one","other"] []
 m_aJ:mg "plus" = some (.ref a.f_aJ)
 F_aD:Fun K "minus" "minus" iV a.f_aD a.d_aD
 B_aD:Binds K a.d_aD ["one","other"] []
 m_aD:mg "minus" = some (.ref a.f_aD)
 F_ap:Fun K "times" "times" iS a.f_ap a.d_ap
 B_ap:Binds K a.d_ap ["one","other"] []
 m_ap:mg "times" = some (.ref a.f_ap)
 F_aM:Fun K "over" "over" kA a.f_aM a.d_aM
 B_aM:Binds K a.d_aM ["one","other"] []
 m_aM:mg "over" = some (.ref a.f_aM)
 F_aK:Fun K "below" "below" iY a.f_aK a.d_aK
 B_aK:Binds K a.d_aK ["one","other"] []
 m_aK:mg "below" = some (.ref a.f_aK)
 F_aH:Fun K "is_whole" "is_whole" eU a.f_aH a.d_aH
 B_aH:Binds K a.d_aH ["thing","low","high"] []
 m_aH:mg "is_whole" = some (.ref a.f_aH)
 F_y:Fun K "carried_make" "carried_make" bR a.f_y a.d_y
 B_y:Binds K a.d_y ["make","carry"] []
 m_y:mg "carried_make" = some (.ref a.f_y)
 F_T:Fun K "behind" "behind" fZ a.f_T a.d_T
 B_T:Binds K a.d_T ["node","go"] []
 m_T:mg "behind" = some (.ref a.f_T)
 F_ab:Fun K "groups_of" "groups_of" ee a.f_ab a.d_ab
 B_ab:Binds K a.d_ab ["crowd"] []
 m_ab:mg "groups_of" = some (.ref a.f_ab)
 F_aN:Fun K "wished" "wished" gR a.f_aN a.d_aN
 B_aN:Binds K a.d_aN ["sizes","many"] []
 m_aN:mg "wished" = some (.ref a.f_aN)
 F_S:Fun K "wished_of_some" "wished_of_some" bG a.f_S a.d_S
 B_S:Binds K a.d_S ["sizes","many"] []
 m_S:mg "wished_of_some" = some (.ref a.f_S)
 F_Z:Fun K "wished_by" "wished_by" d9 a.f_Z a.d_Z
 B_Z:Binds K a.d_Z ["crowd","many"] []
 m_Z:mg "wished_by" = some (.ref a.f_Z)
 F_ag:Fun K "places_of" "places_of" d6 a.f_ag a.d_ag
 B_ag:Binds K a.d_ag ["crowd"] []
 m_ag:mg "places_of" = some (.ref a.f_ag)
 F_K:Fun K "matrix_by" "matrix_by" d7 a.f_K a.d_K
 B_K:Binds K a.d_K ["many","tell"] []
 m_K:mg "matrix_by" = some (.ref a.f_K)
 F_aB:Fun K "matrix_row" "matrix_row" dD a.f_aB a.d_aB
 B_aB:Binds K a.d_aB ["one","many","tell"] []
 m_aB:mg "matrix_row" = some (.ref a.f_aB)
 F_V:Fun K "need_number" "need_number" dj a.f_V a.d_V
 B_V:Binds K a.d_V ["thing","low","high"] []
 m_V:mg "need_number" = some (.ref a.f_V)
 F_P:Fun K "few_node" "few_node" dC a.f_P a.d_P
 B_P:Binds K a.d_P ["ahead","wanted","taken"] []
 m_P:mg "few_node" = some (.ref a.f_P)
 F_aC:Fun K "few_chance" "few_chance" dH a.f_aC a.d_aC
 B_aC:Binds K a.d_aC ["there","wanted","is_same"] []
 m_aC:mg "few_chance" = some (.ref a.f_aC)
 F_E:Fun K "start_make" "start_make" cP a.f_E a.d_E
 B_E:Binds K a.d_E ["places","step","first"] []
 m_E:mg "start_make" = some (.ref a.f_E)
 F_aq:Fun K "is_unsure" "is_unsure" d4 a.f_aq a.d_aq
 B_aq:Binds K a.d_aq ["chance"] []
 m_aq:mg "is_unsure" = some (.ref a.f_aq)
 F_C:Fun K "loose_node" "loose_node" bY a.f_C a.d_C
 B_C:Binds K a.d_C ["ahead","taken"] []
 m_C:mg "loose_node" = some (.ref a.f_C)
 F_N:Fun K "parted" "parted" gS a.f_N a.d_N
 B_N:Binds K a.d_N ["crowd"] []
 m_N:mg "parted" = some (.ref a.f_N)
 F_a:Fun K "crowd_of_groups" "crowd_of_groups" bA a.f_a a.d_a
 B_a:Binds K a.d_a ["groups"] []
 m_a:mg "crowd_of_groups" = some (.ref a.f_a)
 F_k:Fun K "groups_node" "groups_node" cf a.f_k a.d_k
 B_k:Binds K a.d_k ["plan","groups","taken"] []
 m_k:mg "groups_node" = some (.ref a.f_k)
 F_aA:Fun K "spots_of" "spots_of" eN a.f_aA a.d_aA
 B_aA:Binds K a.d_aA ["crowd","groups"] []
 m_aA:mg "spots_of" = some (.ref a.f_aA)
 F_d:Fun K "groups_matrix" "groups_matrix" bB a.f_d a.d_d
 B_d:Binds K a.d_d ["plan","crowd","groups","outer"] []
 m_d:mg "groups_matrix" = some (.ref a.f_d)
 F_ac:Fun K "spots_chance" "spots_chance" cy a.f_ac a.d_ac
 B_ac:Binds K a.d_ac ["blocks","outer","one","other"] []
 m_ac:mg "spots_chance" = some (.ref a.f_ac)
 F_U:Fun K "need_group_names" "need_group_names" bj a.f_U a.d_U
 B_U:Binds K a.d_U ["levels"] []
 m_U:mg "need_group_names" = some (.ref a.f_U)
 F_aI:Fun K "settled" "settled" fJ a.f_aI a.d_aI
 B_aI:Binds K a.d_aI ["told","taken"] []
 m_aI:mg "settled" = some (.ref a.f_aI)
 F_au:Fun K "open_node" "open_node" d5 a.f_au a.d_au
 B_au:Binds K a.d_au ["told","taken"] []
 m_au:mg "open_node" = some (.ref a.f_au)
 F_z:Fun K "settled_make" "settled_make" bM a.f_z a.d_z
 B_z:Binds K a.d_z ["told","taken"] []
 m_z:mg "settled_make" = some (.ref a.f_z)
 F_O:Fun K "last_die" "last_die" dA a.f_O a.d_O
 B_O:Binds K a.d_O ["last","taken"] []
 m_O:mg "last_die" = some (.ref a.f_O)
 F_ao:Fun K "duel_parts" "duel_parts" dJ a.f_ao a.d_ao
 B_ao:Binds K a.d_ao ["one","other"] []
 m_ao:mg "duel_parts" = some (.ref a.f_ao)
 F_x:Fun K "duel_matrix" "duel_matrix" cc a.f_x a.d_x
 B_x:Binds K a.d_x ["shares","order"] []
 m_x:mg "duel_matrix" = some (.ref a.f_x)
 F_av:Fun K "pair_chance" "pair_chance" dq a.f_av a.d_av
 B_av:Binds K a.d_av ["told","found","one","other"] []
 m_av:mg "pair_chance" = some (.ref a.f_av)
 F_R:Fun K "kept_together" "kept_together" bV a.f_R a.d_R
 B_R:Binds K a.d_R ["told"] []
 m_R:mg "kept_together" = some (.ref a.f_R)
 F_ax:Fun K "both_kept" "both_kept" d8 a.f_ax a.d_ax
 B_ax:Binds K a.d_ax ["up","sure","held","chance"] []
 m_ax:mg "both_kept" = some (.ref a.f_ax)
 F_ar:Fun K "held_behind" "held_behind" df a.f_ar a.d_ar
 B_ar:Binds K a.d_ar ["held","chance"] []
 m_ar:mg "held_behind" = some (.ref a.f_ar)
 F_ae:Fun K "behind_duel" "behind_duel" cZ a.f_ae a.d_ae
 B_ae:Binds K a.d_ae ["earlier","held","place","chance"] []
 m_ae:mg "behind_duel" = some (.ref a.f_ae)
 F_aO:Fun K "_law_cell" "_law_cell" gO a.f_aO a.d_aO
 B_aO:Binds K a.d_aO ["_law_script","_law_k"] []
 m_aO:mg "_law_cell" = some (.ref a.f_aO)
 F_ak:Fun K "_law_mixed" "_law_mixed" fM a.f_ak a.d_ak
 B_ak:Binds K a.d_ak ["_law_cell_here","_law_k"] []
 m_ak:mg "_law_mixed" = some (.ref a.f_ak)
 F_at:Fun K "_law_tree" "_law_tree" gM a.f_at a.d_at
 B_at:Binds K a.d_at ["_law_number","_law_deep","_law_wide"] []
 m_at:mg "_law_tree" = some (.ref a.f_at)
 F_az:Fun K "_law_plan" "_law_plan" gW a.f_az a.d_az
 B_az:Binds K a.d_az ["_law_tree_here"] []
 m_az:mg "_law_plan" = some (.ref a.f_az)
 F_as:Fun K "_law_needs" "_law_needs" fF a.f_as a.d_as
 B_as:Binds K a.d_as ["_law_tree_here"] []
 m_as:mg "_law_needs" = some (.ref a.f_as)
 F_aj:Fun K "_law_no_level" "_law_no_level" dG a.f_aj a.d_aj
 B_aj:Binds K a.d_aj ["_law_plan_here","_law_way","_law_thing"] []
 m_aj:mg "_law_no_level" = some (.ref a.f_aj)
 F_aE:Fun K "_law_crowd" "_law_crowd" fK a.f_aE a.d_aE
 B_aE:Binds K a.d_aE ["_law_cell_here","_law_levels"] []
 m_aE:mg "_law_crowd" = some (.ref a.f_aE)
 F_ay:Fun K "_law_answers" "_law_answers" eh a.f_ay a.d_ay
 B_ay:Binds K a.d_ay ["_law_plan_here","_law_crowd_here"] []
 m_ay:mg "_law_answers" = some (.ref a.f_ay)
 F_aP:Fun K "law" "law" qE a.f_aP a.d_aP
 m_aP:mg "law" = some (.ref a.f_aP)
 g_MOST_MANY:∃ u,mg "MOST_MANY" = some u/\RelV (.int 24) u
 g_MOST_STEP:∃ u,mg "MOST_STEP" = some u/\RelV (.int 100) u
 g_NOUGHT:∃ u,mg "NOUGHT" = some u/\RelV (.ref a.k_NOUGHT) u
 t_NOUGHT:j5 K a.k_NOUGHT [(.int 0),(.int 1)]=true
 g_WHOLE:∃ u,mg "WHOLE" = some u/\RelV (.ref a.k_WHOLE) u
 t_WHOLE:j5 K a.k_WHOLE [(.int 1),(.int 1)]=true
 g_TWICE:∃ u,mg "TWICE" = some u/\RelV (.ref a.k_TWICE) u
 t_TWICE:j5 K a.k_TWICE [(.int 2),(.int 1)]=true
 mc_ai:mg "SpeakError" = some (.ref a.c_ai)
 xh_ai:XHd K a.c_ai
 g_F:∃ u,mg "NoListing" = some u/\RelV (.ref a.c_F) u
 g_aF:∃ u,mg "NoUnits" = some u/\RelV (.ref a.c_aF) u
 g_af:∃ u,mg "NoPlan" = some u/\RelV (.ref a.c_af) u
 mc_L:mg "NoLevel" = some (.ref a.c_L)
 g_L:∃ u,mg "NoLevel" = some u/\RelV (.ref a.c_L) u
 kc_NoLevel:keepIn K (.ref a.c_L)=true
 xc_L:XCls K a.c_L
 xh_L:XHd K a.c_L
 xi_NoLevel:xIn K a.c_L none=true
 g_X:∃ u,mg "NoThrow" = some u/\RelV (.ref a.c_X) u
 g_aG:∃ u,mg "Node" = some u/\RelV (.ref a.c_aG) u
 mc_s:mg "Told" = some (.ref a.c_s)
 cl_s:Cls K a.c_s
 ty_s:∀ H x dx fs,H x=some (.ins a.c_s dx fs)->TyOf K H (.ref x) (.ref a.c_s)
 mk_s:Mk K a.c_s a.i_s
 Fi_s:Fun K "__init__" "Told.__init__" bU a.i_s a.e_s
 Bi_s:Binds K a.e_s ["self","kept"] []
 na_Told_rising:NoAttr K a.c_s "rising"
 mt_ah:Meth K a.c_s "is_told" a.x_ah
 mt_al:Meth K a.c_s "kept" a.x_al
 mc_G:mg "Die" = some (.ref a.c_G)
 cl_G:Cls K a.c_G
 ty_G:∀ H x dx fs,H x=some (.ins a.c_G dx fs)->TyOf K H (.ref x) (.ref a.c_G)
 mk_G:Mk K a.c_G a.i_G
 Fi_G:Fun K "__init__" "Die.__init__" cv a.i_G a.e_G
 Bi_G:Binds K a.e_G ["self","parts"] []
 na_Die_makes:NoAttr K a.c_G "makes"
 mt_am:Meth K a.c_G "is_told" a.x_am
 mt_aw:Meth K a.c_G "kept" a.x_aw
 mt_an:Meth K a.c_G "carried" a.x_an
 mc_Q:mg "Few" = some (.ref a.c_Q)
 cl_Q:Cls K a.c_Q
 mk_Q:Mk K a.c_Q a.i_Q
 Fi_Q:Fun K "__init__" "Few.__init__" cu a.i_Q a.e_Q
 Bi_Q:Binds K a.e_Q ["self","many"] []
 na_Few_many:NoAttr K a.c_Q "many"
 mt_ad:Meth K a.c_Q "node" a.x_ad
 mt_m:Meth K a.c_Q "matrix" a.x_m
 mt_B:Meth K a.c_Q "bounds" a.x_B
 mt_Few_need_levels:Meth K a.c_Q "need_levels" a.x_h
 mc_o:mg "Start" = some (.ref a.c_o)
 cl_o:Cls K a.c_o
 mk_o:Mk K a.c_o a.i_o
 Fi_o:Fun K "__init__" "Start.__init__" bL a.i_o a.e_o
 Bi_o:Binds K a.e_o ["self","step"] []
 na_Start_step:NoAttr K a.c_o "step"
 mt_I:Meth K a.c_o "node" a.x_I
 mt_i:Meth K a.c_o "matrix" a.x_i
 mt_u:Meth K a.c_o "bounds" a.x_u
 mt_Start_need_levels:Meth K a.c_o "need_levels" a.x_h
 mc_p:mg "Loose" = some (.ref a.c_p)
 cl_p:Cls K a.c_p
 mk_p:Mk K a.c_p a.i_p
 Fi_p:Fun K "__init__" "Loose.__init__" bJ a.i_p a.e_p
 Bi_p:Binds K a.e_p ["self","many"] []
 na_Loose_many:NoAttr K a.c_p "many"
 mt_J:Meth K a.c_p "node" a.x_J
 mt_j:Meth K a.c_p "matrix" a.x_j
 mt_q:Meth K a.c_p "bounds" a.x_q
 mt_Loose_need_levels:Meth K a.c_p "need_levels" a.x_h
 mc_t:mg "Each" = some (.ref a.c_t)
 cl_t:Cls K a.c_t
 mk_t:Mk K a.c_t a.i_t
 Fi_t:Fun K "__init__" "Each.__init__" bT a.i_t a.e_t
 Bi_t:Binds K a.e_t ["self","inside"] []
 na_Each_inside:NoAttr K a.c_t "inside"
 mt_D:Meth K a.c_t "node" a.x_D
 mt_b:Meth K a.c_t "matrix" a.x_b
 mt_l:Meth K a.c_t "bounds" a.x_l
 mt_w:Meth K a.c_t "need_levels" a.x_w
 mc_g:mg "First" = some (.ref a.c_g)
 cl_g:Cls K a.c_g
 mk_g:Mk K a.c_g a.i_g
 Fi_g:Fun K "__init__" "First.__init__" bK a.i_g a.e_g
 Bi_g:Binds K a.e_g ["self","outside","inside"] []
 na_First_outside:NoAttr K a.c_g "outside"
 na_First_inside:NoAttr K a.c_g "inside"
 mt_c:Meth K a.c_g "node" a.x_c
 mt_n:Meth K a.c_g "matrix" a.x_n
 mt_e:Meth K a.c_g "bounds" a.x_e
 mt_r:Meth K a.c_g "need_levels" a.x_r
 mc_A:mg "Duel" = some (.ref a.c_A)
 cl_A:Cls K a.c_A
 mk_A:Mk K a.c_A a.i_A
 Fi_A:Fun K "__init__" "Duel.__init__" bW a.i_A a.e_A
 Bi_A:Binds K a.e_A ["self","many"] []
 na_Duel_many:NoAttr K a.c_A "many"
 mt_W:Meth K a.c_A "node" a.x_W
 mt_H:Meth K a.c_A "matrix" a.x_H
 mt_v:Meth K a.c_A "bounds" a.x_v
 mt_Duel_need_levels:Meth K a.c_A "need_levels" a.x_h
 F_ah:Fun K "is_told" "Told.is_told" cD a.x_ah a.y_ah
 B_ah:Binds K a.y_ah ["self"] []
 F_am:Fun K "is_told" "Die.is_told" dh a.x_am a.y_am
 B_am:Binds K a.y_am ["self"] []
 F_al:Fun K "kept" "Told.kept" eg a.x_al a.y_al
 B_al:Binds K a.y_al ["self"] []
 F_aw:Fun K "kept" "Die.kept" eJ a.x_aw a.y_aw
 B_aw:Binds K a.y_aw ["self"] []
 F_an:Fun K "carried" "Die.carried" di a.x_an a.y_an
 B_an:Binds K a.y_an ["self","carry"] []
 F_ad:Fun K "node" "Few.node" eR a.x_ad a.y_ad
 B_ad:Binds K a.y_ad ["self","crowd"] []
 F_I:Fun K "node" "Start.node" dF a.x_I a.y_I
 B_I:Binds K a.y_I ["self","crowd"] []
 F_J:Fun K "node" "Loose.node" dM a.x_J a.y_J
 B_J:Binds K a.y_J ["self","crowd"] []
 F_W:Fun K "node" "Duel.node" dZ a.x_W a.y_W
 B_W:Binds K a.y_W ["self","crowd"] []
 F_D:Fun K "node" "Each.node" em a.x_D a.y_D
 B_D:Binds K a.y_D ["self","crowd"] []
 F_c:Fun K "node" "First.node" cM a.x_c a.y_c
 B_c:Binds K a.y_c ["self","crowd"] []
 F_m:Fun K "matrix" "Few.matrix" cN a.x_m a.y_m
 B_m:Binds K a.y_m ["self","crowd"] []
 F_i:Fun K "matrix" "Start.matrix" bQ a.x_i a.y_i
 B_i:Binds K a.y_i ["self","crowd"] []
 F_j:Fun K "matrix" "Loose.matrix" bP a.x_j a.y_j
 B_j:Binds K a.y_j ["self","crowd"] []
 F_H:Fun K "matrix" "Duel.matrix" cY a.x_H a.y_H
 B_H:Binds K a.y_H ["self","crowd"] []
 F_b:Fun K "matrix" "Each.matrix" ce a.x_b a.y_b
 B_b:Binds K a.y_b ["self","crowd"] []
 F_n:Fun K "matrix" "First.matrix" cA a.x_n a.y_n
 B_n:Binds K a.y_n ["self","crowd"] []
 F_B:Fun K "bounds" "Few.bounds" dI a.x_B a.y_B
 B_B:Binds K a.y_B ["self","crowd"] []
 F_u:Fun K "bounds" "Start.bounds" cG a.x_u a.y_u
 B_u:Binds K a.y_u ["self","crowd"] []
 F_q:Fun K "bounds" "Loose.bounds" cH a.x_q a.y_q
 B_q:Binds K a.y_q ["self","crowd"] []
 F_v:Fun K "bounds" "Duel.bounds" dk a.x_v a.y_v
 B_v:Binds K a.y_v ["self","crowd"] []
 F_l:Fun K "bounds" "Each.bounds" dn a.x_l a.y_l
 B_l:Binds K a.y_l ["self","crowd"] []
 F_e:Fun K "bounds" "First.bounds" cq a.x_e a.y_e
 B_e:Binds K a.y_e ["self","crowd"] []
 F_h:Fun K "need_levels" "Plan.need_levels" bp a.x_h a.y_h
 B_h:Binds K a.y_h ["self","levels"] []
 F_w:Fun K "need_levels" "Each.need_levels" bn a.x_w a.y_w
 B_w:Binds K a.y_w ["self","levels"] []
 F_r:Fun K "need_levels" "First.need_levels" ba a.x_r a.y_r
 B_r:Binds K a.y_r ["self","levels"] []
 mNoLevel:vG K a.c_L a.c_ai=true
 vNoLevel:kitOne K (.ref a.c_L) (.type "ValueError")=some true
 kNoLevel:kitOne K (.ref a.c_L) (.ref a.c_L)=some true
 kNL4:kitAny K (.ref a.c_L) [.ref a.c_F,.ref a.c_af,.ref a.c_X,.ref a.c_aF]=some false
 kTN:kitOne K (.ref a.c_s) (.ref a.c_aG)=some true
 kDN:kitOne K (.ref a.c_G) (.ref a.c_aG)=some true
 z_ValueError:mg "ValueError" = none
 z_abs:mg "abs" = none
 z_bool:mg "bool" = none
 z_enumerate:mg "enumerate" = none
 z_int:mg "int" = none
 z_isinstance:mg "isinstance" = none
 z_len:mg "len" = none
 z_list:mg "list" = none
 z_max:mg "max" = none
 z_min:mg "min" = none
 z_range:mg "range" = none
 z_sorted:mg "sorted" = none
 z_sum:mg "sum" = none
 z_tuple:mg "tuple" = none
 z_zip:mg "zip" = none
 bl:∀(s:Shared) (u:Value),BindsTo s a.d_aP ⟨[u],[]⟩ [("_law_script",u)]
inductive spLaw(K:Frag)(ts:List Addr)(vs:List V)(H:Hp)(Q:VK)(_E:XK):Prop
 | mk(p:Addr)(ns:List Int)(h0:vs=[.ref p])(h1:SqL K H p (ns.map V.int))(h2:ns.length<=63)(h3:(∀ P∈ts,H P=some (.tbl #[])))(h4:∀ H',Q (.bl true) H'):spLaw K ts vs H Q _E
theorem law_start{K:Frag}{b:List Addr}{H:Hp}{a:Addr}{ns:List Int}(e:ns.length<=63)(d:∀ P∈b,H P=some (.tbl #[]))(c:SqL K H a (ns.map V.int)):spLaw K b [.ref a] H (λv _=>v=.bl true) λ_ _ _=>False:=⟨a,ns,rfl,c,e,d,λ_=>rfl⟩
inductive spCell(K:Frag)(vs:List V)(H:Hp)(Q:VK)(_E:XK):Prop
 | mk(p:Addr)(ns:List Int)(k:Int)(h0:vs=[.ref p,.int k])(h1:SqL K H p (ns.map V.int))(h2:ns.length<=63)(h3:0<=k)(h4:k<=1000)(h5:Q (.int (rL ns k)) H):spCell K vs H Q _E
inductive spMixed(vs:List V)(H:Hp)(Q:VK)(_E:XK):Prop
 | mk(c k:Int)(h0:vs=[.int c,.int k])(h1:0<=k)(h2:k<=1000)(h3:∀ r:Int,0<=r->r<1099511627776->Q (.int r) H):spMixed vs H Q _E
inductive spGcd(vs:List V)(H:Hp)(Q:VK)(_E:XK):Prop
 | mk(x y:Int)(h0:vs=[.int x,.int y])(h1:0<=x)(h2:0<=y)(h3:Q (.int (Int.gcd x y)) H):spGcd vs H Q _E
def BO(H:Hp)(Q:VK)(T B:Int):Prop:=∀ H' p,Same H H'->H' p=some (.tup [.int (fB T B).1,.int (fB T B).2])->Q (.ref p) H'
inductive spLow(vs:List V)(H:Hp)(Q:VK)(_E:XK):Prop
 | mk(T B:Int)(h0:vs=[.int T,.int B])(h1:0<B)(h2:Bt 3000 T)(h3:Bt 3000 B)(h4:BO H Q T B):spLow vs H Q _E
def du:Sp:=λ_ _ _ _=>False
def PT(K:Frag)(H:Hp)(p:Addr)(f:Int×Int):Prop:=H p=some (.tup [.int f.1,.int f.2])\/j5 K p [.int f.1,.int f.2]=true
theorem PT.sq{K:Frag}{H:Hp}{p:Addr}{f:Int×Int}(h:PT K H p f):SqT K H p [.int f.1,.int f.2]:=h.elim SqT.of lV
def IsF(K:Frag)(H:Hp)(f:Int×Int)(x:V):Prop:=∃ p,x=.ref p/\PT K H p f
theorem IsF.tk{K:Frag}{H a:Hp}{f:Int×Int}{x:V}(k:TK H a)(h:IsF K H f x):IsF K a f x:=let ⟨p,e,q⟩:=h;⟨p,e,q.imp (λz=>k _ _ z) id⟩
abbrev AllF(K:Frag)(H:Hp):List (Int×Int)->List V->Prop:=PySem.Paired (IsF K H)
theorem IsF.same{K:Frag}{H a:Hp}{f:Int×Int}{x:V}(s:Same H a)(h:IsF K H f x):IsF K a f x:=h.tk s.tk
theorem aM{b a:Type}{R:b->a->Prop}:∀{xs:List b}{ys:List a}{i:Nat}{y:a},Paired R xs ys->ys[i]? = some y->∃ x,xs[i]? = some x/\R x y:=λh e=>by
 rename_i i _
 induction h generalizing i with
 | nil=>cases e
 | cons r _ ih=>cases i;cases e;exact⟨_,rfl,r⟩;exact ih e
theorem AllF.same{K:Frag}{H a:Hp}(s:Same H a):∀{fs:List (Int×Int)}{xs:List V},AllF K H fs xs->AllF K a fs xs:=λh=>Paired.mapP h λ_ _ r=>r.same s
theorem AllF.tk{K:Frag}{H a:Hp}(k:TK H a):∀{fs:List (Int×Int)}{xs:List V},AllF K H fs xs->AllF K a fs xs:=λh=>Paired.mapP h λ_ _ r=>r.tk k
theorem AllF.get{K:Frag}{H:Hp}:∀{fs:List (Int×Int)}{xs:List V}{i:Nat}{x:V},AllF K H fs xs->xs[i]? = some x->∃ f,fs[i]? = some f/\IsF K H f x:=aM
theorem AllF.snoc{K:Frag}{H:Hp}{f:Int×Int}{x:V}(r:IsF K H f x):∀{fs:List (Int×Int)}{xs:List V},AllF K H fs xs->AllF K H (fs++[f]) (xs++[x]):=λh=>PySem.Paired.snoc h r
theorem AllF.len{K:Frag}{H:Hp}{fs:List (Int×Int)}{xs:List V}(h:AllF K H fs xs):fs.length=xs.length:=Paired.length h
theorem wZ(T B:Int):Int.gcd (if T<0 then -T else T) B=Int.gcd T B:=by
 split
 .exact Int.neg_gcd
 .rfl
theorem px0{K:Frag}{H:Hp}{p:Addr}{x y:V}{Q:VK}(h:SqT K H p [x,y])(q:Q x H):rIx K (.ref p) (.int 0) H Q:=.inr (.inl ⟨p,_,_,x,rfl,rfl,h,aU (j:=0) rfl,q⟩)
theorem px1{K:Frag}{H:Hp}{p:Addr}{x y:V}{Q:VK}(h:SqT K H p [x,y])(q:Q y H):rIx K (.ref p) (.int 1) H Q:=.inr (.inl ⟨p,_,_,y,rfl,rfl,h,aU (j:=1) rfl,q⟩)
theorem cb(x y:V):[x,y].length<=sizeLine:=by show 2<=sizeLine;decide
inductive spLcm(vs:List V)(H:Hp)(Q:VK)(_E:XK):Prop
 | mk(l:Addr)(x y:Int)(h0:vs=[.ref l])(h1:H l=some (.lst [.int x,.int y]))(h2:0<x)(h3:0<y)(h4:x<=1000000000)(h5:y<=1000000000)(h6:Q (.int (cL x y)) H):spLcm vs H Q _E
structure Szs(z:List Int):Prop where
 len:z.length<=24
 lo:∀ x∈z,1<=x
 hi:∀ x∈z,x<=24000000
inductive spWished(K:Frag)(vs:List V)(H:Hp)(Q:VK)(_E:XK):Prop
 | mk(l:Addr)(z:List Int)(m:Int)(h0:vs=[.ref l,.int m])(h1:H l=some (.lst (z.map V.int)))(h2:Szs z)(h3:0<=m)(h4:m<=24)(h5:∀ H' r xs,Same H H'->H r=none->H' r=some (.lst xs)->AllF K H' (due z m) xs->Q (.ref r) H'):spWished K vs H Q _E
inductive spSome(K:Frag)(vs:List V)(H:Hp)(Q:VK)(_E:XK):Prop
 | mk(l:Addr)(z:List Int)(m:Int)(h0:vs=[.ref l,.int m])(h1:H l=some (.lst (z.map V.int)))(h2:Szs z)(h3:0<m)(h4:m<z.length)(h5:∀ H' r xs,Same H H'->H r=none->H' r=some (.lst xs)->AllF K H' (due z m) xs->Q (.ref r) H'):spSome K vs H Q _E
inductive spUns(K:Frag)(vs:List V)(H:Hp)(Q:VK)(_E:XK):Prop
 | mk(x:V)(f:Int×Int)(h0:vs=[x])(h1:IsF K H f x)(h2:Q (.bl (uns f)) H):spUns K vs H Q _E
abbrev IsQ(K:Frag)(H:Hp)(q:Rat)(x:V):Prop:=IsF K H (fr q) x
inductive spAri(op:Rat->Rat->Rat)(c:Rat->Prop)(K:Frag)(vs:List V)(H:Hp)(Q:VK)(_E:XK):Prop
 | mk(x y:V)(p q:Rat)(h0:vs=[x,y])(h1:IsQ K H p x)(h2:IsQ K H q y)(h3:Bb p)(h4:Bb q)(h5:c q)(h6:∀ H' z,Same H H'->IsQ K H' (op p q) z->Q z H'):spAri op c K vs H Q _E
inductive spBel(K:Frag)(vs:List V)(H:Hp)(Q:VK)(_E:XK):Prop
 | mk(x y:V)(p q:Rat)(h0:vs=[x,y])(h1:IsQ K H p x)(h2:IsQ K H q y)(h3:Bb p)(h4:Bb q)(h5:Q (.bl (decide (p<q))) H):spBel K vs H Q _E
theorem zG(q:Rat):uns (fr q)=pV q:=by
 unfold uns pV fr;refine decide_eq_decide.mpr ?_;rw[<- num_pos];have:q<1↔q.num<(q.den:Int):=by rw[Rat.lt_iff];simp
 rw[this]
section
variable {P:Program}{w:World}{K:Frag}{mg:Str->Option Value}{base:Heap}{a:Ad}
theorem bt{k:Nat}{f:Addr}{a:FuncData}{ps:List Str}:FnOk P w K mg base CX0 k f a ps du:=⟨λ_ _ _ _ h=>h.elim,λ_ _ _ _ _ _ _ _ _ _ _ _ _ h=>h.elim⟩
theorem wS(T:Txt K mg a):FnOk P w K mg base CX0 1 a.f_aO a.d_aO ["_law_script","_law_k"] (spCell K):=by
 refine T.F_aO.ok tK (λg H Q E h=>?_) (λcdv A outer s H g Q E hr h=>?_)
 .obtain⟨p,b,k,rfl,_⟩:=h;rfl
 .obtain⟨p,b,k,rfl,f,l,o,m,q⟩:=h
  refine⟨_,(ai (aR (aT qc (vr 1) (ay aF rfl T.z_len bf (aa (vr 0) ac)) (aG _)) (aj (au (az av (vr 0) (vr 1) (λ_ _=>rfl)))) aD) (aj (au (aw dN (aw be ah (vr 1)) ah)))),eE ?_⟩;intro j;refine⟨b.map V.int,.inl f,?_⟩;rw[length_map];unfold rL at q;refine Bk (λc=>?_) (λc=>?_)
  .have d:k<(b.length:Int):=of_decide_eq_true c
   rw[if_pos d]at q;refine .inl ⟨p,_,k,.int (b.getD k.toNat 0),rfl,rfl,f,?_,q⟩;have e:((k.toNat:Nat):Int)=k:=by omega
   rw[<- e];refine aU ?_;have i:k.toNat<b.length:=by omega
   rw[e];simp[List.getElem?_map,List.getD,i]
  .have d:¬k<(b.length:Int):=λz=>c (decide_eq_true z)
   rw[if_neg d]at q;exact⟨clB,q⟩
theorem qJ(T:Txt K mg a):FnOk P w K mg base CX0 1 a.f_ak a.d_ak ["_law_cell_here","_law_k"] spMixed:=by
 refine T.F_ak.ok sc_ak (λg H Q E h=>?_) (λcdv A outer s H g Q E hr h=>?_)
 .obtain⟨c,k,rfl,_⟩:=h;rfl
 .obtain⟨c,k,rfl,m,l,q⟩:=h
  refine⟨_,(ai (aR (aT eC (aw fh (vr 0) ah) ah (aG _)) (aj (au (aw fh (aw Au (vr 0) (aw dN ah (aw be ah (vr 1)))) (aw uN ah ah)))) aD) (ai (ax (i:=2) sc_ak.nd rfl (Or.inl rfl) (aw fh (aw dN (vr 0) (aw be ah (vr 1))) ah)) (ai (ax (i:=2) sc_ak.nd rfl (Or.inl rfl) (aw fh (aw dN (aw be (vr 2) ah) (vr 1)) ah)) (ai (ax (i:=2) sc_ak.nd rfl (Or.inl rfl) (aw fh (aw be (vr 2) (aw dN (vr 2) ah)) ah)) (aj (au (aw fh (aw be (vr 2) (aw dN (vr 2) ah)) ah))))))),si ?_⟩;intro f d b j;refine⟨cp,?_⟩;refine Bk (λe=>?_) (λe=>?_)
  .exact⟨clB,cn (by omega),cw,cp,q _ (Int.emod_nonneg _ (by decide +kernel)) (Int.lt_of_lt_of_le (Int.emod_lt_of_pos _ (by decide +kernel)) (by decide +kernel))⟩
  .exact⟨clB,cp,crB,cp,clB (by omega) (by omega),cp,clB (by omega) (by omega),cp,q _ (by omega) (by omega)⟩
theorem vU(T:Txt K mg a):FnOk P w K mg base CX0 1 a.f_M a.d_M ["one","other"] spGcd:=by
 refine T.F_M.ok sc_M (λr H Q E h=>?_) (λcdv A outer s H r Q E hr h=>?_)
 .obtain⟨x,y,rfl,_⟩:=h;rfl
 .obtain⟨f,l,rfl,B,u,q⟩:=h
  refine⟨_,(ai (qT PassesOwn.never (fV (vr 1) (λ_=>rfl)) (aj (yH rfl sc_M.nd (i:=0) (j:=1) rfl rfl (by decide) rfl rfl (aa (vr 1) (aa (aw fh (vr 0) (vr 1)) ac)) rfl))) (aj (au (vr 0)))),eE ?_⟩;intro C;refine⟨λm p g=>g=H/\∃ x y:Int,0<=x/\0<=y/\m=y.toNat/\Int.gcd x y=Int.gcd f l/\p=[some (.int x),some (.int y)],⟨_,rfl,f,l,B,u,rfl,rfl,rfl⟩,?_⟩;rintro m p g ⟨rfl,x,y,D,v,rfl,o,rfl⟩;refine⟨_,rfl,?_⟩;refine ifB (λc=>?_) (λc=>?_)
  .have e:y≠0:=by simpa using c
   let Pw2:St->Hp->Prop:=λd b=>b=g/\d=[some (.int y),some (.int (x % y))]
   refine⟨Pw2,?_,?_⟩
   .rintro d b ⟨rfl,rfl⟩
    exact⟨(x % y).toNat,by have:=Int.emod_lt_of_pos x (show 0<y by omega);have:=Int.emod_nonneg x e;omega,rfl,y,x % y,v,Int.emod_nonneg x e,rfl,by rw[va,o],rfl⟩
   .exact⟨cp (by omega),_,_,rfl,rfl,rfl⟩
  .have e:y=0:=by simpa using c
   subst e;rw[Int.gcd_zero_right]at o;have:x=(Int.gcd f l:Int):=by omega
   rw[<- this]at q;exact q
theorem fb(T:Txt K mg a):FnOk P w K mg base CX0 2 a.f_aa a.d_aa ["top","bottom"] spLow:=by
 have d:FnOk P w K mg base CX0 1 a.f_aa a.d_aa ["top","bottom"] du:=bt;have e:FnOk P w K mg base CX0 1 _ _ _ spGcd:=vU T;refine T.F_aa.ok sc_aa (λl H Q E h=>?_) (λcdv A outer s H l Q E hr h=>?_)
 .obtain⟨x,y,rfl,_⟩:=h;rfl
 .obtain⟨t,b,rfl,r,F,u,q⟩:=h
  refine⟨_,(ai (aR (aT qc (vr 1) ah (aG _)) (aj (au (ag d hr rfl T.m_aa T.F_aa.kp T.B_aa .nil af (aa (yp ye (vr 0)) (aa (yp ye (vr 1)) ac))))) aD) (ai (ax (i:=2) sc_aa.nd rfl (Or.inl rfl) (ag e hr rfl T.m_M T.F_M.kp T.B_M .nil af (aa (ay vq rfl T.z_abs zg (aa (vr 0) ac)) (aa (vr 1) ac)))) (aj (au (aE (aa (aw cK (vr 0) (vr 2)) (aa (aw cK (vr 1) (vr 2)) ac))))))),il ?_⟩;intro j o;obtain⟨g,C,v,D,B⟩:=low t b r;refine ifC (λc=>absurd c (by omega)) (λ_=>?_);refine⟨t,rfl,⟨_,_,rfl,by split <;> omega,by omega,?_⟩⟩;rw[wZ];have f:Bt 3000 (Int.gcd t b:Int):=u.le (by omega);refine⟨cdB g f,cdB g f,cb _ _,λp m=>?_⟩;exact q _ p (Same.new m) ae
theorem rG(T:Txt K mg a):FnOk P w K mg base CX0 1 a.f_aq a.d_aq ["chance"] (spUns K):=by
 refine T.F_aq.ok oY (λd H Q E h=>?_) (λcdv A outer s H d Q E hr h=>?_)
 .obtain⟨x,f,rfl,_⟩:=h;rfl
 .obtain⟨x,f,rfl,⟨p,rfl,b⟩,q⟩:=h
  refine⟨_,(aj (au (sG qc qc ah (az av (vr 0) ah (λ_ _=>rfl)) (az av (vr 0) ah (λ_ _=>rfl))))),?_⟩;refine px0 b.sq ?_;refine ifC (λc=>px1 b.sq ?_) (λc=>?_)
  .have c:0<f.1:=c
   have e:uns f=decide (f.1<f.2):=by unfold uns;simp[c]
   rw[e]at q;exact q
  .have c:¬0<f.1:=c
   have e:uns f=false:=by unfold uns;simp[c]
   rw[e]at q;exact q
theorem iX{H:Hp}{p:Addr}{t b:Int}(h:SqT K H p [.int t,.int b]):DV K H (.tuple [.int t,.int b]) (.ref p):=by
 rw[DV];refine⟨p,_,rfl,h,?_⟩;rw[DVs];refine⟨_,_,rfl,by simp[DV],?_⟩;rw[DVs];exact⟨_,_,rfl,by simp[DV],by simp[DVs]⟩
theorem gj(t b:Int):SeqAt.shaped (.tuple [.int t,.int b])=true:=rfl
theorem o7(T:Txt K mg a):FnOk P w K mg base CX0 3 a.f_aJ a.d_aJ ["one","other"] (spAri (· + ·) (λ_=>True) K):=by
 have c:FnOk P w K mg base CX0 2 _ _ _ spLow:=fb T;refine T.F_aJ.ok wI (λm H Q E h=>?_) (λcdv A outer s H m Q E hr h=>?_)
 .obtain⟨x,y,p,q,rfl,_⟩:=h;rfl
 .obtain⟨x,y,p,q,rfl,⟨x,rfl,v⟩,⟨y,rfl,u⟩,⟨j,d⟩,⟨i,e⟩,D,o⟩:=h
  have g:=v.sq;have b:=u.sq;have B:(0:Int)<(p.den:Int):=by have:=p.den_pos;omega
  have l:(0:Int)<(q.den:Int):=by have:=q.den_pos;omega
  refine⟨_,(aj (au (ag c hr rfl T.m_aa T.F_aa.kp T.B_aa .nil af (aa (aw dN (aw be (az av (vr 0) ah (λ_ _=>rfl)) (az av (vr 1) ah (λ_ _=>rfl))) (aw be (az av (vr 1) ah (λ_ _=>rfl)) (az av (vr 0) ah (λ_ _=>rfl)))) (aa (aw be (az av (vr 0) ah (λ_ _=>rfl)) (az av (vr 1) ah (λ_ _=>rfl))) ac))))),?_⟩;refine px0 g (px1 b ⟨cmB j e,px0 b (px1 g ⟨cmB i d,px1 g (px1 b ⟨cmB d e,?_⟩)⟩)⟩);exact⟨_,_,rfl,Int.mul_pos B l,((j.mul e).add (i.mul d)).mono (by decide),(d.mul e).mono (by decide),λC r s f=>o _ _ s ⟨r,rfl,.inl (by rw[<- xx p q];exact f)⟩⟩
theorem mX(T:Txt K mg a):FnOk P w K mg base CX0 3 a.f_aD a.d_aD ["one","other"] (spAri (· - ·) (λ_=>True) K):=by
 have c:FnOk P w K mg base CX0 2 _ _ _ spLow:=fb T;refine T.F_aD.ok vM (λm H Q E h=>?_) (λcdv A outer s H m Q E hr h=>?_)
 .obtain⟨x,y,p,q,rfl,_⟩:=h;rfl
 .obtain⟨x,y,p,q,rfl,⟨x,rfl,v⟩,⟨y,rfl,u⟩,⟨j,d⟩,⟨i,e⟩,D,o⟩:=h
  have g:=v.sq;have b:=u.sq;have B:(0:Int)<(p.den:Int):=by have:=p.den_pos;omega
  have l:(0:Int)<(q.den:Int):=by have:=q.den_pos;omega
  refine⟨_,(aj (au (ag c hr rfl T.m_aa T.F_aa.kp T.B_aa .nil af (aa (aw cU (aw be (az av (vr 0) ah (λ_ _=>rfl)) (az av (vr 1) ah (λ_ _=>rfl))) (aw be (az av (vr 1) ah (λ_ _=>rfl)) (az av (vr 0) ah (λ_ _=>rfl)))) (aa (aw be (az av (vr 0) ah (λ_ _=>rfl)) (az av (vr 1) ah (λ_ _=>rfl))) ac))))),?_⟩;refine px0 g (px1 b ⟨cmB j e,px0 b (px1 g ⟨cmB i d,px1 g (px1 b ⟨cmB d e,?_⟩)⟩)⟩);exact⟨_,_,rfl,Int.mul_pos B l,((j.mul e).sub (i.mul d)).mono (by decide),(d.mul e).mono (by decide),λC r s f=>o _ _ s ⟨r,rfl,.inl (by rw[<- wK p q];exact f)⟩⟩
theorem iI(T:Txt K mg a):FnOk P w K mg base CX0 3 a.f_ap a.d_ap ["one","other"] (spAri (· * ·) (λ_=>True) K):=by
 have c:FnOk P w K mg base CX0 2 _ _ _ spLow:=fb T;refine T.F_ap.ok vd (λm H Q E h=>?_) (λcdv A outer s H m Q E hr h=>?_)
 .obtain⟨x,y,p,q,rfl,_⟩:=h;rfl
 .obtain⟨x,y,p,q,rfl,⟨x,rfl,v⟩,⟨y,rfl,u⟩,⟨i,f⟩,⟨e,j⟩,D,o⟩:=h
  have g:=v.sq;have b:=u.sq;have B:(0:Int)<(p.den:Int):=by have:=p.den_pos;omega
  have l:(0:Int)<(q.den:Int):=by have:=q.den_pos;omega
  refine⟨_,(aj (au (ag c hr rfl T.m_aa T.F_aa.kp T.B_aa .nil af (aa (aw be (az av (vr 0) ah (λ_ _=>rfl)) (az av (vr 1) ah (λ_ _=>rfl))) (aa (aw be (az av (vr 0) ah (λ_ _=>rfl)) (az av (vr 1) ah (λ_ _=>rfl))) ac))))),?_⟩;refine px0 g (px0 b ⟨cmB i e,px1 g (px1 b ⟨cmB f j,?_⟩)⟩);exact⟨_,_,rfl,Int.mul_pos B l,(i.mul e).mono (by decide),(f.mul j).mono (by decide),λC r s d=>o _ _ s ⟨r,rfl,.inl (by rw[<- xQ p q];exact d)⟩⟩
theorem xX(T:Txt K mg a):FnOk P w K mg base CX0 3 a.f_aM a.d_aM ["one","other"] (spAri (· / ·) (λq=>0<q) K):=by
 have c:FnOk P w K mg base CX0 2 _ _ _ spLow:=fb T;refine T.F_aM.ok xC (λm H Q E h=>?_) (λcdv A outer s H m Q E hr h=>?_)
 .obtain⟨x,y,p,q,rfl,_⟩:=h;rfl
 .obtain⟨x,y,p,q,rfl,⟨x,rfl,v⟩,⟨y,rfl,u⟩,⟨j,f⟩,⟨e,l⟩,g,o⟩:=h
  have i:=v.sq;have b:=u.sq;have B:(0:Int)<(p.den:Int):=by have:=p.den_pos;omega
  have C:(0:Int)<(q.den:Int):=by have:=q.den_pos;omega
  refine⟨_,(aj (au (ag c hr rfl T.m_aa T.F_aa.kp T.B_aa .nil af (aa (aw be (az av (vr 0) ah (λ_ _=>rfl)) (az av (vr 1) ah (λ_ _=>rfl))) (aa (aw be (az av (vr 0) ah (λ_ _=>rfl)) (az av (vr 1) ah (λ_ _=>rfl))) ac))))),?_⟩;refine px0 i (px1 b ⟨cmB j l,px1 i (px0 b ⟨cmB f e,?_⟩)⟩);exact⟨_,_,rfl,Int.mul_pos B (num_pos.mpr g),(j.mul l).mono (by decide),(f.mul e).mono (by decide),λD r s d=>o _ _ s ⟨r,rfl,.inl (by rw[<- wQ p q g];exact d)⟩⟩
theorem mf(T:Txt K mg a):FnOk P w K mg base CX0 1 a.f_aK a.d_aK ["one","other"] (spBel K):=by
 refine T.F_aK.ok uH (λi H Q E h=>?_) (λcdv A outer s H i Q E hr h=>?_)
 .obtain⟨x,y,p,q,rfl,_⟩:=h;rfl
 .obtain⟨x,y,p,q,rfl,⟨x,rfl,m⟩,⟨y,rfl,j⟩,⟨l,g⟩,⟨f,o⟩,c⟩:=h
  have d:=m.sq;have b:=j.sq;refine⟨_,(aj (au (lQ qc (aw be (az av (vr 0) ah (λ_ _=>rfl)) (az av (vr 1) ah (λ_ _=>rfl))) (aw be (az av (vr 1) ah (λ_ _=>rfl)) (az av (vr 0) ah (λ_ _=>rfl))) (aG _)))),?_⟩;refine px0 d (px1 b ⟨cmB l o,px0 b (px1 d ⟨cmB f g,?_⟩)⟩);have e:decide (p<q)=decide (p.num*(q.den:Int)<q.num*(p.den:Int)):=decide_eq_decide.mpr (Rat.lt_iff p q);rw[e]at c;exact c
theorem zF(T:Txt K mg a):FnOk P w K mg base CX0 2 a.f_Y a.d_Y ["numbers"] spLcm:=by
 have j:FnOk P w K mg base CX0 1 _ _ _ spGcd:=vU T;refine T.F_Y.ok sc_Y (λG H Q E h=>?_) (λcdv A outer s H G Q E hr h=>?_)
 .obtain⟨l,x,y,rfl,_⟩:=h;rfl
 .obtain⟨l,x,y,rfl,v,r,I,p,R,q⟩:=h
  refine⟨_,(ai (ax (i:=1) sc_Y.nd rfl (Or.inl rfl) ah) (ai (fY PassesOwn.never rfl (aO (vr 0)) (ao (i:=2) sc_Y.nd rfl (Or.inl rfl)) (aj (ax (i:=1) sc_Y.nd rfl (Or.inl rfl) (aw be (aw cK (vr 1) (ag j hr rfl T.m_M T.F_M.kp T.B_M .nil af (aa (vr 1) (aa (vr 2) ac)))) (vr 2))))) (aj (au (vr 1))))),il ?_⟩;intro F S
  let Pw1:PvS:=λi e d=>d=H/\∃(f:Int) (o:Option V),e=[some (.ref l),some (.int f),o]/\(i=0->f=1)/\(i=1->f=x)/\(i=2->f=cL x y)
  refine .inl ⟨⟨_,SqL.of v⟩,gL (K:=K) (a:=l) (xs:=[.int x,.int y]) Pw1 ⟨rfl,1,none,rfl,λ_=>rfl,(by decide:¬0=1).elim,(by decide:¬0=2).elim⟩ (λi e d _ h=>by rw[h.1];exact SqL.of v) ?_ ?_⟩
  .rintro i z e d c ⟨rfl,f,o,rfl,C,D,B⟩
   have b:∀ u:Int,0<f->f<=1000000000->0<u->u<=1000000000->0<(Int.gcd f u:Int)/\Bt 40 (Int.gcd f u:Int)/\0<=f/(Int.gcd f u:Int)/\f/(Int.gcd f u:Int)<=1000000000:=λu Y X O Z=>by
    obtain⟨L,W,_⟩:=low f u O;refine⟨L,by unfold Bt;omega,Int.ediv_nonneg (by omega) (by omega),?_⟩;have:=Int.ediv_le_self (a:=f) (Int.gcd f u:Int) (by omega);omega
   match i,c with
   | 0,c =>
    cases c;cases C rfl;obtain⟨m,g,N,M⟩:=b x (by decide) (by decide) r p;refine⟨1,x,rfl,by decide,by omega,cdB m g,clB (by omega) (by omega),rfl,_,_,rfl,(λz=>by cases z),(λ_=>?_),(λz=>by cases z)⟩;rw[Int.one_gcd];show 1/1*x=x;rw[Int.ediv_self (by decide),Int.one_mul]
   | 1,c =>
    cases c;cases D rfl;obtain⟨m,g,N,M⟩:=b y r p I R;exact⟨_,y,rfl,by omega,by omega,cdB m g,clB (by omega) (by omega),rfl,_,_,rfl,(λz=>by cases z),(λz=>by cases z),λ_=>rfl⟩
  .rintro e d ⟨rfl,f,o,rfl,C,D,B⟩
   cases B rfl;exact q
end
def nV(L:List Nat):List V:=L.map λ(k:Nat)=>V.int (k:Int)
theorem v9{L:List Nat}{j:Nat}{x:V}(h:(nV L)[j]? = some x):∃ k,L[j]? = some k/\x=.int (k:Int):=by
 unfold nV at h;rw[List.getElem?_map]at h;cases hk:L[j]? with
 | none=>rw[hk]at h;cases h
 | some k=>rw[hk]at h;cases h;exact⟨k,rfl,rfl⟩
theorem yj{z:List Int}{k:Nat}(a:k<z.length):atI (z.map V.int) (k:Int)=some (.int (sz z k)):=aU (by simp[sz,List.getElem?_map,List.getD,a])
theorem oR{z:List Int}{k:Nat}(a:k<z.length):sz z k∈z:=by
 unfold sz;rw[List.getD,List.getElem?_eq_getElem a];exact getElem_mem a
theorem yI(L:List Nat):(nV L).all iK=true:=by
 rw[all_eq_true];intro x a;obtain⟨k,_,rfl⟩:=mem_map.mp a;rfl
theorem BR(L:List Nat)(k:Nat):inV (.int (k:Int)) (nV L)=decide (k∈L):=by
 rw[Bool.eq_iff_iff];unfold inV nV;rw[List.any_map,List.any_eq_true,decide_eq_true_eq]
 constructor
 .rintro⟨j,a,e⟩
  have:(j:Int)=(k:Int):=by simpa[eqV] using e
  have:j=k:=by lia
  rw[<- this];exact a
 .intro h
  exact⟨k,h,by simp[eqV]⟩
section
variable {P:Program}{w:World}{K:Frag}{mg:Str->Option Value}{base:Heap}{a:Ad}
theorem xA(T:Txt K mg a):FnOk P w K mg base CX0 3 a.f_S a.d_S ["sizes","many"] (spSome K):=by
 have a2:FnOk P w K mg base CX0 2 _ _ _ spLow:=fb T;refine T.F_S.ok sc_S (λvs H Q E h=>?_) (λcdv A outer s H vs Q E hr h=>?_)
 .obtain⟨l,z,m,rfl,_⟩:=h;rfl
 .obtain⟨l,z,m,rfl,hl,hz,m0,m1,q⟩:=h
  refine⟨_,(ai (ax (i:=2) sc_S.nd rfl (Or.inr rfl) (dg (jK rfl) rfl T.z_list gw (aa (dg oj rfl T.z_range pR (aa (ay aF rfl T.z_len bf (aa (vr 0) ac)) ac)) ac))) (ai (ax (i:=3) sc_S.nd rfl (Or.inr rfl) (vr 1)) (ai (qT PassesOwn.never (dS fz) (ai (ax (i:=4) sc_S.nd rfl (Or.inr rfl) (ay (dc rfl) rfl T.z_sum gD (aa (aP rfl (N:=["place","sizes"]) (ix:=[none,some 0]) ⟨rfl,rfl,rfl,rfl,⟨rfl,rfl,rfl,trivial⟩⟩ (aO (vr 2)) ⟨λC s H W=>ao (i:=0) (show List.Nodup (["place","sizes"]:List Str) by decide +kernel) rfl (Or.inl rfl),λC s H W=>aL,λC s H W=>(az (eY (K:=K) rfl) (vr 1) (vr 0) (λ_ _=>rfl))⟩) ac))) (ai (fA rfl (i:=5) sc_S.nd rfl rfl (by with_unfolding_all rfl) (N:=["place","whole","wanted","sizes"]) (ix:=[none,some 4,some 3,some 0]) ⟨rfl,rfl,rfl,rfl,⟨rfl,rfl,rfl,⟨rfl,rfl,rfl,⟨rfl,rfl,rfl,trivial⟩⟩⟩⟩ (aO (vr 2)) ⟨λC s H W=>ao (i:=0) (show List.Nodup (["place","whole","wanted","sizes"]:List Str) by decide +kernel) rfl (Or.inl rfl),λC s H W=>iU (aT qc (aw be (az (eY (K:=K) rfl) (vr 3) (vr 0) (λ_ _=>rfl)) (vr 2)) (vr 1) (aG _)),λC s H W=>(vr 0)⟩) (ai (aR (aT eC (ay aF rfl T.z_len bf (aa (vr 5) ac)) (ay aF rfl T.z_len bf (aa (vr 2) ac)) (aG _)) (aj vK) aD) (ai (yP (i:=3) sc_S.nd rfl (Or.inr rfl) (aw cU (ay aF rfl T.z_len bf (aa (vr 2) ac)) (ay aF rfl T.z_len bf (aa (vr 5) ac))) zO) (aj (ax (i:=2) sc_S.nd rfl (Or.inr rfl) (vr 5)))))))) (aj (au (aP rfl (N:=["place","size","left","whole","wanted"]) (ix:=[none,none,some 2,some 4,some 3]) ⟨rfl,rfl,rfl,rfl,⟨rfl,rfl,rfl,⟨rfl,rfl,rfl,⟨rfl,rfl,rfl,trivial⟩⟩⟩⟩ (lF rfl T.z_enumerate (aa (vr 0) ac)) ⟨λC s H W=>(bx (K:=K) (n:=2) rfl rfl (aq (ao (i:=0) (show List.Nodup (["place","size","left","whole","wanted"]:List Str) by decide +kernel) rfl (Or.inl rfl)) (aq (ao (i:=1) (show List.Nodup (["place","size","left","whole","wanted"]:List Str) by decide +kernel) rfl (Or.inl rfl)) aJ))),λC s H W=>aL,λC s H W=>(iy (aT (rA (K:=K) rfl) (vr 0) (vr 2) (by with_unfolding_all rfl)) (ag a2 hr rfl T.m_aa T.F_aa.kp T.B_aa .nil af (aa (aw be (vr 1) (vr 4)) (aa (vr 3) ac))) (bE rfl T.g_WHOLE))⟩)))))),pO ?_⟩
  intro a' bl bd;have sl:sizeLine=16777216:=sizeLine_eq;have zl:=hz.len;have as:∀ k,k<z.length->1<=sz z k:=λk g=>hz.lo _ (oR g)
  have a4:∀ k,k<z.length->sz z k<=24000000:=λk g=>hz.hi _ (oR g)
  refine⟨_,.inl (SqL.of hl),⟨_,rfl,λp hp=>⟨p,z.length,rfl,by lia,by rw[ae,length_map],λG r=>?_⟩⟩⟩;have s1:Same H (upd (upd H p (.rng 0 ((z.map V.int).length:Int))) G (.lst (nV (List.range z.length)))):=(Same.new hp).trans (Same.new r)
  let Pw5:PvS:=λc σ H'=>∃(G:Addr) (L:List Nat) (w:Int) (x4 x5:Option V),c=L.length/\Same H H'/\H' G=some (.lst (nV L))/\Rnd z z.length m L w/\FrM.fin z L w=FrM.fin z (List.range z.length) m/\σ=[some (.ref l),some (.int m),some (.ref G),some (.int w),x4,x5]
  refine⟨Pw5,⟨_,G,List.range z.length,m,none,none,rfl,s1,ae,Rnd.start (by lia) (by lia),rfl,rfl⟩,?_⟩;rintro c σ H' ⟨G,L,w,x4,x5,rfl,sm,r,R,hf,rfl⟩;have an:=sm _ _ hl;have Ll:=R.len;have wb:-24<=w/\w<=24:=by have:=R.dif;have:=R.lt;lia
  let Pw6:St->Hp->Prop:=λa1 Z=>∃(B:Addr) (x4 x5:Option V),Same H Z/\Z B=some (.lst (nV (stay z L w)))/\(stay z L w).length≠L.length/\a1=[some (.ref l),some (.int m),some (.ref B),some (.int (w - ((L.length:Int) - ((stay z L w).length:Int)))),x4,x5]
  refine⟨Pw6,?_,?_⟩
  .rintro a1 Z ⟨B,x4,x5,a7,h',a5,rfl⟩
   have:=lN z L w;exact⟨_,by lia,B,_,_,x4,x5,rfl,a7,h',R.step as,by rw[<- hf];exact(rQ a5).symm,rfl⟩
  .refine .inl ⟨⟨_,SqL.of r⟩,λD hD=>?_⟩
   let Pw1:PvL:=λi f d=>i<=L.length/\d=upd H' D (.lst f)/\f=(L.take i).map λk=>V.int (sz z k)
   refine aK (K:=K) (a:=G) (xs:=nV L) Pw1 ⟨Nat.zero_le _,rfl,rfl⟩ (λi f d h=>by rw[h.2.1];exact SqL.of (by rw[ar (aB r hD)];exact r)) (λi f d h=>by rw[h.2.1];exact ae) ?_ ?_
   .rintro i x f d P' hx ⟨hi,rfl,rfl⟩ hP
    obtain⟨k,g,rfl⟩:=v9 hx;have b:i<L.length:=(List.getElem?_eq_some_iff.mp g).1;have ad:=R.sub k (List.mem_of_getElem? g);refine⟨⟨rfl,trivial⟩,.inl ⟨l,_,_,_,rfl,rfl,SqL.of (by rw[ar (aB an hD)];exact an),yj ad,ae,?_,hP _ _ ⟨b,hW,?_⟩⟩⟩
    .rw[length_map,length_take];lia
    .rw[take_add_one,g,map_append];rfl
   rintro f d ⟨_,rfl,rfl⟩
   have eS:((L.take (nV L).length).map λk=>V.int (sz z k))=(L.map (sz z)).map V.int:=by
    rw[show(nV L).length=L.length by unfold nV;rw[length_map],take_of_length_le (Nat.le_refl _),map_map];rfl
   refine⟨D,L.map (sz z),rfl,SqL.of (by rw[ae,eS]),?_⟩;rw[eS];have sD:Same H' (upd H' D (.lst ((L.map (sz z)).map V.int))):=Same.new hD;generalize upd H' D (.lst ((L.map (sz z)).map V.int))=H3 at sD;have ap:=sD _ _ an;have j:=sD _ _ r;refine .inl ⟨⟨_,SqL.of j⟩,λD2 Y=>?_⟩
   let Pw2:PvL:=λi f d=>i<=L.length/\d=upd H3 D2 (.lst f)/\f=nV ((L.take i).filter λk=>decide (sz z k*w<br z L))
   refine aK (K:=K) (a:=G) (xs:=nV L) Pw2 ⟨Nat.zero_le _,rfl,rfl⟩ (λi f d h=>by rw[h.2.1];exact SqL.of (by rw[ar (aB j Y)];exact j)) (λi f d h=>by rw[h.2.1];exact ae) ?_ ?_
   .rintro i x f d P' hx ⟨hi,rfl,rfl⟩ hP
    obtain⟨k,g,rfl⟩:=v9 hx;have b:i<L.length:=(List.getElem?_eq_some_iff.mp g).1;have ad:=R.sub k (List.mem_of_getElem? g)
    have F:(L.take (i+1)).filter (λk=>decide (sz z k*w<br z L))=(L.take i).filter (λk=>decide (sz z k*w<br z L))++if sz z k*w<br z L then [k] else []:=by
     rw[take_add_one,g,filter_append]
     by_cases c:sz z k*w<br z L <;> simp[c]
    refine⟨⟨rfl,rfl,rfl,trivial⟩,.inl ⟨l,_,_,_,rfl,rfl,SqL.of (by rw[ar (aB ap Y)];exact ap),yj ad,crB (by lia) (by lia),?_⟩⟩;refine ifC (λc=>?_) (λc=>?_)
    .have v:sz z k*w<br z L:=c
     rw[if_pos v]at F;refine⟨ae,?_,hP _ _ ⟨b,hW,?_⟩⟩
     .unfold nV
      rw[length_map];have:=length_filter_le (λk=>decide (sz z k*w<br z L)) (L.take i);rw[length_take]at this;lia
     .rw[F];unfold nV;rw[map_append];rfl
    .have v:¬sz z k*w<br z L:=c
     rw[if_neg v,append_nil]at F;exact hP _ _ ⟨b,rfl,by rw[F]⟩
   rintro f d ⟨_,rfl,rfl⟩
   have eT:nV ((L.take (nV L).length).filter λk=>decide (sz z k*w<br z L))=nV (stay z L w):=by
    rw[show(nV L).length=L.length by unfold nV;rw[length_map],take_of_length_le (Nat.le_refl _)];rfl
   rw[eT];have O:Same H3 (upd H3 D2 (.lst (nV (stay z L w)))):=Same.new Y;have I:(upd H3 D2 (.lst (nV (stay z L w)))) D2=some (.lst (nV (stay z L w))):=ae;generalize upd H3 D2 (.lst (nV (stay z L w)))=H4 at O I;have a8:=O _ _ ap;have y:=O _ _ j;have s4:Same H H4:=sm.trans (sD.trans O);have o:∀ L:List Nat,(nV L).length=L.length:=λL=>by unfold nV;rw[length_map]
   refine⟨_,.inl (SqL.of I),⟨_,.inl (SqL.of y),?_⟩⟩;rw[o,o];refine ifC (λc=>?_) (λc=>?_)
   .have v:(stay z L w).length=L.length:=by have z:((stay z L w).length:Int)=(L.length:Int):=c;lia
    have X:=m8 v;rw[hf]at X;have hS:0<br z L:=by have:=i6 z L λk g=>as k (R.sub k g);have:=R.pos;lia
    have a9:Bt 40 (br z L):=by
     have:=lK z 24000000 L λk g=>a4 k (R.sub k g)
     unfold Bt;have a6:(2:Nat) ^ 40=1099511627776:=by decide
     rw[a6];lia
    refine⟨l,_,rfl,a8,λD3 u=>?_⟩
    have a3:due z m=(List.range z.length).map λk=>if decide (k∈L)=true then fB (sz z k*w) (br z L) else (1,1):=by
     unfold due;rw[if_neg (by lia),if_neg (by lia),X]
    have ab:H D3=none:=s4.free u;refine oA (a:=l) (xs:=z.map V.int) (λi f d=>i<=z.length/\Same H d/\Same H4 d/\d D3=some (.lst f)/\AllF K d ((due z m).take i) f) ⟨Nat.zero_le _,s4.trans (Same.new u),Same.new u,ae,by rw[take_zero];exact .nil⟩ (λi f d h=>h.2.1 _ _ hl) (λi f d h=>h.2.2.2.1) ?_ ?_
    .rintro i x f d p P' hx ⟨hi,t1,t4,aS,hA⟩ hp hP
     have b:i<z.length:=by have:=(List.getElem?_eq_some_iff.mp hx).1;rw[length_map]at this;exact this
     have ex:x=.int (sz z i):=by
      rw[List.getElem?_map,List.getElem?_eq_getElem b]at hx;cases hx;simp[sz,List.getD,b]
     subst ex;have M:Same d (upd d p (.tup [.int (i:Nat),.int (sz z i)])):=Same.new hp;refine⟨p,_,rfl,SqT.of ae,rfl,_,_,rfl,_,_,rfl,rfl,⟨rfl,rfl,rfl,trivial⟩,?_⟩;generalize upd d p (.tup [.int (i:Nat),.int (sz z i)])=H5 at M;have S:=M _ _ aS;have yl:f.length=i:=by rw[<- hA.len,length_take,dL];lia
     have F:(due z m).take (i+1)=(due z m).take i++[if decide (i∈L)=true then fB (sz z i*w) (br z L) else (1,1)]:=by
      rw[take_add_one]
      congr 1
      rw[a3,List.getElem?_map,List.getElem?_range b];rfl
     refine⟨G,_,rfl,.inl (SqL.of ((t4.trans M) _ _ y)),rfl,yI L,?_⟩;rw[BR];refine ifB (λc=>?_) (λc=>?_)
     .have v:decide (i∈L)=true:=c
      rw[if_pos v]at F;refine⟨crB (by lia) (by lia),⟨_,_,rfl,hS,((show Bt 30 (sz z i) by have:=as i b;have:=a4 i b;unfold Bt;lia).mul (show Bt 5 w by unfold Bt;lia)).mono (by decide),a9.mono (by decide),λH6 p6 s6 e6=>?_⟩⟩;refine⟨s6 _ _ S,by lia,hP _ _ ⟨b,((t1.trans M).trans s6).put ab,?_,ae,?_⟩⟩
      .exact((t4.trans M).trans s6).put u
      .rw[F]
       have a0:=s6 _ _ S;exact AllF.snoc ⟨p6,rfl,.inl (TK.lst a0 _ _ e6)⟩ (hA.tk ((M.trans s6).tk.trans (TK.lst a0)))
     .have v:decide (i∈L)=false:=c
      rw[if_neg (by rw[v];exact Bool.false_ne_true)]at F;refine⟨S,by lia,hP _ _ ⟨b,(t1.trans M).put ab,(t4.trans M).put u,ae,?_⟩⟩;rw[F];exact AllF.snoc ⟨a.k_WHOLE,rfl,.inr T.t_WHOLE⟩ (hA.tk (M.tk.trans (TK.lst S)))
    .rintro f d ⟨_,t1,t4,aS,hA⟩
     rw[take_of_length_le (by rw[dL,length_map];exact Nat.le_refl _)]at hA;exact q d D3 f t1 ab aS hA
   .have v:(stay z L w).length≠L.length:=λe=>c (by show((stay z L w).length:Int)=(L.length:Int);lia)
    refine⟨_,rfl,⟨_,.inl (SqL.of y),⟨_,.inl (SqL.of I),⟨_,_,rfl,rfl,⟨D2,some (.int (L.map (sz z)).sum),some (.ref D2),s4,I,v,?_⟩⟩⟩⟩⟩;rw[o,o];rfl
theorem uB(T:Txt K mg a):FnOk P w K mg base CX0 4 a.f_aN a.d_aN ["sizes","many"] (spWished K):=by
 have v:FnOk P w K mg base CX0 3 _ _ _ (spSome K):=xA T;refine T.F_aN.ok t7 (λL H Q E h=>?_) (λcdv A outer s H L Q E hr h=>?_)
 .obtain⟨l,z,m,rfl,_⟩:=h;rfl
 .obtain⟨l,z,m,rfl,j,G,Y,W,q⟩:=h
  refine⟨_,(ai (aR (aT uz (ay aF rfl T.z_len bf (aa (vr 0) ac)) (vr 1) (aG _)) (aj (au (aP rfl (N:=["size"]) (ix:=[none]) ⟨rfl,rfl,rfl,rfl,trivial⟩ (aO (vr 0)) ⟨λC s H p=>ao (i:=0) (show List.Nodup (["size"]:List Str) by decide +kernel) rfl (Or.inl rfl),λC s H p=>aL,λC s H p=>(bE rfl T.g_WHOLE)⟩))) aD) (ai (aR (aT eC (vr 1) ah (aG _)) (aj (au (aP rfl (N:=["size"]) (ix:=[none]) ⟨rfl,rfl,rfl,rfl,trivial⟩ (aO (vr 0)) ⟨λC s H p=>ao (i:=0) (show List.Nodup (["size"]:List Str) by decide +kernel) rfl (Or.inl rfl),λC s H p=>aL,λC s H p=>(bE rfl T.g_NOUGHT)⟩))) aD) (aj (au (ag v hr rfl T.m_S T.F_S.kp T.B_S .nil af (aa (vr 0) (aa (vr 1) ac))))))),il ?_⟩;intro I S;have X:sizeLine=16777216:=sizeLine_eq;have Z:=G.len;refine⟨_,.inl (SqL.of j),?_⟩;rw[length_map];refine ifC (λc=>?_) (λc=>ifC (λc2=>?_) (λc2=>?_))
  .have u:(z.length:Int)<=m:=c
   have e:due z m=z.map λ_=>(1,1):=by unfold due;rw[if_pos u]
   refine .inl ⟨⟨_,SqL.of j⟩,λD o=>?_⟩
   let Pw3:PvL:=λi b d=>i<=z.length/\d=upd H D (.lst b)/\AllF K d ((due z m).take i) b
   refine aK (K:=K) (a:=l) (xs:=z.map V.int) Pw3 ⟨Nat.zero_le _,rfl,by rw[take_zero];exact .nil⟩ (λi b d h=>by rw[h.2.1];exact SqL.of (by rw[ar (aB j o)];exact j)) (λi b d h=>by rw[h.2.1];exact ae) ?_ ?_
   .rintro i x b d R F ⟨O,rfl,f⟩ B
    have g:i<z.length:=by have:=(List.getElem?_eq_some_iff.mp F).1;rw[length_map]at this;exact this
    have M:b.length=i:=by rw[<- f.len,length_take,dL];lia
    refine⟨trivial,ae,by lia,B _ _ ⟨g,hW,?_⟩⟩
    have y:(due z m).take (i+1)=(due z m).take i++[(1,1)]:=by
     rw[take_add_one]
     congr 1
     rw[e,List.getElem?_map,List.getElem?_eq_getElem g];rfl
    rw[y];exact AllF.snoc ⟨a.k_WHOLE,rfl,.inr T.t_WHOLE⟩ (f.tk (TK.lst ae))
   .rintro b d ⟨_,rfl,f⟩
    rw[take_of_length_le (by rw[dL,length_map];exact Nat.le_refl _)]at f;exact q _ D b (Same.new o) o ae f
  .have u:¬(z.length:Int)<=m:=c
   have r:m=0:=c2;have e:due z m=z.map λ_=>(0,1):=by unfold due;rw[if_neg u,if_pos r]
   refine .inl ⟨⟨_,SqL.of j⟩,λD o=>?_⟩
   let Pw4:PvL:=λi b d=>i<=z.length/\d=upd H D (.lst b)/\AllF K d ((due z m).take i) b
   refine aK (K:=K) (a:=l) (xs:=z.map V.int) Pw4 ⟨Nat.zero_le _,rfl,by rw[take_zero];exact .nil⟩ (λi b d h=>by rw[h.2.1];exact SqL.of (by rw[ar (aB j o)];exact j)) (λi b d h=>by rw[h.2.1];exact ae) ?_ ?_
   .rintro i x b d R F ⟨O,rfl,f⟩ B
    have g:i<z.length:=by have:=(List.getElem?_eq_some_iff.mp F).1;rw[length_map]at this;exact this
    have M:b.length=i:=by rw[<- f.len,length_take,dL];lia
    refine⟨trivial,ae,by lia,B _ _ ⟨g,hW,?_⟩⟩
    have y:(due z m).take (i+1)=(due z m).take i++[(0,1)]:=by
     rw[take_add_one]
     congr 1
     rw[e,List.getElem?_map,List.getElem?_eq_getElem g];rfl
    rw[y];exact AllF.snoc ⟨a.k_NOUGHT,rfl,.inr T.t_NOUGHT⟩ (f.tk (TK.lst ae))
   .rintro b d ⟨_,rfl,f⟩
    rw[take_of_length_le (by rw[dL,length_map];exact Nat.le_refl _)]at f;exact q _ D b (Same.new o) o ae f
  .have u:¬(z.length:Int)<=m:=c
   have r:¬m=0:=c2;exact⟨l,z,m,rfl,j,G,by lia,by lia,q⟩
end
abbrev Lm:Nat:=2 ^ 980
theorem vx{D B:Nat}(a:0<B)(h:D*B<Lm):D<Lm:=Nat.lt_of_le_of_lt (Nat.le_mul_of_pos_right D a) h
theorem qF{B:Nat}(h:B<=1000000000):B<Lm:=Nat.lt_of_le_of_lt h (by decide +kernel)
theorem At{B:Nat}(h:B<=1000000000):2*B<Lm:=Nat.lt_of_le_of_lt (show 2*B<=2000000000 by lia) (by decide +kernel)
def PQ(K:Frag)(H:Hp)(z:Nat×Rat)(x:V):Prop:=∃ p v,x=.ref p/\H p=some (.tup [.int (z.1:Nat),v])/\IsQ K H z.2 v
def EQ(K:Frag)(H:Hp)(z:Nat×(Rat×Rat))(x:V):Prop:=∃ p u s,x=.ref p/\H p=some (.tup [.int (z.1:Nat),u,s])/\IsQ K H z.2.1 u/\IsQ K H z.2.2 s
theorem PQ.tk{K:Frag}{H a:Hp}{z:Nat×Rat}{x:V}(k:TK H a)(h:PQ K H z x):PQ K a z x:=let ⟨p,v,e,h1,h2⟩:=h;⟨p,v,e,k _ _ h1,h2.tk k⟩
theorem EQ.tk{K:Frag}{H a:Hp}{z:Nat×(Rat×Rat)}{x:V}(k:TK H a)(h:EQ K H z x):EQ K a z x:=let ⟨p,u,s,e,h1,h2,h3⟩:=h;⟨p,u,s,e,k _ _ h1,h2.tk k,h3.tk k⟩
theorem aC{c b:Type}{R a:c->b->Prop}(f:∀ x y,R x y->a x y):∀{xs:List c}{ys:List b},Paired R xs ys->Paired a xs ys:=λh=>Paired.mapP h f
theorem bv{b a:Type}{R:b->a->Prop}{x:b}{y:a}(h:R x y):∀{xs:List b}{ys:List a},Paired R xs ys->Paired R (xs++[x]) (ys++[y]):=λg=>PySem.Paired.snoc g h
theorem nU{h c:Rat}{us:Rat×Rat}(z:h+c<1):dY h us c=(us.1*(h/(h+c)),us.2):=by unfold dY;rw[if_pos z]
theorem n9{h c:Rat}{us:Rat×Rat}(z:¬h+c<1):dY h us c=(us.1*((1 - h)/(2 - (h+c))),us.2+us.1*((1 - c)/(2 - (h+c)))):=by unfold dY;rw[if_neg z]
theorem vV{h c:Rat}(z:h+c<1):us0 h c=(c/(h+c),0):=by unfold us0;rw[if_pos z]
theorem uZ{h c:Rat}(z:¬h+c<1):us0 h c=((1 - c)/(2 - (h+c)),(1 - h)/(2 - (h+c))):=by unfold us0;rw[if_neg z]
structure Hc(B:Nat)(h c:Rat):Prop where
 B0:0<B
 B1:B<=1000000000
 hB:Bq B h
 cB:Bq B c
 h1:h<1
 c0:0<c
 c1:c<1
theorem Hc.bh{B:Nat}{h c:Rat}(H:Hc B h c):Bb h:=H.hB.bb H.B0 (qF H.B1)
theorem Hc.bc{B:Nat}{h c:Rat}(H:Hc B h c):Bb c:=H.cB.bb H.B0 (qF H.B1)
theorem Hc.bs{B:Nat}{h c:Rat}(H:Hc B h c):Bb (h+c):=(yW H.hB H.cB).bb H.B0 (qF H.B1)
theorem Hc.bs1{B:Nat}{h c:Rat}(H:Hc B h c):Bb (h+c - 1):=(wx H.hB H.cB).bb H.B0 (qF H.B1)
theorem Hc.bs2{B:Nat}{h c:Rat}(H:Hc B h c):Bb (2 - (h+c)):=(wH H.hB H.cB).bb H.B0 (qF H.B1)
theorem Hc.b1c{B:Nat}{h c:Rat}(H:Hc B h c):Bb (1 - c):=(vE H.cB).bb H.B0 (qF H.B1)
theorem Hc.b1h{B:Nat}{h c:Rat}(H:Hc B h c):Bb (1 - h):=(vE H.hB).bb H.B0 (qF H.B1)
theorem Hc.step{B:Nat}{h c:Rat}(H:Hc B h c):∃ T:Nat,0<T/\T<=2*B/\(h+c<1->Bq T (h/(h+c))/\Bq T (c/(h+c)))/\(¬h+c<1->Bq T ((1 - c)/(2 - (h+c)))/\Bq T ((1 - h)/(2 - (h+c)))):=wr H.B0 H.hB H.cB H.h1 H.c0 H.c1
theorem bb0:Bb 0:=⟨by show Bt 1000 0;unfold Bt;decide,by show Bt 1000 1;unfold Bt;decide⟩
theorem bb1:Bb 1:=⟨by show Bt 1000 1;unfold Bt;decide,by show Bt 1000 1;unfold Bt;decide⟩
theorem bb2:Bb 2:=⟨by show Bt 1000 2;unfold Bt;decide,by show Bt 1000 1;unfold Bt;decide⟩
inductive spBoth(K:Frag)(vs:List V)(H:Hp)(Q:VK)(_E:XK):Prop
 | mk(xu xs xh xc:V)(us:Rat×Rat)(h c:Rat)(D B:Nat)(h0:vs=[xu,xs,xh,xc])(h1:IsQ K H us.1 xu)(h2:IsQ K H us.2 xs)(h3:IsQ K H h xh)(h4:IsQ K H c xc)(h5:Hc B h c)(h6:Pu D us)(h7:0<D)(h8:D*B<Lm)(h9:∀ H' z,Same H H'->IsQ K H' (bk us h c) z->Q z H'):spBoth K vs H Q _E
inductive spHeld(K:Frag)(vs:List V)(H:Hp)(Q:VK)(_E:XK):Prop
 | mk(xh xc:V)(h c:Rat)(B:Nat)(h0:vs=[xh,xc])(h1:IsQ K H h xh)(h2:IsQ K H c xc)(h3:Hc B h c)(h4:∀ H' z,Same H H'->IsQ K H' (hb h c) z->Q z H'):spHeld K vs H Q _E
inductive spBeh(K:Frag)(vs:List V)(H:Hp)(Q:VK)(_E:XK):Prop
 | mk(le:Addr)(xh xc:V)(p:Nat)(h c:Rat)(es:Er)(xs:List V)(D B:Nat)(h0:vs=[.ref le,xh,.int (p:Nat),xc])(h1:H le=some (.lst xs))(h2:Paired (EQ K H) es xs)(h3:es.length<=24)(h4:IsQ K H h xh)(h5:IsQ K H c xc)(h6:Hc B h c)(h7:(∀ z∈es,Pu D z.2))(h8:0<D)(h9:D*(2*B)<Lm)(h10:∀ H' l ys,Same H H'->H l=none->H' l=some (.lst ys)->Paired (EQ K H') (es.map (λz=>(z.1,dY h z.2 c))++[(p,us0 h c)]) ys->Q (.ref l) H'):spBeh K vs H Q _E
section
variable {P:Program}{w:World}{K:Frag}{mg:Str->Option Value}{base:Heap}{a:Ad}
theorem jf(T:Txt K mg a){H:Hp}:IsQ K H 1 (.ref a.k_WHOLE):=⟨_,rfl,.inr T.t_WHOLE⟩
theorem mE(T:Txt K mg a){H:Hp}:IsQ K H 0 (.ref a.k_NOUGHT):=⟨_,rfl,.inr T.t_NOUGHT⟩
theorem xS(T:Txt K mg a){H:Hp}:IsQ K H 2 (.ref a.k_TWICE):=⟨_,rfl,.inr T.t_TWICE⟩
theorem xF(T:Txt K mg a):FnOk P w K mg base CX0 4 a.f_ax a.d_ax ["up","sure","held","chance"] (spBoth K):=by
 have e:FnOk P w K mg base CX0 3 _ _ _ (spAri (· + ·) (λ_=>True) K):=o7 T;have l:FnOk P w K mg base CX0 3 _ _ _ (spAri (· - ·) (λ_=>True) K):=mX T;have d:FnOk P w K mg base CX0 3 _ _ _ (spAri (· * ·) (λ_=>True) K):=iI T;have j:FnOk P w K mg base CX0 3 _ _ _ _:=(mf T).mono (by decide);refine T.F_ax.ok sc_ax (λM H Q E h=>?_) (λcdv A outer s H M Q E hr h=>?_)
 .obtain⟨I,Y,xh,N,m,h,c,D,B,rfl,_⟩:=h;rfl
 .obtain⟨I,Y,xh,N,m,h,c,D,B,rfl,Z,hs,W,v,b,u,p,r,q⟩:=h
  refine⟨_,(ai (ax (i:=4) sc_ax.nd rfl (Or.inl rfl) (ag l hr rfl T.m_aD T.F_aD.kp T.B_aD .nil af (aa (ag e hr rfl T.m_aJ T.F_aJ.kp T.B_aJ .nil af (aa (vr 2) (aa (vr 3) ac))) (aa (bE rfl T.g_WHOLE) ac)))) (ai (ax (i:=5) sc_ax.nd rfl (Or.inl rfl) (ag d hr rfl T.m_ap T.F_ap.kp T.B_ap .nil af (aa (vr 1) (aa (vr 3) ac)))) (aj (au (iy (dS (ag j hr rfl T.m_aK T.F_aK.kp T.B_aK .nil af (aa (bE rfl T.g_NOUGHT) (aa (vr 4) ac)))) (ag e hr rfl T.m_aJ T.F_aJ.kp T.B_aJ .nil af (aa (vr 5) (aa (ag d hr rfl T.m_ap T.F_ap.kp T.B_ap .nil af (aa (vr 0) (aa (vr 4) ac))) ac))) (vr 5)))))),il ?_⟩;intro L ab;obtain⟨k1,S,k3⟩:=u.bk b.cB b.hB b.h1 b.c1;have C:=vx b.B0 r;have x:0<D*B:=Nat.mul_pos p b.B0;refine⟨_,_,h,c,rfl,W,v,b.bh,b.bc,trivial,λH1 z1 X R=>?_⟩;refine⟨_,_,h+c,1,rfl,R,jf T,b.bs,bb1,trivial,λH2 z2 s2 y=>?_⟩;have g:=X.trans s2;refine⟨_,_,m.2,c,rfl,hs.same g,v.same g,u.2.1.bb p C,b.bc,trivial,λH3 z3 o F=>?_⟩;have f:=g.trans o;refine⟨_,_,0,h+c - 1,rfl,mE T,y.same o,bb0,b.bs1,?_⟩;refine ifC (λz=>?_) (λz=>?_)
  .have z:0<h+c - 1:=z
   refine⟨_,_,m.1,h+c - 1,rfl,Z.same f,y.same o,u.1.bb p C,b.bs1,trivial,λH4 z4 G q4=>?_⟩;refine⟨_,_,m.2*c,m.1*(h+c - 1),rfl,F.same G,q4,k1.bb x r,(S z).2.bb x r,trivial,λH5 z5 s5 O=>?_⟩;refine q _ _ (f.trans (G.trans s5)) ?_;unfold bk;rw[if_pos z];exact O
  .have z:¬0<h+c - 1:=z
   refine q _ _ f ?_;unfold bk;rw[if_neg z];exact F
theorem wV(T:Txt K mg a):FnOk P w K mg base CX0 4 a.f_ar a.d_ar ["held","chance"] (spHeld K):=by
 have f:FnOk P w K mg base CX0 3 _ _ _ (spAri (· + ·) (λ_=>True) K):=o7 T;have e:FnOk P w K mg base CX0 3 _ _ _ (spAri (· - ·) (λ_=>True) K):=mX T;have d:FnOk P w K mg base CX0 3 _ _ _ _:=(mf T).mono (by decide);refine T.F_ar.ok sc_ar (λm H Q E h=>?_) (λcdv A outer s H m Q E hr h=>?_)
 .obtain⟨v,o,h,c,B,rfl,_⟩:=h;rfl
 .obtain⟨v,o,h,c,B,rfl,p,r,b,q⟩:=h
  refine⟨_,(ai (ax (i:=2) sc_ar.nd rfl (Or.inl rfl) (ag f hr rfl T.m_aJ T.F_aJ.kp T.B_aJ .nil af (aa (vr 0) (aa (vr 1) ac)))) (aj (au (iy (dS (ag d hr rfl T.m_aK T.F_aK.kp T.B_aK .nil af (aa (vr 2) (aa (bE rfl T.g_WHOLE) ac)))) (vr 2) (ag e hr rfl T.m_aD T.F_aD.kp T.B_aD .nil af (aa (vr 2) (aa (bE rfl T.g_WHOLE) ac))))))),eE ?_⟩;intro x;refine⟨_,_,h,c,rfl,p,r,b.bh,b.bc,trivial,λy D j g=>?_⟩;refine⟨_,_,h+c,1,rfl,g,jf T,b.bs,bb1,?_⟩;refine ifC (λz=>?_) (λz=>?_)
  .have z:h+c<1:=z
   refine q _ _ j ?_;unfold hb;rw[if_pos z];exact g
  .have z:¬h+c<1:=z
   refine⟨_,_,h+c,1,rfl,g,jf T,b.bs,bb1,trivial,λF C l u=>?_⟩;refine q _ _ (j.trans l) ?_;unfold hb;rw[if_neg z];exact u
theorem zi(T:Txt K mg a):FnOk P w K mg base CX0 4 a.f_ae a.d_ae ["earlier","held","place","chance"] (spBeh K):=by
 have ad:FnOk P w K mg base CX0 3 _ _ _ (spAri (· + ·) (λ_=>True) K):=o7 T;have M:FnOk P w K mg base CX0 3 _ _ _ (spAri (· - ·) (λ_=>True) K):=mX T;have L:FnOk P w K mg base CX0 3 _ _ _ (spAri (· * ·) (λ_=>True) K):=iI T;have m:FnOk P w K mg base CX0 3 _ _ _ (spAri (· / ·) (λq=>0<q) K):=xX T;have bo:FnOk P w K mg base CX0 3 _ _ _ _:=(mf T).mono (by decide);refine T.F_ae.ok sc_ae (λvs H Q E h=>?_) (λcdv A outer s H vs Q E hr h=>?_)
 .obtain⟨le,xh,xc,p,h,c,es,xs,D,B,rfl,_⟩:=h;rfl
 .obtain⟨le,xh,xc,p,h,c,es,xs,D,B,rfl,bd,hE,b5,hh,hc,b,hP,hD,a8,q⟩:=h
  have b4:sizeLine=16777216:=sizeLine_eq
  refine⟨_,(ai (ax (i:=4) sc_ae.nd rfl (Or.inl rfl) (ag ad hr rfl T.m_aJ T.F_aJ.kp T.B_aJ .nil af (aa (vr 1) (aa (vr 3) ac)))) (ai (aR (dS (ag bo hr rfl T.m_aK T.F_aK.kp T.B_aK .nil af (aa (vr 4) (aa (bE rfl T.g_WHOLE) ac)))) (ai (ax (i:=5) sc_ae.nd rfl (Or.inr rfl) (ag m hr rfl T.m_aM T.F_aM.kp T.B_aM .nil af (aa (vr 1) (aa (vr 4) ac)))) (ai (fA rfl (i:=6) sc_ae.nd rfl rfl (by with_unfolding_all rfl) (N:=["one","up","sure","stays"]) (ix:=[none,none,none,some 5]) ⟨rfl,rfl,rfl,rfl,⟨rfl,rfl,rfl,trivial⟩⟩ (aO (vr 0)) ⟨λC s H fp=>(bx (K:=K) (n:=3) rfl rfl (aq (ao (i:=0) (show List.Nodup (["one","up","sure","stays"]:List Str) by decide +kernel) rfl (Or.inl rfl)) (aq (ao (i:=1) (show List.Nodup (["one","up","sure","stays"]:List Str) by decide +kernel) rfl (Or.inl rfl)) (aq (ao (i:=2) (show List.Nodup (["one","up","sure","stays"]:List Str) by decide +kernel) rfl (Or.inl rfl)) aJ)))),λC s H fp=>aL,λC s H fp=>(aE (aa (vr 0) (aa (ag L hr rfl T.m_ap T.F_ap.kp T.B_ap .nil af (aa (vr 1) (aa (vr 3) ac))) (aa (vr 2) ac))))⟩) (aj (au (aw nj (vr 6) (aN (aa (aE (aa (vr 2) (aa (ag m hr rfl T.m_aM T.F_aM.kp T.B_aM .nil af (aa (vr 3) (aa (vr 4) ac))) (aa (bE rfl T.g_NOUGHT) ac)))) ac))))))) aD) (ai (ax (i:=7) sc_ae.nd rfl (Or.inl rfl) (ag M hr rfl T.m_aD T.F_aD.kp T.B_aD .nil af (aa (bE rfl T.g_TWICE) (aa (vr 4) ac)))) (ai (ax (i:=8) sc_ae.nd rfl (Or.inr rfl) (ag m hr rfl T.m_aM T.F_aM.kp T.B_aM .nil af (aa (ag M hr rfl T.m_aD T.F_aD.kp T.B_aD .nil af (aa (bE rfl T.g_WHOLE) (aa (vr 3) ac))) (aa (vr 7) ac)))) (ai (ax (i:=9) sc_ae.nd rfl (Or.inr rfl) (ag m hr rfl T.m_aM T.F_aM.kp T.B_aM .nil af (aa (ag M hr rfl T.m_aD T.F_aD.kp T.B_aD .nil af (aa (bE rfl T.g_WHOLE) (aa (vr 1) ac))) (aa (vr 7) ac)))) (ai (fA rfl (i:=6) sc_ae.nd rfl rfl (by with_unfolding_all rfl) (N:=["one","up","sure","back","ahead"]) (ix:=[none,none,none,some 9,some 8]) ⟨rfl,rfl,rfl,rfl,⟨rfl,rfl,rfl,⟨rfl,rfl,rfl,trivial⟩⟩⟩ (aO (vr 0)) ⟨λC s H fp=>(bx (K:=K) (n:=3) rfl rfl (aq (ao (i:=0) (show List.Nodup (["one","up","sure","back","ahead"]:List Str) by decide +kernel) rfl (Or.inl rfl)) (aq (ao (i:=1) (show List.Nodup (["one","up","sure","back","ahead"]:List Str) by decide +kernel) rfl (Or.inl rfl)) (aq (ao (i:=2) (show List.Nodup (["one","up","sure","back","ahead"]:List Str) by decide +kernel) rfl (Or.inl rfl)) aJ)))),λC s H fp=>aL,λC s H fp=>(aE (aa (vr 0) (aa (ag L hr rfl T.m_ap T.F_ap.kp T.B_ap .nil af (aa (vr 1) (aa (vr 3) ac))) (aa (ag ad hr rfl T.m_aJ T.F_aJ.kp T.B_aJ .nil af (aa (vr 2) (aa (ag L hr rfl T.m_ap T.F_ap.kp T.B_ap .nil af (aa (vr 1) (aa (vr 4) ac))) ac))) ac))))⟩) (aj (au (aw nj (vr 6) (aN (aa (aE (aa (vr 2) (aa (vr 8) (aa (vr 9) ac)))) ac))))))))))),Ay ?_⟩
  intro b6 b' b9 ca ch cg;obtain⟨TT,t0,t1,hT⟩:=b.step;have h0:=b.hB.1;have lD:D<Lm:=vx (show 0<2*B by have:=b.B0;lia) a8;have lT:TT<Lm:=Nat.lt_of_le_of_lt t1 (At b.B1);have b1:D*TT<Lm:=Nat.lt_of_le_of_lt (Nat.mul_le_mul_left D t1) a8;have b2:0<D*TT:=Nat.mul_pos hD t0;have bl:xs.length=es.length:=(Paired.length hE).symm;refine⟨_,_,h,c,rfl,hh,hc,b.bh,b.bc,trivial,λH1 z1 s1 q1=>?_⟩;refine⟨_,_,h+c,1,rfl,q1,jf T,b.bs,bb1,?_⟩;have sp:0<h+c:=by have:=b.c0;grind
  refine ifC (λz=>?_) (λz=>?_)
  .have z:h+c<1:=z
   obtain⟨t2,t3⟩:=hT.1 z;refine⟨_,_,h,h+c,rfl,hh.same s1,q1,b.bh,b.bs,sp,λH2 z2 s2 q2=>?_⟩;have r:=s1.trans s2;have an:=r _ _ bd;have b0:=aC (λz x (h:EQ K H z x)=>h.tk r.tk) hE;refine .inl ⟨⟨_,SqL.of an⟩,λE0 O=>?_⟩
   let Pw1:PvL:=λi f g=>i<=xs.length/\Same H2 g/\g E0=some (.lst f)/\Paired (EQ K g) ((es.take i).map λz=>(z.1,dY h z.2 c)) f
   refine aK (K:=K) (a:=le) (xs:=xs) Pw1 ⟨Nat.zero_le _,Same.new O,ae,.nil⟩ (λi f g h=>SqL.of (h.2.1 _ _ an)) (λi f g h=>h.2.2.1) ?_ ?_
   .rintro i y f g P' hy ⟨hi,W,ab,d⟩ a0
    obtain⟨⟨o,Y⟩,S,pp,u,sv,rfl,g1,g2,g3⟩:=aM (aC (λz x (h:EQ K H2 z x)=>h.tk W.tk) b0) hy;have aS:i<xs.length:=(List.getElem?_eq_some_iff.mp hy).1;have v:=hP _ (List.mem_of_getElem? S);have yl:f.length<=24:=by rw[<- Paired.length d,length_map,length_take];lia
    refine⟨pp,_,rfl,SqT.of g1,rfl,_,_,rfl,_,_,rfl,_,_,rfl,rfl,⟨rfl,trivial⟩,?_⟩;refine⟨_,_,Y.1,h/(h+c),rfl,g2,q2.same W,v.1.bb hD lD,t2.bb t0 lT,trivial,λH4 I X q4=>?_⟩;refine⟨(by show 3<=sizeLine;decide),λl e=>?_⟩;have s5:=Same.new (o:=.tup [.int (o:Nat),I,sv]) e;have bN:=s5 _ _ (X _ _ ab);have ne:l≠E0:=λz=>by rw[z,X _ _ ab]at e;cases e
    have a1:TK H4 (upd (upd H4 l (.tup [.int (o:Nat),I,sv])) E0 (.lst (f++[.ref l]))):=s5.tk.trans (TK.lst bN);refine⟨bN,by lia,a0 _ _ ⟨aS,((W.trans X).trans s5).put O,ae,?_⟩⟩;rw[take_add_one,S,map_append];refine bv ⟨l,I,sv,rfl,by rw[ar ne];exact ae,?_,?_⟩ (aC (λz x (h:EQ K g z x)=>(h.tk X.tk).tk a1) d)
    .show IsQ K _ (dY h Y c).1 I;rw[nU z];exact q4.tk a1
    .show IsQ K _ (dY h Y c).2 sv;rw[nU z];exact(g3.same X).tk a1
   .rintro f g ⟨_,W,ab,d⟩
    rw[bl,take_length]at d;have as:=r.trans W;refine⟨_,_,c,h+c,rfl,hc.same as,q1.same (s2.trans W),b.bc,b.bs,sp,λH4 I X q4=>?_⟩;refine⟨(by show 3<=sizeLine;decide),λl e=>?_⟩;have s5:=Same.new (o:=.tup [.int (p:Nat),I,.ref a.k_NOUGHT]) e;refine⟨(by show 1<=sizeLine;decide),λl1 a4=>?_⟩;have s6:=Same.new (o:=.lst [.ref l]) a4;have F:=X.trans (s5.trans s6);have yl:f.length<=24:=by rw[<- Paired.length d,length_map];lia
    refine⟨E0,l1,_,_,rfl,rfl,F _ _ ab,ae,by simp;lia,λl2 R=>?_⟩;have G:=Same.new (o:=.lst (f++[.ref l])) R;have a6:=F.trans G;refine q _ l2 _ (as.trans a6) ((as.trans F).free R) ae ?_;refine bv ⟨l,I,_,rfl,(s6.trans G) _ _ ae,?_,?_⟩ (aC (λz x (h:EQ K g z x)=>h.tk a6.tk) d)
    .show IsQ K _ (us0 h c).1 I;rw[vV z];exact q4.same (s5.trans (s6.trans G))
    .show IsQ K _ (us0 h c).2 _;rw[vV z];exact mE T
  .have z:¬h+c<1:=z
   obtain⟨t2,t3⟩:=hT.2 z;have a7:0<2 - (h+c):=by have:=b.h1;have:=b.c1;grind
   refine⟨_,_,2,h+c,rfl,xS T,q1,bb2,b.bs,trivial,λH2 z2 s2 q2=>?_⟩;have r:=s1.trans s2;refine⟨_,_,1,c,rfl,jf T,hc.same r,bb1,b.bc,trivial,λH3 z3 W q3=>?_⟩;refine⟨_,_,1 - c,2 - (h+c),rfl,q3,q2.same W,b.b1c,b.bs2,a7,λH4 I X q4=>?_⟩;have a':=r.trans (W.trans X);refine⟨_,_,1,h,rfl,jf T,hh.same a',bb1,b.bh,trivial,λH5 z5 s5 q5=>?_⟩;refine⟨_,_,1 - h,2 - (h+c),rfl,q5,q2.same (W.trans (X.trans s5)),b.b1h,b.bs2,a7,λH6 z6 s6 q6=>?_⟩;have F:=s5.trans s6;have a3:=a'.trans F;have qa:=q4.same F;have ap:=a3 _ _ bd;have b3:=aC (λz x (h:EQ K H z x)=>h.tk a3.tk) hE;refine .inl ⟨⟨_,SqL.of ap⟩,λE0 O=>?_⟩
   let Pw2:PvL:=λi f g=>i<=xs.length/\Same H6 g/\g E0=some (.lst f)/\Paired (EQ K g) ((es.take i).map λz=>(z.1,dY h z.2 c)) f
   refine aK (K:=K) (a:=le) (xs:=xs) Pw2 ⟨Nat.zero_le _,Same.new O,ae,.nil⟩ (λi f g h=>SqL.of (h.2.1 _ _ ap)) (λi f g h=>h.2.2.1) ?_ ?_
   .rintro i y f g P' hy ⟨hi,G,Z,d⟩ a0
    obtain⟨⟨o,Y⟩,S,pp,u,sv,rfl,g1,g2,g3⟩:=aM (aC (λz x (h:EQ K H6 z x)=>h.tk G.tk) b3) hy;have aS:i<xs.length:=(List.getElem?_eq_some_iff.mp hy).1;have v:=hP _ (List.mem_of_getElem? S);have yl:f.length<=24:=by rw[<- Paired.length d,length_map,length_take];lia
    refine⟨pp,_,rfl,SqT.of g1,rfl,_,_,rfl,_,_,rfl,_,_,rfl,rfl,⟨rfl,rfl,trivial⟩,?_⟩;refine⟨_,_,Y.1,(1 - h)/(2 - (h+c)),rfl,g2,q6.same G,v.1.bb hD lD,t3.bb t0 lT,trivial,λH8 z8 s8 q8=>?_⟩;refine⟨_,_,Y.1,(1 - c)/(2 - (h+c)),rfl,g2.same s8,qa.same (G.trans s8),v.1.bb hD lD,t2.bb t0 lT,trivial,λH9 z9 s9 q9=>?_⟩;refine⟨_,_,Y.2,Y.1*((1 - c)/(2 - (h+c))),rfl,g3.same (s8.trans s9),q9,v.2.1.bb hD lD,(v.1.mul t2).bb b2 b1,trivial,λHA zA sA qA=>?_⟩;refine⟨(by show 3<=sizeLine;decide),λl e=>?_⟩;have j:=s8.trans (s9.trans sA);have sB:=Same.new (o:=.tup [.int (o:Nat),z8,zA]) e;have a9:=sB _ _ (j _ _ Z);have ne:l≠E0:=λz=>by rw[z,j _ _ Z]at e;cases e
    have a5:TK HA (upd (upd HA l (.tup [.int (o:Nat),z8,zA])) E0 (.lst (f++[.ref l]))):=sB.tk.trans (TK.lst a9);refine⟨a9,by lia,a0 _ _ ⟨aS,((G.trans j).trans sB).put O,ae,?_⟩⟩;rw[take_add_one,S,map_append];refine bv ⟨l,z8,zA,rfl,by rw[ar ne];exact ae,?_,?_⟩ (aC (λz x (h:EQ K g z x)=>(h.tk j.tk).tk a5) d)
    .show IsQ K _ (dY h Y c).1 z8;rw[n9 z];exact(q8.same (s9.trans sA)).tk a5
    .show IsQ K _ (dY h Y c).2 zA;rw[n9 z];exact qA.tk a5
   .rintro f g ⟨_,G,Z,d⟩
    rw[bl,take_length]at d;have bm:=a3.trans G;refine⟨(by show 3<=sizeLine;decide),λl e=>?_⟩;have s8:=Same.new (o:=.tup [.int (p:Nat),I,z6]) e;refine⟨(by show 1<=sizeLine;decide),λl1 a4=>?_⟩;have s9:=Same.new (o:=.lst [.ref l]) a4;have a2:=s8.trans s9;have yl:f.length<=24:=by rw[<- Paired.length d,length_map];lia
    refine⟨E0,l1,_,_,rfl,rfl,a2 _ _ Z,ae,by simp;lia,λl2 R=>?_⟩;have sA:=Same.new (o:=.lst (f++[.ref l])) R;have j:=a2.trans sA;refine q _ l2 _ (bm.trans j) ((bm.trans a2).free R) ae ?_;refine bv ⟨l,I,z6,rfl,(s9.trans sA) _ _ ae,?_,?_⟩ (aC (λz x (h:EQ K g z x)=>h.tk j.tk) d)
    .show IsQ K _ (us0 h c).1 I;rw[uZ z];exact qa.same (G.trans j)
    .show IsQ K _ (us0 h c).2 z6;rw[uZ z];exact q6.same (G.trans j)
end
def ky(x y:Nat):List Key:=[.inl (x:Int),.inl (y:Int)]
theorem zC{x y b a:Nat}(h:ky x y=ky b a):x=b/\y=a:=by
 unfold ky at h;simp at h;lia
def DF(K:Frag)(H:Hp)(kvs:List (List Key×V))(f:Fn):Prop:=∀ x y:Nat,(∀ v,f x y=some v->∃ z,cR kvs (ky x y)=some z/\IsQ K H v z)/\(f x y=none->cR kvs (ky x y)=none)
theorem DF.tk{K:Frag}{H b:Hp}{a:List (List Key×V)}{f:Fn}(k:TK H b)(h:DF K H a f):DF K b a f:=λx y=>⟨λv e=>let ⟨z,h1,h2⟩:=(h x y).1 v e;⟨z,h1,h2.tk k⟩,(h x y).2⟩
theorem DF.put{K:Frag}{H:Hp}{d:List (List Key×V)}{f:Fn}{x y:Nat}{v:Rat}{z:V}(h:DF K H d f)(hz:IsQ K H v z):DF K H (eL d (ky x y) z) (nz f x y v):=λa b=>by
 rw[iN]
 by_cases c:a=x/\b=y
 .obtain⟨rfl,rfl⟩:=c
  rw[if_pos rfl,xk];exact⟨(λv e=>by cases e;exact⟨z,rfl,hz⟩),(λe=>by cases e)⟩
 .rw[if_neg (λe=>c (zC e)),w5 c]
  exact h a b
theorem TK.dT{H:Hp}{d:Addr}{a:List (List Key×V)}{o:HO}(h:H d=some (.dT a)):TK H (upd H d o):=λb c e=>by rw[ar (λz=>by rw[z,h]at e;cases e)];exact e
theorem AA{B i:Nat}(f:B<=1000000000)(e:i<=24):(2*B) ^ i*(2*B)<Lm:=by
 have a:2*B<=2 ^ 31:=by lia
 have d:(2*B) ^ i<=(2 ^ 31) ^ i:=Nat.pow_le_pow_left a i;have c:(2 ^ 31) ^ i<=(2 ^ 31) ^ 24:=Nat.pow_le_pow_right (by decide) e;have b:(2*B) ^ i*(2*B)<=(2 ^ 31) ^ 24*2 ^ 31:=Nat.mul_le_mul (Nat.le_trans d c) a;exact Nat.lt_of_le_of_lt b (by decide +kernel)
structure KtS(B:Nat)(L:List (Nat×Rat))(i:Nat)(S:Fn×Er×Rat):Prop where
 eq:S=(L.take i).foldl jX k0
 hB:Bq B S.2.2
 h1:S.2.2<1
 len:S.2.1.length=i
 D:∃ D,0<D/\D<=(2*B) ^ i/\∀ z∈S.2.1,Pu D z.2
theorem KtS.start{B:Nat}{L:List (Nat×Rat)}:KtS B L 0 k0:=⟨rfl,Bq.zero,by show(0:Rat)<1;grind,rfl,1,by decide,by simp,λz a=>by cases a⟩
theorem KtS.step{B:Nat}{L:List (Nat×Rat)}{i:Nat}{S:Fn×Er×Rat}{z:Nat×Rat}(k:KtS B L i S)(h:0<B)(l:B<=1000000000)(hz:L[i]? = some z)(e:Bq B z.2)(a:Uns z.2):Hc B S.2.2 z.2/\KtS B L (i+1) (jX S z):=by
 have c:Hc B S.2.2 z.2:=⟨h,l,k.hB,e,k.h1,a.1,a.2⟩
 refine⟨c,?_,yv k.hB e k.h1 a.2,(AN k.hB.1 k.h1 a.1 a.2).2,?_,?_⟩
 .rw[take_add_one,hz,foldl_append,<- k.eq];rfl
 .show(S.2.1.map _++[_]).length=i+1
  rw[length_append,length_map,k.len];rfl
 .obtain⟨D,p,r,g⟩:=k.D
  obtain⟨T,j,o,d⟩:=c.step;refine⟨D*T,Nat.mul_pos p j,?_,λy b=>?_⟩
  .rw[Nat.pow_succ];exact Nat.mul_le_mul r o
  .have b:y∈S.2.1.map (λw=>(w.1,dY S.2.2 w.2 z.2))++[(z.1,us0 S.2.2 z.2)]:=b
   rcases mem_append.mp b with m | m
   .obtain⟨w,f,rfl⟩:=mem_map.mp m
    exact(g w f).step (B:=B) k.hB.1 k.h1 a.1 a.2 d
   .cases mem_singleton.mp m
    exact(Pu.new k.hB.1 k.h1 a.1 a.2 d).up D
inductive spKept(K:Frag)(vs:List V)(H:Hp)(Q:VK)(_E:XK):Prop
 | mk(lt:Addr)(xs:List V)(L:List (Nat×Rat))(B:Nat)(h0:vs=[.ref lt])(h1:H lt=some (.lst xs))(h2:Paired (PQ K H) L xs)(h3:L.length<=24)(h4:0<B)(h5:B<=1000000000)(h6:(∀ z∈L,Bq B z.2/\Uns z.2))(h7:∀ H' d kvs,Same H H'->H d=none->H' d=some (.dT kvs)->DF K H' kvs (pL L)->Q (.ref d) H'):spKept K vs H Q _E
section
variable {P:Program}{w:World}{K:Frag}{mg:Str->Option Value}{base:Heap}{a:Ad}
theorem wX(T:Txt K mg a):FnOk P w K mg base CX0 5 a.f_R a.d_R ["told"] (spKept K):=by
 have bd:FnOk P w K mg base CX0 4 _ _ _ (spBoth K):=xF T;have bl:FnOk P w K mg base CX0 4 _ _ _ (spBeh K):=zi T;have a4:FnOk P w K mg base CX0 4 _ _ _ (spHeld K):=wV T;refine T.F_R.ok sc_R (λvs H Q E h=>?_) (λcdv A outer s H vs Q E hr h=>?_)
 .obtain⟨lt,xs,L,B,rfl,_⟩:=h;rfl
 .obtain⟨lt,xs,L,B,rfl,a5,hL,ck,B0,B1,hq,q⟩:=h
  have cg:sizeLine=16777216:=sizeLine_eq;have b3:xs.length=L.length:=(Paired.length hL).symm;refine⟨_,(ai (ax (i:=1) sc_R.nd rfl (Or.inl rfl) wl) (ai (ax (i:=2) sc_R.nd rfl (Or.inl rfl) (aN ac)) (ai (ax (i:=3) sc_R.nd rfl (Or.inl rfl) (bE rfl T.g_NOUGHT)) (ai (fY PassesOwn.never rfl (aO (vr 0)) (dz rfl (aq (ao (i:=4) sc_R.nd rfl (Or.inl rfl)) (aq (ao (i:=5) sc_R.nd rfl (Or.inl rfl)) aJ))) (ai (fY PassesOwn.never rfl (aO (vr 2)) (dz rfl (aq (ao (i:=6) sc_R.nd rfl (Or.inl rfl)) (aq (ao (i:=7) sc_R.nd rfl (Or.inl rfl)) (aq (ao (i:=8) sc_R.nd rfl (Or.inl rfl)) aJ)))) (ai (oE (nX hr) (vr 1) (aE (aa (vr 6) (aa (vr 4) ac))) (ag bd hr rfl T.m_ax T.F_ax.kp T.B_ax .nil af (aa (vr 7) (aa (vr 8) (aa (vr 3) (aa (vr 5) ac))))) rfl) (aj (oE (nX hr) (vr 1) (aE (aa (vr 4) (aa (vr 6) ac))) (rX (nX hr) (vr 1) (aE (aa (vr 6) (aa (vr 4) ac))) (λ_ _=>rfl)) rfl)))) (ai (ax (i:=2) sc_R.nd rfl (Or.inl rfl) (ag bl hr rfl T.m_ae T.F_ae.kp T.B_ae .nil af (aa (vr 2) (aa (vr 3) (aa (vr 4) (aa (vr 5) ac)))))) (aj (ax (i:=3) sc_R.nd rfl (Or.inl rfl) (ag a4 hr rfl T.m_ar T.F_ar.kp T.B_ar .nil af (aa (vr 3) (aa (vr 5) ac)))))))) (aj (au (vr 1))))))),si ?_⟩;intro co ct cS cO;intro d fd;have s1:=Same.new (o:=.dT []) fd;have a7:=ae (H:=H) (a:=d) (o:=.dT []);generalize upd H d (.dT [])=H1 at s1 a7;refine⟨Nat.zero_le _,λY ad=>?_⟩;have s2:=Same.new (o:=.lst []) ad;have aS:=s1.trans s2;have C:=s2 _ _ a7;have ap:=ae (H:=H1) (a:=Y) (o:=.lst []);have cs:H Y=none:=s1.free ad;generalize upd H1 Y (.lst [])=I at s2 aS C ap
  let Pw1:PvS:=λi X r=>∃(S:Fn×Er×Rat) (m:List (List Key×V)) (N:Addr) (G:List V) (xh:V) (x4 x5 Z x7 R:Option V),KtS B L i S/\Same H r/\r d=some (.dT m)/\m.length<=48*i/\DF K r m S.1/\r N=some (.lst G)/\Paired (EQ K r) S.2.1 G/\IsQ K r S.2.2 xh/\X=[some (.ref lt),some (.ref d),some (.ref N),some xh,x4,x5,Z,x7,R]
  refine .inl ⟨⟨_,SqL.of (aS _ _ a5)⟩,gL (K:=K) (a:=lt) (xs:=xs) Pw1
   ⟨k0,[],Y,[],_,none,none,none,none,none,KtS.start,aS,C,Nat.zero_le _,(λx y=>⟨(λv e=>by cases e),λ_=>rfl⟩),ap,.nil,mE T,rfl⟩ (λi X r _ h=>?_) ?_ ?_⟩
  .obtain⟨S,m,N,G,xh,x4,x5,Z,x7,R,k,sH,_⟩:=h
   exact SqL.of (sH _ _ a5)
  .rintro i x X r hx ⟨S,m,N,G,xh,x4,x5,Z,x7,R,k,sH,hd,b0,hF,p,hE,hh,rfl⟩
   obtain⟨⟨g,c⟩,a2,pp,vc,rfl,g1,g2⟩:=aM (aC (λz x (h:PQ K H z x)=>h.tk sH.tk) hL) hx;have cB:i<L.length:=(List.getElem?_eq_some_iff.mp a2).1;obtain⟨ca,b1⟩:=hq _ (List.mem_of_getElem? a2);obtain⟨hc,kn⟩:=k.step B0 B1 a2 ca b1;obtain⟨D,d0,d1,hP⟩:=k.D;have as:D*(2*B)<Lm:=Nat.lt_of_le_of_lt (Nat.mul_le_mul_right _ d1) (AA B1 (by lia));have b5:D*B<Lm:=Nat.lt_of_le_of_lt (Nat.mul_le_mul_left D (by lia)) as;have b':G.length=i:=by rw[<- Paired.length hE];exact k.len
   refine⟨pp,_,rfl,SqT.of g1,rfl,_,_,rfl,_,_,rfl,rfl,?_⟩
   let Pw2:PvS:=λj X I=>∃(f:List (List Key×V)) (Z x7 R:Option V),(∀ b o,b≠d->r b=some o->I b=some o)/\I d=some (.dT f)/\f.length<=48*i+2*j/\DF K I f (qr g S.2.2 c (S.2.1.take j) S.1)/\X=[some (.ref lt),some (.ref d),some (.ref N),some xh,some (.int (g:Nat)),some vc,Z,x7,R]
   refine .inl ⟨⟨_,SqL.of p⟩,gL (K:=K) (a:=N) (xs:=G) Pw2
    ⟨m,_,_,_,(λb o _ e=>e),hd,by lia,by rw[take_zero];exact hF,rfl⟩ (λj X I _ h=>?_) ?_ ?_⟩
   .obtain⟨f,Z,x7,R,kp,_⟩:=h
    exact SqL.of (kp _ _ (λz=>by rw[z,hd]at p;cases p) p)
   .rintro j y X I hy ⟨f,Z,x7,R,kp,C,b6,O,rfl⟩
    have l:TK r I:=λb us e=>kp _ _ (λz=>by rw[z,hd]at e;cases e) e
    obtain⟨⟨o,us⟩,a',pe,u,sv,rfl,e1,e2,e3⟩:=aM (aC (λz x (h:EQ K r z x)=>h.tk l) hE) hy;have cT:j<G.length:=(List.getElem?_eq_some_iff.mp hy).1;refine⟨pe,_,rfl,SqT.of e1,rfl,_,_,rfl,_,_,rfl,_,_,rfl,rfl,?_⟩;refine⟨_,_,_,_,us,S.2.2,c,D,B,rfl,e2,e3,hh.tk l,g2.tk l,hc,hP _ (List.mem_of_getElem? a'),d0,b5,λH3 M s3 qb=>?_⟩;refine⟨cb _ _,λk1 b4=>?_⟩;have F:=Same.new (o:=.tup [.int (o:Nat),.int (g:Nat)]) b4;have W:=(s3.trans F) _ _ C;have a6:=ae (H:=H3) (a:=k1) (o:=.tup [.int (o:Nat),.int (g:Nat)]);generalize upd H3 k1 (.tup [.int (o:Nat),.int (g:Nat)])=H4 at F W a6;refine⟨d,_,rfl,.inr ⟨f,ky o g,k1,W,rfl,a6,by lia,rfl⟩,?_⟩;have a9:=((O.tk (s3.trans F).tk).put (x:=o) (y:=g) (qb.same F)).tk (TK.dT (o:=.dT (eL f (ky o g) M)) W);have bm:IsQ K (upd H4 d (.dT (eL f (ky o g) M))) (bk us S.2.2 c) M:=(qb.same F).tk (TK.dT W);have bo:=ae (H:=H4) (a:=d) (o:=.dT (eL f (ky o g) M));have k5:∀ b o',b≠d->r b=some o'->(upd H4 d (.dT (eL f (ky o g) M))) b=some o':=λb o' n e=>by rw[ar n];exact(s3.trans F) _ _ (kp _ _ n e)
    generalize upd H4 d (.dT (eL f (ky o g) M))=H5 at a9 bm bo k5;have cW:=gh f (ky o g) M;refine⟨cb _ _,λk2 cj=>?_⟩;have s6:=Same.new (o:=.tup [.int (o:Nat),.int (g:Nat)]) cj;have an:=ae (H:=H5) (a:=k2) (o:=.tup [.int (o:Nat),.int (g:Nat)]);have a3:=s6 _ _ bo;generalize upd H5 k2 (.tup [.int (o:Nat),.int (g:Nat)])=H6 at s6 an a3;refine⟨d,M,rfl,.inr ⟨_,ky o g,k2,.inl a3,rfl,an,by rw[iN,if_pos rfl]⟩,?_⟩;refine⟨cb _ _,λk3 b9=>?_⟩;have s7:=Same.new (o:=.tup [.int (g:Nat),.int (o:Nat)]) b9;have a8:=ae (H:=H6) (a:=k3) (o:=.tup [.int (g:Nat),.int (o:Nat)]);have a1:=s7 _ _ a3;have ab:=s6.trans s7;generalize upd H6 k3 (.tup [.int (g:Nat),.int (o:Nat)])=H7 at s7 a8 a1 ab;refine⟨d,_,rfl,.inr ⟨_,ky g o,k3,a1,rfl,a8,by lia,rfl⟩,?_⟩;have cC:=gh (eL f (ky o g) M) (ky g o) M;refine⟨_,_,_,_,(λb o' n e=>by rw[ar n];exact ab _ _ (k5 _ _ n e)),ae,by lia,?_,rfl⟩
    have bN:qr g S.2.2 c (S.2.1.take (j+1)) S.1=nz (nz (qr g S.2.2 c (S.2.1.take j) S.1) o g (bk us S.2.2 c)) g o (bk us S.2.2 c):=by
     rw[take_add_one,a'];unfold qr;rw[foldl_append];rfl
    rw[bN];exact((a9.tk ab.tk).put (x:=g) (y:=o) (bm.same ab)).tk (TK.dT a1)
   .rintro X I ⟨f,Z,x7,R,kp,C,b6,O,rfl⟩
    have eT:S.2.1.take G.length=S.2.1:=by rw[b',<- k.len,take_length]
    rw[eT]at O;have l:TK r I:=λb us e=>kp _ _ (λz=>by rw[z,hd]at e;cases e) e
    have ch:N≠d:=λz=>by rw[z,hd]at p;cases p
    have b2:Same H I:=λb o e=>kp _ _ (aB e fd) (sH _ _ e)
    refine⟨N,_,_,g,S.2.2,c,S.2.1,G,D,B,rfl,kp _ _ ch p,aC (λz x (h:EQ K r z x)=>h.tk l) hE,by rw[k.len];lia,hh.tk l,g2.tk l,hc,hP,d0,as,λH3 l3 es3 s3 f3 h3 hE3=>?_⟩;refine⟨_,_,S.2.2,c,B,rfl,(hh.tk l).same s3,(g2.tk l).same s3,hc,λH4 z4 F q4=>?_⟩;have a0:=s3.trans F;exact⟨jX S (g,c),f,l3,es3,z4,_,_,_,_,_,kn,b2.trans a0,a0 _ _ C,by lia,O.tk a0.tk,F _ _ h3,aC (λz x (h:EQ K H3 z x)=>h.tk F.tk) hE3,q4,rfl⟩
  .rintro X r ⟨S,m,N,G,xh,x4,x5,Z,x7,R,k,sH,hd,b0,hF,p,hE,hh,rfl⟩
   have eS:=k.eq;rw[b3,take_length]at eS;rw[eS]at hF;exact q _ d m sH fd hd hF
end
end My
namespace My
open PySem L2 FrM Du Nw
open Nst (Mb plc szs hd tl dr groups aW parts outer aX bq bz)
def dO:HO->Bool
 | .lst _=>true
 | .tup _=>true
 | .ins _ _ _=>true
 | _=>false
def NC(H H':Hp):Prop:=∀ b o,dO o=true->H b=some o->H' b=some o
theorem aZ{H a:Hp}(s:SameT H a):NC H a:=λb o d e=>(s b o e).1 (by cases o <;> first | rfl | cases d)
theorem yt{H:Hp}{a:List (Str×Addr)}{c:List V}(f:CellsAt H a c):NC H (untrs H (a.map (·.2))):=λb o d e=>cV f e (by rintro v rfl;cases d)
theorem IsF.n{K:Frag}{H a:Hp}{f:Int×Int}{x:V}(s:NC H a)(h:IsF K H f x):IsF K a f x:=let ⟨p,e,q⟩:=h;⟨p,e,q.imp (λz=>s _ _ rfl z) id⟩
def MbAt(H:Hp)(m:Mb)(x:V):Prop:=∃ q pt,x=.ref q/\H q=some (.tup [.int m.1,.int m.2.1,.ref pt])/\H pt=some (.tup (m.2.2.map V.str))
abbrev CrAt(H:Hp):List Mb->List V->Prop:=Paired (MbAt H)
theorem MbAt.n{H a:Hp}(s:NC H a)(m:Mb)(x:V)(h:MbAt H m x):MbAt a m x:=let ⟨q,pt,h1,h2,h3⟩:=h;⟨q,pt,h1,s _ _ rfl h2,s _ _ rfl h3⟩
def CrL(H:Hp)(g:List Mb)(v:V):Prop:=∃ l ys,v=.ref l/\H l=some (.lst ys)/\CrAt H g ys
theorem CrL.n{H a:Hp}(s:NC H a)(g:List Mb)(v:V)(h:CrL H g v):CrL a g v:=let ⟨l,ys,h1,h2,h3⟩:=h;⟨l,ys,h1,s _ _ rfl h2,aC (MbAt.n s) h3⟩
def GsL(H:Hp)(v:V)(gs:List (List Mb)):Prop:=∃ l ys,v=.ref l/\H l=some (.lst ys)/\Paired (CrL H) gs ys
theorem GsL.n{H a:Hp}{v:V}{b:List (List Mb)}(s:NC H a)(h:GsL H v b):GsL a v b:=let ⟨l,ys,h1,h2,h3⟩:=h;⟨l,ys,h1,s _ _ rfl h2,aC (CrL.n s) h3⟩
def TpT(H:Hp)(v:V)(ps:List Int):Prop:=∃ l,v=.ref l/\H l=some (.tup (ps.map V.int))
theorem TpT.n{H a:Hp}{v:V}{ps:List Int}(s:NC H a)(h:TpT H v ps):TpT a v ps:=let ⟨l,e,h1⟩:=h;⟨l,e,s _ _ rfl h1⟩
def IsPn(a:Ad)(H:Hp):V->Pl->Prop
 | v,.few m=>∃ x dx,v=.ref x/\H x=some (.ins a.c_Q dx [("many",.int (m:Nat))])
 | v,.start m=>∃ x dx,v=.ref x/\H x=some (.ins a.c_o dx [("step",.int (m:Nat))])
 | v,.loose m=>∃ x dx,v=.ref x/\H x=some (.ins a.c_p dx [("many",.int (m:Nat))])
 | v,.duel m=>∃ x dx,v=.ref x/\H x=some (.ins a.c_A dx [("many",.int (m:Nat))])
 | v,.each p=>∃ x dx u,v=.ref x/\H x=some (.ins a.c_t dx [("inside",u)])/\IsPn a H u p
 | v,.first p q=>∃ x dx u z,v=.ref x/\H x=some (.ins a.c_g dx [("outside",u),("inside",z)])/\IsPn a H u p/\IsPn a H z q
theorem IsPn.n{a:Ad}{H b:Hp}(s:NC H b):∀{pl:Pl}{v:V},IsPn a H v pl->IsPn a b v pl
 | .few _,_,⟨x,dx,h1,h2⟩=>⟨x,dx,h1,s _ _ rfl h2⟩
 | .start _,_,⟨x,dx,h1,h2⟩=>⟨x,dx,h1,s _ _ rfl h2⟩
 | .loose _,_,⟨x,dx,h1,h2⟩=>⟨x,dx,h1,s _ _ rfl h2⟩
 | .duel _,_,⟨x,dx,h1,h2⟩=>⟨x,dx,h1,s _ _ rfl h2⟩
 | .each _,_,⟨x,dx,u,h1,h2,h3⟩=>⟨x,dx,u,h1,s _ _ rfl h2,IsPn.n s h3⟩
 | .first _ _,_,⟨x,dx,u,z,h1,h2,h3,h4⟩=>⟨x,dx,u,z,h1,s _ _ rfl h2,IsPn.n s h3,IsPn.n s h4⟩
def jn:Pl->Bool | .few _=>true | _=>false
def dR:Pl->Bool | .start _=>true | _=>false
def dQ:Pl->Bool | .loose _=>true | _=>false
def fw:Pl->Bool | .duel _=>true | _=>false
def bw:Pl->Bool | .each _=>true | _=>false
def aQ:Pl->Bool | .first _ _=>true | _=>false
theorem dw{a:Ad}{H:Hp}{v:V}{pl:Pl}{S:(Pl->Bool)->Sp}{Q:VK}{w j o i l B:XK}(e:Str)(g:∀ x:V,[(("many" : Str),x)].lookup e=none)(s:∀ x:V,[(("step" : Str),x)].lookup e=none)(A:∀ x:V,[(("inside" : Str),x)].lookup e=none)(r:∀ x y:V,[(("outside" : Str),x),(("inside" : Str),y)].lookup e=none)(W:(V->Hp->Prop)->Prop)(f:IsPn a H v pl)(h:∀ c E,c pl=true->W λy H1=>S c [v,y] H1 Q E) :
  (∃(b dx:Addr) (fs:List (Str×V)),v=.ref b/\H b=some (.ins a.c_Q dx fs)/\fs.lookup e=none/\W λy H1=>S jn [v,y] H1 Q w)\/(∃(b dx:Addr) (fs:List (Str×V)),v=.ref b/\H b=some (.ins a.c_o dx fs)/\fs.lookup e=none/\W λy H1=>S dR [v,y] H1 Q j)\/(∃(b dx:Addr) (fs:List (Str×V)),v=.ref b/\H b=some (.ins a.c_p dx fs)/\fs.lookup e=none/\W λy H1=>S dQ [v,y] H1 Q o)\/(∃(b dx:Addr) (fs:List (Str×V)),v=.ref b/\H b=some (.ins a.c_A dx fs)/\fs.lookup e=none/\W λy H1=>S fw [v,y] H1 Q i)\/(∃(b dx:Addr) (fs:List (Str×V)),v=.ref b/\H b=some (.ins a.c_t dx fs)/\fs.lookup e=none/\W λy H1=>S bw [v,y] H1 Q l)\/(∃(b dx:Addr) (fs:List (Str×V)),v=.ref b/\H b=some (.ins a.c_g dx fs)/\fs.lookup e=none/\W λy H1=>S aQ [v,y] H1 Q B):=by
 cases pl with
 | few m=>obtain⟨x,dx,rfl,d⟩:=f;exact .inl ⟨x,dx,_,rfl,d,g _,h _ _ rfl⟩
 | start m=>obtain⟨x,dx,rfl,d⟩:=f;exact .inr (.inl ⟨x,dx,_,rfl,d,s _,h _ _ rfl⟩)
 | loose m=>obtain⟨x,dx,rfl,d⟩:=f;exact .inr (.inr (.inl ⟨x,dx,_,rfl,d,g _,h _ _ rfl⟩))
 | duel m=>obtain⟨x,dx,rfl,d⟩:=f;exact .inr (.inr (.inr (.inl ⟨x,dx,_,rfl,d,g _,h _ _ rfl⟩)))
 | each p=>obtain⟨x,dx,u,rfl,d,_⟩:=f;exact .inr (.inr (.inr (.inr (.inl ⟨x,dx,_,rfl,d,A _,h _ _ rfl⟩))))
 | first p q=>obtain⟨x,dx,u,z,rfl,d,_⟩:=f;exact .inr (.inr (.inr (.inr (.inr ⟨x,dx,_,rfl,d,r _ _,h _ _ rfl⟩))))
theorem CrAt.tk{H a:Hp}(k:TK H a):∀{ms:List Mb}{xs:List V},CrAt H ms xs->CrAt a ms xs
 | _,_,.nil=>.nil
 | _,_,.cons ⟨q,pt,h1,h2,h3⟩ t=>.cons ⟨q,pt,h1,k _ _ h2,k _ _ h3⟩ (CrAt.tk k t)
theorem SameT.tk{H b:Hp}(s:SameT H b):TK H b:=λa c h=>s.at h
theorem CrAt.get{H:Hp}:∀{ms:List Mb}{xs:List V}{i:Nat}{x:V},CrAt H ms xs->xs[i]? = some x->∃ r,ms[i]? = some r/\MbAt H r x
 | _,_,_,_,.nil,h=>by cases h
 | _,_,0,_,.cons r _,h=>⟨_,rfl,by cases h;exact r⟩
 | _,_,i+1,_,.cons _ t,h=>CrAt.get (i:=i) t h
theorem CrAt.len{H:Hp}{a:List Mb}{xs:List V}(h:CrAt H a xs):a.length=xs.length:=Paired.length h
inductive spPlaces(vs:List V)(H:Hp)(Q:VK)(_E:XK):Prop
 | mk(l:Addr)(xs:List V)(ms:List Mb)(h0:vs=[.ref l])(h1:H l=some (.lst xs))(h2:CrAt H ms xs)(h3:ms.length<=24)(h4:∀ H' r,Same H H'->H r=none->H' r=some (.lst ((plc ms).map V.int))->Q (.ref r) H'):spPlaces vs H Q _E
inductive spNeedN(vs:List V)(H:Hp)(Q:VK)(_E:XK):Prop
 | mk(i lo hi:Int)(h0:vs=[.int i,.int lo,.int hi])(h1:lo<=i)(h2:i<=hi)(h3:Q .non H):spNeedN vs H Q _E
def pD(fs:List (Int×Int)):List PyData:=fs.map λf=>.tuple [.int f.1,.int f.2]
inductive spWBy(K:Frag)(vs:List V)(H:Hp)(Q:VK)(_E:XK):Prop
 | mk(l:Addr)(xs:List V)(ms:List Mb)(m:Int)(h0:vs=[.ref l,.int m])(h1:H l=some (.lst xs))(h2:CrAt H ms xs)(h3:Szs (szs ms))(h4:0<=m)(h5:m<=24)(h6:∀ H' r ys,Same H H'->H r=none->H' r=some (.lst ys)->AllF K H' (due (szs ms) m) ys->Q (.ref r) H'):spWBy K vs H Q _E
inductive spFewI(a:Ad)(vs:List V)(H:Hp)(Q:VK)(_E:XK):Prop
 | mk(x dx:Addr)(m:Nat)(h0:vs=[.ref x,.int (m:Nat)])(h1:H x=some (.ins a.c_Q dx []))(h2:m<=24)(h3:Q .non (upd H x (.ins a.c_Q dx [("many",.int (m:Nat))]))):spFewI a vs H Q _E
inductive spStartI(a:Ad)(vs:List V)(H:Hp)(Q:VK)(_E:XK):Prop
 | mk(x dx:Addr)(m:Nat)(h0:vs=[.ref x,.int (m:Nat)])(h1:H x=some (.ins a.c_o dx []))(h2:1<=m)(h3:m<=100)(h4:Q .non (upd H x (.ins a.c_o dx [("step",.int (m:Nat))]))):spStartI a vs H Q _E
inductive spLooseI(a:Ad)(vs:List V)(H:Hp)(Q:VK)(_E:XK):Prop
 | mk(x dx:Addr)(m:Nat)(h0:vs=[.ref x,.int (m:Nat)])(h1:H x=some (.ins a.c_p dx []))(h2:m<=24)(h3:Q .non (upd H x (.ins a.c_p dx [("many",.int (m:Nat))]))):spLooseI a vs H Q _E
inductive spDuelI(a:Ad)(vs:List V)(H:Hp)(Q:VK)(_E:XK):Prop
 | mk(x dx:Addr)(m:Nat)(h0:vs=[.ref x,.int (m:Nat)])(h1:H x=some (.ins a.c_A dx []))(h2:m<=24)(h3:Q .non (upd H x (.ins a.c_A dx [("many",.int (m:Nat))]))):spDuelI a vs H Q _E
inductive spEachI(a:Ad)(vs:List V)(H:Hp)(Q:VK)(_E:XK):Prop
 | mk(x dx:Addr)(u:V)(h0:vs=[.ref x,u])(h1:H x=some (.ins a.c_t dx []))(h2:Q .non (upd H x (.ins a.c_t dx [("inside",u)]))):spEachI a vs H Q _E
inductive spFirstI(a:Ad)(vs:List V)(H:Hp)(Q:VK)(_E:XK):Prop
 | mk(x dx:Addr)(u z:V)(h0:vs=[.ref x,u,z])(h1:H x=some (.ins a.c_g dx []))(h2:Q .non (upd H x (.ins a.c_g dx [("outside",u),("inside",z)]))):spFirstI a vs H Q _E
def cF(fs:List (Int×Int))(t b:Int):Int:=(((pD fs).countP λz=>PyData.eqv z (.tuple [.int t,.int b]):Nat):Int)
theorem wm{H:Hp}{b q:Addr}{o d:HO}{a:List V}(c:H q=some (.lst a))(h:H b=some o)(n:∀ ys,o≠.lst ys):(upd H q d) b=some o:=by
 rw[ar (λz=>by rw[z,c]at h;exact n a (Option.some.inj h).symm)];exact h
theorem gK{H:Hp}{x a:Addr}{d c:HO}(f:H x=none)(g:H a=none):Same H (upd (upd H a d) x c):=λb o e=>by rw[ar (aB e f),ar (aB e g)];exact e
inductive spIsW(vs:List V)(H:Hp)(Q:VK)(_E:XK):Prop
 | mk(i lo hi:Int)(h0:vs=[.int i,.int lo,.int hi])(h1:Q (.bl (decide (lo<=i/\i<=hi))) H):spIsW vs H Q _E
def Ag(n:Nat)(H:Hp)(Q:VK):Prop:=∀ H' p (lo hi:Int),Same H H'->H' p=some (.tup [.int lo,.int hi])->0<=lo->lo<=hi->hi<=(n:Int)->Q (.ref p) H'
inductive spBo(a:Ad)(N:Nat)(c:Pl->Bool)(vs:List V)(H:Hp)(Q:VK)(_E:XK):Prop
 | mk(v:V)(pl:Pl)(l:Addr)(xs:List V)(ms:List Mb)(h0:vs=[v,.ref l])(h1:c pl=true)(h2:okP N pl)(h3:IsPn a H v pl)(h4:H l=some (.lst xs))(h5:CrAt H ms xs)(h6:Ck (aI pl) ms)(h7:Ag ms.length H Q):spBo a N c vs H Q _E
theorem ni{k:Nat}{b:List Mb}(h:Ck k b):Szs (szs b):=⟨by unfold Nst.szs;rw[length_map];have:=h.len;lia,λx a=>(h.hi x a).1,λx a=>by have:=(h.hi x a).2;lia⟩
section
variable {P:Program}{w:World}{K:Frag}{mg:Str->Option Value}{base:Heap}{a:Ad}
theorem zL(T:Txt K mg a):FnOk P w K mg base CX0 1 a.f_aH a.d_aH ["thing","low","high"] spIsW:=by
 refine T.F_aH.ok pX (λb H Q E h=>?_) (λcdv A outer s H b Q E hr h=>?_)
 .obtain⟨i,c,d,rfl,_⟩:=h;rfl
 .obtain⟨i,c,d,rfl,q⟩:=h
  refine⟨_,(aj (au (sg (ay iA rfl T.z_isinstance bF (aa (vr 0) (aa (jR (v:=.ty "int") rfl T.z_int ze rfl) ac))) (sg (yA (ay iA rfl T.z_isinstance bF (aa (vr 0) (aa (jR (v:=.ty "bool") rfl T.z_bool xn rfl) ac)))) (uI (sG uz uz (vr 1) (vr 0) (vr 2))))))),?_⟩;refine⟨_,_,_,true,rfl,rfl,.int i,rfl,?_⟩;refine⟨_,_,_,false,rfl,rfl,.int i,rfl,?_⟩;exact za (Q:=λv=>Q v H) q
theorem jh(T:Txt K mg a):FnOk P w K mg base CX0 1 a.f_ag a.d_ag ["crowd"] spPlaces:=by
 refine T.F_ag.ok oB (λF H Q E h=>?_) (λcdv A outer s H F Q E hr h=>?_)
 .obtain⟨l,xs,p,rfl,_⟩:=h;rfl
 .obtain⟨l,xs,p,rfl,u,r,y,q⟩:=h
  have g:sizeLine=16777216:=sizeLine_eq;have f:=r.len;refine⟨_,(aj (au (aP rfl (N:=["member"]) (ix:=[none]) ⟨rfl,rfl,rfl,rfl,trivial⟩ (aO (vr 0)) ⟨λC s H v=>ao (i:=0) (show List.Nodup (["member"]:List Str) by decide +kernel) rfl (Or.inl rfl),λC s H v=>aL,λC s H v=>(az (eY (K:=K) rfl) (vr 0) ah (λ_ _=>rfl))⟩))),?_⟩;refine .inl ⟨⟨_,SqL.of u⟩,λD o=>?_⟩
  let Pw1:PvL:=λi c d=>i<=xs.length/\Same H d/\d D=some (.lst c)/\c=(plc (p.take i)).map V.int
  refine aK (K:=K) (a:=l) (xs:=xs) Pw1 ⟨Nat.zero_le _,Same.new o,ae,rfl⟩ (λi c d h=>SqL.of (h.2.1 _ _ u)) (λi c d h=>h.2.2.1) ?_ ?_
  .rintro i x c d W B ⟨O,e,b,rfl⟩ L
   obtain⟨m,M,I,R,rfl,G,S⟩:=(r.tk e.tk).get B;have j:i<xs.length:=(List.getElem?_eq_some_iff.mp B).1;refine⟨trivial,.inr (.inl ⟨I,_,_,_,rfl,rfl,SqT.of G,ci 0 rfl rfl,b,?_,L _ _ ⟨j,e.put o,ae,?_⟩⟩)⟩
   .unfold plc;rw[length_map,length_map,length_take];lia
   .unfold plc;rw[take_add_one,M,map_append,map_append];rfl
  .rintro c d ⟨_,e,b,rfl⟩
   rw[<- f,take_of_length_le (Nat.le_refl _)]at b;exact q _ D e o b
theorem jN(T:Txt K mg a):FnOk P w K mg base CX0 2 a.f_V a.d_V ["thing","low","high"] spNeedN:=by
 have b:FnOk P w K mg base CX0 1 _ _ _ spIsW:=zL T;refine T.F_V.ok mG (λf H Q E h=>?_) (λcdv A outer s H f Q E hr h=>?_)
 .obtain⟨i,c,d,rfl,_⟩:=h;rfl
 .obtain⟨i,c,d,rfl,g,e,q⟩:=h
  refine⟨_,(aj (aR (dP (dS (ag b hr rfl T.m_aH T.F_aH.kp T.B_aH .nil af (aa (vr 0) (aa (vr 1) (aa (vr 2) ac)))))) (aj pS) aD)),?_⟩;refine⟨i,c,d,rfl,?_⟩;rw[decide_eq_true (And.intro g e)];exact q
theorem xZ{H:Hp}:∀{fs:List (Int×Int)}{xs:List V},AllF K H fs xs->DVs K H (pD fs) xs
 | _,_,.nil=>by simp[DVs,pD]
 | _,_,.cons ⟨p,e,r⟩ t=>by
  unfold pD;rw[map_cons,DVs];exact⟨_,_,rfl,by rw[e];exact iX r.sq,xZ t⟩
theorem yr:∀(fs:List (Int×Int)),PyData.canLayAll0 (pD fs)=true/\PyData.depthAll (pD fs)<=3
 | []=>by simp[PyData.canLayAll0,PyData.depthAll,pD]
 | t::l=>by
  obtain⟨a,b⟩:=yr l;unfold pD at *;rw[map_cons,PyData.canLayAll0,PyData.depthAll,a];refine⟨by simp[PyData.canLay0,PyData.canLayAll0],?_⟩;simp only[PyData.depth,PyData.depthAll];lia
theorem j4(a b c d:Int):PyData.eqv (.tuple [.int a,.int b]) (.tuple [.int c,.int d])=decide ((a,b)=(c,d)):=by
 simp[PyData.eqv,PyData.eqvAll];rfl
theorem mP(T:Txt K mg a):FnOk P w K mg base CX0 5 a.f_Z a.d_Z ["crowd","many"] (spWBy K):=by
 have f:FnOk P w K mg base CX0 4 _ _ _ (spWished K):=uB T;refine T.F_Z.ok ph (λR H Q E h=>?_) (λcdv A outer s H R Q E v h=>?_)
 .obtain⟨l,xs,g,m,rfl,_⟩:=h;rfl
 .obtain⟨l,xs,g,m,rfl,F,y,L,m0,O,q⟩:=h
  have p:sizeLine=16777216:=sizeLine_eq;have o:=y.len;have I:g.length<=24:=by have:=L.len;unfold szs at this;rw[length_map]at this;exact this
  refine⟨_,(aj (au (ag f v rfl T.m_aN T.F_aN.kp T.B_aN .nil af (aa (aP rfl (N:=["member"]) (ix:=[none]) ⟨rfl,rfl,rfl,rfl,trivial⟩ (aO (vr 0)) ⟨λC s H G=>ao (i:=0) (show List.Nodup (["member"]:List Str) by decide +kernel) rfl (Or.inl rfl),λC s H G=>aL,λC s H G=>(az (eY (K:=K) rfl) (vr 0) ah (λ_ _=>rfl))⟩) (aa (vr 1) ac))))),?_⟩;refine .inl ⟨⟨_,SqL.of F⟩,λD B=>?_⟩
  let Pw2:PvL:=λi c d=>i<=xs.length/\Same H d/\d D=some (.lst c)/\c=(szs (g.take i)).map V.int
  refine aK (K:=K) (a:=l) (xs:=xs) Pw2 ⟨Nat.zero_le _,Same.new B,ae,rfl⟩ (λi c d h=>SqL.of (h.2.1 _ _ F)) (λi c d h=>h.2.2.1) ?_ ?_
  .rintro i x c d P' M ⟨hi,e,b,rfl⟩ Z
   obtain⟨mm,hm,Y,pt,rfl,S,g2⟩:=(y.tk e.tk).get M;have u:i<xs.length:=(List.getElem?_eq_some_iff.mp M).1;refine⟨trivial,.inr (.inl ⟨Y,_,_,_,rfl,rfl,SqT.of S,ci 1 rfl rfl,b,?_,Z _ _ ⟨u,e.put B,ae,?_⟩⟩)⟩
   .unfold szs;rw[length_map,length_map,length_take];lia
   .unfold szs;rw[take_add_one,hm,map_append,map_append];rfl
  .rintro c d ⟨_,e,b,rfl⟩
   rw[<- o,take_of_length_le (Nat.le_refl _)]at b;exact⟨D,szs g,m,rfl,b,L,m0,O,λW r c s2 j v X=>q W r c (e.trans s2) (e.free j) v X⟩
theorem vv(T:Txt K mg a):FnOk P w K mg base CX0 3 a.i_o a.e_o ["self","step"] (spStartI a):=by
 have b:FnOk P w K mg base CX0 2 _ _ _ spNeedN:=jN T;refine T.Fi_o.ok j9 (λd H Q E h=>?_) (λcdv A outer s H d Q E hr h=>?_)
 .obtain⟨x,c,m,rfl,_⟩:=h;rfl
 .obtain⟨x,c,m,rfl,e,i,f,q⟩:=h
  refine⟨_,(ai (dX (ag b hr rfl T.m_V T.F_V.kp T.B_V .nil af (aa (vr 1) (aa ah (aa (bE rfl T.g_MOST_STEP) ac))))) (aj (g9 (vr 0) (vr 1) rfl))),eE ?_⟩;intro g;refine⟨_,1,100,rfl,by lia,by lia,?_⟩;exact⟨x,a.c_o,c,[],rfl,e,T.cl_o,T.na_Start_step,(by decide),q⟩
theorem vA(T:Txt K mg a):FnOk P w K mg base CX0 3 a.i_p a.e_p ["self","many"] (spLooseI a):=by
 have b:FnOk P w K mg base CX0 2 _ _ _ spNeedN:=jN T;refine T.Fi_p.ok jY (λd H Q E h=>?_) (λcdv A outer s H d Q E hr h=>?_)
 .obtain⟨x,c,m,rfl,_⟩:=h;rfl
 .obtain⟨x,c,m,rfl,e,g,q⟩:=h
  refine⟨_,(ai (dX (ag b hr rfl T.m_V T.F_V.kp T.B_V .nil af (aa (vr 1) (aa ah (aa (bE rfl T.g_MOST_MANY) ac))))) (aj (g9 (vr 0) (vr 1) rfl))),eE ?_⟩;intro f;refine⟨_,0,24,rfl,by lia,by lia,?_⟩;exact⟨x,a.c_p,c,[],rfl,e,T.cl_p,T.na_Loose_many,(by decide),q⟩
theorem zy(T:Txt K mg a):FnOk P w K mg base CX0 3 a.i_Q a.e_Q ["self","many"] (spFewI a):=by
 have b:FnOk P w K mg base CX0 2 _ _ _ spNeedN:=jN T;refine T.Fi_Q.ok kW (λd H Q E h=>?_) (λcdv A outer s H d Q E hr h=>?_)
 .obtain⟨x,c,m,rfl,_⟩:=h;rfl
 .obtain⟨x,c,m,rfl,e,g,q⟩:=h
  refine⟨_,(ai (dX (ag b hr rfl T.m_V T.F_V.kp T.B_V .nil af (aa (vr 1) (aa ah (aa (bE rfl T.g_MOST_MANY) ac))))) (aj (g9 (vr 0) (vr 1) rfl))),eE ?_⟩;intro f;refine⟨_,0,24,rfl,by lia,by lia,?_⟩;exact⟨x,a.c_Q,c,[],rfl,e,T.cl_Q,T.na_Few_many,(by decide),q⟩
theorem xN(T:Txt K mg a):FnOk P w K mg base CX0 3 a.i_A a.e_A ["self","many"] (spDuelI a):=by
 have b:FnOk P w K mg base CX0 2 _ _ _ spNeedN:=jN T;refine T.Fi_A.ok kj (λd H Q E h=>?_) (λcdv A outer s H d Q E hr h=>?_)
 .obtain⟨x,c,m,rfl,_⟩:=h;rfl
 .obtain⟨x,c,m,rfl,e,g,q⟩:=h
  refine⟨_,(ai (dX (ag b hr rfl T.m_V T.F_V.kp T.B_V .nil af (aa (vr 1) (aa ah (aa (bE rfl T.g_MOST_MANY) ac))))) (aj (g9 (vr 0) (vr 1) rfl))),eE ?_⟩;intro f;refine⟨_,0,24,rfl,by lia,by lia,?_⟩;exact⟨x,a.c_A,c,[],rfl,e,T.cl_A,T.na_Duel_many,(by decide),q⟩
theorem wP(T:Txt K mg a):FnOk P w K mg base CX0 1 a.i_t a.e_t ["self","inside"] (spEachI a):=by
 refine T.Fi_t.ok kh (λc H Q E h=>?_) (λcdv A outer s H c Q E hr h=>?_)
 .obtain⟨x,b,u,rfl,_⟩:=h;rfl
 .obtain⟨x,b,u,rfl,d,q⟩:=h
  refine⟨_,(aj (g9 (vr 0) (vr 1) rfl)),?_⟩;exact⟨x,a.c_t,b,[],rfl,d,T.cl_t,T.na_Each_inside,(by decide),q⟩
theorem vP(T:Txt K mg a):FnOk P w K mg base CX0 1 a.i_g a.e_g ["self","outside","inside"] (spFirstI a):=by
 refine T.Fi_g.ok j3 (λf H Q E h=>?_) (λcdv A outer s H f Q E hr h=>?_)
 .obtain⟨x,d,u,z,rfl,_⟩:=h;rfl
 .obtain⟨x,d,u,z,rfl,g,q⟩:=h
  refine⟨_,(ai (g9 (vr 0) (vr 1) rfl) (aj (g9 (vr 0) (vr 2) rfl))),eE ?_⟩;intro i;refine⟨x,a.c_g,d,[],rfl,g,T.cl_g,T.na_First_outside,(by decide),?_⟩;refine⟨x,a.c_g,d,_,rfl,ae,T.cl_g,T.na_First_inside,(by show 1<1000;decide),?_⟩;rw[show ∀(H:Hp) (o c:HO),upd (upd H x o) x c=upd H x c from λH o c=>by funext b;by_cases e:b=x <;> simp[upd,e]];exact q
theorem uP{H:Hp}{l k:Addr}{xs:List V}{fs:List (Int×Int)}{t b:Int}{Q:VK}(c:H l=some (.lst xs))(d:AllF K H fs xs)(a:SqT K H k [.int t,.int b])(q:Q (.int (cF fs t b)) H):rCount K (.ref l) [.ref k] H Q :=
 ⟨l,xs,pD fs,.ref k,.tuple [.int t,.int b],rfl,rfl,c,xZ d,iX a,(yr fs).1,by simp[PyData.canLay0,PyData.canLayAll0],by simp[PyData.depth,PyData.depthAll],q⟩
theorem sd:∀ fs:List (Int×Int),cF fs 1 1+cF fs 0 1<=(fs.length:Int)
 | []=>by decide
 | f::fs=>by
  have d:=sd fs;obtain⟨t,b⟩:=f;unfold cF pD at *;rw[map_cons,List.countP_cons,List.countP_cons,length_cons,j4,j4];have:¬((t,b)=((1:Int),(1:Int))/\(t,b)=((0:Int),(1:Int))):=λ⟨c,a⟩=>by rw[c]at a;cases a
  by_cases c:(t,b)=((1:Int),(1:Int))
  .have a:¬(t,b)=((0:Int),(1:Int)):=λa=>this ⟨c,a⟩
   rw[decide_eq_true c,decide_eq_false a,if_pos rfl,if_neg (by decide)];lia
  .rw[decide_eq_false c,if_neg (by decide)]
   split <;> lia
theorem ka(T:Txt K mg a)(N:Nat):FnOk P w K mg base CX0 1 a.x_B a.y_B ["self","crowd"] (spBo a N jn):=by
 refine T.F_B.ok sc_B (λj H Q E h=>?_) (λcdv A outer s H j Q E hr h=>?_)
 .obtain⟨v,d,l,b,g,rfl,_⟩:=h;rfl
 .obtain⟨v,d,l,b,g,rfl,r,D,c,f,o,C,q⟩:=h
  cases d with
  | few m =>
   obtain⟨x,u,rfl,y⟩:=c;refine⟨_,(ai (ax (i:=2) sc_B.nd rfl (Or.inl rfl) (ay (jc rfl) rfl T.z_min pE (aa (aA (vr 0) rfl) (aa (ay aF rfl T.z_len bf (aa (vr 1) ac)) ac)))) (aj (au (aE (aa (vr 2) (aa (vr 2) ac)))))),eE ?_⟩;intro B;refine⟨x,_,u,_,_,rfl,y,T.cl_Q,T.na_Few_many,rfl,⟨_,.inl (SqL.of f),?_⟩⟩;refine⟨_,_,rfl,?_⟩
   have e:(if ((b.length:Int)<(m:Int)) then (b.length:Int) else (m:Int))=((min m b.length:Nat):Int):=by split <;> lia
   rw[e];have:=o.len;exact⟨(show 2<=sizeLine by decide),λp c=>q _ p _ _ (Same.new c) ae (by lia) (Int.le_refl _) (by lia)⟩
  | _=>cases r
theorem iW(T:Txt K mg a)(N:Nat):FnOk P w K mg base CX0 1 a.x_v a.y_v ["self","crowd"] (spBo a N fw):=by
 refine T.F_v.ok sc_v (λj H Q E h=>?_) (λcdv A outer s H j Q E hr h=>?_)
 .obtain⟨v,d,l,b,g,rfl,_⟩:=h;rfl
 .obtain⟨v,d,l,b,g,rfl,r,D,c,f,o,C,q⟩:=h
  cases d with
  | duel m =>
   obtain⟨x,u,rfl,y⟩:=c;refine⟨_,(ai (ax (i:=2) sc_v.nd rfl (Or.inl rfl) (ay (jc rfl) rfl T.z_min pE (aa (aA (vr 0) rfl) (aa (ay aF rfl T.z_len bf (aa (vr 1) ac)) ac)))) (aj (au (aE (aa (vr 2) (aa (vr 2) ac)))))),eE ?_⟩;intro B;refine⟨x,_,u,_,_,rfl,y,T.cl_A,T.na_Duel_many,rfl,⟨_,.inl (SqL.of f),?_⟩⟩;refine⟨_,_,rfl,?_⟩
   have e:(if ((b.length:Int)<(m:Int)) then (b.length:Int) else (m:Int))=((min m b.length:Nat):Int):=by split <;> lia
   rw[e];have:=o.len;exact⟨(show 2<=sizeLine by decide),λp c=>q _ p _ _ (Same.new c) ae (by lia) (Int.le_refl _) (by lia)⟩
  | _=>cases r
theorem ia(T:Txt K mg a)(N:Nat):FnOk P w K mg base CX0 1 a.x_u a.y_u ["self","crowd"] (spBo a N dR):=by
 refine T.F_u.ok kY (λy H Q E h=>?_) (λcdv A outer s H y Q E hr h=>?_)
 .obtain⟨v,e,l,b,r,rfl,_⟩:=h;rfl
 .obtain⟨v,e,l,b,r,rfl,C,i,D,f,B,F,q⟩:=h
  cases e with
  | start m =>
   obtain⟨x,c,rfl,d⟩:=D
   have i:1<=m/\m<=100:=by cases N <;> exact i
   refine⟨_,(aj (au (aE (aa (aw cK (ay aF rfl T.z_len bf (aa (vr 1) ac)) (aA (vr 0) rfl)) (aa (aw cK (aw cU (aw dN (ay aF rfl T.z_len bf (aa (vr 1) ac)) (aA (vr 0) rfl)) ah) (aA (vr 0) rfl)) ac))))),?_⟩;have j:Bt 3000 (m:Int):=(show Bt 10 (m:Int) by unfold Bt;lia).mono (by decide);refine⟨_,.inl (SqL.of f),⟨x,_,c,_,_,rfl,d,T.cl_o,T.na_Start_step,rfl,cdB (by lia) j,?_⟩⟩;refine⟨_,.inl (SqL.of f),⟨x,_,c,_,_,rfl,d,T.cl_o,T.na_Start_step,rfl,⟨x,_,c,_,_,rfl,d,T.cl_o,T.na_Start_step,rfl,cdB (by lia) j,?_⟩⟩⟩;refine⟨cb _ _,λp u=>?_⟩;have o:=B.len;have g:(0:Int)<(m:Int):=by lia
   refine q _ p _ _ (Same.new u) ae (Int.ediv_nonneg (by lia) (by lia)) (Int.ediv_le_ediv g (by lia)) ?_;rw[o]
   by_cases z:b.length=0
   .rw[z,Int.ediv_eq_zero_of_lt (by simp;lia) (by simp;lia)];simp
   .refine Int.ediv_le_of_le_mul g ?_
    have:0<=((b.length:Int) - 1)*((m:Int) - 1):=Int.mul_nonneg (by lia) (by lia);rw[Int.sub_mul,Int.mul_sub,Int.mul_sub]at this;lia
  | _=>cases C
theorem hV(T:Txt K mg a)(N:Nat):FnOk P w K mg base CX0 6 a.x_q a.y_q ["self","crowd"] (spBo a N dQ):=by
 have d:FnOk P w K mg base CX0 5 _ _ _ (spWBy K):=mP T;refine T.F_q.ok sc_q (λr H Q E h=>?_) (λcdv A outer s H r Q E hr h=>?_)
 .obtain⟨v,f,l,g,b,rfl,_⟩:=h;rfl
 .obtain⟨v,f,l,g,b,rfl,y,j,F,G,u,o,q⟩:=h
  cases f with
  | loose m =>
   obtain⟨x,B,rfl,R⟩:=F
   have j:m<=24:=by cases N <;> exact j
   refine⟨_,(ai (ax (i:=2) sc_q.nd rfl (Or.inl rfl) (ag d hr rfl T.m_Z T.F_Z.kp T.B_Z .nil af (aa (vr 1) (aa (aA (vr 0) rfl) ac)))) (aj (au (aE (aa (pe_m.count hr.units (vr 2) (aa (bE rfl T.g_WHOLE) ac)) (aa (aw cU (ay aF rfl T.z_len bf (aa (vr 2) ac)) (pe_m.count hr.units (vr 2) (aa (bE rfl T.g_NOUGHT) ac))) ac)))))),eE ?_⟩;intro S;refine⟨x,_,B,_,_,rfl,R,T.cl_p,T.na_Loose_many,rfl,?_⟩;refine⟨l,g,b,(m:Nat),rfl,G,u,ni o,by lia,by lia,λX W I M C c e=>?_⟩;have D:I.length=(due (szs b) (m:Nat)).length:=e.len.symm;refine⟨.inl ⟨rfl,_,SqL.of c⟩,uP c e (lV T.t_WHOLE) ?_⟩;refine⟨_,.inl (SqL.of c),⟨.inl ⟨rfl,_,SqL.of c⟩,uP c e (lV T.t_NOUGHT) ?_⟩⟩;rw[D];have Y:=sd (due (szs b) (m:Nat));have O:(due (szs b) (m:Nat)).length=b.length:=by rw[dL];unfold Nst.szs;rw[length_map]
   refine⟨cb _ _,λp L=>q _ p _ _ (M.trans (Same.new L)) ae ?_ ?_ ?_⟩
   .unfold cF;lia
   .lia
   .rw[O];unfold cF;lia
  | _=>cases y
end
end My
namespace L2
open PySem PySem.Spec PyProof.Rows
section
variable {X:Cx}{x:Str}{sc:Scope}{N:List Str}{ix:List (Option Nat)}{pins:List (Addr×Obj)}{σ:St}{H:Hp}{s:Shared}
end
section
variable {X:Cx}{x:Str}{sc:Scope}{N:List Str}{ix:List (Option Nat)}{elt tg iter:Expr}{ifs:List Expr}{pos:Pos}{wi:TI}{g:TG}{tt:TT}{te:TE}
end
theorem xw{X:Cx}{K:Frag}{tg l:Expr}{tl:TE}(e:X.K=K)(a:PE X l tl):PI X tg l (Ax K tl):=by subst e;exact aO a
section
variable {X:Cx}{K:Frag}
theorem rS(b:X.K=K)(a:X.calm=true):CallR X (.builtin "sum") (rSumI K):=by
 subst b;exact dc a
end
end L2
namespace My
open PySem L2 FrM Du Nw
open Nst (Mb plc szs hd tl dr groups aW parts outer aX bq bz)
theorem CrAt.snoc{H:Hp}{m:Mb}{x:V}(r:MbAt H m x):∀{ms:List Mb}{xs:List V},CrAt H ms xs->CrAt H (ms++[m]) (xs++[x])
 | _,_,.nil=>.cons r .nil
 | _,_,.cons q t=>.cons q (CrAt.snoc r t)
def BK(H:Hp)(g:Str×List Mb)(kv:Key×V):Prop:=kv.1=.inr g.1/\∃ l ys,kv.2=.ref l/\H l=some (.lst ys)/\CrAt H g.2 ys
abbrev GR(H:Hp):List (Str×List Mb)->List (Key×V)->Prop:=PySem.Paired (BK H)
theorem GR.move{H a:Hp}(k:TK H a):∀{gs:List (Str×List Mb)}{kvs:List (Key×V)},(∀ l ys,V.ref l∈kvs.map (·.2)->H l=some (.lst ys)->a l=some (.lst ys))->GR H gs kvs->GR a gs kvs
 | _,_,_,.nil=>.nil
 | _,_,h,.cons ⟨r1,l,ys,r2,r3,r4⟩ t=>.cons ⟨r1,l,ys,r2,h l ys (by rw[<- r2];exact mem_cons_self) r3,r4.tk k⟩ (GR.move k (λl ys b=>h l ys (mem_cons_of_mem _ b)) t)
theorem GR.miss{H:Hp}{n:Str}{m:Mb}{l:Addr}{x:V}(c:H l=some (.lst [x]))(d:MbAt H m x):∀{gs:List (Str×List Mb)}{kvs:List (Key×V)},GR H gs kvs->cR kvs (.inr n)=none->GR H (dr gs n m) (kvs++[(.inr n,.ref l)])
 | _,_,.nil,_=>.cons ⟨rfl,l,_,rfl,c,.cons d .nil⟩ .nil
 | (k,ms)::gs,(kk,y)::kvs,.cons ⟨r1,r2⟩ t,h=>by
  have b:¬kk=.inr n:=λz=>by
   rw[cz z]at h;cases h
  rw[cI b]at h;have a:k≠n:=λz=>b (by rw[<- z];exact r1)
  unfold dr;rw[if_neg a];exact .cons ⟨r1,r2⟩ (GR.miss c d t h)
theorem GR.hit{H:Hp}{n:Str}{y:V}:∀{gs:List (Str×List Mb)}{kvs:List (Key×V)},GR H gs kvs->(kvs.map (·.2)).Nodup->cR kvs (.inr n)=some y ->
  ∃ l ys,y=.ref l/\V.ref l∈kvs.map (·.2)/\H l=some (.lst ys)/\∀(H':Hp) (m:Mb) (x:V),TK H H'->(∀ b zs,b≠l->V.ref b∈kvs.map (·.2)->H b=some (.lst zs)->H' b=some (.lst zs))->H' l=some (.lst (ys++[x]))->MbAt H' m x->GR H' (dr gs n m) kvs
 | _,_,.nil,_,h=>by cases h
 | (k,ms)::gs,(kk,y0)::kvs,.cons ⟨r1,l0,ys0,r2,r3,r4⟩ t,nd,h=>by
  rw[map_cons,nodup_cons]at nd;have a:y0=V.ref l0:=r2
  by_cases hk:kk=.inr n
  .rw[cz hk]at h
   have e:y0=y:=Option.some.inj h
   have o:k=n:=by
    have:(Sum.inr k:Key)=.inr n:=by rw[<- hk];exact r1.symm
    exact Sum.inr.inj this
   refine⟨l0,ys0,by rw[<- e];exact a,by rw[<- a];exact mem_cons_self,r3,λH' m x c d f j=>?_⟩;unfold dr;rw[if_pos o];refine .cons ⟨r1,l0,_,r2,f,CrAt.snoc j (r4.tk c)⟩ (GR.move c (λb zs p w=>d b zs (λz=>?_) (mem_cons_of_mem _ p) w) t);rw[z,<- a]at p;exact nd.1 p
  .rw[cI hk]at h
   obtain⟨l,ys,B,r,A,s⟩:=GR.hit t nd.2 h;have i:k≠n:=λz=>hk (by rw[<- z];exact r1)
   refine⟨l,ys,B,mem_cons_of_mem _ r,A,λH' m x c d f j=>?_⟩;have g:l0≠l:=λz=>nd.1 (by rw[a,z];exact r)
   unfold dr;rw[if_neg i];exact .cons ⟨r1,l0,ys0,r2,d l0 ys0 g (by rw[<- a];exact mem_cons_self) r3,r4.tk c⟩ (s H' m x c (λb zs v u=>d b zs v (mem_cons_of_mem _ u)) f j)
theorem GR.has{H:Hp}{b:Addr}:∀{gs:List (Str×List Mb)}{kvs:List (Key×V)},GR H gs kvs->V.ref b∈kvs.map (·.2)->∃ ys,H b=some (.lst ys)
 | _,_,.nil,h=>by cases h
 | _,_,.cons ⟨_,l,ys,r2,r3,_⟩ t,h=>by
  rw[map_cons,mem_cons]at h
  rcases h with h | h
  .rw[r2]at h
   cases h;exact⟨ys,r3⟩
  .exact GR.has t h
structure GT(H0 H:Hp)(r:Addr)(gs:List (Str×List Mb))(as:List Addr)(kvs:List (Key×V)):Prop where
 top:H r=some (.lst (as.map V.ref))
 new:H0 r=none
 len:as.length=kvs.length
 row:∀(j:Nat) (b:Addr) (k:Key) (y:V),as[j]? = some b->kvs[j]? = some (k,y)->H b=some (.tup [kV k,y])
 gr:GR H gs kvs
 nd:(kvs.map (·.2)).Nodup
 fresh:∀ l,V.ref l∈kvs.map (·.2)->H0 l=none/\l≠r
inductive spGroups(vs:List V)(H:Hp)(Q:VK)(_E:XK):Prop
 | mk(l:Addr)(ms:List Mb)(xs:List V)(h0:vs=[.ref l])(h1:H l=some (.lst xs))(h2:CrAt H ms xs)(h3:xs.length<=24)(h4:(∀ m∈ms,m.2.2≠[]/\m.2.2.length<=3))(h5:∀ H' r as kvs,Same H H'->GT H H' r (groups ms) as kvs->Q (.ref r) H'):spGroups vs H Q _E
inductive spParted(vs:List V)(H:Hp)(Q:VK)(_E:XK):Prop
 | mk(l:Addr)(ms:List Mb)(xs:List V)(h0:vs=[.ref l])(h1:H l=some (.lst xs))(h2:CrAt H ms xs)(h3:xs.length<=24)(h4:(∀ m∈ms,m.2.2≠[]/\m.2.2.length<=3))(h5:∀ H' r ys,Same H H'->H' r=some (.lst ys)->Paired (CrL H') (parts ms) ys->Q (.ref r) H'):spParted vs H Q _E
inductive spOuter(vs:List V)(H:Hp)(Q:VK)(_E:XK):Prop
 | mk(v:V)(gs:List (List Mb))(h0:vs=[v])(h1:GsL H v gs)(h2:gs.length<=24)(h3:(∀ c∈gs,c.length<=24))(h4:∀ H' r ys,Same H H'->H r=none->H' r=some (.lst ys)->CrAt H' (outer gs) ys->Q (.ref r) H'):spOuter vs H Q _E
theorem qk{n:Str}{m:Mb}:∀(gs:List (Str×List Mb)),(dr gs n m).length<=gs.length+1
 | []=>Nat.le_refl _
 | (k,l)::r=>by
  unfold dr
  by_cases c:k=n
  .rw[if_pos c];exact Nat.le_succ _
  .rw[if_neg c,length_cons,length_cons]
   exact Nat.succ_le_succ (qk r)
theorem tL(a:List Mb):(parts a).length<=a.length:=by
 have c:∀(a:List Mb) (b:List (Str×List Mb)),(a.foldl (λb m=>dr b (hd m) (tl m)) b).length<=b.length+a.length:=by
  intro a
  induction a with
  | nil=>intro b;exact Nat.le_refl _
  | cons m r ih =>
   intro b;rw[foldl_cons,length_cons];have:=ih (dr b (hd m) (tl m));have:=qk (n:=hd m) (m:=tl m) b;lia
 unfold parts groups;rw[length_map];have:=c a [];rw[length_nil]at this;lia
def Spot(H:Hp)(gs:List (List Mb))(v:V):Prop:=∃ p,∃ g s:Nat,∃ l,v=.ref p/\H p=some (.tup [.int (g:Nat),.int (s:Nat)])/\gs[g]? = some l/\s<l.length
theorem Spot.tk{H a:Hp}{b:List (List Mb)}{v:V}(k:TK H a)(h:Spot H b v):Spot a b v:=by
 obtain⟨p,g,s,l,f,e,d,c⟩:=h;exact⟨p,g,s,l,f,k _ _ e,d,c⟩
inductive spSpots(vs:List V)(H:Hp)(Q:VK)(_E:XK):Prop
 | mk(l r:Addr)(ms:List Mb)(gs:List (List Mb))(xs ys:List V)(h0:vs=[.ref l,.ref r])(h1:H l=some (.lst xs))(h2:CrAt H ms xs)(h3:H r=some (.lst ys))(h4:Paired (CrL H) gs ys)(h5:ms.length<=24)(h6:gs.length<=24)(h7:(∀ g∈gs,g.length<=24))(h8:(∀ m∈ms,∃ g∈gs,∃ m'∈g,m'.1=m.1))(h9:∀ H' t zs,Same H H'->H' t=some (.lst zs)->zs.length=ms.length->(∀ z∈zs,Spot H' gs z)->Q (.ref t) H'):spSpots vs H Q _E
theorem kg{a b:Type}{r:a->b->Prop}:∀{as:List a}{bs:List b}{i:Nat}{x:a},Paired r as bs->as[i]? = some x->∃ y,bs[i]? = some y/\r x y
 | _,_,_,_,.nil,h=>by cases h
 | _,_,0,_,.cons x _,h=>⟨_,rfl,by cases h;exact x⟩
 | _,_,i+1,_,.cons _ t,h=>kg (i:=i) t h
theorem pU{b a:Type}{r:b->a->Prop}{as:List b}{x:b}{i:Nat}{ys:List a}{y:a}(h:Paired r (as.take i) ys)(e:as[i]? = some x)(q:r x y):Paired r (as.take (i+1)) (ys++[y]):=by
 rw[take_add_one,e];exact bv q h
theorem vW(a:List (Key×V))(k:Key)(v:V):(eL a k v).length<=a.length+1:=by
 unfold eL
 split
 .rw[length_map];lia
 .rw[length_append];exact Nat.le_refl _
section
variable {P:Program}{w:World}{K:Frag}{mg:Str->Option Value}{base:Heap}{a:Ad}
theorem ug(T:Txt K mg a):FnOk P w K mg base CX0 1 a.f_ab a.d_ab ["crowd"] spGroups:=by
 refine T.F_ab.ok sc_ab (λvs H Q E h=>?_) (λcdv A outer s H vs Q E hr h=>?_)
 .obtain⟨l,ms,xs,rfl,_⟩:=h;rfl
 .obtain⟨l,ms,xs,rfl,hl,hm,hz,hn,q⟩:=h
  refine⟨_,(ai (ax (i:=1) sc_ab.nd rfl (Or.inl rfl) lZ) (ai (fY PassesOwn.never rfl (aO (vr 0)) (dz rfl (aq (ao (i:=2) sc_ab.nd rfl (Or.inl rfl)) (aq (ao (i:=3) sc_ab.nd rfl (Or.inl rfl)) (aq (ao (i:=4) sc_ab.nd rfl (Or.inl rfl)) aJ)))) (ai (aR (dP (fV (vr 4) (λ_=>rfl))) (aj pS) aD) (aj (dX (pe_m.append (pe_m.setdefault (vr 1) (aa (az av (vr 4) ah (λ_ _=>rfl)) (aa (aN ac) ac))) (aa (aE (aa (vr 2) (aa (vr 3) (aa (dW gB (vr 4) (eZ ah) eW) ac)))) ac)))))) (aj (au (dg (mj rfl) rfl T.z_list gw (aa (pe_m.items (vr 1)) ac)))))),il ?_⟩;intro b9 b6;intro g hg;have s0:Same H (upd H g (.dK [])):=Same.new hg;have b0:sizeLine=16777216:=sizeLine_eq
  .refine .inl ⟨⟨xs,SqL.of (s0 _ _ hl)⟩,gL (K:=K) (a:=l) (xs:=xs) (λi σ D=>∃(c:List (Key×V)) (x2 x3 x4:Option V),σ=[some (.ref l),some (.ref g),x2,x3,x4]/\Same H D/\D g=some (.dK c)/\GR D (groups (ms.take i)) c /\
    (c.map (·.2)).Nodup/\(∀ b,V.ref b∈c.map (·.2)->H b=none/\b≠g)/\c.length<=i/\∀ b L,V.ref b∈c.map (·.2)->D b=some (.lst L)->L.length<=i)
    ⟨[],none,none,none,rfl,s0,ae,.nil,nodup_nil,(λb hb=>by cases hb),Nat.le_refl _,λb L hb=>by cases hb⟩ (λi σ D _ h=>by obtain⟨_,_,_,_,_,s1,_⟩:=h;exact SqL.of (s1 _ _ hl)) ?_ ?_⟩
   .rintro i x σ D hx ⟨c,x2,x3,x4,rfl,R,p,Z,nd,fr,kl,yl⟩
    obtain⟨m,a5,ad,pp,rfl,ha,hp⟩:=hm.get hx;have b5:i<xs.length:=(List.getElem?_eq_some_iff.mp hx).1;obtain⟨a7,b4⟩:=hn m (List.mem_of_getElem? a5)
    have et:groups (ms.take (i+1))=dr (groups (ms.take i)) (hd m) (tl m):=by
     rw[take_add_one,a5];exact aW _ _
    obtain⟨mp,mz,ap⟩:=m;cases ap with
    | nil=>exact absurd rfl a7
    | cons n0 ps =>
     refine⟨ad,_,rfl,SqT.of (R _ _ ha),rfl,_,_,rfl,_,_,rfl,_,_,rfl,rfl,?_⟩;refine⟨_,.inr (.inl ⟨_,SqT.of (R _ _ hp),rfl⟩),?_⟩;refine⟨.inr (.inr (.inl ⟨rfl,.inl ⟨_,p⟩⟩)),?_⟩;refine .inr (.inl ⟨pp,_,_,.str n0,rfl,rfl,SqT.of (R _ _ hp),ci 0 rfl rfl,?_⟩);refine⟨Nat.zero_le _,λf B=>?_⟩;have O:Same D (upd D f (.lst [])):=Same.new B;have aS:eG ((n0::ps).map V.str) (some ((1:Nat):Int)) none=ps.map V.str:=by rw[kz];rfl
     have nw:¬(HT.sIx ((n0::ps).map V.str).length 0 (some 1)=0/\HT.sIx ((n0::ps).map V.str).length ((n0::ps).map V.str).length none=((n0::ps).map V.str).length):=λz=>by
      have z1:=z.1;rw[show(some (1:Int))=some ((1:Nat):Int) from rfl,HT.sIx_nat,length_map,length_cons]at z1;lia
     have a6:H f=none:=R.free B;have an:f≠g:=(aB p B).symm;refine⟨g,c,.inr n0,.ref f,rfl,rfl,O _ _ p,by lia,λy hy=>?_,λhno=>?_⟩
     .obtain⟨ly,L,rfl,ab,N,a'⟩:=GR.hit Z nd hy
      refine⟨.inl ⟨rfl,_,SqL.of (O _ _ N)⟩,?_⟩;refine⟨_,rfl,?_⟩;refine .inr ⟨_,SqT.of (O _ _ (R _ _ hp)),nw,λI G=>?_⟩;have s1:=O.trans (Same.new (o:=.tup (eG ((n0::ps).map V.str) (some 1) none)) G);refine⟨(by decide:3<=sizeLine),λu d=>?_⟩;have F:=s1.trans (Same.new (o:=.tup [.int mp,.int mz,.ref I]) d);have yb:=yl ly L ab N;refine⟨ly,L,.ref u,rfl,rfl,F _ _ N,by lia,?_⟩;obtain⟨bd,bm⟩:=fr ly ab;have l3:=F _ _ N;have na:u≠ly:=λz=>by rw[z,s1 _ _ N]at d;cases d
      have np:I≠ly:=λz=>by rw[z,O _ _ N]at G;cases G
      have W:I≠u:=λz=>by rw[<- z,ae]at d;cases d
      refine⟨c,_,_,_,rfl,(R.trans F).put bd,by rw[ar bm.symm];exact F _ _ p,?_,nd,fr,by lia,λb zs hb C=>?_⟩
      .rw[et]
       refine a' _ _ (.ref u) (F.tk.trans (TK.lst l3)) (λb zs hb _ e=>by rw[ar hb];exact F _ _ e) ae ⟨u,I,rfl,?_,?_⟩
       .rw[ar na,ae];rfl
       .rw[ar np,ar W,ae,show(some (1:Int))=some ((1:Nat):Int) from rfl,aS];rfl
      .by_cases hbl:b=ly
       .rw[hbl,ae]at C
        cases C;rw[length_append];exact Nat.succ_le_succ yb
       .rw[ar hbl]at C
        obtain⟨a3,S⟩:=GR.has Z hb;have:=F _ _ S;rw[C]at this;cases this;exact Nat.le_succ_of_le (yl b _ hb S)
     .have M:(upd (upd D f (.lst [])) g (.dK (c++[(.inr n0,.ref f)]))) f=some (.lst []):=by rw[ar an,ae]
      generalize hH2:upd (upd D f (.lst [])) g (.dK (c++[(.inr n0,.ref f)]))=H2 at M ⊢;have Y:∀ b o,b≠g->b≠f->D b=some o->H2 b=some o:=λb o h1 h2 e=>by rw[<- hH2,ar h1,ar h2];exact e
      have b2:H2 pp=some (.tup ((n0::ps).map V.str)):=by
       have e1:=R _ _ hp;exact Y _ _ (sQ e1 p (λz=>nomatch z)) (aB e1 B) e1
      have bN:H2 g=some (.dK (c++[(.inr n0,.ref f)])):=by rw[<- hH2];exact ae
      refine⟨.inl ⟨rfl,_,SqL.of M⟩,?_⟩;refine⟨_,rfl,?_⟩;refine .inr ⟨_,SqT.of b2,nw,λI G=>?_⟩;have s1:=Same.new (o:=.tup (eG ((n0::ps).map V.str) (some 1) none)) G;refine⟨(by decide:3<=sizeLine),λu d=>?_⟩;have F:=s1.trans (Same.new (o:=.tup [.int mp,.int mz,.ref I]) d);refine⟨f,[],.ref u,rfl,rfl,F _ _ M,by rw[length_nil];lia,?_⟩;have l3:=F _ _ M;have na:u≠f:=λz=>by rw[z,s1 _ _ M]at d;cases d
      have np:I≠f:=λz=>by rw[z,M]at G;cases G
      have W:I≠u:=λz=>by rw[<- z,ae]at d;cases d
      have X:V.ref f ∉ c.map (·.2):=λz=>by
       obtain⟨L,e⟩:=GR.has Z z;rw[B]at e;cases e
      have a9:Same H H2:=λb o e=>by
       have e1:=R _ _ e;exact Y b o (aB e hg) (aB e1 B) e1
      have mv:∀ b L,V.ref b∈c.map (·.2)->D b=some (.lst L)->(upd (upd (upd H2 I (.tup (eG ((n0::ps).map V.str) (some 1) none))) u (.tup [.int mp,.int mz,.ref I])) f (.lst ([]++[.ref u]))) b=some (.lst L):=λb L hb e=>by
       have a2:b≠f:=λz=>X (z ▸ hb)
       rw[ar a2];exact F _ _ (Y b _ (fr b hb).2 a2 e)
      have b3:TK D (upd (upd (upd H2 I (.tup (eG ((n0::ps).map V.str) (some 1) none))) u (.tup [.int mp,.int mz,.ref I])) f (.lst ([]++[.ref u]))):=λb zs e=>by
       rw[ar (aB e B)];exact F _ _ (Y b _ (sQ e p (λz=>nomatch z)) (aB e B) e)
      have b1:MbAt (upd (upd (upd H2 I (.tup (eG ((n0::ps).map V.str) (some 1) none))) u (.tup [.int mp,.int mz,.ref I])) f (.lst ([]++[.ref u]))) (tl ⟨mp,mz,n0::ps⟩) (.ref u):=by
       refine⟨u,I,rfl,?_,?_⟩
       .rw[ar na,ae];rfl
       .rw[ar np,ar W,ae,show(some (1:Int))=some ((1:Nat):Int) from rfl,aS];rfl
      refine⟨c++[(.inr n0,.ref f)],_,_,_,rfl,(a9.trans F).put a6,by rw[ar an.symm];exact F _ _ bN,?_,?_,λb hb=>?_,by rw[length_append];exact Nat.succ_le_succ kl,λb zs hb C=>?_⟩
      .rw[et]
       exact GR.miss ae b1 (GR.move b3 mv Z) hno
      .rw[map_append,nodup_append]
       refine⟨nd,by simp,λx a8 y bo=>?_⟩;have:y=V.ref f:=by simpa using bo
       rw[this];intro z;exact X (z ▸ a8)
      .rw[map_append,mem_append]at hb
       rcases hb with hb | hb
       .exact fr b hb
       .have:b=f:=by simpa using hb
        rw[this];exact⟨a6,an⟩
      .rw[map_append,mem_append]at hb
       rcases hb with hb | hb
       .obtain⟨a3,S⟩:=GR.has Z hb
        have:=mv b a3 hb S;rw[C]at this;cases this;exact Nat.le_succ_of_le (yl b _ hb S)
       .have:b=f:=by simpa using hb
        rw[this,ae]at C;cases C;exact Nat.succ_le_succ (Nat.zero_le _)
   .rintro σ D ⟨c,x2,x3,x4,rfl,R,p,Z,nd,fr,kl,yl⟩
    refine⟨.inr (.inr (.inl ⟨rfl,.inl ⟨_,p⟩⟩)),?_⟩;refine⟨g,c,rfl,rfl,p,λv hv=>?_⟩;have sv:Same D (upd D v (.ext (IV v g))):=Same.new hv;refine⟨v,g,c,rfl,ae,sv _ _ p,λr as H2 F hr bl a4 a0=>?_⟩;have sT:=sv.trans F;refine q H2 r as c (R.trans sT) ⟨bl,R.free (sv.free hr),a4,λj b k y h1 h2=>(a0 j b k y h1 h2).2,?_,nd,λb hb=>⟨(fr b hb).1,λz=>?_⟩⟩
    .have el:ms.take xs.length=ms:=take_of_length_le (by rw[PySem.Paired.length hm];exact Nat.le_refl _)
     rw[el]at Z;exact GR.move sT.tk (λb L _ e=>sT _ _ e) Z
    .obtain⟨L,e⟩:=GR.has Z hb
     rw[z]at e;have:=sv _ _ e;rw[hr]at this;cases this
theorem fH(T:Txt K mg a):FnOk P w K mg base CX0 2 a.f_N a.d_N ["crowd"] spParted:=by
 have o:FnOk P w K mg base CX0 1 _ _ _ spGroups:=ug T;refine T.F_N.ok oe (λvs H Q E h=>?_) (λcdv A outer s H vs Q E hr h=>?_)
 .obtain⟨l,B,xs,rfl,_⟩:=h;rfl
 .obtain⟨l,B,xs,rfl,hl,hm,hz,hn,q⟩:=h
  have L:sizeLine=16777216:=sizeLine_eq;refine⟨_,(aj (au (aP rfl (N:=["name","members"]) (ix:=[none,none]) ⟨rfl,rfl,rfl,rfl,trivial⟩ (aO (ag o hr rfl T.m_ab T.F_ab.kp T.B_ab .nil af (aa (vr 0) ac))) ⟨λC s H fp=>(bx (K:=K) (n:=2) rfl rfl (aq (ao (i:=0) (show List.Nodup (["name","members"]:List Str) by decide +kernel) rfl (Or.inl rfl)) (aq (ao (i:=1) (show List.Nodup (["name","members"]:List Str) by decide +kernel) rfl (Or.inl rfl)) aJ))),λC s H fp=>aL,λC s H fp=>(vr 1)⟩))),?_⟩;refine⟨l,B,xs,rfl,hl,hm,hz,hn,λH1 r S c s1 gt=>?_⟩;obtain⟨p,ab,x,W,Z,nd,I⟩:=gt;refine .inl ⟨⟨_,SqL.of p⟩,λD hD=>?_⟩;have X:(parts B).length=c.length:=by unfold parts;rw[length_map];exact Paired.length Z
  have hk:c.length<=24:=by
   rw[<- X];have:=tL B;have:=Paired.length hm;lia
  let Pw1:PvL:=λi F f=>Same H1 f/\f D=some (.lst F)/\i<=c.length/\F=(c.take i).map (·.2)
  refine aK (K:=K) (a:=r) (xs:=S.map V.ref) Pw1 ⟨Same.new hD,ae,Nat.zero_le _,rfl⟩ (λi O f h=>SqL.of (h.1 _ _ p)) (λi O f h=>h.2.1) ?_ ?_
  .rintro i y F f P' j ⟨g,d,hi,rfl⟩ R
   rw[List.getElem?_map]at j
   obtain⟨b,hb,rfl⟩:∃ b,S[i]? = some b/\V.ref b=y:=by
    cases e:S[i]? with
    | none=>rw[e]at j;cases j
    | some b=>rw[e]at j;cases j;exact⟨b,rfl,rfl⟩
   have m:i<c.length:=by rw[<- x];exact(List.getElem?_eq_some_iff.mp hb).1
   have Y:c[i]? = some c[i]:=List.getElem?_eq_getElem m;generalize c[i]=kv at Y;obtain⟨k,v⟩:=kv;have u:=W i b k v hb Y;refine⟨b,_,rfl,SqT.of (g _ _ u),rfl,_,_,rfl,_,_,rfl,rfl,trivial,d,by rw[length_map,length_take];lia,R _ _ ⟨g.put hD,ae,m,?_⟩⟩;rw[take_add_one,Y];simp
  .rintro F f ⟨g,d,_,rfl⟩
   rw[length_map,x,take_length]at d;refine q _ D _ (s1.trans g) d ?_;unfold parts
   have G:∀{M:List (Str×List Mb)}{c:List (Key×V)},GR H1 M c->Paired (CrL f) (M.map (·.2)) (c.map (·.2)):=by
    intro M c h
    induction h with
    | nil=>exact .nil
    | cons r _ ih =>
     obtain⟨_,l,O,r2,r3,r4⟩:=r;exact .cons ⟨l,O,r2,g _ _ r3,r4.tk g.tk⟩ ih
   exact G Z
theorem ng(T:Txt K mg a):FnOk P w K mg base CX0 1 a.f_a a.d_a ["groups"] spOuter:=by
 refine T.F_a.ok jC (λvs H Q E h=>?_) (λcdv A outer s H vs Q E hr h=>?_)
 .obtain⟨v,O,rfl,_⟩:=h;rfl
 .obtain⟨v,O,rfl,⟨l,xs,rfl,hl,hg⟩,a0,ap,q⟩:=h
  have ad:sizeLine=16777216:=sizeLine_eq;refine⟨_,(aj (au (aP rfl (N:=["number","members"]) (ix:=[none,none]) ⟨rfl,rfl,rfl,rfl,trivial⟩ (lF rfl T.z_enumerate (aa (vr 0) ac)) ⟨λC s H R=>(bx (K:=K) (n:=2) rfl rfl (aq (ao (i:=0) (show List.Nodup (["number","members"]:List Str) by decide +kernel) rfl (Or.inl rfl)) (aq (ao (i:=1) (show List.Nodup (["number","members"]:List Str) by decide +kernel) rfl (Or.inl rfl)) aJ))),λC s H R=>aL,λC s H R=>(aE (aa (vr 0) (aa (ay (rS (K:=K) rfl rfl) rfl T.z_sum gD (aa (aP rfl (N:=["member"]) (ix:=[none]) ⟨rfl,rfl,rfl,rfl,trivial⟩ (xw (K:=K) rfl (vr 1)) ⟨λC s H R=>ao (i:=0) (show List.Nodup (["member"]:List Str) by decide +kernel) rfl (Or.inl rfl),λC s H R=>aL,λC s H R=>(az (eY (K:=K) rfl) (vr 0) ah (λ_ _=>rfl))⟩) ac)) (aa (aE ac) ac))))⟩))),?_⟩;have gl:O.length=xs.length:=Paired.length hg;refine⟨l,xs,rfl,hl,λD hD=>?_⟩;refine oA (a:=l) (xs:=xs) (λi f b=>i<=xs.length/\Same H b/\b D=some (.lst f)/\CrAt b ((Nst.outer O).take i) f) ⟨Nat.zero_le _,Same.new hD,ae,.nil⟩ (λi f b h=>h.2.1 _ _ hl) (λi f b h=>h.2.2.1) ?_ ?_
  .rintro i x f b p P' hx ⟨hi,s1,g,L⟩ hp hP
   have an:i<xs.length:=(List.getElem?_eq_some_iff.mp hx).1;obtain⟨c,X,lg,M,rfl,W,Y⟩:=aM hg hx;have yl:f.length=i:=by rw[<- L.length,length_take,aX];lia
   have cl:=ap c (List.mem_of_getElem? X);have aS:c.length=M.length:=Paired.length Y;have s2:Same b (upd b p (.tup [.int (i:Nat),.ref lg])):=Same.new hp;refine⟨p,_,rfl,SqT.of ae,rfl,_,_,rfl,_,_,rfl,rfl,trivial,?_⟩;generalize upd b p (.tup [.int (i:Nat),.ref lg])=H1 at s2;have u:=s1.trans s2;refine .inl ⟨⟨_,SqL.of (u _ _ W)⟩,λD2 I=>?_⟩
   let Pw2:PvL:=λj G e=>Same H1 e/\e D2=some (.lst G)/\j<=M.length/\G=((szs c).take j).map V.int
   refine aK (K:=K) (a:=lg) (xs:=M) Pw2 ⟨Same.new I,ae,Nat.zero_le _,rfl⟩ (λj G e h=>SqL.of (h.1 _ _ (u _ _ W))) (λj G e h=>h.2.1) ?_ ?_
   .rintro j y G e P2 hy ⟨Z,d,hj,rfl⟩ as
    obtain⟨m,hm,r,pt,rfl,B,a1⟩:=aM Y hy;have ab:j<M.length:=(List.getElem?_eq_some_iff.mp hy).1;refine⟨trivial,.inr (.inl ⟨r,_,_,_,rfl,rfl,SqT.of ((u.trans Z) _ _ B),ci 1 rfl rfl,d,?_,as _ _ ⟨Z.put I,ae,ab,?_⟩⟩)⟩
    .rw[length_map,length_take];lia
    .have:(szs c)[j]? = some m.2.1:=by unfold szs;rw[List.getElem?_map,hm];rfl
     rw[take_add_one,this,map_append];rfl
   .rintro G e ⟨Z,d,_,rfl⟩
    have es:(szs c).take M.length=szs c:=take_of_length_le (by unfold szs;rw[length_map,aS];exact Nat.le_refl _);rw[es]at d;refine⟨D2,szs c,rfl,SqL.of d,?_⟩;refine⟨Nat.zero_le _,λt ht=>?_⟩;have s4:=Same.new (o:=.tup []) ht;have e4:(upd e t (.tup [])) t=some (.tup []):=ae;generalize upd e t (.tup [])=H3 at s4 e4;refine⟨(by decide:3<=sizeLine),λr B=>?_⟩;have s5:=Same.new (o:=.tup [.int (i:Nat),.int (szs c).sum,.ref t]) B;have e5:(upd H3 r (.tup [.int (i:Nat),.int (szs c).sum,.ref t])) r=some (.tup [.int (i:Nat),.int (szs c).sum,.ref t]):=ae;generalize upd H3 r (.tup [.int (i:Nat),.int (szs c).sum,.ref t])=H4 at s5 e5;have F:=s2.trans (Z.trans (s4.trans s5));have S:=F _ _ g;have tk:TK H4 (upd H4 D (.lst (f++[.ref r]))):=TK.lst S;refine⟨S,by lia,hP _ _ ⟨an,(s1.trans F).put hD,ae,?_⟩⟩
    have eo:(Nst.outer O)[i]? = some ((i:Int),(szs c).sum,[]):=by
     unfold Nst.outer;rw[List.getElem?_map,List.getElem?_zipIdx,X];simp
    rw[take_add_one,eo];exact CrAt.snoc (m:=((i:Int),(szs c).sum,[])) ⟨r,t,rfl,tk _ _ e5,tk _ _ (s5 _ _ e4)⟩ (L.tk (F.tk.trans tk))
  .rintro f b ⟨_,s1,g,L⟩
   refine q _ _ _ s1 hD g ?_;rw[<- gl,<- aX O,take_length]at L;exact L
theorem vF(T:Txt K mg a):FnOk P w K mg base CX0 1 a.f_aA a.d_aA ["crowd","groups"] spSpots:=by
 refine T.F_aA.ok sc_aA (λvs H Q E h=>?_) (λcdv A outer s H vs Q E hr h=>?_)
 .obtain⟨l,r,ms,gs,xs,ys,rfl,_⟩:=h;rfl
 .obtain⟨l,r,ms,gs,xs,ys,rfl,hl,hm,a3,hg,cg,cs,b',a',q⟩:=h
  have b9:sizeLine=16777216:=sizeLine_eq;have gl:gs.length=ys.length:=Paired.length hg;refine⟨_,(ai (ax (i:=2) sc_aA.nd rfl (Or.inr rfl) lZ) (ai (fY PassesOwn.never rfl (lF rfl T.z_enumerate (aa (vr 1) ac)) (dz rfl (aq (ao (i:=3) sc_aA.nd rfl (Or.inl rfl)) (aq (ao (i:=4) sc_aA.nd rfl (Or.inl rfl)) aJ))) (aj (fY PassesOwn.never rfl (lF rfl T.z_enumerate (aa (vr 4) ac)) (dz rfl (aq (ao (i:=5) sc_aA.nd rfl (Or.inl rfl)) (aq (ao (i:=6) sc_aA.nd rfl (Or.inl rfl)) aJ))) (aj (oE (nX hr) (vr 2) (az av (vr 6) ah (λ_ _=>rfl)) (aE (aa (vr 3) (aa (vr 5) ac))) rfl))))) (aj (au (aP rfl (N:=["member","spots"]) (ix:=[none,some 2]) ⟨rfl,rfl,rfl,rfl,⟨rfl,rfl,rfl,trivial⟩⟩ (aO (vr 0)) ⟨λC s H fp=>ao (i:=0) (show List.Nodup (["member","spots"]:List Str) by decide +kernel) rfl (Or.inl rfl),λC s H fp=>aL,λC s H fp=>(rX (nX hr) (vr 1) (az (eY (K:=K) rfl) (vr 0) ah (λ_ _=>rfl)) (λ_ _=>rfl))⟩))))),il ?_⟩;intro ck cj;intro sp a6;have s0:Same H (upd H sp (.dK [])):=Same.new a6
  let Pw3:PvS:=λi Z d=>Same H d/\∃(c:List (Key×V)) (x3 x4 x5 x6:Option V),Z=[some (.ref l),some (.ref r),some (.ref sp),x3,x4,x5,x6]/\d sp=some (.dK c)/\c.length<=24*i/\i<=24/\(∀ k v,cR c (.inl k)=some v->Spot d gs v)/\∀ g W,g<i->gs[g]? = some W->∀ m∈W,(cR c (.inl m.1)).isSome=true
  refine⟨r,ys,rfl,s0 _ _ a3,qd (a:=r) (xs:=ys) Pw3
   ⟨s0,[],none,none,none,none,rfl,ae,Nat.zero_le _,Nat.zero_le _,(λk v O=>by cases O),λg W hg=>absurd hg (Nat.not_lt_zero _)⟩ (λi Z d h=>h.1 _ _ a3) ?_ ?_⟩
  .rintro i x Z d p hx ⟨s1,c,x3,x4,x5,x6,rfl,hd,bm,a4,I,S⟩ hp
   obtain⟨g,B,lg,yg,rfl,a9,a5⟩:=aM hg hx;have a2:i<ys.length:=(List.getElem?_eq_some_iff.mp hx).1;have ca:=b' g (List.mem_of_getElem? B);have b6:g.length=yg.length:=Paired.length a5;have R:Same d (upd d p (.tup [.int (i:Nat),.ref lg])):=Same.new hp;refine⟨p,_,rfl,SqT.of ae,rfl,_,_,rfl,_,_,rfl,rfl,?_⟩;have ap:=s1.trans R;have a1:=R _ _ hd;have L:∀ k v,cR c (.inl k)=some v->Spot (upd d p (.tup [.int (i:Nat),.ref lg])) gs v:=λk v O=>(I k v O).tk R.tk
   generalize upd d p (.tup [.int (i:Nat),.ref lg])=H2 at R ap a1 L
   let Pw4:PvS:=λj Z X=>Same H X/\∃(c:List (Key×V)) (x5 x6:Option V),Z=[some (.ref l),some (.ref r),some (.ref sp),some (.int (i:Nat)),some (.ref lg),x5,x6]/\X sp=some (.dK c)/\c.length<=24*i+j/\j<=24/\(∀ k v,cR c (.inl k)=some v->Spot X gs v)/\(∀ g2 W,g2<i->gs[g2]? = some W->∀ m∈W,(cR c (.inl m.1)).isSome=true)/\∀ m∈g.take j,(cR c (.inl m.1)).isSome=true
   refine⟨lg,yg,rfl,ap _ _ a9,qd (a:=lg) (xs:=yg) Pw4
    ⟨ap,c,_,_,rfl,a1,by lia,by lia,L,S,λm hm=>by cases hm⟩ (λj Z X h=>h.1 _ _ a9) ?_ ?_⟩
   .rintro j y Z X p3 hy ⟨s3,c,x5,x6,rfl,aS,b2,a0,u,f,Y⟩ bd
    obtain⟨m,bo,ad,pp,rfl,ha,b1⟩:=a5.get hy;have co:j<yg.length:=(List.getElem?_eq_some_iff.mp hy).1;have s4:Same X (upd X p3 (.tup [.int (j:Nat),.ref ad])):=Same.new bd;refine⟨p3,_,rfl,SqT.of ae,rfl,_,_,rfl,_,_,rfl,rfl,?_⟩;refine⟨by show 2<=sizeLine;decide,λp5 bl=>?_⟩;have s5:=s4.trans (Same.new (o:=.tup [.int (i:Nat),.int (j:Nat)]) bl);have e5:(upd (upd X p3 (.tup [.int (j:Nat),.ref ad])) p5 (.tup [.int (i:Nat),.int (j:Nat)])) p5=some (.tup [.int (i:Nat),.int (j:Nat)]):=ae;generalize upd (upd X p3 (.tup [.int (j:Nat),.ref ad])) p5 (.tup [.int (i:Nat),.int (j:Nat)])=H5 at s5 e5;have a8:=s5 _ _ aS;refine .inr (.inl ⟨ad,_,_,_,rfl,rfl,SqT.of ((s3.trans s5) _ _ ha),ci 0 rfl rfl,sp,_,rfl,DPut.k (k:=.inl m.1) a8 (by lia),?_⟩)
    have tk:TK H5 (upd H5 sp (.dK (eL c (.inl m.1) (.ref p5)))):=λb zs e=>by
     rw[ar λz=>by rw[z,a8]at e;cases e];exact e
    have ab:∀ k:Key,(cR c k).isSome=true->(cR (eL c (.inl m.1) (.ref p5)) k).isSome=true:=λk h=>by
     rw[iN]
     split
     .rfl
     .exact h
    refine⟨(s3.trans s5).put a6,eL c (.inl m.1) (.ref p5),_,_,rfl,ae,?_,by lia,λk v O=>?_,λg2 W h1 h2 m' F=>ab _ (f g2 W h1 h2 m' F),λm' F=>?_⟩
    .have:=vW c (.inl m.1) (.ref p5);lia
    .rw[iN]at O
     split at O
     .cases O
      exact⟨p5,i,j,g,rfl,tk _ _ e5,B,by lia⟩
     .exact((u k v O).tk s5.tk).tk tk
    .rw[take_add_one,bo]at F
     rcases mem_append.mp F with h | h
     .exact ab _ (Y m' h)
     .rw[show m'=m by simpa using h,iN,if_pos rfl];rfl
   .rintro Z X ⟨s3,c,x5,x6,rfl,aS,b2,a0,u,f,Y⟩
    rw[<- b6,take_length]at Y;refine⟨s3,c,_,_,_,_,rfl,aS,by lia,by lia,u,λg2 W h1 h2 m hm=>?_⟩
    rcases Nat.lt_or_ge g2 i with h | h
    .exact f g2 W h h2 m hm
    .have:g2=i:=by lia
     subst this;rw[B]at h2;cases h2;exact Y m hm
  .rintro Z H1 ⟨s1,c,x3,x4,x5,x6,rfl,hd,bm,a4,I,S⟩
   refine .inl ⟨⟨_,SqL.of (s1 _ _ hl)⟩,λD hD=>?_⟩
   let Pw5:PvL:=λi zs d=>Same H1 d/\d D=some (.lst zs)/\zs.length=i/\i<=xs.length/\∀ z∈zs,Spot d gs z
   refine aK (K:=K) (a:=l) (xs:=xs) Pw5 ⟨Same.new hD,ae,rfl,Nat.zero_le _,λz hz=>by cases hz⟩ (λi ys d h=>SqL.of (h.1 _ _ (s1 _ _ hl))) (λi ys d h=>h.2.1) ?_ ?_
   .rintro i y zs d P' hy ⟨R,M,as,hi,hz⟩ b0
    obtain⟨m,b4,ad,pp,rfl,ha,b1⟩:=hm.get hy;have a2:i<xs.length:=(List.getElem?_eq_some_iff.mp hy).1;have ch:=Paired.length hm;obtain⟨g,bN,m',F,b3⟩:=a' m (List.mem_of_getElem? b4);obtain⟨gi,B⟩:=List.getElem?_of_mem bN;have a7:gi<ys.length:=by rw[<- gl];exact(List.getElem?_eq_some_iff.mp B).1
    have G:=S gi g a7 B m' F;rw[b3]at G;obtain⟨v,O⟩:=Option.isSome_iff_exists.mp G;have an:=(I _ v O).tk R.tk;refine⟨⟨rfl,trivial⟩,.inr (.inl ⟨ad,_,_,_,rfl,rfl,SqT.of (R _ _ (s1 _ _ ha)),ci 0 rfl rfl,sp,v,rfl,(by show DGet _ sp (.int m.1) _;rw[<- O];exact DGet.k (k:=.inl m.1) (R _ _ hd)),M,by lia,b0 _ _ ⟨R.put hD,ae,by rw[length_append,as];rfl,a2,λz b5=>?_⟩⟩)⟩
    rcases mem_append.mp b5 with h | h
    .exact(hz z h).tk (TK.lst M)
    .rw[mem_singleton.mp h];exact an.tk (TK.lst M)
   .rintro zs d ⟨R,M,as,_,hz⟩
    exact q _ D zs (s1.trans R) M (by rw[as];exact(Paired.length hm).symm) hz
end
end My
namespace FrM
open Du
theorem rY{u b:Int}(h:0<=u)(d:u<=b)(i:0<b):Bq b.toNat ((u:Rat)/(b:Rat)):=by
 have e:((b.toNat:Nat):Rat)=(b:Rat):=by
  have:((b.toNat:Nat):Int)=b:=by lia
  rw[<- this];rfl
 have g:((u.toNat:Nat):Rat)=(u:Rat):=by
  have:((u.toNat:Nat):Int)=u:=by lia
  rw[<- this];rfl
 have a:(0:Rat)<(b:Rat):=by exact_mod_cast i
 have c:(0:Rat)<=(u:Rat):=by exact_mod_cast h
 have f:(u:Rat)<=(b:Rat):=by exact_mod_cast d
 refine⟨oZ c a,?_,u.toNat,?_⟩
 .have:=oZ (show(0:Rat)<=(b:Rat) - (u:Rat) by grind) a
  grind
 .rw[e,g]
  grind
theorem uO{z:List Int}{m:Int}(hz:∀ k,k<z.length->1<=sz z k)(f:∀ k,k<z.length->sz z k<=54)(h:z.length<=6)(l:0<=m)(e:m<=24):∃ S N,Top (if (z.length:Int)<=m then (z.length:Int) else m) z.length S N/\(∀ k p,(due z m)[k]? = some p->Low (N k) S p.1 p.2)/\S<=324:=by
 have d:Low 1 1 1 1:=⟨by decide,by decide,by decide⟩
 have c:Low 0 1 0 1:=⟨by decide,by decide,by decide⟩
 unfold due
 by_cases h1:(z.length:Int)<=m
 .rw[if_pos h1,if_pos h1]
  refine⟨1,λ_=>1,⟨by decide,by rw[kI,length_range]⟩,λk p a=>?_,by decide⟩;rw[List.getElem?_map]at a;cases b:z[k]? with
  | none=>rw[b]at a;cases a
  | some x=>rw[b]at a;cases a;exact d
 .rw[if_neg h1,if_neg h1]
  by_cases h2:m=0
  .rw[if_pos h2]
   refine⟨1,λ_=>0,⟨by decide,by rw[kI,h2];simp⟩,λk p a=>?_,by decide⟩;rw[List.getElem?_map]at a;cases b:z[k]? with
   | none=>rw[b]at a;cases a
   | some x=>rw[b]at a;cases a;exact c
  .rw[if_neg h2]
   have R:=Rnd.fin hz _ _ _ (Nat.le_refl _) (Rnd.start (z:=z) (n:=z.length) (m:=m) (by lia) (by lia));have T:=Top.of_rnd hz R
   have g:br z (FrM.fin z (List.range z.length) m).1<=324:=by
    have j:=lK z 54 _ λk b=>f k (R.sub k b)
    have i:=R.len;lia
   refine⟨_,_,T,λk p a=>?_,g⟩
   .rw[List.getElem?_map]at a
    by_cases b:k<z.length
    .rw[List.getElem?_range b]at a
     cases a
     by_cases hd:decide (k∈(FrM.fin z (List.range z.length) m).1)=true
     .simp only[if_pos hd];exact lW T.pos
     .simp only[if_neg hd]
      exact⟨by decide,by decide,by lia⟩
    .rw[List.getElem?_eq_none (by rw[length_range];lia)]at a
     cases a
theorem wM{z:List Int}{m:Int}(hz:∀ k,k<z.length->1<=sz z k)(j:∀ k,k<z.length->sz z k<=54)(x:z.length<=6)(s:0<=m)(c:m<=24):∃(B:Nat) (qs:List Rat),0<B/\B<=324/\qs.length=z.length/\qs.map fr=due z m/\(∀ q∈qs,Bq B q)/\∀ f∈due z m,Fr (B:Int) f:=by
 obtain⟨S,N,g,A,G⟩:=uO hz j x s c;have v:=zK hz (λk a=>by have:=j k a;lia) (by lia) s;have C:=dL z m;have D:((S.toNat:Nat):Int)=S:=by have:=g.pos;lia
 have d:=g.pos
 have b:∀ k p,(due z m)[k]? = some p->Fr S p/\un S p=N k/\p=Du.fr ((N k:Rat)/(S:Rat))/\0<=N k/\N k<=S:=λk p o=>by
  have f:=v p (List.mem_of_getElem? o);have l:=A k p o;have i:p.2 ∣ S:=lH l.cop ⟨N k,by rw[l.eq,Int.mul_comm]⟩;have F:=f.pos
  have r:un S p=N k:=by
   refine Int.eq_of_mul_eq_mul_right (show p.2≠0 by lia) ?_;unfold un;rw[Int.mul_assoc,Int.ediv_mul_cancel i];exact l.eq
  refine⟨⟨f.lo,f.hi,f.pos,i⟩,r,by rw[<- o8 _ d];exact zQ d l,?_,?_⟩
  .rw[<- r];unfold un
   exact Int.mul_nonneg f.lo (Int.ediv_nonneg (by lia) (by lia))
  .have E:p.1*S=N k*p.2:=l.eq
   have e:p.1*S<=p.2*S:=Int.mul_le_mul_of_nonneg_right f.hi (by lia);rw[E,Int.mul_comm p.2]at e;exact Int.le_of_mul_le_mul_right e F
 have at_:∀ k (h:k<z.length),(due z m)[k]? = some ((due z m)[k]'(by lia)):=λk h=>List.getElem?_eq_getElem (by lia)
 refine⟨S.toNat,(List.range z.length).map λk=>(N k:Rat)/(S:Rat),?_⟩;refine⟨by lia,by lia,by rw[length_map,length_range],?_,?_,?_⟩
 .apply List.ext_getElem
  .simp[C]
  .intro k H y
   rw[List.getElem_map,List.getElem_map,List.getElem_range];exact(b k _ (List.getElem?_eq_getElem y)).2.2.1.symm
 .intro q w
  obtain⟨k,a,rfl⟩:=mem_map.mp w;have a:=mem_range.mp a;have:=b k _ (at_ k a);exact rY this.2.2.2.1 this.2.2.2.2 d
 .intro f u
  obtain⟨k,a⟩:=List.getElem?_of_mem u;rw[D];exact(b k f a).1
end FrM
namespace My
open PySem L2 FrM Du Nw
open Nst (Mb plc szs hd tl dr groups aW parts outer aX bq bz)
def IsLam(H:Hp)(d:LamD)(fv:List Str)(v:V)(vals:List V):Prop:=∃ f c clos,v=.ref f/\H f=some (.ext (kF f d clos c))/\H c=some (.ext (iJ c d.qual))/\clos.map (·.1)=fv/\(clos.map (·.2)).Nodup/\CellsAt H clos vals
theorem sy{H a:Hp}(s:SameT H a):∀{clos:List (Str×Addr)}{vals:List V},CellsAt H clos vals->CellsAt a clos vals
 | _,_,.nil=>.nil
 | _,_,.cons r t=>.cons (s.at r) (sy s t)
theorem IsLam.t{H e:Hp}{d:LamD}{g:List Str}{v:V}{a:List V}(s:SameT H e)(h:IsLam H d g v a):IsLam e d g v a:=by
 obtain⟨f,c,b,o,l,j,i,m,p⟩:=h;exact⟨f,c,b,o,s.at l,s.at j,i,m,sy s p⟩
theorem TabsOk.untrs{a:rV}{H:Hp}{b:List (Str×Addr)}{d:List V}(i:TabsOk a H)(e:CellsAt H b d):TabsOk a (untrs H (b.map (·.2))):=λq j=>by
 obtain⟨f,m,h,g⟩:=i q j;exact⟨f,cV e m (λv z=>nomatch z),h,λl hl=>(g l hl).imp id λ⟨c,x,y⟩=>⟨c,x,cV e y λv=>oF⟩⟩
def sqO:HO->Bool
 | .lst _=>true
 | .tup _=>true
 | _=>false
def SQ(H H':Hp):Prop:=∀ b o,sqO o=true->H b=some o->H' b=some o
theorem SQ.of{H a:Hp}(s:SameT H a):SQ H a:=λb o c e=>s.at e (by cases o <;> first | rfl | cases c)
theorem SQ.un{H:Hp}{a:List (Str×Addr)}{d:List V}(f:CellsAt H a d):SQ H (untrs H (a.map (·.2))):=λb o c e=>cV f e λv z=>by rw[z]at c;cases c
theorem SQ.tk{H a:Hp}(s:SQ H a):TK H a:=λb c e=>s b _ rfl e
theorem kK{H d c:Hp}{a:List (Str×Addr)}(s:Same (untrs H (a.map (·.2))) d)(h:Same d c)(f:∀ p∈a,c p.2=H p.2):Same H c:=λb o e=>by
 by_cases hb:b∈a.map (·.2)
 .obtain⟨p,g,rfl⟩:=mem_map.mp hb
  rw[f p g];exact e
 .exact h _ _ (s b o (by rw[iT hb];exact e))
abbrev RE:=Nat->Nat->Int×Int->Prop
def RowM(K:Frag)(R:RE)(H:Hp)(n i:Nat)(x:V):Prop:=∃ r es,x=.ref r/\H r=some (.lst es)/\es.length=n/\∀(j:Nat) y,es[j]? = some y->∃ f,IsF K H f y/\R i j f
def Mx(K:Frag)(R:RE)(H:Hp)(n:Nat)(v:V):Prop:=∃ l rows,v=.ref l/\H l=some (.lst rows)/\rows.length=n/\∀(i:Nat) x,rows[i]? = some x->RowM K R H n i x
theorem RowM.q{K:Frag}{R:RE}{H a:Hp}{n i:Nat}{x:V}(s:SQ H a)(h:RowM K R H n i x):RowM K R a n i x:=by
 obtain⟨r,m,o,g,d,c⟩:=h;refine⟨r,m,o,s _ _ rfl g,d,λj y e=>?_⟩;obtain⟨f,l,b⟩:=c j y e;exact⟨f,l.tk s.tk,b⟩
theorem Mx.q{K:Frag}{R:RE}{H b:Hp}{n:Nat}{v:V}(s:SQ H b)(h:Mx K R H n v):Mx K R b n v:=by
 obtain⟨l,a,g,f,d,c⟩:=h;exact⟨l,a,g,s _ _ rfl f,d,λi x e=>(c i x e).q s⟩
theorem RowM.cut{K:Frag}{R:RE}{H:Hp}{n i:Nat}{r D:Addr}{o:List V}(p:H D=some (.lst o))(s:r≠D)(h:RowM K R H n i (.ref r)):RowM K R (untr H D) n i (.ref r):=by
 obtain⟨w,l,u,g,d,c⟩:=h;cases u;refine⟨r,l,rfl,by rw[cQ s];exact g,d,λj y e=>?_⟩;obtain⟨f,m,a⟩:=c j y e;exact⟨f,m.tk λb v e=>by rw[cQ λz=>by rw[z,p]at e;cases e];exact e,a⟩
theorem Mx.cut{K:Frag}{R:RE}{H:Hp}{n:Nat}{v:V}{D:Addr}{o:List V}(m:H D=some (.lst o))(c:∀ l rows,v=.ref l->H l=some (.lst rows)->l≠D/\∀ r,V.ref r∈rows->r≠D)(h:Mx K R H n v):Mx K R (untr H D) n v:=by
 obtain⟨l,rows,rfl,a,f,d⟩:=h;obtain⟨g,j⟩:=c l rows rfl a;refine⟨l,rows,rfl,by rw[cQ g];exact a,f,λi x e=>?_⟩;have b:=d i x e;obtain⟨r,p,rfl,_⟩:=id b;exact b.cut m (j r (List.mem_of_getElem? e))
theorem yw{H:Hp}{D:Addr}:SQ (untr H D) H:=λb a _ e=>by
 by_cases hb:b=D
 .rw[hb,eO]at e;cases e
 .rw[cQ hb]at e;exact e
def Ans(K:Frag)(R:RE)(i j:Nat)(H:Hp)(Q:VK):Prop:=∀ H' x f,Same H H'->IsF K H' f x->R i j f->Q x H'
def EnR(n:Nat):RE:=λ_ _ f=>∃(q:Rat) (D:Nat),f=fr q/\0<D/\D<2 ^ n/\Bq D q
theorem rm{n i j:Nat}{t b:Int}(c:0<=t)(e:t<=b)(a:0<b)(d:b.toNat<2 ^ n):EnR n i j (fB t b):=⟨(t:Rat)/(b:Rat),b.toNat,o8 t a,by lia,d,rY c e a⟩
theorem zt{i j:Nat}:EnR 66 i j (1,1):=⟨1,1,rfl,by decide,by decide,Bq.one⟩
def ent(qs:List Rat)(f:Fn)(i j:Nat):Rat:=if i=j then qs.getD i 0 else (f i j).getD (qs.getD i 0*qs.getD j 0)
structure DMx(K:Frag)(H:Hp)(lt d:Addr)(qs:List Rat)(f:Fn)(B:Nat):Prop where
 l:∃ xs,H lt=some (.lst xs)/\AllF K H (qs.map fr) xs
 t:∃ kvs,H d=some (.dT kvs)/\DF K H kvs f
 n:qs.length<=24
 B0:0<B
 B1:B<=1000000000
 q:∀ q∈qs,Bq B q
 e:∀ i j,i<qs.length->j<qs.length->∃ D:Nat,0<D/\D<2 ^ 66/\Bq D (ent qs f i j)
theorem DMx.on{K:Frag}{H a:Hp}{b d:Addr}{c:List Rat}{f:Fn}{B:Nat}(M:DMx K H b d c f B)(k:TK H a)(e:∀ xs,H b=some (.lst xs)->a b=some (.lst xs))(h2:∀ kvs,H d=some (.dT kvs)->a d=some (.dT kvs)):DMx K a b d c f B :=
 let ⟨xs,a1,a2⟩:=M.l
 let ⟨kvs,b1,b2⟩:=M.t
 ⟨⟨xs,e _ a1,a2.tk k⟩,⟨kvs,h2 _ b1,b2.tk k⟩,M.n,M.B0,M.B1,M.q,M.e⟩
theorem DMx.same{K:Frag}{H a:Hp}{c d:Addr}{b:List Rat}{f:Fn}{B:Nat}(M:DMx K H c d b f B)(s:Same H a):DMx K a c d b f B:=M.on s.tk (λg e=>s _ _ e) (λg e=>s _ _ e)
theorem DMx.st{K:Frag}{H a:Hp}{c d:Addr}{b:List Rat}{f:Fn}{B:Nat}(M:DMx K H c d b f B)(s:SameT H a):DMx K a c d b f B:=M.on (SameT.tk s) (λg e=>s.at e) (λg e=>s.at e)
def AL(qs:List Rat)(ord:List Nat):List (Nat×Rat):=ord.map λo=>(o,qs.getD o 0)
def qf(qs:List Rat)(ord:List Nat):List (Nat×Rat):=(AL qs ord).filter λz=>pV z.2
inductive spPair(K:Frag)(vs:List V)(H:Hp)(Q:VK)(_E:XK):Prop
 | mk(lt d:Addr)(qs:List Rat)(f:Fn)(B i j:Nat)(h0:vs=[.ref lt,.ref d,.int (i:Nat),.int (j:Nat)])(h1:DMx K H lt d qs f B)(h2:i<qs.length)(h3:j<qs.length)(h4:∀ H' z,Same H H'->IsQ K H' (ent qs f i j) z->Q z H'):spPair K vs H Q _E
theorem su{p:Nat}{h c:Rat}{x y:Nat}{v:Rat}:∀{e:Er}{f:Fn},qr p h c e f x y=some v->f x y=some v\/∃ z∈e,v=bk z.2 h c
 | [],f,hv=>.inl hv
 | z::e,f,hv=>by
  rw[uY]at hv
  rcases su hv with a | ⟨b,g,d⟩
  .unfold nz at a
   split at a
   .cases a;exact .inr ⟨z,mem_cons_self,rfl⟩
   .split at a
    .cases a;exact .inr ⟨z,mem_cons_self,rfl⟩
    .exact .inl a
  .exact .inr ⟨b,mem_cons_of_mem _ g,d⟩
theorem wN{B:Nat}{L:List (Nat×Rat)}(j:0<B)(E:B<=324)(s:L.length<=6)(A:∀ z∈L,Bq B z.2/\Uns z.2){x y:Nat}{v:Rat}(p:pL L x y=some v):∃ D:Nat,0<D/\D<2 ^ 66/\Bq D v:=by
 have d:∀ i,i<=L.length->KtS B L i ((L.take i).foldl jX k0)/\∀ x y v,((L.take i).foldl jX k0).1 x y=some v->∃ D:Nat,0<D/\D<=(2*B) ^ i*B/\Bq D v:=by
  intro i
  induction i with
  | zero=>exact λ_=>⟨KtS.start,λx y v h=>nomatch h⟩
  | succ i ih =>
   intro F;obtain⟨k,o⟩:=ih (by lia);have c:L[i]? = some (L[i]'(by lia)):=List.getElem?_eq_getElem _;generalize L[i]'(by lia)=z at c;obtain⟨f,l⟩:=A z (List.mem_of_getElem? c);have m:=(k.step j (by lia) c f l).2;have C:(L.take (i+1)).foldl jX k0=jX ((L.take i).foldl jX k0) z:=by rw[take_add_one,c,foldl_append];rfl
   rw[C];refine⟨m,λx y v h=>?_⟩;have g:(2*B) ^ i<=(2*B) ^ (i+1):=Nat.pow_le_pow_right (by lia) (by lia)
   rcases su h with h | ⟨w,r,rfl⟩
   .obtain⟨D,a,b,e⟩:=o x y v h
    exact⟨D,a,Nat.le_trans b (Nat.mul_le_mul_right _ g),e⟩
   .obtain⟨D,a,b,u⟩:=k.D
    exact⟨D*B,Nat.mul_pos a j,Nat.mul_le_mul_right _ (Nat.le_trans b g),((u w r).bk f k.hB k.h1 l.2).2.2⟩
 obtain⟨_,h⟩:=d L.length (Nat.le_refl _);rw[take_length]at h;obtain⟨D,a,b,e⟩:=h x y v p;refine⟨D,a,Nat.lt_of_le_of_lt b (Nat.lt_of_le_of_lt (Nat.mul_le_mul (Nat.pow_le_pow_left (show 2*B<=648 by lia) _) E) (Nat.lt_of_le_of_lt (Nat.mul_le_mul_right _ (Nat.pow_le_pow_right (by decide) s)) (by decide))),e⟩
theorem zI{B:Nat}{a:List Rat}{L:List (Nat×Rat)}(b:0<B)(c:B<=324)(e:L.length<=6)(f:∀ z∈L,Bq B z.2/\Uns z.2)(l:∀ q∈a,Bq B q){i j:Nat}(d:i<a.length)(g:j<a.length):∃ D:Nat,0<D/\D<2 ^ 66/\Bq D (ent a (pL L) i j):=by
 have at_:∀{i},i<a.length->Bq B (a.getD i 0):=λ{i} h=>l _ (by rw[List.getD,List.getElem?_eq_getElem h];exact getElem_mem h)
 unfold ent
 split
 .exact⟨B,b,by lia,at_ d⟩
 .cases hv:pL L i j with
  | none=>exact⟨B*B,Nat.mul_pos b b,Nat.lt_of_le_of_lt (Nat.mul_le_mul c c) (by decide),(at_ d).mul (at_ g)⟩
  | some v=>exact wN b c e f hv
abbrev fvW:List Str:=["wanted","there"]
abbrev fvM:List Str:=["told","found"]
abbrev fvX:List Str:=["spots","outer","blocks"]
abbrev xG:List Str:=["step"]
abbrev xp:List Str:=["told"]
structure LMx(K:Frag)(H:Hp)(lt:Addr)(qs:List Rat)(B:Nat):Prop where
 l:∃ xs,H lt=some (.lst xs)/\AllF K H (qs.map fr) xs
 B0:0<B
 B1:B<=324
 q:∀ q∈qs,Bq B q
theorem LMx.q_{K:Frag}{H a:Hp}{c:Addr}{b:List Rat}{B:Nat}(s:SQ H a)(M:LMx K H c b B):LMx K a c b B:=let ⟨xs,a1,a2⟩:=M.l;⟨⟨xs,s _ _ rfl a1,a2.tk s.tk⟩,M.B0,M.B1,M.q⟩
def GOk(K:Frag)(b:Nat)(H:Hp)(n:Nat)(sp ou bl:V):Prop:=∃(gs:List (List Mb)) (ls lb:Addr) (zs bs:List V),sp=.ref ls/\bl=.ref lb/\H ls=some (.lst zs)/\zs.length=n/\(∀ z∈zs,Spot H gs z)/\Mx K (EnR 66) H gs.length ou/\H lb=some (.lst bs)/\Paired (λ(g:List Mb) v=>Mx K (EnR b) H g.length v) gs bs
theorem GOk.q{K:Frag}{b:Nat}{H a:Hp}{n:Nat}{sp d c:V}(s:SQ H a)(h:GOk K b H n sp d c):GOk K b a n sp d c:=by
 obtain⟨u,l,y,r,f,o,i,j,e,m,x,A,p⟩:=h;exact⟨u,l,y,r,f,o,i,s _ _ rfl j,e,λz w=>(m z w).tk s.tk,x.q s,s _ _ rfl A,aC (λg v h=>h.q s) p⟩
def Aj(K:Frag):List V->Sp:=λvals vs H Q _=>∃ n w i j:Nat,vals=[.int (w:Nat),.int (n:Nat)]/\vs=[.int (i:Nat),.int (j:Nat)]/\w<=n/\n<=6/\i<n/\j<n/\Ans K (EnR 66) i j H Q
def Bo(K:Frag):List V->Sp:=λvals vs H Q _=>∃ st i j:Nat,vals=[.int (st:Nat)]/\vs=[.int (i:Nat),.int (j:Nat)]/\1<=st/\st<=100/\Ans K (EnR 66) i j H Q
def AW(K:Frag):List V->Sp:=λvals vs H Q _=>∃(lt:Addr) (qs:List Rat) (B i j:Nat),vals=[.ref lt]/\vs=[.int (i:Nat),.int (j:Nat)]/\LMx K H lt qs B/\i<qs.length/\j<qs.length/\Ans K (EnR 66) i j H Q
def Bp(K:Frag):List V->Sp:=λvals vs H Q _=>∃(lt d:Addr) (qs:List Rat) (f:Fn) (B i j:Nat),vals=[.ref lt,.ref d]/\vs=[.int (i:Nat),.int (j:Nat)]/\DMx K H lt d qs f B/\i<qs.length/\j<qs.length/\Ans K (EnR 66) i j H Q
def Bh(K:Frag):List V->Sp:=λvals vs H Q _=>∃ i j:Nat,vals=[]/\vs=[.int (i:Nat),.int (j:Nat)]/\Ans K (EnR 66) i j H Q
def AJ(K:Frag):List V->Sp:=λvals vs H Q _=>∃ b n i j:Nat,∃ sp ou bl,vals=[sp,ou,bl]/\vs=[.int (i:Nat),.int (j:Nat)]/\b<=462/\GOk K b H n sp ou bl/\i<n/\j<n/\Ans K (EnR (66+(b+b))) i j H Q
def TellsAt(K:Frag)(r:Nat)(H:Hp)(n:Nat)(v:V):Prop:=(r=66/\n<=6/\∃ w:Nat,w<=n/\IsLam H cX fvW v [.int (w:Nat),.int (n:Nat)])\/(r=66/\∃ st:Nat,1<=st/\st<=100/\IsLam H bX xG v [.int (st:Nat)])\/(r=66/\∃ lt qs B,IsLam H bZ xp v [.ref lt]/\LMx K H lt qs B/\qs.length=n)\/(r=66/\∃ lt d qs f B,IsLam H cJ fvM v [.ref lt,.ref d]/\DMx K H lt d qs f B/\qs.length=n)\/(r=66/\IsLam H bH [] v [])\/∃ b,r=66+(b+b)/\b<=462/\∃ sp ou bl,IsLam H bO fvX v [sp,ou,bl]/\GOk K b H n sp ou bl
theorem TellsAt.same{K:Frag}{r:Nat}{H l:Hp}{n:Nat}{v:V}(s:Same H l)(h:TellsAt K r H n v):TellsAt K r l n v:=by
 rcases h with⟨c,a,w,e,g⟩ | ⟨c,o,a,e,g⟩ | ⟨c,j,i,B,a,e,g⟩ | ⟨c,j,d,i,f,B,a,e,g⟩ | ⟨c,a⟩ | ⟨b,c,x,p,u,m,a,e⟩
 .exact .inl ⟨c,a,w,e,g.t s.t⟩
 .exact .inr (.inl ⟨c,o,a,e,g.t s.t⟩)
 .exact .inr (.inr (.inl ⟨c,j,i,B,a.t s.t,e.q_ (SQ.of s.t),g⟩))
 .exact .inr (.inr (.inr (.inl ⟨c,j,d,i,f,B,a.t s.t,e.same s,g⟩)))
 .exact .inr (.inr (.inr (.inr (.inl ⟨c,a.t s.t⟩))))
 .exact .inr (.inr (.inr (.inr (.inr ⟨b,c,x,p,u,m,a.t s.t,e.q (SQ.of s.t)⟩))))
theorem lsW:LamScope cX fvW ["one","other"]:=⟨rfl,rfl,rfl,by decide +kernel,by decide +kernel,by decide +kernel,by decide +kernel,by decide +kernel⟩
theorem BY:LamScope bX xG ["one","other"]:=⟨rfl,rfl,rfl,by decide +kernel,by decide +kernel,by decide +kernel,by decide +kernel,by decide +kernel⟩
theorem BS:LamScope bZ xp ["one","other"]:=⟨rfl,rfl,rfl,by decide +kernel,by decide +kernel,by decide +kernel,by decide +kernel,by decide +kernel⟩
theorem lsM:LamScope cJ fvM ["one","other"]:=⟨rfl,rfl,rfl,by decide +kernel,by decide +kernel,by decide +kernel,by decide +kernel,by decide +kernel⟩
theorem lsE:LamScope bH [] ["one","other"]:=⟨rfl,rfl,rfl,by decide +kernel,by decide +kernel,by decide +kernel,by decide +kernel,by decide +kernel⟩
theorem lsX:LamScope bO fvX ["one","other"]:=⟨rfl,rfl,rfl,by decide +kernel,by decide +kernel,by decide +kernel,by decide +kernel,by decide +kernel⟩
inductive spChance(K:Frag)(vs:List V)(H:Hp)(Q:VK)(_E:XK):Prop
 | mk(n w i j:Nat)(h0:vs=[.int (n:Nat),.int (w:Nat),.bl (decide (i=j))])(h1:w<=n)(h2:n<=6)(h3:i<n)(h4:j<n)(h5:Ans K (EnR 66) i j H Q):spChance K vs H Q _E
inductive spSpotC(K:Frag)(vs:List V)(H:Hp)(Q:VK)(_E:XK):Prop
 | mk(b n i j:Nat)(h0:∃ sp ou bl z z' ls zs,vs=[bl,ou,z,z']/\b<=462/\GOk K b H n sp ou bl/\sp=.ref ls/\H ls=some (.lst zs)/\zs[i]? = some z/\zs[j]? = some z'/\Ans K (EnR (66+(b+b))) i j H Q):spSpotC K vs H Q _E
inductive spMRow(K:Frag)(vs:List V)(H:Hp)(Q:VK)(_E:XK):Prop
 | mk(n i r:Nat)(v:V)(h0:vs=[.int (i:Nat),.int (n:Nat),v])(h1:i<n)(h2:n<=24)(h3:TellsAt K r H n v)(h4:∀ H' p,Same H H'->H p=none->RowM K (EnR r) H' n i (.ref p)->Q (.ref p) H'):spMRow K vs H Q _E
inductive spMBy(K:Frag)(vs:List V)(H:Hp)(Q:VK)(_E:XK):Prop
 | mk(n r:Nat)(v:V)(h0:vs=[.int (n:Nat),v])(h1:n<=24)(h2:TellsAt K r H n v)(h3:∀ H' p rows,Same H H'->H p=none->H' p=some (.lst rows)->(∀ q,V.ref q∈rows->H q=none)->Mx K (EnR r) H' n (.ref p)->Q (.ref p) H'):spMBy K vs H Q _E
section
variable {P:Program}{w:World}{K:Frag}{mg:Str->Option Value}{base:Heap}{a:Ad}
theorem wj{H:Hp}{a:List Rat}{xs:List V}(d:AllF K H (a.map fr) xs){i:Nat}(g:i<a.length):∃ x,xs[i]? = some x/\IsQ K H (a.getD i 0) x:=by
 have h:xs.length=a.length:=by rw[<- d.len,length_map]
 have e:i<xs.length:=by lia
 obtain⟨f,c,b⟩:=d.get (List.getElem?_eq_getElem e);rw[List.getElem?_map,List.getElem?_eq_getElem g]at c;cases c;refine⟨xs[i],List.getElem?_eq_getElem e,?_⟩;rw[List.getD,List.getElem?_eq_getElem g];exact b
theorem wB(T:Txt K mg a):FnOk P w K mg base CX0 4 a.f_av a.d_av ["told","found","one","other"] (spPair K):=by
 have p:FnOk P w K mg base CX0 3 _ _ _ (spAri (· * ·) (λ_=>True) K):=iI T;refine T.F_av.ok lR (λW H Q E h=>?_) (λcdv A outer s H W Q E hr h=>?_)
 .obtain⟨r,d,x,f,B,i,j,rfl,_⟩:=h;rfl
 .obtain⟨r,d,x,f,B,i,j,rfl,M,C,R,q⟩:=h
  obtain⟨xs,b,N⟩:=M.l;obtain⟨l,I,G⟩:=M.t;obtain⟨D,m,L⟩:=wj N C;obtain⟨Z,u,qj⟩:=wj N R;have F:∀{i},i<x.length->Bb (x.getD i 0):=λ{i} h=>(M.q _ (by rw[List.getD,List.getElem?_eq_getElem h];exact getElem_mem h)).bb M.B0 (qF M.B1)
  refine⟨_,(ai (aR (aT eC (vr 2) (vr 3) (aG _)) (aj (au (az av (vr 0) (vr 2) (λ_ _=>rfl)))) aD) (aj (au (ve (nX hr) (vr 1) (aE (aa (vr 2) (aa (vr 3) ac))) (ag p hr rfl T.m_ap T.F_ap.kp T.B_ap .nil af (aa (az av (vr 0) (vr 2) (λ_ _=>rfl)) (aa (az av (vr 0) (vr 3) (λ_ _=>rfl)) ac))) ⟨rfl,rfl,rfl,rfl⟩)))),eE ?_⟩;intro ab;refine ifC (λc=>?_) (λc=>?_)
  .have c:i=j:=by lia
   refine .inl ⟨r,_,_,D,rfl,rfl,SqL.of b,aU m,q _ _ (Same.refl _) ?_⟩;unfold ent;rw[if_pos c];exact L
  .have c:¬i=j:=by lia
   refine⟨d,rfl,.inr ⟨l,.inl I⟩,cb _ _,λk S=>?_⟩;have g:=Same.new (o:=.tup [.int (i:Nat),.int (j:Nat)]) S;have y:=ae (H:=H) (a:=k) (o:=.tup [.int (i:Nat),.int (j:Nat)]);generalize upd H k (.tup [.int (i:Nat),.int (j:Nat)])=H1 at g y;refine .inl ⟨r,_,_,D,rfl,rfl,SqL.of (g _ _ b),aU m,.inl ⟨r,_,_,Z,rfl,rfl,SqL.of (g _ _ b),aU u,?_⟩⟩;refine⟨_,_,_,_,rfl,L.same g,qj.same g,F C,F R,trivial,λH2 z2 O X=>?_⟩;have e:=g.trans O;refine⟨_,.inr ⟨l,ky i j,k,.inl (e _ _ I),rfl,O _ _ y,rfl⟩,q _ _ e ?_⟩;unfold ent;rw[if_neg c];cases hf:f i j with
   | none=>rw[(G i j).2 hf];exact X
   | some v =>
    obtain⟨z,h1,Y⟩:=(G i j).1 v hf;rw[h1];exact Y.same e
theorem wg{H:Hp}{a:List (Str×Addr)}{c:List V}(d:CellsAt H a c):TK H (untrs H (a.map (·.2))):=λb f e=>cV d e λv z=>nomatch z
theorem uo(T:Txt K mg a):FnOk P w K mg base CX0 3 a.f_aC a.d_aC ["there","wanted","is_same"] (spChance K):=by
 have c:FnOk P w K mg base CX0 2 _ _ _ spLow:=fb T;refine T.F_aC.ok nB (λv H Q E h=>?_) (λcdv A outer s H v Q E hr h=>?_)
 .obtain⟨n,d,i,j,rfl,_⟩:=h;rfl
 .obtain⟨n,d,i,j,rfl,B,D,G,F,q⟩:=h
  have l:Bt 11 (n:Int):=by unfold Bt;lia
  have o:Bt 11 (d:Int):=by unfold Bt;lia
  refine⟨_,(ai (aR (dS (vr 2)) (aj (au (ag c hr rfl T.m_aa T.F_aa.kp T.B_aa .nil af (aa (vr 1) (aa (vr 0) ac))))) aD) (aj (au (ag c hr rfl T.m_aa T.F_aa.kp T.B_aa .nil af (aa (aw be (vr 1) (aw cU (vr 1) ah)) (aa (aw be (vr 0) (aw cU (vr 0) ah)) ac)))))),eE ?_⟩;intro x
  by_cases e:i=j
  .rw[decide_eq_true e]
   exact⟨_,_,rfl,by lia,o.mono (by decide),l.mono (by decide),λu p g f=>q _ _ _ g ⟨p,rfl,.inl f⟩ (rm (by lia) (by lia) (by lia) (by lia))⟩
  .rw[decide_eq_false e]
   have b:(0:Int)<(n:Int)*((n:Int) - 1):=Int.mul_pos (by lia) (by lia);have y:Bt 11 ((d:Int) - 1):=by unfold Bt;lia
   have r:Bt 11 ((n:Int) - 1):=by unfold Bt;lia
   have C:(n:Int)*((n:Int) - 1)<=6*6:=Int.mul_le_mul (by lia) (by lia) (by lia) (by lia)
   have m:0<=(d:Int)*((d:Int) - 1)/\(d:Int)*((d:Int) - 1)<=(n:Int)*((n:Int) - 1):=by
    by_cases z:d=0
    .subst z;exact⟨by decide,Int.le_of_lt b⟩
    .exact⟨Int.mul_nonneg (by lia) (by lia),Int.mul_le_mul (by lia) (by lia) (by lia) (by lia)⟩
   exact⟨clB (by lia) (by lia),clB (by lia) (by lia),_,_,rfl,b,(o.mul y).mono (by decide),(l.mul r).mono (by decide),λu p g f=>q _ _ _ g ⟨p,rfl,.inl f⟩ (rm m.1 m.2 b (by lia))⟩
theorem AE(T:Txt K mg a):eF P w K mg base 4 cX fvW ["one","other"] (Aj K):=by
 have b:FnOk P w K mg base CX0 3 _ _ _ (spChance K):=uo T;refine iP lsW (λD l d c v o=>match v,o with | [_,_],_=>rfl) (λvals vs H Q E h=>?_) (λA outer s H f c d vals vs Q E hr hfv ca h=>?_)
 .obtain⟨n,g,i,j,rfl,rfl,_⟩:=h;rfl
 .obtain⟨n,g,i,j,rfl,rfl,m,r,C,p,q⟩:=h
  refine⟨_,(ag b hr rfl T.m_aC T.F_aC.kp T.B_aC .nil af (aa (vr 3) (aa (vr 2) (aa (lQ eC (vr 0) (vr 1) (aG _)) ac)))),?_⟩
  have e:(decide ((i:Int)=(j:Int)))=decide (i=j):=by
   by_cases h:i=j
   .subst h;simp
   .rw[decide_eq_false h,decide_eq_false (by lia)]
  refine⟨n,g,i,j,?_,m,r,C,p,λF x f B u y=>λH3 s3 hc=>q _ x f (kK B s3 hc) (u.same s3) y⟩;show [V.int (n:Int),V.int (g:Int),V.bl (decide ((i:Int)=(j:Int)))]=_;rw[e]
theorem zr(T:Txt K mg a):eF P w K mg base 4 bX xG ["one","other"] (Bo K):=by
 have d:FnOk P w K mg base CX0 3 _ _ _ _:=(fb T).mono (by decide);refine iP BY (λB o e c x r=>match x,r with | [_,_],_=>rfl) (λvals vs H Q E h=>?_) (λA outer s H f c e vals vs Q E hr hfv ca h=>?_)
 .obtain⟨g,i,j,rfl,rfl,_⟩:=h;rfl
 .obtain⟨g,i,j,rfl,rfl,F,C,q⟩:=h
  refine⟨_,(iy (aT eC (aw fh (aw cU (vr 0) (vr 1)) (vr 2)) ah (aG _)) (ag d hr rfl T.m_aa T.F_aa.kp T.B_aa .nil af (aa ah (aa (vr 2) ac))) (bE rfl T.g_NOUGHT)),?_⟩;have b:(0:Int)<(g:Int):=by lia
  refine⟨cp b,?_⟩;refine ifC (λc=>?_) λc=>?_
  .exact⟨1,(g:Int),rfl,b,(show Bt 1 (1:Int) by unfold Bt;decide).mono (by decide),(show Bt 10 (g:Int) by unfold Bt;lia).mono (by decide),λD p y u=>λv l m=>q _ _ _ (kK y l m) ⟨p,rfl,.inl (l _ _ u)⟩ (rm (by lia) (by lia) b (by lia))⟩
  .exact λv l m=>q _ _ (0,1) (kK (Same.refl _) l m) ⟨a.k_NOUGHT,rfl,.inr T.t_NOUGHT⟩ ⟨0,1,rfl,by decide,by decide,Bq.zero⟩
theorem zR(T:Txt K mg a):eF P w K mg base 4 bZ xp ["one","other"] (AW K):=by
 have g:FnOk P w K mg base CX0 3 _ _ _ (spAri (· * ·) (λ_=>True) K):=iI T;refine iP BS (λX N l c W I=>match W,I with | [_,_],_=>rfl) (λvals vs H Q E h=>?_) (λA outer s H f c l vals vs Q E hr hfv ca h=>?_)
 .obtain⟨o,m,B,i,j,rfl,rfl,_⟩:=h;rfl
 .obtain⟨o,m,B,i,j,rfl,rfl,M,p,x,q⟩:=h
  refine⟨_,(iy (aT eC (vr 0) (vr 1) (aG _)) (az av (vr 2) (vr 0) (λ_ _=>rfl)) (ag g hr rfl T.m_ap T.F_ap.kp T.B_ap .nil af (aa (az av (vr 2) (vr 0) (λ_ _=>rfl)) (aa (az av (vr 2) (vr 1) (λ_ _=>rfl)) ac)))),?_⟩;have M:=M.q_ (SQ.un ca);obtain⟨Y,b,F⟩:=M.l;obtain⟨y,e,D⟩:=wj F p;obtain⟨O,u,R⟩:=wj F x;have v:=M.B1;have at_:∀{i},i<m.length->Bq B (m.getD i 0):=λ{i} h=>M.q _ (by rw[List.getD,List.getElem?_eq_getElem h];exact getElem_mem h)
  have C:∀{i},i<m.length->Bb (m.getD i 0):=λ{i} h=>(at_ h).bb M.B0 (Nat.lt_of_le_of_lt v (by decide))
  refine ifC (λc=>?_) λc=>?_
  .refine .inl ⟨o,_,_,y,rfl,rfl,SqL.of b,aU e,?_⟩
   exact λL d r=>q _ _ _ (kK (Same.refl _) d r) (D.same d) ⟨_,B,rfl,M.B0,by lia,at_ p⟩
  .refine .inl ⟨o,_,_,y,rfl,rfl,SqL.of b,aU e,.inl ⟨o,_,_,O,rfl,rfl,SqL.of b,aU u,?_⟩⟩
   exact⟨_,_,_,_,rfl,D,R,C p,C x,trivial,λZ z G S=>λL d r=>q _ _ _ (kK G d r) (S.same d) ⟨_,B*B,rfl,Nat.mul_pos M.B0 M.B0,Nat.lt_of_le_of_lt (Nat.mul_le_mul v v) (by decide),(at_ p).mul (at_ x)⟩⟩
theorem Aq(T:Txt K mg a):eF P w K mg base 5 cJ fvM ["one","other"] (Bp K):=by
 have b:FnOk P w K mg base CX0 4 _ _ _ (spPair K):=wB T;refine iP lsM (λL r g c G u=>match G,u with | [_,_],_=>rfl) (λvals vs H Q E h=>?_) (λA outer s H f c g vals vs Q E hr hfv ca h=>?_)
 .obtain⟨m,d,l,f,B,i,j,rfl,rfl,_⟩:=h;rfl
 .obtain⟨m,d,l,y,B,i,j,rfl,rfl,M,p,o,q⟩:=h
  refine⟨_,(ag b hr rfl T.m_av T.F_av.kp T.B_av .nil af (aa (vr 2) (aa (vr 3) (aa (vr 0) (aa (vr 1) ac))))),?_⟩;obtain⟨D,F,I,C⟩:=M.e i j p o;exact⟨m,d,l,y,B,i,j,rfl,M.on (wg ca) (λx e=>cV ca e λv z=>nomatch z) (λx e=>cV ca e λv z=>nomatch z),p,o,λH' z s1 hz=>λH3 s3 hc=>q _ z _ (kK s1 s3 hc) (hz.same s3) ⟨_,D,rfl,F,I,C⟩⟩
theorem AC(T:Txt K mg a):eF P w K mg base 4 bH [] ["one","other"] (Bh K):=by
 refine iP lsE (λo d b c m e=>match m,e with | [_,_],_=>rfl) (λvals vs H Q E h=>?_) (λA outer s H f c b vals vs Q E hr hfv ca h=>?_)
 .obtain⟨i,j,rfl,rfl,_⟩:=h;rfl
 .obtain⟨i,j,rfl,rfl,q⟩:=h
  refine⟨_,(bE rfl T.g_WHOLE),?_⟩;exact λp l g=>q _ _ (1,1) (kK (Same.refl _) l g) ⟨_,rfl,.inr T.t_WHOLE⟩ zt
theorem se{H:Hp}{R:RE}{n:Nat}{v:V}(h:Mx K R H n v){i j:Nat}(A:i<n)(x:j<n):∃ l rows r es y f,v=.ref l/\H l=some (.lst rows)/\rows[i]? = some (.ref r)/\H r=some (.lst es)/\es[j]? = some y/\IsF K H f y/\R i j f:=by
 obtain⟨l,rows,o,e,u,d⟩:=h;have a:rows[i]? = some (rows[i]'(by lia)):=List.getElem?_eq_getElem _;obtain⟨r,es,g,c,w,s⟩:=d i _ a;have b:es[j]? = some (es[j]'(by lia)):=List.getElem?_eq_getElem _;obtain⟨f,p,m⟩:=s j _ b;exact⟨l,rows,r,es,_,f,o,e,by rw[a,g],c,b,p,m⟩
theorem uV(T:Txt K mg a):FnOk P w K mg base CX0 4 a.f_ac a.d_ac ["blocks","outer","one","other"] (spSpotC K):=by
 have o:FnOk P w K mg base CX0 3 _ _ _ (spAri (· * ·) (λ_=>True) K):=iI T;refine T.F_ac.ok sc_ac (λvs H Q E h=>?_) (λcdv A outer s H vs Q E hr h=>?_)
 .obtain⟨b,n,i,j,sp,ou,bl,z,z',ls,zs,rfl,_⟩:=h;rfl
 .obtain⟨b,n,i,j,sp,ou,bl,z,z',a4,a6,rfl,hb,⟨gs,ls,lb,zs,bs,rfl,rfl,g3,g4,g5,g6,g7,g8⟩,e0,R,hz,as,q⟩:=h
  cases e0;rw[g3]at R;cases R;refine⟨_,(ai (gA (vr 2) (dz rfl (aq (ao (i:=4) sc_ac.nd rfl (Or.inl rfl)) (aq (ao (i:=5) sc_ac.nd rfl (Or.inl rfl)) aJ)))) (ai (gA (vr 3) (dz rfl (aq (ao (i:=6) sc_ac.nd rfl (Or.inl rfl)) (aq (ao (i:=7) sc_ac.nd rfl (Or.inl rfl)) aJ)))) (ai (aR (aT eC (vr 4) (vr 6) (aG _)) (aj (ax (i:=8) sc_ac.nd rfl (Or.inl rfl) (az av (az av (az av (vr 0) (vr 4) (λ_ _=>rfl)) (vr 5) (λ_ _=>rfl)) (vr 7) (λ_ _=>rfl)))) (aj (ax (i:=8) sc_ac.nd rfl (Or.inl rfl) (ag o hr rfl T.m_ap T.F_ap.kp T.B_ap .nil af (aa (az av (az av (az av (vr 0) (vr 4) (λ_ _=>rfl)) (vr 5) (λ_ _=>rfl)) (vr 5) (λ_ _=>rfl)) (aa (az av (az av (az av (vr 0) (vr 6) (λ_ _=>rfl)) (vr 7) (λ_ _=>rfl)) (vr 7) (λ_ _=>rfl)) ac)))))) (aj (au (ag o hr rfl T.m_ap T.F_ap.kp T.B_ap .nil af (aa (az av (az av (vr 1) (vr 4) (λ_ _=>rfl)) (vr 6) (λ_ _=>rfl)) (aa (vr 8) ac)))))))),pO ?_⟩;intro a1 a5 a3;obtain⟨p,g,M,l1,rfl,hp,hg,B⟩:=g5 z (List.mem_of_getElem? hz);obtain⟨p',Z,s2,l2,rfl,ad,m,G⟩:=g5 z' (List.mem_of_getElem? as);have aS:g<gs.length:=(List.getElem?_eq_some_iff.mp hg).1;have S:Z<gs.length:=(List.getElem?_eq_some_iff.mp m).1;obtain⟨vb,I,mb⟩:=kg g8 hg;obtain⟨a2,e,ap⟩:=kg g8 m;refine⟨p,_,rfl,SqT.of hp,rfl,_,_,rfl,_,_,rfl,rfl,?_⟩;refine⟨p',_,rfl,SqT.of ad,rfl,_,_,rfl,_,_,rfl,rfl,?_⟩;have an:(2:Nat) ^ (b+b)<=2 ^ 980:=Nat.pow_le_pow_right (by decide) (by lia);obtain⟨lo,ro,ra,eo,yo,fo,rfl,o2,o3,o4,o5,o6,qo,Do,rfl,X,Y,O⟩:=se g6 aS S
  have d:∀{W:Hp}{y:V}{C:Rat}{D:Nat},Same H W->IsQ K W C y->0<D->D<2 ^ (b+b)->Bq D C->rIx K (.ref lo) (.int (g:Nat)) W λv H2=>rIx K v (.int (Z:Nat)) H2 λv2 H3=>spAri (· * ·) (λ_=>True) K [v2,y] H3 Q (λ_ _ _=>False):=λ{W y C D} M hy u F L=>by
   refine .inl ⟨lo,_,_,_,rfl,rfl,SqL.of (M _ _ o2),aU o3,.inl ⟨ra,_,_,_,rfl,rfl,SqL.of (M _ _ o4),aU o5,?_⟩⟩;refine⟨yo,y,qo,C,rfl,o6.same M,hy,O.bb X (Nat.lt_trans Y (by decide)),L.bb u (Nat.lt_of_lt_of_le F an),trivial,λH' x s2 hx=>q _ _ _ (M.trans s2) hx ⟨_,Do*D,rfl,Nat.mul_pos X u,?_,O.mul L⟩⟩;rw[Nat.pow_add];exact Nat.lt_of_lt_of_le ((Nat.mul_lt_mul_right u).mpr Y) (Nat.mul_le_mul_left _ (Nat.le_of_lt F))
  have b1:(2:Nat) ^ b<2 ^ 980:=Nat.pow_lt_pow_right (by decide) (by lia);refine ifC (λc=>?_) λc=>?_
  .have c:g=Z:=by have c:(g:Int)=(Z:Int):=c;lia
   subst c;rw[hg]at m;cases m;rw[I]at e;cases e;obtain⟨l,N,r,es,y,f,rfl,k2,k3,k4,k5,k6,C,D,rfl,u,F,L⟩:=se mb B G;refine .inl ⟨lb,_,_,_,rfl,rfl,SqL.of g7,aU I,.inl ⟨l,_,_,_,rfl,rfl,SqL.of k2,aU k3,.inl ⟨r,_,_,_,rfl,rfl,SqL.of k4,aU k5,?_⟩⟩⟩;exact d (Same.refl H) k6 u (Nat.lt_of_lt_of_le F (Nat.pow_le_pow_right (by decide) (by lia))) L
  .obtain⟨l,N,r,es,y,f,rfl,k2,k3,k4,k5,k6,C,D,rfl,u,F,L⟩:=se mb B B
   obtain⟨l',ab,r',a0,y',f',rfl,m2,m3,m4,m5,m6,q1,D',rfl,E0,E1,E2⟩:=se ap G G;refine .inl ⟨lb,_,_,_,rfl,rfl,SqL.of g7,aU I,.inl ⟨l,_,_,_,rfl,rfl,SqL.of k2,aU k3,.inl ⟨r,_,_,_,rfl,rfl,SqL.of k4,aU k5,?_⟩⟩⟩;refine .inl ⟨lb,_,_,_,rfl,rfl,SqL.of g7,aU e,.inl ⟨l',_,_,_,rfl,rfl,SqL.of m2,aU m3,.inl ⟨r',_,_,_,rfl,rfl,SqL.of m4,aU m5,?_⟩⟩⟩;refine⟨y,y',C,q1,rfl,k6,m6,L.bb u (Nat.lt_trans F b1),E2.bb E0 (Nat.lt_trans E1 b1),trivial,λW x M hx=>?_⟩;refine d M hx (Nat.mul_pos u E0) ?_ (L.mul E2);rw[Nat.pow_add];exact Nat.lt_of_lt_of_le ((Nat.mul_lt_mul_right E0).mpr F) (Nat.mul_le_mul_left _ (Nat.le_of_lt E1))
theorem AQ(T:Txt K mg a):eF P w K mg base 5 bO fvX ["one","other"] (AJ K):=by
 have d:FnOk P w K mg base CX0 4 _ _ _ (spSpotC K):=uV T;refine iP lsX (λR L e c C G=>match C,G with | [_,_],_=>rfl) (λvals vs H Q E h=>?_) (λA outer s H f c e vals vs Q E hr hfv ca h=>?_)
 .obtain⟨b,n,i,j,v,p,I,rfl,rfl,_⟩:=h;rfl
 .obtain⟨b,n,i,j,v,p,I,rfl,rfl,N,F,O,Y,q⟩:=h
  refine⟨_,(ag d hr rfl T.m_ac T.F_ac.kp T.B_ac .nil af (aa (vr 4) (aa (vr 3) (aa (az av (vr 2) (vr 0) (λ_ _=>rfl)) (aa (az av (vr 2) (vr 1) (λ_ _=>rfl)) ac))))),?_⟩;have g:=F.q (SQ.un ca);obtain⟨S,m,B,l,X,rfl,rfl,o,Z,_⟩:=id g;have r:l[i]? = some (l[i]'(by lia)):=List.getElem?_eq_getElem _;have u:l[j]? = some (l[j]'(by lia)):=List.getElem?_eq_getElem _;refine .inl ⟨m,_,_,_,rfl,rfl,SqL.of o,aU r,.inl ⟨m,_,_,_,rfl,rfl,SqL.of o,aU u,?_⟩⟩;exact⟨b,n,i,j,.ref m,p,.ref B,_,_,m,l,rfl,N,g,rfl,o,r,u,λW x f D M y=>λH3 s3 hc=>q _ x f (kK D s3 hc) (M.same s3) y⟩
theorem wE(T:Txt K mg a):FnOk P w K mg base CX0 6 a.f_aB a.d_aB ["one","many","tell"] (spMRow K):=by
 have ab:eF P w K mg base 5 cX fvW ["one","other"] (Aj K):=λA l s H f c g L F m Q E o=>AE T A l s H f c g L F m Q E (o.mono (by decide))
 have ad:eF P w K mg base 5 bX xG ["one","other"] (Bo K):=λA l s H f c g L F m Q E o=>zr T A l s H f c g L F m Q E (o.mono (by decide))
 have an:eF P w K mg base 5 bZ xp ["one","other"] (AW K):=λA l s H f c g L F m Q E o=>zR T A l s H f c g L F m Q E (o.mono (by decide))
 have Y:eF P w K mg base 5 cJ fvM ["one","other"] (Bp K):=λA l s H f c g L F m Q E o=>Aq T A l s H f c g L F m Q E (o.mono (by decide))
 have S:eF P w K mg base 5 bH [] ["one","other"] (Bh K):=λA l s H f c g L F m Q E o=>AC T A l s H f c g L F m Q E (o.mono (by decide))
 have Z:eF P w K mg base 5 bO fvX ["one","other"] (AJ K):=λA l s H f c g L F m Q E o=>AQ T A l s H f c g L F m Q E (o.mono (by decide))
 refine T.F_aB.ok nL (λF H Q E h=>?_) (λcdv A l s H F Q E o h=>?_)
 .obtain⟨n,i,r,v,rfl,_⟩:=h;rfl
 .obtain⟨n,i,r,v,rfl,hi,hn,hL,q⟩:=h
  have as:sizeLine=16777216:=sizeLine_eq;refine⟨_,(aj (au (aP rfl (N:=["other","tell","one"]) (ix:=[none,some 2,some 0]) ⟨rfl,rfl,rfl,rfl,⟨rfl,rfl,rfl,⟨rfl,rfl,rfl,trivial⟩⟩⟩ (eP rfl T.z_range (aa (vr 1) ac)) ⟨λC s H fp=>ao (i:=0) (show List.Nodup (["other","tell","one"]:List Str) by decide +kernel) rfl (Or.inl rfl),λC s H fp=>aL,λC s H fp=>(PE.or (fc (vr 1) ab o (aa (vr 2) (aa (vr 0) ac))) (PE.or (fc (vr 1) ad o (aa (vr 2) (aa (vr 0) ac))) (PE.or (fc (vr 1) an o (aa (vr 2) (aa (vr 0) ac))) (PE.or (fc (vr 1) Y o (aa (vr 2) (aa (vr 0) ac))) (PE.or (fc (vr 1) S o (aa (vr 2) (aa (vr 0) ac))) (fc (vr 1) Z o (aa (vr 2) (aa (vr 0) ac))))))))⟩))),?_⟩;refine⟨(n:Int),rfl,by lia,by lia,λD hD=>?_⟩
  let Pw1:PvL:=λj u H'=>j<=n/\Same H H'/\H' D=some (.lst u)/\u.length=j/\∀(k:Nat) y,u[k]? = some y->∃ f,IsF K H' f y/\EnR r i k f
  refine j7 (lo:=0) (n:=n) Pw1 ⟨Nat.zero_le _,Same.new hD,ae,rfl,λk y e=>by simp at e⟩ (λj u H' h=>h.2.2.1) ?_ ?_
  .rintro j u H' P' hj ⟨_,s1,X,W,hF⟩ hP
   have e0:[V.int (i:Int),V.int (0+(j:Int))]=[V.int (i:Int),V.int (j:Int)]:=by rw[Int.zero_add]
   have next:Ans K (EnR r) i j H' (λv H2=>H2 D=some (.lst u)/\u.length<sizeLine/\P' (u++[v]) (upd H2 D (.lst (u++[v])))):=λH2 x f s2 hx hR=>by
    have ap:=s2 _ _ X;have tk:TK H2 (upd H2 D (.lst (u++[x]))):=TK.lst ap;refine⟨ap,by lia,hP _ _ ⟨hj,(s1.trans s2).put hD,ae,by rw[length_append,W];rfl,λk y e=>?_⟩⟩
    rcases Nat.lt_or_ge k u.length with h | h
    .rw[List.getElem?_append_left h]at e
     obtain⟨f,g1,g2⟩:=hF k y e;exact⟨f,(g1.same s2).tk tk,g2⟩
    .have hk:k=u.length:=by
      have:=(List.getElem?_eq_some_iff.mp e).1;rw[length_append]at this;simp at this;lia
     rw[List.getElem?_append_right h,hk,Nat.sub_self]at e;cases e;rw[hk,W];exact⟨f,hx.tk tk,hR⟩
   rcases hL.same s1 with⟨rfl,h2,w',h3,⟨f,c,g,rfl,p,R,O,G,I⟩⟩ | ⟨rfl,st,h2,h3,⟨f,c,g,rfl,p,R,O,G,I⟩⟩ | ⟨rfl,lt,qs,B,⟨f,c,g,rfl,p,R,O,G,I⟩,hM,rfl⟩ | ⟨rfl,lt,d,qs,ff,B,⟨f,c,g,rfl,p,R,O,G,I⟩,hM,rfl⟩ | ⟨rfl,⟨f,c,g,rfl,p,R,O,G,I⟩⟩ | ⟨b,rfl,hb,sp,ou,bl,⟨f,c,g,rfl,p,R,O,G,I⟩,hg⟩
   .exact⟨⟨rfl,rfl,trivial⟩,.inl ⟨⟨f,_,_,_,rfl,p⟩,λf' d' M c' _ z=>z,f,c,g,_,rfl,p,R,O,G,I,n,w',i,j,rfl,e0,h3,h2,hi,hj,next⟩⟩
   .exact⟨⟨rfl,rfl,trivial⟩,.inr (.inl ⟨⟨f,_,_,_,rfl,p⟩,λf' d' M c' _ z=>z,f,c,g,_,rfl,p,R,O,G,I,st,i,j,rfl,e0,h2,h3,next⟩)⟩
   .exact⟨⟨rfl,rfl,trivial⟩,.inr (.inr (.inl ⟨⟨f,_,_,_,rfl,p⟩,λf' d' M c' _ z=>z,f,c,g,_,rfl,p,R,O,G,I,lt,qs,B,i,j,rfl,e0,hM,hi,hj,next⟩))⟩
   .exact⟨⟨rfl,rfl,trivial⟩,.inr (.inr (.inr (.inl ⟨⟨f,_,_,_,rfl,p⟩,λf' d' M c' _ z=>z,f,c,g,_,rfl,p,R,O,G,I,lt,d,qs,ff,B,i,j,rfl,e0,hM,hi,hj,next⟩)))⟩
   .exact⟨⟨rfl,rfl,trivial⟩,.inr (.inr (.inr (.inr (.inl ⟨⟨f,_,_,_,rfl,p⟩,λf' d' M c' _ z=>z,f,c,g,_,rfl,p,R,O,G,I,i,j,rfl,e0,next⟩))))⟩
   .exact⟨⟨rfl,rfl,trivial⟩,.inr (.inr (.inr (.inr (.inr ⟨⟨f,_,_,_,rfl,p⟩,λf' d' M c' _ z=>z,f,c,g,_,rfl,p,R,O,G,I,b,n,i,j,sp,ou,bl,rfl,e0,hb,hg,hi,hj,next⟩))))⟩
  .rintro u H' ⟨_,s1,X,W,hF⟩
   exact q _ D s1 hD ⟨D,u,rfl,X,W,hF⟩
theorem ko(T:Txt K mg a):FnOk P w K mg base CX0 7 a.f_K a.d_K ["many","tell"] (spMBy K):=by
 have B:FnOk P w K mg base CX0 6 _ _ _ (spMRow K):=wE T;refine T.F_K.ok pv (λX H Q E h=>?_) (λcdv A outer s H X Q E hr h=>?_)
 .obtain⟨n,F,v,rfl,_⟩:=h;rfl
 .obtain⟨n,F,v,rfl,hn,hL,q⟩:=h
  have G:sizeLine=16777216:=sizeLine_eq;refine⟨_,(aj (au (aP rfl (N:=["one","many","tell"]) (ix:=[none,some 0,some 1]) ⟨rfl,rfl,rfl,rfl,⟨rfl,rfl,rfl,⟨rfl,rfl,rfl,trivial⟩⟩⟩ (eP rfl T.z_range (aa (vr 0) ac)) ⟨λC s H W=>ao (i:=0) (show List.Nodup (["one","many","tell"]:List Str) by decide +kernel) rfl (Or.inl rfl),λC s H W=>aL,λC s H W=>(ag B hr rfl T.m_aB T.F_aB.kp T.B_aB .nil af (aa (vr 0) (aa (vr 1) (aa (vr 2) ac))))⟩))),?_⟩;refine⟨(n:Int),rfl,by lia,by lia,λD I=>?_⟩
  let Pw2:PvL:=λj d p=>j<=n/\Same H p/\p D=some (.lst d)/\d.length=j/\(∀ q,V.ref q∈d->H q=none)/\∀(k:Nat) y,d[k]? = some y->RowM K (EnR F) (untr p D) n k y
  refine j7 (lo:=0) (n:=n) Pw2 ⟨Nat.zero_le _,Same.new I,ae,rfl,(λq L=>by cases L),λk y e=>by simp at e⟩ (λj d p h=>h.2.2.1) ?_ ?_
  .rintro j d p P' S ⟨_,x,f,l,g,M⟩ hP
   refine⟨⟨rfl,rfl,trivial⟩,n,j,F,v,?_,S,hn,hL.same x,λY r O m Z=>?_⟩
   .show [V.int (0+(j:Int)),V.int (n:Int),v]=_
    rw[Int.zero_add]
   have u:=O _ _ f;have nr:r≠D:=λz=>by rw[z,f]at m;cases m
   have mo:SQ (untr p D) (untr (upd Y D (.lst (d++[.ref r]))) D):=λb o c e=>by
    by_cases hb:b=D
    .rw[hb,eO]at e;cases e
    .rw[cQ hb]at e ⊢
     rw[ar hb];exact O _ _ e
   refine⟨u,by lia,hP _ _ ⟨S,(x.trans O).put I,ae,by rw[length_append,l];rfl,λq L=>?_,λk y e=>?_⟩⟩
   .rcases mem_append.mp L with z | z
    .exact g q z
    .cases mem_singleton.mp z
     exact x.free m
   .rcases Nat.lt_or_ge k d.length with h | h
    .rw[List.getElem?_append_left h]at e
     exact(M k y e).q mo
    .have R:k=d.length:=by
      have:=(List.getElem?_eq_some_iff.mp e).1;rw[length_append]at this;simp at this;lia
     rw[List.getElem?_append_right h,R,Nat.sub_self]at e;cases e;rw[R,l];refine(Z.cut u nr).q λb o c e=>?_
     by_cases hb:b=D
     .rw[hb,eO]at e;cases e
     .rw[cQ hb]at e ⊢
      rw[ar hb];exact e
  .rintro d p ⟨_,x,f,l,g,M⟩
   exact q _ D d x I f g ⟨D,d,rfl,f,l,λk y e=>(M k y e).q yw⟩
end
open Nst (Mb plc szs hd tl dr groups aW parts outer aX bq bz)
def lU:Nat->Nat
 | 0=>66
 | n+1=>66+(lU n+lU n)
def rb(N:Nat)(pl:Pl):Nat:=if ir pl=true then 66 else lU N
theorem xE:∀ N,66<=lU N
 | 0=>Nat.le_refl _
 | n+1=>Nat.le_add_right _ _
theorem AX(N:Nat)(pl:Pl):rb N pl<=lU N:=by
 unfold rb
 split
 .exact xE N
 .exact Nat.le_refl _
theorem Mx.up{K:Frag}{n m k:Nat}{H:Hp}{v:V}(h:n<=m)(M:Mx K (EnR n) H k v):Mx K (EnR m) H k v:=by
 obtain⟨l,a,A,g,d,u⟩:=M;refine⟨l,a,A,g,d,λi x e=>?_⟩;obtain⟨r,p,o,b,B,F⟩:=u i x e;refine⟨r,p,o,b,B,λj y e=>?_⟩;obtain⟨f,E,q,D,s,C,c,w⟩:=F j y e;exact⟨f,E,q,D,s,C,Nat.lt_of_lt_of_le c (Nat.pow_le_pow_right (by decide) h),w⟩
theorem xb{K:Frag}{R f:RE}{H:Hp}{k:Nat}{v:V}(g:k=0)(M:Mx K R H k v):Mx K f H k v:=by
 subst g;obtain⟨l,a,d,c,b,h⟩:=M;have:a=[]:=length_eq_zero_iff.mp b;subst this;exact⟨l,[],d,c,b,λi x e=>by simp at e⟩
def sw(a:Ad)(K:Frag)(r n:Nat)(H:Hp)(Q:VK):Prop:=∀ H' p rows,SameT H H'->TabsOk (tabs a) H'->H p=none->H' p=some (.lst rows)->(∀ q,V.ref q∈rows->H q=none)->Mx K (EnR r) H' n (.ref p)->Q (.ref p) H'
inductive spMat(a:Ad)(K:Frag)(N:Nat)(c:Pl->Bool)(vs:List V)(H:Hp)(Q:VK)(_E:XK):Prop
 | mk(v:V)(pl:Pl)(l:Addr)(zs:List V)(ms:List Mb)(h0:vs=[v,.ref l])(h1:c pl=true)(h2:okP N pl)(h3:IsPn a H v pl)(h4:H l=some (.lst zs))(h5:CrAt H ms zs)(h6:Ck (aI pl) ms)(h7:TabsOk (tabs a) H)(h8:sw a K (rb N pl) ms.length H Q):spMat a K N c vs H Q _E
inductive spDM(a:Ad)(K:Frag)(vs:List V)(H:Hp)(Q:VK)(_E:XK):Prop
 | mk(ls lo:Addr)(xs:List V)(qs:List Rat)(ord:List Nat)(B:Nat)(h0:vs=[.ref ls,.ref lo])(h1:H ls=some (.lst xs))(h2:AllF K H (qs.map fr) xs)(h3:H lo=some (.lst (ord.map λ(o:Nat)=>V.int (o:Int))))(h4:qs.length<=6)(h5:ord.length<=6)(h6:(∀ o∈ord,o<qs.length))(h7:0<B)(h8:B<=324)(h9:(∀ q∈qs,Bq B q))(h10:TabsOk (tabs a) H)(h11:sw a K 66 qs.length H Q):spDM a K vs H Q _E
def zp(a:Ad)(K:Frag)(N:Nat):Sp:=λvs H Q _=>∃ w l r ou zs ys ms gs pl,vs=[w,.ref l,.ref r,ou]/\okP N pl/\IsPn a H w pl/\H l=some (.lst zs)/\CrAt H ms zs/\zs.length<=6/\H r=some (.lst ys)/\Paired (CrL H) gs ys/\gs.length<=6/\(∀ g∈gs,Ck (aI pl) g)/\(∀ m∈ms,∃ g∈gs,∃ m'∈g,m'.1=m.1)/\Mx K (EnR 66) H gs.length ou/\TabsOk (tabs a) H/\sw a K (lU (N+1)) zs.length H Q
theorem qU{k:Nat}{a:List Mb}(h:Ck k a){m:Nat}(c:m<=24):∃(B:Nat) (qs:List Rat),0<B/\B<=324/\qs.length=(szs a).length/\qs.map fr=due (szs a) (m:Nat)/\(∀ q∈qs,Bq B q)/\∀ f∈due (szs a) (m:Nat),Fr (B:Int) f :=
 wM (λk b=>(h.hi _ (oR b)).1) (λk b=>(h.hi _ (oR b)).2) (by unfold Nst.szs;rw[length_map];exact h.len) (by lia) (by lia)
theorem nd2(n:Nat):([n+1+1,n+1]:List Nat).Nodup:=by
 simp only[nodup_cons,mem_cons,not_mem_nil,or_false,not_or,not_false_eq_true,nodup_nil,and_true];lia
section
variable {P:Program}{w:World}{K:Frag}{mg:Str->Option Value}{base:Heap}{a:Ad}
theorem lP(T:Txt K mg a)(hB:Bm mg base)(N:Nat):FnOk P w K mg base CX0 8 a.x_m a.y_m ["self","crowd"] (spMat a K N jn):=by
 have y:FnOk P w K mg base CX0 7 _ _ _ (spMBy K):=ko T;refine T.F_m.okL T.lcd_m sc_m (by decide +kernel) (λM H Q E h=>?_) (λA outer s H M Q E hr h=>?_)
 .obtain⟨v,F,l,g,L,rfl,_⟩:=h;rfl
 .obtain⟨v,F,l,g,L,rfl,W,ho,hp,hl,S,I,X,q⟩:=h
  cases F with
  | few m =>
   obtain⟨x,Y,rfl,hx⟩:=hp;have zl:=S.len;have z6:=I.len;refine⟨_,(bg (ax (i:=2) sc_m.nd rfl (Or.inr rfl) (ay aF rfl T.z_len bf (aa (vr 1) ac))) (bg (ax (i:=3) sc_m.nd rfl (Or.inr rfl) (ay (jc rfl) rfl T.z_min pE (aa (aA (vr 0) rfl) (aa (vr 2) ac)))) (hJ sc_m.nd (by decide +kernel) y hr rfl T.m_K T.F_K.kp T.B_K .nil (aa (vr 2) (aa (cm (d:=cX) rfl T.lch_m hB rfl (by with_unfolding_all rfl) rfl (nK a) (.head _) T.tnd nA) ac))))),?_⟩;refine⟨_,.inl (SqL.of hl),?_⟩;refine⟨x,_,Y,_,_,rfl,hx,T.cl_Q,T.na_Few_many,rfl,?_⟩;refine⟨_,_,rfl,?_⟩
   have e:(if ((g.length:Int)<(m:Int)) then (g.length:Int) else (m:Int))=((min m g.length:Nat):Int):=by split <;> lia
   rw[e];refine⟨X,λf c H1 Z D ab ef ec=>?_⟩;intro H3 u o;have O:=o 2 _ _ _ rfl rfl (by with_unfolding_all rfl);have R:=o 3 _ _ _ rfl rfl (by with_unfolding_all rfl);have b:=Z.trans u.t;refine⟨g.length,66,.ref f,rfl,by lia,.inl ⟨rfl,by lia,min m g.length,Nat.min_le_right _ _,⟨f,c,_,rfl,u _ _ ef,u _ _ ec,rfl,by simp,.cons R (.cons O .nil)⟩⟩,λH' r j G B C p hM=>?_⟩;exact q _ r j (b.trans G.t) ((D.same u).same G) (b.free B) C (λq hq=>b.free (p q hq)) (by rw[zl];exact hM)
  | _=>cases W
theorem i9(T:Txt K mg a)(Y:Bm mg base)(N:Nat):FnOk P w K mg base CX0 8 a.x_i a.y_i ["self","crowd"] (spMat a K N dR):=by
 have p:FnOk P w K mg base CX0 7 _ _ _ (spMBy K):=ko T;refine T.F_i.okL T.lcd_i sc_i (by decide +kernel) (λM H Q E h=>?_) (λA outer s H M Q E hr h=>?_)
 .obtain⟨v,D,l,F,L,rfl,_⟩:=h;rfl
 .obtain⟨v,D,l,F,L,rfl,R,o,hp,hl,O,I,S,q⟩:=h
  cases D with
  | start m =>
   obtain⟨x,W,rfl,hx⟩:=hp
   have o:1<=m/\m<=100:=by cases N <;> exact o
   have zl:=O.len;have z6:=I.len;refine⟨_,(bg (ax (i:=2) sc_i.nd rfl (Or.inr rfl) (aA (vr 0) rfl)) (hJ sc_i.nd (by decide +kernel) p hr rfl T.m_K T.F_K.kp T.B_K .nil (aa (ay aF rfl T.z_len bf (aa (vr 1) ac)) (aa (cm (d:=bX) rfl T.lch_i Y rfl (by with_unfolding_all rfl) rfl (kX a) (.head _) T.tnd lj) ac)))),?_⟩;refine⟨x,_,W,_,_,rfl,hx,T.cl_o,T.na_Start_step,rfl,?_⟩;refine⟨_,.inl (SqL.of hl),?_⟩;refine⟨S,λf c H1 X C Z ef ec=>?_⟩;intro H3 j y;have cS:=y 2 _ _ _ rfl rfl (by with_unfolding_all rfl);have b:=X.trans j.t;refine⟨F.length,66,.ref f,rfl,by lia,.inr (.inl ⟨rfl,m,o.1,o.2,⟨f,c,_,rfl,j _ _ ef,j _ _ ec,rfl,by simp,.cons cS .nil⟩⟩),λH' r e G u B g hM=>?_⟩;exact q _ r e (b.trans G.t) ((C.same j).same G) (b.free u) B (λq hq=>b.free (g q hq)) (by rw[zl];exact hM)
  | _=>cases R
theorem jd(T:Txt K mg a)(hB:Bm mg base)(N:Nat):FnOk P w K mg base CX0 8 a.x_j a.y_j ["self","crowd"] (spMat a K N dQ):=by
 have y:FnOk P w K mg base CX0 7 _ _ _ (spMBy K):=ko T;have I:FnOk P w K mg base CX0 7 _ _ _ _:=(mP T).mono (by decide);refine T.F_j.okL T.lcd_j sc_j (by decide +kernel) (λvs H Q E h=>?_) (λA outer s H vs Q E hr h=>?_)
 .obtain⟨v,Z,l,zs,u,rfl,_⟩:=h;rfl
 .obtain⟨v,Z,l,zs,u,rfl,hk,O,hp,hl,hc,p,hT,q⟩:=h
  cases Z with
  | loose m =>
   obtain⟨x,dx,rfl,hx⟩:=hp
   have O:m<=24:=by cases N <;> exact O
   have z6:=p.len;obtain⟨B,W,B0,B1,R,qe,F,_⟩:=qU p O;have R:W.length=u.length:=by rw[R];unfold Nst.szs;rw[length_map]
   refine⟨_,(bg (ax (i:=2) sc_j.nd rfl (Or.inr rfl) (ag I hr rfl T.m_Z T.F_Z.kp T.B_Z .nil af (aa (vr 1) (aa (aA (vr 0) rfl) ac)))) (hJ sc_j.nd (by decide +kernel) y hr rfl T.m_K T.F_K.kp T.B_K .nil (aa (ay aF rfl T.z_len bf (aa (vr 2) ac)) (aa (cm (d:=bZ) rfl T.lch_j hB rfl (by with_unfolding_all rfl) rfl (lz a) (.head _) T.tnd lp) ac)))),?_⟩;refine⟨x,_,dx,_,_,rfl,hx,T.cl_p,T.na_Loose_many,rfl,?_⟩;refine⟨l,zs,u,(m:Nat),rfl,hl,hc,ni p,by lia,by lia,λH2 w' L s2 ab Y S=>?_⟩;rw[<- qe]at S;have X:L.length=W.length:=by rw[<- S.len,length_map]
   refine⟨_,.inl (SqL.of Y),?_⟩;refine⟨hT.same s2,λf c H1 t1 M ad ef ec=>?_⟩;intro H3 o D;have cS:=D 2 _ _ _ rfl rfl (by with_unfolding_all rfl);have e:=t1.trans o.t;have b:=s2.t.trans e;refine⟨L.length,66,.ref f,rfl,by lia,.inr (.inr (.inl ⟨rfl,w',W,B,⟨f,c,_,rfl,o _ _ ef,o _ _ ec,rfl,by simp,.cons cS .nil⟩,⟨⟨L,e.at Y,S.tk (SameT.tk e)⟩,B0,B1,F⟩,X.symm⟩)),λH' r g s4 C G j hM=>?_⟩;exact q _ r g (b.trans s4.t) ((M.same o).same s4) (b.free C) G (λq F=>b.free (j q F)) (by rw[<- R,<- X];exact hM)
  | _=>cases hk
theorem Bf(T:Txt K mg a)(hB:Bm mg base):FnOk P w K mg base CX0 8 a.f_x a.d_x ["shares","order"] (spDM a K):=by
 have bN:FnOk P w K mg base CX0 7 _ _ _ (spMBy K):=ko T;have bl:FnOk P w K mg base CX0 7 _ _ _ _:=(wX T).mono (by decide);have as:FnOk P w K mg base CX0 7 _ _ _ _:=(rG T).mono (by decide);refine T.F_x.okL T.lcd_x sc_x (by decide +kernel) (λvs H Q E h=>?_) (λA outer s H vs Q E hr h=>?_)
 .obtain⟨ls,lo,xs,e,b,B,rfl,_⟩:=h;rfl
 .obtain⟨ls,lo,xs,e,b,B,rfl,bm,hF,a5,b2,b3,I,B0,aS,hq,hT,q⟩:=h
  have B1:B<=1000000000:=by lia
  have b0:sizeLine=16777216:=sizeLine_eq;refine⟨_,(bg (ax (i:=2) sc_x.nd rfl (Or.inr rfl) (dg jZ rfl T.z_list gw (aa (vr 0) ac))) (bg (ax (i:=3) sc_x.nd rfl (Or.inr rfl) (ag bl hr rfl T.m_R T.F_R.kp T.B_R .nil af (aa (aP rfl (N:=["place","told"]) (ix:=[none,some 2]) ⟨rfl,rfl,rfl,rfl,⟨rfl,rfl,rfl,trivial⟩⟩ (aO (vr 1)) ⟨λC s H fp=>ao (i:=0) (show List.Nodup (["place","told"]:List Str) by decide +kernel) rfl (Or.inl rfl),λC s H fp=>iU (dS (ag as hr rfl T.m_aq T.F_aq.kp T.B_aq .nil af (aa (az (eY (K:=K) rfl) (vr 1) (vr 0) (λ_ _=>rfl)) ac))),λC s H fp=>(aE (aa (vr 0) (aa (az (eY (K:=K) rfl) (vr 1) (vr 0) (λ_ _=>rfl)) ac)))⟩) ac))) (hJ sc_x.nd (by decide +kernel) bN hr rfl T.m_K T.F_K.kp T.B_K .nil (aa (ay aF rfl T.z_len bf (aa (vr 2) ac)) (aa (cm (d:=cJ) rfl T.lch_x hB rfl (by with_unfolding_all rfl) rfl (lX a) (.head _) T.tnd mr) ac))))),?_⟩;refine⟨ls,xs,rfl,.inl (SqL.of bm),λS a'=>?_⟩;have s1:=Same.new (o:=.lst xs) a';have m:=ae (H:=H) (a:=S) (o:=.lst xs);generalize upd H S (.lst xs)=H1 at s1 m;have a4:=hF.same s1;have ad:xs.length=e.length:=by rw[<- hF.len,length_map]
  have G:=s1 _ _ a5;refine .inl ⟨⟨_,SqL.of G⟩,λD hD=>?_⟩
  let Pw1:PvL:=λi v F=>i<=b.length/\Same H1 F/\F D=some (.lst v)/\v.length<=i/\Paired (PQ K F) (qf e (b.take i)) v
  refine aK (K:=K) (a:=lo) (xs:=b.map λ(o:Nat)=>V.int (o:Int)) Pw1 ⟨Nat.zero_le _,Same.new hD,ae,Nat.zero_le _,.nil⟩ (λi v F h=>SqL.of (h.2.1 _ _ G)) (λi v F h=>h.2.2.1) ?_ ?_
  .rintro i y v F P' hy ⟨hi,O,l,a0,g⟩ ap
   rw[List.getElem?_map]at hy;cases hoi:b[i]? with
   | none=>rw[hoi]at hy;cases hy
   | some o =>
    rw[hoi]at hy;cases hy;have an:i<b.length:=(List.getElem?_eq_some_iff.mp hoi).1;have ho:=I o (List.mem_of_getElem? hoi);obtain⟨R,a1,qo⟩:=wj (a4.same O) ho
    have e1:qf e (b.take (i+1))=qf e (b.take i)++(if pV (e.getD o 0) then [(o,e.getD o 0)] else []):=by
     unfold qf AL;rw[take_add_one,hoi,map_append,filter_append]
     congr 1
     show List.filter _ [(o,e.getD o 0)]=_
     by_cases c:pV (e.getD o 0)=true
     .rw[if_pos c,filter_cons_of_pos (p:=λz:Nat×Rat=>pV z.2) (a:=(o,e.getD o 0)) c];rfl
     .rw[if_neg c,filter_cons_of_neg (p:=λz:Nat×Rat=>pV z.2) (a:=(o,e.getD o 0)) c];rfl
    refine⟨⟨rfl,trivial⟩,.inl ⟨S,_,_,R,rfl,rfl,SqL.of (O _ _ m),aU a1,R,_,rfl,qo,?_⟩⟩;rw[zG];refine ifB (λc=>?_) (λc=>?_)
    .refine .inl ⟨S,_,_,R,rfl,rfl,SqL.of (O _ _ m),aU a1,?_⟩
     refine⟨cb _ _,λnp L=>?_⟩;have Z:=Same.new (o:=.tup [.int (o:Nat),R]) L;have ab:=Z _ _ l;have ne:np≠D:=λz=>by rw[z,l]at L;cases L
     have a3:TK F (upd (upd F np (.tup [.int (o:Nat),R])) D (.lst (v++[.ref np]))):=Z.tk.trans (TK.lst ab);refine⟨ab,by lia,ap _ _ ⟨an,(O.trans Z).put hD,ae,by rw[length_append];show v.length+1<=i+1;lia,?_⟩⟩;rw[e1,if_pos c];exact bv ⟨np,R,rfl,by rw[ar ne];exact ae,qo.tk a3⟩ (aC (λz x (h:PQ K F z x)=>h.tk a3) g)
    .refine ap _ _ ⟨an,O,l,by lia,?_⟩
     rw[e1,if_neg (by rw[c];decide),append_nil];exact g
  .rintro v F ⟨_,O,l,a0,g⟩
   rw[length_map]at a0 g;rw[take_length]at g;have a9:(qf e b).length<=6:=by rw[Paired.length g];lia
   have W:∀ z∈qf e b,Bq B z.2/\Uns z.2:=λz hz=>by
    obtain⟨z1,z2⟩:=mem_filter.mp hz;obtain⟨o,ho,rfl⟩:=mem_map.mp z1;have:=I o ho;exact⟨hq _ (by show e.getD o 0∈e;rw[List.getD,List.getElem?_eq_getElem this];exact getElem_mem this),unsQ_iff.mp z2⟩
   refine⟨D,v,qf e b,B,rfl,l,g,by lia,B0,B1,W,λH3 d a7 Z fd hd b1=>?_⟩;have u:=O.trans Z;refine⟨_,.inl (SqL.of (u _ _ m)),?_⟩;have bo:=hT.same (s1.trans u);refine⟨bo,λf c H4 t4 bd b4 ef ec=>?_⟩;intro H5 s5 hc;have cT:=hc 2 _ _ _ rfl rfl (by with_unfolding_all rfl);have cW:=hc 3 _ _ _ rfl rfl (by with_unfolding_all rfl);have a2:=t4.trans s5.t
   have M3:DMx K H3 S d e (pL (qf e b)) B:=⟨⟨xs,u _ _ m,a4.same u⟩,⟨a7,hd,b1⟩,by lia,B0,B1,hq,λi j hi hj=>zI B0 aS a9 W hq hi hj⟩
   have M:=(s1.trans u).t.trans a2;refine⟨xs.length,66,.ref f,rfl,by lia,.inr (.inr (.inr (.inl ⟨rfl,S,d,e,_,B,⟨f,c,_,rfl,s5 _ _ ef,s5 _ _ ec,rfl,nd2 _,.cons cT (.cons cW .nil)⟩,M3.st a2,ad.symm⟩))),λH6 r Y s6 a6 a8 X hM=>?_⟩;exact q _ r Y (M.trans s6.t) ((bd.same s5).same s6) (M.free a6) a8 (λq hq=>M.free (X q hq)) (by rw[<- ad];exact hM)
theorem jV(T:Txt K mg a)(hB:Bm mg base)(N:Nat):FnOk P w K mg base CX0 9 a.x_H a.y_H ["self","crowd"] (spMat a K N fw):=by
 have y:FnOk P w K mg base CX0 8 _ _ _ _:=(mP T).mono (by decide);have C:FnOk P w K mg base CX0 8 _ _ _ (spDM a K):=Bf T hB;refine T.F_H.ok lS (λR H Q E h=>?_) (λcdv A outer s H R Q E hr h=>?_)
 .obtain⟨v,G,l,zs,g,rfl,_⟩:=h;rfl
 .obtain⟨v,G,l,d,g,rfl,S,e,u,I,F,f,X,q⟩:=h
  cases G with
  | duel m =>
   obtain⟨x,Y,rfl,hx⟩:=u
   have e:m<=24:=by cases N <;> exact e
   have z6:=f.len;have zl:=F.len;have j:sizeLine=16777216:=sizeLine_eq;obtain⟨B,O,B0,B1,D,qe,hq,_⟩:=qU f e;have D:O.length=g.length:=by rw[D];unfold Nst.szs;rw[length_map]
   refine⟨_,(aj (au (ag C hr rfl T.m_x T.F_x.kp T.B_x .nil af (aa (ag y hr rfl T.m_Z T.F_Z.kp T.B_Z .nil af (aa (vr 1) (aa (aA (vr 0) rfl) ac))) (aa (dg (jK rfl) rfl T.z_list gw (aa (dg oj rfl T.z_range pR (aa (ay aF rfl T.z_len bf (aa (vr 1) ac)) ac)) ac)) ac))))),?_⟩;refine⟨x,_,Y,_,_,rfl,hx,T.cl_A,T.na_Duel_many,rfl,?_⟩;refine⟨l,d,g,(m:Nat),rfl,I,F,ni f,by lia,by lia,λH2 W ys M Z hw L=>?_⟩;rw[<- qe]at L;refine⟨_,.inl (SqL.of (M _ _ I)),⟨_,rfl,λp u=>⟨p,d.length,rfl,by lia,ae,λlf hlf=>?_⟩⟩⟩;have i:=(Same.new (o:=.rng 0 (d.length:Int)) u).trans (Same.new (o:=.lst ((List.range d.length).map λ(o:Nat)=>V.int (o:Int))) hlf);have c:=M.trans i;refine⟨W,lf,ys,O,List.range d.length,B,rfl,i _ _ hw,L.same i,ae,by lia,by rw[length_range];lia,λo e=>by have:=mem_range.mp e;lia,B0,B1,hq,X.same c,λH4 r rows t4 hT4 fr hr hnew hM=>?_⟩;exact q _ r rows (c.t.trans t4) hT4 (c.free fr) hr (λb hb=>c.free (hnew b hb)) (by rw[<- D];exact hM)
  | _=>cases S
abbrev md(N:Nat):Nat:=9+2*N
theorem Ba(T:Txt K mg a)(hB:Bm mg base)(N:Nat)(hN:N<=2)(a0:FnOk P w K mg base CX0 (md N) a.x_b a.y_b ["self","crowd"] (spMat a K N bw))(a9:FnOk P w K mg base CX0 (md N) a.x_n a.y_n ["self","crowd"] (spMat a K N aQ)):FnOk P w K mg base CX0 (md N+1) a.f_d a.d_d ["plan","crowd","groups","outer"] (zp a K N):=by
 have a1:FnOk P w K mg base CX0 (md N) _ _ _ (spMat a K N jn):=(lP T hB N).mono (by show 8<=9+2*N;lia);have aS:FnOk P w K mg base CX0 (md N) _ _ _ (spMat a K N dR):=(i9 T hB N).mono (by show 8<=9+2*N;lia);have b2:FnOk P w K mg base CX0 (md N) _ _ _ (spMat a K N dQ):=(jd T hB N).mono (by show 8<=9+2*N;lia);have a7:FnOk P w K mg base CX0 (md N) _ _ _ (spMat a K N fw):=(jV T hB N).mono (by show 9<=9+2*N;lia);have ab:FnOk P w K mg base CX0 (md N) _ _ _ spSpots:=(vF T).mono (by show _<=9+2*N;lia);have a':FnOk P w K mg base CX0 (md N) _ _ _ (spMBy K):=(ko T).mono (by show _<=9+2*N;lia)
 have bN:lU N<=462:=by
  have:N=0\/N=1\/N=2:=by lia
  rcases this with rfl | rfl | rfl <;> decide
 refine T.F_d.okL T.lcd_d sc_d (by decide +kernel) (λvs H Q E h=>?_) (λA outer s H vs Q E hr h=>?_)
 .obtain⟨w',l,r,ou,zs,M,ms,F,pl,rfl,_⟩:=h;rfl
 .obtain⟨w',l,r,ou,zs,M,ms,F,pl,rfl,ho,a6,hl,hm,b4,O,hg,g5,Z,as,a4,hT,q⟩:=h
  have bd:sizeLine=16777216:=sizeLine_eq;refine⟨_,(bg (ax (i:=4) sc_d.nd rfl (Or.inr rfl) (aP rfl (N:=["members","plan"]) (ix:=[none,some 0]) ⟨rfl,rfl,rfl,rfl,⟨rfl,rfl,rfl,trivial⟩⟩ (aO (vr 2)) ⟨λC s H fp=>ao (i:=0) (show List.Nodup (["members","plan"]:List Str) by decide +kernel) rfl (Or.inl rfl),λC s H fp=>aL,λC s H fp=>(PE.or (al (vr 1) T.cl_Q T.mt_m a1 hr T.B_m .nil af (aa (vr 0) ac)) (PE.or (al (vr 1) T.cl_o T.mt_i aS hr T.B_i .nil af (aa (vr 0) ac)) (PE.or (al (vr 1) T.cl_p T.mt_j b2 hr T.B_j .nil af (aa (vr 0) ac)) (PE.or (al (vr 1) T.cl_A T.mt_H a7 hr T.B_H .nil af (aa (vr 0) ac)) (PE.or (al (vr 1) T.cl_t T.mt_b a0 hr T.B_b .nil af (aa (vr 0) ac)) (al (vr 1) T.cl_g T.mt_n a9 hr T.B_n .nil af (aa (vr 0) ac)))))))⟩)) (bg (ax (i:=5) sc_d.nd rfl (Or.inr rfl) (ag ab hr rfl T.m_aA T.F_aA.kp T.B_aA .nil af (aa (vr 1) (aa (vr 2) ac)))) (hJ sc_d.nd (by decide +kernel) a' hr rfl T.m_K T.F_K.kp T.B_K .nil (aa (ay aF rfl T.z_len bf (aa (vr 1) ac)) (aa (cm (d:=bO) rfl T.lch_d hB rfl (by with_unfolding_all rfl) rfl (kH a) (.head _) T.tnd km) ac))))),?_⟩;refine .inl ⟨⟨_,SqL.of O⟩,λD hD=>?_⟩;have ext:∀{j:Hp},TabsOk (tabs a) j->∀{M:List V}{ad:List V},j D=some (.lst M)->TabsOk (tabs a) (upd j D (.lst ad)):=λbm M ad e=>bm.put (λps z=>by rw[e]at z;cases z) λφ z=>by rw[e]at z;cases z
  let Pw2:PvL:=λi m j=>SameT H j/\TabsOk (tabs a) j/\j D=some (.lst m)/\i<=F.length/\Paired (λ(g:List Mb) v=>Mx K (EnR (lU N)) (untr j D) g.length v) (F.take i) m
  refine aK (K:=K) (a:=r) (xs:=M) Pw2
   ⟨(Same.new hD).t,hT.same (Same.new hD),ae,Nat.zero_le _,.nil⟩ (λi m j h=>SqL.of (h.1.at O)) (λi m j h=>h.2.2.1) ?_ ?_
  .rintro i y m j P' hy ⟨x,R,p,hi,Y⟩ a3
   obtain⟨g,G,lg,yg,rfl,b0,a5⟩:=aM hg hy;have a2:i<F.length:=(List.getElem?_eq_some_iff.mp G).1;have gk:=Z g (List.mem_of_getElem? G);have bl:m.length<=6:=by rw[<- Paired.length Y,length_take];lia
   have an:sw a K (rb N pl) g.length j (λv W=>W D=some (.lst m)/\m.length<sizeLine/\P' (m++[v]) (upd W D (.lst (m++[v])))):=λW r2 rows S hT2 hr0 hr2 hnew hM=>by
    have hM:=Mx.up (AX N pl) hM;have I:=S.at p;have nr:r2≠D:=λz=>by rw[z,p]at hr0;cases hr0
    have nn:∀ q,V.ref q∈rows->q≠D:=λq hq z=>by have:=hnew q hq;rw[z,p]at this;cases this
    have mo:∀{Ha:Hp},SQ Ha W->SQ (untr Ha D) (untr (upd W D (.lst (m++[.ref r2]))) D):=λs b o c e=>by
     by_cases hb:b=D
     .rw[hb,eO]at e;cases e
     .rw[cQ hb]at e ⊢
      rw[ar hb];exact s b o c e
    refine⟨I,by lia,a3 _ _ ⟨(x.trans S).put hD,ext hT2 I,ae,a2,pU (aC (λg v h=>h.q (mo (SQ.of S))) Y) G ?_⟩⟩;exact(hM.cut I λl' ap e e'=>by cases e;rw[hr2]at e';cases e';exact⟨nr,nn⟩).q (mo λb o _ e=>e)
   refine⟨⟨rfl,trivial⟩,?_⟩;have X:=a6.n (aZ x)
   exact dw "matrix" (λ_=>rfl) (λ_=>rfl) (λ_=>rfl) (λ_ _=>rfl) (λP=>P (.ref lg) j) X λc E hc'=>⟨w',pl,lg,yg,g,rfl,hc',ho,X,x.at b0,a5.tk (SameT.tk x),gk,R,an⟩
  rintro m H1 ⟨x,R,p,_,Y⟩;rw[show M.length=F.length from(Paired.length hg).symm,take_length]at Y;have b1:Paired (λ(g:List Mb) v=>Mx K (EnR (lU N)) H1 g.length v) F m:=aC (λg v h=>h.q yw) Y;refine⟨l,r,ms,F,zs,M,rfl,x.at hl,hm.tk (SameT.tk x),x.at O,aC (CrL.n (aZ x)) hg,by rw[Paired.length hm];lia,by lia,λg bo=>by have:=(Z g bo).len;lia,as,λW ts zz s2 hts hzl hsp=>?_⟩;have S:=x.trans s2.t;refine⟨_,.inl (SqL.of (S.at hl)),?_⟩;refine⟨R.same s2,λf c H3 t3 a8 b3 ef ec=>?_⟩;intro H4 s4 L;have cO:=L 3 _ _ _ rfl rfl (by with_unfolding_all rfl);have cB:=L 4 _ _ _ rfl rfl (by with_unfolding_all rfl);have cS:=L 5 _ _ _ rfl rfl (by with_unfolding_all rfl);have u:=t3.trans s4.t;have B:=S.trans u;refine⟨zs.length,lU (N+1),.ref f,rfl,by lia,.inr (.inr (.inr (.inr (.inr ⟨lU N,rfl,bN,_,_,_,⟨f,c,_,rfl,s4 _ _ ef,s4 _ _ ec,rfl,by simp;lia,.cons cS (.cons cO (.cons cB .nil))⟩,F,ts,D,zz,m,rfl,rfl,u.at hts,by rw[hzl];exact Paired.length hm,λz hz=>(hsp z hz).tk (SameT.tk u),a4.q (SQ.of B),u.at (s2 _ _ p),aC (λg v h=>h.q (SQ.of (s2.t.trans u))) b1⟩)))),λj r3 rows s5 hr0 hr1 hnew hM=>?_⟩;exact q _ r3 rows (B.trans s5.t) ((a8.same s4).same s5) (B.free hr0) hr1 (λq hq=>B.free (hnew q hq)) hM
theorem xf(T:Txt K mg a)(hB:Bm mg base)(N:Nat)(y:FnOk P w K mg base CX0 (md N+1) a.f_d a.d_d ["plan","crowd","groups","outer"] (zp a K N)):FnOk P w K mg base CX0 (md (N+1)) a.x_b a.y_b ["self","crowd"] (spMat a K (N+1) bw):=by
 have R:FnOk P w K mg base CX0 (md N+1) _ _ _ spParted:=(fH T).mono (by show _<=9+2*N+1;lia);have B:FnOk P w K mg base CX0 (md N+1) _ _ _ (spMBy K):=(ko T).mono (by show _<=9+2*N+1;lia);rw[show md (N+1)=md N+1+1 by show 9+2*(N+1)=9+2*N+1+1;lia];refine T.F_b.okL T.lcd_b sc_b (by decide +kernel) (λZ H Q E h=>?_) (λA outer s H Z Q E hr h=>?_)
 .obtain⟨v,X,l,M,j,rfl,_⟩:=h;rfl
 .obtain⟨v,X,l,M,j,rfl,hk,ho,F,Y,L,u,hT,q⟩:=h
  cases X with
  | each p =>
   obtain⟨x,dx,w',rfl,hx,F⟩:=F;have D:sizeLine=16777216:=sizeLine_eq;have O:=oH u;have G:=L.len;have m6:=u.len;have ad:=O.len;refine⟨_,(bg (ax (i:=2) sc_b.nd rfl (Or.inl rfl) (ag R hr rfl T.m_N T.F_N.kp T.B_N .nil af (aa (vr 1) ac))) (bg (ax (i:=3) sc_b.nd rfl (Or.inl rfl) (ag B hr rfl T.m_K T.F_K.kp T.B_K .nil af (aa (ay aF rfl T.z_len bf (aa (vr 2) ac)) (aa (cm (d:=bH) rfl T.lch_b hB rfl (by with_unfolding_all rfl) rfl (iC a) (.head _) T.tnd iL) ac)))) (iE (ag y hr rfl T.m_d T.F_d.kp T.B_d .nil af (aa (aA (vr 0) rfl) (aa (vr 1) (aa (vr 2) (aa (vr 3) ac)))))))),?_⟩;refine⟨l,j,M,rfl,Y,L,by lia,λm o=>⟨λz=>by have:=(u.path m o).1;rw[z]at this;simp[aI]at this,(u.path m o).2⟩,λH1 r ys s1 hr1 hP=>?_⟩;have I:(parts j).length=ys.length:=Paired.length hP;refine⟨_,.inl (SqL.of hr1),?_⟩;refine⟨hT.same s1,λf c H2 t2 C ab ef ec=>?_⟩;refine⟨ys.length,66,.ref f,rfl,by lia,.inr (.inr (.inr (.inr (.inl ⟨rfl,f,c,[],rfl,ef,ec,rfl,by simp,.nil⟩)))),λH3 ro S W _ _ _ hM=>?_⟩;have e:=t2.trans W.t;have b:=s1.t.trans e;refine⟨x,_,dx,_,_,rfl,b.at hx,T.cl_t,T.na_Each_inside,rfl,?_⟩;exact⟨w',l,r,.ref ro,M,ys,j,parts j,p,rfl,ho,F.n (aZ b),b.at Y,L.tk (SameT.tk b),by lia,e.at hr1,aC (CrL.n (aZ e)) hP,by lia,λg hg=>(O.each g hg).1,O.mem,by rw[I];exact hM,C.same W,λH4 r4 rows4 t4 hT4 hr0 hr4 hnew hM4=>λH5 s5 _=>q H5 r4 rows4 (b.trans (t4.trans s5.t)) (hT4.same s5) (b.free hr0) (s5 _ _ hr4) (λq hq=>b.free (hnew q hq)) (by rw[G];exact hM4.q (SQ.of s5.t))⟩
  | _=>cases hk
theorem wW(T:Txt K mg a)(L:Bm mg base)(N:Nat)(o:FnOk P w K mg base CX0 (md N) a.x_b a.y_b ["self","crowd"] (spMat a K N bw))(j:FnOk P w K mg base CX0 (md N) a.x_n a.y_n ["self","crowd"] (spMat a K N aQ))(O:FnOk P w K mg base CX0 (md N+1) a.f_d a.d_d ["plan","crowd","groups","outer"] (zp a K N)):FnOk P w K mg base CX0 (md (N+1)) a.x_n a.y_n ["self","crowd"] (spMat a K (N+1) aQ):=by
 have C:∀{k},k<=9->k<=md N+1:=λ{k} h=>by show k<=9+2*N+1;lia
 have o:=o.mono (Nat.le_succ (md N));have j:=j.mono (Nat.le_succ (md N));have X:FnOk P w K mg base CX0 (md N+1) _ _ _ (spMat a K N jn):=(lP T L N).mono (C (by decide));have an:FnOk P w K mg base CX0 (md N+1) _ _ _ (spMat a K N dR):=(i9 T L N).mono (C (by decide));have ap:FnOk P w K mg base CX0 (md N+1) _ _ _ (spMat a K N dQ):=(jd T L N).mono (C (by decide));have ad:FnOk P w K mg base CX0 (md N+1) _ _ _ (spMat a K N fw):=(jV T L N).mono (C (by decide));have ab:FnOk P w K mg base CX0 (md N+1) _ _ _ spParted:=(fH T).mono (C (by decide));have e:FnOk P w K mg base CX0 (md N+1) _ _ _ spOuter:=(ng T).mono (C (by decide));rw[show md (N+1)=md N+1+1 by show 9+2*(N+1)=9+2*N+1+1;lia];refine T.F_n.ok sc_n (λvs H Q E h=>?_) (λcdv A outer s H vs Q E hr h=>?_)
 .obtain⟨v,pl,l,zs,f,rfl,_⟩:=h;rfl
 .obtain⟨v,pl,l,zs,f,rfl,hk,ho,hp,hl,Z,I,hT,q⟩:=h
  cases pl with
  | first p r =>
   obtain⟨x,y,u,z,rfl,hx,hu,hz⟩:=hp;obtain⟨M,ok,fp⟩:=mq I;have Y:=Z.len;have m6:=I.len;have a1:=M.len;refine⟨_,(ai (ax (i:=2) sc_n.nd rfl (Or.inl rfl) (ag ab hr rfl T.m_N T.F_N.kp T.B_N .nil af (aa (vr 1) ac))) (aj (au (ag O hr rfl T.m_d T.F_d.kp T.B_d .nil af (aa (aA (vr 0) rfl) (aa (vr 1) (aa (vr 2) (aa (PE.or (al (aA (vr 0) rfl) T.cl_Q T.mt_m X hr T.B_m .nil af (aa (ag e hr rfl T.m_a T.F_a.kp T.B_a .nil af (aa (vr 2) ac)) ac)) (PE.or (al (aA (vr 0) rfl) T.cl_o T.mt_i an hr T.B_i .nil af (aa (ag e hr rfl T.m_a T.F_a.kp T.B_a .nil af (aa (vr 2) ac)) ac)) (PE.or (al (aA (vr 0) rfl) T.cl_p T.mt_j ap hr T.B_j .nil af (aa (ag e hr rfl T.m_a T.F_a.kp T.B_a .nil af (aa (vr 2) ac)) ac)) (PE.or (al (aA (vr 0) rfl) T.cl_A T.mt_H ad hr T.B_H .nil af (aa (ag e hr rfl T.m_a T.F_a.kp T.B_a .nil af (aa (vr 2) ac)) ac)) (PE.or (al (aA (vr 0) rfl) T.cl_t T.mt_b o hr T.B_b .nil af (aa (ag e hr rfl T.m_a T.F_a.kp T.B_a .nil af (aa (vr 2) ac)) ac)) (al (aA (vr 0) rfl) T.cl_g T.mt_n j hr T.B_n .nil af (aa (ag e hr rfl T.m_a T.F_a.kp T.B_a .nil af (aa (vr 2) ac)) ac))))))) ac)))))))),eE ?_⟩;intro a2;refine⟨l,f,zs,rfl,hl,Z,by lia,λm D=>⟨λz=>by have:=(I.path m D).1;rw[z]at this;unfold aI at this;split at this <;> simp at this,(I.path m D).2⟩,λH1 rg ys s1 hr1 hP=>?_⟩;have a0:(parts f).length=ys.length:=Paired.length hP;have b:=s1 _ _ hx;refine⟨x,_,y,_,_,rfl,b,T.cl_g,T.na_First_inside,rfl,?_⟩;have G:=hu.n (aZ s1.t);refine Or.imp (λh=>⟨x,_,y,_,_,rfl,b,T.cl_g,T.na_First_outside,rfl,h⟩) (Or.imp (λh=>⟨x,_,y,_,_,rfl,b,T.cl_g,T.na_First_outside,rfl,h⟩) (Or.imp (λh=>⟨x,_,y,_,_,rfl,b,T.cl_g,T.na_First_outside,rfl,h⟩) (Or.imp (λh=>⟨x,_,y,_,_,rfl,b,T.cl_g,T.na_First_outside,rfl,h⟩) (Or.imp (λh=>⟨x,_,y,_,_,rfl,b,T.cl_g,T.na_First_outside,rfl,h⟩) (λh=>⟨x,_,y,_,_,rfl,b,T.cl_g,T.na_First_outside,rfl,h⟩))))) ?_;refine dw (S:=spMat a K N) "matrix" (λ_=>rfl) (λ_=>rfl) (λ_=>rfl) (λ_ _=>rfl) (λP=>spOuter [.ref rg] H1 P λ_ _ _=>False) G λc E R=>?_
   refine⟨.ref rg,parts f,rfl,⟨rg,ys,rfl,hr1,hP⟩,by lia,λc R=>by have:=(M.each c R).1.len;lia,λH2 l2 xs2 s2 _ h2 hC2=>?_⟩;refine⟨u,p,l2,xs2,Nst.outer (parts f),rfl,R,ho.1,G.n (aZ s2.t),h2,hC2,ok,hT.same (s1.trans s2),λH3 ro aS t3 as _ _ _ F=>?_⟩;have B:=s2.t.trans t3;have d:=s1.t.trans B
   have W:Mx K (EnR 66) H3 (parts f).length (.ref ro):=by
    rw[aX]at F
    rcases fp with h | h
    .unfold rb at F;rw[if_pos h]at F;exact F
    .exact xb (by rw[h];rfl) F
   exact⟨z,l,rg,.ref ro,zs,ys,f,parts f,r,rfl,ho.2,hz.n (aZ d),d.at hl,Z.tk (SameT.tk d),by lia,B.at hr1,aC (CrL.n (aZ B)) hP,by lia,λg hg=>(M.each g hg).1,M.mem,W,as,λH4 r4 rows4 t4 hT4 hr0 hr4 hnew hM4=>q H4 r4 rows4 (d.trans t4) hT4 (d.free hr0) hr4 (λq hq=>d.free (hnew q hq)) (by rw[Y];exact hM4)⟩
  | _=>cases hk
theorem j6(T:Txt K mg a)(c:Bm mg base):∀ N,N<=3->FnOk P w K mg base CX0 (md N) a.x_b a.y_b ["self","crowd"] (spMat a K N bw)/\FnOk P w K mg base CX0 (md N) a.x_n a.y_n ["self","crowd"] (spMat a K N aQ)
 | 0,_=>by
  have d:∀{vs:List V}{H:Hp}{Q:VK}{E:XK},¬spMat a K 0 bw vs H Q E:=λh=>by obtain⟨_,pl,_,_,_,_,hk,ho,_⟩:=h;cases pl <;> first | exact ho | cases hk
  have b:∀{vs:List V}{H:Hp}{Q:VK}{E:XK},¬spMat a K 0 aQ vs H Q E:=λh=>by obtain⟨_,pl,_,_,_,_,hk,ho,_⟩:=h;cases pl <;> first | exact ho | cases hk
  exact⟨⟨λ_ _ _ _ h=>(d h).elim,λ_ _ _ _ _ _ _ _ _ _ _ _ _ h=>(d h).elim⟩,⟨λ_ _ _ _ h=>(b h).elim,λ_ _ _ _ _ _ _ _ _ _ _ _ _ h=>(b h).elim⟩⟩
 | N+1,h=>by
  obtain⟨f,e⟩:=j6 T c N (by lia);have G:=Ba T c N (by lia) f e;exact⟨xf T c N G,wW T c N f e G⟩
end
open Nst (Mb plc szs hd tl dr groups aW parts outer aX bq bz)
def Srt(ns kept:List Int):Prop:=ns.Perm kept/\ns.Pairwise (·<=·)
inductive spToldI(a:Ad)(vs:List V)(H:Hp)(Q:VK)(_E:XK):Prop
 | mk(x dx l:Addr)(ns:List Int)(h0:vs=[.ref x,.ref l])(h1:H x=some (.ins a.c_s dx []))(h2:(H l=some (.lst (ns.map V.int))\/H l=some (.tup (ns.map V.int))))(h3:ns.length<64)(h4:∀ H' t ns',(∀ b o,b≠x->H b=some o->H' b=some o)->H' x=some (.ins a.c_s dx [("rising",.ref t)])->H' t=some (.tup (ns'.map V.int))->Srt ns' ns->Q .non H'):spToldI a vs H Q _E
inductive spDieI(a:Ad)(vs:List V)(H:Hp)(Q:VK)(_E:XK):Prop
 | mk(x dx l:Addr)(xs:List V)(h0:vs=[.ref x,.ref l])(h1:H x=some (.ins a.c_G dx []))(h2:H l=some (.lst xs))(h3:∀ H' t,H t=none->(∀ b o,b≠x->H b=some o->H' b=some o)->H' x=some (.ins a.c_G dx [("makes",.ref t)])->H' t=some (.lst xs)->Q .non H'):spDieI a vs H Q _E
theorem back{H d c:Hp}{a:List (Str×Addr)}(s:SameT (untrs H (a.map (·.2))) d)(h:Same d c)(f:∀ p∈a,c p.2=H p.2):SameT H c:=λb o e=>by
 by_cases hb:b∈a.map (·.2)
 .obtain⟨p,g,rfl⟩:=mem_map.mp hb
  rw[f p g,e];exact⟨λ_=>rfl,o,rfl⟩
 .exact(s.trans h.t) b o (by rw[iT hb];exact e)
theorem made{a c:Hp}{x d:Addr}{h g:HO}(f:a x=none)(i:a d=none)(k:∀ b o,b≠x->(upd (upd a d h) x g) b=some o->c b=some o):Same a c:=λb o e=>by
 refine k b o (aB e f) ?_;rw[ar (aB e f),ar (aB e i)];exact e
def PrAt(K:Frag)(H:Hp)(x:Int×(Int×Int))(v:V):Prop:=∃ q y,v=.ref q/\H q=some (.tup [.int x.1,y])/\IsF K H x.2 y
theorem IsF.t{K:Frag}{H a:Hp}{f:Int×Int}{x:V}(s:SameT H a)(h:IsF K H f x):IsF K a f x:=let ⟨p,e,q⟩:=h;⟨p,e,q.imp (λz=>s.at z) id⟩
theorem PrAt.n{K:Frag}{H a:Hp}(s:NC H a)(x:Int×(Int×Int))(v:V)(h:PrAt K H x v):PrAt K a x v:=let ⟨q,y,h1,h2,h3⟩:=h;⟨q,y,h1,s _ _ rfl h2,h3.n s⟩
theorem PrAt.put{K:Frag}{H:Hp}{q:Addr}{j:List V}{l:HO}(a:H q=some (.lst j))(x:Int×(Int×Int))(v:V)(h:PrAt K H x v):PrAt K (upd H q l) x v:=by
 obtain⟨p,y,g,f,i,d,c⟩:=h;exact⟨p,y,g,wm a f (λb z=>nomatch z),i,d,c.imp (λe=>wm a e (λb z=>nomatch z)) id⟩
theorem mF{K:Frag}{H:Hp}:∀{ps:List Int}{fs:List (Int×Int)}{ys zs:List V},ps.length=fs.length->zs.length=ps.length->AllF K H fs ys->Zp H (ps.map V.int) ys zs->Paired (PrAt K H) (ps.zip fs) zs
 | [],[],_,[],_,_,_,_=>.nil
 | [],[],_,_::_,_,h,_,_=>by cases h
 | [],_::_,_,_,h,_,_,_=>by cases h
 | _::_,[],_,_,h,_,_,_=>by cases h
 | _::_,_::_,_,[],_,h,_,_=>by cases h
 | p::ps,f::fs,y::ys,z::zs,h1,h2,.cons hf t,hz=>by
  obtain⟨q,e,g⟩:=hz 0 z (.int p) y rfl rfl rfl;exact .cons ⟨q,y,e,g,hf⟩ (mF (by simpa using h1) (by simpa using h2) t λj a b c l i d=>hz (j+1) a b c l i d)
theorem jD{b a:Type}{r:b->a->Prop}{c:List b}{d:List a}(h2:Paired r c d):∀{as:List b}{bs:List a},Paired r as bs->Paired r (as++c) (bs++d)
 | _,_,.nil=>h2
 | _,_,.cons x t=>.cons x (jD h2 t)
def DieR(H:Hp)(y:V):Prop:=∃ q,∃ m:Int,∃ f,y=.ref q/\H q=some (.tup [.int m,f])
theorem DieR.n{H a:Hp}(s:NC H a){y:V}(h:DieR H y):DieR a y:=let ⟨q,m,f,h1,h2⟩:=h;⟨q,m,f,h1,s _ _ rfl h2⟩
def IsD(a:Ad)(H:Hp)(v:V):Prop:=∃ x dx l ys,v=.ref x/\H x=some (.ins a.c_G dx [("makes",.ref l)])/\H l=some (.lst ys)/\ys.length<=100/\∀ y∈ys,DieR H y
def IsT(a:Ad)(H:Hp)(v:V)(ns:List Int):Prop:=∃ x dx t,v=.ref x/\H x=some (.ins a.c_s dx [("rising",.ref t)])/\H t=some (.tup (ns.map V.int))
def NdW(a:Ad)(n:Nat)(ok:List Int->Prop)(H:Hp)(v:V):Prop:=(∃ ns,IsT a H v ns/\ns.length<=n/\ok ns)\/(n≠0/\IsD a H v)
theorem IsD.n{a:Ad}{H b:Hp}{v:V}(s:NC H b)(h:IsD a H v):IsD a b v:=let ⟨x,dx,l,ys,h1,h2,h3,h4,h5⟩:=h;⟨x,dx,l,ys,h1,s _ _ rfl h2,s _ _ rfl h3,h4,λy c=>(h5 y c).n s⟩
theorem IsT.n{a:Ad}{H b:Hp}{v:V}{ns:List Int}(s:NC H b)(h:IsT a H v ns):IsT a b v ns:=let ⟨x,dx,t,h1,h2,h3⟩:=h;⟨x,dx,t,h1,s _ _ rfl h2,s _ _ rfl h3⟩
theorem NdW.n{a:Ad}{n:Nat}{d:List Int->Prop}{H e:Hp}{v:V}(s:NC H e)(h:NdW a n d H v):NdW a n d e v:=h.imp (λ⟨f,c,b⟩=>⟨f,c.n s,b⟩) λ⟨c,b⟩=>⟨c,b.n s⟩
def nJ(a:Ad)(n:Nat)(ok:List Int->Prop)(H:Hp)(Q:VK):Prop:=∀ H' u,SameT H H'->TabsOk (tabs a) H'->NdW a n ok H' u->Q u H'
theorem mh{H:Hp}{a b:Addr}{c f:Int}{e d:V}(g:H a=some (.tup [.int c,e]))(h2:H b=some (.tup [.int f,d])):∀ y∈[V.ref a,V.ref b],DieR H y:=λy hy=>by
 rcases mem_cons.mp hy with rfl | hy
 .exact⟨a,c,e,rfl,g⟩
 .rw[mem_singleton.mp hy];exact⟨b,f,d,rfl,h2⟩
def okS(ps ns:List Int):Prop:=∃ sub:List Int,List.Sublist sub ps/\ns.Perm sub
inductive spFN(a:Ad)(vs:List V)(H:Hp)(Q:VK)(_E:XK):Prop
 | mk(la lt:Addr)(ahead:List Int)(m:Nat)(h0:vs=[.ref la,.int (m:Nat),.ref lt])(h1:H la=some (.lst (ahead.map V.int)))(h2:H lt=some (.lst []))(h3:ahead.length<=6)(h4:TabsOk (tabs a) H)(h5:nJ a ahead.length (okS ahead) H Q):spFN a vs H Q _E
def Ao(a:Ad):Sp:=λvs H Q _=>∃ u v w,vs=[u,v,w]/\TabsOk (tabs a) H/\∀ H' f,SameT H H'->TabsOk (tabs a) H'->Q f H'
def uW(a:Ad):Sp:=λvs H Q _=>∃ u v,vs=[u,v]/\TabsOk (tabs a) H/\∀ H' f,SameT H H'->TabsOk (tabs a) H'->Q f H'
inductive spLN(K:Frag)(a:Ad)(vs:List V)(H:Hp)(Q:VK)(_E:XK):Prop
 | mk(la lt:Addr)(xs:List V)(L:Tl)(tk:List Int)(n:Nat)(ok:List Int->Prop)(h0:vs=[.ref la,.ref lt])(h1:H la=some (.lst xs))(h2:Paired (PrAt K H) L xs)(h3:H lt=some (.lst (tk.map V.int)))(h4:tk.length<=6)(h5:tk.length<=n)(h6:(L≠[]->n≠0))(h7:(∀ ns:List Int,ns.Perm tk->ok ns))(h8:TabsOk (tabs a) H)(h9:nJ a n ok H Q):spLN K a vs H Q _E
def vD(K:Frag)(a:Ad):Sp:=λvs H Q _=>∃ v vk p c,∃ n ok,vs=[v,vk]/\PrAt K H (p,c) v/\n≠0/\TabsOk (tabs a) H/\nJ a n ok H Q
inductive spOpen(K:Frag)(a:Ad)(vs:List V)(H:Hp)(Q:VK)(_E:XK):Prop
 | mk(la lt:Addr)(xs:List V)(L:Tl)(tk:List Int)(B:Int)(n:Nat)(ok:List Int->Prop)(h0:vs=[.ref la,.ref lt])(h1:H la=some (.lst xs))(h2:Paired (PrAt K H) L xs)(h3:L.length<=6)(h4:0<B)(h5:B<=324)(h6:(∀ x∈L,Fr B x.2/\uns x.2=true))(h7:H lt=some (.lst (tk.map V.int)))(h8:tk.length<=6)(h9:tk.length<=n)(h10:(L≠[]->n≠0))(h11:(∀ ns:List Int,ns.Perm tk->ok ns))(h12:TabsOk (tabs a) H)(h13:nJ a n ok H Q):spOpen K a vs H Q _E
inductive spSett(K:Frag)(a:Ad)(vs:List V)(H:Hp)(Q:VK)(_E:XK):Prop
 | mk(la lt:Addr)(xs:List V)(L:Tl)(B:Int)(h0:vs=[.ref la,.ref lt])(h1:H la=some (.lst xs))(h2:Paired (PrAt K H) L xs)(h3:L.length<=6)(h4:0<B)(h5:B<=324)(h6:(∀ x∈L,Fr B x.2))(h7:H lt=some (.lst []))(h8:TabsOk (tabs a) H)(h9:nJ a L.length (okS (L.map (·.1))) H Q):spSett K a vs H Q _E
def iD(L:Tl):List Int:=(L.filter λx=>decide (x.2=(1,1))).map (·.1)
def sr(L:Tl):Tl:=L.filter λx=>uns x.2
theorem qC(L:Tl):List.Sublist ((L.filter λx=>decide (x.2=(1,1))).map (·.1)) (L.map (·.1)):=List.filter_sublist.map _
def Two(c e:Int×Int):Prop:=∃ B:Int,0<B/\B<=1000000000/\Fr B c/\Fr B e/\uns c=true/\uns e=true
inductive spDuP(K:Frag)(vs:List V)(H:Hp)(Q:VK)(_E:XK):Prop
 | mk(x y:V)(c e:Int×Int)(h0:vs=[x,y])(h1:IsF K H c x)(h2:IsF K H e y)(h3:Two c e)(h4:∀ H' l p1 p2 x1 y1 x2 y2,Same H H'->H l=none->H' l=some (.lst [.ref p1,.ref p2])->H' p1=some (.tup [.int (du1 c e),x1,y1])->H' p2=some (.tup [.int (du2 c e),x2,y2])->IsF K H' (par true c e).1 x1->IsF K H' (par true c e).2 y1->IsF K H' (par false c e).1 x2->IsF K H' (par false c e).2 y2->Q (.ref l) H'):spDuP K vs H Q _E
theorem Two.facts{c e:Int×Int}(h:Two c e):0<c.1/\c.1<c.2/\c.2<=1000000000/\0<e.1/\e.1<e.2/\e.2<=1000000000/\0<cL c.2 e.2/\cL c.2 e.2<=1000000000/\0<duA c e/\duA c e<cL c.2 e.2/\0<duB c e/\duB c e<cL c.2 e.2:=by
 obtain⟨B,a,x,g,f,d,b⟩:=h;obtain⟨p,v,u,l,o,r,m⟩:=zx a g f d b;have i:0<c.1/\c.1<c.2:=of_decide_eq_true d;have j:0<e.1/\e.1<e.2:=of_decide_eq_true b;have w:=Int.le_of_dvd a g.2.2.2;have s:=Int.le_of_dvd a f.2.2.2;exact⟨i.1,i.2,by lia,j.1,j.2,by lia,p,by lia,l,o,r,m⟩
theorem t8{i:Int}(a:0<=i)(b:i<=4000000000):Bt 3000 i:=(show Bt 40 i by unfold Bt;lia).mono (by decide)
section
variable {P:Program}{w:World}{K:Frag}{mg:Str->Option Value}{base:Heap}{a:Ad}
theorem j8(T:Txt K mg a):FnOk P w K mg base CX0 1 a.i_s a.e_s ["self","kept"] (spToldI a):=by
 refine T.Fi_s.ok kE (λC H Q E h=>?_) (λcdv A outer s H C Q E hr h=>?_)
 .obtain⟨x,g,l,m,rfl,_⟩:=h;rfl
 .obtain⟨x,g,l,m,rfl,i,r,F,q⟩:=h
  refine⟨_,(aj (g9 (vr 0) (dg jy rfl T.z_tuple mw (aa (ay nE rfl T.z_sorted gJ (aa (vr 1) ac)) ac)) rfl)),?_⟩;refine⟨l,m,rfl,r.imp SqL.of SqT.of,F,λp c D v B=>?_⟩;have j:=Same.new (o:=.lst (c.map V.int)) B;refine⟨p,_,rfl,.inl ⟨SqL.of ae,λt f=>?_⟩⟩;have y:=Same.new (o:=.tup (c.map V.int)) f;have d:=j.trans y;have u:t≠x:=λz=>by rw[z,j _ _ i]at f;cases f
  refine⟨x,a.c_s,g,[],rfl,d _ _ i,T.cl_s,T.na_Told_rising,(by decide),?_⟩;exact q _ t c (λb o n e=>by rw[ar n];exact d _ _ e) ae (by rw[ar u];exact ae) ⟨D,v⟩
theorem kG(T:Txt K mg a):FnOk P w K mg base CX0 1 a.i_G a.e_G ["self","parts"] (spDieI a):=by
 refine T.Fi_G.ok lx (λp H Q E h=>?_) (λcdv A outer s H p Q E hr h=>?_)
 .obtain⟨x,f,l,d,rfl,_⟩:=h;rfl
 .obtain⟨x,f,l,d,rfl,g,j,q⟩:=h
  refine⟨_,(aj (g9 (vr 0) (dg jZ rfl T.z_list gw (aa (vr 1) ac)) rfl)),?_⟩;refine⟨l,d,rfl,.inl (SqL.of j),λt c=>?_⟩;have i:=Same.new (o:=.lst d) c;have m:t≠x:=λz=>by rw[z,g]at c;cases c
  refine⟨x,a.c_G,f,[],rfl,i _ _ g,T.cl_G,T.na_Die_makes,(by decide),?_⟩;exact q _ t c (λb o n e=>by rw[ar n];exact i _ _ e) ae (by rw[ar m];exact ae)
theorem yO(T:Txt K mg a):FnOk P w K mg base CX0 3 a.f_ao a.d_ao ["one","other"] (spDuP K):=by
 have ad:FnOk P w K mg base CX0 2 _ _ _ spLcm:=zF T;have j:FnOk P w K mg base CX0 2 _ _ _ spLow:=fb T;refine T.F_ao.ok sc_ao (λvs H Q E h=>?_) (λcdv A outer s H vs Q E hr h=>?_)
 .obtain⟨x,y,c,e,rfl,_⟩:=h;rfl
 .obtain⟨x,y,c,e,rfl,hc,he,h2,q⟩:=h
  obtain⟨c0,c1,c2,e0,e1,e2,d0,d1,a0,a1,b0,b1⟩:=h2.facts;have ic:∀{H':Hp},Same H H'->IsF K H' c x:=λs=>hc.same s
  have ie:∀{H':Hp},Same H H'->IsF K H' e y:=λs=>he.same s
  obtain⟨pc,rfl,an⟩:=id hc;obtain⟨pe,rfl,ab⟩:=id he;refine⟨_,(ai (ax (i:=2) sc_ao.nd rfl (Or.inl rfl) (ag ad hr rfl T.m_Y T.F_Y.kp T.B_Y .nil af (aa (aN (aa (az av (vr 0) ah (λ_ _=>rfl)) (aa (az av (vr 1) ah (λ_ _=>rfl)) ac))) ac))) (ai (ax (i:=3) sc_ao.nd rfl (Or.inl rfl) (aw be (az av (vr 0) ah (λ_ _=>rfl)) (aw cK (vr 2) (az av (vr 0) ah (λ_ _=>rfl))))) (ai (ax (i:=4) sc_ao.nd rfl (Or.inl rfl) (aw be (az av (vr 1) ah (λ_ _=>rfl)) (aw cK (vr 2) (az av (vr 1) ah (λ_ _=>rfl))))) (ai (aR (aT qc (aw dN (vr 3) (vr 4)) (vr 2) (aG _)) (ai (ax (i:=5) sc_ao.nd rfl (Or.inl rfl) (ag j hr rfl T.m_aa T.F_aa.kp T.B_aa .nil af (aa (aw dN (vr 3) (vr 4)) (aa (vr 2) ac)))) (aj (au (aN (aa (aE (aa (vr 3) (aa (vr 5) (aa (bE rfl T.g_NOUGHT) ac)))) (aa (aE (aa (vr 4) (aa (bE rfl T.g_NOUGHT) (aa (vr 5) ac)))) ac)))))) aD) (ai (ax (i:=5) sc_ao.nd rfl (Or.inl rfl) (ag j hr rfl T.m_aa T.F_aa.kp T.B_aa .nil af (aa (aw cU (aw dN (vr 3) (vr 4)) (vr 2)) (aa (vr 2) ac)))) (aj (au (aN (aa (aE (aa (aw cU (vr 2) (vr 4)) (aa (bE rfl T.g_WHOLE) (aa (vr 5) ac)))) (aa (aE (aa (aw cU (vr 2) (vr 3)) (aa (vr 5) (aa (bE rfl T.g_WHOLE) ac)))) ac)))))))))),rZ ?_⟩;intro a3 a2 aS as a4;refine px1 an.sq (px1 ab.sq ⟨cb _ _,λl0 ap=>⟨l0,c.2,e.2,rfl,ae,by lia,by lia,c2,e2,?_⟩⟩);have r:=Same.new (o:=.lst [.int c.2,.int e.2]) ap;generalize upd H l0 (.lst [.int c.2,.int e.2])=H1 at r;have N:PT K H1 pc c:=by obtain⟨p,z,h⟩:=ic r;cases z;exact h
  have L:PT K H1 pe e:=by obtain⟨p,z,h⟩:=ie r;cases z;exact h
  refine px0 N.sq (px1 N.sq ⟨cdB (by lia) (t8 (by lia) (by lia)),clB (by lia) (by lia),?_⟩);refine px0 L.sq (px1 L.sq ⟨cdB (by lia) (t8 (by lia) (by lia)),clB (by lia) (by lia),?_⟩);refine ifC (λb=>?_) λb=>?_
  .have b:duA c e+duB c e<cL c.2 e.2:=b
   have f:duL c e=true:=decide_eq_true b;refine⟨duA c e+duB c e,cL c.2 e.2,rfl,d0,t8 (by lia) (by lia),t8 (by lia) (by lia),λW p M Z=>?_⟩;refine⟨by show 3<=sizeLine;decide,λF Y=>?_⟩;have B:=Same.new (o:=.tup [.int (duA c e),.ref p,.ref a.k_NOUGHT]) Y;refine⟨by show 3<=sizeLine;decide,λO R=>?_⟩;have u:=Same.new (o:=.tup [.int (duB c e),.ref a.k_NOUGHT,.ref p]) R;refine⟨cb _ _,λl I=>?_⟩;have m:=Same.new (o:=.lst [.ref F,.ref O]) I;have d:=B.trans (u.trans m);have X:duR c e=fB (duA c e+duB c e) (cL c.2 e.2):=by unfold duR;rw[if_pos f]
   have S:duE c e=(0,1):=by unfold duE;rw[if_pos f]
   have v:∀{H':Hp},Same W H'->IsF K H' (duR c e) (.ref p):=λs=>⟨p,rfl,.inl (by rw[X];exact s _ _ Z)⟩
   have G:∀{H':Hp},IsF K H' (duE c e) (.ref a.k_NOUGHT):=⟨_,rfl,.inr (by rw[S];exact T.t_NOUGHT)⟩
   have C:par true c e=(duR c e,duE c e):=by unfold par;rw[f,if_pos rfl]
   have D:par false c e=(duE c e,duR c e):=by unfold par;rw[f,if_neg (by decide)]
   have nl:H l=none:=by
    cases hh:H l with
    | none=>rfl
    | some o=>exact absurd (I.symm.trans ((B.trans u) _ _ ((r.trans M) _ _ hh))) (by simp)
   refine q _ l F O (.ref p) (.ref a.k_NOUGHT) (.ref a.k_NOUGHT) (.ref p) ((r.trans M).trans d) nl ae ?_ ?_ ?_ ?_ ?_ ?_
   .rw[show du1 c e=duA c e by unfold du1;rw[if_pos f]];exact(u.trans m) _ _ ae
   .rw[show du2 c e=duB c e by unfold du2;rw[if_pos f]];exact m _ _ ae
   .rw[C];exact v d
   .rw[C];exact G
   .rw[D];exact G
   .rw[D];exact v d
  .have b:¬duA c e+duB c e<cL c.2 e.2:=b
   have f:duL c e=false:=decide_eq_false b;have g:¬duL c e=true:=by rw[f];decide
   refine⟨duA c e+duB c e - cL c.2 e.2,cL c.2 e.2,rfl,d0,t8 (by lia) (by lia),t8 (by lia) (by lia),λW p M Z=>?_⟩;refine⟨by show 3<=sizeLine;decide,λF Y=>?_⟩;have B:=Same.new (o:=.tup [.int (cL c.2 e.2 - duB c e),.ref a.k_WHOLE,.ref p]) Y;refine⟨by show 3<=sizeLine;decide,λO R=>?_⟩;have u:=Same.new (o:=.tup [.int (cL c.2 e.2 - duA c e),.ref p,.ref a.k_WHOLE]) R;refine⟨cb _ _,λl I=>?_⟩;have m:=Same.new (o:=.lst [.ref F,.ref O]) I;have d:=B.trans (u.trans m);have X:duR c e=fB (duA c e+duB c e - cL c.2 e.2) (cL c.2 e.2):=by unfold duR;rw[if_neg g]
   have S:duE c e=(1,1):=by unfold duE;rw[if_neg g]
   have v:∀{H':Hp},Same W H'->IsF K H' (duR c e) (.ref p):=λs=>⟨p,rfl,.inl (by rw[X];exact s _ _ Z)⟩
   have G:∀{H':Hp},IsF K H' (duE c e) (.ref a.k_WHOLE):=⟨_,rfl,.inr (by rw[S];exact T.t_WHOLE)⟩
   have C:par true c e=(duE c e,duR c e):=by unfold par;rw[f,if_neg (by decide)]
   have D:par false c e=(duR c e,duE c e):=by unfold par;rw[f,if_pos rfl]
   have nl:H l=none:=by
    cases hh:H l with
    | none=>rfl
    | some o=>exact absurd (I.symm.trans ((B.trans u) _ _ ((r.trans M) _ _ hh))) (by simp)
   refine q _ l F O (.ref a.k_WHOLE) (.ref p) (.ref p) (.ref a.k_WHOLE) ((r.trans M).trans d) nl ae ?_ ?_ ?_ ?_ ?_ ?_
   .rw[show du1 c e=cL c.2 e.2 - duB c e by unfold du1;rw[if_neg g]];exact(u.trans m) _ _ ae
   .rw[show du2 c e=cL c.2 e.2 - duA c e by unfold du2;rw[if_neg g]];exact m _ _ ae
   .rw[C];exact G
   .rw[C];exact v d
   .rw[D];exact v d
   .rw[D];exact G
theorem AR(T:Txt K mg a)(hB:Bm mg base):FnOk P w K mg base CX0 3 a.f_P a.d_P ["ahead","wanted","taken"] (spFN a):=by
 have L:FnOk P w K mg base CX0 1 _ _ _ (spToldI a):=j8 T;have as:FnOk P w K mg base CX0 1 _ _ _ (spDieI a):=kG T;refine T.F_P.okL T.lcd_P sc_P (by decide +kernel) (λvs H Q E h=>?_) (λA outer s H vs Q E hr h=>?_)
 .obtain⟨la,Z,b,m,rfl,_⟩:=h;rfl
 .obtain⟨la,Z,b,m,rfl,W,ht,a0,Y,q⟩:=h
  have an:sizeLine=16777216:=sizeLine_eq;refine⟨_,(bg (aR (aT eC (vr 1) ah (aG _)) (aj (au (bS T.mk_s L hr rfl T.mc_s T.Bi_s .nil af (aa (vr 2) ac)))) aD) (bg (aR (aT Bn (vr 1) (ay aF rfl T.z_len bf (aa (vr 0) ac)) (aG _)) (aj (au (bS T.mk_s L hr rfl T.mc_s T.Bi_s .nil af (aa (aw nj (vr 2) (vr 0)) ac)))) aD) (bg (ax (i:=3) sc_P.nd rfl (Or.inr rfl) (dW gB (vr 0) (eZ ah) eW)) (iE (bS T.mk_G as hr rfl T.mc_G T.Bi_G .nil af (aa (aN (aa (aE (aa (vr 1) (aa (cm (d:=nF) rfl T.lch_P hB rfl (by with_unfolding_all rfl) rfl (kR a) (.head _) T.tnd kQ) ac))) (aa (aE (aa (aw cU (ay aF rfl T.z_len bf (aa (vr 0) ac)) (vr 1)) (aa (cm (d:=nO) rfl T.lch_P hB rfl (by with_unfolding_all rfl) rfl (kR a) (.tail _ (.head _)) T.tnd kQ) ac))) ac))) ac)))))),?_⟩;refine ifC (λh0=>?_) λh0=>?_
  .intro x e f c F
   have s0:Same H (upd (upd H e (.own x)) x (.ins a.c_s e [])):=gK f c;refine⟨x,e,Z,[],rfl,ae,.inl (s0 _ _ ht),by decide,λH' t j k p h2 B=>⟨rfl,?_⟩⟩;have D:=made f c k;have hl:=B.1.length_eq;exact q _ _ D.t (Y.same D) (.inl ⟨j,⟨x,e,t,rfl,p,h2⟩,by rw[hl];exact Nat.zero_le _,[],List.nil_sublist _,B.1⟩)
  have m1:0<m:=by lia
  refine⟨_,.inl (SqL.of W),?_⟩;refine ifC (λp=>?_) λp=>?_
  .refine⟨Z,la,_,_,rfl,rfl,ht,W,(by rw[length_map,length_nil];lia),λr fr=>?_⟩
   rw[nil_append];have y:=Same.new (o:=.lst (b.map V.int)) fr;have G:(upd H r (.lst (b.map V.int))) r=some (.lst (b.map V.int)):=ae;generalize upd H r (.lst (b.map V.int))=H1 at y G;intro x e f c F;have s0:Same H1 (upd (upd H1 e (.own x)) x (.ins a.c_s e [])):=gK f c;refine⟨x,e,r,b,rfl,ae,.inl (s0 _ _ G),by lia,λH' t j k p h2 B=>⟨rfl,?_⟩⟩;have D:=y.trans (made f c k);have hl:=B.1.length_eq;exact q _ _ D.t (Y.same D) (.inl ⟨j,⟨x,e,t,rfl,p,h2⟩,by rw[hl];exact Nat.le_refl _,b,List.Sublist.refl _,B.1⟩)
  have p:m<b.length:=by rw[length_map]at p;lia
  refine⟨_,rfl,.inl ⟨_,SqL.of W,λlr fr=>?_⟩⟩;have y:=Same.new (o:=.lst (eG (b.map V.int) (some 1) none)) fr;generalize upd H lr (.lst (eG (b.map V.int) (some 1) none))=H1 at y;refine⟨Y.same y,λS c1 H2 t2 ab n1 a2 a3=>?_⟩;refine⟨(by decide:2<=sizeLine),λg X=>?_⟩;have s3:=Same.new (o:=.tup [.int (m:Nat),.ref S]) X;have M:(upd H2 g (.tup [.int (m:Nat),.ref S])) g=some (.tup [.int (m:Nat),.ref S]):=ae;generalize upd H2 g (.tup [.int (m:Nat),.ref S])=H3 at s3 M;have t3:=(y.t.trans t2).trans s3.t;refine⟨_,.inl (SqL.of (t3.at W)),?_⟩;refine⟨ab.same s3,λO c2 H4 t4 ad n2 a1 a4=>?_⟩;refine⟨(by decide:2<=sizeLine),λu aS=>?_⟩;rw[length_map];have s5:=Same.new (o:=.tup [.int ((b.length:Int) - (m:Nat)),.ref O]) aS;have I:(upd H4 u (.tup [.int ((b.length:Int) - (m:Nat)),.ref O])) u=some (.tup [.int ((b.length:Int) - (m:Nat)),.ref O]):=ae;generalize upd H4 u (.tup [.int ((b.length:Int) - (m:Nat)),.ref O])=H5 at s5 I;refine⟨(by decide:2<=sizeLine),λR ap=>?_⟩;have s6:=Same.new (o:=.lst [.ref g,.ref u]) ap;have C:(upd H5 R (.lst [.ref g,.ref u])) R=some (.lst [.ref g,.ref u]):=ae;generalize upd H5 R (.lst [.ref g,.ref u])=H6 at s6 C;intro x e f c F;refine⟨x,e,R,_,rfl,ae,gK f c _ _ C,λH7 l g3 k g1 g2=>⟨rfl,λH8 s8 _=>?_⟩⟩;have v:=s6.trans ((made f c k).trans s8);have N:=t4.trans (s5.trans v).t;exact q _ _ (t3.trans N) (ad.same (s5.trans v)) (.inr ⟨by lia,x,e,l,_,rfl,s8 _ _ g1,s8 _ _ g2,(by show 2<=100;decide),mh (N.at M) (v _ _ I)⟩)
theorem Bl(T:Txt K mg a)(l:Bm mg base):FnOk P w K mg base CX0 1 a.f_E a.d_E ["places","step","first"] (Ao a):=by
 refine T.F_E.okL T.lcd_E nI (by decide +kernel) (λc H Q E h=>?_) (λA outer s H c Q E hr h=>?_)
 .obtain⟨u,v,i,rfl,_⟩:=h;rfl
 .obtain⟨u,v,i,rfl,j,q⟩:=h
  refine⟨_,(iE (cm (d:=li) rfl T.lch_E l rfl (by with_unfolding_all rfl) rfl (ny a) (.head _) T.tnd nM)),?_⟩;exact⟨j,λm r p f b o e g=>λH3 s3 hc=>q _ _ (f.trans s3.t) (b.same s3)⟩
theorem xy(T:Txt K mg a)(j:Bm mg base):FnOk P w K mg base CX0 1 a.f_z a.d_z ["told","taken"] (uW a):=by
 refine T.F_z.okL T.lcd_z lq (by decide +kernel) (λc H Q E h=>?_) (λA outer s H c Q E hr h=>?_)
 .obtain⟨u,v,rfl,_⟩:=h;rfl
 .obtain⟨u,v,rfl,i,q⟩:=h
  refine⟨_,(iE (cm (d:=jS) rfl T.lch_z j rfl (by with_unfolding_all rfl) rfl (kU a) (.head _) T.tnd lv)),?_⟩;exact⟨i,λl p o f b m e g=>λH3 s3 hc=>q _ _ (f.trans s3.t) (b.same s3)⟩
theorem Am(T:Txt K mg a)(hB:Bm mg base):FnOk P w K mg base CX0 3 a.f_C a.d_C ["ahead","taken"] (spLN K a):=by
 have a1:FnOk P w K mg base CX0 1 _ _ _ (spToldI a):=j8 T;have as:FnOk P w K mg base CX0 1 _ _ _ (spDieI a):=kG T;refine T.F_C.okL T.lcd_C sc_C (by decide +kernel) (λvs H Q E h=>?_) (λA outer s H vs Q E hr h=>?_)
 .obtain⟨la,lt,xs,L,tk,n,ok,rfl,_⟩:=h;rfl
 .obtain⟨la,lt,xs,L,tk,n,ok,rfl,N,hP,ht,a8,a4,g,a0,hT,q⟩:=h
  have ap:sizeLine=16777216:=sizeLine_eq;refine⟨_,(bg (aR (dP (fV (vr 0) (λ_=>rfl))) (aj (au (bS T.mk_s a1 hr rfl T.mc_s T.Bi_s .nil af (aa (vr 1) ac)))) aD) (bg (gA (az av (vr 0) ah (λ_ _=>rfl)) (dz rfl (aq (ao (i:=2) sc_C.nd rfl (Or.inr rfl)) (aq (ao (i:=3) sc_C.nd rfl (Or.inl rfl)) aJ)))) (bg (ax (i:=4) sc_C.nd rfl (Or.inr rfl) (dW gB (vr 0) (eZ ah) eW)) (iE (bS T.mk_G as hr rfl T.mc_G T.Bi_G .nil af (aa (aN (aa (aE (aa (az av (vr 3) ah (λ_ _=>rfl)) (aa (cm (d:=lC) rfl T.lch_C hB rfl (by with_unfolding_all rfl) rfl (jx a) (.head _) T.tnd jz) ac))) (aa (aE (aa (aw cU (az av (vr 3) ah (λ_ _=>rfl)) (az av (vr 3) ah (λ_ _=>rfl))) (aa (cm (d:=lE) rfl T.lch_C hB rfl (by with_unfolding_all rfl) rfl (jx a) (.tail _ (.head _)) T.tnd jz) ac))) ac))) ac)))))),?_⟩;cases hP with
  | nil =>
   refine⟨_,.inl ⟨_,SqL.of N,rfl⟩,?_⟩;intro x f C b S;have s0:Same H (upd (upd H f (.own x)) x (.ins a.c_s f [])):=gK C b;refine⟨x,f,lt,tk,rfl,ae,.inl (s0 _ _ ht),by lia,λH' t aS k h1 h2 h3=>⟨rfl,?_⟩⟩;have sm:=made C b k;have hl:=h3.1.length_eq;exact q _ _ sm.t (hT.same sm) (.inl ⟨aS,⟨x,f,t,rfl,h1,h2⟩,by lia,a0 _ h3.1⟩)
  | @cons r1 v1 rest xs1 O hP1 =>
   obtain⟨p,c⟩:=r1;obtain⟨Z,y,rfl,W,ad⟩:=O;have g:=g (by simp);have hc:IsF K H c y:=ad;refine⟨_,.inl ⟨_,SqL.of N,rfl⟩,?_⟩;refine .inl ⟨la,_,_,_,rfl,rfl,SqL.of N,ci 0 rfl rfl,Z,_,rfl,SqT.of W,rfl,_,_,rfl,_,_,rfl,rfl,?_⟩;refine⟨_,rfl,.inl ⟨_,SqL.of N,λlr fr=>?_⟩⟩;have M:=Same.new (o:=.lst (eG (.ref Z::xs1) (some 1) none)) fr;generalize upd H lr (.lst (eG (.ref Z::xs1) (some 1) none))=H1 at M;obtain⟨pc,rfl,a6⟩:=id hc;have e:∀{H':Hp},SameT H H'->PT K H' pc c:=λs=>by obtain⟨_,z,h⟩:=hc.t s;cases z;exact h
   refine px0 (e M.t).sq ?_;refine⟨hT.same M,λI c1 H2 t2 Y n1 a5 a7=>?_⟩;refine⟨(by decide:2<=sizeLine),λj R=>?_⟩;have X:=Same.new (o:=.tup [.int c.1,.ref I]) R;have B:(upd H2 j (.tup [.int c.1,.ref I])) j=some (.tup [.int c.1,.ref I]):=ae;generalize upd H2 j (.tup [.int c.1,.ref I])=H3 at X B;have t3:=M.t.trans (t2.trans X.t);refine px1 (e t3).sq (px0 (e t3).sq ?_);refine⟨Y.same X,λF c2 H4 t4 ab n2 a3 a9=>?_⟩;refine⟨(by decide:2<=sizeLine),λm a2=>?_⟩;have s5:=Same.new (o:=.tup [.int (c.2 - c.1),.ref F]) a2;have v:(upd H4 m (.tup [.int (c.2 - c.1),.ref F])) m=some (.tup [.int (c.2 - c.1),.ref F]):=ae;generalize upd H4 m (.tup [.int (c.2 - c.1),.ref F])=H5 at s5 v;refine⟨(by decide:2<=sizeLine),λG an=>?_⟩;have s6:=Same.new (o:=.lst [.ref j,.ref m]) an;have u:(upd H5 G (.lst [.ref j,.ref m])) G=some (.lst [.ref j,.ref m]):=ae;generalize upd H5 G (.lst [.ref j,.ref m])=H6 at s6 u;intro x f C b S;refine⟨x,f,G,_,rfl,ae,gK C b _ _ u,λH7 l g3 k O g2=>⟨rfl,λH8 s8 _=>?_⟩⟩;have r:=s6.trans ((made C b k).trans s8);have D:=t4.trans (s5.trans r).t;exact q _ _ (t3.trans D) (ab.same (s5.trans r)) (.inr ⟨g,x,f,l,_,rfl,s8 _ _ O,s8 _ _ g2,(by show 2<=100;decide),mh (D.at B) (r _ _ v)⟩)
theorem xY(T:Txt K mg a)(hB:Bm mg base):FnOk P w K mg base CX0 3 a.f_O a.d_O ["last","taken"] (vD K a):=by
 have X:FnOk P w K mg base CX0 1 _ _ _ (spDieI a):=kG T;refine T.F_O.okL T.lcd_O sc_O (by decide +kernel) (λvs H Q E h=>?_) (λA outer s H vs Q E hr h=>?_)
 .obtain⟨v,vk,p,c,n,ok,rfl,_⟩:=h;rfl
 .obtain⟨v,vk,p,c,n,ok,rfl,⟨q0,y,rfl,I,hc⟩,M,hT,q⟩:=h
  refine⟨_,(bg (gA (vr 0) (dz rfl (aq (ao (i:=2) sc_O.nd rfl (Or.inr rfl)) (aq (ao (i:=3) sc_O.nd rfl (Or.inl rfl)) aJ)))) (iE (bS T.mk_G X hr rfl T.mc_G T.Bi_G .nil af (aa (aN (aa (aE (aa (az av (vr 3) ah (λ_ _=>rfl)) (aa (cm (d:=nv) rfl T.lch_O hB rfl (by with_unfolding_all rfl) rfl (kP a) (.head _) T.tnd kJ) ac))) (aa (aE (aa (aw cU (az av (vr 3) ah (λ_ _=>rfl)) (az av (vr 3) ah (λ_ _=>rfl))) (aa (cm (d:=nD) rfl T.lch_O hB rfl (by with_unfolding_all rfl) rfl (kP a) (.tail _ (.head _)) T.tnd kJ) ac))) ac))) ac)))),?_⟩;refine⟨q0,_,rfl,SqT.of I,rfl,_,_,rfl,_,_,rfl,rfl,?_⟩;have W:=Same.refl H
  .skip
   obtain⟨pc,rfl,ap⟩:=id hc;have b:∀{H':Hp},SameT H H'->PT K H' pc c:=λs=>by obtain⟨_,z,h⟩:=hc.t s;cases z;exact h
   refine px0 (b W.t).sq ?_;refine⟨hT.same W,λF c1 H2 t2 N n1 an as=>?_⟩;refine⟨(by decide:2<=sizeLine),λe G=>?_⟩;have L:=Same.new (o:=.tup [.int c.1,.ref F]) G;have B:(upd H2 e (.tup [.int c.1,.ref F])) e=some (.tup [.int c.1,.ref F]):=ae;generalize upd H2 e (.tup [.int c.1,.ref F])=H3 at L B;have Z:=W.t.trans (t2.trans L.t);refine px1 (b Z).sq (px0 (b Z).sq ?_);refine⟨N.same L,λC c2 H4 t4 O n2 ad aS=>?_⟩;refine⟨(by decide:2<=sizeLine),λf Y=>?_⟩;have R:=Same.new (o:=.tup [.int (c.2 - c.1),.ref C]) Y;have u:(upd H4 f (.tup [.int (c.2 - c.1),.ref C])) f=some (.tup [.int (c.2 - c.1),.ref C]):=ae;generalize upd H4 f (.tup [.int (c.2 - c.1),.ref C])=H5 at R u;refine⟨(by decide:2<=sizeLine),λD S=>?_⟩;have s6:=Same.new (o:=.lst [.ref e,.ref f]) S;have j:(upd H5 D (.lst [.ref e,.ref f])) D=some (.lst [.ref e,.ref f]):=ae;generalize upd H5 D (.lst [.ref e,.ref f])=H6 at s6 j;intro x dx hx r ab;refine⟨x,dx,D,_,rfl,ae,gK hx r _ _ j,λH7 l g3 k g1 g2=>⟨rfl,λH8 s8 _=>?_⟩⟩;have g:=s6.trans ((made hx r k).trans s8);have m:=t4.trans (R.trans g).t;exact q _ _ (Z.trans m) (O.same (R.trans g)) (.inr ⟨M,x,dx,l,_,rfl,s8 _ _ g1,s8 _ _ g2,(by show 2<=100;decide),mh (m.at B) (g _ _ u)⟩)
theorem xW(T:Txt K mg a)(hB:Bm mg base):FnOk P w K mg base CX0 4 a.f_au a.d_au ["told","taken"] (spOpen K a):=by
 have b2:FnOk P w K mg base CX0 2 _ _ _ _:=(j8 T).mono (by decide);have b6:FnOk P w K mg base CX0 2 _ _ _ _:=(kG T).mono (by decide);have a8:FnOk P w K mg base CX0 3 _ _ _ (vD K a):=xY T hB;have S:FnOk P w K mg base CX0 3 _ _ _ (spDuP K):=yO T;have b0:FnOk P w K mg base CX0 3 _ _ _ _:=(xy T hB).mono (by decide);refine T.F_au.ok sc_au (λvs H Q E h=>?_) (λcdv A outer s H vs Q E hr h=>?_)
 .obtain⟨la,lt,xs,L,tk,B,n,ok,rfl,_⟩:=h;rfl
 .obtain⟨lt,lk,xs,L,tk,B,n,ok,rfl,b,hP,l6,B0,B1,Y,bd,cs,ch,aS,b9,hT,q⟩:=h
  have b3:sizeLine=16777216:=sizeLine_eq;refine⟨_,(ai (aR (dP (fV (vr 0) (λ_=>rfl))) (aj (au (bS T.mk_s b2 hr rfl T.mc_s T.Bi_s .nil af (aa (vr 1) ac)))) aD) (ai (aR (aT eC (ay aF rfl T.z_len bf (aa (vr 0) ac)) ah (aG _)) (aj (au (ag a8 hr rfl T.m_O T.F_O.kp T.B_O .nil af (aa (az av (vr 0) ah (λ_ _=>rfl)) (aa (vr 1) ac))))) aD) (ai (gA (az av (vr 0) ah (λ_ _=>rfl)) (dz rfl (aq (ao (i:=2) sc_au.nd rfl (Or.inr rfl)) (aq (ao (i:=3) sc_au.nd rfl (Or.inl rfl)) aJ)))) (ai (gA (az av (vr 0) ah (λ_ _=>rfl)) (dz rfl (aq (ao (i:=4) sc_au.nd rfl (Or.inr rfl)) (aq (ao (i:=5) sc_au.nd rfl (Or.inl rfl)) aJ)))) (aj (au (bS T.mk_G b6 hr rfl T.mc_G T.Bi_G .nil af (aa (aP rfl (N:=["many","left","its_left","taken","told","place","other"]) (ix:=[none,none,none,some 1,some 0,some 2,some 4]) ⟨rfl,rfl,rfl,rfl,⟨rfl,rfl,rfl,⟨rfl,rfl,rfl,⟨rfl,rfl,rfl,⟨rfl,rfl,rfl,trivial⟩⟩⟩⟩⟩ (aO (ag S hr rfl T.m_ao T.F_ao.kp T.B_ao .nil af (aa (vr 3) (aa (vr 5) ac)))) ⟨λC s H fp=>(bx (K:=K) (n:=3) rfl rfl (aq (ao (i:=0) (show List.Nodup (["many","left","its_left","taken","told","place","other"]:List Str) by decide +kernel) rfl (Or.inl rfl)) (aq (ao (i:=1) (show List.Nodup (["many","left","its_left","taken","told","place","other"]:List Str) by decide +kernel) rfl (Or.inl rfl)) (aq (ao (i:=2) (show List.Nodup (["many","left","its_left","taken","told","place","other"]:List Str) by decide +kernel) rfl (Or.inl rfl)) aJ)))),λC s H fp=>aL,λC s H fp=>(aE (aa (vr 0) (aa (ag b0 hr rfl T.m_z T.F_z.kp T.B_z .nil af (aa (aw nj (aN (aa (aE (aa (vr 5) (aa (vr 1) ac))) (aa (aE (aa (vr 6) (aa (vr 2) ac))) ac))) (dW (wG (K:=K) rfl) (vr 4) (eZ ah) eW)) (aa (vr 3) ac))) ac)))⟩) ac)))))))),si ?_⟩;intro ca cg co ck;cases hP with
  | nil =>
   refine⟨_,.inl ⟨_,SqL.of b,rfl⟩,?_⟩;intro x I hx j ap;have s0:Same H (upd (upd H I (.own x)) x (.ins a.c_s I [])):=gK hx j;refine⟨x,I,lk,tk,rfl,ae,.inl (s0 _ _ bd),by lia,λg t b' k h1 h2 h3=>⟨rfl,?_⟩⟩;have sm:=made hx j k;have hl:=h3.1.length_eq;exact q _ _ sm.t (hT.same sm) (.inl ⟨b',⟨x,I,t,rfl,h1,h2⟩,by lia,b9 _ h3.1⟩)
  | @cons r1 v1 tl1 xs1 g1 hP1 =>
   obtain⟨p,c⟩:=r1;have Z:n≠0:=aS (by simp);refine⟨_,.inl ⟨_,SqL.of b,rfl⟩,?_⟩;refine⟨_,.inl (SqL.of b),?_⟩;cases hP1 with
   | nil =>
    refine .inl ⟨lt,_,_,_,rfl,rfl,SqL.of b,ci 0 rfl rfl,?_⟩;exact⟨v1,.ref lk,p,c,n,ok,rfl,g1,Z,hT,q⟩
   | @cons r2 v2 tl2 xs2 g2 hP2 =>
    obtain⟨o,e⟩:=r2;obtain⟨q1,y1,rfl,b1,hc⟩:=g1;obtain⟨q2,y2,rfl,an,he⟩:=g2;refine .inl ⟨lt,_,_,_,rfl,rfl,SqL.of b,ci 0 rfl rfl,q1,_,rfl,SqT.of b1,rfl,_,_,rfl,_,_,rfl,rfl,?_⟩;refine .inl ⟨lt,_,_,_,rfl,rfl,SqL.of b,ci 1 rfl rfl,q2,_,rfl,SqT.of an,rfl,_,_,rfl,_,_,rfl,rfl,?_⟩;have w1:=Y _ (mem_cons_self ..);have w2:=Y _ (mem_cons_of_mem _ (mem_cons_self ..));refine⟨y1,y2,c,e,rfl,hc,he,⟨B,B0,by lia,w1.1,w2.1,w1.2,w2.2⟩,λH2 l p1 p2 x1 z1 x2 z2 s2 fl hl h1 h2 i1 i2 i3 i4=>?_⟩;refine .inl ⟨⟨_,SqL.of hl⟩,λD hD=>?_⟩;have bl:=hT.same s2;have bm:TabsOk (tabs a) (upd H2 D (.lst [])):=bl.same (Same.new hD);have ext:∀{g:Hp},TabsOk (tabs a) g->∀{d:List V}{ab:List V},g D=some (.lst d)->TabsOk (tabs a) (upd g D (.lst ab)):=λb5 d ab e=>b5.put (λps z=>by rw[e]at z;cases z) λφ z=>by rw[e]at z;cases z
    have ct:xs2.length<=6:=by have:=hP2.length;simp only[length_cons]at l6;lia
    let Pw1:PvL:=λi d g=>SameT H2 g/\TabsOk (tabs a) g/\g D=some (.lst d)/\d.length<=i/\∀ y∈d,DieR g y
    refine aK (K:=K) (a:=l) (xs:=[.ref p1,.ref p2]) Pw1
     ⟨(Same.new hD).t,bm,ae,Nat.zero_le _,λy hy=>by cases hy⟩ (λi d g h=>SqL.of (h.1.at hl)) (λi d g h=>h.2.2.1) ?_ ?_
    .rintro i y d g P' hy ⟨W,M,u,hi,F⟩ bN
     obtain⟨m,pp,xl,zl,rfl,hpp⟩:∃(m:Int) (pp:Addr) (xl zl:V),y=.ref pp/\H2 pp=some (.tup [.int m,xl,zl]):=by
      match i,hy with
      | 0,hy=>cases hy;exact⟨_,p1,x1,z1,rfl,h1⟩
      | 1,hy=>cases hy;exact⟨_,p2,x2,z2,rfl,h2⟩
     have cj:i<2:=(List.getElem?_eq_some_iff.mp hy).1;have as:=s2.t.trans W;refine⟨pp,_,rfl,SqT.of (W.at hpp),rfl,_,_,rfl,_,_,rfl,_,_,rfl,rfl,⟨rfl,rfl,rfl,rfl,trivial⟩,?_⟩;refine⟨cb _ _,λa1 ad=>?_⟩;have u1:=Same.new (o:=.tup [.int p,xl]) ad;refine⟨cb _ _,λa2 b4=>?_⟩;have u2:=Same.new (o:=.tup [.int o,zl]) b4;refine⟨cb _ _,λa3 a0=>?_⟩;have u3:=Same.new (o:=.lst [.ref a1,.ref a2]) a0;have R:=u1.trans (u2.trans u3);refine⟨_,rfl,.inl ⟨_,SqL.of (R _ _ (as.at b)),λa4 a'=>?_⟩⟩;have u4:=Same.new (o:=.lst (eG (.ref q1::.ref q2::xs2) (some 2) none)) a';have X:eG (.ref q1::.ref q2::xs2) (some 2) none=xs2:=kz _ 2;refine⟨a3,a4,_,_,rfl,rfl,u4 _ _ ae,ae,by rw[X];show 2+xs2.length<=sizeLine;lia,λa5 a9=>?_⟩;have u5:=Same.new (o:=.lst ([.ref a1,.ref a2]++eG (.ref q1::.ref q2::xs2) (some 2) none)) a9;have v:=R.trans (u4.trans u5);refine⟨.ref a5,.ref lk,rfl,M.same v,λH9 f t9 bo=>?_⟩;refine⟨cb _ _,λa6 r=>?_⟩;have u6:=Same.new (o:=.tup [.int m,f]) r;have O:=v.t.trans (t9.trans u6.t);have G:=O.at u;have a7:a6≠D:=λz=>by rw[z]at r;rw[(v.t.trans t9).at u]at r;cases r
     refine⟨G,by lia,bN _ _ ⟨(W.trans O).put hD,ext (bo.same u6) G,ae,by rw[length_append];show d.length+1<=i+1;lia,λy hy=>?_⟩⟩
     rcases mem_append.mp hy with hy | hy
     .obtain⟨q7,m7,f7,rfl,h7⟩:=F y hy
      exact⟨q7,m7,f7,rfl,wm G (O.at h7) (λd z=>nomatch z)⟩
     .rw[mem_singleton.mp hy]
      exact⟨a6,m,f,rfl,by rw[ar a7];exact ae⟩
    .rintro d g ⟨W,M,u,hi,F⟩
     intro x I hx j ap;refine⟨x,I,D,d,rfl,ae,gK hx j _ _ u,λH7 l7 g3 k g1 g2=>⟨rfl,?_⟩⟩;have s7:=made hx j k;have hi:d.length<=2:=hi;exact q _ _ (s2.t.trans (W.trans s7.t)) (M.same s7) (.inr ⟨Z,x,I,l7,d,rfl,g1,g2,by lia,λy hy=>(F y hy).n (aZ s7.t)⟩)
theorem rR(T:Txt K mg a)(hB:Bm mg base):FnOk P w K mg base CX0 5 a.f_aI a.d_aI ["told","taken"] (spSett K a):=by
 have X:FnOk P w K mg base CX0 4 _ _ _ (spOpen K a):=xW T hB;have ab:FnOk P w K mg base CX0 4 _ _ _ _:=(rG T).mono (by decide);refine T.F_aI.ok sc_aI (λvs H Q E h=>?_) (λcdv A outer s H vs Q E hr h=>?_)
 .obtain⟨la,lt,xs,L,B,rfl,_⟩:=h;rfl
 .obtain⟨lt,lk,ps,b,B,rfl,F,hP,t6,B0,B1,as,ad,hT,q⟩:=h
  have an:sizeLine=16777216:=sizeLine_eq;have a0:b.length<=24:=by lia
  refine⟨_,(ai (fA rfl (i:=2) sc_aI.nd rfl rfl (by with_unfolding_all rfl) (N:=["place","chance"]) (ix:=[none,none]) ⟨rfl,rfl,rfl,rfl,trivial⟩ (aO (vr 0)) ⟨λC s H Z=>(bx (K:=K) (n:=2) rfl rfl (aq (ao (i:=0) (show List.Nodup (["place","chance"]:List Str) by decide +kernel) rfl (Or.inl rfl)) (aq (ao (i:=1) (show List.Nodup (["place","chance"]:List Str) by decide +kernel) rfl (Or.inl rfl)) aJ))),λC s H Z=>iU (aT (vL (K:=K) rfl hr.units) (vr 1) (bE rfl T.g_WHOLE) (aG _)),λC s H Z=>(vr 0)⟩) (aj (au (ag X hr rfl T.m_au T.F_au.kp T.B_au .nil af (aa (aP rfl (N:=["place","chance"]) (ix:=[none,none]) ⟨rfl,rfl,rfl,rfl,trivial⟩ (aO (vr 0)) ⟨λC s H Z=>(bx (K:=K) (n:=2) rfl rfl (aq (ao (i:=0) (show List.Nodup (["place","chance"]:List Str) by decide +kernel) rfl (Or.inl rfl)) (aq (ao (i:=1) (show List.Nodup (["place","chance"]:List Str) by decide +kernel) rfl (Or.inl rfl)) aJ))),λC s H Z=>iU (dS (ag ab hr rfl T.m_aq T.F_aq.kp T.B_aq .nil af (aa (vr 1) ac))),λC s H Z=>(aE (aa (vr 0) (aa (vr 1) ac)))⟩) (aa (aw nj (vr 1) (vr 2)) ac)))))),eE ?_⟩;intro a1;refine .inl ⟨⟨_,SqL.of F⟩,λD hD=>?_⟩
  let Pw2:PvL:=λi m I=>Same H I/\I D=some (.lst m)/\i<=b.length/\m=(((b.take i).filter λx=>decide (x.2=(1,1))).map (·.1)).map V.int
  refine aK (K:=K) (a:=lt) (xs:=ps) Pw2 ⟨Same.new hD,ae,Nat.zero_le _,rfl⟩ (λi ys I h=>SqL.of (h.1 _ _ F)) (λi ys I h=>h.2.1) ?_ ?_
  .rintro i y m I P' hy ⟨s1,d,hi,rfl⟩ l
   obtain⟨⟨p,c⟩,e,q1,yc,rfl,O,hc⟩:=aM hP hy;have j:i<b.length:=(List.getElem?_eq_some_iff.mp e).1;refine⟨q1,_,rfl,SqT.of (s1 _ _ O),rfl,_,_,rfl,_,_,rfl,rfl,?_⟩;obtain⟨pc,rfl,ap⟩:=hc.same s1;refine⟨trivial,.tuple [.int c.1,.int c.2],.tuple [.int 1,.int 1],iX ap.sq,iX (lV T.t_WHOLE),gj _ _,gj _ _,?_⟩;rw[j4];refine ifC (λhh=>?_) λhh=>?_
   .have hw:decide (c=(1,1))=true:=decide_eq_true (show c=(1,1) from hh)
    refine⟨d,?_,l _ _ ⟨s1.put hD,ae,j,?_⟩⟩
    .rw[length_map,length_map]
     have:=length_filter_le (λx:Int×(Int×Int)=>decide (x.2=(1,1))) (b.take i);rw[length_take]at *;lia
    .rw[take_add_one,e,filter_append,map_append,map_append]
     congr 1
     show _=(([(p,c)].filter λx:Int×(Int×Int)=>decide (x.2=(1,1))).map (·.1)).map V.int;rw[filter_cons_of_pos (by exact hw)];rfl
   .have hw:¬decide (c=(1,1))=true:=λz=>hh (of_decide_eq_true z)
    refine l _ _ ⟨s1,d,j,?_⟩;rw[take_add_one,e,filter_append];show _=(((_++[(p,c)].filter λx:Int×(Int×Int)=>decide (x.2=(1,1)))).map (·.1)).map V.int;rw[filter_cons_of_neg (by exact hw)];simp
  .rintro m I ⟨s4,d,_,rfl⟩
   rw[show ps.length=b.length from hP.length.symm,take_length]at d;have d:I D=some (.lst ((iD b).map V.int)):=d;refine .inl ⟨⟨_,SqL.of (s4 _ _ F)⟩,λD2 W=>?_⟩
   let Pw3:PvL:=λi m G=>Same I G/\G D2=some (.lst m)/\i<=b.length/\Paired (PrAt K G) ((b.take i).filter λx=>uns x.2) m
   refine aK (K:=K) (a:=lt) (xs:=ps) Pw3 ⟨Same.new W,ae,Nat.zero_le _,.nil⟩ (λi ys G h=>SqL.of (h.1 _ _ (s4 _ _ F))) (λi ys G h=>h.2.1) ?_ ?_
   .rintro i y m G P' hy ⟨S,u,hi,g⟩ l
    obtain⟨⟨p,c⟩,e,q1,yc,rfl,O,hc⟩:=aM hP hy;have j:i<b.length:=(List.getElem?_eq_some_iff.mp e).1;have f:=s4.trans S;refine⟨q1,_,rfl,SqT.of (f _ _ O),rfl,_,_,rfl,_,_,rfl,rfl,trivial,?_⟩;refine⟨yc,c,rfl,hc.same f,?_⟩
    have zl:m.length<=24:=by
     rw[<- g.length];have:=length_filter_le (λx:Int×(Int×Int)=>uns x.2) (b.take i);rw[length_take]at *;lia
    refine ifB (λhu=>?_) λhu=>?_
    .refine⟨cb _ _,λq3 f3=>?_⟩
     have M:=Same.new (o:=.tup [.int p,yc]) f3;have R:=M _ _ u;refine⟨R,by lia,l _ _ ⟨(S.trans M).put W,ae,j,?_⟩⟩;rw[take_add_one,e,filter_append];refine jD ?_ (aC (λx v h=>PrAt.put R _ _ (PrAt.n (aZ M.t) _ _ h)) g);show Paired _ ([(p,c)].filter λx:Int×(Int×Int)=>uns x.2) _;rw[filter_cons_of_pos (by exact hu)];exact .cons (PrAt.put R _ _ ⟨q3,yc,rfl,ae,hc.same (f.trans M)⟩) .nil
    .refine l _ _ ⟨S,u,j,?_⟩
     rw[take_add_one,e,filter_append];show Paired _ (_++[(p,c)].filter λx:Int×(Int×Int)=>uns x.2) _;rw[filter_cons_of_neg (by rw[hu];decide)];simpa using g
   .rintro m G ⟨S,u,_,g⟩
    rw[show ps.length=b.length from hP.length.symm,take_length]at g;have f:=s4.trans S;have fl:(b.filter λx=>decide (x.2=(1,1))).length<=b.length:=length_filter_le _ _;have aS:G D=some (.lst ((iD b).map V.int)):=S _ _ d;have sl:(iD b).length<=b.length:=by unfold iD;rw[length_map];exact fl
    refine⟨lk,D,_,_,rfl,rfl,f _ _ ad,aS,by rw[length_map,length_nil];lia,λr fr=>?_⟩;rw[nil_append];have M:=Same.new (o:=.lst ((iD b).map V.int)) fr;have Y:=f.trans M;refine⟨D2,r,m,sr b,iD b,B,b.length,okS (b.map (·.1)),rfl,M _ _ u,aC (PrAt.n (aZ M.t)) g,?_,B0,B1,λx hx=>?_,ae,by lia,sl,λz=>?_,λns hns=>⟨_,qC b,hns⟩,hT.same Y,λH4 v' t4 hT4 nd=>q _ _ (Y.t.trans t4) hT4 nd⟩
    .have:(sr b).length<=b.length:=length_filter_le _ _
     lia
    .obtain⟨h1,h2⟩:=mem_filter.mp hx
     exact⟨as x h1,h2⟩
    .cases b with
     | nil=>exact absurd rfl z
     | cons=>simp
def okN(pl:Pl)(ms:List Mb)(ns:List Int):Prop:=ir pl=true->okS (plc ms) ns
inductive spNode(a:Ad)(N:Nat)(c:Pl->Bool)(vs:List V)(H:Hp)(Q:VK)(_E:XK):Prop
 | mk(v:V)(pl:Pl)(l:Addr)(xs:List V)(ms:List Mb)(h0:vs=[v,.ref l])(h1:c pl=true)(h2:okP N pl)(h3:IsPn a H v pl)(h4:H l=some (.lst xs))(h5:CrAt H ms xs)(h6:Ck (aI pl) ms)(h7:TabsOk (tabs a) H)(h8:nJ a ms.length (okN pl ms) H Q):spNode a N c vs H Q _E
theorem NdW.ok{a:Ad}{n:Nat}{c b:List Int->Prop}{H:Hp}{v:V}(h:NdW a n c H v)(k:∀ ns,c ns->b ns):NdW a n b H v:=h.imp (λ⟨ns,f,e,d⟩=>⟨ns,f,e,k ns d⟩) id
theorem j0(a:List Mb):(plc a).length=a.length:=by unfold Nst.plc;rw[length_map]
end
open Nst (Mb plc szs hd tl dr groups aW parts outer aX bq bz)
def lsL(ms:List Mb)(m:Nat):Tl:=(plc ms).zip (due (szs ms) (m:Nat))
theorem oO(a:List Mb)(m:Nat):(lsL a m).map (·.1)=plc a:=by
 unfold lsL;exact List.map_fst_zip (by rw[dL];unfold Nst.plc Nst.szs;rw[length_map,length_map];exact Nat.le_refl _)
theorem pq(a:List Mb)(m:Nat):(lsL a m).length=a.length:=by rw[<- j0 a,<- oO a m,length_map]
section
variable {P:Program}{w:World}{K:Frag}{mg:Str->Option Value}{base:Heap}{a:Ad}
theorem lI(T:Txt K mg a)(W:Bm mg base)(N:Nat):FnOk P w K mg base CX0 4 a.x_ad a.y_ad ["self","crowd"] (spNode a N jn):=by
 have u:FnOk P w K mg base CX0 3 _ _ _ (spFN a):=AR T W;have b:FnOk P w K mg base CX0 3 _ _ _ _:=(jh T).mono (by decide);refine T.F_ad.ok qt (λI H Q E h=>?_) (λcdv A outer s H I Q E hr h=>?_)
 .obtain⟨v,e,l,B,d,rfl,_⟩:=h;rfl
 .obtain⟨v,e,l,B,d,rfl,M,ho,Y,Z,L,G,O,q⟩:=h
  cases e with
  | few m =>
   obtain⟨x,R,rfl,hx⟩:=Y;have f:sizeLine=16777216:=sizeLine_eq;have m6:=G.len;have e:=j0 d;refine⟨_,(aj (au (ag u hr rfl T.m_P T.F_P.kp T.B_P .nil af (aa (ag b hr rfl T.m_ag T.F_ag.kp T.B_ag .nil af (aa (vr 1) ac)) (aa (aA (vr 0) rfl) (aa (aN ac) ac)))))),?_⟩;refine⟨l,B,d,rfl,Z,L,by lia,λC r y S i=>?_⟩;refine⟨x,_,R,_,_,rfl,y _ _ hx,T.cl_Q,T.na_Few_many,rfl,?_⟩;refine⟨Nat.zero_le _,λp ft=>?_⟩;have j:=Same.new (o:=.lst []) ft;have D:=ae (H:=C) (a:=p) (o:=.lst []);generalize upd C p (.lst [])=H2 at j D;have c:=y.trans j;exact⟨r,p,plc d,m,rfl,j _ _ i,D,by lia,O.same c,λH' v' X g F=>q _ _ (c.t.trans X) g (by rw[e]at F;exact F.ok λns h _=>h)⟩
  | _=>cases M
theorem ji(T:Txt K mg a)(hB:Bm mg base)(N:Nat):FnOk P w K mg base CX0 4 a.x_I a.y_I ["self","crowd"] (spNode a N dR):=by
 have ab:FnOk P w K mg base CX0 3 _ _ _ _:=(jh T).mono (by decide);have a0:FnOk P w K mg base CX0 3 _ _ _ _:=(Bl T hB).mono (by decide);have a3:FnOk P w K mg base CX0 2 _ _ _ _:=(j8 T).mono (by decide);have aS:FnOk P w K mg base CX0 2 _ _ _ _:=(kG T).mono (by decide);refine T.F_I.ok sc_I (λvs H Q E h=>?_) (λcdv A outer s H vs Q E hr h=>?_)
 .obtain⟨v,pl,l,xs,S,rfl,_⟩:=h;rfl
 .obtain⟨v,pl,l,xs,S,rfl,hk,ho,hp,hl,hc,hC,hT,q⟩:=h
  cases pl with
  | start m =>
   obtain⟨x,dx,rfl,hx⟩:=hp;have as:sizeLine=16777216:=sizeLine_eq;have m6:=hC.len;have pl:=j0 S;refine⟨_,(ai (ax (i:=2) sc_I.nd rfl (Or.inr rfl) (ag ab hr rfl T.m_ag T.F_ag.kp T.B_ag .nil af (aa (vr 1) ac))) (ai (ax (i:=3) sc_I.nd rfl (Or.inr rfl) (aA (vr 0) rfl)) (ai (aR (PW.pt (qp (aT eC (vr 3) ah (aG _)) (mK (dP (fV (vr 2) (λ_=>rfl)))))) (aj (au (bS T.mk_s a3 hr rfl T.mc_s T.Bi_s .nil af (aa (vr 2) ac)))) aD) (aj (au (bS T.mk_G aS hr rfl T.mc_G T.Bi_G .nil af (aa (aP rfl (N:=["first","places","step"]) (ix:=[none,some 2,some 3]) ⟨rfl,rfl,rfl,rfl,⟨rfl,rfl,rfl,⟨rfl,rfl,rfl,trivial⟩⟩⟩ (eP rfl T.z_range (aa (vr 3) ac)) ⟨λC s H fp=>ao (i:=0) (show List.Nodup (["first","places","step"]:List Str) by decide +kernel) rfl (Or.inl rfl),λC s H fp=>aL,λC s H fp=>(aE (aa ah (aa (ag a0 hr rfl T.m_E T.F_E.kp T.B_E .nil af (aa (vr 1) (aa (vr 2) (aa (vr 0) ac)))) ac)))⟩) ac))))))),pO ?_⟩;intro a5 a6 a8;refine⟨l,xs,S,rfl,hl,hc,by lia,λH1 r s1 a7 F=>?_⟩
   have ho:1<=m/\m<=100:=by cases N <;> exact ho
   refine⟨x,_,dx,_,_,rfl,s1 _ _ hx,T.cl_o,T.na_Start_step,rfl,?_⟩;have a1:=hT.same s1;have q:∀ d u,SameT H d->TabsOk (tabs a) d->NdW a (plc S).length (okS (plc S)) d u->Q u d:=λd u s B nd=>q _ _ s B (by rw[pl]at nd;exact nd.ok λns h _=>h)
   generalize plc S=places at F q pl;refine ifC (λc=>?_) λc=>?_
   .intro I g p b ad
    refine⟨I,g,r,places,rfl,ae,.inl (gK p b _ _ F),by lia,λd t R k h1 h2 X=>⟨rfl,?_⟩⟩;have Y:=s1.trans (made p b k);exact q _ _ Y.t (hT.same Y) (.inl ⟨R,⟨I,g,t,rfl,h1,h2⟩,by rw[X.1.length_eq];exact Nat.le_refl _,places,List.Sublist.refl _,X.1⟩)
   cases hpe:places with
   | nil =>
    rw[hpe]at F q;refine⟨_,.inl ⟨_,SqL.of F,rfl⟩,?_⟩;intro I g p b ad;refine⟨I,g,r,[],rfl,ae,.inl (gK p b _ _ F),by decide,λd t R k h1 h2 X=>⟨rfl,?_⟩⟩;have Y:=s1.trans (made p b k);exact q _ _ Y.t (hT.same Y) (.inl ⟨R,⟨I,g,t,rfl,h1,h2⟩,by rw[X.1.length_eq];exact Nat.le_refl _,[],List.Sublist.refl _,X.1⟩)
   | cons p0 pr =>
    refine⟨_,.inl ⟨_,SqL.of (by rw[hpe]at F;exact F),rfl⟩,?_⟩;refine⟨(m:Int),rfl,by lia,by lia,λD hD=>?_⟩;have ap:TabsOk (tabs a) (upd H1 D (.lst [])):=a1.same (Same.new hD);have ext:∀{d:Hp},TabsOk (tabs a) d->∀{G:List V}{Z:List V},d D=some (.lst G)->TabsOk (tabs a) (upd d D (.lst Z)):=λB G Z e=>B.put (λps z=>by rw[e]at z;cases z) λφ z=>by rw[e]at z;cases z
    let Pw1:PvL:=λj G d=>j<=m/\SameT H1 d/\TabsOk (tabs a) d/\d D=some (.lst G)/\G.length=j/\∀ y∈G,DieR d y
    refine j7 (lo:=0) (n:=m) Pw1 ⟨Nat.zero_le _,(Same.new hD).t,ap,ae,rfl,λy hy=>by cases hy⟩ (λj G d h=>h.2.2.2.1) ?_ ?_
    .rintro j G d P' hj ⟨_,t1,B,L,yl,hP⟩ a2
     refine⟨⟨rfl,rfl,trivial⟩,_,_,_,rfl,B,λH2 f t2 an=>?_⟩;refine⟨cb _ _,λp1 M=>?_⟩;have s3:=Same.new (o:=.tup [.int 1,f]) M;have W:=t2.at L;have O:=s3 _ _ W;have n1:p1≠D:=λz=>by rw[z,W]at M;cases M
     refine⟨O,by lia,a2 _ _ ⟨hj,((t1.trans t2).trans s3.t).put hD,ext (an.same s3) O,ae,by rw[length_append,yl];rfl,λy hy=>?_⟩⟩
     rcases mem_append.mp hy with hy | hy
     .obtain⟨q7,m7,f7,rfl,h7⟩:=hP y hy
      exact⟨q7,m7,f7,rfl,wm O ((t2.trans s3.t).at h7) (λG z=>nomatch z)⟩
     .rw[mem_singleton.mp hy]
      exact⟨p1,1,f,rfl,by rw[ar n1];exact ae⟩
    .rintro G d ⟨_,t1,B,L,yl,hP⟩
     intro I g p b a4;refine⟨I,g,D,G,rfl,ae,gK p b _ _ L,λH2 l' gl k g1 g2=>⟨rfl,?_⟩⟩;have s2:=made p b k;exact q _ _ (s1.t.trans (t1.trans s2.t)) (B.same s2) (.inr ⟨by rw[hpe];simp,I,g,l',G,rfl,g1,g2,by lia,λy hy=>(hP y hy).n (aZ s2.t)⟩)
  | _=>cases hk
theorem jJ(T:Txt K mg a)(hB:Bm mg base)(N:Nat):FnOk P w K mg base CX0 6 a.x_W a.y_W ["self","crowd"] (spNode a N fw):=by
 have d:FnOk P w K mg base CX0 5 _ _ _ _:=(jh T).mono (by decide);have L:FnOk P w K mg base CX0 5 _ _ _ (spWBy K):=mP T;have e:FnOk P w K mg base CX0 5 _ _ _ (spSett K a):=rR T hB;refine T.F_W.ok oQ (λvs H Q E h=>?_) (λcdv A outer s H vs Q E hr h=>?_)
 .obtain⟨v,i,l,M,b,rfl,_⟩:=h;rfl
 .obtain⟨v,i,l,M,b,rfl,hk,O,hp,Z,W,p,hT,q⟩:=h
  cases i with
  | duel m =>
   obtain⟨x,dx,rfl,S⟩:=hp;have C:sizeLine=16777216:=sizeLine_eq;have m6:=p.len;have i:=j0 b;refine⟨_,(aj (au (ag e hr rfl T.m_aI T.F_aI.kp T.B_aI .nil af (aa (mY rfl rfl T.z_list rfl T.z_zip (aa (ag d hr rfl T.m_ag T.F_ag.kp T.B_ag .nil af (aa (vr 1) ac)) (aa (ag L hr rfl T.m_Z T.F_Z.kp T.B_Z .nil af (aa (vr 1) (aa (aA (vr 0) rfl) ac))) ac))) (aa (aN ac) ac))))),?_⟩;refine⟨l,M,b,rfl,Z,W,by lia,λH1 r g ab I=>?_⟩
   have O:m<=24:=by cases N <;> exact O
   refine⟨x,_,dx,_,_,rfl,g _ _ S,T.cl_A,T.na_Duel_many,rfl,?_⟩;refine⟨l,M,b,(m:Nat),rfl,g _ _ Z,W.tk g.tk,ni p,by lia,by lia,λH2 w' ys s2 ad hw hF=>?_⟩;have Y:(szs b).length=b.length:=by unfold Nst.szs;rw[length_map]
   have yl:ys.length=b.length:=by rw[<- hF.len,dL,Y]
   refine⟨r,w',_,_,rfl,s2 _ _ I,hw,by rw[length_map];lia,by rw[length_map];lia,λH3 lt ps X an D c j=>?_⟩;rw[length_map]at c;have hP:Paired (PrAt K H3) (lsL b m) ps:=mF (by rw[i,dL,Y]) c (hF.same X) j;have y:=g.trans (s2.trans X);obtain⟨B,qs,B0,B1,_,_,_,G⟩:=qU p O;refine⟨Nat.zero_le _,λlk F=>?_⟩;have R:=Same.new (o:=.lst []) F;have f:=y.trans R;refine⟨lt,lk,ps,lsL b m,(B:Int),rfl,R _ _ D,aC (PrAt.n (aZ R.t)) hP,by rw[pq];exact m6,by lia,by lia,λx S=>G _ (of_mem_zip S).2,ae,hT.same f,λH5 u t5 hT5 n5=>q _ _ (f.t.trans t5) hT5 ?_⟩;rw[pq,oO]at n5;exact n5.ok λns h _=>h
  | _=>cases hk
theorem iZ(T:Txt K mg a)(hB:Bm mg base)(N:Nat):FnOk P w K mg base CX0 6 a.x_J a.y_J ["self","crowd"] (spNode a N dQ):=by
 have ad:FnOk P w K mg base CX0 5 _ _ _ _:=(jh T).mono (by decide);have a2:FnOk P w K mg base CX0 5 _ _ _ (spWBy K):=mP T;have an:FnOk P w K mg base CX0 5 _ _ _ _:=(rG T).mono (by decide);have a1:FnOk P w K mg base CX0 5 _ _ _ _:=(Am T hB).mono (by decide);refine T.F_J.ok sc_J (λvs H Q E h=>?_) (λcdv A outer s H vs Q E hr h=>?_)
 .obtain⟨v,pl,l,xs,e,rfl,_⟩:=h;rfl
 .obtain⟨v,pl,l,xs,e,rfl,hk,ho,hp,hl,S,hC,hT,q⟩:=h
  cases pl with
  | loose m =>
   obtain⟨x,dx,rfl,hx⟩:=hp;have a3:sizeLine=16777216:=sizeLine_eq;have m6:=hC.len;have pl:=j0 e;refine⟨_,(ai (ax (i:=2) sc_J.nd rfl (Or.inl rfl) (mY rfl rfl T.z_list rfl T.z_zip (aa (ag ad hr rfl T.m_ag T.F_ag.kp T.B_ag .nil af (aa (vr 1) ac)) (aa (ag a2 hr rfl T.m_Z T.F_Z.kp T.B_Z .nil af (aa (vr 1) (aa (aA (vr 0) rfl) ac))) ac)))) (ai (fA rfl (i:=3) sc_J.nd rfl rfl (by with_unfolding_all rfl) (N:=["place","chance"]) (ix:=[none,none]) ⟨rfl,rfl,rfl,rfl,trivial⟩ (aO (vr 2)) ⟨λC s H fp=>(bx (K:=K) (n:=2) rfl rfl (aq (ao (i:=0) (show List.Nodup (["place","chance"]:List Str) by decide +kernel) rfl (Or.inl rfl)) (aq (ao (i:=1) (show List.Nodup (["place","chance"]:List Str) by decide +kernel) rfl (Or.inl rfl)) aJ))),λC s H fp=>iU (aT (vL (K:=K) rfl hr.units) (vr 1) (bE rfl T.g_WHOLE) (aG _)),λC s H fp=>(vr 0)⟩) (aj (au (ag a1 hr rfl T.m_C T.F_C.kp T.B_C .nil af (aa (aP rfl (N:=["place","chance"]) (ix:=[none,none]) ⟨rfl,rfl,rfl,rfl,trivial⟩ (aO (vr 2)) ⟨λC s H fp=>(bx (K:=K) (n:=2) rfl rfl (aq (ao (i:=0) (show List.Nodup (["place","chance"]:List Str) by decide +kernel) rfl (Or.inl rfl)) (aq (ao (i:=1) (show List.Nodup (["place","chance"]:List Str) by decide +kernel) rfl (Or.inl rfl)) aJ))),λC s H fp=>iU (dS (ag an hr rfl T.m_aq T.F_aq.kp T.B_aq .nil af (aa (vr 1) ac))),λC s H fp=>(aE (aa (vr 0) (aa (vr 1) ac)))⟩) (aa (vr 3) ac))))))),il ?_⟩;intro a8 a7;refine⟨l,xs,e,rfl,hl,S,by lia,λH1 r G a5 a0=>?_⟩
   have ho:m<=24:=by cases N <;> exact ho
   refine⟨x,_,dx,_,_,rfl,G _ _ hx,T.cl_p,T.na_Loose_many,rfl,?_⟩;refine⟨l,xs,e,(m:Nat),rfl,G _ _ hl,S.tk G.tk,ni hC,by lia,by lia,λR w' ys s2 a6 hw hF=>?_⟩;have sl:(szs e).length=e.length:=by unfold Nst.szs;rw[length_map]
   have yl:ys.length=e.length:=by rw[<- hF.len,dL,sl]
   refine⟨r,w',_,_,rfl,s2 _ _ a0,hw,by rw[length_map];lia,by rw[length_map];lia,λH3 lt ps s3 a9 B I as=>?_⟩;rw[length_map]at I;have hP:Paired (PrAt K H3) (lsL e m) ps:=mF (by rw[pl,dL,sl]) I (hF.same s3) as;have aS:=G.trans (s2.trans s3);have L:=oO e m;have O:=pq e m;generalize lsL e m=tl at hP L O;refine .inl ⟨⟨_,SqL.of B⟩,λD hD=>?_⟩
   let Pw2:PvL:=λi u M=>Same H3 M/\M D=some (.lst u)/\i<=tl.length/\u=(((tl.take i).filter λx=>decide (x.2=(1,1))).map (·.1)).map V.int
   refine aK (K:=K) (a:=lt) (xs:=ps) Pw2 ⟨Same.new hD,ae,Nat.zero_le _,rfl⟩ (λi ys M h=>SqL.of (h.1 _ _ B)) (λi ys M h=>h.2.1) ?_ ?_
   .rintro i y u M P' hy ⟨G,d,hi,rfl⟩ j
    obtain⟨⟨p,c⟩,b,q1,yc,rfl,X,S⟩:=aM hP hy;have g:i<tl.length:=(List.getElem?_eq_some_iff.mp b).1;refine⟨q1,_,rfl,SqT.of (G _ _ X),rfl,_,_,rfl,_,_,rfl,rfl,?_⟩;obtain⟨pc,rfl,a4⟩:=S.same G;refine⟨trivial,.tuple [.int c.1,.int c.2],.tuple [.int 1,.int 1],iX a4.sq,iX (lV T.t_WHOLE),gj _ _,gj _ _,?_⟩;rw[j4];refine ifC (λhh=>?_) λhh=>?_
    .have hw:decide (c=(1,1))=true:=decide_eq_true (show c=(1,1) from hh)
     refine⟨d,?_,j _ _ ⟨G.put hD,ae,g,?_⟩⟩
     .rw[length_map,length_map]
      have:=length_filter_le (λx:Int×(Int×Int)=>decide (x.2=(1,1))) (tl.take i);rw[length_take]at *;lia
     .rw[take_add_one,b,filter_append,map_append,map_append]
      congr 1
      show _=(([(p,c)].filter λx:Int×(Int×Int)=>decide (x.2=(1,1))).map (·.1)).map V.int;rw[filter_cons_of_pos (by exact hw)];rfl
    .have hw:¬decide (c=(1,1))=true:=λz=>hh (of_decide_eq_true z)
     refine j _ _ ⟨G,d,g,?_⟩;rw[take_add_one,b,filter_append];show _=(((_++[(p,c)].filter λx:Int×(Int×Int)=>decide (x.2=(1,1)))).map (·.1)).map V.int;rw[filter_cons_of_neg (by exact hw)];simp
   .rintro u M ⟨s4,d,_,rfl⟩
    rw[show ps.length=tl.length from hP.length.symm,take_length]at d;have d:M D=some (.lst ((iD tl).map V.int)):=d;refine .inl ⟨⟨_,SqL.of (s4 _ _ B)⟩,λD2 ab=>?_⟩
    let Pw3:PvL:=λi u R=>Same M R/\R D2=some (.lst u)/\i<=tl.length/\Paired (PrAt K R) ((tl.take i).filter λx=>uns x.2) u
    refine aK (K:=K) (a:=lt) (xs:=ps) Pw3 ⟨Same.new ab,ae,Nat.zero_le _,.nil⟩ (λi ys R h=>SqL.of (h.1 _ _ (s4 _ _ B))) (λi ys R h=>h.2.1) ?_ ?_
    .rintro i y u R P' hy ⟨Z,F,hi,f⟩ j
     obtain⟨⟨p,c⟩,b,q1,yc,rfl,X,S⟩:=aM hP hy;have g:i<tl.length:=(List.getElem?_eq_some_iff.mp b).1;have W:=s4.trans Z;refine⟨q1,_,rfl,SqT.of (W _ _ X),rfl,_,_,rfl,_,_,rfl,rfl,trivial,?_⟩;refine⟨yc,c,rfl,S.same W,?_⟩
     have zl:u.length<=24:=by
      rw[<- f.length];have:=length_filter_le (λx:Int×(Int×Int)=>uns x.2) (tl.take i);rw[length_take]at *;lia
     refine ifB (λhu=>?_) λhu=>?_
     .refine⟨cb _ _,λq3 f3=>?_⟩
      have s6:=Same.new (o:=.tup [.int p,yc]) f3;have Y:=s6 _ _ F;refine⟨Y,by lia,j _ _ ⟨(Z.trans s6).put ab,ae,g,?_⟩⟩;rw[take_add_one,b,filter_append];refine jD ?_ (aC (λx v h=>PrAt.put Y _ _ (PrAt.n (aZ s6.t) _ _ h)) f);show Paired _ ([(p,c)].filter λx:Int×(Int×Int)=>uns x.2) _;rw[filter_cons_of_pos (by exact hu)];exact .cons (PrAt.put Y _ _ ⟨q3,yc,rfl,ae,S.same (W.trans s6)⟩) .nil
     .refine j _ _ ⟨Z,F,g,?_⟩
      rw[take_add_one,b,filter_append];show Paired _ (_++[(p,c)].filter λx:Int×(Int×Int)=>uns x.2) _;rw[filter_cons_of_neg (by rw[hu];decide)];simpa using f
    .rintro u R ⟨Z,F,_,f⟩
     rw[show ps.length=tl.length from hP.length.symm,take_length]at f;have ap:=aS.trans (s4.trans Z);have a':(iD tl).length<=tl.length:=by unfold iD;rw[length_map];exact length_filter_le _ _
     refine⟨D2,D,u,sr tl,iD tl,e.length,okS (plc e),rfl,F,f,Z _ _ d,by lia,by lia,λz=>?_,λns hns=>⟨_,by rw[<- L];exact qC tl,hns⟩,hT.same ap,λH4 v' t4 hT4 nd=>q _ _ (ap.t.trans t4) hT4 (nd.ok λns h _=>h)⟩;rw[<- O];cases tl with
     | nil=>exact absurd rfl z
     | cons=>simp
  | _=>cases hk
end
open Nst (Mb plc szs hd tl dr groups aW parts outer aX bq bz)
abbrev fvG:List Str:=["taken","plan","groups"]
abbrev fvF:List Str:=["inside","groups"]
theorem lsG:LamScope cx fvG ["kept"]:=⟨rfl,rfl,rfl,by decide +kernel,by decide +kernel,by decide +kernel,by decide +kernel,by decide +kernel⟩
theorem lsF:LamScope bC fvF ["kept"]:=⟨rfl,rfl,rfl,by decide +kernel,by decide +kernel,by decide +kernel,by decide +kernel,by decide +kernel⟩
def tot(gs:List (List Mb)):Nat:=(gs.map List.length).sum
def sel(gs:List (List Mb))(ks:List Int):List (List Mb):=ks.map λk=>gs.getD k.toNat []
theorem qw(c:List Mb)(a:List (List Mb)):tot (c::a)=c.length+tot a:=by unfold tot;rw[map_cons,sum_cons]
theorem NdW.up{a:Ad}{n m:Nat}{c:List Int->Prop}{H:Hp}{v:V}(f:n<=m)(h:NdW a n c H v):NdW a m c H v:=h.imp (λ⟨g,d,b,e⟩=>⟨g,d,Nat.le_trans b f,e⟩) λ⟨d,b⟩=>⟨by lia,b⟩
abbrev tru:List Int->Prop:=λ_=>True
def sf(a:Ad):Sp:=λvs H Q _=>∃ u v,vs=[u,v]/\TabsOk (tabs a) H/\∀ H' f,SameT H H'->TabsOk (tabs a) H'->Q f H'
def oo(a:Ad):Sp:=λvs H Q _=>∃ v cr,vs=[v,cr]/\IsD a H v/\TabsOk (tabs a) H/\∀ H' u,SameT H H'->TabsOk (tabs a) H'->IsD a H' u->Q u H'
def spV(u:V):Sp:=λvs H Q _=>∃ v,vs=[v]/\Q u H
def zM(a:Ad):Sp:=λvs H Q _=>∃ x dx t,vs=[.ref x]/\H x=some (.ins a.c_s dx [("rising",.ref t)])/\Q (.ref t) H
inductive spGrp(a:Ad)(N g:Nat)(vs:List V)(H:Hp)(Q:VK)(_E:XK):Prop
 | mk(vp vg vt:V)(pl:Pl)(gs:List (List Mb))(tk:List Int)(h0:vs=[vp,vg,vt])(h1:okP N pl)(h2:IsPn a H vp pl)(h3:GsL H vg gs)(h4:TpT H vt tk)(h5:(∀ c∈gs,Ck (aI pl) c))(h6:gs.length<=g)(h7:tk.length+tot gs<=6)(h8:TabsOk (tabs a) H)(h9:nJ a (tk.length+tot gs) tru H Q):spGrp a N g vs H Q _E
def AI(a:Ad)(N g:Nat):List V->Sp:=λvals vs H Q _=>∃(vp vg vt:V) (kt:Addr) (pl:Pl) (c:List Mb) (gs:List (List Mb)) (tk ks:List Int),vals=[vt,vp,vg]/\vs=[.ref kt]/\okP N pl/\IsPn a H vp pl/\GsL H vg (c::gs)/\TpT H vt tk/\H kt=some (.tup (ks.map V.int))/\(∀ c∈gs,Ck (aI pl) c)/\gs.length<=g/\tk.length+ks.length+tot gs<=6/\TabsOk (tabs a) H/\nJ a (tk.length+ks.length+tot gs) tru H Q
def Ab(a:Ad)(N g:Nat):List V->Sp:=λvals vs H Q _=>∃(vi vg:V) (kt:Addr) (pl:Pl) (gs:List (List Mb)) (ks:List Int),6<=g/\vals=[vi,vg]/\vs=[.ref kt]/\okP N pl/\IsPn a H vi pl/\GsL H vg gs/\H kt=some (.tup (ks.map V.int))/\(∀ c∈gs,Ck (aI pl) c)/\ks.length<=6/\(∀ k∈ks,0<=k/\k<gs.length)/\tot (sel gs ks)<=6/\TabsOk (tabs a) H/\nJ a (tot (sel gs ks)) tru H Q
def BE(a:Ad)(N g n:Nat)(ok:List Int->Prop)(m:Nat)(H:Hp)(go:V):Prop :=
 (∃(vp vg vt:V) (pl:Pl) (c:List Mb) (gs:List (List Mb)) (tk:List Int),IsLam H cx fvG go [vt,vp,vg]/\okP N pl/\IsPn a H vp pl/\GsL H vg (c::gs)/\TpT H vt tk/\(∀ c∈gs,Ck (aI pl) c)/\gs.length<=g/\∀ ks:List Int,ks.length<=n->ok ks->tk.length+ks.length+tot gs<=6/\tk.length+ks.length+tot gs<=m) \/
 ∃(vi vg:V) (pl:Pl) (gs:List (List Mb)),6<=g/\IsLam H bC fvF go [vi,vg]/\okP N pl/\IsPn a H vi pl/\GsL H vg gs/\(∀ c∈gs,Ck (aI pl) c)/\∀ ks:List Int,ks.length<=n->ok ks->ks.length<=6/\(∀ k∈ks,0<=k/\k<gs.length)/\tot (sel gs ks)<=6/\tot (sel gs ks)<=m
inductive spBe(a:Ad)(N g:Nat)(vs:List V)(H:Hp)(Q:VK)(_E:XK):Prop
 | mk(v go:V)(n:Nat)(ok:List Int->Prop)(m:Nat)(h0:vs=[v,go])(h1:NdW a n ok H v)(h2:BE a N g n ok m H go)(h3:(n≠0->m≠0))(h4:TabsOk (tabs a) H)(h5:nJ a m tru H Q):spBe a N g vs H Q _E
theorem BH{K:Frag}{H:Hp}{x y:Addr}{xs ys:List V}{Q:VK}(c:H x=some (.tup xs))(b:H y=some (.tup ys))(d:xs.length+ys.length<=sizeLine)(q:∀ H' p,Same H H'->H' p=some (.tup (xs++ys))->Q (.ref p) H'):rq K (.ref x) (.ref y) H Q\/vX K (.ref x) (.ref y) H Q:=by
 cases xs with
 | nil=>exact .inl ⟨x,y,ys,rfl,rfl,SqT.of c,SqT.of b,q H y (Same.refl H) b⟩
 | cons a xs =>
  refine .inr ⟨x,y,_,ys,rfl,rfl,SqT.of c,SqT.of b,by simp,d,λe=>?_,λ_ p hp=>q _ p (Same.new hp) ae⟩;subst e;exact q H x (Same.refl H) (by rw[c,append_nil])
section
variable {P:Program}{w:World}{K:Frag}{mg:Str->Option Value}{base:Heap}{a:Ad}
theorem Bg(T:Txt K mg a):FnOk P w K mg base CX0 1 a.x_ah a.y_ah ["self"] (spV (.bl true)):=by
 refine T.F_ah.ok lh (λb H Q E h=>?_) (λcdv A outer s H b Q E hr h=>?_)
 .obtain⟨v,rfl,_⟩:=h;rfl
 .obtain⟨v,rfl,q⟩:=h
  exact⟨_,(aj (au fz)),q⟩
theorem yq(T:Txt K mg a):FnOk P w K mg base CX0 1 a.x_al a.y_al ["self"] (zM a):=by
 refine T.F_al.ok pI (λc H Q E h=>?_) (λcdv A outer s H c Q E hr h=>?_)
 .obtain⟨x,b,t,rfl,_⟩:=h;rfl
 .obtain⟨x,b,t,rfl,d,q⟩:=h
  exact⟨_,(aj (au (aA (vr 0) rfl))),x,_,b,_,_,rfl,d,T.cl_s,T.na_Told_rising,rfl,q⟩
theorem AY(T:Txt K mg a):FnOk P w K mg base CX0 1 a.x_am a.y_am ["self"] (spV (.bl false)):=by
 refine T.F_am.ok nu (λb H Q E h=>?_) (λcdv A outer s H b Q E hr h=>?_)
 .obtain⟨v,rfl,_⟩:=h;rfl
 .obtain⟨v,rfl,q⟩:=h
  exact⟨_,(aj (au fz)),q⟩
theorem AS(T:Txt K mg a):FnOk P w K mg base CX0 1 a.x_aw a.y_aw ["self"] (spV .non):=by
 refine T.F_aw.ok qP (λb H Q E h=>?_) (λcdv A outer s H b Q E hr h=>?_)
 .obtain⟨v,rfl,_⟩:=h;rfl
 .obtain⟨v,rfl,q⟩:=h
  exact⟨_,(aj (au rJ)),q⟩
theorem v4(T:Txt K mg a)(j:Bm mg base):FnOk P w K mg base CX0 1 a.f_y a.d_y ["make","carry"] (sf a):=by
 refine T.F_y.okL T.lcd_y lu (by decide +kernel) (λc H Q E h=>?_) (λA outer s H c Q E hr h=>?_)
 .obtain⟨u,v,rfl,_⟩:=h;rfl
 .obtain⟨u,v,rfl,i,q⟩:=h
  refine⟨_,(iE (cm (d:=jO) rfl T.lch_y j rfl (by with_unfolding_all rfl) rfl (ll a) (.head _) T.tnd ln)),?_⟩;exact⟨i,λl p o f b m e g=>λH3 s3 hc=>q _ _ (f.trans s3.t) (b.same s3)⟩
theorem rN(T:Txt K mg a)(hB:Bm mg base):FnOk P w K mg base CX0 3 a.x_an a.y_an ["self","carry"] (oo a):=by
 have ab:FnOk P w K mg base CX0 1 _ _ _ (spDieI a):=kG T;have R:FnOk P w K mg base CX0 2 _ _ _ _:=(v4 T hB).mono (by decide);refine T.F_an.ok mZ (λvs H Q E h=>?_) (λcdv A outer s H vs Q E hr h=>?_)
 .obtain⟨v,cr,rfl,_⟩:=h;rfl
 .obtain⟨v,cr,rfl,⟨x,dx,l,g,rfl,hx,hl,yl,hP⟩,hT,q⟩:=h
  have X:sizeLine=16777216:=sizeLine_eq;refine⟨_,(aj (au (bS T.mk_G ab hr rfl T.mc_G T.Bi_G .nil af (aa (aP rfl (N:=["many","make","carry"]) (ix:=[none,none,some 1]) ⟨rfl,rfl,rfl,rfl,⟨rfl,rfl,rfl,trivial⟩⟩ (aO (aA (vr 0) rfl)) ⟨λC s H fp=>(bx (K:=K) (n:=2) rfl rfl (aq (ao (i:=0) (show List.Nodup (["many","make","carry"]:List Str) by decide +kernel) rfl (Or.inl rfl)) (aq (ao (i:=1) (show List.Nodup (["many","make","carry"]:List Str) by decide +kernel) rfl (Or.inl rfl)) aJ))),λC s H fp=>aL,λC s H fp=>(aE (aa (vr 0) (aa (ag R hr rfl T.m_y T.F_y.kp T.B_y .nil af (aa (vr 1) (aa (vr 2) ac))) ac)))⟩) ac)))),?_⟩;refine⟨x,_,dx,_,_,rfl,hx,T.cl_G,T.na_Die_makes,rfl,.inl ⟨⟨_,SqL.of hl⟩,λD Y=>?_⟩⟩;have ext:∀{b:Hp},TabsOk (tabs a) b->∀{g:List V}{F:List V},b D=some (.lst g)->TabsOk (tabs a) (upd b D (.lst F)):=λZ g F e=>Z.put (λps z=>by rw[e]at z;cases z) λφ z=>by rw[e]at z;cases z
  let Pw1:PvL:=λi u b=>SameT H b/\TabsOk (tabs a) b/\b D=some (.lst u)/\u.length=i/\∀ z∈u,DieR b z
  refine aK (K:=K) (a:=l) (xs:=g) Pw1
   ⟨(Same.new Y).t,hT.same (Same.new Y),ae,rfl,λz hz=>by cases hz⟩ (λi g b h=>SqL.of (h.1.at hl)) (λi g b h=>h.2.2.1) ?_ ?_
  .rintro i y u b P' L ⟨M,r,j,hi,S⟩ an
   have as:i<g.length:=(List.getElem?_eq_some_iff.mp L).1;obtain⟨q1,d,f,rfl,ad⟩:=hP y (List.mem_of_getElem? L);refine⟨q1,_,rfl,SqT.of (M.at ad),rfl,_,_,rfl,_,_,rfl,rfl,⟨rfl,trivial⟩,?_⟩;refine⟨f,cr,rfl,r,λH2 f2 t2 W=>?_⟩;have B:=t2.at j;refine⟨by show 2<=sizeLine;decide,λq2 m=>?_⟩;have O:=Same.new (o:=.tup [.int d,f2]) m;have p:=O _ _ B;have n2:q2≠D:=λz=>by rw[z,B]at m;cases m
   refine⟨p,by lia,an _ _ ⟨((M.trans t2).trans O.t).put Y,ext (W.same O) p,ae,by rw[length_append,hi];rfl,λz hz=>?_⟩⟩
   rcases mem_append.mp hz with hz | hz
   .obtain⟨q7,m7,f7,rfl,h7⟩:=S z hz
    exact⟨q7,m7,f7,rfl,wm p ((t2.trans O.t).at h7) (λg z=>nomatch z)⟩
   .rw[mem_singleton.mp hz]
    exact⟨q2,d,f2,rfl,by rw[ar n2];exact ae⟩
  .rintro u b ⟨M,r,j,hi,S⟩
   intro x2 G I c ap;refine⟨x2,G,D,u,rfl,ae,gK I c _ _ j,λH2 l2 fl k g1 g2=>⟨rfl,?_⟩⟩;have s2:=made I c k;exact q _ _ (M.trans s2.t) (r.same s2) ⟨x2,G,l2,u,rfl,g1,g2,by lia,λy L=>(S y L).n (aZ s2.t)⟩
theorem qm(T:Txt K mg a)(hB:Bm mg base)(N g:Nat){k:Nat}(hk:3<=k)(B:eF P w K mg base k cx fvG ["kept"] (AI a N g))(G:eF P w K mg base k bC fvF ["kept"] (Ab a N g)):FnOk P w K mg base CX0 (k+1) a.f_T a.d_T ["node","go"] (spBe a N g):=by
 have y:FnOk P w K mg base CX0 k _ _ _ (spV (.bl true)):=(Bg T).mono (by lia);have r:FnOk P w K mg base CX0 k _ _ _ (spV (.bl false)):=(AY T).mono (by lia);have i:FnOk P w K mg base CX0 k _ _ _ (zM a):=(yq T).mono (by lia);have b:FnOk P w K mg base CX0 k _ _ _ (spV .non):=(AS T).mono (by lia);have D:FnOk P w K mg base CX0 k _ _ _ (oo a):=(rN T hB).mono (by lia);refine T.F_T.okL T.lcd_T tN (by decide +kernel) (λvs H Q E h=>?_) (λA outer s H vs Q E hr h=>?_)
 .obtain⟨v,go,n,ok,m,rfl,_⟩:=h;rfl
 .obtain⟨v,go,n,ok,m,rfl,ad,W,ab,S,q⟩:=h
  refine⟨_,(bg (aR (dS (PE.or (fQ (vr 0) T.cl_s T.mt_ah y hr T.B_ah .nil af) (fQ (vr 0) T.cl_G T.mt_am r hr T.B_am .nil af))) (aj (au (PE.or (fc (vr 1) B hr (aa (PE.or (fQ (vr 0) T.cl_s T.mt_al i hr T.B_al .nil af) (fQ (vr 0) T.cl_G T.mt_aw b hr T.B_aw .nil af)) ac)) (fc (vr 1) G hr (aa (PE.or (fQ (vr 0) T.cl_s T.mt_al i hr T.B_al .nil af) (fQ (vr 0) T.cl_G T.mt_aw b hr T.B_aw .nil af)) ac))))) aD) (iE (al (vr 0) T.cl_G T.mt_an D hr T.B_an .nil af (aa (cm (d:=pP) rfl T.lch_T hB rfl (by with_unfolding_all rfl) rfl (tD a) (.head _) T.tnd tM) ac)))),?_⟩
  rcases ad with⟨M,⟨x,j,L,rfl,o,I⟩,O,F⟩ | ⟨O,hd⟩
  .refine .inl ⟨x,j,_,rfl,o,rfl,_,rfl,?_⟩
   rcases W with⟨vp,vg,vt,pl,c,gs,tk,⟨f,p,cl,rfl,C,k3,k4,k5,k6⟩,h1,h2,R,h4,Y,h6,h7⟩ | ⟨vi,vg,pl,gs,h0,⟨f,p,cl,rfl,C,k3,k4,k5,k6⟩,h1,h2,R,h4,Y⟩
   .obtain⟨Z,zm⟩:=h7 M O F
    exact .inl ⟨⟨f,_,_,p,rfl,C⟩,.inl ⟨x,j,_,rfl,o,rfl,x,j,L,rfl,o,λ_ _ _ _ _ e=>e,f,p,cl,_,rfl,C,k3,k4,k5,k6,vp,vg,vt,L,pl,c,gs,tk,M,rfl,rfl,h1,h2,R,h4,I,Y,h6,Z,S,λH' u s hT' nd=>q _ _ s hT' (nd.up zm)⟩⟩
   .obtain⟨z1,z2,Z,zm⟩:=Y M O F
    exact .inr ⟨⟨f,_,_,p,rfl,C⟩,.inl ⟨x,j,_,rfl,o,rfl,x,j,L,rfl,o,λ_ _ _ _ _ e=>e,f,p,cl,_,rfl,C,k3,k4,k5,k6,vi,vg,L,pl,gs,M,h0,rfl,rfl,h1,h2,R,I,h4,z1,z2,Z,S,λH' u s hT' nd=>q _ _ s hT' (nd.up zm)⟩⟩
  .obtain⟨x,j,l,ys,rfl,o,hl,yl,hP⟩:=id hd
   refine .inr ⟨x,j,_,rfl,o,rfl,_,rfl,?_⟩;refine⟨x,j,_,rfl,o,rfl,S,λf1 p H2 t2 X n1 ap as=>?_⟩;exact⟨_,_,rfl,hd.n (aZ t2),X,λH3 u t3 an hu=>λH4 s4 hc=>q _ _ (t2.trans (t3.trans s4.t)) (an.same s4) (.inr ⟨ab O,hu.n (aZ s4.t)⟩)⟩
theorem sk(T:Txt K mg a)(hB:Bm mg base)(N g:Nat){k:Nat}(m:FnOk P w K mg base CX0 k a.f_k a.d_k ["plan","groups","taken"] (spGrp a N g)):eF P w K mg base (k+1) cx fvG ["kept"] (AI a N g):=by
 refine iP lsG (λpm ab d c us hl=>match us,hl with | [_],_=>rfl) (λvals vs H Q E h=>?_) (λA outer s H f c d vals vs Q E hr hfv ca h=>?_)
 .obtain⟨O,vg,vt,kt,R,c,L,I,M,rfl,rfl,_⟩:=h;rfl
 .obtain⟨O,vg,vt,kt,R,c,L,I,M,rfl,rfl,ho,y,hg,D,e,r,G,h6,hT,q⟩:=h
  have v:sizeLine=16777216:=sizeLine_eq;refine⟨_,(ag m hr rfl T.m_k T.F_k.kp T.B_k .nil af (aa (vr 2) (aa (dW gB (vr 3) (eZ ah) eW) (aa (aw uL (vr 1) (vr 0)) ac)))),?_⟩;have l:=yt ca;have p:=TabsOk.untrs hT ca;obtain⟨lg,yg,rfl,F,C⟩:=hg.n l;obtain⟨lt,rfl,x⟩:=D.n l;have e:=l _ _ rfl e;have y:=y.n l;generalize hU:untrs H (d.map (·.2))=U at *;cases C with
  | @cons _ y0 _ ys g0 hgs =>
   refine⟨_,rfl,.inl ⟨_,SqL.of F,λi fr=>?_⟩⟩;have er:eG (y0::ys) (some 1) none=ys:=kz _ 1;rw[er];have j:=Same.new (o:=.lst ys) fr;have Y:(upd U i (.lst ys)) i=some (.lst ys):=ae;generalize upd U i (.lst ys)=H1 at j Y;refine BH (j _ _ x) (j _ _ e) (by rw[length_map,length_map];lia) λH2 Z X S=>?_
   rw[<- map_append]at S;have b:=j.trans X;refine⟨O,.ref i,.ref Z,R,L,I++M,rfl,ho,y.n (aZ b.t),⟨i,ys,rfl,X _ _ Y,aC (CrL.n (aZ b.t)) hgs⟩,⟨Z,rfl,S⟩,r,G,by rw[length_append];exact h6,p.same b,λH' u t' B W=>λH3 s3 hc=>?_⟩;rw[<- hU]at b;rw[length_append]at W;exact q _ _ (back (b.t.trans t') s3 hc) (B.same s3) (W.n (aZ s3.t))
theorem ww(T:Txt K mg a)(hB:Bm mg base)(N g:Nat){k:Nat}(O:FnOk P w K mg base CX0 k a.f_k a.d_k ["plan","groups","taken"] (spGrp a N 6)):eF P w K mg base (k+1) bC fvF ["kept"] (Ab a N g):=by
 refine iP lsF (λpm a0 l c us hl=>match us,hl with | [_],_=>rfl) (λvals vs H Q E h=>?_) (λA outer s H f c l vals vs Q E hr hfv ca h=>?_)
 .obtain⟨vi,vg,kt,pl,F,m,h6,rfl,rfl,_⟩:=h;rfl
 .obtain⟨vi,vg,kt,pl,F,m,_,rfl,rfl,ho,Z,hg,j,S,as,G,aS,hT,q⟩:=h
  have Y:sizeLine=16777216:=sizeLine_eq;refine⟨_,(ag O hr rfl T.m_k T.F_k.kp T.B_k .nil af (aa (vr 1) (aa (aP rfl (N:=["number","groups"]) (ix:=[none,some 2]) ⟨rfl,rfl,rfl,rfl,⟨rfl,rfl,rfl,trivial⟩⟩ (aO (vr 0)) ⟨λC s H fp=>ao (i:=0) (show List.Nodup (["number","groups"]:List Str) by decide +kernel) rfl (Or.inl rfl),λC s H fp=>aL,λC s H fp=>(az (eY (K:=K) rfl) (vr 1) (vr 0) (λ_ _=>rfl))⟩) (aa (aE ac) ac)))),?_⟩;have nc:=yt ca;have R:=TabsOk.untrs hT ca;obtain⟨lg,B,rfl,ap,I⟩:=hg.n nc;have j:=nc _ _ rfl j;have Z:=Z.n nc;generalize hU:untrs H (l.map (·.2))=U at *;refine .inr ⟨⟨_,SqT.of j⟩,λD hD=>?_⟩
  let Pw2:PvL:=λi p r=>i<=m.length/\Same U r/\r D=some (.lst p)/\Paired (CrL U) (sel F (m.take i)) p
  refine vQ (K:=K) (a:=kt) (xs:=m.map V.int) Pw2 ⟨Nat.zero_le _,Same.new hD,ae,.nil⟩ (λi p r h=>SqT.of (h.2.1 _ _ j)) (λi p r h=>h.2.2.1) ?_ ?_
  .rintro i x p r P' L ⟨hi,M,v,d⟩ hP
   rw[List.getElem?_map]at L
   obtain⟨kk,hkk,rfl⟩:∃ kk,m[i]? = some kk/\V.int kk=x:=by
    cases e:m[i]? with
    | none=>rw[e]at L;cases L
    | some kk=>rw[e]at L;cases L;exact⟨kk,rfl,rfl⟩
   have ad:i<m.length:=(List.getElem?_eq_some_iff.mp hkk).1;obtain⟨k0,k1⟩:=G kk (List.mem_of_getElem? hkk);have gl:F.length=B.length:=Paired.length I;have ab:kk.toNat<B.length:=by lia
   have ey:B[kk.toNat]? = some B[kk.toNat]:=List.getElem?_eq_getElem ab;generalize B[kk.toNat]=y at ey;obtain⟨cg,X,W⟩:=aM I ey;have yl:p.length=i:=by rw[<- d.length];unfold sel;rw[length_map,length_take];lia
   have an:atI B kk=some y:=by
    have:kk=((kk.toNat:Nat):Int):=by lia
    rw[this];exact aU ey
   refine⟨⟨rfl,trivial⟩,.inl ⟨lg,_,_,_,rfl,rfl,SqL.of (M _ _ ap),an,v,by lia,hP _ _ ⟨ad,M.put hD,ae,?_⟩⟩⟩;unfold sel at d ⊢;rw[take_add_one,hkk,map_append];refine bv ?_ d;show CrL U (F.getD kk.toNat []) y;rw[List.getD_eq_getElem?_getD,X];exact W
  .rintro p r ⟨_,M,v,d⟩
   rw[length_map,take_length]at d;refine⟨Nat.zero_le _,λt ft=>?_⟩;have s2:=Same.new (o:=.tup []) ft;have h2:(upd r t (.tup [])) t=some (.tup []):=ae;generalize upd r t (.tup [])=H2 at s2 h2;have b:=M.trans s2;refine⟨vi,.ref D,.ref t,pl,sel F m,[],rfl,ho,Z.n (aZ b.t),⟨D,p,rfl,s2 _ _ v,aC (CrL.n (aZ b.t)) d⟩,⟨t,rfl,h2⟩,λc d=>?_,by unfold sel;rw[length_map];exact as,by rw[length_nil,Nat.zero_add];exact aS,R.same b,λH3 u t' hT' hN=>λH4 s4 d=>?_⟩
   .obtain⟨k,hk,rfl⟩:=mem_map.mp d
    have:=G k hk;have kl:k.toNat<F.length:=by lia
    rw[List.getD_eq_getElem?_getD,List.getElem?_eq_getElem kl];exact S _ (getElem_mem kl)
   rw[<- hU]at b;rw[length_nil,Nat.zero_add]at hN;exact q _ _ (back (b.t.trans t') s4 d) (hT'.same s4) (hN.n (aZ s4.t))
abbrev nd(N:Nat):Nat:=24*N+8
abbrev gnD(N g:Nat):Nat:=24*N+10+3*g
theorem pQ(T:Txt K mg a)(f:Bm mg base)(N g:Nat){k:Nat}(hk:8<=k){sb:Sp}(F:g≠0->sb=spBe a N (g - 1))(ab:FnOk P w K mg base CX0 (k+1) a.x_D a.y_D ["self","crowd"] (spNode a N bw))(R:FnOk P w K mg base CX0 (k+1) a.x_c a.y_c ["self","crowd"] (spNode a N aQ))(X:FnOk P w K mg base CX0 (k+1) a.f_T a.d_T ["node","go"] sb):FnOk P w K mg base CX0 (k+1+1) a.f_k a.d_k ["plan","groups","taken"] (spGrp a N g):=by
 have aS:FnOk P w K mg base CX0 k _ _ _ (spToldI a):=(j8 T).mono (by lia);have o:FnOk P w K mg base CX0 (k+1) _ _ _ (spNode a N jn):=(lI T f N).mono (by lia);have an:FnOk P w K mg base CX0 (k+1) _ _ _ (spNode a N dR):=(ji T f N).mono (by lia);have as:FnOk P w K mg base CX0 (k+1) _ _ _ (spNode a N dQ):=(iZ T f N).mono (by lia);have ad:FnOk P w K mg base CX0 (k+1) _ _ _ (spNode a N fw):=(jJ T f N).mono (by lia);refine T.F_k.okL T.lcd_k sc_k (by decide +kernel) (λvs H Q E h=>?_) (λA outer s H vs Q E hr h=>?_)
 .obtain⟨O,vg,vt,W,v,r,rfl,_⟩:=h;rfl
 .obtain⟨O,vg,vt,W,v,r,rfl,ho,L,⟨p,yg,rfl,b,M⟩,⟨C,rfl,l⟩,j,a1,h6,hT,q⟩:=h
  refine⟨_,(bg (aR (dP (fV (vr 1) (λ_=>rfl))) (aj (au (bS T.mk_s aS hr rfl T.mc_s T.Bi_s .nil af (aa (vr 2) ac)))) aD) (hJ sc_k.nd (by decide +kernel) X hr rfl T.m_T T.F_T.kp T.B_T .nil (aa (PE.or (al (vr 0) T.cl_Q T.mt_ad o hr T.B_ad .nil af (aa (az av (vr 1) ah (λ_ _=>rfl)) ac)) (PE.or (al (vr 0) T.cl_o T.mt_I an hr T.B_I .nil af (aa (az av (vr 1) ah (λ_ _=>rfl)) ac)) (PE.or (al (vr 0) T.cl_p T.mt_J as hr T.B_J .nil af (aa (az av (vr 1) ah (λ_ _=>rfl)) ac)) (PE.or (al (vr 0) T.cl_A T.mt_W ad hr T.B_W .nil af (aa (az av (vr 1) ah (λ_ _=>rfl)) ac)) (PE.or (al (vr 0) T.cl_t T.mt_D ab hr T.B_D .nil af (aa (az av (vr 1) ah (λ_ _=>rfl)) ac)) (al (vr 0) T.cl_g T.mt_c R hr T.B_c .nil af (aa (az av (vr 1) ah (λ_ _=>rfl)) ac))))))) (aa (cm (d:=cx) rfl T.lch_k f rfl (by with_unfolding_all rfl) rfl (mV a) (.head _) T.tnd mU) ac)))),?_⟩;cases M with
  | nil =>
   refine⟨_,.inl ⟨_,SqL.of b,rfl⟩,?_⟩;intro x dx hx i a3;refine⟨x,dx,C,r,rfl,ae,.inr (gK hx i _ _ l),by lia,λH' t a2 k h1 h2 h3=>⟨rfl,?_⟩⟩;have sm:=made hx i k;exact q _ _ sm.t (hT.same sm) (.inl ⟨a2,⟨x,dx,t,rfl,h1,h2⟩,by rw[h3.1.length_eq];exact Nat.le_add_right _ _,trivial⟩)
  | @cons c y0 v ys g0 hgs =>
   rw[length_cons]at a1;have:=F (by lia);subst this;rw[qw]at h6 q;have ck:=j c mem_cons_self;refine⟨_,.inl ⟨_,SqL.of b,rfl⟩,?_⟩;obtain⟨l0,G,rfl,I,B⟩:=id g0;refine dw (S:=spNode a N) "node" (λ_=>rfl) (λ_=>rfl) (λ_=>rfl) (λ_ _=>rfl) (λP=>rIx K (.ref p) (.int 0) H P) L λkc E hkc=>.inl ⟨p,_,_,_,rfl,rfl,SqL.of b,ci 0 rfl rfl,?_⟩
   refine⟨O,W,l0,G,c,rfl,hkc,ho,L,I,B,ck,hT,λH1 u t1 Y ap=>?_⟩;refine⟨Y,λf1 c1 H2 t2 D n1 Z a0=>λH3 s3 e=>?_⟩;have t3:=t2.trans s3.t;have m:=t1.trans t3;have y:=aZ m;refine⟨u,.ref f1,c.length,_,r.length+(c.length+tot v),rfl,ap.n (aZ t3),.inl ⟨O,.ref p,.ref C,W,c,v,r,⟨f1,c1,_,rfl,s3 _ _ Z,s3 _ _ a0,rfl,by simp only[map_cons,map_nil,nodup_cons,mem_cons,not_mem_nil,or_false,not_or,not_false_eq_true,nodup_nil,and_true];lia,.cons (e 2 _ _ _ rfl rfl (by with_unfolding_all rfl)) (.cons (e 0 _ _ _ rfl rfl (by with_unfolding_all rfl)) (.cons (e 1 _ _ _ rfl rfl (by with_unfolding_all rfl)) .nil))⟩,ho,L.n y,⟨p,_,rfl,y _ _ rfl b,aC (CrL.n y) (.cons g0 hgs)⟩,⟨C,rfl,y _ _ rfl l⟩,λc e=>j c (mem_cons_of_mem _ e),by lia,λks hks _=>⟨by lia,by lia⟩⟩,by lia,D.same s3,λH' w t' hT' hN=>q _ _ (m.trans t') hT' hN⟩
theorem sR(T:Txt K mg a)(h:Bm mg base)(N:Nat)(d:FnOk P w K mg base CX0 (nd N) a.x_D a.y_D ["self","crowd"] (spNode a N bw))(b:FnOk P w K mg base CX0 (nd N) a.x_c a.y_c ["self","crowd"] (spNode a N aQ)):∀ g,g<=6->FnOk P w K mg base CX0 (gnD N g) a.f_k a.d_k ["plan","groups","taken"] (spGrp a N g)
 | 0,_=>by
  have e:nd N<=24*N+8+1:=Nat.le_succ _;exact pQ T h N 0 (k:=24*N+8) (by lia) (sb:=du) (λz=>absurd rfl z) (d.mono e) (b.mono e) bt
 | g+1,hg=>by
  have G:=sR T h N d b g (by lia);have u:=sk T h N g G
  have v:eF P w K mg base (gnD N g+1) bC fvF ["kept"] (Ab a N g):=by
   intro A j s H f c l O C o Q E M F y D p x L r i;obtain⟨_,_,_,_,_,_,I,_⟩:=id i;lia
  have B:=qm T h N g (k:=gnD N g+1) (by lia) u v;have m:nd N<=gnD N g+2:=by show 24*N+8<=_;lia
  exact pQ T h N (g+1) (k:=gnD N g+1) (by lia) (sb:=spBe a N g) (λ_=>rfl) (d.mono m) (b.mono m) B
end
end My
namespace L2
open PySem PySem.Spec PyProof.Rows
section
variable {X:Cx}{x:Str}{p kp pos:Pos}{e ek:Expr}{te tk:TE}
def wd(X:Cx)(te:TE):TE:=λσ H Q=>te σ H λv H1=>∃(l:Addr) (ns:List Int),v=.ref l/\SqL X.K H1 l (ns.map V.int)/\ns.length<64/\∀ q (ns':List Int),ns'.Perm ns->ns'.Pairwise (· >= ·)->H1 q=none->Q (.ref q) (upd H1 q (.lst (ns'.map V.int)))
theorem mW(T:Gl X x)(Z:X.mg x=none)(L:bootBuiltins x=some (.builtin "sorted"))(ha:PE X e te)(E:PE X ek (λ_ H Q=>Q (.bl true) H))
  (m:x ≠ "__name__" := by decide) (r:(x == ("__debug__" : Str))=false:=by decide) (W:starEach [e] X.env=(false,eval e X.env)::starEach [] X.env:=by rfl) :
  PE X (.Call (.Name x p) [e] [⟨some "reverse",ek,kp⟩] pos) (wd X te):=by
 intro c s D H Q I h;refine wpAny_Call_Name_kw (iF I T Z L ?_ m r);have w:backTo pos (starEach [e] X.env)=(false,eval e X.env)::backTo pos (starEach [] X.env):=by rw[W];rfl
 refine callWith_kw ?_ w (by rw[w];rfl);rw[w];refine Calls.spliced_cons (thn (ha c s D H _ I h) λu R ⟨v,A,I1,M,G⟩=>?_);refine Calls.spliced_nil (kws_cons (thn (E c R D A (λY i=>Y=.bl true/\i=A) I1 ⟨rfl,rfl⟩) λuf s2 ⟨vf,i,I2,rf,ef,eH⟩=>?_));subst ef;subst eH;obtain rfl:uf=Value.bool true:=rf;obtain⟨l,P,rfl,O,hl,q⟩:=G;obtain rfl:u=Value.ref l:=M;refine kws_nil ?_;obtain⟨d,B,S,hz⟩:=I2.list O;have K:=iM B;have C:d.length=P.length:=by have:=B.length;rw[length_map]at this;exact this.symm
 refine sorted_ints_rev (b:=true) S.isList K (by lia) λf g F y N=>?_
 obtain⟨e,he⟩:=sortedAll_at s2.heap d f;have m:i (s2.heap.objs.size+1)=none:=I2.hok.fresh (Nat.le_succ _);have j:sizeLine=16777216:=sizeLine_eq;refine⟨.ref (s2.heap.objs.size+1),_,I2.laid (a:=s2.heap.objs.size+1) (o:=.lst (g.map V.int)) (t':=s2.toks) (λb u z=>sortedAll_old z) (Nat.le_succ _) ⟨?_,f.toList,e,fD F,?_⟩,rfl,q _ g y N m⟩
 .rw[length_map,y.length_eq];lia
 .rw[he,Array.toArray_toList]
end
end L2
namespace My
open PySem L2 FrM Du Nw
open Nst (Mb plc szs hd tl dr groups aW parts outer aX bq bz)
theorem wJ(a:List (List Mb)):((tot a:Nat):Int)=(a.map λc=>(c.length:Int)).sum:=by
 induction a with
 | nil=>rfl
 | cons c r ih=>rw[qw,map_cons,sum_cons,<- ih];lia
theorem oh{k:Nat}{a:List Mb}(h:Pk k a):tot (parts a)=a.length:=by
 have:=wJ (parts a);rw[h.all]at this;lia
theorem tF{A B:List Nat}(h:A.Perm B):A.sum=B.sum:=by
 induction h with
 | nil=>rfl
 | cons x _ ih=>rw[sum_cons,sum_cons,ih]
 | swap x y l=>simp only[sum_cons];lia
 | trans _ _ h1 h2=>rw[h1,h2]
theorem vm{A B:List Nat}(h:List.Sublist A B):A.sum<=B.sum:=by
 induction h with
 | slnil=>exact Nat.le_refl _
 | cons x _ ih=>rw[sum_cons];lia
 | cons_cons x _ ih=>rw[sum_cons,sum_cons];lia
theorem yK{a:List (List Mb)}{b:List Int}(h:okS (plc (outer a)) b):(∀ k∈b,0<=k/\k<a.length)/\tot (sel a b)<=tot a:=by
 obtain⟨g,d,f⟩:=h;rw[bz]at d
 constructor
 .intro k l
  obtain⟨j,m,rfl⟩:=mem_map.mp (d.subset (f.mem_iff.mp l));have:=mem_range.mp m;lia
 .have e:tot (sel a b)=(b.map λk=>(a.getD k.toNat []).length).sum:=by unfold tot sel;rw[map_map];rfl
  have o:tot a=(((List.range a.length).map λk:Nat=>(k:Int)).map λk=>(a.getD k.toNat []).length).sum:=by
   unfold tot
   congr 1
   apply List.ext_getElem
   .simp
   .intro i c p
    have c:i<a.length:=by simpa using c
    simp[List.getElem?_eq_getElem c]
  rw[e,o,tF (f.map _)];exact vm (d.map _)
def BdW(c:List Mb)(b:Int×Int):Prop:=0<=b.1/\b.1<=b.2/\b.2<=(c.length:Int)
theorem pG{a:List (List Mb)}{b:List (Int×Int)}(h:Paired BdW a b):b.length=a.length:=(Paired.length h).symm
theorem m9:∀{gs:List (List Mb)}{bs:List (Int×Int)},Paired BdW gs bs->(∀ b∈bs,0<=b.1/\b.1<=b.2)/\(bs.map (·.2)).sum<=(gs.map λc=>(c.length:Int)).sum
 | _,_,.nil=>⟨λb hb=>(by cases hb),Int.le_refl _⟩
 | _,_,.cons r t=>by
  obtain⟨a,d⟩:=m9 t;refine⟨λb hb=>?_,?_⟩
  .rcases mem_cons.mp hb with rfl | hb
   .exact⟨r.1,r.2.1⟩
   .exact a b hb
  .rw[map_cons,map_cons,sum_cons,sum_cons]
   have:=r.2.2;lia
theorem sj{d:List (List Mb)}{a:List (Int×Int)}(h:Paired BdW d a):0<=(a.map (·.1)).sum/\(a.map (·.1)).sum<=(a.map (·.2)).sum:=by
 obtain⟨c,_⟩:=m9 h;refine⟨Nst.sum_ge λx e=>?_,jA λp hp=>(c p hp).2⟩;obtain⟨b,f,rfl⟩:=mem_map.mp e;exact(c b f).1
def BdAt(H:Hp)(b:Int×Int)(z:V):Prop:=∃ q,z=.ref q/\H q=some (.tup [.int b.1,.int b.2])
theorem BdAt.tk{H a:Hp}(k:TK H a)(b:Int×Int)(z:V)(h:BdAt H b z):BdAt a b z:=let ⟨q,h1,h2⟩:=h;⟨q,h1,k _ _ h2⟩
section
variable {P:Program}{w:World}{K:Frag}{mg:Str->Option Value}{base:Heap}{a:Ad}
theorem uh(T:Txt K mg a)(hB:Bm mg base)(N:Nat)(g:FnOk P w K mg base CX0 (gnD N 6) a.f_k a.d_k ["plan","groups","taken"] (spGrp a N 6)):FnOk P w K mg base CX0 (gnD N 6+1) a.x_D a.y_D ["self","crowd"] (spNode a (N+1) bw):=by
 have j:FnOk P w K mg base CX0 (gnD N 6) _ _ _ spParted:=(fH T).mono (by show 2<=24*N+10+3*6;lia);refine T.F_D.ok jT (λG H Q E h=>?_) (λcdv A outer s H G Q E hr h=>?_)
 .obtain⟨v,B,l,C,f,rfl,_⟩:=h;rfl
 .obtain⟨v,B,l,C,f,rfl,I,X,O,R,y,d,L,q⟩:=h
  cases B with
  | each p =>
   obtain⟨x,M,u,rfl,hx,S⟩:=O;have i:=oH d;have m6:=d.len;have W:=oh i;refine⟨_,(aj (au (ag g hr rfl T.m_k T.F_k.kp T.B_k .nil af (aa (aA (vr 0) rfl) (aa (ag j hr rfl T.m_N T.F_N.kp T.B_N .nil af (aa (vr 1) ac)) (aa (aE ac) ac)))))),?_⟩;refine⟨x,_,M,_,_,rfl,hx,T.cl_t,T.na_Each_inside,rfl,?_⟩;refine⟨l,f,C,rfl,R,y,by rw[<- y.len];lia,λm F=>⟨λz=>by have:=(d.path m F).1;rw[z]at this;simp[aI]at this,(d.path m F).2⟩,λH1 r ys s1 hr1 hgs=>?_⟩;refine⟨Nat.zero_le _,λt Z=>?_⟩;have e:=Same.new (o:=.tup []) Z;have D:(upd H1 t (.tup [])) t=some (.tup []):=ae;generalize upd H1 t (.tup [])=H2 at e D;have b:=s1.trans e;have Y:=aZ b.t;refine⟨u,.ref r,.ref t,p,parts f,[],rfl,X,S.n Y,⟨r,ys,rfl,e _ _ hr1,aC (CrL.n (aZ e.t)) hgs⟩,⟨t,rfl,D⟩,λc d=>(i.each c d).1,by have:=i.len;lia,by rw[length_nil];lia,L.same b,λH' w t' hT' hN=>q _ _ (b.t.trans t') hT' ?_⟩;rw[length_nil,Nat.zero_add,W]at hN;exact hN.ok λns _ z=>by cases z
  | _=>cases I
theorem rO(T:Txt K mg a)(D:Bm mg base)(N:Nat)(B:FnOk P w K mg base CX0 (nd N) a.x_D a.y_D ["self","crowd"] (spNode a N bw))(y:FnOk P w K mg base CX0 (nd N) a.x_c a.y_c ["self","crowd"] (spNode a N aQ))(X:FnOk P w K mg base CX0 (gnD N 6+2) a.f_T a.d_T ["node","go"] (spBe a N 6)):FnOk P w K mg base CX0 (gnD N 6+3) a.x_c a.y_c ["self","crowd"] (spNode a (N+1) aQ):=by
 have e1:nd N<=gnD N 6+2:=by show 24*N+8<=24*N+10+3*6+2;lia
 have C:∀{k},k<=8->k<=gnD N 6+2:=λ{k} h=>by show k<=24*N+10+3*6+2;lia
 have B:=B.mono e1;have y:=y.mono e1;have ab:FnOk P w K mg base CX0 (gnD N 6+2) _ _ _ spParted:=(fH T).mono (C (by decide));have e:FnOk P w K mg base CX0 (gnD N 6+2) _ _ _ spOuter:=(ng T).mono (C (by decide));have M:FnOk P w K mg base CX0 (gnD N 6+2) _ _ _ (spNode a N jn):=(lI T D N).mono (C (by decide));have ad:FnOk P w K mg base CX0 (gnD N 6+2) _ _ _ (spNode a N dR):=(ji T D N).mono (C (by decide));have an:FnOk P w K mg base CX0 (gnD N 6+2) _ _ _ (spNode a N dQ):=(iZ T D N).mono (C (by decide));have Z:FnOk P w K mg base CX0 (gnD N 6+2) _ _ _ (spNode a N fw):=(jJ T D N).mono (C (by decide));refine T.F_c.okL T.lcd_c sc_c (by decide +kernel) (λvs H Q E h=>?_) (λA outer s H vs Q E hr h=>?_)
 .obtain⟨v,pl,l,xs,g,rfl,_⟩:=h;rfl
 .obtain⟨v,pl,l,xs,g,rfl,R,ho,hp,hl,hC,f,hT,q⟩:=h
  cases pl with
  | first p r =>
   obtain⟨x,j,u,z,rfl,hx,hu,hz⟩:=hp;obtain⟨O,ok,fp⟩:=mq f;have m6:=f.len;have p6:=O.len;have tp:=oh O;refine⟨_,(bg (ax (i:=2) sc_c.nd rfl (Or.inr rfl) (ag ab hr rfl T.m_N T.F_N.kp T.B_N .nil af (aa (vr 1) ac))) (bg (ax (i:=3) sc_c.nd rfl (Or.inr rfl) (aA (vr 0) rfl)) (bg (ax (i:=4) sc_c.nd rfl (Or.inl rfl) (PE.or (al (aA (vr 0) rfl) T.cl_Q T.mt_ad M hr T.B_ad .nil af (aa (ag e hr rfl T.m_a T.F_a.kp T.B_a .nil af (aa (vr 2) ac)) ac)) (PE.or (al (aA (vr 0) rfl) T.cl_o T.mt_I ad hr T.B_I .nil af (aa (ag e hr rfl T.m_a T.F_a.kp T.B_a .nil af (aa (vr 2) ac)) ac)) (PE.or (al (aA (vr 0) rfl) T.cl_p T.mt_J an hr T.B_J .nil af (aa (ag e hr rfl T.m_a T.F_a.kp T.B_a .nil af (aa (vr 2) ac)) ac)) (PE.or (al (aA (vr 0) rfl) T.cl_A T.mt_W Z hr T.B_W .nil af (aa (ag e hr rfl T.m_a T.F_a.kp T.B_a .nil af (aa (vr 2) ac)) ac)) (PE.or (al (aA (vr 0) rfl) T.cl_t T.mt_D B hr T.B_D .nil af (aa (ag e hr rfl T.m_a T.F_a.kp T.B_a .nil af (aa (vr 2) ac)) ac)) (al (aA (vr 0) rfl) T.cl_g T.mt_c y hr T.B_c .nil af (aa (ag e hr rfl T.m_a T.F_a.kp T.B_a .nil af (aa (vr 2) ac)) ac)))))))) (hJ sc_c.nd (by decide +kernel) X hr rfl T.m_T T.F_T.kp T.B_T .nil (aa (vr 4) (aa (cm (d:=bC) rfl T.lch_c D rfl (by with_unfolding_all rfl) rfl (jw a) (.head _) T.tnd js) ac)))))),?_⟩;refine⟨l,g,xs,rfl,hl,hC,by rw[<- hC.len];lia,λm F=>⟨λz=>by have:=(f.path m F).1;rw[z]at this;unfold aI at this;split at this <;> simp at this,(f.path m F).2⟩,λH1 rg ys s1 hr1 hgs=>?_⟩;have b:=s1 _ _ hx;refine⟨x,_,j,_,_,rfl,b,T.cl_g,T.na_First_inside,rfl,?_⟩;have aS:=aZ s1.t;have I:=hu.n aS;refine Or.imp (λh=>⟨x,_,j,_,_,rfl,b,T.cl_g,T.na_First_outside,rfl,h⟩) (Or.imp (λh=>⟨x,_,j,_,_,rfl,b,T.cl_g,T.na_First_outside,rfl,h⟩) (Or.imp (λh=>⟨x,_,j,_,_,rfl,b,T.cl_g,T.na_First_outside,rfl,h⟩) (Or.imp (λh=>⟨x,_,j,_,_,rfl,b,T.cl_g,T.na_First_outside,rfl,h⟩) (Or.imp (λh=>⟨x,_,j,_,_,rfl,b,T.cl_g,T.na_First_outside,rfl,h⟩) (λh=>⟨x,_,j,_,_,rfl,b,T.cl_g,T.na_First_outside,rfl,h⟩))))) ?_
   refine dw (S:=spNode a N) "node" (λ_=>rfl) (λ_=>rfl) (λ_=>rfl) (λ_ _=>rfl) (λP=>spOuter [.ref rg] H1 P λ_ _ _=>False) I λkc E hkc=>?_
   refine⟨.ref rg,parts g,rfl,⟨rg,ys,rfl,hr1,hgs⟩,by lia,λc f=>by have:=(O.each c f).1.len;lia,λH2 l2 xs2 s2 _ h2 hC2=>?_⟩;refine⟨u,p,l2,xs2,Nst.outer (parts g),rfl,hkc,ho.1,I.n (aZ s2.t),h2,hC2,ok,hT.same (s1.trans s2),λH3 w t3 as L=>?_⟩;rw[aX]at L;refine⟨as,λf1 c1 H4 t4 W n1 Y ap=>λH5 s5 hc5=>?_⟩;have t5:=t4.trans s5.t;have o:=s2.t.trans (t3.trans t5);have G:=s1.t.trans o;refine⟨w,.ref f1,(parts g).length,_,g.length,rfl,L.n (aZ t5),.inr ⟨z,.ref rg,r,parts g,Nat.le_refl 6,⟨f1,c1,_,rfl,s5 _ _ Y,s5 _ _ ap,rfl,by simp,.cons (hc5 3 _ _ _ rfl rfl (by with_unfolding_all rfl)) (.cons (hc5 2 _ _ _ rfl rfl (by with_unfolding_all rfl)) .nil)⟩,ho.2,hz.n (aZ G),⟨rg,ys,rfl,o.at hr1,aC (CrL.n (aZ o)) hgs⟩,λc f=>(O.each c f).1,λks hks hok=>?_⟩,by lia,W.same s5,λH' w' t' hT' hN=>q _ _ (G.trans t') hT' (hN.ok λns _ z=>by cases z)⟩
   rcases fp with h | h
   .obtain⟨k1,k2⟩:=yK (hok h)
    exact⟨by lia,k1,by lia,by lia⟩
   .rw[h]at hks
    have:ks=[]:=length_eq_zero_iff.mp (by simpa using hks);subst this;exact⟨by decide,(λk R=>by cases R),Nat.zero_le _,Nat.zero_le _⟩
  | _=>cases R
theorem iG(T:Txt K mg a)(b:Bm mg base):∀ N,FnOk P w K mg base CX0 (nd N) a.x_D a.y_D ["self","crowd"] (spNode a N bw)/\FnOk P w K mg base CX0 (nd N) a.x_c a.y_c ["self","crowd"] (spNode a N aQ)
 | 0=>by
  have d:∀{vs:List V}{H:Hp}{Q:VK}{E:XK},¬spNode a 0 bw vs H Q E:=λh=>by obtain⟨_,pl,_,_,_,_,hk,ho,_⟩:=h;cases pl <;> first | exact ho | cases hk
  have c:∀{vs:List V}{H:Hp}{Q:VK}{E:XK},¬spNode a 0 aQ vs H Q E:=λh=>by obtain⟨_,pl,_,_,_,_,hk,ho,_⟩:=h;cases pl <;> first | exact ho | cases hk
  exact⟨⟨λ_ _ _ _ h=>(d h).elim,λ_ _ _ _ _ _ _ _ _ _ _ _ _ h=>(d h).elim⟩,⟨λ_ _ _ _ h=>(c h).elim,λ_ _ _ _ _ _ _ _ _ _ _ _ _ h=>(c h).elim⟩⟩
 | N+1=>by
  obtain⟨f,e⟩:=iG T b N;have G:=sR T b N f e 6 (by lia);have B:=qm T b N 6 (k:=gnD N 6+1) (by lia) (sk T b N 6 G) (ww T b N 6 G);refine⟨(uh T b N G).mono ?_,(rO T b N f e B).mono ?_⟩
  .show 24*N+10+3*6+1<=24*(N+1)+8;lia
  .show 24*N+10+3*6+3<=24*(N+1)+8;lia
theorem pN(T:Txt K mg a)(N:Nat)(a1:FnOk P w K mg base CX0 (N+6) a.x_l a.y_l ["self","crowd"] (spBo a N bw))(a0:FnOk P w K mg base CX0 (N+6) a.x_e a.y_e ["self","crowd"] (spBo a N aQ)):FnOk P w K mg base CX0 (N+1+6) a.x_l a.y_l ["self","crowd"] (spBo a (N+1) bw):=by
 have a4:FnOk P w K mg base CX0 (N+6) _ _ _ spParted:=(fH T).mono (by lia);have aS:FnOk P w K mg base CX0 (N+6) _ _ _ (spBo a N jn):=(ka T N).mono (by lia);have as:FnOk P w K mg base CX0 (N+6) _ _ _ (spBo a N dR):=(ia T N).mono (by lia);have ap:FnOk P w K mg base CX0 (N+6) _ _ _ (spBo a N dQ):=(hV T N).mono (by lia);have a7:FnOk P w K mg base CX0 (N+6) _ _ _ (spBo a N fw):=(iW T N).mono (by lia);refine T.F_l.ok sc_l (λvs H Q E h=>?_) (λcdv A outer s H vs Q E hr h=>?_)
 .obtain⟨v,pl,l,xs,ms,rfl,_⟩:=h;rfl
 .obtain⟨v,pl,l,xs,ms,rfl,hk,ho,hp,hl,hC,hc,q⟩:=h
  cases pl <;> try (cases hk;done)
  rename_i p;obtain⟨x,dx,u,rfl,hx,hu⟩:=hp;have a2:sizeLine=16777216:=sizeLine_eq;have pk:=oH hc;have m6:=hc.len;have a8:=pk.len;refine⟨_,(ai (fA rfl (i:=2) sc_l.nd rfl rfl (by with_unfolding_all rfl) (N:=["members","self"]) (ix:=[none,some 0]) ⟨rfl,rfl,rfl,rfl,⟨rfl,rfl,rfl,trivial⟩⟩ (aO (ag a4 hr rfl T.m_N T.F_N.kp T.B_N .nil af (aa (vr 1) ac))) ⟨λC s H R=>ao (i:=0) (show List.Nodup (["members","self"]:List Str) by decide +kernel) rfl (Or.inl rfl),λC s H R=>aL,λC s H R=>(PE.or (al (aY (K:=K) rfl (vr 1) rfl) T.cl_Q T.mt_B aS hr T.B_B .nil af (aa (vr 0) ac)) (PE.or (al (aY (K:=K) rfl (vr 1) rfl) T.cl_o T.mt_u as hr T.B_u .nil af (aa (vr 0) ac)) (PE.or (al (aY (K:=K) rfl (vr 1) rfl) T.cl_p T.mt_q ap hr T.B_q .nil af (aa (vr 0) ac)) (PE.or (al (aY (K:=K) rfl (vr 1) rfl) T.cl_A T.mt_v a7 hr T.B_v .nil af (aa (vr 0) ac)) (PE.or (al (aY (K:=K) rfl (vr 1) rfl) T.cl_t T.mt_l a1 hr T.B_l .nil af (aa (vr 0) ac)) (al (aY (K:=K) rfl (vr 1) rfl) T.cl_g T.mt_e a0 hr T.B_e .nil af (aa (vr 0) ac)))))))⟩) (aj (au (aE (aa (ay (dc rfl) rfl T.z_sum gD (aa (aP rfl (N:=["least","most"]) (ix:=[none,none]) ⟨rfl,rfl,rfl,rfl,trivial⟩ (aO (vr 2)) ⟨λC s H R=>(bx (K:=K) (n:=2) rfl rfl (aq (ao (i:=0) (show List.Nodup (["least","most"]:List Str) by decide +kernel) rfl (Or.inl rfl)) (aq (ao (i:=1) (show List.Nodup (["least","most"]:List Str) by decide +kernel) rfl (Or.inl rfl)) aJ))),λC s H R=>aL,λC s H R=>(vr 0)⟩) ac)) (aa (ay (dc rfl) rfl T.z_sum gD (aa (aP rfl (N:=["least","most"]) (ix:=[none,none]) ⟨rfl,rfl,rfl,rfl,trivial⟩ (aO (vr 2)) ⟨λC s H R=>(bx (K:=K) (n:=2) rfl rfl (aq (ao (i:=0) (show List.Nodup (["least","most"]:List Str) by decide +kernel) rfl (Or.inl rfl)) (aq (ao (i:=1) (show List.Nodup (["least","most"]:List Str) by decide +kernel) rfl (Or.inl rfl)) aJ))),λC s H R=>aL,λC s H R=>(vr 1)⟩) ac)) ac)))))),eE ?_⟩;intro a9
  refine⟨l,ms,xs,rfl,hl,hC,by rw[<- hC.len];lia,λm hm=>⟨λz=>by have:=(hc.path m hm).1;rw[z]at this;simp[aI]at this,(hc.path m hm).2⟩,λH1 r f s1 hr1 hgs=>?_⟩;have gl:(parts ms).length=f.length:=Paired.length hgs;refine .inl ⟨⟨_,SqL.of hr1⟩,λD hD=>?_⟩
  let Pw1:PvL:=λi O Z=>Same H1 Z/\Z D=some (.lst O)/\i<=(parts ms).length/\∃ B,Paired BdW ((parts ms).take i) B/\Paired (BdAt Z) B O
  refine aK (K:=K) (a:=r) (xs:=f) Pw1 ⟨Same.new hD,ae,Nat.zero_le _,[],.nil,.nil⟩ (λi f Z h=>SqL.of (h.1 _ _ hr1)) (λi f Z h=>h.2.1) ?_ ?_
  .rintro i y O Z P' hy ⟨s2,an,hi,B,W,hz⟩ M
   obtain⟨c,ab,lc,yc,rfl,a3,a5⟩:=aM hgs hy;have L:i<(parts ms).length:=(List.getElem?_eq_some_iff.mp ab).1;have g:=s1.trans s2;have zl:O.length=i:=by rw[<- hz.length,(pG W),length_take];lia
   refine⟨⟨rfl,trivial⟩,?_⟩;refine Or.imp (λh=>⟨x,_,dx,_,_,rfl,g _ _ hx,T.cl_t,T.na_Each_inside,rfl,h⟩) (Or.imp (λh=>⟨x,_,dx,_,_,rfl,g _ _ hx,T.cl_t,T.na_Each_inside,rfl,h⟩) (Or.imp (λh=>⟨x,_,dx,_,_,rfl,g _ _ hx,T.cl_t,T.na_Each_inside,rfl,h⟩) (Or.imp (λh=>⟨x,_,dx,_,_,rfl,g _ _ hx,T.cl_t,T.na_Each_inside,rfl,h⟩) (Or.imp (λh=>⟨x,_,dx,_,_,rfl,g _ _ hx,T.cl_t,T.na_Each_inside,rfl,h⟩) (λh=>⟨x,_,dx,_,_,rfl,g _ _ hx,T.cl_t,T.na_Each_inside,rfl,h⟩))))) ?_;have ad:=hu.n (aZ g.t)
   refine dw (S:=spBo a N) "bounds" (λ_=>rfl) (λ_=>rfl) (λ_=>rfl) (λ_ _=>rfl) (λP=>P (.ref lc) Z) ad λkc E hkc=>⟨u,p,lc,yc,c,rfl,hkc,ho,ad,s2 _ _ a3,a5.tk s2.tk,(pk.each c (List.mem_of_getElem? ab)).1,λH3 p3 lo hi s34 h4 b1 b2 b3=>?_⟩
   have d:=s34 _ _ an;have tk:TK H3 (upd H3 D (.lst (O++[.ref p3]))):=TK.lst d;refine⟨d,by lia,M _ _ ⟨(s2.trans s34).put hD,ae,L,B++[(lo,hi)],?_,bv ⟨p3,rfl,tk _ _ h4⟩ (aC (BdAt.tk (s34.tk.trans tk)) hz)⟩⟩;rw[take_add_one,ab];exact bv ⟨b1,b2,b3⟩ W
  .rintro O H2 ⟨s2,j,_,B,W,hz⟩
   rw[<- gl,take_length]at W
   have bl:=(pG W)
   have sz:Same H2 H2:=λb o e=>e
   refine .inl ⟨⟨_,SqL.of j⟩,λD2 G=>?_⟩
   let Pw2:PvL:=λi f F=>Same H2 F/\F D2=some (.lst f)/\i<=B.length/\f=((B.take i).map (·.1)).map V.int
   refine aK (K:=K) (a:=D) (xs:=O) Pw2 ⟨Same.new G,ae,Nat.zero_le _,rfl⟩ (λi f F h=>SqL.of (h.1 _ _ j)) (λi f F h=>h.2.1) ?_ ?_
   .rintro i y f F P' hy ⟨s9,X,hi,rfl⟩ M
    obtain⟨b9,I,q9,rfl,Y⟩:=aM hz hy;have L:i<B.length:=(List.getElem?_eq_some_iff.mp I).1;refine⟨q9,_,rfl,SqT.of (s9 _ _ (sz _ _ Y)),rfl,_,_,rfl,_,_,rfl,rfl,trivial,X,by rw[length_map,length_map,length_take];lia,M _ _ ⟨s9.put G,ae,L,?_⟩⟩;rw[take_add_one,I];simp
   .rintro y2 H3 ⟨s3,G,_,rfl⟩
    rw[show O.length=B.length from hz.length.symm,take_length]at G;refine⟨D2,_,rfl,SqL.of G,?_⟩;have j:=s3 _ _ j;have sz:=s3;refine .inl ⟨⟨_,SqL.of j⟩,λD3 d=>?_⟩
    let Pw3:PvL:=λi f F=>Same H3 F/\F D3=some (.lst f)/\i<=B.length/\f=((B.take i).map (·.2)).map V.int
    refine aK (K:=K) (a:=D) (xs:=O) Pw3 ⟨Same.new d,ae,Nat.zero_le _,rfl⟩ (λi f F h=>SqL.of (h.1 _ _ j)) (λi f F h=>h.2.1) ?_ ?_
    .rintro i y f F P' hy ⟨s9,X,hi,rfl⟩ M
     obtain⟨b9,I,q9,rfl,Y⟩:=aM hz hy;have L:i<B.length:=(List.getElem?_eq_some_iff.mp I).1;refine⟨q9,_,rfl,SqT.of (s9 _ _ (sz _ _ Y)),rfl,_,_,rfl,_,_,rfl,rfl,trivial,X,by rw[length_map,length_map,length_take];lia,M _ _ ⟨s9.put d,ae,L,?_⟩⟩;rw[take_add_one,I];simp
    .rintro y3 H4 ⟨s4,d,_,rfl⟩
     rw[show O.length=B.length from hz.length.symm,take_length]at d;refine⟨D3,_,rfl,SqL.of d,?_⟩;refine⟨cb _ _,λp5 a6=>?_⟩;exact q _ p5 _ _ (s1.trans (s2.trans (s3.trans (s4.trans (Same.new a6))))) ae (sj W).1 (sj W).2 (by rw[<- pk.all];exact(m9 W).2)
theorem qR(xs:List V)(k:Nat):eG xs none (some (k:Int))=xs.take k:=by
 unfold eG;rw[HT.sIx_nat,HT.sIx_none,List.drop_zero,Nat.sub_zero]
 by_cases h:k<=xs.length
 .rw[Nat.min_eq_left h]
 .rw[Nat.min_eq_right (by lia),take_of_length_le (Nat.le_refl _),take_of_length_le (by lia)]
theorem pJ(T:Txt K mg a)(N:Nat)(a0:FnOk P w K mg base CX0 (N+6) a.x_l a.y_l ["self","crowd"] (spBo a N bw))(a':FnOk P w K mg base CX0 (N+6) a.x_e a.y_e ["self","crowd"] (spBo a N aQ)):FnOk P w K mg base CX0 (N+1+6) a.x_e a.y_e ["self","crowd"] (spBo a (N+1) aQ):=by
 have bN:FnOk P w K mg base CX0 (N+6) _ _ _ spParted:=(fH T).mono (by lia);have G:FnOk P w K mg base CX0 (N+6) _ _ _ spOuter:=(ng T).mono (by lia);have a8:FnOk P w K mg base CX0 (N+6) _ _ _ (spBo a N jn):=(ka T N).mono (by lia);have aS:FnOk P w K mg base CX0 (N+6) _ _ _ (spBo a N dR):=(ia T N).mono (by lia);have a7:FnOk P w K mg base CX0 (N+6) _ _ _ (spBo a N dQ):=(hV T N).mono (by lia);have a6:FnOk P w K mg base CX0 (N+6) _ _ _ (spBo a N fw):=(iW T N).mono (by lia);refine T.F_e.ok sc_e (λvs H Q E h=>?_) (λcdv A outer s H vs Q E hr h=>?_)
 .obtain⟨v,pl,l,xs,ms,rfl,_⟩:=h;rfl
 .obtain⟨v,pl,l,xs,ms,rfl,hk,ho,hp,hl,hC,hc,q⟩:=h
  cases pl <;> try (cases hk;done)
  rename_i p r;obtain⟨x,M,u,z,rfl,L,hu,bm⟩:=hp;have cg:sizeLine=16777216:=sizeLine_eq;obtain⟨pk,ok,fp⟩:=mq hc;have m6:=hc.len;have ct:=pk.len
  refine⟨_,(ai (ax (i:=2) sc_e.nd rfl (Or.inl rfl) (ag bN hr rfl T.m_N T.F_N.kp T.B_N .nil af (aa (vr 1) ac))) (ai (gA (PE.or (al (aA (vr 0) rfl) T.cl_Q T.mt_B a8 hr T.B_B .nil af (aa (ag G hr rfl T.m_a T.F_a.kp T.B_a .nil af (aa (vr 2) ac)) ac)) (PE.or (al (aA (vr 0) rfl) T.cl_o T.mt_u aS hr T.B_u .nil af (aa (ag G hr rfl T.m_a T.F_a.kp T.B_a .nil af (aa (vr 2) ac)) ac)) (PE.or (al (aA (vr 0) rfl) T.cl_p T.mt_q a7 hr T.B_q .nil af (aa (ag G hr rfl T.m_a T.F_a.kp T.B_a .nil af (aa (vr 2) ac)) ac)) (PE.or (al (aA (vr 0) rfl) T.cl_A T.mt_v a6 hr T.B_v .nil af (aa (ag G hr rfl T.m_a T.F_a.kp T.B_a .nil af (aa (vr 2) ac)) ac)) (PE.or (al (aA (vr 0) rfl) T.cl_t T.mt_l a0 hr T.B_l .nil af (aa (ag G hr rfl T.m_a T.F_a.kp T.B_a .nil af (aa (vr 2) ac)) ac)) (al (aA (vr 0) rfl) T.cl_g T.mt_e a' hr T.B_e .nil af (aa (ag G hr rfl T.m_a T.F_a.kp T.B_a .nil af (aa (vr 2) ac)) ac))))))) (dz rfl (aq (ao (i:=3) sc_e.nd rfl (Or.inl rfl)) (aq (ao (i:=4) sc_e.nd rfl (Or.inl rfl)) aJ)))) (ai (fA rfl (i:=5) sc_e.nd rfl rfl (by with_unfolding_all rfl) (N:=["members","self"]) (ix:=[none,some 0]) ⟨rfl,rfl,rfl,rfl,⟨rfl,rfl,rfl,trivial⟩⟩ (aO (vr 2)) ⟨λC s H fp=>ao (i:=0) (show List.Nodup (["members","self"]:List Str) by decide +kernel) rfl (Or.inl rfl),λC s H fp=>aL,λC s H fp=>(PE.or (al (aY (K:=K) rfl (vr 1) rfl) T.cl_Q T.mt_B a8 hr T.B_B .nil af (aa (vr 0) ac)) (PE.or (al (aY (K:=K) rfl (vr 1) rfl) T.cl_o T.mt_u aS hr T.B_u .nil af (aa (vr 0) ac)) (PE.or (al (aY (K:=K) rfl (vr 1) rfl) T.cl_p T.mt_q a7 hr T.B_q .nil af (aa (vr 0) ac)) (PE.or (al (aY (K:=K) rfl (vr 1) rfl) T.cl_A T.mt_v a6 hr T.B_v .nil af (aa (vr 0) ac)) (PE.or (al (aY (K:=K) rfl (vr 1) rfl) T.cl_t T.mt_l a0 hr T.B_l .nil af (aa (vr 0) ac)) (al (aY (K:=K) rfl (vr 1) rfl) T.cl_g T.mt_e a' hr T.B_e .nil af (aa (vr 0) ac)))))))⟩) (ai (ax (i:=6) sc_e.nd rfl (Or.inl rfl) (ay hX rfl T.z_sorted gJ (aa (aP rfl (N:=["low","high"]) (ix:=[none,none]) ⟨rfl,rfl,rfl,rfl,trivial⟩ (aO (vr 5)) ⟨λC s H fp=>(bx (K:=K) (n:=2) rfl rfl (aq (ao (i:=0) (show List.Nodup (["low","high"]:List Str) by decide +kernel) rfl (Or.inl rfl)) (aq (ao (i:=1) (show List.Nodup (["low","high"]:List Str) by decide +kernel) rfl (Or.inl rfl)) aJ))),λC s H fp=>aL,λC s H fp=>(vr 0)⟩) ac))) (ai (ax (i:=7) sc_e.nd rfl (Or.inl rfl) (mW rfl T.z_sorted gJ (aP rfl (N:=["low","high"]) (ix:=[none,none]) ⟨rfl,rfl,rfl,rfl,trivial⟩ (aO (vr 5)) ⟨λC s H fp=>(bx (K:=K) (n:=2) rfl rfl (aq (ao (i:=0) (show List.Nodup (["low","high"]:List Str) by decide +kernel) rfl (Or.inl rfl)) (aq (ao (i:=1) (show List.Nodup (["low","high"]:List Str) by decide +kernel) rfl (Or.inl rfl)) aJ))),λC s H fp=>aL,λC s H fp=>(vr 1)⟩) fz)) (aj (au (aE (aa (ay (dc rfl) rfl T.z_sum gD (aa (dW gB (vr 6) eW (eZ (vr 3))) ac)) (aa (ay (dc rfl) rfl T.z_sum gD (aa (dW gB (vr 7) eW (eZ (vr 4))) ac)) ac)))))))))),rZ ?_⟩
  intro co ck cs cC cB;refine⟨l,ms,xs,rfl,hl,hC,by rw[<- hC.len];lia,λm a9=>⟨λz=>by have:=(hc.path m a9).1;rw[z]at this;unfold aI at this;split at this <;> simp at this,(hc.path m a9).2⟩,λH1 rg g s1 hr1 hgs=>?_⟩;have gl:(parts ms).length=g.length:=Paired.length hgs;refine Or.imp (λh=>⟨x,_,M,_,_,rfl,s1 _ _ L,T.cl_g,T.na_First_outside,rfl,h⟩) (Or.imp (λh=>⟨x,_,M,_,_,rfl,s1 _ _ L,T.cl_g,T.na_First_outside,rfl,h⟩) (Or.imp (λh=>⟨x,_,M,_,_,rfl,s1 _ _ L,T.cl_g,T.na_First_outside,rfl,h⟩) (Or.imp (λh=>⟨x,_,M,_,_,rfl,s1 _ _ L,T.cl_g,T.na_First_outside,rfl,h⟩) (Or.imp (λh=>⟨x,_,M,_,_,rfl,s1 _ _ L,T.cl_g,T.na_First_outside,rfl,h⟩) (λh=>⟨x,_,M,_,_,rfl,s1 _ _ L,T.cl_g,T.na_First_outside,rfl,h⟩))))) ?_;have a5:=hu.n (aZ s1.t);refine dw (S:=spBo a N) "bounds" (λ_=>rfl) (λ_=>rfl) (λ_=>rfl) (λ_ _=>rfl) (λP=>spOuter [.ref rg] H1 P λ_ _ _=>False) a5 λkc E hkc=>?_
  refine⟨.ref rg,parts ms,rfl,⟨rg,g,rfl,hr1,hgs⟩,by lia,λc hc=>by have:=(pk.each c hc).1.len;lia,λH2 l2 xs2 s2 _ h2 hC2=>?_⟩;refine⟨u,p,l2,xs2,Nst.outer (parts ms),rfl,hkc,ho.1,a5.n (aZ s2.t),h2,hC2,ok,λH3 p3 lo hi s3 h3 b1 b2 b3=>?_⟩;obtain⟨fe,rfl⟩:=Int.eq_ofNat_of_zero_le b1;obtain⟨mo,rfl⟩:=Int.eq_ofNat_of_zero_le (Int.le_trans b1 b2);refine⟨p3,_,rfl,SqT.of h3,rfl,_,_,rfl,_,_,rfl,rfl,?_⟩;have an:=s2.trans s3;have as:=s1.trans an;have a1:=an _ _ hr1;refine .inl ⟨⟨_,SqL.of a1⟩,λD hD=>?_⟩
  let Pw4:PvL:=λi Y H'=>Same H3 H'/\H' D=some (.lst Y)/\i<=(parts ms).length/\∃ I,Paired BdW ((parts ms).take i) I/\Paired (BdAt H') I Y
  refine aK (K:=K) (a:=rg) (xs:=g) Pw4 ⟨Same.new hD,ae,Nat.zero_le _,[],.nil,.nil⟩ (λi g H' h=>SqL.of (h.1 _ _ a1)) (λi g H' h=>h.2.1) ?_ ?_
  .rintro i y Y H' P' hy ⟨s4,b4,hi,I,hb,hz⟩ X
   obtain⟨c,ad,lc,yc,rfl,cj,b6⟩:=aM hgs hy;have W:i<(parts ms).length:=(List.getElem?_eq_some_iff.mp ad).1;have j:=as.trans s4;have a4:=an.trans s4;have zl:Y.length=i:=by rw[<- hz.length,(pG hb),length_take];lia
   refine⟨⟨rfl,trivial⟩,?_⟩;refine Or.imp (λh=>⟨x,_,M,_,_,rfl,j _ _ L,T.cl_g,T.na_First_inside,rfl,h⟩) (Or.imp (λh=>⟨x,_,M,_,_,rfl,j _ _ L,T.cl_g,T.na_First_inside,rfl,h⟩) (Or.imp (λh=>⟨x,_,M,_,_,rfl,j _ _ L,T.cl_g,T.na_First_inside,rfl,h⟩) (Or.imp (λh=>⟨x,_,M,_,_,rfl,j _ _ L,T.cl_g,T.na_First_inside,rfl,h⟩) (Or.imp (λh=>⟨x,_,M,_,_,rfl,j _ _ L,T.cl_g,T.na_First_inside,rfl,h⟩) (λh=>⟨x,_,M,_,_,rfl,j _ _ L,T.cl_g,T.na_First_inside,rfl,h⟩))))) ?_;have a3:=bm.n (aZ j.t)
   refine dw (S:=spBo a N) "bounds" (λ_=>rfl) (λ_=>rfl) (λ_=>rfl) (λ_ _=>rfl) (λP=>P (.ref lc) H') a3 λkc E hkc=>⟨z,r,lc,yc,c,rfl,hkc,ho.2,a3,a4 _ _ cj,b6.tk a4.tk,(pk.each c (List.mem_of_getElem? ad)).1,λH6 p6 lo hi s56 h6 c1 c2 c3=>?_⟩
   have d:=s56 _ _ b4;have tk:TK H6 (upd H6 D (.lst (Y++[.ref p6]))):=TK.lst d;refine⟨d,by lia,X _ _ ⟨(s4.trans s56).put hD,ae,W,I++[(lo,hi)],?_,bv ⟨p6,rfl,tk _ _ h6⟩ (aC (BdAt.tk (s56.tk.trans tk)) hz)⟩⟩;rw[take_add_one,ad];exact bv ⟨c1,c2,c3⟩ hb
  .rintro Y H4 ⟨s4,F,_,I,hb,hz⟩
   rw[<- gl,take_length]at hb
   have bl:=(pG hb)
   have sz:Same H4 H4:=λb o e=>e
   refine .inl ⟨⟨_,SqL.of F⟩,λD2 O=>?_⟩
   let Pw5:PvL:=λi g B=>Same H4 B/\B D2=some (.lst g)/\i<=I.length/\g=((I.take i).map (·.1)).map V.int
   refine aK (K:=K) (a:=D) (xs:=Y) Pw5 ⟨Same.new O,ae,Nat.zero_le _,rfl⟩ (λi g B h=>SqL.of (h.1 _ _ F)) (λi g B h=>h.2.1) ?_ ?_
   .rintro i y g B P' hy ⟨s9,ap,hi,rfl⟩ X
    obtain⟨b9,R,q9,rfl,ab⟩:=aM hz hy;have W:i<I.length:=(List.getElem?_eq_some_iff.mp R).1;refine⟨q9,_,rfl,SqT.of (s9 _ _ (sz _ _ ab)),rfl,_,_,rfl,_,_,rfl,rfl,trivial,ap,by rw[length_map,length_map,length_take];lia,X _ _ ⟨s9.put O,ae,W,?_⟩⟩;rw[take_add_one,R];simp
   .rintro y2 H5 ⟨s5,O,_,rfl⟩
    rw[show Y.length=I.length from hz.length.symm,take_length]at O;refine⟨D2,_,rfl,SqL.of O,by rw[length_map];lia,λq1 ls ch b5 f1=>?_⟩;have s6:=Same.new (o:=.lst (ls.map V.int)) f1;have h6:(upd H5 q1 (.lst (ls.map V.int))) q1=some (.lst (ls.map V.int)):=ae;generalize upd H5 q1 (.lst (ls.map V.int))=H6 at s6 h6;have F:=s6 _ _ (s5 _ _ F);have sz:=s5.trans s6;refine .inl ⟨⟨_,SqL.of F⟩,λD3 d=>?_⟩
    let Pw6:PvL:=λi g B=>Same H6 B/\B D3=some (.lst g)/\i<=I.length/\g=((I.take i).map (·.2)).map V.int
    refine aK (K:=K) (a:=D) (xs:=Y) Pw6 ⟨Same.new d,ae,Nat.zero_le _,rfl⟩ (λi g B h=>SqL.of (h.1 _ _ F)) (λi g B h=>h.2.1) ?_ ?_
    .rintro i y g B P' hy ⟨s9,ap,hi,rfl⟩ X
     obtain⟨b9,R,q9,rfl,ab⟩:=aM hz hy;have W:i<I.length:=(List.getElem?_eq_some_iff.mp R).1;refine⟨q9,_,rfl,SqT.of (s9 _ _ (sz _ _ ab)),rfl,_,_,rfl,_,_,rfl,rfl,trivial,ap,by rw[length_map,length_map,length_take];lia,X _ _ ⟨s9.put d,ae,W,?_⟩⟩;rw[take_add_one,R];simp
    .rintro y3 H7 ⟨s7,d,_,rfl⟩
     rw[show Y.length=I.length from hz.length.symm,take_length]at d;refine⟨D3,_,rfl,SqL.of d,by rw[length_map];lia,λq2 hs ca bo f2=>?_⟩;have s8:=Same.new (o:=.lst (hs.map V.int)) f2;have h8:(upd H7 q2 (.lst (hs.map V.int))) q2=some (.lst (hs.map V.int)):=ae;generalize upd H7 q2 (.lst (hs.map V.int))=H8 at s8 h8;refine⟨_,rfl,.inl ⟨_,SqL.of (s8 _ _ (s7 _ _ h6)),λl9 f9=>?_⟩⟩;rw[qR,<- map_take];have s9:=Same.new (o:=.lst ((ls.take fe).map V.int)) f9;have h9:(upd H8 l9 (.lst ((ls.take fe).map V.int))) l9=some (.lst ((ls.take fe).map V.int)):=ae;generalize upd H8 l9 (.lst ((ls.take fe).map V.int))=B at s9 h9;refine⟨l9,_,rfl,SqL.of h9,?_⟩;refine⟨_,rfl,.inl ⟨_,SqL.of (s9 _ _ h8),λZ b'=>?_⟩⟩;rw[qR,<- map_take];have bd:=Same.new (o:=.lst ((hs.take mo).map V.int)) b';have a2:(upd B Z (.lst ((hs.take mo).map V.int))) Z=some (.lst ((hs.take mo).map V.int)):=ae;generalize upd B Z (.lst ((hs.take mo).map V.int))=H10 at bd a2;refine⟨Z,_,rfl,SqL.of a2,?_⟩;refine⟨cb _ _,λp5 b0=>?_⟩;obtain⟨f0,f1,f2⟩:=uG (f:=fe) (m:=mo) (m9 hb).1 ch b5 ca bo (by lia);exact q _ p5 _ _ (as.trans (s4.trans (s5.trans (s6.trans (s7.trans (s8.trans (s9.trans (bd.trans (Same.new b0))))))))) ae f0 f1 (by rw[<- pk.all];exact Int.le_trans f2 (m9 hb).2)
theorem fO(T:Txt K mg a):∀ N,FnOk P w K mg base CX0 (N+6) a.x_l a.y_l ["self","crowd"] (spBo a N bw)/\FnOk P w K mg base CX0 (N+6) a.x_e a.y_e ["self","crowd"] (spBo a N aQ)
 | 0=>by
  have d:∀{vs:List V}{H:Hp}{Q:VK}{E:XK},¬spBo a 0 bw vs H Q E:=λh=>by obtain⟨_,pl,_,_,_,_,hk,ho,_⟩:=h;cases pl <;> first | exact ho | cases hk
  have b:∀{vs:List V}{H:Hp}{Q:VK}{E:XK},¬spBo a 0 aQ vs H Q E:=λh=>by obtain⟨_,pl,_,_,_,_,hk,ho,_⟩:=h;cases pl <;> first | exact ho | cases hk
  exact⟨⟨λ_ _ _ _ h=>(d h).elim,λ_ _ _ _ _ _ _ _ _ _ _ _ _ h=>(d h).elim⟩,⟨λ_ _ _ _ h=>(b h).elim,λ_ _ _ _ _ _ _ _ _ _ _ _ _ h=>(b h).elim⟩⟩
 | N+1=>by
  obtain⟨e,c⟩:=fO T N;exact⟨pN T N e c,pJ T N e c⟩
end
open Nst (Mb plc szs hd tl dr groups aW parts outer aX bq bz)
def xI(c:Addr)(H:Hp)(E:XK):Prop:=∀ H',Same H H'->E (.ref c) none H'
theorem wt{H a:Hp}{E:XK}{c:Addr}(s:Same H a)(q:∀ H',Same H H'->E (.ref c) none H'):∀ z,a z=none->∃ x dct φ,V.ref z=.ref x/\(upd a z (.ext (XD0 z c))) x=some (.ext φ)/\(∀ h,φ h->XU x c dct h)/\H x=none/\E (.ref c) dct (untr (upd a z (.ext (XD0 z c))) x):=λz d=>by
 refine⟨z,none,_,rfl,ae,λh y=>y,?_,q _ λb o e=>?_⟩
 .cases hh:H z with
  | none=>rfl
  | some o=>rw[s _ _ hh]at d;cases d
 .have f:b≠z:=λy=>by rw[<- y,s _ _ e]at d;cases d
  rw[cQ f,ar f];exact s _ _ e
theorem mL{pl:Pl}(h:ir pl=true):aI pl=0:=by cases pl <;> first | rfl | cases h
inductive spNGN(a:Ad)(vs:List V)(H:Hp)(Q:VK)(E:XK):Prop
 | mk(n:Nat)(h0:vs=[.int (n:Nat)])(h1:((n=0/\xI a.c_L H E)\/(n≠0/\Q .non H))):spNGN a vs H Q E
def B9(a:Ad)(pl:Pl)(n:Nat)(H:Hp)(Q:VK)(E:XK):Prop:=(aI pl<=n/\Q .non H)\/(n<aI pl/\xI a.c_L H E)
inductive spNL(a:Ad)(N:Nat)(c:Pl->Bool)(vs:List V)(H:Hp)(Q:VK)(E:XK):Prop
 | mk(v:V)(pl:Pl)(n:Nat)(h0:vs=[v,.int (n:Nat)])(h1:c pl=true)(h2:okP N pl)(h3:IsPn a H v pl)(h4:n<=3)(h5:B9 a pl n H Q E):spNL a N c vs H Q E
theorem lL{a:Ad}{H:Hp}{v:V}{pl:Pl}{S:(Pl->Bool)->Sp}{Q:VK}{E:XK}(e:Str)(g:∀ x:V,[(("many" : Str),x)].lookup e=none)(j:∀ x:V,[(("step" : Str),x)].lookup e=none)(l:∀ x:V,[(("inside" : Str),x)].lookup e=none)(i:∀ x y:V,[(("outside" : Str),x),(("inside" : Str),y)].lookup e=none)(W:(V->Hp->Prop)->Prop)(f:IsPn a H v pl)(h:∀ c,c pl=true->W λy H1=>S c [v,y] H1 Q E) :
  (∃(b dx:Addr) (fs:List (Str×V)),v=.ref b/\H b=some (.ins a.c_Q dx fs)/\fs.lookup e=none/\W λy H1=>S ir [v,y] H1 Q E)\/(∃(b dx:Addr) (fs:List (Str×V)),v=.ref b/\H b=some (.ins a.c_o dx fs)/\fs.lookup e=none/\W λy H1=>S ir [v,y] H1 Q E)\/(∃(b dx:Addr) (fs:List (Str×V)),v=.ref b/\H b=some (.ins a.c_p dx fs)/\fs.lookup e=none/\W λy H1=>S ir [v,y] H1 Q E)\/(∃(b dx:Addr) (fs:List (Str×V)),v=.ref b/\H b=some (.ins a.c_A dx fs)/\fs.lookup e=none/\W λy H1=>S ir [v,y] H1 Q E)\/(∃(b dx:Addr) (fs:List (Str×V)),v=.ref b/\H b=some (.ins a.c_t dx fs)/\fs.lookup e=none/\W λy H1=>S bw [v,y] H1 Q E)\/(∃(b dx:Addr) (fs:List (Str×V)),v=.ref b/\H b=some (.ins a.c_g dx fs)/\fs.lookup e=none/\W λy H1=>S aQ [v,y] H1 Q E):=by
 cases pl with
 | few m=>obtain⟨x,dx,rfl,d⟩:=f;exact .inl ⟨x,dx,_,rfl,d,g _,h _ rfl⟩
 | start m=>obtain⟨x,dx,rfl,d⟩:=f;exact .inr (.inl ⟨x,dx,_,rfl,d,j _,h _ rfl⟩)
 | loose m=>obtain⟨x,dx,rfl,d⟩:=f;exact .inr (.inr (.inl ⟨x,dx,_,rfl,d,g _,h _ rfl⟩))
 | duel m=>obtain⟨x,dx,rfl,d⟩:=f;exact .inr (.inr (.inr (.inl ⟨x,dx,_,rfl,d,g _,h _ rfl⟩)))
 | each p=>obtain⟨x,dx,u,rfl,d,_⟩:=f;exact .inr (.inr (.inr (.inr (.inl ⟨x,dx,_,rfl,d,l _,h _ rfl⟩))))
 | first p q=>obtain⟨x,dx,u,z,rfl,d,_⟩:=f;exact .inr (.inr (.inr (.inr (.inr ⟨x,dx,_,rfl,d,i _ _,h _ rfl⟩))))
section
variable {P:Program}{w:World}{K:Frag}{mg:Str->Option Value}{base:Heap}{a:Ad}
theorem yf(T:Txt K mg a)(N:Nat):FnOk P w K mg base (CXG P w) 1 a.x_h a.y_h ["self","levels"] (spNL a N ir):=by
 refine T.F_h.okG jl (λc H Q E h=>?_) (λcdv A outer s H c Q E hr h=>?_)
 .obtain⟨v,b,n,rfl,_⟩:=h;rfl
 .obtain⟨v,b,n,rfl,d,f,g,e,h⟩:=h
  have z:=mL d
  rcases h with⟨_,q⟩ | ⟨i,_⟩
  .exact⟨_,(aj xL),q⟩
  .lia
theorem zD(T:Txt K mg a):FnOk P w K mg base (CXG P w) 1 a.f_U a.d_U ["levels"] (spNGN a):=by
 refine T.F_U.okG jm (λb H Q E h=>?_) (λcdv A outer s H b Q E hr h=>?_)
 .obtain⟨n,rfl,_⟩:=h;rfl
 .obtain⟨n,rfl,h⟩:=h
  refine⟨_,(aj (aR (aT eC (vr 0) ah (aG _)) (aj (ol T.xc_L T.xh_L (sL T.xi_NoLevel T.kc_NoLevel rfl T.mc_L))) aD)),?_⟩
  rcases h with⟨rfl,q⟩ | ⟨d,q⟩
  .exact wt (Same.refl H) q
  .exact ifN (c:=(n:Int)=0) (by lia) q
theorem oi(T:Txt K mg a):∀ N,FnOk P w K mg base (CXG P w) (N+2) a.x_w a.y_w ["self","levels"] (spNL a N bw)/\FnOk P w K mg base (CXG P w) (N+2) a.x_r a.y_r ["self","levels"] (spNL a N aQ)
 | 0=>by
  have I:∀{i:List V}{H:Hp}{Q:VK}{E:XK},¬spNL a 0 bw i H Q E:=λh=>by obtain⟨_,f,_,_,l,g,_⟩:=h;cases f <;> first | exact g | cases l
  have y:∀{i:List V}{H:Hp}{Q:VK}{E:XK},¬spNL a 0 aQ i H Q E:=λh=>by obtain⟨_,f,_,_,l,g,_⟩:=h;cases f <;> first | exact g | cases l
  exact⟨⟨λ_ _ _ _ h=>(I h).elim,λ_ _ _ _ _ _ _ _ _ _ _ _ _ h=>(I h).elim⟩,⟨λ_ _ _ _ h=>(y h).elim,λ_ _ _ _ _ _ _ _ _ _ _ _ _ h=>(y h).elim⟩⟩
 | N+1=>by
  have m:FnOk P w K mg base (CXG P w) (N+2) _ _ _ (spNL a N bw):=(oi T N).1;have j:FnOk P w K mg base (CXG P w) (N+2) _ _ _ (spNL a N aQ):=(oi T N).2;have b:FnOk P w K mg base (CXG P w) (N+2) _ _ _ (spNL a N ir):=(yf T N).mono (by lia);have o:FnOk P w K mg base (CXG P w) (N+2) _ _ _ (spNGN a):=(zD T).mono (by lia);have C:∀{n:Nat},((n+1:Nat):Int) - 1=(n:Int):=λ{n}=>by lia
  constructor
  .refine T.F_w.okG jj (λi H Q E h=>?_) (λcdv A outer s H i Q E hr h=>?_)
   .obtain⟨v,f,n,rfl,_⟩:=h;rfl
   .obtain⟨v,f,n,rfl,l,g,F,O,h⟩:=h
    cases f <;> try (cases l;done)
    rename_i p;obtain⟨x,d,u,rfl,e,B⟩:=F;have D:aI (.each p)=1+aI p:=rfl;refine⟨_,(ai (dX (ag o hr rfl T.m_U T.F_U.kp T.B_U .nil cE (aa (vr 1) ac))) (aj (dX (PE.or (al (aA (vr 0) rfl) T.cl_Q T.mt_Few_need_levels b hr T.B_h .nil cE (aa (aw cU (vr 1) ah) ac)) (PE.or (al (aA (vr 0) rfl) T.cl_o T.mt_Start_need_levels b hr T.B_h .nil cE (aa (aw cU (vr 1) ah) ac)) (PE.or (al (aA (vr 0) rfl) T.cl_p T.mt_Loose_need_levels b hr T.B_h .nil cE (aa (aw cU (vr 1) ah) ac)) (PE.or (al (aA (vr 0) rfl) T.cl_A T.mt_Duel_need_levels b hr T.B_h .nil cE (aa (aw cU (vr 1) ah) ac)) (PE.or (al (aA (vr 0) rfl) T.cl_t T.mt_w m hr T.B_w .nil cE (aa (aw cU (vr 1) ah) ac)) (al (aA (vr 0) rfl) T.cl_g T.mt_r j hr T.B_r .nil cE (aa (aw cU (vr 1) ah) ac)))))))))),eE ?_⟩;intro G;cases n with
    | zero =>
     rcases h with⟨h,_⟩ | ⟨_,q⟩
     .lia
     .exact⟨0,rfl,.inl ⟨rfl,q⟩⟩
    | succ n =>
     refine⟨n+1,rfl,.inr ⟨by lia,?_⟩⟩;refine Or.imp (λh=>⟨x,_,d,_,_,rfl,e,T.cl_t,T.na_Each_inside,rfl,h⟩) (Or.imp (λh=>⟨x,_,d,_,_,rfl,e,T.cl_t,T.na_Each_inside,rfl,h⟩) (Or.imp (λh=>⟨x,_,d,_,_,rfl,e,T.cl_t,T.na_Each_inside,rfl,h⟩) (Or.imp (λh=>⟨x,_,d,_,_,rfl,e,T.cl_t,T.na_Each_inside,rfl,h⟩) (Or.imp (λh=>⟨x,_,d,_,_,rfl,e,T.cl_t,T.na_Each_inside,rfl,h⟩) (λh=>⟨x,_,d,_,_,rfl,e,T.cl_t,T.na_Each_inside,rfl,h⟩))))) ?_;refine lL (S:=spNL a N) "need_levels" (λ_=>rfl) (λ_=>rfl) (λ_=>rfl) (λ_ _=>rfl) (λP=>P (.int (((n+1:Nat):Int) - 1)) H) B λkc hkc=>?_
     rw[C];exact⟨u,p,n,rfl,hkc,g,B,by lia,h.imp (λ⟨h,q⟩=>⟨by lia,q⟩) λ⟨h,q⟩=>⟨by lia,q⟩⟩
  .refine T.F_r.okG iH (λi H Q E h=>?_) (λcdv A outer s H i Q E hr h=>?_)
   .obtain⟨v,f,n,rfl,_⟩:=h;rfl
   .obtain⟨v,f,n,rfl,l,g,F,O,h⟩:=h
    cases f <;> try (cases l;done)
    rename_i p r;obtain⟨x,d,u,z,rfl,e,B,L⟩:=F;have D:aI (.first p r)=if 0<aI p then 9 else 1+aI r:=rfl
    refine⟨_,(ai (dX (ag o hr rfl T.m_U T.F_U.kp T.B_U .nil cE (aa (vr 1) ac))) (ai (dX (PE.or (al (aA (vr 0) rfl) T.cl_Q T.mt_Few_need_levels b hr T.B_h .nil cE (aa ah ac)) (PE.or (al (aA (vr 0) rfl) T.cl_o T.mt_Start_need_levels b hr T.B_h .nil cE (aa ah ac)) (PE.or (al (aA (vr 0) rfl) T.cl_p T.mt_Loose_need_levels b hr T.B_h .nil cE (aa ah ac)) (PE.or (al (aA (vr 0) rfl) T.cl_A T.mt_Duel_need_levels b hr T.B_h .nil cE (aa ah ac)) (PE.or (al (aA (vr 0) rfl) T.cl_t T.mt_w m hr T.B_w .nil cE (aa ah ac)) (al (aA (vr 0) rfl) T.cl_g T.mt_r j hr T.B_r .nil cE (aa ah ac)))))))) (aj (dX (PE.or (al (aA (vr 0) rfl) T.cl_Q T.mt_Few_need_levels b hr T.B_h .nil cE (aa (aw cU (vr 1) ah) ac)) (PE.or (al (aA (vr 0) rfl) T.cl_o T.mt_Start_need_levels b hr T.B_h .nil cE (aa (aw cU (vr 1) ah) ac)) (PE.or (al (aA (vr 0) rfl) T.cl_p T.mt_Loose_need_levels b hr T.B_h .nil cE (aa (aw cU (vr 1) ah) ac)) (PE.or (al (aA (vr 0) rfl) T.cl_A T.mt_Duel_need_levels b hr T.B_h .nil cE (aa (aw cU (vr 1) ah) ac)) (PE.or (al (aA (vr 0) rfl) T.cl_t T.mt_w m hr T.B_w .nil cE (aa (aw cU (vr 1) ah) ac)) (al (aA (vr 0) rfl) T.cl_g T.mt_r j hr T.B_r .nil cE (aa (aw cU (vr 1) ah) ac))))))))))),il ?_⟩;intro M G;cases n with
    | zero =>
     rcases h with⟨h,_⟩ | ⟨_,q⟩
     .split at D <;> lia
     .exact⟨0,rfl,.inl ⟨rfl,q⟩⟩
    | succ n =>
     refine⟨n+1,rfl,.inr ⟨by lia,?_⟩⟩;refine Or.imp (λh=>⟨x,_,d,_,_,rfl,e,T.cl_g,T.na_First_outside,rfl,h⟩) (Or.imp (λh=>⟨x,_,d,_,_,rfl,e,T.cl_g,T.na_First_outside,rfl,h⟩) (Or.imp (λh=>⟨x,_,d,_,_,rfl,e,T.cl_g,T.na_First_outside,rfl,h⟩) (Or.imp (λh=>⟨x,_,d,_,_,rfl,e,T.cl_g,T.na_First_outside,rfl,h⟩) (Or.imp (λh=>⟨x,_,d,_,_,rfl,e,T.cl_g,T.na_First_outside,rfl,h⟩) (λh=>⟨x,_,d,_,_,rfl,e,T.cl_g,T.na_First_outside,rfl,h⟩))))) ?_
     refine lL (S:=spNL a N) "need_levels" (λ_=>rfl) (λ_=>rfl) (λ_=>rfl) (λ_ _=>rfl) (λP=>P (.int 0) H) B λkc hkc=>⟨u,p,0,rfl,hkc,g.1,B,by lia,?_⟩
     by_cases c:0<aI p
     .rw[if_pos c]at D
      rcases h with⟨h,_⟩ | ⟨_,q⟩
      .lia
      .exact .inr ⟨c,q⟩
     .rw[if_neg c]at D
      refine .inl ⟨by lia,?_⟩;refine Or.imp (λh=>⟨x,_,d,_,_,rfl,e,T.cl_g,T.na_First_inside,rfl,h⟩) (Or.imp (λh=>⟨x,_,d,_,_,rfl,e,T.cl_g,T.na_First_inside,rfl,h⟩) (Or.imp (λh=>⟨x,_,d,_,_,rfl,e,T.cl_g,T.na_First_inside,rfl,h⟩) (Or.imp (λh=>⟨x,_,d,_,_,rfl,e,T.cl_g,T.na_First_inside,rfl,h⟩) (Or.imp (λh=>⟨x,_,d,_,_,rfl,e,T.cl_g,T.na_First_inside,rfl,h⟩) (λh=>⟨x,_,d,_,_,rfl,e,T.cl_g,T.na_First_inside,rfl,h⟩))))) ?_;refine lL (S:=spNL a N) "need_levels" (λ_=>rfl) (λ_=>rfl) (λ_=>rfl) (λ_ _=>rfl) (λP=>P (.int (((n+1:Nat):Int) - 1)) H) L λkc hkc=>?_
      rw[C];exact⟨z,r,n,rfl,hkc,g.2,L,by lia,h.imp (λ⟨h,q⟩=>⟨by lia,q⟩) λ⟨h,q⟩=>⟨by lia,q⟩⟩
end
open Nst (Mb plc szs hd tl dr groups aW parts outer aX bq bz)
def No1(H:Hp)(l:Addr):Prop:=∃(xs:List V) (q:Addr) (p s:Int) (pt:Addr),H l=some (.lst (.ref q::xs))/\H q=some (.tup [.int p,.int s,.ref pt])/\H pt=some (.tup [])
theorem No1.same{H a:Hp}{l:Addr}(s:Same H a)(h:No1 H l):No1 a l:=let ⟨xs,q,p,z,pt,h1,h2,h3⟩:=h;⟨xs,q,p,z,pt,s _ _ h1,s _ _ h2,s _ _ h3⟩
inductive spGR(a:Ad)(vs:List V)(H:Hp)(_:VK)(E:XK):Prop
 | mk(l:Addr)(h0:vs=[.ref l])(h1:No1 H l)(h2:xI a.c_L H E):spGR a vs H _ E
inductive spRz(a:Ad)(c:Pl->Bool)(vs:List V)(H:Hp)(_:VK)(E:XK):Prop
 | mk(v:V)(pl:Pl)(l:Addr)(h0:vs=[v,.ref l])(h1:c pl=true)(h2:IsPn a H v pl)(h3:No1 H l)(h4:xI a.c_L H E):spRz a c vs H _ E
theorem Fun.okGc{P:Program}{w:World}{K:Frag}{mg:Str->Option Value}{b:Heap}{x a:Str}{st:Stmt}{f c:Addr}{i:FuncData}{N ps:List Str}{k:Nat}{sp:Sp}(F:Fun K x a st f i)(l:i.code=.ref c)(S:FnScope N ps (am st))(j:∀ vs H Q E,sp vs H Q E->vs.length=ps.length)
  (d:∀(A:Around) (outer:List Env) (s:Shared) (H:Hp) (vs:List V) (Q:VK) (E:XK),Room k (A.deeper (PyProof.Rows.envOfC a (am st) s.heap.objs.size f (.ref c)))->sp vs H Q E ->
   ∃ t,PSs (cxG P w K mg b N a (am st) f (.ref c) A outer s H E) (eX st) t/\t { nx:=λ_ H'=>Q .non H',rt:=Q } (start N vs) H):FnOk P w K mg b (CXG P w) (k+1) f i ps sp:=by
 obtain⟨D,u,C,m,B,v,g,y,o,rfl,p,e⟩:=F.ex;obtain rfl:g=.ref c:=l;exact vN p e S j λA outer s H vs Q E r h=>d A outer s H vs Q E r h
section
variable {P:Program}{w:World}{K:Frag}{mg:Str->Option Value}{base:Heap}{a:Ad}
theorem rD(T:Txt K mg a):FnOk P w K mg base (CXG P w) 1 a.f_ab a.d_ab ["crowd"] (spGR a):=by
 refine T.F_ab.okG sc_ab (λB H Q E h=>?_) (λcdv A outer s H B Q E hr h=>?_)
 .obtain⟨l,rfl,_⟩:=h;rfl
 .obtain⟨l,rfl,⟨xs,r,p,z,I,o,F,C⟩,q⟩:=h
  refine⟨_,(ai (ax (i:=1) sc_ab.nd rfl (Or.inl rfl) lZ) (ai (fY BP rfl (aO (vr 0)) (dz rfl (aq (ao (i:=2) sc_ab.nd rfl (Or.inl rfl)) (aq (ao (i:=3) sc_ab.nd rfl (Or.inl rfl)) (aq (ao (i:=4) sc_ab.nd rfl (Or.inl rfl)) aJ)))) (ai (aR (dP (fV (vr 4) (λ_=>rfl))) (aj (ol T.xc_L T.xh_L (sL T.xi_NoLevel T.kc_NoLevel rfl T.mc_L))) aD) (aj (dX (pe_m.append (pe_m.setdefault (vr 1) (aa (az av (vr 4) ah (λ_ _=>rfl)) (aa (aN ac) ac))) (aa (aE (aa (vr 2) (aa (vr 3) (aa (dW gB (vr 4) (eZ ah) eW) ac)))) ac)))))) (aj (au (dg (mj rfl) rfl T.z_list gw (aa (pe_m.items (vr 1)) ac)))))),il ?_⟩;intro y G;intro g v;have u:Same H (upd H g (.dK [])):=Same.new v
  let Pw1:PvS:=λi c b=>∃(m d j:Option V),i=0/\c=[some (.ref l),some (.ref g),m,d,j]/\Same H b
  refine .inl ⟨⟨_,SqL.of (u _ _ o)⟩,gL (K:=K) (a:=l) (xs:=.ref r::xs) Pw1 ⟨none,none,none,rfl,rfl,u⟩ (λi c b _ h=>by obtain⟨_,_,_,_,_,s1⟩:=h;exact SqL.of (s1 _ _ o)) ?_ ?_⟩
  .rintro i x c b D ⟨m,d,j,rfl,rfl,f⟩
   cases D;refine⟨r,_,rfl,SqT.of (f _ _ F),rfl,_,_,rfl,_,_,rfl,_,_,rfl,rfl,?_⟩;refine⟨_,.inr (.inl ⟨_,SqT.of (f _ _ C),rfl⟩),?_⟩;exact wt f q
  .rintro c b ⟨m,d,j,e,_⟩
   simp at e
theorem eQ(T:Txt K mg a):FnOk P w K mg base (CXG P w) 2 a.f_N a.d_N ["crowd"] (spGR a):=by
 have b:FnOk P w K mg base (CXG P w) 1 _ _ _ (spGR a):=rD T;refine T.F_N.okG oe (λd H Q E h=>?_) (λcdv A outer s H d Q E hr h=>?_)
 .obtain⟨l,rfl,_⟩:=h;rfl
 .obtain⟨l,rfl,e,q⟩:=h
  refine⟨_,(aj (au (aP rfl (N:=["name","members"]) (ix:=[none,none]) ⟨rfl,rfl,rfl,rfl,trivial⟩ (aO (ag b hr rfl T.m_ab T.F_ab.kp T.B_ab .nil cE (aa (vr 0) ac))) ⟨λC s H c=>(bx (K:=K) (n:=2) rfl rfl (aq (ao (i:=0) (show List.Nodup (["name","members"]:List Str) by decide +kernel) rfl (Or.inl rfl)) (aq (ao (i:=1) (show List.Nodup (["name","members"]:List Str) by decide +kernel) rfl (Or.inl rfl)) aJ))),λC s H c=>aL,λC s H c=>(vr 1)⟩))),?_⟩;exact⟨l,rfl,e,q⟩
theorem pC(T:Txt K mg a)(p:Bm mg base):FnOk P w K mg base (CXG P w) 3 a.x_D a.y_D ["self","crowd"] (spRz a bw):=by
 have c:FnOk P w K mg base (CXG P w) 2 _ _ _ (spGR a):=eQ T;have b:FnOk P w K mg base CX0 2 a.f_k a.d_k ["plan","groups","taken"] du:=bt;refine T.F_D.okG jT (λe H Q E h=>?_) (λcdv A outer s H e Q E hr h=>?_)
 .obtain⟨v,d,l,rfl,_⟩:=h;rfl
 .obtain⟨v,d,l,rfl,f,g,j,q⟩:=h
  cases d <;> try (cases f;done)
  refine⟨_,(aj (au (ag b hr rfl T.m_k T.F_k.kp T.B_k .nil af (aa (aA (vr 0) rfl) (aa (ag c hr rfl T.m_N T.F_N.kp T.B_N .nil cE (aa (vr 1) ac)) (aa (aE ac) ac)))))),?_⟩;obtain⟨x,i,u,rfl,m,o⟩:=g;refine⟨x,_,i,_,_,rfl,m,T.cl_t,T.na_Each_inside,rfl,?_⟩;exact⟨l,rfl,j,q⟩
theorem mn(T:Txt K mg a)(p:Bm mg base):FnOk P w K mg base (CXG P w) 3 a.x_b a.y_b ["self","crowd"] (spRz a bw):=by
 have e:FnOk P w K mg base (CXG P w) 2 _ _ _ (spGR a):=eQ T;have c:FnOk P w K mg base CX0 2 a.f_K a.d_K ["many","tell"] du:=bt;have b:FnOk P w K mg base CX0 2 a.f_d a.d_d ["plan","crowd","groups","outer"] du:=bt;refine Fun.okGc T.F_b T.lcd_b sc_b (λj H Q E h=>?_) (λA outer s H j Q E hr h=>?_)
 .obtain⟨v,f,l,rfl,_⟩:=h;rfl
 .obtain⟨v,f,l,rfl,m,u,o,q⟩:=h
  cases f <;> try (cases m;done)
  refine⟨_,(ai (ax (i:=2) sc_b.nd rfl (Or.inl rfl) (ag e hr rfl T.m_N T.F_N.kp T.B_N .nil cE (aa (vr 1) ac))) (ai (ax (i:=3) sc_b.nd rfl (Or.inl rfl) (ag c hr rfl T.m_K T.F_K.kp T.B_K .nil af (aa (ay aF rfl T.z_len bf (aa (vr 2) ac)) (aa (cm (d:=bH) rfl T.lch_b p rfl (by with_unfolding_all rfl) rfl (iC a) (.head _) T.tnd iL) ac)))) (aj (au (ag b hr rfl T.m_d T.F_d.kp T.B_d .nil af (aa (aA (vr 0) rfl) (aa (vr 1) (aa (vr 2) (aa (vr 3) ac))))))))),il ?_⟩;intro g r;exact⟨l,rfl,o,q⟩
theorem lY(T:Txt K mg a)(B:Bm mg base):FnOk P w K mg base (CXG P w) 3 a.x_l a.y_l ["self","crowd"] (spRz a bw):=by
 have j:FnOk P w K mg base (CXG P w) 2 _ _ _ (spGR a):=eQ T;have g:FnOk P w K mg base CX0 2 a.x_B a.y_B ["self","crowd"] du:=bt;have e:FnOk P w K mg base CX0 2 a.x_u a.y_u ["self","crowd"] du:=bt;have d:FnOk P w K mg base CX0 2 a.x_q a.y_q ["self","crowd"] du:=bt;have m:FnOk P w K mg base CX0 2 a.x_v a.y_v ["self","crowd"] du:=bt;have f:FnOk P w K mg base CX0 2 a.x_l a.y_l ["self","crowd"] du:=bt;have c:FnOk P w K mg base CX0 2 a.x_e a.y_e ["self","crowd"] du:=bt;refine T.F_l.okG sc_l (λp H Q E h=>?_) (λcdv A outer s H p Q E hr h=>?_)
 .obtain⟨v,o,l,rfl,_⟩:=h;rfl
 .obtain⟨v,o,l,rfl,r,y,u,q⟩:=h
  cases o <;> try (cases r;done)
  refine⟨_,(ai (fA rfl (i:=2) sc_l.nd rfl rfl (by with_unfolding_all rfl) (N:=["members","self"]) (ix:=[none,some 0]) ⟨rfl,rfl,rfl,rfl,⟨rfl,rfl,rfl,trivial⟩⟩ (aO (ag j hr rfl T.m_N T.F_N.kp T.B_N .nil cE (aa (vr 1) ac))) ⟨λC s H b=>ao (i:=0) (show List.Nodup (["members","self"]:List Str) by decide +kernel) rfl (Or.inl rfl),λC s H b=>aL,λC s H b=>(PE.or (al (aY (K:=K) rfl (vr 1) rfl) T.cl_Q T.mt_B g hr T.B_B .nil af (aa (vr 0) ac)) (PE.or (al (aY (K:=K) rfl (vr 1) rfl) T.cl_o T.mt_u e hr T.B_u .nil af (aa (vr 0) ac)) (PE.or (al (aY (K:=K) rfl (vr 1) rfl) T.cl_p T.mt_q d hr T.B_q .nil af (aa (vr 0) ac)) (PE.or (al (aY (K:=K) rfl (vr 1) rfl) T.cl_A T.mt_v m hr T.B_v .nil af (aa (vr 0) ac)) (PE.or (al (aY (K:=K) rfl (vr 1) rfl) T.cl_t T.mt_l f hr T.B_l .nil af (aa (vr 0) ac)) (al (aY (K:=K) rfl (vr 1) rfl) T.cl_g T.mt_e c hr T.B_e .nil af (aa (vr 0) ac)))))))⟩) (aj (au (aE (aa (ay (dc rfl) rfl T.z_sum gD (aa (aP rfl (N:=["least","most"]) (ix:=[none,none]) ⟨rfl,rfl,rfl,rfl,trivial⟩ (aO (vr 2)) ⟨λC s H b=>(bx (K:=K) (n:=2) rfl rfl (aq (ao (i:=0) (show List.Nodup (["least","most"]:List Str) by decide +kernel) rfl (Or.inl rfl)) (aq (ao (i:=1) (show List.Nodup (["least","most"]:List Str) by decide +kernel) rfl (Or.inl rfl)) aJ))),λC s H b=>aL,λC s H b=>(vr 0)⟩) ac)) (aa (ay (dc rfl) rfl T.z_sum gD (aa (aP rfl (N:=["least","most"]) (ix:=[none,none]) ⟨rfl,rfl,rfl,rfl,trivial⟩ (aO (vr 2)) ⟨λC s H b=>(bx (K:=K) (n:=2) rfl rfl (aq (ao (i:=0) (show List.Nodup (["least","most"]:List Str) by decide +kernel) rfl (Or.inl rfl)) (aq (ao (i:=1) (show List.Nodup (["least","most"]:List Str) by decide +kernel) rfl (Or.inl rfl)) aJ))),λC s H b=>aL,λC s H b=>(vr 1)⟩) ac)) ac)))))),eE ?_⟩;intro x;exact⟨l,rfl,u,q⟩
theorem nQ(T:Txt K mg a)(D:Bm mg base):FnOk P w K mg base (CXG P w) 3 a.x_c a.y_c ["self","crowd"] (spRz a aQ):=by
 have o:FnOk P w K mg base (CXG P w) 2 _ _ _ (spGR a):=eQ T;have b:FnOk P w K mg base CX0 2 a.f_a a.d_a ["groups"] du:=bt;have f:FnOk P w K mg base CX0 2 a.f_T a.d_T ["node","go"] du:=bt;have c:FnOk P w K mg base CX0 2 a.x_ad a.y_ad ["self","crowd"] du:=bt;have p:FnOk P w K mg base CX0 2 a.x_I a.y_I ["self","crowd"] du:=bt;have g:FnOk P w K mg base CX0 2 a.x_J a.y_J ["self","crowd"] du:=bt;have m:FnOk P w K mg base CX0 2 a.x_W a.y_W ["self","crowd"] du:=bt;have j:FnOk P w K mg base CX0 2 a.x_D a.y_D ["self","crowd"] du:=bt;have e:FnOk P w K mg base CX0 2 a.x_c a.y_c ["self","crowd"] du:=bt;refine Fun.okGc T.F_c T.lcd_c sc_c (λy H Q E h=>?_) (λA outer s H y Q E hr h=>?_)
 .obtain⟨v,r,l,rfl,_⟩:=h;rfl
 .obtain⟨v,r,l,rfl,B,G,C,q⟩:=h
  cases r <;> try (cases B;done)
  refine⟨_,(ai (ax (i:=2) sc_c.nd rfl (Or.inr rfl) (ag o hr rfl T.m_N T.F_N.kp T.B_N .nil cE (aa (vr 1) ac))) (ai (ax (i:=3) sc_c.nd rfl (Or.inr rfl) (aA (vr 0) rfl)) (ai (ax (i:=4) sc_c.nd rfl (Or.inl rfl) (PE.or (al (aA (vr 0) rfl) T.cl_Q T.mt_ad c hr T.B_ad .nil af (aa (ag b hr rfl T.m_a T.F_a.kp T.B_a .nil af (aa (vr 2) ac)) ac)) (PE.or (al (aA (vr 0) rfl) T.cl_o T.mt_I p hr T.B_I .nil af (aa (ag b hr rfl T.m_a T.F_a.kp T.B_a .nil af (aa (vr 2) ac)) ac)) (PE.or (al (aA (vr 0) rfl) T.cl_p T.mt_J g hr T.B_J .nil af (aa (ag b hr rfl T.m_a T.F_a.kp T.B_a .nil af (aa (vr 2) ac)) ac)) (PE.or (al (aA (vr 0) rfl) T.cl_A T.mt_W m hr T.B_W .nil af (aa (ag b hr rfl T.m_a T.F_a.kp T.B_a .nil af (aa (vr 2) ac)) ac)) (PE.or (al (aA (vr 0) rfl) T.cl_t T.mt_D j hr T.B_D .nil af (aa (ag b hr rfl T.m_a T.F_a.kp T.B_a .nil af (aa (vr 2) ac)) ac)) (al (aA (vr 0) rfl) T.cl_g T.mt_c e hr T.B_c .nil af (aa (ag b hr rfl T.m_a T.F_a.kp T.B_a .nil af (aa (vr 2) ac)) ac)))))))) (aj (au (ag f hr rfl T.m_T T.F_T.kp T.B_T .nil af (aa (vr 4) (aa (cm (d:=bC) rfl T.lch_c D rfl (by with_unfolding_all rfl) rfl (jw a) (.head _) T.tnd js) ac)))))))),pO ?_⟩;intro x u F;exact⟨l,rfl,C,q⟩
theorem kT(T:Txt K mg a)(C:Bm mg base):FnOk P w K mg base (CXG P w) 3 a.x_n a.y_n ["self","crowd"] (spRz a aQ):=by
 have o:FnOk P w K mg base (CXG P w) 2 _ _ _ (spGR a):=eQ T;have b:FnOk P w K mg base CX0 2 a.f_a a.d_a ["groups"] du:=bt;have f:FnOk P w K mg base CX0 2 a.f_d a.d_d ["plan","crowd","groups","outer"] du:=bt;have m:FnOk P w K mg base CX0 2 a.x_m a.y_m ["self","crowd"] du:=bt;have g:FnOk P w K mg base CX0 2 a.x_i a.y_i ["self","crowd"] du:=bt;have d:FnOk P w K mg base CX0 2 a.x_j a.y_j ["self","crowd"] du:=bt;have e:FnOk P w K mg base CX0 2 a.x_H a.y_H ["self","crowd"] du:=bt;have j:FnOk P w K mg base CX0 2 a.x_b a.y_b ["self","crowd"] du:=bt;have c:FnOk P w K mg base CX0 2 a.x_n a.y_n ["self","crowd"] du:=bt;refine T.F_n.okG sc_n (λr H Q E h=>?_) (λcdv A outer s H r Q E hr h=>?_)
 .obtain⟨v,p,l,rfl,_⟩:=h;rfl
 .obtain⟨v,p,l,rfl,u,B,x,q⟩:=h
  cases p <;> try (cases u;done)
  refine⟨_,(ai (ax (i:=2) sc_n.nd rfl (Or.inl rfl) (ag o hr rfl T.m_N T.F_N.kp T.B_N .nil cE (aa (vr 1) ac))) (aj (au (ag f hr rfl T.m_d T.F_d.kp T.B_d .nil af (aa (aA (vr 0) rfl) (aa (vr 1) (aa (vr 2) (aa (PE.or (al (aA (vr 0) rfl) T.cl_Q T.mt_m m hr T.B_m .nil af (aa (ag b hr rfl T.m_a T.F_a.kp T.B_a .nil af (aa (vr 2) ac)) ac)) (PE.or (al (aA (vr 0) rfl) T.cl_o T.mt_i g hr T.B_i .nil af (aa (ag b hr rfl T.m_a T.F_a.kp T.B_a .nil af (aa (vr 2) ac)) ac)) (PE.or (al (aA (vr 0) rfl) T.cl_p T.mt_j d hr T.B_j .nil af (aa (ag b hr rfl T.m_a T.F_a.kp T.B_a .nil af (aa (vr 2) ac)) ac)) (PE.or (al (aA (vr 0) rfl) T.cl_A T.mt_H e hr T.B_H .nil af (aa (ag b hr rfl T.m_a T.F_a.kp T.B_a .nil af (aa (vr 2) ac)) ac)) (PE.or (al (aA (vr 0) rfl) T.cl_t T.mt_b j hr T.B_b .nil af (aa (ag b hr rfl T.m_a T.F_a.kp T.B_a .nil af (aa (vr 2) ac)) ac)) (al (aA (vr 0) rfl) T.cl_g T.mt_n c hr T.B_n .nil af (aa (ag b hr rfl T.m_a T.F_a.kp T.B_a .nil af (aa (vr 2) ac)) ac))))))) ac)))))))),eE ?_⟩;intro y;exact⟨l,rfl,x,q⟩
theorem kZ(T:Txt K mg a)(I:Bm mg base):FnOk P w K mg base (CXG P w) 3 a.x_e a.y_e ["self","crowd"] (spRz a aQ):=by
 have o:FnOk P w K mg base (CXG P w) 2 _ _ _ (spGR a):=eQ T;have b:FnOk P w K mg base CX0 2 a.f_a a.d_a ["groups"] du:=bt;have f:FnOk P w K mg base CX0 2 a.x_B a.y_B ["self","crowd"] du:=bt;have e:FnOk P w K mg base CX0 2 a.x_u a.y_u ["self","crowd"] du:=bt;have d:FnOk P w K mg base CX0 2 a.x_q a.y_q ["self","crowd"] du:=bt;have m:FnOk P w K mg base CX0 2 a.x_v a.y_v ["self","crowd"] du:=bt;have j:FnOk P w K mg base CX0 2 a.x_l a.y_l ["self","crowd"] du:=bt;have g:FnOk P w K mg base CX0 2 a.x_e a.y_e ["self","crowd"] du:=bt;refine T.F_e.okG sc_e (λx H Q E h=>?_) (λcdv A outer s H x Q E hr h=>?_)
 .obtain⟨v,p,l,rfl,_⟩:=h;rfl
 .obtain⟨v,p,l,rfl,y,L,D,q⟩:=h
  cases p <;> try (cases y;done)
  refine⟨_,(ai (ax (i:=2) sc_e.nd rfl (Or.inl rfl) (ag o hr rfl T.m_N T.F_N.kp T.B_N .nil cE (aa (vr 1) ac))) (ai (gA (PE.or (al (aA (vr 0) rfl) T.cl_Q T.mt_B f hr T.B_B .nil af (aa (ag b hr rfl T.m_a T.F_a.kp T.B_a .nil af (aa (vr 2) ac)) ac)) (PE.or (al (aA (vr 0) rfl) T.cl_o T.mt_u e hr T.B_u .nil af (aa (ag b hr rfl T.m_a T.F_a.kp T.B_a .nil af (aa (vr 2) ac)) ac)) (PE.or (al (aA (vr 0) rfl) T.cl_p T.mt_q d hr T.B_q .nil af (aa (ag b hr rfl T.m_a T.F_a.kp T.B_a .nil af (aa (vr 2) ac)) ac)) (PE.or (al (aA (vr 0) rfl) T.cl_A T.mt_v m hr T.B_v .nil af (aa (ag b hr rfl T.m_a T.F_a.kp T.B_a .nil af (aa (vr 2) ac)) ac)) (PE.or (al (aA (vr 0) rfl) T.cl_t T.mt_l j hr T.B_l .nil af (aa (ag b hr rfl T.m_a T.F_a.kp T.B_a .nil af (aa (vr 2) ac)) ac)) (al (aA (vr 0) rfl) T.cl_g T.mt_e g hr T.B_e .nil af (aa (ag b hr rfl T.m_a T.F_a.kp T.B_a .nil af (aa (vr 2) ac)) ac))))))) (dz rfl (aq (ao (i:=3) sc_e.nd rfl (Or.inl rfl)) (aq (ao (i:=4) sc_e.nd rfl (Or.inl rfl)) aJ)))) (ai (fA rfl (i:=5) sc_e.nd rfl rfl (by with_unfolding_all rfl) (N:=["members","self"]) (ix:=[none,some 0]) ⟨rfl,rfl,rfl,rfl,⟨rfl,rfl,rfl,trivial⟩⟩ (aO (vr 2)) ⟨λC s H c=>ao (i:=0) (show List.Nodup (["members","self"]:List Str) by decide +kernel) rfl (Or.inl rfl),λC s H c=>aL,λC s H c=>(PE.or (al (aY (K:=K) rfl (vr 1) rfl) T.cl_Q T.mt_B f hr T.B_B .nil af (aa (vr 0) ac)) (PE.or (al (aY (K:=K) rfl (vr 1) rfl) T.cl_o T.mt_u e hr T.B_u .nil af (aa (vr 0) ac)) (PE.or (al (aY (K:=K) rfl (vr 1) rfl) T.cl_p T.mt_q d hr T.B_q .nil af (aa (vr 0) ac)) (PE.or (al (aY (K:=K) rfl (vr 1) rfl) T.cl_A T.mt_v m hr T.B_v .nil af (aa (vr 0) ac)) (PE.or (al (aY (K:=K) rfl (vr 1) rfl) T.cl_t T.mt_l j hr T.B_l .nil af (aa (vr 0) ac)) (al (aY (K:=K) rfl (vr 1) rfl) T.cl_g T.mt_e g hr T.B_e .nil af (aa (vr 0) ac)))))))⟩) (ai (ax (i:=6) sc_e.nd rfl (Or.inl rfl) (ay hX rfl T.z_sorted gJ (aa (aP rfl (N:=["low","high"]) (ix:=[none,none]) ⟨rfl,rfl,rfl,rfl,trivial⟩ (aO (vr 5)) ⟨λC s H c=>(bx (K:=K) (n:=2) rfl rfl (aq (ao (i:=0) (show List.Nodup (["low","high"]:List Str) by decide +kernel) rfl (Or.inl rfl)) (aq (ao (i:=1) (show List.Nodup (["low","high"]:List Str) by decide +kernel) rfl (Or.inl rfl)) aJ))),λC s H c=>aL,λC s H c=>(vr 0)⟩) ac))) (ai (ax (i:=7) sc_e.nd rfl (Or.inl rfl) (mW rfl T.z_sorted gJ (aP rfl (N:=["low","high"]) (ix:=[none,none]) ⟨rfl,rfl,rfl,rfl,trivial⟩ (aO (vr 5)) ⟨λC s H c=>(bx (K:=K) (n:=2) rfl rfl (aq (ao (i:=0) (show List.Nodup (["low","high"]:List Str) by decide +kernel) rfl (Or.inl rfl)) (aq (ao (i:=1) (show List.Nodup (["low","high"]:List Str) by decide +kernel) rfl (Or.inl rfl)) aJ))),λC s H c=>aL,λC s H c=>(vr 1)⟩) fz)) (aj (au (aE (aa (ay (dc rfl) rfl T.z_sum gD (aa (dW gB (vr 6) eW (eZ (vr 3))) ac)) (aa (ay (dc rfl) rfl T.z_sum gD (aa (dW gB (vr 7) eW (eZ (vr 4))) ac)) ac)))))))))),rZ ?_⟩
  intro F B u r G;exact⟨l,rfl,D,q⟩
end
open Nst (Mb plc szs hd tl dr groups aW parts outer aX bq bz)
def IsTr(H:Hp):V->Pl->Prop
 | v,.few m=>∃ x,v=.ref x/\H x=some (.tup [.str "few",.int (m:Nat)])
 | v,.start m=>∃ x,v=.ref x/\H x=some (.tup [.str "start",.int (m:Nat)])
 | v,.loose m=>∃ x,v=.ref x/\H x=some (.tup [.str "loose",.int (m:Nat)])
 | v,.duel m=>∃ x,v=.ref x/\H x=some (.tup [.str "duel",.int (m:Nat)])
 | v,.each p=>∃ x u,v=.ref x/\H x=some (.tup [.str "each",u])/\IsTr H u p
 | v,.first p q=>∃ x u1 u2,v=.ref x/\H x=some (.tup [.str "first",u1,u2])/\IsTr H u1 p/\IsTr H u2 q
theorem IsTr.n{H a:Hp}(s:NC H a):∀{pl:Pl}{v:V},IsTr H v pl->IsTr a v pl
 | .few _,v,⟨x,e,h⟩=>⟨x,e,s _ _ rfl h⟩
 | .start _,v,⟨x,e,h⟩=>⟨x,e,s _ _ rfl h⟩
 | .loose _,v,⟨x,e,h⟩=>⟨x,e,s _ _ rfl h⟩
 | .duel _,v,⟨x,e,h⟩=>⟨x,e,s _ _ rfl h⟩
 | .each p,v,⟨x,u,e,h,r⟩=>⟨x,u,e,s _ _ rfl h,IsTr.n s r⟩
 | .first p q,v,⟨x,u1,u2,e,h,r1,r2⟩=>⟨x,u1,u2,e,s _ _ rfl h,IsTr.n s r1,IsTr.n s r2⟩
theorem IsTr.same{H a:Hp}{pl:Pl}{v:V}(s:Same H a)(h:IsTr H v pl):IsTr a v pl:=h.n (aZ s.t)
inductive spTree(n:Nat)(vs:List V)(H:Hp)(Q:VK)(_E:XK):Prop
 | mk(N d:Int)(h0:vs=[.int N,.int d,.bl true])(h1:d+n=4)(h2:1<=n)(h3:0<=N)(h4:∀ H' t v pl N',Same H H'->H' t=some (.tup [v,.int N'])->0<=N'->IsTr H' v pl->okP (n - 1) pl->Q (.ref t) H'):spTree n vs H Q _E
inductive spNeeds(n:Nat)(vs:List V)(H:Hp)(Q:VK)(_E:XK):Prop
 | mk(v:V)(pl:Pl)(h0:vs=[v])(h1:IsTr H v pl)(h2:okP n pl)(h3:Q (.int (aI pl:Nat)) H):spNeeds n vs H Q _E
inductive spPlan(a:Ad)(n:Nat)(vs:List V)(H:Hp)(Q:VK)(_E:XK):Prop
 | mk(v:V)(pl:Pl)(h0:vs=[v])(h1:IsTr H v pl)(h2:okP n pl)(h3:∀ H' v',Same H H'->IsPn a H' v' pl->Q v' H'):spPlan a n vs H Q _E
theorem ixT{K:Frag}{H:Hp}{x:Addr}{vs:List V}(a:H x=some (.tup vs))(j:Int)(v:V)(e:atI vs j=some v)(R:VK)(r:R v H):rIx K (.ref x) (.int j) H R:=.inr (.inl ⟨x,_,j,v,rfl,rfl,SqT.of a,e,r⟩)
theorem cdK{i c:Int}(h:0<c:=by decide)(h2:c<1152921504606846976:=by decide):CDivB i c:=cdB (n:=60) h (by unfold Bt;rw[show(2:Nat) ^ 60=1152921504606846976 from by decide];lia)
abbrev JT1(H:Hp)(d:Int)(n:Nat):St->Hp->Prop:=λσ' H'=>H'=H/\∃ M way:Int,σ'=[some (.int M),some (.int d),some (.bl true),some (.int way),none,none]/\0<=M/\0<=way/\way<6/\(n=0->way<4)
abbrev JT2(H:Hp)(M d:Int)(n:Nat):St->Hp->Prop:=λσ' H'=>H'=H/\∃ way:Int,σ'=[some (.int M),some (.int d),some (.bl true),some (.int way),none,none]/\0<=way/\way<6/\(n=0->way<4)
theorem jg{a:Ad}{c:Hp}{x d C:Addr}{fs:List (Str×V)}(f:c x=none)(g:c d=none):Same c (upd (upd (upd c d (.own x)) x (.ins C d [])) x (.ins C d fs)):=λb o e=>by
 rw[ar (aB e f),ar (aB e f),ar (aB e g)];exact e
section
variable {P:Program}{w:World}{K:Frag}{mg:Str->Option Value}{base:Heap}{a:Ad}
theorem sK(T:Txt K mg a):∀ n:Nat,n<=4->FnOk P w K mg base CX0 (n+1) a.f_at a.d_at ["_law_number","_law_deep","_law_wide"] (spTree n)
 | 0,_=>by
  refine T.F_at.ok sc_at (λY H Q E h=>?_) (λcdv A outer s H Y Q E hr h=>?_)
  .obtain⟨N,d,rfl,_⟩:=h;rfl
  .obtain⟨N,d,rfl,_,h,_⟩:=h;exact absurd h (by decide)
 | n+1,hn=>by
  have x:FnOk P w K mg base CX0 (n+1) _ _ _ (spTree n):=sK T n (by lia);refine T.F_at.ok sc_at (λY H Q E h=>?_) (λcdv A outer s H Y Q E hr h=>?_)
  .obtain⟨N,d,rfl,_⟩:=h;rfl
  .obtain⟨N,d,rfl,hd,_,N0,q⟩:=h
   have sl:sizeLine=16777216:=sizeLine_eq;refine⟨_,(ai (ax (i:=3) sc_at.nd rfl (Or.inl rfl) (aw fh (vr 0) ah)) (ai (ax (i:=0) sc_at.nd rfl (Or.inl rfl) (aw cK (vr 0) ah)) (fG (aR (aT eC (vr 1) ah (aG _)) (aj (ax (i:=3) sc_at.nd rfl (Or.inl rfl) (aw fh (vr 3) ah))) aD) (fG (aR (PW.pt (ke (aT eC (vr 3) ah (aG _)) (ja (dP (dS (vr 2)))))) (aj (ax (i:=3) sc_at.nd rfl (Or.inl rfl) ah)) aD) (ai (aR (aT eC (vr 3) ah (aG _)) (aj (au (aE (aa (aE (aa bD (aa (aw dN ah (aw fh (vr 0) (az av (aN (aa ah (aa ah ac))) (aw fh (aw cK (vr 0) ah) ah) (λ_ _=>rfl)))) ac))) (aa (aw cK (vr 0) ah) ac))))) aD) (ai (aR (aT qc (vr 3) ah (aG _)) (aj (au (aE (aa (aE (aa (az av (aN (aa bD (aa bD (aa bD (aa bD ac))))) (vr 3) (λ_ _=>rfl)) (aa (aw fh (vr 0) (az av (aN (aa ah (aa ah ac))) (aw fh (aw cK (vr 0) ah) ah) (λ_ _=>rfl))) ac))) (aa (aw cK (vr 0) ah) ac))))) aD) (ai (gA (ag x hr rfl T.m_at T.F_at.kp T.B_at .nil af (aa (vr 0) (aa (aw dN (vr 1) ah) (aa (vr 2) ac)))) (dz rfl (aq (ao (i:=4) sc_at.nd rfl (Or.inl rfl)) (aq (ao (i:=0) sc_at.nd rfl (Or.inl rfl)) aJ)))) (ai (aR (aT eC (vr 3) ah (aG _)) (aj (au (aE (aa (aE (aa bD (aa (vr 4) ac))) (aa (vr 0) ac))))) aD) (ai (gA (ag x hr rfl T.m_at T.F_at.kp T.B_at .nil af (aa (vr 0) (aa (aw dN (vr 1) ah) (aa (vr 2) ac)))) (dz rfl (aq (ao (i:=5) sc_at.nd rfl (Or.inl rfl)) (aq (ao (i:=0) sc_at.nd rfl (Or.inl rfl)) aJ)))) (aj (au (aE (aa (aE (aa bD (aa (vr 4) (aa (vr 5) ac)))) (aa (vr 0) ac)))))))))))))),?_⟩;refine⟨cp,cdK,?_⟩;have w0:0<=N % 6:=Int.emod_nonneg _ (by decide);have w1:N % 6<6:=Int.emod_lt_of_pos _ (by decide);have r:0<=N/6:=Int.ediv_nonneg N0 (by decide);refine⟨JT1 H d n,?_,?_⟩
   .refine ifC (λc=>⟨cp,rfl,N/6,N % 6 % 4,rfl,r,by lia,by lia,λ_=>by lia⟩) (λc=>⟨rfl,N/6,N % 6,rfl,r,w0,w1,λz=>?_⟩)
    have O:¬d=3:=c;lia
   clear r;rintro ad H' ⟨rfl,M,b,rfl,r,R,L,B⟩;refine⟨JT2 H' M d n,?_,?_⟩
   .refine ifC (λc=>⟨rfl,b,rfl,R,L,B⟩) (λc=>⟨rfl,b,rfl,R,L,B⟩)
   clear R L B;rintro ad an ⟨rfl,b,rfl,R,L,B⟩
   have I:∀ k:Int,0<=M/k % 2/\M/k % 2<2:=λk=>⟨Int.emod_nonneg _ (by decide),Int.emod_lt_of_pos _ (by decide)⟩
   refine ifC (λc=>?_) (λc=>?_)
   .have O:b=1:=c
    refine⟨(by decide:2<=sizeLine),λl hl=>?_⟩;have y:=Same.new (o:=.lst [.int 4,.int 100]) hl;obtain⟨b0,b1⟩:=I 100;refine⟨cdK,cp,?_⟩
    obtain⟨z,hz,hz0,hz1⟩:∃ z:Int,atI [V.int 4,.int 100] (M/100 % 2)=some (.int z)/\0<z/\z<=100:=by
     rcases(by lia:M/100 % 2=0\/M/100 % 2=1) with e | e <;> rw[e]
     .exact⟨4,rfl,by decide,by decide⟩
     .exact⟨100,rfl,by decide,by decide⟩
    refine .inl ⟨l,_,_,.int z,rfl,rfl,SqL.of ae,hz,cp (by lia),?_⟩;have r0:=Int.emod_nonneg M (show z≠0 by lia);have r1:=Int.emod_lt_of_pos M hz0;refine⟨(by decide:2<=sizeLine),λm g=>?_⟩;have p:=Same.new (o:=.tup [.str "start",.int (1+M % z)]) g;refine⟨cdK,?_⟩;refine⟨(by decide:2<=sizeLine),λu j=>?_⟩;have f:=Same.new (o:=.tup [.ref m,.int (M/200)]) j;refine q _ u _ (.start (1+M % z).toNat) _ (y.trans (p.trans f)) ae (Int.ediv_nonneg r (by decide)) ⟨m,rfl,?_⟩ ?_
    .rw[show(((1+M % z).toNat:Nat):Int)=1+M % z by lia]
     exact f _ _ ae
    show okP n _
    have:1<=(1+M % z).toNat/\(1+M % z).toNat<=100:=⟨by lia,by lia⟩
    cases n <;> exact this
   have ap:¬b=1:=c;refine ifC (λc=>?_) (λc=>?_)
   .have O:b<4:=c
    refine⟨(by decide:4<=sizeLine),λl0 ab=>?_⟩;have s0:=Same.new (o:=.lst [.str "few",.str "",.str "loose",.str "duel"]) ab
    obtain⟨nk,hkn,hk⟩:∃ nk:Str,atI [V.str "few",.str "",.str "loose",.str "duel"] b=some (.str nk)/\(nk = "few" \/ nk = "loose" \/ nk = "duel"):=by
     rcases(by lia:b=0\/b=2\/b=3) with e | e | e <;> rw[e]
     .exact⟨_,rfl,.inl rfl⟩
     .exact⟨_,rfl,.inr (.inl rfl)⟩
     .exact⟨_,rfl,.inr (.inr rfl)⟩
    refine .inl ⟨l0,_,_,.str nk,rfl,rfl,SqL.of ae,hkn,?_⟩;refine⟨(by decide:2<=sizeLine),λl hl=>?_⟩;have y:=Same.new (o:=.lst [.int 5,.int 25]) hl;obtain⟨b0,b1⟩:=I 25;refine⟨cdK,cp,?_⟩
    obtain⟨z,hz,hz0,hz1⟩:∃ z:Int,atI [V.int 5,.int 25] (M/25 % 2)=some (.int z)/\0<z/\z<=25:=by
     rcases(by lia:M/25 % 2=0\/M/25 % 2=1) with e | e <;> rw[e]
     .exact⟨5,rfl,by decide,by decide⟩
     .exact⟨25,rfl,by decide,by decide⟩
    refine .inl ⟨l,_,_,.int z,rfl,rfl,SqL.of ae,hz,cp (by lia),?_⟩;have r0:=Int.emod_nonneg M (show z≠0 by lia);have r1:=Int.emod_lt_of_pos M hz0;refine⟨(by decide:2<=sizeLine),λm g=>?_⟩;have p:=Same.new (o:=.tup [.str nk,.int (M % z)]) g;refine⟨cdK,?_⟩;refine⟨(by decide:2<=sizeLine),λu j=>?_⟩;have f:=Same.new (o:=.tup [.ref m,.int (M/50)]) j;have e1:(((M % z).toNat:Nat):Int)=M % z:=by lia
    have hm:(M % z).toNat<=24:=by lia
    rcases hk with rfl | rfl | rfl
    .refine q _ u _ (.few (M % z).toNat) _ (s0.trans (y.trans (p.trans f))) ae (Int.ediv_nonneg r (by decide)) ⟨m,rfl,by rw[e1];exact f _ _ ae⟩ ?_
     show okP n _
     cases n <;> exact hm
    .refine q _ u _ (.loose (M % z).toNat) _ (s0.trans (y.trans (p.trans f))) ae (Int.ediv_nonneg r (by decide)) ⟨m,rfl,by rw[e1];exact f _ _ ae⟩ ?_
     show okP n _
     cases n <;> exact hm
    .refine q _ u _ (.duel (M % z).toNat) _ (s0.trans (y.trans (p.trans f))) ae (Int.ediv_nonneg r (by decide)) ⟨m,rfl,by rw[e1];exact f _ _ ae⟩ ?_
     show okP n _
     cases n <;> exact hm
   .have O:¬b<4:=c
    have S:1<=n:=by
     by_cases z:n=0
     .exact absurd (B z) O
     .lia
    refine⟨M,d+1,rfl,by lia,S,r,λH1 t v pl N1 y ht F D g1=>?_⟩;refine⟨t,_,rfl,SqT.of ht,rfl,_,_,rfl,_,_,rfl,rfl,?_⟩;refine ifC (λc=>?_) (λc=>?_)
    .refine⟨(by decide:2<=sizeLine),λm g=>?_⟩
     have p:=Same.new (o:=.tup [.str "each",v]) g;refine⟨(by decide:2<=sizeLine),λu j=>?_⟩;have f:=Same.new (o:=.tup [.ref m,.int N1]) j;refine q _ u _ (.each pl) _ (y.trans (p.trans f)) ae F ⟨m,v,rfl,f _ _ ae,D.same (p.trans f)⟩ ?_;show okP n _;cases n with
     | zero=>exact absurd S (by decide)
     | succ n=>exact g1
    .refine⟨N1,d+1,rfl,by lia,S,F,λH2 tt B X N2 p j Z C g2=>?_⟩
     refine⟨tt,_,rfl,SqT.of j,rfl,_,_,rfl,_,_,rfl,rfl,?_⟩;refine⟨(by decide:3<=sizeLine),λm g=>?_⟩;have f:=Same.new (o:=.tup [.str "first",v,B]) g;refine⟨(by decide:2<=sizeLine),λu G=>?_⟩;have W:=Same.new (o:=.tup [.ref m,.int N2]) G;refine q _ u _ (.first pl X) _ (y.trans (p.trans (f.trans W))) ae Z ⟨m,v,B,rfl,W _ _ ae,D.same (p.trans (f.trans W)),C.same (f.trans W)⟩ ?_;show okP n _;cases n with
     | zero=>exact absurd S (by decide)
     | succ n=>exact⟨g1,g2⟩
theorem mQ(T:Txt K mg a)(n:Nat){sb:Sp}(f:n≠0->sb=spNeeds (n - 1))(b:FnOk P w K mg base CX0 n a.f_as a.d_as ["_law_tree_here"] sb):FnOk P w K mg base CX0 (n+1) a.f_as a.d_as ["_law_tree_here"] (spNeeds n):=by
 refine T.F_as.ok rj (λB H Q E h=>?_) (λcdv A outer s H B Q E hr h=>?_)
 .obtain⟨v,m,rfl,_⟩:=h;rfl
 .obtain⟨v,m,rfl,e,g,q⟩:=h
  refine⟨_,(ai (aR (aT eC (az av (vr 0) ah (λ_ _=>rfl)) bD (aG _)) (aj (au (aw dN ah (ag b hr rfl T.m_as T.F_as.kp T.B_as .nil af (aa (az av (vr 0) ah (λ_ _=>rfl)) ac))))) aD) (ai (aR (aT eC (az av (vr 0) ah (λ_ _=>rfl)) bD (aG _)) (ai (aR (aT BT (ag b hr rfl T.m_as T.F_as.kp T.B_as .nil af (aa (az av (vr 0) ah (λ_ _=>rfl)) ac)) ah (aG _)) (aj (au ah)) aD) (aj (au (aw dN ah (ag b hr rfl T.m_as T.F_as.kp T.B_as .nil af (aa (az av (vr 0) ah (λ_ _=>rfl)) ac)))))) aD) (aj (au ah)))),il ?_⟩;intro o F;cases m with
  | each p =>
   cases n with
   | zero=>exact g.elim
   | succ n =>
    have:=f (by lia);subst this;obtain⟨x,u,rfl,d,y⟩:=e;refine ixT d 0 _ rfl _ (ixT d 1 _ rfl _ ⟨u,p,rfl,y,g,?_⟩);rw[show aI (.each p)=1+aI p from rfl,Int.natCast_add]at q;exact q
  | first p r =>
   cases n with
   | zero=>exact g.elim
   | succ n =>
    have:=f (by lia);subst this;obtain⟨x,C,D,rfl,d,l,j⟩:=e;refine ixT d 0 _ rfl _ (ixT d 0 _ rfl _ (ixT d 1 _ rfl _ ⟨C,p,rfl,l,g.1,?_⟩));have i:aI (.first p r)=if 0<aI p then 9 else 1+aI r:=rfl
    refine ifC (λc=>?_) (λc=>?_)
    .have c:0<aI p:=by have c:(0:Int)<(aI p:Nat):=c;lia
     rw[if_pos c]at i;rw[i]at q;exact q
    .have c:¬0<aI p:=λz=>c (by show(0:Int)<(aI p:Nat);lia)
     rw[if_neg c]at i;rw[i,Int.natCast_add]at q;exact ixT d 2 _ rfl _ ⟨D,r,rfl,j,g.2,q⟩
  | _=>obtain⟨x,rfl,d⟩:=e;exact ixT d 0 _ rfl _ (ixT d 0 _ rfl _ q)
theorem qQ(T:Txt K mg a):∀ n:Nat,FnOk P w K mg base CX0 (n+1) a.f_as a.d_as ["_law_tree_here"] (spNeeds n)
 | 0=>mQ T 0 (sb:=du) (λz=>absurd rfl z) bt
 | n+1=>mQ T (n+1) (sb:=spNeeds n) (λ_=>rfl) (qQ T n)
theorem ot(T:Txt K mg a)(n:Nat){sb:Sp}(o:n≠0->sb=spPlan a (n - 1))(j:FnOk P w K mg base CX0 (n+4) a.f_az a.d_az ["_law_tree_here"] sb):FnOk P w K mg base CX0 (n+5) a.f_az a.d_az ["_law_tree_here"] (spPlan a n):=by
 have F:FnOk P w K mg base CX0 (n+3) _ _ _ (spFewI a):=(zy T).mono (by lia);have N:FnOk P w K mg base CX0 (n+3) _ _ _ (spStartI a):=(vv T).mono (by lia);have W:FnOk P w K mg base CX0 (n+3) _ _ _ (spLooseI a):=(vA T).mono (by lia);have X:FnOk P w K mg base CX0 (n+3) _ _ _ (spDuelI a):=(xN T).mono (by lia);have I:FnOk P w K mg base CX0 (n+3) _ _ _ (spEachI a):=(wP T).mono (by lia);have M:FnOk P w K mg base CX0 (n+3) _ _ _ (spFirstI a):=(vP T).mono (by lia);refine T.F_az.ok tY (λvs H Q E h=>?_) (λcdv A outer s H vs Q E hr h=>?_)
 .obtain⟨v,Y,rfl,_⟩:=h;rfl
 .obtain⟨v,Y,rfl,e,f,q⟩:=h
  refine⟨_,(ai (aR (aT eC (az av (vr 0) ah (λ_ _=>rfl)) bD (aG _)) (aj (au (bS T.mk_t I hr rfl T.mc_t T.Bi_t .nil af (aa (ag j hr rfl T.m_az T.F_az.kp T.B_az .nil af (aa (az av (vr 0) ah (λ_ _=>rfl)) ac)) ac)))) aD) (ai (aR (aT eC (az av (vr 0) ah (λ_ _=>rfl)) bD (aG _)) (aj (au (bS T.mk_g M hr rfl T.mc_g T.Bi_g .nil af (aa (ag j hr rfl T.m_az T.F_az.kp T.B_az .nil af (aa (az av (vr 0) ah (λ_ _=>rfl)) ac)) (aa (ag j hr rfl T.m_az T.F_az.kp T.B_az .nil af (aa (az av (vr 0) ah (λ_ _=>rfl)) ac)) ac))))) aD) (ai (aR (aT eC (az av (vr 0) ah (λ_ _=>rfl)) bD (aG _)) (aj (au (bS T.mk_Q F hr rfl T.mc_Q T.Bi_Q .nil af (aa (az av (vr 0) ah (λ_ _=>rfl)) ac)))) aD) (ai (aR (aT eC (az av (vr 0) ah (λ_ _=>rfl)) bD (aG _)) (aj (au (bS T.mk_o N hr rfl T.mc_o T.Bi_o .nil af (aa (az av (vr 0) ah (λ_ _=>rfl)) ac)))) aD) (ai (aR (aT eC (az av (vr 0) ah (λ_ _=>rfl)) bD (aG _)) (aj (au (bS T.mk_p W hr rfl T.mc_p T.Bi_p .nil af (aa (az av (vr 0) ah (λ_ _=>rfl)) ac)))) aD) (aj (au (bS T.mk_A X hr rfl T.mc_A T.Bi_A .nil af (aa (az av (vr 0) ah (λ_ _=>rfl)) ac))))))))),rZ ?_⟩;intro an ad ab Z ap;cases Y with
  | few m =>
   obtain⟨x,rfl,b⟩:=e;refine ixT b 0 _ rfl _ (ixT b 0 _ rfl _ (ixT b 0 _ rfl _ (ixT b 1 _ rfl _ ?_)));intro y d g c i;exact⟨y,d,m,rfl,ae,(by cases n <;> exact f),rfl,q _ _ (jg (a:=a) g c) ⟨y,d,rfl,ae⟩⟩
  | start m =>
   obtain⟨x,rfl,b⟩:=e
   have f:1<=m/\m<=100:=by cases n <;> exact f
   refine ixT b 0 _ rfl _ (ixT b 0 _ rfl _ (ixT b 0 _ rfl _ (ixT b 0 _ rfl _ (ixT b 1 _ rfl _ ?_))));intro y d g c i;exact⟨y,d,m,rfl,ae,f.1,f.2,rfl,q _ _ (jg (a:=a) g c) ⟨y,d,rfl,ae⟩⟩
  | loose m =>
   obtain⟨x,rfl,b⟩:=e;refine ixT b 0 _ rfl _ (ixT b 0 _ rfl _ (ixT b 0 _ rfl _ (ixT b 0 _ rfl _ (ixT b 0 _ rfl _ (ixT b 1 _ rfl _ ?_)))));intro y d g c i;exact⟨y,d,m,rfl,ae,(by cases n <;> exact f),rfl,q _ _ (jg (a:=a) g c) ⟨y,d,rfl,ae⟩⟩
  | duel m =>
   obtain⟨x,rfl,b⟩:=e;refine ixT b 0 _ rfl _ (ixT b 0 _ rfl _ (ixT b 0 _ rfl _ (ixT b 0 _ rfl _ (ixT b 0 _ rfl _ (ixT b 1 _ rfl _ ?_)))));intro y d g c i;exact⟨y,d,m,rfl,ae,(by cases n <;> exact f),rfl,q _ _ (jg (a:=a) g c) ⟨y,d,rfl,ae⟩⟩
  | each p =>
   cases n with
   | zero=>exact f.elim
   | succ n =>
    have:=o (by lia);subst this;obtain⟨x,u,rfl,b,hu⟩:=e;refine ixT b 0 _ rfl _ (ixT b 1 _ rfl _ ⟨u,p,rfl,hu,f,λH1 l B S=>?_⟩);intro y d g c i;have D:=jg (a:=a) (C:=a.c_t) (fs:=[("inside",l)]) g c;exact⟨y,d,l,rfl,ae,rfl,q _ _ (B.trans D) ⟨y,d,l,rfl,ae,S.n (aZ D.t)⟩⟩
  | first p r =>
   cases n with
   | zero=>exact f.elim
   | succ n =>
    have:=o (by lia);subst this;obtain⟨x,u1,u2,rfl,b,R,O⟩:=e;refine ixT b 0 _ rfl _ (ixT b 0 _ rfl _ (ixT b 1 _ rfl _ ⟨u1,p,rfl,R,f.1,λH1 l B S=>?_⟩));refine ixT (B _ _ b) 2 _ rfl _ ⟨u2,r,rfl,O.same B,f.2,λH2 L D h2=>?_⟩;intro y d g c i;have G:=jg (a:=a) (C:=a.c_g) (fs:=[("outside",l),("inside",L)]) g c;exact⟨y,d,l,L,rfl,ae,rfl,q _ _ (B.trans (D.trans G)) ⟨y,d,l,L,rfl,ae,S.n (aZ (D.trans G).t),h2.n (aZ G.t)⟩⟩
theorem sX(T:Txt K mg a):∀ n:Nat,FnOk P w K mg base CX0 (n+5) a.f_az a.d_az ["_law_tree_here"] (spPlan a n)
 | 0=>ot T 0 (sb:=du) (λz=>absurd rfl z) bt
 | n+1=>ot T (n+1) (sb:=spPlan a n) (λ_=>rfl) (sX T n)
end
open Nst (Mb plc szs hd tl dr groups aW parts outer aX bq bz)
inductive spLCrowd(vs:List V)(H:Hp)(Q:VK)(_E:XK):Prop
 | mk(c:Int)(lev:Nat)(h0:vs=[.int c,.int (lev:Nat)])(h1:lev<=3)(h2:∀ H' r ms xs,Same H H'->H' r=some (.lst xs)->CrAt H' ms xs->ms≠[]->Ck lev ms->(∀ m∈ms,m.2.2.length=lev)->Q (.ref r) H'):spLCrowd vs H Q _E
theorem uE:∀ l:List Mb,(∀ m∈l,m.2.1<=9)->(szs l).sum<=9*(l.length:Int)
 | [],_=>by decide
 | m::l,h=>by
  have c:=h m mem_cons_self;have b:=uE l λm a=>h m (mem_cons_of_mem _ a)
  have e:(szs (m::l)).sum=m.2.1+(szs l).sum:=by unfold Nst.szs;rw[map_cons,sum_cons]
  rw[e,length_cons];lia
inductive spNoL(a:Ad)(N:Nat)(vs:List V)(H:Hp)(Q:VK)(_E:XK):Prop
 | mk(v:V)(pl:Pl)(way:Nat)(th:V)(h0:vs=[v,.int (way:Nat),th])(h1:ir pl=false)(h2:okP N pl)(h3:IsPn a H v pl)(h4:((way=0/\∃ n:Nat,th=.int (n:Nat)/\n<=3/\n<aI pl)\/(1<=way/\way<=3/\∃ l,th=.ref l/\No1 H l)))(h5:∀ H',Same H H'->Q (.bl true) H'):spNoL a N vs H Q _E
inductive spAns(a:Ad)(N:Nat)(vs:List V)(H:Hp)(Q:VK)(_E:XK):Prop
 | mk(v:V)(pl:Pl)(l:Addr)(xs:List V)(ms:List Mb)(h0:vs=[v,.ref l])(h1:okP N pl)(h2:IsPn a H v pl)(h3:H l=some (.lst xs))(h4:CrAt H ms xs)(h5:Ck (aI pl) ms)(h6:TabsOk (tabs a) H)(h7:∀ H',SameT H H'->TabsOk (tabs a) H'->Q (.bl true) H'):spAns a N vs H Q _E
section
variable {P:Program}{w:World}{K:Frag}{mg:Str->Option Value}{base:Heap}{a:Ad}
theorem tm(T:Txt K mg a):FnOk P w K mg base CX0 2 a.f_aE a.d_aE ["_law_cell_here","_law_levels"] spLCrowd:=by
 have x:FnOk P w K mg base CX0 1 _ _ _ spMixed:=qJ T;refine T.F_aE.ok sc_aE (λvs H Q E h=>?_) (λcdv A outer s H vs Q E hr h=>?_)
 .obtain⟨c,f,rfl,_⟩:=h;rfl
 .obtain⟨c,f,rfl,W,q⟩:=h
  have ab:sizeLine=16777216:=sizeLine_eq;refine⟨_,(ai (ax (i:=2) sc_aE.nd rfl (Or.inl rfl) (aN ac)) (ai (fY PassesOwn.never rfl (eP rfl T.z_range (aa (aw dN ah (aw fh (ag x hr rfl T.m_ak T.F_ak.kp T.B_ak .nil af (aa (vr 0) (aa ah ac))) ah)) ac)) (ao (i:=3) sc_aE.nd rfl (Or.inl rfl)) (ai (ax (i:=4) sc_aE.nd rfl (Or.inr rfl) (ag x hr rfl T.m_ak T.F_ak.kp T.B_ak .nil af (aa (vr 0) (aa (aw dN ah (vr 3)) ac)))) (ai (ax (i:=5) sc_aE.nd rfl (Or.inl rfl) (dg jy rfl T.z_tuple mw (aa (aP rfl (N:=["_law_j","_law_number"]) (ix:=[none,some 4]) ⟨rfl,rfl,rfl,rfl,⟨rfl,rfl,rfl,trivial⟩⟩ (eP rfl T.z_range (aa (vr 1) ac)) ⟨λC s H fp=>ao (i:=0) (show List.Nodup (["_law_j","_law_number"]:List Str) by decide +kernel) rfl (Or.inl rfl),λC s H fp=>aL,λC s H fp=>(az (eY (K:=K) rfl) (aN (aa bD (aa bD (aa bD ac)))) (aw fh (aw cK (aw cK (vr 1) ah) (aw dN (aw be ah (vr 0)) ah)) ah) (λ_ _=>rfl))⟩) ac))) (aj (dX (pe_m.append (vr 2) (aa (aE (aa (vr 3) (aa (aw dN ah (aw fh (aw cK (vr 4) ah) ah)) (aa (vr 5) ac)))) ac))))))) (aj (au (vr 2))))),il ?_⟩;intro a0 a7;refine⟨Nat.zero_le _,λr O=>?_⟩;have s0:Same H (upd H r (.lst [])):=Same.new O;refine⟨c,4,rfl,by decide,by decide,λr2 a3 a2=>?_⟩;refine⟨cp,?_⟩;refine⟨_,rfl,by lia,by lia,?_⟩
  let Pw1:PvS:=λi σ L=>∃(p:List Mb) (u:List V) (x3 x4 x5:Option V),σ=[some (.int c),some (.int (f:Nat)),some (.ref r),x3,x4,x5]/\Same H L/\L r=some (.lst u)/\CrAt L p u/\p.length=i/\i<=6/\∀ m∈p,(1<=m.2.1/\m.2.1<=9)/\m.2.2.length=f
  refine kd Pw1 ⟨[],[],none,none,none,rfl,s0,ae,.nil,rfl,Nat.zero_le _,λm hm=>by cases hm⟩ ?_ ?_
  .rintro i σ L hi ⟨p,u,x3,x4,x5,rfl,s1,l,Y,g,an,b⟩
   have a4:i<6:=by lia
   have xl:=Y.len;refine⟨c,5+(0+(i:Int)),rfl,by lia,by lia,λnb a5 a6=>?_⟩;refine⟨_,rfl,by lia,by lia,λD hD=>?_⟩
   let Pw2:PvL:=λj S I=>∃ d:List Str,j<=f/\Same L I/\I D=some (.lst S)/\S=d.map V.str/\d.length=j
   refine j7 (lo:=0) (n:=f) Pw2 ⟨[],Nat.zero_le _,Same.new hD,ae,rfl,rfl⟩ (λj S I h=>by obtain⟨_,_,_,h,_⟩:=h;exact h) ?_ ?_
   .rintro j S I P' hj ⟨d,_,Z,F,rfl,y⟩ hP
    refine⟨⟨rfl,trivial⟩,?_⟩;refine⟨(by decide:3<=sizeLine),λl3 ad=>?_⟩;have M:=Same.new (o:=.lst [V.str "a",.str "b",.str "c"]) ad;refine⟨cdK,clB,cdB (n:=10) (by lia) (by unfold Bt;lia),cp,?_⟩;generalize nb/3/(4*(0+(j:Int))+1)=z
    obtain⟨nm,hat⟩:∃ nm:Str,atI [V.str "a",.str "b",.str "c"] (z % 3)=some (.str nm):=by
     rcases(by lia:z % 3=0\/z % 3=1\/z % 3=2) with e | e | e <;> rw[e] <;> exact⟨_,rfl⟩
    have aS:=M _ _ F;refine .inl ⟨l3,_,_,.str nm,rfl,rfl,SqL.of ae,hat,aS,by rw[length_map];lia,hP _ _ ⟨d++[nm],by lia,(Z.trans M).put hD,ae,by rw[map_append];rfl,by rw[length_append,y];rfl⟩⟩
   .rintro S I ⟨d,_,Z,F,rfl,y⟩
    have ap:=Z _ _ l;refine⟨D,_,rfl,.inl ⟨SqL.of F,λv as=>?_⟩⟩;have M:=Same.new (o:=.tup (d.map V.str)) as;have e5:(upd I v (.tup (d.map V.str))) v=some (.tup (d.map V.str)):=ae;generalize upd I v (.tup (d.map V.str))=H5 at M e5;refine⟨.inl ⟨rfl,_,SqL.of (M _ _ ap)⟩,?_⟩;refine⟨cdK,cp,?_⟩;refine⟨(by decide:3<=sizeLine),λB X=>?_⟩;generalize hz:nb/64 % 9=z at X ⊢;have z0:0<=z/\z<=8:=by lia
    have s6:=Same.new (o:=.tup [.int (0+(i:Int)),.int (1+z),.ref v]) X;have e6:(upd H5 B (.tup [.int (0+(i:Int)),.int (1+z),.ref v])) B=some (.tup [.int (0+(i:Int)),.int (1+z),.ref v]):=ae;generalize upd H5 B (.tup [.int (0+(i:Int)),.int (1+z),.ref v])=H6 at s6 e6;have G:=Z.trans (M.trans s6);have R:=G _ _ l;have tk:TK H6 (upd H6 r (.lst (u++[.ref B]))):=TK.lst R;refine⟨r,u,.ref B,rfl,rfl,R,by lia,?_⟩;refine⟨p++[(0+(i:Int),1+z,d)],u++[.ref B],_,_,_,rfl,(s1.trans G).put O,ae,?_,by rw[length_append,g];rfl,by lia,λm hm=>?_⟩
    .exact CrAt.snoc (m:=(0+(i:Int),1+z,d)) ⟨B,v,rfl,tk _ _ e6,tk _ _ (s6 _ _ e5)⟩ (Y.tk (G.tk.trans tk))
    .rcases mem_append.mp hm with hm | hm
     .exact b m hm
     .rw[mem_singleton.mp hm]
      exact⟨⟨by show 1<=1+z;lia,by show 1+z<=9;lia⟩,y⟩
  .rintro σ L ⟨p,u,x3,x4,x5,rfl,s1,l,Y,g,an,b⟩
   have hl:=uE p λm hm=>(b m hm).1.2
   refine q _ r p u s1 l Y (λz=>?_) ⟨by lia,λm hm=>(b m hm).1.1,by lia,λm hm=>by rw[(b m hm).2];exact⟨Nat.le_refl _,W⟩⟩ λm hm=>(b m hm).2
   rw[z]at g;simp at g;lia
theorem zY(T:Txt K mg a)(f:Bm mg base)(N:Nat):FnOk P w K mg base CX0 (N+4) a.f_aj a.d_aj ["_law_plan_here","_law_way","_law_thing"] (spNoL a N):=by
 have L:FnOk P w K mg base (CXG P w) (N+3) _ _ _ (spNL a N bw):=(oi T N).1.mono (by lia);have B:FnOk P w K mg base (CXG P w) (N+3) _ _ _ (spNL a N aQ):=(oi T N).2.mono (by lia);have O:FnOk P w K mg base (CXG P w) (N+3) _ _ _ (spRz a bw):=(pC T f).mono (by lia);have M:FnOk P w K mg base (CXG P w) (N+3) _ _ _ (spRz a aQ):=(nQ T f).mono (by lia);have C:FnOk P w K mg base (CXG P w) (N+3) _ _ _ (spRz a bw):=(mn T f).mono (by lia);have p:FnOk P w K mg base (CXG P w) (N+3) _ _ _ (spRz a aQ):=(kT T f).mono (by lia);have I:FnOk P w K mg base (CXG P w) (N+3) _ _ _ (spRz a bw):=(lY T f).mono (by lia);have G:FnOk P w K mg base (CXG P w) (N+3) _ _ _ (spRz a aQ):=(kZ T f).mono (by lia);refine T.F_aj.ok sc_aj (λvs H Q E h=>?_) (λcdv A outer s H vs Q E hr h=>?_)
 .obtain⟨v,Y,c,X,rfl,_⟩:=h;rfl
 .obtain⟨v,Y,c,X,rfl,hk,ho,g,D,q⟩:=h
  have sl:sizeLine=16777216:=sizeLine_eq;refine⟨_,(ai (ax (i:=3) sc_aj.nd rfl (Or.inl rfl) rJ) (ai (wz ⟨rfl,rfl⟩ (jE (rM (aT eC (vr 1) ah (aG _)) (jE (jL (PX.or (gq (vr 0) T.cl_t T.mt_w L hr T.B_w .nil (aa (vr 2) ac)) (gq (vr 0) T.cl_g T.mt_r B hr T.B_r .nil (aa (vr 2) ac))))) (jE (rM (aT eC (vr 1) ah (aG _)) (jE (jL (PX.or (gq (vr 0) T.cl_t T.mt_D O hr T.B_D .nil (aa (vr 2) ac)) (gq (vr 0) T.cl_g T.mt_c M hr T.B_c .nil (aa (vr 2) ac))))) (jE (rM (aT eC (vr 1) ah (aG _)) (jE (jL (PX.or (gq (vr 0) T.cl_t T.mt_b C hr T.B_b .nil (aa (vr 2) ac)) (gq (vr 0) T.cl_g T.mt_n p hr T.B_n .nil (aa (vr 2) ac))))) (jE (jL (PX.or (gq (vr 0) T.cl_t T.mt_l I hr T.B_l .nil (aa (vr 2) ac)) (gq (vr 0) T.cl_g T.mt_e G hr T.B_e .nil (aa (vr 2) ac))))))))))) (AU ⟨rfl,rfl⟩ rfl T.mc_ai T.xh_ai sc_aj.nd (ie:=4) rfl rfl (λx=>(aj (ax (i:=3) sc_aj.nd rfl (Or.inl rfl) (vr 4)))) yM)) (ai (aR (PW.pt (qp (dP (dS (ay qy rfl T.z_isinstance bF (aa (vr 3) (aa (bE rfl T.g_L) ac))))) (mK (dP (dS (ay qy rfl T.z_isinstance bF (aa (vr 3) (aa (jR (v:=.ty "ValueError") rfl T.z_ValueError nR rfl) ac)))))))) (aj (au fz)) aD) (aj (au (yA (ay tZ rfl T.z_isinstance bF (aa (vr 3) (aa (aE (aa (bE rfl T.g_F) (aa (bE rfl T.g_af) (aa (bE rfl T.g_X) (aa (bE rfl T.g_aF) ac))))) ac))))))))),pO ?_⟩;intro ab y ad
  have e:∀(b:Hp) (xe:Addr),Same H b->b xe=none->y { nx:=λ_ b=>Q V.non b,rt:=Q } [some v,some (.int (c:Nat)),some X,some (.ref xe),none] (upd b xe (.ext (XCt xe a.c_L none))):=λb xe d hxe=>by
   have sx:Same b (upd b xe (.ext (XCt xe a.c_L none))):=Same.new hxe;have Z:(upd b xe (.ext (XCt xe a.c_L none))) xe=some (.ext (XCt xe a.c_L none)):=ae;generalize upd b xe (.ext (XCt xe a.c_L none))=H2 at sx Z;have W:∀{H3:Hp},Same H2 H3->TyX K H3 (.ref xe) (.ref a.c_L):=λs3=>.inr ⟨xe,a.c_L,_,rfl,rfl,T.xc_L,s3 _ _ Z,λh z=>z.at⟩
   refine⟨_,_,_,true,rfl,rfl,W (Same.refl _),T.kNoLevel,?_⟩;refine⟨_,_,_,true,rfl,rfl,W (Same.refl _),T.vNoLevel,?_⟩;refine⟨(by decide:4<=sizeLine),λtp F=>?_⟩;have s4:=Same.new (o:=.tup [.ref a.c_F,.ref a.c_af,.ref a.c_X,.ref a.c_aF]) F;exact⟨_,tp,_,_,false,rfl,ae,rfl,W s4,T.kNL4,q _ (d.trans (sx.trans s4))⟩
  have w4:c=0\/c=1\/c=2\/c=3:=by rcases D with h | h <;> lia
  cases Y <;> try (cases hk;done)
  .obtain⟨x,j,u,rfl,m,hu⟩:=id g
   rcases D with⟨rfl,n,rfl,S,r⟩ | ⟨w1,w3,l,rfl,R⟩
   .exact .inl ⟨x,j,_,rfl,m,rfl,_,_,n,rfl,rfl,ho,g,S,.inr ⟨r,λb d=>⟨_,rfl,λxe hxe=>.inl ⟨beq_iff_eq.mp T.mNoLevel,e b xe d hxe⟩⟩⟩⟩
   .rcases w4 with rfl | rfl | rfl | rfl
    .lia
    all_goals exact .inl ⟨x,j,_,rfl,m,rfl,_,_,l,rfl,rfl,g,R,λb d=>⟨_,rfl,λxe hxe=>.inl ⟨beq_iff_eq.mp T.mNoLevel,e b xe d hxe⟩⟩⟩
  .obtain⟨x,j,u,z,rfl,m,hu⟩:=id g
   rcases D with⟨rfl,n,rfl,S,r⟩ | ⟨w1,w3,l,rfl,R⟩
   .exact .inr ⟨x,j,_,rfl,m,rfl,_,_,n,rfl,rfl,ho,g,S,.inr ⟨r,λb d=>⟨_,rfl,λxe hxe=>.inl ⟨beq_iff_eq.mp T.mNoLevel,e b xe d hxe⟩⟩⟩⟩
   .rcases w4 with rfl | rfl | rfl | rfl
    .lia
    all_goals exact .inr ⟨x,j,_,rfl,m,rfl,_,_,l,rfl,rfl,g,R,λb d=>⟨_,rfl,λxe hxe=>.inl ⟨beq_iff_eq.mp T.mNoLevel,e b xe d hxe⟩⟩⟩
theorem yE(T:Txt K mg a)(b:Bm mg base)(N:Nat)(hN:N<=3):FnOk P w K mg base CX0 (nd N+2) a.f_ay a.d_ay ["_law_plan_here","_law_crowd_here"] (spAns a N):=by
 have d:∀{k},k<=9->k<=nd N+1:=λ{k} h=>by show k<=24*N+8+1;lia
 have y:FnOk P w K mg base CX0 (nd N+1) _ _ _ (spNode a N jn):=(lI T b N).mono (d (by decide));have ad:FnOk P w K mg base CX0 (nd N+1) _ _ _ (spMat a K N jn):=(lP T b N).mono (d (by decide));have Y:FnOk P w K mg base CX0 (nd N+1) _ _ _ (spBo a N jn):=(ka T N).mono (d (by decide));have aS:FnOk P w K mg base CX0 (nd N+1) _ _ _ (spNode a N dR):=(ji T b N).mono (d (by decide));have a2:FnOk P w K mg base CX0 (nd N+1) _ _ _ (spMat a K N dR):=(i9 T b N).mono (d (by decide));have O:FnOk P w K mg base CX0 (nd N+1) _ _ _ (spBo a N dR):=(ia T N).mono (d (by decide));have a1:FnOk P w K mg base CX0 (nd N+1) _ _ _ (spNode a N dQ):=(iZ T b N).mono (d (by decide));have a3:FnOk P w K mg base CX0 (nd N+1) _ _ _ (spMat a K N dQ):=(jd T b N).mono (d (by decide));have M:FnOk P w K mg base CX0 (nd N+1) _ _ _ (spBo a N dQ):=(hV T N).mono (d (by decide));have as:FnOk P w K mg base CX0 (nd N+1) _ _ _ (spNode a N fw):=(jJ T b N).mono (d (by decide));have a0:FnOk P w K mg base CX0 (nd N+1) _ _ _ (spMat a K N fw):=(jV T b N).mono (d (by decide));have a4:FnOk P w K mg base CX0 (nd N+1) _ _ _ (spBo a N fw):=(iW T N).mono (d (by decide));have ap:FnOk P w K mg base CX0 (nd N+1) _ _ _ (spNode a N bw):=(iG T b N).1.mono (Nat.le_succ _);have R:FnOk P w K mg base CX0 (nd N+1) _ _ _ (spMat a K N bw):=(j6 T b N hN).1.mono (by show 9+2*N<=24*N+8+1;lia);have ab:FnOk P w K mg base CX0 (nd N+1) _ _ _ (spBo a N bw):=(fO T N).1.mono (by show N+6<=24*N+8+1;lia);have an:FnOk P w K mg base CX0 (nd N+1) _ _ _ (spNode a N aQ):=(iG T b N).2.mono (Nat.le_succ _);have I:FnOk P w K mg base CX0 (nd N+1) _ _ _ (spMat a K N aQ):=(j6 T b N hN).2.mono (by show 9+2*N<=24*N+8+1;lia);have Z:FnOk P w K mg base CX0 (nd N+1) _ _ _ (spBo a N aQ):=(fO T N).2.mono (by show N+6<=24*N+8+1;lia);refine T.F_ay.ok sc_ay (λvs H Q E h=>?_) (λcdv A outer s H vs Q E hr h=>?_)
 .obtain⟨v,G,l,g,D,rfl,_⟩:=h;rfl
 .obtain⟨v,G,l,g,D,rfl,ho,F,m,C,W,hT,q⟩:=h
  have sl:sizeLine=16777216:=sizeLine_eq;refine⟨_,(ai (aR (dP (dS (ay iA rfl T.z_isinstance bF (aa (PE.or (al (vr 0) T.cl_Q T.mt_ad y hr T.B_ad .nil af (aa (vr 1) ac)) (PE.or (al (vr 0) T.cl_o T.mt_I aS hr T.B_I .nil af (aa (vr 1) ac)) (PE.or (al (vr 0) T.cl_p T.mt_J a1 hr T.B_J .nil af (aa (vr 1) ac)) (PE.or (al (vr 0) T.cl_A T.mt_W as hr T.B_W .nil af (aa (vr 1) ac)) (PE.or (al (vr 0) T.cl_t T.mt_D ap hr T.B_D .nil af (aa (vr 1) ac)) (al (vr 0) T.cl_g T.mt_c an hr T.B_c .nil af (aa (vr 1) ac))))))) (aa (bE rfl T.g_aG) ac))))) (aj (au fz)) aD) (ai (ax (i:=2) sc_ay.nd rfl (Or.inl rfl) (PE.or (al (vr 0) T.cl_Q T.mt_m ad hr T.B_m .nil af (aa (vr 1) ac)) (PE.or (al (vr 0) T.cl_o T.mt_i a2 hr T.B_i .nil af (aa (vr 1) ac)) (PE.or (al (vr 0) T.cl_p T.mt_j a3 hr T.B_j .nil af (aa (vr 1) ac)) (PE.or (al (vr 0) T.cl_A T.mt_H a0 hr T.B_H .nil af (aa (vr 1) ac)) (PE.or (al (vr 0) T.cl_t T.mt_b R hr T.B_b .nil af (aa (vr 1) ac)) (al (vr 0) T.cl_g T.mt_n I hr T.B_n .nil af (aa (vr 1) ac)))))))) (ai (ax (i:=3) sc_ay.nd rfl (Or.inl rfl) (PE.or (al (vr 0) T.cl_Q T.mt_B Y hr T.B_B .nil af (aa (vr 1) ac)) (PE.or (al (vr 0) T.cl_o T.mt_u O hr T.B_u .nil af (aa (vr 1) ac)) (PE.or (al (vr 0) T.cl_p T.mt_q M hr T.B_q .nil af (aa (vr 1) ac)) (PE.or (al (vr 0) T.cl_A T.mt_v a4 hr T.B_v .nil af (aa (vr 1) ac)) (PE.or (al (vr 0) T.cl_t T.mt_l ab hr T.B_l .nil af (aa (vr 1) ac)) (al (vr 0) T.cl_g T.mt_e Z hr T.B_e .nil af (aa (vr 1) ac)))))))) (ai (aR (PW.pt (qp (dP (dS (ay iA rfl T.z_isinstance bF (aa (vr 2) (aa (jR (v:=.ty "list") rfl T.z_list gw rfl) ac))))) (mK (aT Cg (ay aF rfl T.z_len bf (aa (vr 2) ac)) (ay aF rfl T.z_len bf (aa (vr 1) ac)) (aG _))))) (aj (au fz)) aD) (aj (au (sg (ay iA rfl T.z_isinstance bF (aa (vr 3) (aa (jR (v:=.ty "tuple") rfl T.z_tuple mw rfl) ac))) (sg (lQ eC (ay aF rfl T.z_len bf (aa (vr 3) ac)) ah (aG _)) (uI (vz uz uz uz ah (az av (vr 3) ah (λ_ _=>rfl)) (az av (vr 3) ah (λ_ _=>rfl)) (ay aF rfl T.z_len bf (aa (vr 1) ac)))))))))))),si ?_⟩
  intro a8 a7 a6 a5
  have next:∀ H1,SameT H H1->TabsOk (tabs a) H1->a5 { nx:=λ_ H'=>Q V.non H',rt:=Q } [some v,some (.ref l),none,none] H1:=λH1 t1 hT1=>by
   have j:=F.n (aZ t1)
   refine dw (S:=spMat a K N) "matrix" (λ_=>rfl) (λ_=>rfl) (λ_=>rfl) (λ_ _=>rfl) (λP=>P (.ref l) H1) j λkc E hkc=>⟨v,G,l,g,D,rfl,hkc,ho,j,t1.at m,C.tk (SameT.tk t1),W,hT1,λH2 r rows t2 hT2 _ hr2 _ hM=>?_⟩
   have e:=t1.trans t2;have B:=F.n (aZ e)
   refine dw (S:=spBo a N) "bounds" (λ_=>rfl) (λ_=>rfl) (λ_=>rfl) (λ_ _=>rfl) (λP=>P (.ref l) H2) B λkc E hkc=>⟨v,G,l,g,D,rfl,hkc,ho,B,e.at m,C.tk (SameT.tk e),W,λH3 p lo hi s3 h3 b1 b2 b3=>?_⟩
   have f:=e.trans s3.t;obtain⟨r',L,er,o,rl,_⟩:=hM;cases er;rw[hr2]at o;cases o;have xl:=C.len;refine⟨_,_,_,true,rfl,rfl,.lst (s3 _ _ hr2),rfl,?_⟩;refine⟨_,.inl (SqL.of (s3 _ _ hr2)),⟨_,.inl (SqL.of (f.at m)),?_⟩⟩;rw[show(rows.length:Int)=(g.length:Int) by lia];refine Ah (by simp) ?_;refine⟨_,_,_,true,rfl,rfl,.tup h3,rfl,?_⟩;refine⟨_,.inr (SqT.of h3),?_⟩;refine ixT h3 0 _ rfl _ ?_;refine ifC (λ_=>?_) λc=>absurd b1 c
   refine ixT h3 1 _ rfl _ ?_;refine ifC (λ_=>?_) λc=>absurd b2 c
   refine⟨_,.inl (SqL.of (f.at m)),?_⟩;have b4:decide (hi<=(g.length:Int))=true:=decide_eq_true (by lia);show Q (.bl (decide (hi<=(g.length:Int)))) H3;rw[b4];exact q _ f (hT2.same s3)
  refine dw (S:=spNode a N) "node" (λ_=>rfl) (λ_=>rfl) (λ_=>rfl) (λ_ _=>rfl) (λP=>P (.ref l) H) F λkc E hkc=>⟨v,G,l,g,D,rfl,hkc,ho,F,m,C,W,hT,λH1 u t1 hT1 hnd=>?_⟩
  rcases hnd with⟨ns,⟨x,X,t,rfl,hx,_⟩,_⟩ | ⟨_,x,X,l',ys,rfl,hx,_⟩
  .exact⟨_,_,_,true,rfl,rfl,T.ty_s H1 x X _ hx,T.kTN,next H1 t1 hT1⟩
  .exact⟨_,_,_,true,rfl,rfl,T.ty_G H1 x X _ hx,T.kDN,next H1 t1 hT1⟩
end
open Nst (Mb plc szs hd tl dr groups aW parts outer aX bq bz)
theorem vI{a:Ad}{c:List Addr}{H:Hp}(b:∀ q∈tabs a,q.1∈c)(h:∀ P∈c,H P=some (.tbl #[])):TabsOk (tabs a) H:=λq d=>⟨#[],h _ (b q d),trivial,λ_ _=>.inl rfl⟩
theorem zH{i:Nat}{v:V}{a σ':St}{H:Hp}{Q:St->Hp->Prop}(e:a.set i (some v)=σ')(h:Q σ' H):sZ i v a H Q:=by
 subst e;exact h
abbrev JL(a:Ad)(H0:Hp)(σ:St):St->Hp->Prop:=λσ' H'=>σ'=σ/\SameT H0 H'/\TabsOk (tabs a) H'
abbrev lawK:Nat:=83
theorem sY{H:Hp}:∀{pl:Pl}{v:V},IsTr H v pl->∃(x:Addr) (z:Str) (vs:List V),v=.ref x/\H x=some (.tup (.str z::vs))/\inV (.str z) [.str "each",.str "first"] = !ir pl
 | .few _,_,⟨x,h1,h2⟩=>⟨x,_,_,h1,h2,(by show _=false;decide +kernel)⟩
 | .start _,_,⟨x,h1,h2⟩=>⟨x,_,_,h1,h2,(by show _=false;decide +kernel)⟩
 | .loose _,_,⟨x,h1,h2⟩=>⟨x,_,_,h1,h2,(by show _=false;decide +kernel)⟩
 | .duel _,_,⟨x,h1,h2⟩=>⟨x,_,_,h1,h2,(by show _=false;decide +kernel)⟩
 | .each _,_,⟨x,_,h1,h2,_⟩=>⟨x,_,_,h1,h2,(by show _=true;decide +kernel)⟩
 | .first _ _,_,⟨x,_,_,h1,h2,_⟩=>⟨x,_,_,h1,h2,(by show _=true;decide +kernel)⟩
theorem yQ{K:Frag}{p:Addr}{xs:List V}{x:V}{b:Bool}{H:Hp}{Q:VK}(a:SqT K H p xs)(h2:iK x=true)(c:xs.all iK=true)(e:inV x xs=b)(q:Q (.bl b) H):rIn K false x (.ref p) H Q:=⟨p,xs,rfl,.inr a,h2,c,by subst e;exact q⟩
theorem yS{x y:Int}{a:Bool}{H:Hp}{Q:VK}(h:a=decide (y<=x))(q:Q (.bl a) H):rI2 (λi j=>V.bl (decide (j<=i))) (.int x) (.int y) H Q:=by subst h;exact q
inductive spNL0(a:Ad)(N:Nat)(c:Pl->Bool)(vs:List V)(H:Hp)(Q:VK)(_E:XK):Prop
 | mk(v:V)(pl:Pl)(n:Nat)(h0:vs=[v,.int (n:Nat)])(h1:c pl=true)(h2:okP N pl)(h3:IsPn a H v pl)(h4:n<=3)(h5:aI pl<=n)(h6:Q .non H):spNL0 a N c vs H Q _E
section
variable {P:Program}{w:World}{K:Frag}{mg:Str->Option Value}{base:Heap}{a:Ad}
theorem Al{k:Nat}{f:Addr}{a:FuncData}{ps:List Str}{sp:Sp}(F:FnOk P w K mg base (CXG P w) k f a ps sp):FnOk P w K mg base CX0 k f a ps (λvs H Q _=>sp vs H Q λ_ _ _=>False) :=
 ⟨λvs H Q E h=>F.len vs H Q _ h,λA outer s H args us vs Q E hr e0 hb hv hs=>codeAny_mono (F.run A outer s H args us vs Q _ hr e0 hb hv hs) λr s' hq=>by
  cases r with
  | error e=>obtain⟨_,_,_,_,_,_,_,z⟩:=hq;exact z
  | ok fl=>cases fl <;> exact hq⟩
theorem jQ{H:Hp}:∀(l:List Int),DVs K H (l.map PyData.int) (l.map V.int)
 | []=>by simp[DVs]
 | c::l=>by
  rw[map_cons,map_cons,DVs];exact⟨_,_,rfl,by simp[DV],jQ l⟩
theorem mO:∀(l:List Int),PyData.canLayAll0 (l.map PyData.int)=true/\PyData.depthAll (l.map PyData.int)<=1
 | []=>by simp[PyData.canLayAll0,PyData.depthAll]
 | t::l=>by
  obtain⟨a,b⟩:=mO l;rw[map_cons,PyData.canLayAll0,PyData.depthAll,a,PyData.canLay0];refine⟨rfl,?_⟩;simp only[PyData.depth];lia
theorem wC{H:Hp}{ns:List Int}{l r:Addr}{Q:VK}(c:H l=some (.lst (ns.map V.int)))(h2:H r=some (.lst (ns.map V.int)))(q:Q (.bl false) H):rEqD K true (.ref l) (.ref r) H Q:=by
 have a:SeqAt.shaped (.list (ns.map PyData.int))=true:=by
  obtain⟨b,d⟩:=mO ns;unfold SeqAt.shaped;rw[PyData.canLay0,b,Bool.true_and];refine decide_eq_true ?_;simp only[PyData.depth];lia
 refine⟨.list (ns.map PyData.int),.list (ns.map PyData.int),by rw[DV];exact⟨l,_,rfl,SqL.of c,jQ _⟩,by rw[DV];exact⟨r,_,rfl,SqL.of h2,jQ _⟩,a,a,?_⟩;rw[SeqAt.eqv_refl _ (SeqAt.canLay_of_shaped a)];exact q
theorem oP{H:Hp}{ns:List Int}{l r:Addr}{Q:VK}(c:H l=some (.tup (ns.map V.int)))(h2:H r=some (.tup (ns.map V.int)))(q:Q (.bl false) H):rEqD K true (.ref l) (.ref r) H Q:=by
 have a:SeqAt.shaped (.tuple (ns.map PyData.int))=true:=by
  obtain⟨b,d⟩:=mO ns;unfold SeqAt.shaped;rw[PyData.canLay0,b,Bool.true_and];refine decide_eq_true ?_;simp only[PyData.depth];lia
 refine⟨.tuple (ns.map PyData.int),.tuple (ns.map PyData.int),?_,?_,a,a,?_⟩
 .rw[DV];exact⟨l,_,rfl,SqT.of c,jQ ns⟩
 .rw[DV];exact⟨r,_,rfl,SqT.of h2,jQ ns⟩
 rw[SeqAt.eqv_refl _ (SeqAt.canLay_of_shaped a)];exact q
theorem nl0{k:Nat}{f:Addr}{p:FuncData}{ps:List Str}{N:Nat}{c:Pl->Bool}(F:FnOk P w K mg base (CXG P w) k f p ps (spNL a N c)):FnOk P w K mg base CX0 k f p ps (spNL0 a N c):=by
 have G:=Al F;refine⟨λj H Q E h=>G.len j H Q E ?_,λA outer s H args us j Q E hr e0 hb hv hs=>G.run A outer s H args us j Q E hr e0 hb hv ?_⟩
 .obtain⟨v,b,n,l,g,e,d,i,o,m⟩:=h;exact⟨v,b,n,l,g,e,d,i,.inl ⟨o,m⟩⟩
 .obtain⟨v,b,n,l,g,e,d,i,o,m⟩:=hs;exact⟨v,b,n,l,g,e,d,i,.inl ⟨o,m⟩⟩
theorem ok_law{ts:List Addr}(T:Txt K mg a)(L:Bm mg base)(e2:∀ q∈tabs a,q.1∈ts):FnOk P w K mg base CX0 lawK a.f_aP a.d_aP ["_law_script"] (spLaw K ts):=by
 have O:∀{k},k<=9->k<=82:=λ{k} h=>by lia
 have dt:FnOk P w K mg base CX0 82 _ _ _ (spNode a 3 jn):=(lI T L 3).mono (O (by decide));have ei:FnOk P w K mg base CX0 82 _ _ _ (spMat a K 3 jn):=(lP T L 3).mono (O (by decide));have ez:FnOk P w K mg base CX0 82 _ _ _ (spBo a 3 jn):=(ka T 3).mono (O (by decide));have ek:FnOk P w K mg base CX0 82 _ _ _ (spNode a 3 dR):=(ji T L 3).mono (O (by decide));have d':FnOk P w K mg base CX0 82 _ _ _ (spMat a K 3 dR):=(i9 T L 3).mono (O (by decide));have dy:FnOk P w K mg base CX0 82 _ _ _ (spBo a 3 dR):=(ia T 3).mono (O (by decide));have el:FnOk P w K mg base CX0 82 _ _ _ (spNode a 3 dQ):=(iZ T L 3).mono (O (by decide));have e4:FnOk P w K mg base CX0 82 _ _ _ (spMat a K 3 dQ):=(jd T L 3).mono (O (by decide));have ey:FnOk P w K mg base CX0 82 _ _ _ (spBo a 3 dQ):=(hV T 3).mono (O (by decide));have ej:FnOk P w K mg base CX0 82 _ _ _ (spNode a 3 fw):=(jJ T L 3).mono (O (by decide));have eu:FnOk P w K mg base CX0 82 _ _ _ (spMat a K 3 fw):=(jV T L 3).mono (O (by decide));have ew:FnOk P w K mg base CX0 82 _ _ _ (spBo a 3 fw):=(iW T 3).mono (O (by decide));have e1:FnOk P w K mg base CX0 82 _ _ _ _:=(iG T L 3).1.mono (by decide);have ed:FnOk P w K mg base CX0 82 _ _ _ _:=(j6 T L 3 (Nat.le_refl _)).1.mono (by decide);have d1:FnOk P w K mg base CX0 82 _ _ _ _:=(fO T 3).1.mono (by decide);have d2:FnOk P w K mg base CX0 82 _ _ _ _:=(nl0 (oi T 3).1).mono (by decide);have e0:FnOk P w K mg base CX0 82 _ _ _ _:=(iG T L 3).2.mono (by decide);have ex:FnOk P w K mg base CX0 82 _ _ _ _:=(j6 T L 3 (Nat.le_refl _)).2.mono (by decide);have eS:FnOk P w K mg base CX0 82 _ _ _ _:=(fO T 3).2.mono (by decide);have eo:FnOk P w K mg base CX0 82 _ _ _ _:=(nl0 (oi T 3).2).mono (by decide);have a7:FnOk P w K mg base CX0 82 _ _ _ _:=(nl0 (yf T 3)).mono (by decide);have da:FnOk P w K mg base CX0 82 _ _ _ _:=(yq T).mono (by decide);have c8:FnOk P w K mg base CX0 82 _ _ _ _:=(wS T).mono (by decide);have as:FnOk P w K mg base CX0 82 _ _ _ _:=(qJ T).mono (by decide)
 have c1:FnOk P w K mg base CX0 82 _ _ _ _:=(sK T 4 (Nat.le_refl _)).mono (by decide);have c2:FnOk P w K mg base CX0 82 _ _ _ _:=(sX T 3).mono (by decide);have c3:FnOk P w K mg base CX0 82 _ _ _ _:=(qQ T 3).mono (by decide);have cs:FnOk P w K mg base CX0 82 _ _ _ _:=(tm T).mono (by decide);have bo:FnOk P w K mg base CX0 82 _ _ _ _:=(zY T L 3).mono (by decide);have cO:FnOk P w K mg base CX0 82 _ _ _ (spAns a 3):=yE T L 3 (Nat.le_refl _);refine T.F_aP.ok sc_aP (λvs H Q E h=>?_) (λcdv A outer s H vs Q E hr h=>?_)
 .obtain⟨p,ns,rfl,_⟩:=h;rfl
 .obtain⟨p,ns,rfl,hS,hl,hP,q⟩:=h
  have eT:sizeLine=16777216:=sizeLine_eq;have hT:=vI e2 hP
  refine⟨_,(ai (fY PassesOwn.never rfl (eP rfl T.z_range (aa (ay (um rfl) rfl T.z_max yR (aa ah (aa (ay (jc rfl) rfl T.z_min pE (aa ah (aa (ay aF rfl T.z_len bf (aa (vr 0) ac)) ac))) ac))) ac)) (ao (i:=1) sc_aP.nd rfl (Or.inl rfl)) (ai (ax (i:=2) sc_aP.nd rfl (Or.inl rfl) (ag c8 hr rfl T.m_aO T.F_aO.kp T.B_aO .nil af (aa (vr 0) (aa (vr 1) ac)))) (ai (ax (i:=3) sc_aP.nd rfl (Or.inl rfl) (aw dN (aw dN (ag as hr rfl T.m_ak T.F_ak.kp T.B_ak .nil af (aa (vr 2) (aa ah ac))) (aw be (ag as hr rfl T.m_ak T.F_ak.kp T.B_ak .nil af (aa (vr 2) (aa ah ac))) (aw uN ah ah))) (aw be (ag as hr rfl T.m_ak T.F_ak.kp T.B_ak .nil af (aa (vr 2) (aa ah ac))) (aw uN ah ah)))) (ai (ax (i:=4) sc_aP.nd rfl (Or.inl rfl) (az av (ag c1 hr rfl T.m_at T.F_at.kp T.B_at .nil af (aa (vr 3) (aa ah (aa fz ac)))) ah (λ_ _=>rfl))) (ai (ax (i:=5) sc_aP.nd rfl (Or.inl rfl) (ag c2 hr rfl T.m_az T.F_az.kp T.B_az .nil af (aa (vr 4) ac))) (ai (aR (PW.pt (qp (aT (wp hr.units) (PE.or (al (vr 5) T.cl_Q T.mt_m ei hr T.B_m .nil af (aa (aN ac) ac)) (PE.or (al (vr 5) T.cl_o T.mt_i d' hr T.B_i .nil af (aa (aN ac) ac)) (PE.or (al (vr 5) T.cl_p T.mt_j e4 hr T.B_j .nil af (aa (aN ac) ac)) (PE.or (al (vr 5) T.cl_A T.mt_H eu hr T.B_H .nil af (aa (aN ac) ac)) (PE.or (al (vr 5) T.cl_t T.mt_b ed hr T.B_b .nil af (aa (aN ac) ac)) (al (vr 5) T.cl_g T.mt_n ex hr T.B_n .nil af (aa (aN ac) ac))))))) (aN ac) (aG _)) (mK (aT (wp hr.units) (PE.or (al (vr 5) T.cl_Q T.mt_B ez hr T.B_B .nil af (aa (aN ac) ac)) (PE.or (al (vr 5) T.cl_o T.mt_u dy hr T.B_u .nil af (aa (aN ac) ac)) (PE.or (al (vr 5) T.cl_p T.mt_q ey hr T.B_q .nil af (aa (aN ac) ac)) (PE.or (al (vr 5) T.cl_A T.mt_v ew hr T.B_v .nil af (aa (aN ac) ac)) (PE.or (al (vr 5) T.cl_t T.mt_l d1 hr T.B_l .nil af (aa (aN ac) ac)) (al (vr 5) T.cl_g T.mt_e eS hr T.B_e .nil af (aa (aN ac) ac))))))) (aE (aa ah (aa ah ac))) (aG _))))) (aj (au fz)) aD) (fG (aR (PW.pt (qp (aT eC (az av (vr 4) ah (λ_ _=>rfl)) bD (aG _)) (mK (PW.pt (ke (aT eC (az av (vr 4) ah (λ_ _=>rfl)) bD (aG _)) (ja (aT kD (az av (az av (vr 4) ah (λ_ _=>rfl)) ah (λ_ _=>rfl)) (aE (aa bD (aa bD (aa bD (aa bD ac))))) (by with_unfolding_all rfl)))))))) (aj (aR (aT (wp hr.units) (fQ (PE.or (al (vr 5) T.cl_Q T.mt_ad dt hr T.B_ad .nil af (aa (aN ac) ac)) (PE.or (al (vr 5) T.cl_o T.mt_I ek hr T.B_I .nil af (aa (aN ac) ac)) (PE.or (al (vr 5) T.cl_p T.mt_J el hr T.B_J .nil af (aa (aN ac) ac)) (PE.or (al (vr 5) T.cl_A T.mt_W ej hr T.B_W .nil af (aa (aN ac) ac)) (PE.or (al (vr 5) T.cl_t T.mt_D e1 hr T.B_D .nil af (aa (aN ac) ac)) (al (vr 5) T.cl_g T.mt_c e0 hr T.B_c .nil af (aa (aN ac) ac))))))) T.cl_s T.mt_al da hr T.B_al .nil af) (aE ac) (aG _)) (aj (au fz)) aD)) aD) (aj (fY PassesOwn.never rfl (eP rfl T.z_range (aa ah ac)) (ao (i:=6) sc_aP.nd rfl (Or.inl rfl)) (ai (ax (i:=7) sc_aP.nd rfl (Or.inl rfl) (lQ Bn (vr 6) (ag c3 hr rfl T.m_as T.F_as.kp T.B_as .nil af (aa (vr 4) ac)) (aG _))) (fG (aR (PW.pt (ke (dS (vr 7)) (ja (aT xa (PE.or (al (vr 5) T.cl_Q T.mt_Few_need_levels a7 hr T.B_h .nil af (aa (vr 6) ac)) (PE.or (al (vr 5) T.cl_o T.mt_Start_need_levels a7 hr T.B_h .nil af (aa (vr 6) ac)) (PE.or (al (vr 5) T.cl_p T.mt_Loose_need_levels a7 hr T.B_h .nil af (aa (vr 6) ac)) (PE.or (al (vr 5) T.cl_A T.mt_Duel_need_levels a7 hr T.B_h .nil af (aa (vr 6) ac)) (PE.or (al (vr 5) T.cl_t T.mt_w d2 hr T.B_w .nil af (aa (vr 6) ac)) (al (vr 5) T.cl_g T.mt_r eo hr T.B_r .nil af (aa (vr 6) ac))))))) rJ (aG _))))) (aj (au fz)) aD) (fG (aR (PW.pt (ke (dP (dS (vr 7))) (ja (dP (dS (ag bo hr rfl T.m_aj T.F_aj.kp T.B_aj .nil af (aa (vr 5) (aa ah (aa (vr 6) ac))))))))) (aj (au fz)) aD) (ai (ax (i:=8) sc_aP.nd rfl (Or.inl rfl) (ag cs hr rfl T.m_aE T.F_aE.kp T.B_aE .nil af (aa (vr 2) (aa (vr 6) ac)))) (fG (aR (PW.pt (ke (dS (vr 7)) (ja (dP (dS (ag cO hr rfl T.m_ay T.F_ay.kp T.B_ay .nil af (aa (vr 5) (aa (vr 8) ac)))))))) (aj (au fz)) aD) (aj (aR (PW.pt (ke (aT eC (vr 6) ah (aG _)) (ja (aT kD (az av (vr 4) ah (λ_ _=>rfl)) (aE (aa bD (aa bD ac))) (by with_unfolding_all rfl))))) (aj (fY PassesOwn.never rfl (aO (aN (aa ah (aa ah (aa ah ac))))) (ao (i:=9) sc_aP.nd rfl (Or.inl rfl)) (aj (aR (dP (dS (ag bo hr rfl T.m_aj T.F_aj.kp T.B_aj .nil af (aa (vr 5) (aa (vr 9) (aa (vr 8) ac)))))) (aj (au fz)) aD)))) aD)))))))))))))))) (aj (au fz))),?_⟩
  refine⟨_,.inl hS,⟨_,_,rfl,⟨_,_,rfl,?_⟩⟩⟩;rw[length_map];refine⟨_,rfl,by split <;> split <;> lia,by split <;> split <;> lia,?_⟩
  let Pw1:PvS:=λi W b=>SameT H b/\TabsOk (tabs a) b/\i<=20/\∃(x1 x2 x3 x4 x5 x6 x7 x8 x9:Option V),W=[some (.ref p),x1,x2,x3,x4,x5,x6,x7,x8,x9]
  refine kd Pw1 ⟨SameT.refl,hT,Nat.zero_le _,none,none,none,none,none,none,none,none,none,rfl⟩ ?_ ?_
  .rintro i W b hi ⟨t1,dl,e6,x1,x2,x3,x4,x5,x6,x7,x8,x9,rfl⟩
   have e7:i<20:=by split at hi <;> (try split at hi) <;> lia
   have e3:SqL K b p (ns.map V.int):=hS.imp (λz=>z.imp (λe=>t1.at e) (λ⟨o,e⟩=>⟨o,t1.at e⟩)) id;refine⟨p,ns,0+(i:Int),rfl,e3,hl,by lia,by lia,?_⟩;generalize rL ns (0+(i:Int))=c;refine⟨c,0,rfl,by decide,by decide,λY d3 fd=>?_⟩;refine⟨c,2,rfl,by decide,by decide,λX eq e9=>?_⟩;refine⟨cw,crB (by decide +kernel) (by decide +kernel),?_⟩;refine⟨c,3,rfl,by decide,by decide,λR ep fl=>?_⟩;refine⟨cw,cmB (m:=50) (n:=70) (by unfold Bt;lia) (by unfold Bt;decide +kernel),?_⟩;have c9:0<=Y+X*2 ^ Int.toNat 40+R*2 ^ Int.toNat 64:=Int.add_nonneg (Int.add_nonneg d3 (Int.mul_nonneg eq (by decide +kernel))) (Int.mul_nonneg ep (by decide +kernel));refine⟨_,0,rfl,by decide,by decide,c9,λH2 t2 v C N2 s2 ef fa c' ho=>?_⟩;refine ixT ef 0 _ rfl _ ⟨v,C,rfl,c',ho,λH3 f s3 hp=>?_⟩;have db:=c'.same s3;have t3:=t1.trans (s2.trans s3).t;have ev:=dl.same (s2.trans s3);have e5:SameT H3 H3:=SameT.refl;refine zH (σ':=[some (.ref p),some (.int (0+(i:Int))),some (.int c),some (.int (Y+X*2 ^ Int.toNat 40+R*2 ^ Int.toNat 64)),some v,some f,x6,x7,x8,x9]) rfl ?_
   refine dw (S:=spMat a K 3) "matrix" (λ_=>rfl) (λ_=>rfl) (λ_=>rfl) (λ_ _=>rfl) (λP=>([]:List V).length<=sizeLine/\∀ l,H3 l=none->P (.ref l) (upd H3 l (.lst []))) hp λkc E hkc=>⟨Nat.zero_le _,λl0 hl0=>?_⟩
   have s4:=Same.new (o:=.lst []) hl0;refine⟨f,C,l0,[],[],rfl,hkc,ho,hp.n (aZ s4.t),ae,.nil,kf _,ev.same s4,λH5 r c0 t5 eA _ cT _ hM=>?_⟩;obtain⟨r',dx,er,c5,rl,_⟩:=hM;cases er;rw[cT]at c5;cases c5;have:c0=[]:=length_eq_zero_iff.mp rl;subst this;refine⟨Nat.zero_le _,λl1 eH=>?_⟩;have s6:=Same.new (o:=.lst []) eH;refine wC (ns:=[]) (s6 _ _ cT) ae ?_;have b6:=s4.t.trans (t5.trans s6.t);have dp:=eA.same s6;generalize upd H5 l1 (.lst [])=H6 at s6 b6 dp;have cW:=hp.n (aZ b6)
   refine dw (S:=spBo a 3) "bounds" (λ_=>rfl) (λ_=>rfl) (λ_=>rfl) (λ_ _=>rfl) (λP=>([]:List V).length<=sizeLine/\∀ l,H6 l=none->P (.ref l) (upd H6 l (.lst []))) cW λkc E hkc=>⟨Nat.zero_le _,λl2 hl2=>?_⟩
   have s7:=Same.new (o:=.lst []) hl2;refine⟨f,C,l2,[],[],rfl,hkc,ho,cW.n (aZ s7.t),ae,.nil,kf _,λH8 pb lo hi s8 ec b1 b2 b3=>?_⟩;obtain rfl:hi=0:=by simp at b3;lia
   obtain rfl:lo=0:=by lia
   refine⟨cb _ _,λp9 D=>?_⟩;have s9:=Same.new (o:=.tup [.int 0,.int 0]) D;refine oP (ns:=[0,0]) (s9 _ _ ec) ae ?_;have ck:=s7.trans (s8.trans s9);have a4:=b6.trans ck.t;have a6:=dp.same ck;generalize upd H8 p9 (.tup [.int 0,.int 0])=H9 at s9 ck a4 a6;have D:=hp.n (aZ a4);have I:=db.n (aZ a4);refine⟨JL a H9 [some (.ref p),some (.int (0+(i:Int))),some (.int c),some (.int (Y+X*2 ^ Int.toNat 40+R*2 ^ Int.toNat 64)),some v,some f,x6,x7,x8,x9],?_,?_⟩
   .have a9:SameT H9 H9:=SameT.refl
    cases C with
    | each p0 =>
     obtain⟨x,u,rfl,hx,hu⟩:=I;refine ixT hx 0 _ rfl _ ?_
     refine dw (S:=spNode a 3) "node" (λ_=>rfl) (λ_=>rfl) (λ_=>rfl) (λ_ _=>rfl) (λP=>([]:List V).length<=sizeLine/\∀ l,H9 l=none->P (.ref l) (upd H9 l (.lst []))) (D.n (aZ a9)) λkc E hkc=>⟨Nat.zero_le _,λl3 hl3=>?_⟩
     have F:=Same.new (o:=.lst []) hl3;refine⟨f,_,l3,[],[],rfl,hkc,ho,D.n (aZ (SameT.trans a9 F.t)),ae,.nil,kf _,TabsOk.same a6 F,λa5 u9 B d ca=>?_⟩
     rcases ca with⟨b4,⟨xt,aS,kt,rfl,ad,ch⟩,co,_⟩ | ⟨z9,_⟩
     .obtain rfl:b4=[]:=length_eq_zero_iff.mp (Nat.le_zero.mp co)
      refine⟨xt,aS,_,rfl,ad,rfl,xt,aS,kt,rfl,ad,?_⟩;refine⟨Nat.zero_le _,λa8 a2=>?_⟩;have g:=Same.new (o:=.tup []) a2;exact oP (ns:=[]) (g _ _ ch) ae ⟨rfl,SameT.trans a9 (F.t.trans (B.trans g.t)),d.same g⟩
     .exact absurd rfl z9
    | first p0 q0 =>
     obtain⟨x,u1,u2,rfl,hx,h1,h2⟩:=I;obtain⟨x1,fe,e',rfl,ea,_⟩:=sY h1;refine ixT hx 0 _ rfl _ (ixT hx 0 _ rfl _ (ixT hx 1 _ rfl _ (ixT ea 0 _ (ci 0 rfl rfl) _ ⟨(by decide:4<=sizeLine),λtp b5=>?_⟩)));have sT:=Same.new (o:=.tup [.str "few",.str "loose",.str "duel",.str "each"]) b5;have M:=a6.same sT;refine⟨tp,_,rfl,.inr (SqT.of ae),rfl,rfl,?_⟩
     refine ifB (λ_=>?_) λ_=>⟨rfl,sT.t,M⟩
     refine dw (S:=spNode a 3) "node" (λ_=>rfl) (λ_=>rfl) (λ_=>rfl) (λ_ _=>rfl) (λP=>([]:List V).length<=sizeLine/\∀ l,(upd H9 tp (.tup [.str "few",.str "loose",.str "duel",.str "each"])) l=none->P (.ref l) (upd (upd H9 tp (.tup [.str "few",.str "loose",.str "duel",.str "each"])) l (.lst []))) (D.n (aZ sT.t)) λkc E hkc=>⟨Nat.zero_le _,λl3 hl3=>?_⟩
     have F:=Same.new (o:=.lst []) hl3;refine⟨f,_,l3,[],[],rfl,hkc,ho,D.n (aZ (SameT.trans sT.t F.t)),ae,.nil,kf _,TabsOk.same M F,λa5 u9 B d ca=>?_⟩
     rcases ca with⟨b4,⟨xt,aS,kt,rfl,ad,ch⟩,co,_⟩ | ⟨z9,_⟩
     .obtain rfl:b4=[]:=length_eq_zero_iff.mp (Nat.le_zero.mp co)
      refine⟨xt,aS,_,rfl,ad,rfl,xt,aS,kt,rfl,ad,?_⟩;refine⟨Nat.zero_le _,λa8 a2=>?_⟩;have g:=Same.new (o:=.tup []) a2;exact oP (ns:=[]) (g _ _ ch) ae ⟨rfl,SameT.trans sT.t (F.t.trans (B.trans g.t)),d.same g⟩
     .exact absurd rfl z9
    | _ =>
     obtain⟨x,rfl,hx⟩:=I;exact ixT hx 0 _ rfl _ (ixT hx 0 _ rfl _ ⟨rfl,a9,a6⟩)
   rintro σ' ds ⟨rfl,cg,dv⟩;have a0:=I.n (aZ cg);have dd:=D.n (aZ cg);refine⟨_,rfl,by decide,by decide,?_⟩
   let Pw2:PvS:=λj W b=>SameT ds b/\TabsOk (tabs a) b/\j<=4/\∃(y6 y7 y8 N:Option V),W=[some (.ref p),some (.int (0+(i:Int))),some (.int c),some (.int (Y+X*2 ^ Int.toNat 40+R*2 ^ Int.toNat 64)),some v,some f,y6,y7,y8,N]
   refine kd Pw2 ⟨SameT.refl,dv,Nat.zero_le _,x6,x7,x8,x9,rfl⟩ ?_ ?_
   .rintro j W a5 hj ⟨B,d,_,y6,y7,y8,N,rfl⟩
    have ff:j<4:=hj;have a1:=dd.n (aZ B);refine⟨v,C,rfl,a0.n (aZ B),ho,?_⟩
    obtain⟨eb,heb⟩:∃ eb:Bool,eb=decide (((aI C:Nat):Int)<=0+(j:Int)):=⟨_,rfl⟩
    have ct:eb=true->aI C<=j:=λz=>by rw[z]at heb;have:=of_decide_eq_true heb.symm;lia
    have cS:eb=false->j<aI C:=λz=>by rw[z]at heb;have:=of_decide_eq_false heb.symm;lia
    have nf:eb=false->ir C=false:=λz=>by
     have:=cS z;cases hf:ir C with
     | false=>rfl
     | true=>rw[mL hf]at this;lia
    refine yS heb ?_;refine zH (σ':=[some (.ref p),some (.int (0+(i:Int))),some (.int c),some (.int (Y+X*2 ^ Int.toNat 40+R*2 ^ Int.toNat 64)),some v,some f,some (.int (0+(j:Int))),some (.bl eb),y8,N]) rfl ?_;refine⟨JL a a5 [some (.ref p),some (.int (0+(i:Int))),some (.int c),some (.int (Y+X*2 ^ Int.toNat 40+R*2 ^ Int.toNat 64)),some v,some f,some (.int (0+(j:Int))),some (.bl eb),y8,N],?_,?_⟩
    .cases eb with
     | false=>exact⟨rfl,SameT.refl,d⟩
     | true =>
      refine lL (S:=spNL0 a 3) "need_levels" (λ_=>rfl) (λ_=>rfl) (λ_=>rfl) (λ_ _=>rfl) (λP=>P (.int (0+(j:Int))) a5) a1 λkc hkc=>⟨f,C,j,(by rw[Int.zero_add] <;> rfl),hkc,ho,a1,by lia,ct rfl,?_⟩
      exact⟨rfl,SameT.refl,d⟩
    rintro σ' dV ⟨rfl,a8,bd⟩;have bm:=a1.n (aZ a8);refine⟨JL a dV [some (.ref p),some (.int (0+(i:Int))),some (.int c),some (.int (Y+X*2 ^ Int.toNat 40+R*2 ^ Int.toNat 64)),some v,some f,some (.int (0+(j:Int))),some (.bl eb),y8,N],?_,?_⟩
    .cases eb with
     | true=>exact⟨rfl,SameT.refl,bd⟩
     | false=>exact⟨f,C,0,.int (0+(j:Int)),rfl,nf rfl,ho,bm,.inl ⟨rfl,j,by rw[Int.zero_add],by lia,cS rfl⟩,λb s'=>⟨rfl,s'.t,bd.same s'⟩⟩
    rintro σ' e8 ⟨rfl,dm,c6⟩;refine⟨c,j,(by rw[Int.zero_add] <;> rfl),by lia,λd0 rc ms xs b' cB hC dK eB es=>?_⟩;have bl:=bm.n (aZ (dm.trans b'.t));have bN:=c6.same b';refine zH (σ':=[some (.ref p),some (.int (0+(i:Int))),some (.int c),some (.int (Y+X*2 ^ Int.toNat 40+R*2 ^ Int.toNat 64)),some v,some f,some (.int (0+(j:Int))),some (.bl eb),some (.ref rc),N]) rfl ?_;refine⟨JL a d0 [some (.ref p),some (.int (0+(i:Int))),some (.int c),some (.int (Y+X*2 ^ Int.toNat 40+R*2 ^ Int.toNat 64)),some v,some f,some (.int (0+(j:Int))),some (.bl eb),some (.ref rc),N],?_,?_⟩
    .cases eb with
     | false=>exact⟨rfl,SameT.refl,bN⟩
     | true=>exact⟨f,C,rc,xs,ms,rfl,ho,bl,cB,hC,eB.down (ct rfl),bN,λb t' a3=>⟨rfl,t',a3⟩⟩
    rintro σ' a' ⟨rfl,an,b0⟩;have Z:=B.trans (a8.trans (dm.trans (b'.t.trans an)))
    have G:∀(b:Hp) (z9:Option V),SameT a' b->TabsOk (tabs a) b->SameT ds b/\TabsOk (tabs a) b/\j+1<=4/\∃(y6 y7 y8 N:Option V),[some (.ref p),some (.int (0+(i:Int))),some (.int c),some (.int (Y+X*2 ^ Int.toNat 40+R*2 ^ Int.toNat 64)),some v,some f,some (.int (0+(j:Int))),some (.bl eb),some (.ref rc),z9]=[some (.ref p),some (.int (0+(i:Int))),some (.int c),some (.int (Y+X*2 ^ Int.toNat 40+R*2 ^ Int.toNat 64)),some v,some f,y6,y7,y8,N]:=λb z9 t' a3=>⟨Z.trans t',a3,by lia,_,_,_,_,rfl⟩
    refine ifC (λcj=>?_) λcj=>G a' N SameT.refl b0
    have cj:j=0:=by have cj:(0+(j:Int))=0:=cj;lia
    have b9:=a0.n (aZ Z);have c7:=bl.n (aZ an)
    have en:No1 a' rc:=by
     cases hC with
     | nil=>exact absurd rfl dK
     | @cons m y ms' ys r1 _ =>
      obtain⟨q1,pt,rfl,et,cC⟩:=r1;have:m.2.2=[]:=length_eq_zero_iff.mp (by rw[es m mem_cons_self];exact cj);rw[this]at cC;exact⟨ys,q1,_,_,pt,an.at cB,an.at et,an.at cC⟩
    obtain⟨x,z,vs,rfl,hx,hz⟩:=sY b9;refine ixT hx 0 _ (ci 0 rfl rfl) _ ⟨(by decide:2<=sizeLine),λtp b5=>yQ (SqT.of ae) rfl rfl hz ?_⟩;have sT:=Same.new (o:=.tup [.str "each",.str "first"]) b5;have M:=b0.same sT;generalize upd a' tp (.tup [.str "each",.str "first"])=H16 at sT M;cases hf:ir C with
    | true=>exact G H16 N sT.t M
    | false =>
     refine⟨(by decide:3<=sizeLine),λlw eD=>?_⟩;have sW:=Same.new (o:=.lst [.int 1,.int 2,.int 3]) eD;have hw:(upd H16 lw (.lst [.int 1,.int 2,.int 3])) lw=some (.lst [.int 1,.int 2,.int 3]):=ae;have de:=M.same sW;generalize upd H16 lw (.lst [.int 1,.int 2,.int 3])=H17 at sW hw de;have c4:=sT.trans sW
     let Pw3:PvS:=λk W b=>Same H17 b/\∃ z9:Option V,W=[some (.ref p),some (.int (0+(i:Int))),some (.int c),some (.int (Y+X*2 ^ Int.toNat 40+R*2 ^ Int.toNat 64)),some (.ref x),some f,some (.int (0+(j:Int))),some (.bl eb),some (.ref rc),z9]
     refine .inl ⟨⟨_,SqL.of hw⟩,gL (K:=K) (a:=lw) (xs:=[.int 1,.int 2,.int 3]) Pw3 ⟨Same.refl _,N,rfl⟩ (λk W b _ h=>SqL.of (h.1 _ _ hw)) ?_ ?_⟩
     .rintro k y W b hy ⟨ab,z9,rfl⟩
      obtain⟨wy,w1,w3,rfl⟩:∃ wy:Nat,1<=wy/\wy<=3/\y=.int (wy:Nat):=by
       match k,hy with
       | 0,hy=>cases hy;exact⟨1,by decide,by decide,rfl⟩
       | 1,hy=>cases hy;exact⟨2,by decide,by decide,rfl⟩
       | 2,hy=>cases hy;exact⟨3,by decide,by decide,rfl⟩
      have ap:=c4.trans ab;exact⟨f,C,wy,.ref rc,rfl,hf,ho,c7.n (aZ ap.t),.inr ⟨w1,w3,rc,rfl,en.same ap⟩,λb s'=>⟨ab.trans s',some (.int (wy:Nat)),rfl⟩⟩
     .rintro W b ⟨ab,z9,rfl⟩
      exact G b z9 (c4.trans ab).t (de.same ab)
   .rintro W b ⟨t',a3,_,y6,y7,y8,N,rfl⟩
    exact⟨t3.trans (a4.trans (cg.trans t')),a3,by lia,_,_,_,_,_,_,_,_,_,rfl⟩
  .rintro W b ⟨t1,dl,_,_⟩
   exact q _
end
end My
namespace My
open PySem L2
abbrev fnS(n q:Str)(st:Stmt):=fnOf n q (jP st) (eX st) (am st) .none
abbrev fnT(n:Str)(st:Stmt):=fnS n n st
theorem w1{b:Type}{p:List b->Prop}(h:∀ a,p [a]):∀ us:List b,us.length=1->p us
 | [a],_=>h a
theorem w2{c:Type}{p:List c->Prop}(h:∀ a b,p [a,b]):∀ us:List c,us.length=2->p us
 | [a,b],_=>h a b
theorem w3{d:Type}{p:List d->Prop}(h:∀ a b c,p [a,b,c]):∀ us:List d,us.length=3->p us
 | [a,b,c],_=>h a b c
theorem w4{e:Type}{p:List e->Prop}(h:∀ a b c d,p [a,b,c,d]):∀ us:List e,us.length=4->p us
 | [a,b,c,d],_=>h a b c d
theorem us0{a:Type}:∀{us:List a},us.length=0->us=[]
 | [],_=>rfl
theorem txt_mk{K:Frag}{h:Heap}{mg:Str->Option Value}{f0 f1 f2 f3 f4 f5 f6 f7 f8 f9 fy fz fA fB fC fD fE fG fH fI fL fN fO fP fQ fR fS fT fV fW fX fY ga gb gc gd ge gf gg gh gi gj gk gl gm gn go gp gq gr gs aj ao ap au ar bm av al aw an ay bo ai ah bZ ab b2 am ac b3 ad b4 ae b5 af b6 aa b7 ag b8 aB aC aD aE aF aG b9 ca cb cd cg ch ci cj ck cl cm cn co cp cr cs ct az cw cx bq aH br aI bs aJ bt aK bu aL bv aM bw aN bx aO bz aP bC aQ bD aR bE aS bF aT bH aU bN aV:Addr}{y1 rK y2 rL y3 rM y4 rN y5 rO y6 rP y7 rQ y8 rR y9 rS za rT uy jg uz jh uA ji uB jj uC jk uD jl uE jm uF jn uG jo uH jp uI jq uJ jr uK js uL jt uM ju uN jv uO jw uP jx uQ jy uR jz uS jA uT jB uU jC uV jD uW jE uX jF uY jG uZ jH u2 jI u3 jJ u4 jK u5 jL u6 jM u7 jN u8 jO u9 jP va jQ vb jR vc jS vd jT ve jU pO gt pP gu pQ gw pR gx vf jV vg jW pS gy pT gz vh jX pU gA vi jY pV gB vj jZ pW gC vk j0 vl j1 pX gD pY gE pZ gF vm j2 vn j3 p0 gG p1 gH p2 gI p3 gJ vo j4 vp j6 p4 gK vq j7 p5 gL p6 gN vr j8 vs j9 p7 gP p8 gQ vt ka p9 gT kb kc kd ke kf qa kg kh kj kk kl km kn ko kp:Option Addr}{zb zc zd ze zf zg zh zi zj zk vu vv vw vx vy vz vA vB vC vD vE vF vH vI vJ vK vL vM vN vO vP vQ vR vS vT vU vV vW vX vY vZ v0 v1 v2 v3 v4 v5 v6 v7 v8 v9 qb qc qd qe wa wb qf qg wc qh wd qi we qj wf wg qk ql qm wh wi qn qo qp qq wj wk qr wl qs qt wm wn qu qv wo qw kq kr ks kt ku qx kv kw kx ky kz kB kC kD kE:Array (Option Value)}{zl rU rV rW kF rX zm rY rZ r2 kG r3 zn r4 r5 r6 kH r7 zo r8 r9 sa kI sb zp sc sd se kJ sf zq sg sh si kK sj zr sk sl sm kL sn zs so sp sq kM sr zt ss st su kN sv zu sw sx sy gU sz wp kO kP kQ cz kR wq kS kT kU ei kV wr kW kX kY ej kZ ws la lb lc ek ld wt le lf lg el lh wu li lj lk en ll wv lm ln lo eo lp ww lq lr ls ep lt wx lu lv lw eq lx wy ly lz lA cB lB wz lC lD lE er lF wA lG lH lI cC lJ wB lK lL lM es lN wC lO lP lQ cE lR wD lS lT lU et lV wE lW lX lY eu lZ wF ma mb mc cF md wG me mf mh ev mi wH mj mk ml cI mm wI mn mo mp ew mq wJ mr ms mt ex mu wK mv mw mx ey my wL mz mA mB ez mC wM mD mE mF cJ mG wN mH mI mJ cK mK wO mL mM mN eA mO wP mP mQ mR cL mS wQ mT mU mV eB mW wR mX mY mZ eC m0 wS m1 m2 m3 eD m4 wT m5 m6 m7 eE m8 wU m9 na nb eF nc wV nd ne nf eG ng wW nh ni nj eH nk wX nl nm nn eI no wY np nq nr eK ns wZ nt nu nv eL nw w0 nx ny nz eM nA w5 nB nC nD eO nE w6 nF nH nI eP nJ w7 nK nL nM eQ nN u0 u1 qy gV gX gY cO gZ qz g0 g1 g2 cQ g3 qA g4 g5 g6 cR g7 qB g8 g9 ha cS hb w8 nO nP nQ eS nR w9 nS nT nU eT nV qC hc hd he cT hf qD hg hh hi cU hj xa nW nX nY eV nZ qF hk hl hm cV hn xb n0 n1 n2 eW n3 qG ho hp hq cW hr xc n4 n5 n6 eX n7 qH hs ht hu cX hv xd n8 n9 oa eY ob xe oc od oe eZ og qI hw hx hy da hz qJ hA hB hC db hD qK hE hF hG dc hH xf oh oi oj e0 ok xg ol om on e1 oo qL hI hJ hK be hL qM hM hN hO bf hP qN hQ hR hS bg hT qO hU hV hW bh hX xh op oq os e2 ot xi ou ov ow dd ox qP hY hZ h0 de h1 xj oy oz oA e3 oB qQ h2 h3 h4 dg h5 qR h6 h7 h8 dl h9 xk oC oD oE e4 oF xl oG oH oI e5 oJ qS ia ib ic dm id qT ie ig ih dp ii xm oK oL oM e6 oN qU ij ik il dr im qV qW qX qY qZ xn q0 q1 q2 q3 q4 q5 q6 q7 q8:Value}{dQ dR dS dT dU io dV dW dX dY d0 d1 d2 d3 ea:Array Value}(X:K.In h) (G:h.Ns mainGlobals mg)
  (a0:nsIn K mainGlobals "greatest_divisor" = some (some (.ref f0))) (l0:K.lookup f0=some ⟨zl,y1,.func (fnT "greatest_divisor" bi rU rV rW rK kF rX),zb⟩) (c0:codeIn K kF "greatest_divisor" = true) (k0:keepIn K (.ref f0)=true)
  (a1:nsIn K mainGlobals "least_multiple" = some (some (.ref f1))) (l1:K.lookup f1=some ⟨zm,y2,.func (fnT "least_multiple" bI rY rZ r2 rL kG r3),zc⟩) (c1:codeIn K kG "least_multiple" = true) (k1:keepIn K (.ref f1)=true)
  (a2:nsIn K mainGlobals "share" = some (some (.ref f2))) (l2:K.lookup f2=some ⟨zn,y3,.func (fnT "share" i5 r4 r5 r6 rM kH r7),zd⟩) (c2:codeIn K kH "share" = true) (k2:keepIn K (.ref f2)=true)
  (a3:nsIn K mainGlobals "plus" = some (some (.ref f3))) (l3:K.lookup f3=some ⟨zo,y4,.func (fnT "plus" ki r8 r9 sa rN kI sb),ze⟩) (c3:codeIn K kI "plus" = true) (k3:keepIn K (.ref f3)=true)
  (a4:nsIn K mainGlobals "minus" = some (some (.ref f4))) (l4:K.lookup f4=some ⟨zp,y5,.func (fnT "minus" iV sc sd se rO kJ sf),zf⟩) (c4:codeIn K kJ "minus" = true) (k4:keepIn K (.ref f4)=true)
  (a5:nsIn K mainGlobals "times" = some (some (.ref f5))) (l5:K.lookup f5=some ⟨zq,y6,.func (fnT "times" iS sg sh si rP kK sj),zg⟩) (c5:codeIn K kK "times" = true) (k5:keepIn K (.ref f5)=true)
  (a6:nsIn K mainGlobals "over" = some (some (.ref f6))) (l6:K.lookup f6=some ⟨zr,y7,.func (fnT "over" kA sk sl sm rQ kL sn),zh⟩) (c6:codeIn K kL "over" = true) (k6:keepIn K (.ref f6)=true)
  (a7:nsIn K mainGlobals "below" = some (some (.ref f7))) (l7:K.lookup f7=some ⟨zs,y8,.func (fnT "below" iY so sp sq rR kM sr),zi⟩) (c7:codeIn K kM "below" = true) (k7:keepIn K (.ref f7)=true)
  (a8:nsIn K mainGlobals "is_whole" = some (some (.ref f8))) (l8:K.lookup f8=some ⟨zt,y9,.func (fnT "is_whole" eU ss st su rS kN sv),zj⟩) (c8:codeIn K kN "is_whole" = true) (k8:keepIn K (.ref f8)=true)
  (a9:nsIn K mainGlobals "carried_make" = some (some (.ref f9))) (l9:K.lookup f9=some ⟨zu,za,.func (fnT "carried_make" bR sw sx sy rT gU sz),zk⟩) (c9:codeIn K gU "carried_make" = true) (k9:keepIn K (.ref f9)=true)
  (zv:nsIn K mainGlobals "behind" = some (some (.ref fy))) (sA:K.lookup fy=some ⟨wp,uy,.func (fnT "behind" fZ kO kP kQ jg cz kR),vu⟩) (sB:codeIn K cz "behind" = true) (sC:keepIn K (.ref fy)=true)
  (zw:nsIn K mainGlobals "groups_of" = some (some (.ref fz))) (sD:K.lookup fz=some ⟨wq,uz,.func (fnT "groups_of" ee kS kT kU jh ei kV),vv⟩) (sE:codeIn K ei "groups_of" = true) (sF:keepIn K (.ref fz)=true)
  (zx:nsIn K mainGlobals "wished" = some (some (.ref fA))) (sG:K.lookup fA=some ⟨wr,uA,.func (fnT "wished" gR kW kX kY ji ej kZ),vw⟩) (sH:codeIn K ej "wished" = true) (sI:keepIn K (.ref fA)=true)
  (zy:nsIn K mainGlobals "wished_of_some" = some (some (.ref fB))) (sJ:K.lookup fB=some ⟨ws,uB,.func (fnT "wished_of_some" bG la lb lc jj ek ld),vx⟩) (sK:codeIn K ek "wished_of_some" = true) (sL:keepIn K (.ref fB)=true)
  (zz:nsIn K mainGlobals "wished_by" = some (some (.ref fC))) (sM:K.lookup fC=some ⟨wt,uC,.func (fnT "wished_by" d9 le lf lg jk el lh),vy⟩) (sN:codeIn K el "wished_by" = true) (sO:keepIn K (.ref fC)=true)
  (zA:nsIn K mainGlobals "places_of" = some (some (.ref fD))) (sP:K.lookup fD=some ⟨wu,uD,.func (fnT "places_of" d6 li lj lk jl en ll),vz⟩) (sQ:codeIn K en "places_of" = true) (sR:keepIn K (.ref fD)=true)
  (zB:nsIn K mainGlobals "matrix_by" = some (some (.ref fE))) (sS:K.lookup fE=some ⟨wv,uE,.func (fnT "matrix_by" d7 lm ln lo jm eo lp),vA⟩) (sT:codeIn K eo "matrix_by" = true) (sU:keepIn K (.ref fE)=true)
  (zC:nsIn K mainGlobals "matrix_row" = some (some (.ref fG))) (sV:K.lookup fG=some ⟨ww,uF,.func (fnT "matrix_row" dD lq lr ls jn ep lt),vB⟩) (sW:codeIn K ep "matrix_row" = true) (sX:keepIn K (.ref fG)=true)
  (zD:nsIn K mainGlobals "need_number" = some (some (.ref fH))) (sY:K.lookup fH=some ⟨wx,uG,.func (fnT "need_number" dj lu lv lw jo eq lx),vC⟩) (sZ:codeIn K eq "need_number" = true) (s0:keepIn K (.ref fH)=true)
  (zE:nsIn K mainGlobals "few_node" = some (some (.ref fI))) (s1:K.lookup fI=some ⟨wy,uH,.func (fnT "few_node" dC ly lz lA jp cB lB),vD⟩) (s2:codeIn K cB "few_node" = true) (s3:keepIn K (.ref fI)=true)
  (zF:nsIn K mainGlobals "few_chance" = some (some (.ref fL))) (s4:K.lookup fL=some ⟨wz,uI,.func (fnT "few_chance" dH lC lD lE jq er lF),vE⟩) (s5:codeIn K er "few_chance" = true) (s6:keepIn K (.ref fL)=true)
  (zG:nsIn K mainGlobals "start_make" = some (some (.ref fN))) (s7:K.lookup fN=some ⟨wA,uJ,.func (fnT "start_make" cP lG lH lI jr cC lJ),vF⟩) (s8:codeIn K cC "start_make" = true) (s9:keepIn K (.ref fN)=true)
  (zH:nsIn K mainGlobals "is_unsure" = some (some (.ref fO))) (ta:K.lookup fO=some ⟨wB,uK,.func (fnT "is_unsure" d4 lK lL lM js es lN),vH⟩) (tb:codeIn K es "is_unsure" = true) (tc:keepIn K (.ref fO)=true)
  (zI:nsIn K mainGlobals "loose_node" = some (some (.ref fP))) (td:K.lookup fP=some ⟨wC,uL,.func (fnT "loose_node" bY lO lP lQ jt cE lR),vI⟩) (te:codeIn K cE "loose_node" = true) (tf:keepIn K (.ref fP)=true)
  (zJ:nsIn K mainGlobals "parted" = some (some (.ref fQ))) (tg:K.lookup fQ=some ⟨wD,uM,.func (fnT "parted" gS lS lT lU ju et lV),vJ⟩) (th:codeIn K et "parted" = true) (ti:keepIn K (.ref fQ)=true)
  (zK:nsIn K mainGlobals "crowd_of_groups" = some (some (.ref fR))) (tj:K.lookup fR=some ⟨wE,uN,.func (fnT "crowd_of_groups" bA lW lX lY jv eu lZ),vK⟩) (tk:codeIn K eu "crowd_of_groups" = true) (tl:keepIn K (.ref fR)=true)
  (zL:nsIn K mainGlobals "groups_node" = some (some (.ref fS))) (tm:K.lookup fS=some ⟨wF,uO,.func (fnT "groups_node" cf ma mb mc jw cF md),vL⟩) (tn:codeIn K cF "groups_node" = true) (tp:keepIn K (.ref fS)=true)
  (zM:nsIn K mainGlobals "spots_of" = some (some (.ref fT))) (tq:K.lookup fT=some ⟨wG,uP,.func (fnT "spots_of" eN me mf mh jx ev mi),vM⟩) (tr:codeIn K ev "spots_of" = true) (ts:keepIn K (.ref fT)=true)
  (zN:nsIn K mainGlobals "groups_matrix" = some (some (.ref fV))) (tt:K.lookup fV=some ⟨wH,uQ,.func (fnT "groups_matrix" bB mj mk ml jy cI mm),vN⟩) (tu:codeIn K cI "groups_matrix" = true) (tv:keepIn K (.ref fV)=true)
  (zO:nsIn K mainGlobals "spots_chance" = some (some (.ref fW))) (tw:K.lookup fW=some ⟨wI,uR,.func (fnT "spots_chance" cy mn mo mp jz ew mq),vO⟩) (tx:codeIn K ew "spots_chance" = true) (ty:keepIn K (.ref fW)=true)
  (zP:nsIn K mainGlobals "need_group_names" = some (some (.ref fX))) (tz:K.lookup fX=some ⟨wJ,uS,.func (fnT "need_group_names" bj mr ms mt jA ex mu),vP⟩) (tA:codeIn K ex "need_group_names" = true) (tB:keepIn K (.ref fX)=true)
  (zQ:nsIn K mainGlobals "settled" = some (some (.ref fY))) (tC:K.lookup fY=some ⟨wK,uT,.func (fnT "settled" fJ mv mw mx jB ey my),vQ⟩) (tD:codeIn K ey "settled" = true) (tE:keepIn K (.ref fY)=true)
  (zR:nsIn K mainGlobals "open_node" = some (some (.ref ga))) (tF:K.lookup ga=some ⟨wL,uU,.func (fnT "open_node" d5 mz mA mB jC ez mC),vR⟩) (tH:codeIn K ez "open_node" = true) (tI:keepIn K (.ref ga)=true)
  (zS:nsIn K mainGlobals "settled_make" = some (some (.ref gb))) (tJ:K.lookup gb=some ⟨wM,uV,.func (fnT "settled_make" bM mD mE mF jD cJ mG),vS⟩) (tK:codeIn K cJ "settled_make" = true) (tL:keepIn K (.ref gb)=true)
  (zT:nsIn K mainGlobals "last_die" = some (some (.ref gc))) (tM:K.lookup gc=some ⟨wN,uW,.func (fnT "last_die" dA mH mI mJ jE cK mK),vT⟩) (tN:codeIn K cK "last_die" = true) (tO:keepIn K (.ref gc)=true)
  (zU:nsIn K mainGlobals "duel_parts" = some (some (.ref gd))) (tP:K.lookup gd=some ⟨wO,uX,.func (fnT "duel_parts" dJ mL mM mN jF eA mO),vU⟩) (tQ:codeIn K eA "duel_parts" = true) (tR:keepIn K (.ref gd)=true)
  (zV:nsIn K mainGlobals "duel_matrix" = some (some (.ref ge))) (tS:K.lookup ge=some ⟨wP,uY,.func (fnT "duel_matrix" cc mP mQ mR jG cL mS),vV⟩) (tT:codeIn K cL "duel_matrix" = true) (tU:keepIn K (.ref ge)=true)
  (zW:nsIn K mainGlobals "pair_chance" = some (some (.ref gf))) (tV:K.lookup gf=some ⟨wQ,uZ,.func (fnT "pair_chance" dq mT mU mV jH eB mW),vW⟩) (tW:codeIn K eB "pair_chance" = true) (tX:keepIn K (.ref gf)=true)
  (zX:nsIn K mainGlobals "kept_together" = some (some (.ref gg))) (tY:K.lookup gg=some ⟨wR,u2,.func (fnT "kept_together" bV mX mY mZ jI eC m0),vX⟩) (tZ:codeIn K eC "kept_together" = true) (t0:keepIn K (.ref gg)=true)
  (zY:nsIn K mainGlobals "both_kept" = some (some (.ref gh))) (t1:K.lookup gh=some ⟨wS,u3,.func (fnT "both_kept" d8 m1 m2 m3 jJ eD m4),vY⟩) (t2:codeIn K eD "both_kept" = true) (t3:keepIn K (.ref gh)=true)
  (zZ:nsIn K mainGlobals "held_behind" = some (some (.ref gi))) (t4:K.lookup gi=some ⟨wT,u4,.func (fnT "held_behind" df m5 m6 m7 jK eE m8),vZ⟩) (t5:codeIn K eE "held_behind" = true) (t6:keepIn K (.ref gi)=true)
  (Aa:nsIn K mainGlobals "behind_duel" = some (some (.ref gj))) (t7:K.lookup gj=some ⟨wU,u5,.func (fnT "behind_duel" cZ m9 na nb jL eF nc),v0⟩) (t8:codeIn K eF "behind_duel" = true) (t9:keepIn K (.ref gj)=true)
  (Ab:nsIn K mainGlobals "_law_cell" = some (some (.ref gk))) (ua:K.lookup gk=some ⟨wV,u6,.func (fnT "_law_cell" gO nd ne nf jM eG ng),v1⟩) (ub:codeIn K eG "_law_cell" = true) (uc:keepIn K (.ref gk)=true)
  (Ac:nsIn K mainGlobals "_law_mixed" = some (some (.ref gl))) (ud:K.lookup gl=some ⟨wW,u7,.func (fnT "_law_mixed" fM nh ni nj jN eH nk),v2⟩) (ue:codeIn K eH "_law_mixed" = true) (uf:keepIn K (.ref gl)=true)
  (Ae:nsIn K mainGlobals "_law_tree" = some (some (.ref gm))) (ug:K.lookup gm=some ⟨wX,u8,.func (fnT "_law_tree" gM nl nm nn jO eI no),v3⟩) (uh:codeIn K eI "_law_tree" = true) (ui:keepIn K (.ref gm)=true)
  (Af:nsIn K mainGlobals "_law_plan" = some (some (.ref gn))) (uj:K.lookup gn=some ⟨wY,u9,.func (fnT "_law_plan" gW np nq nr jP eK ns),v4⟩) (uk:codeIn K eK "_law_plan" = true) (ul:keepIn K (.ref gn)=true)
  (Ag:nsIn K mainGlobals "_law_needs" = some (some (.ref go))) (um:K.lookup go=some ⟨wZ,va,.func (fnT "_law_needs" fF nt nu nv jQ eL nw),v5⟩) (un:codeIn K eL "_law_needs" = true) (uo:keepIn K (.ref go)=true)
  (Ah:nsIn K mainGlobals "_law_no_level" = some (some (.ref gp))) (up:K.lookup gp=some ⟨w0,vb,.func (fnT "_law_no_level" dG nx ny nz jR eM nA),v6⟩) (uq:codeIn K eM "_law_no_level" = true) (ur:keepIn K (.ref gp)=true)
  (Ai:nsIn K mainGlobals "_law_crowd" = some (some (.ref gq))) (us:K.lookup gq=some ⟨w5,vc,.func (fnT "_law_crowd" fK nB nC nD jS eO nE),v7⟩) (ut:codeIn K eO "_law_crowd" = true) (uu:keepIn K (.ref gq)=true)
  (Aj:nsIn K mainGlobals "_law_answers" = some (some (.ref gr))) (uv:K.lookup gr=some ⟨w6,vd,.func (fnT "_law_answers" eh nF nH nI jT eP nJ),v8⟩) (uw:codeIn K eP "_law_answers" = true) (ux:keepIn K (.ref gr)=true)
  (Ak:nsIn K mainGlobals "law" = some (some (.ref gs))) (Al:K.lookup gs=some ⟨w7,ve,.func (fnT "law" qE nK nL nM jU eQ nN),v9⟩) (Am:codeIn K eQ "law" = true) (An:keepIn K (.ref gs)=true)
  (e7:nsIn K mainGlobals "NOUGHT" = some (some (.ref aj))) (eb:j5 K aj [(.int 0),(.int 1)]=true)
  (je:nsIn K mainGlobals "WHOLE" = some (some (.ref ao))) (e8:j5 K ao [(.int 1),(.int 1)]=true)
  (jf:nsIn K mainGlobals "TWICE" = some (some (.ref ap))) (e9:j5 K ap [(.int 2),(.int 1)]=true)
  (b0:nsIn K mainGlobals "MOST_MANY" = some (some u0))
  (b1:nsIn K mainGlobals "MOST_STEP" = some (some u1))
  (q9:nsIn K mainGlobals "SpeakError" = some (some (.ref au))) (AV:keepIn K (.ref au)=true) (ra:nG K au=true)
  (AW:xIn K au none=true)
  (xo:nsIn K mainGlobals "NoListing" = some (some (.ref ar))) (Bs:keepIn K (.ref ar)=true) (Bt:nG K ar=true)
  (Bu:findIn K (.ref ar) "__init__" = some (some (.ref bm))) (Bv:xIn K ar (some (.ref bm))=true) (Bw:isFn K (.ref bm)=true)
  (Bx:K.lookup bm=some ⟨qy,pO,.func (fnS "__init__" "NoListing.__init__" fi gV gX gY gt cO gZ),qb⟩) (By:codeIn K cO "NoListing.__init__" = true) (Bz:keepIn K (.ref bm)=true)
  (ed:tG K ar "line" = true)
  (ef:tG K ar "word" = true)
  (rb:nsIn K mainGlobals "NoUnits" = some (some (.ref av))) (AX:keepIn K (.ref av)=true) (AY:nG K av=true)
  (AZ:xIn K av none=true)
  (rc:nsIn K mainGlobals "NoPlan" = some (some (.ref al))) (A0:keepIn K (.ref al)=true) (A1:nG K al=true)
  (A2:findIn K (.ref al) "__init__" = some (some (.ref aw))) (A3:xIn K al (some (.ref aw))=true) (A4:isFn K (.ref aw)=true)
  (A5:K.lookup aw=some ⟨qz,pP,.func (fnS "__init__" "NoPlan.__init__" gv g0 g1 g2 gu cQ g3),qc⟩) (A6:codeIn K cQ "NoPlan.__init__" = true) (A7:keepIn K (.ref aw)=true)
  (ip:tG K al "place" = true)
  (oO:nsIn K mainGlobals "NoLevel" = some (some (.ref an))) (xp:keepIn K (.ref an)=true) (oP:nG K an=true)
  (xq:xIn K an none=true)
  (xr:nsIn K mainGlobals "NoThrow" = some (some (.ref ay))) (BA:keepIn K (.ref ay)=true) (BB:nG K ay=true)
  (BC:findIn K (.ref ay) "__init__" = some (some (.ref bo))) (BD:xIn K ay (some (.ref bo))=true) (BE:isFn K (.ref bo)=true)
  (BF:K.lookup bo=some ⟨qA,pQ,.func (fnS "__init__" "NoThrow.__init__" fU g4 g5 g6 gw cR g7),qd⟩) (BG:codeIn K cR "NoThrow.__init__" = true) (BH:keepIn K (.ref bo)=true)
  (fa:tG K ay "place" = true)
  (rd:nsIn K mainGlobals "Node" = some (some (.ref ai))) (A9:plainGet K ai Str.empty=true) (Ba:hasDictIn K ai=true) (Bb:plainOver K ai=true)
  (Bc:findIn K (.ref ai) "__setattr__" = some (some (.builtin "object.__setattr__"))) (Bd:findIn K (.ref ai) "__class__" = some (some (.builtin "object.__class__"))) (Be:specialIn K (.builtin "object.__class__") "__get__" = some (some (.builtin "getset_descriptor.__get__"))) (Bf:takesIn K (.builtin "object.__class__")=some true) (Bg:mroIn K ai (.type "object")=some true)
  (xs:nsIn K mainGlobals "Told" = some (some (.ref ah))) (oQ:plainGet K ah Str.empty=true) (oR:hasDictIn K ah=true) (oS:plainOver K ah=true)
  (oT:findIn K (.ref ah) "__setattr__" = some (some (.builtin "object.__setattr__"))) (xt:findIn K (.ref ah) "__class__" = some (some (.builtin "object.__class__"))) (xu:specialIn K (.builtin "object.__class__") "__get__" = some (some (.builtin "getset_descriptor.__get__"))) (xv:takesIn K (.builtin "object.__class__")=some true) (xw:mroIn K ah (.type "object")=some true)
  (xx:makesIn K ah=true) (xy:findIn K (.ref ah) "__init__" = some (some (.ref bZ))) (xz:isFn K (.ref bZ)=true) (xA:keepIn K (.ref ah)=true)
  (aW:findIn K (.ref ah) "rising" = some none)
  (fb:K.lookup bZ=some ⟨qB,pR,.func (fnS "__init__" "Told.__init__" bU g8 g9 ha gx cS hb),qe⟩) (oU:codeIn K cS "Told.__init__" = true) (oV:keepIn K (.ref bZ)=true)
  (xB:nsIn K mainGlobals "Die" = some (some (.ref ab))) (oW:plainGet K ab Str.empty=true) (oX:hasDictIn K ab=true) (oY:plainOver K ab=true)
  (oZ:findIn K (.ref ab) "__setattr__" = some (some (.builtin "object.__setattr__"))) (xC:findIn K (.ref ab) "__class__" = some (some (.builtin "object.__class__"))) (xD:specialIn K (.builtin "object.__class__") "__get__" = some (some (.builtin "getset_descriptor.__get__"))) (xE:takesIn K (.builtin "object.__class__")=some true) (xF:mroIn K ab (.type "object")=some true)
  (xG:makesIn K ab=true) (xH:findIn K (.ref ab) "__init__" = some (some (.ref b2))) (xI:isFn K (.ref b2)=true) (xJ:keepIn K (.ref ab)=true)
  (bO:findIn K (.ref ab) "makes" = some none)
  (fc:K.lookup b2=some ⟨w8,vf,.func (fnS "__init__" "Die.__init__" cv nO nP nQ jV eS nR),wa⟩) (o0:codeIn K eS "Die.__init__" = true) (o1:keepIn K (.ref b2)=true)
  (Bh:nsIn K mainGlobals "Plan" = some (some (.ref am))) (Bi:plainGet K am Str.empty=true) (Bj:hasDictIn K am=true) (Bk:plainOver K am=true)
  (Bl:findIn K (.ref am) "__setattr__" = some (some (.builtin "object.__setattr__"))) (Bm:findIn K (.ref am) "__class__" = some (some (.builtin "object.__class__"))) (Bn:specialIn K (.builtin "object.__class__") "__get__" = some (some (.builtin "getset_descriptor.__get__"))) (Bo:takesIn K (.builtin "object.__class__")=some true) (Bp:mroIn K am (.type "object")=some true)
  (xK:nsIn K mainGlobals "Few" = some (some (.ref ac))) (xL:plainGet K ac Str.empty=true) (xM:hasDictIn K ac=true) (xN:plainOver K ac=true)
  (xO:findIn K (.ref ac) "__setattr__" = some (some (.builtin "object.__setattr__"))) (BI:findIn K (.ref ac) "__class__" = some (some (.builtin "object.__class__"))) (BJ:specialIn K (.builtin "object.__class__") "__get__" = some (some (.builtin "getset_descriptor.__get__"))) (BK:takesIn K (.builtin "object.__class__")=some true) (BL:mroIn K ac (.type "object")=some true)
  (xP:makesIn K ac=true) (xQ:findIn K (.ref ac) "__init__" = some (some (.ref b3))) (xR:isFn K (.ref b3)=true) (xS:keepIn K (.ref ac)=true)
  (bX:findIn K (.ref ac) "many" = some none)
  (fd:K.lookup b3=some ⟨w9,vg,.func (fnS "__init__" "Few.__init__" cu nS nT nU jW eT nV),wb⟩) (o2:codeIn K eT "Few.__init__" = true) (o3:keepIn K (.ref b3)=true)
  (xT:nsIn K mainGlobals "Start" = some (some (.ref ad))) (xU:plainGet K ad Str.empty=true) (xV:hasDictIn K ad=true) (xW:plainOver K ad=true)
  (xX:findIn K (.ref ad) "__setattr__" = some (some (.builtin "object.__setattr__"))) (BM:findIn K (.ref ad) "__class__" = some (some (.builtin "object.__class__"))) (BN:specialIn K (.builtin "object.__class__") "__get__" = some (some (.builtin "getset_descriptor.__get__"))) (BO:takesIn K (.builtin "object.__class__")=some true) (BP:mroIn K ad (.type "object")=some true)
  (xY:makesIn K ad=true) (xZ:findIn K (.ref ad) "__init__" = some (some (.ref b4))) (x0:isFn K (.ref b4)=true) (x1:keepIn K (.ref ad)=true)
  (aY:findIn K (.ref ad) "step" = some none)
  (fe:K.lookup b4=some ⟨qC,pS,.func (fnS "__init__" "Start.__init__" bL hc hd he gy cT hf),qf⟩) (o4:codeIn K cT "Start.__init__" = true) (o5:keepIn K (.ref b4)=true)
  (x2:nsIn K mainGlobals "Loose" = some (some (.ref ae))) (x3:plainGet K ae Str.empty=true) (x4:hasDictIn K ae=true) (x5:plainOver K ae=true)
  (x6:findIn K (.ref ae) "__setattr__" = some (some (.builtin "object.__setattr__"))) (BQ:findIn K (.ref ae) "__class__" = some (some (.builtin "object.__class__"))) (BR:specialIn K (.builtin "object.__class__") "__get__" = some (some (.builtin "getset_descriptor.__get__"))) (BS:takesIn K (.builtin "object.__class__")=some true) (BT:mroIn K ae (.type "object")=some true)
  (x7:makesIn K ae=true) (x8:findIn K (.ref ae) "__init__" = some (some (.ref b5))) (x9:isFn K (.ref b5)=true) (ya:keepIn K (.ref ae)=true)
  (aZ:findIn K (.ref ae) "many" = some none)
  (ff:K.lookup b5=some ⟨qD,pT,.func (fnS "__init__" "Loose.__init__" bJ hg hh hi gz cU hj),qg⟩) (o6:codeIn K cU "Loose.__init__" = true) (o7:keepIn K (.ref b5)=true)
  (yb:nsIn K mainGlobals "Each" = some (some (.ref af))) (yc:plainGet K af Str.empty=true) (yd:hasDictIn K af=true) (ye:plainOver K af=true)
  (yf:findIn K (.ref af) "__setattr__" = some (some (.builtin "object.__setattr__"))) (BU:findIn K (.ref af) "__class__" = some (some (.builtin "object.__class__"))) (BV:specialIn K (.builtin "object.__class__") "__get__" = some (some (.builtin "getset_descriptor.__get__"))) (BW:takesIn K (.builtin "object.__class__")=some true) (BX:mroIn K af (.type "object")=some true)
  (yg:makesIn K af=true) (yh:findIn K (.ref af) "__init__" = some (some (.ref b6))) (yi:isFn K (.ref b6)=true) (yj:keepIn K (.ref af)=true)
  (aX:findIn K (.ref af) "inside" = some none)
  (fg:K.lookup b6=some ⟨xa,vh,.func (fnS "__init__" "Each.__init__" bT nW nX nY jX eV nZ),wc⟩) (o8:codeIn K eV "Each.__init__" = true) (o9:keepIn K (.ref b6)=true)
  (yk:nsIn K mainGlobals "First" = some (some (.ref aa))) (yl:plainGet K aa Str.empty=true) (ym:hasDictIn K aa=true) (yn:plainOver K aa=true)
  (yo:findIn K (.ref aa) "__setattr__" = some (some (.builtin "object.__setattr__"))) (BY:findIn K (.ref aa) "__class__" = some (some (.builtin "object.__class__"))) (BZ:specialIn K (.builtin "object.__class__") "__get__" = some (some (.builtin "getset_descriptor.__get__"))) (B0:takesIn K (.builtin "object.__class__")=some true) (B1:mroIn K aa (.type "object")=some true)
  (yp:makesIn K aa=true) (yq:findIn K (.ref aa) "__init__" = some (some (.ref b7))) (yr:isFn K (.ref b7)=true) (ys:keepIn K (.ref aa)=true)
  (ax:findIn K (.ref aa) "outside" = some none)
  (aA:findIn K (.ref aa) "inside" = some none)
  (fh:K.lookup b7=some ⟨qF,pU,.func (fnS "__init__" "First.__init__" bK hk hl hm gA cV hn),qh⟩) (pa:codeIn K cV "First.__init__" = true) (pb:keepIn K (.ref b7)=true)
  (yt:nsIn K mainGlobals "Duel" = some (some (.ref ag))) (yu:plainGet K ag Str.empty=true) (yv:hasDictIn K ag=true) (yw:plainOver K ag=true)
  (yx:findIn K (.ref ag) "__setattr__" = some (some (.builtin "object.__setattr__"))) (B2:findIn K (.ref ag) "__class__" = some (some (.builtin "object.__class__"))) (B3:specialIn K (.builtin "object.__class__") "__get__" = some (some (.builtin "getset_descriptor.__get__"))) (B4:takesIn K (.builtin "object.__class__")=some true) (B5:mroIn K ag (.type "object")=some true)
  (yy:makesIn K ag=true) (yz:findIn K (.ref ag) "__init__" = some (some (.ref b8))) (yA:isFn K (.ref b8)=true) (yC:keepIn K (.ref ag)=true)
  (bS:findIn K (.ref ag) "many" = some none)
  (fj:K.lookup b8=some ⟨xb,vi,.func (fnS "__init__" "Duel.__init__" bW n0 n1 n2 jY eW n3),wd⟩) (pc:codeIn K eW "Duel.__init__" = true) (pd:keepIn K (.ref b8)=true)
  (re:findIn K (.ref ah) "is_told" = some (some (.ref aB)))
  (iq:K.lookup aB=some ⟨qG,pV,.func (fnS "is_told" "Told.is_told" cD ho hp hq gB cW hr),qi⟩) (ir:codeIn K cW "Told.is_told" = true) (ds:keepIn K (.ref aB)=true) (rf:isFn K (.ref aB)=true)
  (yD:findIn K (.ref ab) "is_told" = some (some (.ref aC)))
  (pe:K.lookup aC=some ⟨xc,vj,.func (fnS "is_told" "Die.is_told" dh n4 n5 n6 jZ eX n7),we⟩) (pf:codeIn K eX "Die.is_told" = true) (fk:keepIn K (.ref aC)=true) (yE:isFn K (.ref aC)=true)
  (rg:findIn K (.ref ah) "kept" = some (some (.ref aD)))
  (it:K.lookup aD=some ⟨qH,pW,.func (fnS "kept" "Told.kept" eg hs ht hu gC cX hv),qj⟩) (iu:codeIn K cX "Told.kept" = true) (dt:keepIn K (.ref aD)=true) (rh:isFn K (.ref aD)=true)
  (yF:findIn K (.ref ab) "kept" = some (some (.ref aE)))
  (pg:K.lookup aE=some ⟨xd,vk,.func (fnS "kept" "Die.kept" eJ n8 n9 oa j0 eY ob),wf⟩) (ph:codeIn K eY "Die.kept" = true) (fl:keepIn K (.ref aE)=true) (yG:isFn K (.ref aE)=true)
  (yH:findIn K (.ref ab) "carried" = some (some (.ref aF)))
  (pi:K.lookup aF=some ⟨xe,vl,.func (fnS "carried" "Die.carried" di oc od oe j1 eZ og),wg⟩) (pj:codeIn K eZ "Die.carried" = true) (fm:keepIn K (.ref aF)=true) (yI:isFn K (.ref aF)=true)
  (ri:findIn K (.ref ac) "node" = some (some (.ref aG)))
  (iv:K.lookup aG=some ⟨qI,pX,.func (fnS "node" "Few.node" eR hw hx hy gD da hz),qk⟩) (iw:codeIn K da "Few.node" = true) (du:keepIn K (.ref aG)=true) (rj:isFn K (.ref aG)=true)
  (rk:findIn K (.ref ad) "node" = some (some (.ref b9)))
  (ix:K.lookup b9=some ⟨qJ,pY,.func (fnS "node" "Start.node" dF hA hB hC gE db hD),ql⟩) (iy:codeIn K db "Start.node" = true) (dv:keepIn K (.ref b9)=true) (rl:isFn K (.ref b9)=true)
  (rm:findIn K (.ref ae) "node" = some (some (.ref ca)))
  (iz:K.lookup ca=some ⟨qK,pZ,.func (fnS "node" "Loose.node" dM hE hF hG gF dc hH),qm⟩) (iA:codeIn K dc "Loose.node" = true) (dw:keepIn K (.ref ca)=true) (rn:isFn K (.ref ca)=true)
  (yJ:findIn K (.ref ag) "node" = some (some (.ref cb)))
  (pk:K.lookup cb=some ⟨xf,vm,.func (fnS "node" "Duel.node" dZ oh oi oj j2 e0 ok),wh⟩) (pl:codeIn K e0 "Duel.node" = true) (fn:keepIn K (.ref cb)=true) (yK:isFn K (.ref cb)=true)
  (yL:findIn K (.ref af) "node" = some (some (.ref cd)))
  (pm:K.lookup cd=some ⟨xg,vn,.func (fnS "node" "Each.node" em ol om on j3 e1 oo),wi⟩) (pn:codeIn K e1 "Each.node" = true) (fo:keepIn K (.ref cd)=true) (yM:isFn K (.ref cd)=true)
  (ro:findIn K (.ref aa) "node" = some (some (.ref cg)))
  (iB:K.lookup cg=some ⟨qL,p0,.func (fnS "node" "First.node" cM hI hJ hK gG be hL),qn⟩) (iC:codeIn K be "First.node" = true) (dy:keepIn K (.ref cg)=true) (rp:isFn K (.ref cg)=true)
  (rq:findIn K (.ref ac) "matrix" = some (some (.ref ch)))
  (iD:K.lookup ch=some ⟨qM,p1,.func (fnS "matrix" "Few.matrix" cN hM hN hO gH bf hP),qo⟩) (iE:codeIn K bf "Few.matrix" = true) (dz:keepIn K (.ref ch)=true) (rr:isFn K (.ref ch)=true)
  (rs:findIn K (.ref ad) "matrix" = some (some (.ref ci)))
  (iF:K.lookup ci=some ⟨qN,p2,.func (fnS "matrix" "Start.matrix" bQ hQ hR hS gI bg hT),qp⟩) (iG:codeIn K bg "Start.matrix" = true) (dB:keepIn K (.ref ci)=true) (rt:isFn K (.ref ci)=true)
  (ru:findIn K (.ref ae) "matrix" = some (some (.ref cj)))
  (iH:K.lookup cj=some ⟨qO,p3,.func (fnS "matrix" "Loose.matrix" bP hU hV hW gJ bh hX),qq⟩) (iI:codeIn K bh "Loose.matrix" = true) (dE:keepIn K (.ref cj)=true) (rv:isFn K (.ref cj)=true)
  (yN:findIn K (.ref ag) "matrix" = some (some (.ref ck)))
  (po:K.lookup ck=some ⟨xh,vo,.func (fnS "matrix" "Duel.matrix" cY op oq os j4 e2 ot),wj⟩) (pp:codeIn K e2 "Duel.matrix" = true) (fp:keepIn K (.ref ck)=true) (yO:isFn K (.ref ck)=true)
  (yP:findIn K (.ref af) "matrix" = some (some (.ref cl)))
  (pq:K.lookup cl=some ⟨xi,vp,.func (fnS "matrix" "Each.matrix" ce ou ov ow j6 dd ox),wk⟩) (pr:codeIn K dd "Each.matrix" = true) (fq:keepIn K (.ref cl)=true) (yQ:isFn K (.ref cl)=true)
  (rw:findIn K (.ref aa) "matrix" = some (some (.ref cm)))
  (iJ:K.lookup cm=some ⟨qP,p4,.func (fnS "matrix" "First.matrix" cA hY hZ h0 gK de h1),qr⟩) (iK:codeIn K de "First.matrix" = true) (dK:keepIn K (.ref cm)=true) (rx:isFn K (.ref cm)=true)
  (yR:findIn K (.ref ac) "bounds" = some (some (.ref cn)))
  (ps:K.lookup cn=some ⟨xj,vq,.func (fnS "bounds" "Few.bounds" dI oy oz oA j7 e3 oB),wl⟩) (pt:codeIn K e3 "Few.bounds" = true) (fr:keepIn K (.ref cn)=true) (yS:isFn K (.ref cn)=true)
  (ry:findIn K (.ref ad) "bounds" = some (some (.ref co)))
  (iL:K.lookup co=some ⟨qQ,p5,.func (fnS "bounds" "Start.bounds" cG h2 h3 h4 gL dg h5),qs⟩) (iM:codeIn K dg "Start.bounds" = true) (dL:keepIn K (.ref co)=true) (rz:isFn K (.ref co)=true)
  (rA:findIn K (.ref ae) "bounds" = some (some (.ref cp)))
  (iN:K.lookup cp=some ⟨qR,p6,.func (fnS "bounds" "Loose.bounds" cH h6 h7 h8 gN dl h9),qt⟩) (iO:codeIn K dl "Loose.bounds" = true) (dN:keepIn K (.ref cp)=true) (rB:isFn K (.ref cp)=true)
  (yT:findIn K (.ref ag) "bounds" = some (some (.ref cr)))
  (pu:K.lookup cr=some ⟨xk,vr,.func (fnS "bounds" "Duel.bounds" dk oC oD oE j8 e4 oF),wm⟩) (pv:codeIn K e4 "Duel.bounds" = true) (ft:keepIn K (.ref cr)=true) (yU:isFn K (.ref cr)=true)
  (yV:findIn K (.ref af) "bounds" = some (some (.ref cs)))
  (pw:K.lookup cs=some ⟨xl,vs,.func (fnS "bounds" "Each.bounds" dn oG oH oI j9 e5 oJ),wn⟩) (px:codeIn K e5 "Each.bounds" = true) (fu:keepIn K (.ref cs)=true) (yW:isFn K (.ref cs)=true)
  (rC:findIn K (.ref aa) "bounds" = some (some (.ref ct)))
  (iP:K.lookup ct=some ⟨qS,p7,.func (fnS "bounds" "First.bounds" cq ia ib ic gP dm id),qu⟩) (iQ:codeIn K dm "First.bounds" = true) (dO:keepIn K (.ref ct)=true) (rD:isFn K (.ref ct)=true)
  (rE:findIn K (.ref ac) "need_levels" = some (some (.ref az)))
  (rF:findIn K (.ref ad) "need_levels" = some (some (.ref az)))
  (rG:findIn K (.ref ae) "need_levels" = some (some (.ref az)))
  (yX:findIn K (.ref ag) "need_levels" = some (some (.ref az)))
  (iR:K.lookup az=some ⟨qT,p8,.func (fnS "need_levels" "Plan.need_levels" bp ie ig ih gQ dp ii),qv⟩) (iT:codeIn K dp "Plan.need_levels" = true) (aq:keepIn K (.ref az)=true) (bk:isFn K (.ref az)=true)
  (yY:findIn K (.ref af) "need_levels" = some (some (.ref cw)))
  (py:K.lookup cw=some ⟨xm,vt,.func (fnS "need_levels" "Each.need_levels" bn oK oL oM ka e6 oN),wo⟩) (pz:codeIn K e6 "Each.need_levels" = true) (fv:keepIn K (.ref cw)=true) (yZ:isFn K (.ref cw)=true)
  (rH:findIn K (.ref aa) "need_levels" = some (some (.ref cx)))
  (iU:K.lookup cx=some ⟨qU,p9,.func (fnS "need_levels" "First.need_levels" ba ij ik il gT dr im),qw⟩) (iW:codeIn K dr "First.need_levels" = true) (dP:keepIn K (.ref cx)=true) (rI:isFn K (.ref cx)=true)
  (pA:cL=.ref bq) (Ao:K.lookup bq=some ⟨qV,kb,.fields dQ,kq⟩) (Ap:dQ[11]? = some (.ref aH)) (iX:codeHdIn K bq aH=true)
  (pB:cK=.ref br) (Aq:K.lookup br=some ⟨qW,kc,.fields dR,kr⟩) (Ar:dR[11]? = some (.ref aI)) (iZ:codeHdIn K br aI=true)
  (pC:cJ=.ref bs) (As:K.lookup bs=some ⟨qX,kd,.fields dS,ks⟩) (At:dS[11]? = some (.ref aJ)) (i0:codeHdIn K bs aJ=true)
  (pD:be=.ref bt) (Au:K.lookup bt=some ⟨qY,ke,.fields dT,kt⟩) (Av:dT[11]? = some (.ref aK)) (i1:codeHdIn K bt aK=true)
  (pE:cI=.ref bu) (Aw:K.lookup bu=some ⟨qZ,kf,.fields dU,ku⟩) (Ax:dU[11]? = some (.ref aL)) (i2:codeHdIn K bu aL=true)
  (rJ:dd=.ref bv) (Bq:K.lookup bv=some ⟨xn,qa,.fields io,qx⟩) (Br:io[11]? = some (.ref aM)) (i3:codeHdIn K bv aM=true)
  (pF:cz=.ref bw) (Ay:K.lookup bw=some ⟨q0,kg,.fields dV,kv⟩) (Az:dV[11]? = some (.ref aN)) (i4:codeHdIn K bw aN=true)
  (pG:cF=.ref bx) (AA:K.lookup bx=some ⟨q1,kh,.fields dW,kw⟩) (AB:dW[11]? = some (.ref aO)) (i6:codeHdIn K bx aO=true)
  (pH:bh=.ref bz) (AC:K.lookup bz=some ⟨q2,kj,.fields dX,kx⟩) (AD:dX[11]? = some (.ref aP)) (i7:codeHdIn K bz aP=true)
  (pI:cE=.ref bC) (AE:K.lookup bC=some ⟨q3,kk,.fields dY,ky⟩) (AF:dY[11]? = some (.ref aQ)) (i8:codeHdIn K bC aQ=true)
  (pJ:bg=.ref bD) (AG:K.lookup bD=some ⟨q4,kl,.fields d0,kz⟩) (AH:d0[11]? = some (.ref aR)) (i9:codeHdIn K bD aR=true)
  (pK:cC=.ref bE) (AI:K.lookup bE=some ⟨q5,km,.fields d1,kB⟩) (AJ:d1[11]? = some (.ref aS)) (ja:codeHdIn K bE aS=true)
  (pL:bf=.ref bF) (AK:K.lookup bF=some ⟨q6,kn,.fields d2,kC⟩) (AL:d2[11]? = some (.ref aT)) (jb:codeHdIn K bF aT=true)
  (pM:gU=.ref bH) (AM:K.lookup bH=some ⟨q7,ko,.fields d3,kD⟩) (AN:d3[11]? = some (.ref aU)) (jc:codeHdIn K bH aU=true)
  (pN:cB=.ref bN) (AO:K.lookup bN=some ⟨q8,kp,.fields ea,kE⟩) (AP:ea[11]? = some (.ref aV)) (jd:codeHdIn K bN aV=true)
  (y0:([aH,aI,aJ,aK,aL,aM,aN,aO,aP,aQ,aR,aS,aT,aU,aV]:List Addr).Nodup)
  (bb:vG K an au=true)
  (bc:kitOne K (.ref an) (.type "ValueError")=some true)
  (bd:kitOne K (.ref an) (.ref an)=some true)
  (ec:kitAny K (.ref an) [.ref ar,.ref al,.ref ay,.ref av]=some false)
  (fw:kitOne K (.ref ah) (.ref ai)=some true)
  (fx:kitOne K (.ref ab) (.ref ai)=some true)
  (z0:nsIn K mainGlobals "ValueError" = some none)
  (z1:nsIn K mainGlobals "abs" = some none)
  (z2:nsIn K mainGlobals "bool" = some none)
  (z3:nsIn K mainGlobals "enumerate" = some none)
  (z4:nsIn K mainGlobals "int" = some none)
  (z5:nsIn K mainGlobals "isinstance" = some none)
  (z6:nsIn K mainGlobals "len" = some none)
  (z7:nsIn K mainGlobals "list" = some none)
  (z8:nsIn K mainGlobals "max" = some none)
  (z9:nsIn K mainGlobals "min" = some none)
  (AQ:nsIn K mainGlobals "range" = some none)
  (AR:nsIn K mainGlobals "sorted" = some none)
  (AS:nsIn K mainGlobals "sum" = some none)
  (AT:nsIn K mainGlobals "tuple" = some none)
  (AU:nsIn K mainGlobals "zip" = some none) (r0:RelV (.int 24) u0) (r1:RelV (.int 100) u1):∃ a:Ad,Txt K mg a/\(tabs a).map (·.1)=[aH,aI,aJ,aK,aL,aM,aN,aO,aP,aQ,aR,aS,aT,aU,aV]:=by
 refine⟨{ f_M:=f0,d_M:=fnT "greatest_divisor" bi rU rV rW rK kF rX,f_Y:=f1,d_Y:=fnT "least_multiple" bI rY rZ r2 rL kG r3,f_aa:=f2,d_aa:=fnT "share" i5 r4 r5 r6 rM kH r7,f_aJ:=f3,d_aJ:=fnT "plus" ki r8 r9 sa rN kI sb,f_aD:=f4,d_aD:=fnT "minus" iV sc sd se rO kJ sf,f_ap:=f5,d_ap:=fnT "times" iS sg sh si rP kK sj,f_aM:=f6,d_aM:=fnT "over" kA sk sl sm rQ kL sn,f_aK:=f7,d_aK:=fnT "below" iY so sp sq rR kM sr,f_aH:=f8,d_aH:=fnT "is_whole" eU ss st su rS kN sv,f_y:=f9,d_y:=fnT "carried_make" bR sw sx sy rT gU sz,f_T:=fy,d_T:=fnT "behind" fZ kO kP kQ jg cz kR,f_ab:=fz,d_ab:=fnT "groups_of" ee kS kT kU jh ei kV,f_aN:=fA,d_aN:=fnT "wished" gR kW kX kY ji ej kZ,f_S:=fB,d_S:=fnT "wished_of_some" bG la lb lc jj ek ld,f_Z:=fC,d_Z:=fnT "wished_by" d9 le lf lg jk el lh,f_ag:=fD,d_ag:=fnT "places_of" d6 li lj lk jl en ll,f_K:=fE,d_K:=fnT "matrix_by" d7 lm ln lo jm eo lp,f_aB:=fG,d_aB:=fnT "matrix_row" dD lq lr ls jn ep lt,f_V:=fH,d_V:=fnT "need_number" dj lu lv lw jo eq lx,f_P:=fI,d_P:=fnT "few_node" dC ly lz lA jp cB lB,f_aC:=fL,d_aC:=fnT "few_chance" dH lC lD lE jq er lF,f_E:=fN,d_E:=fnT "start_make" cP lG lH lI jr cC lJ,f_aq:=fO,d_aq:=fnT "is_unsure" d4 lK lL lM js es lN,f_C:=fP,d_C:=fnT "loose_node" bY lO lP lQ jt cE lR,f_N:=fQ,d_N:=fnT "parted" gS lS lT lU ju et lV,f_a:=fR,d_a:=fnT "crowd_of_groups" bA lW lX lY jv eu lZ,f_k:=fS,d_k:=fnT "groups_node" cf ma mb mc jw cF md,f_aA:=fT,d_aA:=fnT "spots_of" eN me mf mh jx ev mi,f_d:=fV,d_d:=fnT "groups_matrix" bB mj mk ml jy cI mm,f_ac:=fW,d_ac:=fnT "spots_chance" cy mn mo mp jz ew mq,f_U:=fX,d_U:=fnT "need_group_names" bj mr ms mt jA ex mu,f_aI:=fY,d_aI:=fnT "settled" fJ mv mw mx jB ey my,f_au:=ga,d_au:=fnT "open_node" d5 mz mA mB jC ez mC,f_z:=gb,d_z:=fnT "settled_make" bM mD mE mF jD cJ mG,f_O:=gc,d_O:=fnT "last_die" dA mH mI mJ jE cK mK,f_ao:=gd,d_ao:=fnT "duel_parts" dJ mL mM mN jF eA mO,f_x:=ge,d_x:=fnT "duel_matrix" cc mP mQ mR jG cL mS,f_av:=gf,d_av:=fnT "pair_chance" dq mT mU mV jH eB mW,f_R:=gg,d_R:=fnT "kept_together" bV mX mY mZ jI eC m0,f_ax:=gh,d_ax:=fnT "both_kept" d8 m1 m2 m3 jJ eD m4,f_ar:=gi,d_ar:=fnT "held_behind" df m5 m6 m7 jK eE m8,f_ae:=gj,d_ae:=fnT "behind_duel" cZ m9 na nb jL eF nc,f_aO:=gk,d_aO:=fnT "_law_cell" gO nd ne nf jM eG ng,f_ak:=gl,d_ak:=fnT "_law_mixed" fM nh ni nj jN eH nk,f_at:=gm,d_at:=fnT "_law_tree" gM nl nm nn jO eI no,f_az:=gn,d_az:=fnT "_law_plan" gW np nq nr jP eK ns,f_as:=go,d_as:=fnT "_law_needs" fF nt nu nv jQ eL nw,f_aj:=gp,d_aj:=fnT "_law_no_level" dG nx ny nz jR eM nA,f_aE:=gq,d_aE:=fnT "_law_crowd" fK nB nC nD jS eO nE,f_ay:=gr,d_ay:=fnT "_law_answers" eh nF nH nI jT eP nJ,f_aP:=gs,d_aP:=fnT "law" qE nK nL nM jU eQ nN,c_ai:=au,c_F:=ar,i_F:=bm,e_F:=fnS "__init__" "NoListing.__init__" fi gV gX gY gt cO gZ,c_aF:=av,c_af:=al,i_af:=aw,e_af:=fnS "__init__" "NoPlan.__init__" gv g0 g1 g2 gu cQ g3,c_L:=an,c_X:=ay,i_X:=bo,e_X:=fnS "__init__" "NoThrow.__init__" fU g4 g5 g6 gw cR g7,c_aG:=ai,c_s:=ah,i_s:=bZ,e_s:=fnS "__init__" "Told.__init__" bU g8 g9 ha gx cS hb,c_G:=ab,i_G:=b2,e_G:=fnS "__init__" "Die.__init__" cv nO nP nQ jV eS nR,c_aL:=am,c_Q:=ac,i_Q:=b3,e_Q:=fnS "__init__" "Few.__init__" cu nS nT nU jW eT nV,c_o:=ad,i_o:=b4,e_o:=fnS "__init__" "Start.__init__" bL hc hd he gy cT hf,c_p:=ae,i_p:=b5,e_p:=fnS "__init__" "Loose.__init__" bJ hg hh hi gz cU hj,c_t:=af,i_t:=b6,e_t:=fnS "__init__" "Each.__init__" bT nW nX nY jX eV nZ,c_g:=aa,i_g:=b7,e_g:=fnS "__init__" "First.__init__" bK hk hl hm gA cV hn,c_A:=ag,i_A:=b8,e_A:=fnS "__init__" "Duel.__init__" bW n0 n1 n2 jY eW n3,x_ah:=aB,y_ah:=fnS "is_told" "Told.is_told" cD ho hp hq gB cW hr,x_am:=aC,y_am:=fnS "is_told" "Die.is_told" dh n4 n5 n6 jZ eX n7,x_al:=aD,y_al:=fnS "kept" "Told.kept" eg hs ht hu gC cX hv,x_aw:=aE,y_aw:=fnS "kept" "Die.kept" eJ n8 n9 oa j0 eY ob,x_an:=aF,y_an:=fnS "carried" "Die.carried" di oc od oe j1 eZ og,x_ad:=aG,y_ad:=fnS "node" "Few.node" eR hw hx hy gD da hz,x_I:=b9,y_I:=fnS "node" "Start.node" dF hA hB hC gE db hD,x_J:=ca,y_J:=fnS "node" "Loose.node" dM hE hF hG gF dc hH,x_W:=cb,y_W:=fnS "node" "Duel.node" dZ oh oi oj j2 e0 ok,x_D:=cd,y_D:=fnS "node" "Each.node" em ol om on j3 e1 oo,x_c:=cg,y_c:=fnS "node" "First.node" cM hI hJ hK gG be hL,x_m:=ch,y_m:=fnS "matrix" "Few.matrix" cN hM hN hO gH bf hP,x_i:=ci,y_i:=fnS "matrix" "Start.matrix" bQ hQ hR hS gI bg hT,x_j:=cj,y_j:=fnS "matrix" "Loose.matrix" bP hU hV hW gJ bh hX,x_H:=ck,y_H:=fnS "matrix" "Duel.matrix" cY op oq os j4 e2 ot,x_b:=cl,y_b:=fnS "matrix" "Each.matrix" ce ou ov ow j6 dd ox,x_n:=cm,y_n:=fnS "matrix" "First.matrix" cA hY hZ h0 gK de h1,x_B:=cn,y_B:=fnS "bounds" "Few.bounds" dI oy oz oA j7 e3 oB,x_u:=co,y_u:=fnS "bounds" "Start.bounds" cG h2 h3 h4 gL dg h5,x_q:=cp,y_q:=fnS "bounds" "Loose.bounds" cH h6 h7 h8 gN dl h9,x_v:=cr,y_v:=fnS "bounds" "Duel.bounds" dk oC oD oE j8 e4 oF,x_l:=cs,y_l:=fnS "bounds" "Each.bounds" dn oG oH oI j9 e5 oJ,x_e:=ct,y_e:=fnS "bounds" "First.bounds" cq ia ib ic gP dm id,x_h:=az,y_h:=fnS "need_levels" "Plan.need_levels" bp ie ig ih gQ dp ii,x_w:=cw,y_w:=fnS "need_levels" "Each.need_levels" bn oK oL oM ka e6 oN,x_r:=cx,y_r:=fnS "need_levels" "First.need_levels" ba ij ik il gT dr im,k_NOUGHT:=aj,k_WHOLE:=ao,k_TWICE:=ap,lc_x:=bq,lp_x:=aH,lc_O:=br,lp_O:=aI,lc_z:=bs,lp_z:=aJ,lc_c:=bt,lp_c:=aK,lc_d:=bu,lp_d:=aL,lc_b:=bv,lp_b:=aM,lc_T:=bw,lp_T:=aN,lc_k:=bx,lp_k:=aO,lc_j:=bz,lp_j:=aP,lc_C:=bC,lp_C:=aQ,lc_i:=bD,lp_i:=aR,lc_E:=bE,lp_E:=aS,lc_m:=bF,lp_m:=aT,lc_y:=bH,lp_y:=aU,lc_P:=bN,lp_P:=aV },?_,rfl⟩
 exact {
  lcd_x:=pA
  lch_x:=iX
  lcd_O:=pB
  lch_O:=iZ
  lcd_z:=pC
  lch_z:=i0
  lcd_c:=pD
  lch_c:=i1
  lcd_d:=pE
  lch_d:=i2
  lcd_b:=rJ
  lch_b:=i3
  lcd_T:=pF
  lch_T:=i4
  lcd_k:=pG
  lch_k:=i6
  lcd_j:=pH
  lch_j:=i7
  lcd_C:=pI
  lch_C:=i8
  lcd_i:=pJ
  lch_i:=i9
  lcd_E:=pK
  lch_E:=ja
  lcd_m:=pL
  lch_m:=jb
  lcd_y:=pM
  lch_y:=jc
  lcd_P:=pN
  lch_P:=jd
  tnd:=y0
  F_M:=ak l0 c0 k0
  B_M:=(ak l0 c0 k0).binds λ_ _ _ _ _ _=>w2 λ_ _=>rfl
  m_M:=mg_of X G a0
  F_Y:=ak l1 c1 k1
  B_Y:=(ak l1 c1 k1).binds λ_ _ _ _ _ _=>w1 λ_=>rfl
  m_Y:=mg_of X G a1
  F_aa:=ak l2 c2 k2
  B_aa:=(ak l2 c2 k2).binds λ_ _ _ _ _ _=>w2 λ_ _=>rfl
  m_aa:=mg_of X G a2
  F_aJ:=ak l3 c3 k3
  B_aJ:=(ak l3 c3 k3).binds λ_ _ _ _ _ _=>w2 λ_ _=>rfl
  m_aJ:=mg_of X G a3
  F_aD:=ak l4 c4 k4
  B_aD:=(ak l4 c4 k4).binds λ_ _ _ _ _ _=>w2 λ_ _=>rfl
  m_aD:=mg_of X G a4
  F_ap:=ak l5 c5 k5
  B_ap:=(ak l5 c5 k5).binds λ_ _ _ _ _ _=>w2 λ_ _=>rfl
  m_ap:=mg_of X G a5
  F_aM:=ak l6 c6 k6
  B_aM:=(ak l6 c6 k6).binds λ_ _ _ _ _ _=>w2 λ_ _=>rfl
  m_aM:=mg_of X G a6
  F_aK:=ak l7 c7 k7
  B_aK:=(ak l7 c7 k7).binds λ_ _ _ _ _ _=>w2 λ_ _=>rfl
  m_aK:=mg_of X G a7
  F_aH:=ak l8 c8 k8
  B_aH:=(ak l8 c8 k8).binds λ_ _ _ _ _ _=>w3 λ_ _ _=>rfl
  m_aH:=mg_of X G a8
  F_y:=ak l9 c9 k9
  B_y:=(ak l9 c9 k9).binds λ_ _ _ _ _ _=>w2 λ_ _=>rfl
  m_y:=mg_of X G a9
  F_T:=ak sA sB sC
  B_T:=(ak sA sB sC).binds λ_ _ _ _ _ _=>w2 λ_ _=>rfl
  m_T:=mg_of X G zv
  F_ab:=ak sD sE sF
  B_ab:=(ak sD sE sF).binds λ_ _ _ _ _ _=>w1 λ_=>rfl
  m_ab:=mg_of X G zw
  F_aN:=ak sG sH sI
  B_aN:=(ak sG sH sI).binds λ_ _ _ _ _ _=>w2 λ_ _=>rfl
  m_aN:=mg_of X G zx
  F_S:=ak sJ sK sL
  B_S:=(ak sJ sK sL).binds λ_ _ _ _ _ _=>w2 λ_ _=>rfl
  m_S:=mg_of X G zy
  F_Z:=ak sM sN sO
  B_Z:=(ak sM sN sO).binds λ_ _ _ _ _ _=>w2 λ_ _=>rfl
  m_Z:=mg_of X G zz
  F_ag:=ak sP sQ sR
  B_ag:=(ak sP sQ sR).binds λ_ _ _ _ _ _=>w1 λ_=>rfl
  m_ag:=mg_of X G zA
  F_K:=ak sS sT sU
  B_K:=(ak sS sT sU).binds λ_ _ _ _ _ _=>w2 λ_ _=>rfl
  m_K:=mg_of X G zB
  F_aB:=ak sV sW sX
  B_aB:=(ak sV sW sX).binds λ_ _ _ _ _ _=>w3 λ_ _ _=>rfl
  m_aB:=mg_of X G zC
  F_V:=ak sY sZ s0
  B_V:=(ak sY sZ s0).binds λ_ _ _ _ _ _=>w3 λ_ _ _=>rfl
  m_V:=mg_of X G zD
  F_P:=ak s1 s2 s3
  B_P:=(ak s1 s2 s3).binds λ_ _ _ _ _ _=>w3 λ_ _ _=>rfl
  m_P:=mg_of X G zE
  F_aC:=ak s4 s5 s6
  B_aC:=(ak s4 s5 s6).binds λ_ _ _ _ _ _=>w3 λ_ _ _=>rfl
  m_aC:=mg_of X G zF
  F_E:=ak s7 s8 s9
  B_E:=(ak s7 s8 s9).binds λ_ _ _ _ _ _=>w3 λ_ _ _=>rfl
  m_E:=mg_of X G zG
  F_aq:=ak ta tb tc
  B_aq:=(ak ta tb tc).binds λ_ _ _ _ _ _=>w1 λ_=>rfl
  m_aq:=mg_of X G zH
  F_C:=ak td te tf
  B_C:=(ak td te tf).binds λ_ _ _ _ _ _=>w2 λ_ _=>rfl
  m_C:=mg_of X G zI
  F_N:=ak tg th ti
  B_N:=(ak tg th ti).binds λ_ _ _ _ _ _=>w1 λ_=>rfl
  m_N:=mg_of X G zJ
  F_a:=ak tj tk tl
  B_a:=(ak tj tk tl).binds λ_ _ _ _ _ _=>w1 λ_=>rfl
  m_a:=mg_of X G zK
  F_k:=ak tm tn tp
  B_k:=(ak tm tn tp).binds λ_ _ _ _ _ _=>w3 λ_ _ _=>rfl
  m_k:=mg_of X G zL
  F_aA:=ak tq tr ts
  B_aA:=(ak tq tr ts).binds λ_ _ _ _ _ _=>w2 λ_ _=>rfl
  m_aA:=mg_of X G zM
  F_d:=ak tt tu tv
  B_d:=(ak tt tu tv).binds λ_ _ _ _ _ _=>w4 λ_ _ _ _=>rfl
  m_d:=mg_of X G zN
  F_ac:=ak tw tx ty
  B_ac:=(ak tw tx ty).binds λ_ _ _ _ _ _=>w4 λ_ _ _ _=>rfl
  m_ac:=mg_of X G zO
  F_U:=ak tz tA tB
  B_U:=(ak tz tA tB).binds λ_ _ _ _ _ _=>w1 λ_=>rfl
  m_U:=mg_of X G zP
  F_aI:=ak tC tD tE
  B_aI:=(ak tC tD tE).binds λ_ _ _ _ _ _=>w2 λ_ _=>rfl
  m_aI:=mg_of X G zQ
  F_au:=ak tF tH tI
  B_au:=(ak tF tH tI).binds λ_ _ _ _ _ _=>w2 λ_ _=>rfl
  m_au:=mg_of X G zR
  F_z:=ak tJ tK tL
  B_z:=(ak tJ tK tL).binds λ_ _ _ _ _ _=>w2 λ_ _=>rfl
  m_z:=mg_of X G zS
  F_O:=ak tM tN tO
  B_O:=(ak tM tN tO).binds λ_ _ _ _ _ _=>w2 λ_ _=>rfl
  m_O:=mg_of X G zT
  F_ao:=ak tP tQ tR
  B_ao:=(ak tP tQ tR).binds λ_ _ _ _ _ _=>w2 λ_ _=>rfl
  m_ao:=mg_of X G zU
  F_x:=ak tS tT tU
  B_x:=(ak tS tT tU).binds λ_ _ _ _ _ _=>w2 λ_ _=>rfl
  m_x:=mg_of X G zV
  F_av:=ak tV tW tX
  B_av:=(ak tV tW tX).binds λ_ _ _ _ _ _=>w4 λ_ _ _ _=>rfl
  m_av:=mg_of X G zW
  F_R:=ak tY tZ t0
  B_R:=(ak tY tZ t0).binds λ_ _ _ _ _ _=>w1 λ_=>rfl
  m_R:=mg_of X G zX
  F_ax:=ak t1 t2 t3
  B_ax:=(ak t1 t2 t3).binds λ_ _ _ _ _ _=>w4 λ_ _ _ _=>rfl
  m_ax:=mg_of X G zY
  F_ar:=ak t4 t5 t6
  B_ar:=(ak t4 t5 t6).binds λ_ _ _ _ _ _=>w2 λ_ _=>rfl
  m_ar:=mg_of X G zZ
  F_ae:=ak t7 t8 t9
  B_ae:=(ak t7 t8 t9).binds λ_ _ _ _ _ _=>w4 λ_ _ _ _=>rfl
  m_ae:=mg_of X G Aa
  F_aO:=ak ua ub uc
  B_aO:=(ak ua ub uc).binds λ_ _ _ _ _ _=>w2 λ_ _=>rfl
  m_aO:=mg_of X G Ab
  F_ak:=ak ud ue uf
  B_ak:=(ak ud ue uf).binds λ_ _ _ _ _ _=>w2 λ_ _=>rfl
  m_ak:=mg_of X G Ac
  F_at:=ak ug uh ui
  B_at:=(ak ug uh ui).binds λ_ _ _ _ _ _=>w3 λ_ _ _=>rfl
  m_at:=mg_of X G Ae
  F_az:=ak uj uk ul
  B_az:=(ak uj uk ul).binds λ_ _ _ _ _ _=>w1 λ_=>rfl
  m_az:=mg_of X G Af
  F_as:=ak um un uo
  B_as:=(ak um un uo).binds λ_ _ _ _ _ _=>w1 λ_=>rfl
  m_as:=mg_of X G Ag
  F_aj:=ak up uq ur
  B_aj:=(ak up uq ur).binds λ_ _ _ _ _ _=>w3 λ_ _ _=>rfl
  m_aj:=mg_of X G Ah
  F_aE:=ak us ut uu
  B_aE:=(ak us ut uu).binds λ_ _ _ _ _ _=>w2 λ_ _=>rfl
  m_aE:=mg_of X G Ai
  F_ay:=ak uv uw ux
  B_ay:=(ak uv uw ux).binds λ_ _ _ _ _ _=>w2 λ_ _=>rfl
  m_ay:=mg_of X G Aj
  F_aP:=ak Al Am An
  m_aP:=mg_of X G Ak
  g_NOUGHT:=⟨_,mg_of X G e7,rfl⟩
  t_NOUGHT:=eb
  g_WHOLE:=⟨_,mg_of X G je,rfl⟩
  t_WHOLE:=e8
  g_TWICE:=⟨_,mg_of X G jf,rfl⟩
  t_TWICE:=e9
  F_ah:=ak iq ir ds
  B_ah:=(ak iq ir ds).binds λ_ _ _ _ _ _=>w1 λ_=>rfl
  F_am:=ak pe pf fk
  B_am:=(ak pe pf fk).binds λ_ _ _ _ _ _=>w1 λ_=>rfl
  F_al:=ak it iu dt
  B_al:=(ak it iu dt).binds λ_ _ _ _ _ _=>w1 λ_=>rfl
  F_aw:=ak pg ph fl
  B_aw:=(ak pg ph fl).binds λ_ _ _ _ _ _=>w1 λ_=>rfl
  F_an:=ak pi pj fm
  B_an:=(ak pi pj fm).binds λ_ _ _ _ _ _=>w2 λ_ _=>rfl
  F_ad:=ak iv iw du
  B_ad:=(ak iv iw du).binds λ_ _ _ _ _ _=>w2 λ_ _=>rfl
  F_I:=ak ix iy dv
  B_I:=(ak ix iy dv).binds λ_ _ _ _ _ _=>w2 λ_ _=>rfl
  F_J:=ak iz iA dw
  B_J:=(ak iz iA dw).binds λ_ _ _ _ _ _=>w2 λ_ _=>rfl
  F_W:=ak pk pl fn
  B_W:=(ak pk pl fn).binds λ_ _ _ _ _ _=>w2 λ_ _=>rfl
  F_D:=ak pm pn fo
  B_D:=(ak pm pn fo).binds λ_ _ _ _ _ _=>w2 λ_ _=>rfl
  F_c:=ak iB iC dy
  B_c:=(ak iB iC dy).binds λ_ _ _ _ _ _=>w2 λ_ _=>rfl
  F_m:=ak iD iE dz
  B_m:=(ak iD iE dz).binds λ_ _ _ _ _ _=>w2 λ_ _=>rfl
  F_i:=ak iF iG dB
  B_i:=(ak iF iG dB).binds λ_ _ _ _ _ _=>w2 λ_ _=>rfl
  F_j:=ak iH iI dE
  B_j:=(ak iH iI dE).binds λ_ _ _ _ _ _=>w2 λ_ _=>rfl
  F_H:=ak po pp fp
  B_H:=(ak po pp fp).binds λ_ _ _ _ _ _=>w2 λ_ _=>rfl
  F_b:=ak pq pr fq
  B_b:=(ak pq pr fq).binds λ_ _ _ _ _ _=>w2 λ_ _=>rfl
  F_n:=ak iJ iK dK
  B_n:=(ak iJ iK dK).binds λ_ _ _ _ _ _=>w2 λ_ _=>rfl
  F_B:=ak ps pt fr
  B_B:=(ak ps pt fr).binds λ_ _ _ _ _ _=>w2 λ_ _=>rfl
  F_u:=ak iL iM dL
  B_u:=(ak iL iM dL).binds λ_ _ _ _ _ _=>w2 λ_ _=>rfl
  F_q:=ak iN iO dN
  B_q:=(ak iN iO dN).binds λ_ _ _ _ _ _=>w2 λ_ _=>rfl
  F_v:=ak pu pv ft
  B_v:=(ak pu pv ft).binds λ_ _ _ _ _ _=>w2 λ_ _=>rfl
  F_l:=ak pw px fu
  B_l:=(ak pw px fu).binds λ_ _ _ _ _ _=>w2 λ_ _=>rfl
  F_e:=ak iP iQ dO
  B_e:=(ak iP iQ dO).binds λ_ _ _ _ _ _=>w2 λ_ _=>rfl
  F_h:=ak iR iT aq
  B_h:=(ak iR iT aq).binds λ_ _ _ _ _ _=>w2 λ_ _=>rfl
  F_w:=ak py pz fv
  B_w:=(ak py pz fv).binds λ_ _ _ _ _ _=>w2 λ_ _=>rfl
  F_r:=ak iU iW dP
  B_r:=(ak iU iW dP).binds λ_ _ _ _ _ _=>w2 λ_ _=>rfl
  mt_ah:=⟨re,rf,ds⟩
  mt_am:=⟨yD,yE,fk⟩
  mt_al:=⟨rg,rh,dt⟩
  mt_aw:=⟨yF,yG,fl⟩
  mt_an:=⟨yH,yI,fm⟩
  mt_ad:=⟨ri,rj,du⟩
  mt_I:=⟨rk,rl,dv⟩
  mt_J:=⟨rm,rn,dw⟩
  mt_W:=⟨yJ,yK,fn⟩
  mt_D:=⟨yL,yM,fo⟩
  mt_c:=⟨ro,rp,dy⟩
  mt_m:=⟨rq,rr,dz⟩
  mt_i:=⟨rs,rt,dB⟩
  mt_j:=⟨ru,rv,dE⟩
  mt_H:=⟨yN,yO,fp⟩
  mt_b:=⟨yP,yQ,fq⟩
  mt_n:=⟨rw,rx,dK⟩
  mt_B:=⟨yR,yS,fr⟩
  mt_u:=⟨ry,rz,dL⟩
  mt_q:=⟨rA,rB,dN⟩
  mt_v:=⟨yT,yU,ft⟩
  mt_l:=⟨yV,yW,fu⟩
  mt_e:=⟨rC,rD,dO⟩
  mt_Few_need_levels:=⟨rE,bk,aq⟩
  mt_Start_need_levels:=⟨rF,bk,aq⟩
  mt_Loose_need_levels:=⟨rG,bk,aq⟩
  mt_Duel_need_levels:=⟨yX,bk,aq⟩
  mt_w:=⟨yY,yZ,fv⟩
  mt_r:=⟨rH,rI,dP⟩
  g_aG:=⟨_,mg_of X G rd,rfl⟩
  mc_s:=mg_of X G xs
  cl_s:=⟨oQ,oR,oS,oT⟩
  ty_s:=λH x dx fs e=>.ins e ⟨oQ,oR,oS,oT⟩ xt xu xv xw
  mk_s:=⟨xx,xy,xz,xA⟩
  na_Told_rising:=aW
  Fi_s:=ak fb oU oV
  Bi_s:=(ak fb oU oV).binds λ_ _ _ _ _ _=>w2 λ_ _=>rfl
  mc_G:=mg_of X G xB
  cl_G:=⟨oW,oX,oY,oZ⟩
  ty_G:=λH x dx fs e=>.ins e ⟨oW,oX,oY,oZ⟩ xC xD xE xF
  mk_G:=⟨xG,xH,xI,xJ⟩
  na_Die_makes:=bO
  Fi_G:=ak fc o0 o1
  Bi_G:=(ak fc o0 o1).binds λ_ _ _ _ _ _=>w2 λ_ _=>rfl
  mc_Q:=mg_of X G xK
  cl_Q:=⟨xL,xM,xN,xO⟩
  mk_Q:=⟨xP,xQ,xR,xS⟩
  na_Few_many:=bX
  Fi_Q:=ak fd o2 o3
  Bi_Q:=(ak fd o2 o3).binds λ_ _ _ _ _ _=>w2 λ_ _=>rfl
  mc_o:=mg_of X G xT
  cl_o:=⟨xU,xV,xW,xX⟩
  mk_o:=⟨xY,xZ,x0,x1⟩
  na_Start_step:=aY
  Fi_o:=ak fe o4 o5
  Bi_o:=(ak fe o4 o5).binds λ_ _ _ _ _ _=>w2 λ_ _=>rfl
  mc_p:=mg_of X G x2
  cl_p:=⟨x3,x4,x5,x6⟩
  mk_p:=⟨x7,x8,x9,ya⟩
  na_Loose_many:=aZ
  Fi_p:=ak ff o6 o7
  Bi_p:=(ak ff o6 o7).binds λ_ _ _ _ _ _=>w2 λ_ _=>rfl
  mc_t:=mg_of X G yb
  cl_t:=⟨yc,yd,ye,yf⟩
  mk_t:=⟨yg,yh,yi,yj⟩
  na_Each_inside:=aX
  Fi_t:=ak fg o8 o9
  Bi_t:=(ak fg o8 o9).binds λ_ _ _ _ _ _=>w2 λ_ _=>rfl
  mc_g:=mg_of X G yk
  cl_g:=⟨yl,ym,yn,yo⟩
  mk_g:=⟨yp,yq,yr,ys⟩
  na_First_outside:=ax
  na_First_inside:=aA
  Fi_g:=ak fh pa pb
  Bi_g:=(ak fh pa pb).binds λ_ _ _ _ _ _=>w3 λ_ _ _=>rfl
  mc_A:=mg_of X G yt
  cl_A:=⟨yu,yv,yw,yx⟩
  mk_A:=⟨yy,yz,yA,yC⟩
  na_Duel_many:=bS
  Fi_A:=ak fj pc pd
  Bi_A:=(ak fj pc pd).binds λ_ _ _ _ _ _=>w2 λ_ _=>rfl
  g_MOST_MANY:=⟨u0,mg_of X G b0,r0⟩
  g_MOST_STEP:=⟨u1,mg_of X G b1,r1⟩
  mc_ai:=mg_of X G q9
  xh_ai:=yB ra
  g_F:=⟨_,mg_of X G xo,rfl⟩
  g_aF:=⟨_,mg_of X G rb,rfl⟩
  g_af:=⟨_,mg_of X G rc,rfl⟩
  mc_L:=mg_of X G oO
  g_L:=⟨_,mg_of X G oO,rfl⟩
  kc_NoLevel:=xp
  xc_L:=A8 oP
  xh_L:=yB oP
  xi_NoLevel:=xq
  g_X:=⟨_,mg_of X G xr,rfl⟩
  mNoLevel:=bb
  vNoLevel:=bc
  kNoLevel:=bd
  kNL4:=ec
  kTN:=fw
  kDN:=fx
  z_ValueError:=mg_none_of X G z0
  z_abs:=mg_none_of X G z1
  z_bool:=mg_none_of X G z2
  z_enumerate:=mg_none_of X G z3
  z_int:=mg_none_of X G z4
  z_isinstance:=mg_none_of X G z5
  z_len:=mg_none_of X G z6
  z_list:=mg_none_of X G z7
  z_max:=mg_none_of X G z8
  z_min:=mg_none_of X G z9
  z_range:=mg_none_of X G AQ
  z_sorted:=mg_none_of X G AR
  z_sum:=mg_none_of X G AS
  z_tuple:=mg_none_of X G AT
  z_zip:=mg_none_of X G AU
  bl:=λs u=>.of_eq rfl }
end My
open PySem PySem.W PyProof.Rows
namespace PySem.W.Fast
def tw14539096383002579528:=0
def tw18062444202228065698:=0
def tw9645274057787154048:=0
def tw16416670261280287105:=0
def tw11081737620594815652:=0
def tw15368281287706245796:=0
def tw15456085635815626758:=0
def tw4857855598956516486:=0
def tw4467859017924225866:=0
def tw4289950015323074445:=0
def tw5113800590987138287:=0
def tw14079428635228652815:=0
def tw14091449390130660015:=0
def tw4685585043956938064:=0
def tw12029905758782288464:=0
def tw16685200628110477905:=0
def tw2387186895748552243:=0
def tw7512019682997589205:=0
def tw10912963780223190102:=0
def tw5001062514003628566:=0
def tw12748755514451939222:=0
def tw4606937391524473111:=0
def tw8329063516529702359:=0
def tw8148308204661176345:=0
def tw17587776315231256345:=0
def tw8579728590994494395:=0
def tw14045170746755096765:=0
def tw6689990024723098462:=0
def tw10005811325154275729:=0
def tw10069868760891044929:=0
def tw10132887654983129776:=0
def tw10166352458980136694:=0
def tw10220280821451810952:=0
def tw10356590123419208857:=0
def tw10404500668218063127:=0
def tw10404616947128745213:=0
def tw10492171283985322177:=0
def tw10521548735642929162:=0
def tw10527287437852719851:=0
def tw10562457606794969952:=0
def tw10567761305103625339:=0
def tw10577768989839565585:=0
def tw10602290584112811363:=0
def tw10688413666367833318:=0
def tw10730652217906291410:=0
def tw10781802481654703527:=0
def tw10797320789207009118:=0
def tw10821304399141045490:=0
def tw10840349224938868176:=0
def tw10885198810883117774:=0
def tw10926665213197867585:=0
def tw11025272189840878060:=0
def tw11073214322167869658:=0
def tw11101291713126624560:=0
def tw11104355205645742367:=0
def tw11114273537403714953:=0
def tw11196545167947658790:=0
def tw11248578785740813190:=0
def tw11260997316287166810:=0
def tw11330431231767175603:=0
def tw11350825436442326247:=0
def tw1139108806501471278:=0
def tw11393183317967888991:=0
def tw11435060141410576149:=0
def tw11550359092542678240:=0
def tw11635703660669001062:=0
def tw11649539473904866864:=0
def tw11660385392399240696:=0
def tw11762710297304081255:=0
def tw11787276576913533696:=0
def tw11817725083161121470:=0
def tw11819723583492970252:=0
def tw11955726155476440446:=0
def tw12041380856878188536:=0
def tw12052554583038207811:=0
def tw12077993548411905274:=0
def tw12113483581995255229:=0
def tw12134701480202925926:=0
def tw12291075913906992190:=0
def tw12296460777977482358:=0
def tw12348158735077188674:=0
def tw12348959937006730495:=0
def tw12355646364417761878:=0
def tw1238365147195169523:=0
def tw12421986081783564641:=0
def tw12429237086733660667:=0
def tw1244284443473300248:=0
def tw12507948615424383952:=0
def tw12646708241557517780:=0
def tw12691600568923732899:=0
def tw12705980034085450998:=0
def tw12708369268371441336:=0
def tw12714485082834110400:=0
def tw12720707337190753120:=0
def tw12795960241579871512:=0
def tw12816174922954612205:=0
def tw12857939793797874306:=0
def tw12916859557974375334:=0
def tw12989502091143988552:=0
def tw12996918393819237044:=0
def tw1303078102926151002:=0
def tw13055693870523240785:=0
def tw13087073499006779849:=0
def tw131608655365125513:=0
def tw13269339351623224280:=0
def tw13305129572231148944:=0
def tw13311319189920192553:=0
def tw13331662838268161101:=0
def tw13409063354490697697:=0
def tw13413606610470183296:=0
def tw13460269860082651839:=0
def tw13467676299812900707:=0
def tw1346953710119481209:=0
def tw13531369149137608396:=0
def tw1353754750959851112:=0
def tw135630113480468263:=0
def tw13598732216941943903:=0
def tw13601891823908911281:=0
def tw1360477759186242953:=0
def tw13657871756475620384:=0
def tw13674367208548674236:=0
def tw13684243976884083468:=0
def tw13688315591268342606:=0
def tw13754391275210597711:=0
def tw13769006780944247598:=0
def tw13874500563128050738:=0
def tw13885544969185538370:=0
def tw13937708141644610146:=0
def tw14012629102742173208:=0
def tw14069811684640094127:=0
def tw14102441183056553133:=0
def tw14124971297005775117:=0
def tw14134288701604200829:=0
def tw14138503094133345855:=0
def tw14196893010975545409:=0
def tw14270769615852515826:=0
def tw14303461848740363070:=0
def tw14376634205904259365:=0
def tw14386565008705314796:=0
def tw14394781790096253692:=0
def tw14521493263745297507:=0
def tw14534324124568121555:=0
def tw14538028151884246156:=0
def tw14663463425539919325:=0
def tw14741267692029656069:=0
def tw14810318771983118213:=0
def tw14902503487613008005:=0
def tw15052093612100856028:=0
def tw15077804484341472637:=0
def tw15131636724092586602:=0
def tw15196702424236270687:=0
def tw15202148986317767062:=0
def tw1541337905037090739:=0
def tw15417672484434988749:=0
def tw15425963491176868052:=0
def tw15426971793955669459:=0
def tw15547668912481596585:=0
def tw15555874049995454146:=0
def tw15584040916890398456:=0
def tw15661698272425129293:=0
def tw15781146930298700028:=0
def tw15786416897208782697:=0
def tw15789711578593909215:=0
def tw1579508716322971536:=0
def tw15887925757068851589:=0
def tw15914506660989894950:=0
def tw159157781042339566:=0
def tw15949893760541422951:=0
def tw15984501396266935237:=0
def tw16047082334149514534:=0
def tw16160635051542775697:=0
def tw16162348487766791305:=0
def tw16234029953699547323:=0
def tw16301101678829895632:=0
def tw16328066769391123199:=0
def tw16333271164609880372:=0
def tw16384622061847046580:=0
def tw16449058713723607271:=0
def tw16482427692735239005:=0
def tw16484254688680687544:=0
def tw16501007810426460520:=0
def tw16515394731462632309:=0
def tw16533474804172380006:=0
def tw16560094311249152378:=0
def tw1659705580075556618:=0
def tw16603883719794772012:=0
def tw16652460388241611423:=0
def tw16745121082953790831:=0
def tw16746689317540981112:=0
def tw16799662382323747196:=0
def tw16807030189448645183:=0
def tw16826681486155507126:=0
def tw16877575507089094399:=0
def tw16892061963033044747:=0
def tw16962761786050365049:=0
def tw1701124791645904676:=0
def tw17079903473325069144:=0
def tw17144052335106997217:=0
def tw17202498311343765985:=0
def tw17209095378523616774:=0
def tw17217898014647162907:=0
def tw172183163811797688:=0
def tw1732078441991830277:=0
def tw17349192552453340346:=0
def tw17486883003774792224:=0
def tw17500334057662743594:=0
def tw1752238900736820726:=0
def tw17592113471643063888:=0
def tw17636303067848112739:=0
def tw17664448752800448449:=0
def tw17665455965773267133:=0
def tw17713581461192412924:=0
def tw17840255715649584246:=0
def tw17901533466493921378:=0
def tw17933782220145447163:=0
def tw17946465368005471771:=0
def tw17968646744651708755:=0
def tw17969283370867006159:=0
def tw17971010168974861451:=0
def tw1797142121556972032:=0
def tw18038316001472656822:=0
def tw18047750488368068748:=0
def tw18068777807015167734:=0
def tw18081319645585372686:=0
def tw18106526947623762638:=0
def tw18143911142505972817:=0
def tw1820030384107521650:=0
def tw18253704896572841004:=0
def tw18360675399498926763:=0
def tw18379409773710579559:=0
def tw184317787883885069:=0
def tw1876385870013145623:=0
def tw1881361882010315613:=0
def tw1944725187432142630:=0
def tw1953189624540145734:=0
def tw1975657637219384492:=0
def tw2008338907974432031:=0
def tw2025395186525389745:=0
def tw2027080355185659197:=0
def tw2061194283453376474:=0
def tw2086764927398819022:=0
def tw2137703635914764419:=0
def tw2174360731603555836:=0
def tw220580255179451146:=0
def tw2252226688502225244:=0
def tw2318547051808607190:=0
def tw2440856956212106738:=0
def tw2490690126998940577:=0
def tw257007068887036241:=0
def tw2635769692046202717:=0
def tw2690310757885393491:=0
def tw2701769120141897095:=0
def tw2710372920097363598:=0
def tw2787416130473582341:=0
def tw2820689249169715222:=0
def tw2829475435859887276:=0
def tw2832642589159858191:=0
def tw2842561872544556529:=0
def tw2942829822730406189:=0
def tw2985633634526555989:=0
def tw299053579586314718:=0
def tw3083026698638533664:=0
def tw308506381628089868:=0
def tw3087036453832952353:=0
def tw3088965480343439289:=0
def tw3099759246154002655:=0
def tw3222329372543196155:=0
def tw3275526573641033203:=0
def tw3386270749619090402:=0
def tw3409098953944054012:=0
def tw3416061998593122038:=0
def tw3532962328652918277:=0
def tw3554491204036469690:=0
def tw3566323929749167591:=0
def tw3631271102574353727:=0
def tw3669484315257607585:=0
def tw3690882253258225590:=0
def tw370812701571050496:=0
def tw371318163750884750:=0
def tw3715490718764834919:=0
def tw3742168608085097781:=0
def tw3792511742319305260:=0
def tw3828391932659587987:=0
def tw3935468167663090637:=0
def tw3994836407983984335:=0
def tw3996453879201077497:=0
def tw4053081384947785909:=0
def tw4139331748665327678:=0
def tw4139722324378029963:=0
def tw4147831437356465133:=0
def tw4316698370127183889:=0
def tw4322391017354451739:=0
def tw4394588751438491108:=0
def tw4409265969304943852:=0
def tw4424281045986782992:=0
def tw4460906884373899810:=0
def tw447493630164269321:=0
def tw4495683584787065337:=0
def tw4573003722399049339:=0
def tw4579683388279235681:=0
def tw46069331247308621:=0
def tw4634903175781667348:=0
def tw4658800134361262125:=0
def tw4687340375036424633:=0
def tw4749246647742322995:=0
def tw4763209291154743133:=0
def tw4768057796783169794:=0
def tw479986033467022494:=0
def tw4836221921876114104:=0
def tw5024016680938590093:=0
def tw5064995752486601712:=0
def tw5071490429752711884:=0
def tw5075182143340372250:=0
def tw5213951715214139459:=0
def tw5372047137553870522:=0
def tw5400267255186804202:=0
def tw5479522440171307431:=0
def tw5483627865964928425:=0
def tw5486761190748043363:=0
def tw550303750939800360:=0
def tw5529033335562627179:=0
def tw5539239472023160731:=0
def tw5543883305810572339:=0
def tw5553533546098438218:=0
def tw5600528636668993393:=0
def tw5716821416218786167:=0
def tw5741459851503776269:=0
def tw5757480599600484185:=0
def tw5790795365785813781:=0
def tw5880080300188458826:=0
def tw5885645669793594300:=0
def tw5908954595757632814:=0
def tw5919641730490446370:=0
def tw5975461480794907352:=0
def tw598602287242399906:=0
def tw5992550856135601005:=0
def tw6076590428637740200:=0
def tw6140075190288414353:=0
def tw6182094603778193581:=0
def tw619997375372986503:=0
def tw6281689326970704386:=0
def tw6293283946275335122:=0
def tw657924118610153289:=0
def tw6585560707772188125:=0
def tw6622492722672596082:=0
def tw6716772783570885797:=0
def tw6722516145116778071:=0
def tw6741976045491089052:=0
def tw6766297417850836134:=0
def tw6871882874798681875:=0
def tw7014036767909913047:=0
def tw7050916674582443281:=0
def tw705118291230112691:=0
def tw7074949769304929854:=0
def tw7136379055306310537:=0
def tw7191807976391012513:=0
def tw7353275414107362660:=0
def tw7372931121853682244:=0
def tw7374726466403840379:=0
def tw7379316740312988993:=0
def tw7420504368894113388:=0
def tw7503869159075818570:=0
def tw7553739635712848020:=0
def tw7675894285803687882:=0
def tw7689033338682644904:=0
def tw7722881399910359525:=0
def tw7733899837815504250:=0
def tw7746503499524564855:=0
def tw7775238299490158614:=0
def tw777704455213208765:=0
def tw7822936298344632011:=0
def tw7828269882168314782:=0
def tw7939589897575538991:=0
def tw7978943956515307903:=0
def tw8011921526336671223:=0
def tw8040193111067987296:=0
def tw8063275134981656209:=0
def tw8083878321527496125:=0
def tw8152007550914604487:=0
def tw8184567636855856767:=0
def tw820268895426277514:=0
def tw8207928463321966667:=0
def tw8287403597947041259:=0
def tw8303513728385610124:=0
def tw8304043332960251444:=0
def tw8413185339359746167:=0
def tw8423978164987863534:=0
def tw8459657868262062639:=0
def tw8511844415274904283:=0
def tw8548712307884649728:=0
def tw8587949578678203000:=0
def tw8617504784771104506:=0
def tw8684419441297303515:=0
def tw8822824702082824271:=0
def tw8838298406965491373:=0
def tw8865370378010952792:=0
def tw8883294192983945234:=0
def tw8939934003156991335:=0
def tw8943724301274628622:=0
def tw8959347100629507165:=0
def tw8973504081986601410:=0
def tw8973602136865928332:=0
def tw8987461539452914497:=0
def tw9002172843700056386:=0
def tw9046611586185964253:=0
def tw9074418324183907742:=0
def tw929194487446364672:=0
def tw9324726883782413026:=0
def tw9379266212340989578:=0
def tw9488191258911601902:=0
def tw9491354386680183462:=0
def tw950240036973590080:=0
def tw9502549645454855378:=0
def tw9564203119761361382:=0
def tw9569454557899309329:=0
def tw9598409787443750750:=0
def tw9622285347033664859:=0
def tw9703479362992400982:=0
def tw9742818112905589776:=0
def tw9766141074032680436:=0
def tw9779812005661064382:=0
def tw9813798518113942457:=0
def tw9819631778838956214:=0
def tw9831513546650165289:=0
def tw9943159072764034513:=0
def tw9945368746890484645:=0
def tw9983414802468437711:=0
def tw9990069192659851027:=0
end PySem.W.Fast
set_option maxRecDepth 100000 in
set_option maxHeartbeats 0 in
theorem PySem.Challenge.cw_fewspeak_k42_names_wanted_holds : PySem.Challenge.rw_fewspeak_k42_names_wanted.Holds := by
 w_on;o_law;k_head;(case hw=>w_witness2)
 k_fill
 refine L2.walk_ofT (l:=PySem.Challenge.rw_fewspeak_k42_names_wanted) (n:=63) (k:=My.lawK) (x := "_law_script") (CX:=L2.CX0) (sp:=My.spLaw) rfl (by decide) rfl ⟨rfl,by decide,by decide⟩ (λw h Y=>⟨PySem.W.km_in_of Y,PySem.W.km_tabs_of Y⟩) ?F ?S ?C
 case F =>
  intro ts' hts w mg fa h KX G hmg
  have T:∃ a,My.Txt (L2.KOf KX) mg a/\(My.tabs a).map (·.1)=ts':=by
   rw[hts];dsimp only[L2.KOf]
   refine' My.txt_mk KX G ?a0 ?l0 ?c0 ?k0 ?a1 ?l1 ?c1 ?k1 ?a2 ?l2 ?c2 ?k2 ?a3 ?l3 ?c3 ?k3 ?a4 ?l4 ?c4 ?k4 ?a5 ?l5 ?c5 ?k5 ?a6 ?l6 ?c6 ?k6 ?a7 ?l7 ?c7 ?k7 ?a8 ?l8 ?c8 ?k8 ?a9 ?l9 ?c9 ?k9 ?zv ?sA ?sB ?sC ?zw ?sD ?sE ?sF ?zx ?sG ?sH ?sI ?zy ?sJ ?sK ?sL ?zz ?sM ?sN ?sO ?zA ?sP ?sQ ?sR ?zB ?sS ?sT ?sU ?zC ?sV ?sW ?sX ?zD ?sY ?sZ ?s0 ?zE ?s1 ?s2 ?s3 ?zF ?s4 ?s5 ?s6 ?zG ?s7 ?s8 ?s9 ?zH ?ta ?tb ?tc ?zI ?td ?te ?tf ?zJ ?tg ?th ?ti ?zK ?tj ?tk ?tl ?zL ?tm ?tn ?tp ?zM ?tq ?tr ?ts ?zN ?tt ?tu ?tv ?zO ?tw ?tx ?ty ?zP ?tz ?tA ?tB ?zQ ?tC ?tD ?tE ?zR ?tF ?tH ?tI ?zS ?tJ ?tK ?tL ?zT ?tM ?tN ?tO ?zU ?tP ?tQ ?tR ?zV ?tS ?tT ?tU ?zW ?tV ?tW ?tX ?zX ?tY ?tZ ?t0 ?zY ?t1 ?t2 ?t3 ?zZ ?t4 ?t5 ?t6 ?Aa ?t7 ?t8 ?t9 ?Ab ?ua ?ub ?uc ?Ac ?ud ?ue ?uf ?Ae ?ug ?uh ?ui ?Af ?uj ?uk ?ul ?Ag ?um ?un ?uo ?Ah ?up ?uq ?ur ?Ai ?us ?ut ?uu ?Aj ?uv ?uw ?ux ?Ak ?Al ?Am ?An ?e7 ?eb ?je ?e8 ?jf ?e9 ?b0 ?b1 ?q9 ?AV ?ra ?AW ?xo ?Bs ?Bt ?Bu ?Bv ?Bw ?Bx ?By ?Bz ?ed ?ef ?rb ?AX ?AY ?AZ ?rc ?A0 ?A1 ?A2 ?A3 ?A4 ?A5 ?A6 ?A7 ?ip ?oO ?xp ?oP ?xq ?xr ?BA ?BB ?BC ?BD ?BE ?BF ?BG ?BH ?fa ?rd ?A9 ?Ba ?Bb ?Bc ?Bd ?Be ?Bf ?Bg ?xs ?oQ ?oR ?oS ?oT ?xt ?xu ?xv ?xw ?xx ?xy ?xz ?xA ?aW ?fb ?oU ?oV ?xB ?oW ?oX ?oY ?oZ ?xC ?xD ?xE ?xF ?xG ?xH ?xI ?xJ ?bO ?fc ?o0 ?o1 ?Bh ?Bi ?Bj ?Bk ?Bl ?Bm ?Bn ?Bo ?Bp ?xK ?xL ?xM ?xN ?xO ?BI ?BJ ?BK ?BL ?xP ?xQ ?xR ?xS ?bX ?fd ?o2 ?o3 ?xT ?xU ?xV ?xW ?xX ?BM ?BN ?BO ?BP ?xY ?xZ ?x0 ?x1 ?aY ?fe ?o4 ?o5 ?x2 ?x3 ?x4 ?x5 ?x6 ?BQ ?BR ?BS ?BT ?x7 ?x8 ?x9 ?ya ?aZ ?ff ?o6 ?o7 ?yb ?yc ?yd ?ye ?yf ?BU ?BV ?BW ?BX ?yg ?yh ?yi ?yj ?aX ?fg ?o8 ?o9 ?yk ?yl ?ym ?yn ?yo ?BY ?BZ ?B0 ?B1 ?yp ?yq ?yr ?ys ?ax ?aA ?fh ?pa ?pb ?yt ?yu ?yv ?yw ?yx ?B2 ?B3 ?B4 ?B5 ?yy ?yz ?yA ?yC ?bS ?fj ?pc ?pd ?re ?iq ?ir ?ds ?rf ?yD ?pe ?pf ?fk ?yE ?rg ?it ?iu ?dt ?rh ?yF ?pg ?ph ?fl ?yG ?yH ?pi ?pj ?fm ?yI ?ri ?iv ?iw ?du ?rj ?rk ?ix ?iy ?dv ?rl ?rm ?iz ?iA ?dw ?rn ?yJ ?pk ?pl ?fn ?yK ?yL ?pm ?pn ?fo ?yM ?ro ?iB ?iC ?dy ?rp ?rq ?iD ?iE ?dz ?rr ?rs ?iF ?iG ?dB ?rt ?ru ?iH ?iI ?dE ?rv ?yN ?po ?pp ?fp ?yO ?yP ?pq ?pr ?fq ?yQ ?rw ?iJ ?iK ?dK ?rx ?yR ?ps ?pt ?fr ?yS ?ry ?iL ?iM ?dL ?rz ?rA ?iN ?iO ?dN ?rB ?yT ?pu ?pv ?ft ?yU ?yV ?pw ?px ?fu ?yW ?rC ?iP ?iQ ?dO ?rD ?rE ?rF ?rG ?yX ?iR ?iT ?aq ?bk ?yY ?py ?pz ?fv ?yZ ?rH ?iU ?iW ?dP ?rI ?pA ?Ao ?Ap ?iX ?pB ?Aq ?Ar ?iZ ?pC ?As ?At ?i0 ?pD ?Au ?Av ?i1 ?pE ?Aw ?Ax ?i2 ?rJ ?Bq ?Br ?i3 ?pF ?Ay ?Az ?i4 ?pG ?AA ?AB ?i6 ?pH ?AC ?AD ?i7 ?pI ?AE ?AF ?i8 ?pJ ?AG ?AH ?i9 ?pK ?AI ?AJ ?ja ?pL ?AK ?AL ?jb ?pM ?AM ?AN ?jc ?pN ?AO ?AP ?jd ?y0 ?bb ?bc ?bd ?ec ?fw ?fx ?z0 ?z1 ?z2 ?z3 ?z4 ?z5 ?z6 ?z7 ?z8 ?z9 ?AQ ?AR ?AS ?AT ?AU ?r0 ?r1
   case a0|l0|c0|k0|a1|l1|c1|k1|a2|l2|c2|k2|a3|l3|c3|k3|a4|l4|c4|k4|a5|l5|c5|k5|a6|l6|c6|k6|a7|l7|c7|k7|a8|l8|c8|k8|a9|l9|c9|k9|zv|sA|sB|sC|zw|sD|sE|sF|zx|sG|sH|sI|zy|sJ|sK|sL|zz|sM|sN|sO|zA|sP|sQ|sR|zB|sS|sT|sU|zC|sV|sW|sX|zD|sY|sZ|s0|zE|s1|s2|s3|zF|s4|s5|s6|zG|s7|s8|s9|zH|ta|tb|tc|zI|td|te|tf|zJ|tg|th|ti|zK|tj|tk|tl|zL|tm|tn|tp|zM|tq|tr|ts|zN|tt|tu|tv|zO|tw|tx|ty|zP|tz|tA|tB|zQ|tC|tD|tE|zR|tF|tH|tI|zS|tJ|tK|tL|zT|tM|tN|tO|zU|tP|tQ|tR|zV|tS|tT|tU|zW|tV|tW|tX|zX|tY|tZ|t0|zY|t1|t2|t3|zZ|t4|t5|t6|Aa|t7|t8|t9|Ab|ua|ub|uc|Ac|ud|ue|uf|Ae|ug|uh|ui|Af|uj|uk|ul|Ag|um|un|uo|Ah|up|uq|ur|Ai|us|ut|uu|Aj|uv|uw|ux|Ak|Al|Am|An|e7 =>k_is
   case eb =>kernel_rfl
   case je =>k_is
   case e8 =>kernel_rfl
   case jf =>k_is
   case e9 =>kernel_rfl
   case b0|b1|q9|AV =>k_is
   case ra|AW =>kernel_rfl
   case xo|Bs =>k_is
   case Bt =>kernel_rfl
   case Bu =>k_is
   case Bv =>kernel_rfl
   case Bw|Bx|By|Bz =>k_is
   case ed|ef =>kernel_rfl
   case rb|AX =>k_is
   case AY|AZ =>kernel_rfl
   case rc|A0 =>k_is
   case A1 =>kernel_rfl
   case A2 =>k_is
   case A3 =>kernel_rfl
   case A4|A5|A6|A7 =>k_is
   case ip =>kernel_rfl
   case oO|xp =>k_is
   case oP|xq =>kernel_rfl
   case xr|BA =>k_is
   case BB =>kernel_rfl
   case BC =>k_is
   case BD =>kernel_rfl
   case BE|BF|BG|BH =>k_is
   case fa =>kernel_rfl
   case rd =>k_is
   case A9|Ba|Bb|Bc|Bd|Be|Bf|Bg =>(first | k_is | kernel_rfl)
   case xs =>k_is
   case oQ|oR|oS|oT|xt|xu|xv|xw|xx|xy|xz|xA|aW =>(first | k_is | kernel_rfl)
   case fb|oU|oV|xB =>k_is
   case oW|oX|oY|oZ|xC|xD|xE|xF|xG|xH|xI|xJ|bO =>(first | k_is | kernel_rfl)
   case fc|o0|o1|Bh =>k_is
   case Bi|Bj|Bk|Bl|Bm|Bn|Bo|Bp =>(first | k_is | kernel_rfl)
   case xK =>k_is
   case xL|xM|xN|xO|BI|BJ|BK|BL|xP|xQ|xR|xS|bX =>(first | k_is | kernel_rfl)
   case fd|o2|o3|xT =>k_is
   case xU|xV|xW|xX|BM|BN|BO|BP|xY|xZ|x0|x1|aY =>(first | k_is | kernel_rfl)
   case fe|o4|o5|x2 =>k_is
   case x3|x4|x5|x6|BQ|BR|BS|BT|x7|x8|x9|ya|aZ =>(first | k_is | kernel_rfl)
   case ff|o6|o7|yb =>k_is
   case yc|yd|ye|yf|BU|BV|BW|BX|yg|yh|yi|yj|aX =>(first | k_is | kernel_rfl)
   case fg|o8|o9|yk =>k_is
   case yl|ym|yn|yo|BY|BZ|B0|B1|yp|yq|yr|ys|ax|aA =>(first | k_is | kernel_rfl)
   case fh|pa|pb|yt =>k_is
   case yu|yv|yw|yx|B2|B3|B4|B5|yy|yz|yA|yC|bS =>(first | k_is | kernel_rfl)
   case fj|pc|pd =>k_is
   case re =>(first | k_is | kernel_rfl)
   case iq|ir|ds =>k_is
   case rf|yD =>(first | k_is | kernel_rfl)
   case pe|pf|fk =>k_is
   case yE|rg =>(first | k_is | kernel_rfl)
   case it|iu|dt =>k_is
   case rh|yF =>(first | k_is | kernel_rfl)
   case pg|ph|fl =>k_is
   case yG|yH =>(first | k_is | kernel_rfl)
   case pi|pj|fm =>k_is
   case yI|ri =>(first | k_is | kernel_rfl)
   case iv|iw|du =>k_is
   case rj|rk =>(first | k_is | kernel_rfl)
   case ix|iy|dv =>k_is
   case rl|rm =>(first | k_is | kernel_rfl)
   case iz|iA|dw =>k_is
   case rn|yJ =>(first | k_is | kernel_rfl)
   case pk|pl|fn =>k_is
   case yK|yL =>(first | k_is | kernel_rfl)
   case pm|pn|fo =>k_is
   case yM|ro =>(first | k_is | kernel_rfl)
   case iB|iC|dy =>k_is
   case rp|rq =>(first | k_is | kernel_rfl)
   case iD|iE|dz =>k_is
   case rr|rs =>(first | k_is | kernel_rfl)
   case iF|iG|dB =>k_is
   case rt|ru =>(first | k_is | kernel_rfl)
   case iH|iI|dE =>k_is
   case rv|yN =>(first | k_is | kernel_rfl)
   case po|pp|fp =>k_is
   case yO|yP =>(first | k_is | kernel_rfl)
   case pq|pr|fq =>k_is
   case yQ|rw =>(first | k_is | kernel_rfl)
   case iJ|iK|dK =>k_is
   case rx|yR =>(first | k_is | kernel_rfl)
   case ps|pt|fr =>k_is
   case yS|ry =>(first | k_is | kernel_rfl)
   case iL|iM|dL =>k_is
   case rz|rA =>(first | k_is | kernel_rfl)
   case iN|iO|dN =>k_is
   case rB|yT =>(first | k_is | kernel_rfl)
   case pu|pv|ft =>k_is
   case yU|yV =>(first | k_is | kernel_rfl)
   case pw|px|fu =>k_is
   case yW|rC =>(first | k_is | kernel_rfl)
   case iP|iQ|dO =>k_is
   case rD|rE|rF|rG|yX =>(first | k_is | kernel_rfl)
   case iR|iT|aq =>k_is
   case bk|yY =>(first | k_is | kernel_rfl)
   case py|pz|fv =>k_is
   case yZ|rH =>(first | k_is | kernel_rfl)
   case iU|iW|dP =>k_is
   case rI =>(first | k_is | kernel_rfl)
   case pA =>exact rfl
   case Ao =>k_is
   case Ap =>exact rfl
   case iX =>kernel_rfl
   case pB =>exact rfl
   case Aq =>k_is
   case Ar =>exact rfl
   case iZ =>kernel_rfl
   case pC =>exact rfl
   case As =>k_is
   case At =>exact rfl
   case i0 =>kernel_rfl
   case pD =>exact rfl
   case Au =>k_is
   case Av =>exact rfl
   case i1 =>kernel_rfl
   case pE =>exact rfl
   case Aw =>k_is
   case Ax =>exact rfl
   case i2 =>kernel_rfl
   case rJ =>exact rfl
   case Bq =>k_is
   case Br =>exact rfl
   case i3 =>kernel_rfl
   case pF =>exact rfl
   case Ay =>k_is
   case Az =>exact rfl
   case i4 =>kernel_rfl
   case pG =>exact rfl
   case AA =>k_is
   case AB =>exact rfl
   case i6 =>kernel_rfl
   case pH =>exact rfl
   case AC =>k_is
   case AD =>exact rfl
   case i7 =>kernel_rfl
   case pI =>exact rfl
   case AE =>k_is
   case AF =>exact rfl
   case i8 =>kernel_rfl
   case pJ =>exact rfl
   case AG =>k_is
   case AH =>exact rfl
   case i9 =>kernel_rfl
   case pK =>exact rfl
   case AI =>k_is
   case AJ =>exact rfl
   case ja =>kernel_rfl
   case pL =>exact rfl
   case AK =>k_is
   case AL =>exact rfl
   case jb =>kernel_rfl
   case pM =>exact rfl
   case AM =>k_is
   case AN =>exact rfl
   case jc =>kernel_rfl
   case pN =>exact rfl
   case AO =>k_is
   case AP =>exact rfl
   case jd =>kernel_rfl
   case y0 =>decide
   case bb|bc|bd|ec|fw|fx =>kernel_rfl
   case z0|z1|z2|z3|z4|z5|z6|z7|z8|z9|AQ|AR|AS|AT|AU =>k_is
   case r0|r1 =>first | exact rfl | exact⟨_,rfl⟩
  obtain⟨a,T,e1⟩:=T;have e1:=e1.trans hts;have e0:=hmg.symm.trans T.m_aP;cases e0;refine' ⟨a.d_aP,?b,?t,?u,λbase kb nb hB=>My.ok_law T hB ?v⟩
  case b=>exact T.bl
  case t =>
   intro P hP;have hP:=e1.symm ▸ hP;simp only[My.tabs,map_cons,map_nil,mem_cons,not_mem_nil,or_false]at hP
   rcases hP with rfl | rfl | rfl | rfl | rfl | rfl | rfl | rfl | rfl | rfl | rfl | rfl | rfl | rfl | rfl
   .exact⟨_,T.lch_x⟩
   .exact⟨_,T.lch_O⟩
   .exact⟨_,T.lch_z⟩
   .exact⟨_,T.lch_c⟩
   .exact⟨_,T.lch_d⟩
   .exact⟨_,T.lch_b⟩
   .exact⟨_,T.lch_T⟩
   .exact⟨_,T.lch_k⟩
   .exact⟨_,T.lch_j⟩
   .exact⟨_,T.lch_C⟩
   .exact⟨_,T.lch_i⟩
   .exact⟨_,T.lch_E⟩
   .exact⟨_,T.lch_m⟩
   .exact⟨_,T.lch_y⟩
   .exact⟨_,T.lch_P⟩
  case u =>
   intro P hP;simp only[mem_cons,not_mem_nil,or_false]at hP
   rcases hP with rfl | rfl | rfl | rfl | rfl | rfl | rfl | rfl | rfl | rfl | rfl | rfl | rfl | rfl | rfl <;> kernel_rfl
  case v =>
   intro q hq;rw[<- e1];exact List.mem_map_of_mem hq
 case S=>exact λK H a ns hl hO hS=>My.law_start hl hO hS
 case C=>exact λH s e s' z=>z
